import PyProof.Rows.All
import Wide.All
import OpenK.AllK
import Wide.FinOn
import PyProof.EqAt
import PyProof.EqKinds
import PyProof.TupleCall
import KE.BitLaws
import PyProof.ZipIter
import PyProof.WalksMore
import Open.SpecLaws
import KE.OsHead
import KE.OsGo
import VbptamSpec
import PyVbptam
import PyFlatLaws
import PySem.Builtin.Int.W1All
import PySem.Challenge.RW0_oppositions_s01_answers
import PySem.Challenge.RW_oppositions_s01_answers
-- CHANGE: your row's module here, as the last of these rows
set_option Elab.async false
set_option linter.all false
set_option maxRecDepth 100000
namespace L2
open PySem PySem.Spec PyProof.Rows

abbrev Key := Sum Int Str
def keyIs : Key → Value → Bool
  | .inl k, v => Value.isInt k v
  | .inr x, v => Value.isStrOf x v
def keyH (w : World) : Key → Int
  | .inl k => hashInt k
  | .inr x => hashStr w x
theorem keyIs_shape : ∀ {k : Key} {v : Value}, keyIs k v = true → (∃ i t, k = Sum.inl i ∧ v = Value.int i t) ∨ (∃ x t, k = Sum.inr x ∧ v = Value.str x t)
  | .inl i, v, h => by
    obtain ⟨t, e⟩ := Value.isInt_shape (k := i) (v := v) h
    exact .inl ⟨i, t, rfl, e⟩
  | .inr x, v, h => by
    obtain ⟨t, e⟩ := Value.isStrOf_shape (x := x) (v := v) h
    exact .inr ⟨x, t, rfl, e⟩
theorem keyIs_int (i : Int) (t : Tok) : keyIs (.inl i) (.int i t) = true := by simp [keyIs, Value.isInt]
theorem keyIs_str (x : Str) (t : Tok) : keyIs (.inr x) (.str x t) = true := by simp [keyIs, Value.isStrOf]
theorem key_ll (a b : Int) : decide ((Sum.inl a : Key) = Sum.inl b) = (a == b) := by
  by_cases e : a = b
  · subst e; simp
  · have h : ¬ (Sum.inl a : Key) = Sum.inl b := fun q => e (Sum.inl.inj q)
    rw [decide_eq_false h]
    exact (beq_eq_false_iff_ne.mpr e).symm
theorem key_rr (a b : Str) : decide ((Sum.inr a : Key) = Sum.inr b) = decide (a = b) := by
  by_cases e : a = b
  · subst e; simp
  · have h : ¬ (Sum.inr a : Key) = Sum.inr b := fun q => e (Sum.inr.inj q)
    rw [decide_eq_false h, decide_eq_false e]
theorem key_lr (a : Int) (b : Str) : decide ((Sum.inl a : Key) = Sum.inr b) = false := decide_eq_false (fun q => nomatch q)
theorem key_rl (a : Str) (b : Int) : decide ((Sum.inr a : Key) = Sum.inl b) = false := decide_eq_false (fun q => nomatch q)

def mixKind (prog : Program) (w : World) : PySem.KeyKind prog w Key where
  is := keyIs
  hash := keyH w
  inj := fun v a b ha hb => by
    rcases keyIs_shape ha with ⟨i, t, rfl, rfl⟩ | ⟨x, t, rfl, rfl⟩
    · rcases keyIs_shape hb with ⟨j, u, rfl, e⟩ | ⟨y, u, rfl, e⟩
      · injection e with e1 _; rw [e1]
      · exact nomatch e
    · rcases keyIs_shape hb with ⟨j, u, rfl, e⟩ | ⟨y, u, rfl, e⟩
      · exact nomatch e
      · injection e with e1 _; rw [e1]
  byValue := fun k v h => by
    rcases keyIs_shape h with ⟨i, t, rfl, rfl⟩ | ⟨x, t, rfl, rfl⟩ <;> rfl
  pyHash := fun hv h => by
    rcases keyIs_shape hv with ⟨i, t, rfl, rfl⟩ | ⟨x, t, rfl, rfl⟩
    · exact wpAny_pyHash_int h
    · exact wpAny_pyHash_str h
  eqBool := fun hu hv h => by
    rcases keyIs_shape hu with ⟨i, t, rfl, rfl⟩ | ⟨x, t, rfl, rfl⟩
    · rcases keyIs_shape hv with ⟨j, u, rfl, rfl⟩ | ⟨y, u, rfl, rfl⟩
      · rw [key_ll] at h; exact wpAny_eqBool_int h
      · rw [key_lr] at h; exact SeqAt.EqAt.int_str i t y u _ _ _ _ h
    · rcases keyIs_shape hv with ⟨j, u, rfl, rfl⟩ | ⟨y, u, rfl, rfl⟩
      · rw [key_rl] at h; exact SeqAt.EqAt.str_int x t j u _ _ _ _ h
      · rw [key_rr] at h; exact wpAny_eqBool_str h
  «strs» := fun k x t v h => by
    rcases keyIs_shape h with ⟨i, u, rfl, e⟩ | ⟨y, u, rfl, e⟩
    · exact nomatch e
    · injection e with e1 _
      subst e1
      cases v <;> rfl

theorem mixKind_int (prog : Program) (w : World) (i : Int) (t : Tok) : (mixKind prog w).is (.inl i) (.int i t) = true := keyIs_int i t
theorem mixKind_str (prog : Program) (w : World) (x : Str) (t : Tok) : (mixKind prog w).is (.inr x) (.str x t) = true := keyIs_str x t
end L2

namespace L2
open PySem PySem.Spec PyProof.Rows

inductive V where
  | non | bl (b : Bool) | int (i : Int) | str (x : Str) | byt (b : Array UInt8) | flt (b : UInt64) | ref (a : Addr) | ty (n : String)
  deriving DecidableEq

def RelV : V → Value → Prop
  | .non, u => u = Value.none
  | .bl b, u => u = Value.bool b
  | .int i, u => ∃ t, u = Value.int i t
  | .str x, u => ∃ t, u = Value.str x t
  | .byt b, u => ∃ t, u = Value.bytes b t
  | .flt b, u => ∃ t, u = Value.float b t
  | .ref a, u => u = Value.ref a
  | .ty n, u => u = Value.type n

abbrev Vals : List V → List Value → Prop := Paired RelV
theorem Vals.length {xs : List V} {us : List Value} (r : Vals xs us) : xs.length = us.length := Paired.length r
theorem Vals.get : ∀ {xs : List V} {us : List Value} {i : Nat} {x : V}, Vals xs us → xs[i]? = some x → ∃ u, us[i]? = some u ∧ RelV x u
  | _, _, _, _, .nil, e => by simp at e
  | _, _, 0, _, .cons r _, e => by simp at e; subst e; exact ⟨_, rfl, r⟩
  | _, _, i + 1, x, .cons _ t, e => by
    obtain ⟨u, h1, h2⟩ := Vals.get (i := i) (x := x) t (by simpa using e)
    exact ⟨u, by simpa using h1, h2⟩
theorem Vals.set {x : V} {u : Value} (r : RelV x u) : ∀ {xs : List V} {us : List Value} (i : Nat), Vals xs us → Vals (xs.set i x) (us.set i u)
  | _, _, _, .nil => .nil
  | _, _, 0, .cons _ t => .cons r t
  | _, _, i + 1, .cons q t => .cons q (Vals.set r i t)
theorem Vals.append : ∀ {xs ys : List V} {us ws : List Value}, Vals xs us → Vals ys ws → Vals (xs ++ ys) (us ++ ws)
  | _, _, _, _, .nil, s => s
  | _, _, _, _, .cons r t, s => .cons r (Vals.append t s)
theorem Vals.take : ∀ {xs : List V} {us : List Value} (n : Nat), Vals xs us → Vals (xs.take n) (us.take n)
  | _, _, 0, _ => .nil
  | _, _, _ + 1, .nil => .nil
  | _, _, n + 1, .cons r t => .cons r (Vals.take n t)
theorem Vals.drop : ∀ {xs : List V} {us : List Value} (n : Nat), Vals xs us → Vals (xs.drop n) (us.drop n)
  | _, _, 0, r => r
  | _, _, _ + 1, .nil => .nil
  | _, _, n + 1, .cons _ t => Vals.drop n t
theorem Vals.none_of : ∀ {xs : List V} {us : List Value} {i : Nat}, Vals xs us → xs[i]? = none → us[i]? = none := fun {xs us i} r e => by
  have h1 := r.length
  have h2 : xs.length ≤ i := List.getElem?_eq_none_iff.mp e
  exact List.getElem?_eq_none_iff.mpr (by omega)

def RelO : Option V → Option Value → Prop
  | some v, some u => RelV v u
  | none, none => True
  | _, _ => False
def KV {κ : Type} : List (κ × V) → List (κ × Value) → Prop := Paired fun (p : κ × V) (q : κ × Value) => p.1 = q.1 ∧ RelV p.2 q.2

def kV : Key → V
  | .inl i => .int i
  | .inr x => .str x

inductive HO where
  /-- a list -/
  | lst (xs : List V)
  /-- a tuple (never changes) -/
  | tup (xs : List V)
  /-- a dict whose keys are ints and texts; one whose keys are tuples of ints and texts (the empty one is both) -/
  | dK (kvs : List (Key × V)) | dT (kvs : List (List Key × V))
  /-- a set of ints: its members, its size -/
  | set (S : Int → Bool) (n : Nat)
  /-- an instance of the class at C, its dict at dx, its attributes -/
  | ins (C dx : Addr) (fs : List (Str × V))
  /-- the dict of the instance at x -/
  | own (x : Addr)
  /-- the dict of an exception -/
  | xd (fs : List (Str × V))
  /-- a bound method, f of x -/
  | met (f x : Addr)
  /-- a range object lo, lo + 1, .. below hi -/
  | rng (lo hi : Int)
  /-- a thing that is known to the object (the script; a dict while a loop walks it): read, never written while it is so -/
  | frz (o : Obj) (u : HO)
  /-- a code object's table -/
  | tbl (ps : Array Value)
  /-- any other thing, by what is true of its one object (a def of one's own: SetO a S n := HO.ext fun h => ..) -/
  | ext (φ : Heap → Prop)

abbrev Hp := Addr → Option HO
def upd (H : Hp) (a : Addr) (o : HO) : Hp := fun b => if b = a then some o else H b
theorem upd_same {H : Hp} {a : Addr} {o : HO} : upd H a o a = some o := by unfold upd; rw [if_pos rfl]
theorem upd_ne {H : Hp} {a b : Addr} {o : HO} (h : b ≠ a) : upd H a o b = H b := by unfold upd; rw [if_neg h]
theorem upd_upd {H : Hp} {a : Addr} {o u : HO} : upd (upd H a o) a u = upd H a u := by
  funext b; unfold upd; split <;> rfl
theorem ne_of {H : Hp} {a b : Addr} {o u : HO} (h : H a = some o) (h' : H b = some u) (d : o ≠ u) : a ≠ b := by
  intro e; subst e; rw [h] at h'; exact d (Option.some.inj h')
theorem ne_of_none {H : Hp} {a b : Addr} {o : HO} (h : H a = some o) (h' : H b = none) : a ≠ b := by
  intro e; subst e; rw [h] at h'; cases h'

section
variable (P : Program) (w : World)
def ObjOk (H : Hp) (h : Heap) (a : Addr) : HO → Prop
  | .lst xs => xs.length ≤ sizeLine ∧ ∃ (its : List Value) (n : Nat), Vals xs its ∧ h.get? a = some { cls := .type "list", data := .seq its.toArray n }
  | .tup xs => xs.length ≤ sizeLine ∧ ∃ its : List Value, Vals xs its ∧ IsTup h a its.toArray
  | .dK kvs => kvs.length ≤ sizeLine ∧ (a == sysModules) = false ∧ ∃ vs, KV kvs vs ∧ h.DictOf (mixKind P w) a vs
  | .dT kvs => kvs.length ≤ sizeLine ∧ (a == sysModules) = false ∧ ∃ xs : List (List Key × Addr × Value),
      Paired (fun (p : List Key × V) (q : List Key × Addr × Value) => p.1 = q.1 ∧ H q.2.1 = some (.tup (p.1.map kV)) ∧ RelV p.2 q.2.2) kvs xs ∧
      ∃ o es ep, h.get? a = some o ∧ o.ExactDict ∧ o.data = .dict es ep ∧ es.toList = xs.map (entryOfKey (tupleKind (mixKind P w))) ∧ (xs.map (·.1)).Nodup
  | .set S n => h.SetOf (intKind P w) a S n
  | .ins C dx fs => H dx = some (.own a) ∧ fs.length ≤ 1000 ∧ dx ≠ a ∧ h.get? a = some (PySem.W.instObj C dx) ∧
      ∃ mA, h.Ns1 dx mA ∧ (∀ f, RelO (fs.lookup f) (mA f)) ∧ PySem.Within mA (fs.map (·.1))
  | .own _ => ∃ o, h.get? a = some o
  | .xd fs => ∃ mA, h.Ns1 a mA ∧ ∀ f, RelO (fs.lookup f) (mA f)
  | .rng lo hi => ∃ t u v, h.get? a = some { cls := .type "range", data := .fields #[.int lo t, .int hi u, .int 1 v] }
  | .frz o u => h.get? a = some o ∧ ObjOk H h a u
  | .tbl ps => h.get? a = some { cls := .none, data := .fields ps }
  | .met f x => h.get? a = some (PySem.W.methodObj (.ref f) (.ref x))
  | .ext φ => φ h ∧ (∃ o, h.get? a = some o) ∧ ∀ h1 h2 : Heap, φ h1 → (∀ o, h1.get? a = some o → h2.get? a = some o) → φ h2
def HOk (H : Hp) (h : Heap) : Prop := ∀ a o, H a = some o → ObjOk P w H h a o
end

section
variable {P : Program} {w : World} {H H' : Hp} {h h' : Heap} {a : Addr} {o : HO}
theorem ObjOk.lt (x : ObjOk P w H h a o) : a < h.objs.size := by
  cases o with
  | lst xs => obtain ⟨_, _, _, _, e⟩ := x; exact Heap.lt_size e
  | tup xs => obtain ⟨_, _, _, p⟩ := x; exact p.lt
  | dK kvs => obtain ⟨_, _, _, _, o, _, _, e, _⟩ := x; exact Heap.lt_size e
  | dT kvs => obtain ⟨_, _, _, _, o, _, _, e, _⟩ := x; exact Heap.lt_size e
  | set S n => obtain ⟨o, _, _, _, e, _⟩ := x; exact Heap.lt_size e
  | ins C dx fs => obtain ⟨_, _, _, e, _⟩ := x; exact Heap.lt_size e
  | own y => obtain ⟨_, e⟩ := x; exact Heap.lt_size e
  | xd fs => obtain ⟨_, ⟨_, _, _, e, _⟩, _⟩ := x; exact Heap.lt_size e
  | rng lo hi => obtain ⟨_, _, _, e⟩ := x; exact Heap.lt_size e
  | frz ob u => obtain ⟨e, _⟩ := x; exact Heap.lt_size e
  | tbl ps => exact Heap.lt_size (show h.get? a = some _ from x)
  | met f y => exact Heap.lt_size (show h.get? a = some _ from x)
  | ext φ => obtain ⟨_, ⟨_, e⟩, _⟩ := x; exact Heap.lt_size e
theorem Paired.mapP {α β : Type} {F G : α → β → Prop} : ∀ {l₁ : List α} {l₂ : List β}, Paired F l₁ l₂ → (∀ a b, F a b → G a b) → Paired G l₁ l₂
  | _, _, .nil, _ => .nil
  | _, _, .cons r t, f => .cons (f _ _ r) (Paired.mapP t f)
theorem ObjOk.stay (x : ObjOk P w H h a o) (k : ∀ b u, (b = a ∨ H b = some (.own a)) → h.get? b = some u → h'.get? b = some u)
    (ho : ∀ b, H b = some (.own a) → H' b = some (.own a)) (ht : ∀ b xs, H b = some (.tup xs) → H' b = some (.tup xs)) : ObjOk P w H' h' a o := by
  induction o with
  | lst xs => obtain ⟨z, its, n, r, e⟩ := x; exact ⟨z, its, n, r, k _ _ (.inl rfl) e⟩
  | tup xs => obtain ⟨z, its, r, ob, e, c⟩ := x; exact ⟨z, its, r, ob, k _ _ (.inl rfl) e, c⟩
  | dK kvs => obtain ⟨z, y, vs, r, ob, es, ep, e, c⟩ := x; exact ⟨z, y, vs, r, ob, es, ep, k _ _ (.inl rfl) e, c⟩
  | dT kvs =>
    obtain ⟨z, y, xs, r, ob, es, ep, e, c⟩ := x
    exact ⟨z, y, xs, Paired.mapP r fun p q z => ⟨z.1, ht _ _ z.2.1, z.2.2⟩, ob, es, ep, k _ _ (.inl rfl) e, c⟩
  | set S n => obtain ⟨ob, es, ep, t, e, c⟩ := x; exact ⟨ob, es, ep, t, k _ _ (.inl rfl) e, c⟩
  | ins C dx fs =>
    obtain ⟨d, z, ne, e, mA, ⟨od, es, ep, e2, c⟩, r⟩ := x
    exact ⟨ho _ d, z, ne, k _ _ (.inl rfl) e, mA, ⟨od, es, ep, k _ _ (.inr d) e2, c⟩, r⟩
  | own y => obtain ⟨ob, e⟩ := x; exact ⟨ob, k _ _ (.inl rfl) e⟩
  | xd fs => obtain ⟨mA, ⟨od, es, ep, e, c⟩, r⟩ := x; exact ⟨mA, ⟨od, es, ep, k _ _ (.inl rfl) e, c⟩, r⟩
  | rng lo hi => obtain ⟨t, u, v, e⟩ := x; exact ⟨t, u, v, k _ _ (.inl rfl) e⟩
  | frz ob u ih => obtain ⟨e, q⟩ := x; exact ⟨k _ _ (.inl rfl) e, ih q⟩
  | tbl ps =>
    have e : h.get? a = some { cls := .none, data := .fields ps } := x
    show h'.get? a = some { cls := .none, data := .fields ps }
    exact k a _ (.inl rfl) e
  | met f y =>
    have e : h.get? a = some (PySem.W.methodObj (.ref f) (.ref y)) := x
    show h'.get? a = some (PySem.W.methodObj (.ref f) (.ref y))
    exact k a _ (.inl rfl) e
  | ext φ => obtain ⟨p, ⟨o, e⟩, st⟩ := x; exact ⟨st _ _ p fun o q => k _ _ (.inl rfl) q, ⟨o, k _ _ (.inl rfl) e⟩, st⟩
theorem HOk.lt (x : HOk P w H h) (e : H a = some o) : a < h.objs.size := (x a o e).lt
theorem HOk.fresh (x : HOk P w H h) (e : h.objs.size ≤ a) : H a = none := by
  cases q : H a with
  | none => rfl
  | some u => exact absurd (Nat.lt_of_lt_of_le (x.lt q) e) (Nat.lt_irrefl _)
theorem HOk.kept (x : HOk P w H h) (k : ∀ b u, h.get? b = some u → h'.get? b = some u) : HOk P w H h' := fun a o e =>
  (x a o e).stay (fun b u _ q => k b u q) (fun _ q => q) fun _ _ q => q
theorem HOk.laid (x : HOk P w H h) (k : ∀ b u, h.get? b = some u → h'.get? b = some u) (hp : h.objs.size ≤ a) (new : ObjOk P w (upd H a o) h' a o) : HOk P w (upd H a o) h' := fun b u e => by
  have hn := x.fresh hp
  by_cases hb : b = a
  · subst hb; rw [upd_same] at e; cases e; exact new
  · rw [upd_ne hb] at e
    exact (x b u e).stay (fun c v _ q => k c v q) (fun c q => by rw [upd_ne (ne_of_none q hn)]; exact q) fun c xs q => by rw [upd_ne (ne_of_none q hn)]; exact q
end

def Rd (H : Hp) (a : Addr) (u : HO) : Prop := H a = some u ∨ ∃ o, H a = some (.frz o u)
theorem Rd.ok {P : Program} {w : World} {H : Hp} {h : Heap} {a : Addr} {u : HO} (r : Rd H a u) (x : HOk P w H h) : ObjOk P w H h a u := by
  rcases r with r | ⟨o, r⟩
  · exact x a u r
  · obtain ⟨_, q⟩ := x a _ r
    exact q
def Mut : Option HO → Prop
  | some (.lst _) => True
  | some (.dK _) => True
  | some (.dT _) => True
  | some (.set _ _) => True
  | some (.ins _ _ _) => True
  | some (.ext _) => True
  | _ => False
section
variable {P : Program} {w : World} {H : Hp} {h h' : Heap} {x e : Addr} {o' : HO}
theorem HOk.write (ok : HOk P w H h) (mu : Mut (H x)) (he : e = x ∨ H e = some (.own x)) (k : ∀ b u, b ≠ e → h.get? b = some u → h'.get? b = some u) (heo : ∃ u, h'.get? e = some u)
    (new : ObjOk P w (upd H x o') h' x o') : HOk P w (upd H x o') h' := fun b u q => by
  have nown : ∀ c y, H c = some (.own y) → c ≠ x := fun c y r z => by subst z; rw [r] at mu; exact mu
  have ntup : ∀ c xs, H c = some (.tup xs) → c ≠ x := fun c xs r z => by subst z; rw [r] at mu; exact mu
  by_cases hb : b = x
  · subst hb; rw [upd_same] at q; cases q; exact new
  · rw [upd_ne hb] at q
    by_cases hbe : b = e
    · have q' : H b = some (.own x) := by
        rcases he with z | z
        · exact absurd (hbe.trans z) hb
        · rw [hbe]; exact z
      rw [q] at q'; cases q'
      obtain ⟨v, hv⟩ := heo
      exact ⟨v, by rw [hbe]; exact hv⟩
    · refine (ok b u q).stay (fun c v hc r => k c v ?_ r) (fun c r => by rw [upd_ne (nown c b r)]; exact r) fun c xs r => by rw [upd_ne (ntup c xs r)]; exact r
      rcases hc with rfl | hc
      · exact hbe
      · rintro rfl
        rcases he with z | z
        · exact nown c b hc z
        · rw [hc] at z; cases z; exact hb rfl
end

structure Un (fs ex : List Addr) (H H' : Hp) (h h' : Heap) : Prop where
  keep : ∀ b o, h.get? b = some o → H b = none → b ∉ fs → b ∉ ex → h'.get? b = some o
  slot : ∀ b o, h.get? b = some o → H b = none → b ∈ fs → b ∉ ex → ∃ sl, h'.get? b = some { o with slots := sl }
  free : ∀ b o, h.get? b = some o → H b = none → b ∉ ex → H' b = none
  there : ∀ b o, h.get? b = some o → b ∉ ex → ∃ o', h'.get? b = some o'
  tups : ∀ b xs, H b = some (.tup xs) → H' b = some (.tup xs)
  frzs : ∀ b o u, H b = some (.frz o u) → H' b = some (.frz o u)
  tbls : ∀ b ps, H b = some (.tbl ps) → ∃ more, H' b = some (.tbl (ps ++ more))
section
variable {fs fs' ex ex' : List Addr} {H H1 H2 : Hp} {h h1 h2 h' : Heap} {a x e : Addr} {o : HO}
theorem Un.any (u : Un fs ex H H1 h h1) {b : Addr} {ob : Obj} (q : h.get? b = some ob) (n : H b = none) (hx : b ∉ ex) : ∃ sl, h1.get? b = some { ob with slots := sl } := by
  by_cases hb : b ∈ fs
  · exact u.slot b ob q n hb hx
  · exact ⟨ob.slots, u.keep b ob q n hb hx⟩
theorem Un.kept (k : ∀ b u, h.get? b = some u → h'.get? b = some u) : Un fs ex H H h h' :=
  ⟨fun b ob q _ _ _ => k b ob q, fun b ob q _ _ _ => ⟨ob.slots, k b ob q⟩, fun _ _ _ n _ => n, fun b ob q _ => ⟨ob, k b ob q⟩, fun _ _ q => q, fun _ _ _ q => q, fun _ ps q => ⟨#[], by rw [q]; simp⟩⟩
theorem Un.refl : Un fs ex H H h h := Un.kept fun _ _ q => q
theorem Un.laid (k : ∀ b u, h.get? b = some u → h'.get? b = some u) (hp : h.objs.size ≤ a) (hn : H a = none) : Un fs ex H (upd H a o) h h' where
  keep := fun b u q _ _ _ => k b u q
  slot := fun b u q _ _ _ => ⟨u.slots, k b u q⟩
  free := fun b u q n _ => by rw [upd_ne (Nat.ne_of_lt (Nat.lt_of_lt_of_le (Heap.lt_size q) hp))]; exact n
  there := fun b u q _ => ⟨u, k b u q⟩
  tups := fun b xs q => by rw [upd_ne (ne_of_none q hn)]; exact q
  frzs := fun b u xs q => by rw [upd_ne (ne_of_none q hn)]; exact q
  tbls := fun b ps q => ⟨#[], by rw [upd_ne (ne_of_none q hn), q]; simp⟩
theorem Un.write (mu : Mut (H x)) (he : e = x ∨ H e = some (.own x)) (k : ∀ b u, b ≠ e → h.get? b = some u → h'.get? b = some u) (heo : ∃ u, h'.get? e = some u) : Un fs ex H (upd H x o) h h' := by
  have hx : ∀ b, H b = none → b ≠ x := fun b n z => by subst z; rw [n] at mu; exact mu
  have hb : ∀ b, H b = none → b ≠ e := fun b n z => by
    subst z
    rcases he with r | r
    · exact hx b n r
    · rw [n] at r; cases r
  have hm : ∀ b u, H b = some u → ¬ Mut (some u) → b ≠ x := fun b u q nm z => by subst z; rw [q] at mu; exact nm mu
  refine ⟨fun b u q n _ _ => k b u (hb b n) q, fun b u q n _ _ => ⟨u.slots, k b u (hb b n) q⟩, fun b u q n _ => by rw [upd_ne (hx b n)]; exact n, fun b u q _ => ?_,
    fun b xs q => by rw [upd_ne (hm b _ q fun z => z)]; exact q, fun b u xs q => by rw [upd_ne (hm b _ q fun z => z)]; exact q, fun b ps q => ⟨#[], by rw [upd_ne (hm b _ q fun z => z), q]; simp⟩⟩
  by_cases hbe : b = e
  · subst hbe; exact heo
  · exact ⟨u, k b u hbe q⟩
end

def trk (h : Heap) (H : Hp) : List Addr := (List.range h.objs.size).filter fun a => (H a).isSome
def hidT (h : Heap) (H : Hp) : Heap := PySem.W.hideAll h (trk h H)
theorem hidT_size (h : Heap) (H : Hp) : (hidT h H).objs.size = h.objs.size := PySem.W.hideAll_size _ _
theorem hidT_get {h : Heap} {H : Hp} {b : Addr} {o : Obj} (e : h.get? b = some o) (n : H b = none) : (hidT h H).get? b = some o :=
  PySem.W.hideAll_get _ e fun hm => by
    have q : (H b).isSome = true := (List.mem_filter.mp hm).2
    rw [n] at q; simp at q
theorem of_hidT {h : Heap} {H : Hp} {b : Addr} {o : Obj} (e : (hidT h H).get? b = some o) : h.get? b = some o ∧ H b = none := by
  have e' : h.get? b = some o := PySem.W.of_hideAll (trk h H) e
  refine ⟨e', ?_⟩
  cases q : H b with
  | none => rfl
  | some x =>
    have hm : b ∈ trk h H := List.mem_filter.mpr ⟨List.mem_range.mpr (Heap.lt_size e'), by simp [q]⟩
    have z : (hidT h H).get? b = none := PySem.W.hideAll_none (trk h H) hm
    rw [z] at e; cases e

end L2

namespace L2
open PySem PySem.Spec PyProof.Rows

structure Mod (K : PySem.W.Frag) (mg : Str → Option Value) (base : Heap) : Prop where
  kin : K.In base
  glob : base.Ns mainGlobals mg
  blt : ∃ mb, base.Ns builtinsNs mb ∧ ∀ x : Str, x ≠ "__name__" → mb x = bootBuiltins x
  nolimit : base.NoLimit

structure Cx where
  prog : Program
  w : World
  K : PySem.W.Frag
  mg : Str → Option Value
  base : Heap
  A : Around
  N : List Str
  s_0 : Shared
  H_0 : Hp
  env : Env
  outer : List Env
  stack : List Env
  ex : List Addr
  fn : Str → Bool
  calm : Bool
  pn : List (Addr × Obj)
  xe : Value → Shared → Prop
def frs (l : List Env) : List Addr := l.filterMap (·.frame)
abbrev Cx.fs (X : Cx) : List Addr := frs X.outer

def Vis (sc : Scope) (x : Str) : Prop := sc.names.lookup x = some .local ∨ sc.names.lookup x = some .cell ∨ sc.names.lookup x = some .free
def Loc (sc : Scope) (x : Str) : Prop := sc.names.lookup x = some .local ∨ sc.names.lookup x = some .cell
def Look (env : Env) (h : Heap) (m : Str → Option Value) (x : Str) (u : Value) : Prop :=
  (env.kindOf x = some .local ∧ m x = some u) ∨ ((env.kindOf x = some .cell ∨ env.kindOf x = some .free) ∧ ∃ c, env.cells.lookup x = some c ∧ h.IsCell c (some u))

structure Cx.Ok (X : Cx) : Prop where
  mod : Mod X.K X.mg X.base
  kind : X.env.scope.kind = .function
  glob : X.env.globals = mainGlobals
  blt : X.env.builtins = builtinsNs
  above : X.s_0.heap.objs.size ≤ X.env.locals
  inj : ∀ x y c, X.env.cells.lookup x = some c → X.env.cells.lookup y = some c → x = y
  has : ∀ x, (X.env.kindOf x = some .cell ∨ X.env.kindOf x = some .free) → ∃ c, X.env.cells.lookup x = some c
  cab : ∀ x c, X.fn x = true → X.env.cells.lookup x = some c → X.s_0.heap.objs.size ≤ c
  hd : X.calm = true → X.A.handled = none
  frames : X.A.frames = some X.stack
  stk : X.stack = X.outer ∨ (X.stack = X.env :: X.outer ∧ X.env.frame = some X.env.locals)
  exf : ∀ b ∈ X.ex, b ≠ X.env.locals ∧ ∀ x c, X.env.cells.lookup x = some c → c ≠ b
  bs : ∀ b o, X.base.get? b = some o → X.s_0.heap.get? b = some o ∧ X.H_0 b = none
  bsz : X.base.objs.size ≤ X.s_0.heap.objs.size
  noex : ∀ b o, X.base.get? b = some o → b ∉ X.ex
  exfs : ∀ b ∈ X.ex, b ∉ X.fs
  funs : X.s_0.heap.FunFrames X.base X.outer
  frf : ∀ b ∈ X.fs, X.H_0 b = none

structure Inv (X : Cx) (pins : List (Addr × Obj)) (σ : List (Option V)) (H : Hp) (s : Shared) : Prop where
  ok : X.Ok
  os : s.os = X.s_0.os
  bare : AllBare s.gens
  base : Un X.fs X.ex X.H_0 H X.s_0.heap s.heap
  loc : ∃ m, s.heap.Ns X.env.locals m ∧ ∀ (i : Nat) (x : Str) (v : V), X.N[i]? = some x → σ[i]? = some (some v) → Vis X.env.scope x → ∃ u, RelV v u ∧ Look X.env s.heap m x u
  cell : ∀ x c, X.env.cells.lookup x = some c → ∃ v, s.heap.IsCell c v
  free : H X.env.locals = none
  freeC : ∀ x c, X.env.cells.lookup x = some c → H c = none
  pin : ∀ p ∈ X.pn ++ pins, s.heap.get? p.1 = some p.2 ∧ H p.1 = none ∧ p.1 ≠ X.env.locals ∧ p.1 ∉ X.fs ∧ ∀ v, p.2.data ≠ .cell v
  hok : HOk X.prog X.w H s.heap
  len : σ.length = X.N.length

section
variable {X : Cx} {pins : List (Addr × Obj)} {σ : List (Option V)} {H H' : Hp} {s : Shared} {h' : Heap}

theorem Cx.Ok.nofr (ok : X.Ok) {b : Addr} {o : Obj} (e : X.base.get? b = some o) : b ∉ X.fs := fun hb => by
  have := (ok.funs.mem hb).1
  rw [e] at this; cases this
theorem Inv.bs (I : Inv X pins σ H s) : ∀ b o, X.base.get? b = some o → s.heap.get? b = some o ∧ H b = none := fun b o e =>
  ⟨I.base.keep b o (I.ok.bs b o e).1 (I.ok.bs b o e).2 (I.ok.nofr e) (I.ok.noex b o e), I.base.free b o (I.ok.bs b o e).1 (I.ok.bs b o e).2 (I.ok.noex b o e)⟩
theorem Inv.bk (I : Inv X pins σ H s) : ∀ b o, X.base.get? b = some o → s.heap.get? b = some o := fun b o e => (I.bs b o e).1
theorem Inv.mod (I : Inv X pins σ H s) : Mod X.K X.mg X.base := I.ok.mod
theorem Inv.kIn (I : Inv X pins σ H s) : X.K.In s.heap := I.ok.mod.kin.keeps I.bk
theorem Inv.fr (I : Inv X pins σ H s) : ∃ m, Fr X.base X.env.locals s.heap m :=
  let ⟨m, hn, _⟩ := I.loc
  ⟨m, hn, I.bk, Nat.le_trans I.ok.bsz I.ok.above⟩
theorem Inv.lt (I : Inv X pins σ H s) : X.env.locals < s.heap.objs.size := let ⟨_, hn, _⟩ := I.loc; hn.lt
theorem Inv.sz (I : Inv X pins σ H s) : X.s_0.heap.objs.size ≤ s.heap.objs.size := Nat.le_trans I.ok.above (Nat.le_of_lt I.lt)
theorem Inv.nofs (I : Inv X pins σ H s) {a : Addr} (h : s.heap.objs.size ≤ a) : a ∉ X.fs := fun hb => by
  obtain ⟨_, o, ho, _⟩ := I.ok.funs.mem hb
  exact absurd (Nat.lt_of_lt_of_le (Heap.lt_size ho) (Nat.le_trans I.sz h)) (Nat.lt_irrefl _)
theorem Inv.cne (I : Inv X pins σ H s) : ∀ x c, X.env.cells.lookup x = some c → c ≠ X.env.locals := fun x c e z => by
  obtain ⟨v, o, ho, hd⟩ := I.cell x c e
  obtain ⟨m, ⟨o', es, ep, ho', hd', _⟩, _⟩ := I.loc
  rw [z, ho'] at ho; cases ho; rw [hd'] at hd; cases hd
theorem Inv.funs (I : Inv X pins σ H s) : s.heap.FunFrames X.base X.outer := by
  have all : ∀ (l : List Env), (∀ b ∈ frs l, b ∈ X.fs) → X.s_0.heap.FunFrames X.base l → s.heap.FunFrames X.base l := by
    intro l
    induction l with
    | nil => intro _ _; trivial
    | cons env r ih =>
      intro hs hl
      obtain ⟨hk, ⟨L, o, hf, hn, ho, hd⟩, hr⟩ := hl
      have hL : L ∈ X.fs := hs L (by unfold frs; rw [List.filterMap_cons, hf]; exact List.mem_cons_self)
      obtain ⟨sl, e⟩ := I.base.slot L o ho (I.ok.frf L hL) hL fun z => I.ok.exfs L z hL
      exact ⟨hk, ⟨L, _, hf, hn, e, hd⟩, ih (fun b hb => hs b (by unfold frs; rw [List.filterMap_cons, hf]; exact List.mem_cons_of_mem _ hb)) hr⟩
  exact all X.outer (fun _ hb => hb) I.ok.funs

theorem Inv.stack (I : Inv X pins σ H s) : s.heap.FunFrames X.base X.stack := by
  rcases I.ok.stk with e | ⟨e, hf⟩
  · rw [e]; exact I.funs
  · rw [e]
    obtain ⟨m, hn, _⟩ := I.loc
    refine .cons (by rw [I.ok.kind]; decide) hf hn ?_ I.funs
    exact Heap.get?_none_of_le (Nat.le_trans I.ok.bsz I.ok.above)
theorem Inv.stkSub (I : Inv X pins σ H s) : ∀ b ∈ frs X.stack, b ∈ X.env.locals :: X.fs := fun b hb => by
  rcases I.ok.stk with e | ⟨e, hf⟩
  · rw [e] at hb; exact List.mem_cons_of_mem _ hb
  · rw [e] at hb
    unfold frs at hb
    rw [List.filterMap_cons, hf] at hb
    exact hb
theorem Inv.stkFree (I : Inv X pins σ H s) : ∀ b ∈ frs X.stack, H b = none := fun b hb => by
  rcases List.mem_cons.mp (I.stkSub b hb) with e | hb
  · rw [e]; exact I.free
  · obtain ⟨_, o, ho, _⟩ := I.ok.funs.mem hb
    exact I.base.free b o ho (I.ok.frf b hb) fun z => I.ok.exfs b z hb

theorem Inv.step {g' : Array GenState} {t' : Nat} {d' : Drawn} {ch : List Addr} (I : Inv X pins σ H s)
    (hch : ∀ b ∈ ch, (b ∈ X.ex ∨ X.s_0.heap.objs.size ≤ b) ∧ b ≠ X.env.locals ∧ (∀ x c, X.env.cells.lookup x = some c → c ≠ b) ∧ ∀ p ∈ X.pn ++ pins, p.1 ≠ b)
    (keep : ∀ b o, b ≠ X.env.locals → b ∉ X.fs → b ∉ ch → s.heap.get? b = some o → H b = none → h'.get? b = some o)
    (slot : ∀ b o, b ≠ X.env.locals → b ∈ X.fs → b ∉ ch → s.heap.get? b = some o → H b = none → ∃ sl, h'.get? b = some { o with slots := sl }) (free : ∀ b o, b ∉ ch → s.heap.get? b = some o → H b = none → H' b = none)
    (there : ∀ b o, b ∉ ch → s.heap.get? b = some o → ∃ o', h'.get? b = some o')
    (tups : ∀ b xs, H b = some (.tup xs) → H' b = some (.tup xs)) (frzs : ∀ b o u, H b = some (.frz o u) → H' b = some (.frz o u)) (tbls : ∀ b ps, H b = some (.tbl ps) → ∃ more, H' b = some (.tbl (ps ++ more)))
    (ns : ∀ m, s.heap.Ns X.env.locals m → h'.Ns X.env.locals m) (hok : HOk X.prog X.w H' h') (hg : AllBare g') :
    Inv X pins σ H' { s with heap := h', gens := g', drawn := d', toks := t' } := by
  have neL : ∀ b o, X.s_0.heap.get? b = some o → b ≠ X.env.locals := fun b o e => Nat.ne_of_lt (Nat.lt_of_lt_of_le (Heap.lt_size e) I.ok.above)
  have neC : ∀ b o, X.s_0.heap.get? b = some o → b ∉ X.ex → b ∉ ch := fun b o e hx hb => by
    rcases (hch b hb).1 with z | z
    · exact hx z
    · exact absurd (Nat.lt_of_lt_of_le (Heap.lt_size e) z) (Nat.lt_irrefl _)
  have cellK : ∀ x c, X.env.cells.lookup x = some c → ∀ v, s.heap.IsCell c v → h'.IsCell c v := fun x c e v ⟨o, ho, hd⟩ => by
    have nch : c ∉ ch := fun z => (hch c z).2.2.1 x c e rfl
    by_cases hc : c ∈ X.fs
    · obtain ⟨sl, q⟩ := slot c o (I.cne x c e) hc nch ho (I.freeC x c e)
      exact ⟨_, q, hd⟩
    · exact ⟨o, keep c o (I.cne x c e) hc nch ho (I.freeC x c e), hd⟩
  refine ⟨I.ok, I.os, hg, ⟨fun b o e n hb hx => ?_, fun b o e n hb hx => ?_, fun b o e n hx => ?_, fun b o e hx => ?_, fun b xs e => tups b xs (I.base.tups b xs e), fun b o xs e => frzs b o xs (I.base.frzs b o xs e), fun b ps e => ?_⟩, ?_, fun x c e => ?_, ?_, fun x c e => ?_, fun p hp => ?_, hok, I.len⟩
  · exact keep b o (neL b o e) hb (neC b o e hx) (I.base.keep b o e n hb hx) (I.base.free b o e n hx)
  · obtain ⟨sl, e1⟩ := I.base.slot b o e n hb hx
    obtain ⟨sl', e2⟩ := slot b _ (neL b o e) hb (neC b o e hx) e1 (I.base.free b o e n hx)
    exact ⟨sl', e2⟩
  · obtain ⟨o', e1⟩ := I.base.there b o e hx
    exact free b o' (neC b o e hx) e1 (I.base.free b o e n hx)
  · obtain ⟨o', e1⟩ := I.base.there b o e hx
    exact there b o' (neC b o e hx) e1
  · obtain ⟨m1, e1⟩ := I.base.tbls b ps e
    obtain ⟨m2, e2⟩ := tbls b _ e1
    exact ⟨m1 ++ m2, by rw [e2, Array.append_assoc]⟩
  · obtain ⟨m, hn, hl⟩ := I.loc
    refine ⟨m, ns m hn, fun i x v e1 e2 e3 => ?_⟩
    obtain ⟨u, r, l⟩ := hl i x v e1 e2 e3
    refine ⟨u, r, ?_⟩
    rcases l with l | ⟨k, c, e, z⟩
    · exact .inl l
    · exact .inr ⟨k, c, e, cellK x c e _ z⟩
  · obtain ⟨v, z⟩ := I.cell x c e
    exact ⟨v, cellK x c e v z⟩
  · obtain ⟨m, ⟨o, _, _, ho, _⟩, _⟩ := I.loc
    exact free _ o (fun z => (hch _ z).2.1 rfl) ho I.free
  · obtain ⟨v, o, ho, hd⟩ := I.cell x c e
    exact free c o (fun z => (hch c z).2.2.1 x c e rfl) ho (I.freeC x c e)
  · obtain ⟨e, n, ne, nf, d⟩ := I.pin p hp
    have nch : p.1 ∉ ch := fun z => (hch p.1 z).2.2.2 p hp rfl
    exact ⟨keep p.1 p.2 ne nf nch e n, free p.1 p.2 nch e n, ne, nf, d⟩
theorem Inv.un {t' : Nat} (I : Inv X pins σ H s) (u : Un X.fs [] H H' s.heap h') (hok : HOk X.prog X.w H' h') : Inv X pins σ H' { s with heap := h', toks := t' } := by
  obtain ⟨m, ⟨o, es, ep, ho, r⟩, _⟩ := id I.loc
  obtain ⟨sl, hL⟩ := u.any ho I.free (by simp)
  exact I.step (g' := s.gens) (d' := s.drawn) (ch := []) (fun _ z => nomatch z) (fun b o _ hb _ e n => u.keep b o e n hb (by simp)) (fun b o _ hb _ e n => u.slot b o e n hb (by simp)) (fun b o _ e n => u.free b o e n (by simp)) (fun b o _ e => u.there b o e (by simp)) u.tups u.frzs u.tbls (fun m' hm => by
    obtain ⟨o', es', ep', ho', r'⟩ := hm
    rw [ho] at ho'; cases ho'
    exact ⟨_, es', ep', hL, r'⟩) hok I.bare
theorem Inv.call {g' : Array GenState} {t' : Nat} {d' : Drawn} {ch : List Addr} (I : Inv X pins σ H s) (u : Un (frs X.stack) ch H H' s.heap h') (hok : HOk X.prog X.w H' h') (hg : AllBare g')
    (hch : ∀ b ∈ ch, (b ∈ X.ex ∨ X.s_0.heap.objs.size ≤ b) ∧ b ≠ X.env.locals ∧ (∀ x c, X.env.cells.lookup x = some c → c ≠ b) ∧ ∀ p ∈ X.pn ++ pins, p.1 ≠ b) :
    Inv X pins σ H' { s with heap := h', gens := g', drawn := d', toks := t' } := by
  obtain ⟨m, ⟨o, es, ep, ho, r⟩, _⟩ := id I.loc
  obtain ⟨sl, hL⟩ := u.any ho I.free fun z => (hch _ z).2.1 rfl
  exact I.step (ch := ch) hch (fun b o hL hb hc e n => u.keep b o e n (fun z => (List.mem_cons.mp (I.stkSub b z)).elim hL hb) hc) (fun b o _ _ hc e n => u.any e n hc) (fun b o hc e n => u.free b o e n hc) (fun b o hc e => u.there b o e hc) u.tups u.frzs u.tbls (fun m' hm => by
    obtain ⟨o', es', ep', ho', r'⟩ := hm
    rw [ho] at ho'; cases ho'
    exact ⟨_, es', ep', hL, r'⟩) hok hg
theorem Inv.turned {t' : Nat} {it : Addr} (I : Inv X pins σ H s) (k : ∀ b o, b ≠ it → s.heap.get? b = some o → h'.get? b = some o) (hn : H it = none) (hL : it ≠ X.env.locals)
    (h1 : it ∈ X.ex ∨ X.s_0.heap.objs.size ≤ it) (h2 : ∀ x c, X.env.cells.lookup x = some c → c ≠ it) (h3 : ∀ p ∈ X.pn ++ pins, p.1 ≠ it) : Inv X pins σ H { s with heap := h', toks := t' } := by
  have nit : ∀ b u, H b = some u → b ≠ it := fun b u e z => by rw [z, hn] at e; cases e
  refine I.step (g' := s.gens) (d' := s.drawn) (ch := [it]) (fun b hb => ?_) (fun b o _ _ hc e _ => k b o (fun z => hc (by simp [z])) e) (fun b o _ _ hc e _ => ⟨o.slots, k b o (fun z => hc (by simp [z])) e⟩) (fun _ _ _ _ n => n)
    (fun b o hc e => ⟨o, k b o (fun z => hc (by simp [z])) e⟩) (fun _ _ e => e) (fun _ _ _ e => e) (fun b ps e => ⟨#[], by rw [e]; simp⟩) (fun m hm => ?_) (fun b u e => ?_) I.bare
  · have e : b = it := by simpa using hb
    subst e
    exact ⟨h1, hL, h2, h3⟩
  · obtain ⟨o, es, ep, ho, r⟩ := hm
    exact ⟨o, es, ep, k _ o (Ne.symm hL) ho, r⟩
  · refine (I.hok b u e).stay (fun c v hc q => k c v ?_ q) (fun _ q => q) fun _ _ q => q
    rcases hc with z | z
    · rw [z]; exact nit b u e
    · exact nit c _ z
theorem Inv.tok (I : Inv X pins σ H s) (t : Nat) : Inv X pins σ H { s with toks := t } := I.un (h' := s.heap) (t' := t) Un.refl I.hok
theorem Inv.kept {t' : Nat} (I : Inv X pins σ H s) (k : ∀ b u, s.heap.get? b = some u → h'.get? b = some u) : Inv X pins σ H { s with heap := h', toks := t' } := I.un (Un.kept k) (I.hok.kept k)
theorem Inv.laid {a : Addr} {o : HO} {t' : Nat} (I : Inv X pins σ H s) (k : ∀ b u, s.heap.get? b = some u → h'.get? b = some u) (hp : s.heap.objs.size ≤ a) (new : ObjOk X.prog X.w (upd H a o) h' a o) :
    Inv X pins σ (upd H a o) { s with heap := h', toks := t' } := I.un (Un.laid k hp (I.hok.fresh hp)) (I.hok.laid k hp new)
theorem Inv.write {x e : Addr} {o : HO} {t' : Nat} (I : Inv X pins σ H s) (mu : Mut (H x)) (he : e = x ∨ H e = some (.own x)) (k : ∀ b u, b ≠ e → s.heap.get? b = some u → h'.get? b = some u) (heo : ∃ u, h'.get? e = some u)
    (new : ObjOk X.prog X.w (upd H x o) h' x o) : Inv X pins σ (upd H x o) { s with heap := h', toks := t' } := I.un (Un.write mu he k heo) (I.hok.write mu he k heo new)
theorem Inv.weak {σ' : List (Option V)} (I : Inv X pins σ H s) (hl : σ'.length = σ.length) (w : ∀ (i : Nat) v, σ'[i]? = some (some v) → σ[i]? = some (some v)) : Inv X pins σ' H s :=
  ⟨I.ok, I.os, I.bare, I.base, let ⟨m, hn, hl'⟩ := I.loc; ⟨m, hn, fun i x v e1 e2 e3 => hl' i x v e1 (w i v e2) e3⟩, I.cell, I.free, I.freeC, I.pin, I.hok, hl.trans I.len⟩
theorem Inv.pins_of {pins' : List (Addr × Obj)} (I : Inv X pins σ H s) (h : ∀ p ∈ pins', s.heap.get? p.1 = some p.2 ∧ H p.1 = none ∧ p.1 ≠ X.env.locals ∧ p.1 ∉ X.fs ∧ ∀ v, p.2.data ≠ .cell v) : Inv X pins' σ H s :=
  ⟨I.ok, I.os, I.bare, I.base, I.loc, I.cell, I.free, I.freeC, fun p hp => (List.mem_append.mp hp).elim (fun z => I.pin p (List.mem_append_left _ z)) (h p), I.hok, I.len⟩

theorem nodup_ix {N : List Str} (hN : N.Nodup) {i j : Nat} {x : Str} (a : N[i]? = some x) (b : N[j]? = some x) : i = j := by
  obtain ⟨h1, e1⟩ := List.getElem?_eq_some_iff.mp a
  obtain ⟨h2, e2⟩ := List.getElem?_eq_some_iff.mp b
  exact (List.getElem_inj hN).mp (e1.trans e2.symm)

theorem store_ok2 {M : Model} {A : Around} {E : Value → Shared → Prop} {i : Nat} {x : Str} {v : V} {u : Value} {Q : Unit → Shared → Prop} (I : Inv X pins σ H s) (hN : X.N.Nodup) (hi : X.N[i]? = some x) (hx : Loc X.env.scope x) (r : RelV v u)
    (h : ∀ s', Inv X pins (σ.set i (some v)) H s' → (∃ a, Heap.SameBut a s.heap s'.heap ∧ (a = X.env.locals ∨ X.env.cells.lookup x = some a)) → Q () s') (hf : X.fn x = true ∨ X.env.scope.names.lookup x = some .local := by first | exact .inl rfl | exact .inr rfl | assumption) : wpAny M A (storeName X.env x u) Q E s := by
  obtain ⟨m, hn, hl⟩ := id I.loc
  have hcls : (X.env.scope.kind == .class || (X.env.scope.kind == .module && X.env.locals != X.env.globals)) = false := by rw [I.ok.kind]; rfl
  have hiσ : i < σ.length := by rw [I.len]; exact (List.getElem?_eq_some_iff.mp hi).1
  have cne := I.cne
  have tracked : ∀ {a : Addr} {h' : Heap}, (∃ o, s.heap.get? a = some o ∧ H a = none) → Heap.SameBut a s.heap h' → HOk X.prog X.w H h' := fun {a h'} ha hs b ob e => by
    obtain ⟨_, _, hfree⟩ := ha
    refine (I.hok b ob e).stay (fun c w' hc q => (hs.2 c ?_).trans q) (fun _ q => q) fun _ _ q => q
    rintro rfl
    rcases hc with rfl | hc
    · rw [hfree] at e; cases e
    · rw [hfree] at hc; cases hc
  rcases hx with hk | hk
  · refine wpAny_storeName_local hk hn (fun h' hn' hs => ?_) hcls
    obtain ⟨oL, _, _, hoL, _⟩ := id hn
    refine h _ ⟨I.ok, I.os, I.bare, ⟨fun b o e n hb hx => ?_, fun b o e n hb hx => ?_, I.base.free, fun b o e hx => ?_, I.base.tups, I.base.frzs, I.base.tbls⟩, ⟨_, hn', fun j y v' e1 e2 e3 => ?_⟩, fun y c e => ?_, I.free, I.freeC, fun p hp => ?_, tracked ⟨oL, hoL, I.free⟩ hs, by simpa using I.len⟩ ⟨_, hs, .inl rfl⟩
    · exact (hs.2 b (Nat.ne_of_lt (Nat.lt_of_lt_of_le (Heap.lt_size e) I.ok.above))).trans (I.base.keep b o e n hb hx)
    · obtain ⟨sl, e1⟩ := I.base.slot b o e n hb hx
      exact ⟨sl, (hs.2 b (Nat.ne_of_lt (Nat.lt_of_lt_of_le (Heap.lt_size e) I.ok.above))).trans e1⟩
    · obtain ⟨o', e1⟩ := I.base.there b o e hx
      exact ⟨o', (hs.2 b (Nat.ne_of_lt (Nat.lt_of_lt_of_le (Heap.lt_size e) I.ok.above))).trans e1⟩
    · by_cases hj : j = i
      · subst hj
        rw [hi] at e1; cases e1
        rw [List.getElem?_set_self hiσ] at e2
        cases e2
        exact ⟨u, r, .inl ⟨hk, by simp⟩⟩
      · rw [List.getElem?_set_ne (Ne.symm hj)] at e2
        obtain ⟨u', r', q⟩ := hl j y v' e1 e2 e3
        refine ⟨u', r', ?_⟩
        rcases q with ⟨k, e⟩ | ⟨k, c, e, z⟩
        · refine .inl ⟨k, ?_⟩
          have : y ≠ x := fun e => hj (nodup_ix hN e1 (e ▸ hi))
          simp [this, e]
        · exact .inr ⟨k, c, e, z.sameBut hs (cne y c e)⟩
    · obtain ⟨w', z⟩ := I.cell y c e
      exact ⟨w', z.sameBut hs (cne y c e)⟩
    · obtain ⟨e, n, ne, nf, d⟩ := I.pin p hp
      exact ⟨(hs.2 p.1 ne).trans e, n, ne, nf, d⟩
  · have hfn : X.fn x = true := by
      rcases hf with z | z
      · exact z
      · rw [z] at hk; cases hk
    obtain ⟨c, hc⟩ := I.ok.has x (.inl hk)
    obtain ⟨w', z⟩ := I.cell x c hc
    refine wpAny_storeName_cell I.ok.kind hk hc z (fun h' hc' hs => ?_)
    obtain ⟨oc, hoc, hocd⟩ := id z
    refine h { s with heap := h' } ⟨I.ok, I.os, I.bare, ⟨fun b o e n hb hx => ?_, fun b o e n hb hx => ?_, I.base.free, fun b o e hx => ?_, I.base.tups, I.base.frzs, I.base.tbls⟩, ⟨m, hn.sameBut hs (Ne.symm (cne x c hc)), fun j y v' e1 e2 e3 => ?_⟩, fun y c' e => ?_, I.free, I.freeC, fun p hp => ?_, tracked ⟨oc, hoc, I.freeC x c hc⟩ hs, by simpa using I.len⟩ ⟨c, hs, .inr hc⟩
    · exact (hs.2 b (Nat.ne_of_lt (Nat.lt_of_lt_of_le (Heap.lt_size e) (I.ok.cab x c hfn hc)))).trans (I.base.keep b o e n hb hx)
    · obtain ⟨sl, e1⟩ := I.base.slot b o e n hb hx
      exact ⟨sl, (hs.2 b (Nat.ne_of_lt (Nat.lt_of_lt_of_le (Heap.lt_size e) (I.ok.cab x c hfn hc)))).trans e1⟩
    · obtain ⟨o', e1⟩ := I.base.there b o e hx
      exact ⟨o', (hs.2 b (Nat.ne_of_lt (Nat.lt_of_lt_of_le (Heap.lt_size e) (I.ok.cab x c hfn hc)))).trans e1⟩
    · by_cases hj : j = i
      · subst hj
        rw [hi] at e1; cases e1
        rw [List.getElem?_set_self hiσ] at e2
        cases e2
        exact ⟨u, r, .inr ⟨.inl hk, c, hc, hc'⟩⟩
      · rw [List.getElem?_set_ne (Ne.symm hj)] at e2
        obtain ⟨u', r', q⟩ := hl j y v' e1 e2 e3
        refine ⟨u', r', ?_⟩
        rcases q with q | ⟨k, c', e, z'⟩
        · exact .inl q
        · refine .inr ⟨k, c', e, z'.sameBut hs ?_⟩
          rintro rfl
          exact hj (nodup_ix hN e1 (I.ok.inj _ _ _ e hc ▸ hi))
    · by_cases hcc : c' = c
      · subst hcc; exact ⟨_, hc'⟩
      · obtain ⟨w2, z2⟩ := I.cell y c' e
        exact ⟨w2, z2.sameBut hs hcc⟩
    · obtain ⟨e, n, ne, nf, d⟩ := I.pin p hp
      refine ⟨(hs.2 p.1 ?_).trans e, n, ne, nf, d⟩
      intro q
      rw [q, hoc] at e
      have q' : oc = p.2 := Option.some.inj e
      exact d w' (by rw [← q']; exact hocd)
theorem store_ok {M : Model} {A : Around} {E : Value → Shared → Prop} {i : Nat} {x : Str} {v : V} {u : Value} {Q : Unit → Shared → Prop} (I : Inv X pins σ H s) (hN : X.N.Nodup) (hi : X.N[i]? = some x) (hx : Loc X.env.scope x) (r : RelV v u)
    (h : ∀ s', Inv X pins (σ.set i (some v)) H s' → Q () s') (hf : X.fn x = true ∨ X.env.scope.names.lookup x = some .local := by first | exact .inl rfl | exact .inr rfl | assumption) : wpAny M A (storeName X.env x u) Q E s :=
  store_ok2 I hN hi hx r (fun s' I' _ => h s' I') hf
theorem Inv.call' {s' : Shared} {ch : List Addr} (I : Inv X pins σ H s) (ho : s'.os = s.os) (u : Un (frs X.stack) ch H H' s.heap s'.heap) (hok : HOk X.prog X.w H' s'.heap) (hg : AllBare s'.gens)
    (hch : ∀ b ∈ ch, (b ∈ X.ex ∨ X.s_0.heap.objs.size ≤ b) ∧ b ≠ X.env.locals ∧ (∀ x c, X.env.cells.lookup x = some c → c ≠ b) ∧ ∀ p ∈ X.pn ++ pins, p.1 ≠ b) : Inv X pins σ H' s' := by
  obtain ⟨h', g', d', t', o'⟩ := s'
  have e : o' = s.os := ho
  subst e
  exact I.call (g' := g') (t' := t') (d' := d') u hok hg hch
end

abbrev XK := Value → Option Addr → Hp → Prop
abbrev St := List (Option V)
abbrev VK := V → Hp → Prop
abbrev TE := St → Hp → VK → Prop
abbrev TT := St → Hp → (Bool → Hp → Prop) → Prop
abbrev TA := St → Hp → (List V → Hp → Prop) → Prop
structure Ends where
  nx : St → Hp → Prop
  rt : VK
  bk : St → Hp → Prop := fun _ _ => False
  ct : St → Hp → Prop := fun _ _ => False
abbrev TS := Ends → St → Hp → Prop

def EP (X : Cx) (pins : List (Addr × Obj)) (σ : St) (Q : VK) (u : Value) (s' : Shared) : Prop := ∃ v H', Inv X pins σ H' s' ∧ RelV v u ∧ Q v H'
def TP (X : Cx) (pins : List (Addr × Obj)) (σ : St) (Q : Bool → Hp → Prop) (b : Bool) (s' : Shared) : Prop := ∃ H', Inv X pins σ H' s' ∧ Q b H'
def AP (X : Cx) (pins : List (Addr × Obj)) (σ : St) (Q : List V → Hp → Prop) (us : List Value) (s' : Shared) : Prop := ∃ vs H', Inv X pins σ H' s' ∧ Vals vs us ∧ Q vs H'
def SP (X : Cx) (pins : List (Addr × Obj)) (D : Ends) (f : Flow) (s' : Shared) : Prop :=
  match f with
  | .next => ∃ σ' H', Inv X pins σ' H' s' ∧ D.nx σ' H'
  | .brk => ∃ σ' H', Inv X pins σ' H' s' ∧ D.bk σ' H'
  | .cont => ∃ σ' H', Inv X pins σ' H' s' ∧ D.ct σ' H'
  | .ret u => ∃ v σ' H', Inv X pins σ' H' s' ∧ RelV v u ∧ D.rt v H'

def PE (X : Cx) (e : Expr) (t : TE) : Prop :=
  ∀ (pins : List (Addr × Obj)) (s : Shared) (σ : St) (H : Hp) (Q : VK), Inv X pins σ H s → t σ H Q → wpAny (model X.prog X.w) X.A (eval e X.env) (EP X pins σ Q) X.xe s
def PT (X : Cx) (e : Expr) (t : TT) : Prop :=
  ∀ (pins : List (Addr × Obj)) (s : Shared) (σ : St) (H : Hp) (Q : Bool → Hp → Prop), Inv X pins σ H s → t σ H Q → wpAny (model X.prog X.w) X.A (isTrue e X.env (eval e X.env)) (TP X pins σ Q) X.xe s
def PW (X : Cx) (e : Expr) (t : TT) : Prop :=
  ∀ (whole : Sem Value) (pins : List (Addr × Obj)) (s : Shared) (σ : St) (H : Hp) (Q : Bool → Hp → Prop), Inv X pins σ H s → t σ H Q → wpAny (model X.prog X.w) X.A (isTrue e X.env whole) (TP X pins σ Q) X.xe s
theorem PW.pt {X : Cx} {e : Expr} {t : TT} (h : PW X e t) : PT X e t := h _
def PA (X : Cx) (es : List Expr) (t : TA) : Prop :=
  ∀ (pos : Pos) (pins : List (Addr × Obj)) (s : Shared) (σ : St) (H : Hp) (Q : List V → Hp → Prop), Inv X pins σ H s → t σ H Q → wpAny (model X.prog X.w) X.A (spliced (backTo pos (starEach es X.env))) (AP X pins σ Q) X.xe s
def PS (X : Cx) (st : Stmt) (t : TS) : Prop :=
  ∀ (pins : List (Addr × Obj)) (s : Shared) (σ : St) (H : Hp) (D : Ends), Inv X pins σ H s → t D σ H → wpAny (model X.prog X.w) X.A (exec st X.env) (SP X pins D) X.xe s
def PSs (X : Cx) (st : List Stmt) (t : TS) : Prop :=
  ∀ (pins : List (Addr × Obj)) (s : Shared) (σ : St) (H : Hp) (D : Ends), Inv X pins σ H s → t D σ H → wpAny (model X.prog X.w) X.A (execs st X.env) (SP X pins D) X.xe s
theorem thn {α : Type} {t : Sem α} {Q Q' : α → Shared → Prop} {M : Model} {A : Around} {E : Value → Shared → Prop} {s : Shared} (h : wpAny M A t Q E s) (hQ : ∀ a s, Q a s → Q' a s) : wpAny M A t Q' E s := wpAny_mono h hQ fun _ _ x => x
end L2

namespace L2
open PySem PySem.Spec PyProof.Rows
section
variable {X : Cx}

theorem bin {a b : Expr} {ta tb : TE} (ha : PE X a ta) (hb : PE X b tb) {pins : List (Addr × Obj)} {s : Shared} {σ : St} {H : Hp} {R : V → V → Hp → Prop} (I : Inv X pins σ H s) (h : ta σ H fun x H1 => tb σ H1 fun y H2 => R x y H2)
    {α : Type} {Q : α → Shared → Prop} {f : Value → Value → Sem α}
    (hf : ∀ v u s2 x y H2, Inv X pins σ H2 s2 → RelV x v → RelV y u → R x y H2 → wpAny (model X.prog X.w) X.A (f v u) Q X.xe s2) :
    wpAny (model X.prog X.w) X.A (eval a X.env) (fun v s₁ => wpAny (model X.prog X.w) X.A (eval b X.env) (fun u s₂ => wpAny (model X.prog X.w) X.A (f v u) Q X.xe s₂) X.xe s₁) X.xe s := by
  refine thn (ha pins s σ H _ I h) fun v s1 ⟨x, H1, I1, r1, q1⟩ => ?_
  refine thn (hb pins s1 σ H1 _ I1 q1) fun u s2 ⟨y, H2, I2, r2, q2⟩ => ?_
  exact hf v u s2 x y H2 I2 r1 r2 q2

def tVar (i : Nat) : TE := fun σ H Q => ∃ v, σ[i]? = some (some v) ∧ Q v H
def tC (v : V) : TE := fun _ H Q => Q v H
theorem pe_var {i : Nat} {x : Str} {pos : Pos} (hN : X.N[i]? = some x) (hv : Vis X.env.scope x) (hd : (x == ("__debug__" : Str)) = false := by decide) (hcd : (x == ("__classdict__" : Str)) = false := by decide) : PE X (.Name x pos) (tVar i) := by
  intro pins s σ H Q I h
  obtain ⟨v, e, h⟩ := h
  obtain ⟨m, hn, hl⟩ := I.loc
  obtain ⟨u, r, l⟩ := hl i x v hN e hv
  have fin : EP X pins σ Q u s := ⟨v, H, I, r, h⟩
  rcases l with ⟨hk, hm⟩ | ⟨hk, c, hc, hcell⟩
  · exact wpAny_Name (wpAny_loadName_local I.ok.kind hk hn hm fin) hd
  · rcases hk with hk | hk
    · exact wpAny_Name (wpAny_loadName_cell I.ok.kind hk hc hcell fin) hd
    · exact wpAny_Name (wpAny_loadName_free I.ok.kind hk hc hcell fin hcd) hd
theorem pe_int {i j pos} : PE X (.Constant (.int i) j pos) (tC (.int i)) := fun _ _ _ H _ I h => wpAny_Constant_int ⟨.int i, H, I.tok _, ⟨_, rfl⟩, h⟩
theorem pe_bl {b j pos} : PE X (.Constant (.bool b) j pos) (tC (.bl b)) := fun _ _ _ H _ I h => Constant_bool ⟨.bl b, H, I, rfl, h⟩
theorem pe_non {j pos} : PE X (.Constant .none j pos) (tC .non) := fun _ _ _ H _ I h => Constant_none ⟨.non, H, I, rfl, h⟩
def Gl (X : Cx) (x : Str) : Prop := X.env.kindOf x = some .globalImplicit
theorem ld_glob {E : Value → Shared → Prop} {pins : List (Addr × Obj)} {s : Shared} {σ : St} {H : Hp} {x : Str} {u : Value} {pos : Pos} {Q : Value → Shared → Prop} (I : Inv X pins σ H s) (hg : Gl X x) (hm : X.mg x = some u) (h : Q u s)
    (hd : (x == ("__debug__" : Str)) = false := by decide) : wpAny (model X.prog X.w) X.A (eval (.Name x pos) X.env) Q E s :=
  Calls.Name_function_global I.ok.kind hg (Calls.loadGlobal_global (by rw [I.ok.glob]; exact I.mod.glob.keeps I.bk) hm h) hd
theorem ld_blt {E : Value → Shared → Prop} {pins : List (Addr × Obj)} {s : Shared} {σ : St} {H : Hp} {x : Str} {u : Value} {pos : Pos} {Q : Value → Shared → Prop} (I : Inv X pins σ H s) (hg : Gl X x) (hm : X.mg x = none) (hv : bootBuiltins x = some u) (h : Q u s)
    (hn : x ≠ "__name__" := by decide) (hd : (x == ("__debug__" : Str)) = false := by decide) : wpAny (model X.prog X.w) X.A (eval (.Name x pos) X.env) Q E s := by
  obtain ⟨mb, h1, h2⟩ := I.mod.blt
  exact Calls.Name_function_global I.ok.kind hg (Calls.loadGlobal_builtin (by rw [I.ok.glob]; exact I.mod.glob.keeps I.bk) hm (by rw [I.ok.blt]; exact h1.keeps I.bk) ((h2 x hn).trans hv) h) hd
theorem pe_glob {x : Str} {v : V} {u : Value} {pos : Pos} (hg : Gl X x) (hm : X.mg x = some u) (r : RelV v u) (hd : (x == ("__debug__" : Str)) = false := by decide) : PE X (.Name x pos) (tC v) :=
  fun _ _ _ H _ I h => ld_glob I hg hm ⟨v, H, I, r, h⟩ hd
variable {a b : Expr} {ta tb : TE} {pos : Pos}
variable {tA tB' : TT} {rest : List Expr}
def tAnd (t u : TT) : TT := fun σ H Q => t σ H fun c H1 => if c = true then u σ H1 Q else Q false H1
def tOr (t u : TT) : TT := fun σ H Q => t σ H fun c H1 => if c = true then Q true H1 else u σ H1 Q
def tNot (t : TT) : TT := fun σ H Q => t σ H fun c H1 => Q (!c) H1
theorem pw_and1 (ha : PT X a tA) : PW X (.BoolOp .And [a] pos) tA := by
  intro wh pins s σ H Q I h
  refine isTrue_and (thn (ha pins s σ H Q I h) fun c s1 e => ?_)
  cases c with
  | true => exact isTrue_and_nil e
  | false => exact e
theorem pw_or1 (ha : PT X a tA) : PW X (.BoolOp .Or [a] pos) tA := by
  intro wh pins s σ H Q I h
  refine isTrue_or (thn (ha pins s σ H Q I h) fun c s1 e => ?_)
  cases c with
  | false => exact isTrue_or_nil e
  | true => exact e
theorem pw_and (ha : PT X a tA) (hb : PW X (.BoolOp .And (b :: rest) pos) tB') : PW X (.BoolOp .And (a :: b :: rest) pos) (tAnd tA tB') := by
  intro wh pins s σ H Q I h
  refine isTrue_and (thn (ha pins s σ H _ I h) fun c s1 ⟨H1, I1, q1⟩ => ?_)
  cases c with
  | true => exact hb wh pins s1 σ H1 Q I1 q1
  | false => exact ⟨H1, I1, q1⟩
theorem pw_or (ha : PT X a tA) (hb : PW X (.BoolOp .Or (b :: rest) pos) tB') : PW X (.BoolOp .Or (a :: b :: rest) pos) (tOr tA tB') := by
  intro wh pins s σ H Q I h
  refine isTrue_or (thn (ha pins s σ H _ I h) fun c s1 ⟨H1, I1, q1⟩ => ?_)
  cases c with
  | true => exact ⟨H1, I1, q1⟩
  | false => exact hb wh pins s1 σ H1 Q I1 q1
theorem pt_not (ha : PT X a tA) : PT X (.UnaryOp .Not a pos) (tNot tA) := by
  intro pins s σ H Q I h
  exact isTrue_not (ha pins s σ H (fun c H1 => Q (!c) H1) I h)
def tAndV (ta tb : TE) : TE := fun σ H Q => ta σ H fun x H1 => ∃ c, x = .bl c ∧ if c = true then tb σ H1 Q else Q (.bl false) H1
theorem pe_one {op} {t : TE} (h : PE X a t) : PE X (.BoolOp op [a] pos) t := fun pins s σ H Q I hw => BoolOp_one (h pins s σ H Q I hw)
theorem pe_and (ha : PE X a ta) (hb : PE X (.BoolOp .And (b :: rest) pos) tb) : PE X (.BoolOp .And (a :: b :: rest) pos) (tAndV ta tb) := by
  intro pins s σ H Q I h
  refine BoolOp_and (thn (ha pins s σ H _ I h) fun v s1 ⟨x, H1, I1, r1, q1⟩ => ?_)
  obtain ⟨c, rfl, q1⟩ := q1
  cases r1
  refine wpAny_truthy_bool ?_
  cases c with
  | true => exact hb pins s1 σ H1 Q I1 q1
  | false => exact ⟨.bl false, H1, I1, rfl, q1⟩
def tIf (t : TT) (ta tb : TE) : TE := fun σ H Q => t σ H fun c H1 => if c = true then ta σ H1 Q else tb σ H1 Q
theorem pe_ifExp {c : Expr} (hc : PT X c tA) (ha : PE X a ta) (hb : PE X b tb) : PE X (.IfExp c a b pos) (tIf tA ta tb) := by
  intro pins s σ H Q I h
  refine wpAny_IfExp (thn (hc pins s σ H _ I h) fun d s1 ⟨H1, I1, q1⟩ => ?_)
  cases d with
  | true => exact ha pins s1 σ H1 Q I1 q1
  | false => exact hb pins s1 σ H1 Q I1 q1
end
end L2

namespace L2
open PySem PySem.Spec PyProof.Rows

def SqL (K : PySem.W.Frag) (H : Hp) (a : Addr) (xs : List V) : Prop :=
  Rd H a (.lst xs) ∨
    ∃ (o : Obj) (its : Array Value) (n : Nat), K.lookup a = some o ∧ o.cls = .type "list" ∧ o.dict = none ∧ o.data = .seq its n ∧ its.size ≤ sizeLine ∧ Vals xs its.toList
def SqT (K : PySem.W.Frag) (H : Hp) (a : Addr) (xs : List V) : Prop :=
  Rd H a (.tup xs) ∨
    ∃ (o : Obj) (its : Array Value) (n : Nat), K.lookup a = some o ∧ o.cls = .type "tuple" ∧ o.data = .seq its n ∧ its.size ≤ sizeLine ∧ Vals xs its.toList
def absV : Value → Option V
  | .none => some .non
  | .bool b => some (.bl b)
  | .int i _ => some (.int i)
  | .str x _ => some (.str x)
  | .bytes b _ => some (.byt b)
  | .float b _ => some (.flt b)
  | .ref a => some (.ref a)
  | .type n => some (.ty n)
  | _ => none
theorem RelV.abs {x : V} {u : Value} (r : RelV x u) : absV u = some x := by
  cases x with
  | non => cases r; rfl
  | bl _ => cases r; rfl
  | int _ => obtain ⟨t, rfl⟩ := r; rfl
  | str _ => obtain ⟨t, rfl⟩ := r; rfl
  | byt _ => obtain ⟨t, rfl⟩ := r; rfl
  | flt _ => obtain ⟨t, rfl⟩ := r; rfl
  | ref _ => cases r; rfl
  | ty _ => cases r; rfl
theorem RelV.inj {x y : V} {u : Value} (r : RelV x u) (q : RelV y u) : x = y := Option.some.inj (r.abs.symm.trans q.abs)
theorem Vals.inj : ∀ {xs ys : List V} {us : List Value}, Vals xs us → Vals ys us → xs = ys
  | _, _, _, .nil, .nil => rfl
  | _, _, _, .cons r t, .cons r' t' => by rw [r.inj r', Vals.inj t t']
section
variable {X : Cx} {pins : List (Addr × Obj)} {σ : St} {H : Hp} {s : Shared} {a : Addr} {xs ys : List V}
theorem SqL.of {K : PySem.W.Frag} (h : H a = some (.lst xs)) : SqL K H a xs := .inl (.inl h)
theorem SqT.of {K : PySem.W.Frag} (h : H a = some (.tup xs)) : SqT K H a xs := .inl (.inl h)
theorem Inv.list (I : Inv X pins σ H s) (h : SqL X.K H a xs) : ∃ its : List Value, Vals xs its ∧ PlainL s.heap a its.toArray ∧ xs.length ≤ sizeLine := by
  rcases h with h | ⟨o, its, n, hk, hc, hd, hs, hz, r⟩
  · obtain ⟨z, its, n, r, e⟩ := h.ok I.hok
    exact ⟨its, r, ⟨_, n, e, rfl, rfl, rfl⟩, z⟩
  · refine ⟨its.toList, r, ⟨o, n, I.kIn a o hk, hc, hd, by simpa using hs⟩, ?_⟩
    have e := r.length
    simp only [Array.length_toList] at e
    omega
theorem Inv.tuple (I : Inv X pins σ H s) (h : SqT X.K H a xs) : ∃ its : List Value, Vals xs its ∧ IsTup s.heap a its.toArray ∧ xs.length ≤ sizeLine := by
  rcases h with h | ⟨o, its, n, hk, hc, hs, hz, r⟩
  · obtain ⟨z, its, r, p⟩ := h.ok I.hok
    exact ⟨its, r, p, z⟩
  · refine ⟨its.toList, r, ⟨o, I.kIn a o hk, hc, n, by simpa using hs⟩, ?_⟩
    have e := r.length
    simp only [Array.length_toList] at e
    omega
theorem Inv.list_inj (I : Inv X pins σ H s) (h : SqL X.K H a xs) (h' : SqL X.K H a ys) : xs = ys := by
  obtain ⟨its, r, ⟨o, n, e, _, _, d⟩, _⟩ := I.list h
  obtain ⟨its', r', ⟨o', n', e', _, _, d'⟩, _⟩ := I.list h'
  rw [e] at e'; cases e'
  rw [d] at d'
  injection d' with d1 _
  have : its = its' := by simpa using congrArg Array.toList d1
  subst this
  exact r.inj r'
theorem Inv.tuple_inj (I : Inv X pins σ H s) (h : SqT X.K H a xs) (h' : SqT X.K H a ys) : xs = ys := by
  obtain ⟨its, r, ⟨o, e, _, n, d⟩, _⟩ := I.tuple h
  obtain ⟨its', r', ⟨o', e', _, n', d'⟩, _⟩ := I.tuple h'
  rw [e] at e'; cases e'
  rw [d] at d'
  injection d' with d1 _
  have : its = its' := by simpa using congrArg Array.toList d1
  subst this
  exact r.inj r'
end

abbrev Cx.wish (X : Cx) (E : Value → Shared → Prop) : Cx := { X with xe := E }
abbrev Cx.nox (X : Cx) : Cx := X.wish fun _ _ => False
theorem Cx.Ok.wish {X : Cx} (ok : X.Ok) (E : Value → Shared → Prop) : (X.wish E).Ok :=
  ⟨ok.mod, ok.kind, ok.glob, ok.blt, ok.above, ok.inj, ok.has, ok.cab, ok.hd, ok.frames, ok.stk, ok.exf, ok.bs, ok.bsz, ok.noex, ok.exfs, ok.funs, ok.frf⟩
theorem Cx.Ok.unwish {X : Cx} {E : Value → Shared → Prop} (ok : (X.wish E).Ok) : X.Ok :=
  ⟨ok.mod, ok.kind, ok.glob, ok.blt, ok.above, ok.inj, ok.has, ok.cab, ok.hd, ok.frames, ok.stk, ok.exf, ok.bs, ok.bsz, ok.noex, ok.exfs, ok.funs, ok.frf⟩
section
variable {X : Cx} {pins : List (Addr × Obj)} {σ : St} {H : Hp} {s : Shared} {E : Value → Shared → Prop}
theorem Inv.wish (I : Inv X pins σ H s) (E : Value → Shared → Prop) : Inv (X.wish E) pins σ H s := ⟨I.ok.wish E, I.os, I.bare, I.base, I.loc, I.cell, I.free, I.freeC, I.pin, I.hok, I.len⟩
theorem Inv.unwish (I : Inv (X.wish E) pins σ H s) : Inv X pins σ H s := ⟨I.ok.unwish, I.os, I.bare, I.base, I.loc, I.cell, I.free, I.freeC, I.pin, I.hok, I.len⟩
theorem SP.unwish {D : Ends} {f : Flow} {s' : Shared} (h : SP (X.wish E) pins D f s') : SP X pins D f s' := by
  cases f with
  | next => obtain ⟨σ', H', I, q⟩ := h; exact ⟨σ', H', I.unwish, q⟩
  | brk => obtain ⟨σ', H', I, q⟩ := h; exact ⟨σ', H', I.unwish, q⟩
  | cont => obtain ⟨σ', H', I, q⟩ := h; exact ⟨σ', H', I.unwish, q⟩
  | ret u => obtain ⟨v, σ', H', I, r, q⟩ := h; exact ⟨v, σ', H', I.unwish, r, q⟩
theorem PSs.nox {st : List Stmt} {t : TS} (h : PSs X.nox st t) : PSs X st t := fun pins s σ H D I hw =>
  wpAny_mono (h pins s σ H D (I.wish _) hw) (fun _ _ q => q.unwish) fun _ _ z => False.elim z
end

section
variable {X : Cx} {st : Stmt} {rest : List Stmt} {t u : TS} {e : Expr} {te : TE} {pos : Pos}
def tNext : TS := fun D σ H => D.nx σ H
def tSeq (t u : TS) : TS := fun D σ H => t { D with nx := u D } σ H
theorem pss_nil : PSs X [] tNext := fun _ _ σ H _ I h => wpAny_execs_nil ⟨σ, H, I, h⟩
theorem pss_cons (h1 : PS X st t) (h2 : PSs X rest u) : PSs X (st :: rest) (tSeq t u) := by
  intro pins s σ H D I h
  refine wpAny_execs_cons (thn (h1 pins s σ H { D with nx := u D } I h) fun f s1 q => ?_)
  cases f with
  | next =>
    obtain ⟨σ', H', I', q⟩ := q
    exact h2 pins s1 σ' H' D I' q
  | ret v => exact q
  | brk => exact q
  | cont => exact q
theorem pss_one (h1 : PS X st t) : PSs X [st] t := by
  intro pins s σ H D I h
  refine wpAny_execs_cons (thn (h1 pins s σ H D I h) fun f s1 q => ?_)
  cases f with
  | next => exact wpAny_execs_nil q
  | ret v => exact q
  | brk => exact q
  | cont => exact q
theorem Inv.quiet {pins : List (Addr × Obj)} {σ : St} {H : Hp} {s : Shared} (I : Inv X pins σ H s) : interactive X.env = false := by simp [interactive, I.ok.kind]
def tDrop (te : TE) : TS := fun D σ H => te σ H fun _ H1 => D.nx σ H1
theorem ps_expr (he : PE X e te) (hs : swapsWith e none pos.line X.env = pure false := by rfl) : PS X (.Expr e pos) (tDrop te) := by
  intro pins s σ H D I h
  exact wpAny_Expr_any (thn (he pins s σ H _ I h) fun v s1 ⟨x, H1, I1, r1, q1⟩ => ⟨σ, H1, I1, q1⟩) I.quiet hs
def tRet (te : TE) : TS := fun D σ H => te σ H D.rt
theorem ps_ret (he : PE X e te) : PS X (.Return (some e) pos) (tRet te) := by
  intro pins s σ H D I h
  exact wpAny_Return_some (thn (he pins s σ H _ I h) fun v s1 ⟨x, H1, I1, r1, q1⟩ => ⟨x, σ, H1, I1, r1, q1⟩)
def tIfS (c : TT) (t u : TS) : TS := fun D σ H => c σ H fun b H1 => if b = true then t D σ H1 else u D σ H1
theorem ps_if {c : Expr} {a b : List Stmt} {tc : TT} (hc : PT X c tc) (ha : PSs X a t) (hb : PSs X b u) : PS X (.If c a b pos) (tIfS tc t u) := by
  intro pins s σ H D I h
  refine wpAny_If (thn (hc pins s σ H _ I h) fun d s1 ⟨H1, I1, q1⟩ => ?_)
  cases d with
  | true => exact ha pins s1 σ H1 D I1 q1
  | false => exact hb pins s1 σ H1 D I1 q1
end

abbrev TG := V → St → Hp → (St → Hp → Prop) → Prop
abbrev TGs := List V → St → Hp → (St → Hp → Prop) → Prop
def PG (X : Cx) (target : Expr) (t : TG) : Prop :=
  ∀ (pins : List (Addr × Obj)) (s : Shared) (σ : St) (H : Hp) (v : V) (u : Value) (Q : St → Hp → Prop), Inv X pins σ H s → RelV v u → t v σ H Q →
    wpAny (model X.prog X.w) X.A (assign target X.env u) (fun _ s' => ∃ σ' H', Inv X pins σ' H' s' ∧ Q σ' H') X.xe s
def PGs (X : Cx) (ts : List Expr) (t : TGs) : Prop :=
  ∀ (pins : List (Addr × Obj)) (s : Shared) (σ : St) (H : Hp) (vs : List V) (us : List Value) (Q : St → Hp → Prop), Inv X pins σ H s → Vals vs us → t vs σ H Q →
    wpAny (model X.prog X.w) X.A (assignInOrder ((assignEach ts X.env).map (·.2)) us) (fun _ s' => ∃ σ' H', Inv X pins σ' H' s' ∧ Q σ' H') X.xe s
abbrev TSet := V → V → V → Hp → (Hp → Prop) → Prop
def PSet (X : Cx) (t : TSet) : Prop :=
  ∀ (pins : List (Addr × Obj)) (s : Shared) (σ : St) (H : Hp) (o i v : V) (ov iv u : Value) (Q : Hp → Prop), Inv X pins σ H s → RelV o ov → RelV i iv → RelV v u → t o i v H Q →
    wpAny (model X.prog X.w) X.A (setItem ov iv u) (fun _ s' => ∃ H', Inv X pins σ H' s' ∧ Q H') X.xe s
abbrev TIp := V → V → Hp → VK → Prop
def PIp (X : Cx) (op : Operator) (t : TIp) : Prop :=
  ∀ (pins : List (Addr × Obj)) (s : Shared) (σ : St) (H : Hp) (x y : V) (v u : Value) (Q : VK), Inv X pins σ H s → RelV x v → RelV y u → t x y H Q →
    wpAny (model X.prog X.w) X.A (inplaceOp op v u) (EP X pins σ Q) X.xe s
section
variable {X : Cx} {pos : Pos}
def gName (i : Nat) : TG := fun v σ H Q => Q (σ.set i (some v)) H
theorem pg_name {i : Nat} {x : Str} (hN : X.N.Nodup) (hi : X.N[i]? = some x) (hx : Loc X.env.scope x) (hf : X.fn x = true ∨ X.env.scope.names.lookup x = some .local := by first | exact .inl rfl | exact .inr rfl | assumption) : PG X (.Name x pos) (gName i) := by
  intro pins s σ H v u Q I r h
  exact wpAny_assign_Name (store_ok I hN hi hx r (fun s' I' => ⟨_, H, I', h⟩) hf)
def gNil : TGs := fun vs σ H Q => vs = [] ∧ Q σ H
def gCons (t : TG) (u : TGs) : TGs := fun vs σ H Q => ∃ v r, vs = v :: r ∧ t v σ H fun σ' H' => u r σ' H' Q
theorem pgs_nil : PGs X [] gNil := by
  intro pins s σ H vs us Q I r h
  obtain ⟨e, h⟩ := h
  subst e
  cases r
  exact assignInOrder_nil ⟨σ, H, I, h⟩
theorem pgs_cons {e : Expr} {es : List Expr} {t : TG} {u : TGs} (h1 : PG X e t) (h2 : PGs X es u)
    (hs : (assignEach (e :: es) X.env).map (·.2) = assign e X.env :: (assignEach es X.env).map (·.2) := by rfl) : PGs X (e :: es) (gCons t u) := by
  intro pins s σ H vs us Q I r h
  obtain ⟨v, vr, e1, h⟩ := h
  subst e1
  cases r with
  | cons r rr =>
    rw [hs]
    refine assignInOrder_cons (thn (h1 pins s σ H _ _ _ I r h) fun _ s1 ⟨σ1, H1, I1, q1⟩ => ?_)
    exact h2 pins s1 σ1 H1 _ _ Q I1 rr q1
def gTup (K : PySem.W.Frag) (n : Nat) (t : TGs) : TG := fun v σ H Q => ∃ a xs, v = .ref a ∧ SqT K H a xs ∧ xs.length = n ∧ t xs σ H Q
theorem pg_tup {es : List Expr} {k : Nat} {t : TGs} {n : Nat} (hc : X.calm = true) (h : PGs X es t)
    (hn : (assignEach es X.env).length = n := by rfl) (hst : (assignEach es X.env).findIdx? (·.1) = none := by rfl) : PG X (.Tuple es k pos) (gTup X.K n t) := by
  intro pins s σ H v u Q I r hw
  obtain ⟨a, xs, e1, hq, hl, hw⟩ := hw
  subst e1
  cases r
  obtain ⟨its, rv, ht, hz⟩ := I.tuple hq
  refine assign_Tuple_tuple (I.ok.hd hc) ht (by simp [hn, ← hl, rv.length]) hst fun h' hx => ?_
  have I1 : Inv X pins σ H { s with heap := h' } := I.kept (t' := s.toks) fun b o e => hx b o (Nat.ne_of_lt (Heap.lt_size e)) e
  exact h pins _ σ H xs _ Q I1 (by simpa using rv) hw
def tAsg (te : TE) (g : TG) : TS := fun D σ H => te σ H fun x H1 => g x σ H1 D.nx
theorem ps_set {i : Nat} {x : Str} {e : Expr} {te : TE} {pos' : Pos} (hN : X.N.Nodup) (hi : X.N[i]? = some x) (hx : Loc X.env.scope x) (he : PE X e te) (hs : swapsWith e (some (.Name x pos')) pos.line X.env = pure false := by rfl) (hf : X.fn x = true ∨ X.env.scope.names.lookup x = some .local := by first | exact .inl rfl | exact .inr rfl | assumption) :
    PS X (.Assign [.Name x pos'] e pos) (tAsg te (gName i)) := by
  intro pins s σ H D I h
  refine wpAny_Assign_Name (thn (he pins s σ H _ I h) fun v s1 ⟨y, H1, I1, r1, q1⟩ => ?_) hs
  exact store_ok I1 hN hi hx r1 (fun s2 I2 => ⟨_, H1, I2, q1⟩) hf
def tAug (i : Nat) (te : TE) (ti : TIp) : TS := fun D σ H => ∃ x, σ[i]? = some (some x) ∧ te σ H fun y H1 => ti x y H1 fun z H2 => D.nx (σ.set i (some z)) H2
theorem ps_aug {i : Nat} {x : Str} {e : Expr} {te : TE} {op : Operator} {ti : TIp} {pos' : Pos} (hN : X.N.Nodup) (hi : X.N[i]? = some x) (hx : Loc X.env.scope x) (he : PE X e te) (ho : PIp X op ti) (hf : X.fn x = true ∨ X.env.scope.names.lookup x = some .local := by first | exact .inl rfl | exact .inr rfl | assumption) :
    PS X (.AugAssign (.Name x pos') op e pos) (tAug i te ti) := by
  intro pins s σ H D I h
  obtain ⟨v, e1, h⟩ := h
  obtain ⟨m, hn, hl⟩ := I.loc
  have vis : Vis X.env.scope x := by rcases hx with k | k; exact .inl k; exact .inr (.inl k)
  obtain ⟨u, r, l⟩ := hl i x v hi e1 vis
  refine wpAny_AugAssign_Name ?_
  have go : wpAny (model X.prog X.w) X.A (eval e X.env) (fun w s₂ => wpAny (model X.prog X.w) X.A (inplaceOp op u w) (fun r s₃ => wpAny (model X.prog X.w) X.A (storeName X.env x r) (fun _ => SP X pins D .next) X.xe s₃) X.xe s₂) X.xe s := by
    refine thn (he pins s σ H _ I h) fun w s1 ⟨y, H1, I1, r1, q1⟩ => ?_
    refine thn (ho pins s1 σ H1 v y u w _ I1 r r1 q1) fun z s2 ⟨zv, H2, I2, r2, q2⟩ => ?_
    exact store_ok I2 hN hi hx r2 (fun s3 I3 => ⟨_, H2, I3, q2⟩) hf
  rcases l with ⟨hk, hm⟩ | ⟨hk, c, hc, hcell⟩
  · exact wpAny_loadName_local I.ok.kind hk hn hm go
  · rcases hk with hk | hk
    · exact wpAny_loadName_cell I.ok.kind hk hc hcell go
    · rcases hx with k | k
      · have : X.env.scope.names.lookup x = some .free := hk
        rw [k] at this; cases this
      · have : X.env.scope.names.lookup x = some .free := hk
        rw [k] at this; cases this
def tAugS (to ti te : TE) (tget : V → V → Hp → VK → Prop) (tip : TIp) (tset : TSet) : TS := fun D σ H => to σ H fun o H1 => ti σ H1 fun i H2 => tget o i H2 fun x H3 => te σ H3 fun y H4 => tip x y H4 fun z H5 => tset o i z H5 fun H6 => D.nx σ H6
def PGet (X : Cx) (t : V → V → Hp → VK → Prop) : Prop :=
  ∀ (pins : List (Addr × Obj)) (s : Shared) (σ : St) (H : Hp) (o i : V) (ov iv : Value) (Q : VK), Inv X pins σ H s → RelV o ov → RelV i iv → t o i H Q →
    wpAny (model X.prog X.w) X.A (getItem ov iv) (EP X pins σ Q) X.xe s
theorem ps_augS {o i e : Expr} {to ti te : TE} {tget : V → V → Hp → VK → Prop} {tip : TIp} {tset : TSet} {op : Operator} {tpos : Pos} (ho : PE X o to) (hi : PE X i ti) (hg : PGet X tget) (he : PE X e te) (hp : PIp X op tip) (hs : PSet X tset)
    (ha : ∀ ov iv new, augStore i ov iv new = (do holding [new, ov, iv] (setItem ov iv new); release [new, ov, iv] []; pure .next) := by intros; rfl) : PS X (.AugAssign (.Subscript o i tpos) op e pos) (tAugS to ti te tget tip tset) := by
  intro pins s σ H D I h
  refine wpAny_AugAssign_SubscriptAny (thn (ho pins s σ H _ I h) fun ov s1 ⟨x1, H1, I1, r1, q1⟩ => ?_) ha
  refine thn (hi pins s1 σ H1 _ I1 q1) fun iv s2 ⟨x2, H2, I2, r2, q2⟩ => ?_
  refine thn (hg pins s2 σ H2 x1 x2 ov iv _ I2 r1 r2 q2) fun old s3 ⟨x3, H3, I3, r3, q3⟩ => ?_
  refine thn (he pins s3 σ H3 _ I3 q3) fun v s4 ⟨x4, H4, I4, r4, q4⟩ => ?_
  refine thn (hp pins s4 σ H4 x3 x4 old v _ I4 r3 r4 q4) fun new s5 ⟨x5, H5, I5, r5, q5⟩ => ?_
  exact thn (hs pins s5 σ H5 x1 x2 x5 ov iv new _ I5 r1 r2 r5 q5) fun _ s6 ⟨H6, I6, q6⟩ => ⟨σ, H6, I6, q6⟩
def ipI (f : Int → Int → Int) : TIp := fun x y H Q => ∃ i j, x = .int i ∧ y = .int j ∧ Q (.int (f i j)) H
theorem ip_add : PIp X .Add (ipI fun i j => i + j) := by
  intro pins s σ H x y v u Q I r1 r2 h
  obtain ⟨i, j, e1, e2, q⟩ := h
  subst e1; subst e2
  obtain ⟨t, rfl⟩ := r1
  obtain ⟨t', rfl⟩ := r2
  exact iadd_int ⟨.int _, H, I.tok _, ⟨_, rfl⟩, q⟩
end

section
variable {X : Cx} {pos : Pos}
def tWhile (c : TT) (tb : TS) : TS := fun D σ H => ∃ W : Nat → St → Hp → Prop, (∃ m, W m σ H) ∧ ∀ m σ H, W m σ H →
  c σ H fun b H1 => if b = true then ∃ N : St → Hp → Prop, (∀ σ' H', N σ' H' → ∃ m', m' < m ∧ W m' σ' H') ∧ tb { D with nx := N, ct := N, bk := D.nx } σ H1 else D.nx σ H1
theorem ps_while {c : Expr} {body : List Stmt} {tc : TT} {tb : TS} (hp : PassesOwn (model X.prog X.w) X.A X.env X.xe) (hc : PT X c tc) (hb : PSs X body tb) : PS X (.While c body [] pos) (tWhile tc tb) := by
  intro pins s σ H D I h
  obtain ⟨W, ⟨m0, w0⟩, turn⟩ := h
  refine wpAny_While (codeAny_whileLoop (fun n s' => ∃ σ' H', Inv X pins σ' H' s' ∧ W n σ' H') ?_ m0 ⟨σ, H, I, w0⟩)
  rintro n s1 ⟨σ1, H1, I1, w1⟩
  refine wpAny_passesOwn hp (thn (hc pins s1 σ1 H1 _ I1 (turn n σ1 H1 w1)) fun b s2 ⟨H2, I2, q2⟩ => ?_)
  cases b with
  | true =>
    obtain ⟨N, hN, q2⟩ := q2
    rw [if_pos rfl]
    refine wpAny_passesOwn hp (thn (hb pins s2 σ1 H2 _ I2 q2) fun f s3 q3 => ?_)
    cases f with
    | next =>
      obtain ⟨σ3, H3, I3, n3⟩ := q3
      obtain ⟨m', hm, w3⟩ := hN σ3 H3 n3
      exact ⟨m', hm, σ3, H3, I3, w3⟩
    | cont =>
      obtain ⟨σ3, H3, I3, n3⟩ := q3
      obtain ⟨m', hm, w3⟩ := hN σ3 H3 n3
      exact ⟨m', hm, σ3, H3, I3, w3⟩
    | brk => exact q3
    | ret v => exact q3
  | false =>
    rw [if_neg Bool.false_ne_true]
    exact wpAny_execs_nil ⟨σ1, H2, I2, q2⟩
end

structure It where
  go : Nat → Hp → Prop
  yld : Nat → Hp → V → Hp → Prop
  stop : Nat → Hp → Prop
def FpOk (X : Cx) (pins : List (Addr × Obj)) (H : Hp) (b : Addr) : Prop :=
  H b = none ∧ b ≠ X.env.locals ∧ b ∉ X.fs ∧ (b ∈ X.ex ∨ X.s_0.heap.objs.size ≤ b) ∧ (∀ x c, X.env.cells.lookup x = some c → c ≠ b) ∧ ∀ p ∈ X.pn ++ pins, p.1 ≠ b
theorem Inv.fpOk {X : Cx} {pins : List (Addr × Obj)} {σ : St} {H H' : Hp} {s : Shared} {b : Addr} (I : Inv X pins σ H s) (hb : s.heap.objs.size ≤ b) (hn : H' b = none) : FpOk X pins H' b := by
  refine ⟨hn, Nat.ne_of_gt (Nat.lt_of_lt_of_le I.lt hb), I.nofs hb, .inr (Nat.le_trans I.sz hb), fun x c e z => ?_, fun p hp z => ?_⟩
  · obtain ⟨v, q⟩ := I.cell x c e
    exact absurd (Nat.lt_of_lt_of_le q.lt (by rw [z]; exact hb)) (Nat.lt_irrefl _)
  · exact absurd (Nat.lt_of_lt_of_le (Heap.lt_size (I.pin p hp).1) (by rw [z]; exact hb)) (Nat.lt_irrefl _)
structure Turn (P : Program) (w : World) (K : PySem.W.Frag) (tg : Expr) (J : It) (fp : List Addr) (it : Addr) (tn : Nat → Heap → Prop) : Prop where
  mem : it ∈ fp
  obj : ∀ i h, tn i h → ∀ b ∈ fp, ∃ o, h.get? b = some o ∧ ∀ v, o.data ≠ .cell v
  keep : ∀ i h h', tn i h → (∀ b ∈ fp, ∀ o, h.get? b = some o → h'.get? b = some o) → tn i h'
  item : ∀ (X : Cx), X.prog = P → X.w = w → X.K = K → X.calm = true → ∀ (i : Nat) (pins : List (Addr × Obj)) (s : Shared) (σ : St) (H : Hp) (E : Value → Shared → Prop), Inv X pins σ H s → (∀ b ∈ fp, FpOk X pins H b) → tn i s.heap → J.go i H →
    wpAny (model P w) X.A (pyNext (.ref it)) (fun r s1 => ∃ u, r = some u ∧
      wpAny (model P w) X.A (letOwnedTupleGo tg (.ref it) u) (fun _ s2 => ∃ x H', Inv X pins σ H' s2 ∧ RelV x u ∧ J.yld i H x H' ∧ tn (i + 1) s2.heap ∧ ∀ b ∈ fp, H' b = none) E s1) E s
  done : ∀ (X : Cx), X.prog = P → X.w = w → X.K = K → X.calm = true → ∀ (i : Nat) (pins : List (Addr × Obj)) (s : Shared) (σ : St) (H : Hp) (E : Value → Shared → Prop), Inv X pins σ H s → (∀ b ∈ fp, FpOk X pins H b) → tn i s.heap → J.stop i H →
    wpAny (model P w) X.A (pyNext (.ref it)) (fun r s1 => r = none ∧ Inv X pins σ H s1) E s
  self : ∀ (A : Around) (i : Nat) (s : Shared) (Q : Value → Shared → Prop) (E : Value → Shared → Prop), tn i s.heap → Q (.ref it) s → wpAny (model P w) A (pyIter (.ref it)) Q E s
abbrev TI := St → Hp → (It → Hp → Prop) → Prop
def PIE (X : Cx) (pins : List (Addr × Obj)) (σ : St) (tg : Expr) (R : It → Hp → Prop) (itv : Value) (s2 : Shared) : Prop :=
  ∃ (it : Addr) (fp : List Addr) (tn : Nat → Heap → Prop) (J : It) (H' : Hp), itv = .ref it ∧ Inv X pins σ H' s2 ∧ Turn X.prog X.w X.K tg J fp it tn ∧ tn 0 s2.heap ∧ (∀ b ∈ fp, FpOk X pins H' b) ∧ R J H'
def PI (X : Cx) (tg iter : Expr) (wi : TI) : Prop :=
  ∀ (pins : List (Addr × Obj)) (s : Shared) (σ : St) (H : Hp) (R : It → Hp → Prop), Inv X pins σ H s → wi σ H R →
    wpAny (model X.prog X.w) X.A (eval iter X.env) (fun v s1 => wpAny (model X.prog X.w) X.A (pyIter v) (PIE X pins σ tg R) X.xe s1) X.xe s

theorem go_of {M : Model} {A : Around} {E : Value → Shared → Prop} {s : Shared} {tg : Expr} {it : Addr} {u : Value} {o : Obj} {n : String} {vs : Array Value} {Q : Unit → Shared → Prop} (ho : s.heap.get? it = some o) (hc : o.cls = .type n) (hd : o.data = .fields vs)
    (hn : ["enumerate", "zip", "dict_itemiterator", "dict_reverseitemiterator", "odict_iterator", "itertools.zip_longest", "itertools.pairwise"].contains n = false) (hQ : Q () s) : wpAny M A (letOwnedTupleGo tg (.ref it) u) Q E s := by
  unfold letOwnedTupleGo
  cases tg <;> first
    | exact wpAny_pure hQ
    | (cases u <;> first
        | exact wpAny_pure hQ
        | (refine wpAny_bind (wpAny_load ho ?_)
           rw [hc, hd]
           show wpAny M A (if (["enumerate", "zip", "dict_itemiterator", "dict_reverseitemiterator", "odict_iterator", "itertools.zip_longest", "itertools.pairwise"].contains n && vs[0]? == some (rawInt _)) = true then _ else _) Q E s
           rw [if_neg (by intro h; rw [hn, Bool.false_and] at h; cases h)]
           exact wpAny_pure hQ))

def Itl (K : PySem.W.Frag) (a : Addr) : It :=
  ⟨fun i H => ∃ xs x, SqL K H a xs ∧ xs[i]? = some x, fun i H x H' => H' = H ∧ ∀ xs, SqL K H a xs → xs[i]? = some x, fun i H => ∃ xs, SqL K H a xs ∧ xs.length ≤ i⟩
def Itr (lo : Int) (n : Nat) : It := ⟨fun i _ => i < n, fun i H x H' => H' = H ∧ x = .int (lo + i), fun i _ => n ≤ i⟩
theorem turn_list {P : Program} {w : World} {K : PySem.W.Frag} {tg : Expr} (a it : Addr) : Turn P w K tg (Itl K a) [it] it (fun i h => h.IsListIter it a i) where
  mem := by simp
  obj := fun i h st b hb => by
    have e : b = it := by simpa using hb
    subst e
    obtain ⟨o, e, c, d⟩ := st
    exact ⟨o, e, fun v z => by rw [d] at z; cases z⟩
  keep := fun i h h' st k => st.at fun o e => k it (by simp) o e
  item := by
    intro X hP hw hK hc i pins s σ H E I hf st hg
    subst hP hw hK
    obtain ⟨xs, x, hq, hx⟩ := hg
    obtain ⟨its, rv, p, hz⟩ := I.list hq
    obtain ⟨u, hu, ru⟩ := rv.get hx
    obtain ⟨f0, f1, f2, f3, f4, f5⟩ := hf it (by simp)
    refine wpAny_pyNext_list_item st p.isList (x := u) (by simpa using hu) fun h' st' sb => ?_
    have I1 : Inv X pins σ H { s with heap := h' } := I.turned (t' := s.toks) (fun b o hb e => (sb.2 b hb).trans e) f0 f1 f3 f4 f5
    obtain ⟨o, e, c, d⟩ := id st'
    exact ⟨u, rfl, go_of (s := { s with heap := h' }) e c d (by decide) ⟨x, H, I1, ru, ⟨rfl, fun ys hy => by rw [I.list_inj hy hq]; exact hx⟩, st', fun b hb => (hf b hb).1⟩⟩
  done := by
    intro X hP hw hK hc i pins s σ H E I hf st hg
    subst hP hw hK
    obtain ⟨xs, hq, hx⟩ := hg
    obtain ⟨its, rv, p, hz⟩ := I.list hq
    obtain ⟨f0, f1, f2, f3, f4, f5⟩ := hf it (by simp)
    have hl := rv.length
    exact wpAny_pyNext_list_end (I.ok.hd hc) st p.isList (by simp; omega) fun h' eb => ⟨rfl, I.turned (t' := s.toks) (fun b o hb e => eb b o hb e) f0 f1 f3 f4 f5⟩
  self := fun _ _ _ _ _ st h => wpAny_pyIter_listiter st h
theorem turn_range {P : Program} {w : World} {K : PySem.W.Frag} {tg : Expr} (it : Addr) (lo : Int) (n : Nat) : Turn P w K tg (Itr lo n) [it] it (fun i h => IsRangeIter h it (lo + (i : Nat) * 1) ((n : Int) - (i : Nat)) 1) where
  mem := by simp
  obj := fun i h st b hb => by
    have e : b = it := by simpa using hb
    subst e
    exact ⟨_, st, fun v z => by
      have z' : Data.fields _ = Data.cell v := z
      cases z'⟩
  keep := fun i h h' st k => k it (by simp) _ st
  item := by
    intro X hP hw hK hc i pins s σ H E I hf st hg
    subst hP hw hK
    obtain ⟨f0, f1, f2, f3, f4, f5⟩ := hf it (by simp)
    have W := Walks.range (prog := X.prog) (w := X.w) (I.ok.hd hc) it lo 1 n
    refine W.item i s _ _ hg st fun v h' tk hv st' kk => ?_
    obtain ⟨t, rfl⟩ := hv
    have I1 : Inv X pins σ H { s with heap := h', toks := tk } := I.turned (fun b o hb e => kk b o (by simpa using hb) e) f0 f1 f3 f4 f5
    refine ⟨_, rfl, go_of (s := { s with heap := h', toks := tk }) (n := "range_iterator") st' rfl rfl (by decide) ⟨.int (lo + i), H, I1, ⟨t, ?_⟩, ⟨rfl, rfl⟩, st', fun b hb => (hf b hb).1⟩⟩
    rw [Int.mul_one]
  done := by
    intro X hP hw hK hc i pins s σ H E I hf st hg
    subst hP hw hK
    obtain ⟨f0, f1, f2, f3, f4, f5⟩ := hf it (by simp)
    exact wpAny_pyNext_range_end (I.ok.hd hc) st (by have : n ≤ i := hg; omega) fun h' eb => ⟨rfl, I.turned (t' := s.toks) (fun b o hb e => eb b o hb e) f0 f1 f3 f4 f5⟩
  self := fun _ _ _ _ _ st h => wpAny_pyIter_rangeiter st h
end L2

namespace L2
open PySem PySem.Spec PyProof.Rows
section
variable {X : Cx} {tg : Expr}
def iList (K : PySem.W.Frag) (tl : TE) : TI := fun σ H R => tl σ H fun x H1 => ∃ a, x = .ref a ∧ (∃ xs, SqL K H1 a xs) ∧ R (Itl K a) H1
theorem pi_list {l : Expr} {tl : TE} (hl : PE X l tl) : PI X tg l (iList X.K tl) := by
  intro pins s σ H R I h
  refine thn (hl pins s σ H _ I h) fun v s1 ⟨x, H1, I1, r1, q1⟩ => ?_
  obtain ⟨a, e, ⟨xs, hq⟩, q⟩ := q1
  subst e
  cases r1
  obtain ⟨its, rv, p, hz⟩ := I1.list hq
  refine wpAny_pyIter_list p.isList ?_
  refine ⟨s1.heap.objs.size, [s1.heap.objs.size], _, _, H1, rfl, I1.kept (t' := s1.toks) fun b o e => Heap.get?_push_of_some _ e, turn_list a _, ⟨_, Heap.get?_push_size _ rfl, rfl, rfl⟩, fun b hb => ?_, q⟩
  have e : b = s1.heap.objs.size := by simpa using hb
  subst e
  exact I1.fpOk (Nat.le_refl _) (I1.hok.fresh (Nat.le_refl _))
theorem range_it {pins : List (Addr × Obj)} {σ : St} {H : Hp} {s : Shared} {R : It → Hp → Prop} {E : Value → Shared → Prop} {lo hi : Int} {t u v : Tok} {tk : Nat} (I : Inv X pins σ H s) (h1 : -(2 ^ 62) ≤ lo) (h2 : lo < 2 ^ 62) (h3 : -(2 ^ 62) ≤ hi) (h4 : hi < 2 ^ 62)
    (q : R (Itr lo (hi - lo).toNat) H) : wpAny (model X.prog X.w) X.A (pyIter (.ref s.heap.objs.size)) (PIE X pins σ tg R) E { s with heap := s.heap.push { cls := .type "range", data := .fields #[.int lo t, .int hi u, .int 1 v] }, toks := tk } := by
  refine wpAny_pyIter_range (IsRange.new ..) (small_one h1 h2 h3 h4) ?_
  have I1 : Inv X pins σ H { s with heap := s.heap.push { cls := .type "range", data := .fields #[.int lo t, .int hi u, .int 1 v] }, toks := tk } := I.kept fun b o e => Heap.get?_push_of_some _ e
  refine ⟨(s.heap.push { cls := .type "range", data := .fields #[.int lo t, .int hi u, .int 1 v] }).objs.size, [(s.heap.push { cls := .type "range", data := .fields #[.int lo t, .int hi u, .int 1 v] }).objs.size], _, _, H, rfl,
    I1.kept (t' := tk) fun b o e => Heap.get?_push_of_some _ e, turn_range _ lo (hi - lo).toNat, ?_, fun b hb => ?_, q⟩
  · have e1 : lo + ((0 : Nat) : Int) * 1 = lo := by simp
    have e2 : (((hi - lo).toNat : Nat) : Int) - ((0 : Nat) : Int) = Builtin.Range.rangeSize lo hi 1 := by rw [rangeSize_one]; split <;> omega
    show IsRangeIter _ _ (lo + ((0 : Nat) : Int) * 1) ((((hi - lo).toNat : Nat) : Int) - ((0 : Nat) : Int)) 1
    rw [e1, e2]
    exact Heap.get?_push_size _ rfl
  · have e : b = (s.heap.push { cls := .type "range", data := .fields #[.int lo t, .int hi u, .int 1 v] }).objs.size := by simpa using hb
    subst e
    exact I1.fpOk (Nat.le_refl _) (I1.hok.fresh (Nat.le_refl _))
def iRng1 (ta : TA) : TI := fun σ H R => ta σ H fun vs H1 => ∃ j : Int, vs = [.int j] ∧ -(2 ^ 62) ≤ j ∧ j < 2 ^ 62 ∧ R (Itr 0 j.toNat) H1
def iRng2 (ta : TA) : TI := fun σ H R => ta σ H fun vs H1 => ∃ i j : Int, vs = [.int i, .int j] ∧ (-(2 ^ 62) ≤ i ∧ i < 2 ^ 62 ∧ -(2 ^ 62) ≤ j ∧ j < 2 ^ 62) ∧ R (Itr i (j - i).toNat) H1
theorem pi_range1 {a : Expr} {ta : TA} {p pos : Pos} (hg : Gl X "range") (hm : X.mg "range" = none) (ha : PA X [a] ta) (hs : starEach [a] X.env = [(false, eval a X.env)] := by rfl) : PI X tg (.Call (.Name "range" p) [a] [] pos) (iRng1 ta) := by
  intro pins s σ H R I h
  refine Call_ (ld_blt I hg hm boot_range (PyProof.Rows.callWith_type1 (thn (ha pos pins s σ H _ I h) fun us s1 ⟨vs, H1, I1, r1, q1⟩ => ?_) hs rfl))
  obtain ⟨j, e, q1, q2, q⟩ := q1
  subst e
  cases r1 with
  | cons r rr =>
    cases rr
    obtain ⟨t, rfl⟩ := r
    exact call_range_1 (range_it I1 (by omega) (by omega) q1 q2 (by simpa using q))
theorem pi_range2 {a b : Expr} {ta : TA} {p pos : Pos} (hg : Gl X "range") (hm : X.mg "range" = none) (ha : PA X [a, b] ta) (hs : starEach [a, b] X.env = [(false, eval a X.env), (false, eval b X.env)] := by rfl) (hs2 : starEach [b] X.env = [(false, eval b X.env)] := by rfl) :
    PI X tg (.Call (.Name "range" p) [a, b] [] pos) (iRng2 ta) := by
  intro pins s σ H R I h
  refine Call_ (ld_blt I hg hm boot_range (PyProof.Rows.callWith_type1 (thn (ha pos pins s σ H _ I h) fun us s1 ⟨vs, H1, I1, r1, q1⟩ => ?_) (by rw [hs, hs2]) (by rw [hs2]; rfl)))
  obtain ⟨i, j, e, ⟨q1, q2, q3, q4⟩, q⟩ := q1
  subst e
  cases r1 with
  | cons r rr =>
    cases rr with
    | cons r' rr =>
      cases rr
      obtain ⟨t, rfl⟩ := r
      obtain ⟨t', rfl⟩ := r'
      exact call_range_2 (range_it I1 q1 q2 q3 q4 q)

def tFor (wi : TI) (g : TG) (tb : TS) : TS := fun D σ H => wi σ H fun J H1 => ∃ W : Nat → Nat → St → Hp → Prop, (∃ m, W 0 m σ H1) ∧ ∀ i m σ H, W i m σ H →
  (J.stop i H ∧ D.nx σ H) ∨ (J.go i H ∧ ∃ N : St → Hp → Prop, (∀ σ' H', N σ' H' → ∃ m', m' < m ∧ W (i + 1) m' σ' H') ∧ ∀ x H', J.yld i H x H' → g x σ H' fun σ2 H2 => tb { D with nx := N, ct := N, bk := D.nx } σ2 H2)
def pinsAt (fp : List Addr) (h : Heap) : List (Addr × Obj) := fp.filterMap fun b => (h.get? b).map fun o => (b, o)
theorem mem_pinsAt {fp : List Addr} {h : Heap} {b : Addr} {o : Obj} (hb : b ∈ fp) (e : h.get? b = some o) : (b, o) ∈ pinsAt fp h := List.mem_filterMap.mpr ⟨b, hb, by rw [e]; rfl⟩
theorem of_pinsAt {fp : List Addr} {h : Heap} {p : Addr × Obj} (hp : p ∈ pinsAt fp h) : p.1 ∈ fp ∧ h.get? p.1 = some p.2 := by
  obtain ⟨b, hb, e⟩ := List.mem_filterMap.mp hp
  cases q : h.get? b with
  | none => rw [q] at e; cases e
  | some o =>
    rw [q] at e
    have e' : (b, o) = p := Option.some.inj e
    subst e'
    exact ⟨hb, q⟩
theorem Inv.pinned {pins : List (Addr × Obj)} {σ : St} {H : Hp} {s : Shared} {fp : List Addr} (I : Inv X pins σ H s) (hf : ∀ b ∈ fp, FpOk X pins H b) (ho : ∀ b ∈ fp, ∃ o, s.heap.get? b = some o ∧ ∀ v, o.data ≠ .cell v) : Inv X (pins ++ pinsAt fp s.heap) σ H s :=
  I.pins_of fun p hp => (List.mem_append.mp hp).elim (fun z => I.pin p (List.mem_append_right _ z)) fun z => by
    obtain ⟨hb, e⟩ := of_pinsAt z
    obtain ⟨f0, f1, f2, _⟩ := hf p.1 hb
    obtain ⟨o, e', d⟩ := ho p.1 hb
    rw [e] at e'; cases e'
    exact ⟨e, f0, f1, f2, d⟩
theorem Inv.unpinned {pins pl : List (Addr × Obj)} {σ : St} {H : Hp} {s : Shared} (I : Inv X (pins ++ pl) σ H s) : Inv X pins σ H s := I.pins_of fun p hp => I.pin p (List.mem_append_right _ (List.mem_append_left _ hp))
theorem ps_for {iter : Expr} {body : List Stmt} {wi : TI} {g : TG} {tb : TS} {pos : Pos} (hp : PassesOwn (model X.prog X.w) X.A X.env X.xe) (hc : X.calm = true) (hi : PI X tg iter wi) (hg : PG X tg g) (hb : PSs X body tb)
    (hs : ∀ x, foldedSetIterable iter X.env x = pure x := by intro _; rfl) : PS X (.For tg iter body [] pos) (tFor wi g tb) := by
  intro pins s σ H D I h
  refine wpAny_For (thn (hi pins s σ H _ I h) fun v s1 h1 => thn h1 fun itv s2 h2 => ?_) hs
  obtain ⟨it, fp, tn, J, H2, e, I2, T, st2, f2, W, ⟨m0, w0⟩, turn⟩ := h2
  subst e
  -- what stays true of the iterator's objects through the loop
  have stat : ∀ {H' : Hp}, (∀ b ∈ fp, H' b = none) → ∀ b ∈ fp, FpOk X pins H' b := fun hn b hb => ⟨hn b hb, (f2 b hb).2⟩
  refine codeAny_forLoop_any (fun n s' => ∃ i σ' H', Inv X pins σ' H' s' ∧ tn i s'.heap ∧ (∀ b ∈ fp, H' b = none) ∧ W i n σ' H') ?_ m0 ⟨0, σ, H2, I2, st2, fun b hb => (f2 b hb).1, w0⟩
  rintro n s3 ⟨i, σ3, H3, I3, st3, fr3, w3⟩
  rcases turn i n σ3 H3 w3 with ⟨stop, qn⟩ | ⟨go, N, hN, step⟩
  · refine wpAny_passesOwn hp (thn (T.done X rfl rfl rfl hc i pins s3 σ3 H3 X.xe I3 (stat fr3) st3 stop) fun r s4 ⟨hr, I4⟩ => ?_)
    subst hr
    exact wpAny_execs_nil ⟨σ3, H3, I4, qn⟩
  · refine wpAny_passesOwn hp (thn (T.item X rfl rfl rfl hc i pins s3 σ3 H3 X.xe I3 (stat fr3) st3 go) fun r s4 ⟨u, hr, h4⟩ => ?_)
    subst hr
    refine wpAny_passesOwn hp (thn h4 fun _ s5 ⟨x, H5, I5, r5, y5, st5, fr5⟩ => ?_)
    have I5' := I5.pinned (stat fr5) (T.obj _ _ st5)
    refine wpAny_passesOwn hp (thn (hg _ s5 σ3 H5 x u _ I5' r5 (step x H5 y5)) fun _ s6 ⟨σ6, H6, I6, q6⟩ => ?_)
    refine wpAny_passesOwn hp (thn (hb _ s6 σ6 H6 _ I6 q6) fun f s7 q7 => ?_)
    have again : ∀ {σ7 : St} {H7 : Hp}, Inv X (pins ++ pinsAt fp s5.heap) σ7 H7 s7 → N σ7 H7 → ∃ m, m < n ∧ ∃ i σ' H', Inv X pins σ' H' s7 ∧ tn i s7.heap ∧ (∀ b ∈ fp, H' b = none) ∧ W i m σ' H' := fun {σ7 H7} I7 n7 => by
      obtain ⟨m', hm, w7⟩ := hN σ7 H7 n7
      refine ⟨m', hm, i + 1, σ7, H7, I7.unpinned, T.keep _ _ _ st5 fun b hb o e => (I7.pin (b, o) (List.mem_append_right _ (List.mem_append_right _ (mem_pinsAt hb e)))).1, fun b hb => ?_, w7⟩
      obtain ⟨o, e, d⟩ := T.obj _ _ st5 b hb
      exact (I7.pin (b, o) (List.mem_append_right _ (List.mem_append_right _ (mem_pinsAt hb e)))).2.1
    cases f with
    | next => obtain ⟨σ7, H7, I7, n7⟩ := q7; exact again I7 n7
    | cont => obtain ⟨σ7, H7, I7, n7⟩ := q7; exact again I7 n7
    | brk => obtain ⟨σ7, H7, I7, q7⟩ := q7; exact ⟨σ7, H7, I7.unpinned, q7⟩
    | ret v => obtain ⟨x7, σ7, H7, I7, r7, q7⟩ := q7; exact ⟨x7, σ7, H7, I7.unpinned, r7, q7⟩
end

theorem for_list {K : PySem.W.Frag} {a : Addr} {xs : List V} {g : TG} {tb : TS} {D : Ends} {σ : St} {H : Hp} (Pv : Nat → St → Hp → Prop) (h0 : Pv 0 σ H) (hl : ∀ i σ H, i ≤ xs.length → Pv i σ H → SqL K H a xs)
    (hs : ∀ i x σ H, xs[i]? = some x → Pv i σ H → g x σ H fun σ2 H2 => tb { D with nx := Pv (i + 1), ct := Pv (i + 1), bk := D.nx } σ2 H2) (hd : ∀ σ H, Pv xs.length σ H → D.nx σ H) :
    ∃ W : Nat → Nat → St → Hp → Prop, (∃ m, W 0 m σ H) ∧ ∀ i m σ H, W i m σ H →
      ((Itl K a).stop i H ∧ D.nx σ H) ∨ ((Itl K a).go i H ∧ ∃ N : St → Hp → Prop, (∀ σ' H', N σ' H' → ∃ m', m' < m ∧ W (i + 1) m' σ' H') ∧ ∀ x H', (Itl K a).yld i H x H' → g x σ H' fun σ2 H2 => tb { D with nx := N, ct := N, bk := D.nx } σ2 H2) := by
  refine ⟨fun i m σ H => m = xs.length - i ∧ i ≤ xs.length ∧ Pv i σ H, ⟨xs.length, by simp, Nat.zero_le _, h0⟩, ?_⟩
  rintro i m σ H ⟨rfl, hi, p⟩
  have q := hl i σ H hi p
  by_cases hlt : i < xs.length
  · refine .inr ⟨⟨xs, xs[i], q, by simp [hlt]⟩, Pv (i + 1), fun σ' H' p' => ⟨xs.length - (i + 1), by omega, rfl, hlt, p'⟩, fun x H' y => ?_⟩
    obtain ⟨e, y⟩ := y
    subst e
    exact hs i x σ _ (y xs q) p
  · have e : i = xs.length := by omega
    subst e
    exact .inl ⟨⟨xs, q, Nat.le_refl _⟩, hd σ H p⟩
theorem for_range {lo : Int} {n : Nat} {g : TG} {tb : TS} {D : Ends} {σ : St} {H : Hp} (Pv : Nat → St → Hp → Prop) (h0 : Pv 0 σ H)
    (hs : ∀ i σ H, i < n → Pv i σ H → g (.int (lo + i)) σ H fun σ2 H2 => tb { D with nx := Pv (i + 1), ct := Pv (i + 1), bk := D.nx } σ2 H2) (hd : ∀ σ H, Pv n σ H → D.nx σ H) :
    ∃ W : Nat → Nat → St → Hp → Prop, (∃ m, W 0 m σ H) ∧ ∀ i m σ H, W i m σ H →
      ((Itr lo n).stop i H ∧ D.nx σ H) ∨ ((Itr lo n).go i H ∧ ∃ N : St → Hp → Prop, (∀ σ' H', N σ' H' → ∃ m', m' < m ∧ W (i + 1) m' σ' H') ∧ ∀ x H', (Itr lo n).yld i H x H' → g x σ H' fun σ2 H2 => tb { D with nx := N, ct := N, bk := D.nx } σ2 H2) := by
  refine ⟨fun i m σ H => m = n - i ∧ i ≤ n ∧ Pv i σ H, ⟨n, by simp, Nat.zero_le _, h0⟩, ?_⟩
  rintro i m σ H ⟨rfl, hi, p⟩
  by_cases hlt : i < n
  · refine .inr ⟨hlt, Pv (i + 1), fun σ' H' p' => ⟨n - (i + 1), by omega, rfl, hlt, p'⟩, fun x H' y => ?_⟩
    obtain ⟨e, y⟩ := y
    subst e y
    exact hs i σ _ hlt p
  · have e : i = n := by omega
    subst e
    exact .inl ⟨Nat.le_refl _, hd σ H p⟩
end L2

namespace L2
open PySem PySem.Spec PyProof.Rows

abbrev R2 := V → V → Hp → VK → Prop
def OpR (X : Cx) (f : Value → Value → Sem Value) (r : R2) : Prop :=
  ∀ (pins : List (Addr × Obj)) (s : Shared) (σ : St) (H : Hp) (x y : V) (v u : Value) (Q : VK), Inv X pins σ H s → RelV x v → RelV y u → r x y H Q →
    wpAny (model X.prog X.w) X.A (f v u) (EP X pins σ Q) X.xe s
def UnR (X : Cx) (f : Value → Sem Value) (r : V → Hp → VK → Prop) : Prop :=
  ∀ (pins : List (Addr × Obj)) (s : Shared) (σ : St) (H : Hp) (x : V) (v : Value) (Q : VK), Inv X pins σ H s → RelV x v → r x H Q →
    wpAny (model X.prog X.w) X.A (f v) (EP X pins σ Q) X.xe s
def CallR (X : Cx) (f : Value) (r : List V → Hp → VK → Prop) : Prop :=
  ∀ (pins : List (Addr × Obj)) (s : Shared) (σ : St) (H : Hp) (xs : List V) (us : List Value) (Q : VK), Inv X pins σ H s → Vals xs us → r xs H Q →
    wpAny (model X.prog X.w) X.A (call f us) (EP X pins σ Q) X.xe s
def TruR (X : Cx) (r : V → Hp → (Bool → Hp → Prop) → Prop) : Prop :=
  ∀ (pins : List (Addr × Obj)) (s : Shared) (σ : St) (H : Hp) (x : V) (v : Value) (Q : Bool → Hp → Prop), Inv X pins σ H s → RelV x v → r x H Q →
    wpAny (model X.prog X.w) X.A (truthy v) (TP X pins σ Q) X.xe s

def tOp (r : R2) (ta tb : TE) : TE := fun σ H Q => ta σ H fun x H1 => tb σ H1 fun y H2 => r x y H2 Q
def tUn (r : V → Hp → VK → Prop) (ta : TE) : TE := fun σ H Q => ta σ H fun x H1 => r x H1 Q
def rI (C : Int → Int → Prop) (g : Int → Int → V) : R2 := fun x y H Q => ∃ i j, x = .int i ∧ y = .int j ∧ C i j ∧ Q (g i j) H
def rI0 (g : Int → Int → V) : R2 := fun x y H Q => ∃ i j, x = .int i ∧ y = .int j ∧ Q (g i j) H
def rU (g : Int → V) : V → Hp → VK → Prop := fun x H Q => ∃ i, x = .int i ∧ Q (g i) H

section
variable {X : Cx} {a b c : Expr} {ta tb tc : TE} {pos : Pos}

theorem binT (ha : PE X a ta) (hb : PE X b tb) {pins : List (Addr × Obj)} {s : Shared} {σ : St} {H : Hp} {R : V → V → Hp → Prop} (I : Inv X pins σ H s)
    (h : ta σ H fun x H1 => tb σ H1 fun y H2 => R x y H2) {Q : Value → Shared → Prop} {f : Value → Value → Sem Value}
    (hf : ∀ v u s2 x y H2, Inv X pins σ H2 s2 → RelV x v → RelV y u → R x y H2 → wpAny (model X.prog X.w) X.A (f v u) Q X.xe s2) :
    wpAny (model X.prog X.w) X.A (eval a X.env) (fun v s₁ => wpAny (model X.prog X.w) X.A (eval b X.env) (fun u s₂ => wpAny (model X.prog X.w) X.A (f v u) Q X.xe s₂) X.xe s₁) X.xe s := by
  refine thn (ha pins s σ H _ I h) fun v s1 ⟨x, H1, I1, r1, q1⟩ => ?_
  refine thn (hb pins s1 σ H1 _ I1 q1) fun u s2 ⟨y, H2, I2, r2, q2⟩ => ?_
  exact hf v u s2 x y H2 I2 r1 r2 q2

theorem pe_op {op : Operator} {r : R2} (ho : OpR X (binaryOp op) r) (ha : PE X a ta) (hb : PE X b tb) : PE X (.BinOp a op b pos) (tOp r ta tb) := by
  intro pins s σ H Q I h
  exact wpAny_BinOp (binT ha hb I h fun v u s2 x y H2 I2 rx ry q => ho pins s2 σ H2 x y v u Q I2 rx ry q)
theorem pe_un {op : UnaryOp} {r : V → Hp → VK → Prop} (ho : UnR X (unaryOp op) r) (ha : PE X a ta) : PE X (.UnaryOp op a pos) (tUn r ta) := by
  intro pins s σ H Q I h
  exact UnaryOp_ (thn (ha pins s σ H _ I h) fun v s1 ⟨x, H1, I1, r1, q1⟩ => ho pins s1 σ H1 x v Q I1 r1 q1)
theorem opI {f : Value → Value → Sem Value} {C : Int → Int → Prop} {g : Int → Int → Int}
    (rule : ∀ (i j : Int) (t u : Tok) (s : Shared) (Q : Value → Shared → Prop) (E : Value → Shared → Prop), C i j → Q (.int (g i j) s.toks) { s with toks := s.toks + 1 } → wpAny (model X.prog X.w) X.A (f (.int i t) (.int j u)) Q E s) :
    OpR X f (rI C fun i j => .int (g i j)) := by
  intro pins s σ H x y v u Q I rx ry h
  obtain ⟨i, j, rfl, rfl, hc, q⟩ := h
  obtain ⟨t, rfl⟩ := rx
  obtain ⟨t', rfl⟩ := ry
  exact rule i j t t' s _ _ hc ⟨.int (g i j), H, I.tok _, ⟨_, rfl⟩, q⟩
theorem opI0 {f : Value → Value → Sem Value} {g : Int → Int → Int}
    (rule : ∀ (i j : Int) (t u : Tok) (s : Shared) (Q : Value → Shared → Prop) (E : Value → Shared → Prop), Q (.int (g i j) s.toks) { s with toks := s.toks + 1 } → wpAny (model X.prog X.w) X.A (f (.int i t) (.int j u)) Q E s) :
    OpR X f (rI0 fun i j => .int (g i j)) := by
  intro pins s σ H x y v u Q I rx ry h
  obtain ⟨i, j, rfl, rfl, q⟩ := h
  obtain ⟨t, rfl⟩ := rx
  obtain ⟨t', rfl⟩ := ry
  exact rule i j t t' s _ _ ⟨.int (g i j), H, I.tok _, ⟨_, rfl⟩, q⟩
theorem opB0 {f : Value → Value → Sem Value} {g : Int → Int → Bool}
    (rule : ∀ (i j : Int) (t u : Tok) (s : Shared) (Q : Value → Shared → Prop) (E : Value → Shared → Prop), Q (.bool (g i j)) s → wpAny (model X.prog X.w) X.A (f (.int i t) (.int j u)) Q E s) :
    OpR X f (rI0 fun i j => .bl (g i j)) := by
  intro pins s σ H x y v u Q I rx ry h
  obtain ⟨i, j, rfl, rfl, q⟩ := h
  obtain ⟨t, rfl⟩ := rx
  obtain ⟨t', rfl⟩ := ry
  exact rule i j t t' s _ _ ⟨.bl (g i j), H, I, rfl, q⟩

def CPow (i j : Int) : Prop := 0 ≤ j ∧ j ≤ 1000000 ∧ i.natAbs < 2 ^ 64
theorem op_add : OpR X (binaryOp .Add) (rI0 fun i j => .int (i + j)) := opI0 fun _ _ _ _ _ _ _ q => add_int q
theorem op_sub : OpR X (binaryOp .Sub) (rI0 fun i j => .int (i - j)) := opI0 fun _ _ _ _ _ _ _ q => sub_int q
theorem op_mod : OpR X (binaryOp .Mod) (rI (fun _ j => 0 < j) fun i j => .int (i % j)) := opI fun i j _ _ _ _ _ hc q => by
  have h1 : (0 : Int) < j := hc
  exact mod_int' (by omega) (by rw [Int.fmod_eq_emod_of_nonneg i (by omega)]; exact q)
theorem op_shl : OpR X (binaryOp .LShift) (rI CPow fun i j => .int (i * 2 ^ j.toNat)) := opI fun _ _ _ _ _ _ _ hc q => lshift_int_small hc.1 hc.2.1 hc.2.2 q
theorem op_and : OpR X (binaryOp .BitAnd) (rI0 fun i j => .int (Builtin.bitAnd i j)) := opI0 fun _ _ _ _ _ _ _ q => and_int q
theorem unI {f : Value → Sem Value} {g : Int → Int}
    (rule : ∀ (i : Int) (t : Tok) (s : Shared) (Q : Value → Shared → Prop) (E : Value → Shared → Prop), Q (.int (g i) s.toks) { s with toks := s.toks + 1 } → wpAny (model X.prog X.w) X.A (f (.int i t)) Q E s) :
    UnR X f (rU fun i => .int (g i)) := by
  intro pins s σ H x v Q I rx h
  obtain ⟨i, rfl, q⟩ := h
  obtain ⟨t, rfl⟩ := rx
  exact rule i t s _ _ ⟨.int (g i), H, I.tok _, ⟨_, rfl⟩, q⟩
theorem un_neg : UnR X (unaryOp .USub) (rU fun i => .int (-i)) := unI fun _ _ _ _ _ q => neg_int q
theorem un_inv : UnR X (unaryOp .Invert) (rU fun i => .int (Builtin.bitNot i)) := unI fun _ _ _ _ _ q => invert_int q

end

def scal : V → V → Bool
  | .non, .non => true | .non, .int _ => true | .int _, .non => true | .non, .bl _ => true | .bl _, .non => true | .non, .str _ => true | .str _, .non => true
  | .int _, .int _ => true | .bl _, .bl _ => true | .str _, .str _ => true | .byt _, .byt _ => true
  | .int _, .str _ => true | .str _, .int _ => true | .bl _, .str _ => true | .str _, .bl _ => true
  | _, _ => false
def rEq : R2 := fun x y H Q => scal x y = true ∧ Q (.bl (decide (x = y))) H
def rNe : R2 := fun x y H Q => scal x y = true ∧ Q (.bl (!decide (x = y))) H

theorem dec_int {i j : Int} : decide (V.int i = V.int j) = (i == j) := by
  rw [Bool.eq_iff_iff]
  simp
theorem dec_bl {i j : Bool} : decide (V.bl i = V.bl j) = (i == j) := by
  rw [Bool.eq_iff_iff]
  simp
theorem dec_str {i j : Str} : decide (V.str i = V.str j) = (i == j) := by
  rw [Bool.eq_iff_iff]
  simp
theorem dec_byt {i j : Array UInt8} : decide (V.byt i = V.byt j) = (i.toList == j.toList) := by
  rw [Bool.eq_iff_iff]
  cases i
  cases j
  simp

section
variable {X : Cx} {a b c : Expr} {ta tb tc : TE} {pos : Pos}
theorem fin_bl {pins : List (Addr × Obj)} {σ : St} {H : Hp} {s : Shared} {Q : VK} {k k' : Bool} (I : Inv X pins σ H s) (q : Q (.bl k) H) (e : k = k') : EP X pins σ Q (.bool k') s := by
  subst e
  exact ⟨.bl k, H, I, rfl, q⟩
theorem op_eq : OpR X (compareOp .Eq) rEq := by
  intro pins s σ H x y v u Q I rx ry h
  obtain ⟨hs, q⟩ := h
  cases x with
  | non =>
    cases rx
    cases y with
    | non => cases ry; exact PySem.EqNone.eq_none_none (fin_bl I q (by simp))
    | bl j => cases ry; exact PySem.EqNone.eq_none_bool (fin_bl I q (by simp))
    | int j => obtain ⟨t', rfl⟩ := ry; exact PySem.EqNone.eq_none_int (fin_bl I q (by simp))
    | str j => obtain ⟨t', rfl⟩ := ry; exact PySem.EqNone.eq_none_str (fin_bl I q (by simp))
    | _ => exact absurd (show false = true from hs) Bool.false_ne_true
  | bl i =>
    cases rx
    cases y with
    | non => cases ry; exact PySem.EqNone.eq_bool_none (fin_bl I q (by simp))
    | bl j => cases ry; exact eq_bool (fin_bl I q dec_bl)
    | str j => obtain ⟨t', rfl⟩ := ry; exact PySem.EqMixed.eq_bool_str (fin_bl I q (by simp))
    | _ => exact absurd (show false = true from hs) Bool.false_ne_true
  | int i =>
    obtain ⟨t, rfl⟩ := rx
    cases y with
    | non => cases ry; exact PySem.EqNone.eq_int_none (fin_bl I q (by simp))
    | int j => obtain ⟨t', rfl⟩ := ry; exact eq_int (fin_bl I q dec_int)
    | str j => obtain ⟨t', rfl⟩ := ry; exact PySem.EqMixed.eq_int_str (fin_bl I q (by simp))
    | _ => exact absurd (show false = true from hs) Bool.false_ne_true
  | str i =>
    obtain ⟨t, rfl⟩ := rx
    cases y with
    | non => cases ry; exact PySem.EqNone.eq_str_none (fin_bl I q (by simp))
    | bl j => cases ry; exact PySem.EqMixed.eq_str_bool (fin_bl I q (by simp))
    | int j => obtain ⟨t', rfl⟩ := ry; exact PySem.EqMixed.eq_str_int (fin_bl I q (by simp))
    | str j => obtain ⟨t', rfl⟩ := ry; exact eq_str (fin_bl I q dec_str)
    | _ => exact absurd (show false = true from hs) Bool.false_ne_true
  | byt i =>
    obtain ⟨t, rfl⟩ := rx
    cases y with
    | byt j => obtain ⟨t', rfl⟩ := ry; exact PySem.W.eq_bytes (fin_bl I q dec_byt)
    | _ => exact absurd (show false = true from hs) Bool.false_ne_true
  | _ => cases y <;> exact absurd (show false = true from hs) Bool.false_ne_true
theorem op_ne : OpR X (compareOp .NotEq) rNe := by
  intro pins s σ H x y v u Q I rx ry h
  obtain ⟨hs, q⟩ := h
  cases x with
  | non =>
    cases rx
    cases y with
    | non => cases ry; exact PySem.EqNone.ne_none_none (fin_bl I q (by simp))
    | bl j => cases ry; exact PySem.EqNone.ne_none_bool (fin_bl I q (by simp))
    | int j => obtain ⟨t', rfl⟩ := ry; exact PySem.EqNone.ne_none_int (fin_bl I q (by simp))
    | str j => obtain ⟨t', rfl⟩ := ry; exact PySem.EqNone.ne_none_str (fin_bl I q (by simp))
    | _ => exact absurd (show false = true from hs) Bool.false_ne_true
  | bl i =>
    cases rx
    cases y with
    | non => cases ry; exact PySem.EqNone.ne_bool_none (fin_bl I q (by simp))
    | bl j => cases ry; exact ne_bool (fin_bl I q (congrArg not dec_bl))
    | str j => obtain ⟨t', rfl⟩ := ry; exact PySem.EqMixed.ne_bool_str (fin_bl I q (by simp))
    | _ => exact absurd (show false = true from hs) Bool.false_ne_true
  | int i =>
    obtain ⟨t, rfl⟩ := rx
    cases y with
    | non => cases ry; exact PySem.EqNone.ne_int_none (fin_bl I q (by simp))
    | int j => obtain ⟨t', rfl⟩ := ry; exact ne_int (fin_bl I q (congrArg not dec_int))
    | str j => obtain ⟨t', rfl⟩ := ry; exact PySem.EqMixed.ne_int_str (fin_bl I q (by simp))
    | _ => exact absurd (show false = true from hs) Bool.false_ne_true
  | str i =>
    obtain ⟨t, rfl⟩ := rx
    cases y with
    | non => cases ry; exact PySem.EqNone.ne_str_none (fin_bl I q (by simp))
    | bl j => cases ry; exact PySem.EqMixed.ne_str_bool (fin_bl I q (by simp))
    | int j => obtain ⟨t', rfl⟩ := ry; exact PySem.EqMixed.ne_str_int (fin_bl I q (by simp))
    | str j => obtain ⟨t', rfl⟩ := ry; exact ne_str (fin_bl I q (congrArg not dec_str))
    | _ => exact absurd (show false = true from hs) Bool.false_ne_true
  | byt i =>
    obtain ⟨t, rfl⟩ := rx
    cases y with
    | byt j => obtain ⟨t', rfl⟩ := ry; exact PySem.W.ne_bytes (fin_bl I q (congrArg not dec_byt))
    | _ => exact absurd (show false = true from hs) Bool.false_ne_true
  | _ => cases y <;> exact absurd (show false = true from hs) Bool.false_ne_true

theorem op_lt : OpR X (compareOp .Lt) (rI0 fun i j => .bl (decide (i < j))) := opB0 fun _ _ _ _ _ _ _ q => lt_int q
theorem op_le : OpR X (compareOp .LtE) (rI0 fun i j => .bl (decide (i ≤ j))) := opB0 fun _ _ _ _ _ _ _ q => le_int q
theorem op_gt : OpR X (compareOp .Gt) (rI0 fun i j => .bl (decide (j < i))) := opB0 fun _ _ _ _ _ _ _ q => gt_int q
theorem op_ge : OpR X (compareOp .GtE) (rI0 fun i j => .bl (decide (j ≤ i))) := opB0 fun _ _ _ _ _ _ _ q => ge_int q
theorem op_isN : OpR X (compareOp .Is) (fun x y H Q => y = .non ∧ Q (.bl (decide (x = .non))) H) := by
  intro pins s σ H x y v u Q I rx ry h
  obtain ⟨rfl, q⟩ := h
  cases ry
  refine is_none_gen (fin_bl I q ?_)
  cases x <;> first
    | (cases rx; rfl)
    | (obtain ⟨t, rfl⟩ := rx; rfl)
theorem nomark (b : Expr) {op : CmpOp} (h : op ≠ .In := by decide) (h2 : op ≠ .NotIn := by decide) : behindInMarks op b = false := by
  have e1 : (op == CmpOp.In) = false := by cases op <;> first | rfl | exact absurd rfl h
  have e2 : (op == CmpOp.NotIn) = false := by cases op <;> first | rfl | exact absurd rfl h2
  cases b <;> simp [behindInMarks, e1, e2]
theorem pe_cmpR {op : CmpOp} {r : R2} (ho : OpR X (compareOp op) r) (ha : PE X a ta) (hb : PE X b tb) (hm : behindInMarks op b = false) : PE X (.Compare a [op] [b] pos) (tOp r ta tb) := by
  intro pins s σ H Q I h
  exact wpAny_Compare1 (binT ha hb I h fun v u s2 x y H2 I2 rx ry q => ho pins s2 σ H2 x y v u Q I2 rx ry q) hm
def tTest (t : TE) : TT := fun σ H Q => t σ H fun x H' => ∃ k, x = .bl k ∧ Q k H'
theorem pt_cmpR {op : CmpOp} {r : R2} (ho : OpR X (compareOp op) r) (ha : PE X a ta) (hb : PE X b tb) (hm : behindInMarks op b = false) : PT X (.Compare a [op] [b] pos) (tTest (tOp r ta tb)) := by
  intro pins s σ H Q I h
  refine wpAny_isTrue_Compare1 (thn (ha pins s σ H _ I h) fun v s1 ⟨x, H1, I1, r1, q1⟩ => thn (hb pins s1 σ H1 _ I1 q1) fun u s2 ⟨y, H2, I2, r2, q2⟩ =>
    thn (ho pins s2 σ H2 x y v u _ I2 r1 r2 q2) fun c s3 ⟨z, H3, I3, r3, k, e, q3⟩ => ?_) hm
  subst e
  cases r3
  exact wpAny_truthy_bool ⟨H3, I3, q3⟩
def tChain (r r' : R2) (ta tb tc : TE) : TE := fun σ H Q => ta σ H fun x H1 => tb σ H1 fun y H2 => r x y H2 fun z H3 => ∃ k, z = .bl k ∧
  (if k = true then tc σ H3 fun w' H4 => r' y w' H4 Q else Q (.bl false) H3)
theorem pe_chain {op op' : CmpOp} {r r' : R2} (ho : OpR X (compareOp op) r) (ho' : OpR X (compareOp op') r') (ha : PE X a ta) (hb : PE X b tb) (hc : PE X c tc)
    (hm : lastMarks [op, op'] [b, c] = false := by with_unfolding_all rfl) : PE X (.Compare a [op, op'] [b, c] pos) (tChain r r' ta tb tc) := by
  intro pins s σ H Q I h
  refine Compare_chain (thn (ha pins s σ H _ I h) fun v s1 ⟨x, H1, I1, r1, q1⟩ => chain_link (thn (hb pins s1 σ H1 _ I1 q1) fun u s2 ⟨y, H2, I2, r2, q2⟩ =>
    thn (ho pins s2 σ H2 x y v u _ I2 r1 r2 q2) fun d s3 ⟨z, H3, I3, r3, k, e, q3⟩ => ?_)) hm
  subst e
  cases r3
  refine wpAny_truthy_bool ?_
  cases k with
  | false => exact ite_ff ⟨.bl false, H3, I3, rfl, q3⟩
  | true => exact ite_tt (chain_last (thn (hc pins s3 σ H3 _ I3 q3) fun w' s4 ⟨z', H4, I4, r4, q4⟩ => ho' pins s4 σ H4 y z' u w' Q I4 r2 r4 q4))
def TruV (K : PySem.W.Frag) (x : V) (H : Hp) (k : Bool) : Prop :=
  match x with
  | .non => k = false
  | .bl b => k = b
  | .int i => k = (i != 0)
  | .str y => y.length ≤ sizeLine ∧ k = ((y.length : Int) != 0)
  | .byt y => y.size ≤ sizeLine ∧ k = ((y.size : Int) != 0)
  | .ref p => (∃ xs, SqL K H p xs ∧ k = !xs.isEmpty) ∨ (∃ xs, SqT K H p xs ∧ k = !xs.isEmpty) ∨ ∃ kvs, H p = some (.dK kvs) ∧ k = !kvs.isEmpty
  | _ => False
theorem isEmpty_kv {κ : Type} {kvs : List (κ × V)} {vs : List (κ × Value)} (r : KV kvs vs) : (!vs.isEmpty) = !kvs.isEmpty := by
  cases r <;> rfl
theorem isEmpty_of {xs : List V} {its : List Value} (r : Vals xs its) : (!its.toArray.isEmpty) = !xs.isEmpty := by
  cases r <;> simp
theorem line63 : (sizeLine : Nat) < 2 ^ 63 := by rw [sizeLine_eq]; decide
theorem tru_ok : TruR X (fun x H Q => ∃ k, TruV X.K x H k ∧ Q k H) := by
  intro pins s σ H x v Q I rx h
  obtain ⟨k, e, q⟩ := h
  have hl := line63
  have hs : sizeLine = 16777216 := sizeLine_eq
  cases x with
  | non =>
    cases rx
    have e' : k = false := e
    subst e'
    exact truthy_none ⟨H, I, q⟩
  | bl b =>
    cases rx
    have e' : k = b := e
    subst e'
    exact wpAny_truthy_bool ⟨H, I, q⟩
  | int i =>
    obtain ⟨t, rfl⟩ := rx
    have e' : k = (i != 0) := e
    subst e'
    exact PySem.P.truthy_int ⟨H, I, q⟩
  | str y =>
    obtain ⟨t, rfl⟩ := rx
    obtain ⟨hy, e'⟩ : y.length ≤ sizeLine ∧ k = ((y.length : Int) != 0) := e
    subst e'
    exact PySem.P.truthy_str (by omega) ⟨H, I.tok _, q⟩
  | byt y =>
    obtain ⟨t, rfl⟩ := rx
    obtain ⟨hy, e'⟩ : y.size ≤ sizeLine ∧ k = ((y.size : Int) != 0) := e
    subst e'
    exact PySem.W.truthy_bytes (by omega) ⟨H, I.tok _, q⟩
  | ref p =>
    cases rx
    have e' : (∃ xs, SqL X.K H p xs ∧ k = !xs.isEmpty) ∨ (∃ xs, SqT X.K H p xs ∧ k = !xs.isEmpty) ∨ ∃ kvs, H p = some (.dK kvs) ∧ k = !kvs.isEmpty := e
    rcases e' with ⟨xs, hx, e'⟩ | ⟨xs, hx, e'⟩ | ⟨kvs, hx, e'⟩
    · subst e'
      obtain ⟨its, r, pl, hz⟩ := I.list hx
      have hlen := r.length
      exact wpAny_truthy_list pl.isList (by simp only [List.size_toArray]; omega) ⟨H, I.tok _, by rw [isEmpty_of r]; exact q⟩
    · subst e'
      obtain ⟨its, r, pl, hz⟩ := I.tuple hx
      have hlen := r.length
      exact truthy_tuple pl (by simp only [List.size_toArray]; omega) ⟨H, I.tok _, by rw [isEmpty_of r]; exact q⟩
    · subst e'
      obtain ⟨hz, hS, vs, r, m⟩ : kvs.length ≤ sizeLine ∧ (p == sysModules) = false ∧ ∃ vs, KV kvs vs ∧ s.heap.DictOf (mixKind X.prog X.w) p vs := I.hok p _ hx
      have hlen : kvs.length = vs.length := Paired.length r
      exact wpAny_truthy_dict hS m (by omega) ⟨H, I.tok _, by rw [isEmpty_kv r]; exact q⟩
  | _ => exact (show False from e).elim
theorem pt_truth (ha : PE X a ta) (he : ∀ whole, isTrue a X.env whole = (do let v ← whole; standAt a.pos; holding [v] (truthy v))) :
    PT X a (fun σ H Q => ta σ H fun x H' => ∃ k, TruV X.K x H' k ∧ Q k H') := by
  intro pins s σ H Q I h
  exact isTrue_plain (thn (ha pins s σ H _ I h) fun v s1 ⟨x, H1, I1, r1, q1⟩ => tru_ok pins s1 σ H1 x v Q I1 r1 q1) (he _)

theorem vals1 {x : V} {us : List Value} (r : Vals [x] us) : ∃ u, us = [u] ∧ RelV x u := by
  cases r with
  | cons r1 r2 => cases r2; exact ⟨_, rfl, r1⟩
end
end L2

namespace L2
open PySem PySem.Spec PyProof.Rows

structure ObjM (h : Heap) (x dx C : Addr) (mA : Str → Option Value) : Prop where
  obj : h.get? x = some (PySem.W.instObj C dx)
  ns : h.Ns1 dx mA
  ne : dx ≠ x

theorem lookIn_ns {h : Heap} {dx : Addr} {mA : Str → Option Value} (n : h.Ns1 dx mA) : ∃ od, h.get? dx = some od ∧ ∀ name, PySem.W.lookIn name od = some (mA name) := by
  obtain ⟨o, es, ep, ho, hd, hk, _, hm⟩ := n
  refine ⟨o, ho, fun name => ?_⟩
  have e := hm name
  unfold nsFind findBy at e
  rw [← Array.find?_toList] at e
  unfold PySem.W.lookIn
  rw [hd]
  dsimp only
  split
  · rename_i y q
    rw [q] at e
    exact congrArg some e
  · rename_i q
    rw [q] at e
    have a : es.toList.any (·.refKey) = false := by
      rw [List.any_eq_false]
      intro y hy
      obtain ⟨z, t, hkey⟩ := hk y (Array.mem_toList_iff.mp hy)
      simp [DictEntry.refKey, hkey]
    have a' : ¬ es.toList.any (·.refKey) = true := by rw [a]; exact Bool.false_ne_true
    rw [if_neg a']
    exact congrArg some e

theorem ObjM.look {h : Heap} {x dx C : Addr} {mA : Str → Option Value} (I : ObjM h x dx C mA) : ∃ od, PySem.W.InstAt h x (PySem.W.instObj C dx) C (some od) ∧ ∀ name, PySem.W.lookIn name od = some (mA name) :=
  let ⟨od, ho, hl⟩ := lookIn_ns I.ns
  ⟨od, ⟨I.obj, rfl, rfl, ho⟩, hl⟩

section
variable {prog : Program} {w : World} {A : Around} {E : Value → Shared → Prop} {s : Shared} {K : PySem.W.Frag} {x dx C f : Addr} {mA : Str → Option Value} {name : Str} {v : Value}

theorem get_map {expr : Bool} {Q : Value → Shared → Prop} (X : K.In s.heap) (I : ObjM s.heap x dx C mA) (hg : PySem.W.plainGet K C name = true) (hh : PySem.W.hasDictIn K C = true)
    (ha : PySem.W.findIn K (.ref C) name = some none) (hv : mA name = some v) (hv' : PySem.W.handedIn v = true) (h : Q v { s with toks := s.toks + 1 }) :
    wpAny (model prog w) A (getAttr (.ref x) name expr) Q E s := by
  obtain ⟨od, J, hl⟩ := I.look
  exact PySem.W.get_value X J (PySem.W.plainGet_of hg).1 (PySem.W.findObj_own hh ha rfl (by rw [hl, hv])) hv' h

theorem get_meth {pl : Sem Bool} {Q : Value × List Value → Shared → Prop} (X : K.In s.heap) (I : ObjM s.heap x dx C mA) (hg : PySem.W.plainGet K C name = true)
    (hf : PySem.W.findIn K (.ref C) name = some (some (.ref f))) (ht : PySem.W.isFn K (.ref f) = true) (hv : mA name = none) (h : Q (.ref f, [.ref x]) s) :
    wpAny (model prog w) A (getMethod (.ref x) name pl) Q E s := by
  obtain ⟨od, J, hl⟩ := I.look
  exact PySem.W.method_fn X J (PySem.W.plainGet_of hg).1 (PySem.W.plainGet_of hg).2 hf (beq_iff_eq.mp ht) (by show (PySem.W.lookIn name od).map (·.isSome) = some false; rw [hl, hv]; rfl) h

theorem set_map {ns : List Str} {Q : Unit → Shared → Prop} (X : K.In s.heap) (I : ObjM s.heap x dx C mA)
    (hs : PySem.W.findIn K (.ref C) "__setattr__" = some (some (.builtin "object.__setattr__"))) (hp : PySem.W.plainOver K C = true) (ht : PySem.W.takerIn K C name = some none) (hh : PySem.W.hasDictIn K C = true)
    (hw : PySem.Within mA ns) (hsz : ns.length ≤ sizeLine)
    (h : ∀ h', ObjM h' x dx C (fun y => if y = name then some v else mA y) → Heap.SameBut dx s.heap h' → Q () { s with heap := h', toks := s.toks + 2 }) :
    wpAny (model prog w) A (setAttr (.ref x) name v) Q E s := by
  obtain ⟨od, J, hl⟩ := I.look
  refine PySem.W.set_plain X J hs (PySem.W.osa_open (s := { s with toks := s.toks + 1 }) (r := none) X J hp ht fun b => ?_)
  obtain ⟨cd, hc, hd'⟩ := PySem.W.any_some hh
  have hx : s.heap.get? x = some ⟨.ref C, some dx, .plain, #[]⟩ := I.obj
  refine wpAny_bind (wpAny_pure (wpAny_bind (wpAny_bind (wpAny_loadPart hx (wpAny_bind (PySem.W.Looks.here (s := { s with toks := s.toks + 1 }) (PySem.W.looks_clsIn X hc) ?_))))))
  rw [hd']
  refine wpAny_pure (a := some dx) (wpAny_bind (wpAny_pure (wpAny_bind ?_)))
  refine wpAny_nsSet1 (s := { s with toks := s.toks + 1 }) I.ns fun h' hn2 hs2 => ?_
  obtain ⟨oD, esD, epD, hoD, hdD, hcD⟩ := hn2.count (PySem.Within.cons name v hw)
  refine wpAny_bind (wpAny_lookBehind hoD (by rw [hdD]; exact pastItsLine_dict (Nat.le_trans hcD (by rw [List.length_cons]; omega))) ?_)
  exact wpAny_pure (h _ ⟨(hs2.2 _ (Ne.symm I.ne)).trans I.obj, hn2, I.ne⟩ hs2)

theorem make_map {R : Result → Shared → Prop} {vs : List Value} {kw : List (Str × Value)} (X : K.In s.heap) (hm : PySem.W.makesIn K C = true)
    (hi : PySem.W.findIn K (.ref C) "__init__" = some (some (.ref f))) (hf : PySem.W.typeIn K (.ref f) = some (.type "function"))
    (h : codeAny (model prog w) (A.under (.builtin "type.__call__" ⟨.ref C :: vs, kw⟩)) (.call (.ref f) ⟨.ref (s.heap.objs.size + 1) :: vs, kw⟩) (PySem.W.InitBack (s.heap.objs.size + 1) R)
      { s with heap := (s.heap.push PySem.W.emptyDict).push (PySem.W.instObj C s.heap.objs.size) }) :
    codeAny (model prog w) A (.call (.ref C) ⟨vs, kw⟩) R s := by
  obtain ⟨hh, g, d, t, os⟩ := s
  exact PySem.W.make_core (PySem.W.makes_of X hm) (PySem.W.looks_findIn X hi) (fun self => PySem.W.bind_fn X self hf) (.inl rfl) h
end

def putF (f : Str) (v : V) : List (Str × V) → List (Str × V)
  | [] => [(f, v)]
  | (g, x) :: r => if g = f then (g, v) :: r else (g, x) :: putF f v r
theorem lookup_putF (f g : Str) (v : V) : ∀ fs : List (Str × V), (putF f v fs).lookup g = if g = f then some v else fs.lookup g
  | [] => by
    show List.lookup g [(f, v)] = _
    by_cases h : g = f
    · have hb : (g == f) = true := beq_iff_eq.mpr h
      simp only [List.lookup, hb, if_pos h]
    · have hb : (g == f) = false := beq_eq_false_iff_ne.mpr h
      simp only [List.lookup, hb, if_neg h]
  | (k, x) :: r => by
    have ih := lookup_putF f g v r
    rw [show putF f v ((k, x) :: r) = (if k = f then (k, v) :: r else (k, x) :: putF f v r) from rfl]
    by_cases hk : k = f
    · rw [if_pos hk]
      by_cases h : g = k
      · have hb : (g == k) = true := beq_iff_eq.mpr h
        simp only [List.lookup, hb, if_pos (h.trans hk)]
      · have hb : (g == k) = false := beq_eq_false_iff_ne.mpr h
        simp only [List.lookup, hb, if_neg (fun e : g = f => h (e.trans hk.symm))]
    · rw [if_neg hk]
      by_cases h : g = k
      · have hb : (g == k) = true := beq_iff_eq.mpr h
        simp only [List.lookup, hb, if_neg (fun e : g = f => hk (h.symm.trans e))]
      · have hb : (g == k) = false := beq_eq_false_iff_ne.mpr h
        simp only [List.lookup, hb]
        exact ih
theorem keys_putF (f : Str) (v : V) : ∀ fs : List (Str × V), f ∈ (putF f v fs).map (·.1) ∧ ∀ g, g ∈ fs.map (·.1) → g ∈ (putF f v fs).map (·.1)
  | [] => ⟨by simp [putF], fun g h => by simp at h⟩
  | (k, x) :: r => by
    obtain ⟨i1, i2⟩ := keys_putF f v r
    rw [show putF f v ((k, x) :: r) = (if k = f then (k, v) :: r else (k, x) :: putF f v r) from rfl]
    by_cases hk : k = f
    · rw [if_pos hk]
      subst hk
      exact ⟨by simp, fun g h => by simpa using h⟩
    · rw [if_neg hk]
      refine ⟨?_, fun g h => ?_⟩
      · rw [List.map_cons]
        exact List.mem_cons_of_mem _ i1
      · rw [List.map_cons] at h ⊢
        rcases List.mem_cons.mp h with e | e
        · exact List.mem_cons.mpr (.inl e)
        · exact List.mem_cons_of_mem _ (i2 g e)
theorem length_putF (f : Str) (v : V) : ∀ fs : List (Str × V), (putF f v fs).length ≤ fs.length + 1
  | [] => by simp [putF]
  | (k, x) :: r => by
    have ih := length_putF f v r
    rw [show putF f v ((k, x) :: r) = (if k = f then (k, v) :: r else (k, x) :: putF f v r) from rfl]
    by_cases hk : k = f
    · rw [if_pos hk, List.length_cons, List.length_cons]; omega
    · rw [if_neg hk, List.length_cons, List.length_cons]; omega

theorem RelO.some_of {v : V} {o : Option Value} (r : RelO (some v) o) : ∃ u, o = some u ∧ RelV v u := by
  cases o with
  | none => exact (show False from r).elim
  | some u => exact ⟨u, rfl, r⟩
theorem RelO.none_of {o : Option Value} (r : RelO none o) : o = none := by
  cases o with
  | none => rfl
  | some u => exact (show False from r).elim
theorem handed_of {v : V} {u : Value} (r : RelV v u) : PySem.W.handedIn u = true := by
  cases v with
  | non => cases (show u = Value.none from r); rfl
  | bl b => cases (show u = Value.bool b from r); rfl
  | int i => obtain ⟨t, e⟩ := (show ∃ t, u = Value.int i t from r); cases e; rfl
  | str x => obtain ⟨t, e⟩ := (show ∃ t, u = Value.str x t from r); cases e; rfl
  | byt b => obtain ⟨t, e⟩ := (show ∃ t, u = Value.bytes b t from r); cases e; rfl
  | flt b => obtain ⟨t, e⟩ := (show ∃ t, u = Value.float b t from r); cases e; rfl
  | ref a => cases (show u = Value.ref a from r); rfl
  | ty n => cases (show u = Value.type n from r); rfl

section
variable {P : Program} {w : World} {H H' : Hp} {h h' : Heap} {a C dx : Addr} {fs fs' : List (Str × V)}
theorem ins_get (hok : HOk P w H h) (e : H a = some (.ins C dx fs)) : ∃ mA, ObjM h a dx C mA ∧ (∀ f, RelO (fs.lookup f) (mA f)) ∧ PySem.Within mA (fs.map (·.1)) ∧ fs.length ≤ 1000 ∧ H dx = some (.own a) := by
  obtain ⟨d, z, ne, ob, mA, n, r, q⟩ := (show ObjOk P w H h a (.ins C dx fs) from hok a _ e)
  exact ⟨mA, ⟨ob, n, ne⟩, r, q, z, d⟩
end

structure Cls (K : PySem.W.Frag) (C : Addr) : Prop where
  pg : PySem.W.plainGet K C Str.empty = true
  hd : PySem.W.hasDictIn K C = true
  po : PySem.W.plainOver K C = true
  sa : PySem.W.findIn K (.ref C) "__setattr__" = some (some (.builtin "object.__setattr__"))
theorem Cls.get {K : PySem.W.Frag} {C : Addr} (c : Cls K C) (f : Str) : PySem.W.plainGet K C f = true := c.pg
def NoAttr (K : PySem.W.Frag) (C : Addr) (f : Str) : Prop := PySem.W.findIn K (.ref C) f = some none
theorem NoAttr.taker {K : PySem.W.Frag} {C : Addr} {f : Str} (n : NoAttr K C f) : PySem.W.takerIn K C f = some none := by
  unfold PySem.W.takerIn
  rw [show PySem.W.findIn K (.ref C) f = some none from n]
  rfl
structure Meth (K : PySem.W.Frag) (C : Addr) (m : Str) (f : Addr) : Prop where
  at_ : PySem.W.findIn K (.ref C) m = some (some (.ref f))
  fn : PySem.W.isFn K (.ref f) = true
  kp : PySem.W.keepIn K (.ref f) = true

section
variable {X : Cx} {pins : List (Addr × Obj)} {σ : St} {H : Hp} {s : Shared} {a C dx : Addr} {fs : List (Str × V)} {f : Str} {v : V} {A : Around} {E : Value → Shared → Prop}

theorem getattr_ok {b : Bool} {Q : Value → Shared → Prop} (I : Inv X pins σ H s) (e : H a = some (.ins C dx fs)) (c : Cls X.K C) (n : NoAttr X.K C f) (l : fs.lookup f = some v)
    (h : ∀ u s', Inv X pins σ H s' → RelV v u → Q u s') : wpAny (model X.prog X.w) A (getAttr (.ref a) f b) Q E s := by
  obtain ⟨mA, O, r, _, _, _⟩ := ins_get I.hok e
  obtain ⟨u, hu, ru⟩ := RelO.some_of (v := v) (o := mA f) (by rw [← l]; exact r f)
  exact get_map I.kIn O (c.get f) c.hd n hu (handed_of ru) (h u _ (I.tok _) ru)

theorem getmeth_ok {m : Str} {g : Addr} {pl : Sem Bool} {Q : Value × List Value → Shared → Prop} (I : Inv X pins σ H s) (e : H a = some (.ins C dx fs)) (c : Cls X.K C) (k : Meth X.K C m g) (l : fs.lookup m = none)
    (h : Q (.ref g, [.ref a]) s) : wpAny (model X.prog X.w) A (getMethod (.ref a) m pl) Q E s := by
  obtain ⟨mA, O, r, _, _, _⟩ := ins_get I.hok e
  have hn : mA m = none := RelO.none_of (by rw [← l]; exact r m)
  exact get_meth I.kIn O (c.get m) k.at_ k.fn hn h

theorem setattr_ok {y : V} {u : Value} {Q : Unit → Shared → Prop} (I : Inv X pins σ H s) (e : H a = some (.ins C dx fs)) (c : Cls X.K C) (n : NoAttr X.K C f) (hl : fs.length < 1000) (ry : RelV y u)
    (h : ∀ s', Inv X pins σ (upd H a (.ins C dx (putF f y fs))) s' → Q () s') : wpAny (model X.prog X.w) A (setAttr (.ref a) f u) Q E s := by
  obtain ⟨mA, O, r, wi, _, ho⟩ := ins_get I.hok e
  have hz : (fs.map (·.1)).length ≤ sizeLine := by rw [List.length_map, sizeLine_eq]; omega
  refine set_map I.kIn O c.sa c.po n.taker c.hd wi hz fun h' O' sb => h _ ?_
  have hd : ∃ o, h'.get? dx = some o := let ⟨o, _, _, e', _⟩ := O'.ns; ⟨o, e'⟩
  refine I.write (x := a) (e := dx) (by rw [e]; exact True.intro) (.inr ho) (fun b q hb z => (sb.2 b hb).trans z) hd ?_
  refine ⟨by rw [upd_ne O.ne]; exact ho, ?_, O.ne, O'.obj, _, O'.ns, fun g => ?_, fun g hg => ?_⟩
  · have := length_putF f y fs; omega
  · show RelO ((putF f y fs).lookup g) (if g = f then some u else mA g)
    rw [lookup_putF]
    by_cases q : g = f
    · rw [if_pos q, if_pos q]; exact ry
    · rw [if_neg q, if_neg q]; exact r g
  · by_cases q : g = f
    · rw [q]; exact (keys_putF f y fs).1
    · refine (keys_putF f y fs).2 g (wi g fun z => hg ?_)
      show (if g = f then some u else mA g) = none
      rw [if_neg q]; exact z

theorem Inv.made (I : Inv X pins σ H s) : Inv X pins σ (upd (upd H s.heap.objs.size (.own (s.heap.objs.size + 1))) (s.heap.objs.size + 1) (.ins C s.heap.objs.size []))
    { s with heap := (s.heap.push PySem.W.emptyDict).push (PySem.W.instObj C s.heap.objs.size) } := by
  have e1 : (s.heap.push PySem.W.emptyDict).get? s.heap.objs.size = some PySem.W.emptyDict := Heap.get?_push_size s.heap rfl
  have e2 : ((s.heap.push PySem.W.emptyDict).push (PySem.W.instObj C s.heap.objs.size)).get? (s.heap.objs.size + 1) = some (PySem.W.instObj C s.heap.objs.size) := by
    have := Heap.get?_push_size (s.heap.push PySem.W.emptyDict) (o := PySem.W.instObj C s.heap.objs.size) rfl
    rwa [Heap.size_push] at this
  have e3 : (s.heap.push PySem.W.emptyDict).Ns s.heap.objs.size (fun _ => none) := ⟨PySem.W.emptyDict, #[], _, e1, rfl, (fun e he => absurd he (by simp)), fun _ => rfl⟩
  have I1 := I.laid (a := s.heap.objs.size) (o := .own (s.heap.objs.size + 1)) (h' := s.heap.push PySem.W.emptyDict) (t' := s.toks) (fun b u q => Heap.get?_push_of_some _ q) (Nat.le_refl _) ⟨_, e1⟩
  refine I1.laid (a := s.heap.objs.size + 1) (o := .ins C s.heap.objs.size []) (t' := s.toks) (fun b u q => Heap.get?_push_of_some _ q) (Nat.le_of_eq (Heap.size_push _ _)) ?_
  have ne : s.heap.objs.size ≠ s.heap.objs.size + 1 := Nat.ne_of_lt (Nat.lt_succ_self _)
  refine ⟨by rw [upd_ne ne, upd_same], Nat.zero_le _, ne, e2, fun _ => none, (Heap.Ns1.of_empty e3).at fun o q => Heap.get?_push_of_some _ q, fun _ => True.intro, fun y hy => absurd rfl hy⟩

theorem attr_of {prog : Program} {w : World} {env : Env} {e : Expr} {f : Str} {pos : Pos} {s : Shared} {Q : Value → Shared → Prop} (hb : attributeBase e f env (eval e env) = eval e env)
    (h : wpAny (model prog w) A (eval e env) (fun o s₁ => wpAny (model prog w) A (getAttr o f true) Q E s₁) E s) : wpAny (model prog w) A (eval (.Attribute e f pos) env) Q E s :=
  Attribute_any_ h (by rw [arm_eval_Attribute, hb])
end

def tFld (K : PySem.W.Frag) (ta : TE) (f : Str) : TE := fun σ H Q => ta σ H fun x H1 => ∃ a C dx fs v, x = .ref a ∧ H1 a = some (.ins C dx fs) ∧ Cls K C ∧ NoAttr K C f ∧ fs.lookup f = some v ∧ Q v H1
def sFld (K : PySem.W.Frag) (ta tv : TE) (f : Str) : TS := fun D σ H => tv σ H fun y H1 => ta σ H1 fun x H2 => ∃ a C dx fs, x = .ref a ∧ H2 a = some (.ins C dx fs) ∧ Cls K C ∧ NoAttr K C f ∧ fs.length < 1000 ∧
  D.nx σ (upd H2 a (.ins C dx (putF f y fs)))
def InOp (X : Cx) (op : Operator) (rd : V → V → Hp → VK → Prop) : Prop :=
  ∀ (pins : List (Addr × Obj)) (s : Shared) (σ : St) (H : Hp) (x y : V) (u v : Value) (Q : VK), Inv X pins σ H s → RelV x u → RelV y v → rd x y H Q → wpAny (model X.prog X.w) X.A (inplaceOp op u v) (EP X pins σ Q) X.xe s
def sFldAug (K : PySem.W.Frag) (ta tv : TE) (rd : V → V → Hp → VK → Prop) (f : Str) : TS := fun D σ H => ta σ H fun x H1 => ∃ a C dx fs v, x = .ref a ∧ H1 a = some (.ins C dx fs) ∧ Cls K C ∧ NoAttr K C f ∧ fs.lookup f = some v ∧
  tv σ H1 fun y H2 => rd v y H2 fun z H3 => ∃ dx' fs', H3 a = some (.ins C dx' fs') ∧ fs'.length < 1000 ∧ D.nx σ (upd H3 a (.ins C dx' (putF f z fs')))

section
variable {X : Cx} {o e value : Expr} {f : Str} {pos pos' tpos : Pos} {ta tv : TE}
theorem pe_fld (he : PE X e ta) (hb : attributeBase e f X.env (eval e X.env) = eval e X.env) : PE X (.Attribute e f pos) (tFld X.K ta f) := by
  intro pins s σ H Q I h
  refine attr_of hb (thn (he pins s σ H _ I h) fun u s1 ⟨x, H1, I1, rx, a, C, dx, fs, v, ex, ea, c, n, l, q⟩ => ?_)
  subst ex
  obtain rfl : u = Value.ref a := rx
  exact getattr_ok I1 ea c n l fun u' s2 I2 ru => ⟨v, H1, I2, ru, q⟩
theorem ps_fld (ha : PE X o ta) (hv : PE X value tv) (hs : swapsWith value (some (.Attribute o f pos')) pos.line X.env = pure false) : PS X (.Assign [.Attribute o f pos'] value pos) (sFld X.K ta tv f) := by
  intro pins s σ H D I h
  refine plainObj_wpAny_Assign_Attribute (thn (hv pins s σ H _ I h) fun u s1 ⟨y, H1, I1, ry, q⟩ => thn (ha pins s1 σ H1 _ I1 q) fun ov s2 ⟨x, H2, I2, rx, a, C, dx, fs, ex, ea, c, n, l, q2⟩ => ?_) hs
  subst ex
  obtain rfl : ov = Value.ref a := rx
  exact setattr_ok I2 ea c n l ry fun s3 I3 => ⟨σ, _, I3, q2⟩
theorem ps_fldaug {op : Operator} {rd : V → V → Hp → VK → Prop} (ha : PE X o ta) (hv : PE X value tv) (hop : InOp X op rd) : PS X (.AugAssign (.Attribute o f tpos) op value pos) (sFldAug X.K ta tv rd f) := by
  intro pins s σ H D I h
  refine wpAny_AugAssign_AttributeAny (thn (ha pins s σ H _ I h) fun ov s1 ⟨x, H1, I1, rx, a, C, dx, fs, v, ex, ea, c, n, l, q⟩ => ?_)
  subst ex
  obtain rfl : ov = Value.ref a := rx
  refine getattr_ok I1 ea c n l fun u s2 I2 ru => thn (hv pins s2 σ H1 _ I2 q) fun w3 s3 ⟨y, H2, I3, ry, q3⟩ => thn (hop pins s3 σ H2 v y u w3 _ I3 ru ry q3) fun w4 s4 ⟨z, H3, I4, rz, dx', fs', ea', l', q4⟩ => ?_
  exact setattr_ok I4 ea' c n l' rz fun s5 I5 => ⟨σ, _, I5, q4⟩
def rAdd : V → V → Hp → VK → Prop := fun x y H Q => ∃ i j, x = .int i ∧ y = .int j ∧ Q (.int (i + j)) H
theorem in_add : InOp X .Add rAdd := by
  rintro pins s σ H x y u v Q I rx ry ⟨i, j, rfl, rfl, q⟩
  obtain ⟨t, rfl⟩ := (show ∃ t, u = Value.int i t from rx)
  obtain ⟨t', rfl⟩ := (show ∃ t', v = Value.int j t' from ry)
  exact PyProof.Rows.iadd_int ⟨.int (i + j), H, I.tok _, ⟨_, rfl⟩, q⟩
theorem methcall_of {pl : Sem Bool} {m : Str} {apos : Pos} {args : List Expr} {pins : List (Addr × Obj)} {s : Shared} {σ : St} {H : Hp} {Q : Value → Shared → Prop} {te : TE} (he : PE X e te) (I : Inv X pins σ H s)
    (h : te σ H fun x H1 => ∃ a C dx fs g, x = .ref a ∧ H1 a = some (.ins C dx fs) ∧ Cls X.K C ∧ Meth X.K C m g ∧ fs.lookup m = none ∧
      ∀ s1, Inv X pins σ H1 s1 → wpAny (model X.prog X.w) X.A (callWith pos (.ref g) [.ref a] (backTo pos (starEach args X.env)) (backToKw pos (keywordEach [] X.env))) Q X.xe s1)
    (ht : eval (.Call (.Attribute e m apos) args [] pos) X.env = (do
      let ov ← eval e X.env
      standAt apos.atName
      let (f, first) ← holding [ov] (getMethod ov m pl)
      callWith pos f first (backTo pos (starEach args X.env)) (backToKw pos (keywordEach [] X.env)))) :
    wpAny (model X.prog X.w) X.A (eval (.Call (.Attribute e m apos) args [] pos) X.env) Q X.xe s := by
  refine PySem.W.methodCall_KW (pl := pl) (thn (he pins s σ H _ I h) fun u s1 ⟨x, H1, I1, rx, a, C, dx, fs, g, ex, ea, c, k, l, q⟩ => ?_) ht
  subst ex
  obtain rfl : u = Value.ref a := rx
  exact getmeth_ok I1 ea c k l (q s1 I1)
end

section
variable {X : Cx} {pins : List (Addr × Obj)} {σ : St} {H : Hp} {s : Shared} {A : Around} {E : Value → Shared → Prop} {Q : Value → Shared → Prop} {c : Value} {b : Bool}
end
end L2

namespace L2
open PySem PySem.Spec PyProof.Rows

structure Room (k : Nat) (A : Around) : Prop where
  hd : A.handled = none
  dp : A.depth + 3 * k + 5 < recursionLimit
  un : A.units + 16 * k + 200 < cLine
theorem Room.mono {j k : Nat} {A : Around} (r : Room k A) (h : j ≤ k) : Room j A := ⟨r.hd, by have := r.dp; omega, by have := r.un; omega⟩
theorem Room.deeper {k : Nat} {A : Around} (r : Room (k + 1) A) (env : Env) : Room k (A.deeper env) :=
  ⟨r.hd, by have := r.dp; show A.depth + 1 + 3 * k + 5 < _; omega, by have := r.un; show A.units + 3 + 16 * k + 200 < _; omega⟩
theorem make_depth {A : Around} {C : Addr} {us : List Value} {kw : List (Str × Value)} : (A.under (.builtin "type.__call__" ⟨.ref C :: us, kw⟩)).depth = A.depth + 1 := by
  first | rfl | simp [Around.under, Code.weight, Code.isCreation, Code.isGuard, Code.isCaller, Code.frames, Code.isFrame, guardIds]
theorem make_units {A : Around} {C : Addr} {us : List Value} {kw : List (Str × Value)} : (A.under (.builtin "type.__call__" ⟨.ref C :: us, kw⟩)).units = A.units + 1 := by
  first | rfl | simp [Around.under, Code.cUnits, Code.frames, Code.isFrame]
theorem Room.make {k : Nat} {A : Around} (r : Room (k + 1) A) (C : Addr) (us : List Value) (kw : List (Str × Value)) : Room k (A.under (.builtin "type.__call__" ⟨.ref C :: us, kw⟩)) :=
  ⟨r.hd, by have := r.dp; rw [make_depth]; omega, by have := r.un; rw [make_units]; omega⟩
theorem Room.depth {k : Nat} {A : Around} (r : Room k A) : A.depth < recursionLimit := by have := r.dp; omega
def tNil : TA := fun _ H Q => Q [] H
def tCons (ta : TE) (tr : TA) : TA := fun σ H Q => ta σ H fun x H1 => tr σ H1 fun xs H2 => Q (x :: xs) H2
section
variable {X : Cx} {e : Expr} {es : List Expr} {te : TE} {t : TA} {pos : Pos}
theorem pa_nil : PA X [] tNil := fun _ _ _ _ H Q I h => Calls.spliced_nil ⟨[], H, I, .nil, h⟩
theorem pa_cons (ha : PE X e te) (hr : PA X es t) (hs : starEach (e :: es) X.env = (false, eval e X.env) :: starEach es X.env := by rfl) : PA X (e :: es) (tCons te t) := by
  intro pos pins s σ H Q I h
  rw [hs]
  show wpAny _ _ (spliced ((false, eval e X.env) :: backTo pos (starEach es X.env))) _ _ s
  refine Calls.spliced_cons (thn (ha pins s σ H _ I h) fun u s1 ⟨x, H1, I1, r1, q1⟩ => ?_)
  exact thn (hr pos pins s1 σ H1 _ I1 q1) fun us s2 ⟨xs, H2, I2, r2, q2⟩ => ⟨x :: xs, H2, I2, .cons r1 r2, q2⟩

def tTup (t : TA) : TE := fun σ H Q => t σ H fun xs H1 => xs.length ≤ sizeLine ∧ ∀ p, H1 p = none → Q (.ref p) (upd H1 p (.tup xs))
def tLst (t : TA) : TE := fun σ H Q => t σ H fun xs H1 => xs.length ≤ sizeLine ∧ ∀ p, H1 p = none → Q (.ref p) (upd H1 p (.lst xs))
theorem pe_tup {x1} (h : PA X es t) : PE X (.Tuple es x1 pos) (tTup t) := by
  intro pins s σ H Q I hq
  refine wpAny_Tuple_spliced (thn (h pos pins s σ H _ I hq) fun us s1 ⟨xs, H1, I1, r, z, q⟩ => ⟨by rw [← r.length]; exact z, ?_⟩)
  have hf : H1 s1.heap.objs.size = none := I1.hok.fresh (Nat.le_refl _)
  refine ⟨.ref s1.heap.objs.size, upd H1 s1.heap.objs.size (.tup xs), I1.laid (t' := s1.toks) (fun b u e => Heap.get?_push_of_some _ e) (Nat.le_refl _) ?_, rfl, q _ hf⟩
  exact ⟨z, us, r, ⟨_, Heap.get?_push_size _ rfl, rfl, _, rfl⟩⟩
theorem pe_lst (h : PA X es t) : PE X (.List es pos) (tLst t) := by
  intro pins s σ H Q I hq
  refine wpAny_List_spliced (thn (h pos pins s σ H _ I hq) fun us s1 ⟨xs, H1, I1, r, z, q⟩ => ⟨by rw [← r.length]; exact z, ?_⟩)
  have hf : H1 s1.heap.objs.size = none := I1.hok.fresh (Nat.le_refl _)
  refine ⟨.ref s1.heap.objs.size, upd H1 s1.heap.objs.size (.lst xs), I1.laid (t' := s1.toks) (fun b u e => Heap.get?_push_of_some _ e) (Nat.le_refl _) ?_, rfl, q _ hf⟩
  exact ⟨z, us, 0, r, Heap.get?_push_size _ rfl⟩
end

abbrev Sp := List V → Hp → VK → XK → Prop
abbrev CXT := List Env → Hp → Shared → XK → Value → Shared → Prop

structure Env0 (P : Program) (w : World) (K : PySem.W.Frag) (mg : Str → Option Value) (base : Heap) (A : Around) (outer : List Env) (s : Shared) (H : Hp) : Prop where
  frames : A.frames = some outer
  mod : Mod K mg base
  bs : ∀ b o, base.get? b = some o → s.heap.get? b = some o ∧ H b = none
  bsz : base.objs.size ≤ s.heap.objs.size
  funs : s.heap.FunFrames base outer
  frf : ∀ b ∈ frs outer, H b = none
  hok : HOk P w H s.heap
  bare : AllBare s.gens
def CE (outer : List Env) (P : Program) (w : World) (H : Hp) (s : Shared) (Q : VK) (u : Value) (s' : Shared) : Prop :=
  ∃ v H', s'.os = s.os ∧ AllBare s'.gens ∧ Un (frs outer) [] H H' s.heap s'.heap ∧ HOk P w H' s'.heap ∧ RelV v u ∧ Q v H'
def CR (CX : CXT) (outer : List Env) (P : Program) (w : World) (H : Hp) (s : Shared) (Q : VK) (E : XK) (r : Result) (s' : Shared) : Prop :=
  match r with
  | .ok (.ret u) => CE outer P w H s Q u s'
  | .ok _ => False
  | .error e => CX outer H s E e s'
structure FnOk (P : Program) (w : World) (K : PySem.W.Frag) (mg : Str → Option Value) (base : Heap) (CX : CXT) (k : Nat) (f : Addr) (fd : FuncData) (ps : List Str) (sp : Sp) : Prop where
  len : ∀ vs H Q E, sp vs H Q E → vs.length = ps.length
  run : ∀ (A : Around) (outer : List Env) (s : Shared) (H : Hp) (args : Args) (us : List Value) (vs : List V) (Q : VK) (E : XK), Room k A → Env0 P w K mg base A outer s H → BindsTo s fd args (ps.zip us) → Vals vs us → sp vs H Q E →
    codeAny (model P w) A (.call (.ref f) args) (CR CX outer P w H s Q E) s
theorem FnOk.mono {P : Program} {w : World} {K : PySem.W.Frag} {mg : Str → Option Value} {base : Heap} {CX : CXT} {j k : Nat} {f : Addr} {fd : FuncData} {ps : List Str} {sp : Sp} (F : FnOk P w K mg base CX j f fd ps sp) (h : j ≤ k) :
    FnOk P w K mg base CX k f fd ps sp := ⟨F.len, fun A outer s H args us vs Q E hr => F.run A outer s H args us vs Q E (hr.mono h)⟩
theorem Env0.make {P : Program} {w : World} {K : PySem.W.Frag} {mg : Str → Option Value} {base : Heap} {A : Around} {outer : List Env} {s : Shared} {H : Hp} (e : Env0 P w K mg base A outer s H) (C : Addr) (us : List Value) (kw : List (Str × Value)) :
    Env0 P w K mg base (A.under (.builtin "type.__call__" ⟨.ref C :: us, kw⟩)) outer s H := ⟨by first | exact e.frames | (simpa [Around.under, Code.envs, Code.isFrame, pushEnvs] using e.frames), e.mod, e.bs, e.bsz, e.funs, e.frf, e.hok, e.bare⟩
section
variable {X : Cx} {pins : List (Addr × Obj)} {σ : St} {H : Hp} {s s' : Shared}
theorem Inv.env0 (I : Inv X pins σ H s) : Env0 X.prog X.w X.K X.mg X.base X.A X.stack s H :=
  ⟨I.ok.frames, I.ok.mod, I.bs, Nat.le_trans I.ok.bsz I.sz, I.stack, I.stkFree, I.hok, I.bare⟩
theorem Inv.after {Q : VK} {u : Value} (I : Inv X pins σ H s) (h : CE X.stack X.prog X.w H s Q u s') : EP X pins σ Q u s' := by
  obtain ⟨v, H', os, bare, un, hok, r, q⟩ := h
  obtain ⟨hh, g, d, t, os'⟩ := s'
  obtain rfl : os' = s.os := os
  exact ⟨v, H', I.call (h' := hh) (g' := g) (d' := d) (t' := t) (ch := []) un hok bare (fun b z => absurd z (by simp)), r, q⟩
end

def tCall (sp : Sp) (dvs : List V) (E : XK) (t : TA) : TE := fun σ H Q => t σ H fun vs H1 => sp (vs ++ dvs) H1 Q E
def tMeth (C : Addr) (m : Str) (sp : Sp) (dvs : List V) (E : XK) (ta : TE) (t : TA) : TE := fun σ H Q => ta σ H fun x H1 => ∃ a dx fs, x = .ref a ∧ H1 a = some (.ins C dx fs) ∧ fs.lookup m = none ∧
  t σ H1 fun vs H2 => sp (x :: (vs ++ dvs)) H2 Q E
def tMake (C : Addr) (sp : Sp) (dvs : List V) (E : XK) (t : TA) : TE := fun σ H Q => t σ H fun vs H1 => ∀ x dx, H1 x = none → H1 dx = none → dx ≠ x →
  sp (.ref x :: (vs ++ dvs)) (upd (upd H1 dx (.own x)) x (.ins C dx [])) (fun v H2 => v = .non ∧ Q (.ref x) H2) E

def Binds (K : PySem.W.Frag) (fd : FuncData) (ps : List Str) (ds : List Value) : Prop :=
  ∀ (s : Shared) (us : List Value), K.In s.heap → (us ++ ds).length = ps.length → BindsTo s fd ⟨us, []⟩ (ps.zip (us ++ ds))
theorem Binds.all {K : PySem.W.Frag} {fd : FuncData} {ps : List Str} (h : ∀ us : List Value, us.length = ps.length → bindArgs fd ⟨us, []⟩ = pure (ps.zip us)) : Binds K fd ps [] := fun s us _ hl => by
  rw [List.append_nil] at hl ⊢
  exact .of_eq (h us hl)

def Passes (CX : CXT) (X : Cx) (E : XK) : Prop := ∀ (pins : List (Addr × Obj)) (σ : St) (H : Hp) (s : Shared) (e : Value) (s' : Shared), Inv X pins σ H s → CX X.stack H s E e s' → X.xe e s'

section
variable {X : Cx} {CX : CXT} {k : Nat} {f C : Addr} {fd : FuncData} {ps : List Str} {sp : Sp} {dvs : List V} {ds : List Value} {E : XK} {x m : Str} {p pos apos : Pos} {e o : Expr} {es : List Expr} {ta : TE} {t : TA}

theorem run_fn {pins : List (Addr × Obj)} {σ : St} {H : Hp} {s : Shared} {Q : VK} {us : List Value} {vs : List V} (F : FnOk X.prog X.w X.K X.mg X.base CX k f fd ps sp) (hr : Room k X.A) (hb : Binds X.K fd ps ds) (hd : Vals dvs ds) (hx : Passes CX X E)
    (I : Inv X pins σ H s) (r : Vals vs us) (h : sp (vs ++ dvs) H Q E) : wpAny (model X.prog X.w) X.A (call (.ref f) us) (EP X pins σ Q) X.xe s := by
  have r2 : Vals (vs ++ dvs) (us ++ ds) := r.append hd
  have hl : (us ++ ds).length = ps.length := by rw [← r2.length]; exact F.len _ _ _ _ h
  refine wpAny_call (codeAny_mono (F.run X.A X.stack s H ⟨us, []⟩ (us ++ ds) (vs ++ dvs) Q E hr I.env0 (hb s us I.kIn hl) r2 h) fun r s' hq => ?_)
  cases r with
  | error e => exact hx pins σ H s e s' I hq
  | ok fl =>
    cases fl with
    | ret u => exact I.after hq
    | next => exact False.elim hq
    | brk => exact False.elim hq
    | cont => exact False.elim hq

theorem pe_call (F : FnOk X.prog X.w X.K X.mg X.base CX k f fd ps sp) (hr : Room k X.A) (hg : Gl X x) (hm : X.mg x = some (.ref f)) (hk : PySem.W.keepIn X.K (.ref f) = true) (hb : Binds X.K fd ps ds) (hd : Vals dvs ds) (hx : Passes CX X E)
    (ha : PA X (e :: es) t) (hdb : (x == ("__debug__" : Str)) = false := by decide) (he : starEach (e :: es) X.env = (false, eval e X.env) :: starEach es X.env := by rfl) (hpl : (backTo pos (starEach es X.env)).any (·.1) = false := by rfl) :
    PE X (.Call (.Name x p) (e :: es) [] pos) (tCall sp dvs E t) := by
  intro pins s σ H Q I h
  refine wpAny_Call_Name_kw (ld_glob I hg hm ?_ hdb)
  refine PySem.W.callWith_K (h₀ := X.base) I.ok.mod.kin hk (thn (ha pos pins s σ H _ I h) fun us s1 ⟨vs, H1, I1, r, q⟩ => ⟨I1.kIn, ?_⟩) he hpl
  exact run_fn F hr hb hd hx I1 r q
theorem pe_meth {pl : Sem Bool} (he : PE X o ta) (c : Cls X.K C) (hm : Meth X.K C m f) (F : FnOk X.prog X.w X.K X.mg X.base CX k f fd ps sp) (hr : Room k X.A) (hb : Binds X.K fd ps ds) (hd : Vals dvs ds) (hx : Passes CX X E) (ha : PA X (e :: es) t)
    (hst : starEach (e :: es) X.env = (false, eval e X.env) :: starEach es X.env := by rfl) (hpl : (backTo pos (starEach es X.env)).any (·.1) = false := by rfl)
    (ht : eval (.Call (.Attribute o m apos) (e :: es) [] pos) X.env = (do
      let ov ← eval o X.env
      standAt apos.atName
      let (f, first) ← holding [ov] (getMethod ov m pl)
      callWith pos f first (backTo pos (starEach (e :: es) X.env)) (backToKw pos (keywordEach [] X.env))) := by rfl) :
    PE X (.Call (.Attribute o m apos) (e :: es) [] pos) (tMeth C m sp dvs E ta t) := by
  intro pins s σ H Q I h
  refine PySem.W.methodCall_KW (pl := pl) (thn (he pins s σ H _ I h) fun u s1 ⟨x, H1, I1, rx, a, dx, fs, ex, ea, l, q⟩ => ?_) ht
  subst ex
  obtain rfl : u = Value.ref a := rx
  refine getmeth_ok I1 ea c hm l ?_
  refine PySem.W.callWith_K (first := [.ref a]) (h₀ := X.base) I.ok.mod.kin hm.kp (thn (ha pos pins s1 σ H1 _ I1 q) fun us s2 ⟨vs, H2, I2, r, q2⟩ => ⟨I2.kIn, ?_⟩) hst hpl
  exact run_fn (us := .ref a :: us) (vs := .ref a :: vs) F hr hb hd hx I2 (.cons rfl r) q2
theorem pe_meth0 {pl : Sem Bool} (he : PE X o ta) (c : Cls X.K C) (hm : Meth X.K C m f) (F : FnOk X.prog X.w X.K X.mg X.base CX k f fd ps sp) (hr : Room k X.A) (hb : Binds X.K fd ps ds) (hd : Vals dvs ds) (hx : Passes CX X E)
    (ht : eval (.Call (.Attribute o m apos) [] [] pos) X.env = (do
      let ov ← eval o X.env
      standAt apos.atName
      let (f, first) ← holding [ov] (getMethod ov m pl)
      callWith pos f first (backTo pos (starEach [] X.env)) (backToKw pos (keywordEach [] X.env))) := by rfl) :
    PE X (.Call (.Attribute o m apos) [] [] pos) (tMeth C m sp dvs E ta tNil) := by
  intro pins s σ H Q I h
  refine PySem.W.methodCall_KW (pl := pl) (thn (he pins s σ H _ I h) fun u s1 ⟨x, H1, I1, rx, a, dx, fs, ex, ea, l, q⟩ => ?_) ht
  subst ex
  obtain rfl : u = Value.ref a := rx
  refine getmeth_ok I1 ea c hm l ?_
  exact PySem.W.callWith_K0 (first := [.ref a]) I1.kIn hm.kp (run_fn (us := [.ref a]) (vs := [.ref a]) F hr hb hd hx I1 (.cons rfl .nil) q)

structure Mk (K : PySem.W.Frag) (C f : Addr) : Prop where
  makes : PySem.W.makesIn K C = true
  init : PySem.W.findIn K (.ref C) "__init__" = some (some (.ref f))
  fn : PySem.W.isFn K (.ref f) = true
  kp : PySem.W.keepIn K (.ref C) = true

theorem run_make {pins : List (Addr × Obj)} {σ : St} {H : Hp} {s : Shared} {Q : VK} {us : List Value} {vs : List V} (M : Mk X.K C f) (F : FnOk X.prog X.w X.K X.mg X.base CX k f fd ps sp) (hr : Room (k + 1) X.A) (hb : Binds X.K fd ps ds) (hd : Vals dvs ds)
    (hx : Passes CX X E) (I : Inv X pins σ H s) (r : Vals vs us)
    (h : ∀ x dx, H x = none → H dx = none → dx ≠ x → sp (.ref x :: (vs ++ dvs)) (upd (upd H dx (.own x)) x (.ins C dx [])) (fun v H2 => v = .non ∧ Q (.ref x) H2) E) :
    wpAny (model X.prog X.w) X.A (call (.ref C) us) (EP X pins σ Q) X.xe s := by
  have hq := h (s.heap.objs.size + 1) s.heap.objs.size (I.hok.fresh (Nat.le_succ _)) (I.hok.fresh (Nat.le_refl _)) (Nat.ne_of_lt (Nat.lt_succ_self _))
  have I2 := Inv.made (C := C) I
  have r2 : Vals (V.ref (s.heap.objs.size + 1) :: (vs ++ dvs)) (Value.ref (s.heap.objs.size + 1) :: (us ++ ds)) := .cons rfl (r.append hd)
  have hl : (Value.ref (s.heap.objs.size + 1) :: us ++ ds).length = ps.length := by
    have e := r2.length
    rw [F.len _ _ _ _ hq] at e
    exact e.symm
  refine wpAny_call (make_map (f := f) I.kIn M.makes M.init (beq_iff_eq.mp M.fn) (codeAny_mono (F.run _ X.stack _ _ ⟨Value.ref (s.heap.objs.size + 1) :: us, []⟩ (Value.ref (s.heap.objs.size + 1) :: (us ++ ds)) _ _ E (hr.make C us [])
    (I2.env0.make C us []) (hb _ (Value.ref (s.heap.objs.size + 1) :: us) I2.kIn hl) r2 hq) fun r s' hq' => ?_))
  cases r with
  | error e => exact hx pins σ _ _ e s' I2 hq'
  | ok fl =>
    cases fl with
    | ret u =>
      obtain ⟨v, H', I3, rv, ev, q3⟩ := I2.after hq'
      subst ev
      exact ⟨rv, ⟨V.ref (s.heap.objs.size + 1), H', I3, rfl, q3⟩⟩
    | next => exact False.elim hq'
    | brk => exact False.elim hq'
    | cont => exact False.elim hq'
theorem pe_make (M : Mk X.K C f) (F : FnOk X.prog X.w X.K X.mg X.base CX k f fd ps sp) (hr : Room (k + 1) X.A) (hg : Gl X x) (hm : X.mg x = some (.ref C)) (hb : Binds X.K fd ps ds) (hd : Vals dvs ds) (hx : Passes CX X E)
    (ha : PA X (e :: es) t) (hdb : (x == ("__debug__" : Str)) = false := by decide) (he : starEach (e :: es) X.env = (false, eval e X.env) :: starEach es X.env := by rfl) (hpl : (backTo pos (starEach es X.env)).any (·.1) = false := by rfl) :
    PE X (.Call (.Name x p) (e :: es) [] pos) (tMake C sp dvs E t) := by
  intro pins s σ H Q I h
  refine wpAny_Call_Name_kw (ld_glob I hg hm ?_ hdb)
  refine PySem.W.callWith_K (h₀ := X.base) I.ok.mod.kin M.kp (thn (ha pos pins s σ H _ I h) fun us s1 ⟨vs, H1, I1, r, q⟩ => ⟨I1.kIn, ?_⟩) he hpl
  exact run_make M F hr hb hd hx I1 r q
theorem pe_make0 (M : Mk X.K C f) (F : FnOk X.prog X.w X.K X.mg X.base CX k f fd ps sp) (hr : Room (k + 1) X.A) (hg : Gl X x) (hm : X.mg x = some (.ref C)) (hb : Binds X.K fd ps ds) (hd : Vals dvs ds) (hx : Passes CX X E)
    (hdb : (x == ("__debug__" : Str)) = false := by decide) : PE X (.Call (.Name x p) [] [] pos) (tMake C sp dvs E tNil) := by
  intro pins s σ H Q I h
  refine wpAny_Call_Name_kw (ld_glob I hg hm ?_ hdb)
  exact PySem.W.callWith_K0 I.kIn M.kp (run_make (us := []) M F hr hb hd hx I .nil h)
end

section
variable {X : Cx} {CX : CXT} {k : Nat} {f C : Addr} {fd : FuncData} {ps ks : List Str} {sp : Sp} {E : XK} {x m : Str} {p pos apos kpos : Pos} {e o : Expr} {es : List Expr} {kws : List Keyword} {te ta : TE} {t tk : TA} {nm : Option Str}
variable {g : List Value → List Value → List Value} {gV : List V → List V → List V}
end

structure FnScope (N P : List Str) (sc : Scope) : Prop where
  kind : sc.kind = .function
  co : sc.isCoroutine = false
  gen : sc.isGenerator = false
  nd : N.Nodup
  pre : N.take P.length = P
  par : ∀ x ∈ P, sc.names.lookup x = some .local ∨ sc.names.lookup x = some .cell
  nofree : ∀ y ∈ sc.names, y.2 ≠ .free

theorem bindL_out {kindOf : Str → Option NameKind} {x : Str} : ∀ {binds : List (Str × Value)} {m : Str → Option Value}, (∀ v, (x, v) ∉ binds) → bindL kindOf binds m x = m x
  | [], _, _ => rfl
  | (n, v) :: r, m, h => by
    unfold bindL
    rw [bindL_out fun w hw => h w (List.mem_cons_of_mem _ hw)]
    split
    · have : x ≠ n := by rintro rfl; exact h v List.mem_cons_self
      simp [this]
    · rfl
theorem bindC_out {kindOf : Str → Option NameKind} {x : Str} : ∀ {binds : List (Str × Value)} {m : Str → Option Value}, (∀ v, (x, v) ∉ binds) → bindC kindOf binds m x = m x
  | [], _, _ => rfl
  | (n, v) :: r, m, h => by
    unfold bindC
    rw [bindC_out fun w hw => h w (List.mem_cons_of_mem _ hw)]
    split
    · rfl
    · have : x ≠ n := by rintro rfl; exact h v List.mem_cons_self
      simp [this]
theorem bindL_get {kindOf : Str → Option NameKind} {x : Str} {v : Value} : ∀ {P : List Str} {vs : List Value} {i : Nat} {m : Str → Option Value}, P.Nodup → P[i]? = some x → vs[i]? = some v → kindOf x = some .local →
    bindL kindOf (P.zip vs) m x = some v
  | [], _, _, _, _, h, _, _ => by simp at h
  | _ :: _, [], _, _, _, _, h, _ => by simp at h
  | p :: P, w :: vs, 0, m, nd, h1, h2, hk => by
    simp at h1 h2; subst h1; subst h2
    show bindL kindOf ((p, w) :: P.zip vs) m p = _
    unfold bindL
    rw [bindL_out fun v hv => (List.nodup_cons.mp nd).1 (List.of_mem_zip hv).1, if_pos hk]
    simp
  | p :: P, w :: vs, i + 1, m, nd, h1, h2, hk => by
    show bindL kindOf ((p, w) :: P.zip vs) m x = _
    unfold bindL
    exact bindL_get (i := i) (List.nodup_cons.mp nd).2 (by simpa using h1) (by simpa using h2) hk
theorem bindC_get {kindOf : Str → Option NameKind} {x : Str} {v : Value} : ∀ {P : List Str} {vs : List Value} {i : Nat} {m : Str → Option Value}, P.Nodup → P[i]? = some x → vs[i]? = some v → kindOf x ≠ some .local →
    bindC kindOf (P.zip vs) m x = some v
  | [], _, _, _, _, h, _, _ => by simp at h
  | _ :: _, [], _, _, _, _, h, _ => by simp at h
  | p :: P, w :: vs, 0, m, nd, h1, h2, hk => by
    simp at h1 h2; subst h1; subst h2
    show bindC kindOf ((p, w) :: P.zip vs) m p = _
    unfold bindC
    rw [bindC_out fun v hv => (List.nodup_cons.mp nd).1 (List.of_mem_zip hv).1, if_neg hk]
    simp
  | p :: P, w :: vs, i + 1, m, nd, h1, h2, hk => by
    show bindC kindOf ((p, w) :: P.zip vs) m x = _
    unfold bindC
    exact bindC_get (i := i) (List.nodup_cons.mp nd).2 (by simpa using h1) (by simpa using h2) hk

def start (N : List Str) (vs : List V) : St := vs.map some ++ List.replicate (N.length - vs.length) none

def cxOf (CX : CXT) (P : Program) (w : World) (K : PySem.W.Frag) (mg : Str → Option Value) (base : Heap) (N : List Str) (qual : Str) (scope : Scope) (f : Addr) (cd : Value) (A : Around) (outer : List Env) (s : Shared) (H : Hp) (E : XK) : Cx where
  prog := P
  w := w
  K := K
  mg := mg
  base := base
  A := A.deeper (envOfC qual scope s.heap.objs.size f cd)
  N := N
  s_0 := s
  H_0 := H
  env := envOfC qual scope s.heap.objs.size f cd
  outer := outer
  stack := envOfC qual scope s.heap.objs.size f cd :: outer
  ex := []
  calm := true
  fn := fun _ => true
  pn := []
  xe := fun e s' => wpAny (model P w) (A.deeper (envOfC qual scope s.heap.objs.size f cd)) (leaving (envOfC qual scope s.heap.objs.size f cd) e) (fun _ s'' => CX outer H s E e s'') (fun e' s'' => CX outer H s E e' s'') s'

theorem cell_has {sc : Scope} {n : Nat} {x : Str} (h : sc.names.lookup x = some .cell) : ∃ c, (cellsFrom n sc.names []).lookup x = some c := by
  have q := PySem.W.cellsFrom_some sc.names n [] (.inl h)
  exact Option.isSome_iff_exists.mp q

theorem inv_start {CX : CXT} {P : Program} {w : World} {K : PySem.W.Frag} {mg : Str → Option Value} {base : Heap} {N ps : List Str} {qual : Str} {scope : Scope} {f : Addr} {cd : Value} {A : Around} {outer : List Env} {s s1 : Shared} {H : Hp} {E : XK} {us : List Value} {vs : List V}
    (S : FnScope N ps scope) (hd : A.handled = none) (e0 : Env0 P w K mg base A outer s H) (hl : vs.length = ps.length) (r : Vals vs us)
    (x : InCallC s s.heap.objs.size (bindL (envOfC qual scope s.heap.objs.size f cd).kindOf (ps.zip us) fun _ => none) (cellsFrom (s.heap.objs.size + 1) scope.names []) (bindC (envOfC qual scope s.heap.objs.size f cd).kindOf (ps.zip us) fun _ => none) s1) :
    Inv (cxOf CX P w K mg base N qual scope f cd A outer s H E) [] (start N vs) H s1 := by
  have hpl : ps.length ≤ N.length := by have := congrArg List.length S.pre; rw [List.length_take] at this; omega
  obtain ⟨h1, tk, rfl, hk⟩ := x.done
  have noA : ∀ b : Addr, b ∉ (cxOf CX P w K mg base N qual scope f cd A outer s H E).ex := fun b z => absurd (show b ∈ ([] : List Addr) from z) (by simp)
  refine ⟨⟨e0.mod, S.kind, rfl, rfl, Nat.le_refl _, fun y z c h1 h2 => ?_, fun y hy => ?_, fun y c _ h => ?_, fun _ => hd, Around.frames_deeper e0.frames, .inr ⟨rfl, rfl⟩, fun b z => absurd z (noA b), e0.bs, e0.bsz, fun b _ _ => noA b, fun b z => absurd z (noA b), e0.funs, e0.frf⟩,
    rfl, e0.bare, Un.kept hk, ⟨_, x.toInCall.ns, fun i y v h1 h2 h3 => ?_⟩, fun y c h => ⟨_, x.cell y c h⟩, e0.hok.fresh (Nat.le_refl _), fun y c h => ?_, fun p hp => absurd (show p ∈ ([] : List (Addr × Obj)) from hp) (by simp), e0.hok.kept hk, ?_⟩
  · exact name_of_addr x.apart (PySem.mem_of_lookup h1) (PySem.mem_of_lookup h2)
  · have hy : scope.names.lookup y = some .cell ∨ scope.names.lookup y = some .free := hy
    rcases hy with hy | hy
    · exact cell_has hy
    · exact absurd rfl (S.nofree _ (PySem.mem_of_lookup hy))
  · exact Nat.le_of_lt (x.above y c (PySem.mem_of_lookup h))
  · have hi : i < vs.length := by
      unfold start at h2
      by_cases hi : i < vs.length
      · exact hi
      · rw [List.getElem?_append_right (by simpa using hi)] at h2
        rw [List.getElem?_replicate] at h2
        split at h2 <;> cases h2
    have ha : vs[i]? = some v := by
      unfold start at h2
      rw [List.getElem?_append_left (by simpa using hi), List.getElem?_map] at h2
      cases e : vs[i]? with
      | none => rw [e] at h2; cases h2
      | some a => rw [e] at h2; cases h2; rfl
    obtain ⟨u, hu, rv⟩ := r.get ha
    have hp : ps[i]? = some y := by
      rw [← S.pre, List.getElem?_take_of_lt (by omega)]; exact h1
    have ndP : ps.Nodup := by rw [← S.pre]; exact S.nd.sublist (List.take_sublist _ _)
    refine ⟨u, rv, ?_⟩
    rcases S.par y (List.mem_of_getElem? hp) with k | k
    · exact .inl ⟨k, bindL_get ndP hp hu k⟩
    · obtain ⟨c, e⟩ := cell_has (n := s.heap.objs.size + 1) k
      refine .inr ⟨.inl k, c, e, ?_⟩
      have q := x.cell y c e
      rw [bindC_get ndP hp hu (by show scope.names.lookup y ≠ _; rw [k]; decide)] at q
      exact q
  · exact e0.hok.fresh (Nat.le_of_lt (x.above y c (PySem.mem_of_lookup h)))
  · unfold start
    show _ = N.length
    rw [List.length_append, List.length_map, List.length_replicate]
    omega

theorem fn_of {CX : CXT} {P : Program} {w : World} {K : PySem.W.Frag} {mg : Str → Option Value} {base : Heap} {k : Nat} {f : Addr} {name qual : Str} {params : Arguments} {body : List Stmt} {scope : Scope} {dV kV doc pm cdv ct oc : Value} {an od : Option Addr}
    {osl : Array (Option Value)} {N ps : List Str} {sp : Sp} (lk : K.lookup f = some ⟨oc, od, .func (PySem.W.fnOf name qual params body scope dV kV doc pm an cdv ct), osl⟩) (hcd : PySem.W.codeIn K cdv qual = true) (S : FnScope N ps scope)
    (len : ∀ vs H Q E, sp vs H Q E → vs.length = ps.length)
    (hbody : ∀ (A : Around) (outer : List Env) (s : Shared) (H : Hp) (vs : List V) (Q : VK) (E : XK), Room k (A.deeper (envOfC qual scope s.heap.objs.size f cdv)) → sp vs H Q E →
      ∃ t, PSs (cxOf CX P w K mg base N qual scope f cdv A outer s H E) body t ∧ t { nx := fun _ H' => Q .non H', rt := Q } (start N vs) H) :
    FnOk P w K mg base CX (k + 1) f (PySem.W.fnOf name qual params body scope dV kV doc pm an cdv ct) ps sp := by
  refine ⟨len, fun A outer s H args us vs Q E hr e0 hb r hsp => ?_⟩
  have hl := len _ _ _ _ hsp
  have KX : K.In s.heap := e0.mod.kin.keeps fun b o e => (e0.bs b o e).1
  have lim : s.heap.NoLimit := e0.mod.nolimit.keeps fun b o e => (e0.bs b o e).1
  have hkind : ∀ y ∈ ps.zip us, scope.names.lookup y.1 = some .local ∨ (scope.names.lookup y.1 = some .cell ∧ ((cellsFrom (s.heap.objs.size + 1) scope.names []).lookup y.1).isSome = true) := fun ⟨n, v⟩ hy => by
    rcases S.par n (List.of_mem_zip hy).1 with q | q
    · exact .inl q
    · exact .inr ⟨q, PySem.W.cellsFrom_some _ _ _ (.inl q)⟩
  refine codeAny_call_function hr.depth (KX _ _ lk) rfl S.co S.gen rfl (PySem.W.codeRec_of KX hcd) (hb _ _ _ _ ?_)
  refine wpAny_newFunctionEnv_cells S.kind hkind fun env he s1 x => ?_
  subst he
  refine ⟨lim.keeps x.toInCall.keep, codeAny_func ?_⟩
  obtain ⟨t, ht, hq⟩ := hbody A outer s H vs Q E (hr.deeper _) hsp
  have I : Inv (cxOf CX P w K mg base N qual scope f cdv A outer s H E) [] (start N vs) H s1 := inv_start S hr.hd e0 hl r x
  refine wpAny_mono (ht [] s1 (start N vs) H _ I hq) (fun fl s' hs => ?_) fun e s' hs => hs
  have fin : ∀ {σ' : St} {H' : Hp} {v : V} {u : Value}, Inv (cxOf CX P w K mg base N qual scope f cdv A outer s H E) [] σ' H' s' → RelV v u → Q v H' → CE outer P w H s Q u s' :=
    fun {σ' H' v u} J rv q => ⟨v, H', J.os, J.bare, J.base, J.hok, rv, q⟩
  cases fl with
  | ret u =>
    obtain ⟨v, σ', H', J, rv, q⟩ := hs
    exact fin J rv q
  | next =>
    obtain ⟨σ', H', J, q⟩ := hs
    exact fin (v := V.non) (u := Value.none) J rfl q
  | brk =>
    obtain ⟨_, _, _, q⟩ := hs
    exact False.elim q
  | cont =>
    obtain ⟨_, _, _, q⟩ := hs
    exact False.elim q
end L2

namespace L2
open PySem PySem.Spec PyProof.Rows
section
variable {X : Cx} {x : Str} {p pos : Pos} {e : Expr} {es : List Expr} {t : TA} {id T : String} {r : List V → Hp → VK → Prop}

def tCB (r : List V → Hp → VK → Prop) (t : TA) : TE := fun σ H Q => t σ H fun vs H1 => r vs H1 Q
theorem pe_callB (hc : CallR X (.builtin id) r) (hg : Gl X x) (hm : X.mg x = none) (hv : bootBuiltins x = some (.builtin id)) (ha : PA X (e :: es) t) (hn : x ≠ "__name__" := by decide) (hdb : (x == ("__debug__" : Str)) = false := by decide)
    (he : starEach (e :: es) X.env = (false, eval e X.env) :: starEach es X.env := by rfl) (hpl : (backTo pos (starEach es X.env)).any (·.1) = false := by rfl) : PE X (.Call (.Name x p) (e :: es) [] pos) (tCB r t) := by
  intro pins s σ H Q I h
  refine wpAny_Call_Name_kw (ld_blt I hg hm hv ?_ hn hdb)
  exact PyProof.Rows.callWith_builtin1 (thn (ha pos pins s σ H _ I h) fun us s1 ⟨vs, H1, I1, r1, q1⟩ => hc pins s1 σ H1 vs us Q I1 r1 q1) he hpl
theorem pe_callTy (hc : CallR X (.type T) r) (hg : Gl X x) (hm : X.mg x = none) (hv : bootBuiltins x = some (.type T)) (ha : PA X (e :: es) t) (hn : x ≠ "__name__" := by decide) (hdb : (x == ("__debug__" : Str)) = false := by decide)
    (he : starEach (e :: es) X.env = (false, eval e X.env) :: starEach es X.env := by rfl) (hpl : (backTo pos (starEach es X.env)).any (·.1) = false := by rfl) : PE X (.Call (.Name x p) (e :: es) [] pos) (tCB r t) := by
  intro pins s σ H Q I h
  refine wpAny_Call_Name_kw (ld_blt I hg hm hv ?_ hn hdb)
  exact PyProof.Rows.callWith_type1 (thn (ha pos pins s σ H _ I h) fun us s1 ⟨vs, H1, I1, r1, q1⟩ => hc pins s1 σ H1 vs us Q I1 r1 q1) he hpl
end
end L2

namespace HT
open PySem PyProof.Rows

section
open PySem.SeqAt
open PySem.AutoSeq1 (wpAny_loadPart')
open PySem.MeetsSeq PySem.MeetsSeq2 PySem.MeetsSeq3

end

section
variable {prog : Program} {w : World} {A : Around} {E : Value → Shared → Prop} {s : Shared}

def sIx (n d : Nat) : Option Int → Nat
  | none => d
  | some v => if v < 0 then (v + (n : Int)).toNat else min v.toNat n
theorem sIx_none (n d : Nat) : sIx n d none = d := rfl
theorem sIx_nat (n d k : Nat) : sIx n d (some (k : Int)) = min k n := by
  show (if (k : Int) < 0 then ((k : Int) + (n : Int)).toNat else min (k : Int).toNat n) = min k n
  rw [if_neg (by omega), Int.toNat_natCast]
end
end HT

namespace L2
open PySem PySem.Spec PyProof.Rows

abbrev TO := St → Hp → (Option Int → Hp → Prop) → Prop
def PO (X : Cx) (e : Option Expr) (t : TO) : Prop :=
  ∀ (pins : List (Addr × Obj)) (s : Shared) (σ : St) (H : Hp) (Q : Option Int → Hp → Prop), Inv X pins σ H s → t σ H Q →
    wpAny (model X.prog X.w) X.A (evalPart e X.env) (fun u s' => ∃ o H', Inv X pins σ H' s' ∧ IsPart u o ∧ Q o H') X.xe s
def tNoPart : TO := fun _ H Q => Q none H
def tPart (t : TE) : TO := fun σ H Q => t σ H fun x H1 => ∃ i, x = .int i ∧ Q (some i) H1

section
variable {X : Cx} {e : Expr} {te : TE} {lo hi : Option Expr} {tl th : TO} {pos p2 : Pos}

theorem po_none : PO X none tNoPart := by
  intro pins s σ H Q I h
  rw [evalPart_none]
  exact wpAny_pure ⟨none, H, I, .none, h⟩
theorem po_some (h : PE X e te) : PO X (some e) (tPart te) := by
  intro pins s σ H Q I hw
  rw [evalPart_some]
  refine thn (h pins s σ H _ I hw) fun u s1 ⟨x, H1, I1, r1, q1⟩ => ?_
  obtain ⟨i, rfl, q⟩ := q1
  obtain ⟨t, rfl⟩ := r1
  exact ⟨some i, H1, I1, .int i t, q⟩

def SlR (X : Cx) (r : V → Option Int → Option Int → Hp → VK → Prop) : Prop :=
  ∀ (pins : List (Addr × Obj)) (s : Shared) (σ : St) (H : Hp) (x : V) (v vl vu : Value) (lo hi : Option Int) (sl : Addr) (Q : VK), Inv X pins σ H s → RelV x v → s.heap.IsSliceOf sl vl vu .none → IsPart vl lo → IsPart vu hi → r x lo hi H Q →
    ∃ T id, typeLookup (.type T) "__getitem__" = pure (some (.builtin id)) ∧ s.TypeIs v T ∧ wpAny (model X.prog X.w) X.A (getItem v (.ref sl)) (EP X pins σ Q) X.xe s
def tSl (r : V → Option Int → Option Int → Hp → VK → Prop) (te : TE) (tl th : TO) : TE := fun σ H Q => te σ H fun x H1 => tl σ H1 fun l H2 => th σ H2 fun u H3 => r x l u H3 Q
theorem pe_slice {r : V → Option Int → Option Int → Hp → VK → Prop} (hr : SlR X r) (he : PE X e te) (hl : PO X lo tl) (hu : PO X hi th) : PE X (.Subscript e (.Slice lo hi none p2) pos) (tSl r te tl th) := by
  intro pins s σ H Q I h
  refine Subscript_ (thn (he pins s σ H _ I h) fun v s1 ⟨x, H1, I1, r1, q1⟩ => ?_)
  refine wpAny_Slice (thn (hl pins s1 σ H1 _ I1 q1) fun vl s2 ⟨l, H2, I2, pl, q2⟩ => thn (hu pins s2 σ H2 _ I2 q2) fun vu s3 ⟨u, H3, I3, pu, q3⟩ => ?_)
  rw [evalPart_none]
  refine wpAny_pure ?_
  have I4 : Inv X pins σ H3 { s3 with heap := s3.heap.push { cls := .type "slice", data := .fields #[vl, vu, .none] } } := I3.kept (t' := s3.toks) fun b ob q => Heap.get?_push_of_some _ q
  obtain ⟨T, id, hT, ht, hg⟩ := hr pins { s3 with heap := s3.heap.push { cls := .type "slice", data := .fields #[vl, vu, .none] } } σ H3 x v vl vu l u s3.heap.objs.size Q I4 r1 (Heap.IsSliceOf.new ..) pl pu q3
  show wpAny (model X.prog X.w) X.A (subscriptTail e (.Slice lo hi none p2) v (.ref s3.heap.objs.size)) (EP X pins σ Q) X.xe { s3 with heap := s3.heap.push { cls := .type "slice", data := .fields #[vl, vu, .none] } }
  exact tail_any (ops := [.ref s3.heap.objs.size, v]) ht hT hg (by with_unfolding_all rfl)

def cutV (xs : List V) (lo hi : Option Int) : List V := (xs.drop (HT.sIx xs.length 0 lo)).take (HT.sIx xs.length xs.length hi - HT.sIx xs.length 0 lo)
theorem cutV_length (xs : List V) (lo hi : Option Int) : (cutV xs lo hi).length ≤ xs.length := by
  unfold cutV
  rw [List.length_take, List.length_drop]
  omega
end
end L2

namespace L2
open PySem PySem.Spec PyProof.Rows

def ixN (n : Nat) (i : Int) : Option Nat := if 0 ≤ i then (if i < n then some i.toNat else none) else if -(n : Int) ≤ i then some (i + n).toNat else none
def atI {α : Type} (xs : List α) (i : Int) : Option α := (ixN xs.length i).bind fun j => xs[j]?
theorem ixN_seq {n : Nat} {i : Int} {j : Nat} (h : ixN n i = some j) : seqIndex? i n = some j ∧ j < n ∧ -(n : Int) ≤ i ∧ i < n := by
  unfold ixN at h
  by_cases h0 : 0 ≤ i
  · rw [if_pos h0] at h
    by_cases h1 : i < n
    · rw [if_pos h1] at h
      have e : i.toNat = j := Option.some.inj h
      exact ⟨by rw [seqIndex_of h0 h1, e], by omega, by omega, h1⟩
    · rw [if_neg h1] at h; cases h
  · rw [if_neg h0] at h
    by_cases h1 : -(n : Int) ≤ i
    · rw [if_pos h1] at h
      have e : (i + n).toNat = j := Option.some.inj h
      exact ⟨by rw [seqIndex_neg (by omega) h1, e], by omega, h1, by omega⟩
    · rw [if_neg h1] at h; cases h
theorem atI_get {α : Type} {xs : List α} {i : Int} {v : α} (h : atI xs i = some v) : ∃ j, seqIndex? i xs.length = some j ∧ xs[j]? = some v ∧ j < xs.length ∧ -(xs.length : Int) ≤ i ∧ i < xs.length := by
  unfold atI at h
  cases e : ixN xs.length i with
  | none => rw [e] at h; cases h
  | some j =>
    rw [e] at h
    obtain ⟨h1, h2, h3, h4⟩ := ixN_seq e
    exact ⟨j, h1, h, h2, h3, h4⟩
theorem atI_nat {α : Type} {xs : List α} {j : Nat} {v : α} (h : xs[j]? = some v) : atI xs (j : Int) = some v := by
  have hj : j < xs.length := (List.getElem?_eq_some_iff.mp h).1
  have e : ixN xs.length (j : Int) = some j := by
    unfold ixN
    rw [if_pos (by omega), if_pos (by omega)]; simp
  unfold atI; rw [e]; exact h
theorem atI_last {α : Type} (xs : List α) (v : α) : atI (xs ++ [v]) (-1) = some v := by
  have hl : (xs ++ [v]).length = xs.length + 1 := by simp
  have e : ixN (xs ++ [v]).length (-1) = some xs.length := by
    unfold ixN
    rw [hl, if_neg (by decide), if_pos (by omega)]
    congr 1
    omega
  unfold atI
  rw [e]
  show (xs ++ [v])[xs.length]? = some v
  simp

def PlainIx (b : Expr) : Prop := ∀ o i, subscripted b false o i = operate [o, i] (getItem o i)
def IxR (X : Cx) (r : R2) : Prop :=
  ∀ (value slice : Expr) (pins : List (Addr × Obj)) (s : Shared) (σ : St) (H : Hp) (x y : V) (v u : Value) (Q : VK), Inv X pins σ H s → RelV x v → RelV y u → r x y H Q →
    subscripted slice false v u = operate [v, u] (getItem v u) → wpAny (model X.prog X.w) X.A (subscriptTail value slice v u) (EP X pins σ Q) X.xe s
def MtR (X : Cx) (id : String) (r : V → List V → Hp → VK → Prop) : Prop :=
  ∀ (pins : List (Addr × Obj)) (s : Shared) (σ : St) (H : Hp) (x : V) (xs : List V) (v : Value) (us : List Value) (Q : VK), Inv X pins σ H s → RelV x v → Vals xs us → r x xs H Q →
    wpAny (model X.prog X.w) X.A (call (.builtin id) (v :: us)) (EP X pins σ Q) X.xe s
section
variable {X : Cx} {a b : Expr} {ta tb : TE} {pos : Pos}
theorem pe_ix {r : R2} (hr : IxR X r) (ha : PE X a ta) (hb : PE X b tb) (hs : PlainIx b) : PE X (.Subscript a b pos) (tOp r ta tb) := by
  intro pins s σ H Q I h
  exact Subscript_ (binT ha hb I h fun v u s2 x y H2 I2 rx ry q => hr a b pins s2 σ H2 x y v u Q I2 rx ry q (hs _ _))

def rIxL (K : PySem.W.Frag) : R2 := fun x y H Q => ∃ p xs i v, x = .ref p ∧ y = .int i ∧ SqL K H p xs ∧ atI xs i = some v ∧ Q v H
def rIxT (K : PySem.W.Frag) : R2 := fun x y H Q => ∃ p xs i v, x = .ref p ∧ y = .int i ∧ SqT K H p xs ∧ atI xs i = some v ∧ Q v H
theorem ix_list : IxR X (rIxL X.K) := by
  intro value slice pins s σ H x y v u Q I rx ry h hs
  obtain ⟨p, xs, i, z, rfl, rfl, hq, he, q⟩ := h
  cases rx
  obtain ⟨t, rfl⟩ := ry
  obtain ⟨its, r, pl, hz⟩ := I.list hq
  obtain ⟨j, h1, h2, h3, h4, h5⟩ := atI_get he
  obtain ⟨w, ew, rw'⟩ := r.get h2
  have hl := r.length
  have hn := line63
  have fin : EP X pins σ Q w s := ⟨z, H, I, rw', q⟩
  by_cases h0 : 0 ≤ i
  · have hj : i.toNat = j := by
      rw [seqIndex_of h0 h5] at h1
      exact Option.some.inj h1
    exact item_listR pl.isList h0 (by omega) (by rw [hj]; simpa using ew) fin hs
  · have hj : (i + (its.toArray.size : Int)).toNat = j := by
      rw [seqIndex_neg (by omega) h4] at h1
      rw [List.size_toArray, ← hl]
      exact Option.some.inj h1
    exact subscriptTail_builtinR (x := w) pl.isList.typeIs slot_list_getitem.lookup
      (wpAny_getItem_list_neg (Q := fun r s' => r = w ∧ EP X pins σ Q r s') pl.isList (by omega) (by rw [List.size_toArray] <;> omega) (by omega) (by rw [hj]; simpa using ew) ⟨rfl, fin⟩) hs
theorem ix_tup : IxR X (rIxT X.K) := by
  intro value slice pins s σ H x y v u Q I rx ry h hs
  obtain ⟨p, xs, i, z, rfl, rfl, hq, he, q⟩ := h
  cases rx
  obtain ⟨t, rfl⟩ := ry
  obtain ⟨its, r, pl, hz⟩ := I.tuple hq
  obtain ⟨j, h1, h2, h3, h4, h5⟩ := atI_get he
  obtain ⟨w, ew, rw'⟩ := r.get h2
  have hl := r.length
  have hn := line63
  have fin : EP X pins σ Q w s := ⟨z, H, I, rw', q⟩
  exact subscriptTail_builtinR (x := w) pl.typeIs slot_tuple_getitem.lookup
    (getItem_tuple (j := j) (Q := fun r s' => r = w ∧ EP X pins σ Q r s') pl (by omega) (by omega) (by rw [List.size_toArray, ← hl]; exact h1) (by simpa using ew) ⟨rfl, fin⟩) hs
theorem mapSeq_set (its : List Value) (n j : Nat) (u : Value) : Obj.mapSeq (·.setIfInBounds j u) { cls := .type "list", data := .seq its.toArray n } = { cls := .type "list", data := .seq (its.set j u).toArray n } := by
  simp [Obj.mapSeq]
theorem Inv.lst {pins : List (Addr × Obj)} {σ : St} {H : Hp} {s : Shared} {p : Addr} {xs : List V} (I : Inv X pins σ H s) (h : H p = some (.lst xs)) :
    ∃ (its : List Value) (n : Nat), Vals xs its ∧ s.heap.get? p = some { cls := .type "list", data := .seq its.toArray n } ∧ xs.length ≤ sizeLine := by
  obtain ⟨z, its, n, r, e⟩ := I.hok p _ h
  exact ⟨its, n, r, e, z⟩
theorem Inv.lstUpd {pins : List (Addr × Obj)} {σ : St} {H : Hp} {s : Shared} {p : Addr} {xs ys : List V} {its its' : List Value} {n n' : Nat} {f : Obj → Obj} (I : Inv X pins σ H s) (h : H p = some (.lst xs))
    (ho : s.heap.get? p = some { cls := .type "list", data := .seq its.toArray n }) (hf : f { cls := .type "list", data := .seq its.toArray n } = { cls := .type "list", data := .seq its'.toArray n' }) (r : Vals ys its') (hz : ys.length ≤ sizeLine) (t : Nat) :
    Inv X pins σ (upd H p (.lst ys)) { s with heap := s.heap.update p f, toks := t } := by
  have e : (s.heap.update p f).get? p = some { cls := .type "list", data := .seq its'.toArray n' } := by
    rw [Heap.get?_update_self f ho (by rw [hf] <;> rfl), hf]
  refine I.write (x := p) (e := p) (by rw [h]; trivial) (.inl rfl) (fun b u hb q => (Heap.get?_update_other _ _ (Ne.symm hb)).trans q) ⟨_, e⟩ ?_
  exact ⟨hz, its', n', r, e⟩
def rSetL : V → V → V → Hp → (Hp → Prop) → Prop := fun o i v H Q => ∃ p xs k j, o = .ref p ∧ i = .int k ∧ H p = some (.lst xs) ∧ ixN xs.length k = some j ∧ Q (upd H p (.lst (xs.set j v)))
theorem set_list : PSet X rSetL := by
  intro pins s σ H o i v ov iv u Q I ro ri rv h
  obtain ⟨p, xs, k, j, rfl, rfl, hp, hj, q⟩ := h
  cases ro
  obtain ⟨t, rfl⟩ := ri
  obtain ⟨its, n, r, ho, hz⟩ := I.lst hp
  obtain ⟨h1, h2, h3, h4⟩ := ixN_seq hj
  have hl := r.length
  have hn := line63
  have I' : Inv X pins σ (upd H p (.lst (xs.set j v))) { s with heap := s.heap.update p (Obj.mapSeq (·.setIfInBounds j u)) } :=
    I.lstUpd hp ho (mapSeq_set its n j u) (r.set rv j) (by rw [List.length_set]; exact hz) s.toks
  by_cases h0 : 0 ≤ k
  · have hk : k.toNat = j := by
      rw [seqIndex_of h0 h4] at h1
      exact Option.some.inj h1
    exact PySem.W.ki_setAt ho h0 (by omega) (by rw [List.size_toArray, ← hl]; exact h4) (by rw [hk]; exact ⟨_, I', q⟩)
  · have hk : (k + (its.toArray.size : Int)).toNat = j := by
      rw [seqIndex_neg (by omega) h3] at h1
      rw [List.size_toArray, ← hl]
      exact Option.some.inj h1
    exact PySem.W.ki_setBack ho (by omega) (by rw [List.size_toArray, ← hl]; exact h3) (by omega) (by rw [hk]; exact ⟨_, I', q⟩)

theorem slice_bounds (lo hi : Option Int) (n : Nat) : (sliceBounds lo hi none n).1 = ((HT.sIx n 0 lo : Nat) : Int) ∧ (sliceBounds lo hi none n).2.1 = ((HT.sIx n n hi : Nat) : Int) ∧ (sliceBounds lo hi none n).2.2 = 1 := by
  refine ⟨?_, ?_, rfl⟩
  · cases lo with
    | none => simp [sliceBounds, HT.sIx]
    | some i =>
      simp only [sliceBounds, HT.sIx, Option.getD_none, show (1 : Int) > 0 by decide, if_true]
      by_cases h : i < 0
      · simp only [h, if_true] <;> omega
      · simp only [h, if_false] <;> omega
  · cases hi with
    | none => simp [sliceBounds, HT.sIx]
    | some i =>
      simp only [sliceBounds, HT.sIx, Option.getD_none, show (1 : Int) > 0 by decide, if_true]
      by_cases h : i < 0
      · simp only [h, if_true] <;> omega
      · simp only [h, if_false] <;> omega
theorem slicePick_cut (its : List Value) (lo hi : Option Int) : slicePick its.toArray lo hi none = ((its.drop (HT.sIx its.length 0 lo)).take (HT.sIx its.length its.length hi - HT.sIx its.length 0 lo)).toArray := by
  obtain ⟨h1, h2, h3⟩ := slice_bounds lo hi its.toArray.size
  unfold slicePick
  rw [h1, h2, h3]
  simp only [sliceRange_one, pick_run, List.size_toArray] <;> rfl
def rSlL (K : PySem.W.Frag) : V → Option Int → Option Int → Hp → VK → Prop := fun x lo hi H Q => ∃ a xs, x = .ref a ∧ SqL K H a xs ∧ ∀ p, H p = none → Q (.ref p) (upd H p (.lst (cutV xs lo hi)))
theorem sl_list : SlR X (rSlL X.K) := by
  intro pins s σ H x v vl vu lo hi sl Q I rx hs pl pu h
  obtain ⟨a, xs, rfl, hx, q⟩ := h
  cases rx
  obtain ⟨its, r, ht, hz⟩ := I.list hx
  have hlen := r.length
  refine ⟨"list", _, slot_list_getitem.lookup, ht.isList.typeIs, ?_⟩
  refine wpAny_getItem_list_slice ht.isList hs pl pu .none (by simp) ?_ (by rw [List.size_toArray] <;> omega)
  rw [slicePick_cut, ← hlen]
  refine ⟨.ref s.heap.objs.size, _, I.laid (t' := s.toks) (o := .lst (cutV xs lo hi)) (fun b ob q => Heap.get?_push_of_some _ q) (Nat.le_refl _) ?_, rfl, q _ (I.hok.fresh (Nat.le_refl _))⟩
  exact ⟨Nat.le_trans (cutV_length xs lo hi) hz, _, 0, (r.drop (HT.sIx xs.length 0 lo)).take (HT.sIx xs.length xs.length hi - HT.sIx xs.length 0 lo), Heap.get?_push_size _ rfl⟩

def flatV : V → Bool
  | .non => true
  | .bl _ => true
  | .int _ => true
  | .str _ => true
  | _ => false
def eqV : V → V → Bool
  | .non, .non => true
  | .bl a, .bl b => a == b
  | .bl a, .int b => (if a then 1 else 0) == b
  | .int a, .bl b => a == (if b then 1 else 0)
  | .int a, .int b => a == b
  | .str a, .str b => a == b
  | _, _ => false
theorem eqAt_V {A : Around} {s : Shared} {y x : V} {u v : Value} (ry : RelV y u) (rx : RelV x v) (fy : flatV y = true) (fx : flatV x = true) : SeqAt.EqAt A s u v (eqV y x) := by
  cases y with
  | non =>
    cases ry
    cases x with
    | non => cases rx; exact SeqAt.EqAt.same _
    | bl b => cases rx; exact SeqAt.EqAt.none_bool b
    | int b => obtain ⟨t, rfl⟩ := rx; exact SeqAt.EqAt.none_int b t
    | str b => obtain ⟨t, rfl⟩ := rx; exact SeqAt.EqAt.none_str b t
    | _ => exact absurd (show false = true from fx) Bool.false_ne_true
  | bl a =>
    cases ry
    cases x with
    | non => cases rx; exact SeqAt.EqAt.bool_none a
    | bl b => cases rx; exact SeqAt.EqAt.bool_bool a b
    | int b => obtain ⟨t, rfl⟩ := rx; exact SeqAt.EqAt.bool_int a b t
    | str b => obtain ⟨t, rfl⟩ := rx; exact SeqAt.EqAt.bool_str a b t
    | _ => exact absurd (show false = true from fx) Bool.false_ne_true
  | int a =>
    obtain ⟨t', rfl⟩ := ry
    cases x with
    | non => cases rx; exact SeqAt.EqAt.int_none a t'
    | bl b => cases rx; exact SeqAt.EqAt.int_bool a t' b
    | int b => obtain ⟨t, rfl⟩ := rx; exact SeqAt.EqAt.int_int a t' b t
    | str b => obtain ⟨t, rfl⟩ := rx; exact SeqAt.EqAt.int_str a t' b t
    | _ => exact absurd (show false = true from fx) Bool.false_ne_true
  | str a =>
    obtain ⟨t', rfl⟩ := ry
    cases x with
    | non => cases rx; exact SeqAt.EqAt.str_none a t'
    | bl b => cases rx; exact SeqAt.EqAt.str_bool a t' b
    | int b => obtain ⟨t, rfl⟩ := rx; exact SeqAt.EqAt.str_int a t' b t
    | str b => obtain ⟨t, rfl⟩ := rx; exact SeqAt.EqAt.str_str a t' b t
    | _ => exact absurd (show false = true from fx) Bool.false_ne_true
  | _ => exact absurd (show false = true from fy) Bool.false_ne_true
def eqU (x : V) (u : Value) : Bool := match u with
  | .none => eqV .non x
  | .bool b => eqV (.bl b) x
  | .int i _ => eqV (.int i) x
  | .str z _ => eqV (.str z) x
  | _ => false
theorem eqU_of {x y : V} {u : Value} (r : RelV y u) (f : flatV y = true) : eqU x u = eqV y x := by
  cases y with
  | non => cases r; rfl
  | bl b => cases r; rfl
  | int i => obtain ⟨t, rfl⟩ := r; rfl
  | str z => obtain ⟨t, rfl⟩ := r; rfl
  | _ => exact absurd (show false = true from f) Bool.false_ne_true
theorem any_eqU {x : V} : ∀ {xs : List V} {us : List Value}, Vals xs us → xs.all flatV = true → us.any (eqU x) = xs.any fun y => eqV y x
  | _, _, .nil, _ => rfl
  | y :: xs, u :: us, .cons r t, f => by
    rw [List.all_cons, Bool.and_eq_true] at f
    rw [List.any_cons, List.any_cons, eqU_of r f.1, any_eqU t f.2]
theorem mem_eqAt {A : Around} {s : Shared} {x : V} {v : Value} (rx : RelV x v) (fx : flatV x = true) : ∀ {xs : List V} {us : List Value}, Vals xs us → xs.all flatV = true → ∀ u ∈ us, SeqAt.EqAt A s u v (eqU x u)
  | _, _, .nil, _ => fun u hu => by cases hu
  | y :: xs, u :: us, .cons r t, f => fun u' hu => by
    rw [List.all_cons, Bool.and_eq_true] at f
    rcases List.mem_cons.mp hu with rfl | hu
    · rw [eqU_of r f.1]; exact eqAt_V r rx f.1 fx
    · exact mem_eqAt rx fx t f.2 u' hu
def inV (x : V) (xs : List V) : Bool := xs.any fun y => eqV y x
def rIn (K : PySem.W.Frag) (neg : Bool) : R2 := fun x y H Q => ∃ p xs, y = .ref p ∧ (SqL K H p xs ∨ SqT K H p xs) ∧ flatV x = true ∧ xs.all flatV = true ∧ Q (.bl (if neg then !inV x xs else inV x xs)) H
theorem op_in_seq : OpR X (compareOp .In) (rIn X.K false) := by
  intro pins s σ H x y v u Q I rx ry h
  obtain ⟨p, xs, rfl, hq, fx, fs, q⟩ := h
  cases ry
  rcases hq with hq | hq
  · obtain ⟨its, r, pl, hz⟩ := I.list hq
    refine SeqAt.in_listAt (eqU x) pl.isList (fun w hw => mem_eqAt rx fx r fs w (by simpa using hw)) ⟨.bl _, H, I, rfl, ?_⟩
    rw [show its.toArray.any (eqU x) = its.any (eqU x) by simp, any_eqU r fs]
    exact q
  · obtain ⟨its, r, pl, hz⟩ := I.tuple hq
    refine SeqAt.in_tupleAt (eqU x) pl (fun w hw => mem_eqAt rx fx r fs w (by simpa using hw)) ⟨.bl _, H, I, rfl, ?_⟩
    rw [show its.toArray.any (eqU x) = its.any (eqU x) by simp, any_eqU r fs]
    exact q
theorem op_notIn_seq : OpR X (compareOp .NotIn) (rIn X.K true) := by
  intro pins s σ H x y v u Q I rx ry h
  obtain ⟨p, xs, rfl, hq, fx, fs, q⟩ := h
  cases ry
  rcases hq with hq | hq
  · obtain ⟨its, r, pl, hz⟩ := I.list hq
    refine SeqAt.notIn_listAt (eqU x) pl.isList (fun w hw => mem_eqAt rx fx r fs w (by simpa using hw)) ⟨.bl _, H, I, rfl, ?_⟩
    rw [show its.toArray.any (eqU x) = its.any (eqU x) by simp, any_eqU r fs]
    exact q
  · obtain ⟨its, r, pl, hz⟩ := I.tuple hq
    refine SeqAt.notIn_tupleAt (eqU x) pl (fun w hw => mem_eqAt rx fx r fs w (by simpa using hw)) ⟨.bl _, H, I, rfl, ?_⟩
    rw [show its.toArray.any (eqU x) = its.any (eqU x) by simp, any_eqU r fs]
    exact q
theorem call_len_seq : CallR X (.builtin "len") (fun xs H Q => ∃ p ys, xs = [.ref p] ∧ (SqL X.K H p ys ∨ SqT X.K H p ys) ∧ Q (.int ys.length) H) := by
  intro pins s σ H xs us Q I r h
  obtain ⟨p, ys, rfl, hq, q⟩ := h
  obtain ⟨u, rfl, rx⟩ := vals1 r
  cases rx
  have hn := line63
  rcases hq with hq | hq
  · obtain ⟨its, r', pl, hz⟩ := I.list hq
    have hlen := r'.length
    exact Calls.call_len_list pl.isList (by simp only [List.size_toArray] <;> omega) ⟨.int ys.length, H, I.tok _, ⟨s.toks + 1, by rw [List.size_toArray, hlen]⟩, q⟩
  · obtain ⟨its, r', pl, hz⟩ := I.tuple hq
    have hlen := r'.length
    exact len_tuple pl (by simp only [List.size_toArray] <;> omega) ⟨.int ys.length, H, I.tok _, ⟨s.toks + 1, by rw [List.size_toArray, hlen]⟩, q⟩
theorem call_list_of : CallR X (.type "list") (fun xs H Q => ∃ p ys, xs = [.ref p] ∧ (SqL X.K H p ys ∨ SqT X.K H p ys) ∧ ∀ l, H l = none → Q (.ref l) (upd H l (.lst ys))) := by
  intro pins s σ H xs us Q I r h
  obtain ⟨p, ys, rfl, hq, q⟩ := h
  obtain ⟨u, rfl, rx⟩ := vals1 r
  cases rx
  have fin : ∀ (its : List Value), Vals ys its → ys.length ≤ sizeLine → ∀ (h' : Heap) (c' : Nat), (∀ b o', s.heap.get? b = some o' → h'.get? b = some o') →
      h'.get? s.heap.objs.size = some { cls := .type "list", dict := none, data := .seq its.toArray c', slots := #[] } → EP X pins σ Q (.ref s.heap.objs.size) { s with heap := h' } := fun its r' hz h' c' kp e =>
    ⟨.ref s.heap.objs.size, _, I.laid (t' := s.toks) kp (Nat.le_refl _) (show ObjOk X.prog X.w _ h' _ (.lst ys) from ⟨hz, its, c', r', e⟩), rfl, q _ (I.hok.fresh (Nat.le_refl _))⟩
  rcases hq with hq | hq
  · obtain ⟨its, r', pl, hz⟩ := I.list hq
    have hlen := r'.length
    obtain ⟨o, ho, hc, n, hd⟩ := pl.isList
    exact call_list_seq p (.inl rfl) ho hc hd (fun h' c' kp e => fin its r' hz h' c' kp e) (by simp only [List.size_toArray] <;> omega)
  · obtain ⟨its, r', pl, hz⟩ := I.tuple hq
    have hlen := r'.length
    obtain ⟨o, ho, hc, n, hd⟩ := pl
    exact call_list_seq p (.inr rfl) ho hc hd (fun h' c' kp e => fin its r' hz h' c' kp e) (by simp only [List.size_toArray] <;> omega)
def tyV (K : PySem.W.Frag) (T : String) (x : V) (H : Hp) : Prop := match x with
  | .str _ => T = "str"
  | .int _ => T = "int"
  | .ref p => (T = "list" ∧ ∃ xs, SqL K H p xs) ∨ (T = "tuple" ∧ ∃ o, K.lookup p = some o ∧ o.cls = .type "tuple" ∧ o.dict = none) ∨
      (T = "dict" ∧ ((∃ kvs, H p = some (.dK kvs)) ∨ ∃ kvs, H p = some (.dT kvs))) ∨ (T = "set" ∧ ∃ S n, H p = some (.set S n))
  | _ => False
theorem tyV_is {pins : List (Addr × Obj)} {σ : St} {H : Hp} {s : Shared} {T : String} {x : V} {v : Value} (I : Inv X pins σ H s) (r : RelV x v) (ty : tyV X.K T x H) :
    s.TypeIs v T ∧ ∀ a, v = .ref a → ∃ ob, s.heap.get? a = some ob ∧ ob.dict = none := by
  cases x with
  | str z =>
    obtain ⟨t, rfl⟩ := r
    cases (show T = "str" from ty)
    exact ⟨typeIs_str s z t, fun _ e => nomatch e⟩
  | int i =>
    obtain ⟨t, rfl⟩ := r
    cases (show T = "int" from ty)
    exact ⟨typeIs_int s i t, fun _ e => nomatch e⟩
  | ref p =>
    cases r
    rcases ty with ⟨rfl, xs, hq⟩ | ⟨rfl, o, hk, hc, hd⟩ | ⟨rfl, hk⟩ | ⟨rfl, S, n, hk⟩
    · obtain ⟨its, _, pl, _⟩ := I.list hq
      refine ⟨pl.isList.typeIs, fun a e => ?_⟩
      cases e
      obtain ⟨o, n, e, c, hd, _⟩ := pl
      exact ⟨o, e, hd⟩
    · refine ⟨⟨o, I.kIn p o hk, hc⟩, fun a e => ?_⟩
      cases e
      exact ⟨o, I.kIn _ o hk, hd⟩
    · have z : ∃ o, s.heap.get? p = some o ∧ o.ExactDict := by
        rcases hk with ⟨kvs, hk⟩ | ⟨kvs, hk⟩
        · obtain ⟨_, _, _, _, o, _, _, e, ex, _⟩ := I.hok p _ hk
          exact ⟨o, e, ex⟩
        · obtain ⟨_, _, _, _, o, _, _, e, ex, _⟩ := I.hok p _ hk
          exact ⟨o, e, ex⟩
      obtain ⟨o, e, ex⟩ := z
      refine ⟨⟨o, e, ex.1⟩, fun a e2 => ?_⟩
      cases e2
      exact ⟨o, e, ex.2.1⟩
    · obtain ⟨o, _, _, _, e, ex, _⟩ := I.hok p _ hk
      refine ⟨⟨o, e, ex.1⟩, fun a e2 => ?_⟩
      cases e2
      exact ⟨o, e, ex.2.1⟩
  | _ => exact False.elim ty
def tBM (K : PySem.W.Frag) (T : String) (r : V → List V → Hp → VK → Prop) (to : TE) (t : TA) : TE := fun σ H Q => to σ H fun x H1 => tyV K T x H1 ∧ t σ H1 fun xs H2 => r x xs H2 Q
variable {o e : Expr} {es : List Expr} {to : TE} {t : TA} {name : Str} {apos cpos : Pos} {T id : String} {r : V → List V → Hp → VK → Prop}
theorem pe_bm (pa : PlainAttrs T) (slot : Slot T name id) (hty : typeOf (.builtin id) = pure (.type "method_descriptor")) (hm : MtR X id r) (ho : PE X o to) (ha : PA X (e :: es) t)
    (hbase : attributeBase o name X.env (eval o X.env) = eval o X.env := by rfl)
    (hfew : ((backTo cpos (starEach (e :: es) X.env)).all (fun x => !x.1) && (backToKw cpos (keywordEach [] X.env)).all (fun x => x.1.isSome)
      && decide ((e :: es).length + ([] : List Keyword).length + (if ([] : List Keyword).isEmpty then 0 else 1) < 30)) = true := by rfl)
    (hline : (apos.endLine == cpos.line) = true := by rfl) (hs : starEach (e :: es) X.env = (false, eval e X.env) :: starEach es X.env := by rfl) (hplain : (backTo cpos (starEach es X.env)).any (·.1) = false := by rfl) :
    PE X (.Call (.Attribute o name apos) (e :: es) [] cpos) (tBM X.K T r to t) := by
  intro pins s σ H Q I h
  refine wpAny_Call_method_late hbase hfew hline rfl (thn (ho pins s σ H _ I h) fun v s1 ⟨x, H1, I1, r1, ty, q1⟩ => ?_)
  obtain ⟨h1, h2⟩ := tyV_is I1 r1 ty
  refine ⟨T, id, pa, slot, hty, h1, h2, ?_⟩
  have hA := ha cpos pins s1 σ H1 _ I1 q1
  rw [hs] at hA ⊢
  refine Calls.callWith_builtin (by show (false || (backTo cpos (starEach es X.env)).any (·.1)) = false; rw [hplain] <;> rfl) (Calls.evalArgs_plain ?_)
  exact thn hA fun us s2 ⟨vs, H2, I2, r2, q2⟩ => hm pins s2 σ H2 x vs v us Q I2 r1 r2 q2
end
end L2

namespace L2
open PySem PySem.Spec PyProof.Rows

def MtM (X : Cx) (id : String) (r : V → List V → Hp → VK → Prop) : Prop :=
  ∀ (pins : List (Addr × Obj)) (s : Shared) (σ : St) (H : Hp) (x : V) (xs : List V) (v : Value) (us : List Value) (Q : VK), Inv X pins σ H s → RelV x v → Vals xs us → r x xs H Q →
    wpAny (model X.prog X.w) X.A (call (.builtin id) (v :: us)) (EP X pins σ Q) X.xe s

theorem Vals.one : ∀ {x : V} {us : List Value}, Vals [x] us → ∃ u, us = [u] ∧ RelV x u
  | _, _, .cons r .nil => ⟨_, rfl, r⟩
theorem Vals.rep {xs : List V} {us : List Value} (h : Vals xs us) : ∀ k : Nat, Vals (List.replicate k xs).flatten (List.replicate k us).flatten
  | 0 => .nil
  | k + 1 => by
    rw [List.replicate_succ, List.replicate_succ, List.flatten_cons, List.flatten_cons]
    exact Vals.append h (Vals.rep h k)
theorem foldl_rep (its : List Value) : ∀ (k : Nat) (acc : List Value),
    List.foldl (fun x1 x2 => x1 ++ x2) acc.toArray (List.replicate k its.toArray) = (acc ++ (List.replicate k its).flatten).toArray
  | 0, acc => by simp
  | k + 1, acc => by
    have e : acc.toArray ++ its.toArray = (acc ++ its).toArray := by simp
    have e2 : (acc ++ its) ++ (List.replicate k its).flatten = acc ++ (List.replicate (k + 1) its).flatten := by
      rw [List.replicate_succ, List.flatten_cons, List.append_assoc]
    rw [← e2, ← foldl_rep its k (acc ++ its), ← e, List.replicate_succ, List.foldl_cons]

section
variable {X : Cx} {pins : List (Addr × Obj)} {σ : St} {H : Hp} {s : Shared} {l b : Addr} {xs ys zs : List V}

theorem Inv.lset {its its' : List Value} {n : Nat} {f : Array Value → Array Value} {t' : Nat} (I : Inv X pins σ H s) (hH : H l = some (.lst xs))
    (e : s.heap.get? l = some { cls := .type "list", data := .seq its.toArray n }) (hf : f its.toArray = its'.toArray) (hv : Vals ys its') (hz : ys.length ≤ sizeLine) :
    Inv X pins σ (upd H l (.lst ys)) { s with heap := s.heap.update l (Obj.mapSeq f), toks := t' } := by
  have q := PySem.IsL.update e f
  rw [hf] at q
  refine I.write (x := l) (e := l) (by rw [hH]; exact trivial) (.inl rfl) (fun b' u hb hu => (Heap.get?_update_other s.heap (Obj.mapSeq f) (Ne.symm hb)).trans hu) ⟨_, q⟩ ?_
  exact ⟨hz, its', _, hv, q⟩
theorem Inv.lnew {its : List Value} {t' : Nat} (I : Inv X pins σ H s) (hv : Vals ys its) (hz : ys.length ≤ sizeLine) :
    Inv X pins σ (upd H s.heap.objs.size (.lst ys)) { s with heap := s.heap.push { cls := .type "list", data := .seq its.toArray }, toks := t' } :=
  I.laid (fun _ _ q => Heap.get?_push_of_some _ q) (Nat.le_refl _) ⟨hz, its, 0, hv, Heap.get?_push_size _ rfl⟩
theorem Inv.fresh (I : Inv X pins σ H s) : H s.heap.objs.size = none := I.hok.fresh (Nat.le_refl _)
theorem Inv.lstM (I : Inv X pins σ H s) (hH : H l = some (.lst xs)) : xs.length ≤ sizeLine ∧ ∃ (its : List Value) (n : Nat), Vals xs its ∧ xs.length = its.length ∧ s.heap.get? l = some { cls := .type "list", data := .seq its.toArray n } := by
  obtain ⟨z, its, n, r, e⟩ := I.hok l _ hH
  exact ⟨z, its, n, r, r.length, e⟩

theorem notLongL {n : Nat} (h : n ≤ sizeLine) : Builtin.List.listTooLong n = false := by
  unfold Builtin.List.listTooLong
  exact decide_eq_false (by omega)
end

section
variable {X : Cx}

def rAppend : V → List V → Hp → VK → Prop := fun x vs H Q => ∃ l xs y, x = .ref l ∧ vs = [y] ∧ H l = some (.lst xs) ∧ xs.length < sizeLine ∧ Q .non (upd H l (.lst (xs ++ [y])))
theorem mt_append : MtM X "list.append" rAppend := by
  intro pins s σ H x vs v us Q I rx rv h
  obtain ⟨l, xs, y, rfl, rfl, hH, hz, q⟩ := h
  cases rx
  obtain ⟨u, rfl, ru⟩ := rv.one
  obtain ⟨z, its, n, r, hl, e⟩ := I.lstM hH
  refine call_meets F.slot_list_append ⟨_, e, rfl⟩ F.entry_list_append (F.args_list_append_2 _ _) (PySem.list_append l its.toArray n u (by rw [List.size_toArray]; omega)) ⟨e, ?_⟩
  refine ⟨.non, _, I.lset (its' := its ++ [u]) hH e (by simp) (r.append (.cons ru .nil)) ?_, rfl, q⟩
  rw [List.length_append, List.length_singleton]
  omega

def rExtend : V → List V → Hp → VK → Prop := fun x vs H Q => ∃ l b xs zs, x = .ref l ∧ vs = [.ref b] ∧ H l = some (.lst xs) ∧ H b = some (.lst zs) ∧ xs.length + zs.length ≤ sizeLine ∧ Q .non (upd H l (.lst (xs ++ zs)))
theorem mt_extend : MtM X "list.extend" rExtend := by
  intro pins s σ H x vs v us Q I rx rv h
  obtain ⟨l, b, xs, zs, rfl, rfl, hH, hB, hz, q⟩ := h
  cases rx
  obtain ⟨u, rfl, ru⟩ := rv.one
  cases ru
  obtain ⟨z, its, n, r, hl, e⟩ := I.lstM hH
  obtain ⟨z2, its2, n2, r2, hl2, e2⟩ := I.lstM hB
  have hsz : its.toArray.size + its2.toArray.size ≤ sizeLine := by rw [List.size_toArray, List.size_toArray]; omega
  have hlong : ¬ (!its.toArray.isEmpty && Builtin.List.listTooLong (its.toArray.size + its2.toArray.size)) = true := by
    rw [notLongL hsz, Bool.and_false]
    exact Bool.false_ne_true
  refine call_meets F.slot_list_extend ⟨_, e, rfl⟩ F.entry_list_extend (F.args_list_extend_2 _ _)
    (AutoSeq1.list_extend_list_list_0 l its.toArray n b its2.toArray n2 hlong (by rw [List.size_toArray]; omega) (by omega)) ⟨e, e2, ?_⟩
  refine ⟨.non, _, I.lset (its' := its ++ its2) hH e (by simp) (r.append r2) ?_, rfl, q⟩
  rw [List.length_append]
  omega

def rCat : R2 := fun x y H Q => ∃ l b xs zs, x = .ref l ∧ y = .ref b ∧ H l = some (.lst xs) ∧ H b = some (.lst zs) ∧ xs.length + zs.length ≤ sizeLine ∧ ∀ p, H p = none → Q (.ref p) (upd H p (.lst (xs ++ zs)))
theorem op_cat : OpR X (binaryOp .Add) rCat := by
  intro pins s σ H x y v u Q I rx ry h
  obtain ⟨l, b, xs, zs, rfl, rfl, hH, hB, hz, q⟩ := h
  cases rx
  cases ry
  obtain ⟨z, its, n, r, hl, e⟩ := I.lstM hH
  obtain ⟨z2, its2, n2, r2, hl2, e2⟩ := I.lstM hB
  refine PySem.P.add_list e e2 ?_ (by rw [List.size_toArray, List.size_toArray]; omega)
  have ea : its.toArray ++ its2.toArray = (its ++ its2).toArray := by simp
  rw [ea]
  exact ⟨.ref _, _, I.lnew (t' := s.toks) (r.append r2) (by rw [List.length_append]; omega), rfl, q _ I.fresh⟩
def rRep : R2 := fun x y H Q => ∃ l k xs, x = .ref l ∧ y = .int k ∧ H l = some (.lst xs) ∧ -(2 ^ 63) ≤ k ∧ k < 2 ^ 63 ∧ xs.length * k.toNat ≤ sizeLine ∧
  ∀ p, H p = none → Q (.ref p) (upd H p (.lst (List.replicate k.toNat xs).flatten))
theorem len_rep {α : Type} (xs : List α) (k : Nat) : (List.replicate k xs).flatten.length = k * xs.length := by
  induction k with
  | zero => simp
  | succ k ih => rw [List.replicate_succ, List.flatten_cons, List.length_append, ih, Nat.succ_mul, Nat.add_comm]
theorem op_rep : OpR X (binaryOp .Mult) rRep := by
  intro pins s σ H x y v u Q I rx ry h
  obtain ⟨l, k, xs, rfl, rfl, hH, h1, h2, hz, q⟩ := h
  cases rx
  obtain ⟨t, rfl⟩ := ry
  obtain ⟨z, its, n, r, hl, e⟩ := I.lstM hH
  have hlen : its.toArray.size * k.toNat ≤ sizeLine := by rw [List.size_toArray, ← hl]; exact hz
  have hcap : ¬ its.toArray.size * k.toNat > (2 ^ 63 - 1) / 8 := by
    have : (sizeLine : Nat) ≤ (2 ^ 63 - 1) / 8 := by decide
    omega
  have hfit : ¬ (!Builtin.List.listFitsIndex k) = true := by
    rw [fitsIndex_both h1 h2]
    exact Bool.false_ne_true
  have hlong : ¬ Builtin.List.listTooLong (its.toArray.size * k.toNat) = true := by
    rw [notLongL hlen]
    exact Bool.false_ne_true
  have hnew : List.foldl (fun x1 x2 => x1 ++ x2) #[] (List.replicate (if its.toArray.isEmpty = true then 0 else k.toNat) its.toArray) = (List.replicate k.toNat its).flatten.toArray := by
    have f0 : ∀ m : Nat, List.foldl (fun x1 x2 => x1 ++ x2) #[] (List.replicate m its.toArray) = (List.replicate m its).flatten.toArray := fun m => by
      have := foldl_rep its m []
      rw [List.nil_append] at this
      exact this
    rw [f0]
    cases its with
    | nil => simp
    | cons a r' => rw [if_neg (by simp)]
  refine wpAny_binaryOp_repeat_ref (T := "list") (U := "int") (by decide) ⟨_, e, rfl⟩ (fun s' => typeIs_int s' k t) noFill_list_mul F.fills_int_mul F.slot_int_rmul repeat_list F.slot_int_index.lookup
    (call_meets F.slot_int_rmul (typeIs_int s k t) F.entry_int_rmul (F.args_int_rmul_2 _ _) (int___rmul___int_list k t l its.toArray n)
      ⟨e, rfl, ⟨_, e, rfl⟩, call_meets F.slot_list_mul ⟨_, e, rfl⟩ F.entry_list_mul (F.args_list_mul_2 _ _) (AutoListH.list___mul___list_int_3 l its.toArray n k t hfit hcap hlong) ⟨e, ?_⟩⟩)
  rw [hnew]
  exact ⟨.ref _, _, I.lnew (t' := s.toks) (r.rep k.toNat) (by rw [len_rep, Nat.mul_comm]; exact hz), rfl, q _ I.fresh⟩

end

section
variable {prog : Program} {w : World} {A : Around} {E : Value → Shared → Prop} {s : Shared}
set_option maxRecDepth 100000 in
end

section
variable {X : Cx}
end
end L2

namespace L2
open PySem PySem.Spec PyProof.Rows

theorem Vals.ints : ∀ {ns : List Int} {us : List Value}, Vals (ns.map V.int) us → IntsAre us ns
  | [], us, h => by
    rw [List.map_nil] at h
    cases h
    exact IntsAre.nil
  | n :: ns, us, h => by
    rw [List.map_cons] at h
    cases h with
    | cons r t =>
      obtain ⟨k, rfl⟩ := r
      exact IntsAre.cons n k (Vals.ints t)
theorem Vals.bls : ∀ {bs : List Bool} {us : List Value}, Vals (bs.map V.bl) us → us = bs.map Value.bool
  | [], us, h => by
    rw [List.map_nil] at h
    cases h
    rfl
  | b :: bs, us, h => by
    rw [List.map_cons] at h
    cases h with
    | cons r t =>
      cases r
      rw [Vals.bls t, List.map_cons]
theorem Vals.ref1 {a : Addr} {us : List Value} (r : Vals [V.ref a] us) : us = [Value.ref a] := by
  cases r with
  | cons r t =>
    cases t
    cases r
    rfl
section
variable {prog : Program} {w : World} {A : Around} {E : Value → Shared → Prop} {s : Shared} {l : Addr} {its : List Value} {ns : List Int} {Q : Value → Shared → Prop}
theorem sum_raw (hh : A.handled = none) (hl : s.heap.IsList l its.toArray) (hi : IntsAre its ns)
    (h : ∀ h' tk t', (∀ b o, s.heap.get? b = some o → h'.get? b = some o) → Q (.int ns.sum t') { s with heap := h', toks := tk }) : wpAny (model prog w) A (call (.builtin "sum") [.ref l]) Q E s := by
  obtain ⟨xs, e⟩ := hi.allInts.items
  have hn : numsOf (intItems xs).toList = ns := by rw [← e]; exact hi.numsOf
  rw [nums_intItems] at hn
  rw [e] at hl
  refine PySem.sum_intListG hh hl fun h' tk t' hk => ?_
  have := h h' tk t' hk
  rw [preSum_eq, List.take_of_length_le (by simp), hn]; exact this
end

section
variable {X : Cx}
def rSum (K : PySem.W.Frag) : List V → Hp → VK → Prop := fun vs H Q => ∃ (a : Addr) (ns : List Int), vs = [V.ref a] ∧ SqL K H a (ns.map V.int) ∧ Q (.int ns.sum) H
theorem cr_sum (hc : X.calm = true) : CallR X (.builtin "sum") (rSum X.K) := by
  intro pins s σ H vs us Q I r h
  obtain ⟨a, ns, rfl, hs, q⟩ := h
  obtain ⟨its, rv, hl, _⟩ := I.list hs
  rw [Vals.ref1 r]
  exact sum_raw (I.ok.hd hc) hl.isList rv.ints fun h' tk t' hk => ⟨.int _, H, I.kept hk, ⟨_, rfl⟩, q⟩
end

section
variable {X : Cx}
end

section
variable {X : Cx}
end

theorem iter_any {prog : Program} {w : World} {A : Around} {E : Value → Shared → Prop} {s : Shared} {l : Addr} {items : Array Value} {Q : Value → Shared → Prop} (hl : s.heap.IsList l items)
    (h : ∀ s₂ : Shared, s₂ = { s with heap := s.heap.push { cls := .type "list_iterator", data := .fields #[.ref l, .int 0 0] } } →
      (s₂.heap.IsListIter s.heap.objs.size l 0 ∧ s₂.heap.IsList l items) → l ≠ s.heap.objs.size → Q (.ref s.heap.objs.size) s₂) : wpAny (model prog w) A (pyIter (.ref l)) Q E s := by
  have hlt : l < s.heap.objs.size := by obtain ⟨_, e, _⟩ := hl; exact Heap.lt_size e
  exact wpAny_pyIter_list hl (h _ rfl ⟨⟨_, Heap.get?_push_size _ rfl, rfl, rfl⟩, hl.push _⟩ (Nat.ne_of_lt hlt))
theorem truth_bools {prog : Program} {w : World} {A : Around} {bs : List Bool} {its : List Value} (e : its = bs.map Value.bool) :
    TruthOf prog w A (fun i v => its.toArray[i]? = some v) (fun i => bs.getD i false) := fun i v s Q E hv hq => by
  have hv' : its[i]? = some v := by simpa using hv
  rw [e, List.getElem?_map] at hv'
  obtain ⟨b, hb, rfl⟩ := Option.map_eq_some_iff.mp hv'
  have hg : bs.getD i false = b := by rw [List.getD_eq_getElem?_getD, hb] <;> rfl
  have hq' : Q (bs.getD i false) s := hq
  rw [hg] at hq'
  exact wpAny_truthy_bool hq'
theorem any_range : ∀ bs : List Bool, (List.range bs.length).any (fun i => bs.getD i false) = bs.any id
  | [] => rfl
  | b :: bs => by
    rw [List.length_cons, List.range_succ_eq_map, List.any_cons, List.any_map, List.any_cons, ← any_range bs]
    all_goals rfl
theorem all_range : ∀ bs : List Bool, (List.range bs.length).all (fun i => bs.getD i false) = bs.all id
  | [] => rfl
  | b :: bs => by
    rw [List.length_cons, List.range_succ_eq_map, List.all_cons, List.all_map, List.all_cons, ← all_range bs]
    all_goals rfl
section
variable {X : Cx}
def rAny (K : PySem.W.Frag) : List V → Hp → VK → Prop := fun vs H Q => ∃ (a : Addr) (bs : List Bool), vs = [V.ref a] ∧ SqL K H a (bs.map V.bl) ∧ Q (.bl (bs.any id)) H
def rAll (K : PySem.W.Frag) : List V → Hp → VK → Prop := fun vs H Q => ∃ (a : Addr) (bs : List Bool), vs = [V.ref a] ∧ SqL K H a (bs.map V.bl) ∧ Q (.bl (bs.all id)) H
theorem cr_any (hc : X.calm = true) : CallR X (.builtin "any") (rAny X.K) := by
  intro pins s σ H vs us Q I r h
  obtain ⟨a, bs, rfl, hs, q⟩ := h
  obtain ⟨its, rv, hl, _⟩ := I.list hs
  rw [Vals.ref1 r]
  have hb := rv.bls
  refine call_any_walk (iter_any hl.isList fun s₂ e2 st hne => ?_)
  subst e2
  refine ⟨_, _, _, _, _, _, _, rfl, Walks.list (A := X.A.in1) (I.ok.hd hc) _ a hne its.toArray, st, truth_bools hb, fun h' tk hk => ?_⟩
  refine ⟨.bl _, H, I.kept fun b o eo => hk b o (fun hmem => ?_) (Heap.get?_push_of_some _ eo), ?_, q⟩
  · rcases List.mem_cons.mp hmem with e1 | hmem
    · exact absurd (e1 ▸ Heap.lt_size eo) (Nat.lt_irrefl _)
    · cases hmem
  · show Value.bool _ = Value.bool _
    rw [← any_range, hb, List.size_toArray, List.length_map]
theorem cr_all (hc : X.calm = true) : CallR X (.builtin "all") (rAll X.K) := by
  intro pins s σ H vs us Q I r h
  obtain ⟨a, bs, rfl, hs, q⟩ := h
  obtain ⟨its, rv, hl, _⟩ := I.list hs
  rw [Vals.ref1 r]
  have hb := rv.bls
  refine call_all_walk (iter_any hl.isList fun s₂ e2 st hne => ?_)
  subst e2
  refine ⟨_, _, _, _, _, _, _, rfl, Walks.list (A := X.A.in1) (I.ok.hd hc) _ a hne its.toArray, st, truth_bools hb, fun h' tk hk => ?_⟩
  refine ⟨.bl _, H, I.kept fun b o eo => hk b o (fun hmem => ?_) (Heap.get?_push_of_some _ eo), ?_, q⟩
  · rcases List.mem_cons.mp hmem with e1 | hmem
    · exact absurd (e1 ▸ Heap.lt_size eo) (Nat.lt_irrefl _)
    · cases hmem
  · show Value.bool _ = Value.bool _
    rw [← all_range, hb, List.size_toArray, List.length_map]
end

mutual
inductive Dp (K : PySem.W.Frag) (H : Hp) : V → PyData → Prop
  | non : Dp K H .non .none
  | bl (b : Bool) : Dp K H (.bl b) (.bool b)
  | int (i : Int) : Dp K H (.int i) (.int i)
  | str (x : Str) : Dp K H (.str x) (.str x)
  | lst {a : Addr} {xs : List V} {ds : List PyData} : SqL K H a xs → DpAll K H xs ds → Dp K H (.ref a) (.list ds)
  | tup {a : Addr} {xs : List V} {ds : List PyData} : SqT K H a xs → DpAll K H xs ds → Dp K H (.ref a) (.tuple ds)
inductive DpAll (K : PySem.W.Frag) (H : Hp) : List V → List PyData → Prop
  | nil : DpAll K H [] []
  | cons {v : V} {vs : List V} {d : PyData} {ds : List PyData} : Dp K H v d → DpAll K H vs ds → DpAll K H (v :: vs) (d :: ds)
end
section
variable {X : Cx} {pins : List (Addr × Obj)} {σ : St} {H : Hp} {s : Shared}
mutual
theorem Dp.reads (I : Inv X pins σ H s) : ∀ (d : PyData) (v : V) (u : Value), Dp X.K H v d → RelV v u → ∃ as, Reads s.heap u d as
  | .none, _, _, h, r => by
    cases h
    cases r
    exact ⟨_, Reads.none⟩
  | .bool b, _, _, h, r => by
    cases h
    cases r
    exact ⟨_, Reads.bool b⟩
  | .int i, _, _, h, r => by
    cases h
    obtain ⟨t, rfl⟩ := r
    exact ⟨_, Reads.int i t⟩
  | .str x, _, _, h, r => by
    cases h
    obtain ⟨t, rfl⟩ := r
    exact ⟨_, Reads.str x t⟩
  | .list ds, _, _, h, r => by
    cases h with
    | lst hs ha =>
      cases r
      obtain ⟨its, rv, ⟨o, n, ho, hc, _, hd⟩, _⟩ := I.list hs
      obtain ⟨as, hr⟩ := Dp.readsAll I ds _ its ha rv
      exact ⟨_, Reads.list ho hc hd hr⟩
  | .tuple ds, _, _, h, r => by
    cases h with
    | tup hs ha =>
      cases r
      obtain ⟨its, rv, ⟨o, ho, hc, n, hd⟩, _⟩ := I.tuple hs
      obtain ⟨as, hr⟩ := Dp.readsAll I ds _ its ha rv
      exact ⟨_, Reads.tuple ho hc hd hr⟩
  | .dict _, _, _, h, _ => by cases h
theorem Dp.readsAll (I : Inv X pins σ H s) : ∀ (ds : List PyData) (vs : List V) (us : List Value), DpAll X.K H vs ds → Vals vs us → ∃ as, ReadsAll s.heap us ds as
  | [], _, _, h, r => by
    cases h
    cases r
    exact ⟨_, ReadsAll.nil⟩
  | d :: ds, _, _, h, r => by
    cases h with
    | cons h1 h2 =>
      cases r with
      | cons r1 r2 =>
        obtain ⟨as, q1⟩ := Dp.reads I d _ _ h1 r1
        obtain ⟨bs, q2⟩ := Dp.readsAll I ds _ _ h2 r2
        exact ⟨_, ReadsAll.cons q1 q2⟩
end
end
section
variable {X : Cx}
end
end L2

namespace L2
open PySem PySem.Spec PyProof.Rows
abbrev CellAt (h : Heap) (c : Addr) (v : Option Value) : Prop := h.IsCell c v
def relS (scope sc : Scope) : Scope :=
  { scope with names := scope.names.map fun (n, k) => if (k == .free && sc.kind == .function && sc.names.lookup n == some .cell) then (n, .cell) else (n, k) }

def cloFrom (cells : List (Str × Addr)) : List (Str × NameKind) → List (Str × Addr) → List (Str × Addr)
  | [], acc => acc
  | (n, k) :: r, acc => if k == .free then cloFrom cells r ((n, (cells.lookup n).getD 0) :: acc) else cloFrom cells r acc

theorem closure_loop (env : Env) (f : Str × NameKind → List (Str × Addr) → Sem (ForInStep (List (Str × Addr))))
    (hf : ∀ n k c, f (n, k) c = if k == .free then (do let a ← cellOf env n; pure (.yield ((n, a) :: c))) else pure (.yield c)) :
    ∀ (names : List (Str × NameKind)) (acc : List (Str × Addr)), (∀ y ∈ names, y.2 = .free → ∃ c, env.cells.lookup y.1 = some c) → forIn names acc f = pure (cloFrom env.cells names acc)
  | [], acc, _ => by rw [List.forIn_nil]; rfl
  | (n, k) :: r, acc, h => by
    rw [List.forIn_cons, hf]
    have ih := fun acc => closure_loop env f hf r acc fun y hy => h y (List.mem_cons_of_mem _ hy)
    unfold cloFrom
    by_cases hk : (k == NameKind.free) = true
    · rw [if_pos hk, if_pos hk]
      obtain ⟨c, hc⟩ := h (n, k) List.mem_cons_self (by simpa using hk)
      have e : cellOf env n = pure c := by unfold cellOf; rw [hc]
      rw [e]
      have e2 : (env.cells.lookup n).getD 0 = c := by rw [hc]; rfl
      rw [e2]
      exact ih _
    · rw [if_neg hk, if_neg hk]
      exact ih _
theorem closure_ok {scope : Scope} {env : Env} (h : ∀ y ∈ scope.names, y.2 = .free → ∃ c, env.cells.lookup y.1 = some c) : closureFor scope env = pure (cloFrom env.cells scope.names []) := by
  simp only [closureFor]
  rw [closure_loop env _ (fun n k c => rfl) scope.names [] h]
  rfl

theorem mem_lookup {α : Type} : ∀ {l : List (Str × α)} {n : Str} {c : α}, (n, c) ∈ l → ∃ c', l.lookup n = some c'
  | (k, v) :: r, n, c, h => by
    rw [List.lookup_cons]
    cases hb : n == k with
    | true => exact ⟨_, rfl⟩
    | false =>
      rcases List.mem_cons.mp h with e | h
      · cases e; simp at hb
      · exact mem_lookup h

theorem cloFrom_mem {cells : List (Str × Addr)} : ∀ {names : List (Str × NameKind)} {acc : List (Str × Addr)} {n : Str} {c : Addr}, (n, c) ∈ cloFrom cells names acc → (n, c) ∈ acc ∨ ((n, .free) ∈ names ∧ c = (cells.lookup n).getD 0)
  | [], _, _, _, h => .inl h
  | (m, k) :: r, acc, n, c, h => by
    unfold cloFrom at h
    split at h
    · rename_i hk
      have hk : k = .free := by simpa using hk
      rcases cloFrom_mem h with h | ⟨h1, h2⟩
      · rcases List.mem_cons.mp h with e | h
        · cases e; exact .inr ⟨hk ▸ List.mem_cons_self, rfl⟩
        · exact .inl h
      · exact .inr ⟨List.mem_cons_of_mem _ h1, h2⟩
    · rcases cloFrom_mem h with h | ⟨h1, h2⟩
      · exact .inl h
      · exact .inr ⟨List.mem_cons_of_mem _ h1, h2⟩
theorem cloFrom_acc {cells : List (Str × Addr)} : ∀ {names : List (Str × NameKind)} {acc : List (Str × Addr)} {p : Str × Addr}, p ∈ acc → p ∈ cloFrom cells names acc
  | [], _, _, h => h
  | (m, k) :: r, acc, p, h => by
    unfold cloFrom
    split
    · exact cloFrom_acc (List.mem_cons_of_mem _ h)
    · exact cloFrom_acc h
theorem cloFrom_has {cells : List (Str × Addr)} : ∀ {names : List (Str × NameKind)} {acc : List (Str × Addr)} {n : Str}, (n, .free) ∈ names → (n, (cells.lookup n).getD 0) ∈ cloFrom cells names acc
  | (m, k) :: r, acc, n, h => by
    unfold cloFrom
    rcases List.mem_cons.mp h with e | h
    · cases e
      exact cloFrom_acc List.mem_cons_self
    · split
      · exact cloFrom_has h
      · exact cloFrom_has h

theorem cells_mem : ∀ {names : List (Str × NameKind)} {h : Heap} {acc : List (Str × Addr)} {x : Str} {c : Addr}, (x, c) ∈ cellsFrom h.objs.size names acc →
    (x, c) ∈ acc ∨ ((x, .cell) ∈ names ∧ h.objs.size ≤ c ∧ CellAt (pushCells h names) c none)
  | [], _, _, _, _, h => .inl h
  | (n, k) :: r, h, acc, x, c, hm => by
    unfold cellsFrom at hm
    unfold pushCells
    split at hm
    · rename_i hk
      rw [if_pos hk]
      have hk : k = .cell := by simpa using hk
      rw [← Heap.size_push h { cls := .type "cell", data := .cell none }] at hm
      rcases cells_mem hm with hm | ⟨h1, h2, h3⟩
      · rcases List.mem_cons.mp hm with e | hm
        · cases e
          exact .inr ⟨hk ▸ List.mem_cons_self, Nat.le_refl _, _, pushCells_keeps r _ _ _ (Heap.get?_push_size _ rfl), rfl⟩
        · exact .inl hm
      · rw [Heap.size_push] at h2
        exact .inr ⟨List.mem_cons_of_mem _ h1, Nat.le_of_succ_le h2, h3⟩
    · rename_i hk
      rw [if_neg hk]
      rcases cells_mem hm with hm | ⟨h1, h2, h3⟩
      · exact .inl hm
      · exact .inr ⟨List.mem_cons_of_mem _ h1, h2, h3⟩
theorem cells_acc : ∀ {names : List (Str × NameKind)} {n : Nat} {acc : List (Str × Addr)} {p : Str × Addr}, p ∈ acc → p ∈ cellsFrom n names acc
  | [], _, _, _, h => h
  | (m, k) :: r, n, acc, p, h => by
    unfold cellsFrom
    split
    · exact cells_acc (List.mem_cons_of_mem _ h)
    · exact cells_acc h
theorem cells_has : ∀ {names : List (Str × NameKind)} {n : Nat} {acc : List (Str × Addr)} {x : Str}, (x, .cell) ∈ names → ∃ c, (x, c) ∈ cellsFrom n names acc
  | (m, k) :: r, n, acc, x, h => by
    unfold cellsFrom
    rcases List.mem_cons.mp h with e | h
    · cases e
      exact ⟨n, cells_acc List.mem_cons_self⟩
    · split
      · exact cells_has h
      · exact cells_has h
theorem cells_inj : ∀ {names : List (Str × NameKind)} {h : Heap} {acc : List (Str × Addr)} {x y : Str} {c : Addr}, (∀ p ∈ acc, p.2 < h.objs.size) → (∀ x y c, (x, c) ∈ acc → (y, c) ∈ acc → x = y) →
    (x, c) ∈ cellsFrom h.objs.size names acc → (y, c) ∈ cellsFrom h.objs.size names acc → x = y
  | [], _, _, _, _, _, _, hi, h1, h2 => hi _ _ _ h1 h2
  | (n, k) :: r, h, acc, x, y, c, hl, hi, h1, h2 => by
    unfold cellsFrom at h1 h2
    split at h1
    · rename_i hk
      rw [if_pos hk] at h2
      rw [← Heap.size_push h { cls := .type "cell", data := .cell none }] at h1 h2
      refine cells_inj (h := h.push _) (fun p hp => ?_) (fun x y c a b => ?_) h1 h2
      · rw [Heap.size_push]
        rcases List.mem_cons.mp hp with rfl | hp
        · exact Nat.lt_succ_self _
        · exact Nat.lt_succ_of_lt (hl p hp)
      · rcases List.mem_cons.mp a with e | a <;> rcases List.mem_cons.mp b with e' | b
        · cases e; cases e'; rfl
        · cases e; exact absurd (hl _ b) (Nat.lt_irrefl _)
        · cases e'; exact absurd (hl _ a) (Nat.lt_irrefl _)
        · exact hi _ _ _ a b
    · rename_i hk
      rw [if_neg hk] at h2
      exact cells_inj hl hi h1 h2

theorem newEnv_comp {M : Model} {A : Around} {E : Value → Shared → Prop} {s : Shared} {scope : Scope} {globals : Addr} {closure : List (Str × Addr)} {qual : Str} {func : Option Addr} {code : Value} {around : Env} {builtins : Addr} {Q : Env → Shared → Prop}
    (h : Q (newEnv scope s.heap.objs.size globals (cellsFrom (s.heap.objs.size + 1) scope.names closure) qual func code (some around) builtins)
      { s with heap := pushCells (s.heap.push { cls := .type "dict", data := .dict #[] }) scope.names }) :
    wpAny M A (newFunctionEnv scope globals closure [] qual func code (some around) builtins) Q E s := by
  simp only [newFunctionEnv, Option.isSome_some, if_true]
  refine wpAny_bind (wpAny_alloc ?_)
  refine wpAny_bind (wpAny_layCells _ (fun n k c => rfl) scope.names closure _ _ ?_)
  rw [show ({ s with heap := s.heap.push { cls := .type "dict", data := .dict #[] } } : Shared).heap.objs.size = s.heap.objs.size + 1 from Heap.size_push ..]
  rw [List.forIn_nil]
  exact wpAny_bind (wpAny_pure (wpAny_pure h))

theorem lookup_relS {sc : Scope} : ∀ {names : List (Str × NameKind)} {x : Str} {k : NameKind},
    (names.map fun (n, k) => if (k == NameKind.free && sc.kind == .function && sc.names.lookup n == some .cell) then (n, NameKind.cell) else (n, k)).lookup x = some k →
    ∃ k', names.lookup x = some k' ∧ (k = k' ∨ (k' = .free ∧ k = .cell))
  | [], _, _, h => by simp at h
  | (n, k₀) :: r, x, k, h => by
    have ih := @lookup_relS sc r x k
    have h' : List.lookup x ((if (k₀ == NameKind.free && sc.kind == .function && sc.names.lookup n == some .cell) = true then (n, NameKind.cell) else (n, k₀)) :: (r.map _)) = some k := h
    cases hx : x == n with
    | true =>
      simp only [List.lookup_cons, hx]
      by_cases hc : (k₀ == NameKind.free && sc.kind == .function && sc.names.lookup n == some .cell) = true
      · rw [if_pos hc] at h'
        simp only [List.lookup_cons, hx] at h'
        cases h'
        simp only [Bool.and_eq_true, beq_iff_eq] at hc
        exact ⟨k₀, rfl, .inr ⟨hc.1.1, rfl⟩⟩
      · rw [if_neg hc] at h'
        simp only [List.lookup_cons, hx] at h'
        cases h'
        exact ⟨_, rfl, .inl rfl⟩
    | false =>
      simp only [List.lookup_cons, hx]
      by_cases hc : (k₀ == NameKind.free && sc.kind == .function && sc.names.lookup n == some .cell) = true
      · rw [if_pos hc] at h'
        simp only [List.lookup_cons, hx] at h'
        exact ih h'
      · rw [if_neg hc] at h'
        simp only [List.lookup_cons, hx] at h'
        exact ih h'
structure BlkOk (N : List Str) (sc scope : Scope) (own : List (Str × Nat)) : Prop where
  kind : scope.kind = .function
  uniq : ∀ y ∈ scope.names, scope.names.lookup y.1 = some y.2
  ix : ∀ p ∈ own, N[p.2]? = some p.1
  free : ∀ y ∈ scope.names, y.2 = .free → sc.names.lookup y.1 = some .cell ∨ sc.names.lookup y.1 = some .free
  own : ∀ y ∈ scope.names, y.2 = .local ∨ y.2 = .cell → y.1 ∈ own.map (·.1) ∨ y.1 ∉ N
def wipe (σ : St) : List Nat → St
  | [] => σ
  | v :: vs => (wipe σ vs).set v none
theorem wipe_length (σ : St) : ∀ vs : List Nat, (wipe σ vs).length = σ.length
  | [] => rfl
  | v :: vs => by unfold wipe; rw [List.length_set, wipe_length σ vs]
theorem wipe_some {σ : St} {i : Nat} {x : V} : ∀ {vs : List Nat}, (wipe σ vs)[i]? = some (some x) → σ[i]? = some (some x) ∧ i ∉ vs
  | [], h => ⟨h, by simp⟩
  | v :: vs, h => by
    unfold wipe at h
    by_cases hi : v = i
    · subst hi
      by_cases hv : v < (wipe σ vs).length
      · rw [List.getElem?_set_self hv] at h; cases h
      · rw [List.getElem?_eq_none (by simpa using hv)] at h; cases h
    · rw [List.getElem?_set_ne hi] at h
      obtain ⟨h1, h2⟩ := wipe_some h
      exact ⟨h1, by simp only [List.mem_cons, not_or]; exact ⟨fun e => hi e.symm, h2⟩⟩

abbrev Cx.blk (X : Cx) (s : Shared) (H : Hp) (scope : Scope) (cenv : Env) (fp : List Addr) : Cx := { X with s_0 := s, H_0 := H, env := cenv, outer := X.stack, ex := fp, fn := fun x => scope.names.lookup x == some .cell, pn := [], xe := fun _ _ => False }
section
variable {X : Cx} {pins : List (Addr × Obj)} {σ : St} {H : Hp} {s : Shared}
theorem block_start {scope : Scope} {own : List (Str × Nat)} {fp : List Addr} (I : Inv X pins σ H s) (ok : BlkOk X.N X.env.scope scope own) (hN : X.N.Nodup) (hfp : ∀ b ∈ fp, FpOk X pins H b ∧ b < s.heap.objs.size) :
    Inv (X.blk s H scope (compEnvC scope (cellsFrom (s.heap.objs.size + 1) scope.names (cloFrom X.env.cells scope.names [])) s.heap.objs.size X.env) fp) [] (wipe σ (own.map (·.2))) H { s with heap := pushCells (s.heap.push { cls := .type "dict", data := .dict #[] }) scope.names } := by
  have hfree : ∀ y ∈ scope.names, y.2 = .free → ∃ c, X.env.cells.lookup y.1 = some c := fun y hy e => by
    rcases ok.free y hy e with k | k
    · exact I.ok.has _ (.inl k)
    · exact I.ok.has _ (.inr k)
  generalize hcenv : compEnvC scope (cellsFrom (s.heap.objs.size + 1) scope.names (cloFrom X.env.cells scope.names [])) s.heap.objs.size X.env = cenv
  have kp : ∀ b o, s.heap.get? b = some o → (pushCells (s.heap.push { cls := .type "dict", data := .dict #[] }) scope.names).get? b = some o := fun b o e => pushCells_keeps _ _ _ _ (Heap.get?_push_of_some _ e)
  have hL : cenv.locals = s.heap.objs.size := by rw [← hcenv]; rfl
  have hcl : cenv.cells = cellsFrom (s.heap.objs.size + 1) scope.names (cloFrom X.env.cells scope.names []) := by rw [← hcenv]; rfl
  have hsc : cenv.scope = relS scope X.env.scope := by rw [← hcenv]; rfl
  rw [← Heap.size_push s.heap { cls := .type "dict", data := .dict #[] }] at hcl
  have cm : ∀ {y c}, (y, c) ∈ cloFrom X.env.cells scope.names [] → X.env.cells.lookup y = some c ∧ c < s.heap.objs.size := fun {y c} hm => by
    rcases cloFrom_mem hm with hm | ⟨h1, rfl⟩
    · cases hm
    · obtain ⟨c, hc⟩ := hfree _ h1 rfl
      rw [hc]
      obtain ⟨w, z⟩ := I.cell _ _ hc
      exact ⟨rfl, z.lt⟩
  have mem : ∀ {y c}, cenv.cells.lookup y = some c → (X.env.cells.lookup y = some c ∧ c < s.heap.objs.size) ∨ (s.heap.objs.size + 1 ≤ c ∧ CellAt (pushCells (s.heap.push { cls := .type "dict", data := .dict #[] }) scope.names) c none) := fun {y c} e => by
    rw [hcl] at e
    rcases cells_mem (PySem.mem_of_lookup e) with hm | ⟨_, h2, h3⟩
    · exact .inl (cm hm)
    · rw [Heap.size_push] at h2; exact .inr ⟨h2, h3⟩
  have look : ∀ {y}, scope.names.lookup y = some .free → ∃ c, cenv.cells.lookup y = some c ∧ X.env.cells.lookup y = some c := fun {y} hl => by
    have hy : (y, NameKind.free) ∈ scope.names := PySem.mem_of_lookup hl
    obtain ⟨c', e'⟩ := mem_lookup (cells_acc (names := scope.names) (n := (s.heap.push { cls := .type "dict", data := .dict #[] }).objs.size) (cloFrom_has (cells := X.env.cells) (acc := []) hy))
    rw [← hcl] at e'
    refine ⟨c', e', ?_⟩
    rw [hcl] at e'
    rcases cells_mem (PySem.mem_of_lookup e') with hm | ⟨h1, _, _⟩
    · exact (cm hm).1
    · have := ok.uniq _ h1
      rw [hl] at this; cases this
  have okB : (X.blk s H scope cenv fp).Ok := by
    refine ⟨I.ok.mod, by show cenv.scope.kind = _; rw [hsc]; exact ok.kind, by show cenv.globals = _; rw [← hcenv]; exact I.ok.glob, by show cenv.builtins = _; rw [← hcenv]; exact I.ok.blt, by show s.heap.objs.size ≤ cenv.locals; rw [hL]; exact Nat.le_refl _,
      fun y z c e1 e2 => ?_, fun y hy => ?_, fun y c z e => ?_, I.ok.hd, I.ok.frames, .inl rfl, fun b hb => ⟨?_, fun y c e z => ?_⟩, I.bs, Nat.le_trans I.ok.bsz I.sz, fun b o e hb => ?_, fun b hb z => ?_, I.stack, I.stkFree⟩
    · have e1 : cenv.cells.lookup y = some c := e1
      have e2 : cenv.cells.lookup z = some c := e2
      rw [hcl] at e1 e2
      refine cells_inj (fun p hp => ?_) (fun y z c a b => I.ok.inj y z c (cm a).1 (cm b).1) (PySem.mem_of_lookup e1) (PySem.mem_of_lookup e2)
      rw [Heap.size_push]
      exact Nat.lt_succ_of_lt (cm (y := p.1) (c := p.2) hp).2
    · show ∃ c, cenv.cells.lookup y = some c
      have key : ∀ k, cenv.kindOf y = some k → (k = .cell ∨ k = .free) → ∃ c, cenv.cells.lookup y = some c := fun k hk hk' => by
        unfold Env.kindOf at hk
        rw [hsc] at hk
        obtain ⟨k', e, r⟩ := lookup_relS hk
        have : k' = .cell ∨ k' = .free := by
          rcases r with rfl | ⟨rfl, _⟩
          · exact hk'
          · exact .inr rfl
        rcases this with rfl | rfl
        · obtain ⟨c, hm⟩ := cells_has (n := (s.heap.push { cls := .type "dict", data := .dict #[] }).objs.size) (acc := cloFrom X.env.cells scope.names []) (PySem.mem_of_lookup e)
          obtain ⟨c', e'⟩ := mem_lookup hm
          exact ⟨c', by rw [hcl]; exact e'⟩
        · obtain ⟨c, h1, _⟩ := look e
          exact ⟨c, h1⟩
      rcases hy with hy | hy
      · exact key _ hy (.inl rfl)
      · exact key _ hy (.inr rfl)
    · have z : (scope.names.lookup y == some NameKind.cell) = true := z
      have z : scope.names.lookup y = some .cell := by simpa using z
      have e : cenv.cells.lookup y = some c := e
      rw [hcl] at e
      rcases cells_mem (PySem.mem_of_lookup e) with hm | ⟨_, h2, _⟩
      · rcases cloFrom_mem hm with hm | ⟨h1, _⟩
        · cases hm
        · have q := ok.uniq _ h1
          rw [z] at q; cases q
      · rw [Heap.size_push] at h2
        exact Nat.le_of_succ_le h2
    · show b ≠ cenv.locals
      rw [hL]; exact Nat.ne_of_lt (hfp b hb).2
    · have e : cenv.cells.lookup y = some c := e
      rcases mem e with ⟨h1, _⟩ | ⟨h1, _⟩
      · exact (hfp b hb).1.2.2.2.2.1 y c h1 z
      · have h2 : s.heap.objs.size + 1 ≤ b := by rw [← z]; exact h1
        exact absurd (Nat.lt_of_lt_of_le (hfp b hb).2 (Nat.le_of_succ_le h2)) (Nat.lt_irrefl _)
    · rcases (hfp b hb).1.2.2.2.1 with z | z
      · exact I.ok.noex b o e z
      · exact absurd (Nat.lt_of_lt_of_le (Heap.lt_size e) (Nat.le_trans I.ok.bsz z)) (Nat.lt_irrefl _)
    · rcases List.mem_cons.mp (I.stkSub b z) with z | z
      · exact (hfp b hb).1.2.1 z
      · exact (hfp b hb).1.2.2.1 z
  refine ⟨okB, rfl, I.bare, Un.kept kp, ⟨fun _ => none, ?_, fun i y av e1 e2 e3 => ?_⟩, fun y c e => ?_, ?_, fun y c e => ?_, fun p hp => ?_, I.hok.kept kp, by rw [wipe_length]; exact I.len⟩
  · show Heap.Ns _ cenv.locals _
    rw [hL]
    exact Heap.Ns.keeps (Heap.Ns.new ..) fun b o e => pushCells_keeps _ _ _ _ e
  · obtain ⟨e2, hne⟩ := wipe_some e2
    have hfr : scope.names.lookup y = some .free ∧ (cenv.kindOf y = some .cell ∨ cenv.kindOf y = some .free) := by
      have key : ∀ k, cenv.scope.names.lookup y = some k → k = .local ∨ k = .cell ∨ k = .free → scope.names.lookup y = some .free ∧ (cenv.kindOf y = some .cell ∨ cenv.kindOf y = some .free) := fun k hk hk' => by
        have hk0 := hk
        rw [hsc] at hk
        obtain ⟨k', e, r⟩ := lookup_relS hk
        have no : ¬ (k' = .local ∨ k' = .cell) := fun hh => by
          rcases ok.own _ (PySem.mem_of_lookup e) hh with e' | e'
          · obtain ⟨p, hp, hpy⟩ := List.mem_map.mp e'
            have e3 := ok.ix p hp
            have : p.1 = y := hpy
            rw [this] at e3
            exact hne (List.mem_map.mpr ⟨p, hp, nodup_ix hN e3 e1⟩)
          · exact e' (List.mem_of_getElem? e1)
        rcases r with rfl | ⟨rfl, rfl⟩
        · rcases hk' with rfl | rfl | rfl
          · exact absurd (.inl rfl) no
          · exact absurd (.inr rfl) no
          · exact ⟨e, .inr hk0⟩
        · exact ⟨e, .inl hk0⟩
      have e3 : Vis cenv.scope y := e3
      rcases e3 with e3 | e3 | e3
      · exact key _ e3 (.inl rfl)
      · exact key _ e3 (.inr (.inl rfl))
      · exact key _ e3 (.inr (.inr rfl))
    obtain ⟨m, hn, hl⟩ := I.loc
    have hvis : Vis X.env.scope y := (ok.free _ (PySem.mem_of_lookup hfr.1) rfl).elim (fun k => .inr (.inl k)) (fun k => .inr (.inr k))
    obtain ⟨w, r, q⟩ := hl i y av e1 e2 hvis
    refine ⟨w, r, .inr ⟨hfr.2, ?_⟩⟩
    obtain ⟨c, h1, h2⟩ := look hfr.1
    rcases q with ⟨k, _⟩ | ⟨_, c', e', z⟩
    · have k : X.env.scope.names.lookup y = some .local := k
      rcases ok.free _ (PySem.mem_of_lookup hfr.1) rfl with k' | k' <;> rw [show X.env.scope.names.lookup y = _ from k'] at k <;> cases k
    · rw [h2] at e'; cases e'
      exact ⟨c, h1, z.keeps kp⟩
  · have e : cenv.cells.lookup y = some c := e
    rcases mem e with ⟨h1, _⟩ | ⟨_, z⟩
    · obtain ⟨w, z⟩ := I.cell y c h1
      exact ⟨w, z.keeps kp⟩
    · exact ⟨_, z⟩
  · show H cenv.locals = none
    rw [hL]; exact I.hok.fresh (Nat.le_refl _)
  · have e : cenv.cells.lookup y = some c := e
    rcases mem e with ⟨h1, _⟩ | ⟨h1, _⟩
    · exact I.freeC y c h1
    · exact I.hok.fresh (Nat.le_of_succ_le h1)
  · exact absurd (show p ∈ ([] : List (Addr × Obj)) ++ [] from hp) (by simp)

theorem app_ok {E : Value → Shared → Prop} {D : Addr} {xs : List V} {y : V} {v : Value} {Q : Value → Shared → Prop} (I : Inv X pins σ H s) (hD : H D = some (.lst xs)) (hz : xs.length < sizeLine) (r : RelV y v)
    (h : ∀ s', Inv X pins σ (upd H D (.lst (xs ++ [y]))) s' → Q .none s') : wpAny (model X.prog X.w) X.A (call (.builtin "list.append") [.ref D, v]) Q E s := by
  obtain ⟨hz', its, n, ri, e⟩ := I.hok D _ hD
  have hl := ri.length
  refine append_at (hsz := by rw [List.size_toArray]; omega) e fun h' sb ho' => ?_
  refine h { s with heap := h' } (I.write (t' := s.toks) (by rw [hD]; trivial) (.inl rfl) (fun b u hb q => (sb.2 b hb).trans q) ⟨_, ho'⟩ ⟨by rw [List.length_append]; exact hz, its ++ [v], n + 1, ri.append (.cons r .nil), ?_⟩)
  rw [ho']
  simp

def PTs (X : Cx) (ifs : List Expr) (t : TT) : Prop :=
  ∀ (pins : List (Addr × Obj)) (s : Shared) (σ : St) (H : Hp) (Q : Bool → Hp → Prop), Inv X pins σ H s → t σ H Q →
    wpAny (model X.prog X.w) X.A (forIn ifs true fun c r => if r = true then do let ok ← isTrue c X.env (eval c X.env); pure (ForInStep.yield ok) else pure (ForInStep.yield r)) (TP X pins σ Q) X.xe s
def tYes : TT := fun _ H Q => Q true H
theorem pts_nil : PTs X [] tYes := fun _ _ _ H _ I h => wpAny_tests_nil ⟨H, I, h⟩
theorem pts_one {c : Expr} {t : TT} (h : PT X c t) : PTs X [c] t := fun pins s σ H Q I hw => wpAny_tests_one (h pins s σ H Q I hw)
end

theorem thnF {α : Type} {t : Sem α} {Q Q' : α → Shared → Prop} {M : Model} {A : Around} {E : Value → Shared → Prop} {s : Shared} (h : wpAny M A t Q (fun _ _ => False) s) (hQ : ∀ a s, Q a s → Q' a s) : wpAny M A t Q' E s := wpAny_mono h hQ fun _ _ z => False.elim z

theorem compLoop_any {prog : Program} {w : World} {A : Around} {R : Result → Shared → Prop} {s : Shared} {elt target iter : Expr} {ifs : List Expr} {scope : Scope} {pos : Pos} {it acc : Value} {env : Env} (I : Nat → Shared → Prop)
    (turn : ∀ n s, I n s → wpAny (model prog w) A (pyNext it) (fun r s₁ => match r with
      | none => R (.ok .next) s₁
      | some v => wpAny (model prog w) A (letOwnedTupleGo target it v) (fun _ s₁' => wpAny (model prog w) A (assign target env v) (fun _ s₂ =>
          wpAny (model prog w) A (forIn ifs true fun c r => if r = true then do let ok ← isTrue c env (eval c env); pure (ForInStep.yield ok) else pure (ForInStep.yield r)) (fun ok s₃ =>
            if ok = true then wpAny (model prog w) A (eval elt env) (fun x s₄ =>
              wpAny (model prog w) A (call (.builtin "list.append") [acc, x]) (fun _ s₅ => ∃ m, m < n ∧ I m s₅) (notedBy (model prog w) A env fun e s' => R (.error e) s') s₄) (notedBy (model prog w) A env fun e s' => R (.error e) s') s₃
            else ∃ m, m < n ∧ I m s₃) (notedBy (model prog w) A env fun e s' => R (.error e) s') s₂) (notedBy (model prog w) A env fun e s' => R (.error e) s') s₁') (notedBy (model prog w) A env fun e s' => R (.error e) s') s₁) (notedBy (model prog w) A env fun e s' => R (.error e) s') s)
    (n : Nat) (h : I n s) :
    codeAny (model prog w) A (.compLoop (.ListComp elt [⟨target, iter, ifs, 0⟩] scope pos) 0 it acc env) R s := by
  refine codeAny_loop rfl I (fun n s hI => ?_) n h
  show wpAny _ A ((compTurn (.ListComp elt [⟨target, iter, ifs, 0⟩] scope pos) 0 it acc env).onRaise (fun x => do noteFrame x env; theTreesLotGoes x)) _ _ s
  refine wpAny_noted ?_
  rw [compTurn_list]
  refine wpAny_bind (wpAny_standAt (wpAny_bind (wpAny_mono (turn n s hI) (fun r s₁ h₁ => ?_) fun _ _ h' => h')))
  cases r with
  | none => exact wpAny_pure h₁
  | some v =>
    refine wpAny_bind (wpAny_mono h₁ (fun _ s₁' h₁' => ?_) fun _ _ h' => h')
    refine wpAny_bind (wpAny_mono h₁' (fun _ s₂ h₂ => wpAny_bind (wpAny_mono h₂ (fun ok s₃ h₃ => ?_) fun _ _ h' => h')) fun _ _ h' => h')
    cases ok with
    | false => exact wpAny_pure ⟨rfl, h₃⟩
    | true =>
      exact wpAny_bind (wpAny_bind (wpAny_mono h₃ (fun x s₄ h₄ => wpAny_bind (wpAny_mono h₄ (fun _ s₅ h₅ => wpAny_pure (wpAny_pure ⟨rfl, h₅⟩)) fun _ _ h' => h')) fun _ _ h' => h'))

section
variable {X : Cx}
def tLc (wi : TI) (g : TG) (tt : TT) (te : TE) (vs : List Nat) : TE := fun σ H Q => wi σ H fun J H1 => ∀ D, H1 D = none → ∃ W : Nat → Nat → Hp → Prop, (∃ m, W 0 m (upd H1 D (.lst []))) ∧ ∀ i m H, W i m H →
  (J.stop i H ∧ Q (.ref D) H) ∨ (J.go i H ∧ ∃ Nx : Hp → Prop, (∀ H', Nx H' → ∃ m', m' < m ∧ W (i + 1) m' H') ∧ ∀ x H', J.yld i H x H' → g x (wipe σ vs) H' fun σ2 H2 => wipe σ2 vs = wipe σ vs ∧ tt σ2 H2 fun b H3 =>
    if b = true then te σ2 H3 fun y H4 => ∃ acc, H4 D = some (.lst acc) ∧ acc.length < sizeLine ∧ Nx (upd H4 D (.lst (acc ++ [y]))) else Nx H3)
theorem lc_core {pins : List (Addr × Obj)} {s : Shared} {σ : St} {H : Hp} {Q : VK} {elt tg iter : Expr} {ifs : List Expr} {scope : Scope} {own : List (Str × Nat)} {pos pos' : Pos} {wi : TI} {g : TG} {tt : TT} {te : TE} {use : Option (Value → Sem Unit)} {Qf : Value → Shared → Prop}
    (hc : X.calm = true) (hN : X.N.Nodup) (I : Inv X pins σ H s) (hi : PI X tg iter wi) (ok : BlkOk X.N X.env.scope scope own)
    (hg : ∀ (s : Shared) (H : Hp) (C : Addr) (cl : List (Str × Addr)) (fp : List Addr), PG (X.blk s H scope (compEnvC scope cl C X.env) fp) tg g) (ht : ∀ (s : Shared) (H : Hp) (C : Addr) (cl : List (Str × Addr)) (fp : List Addr), PTs (X.blk s H scope (compEnvC scope cl C X.env) fp) ifs tt)
    (he : ∀ (s : Shared) (H : Hp) (C : Addr) (cl : List (Str × Addr)) (fp : List Addr), PE (X.blk s H scope (compEnvC scope cl C X.env) fp) elt te) (hs : ∀ x, foldedSetIterable iter X.env x = pure x)
    (h : tLc wi g tt te (own.map (·.2)) σ H Q)
    (hRR : ∀ D C s' m H', Inv X pins σ H' s' → Q (.ref D) H' → s'.heap.Ns C m → FpOk X pins H' C → compPost (model X.prog X.w) X.A X.xe use Qf (.ref D) C (.ok .next) s') :
    wpAny (model X.prog X.w) X.A (comprehension (.ListComp elt [⟨tg, iter, ifs, 0⟩] scope pos) scope X.env pos' (newList []) false (eval iter X.env) use) Qf X.xe s := by
  have hfree : ∀ y ∈ scope.names, y.2 = .free → ∃ c, X.env.cells.lookup y.1 = some c := fun y hy e => by
    rcases ok.free y hy e with k | k
    · exact I.ok.has _ (.inl k)
    · exact I.ok.has _ (.inr k)
  refine wpAny_comprehension_free (use := use) rfl hs (closure_ok hfree) ok.kind (fun y hy e => by rw [ok.uniq y hy, e])
    (thn (hi pins s σ H _ I h) fun xv s1 hx => thn hx fun itv s2 h2 => ?_)
  obtain ⟨it, fp, tn, J, H2, e, I2, T, st2, f2, q⟩ := h2
  subst e
  refine wpAny_newObj_type (newEnv_comp ?_) (by show 0 ≤ sizeLine; decide)
  generalize hD : s2.heap.objs.size = D
  have hDn : H2 D = none := I2.hok.fresh (Nat.le_of_eq hD)
  obtain ⟨W, ⟨m0, w0⟩, turn⟩ := q D hDn
  -- the new list
  generalize hs3 : ({ s2 with heap := s2.heap.push { cls := .type "list", data := .seq ([] : List Value).toArray } } : Shared) = s3
  have I3 : Inv X pins σ (upd H2 D (.lst [])) s3 := by
    rw [← hs3]
    refine I2.laid (t' := s2.toks) (fun b o e => Heap.get?_push_of_some _ e) (Nat.le_of_eq hD) ⟨Nat.zero_le _, [], 0, .nil, ?_⟩
    rw [← hD]
    exact Heap.get?_push_size _ rfl
  have h3 : s3.heap = s2.heap.push { cls := .type "list", data := .seq ([] : List Value).toArray } := by rw [← hs3]
  have sz : ∀ b ∈ fp, b < s2.heap.objs.size := fun b hb => by
    obtain ⟨o, e, _⟩ := T.obj _ _ st2 b hb
    exact Heap.lt_size e
  have f3 : ∀ b ∈ fp, FpOk X pins (upd H2 D (.lst [])) b ∧ b < s3.heap.objs.size := fun b hb => by
    have hlt := sz b hb
    refine ⟨⟨?_, (f2 b hb).2⟩, by rw [h3, Heap.size_push]; exact Nat.lt_succ_of_lt hlt⟩
    rw [upd_ne (by rw [← hD]; exact Nat.ne_of_lt hlt)]
    exact (f2 b hb).1
  have st3 : tn 0 s3.heap := T.keep _ _ _ st2 fun b _ o e => by rw [h3]; exact Heap.get?_push_of_some _ e
  have I4 := block_start I3 ok hN f3
  have pg := hg s3 (upd H2 D (.lst [])) s3.heap.objs.size (cellsFrom (s3.heap.objs.size + 1) scope.names (cloFrom X.env.cells scope.names [])) fp
  have pt := ht s3 (upd H2 D (.lst [])) s3.heap.objs.size (cellsFrom (s3.heap.objs.size + 1) scope.names (cloFrom X.env.cells scope.names [])) fp
  have pe := he s3 (upd H2 D (.lst [])) s3.heap.objs.size (cellsFrom (s3.heap.objs.size + 1) scope.names (cloFrom X.env.cells scope.names [])) fp
  show codeAny _ _ (.compStart (.ListComp elt [⟨tg, iter, ifs, 0⟩] scope pos) 0 (.ref it) (.ref D) (compEnvC scope (cellsFrom (s3.heap.objs.size + 1) scope.names (cloFrom X.env.cells scope.names [])) s3.heap.objs.size X.env)) (compPost (model X.prog X.w) X.A X.xe use Qf (.ref D) s3.heap.objs.size) { s3 with heap := pushCells (s3.heap.push { cls := .type "dict", data := .dict #[] }) scope.names }
  have nfp : ∀ b ∈ fp, (upd H2 D (.lst [])) b = none := fun b hb => (f3 b hb).1.1
  generalize hce : compEnvC scope (cellsFrom (s3.heap.objs.size + 1) scope.names (cloFrom X.env.cells scope.names [])) s3.heap.objs.size X.env = ce at I4 pg pt pe ⊢
  have cL : ce.locals = s3.heap.objs.size := by subst hce; rfl
  generalize hH3 : upd H2 D (.lst []) = H3 at I3 I4 pg pt pe w0 nfp f3
  generalize hs4 : ({ s3 with heap := pushCells (s3.heap.push { cls := .type "dict", data := .dict #[] }) scope.names } : Shared) = s4 at I4 ⊢
  have st4 : tn 0 s4.heap := T.keep _ _ _ st3 fun b _ o e => by rw [← hs4]; exact pushCells_keeps _ _ _ _ (Heap.get?_push_of_some _ e)
  have stat : ∀ {σ' : St} {H' : Hp} {s' : Shared}, Inv (X.blk s3 H3 scope ce fp) [] σ' H' s' → (∀ b ∈ fp, H' b = none) → ∀ b ∈ fp, FpOk (X.blk s3 H3 scope ce fp) [] H' b := fun {σ' H' s'} I' hn b hb =>
    ⟨hn b hb, (I'.ok.exf b hb).1, I'.ok.exfs b hb, .inl hb, fun x c e => (I'.ok.exf b hb).2 x c e, fun p hp => absurd (show p ∈ ([] : List (Addr × Obj)) ++ [] from hp) (by simp)⟩
  have loop : codeAny (model X.prog X.w) X.A (.compLoop (.ListComp elt [⟨tg, iter, ifs, 0⟩] scope pos) 0 (.ref it) (.ref D) ce) (compPost (model X.prog X.w) X.A X.xe use Qf (.ref D) s3.heap.objs.size) s4 := by
    refine compLoop_any (fun n s' => ∃ i H', Inv (X.blk s3 H3 scope ce fp) [] (wipe σ (own.map (·.2))) H' s' ∧ tn i s'.heap ∧ (∀ b ∈ fp, H' b = none) ∧ W i n H') ?_ m0 ⟨0, H3, I4, st4, nfp, w0⟩
    rintro n s5 ⟨i, H5, I5, st5, n5, w5⟩
    rcases turn i n H5 w5 with ⟨stop, qq⟩ | ⟨go, Nx, hNx, step⟩
    · have td := T.done (X.blk s3 H3 scope ce fp) rfl rfl rfl hc i [] s5 _ H5 (fun _ _ => False) I5 (stat I5 n5) st5 stop
      refine thnF td fun r s6 ⟨hr, I6⟩ => ?_
      subst hr
      -- back in the def's context
      have I7 : Inv X pins σ H5 s6 := I3.call' (ch := fp) I6.os I6.base I6.hok I6.bare fun b hb => ⟨(f3 b hb).1.2.2.2.1, (f3 b hb).1.2.1, (f3 b hb).1.2.2.2.2.1, (f3 b hb).1.2.2.2.2.2⟩
      have nC : H5 s3.heap.objs.size = none := by
        have z : H5 ce.locals = none := I6.free
        rw [cL] at z
        exact z
      obtain ⟨m, hn, _⟩ := I6.loc
      have hn : s6.heap.Ns ce.locals m := hn
      rw [cL] at hn
      exact hRR D s3.heap.objs.size s6 m H5 I7 qq hn (I3.fpOk (Nat.le_refl _) nC)
    · have ti := T.item (X.blk s3 H3 scope ce fp) rfl rfl rfl hc i [] s5 _ H5 (fun _ _ => False) I5 (stat I5 n5) st5 go
      refine thnF ti fun r s6 ⟨u, hr, h6⟩ => ?_
      subst hr
      refine thnF h6 fun _ s7 ⟨x, H7, I7, r7, y7, st7, n7⟩ => ?_
      have I7' := I7.pinned (stat I7 n7) (T.obj _ _ st7)
      refine thnF (pg _ s7 _ H7 x u _ I7' r7 (step x H7 y7)) fun _ s8 ⟨σ8, H8, I8, hw8, q8⟩ => ?_
      refine thnF (pt _ s8 σ8 H8 _ I8 q8) fun b s9 ⟨H9, I9, q9⟩ => ?_
      -- the turn's end
      have fin : ∀ {s' : Shared} {H' : Hp}, Inv (X.blk s3 H3 scope ce fp) ([] ++ pinsAt fp s7.heap) σ8 H' s' → Nx H' → ∃ m, m < n ∧ ∃ i H', Inv (X.blk s3 H3 scope ce fp) [] (wipe σ (own.map (·.2))) H' s' ∧ tn i s'.heap ∧ (∀ b ∈ fp, H' b = none) ∧ W i m H' := fun {s' H'} I' nx => by
        obtain ⟨m', hm, w'⟩ := hNx H' nx
        have pin' : ∀ b ∈ fp, ∀ o, s7.heap.get? b = some o → s'.heap.get? b = some o ∧ H' b = none := fun b hb o e =>
          let z := I'.pin (b, o) (List.mem_append_right _ (List.mem_append_right _ (mem_pinsAt hb e)))
          ⟨z.1, z.2.1⟩
        have hl : (wipe σ (own.map (·.2))).length = σ8.length := by rw [← hw8, wipe_length]
        refine ⟨m', hm, i + 1, H', (I'.unpinned (pins := [])).weak hl (fun j v e => ?_), T.keep _ _ _ st7 fun b hb o e => (pin' b hb o e).1, fun b hb => ?_, w'⟩
        · rw [← hw8] at e
          exact (wipe_some e).1
        · obtain ⟨o, e, _⟩ := T.obj _ _ st7 b hb
          exact (pin' b hb o e).2
      cases b with
      | false =>
        simp only [Bool.false_eq_true, if_false] at q9 ⊢
        exact fin I9 q9
      | true =>
        simp only [if_true] at q9 ⊢
        refine thnF (pe _ s9 σ8 H9 _ I9 q9) fun z s10 ⟨yv, H10, I10, r10, acc, hD10, hz10, nx⟩ => ?_
        exact app_ok (X := X.blk s3 H3 scope ce fp) I10 hD10 hz10 r10 fun s11 I11 => fin I11 nx
  exact codeAny_compStart_list loop (T.self X.A 0 _ _ _ st4 loop)
theorem pe_lc {elt tg iter : Expr} {ifs : List Expr} {scope : Scope} {own : List (Str × Nat)} {pos : Pos} {wi : TI} {g : TG} {tt : TT} {te : TE} (hc : X.calm = true) (hN : X.N.Nodup) (hi : PI X tg iter wi) (ok : BlkOk X.N X.env.scope scope own)
    (hg : ∀ (s : Shared) (H : Hp) (C : Addr) (cl : List (Str × Addr)) (fp : List Addr), PG (X.blk s H scope (compEnvC scope cl C X.env) fp) tg g) (ht : ∀ (s : Shared) (H : Hp) (C : Addr) (cl : List (Str × Addr)) (fp : List Addr), PTs (X.blk s H scope (compEnvC scope cl C X.env) fp) ifs tt)
    (he : ∀ (s : Shared) (H : Hp) (C : Addr) (cl : List (Str × Addr)) (fp : List Addr), PE (X.blk s H scope (compEnvC scope cl C X.env) fp) elt te) (hs : ∀ x, foldedSetIterable iter X.env x = pure x := by intro _; rfl) :
    PE X (.ListComp elt [⟨tg, iter, ifs, 0⟩] scope pos) (tLc wi g tt te (own.map (·.2))) := by
  intro pins s σ H Q I h
  rw [eval_ListComp]
  refine lc_core hc hN I hi ok hg ht he hs h fun D C s' m H' I' q hn f => ⟨m, hn, fun h'' sb => ?_⟩
  obtain ⟨f0, f1, f2, f3, f4, f5⟩ := f
  exact ⟨.ref D, H', I'.turned (t' := s'.toks) (fun b o hb e => (sb.2 b hb).trans e) f0 f1 f3 f4 f5, rfl, q⟩
end

theorem lc_range {lo : Int} {n : Nat} {g : TG} {tt : TT} {te : TE} {vs : List Nat} {σ : St} {H1 : Hp} {D : Addr} {Qd : Hp → Prop} (Pv : Nat → Hp → Prop) (h0 : Pv 0 (upd H1 D (.lst [])))
    (hs : ∀ i H, i < n → Pv i H → g (.int (lo + i)) (wipe σ vs) H fun σ2 H2 => wipe σ2 vs = wipe σ vs ∧ tt σ2 H2 fun b H3 =>
      if b = true then te σ2 H3 fun y H4 => ∃ acc, H4 D = some (.lst acc) ∧ acc.length < sizeLine ∧ Pv (i + 1) (upd H4 D (.lst (acc ++ [y]))) else Pv (i + 1) H3) (hd : ∀ H, Pv n H → Qd H) :
    ∃ W : Nat → Nat → Hp → Prop, (∃ m, W 0 m (upd H1 D (.lst []))) ∧ ∀ i m H, W i m H →
      ((Itr lo n).stop i H ∧ Qd H) ∨ ((Itr lo n).go i H ∧ ∃ Nx : Hp → Prop, (∀ H', Nx H' → ∃ m', m' < m ∧ W (i + 1) m' H') ∧ ∀ x H', (Itr lo n).yld i H x H' → g x (wipe σ vs) H' fun σ2 H2 => wipe σ2 vs = wipe σ vs ∧ tt σ2 H2 fun b H3 =>
        if b = true then te σ2 H3 fun y H4 => ∃ acc, H4 D = some (.lst acc) ∧ acc.length < sizeLine ∧ Nx (upd H4 D (.lst (acc ++ [y]))) else Nx H3) := by
  refine ⟨fun i m H => m = n - i ∧ i ≤ n ∧ Pv i H, ⟨n, by simp, Nat.zero_le _, h0⟩, ?_⟩
  rintro i m H ⟨rfl, hi, p⟩
  by_cases hlt : i < n
  · refine .inr ⟨hlt, Pv (i + 1), fun H' p' => ⟨n - (i + 1), by omega, rfl, hlt, p'⟩, fun x H' y => ?_⟩
    obtain ⟨e, y⟩ := y
    subst e y
    exact hs i _ hlt p
  · have e : i = n := by omega
    subst e
    exact .inl ⟨Nat.le_refl _, hd H p⟩
theorem lc_list {K : PySem.W.Frag} {a : Addr} {xs : List V} {g : TG} {tt : TT} {te : TE} {vs : List Nat} {σ : St} {H1 : Hp} {D : Addr} {Qd : Hp → Prop} (Pv : Nat → Hp → Prop) (h0 : Pv 0 (upd H1 D (.lst []))) (hl : ∀ i H, i ≤ xs.length → Pv i H → SqL K H a xs)
    (hs : ∀ i x H, xs[i]? = some x → Pv i H → g x (wipe σ vs) H fun σ2 H2 => wipe σ2 vs = wipe σ vs ∧ tt σ2 H2 fun b H3 =>
      if b = true then te σ2 H3 fun y H4 => ∃ acc, H4 D = some (.lst acc) ∧ acc.length < sizeLine ∧ Pv (i + 1) (upd H4 D (.lst (acc ++ [y]))) else Pv (i + 1) H3) (hd : ∀ H, Pv xs.length H → Qd H) :
    ∃ W : Nat → Nat → Hp → Prop, (∃ m, W 0 m (upd H1 D (.lst []))) ∧ ∀ i m H, W i m H →
      ((Itl K a).stop i H ∧ Qd H) ∨ ((Itl K a).go i H ∧ ∃ Nx : Hp → Prop, (∀ H', Nx H' → ∃ m', m' < m ∧ W (i + 1) m' H') ∧ ∀ x H', (Itl K a).yld i H x H' → g x (wipe σ vs) H' fun σ2 H2 => wipe σ2 vs = wipe σ vs ∧ tt σ2 H2 fun b H3 =>
        if b = true then te σ2 H3 fun y H4 => ∃ acc, H4 D = some (.lst acc) ∧ acc.length < sizeLine ∧ Nx (upd H4 D (.lst (acc ++ [y]))) else Nx H3) := by
  refine ⟨fun i m H => m = xs.length - i ∧ i ≤ xs.length ∧ Pv i H, ⟨xs.length, by simp, Nat.zero_le _, h0⟩, ?_⟩
  rintro i m H ⟨rfl, hi, p⟩
  have q := hl i H hi p
  by_cases hlt : i < xs.length
  · refine .inr ⟨⟨xs, xs[i], q, by simp [hlt]⟩, Pv (i + 1), fun H' p' => ⟨xs.length - (i + 1), by omega, rfl, hlt, p'⟩, fun x H' y => ?_⟩
    obtain ⟨e, y⟩ := y
    subst e
    exact hs i x _ (y xs q) p
  · have e : i = xs.length := by omega
    subst e
    exact .inl ⟨⟨xs, q, Nat.le_refl _⟩, hd H p⟩
def blkC (N : List Str) (sc scope : Scope) (own : List (Str × Nat)) : Bool :=
  (match scope.kind with | .function => true | _ => false) && (scope.names.all fun y => decide (scope.names.lookup y.1 = some y.2)) && (own.all fun p => decide (N[p.2]? = some p.1)) &&
    (scope.names.all fun y => match y.2 with
      | .free => (match sc.names.lookup y.1 with | some .cell => true | some .free => true | _ => false)
      | .local => decide (y.1 ∈ own.map (·.1)) || decide (y.1 ∉ N)
      | .cell => decide (y.1 ∈ own.map (·.1)) || decide (y.1 ∉ N)
      | _ => true)
theorem blkOk_by {N : List Str} {sc scope : Scope} {own : List (Str × Nat)} (h : blkC N sc scope own = true) : BlkOk N sc scope own := by
  unfold blkC at h
  simp only [Bool.and_eq_true, List.all_eq_true, decide_eq_true_eq] at h
  obtain ⟨⟨⟨h1, h2⟩, h3⟩, h4⟩ := h
  refine ⟨?_, h2, h3, fun y hy e => ?_, fun y hy e => ?_⟩
  · split at h1
    · assumption
    · cases h1
  · have q := h4 y hy
    simp only [e] at q
    split at q <;> first | exact .inl (by assumption) | exact .inr (by assumption) | cases q
  · have q := h4 y hy
    rcases e with e | e <;> (simp only [e, Bool.or_eq_true, decide_eq_true_eq] at q; exact q)
end L2

namespace L2
open PySem PySem.Spec PyProof.Rows

section
variable {prog : Program} {w : World} {A : Around} {R : Result → Shared → Prop} {s : Shared} {elt t0 i0 t1 i1 : Expr} {ifs0 ifs1 : List Expr} {scope : Scope} {pos : Pos} {it acc : Value} {env : Env}
end

section
variable {X : Cx}
end
end L2

namespace L2
open PySem PySem.Spec PyProof.Rows

section
variable {κ : Type} [DecidableEq κ]
end


theorem kV_is {P : Program} {w : World} {k : Key} {u : Value} (r : RelV (kV k) u) : (mixKind P w).is k u = true := by
  cases k with
  | inl i => obtain ⟨t, e⟩ := (show ∃ t, u = Value.int i t from r); subst e; exact mixKind_int P w i t
  | inr x => obtain ⟨t, e⟩ := (show ∃ t, u = Value.str x t from r); subst e; exact mixKind_str P w x t
section
variable {P : Program} {w : World} {H : Hp} {h : Heap} {a : Addr}
end

section
variable {X : Cx} {pins : List (Addr × Obj)} {σ : St} {H : Hp} {s : Shared} {a : Addr} {y v : V} {u r : Value} {o : Option V} {A : Around} {E : Value → Shared → Prop}

end

section
variable {X : Cx} {pins : List (Addr × Obj)} {σ : St} {H : Hp} {s : Shared} {a : Addr} {kvs : List (Key × V)} {k : Key} {u : Value} {A : Around} {E : Value → Shared → Prop}
end


def NoSl (i : Expr) : Prop := ∀ ov iv, subscripted i false ov iv = operate [ov, iv] (getItem ov iv)
theorem subD_of {prog : Program} {w : World} {A : Around} {E : Value → Shared → Prop} {s : Shared} {env : Env} {value slice : Expr} {pos : Pos} {T id : String} {Q : Value → Shared → Prop}
    (hl : typeLookup (.type T) "__getitem__" = pure (some (.builtin id))) (hs : NoSl slice)
    (h : wpAny (model prog w) A (eval value env) (fun o s₁ => wpAny (model prog w) A (eval slice env) (fun i s₂ => s₂.TypeIs o T ∧ wpAny (model prog w) A (getItem o i) Q E s₂) E s₁) E s) :
    wpAny (model prog w) A (eval (.Subscript value slice pos) env) Q E s := by
  refine Subscript_ (wpAny_mono h (fun o s₁ h₁ => wpAny_mono h₁ (fun i s₂ h₂ => ?_) fun _ _ x => x) fun _ _ x => x)
  obtain ⟨hT, h₂⟩ := h₂
  unfold subscriptTail
  refine wpAny_bind ?_
  rw [getitemInPython_of_ne hT.not_modules]
  refine wpAny_bind (wpAny_specialOf hT hl ?_)
  have fin : wpAny (model prog w) A (subscripted slice false o i) (fun r s₃ => wpAny (model prog w) A (letTemporaryGo value o r >>= fun _ => pure r) Q E s₃) E s₂ := by
    rw [hs o i]
    exact wpAny_operating (wpAny_mono h₂ (fun r s₃ h₃ => wpAny_bind (wpAny_letTemporaryGo (wpAny_pure h₃))) fun _ _ x => x)
  first
    | exact wpAny_pure (wpAny_bind fin)
    | exact wpAny_bind (wpAny_pure (wpAny_bind fin))
    | exact wpAny_bind fin

section
variable {X : Cx} {o i e value : Expr} {pos pos' tpos : Pos} {td ty tv : TE}
end


section
variable {X : Cx} {pos : Pos}
end

section
variable {X : Cx} {pins : List (Addr × Obj)} {σ : St} {H : Hp} {s : Shared} {a : Addr} {y d : V} {u r : Value} {o : Option V} {A : Around} {E : Value → Shared → Prop}
end

section
variable {X : Cx} {o e f : Expr} {apos cpos : Pos} {td ty tx : TE}
end

section
variable {X : Cx} {pins : List (Addr × Obj)} {σ : St} {H : Hp} {s : Shared} {a : Addr} {kvs : List (Key × V)} {A : Around} {E : Value → Shared → Prop}
end


section
variable {X : Cx} {pins : List (Addr × Obj)} {σ : St} {H : Hp} {s : Shared} {a : Addr} {y : V} {u : Value} {A : Around} {E : Value → Shared → Prop}
end
end L2

namespace L2
open PySem PySem.Spec PyProof.Rows

section
variable {prog : Program} {w : World} {A : Around} {E : Value → Shared → Prop}
end

section
variable {X : Cx}
end
end L2

namespace L2
open PySem PySem.Spec PyProof.Rows

section
variable {X : Cx} {pins : List (Addr × Obj)} {σ : St} {H : Hp} {s : Shared} {h' : Heap}
theorem Inv.turnedL {t' : Nat} {ch : List Addr} (I : Inv X pins σ H s) (k : ∀ b o, b ∉ ch → s.heap.get? b = some o → h'.get? b = some o) (hf : ∀ b ∈ ch, FpOk X pins H b) : Inv X pins σ H { s with heap := h', toks := t' } := by
  have nit : ∀ b u, H b = some u → b ∉ ch := fun b u e z => by
    have q := (hf b z).1
    rw [q] at e; cases e
  refine I.step (g' := s.gens) (d' := s.drawn) (ch := ch) (fun b hb => ⟨(hf b hb).2.2.2.1, (hf b hb).2.1, (hf b hb).2.2.2.2.1, (hf b hb).2.2.2.2.2⟩) (fun b o _ _ hc e _ => k b o hc e) (fun b o _ _ hc e _ => ⟨o.slots, k b o hc e⟩)
    (fun _ _ _ _ n => n) (fun b o hc e => ⟨o, k b o hc e⟩) (fun _ _ e => e) (fun _ _ _ e => e) (fun b ps e => ⟨#[], by rw [e]; simp⟩) (fun m hm => ?_) (fun b u e => ?_) I.bare
  · obtain ⟨o, es, ep, ho, r⟩ := hm
    exact ⟨o, es, ep, k _ o (fun z => (hf _ z).2.1 rfl) ho, r⟩
  · refine (I.hok b u e).stay (fun c v hc q => k c v ?_ q) (fun _ q => q) fun _ _ q => q
    rcases hc with z | z
    · rw [z]; exact nit b u e
    · exact nit c _ z
theorem Inv.turnedNew {t' : Nat} {ch : List Addr} {T : Addr} {ob : HO} (I : Inv X pins σ H s) (k : ∀ b o, b ∉ ch → s.heap.get? b = some o → h'.get? b = some o) (hf : ∀ b ∈ ch, FpOk X pins H b) (hT : s.heap.objs.size ≤ T)
    (new : ObjOk X.prog X.w (upd H T ob) h' T ob) : Inv X pins σ (upd H T ob) { s with heap := h', toks := t' } := by
  have hn : H T = none := I.hok.fresh hT
  have nit : ∀ b u, H b = some u → b ∉ ch := fun b u e z => by
    have q := (hf b z).1
    rw [q] at e; cases e
  refine I.step (g' := s.gens) (d' := s.drawn) (ch := ch) (fun b hb => ⟨(hf b hb).2.2.2.1, (hf b hb).2.1, (hf b hb).2.2.2.2.1, (hf b hb).2.2.2.2.2⟩) (fun b o _ _ hc e _ => k b o hc e) (fun b o _ _ hc e _ => ⟨o.slots, k b o hc e⟩)
    (fun b o _ e n => ?_) (fun b o hc e => ⟨o, k b o hc e⟩) (fun b xs e => ?_) (fun b o u e => ?_) (fun b ps e => ⟨#[], ?_⟩) (fun m hm => ?_) (fun b u e => ?_) I.bare
  · rw [upd_ne (Nat.ne_of_lt (Nat.lt_of_lt_of_le (Heap.lt_size e) hT))]; exact n
  · rw [upd_ne (ne_of_none e hn)]; exact e
  · rw [upd_ne (ne_of_none e hn)]; exact e
  · rw [upd_ne (ne_of_none e hn), e]; simp
  · obtain ⟨o, es, ep, ho, r⟩ := hm
    exact ⟨o, es, ep, k _ o (fun z => (hf _ z).2.1 rfl) ho, r⟩
  · by_cases hb : b = T
    · subst hb
      rw [upd_same] at e
      cases e
      exact new
    · rw [upd_ne hb] at e
      refine (I.hok b u e).stay (fun c v hc q => k c v ?_ q) (fun c q => by rw [upd_ne (ne_of_none q hn)]; exact q) fun c xs q => by rw [upd_ne (ne_of_none q hn)]; exact q
      rcases hc with z | z
      · rw [z]; exact nit b u e
      · exact nit c _ z

end
section
variable {X : Cx}
end

section
variable {X : Cx} {tg : Expr}
end
section
variable {X : Cx} {tg : Expr}
end

section
variable {prog : Program} {w : World} {A : Around} {E : Value → Shared → Prop} {s : Shared}
end

theorem paired_get {α β : Type} {G : α → β → Prop} {l₁ : List α} {l₂ : List β} (h : Paired G l₁ l₂) : ∀ {i : Nat} {a : α}, l₁[i]? = some a → ∃ b, l₂[i]? = some b ∧ G a b := by
  induction h with
  | nil => intro i a e; simp at e
  | @cons a b l₁ l₂ r t ih =>
    intro i a' e
    cases i with
    | zero =>
      simp only [List.getElem?_cons_zero, Option.some.injEq] at e
      subst e
      exact ⟨b, rfl, r⟩
    | succ j =>
      simp only [List.getElem?_cons_succ] at e ⊢
      exact ih e
section
variable {X : Cx} {pins : List (Addr × Obj)} {σ : St} {H : Hp} {s : Shared} {d : Addr} {o : Obj}
end

section
variable {P : Program} {w : World} {K : PySem.W.Frag} {tg : Expr} {d : Addr} {o : Obj} {es : Array DictEntry} {ep : Nat}
end

section
variable {X : Cx} {tg e : Expr} {td : TE} {apos cpos : Pos}
end

def Ite (K : PySem.W.Frag) (a : Addr) : It :=
  ⟨fun i H => ∃ (xs : List V) (x : V), SqL K H a xs ∧ xs[i]? = some x, fun i H v H' => ∃ T x, v = .ref T ∧ H T = none ∧ H' = upd H T (.tup [.int (i : Nat), x]) ∧ ∀ xs, SqL K H a xs → xs[i]? = some x, fun i H => ∃ xs : List V, SqL K H a xs ∧ xs.length ≤ i⟩
theorem turn_enum {P : Program} {w : World} {K : PySem.W.Frag} {elts : List Expr} {kk : Nat} {tpos : Pos} (a e it : Addr) :
    Turn P w K (.Tuple elts kk tpos) (Ite K a) [e, it] e (fun i h => (∃ old, IsEnum h e it ((i : Nat) : Int) old) ∧ h.IsListIter it a i ∧ e ≠ it) where
  mem := by simp
  obj := fun i h st b hb => by
    obtain ⟨⟨old, he⟩, ⟨o, ho, hc, hd⟩, _⟩ := st
    have e' : b = e ∨ b = it := by simpa using hb
    rcases e' with z | z
    · rw [z]; exact ⟨_, he, fun v q => nomatch q⟩
    · rw [z]; exact ⟨o, ho, fun v q => by rw [hd] at q; cases q⟩
  keep := fun i h h' st k => let ⟨⟨old, he⟩, hi, hne⟩ := st; ⟨⟨old, k e (by simp) _ he⟩, hi.at fun o q => k it (by simp) o q, hne⟩
  item := by
    intro X hP hw hK hc i pins s σ H E I hf st hg
    subst hP hw hK
    obtain ⟨⟨old, he⟩, hit, hne⟩ := st
    obtain ⟨xs, x, hq, hx⟩ := hg
    obtain ⟨its, rv, p, hz⟩ := I.list hq
    obtain ⟨u, hu, ru⟩ := rv.get hx
    have hel : e < s.heap.objs.size := Heap.lt_size he
    have hil : it < s.heap.objs.size := by obtain ⟨_, q, _⟩ := hit; exact Heap.lt_size q
    refine wpAny_pyNext_enum_item he hit p.isList (x := u) (by simpa using hu) hne fun h' ho hit' hT hsz hk => ?_
    refine ⟨_, rfl, wpAny_letOwnedTupleGo_enum (s := { s with heap := h', toks := s.toks + 1 }) ho fun h'' he' sb => ?_⟩
    have hT2 : h''.get? s.heap.objs.size = some { cls := .type "tuple", data := .seq #[.int i s.toks, u] } := (sb.2 _ (Nat.ne_of_gt hel)).trans hT
    have new : ObjOk X.prog X.w (upd H s.heap.objs.size (.tup [.int (i : Nat), x])) h'' s.heap.objs.size (.tup [.int (i : Nat), x]) :=
      ⟨by show 2 ≤ sizeLine; decide, [.int i s.toks, u], .cons ⟨_, rfl⟩ (.cons ru .nil), ⟨_, hT2, rfl, _, rfl⟩⟩
    have I1 : Inv X pins σ (upd H s.heap.objs.size (.tup [.int (i : Nat), x])) { s with heap := h'', toks := s.toks + 1 } :=
      I.turnedNew (ch := [e, it]) (fun b ob hb q => (sb.2 b (fun z => hb (by simp [z]))).trans (hk b ob (fun z => hb (by simp [z])) (fun z => hb (by simp [z])) q)) hf (Nat.le_refl _) new
    refine ⟨.ref s.heap.objs.size, _, I1, rfl, ⟨_, x, rfl, I.hok.fresh (Nat.le_refl _), rfl, fun ys hy => by rw [I.list_inj hy hq]; exact hx⟩, ⟨⟨u, ?_⟩, hit'.at fun o q => (sb.2 it (Ne.symm hne)).trans q, hne⟩, fun b hb => ?_⟩
    · have e1 : ((i + 1 : Nat) : Int) = (i : Int) + 1 := by omega
      rw [e1]; exact he'
    · have hb' : b < s.heap.objs.size := by
        have e' : b = e ∨ b = it := by simpa using hb
        rcases e' with z | z
        · rw [z]; exact hel
        · rw [z]; exact hil
      rw [upd_ne (Nat.ne_of_lt hb')]
      exact (hf b hb).1
  done := by
    intro X hP hw hK hc i pins s σ H E I hf st hg
    subst hP hw hK
    obtain ⟨⟨old, he⟩, hit, hne⟩ := st
    obtain ⟨xs, hq, hx⟩ := hg
    obtain ⟨its, rv, p, hz⟩ := I.list hq
    obtain ⟨f0, f1, f2, f3, f4, f5⟩ := hf it (by simp)
    have hl := rv.length
    exact wpAny_pyNext_enum_end (I.ok.hd hc) he hit p.isList (by simp; omega) fun h' eb => ⟨rfl, I.turned (t' := s.toks) (fun b o hb q => eb b o hb q) f0 f1 f3 f4 f5⟩
  self := fun A i s Q E st h => let ⟨⟨_, he⟩, _⟩ := st; wpAny_pyIter_enum he h
def iEnum (K : PySem.W.Frag) (ta : TA) : TI := fun σ H R => ta σ H fun vs H1 => ∃ a xs, vs = [.ref a] ∧ SqL K H1 a xs ∧ R (Ite K a) H1
theorem pi_enum {X : Cx} {e : Expr} {ta : TA} {p pos tpos : Pos} {elts : List Expr} {kk : Nat} (hg : Gl X "enumerate") (hm : X.mg "enumerate" = none) (ha : PA X [e] ta) (hs : starEach [e] X.env = [(false, eval e X.env)] := by rfl) :
    PI X (.Tuple elts kk tpos) (.Call (.Name "enumerate" p) [e] [] pos) (iEnum X.K ta) := by
  intro pins s σ H R I h
  refine Call_ (ld_blt I hg hm boot_enumerate (PyProof.Rows.callWith_type1 (thn (ha pos pins s σ H _ I h) fun us s1 ⟨vs, H1, I1, r1, q1⟩ => ?_) hs rfl))
  obtain ⟨a, xs, ex, hq, q⟩ := q1
  subst ex
  cases r1 with
  | cons r rr =>
    cases rr
    cases r
    obtain ⟨its, rv, p', hz⟩ := I1.list hq
    refine call_enumerate_list p'.isList fun h' he hit hsz hk => wpAny_pyIter_enum he ?_
    have I2 : Inv X pins σ H1 { s1 with heap := h' } := I1.kept (t' := s1.toks) hk
    refine ⟨s1.heap.objs.size + 1, [s1.heap.objs.size + 1, s1.heap.objs.size], _, _, H1, rfl, I2, turn_enum a (s1.heap.objs.size + 1) s1.heap.objs.size, ⟨⟨.none, he⟩, hit, Nat.succ_ne_self _⟩, fun b hb => ?_, q⟩
    have e' : b = s1.heap.objs.size + 1 ∨ b = s1.heap.objs.size := by simpa using hb
    have hle : s1.heap.objs.size ≤ b := by
      rcases e' with z | z
      · rw [z]; exact Nat.le_add_right _ _
      · rw [z]; exact Nat.le_refl _
    exact I1.fpOk hle (I1.hok.fresh hle)
theorem boot_zip5 : bootBuiltins "zip" = some (.type "zip") := by decide +kernel
def Itz (K : PySem.W.Frag) (a b : Addr) : It :=
  ⟨fun i H => ∃ (xs ys : List V) (x y : V), SqL K H a xs ∧ SqL K H b ys ∧ xs[i]? = some x ∧ ys[i]? = some y,
    fun i H v H' => ∃ T x y, v = .ref T ∧ H T = none ∧ H' = upd H T (.tup [x, y]) ∧ (∀ xs, SqL K H a xs → xs[i]? = some x) ∧ ∀ ys, SqL K H b ys → ys[i]? = some y,
    fun i H => ∃ xs ys : List V, SqL K H a xs ∧ SqL K H b ys ∧ (xs.length ≤ i ∨ ys.length ≤ i)⟩
theorem turn_zip {P : Program} {w : World} {K : PySem.W.Frag} {elts : List Expr} {kk : Nat} {tpos : Pos} {a b z TI TO i1 i2 : Addr} (D : ZipApart z TI TO i1 i2 a b) :
    Turn P w K (.Tuple elts kk tpos) (Itz K a b) [z, TI, TO, i1, i2] z (fun i h => IsZip h z TI TO .none ∧ IsPair h TI (.ref i1) (.ref i2) ∧ (∃ x y, IsPair h TO x y) ∧ h.IsListIter i1 a i ∧ h.IsListIter i2 b i) where
  mem := by simp
  obj := fun i h st c hc => by
    obtain ⟨hz, hTI, ⟨x, y, hTO⟩, ⟨o1, e1, _, d1⟩, ⟨o2, e2, _, d2⟩⟩ := st
    have e' : c = z ∨ c = TI ∨ c = TO ∨ c = i1 ∨ c = i2 := by simpa using hc
    rcases e' with q | q | q | q | q
    · rw [q]; exact ⟨_, hz, fun v q => nomatch q⟩
    · rw [q]; exact ⟨_, hTI, fun v q => nomatch q⟩
    · rw [q]; exact ⟨_, hTO, fun v q => nomatch q⟩
    · rw [q]; exact ⟨o1, e1, fun v q => by rw [d1] at q; cases q⟩
    · rw [q]; exact ⟨o2, e2, fun v q => by rw [d2] at q; cases q⟩
  keep := fun i h h' st k => by
    obtain ⟨hz, hTI, ⟨x, y, hTO⟩, h1, h2⟩ := st
    exact ⟨k z (by simp) _ hz, k TI (by simp) _ hTI, ⟨x, y, k TO (by simp) _ hTO⟩, h1.at fun o q => k i1 (by simp) o q, h2.at fun o q => k i2 (by simp) o q⟩
  item := by
    intro X hP hw hK hc i pins s σ H E I hf st hg
    subst hP hw hK
    obtain ⟨hz, hTI, ⟨x0, y0, hTO⟩, h1, h2⟩ := st
    obtain ⟨xs, ys, x, y, hqx, hqy, hx, hy⟩ := hg
    obtain ⟨its, rv, p, _⟩ := I.list hqx
    obtain ⟨its2, rv2, p2, _⟩ := I.list hqy
    obtain ⟨u, hu, ru⟩ := rv.get hx
    obtain ⟨u2, hu2, ru2⟩ := rv2.get hy
    have hzl : z < s.heap.objs.size := Heap.lt_size hz
    refine wpAny_pyNext_zip_item D hz hTI hTO h1 h2 p.isList p2.isList (x := u) (y := u2) (by simpa using hu) (by simpa using hu2) fun h' z' TO' h1' h2' hT hsz hk => ?_
    refine ⟨_, rfl, wpAny_letOwnedTupleGo_zip (s := { s with heap := h' }) z' fun h'' z'' sb => ?_⟩
    have hT2 : h''.get? s.heap.objs.size = some { cls := .type "tuple", data := .seq #[u, u2] } := (sb.2 _ (Nat.ne_of_gt hzl)).trans hT
    have new : ObjOk X.prog X.w (upd H s.heap.objs.size (.tup [x, y])) h'' s.heap.objs.size (.tup [x, y]) :=
      ⟨by show 2 ≤ sizeLine; decide, [u, u2], .cons ru (.cons ru2 .nil), ⟨_, hT2, rfl, _, rfl⟩⟩
    have I1 : Inv X pins σ (upd H s.heap.objs.size (.tup [x, y])) { s with heap := h'' } :=
      I.turnedNew (t' := s.toks) (ch := [z, TI, TO, i1, i2]) (fun c o hb q => (sb.2 c (fun q' => hb (by simp [q']))).trans (hk c o (fun q' => hb (by simp [q'])) (fun q' => hb (by simp [q'])) (fun q' => hb (by simp [q'])) (fun q' => hb (by simp [q'])) q)) hf (Nat.le_refl _) new
    refine ⟨.ref s.heap.objs.size, _, I1, rfl, ⟨_, x, y, rfl, I.hok.fresh (Nat.le_refl _), rfl, fun l hl => by rw [I.list_inj hl hqx]; exact hx, fun l hl => by rw [I.list_inj hl hqy]; exact hy⟩, ⟨z'', ?_, ⟨u, u2, ?_⟩, ?_, ?_⟩, fun c hcm => ?_⟩
    · exact (sb.2 _ D.TIz).trans (hk _ _ D.TIz D.TITO D.TIi1 D.TIi2 hTI)
    · exact (sb.2 _ D.TOz).trans TO'
    · exact h1'.at fun o q => (sb.2 _ D.i1z).trans q
    · exact h2'.at fun o q => (sb.2 _ D.i2z).trans q
    · have hlt : c < s.heap.objs.size := by
        have e' : c = z ∨ c = TI ∨ c = TO ∨ c = i1 ∨ c = i2 := by simpa using hcm
        rcases e' with q | q | q | q | q
        · rw [q]; exact hzl
        · rw [q]; exact Heap.lt_size hTI
        · rw [q]; exact Heap.lt_size hTO
        · rw [q]; obtain ⟨_, e1, _⟩ := h1; exact Heap.lt_size e1
        · rw [q]; obtain ⟨_, e2, _⟩ := h2; exact Heap.lt_size e2
      rw [upd_ne (Nat.ne_of_lt hlt)]
      exact (hf c hcm).1
  done := by
    intro X hP hw hK hc i pins s σ H E I hf st hg
    subst hP hw hK
    obtain ⟨hz, hTI, ⟨x0, y0, hTO⟩, h1, h2⟩ := st
    obtain ⟨xs, ys, hqx, hqy, hend⟩ := hg
    obtain ⟨its, rv, p, _⟩ := I.list hqx
    obtain ⟨its2, rv2, p2, _⟩ := I.list hqy
    have l1 := rv.length
    have l2 := rv2.length
    have he : its.toArray[i]? = none ∨ its2.toArray[i]? = none := by
      rcases hend with q | q
      · exact .inl (by simp; omega)
      · exact .inr (by simp; omega)
    exact wpAny_pyNext_zip_end (I.ok.hd hc) D hz hTI hTO h1 h2 p.isList p2.isList he fun h' hk => ⟨rfl, I.turnedL (t' := s.toks) (ch := [z, TI, TO, i1, i2]) (fun c o hb q =>
      hk c o (fun q' => hb (by simp [q'])) (fun q' => hb (by simp [q'])) (fun q' => hb (by simp [q'])) (fun q' => hb (by simp [q'])) q) hf⟩
  self := fun A i s Q E st h => wpAny_pyIter_zip st.1 h
def iZip (K : PySem.W.Frag) (ta : TA) : TI := fun σ H R => ta σ H fun vs H1 => ∃ a b xs ys, vs = [.ref a, .ref b] ∧ SqL K H1 a xs ∧ SqL K H1 b ys ∧ R (Itz K a b) H1
theorem pi_zip {X : Cx} {e e2 : Expr} {ta : TA} {p pos tpos : Pos} {elts : List Expr} {kk : Nat} (hg : Gl X "zip") (hm : X.mg "zip" = none) (ha : PA X [e, e2] ta)
    (hs : starEach [e, e2] X.env = (false, eval e X.env) :: starEach [e2] X.env := by rfl) (hpl : (backTo pos (starEach [e2] X.env)).any (·.1) = false := by rfl) :
    PI X (.Tuple elts kk tpos) (.Call (.Name "zip" p) [e, e2] [] pos) (iZip X.K ta) := by
  intro pins s σ H R I h
  refine Call_ (ld_blt I hg hm boot_zip5 (PyProof.Rows.callWith_type1 (thn (ha pos pins s σ H _ I h) fun us s1 ⟨vs, H1, I1, r1, q1⟩ => ?_) hs hpl))
  obtain ⟨a, b, xs, ys, ex, hqx, hqy, q⟩ := q1
  subst ex
  cases r1 with
  | cons r rr =>
    cases rr with
    | cons r' rr =>
      cases rr
      cases r
      cases r'
      obtain ⟨its, rv, p1, _⟩ := I1.list hqx
      obtain ⟨its2, rv2, p2, _⟩ := I1.list hqy
      have la : a < s1.heap.objs.size := p1.lt
      have lb : b < s1.heap.objs.size := p2.lt
      refine call_zip_2 p1.isList p2.isList fun h' hz hTI hTO h1 h2 hsz hk => wpAny_pyIter_zip hz ?_
      have I2 : Inv X pins σ H1 { s1 with heap := h' } := I1.kept (t' := s1.toks) hk
      refine ⟨s1.heap.objs.size + 4, [s1.heap.objs.size + 4, s1.heap.objs.size + 2, s1.heap.objs.size + 3, s1.heap.objs.size, s1.heap.objs.size + 1], _, _, H1, rfl, I2, turn_zip (PySem.W.ktu_apart s1.heap.objs.size a b la lb), ⟨hz, hTI, ⟨_, _, hTO⟩, h1, h2⟩, fun c hcm => ?_, q⟩
      have e' : c = s1.heap.objs.size + 4 ∨ c = s1.heap.objs.size + 2 ∨ c = s1.heap.objs.size + 3 ∨ c = s1.heap.objs.size ∨ c = s1.heap.objs.size + 1 := by simpa using hcm
      have hle : s1.heap.objs.size ≤ c := by
        rcases e' with z | z | z | z | z
        · rw [z]; exact Nat.le_add_right _ _
        · rw [z]; exact Nat.le_add_right _ _
        · rw [z]; exact Nat.le_add_right _ _
        · rw [z]; exact Nat.le_refl _
        · rw [z]; exact Nat.le_add_right _ _
      exact I1.fpOk hle (I1.hok.fresh hle)
end L2

section 
namespace Bits
open PySem PyProof.Rows

end Bits
end 

section 
namespace TL
open PySem PySem.Builtin PySem.Builtin.Str PySem.StrLaws

end TL
end 

namespace L2
open PySem PySem.Spec PyProof.Rows

section
variable {X : Cx} {pins : List (Addr × Obj)} {σ : St} {H : Hp} {s : Shared} {Q : VK}
end

section
variable {X : Cx}

end

section
variable {X : Cx} {o e : Expr} {to te : TE}
end
end L2

namespace L2
open PySem PySem.Spec PyProof.Rows

section
variable {X : Cx}
end

end L2

namespace Att
open PySem PySem.W PySem.Calls PyProof.Rows

section
variable {prog : Program} {w : World} {A : Around} {E : Value → Shared → Prop} {s : Shared} {K : Frag}

end
end Att

namespace L2
open PySem PySem.Spec PyProof.Rows

end L2

namespace L2
open PySem PySem.Spec PyProof.Rows

end L2


namespace L2
open PySem PySem.Spec PyProof.Rows

def inClass (s : Stmt) (j : Nat) : Stmt := match s with
  | .ClassDef _ _ _ body _ _ _ _ _ _ _ => body.getD j (.Pass ⟨0, 0, 0, 0⟩)
  | _ => .Pass ⟨0, 0, 0, 0⟩
def defArgs (s : Stmt) : Arguments := match s with
  | .FunctionDef _ a _ _ _ _ _ _ _ _ => a
  | _ => { posonlyargs := [], args := [], vararg := none, kwonlyargs := [], kw_defaults := [], kwarg := none, defaults := [] }
def defBody (s : Stmt) : List Stmt := match s with
  | .FunctionDef _ _ b _ _ _ _ _ _ _ => b
  | _ => []
def defScope (s : Stmt) : Scope := match s with
  | .FunctionDef _ _ _ _ _ _ sc _ _ _ => sc
  | _ => { kind := .function, names := [], isGenerator := false, isCoroutine := false }

abbrev CX0 : CXT := fun _ _ _ _ _ _ => False
abbrev E0 : XK := fun _ _ _ => False
theorem pass0 {X : Cx} : Passes CX0 X E0 := fun _ _ _ _ _ _ _ h => h.elim

structure Fun (K : PySem.W.Frag) (x qual : Str) (st : Stmt) (f : Addr) (fd : FuncData) : Prop where
  ex : ∃ (oc : Value) (od : Option Addr) (kV doc pm : Value) (an : Option Addr) (cdv ct : Value) (osl : Array (Option Value)),
    fd = PySem.W.fnOf x qual (defArgs st) (defBody st) (defScope st) .none kV doc pm an cdv ct ∧ K.lookup f = some ⟨oc, od, .func fd, osl⟩ ∧ PySem.W.codeIn K cdv qual = true
  kp : PySem.W.keepIn K (.ref f) = true
section
variable {P : Program} {w : World} {K : PySem.W.Frag} {mg : Str → Option Value} {base : Heap}
theorem Fun.ok {x qual : Str} {st : Stmt} {f : Addr} {fd : FuncData} {N ps : List Str} {k : Nat} {sp : Sp} (F : Fun K x qual st f fd) (S : FnScope N ps (defScope st)) (len : ∀ vs H Q E, sp vs H Q E → vs.length = ps.length)
    (hbody : ∀ (cdv : Value) (A : Around) (outer : List Env) (s : Shared) (H : Hp) (vs : List V) (Q : VK) (E : XK), Room k (A.deeper (envOfC qual (defScope st) s.heap.objs.size f cdv)) → sp vs H Q E →
      ∃ t, PSs (cxOf CX0 P w K mg base N qual (defScope st) f cdv A outer s H E).nox (defBody st) t ∧ t { nx := fun _ H' => Q .non H', rt := Q } (start N vs) H) : FnOk P w K mg base CX0 (k + 1) f fd ps sp := by
  obtain ⟨oc, od, kV, doc, pm, an, cdv, ct, osl, rfl, lk, hcd⟩ := F.ex
  refine fn_of lk hcd S len fun A outer s H vs Q E hr hsp => ?_
  obtain ⟨t, h, q⟩ := hbody cdv A outer s H vs Q E hr hsp
  exact ⟨t, h.nox, q⟩
theorem Fun.binds {x qual : Str} {st : Stmt} {f : Addr} {fd : FuncData} {ps : List Str} (F : Fun K x qual st f fd)
    (h : ∀ (kV doc pm : Value) (an : Option Addr) (cdv ct : Value) (us : List Value), us.length = ps.length → bindArgs (PySem.W.fnOf x qual (defArgs st) (defBody st) (defScope st) .none kV doc pm an cdv ct) ⟨us, []⟩ = pure (ps.zip us)) : Binds K fd ps [] := by
  obtain ⟨oc, od, kV, doc, pm, an, cdv, ct, osl, rfl, lk, hcd⟩ := F.ex
  exact .all (h kV doc pm an cdv ct)
theorem fun_mk {x qual : Str} {st : Stmt} {f : Addr} {oc : Value} {od an : Option Addr} {osl : Array (Option Value)} {kV doc pm cdv ct : Value} (l : K.lookup f = some ⟨oc, od, .func (PySem.W.fnOf x qual (defArgs st) (defBody st) (defScope st) .none kV doc pm an cdv ct), osl⟩)
    (c : PySem.W.codeIn K cdv qual = true) (k : PySem.W.keepIn K (.ref f) = true) : Fun K x qual st f (PySem.W.fnOf x qual (defArgs st) (defBody st) (defScope st) .none kV doc pm an cdv ct) := ⟨⟨oc, od, kV, doc, pm, an, cdv, ct, osl, rfl, l, c⟩, k⟩
end
section
variable {X : Cx}
theorem pv (i : Nat) {x : Str} {pos : Pos} (hN : X.N[i]? = some x := by rfl) (hv : Vis X.env.scope x := by first | exact Or.inl rfl | exact Or.inr (Or.inl rfl) | exact Or.inr (Or.inr rfl)) (hd : (x == ("__debug__" : Str)) = false := by decide)
    (hcd : (x == ("__classdict__" : Str)) = false := by decide) : PE X (.Name x pos) (tVar i) := pe_var hN hv hd hcd
end

theorem iteF {A B : Prop} (h : B) : if false = true then A else B := by
  rw [if_neg Bool.false_ne_true]
  exact h
theorem iteT {A B : Prop} (h : A) : if true = true then A else B := by
  rw [if_pos rfl]
  exact h
theorem ite2 {c A B : Prop} [Decidable c] (h1 : c → A) (h2 : ¬ c → B) : if c then A else B := by
  by_cases h : c
  · rw [if_pos h]
    exact h1 h
  · rw [if_neg h]
    exact h2 h
theorem iteNS {c A B : Prop} [Decidable c] (hc : c) (h : B) : if (!decide c) = true then A else B := by
  rw [decide_eq_true hc]
  exact iteF h

def Same (H H' : Hp) : Prop := ∀ b o, H b = some o → H' b = some o
theorem Same.refl (H : Hp) : Same H H := fun _ _ h => h
theorem Same.trans {H H1 H2 : Hp} (a : Same H H1) (b : Same H1 H2) : Same H H2 := fun c o h => b c o (a c o h)
theorem Same.free {H H' : Hp} (e : Same H H') {l : Addr} (h : H' l = Option.none) : H l = Option.none := by
  cases q : H l with
  | none => rfl
  | some o =>
    rw [e l o q] at h
    cases h
theorem Same.seq {K : PySem.W.Frag} {H H' : Hp} {a : Addr} {xs : List V} (e : Same H H') (h : SqL K H a xs) : SqL K H' a xs := by
  rcases h with (h | ⟨o, h⟩) | h
  · exact .inl (.inl (e _ _ h))
  · exact .inl (.inr ⟨o, e _ _ h⟩)
  · exact .inr h

section
variable {κ : Type} [DecidableEq κ]
end
theorem Same.made {H H1 : Hp} {x dx C : Addr} (nx : H x = Option.none) (nd : H dx = Option.none) (k : ∀ b o, (upd (upd H dx (.own x)) x (.ins C dx [])) b = some o → b ≠ x → H1 b = some o) : Same H H1 := fun b o e =>
  k b o (by rw [upd_ne (ne_of_none e nx), upd_ne (ne_of_none e nd)]; exact e) (ne_of_none e nx)
end L2


namespace ZL
open PySem
section
variable {pg : Program} {wd : World} {Ar : Around} {Er : Value → Shared → Prop} {st : Shared}

theorem nextT {it tp : Addr} {k : Nat} {its : Array Value} {v : Value} {Qv : Value → Shared → Prop} (hI : st.heap.IsTupleIter it tp k)
    (hT : st.heap.IsTuple tp its) (hv : its[k]? = some v)
    (fin : ∀ g, g.IsTupleIter it tp (k + 1) → Heap.SameBut it st.heap g → Qv v { st with heap := g }) :
    wpAny (model pg wd) Ar (Builtin.SmallTypes.nextOf (.ref it)) Qv Er st := by
  obtain ⟨ob, hob, hcl, hda⟩ := id hI
  obtain ⟨ot, hot, _, nt, hdt⟩ := hT
  unfold Builtin.SmallTypes.nextOf
  refine wpAny_bind (wpAny_callSpecial?_slot (name := Str.ofString "__next__") hI.typeIs F.slot_tuple_iterator_next
    (wpAny_call_entry F.slot_tuple_iterator_next hI.typeIs F.entry_tuple_iterator_next ?_ (F.args_tuple_iterator_next_1 _)))
  show wpAny _ _ (field (.ref it) 0 >>= _) _ _ st
  refine wpAny_bind (wpAny_field hob hda (x := .ref tp) rfl ?_)
  show wpAny _ _ (if (Value.ref tp == Value.none) = true then _ else _) _ _ st
  rw [if_neg (show ¬ ((Value.ref tp == Value.none) = true) from Bool.false_ne_true)]
  show wpAny _ _ (field (.ref it) 1 >>= _) _ _ st
  refine wpAny_bind (wpAny_field hob hda (x := .int k 0) rfl ?_)
  show wpAny _ _ (seqItems? (.ref tp) >>= _) _ _ st
  refine wpAny_bind (wpAny_seqItems hot hdt ?_)
  simp only [Int.toNat_natCast, hv]
  refine wpAny_bind (wpAny_setField hob hda (by simp) (wpAny_pure ⟨v, rfl, wpAny_pure (fin _ ?_ (Heap.SameBut.update ..))⟩))
  exact ⟨_, Heap.get?_update_self _ hob (Obj.isFreed_of_fields (Obj.data_mapFields hda _)), (Obj.cls_mapFields ..).trans hcl, by rw [Obj.data_mapFields hda]; simp [rawInt]⟩

theorem stepItem {zz ti to ia ib la tb : Addr} {ka kb : Nat} {us ws : Array Value} {u v p q : Value} {Qv : Value → Shared → Prop} (D : ZipApart zz ti to ia ib la tb)
    (hZ : IsZip st.heap zz ti to .none) (hI : IsPair st.heap ti (.ref ia) (.ref ib)) (hO : IsPair st.heap to p q)
    (hA : st.heap.IsListIter ia la ka) (hB : st.heap.IsTupleIter ib tb kb) (hL : st.heap.IsList la us) (hT : st.heap.IsTuple tb ws) (hu : us[ka]? = some u) (hv : ws[kb]? = some v)
    (fin : ∀ g, IsZip g zz ti to (rawInt st.heap.objs.size) → IsPair g to u v → g.IsListIter ia la (ka + 1) → g.IsTupleIter ib tb (kb + 1) → IsPair g st.heap.objs.size u v → g.objs.size = st.heap.objs.size + 1 →
      (∀ c o, c ≠ zz → c ≠ to → c ≠ ia → c ≠ ib → st.heap.get? c = some o → g.get? c = some o) → Qv (.ref st.heap.objs.size) { st with heap := g }) :
    wpAny (model pg wd) Ar (Builtin.«zip.__next__» ⟨[.ref zz], []⟩) (fun fin s' => ∃ v, fin = .done (.ret v) ∧ Qv v s') Er st := by
  show wpAny _ _ (field (.ref zz) 2 >>= _) _ _ _
  refine wpAny_bind (wpAny_field hZ rfl (x := .bool false) rfl ?_)
  show wpAny _ _ (field (.ref zz) 3 >>= _) _ _ _
  refine wpAny_bind (wpAny_field hZ rfl (x := .ref ti) rfl ?_)
  refine wpAny_bind (wpAny_seqItems hI rfl ?_)
  show wpAny _ _ (Builtin.SmallTypes.ownedTupleIsFree (.ref zz) >>= _) _ _ _
  refine wpAny_bind ?_
  unfold Builtin.SmallTypes.ownedTupleIsFree
  refine wpAny_bind (wpAny_field hZ rfl (x := .none) rfl (wpAny_pure ?_))
  simp only [if_true]
  refine wpAny_bind (wpAny_rule ?_)
  refine wpAny_bind (wpAny_field hZ rfl (x := .ref to) rfl ?_)
  refine wpAny_bind (wpAny_setField_rec hZ (by simp) fun g1 hZ1 hk1 => ?_)
  replace hZ1 : IsZip g1 zz ti to .ellipsis := hZ1
  refine wpAny_bind ?_
  simp only [List.zipIdx_cons, List.zipIdx_nil, List.forIn_cons, List.forIn_nil]
  refine wpAny_bind (wpAny_bind (wpAny_onRaise ?_))
  show wpAny _ _ (Builtin.SmallTypes.nextOf (.ref ia) >>= _) _ _ _
  refine wpAny_bind (wpAny_nextOf_list_item (hA.extBut hk1.extBut D.i1z) (hL.extBut hk1.extBut D.l1z) hu fun g2 hA2 hk2 => wpAny_pure ?_)
  have hO2 : IsPair g2 to p q := hk2.extBut _ _ D.TOi1 (hk1.extBut _ _ D.TOz hO)
  refine wpAny_bind (wpAny_seqItems hO2 rfl ?_)
  refine wpAny_bind (wpAny_updateSeq_pair hO2 fun g3 hO3 hk3 => ?_)
  replace hO3 : IsPair g3 to u q := hO3
  refine wpAny_bind (wpAny_letGo (wpAny_pure ?_))
  refine wpAny_bind (wpAny_bind (wpAny_onRaise ?_))
  show wpAny _ _ (Builtin.SmallTypes.nextOf (.ref ib) >>= _) _ _ _
  refine wpAny_bind (nextT (((hB.extBut hk1.extBut D.i2z).extBut hk2.extBut D.i12.symm).extBut hk3.extBut D.TOi2.symm)
    (((hT.extBut hk1.extBut D.l2z).extBut hk2.extBut D.l2i1).extBut hk3.extBut D.l2TO) hv fun g4 hB4 hk4 => wpAny_pure ?_)
  have hO4 : IsPair g4 to u q := hk4.extBut _ _ D.TOi2 hO3
  refine wpAny_bind (wpAny_seqItems hO4 rfl ?_)
  refine wpAny_bind (wpAny_updateSeq_pair hO4 fun g5 hO5 hk5 => ?_)
  replace hO5 : IsPair g5 to u v := hO5
  refine wpAny_bind (wpAny_letGo (wpAny_pure (wpAny_pure ?_)))
  refine wpAny_bind (wpAny_seqItems hO5 rfl ?_)
  refine wpAny_bind (wpAny_newTuple ?_)
  have sz5 : g5.objs.size = st.heap.objs.size := by rw [hk5.1, hk4.1, hk3.1, hk2.1, hk1.1]
  have hZ5 : IsZip g5 zz ti to .ellipsis := hk5.extBut _ _ D.TOz.symm (hk4.extBut _ _ D.i2z.symm (hk3.extBut _ _ D.TOz.symm (hk2.extBut _ _ D.i1z.symm hZ1)))
  have kp5 : ∀ c o, c ≠ zz → c ≠ to → c ≠ ia → c ≠ ib → st.heap.get? c = some o → g5.get? c = some o := fun c o n1 n2 n3 n4 e =>
    hk5.extBut _ _ n2 (hk4.extBut _ _ n4 (hk3.extBut _ _ n2 (hk2.extBut _ _ n3 (hk1.extBut _ _ n1 e))))
  have hA5 : g5.IsListIter ia la (ka + 1) := ((hA2.extBut hk3.extBut D.TOi1.symm).extBut hk4.extBut D.i12).extBut hk5.extBut D.TOi1.symm
  have hB5 : g5.IsTupleIter ib tb (kb + 1) := hB4.extBut hk5.extBut D.TOi2.symm
  have zlt : zz < g5.objs.size := Heap.lt_size hZ5
  show wpAny _ _ (Builtin.SmallTypes.ownedTupleHandOut (.ref zz) (.ref g5.objs.size) >>= _) _ _ _
  refine wpAny_bind ?_
  unfold Builtin.SmallTypes.ownedTupleHandOut
  have hZ6 : IsZip (g5.push { cls := .type "tuple", data := .seq #[u, v] }) zz ti to .ellipsis := Heap.get?_push_of_some _ hZ5
  refine wpAny_bind (wpAny_setField_rec hZ6 (by simp) fun g7 hZ7 hk7 => ?_)
  replace hZ7 : IsZip g7 zz ti to (rawInt g5.objs.size) := hZ7
  refine wpAny_setField_rec hZ7 (by simp) fun g8 hZ8 hk8 => ?_
  replace hZ8 : IsZip g8 zz ti to (rawInt g5.objs.size) := hZ8
  have up : ∀ c o, c ≠ zz → g5.get? c = some o → g8.get? c = some o := fun c o n1 e => hk8.extBut _ _ n1 (hk7.extBut _ _ n1 (Heap.get?_push_of_some _ e))
  have hN8 : IsPair g8 g5.objs.size u v := hk8.extBut _ _ (Nat.ne_of_gt zlt) (hk7.extBut _ _ (Nat.ne_of_gt zlt) (Heap.get?_push_size _ rfl))
  have sz8 : g8.objs.size = g5.objs.size + 1 := by rw [hk8.1, hk7.1, Heap.size_push]
  rw [sz5] at hZ8 hN8 sz8
  refine wpAny_pure ⟨_, rfl, ?_⟩
  show Qv (.ref g5.objs.size) _
  rw [sz5]
  exact fin g8 hZ8 (up _ _ D.TOz hO5) (hA5.at fun o e => up _ o D.i1z e) (hB5.at fun o e => up _ o D.i2z e) hN8 sz8 fun c o n1 n2 n3 n4 e => up c o n1 (kp5 c o n1 n2 n3 n4 e)

theorem stepEnd {zz ti to ia ib la tb : Addr} {ka : Nat} {us : Array Value} {Qf : Fin → Shared → Prop} (hh : Ar.handled = none) (D : ZipApart zz ti to ia ib la tb)
    (hZ : IsZip st.heap zz ti to .none) (hI : IsPair st.heap ti (.ref ia) (.ref ib)) (hA : st.heap.IsListIter ia la ka) (hL : st.heap.IsList la us) (hu : us[ka]? = none)
    (fin : ∀ g e, (∀ c o, c ≠ zz → c ≠ to → c ≠ ia → c ≠ ib → st.heap.get? c = some o → g.get? c = some o) → (∃ o, g.get? e = some o ∧ o.cls = .type "StopIteration") → Er (.ref e) { st with heap := g }) :
    wpAny (model pg wd) Ar (Builtin.«zip.__next__» ⟨[.ref zz], []⟩) Qf Er st := by
  show wpAny _ _ (field (.ref zz) 2 >>= _) _ _ _
  refine wpAny_bind (wpAny_field hZ rfl (x := .bool false) rfl ?_)
  show wpAny _ _ (field (.ref zz) 3 >>= _) _ _ _
  refine wpAny_bind (wpAny_field hZ rfl (x := .ref ti) rfl ?_)
  refine wpAny_bind (wpAny_seqItems hI rfl ?_)
  show wpAny _ _ (Builtin.SmallTypes.ownedTupleIsFree (.ref zz) >>= _) _ _ _
  refine wpAny_bind ?_
  unfold Builtin.SmallTypes.ownedTupleIsFree
  refine wpAny_bind (wpAny_field hZ rfl (x := .none) rfl (wpAny_pure ?_))
  simp only [if_true]
  refine wpAny_bind (wpAny_rule ?_)
  refine wpAny_bind (wpAny_field hZ rfl (x := .ref to) rfl ?_)
  refine wpAny_bind (wpAny_setField_rec hZ (by simp) fun g1 hZ1 hk1 => ?_)
  replace hZ1 : IsZip g1 zz ti to .ellipsis := hZ1
  refine wpAny_bind ?_
  simp only [List.zipIdx_cons, List.zipIdx_nil, List.forIn_cons, List.forIn_nil]
  refine wpAny_bind (wpAny_bind (wpAny_onRaise ?_))
  show wpAny _ _ (Builtin.SmallTypes.nextOf (.ref ia) >>= _) _ _ _
  refine wpAny_bind (wpAny_nextOf_list_end hh (hA.extBut hk1.extBut D.i1z) (hL.extBut hk1.extBut D.l1z) hu fun g2 e hk2 he => ?_)
  obtain ⟨oe, hoe, hce⟩ := he
  have hZ2 : IsZip g2 zz ti to .ellipsis := hk2 _ _ D.i1z.symm hZ1
  have ne : e ≠ zz := fun x => by subst x; rw [hZ2] at hoe; cases hoe; simp at hce
  refine wpAny_setField_rec hZ2 (by simp) fun g3 _ hk3 => fin g3 e (fun c o n1 _ n3 _ x => hk3.extBut _ _ n1 (hk2 _ _ n3 (hk1.extBut _ _ n1 x))) ⟨oe, hk3.extBut _ _ ne hoe, hce⟩

theorem nextItem {zz ti to ia ib la tb : Addr} {ka kb : Nat} {us ws : Array Value} {u v p q : Value} {Qo : Option Value → Shared → Prop} (D : ZipApart zz ti to ia ib la tb)
    (hZ : IsZip st.heap zz ti to .none) (hI : IsPair st.heap ti (.ref ia) (.ref ib)) (hO : IsPair st.heap to p q)
    (hA : st.heap.IsListIter ia la ka) (hB : st.heap.IsTupleIter ib tb kb) (hL : st.heap.IsList la us) (hT : st.heap.IsTuple tb ws) (hu : us[ka]? = some u) (hv : ws[kb]? = some v)
    (fin : ∀ g, IsZip g zz ti to (rawInt st.heap.objs.size) → IsPair g to u v → g.IsListIter ia la (ka + 1) → g.IsTupleIter ib tb (kb + 1) → IsPair g st.heap.objs.size u v → g.objs.size = st.heap.objs.size + 1 →
      (∀ c o, c ≠ zz → c ≠ to → c ≠ ia → c ≠ ib → st.heap.get? c = some o → g.get? c = some o) → Qo (some (.ref st.heap.objs.size)) { st with heap := g }) :
    wpAny (model pg wd) Ar (pyNext (.ref zz)) Qo Er st := by
  have hTy : st.TypeIs (.ref zz) "zip" := ⟨_, hZ, rfl⟩
  unfold pyNext
  exact wpAny_bind (wpAny_attempt (wpAny_callSpecial?_slot (name := Str.ofString "__next__") hTy F.slot_zip_next
    (wpAny_call_entry F.slot_zip_next hTy F.entry_zip_next (stepItem D hZ hI hO hA hB hL hT hu hv fun g b1 b2 b3 b4 b5 b6 b7 => wpAny_pure (fin g b1 b2 b3 b4 b5 b6 b7)) (F.args_zip_next_1 _))))

theorem nextEnd {zz ti to ia ib la tb : Addr} {ka : Nat} {us : Array Value} {Qo : Option Value → Shared → Prop} (hh : Ar.handled = none) (D : ZipApart zz ti to ia ib la tb)
    (hZ : IsZip st.heap zz ti to .none) (hI : IsPair st.heap ti (.ref ia) (.ref ib)) (hA : st.heap.IsListIter ia la ka) (hL : st.heap.IsList la us) (hu : us[ka]? = none)
    (fin : ∀ g, (∀ c o, c ≠ zz → c ≠ to → c ≠ ia → c ≠ ib → st.heap.get? c = some o → g.get? c = some o) → Qo none { st with heap := g }) : wpAny (model pg wd) Ar (pyNext (.ref zz)) Qo Er st := by
  have hTy : st.TypeIs (.ref zz) "zip" := ⟨_, hZ, rfl⟩
  unfold pyNext
  refine wpAny_bind (wpAny_attempt (wpAny_callSpecial?_slot (name := Str.ofString "__next__") hTy F.slot_zip_next
    (wpAny_call_entry F.slot_zip_next hTy F.entry_zip_next (stepEnd hh D hZ hI hA hL hu fun g e hk he => ?_) (F.args_zip_next_1 _))))
  obtain ⟨o, ho, hc⟩ := he
  refine wpAny_bind (wpAny_isInstance (T := "StopIteration") (b := true) ⟨o, ho, hc⟩ isSubtype_stop ?_)
  exact wpAny_pure (fin _ hk)
end

abbrev zA (h : Heap) (la : Addr) : Heap := h.push { cls := .type "list_iterator", data := .fields #[.ref la, .int 0 0] }
abbrev zB (h : Heap) (la tb : Addr) : Heap := (zA h la).push { cls := .type "tuple_iterator", data := .fields #[.ref tb, .int 0 0] }
abbrev zC (h : Heap) (la tb : Addr) : Heap := (zB h la tb).push { cls := .type "tuple", data := .seq #[.ref h.objs.size, .ref (zA h la).objs.size] }
abbrev zD (h : Heap) (la tb : Addr) : Heap := (zC h la tb).push { cls := .type "tuple", data := .seq #[.none, .none] }
abbrev zE (h : Heap) (la tb : Addr) : Heap := (zD h la tb).push { cls := .type "zip", data := .fields #[.none, .bool false, .bool false, .ref (zB h la tb).objs.size, .ref (zC h la tb).objs.size] }

theorem meetsNew (la tb : Addr) (us ws : Array Value) :
    Meets (Builtin.«zip.__new__» ⟨[.type "zip", .ref la, .ref tb], []⟩) (fun _ R s => s.heap.IsList la us ∧ s.heap.IsTuple tb ws ∧
      R (.ok (.ret (.ref (zD s.heap la tb).objs.size))) { s with heap := zE s.heap la tb }) :=
  .of_wp fun prog w A R s h => by
    obtain ⟨hp, g, d, tk, os⟩ := s; obtain ⟨hla, htb, h⟩ := h
    have hsub := sub_zip
    have hLa : Heap.IsList (Shared.heap ⟨hp, g, d, tk, os⟩) la us := hla
    have hTb : Heap.IsTuple (Shared.heap ⟨hp.push { cls := .type "list_iterator", data := .fields #[.ref la, .int 0 0] }, g, d, tk, os⟩) tb ws := Heap.IsTuple.push htb _
    wp_walk using wpAny_pyIter_list hLa, wpAny_pyIter_tuple hTb
    exact ⟨_, rfl, h⟩

theorem callZip {pg : Program} {wd : World} {Ar : Around} {Er : Value → Shared → Prop} {st : Shared} {la tb : Addr} {us ws : Array Value} {Qv : Value → Shared → Prop} (hL : st.heap.IsList la us) (hT : st.heap.IsTuple tb ws)
    (fin : ∀ g, IsZip g (st.heap.objs.size + 4) (st.heap.objs.size + 2) (st.heap.objs.size + 3) .none → IsPair g (st.heap.objs.size + 2) (.ref st.heap.objs.size) (.ref (st.heap.objs.size + 1)) →
      IsPair g (st.heap.objs.size + 3) .none .none → g.IsListIter st.heap.objs.size la 0 → g.IsTupleIter (st.heap.objs.size + 1) tb 0 → g.objs.size = st.heap.objs.size + 5 →
      (∀ c o, st.heap.get? c = some o → g.get? c = some o) → Qv (.ref (st.heap.objs.size + 4)) { st with heap := g }) :
    wpAny (model pg wd) Ar (call (.type "zip") [.ref la, .ref tb]) Qv Er st := by
  refine callType_new F.called_zip (by decide) (F.typeCall_zip_2 _ _) (F.newCall_zip_2 _ _) (fun obj => F.args_object_init_3 obj _ _) F.entry_zip_new (meetsNew la tb us ws) ⟨hL, hT, ?_⟩
  have s1 : (zA st.heap la).objs.size = st.heap.objs.size + 1 := Heap.size_push ..
  have s2 : (zB st.heap la tb).objs.size = st.heap.objs.size + 2 := by rw [Heap.size_push, s1]
  have s3 : (zC st.heap la tb).objs.size = st.heap.objs.size + 3 := by rw [Heap.size_push, s2]
  have s4 : (zD st.heap la tb).objs.size = st.heap.objs.size + 4 := by rw [Heap.size_push, s3]
  have s5 : (zE st.heap la tb).objs.size = st.heap.objs.size + 5 := by rw [Heap.size_push, s4]
  have g5 : (zE st.heap la tb).get? (zD st.heap la tb).objs.size = some _ := Heap.get?_push_size _ rfl
  have g4 : (zE st.heap la tb).get? (zC st.heap la tb).objs.size = some _ := Heap.get?_push_of_some _ (Heap.get?_push_size _ rfl)
  have g3 : (zE st.heap la tb).get? (zB st.heap la tb).objs.size = some _ := Heap.get?_push_of_some _ (Heap.get?_push_of_some _ (Heap.get?_push_size _ rfl))
  have g2 : (zE st.heap la tb).get? (zA st.heap la).objs.size = some _ := Heap.get?_push_of_some _ (Heap.get?_push_of_some _ (Heap.get?_push_of_some _ (Heap.get?_push_size _ rfl)))
  have g1 : (zE st.heap la tb).get? st.heap.objs.size = some _ := Heap.get?_push_of_some _ (Heap.get?_push_of_some _ (Heap.get?_push_of_some _ (Heap.get?_push_of_some _ (Heap.get?_push_size _ rfl))))
  show _ ∧ _
  rw [s2, s3, s4] at g5
  rw [s1, s2] at g3
  rw [s3] at g4
  rw [s1] at g2
  rw [s4]
  exact ⟨⟨_, g5, rfl⟩, fin _ g5 g3 g4 ⟨_, g1, rfl, rfl⟩ ⟨_, g2, rfl, rfl⟩ s5 fun c o x =>
    Heap.get?_push_of_some _ (Heap.get?_push_of_some _ (Heap.get?_push_of_some _ (Heap.get?_push_of_some _ (Heap.get?_push_of_some _ x))))⟩
end ZL


set_option Elab.async false
set_option linter.all false
set_option maxRecDepth 100000
namespace L2
open PySem PySem.Spec PyProof.Rows

def pickV (xs : List V) (lo hi st : Option Int) : List V :=
  (sliceRange (sliceBounds lo hi st xs.length).1 (sliceBounds lo hi st xs.length).2.1 (sliceBounds lo hi st xs.length).2.2).filterMap (xs[·]?)
theorem Vals.pick {xs : List V} {us : List Value} (r : Vals xs us) : ∀ ks : List Nat, Vals (ks.filterMap (xs[·]?)) (ks.filterMap (us[·]?))
  | [] => .nil
  | k :: ks => by
    have ih := Vals.pick r ks
    rw [List.filterMap_cons, List.filterMap_cons]
    cases e : xs[k]? with
    | none =>
      rw [r.none_of e]
      exact ih
    | some x =>
      obtain ⟨u, hu, ru⟩ := r.get e
      rw [hu]
      exact .cons ru ih
theorem pickV_length (xs : List V) (us : List Value) (h : xs.length = us.length) (lo hi st : Option Int) (r : Vals xs us) : (pickV xs lo hi st).length ≤ xs.length := by
  have q := slicePick_size_le us.toArray lo hi st
  unfold slicePick at q
  have v := (r.pick (sliceRange (sliceBounds lo hi st xs.length).1 (sliceBounds lo hi st xs.length).2.1 (sliceBounds lo hi st xs.length).2.2)).length
  unfold pickV
  rw [v, h]
  simpa using q
def tSl3 (K : PySem.W.Frag) (te : TE) (tl th ts : TO) : TE := fun σ H Q => te σ H fun x H1 => tl σ H1 fun l H2 => th σ H2 fun u H3 => ts σ H3 fun st H4 =>
  ∃ a xs, x = .ref a ∧ SqL K H4 a xs ∧ st ≠ some 0 ∧ ∀ p, H4 p = none → Q (.ref p) (upd H4 p (.lst (pickV xs l u st)))
section
variable {X : Cx} {e : Expr} {te : TE} {lo hi sp : Option Expr} {tl th ts : TO} {pos p2 : Pos}
theorem pe_slice3 (he : PE X e te) (hl : PO X lo tl) (hu : PO X hi th) (hp : PO X sp ts) (hsub : ∀ v i, subscripted (.Slice lo hi sp p2) false v i = operate [v, i] (getItem v i) := by intros; rfl) : PE X (.Subscript e (.Slice lo hi sp p2) pos) (tSl3 X.K te tl th ts) := by
  intro pins s σ H Q I h
  refine Subscript_ (thn (he pins s σ H _ I h) fun v s1 ⟨x, H1, I1, r1, q1⟩ => ?_)
  refine wpAny_Slice (thn (hl pins s1 σ H1 _ I1 q1) fun vl s2 ⟨l, H2, I2, pl, q2⟩ => thn (hu pins s2 σ H2 _ I2 q2) fun vu s3 ⟨u, H3, I3, pu, q3⟩ => thn (hp pins s3 σ H3 _ I3 q3) fun vp s4 ⟨st, H4, I4, pp, q4⟩ => ?_)
  have I5 : Inv X pins σ H4 { s4 with heap := s4.heap.push { cls := .type "slice", data := .fields #[vl, vu, vp] } } := I4.kept (t' := s4.toks) fun b ob q => Heap.get?_push_of_some _ q
  obtain ⟨a, xs, ex, hx, h0, q⟩ := q4
  subst ex
  cases r1
  obtain ⟨its, r, ht, hz⟩ := I5.list hx
  have hlen := r.length
  refine tail_any (T := "list") (ops := [.ref a, .ref s4.heap.objs.size]) ht.isList.typeIs slot_list_getitem.lookup ?_ (hsub _ _)
  refine wpAny_getItem_list_slice ht.isList (Heap.IsSliceOf.new ..) pl pu pp h0 ?_ (by rw [List.size_toArray] <;> omega)
  have e1 : (slicePick its.toArray l u st).toList = (sliceRange (sliceBounds l u st xs.length).1 (sliceBounds l u st xs.length).2.1 (sliceBounds l u st xs.length).2.2).filterMap (its[·]?) := by
    unfold slicePick
    rw [List.size_toArray, hlen]
    simp
  have e2 : slicePick its.toArray l u st = ((sliceRange (sliceBounds l u st xs.length).1 (sliceBounds l u st xs.length).2.1 (sliceBounds l u st xs.length).2.2).filterMap (its[·]?)).toArray := by
    rw [← e1]
  rw [e2]
  refine ⟨.ref _, _, I5.laid (t' := s4.toks) (o := .lst (pickV xs l u st)) (fun b ob q => Heap.get?_push_of_some _ q) (Nat.le_refl _) ?_, rfl, q _ (I5.hok.fresh (Nat.le_refl _))⟩
  exact ⟨Nat.le_trans (pickV_length xs its hlen l u st r) hz, _, 0, r.pick _, Heap.get?_push_size _ rfl⟩
end

section
variable {X : Cx}
theorem ip_or : PIp X .BitOr (ipI fun i j => Builtin.bitOr i j) := by
  rintro pins s σ H x y v u Q I r1 r2 ⟨i, j, rfl, rfl, q⟩
  obtain ⟨t, rfl⟩ := r1
  obtain ⟨t', rfl⟩ := r2
  exact ior_int ⟨.int _, H, I.tok _, ⟨_, rfl⟩, q⟩
theorem ip_and : PIp X .BitAnd (ipI fun i j => Builtin.bitAnd i j) := by
  rintro pins s σ H x y v u Q I r1 r2 ⟨i, j, rfl, rfl, q⟩
  obtain ⟨t, rfl⟩ := r1
  obtain ⟨t', rfl⟩ := r2
  exact iand_int ⟨.int _, H, I.tok _, ⟨_, rfl⟩, q⟩
def rGetL (K : PySem.W.Frag) : V → V → Hp → VK → Prop := fun x y H Q => ∃ p xs i v, x = .ref p ∧ y = .int i ∧ 0 ≤ i ∧ SqL K H p xs ∧ xs[i.toNat]? = some v ∧ Q v H
theorem get_list : PGet X (rGetL X.K) := by
  rintro pins s σ H x y ov iv Q I rx ry ⟨p, xs, i, z, rfl, rfl, h0, hq, he, q⟩
  cases rx
  obtain ⟨t, rfl⟩ := ry
  obtain ⟨its, r, pl, hz⟩ := I.list hq
  obtain ⟨w, ew, rw'⟩ := r.get he
  have hl := r.length
  have hn := line63
  have hi : i.toNat < xs.length := (List.getElem?_eq_some_iff.mp he).1
  exact wpAny_getItem_list pl.isList h0 (by omega) (by simpa using ew) ⟨z, H, I, rw', q⟩
end

def entOk : List DictEntry → List (Int × Addr) → Bool
  | [], [] => true
  | e :: es, p :: r => (match e.key with | .int i _ => i == p.1 | _ => false) && (e.hash == hashInt p.1) && (e.val == .ref p.2) && entOk es r
  | _, _ => false
def mdOk (o : Obj) (kvs : List (Int × Addr)) : Bool :=
  (o.cls == .type "dict") && o.dict.isNone && o.slots.isEmpty && (match o.data with | .dict es _ => entOk es.toList kvs | _ => false)
theorem entOk_keys {P : Program} {w : World} : ∀ {es : List DictEntry} {kvs : List (Int × Addr)}, entOk es kvs = true → ∀ e ∈ es, ∃ k, (mixKind P w).is k e.key = true ∧ e.hash = (mixKind P w).hash k
  | [], _, _, e, he => by cases he
  | e :: es, p :: r, h, x, hx => by
    unfold entOk at h
    simp only [Bool.and_eq_true] at h
    obtain ⟨⟨⟨h1, h2⟩, h3⟩, h4⟩ := h
    rw [List.mem_cons] at hx
    rcases hx with rfl | hx
    · cases ek : x.key with
      | int i t =>
        rw [ek] at h1
        have e1 : i = p.1 := by simpa using h1
        subst e1
        exact ⟨.inl p.1, keyIs_int p.1 t, by show x.hash = hashInt p.1; simpa using h2⟩
      | _ => rw [ek] at h1; cases h1
    · exact entOk_keys h4 x hx
theorem entOk_pairs {P : Program} {w : World} : ∀ {es : List DictEntry} {kvs : List (Int × Addr)}, entOk es kvs = true → Pairs (mixKind P w) es (kvs.map fun p => ((Sum.inl p.1 : Key), Value.ref p.2))
  | [], [], _ => .nil
  | e :: es, p :: r, h => by
    unfold entOk at h
    simp only [Bool.and_eq_true] at h
    obtain ⟨⟨⟨h1, h2⟩, h3⟩, h4⟩ := h
    refine .cons ?_ (by simpa using h3) (entOk_pairs h4)
    cases ek : e.key with
    | int i t =>
      rw [ek] at h1
      have e1 : i = p.1 := by simpa using h1
      subst e1
      exact keyIs_int p.1 t
    | _ => rw [ek] at h1; cases h1
structure MD (K : PySem.W.Frag) (a : Addr) (kvs : List (Int × Addr)) : Prop where
  obj : ∃ o, K.lookup a = some o ∧ mdOk o kvs = true
  nd : (kvs.map (·.1)).Nodup
theorem MD.dict {P : Program} {w : World} {K : PySem.W.Frag} {a : Addr} {kvs : List (Int × Addr)} (M : MD K a kvs) {h : Heap} (X : K.In h) : h.DictOf (mixKind P w) a (kvs.map fun p => ((Sum.inl p.1 : Key), Value.ref p.2)) := by
  obtain ⟨o, hl, hk⟩ := M.obj
  unfold mdOk at hk
  simp only [Bool.and_eq_true] at hk
  obtain ⟨⟨⟨h1, h2⟩, h3⟩, h4⟩ := hk
  cases hd : o.data with
  | dict es ep =>
    rw [hd] at h4
    refine ⟨o, es, ep, X _ _ hl, ⟨by simpa using h1, by simpa using h2, by simpa using h3⟩, hd, fun e he => entOk_keys h4 e (by simpa using he), entOk_pairs h4, ?_⟩
    rw [List.map_map]
    have : ((fun x : Key × Value => x.1) ∘ fun p : Int × Addr => ((Sum.inl p.1 : Key), Value.ref p.2)) = (Sum.inl ∘ fun p : Int × Addr => p.1) := rfl
    rw [this, ← List.map_map]
    exact M.nd.map _ (fun a b hab q => hab (Sum.inl.inj q))
  | _ => rw [hd] at h4; cases h4
def atM (kvs : List (Int × Addr)) (k : Int) : Option Addr := (kvs.find? fun p => p.1 == k).map (·.2)
theorem valueAt_md (k : Int) : ∀ kvs : List (Int × Addr), valueAt (kvs.map fun p => ((Sum.inl p.1 : Key), Value.ref p.2)) (Sum.inl k) = (atM kvs k).map Value.ref
  | [] => rfl
  | p :: r => by
    have ih := valueAt_md k r
    unfold valueAt atM at ih ⊢
    rw [List.map_cons, List.find?_cons, List.find?_cons]
    by_cases e : p.1 = k
    · simp [e]
    · have : ¬ (Sum.inl p.1 : Key) = Sum.inl k := fun q => e (Sum.inl.inj q)
      simp only [this, decide_false, show (p.1 == k) = false by simpa using e]
      exact ih
def tMGet (kvs : List (Int × Addr)) (ti : TE) : TE := fun σ H Q => ti σ H fun y H1 => ∃ k a, y = .int k ∧ atM kvs k = some a ∧ Q (.ref a) H1
section
variable {X : Cx} {i e : Expr} {es : List Expr} {x : Str} {p pos cpos : Pos} {ti : TE} {t : TA} {kvs : List (Int × Addr)} {d : Addr}
theorem pe_mget (M : MD X.K d kvs) (hg : Gl X x) (hm : X.mg x = some (.ref d)) (hi : PE X i ti) (hs : NoSl i := by intros _ _; rfl) (hdb : (x == ("__debug__" : Str)) = false := by decide) : PE X (.Subscript (.Name x p) i pos) (tMGet kvs ti) := by
  intro pins s σ H Q I h
  refine subD_of PySem.F.slot_dict_getitem.lookup hs (ld_glob I hg hm ?_ hdb)
  refine thn (hi pins s σ H _ I h) fun iv s2 ⟨y, H2, I2, ry, k, a, ey, ea, q⟩ => ?_
  subst ey
  have dd : s2.heap.DictOf (mixKind X.prog X.w) d _ := M.dict I2.kIn
  exact ⟨dd.typeIs, wpAny_getItem_of (k := (Sum.inl k : Key)) (kV_is (k := Sum.inl k) ry) dd.mapOf (by rw [valueAt_md, ea]; rfl) ⟨.ref a, H2, I2.tok _, rfl, q⟩⟩
def tMCall (kvs : List (Int × Addr)) (sp : Int → Sp) (ti : TE) (t : TA) : TE := fun σ H Q => ti σ H fun y H1 => ∃ k a, y = .int k ∧ atM kvs k = some a ∧ t σ H1 fun vs H2 => sp k vs H2 Q E0
theorem pe_mcall {kk : Nat} {sp : Int → Sp} (M : MD X.K d kvs) (hg : Gl X x) (hm : X.mg x = some (.ref d)) (hr : Room kk X.A)
    (FF : ∀ k a, atM kvs k = some a → ∃ fd ps, FnOk X.prog X.w X.K X.mg X.base CX0 kk a fd ps (sp k) ∧ Binds X.K fd ps [] ∧ PySem.W.keepIn X.K (.ref a) = true)
    (hi : PE X i ti) (ha : PA X (e :: es) t) (hs : NoSl i := by intros _ _; rfl) (hdb : (x == ("__debug__" : Str)) = false := by decide) (he : starEach (e :: es) X.env = (false, eval e X.env) :: starEach es X.env := by rfl) (hpl : (backTo cpos (starEach es X.env)).any (·.1) = false := by rfl)
    (hev : eval (.Call (.Subscript (.Name x p) i pos) (e :: es) [] cpos) X.env = (do callWith cpos (← eval (.Subscript (.Name x p) i pos) X.env) [] (backTo cpos (starEach (e :: es) X.env)) (backToKw cpos (keywordEach [] X.env))) := by rfl) :
    PE X (.Call (.Subscript (.Name x p) i pos) (e :: es) [] cpos) (tMCall kvs sp ti t) := by
  intro pins s σ H Q I h
  refine Call_ (subD_of PySem.F.slot_dict_getitem.lookup hs (ld_glob I hg hm ?_ hdb)) hev
  refine thn (hi pins s σ H _ I h) fun iv s2 ⟨y, H2, I2, ry, k, a, ey, ea, q⟩ => ?_
  subst ey
  have dd : s2.heap.DictOf (mixKind X.prog X.w) d _ := M.dict I2.kIn
  obtain ⟨fd, ps, F, hb, hk⟩ := FF k a ea
  refine ⟨dd.typeIs, wpAny_getItem_of (k := (Sum.inl k : Key)) (kV_is (k := Sum.inl k) ry) dd.mapOf (v := .ref a) (by rw [valueAt_md, ea]; rfl) ?_⟩
  have I3 := I2.tok (s2.toks + 1)
  refine PySem.W.callWith_K (h₀ := X.base) I.ok.mod.kin hk (thn (ha cpos pins _ σ H2 _ I3 q) fun us s4 ⟨vs, H4, I4, r, q4⟩ => ⟨I4.kIn, ?_⟩) he hpl
  exact run_fn F hr hb .nil pass0 I4 r (by rw [List.append_nil]; exact q4)
end

def Itzt (K : PySem.W.Frag) (a b : Addr) : It :=
  ⟨fun i H => ∃ (xs ys : List V) (x y : V), SqL K H a xs ∧ SqT K H b ys ∧ xs[i]? = some x ∧ ys[i]? = some y,
    fun i H v H' => ∃ T x y, v = .ref T ∧ H T = none ∧ H' = upd H T (.tup [x, y]) ∧ (∀ xs, SqL K H a xs → xs[i]? = some x) ∧ ∀ ys, SqT K H b ys → ys[i]? = some y,
    fun i H => ∃ xs : List V, SqL K H a xs ∧ xs.length ≤ i⟩
theorem turn_ziplt {P : Program} {w : World} {K : PySem.W.Frag} {elts : List Expr} {kk : Nat} {tpos : Pos} {a b z TI TO i1 i2 : Addr} (D : ZipApart z TI TO i1 i2 a b) :
    Turn P w K (.Tuple elts kk tpos) (Itzt K a b) [z, TI, TO, i1, i2] z (fun i h => IsZip h z TI TO .none ∧ IsPair h TI (.ref i1) (.ref i2) ∧ (∃ x y, IsPair h TO x y) ∧ h.IsListIter i1 a i ∧ h.IsTupleIter i2 b i) where
  mem := by simp
  obj := fun i h st c hc => by
    obtain ⟨hz, hTI, ⟨x, y, hTO⟩, ⟨o1, e1, _, d1⟩, ⟨o2, e2, _, d2⟩⟩ := st
    have e' : c = z ∨ c = TI ∨ c = TO ∨ c = i1 ∨ c = i2 := by simpa using hc
    rcases e' with q | q | q | q | q
    · rw [q]; exact ⟨_, hz, fun v q => nomatch q⟩
    · rw [q]; exact ⟨_, hTI, fun v q => nomatch q⟩
    · rw [q]; exact ⟨_, hTO, fun v q => nomatch q⟩
    · rw [q]; exact ⟨o1, e1, fun v q => by rw [d1] at q; cases q⟩
    · rw [q]; exact ⟨o2, e2, fun v q => by rw [d2] at q; cases q⟩
  keep := fun i h h' st k => by
    obtain ⟨hz, hTI, ⟨x, y, hTO⟩, h1, h2⟩ := st
    exact ⟨k z (by simp) _ hz, k TI (by simp) _ hTI, ⟨x, y, k TO (by simp) _ hTO⟩, h1.at fun o q => k i1 (by simp) o q, h2.at fun o q => k i2 (by simp) o q⟩
  item := by
    intro X hP hw hK hc i pins s σ H E I hf st hg
    subst hP hw hK
    obtain ⟨hz, hTI, ⟨x0, y0, hTO⟩, h1, h2⟩ := st
    obtain ⟨xs, ys, x, y, hqx, hqy, hx, hy⟩ := hg
    obtain ⟨its, rv, p, _⟩ := I.list hqx
    obtain ⟨its2, rv2, p2, _⟩ := I.tuple hqy
    obtain ⟨u, hu, ru⟩ := rv.get hx
    obtain ⟨u2, hu2, ru2⟩ := rv2.get hy
    have hzl : z < s.heap.objs.size := Heap.lt_size hz
    refine ZL.nextItem D hz hTI hTO h1 h2 p.isList p2 (u := u) (v := u2) (by simpa using hu) (by simpa using hu2) fun h' z' TO' h1' h2' hT hsz hk => ?_
    refine ⟨_, rfl, wpAny_letOwnedTupleGo_zip (s := { s with heap := h' }) z' fun h'' z'' sb => ?_⟩
    have hT2 : h''.get? s.heap.objs.size = some { cls := .type "tuple", data := .seq #[u, u2] } := (sb.2 _ (Nat.ne_of_gt hzl)).trans hT
    have new : ObjOk X.prog X.w (upd H s.heap.objs.size (.tup [x, y])) h'' s.heap.objs.size (.tup [x, y]) :=
      ⟨by show 2 ≤ sizeLine; decide, [u, u2], .cons ru (.cons ru2 .nil), ⟨_, hT2, rfl, _, rfl⟩⟩
    have I1 : Inv X pins σ (upd H s.heap.objs.size (.tup [x, y])) { s with heap := h'' } :=
      I.turnedNew (t' := s.toks) (ch := [z, TI, TO, i1, i2]) (fun c o hb q => (sb.2 c (fun q' => hb (by simp [q']))).trans (hk c o (fun q' => hb (by simp [q'])) (fun q' => hb (by simp [q'])) (fun q' => hb (by simp [q'])) (fun q' => hb (by simp [q'])) q)) hf (Nat.le_refl _) new
    refine ⟨.ref s.heap.objs.size, _, I1, rfl, ⟨_, x, y, rfl, I.hok.fresh (Nat.le_refl _), rfl, fun l hl => by rw [I.list_inj hl hqx]; exact hx, fun l hl => by rw [I.tuple_inj hl hqy]; exact hy⟩, ⟨z'', ?_, ⟨u, u2, ?_⟩, ?_, ?_⟩, fun c hcm => ?_⟩
    · exact (sb.2 _ D.TIz).trans (hk _ _ D.TIz D.TITO D.TIi1 D.TIi2 hTI)
    · exact (sb.2 _ D.TOz).trans TO'
    · exact h1'.at fun o q => (sb.2 _ D.i1z).trans q
    · exact h2'.at fun o q => (sb.2 _ D.i2z).trans q
    · have hlt : c < s.heap.objs.size := by
        have e' : c = z ∨ c = TI ∨ c = TO ∨ c = i1 ∨ c = i2 := by simpa using hcm
        rcases e' with q | q | q | q | q
        · rw [q]; exact hzl
        · rw [q]; exact Heap.lt_size hTI
        · rw [q]; exact Heap.lt_size hTO
        · rw [q]; obtain ⟨_, e1, _⟩ := h1; exact Heap.lt_size e1
        · rw [q]; obtain ⟨_, e2, _⟩ := h2; exact Heap.lt_size e2
      rw [upd_ne (Nat.ne_of_lt hlt)]
      exact (hf c hcm).1
  done := by
    intro X hP hw hK hc i pins s σ H E I hf st hg
    subst hP hw hK
    obtain ⟨hz, hTI, ⟨x0, y0, hTO⟩, h1, h2⟩ := st
    obtain ⟨xs, hqx, hend⟩ := hg
    obtain ⟨its, rv, p, _⟩ := I.list hqx
    have l1 := rv.length
    exact ZL.nextEnd (I.ok.hd hc) D hz hTI h1 p.isList (by simp; omega) fun h' hk => ⟨rfl, I.turnedL (t' := s.toks) (ch := [z, TI, TO, i1, i2]) (fun c o hb q =>
      hk c o (fun q' => hb (by simp [q'])) (fun q' => hb (by simp [q'])) (fun q' => hb (by simp [q'])) (fun q' => hb (by simp [q'])) q) hf⟩
  self := fun A i s Q E st h => wpAny_pyIter_zip st.1 h
def iZiplt (K : PySem.W.Frag) (ta : TA) : TI := fun σ H R => ta σ H fun vs H1 => ∃ a b xs ys, vs = [.ref a, .ref b] ∧ SqL K H1 a xs ∧ SqT K H1 b ys ∧ R (Itzt K a b) H1
theorem pi_ziplt {X : Cx} {e e2 : Expr} {ta : TA} {p pos tpos : Pos} {elts : List Expr} {kk : Nat} (hg : Gl X "zip") (hm : X.mg "zip" = none) (ha : PA X [e, e2] ta)
    (hs : starEach [e, e2] X.env = (false, eval e X.env) :: starEach [e2] X.env := by rfl) (hpl : (backTo pos (starEach [e2] X.env)).any (·.1) = false := by rfl) :
    PI X (.Tuple elts kk tpos) (.Call (.Name "zip" p) [e, e2] [] pos) (iZiplt X.K ta) := by
  intro pins s σ H R I h
  refine Call_ (ld_blt I hg hm boot_zip5 (PyProof.Rows.callWith_type1 (thn (ha pos pins s σ H _ I h) fun us s1 ⟨vs, H1, I1, r1, q1⟩ => ?_) hs hpl))
  obtain ⟨a, b, xs, ys, ex, hqx, hqy, q⟩ := q1
  subst ex
  cases r1 with
  | cons r rr =>
    cases rr with
    | cons r' rr =>
      cases rr
      cases r
      cases r'
      obtain ⟨its, rv, p1, _⟩ := I1.list hqx
      obtain ⟨its2, rv2, p2, _⟩ := I1.tuple hqy
      have la : a < s1.heap.objs.size := p1.lt
      have lb : b < s1.heap.objs.size := by obtain ⟨o, e, _⟩ := p2; exact Heap.lt_size e
      refine ZL.callZip p1.isList p2 fun h' hz hTI hTO h1 h2 hsz hk => wpAny_pyIter_zip hz ?_
      have I2 : Inv X pins σ H1 { s1 with heap := h' } := I1.kept (t' := s1.toks) hk
      refine ⟨s1.heap.objs.size + 4, [s1.heap.objs.size + 4, s1.heap.objs.size + 2, s1.heap.objs.size + 3, s1.heap.objs.size, s1.heap.objs.size + 1], _, _, H1, rfl, I2, turn_ziplt (PySem.W.ktu_apart s1.heap.objs.size a b la lb), ⟨hz, hTI, ⟨_, _, hTO⟩, h1, h2⟩, fun c hcm => ?_, q⟩
      have e' : c = s1.heap.objs.size + 4 ∨ c = s1.heap.objs.size + 2 ∨ c = s1.heap.objs.size + 3 ∨ c = s1.heap.objs.size ∨ c = s1.heap.objs.size + 1 := by simpa using hcm
      have hle : s1.heap.objs.size ≤ c := by
        rcases e' with z | z | z | z | z
        · rw [z]; exact Nat.le_add_right _ _
        · rw [z]; exact Nat.le_add_right _ _
        · rw [z]; exact Nat.le_add_right _ _
        · rw [z]; exact Nat.le_refl _
        · rw [z]; exact Nat.le_add_right _ _
      exact I1.fpOk hle (I1.hok.fresh hle)
theorem for_ziplt {K : PySem.W.Frag} {a b : Addr} {xs ys : List V} {g : TG} {tb : TS} {D : Ends} {σ : St} {H : Hp} (hle : xs.length ≤ ys.length) (Pv : Nat → St → Hp → Prop) (h0 : Pv 0 σ H)
    (hl : ∀ i σ H, i ≤ xs.length → Pv i σ H → SqL K H a xs ∧ SqT K H b ys)
    (hs : ∀ i x y T σ H, xs[i]? = some x → ys[i]? = some y → H T = none → Pv i σ H → g (.ref T) σ (upd H T (.tup [x, y])) fun σ2 H2 => tb { D with nx := Pv (i + 1), ct := Pv (i + 1), bk := D.nx } σ2 H2) (hd : ∀ σ H, Pv xs.length σ H → D.nx σ H) :
    ∃ W : Nat → Nat → St → Hp → Prop, (∃ m, W 0 m σ H) ∧ ∀ i m σ H, W i m σ H →
      ((Itzt K a b).stop i H ∧ D.nx σ H) ∨ ((Itzt K a b).go i H ∧ ∃ N : St → Hp → Prop, (∀ σ' H', N σ' H' → ∃ m', m' < m ∧ W (i + 1) m' σ' H') ∧ ∀ x H', (Itzt K a b).yld i H x H' → g x σ H' fun σ2 H2 => tb { D with nx := N, ct := N, bk := D.nx } σ2 H2) := by
  refine ⟨fun i m σ H => m = xs.length - i ∧ i ≤ xs.length ∧ Pv i σ H, ⟨xs.length, by simp, Nat.zero_le _, h0⟩, ?_⟩
  rintro i m σ H ⟨rfl, hi, p⟩
  obtain ⟨q1, q2⟩ := hl i σ H hi p
  by_cases hlt : i < xs.length
  · have hlt2 : i < ys.length := Nat.lt_of_lt_of_le hlt hle
    refine .inr ⟨⟨xs, ys, xs[i], ys[i], q1, q2, by simp [hlt], by simp [hlt2]⟩, Pv (i + 1), fun σ' H' p' => ⟨xs.length - (i + 1), by omega, rfl, hlt, p'⟩, fun v H' y => ?_⟩
    obtain ⟨T, x, y, rfl, hT, rfl, e1, e2⟩ := y
    exact hs i x y T σ H (e1 xs q1) (e2 ys q2) hT p
  · have e : i = xs.length := by omega
    subst e
    exact .inl ⟨⟨xs, q1, Nat.le_refl _⟩, hd σ H p⟩
theorem for_zip {K : PySem.W.Frag} {a b : Addr} {xs ys : List V} {g : TG} {tb : TS} {D : Ends} {σ : St} {H : Hp} (hle : ys.length ≤ xs.length) (Pv : Nat → St → Hp → Prop) (h0 : Pv 0 σ H)
    (hl : ∀ i σ H, i ≤ ys.length → Pv i σ H → SqL K H a xs ∧ SqL K H b ys)
    (hs : ∀ i x y T σ H, xs[i]? = some x → ys[i]? = some y → H T = none → Pv i σ H → g (.ref T) σ (upd H T (.tup [x, y])) fun σ2 H2 => tb { D with nx := Pv (i + 1), ct := Pv (i + 1), bk := D.nx } σ2 H2) (hd : ∀ σ H, Pv ys.length σ H → D.nx σ H) :
    ∃ W : Nat → Nat → St → Hp → Prop, (∃ m, W 0 m σ H) ∧ ∀ i m σ H, W i m σ H →
      ((Itz K a b).stop i H ∧ D.nx σ H) ∨ ((Itz K a b).go i H ∧ ∃ N : St → Hp → Prop, (∀ σ' H', N σ' H' → ∃ m', m' < m ∧ W (i + 1) m' σ' H') ∧ ∀ x H', (Itz K a b).yld i H x H' → g x σ H' fun σ2 H2 => tb { D with nx := N, ct := N, bk := D.nx } σ2 H2) := by
  refine ⟨fun i m σ H => m = ys.length - i ∧ i ≤ ys.length ∧ Pv i σ H, ⟨ys.length, by simp, Nat.zero_le _, h0⟩, ?_⟩
  rintro i m σ H ⟨rfl, hi, p⟩
  obtain ⟨q1, q2⟩ := hl i σ H hi p
  by_cases hlt2 : i < ys.length
  · have hlt : i < xs.length := Nat.lt_of_lt_of_le hlt2 hle
    refine .inr ⟨⟨xs, ys, xs[i], ys[i], q1, q2, by simp [hlt], by simp [hlt2]⟩, Pv (i + 1), fun σ' H' p' => ⟨ys.length - (i + 1), by omega, rfl, hlt2, p'⟩, fun v H' y => ?_⟩
    obtain ⟨T, x, y, rfl, hT, rfl, e1, e2⟩ := y
    exact hs i x y T σ H (e1 xs q1) (e2 ys q2) hT p
  · have e : i = ys.length := by omega
    subst e
    exact .inl ⟨⟨xs, ys, q1, q2, .inr (Nat.le_refl _)⟩, hd σ H p⟩
theorem for_enum {K : PySem.W.Frag} {a : Addr} {xs : List V} {g : TG} {tb : TS} {D : Ends} {σ : St} {H : Hp} (Pv : Nat → St → Hp → Prop) (h0 : Pv 0 σ H)
    (hl : ∀ i σ H, i ≤ xs.length → Pv i σ H → SqL K H a xs)
    (hs : ∀ i x T σ H, xs[i]? = some x → H T = none → Pv i σ H → g (.ref T) σ (upd H T (.tup [.int (i : Nat), x])) fun σ2 H2 => tb { D with nx := Pv (i + 1), ct := Pv (i + 1), bk := D.nx } σ2 H2) (hd : ∀ σ H, Pv xs.length σ H → D.nx σ H) :
    ∃ W : Nat → Nat → St → Hp → Prop, (∃ m, W 0 m σ H) ∧ ∀ i m σ H, W i m σ H →
      ((Ite K a).stop i H ∧ D.nx σ H) ∨ ((Ite K a).go i H ∧ ∃ N : St → Hp → Prop, (∀ σ' H', N σ' H' → ∃ m', m' < m ∧ W (i + 1) m' σ' H') ∧ ∀ x H', (Ite K a).yld i H x H' → g x σ H' fun σ2 H2 => tb { D with nx := N, ct := N, bk := D.nx } σ2 H2) := by
  refine ⟨fun i m σ H => m = xs.length - i ∧ i ≤ xs.length ∧ Pv i σ H, ⟨xs.length, by simp, Nat.zero_le _, h0⟩, ?_⟩
  rintro i m σ H ⟨rfl, hi, p⟩
  have q1 := hl i σ H hi p
  by_cases hlt : i < xs.length
  · refine .inr ⟨⟨xs, xs[i], q1, by simp [hlt]⟩, Pv (i + 1), fun σ' H' p' => ⟨xs.length - (i + 1), by omega, rfl, hlt, p'⟩, fun v H' y => ?_⟩
    obtain ⟨T, x, rfl, hT, rfl, e1⟩ := y
    exact hs i x T σ H (e1 xs q1) hT p
  · have e : i = xs.length := by omega
    subst e
    exact .inl ⟨⟨xs, q1, Nat.le_refl _⟩, hd σ H p⟩
theorem pe_gint {X : Cx} {x : Str} {i : Int} {pos : Pos} (hg : Gl X x) (hm : ∃ t, X.mg x = some (.int i t)) (hd : (x == ("__debug__" : Str)) = false := by decide) : PE X (.Name x pos) (tC (.int i)) :=
  pe_glob hg hm.choose_spec ⟨_, rfl⟩ hd
section
variable {X : Cx} {K : PySem.W.Frag}
theorem pe_fldK {e : Expr} {f : Str} {pos : Pos} {ta : TE} (hK : X.K = K) (he : PE X e ta) (hb : attributeBase e f X.env (eval e X.env) = eval e X.env) : PE X (.Attribute e f pos) (tFld K ta f) := by
  subst hK; exact pe_fld he hb
def tTru (K : PySem.W.Frag) (ta : TE) : TT := fun σ H Q => ta σ H fun x H' => ∃ k, TruV K x H' k ∧ Q k H'
theorem pt_truthK {a : Expr} {ta : TE} (hK : X.K = K) (ha : PE X a ta) (he : ∀ whole, isTrue a X.env whole = (do let v ← whole; standAt a.pos; holding [v] (truthy v))) :
    PT X a (tTru K ta) := by
  subst hK; exact pt_truth ha he
theorem ix_listK (hK : X.K = K) : IxR X (rIxL K) := by subst hK; exact ix_list
theorem ix_tupK (hK : X.K = K) : IxR X (rIxT K) := by subst hK; exact ix_tup
theorem in_seqK (hK : X.K = K) : OpR X (compareOp .In) (rIn K false) := by subst hK; exact op_in_seq
end
end L2


namespace L2
open PySem PySem.Spec PyProof.Rows
open PySem.W (WData Codec OpenSpec Well WellAll ReadsW ReadsAllW)
mutual
inductive Dw (K : PySem.W.Frag) (H : Hp) : V → WData → Prop
  | non : Dw K H .non .none
  | bl (b : Bool) : Dw K H (.bl b) (.bool b)
  | int (i : Int) : Dw K H (.int i) (.int i)
  | str (x : Str) : Dw K H (.str x) (.str x)
  | byt (b : Array UInt8) : Dw K H (.byt b) (.bytes b.toList)
  | lst {a : Addr} {xs : List V} {ds : List WData} : SqL K H a xs → DwAll K H xs ds → Dw K H (.ref a) (.list ds)
  | tup {a : Addr} {xs : List V} {ds : List WData} : SqT K H a xs → DwAll K H xs ds → Dw K H (.ref a) (.tuple ds)
inductive DwAll (K : PySem.W.Frag) (H : Hp) : List V → List WData → Prop
  | nil : DwAll K H [] []
  | cons {v : V} {vs : List V} {d : WData} {ds : List WData} : Dw K H v d → DwAll K H vs ds → DwAll K H (v :: vs) (d :: ds)
end
theorem dw_ints {K : PySem.W.Frag} {H : Hp} : ∀ ns : List Int, DwAll K H (ns.map V.int) (ns.map WData.int)
  | [] => .nil
  | n :: r => .cons (.int n) (dw_ints r)
theorem ints_dw {K : PySem.W.Frag} {H : Hp} : ∀ (ns : List Int) (xs : List V), DwAll K H xs (ns.map WData.int) → xs = ns.map V.int
  | [], xs, h => by
    cases h
    rfl
  | n :: r, xs, h => by
    cases h with
    | cons h1 h2 =>
      cases h1
      rw [ints_dw r _ h2] <;> rfl
section
variable {P : Program} {w : World} {K : PySem.W.Frag} {H : Hp} {h : Heap} {R : PySem.W.WRecords} {cl : Str → Option Addr}
theorem sqL_at {a : Addr} {xs : List V} (hok : HOk P w H h) (KX : K.In h) (q : SqL K H a xs) : ∃ (its : List Value) (o : Obj) (n : Nat), Vals xs its ∧ h.get? a = some o ∧ o.cls = .type "list" ∧ o.data = .seq its.toArray n := by
  rcases q with q | ⟨o, its, n, e, hc, _, hd, _, hv⟩
  · obtain ⟨_, its, n, hv, e⟩ := (show ObjOk P w H h a (.lst xs) from q.ok hok)
    exact ⟨its, _, n, hv, e, rfl, rfl⟩
  · exact ⟨its.toList, o, n, hv, KX _ _ e, hc, by simp [hd]⟩
theorem sqT_at {a : Addr} {xs : List V} (hok : HOk P w H h) (KX : K.In h) (q : SqT K H a xs) : ∃ (its : List Value) (o : Obj) (n : Nat), Vals xs its ∧ h.get? a = some o ∧ o.cls = .type "tuple" ∧ o.data = .seq its.toArray n := by
  rcases q with q | ⟨o, its, n, e, hc, hd, _, hv⟩
  · obtain ⟨_, its, hv, o, e, hc, n, hd⟩ := (show ObjOk P w H h a (.tup xs) from q.ok hok)
    exact ⟨its, o, n, hv, e, hc, hd⟩
  · exact ⟨its.toList, o, n, hv, KX _ _ e, hc, by simp [hd]⟩
mutual
theorem Dw.reads (hok : HOk P w H h) (KX : K.In h) : ∀ (d : WData) (v : V) (u : Value), Dw K H v d → RelV v u → ∃ as, ReadsW R cl h u d as
  | .none, _, _, x, r => by
    cases x
    cases r
    exact ⟨_, ReadsW.none⟩
  | .bool b, _, _, x, r => by
    cases x
    cases r
    exact ⟨_, ReadsW.bool b⟩
  | .int i, _, _, x, r => by
    cases x
    obtain ⟨t, rfl⟩ := r
    exact ⟨_, ReadsW.int i t⟩
  | .str s, _, _, x, r => by
    cases x
    obtain ⟨t, rfl⟩ := r
    exact ⟨_, ReadsW.str s t⟩
  | .bytes b, _, _, x, r => by
    cases x
    obtain ⟨t, rfl⟩ := r
    exact ⟨_, ReadsW.bytes _ t⟩
  | .list ds, _, _, x, r => by
    cases x with
    | lst hs ha =>
      cases r
      obtain ⟨its, o, n, rv, ho, hc, hd⟩ := sqL_at hok KX hs
      obtain ⟨as, hr⟩ := Dw.readsAll hok KX ds _ its ha rv
      exact ⟨_, ReadsW.list ho hc hd hr⟩
  | .tuple ds, _, _, x, r => by
    cases x with
    | tup hs ha =>
      cases r
      obtain ⟨its, o, n, rv, ho, hc, hd⟩ := sqT_at hok KX hs
      obtain ⟨as, hr⟩ := Dw.readsAll hok KX ds _ its ha rv
      exact ⟨_, ReadsW.tuple ho hc hd hr⟩
  | .float _, _, _, x, _ => by cases x
  | .dict _, _, _, x, _ => by cases x
  | .bytearray _, _, _, x, _ => by cases x
  | .set _, _, _, x, _ => by cases x
  | .frozenset _, _, _, x, _ => by cases x
  | .obj _ _, _, _, x, _ => by cases x
theorem Dw.readsAll (hok : HOk P w H h) (KX : K.In h) : ∀ (ds : List WData) (vs : List V) (us : List Value), DwAll K H vs ds → Vals vs us → ∃ as, ReadsAllW R cl h us ds as
  | [], _, _, x, r => by
    cases x
    cases r
    exact ⟨_, ReadsAllW.nil⟩
  | d :: ds, _, _, x, r => by
    cases x with
    | cons h1 h2 =>
      cases r with
      | cons r1 r2 =>
        obtain ⟨as, q1⟩ := Dw.reads hok KX d _ _ h1 r1
        obtain ⟨bs, q2⟩ := Dw.readsAll hok KX ds _ _ h2 r2
        exact ⟨_, ReadsAllW.cons q1 q2⟩
end
end
mutual
def plW : WData → Bool
  | .none => true
  | .bool _ => true
  | .int _ => true
  | .str _ => true
  | .bytes _ => true
  | .list xs => plWs xs
  | .tuple xs => plWs xs
  | _ => false
def plWs : List WData → Bool
  | [] => true
  | x :: r => plW x && plWs r
end
theorem plWs_map {α : Type} {f : α → WData} (h : ∀ a, plW (f a) = true) : ∀ l : List α, plWs (l.map f) = true
  | [] => rfl
  | x :: r => by
    show (plW (f x) && plWs (r.map f)) = true
    rw [h x, plWs_map h r] <;> rfl
theorem pl_enc : ∀ (c : Codec) (a : c.denote), plW (c.enc a) = true
  | .unit, _ => rfl
  | .bool, _ => rfl
  | .int _ _, _ => rfl
  | .nat _ _, _ => rfl
  | .u8, _ => rfl
  | .bytes _ _, _ => rfl
  | .text _ _ _ _, _ => rfl
  | .list _ _ c, a => plWs_map (fun x => pl_enc c x) a
  | .pair c d, a => by
    show (plW (c.enc a.1) && (plW (d.enc a.2) && true)) = true
    rw [pl_enc c a.1, pl_enc d a.2] <;> rfl
  | .triple c d e, a => by
    show (plW (c.enc a.1) && (plW (d.enc a.2.1) && (plW (e.enc a.2.2) && true))) = true
    rw [pl_enc c a.1, pl_enc d a.2.1, pl_enc e a.2.2] <;> rfl
  | .option c, none => rfl
  | .option c, some x => pl_enc c x
theorem pl_encAll : ∀ (cs : List Codec) (a : Codec.denoteAll cs), plWs (Codec.encAll cs a) = true
  | [], _ => rfl
  | c :: cs, a => by
    show (plW (c.enc a.1) && plWs (Codec.encAll cs a.2)) = true
    rw [pl_enc c a.1, pl_encAll cs a.2] <;> rfl
theorem weight_mem : ∀ {xs : List WData} {d : WData}, d ∈ xs → d.weight ≤ WData.weightAll xs
  | [], d, h => absurd h (by simp)
  | x :: r, d, h => by
    show d.weight ≤ x.weight + 1 + WData.weightAll r
    rcases List.mem_cons.mp h with e | m
    · rw [e]
      omega
    · have z := weight_mem m
      omega
def toV : Value → V
  | .none => .non
  | .bool b => .bl b
  | .int i _ => .int i
  | .str x _ => .str x
  | .bytes b _ => .byt b
  | .ref a => .ref a
  | _ => .non
def OkU (A : List Addr) : Value → Prop
  | .none => True
  | .bool _ => True
  | .int _ _ => True
  | .str _ _ => True
  | .bytes _ _ => True
  | .ref a => a ∈ A
  | _ => False
theorem OkU.mono {A B : List Addr} (h : ∀ a ∈ A, a ∈ B) : ∀ {u : Value}, OkU A u → OkU B u := fun {u} x => by
  cases u with
  | ref a => exact h a x
  | none => trivial
  | bool b => trivial
  | int i t => trivial
  | str s t => trivial
  | bytes b t => trivial
  | _ => exact False.elim x
theorem relV_toV {A : List Addr} {u : Value} (x : OkU A u) : RelV (toV u) u := by
  cases u with
  | ref a => rfl
  | none => rfl
  | bool b => rfl
  | int i t => exact ⟨t, rfl⟩
  | str s t => exact ⟨t, rfl⟩
  | bytes b t => exact ⟨t, rfl⟩
  | _ => exact False.elim x
theorem vals_toV {A : List Addr} : ∀ {vs : List Value}, (∀ u ∈ vs, OkU A u) → Vals (vs.map toV) vs
  | [], _ => .nil
  | u :: r, h => .cons (relV_toV (h u (List.mem_cons_self ..))) (vals_toV fun x hx => h x (List.mem_cons_of_mem _ hx))
def ArgOb (h : Heap) (A : List Addr) (a : Addr) : Prop := ∃ vs : List Value, vs.length ≤ sizeLine ∧ (∀ u ∈ vs, OkU A u) ∧
  (h.get? a = some { cls := .type "list", data := .seq vs.toArray } ∨ h.get? a = some { cls := .type "tuple", data := .seq vs.toArray })
theorem ArgOb.mono {h : Heap} {A B : List Addr} {a : Addr} (k : ∀ a ∈ A, a ∈ B) (x : ArgOb h A a) : ArgOb h B a := by
  obtain ⟨vs, h1, h2, h3⟩ := x
  exact ⟨vs, h1, fun u hu => (h2 u hu).mono k, h3⟩
theorem wellAll_len {P : Params} {h : Heap} : ∀ {vs : List Value} {ds : List WData}, WellAll P h vs ds → vs.length = ds.length
  | _, _, .nil => rfl
  | _, _, .cons _ b => by
    show _ + 1 = _ + 1
    rw [wellAll_len b]
theorem well_list {P : Params} {h : Heap} {v : Value} {ds : List WData} (x : Well P h v (.list ds)) : ∃ (a : Addr) (vs : List Value), v = .ref a ∧ h.get? a = some { cls := .type "list", data := .seq vs.toArray } ∧ WellAll P h vs ds := by
  cases x with
  | list ho hall => exact ⟨_, _, rfl, ho, hall⟩
theorem well_tuple {P : Params} {h : Heap} {v : Value} {ds : List WData} (x : Well P h v (.tuple ds)) : ∃ (a : Addr) (vs : List Value), v = .ref a ∧ h.get? a = some { cls := .type "tuple", data := .seq vs.toArray } ∧ WellAll P h vs ds := by
  cases x with
  | tuple ho hall => exact ⟨_, _, rfl, ho, hall⟩
theorem well_cons {P : Params} {h : Heap} {us : List Value} {d : WData} {ds : List WData} (x : WellAll P h us (d :: ds)) : ∃ (v : Value) (vs : List Value), us = v :: vs ∧ Well P h v d ∧ WellAll P h vs ds := by
  cases x with
  | cons a b => exact ⟨_, _, rfl, a, b⟩
theorem line_of {n : Nat} (h : n ≤ 1048576) : n ≤ sizeLine := Nat.le_trans h (by decide)
section
variable {P : Params} {h : Heap}
mutual
theorem area_one : ∀ (d : WData) (v : Value), Well P h v d → plW d = true → d.weight ≤ 1048576 → ∃ A : List Addr, OkU A v ∧ ∀ a ∈ A, ArgOb h A a
  | .none, _, x, _, _ => by
    cases x
    exact ⟨[], trivial, fun a m => absurd m (by simp)⟩
  | .bool b, _, x, _, _ => by
    cases x
    exact ⟨[], trivial, fun a m => absurd m (by simp)⟩
  | .int i, _, x, _, _ => by
    cases x
    exact ⟨[], trivial, fun a m => absurd m (by simp)⟩
  | .str s, _, x, _, _ => by
    cases x
    exact ⟨[], trivial, fun a m => absurd m (by simp)⟩
  | .bytes b, _, x, _, _ => by
    cases x
    exact ⟨[], trivial, fun a m => absurd m (by simp)⟩
  | .list ds, _, x, p, z => by
    obtain ⟨a, vs, rfl, ho, hall⟩ := well_list x
    have z2 : WData.weightAll ds ≤ 1048576 := z
    obtain ⟨A, h1, h2⟩ := area_all ds _ hall p fun d hd => Nat.le_trans (weight_mem hd) z2
    have k : ∀ b ∈ A, b ∈ a :: A := fun b hb => List.mem_cons_of_mem _ hb
    refine ⟨a :: A, List.mem_cons_self .., fun b hb => ?_⟩
    rcases List.mem_cons.mp hb with e | m
    · rw [e]
      exact ⟨vs, line_of (by rw [wellAll_len hall]; exact Nat.le_trans (PySem.W.length_le_weightAllW ds) z2), fun u hu => (h1 u hu).mono k, .inl ho⟩
    · exact (h2 b m).mono k
  | .tuple ds, _, x, p, z => by
    obtain ⟨a, vs, rfl, ho, hall⟩ := well_tuple x
    have z2 : WData.weightAll ds ≤ 1048576 := z
    obtain ⟨A, h1, h2⟩ := area_all ds _ hall p fun d hd => Nat.le_trans (weight_mem hd) z2
    have k : ∀ b ∈ A, b ∈ a :: A := fun b hb => List.mem_cons_of_mem _ hb
    refine ⟨a :: A, List.mem_cons_self .., fun b hb => ?_⟩
    rcases List.mem_cons.mp hb with e | m
    · rw [e]
      exact ⟨vs, line_of (by rw [wellAll_len hall]; exact Nat.le_trans (PySem.W.length_le_weightAllW ds) z2), fun u hu => (h1 u hu).mono k, .inr ho⟩
    · exact (h2 b m).mono k
  | .float _, _, _, p, _ => Bool.noConfusion (show false = true from p)
  | .dict _, _, _, p, _ => Bool.noConfusion (show false = true from p)
  | .bytearray _, _, _, p, _ => Bool.noConfusion (show false = true from p)
  | .set _, _, _, p, _ => Bool.noConfusion (show false = true from p)
  | .frozenset _, _, _, p, _ => Bool.noConfusion (show false = true from p)
  | .obj _ _, _, _, p, _ => Bool.noConfusion (show false = true from p)
theorem area_all : ∀ (ds : List WData) (vs : List Value), WellAll P h vs ds → plWs ds = true → (∀ d ∈ ds, d.weight ≤ 1048576) → ∃ A : List Addr, (∀ u ∈ vs, OkU A u) ∧ ∀ a ∈ A, ArgOb h A a
  | [], _, x, _, _ => by
    cases x
    exact ⟨[], fun u m => absurd m (by simp), fun a m => absurd m (by simp)⟩
  | d :: ds, _, x, p, z => by
    obtain ⟨v, vs, rfl, x1, x2⟩ := well_cons x
    have q : plW d = true ∧ plWs ds = true := Bool.and_eq_true_iff.mp p
    obtain ⟨A, a1, a2⟩ := area_one d v x1 q.1 (z d (List.mem_cons_self ..))
    obtain ⟨B, b1, b2⟩ := area_all ds vs x2 q.2 fun e he => z e (List.mem_cons_of_mem _ he)
    have kA : ∀ b ∈ A, b ∈ A ++ B := fun b hb => List.mem_append.mpr (.inl hb)
    have kB : ∀ b ∈ B, b ∈ A ++ B := fun b hb => List.mem_append.mpr (.inr hb)
    refine ⟨A ++ B, fun u hu => ?_, fun b hb => ?_⟩
    · rcases List.mem_cons.mp hu with e | m
      · rw [e]
        exact a1.mono kA
      · exact (b1 u m).mono kB
    · rcases List.mem_append.mp hb with m | m
      · exact (a2 b m).mono kA
      · exact (b2 b m).mono kB
end
end
def hoOf (o : Obj) : Option HO := match o.data with
  | .seq vs _ => if (o.cls == Value.type "list") = true then some (.frz o (.lst (vs.toList.map toV))) else some (.frz o (.tup (vs.toList.map toV)))
  | _ => none
def argH (K : PySem.W.Frag) (h : Heap) (A : List Addr) : Hp := fun b => if b ∈ A then (if (K.lookup b).isNone = true then (h.get? b).bind hoOf else none) else none
def OnlyF (H : Hp) : Prop := ∀ b, H b = none ∨ ∃ o u, H b = some (.frz o u)
theorem hoOf_lst (vs : List Value) : hoOf { cls := .type "list", data := .seq vs.toArray } = some (.frz { cls := .type "list", data := .seq vs.toArray } (.lst (vs.map toV))) := by
  show (if (Value.type "list" == Value.type "list") = true then some (HO.frz { cls := .type "list", data := .seq vs.toArray } (.lst (vs.toArray.toList.map toV))) else some (HO.frz { cls := .type "list", data := .seq vs.toArray } (.tup (vs.toArray.toList.map toV)))) = _
  rw [if_pos (beq_self_eq_true _)]
theorem hoOf_tup (vs : List Value) : hoOf { cls := .type "tuple", data := .seq vs.toArray } = some (.frz { cls := .type "tuple", data := .seq vs.toArray } (.tup (vs.map toV))) := by
  show (if (Value.type "tuple" == Value.type "list") = true then some (HO.frz { cls := .type "tuple", data := .seq vs.toArray } (.lst (vs.toArray.toList.map toV))) else some (HO.frz { cls := .type "tuple", data := .seq vs.toArray } (.tup (vs.toArray.toList.map toV)))) = _
  rw [if_neg (by decide)]
section
variable {P : Program} {w : World} {K : PySem.W.Frag} {h : Heap} {A : List Addr}
theorem argH_at {b : Addr} {o : Obj} (hb : b ∈ A) (hk : K.lookup b = none) (e : h.get? b = some o) : argH K h A b = hoOf o := by
  unfold argH
  rw [if_pos hb, hk, if_pos (show (none : Option Obj).isNone = true from rfl), e] <;> rfl
theorem of_argH {b : Addr} {u : HO} (q : argH K h A b = some u) : b ∈ A ∧ K.lookup b = none := by
  unfold argH at q
  by_cases hb : b ∈ A
  · rw [if_pos hb] at q
    cases hk : K.lookup b with
    | none => exact ⟨hb, rfl⟩
    | some o =>
      rw [hk, if_neg (by simp)] at q
      cases q
  · rw [if_neg hb] at q
    cases q
theorem argH_is (ar : ∀ a ∈ A, ArgOb h A a) {b : Addr} {u : HO} (q : argH K h A b = some u) : K.lookup b = none ∧ ∃ vs : List Value, vs.length ≤ sizeLine ∧ (∀ u ∈ vs, OkU A u) ∧
    ((h.get? b = some { cls := .type "list", data := .seq vs.toArray } ∧ u = .frz { cls := .type "list", data := .seq vs.toArray } (.lst (vs.map toV))) ∨
     (h.get? b = some { cls := .type "tuple", data := .seq vs.toArray } ∧ u = .frz { cls := .type "tuple", data := .seq vs.toArray } (.tup (vs.map toV)))) := by
  obtain ⟨hb, hk⟩ := of_argH q
  obtain ⟨vs, h1, h2, h3⟩ := ar b hb
  refine ⟨hk, vs, h1, h2, ?_⟩
  rcases h3 with e | e
  · rw [argH_at hb hk e, hoOf_lst] at q
    exact .inl ⟨e, (Option.some.inj q).symm⟩
  · rw [argH_at hb hk e, hoOf_tup] at q
    exact .inr ⟨e, (Option.some.inj q).symm⟩
theorem argH_only (ar : ∀ a ∈ A, ArgOb h A a) : OnlyF (argH K h A) := fun b => by
  cases q : argH K h A b with
  | none => exact .inl rfl
  | some u =>
    obtain ⟨_, vs, _, _, ⟨_, e⟩ | ⟨_, e⟩⟩ := argH_is ar q
    · exact .inr ⟨_, _, by rw [e]⟩
    · exact .inr ⟨_, _, by rw [e]⟩
theorem argH_ok (ar : ∀ a ∈ A, ArgOb h A a) : HOk P w (argH K h A) h := fun b u q => by
  obtain ⟨_, vs, h1, h2, ⟨e, rfl⟩ | ⟨e, rfl⟩⟩ := argH_is ar q
  · exact ⟨e, by rw [List.length_map]; exact h1, vs, _, vals_toV h2, e⟩
  · exact ⟨e, by rw [List.length_map]; exact h1, vs, vals_toV h2, _, e, rfl, _, rfl⟩
theorem seq_inj {c c' : Value} {vs us : List Value} (e : (some { cls := c, data := .seq vs.toArray } : Option Obj) = some { cls := c', data := .seq us.toArray }) : c = c' ∧ vs = us := by
  have e1 := Option.some.inj e
  have e2 : c = c' := congrArg Obj.cls e1
  have e3 : Data.seq vs.toArray = Data.seq us.toArray := congrArg Obj.data e1
  injection e3 with e4
  refine ⟨e2, ?_⟩
  have e5 := congrArg Array.toList e4
  simpa using e5
theorem argL (KX : K.In h) (ar : ∀ a ∈ A, ArgOb h A a) {a : Addr} {vs : List Value} (ha : a ∈ A) (e : h.get? a = some { cls := .type "list", data := .seq vs.toArray }) : (∀ u ∈ vs, OkU A u) ∧ SqL K (argH K h A) a (vs.map toV) := by
  obtain ⟨us, h1, h2, h3⟩ := ar a ha
  have hu : us = vs := by
    rcases h3 with q | q
    · rw [e] at q
      exact (seq_inj q).2.symm
    · rw [e] at q
      exact absurd (Value.type.inj (seq_inj q).1) (by decide)
  subst hu
  refine ⟨h2, ?_⟩
  cases hk : K.lookup a with
  | none => exact .inl (.inr ⟨_, by rw [argH_at ha hk e, hoOf_lst]⟩)
  | some o =>
    have e2 := KX a o hk
    rw [e] at e2
    obtain rfl := Option.some.inj e2
    exact .inr ⟨_, us.toArray, _, hk, rfl, rfl, rfl, by rw [List.size_toArray]; exact h1, by simpa using vals_toV h2⟩
theorem argT (KX : K.In h) (ar : ∀ a ∈ A, ArgOb h A a) {a : Addr} {vs : List Value} (ha : a ∈ A) (e : h.get? a = some { cls := .type "tuple", data := .seq vs.toArray }) : (∀ u ∈ vs, OkU A u) ∧ SqT K (argH K h A) a (vs.map toV) := by
  obtain ⟨us, h1, h2, h3⟩ := ar a ha
  have hu : us = vs := by
    rcases h3 with q | q
    · rw [e] at q
      exact absurd (Value.type.inj (seq_inj q).1) (by decide)
    · rw [e] at q
      exact (seq_inj q).2.symm
  subst hu
  refine ⟨h2, ?_⟩
  cases hk : K.lookup a with
  | none => exact .inl (.inr ⟨_, by rw [argH_at ha hk e, hoOf_tup]⟩)
  | some o =>
    have e2 := KX a o hk
    rw [e] at e2
    obtain rfl := Option.some.inj e2
    exact .inr ⟨_, us.toArray, _, hk, rfl, rfl, by rw [List.size_toArray]; exact h1, by simpa using vals_toV h2⟩
mutual
theorem dw_one {Pm : Params} (KX : K.In h) (ar : ∀ a ∈ A, ArgOb h A a) : ∀ (d : WData) (v : Value), Well Pm h v d → plW d = true → OkU A v → Dw K (argH K h A) (toV v) d
  | .none, _, x, _, _ => by
    cases x
    exact .non
  | .bool b, _, x, _, _ => by
    cases x
    exact .bl b
  | .int i, _, x, _, _ => by
    cases x
    exact .int i
  | .str s, _, x, _, _ => by
    cases x
    exact .str s
  | .bytes b, _, x, _, _ => by
    cases x
    have z := Dw.byt (K := K) (H := argH K h A) b.toArray
    exact z
  | .list ds, _, x, p, hu => by
    obtain ⟨a, vs, rfl, ho, hall⟩ := well_list x
    obtain ⟨h2, hs⟩ := argL KX ar hu ho
    exact .lst hs (dw_all KX ar ds _ hall p h2)
  | .tuple ds, _, x, p, hu => by
    obtain ⟨a, vs, rfl, ho, hall⟩ := well_tuple x
    obtain ⟨h2, hs⟩ := argT KX ar hu ho
    exact .tup hs (dw_all KX ar ds _ hall p h2)
  | .float _, _, _, p, _ => Bool.noConfusion (show false = true from p)
  | .dict _, _, _, p, _ => Bool.noConfusion (show false = true from p)
  | .bytearray _, _, _, p, _ => Bool.noConfusion (show false = true from p)
  | .set _, _, _, p, _ => Bool.noConfusion (show false = true from p)
  | .frozenset _, _, _, p, _ => Bool.noConfusion (show false = true from p)
  | .obj _ _, _, _, p, _ => Bool.noConfusion (show false = true from p)
theorem dw_all {Pm : Params} (KX : K.In h) (ar : ∀ a ∈ A, ArgOb h A a) : ∀ (ds : List WData) (vs : List Value), WellAll Pm h vs ds → plWs ds = true → (∀ u ∈ vs, OkU A u) → DwAll K (argH K h A) (vs.map toV) ds
  | [], _, x, _, _ => by
    cases x
    exact .nil
  | d :: ds, _, x, p, hu => by
    obtain ⟨v, vs, rfl, x1, x2⟩ := well_cons x
    have q : plW d = true ∧ plWs ds = true := Bool.and_eq_true_iff.mp p
    exact .cons (dw_one KX ar d v x1 q.1 (hu _ (List.mem_cons_self ..))) (dw_all KX ar ds vs x2 q.2 fun u m => hu u (List.mem_cons_of_mem _ m))
end
end
theorem spec_call {P : Program} {w : World} {K : PySem.W.Frag} {mg mb : Str → Option Value} {CX : CXT} {k : Nat} {fa : Addr} {fd : FuncData} {ps : List Str} {sp : Sp} {s₁ : Shared} {vals : List Value} {ds : List WData} {R : PySem.W.WRecords} {cl : Str → Option Addr} {d0 : WData}
    (KX : K.In s₁.heap) (hns : s₁.heap.Ns mainGlobals mg) (hb : s₁.heap.Ns builtinsNs mb) (hbb : ∀ x : Str, x ≠ "__name__" → mb x = bootBuiltins x) (hlim : s₁.heap.NoLimit) (hg : s₁.gens = #[])
    (hwl : WellAll w.params s₁.heap vals ds) (hpl : plWs ds = true) (hwt : ∀ d ∈ ds, d.weight ≤ 1048576) (hr : Room k callerA)
    (F : ∀ base : Heap, K.In base → base.Ns mainGlobals mg → FnOk P w K mg base CX k fa fd ps sp) (hbind : ∀ (s : Shared) (us : List Value), us.length = ps.length → BindsTo s fd ⟨us, []⟩ (ps.zip us)) (hlen : ds.length = ps.length)
    (hsp : ∀ (H : Hp) (xs : List V), OnlyF H → DwAll K H xs ds → sp xs H (fun v H' => Dw K H' v d0) fun _ _ _ => False)
    (hCX : ∀ H e s', CX [] H s₁ (fun _ _ _ => False) e s' → False) :
    codeAny (model P w) callerA (.call (.ref fa) ⟨vals, []⟩) (fun r s' => ∃ u as, r = .ok (.ret u) ∧ ReadsW R cl s'.heap u d0 as ∧ OldK s₁.heap s'.heap ∧ s'.os = s₁.os ∧ AllBare s'.gens) s₁ := by
  obtain ⟨A, ho, ar⟩ := area_all ds vals hwl hpl hwt
  have hO : OnlyF (argH K s₁.heap A) := argH_only ar
  have hok : HOk P w (argH K s₁.heap A) s₁.heap := argH_ok ar
  have hS := dw_all KX ar ds vals hwl hpl ho
  have hV := vals_toV ho
  have hK : ∀ b u, argH K s₁.heap A b = some u → K.lookup b = none := fun b u q => (argH_is ar q).1
  have noA : ∀ {b : Addr} {o : Obj} {es : Array DictEntry} {ep : Nat}, s₁.heap.get? b = some o → o.data = .dict es ep → argH K s₁.heap A b = none := fun {b o es ep} e d => by
    cases q : argH K s₁.heap A b with
    | none => rfl
    | some u =>
      obtain ⟨_, vs, _, _, ⟨e2, _⟩ | ⟨e2, _⟩⟩ := argH_is ar q
      · rw [e2] at e
        cases e
        have d' : Data.seq vs.toArray _ = Data.dict es ep := d
        cases d'
      · rw [e2] at e
        cases e
        have d' : Data.seq vs.toArray _ = Data.dict es ep := d
        cases d'
  generalize argH K s₁.heap A = H at hO hok hS hK noA
  have base_of : ∀ {b : Addr} {o : Obj}, s₁.heap.get? b = some o → H b = none → (hidT s₁.heap H).get? b = some o := fun e n => hidT_get e n
  have nsK : ∀ {b : Addr} {m : Str → Option Value}, s₁.heap.Ns b m → (hidT s₁.heap H).Ns b m := fun {b m} ⟨o, es, ep, e, d, r⟩ => ⟨o, es, ep, base_of e (noA e d), d, r⟩
  have nK : ∀ b o, K.lookup b = some o → H b = none := fun b o e => by
    cases q : H b with
    | none => rfl
    | some u =>
      rw [hK b u q] at e
      cases e
  have hKb : K.In (hidT s₁.heap H) := fun b o e => base_of (KX b o e) (nK b o e)
  have hM : Mod K mg (hidT s₁.heap H) := ⟨hKb, nsK hns, ⟨mb, nsK hb, hbb⟩, let ⟨mc, h1, h2⟩ := hlim; ⟨mc, nsK h1, h2⟩⟩
  have e0 : Env0 P w K mg (hidT s₁.heap H) callerA [] s₁ H := ⟨rfl, hM, fun b o e => of_hidT e, Nat.le_of_eq (hidT_size _ _), trivial, fun b hb => absurd (show b ∈ ([] : List Addr) from hb) (by simp), hok, .of_eq hg⟩
  have hl : vals.length = ps.length := by rw [wellAll_len hwl]; exact hlen
  refine codeAny_mono ((F _ hKb (nsK hns)).run callerA [] s₁ H ⟨vals, []⟩ vals (vals.map toV) _ _ hr e0 (hbind s₁ vals hl) hV (hsp H _ hO hS)) fun r s' x => ?_
  cases r with
  | error e => exact (hCX H e s' x).elim
  | ok fl =>
    cases fl with
    | next => exact False.elim x
    | brk => exact False.elim x
    | cont => exact False.elim x
    | ret u =>
      obtain ⟨v, H', os, bare, un, hok', r', q⟩ := x
      have kept : ∀ b o, s₁.heap.get? b = some o → s'.heap.get? b = some o := fun b o e => by
        cases q2 : H b with
        | none => exact un.keep b o e q2 (by intro z; exact absurd (show b ∈ ([] : List Addr) from z) (by simp)) (by simp)
        | some u2 =>
          rcases hO b with z | ⟨ob, u3, z⟩
          · rw [q2] at z
            cases z
          · have z2 := un.frzs b ob _ z
            obtain ⟨e1, _⟩ := hok b _ z
            obtain ⟨e2, _⟩ := hok' b _ z2
            rw [e] at e1
            cases e1
            exact e2
      have KX' : K.In s'.heap := fun b o e => kept b o (KX b o e)
      obtain ⟨as, hrd⟩ := Dw.reads (R := R) (cl := cl) hok' KX' d0 v u q r'
      exact ⟨u, as, rfl, hrd, OldK.of_keep kept, os, bare⟩
theorem layable_weight {ds : List WData} (h : WData.layableAll ds = true) : ∀ d ∈ ds, d.weight ≤ 1048576 := fun d hd =>
  (PySem.W.layableW_iff.mp (List.all_eq_true.mp h d hd)).2.2
theorem encAll_len : ∀ (cs : List Codec) (a : Codec.denoteAll cs), (Codec.encAll cs a).length = cs.length
  | [], _ => rfl
  | c :: cs, a => by
    show (Codec.encAll cs a.2).length + 1 = cs.length + 1
    rw [encAll_len cs a.2]
theorem walk_spec {r : OpenSpec} {k : Nat} {q : Program} {loose : List Str} {XP : (Str → Option Value) → Heap → Prop} {YP : World → Heap → Prop} {d : DefRec} {K : Params → PySem.W.Frag} {CX : World → CXT} {ps : List Str} {sp : World → Sp}
    (hwell : r.wellSaid = true) (hdf : d.params.defaults = []) (hlen : r.args.length = ps.length) (hr : Room k callerA)
    (hY : ∀ (w : World) (h : Heap), YP w h → (K w.params).In h)
    (F : ∀ (w : World) (mg : Str → Option Value) (fa : Addr) (h : Heap), YP w h → (K w.params).In h → h.Ns mainGlobals mg → mg d.name = some (.ref fa) →
      ∃ fd : FuncData, (∀ (s : Shared) (us : List Value), us.length = ps.length → BindsTo s fd ⟨us, []⟩ (ps.zip us)) ∧
        ∀ base : Heap, (K w.params).In base → base.Ns mainGlobals mg → FnOk r.prog w (K w.params) mg base (CX w) k fa fd ps (sp w))
    (hsp : ∀ (w : World) (H : Hp) (xs : List V) (a : Codec.denoteAll r.args), OnlyF H → Codec.withinAll r.args a = true → Codec.app r.args r.asked a = true → DwAll (K w.params) H xs (Codec.encAll r.args a) →
      sp w xs H (fun v H' => Dw (K w.params) H' v (r.ret.enc (Codec.app r.args r.f a))) fun _ _ _ => False)
    (hCX : ∀ (w : World) (H : Hp) (s : Shared) (e : Value) (s' : Shared), CX w [] H s (fun _ _ _ => False) e s' → False) :
    PySem.W.WalkOS q loose XP YP r d [] (fun f vs => PySem.call f vs) := by
  intro w s_0 s₁ mg mb G Y fa o pm cd doc dV kV ho hd hcd hD hmg hg args vals as hpre hlay hrd hwl hlo
  obtain ⟨a, e1, e2⟩ := PySem.W.os_pre_some hpre
  obtain ⟨e3, hwi⟩ := Codec.encAll_of_decAll r.args args a e1
  subst e3
  have KX := hY w _ Y
  obtain ⟨fd, hb, hF⟩ := F w mg fa _ Y KX G.T.g hmg
  refine PySem.W.enter_call (codeAny_mono (spec_call (R := []) (cl := classAt s_0.heap) (d0 := r.ret.enc (Codec.app r.args r.f a)) KX G.T.g G.T.b G.T.builtins G.T.nolimit hg hwl (pl_encAll _ _) (layable_weight hlay) hr hF hb (by rw [encAll_len]; exact hlen)
    (fun H xs hO hS => hsp w H xs a hO hwi e2 hS) fun H e s' => hCX w H s₁ e s') fun r' s' hq => ?_)
  obtain ⟨u, as', rfl, h1, h2, h3, h4⟩ := hq
  exact ⟨.inl ⟨u, _, as', rfl, fun _ => rfl, h1, (OpenSpec.post_iff hwell hwi _ _).mpr rfl, fun z => Bool.noConfusion (show false = true from z)⟩, h2, h3, h4⟩
theorem walk_specK {r : OpenSpec} {k : Nat} {q : Program} {loose : List Str} {XP : (Str → Option Value) → Heap → Prop} {YP : World → Heap → Prop} {d : DefRec} {K : Params → PySem.W.Frag} {CX : CXT} {ps : List Str} {sp : PySem.W.Frag → Sp}
    (hwell : r.wellSaid = true) (hdf : d.params.defaults = []) (hlen : r.args.length = ps.length) (hr : Room k callerA)
    (hY : ∀ (w : World) (h : Heap), YP w h → (K w.params).In h)
    (F : ∀ (w : World) (mg : Str → Option Value) (fa : Addr) (h : Heap), YP w h → (K w.params).In h → h.Ns mainGlobals mg → mg d.name = some (.ref fa) →
      ∃ fd : FuncData, (∀ (s : Shared) (us : List Value), us.length = ps.length → BindsTo s fd ⟨us, []⟩ (ps.zip us)) ∧
        ∀ base : Heap, (K w.params).In base → base.Ns mainGlobals mg → FnOk r.prog w (K w.params) mg base CX k fa fd ps (sp (K w.params)))
    (hsp : ∀ (K : PySem.W.Frag) (H : Hp) (xs : List V) (a : Codec.denoteAll r.args), OnlyF H → Codec.withinAll r.args a = true → Codec.app r.args r.asked a = true → DwAll K H xs (Codec.encAll r.args a) →
      sp K xs H (fun v H' => Dw K H' v (r.ret.enc (Codec.app r.args r.f a))) fun _ _ _ => False)
    (hCX : ∀ (H : Hp) (s : Shared) (e : Value) (s' : Shared), CX [] H s (fun _ _ _ => False) e s' → False) :
    PySem.W.WalkOS q loose XP YP r d [] (fun f vs => PySem.call f vs) :=
  walk_spec (K := K) (CX := fun _ => CX) (sp := fun w => sp (K w.params)) hwell hdf hlen hr hY F (fun w H xs a h1 h2 h3 h4 => hsp (K w.params) H xs a h1 h2 h3 h4) fun _ H s e s' => hCX H s e s'
end L2


namespace Op
open Vbptam

def ok1 (t : Int) (c : Nat) (l : List Piece) (x : Piece) : Bool := stands t (l ++ [x]) c != stands t l c
def grow (t : Int) (c : Nat) : List Piece → List Piece → List Piece
  | l, [] => l
  | l, x :: r => grow t c (if ok1 t c l x = true then l ++ [x] else l) r
def flags (t : Int) (c : Nat) (l xs : List Piece) : List Bool := letIn t c l (xs.map fun x => (x, false))

theorem flags_nil (t : Int) (c : Nat) (l : List Piece) : flags t c l [] = [] := rfl
theorem flags_cons (t : Int) (c : Nat) (l : List Piece) (x : Piece) (r : List Piece) :
    flags t c l (x :: r) = ok1 t c l x :: flags t c (if ok1 t c l x = true then l ++ [x] else l) r := by
  show (let ok := false || stands t (l ++ [x]) c != stands t l c; ok :: letIn t c (if ok = true then l ++ [x] else l) (r.map fun x => (x, false))) = _
  simp only [Bool.false_or]
  rfl
theorem flags_length (t : Int) (c : Nat) : ∀ (xs l : List Piece), (flags t c l xs).length = xs.length
  | [], _ => rfl
  | x :: r, l => by rw [flags_cons, List.length_cons, List.length_cons, flags_length t c r]
theorem flags_snoc (t : Int) (c : Nat) (x : Piece) : ∀ (xs l : List Piece), flags t c l (xs ++ [x]) = flags t c l xs ++ [ok1 t c (grow t c l xs) x]
  | [], l => by
    show flags t c l [x] = [] ++ [ok1 t c l x]
    rw [flags_cons, flags_nil]
    rfl
  | y :: r, l => by
    show flags t c l (y :: (r ++ [x])) = _
    rw [flags_cons, flags_snoc t c x r, flags_cons]
    rfl

theorem chosen_cons (x : Piece) (l : List Piece) (k : Bool) (b : List Bool) : chosen (x :: l) (k :: b) = (if k = true then x :: chosen l b else chosen l b) := by
  unfold chosen
  rw [List.zip_cons_cons, List.filter_cons]
  cases k <;> rfl
theorem chosen_append : ∀ (a b : List Piece) (fa fb : List Bool), a.length = fa.length → chosen (a ++ b) (fa ++ fb) = chosen a fa ++ chosen b fb
  | [], b, [], fb, _ => rfl
  | x :: a, b, k :: fa, fb, h => by
    have h' : a.length = fa.length := by simpa using h
    show chosen (x :: (a ++ b)) (k :: (fa ++ fb)) = _
    rw [chosen_cons, chosen_cons, chosen_append a b fa fb h']
    cases k <;> rfl
theorem chosen_all : ∀ l : List Piece, chosen l (List.replicate l.length true) = l
  | [] => rfl
  | x :: l => by
    show chosen (x :: l) (true :: List.replicate l.length true) = x :: l
    rw [chosen_cons, chosen_all l, if_pos rfl]
theorem chosen_flags (t : Int) (c : Nat) : ∀ (xs l : List Piece), l ++ chosen xs (flags t c l xs) = grow t c l xs
  | [], l => by
    show l ++ [] = l
    exact List.append_nil l
  | x :: r, l => by
    rw [flags_cons, chosen_cons]
    show _ = grow t c (if ok1 t c l x = true then l ++ [x] else l) r
    rw [← chosen_flags t c r]
    cases h : ok1 t c l x
    · rfl
    · rw [if_pos rfl, if_pos rfl, List.append_assoc]
      rfl

def inT (s : State) : List Piece := s.pieces.filter fun x => !x.late
def lates (s : State) : List Piece := s.pieces.filter fun x => x.late

theorem early_fold : ∀ (xs : List Piece) (acc b : List Bool), (∀ x ∈ xs, x.late = true) → b.length = xs.length →
    (xs.foldl (fun (r : List Bool × List Bool) x => if x.late = true then (r.1 ++ [r.2.headD false], r.2.drop 1) else (r.1 ++ [true], r.2)) (acc, b)).1 = acc ++ b
  | [], acc, [], _, _ => by simp
  | x :: xs, acc, k :: b, h, hl => by
    rw [List.foldl_cons, if_pos (h x (List.mem_cons_self ..))]
    rw [early_fold xs _ _ (fun y hy => h y (List.mem_cons_of_mem _ hy)) (by simpa using hl)]
    simp
theorem early_fold0 : ∀ (xs : List Piece) (acc b : List Bool), (∀ x ∈ xs, x.late = false) →
    (xs.foldl (fun (r : List Bool × List Bool) x => if x.late = true then (r.1 ++ [r.2.headD false], r.2.drop 1) else (r.1 ++ [true], r.2)) (acc, b)) = (acc ++ List.replicate xs.length true, b)
  | [], acc, b, _ => by simp
  | x :: xs, acc, b, h => by
    rw [List.foldl_cons, if_neg (by rw [h x (List.mem_cons_self ..)]; decide)]
    rw [early_fold0 xs _ _ (fun y hy => h y (List.mem_cons_of_mem _ hy))]
    simp [List.replicate_succ]

def Sorted (s : State) : Prop := s.pieces = inT s ++ lates s
theorem early_eq {s : State} (h : Sorted s) (c : Nat) : early s c = List.replicate (inT s).length true ++ flags s.bar c (inT s) (lates s) := by
  have e : early s c = (s.pieces.foldl (fun (r : List Bool × List Bool) x => if x.late = true then (r.1 ++ [r.2.headD false], r.2.drop 1) else (r.1 ++ [true], r.2)) ([], flags s.bar c (inT s) (lates s))).1 := rfl
  rw [e]
  have e2 : s.pieces = inT s ++ lates s := h
  rw [congrArg (fun l => (List.foldl (fun (r : List Bool × List Bool) (x : Piece) => if x.late = true then (r.1 ++ [r.2.headD false], r.2.drop 1) else (r.1 ++ [true], r.2)) ([], flags s.bar c (inT s) (lates s)) l).1) e2]
  rw [List.foldl_append, early_fold0 (inT s) _ _ (fun x hx => by
    have := (List.mem_filter.mp hx).2
    simpa using this)]
  rw [early_fold (lates s) _ _ (fun x hx => (List.mem_filter.mp hx).2) (flags_length ..)]
  simp
theorem early_length {s : State} (h : Sorted s) (c : Nat) : (early s c).length = s.pieces.length := by
  have e : s.pieces = inT s ++ lates s := h
  rw [early_eq h, congrArg List.length e]
  simp [flags_length]
theorem counting_early {s : State} (h : Sorted s) (hp : s.phase ≤ 1) (c : Nat) : counting s c = grow s.bar c (inT s) (lates s) := by
  have e2 : s.pieces = inT s ++ lates s := h
  unfold counting let_
  rw [if_pos hp, early_eq h, congrArg (fun l => chosen l (List.replicate (inT s).length true ++ flags s.bar c (inT s) (lates s))) e2,
    chosen_append _ _ _ _ (by simp), chosen_all, chosen_flags]

def wasB (s : State) (c : Nat) : List Bool := s.taken.getD c []
theorem later_eq (s : State) (c : Nat) : later s c = wasB s c ++ flags s.bar c (chosen (s.pieces.take (wasB s c).length) (wasB s c)) (s.pieces.drop (wasB s c).length) := rfl
theorem later_length {s : State} {c : Nat} (hl : (wasB s c).length ≤ s.pieces.length) : (later s c).length = s.pieces.length := by
  rw [later_eq]
  simp [flags_length]
  omega
theorem counting_later {s : State} {c : Nat} (hp : ¬ s.phase ≤ 1) (hl : (wasB s c).length ≤ s.pieces.length) :
    counting s c = grow s.bar c (chosen (s.pieces.take (wasB s c).length) (wasB s c)) (s.pieces.drop (wasB s c).length) := by
  unfold counting let_
  rw [if_neg hp, later_eq]
  have e : s.pieces = s.pieces.take (wasB s c).length ++ s.pieces.drop (wasB s c).length := (List.take_append_drop _ _).symm
  rw [congrArg (fun l => chosen l (wasB s c ++ flags s.bar c (chosen (s.pieces.take (wasB s c).length) (wasB s c)) (s.pieces.drop (wasB s c).length))) e]
  rw [chosen_append _ _ _ _ (by rw [List.length_take]; omega), chosen_flags]

def weigh (t : Int) (c : Nat) (l : List Piece) (x : Piece) : List Piece := if x.late = true ∧ ok1 t c l x = false then l else l ++ [x]
def taken1 (t : Int) (c : Nat) (l : List Piece) (x : Piece) : Bool := !(x.late && !(ok1 t c l x))
theorem weigh_late {t : Int} {c : Nat} {l : List Piece} {x : Piece} (h : x.late = true) : weigh t c l x = if ok1 t c l x = true then l ++ [x] else l := by
  unfold weigh
  cases e : ok1 t c l x <;> simp [h]
theorem weigh_inT {t : Int} {c : Nat} {l : List Piece} {x : Piece} (h : x.late = false) : weigh t c l x = l ++ [x] := by
  unfold weigh
  simp [h]

structure SInv (s : State) : Prop where
  n6 : s.n ≤ 6
  srt : s.phase ≤ 1 → Sorted s
  nol : s.phase ≤ 1 → s.day ≤ s.limit → ∀ x ∈ s.pieces, x.late = false
  beh : ¬ s.phase ≤ 1 → s.limit < s.day
  tkl : ¬ s.phase ≤ 1 → s.taken.length = s.n
  tkp : ¬ s.phase ≤ 1 → ∀ c, (wasB s c).length ≤ s.pieces.length
  pl : s.pieces.length ≤ 24

theorem let_length {s : State} (I : SInv s) (c : Nat) : (let_ s c).length = s.pieces.length := by
  unfold let_
  by_cases h : s.phase ≤ 1
  · rw [if_pos h]; exact early_length (I.srt h) c
  · rw [if_neg h]; exact later_length (I.tkp h c)

def more (s : State) (x : Piece) : State := { s with pieces := s.pieces ++ [x] }
theorem inT_more {s : State} {x : Piece} : inT (more s x) = inT s ++ (if x.late = true then [] else [x]) := by
  unfold inT more
  rw [List.filter_append]
  cases h : x.late <;> simp [h]
theorem lates_more {s : State} {x : Piece} : lates (more s x) = lates s ++ (if x.late = true then [x] else []) := by
  unfold lates more
  rw [List.filter_append]
  cases h : x.late <;> simp [h]
theorem lates_nil {s : State} (h : ∀ x ∈ s.pieces, x.late = false) : lates s = [] := by
  unfold lates
  rw [List.filter_eq_nil_iff]
  intro x hx
  rw [h x hx]
  decide
theorem sorted_more {s : State} {x : Piece} (h : Sorted s) (hx : x.late = false → ∀ y ∈ s.pieces, y.late = false) : Sorted (more s x) := by
  unfold Sorted
  rw [inT_more, lates_more]
  have e : s.pieces = inT s ++ lates s := h
  show s.pieces ++ [x] = _
  cases k : x.late
  · rw [lates_nil (hx k)] at e ⊢
    rw [if_neg (by decide), if_neg (by decide), List.append_nil] 
    rw [List.append_nil] at e
    rw [e]
    simp
  · rw [if_pos rfl, if_pos rfl, e]
    simp

theorem SInv.more {s : State} (I : SInv s) {x : Piece} (hl : x.late = (decide (s.limit < s.day) || decide (1 < s.phase))) (h24 : s.pieces.length < 24) : SInv (more s x) where
  n6 := I.n6
  srt := fun h => sorted_more (I.srt h) fun k => I.nol h (by
    rw [k] at hl
    have := hl.symm
    rw [Bool.or_eq_false_iff] at this
    have := of_decide_eq_false this.1
    omega)
  nol := fun h hd y hy => by
    have hy' : y ∈ s.pieces ++ [x] := hy
    rw [List.mem_append, List.mem_singleton] at hy'
    rcases hy' with hy' | rfl
    · exact I.nol h hd y hy'
    · rw [hl]
      have h' : s.phase ≤ 1 := h
      have hd' : s.day ≤ s.limit := hd
      rw [decide_eq_false (by omega), decide_eq_false (by omega)]
      rfl
  beh := I.beh
  tkl := I.tkl
  tkp := fun h c => by
    have := I.tkp h c
    show (wasB s c).length ≤ (s.pieces ++ [x]).length
    rw [List.length_append]
    omega
  pl := by
    show (s.pieces ++ [x]).length ≤ 24
    rw [List.length_append]
    simp only [List.length_cons, List.length_nil]
    omega

theorem let_more {s : State} (I : SInv s) {x : Piece} (hl : x.late = (decide (s.limit < s.day) || decide (1 < s.phase))) (h24 : s.pieces.length < 24) (c : Nat) :
    let_ (more s x) c = let_ s c ++ [taken1 s.bar c (counting s c) x] := by
  have I' := I.more hl h24
  unfold taken1
  by_cases h : s.phase ≤ 1
  · have h' : (more s x).phase ≤ 1 := h
    rw [counting_early (I.srt h) h]
    unfold let_
    rw [if_pos h, if_pos h', early_eq (I'.srt h'), early_eq (I.srt h)]
    show List.replicate (inT (more s x)).length true ++ flags s.bar c (inT (more s x)) (lates (more s x)) = _
    rw [inT_more, lates_more]
    cases k : x.late
    · have hn : ∀ y ∈ s.pieces, y.late = false := I.nol h (by
        rw [k] at hl
        have := hl.symm
        rw [Bool.or_eq_false_iff] at this
        have := of_decide_eq_false this.1
        omega)
      rw [lates_nil hn, if_neg (by decide), if_neg (by decide)]
      simp [flags_nil, List.replicate_succ']
    · rw [if_pos rfl, if_pos rfl, List.append_nil, flags_snoc]
      simp
  · have h' : ¬ (more s x).phase ≤ 1 := h
    have k : x.late = true := by
      rw [hl, decide_eq_true (p := 1 < s.phase) (by omega), Bool.or_true]
    rw [counting_later h (I.tkp h c)]
    unfold let_
    rw [if_neg h, if_neg h', later_eq, later_eq]
    have hb := I.tkp h c
    show wasB s c ++ flags s.bar c (chosen ((s.pieces ++ [x]).take (wasB s c).length) (wasB s c)) ((s.pieces ++ [x]).drop (wasB s c).length) = _
    rw [List.take_append_of_le_length hb, List.drop_append_of_le_length hb, flags_snoc, k]
    simp

def decided (s : State) (m w : Nat) : State := { s with phase := 2, first := m, which := w, decided := s.day, taken := (List.range s.n).map (let_ s) }
theorem wasB_decided {s : State} {m w c : Nat} (hc : c < s.n) : wasB (decided s m w) c = let_ s c := by
  unfold wasB decided
  simp [List.getD, hc]
theorem let_decided {s : State} (I : SInv s) {m w c : Nat} (hc : c < s.n) : let_ (decided s m w) c = let_ s c := by
  have e : let_ (decided s m w) c = later (decided s m w) c := by
    unfold let_
    rw [if_neg (by show ¬ (2 ≤ 1); decide)]
  rw [e, later_eq, wasB_decided hc]
  have : (decided s m w).pieces.drop (let_ s c).length = [] := by
    rw [let_length I c]
    show s.pieces.drop s.pieces.length = []
    exact List.drop_length ..
  rw [this, flags_nil, List.append_nil]
theorem SInv.decided {s : State} (I : SInv s) (hd : s.limit < s.day) (m w : Nat) : SInv (decided s m w) where
  n6 := I.n6
  srt := fun h => absurd (show 2 ≤ 1 from h) (by decide)
  nol := fun h => absurd (show 2 ≤ 1 from h) (by decide)
  beh := fun _ => hd
  tkl := fun _ => by
    show ((List.range s.n).map (let_ s)).length = s.n
    simp
  tkp := fun _ c => by
    by_cases hc : c < s.n
    · rw [wasB_decided hc, let_length I c]
      exact Nat.le_refl _
    · have : wasB (Op.decided s m w) c = [] := by
        unfold wasB Op.decided
        simp [List.getD, hc]
      rw [this]
      exact Nat.zero_le _
  pl := I.pl
end Op


namespace Op
open Vbptam

theorem six (p : Nat → Bool) : (List.range 6).filter p = (if p 0 then [0] else []) ++ (if p 1 then [1] else []) ++ (if p 2 then [2] else []) ++ (if p 3 then [3] else []) ++ (if p 4 then [4] else []) ++ (if p 5 then [5] else []) := by
  show [0, 1, 2, 3, 4, 5].filter p = _
  simp only [List.filter_cons, List.filter_nil]
  cases p 0 <;> cases p 1 <;> cases p 2 <;> cases p 3 <;> cases p 4 <;> cases p 5 <;> rfl

def bits (b0 b1 b2 b3 b4 b5 : Bool) : Nat := b0.toNat + 2 * b1.toNat + 4 * b2.toNat + 8 * b3.toNat + 16 * b4.toNat + 32 * b5.toNat
theorem maskOf_bits (l : List Nat) : maskOf l = bits (l.contains 0) (l.contains 1) (l.contains 2) (l.contains 3) (l.contains 4) (l.contains 5) := by
  unfold maskOf CLAIMS
  rw [six fun c => l.contains c]
  cases l.contains 0 <;> cases l.contains 1 <;> cases l.contains 2 <;> cases l.contains 3 <;> cases l.contains 4 <;> cases l.contains 5 <;> rfl
theorem bits_lt : ∀ (b0 b1 b2 b3 b4 b5 : Bool), bits b0 b1 b2 b3 b4 b5 < 64 := by decide
theorem maskOf_lt (l : List Nat) : maskOf l < 64 := by rw [maskOf_bits]; exact bits_lt ..
theorem bits_tb : ∀ (b0 b1 b2 b3 b4 b5 : Bool), (bits b0 b1 b2 b3 b4 b5).testBit 0 = b0 ∧ (bits b0 b1 b2 b3 b4 b5).testBit 1 = b1 ∧ (bits b0 b1 b2 b3 b4 b5).testBit 2 = b2 ∧ (bits b0 b1 b2 b3 b4 b5).testBit 3 = b3 ∧ (bits b0 b1 b2 b3 b4 b5).testBit 4 = b4 ∧ (bits b0 b1 b2 b3 b4 b5).testBit 5 = b5 := by decide +kernel
theorem maskOf_testBit (l : List Nat) {c : Nat} (hc : c < 6) : (maskOf l).testBit c = l.contains c := by
  rw [maskOf_bits]
  have h := bits_tb (l.contains 0) (l.contains 1) (l.contains 2) (l.contains 3) (l.contains 4) (l.contains 5)
  match c, hc with
  | 0, _ => exact h.1
  | 1, _ => exact h.2.1
  | 2, _ => exact h.2.2.1
  | 3, _ => exact h.2.2.2.1
  | 4, _ => exact h.2.2.2.2.1
  | 5, _ => exact h.2.2.2.2.2
theorem mask_ext {a b : Nat} (ha : a < 64) (hb : b < 64) (h : ∀ c, c < 6 → a.testBit c = b.testBit c) : a = b := by
  apply Nat.eq_of_testBit_eq
  intro c
  by_cases hc : c < 6
  · exact h c hc
  · rw [Nat.testBit_lt_two_pow (Nat.lt_of_lt_of_le ha (Nat.pow_le_pow_right (n := 2) (by decide) (show 6 ≤ c by omega))), Nat.testBit_lt_two_pow (Nat.lt_of_lt_of_le hb (Nat.pow_le_pow_right (n := 2) (by decide) (show 6 ≤ c by omega)))]
theorem mem_claims {m c : Nat} : c ∈ claims m ↔ c < 6 ∧ m.testBit c = true := by
  unfold claims CLAIMS
  rw [List.mem_filter, List.mem_range]
theorem less_testBit {a b c : Nat} (hc : c < 6) : (less a b).testBit c = (a.testBit c && !b.testBit c) := by
  unfold less
  rw [maskOf_testBit _ hc, Bool.eq_iff_iff, List.contains_iff_mem, List.mem_filter, mem_claims]
  simp [hc]
theorem both_testBit {a b c : Nat} (hc : c < 6) : (both a b).testBit c = (a.testBit c && b.testBit c) := by
  unfold both
  rw [maskOf_testBit _ hc, Bool.eq_iff_iff, List.contains_iff_mem, List.mem_filter, mem_claims]
  simp [hc]
theorem either_testBit {a b c : Nat} (hc : c < 6) : (either a b).testBit c = (a.testBit c || b.testBit c) := by
  unfold either
  rw [maskOf_testBit _ hc, Bool.eq_iff_iff, List.contains_iff_mem, List.mem_append, mem_claims, mem_claims]
  simp [hc]
theorem named_testBit {s : State} {own : Bool} {c : Nat} (hc : c < 6) : (named s own).testBit c = s.appeals.any fun a => ((a.1 == 3) == own) && a.2.testBit c := by
  unfold named
  rw [maskOf_testBit _ hc, Bool.eq_iff_iff, List.contains_iff_mem, List.mem_flatMap, List.any_eq_true]
  constructor
  · rintro ⟨a, ha, hm⟩
    rw [List.mem_filter] at ha
    rw [mem_claims] at hm
    exact ⟨a, ha.1, by rw [ha.2, hm.2]; rfl⟩
  · rintro ⟨a, ha, hm⟩
    rw [Bool.and_eq_true] at hm
    exact ⟨a, List.mem_filter.mpr ⟨ha, hm.1⟩, mem_claims.mpr ⟨hc, hm.2⟩⟩
theorem within_iff : ∀ m : Nat, m < 64 → ∀ a : Nat, a < 64 → within_ m a = decide ((m &&& a : Nat) = m) := by decide +kernel
theorem without_bits : ∀ x < 64, ∀ y < 64, x - (x &&& y) < 64 ∧ ∀ c < 6, (x - (x &&& y)).testBit c = (x.testBit c && !y.testBit c) := by decide +kernel

def stepOut (st x : Nat) (a : Nat × Mask) : Nat := if a.1 = 3 then x ||| (a.2 &&& st) else x - (x &&& (a.2 - (a.2 &&& st)))
theorem stepOut_lt {st x : Nat} {a : Nat × Mask} (hs : st < 64) (hx : x < 64) (ha : a.2 < 64) : stepOut st x a < 64 := by
  unfold stepOut
  split
  · exact Nat.or_lt_two_pow (n := 6) hx (Nat.and_lt_two_pow _ hs)
  · exact (without_bits x hx _ (without_bits _ ha st hs).1).1
theorem stepOut_bit {st x : Nat} {a : Nat × Mask} (hs : st < 64) (hx : x < 64) (ha : a.2 < 64) {c : Nat} (hc : c < 6) :
    (stepOut st x a).testBit c = if a.1 = 3 then x.testBit c || (a.2.testBit c && st.testBit c) else x.testBit c && !(a.2.testBit c && !st.testBit c) := by
  unfold stepOut
  split
  · rw [Nat.testBit_or, Nat.testBit_and]
  · rw [(without_bits x hx _ (without_bits _ ha st hs).1).2 c hc, (without_bits _ ha st hs).2 c hc]
theorem foldOut_lt {st : Nat} (hs : st < 64) : ∀ (l : List (Nat × Mask)) (x : Nat), x < 64 → (∀ a ∈ l, a.2 < 64) → l.foldl (stepOut st) x < 64
  | [], x, hx, _ => hx
  | a :: l, x, hx, h => foldOut_lt hs l _ (stepOut_lt hs hx (h a (List.mem_cons_self ..))) fun b hb => h b (List.mem_cons_of_mem _ hb)
theorem foldOut_bit {st : Nat} (hs : st < 64) {c : Nat} (hc : c < 6) : ∀ (l : List (Nat × Mask)) (x : Nat), x < 64 → (∀ a ∈ l, a.2 < 64) →
    (l.foldl (stepOut st) x).testBit c = if st.testBit c = true then x.testBit c || l.any (fun a => (a.1 == 3) && a.2.testBit c) else x.testBit c && !l.any fun a => (!(a.1 == 3)) && a.2.testBit c
  | [], x, hx, _ => by simp
  | a :: l, x, hx, h => by
    rw [List.foldl_cons, foldOut_bit hs hc l _ (stepOut_lt hs hx (h a (List.mem_cons_self ..))) fun b hb => h b (List.mem_cons_of_mem _ hb)]
    rw [stepOut_bit hs hx (h a (List.mem_cons_self ..)) hc, List.any_cons, List.any_cons]
    have e : (a.1 == 3) = decide (a.1 = 3) := by
      by_cases k : a.1 = 3 <;> simp [k]
    rw [e]
    generalize l.any (fun a => (a.1 == 3) && a.2.testBit c) = u
    generalize l.any (fun a => (!(a.1 == 3)) && a.2.testBit c) = v
    by_cases k : a.1 = 3
    · simp only [k, if_true, decide_true]
      generalize st.testBit c = p
      generalize x.testBit c = q
      generalize a.2.testBit c = r
      revert p q r u v; decide
    · simp only [k, if_false, decide_false]
      generalize st.testBit c = p
      generalize x.testBit c = q
      generalize a.2.testBit c = r
      revert p q r u v; decide
theorem alive_lt (s : State) : alive s < 64 := maskOf_lt _
theorem outcome_lt (s : State) : outcome s < 64 := maskOf_lt _
theorem outcome_eq {s : State} (hf : s.first < 64) (ha : ∀ a ∈ s.appeals, a.2 < 64) : s.appeals.foldl (stepOut (alive s)) s.first = outcome s := by
  apply mask_ext (foldOut_lt (alive_lt s) _ _ hf ha) (outcome_lt s)
  intro c hc
  rw [foldOut_bit (alive_lt s) hc _ _ hf ha]
  unfold outcome
  rw [either_testBit hc, less_testBit hc, less_testBit hc, both_testBit hc, named_testBit hc, named_testBit hc]
  have e1 : (s.appeals.any fun a => ((a.1 == 3) == true) && a.2.testBit c) = s.appeals.any fun a => (a.1 == 3) && a.2.testBit c := by
    congr 1; funext a; cases (a.1 == 3) <;> rfl
  have e2 : (s.appeals.any fun a => ((a.1 == 3) == false) && a.2.testBit c) = s.appeals.any fun a => (!(a.1 == 3)) && a.2.testBit c := by
    congr 1; funext a; cases (a.1 == 3) <;> rfl
  rw [e1, e2]
  generalize s.appeals.any (fun a => (a.1 == 3) && a.2.testBit c) = u
  generalize s.appeals.any (fun a => (!(a.1 == 3)) && a.2.testBit c) = v
  generalize s.first.testBit c = p
  generalize (alive s).testBit c = q
  revert u v p q; decide

theorem filter_range_contains {n : Nat} {p : Nat → Bool} {c : Nat} : ((List.range n).filter p).contains c = (decide (c < n) && p c) := by
  rw [Bool.eq_iff_iff, List.contains_iff_mem, List.mem_filter, List.mem_range, Bool.and_eq_true, decide_eq_true_iff]
theorem sum_small : ∀ n ≤ 6, ∀ (b0 b1 b2 b3 b4 b5 : Bool), (((List.range n).filter fun c => [b0, b1, b2, b3, b4, b5].getD c false).map fun c => 2 ^ c).sum = bits (decide (0 < n) && b0) (decide (1 < n) && b1) (decide (2 < n) && b2) (decide (3 < n) && b3) (decide (4 < n) && b4) (decide (5 < n) && b5) := by decide +kernel
theorem maskOf_sum {n : Nat} (hn : n ≤ 6) (p : Nat → Bool) : maskOf ((List.range n).filter p) = (((List.range n).filter p).map fun c => 2 ^ c).sum := by
  have e : (List.range n).filter p = (List.range n).filter fun c => [p 0, p 1, p 2, p 3, p 4, p 5].getD c false := by
    apply List.filter_congr
    intro c hc
    have hc := List.mem_range.mp hc
    match c, (show c < 6 by omega) with
    | 0, _ => rfl
    | 1, _ => rfl
    | 2, _ => rfl
    | 3, _ => rfl
    | 4, _ => rfl
    | 5, _ => rfl
  rw [maskOf_bits]
  simp only [filter_range_contains]
  rw [e, sum_small n hn]
theorem full_eq : ∀ n ≤ 6, maskOf (List.range n) = 2 ^ n - 1 := by decide +kernel

def findReq (a : Nat) : List Mask → Nat
  | [] => 0
  | r :: l => if within_ r a = true then 0 else findReq a l + 1
theorem find_range : ∀ (l : List Mask) (a : Nat), (List.range l.length).find? (fun i => within_ (l.getD i 0) a) = if findReq a l < l.length then some (findReq a l) else none := by
  intro l a
  induction l with
  | nil => rfl
  | cons r l ih =>
    rw [List.length_cons, List.range_succ_eq_map, List.find?_cons]
    show (match within_ r a with | true => some 0 | false => List.find? (fun i => within_ ((r :: l).getD i 0) a) ((List.range l.length).map Nat.succ)) = _
    cases h : within_ r a
    · simp only [findReq, h]
      rw [List.find?_map]
      have : ((fun i => within_ ((r :: l).getD i 0) a) ∘ Nat.succ) = fun i => within_ (l.getD i 0) a := by
        funext i; rfl
      rw [this, ih]
      by_cases k : findReq a l < l.length
      · simp [k]
      · simp [k]
    · simp [findReq, h]
theorem findReq_le (a : Nat) : ∀ l : List Mask, findReq a l ≤ l.length
  | [] => Nat.le_refl _
  | r :: l => by
    unfold findReq
    split
    · exact Nat.zero_le _
    · have := findReq_le a l
      rw [List.length_cons]
      omega
theorem granted_eq (s : State) : granted s = (if findReq (alive s) s.requests < s.requests.length then s.requests.getD (findReq (alive s) s.requests) 0 else 0, findReq (alive s) s.requests) := by
  unfold granted
  rw [find_range]
  by_cases k : findReq (alive s) s.requests < s.requests.length
  · simp only [k, if_true]
  · have := findReq_le (alive s) s.requests
    have e : findReq (alive s) s.requests = s.requests.length := by omega
    simp only [k, if_false]
    rw [e]

theorem foldl_add (l : List Int) : ∀ a : Int, l.foldl (fun a b => a + b) a = a + l.sum := by
  induction l with
  | nil => intro a; simp
  | cons x l ih =>
    intro a
    rw [List.foldl_cons, ih, List.sum_cons]
    omega
theorem sumFor_sum (l : List Piece) (f : Nat) : sumFor l f = (l.map (weightIn f)).sum := by
  unfold sumFor
  rw [foldl_add]
  omega
theorem sumFor_snoc (l : List Piece) (x : Piece) (f : Nat) : sumFor (l ++ [x]) f = sumFor l f + weightIn f x := by
  rw [sumFor_sum, sumFor_sum, List.map_append, List.sum_append]
  simp
def table (l : List Piece) : List Int := (List.range 8).map (sumFor l)
theorem table_length (l : List Piece) : (table l).length = 8 := rfl
theorem table_at (l : List Piece) {f : Nat} (h : f < 8) : (table l)[f]? = some (sumFor l f) := by
  unfold table
  simp [h]
theorem table_attack {l : List Piece} {x : Piece} {c : Nat} {fs : List Nat} (h : x.what = .attack c fs) : table (l ++ [x]) = table l := by
  unfold table
  apply List.map_congr_left
  intro f _
  rw [sumFor_snoc]
  unfold weightIn
  rw [h]
  exact Int.add_zero _
def addW (sup : List Int) (y : Nat × Int) : List Int := sup.set y.1 (sup.getD y.1 0 + y.2)
theorem addW_length (sup : List Int) (y : Nat × Int) : (addW sup y).length = sup.length := by simp [addW]
theorem addW_at {sup : List Int} {y : Nat × Int} {f : Nat} (h : f < sup.length) (hy : y.1 < sup.length) : (addW sup y)[f]? = some (sup.getD f 0 + if y.1 = f then y.2 else 0) := by
  unfold addW
  by_cases k : y.1 = f
  · subst k
    rw [List.getElem?_set_self hy, if_pos rfl]
  · rw [List.getElem?_set_ne k, if_neg k, List.getD_eq_getElem?_getD, List.getElem?_eq_getElem h]
    simp
theorem foldW (w : List (Nat × Int)) : ∀ (sup : List Int), (∀ y ∈ w, y.1 < sup.length) → (w.foldl addW sup).length = sup.length ∧ ∀ f, f < sup.length → (w.foldl addW sup)[f]? = some (sup.getD f 0 + (w.map fun y => if y.1 = f then y.2 else 0).sum) := by
  induction w with
  | nil =>
    intro sup _
    refine ⟨rfl, fun f hf => ?_⟩
    rw [List.getD_eq_getElem?_getD, List.foldl_nil, List.getElem?_eq_getElem hf]
    simp
  | cons y w ih =>
    intro sup h
    have hy := h y (List.mem_cons_self ..)
    have h2 := ih (addW sup y) fun z hz => by rw [addW_length]; exact h z (List.mem_cons_of_mem _ hz)
    rw [addW_length] at h2
    refine ⟨h2.1, fun f hf => ?_⟩
    rw [List.foldl_cons, h2.2 f hf, List.getD_eq_getElem?_getD, addW_at hf hy, List.map_cons, List.sum_cons]
    simp only [Option.getD_some]
    congr 1
    omega
theorem table_proof {l : List Piece} {x : Piece} {w : List (Nat × Int)} (h : x.what = .proof w) (hw : ∀ y ∈ w, y.1 < 8) : w.foldl addW (table l) = table (l ++ [x]) := by
  obtain ⟨h1, h2⟩ := foldW w (table l) hw
  apply List.ext_getElem?
  intro f
  by_cases hf : f < 8
  · rw [h2 f hf, table_at _ hf, sumFor_snoc, List.getD_eq_getElem?_getD, table_at _ hf]
    unfold weightIn
    rw [h]
    simp only [Option.getD_some]
    rw [foldl_add]
    congr 1
    omega
  · rw [List.getElem?_eq_none_iff.mpr (by rw [h1]; exact Nat.le_of_not_lt hf), List.getElem?_eq_none_iff.mpr (by rw [table_length]; omega)]
end Op


namespace Op
open Vbptam

abbrev NP := Nat × Piece
def snds (l : List NP) : List Piece := l.map (·.2)
theorem snds_append (a b : List NP) : snds (a ++ b) = snds a ++ snds b := List.map_append ..
def numb : Nat → List Piece → List NP
  | _, [] => []
  | k, x :: l => (k, x) :: numb (k + 1) l
theorem numb_length : ∀ (l : List Piece) (k : Nat), (numb k l).length = l.length
  | [], _ => rfl
  | x :: l, k => by rw [numb, List.length_cons, List.length_cons, numb_length l]
theorem numb_snds : ∀ (l : List Piece) (k : Nat), snds (numb k l) = l
  | [], _ => rfl
  | x :: l, k => by
    show x :: snds (numb (k + 1) l) = x :: l
    rw [numb_snds l]
theorem numb_append : ∀ (a b : List Piece) (k : Nat), numb k (a ++ b) = numb k a ++ numb (k + a.length) b
  | [], b, k => rfl
  | x :: a, b, k => by
    show (k, x) :: numb (k + 1) (a ++ b) = (k, x) :: (numb (k + 1) a ++ numb (k + (a.length + 1)) b)
    rw [numb_append a b, Nat.add_right_comm, Nat.add_assoc]
theorem numb_get : ∀ (l : List Piece) (k i : Nat), (numb k l)[i]? = (l[i]?).map fun x => (k + i, x)
  | [], _, _ => rfl
  | x :: l, k, 0 => rfl
  | x :: l, k, i + 1 => by
    show (numb (k + 1) l)[i]? = (l[i]?).map fun x => (k + (i + 1), x)
    rw [numb_get l, Nat.add_right_comm, Nat.add_assoc]
theorem numb_drop (l : List Piece) (k : Nat) (h : k ≤ l.length) : (numb 0 l).drop k = numb k (l.drop k) := by
  have e : numb 0 l = numb 0 (l.take k) ++ numb (0 + (l.take k).length) (l.drop k) := by
    rw [← numb_append, List.take_append_drop]
  have e2 : (l.take k).length = k := by rw [List.length_take]; omega
  rw [e2, Nat.zero_add] at e
  rw [e, List.drop_left' (by rw [numb_length, e2])]
def pick : List NP → List Bool → List NP
  | x :: l, b :: r => if b = true then x :: pick l r else pick l r
  | _, _ => []
theorem pick_nil (b : List Bool) : pick [] b = [] := by cases b <;> rfl
theorem pick_snds : ∀ (l : List NP) (b : List Bool), snds (pick l b) = chosen (snds l) b
  | [], b => by rw [pick_nil]; rfl
  | x :: l, [] => rfl
  | x :: l, k :: b => by
    show snds (if k = true then x :: pick l b else pick l b) = chosen (x.2 :: snds l) (k :: b)
    rw [chosen_cons, ← pick_snds l b]
    cases k <;> rfl
theorem pick_append : ∀ (a b : List NP) (fa fb : List Bool), a.length = fa.length → pick (a ++ b) (fa ++ fb) = pick a fa ++ pick b fb
  | [], b, [], fb, _ => rfl
  | x :: a, b, k :: fa, fb, h => by
    have h' : a.length = fa.length := by simpa using h
    show (if k = true then x :: pick (a ++ b) (fa ++ fb) else pick (a ++ b) (fa ++ fb)) = (if k = true then x :: pick a fa else pick a fa) ++ pick b fb
    rw [pick_append a b fa fb h']
    cases k <;> rfl
theorem mem_pick : ∀ (l : List Piece) (b : List Bool) (k : Nat) (y : NP), y ∈ pick (numb k l) b ↔ ∃ j, l[j]? = some y.2 ∧ b[j]? = some true ∧ y.1 = k + j
  | [], b, k, y => by
    rw [show numb k [] = [] from rfl, pick_nil]
    simp
  | x :: l, [], k, y => by
    show y ∈ [] ↔ _
    simp
  | x :: l, v :: b, k, y => by
    have ih := mem_pick l b (k + 1) y
    show y ∈ (if v = true then (k, x) :: pick (numb (k + 1) l) b else pick (numb (k + 1) l) b) ↔ _
    constructor
    · intro h
      cases v with
      | false =>
        obtain ⟨j, h1, h2, h3⟩ := ih.mp (by simpa using h)
        exact ⟨j + 1, h1, h2, by omega⟩
      | true =>
        rw [if_pos rfl, List.mem_cons] at h
        rcases h with rfl | h
        · exact ⟨0, rfl, rfl, rfl⟩
        · obtain ⟨j, h1, h2, h3⟩ := ih.mp h
          exact ⟨j + 1, h1, h2, by omega⟩
    · rintro ⟨j, h1, h2, h3⟩
      cases j with
      | zero =>
        have h1 : some x = some y.2 := h1
        have h2 : some v = some true := h2
        cases h2
        rw [if_pos rfl, List.mem_cons]
        left
        obtain ⟨y1, y2⟩ := y
        cases h1
        have h3 : y1 = k + 0 := h3
        rw [h3]; rfl
      | succ j =>
        have := ih.mpr ⟨j, h1, h2, by omega⟩
        cases v with
        | false => simpa using this
        | true => rw [if_pos rfl]; exact List.mem_cons_of_mem _ this
theorem pick_length : ∀ (l : List NP) (b : List Bool), (pick l b).length ≤ l.length
  | [], b => by rw [pick_nil]; exact Nat.le_refl _
  | x :: l, [] => Nat.zero_le _
  | x :: l, k :: b => by
    have := pick_length l b
    show (if k = true then x :: pick l b else pick l b).length ≤ l.length + 1
    cases k
    · show (pick l b).length ≤ _; omega
    · show (pick l b).length + 1 ≤ _; omega
def weighN (t : Int) (c : Nat) (l : List NP) (x : NP) : List NP := if x.2.late = true ∧ ok1 t c (snds l) x.2 = false then l else l ++ [x]
theorem weighN_snds (t : Int) (c : Nat) (l : List NP) (x : NP) : snds (weighN t c l x) = weigh t c (snds l) x.2 := by
  unfold weighN weigh
  by_cases h : x.2.late = true ∧ ok1 t c (snds l) x.2 = false
  · rw [if_pos h, if_pos h]
  · rw [if_neg h, if_neg h, snds_append]; rfl
theorem weighN_length (t : Int) (c : Nat) (l : List NP) (x : NP) : (weighN t c l x).length ≤ l.length + 1 := by
  unfold weighN
  split
  · omega
  · rw [List.length_append]; exact Nat.le_refl _
theorem foldN_snds (t : Int) (c : Nat) : ∀ (xs l : List NP), snds (xs.foldl (weighN t c) l) = (snds xs).foldl (weigh t c) (snds l)
  | [], _ => rfl
  | x :: xs, l => by
    rw [List.foldl_cons, foldN_snds t c xs, weighN_snds]
    rfl
theorem foldN_length (t : Int) (c : Nat) : ∀ (xs l : List NP), (xs.foldl (weighN t c) l).length ≤ l.length + xs.length
  | [], _ => Nat.le_refl _
  | x :: xs, l => by
    have h1 := foldN_length t c xs (weighN t c l x)
    have h2 := weighN_length t c l x
    rw [List.foldl_cons, List.length_cons]
    omega
theorem fold_inT (t : Int) (c : Nat) : ∀ (xs l : List Piece), (∀ x ∈ xs, x.late = false) → xs.foldl (weigh t c) l = l ++ xs
  | [], l, _ => by simp
  | x :: xs, l, h => by
    rw [List.foldl_cons, weigh_inT (h x (List.mem_cons_self ..)), fold_inT t c xs _ fun y hy => h y (List.mem_cons_of_mem _ hy)]
    simp
theorem fold_late (t : Int) (c : Nat) : ∀ (xs l : List Piece), (∀ x ∈ xs, x.late = true) → xs.foldl (weigh t c) l = grow t c l xs
  | [], l, _ => rfl
  | x :: xs, l, h => by
    rw [List.foldl_cons, weigh_late (h x (List.mem_cons_self ..)), fold_late t c xs _ fun y hy => h y (List.mem_cons_of_mem _ hy)]
    rfl

def countN (s : State) (c : Nat) : List NP := pick (numb 0 s.pieces) (let_ s c)
theorem countN_snds (s : State) (c : Nat) : snds (countN s c) = counting s c := by
  unfold countN counting
  rw [pick_snds, numb_snds]
theorem countN_length (s : State) (c : Nat) : (countN s c).length ≤ s.pieces.length := by
  have := pick_length (numb 0 s.pieces) (let_ s c)
  rw [numb_length] at this
  exact this
theorem countN_more {s : State} (I : SInv s) {x : Piece} (hl : x.late = (decide (s.limit < s.day) || decide (1 < s.phase))) (h24 : s.pieces.length < 24) (c : Nat) :
    countN (more s x) c = weighN s.bar c (countN s c) (s.pieces.length, x) := by
  unfold countN
  rw [let_more I hl h24 c]
  show pick (numb 0 (s.pieces ++ [x])) _ = _
  rw [numb_append, Nat.zero_add, pick_append _ _ _ _ (by rw [numb_length, let_length I])]
  show pick (numb 0 s.pieces) (let_ s c) ++ (if taken1 s.bar c (counting s c) x = true then [(s.pieces.length, x)] else []) = _
  have e : snds (pick (numb 0 s.pieces) (let_ s c)) = counting s c := countN_snds s c
  unfold weighN taken1
  rw [e]
  dsimp only
  cases x.late <;> cases ok1 s.bar c (counting s c) x <;> simp
theorem countN_decided {s : State} (I : SInv s) {m w c : Nat} (hc : c < s.n) : countN (decided s m w) c = countN s c := by
  unfold countN
  rw [let_decided I hc]
  rfl

def setN (s : State) (k c : Nat) : List NP := if s.phase ≤ 1 then [] else pick (numb 0 (s.pieces.take k)) (wasB s c)
structure SetOk (s : State) (k : Nat) : Prop where
  le : k ≤ s.pieces.length
  z : s.phase ≤ 1 → k = 0
  w : ¬ s.phase ≤ 1 → ∀ c, c < s.n → (wasB s c).length = k
  late : ¬ s.phase ≤ 1 → ∀ x ∈ s.pieces.drop k, x.late = true
theorem setN_length (s : State) (k c : Nat) : (setN s k c).length ≤ k := by
  unfold setN
  split
  · exact Nat.zero_le _
  · have := pick_length (numb 0 (s.pieces.take k)) (wasB s c)
    rw [numb_length, List.length_take] at this
    omega
theorem setN_more {s : State} {k : Nat} (O : SetOk s k) (x : Piece) (c : Nat) : setN (more s x) k c = setN s k c := by
  have e : (more s x).pieces.take k = s.pieces.take k := by
    show (s.pieces ++ [x]).take k = _
    rw [List.take_append_of_le_length O.le]
  unfold setN
  rw [e]
  rfl
theorem SetOk.more {s : State} {k : Nat} (O : SetOk s k) {x : Piece} (hl : x.late = (decide (s.limit < s.day) || decide (1 < s.phase))) : SetOk (more s x) k where
  le := by
    have := O.le
    show k ≤ (s.pieces ++ [x]).length
    rw [List.length_append]; omega
  z := O.z
  w := O.w
  late := fun h y hy => by
    have hy : y ∈ (s.pieces ++ [x]).drop k := hy
    rw [List.drop_append_of_le_length O.le, List.mem_append, List.mem_singleton] at hy
    rcases hy with hy | rfl
    · exact O.late h y hy
    · have h' : ¬ s.phase ≤ 1 := h
      rw [hl, decide_eq_true (p := 1 < s.phase) (by omega), Bool.or_true]
theorem setN_decided {s : State} {m w c : Nat} (hc : c < s.n) : setN (decided s m w) s.pieces.length c = countN s c := by
  unfold setN countN
  rw [if_neg (by show ¬ (2 ≤ 1); decide), wasB_decided hc]
  show pick (numb 0 (s.pieces.take s.pieces.length)) _ = _
  rw [List.take_length]
theorem SetOk.decided {s : State} (I : SInv s) (m w : Nat) : SetOk (decided s m w) s.pieces.length where
  le := Nat.le_refl _
  z := fun h => absurd (show 2 ≤ 1 from h) (by decide)
  w := fun _ c hc => by rw [wasB_decided (s := s) hc, let_length I c]
  late := fun _ x hx => by
    have hx : x ∈ s.pieces.drop s.pieces.length := hx
    rw [List.drop_length] at hx
    cases hx

def notI (i : Nat) (y : NP) : Bool := decide (y.1 ≠ i)
theorem numb_not : ∀ (l : List Piece) (k i : Nat), snds ((numb k l).filter (notI i)) = if k ≤ i then l.eraseIdx (i - k) else l
  | [], k, i => by simp [numb, snds]
  | x :: l, k, i => by
    have ih := numb_not l (k + 1) i
    show snds (((k, x) :: numb (k + 1) l).filter (notI i)) = _
    rw [List.filter_cons]
    by_cases h : k = i
    · subst h
      rw [if_neg (by simp [notI]), ih, if_neg (by omega), if_pos (Nat.le_refl _), Nat.sub_self]
      rfl
    · rw [if_pos (by simp [notI, h])]
      show x :: snds ((numb (k + 1) l).filter (notI i)) = _
      rw [ih]
      by_cases h2 : k + 1 ≤ i
      · rw [if_pos h2, if_pos (by omega)]
        have e : i - k = (i - (k + 1)) + 1 := by omega
        rw [e]
        rfl
      · rw [if_neg h2, if_neg (by omega)]
theorem pick_not : ∀ (l : List Piece) (b : List Bool) (k i : Nat), snds ((pick (numb k l) b).filter (notI i)) = if k ≤ i then chosen (l.eraseIdx (i - k)) (b.eraseIdx (i - k)) else chosen l b
  | [], b, k, i => by
    rw [show numb k [] = [] from rfl, pick_nil]
    simp [snds, chosen]
  | x :: l, [], k, i => by
    show snds ([].filter (notI i)) = _
    simp [snds, chosen]
  | x :: l, v :: b, k, i => by
    have ih := pick_not l b (k + 1) i
    show snds ((if v = true then (k, x) :: pick (numb (k + 1) l) b else pick (numb (k + 1) l) b).filter (notI i)) = _
    by_cases h : k = i
    · subst h
      rw [if_neg (by omega)] at ih
      rw [if_pos (Nat.le_refl _), Nat.sub_self]
      show _ = chosen l b
      rw [← ih]
      cases v
      · rfl
      · rw [if_pos rfl, List.filter_cons, if_neg (by simp [notI])]
    · by_cases h2 : k + 1 ≤ i
      · rw [if_pos h2] at ih
        rw [if_pos (show k ≤ i by omega)]
        have e : i - k = (i - (k + 1)) + 1 := by omega
        rw [e]
        show _ = chosen (x :: l.eraseIdx (i - (k + 1))) (v :: b.eraseIdx (i - (k + 1)))
        rw [chosen_cons, ← ih]
        cases v
        · rfl
        · rw [if_pos rfl, if_pos rfl, List.filter_cons, if_pos (by simp [notI, h])]
          rfl
      · rw [if_neg h2] at ih
        rw [if_neg (show ¬ k ≤ i by omega), chosen_cons, ← ih]
        cases v
        · rfl
        · rw [if_pos rfl, if_pos rfl, List.filter_cons, if_pos (by simp [notI, h])]
          rfl
theorem sorted_of {l a b : List Piece} (h : l = a ++ b) (ha : ∀ x ∈ a, x.late = false) (hb : ∀ x ∈ b, x.late = true) : (l.filter fun x => !x.late) = a ∧ (l.filter fun x => x.late) = b := by
  subst h
  rw [List.filter_append, List.filter_append]
  have e1 : (a.filter fun x => !x.late) = a := List.filter_eq_self.mpr fun x hx => by rw [ha x hx]; rfl
  have e2 : (b.filter fun x => !x.late) = [] := List.filter_eq_nil_iff.mpr fun x hx => by rw [hb x hx]; decide
  have e3 : (a.filter fun x => x.late) = [] := List.filter_eq_nil_iff.mpr fun x hx => by rw [ha x hx]; decide
  have e4 : (b.filter fun x => x.late) = b := List.filter_eq_self.mpr fun x hx => hb x hx
  rw [e1, e2, e3, e4]
  simp
def lessI (s : State) (i : Nat) : State := { s with pieces := s.pieces.eraseIdx i, taken := s.taken.map fun b => b.eraseIdx i }
theorem without_alive (s : State) (i : Nat) : without s i = alive (lessI s i) := rfl
theorem parted {s : State} (h : Sorted s) (i : Nat) : ∃ a b, (lessI s i).pieces = a ++ b ∧ (∀ x ∈ a, x.late = false) ∧ ∀ x ∈ b, x.late = true := by
  have e : s.pieces = inT s ++ lates s := h
  have hA : ∀ x ∈ inT s, x.late = false := fun x hx => by simpa using (List.mem_filter.mp hx).2
  have hB : ∀ x ∈ lates s, x.late = true := fun x hx => (List.mem_filter.mp hx).2
  show ∃ a b, s.pieces.eraseIdx i = a ++ b ∧ _
  by_cases hi : i < (inT s).length
  · refine ⟨(inT s).eraseIdx i, lates s, ?_, fun x hx => hA x (List.mem_of_mem_eraseIdx hx), hB⟩
    rw [congrArg (fun l => List.eraseIdx l i) e, List.eraseIdx_append_of_lt_length hi]
  · refine ⟨inT s, (lates s).eraseIdx (i - (inT s).length), ?_, hA, fun x hx => hB x (List.mem_of_mem_eraseIdx hx)⟩
    rw [congrArg (fun l => List.eraseIdx l i) e, List.eraseIdx_append_of_length_le (by omega)]
theorem wasB_less (s : State) (i c : Nat) : wasB (lessI s i) c = (wasB s c).eraseIdx i := by
  show (s.taken.map fun b => b.eraseIdx i).getD c [] = (s.taken.getD c []).eraseIdx i
  rw [List.getD_eq_getElem?_getD, List.getD_eq_getElem?_getD, List.getElem?_map]
  cases s.taken[c]? <;> rfl
def leftN (s : State) (k i c : Nat) : List NP := (((numb 0 s.pieces).drop k).filter (notI i)).foldl (weighN s.bar c) ((setN s k c).filter (notI i))
theorem left_eq {s : State} {k i c : Nat} (I : SInv s) (O : SetOk s k) (hi : i < s.pieces.length) (hc : c < s.n) : snds (leftN s k i c) = counting (lessI s i) c := by
  unfold leftN
  rw [foldN_snds, numb_drop _ _ O.le, numb_not]
  by_cases h : s.phase ≤ 1
  · have hk := O.z h
    subst hk
    obtain ⟨a, b, e, ha, hb⟩ := parted (I.srt h) i
    have e2 := sorted_of e ha hb
    have hS : Sorted (lessI s i) := by
      unfold Sorted inT lates
      rw [e2.1, e2.2]
      exact e
    rw [counting_early hS h]
    unfold setN inT lates
    rw [if_pos h, if_pos (Nat.zero_le _), e2.1, e2.2, List.drop_zero, Nat.sub_zero]
    show (s.pieces.eraseIdx i).foldl _ [] = _
    rw [show s.pieces.eraseIdx i = a ++ b from e, List.foldl_append, fold_inT _ _ _ _ ha, fold_late _ _ _ _ hb]
    rfl
  · have h' : ¬ (lessI s i).phase ≤ 1 := h
    have hw := O.w h c hc
    have hle := O.le
    have hw2 := wasB_less s i c
    have hlen : (wasB (lessI s i) c).length ≤ (lessI s i).pieces.length := by
      rw [hw2]
      show ((wasB s c).eraseIdx i).length ≤ (s.pieces.eraseIdx i).length
      rw [List.length_eraseIdx, List.length_eraseIdx, if_pos hi]
      split <;> omega
    rw [counting_later h' hlen, hw2]
    unfold setN
    rw [if_neg h, pick_not, if_pos (Nat.zero_le _), Nat.sub_zero]
    show _ = grow s.bar c (chosen ((s.pieces.eraseIdx i).take ((wasB s c).eraseIdx i).length) ((wasB s c).eraseIdx i)) ((s.pieces.eraseIdx i).drop ((wasB s c).eraseIdx i).length)
    have el : s.pieces = s.pieces.take k ++ s.pieces.drop k := (List.take_append_drop _ _).symm
    have elk : (s.pieces.take k).length = k := by rw [List.length_take]; omega
    by_cases hik : k ≤ i
    · rw [if_pos hik]
      have e1 : (wasB s c).eraseIdx i = wasB s c := List.eraseIdx_of_length_le (by omega)
      have e2 : (s.pieces.take k).eraseIdx i = s.pieces.take k := List.eraseIdx_of_length_le (by omega)
      rw [e1, e2, hw]
      have e3 : s.pieces.eraseIdx i = s.pieces.take k ++ (s.pieces.drop k).eraseIdx (i - k) := by
        have : s.pieces.eraseIdx i = (s.pieces.take k ++ s.pieces.drop k).eraseIdx i := congrArg (fun l => List.eraseIdx l i) el
        rw [List.eraseIdx_append_of_length_le (by omega), elk] at this
        exact this
      rw [e3, List.take_left' elk, List.drop_left' elk]
      exact fold_late _ _ _ _ fun x hx => O.late h x (List.mem_of_mem_eraseIdx hx)
    · rw [if_neg hik]
      have e1 : ((wasB s c).eraseIdx i).length = k - 1 := by rw [List.length_eraseIdx, if_pos (by omega), hw]
      have e2 : ((s.pieces.take k).eraseIdx i).length = k - 1 := by rw [List.length_eraseIdx, if_pos (by omega), elk]
      have e3 : s.pieces.eraseIdx i = (s.pieces.take k).eraseIdx i ++ s.pieces.drop k := by
        have : s.pieces.eraseIdx i = (s.pieces.take k ++ s.pieces.drop k).eraseIdx i := congrArg (fun l => List.eraseIdx l i) el
        rw [List.eraseIdx_append_of_lt_length (by omega)] at this
        exact this
      rw [e1, e3, List.take_left' e2, List.drop_left' e2]
      exact fold_late _ _ _ _ fun x hx => O.late h x hx
theorem leftN_length {s : State} {k i c : Nat} (hle : k ≤ s.pieces.length) : ((setN s k c).filter (notI i)).length + (((numb 0 s.pieces).drop k).filter (notI i)).length ≤ s.pieces.length := by
  have h1 := List.length_filter_le (notI i) (setN s k c)
  have h2 := List.length_filter_le (notI i) ((numb 0 s.pieces).drop k)
  have h3 := setN_length s k c
  rw [List.length_drop, numb_length] at h2
  omega

theorem why_eq (p : Piece → Bool) : ∀ (l : List Piece) (b : List Bool) (k : Nat),
    ((List.range l.length).find? fun i => b.getD i false && (l[i]?).any p).map (· + k) = (((pick (numb k l) b).filter fun y => p y.2).head?).map (·.1)
  | [], b, k => by
    rw [show numb k [] = [] from rfl, pick_nil]
    rfl
  | x :: l, [], k => by
    show _ = none
    rw [Option.map_eq_none_iff, List.find?_eq_none]
    intro i _
    simp
  | x :: l, v :: b, k => by
    have ih := why_eq p l b (k + 1)
    rw [List.length_cons, List.range_succ_eq_map, List.find?_cons]
    show ((match (v && p x) with | true => some 0 | false => List.find? (fun i => (v :: b).getD i false && ((x :: l)[i]?).any p) ((List.range l.length).map Nat.succ))).map (· + k) = (((if v = true then (k, x) :: pick (numb (k + 1) l) b else pick (numb (k + 1) l) b).filter fun y => p y.2).head?).map (·.1)
    have e : List.find? (fun i => (v :: b).getD i false && ((x :: l)[i]?).any p) ((List.range l.length).map Nat.succ) = (List.find? (fun i => b.getD i false && (l[i]?).any p) (List.range l.length)).map Nat.succ := by
      rw [List.find?_map]
      rfl
    have e2 : ((List.find? (fun i => b.getD i false && (l[i]?).any p) (List.range l.length)).map Nat.succ).map (· + k) = (((pick (numb (k + 1) l) b).filter fun y => p y.2).head?).map (·.1) := by
      rw [← ih]
      cases List.find? (fun i => b.getD i false && (l[i]?).any p) (List.range l.length) with
      | none => rfl
      | some j => show some (j + 1 + k) = some (j + (k + 1)); congr 1; omega
    cases v with
    | false =>
      show (List.find? _ _).map _ = _
      rw [e, e2]
      rfl
    | true =>
      rw [if_pos rfl, List.filter_cons]
      cases hp : p x with
      | true =>
        show some (0 + k) = some k
        rw [Nat.zero_add]
      | false =>
        show (List.find? _ _).map _ = _
        rw [e, e2]
        rfl
end Op


namespace Op
open Vbptam

def childs (r : List Nat) : List (List Nat) := (List.range' (match r.getLast? with | none => 0 | some a => a + 1) (8 - (match r.getLast? with | none => 0 | some a => a + 1))).map fun f => r ++ [f]
def allS : List (List Nat) := (List.range 9).flatMap fun k => subsets k (List.range 8)
def chk : List (List Nat) → List (List Nat) → Bool
  | [], rest => rest.isEmpty
  | v :: vs, rest => decide (rest.length < vs.length + 1) && ((rest.take (childs v).length == childs v) && chk vs (rest.drop (childs v).length))
theorem chk_all : chk allS (allS.drop 1) = true := by decide +kernel
theorem allS_first : allS.take 1 = [[]] := by decide +kernel
theorem allS_length : allS.length = 256 := by decide +kernel
theorem allS_full : List.range 8 ∈ allS := by decide +kernel
theorem allS_small : ∀ r ∈ allS, r.length ≤ 8 ∧ ∀ f ∈ r, f < 8 := by decide +kernel
def hits (l : List (List Nat)) (r : List Nat) : Bool := l.all fun fs => fs.any fun f => r.contains f
theorem fewest_find (l : List (List Nat)) : fewest l = (allS.find? (hits l)).getD [] := by
  unfold fewest allS
  rw [List.find?_flatMap]
  rfl
theorem hits_full {l : List (List Nat)} (h : ∀ fs ∈ l, fs ≠ [] ∧ ∀ f ∈ fs, f < 8) : hits l (List.range 8) = true := by
  unfold hits
  rw [List.all_eq_true]
  intro fs hfs
  obtain ⟨h1, h2⟩ := h fs hfs
  cases fs with
  | nil => exact absurd rfl h1
  | cons f r =>
    rw [List.any_eq_true]
    exact ⟨f, List.mem_cons_self .., by rw [List.contains_iff_mem, List.mem_range]; exact h2 f (List.mem_cons_self ..)⟩
structure Look (l : List (List Nat)) (i : Nat) (cs : List (List Nat)) : Prop where
  ex : ∃ rest, cs ++ rest = allS ∧ chk (allS.drop i) rest = true
  no : ∀ r ∈ allS.take i, hits l r = false
theorem Look.first (l : List (List Nat)) : Look l 0 [[]] where
  ex := ⟨allS.drop 1, by rw [← allS_first, List.take_append_drop], chk_all⟩
  no := fun r hr => by simp at hr
theorem Look.here {l : List (List Nat)} {i : Nat} {cs : List (List Nat)} (L : Look l i cs) (hl : ∀ fs ∈ l, fs ≠ [] ∧ ∀ f ∈ fs, f < 8) : ∃ v, cs[i]? = some v ∧ allS[i]? = some v ∧ v ∈ allS := by
  obtain ⟨rest, e, hc⟩ := L.ex
  cases hd : allS.drop i with
  | nil =>
    exfalso
    have : allS.take i = allS := List.take_of_length_le (by
      have := congrArg List.length hd
      rw [List.length_drop, List.length_nil] at this
      omega)
    have h2 := L.no (List.range 8) (by rw [this]; exact allS_full)
    rw [hits_full hl] at h2
    cases h2
  | cons v vs =>
    have h1 : allS[i]? = some v := by
      have := List.getElem?_drop (xs := allS) (i := i) (j := 0)
      rw [hd, Nat.add_zero] at this
      exact this.symm
    rw [hd] at hc
    have hc : (decide (rest.length < vs.length + 1) && _) = true := hc
    rw [Bool.and_eq_true] at hc
    have h3 := of_decide_eq_true hc.1
    have h4 := congrArg List.length hd
    rw [List.length_drop, List.length_cons] at h4
    have h5 := congrArg List.length e
    rw [List.length_append] at h5
    have h6 : i < cs.length := by omega
    refine ⟨v, ?_, h1, List.mem_of_getElem? h1⟩
    rw [← e, List.getElem?_append_left h6] at h1
    exact h1
theorem Look.next {l : List (List Nat)} {i : Nat} {cs : List (List Nat)} {v : List Nat} (L : Look l i cs) (h : allS[i]? = some v) (hv : hits l v = false) : Look l (i + 1) (cs ++ childs v) := by
  obtain ⟨rest, e, hc⟩ := L.ex
  have hd : allS.drop i = v :: allS.drop (i + 1) := by
    obtain ⟨hi, h2⟩ := List.getElem?_eq_some_iff.mp h
    rw [List.drop_eq_getElem_cons hi, h2]
  rw [hd] at hc
  have hc : (decide (rest.length < (allS.drop (i + 1)).length + 1) && ((rest.take (childs v).length == childs v) && chk (allS.drop (i + 1)) (rest.drop (childs v).length))) = true := hc
  rw [Bool.and_eq_true, Bool.and_eq_true] at hc
  have e2 : rest.take (childs v).length = childs v := by simpa using hc.2.1
  refine ⟨⟨rest.drop (childs v).length, ?_, hc.2.2⟩, fun r hr => ?_⟩
  · rw [List.append_assoc]
    have : childs v ++ rest.drop (childs v).length = rest := by
      conv => lhs; lhs; rw [← e2]
      rw [List.take_append_drop]
    rw [this, e]
  · rw [List.take_add_one, h, List.mem_append] at hr
    rcases hr with hr | hr
    · exact L.no r hr
    · have : r = v := by simpa using hr
      rw [this]; exact hv
theorem Look.found {l : List (List Nat)} {i : Nat} {cs : List (List Nat)} {v : List Nat} (L : Look l i cs) (h : allS[i]? = some v) (hv : hits l v = true) : fewest l = v := by
  rw [fewest_find]
  have e : allS = allS.take i ++ v :: allS.drop (i + 1) := by
    obtain ⟨hi, h2⟩ := List.getElem?_eq_some_iff.mp h
    have : allS.drop i = v :: allS.drop (i + 1) := by rw [List.drop_eq_getElem_cons hi, h2]
    rw [← this, List.take_append_drop]
  have e2 : (allS.take i).find? (hits l) = none := by
    rw [List.find?_eq_none]
    intro r hr
    rw [L.no r hr]
    decide
  have : allS.find? (hits l) = (allS.take i ++ v :: allS.drop (i + 1)).find? (hits l) := congrArg (List.find? (hits l)) e
  rw [this, List.find?_append, e2, List.find?_cons, hv]
  rfl
theorem Look.len {l : List (List Nat)} {i : Nat} {cs : List (List Nat)} (L : Look l i cs) : cs.length ≤ 256 := by
  obtain ⟨rest, e, _⟩ := L.ex
  have := congrArg List.length e
  rw [List.length_append, allS_length] at this
  omega
def factsN : What → List Nat
  | .attack _ fs => fs
  | .proof w => w.map (·.1)
def downN (s : State) (c : Nat) : List NP := (countN s c).filter fun y => downs s.bar (counting s c) c y.2
theorem live_eq (s : State) (c : Nat) : live s c = (downN s c).map fun y => factsN y.2.what := by
  unfold live downN
  have h : ∀ l : List NP, (snds l).filterMap (fun x => match x.what with
      | .attack _ fs => if downs s.bar (counting s c) c x = true then some fs else none
      | .proof _ => none) = (l.filter fun y => downs s.bar (counting s c) c y.2).map fun y => factsN y.2.what := by
    intro l
    induction l with
    | nil => rfl
    | cons y l ih =>
      show (y.2 :: snds l).filterMap _ = _
      rw [List.filterMap_cons, List.filter_cons]
      cases hw : y.2.what with
      | attack d fs =>
        simp only []
        cases hd : downs s.bar (counting s c) c y.2 with
        | true =>
          rw [if_pos rfl, if_pos rfl, List.map_cons, ← ih, hw]
          rfl
        | false =>
          rw [if_neg Bool.false_ne_true, if_neg Bool.false_ne_true]
          exact ih
      | proof w =>
        have hd : downs s.bar (counting s c) c y.2 = false := by
          unfold downs
          rw [hw]
        rw [hd, if_neg Bool.false_ne_true]
        exact ih
  have := h (countN s c)
  rw [countN_snds] at this
  exact this
theorem why_down (s : State) (c : Nat) : (match (List.range s.pieces.length).find? fun i => (let_ s c).getD i false && (s.pieces[i]?).any (downs s.bar (counting s c) c) with
      | some i => [1, (i : Int)]
      | none => [0]) = match (downN s c).head? with
      | some y => [1, (y.1 : Int)]
      | none => [0] := by
  have h := why_eq (downs s.bar (counting s c) c) s.pieces (let_ s c) 0
  have h2 : ((List.range s.pieces.length).find? fun i => (let_ s c).getD i false && (s.pieces[i]?).any (downs s.bar (counting s c) c)) = ((downN s c).head?).map (·.1) := by
    unfold downN countN
    rw [← h]
    cases (List.range s.pieces.length).find? fun i => (let_ s c).getD i false && (s.pieces[i]?).any (downs s.bar (counting s c) c) <;> rfl
  rw [h2]
  cases (downN s c).head? <;> rfl
theorem letin_eq {s : State} (I : SInv s) (c : Nat) : (List.range s.pieces.length).map (fun i => if ((countN s c).map (·.1)).contains i = true then 1 else 0) = (let_ s c).map fun b => if b = true then (1 : Nat) else 0 := by
  have hl := let_length I c
  apply List.ext_getElem?
  intro i
  rw [List.getElem?_map, List.getElem?_map]
  by_cases hi : i < s.pieces.length
  · rw [List.getElem?_range hi, List.getElem?_eq_getElem (by omega : i < (let_ s c).length)]
    show some _ = some _
    congr 1
    have e : ((countN s c).map (·.1)).contains i = (let_ s c)[i]'(by omega) := by
      rw [Bool.eq_iff_iff, List.contains_iff_mem, List.mem_map]
      constructor
      · rintro ⟨y, hy, rfl⟩
        unfold countN at hy
        obtain ⟨j, _, h2, h3⟩ := (mem_pick _ _ _ _).mp hy
        rw [Nat.zero_add] at h3
        obtain ⟨h4, h5⟩ := List.getElem?_eq_some_iff.mp h2
        subst h3
        exact h5
      · intro h
        exact ⟨(i, s.pieces[i]), (mem_pick _ _ _ _).mpr ⟨i, List.getElem?_eq_getElem hi, by rw [List.getElem?_eq_getElem (by omega : i < (let_ s c).length), h], by omega⟩, rfl⟩
    dsimp only
    rw [e]
  · rw [List.getElem?_eq_none_iff.mpr (by rw [List.length_range]; omega), List.getElem?_eq_none_iff.mpr (by omega)]
    rfl
end Op


namespace Op
open Vbptam

inductive Form : List (List Int) → Int → List Int → Option (List Int) → Prop
  | c0 (n t l : Int) : Form [[0, n, t, l]] 0 [n, t, l] none
  | c1 (o c : Int) (f : List Int) : Form [[1, o, c], f] 1 [o, c] (some f)
  | c2 (p : Int) (w : List Int) : Form [[2, p], w] 2 [p] (some w)
  | c3 (m : Int) : Form [[3, m]] 3 [m] none
  | c4 (n : Int) : Form [[4, n]] 4 [n] none
  | c5 : Form [[5]] 5 [] none
  | c6 (p m : Int) : Form [[6, p, m]] 6 [p, m] none
  | c7 (o : Int) : Form [[7, o]] 7 [o] none
  | c8 : Form [[8]] 8 [] none
  | c9 : Form [[9]] 9 [] none
  | c10 (c f : Int) : Form [[10, c, f]] 10 [c, f] none
  | c11 (c : Int) : Form [[11, c]] 11 [c] none
  | c12 (c : Int) : Form [[12, c]] 12 [c] none
  | c13 (i : Int) : Form [[13, i]] 13 [i] none
  | c14 (c : Int) : Form [[14, c]] 14 [c] none
  | c15 (i : Int) : Form [[15, i]] 15 [i] none
  | c16 : Form [[16]] 16 [] none
  | c17 : Form [[17]] 17 [] none
  | c18 : Form [[18]] 18 [] none
  | c19 : Form [[19]] 19 [] none

theorem len0 {α : Type} {l : List α} (h : 0 = l.length) : l = [] := List.eq_nil_of_length_eq_zero h.symm
theorem len1 {α : Type} {l : List α} (h : 1 = l.length) : ∃ a, l = [a] := by
  match l, h with
  | [a], _ => exact ⟨a, rfl⟩
theorem len2 {α : Type} {l : List α} (h : 2 = l.length) : ∃ a b, l = [a, b] := by
  match l, h with
  | [a, b], _ => exact ⟨a, b, rfl⟩
theorem len3 {α : Type} {l : List α} (h : 3 = l.length) : ∃ a b c, l = [a, b, c] := by
  match l, h with
  | [a, b, c], _ => exact ⟨a, b, c, rfl⟩

theorem form_of {c : List (List Int)} (h : PyFlat.okCall PyVbptam.shape c) : ∃ p a r, Form c p a r := by
  obtain ⟨p, a, xs, rfl, hs⟩ := h
  unfold PyVbptam.shape at hs
  by_cases k : p = 0
  · subst k; obtain ⟨e1, e2⟩ := Prod.mk.inj (Option.some.inj ((if_pos rfl).symm.trans hs)); obtain ⟨x0, x1, x2, rfl⟩ := len3 e1; obtain rfl := len0 e2; exact ⟨_, _, _, .c0 ..⟩
  rw [if_neg k] at hs
  by_cases k : p = 1
  · subst k; obtain ⟨e1, e2⟩ := Prod.mk.inj (Option.some.inj ((if_pos rfl).symm.trans hs)); obtain ⟨x0, x1, rfl⟩ := len2 e1; obtain ⟨r, rfl⟩ := len1 e2; exact ⟨_, _, _, .c1 ..⟩
  rw [if_neg k] at hs
  by_cases k : p = 2
  · subst k; obtain ⟨e1, e2⟩ := Prod.mk.inj (Option.some.inj ((if_pos rfl).symm.trans hs)); obtain ⟨x0, rfl⟩ := len1 e1; obtain ⟨r, rfl⟩ := len1 e2; exact ⟨_, _, _, .c2 ..⟩
  rw [if_neg k] at hs
  by_cases k : p = 3
  · subst k; obtain ⟨e1, e2⟩ := Prod.mk.inj (Option.some.inj ((if_pos rfl).symm.trans hs)); obtain ⟨x0, rfl⟩ := len1 e1; obtain rfl := len0 e2; exact ⟨_, _, _, .c3 ..⟩
  rw [if_neg k] at hs
  by_cases k : p = 4
  · subst k; obtain ⟨e1, e2⟩ := Prod.mk.inj (Option.some.inj ((if_pos rfl).symm.trans hs)); obtain ⟨x0, rfl⟩ := len1 e1; obtain rfl := len0 e2; exact ⟨_, _, _, .c4 ..⟩
  rw [if_neg k] at hs
  by_cases k : p = 5
  · subst k; obtain ⟨e1, e2⟩ := Prod.mk.inj (Option.some.inj ((if_pos rfl).symm.trans hs)); obtain rfl := len0 e1; obtain rfl := len0 e2; exact ⟨_, _, _, .c5⟩
  rw [if_neg k] at hs
  by_cases k : p = 6
  · subst k; obtain ⟨e1, e2⟩ := Prod.mk.inj (Option.some.inj ((if_pos rfl).symm.trans hs)); obtain ⟨x0, x1, rfl⟩ := len2 e1; obtain rfl := len0 e2; exact ⟨_, _, _, .c6 ..⟩
  rw [if_neg k] at hs
  by_cases k : p = 7
  · subst k; obtain ⟨e1, e2⟩ := Prod.mk.inj (Option.some.inj ((if_pos rfl).symm.trans hs)); obtain ⟨x0, rfl⟩ := len1 e1; obtain rfl := len0 e2; exact ⟨_, _, _, .c7 ..⟩
  rw [if_neg k] at hs
  by_cases k : p = 8
  · subst k; obtain ⟨e1, e2⟩ := Prod.mk.inj (Option.some.inj ((if_pos rfl).symm.trans hs)); obtain rfl := len0 e1; obtain rfl := len0 e2; exact ⟨_, _, _, .c8⟩
  rw [if_neg k] at hs
  by_cases k : p = 9
  · subst k; obtain ⟨e1, e2⟩ := Prod.mk.inj (Option.some.inj ((if_pos rfl).symm.trans hs)); obtain rfl := len0 e1; obtain rfl := len0 e2; exact ⟨_, _, _, .c9⟩
  rw [if_neg k] at hs
  by_cases k : p = 10
  · subst k; obtain ⟨e1, e2⟩ := Prod.mk.inj (Option.some.inj ((if_pos rfl).symm.trans hs)); obtain ⟨x0, x1, rfl⟩ := len2 e1; obtain rfl := len0 e2; exact ⟨_, _, _, .c10 ..⟩
  rw [if_neg k] at hs
  by_cases k : p = 11
  · subst k; obtain ⟨e1, e2⟩ := Prod.mk.inj (Option.some.inj ((if_pos rfl).symm.trans hs)); obtain ⟨x0, rfl⟩ := len1 e1; obtain rfl := len0 e2; exact ⟨_, _, _, .c11 ..⟩
  rw [if_neg k] at hs
  by_cases k : p = 12
  · subst k; obtain ⟨e1, e2⟩ := Prod.mk.inj (Option.some.inj ((if_pos rfl).symm.trans hs)); obtain ⟨x0, rfl⟩ := len1 e1; obtain rfl := len0 e2; exact ⟨_, _, _, .c12 ..⟩
  rw [if_neg k] at hs
  by_cases k : p = 13
  · subst k; obtain ⟨e1, e2⟩ := Prod.mk.inj (Option.some.inj ((if_pos rfl).symm.trans hs)); obtain ⟨x0, rfl⟩ := len1 e1; obtain rfl := len0 e2; exact ⟨_, _, _, .c13 ..⟩
  rw [if_neg k] at hs
  by_cases k : p = 14
  · subst k; obtain ⟨e1, e2⟩ := Prod.mk.inj (Option.some.inj ((if_pos rfl).symm.trans hs)); obtain ⟨x0, rfl⟩ := len1 e1; obtain rfl := len0 e2; exact ⟨_, _, _, .c14 ..⟩
  rw [if_neg k] at hs
  by_cases k : p = 15
  · subst k; obtain ⟨e1, e2⟩ := Prod.mk.inj (Option.some.inj ((if_pos rfl).symm.trans hs)); obtain ⟨x0, rfl⟩ := len1 e1; obtain rfl := len0 e2; exact ⟨_, _, _, .c15 ..⟩
  rw [if_neg k] at hs
  by_cases k : p = 16
  · subst k; obtain ⟨e1, e2⟩ := Prod.mk.inj (Option.some.inj ((if_pos rfl).symm.trans hs)); obtain rfl := len0 e1; obtain rfl := len0 e2; exact ⟨_, _, _, .c16⟩
  rw [if_neg k] at hs
  by_cases k : p = 17
  · subst k; obtain ⟨e1, e2⟩ := Prod.mk.inj (Option.some.inj ((if_pos rfl).symm.trans hs)); obtain rfl := len0 e1; obtain rfl := len0 e2; exact ⟨_, _, _, .c17⟩
  rw [if_neg k] at hs
  by_cases k : p = 18
  · subst k; obtain ⟨e1, e2⟩ := Prod.mk.inj (Option.some.inj ((if_pos rfl).symm.trans hs)); obtain rfl := len0 e1; obtain rfl := len0 e2; exact ⟨_, _, _, .c18⟩
  rw [if_neg k] at hs
  by_cases k : p = 19
  · subst k; obtain ⟨e1, e2⟩ := Prod.mk.inj (Option.some.inj ((if_pos rfl).symm.trans hs)); obtain rfl := len0 e1; obtain rfl := len0 e2; exact ⟨_, _, _, .c19⟩
  rw [if_neg k] at hs
  cases hs

theorem whole_ok {c : List (List Int)} (h : PyFlat.okCall PyVbptam.shape c) : PyVbptam.whole c = c := by
  obtain ⟨p, a, r, hF⟩ := form_of h
  cases hF <;> rfl
theorem calls_some {l : List Int} {cs : List (List (List Int))} (h : PyVbptam.calls l = some cs) : l = PyFlat.put cs ∧ ∀ c ∈ cs, PyFlat.okCall PyVbptam.shape c := by
  unfold PyVbptam.calls at h
  cases e : PyFlat.calls PyVbptam.shape l.length l with
  | none => rw [e] at h; cases h
  | some ds =>
    rw [e] at h
    have h2 : ds.map PyVbptam.whole = cs := Option.some.inj h
    have h4 := PyFlat.put_calls _ _ _ e
    have h3 : ds.map PyVbptam.whole = ds.map id := List.map_congr_left fun c hc => whole_ok (h4.2 c hc)
    rw [h3, List.map_id] at h2
    subst h2
    exact h4

theorem Form.put1 {c : List (List Int)} {p : Int} {a : List Int} {r : Option (List Int)} (h : Form c p a r) : PyFlat.put1 c = p :: (a ++ match r with | none => [] | some f => (f.length : Int) :: f) := by
  cases h <;> simp [PyFlat.put1, PyFlat.putRows, PyFlat.putRow]

def rngs (p : Int) : List (Int × Int) :=
  if p = 0 then [(1, 6), (1, 20), (0, 365)] else if p = 1 then [(0, 2), (0, 5)] else if p = 2 then [(0, 3)] else if p = 3 then [(1, 63)] else if p = 4 then [(1, 365)]
  else if p = 6 then [(0, 3), (1, 63)] else if p = 7 then [(0, 2)] else if p = 10 then [(0, 5), (0, 7)] else if p = 11 then [(0, 5)] else if p = 12 then [(0, 5)] else if p = 13 then [(0, 23)] else if p = 14 then [(0, 5)] else if p = 15 then [(0, 23)] else []
def argsOk : List Int → List (Int × Int) → Bool
  | v :: a, b :: rs => if v < b.1 ∨ v > b.2 then false else argsOk a rs
  | _, _ => true
def upFrom : Int → List Int → Bool
  | _, [] => true
  | b, f :: r => if f ≤ b ∨ f > 7 then false else upFrom f r
def factsOk (fs : List Int) : Bool := if fs.length = 0 then false else upFrom (-1) fs
def evens : List Int → List Int
  | [] => []
  | [a] => [a]
  | a :: _ :: l => a :: evens l
def odds : List Int → List Int
  | [] => []
  | [_] => []
  | _ :: b :: l => b :: odds l
def weightOk (w : Int) : Bool := decide (w ≠ 0) && (decide (-9 ≤ w) && decide (w ≤ 9))
def pairsOk (w : List Int) : Bool := if w.length % 2 = 1 ∨ factsOk (evens w) = false then false else (odds w).all weightOk
def rowOk (p : Int) (r : Option (List Int)) : Bool := match r with
  | none => true
  | some f => if p = 1 then decide (f.length ≤ 3) && factsOk f else pairsOk f
def callOk (p : Int) (a : List Int) (r : Option (List Int)) : Bool := argsOk a (rngs p) && rowOk p r

theorem inside_iff {n lo hi : Int} : inside n lo hi = true ↔ lo ≤ n ∧ n ≤ hi := by
  unfold inside
  rw [Bool.and_eq_true, decide_eq_true_iff, decide_eq_true_iff]
theorem upFrom_iff : ∀ (l : List Int) (b : Int), upFrom b l = true ↔ (l.all fun x => inside x (b + 1) 7) = true ∧ upward l = true
  | [], b => by simp [upFrom, upward]
  | [x], b => by
    simp only [upFrom, upward, List.all_cons, List.all_nil, Bool.and_true, inside_iff]
    by_cases h : x ≤ b ∨ x > 7
    · rw [if_pos h]; simp; omega
    · rw [if_neg h]; simp; omega
  | x :: y :: l, b => by
    have ih := upFrom_iff (y :: l) x
    show (if x ≤ b ∨ x > 7 then false else upFrom x (y :: l)) = true ↔ ((inside x (b + 1) 7 && (y :: l).all fun x => inside x (b + 1) 7) = true ∧ (decide (x < y) && upward (y :: l)) = true)
    rw [Bool.and_eq_true, Bool.and_eq_true, inside_iff, decide_eq_true_iff]
    by_cases h : x ≤ b ∨ x > 7
    · rw [if_pos h]
      constructor
      · intro q; cases q
      · rintro ⟨⟨q, _⟩, _⟩; omega
    · rw [if_neg h, ih]
      constructor
      · rintro ⟨q1, q2⟩
        have q3 := List.all_eq_true.mp q1
        have q4 := inside_iff.mp (q3 y (List.mem_cons_self ..))
        refine ⟨⟨by omega, List.all_eq_true.mpr fun z hz => ?_⟩, by omega, q2⟩
        have q5 := inside_iff.mp (q3 z hz)
        exact inside_iff.mpr (by omega)
      · rintro ⟨⟨_, q1⟩, q2, q3⟩
        refine ⟨List.all_eq_true.mpr fun z hz => ?_, q3⟩
        have q5 := inside_iff.mp (List.all_eq_true.mp q1 z hz)
        have q6 : y ≤ z := up_least y l q3 z hz
        exact inside_iff.mpr (by omega)
where
  up_least : ∀ (y : Int) (l : List Int), upward (y :: l) = true → ∀ z ∈ y :: l, y ≤ z
    | y, [], _, z, hz => by
      rw [List.mem_singleton] at hz
      omega
    | y, x :: l, h, z, hz => by
      have h' : (decide (y < x) && upward (x :: l)) = true := h
      rw [Bool.and_eq_true, decide_eq_true_iff] at h'
      rw [List.mem_cons] at hz
      rcases hz with rfl | hz
      · omega
      · have := up_least x l h'.2 z hz
        omega
theorem facts_attack (f : List Int) : (decide (1 ≤ f.length ∧ f.length ≤ 3) && (f.all (fun x => inside x 0 7) && upward f)) = (decide (f.length ≤ 3) && factsOk f) := by
  unfold factsOk
  rw [Bool.eq_iff_iff]
  by_cases h : f.length = 0
  · rw [if_pos h]; simp; omega
  · rw [if_neg h, Bool.and_eq_true, Bool.and_eq_true, Bool.and_eq_true, upFrom_iff, decide_eq_true_iff, decide_eq_true_iff]
    constructor
    · rintro ⟨q1, q2⟩; exact ⟨q1.2, q2⟩
    · rintro ⟨q1, q2⟩; exact ⟨⟨by omega, q1⟩, q2⟩

theorem evens_length : ∀ w : List Int, w.length % 2 = 0 → (evens w).length = w.length / 2 ∧ (odds w).length = w.length / 2
  | [], _ => ⟨rfl, rfl⟩
  | [_], h => by simp at h
  | a :: b :: l, h => by
    have ih := evens_length l (by simp only [List.length_cons] at h; omega)
    simp only [evens, odds, List.length_cons]
    omega
def pairs (w : List Int) : List (Nat × Int) := ((evens w).map Int.toNat).zip (odds w)
theorem pairsOf_eq : ∀ w : List Int, pairsOf w = if w.length % 2 = 0 ∧ ((evens w).all (fun x => inside x 0 7) && (odds w).all weightOk) = true then some (pairs w) else none
  | [] => rfl
  | [a] => by simp [pairsOf]
  | a :: b :: l => by
    have ih := pairsOf_eq l
    have wk : weightOk b = (inside b (-9) 9 && b != 0) := by
      unfold weightOk inside
      rw [Bool.eq_iff_iff]
      simp
      omega
    show (if inside a 0 7 && (inside b (-9) 9 && b != 0) then (pairsOf l).map fun r => (a.toNat, b) :: r else none) = _
    simp only [evens, odds, pairs, List.all_cons, List.map_cons, List.zip_cons_cons, List.length_cons]
    rw [wk, ih]
    have e : (l.length + 1 + 1) % 2 = l.length % 2 := by omega
    rw [e]
    cases h1 : inside a 0 7 <;> cases h2 : (inside b (-9) 9 && b != 0) <;> simp
    by_cases h3 : l.length % 2 = 0 ∧ (∀ x ∈ evens l, inside x 0 7 = true) ∧ ∀ x ∈ odds l, weightOk x = true
    · rw [if_pos h3, if_pos h3]; rfl
    · rw [if_neg h3, if_neg h3]
theorem rising_iff : ∀ (l : List Int) (m : List Int), l.length = m.length → (∀ x ∈ l, 0 ≤ x) → risingPairs ((l.map Int.toNat).zip m) = upward l
  | [], _, _, _ => by simp [risingPairs, upward]
  | [x], [y], _, _ => by simp [risingPairs, upward]
  | x :: x2 :: l, y :: y2 :: m, h, h0 => by
    have ih := rising_iff (x2 :: l) (y2 :: m) (by simpa using h) fun z hz => h0 z (List.mem_cons_of_mem _ hz)
    show (decide (x.toNat < x2.toNat) && risingPairs (((x2 :: l).map Int.toNat).zip (y2 :: m))) = (decide (x < x2) && upward (x2 :: l))
    rw [ih]
    have a1 := h0 x (List.mem_cons_self ..)
    have a2 := h0 x2 (List.mem_cons_of_mem _ (List.mem_cons_self ..))
    have : decide (x.toNat < x2.toNat) = decide (x < x2) := by
      rw [decide_eq_decide]; omega
    rw [this]
theorem pairs_ok (w : List Int) : (!w.isEmpty && (pairsOf w).any risingPairs) = pairsOk w := by
  unfold pairsOk
  rw [pairsOf_eq]
  by_cases h : w.length % 2 = 1
  · rw [if_pos (Or.inl h), if_neg (by omega)]; simp
  · have h0 : w.length % 2 = 0 := by omega
    obtain ⟨l1, l2⟩ := evens_length w h0
    unfold factsOk
    by_cases h1 : w = []
    · subst h1; rfl
    · have hw : 0 < w.length := List.length_pos_iff.mpr h1
      have e1 : w.isEmpty = false := by
        cases w with
        | nil => exact absurd rfl h1
        | cons => rfl
      rw [e1, if_neg (show ¬ (evens w).length = 0 by omega), Bool.eq_iff_iff]
      by_cases h2 : ((evens w).all (fun x => inside x 0 7) && (odds w).all weightOk) = true
      · rw [if_pos ⟨h0, h2⟩]
        rw [Bool.and_eq_true] at h2
        have h3 : risingPairs (pairs w) = upward (evens w) := rising_iff _ _ (by omega) fun x hx => (inside_iff.mp (List.all_eq_true.mp h2.1 x hx)).1
        show (!false && risingPairs (pairs w)) = true ↔ _
        rw [h3]
        by_cases h4 : upFrom (-1) (evens w) = false
        · rw [if_pos (Or.inr h4)]
          have h5 : ¬ upFrom (-1) (evens w) = true := by rw [h4]; decide
          rw [upFrom_iff] at h5
          constructor
          · intro q; exact absurd ⟨h2.1, by simpa using q⟩ h5
          · intro q; cases q
        · rw [if_neg (by rintro (q | q); exact h q; exact h4 q)]
          have h5 : upFrom (-1) (evens w) = true := by
            cases k : upFrom (-1) (evens w)
            · exact absurd k h4
            · rfl
          rw [upFrom_iff] at h5
          rw [h5.2, h2.2]
          simp
      · rw [if_neg (fun q => h2 q.2)]
        constructor
        · intro q; simp at q
        · intro q
          split at q
          · cases q
          · rename_i h4
            have h5 : upFrom (-1) (evens w) = true := by
              cases k : upFrom (-1) (evens w)
              · exact absurd (Or.inr k) h4
              · rfl
            rw [upFrom_iff] at h5
            exact absurd (by rw [Bool.and_eq_true]; exact ⟨h5.1, q⟩) h2
theorem pairs_some {w : List Int} (h : pairsOk w = true) : pairsOf w = some (pairs w) ∧ (∀ y ∈ pairs w, y.1 < 8) ∧ w.length % 2 = 0 ∧ (∀ x ∈ evens w, 0 ≤ x ∧ x ≤ 7) := by
  unfold pairsOk at h
  split at h
  · cases h
  · rename_i h1
    have h2 : factsOk (evens w) = true := by
      cases k : factsOk (evens w)
      · exact absurd (Or.inr k) h1
      · rfl
    unfold factsOk at h2
    split at h2
    · cases h2
    · rw [upFrom_iff] at h2
      have h3 : w.length % 2 = 0 := by
        have : ¬ w.length % 2 = 1 := fun q => h1 (Or.inl q)
        omega
      have h6 : ∀ x ∈ evens w, 0 ≤ x ∧ x ≤ 7 := fun x hx => inside_iff.mp (List.all_eq_true.mp h2.1 x hx)
      refine ⟨?_, ?_, h3, h6⟩
      · have h7 : ((evens w).all (fun x => inside x 0 7) && (odds w).all weightOk) = true := by
          rw [Bool.and_eq_true]
          exact ⟨h2.1, h⟩
        rw [pairsOf_eq, if_pos ⟨h3, h7⟩]
      · intro y hy
        have h4 := (List.of_mem_zip hy).1
        rw [List.mem_map] at h4
        obtain ⟨x, hx, e⟩ := h4
        have h5 := h6 x hx
        omega

theorem argsOk_nil (rs : List (Int × Int)) : argsOk [] rs = true := by cases rs <;> rfl
theorem arg_in {v lo hi : Int} {a : List Int} {rs : List (Int × Int)} : argsOk (v :: a) ((lo, hi) :: rs) = (inside v lo hi && argsOk a rs) := by
  show (if v < lo ∨ v > hi then false else argsOk a rs) = _
  by_cases h : v < lo ∨ v > hi
  · rw [if_pos h]
    have : inside v lo hi = false := by
      rw [Bool.eq_false_iff]
      intro q
      have := inside_iff.mp q
      omega
    rw [this]; rfl
  · rw [if_neg h, inside_iff.mpr (by omega)]; rfl

theorem decode_form {c : List (List Int)} {p : Int} {a : List Int} {r : Option (List Int)} (h : Form c p a r) : ∃ d, decode c = some d ∧ inRange d = callOk p a r := by
  cases h with
  | c0 n t l => exact ⟨_, rfl, by simp [inRange, callOk, rngs, arg_in, argsOk_nil, rowOk]⟩
  | c1 o c f => exact ⟨_, rfl, by simp [inRange, callOk, rngs, arg_in, argsOk_nil, rowOk, ← facts_attack, Bool.and_assoc]⟩
  | c2 p w => exact ⟨_, rfl, by
      show (inside p 0 3 && (!w.isEmpty && (pairsOf w).any risingPairs)) = _
      rw [pairs_ok]
      simp [callOk, rngs, arg_in, argsOk_nil, rowOk]⟩
  | c3 m => exact ⟨_, rfl, by simp [inRange, callOk, rngs, arg_in, argsOk_nil, rowOk]⟩
  | c4 n => exact ⟨_, rfl, by simp [inRange, callOk, rngs, arg_in, argsOk_nil, rowOk]⟩
  | c5 => exact ⟨_, rfl, by simp [inRange, callOk, rngs, arg_in, argsOk_nil, rowOk]⟩
  | c6 p m => exact ⟨_, rfl, by simp [inRange, callOk, rngs, arg_in, argsOk_nil, rowOk]⟩
  | c7 o => exact ⟨_, rfl, by simp [inRange, callOk, rngs, arg_in, argsOk_nil, rowOk]⟩
  | c8 => exact ⟨_, rfl, by simp [inRange, callOk, rngs, arg_in, argsOk_nil, rowOk]⟩
  | c9 => exact ⟨_, rfl, by simp [inRange, callOk, rngs, arg_in, argsOk_nil, rowOk]⟩
  | c10 c f => exact ⟨_, rfl, by simp [inRange, callOk, rngs, arg_in, argsOk_nil, rowOk]⟩
  | c11 c => exact ⟨_, rfl, by simp [inRange, callOk, rngs, arg_in, argsOk_nil, rowOk]⟩
  | c12 c => exact ⟨_, rfl, by simp [inRange, callOk, rngs, arg_in, argsOk_nil, rowOk]⟩
  | c13 i => exact ⟨_, rfl, by simp [inRange, callOk, rngs, arg_in, argsOk_nil, rowOk]⟩
  | c14 c => exact ⟨_, rfl, by simp [inRange, callOk, rngs, arg_in, argsOk_nil, rowOk]⟩
  | c15 i => exact ⟨_, rfl, by simp [inRange, callOk, rngs, arg_in, argsOk_nil, rowOk]⟩
  | c16 => exact ⟨_, rfl, by simp [inRange, callOk, rngs, arg_in, argsOk_nil, rowOk]⟩
  | c17 => exact ⟨_, rfl, by simp [inRange, callOk, rngs, arg_in, argsOk_nil, rowOk]⟩
  | c18 => exact ⟨_, rfl, by simp [inRange, callOk, rngs, arg_in, argsOk_nil, rowOk]⟩
  | c19 => exact ⟨_, rfl, by simp [inRange, callOk, rngs, arg_in, argsOk_nil, rowOk]⟩
end Op


namespace Op
open Vbptam
open PySem (Builtin)
theorem bitNot_not (x : Int) : PySem.Builtin.bitNot (PySem.Builtin.bitNot x) = x := by
  unfold PySem.Builtin.bitNot
  omega
theorem bitAnd_nn (m a : Nat) : PySem.Builtin.bitAnd (m : Int) (a : Int) = ((m &&& a : Nat) : Int) := by
  unfold PySem.Builtin.bitAnd
  rw [decide_eq_true (show (0 : Int) ≤ (m : Int) by omega), decide_eq_true (show (0 : Int) ≤ (a : Int) by omega)]
  rfl
theorem bitAnd_not (m a : Nat) : PySem.Builtin.bitAnd (m : Int) (PySem.Builtin.bitNot (a : Int)) = ((m - (m &&& a) : Nat) : Int) := by
  have h : ¬ (0 : Int) ≤ PySem.Builtin.bitNot (a : Int) := by unfold PySem.Builtin.bitNot; omega
  unfold PySem.Builtin.bitAnd
  rw [decide_eq_true (show (0 : Int) ≤ (m : Int) by omega), decide_eq_false h, bitNot_not]
  show (m : Int) - (((m : Int).toNat &&& (a : Int).toNat : Nat) : Int) = _
  rw [Int.toNat_natCast, Int.toNat_natCast]
  have hle : m &&& a ≤ m := Nat.and_le_left
  omega
theorem bitOr_nn (m a : Nat) : PySem.Builtin.bitOr (m : Int) (a : Int) = ((m ||| a : Nat) : Int) := by
  unfold PySem.Builtin.bitOr
  have h1 : ¬ (0 : Int) ≤ PySem.Builtin.bitNot (m : Int) := by unfold PySem.Builtin.bitNot; omega
  have h2 : ¬ (0 : Int) ≤ PySem.Builtin.bitNot (a : Int) := by unfold PySem.Builtin.bitNot; omega
  have e : PySem.Builtin.bitAnd (PySem.Builtin.bitNot (m : Int)) (PySem.Builtin.bitNot (a : Int)) = PySem.Builtin.bitNot ((m ||| a : Nat) : Int) := by
    unfold PySem.Builtin.bitAnd
    rw [decide_eq_false h1, decide_eq_false h2, bitNot_not, bitNot_not]
    rfl
  rw [e, bitNot_not]
theorem within_testBit {m a : Nat} : within_ m a = true ↔ ∀ c, c < 6 → m.testBit c = true → a.testBit c = true := by
  unfold within_
  rw [List.all_eq_true]
  constructor
  · intro h c hc hm
    exact h c (mem_claims.mpr ⟨hc, hm⟩)
  · intro h c hc
    have := mem_claims.mp hc
    exact h c this.1 this.2
theorem within_bits {m a : Nat} (hm : m < 64) (ha : a < 64) : decide (PySem.Builtin.bitAnd (m : Int) (PySem.Builtin.bitNot (a : Int)) = 0) = within_ m a := by
  rw [bitAnd_not, within_iff m hm a ha, decide_eq_decide]
  have hle : m &&& a ≤ m := Nat.and_le_left
  generalize m &&& a = q at hle ⊢
  constructor
  · intro h
    have : m - q = 0 := by exact_mod_cast h
    omega
  · intro h
    subst h
    simp
theorem and_zero {m k : Nat} (hm : m < 64) : m &&& k = 0 ↔ ∀ c, c < 6 → m.testBit c = true → k.testBit c = false := by
  constructor
  · intro h c _ hc
    have : (m &&& k).testBit c = false := by rw [h]; simp
    rw [Nat.testBit_and, hc] at this
    simpa using this
  · intro h
    apply mask_ext (Nat.lt_of_le_of_lt Nat.and_le_left hm) (by decide)
    intro c hc
    rw [Nat.testBit_and]
    cases e : m.testBit c
    · simp
    · rw [h c hc e]; simp
theorem owner_bits {m f k : Nat} (hm : m < 64) : within_ m (less f k) = (within_ m f && decide (PySem.Builtin.bitAnd (m : Int) (k : Int) = 0)) := by
  rw [Bool.eq_iff_iff, Bool.and_eq_true, decide_eq_true_iff, bitAnd_nn, within_testBit, within_testBit]
  have e : ((m &&& k : Nat) : Int) = 0 ↔ m &&& k = 0 := by omega
  rw [e, and_zero hm]
  constructor
  · intro h
    refine ⟨fun c hc hb => ?_, fun c hc hb => ?_⟩
    · have := h c hc hb
      rw [less_testBit hc, Bool.and_eq_true] at this
      exact this.1
    · have := h c hc hb
      rw [less_testBit hc, Bool.and_eq_true] at this
      simpa using this.2
  · rintro ⟨h1, h2⟩ c hc hb
    rw [less_testBit hc, h1 c hc hb, h2 c hc hb]
    rfl
theorem step_owner (x m st : Nat) : PySem.Builtin.bitOr (x : Int) (PySem.Builtin.bitAnd (m : Int) (st : Int)) = ((stepOut st x (3, m) : Nat) : Int) := by
  rw [bitAnd_nn, bitOr_nn]
  rfl
theorem step_opp {p : Nat} (hp : p ≠ 3) (x m st : Nat) : PySem.Builtin.bitAnd (x : Int) (PySem.Builtin.bitNot (PySem.Builtin.bitAnd (m : Int) (PySem.Builtin.bitNot (st : Int)))) = ((stepOut st x (p, m) : Nat) : Int) := by
  rw [bitAnd_not m st, bitAnd_not]
  unfold stepOut
  rw [if_neg hp]
end Op


namespace Op
theorem pick_ev : ∀ l : List Int, (List.range ((l.length + 1) / 2)).filterMap (fun k => l[2 * k]?) = evens l
  | [] => rfl
  | [a] => by simp [evens, odds]
  | a :: b :: l => by
    have ih := pick_ev l
    have e : ((a :: b :: l).length + 1) / 2 = (l.length + 1) / 2 + 1 := by
      simp only [List.length_cons]; omega
    rw [e, List.range_succ_eq_map, List.filterMap_cons]
    show (a :: List.filterMap (fun k => (a :: b :: l)[2 * k]?) ((List.range ((l.length + 1) / 2)).map Nat.succ)) = a :: evens l
    rw [List.filterMap_map, ← ih]
    congr 1
theorem pick_od : ∀ l : List Int, (List.range (l.length / 2)).filterMap (fun k => l[2 * k + 1]?) = odds l
  | [] => rfl
  | [a] => by simp [evens, odds]
  | a :: b :: l => by
    have ih := pick_od l
    have e : (a :: b :: l).length / 2 = l.length / 2 + 1 := by
      simp only [List.length_cons]; omega
    rw [e, List.range_succ_eq_map, List.filterMap_cons]
    show (b :: List.filterMap (fun k => (a :: b :: l)[2 * k + 1]?) ((List.range (l.length / 2)).map Nat.succ)) = b :: odds l
    rw [List.filterMap_map, ← ih]
    congr 1
end Op


namespace Op
open Vbptam
theorem subsets_len : ∀ (l : List Nat) (k : Nat) (r : List Nat), r ∈ subsets k l → r.length = k
  | l, 0, r, h => by
    have h : r ∈ [[]] := by
      cases l <;> exact h
    rw [List.mem_singleton] at h
    rw [h]; rfl
  | [], k + 1, r, h => by cases h
  | a :: l, k + 1, r, h => by
    have h : r ∈ ((subsets k l).map fun r => a :: r) ++ subsets (k + 1) l := h
    rw [List.mem_append, List.mem_map] at h
    rcases h with ⟨q, hq, rfl⟩ | h
    · rw [List.length_cons, subsets_len l k q hq]
    · exact subsets_len l (k + 1) r h
theorem fewest_len (l : List (List Nat)) : (fewest l).length ≤ 8 := by
  unfold fewest
  cases h : (List.range (FACTS + 1)).findSome? fun k => (subsets k (List.range FACTS)).find? fun r => l.all fun fs => fs.any fun f => r.contains f with
  | none => simp
  | some r =>
    obtain ⟨k, hk, h2⟩ := List.exists_of_findSome?_eq_some h
    have h3 := subsets_len _ _ _ (List.mem_of_find?_eq_some h2)
    have h4 := List.mem_range.mp hk
    show r.length ≤ 8
    rw [h3]
    have : FACTS = 8 := rfl
    omega
theorem act_len {s : State} (I : SInv s) (hq : s.requests.length ≤ 6) (ha : s.appeals.length ≤ 8) (hx : ∀ x ∈ s.pieces, (row x).length ≤ 30) (d : Call) : (act s d).2.length ≤ 30 := by
  cases d with
  | case n t l => show 1 ≤ 30; decide
  | attack o c f =>
    unfold act bring
    dsimp only
    split
    · show 1 ≤ 30; decide
    · split
      · show 1 ≤ 30; decide
      · split <;> (show 1 ≤ 30; decide)
  | proof p w =>
    unfold act bring
    dsimp only
    split
    · show 1 ≤ 30; decide
    · split <;> (show 1 ≤ 30; decide)
  | request m =>
    unfold act
    dsimp only
    split
    · show 1 ≤ 30; decide
    · split
      · show 1 ≤ 30; decide
      · split <;> (show 1 ≤ 30; decide)
  | tick n =>
    unfold act
    dsimp only
    split
    · show 1 ≤ 30; decide
    · split <;> (show 1 ≤ 30; decide)
  | decide_ =>
    unfold act
    dsimp only
    split
    · show 1 ≤ 30; decide
    · show 2 ≤ 30; decide
  | appeal p m =>
    unfold act
    dsimp only
    (repeat' split) <;> (show 1 ≤ 30; decide)
  | withdraw o =>
    unfold act
    dsimp only
    split <;> (show 1 ≤ 30; decide)
  | close =>
    unfold act
    dsimp only
    split <;> (show 1 ≤ 30; decide)
  | alive =>
    unfold act
    dsimp only
    split <;> (show 1 ≤ 30; decide)
  | fact c f =>
    unfold act
    dsimp only
    split
    · show 1 ≤ 30; decide
    · split
      · show 1 ≤ 30; decide
      · show 2 ≤ 30; decide
  | why c =>
    unfold act
    dsimp only
    split
    · show 1 ≤ 30; decide
    · split
      · show 1 ≤ 30; decide
      · dsimp only
        split
        · show 2 ≤ 30; decide
        · show 1 ≤ 30; decide
  | fewest c =>
    unfold act
    dsimp only
    split
    · show 1 ≤ 30; decide
    · split
      · show 1 ≤ 30; decide
      · show (counted (fewest (live s c.toNat))).length ≤ 30
        unfold counted «ints»
        rw [List.length_cons, List.length_map]
        have := fewest_len (live s c.toNat)
        omega
  | without i =>
    unfold act
    dsimp only
    split
    · show 1 ≤ 30; decide
    · split <;> (show 1 ≤ 30; decide)
  | letIn c =>
    unfold act
    dsimp only
    split
    · show 1 ≤ 30; decide
    · split
      · show 1 ≤ 30; decide
      · show (counted ((let_ s c.toNat).map fun b => if b = true then 1 else 0)).length ≤ 30
        unfold counted «ints»
        rw [List.length_cons, List.length_map, List.length_map, let_length I]
        have := I.pl
        omega
  | piece i =>
    unfold act
    dsimp only
    split
    · show 1 ≤ 30; decide
    · rename_i x hx'
      exact hx x (List.mem_of_getElem? hx')
  | requests =>
    show (counted s.requests).length ≤ 30
    unfold counted «ints»
    rw [List.length_cons, List.length_map]
    omega
  | appeals =>
    show ((s.appeals.length : Int) :: Vbptam.ints (s.appeals.flatMap fun a => [a.1, a.2])).length ≤ 30
    unfold «ints»
    rw [List.length_cons, List.length_map]
    have : (s.appeals.flatMap fun a => [a.1, a.2]).length = 2 * s.appeals.length := by
      generalize s.appeals = l
      induction l with
      | nil => rfl
      | cons a l ih => rw [List.flatMap_cons, List.length_append, ih, List.length_cons]; simp; omega
    omega
  | status => show 8 ≤ 30; decide
  | would =>
    unfold act
    dsimp only
    split
    · show 2 ≤ 30; decide
    · split <;> (show 1 ≤ 30; decide)
theorem step_len {s : State} (I : SInv s) (hq : s.requests.length ≤ 6) (ha : s.appeals.length ≤ 8) (hx : ∀ x ∈ s.pieces, (row x).length ≤ 30) (c : List (List Int)) : (step s c).2.length ≤ 30 := by
  unfold step
  split
  · show 1 ≤ 30; decide
  · split
    · show 1 ≤ 30; decide
    · exact act_len I hq ha hx _
theorem asked_row {c : List (List Int)} {p : Int} {a : List Int} {r : Option (List Int)} (h : Form c p a r) (hq : VbptamNeutral.asked1 c = true) : ∀ f, r = some f → f.length ≤ 20 := by
  intro f hf
  cases h with
  | c1 o c f' =>
    cases hf
    have hq : (VbptamNeutral.whole64 o && (VbptamNeutral.whole64 c && ((f.all VbptamNeutral.whole64 && decide (f.length ≤ 20))))) = true := hq
    simp only [Bool.and_eq_true, decide_eq_true_eq] at hq
    exact hq.2.2.2
  | c2 p f' =>
    cases hf
    have hq : (VbptamNeutral.whole64 p && ((f.all VbptamNeutral.whole64 && decide (f.length ≤ 20)))) = true := hq
    simp only [Bool.and_eq_true, decide_eq_true_eq] at hq
    exact hq.2.2
  | _ => cases hf
end Op


set_option Elab.async false
set_option linter.all false
set_option maxRecDepth 100000
set_option maxHeartbeats 4000000
namespace Op
open PySem PySem.Spec PyProof.Rows L2
def top (i : Nat) : Stmt := PySem.Challenge.pw_oppositions_s01_answers.main.body.getD i (.Pass ⟨0, 0, 0, 0⟩)
abbrev s_Piece_init : Stmt := inClass (top 2) 0
abbrev s_is_proof : Stmt := top 3
abbrev s_added_up : Stmt := top 4
abbrev s_Counted_init : Stmt := inClass (top 5) 0
abbrev s_Counted_is_proven : Stmt := inClass (top 5) 1
abbrev s_Counted_is_brought_down_by : Stmt := inClass (top 5) 2
abbrev s_Counted_proven_attacks : Stmt := inClass (top 5) 3
abbrev s_Counted_stands : Stmt := inClass (top 5) 4
abbrev s_Counted_joined_by : Stmt := inClass (top 5) 5
abbrev s_Counted_weighed_with : Stmt := inClass (top 5) 6
abbrev s_Counted_less : Stmt := inClass (top 5) 7
abbrev s_nothing_counted : Stmt := top 6
abbrev s_claims_that_stand : Stmt := top 14
abbrev s_weighed_on : Stmt := top 15
abbrev s_Dispute_init : Stmt := inClass (top 16) 0
abbrev s_Dispute_wipe : Stmt := inClass (top 16) 1
abbrev s_Dispute_begin : Stmt := inClass (top 16) 2
abbrev s_Dispute_all_claims : Stmt := inClass (top 16) 3
abbrev s_Dispute_has_claims : Stmt := inClass (top 16) 4
abbrev s_Dispute_is_running : Stmt := inClass (top 16) 5
abbrev s_Dispute_is_behind_limit : Stmt := inClass (top 16) 6
abbrev s_Dispute_is_behind_appeals : Stmt := inClass (top 16) 7
abbrev s_Dispute_bring : Stmt := inClass (top 16) 8
abbrev s_Dispute_standing : Stmt := inClass (top 16) 9
abbrev s_Dispute_standing_without : Stmt := inClass (top 16) 10
abbrev s_Dispute_granted : Stmt := inClass (top 16) 11
abbrev s_Dispute_decide : Stmt := inClass (top 16) 12
abbrev s_Dispute_may_name : Stmt := inClass (top 16) 13
abbrev s_Dispute_outcome_now : Stmt := inClass (top 16) 14
abbrev s_Dispute_fix_outcome : Stmt := inClass (top 16) 15
abbrev s_begin_case : Stmt := top 26
abbrev s_bring_piece : Stmt := top 27
abbrev s_attack : Stmt := top 28
abbrev s_prove : Stmt := top 29
abbrev s_request : Stmt := top 30
abbrev s_tick : Stmt := top 31
abbrev s_decide : Stmt := top 32
abbrev s_appeal : Stmt := top 33
abbrev s_withdraw : Stmt := top 34
abbrev s_close_case : Stmt := top 35
abbrev s_answer_change : Stmt := top 37
abbrev s_has_one_of_each : Stmt := top 39
abbrev s_one_longer : Stmt := top 40
abbrev s_fewest_facts : Stmt := top 41
abbrev s_as_number : Stmt := top 43
abbrev s_alive : Stmt := top 44
abbrev s_counted_as_asked : Stmt := top 45
abbrev s_tell_fact : Stmt := top 46
abbrev s_tell_why : Stmt := top 47
abbrev s_tell_fewest : Stmt := top 48
abbrev s_tell_let_in : Stmt := top 49
abbrev s_about_claim : Stmt := top 51
abbrev s_without : Stmt := top 52
abbrev s_facts_and_weights : Stmt := top 53
abbrev s_tell_piece : Stmt := top 54
abbrev s_tell_requests : Stmt := top 55
abbrev s_tell_appeals : Stmt := top 56
abbrev s_status : Stmt := top 57
abbrev s_would : Stmt := top 58
abbrev s_answer_question : Stmt := top 60
abbrev s_Call_init : Stmt := inClass (top 68) 0
abbrev s_Call_width : Stmt := inClass (top 68) 1
abbrev s_read_call : Stmt := top 69
abbrev s_split_calls : Stmt := top 70
abbrev s_are_facts : Stmt := top 71
abbrev s_is_weight : Stmt := top 72
abbrev s_are_facts_and_weights : Stmt := top 73
abbrev s_is_row_as_told : Stmt := top 74
abbrev s_is_as_told : Stmt := top 75
abbrev s_answer_call : Stmt := top 78
abbrev s_answers : Stmt := top 79
theorem sc_Piece_init : FnScope ["self", "number", "bringer", "late", "claim", "facts", "weights"] ["self", "number", "bringer", "late", "claim", "facts", "weights"] (defScope s_Piece_init) := ⟨rfl, rfl, rfl, by decide +kernel, rfl, by decide +kernel, by decide +kernel⟩
theorem sc_is_proof : FnScope ["piece"] ["piece"] (defScope s_is_proof) := ⟨rfl, rfl, rfl, by decide +kernel, rfl, by decide +kernel, by decide +kernel⟩
theorem sc_added_up : FnScope ["support", "piece", "after", "fact", "weight"] ["support", "piece"] (defScope s_added_up) := ⟨rfl, rfl, rfl, by decide +kernel, rfl, by decide +kernel, by decide +kernel⟩
theorem sc_Counted_init : FnScope ["self", "claim", "bar", "pieces", "support"] ["self", "claim", "bar", "pieces", "support"] (defScope s_Counted_init) := ⟨rfl, rfl, rfl, by decide +kernel, rfl, by decide +kernel, by decide +kernel⟩
theorem sc_Counted_is_proven : FnScope ["self", "fact"] ["self", "fact"] (defScope s_Counted_is_proven) := ⟨rfl, rfl, rfl, by decide +kernel, rfl, by decide +kernel, by decide +kernel⟩
theorem sc_Counted_is_brought_down_by : FnScope ["self", "piece", "fact"] ["self", "piece"] (defScope s_Counted_is_brought_down_by) := ⟨rfl, rfl, rfl, by decide +kernel, rfl, by decide +kernel, by decide +kernel⟩
theorem sc_Counted_proven_attacks : FnScope ["self", "piece"] ["self"] (defScope s_Counted_proven_attacks) := ⟨rfl, rfl, rfl, by decide +kernel, rfl, by decide +kernel, by decide +kernel⟩
theorem sc_Counted_stands : FnScope ["self"] ["self"] (defScope s_Counted_stands) := ⟨rfl, rfl, rfl, by decide +kernel, rfl, by decide +kernel, by decide +kernel⟩
theorem sc_Counted_joined_by : FnScope ["self", "piece"] ["self", "piece"] (defScope s_Counted_joined_by) := ⟨rfl, rfl, rfl, by decide +kernel, rfl, by decide +kernel, by decide +kernel⟩
theorem sc_Counted_weighed_with : FnScope ["self", "piece", "joined"] ["self", "piece"] (defScope s_Counted_weighed_with) := ⟨rfl, rfl, rfl, by decide +kernel, rfl, by decide +kernel, by decide +kernel⟩
theorem sc_Counted_less : FnScope ["self", "number", "fewer", "piece"] ["self", "number"] (defScope s_Counted_less) := ⟨rfl, rfl, rfl, by decide +kernel, rfl, by decide +kernel, by decide +kernel⟩
theorem sc_nothing_counted : FnScope ["claim", "bar"] ["claim", "bar"] (defScope s_nothing_counted) := ⟨rfl, rfl, rfl, by decide +kernel, rfl, by decide +kernel, by decide +kernel⟩
theorem sc_claims_that_stand : FnScope ["every", "counted"] ["every"] (defScope s_claims_that_stand) := ⟨rfl, rfl, rfl, by decide +kernel, rfl, by decide +kernel, by decide +kernel⟩
theorem sc_weighed_on : FnScope ["counted", "pieces", "piece"] ["counted", "pieces"] (defScope s_weighed_on) := ⟨rfl, rfl, rfl, by decide +kernel, rfl, by decide +kernel, by decide +kernel⟩
theorem sc_Dispute_init : FnScope ["self"] ["self"] (defScope s_Dispute_init) := ⟨rfl, rfl, rfl, by decide +kernel, rfl, by decide +kernel, by decide +kernel⟩
theorem sc_Dispute_wipe : FnScope ["self"] ["self"] (defScope s_Dispute_wipe) := ⟨rfl, rfl, rfl, by decide +kernel, rfl, by decide +kernel, by decide +kernel⟩
theorem sc_Dispute_begin : FnScope ["self", "claims", "bar", "limit", "claim"] ["self", "claims", "bar", "limit"] (defScope s_Dispute_begin) := ⟨rfl, rfl, rfl, by decide +kernel, rfl, by decide +kernel, by decide +kernel⟩
theorem sc_Dispute_all_claims : FnScope ["self"] ["self"] (defScope s_Dispute_all_claims) := ⟨rfl, rfl, rfl, by decide +kernel, rfl, by decide +kernel, by decide +kernel⟩
theorem sc_Dispute_has_claims : FnScope ["self", "named"] ["self", "named"] (defScope s_Dispute_has_claims) := ⟨rfl, rfl, rfl, by decide +kernel, rfl, by decide +kernel, by decide +kernel⟩
theorem sc_Dispute_is_running : FnScope ["self"] ["self"] (defScope s_Dispute_is_running) := ⟨rfl, rfl, rfl, by decide +kernel, rfl, by decide +kernel, by decide +kernel⟩
theorem sc_Dispute_is_behind_limit : FnScope ["self"] ["self"] (defScope s_Dispute_is_behind_limit) := ⟨rfl, rfl, rfl, by decide +kernel, rfl, by decide +kernel, by decide +kernel⟩
theorem sc_Dispute_is_behind_appeals : FnScope ["self"] ["self"] (defScope s_Dispute_is_behind_appeals) := ⟨rfl, rfl, rfl, by decide +kernel, rfl, by decide +kernel, by decide +kernel⟩
theorem sc_Dispute_bring : FnScope ["self", "bringer", "claim", "facts", "weights", "piece", "counted"] ["self", "bringer", "claim", "facts", "weights"] (defScope s_Dispute_bring) := ⟨rfl, rfl, rfl, by decide +kernel, rfl, by decide +kernel, by decide +kernel⟩
theorem sc_Dispute_standing : FnScope ["self"] ["self"] (defScope s_Dispute_standing) := ⟨rfl, rfl, rfl, by decide +kernel, rfl, by decide +kernel, by decide +kernel⟩
theorem sc_Dispute_standing_without : FnScope ["self", "number", "piece", "since", "settled"] ["self", "number"] (defScope s_Dispute_standing_without) := ⟨rfl, rfl, rfl, by decide +kernel, rfl, by decide +kernel, by decide +kernel⟩
theorem sc_Dispute_granted : FnScope ["self", "standing", "number", "request"] ["self"] (defScope s_Dispute_granted) := ⟨rfl, rfl, rfl, by decide +kernel, rfl, by decide +kernel, by decide +kernel⟩
theorem sc_Dispute_decide : FnScope ["self", "granted"] ["self"] (defScope s_Dispute_decide) := ⟨rfl, rfl, rfl, by decide +kernel, rfl, by decide +kernel, by decide +kernel⟩
theorem sc_Dispute_may_name : FnScope ["self", "party", "named"] ["self", "party", "named"] (defScope s_Dispute_may_name) := ⟨rfl, rfl, rfl, by decide +kernel, rfl, by decide +kernel, by decide +kernel⟩
theorem sc_Dispute_outcome_now : FnScope ["self", "standing", "claims", "party", "named"] ["self"] (defScope s_Dispute_outcome_now) := ⟨rfl, rfl, rfl, by decide +kernel, rfl, by decide +kernel, by decide +kernel⟩
theorem sc_Dispute_fix_outcome : FnScope ["self"] ["self"] (defScope s_Dispute_fix_outcome) := ⟨rfl, rfl, rfl, by decide +kernel, rfl, by decide +kernel, by decide +kernel⟩
theorem sc_begin_case : FnScope ["dispute", "call"] ["dispute", "call"] (defScope s_begin_case) := ⟨rfl, rfl, rfl, by decide +kernel, rfl, by decide +kernel, by decide +kernel⟩
theorem sc_bring_piece : FnScope ["dispute", "bringer", "claim", "facts", "weights"] ["dispute", "bringer", "claim", "facts", "weights"] (defScope s_bring_piece) := ⟨rfl, rfl, rfl, by decide +kernel, rfl, by decide +kernel, by decide +kernel⟩
theorem sc_attack : FnScope ["dispute", "call", "claim"] ["dispute", "call"] (defScope s_attack) := ⟨rfl, rfl, rfl, by decide +kernel, rfl, by decide +kernel, by decide +kernel⟩
theorem sc_prove : FnScope ["dispute", "call"] ["dispute", "call"] (defScope s_prove) := ⟨rfl, rfl, rfl, by decide +kernel, rfl, by decide +kernel, by decide +kernel⟩
theorem sc_request : FnScope ["dispute", "call", "named"] ["dispute", "call"] (defScope s_request) := ⟨rfl, rfl, rfl, by decide +kernel, rfl, by decide +kernel, by decide +kernel⟩
theorem sc_tick : FnScope ["dispute", "call"] ["dispute", "call"] (defScope s_tick) := ⟨rfl, rfl, rfl, by decide +kernel, rfl, by decide +kernel, by decide +kernel⟩
theorem sc_decide : FnScope ["dispute", "call"] ["dispute", "call"] (defScope s_decide) := ⟨rfl, rfl, rfl, by decide +kernel, rfl, by decide +kernel, by decide +kernel⟩
theorem sc_appeal : FnScope ["dispute", "call", "party", "named"] ["dispute", "call"] (defScope s_appeal) := ⟨rfl, rfl, rfl, by decide +kernel, rfl, by decide +kernel, by decide +kernel⟩
theorem sc_withdraw : FnScope ["dispute", "call", "before", "made"] ["dispute", "call"] (defScope s_withdraw) := ⟨rfl, rfl, rfl, by decide +kernel, rfl, by decide +kernel, by decide +kernel⟩
theorem sc_close_case : FnScope ["dispute", "call"] ["dispute", "call"] (defScope s_close_case) := ⟨rfl, rfl, rfl, by decide +kernel, rfl, by decide +kernel, by decide +kernel⟩
theorem sc_answer_change : FnScope ["dispute", "call"] ["dispute", "call"] (defScope s_answer_change) := ⟨rfl, rfl, rfl, by decide +kernel, rfl, by decide +kernel, by decide +kernel⟩
theorem sc_has_one_of_each : FnScope ["facts", "attacks", "piece", "fact"] ["facts", "attacks"] (defScope s_has_one_of_each) := ⟨rfl, rfl, rfl, by decide +kernel, rfl, by decide +kernel, by decide +kernel⟩
theorem sc_one_longer : FnScope ["facts", "first", "fact"] ["facts"] (defScope s_one_longer) := ⟨rfl, rfl, rfl, by decide +kernel, rfl, by decide +kernel, by decide +kernel⟩
theorem sc_fewest_facts : FnScope ["attacks", "choices", "at"] ["attacks"] (defScope s_fewest_facts) := ⟨rfl, rfl, rfl, by decide +kernel, rfl, by decide +kernel, by decide +kernel⟩
theorem sc_as_number : FnScope ["truth"] ["truth"] (defScope s_as_number) := ⟨rfl, rfl, rfl, by decide +kernel, rfl, by decide +kernel, by decide +kernel⟩
theorem sc_alive : FnScope ["dispute", "call"] ["dispute", "call"] (defScope s_alive) := ⟨rfl, rfl, rfl, by decide +kernel, rfl, by decide +kernel, by decide +kernel⟩
theorem sc_counted_as_asked : FnScope ["dispute", "call"] ["dispute", "call"] (defScope s_counted_as_asked) := ⟨rfl, rfl, rfl, by decide +kernel, rfl, by decide +kernel, by decide +kernel⟩
theorem sc_tell_fact : FnScope ["dispute", "call", "counted", "fact"] ["dispute", "call"] (defScope s_tell_fact) := ⟨rfl, rfl, rfl, by decide +kernel, rfl, by decide +kernel, by decide +kernel⟩
theorem sc_tell_why : FnScope ["dispute", "call", "attacks"] ["dispute", "call"] (defScope s_tell_why) := ⟨rfl, rfl, rfl, by decide +kernel, rfl, by decide +kernel, by decide +kernel⟩
theorem sc_tell_fewest : FnScope ["dispute", "call", "facts"] ["dispute", "call"] (defScope s_tell_fewest) := ⟨rfl, rfl, rfl, by decide +kernel, rfl, by decide +kernel, by decide +kernel⟩
theorem sc_tell_let_in : FnScope ["dispute", "call", "piece", "numbers"] ["dispute", "call"] (defScope s_tell_let_in) := ⟨rfl, rfl, rfl, by decide +kernel, rfl, by decide +kernel, by decide +kernel⟩
theorem sc_about_claim : FnScope ["dispute", "call"] ["dispute", "call"] (defScope s_about_claim) := ⟨rfl, rfl, rfl, by decide +kernel, rfl, by decide +kernel, by decide +kernel⟩
theorem sc_without : FnScope ["dispute", "call", "number"] ["dispute", "call"] (defScope s_without) := ⟨rfl, rfl, rfl, by decide +kernel, rfl, by decide +kernel, by decide +kernel⟩
theorem sc_facts_and_weights : FnScope ["piece", "row", "fact", "weight"] ["piece"] (defScope s_facts_and_weights) := ⟨rfl, rfl, rfl, by decide +kernel, rfl, by decide +kernel, by decide +kernel⟩
theorem sc_tell_piece : FnScope ["dispute", "call", "number", "piece", "ahead"] ["dispute", "call"] (defScope s_tell_piece) := ⟨rfl, rfl, rfl, by decide +kernel, rfl, by decide +kernel, by decide +kernel⟩
theorem sc_tell_requests : FnScope ["dispute", "call"] ["dispute", "call"] (defScope s_tell_requests) := ⟨rfl, rfl, rfl, by decide +kernel, rfl, by decide +kernel, by decide +kernel⟩
theorem sc_tell_appeals : FnScope ["dispute", "call", "told", "party", "named"] ["dispute", "call"] (defScope s_tell_appeals) := ⟨rfl, rfl, rfl, by decide +kernel, rfl, by decide +kernel, by decide +kernel⟩
theorem sc_status : FnScope ["dispute", "call", "ahead"] ["dispute", "call"] (defScope s_status) := ⟨rfl, rfl, rfl, by decide +kernel, rfl, by decide +kernel, by decide +kernel⟩
theorem sc_would : FnScope ["dispute", "call"] ["dispute", "call"] (defScope s_would) := ⟨rfl, rfl, rfl, by decide +kernel, rfl, by decide +kernel, by decide +kernel⟩
theorem sc_answer_question : FnScope ["dispute", "call"] ["dispute", "call"] (defScope s_answer_question) := ⟨rfl, rfl, rfl, by decide +kernel, rfl, by decide +kernel, by decide +kernel⟩
theorem sc_Call_init : FnScope ["self", "number", "arguments", "row"] ["self", "number", "arguments", "row"] (defScope s_Call_init) := ⟨rfl, rfl, rfl, by decide +kernel, rfl, by decide +kernel, by decide +kernel⟩
theorem sc_Call_width : FnScope ["self"] ["self"] (defScope s_Call_width) := ⟨rfl, rfl, rfl, by decide +kernel, rfl, by decide +kernel, by decide +kernel⟩
theorem sc_read_call : FnScope ["numbers", "start", "number", "behind", "arguments", "first"] ["numbers", "start"] (defScope s_read_call) := ⟨rfl, rfl, rfl, by decide +kernel, rfl, by decide +kernel, by decide +kernel⟩
theorem sc_split_calls : FnScope ["numbers", "calls", "start", "call"] ["numbers"] (defScope s_split_calls) := ⟨rfl, rfl, rfl, by decide +kernel, rfl, by decide +kernel, by decide +kernel⟩
theorem sc_are_facts : FnScope ["facts", "before", "fact"] ["facts"] (defScope s_are_facts) := ⟨rfl, rfl, rfl, by decide +kernel, rfl, by decide +kernel, by decide +kernel⟩
theorem sc_is_weight : FnScope ["weight"] ["weight"] (defScope s_is_weight) := ⟨rfl, rfl, rfl, by decide +kernel, rfl, by decide +kernel, by decide +kernel⟩
theorem sc_are_facts_and_weights : FnScope ["row", "weight"] ["row"] (defScope s_are_facts_and_weights) := ⟨rfl, rfl, rfl, by decide +kernel, rfl, by decide +kernel, by decide +kernel⟩
theorem sc_is_row_as_told : FnScope ["call"] ["call"] (defScope s_is_row_as_told) := ⟨rfl, rfl, rfl, by decide +kernel, rfl, by decide +kernel, by decide +kernel⟩
theorem sc_is_as_told : FnScope ["call", "value", "bounds"] ["call"] (defScope s_is_as_told) := ⟨rfl, rfl, rfl, by decide +kernel, rfl, by decide +kernel, by decide +kernel⟩
theorem sc_answer_call : FnScope ["dispute", "call"] ["dispute", "call"] (defScope s_answer_call) := ⟨rfl, rfl, rfl, by decide +kernel, rfl, by decide +kernel, by decide +kernel⟩
theorem sc_answers : FnScope ["calls", "dispute", "told", "call", "answer"] ["calls"] (defScope s_answers) := ⟨rfl, rfl, rfl, by decide +kernel, rfl, by decide +kernel, by decide +kernel⟩
set_option genInjectivity false
set_option genSizeOf false
structure Adr where
  c_Piece : Addr
  c_Counted : Addr
  c_Dispute : Addr
  c_Call : Addr
  f_Piece_init : Addr
  fd_Piece_init : FuncData
  f_is_proof : Addr
  fd_is_proof : FuncData
  f_added_up : Addr
  fd_added_up : FuncData
  f_Counted_init : Addr
  fd_Counted_init : FuncData
  f_Counted_is_proven : Addr
  fd_Counted_is_proven : FuncData
  f_Counted_is_brought_down_by : Addr
  fd_Counted_is_brought_down_by : FuncData
  f_Counted_proven_attacks : Addr
  fd_Counted_proven_attacks : FuncData
  f_Counted_stands : Addr
  fd_Counted_stands : FuncData
  f_Counted_joined_by : Addr
  fd_Counted_joined_by : FuncData
  f_Counted_weighed_with : Addr
  fd_Counted_weighed_with : FuncData
  f_Counted_less : Addr
  fd_Counted_less : FuncData
  f_nothing_counted : Addr
  fd_nothing_counted : FuncData
  f_claims_that_stand : Addr
  fd_claims_that_stand : FuncData
  f_weighed_on : Addr
  fd_weighed_on : FuncData
  f_Dispute_init : Addr
  fd_Dispute_init : FuncData
  f_Dispute_wipe : Addr
  fd_Dispute_wipe : FuncData
  f_Dispute_begin : Addr
  fd_Dispute_begin : FuncData
  f_Dispute_all_claims : Addr
  fd_Dispute_all_claims : FuncData
  f_Dispute_has_claims : Addr
  fd_Dispute_has_claims : FuncData
  f_Dispute_is_running : Addr
  fd_Dispute_is_running : FuncData
  f_Dispute_is_behind_limit : Addr
  fd_Dispute_is_behind_limit : FuncData
  f_Dispute_is_behind_appeals : Addr
  fd_Dispute_is_behind_appeals : FuncData
  f_Dispute_bring : Addr
  fd_Dispute_bring : FuncData
  f_Dispute_standing : Addr
  fd_Dispute_standing : FuncData
  f_Dispute_standing_without : Addr
  fd_Dispute_standing_without : FuncData
  f_Dispute_granted : Addr
  fd_Dispute_granted : FuncData
  f_Dispute_decide : Addr
  fd_Dispute_decide : FuncData
  f_Dispute_may_name : Addr
  fd_Dispute_may_name : FuncData
  f_Dispute_outcome_now : Addr
  fd_Dispute_outcome_now : FuncData
  f_Dispute_fix_outcome : Addr
  fd_Dispute_fix_outcome : FuncData
  f_begin_case : Addr
  fd_begin_case : FuncData
  f_bring_piece : Addr
  fd_bring_piece : FuncData
  f_attack : Addr
  fd_attack : FuncData
  f_prove : Addr
  fd_prove : FuncData
  f_request : Addr
  fd_request : FuncData
  f_tick : Addr
  fd_tick : FuncData
  f_decide : Addr
  fd_decide : FuncData
  f_appeal : Addr
  fd_appeal : FuncData
  f_withdraw : Addr
  fd_withdraw : FuncData
  f_close_case : Addr
  fd_close_case : FuncData
  f_answer_change : Addr
  fd_answer_change : FuncData
  f_has_one_of_each : Addr
  fd_has_one_of_each : FuncData
  f_one_longer : Addr
  fd_one_longer : FuncData
  f_fewest_facts : Addr
  fd_fewest_facts : FuncData
  f_as_number : Addr
  fd_as_number : FuncData
  f_alive : Addr
  fd_alive : FuncData
  f_counted_as_asked : Addr
  fd_counted_as_asked : FuncData
  f_tell_fact : Addr
  fd_tell_fact : FuncData
  f_tell_why : Addr
  fd_tell_why : FuncData
  f_tell_fewest : Addr
  fd_tell_fewest : FuncData
  f_tell_let_in : Addr
  fd_tell_let_in : FuncData
  f_about_claim : Addr
  fd_about_claim : FuncData
  f_without : Addr
  fd_without : FuncData
  f_facts_and_weights : Addr
  fd_facts_and_weights : FuncData
  f_tell_piece : Addr
  fd_tell_piece : FuncData
  f_tell_requests : Addr
  fd_tell_requests : FuncData
  f_tell_appeals : Addr
  fd_tell_appeals : FuncData
  f_status : Addr
  fd_status : FuncData
  f_would : Addr
  fd_would : FuncData
  f_answer_question : Addr
  fd_answer_question : FuncData
  f_Call_init : Addr
  fd_Call_init : FuncData
  f_Call_width : Addr
  fd_Call_width : FuncData
  f_read_call : Addr
  fd_read_call : FuncData
  f_split_calls : Addr
  fd_split_calls : FuncData
  f_are_facts : Addr
  fd_are_facts : FuncData
  f_is_weight : Addr
  fd_is_weight : FuncData
  f_are_facts_and_weights : Addr
  fd_are_facts_and_weights : FuncData
  f_is_row_as_told : Addr
  fd_is_row_as_told : FuncData
  f_is_as_told : Addr
  fd_is_as_told : FuncData
  f_answer_call : Addr
  fd_answer_call : FuncData
  f_answers : Addr
  fd_answers : FuncData
  d_CHANGES : Addr
  v_CHANGES : List (Int × Addr)
  d_ABOUT_CLAIM : Addr
  v_ABOUT_CLAIM : List (Int × Addr)
  d_QUESTIONS : Addr
  v_QUESTIONS : List (Int × Addr)
  d_RANGES : Addr
  v_RANGES : List (Int × Addr)
structure Txt (K : PySem.W.Frag) (mg : Str → Option Value) (A : Adr) : Prop where
  C_Piece : Cls K A.c_Piece
  K_Piece : Mk K A.c_Piece A.f_Piece_init
  c_Piece : mg "Piece" = some (.ref A.c_Piece)
  a_Piece_number : NoAttr K A.c_Piece "number"
  a_Piece_bringer : NoAttr K A.c_Piece "bringer"
  a_Piece_late : NoAttr K A.c_Piece "late"
  a_Piece_claim : NoAttr K A.c_Piece "claim"
  a_Piece_facts : NoAttr K A.c_Piece "facts"
  a_Piece_weights : NoAttr K A.c_Piece "weights"
  C_Counted : Cls K A.c_Counted
  K_Counted : Mk K A.c_Counted A.f_Counted_init
  c_Counted : mg "Counted" = some (.ref A.c_Counted)
  a_Counted_claim : NoAttr K A.c_Counted "claim"
  a_Counted_bar : NoAttr K A.c_Counted "bar"
  a_Counted_pieces : NoAttr K A.c_Counted "pieces"
  a_Counted_support : NoAttr K A.c_Counted "support"
  C_Dispute : Cls K A.c_Dispute
  K_Dispute : Mk K A.c_Dispute A.f_Dispute_init
  c_Dispute : mg "Dispute" = some (.ref A.c_Dispute)
  a_Dispute_pieces : NoAttr K A.c_Dispute "pieces"
  a_Dispute_phase : NoAttr K A.c_Dispute "phase"
  a_Dispute_day : NoAttr K A.c_Dispute "day"
  a_Dispute_claims : NoAttr K A.c_Dispute "claims"
  a_Dispute_limit : NoAttr K A.c_Dispute "limit"
  a_Dispute_counted : NoAttr K A.c_Dispute "counted"
  a_Dispute_settled : NoAttr K A.c_Dispute "settled"
  a_Dispute_settled_pieces : NoAttr K A.c_Dispute "settled_pieces"
  a_Dispute_requests : NoAttr K A.c_Dispute "requests"
  a_Dispute_appeals : NoAttr K A.c_Dispute "appeals"
  a_Dispute_kept : NoAttr K A.c_Dispute "kept"
  a_Dispute_kept_request : NoAttr K A.c_Dispute "kept_request"
  a_Dispute_decision_day : NoAttr K A.c_Dispute "decision_day"
  a_Dispute_outcome : NoAttr K A.c_Dispute "outcome"
  C_Call : Cls K A.c_Call
  K_Call : Mk K A.c_Call A.f_Call_init
  c_Call : mg "Call" = some (.ref A.c_Call)
  a_Call_number : NoAttr K A.c_Call "number"
  a_Call_arguments : NoAttr K A.c_Call "arguments"
  a_Call_row : NoAttr K A.c_Call "row"
  F_Piece_init : Fun K "__init__" "Piece.__init__" s_Piece_init A.f_Piece_init A.fd_Piece_init
  F_is_proof : Fun K "is_proof" "is_proof" s_is_proof A.f_is_proof A.fd_is_proof
  m_is_proof : mg "is_proof" = some (.ref A.f_is_proof)
  F_added_up : Fun K "added_up" "added_up" s_added_up A.f_added_up A.fd_added_up
  m_added_up : mg "added_up" = some (.ref A.f_added_up)
  F_Counted_init : Fun K "__init__" "Counted.__init__" s_Counted_init A.f_Counted_init A.fd_Counted_init
  F_Counted_is_proven : Fun K "is_proven" "Counted.is_proven" s_Counted_is_proven A.f_Counted_is_proven A.fd_Counted_is_proven
  M_Counted_is_proven : Meth K A.c_Counted "is_proven" A.f_Counted_is_proven
  F_Counted_is_brought_down_by : Fun K "is_brought_down_by" "Counted.is_brought_down_by" s_Counted_is_brought_down_by A.f_Counted_is_brought_down_by A.fd_Counted_is_brought_down_by
  M_Counted_is_brought_down_by : Meth K A.c_Counted "is_brought_down_by" A.f_Counted_is_brought_down_by
  F_Counted_proven_attacks : Fun K "proven_attacks" "Counted.proven_attacks" s_Counted_proven_attacks A.f_Counted_proven_attacks A.fd_Counted_proven_attacks
  M_Counted_proven_attacks : Meth K A.c_Counted "proven_attacks" A.f_Counted_proven_attacks
  F_Counted_stands : Fun K "stands" "Counted.stands" s_Counted_stands A.f_Counted_stands A.fd_Counted_stands
  M_Counted_stands : Meth K A.c_Counted "stands" A.f_Counted_stands
  F_Counted_joined_by : Fun K "joined_by" "Counted.joined_by" s_Counted_joined_by A.f_Counted_joined_by A.fd_Counted_joined_by
  M_Counted_joined_by : Meth K A.c_Counted "joined_by" A.f_Counted_joined_by
  F_Counted_weighed_with : Fun K "weighed_with" "Counted.weighed_with" s_Counted_weighed_with A.f_Counted_weighed_with A.fd_Counted_weighed_with
  M_Counted_weighed_with : Meth K A.c_Counted "weighed_with" A.f_Counted_weighed_with
  F_Counted_less : Fun K "less" "Counted.less" s_Counted_less A.f_Counted_less A.fd_Counted_less
  M_Counted_less : Meth K A.c_Counted "less" A.f_Counted_less
  F_nothing_counted : Fun K "nothing_counted" "nothing_counted" s_nothing_counted A.f_nothing_counted A.fd_nothing_counted
  m_nothing_counted : mg "nothing_counted" = some (.ref A.f_nothing_counted)
  F_claims_that_stand : Fun K "claims_that_stand" "claims_that_stand" s_claims_that_stand A.f_claims_that_stand A.fd_claims_that_stand
  m_claims_that_stand : mg "claims_that_stand" = some (.ref A.f_claims_that_stand)
  F_weighed_on : Fun K "weighed_on" "weighed_on" s_weighed_on A.f_weighed_on A.fd_weighed_on
  m_weighed_on : mg "weighed_on" = some (.ref A.f_weighed_on)
  F_Dispute_init : Fun K "__init__" "Dispute.__init__" s_Dispute_init A.f_Dispute_init A.fd_Dispute_init
  F_Dispute_wipe : Fun K "wipe" "Dispute.wipe" s_Dispute_wipe A.f_Dispute_wipe A.fd_Dispute_wipe
  M_Dispute_wipe : Meth K A.c_Dispute "wipe" A.f_Dispute_wipe
  F_Dispute_begin : Fun K "begin" "Dispute.begin" s_Dispute_begin A.f_Dispute_begin A.fd_Dispute_begin
  M_Dispute_begin : Meth K A.c_Dispute "begin" A.f_Dispute_begin
  F_Dispute_all_claims : Fun K "all_claims" "Dispute.all_claims" s_Dispute_all_claims A.f_Dispute_all_claims A.fd_Dispute_all_claims
  M_Dispute_all_claims : Meth K A.c_Dispute "all_claims" A.f_Dispute_all_claims
  F_Dispute_has_claims : Fun K "has_claims" "Dispute.has_claims" s_Dispute_has_claims A.f_Dispute_has_claims A.fd_Dispute_has_claims
  M_Dispute_has_claims : Meth K A.c_Dispute "has_claims" A.f_Dispute_has_claims
  F_Dispute_is_running : Fun K "is_running" "Dispute.is_running" s_Dispute_is_running A.f_Dispute_is_running A.fd_Dispute_is_running
  M_Dispute_is_running : Meth K A.c_Dispute "is_running" A.f_Dispute_is_running
  F_Dispute_is_behind_limit : Fun K "is_behind_limit" "Dispute.is_behind_limit" s_Dispute_is_behind_limit A.f_Dispute_is_behind_limit A.fd_Dispute_is_behind_limit
  M_Dispute_is_behind_limit : Meth K A.c_Dispute "is_behind_limit" A.f_Dispute_is_behind_limit
  F_Dispute_is_behind_appeals : Fun K "is_behind_appeals" "Dispute.is_behind_appeals" s_Dispute_is_behind_appeals A.f_Dispute_is_behind_appeals A.fd_Dispute_is_behind_appeals
  M_Dispute_is_behind_appeals : Meth K A.c_Dispute "is_behind_appeals" A.f_Dispute_is_behind_appeals
  F_Dispute_bring : Fun K "bring" "Dispute.bring" s_Dispute_bring A.f_Dispute_bring A.fd_Dispute_bring
  M_Dispute_bring : Meth K A.c_Dispute "bring" A.f_Dispute_bring
  F_Dispute_standing : Fun K "standing" "Dispute.standing" s_Dispute_standing A.f_Dispute_standing A.fd_Dispute_standing
  M_Dispute_standing : Meth K A.c_Dispute "standing" A.f_Dispute_standing
  F_Dispute_standing_without : Fun K "standing_without" "Dispute.standing_without" s_Dispute_standing_without A.f_Dispute_standing_without A.fd_Dispute_standing_without
  M_Dispute_standing_without : Meth K A.c_Dispute "standing_without" A.f_Dispute_standing_without
  F_Dispute_granted : Fun K "granted" "Dispute.granted" s_Dispute_granted A.f_Dispute_granted A.fd_Dispute_granted
  M_Dispute_granted : Meth K A.c_Dispute "granted" A.f_Dispute_granted
  F_Dispute_decide : Fun K "decide" "Dispute.decide" s_Dispute_decide A.f_Dispute_decide A.fd_Dispute_decide
  M_Dispute_decide : Meth K A.c_Dispute "decide" A.f_Dispute_decide
  F_Dispute_may_name : Fun K "may_name" "Dispute.may_name" s_Dispute_may_name A.f_Dispute_may_name A.fd_Dispute_may_name
  M_Dispute_may_name : Meth K A.c_Dispute "may_name" A.f_Dispute_may_name
  F_Dispute_outcome_now : Fun K "outcome_now" "Dispute.outcome_now" s_Dispute_outcome_now A.f_Dispute_outcome_now A.fd_Dispute_outcome_now
  M_Dispute_outcome_now : Meth K A.c_Dispute "outcome_now" A.f_Dispute_outcome_now
  F_Dispute_fix_outcome : Fun K "fix_outcome" "Dispute.fix_outcome" s_Dispute_fix_outcome A.f_Dispute_fix_outcome A.fd_Dispute_fix_outcome
  M_Dispute_fix_outcome : Meth K A.c_Dispute "fix_outcome" A.f_Dispute_fix_outcome
  F_begin_case : Fun K "begin_case" "begin_case" s_begin_case A.f_begin_case A.fd_begin_case
  m_begin_case : mg "begin_case" = some (.ref A.f_begin_case)
  F_bring_piece : Fun K "bring_piece" "bring_piece" s_bring_piece A.f_bring_piece A.fd_bring_piece
  m_bring_piece : mg "bring_piece" = some (.ref A.f_bring_piece)
  F_attack : Fun K "attack" "attack" s_attack A.f_attack A.fd_attack
  m_attack : mg "attack" = some (.ref A.f_attack)
  F_prove : Fun K "prove" "prove" s_prove A.f_prove A.fd_prove
  m_prove : mg "prove" = some (.ref A.f_prove)
  F_request : Fun K "request" "request" s_request A.f_request A.fd_request
  m_request : mg "request" = some (.ref A.f_request)
  F_tick : Fun K "tick" "tick" s_tick A.f_tick A.fd_tick
  m_tick : mg "tick" = some (.ref A.f_tick)
  F_decide : Fun K "decide" "decide" s_decide A.f_decide A.fd_decide
  m_decide : mg "decide" = some (.ref A.f_decide)
  F_appeal : Fun K "appeal" "appeal" s_appeal A.f_appeal A.fd_appeal
  m_appeal : mg "appeal" = some (.ref A.f_appeal)
  F_withdraw : Fun K "withdraw" "withdraw" s_withdraw A.f_withdraw A.fd_withdraw
  m_withdraw : mg "withdraw" = some (.ref A.f_withdraw)
  F_close_case : Fun K "close_case" "close_case" s_close_case A.f_close_case A.fd_close_case
  m_close_case : mg "close_case" = some (.ref A.f_close_case)
  F_answer_change : Fun K "answer_change" "answer_change" s_answer_change A.f_answer_change A.fd_answer_change
  m_answer_change : mg "answer_change" = some (.ref A.f_answer_change)
  F_has_one_of_each : Fun K "has_one_of_each" "has_one_of_each" s_has_one_of_each A.f_has_one_of_each A.fd_has_one_of_each
  m_has_one_of_each : mg "has_one_of_each" = some (.ref A.f_has_one_of_each)
  F_one_longer : Fun K "one_longer" "one_longer" s_one_longer A.f_one_longer A.fd_one_longer
  m_one_longer : mg "one_longer" = some (.ref A.f_one_longer)
  F_fewest_facts : Fun K "fewest_facts" "fewest_facts" s_fewest_facts A.f_fewest_facts A.fd_fewest_facts
  m_fewest_facts : mg "fewest_facts" = some (.ref A.f_fewest_facts)
  F_as_number : Fun K "as_number" "as_number" s_as_number A.f_as_number A.fd_as_number
  m_as_number : mg "as_number" = some (.ref A.f_as_number)
  F_alive : Fun K "alive" "alive" s_alive A.f_alive A.fd_alive
  m_alive : mg "alive" = some (.ref A.f_alive)
  F_counted_as_asked : Fun K "counted_as_asked" "counted_as_asked" s_counted_as_asked A.f_counted_as_asked A.fd_counted_as_asked
  m_counted_as_asked : mg "counted_as_asked" = some (.ref A.f_counted_as_asked)
  F_tell_fact : Fun K "tell_fact" "tell_fact" s_tell_fact A.f_tell_fact A.fd_tell_fact
  m_tell_fact : mg "tell_fact" = some (.ref A.f_tell_fact)
  F_tell_why : Fun K "tell_why" "tell_why" s_tell_why A.f_tell_why A.fd_tell_why
  m_tell_why : mg "tell_why" = some (.ref A.f_tell_why)
  F_tell_fewest : Fun K "tell_fewest" "tell_fewest" s_tell_fewest A.f_tell_fewest A.fd_tell_fewest
  m_tell_fewest : mg "tell_fewest" = some (.ref A.f_tell_fewest)
  F_tell_let_in : Fun K "tell_let_in" "tell_let_in" s_tell_let_in A.f_tell_let_in A.fd_tell_let_in
  m_tell_let_in : mg "tell_let_in" = some (.ref A.f_tell_let_in)
  F_about_claim : Fun K "about_claim" "about_claim" s_about_claim A.f_about_claim A.fd_about_claim
  m_about_claim : mg "about_claim" = some (.ref A.f_about_claim)
  F_without : Fun K "without" "without" s_without A.f_without A.fd_without
  m_without : mg "without" = some (.ref A.f_without)
  F_facts_and_weights : Fun K "facts_and_weights" "facts_and_weights" s_facts_and_weights A.f_facts_and_weights A.fd_facts_and_weights
  m_facts_and_weights : mg "facts_and_weights" = some (.ref A.f_facts_and_weights)
  F_tell_piece : Fun K "tell_piece" "tell_piece" s_tell_piece A.f_tell_piece A.fd_tell_piece
  m_tell_piece : mg "tell_piece" = some (.ref A.f_tell_piece)
  F_tell_requests : Fun K "tell_requests" "tell_requests" s_tell_requests A.f_tell_requests A.fd_tell_requests
  m_tell_requests : mg "tell_requests" = some (.ref A.f_tell_requests)
  F_tell_appeals : Fun K "tell_appeals" "tell_appeals" s_tell_appeals A.f_tell_appeals A.fd_tell_appeals
  m_tell_appeals : mg "tell_appeals" = some (.ref A.f_tell_appeals)
  F_status : Fun K "status" "status" s_status A.f_status A.fd_status
  m_status : mg "status" = some (.ref A.f_status)
  F_would : Fun K "would" "would" s_would A.f_would A.fd_would
  m_would : mg "would" = some (.ref A.f_would)
  F_answer_question : Fun K "answer_question" "answer_question" s_answer_question A.f_answer_question A.fd_answer_question
  m_answer_question : mg "answer_question" = some (.ref A.f_answer_question)
  F_Call_init : Fun K "__init__" "Call.__init__" s_Call_init A.f_Call_init A.fd_Call_init
  F_Call_width : Fun K "width" "Call.width" s_Call_width A.f_Call_width A.fd_Call_width
  M_Call_width : Meth K A.c_Call "width" A.f_Call_width
  F_read_call : Fun K "read_call" "read_call" s_read_call A.f_read_call A.fd_read_call
  m_read_call : mg "read_call" = some (.ref A.f_read_call)
  F_split_calls : Fun K "split_calls" "split_calls" s_split_calls A.f_split_calls A.fd_split_calls
  m_split_calls : mg "split_calls" = some (.ref A.f_split_calls)
  F_are_facts : Fun K "are_facts" "are_facts" s_are_facts A.f_are_facts A.fd_are_facts
  m_are_facts : mg "are_facts" = some (.ref A.f_are_facts)
  F_is_weight : Fun K "is_weight" "is_weight" s_is_weight A.f_is_weight A.fd_is_weight
  m_is_weight : mg "is_weight" = some (.ref A.f_is_weight)
  F_are_facts_and_weights : Fun K "are_facts_and_weights" "are_facts_and_weights" s_are_facts_and_weights A.f_are_facts_and_weights A.fd_are_facts_and_weights
  m_are_facts_and_weights : mg "are_facts_and_weights" = some (.ref A.f_are_facts_and_weights)
  F_is_row_as_told : Fun K "is_row_as_told" "is_row_as_told" s_is_row_as_told A.f_is_row_as_told A.fd_is_row_as_told
  m_is_row_as_told : mg "is_row_as_told" = some (.ref A.f_is_row_as_told)
  F_is_as_told : Fun K "is_as_told" "is_as_told" s_is_as_told A.f_is_as_told A.fd_is_as_told
  m_is_as_told : mg "is_as_told" = some (.ref A.f_is_as_told)
  F_answer_call : Fun K "answer_call" "answer_call" s_answer_call A.f_answer_call A.fd_answer_call
  m_answer_call : mg "answer_call" = some (.ref A.f_answer_call)
  F_answers : Fun K "answers" "answers" s_answers A.f_answers A.fd_answers
  m_answers : mg "answers" = some (.ref A.f_answers)
  g_FACTS : ∃ t, mg "FACTS" = some (.int 8 t)
  g_NO_CASE : ∃ t, mg "NO_CASE" = some (.int 0 t)
  g_OPPOSED : ∃ t, mg "OPPOSED" = some (.int 1 t)
  g_DECIDED : ∃ t, mg "DECIDED" = some (.int 2 t)
  g_OVER : ∃ t, mg "OVER" = some (.int 3 t)
  g_OWNER : ∃ t, mg "OWNER" = some (.int 3 t)
  g_DAYS_TO_APPEAL : ∃ t, mg "DAYS_TO_APPEAL" = some (.int 60 t)
  g_NOT_AS_TOLD : ∃ t, mg "NOT_AS_TOLD" = some (.int (-1) t)
  g_FULL : ∃ t, mg "FULL" = some (.int (-3) t)
  g_NOT_THERE : ∃ t, mg "NOT_THERE" = some (.int (-5) t)
  g_NOT_NOW : ∃ t, mg "NOT_NOW" = some (.int (-6) t)
  g_MOST_PIECES : ∃ t, mg "MOST_PIECES" = some (.int 24 t)
  g_MOST_REQUESTS : ∃ t, mg "MOST_REQUESTS" = some (.int 6 t)
  g_MOST_APPEALS : ∃ t, mg "MOST_APPEALS" = some (.int 8 t)
  g_LAST_DAY : ∃ t, mg "LAST_DAY" = some (.int 10000 t)
  g_ATTACK : ∃ t, mg "ATTACK" = some (.int 1 t)
  g_PROOF : ∃ t, mg "PROOF" = some (.int 2 t)
  g_LAST_FACT : ∃ t, mg "LAST_FACT" = some (.int 7 t)
  g_MOST_FACTS_OF_ATTACK : ∃ t, mg "MOST_FACTS_OF_ATTACK" = some (.int 3 t)
  g_MOST_WEIGHT : ∃ t, mg "MOST_WEIGHT" = some (.int 9 t)
  g_LAST_CHANGE : ∃ t, mg "LAST_CHANGE" = some (.int 8 t)
  g_CHANGES : mg "CHANGES" = some (.ref A.d_CHANGES)
  d_CHANGES : MD K A.d_CHANGES A.v_CHANGES
  g_ABOUT_CLAIM : mg "ABOUT_CLAIM" = some (.ref A.d_ABOUT_CLAIM)
  d_ABOUT_CLAIM : MD K A.d_ABOUT_CLAIM A.v_ABOUT_CLAIM
  g_QUESTIONS : mg "QUESTIONS" = some (.ref A.d_QUESTIONS)
  d_QUESTIONS : MD K A.d_QUESTIONS A.v_QUESTIONS
  g_RANGES : mg "RANGES" = some (.ref A.d_RANGES)
  d_RANGES : MD K A.d_RANGES A.v_RANGES
  n_all : mg "all" = none
  n_any : mg "any" = none
  n_enumerate : mg "enumerate" = none
  n_len : mg "len" = none
  n_list : mg "list" = none
  n_range : mg "range" = none
  n_sum : mg "sum" = none
  n_zip : mg "zip" = none
section
variable {K : PySem.W.Frag} {mg : Str → Option Value} {A : Adr}
theorem b_Piece_init (T : Txt K mg A) : Binds K A.fd_Piece_init ["self", "number", "bringer", "late", "claim", "facts", "weights"] [] := T.F_Piece_init.binds fun _ _ _ _ _ _ us hl => match us, hl with | [_, _, _, _, _, _, _], _ => rfl
theorem b_is_proof (T : Txt K mg A) : Binds K A.fd_is_proof ["piece"] [] := T.F_is_proof.binds fun _ _ _ _ _ _ us hl => match us, hl with | [_], _ => rfl
theorem b_added_up (T : Txt K mg A) : Binds K A.fd_added_up ["support", "piece"] [] := T.F_added_up.binds fun _ _ _ _ _ _ us hl => match us, hl with | [_, _], _ => rfl
theorem b_Counted_init (T : Txt K mg A) : Binds K A.fd_Counted_init ["self", "claim", "bar", "pieces", "support"] [] := T.F_Counted_init.binds fun _ _ _ _ _ _ us hl => match us, hl with | [_, _, _, _, _], _ => rfl
theorem b_Counted_is_proven (T : Txt K mg A) : Binds K A.fd_Counted_is_proven ["self", "fact"] [] := T.F_Counted_is_proven.binds fun _ _ _ _ _ _ us hl => match us, hl with | [_, _], _ => rfl
theorem b_Counted_is_brought_down_by (T : Txt K mg A) : Binds K A.fd_Counted_is_brought_down_by ["self", "piece"] [] := T.F_Counted_is_brought_down_by.binds fun _ _ _ _ _ _ us hl => match us, hl with | [_, _], _ => rfl
theorem b_Counted_proven_attacks (T : Txt K mg A) : Binds K A.fd_Counted_proven_attacks ["self"] [] := T.F_Counted_proven_attacks.binds fun _ _ _ _ _ _ us hl => match us, hl with | [_], _ => rfl
theorem b_Counted_stands (T : Txt K mg A) : Binds K A.fd_Counted_stands ["self"] [] := T.F_Counted_stands.binds fun _ _ _ _ _ _ us hl => match us, hl with | [_], _ => rfl
theorem b_Counted_joined_by (T : Txt K mg A) : Binds K A.fd_Counted_joined_by ["self", "piece"] [] := T.F_Counted_joined_by.binds fun _ _ _ _ _ _ us hl => match us, hl with | [_, _], _ => rfl
theorem b_Counted_weighed_with (T : Txt K mg A) : Binds K A.fd_Counted_weighed_with ["self", "piece"] [] := T.F_Counted_weighed_with.binds fun _ _ _ _ _ _ us hl => match us, hl with | [_, _], _ => rfl
theorem b_Counted_less (T : Txt K mg A) : Binds K A.fd_Counted_less ["self", "number"] [] := T.F_Counted_less.binds fun _ _ _ _ _ _ us hl => match us, hl with | [_, _], _ => rfl
theorem b_nothing_counted (T : Txt K mg A) : Binds K A.fd_nothing_counted ["claim", "bar"] [] := T.F_nothing_counted.binds fun _ _ _ _ _ _ us hl => match us, hl with | [_, _], _ => rfl
theorem b_claims_that_stand (T : Txt K mg A) : Binds K A.fd_claims_that_stand ["every"] [] := T.F_claims_that_stand.binds fun _ _ _ _ _ _ us hl => match us, hl with | [_], _ => rfl
theorem b_weighed_on (T : Txt K mg A) : Binds K A.fd_weighed_on ["counted", "pieces"] [] := T.F_weighed_on.binds fun _ _ _ _ _ _ us hl => match us, hl with | [_, _], _ => rfl
theorem b_Dispute_init (T : Txt K mg A) : Binds K A.fd_Dispute_init ["self"] [] := T.F_Dispute_init.binds fun _ _ _ _ _ _ us hl => match us, hl with | [_], _ => rfl
theorem b_Dispute_wipe (T : Txt K mg A) : Binds K A.fd_Dispute_wipe ["self"] [] := T.F_Dispute_wipe.binds fun _ _ _ _ _ _ us hl => match us, hl with | [_], _ => rfl
theorem b_Dispute_begin (T : Txt K mg A) : Binds K A.fd_Dispute_begin ["self", "claims", "bar", "limit"] [] := T.F_Dispute_begin.binds fun _ _ _ _ _ _ us hl => match us, hl with | [_, _, _, _], _ => rfl
theorem b_Dispute_all_claims (T : Txt K mg A) : Binds K A.fd_Dispute_all_claims ["self"] [] := T.F_Dispute_all_claims.binds fun _ _ _ _ _ _ us hl => match us, hl with | [_], _ => rfl
theorem b_Dispute_has_claims (T : Txt K mg A) : Binds K A.fd_Dispute_has_claims ["self", "named"] [] := T.F_Dispute_has_claims.binds fun _ _ _ _ _ _ us hl => match us, hl with | [_, _], _ => rfl
theorem b_Dispute_is_running (T : Txt K mg A) : Binds K A.fd_Dispute_is_running ["self"] [] := T.F_Dispute_is_running.binds fun _ _ _ _ _ _ us hl => match us, hl with | [_], _ => rfl
theorem b_Dispute_is_behind_limit (T : Txt K mg A) : Binds K A.fd_Dispute_is_behind_limit ["self"] [] := T.F_Dispute_is_behind_limit.binds fun _ _ _ _ _ _ us hl => match us, hl with | [_], _ => rfl
theorem b_Dispute_is_behind_appeals (T : Txt K mg A) : Binds K A.fd_Dispute_is_behind_appeals ["self"] [] := T.F_Dispute_is_behind_appeals.binds fun _ _ _ _ _ _ us hl => match us, hl with | [_], _ => rfl
theorem b_Dispute_bring (T : Txt K mg A) : Binds K A.fd_Dispute_bring ["self", "bringer", "claim", "facts", "weights"] [] := T.F_Dispute_bring.binds fun _ _ _ _ _ _ us hl => match us, hl with | [_, _, _, _, _], _ => rfl
theorem b_Dispute_standing (T : Txt K mg A) : Binds K A.fd_Dispute_standing ["self"] [] := T.F_Dispute_standing.binds fun _ _ _ _ _ _ us hl => match us, hl with | [_], _ => rfl
theorem b_Dispute_standing_without (T : Txt K mg A) : Binds K A.fd_Dispute_standing_without ["self", "number"] [] := T.F_Dispute_standing_without.binds fun _ _ _ _ _ _ us hl => match us, hl with | [_, _], _ => rfl
theorem b_Dispute_granted (T : Txt K mg A) : Binds K A.fd_Dispute_granted ["self"] [] := T.F_Dispute_granted.binds fun _ _ _ _ _ _ us hl => match us, hl with | [_], _ => rfl
theorem b_Dispute_decide (T : Txt K mg A) : Binds K A.fd_Dispute_decide ["self"] [] := T.F_Dispute_decide.binds fun _ _ _ _ _ _ us hl => match us, hl with | [_], _ => rfl
theorem b_Dispute_may_name (T : Txt K mg A) : Binds K A.fd_Dispute_may_name ["self", "party", "named"] [] := T.F_Dispute_may_name.binds fun _ _ _ _ _ _ us hl => match us, hl with | [_, _, _], _ => rfl
theorem b_Dispute_outcome_now (T : Txt K mg A) : Binds K A.fd_Dispute_outcome_now ["self"] [] := T.F_Dispute_outcome_now.binds fun _ _ _ _ _ _ us hl => match us, hl with | [_], _ => rfl
theorem b_Dispute_fix_outcome (T : Txt K mg A) : Binds K A.fd_Dispute_fix_outcome ["self"] [] := T.F_Dispute_fix_outcome.binds fun _ _ _ _ _ _ us hl => match us, hl with | [_], _ => rfl
theorem b_begin_case (T : Txt K mg A) : Binds K A.fd_begin_case ["dispute", "call"] [] := T.F_begin_case.binds fun _ _ _ _ _ _ us hl => match us, hl with | [_, _], _ => rfl
theorem b_bring_piece (T : Txt K mg A) : Binds K A.fd_bring_piece ["dispute", "bringer", "claim", "facts", "weights"] [] := T.F_bring_piece.binds fun _ _ _ _ _ _ us hl => match us, hl with | [_, _, _, _, _], _ => rfl
theorem b_attack (T : Txt K mg A) : Binds K A.fd_attack ["dispute", "call"] [] := T.F_attack.binds fun _ _ _ _ _ _ us hl => match us, hl with | [_, _], _ => rfl
theorem b_prove (T : Txt K mg A) : Binds K A.fd_prove ["dispute", "call"] [] := T.F_prove.binds fun _ _ _ _ _ _ us hl => match us, hl with | [_, _], _ => rfl
theorem b_request (T : Txt K mg A) : Binds K A.fd_request ["dispute", "call"] [] := T.F_request.binds fun _ _ _ _ _ _ us hl => match us, hl with | [_, _], _ => rfl
theorem b_tick (T : Txt K mg A) : Binds K A.fd_tick ["dispute", "call"] [] := T.F_tick.binds fun _ _ _ _ _ _ us hl => match us, hl with | [_, _], _ => rfl
theorem b_decide (T : Txt K mg A) : Binds K A.fd_decide ["dispute", "call"] [] := T.F_decide.binds fun _ _ _ _ _ _ us hl => match us, hl with | [_, _], _ => rfl
theorem b_appeal (T : Txt K mg A) : Binds K A.fd_appeal ["dispute", "call"] [] := T.F_appeal.binds fun _ _ _ _ _ _ us hl => match us, hl with | [_, _], _ => rfl
theorem b_withdraw (T : Txt K mg A) : Binds K A.fd_withdraw ["dispute", "call"] [] := T.F_withdraw.binds fun _ _ _ _ _ _ us hl => match us, hl with | [_, _], _ => rfl
theorem b_close_case (T : Txt K mg A) : Binds K A.fd_close_case ["dispute", "call"] [] := T.F_close_case.binds fun _ _ _ _ _ _ us hl => match us, hl with | [_, _], _ => rfl
theorem b_answer_change (T : Txt K mg A) : Binds K A.fd_answer_change ["dispute", "call"] [] := T.F_answer_change.binds fun _ _ _ _ _ _ us hl => match us, hl with | [_, _], _ => rfl
theorem b_has_one_of_each (T : Txt K mg A) : Binds K A.fd_has_one_of_each ["facts", "attacks"] [] := T.F_has_one_of_each.binds fun _ _ _ _ _ _ us hl => match us, hl with | [_, _], _ => rfl
theorem b_one_longer (T : Txt K mg A) : Binds K A.fd_one_longer ["facts"] [] := T.F_one_longer.binds fun _ _ _ _ _ _ us hl => match us, hl with | [_], _ => rfl
theorem b_fewest_facts (T : Txt K mg A) : Binds K A.fd_fewest_facts ["attacks"] [] := T.F_fewest_facts.binds fun _ _ _ _ _ _ us hl => match us, hl with | [_], _ => rfl
theorem b_as_number (T : Txt K mg A) : Binds K A.fd_as_number ["truth"] [] := T.F_as_number.binds fun _ _ _ _ _ _ us hl => match us, hl with | [_], _ => rfl
theorem b_alive (T : Txt K mg A) : Binds K A.fd_alive ["dispute", "call"] [] := T.F_alive.binds fun _ _ _ _ _ _ us hl => match us, hl with | [_, _], _ => rfl
theorem b_counted_as_asked (T : Txt K mg A) : Binds K A.fd_counted_as_asked ["dispute", "call"] [] := T.F_counted_as_asked.binds fun _ _ _ _ _ _ us hl => match us, hl with | [_, _], _ => rfl
theorem b_tell_fact (T : Txt K mg A) : Binds K A.fd_tell_fact ["dispute", "call"] [] := T.F_tell_fact.binds fun _ _ _ _ _ _ us hl => match us, hl with | [_, _], _ => rfl
theorem b_tell_why (T : Txt K mg A) : Binds K A.fd_tell_why ["dispute", "call"] [] := T.F_tell_why.binds fun _ _ _ _ _ _ us hl => match us, hl with | [_, _], _ => rfl
theorem b_tell_fewest (T : Txt K mg A) : Binds K A.fd_tell_fewest ["dispute", "call"] [] := T.F_tell_fewest.binds fun _ _ _ _ _ _ us hl => match us, hl with | [_, _], _ => rfl
theorem b_tell_let_in (T : Txt K mg A) : Binds K A.fd_tell_let_in ["dispute", "call"] [] := T.F_tell_let_in.binds fun _ _ _ _ _ _ us hl => match us, hl with | [_, _], _ => rfl
theorem b_about_claim (T : Txt K mg A) : Binds K A.fd_about_claim ["dispute", "call"] [] := T.F_about_claim.binds fun _ _ _ _ _ _ us hl => match us, hl with | [_, _], _ => rfl
theorem b_without (T : Txt K mg A) : Binds K A.fd_without ["dispute", "call"] [] := T.F_without.binds fun _ _ _ _ _ _ us hl => match us, hl with | [_, _], _ => rfl
theorem b_facts_and_weights (T : Txt K mg A) : Binds K A.fd_facts_and_weights ["piece"] [] := T.F_facts_and_weights.binds fun _ _ _ _ _ _ us hl => match us, hl with | [_], _ => rfl
theorem b_tell_piece (T : Txt K mg A) : Binds K A.fd_tell_piece ["dispute", "call"] [] := T.F_tell_piece.binds fun _ _ _ _ _ _ us hl => match us, hl with | [_, _], _ => rfl
theorem b_tell_requests (T : Txt K mg A) : Binds K A.fd_tell_requests ["dispute", "call"] [] := T.F_tell_requests.binds fun _ _ _ _ _ _ us hl => match us, hl with | [_, _], _ => rfl
theorem b_tell_appeals (T : Txt K mg A) : Binds K A.fd_tell_appeals ["dispute", "call"] [] := T.F_tell_appeals.binds fun _ _ _ _ _ _ us hl => match us, hl with | [_, _], _ => rfl
theorem b_status (T : Txt K mg A) : Binds K A.fd_status ["dispute", "call"] [] := T.F_status.binds fun _ _ _ _ _ _ us hl => match us, hl with | [_, _], _ => rfl
theorem b_would (T : Txt K mg A) : Binds K A.fd_would ["dispute", "call"] [] := T.F_would.binds fun _ _ _ _ _ _ us hl => match us, hl with | [_, _], _ => rfl
theorem b_answer_question (T : Txt K mg A) : Binds K A.fd_answer_question ["dispute", "call"] [] := T.F_answer_question.binds fun _ _ _ _ _ _ us hl => match us, hl with | [_, _], _ => rfl
theorem b_Call_init (T : Txt K mg A) : Binds K A.fd_Call_init ["self", "number", "arguments", "row"] [] := T.F_Call_init.binds fun _ _ _ _ _ _ us hl => match us, hl with | [_, _, _, _], _ => rfl
theorem b_Call_width (T : Txt K mg A) : Binds K A.fd_Call_width ["self"] [] := T.F_Call_width.binds fun _ _ _ _ _ _ us hl => match us, hl with | [_], _ => rfl
theorem b_read_call (T : Txt K mg A) : Binds K A.fd_read_call ["numbers", "start"] [] := T.F_read_call.binds fun _ _ _ _ _ _ us hl => match us, hl with | [_, _], _ => rfl
theorem b_split_calls (T : Txt K mg A) : Binds K A.fd_split_calls ["numbers"] [] := T.F_split_calls.binds fun _ _ _ _ _ _ us hl => match us, hl with | [_], _ => rfl
theorem b_are_facts (T : Txt K mg A) : Binds K A.fd_are_facts ["facts"] [] := T.F_are_facts.binds fun _ _ _ _ _ _ us hl => match us, hl with | [_], _ => rfl
theorem b_is_weight (T : Txt K mg A) : Binds K A.fd_is_weight ["weight"] [] := T.F_is_weight.binds fun _ _ _ _ _ _ us hl => match us, hl with | [_], _ => rfl
theorem b_are_facts_and_weights (T : Txt K mg A) : Binds K A.fd_are_facts_and_weights ["row"] [] := T.F_are_facts_and_weights.binds fun _ _ _ _ _ _ us hl => match us, hl with | [_], _ => rfl
theorem b_is_row_as_told (T : Txt K mg A) : Binds K A.fd_is_row_as_told ["call"] [] := T.F_is_row_as_told.binds fun _ _ _ _ _ _ us hl => match us, hl with | [_], _ => rfl
theorem b_is_as_told (T : Txt K mg A) : Binds K A.fd_is_as_told ["call"] [] := T.F_is_as_told.binds fun _ _ _ _ _ _ us hl => match us, hl with | [_], _ => rfl
theorem b_answer_call (T : Txt K mg A) : Binds K A.fd_answer_call ["dispute", "call"] [] := T.F_answer_call.binds fun _ _ _ _ _ _ us hl => match us, hl with | [_, _], _ => rfl
end
end Op


set_option Elab.async false
set_option linter.all false
set_option maxRecDepth 100000
set_option maxHeartbeats 4000000
namespace Op
open PySem PySem.Spec PyProof.Rows L2

def Keep (N : Addr → Prop) (H H' : Hp) : Prop := ∀ b o, N b → H b = some o → H' b = some o
theorem Keep.of {N : Addr → Prop} {H H' : Hp} (h : Same H H') : Keep N H H' := fun b o _ e => h b o e
theorem same_new {H : Hp} {q : Addr} {o : HO} (h : H q = Option.none) : Same H (upd H q o) := fun b u e => by
  rw [upd_ne (ne_of_none e h)]; exact e

def pieceF (i : Nat) (who : Int) (late : Bool) (c : V) (f w : Addr) : List (Str × V) := [("number", .int i), ("bringer", .int who), ("late", .bl late), ("claim", c), ("facts", .ref f), ("weights", .ref w)]
def claimV : Vbptam.What → V
  | .attack c _ => .int c
  | .proof _ => .non
def factsV : Vbptam.What → List V
  | .attack _ fs => fs.map fun (n : Nat) => V.int n
  | .proof w => w.map fun y => V.int y.1
def weightsV : Vbptam.What → List V
  | .attack _ _ => []
  | .proof w => w.map fun y => V.int y.2
def WfW : Vbptam.What → Prop
  | .attack c fs => (∀ f ∈ fs, f < 8) ∧ fs.length ≤ 3 ∧ fs ≠ []
  | .proof w => (∀ y ∈ w, y.1 < 8) ∧ w.length ≤ 10
def PieceAt (A : Adr) (N : Addr → Prop) (H : Hp) (p : Addr) (y : NP) : Prop :=
  ∃ dx f w, (N p ∧ N f ∧ N w) ∧ H p = some (.ins A.c_Piece dx (pieceF y.1 y.2.who y.2.late (claimV y.2.what) f w)) ∧ H f = some (.lst (factsV y.2.what)) ∧ H w = some (.lst (weightsV y.2.what))
theorem PieceAt.keep {A : Adr} {N : Addr → Prop} {H H' : Hp} {p : Addr} {x : NP} (h : PieceAt A N H p x) (k : Keep N H H') : PieceAt A N H' p x := by
  obtain ⟨dx, f, w, ⟨n1, n2, n3⟩, h1, h2, h3⟩ := h
  exact ⟨dx, f, w, ⟨n1, n2, n3⟩, k _ _ n1 h1, k _ _ n2 h2, k _ _ n3 h3⟩
def countedF (c : Nat) (bar : Int) (lp ls : Addr) : List (Str × V) := [("claim", .int c), ("bar", .int bar), ("pieces", .ref lp), ("support", .ref ls)]
structure CountedIn (A : Adr) (N : Addr → Prop) (H : Hp) (a dx lp ls : Addr) (ps : List Addr) (c : Nat) (bar : Int) (l : List NP) : Prop where
  na : N a
  np : N lp
  ns : N ls
  ins : H a = some (.ins A.c_Counted dx (countedF c bar lp ls))
  lp : H lp = some (.lst (ps.map V.ref))
  ps : Paired (PieceAt A N H) ps l
  ls : H ls = some (.lst ((table (snds l)).map V.int))
  wf : ∀ x ∈ l, WfW x.2.what
  len : l.length ≤ 24
def CountedAt (A : Adr) (N : Addr → Prop) (H : Hp) (a : Addr) (c : Nat) (bar : Int) (l : List NP) : Prop := ∃ dx lp ls ps, CountedIn A N H a dx lp ls ps c bar l
theorem CountedIn.keep {A : Adr} {N : Addr → Prop} {H H' : Hp} {a dx lp ls : Addr} {ps : List Addr} {c : Nat} {bar : Int} {l : List NP} (h : CountedIn A N H a dx lp ls ps c bar l) (k : Keep N H H') : CountedIn A N H' a dx lp ls ps c bar l :=
  ⟨h.na, h.np, h.ns, k _ _ h.na h.ins, k _ _ h.np h.lp, Paired.mapP h.ps fun p x q => q.keep k, k _ _ h.ns h.ls, h.wf, h.len⟩
theorem CountedAt.keep {A : Adr} {N : Addr → Prop} {H H' : Hp} {a : Addr} {c : Nat} {bar : Int} {l : List NP} (h : CountedAt A N H a c bar l) (k : Keep N H H') : CountedAt A N H' a c bar l := by
  obtain ⟨dx, lp, ls, ps, h⟩ := h
  exact ⟨dx, lp, ls, ps, h.keep k⟩
theorem decI {a b : Int} : decide (V.int a = V.int b) = decide (a = b) := by
  by_cases h : a = b
  · subst h; simp
  · rw [decide_eq_false h, decide_eq_false (fun q => h (by injection q))]
end Op


set_option Elab.async false
set_option linter.all false
set_option maxRecDepth 100000
set_option maxHeartbeats 4000000
namespace Op
open PySem PySem.Spec PyProof.Rows L2
theorem boot_all : bootBuiltins "all" = some (.builtin "all") := by decide +kernel
theorem boot_any : bootBuiltins "any" = some (.builtin "any") := by decide +kernel
theorem yesT {σ : L2.St} {H : Hp} {B C : Hp → Prop} (h : B H) : tYes σ H (fun b H3 => if b = true then B H3 else C H3) := by
  show if true = true then B H else C H
  rw [if_pos rfl]
  exact h
section
variable {P : Program} {w : World} {K : PySem.W.Frag} {mg : Str → Option Value} {base : Heap} {A : Adr}
def sp_Piece_init (A : Adr) : Sp := fun vs H Q _ => ∃ (p dx : Addr) (i : Nat) (b : Int) (l : Bool) (c : V) (f w : Addr), vs = [.ref p, .int i, .int b, .bl l, c, .ref f, .ref w] ∧ H p = some (.ins A.c_Piece dx []) ∧
  ∀ H' : Hp, H' p = some (.ins A.c_Piece dx (pieceF i b l c f w)) → (∀ b o, H b = some o → b ≠ p → H' b = some o) → Q .non H'
theorem ok_Piece_init (T : Txt K mg A) : FnOk P w K mg base CX0 1 A.f_Piece_init A.fd_Piece_init ["self", "number", "bringer", "late", "claim", "facts", "weights"] (sp_Piece_init A) := by
  refine T.F_Piece_init.ok sc_Piece_init (fun vs H Q E h => ?_) (fun cdv Ar outer s H vs Q E hr h => ?_)
  · obtain ⟨p, dx, i, b, l, c, f, w, rfl, _⟩ := h
    rfl
  · obtain ⟨p, dx, i, b, l, c, f, w, rfl, hp, k⟩ := h
    refine ⟨_, (pss_cons (ps_fld (pv 0) (pv 1) rfl)
      (pss_cons (ps_fld (pv 0) (pv 2) rfl)
      (pss_cons (ps_fld (pv 0) (pv 3) rfl)
      (pss_cons (ps_fld (pv 0) (pv 4) rfl)
      (pss_cons (ps_fld (pv 0) (pv 5) rfl)
      (pss_one (ps_fld (pv 0) (pv 6) rfl))))))), ?_⟩
    refine ⟨_, rfl, _, rfl, p, _, dx, _, rfl, hp, T.C_Piece, T.a_Piece_number, (by show 0 < 1000; decide), ?_⟩
    refine ⟨_, rfl, _, rfl, p, _, dx, _, rfl, upd_same, T.C_Piece, T.a_Piece_bringer, (by show 1 < 1000; decide), ?_⟩
    refine ⟨_, rfl, _, rfl, p, _, dx, _, rfl, upd_same, T.C_Piece, T.a_Piece_late, (by show 2 < 1000; decide), ?_⟩
    refine ⟨_, rfl, _, rfl, p, _, dx, _, rfl, upd_same, T.C_Piece, T.a_Piece_claim, (by show 3 < 1000; decide), ?_⟩
    refine ⟨_, rfl, _, rfl, p, _, dx, _, rfl, upd_same, T.C_Piece, T.a_Piece_facts, (by show 4 < 1000; decide), ?_⟩
    refine ⟨_, rfl, _, rfl, p, _, dx, _, rfl, upd_same, T.C_Piece, T.a_Piece_weights, (by show 5 < 1000; decide), ?_⟩
    refine k _ upd_same fun b o e hb => ?_
    rw [upd_ne hb, upd_ne hb, upd_ne hb, upd_ne hb, upd_ne hb, upd_ne hb]
    exact e

def isPf : Vbptam.What → Bool
  | .attack _ _ => false
  | .proof _ => true
theorem isPf_eq (x : Vbptam.What) : decide (claimV x = .non) = isPf x := by cases x <;> rfl
def sp_is_proof (A : Adr) : Sp := fun vs H Q _ => ∃ (p : Addr) (x : NP) (N : Addr → Prop), vs = [.ref p] ∧ PieceAt A N H p x ∧ Q (.bl (isPf x.2.what)) H
theorem ok_is_proof (T : Txt K mg A) : FnOk P w K mg base CX0 1 A.f_is_proof A.fd_is_proof ["piece"] (sp_is_proof A) := by
  refine T.F_is_proof.ok sc_is_proof (fun vs H Q E h => ?_) (fun cdv Ar outer s H vs Q E hr h => ?_)
  · obtain ⟨p, x, N, rfl, _⟩ := h
    rfl
  · obtain ⟨p, x, N, rfl, ⟨dx, f, w, _, h1, h2, h3⟩, k⟩ := h
    refine ⟨_, (pss_one (ps_ret (pe_cmpR op_isN (pe_fld (pv 0) rfl) pe_non (nomark _)))), ?_⟩
    refine ⟨_, rfl, p, _, dx, _, _, rfl, h1, T.C_Piece, T.a_Piece_claim, rfl, rfl, ?_⟩
    rw [isPf_eq]
    exact k

theorem ixN_nat {n j : Nat} (h : j < n) : ixN n (j : Int) = some j := by
  unfold ixN
  rw [if_pos (by omega), if_pos (by omega), Int.toNat_natCast]
def wts : Vbptam.What → List (Nat × Int)
  | .attack _ _ => []
  | .proof w => w
theorem table_wts {l : List NP} {x : NP} (wf : WfW x.2.what) : (wts x.2.what).foldl addW (table (snds l)) = table (snds (l ++ [x])) := by
  rw [snds_append]
  show _ = table (snds l ++ [x.2])
  cases hx : x.2.what with
  | attack c fs => rw [table_attack hx]; rfl
  | proof w => rw [hx] at wf; exact table_proof hx wf.1
theorem wts_lt {x : Vbptam.What} (wf : WfW x) : ∀ y ∈ wts x, y.1 < 8 := by
  cases x with
  | attack c fs => intro y hy; cases hy
  | proof w => exact wf.1
theorem wts_facts (x : Vbptam.What) : (weightsV x).length ≤ (factsV x).length := by
  cases x with
  | attack c fs => exact Nat.zero_le _
  | proof w => simp [weightsV, factsV]
theorem weightsV_wts (x : Vbptam.What) : weightsV x = (wts x).map fun y => V.int y.2 := by cases x <;> rfl
theorem factsV_wts {x : Vbptam.What} {i : Nat} {y : Nat × Int} (h : (wts x)[i]? = some y) : (factsV x)[i]? = some (V.int y.1) := by
  cases x with
  | attack c fs => cases h
  | proof w =>
    have h : w[i]? = some y := h
    show (w.map fun y => V.int (y.1 : Nat))[i]? = _
    rw [List.getElem?_map, h]
    rfl
def sp_added_up (A : Adr) : Sp := fun vs H Q _ => ∃ (ls p : Addr) (l : List NP) (x : NP) (N : Addr → Prop), vs = [.ref ls, .ref p] ∧ H ls = some (.lst ((table (snds l)).map V.int)) ∧ PieceAt A N H p x ∧ WfW x.2.what ∧
  ∀ (H' : Hp) (q : Addr), Same H H' → H q = Option.none → H' q = some (.lst ((table (snds (l ++ [x]))).map V.int)) → Q (.ref q) H'
theorem ok_added_up (T : Txt K mg A) : FnOk P w K mg base CX0 1 A.f_added_up A.fd_added_up ["support", "piece"] (sp_added_up A) := by
  refine T.F_added_up.ok sc_added_up (fun vs H Q E h => ?_) (fun cdv Ar outer s H vs Q E hr h => ?_)
  · obtain ⟨ls, p, l, x, N, rfl, _⟩ := h
    rfl
  · obtain ⟨ls, p, l, x, N, rfl, hls, ⟨dx, f, wl, _, h1, h2, h3⟩, wf, k⟩ := h
    refine ⟨_, (pss_cons (ps_set (i := 2) sc_added_up.nd rfl (Or.inl rfl) (pe_callTy call_list_of rfl T.n_list PyProof.Rows.boot_list (pa_cons (pv 0) pa_nil)))
      (pss_cons (ps_for PassesOwn.never rfl (pi_zip rfl T.n_zip (pa_cons (pe_fld (pv 1) rfl) (pa_cons (pe_fld (pv 1) rfl) pa_nil))) (pg_tup rfl (pgs_cons (pg_name (i := 3) sc_added_up.nd rfl (Or.inl rfl)) (pgs_cons (pg_name (i := 4) sc_added_up.nd rfl (Or.inl rfl)) pgs_nil))) (pss_one (ps_augS (pv 2) (pv 3) get_list (pv 4) ip_add set_list)))
      (pss_one (ps_ret (pv 2))))), ?_⟩
    refine ⟨_, rfl, ls, _, rfl, .inl (SqL.of hls), fun q hq => ?_⟩
    have s1 : Same H (upd H q (.lst ((table (snds l)).map V.int))) := same_new hq
    have h8 := wts_lt wf
    rw [weightsV_wts] at h3
    refine ⟨_, rfl, p, _, dx, _, _, rfl, s1 _ _ h1, T.C_Piece, T.a_Piece_facts, rfl, _, rfl, p, _, dx, _, _, rfl, s1 _ _ h1, T.C_Piece, T.a_Piece_weights, rfl, f, wl, _, _, rfl, SqL.of (s1 _ _ h2), SqL.of (s1 _ _ h3), ?_⟩
    refine for_zip (K := K) (xs := factsV x.2.what) (ys := (wts x.2.what).map fun y => V.int y.2) (by rw [← weightsV_wts]; exact wts_facts _) (fun i σ H' => ∃ v3 v4 : Option V, σ = [some (.ref ls), some (.ref p), some (.ref q), v3, v4] ∧ Same H H' ∧ H' q = some (.lst ((((wts x.2.what).take i).foldl addW (table (snds l))).map V.int))) ⟨none, none, rfl, s1, upd_same⟩ ?_ ?_ ?_
    · rintro i σ H' _ ⟨v3, v4, rfl, s2, hq2⟩
      exact ⟨SqL.of (s2 _ _ h2), SqL.of (s2 _ _ h3)⟩
    · rintro i xv yv Tt σ H' hxv hyv hT ⟨v3, v4, rfl, s2, hq2⟩
      rw [List.getElem?_map] at hyv
      cases ei : (wts x.2.what)[i]? with
      | none => rw [ei] at hyv; cases hyv
      | some y =>
        rw [ei] at hyv
        cases hyv
        rw [factsV_wts ei] at hxv
        cases hxv
        generalize wts x.2.what = ws at *
        have hy8 : y.1 < 8 := h8 y (List.mem_of_getElem? ei)
        have hq3 : upd H' Tt (.tup [V.int y.1, V.int y.2]) q = some (.lst (((ws.take i).foldl addW (table (snds l))).map V.int)) := by
          rw [upd_ne (ne_of_none hq2 hT)]; exact hq2
        have hlen : ((ws.take i).foldl addW (table (snds l))).length = 8 := (foldW (ws.take i) (table (snds l)) fun z hz => h8 z (List.mem_of_mem_take hz)).1
        obtain ⟨v, hv⟩ : ∃ v, ((ws.take i).foldl addW (table (snds l)))[y.1]? = some v := ⟨_, List.getElem?_eq_getElem (by rw [hlen]; exact hy8)⟩
        refine ⟨Tt, _, rfl, SqT.of upd_same, rfl, _, _, rfl, _, _, rfl, rfl, ?_⟩
        refine ⟨_, rfl, _, rfl, q, _, _, V.int v, rfl, rfl, by omega, SqL.of hq3, (by rw [Int.toNat_natCast, List.getElem?_map, hv]; rfl), _, rfl, _, _, rfl, rfl, q, _, _, y.1, rfl, rfl, hq3, ixN_nat (by rw [List.length_map, hlen]; exact hy8), ?_⟩
        refine ⟨_, _, rfl, fun b o e => ?_, ?_⟩
        · rw [upd_ne (ne_of_none e hq), upd_ne (ne_of_none (s2 _ _ e) hT)]
          exact s2 _ _ e
        · rw [upd_same]
          have e2 : ws.take (i + 1) = ws.take i ++ [y] := by rw [List.take_add_one, ei]; rfl
          rw [e2, List.foldl_append]
          have e3 : addW ((ws.take i).foldl addW (table (snds l))) y = ((ws.take i).foldl addW (table (snds l))).set y.1 (v + y.2) := by
            show List.set _ _ _ = _
            rw [List.getD_eq_getElem?_getD, hv]
            rfl
          show some (HO.lst _) = some (HO.lst (List.map V.int (addW ((ws.take i).foldl addW (table (snds l))) y)))
          rw [e3, List.map_set]
    · rintro σ H' ⟨v3, v4, rfl, s2, hq2⟩
      refine ⟨_, rfl, ?_⟩
      refine k _ q s2 hq ?_
      rw [hq2]
      rw [List.length_map, List.take_length, table_wts wf]

def sp_Counted_init (A : Adr) : Sp := fun vs H Q _ => ∃ (a dx : Addr) (c : Nat) (bar : Int) (lp ls : Addr), vs = [.ref a, .int c, .int bar, .ref lp, .ref ls] ∧ H a = some (.ins A.c_Counted dx []) ∧
  ∀ H' : Hp, H' a = some (.ins A.c_Counted dx (countedF c bar lp ls)) → (∀ b o, H b = some o → b ≠ a → H' b = some o) → Q .non H'
theorem ok_Counted_init (T : Txt K mg A) : FnOk P w K mg base CX0 1 A.f_Counted_init A.fd_Counted_init ["self", "claim", "bar", "pieces", "support"] (sp_Counted_init A) := by
  refine T.F_Counted_init.ok sc_Counted_init (fun vs H Q E h => ?_) (fun cdv Ar outer s H vs Q E hr h => ?_)
  · obtain ⟨a, dx, c, bar, lp, ls, rfl, _⟩ := h
    rfl
  · obtain ⟨a, dx, c, bar, lp, ls, rfl, hp, k⟩ := h
    refine ⟨_, (pss_cons (ps_fld (pv 0) (pv 1) rfl)
      (pss_cons (ps_fld (pv 0) (pv 2) rfl)
      (pss_cons (ps_fld (pv 0) (pv 3) rfl)
      (pss_one (ps_fld (pv 0) (pv 4) rfl))))), ?_⟩
    refine ⟨_, rfl, _, rfl, a, _, dx, _, rfl, hp, T.C_Counted, T.a_Counted_claim, (by show 0 < 1000; decide), ?_⟩
    refine ⟨_, rfl, _, rfl, a, _, dx, _, rfl, upd_same, T.C_Counted, T.a_Counted_bar, (by show 1 < 1000; decide), ?_⟩
    refine ⟨_, rfl, _, rfl, a, _, dx, _, rfl, upd_same, T.C_Counted, T.a_Counted_pieces, (by show 2 < 1000; decide), ?_⟩
    refine ⟨_, rfl, _, rfl, a, _, dx, _, rfl, upd_same, T.C_Counted, T.a_Counted_support, (by show 3 < 1000; decide), ?_⟩
    refine k _ upd_same fun b o e hb => ?_
    rw [upd_ne hb, upd_ne hb, upd_ne hb, upd_ne hb]
    exact e

def sp_Counted_is_proven (A : Adr) : Sp := fun vs H Q _ => ∃ (a : Addr) (f c : Nat) (bar : Int) (l : List NP) (N : Addr → Prop), vs = [.ref a, .int f] ∧ CountedAt A N H a c bar l ∧ f < 8 ∧ Q (.bl (Vbptam.proven bar (snds l) f)) H
theorem ok_Counted_is_proven (T : Txt K mg A) : FnOk P w K mg base CX0 1 A.f_Counted_is_proven A.fd_Counted_is_proven ["self", "fact"] (sp_Counted_is_proven A) := by
  refine T.F_Counted_is_proven.ok sc_Counted_is_proven (fun vs H Q E h => ?_) (fun cdv Ar outer s H vs Q E hr h => ?_)
  · obtain ⟨a, f, c, bar, l, N, rfl, _⟩ := h
    rfl
  · obtain ⟨a, f, c, bar, l, N, rfl, ⟨dx, lp, ls, ps, hC⟩, hf, k⟩ := h
    refine ⟨_, (pss_one (ps_ret (pe_cmpR op_ge (pe_ix ix_list (pe_fld (pv 0) rfl) (pv 1) (fun _ _ => rfl)) (pe_fld (pv 0) rfl) (nomark _)))), ?_⟩
    refine ⟨_, rfl, a, _, dx, _, _, rfl, hC.ins, T.C_Counted, T.a_Counted_support, rfl, _, rfl, ls, _, _, V.int (Vbptam.sumFor (snds l) f), rfl, rfl, SqL.of hC.ls, atI_nat (by rw [List.getElem?_map, table_at (snds l) hf]; rfl), _, rfl, a, _, dx, _, _, rfl, hC.ins, T.C_Counted, T.a_Counted_bar, rfl, _, _, rfl, rfl, ?_⟩
    exact k

def sp_Counted_is_brought_down_by (A : Adr) : Sp := fun vs H Q _ => ∃ (a p : Addr) (c : Nat) (bar : Int) (l : List NP) (x : NP) (N : Addr → Prop), vs = [.ref a, .ref p] ∧ CountedAt A N H a c bar l ∧ PieceAt A N H p x ∧ WfW x.2.what ∧
  ∀ H' : Hp, Same H H' → Q (.bl (Vbptam.downs bar (snds l) c x.2)) H'
theorem ok_Counted_is_brought_down_by (T : Txt K mg A) : FnOk P w K mg base CX0 2 A.f_Counted_is_brought_down_by A.fd_Counted_is_brought_down_by ["self", "piece"] (sp_Counted_is_brought_down_by A) := by
  refine T.F_Counted_is_brought_down_by.ok sc_Counted_is_brought_down_by (fun vs H Q E h => ?_) (fun cdv Ar outer s H vs Q E hr h => ?_)
  · obtain ⟨a, p, c, bar, l, x, N, rfl, _⟩ := h
    rfl
  · obtain ⟨a, p, c, bar, l, x, N, rfl, hC0, hp, wf, k⟩ := h
    obtain ⟨dx, lp, ls, ps, hC⟩ := id hC0
    obtain ⟨dp, f, wl, _, h1, h2, h3⟩ := id hp
    refine ⟨_, (pss_cons (ps_if (pt_cmpR op_ne (pe_fld (pv 1) rfl) (pe_fld (pv 0) rfl) (nomark _)) (pss_one (ps_ret pe_bl)) pss_nil)
      (pss_one (ps_ret (pe_callB (cr_all rfl) rfl T.n_all boot_all (pa_cons (pe_lc (own := [("fact", 2)]) rfl sc_Counted_is_brought_down_by.nd (pi_list (pe_fld (pv 1) rfl)) (blkOk_by (by kernel_rfl)) (fun _ _ _ _ _ => (pg_name (i := 2) sc_Counted_is_brought_down_by.nd rfl (Or.inl rfl))) (fun _ _ _ _ _ => pts_nil) (fun _ _ _ _ _ => (pe_meth (pv 0) T.C_Counted T.M_Counted_is_proven (ok_Counted_is_proven T) hr (b_Counted_is_proven T) .nil pass0 (pa_cons (pv 2) pa_nil)))) pa_nil))))), ?_⟩
    cases hx : x.2.what with
    | proof ws =>
      rw [hx] at h1
      refine ⟨_, rfl, p, _, dp, _, _, rfl, h1, T.C_Piece, T.a_Piece_claim, rfl, _, rfl, a, _, dx, _, _, rfl, hC.ins, T.C_Counted, T.a_Counted_claim, rfl, rfl, _, rfl, ?_⟩
      refine iteT ?_
      have e : Vbptam.downs bar (snds l) c x.2 = false := by unfold Vbptam.downs; rw [hx]
      have := k H (Same.refl H)
      rw [e] at this
      exact this
    | attack d fs =>
      rw [hx] at h1 h2 wf
      refine ⟨_, rfl, p, _, dp, _, _, rfl, h1, T.C_Piece, T.a_Piece_claim, rfl, _, rfl, a, _, dx, _, _, rfl, hC.ins, T.C_Counted, T.a_Counted_claim, rfl, rfl, _, rfl, ?_⟩
      have e : Vbptam.downs bar (snds l) c x.2 = (d == c && fs.all (Vbptam.proven bar (snds l))) := by unfold Vbptam.downs; rw [hx]
      rw [e] at k
      by_cases hd : d = c
      · subst hd
        refine iteNS rfl ?_
        refine ⟨_, rfl, p, _, dp, _, _, rfl, h1, T.C_Piece, T.a_Piece_facts, rfl, f, rfl, ⟨_, SqL.of h2⟩, fun D hD => ?_⟩
        refine lc_list (K := K) (a := f) (xs := fs.map fun (n : Nat) => V.int n) (fun i H' => Same H H' ∧ H' D = some (.lst ((fs.take i).map fun (n : Nat) => V.bl (Vbptam.proven bar (snds l) n)))) ⟨same_new hD, upd_same⟩ (fun i H' _ ⟨s1, _⟩ => SqL.of (s1 _ _ h2)) ?_ ?_
        · rintro i v H' hv ⟨s1, hD1⟩
          rw [List.getElem?_map] at hv
          cases ei : fs[i]? with
          | none => rw [ei] at hv; cases hv
          | some n =>
            rw [ei] at hv
            cases hv
            have hn8 : n < 8 := wf.1 n (List.mem_of_getElem? ei)
            refine ⟨rfl, yesT ?_⟩
            refine ⟨_, rfl, a, dx, _, rfl, s1 _ _ hC.ins, rfl, _, rfl, a, n, d, bar, l, N, rfl, hC0.keep (Keep.of s1), hn8, ?_⟩
            refine ⟨_, hD1, ?_, fun b o e => ?_, ?_⟩
            · rw [List.length_map, List.length_take]
              exact Nat.lt_of_le_of_lt (Nat.min_le_right _ _) (Nat.lt_of_le_of_lt wf.2.1 (by decide))
            · rw [upd_ne (ne_of_none e hD)]
              exact s1 _ _ e
            · rw [upd_same, List.take_add_one, ei, List.map_append]
              rfl
        · rintro H' ⟨s1, hD1⟩
          rw [List.length_map, List.take_length] at hD1
          refine ⟨D, fs.map (Vbptam.proven bar (snds l)), rfl, SqL.of (by rw [hD1, List.map_map]; rfl), ?_⟩
          have := k H' s1
          rw [beq_self_eq_true, Bool.true_and] at this
          rw [List.all_map]
          exact this
      · have hb : (!decide (V.int (d : Int) = V.int (c : Int))) = true := by
          have : ¬ (V.int (d : Int) = V.int (c : Int)) := fun q => hd (by injection q with q; omega)
          rw [decide_eq_false this]
          rfl
        have hbd : (d == c) = false := by simpa using hd
        rw [hbd, Bool.false_and] at k
        show if (!decide (V.int (d : Int) = V.int (c : Int))) = true then _ else _
        rw [if_pos hb]
        exact k H (Same.refl H)
end
end Op


set_option Elab.async false
set_option linter.all false
set_option maxRecDepth 100000
set_option maxHeartbeats 4000000
namespace Op
open PySem PySem.Spec PyProof.Rows L2
theorem Paired.getR {α β : Type} {G : α → β → Prop} {l₁ : List α} {l₂ : List β} (h : Paired G l₁ l₂) : ∀ {i : Nat} {a : α}, l₁[i]? = some a → ∃ b, l₂[i]? = some b ∧ G a b := fun {i a} e => paired_get h e
theorem Paired.snoc {α β : Type} {G : α → β → Prop} {l₁ : List α} {l₂ : List β} {a : α} {b : β} (h : Paired G l₁ l₂) (g : G a b) : Paired G (l₁ ++ [a]) (l₂ ++ [b]) := by
  induction h with
  | nil => exact .cons g .nil
  | cons h1 _ ih => exact .cons h1 ih
section
variable {P : Program} {w : World} {K : PySem.W.Frag} {mg : Str → Option Value} {base : Heap} {A : Adr}
theorem filt_none (p : Vbptam.Piece → Bool) : ∀ l : List NP, (!(snds l).any p) = decide ((l.filter fun y => p y.2).length = 0)
  | [] => rfl
  | y :: l => by
    have ih := filt_none p l
    show (!(p y.2 || (snds l).any p)) = _
    rw [List.filter_cons]
    cases h : p y.2 with
    | true => simp
    | false => rw [Bool.false_or, ih]; rfl
def sp_Counted_proven_attacks (A : Adr) : Sp := fun vs H Q _ => ∃ (a : Addr) (c : Nat) (bar : Int) (l : List NP) (N : Addr → Prop), vs = [.ref a] ∧ CountedAt A N H a c bar l ∧
  ∀ (H' : Hp) (q : Addr) (as : List Addr), Same H H' → H q = Option.none → H' q = some (.lst (as.map V.ref)) → Paired (PieceAt A N H') as (l.filter fun y => Vbptam.downs bar (snds l) c y.2) → Q (.ref q) H'
theorem ok_Counted_proven_attacks (T : Txt K mg A) : FnOk P w K mg base CX0 3 A.f_Counted_proven_attacks A.fd_Counted_proven_attacks ["self"] (sp_Counted_proven_attacks A) := by
  refine T.F_Counted_proven_attacks.ok sc_Counted_proven_attacks (fun vs H Q E h => ?_) (fun cdv Ar outer s H vs Q E hr h => ?_)
  · obtain ⟨a, c, bar, l, N, rfl, _⟩ := h
    rfl
  · obtain ⟨a, c, bar, l, N, rfl, hC0, k⟩ := h
    obtain ⟨dx, lp, ls, ps, hC⟩ := id hC0
    refine ⟨_, (pss_one (ps_ret (pe_lc (own := [("piece", 1)]) rfl sc_Counted_proven_attacks.nd (pi_list (pe_fld (pv 0) rfl)) (blkOk_by (by kernel_rfl)) (fun _ _ _ _ _ => (pg_name (i := 1) sc_Counted_proven_attacks.nd rfl (Or.inl rfl))) (fun _ _ _ _ _ => (pts_one (pt_truthK (K := K) rfl (pe_meth (pv 0) T.C_Counted T.M_Counted_is_brought_down_by (ok_Counted_is_brought_down_by T) (hr.mono (by decide)) (b_Counted_is_brought_down_by T) .nil pass0 (pa_cons (pv 1) pa_nil)) (fun _ => rfl)))) (fun _ _ _ _ _ => (pv 1))))), ?_⟩
    refine ⟨_, rfl, a, _, dx, _, _, rfl, hC.ins, T.C_Counted, T.a_Counted_pieces, rfl, lp, rfl, ⟨_, SqL.of hC.lp⟩, fun D nD => ?_⟩
    refine lc_list (K := K) (a := lp) (xs := ps.map V.ref) (fun i H' => Same H H' ∧ ∃ as : List Addr, H' D = some (.lst (as.map V.ref)) ∧ Paired (PieceAt A N H) as ((l.take i).filter fun y => Vbptam.downs bar (snds l) c y.2)) ⟨same_new nD, [], upd_same, .nil⟩ (fun i H' _ ⟨s1, _⟩ => SqL.of (s1 _ _ hC.lp)) ?_ ?_
    · rintro i v H' hv ⟨s1, as, hD1, hP⟩
      rw [List.getElem?_map] at hv
      cases ei : ps[i]? with
      | none => rw [ei] at hv; cases hv
      | some p =>
        rw [ei] at hv
        cases hv
        obtain ⟨x, hx, hp⟩ := Paired.getR hC.ps ei
        have e1 : l.take (i + 1) = l.take i ++ [x] := by rw [List.take_add_one, hx]; rfl
        refine ⟨rfl, _, rfl, a, dx, _, rfl, s1 _ _ hC.ins, rfl, _, rfl, a, p, c, bar, l, x, N, rfl, hC0.keep (Keep.of s1), hp.keep (Keep.of s1), hC.wf x (List.mem_of_getElem? hx), fun H2 s2 => ⟨_, rfl, ?_⟩⟩
        have s12 := s1.trans s2
        refine ite2 (fun hd => ?_) (fun hd => ?_)
        · refine ⟨_, rfl, _, s2 _ _ hD1, ?_, fun b o e => ?_, as ++ [p], ?_, ?_⟩
          · rw [List.length_map, Paired.length hP]
            refine Nat.lt_of_le_of_lt (List.length_filter_le _ _) ?_
            rw [List.length_take]
            exact Nat.lt_of_le_of_lt (Nat.min_le_right _ _) (Nat.lt_of_le_of_lt hC.len (by decide))
          · rw [upd_ne (ne_of_none e nD)]
            exact s12 _ _ e
          · rw [upd_same, List.map_append]
            rfl
          · rw [e1, List.filter_append, List.filter_cons, if_pos hd]
            exact Paired.snoc hP hp
        · refine ⟨s12, as, s2 _ _ hD1, ?_⟩
          rw [e1, List.filter_append, List.filter_cons, if_neg hd, List.filter_nil, List.append_nil]
          exact hP
    · rintro H' ⟨s1, as, hD1, hP⟩
      have e1 : (ps.map V.ref).length = l.length := by rw [List.length_map]; exact Paired.length hC.ps
      rw [e1, List.take_length] at hP
      exact k H' D as s1 nD hD1 (Paired.mapP hP fun _ _ q => q.keep (Keep.of s1))

def sp_Counted_stands (A : Adr) : Sp := fun vs H Q _ => ∃ (a : Addr) (c : Nat) (bar : Int) (l : List NP) (N : Addr → Prop), vs = [.ref a] ∧ CountedAt A N H a c bar l ∧
  ∀ H' : Hp, Same H H' → Q (.bl (Vbptam.stands bar (snds l) c)) H'
theorem ok_Counted_stands (T : Txt K mg A) : FnOk P w K mg base CX0 4 A.f_Counted_stands A.fd_Counted_stands ["self"] (sp_Counted_stands A) := by
  refine T.F_Counted_stands.ok sc_Counted_stands (fun vs H Q E h => ?_) (fun cdv Ar outer s H vs Q E hr h => ?_)
  · obtain ⟨a, c, bar, l, N, rfl, _⟩ := h
    rfl
  · obtain ⟨a, c, bar, l, N, rfl, hC0, k⟩ := h
    obtain ⟨dx, lp, ls, ps, hC⟩ := id hC0
    refine ⟨_, (pss_one (ps_ret (pe_cmpR op_eq (pe_callB call_len_seq rfl T.n_len PySem.boot_len (pa_cons (pe_meth0 (pv 0) T.C_Counted T.M_Counted_proven_attacks (ok_Counted_proven_attacks T) (hr.mono (by decide)) (b_Counted_proven_attacks T) .nil pass0) pa_nil)) pe_int (nomark _)))), ?_⟩
    refine ⟨_, rfl, a, dx, _, rfl, hC.ins, rfl, a, c, bar, l, N, rfl, hC0, fun H1 q as s1 nq gq hP => ⟨q, _, rfl, .inl (SqL.of gq), rfl, ?_⟩⟩
    have e : Vbptam.stands bar (snds l) c = decide ((((as.map V.ref).length : Nat) : Int) = 0) := by
      unfold Vbptam.stands
      rw [filt_none, List.length_map, Paired.length hP, decide_eq_decide]
      omega
    rw [decI, ← e]
    exact k H1 s1

def sp_Counted_joined_by (A : Adr) : Sp := fun vs H Q _ => ∃ (a p : Addr) (c : Nat) (bar : Int) (l : List NP) (x : NP) (N : Addr → Prop), vs = [.ref a, .ref p] ∧ CountedAt A N H a c bar l ∧ PieceAt A N H p x ∧ WfW x.2.what ∧ l.length < 24 ∧ (∀ b, H b = Option.none → N b) ∧
  ∀ (H' : Hp) (q : Addr), Same H H' → H q = Option.none → CountedAt A N H' q c bar (l ++ [x]) → Q (.ref q) H'
theorem ok_Counted_joined_by (T : Txt K mg A) : FnOk P w K mg base CX0 3 A.f_Counted_joined_by A.fd_Counted_joined_by ["self", "piece"] (sp_Counted_joined_by A) := by
  refine T.F_Counted_joined_by.ok sc_Counted_joined_by (fun vs H Q E h => ?_) (fun cdv Ar outer s H vs Q E hr h => ?_)
  · obtain ⟨a, p, c, bar, l, x, N, rfl, _⟩ := h
    rfl
  · obtain ⟨a, p, c, bar, l, x, N, rfl, hC0, hp, wf, hl, hN, k⟩ := h
    obtain ⟨dx, lp, ls, ps, hC⟩ := id hC0
    refine ⟨_, (pss_one (ps_ret (pe_make T.K_Counted (ok_Counted_init T) (hr.mono (by decide)) rfl T.c_Counted (b_Counted_init T) .nil pass0 (pa_cons (pe_fld (pv 0) rfl) (pa_cons (pe_fld (pv 0) rfl) (pa_cons (pe_op op_cat (pe_fld (pv 0) rfl) (pe_lst (pa_cons (pv 1) pa_nil))) (pa_cons (pe_call (ok_added_up T) (hr.mono (by decide)) rfl T.m_added_up T.F_added_up.kp (b_added_up T) .nil pass0 (pa_cons (pe_fld (pv 0) rfl) (pa_cons (pv 1) pa_nil))) pa_nil))))))), ?_⟩
    refine ⟨_, rfl, a, _, dx, _, _, rfl, hC.ins, T.C_Counted, T.a_Counted_claim, rfl, _, rfl, a, _, dx, _, _, rfl, hC.ins, T.C_Counted, T.a_Counted_bar, rfl, _, rfl, a, _, dx, _, _, rfl, hC.ins, T.C_Counted, T.a_Counted_pieces, rfl, _, rfl, (by show 1 ≤ sizeLine; decide), fun q1 hq1 => ?_⟩
    have s1 : Same H (upd H q1 (.lst [.ref p])) := same_new hq1
    have hlen : ps.length = l.length := Paired.length hC.ps
    refine ⟨lp, q1, _, _, rfl, rfl, s1 _ _ hC.lp, upd_same, (by rw [List.length_map, hlen]; exact Nat.le_trans (Nat.succ_le_of_lt hl) (by decide)), fun q2 hq2 => ?_⟩
    have s2 : Same H (upd (upd H q1 (.lst [.ref p])) q2 (.lst (ps.map V.ref ++ [.ref p]))) := s1.trans (same_new hq2)
    have g2 : upd (upd H q1 (.lst [.ref p])) q2 (.lst (ps.map V.ref ++ [.ref p])) q2 = some (.lst (ps.map V.ref ++ [.ref p])) := upd_same
    have n2 : H q2 = Option.none := s1.free hq2
    generalize upd (upd H q1 (.lst [.ref p])) q2 (.lst (ps.map V.ref ++ [.ref p])) = H2 at s2 g2
    refine ⟨_, rfl, a, _, dx, _, _, rfl, s2 _ _ hC.ins, T.C_Counted, T.a_Counted_support, rfl, _, rfl, ls, p, l, x, N, rfl, s2 _ _ hC.ls, hp.keep (Keep.of s2), wf, fun H3 q3 s3 n3 g3 => ?_⟩
    intro y dy ny ndy ney
    refine ⟨y, dy, c, bar, q2, q3, rfl, upd_same, fun H4 g4 k4 => ⟨rfl, ?_⟩⟩
    have s4 : Same H3 H4 := Same.made ny ndy k4
    have s14 := (s2.trans s3).trans s4
    refine k H4 y s14 ((s2.trans s3).free ny) ⟨dy, q2, q3, ps ++ [p], ?_⟩
    refine ⟨hN y ((s2.trans s3).free ny), hN q2 n2, hN q3 (s2.free n3), g4, ?_, ?_, s4 _ _ g3, ?_, ?_⟩
    · rw [List.map_append]
      exact s4 _ _ (s3 _ _ g2)
    · exact Paired.snoc (Paired.mapP hC.ps fun p x q => q.keep (Keep.of s14)) (hp.keep (Keep.of s14))
    · intro z hz
      rw [List.mem_append, List.mem_singleton] at hz
      rcases hz with hz | rfl
      · exact hC.wf z hz
      · exact wf
    · rw [List.length_append]
      exact hl

theorem snds_snoc (l : List NP) (x : NP) : snds (l ++ [x]) = snds l ++ [x.2] := snds_append _ _
theorem weighN_late {t : Int} {c : Nat} {l : List NP} {x : NP} (h : x.2.late = true) : weighN t c l x = if ok1 t c (snds l) x.2 = true then l ++ [x] else l := by
  unfold weighN
  cases e : ok1 t c (snds l) x.2 <;> simp [h]
theorem weighN_inT {t : Int} {c : Nat} {l : List NP} {x : NP} (h : x.2.late = false) : weighN t c l x = l ++ [x] := by
  unfold weighN
  simp [h]
def sp_Counted_weighed_with (A : Adr) : Sp := fun vs H Q _ => ∃ (a p : Addr) (c : Nat) (bar : Int) (l : List NP) (x : NP) (N : Addr → Prop), vs = [.ref a, .ref p] ∧ CountedAt A N H a c bar l ∧ PieceAt A N H p x ∧ WfW x.2.what ∧ l.length < 24 ∧ (∀ b, H b = Option.none → N b) ∧
  ∀ (H' : Hp) (q : Addr), Same H H' → CountedAt A N H' q c bar (weighN bar c l x) → Q (.ref q) H'
theorem beq_bl (a b : Bool) : decide (V.bl a = V.bl b) = (a == b) := by cases a <;> cases b <;> rfl
theorem ok_Counted_weighed_with (T : Txt K mg A) : FnOk P w K mg base CX0 5 A.f_Counted_weighed_with A.fd_Counted_weighed_with ["self", "piece"] (sp_Counted_weighed_with A) := by
  refine T.F_Counted_weighed_with.ok sc_Counted_weighed_with (fun vs H Q E h => ?_) (fun cdv Ar outer s H vs Q E hr h => ?_)
  · obtain ⟨a, p, c, bar, l, x, N, rfl, _⟩ := h
    rfl
  · obtain ⟨a, p, c, bar, l, x, N, rfl, hC0, hp, wf, hl, hN, k⟩ := h
    obtain ⟨dx, lp, ls, ps, hC⟩ := id hC0
    refine ⟨_, (pss_cons (ps_set (i := 2) sc_Counted_weighed_with.nd rfl (Or.inl rfl) (pe_meth (pv 0) T.C_Counted T.M_Counted_joined_by (ok_Counted_joined_by T) (hr.mono (by decide)) (b_Counted_joined_by T) .nil pass0 (pa_cons (pv 1) pa_nil)))
      (pss_cons (ps_if (PW.pt (pw_and (pt_truth (pe_fld (pv 1) rfl) (fun _ => rfl)) (pw_and1 (pt_cmpR op_eq (pe_meth0 (pv 2) T.C_Counted T.M_Counted_stands (ok_Counted_stands T) (hr.mono (by decide)) (b_Counted_stands T) .nil pass0) (pe_meth0 (pv 0) T.C_Counted T.M_Counted_stands (ok_Counted_stands T) (hr.mono (by decide)) (b_Counted_stands T) .nil pass0) (nomark _))))) (pss_one (ps_ret (pv 0))) pss_nil)
      (pss_one (ps_ret (pv 2))))), ?_⟩
    refine ⟨_, rfl, a, dx, _, rfl, hC.ins, rfl, _, rfl, a, p, c, bar, l, x, N, rfl, hC0, hp, wf, hl, hN, fun H1 q s1 n1 hJ => ?_⟩
    obtain ⟨dp, f, wl, _, h1, h2, h3⟩ := id hp
    refine ⟨_, rfl, p, _, dp, _, _, rfl, s1 _ _ h1, T.C_Piece, T.a_Piece_late, rfl, _, rfl, ?_⟩
    refine ite2 (fun hlate => ?_) (fun hlate => ?_)
    · obtain ⟨dj, lpj, lsj, psj, hJi⟩ := id hJ
      refine ⟨_, rfl, q, dj, _, rfl, hJi.ins, rfl, q, c, bar, l ++ [x], N, rfl, hJ, fun H2 s2 => ?_⟩
      refine ⟨_, rfl, a, dx, _, rfl, s2 _ _ (s1 _ _ hC.ins), rfl, a, c, bar, l, N, rfl, hC0.keep (Keep.of (s1.trans s2)), fun H3 s3 => ?_⟩
      refine ⟨rfl, _, rfl, ?_⟩
      have s13 := (s1.trans s2).trans s3
      rw [beq_bl]
      refine ite2 (fun he => ?_) (fun he => ?_)
      · refine ⟨_, rfl, k H3 a s13 ?_⟩
        have e1 : ok1 bar c (snds l) x.2 = false := by
          unfold ok1
          have he : (Vbptam.stands bar (snds l ++ [x.2]) c == Vbptam.stands bar (snds l) c) = true := by rw [← snds_snoc]; exact he
          rw [bne, he]
          rfl
        have e2 : weighN bar c l x = l := by
          rw [weighN_late hlate, e1]
          rfl
        rw [e2]
        exact hC0.keep (Keep.of s13)
      · refine ⟨_, rfl, k H3 q s13 ?_⟩
        have e1 : ok1 bar c (snds l) x.2 = true := by
          unfold ok1
          rw [bne, ← snds_snoc]
          cases e3 : (Vbptam.stands bar (snds (l ++ [x])) c == Vbptam.stands bar (snds l) c)
          · rfl
          · exact absurd e3 he
        have e2 : weighN bar c l x = l ++ [x] := by
          rw [weighN_late hlate, e1]
          rfl
        rw [e2]
        exact hJ.keep (Keep.of (s2.trans s3))
    · refine iteF ⟨_, rfl, k H1 q s1 ?_⟩
      have e2 : weighN bar c l x = l ++ [x] := weighN_inT (by cases e : x.2.late; rfl; exact absurd e hlate)
      rw [e2]
      exact hJ

def sp_nothing_counted (A : Adr) : Sp := fun vs H Q _ => ∃ (c : Nat) (bar : Int) (N : Addr → Prop), vs = [.int c, .int bar] ∧ (∀ b, H b = Option.none → N b) ∧
  ∀ (H' : Hp) (q : Addr), Same H H' → H q = Option.none → CountedAt A N H' q c bar [] → Q (.ref q) H'
theorem ok_nothing_counted (T : Txt K mg A) : FnOk P w K mg base CX0 3 A.f_nothing_counted A.fd_nothing_counted ["claim", "bar"] (sp_nothing_counted A) := by
  refine T.F_nothing_counted.ok sc_nothing_counted (fun vs H Q E h => ?_) (fun cdv Ar outer s H vs Q E hr h => ?_)
  · obtain ⟨c, bar, N, rfl, _⟩ := h
    rfl
  · obtain ⟨c, bar, N, rfl, hN, k⟩ := h
    refine ⟨_, (pss_one (ps_ret (pe_make T.K_Counted (ok_Counted_init T) (hr.mono (by decide)) rfl T.c_Counted (b_Counted_init T) .nil pass0 (pa_cons (pv 0) (pa_cons (pv 1) (pa_cons (pe_lst pa_nil) (pa_cons (pe_op op_rep (pe_lst (pa_cons pe_int pa_nil)) (pe_gint rfl T.g_FACTS)) pa_nil))))))), ?_⟩
    refine ⟨_, rfl, _, rfl, Nat.zero_le _, fun q1 n1 => ⟨(by show 1 ≤ sizeLine; decide), fun q2 n2 => ?_⟩⟩
    have s1 : Same H (upd H q1 (.lst [])) := same_new n1
    have s2 : Same (upd H q1 (.lst [])) (upd (upd H q1 (.lst [])) q2 (.lst [.int 0])) := same_new n2
    have g1 : upd (upd H q1 (.lst [])) q2 (.lst [.int 0]) q1 = some (.lst []) := s2 _ _ upd_same
    have g2 : upd (upd H q1 (.lst [])) q2 (.lst [.int 0]) q2 = some (.lst [.int 0]) := upd_same
    have s12 := s1.trans s2
    generalize upd (upd H q1 (.lst [])) q2 (.lst [.int 0]) = H2 at s12 g1 g2
    refine ⟨q2, _, _, rfl, rfl, g2, by decide, by decide, (by show 1 * 8 ≤ sizeLine; decide), fun q3 n3 => ?_⟩
    have s3 : Same H2 (upd H2 q3 (.lst ((List.replicate (8 : Int).toNat [V.int 0]).flatten))) := same_new n3
    intro y dy ny ndy ney
    refine ⟨y, dy, c, bar, q1, q3, rfl, upd_same, fun H4 g4 k4 => ⟨rfl, ?_⟩⟩
    have s4 := Same.made ny ndy k4
    refine k H4 y ((s12.trans s3).trans s4) ((s12.trans s3).free ny) ⟨dy, q1, q3, [], ?_⟩
    exact ⟨hN y ((s12.trans s3).free ny), hN q1 n1, hN q3 (s12.free n3), g4, s4 _ _ (s3 _ _ g1), .nil, s4 _ _ upd_same, fun z hz => (by cases hz), Nat.zero_le _⟩

def sp_Counted_less (A : Adr) : Sp := fun vs H Q _ => ∃ (a : Addr) (i c : Nat) (bar : Int) (l : List NP) (N : Addr → Prop), vs = [.ref a, .int i] ∧ CountedAt A N H a c bar l ∧ (∀ b, H b = Option.none → N b) ∧
  ∀ (H' : Hp) (q : Addr), Same H H' → CountedAt A N H' q c bar (l.filter (notI i)) → Q (.ref q) H'
theorem ok_Counted_less (T : Txt K mg A) : FnOk P w K mg base CX0 4 A.f_Counted_less A.fd_Counted_less ["self", "number"] (sp_Counted_less A) := by
  refine T.F_Counted_less.ok sc_Counted_less (fun vs H Q E h => ?_) (fun cdv Ar outer s H vs Q E hr h => ?_)
  · obtain ⟨a, i, c, bar, l, N, rfl, _⟩ := h
    rfl
  · obtain ⟨a, i, c, bar, l, N, rfl, hC0, hN, k⟩ := h
    obtain ⟨dx, lp, ls, ps, hC⟩ := id hC0
    refine ⟨_, (pss_cons (ps_set (i := 2) sc_Counted_less.nd rfl (Or.inl rfl) (pe_call (ok_nothing_counted T) (hr.mono (by decide)) rfl T.m_nothing_counted T.F_nothing_counted.kp (b_nothing_counted T) .nil pass0 (pa_cons (pe_fld (pv 0) rfl) (pa_cons (pe_fld (pv 0) rfl) pa_nil))))
      (pss_cons (ps_for PassesOwn.never rfl (pi_list (pe_fld (pv 0) rfl)) (pg_name (i := 3) sc_Counted_less.nd rfl (Or.inl rfl)) (pss_one (ps_if (pt_cmpR op_ne (pe_fld (pv 3) rfl) (pv 1) (nomark _)) (pss_one (ps_set (i := 2) sc_Counted_less.nd rfl (Or.inl rfl) (pe_meth (pv 2) T.C_Counted T.M_Counted_joined_by (ok_Counted_joined_by T) (hr.mono (by decide)) (b_Counted_joined_by T) .nil pass0 (pa_cons (pv 3) pa_nil)))) pss_nil)))
      (pss_one (ps_ret (pv 2))))), ?_⟩
    refine ⟨_, rfl, a, _, dx, _, _, rfl, hC.ins, T.C_Counted, T.a_Counted_claim, rfl, _, rfl, a, _, dx, _, _, rfl, hC.ins, T.C_Counted, T.a_Counted_bar, rfl, c, bar, N, rfl, hN, fun H1 q1 s1 n1 hC1 => ?_⟩
    refine ⟨_, rfl, a, _, dx, _, _, rfl, s1 _ _ hC.ins, T.C_Counted, T.a_Counted_pieces, rfl, lp, rfl, ⟨_, SqL.of (s1 _ _ hC.lp)⟩, ?_⟩
    refine for_list (K := K) (xs := ps.map V.ref) (fun j σ H' => ∃ (q : Addr) (v : Option V), σ = [some (.ref a), some (.int i), some (.ref q), v] ∧ Same H H' ∧ CountedAt A N H' q c bar ((l.take j).filter (notI i))) ⟨q1, none, rfl, s1, hC1⟩ (fun j σ H' _ ⟨_, _, _, s2, _⟩ => SqL.of (s2 _ _ hC.lp)) ?_ ?_
    · rintro j v σ H' hv ⟨q, v1, rfl, s2, hq⟩
      rw [List.getElem?_map] at hv
      cases ei : ps[j]? with
      | none => rw [ei] at hv; cases hv
      | some p =>
        rw [ei] at hv
        cases hv
        obtain ⟨x, hx, hp⟩ := Paired.getR hC.ps ei
        have hp2 := hp.keep (Keep.of s2)
        obtain ⟨dp, f, wl, _, h1, h2, h3⟩ := id hp2
        have e1 : l.take (j + 1) = l.take j ++ [x] := by rw [List.take_add_one, hx]; rfl
        refine ⟨_, rfl, p, _, dp, _, _, rfl, h1, T.C_Piece, T.a_Piece_number, rfl, _, rfl, rfl, _, rfl, ?_⟩
        rw [decI]
        by_cases hi : x.1 = i
        · refine (if_neg (by simp [hi])).mpr ?_
          refine ⟨q, _, rfl, s2, ?_⟩
          rw [e1, List.filter_append, List.filter_cons, if_neg (by simp [notI, hi]), List.filter_nil, List.append_nil]
          exact hq
        · refine (if_pos (by simp; omega)).mpr ?_
          obtain ⟨dq, lpq, lsq, psq, hQ⟩ := id hq
          have hlt : ((l.take j).filter (notI i)).length < 24 := by
            have h4 := List.length_filter_le (notI i) (l.take j)
            rw [List.length_take] at h4
            have h5 := (List.getElem?_eq_some_iff.mp hx).1
            have h6 := hC.len
            omega
          refine ⟨_, rfl, q, dq, _, rfl, hQ.ins, rfl, _, rfl, q, p, c, bar, _, x, N, rfl, hq, hp2, hC.wf x (List.mem_of_getElem? hx), hlt, fun b hb => hN b (s2.free hb), fun H2 q2 s3 n3 hC3 => ?_⟩
          refine ⟨q2, _, rfl, s2.trans s3, ?_⟩
          rw [e1, List.filter_append, List.filter_cons, if_pos (by simp [notI, hi]), List.filter_nil]
          exact hC3
    · rintro σ H' ⟨q, v1, rfl, s2, hq⟩
      have e1 : (ps.map V.ref).length = l.length := by rw [List.length_map]; exact Paired.length hC.ps
      rw [e1, List.take_length] at hq
      exact ⟨_, rfl, k H' q s2 hq⟩

def sp_weighed_on (A : Adr) : Sp := fun vs H Q _ => ∃ (a ln : Addr) (c : Nat) (bar : Int) (l xs : List NP) (ps : List Addr) (N : Addr → Prop), vs = [.ref a, .ref ln] ∧ CountedAt A N H a c bar l ∧ H ln = some (.lst (ps.map V.ref)) ∧ Paired (PieceAt A N H) ps xs ∧ (∀ y ∈ xs, WfW y.2.what) ∧ l.length + xs.length ≤ 24 ∧ (∀ b, H b = Option.none → N b) ∧
  ∀ (H' : Hp) (q : Addr), Same H H' → CountedAt A N H' q c bar (xs.foldl (weighN bar c) l) → Q (.ref q) H'
theorem ok_weighed_on (T : Txt K mg A) : FnOk P w K mg base CX0 6 A.f_weighed_on A.fd_weighed_on ["counted", "pieces"] (sp_weighed_on A) := by
  refine T.F_weighed_on.ok sc_weighed_on (fun vs H Q E h => ?_) (fun cdv Ar outer s H vs Q E hr h => ?_)
  · obtain ⟨a, ln, c, bar, l, xs, ps, N, rfl, _⟩ := h
    rfl
  · obtain ⟨a, ln, c, bar, l, xs, ps, N, rfl, hC0, hln, hP, wf, hlen, hN, k⟩ := h
    refine ⟨_, (pss_cons (ps_for PassesOwn.never rfl (pi_list (pv 1)) (pg_name (i := 2) sc_weighed_on.nd rfl (Or.inl rfl)) (pss_one (ps_set (i := 0) sc_weighed_on.nd rfl (Or.inl rfl) (pe_meth (pv 0) T.C_Counted T.M_Counted_weighed_with (ok_Counted_weighed_with T) (hr.mono (by decide)) (b_Counted_weighed_with T) .nil pass0 (pa_cons (pv 2) pa_nil)))))
      (pss_one (ps_ret (pv 0)))), ?_⟩
    refine ⟨_, rfl, ln, rfl, ⟨_, SqL.of hln⟩, ?_⟩
    refine for_list (K := K) (xs := ps.map V.ref) (fun j σ H' => ∃ (q : Addr) (v : Option V), σ = [some (.ref q), some (.ref ln), v] ∧ Same H H' ∧ CountedAt A N H' q c bar ((xs.take j).foldl (weighN bar c) l)) ⟨a, none, rfl, Same.refl H, hC0⟩ (fun j σ H' _ ⟨_, _, _, s2, _⟩ => SqL.of (s2 _ _ hln)) ?_ ?_
    · rintro j v σ H' hv ⟨q, v1, rfl, s2, hq⟩
      rw [List.getElem?_map] at hv
      cases ei : ps[j]? with
      | none => rw [ei] at hv; cases hv
      | some p =>
        rw [ei] at hv
        cases hv
        obtain ⟨x, hx, hp⟩ := Paired.getR hP ei
        have e1 : xs.take (j + 1) = xs.take j ++ [x] := by rw [List.take_add_one, hx]; rfl
        obtain ⟨dq, lpq, lsq, psq, hQ⟩ := id hq
        have hlt : ((xs.take j).foldl (weighN bar c) l).length < 24 := by
          have h4 := foldN_length bar c (xs.take j) l
          rw [List.length_take] at h4
          have h5 := (List.getElem?_eq_some_iff.mp hx).1
          omega
        refine ⟨_, rfl, q, dq, _, rfl, hQ.ins, rfl, _, rfl, q, p, c, bar, _, x, N, rfl, hq, hp.keep (Keep.of s2), wf x (List.mem_of_getElem? hx), hlt, fun b hb => hN b (s2.free hb), fun H2 q2 s3 hC3 => ?_⟩
        refine ⟨q2, _, rfl, s2.trans s3, ?_⟩
        rw [e1, List.foldl_append]
        exact hC3
    · rintro σ H' ⟨q, v1, rfl, s2, hq⟩
      have e1 : (ps.map V.ref).length = xs.length := by rw [List.length_map]; exact Paired.length hP
      rw [e1, List.take_length] at hq
      exact ⟨_, rfl, k H' q s2 hq⟩
end
end Op


set_option Elab.async false
set_option linter.all false
set_option maxRecDepth 100000
set_option maxHeartbeats 4000000
namespace Op
open PySem PySem.Spec PyProof.Rows L2

def kvsOf (o : Obj) : List (Int × Addr) := match o.data with
  | .dict es _ => es.toList.map fun e => (match e.key with | .int i _ => i | _ => 0, match e.val with | .ref a => a | _ => 0)
  | _ => []
def pairIn (K : PySem.W.Frag) (q : Addr) : Option (Int × Int) := match K.lookup q with
  | some o => match o.cls, o.data with
    | .type "tuple", .seq its _ => match its.toList with
      | [.int a _, .int b _] => some (a, b)
      | _ => none
    | _, _ => none
  | none => none
def pairsIn (K : PySem.W.Frag) : List Value → Option (List (Int × Int))
  | [] => some []
  | .ref q :: r => match pairIn K q, pairsIn K r with
    | some p, some l => some (p :: l)
    | _, _ => none
  | _ :: _ => none
def rngIn (K : PySem.W.Frag) (a : Addr) : Option (List (Int × Int)) := match K.lookup a with
  | some o => match o.cls, o.data with
    | .type "tuple", .seq its _ => if its.size ≤ 20 then pairsIn K its.toList else none
    | _, _ => none
  | none => none
theorem pairIn_seq {K : PySem.W.Frag} {q : Addr} {p : Int × Int} (h : pairIn K q = some p) (H : Hp) : SqT K H q [.int p.1, .int p.2] := by
  unfold pairIn at h
  split at h
  · rename_i o ho
    split at h
    · rename_i its n hc hd
      split at h
      · rename_i a t b t' e
        cases h
        refine .inr ⟨o, its, n, ho, hc, hd, ?_, ?_⟩
        · have : its.size = 2 := by rw [← Array.length_toList, e]; rfl
          rw [this]; decide
        · rw [e]
          exact .cons ⟨_, rfl⟩ (.cons ⟨_, rfl⟩ .nil)
      · cases h
    · cases h
  · cases h
theorem pairsIn_seq {K : PySem.W.Frag} : ∀ {us : List Value} {rs : List (Int × Int)}, pairsIn K us = some rs → ∃ qs : List Addr, Vals (qs.map V.ref) us ∧ Paired (fun q r => ∀ H, SqT K H q [.int r.1, .int r.2]) qs rs
  | [], rs, h => by
    cases h
    exact ⟨[], .nil, .nil⟩
  | v :: us, rs, h => by
    cases v with
    | ref q =>
      unfold pairsIn at h
      split at h
      · rename_i p l h1 h2
        cases h
        obtain ⟨qs, v, pr⟩ := pairsIn_seq h2
        exact ⟨q :: qs, .cons rfl v, .cons (fun H => pairIn_seq h1 H) pr⟩
      · cases h
    | _ => exact absurd h (by unfold pairsIn; simp)
theorem rngIn_seq {K : PySem.W.Frag} {a : Addr} {rs : List (Int × Int)} (h : rngIn K a = some rs) : ∃ qs : List Addr, (∀ H, SqT K H a (qs.map V.ref)) ∧ Paired (fun q r => ∀ H, SqT K H q [.int r.1, .int r.2]) qs rs := by
  unfold rngIn at h
  split at h
  · rename_i o ho
    split at h
    · rename_i its n hc hd
      split at h
      · rename_i hs
        obtain ⟨qs, v, pr⟩ := pairsIn_seq h
        exact ⟨qs, fun H => .inr ⟨o, its, n, ho, hc, hd, Nat.le_trans hs (by decide), v⟩, pr⟩
      · cases h
    · cases h
  · cases h
def RngOk (K : PySem.W.Frag) (A : Adr) : Prop := ∀ p : Nat, p < 20 → ∃ a, atM A.v_RANGES p = some a ∧ rngIn K a = some (rngs p)
theorem Form.small {c : List (List Int)} {p : Int} {a : List Int} {r : Option (List Int)} (h : Form c p a r) : ∃ k : Nat, p = (k : Int) ∧ k < 20 := by
  cases h
  · exact ⟨0, rfl, by decide⟩
  · exact ⟨1, rfl, by decide⟩
  · exact ⟨2, rfl, by decide⟩
  · exact ⟨3, rfl, by decide⟩
  · exact ⟨4, rfl, by decide⟩
  · exact ⟨5, rfl, by decide⟩
  · exact ⟨6, rfl, by decide⟩
  · exact ⟨7, rfl, by decide⟩
  · exact ⟨8, rfl, by decide⟩
  · exact ⟨9, rfl, by decide⟩
  · exact ⟨10, rfl, by decide⟩
  · exact ⟨11, rfl, by decide⟩
  · exact ⟨12, rfl, by decide⟩
  · exact ⟨13, rfl, by decide⟩
  · exact ⟨14, rfl, by decide⟩
  · exact ⟨15, rfl, by decide⟩
  · exact ⟨16, rfl, by decide⟩
  · exact ⟨17, rfl, by decide⟩
  · exact ⟨18, rfl, by decide⟩
  · exact ⟨19, rfl, by decide⟩
theorem Form.rngs_len {c : List (List Int)} {p : Int} {a : List Int} {r : Option (List Int)} (h : Form c p a r) : (rngs p).length = a.length := by
  cases h <;> rfl
theorem Form.row {c : List (List Int)} {p : Int} {a : List Int} {r : Option (List Int)} (h : Form c p a r) : inV (.int p) [.int 1, .int 2] = r.isSome := by
  cases h <;> rfl

def callF (p : Int) (la : Addr) (rv : V) : List (Str × V) := [("number", .int p), ("arguments", .ref la), ("row", rv)]
def RowAt (N : Addr → Prop) (H : Hp) (rv : V) : Option (List Int) → Prop
  | none => rv = .non
  | some f => ∃ lr, rv = .ref lr ∧ N lr ∧ H lr = some (.lst (f.map V.int))
structure CallIn (A : Adr) (N : Addr → Prop) (H : Hp) (k dx la : Addr) (rv : V) (p : Int) (a : List Int) (r : Option (List Int)) : Prop where
  nk : N k
  na : N la
  ins : H k = some (.ins A.c_Call dx (callF p la rv))
  arg : H la = some (.lst (a.map V.int))
  row : RowAt N H rv r
def CallAt (A : Adr) (N : Addr → Prop) (H : Hp) (k : Addr) (p : Int) (a : List Int) (r : Option (List Int)) : Prop := ∃ dx la rv, CallIn A N H k dx la rv p a r
theorem RowAt.keep {N : Addr → Prop} {H H' : Hp} {rv : V} {r : Option (List Int)} (h : RowAt N H rv r) (k : Keep N H H') : RowAt N H' rv r := by
  cases r with
  | none => exact h
  | some f =>
    obtain ⟨lr, e, n, q⟩ := h
    exact ⟨lr, e, n, k _ _ n q⟩
theorem CallAt.keep {A : Adr} {N : Addr → Prop} {H H' : Hp} {k : Addr} {p : Int} {a : List Int} {r : Option (List Int)} (h : CallAt A N H k p a r) (kp : Keep N H H') : CallAt A N H' k p a r := by
  obtain ⟨dx, la, rv, h⟩ := h
  exact ⟨dx, la, rv, h.nk, h.na, kp _ _ h.nk h.ins, kp _ _ h.na h.arg, h.row.keep kp⟩
def widthOf (a : List Int) : Option (List Int) → Nat
  | none => 1 + a.length
  | some f => 2 + a.length + f.length
theorem Form.width {c : List (List Int)} {p : Int} {a : List Int} {r : Option (List Int)} (h : Form c p a r) : (PyFlat.put1 c).length = widthOf a r := by
  rw [h.put1]
  cases r with
  | none => simp [widthOf]; omega
  | some f => simp [widthOf]; omega
def tailOf : Option (List Int) → List Int
  | none => []
  | some f => (f.length : Int) :: f
theorem Form.put2 {c : List (List Int)} {p : Int} {a : List Int} {r : Option (List Int)} (h : Form c p a r) : PyFlat.put1 c = p :: (a ++ tailOf r) := by
  rw [h.put1]
  cases r <;> rfl
section
variable {P : Program} {w : World} {K : PySem.W.Frag} {mg : Str → Option Value} {base : Heap} {A : Adr}
def sp_Call_init (A : Adr) : Sp := fun vs H Q _ => ∃ (k dx : Addr) (p : Int) (la : Addr) (rv : V), vs = [.ref k, .int p, .ref la, rv] ∧ H k = some (.ins A.c_Call dx []) ∧
  ∀ H' : Hp, H' k = some (.ins A.c_Call dx (callF p la rv)) → (∀ b o, H b = some o → b ≠ k → H' b = some o) → Q .non H'
theorem ok_Call_init (T : Txt K mg A) : FnOk P w K mg base CX0 1 A.f_Call_init A.fd_Call_init ["self", "number", "arguments", "row"] (sp_Call_init A) := by
  refine T.F_Call_init.ok sc_Call_init (fun vs H Q E h => ?_) (fun cdv Ar outer s H vs Q E hr h => ?_)
  · obtain ⟨k, dx, p, la, rv, rfl, _⟩ := h
    rfl
  · obtain ⟨kk, dx, p, la, rv, rfl, hp, k⟩ := h
    refine ⟨_, (pss_cons (ps_fld (pv 0) (pv 1) rfl)
      (pss_cons (ps_fld (pv 0) (pv 2) rfl)
      (pss_one (ps_fld (pv 0) (pv 3) rfl)))), ?_⟩
    refine ⟨_, rfl, _, rfl, kk, _, dx, _, rfl, hp, T.C_Call, T.a_Call_number, (by show 0 < 1000; decide), ?_⟩
    refine ⟨_, rfl, _, rfl, kk, _, dx, _, rfl, upd_same, T.C_Call, T.a_Call_arguments, (by show 1 < 1000; decide), ?_⟩
    refine ⟨_, rfl, _, rfl, kk, _, dx, _, rfl, upd_same, T.C_Call, T.a_Call_row, (by show 2 < 1000; decide), ?_⟩
    refine k _ upd_same fun b o e hb => ?_
    rw [upd_ne hb, upd_ne hb, upd_ne hb]
    exact e
def sp_Call_width (A : Adr) : Sp := fun vs H Q _ => ∃ (k : Addr) (p : Int) (a : List Int) (r : Option (List Int)) (N : Addr → Prop), vs = [.ref k] ∧ CallAt A N H k p a r ∧ Q (.int (widthOf a r : Nat)) H
theorem ok_Call_width (T : Txt K mg A) : FnOk P w K mg base CX0 1 A.f_Call_width A.fd_Call_width ["self"] (sp_Call_width A) := by
  refine T.F_Call_width.ok sc_Call_width (fun vs H Q E h => ?_) (fun cdv Ar outer s H vs Q E hr h => ?_)
  · obtain ⟨k, p, a, r, N, rfl, _⟩ := h
    rfl
  · obtain ⟨kk, p, a, r, N, rfl, ⟨dx, la, rv, hC⟩, k⟩ := h
    refine ⟨_, (pss_cons (ps_if (pt_cmpR op_isN (pe_fld (pv 0) rfl) pe_non (nomark _)) (pss_one (ps_ret (pe_op op_add pe_int (pe_callB call_len_seq rfl T.n_len PySem.boot_len (pa_cons (pe_fld (pv 0) rfl) pa_nil))))) pss_nil)
      (pss_one (ps_ret (pe_op op_add (pe_op op_add pe_int (pe_callB call_len_seq rfl T.n_len PySem.boot_len (pa_cons (pe_fld (pv 0) rfl) pa_nil))) (pe_callB call_len_seq rfl T.n_len PySem.boot_len (pa_cons (pe_fld (pv 0) rfl) pa_nil)))))), ?_⟩
    refine ⟨_, rfl, kk, _, dx, _, _, rfl, hC.ins, T.C_Call, T.a_Call_row, rfl, rfl, _, rfl, ?_⟩
    cases r with
    | none =>
      have e : rv = .non := hC.row
      subst e
      refine iteT ⟨_, rfl, kk, _, dx, _, _, rfl, hC.ins, T.C_Call, T.a_Call_arguments, rfl, la, _, rfl, .inl (SqL.of hC.arg), _, _, rfl, rfl, ?_⟩
      have e2 : (1 : Int) + ((a.map V.int).length : Int) = ((widthOf a none : Nat) : Int) := by
        rw [List.length_map]
        show (1 : Int) + (a.length : Int) = ((1 + a.length : Nat) : Int)
        omega
      rw [← e2] at k
      exact k
    | some f =>
      obtain ⟨lr, e, n, hf⟩ := hC.row
      subst e
      refine iteF ⟨_, rfl, kk, _, dx, _, _, rfl, hC.ins, T.C_Call, T.a_Call_arguments, rfl, la, _, rfl, .inl (SqL.of hC.arg), _, _, rfl, rfl, _, rfl, kk, _, dx, _, _, rfl, hC.ins, T.C_Call, T.a_Call_row, rfl, lr, _, rfl, .inl (SqL.of hf), _, _, rfl, rfl, ?_⟩
      have e2 : (2 : Int) + ((a.map V.int).length : Int) + ((f.map V.int).length : Int) = ((widthOf a (some f) : Nat) : Int) := by
        rw [List.length_map, List.length_map]
        show (2 : Int) + (a.length : Int) + (f.length : Int) = ((2 + a.length + f.length : Nat) : Int)
        omega
      rw [← e2] at k
      exact k

theorem cut_mid {pre a post : List Int} : cutV ((pre ++ (a ++ post)).map V.int) (some (pre.length : Nat)) (some ((pre.length + a.length : Nat) : Int)) = a.map V.int := by
  unfold cutV
  rw [HT.sIx_nat, HT.sIx_nat, List.length_map]
  have e1 : min pre.length (pre ++ (a ++ post)).length = pre.length := by simp
  have e2 : min (pre.length + a.length) (pre ++ (a ++ post)).length = pre.length + a.length := by simp
  rw [e1, e2, List.map_append, List.drop_left' (by simp), List.map_append, Nat.add_sub_cancel_left, List.take_left' (by simp)]
def sp_read_call (A : Adr) (K : PySem.W.Frag) : Sp := fun vs H Q _ => ∃ (ln : Addr) (pre rest : List Int) (c : List (List Int)) (p : Int) (a : List Int) (r : Option (List Int)) (N : Addr → Prop), vs = [.ref ln, .int (pre.length : Nat)] ∧
  SqL K H ln ((pre ++ (PyFlat.put1 c ++ rest)).map V.int) ∧ Form c p a r ∧ (∀ b, H b = Option.none → N b) ∧
  ∀ (H' : Hp) (k : Addr), Same H H' → H k = Option.none → CallAt A N H' k p a r → Q (.ref k) H'
theorem ok_read_call (T : Txt K mg A) (R : RngOk K A) : FnOk P w K mg base CX0 3 A.f_read_call A.fd_read_call ["numbers", "start"] (sp_read_call A K) := by
  refine T.F_read_call.ok sc_read_call (fun vs H Q E h => ?_) (fun cdv Ar outer s H vs Q E hr h => ?_)
  · obtain ⟨ln, pre, rest, c, p, a, r, N, rfl, _⟩ := h
    rfl
  · obtain ⟨ln, pre, rest, c, p, a, r, N, rfl, hln, hF, hN, k⟩ := h
    obtain ⟨kp, ekp, hkp⟩ := hF.small
    obtain ⟨ra, hra, hrn⟩ := R kp hkp
    rw [← ekp] at hra hrn
    obtain ⟨qs, hqs, hpr⟩ := rngIn_seq hrn
    have hqlen : qs.length = a.length := by rw [Paired.length hpr, hF.rngs_len]
    refine ⟨_, (pss_cons (ps_set (i := 2) sc_read_call.nd rfl (Or.inl rfl) (pe_ix ix_list (pv 0) (pv 1) (fun _ _ => rfl)))
      (pss_cons (ps_set (i := 3) sc_read_call.nd rfl (Or.inl rfl) (pe_op op_add (pe_op op_add (pv 1) pe_int) (pe_callB call_len_seq rfl T.n_len PySem.boot_len (pa_cons (pe_mget T.d_RANGES rfl T.g_RANGES (pv 2)) pa_nil))))
      (pss_cons (ps_set (i := 4) sc_read_call.nd rfl (Or.inl rfl) (pe_slice sl_list (pv 0) (po_some (pe_op op_add (pv 1) pe_int)) (po_some (pv 3))))
      (pss_cons (ps_if (pt_cmpR op_notIn_seq (pv 2) (pe_tup (pa_cons (pe_gint rfl T.g_ATTACK) (pa_cons (pe_gint rfl T.g_PROOF) pa_nil))) (by with_unfolding_all rfl)) (pss_one (ps_ret (pe_make T.K_Call (ok_Call_init T) hr rfl T.c_Call (b_Call_init T) .nil pass0 (pa_cons (pv 2) (pa_cons (pv 4) (pa_cons pe_non pa_nil)))))) pss_nil)
      (pss_cons (ps_set (i := 5) sc_read_call.nd rfl (Or.inl rfl) (pe_op op_add (pv 3) pe_int))
      (pss_one (ps_ret (pe_make T.K_Call (ok_Call_init T) hr rfl T.c_Call (b_Call_init T) .nil pass0 (pa_cons (pv 2) (pa_cons (pv 4) (pa_cons (pe_slice sl_list (pv 0) (po_some (pv 5)) (po_some (pe_op op_add (pv 5) (pe_ix ix_list (pv 0) (pv 3) (fun _ _ => rfl))))) pa_nil))))))))))), ?_⟩
    rw [hF.put2] at hln
    have ex0 : ((pre ++ (p :: (a ++ tailOf r) ++ rest)).map V.int)[pre.length]? = some (V.int p) := by
      rw [List.getElem?_map, List.getElem?_append_right (Nat.le_refl _), Nat.sub_self]
      rfl
    refine ⟨_, rfl, _, rfl, ln, _, _, V.int p, rfl, rfl, hln, atI_nat ex0, ?_⟩
    refine ⟨_, rfl, _, _, rfl, rfl, _, rfl, p, ra, rfl, hra, ra, _, rfl, .inr (hqs _), _, _, rfl, rfl, ?_⟩
    refine ⟨_, rfl, _, rfl, _, _, rfl, rfl, _, rfl, _, rfl, _, rfl, ln, _, rfl, hln, fun q1 n1 => ?_⟩
    have ecut : cutV ((pre ++ (p :: (a ++ tailOf r) ++ rest)).map V.int) (some (((pre.length : Nat) : Int) + 1)) (some (((pre.length : Nat) : Int) + 1 + ((qs.map V.ref).length : Int))) = a.map V.int := by
      have e1 : pre ++ (p :: (a ++ tailOf r) ++ rest) = (pre ++ [p]) ++ (a ++ (tailOf r ++ rest)) := by simp
      have e2 : (((pre.length : Nat) : Int) + 1) = (((pre ++ [p]).length : Nat) : Int) := by simp
      have e3 : (((pre.length : Nat) : Int) + 1 + ((qs.map V.ref).length : Int)) = (((pre ++ [p]).length + a.length : Nat) : Int) := by
        rw [List.length_map, hqlen, List.length_append]
        simp
      rw [e1, e3, e2]
      exact cut_mid
    have s1 := same_new (o := .lst (cutV ((pre ++ (p :: (a ++ tailOf r) ++ rest)).map V.int) (some (((pre.length : Nat) : Int) + 1)) (some (((pre.length : Nat) : Int) + 1 + ((qs.map V.ref).length : Int))))) n1
    have g1 : upd H q1 (.lst (cutV ((pre ++ (p :: (a ++ tailOf r) ++ rest)).map V.int) (some (((pre.length : Nat) : Int) + 1)) (some (((pre.length : Nat) : Int) + 1 + ((qs.map V.ref).length : Int))))) q1 = some (.lst (a.map V.int)) := by rw [upd_same, ecut]
    refine ⟨_, rfl, (by show 2 ≤ sizeLine; decide), fun q2 n2 => ⟨q2, _, rfl, .inr (SqT.of upd_same), rfl, rfl, _, rfl, ?_⟩⟩
    have s2 := same_new (o := .tup [.int 1, .int 2]) n2
    have s12 := s1.trans s2
    have hrow := hF.row
    cases r with
    | none =>
      have hc : (!inV (V.int p) [V.int 1, V.int 2]) = true := by rw [hrow]; rfl
      refine (if_pos hc).mpr ?_
      refine ⟨_, rfl, _, rfl, ?_⟩
      intro y dy ny ndy ney
      refine ⟨y, dy, p, q1, .non, rfl, upd_same, fun H4 g4 k4 => ⟨rfl, ?_⟩⟩
      have s4 := Same.made ny ndy k4
      exact k H4 y (s12.trans s4) (s12.free ny) ⟨dy, q1, .non, hN y (s12.free ny), hN q1 n1, g4, s4 _ _ (s2 _ _ g1), rfl⟩
    | some f =>
      have hc : ¬ (!inV (V.int p) [V.int 1, V.int 2]) = true := by rw [hrow]; exact Bool.false_ne_true
      refine (if_neg hc).mpr ?_
      refine ⟨_, rfl, _, _, rfl, rfl, ?_⟩
      have hln2 := s12.seq hln
      have ex1 : ((pre ++ (p :: (a ++ (f.length : Int) :: f) ++ rest)).map V.int)[pre.length + 1 + a.length]? = some (V.int (f.length : Int)) := by
        have e1 : pre ++ (p :: (a ++ (f.length : Int) :: f) ++ rest) = (pre ++ [p] ++ a) ++ ((f.length : Int) :: (f ++ rest)) := by simp
        have e2 : (pre ++ [p] ++ a).length = pre.length + 1 + a.length := by simp; omega
        rw [List.getElem?_map, e1, List.getElem?_append_right (by rw [e2]; exact Nat.le_refl _), e2, Nat.sub_self]
        rfl
      have eb : (((pre.length : Nat) : Int) + 1 + ((qs.map V.ref).length : Int)) = ((pre.length + 1 + a.length : Nat) : Int) := by
        rw [List.length_map, hqlen]
        omega
      refine ⟨_, rfl, _, rfl, _, rfl, _, rfl, _, rfl, _, rfl, _, rfl, _, rfl, ln, _, _, V.int (f.length : Int), rfl, rfl, hln2, (by rw [eb]; exact atI_nat ex1), _, _, rfl, rfl, _, rfl, ln, _, rfl, hln2, fun q3 n3 => ?_⟩
      have ecut2 : cutV ((pre ++ (p :: (a ++ (f.length : Int) :: f) ++ rest)).map V.int) (some (((pre.length : Nat) : Int) + 1 + ((qs.map V.ref).length : Int) + 1)) (some (((pre.length : Nat) : Int) + 1 + ((qs.map V.ref).length : Int) + 1 + (f.length : Int))) = f.map V.int := by
        have e1 : pre ++ (p :: (a ++ (f.length : Int) :: f) ++ rest) = (pre ++ [p] ++ a ++ [(f.length : Int)]) ++ (f ++ rest) := by simp
        have e2 : (((pre.length : Nat) : Int) + 1 + ((qs.map V.ref).length : Int) + 1) = (((pre ++ [p] ++ a ++ [(f.length : Int)]).length : Nat) : Int) := by
          rw [eb]
          simp
          omega
        have e3 : (((pre.length : Nat) : Int) + 1 + ((qs.map V.ref).length : Int) + 1 + (f.length : Int)) = (((pre ++ [p] ++ a ++ [(f.length : Int)]).length + f.length : Nat) : Int) := by
          rw [e2]
          omega
        rw [e1, e3, e2]
        exact cut_mid
      intro y dy ny ndy ney
      refine ⟨y, dy, p, q1, .ref q3, rfl, upd_same, fun H4 g4 k4 => ⟨rfl, ?_⟩⟩
      have s3 := same_new (o := .lst (cutV ((pre ++ (p :: (a ++ (f.length : Int) :: f) ++ rest)).map V.int) (some (((pre.length : Nat) : Int) + 1 + ((qs.map V.ref).length : Int) + 1)) (some (((pre.length : Nat) : Int) + 1 + ((qs.map V.ref).length : Int) + 1 + (f.length : Int))))) n3
      have s4 := Same.made ny ndy k4
      have s14 := (s12.trans s3).trans s4
      refine k H4 y s14 ((s12.trans s3).free ny) ⟨dy, q1, .ref q3, hN y ((s12.trans s3).free ny), hN q1 n1, g4, s4 _ _ (s3 _ _ (s2 _ _ g1)), q3, rfl, hN q3 (s12.free n3), ?_⟩
      have := s4 q3 _ upd_same
      rw [← ecut2]
      exact this
end
end Op


set_option Elab.async false
set_option linter.all false
set_option maxRecDepth 100000
set_option maxHeartbeats 4000000
namespace Op
open PySem PySem.Spec PyProof.Rows L2
section
variable {P : Program} {w : World} {K : PySem.W.Frag} {mg : Str → Option Value} {base : Heap} {A : Adr}
def CallFor (A : Adr) (N : Addr → Prop) (H : Hp) (k : Addr) (c : List (List Int)) : Prop := ∃ p a r, Form c p a r ∧ CallAt A N H k p a r
theorem CallFor.keep {N : Addr → Prop} {H H' : Hp} {k : Addr} {c : List (List Int)} (h : CallFor A N H k c) (kp : Keep N H H') : CallFor A N H' k c := by
  obtain ⟨p, a, r, hF, h⟩ := h
  exact ⟨p, a, r, hF, h.keep kp⟩
theorem CallFor.weak {N N' : Addr → Prop} {H : Hp} {k : Addr} {c : List (List Int)} (h : CallFor A N H k c) (hw : ∀ b, N b → N' b) : CallFor A N' H k c := by
  obtain ⟨p, a, r, hF, dx, la, rv, h1, h2, h3, h4, h5⟩ := h
  refine ⟨p, a, r, hF, dx, la, rv, hw _ h1, hw _ h2, h3, h4, ?_⟩
  cases r with
  | none => exact h5
  | some f =>
    obtain ⟨lr, e, n, q⟩ := h5
    exact ⟨lr, e, hw _ n, q⟩
def sp_split_calls (A : Adr) (K : PySem.W.Frag) : Sp := fun vs H Q _ => ∃ (ln : Addr) (cs : List (List (List Int))) (N : Addr → Prop), vs = [.ref ln] ∧
  SqL K H ln ((PyFlat.put cs).map V.int) ∧ (∀ c ∈ cs, PyFlat.okCall PyVbptam.shape c) ∧ cs.length ≤ 400 ∧ (∀ b, H b = Option.none → N b) ∧
  ∀ (H' : Hp) (lc : Addr) (ks : List Addr), Same H H' → H lc = Option.none → H' lc = some (.lst (ks.map V.ref)) → Paired (CallFor A N H') ks cs → Q (.ref lc) H'
theorem put_append : ∀ a b : List (List (List Int)), PyFlat.put (a ++ b) = PyFlat.put a ++ PyFlat.put b
  | [], b => rfl
  | c :: a, b => by
    show PyFlat.put1 c ++ PyFlat.put (a ++ b) = PyFlat.put1 c ++ PyFlat.put a ++ PyFlat.put b
    rw [put_append a b, List.append_assoc]
theorem put1_pos {c : List (List Int)} (h : PyFlat.okCall PyVbptam.shape c) : 0 < (PyFlat.put1 c).length := by
  obtain ⟨p, a, xs, rfl, _⟩ := h
  show 0 < ((p :: a) ++ PyFlat.putRows xs).length
  simp
theorem ok_split_calls (T : Txt K mg A) (R : RngOk K A) : FnOk P w K mg base CX0 4 A.f_split_calls A.fd_split_calls ["numbers"] (sp_split_calls A K) := by
  refine T.F_split_calls.ok sc_split_calls (fun vs H Q E h => ?_) (fun cdv Ar outer s H vs Q E hr h => ?_)
  · obtain ⟨ln, cs, N, rfl, _⟩ := h
    rfl
  · obtain ⟨ln, cs, N, rfl, hln, hok, h400, hN, k⟩ := h
    refine ⟨_, (pss_cons (ps_set (i := 1) sc_split_calls.nd rfl (Or.inl rfl) (pe_lst pa_nil))
      (pss_cons (ps_set (i := 2) sc_split_calls.nd rfl (Or.inl rfl) pe_int)
      (pss_cons (ps_while PassesOwn.never (pt_cmpR op_lt (pv 2) (pe_callB call_len_seq rfl T.n_len PySem.boot_len (pa_cons (pv 0) pa_nil)) (nomark _)) (pss_cons (ps_set (i := 3) sc_split_calls.nd rfl (Or.inl rfl) (pe_call (ok_read_call T R) hr rfl T.m_read_call T.F_read_call.kp (b_read_call T) .nil pass0 (pa_cons (pv 0) (pa_cons (pv 2) pa_nil))))
      (pss_cons (ps_expr (pe_bm PySem.F.plainAttrs_list PySem.F.slot_list_append PySem.F.type_list_append mt_append (pv 1) (pa_cons (pv 3) pa_nil)))
      (pss_one (ps_aug (i := 2) sc_split_calls.nd rfl (Or.inl rfl) (pe_meth0 (pv 3) T.C_Call T.M_Call_width (ok_Call_width T) (hr.mono (by decide)) (b_Call_width T) .nil pass0) ip_add)))))
      (pss_one (ps_ret (pv 1)))))), ?_⟩
    refine ⟨Nat.zero_le _, fun lc nlc => ?_⟩
    have s1 : Same H (upd H lc (.lst [])) := same_new nlc
    refine ⟨fun m σ H' => ∃ (i : Nat) (v : Option V) (ks : List Addr), m = cs.length - i ∧ i ≤ cs.length ∧ σ = [some (.ref ln), some (.ref lc), some (.int ((PyFlat.put (cs.take i)).length : Nat)), v] ∧ Same H H' ∧ H' lc = some (.lst (ks.map V.ref)) ∧ Paired (CallFor A (fun b => N b ∧ b ≠ lc) H') ks (cs.take i), ⟨cs.length, 0, none, [], rfl, Nat.zero_le _, rfl, s1, upd_same, .nil⟩, ?_⟩
    rintro m σ H' ⟨i, v, ks, rfl, hi, rfl, s2, hlc, hks⟩
    refine ⟨_, rfl, _, rfl, ln, _, rfl, .inl (s2.seq hln), _, _, rfl, rfl, _, rfl, ?_⟩
    by_cases hlt : i < cs.length
    · obtain ⟨c, hc⟩ : ∃ c, cs[i]? = some c := ⟨_, List.getElem?_eq_getElem hlt⟩
      have hcok := hok c (List.mem_of_getElem? hc)
      obtain ⟨p, a, r, hF⟩ := form_of hcok
      have hw := put1_pos hcok
      have e1 : cs.take (i + 1) = cs.take i ++ [c] := by rw [List.take_add_one, hc]; rfl
      have e2 : PyFlat.put cs = PyFlat.put (cs.take i) ++ (PyFlat.put1 c ++ PyFlat.put (cs.drop (i + 1))) := by
        have e3 : cs = cs.take i ++ (c :: cs.drop (i + 1)) := by
          have e4 : cs.drop i = c :: cs.drop (i + 1) := by
            rw [List.drop_eq_getElem_cons hlt]
            congr 1
            rw [List.getElem?_eq_getElem hlt] at hc
            exact Option.some.inj hc
          rw [← e4, List.take_append_drop]
        have e5 : PyFlat.put cs = PyFlat.put (cs.take i ++ (c :: cs.drop (i + 1))) := congrArg PyFlat.put e3
        rw [e5, put_append]
        rfl
      have hcond : decide ((((PyFlat.put (cs.take i)).length : Nat) : Int) < (((PyFlat.put cs).map V.int).length : Int)) = true := by
        rw [decide_eq_true_iff, List.length_map, e2, List.length_append, List.length_append]
        omega
      refine (if_pos hcond).mpr ?_
      refine ⟨fun σ' H' => ∃ (v : Option V) (ks : List Addr), σ' = [some (.ref ln), some (.ref lc), some (.int ((PyFlat.put (cs.take (i + 1))).length : Nat)), v] ∧ Same H H' ∧ H' lc = some (.lst (ks.map V.ref)) ∧ Paired (CallFor A (fun b => N b ∧ b ≠ lc) H') ks (cs.take (i + 1)), ?_, ?_⟩
      · rintro σ' H2 ⟨v, ks, rfl, q1, q2, q3⟩
        exact ⟨cs.length - (i + 1), by omega, i + 1, v, ks, rfl, hlt, rfl, q1, q2, q3⟩
      · have hln2 := s2.seq hln
        rw [e2] at hln2
        have hN2 : ∀ b, H' b = Option.none → N b ∧ b ≠ lc := fun b hb => ⟨hN b (s2.free hb), fun e => by rw [e, hlc] at hb; cases hb⟩
        refine ⟨_, rfl, _, rfl, ln, PyFlat.put (cs.take i), PyFlat.put (cs.drop (i + 1)), c, p, a, r, _, rfl, hln2, hF, hN2, fun H3 kk s3 n3 hC => ?_⟩
        have hkl : ks.length = (cs.take i).length := Paired.length hks
        have nlk : lc ≠ kk := ne_of_none hlc n3
        refine ⟨_, rfl, .inl ⟨rfl, _, SqL.of (s3 _ _ hlc)⟩, _, rfl, lc, _, _, rfl, rfl, s3 _ _ hlc, ?_, ?_⟩
        · rw [List.length_map, hkl, List.length_take]
          exact Nat.lt_of_le_of_lt (Nat.le_trans (Nat.min_le_right _ _) h400) (by decide)
        · have s4 : ∀ b o, b ≠ lc → H3 b = some o → upd H3 lc (.lst (ks.map V.ref ++ [.ref kk])) b = some o := fun b o hb e => by
            rw [upd_ne hb]; exact e
          have sH : Same H (upd H3 lc (.lst (ks.map V.ref ++ [.ref kk]))) := fun b o e => s4 b o (ne_of_none e nlc) (s3 _ _ (s2 _ _ e))
          have kp : Keep (fun b => N b ∧ b ≠ lc) H3 (upd H3 lc (.lst (ks.map V.ref ++ [.ref kk]))) := fun b o nb e => s4 b o nb.2 e
          have hC2 := hC.keep kp
          obtain ⟨dk, la, rv, hCi⟩ := id hC2
          have eW : (((PyFlat.put (cs.take i)).length : Nat) : Int) + ((widthOf a r : Nat) : Int) = ((PyFlat.put (cs.take (i + 1))).length : Nat) := by
            rw [e1, put_append, List.length_append]
            show _ = (((PyFlat.put (cs.take i)).length + (PyFlat.put1 c ++ []).length : Nat) : Int)
            rw [List.append_nil, hF.width]
            omega
          refine ⟨_, rfl, _, rfl, kk, dk, _, rfl, hCi.ins, rfl, kk, p, a, r, _, rfl, hC2, _, _, rfl, rfl, ?_⟩
          refine ⟨some (.ref kk), ks ++ [kk], ?_, sH, ?_, ?_⟩
          · rw [← eW]
            rfl
          · rw [upd_same, List.map_append]
            rfl
          · rw [e1]
            exact Paired.snoc (Paired.mapP hks fun b c q => (q.keep (Keep.of s3)).keep kp) ⟨p, a, r, hF, hC2⟩
    · have e : i = cs.length := by omega
      subst e
      rw [List.take_length] at hks ⊢
      have hcond : ¬ decide ((((PyFlat.put cs).length : Nat) : Int) < (((PyFlat.put cs).map V.int).length : Int)) = true := by
        rw [decide_eq_true_iff, List.length_map]
        omega
      refine (if_neg hcond).mpr ?_
      exact ⟨_, rfl, k H' lc ks s2 nlc hlc (Paired.mapP hks fun b c q => q.weak fun b nb => nb.1)⟩
end
end Op


set_option Elab.async false
set_option linter.all false
set_option maxRecDepth 100000
set_option maxHeartbeats 4000000
namespace Op
open PySem PySem.Spec PyProof.Rows L2
theorem fm_congr {α β : Type} {f g : α → Option β} : ∀ {l : List α}, (∀ x ∈ l, f x = g x) → l.filterMap f = l.filterMap g
  | [], _ => rfl
  | a :: l, h => by
    rw [List.filterMap_cons, List.filterMap_cons, h a (List.mem_cons_self ..), fm_congr fun x hx => h x (List.mem_cons_of_mem _ hx)]
theorem pick_evens (ns : List Int) : pickV (ns.map V.int) (some 0) none (some 2) = (evens ns).map V.int := by
  have eb : sliceBounds (some 0) none (some 2) (ns.map V.int).length = (0, (ns.length : Int), 2) := by
    rw [List.length_map]
    unfold sliceBounds
    simp
    omega
  unfold pickV
  rw [eb]
  unfold sliceRange
  have ec : (if (2 : Int) > 0 then (if (0 : Int) < (ns.length : Int) then ((ns.length : Int) - 0 + 2 - 1) / 2 else 0) else (if (0 : Int) > (ns.length : Int) then (0 - (ns.length : Int) - 2 - 1) / (-2) else 0)).toNat = (ns.length + 1) / 2 := by
    rw [if_pos (by decide)]
    by_cases h : (0 : Int) < (ns.length : Int)
    · rw [if_pos h]; omega
    · rw [if_neg h]; omega
  simp only [ec]
  rw [List.filterMap_map, ← pick_ev, List.map_filterMap]
  congr 1
  funext k
  simp only [Function.comp, List.getElem?_map]
  congr 2
  omega
theorem pick_odds (ns : List Int) : pickV (ns.map V.int) (some 1) none (some 2) = (odds ns).map V.int := by
  have eb : sliceBounds (some 1) none (some 2) (ns.map V.int).length = (max 0 (min 1 (ns.length : Int)), (ns.length : Int), 2) := by
    rw [List.length_map]
    unfold sliceBounds
    simp
  unfold pickV
  rw [eb]
  unfold sliceRange
  have ec : (if (2 : Int) > 0 then (if max 0 (min 1 (ns.length : Int)) < (ns.length : Int) then ((ns.length : Int) - max 0 (min 1 (ns.length : Int)) + 2 - 1) / 2 else 0) else (if max 0 (min 1 (ns.length : Int)) > (ns.length : Int) then (max 0 (min 1 (ns.length : Int)) - (ns.length : Int) - 2 - 1) / (-2) else 0)).toNat = ns.length / 2 := by
    rw [if_pos (by decide)]
    by_cases h : max 0 (min 1 (ns.length : Int)) < (ns.length : Int)
    · rw [if_pos h]; omega
    · rw [if_neg h]; omega
  simp only [ec]
  rw [List.filterMap_map, ← pick_od, List.map_filterMap]
  apply fm_congr
  intro k hk
  have hk := List.mem_range.mp hk
  simp only [Function.comp, List.getElem?_map]
  congr 2
  omega
section
variable {P : Program} {w : World} {K : PySem.W.Frag} {mg : Str → Option Value} {base : Heap} {A : Adr}
def sp_are_facts (K : PySem.W.Frag) : Sp := fun vs H Q _ => ∃ (lf : Addr) (fs : List Int), vs = [.ref lf] ∧ H lf = some (.lst (fs.map V.int)) ∧ Q (.bl (factsOk fs)) H
theorem ok_are_facts (T : Txt K mg A) : FnOk P w K mg base CX0 1 A.f_are_facts A.fd_are_facts ["facts"] (sp_are_facts K) := by
  refine T.F_are_facts.ok sc_are_facts (fun vs H Q E h => ?_) (fun cdv Ar outer s H vs Q E hr h => ?_)
  · obtain ⟨lf, fs, rfl, _⟩ := h
    rfl
  · obtain ⟨lf, fs, rfl, hf, k⟩ := h
    refine ⟨_, (pss_cons (ps_if (pt_cmpR op_eq (pe_callB call_len_seq rfl T.n_len PySem.boot_len (pa_cons (pv 0) pa_nil)) pe_int (nomark _)) (pss_one (ps_ret pe_bl)) pss_nil)
      (pss_cons (ps_set (i := 1) sc_are_facts.nd rfl (Or.inl rfl) (pe_un un_neg pe_int))
      (pss_cons (ps_for PassesOwn.never rfl (pi_list (pv 0)) (pg_name (i := 2) sc_are_facts.nd rfl (Or.inl rfl)) (pss_cons (ps_if (PW.pt (pw_or (pt_cmpR op_le (pv 2) (pv 1) (nomark _)) (pw_or1 (pt_cmpR op_gt (pv 2) (pe_gint rfl T.g_LAST_FACT) (nomark _))))) (pss_one (ps_ret pe_bl)) pss_nil)
      (pss_one (ps_set (i := 1) sc_are_facts.nd rfl (Or.inl rfl) (pv 2)))))
      (pss_one (ps_ret pe_bl))))), ?_⟩
    refine ⟨_, rfl, lf, _, rfl, .inl (SqL.of hf), rfl, _, rfl, ?_⟩
    rw [decI]
    unfold factsOk at k
    by_cases h0 : fs.length = 0
    · rw [if_pos h0] at k
      refine (if_pos (by rw [decide_eq_true_iff, List.length_map]; omega)).mpr ?_
      exact k
    · rw [if_neg h0] at k
      refine (if_neg (by rw [decide_eq_true_iff, List.length_map]; omega)).mpr ?_
      refine ⟨_, rfl, _, rfl, lf, rfl, ⟨_, SqL.of hf⟩, ?_⟩
      refine for_list (K := K) (xs := fs.map V.int) (fun i σ H' => ∃ (v : Option V) (b : Int), σ = [some (.ref lf), some (.int b), v] ∧ H' = H ∧ upFrom (-1) fs = upFrom b (fs.drop i)) ⟨none, -1, rfl, rfl, rfl⟩ (fun i σ H' _ ⟨_, _, _, e, _⟩ => by rw [e]; exact SqL.of hf) ?_ ?_
      · rintro i v σ H' hv ⟨v1, b, rfl, rfl, hu⟩
        rw [List.getElem?_map] at hv
        cases ei : fs[i]? with
        | none => rw [ei] at hv; cases hv
        | some f =>
          rw [ei] at hv
          cases hv
          have hlt : i < fs.length := (List.getElem?_eq_some_iff.mp ei).1
          have ed : fs.drop i = f :: fs.drop (i + 1) := by
            rw [List.drop_eq_getElem_cons hlt]
            congr 1
            rw [List.getElem?_eq_getElem hlt] at ei
            exact Option.some.inj ei
          rw [ed] at hu
          refine ⟨_, rfl, _, rfl, _, _, rfl, rfl, _, rfl, ?_⟩
          by_cases h1 : f ≤ b
          · refine (if_pos (decide_eq_true h1)).mpr ((if_pos rfl).mpr ?_)
            have e2 : upFrom b (f :: fs.drop (i + 1)) = false := by
              show (if f ≤ b ∨ f > 7 then false else _) = false
              rw [if_pos (Or.inl h1)]
            rw [hu, e2] at k
            exact k
          · refine (if_neg (by rw [decide_eq_true_iff]; exact h1)).mpr ?_
            refine ⟨_, rfl, _, _, rfl, rfl, _, rfl, ?_⟩
            by_cases h2 : 7 < f
            · refine (if_pos (decide_eq_true h2)).mpr ?_
              have e2 : upFrom b (f :: fs.drop (i + 1)) = false := by
                show (if f ≤ b ∨ f > 7 then false else _) = false
                rw [if_pos (Or.inr h2)]
              rw [hu, e2] at k
              exact k
            · refine (if_neg (by rw [decide_eq_true_iff]; exact h2)).mpr ?_
              refine ⟨_, rfl, _, f, rfl, rfl, ?_⟩
              rw [hu]
              show (if f ≤ b ∨ f > 7 then false else upFrom f (fs.drop (i + 1))) = _
              rw [if_neg (by omega)]
      · rintro σ H' ⟨v1, b, rfl, rfl, hu⟩
        rw [List.length_map, List.drop_length] at hu
        rw [hu] at k
        exact k

def sp_is_weight : Sp := fun vs H Q _ => ∃ x : Int, vs = [.int x] ∧ Q (.bl (weightOk x)) H
theorem ok_is_weight (T : Txt K mg A) : FnOk P w K mg base CX0 1 A.f_is_weight A.fd_is_weight ["weight"] sp_is_weight := by
  refine T.F_is_weight.ok sc_is_weight (fun vs H Q E h => ?_) (fun cdv Ar outer s H vs Q E hr h => ?_)
  · obtain ⟨x, rfl, _⟩ := h
    rfl
  · obtain ⟨x, rfl, k⟩ := h
    refine ⟨_, (pss_one (ps_ret (pe_and (pe_cmpR op_ne (pv 0) pe_int (nomark _)) (pe_one (pe_chain op_le op_le (pe_un un_neg (pe_gint rfl T.g_MOST_WEIGHT)) (pv 0) (pe_gint rfl T.g_MOST_WEIGHT)))))), ?_⟩
    refine ⟨_, rfl, rfl, _, rfl, ?_⟩
    unfold weightOk at k
    rw [decI]
    by_cases h0 : x = 0
    · refine (if_neg (by simp [h0])).mpr ?_
      rw [decide_eq_false (by simp [h0]), Bool.false_and] at k
      exact k
    · refine (if_pos (by simp [h0])).mpr ?_
      rw [decide_eq_true h0, Bool.true_and] at k
      refine ⟨_, rfl, _, rfl, _, _, rfl, rfl, _, rfl, ?_⟩
      by_cases h1 : -9 ≤ x
      · refine (if_pos (decide_eq_true h1)).mpr ?_
        rw [decide_eq_true h1, Bool.true_and] at k
        exact ⟨_, _, rfl, rfl, k⟩
      · refine (if_neg (by rw [decide_eq_true_iff]; exact h1)).mpr ?_
        rw [decide_eq_false h1, Bool.false_and] at k
        exact k

def sp_are_facts_and_weights (K : PySem.W.Frag) : Sp := fun vs H Q _ => ∃ (lw : Addr) (ws : List Int), vs = [.ref lw] ∧ H lw = some (.lst (ws.map V.int)) ∧ ws.length ≤ 16000 ∧ ∀ H', Same H H' → Q (.bl (pairsOk ws)) H'
theorem ok_are_facts_and_weights (T : Txt K mg A) : FnOk P w K mg base CX0 2 A.f_are_facts_and_weights A.fd_are_facts_and_weights ["row"] (sp_are_facts_and_weights K) := by
  refine T.F_are_facts_and_weights.ok sc_are_facts_and_weights (fun vs H Q E h => ?_) (fun cdv Ar outer s H vs Q E hr h => ?_)
  · obtain ⟨lw, ws, rfl, _⟩ := h
    rfl
  · obtain ⟨lw, ws, rfl, hw, hlen, k⟩ := h
    refine ⟨_, (pss_cons (ps_if (PW.pt (pw_or (pt_cmpR op_eq (pe_op op_mod (pe_callB call_len_seq rfl T.n_len PySem.boot_len (pa_cons (pv 0) pa_nil)) pe_int) pe_int (nomark _)) (pw_or1 (pt_not (pt_truth (pe_call (ok_are_facts T) hr rfl T.m_are_facts T.F_are_facts.kp (b_are_facts T) .nil pass0 (pa_cons (pe_slice3 (pv 0) (po_some pe_int) po_none (po_some pe_int)) pa_nil)) (fun _ => rfl)))))) (pss_one (ps_ret pe_bl)) pss_nil)
      (pss_one (ps_ret (pe_callB (cr_all rfl) rfl T.n_all boot_all (pa_cons (pe_lc (own := [("weight", 1)]) rfl sc_are_facts_and_weights.nd (pi_list (pe_slice3 (pv 0) (po_some pe_int) po_none (po_some pe_int))) (blkOk_by (by kernel_rfl)) (fun _ _ _ _ _ => (pg_name (i := 1) sc_are_facts_and_weights.nd rfl (Or.inl rfl))) (fun _ _ _ _ _ => pts_nil) (fun _ _ _ _ _ => (pe_call (ok_is_weight T) hr rfl T.m_is_weight T.F_is_weight.kp (b_is_weight T) .nil pass0 (pa_cons (pv 1) pa_nil)))) pa_nil))))), ?_⟩
    unfold pairsOk at k
    refine ⟨_, rfl, lw, _, rfl, .inl (SqL.of hw), _, _, rfl, rfl, (by show (0 : Int) < 2; decide), rfl, _, rfl, ?_⟩
    rw [decI, List.length_map]
    by_cases h1 : ws.length % 2 = 1
    · refine (if_pos (by rw [decide_eq_true_iff]; omega)).mpr ((if_pos rfl).mpr ?_)
      have := k H (Same.refl H)
      rw [if_pos (Or.inl h1)] at this
      exact this
    · refine (if_neg (by rw [decide_eq_true_iff]; omega)).mpr ?_
      refine ⟨_, rfl, _, rfl, _, rfl, lw, _, rfl, SqL.of hw, (by intro q; cases q), fun q1 n1 => ?_⟩
      have g1 := pick_evens ws
      have s1 := same_new (o := .lst (pickV (ws.map V.int) (some 0) none (some 2))) n1
      refine ⟨q1, evens ws, rfl, (by rw [← g1]; exact upd_same), _, rfl, ?_⟩
      by_cases h2 : factsOk (evens ws) = true
      · refine (if_neg (by rw [h2]; exact Bool.false_ne_true)).mpr ?_
        have hk : ∀ H', Same H H' → Q (.bl ((odds ws).all weightOk)) H' := fun H' s => by
          have := k H' s
          rw [if_neg (by rintro (q | q); exact h1 q; rw [h2] at q; cases q)] at this
          exact this
        refine ⟨_, rfl, _, rfl, _, rfl, lw, _, rfl, SqL.of (s1 _ _ hw), (by intro q; cases q), fun q2 n2 => ?_⟩
        have g2 := pick_odds ws
        have s2 := same_new (o := .lst (pickV (ws.map V.int) (some 1) none (some 2))) n2
        have s12 := s1.trans s2
        have e2 : upd (upd H q1 (.lst (pickV (ws.map V.int) (some 0) none (some 2)))) q2 (.lst (pickV (ws.map V.int) (some 1) none (some 2))) q2 = some (.lst ((odds ws).map V.int)) := by rw [upd_same, g2]
        refine ⟨q2, rfl, ⟨_, SqL.of e2⟩, fun D hD => ?_⟩
        have s3 := same_new (o := .lst []) hD
        refine lc_list (K := K) (a := q2) (xs := (odds ws).map V.int) (fun i H' => Same (upd (upd H q1 (.lst (pickV (ws.map V.int) (some 0) none (some 2)))) q2 (.lst (pickV (ws.map V.int) (some 1) none (some 2)))) H' ∧ H' D = some (.lst (((odds ws).take i).map fun x => V.bl (weightOk x)))) ⟨s3, upd_same⟩ (fun i H' _ ⟨s4, _⟩ => SqL.of (s4 _ _ e2)) ?_ ?_
        · rintro i v H' hv ⟨s4, hD1⟩
          rw [List.getElem?_map] at hv
          cases ei : (odds ws)[i]? with
          | none => rw [ei] at hv; cases hv
          | some x =>
            rw [ei] at hv
            cases hv
            refine ⟨rfl, yesT ?_⟩
            refine ⟨_, rfl, x, rfl, ?_⟩
            refine ⟨_, hD1, ?_, fun b o e => ?_, ?_⟩
            · rw [List.length_map, List.length_take]
              have : i < (odds ws).length := (List.getElem?_eq_some_iff.mp ei).1
              have h5 := (evens_length ws (by omega)).2
              have h6 : (16000 : Nat) < sizeLine := by decide
              omega
            · rw [upd_ne (ne_of_none e hD)]
              exact s4 _ _ e
            · rw [upd_same, List.take_add_one, ei, List.map_append]
              rfl
        · rintro H' ⟨s4, hD1⟩
          rw [List.length_map, List.take_length] at hD1
          refine ⟨D, (odds ws).map weightOk, rfl, SqL.of (by rw [hD1, List.map_map]; rfl), ?_⟩
          have := hk H' (s12.trans s4)
          rw [List.all_map]
          exact this
      · have h3 : factsOk (evens ws) = false := by
          cases e : factsOk (evens ws)
          · rfl
          · exact absurd e h2
        refine (if_pos (by rw [h3]; rfl)).mpr ?_
        have := k _ s1
        rw [if_pos (Or.inr h3)] at this
        exact this
end
end Op


set_option Elab.async false
set_option linter.all false
set_option maxRecDepth 100000
set_option maxHeartbeats 4000000
namespace Op
open PySem PySem.Spec PyProof.Rows L2
def rowLen : Option (List Int) → Nat
  | none => 0
  | some f => f.length
theorem Form.r1 {c : List (List Int)} {p : Int} {a : List Int} {r : Option (List Int)} (h : Form c p a r) : (p = 1 ∨ p = 2 → ∃ f, r = some f) ∧ (¬ (p = 1 ∨ p = 2) → r = none) := by
  cases h
  case c1 o c f => exact ⟨fun _ => ⟨f, rfl⟩, fun q => absurd (Or.inl rfl) q⟩
  case c2 p w => exact ⟨fun _ => ⟨w, rfl⟩, fun q => absurd (Or.inr rfl) q⟩
  all_goals exact ⟨fun q => by omega, fun _ => rfl⟩
section
variable {P : Program} {w : World} {K : PySem.W.Frag} {mg : Str → Option Value} {base : Heap} {A : Adr}
def sp_is_row_as_told (A : Adr) : Sp := fun vs H Q _ => ∃ (kk : Addr) (c : List (List Int)) (p : Int) (a : List Int) (r : Option (List Int)) (N : Addr → Prop), vs = [.ref kk] ∧ CallAt A N H kk p a r ∧ Form c p a r ∧ rowLen r ≤ 16000 ∧ ∀ H', Same H H' → Q (.bl (rowOk p r)) H'
theorem ok_is_row_as_told (T : Txt K mg A) : FnOk P w K mg base CX0 3 A.f_is_row_as_told A.fd_is_row_as_told ["call"] (sp_is_row_as_told A) := by
  refine T.F_is_row_as_told.ok sc_is_row_as_told (fun vs H Q E h => ?_) (fun cdv Ar outer s H vs Q E hr h => ?_)
  · obtain ⟨kk, c, p, a, r, N, rfl, _⟩ := h
    rfl
  · obtain ⟨kk, c, p, a, r, N, rfl, ⟨dx, la, rv, hC⟩, hF, hlen, k⟩ := h
    refine ⟨_, (pss_cons (ps_if (pt_cmpR op_eq (pe_fld (pv 0) rfl) (pe_gint rfl T.g_ATTACK) (nomark _)) (pss_one (ps_ret (pe_and (pe_cmpR op_le (pe_callB call_len_seq rfl T.n_len PySem.boot_len (pa_cons (pe_fld (pv 0) rfl) pa_nil)) (pe_gint rfl T.g_MOST_FACTS_OF_ATTACK) (nomark _)) (pe_one (pe_call (ok_are_facts T) (hr.mono (by decide)) rfl T.m_are_facts T.F_are_facts.kp (b_are_facts T) .nil pass0 (pa_cons (pe_fld (pv 0) rfl) pa_nil)))))) pss_nil)
      (pss_cons (ps_if (pt_cmpR op_eq (pe_fld (pv 0) rfl) (pe_gint rfl T.g_PROOF) (nomark _)) (pss_one (ps_ret (pe_call (ok_are_facts_and_weights T) hr rfl T.m_are_facts_and_weights T.F_are_facts_and_weights.kp (b_are_facts_and_weights T) .nil pass0 (pa_cons (pe_fld (pv 0) rfl) pa_nil)))) pss_nil)
      (pss_one (ps_ret pe_bl)))), ?_⟩
    refine ⟨_, rfl, kk, _, dx, _, _, rfl, hC.ins, T.C_Call, T.a_Call_number, rfl, rfl, _, rfl, ?_⟩
    rw [decI]
    by_cases h1 : p = 1
    · refine (if_pos (decide_eq_true h1)).mpr ?_
      obtain ⟨f, rfl⟩ := hF.r1.1 (Or.inl h1)
      obtain ⟨lr, rfl, nl, hf⟩ := hC.row
      refine ⟨_, rfl, kk, _, dx, _, _, rfl, hC.ins, T.C_Call, T.a_Call_row, rfl, lr, _, rfl, .inl (SqL.of hf), _, _, rfl, rfl, _, rfl, ?_⟩
      have e : rowOk p (some f) = (decide (f.length ≤ 3) && factsOk f) := by
        show (if p = 1 then _ else _) = _
        rw [if_pos h1]
      rw [e] at k
      rw [List.length_map]
      by_cases h3 : f.length ≤ 3
      · refine (if_pos (by rw [decide_eq_true_iff]; omega)).mpr ?_
        rw [decide_eq_true h3, Bool.true_and] at k
        exact ⟨_, rfl, kk, _, dx, _, _, rfl, hC.ins, T.C_Call, T.a_Call_row, rfl, lr, f, rfl, hf, k H (Same.refl H)⟩
      · refine (if_neg (by rw [decide_eq_true_iff]; omega)).mpr ?_
        rw [decide_eq_false h3, Bool.false_and] at k
        exact k H (Same.refl H)
    · refine (if_neg (by rw [decide_eq_true_iff]; exact h1)).mpr ?_
      refine ⟨_, rfl, kk, _, dx, _, _, rfl, hC.ins, T.C_Call, T.a_Call_number, rfl, rfl, _, rfl, ?_⟩
      rw [decI]
      by_cases h2 : p = 2
      · refine (if_pos (decide_eq_true h2)).mpr ?_
        obtain ⟨f, rfl⟩ := hF.r1.1 (Or.inr h2)
        obtain ⟨lr, rfl, nl, hf⟩ := hC.row
        have e : rowOk p (some f) = pairsOk f := by
          show (if p = 1 then _ else _) = _
          rw [if_neg h1]
        rw [e] at k
        exact ⟨_, rfl, kk, _, dx, _, _, rfl, hC.ins, T.C_Call, T.a_Call_row, rfl, lr, f, rfl, hf, hlen, k⟩
      · refine (if_neg (by rw [decide_eq_true_iff]; exact h2)).mpr ?_
        have e := hF.r1.2 (by rintro (q | q); exact h1 q; exact h2 q)
        subst e
        exact k H (Same.refl H)

def sp_is_as_told (A : Adr) : Sp := fun vs H Q _ => ∃ (kk : Addr) (c : List (List Int)) (p : Int) (a : List Int) (r : Option (List Int)) (N : Addr → Prop), vs = [.ref kk] ∧ CallAt A N H kk p a r ∧ Form c p a r ∧ rowLen r ≤ 16000 ∧ ∀ H', Same H H' → Q (.bl (callOk p a r)) H'
theorem ok_is_as_told (T : Txt K mg A) (R : RngOk K A) : FnOk P w K mg base CX0 4 A.f_is_as_told A.fd_is_as_told ["call"] (sp_is_as_told A) := by
  refine T.F_is_as_told.ok sc_is_as_told (fun vs H Q E h => ?_) (fun cdv Ar outer s H vs Q E hr h => ?_)
  · obtain ⟨kk, c, p, a, r, N, rfl, _⟩ := h
    rfl
  · obtain ⟨kk, c, p, a, r, N, rfl, hC0, hF, hlen, k⟩ := h
    obtain ⟨dx, la, rv, hC⟩ := id hC0
    obtain ⟨kp, ekp, hkp⟩ := hF.small
    obtain ⟨ra, hra, hrn⟩ := R kp hkp
    rw [← ekp] at hra hrn
    obtain ⟨qs, hqs, hpr⟩ := rngIn_seq hrn
    have hqlen : qs.length = a.length := by rw [Paired.length hpr, hF.rngs_len]
    refine ⟨_, (pss_cons (ps_for PassesOwn.never rfl (pi_ziplt rfl T.n_zip (pa_cons (pe_fld (pv 0) rfl) (pa_cons (pe_mget T.d_RANGES rfl T.g_RANGES (pe_fld (pv 0) rfl)) pa_nil))) (pg_tup rfl (pgs_cons (pg_name (i := 1) sc_is_as_told.nd rfl (Or.inl rfl)) (pgs_cons (pg_name (i := 2) sc_is_as_told.nd rfl (Or.inl rfl)) pgs_nil))) (pss_one (ps_if (PW.pt (pw_or (pt_cmpR op_lt (pv 1) (pe_ix ix_tup (pv 2) pe_int (fun _ _ => rfl)) (nomark _)) (pw_or1 (pt_cmpR op_gt (pv 1) (pe_ix ix_tup (pv 2) pe_int (fun _ _ => rfl)) (nomark _))))) (pss_one (ps_ret pe_bl)) pss_nil)))
      (pss_one (ps_ret (pe_call (ok_is_row_as_told T) hr rfl T.m_is_row_as_told T.F_is_row_as_told.kp (b_is_row_as_told T) .nil pass0 (pa_cons (pv 0) pa_nil))))), ?_⟩
    refine ⟨_, rfl, kk, _, dx, _, _, rfl, hC.ins, T.C_Call, T.a_Call_arguments, rfl, _, rfl, kk, _, dx, _, _, rfl, hC.ins, T.C_Call, T.a_Call_number, rfl, p, ra, rfl, hra, la, ra, _, _, rfl, SqL.of hC.arg, hqs _, ?_⟩
    refine for_ziplt (K := K) (xs := a.map V.int) (ys := qs.map V.ref) (by simp [hqlen]) (fun i σ H' => ∃ v1 v2 : Option V, σ = [some (.ref kk), v1, v2] ∧ Same H H' ∧ argsOk a (rngs p) = argsOk (a.drop i) ((rngs p).drop i)) ⟨none, none, rfl, Same.refl H, rfl⟩ (fun i σ H' _ ⟨_, _, _, s1, _⟩ => ⟨SqL.of (s1 _ _ hC.arg), hqs _⟩) ?_ ?_
    · rintro i xv yv Tt σ H' hxv hyv hT ⟨v1, v2, rfl, s1, hu⟩
      rw [List.getElem?_map] at hxv hyv
      cases ei : a[i]? with
      | none => rw [ei] at hxv; cases hxv
      | some x =>
        cases eq : qs[i]? with
        | none => rw [eq] at hyv; cases hyv
        | some q =>
          rw [ei] at hxv
          rw [eq] at hyv
          cases hxv
          cases hyv
          obtain ⟨rg, hrg, hq⟩ := Paired.getR hpr eq
          have hlt : i < a.length := (List.getElem?_eq_some_iff.mp ei).1
          have hlt2 : i < (rngs p).length := (List.getElem?_eq_some_iff.mp hrg).1
          have ed : a.drop i = x :: a.drop (i + 1) := by
            rw [List.drop_eq_getElem_cons hlt]
            congr 1
            rw [List.getElem?_eq_getElem hlt] at ei
            exact Option.some.inj ei
          have ed2 : (rngs p).drop i = rg :: (rngs p).drop (i + 1) := by
            rw [List.drop_eq_getElem_cons hlt2]
            congr 1
            rw [List.getElem?_eq_getElem hlt2] at hrg
            exact Option.some.inj hrg
          rw [ed, ed2] at hu
          have s2 : Same H (upd H' Tt (.tup [V.int x, V.ref q])) := s1.trans (same_new hT)
          refine ⟨Tt, _, rfl, SqT.of upd_same, rfl, _, _, rfl, _, _, rfl, rfl, ?_⟩
          refine ⟨_, rfl, _, rfl, q, _, _, V.int rg.1, rfl, rfl, hq _, rfl, _, _, rfl, rfl, _, rfl, ?_⟩
          have eA : argsOk (x :: a.drop (i + 1)) (rg :: (rngs p).drop (i + 1)) = if x < rg.1 ∨ x > rg.2 then false else argsOk (a.drop (i + 1)) ((rngs p).drop (i + 1)) := rfl
          by_cases h1 : x < rg.1
          · refine (if_pos (decide_eq_true h1)).mpr ((if_pos rfl).mpr ?_)
            have := k _ s2
            unfold callOk at this
            rw [hu, eA, if_pos (Or.inl h1), Bool.false_and] at this
            exact this
          · refine (if_neg (by rw [decide_eq_true_iff]; exact h1)).mpr ?_
            refine ⟨_, rfl, _, rfl, q, _, _, V.int rg.2, rfl, rfl, hq _, rfl, _, _, rfl, rfl, _, rfl, ?_⟩
            by_cases h2 : rg.2 < x
            · refine (if_pos (decide_eq_true h2)).mpr ?_
              have := k _ s2
              unfold callOk at this
              rw [hu, eA, if_pos (Or.inr h2), Bool.false_and] at this
              exact this
            · refine (if_neg (by rw [decide_eq_true_iff]; exact h2)).mpr ?_
              refine ⟨_, _, rfl, s2, ?_⟩
              rw [hu, eA, if_neg (by rintro (z | z); exact h1 z; exact h2 z)]
    · rintro σ H' ⟨v1, v2, rfl, s1, hu⟩
      rw [List.length_map, List.drop_length] at hu
      have ek : argsOk a (rngs p) = true := hu
      refine ⟨_, rfl, kk, c, p, a, r, N, rfl, hC0.keep (Keep.of s1), hF, hlen, fun H2 s2 => ?_⟩
      have := k H2 (s1.trans s2)
      unfold callOk at this
      rw [ek, Bool.true_and] at this
      exact this
end
end Op


set_option Elab.async false
set_option linter.all false
set_option maxRecDepth 100000
set_option maxHeartbeats 4000000
namespace Op
open PySem PySem.Spec PyProof.Rows L2
theorem PieceAt.renew {A : Adr} {N N' : Addr → Prop} {H : Hp} {p : Addr} {x : NP} (h : PieceAt A N H p x) (hw : ∀ b, N b → H b ≠ Option.none → N' b) : PieceAt A N' H p x := by
  obtain ⟨dx, f, w, ⟨n1, n2, n3⟩, h1, h2, h3⟩ := h
  exact ⟨dx, f, w, ⟨hw _ n1 (by rw [h1]; simp), hw _ n2 (by rw [h2]; simp), hw _ n3 (by rw [h3]; simp)⟩, h1, h2, h3⟩
theorem CountedAt.renew {A : Adr} {N N' : Addr → Prop} {H : Hp} {a : Addr} {c : Nat} {bar : Int} {l : List NP} (h : CountedAt A N H a c bar l) (hw : ∀ b, N b → H b ≠ Option.none → N' b) : CountedAt A N' H a c bar l := by
  obtain ⟨dx, lp, ls, ps, h⟩ := h
  exact ⟨dx, lp, ls, ps, hw _ h.na (by rw [h.ins]; simp), hw _ h.np (by rw [h.lp]; simp), hw _ h.ns (by rw [h.ls]; simp), h.ins, h.lp, Paired.mapP h.ps fun p x q => q.renew hw, h.ls, h.wf, h.len⟩
theorem CallAt.renew {A : Adr} {N N' : Addr → Prop} {H : Hp} {k : Addr} {p : Int} {a : List Int} {r : Option (List Int)} (h : CallAt A N H k p a r) (hw : ∀ b, N b → H b ≠ Option.none → N' b) : CallAt A N' H k p a r := by
  obtain ⟨dx, la, rv, h1, h2, h3, h4, h5⟩ := h
  refine ⟨dx, la, rv, hw _ h1 (by rw [h3]; simp), hw _ h2 (by rw [h4]; simp), h3, h4, ?_⟩
  cases r with
  | none => exact h5
  | some f =>
    obtain ⟨lr, e, n, q⟩ := h5
    exact ⟨lr, e, hw _ n (by rw [q]; simp), q⟩

def dispF (s : Vbptam.State) (sk : Nat) (lp lc lt lr la : Addr) : List (Str × V) :=
  [("phase", .int s.phase), ("day", .int s.day), ("claims", .int s.n), ("limit", .int s.limit), ("pieces", .ref lp), ("counted", .ref lc), ("settled", .ref lt), ("settled_pieces", .int sk), ("requests", .ref lr), ("appeals", .ref la),
    ("kept", .int s.first), ("kept_request", .int s.which), ("decision_day", .int s.decided), ("outcome", .int s.last)]
structure Reach (s : Vbptam.State) : Prop where
  inv : SInv s
  wf : ∀ x ∈ s.pieces, WfW x.what
  rq : ∀ m ∈ s.requests, m < 64
  rql : s.requests.length ≤ 6
  ap : ∀ q ∈ s.appeals, q.2 < 64
  apl : s.appeals.length ≤ 8
  fst : s.first < 64
  day : s.day ≤ 10000
  f0 : s.phase ≤ 1 → s.first = 0
  ph : s.phase ≤ 3
structure SetIn (A : Adr) (N : Addr → Prop) (H : Hp) (lt : Addr) (sk : Nat) (ts : List Addr) (s : Vbptam.State) : Prop where
  nlt : N lt
  lt : H lt = some (.lst (ts.map V.ref))
  ts : Paired (fun a c => CountedAt A N H a c s.bar (setN s sk c)) ts (List.range s.n)
  so : SetOk s sk
theorem SetIn.keep {A : Adr} {N : Addr → Prop} {H H' : Hp} {lt : Addr} {sk : Nat} {ts : List Addr} {s : Vbptam.State} (h : SetIn A N H lt sk ts s) (k : Keep N H H') : SetIn A N H' lt sk ts s :=
  ⟨h.nlt, k _ _ h.nlt h.lt, Paired.mapP h.ts fun _ _ q => q.keep k, h.so⟩
theorem SetIn.renew {A : Adr} {N N' : Addr → Prop} {H : Hp} {lt : Addr} {sk : Nat} {ts : List Addr} {s : Vbptam.State} (h : SetIn A N H lt sk ts s) (hw : ∀ b, N b → H b ≠ Option.none → N' b) : SetIn A N' H lt sk ts s :=
  ⟨hw _ h.nlt (by rw [h.lt]; simp), h.lt, Paired.mapP h.ts fun _ _ q => q.renew hw, h.so⟩
theorem SetIn.state {A : Adr} {N : Addr → Prop} {H : Hp} {lt : Addr} {sk : Nat} {ts : List Addr} {s s' : Vbptam.State} (h : SetIn A N H lt sk ts s) (e0 : s'.phase ≤ 1 ↔ s.phase ≤ 1) (e1 : s'.pieces = s.pieces) (e2 : s'.taken = s.taken) (e3 : s'.n = s.n) (e4 : s'.bar = s.bar) : SetIn A N H lt sk ts s' := by
  have ew : ∀ c, wasB s' c = wasB s c := fun c => by unfold wasB; rw [e2]
  have es : ∀ c, setN s' sk c = setN s sk c := fun c => by
    unfold setN
    rw [ew, e1]
    simp only [e0]
  refine ⟨h.nlt, h.lt, ?_, ⟨by rw [e1]; exact h.so.le, fun q => h.so.z (e0.mp q), fun q c hc => ?_, fun q => ?_⟩⟩
  · rw [e3]
    exact Paired.mapP h.ts fun a c q => by rw [e4, es]; exact q
  · rw [ew]
    exact h.so.w (fun z => q (e0.mpr z)) c (by rw [← e3]; exact hc)
  · rw [e1]
    exact h.so.late fun z => q (e0.mpr z)
structure DispIn (A : Adr) (N M : Addr → Prop) (H : Hp) (d dx lp lc lt lr la : Addr) (sk : Nat) (ps cs ts as : List Addr) (s : Vbptam.State) : Prop where
  md : M d
  mlp : M lp
  mlr : M lr
  mla : M la
  nm : ∀ b, N b → ¬ M b
  nlc : N lc
  plr : lp ≠ lr
  pla : lp ≠ la
  rla : lr ≠ la
  ins : H d = some (.ins A.c_Dispute dx (dispF s sk lp lc lt lr la))
  lp : H lp = some (.lst (ps.map V.ref))
  lc : H lc = some (.lst (cs.map V.ref))
  lr : H lr = some (.lst (s.requests.map fun (m : Nat) => V.int m))
  la : H la = some (.lst (as.map V.ref))
  ps : Paired (PieceAt A N H) ps (numb 0 s.pieces)
  cs : Paired (fun a c => CountedAt A N H a c s.bar (countN s c)) cs (List.range s.n)
  as : Paired (fun a (q : Nat × Vbptam.Mask) => N a ∧ H a = some (.tup [.int q.1, .int q.2])) as s.appeals
  st : SetIn A N H lt sk ts s
  ok : Reach s
def DispAt (A : Adr) (N M : Addr → Prop) (H : Hp) (d : Addr) (s : Vbptam.State) : Prop := ∃ dx lp lc lt lr la sk ps cs ts as, DispIn A N M H d dx lp lc lt lr la sk ps cs ts as s
theorem DispIn.nd {A : Adr} {N M : Addr → Prop} {H : Hp} {d dx lp lc lt lr la : Addr} {sk : Nat} {ps cs ts as : List Addr} {s : Vbptam.State} (h : DispIn A N M H d dx lp lc lt lr la sk ps cs ts as s) : ¬ N d := fun z => h.nm _ z h.md
theorem DispIn.nlp {A : Adr} {N M : Addr → Prop} {H : Hp} {d dx lp lc lt lr la : Addr} {sk : Nat} {ps cs ts as : List Addr} {s : Vbptam.State} (h : DispIn A N M H d dx lp lc lt lr la sk ps cs ts as s) : ¬ N lp := fun z => h.nm _ z h.mlp
theorem DispIn.nlr {A : Adr} {N M : Addr → Prop} {H : Hp} {d dx lp lc lt lr la : Addr} {sk : Nat} {ps cs ts as : List Addr} {s : Vbptam.State} (h : DispIn A N M H d dx lp lc lt lr la sk ps cs ts as s) : ¬ N lr := fun z => h.nm _ z h.mlr
theorem DispIn.nla {A : Adr} {N M : Addr → Prop} {H : Hp} {d dx lp lc lt lr la : Addr} {sk : Nat} {ps cs ts as : List Addr} {s : Vbptam.State} (h : DispIn A N M H d dx lp lc lt lr la sk ps cs ts as s) : ¬ N la := fun z => h.nm _ z h.mla
theorem DispIn.same {A : Adr} {N M : Addr → Prop} {H H' : Hp} {d dx lp lc lt lr la : Addr} {sk : Nat} {ps cs ts as : List Addr} {s : Vbptam.State} (h : DispIn A N M H d dx lp lc lt lr la sk ps cs ts as s) (e : Same H H') : DispIn A N M H' d dx lp lc lt lr la sk ps cs ts as s :=
  ⟨h.md, h.mlp, h.mlr, h.mla, h.nm, h.nlc, h.plr, h.pla, h.rla, e _ _ h.ins, e _ _ h.lp, e _ _ h.lc, e _ _ h.lr, e _ _ h.la, Paired.mapP h.ps fun _ _ q => q.keep (Keep.of e), Paired.mapP h.cs fun _ _ q => q.keep (Keep.of e), Paired.mapP h.as fun _ _ q => ⟨q.1, e _ _ q.2⟩, h.st.keep (Keep.of e), h.ok⟩
theorem DispAt.same {A : Adr} {N M : Addr → Prop} {H H' : Hp} {d : Addr} {s : Vbptam.State} (h : DispAt A N M H d s) (e : Same H H') : DispAt A N M H' d s := by
  obtain ⟨dx, lp, lc, lt, lr, la, sk, ps, cs, ts, as, h⟩ := h
  exact ⟨dx, lp, lc, lt, lr, la, sk, ps, cs, ts, as, h.same e⟩
section
variable {P : Program} {w : World} {K : PySem.W.Frag} {mg : Str → Option Value} {base : Heap} {A : Adr}
def sp_Dispute_all_claims (A : Adr) : Sp := fun vs H Q _ => ∃ (d : Addr) (s : Vbptam.State) (dx lp lc lt lr la : Addr) (sk : Nat), vs = [.ref d] ∧ H d = some (.ins A.c_Dispute dx (dispF s sk lp lc lt lr la)) ∧ s.n ≤ 6 ∧ Q (.int (Vbptam.full s : Nat)) H
theorem ok_Dispute_all_claims (T : Txt K mg A) : FnOk P w K mg base CX0 1 A.f_Dispute_all_claims A.fd_Dispute_all_claims ["self"] (sp_Dispute_all_claims A) := by
  refine T.F_Dispute_all_claims.ok sc_Dispute_all_claims (fun vs H Q E h => ?_) (fun cdv Ar outer sh H vs Q E hr h => ?_)
  · obtain ⟨d, s, dx, lp, lc, lt, lr, la, sk, rfl, _⟩ := h
    rfl
  · obtain ⟨d, s, dx, lp, lc, lt, lr, la, sk, rfl, hd, hn, k⟩ := h
    refine ⟨_, (pss_one (ps_ret (pe_op op_sub (pe_op op_shl pe_int (pe_fld (pv 0) rfl)) pe_int))), ?_⟩
    refine ⟨_, rfl, d, _, dx, _, _, rfl, hd, T.C_Dispute, T.a_Dispute_claims, rfl, _, _, rfl, rfl, ⟨by omega, by omega, by decide⟩, _, _, rfl, rfl, ?_⟩
    have e : (1 : Int) * 2 ^ ((s.n : Int)).toNat - 1 = ((Vbptam.full s : Nat) : Int) := by
      unfold Vbptam.full
      rw [full_eq s.n hn, Int.toNat_natCast, Int.one_mul]
      have : 1 ≤ 2 ^ s.n := Nat.one_le_two_pow
      have e2 : ((2 ^ s.n : Nat) : Int) = (2 : Int) ^ s.n := by exact Int.natCast_pow 2 s.n
      omega
    rw [← e] at k
    exact k
def sp_Dispute_has_claims (A : Adr) : Sp := fun vs H Q _ => ∃ (d : Addr) (m : Nat) (s : Vbptam.State) (N M : Addr → Prop), vs = [.ref d, .int m] ∧ DispAt A N M H d s ∧ m < 64 ∧ Q (.bl (Vbptam.within_ m (Vbptam.full s))) H
theorem full_lt (s : Vbptam.State) : Vbptam.full s < 64 := maskOf_lt _
theorem ok_Dispute_has_claims (T : Txt K mg A) : FnOk P w K mg base CX0 2 A.f_Dispute_has_claims A.fd_Dispute_has_claims ["self", "named"] (sp_Dispute_has_claims A) := by
  refine T.F_Dispute_has_claims.ok sc_Dispute_has_claims (fun vs H Q E h => ?_) (fun cdv Ar outer sh H vs Q E hr h => ?_)
  · obtain ⟨d, m, s, N, M, rfl, _⟩ := h
    rfl
  · obtain ⟨d, m, s, N, M, rfl, ⟨dx, lp, lc, lt, lr, la, sk, ps, cs, ts, as, hD⟩, hm, k⟩ := h
    refine ⟨_, (pss_one (ps_ret (pe_cmpR op_eq (pe_op op_and (pv 1) (pe_un un_inv (pe_meth0 (pv 0) T.C_Dispute T.M_Dispute_all_claims (ok_Dispute_all_claims T) hr (b_Dispute_all_claims T) .nil pass0))) pe_int (nomark _)))), ?_⟩
    refine ⟨_, rfl, _, rfl, d, dx, _, rfl, hD.ins, rfl, d, s, dx, lp, lc, lt, lr, la, sk, rfl, hD.ins, hD.ok.inv.n6, _, rfl, _, _, rfl, rfl, rfl, ?_⟩
    rw [decI, within_bits hm (full_lt s)]
    exact k
def sp_Dispute_is_running (A : Adr) : Sp := fun vs H Q _ => ∃ (d : Addr) (s : Vbptam.State) (N M : Addr → Prop), vs = [.ref d] ∧ DispAt A N M H d s ∧ ∀ H', Same H H' → Q (.bl (decide (s.phase = 1 ∨ s.phase = 2))) H'
theorem ok_Dispute_is_running (T : Txt K mg A) : FnOk P w K mg base CX0 1 A.f_Dispute_is_running A.fd_Dispute_is_running ["self"] (sp_Dispute_is_running A) := by
  refine T.F_Dispute_is_running.ok sc_Dispute_is_running (fun vs H Q E h => ?_) (fun cdv Ar outer sh H vs Q E hr h => ?_)
  · obtain ⟨d, s, N, M, rfl, _⟩ := h
    rfl
  · obtain ⟨d, s, N, M, rfl, ⟨dx, lp, lc, lt, lr, la, sk, ps, cs, ts, as, hD⟩, k⟩ := h
    refine ⟨_, (pss_one (ps_ret (pe_cmpR op_in_seq (pe_fld (pv 0) rfl) (pe_tup (pa_cons (pe_gint rfl T.g_OPPOSED) (pa_cons (pe_gint rfl T.g_DECIDED) pa_nil))) (by with_unfolding_all rfl)))), ?_⟩
    refine ⟨_, rfl, d, _, dx, _, _, rfl, hD.ins, T.C_Dispute, T.a_Dispute_phase, rfl, (by show 2 ≤ sizeLine; decide), fun q1 n1 => ⟨q1, _, rfl, .inr (SqT.of upd_same), rfl, rfl, ?_⟩⟩
    have e : (decide (s.phase = 1 ∨ s.phase = 2)) = inV (.int (s.phase : Int)) [.int 1, .int 2] := by
      show _ = ((1 : Int) == (s.phase : Int) || ((2 : Int) == (s.phase : Int) || false))
      rw [Bool.eq_iff_iff]
      simp
      omega
    rw [e] at k
    exact k _ (same_new n1)
def sp_Dispute_is_behind_limit (A : Adr) : Sp := fun vs H Q _ => ∃ (d : Addr) (s : Vbptam.State) (N M : Addr → Prop), vs = [.ref d] ∧ DispAt A N M H d s ∧ Q (.bl (decide (s.limit < s.day))) H
theorem ok_Dispute_is_behind_limit (T : Txt K mg A) : FnOk P w K mg base CX0 1 A.f_Dispute_is_behind_limit A.fd_Dispute_is_behind_limit ["self"] (sp_Dispute_is_behind_limit A) := by
  refine T.F_Dispute_is_behind_limit.ok sc_Dispute_is_behind_limit (fun vs H Q E h => ?_) (fun cdv Ar outer sh H vs Q E hr h => ?_)
  · obtain ⟨d, s, N, M, rfl, _⟩ := h
    rfl
  · obtain ⟨d, s, N, M, rfl, ⟨dx, lp, lc, lt, lr, la, sk, ps, cs, ts, as, hD⟩, k⟩ := h
    refine ⟨_, (pss_one (ps_ret (pe_cmpR op_gt (pe_fld (pv 0) rfl) (pe_fld (pv 0) rfl) (nomark _)))), ?_⟩
    refine ⟨_, rfl, d, _, dx, _, _, rfl, hD.ins, T.C_Dispute, T.a_Dispute_day, rfl, _, rfl, d, _, dx, _, _, rfl, hD.ins, T.C_Dispute, T.a_Dispute_limit, rfl, _, _, rfl, rfl, ?_⟩
    have e : decide (s.limit < s.day) = decide ((s.limit : Int) < (s.day : Int)) := by rw [decide_eq_decide]; omega
    rw [e] at k
    exact k
def sp_Dispute_is_behind_appeals (A : Adr) : Sp := fun vs H Q _ => ∃ (d : Addr) (s : Vbptam.State) (N M : Addr → Prop), vs = [.ref d] ∧ DispAt A N M H d s ∧ Q (.bl (decide (s.decided + 60 < s.day))) H
theorem ok_Dispute_is_behind_appeals (T : Txt K mg A) : FnOk P w K mg base CX0 1 A.f_Dispute_is_behind_appeals A.fd_Dispute_is_behind_appeals ["self"] (sp_Dispute_is_behind_appeals A) := by
  refine T.F_Dispute_is_behind_appeals.ok sc_Dispute_is_behind_appeals (fun vs H Q E h => ?_) (fun cdv Ar outer sh H vs Q E hr h => ?_)
  · obtain ⟨d, s, N, M, rfl, _⟩ := h
    rfl
  · obtain ⟨d, s, N, M, rfl, ⟨dx, lp, lc, lt, lr, la, sk, ps, cs, ts, as, hD⟩, k⟩ := h
    refine ⟨_, (pss_one (ps_ret (pe_cmpR op_gt (pe_fld (pv 0) rfl) (pe_op op_add (pe_fld (pv 0) rfl) (pe_gint rfl T.g_DAYS_TO_APPEAL)) (nomark _)))), ?_⟩
    refine ⟨_, rfl, d, _, dx, _, _, rfl, hD.ins, T.C_Dispute, T.a_Dispute_day, rfl, _, rfl, d, _, dx, _, _, rfl, hD.ins, T.C_Dispute, T.a_Dispute_decision_day, rfl, _, _, rfl, rfl, _, _, rfl, rfl, ?_⟩
    have e : decide (s.decided + 60 < s.day) = decide ((s.decided : Int) + 60 < (s.day : Int)) := by rw [decide_eq_decide]; omega
    rw [e] at k
    exact k
end
end Op


set_option Elab.async false
set_option linter.all false
set_option maxRecDepth 100000
set_option maxHeartbeats 4000000
namespace Op
open PySem PySem.Spec PyProof.Rows L2
theorem sum_cast : ∀ l : List Nat, (l.map fun (c : Nat) => ((2 ^ c : Nat) : Int)).sum = ((l.map fun c => 2 ^ c).sum : Nat)
  | [] => rfl
  | a :: l => by
    rw [List.map_cons, List.map_cons, List.sum_cons, List.sum_cons, sum_cast l]
    omega
theorem take_range_snoc {n i : Nat} (h : i < n) : (List.range n).take (i + 1) = (List.range n).take i ++ [i] := by
  rw [List.take_add_one, List.getElem?_range h]
  rfl
section
variable {P : Program} {w : World} {K : PySem.W.Frag} {mg : Str → Option Value} {base : Heap} {A : Adr}
def sp_claims_that_stand (A : Adr) : Sp := fun vs H Q _ => ∃ (lc : Addr) (cs : List Addr) (n : Nat) (bar : Int) (L : Nat → List NP) (N : Addr → Prop), vs = [.ref lc] ∧ H lc = some (.lst (cs.map V.ref)) ∧ n ≤ 6 ∧ Paired (fun a c => CountedAt A N H a c bar (L c)) cs (List.range n) ∧
  ∀ H', Same H H' → Q (.int (Vbptam.maskOf ((List.range n).filter fun c => Vbptam.stands bar (snds (L c)) c) : Nat)) H'
theorem ok_claims_that_stand (T : Txt K mg A) : FnOk P w K mg base CX0 5 A.f_claims_that_stand A.fd_claims_that_stand ["every"] (sp_claims_that_stand A) := by
  refine T.F_claims_that_stand.ok sc_claims_that_stand (fun vs H Q E h => ?_) (fun cdv Ar outer sh H vs Q E hr h => ?_)
  · obtain ⟨lc, cs, n, bar, L, N, rfl, _⟩ := h
    rfl
  · obtain ⟨lc, cs, n, bar, L, N, rfl, hlc, hn6, hcs, k⟩ := h
    refine ⟨_, (pss_one (ps_ret (pe_callB (cr_sum rfl) rfl T.n_sum PyProof.Rows.boot_sum (pa_cons (pe_lc (own := [("counted", 1)]) rfl sc_claims_that_stand.nd (pi_list (pv 0)) (blkOk_by (by kernel_rfl)) (fun _ _ _ _ _ => (pg_name (i := 1) sc_claims_that_stand.nd rfl (Or.inl rfl))) (fun _ _ _ _ _ => (pts_one (pt_truthK (K := K) rfl (pe_meth0 (pv 1) T.C_Counted T.M_Counted_stands (ok_Counted_stands T) (hr.mono (by decide)) (b_Counted_stands T) .nil pass0) (fun _ => rfl)))) (fun _ _ _ _ _ => (pe_op op_shl pe_int (pe_fldK (K := K) rfl (pv 1) rfl)))) pa_nil)))), ?_⟩
    refine ⟨_, rfl, lc, rfl, ⟨_, SqL.of hlc⟩, fun D nD => ?_⟩
    have hcl : cs.length = n := by rw [Paired.length hcs, List.length_range]
    have hst : ∃ st : Nat → Bool, st = fun c => Vbptam.stands bar (snds (L c)) c := ⟨_, rfl⟩
    obtain ⟨st, hst⟩ := hst
    rw [← hst] at k
    refine lc_list (K := K) (a := lc) (xs := cs.map V.ref) (fun i H' => Same H H' ∧ H' D = some (.lst ((((List.range n).take i).filter st).map fun (c : Nat) => V.int ((2 ^ c : Nat) : Int)))) ⟨same_new nD, upd_same⟩ (fun i H' _ ⟨s1, _⟩ => SqL.of (s1 _ _ hlc)) ?_ ?_
    · rintro i v H' hv ⟨s1, hD1⟩
      rw [List.getElem?_map] at hv
      cases ei : cs[i]? with
      | none => rw [ei] at hv; cases hv
      | some a =>
        rw [ei] at hv
        cases hv
        obtain ⟨c, hc, hC0⟩ := Paired.getR hcs ei
        have hi : i < n := by rw [← hcl]; exact (List.getElem?_eq_some_iff.mp ei).1
        have ec : i = c := by
          rw [List.getElem?_range hi] at hc
          exact Option.some.inj hc
        subst ec
        obtain ⟨da, lpa, lsa, psa, hC⟩ := id hC0
        refine ⟨rfl, _, rfl, a, da, _, rfl, s1 _ _ hC.ins, rfl, a, i, bar, _, N, rfl, hC0.keep (Keep.of s1), fun H2 s2 => ⟨_, rfl, ?_⟩⟩
        have s12 := s1.trans s2
        refine ite2 (fun hs => ?_) (fun hs => ?_)
        · refine ⟨_, rfl, a, _, da, _, _, rfl, s12 _ _ hC.ins, T.C_Counted, T.a_Counted_claim, rfl, _, _, rfl, rfl, ⟨by omega, by omega, by decide⟩, _, s2 _ _ hD1, ?_, fun b o e => ?_, ?_⟩
          · rw [List.length_map]
            refine Nat.lt_of_le_of_lt (List.length_filter_le _ _) ?_
            rw [List.length_take, List.length_range]
            exact Nat.lt_of_le_of_lt (Nat.min_le_right _ _) (Nat.lt_of_le_of_lt hn6 (by decide))
          · rw [upd_ne (ne_of_none e nD)]
            exact s12 _ _ e
          · rw [upd_same, take_range_snoc hi, List.filter_append, List.map_append]
            have e1 : st i = true := by rw [hst]; exact hs
            have e2 : (1 : Int) * 2 ^ ((i : Int)).toNat = ((2 ^ i : Nat) : Int) := by
              rw [Int.toNat_natCast, Int.one_mul]
              exact (Int.natCast_pow 2 i).symm
            rw [List.filter_cons, if_pos e1]
            show some (HO.lst (_ ++ [V.int ((1 : Int) * 2 ^ ((i : Int)).toNat)])) = some (HO.lst (_ ++ [V.int ((2 ^ i : Nat) : Int)]))
            rw [e2]
        · refine ⟨s12, ?_⟩
          have hs' : ¬ st i = true := by rw [hst]; exact hs
          rw [take_range_snoc hi, List.filter_append, List.filter_cons, if_neg hs', List.filter_nil, List.append_nil]
          exact s2 _ _ hD1
    · rintro H' ⟨s1, hD1⟩
      rw [List.length_map, hcl] at hD1
      have e1 : (List.range n).take n = List.range n := List.take_of_length_le (by simp)
      rw [e1] at hD1
      refine ⟨D, ((List.range n).filter st).map fun (c : Nat) => ((2 ^ c : Nat) : Int), rfl, SqL.of (by rw [hD1, List.map_map]; rfl), ?_⟩
      rw [sum_cast, ← maskOf_sum hn6]
      exact k H' s1
theorem alive_countN (s : Vbptam.State) : Vbptam.maskOf ((List.range s.n).filter fun c => Vbptam.stands s.bar (snds (countN s c)) c) = Vbptam.alive s := by
  unfold Vbptam.alive Vbptam.standing
  simp only [countN_snds]
def sp_Dispute_standing (A : Adr) : Sp := fun vs H Q _ => ∃ (d : Addr) (s : Vbptam.State) (N M : Addr → Prop), vs = [.ref d] ∧ DispAt A N M H d s ∧ ∀ H', Same H H' → Q (.int (Vbptam.alive s : Nat)) H'
theorem ok_Dispute_standing (T : Txt K mg A) : FnOk P w K mg base CX0 6 A.f_Dispute_standing A.fd_Dispute_standing ["self"] (sp_Dispute_standing A) := by
  refine T.F_Dispute_standing.ok sc_Dispute_standing (fun vs H Q E h => ?_) (fun cdv Ar outer sh H vs Q E hr h => ?_)
  · obtain ⟨d, s, N, M, rfl, _⟩ := h
    rfl
  · obtain ⟨d, s, N, M, rfl, ⟨dx, lp, lc, lt, lr, la, sk, ps, cs, ts, as, hD⟩, k⟩ := h
    refine ⟨_, (pss_one (ps_ret (pe_call (ok_claims_that_stand T) (hr.mono (by decide)) rfl T.m_claims_that_stand T.F_claims_that_stand.kp (b_claims_that_stand T) .nil pass0 (pa_cons (pe_fld (pv 0) rfl) pa_nil)))), ?_⟩
    refine ⟨_, rfl, d, _, dx, _, _, rfl, hD.ins, T.C_Dispute, T.a_Dispute_counted, rfl, lc, cs, s.n, s.bar, countN s, N, rfl, hD.lc, hD.ok.inv.n6, hD.cs, fun H' s1 => ?_⟩
    rw [alive_countN]
    exact k H' s1

theorem findReq_drop (a : Nat) : ∀ (l : List Vbptam.Mask) (i : Nat), i ≤ l.length → (∀ j m, j < i → l[j]? = some m → Vbptam.within_ m a = false) → findReq a l = i + findReq a (l.drop i)
  | l, 0, _, _ => by simp
  | [], i + 1, h, _ => by simp at h
  | m :: l, i + 1, h, hf => by
    have h1 := hf 0 m (by omega) rfl
    have ih := findReq_drop a l i (by simpa using h) fun j m' hj e => hf (j + 1) m' (by omega) (by simpa using e)
    show (if Vbptam.within_ m a = true then 0 else findReq a l + 1) = _
    rw [h1, if_neg Bool.false_ne_true, ih, List.drop_succ_cons]
    omega
def sp_Dispute_granted (A : Adr) : Sp := fun vs H Q _ => ∃ (d : Addr) (s : Vbptam.State) (N M : Addr → Prop), vs = [.ref d] ∧ DispAt A N M H d s ∧
  ∀ (H' : Hp) (t : Addr), Same H H' → H t = Option.none → H' t = some (.tup [.int ((Vbptam.granted s).1 : Nat), .int ((Vbptam.granted s).2 : Nat)]) → Q (.ref t) H'
theorem ok_Dispute_granted (T : Txt K mg A) : FnOk P w K mg base CX0 7 A.f_Dispute_granted A.fd_Dispute_granted ["self"] (sp_Dispute_granted A) := by
  refine T.F_Dispute_granted.ok sc_Dispute_granted (fun vs H Q E h => ?_) (fun cdv Ar outer sh H vs Q E hr h => ?_)
  · obtain ⟨d, s, N, M, rfl, _⟩ := h
    rfl
  · obtain ⟨d, s, N, M, rfl, hD0, k⟩ := h
    obtain ⟨dx, lp, lc, lt, lr, la, sk, ps, cs, ts, as, hD⟩ := id hD0
    have gr := granted_eq s
    refine ⟨_, (pss_cons (ps_set (i := 1) sc_Dispute_granted.nd rfl (Or.inl rfl) (pe_meth0 (pv 0) T.C_Dispute T.M_Dispute_standing (ok_Dispute_standing T) (hr.mono (by decide)) (b_Dispute_standing T) .nil pass0))
      (pss_cons (ps_for PassesOwn.never rfl (pi_enum rfl T.n_enumerate (pa_cons (pe_fld (pv 0) rfl) pa_nil)) (pg_tup rfl (pgs_cons (pg_name (i := 2) sc_Dispute_granted.nd rfl (Or.inl rfl)) (pgs_cons (pg_name (i := 3) sc_Dispute_granted.nd rfl (Or.inl rfl)) pgs_nil))) (pss_one (ps_if (pt_cmpR op_eq (pe_op op_and (pv 3) (pe_un un_inv (pv 1))) pe_int (nomark _)) (pss_one (ps_ret (pe_tup (pa_cons (pv 3) (pa_cons (pv 2) pa_nil))))) pss_nil)))
      (pss_one (ps_ret (pe_tup (pa_cons pe_int (pa_cons (pe_callB call_len_seq rfl T.n_len PySem.boot_len (pa_cons (pe_fld (pv 0) rfl) pa_nil)) pa_nil))))))), ?_⟩
    refine ⟨_, rfl, d, dx, _, rfl, hD.ins, rfl, d, s, N, M, rfl, hD0, fun H1 s1 => ?_⟩
    refine ⟨_, rfl, d, _, dx, _, _, rfl, s1 _ _ hD.ins, T.C_Dispute, T.a_Dispute_requests, rfl, lr, _, rfl, SqL.of (s1 _ _ hD.lr), ?_⟩
    refine for_enum (K := K) (xs := s.requests.map fun (m : Nat) => V.int m) (fun i σ H' => ∃ v2 v3 : Option V, σ = [some (.ref d), some (.int (Vbptam.alive s : Nat)), v2, v3] ∧ Same H H' ∧ ∀ j m, j < i → s.requests[j]? = some m → Vbptam.within_ m (Vbptam.alive s) = false) ⟨none, none, rfl, s1, fun j m hj => by omega⟩ (fun i σ H' _ ⟨_, _, _, s2, _⟩ => SqL.of (s2 _ _ hD.lr)) ?_ ?_
    · rintro i xv Tt σ H' hxv hT ⟨v2, v3, rfl, s2, hu⟩
      rw [List.getElem?_map] at hxv
      cases ei : s.requests[i]? with
      | none => rw [ei] at hxv; cases hxv
      | some m =>
        rw [ei] at hxv
        cases hxv
        have hm : m < 64 := hD.ok.rq m (List.mem_of_getElem? ei)
        have s3 : Same H (upd H' Tt (.tup [V.int (i : Nat), V.int (m : Nat)])) := s2.trans (same_new hT)
        have hlt : i < s.requests.length := (List.getElem?_eq_some_iff.mp ei).1
        refine ⟨Tt, _, rfl, SqT.of upd_same, rfl, _, _, rfl, _, _, rfl, rfl, ?_⟩
        refine ⟨_, rfl, _, rfl, _, rfl, _, _, rfl, rfl, rfl, _, rfl, ?_⟩
        rw [decI, within_bits hm (alive_lt s)]
        refine ite2 (fun hw => ?_) (fun hw => ?_)
        · have e : findReq (Vbptam.alive s) s.requests = i := by
            rw [findReq_drop _ _ i (Nat.le_of_lt hlt) hu]
            have ed : s.requests.drop i = m :: s.requests.drop (i + 1) := by
              rw [List.drop_eq_getElem_cons hlt]
              congr 1
              rw [List.getElem?_eq_getElem hlt] at ei
              exact Option.some.inj ei
            rw [ed]
            show i + (if Vbptam.within_ m (Vbptam.alive s) = true then 0 else _) = i
            rw [if_pos hw]
            rfl
          have eg : Vbptam.granted s = (m, i) := by
            rw [gr, e, if_pos hlt, List.getD_eq_getElem?_getD, ei]
            rfl
          rw [eg] at k
          exact ⟨_, rfl, _, rfl, (by show 2 ≤ sizeLine; decide), fun t nt => k _ t (s3.trans (same_new nt)) (s3.free nt) upd_same⟩
        · refine ⟨_, _, rfl, s3, fun j m' hj e => ?_⟩
          by_cases hji : j = i
          · subst hji
            rw [ei] at e
            cases e
            cases e2 : Vbptam.within_ m (Vbptam.alive s)
            · rfl
            · exact absurd e2 hw
          · exact hu j m' (by omega) e
    · rintro σ H' ⟨v2, v3, rfl, s2, hu⟩
      rw [List.length_map] at hu
      have e : findReq (Vbptam.alive s) s.requests = s.requests.length := by
        rw [findReq_drop _ _ s.requests.length (Nat.le_refl _) hu, List.drop_length]
        rfl
      have eg : Vbptam.granted s = (0, s.requests.length) := by
        rw [gr, e, if_neg (Nat.lt_irrefl _)]
      rw [eg] at k
      refine ⟨_, rfl, d, _, dx, _, _, rfl, s2 _ _ hD.ins, T.C_Dispute, T.a_Dispute_requests, rfl, lr, _, rfl, .inl (SqL.of (s2 _ _ hD.lr)), (by show 2 ≤ sizeLine; decide), fun t nt => ?_⟩
      refine k _ t (s2.trans (same_new nt)) (s2.free nt) ?_
      rw [upd_same, List.length_map]
      rfl

def sp_Dispute_may_name (A : Adr) : Sp := fun vs H Q _ => ∃ (d : Addr) (p : Int) (m : Nat) (s : Vbptam.State) (N M : Addr → Prop), vs = [.ref d, .int p, .int m] ∧ DispAt A N M H d s ∧ m < 64 ∧ Q (.bl (Vbptam.within_ m (if p = 3 then Vbptam.less (Vbptam.full s) s.first else s.first))) H
theorem ok_Dispute_may_name (T : Txt K mg A) : FnOk P w K mg base CX0 3 A.f_Dispute_may_name A.fd_Dispute_may_name ["self", "party", "named"] (sp_Dispute_may_name A) := by
  refine T.F_Dispute_may_name.ok sc_Dispute_may_name (fun vs H Q E h => ?_) (fun cdv Ar outer sh H vs Q E hr h => ?_)
  · obtain ⟨d, p, m, s, N, M, rfl, _⟩ := h
    rfl
  · obtain ⟨d, p, m, s, N, M, rfl, hD0, hm, k⟩ := h
    obtain ⟨dx, lp, lc, lt, lr, la, sk, ps, cs, ts, as, hD⟩ := id hD0
    refine ⟨_, (pss_cons (ps_if (pt_cmpR op_eq (pv 1) (pe_gint rfl T.g_OWNER) (nomark _)) (pss_one (ps_ret (pe_and (pe_meth (pv 0) T.C_Dispute T.M_Dispute_has_claims (ok_Dispute_has_claims T) (hr.mono (by decide)) (b_Dispute_has_claims T) .nil pass0 (pa_cons (pv 2) pa_nil)) (pe_one (pe_cmpR op_eq (pe_op op_and (pv 2) (pe_fld (pv 0) rfl)) pe_int (nomark _)))))) pss_nil)
      (pss_one (ps_ret (pe_cmpR op_eq (pe_op op_and (pv 2) (pe_un un_inv (pe_fld (pv 0) rfl))) pe_int (nomark _))))), ?_⟩
    refine ⟨_, rfl, rfl, _, rfl, ?_⟩
    rw [decI]
    by_cases h3 : p = 3
    · refine (if_pos (decide_eq_true h3)).mpr ?_
      rw [if_pos h3, owner_bits hm] at k
      refine ⟨_, rfl, d, dx, _, rfl, hD.ins, rfl, _, rfl, d, m, s, N, M, rfl, hD0, hm, _, rfl, ?_⟩
      refine ite2 (fun hw => ?_) (fun hw => ?_)
      · rw [hw, Bool.true_and] at k
        refine ⟨_, rfl, _, rfl, d, _, dx, _, _, rfl, hD.ins, T.C_Dispute, T.a_Dispute_kept, rfl, _, _, rfl, rfl, rfl, ?_⟩
        rw [decI]
        exact k
      · have e : Vbptam.within_ m (Vbptam.full s) = false := by
          cases e2 : Vbptam.within_ m (Vbptam.full s)
          · rfl
          · exact absurd e2 hw
        rw [e, Bool.false_and] at k
        exact k
    · refine (if_neg (by rw [decide_eq_true_iff]; exact h3)).mpr ?_
      rw [if_neg h3] at k
      refine ⟨_, rfl, _, rfl, d, _, dx, _, _, rfl, hD.ins, T.C_Dispute, T.a_Dispute_kept, rfl, _, rfl, _, _, rfl, rfl, rfl, ?_⟩
      rw [decI, within_bits hm hD.ok.fst]
      exact k

def sp_Dispute_outcome_now (A : Adr) : Sp := fun vs H Q _ => ∃ (d : Addr) (s : Vbptam.State) (N M : Addr → Prop), vs = [.ref d] ∧ DispAt A N M H d s ∧ ∀ H', Same H H' → Q (.int (Vbptam.outcome s : Nat)) H'
theorem ok_Dispute_outcome_now (T : Txt K mg A) : FnOk P w K mg base CX0 7 A.f_Dispute_outcome_now A.fd_Dispute_outcome_now ["self"] (sp_Dispute_outcome_now A) := by
  refine T.F_Dispute_outcome_now.ok sc_Dispute_outcome_now (fun vs H Q E h => ?_) (fun cdv Ar outer sh H vs Q E hr h => ?_)
  · obtain ⟨d, s, N, M, rfl, _⟩ := h
    rfl
  · obtain ⟨d, s, N, M, rfl, hD0, k⟩ := h
    obtain ⟨dx, lp, lc, lt, lr, la, sk, ps, cs, ts, as, hD⟩ := id hD0
    refine ⟨_, (pss_cons (ps_set (i := 1) sc_Dispute_outcome_now.nd rfl (Or.inl rfl) (pe_meth0 (pv 0) T.C_Dispute T.M_Dispute_standing (ok_Dispute_standing T) (hr.mono (by decide)) (b_Dispute_standing T) .nil pass0))
      (pss_cons (ps_set (i := 2) sc_Dispute_outcome_now.nd rfl (Or.inl rfl) (pe_fld (pv 0) rfl))
      (pss_cons (ps_for PassesOwn.never rfl (pi_list (pe_fld (pv 0) rfl)) (pg_tup rfl (pgs_cons (pg_name (i := 3) sc_Dispute_outcome_now.nd rfl (Or.inl rfl)) (pgs_cons (pg_name (i := 4) sc_Dispute_outcome_now.nd rfl (Or.inl rfl)) pgs_nil))) (pss_one (ps_if (pt_cmpR op_eq (pv 3) (pe_gint rfl T.g_OWNER) (nomark _)) (pss_one (ps_aug (i := 2) sc_Dispute_outcome_now.nd rfl (Or.inl rfl) (pe_op op_and (pv 4) (pv 1)) ip_or)) (pss_one (ps_aug (i := 2) sc_Dispute_outcome_now.nd rfl (Or.inl rfl) (pe_un un_inv (pe_op op_and (pv 4) (pe_un un_inv (pv 1)))) ip_and)))))
      (pss_one (ps_ret (pv 2)))))), ?_⟩
    refine ⟨_, rfl, d, dx, _, rfl, hD.ins, rfl, d, s, N, M, rfl, hD0, fun H1 s1 => ?_⟩
    refine ⟨_, rfl, d, _, dx, _, _, rfl, s1 _ _ hD.ins, T.C_Dispute, T.a_Dispute_kept, rfl, ?_⟩
    refine ⟨_, rfl, d, _, dx, _, _, rfl, s1 _ _ hD.ins, T.C_Dispute, T.a_Dispute_appeals, rfl, la, rfl, ⟨_, SqL.of (s1 _ _ hD.la)⟩, ?_⟩
    refine for_list (K := K) (xs := as.map V.ref) (fun i σ H' => ∃ v3 v4 : Option V, σ = [some (.ref d), some (.int (Vbptam.alive s : Nat)), some (.int (((s.appeals.take i).foldl (stepOut (Vbptam.alive s)) s.first : Nat))), v3, v4] ∧ H' = H1) ⟨none, none, rfl, rfl⟩ (fun i σ H' _ ⟨_, _, _, e⟩ => by rw [e]; exact SqL.of (s1 _ _ hD.la)) ?_ ?_
    · rintro i v σ H' hv ⟨v3, v4, rfl, rfl⟩
      rw [List.getElem?_map] at hv
      cases ei : as[i]? with
      | none => rw [ei] at hv; cases hv
      | some a =>
        rw [ei] at hv
        cases hv
        obtain ⟨q, hq, hqa⟩ := Paired.getR hD.as ei
        have e1 : s.appeals.take (i + 1) = s.appeals.take i ++ [q] := by rw [List.take_add_one, hq]; rfl
        refine ⟨a, _, rfl, SqT.of (s1 _ _ hqa.2), rfl, _, _, rfl, _, _, rfl, rfl, ?_⟩
        refine ⟨_, rfl, rfl, _, rfl, ?_⟩
        rw [decI]
        by_cases h3 : q.1 = 3
        · refine (if_pos (by rw [decide_eq_true_iff]; omega)).mpr ?_
          refine ⟨_, rfl, _, rfl, _, rfl, _, _, rfl, rfl, _, _, rfl, rfl, ?_⟩
          refine ⟨some (.int q.1), some (.int q.2), ?_, rfl⟩
          rw [e1, List.foldl_append]
          show [_, _, some (V.int (PySem.Builtin.bitOr _ (PySem.Builtin.bitAnd _ _))), _, _] = _
          rw [step_owner]
          have e3 : q = (3, q.2) := by rw [← h3]
          rw [← e3]
          rfl
        · refine (if_neg (by rw [decide_eq_true_iff]; omega)).mpr ?_
          refine ⟨_, rfl, _, rfl, _, rfl, _, rfl, _, _, rfl, rfl, _, rfl, _, _, rfl, rfl, ?_⟩
          refine ⟨some (.int q.1), some (.int q.2), ?_, rfl⟩
          rw [e1, List.foldl_append]
          show [_, _, some (V.int (PySem.Builtin.bitAnd _ (PySem.Builtin.bitNot (PySem.Builtin.bitAnd _ (PySem.Builtin.bitNot _))))), _, _] = _
          rw [step_opp h3]
          rfl
    · rintro σ H' ⟨v3, v4, rfl, rfl⟩
      refine ⟨_, rfl, ?_⟩
      have e1 : (as.map V.ref).length = s.appeals.length := by rw [List.length_map]; exact Paired.length hD.as
      rw [e1, List.take_length, outcome_eq hD.ok.fst hD.ok.ap]
      exact k _ s1
end
end Op


set_option Elab.async false
set_option linter.all false
set_option maxRecDepth 100000
set_option maxHeartbeats 4000000
namespace Op
open PySem PySem.Spec PyProof.Rows L2
theorem upd_none {H : Hp} {a b : Addr} {o : HO} (h : upd H a o b = Option.none) : b ≠ a ∧ H b = Option.none := by
  by_cases e : b = a
  · rw [e, upd_same] at h; cases h
  · rw [upd_ne e] at h; exact ⟨e, h⟩
theorem put_new {H : Hp} {d q dx C : Addr} {fs fs' : List (Str × V)} (hd : H d = some (.ins C dx fs)) (hq : H q = Option.none) :
    ∃ H' : Hp, H' = upd (upd H q (.lst [])) d (.ins C dx fs') ∧ q ≠ d ∧ H' d = some (.ins C dx fs') ∧ H' q = some (.lst []) ∧ ∀ b o, b ≠ d → H b = some o → H' b = some o := by
  have a : d ≠ q := ne_of_none hd hq
  refine ⟨_, rfl, a.symm, upd_same, ?_, fun b o hb e => ?_⟩
  · rw [upd_ne a.symm]; exact upd_same
  · rw [upd_ne hb, upd_ne (ne_of_none e hq)]; exact e
section
variable {P : Program} {w : World} {K : PySem.W.Frag} {mg : Str → Option Value} {base : Heap} {A : Adr}
structure Wiped (A : Adr) (H H' : Hp) (d dx lp lc lt lr la : Addr) : Prop where
  ins : H' d = some (.ins A.c_Dispute dx (dispF Vbptam.start 0 lp lc lt lr la))
  vp : H' lp = some (.lst [])
  vc : H' lc = some (.lst [])
  vt : H' lt = some (.lst [])
  vr : H' lr = some (.lst [])
  va : H' la = some (.lst [])
  np : H lp = Option.none
  nc : H lc = Option.none
  nt : H lt = Option.none
  nr : H lr = Option.none
  na : H la = Option.none
  pc : lp ≠ lc
  pt : lp ≠ lt
  pr : lp ≠ lr
  pa : lp ≠ la
  cr : lc ≠ lr
  ca : lc ≠ la
  tr : lt ≠ lr
  ta : lt ≠ la
  ra : lr ≠ la
  kept : ∀ b o, H b = some o → b ≠ d → H' b = some o
def sp_Dispute_wipe (A : Adr) : Sp := fun vs H Q _ => ∃ (d dx : Addr) (fs : List (Str × V)), vs = [.ref d] ∧ H d = some (.ins A.c_Dispute dx fs) ∧ (fs = [] ∨ ∃ s sk lp lc lt lr la, fs = dispF s sk lp lc lt lr la) ∧
  ∀ (H' : Hp) (lp lc lt lr la : Addr), Wiped A H H' d dx lp lc lt lr la → Q .non H'
theorem ok_Dispute_wipe (T : Txt K mg A) : FnOk P w K mg base CX0 1 A.f_Dispute_wipe A.fd_Dispute_wipe ["self"] (sp_Dispute_wipe A) := by
  refine T.F_Dispute_wipe.ok sc_Dispute_wipe (fun vs H Q E h => ?_) (fun cdv Ar outer sh H vs Q E hr h => ?_)
  · obtain ⟨d, dx, fs, rfl, _⟩ := h
    rfl
  · obtain ⟨d, dx, fs, rfl, hd, hfs, k⟩ := h
    refine ⟨_, (pss_cons (ps_fld (pv 0) (pe_gint rfl T.g_NO_CASE) rfl)
      (pss_cons (ps_fld (pv 0) pe_int rfl)
      (pss_cons (ps_fld (pv 0) pe_int rfl)
      (pss_cons (ps_fld (pv 0) pe_int rfl)
      (pss_cons (ps_fld (pv 0) (pe_lst pa_nil) rfl)
      (pss_cons (ps_fld (pv 0) (pe_lst pa_nil) rfl)
      (pss_cons (ps_fld (pv 0) (pe_lst pa_nil) rfl)
      (pss_cons (ps_fld (pv 0) pe_int rfl)
      (pss_cons (ps_fld (pv 0) (pe_lst pa_nil) rfl)
      (pss_cons (ps_fld (pv 0) (pe_lst pa_nil) rfl)
      (pss_cons (ps_fld (pv 0) pe_int rfl)
      (pss_cons (ps_fld (pv 0) pe_int rfl)
      (pss_cons (ps_fld (pv 0) pe_int rfl)
      (pss_one (ps_fld (pv 0) pe_int rfl))))))))))))))), ?_⟩
    have hl0 : fs.length ≤ 14 := by
      rcases hfs with rfl | ⟨s, sk, lp, lc, lt, lr, la, rfl⟩
      · decide
      · show 14 ≤ 14; decide
    have l1 := length_putF "phase" (.int 0) fs
    refine ⟨_, rfl, d, _, dx, _, rfl, hd, T.C_Dispute, T.a_Dispute_phase, by omega, ?_⟩
    refine ⟨_, rfl, d, _, dx, _, rfl, upd_same, T.C_Dispute, T.a_Dispute_day, by omega, ?_⟩
    have l2 := length_putF "day" (.int 0) (putF "phase" (.int 0) fs)
    refine ⟨_, rfl, d, _, dx, _, rfl, upd_same, T.C_Dispute, T.a_Dispute_claims, by omega, ?_⟩
    have l3 := length_putF "claims" (.int 0) (putF "day" (.int 0) (putF "phase" (.int 0) fs))
    refine ⟨_, rfl, d, _, dx, _, rfl, upd_same, T.C_Dispute, T.a_Dispute_limit, by omega, ?_⟩
    rw [upd_upd, upd_upd, upd_upd]
    have l4 := length_putF "limit" (.int 0) (putF "claims" (.int 0) (putF "day" (.int 0) (putF "phase" (.int 0) fs)))
    have hf4 : ∃ f4, f4 = putF "limit" (.int 0) (putF "claims" (.int 0) (putF "day" (.int 0) (putF "phase" (.int 0) fs))) := ⟨_, rfl⟩
    obtain ⟨f4, hf4⟩ := hf4
    rw [← hf4] at l4 ⊢
    obtain ⟨H0, e0⟩ : ∃ H0 : Hp, H0 = upd H d (.ins A.c_Dispute dx f4) := ⟨_, rfl⟩
    have g0 : H0 d = some (.ins A.c_Dispute dx f4) := by rw [e0]; exact upd_same
    have k0 : ∀ b o, b ≠ d → H b = some o → H0 b = some o := fun b o hb e => by rw [e0, upd_ne hb]; exact e
    rw [← e0]
    refine ⟨Nat.zero_le _, fun q1 n1 => ?_⟩
    refine ⟨_, rfl, d, _, dx, _, rfl, (by rw [upd_ne (ne_of_none g0 n1)]; exact g0), T.C_Dispute, T.a_Dispute_pieces, by omega, ?_⟩
    obtain ⟨H1, e1, a1, g1, p1, k1⟩ := put_new (fs' := putF "pieces" (.ref q1) f4) g0 n1
    rw [← e1]
    have l5 := length_putF "pieces" (.ref q1) f4
    refine ⟨Nat.zero_le _, fun q2 n2 => ?_⟩
    refine ⟨_, rfl, d, _, dx, _, rfl, (by rw [upd_ne (ne_of_none g1 n2)]; exact g1), T.C_Dispute, T.a_Dispute_counted, by omega, ?_⟩
    obtain ⟨H2, e2, a2, g2, p2, k2⟩ := put_new (fs' := putF "counted" (.ref q2) (putF "pieces" (.ref q1) f4)) g1 n2
    rw [← e2]
    have l6 := length_putF "counted" (.ref q2) (putF "pieces" (.ref q1) f4)
    refine ⟨Nat.zero_le _, fun q3 n3 => ?_⟩
    refine ⟨_, rfl, d, _, dx, _, rfl, (by rw [upd_ne (ne_of_none g2 n3)]; exact g2), T.C_Dispute, T.a_Dispute_settled, by omega, ?_⟩
    obtain ⟨H3, e3, a3, g3, p3, k3⟩ := put_new (fs' := putF "settled" (.ref q3) (putF "counted" (.ref q2) (putF "pieces" (.ref q1) f4))) g2 n3
    rw [← e3]
    have l7 := length_putF "settled" (.ref q3) (putF "counted" (.ref q2) (putF "pieces" (.ref q1) f4))
    have hf5 : ∃ f5, f5 = putF "settled" (.ref q3) (putF "counted" (.ref q2) (putF "pieces" (.ref q1) f4)) := ⟨_, rfl⟩
    obtain ⟨f5, hf5⟩ := hf5
    rw [← hf5] at l7 g3
    refine ⟨_, rfl, d, _, dx, _, rfl, g3, T.C_Dispute, T.a_Dispute_settled_pieces, by omega, ?_⟩
    have l8 := length_putF "settled_pieces" (.int 0) f5
    obtain ⟨H4, e4⟩ : ∃ H4 : Hp, H4 = upd H3 d (.ins A.c_Dispute dx (putF "settled_pieces" (.int 0) f5)) := ⟨_, rfl⟩
    have g4 : H4 d = some (.ins A.c_Dispute dx (putF "settled_pieces" (.int 0) f5)) := by rw [e4]; exact upd_same
    have k4 : ∀ b o, b ≠ d → H3 b = some o → H4 b = some o := fun b o hb e => by rw [e4, upd_ne hb]; exact e
    rw [← e4]
    refine ⟨Nat.zero_le _, fun q5 n5 => ?_⟩
    refine ⟨_, rfl, d, _, dx, _, rfl, (by rw [upd_ne (ne_of_none g4 n5)]; exact g4), T.C_Dispute, T.a_Dispute_requests, by omega, ?_⟩
    obtain ⟨H5, e5, a5, g5, p5, k5⟩ := put_new (fs' := putF "requests" (.ref q5) (putF "settled_pieces" (.int 0) f5)) g4 n5
    rw [← e5]
    have l9 := length_putF "requests" (.ref q5) (putF "settled_pieces" (.int 0) f5)
    refine ⟨Nat.zero_le _, fun q6 n6 => ?_⟩
    refine ⟨_, rfl, d, _, dx, _, rfl, (by rw [upd_ne (ne_of_none g5 n6)]; exact g5), T.C_Dispute, T.a_Dispute_appeals, by omega, ?_⟩
    obtain ⟨H6, e6, a6, g6, p6, k6⟩ := put_new (fs' := putF "appeals" (.ref q6) (putF "requests" (.ref q5) (putF "settled_pieces" (.int 0) f5))) g5 n6
    rw [← e6]
    have l10 := length_putF "appeals" (.ref q6) (putF "requests" (.ref q5) (putF "settled_pieces" (.int 0) f5))
    have hf6 : ∃ f6, f6 = putF "appeals" (.ref q6) (putF "requests" (.ref q5) (putF "settled_pieces" (.int 0) f5)) := ⟨_, rfl⟩
    obtain ⟨f6, hf6⟩ := hf6
    rw [← hf6] at l10 g6
    refine ⟨_, rfl, d, _, dx, _, rfl, g6, T.C_Dispute, T.a_Dispute_kept, by omega, ?_⟩
    have l11 := length_putF "kept" (.int 0) f6
    refine ⟨_, rfl, d, _, dx, _, rfl, upd_same, T.C_Dispute, T.a_Dispute_kept_request, by omega, ?_⟩
    have l12 := length_putF "kept_request" (.int 0) (putF "kept" (.int 0) f6)
    refine ⟨_, rfl, d, _, dx, _, rfl, upd_same, T.C_Dispute, T.a_Dispute_decision_day, by omega, ?_⟩
    have l13 := length_putF "decision_day" (.int 0) (putF "kept_request" (.int 0) (putF "kept" (.int 0) f6))
    refine ⟨_, rfl, d, _, dx, _, rfl, upd_same, T.C_Dispute, T.a_Dispute_outcome, by omega, ?_⟩
    rw [upd_upd, upd_upd, upd_upd]
    have k06 : ∀ b o, b ≠ d → H6 b = some o → upd H6 d (.ins A.c_Dispute dx (putF "outcome" (.int 0) (putF "decision_day" (.int 0) (putF "kept_request" (.int 0) (putF "kept" (.int 0) f6))))) b = some o := fun b o hb e => by rw [upd_ne hb]; exact e
    have k56 := fun b o (hb : b ≠ d) (e : H5 b = some o) => k06 b o hb (k6 b o hb e)
    have k46 := fun b o (hb : b ≠ d) (e : H4 b = some o) => k56 b o hb (k5 b o hb e)
    have k36 := fun b o (hb : b ≠ d) (e : H3 b = some o) => k46 b o hb (k4 b o hb e)
    have k26 := fun b o (hb : b ≠ d) (e : H2 b = some o) => k36 b o hb (k3 b o hb e)
    have k16 := fun b o (hb : b ≠ d) (e : H1 b = some o) => k26 b o hb (k2 b o hb e)
    have k00 := fun b o (hb : b ≠ d) (e : H b = some o) => k16 b o hb (k1 b o hb (k0 b o hb e))
    -- what was free later was free before
    have back : ∀ {Ha Hb : Hp} {q : Addr}, (∀ b o, b ≠ d → Ha b = some o → Hb b = some o) → q ≠ d → Hb q = Option.none → Ha q = Option.none := fun {Ha Hb q} kk hq hn => by
      cases e : Ha q with
      | none => rfl
      | some o => rw [kk _ _ hq e] at hn; cases hn
    have n1' := back k0 a1 n1
    have m2 := back k1 a2 n2
    have n2' := back k0 a2 m2
    have m3 := back k2 a3 n3
    have m3b := back k1 a3 m3
    have n3' := back k0 a3 m3b
    have m5 := back k4 a5 n5
    have m5b := back k3 a5 m5
    have m5c := back k2 a5 m5b
    have m5d := back k1 a5 m5c
    have n5' := back k0 a5 m5d
    have m6 := back k5 a6 n6
    have m6a := back k4 a6 m6
    have m6b := back k3 a6 m6a
    have m6c := back k2 a6 m6b
    have m6d := back k1 a6 m6c
    have n6' := back k0 a6 m6d
    refine k _ q1 q2 q3 q5 q6 ⟨?_, k16 _ _ a1 p1, k26 _ _ a2 p2, k36 _ _ a3 p3, k56 _ _ a5 p5, k06 _ _ a6 p6, n1', n2', n3', n5', n6', ne_of_none p1 n2, ne_of_none p1 m3, ne_of_none p1 m5c, ne_of_none p1 m6c, ne_of_none p2 m5b, ne_of_none p2 m6b, ne_of_none p3 m5, ne_of_none p3 m6a, ne_of_none p5 n6, fun b o e hb => k00 b o hb e⟩
    rw [upd_same, hf6, hf5, hf4]
    rcases hfs with rfl | ⟨s, sk, lp, lc, lt, lr, la, rfl⟩ <;> rfl
def sp_Dispute_init (A : Adr) : Sp := fun vs H Q _ => ∃ (d dx : Addr), vs = [.ref d] ∧ H d = some (.ins A.c_Dispute dx []) ∧
  ∀ (H' : Hp) (lp lc lt lr la : Addr), Wiped A H H' d dx lp lc lt lr la → Q .non H'
theorem ok_Dispute_init (T : Txt K mg A) : FnOk P w K mg base CX0 2 A.f_Dispute_init A.fd_Dispute_init ["self"] (sp_Dispute_init A) := by
  refine T.F_Dispute_init.ok sc_Dispute_init (fun vs H Q E h => ?_) (fun cdv Ar outer sh H vs Q E hr h => ?_)
  · obtain ⟨d, dx, rfl, _⟩ := h
    rfl
  · obtain ⟨d, dx, rfl, hd, k⟩ := h
    refine ⟨_, (pss_one (ps_expr (pe_meth0 (pv 0) T.C_Dispute T.M_Dispute_wipe (ok_Dispute_wipe T) (hr.mono (by decide)) (b_Dispute_wipe T) .nil pass0))), ?_⟩
    exact ⟨_, rfl, d, dx, _, rfl, hd, rfl, d, dx, [], rfl, hd, .inl rfl, k⟩
end
end Op


set_option Elab.async false
set_option linter.all false
set_option maxRecDepth 100000
set_option maxHeartbeats 4000000
namespace Op
open PySem PySem.Spec PyProof.Rows L2
def begun (n : Nat) (bar : Int) (limit : Nat) : Vbptam.State := { Vbptam.start with phase := 1, n := n, bar := bar, limit := limit, requests := [Vbptam.maskOf (List.range n)] }
theorem reach_begun {n : Nat} {bar : Int} {limit : Nat} (hn : n ≤ 6) : Reach (begun n bar limit) where
  inv := ⟨hn, fun _ => rfl, fun _ _ x hx => (by cases hx), fun h => absurd (show 1 ≤ 1 from Nat.le_refl _) h, fun h => absurd (show 1 ≤ 1 from Nat.le_refl _) h, fun h => absurd (show 1 ≤ 1 from Nat.le_refl _) h, Nat.zero_le _⟩
  wf := fun x hx => by cases hx
  rq := fun m hm => by
    have hm : m ∈ [Vbptam.maskOf (List.range n)] := hm
    rw [List.mem_singleton] at hm
    rw [hm]
    exact maskOf_lt _
  rql := by show 1 ≤ 6; decide
  ap := fun q hq => by cases hq
  apl := Nat.zero_le _
  fst := by show 0 < 64; decide
  day := Nat.zero_le _
  f0 := fun _ => rfl
  ph := by show 1 ≤ 3; decide
theorem countN_begun (n : Nat) (bar : Int) (limit c : Nat) : countN (begun n bar limit) c = [] := pick_nil _
theorem setN_begun (n : Nat) (bar : Int) (limit c : Nat) : setN (begun n bar limit) 0 c = [] := if_pos (show 1 ≤ 1 by decide)
theorem setOk_begun (n : Nat) (bar : Int) (limit : Nat) : SetOk (begun n bar limit) 0 where
  le := Nat.zero_le _
  z := fun _ => rfl
  w := fun h => absurd (show 1 ≤ 1 by decide) h
  late := fun h => absurd (show 1 ≤ 1 by decide) h
section
variable {P : Program} {w : World} {K : PySem.W.Frag} {mg : Str → Option Value} {base : Heap} {A : Adr}
structure Step (A : Adr) (N M : Addr → Prop) (H : Hp) (d : Addr) (s' : Vbptam.State) (H' : Hp) (N' M' : Addr → Prop) : Prop where
  kept : ∀ b o, ¬ M b → H b = some o → H' b = some o
  dom : ∀ b, H' b = Option.none → H b = Option.none
  agree : ∀ b, H b ≠ Option.none → (N' b ↔ N b)
  fresh : ∀ b, H' b = Option.none → N' b
  mutb : ∀ b, ¬ M b → H b ≠ Option.none → ¬ M' b
  disp : DispAt A N' M' H' d s'
def After (A : Adr) (N M : Addr → Prop) (H : Hp) (d : Addr) (s' : Vbptam.State) (R : Hp → Prop) : Prop := ∀ (H' : Hp) (N' M' : Addr → Prop), Step A N M H d s' H' N' M' → R H'
def sp_Dispute_begin (A : Adr) : Sp := fun vs H Q _ => ∃ (d : Addr) (n : Nat) (bar : Int) (limit : Nat) (s : Vbptam.State) (N M : Addr → Prop), vs = [.ref d, .int n, .int bar, .int limit] ∧ DispAt A N M H d s ∧ n ≤ 6 ∧ (∀ b, H b = Option.none → N b) ∧
  After A N M H d (begun n bar limit) (fun H' => Q .non H')
theorem ok_Dispute_begin (T : Txt K mg A) : FnOk P w K mg base CX0 4 A.f_Dispute_begin A.fd_Dispute_begin ["self", "claims", "bar", "limit"] (sp_Dispute_begin A) := by
  refine T.F_Dispute_begin.ok sc_Dispute_begin (fun vs H Q E h => ?_) (fun cdv Ar outer sh H vs Q E hr h => ?_)
  · obtain ⟨d, n, bar, limit, s, N, M, rfl, _⟩ := h
    rfl
  · obtain ⟨d, n, bar, limit, s, N, M, rfl, ⟨dx, lp0, lc0, lt0, lr0, la0, sk0, ps0, cs0, ts0, as0, hD⟩, hn, hN, k⟩ := h
    refine ⟨_, (pss_cons (ps_expr (pe_meth0 (pv 0) T.C_Dispute T.M_Dispute_wipe (ok_Dispute_wipe T) (hr.mono (by decide)) (b_Dispute_wipe T) .nil pass0))
      (pss_cons (ps_fld (pv 0) (pe_gint rfl T.g_OPPOSED) rfl)
      (pss_cons (ps_fld (pv 0) (pv 1) rfl)
      (pss_cons (ps_fld (pv 0) (pv 3) rfl)
      (pss_cons (ps_fld (pv 0) (pe_lc (own := [("claim", 4)]) rfl sc_Dispute_begin.nd (pi_range1 rfl T.n_range (pa_cons (pv 1) pa_nil)) (blkOk_by (by kernel_rfl)) (fun _ _ _ _ _ => (pg_name (i := 4) sc_Dispute_begin.nd rfl (Or.inl rfl))) (fun _ _ _ _ _ => pts_nil) (fun _ _ _ _ _ => (pe_call (ok_nothing_counted T) (hr.mono (by decide)) rfl T.m_nothing_counted T.F_nothing_counted.kp (b_nothing_counted T) .nil pass0 (pa_cons (pv 4) (pa_cons (pv 2) pa_nil))))) rfl)
      (pss_cons (ps_fld (pv 0) (pe_callTy call_list_of rfl T.n_list PyProof.Rows.boot_list (pa_cons (pe_fld (pv 0) rfl) pa_nil)) rfl)
      (pss_one (ps_fld (pv 0) (pe_lst (pa_cons (pe_meth0 (pv 0) T.C_Dispute T.M_Dispute_all_claims (ok_Dispute_all_claims T) (hr.mono (by decide)) (b_Dispute_all_claims T) .nil pass0) pa_nil)) rfl)))))))), ?_⟩
    refine ⟨_, rfl, d, dx, _, rfl, hD.ins, rfl, d, dx, _, rfl, hD.ins, .inr ⟨s, sk0, lp0, lc0, lt0, lr0, la0, rfl⟩, fun H1 lp lc lt lr la W => ?_⟩
    refine ⟨_, rfl, d, _, dx, _, rfl, W.ins, T.C_Dispute, T.a_Dispute_phase, (by show 14 < 1000; decide), ?_⟩
    refine ⟨_, rfl, _, rfl, d, _, dx, _, rfl, upd_same, T.C_Dispute, T.a_Dispute_claims, (by show 14 < 1000; decide), ?_⟩
    refine ⟨_, rfl, _, rfl, d, _, dx, _, rfl, upd_same, T.C_Dispute, T.a_Dispute_limit, (by show 14 < 1000; decide), ?_⟩
    rw [upd_upd, upd_upd]
    have m1 := W.np
    have m4 := W.na
    have d1 : lp ≠ d := fun e => by rw [e, hD.ins] at m1; cases m1
    have d4 : la ≠ d := fun e => by rw [e, hD.ins] at m4; cases m4
    have hH2 : ∃ H2 : Hp, H2 = upd H1 d (.ins A.c_Dispute dx (dispF { Vbptam.start with phase := 1, n := n, limit := limit } 0 lp lc lt lr la)) := ⟨_, rfl⟩
    obtain ⟨H2, hH2⟩ := hH2
    have g2 : H2 d = some (.ins A.c_Dispute dx (dispF { Vbptam.start with phase := 1, n := n, limit := limit } 0 lp lc lt lr la)) := by rw [hH2]; exact upd_same
    have g2p : H2 lp = some (.lst []) := by rw [hH2, upd_ne d1]; exact W.vp
    have g2a : H2 la = some (.lst []) := by rw [hH2, upd_ne d4]; exact W.va
    have k2 : ∀ b o, H b = some o → b ≠ d → H2 b = some o := fun b o e hb => by rw [hH2, upd_ne hb]; exact W.kept b o e hb
    refine ⟨_, rfl, (n : Int), rfl, by omega, by omega, fun D nD => ?_⟩
    have nD2 : H2 D = Option.none := by rw [hH2]; exact nD
    have dD : D ≠ d := fun e => by rw [e, g2] at nD2; cases nD2
    have dDp : D ≠ lp := fun e => by rw [e, g2p] at nD2; cases nD2
    have dDa : D ≠ la := fun e => by rw [e, g2a] at nD2; cases nD2
    refine lc_range (Qd := _) (fun i H' => Same H2 H' ∧ ∃ as : List Addr, H' D = some (.lst (as.map V.ref)) ∧ Paired (fun a c => CountedAt A (fun b => N b ∧ b ≠ lp ∧ b ≠ la ∧ b ≠ D) H' a c bar []) as ((List.range n).take i)) ⟨by rw [hH2]; exact same_new nD, [], upd_same, .nil⟩ ?_ ?_
    · rintro i H' hi ⟨s3, as, gD, hp⟩
      rw [Int.toNat_natCast] at hi
      have hN1 : ∀ b, H' b = Option.none → (N b ∧ b ≠ lp ∧ b ≠ la ∧ b ≠ D) := fun b hb =>
        ⟨hN b (by
          cases e : H b with
          | none => rfl
          | some o =>
            by_cases z : b = d
            · rw [z, s3 _ _ g2] at hb; cases hb
            · rw [s3 _ _ (k2 _ _ e z)] at hb; cases hb), fun e => (by rw [e, s3 _ _ g2p] at hb; cases hb), fun e => (by rw [e, s3 _ _ g2a] at hb; cases hb), fun e => (by rw [e, gD] at hb; cases hb)⟩
      refine ⟨rfl, yesT ?_⟩
      refine ⟨_, rfl, _, rfl, i, bar, _, (by rw [Int.zero_add]; rfl), hN1, fun H4 q s4 n4 hC => ?_⟩
      refine ⟨_, s4 _ _ gD, ?_, fun b o e => ?_, as ++ [q], ?_, ?_⟩
      · rw [List.length_map, Paired.length hp, List.length_take, List.length_range]
        exact Nat.lt_of_le_of_lt (Nat.min_le_right _ _) (Nat.lt_of_le_of_lt hn (by decide))
      · rw [upd_ne (ne_of_none e nD2)]
        exact s4 _ _ (s3 _ _ e)
      · rw [upd_same, List.map_append]
        rfl
      · have kp : Keep (fun b => N b ∧ b ≠ lp ∧ b ≠ la ∧ b ≠ D) H4 (upd H4 D (.lst (as.map V.ref ++ [.ref q]))) := fun b o nb e => by rw [upd_ne nb.2.2.2]; exact e
        rw [take_range_snoc hi]
        exact Paired.snoc (Paired.mapP hp fun a c h => (h.keep (Keep.of s4)).keep kp) (hC.keep kp)
    · rintro H3 ⟨s3, as, gD, hp⟩
      rw [Int.toNat_natCast, List.take_of_length_le (by simp)] at hp
      refine ⟨_, rfl, d, _, dx, _, rfl, s3 _ _ g2, T.C_Dispute, T.a_Dispute_settled, (by show 14 < 1000; decide), ?_⟩
      generalize hA : upd H3 d _ = Ha
      have ga : Ha d = some (.ins A.c_Dispute dx (dispF { Vbptam.start with phase := 1, n := n, limit := limit } 0 lp lc D lr la)) := by rw [← hA]; exact upd_same
      have ka : ∀ b o, b ≠ d → H3 b = some o → Ha b = some o := fun b o hb e => by rw [← hA, upd_ne hb]; exact e
      refine ⟨_, rfl, d, _, dx, _, _, rfl, ga, T.C_Dispute, T.a_Dispute_settled, rfl, D, _, rfl, .inl (SqL.of (ka _ _ dD gD)), fun q4 n4 => ?_⟩
      have a4 : q4 ≠ d := (ne_of_none ga n4).symm
      refine ⟨_, rfl, d, _, dx, _, rfl, (by rw [upd_ne a4.symm]; exact ga), T.C_Dispute, T.a_Dispute_counted, (by show 14 < 1000; decide), ?_⟩
      generalize hB : upd (upd Ha q4 _) d _ = Hb
      have gb : Hb d = some (.ins A.c_Dispute dx (dispF { Vbptam.start with phase := 1, n := n, limit := limit } 0 lp q4 D lr la)) := by rw [← hB]; exact upd_same
      have gb4 : Hb q4 = some (.lst (as.map V.ref)) := by rw [← hB, upd_ne a4]; exact upd_same
      have kb : ∀ b o, b ≠ d → H3 b = some o → Hb b = some o := fun b o hb e => by rw [← hB, upd_ne hb, upd_ne (ne_of_none (ka b o hb e) n4)]; exact ka b o hb e
      refine ⟨_, rfl, d, dx, _, rfl, gb, rfl, d, { Vbptam.start with phase := 1, n := n, limit := limit }, dx, lp, q4, D, lr, la, 0, rfl, gb, hn, (by show 1 ≤ sizeLine; decide), fun q5 n5 => ?_⟩
      have a5 : q5 ≠ d := (ne_of_none gb n5).symm
      refine ⟨_, rfl, d, _, dx, _, rfl, (by rw [upd_ne a5.symm]; exact gb), T.C_Dispute, T.a_Dispute_requests, (by show 14 < 1000; decide), ?_⟩
      generalize hW : upd (upd Hb q5 _) d _ = H5
      have upb : ∀ b o, b ≠ d → Hb b = some o → H5 b = some o := fun b o hb e => by
        rw [← hW, upd_ne hb, upd_ne (ne_of_none e n5)]
        exact e
      have up : ∀ b o, b ≠ d → H3 b = some o → H5 b = some o := fun b o hb e => upb b o hb (kb b o hb e)
      have g5 : H5 d = some (.ins A.c_Dispute dx (dispF (begun n bar limit) 0 lp q4 D q5 la)) := by
        rw [← hW]
        exact upd_same
      have g5q : H5 q5 = some (.lst [.int ((Vbptam.maskOf (List.range n) : Nat) : Int)]) := by
        rw [← hW, upd_ne a5]
        exact upd_same
      have m54 : H3 q4 = Option.none := by
        cases e : H3 q4 with
        | none => rfl
        | some o => rw [ka _ _ a4 e] at n4; cases n4
      have m55 : H3 q5 = Option.none := by
        cases e : H3 q5 with
        | none => rfl
        | some o => rw [kb _ _ a5 e] at n5; cases n5
      have e4p : q4 ≠ lp := fun e => by rw [e, s3 _ _ g2p] at m54; cases m54
      have e4a : q4 ≠ la := fun e => by rw [e, s3 _ _ g2a] at m54; cases m54
      have e5p : q5 ≠ lp := fun e => by rw [e, s3 _ _ g2p] at m55; cases m55
      have e5a : q5 ≠ la := fun e => by rw [e, s3 _ _ g2a] at m55; cases m55
      have e5D : q5 ≠ D := fun e => by rw [e, gD] at m55; cases m55
      have e54 : q4 ≠ q5 := ne_of_none gb4 n5
      have back : ∀ q, q ≠ d → H3 q = Option.none → H q = Option.none := fun q hq hn => by
        cases e : H q with
        | none => rfl
        | some o => rw [s3 _ _ (k2 _ _ e hq)] at hn; cases hn
      have nb5 : H q5 = Option.none := back q5 a5 m55
      have nb4 : H q4 = Option.none := back q4 a4 m54
      have nbD : H D = Option.none := by
        cases e : H D with
        | none => rfl
        | some o =>
          have := k2 _ _ e dD
          rw [nD2] at this
          cases this
      have nM : ∀ b, ¬ M b → b ≠ d := fun b nb z => nb (z ▸ hD.md)
      refine k H5 (fun b => N b ∧ b ≠ lp ∧ b ≠ la ∧ b ≠ q5) (fun b => b = d ∨ b = lp ∨ b = la ∨ b = q5) ⟨fun b o nb e => up b o (nM b nb) (s3 _ _ (k2 _ _ e (nM b nb))), ?_, ?_, ?_, ?_, ⟨dx, lp, q4, D, q5, la, 0, [], as, as, [], ?_⟩⟩
      · intro b hb
        cases e : H b with
        | none => rfl
        | some o =>
          by_cases z : b = d
          · rw [z, g5] at hb; cases hb
          · rw [up b o z (s3 _ _ (k2 _ _ e z))] at hb; cases hb
      · intro b hb
        exact ⟨fun z => z.1, fun z => ⟨z, fun y => hb (y ▸ m1), fun y => hb (y ▸ m4), fun y => hb (y ▸ nb5)⟩⟩
      · intro b hb
        have hbn : H b = Option.none := by
          cases e : H b with
          | none => rfl
          | some o =>
            by_cases z : b = d
            · rw [z, g5] at hb; cases hb
            · rw [up b o z (s3 _ _ (k2 _ _ e z))] at hb; cases hb
        exact ⟨hN b hbn, fun z => (by rw [z, up _ _ d1 (s3 _ _ g2p)] at hb; cases hb), fun z => (by rw [z, up _ _ d4 (s3 _ _ g2a)] at hb; cases hb), fun z => (by rw [z, g5q] at hb; cases hb)⟩
      · rintro b nb hb (z | z | z | z)
        · exact nM b nb z
        · exact hb (z ▸ m1)
        · exact hb (z ▸ m4)
        · exact hb (z ▸ nb5)
      · have hcnt : ∀ a c, CountedAt A (fun b => N b ∧ b ≠ lp ∧ b ≠ la ∧ b ≠ D) H3 a c bar [] → CountedAt A (fun b => N b ∧ b ≠ lp ∧ b ≠ la ∧ b ≠ q5) H5 a c bar [] := fun a c h => by
          have h2 : CountedAt A (fun b => N b ∧ b ≠ lp ∧ b ≠ la ∧ b ≠ q5) H3 a c bar [] := h.renew fun b nb hb => ⟨nb.1, nb.2.1, nb.2.2.1, fun z => hb (z ▸ m55)⟩
          exact h2.keep fun b o nb e => up b o (fun z => hD.nd (z ▸ nb.1)) e
        refine ⟨.inl rfl, .inr (.inl rfl), .inr (.inr (.inr rfl)), .inr (.inr (.inl rfl)), ?_, ⟨hN q4 nb4, e4p, e4a, e54⟩, e5p.symm, W.pa, e5a, g5, up _ _ d1 (s3 _ _ g2p), upb _ _ a4 gb4, g5q, up _ _ d4 (s3 _ _ g2a), .nil, ?_, .nil, ⟨⟨hN D nbD, dDp, dDa, e5D.symm⟩, up _ _ dD gD, ?_, setOk_begun n bar limit⟩, reach_begun hn⟩
        · rintro b nb (z | z | z | z)
          · exact hD.nd (z ▸ nb.1)
          · exact nb.2.1 z
          · exact nb.2.2.1 z
          · exact nb.2.2.2 z
        · exact Paired.mapP hp fun a c h => by rw [countN_begun]; exact hcnt a c h
        · exact Paired.mapP hp fun a c h => by rw [setN_begun]; exact hcnt a c h
end
end Op


set_option Elab.async false
set_option linter.all false
set_option maxRecDepth 100000
set_option maxHeartbeats 4000000
namespace Op
open PySem PySem.Spec PyProof.Rows L2
theorem reach_more {s : Vbptam.State} (h : Reach s) {x : Vbptam.Piece} (hl : x.late = (decide (s.limit < s.day) || decide (1 < s.phase))) (h24 : s.pieces.length < 24) (wf : WfW x.what) : Reach (more s x) where
  inv := h.inv.more hl h24
  wf := fun y hy => by
    have hy : y ∈ s.pieces ++ [x] := hy
    rw [List.mem_append, List.mem_singleton] at hy
    rcases hy with hy | rfl
    · exact h.wf y hy
    · exact wf
  rq := h.rq
  rql := h.rql
  ap := h.ap
  apl := h.apl
  fst := h.fst
  day := h.day
  f0 := h.f0
  ph := h.ph
theorem reach_decided {s : Vbptam.State} (h : Reach s) (hd : s.limit < s.day) {m f : Nat} (hm : m < 64) : Reach (decided s m f) where
  inv := h.inv.decided hd m f
  wf := h.wf
  rq := h.rq
  rql := h.rql
  ap := h.ap
  apl := h.apl
  fst := hm
  day := h.day
  f0 := fun q => absurd (show 2 ≤ 1 from q) (by decide)
  ph := by show 2 ≤ 3; decide
def closed (s : Vbptam.State) : Vbptam.State := { s with phase := 3, last := Vbptam.outcome s }
theorem counting_closed {s : Vbptam.State} (h2 : s.phase = 2) (c : Nat) : Vbptam.counting (closed s) c = Vbptam.counting s c := by
  unfold Vbptam.counting Vbptam.let_
  rw [if_neg (show ¬ (closed s).phase ≤ 1 from by show ¬ 3 ≤ 1; decide), if_neg (show ¬ s.phase ≤ 1 by omega)]
  rfl
theorem reach_closed {s : Vbptam.State} (h : Reach s) (h2 : s.phase = 2) : Reach (closed s) where
  inv := ⟨h.inv.n6, fun q => absurd (show 3 ≤ 1 from q) (by decide), fun q => absurd (show 3 ≤ 1 from q) (by decide), fun _ => h.inv.beh (by omega), fun _ => h.inv.tkl (by omega), fun _ => h.inv.tkp (by omega), h.inv.pl⟩
  wf := h.wf
  rq := h.rq
  rql := h.rql
  ap := h.ap
  apl := h.apl
  fst := h.fst
  day := h.day
  f0 := fun q => absurd (show 3 ≤ 1 from q) (by decide)
  ph := by show 3 ≤ 3; decide
section
variable {P : Program} {w : World} {K : PySem.W.Frag} {mg : Str → Option Value} {base : Heap} {A : Adr}
theorem countN_closed {s : Vbptam.State} (h2 : s.phase = 2) (c : Nat) : countN (closed s) c = countN s c := by
  unfold countN Vbptam.let_
  rw [if_neg (show ¬ (closed s).phase ≤ 1 from by show ¬ 3 ≤ 1; decide), if_neg (show ¬ s.phase ≤ 1 by omega)]
  rfl
theorem After.from {A : Adr} {N M : Addr → Prop} {H H1 : Hp} {d : Addr} {s' : Vbptam.State} {R : Hp → Prop} (k : After A N M H d s' R) (s1 : Same H H1) : After A N M H1 d s' R := fun H' N' M' st =>
  k H' N' M' ⟨fun b o nb z => st.kept b o nb (s1 _ _ z), fun b hb => s1.free (st.dom b hb), fun b hb => st.agree b fun z => hb (s1.free z), st.fresh, fun b nb hb => st.mutb b nb fun z => hb (s1.free z), st.disp⟩
def sp_Dispute_bring (A : Adr) : Sp := fun vs H Q _ => ∃ (d f wl : Addr) (s : Vbptam.State) (x : Vbptam.Piece) (N M : Addr → Prop), vs = [.ref d, .int (x.who : Nat), claimV x.what, .ref f, .ref wl] ∧ DispAt A N M H d s ∧ (N f ∧ N wl) ∧ H f = some (.lst (factsV x.what)) ∧ H wl = some (.lst (weightsV x.what)) ∧ WfW x.what ∧
  x.late = decide (s.limit < s.day) ∧ x.late = (decide (s.limit < s.day) || decide (1 < s.phase)) ∧ s.pieces.length < 24 ∧ (∀ b, H b = Option.none → N b) ∧ After A N M H d (more s x) (fun H' => Q .non H')
theorem ok_Dispute_bring (T : Txt K mg A) : FnOk P w K mg base CX0 6 A.f_Dispute_bring A.fd_Dispute_bring ["self", "bringer", "claim", "facts", "weights"] (sp_Dispute_bring A) := by
  refine T.F_Dispute_bring.ok sc_Dispute_bring (fun vs H Q E h => ?_) (fun cdv Ar outer sh H vs Q E hr h => ?_)
  · obtain ⟨d, f, wl, s, x, N, M, rfl, _⟩ := h
    rfl
  · obtain ⟨d, f, wl, s, x, N, M, rfl, hD0, ⟨nf, nw⟩, hf, hw, wf, hl1, hlate, h24, hN, k⟩ := h
    obtain ⟨dx, lp, lc, lt, lr, la, sk, ps, cs, ts, as, hD⟩ := id hD0
    have hpn : (ps.map V.ref).length = s.pieces.length := by rw [List.length_map, Paired.length hD.ps, numb_length]
    refine ⟨_, (pss_cons (ps_set (i := 5) sc_Dispute_bring.nd rfl (Or.inr rfl) (pe_make T.K_Piece (ok_Piece_init T) (hr.mono (by decide)) rfl T.c_Piece (b_Piece_init T) .nil pass0 (pa_cons (pe_callB call_len_seq rfl T.n_len PySem.boot_len (pa_cons (pe_fld (pv 0) rfl) pa_nil)) (pa_cons (pv 1) (pa_cons (pe_meth0 (pv 0) T.C_Dispute T.M_Dispute_is_behind_limit (ok_Dispute_is_behind_limit T) (hr.mono (by decide)) (b_Dispute_is_behind_limit T) .nil pass0) (pa_cons (pv 2) (pa_cons (pv 3) (pa_cons (pv 4) pa_nil))))))))
      (pss_cons (ps_expr (pe_bm PySem.F.plainAttrs_list PySem.F.slot_list_append PySem.F.type_list_append mt_append (pe_fld (pv 0) rfl) (pa_cons (pv 5) pa_nil)))
      (pss_one (ps_fld (pv 0) (pe_lc (own := [("counted", 6)]) rfl sc_Dispute_bring.nd (pi_list (pe_fld (pv 0) rfl)) (blkOk_by (by kernel_rfl)) (fun _ _ _ _ _ => (pg_name (i := 6) sc_Dispute_bring.nd rfl (Or.inl rfl))) (fun _ _ _ _ _ => pts_nil) (fun _ _ _ _ _ => (pe_meth (pv 6) T.C_Counted T.M_Counted_weighed_with (ok_Counted_weighed_with T) (hr.mono (by decide)) (b_Counted_weighed_with T) .nil pass0 (pa_cons (pv 5) pa_nil)))) rfl)))), ?_⟩
    refine ⟨_, rfl, d, _, dx, _, _, rfl, hD.ins, T.C_Dispute, T.a_Dispute_pieces, rfl, lp, _, rfl, .inl (SqL.of hD.lp), _, rfl, _, rfl, d, dx, _, rfl, hD.ins, rfl, d, s, N, M, rfl, hD0, _, rfl, _, rfl, _, rfl, ?_⟩
    intro p dp np ndp nep
    refine ⟨p, dp, _, _, _, _, f, wl, rfl, upd_same, fun H g4 k4 => ⟨rfl, ?_⟩⟩
    have s4 := Same.made np ndp k4
    have hP : PieceAt A N H p (s.pieces.length, x) := by
      refine ⟨dp, f, wl, ⟨hN p np, nf, nw⟩, ?_, s4 _ _ hf, s4 _ _ hw⟩
      rw [hpn, ← hl1] at g4
      exact g4
    have hD := hD.same s4
    have hN : ∀ b, H b = Option.none → N b := fun b hb => hN b (s4.free hb)
    have k := After.from k s4
    have hpl : ps.length = s.pieces.length := by rw [Paired.length hD.ps, numb_length]
    refine ⟨_, rfl, d, _, dx, _, _, rfl, hD.ins, T.C_Dispute, T.a_Dispute_pieces, rfl, .inl ⟨rfl, _, SqL.of hD.lp⟩, _, rfl, lp, _, _, rfl, rfl, hD.lp, ?_, ?_⟩
    · rw [List.length_map, hpl]
      exact Nat.lt_of_lt_of_le h24 (by decide)
    have dlp : d ≠ lp := ne_of hD.ins hD.lp (by intro z; cases z)
    have hH1 : ∃ H1 : Hp, H1 = upd H lp (.lst (ps.map V.ref ++ [.ref p])) := ⟨_, rfl⟩
    obtain ⟨H1, hH1⟩ := hH1
    have kN : Keep N H H1 := fun b o nb e => by rw [hH1, upd_ne (show b ≠ lp from fun z => hD.nlp (z ▸ nb))]; exact e
    have k1 : ∀ b o, b ≠ lp → H b = some o → H1 b = some o := fun b o hb e => by rw [hH1, upd_ne hb]; exact e
    have g1d := k1 _ _ dlp hD.ins
    have g1p : H1 lp = some (.lst (ps.map V.ref ++ [.ref p])) := by rw [hH1]; exact upd_same
    rw [← hH1]
    refine ⟨_, rfl, d, _, dx, _, _, rfl, g1d, T.C_Dispute, T.a_Dispute_counted, rfl, lc, rfl, ⟨_, SqL.of (kN _ _ hD.nlc hD.lc)⟩, fun D nD => ?_⟩
    have dD : D ≠ d := fun e => by rw [e, g1d] at nD; cases nD
    have dDp : D ≠ lp := fun e => by rw [e, g1p] at nD; cases nD
    have nDH : H D = Option.none := by
      cases e : H D with
      | none => rfl
      | some o => rw [k1 _ _ dDp e] at nD; cases nD
    have hcl : cs.length = s.n := by rw [Paired.length hD.cs, List.length_range]
    refine lc_list (K := K) (a := lc) (xs := cs.map V.ref) (fun i H' => Same H1 H' ∧ ∃ qs : List Addr, H' D = some (.lst (qs.map V.ref)) ∧ Paired (fun a c => CountedAt A (fun b => N b ∧ b ≠ D) H' a c s.bar (weighN s.bar c (countN s c) (s.pieces.length, x))) qs ((List.range s.n).take i)) ⟨same_new nD, [], upd_same, .nil⟩ (fun i H' _ ⟨s2, _⟩ => SqL.of (s2 _ _ (kN _ _ hD.nlc hD.lc))) ?_ ?_
    · rintro i v H' hv ⟨s2, qs, gD, hq⟩
      rw [List.getElem?_map] at hv
      cases ei : cs[i]? with
      | none => rw [ei] at hv; cases hv
      | some a =>
        rw [ei] at hv
        cases hv
        obtain ⟨c, hc, hC0⟩ := Paired.getR hD.cs ei
        have hi : i < s.n := by rw [← hcl]; exact (List.getElem?_eq_some_iff.mp ei).1
        have ec : i = c := by
          rw [List.getElem?_range hi] at hc
          exact Option.some.inj hc
        subst ec
        have hw : ∀ b, N b → H1 b ≠ Option.none → (N b ∧ b ≠ D) := fun b nb hb => ⟨nb, fun z => hb (z ▸ nD)⟩
        have hC1 : CountedAt A (fun b => N b ∧ b ≠ D) H' a i s.bar (countN s i) := ((hC0.keep kN).renew hw).keep (Keep.of s2)
        have hP1 : PieceAt A (fun b => N b ∧ b ≠ D) H' p (s.pieces.length, x) := ((hP.keep kN).renew hw).keep (Keep.of s2)
        have hN1 : ∀ b, H' b = Option.none → (N b ∧ b ≠ D) := fun b hb => by
          refine ⟨?_, fun z => by rw [z, gD] at hb; cases hb⟩
          by_cases z : b = lp
          · rw [z, s2 _ _ g1p] at hb; cases hb
          · refine hN b ?_
            cases e : H b with
            | none => rfl
            | some o => rw [s2 _ _ (k1 _ _ z e)] at hb; cases hb
        obtain ⟨da, lpa, lsa, psa, hCi⟩ := id hC1
        have hlen : (countN s i).length < 24 := Nat.lt_of_le_of_lt (countN_length s i) h24
        refine ⟨rfl, yesT ?_⟩
        refine ⟨_, rfl, a, da, _, rfl, hCi.ins, rfl, _, rfl, a, p, i, s.bar, _, (s.pieces.length, x), _, rfl, hC1, hP1, wf, hlen, hN1, fun H4 q s4 hC4 => ?_⟩
        refine ⟨_, s4 _ _ gD, ?_, fun b o e => ?_, qs ++ [q], ?_, ?_⟩
        · rw [List.length_map, Paired.length hq, List.length_take, List.length_range]
          exact Nat.lt_of_le_of_lt (Nat.min_le_right _ _) (Nat.lt_of_le_of_lt hD.ok.inv.n6 (by decide))
        · rw [upd_ne (ne_of_none e nD)]
          exact s4 _ _ (s2 _ _ e)
        · rw [upd_same, List.map_append]
          rfl
        · have kp : Keep (fun b => N b ∧ b ≠ D) H4 (upd H4 D (.lst (qs.map V.ref ++ [.ref q]))) := fun b o nb e => by rw [upd_ne nb.2]; exact e
          rw [take_range_snoc hi]
          exact Paired.snoc (Paired.mapP hq fun a c h => (h.keep (Keep.of s4)).keep kp) (hC4.keep kp)
    · rintro H3 ⟨s3, qs, gD, hq⟩
      rw [List.length_map, hcl, List.take_of_length_le (by simp)] at hq
      refine ⟨_, rfl, d, _, dx, _, rfl, s3 _ _ g1d, T.C_Dispute, T.a_Dispute_counted, (by show 14 < 1000; decide), ?_⟩
      have up : ∀ b o, b ≠ d → H3 b = some o → upd H3 d (.ins A.c_Dispute dx (dispF (more s x) sk lp D lt lr la)) b = some o := fun b o hb e => by rw [upd_ne hb]; exact e
      have nN : ∀ b, N b → b ≠ d := fun b nb z => hD.nd (z ▸ nb)
      have kf : Keep N H (upd H3 d (.ins A.c_Dispute dx (dispF (more s x) sk lp D lt lr la))) := fun b o nb e => up b o (nN b nb) (s3 _ _ (kN b o nb e))
      have dlp2 : ∀ b, ¬ M b → b ≠ lp := fun b nb z => nb (z ▸ hD.mlp)
      have dd2 : ∀ b, ¬ M b → b ≠ d := fun b nb z => nb (z ▸ hD.md)
      refine k _ N M ⟨fun b o nb e => up b o (dd2 b nb) (s3 _ _ (k1 b o (dlp2 b nb) e)), fun b hb => ?_, fun b _ => Iff.rfl, fun b hb => ?_, fun b nb _ => nb, ⟨dx, lp, D, lt, lr, la, sk, ps ++ [p], qs, ts, as, ?_⟩⟩
      · obtain ⟨hbd, hb3⟩ := upd_none hb
        cases e : H b with
        | none => rfl
        | some o =>
          by_cases z : b = lp
          · rw [z, s3 _ _ g1p] at hb3; cases hb3
          · rw [s3 _ _ (k1 _ _ z e)] at hb3; cases hb3
      · obtain ⟨hbd, hb3⟩ := upd_none hb
        refine hN b ?_
        cases e : H b with
        | none => rfl
        | some o =>
          by_cases z : b = lp
          · rw [z, s3 _ _ g1p] at hb3; cases hb3
          · rw [s3 _ _ (k1 _ _ z e)] at hb3; cases hb3
      · have dlr : lr ≠ d := ne_of hD.lr hD.ins (by intro z; cases z)
        have dla : la ≠ d := ne_of hD.la hD.ins (by intro z; cases z)
        refine ⟨hD.md, hD.mlp, hD.mlr, hD.mla, hD.nm, hN D nDH, hD.plr, hD.pla, hD.rla, upd_same, ?_, up _ _ dD gD, up _ _ dlr (s3 _ _ (k1 _ _ hD.plr.symm hD.lr)), up _ _ dla (s3 _ _ (k1 _ _ hD.pla.symm hD.la)), ?_, ?_, ?_, ?_, reach_more hD.ok hlate h24 wf⟩
        · rw [List.map_append]
          exact up _ _ dlp.symm (s3 _ _ g1p)
        · show Paired _ (ps ++ [p]) (numb 0 (s.pieces ++ [x]))
          rw [numb_append, Nat.zero_add]
          exact Paired.snoc (Paired.mapP hD.ps fun a c h => h.keep kf) (hP.keep kf)
        · refine Paired.mapP hq fun a c h => ?_
          rw [countN_more hD.ok.inv hlate h24]
          have h2 := h.keep (H' := upd H3 d (.ins A.c_Dispute dx (dispF (more s x) sk lp D lt lr la))) fun b o nb e => up b o (nN b nb.1) e
          exact h2.renew fun b nb _ => nb.1
        · exact Paired.mapP hD.as fun a q h => ⟨h.1, kf _ _ h.1 h.2⟩
        · have hS := hD.st.keep kf
          exact ⟨hS.nlt, hS.lt, Paired.mapP hS.ts fun a c q => (by rw [setN_more hS.so]; exact q), hS.so.more hlate⟩

def sp_Dispute_decide (A : Adr) : Sp := fun vs H Q _ => ∃ (d : Addr) (s : Vbptam.State) (N M : Addr → Prop), vs = [.ref d] ∧ DispAt A N M H d s ∧ s.phase = 1 ∧ s.limit < s.day ∧ (∀ b, H b = Option.none → N b) ∧ After A N M H d (decided s (Vbptam.granted s).1 (Vbptam.granted s).2) (fun H' => Q .non H')
theorem granted_lt {s : Vbptam.State} (h : Reach s) : (Vbptam.granted s).1 < 64 := by
  rw [granted_eq]
  by_cases hl : findReq (Vbptam.alive s) s.requests < s.requests.length
  · simp only [hl, if_true]
    rw [List.getD_eq_getElem?_getD, List.getElem?_eq_getElem hl]
    exact h.rq _ (List.getElem_mem hl)
  · simp only [hl, if_false]
    decide
theorem Paired.memR {α β : Type} {G : α → β → Prop} {xs : List α} {ys : List β} (h : Paired G xs ys) : Paired (fun a b => b ∈ ys ∧ G a b) xs ys := by
  induction h with
  | nil => exact .nil
  | cons h1 _ ih => exact .cons ⟨List.mem_cons_self .., h1⟩ (Paired.mapP ih fun _ _ q => ⟨List.mem_cons_of_mem _ q.1, q.2⟩)
theorem DispIn.stored {N M : Addr → Prop} {H H1 : Hp} {d dx lp lc lt lt' lr la : Addr} {sk sk' : Nat} {ps cs ts ts' as : List Addr} {s s' : Vbptam.State} (hD : DispIn A N M H d dx lp lc lt lr la sk ps cs ts as s) (s1 : Same H H1) (hN : ∀ b, H b = Option.none → N b)
    (e1 : s'.pieces = s.pieces) (e2 : s'.requests = s.requests) (e3 : s'.appeals = s.appeals) (e4 : s'.n = s.n) (e5 : s'.bar = s.bar) (e6 : ∀ c, c < s.n → countN s' c = countN s c) (hS : SetIn A N H lt' sk' ts' s') (ok : Reach s') {R : Hp → Prop} (k : After A N M H d s' R) :
    R (upd H1 d (.ins A.c_Dispute dx (dispF s' sk' lp lc lt' lr la))) := by
  have up : ∀ b o, b ≠ d → H b = some o → upd H1 d (.ins A.c_Dispute dx (dispF s' sk' lp lc lt' lr la)) b = some o := fun b o hb e => by rw [upd_ne hb]; exact s1 _ _ e
  have nN : ∀ b, N b → b ≠ d := fun b nb z => hD.nd (z ▸ nb)
  have kf : Keep N H (upd H1 d (.ins A.c_Dispute dx (dispF s' sk' lp lc lt' lr la))) := fun b o nb e => up b o (nN b nb) e
  have dom : ∀ b, upd H1 d (.ins A.c_Dispute dx (dispF s' sk' lp lc lt' lr la)) b = Option.none → H b = Option.none := fun b hb => s1.free (upd_none hb).2
  refine k _ N M ⟨fun b o nb e => up b o (fun z => nb (z ▸ hD.md)) e, dom, fun b _ => Iff.rfl, fun b hb => hN b (dom b hb), fun b nb _ => nb, ⟨dx, lp, lc, lt', lr, la, sk', ps, cs, ts', as, ?_⟩⟩
  refine ⟨hD.md, hD.mlp, hD.mlr, hD.mla, hD.nm, hD.nlc, hD.plr, hD.pla, hD.rla, upd_same, up _ _ (ne_of hD.lp hD.ins (by intro z; cases z)) hD.lp, up _ _ (ne_of hD.lc hD.ins (by intro z; cases z)) hD.lc, ?_, up _ _ (ne_of hD.la hD.ins (by intro z; cases z)) hD.la, ?_, ?_, ?_, hS.keep kf, ok⟩
  · rw [e2]
    exact up _ _ (ne_of hD.lr hD.ins (by intro z; cases z)) hD.lr
  · rw [e1]
    exact Paired.mapP hD.ps fun _ _ q => q.keep kf
  · rw [e4, e5]
    exact Paired.mapP (Paired.memR hD.cs) fun a c q => by rw [e6 c (List.mem_range.mp q.1)]; exact q.2.keep kf
  · rw [e3]
    exact Paired.mapP hD.as fun _ _ q => ⟨q.1, kf _ _ q.1 q.2⟩
theorem ok_Dispute_decide (T : Txt K mg A) : FnOk P w K mg base CX0 8 A.f_Dispute_decide A.fd_Dispute_decide ["self"] (sp_Dispute_decide A) := by
  refine T.F_Dispute_decide.ok sc_Dispute_decide (fun vs H Q E h => ?_) (fun cdv Ar outer sh H vs Q E hr h => ?_)
  · obtain ⟨d, s, N, M, rfl, _⟩ := h
    rfl
  · obtain ⟨d, s, N, M, rfl, hD0, hp1, hday, hN, k⟩ := h
    obtain ⟨dx, lp, lc, lt, lr, la, sk, ps, cs, ts, as, hD⟩ := id hD0
    have hpn : (ps.map V.ref).length = s.pieces.length := by rw [List.length_map, Paired.length hD.ps, numb_length]
    refine ⟨_, (pss_cons (ps_set (i := 1) sc_Dispute_decide.nd rfl (Or.inl rfl) (pe_meth0 (pv 0) T.C_Dispute T.M_Dispute_granted (ok_Dispute_granted T) (hr.mono (by decide)) (b_Dispute_granted T) .nil pass0))
      (pss_cons (ps_fld (pv 0) (pe_ix ix_tup (pv 1) pe_int (fun _ _ => rfl)) rfl)
      (pss_cons (ps_fld (pv 0) (pe_ix ix_tup (pv 1) pe_int (fun _ _ => rfl)) rfl)
      (pss_cons (ps_fld (pv 0) (pe_fld (pv 0) rfl) rfl)
      (pss_cons (ps_fld (pv 0) (pe_callB call_len_seq rfl T.n_len PySem.boot_len (pa_cons (pe_fld (pv 0) rfl) pa_nil)) rfl)
      (pss_cons (ps_fld (pv 0) (pe_fld (pv 0) rfl) rfl)
      (pss_one (ps_fld (pv 0) (pe_gint rfl T.g_DECIDED) rfl)))))))), ?_⟩
    refine ⟨_, rfl, d, dx, _, rfl, hD.ins, rfl, d, s, N, M, rfl, hD0, fun H1 t s1 nt gt => ?_⟩
    have td : t ≠ d := fun e => by rw [e, hD.ins] at nt; cases nt
    have dlp : lp ≠ d := ne_of hD.lp hD.ins (by intro z; cases z)
    refine ⟨_, rfl, t, _, _, _, rfl, rfl, SqT.of gt, rfl, _, rfl, d, _, dx, _, rfl, s1 _ _ hD.ins, T.C_Dispute, T.a_Dispute_kept, (by show 14 < 1000; decide), ?_⟩
    refine ⟨_, rfl, t, _, _, _, rfl, rfl, SqT.of (by rw [upd_ne td]; exact gt), rfl, _, rfl, d, _, dx, _, rfl, upd_same, T.C_Dispute, T.a_Dispute_kept_request, (by show 14 < 1000; decide), ?_⟩
    refine ⟨_, rfl, d, _, dx, _, _, rfl, upd_same, T.C_Dispute, T.a_Dispute_counted, rfl, _, rfl, d, _, dx, _, rfl, upd_same, T.C_Dispute, T.a_Dispute_settled, (by show 14 < 1000; decide), ?_⟩
    rw [upd_upd, upd_upd]
    refine ⟨_, rfl, d, _, dx, _, _, rfl, upd_same, T.C_Dispute, T.a_Dispute_pieces, rfl, lp, _, rfl, .inl (SqL.of (by rw [upd_ne dlp]; exact s1 _ _ hD.lp)), _, rfl, d, _, dx, _, rfl, upd_same, T.C_Dispute, T.a_Dispute_settled_pieces, (by show 14 < 1000; decide), ?_⟩
    rw [hpn]
    refine ⟨_, rfl, d, _, dx, _, _, rfl, upd_same, T.C_Dispute, T.a_Dispute_day, rfl, _, rfl, d, _, dx, _, rfl, upd_same, T.C_Dispute, T.a_Dispute_decision_day, (by show 14 < 1000; decide), ?_⟩
    refine ⟨_, rfl, d, _, dx, _, rfl, upd_same, T.C_Dispute, T.a_Dispute_phase, (by show 14 < 1000; decide), ?_⟩
    rw [upd_upd, upd_upd, upd_upd]
    have e6 : ∀ c, c < s.n → countN (decided s (Vbptam.granted s).1 (Vbptam.granted s).2) c = countN s c := fun c hc => countN_decided hD.ok.inv hc
    have okd := reach_decided (f := (Vbptam.granted s).2) hD.ok hday (granted_lt hD.ok)
    have hS : SetIn A N H lc s.pieces.length cs (decided s (Vbptam.granted s).1 (Vbptam.granted s).2) :=
      ⟨hD.nlc, hD.lc, Paired.mapP (Paired.memR hD.cs) fun a c q => (by rw [setN_decided (s := s) (List.mem_range.mp q.1)]; exact q.2), SetOk.decided hD.ok.inv _ _⟩
    exact hD.stored s1 hN (s' := decided s (Vbptam.granted s).1 (Vbptam.granted s).2) rfl rfl rfl rfl rfl e6 hS okd k

def sp_Dispute_fix_outcome (A : Adr) : Sp := fun vs H Q _ => ∃ (d : Addr) (s : Vbptam.State) (N M : Addr → Prop), vs = [.ref d] ∧ DispAt A N M H d s ∧ s.phase = 2 ∧ (∀ b, H b = Option.none → N b) ∧ After A N M H d (closed s) (fun H' => Q .non H')
theorem ok_Dispute_fix_outcome (T : Txt K mg A) : FnOk P w K mg base CX0 8 A.f_Dispute_fix_outcome A.fd_Dispute_fix_outcome ["self"] (sp_Dispute_fix_outcome A) := by
  refine T.F_Dispute_fix_outcome.ok sc_Dispute_fix_outcome (fun vs H Q E h => ?_) (fun cdv Ar outer sh H vs Q E hr h => ?_)
  · obtain ⟨d, s, N, M, rfl, _⟩ := h
    rfl
  · obtain ⟨d, s, N, M, rfl, hD0, hp2, hN, k⟩ := h
    obtain ⟨dx, lp, lc, lt, lr, la, sk, ps, cs, ts, as, hD⟩ := id hD0
    refine ⟨_, (pss_cons (ps_fld (pv 0) (pe_meth0 (pv 0) T.C_Dispute T.M_Dispute_outcome_now (ok_Dispute_outcome_now T) (hr.mono (by decide)) (b_Dispute_outcome_now T) .nil pass0) rfl)
      (pss_one (ps_fld (pv 0) (pe_gint rfl T.g_OVER) rfl))), ?_⟩
    refine ⟨_, rfl, d, dx, _, rfl, hD.ins, rfl, d, s, N, M, rfl, hD0, fun H1 s1 => ?_⟩
    refine ⟨_, rfl, d, _, dx, _, rfl, s1 _ _ hD.ins, T.C_Dispute, T.a_Dispute_outcome, (by show 14 < 1000; decide), ?_⟩
    refine ⟨_, rfl, d, _, dx, _, rfl, upd_same, T.C_Dispute, T.a_Dispute_phase, (by show 14 < 1000; decide), ?_⟩
    rw [upd_upd]
    exact hD.stored s1 hN (s' := closed s) rfl rfl rfl rfl rfl (fun c _ => countN_closed hp2 c) (hD.st.state (⟨fun z => absurd (show 3 ≤ 1 from z) (by decide), fun z => absurd z (by omega)⟩) rfl rfl rfl rfl) (reach_closed hD.ok hp2) k
end
end Op


set_option Elab.async false
set_option linter.all false
set_option maxRecDepth 100000
set_option maxHeartbeats 4000000
namespace Op
open PySem PySem.Spec PyProof.Rows L2
theorem cut_from (xs : List V) (k : Nat) : cutV xs (some (k : Int)) none = xs.drop k := by
  unfold cutV
  rw [HT.sIx_nat, HT.sIx_none]
  by_cases h : k ≤ xs.length
  · rw [Nat.min_eq_left h, List.take_of_length_le (by rw [List.length_drop]; omega)]
  · rw [Nat.min_eq_right (by omega), List.drop_length, List.drop_of_length_le (by omega), List.take_nil]
theorem Paired.drop {α β : Type} {G : α → β → Prop} {l₁ : List α} {l₂ : List β} (h : Paired G l₁ l₂) : ∀ n : Nat, Paired G (l₁.drop n) (l₂.drop n) := by
  induction h with
  | nil => intro n; rw [List.drop_nil, List.drop_nil]; exact .nil
  | cons h1 h2 ih =>
    intro n
    cases n with
    | zero => exact .cons h1 h2
    | succ n => exact ih n
theorem mem_numb {k : Nat} {l : List Vbptam.Piece} {y : NP} (h : y ∈ numb k l) : y.2 ∈ l := by
  have : y.2 ∈ snds (numb k l) := List.mem_map.mpr ⟨y, h, rfl⟩
  rw [numb_snds] at this
  exact this
theorem without_left {s : Vbptam.State} {k i : Nat} (I : SInv s) (O : SetOk s k) (hi : i < s.pieces.length) : Vbptam.maskOf ((List.range s.n).filter fun c => Vbptam.stands s.bar (snds (leftN s k i c)) c) = Vbptam.without s i := by
  rw [without_alive]
  unfold Vbptam.alive
  show _ = Vbptam.maskOf ((List.range s.n).filter fun c => Vbptam.stands s.bar (Vbptam.counting (lessI s i) c) c)
  congr 1
  apply List.filter_congr
  intro c hc
  rw [left_eq I O hi (List.mem_range.mp hc)]
section
variable {P : Program} {w : World} {K : PySem.W.Frag} {mg : Str → Option Value} {base : Heap} {A : Adr}
def sp_Dispute_standing_without (A : Adr) : Sp := fun vs H Q _ => ∃ (d : Addr) (i : Nat) (s : Vbptam.State) (N M : Addr → Prop), vs = [.ref d, .int i] ∧ DispAt A N M H d s ∧ i < s.pieces.length ∧ (∀ b, H b = Option.none → N b) ∧
  ∀ H', Same H H' → Q (.int (Vbptam.without s i : Nat)) H'
theorem ok_Dispute_standing_without (T : Txt K mg A) : FnOk P w K mg base CX0 7 A.f_Dispute_standing_without A.fd_Dispute_standing_without ["self", "number"] (sp_Dispute_standing_without A) := by
  refine T.F_Dispute_standing_without.ok sc_Dispute_standing_without (fun vs H Q E h => ?_) (fun cdv Ar outer sh H vs Q E hr h => ?_)
  · obtain ⟨d, i, s, N, M, rfl, _⟩ := h
    rfl
  · obtain ⟨d, i, s, N, M, rfl, hD0, hi, hN, k⟩ := h
    obtain ⟨dx, lp, lc, lt, lr, la, sk, ps, cs, ts, as, hD⟩ := id hD0
    have hpl : ps.length = s.pieces.length := by rw [Paired.length hD.ps, numb_length]
    refine ⟨_, (pss_cons (ps_set (i := 3) sc_Dispute_standing_without.nd rfl (Or.inr rfl) (pe_lc (own := [("piece", 2)]) rfl sc_Dispute_standing_without.nd (pi_list (pe_slice sl_list (pe_fld (pv 0) rfl) (po_some (pe_fld (pv 0) rfl)) po_none)) (blkOk_by (by kernel_rfl)) (fun _ _ _ _ _ => (pg_name (i := 2) sc_Dispute_standing_without.nd rfl (Or.inl rfl))) (fun _ _ _ _ _ => (pts_one (pt_cmpR op_ne (pe_fldK (K := K) rfl (pv 2) rfl) (pv 1) (nomark _)))) (fun _ _ _ _ _ => (pv 2))))
      (pss_one (ps_ret (pe_call (ok_claims_that_stand T) (hr.mono (by decide)) rfl T.m_claims_that_stand T.F_claims_that_stand.kp (b_claims_that_stand T) .nil pass0 (pa_cons (pe_lc (own := [("settled", 4)]) rfl sc_Dispute_standing_without.nd (pi_list (pe_fld (pv 0) rfl)) (blkOk_by (by kernel_rfl)) (fun _ _ _ _ _ => (pg_name (i := 4) sc_Dispute_standing_without.nd rfl (Or.inl rfl))) (fun _ _ _ _ _ => pts_nil) (fun _ _ _ _ _ => (pe_call (ok_weighed_on T) (hr.mono (by decide)) rfl T.m_weighed_on T.F_weighed_on.kp (b_weighed_on T) .nil pass0 (pa_cons (pe_meth (pv 4) T.C_Counted T.M_Counted_less (ok_Counted_less T) (hr.mono (by decide)) (b_Counted_less T) .nil pass0 (pa_cons (pv 1) pa_nil)) (pa_cons (pv 3) pa_nil))))) pa_nil))))), ?_⟩
    refine ⟨_, rfl, d, _, dx, _, _, rfl, hD.ins, T.C_Dispute, T.a_Dispute_pieces, rfl, _, rfl, d, _, dx, _, _, rfl, hD.ins, T.C_Dispute, T.a_Dispute_settled_pieces, rfl, _, rfl, lp, _, rfl, SqL.of hD.lp, fun q0 n0 => ?_⟩
    have s0 := same_new (o := .lst (cutV (ps.map V.ref) (some (sk : Int)) none)) n0
    have g0 : upd H q0 (.lst (cutV (ps.map V.ref) (some (sk : Int)) none)) q0 = some (.lst ((ps.drop sk).map V.ref)) := by rw [upd_same, cut_from, List.map_drop]
    generalize upd H q0 (.lst (cutV (ps.map V.ref) (some (sk : Int)) none)) = H0 at s0 g0
    refine ⟨q0, rfl, ⟨_, SqL.of g0⟩, fun D nD => ?_⟩
    have hPd := Paired.drop hD.ps sk
    have hpd : ((ps.drop sk).map V.ref).length = ((numb 0 s.pieces).drop sk).length := by rw [List.length_map, Paired.length hPd]
    refine lc_list (K := K) (a := q0) (xs := (ps.drop sk).map V.ref) (fun j H' => Same H0 H' ∧ ∃ xs : List Addr, H' D = some (.lst (xs.map V.ref)) ∧ Paired (PieceAt A N H) xs ((((numb 0 s.pieces).drop sk).take j).filter (notI i))) ⟨same_new nD, [], upd_same, .nil⟩ (fun j H' _ ⟨s1, _⟩ => SqL.of (s1 _ _ g0)) ?_ ?_
    · rintro j v H' hv ⟨s1, xs, gD, hP⟩
      have s01 := s0.trans s1
      rw [List.getElem?_map] at hv
      cases ei : (ps.drop sk)[j]? with
      | none => rw [ei] at hv; cases hv
      | some p =>
        rw [ei] at hv
        cases hv
        obtain ⟨x, hx, hp⟩ := Paired.getR hPd ei
        obtain ⟨dp, f, wl, _, h1, h2, h3⟩ := id hp
        have e1 : ((numb 0 s.pieces).drop sk).take (j + 1) = ((numb 0 s.pieces).drop sk).take j ++ [x] := by rw [List.take_add_one, hx]; rfl
        refine ⟨rfl, _, rfl, p, _, dp, _, _, rfl, s01 _ _ h1, T.C_Piece, T.a_Piece_number, rfl, _, rfl, rfl, _, rfl, ?_⟩
        rw [decI]
        by_cases hi : x.1 = i
        · refine (if_neg (by simp [hi])).mpr ⟨s1, xs, gD, ?_⟩
          rw [e1, List.filter_append, List.filter_cons, if_neg (by simp [notI, hi]), List.filter_nil, List.append_nil]
          exact hP
        · refine (if_pos (by simp; omega)).mpr ?_
          refine ⟨_, rfl, _, gD, ?_, fun b o e => ?_, xs ++ [p], ?_, ?_⟩
          · rw [List.length_map, Paired.length hP]
            refine Nat.lt_of_le_of_lt (List.length_filter_le _ _) ?_
            rw [List.length_take, List.length_drop, numb_length]
            have := hD.ok.inv.pl
            exact Nat.lt_of_le_of_lt (Nat.le_trans (Nat.min_le_right _ _) (Nat.le_trans (Nat.sub_le _ _) this)) (by decide)
          · rw [upd_ne (ne_of_none e nD)]
            exact s1 _ _ e
          · rw [upd_same, List.map_append]
            rfl
          · rw [e1, List.filter_append, List.filter_cons, if_pos (by simp [notI, hi]), List.filter_nil]
            exact Paired.snoc hP hp
    · rintro H2 ⟨s1, xs, gD, hP⟩
      have s02 := s0.trans s1
      rw [hpd, List.take_length] at hP
      have hD2 := hD.same s02
      have hS := hD2.st
      refine ⟨_, rfl, d, _, dx, _, _, rfl, hD2.ins, T.C_Dispute, T.a_Dispute_settled, rfl, lt, rfl, ⟨_, SqL.of hS.lt⟩, fun E2 nE => ?_⟩
      have htl : ts.length = s.n := by rw [Paired.length hS.ts, List.length_range]
      have hw : ∀ b, N b → H2 b ≠ Option.none → (N b ∧ b ≠ E2) := fun b nb hb => ⟨nb, fun z => hb (z ▸ nE)⟩
      refine lc_list (K := K) (a := lt) (xs := ts.map V.ref) (fun j H' => Same H2 H' ∧ ∃ qs : List Addr, H' E2 = some (.lst (qs.map V.ref)) ∧ Paired (fun a c => CountedAt A (fun b => N b ∧ b ≠ E2) H' a c s.bar (leftN s sk i c)) qs ((List.range s.n).take j)) ⟨same_new nE, [], upd_same, .nil⟩ (fun j H' _ ⟨s3, _⟩ => SqL.of (s3 _ _ hS.lt)) ?_ ?_
      · rintro j v H' hv ⟨s3, qs, gE, hq⟩
        rw [List.getElem?_map] at hv
        cases ei : ts[j]? with
        | none => rw [ei] at hv; cases hv
        | some a =>
          rw [ei] at hv
          cases hv
          obtain ⟨c, hc, hC0⟩ := Paired.getR hS.ts ei
          have hj : j < s.n := by rw [← htl]; exact (List.getElem?_eq_some_iff.mp ei).1
          have ec : j = c := by
            rw [List.getElem?_range hj] at hc
            exact Option.some.inj hc
          subst ec
          have hC1 : CountedAt A (fun b => N b ∧ b ≠ E2) H' a j s.bar (setN s sk j) := (hC0.renew hw).keep (Keep.of s3)
          have hN1 : ∀ b, H' b = Option.none → (N b ∧ b ≠ E2) := fun b hb => ⟨hN b (s02.free (s3.free hb)), fun z => by rw [z, gE] at hb; cases hb⟩
          obtain ⟨da, lpa, lsa, psa, hCi⟩ := id hC1
          refine ⟨rfl, yesT ?_⟩
          refine ⟨_, rfl, a, da, _, rfl, hCi.ins, rfl, _, rfl, a, i, j, s.bar, _, _, rfl, hC1, hN1, fun H4 q s4 hC4 => ?_⟩
          have hP4 : Paired (PieceAt A (fun b => N b ∧ b ≠ E2) H4) xs (((numb 0 s.pieces).drop sk).filter (notI i)) := Paired.mapP hP fun p x h => ((h.keep (Keep.of s02)).renew hw).keep (Keep.of (s3.trans s4))
          have wf4 : ∀ y ∈ ((numb 0 s.pieces).drop sk).filter (notI i), WfW y.2.what := fun y hy => hD.ok.wf _ (mem_numb (List.mem_of_mem_drop (List.mem_filter.mp hy).1))
          have len4 := leftN_length (i := i) (c := j) hS.so.le
          refine ⟨_, rfl, q, D, j, s.bar, _, _, xs, _, rfl, hC4, s4 _ _ (s3 _ _ gD), hP4, wf4, Nat.le_trans len4 hD.ok.inv.pl, fun b hb => hN1 b (s4.free hb), fun H5 q5 s5 hC5 => ?_⟩
          refine ⟨_, s5 _ _ (s4 _ _ gE), ?_, fun b o e => ?_, qs ++ [q5], ?_, ?_⟩
          · rw [List.length_map, Paired.length hq, List.length_take, List.length_range]
            exact Nat.lt_of_le_of_lt (Nat.min_le_right _ _) (Nat.lt_of_le_of_lt hD.ok.inv.n6 (by decide))
          · rw [upd_ne (ne_of_none e nE)]
            exact s5 _ _ (s4 _ _ (s3 _ _ e))
          · rw [upd_same, List.map_append]
            rfl
          · have kp : Keep (fun b => N b ∧ b ≠ E2) H5 (upd H5 E2 (.lst (qs.map V.ref ++ [.ref q5]))) := fun b o nb e => by rw [upd_ne nb.2]; exact e
            rw [take_range_snoc hj]
            exact Paired.snoc (Paired.mapP hq fun a c h => (h.keep (Keep.of (s4.trans s5))).keep kp) (hC5.keep kp)
      · rintro H3 ⟨s3, qs, gE, hq⟩
        rw [List.length_map, htl, List.take_of_length_le (by simp)] at hq
        refine ⟨E2, qs, s.n, s.bar, leftN s sk i, _, rfl, gE, hD.ok.inv.n6, hq, fun H' s' => ?_⟩
        rw [without_left hD.ok.inv hS.so hi]
        exact k H' ((s02.trans s3).trans s')
end
end Op


set_option Elab.async false
set_option linter.all false
set_option maxRecDepth 100000
set_option maxHeartbeats 4000000
namespace Op
open PySem PySem.Spec PyProof.Rows L2
abbrev nv (l : List Nat) : List V := l.map fun (n : Nat) => V.int n
theorem factsV_N (x : Vbptam.What) : factsV x = nv (factsN x) := by
  cases x with
  | attack c fs => rfl
  | proof w => simp [factsV, factsN, nv, List.map_map, Function.comp_def]
theorem factsN_len {x : Vbptam.What} (wf : WfW x) : (factsN x).length ≤ 10 := by
  cases x with
  | attack c fs => exact Nat.le_trans wf.2.1 (by decide)
  | proof w => show (w.map _).length ≤ 10; rw [List.length_map]; exact wf.2
theorem flat_nats : ∀ r : List Nat, (nv r).all flatV = true
  | [] => rfl
  | _ :: r => flat_nats r
theorem inV_nats (n : Nat) : ∀ r : List Nat, inV (.int n) (nv r) = r.contains n
  | [] => rfl
  | a :: r => by
    have ih := inV_nats n r
    show (((a : Int) == (n : Int)) || inV (.int n) (nv r)) = _
    rw [ih, List.contains_cons]
    congr 1
    rw [Bool.eq_iff_iff]
    simp
    omega
theorem Paired.app {α β : Type} {G : α → β → Prop} {l₁ m₁ : List α} {l₂ m₂ : List β} (h : Paired G l₁ l₂) (g : Paired G m₁ m₂) : Paired G (l₁ ++ m₁) (l₂ ++ m₂) := by
  induction h with
  | nil => exact g
  | cons h1 _ ih => exact .cons h1 ih
section
variable {P : Program} {w : World} {K : PySem.W.Frag} {mg : Str → Option Value} {base : Heap} {A : Adr}
def sp_has_one_of_each (A : Adr) : Sp := fun vs H Q _ => ∃ (lf la : Addr) (r : List Nat) (ys : List NP) (as : List Addr) (N : Addr → Prop), vs = [.ref lf, .ref la] ∧ H lf = some (.lst (nv r)) ∧ H la = some (.lst (as.map V.ref)) ∧ Paired (PieceAt A N H) as ys ∧ (∀ y ∈ ys, WfW y.2.what) ∧
  ∀ H', Same H H' → Q (.bl (hits (ys.map fun y => factsN y.2.what) r)) H'
theorem ok_has_one_of_each (T : Txt K mg A) : FnOk P w K mg base CX0 1 A.f_has_one_of_each A.fd_has_one_of_each ["facts", "attacks"] (sp_has_one_of_each A) := by
  refine T.F_has_one_of_each.ok sc_has_one_of_each (fun vs H Q E h => ?_) (fun cdv Ar outer sh H vs Q E hr h => ?_)
  · obtain ⟨lf, la, r, ys, as, N, rfl, _⟩ := h
    rfl
  · obtain ⟨lf, la, r, ys, as, N, rfl, hlf, hla, hP, wf, k⟩ := h
    refine ⟨_, (pss_cons (ps_for PassesOwn.never rfl (pi_list (pv 1)) (pg_name (i := 2) sc_has_one_of_each.nd rfl (Or.inl rfl)) (pss_one (ps_if (pt_not (pt_truth (pe_callB (cr_any rfl) rfl T.n_any boot_any (pa_cons (pe_lc (own := [("fact", 3)]) rfl sc_has_one_of_each.nd (pi_list (pe_fld (pv 2) rfl)) (blkOk_by (by kernel_rfl)) (fun _ _ _ _ _ => (pg_name (i := 3) sc_has_one_of_each.nd rfl (Or.inl rfl))) (fun _ _ _ _ _ => pts_nil) (fun _ _ _ _ _ => (pe_cmpR (in_seqK (K := K) rfl) (pv 3) (pv 0) (by with_unfolding_all rfl)))) pa_nil)) (fun _ => rfl))) (pss_one (ps_ret pe_bl)) pss_nil)))
      (pss_one (ps_ret pe_bl))), ?_⟩
    refine ⟨_, rfl, la, rfl, ⟨_, SqL.of hla⟩, ?_⟩
    refine for_list (K := K) (xs := as.map V.ref) (fun i σ H' => ∃ v2 v3 : Option V, σ = [some (.ref lf), some (.ref la), v2, v3] ∧ Same H H' ∧ ∀ y ∈ ys.take i, ((factsN y.2.what).any fun f => r.contains f) = true) ⟨none, none, rfl, Same.refl H, fun y hy => by simp at hy⟩ (fun i σ H' _ ⟨_, _, _, s1, _⟩ => SqL.of (s1 _ _ hla)) ?_ ?_
    · rintro i v σ H' hv ⟨v2, v3, rfl, s1, hall⟩
      rw [List.getElem?_map] at hv
      cases ei : as[i]? with
      | none => rw [ei] at hv; cases hv
      | some p =>
        rw [ei] at hv
        cases hv
        obtain ⟨y, hy, hp⟩ := Paired.getR hP ei
        obtain ⟨dp, f, wl, _, h1, h2, h3⟩ := hp.keep (Keep.of s1)
        have hwf := wf y (List.mem_of_getElem? hy)
        rw [factsV_N] at h2
        have e1 : ys.take (i + 1) = ys.take i ++ [y] := by rw [List.take_add_one, hy]; rfl
        refine ⟨_, rfl, p, _, dp, _, _, rfl, h1, T.C_Piece, T.a_Piece_facts, rfl, f, rfl, ⟨_, SqL.of h2⟩, fun D nD => ?_⟩
        have hfs : ∃ fs, fs = factsN y.2.what := ⟨_, rfl⟩
        obtain ⟨fs, hfs⟩ := hfs
        rw [← hfs] at h2
        have hfl : fs.length ≤ 10 := by rw [hfs]; exact factsN_len hwf
        refine lc_list (K := K) (a := f) (xs := nv fs) (fun j H2 => Same H' H2 ∧ H2 D = some (.lst ((fs.take j).map fun (n : Nat) => V.bl (r.contains n)))) ⟨same_new nD, upd_same⟩ (fun j H2 _ ⟨s2, _⟩ => SqL.of (s2 _ _ h2)) ?_ ?_
        · rintro j v H2 hv ⟨s2, gD⟩
          rw [List.getElem?_map] at hv
          cases ej : fs[j]? with
          | none => rw [ej] at hv; cases hv
          | some n =>
            rw [ej] at hv
            cases hv
            refine ⟨rfl, yesT ?_⟩
            refine ⟨_, rfl, _, rfl, lf, _, rfl, .inl (SqL.of (s2 _ _ (s1 _ _ hlf))), rfl, flat_nats r, ?_⟩
            refine ⟨_, gD, ?_, fun b o e => ?_, ?_⟩
            · rw [List.length_map, List.length_take]
              exact Nat.lt_of_le_of_lt (Nat.min_le_right _ _) (Nat.lt_of_le_of_lt hfl (by decide))
            · rw [upd_ne (ne_of_none e nD)]
              exact s2 _ _ e
            · rw [upd_same, List.take_add_one, ej, List.map_append]
              show some (HO.lst (_ ++ [V.bl (inV (.int (n : Nat)) (nv r))])) = _
              rw [inV_nats]
              rfl
        · rintro H2 ⟨s2, gD⟩
          rw [List.length_map, List.take_length] at gD
          refine ⟨D, fs.map fun n => r.contains n, rfl, SqL.of (by rw [gD, List.map_map]; rfl), _, rfl, ?_⟩
          have e2 : ((fs.map fun n => r.contains n).any id) = (factsN y.2.what).any fun f => r.contains f := by
            rw [List.any_map, ← hfs]
            rfl
          rw [e2]
          cases hb : (factsN y.2.what).any fun f => r.contains f with
          | false =>
            refine (if_pos rfl).mpr ?_
            have e3 : hits (ys.map fun y => factsN y.2.what) r = false := by
              unfold hits
              rw [List.all_eq_false]
              exact ⟨_, List.mem_map.mpr ⟨y, List.mem_of_getElem? hy, rfl⟩, by rw [hb]; decide⟩
            rw [e3] at k
            exact k H2 (s1.trans s2)
          | true =>
            refine (if_neg Bool.false_ne_true).mpr ?_
            refine ⟨_, _, rfl, s1.trans s2, fun z hz => ?_⟩
            rw [e1, List.mem_append, List.mem_singleton] at hz
            rcases hz with hz | rfl
            · exact hall z hz
            · exact hb
    · rintro σ H' ⟨v2, v3, rfl, s1, hall⟩
      have el : (as.map V.ref).length = ys.length := by rw [List.length_map]; exact Paired.length hP
      rw [el, List.take_length] at hall
      have e3 : hits (ys.map fun y => factsN y.2.what) r = true := by
        unfold hits
        rw [List.all_eq_true]
        intro fs hfs
        obtain ⟨y, hy, rfl⟩ := List.mem_map.mp hfs
        exact hall y hy
      rw [e3] at k
      exact k H' s1

def ListsAt (H : Hp) (N : Addr → Prop) : List Addr → List (List Nat) → Prop := Paired fun a l => N a ∧ H a = some (.lst (nv l))
def sp_one_longer : Sp := fun vs H Q _ => ∃ (lf : Addr) (r : List Nat), vs = [.ref lf] ∧ H lf = some (.lst (nv r)) ∧ r.length ≤ 8 ∧ (∀ f ∈ r, f < 8) ∧
  ∀ (H' : Hp) (q : Addr) (as : List Addr), Same H H' → H q = Option.none → H' q = some (.lst (as.map V.ref)) → ListsAt H' (fun a => H a = Option.none) as (childs r) → Q (.ref q) H'
theorem ok_one_longer (T : Txt K mg A) : FnOk P w K mg base CX0 1 A.f_one_longer A.fd_one_longer ["facts"] sp_one_longer := by
  refine T.F_one_longer.ok sc_one_longer (fun vs H Q E h => ?_) (fun cdv Ar outer sh H vs Q E hr h => ?_)
  · obtain ⟨lf, r, rfl, _⟩ := h
    rfl
  · obtain ⟨lf, r, rfl, hlf, hrl, hr8, k⟩ := h
    refine ⟨_, (pss_cons (ps_set (i := 1) sc_one_longer.nd rfl (Or.inl rfl) (pe_ifExp (pt_cmpR op_gt (pe_callB call_len_seq rfl T.n_len PySem.boot_len (pa_cons (pv 0) pa_nil)) pe_int (nomark _)) (pe_op op_add (pe_ix ix_list (pv 0) (pe_un un_neg pe_int) (fun _ _ => rfl)) pe_int) pe_int))
      (pss_one (ps_ret (pe_lc (own := [("fact", 2)]) rfl sc_one_longer.nd (pi_range2 rfl T.n_range (pa_cons (pv 1) (pa_cons (pe_gint rfl T.g_FACTS) pa_nil))) (blkOk_by (by kernel_rfl)) (fun _ _ _ _ _ => (pg_name (i := 2) sc_one_longer.nd rfl (Or.inl rfl))) (fun _ _ _ _ _ => pts_nil) (fun _ _ _ _ _ => (pe_op op_cat (pv 0) (pe_lst (pa_cons (pv 2) pa_nil)))))))), ?_⟩
    have cont : ∀ fst : Nat, fst ≤ 8 → childs r = (List.range' fst (8 - fst)).map (fun f => r ++ [f]) → tRet (tLc (iRng2 (tCons (tVar 1) (tCons (tC (.int 8)) tNil))) (gName 2) tYes (tOp rCat (tVar 0) (tLst (tCons (tVar 2) tNil))) [2]) { nx := fun _ H' => Q .non H', rt := Q } [some (.ref lf), some (.int (fst : Nat)), none] H := by
      intro fst hf8 hch
      refine ⟨_, rfl, (fst : Int), 8, rfl, ⟨by omega, by omega, by omega, by omega⟩, fun D nD => ?_⟩
      have en : ((8 : Int) - (fst : Int)).toNat = 8 - fst := by omega
      rw [en]
      have hD : D ≠ lf := (ne_of_none hlf nD).symm
      refine lc_range (Qd := _) (fun j H' => Same H H' ∧ ∃ as : List Addr, H' D = some (.lst (as.map V.ref)) ∧ ListsAt H' (fun a => H a = Option.none ∧ a ≠ D) as ((List.range' fst j).map fun f => r ++ [f])) ⟨same_new nD, [], upd_same, .nil⟩ ?_ ?_
      · rintro j H' hj ⟨s1, as, gD, hA⟩
        have hlf1 := s1 _ _ hlf
        refine ⟨rfl, yesT ?_⟩
        refine ⟨_, rfl, _, rfl, (by show 1 ≤ sizeLine; decide), fun q1 n1 => ?_⟩
        have s2 : Same H' (upd H' q1 (.lst [V.int ((fst : Int) + (j : Int))])) := same_new n1
        refine ⟨lf, q1, _, _, rfl, rfl, s2 _ _ hlf1, upd_same, ?_, fun q2 n2 => ?_⟩
        · rw [List.length_map]
          exact Nat.le_trans (Nat.succ_le_succ hrl) (by decide)
        have s3 := s2.trans (same_new (o := .lst (nv r ++ [V.int ((fst : Int) + (j : Int))])) n2)
        have g2 : upd (upd H' q1 (.lst [V.int ((fst : Int) + (j : Int))])) q2 (.lst (nv r ++ [V.int ((fst : Int) + (j : Int))])) q2 = some (.lst (nv r ++ [V.int ((fst : Int) + (j : Int))])) := upd_same
        have n2' : H' q2 = Option.none := s2.free n2
        generalize upd (upd H' q1 (.lst [V.int ((fst : Int) + (j : Int))])) q2 (.lst (nv r ++ [V.int ((fst : Int) + (j : Int))])) = H3 at s3 g2
        have q2D : q2 ≠ D := fun z => by rw [z, gD] at n2'; cases n2'
        refine ⟨_, s3 _ _ gD, ?_, fun b o e => ?_, as ++ [q2], ?_, ?_⟩
        · rw [List.length_map, Paired.length hA, List.length_map, List.length_range']
          exact Nat.lt_of_lt_of_le (Nat.lt_of_lt_of_le hj (Nat.sub_le _ _)) (by decide)
        · rw [upd_ne (ne_of_none e nD)]
          exact s3 _ _ (s1 _ _ e)
        · rw [upd_same, List.map_append]
          rfl
        · rw [List.range'_1_concat, List.map_append]
          refine Paired.snoc (Paired.mapP hA fun a l h => ⟨h.1, by rw [upd_ne h.1.2]; exact s3 _ _ h.2⟩) ⟨⟨s1.free n2', q2D⟩, ?_⟩
          rw [upd_ne q2D, g2]
          show some (HO.lst (nv r ++ [V.int ((fst : Int) + (j : Int))])) = some (HO.lst (nv (r ++ [fst + j])))
          have : nv (r ++ [fst + j]) = nv r ++ [V.int (((fst + j : Nat)) : Int)] := List.map_append ..
          rw [this]
          congr 4
      · rintro H' ⟨s1, as, gD, hA⟩
        rw [← hch] at hA
        exact k H' D as s1 nD gD (Paired.mapP hA fun a l h => ⟨h.1.1, h.2⟩)
    refine ⟨_, rfl, lf, _, rfl, .inl (SqL.of hlf), _, _, rfl, rfl, _, rfl, ?_⟩
    rcases List.eq_nil_or_concat r with rfl | ⟨r', a, hra⟩
    · refine (if_neg (by decide)).mpr ?_
      exact cont 0 (by decide) rfl
    · rw [List.concat_eq_append] at hra
      subst hra
      refine (if_pos (by rw [decide_eq_true_iff, List.length_map, List.length_append]; show (0 : Int) < ((r'.length + 1 : Nat) : Int); omega)).mpr ?_
      have ha : a < 8 := hr8 a (by simp)
      refine ⟨_, rfl, _, rfl, lf, _, _, V.int (a : Nat), rfl, rfl, SqL.of hlf, ?_, _, _, rfl, rfl, ?_⟩
      · have : nv (r' ++ [a]) = nv r' ++ [V.int (a : Nat)] := List.map_append ..
        rw [this]
        exact atI_last _ _
      · refine cont (a + 1) (by omega) ?_
        unfold childs
        rw [show (r' ++ [a]).getLast? = some a by simp]

def sp_fewest_facts (A : Adr) : Sp := fun vs H Q _ => ∃ (la : Addr) (ys : List NP) (as : List Addr) (N : Addr → Prop), vs = [.ref la] ∧ H la = some (.lst (as.map V.ref)) ∧ Paired (PieceAt A N H) as ys ∧ (∀ y ∈ ys, WfW y.2.what) ∧ (∀ y ∈ ys, factsN y.2.what ≠ [] ∧ ∀ f ∈ factsN y.2.what, f < 8) ∧
  ∀ (H' : Hp) (q : Addr), Same H H' → H' q = some (.lst (nv (Vbptam.fewest (ys.map fun y => factsN y.2.what)))) → Q (.ref q) H'
theorem ok_fewest_facts (T : Txt K mg A) : FnOk P w K mg base CX0 2 A.f_fewest_facts A.fd_fewest_facts ["attacks"] (sp_fewest_facts A) := by
  refine T.F_fewest_facts.ok sc_fewest_facts (fun vs H Q E h => ?_) (fun cdv Ar outer sh H vs Q E hr h => ?_)
  · obtain ⟨la, ys, as, N, rfl, _⟩ := h
    rfl
  · obtain ⟨la, ys, as, N, rfl, hla, hP, wf, hne, k⟩ := h
    obtain ⟨l, hl⟩ : ∃ l, l = ys.map fun y => factsN y.2.what := ⟨_, rfl⟩
    have hl8 : ∀ fs ∈ l, fs ≠ [] ∧ ∀ f ∈ fs, f < 8 := by
      intro fs hfs
      rw [hl] at hfs
      obtain ⟨y, hy, rfl⟩ := List.mem_map.mp hfs
      exact hne y hy
    rw [← hl] at k
    refine ⟨_, (pss_cons (ps_set (i := 1) sc_fewest_facts.nd rfl (Or.inl rfl) (pe_lst (pa_cons (pe_lst pa_nil) pa_nil)))
      (pss_cons (ps_set (i := 2) sc_fewest_facts.nd rfl (Or.inl rfl) pe_int)
      (pss_cons (ps_while PassesOwn.never (pt_not (pt_truth (pe_call (ok_has_one_of_each T) (hr.mono (by decide)) rfl T.m_has_one_of_each T.F_has_one_of_each.kp (b_has_one_of_each T) .nil pass0 (pa_cons (pe_ix ix_list (pv 1) (pv 2) (fun _ _ => rfl)) (pa_cons (pv 0) pa_nil))) (fun _ => rfl))) (pss_cons (ps_expr (pe_bm PySem.F.plainAttrs_list PySem.F.slot_list_extend PySem.F.type_list_extend mt_extend (pv 1) (pa_cons (pe_call (ok_one_longer T) (hr.mono (by decide)) rfl T.m_one_longer T.F_one_longer.kp (b_one_longer T) .nil pass0 (pa_cons (pe_ix ix_list (pv 1) (pv 2) (fun _ _ => rfl)) pa_nil)) pa_nil)))
      (pss_one (ps_aug (i := 2) sc_fewest_facts.nd rfl (Or.inl rfl) pe_int ip_add))))
      (pss_one (ps_ret (pe_ix ix_list (pv 1) (pv 2) (fun _ _ => rfl))))))), ?_⟩
    refine ⟨Nat.zero_le _, fun q1 n1 => ⟨(by show 1 ≤ sizeLine; decide), fun ch nch => ?_⟩⟩
    have s1 : Same H (upd (upd H q1 (.lst [])) ch (.lst [.ref q1])) := (same_new n1).trans (same_new nch)
    have g1 : upd (upd H q1 (.lst [])) ch (.lst [.ref q1]) q1 = some (.lst []) := same_new nch _ _ upd_same
    have gc : upd (upd H q1 (.lst [])) ch (.lst [.ref q1]) ch = some (.lst [.ref q1]) := upd_same
    have nq : q1 ≠ ch := ne_of_none (H := upd H q1 (.lst [])) upd_same nch
    have nch' : H ch = Option.none := (upd_none nch).2
    generalize upd (upd H q1 (.lst [])) ch (.lst [.ref q1]) = H1 at s1 g1 gc
    refine ⟨fun m σ H' => ∃ (i : Nat) (cs : List (List Nat)) (xs : List Addr), σ = [some (.ref la), some (.ref ch), some (.int (i : Nat))] ∧ m = 256 - i ∧ Same H H' ∧ H' ch = some (.lst (xs.map V.ref)) ∧ ListsAt H' (fun a => a ≠ ch) xs cs ∧ Look l i cs, ⟨256, 0, [[]], [q1], rfl, rfl, s1, gc, .cons ⟨nq, g1⟩ .nil, Look.first l⟩, ?_⟩
    rintro m σ H' ⟨i, cs, xs, rfl, rfl, s2, hch, hL, LK⟩
    obtain ⟨v, hv1, hv2, hv3⟩ := LK.here hl8
    have hi : i < 256 := by
      have := (List.getElem?_eq_some_iff.mp hv2).1
      rw [allS_length] at this
      exact this
    obtain ⟨a, ha⟩ : ∃ a, xs[i]? = some a := by
      have e := Paired.length hL
      have h2 := (List.getElem?_eq_some_iff.mp hv1).1
      exact ⟨_, List.getElem?_eq_getElem (by omega)⟩
    obtain ⟨v', hv', hna, hva⟩ := Paired.getR hL ha
    rw [hv1] at hv'
    cases hv'
    have hat : atI (xs.map V.ref) ((i : Nat) : Int) = some (V.ref a) := atI_nat (by rw [List.getElem?_map, ha]; rfl)
    refine ⟨_, rfl, _, rfl, ch, _, _, V.ref a, rfl, rfl, SqL.of hch, hat, _, rfl, a, la, v, ys, as, N, rfl, hva, s2 _ _ hla, Paired.mapP hP fun _ _ q => q.keep (Keep.of s2), wf, fun H2 s3 => ⟨_, rfl, ?_⟩⟩
    rw [← hl]
    cases hb : hits l v with
    | true =>
      refine (if_neg Bool.false_ne_true).mpr ?_
      refine ⟨_, rfl, _, rfl, ch, _, _, V.ref a, rfl, rfl, SqL.of (s3 _ _ hch), hat, ?_⟩
      refine k H2 a (s2.trans s3) ?_
      rw [LK.found hv2 hb]
      exact s3 _ _ hva
    | false =>
      refine (if_pos rfl).mpr ⟨_, fun σ' H' hw => ⟨256 - (i + 1), by omega, hw⟩, ?_⟩
      obtain ⟨z1, z2⟩ := allS_small v hv3
      refine ⟨_, rfl, .inl ⟨rfl, _, SqL.of (s3 _ _ hch)⟩, _, rfl, _, rfl, ch, _, _, V.ref a, rfl, rfl, SqL.of (s3 _ _ hch), hat, a, v, rfl, s3 _ _ hva, z1, z2, fun H3 q xs3 s4 nq3 gq hP3 => ?_⟩
      have hch4 := s4 _ _ (s3 _ _ hch)
      have LK2 := LK.next hv2 hb
      refine ⟨ch, q, _, _, rfl, rfl, hch4, gq, ?_, ?_⟩
      · have e1 := Paired.length hL
        have e2 := Paired.length hP3
        have e3 := LK2.len
        rw [List.length_append] at e3
        rw [List.length_map, List.length_map, e1, e2]
        exact Nat.le_trans e3 (by decide)
      refine ⟨_, rfl, _, _, rfl, rfl, ?_⟩
      have nb : ∀ b o, b ≠ ch → H3 b = some o → upd H3 ch (.lst (xs.map V.ref ++ xs3.map V.ref)) b = some o := fun b o hb e => by rw [upd_ne hb]; exact e
      refine ⟨i + 1, cs ++ childs v, xs ++ xs3, rfl, rfl, fun b o e => nb b o (ne_of_none e nch') (s4 _ _ (s3 _ _ (s2 _ _ e))), ?_, ?_, LK2⟩
      · rw [upd_same, List.map_append]
      · refine Paired.app (Paired.mapP hL fun b l' h => ⟨h.1, nb b _ h.1 (s4 _ _ (s3 _ _ h.2))⟩) (Paired.mapP hP3 fun b l' h => ?_)
        have hb' : b ≠ ch := fun z => by
          have := h.1
          rw [z, s3 _ _ hch] at this
          cases this
        exact ⟨hb', nb b _ hb' h.2⟩
end
end Op


set_option Elab.async false
set_option linter.all false
set_option maxRecDepth 100000
set_option maxHeartbeats 4000000
namespace Op
open PySem PySem.Spec PyProof.Rows L2
theorem Form.inv {c : List (List Int)} {p : Int} {a : List Int} {r : Option (List Int)} (h : Form c p a r) : c = (p :: a) :: r.toList ∧ (rngs p).length = a.length ∧ r.isSome = (p == 1 || p == 2) := by
  cases h <;> exact ⟨rfl, rfl, rfl⟩
theorem none_of {r : Option (List Int)} (h : r.isSome = false) : r = none := by cases r; rfl; cases h
section
variable {c : List (List Int)} {p : Int} {a : List Int} {r : Option (List Int)}
theorem Form.is0 (h : Form c p a r) (hp : p = 0) : ∃ (x0 x1 x2 : Int), c = [[0, x0, x1, x2]] ∧ a = [x0, x1, x2] ∧ r = none := by
  subst hp
  obtain ⟨e1, e2, e3⟩ := h.inv
  obtain ⟨x0, x1, x2, rfl⟩ := len3 e2
  obtain rfl := none_of e3
  exact ⟨x0, x1, x2, e1, rfl, rfl⟩
theorem Form.is1 (h : Form c p a r) (hp : p = 1) : ∃ (x0 x1 : Int) (f : List Int), c = [[1, x0, x1], f] ∧ a = [x0, x1] ∧ r = some f := by
  subst hp
  obtain ⟨e1, e2, e3⟩ := h.inv
  obtain ⟨x0, x1, rfl⟩ := len2 e2
  obtain ⟨f, rfl⟩ := Option.isSome_iff_exists.mp e3
  exact ⟨x0, x1, f, e1, rfl, rfl⟩
theorem Form.is2 (h : Form c p a r) (hp : p = 2) : ∃ (x0 : Int) (f : List Int), c = [[2, x0], f] ∧ a = [x0] ∧ r = some f := by
  subst hp
  obtain ⟨e1, e2, e3⟩ := h.inv
  obtain ⟨x0, rfl⟩ := len1 e2
  obtain ⟨f, rfl⟩ := Option.isSome_iff_exists.mp e3
  exact ⟨x0, f, e1, rfl, rfl⟩
theorem Form.is3 (h : Form c p a r) (hp : p = 3) : ∃ (x0 : Int), c = [[3, x0]] ∧ a = [x0] ∧ r = none := by
  subst hp
  obtain ⟨e1, e2, e3⟩ := h.inv
  obtain ⟨x0, rfl⟩ := len1 e2
  obtain rfl := none_of e3
  exact ⟨x0, e1, rfl, rfl⟩
theorem Form.is4 (h : Form c p a r) (hp : p = 4) : ∃ (x0 : Int), c = [[4, x0]] ∧ a = [x0] ∧ r = none := by
  subst hp
  obtain ⟨e1, e2, e3⟩ := h.inv
  obtain ⟨x0, rfl⟩ := len1 e2
  obtain rfl := none_of e3
  exact ⟨x0, e1, rfl, rfl⟩
theorem Form.is5 (h : Form c p a r) (hp : p = 5) : c = [[5]] ∧ a = [] ∧ r = none := by
  subst hp
  obtain ⟨e1, e2, e3⟩ := h.inv
  obtain rfl := len0 e2
  obtain rfl := none_of e3
  exact ⟨e1, rfl, rfl⟩
theorem Form.is6 (h : Form c p a r) (hp : p = 6) : ∃ (x0 x1 : Int), c = [[6, x0, x1]] ∧ a = [x0, x1] ∧ r = none := by
  subst hp
  obtain ⟨e1, e2, e3⟩ := h.inv
  obtain ⟨x0, x1, rfl⟩ := len2 e2
  obtain rfl := none_of e3
  exact ⟨x0, x1, e1, rfl, rfl⟩
theorem Form.is7 (h : Form c p a r) (hp : p = 7) : ∃ (x0 : Int), c = [[7, x0]] ∧ a = [x0] ∧ r = none := by
  subst hp
  obtain ⟨e1, e2, e3⟩ := h.inv
  obtain ⟨x0, rfl⟩ := len1 e2
  obtain rfl := none_of e3
  exact ⟨x0, e1, rfl, rfl⟩
theorem Form.is8 (h : Form c p a r) (hp : p = 8) : c = [[8]] ∧ a = [] ∧ r = none := by
  subst hp
  obtain ⟨e1, e2, e3⟩ := h.inv
  obtain rfl := len0 e2
  obtain rfl := none_of e3
  exact ⟨e1, rfl, rfl⟩
theorem Form.is9 (h : Form c p a r) (hp : p = 9) : c = [[9]] ∧ a = [] ∧ r = none := by
  subst hp
  obtain ⟨e1, e2, e3⟩ := h.inv
  obtain rfl := len0 e2
  obtain rfl := none_of e3
  exact ⟨e1, rfl, rfl⟩
theorem Form.is10 (h : Form c p a r) (hp : p = 10) : ∃ (x0 x1 : Int), c = [[10, x0, x1]] ∧ a = [x0, x1] ∧ r = none := by
  subst hp
  obtain ⟨e1, e2, e3⟩ := h.inv
  obtain ⟨x0, x1, rfl⟩ := len2 e2
  obtain rfl := none_of e3
  exact ⟨x0, x1, e1, rfl, rfl⟩
theorem Form.is11 (h : Form c p a r) (hp : p = 11) : ∃ (x0 : Int), c = [[11, x0]] ∧ a = [x0] ∧ r = none := by
  subst hp
  obtain ⟨e1, e2, e3⟩ := h.inv
  obtain ⟨x0, rfl⟩ := len1 e2
  obtain rfl := none_of e3
  exact ⟨x0, e1, rfl, rfl⟩
theorem Form.is12 (h : Form c p a r) (hp : p = 12) : ∃ (x0 : Int), c = [[12, x0]] ∧ a = [x0] ∧ r = none := by
  subst hp
  obtain ⟨e1, e2, e3⟩ := h.inv
  obtain ⟨x0, rfl⟩ := len1 e2
  obtain rfl := none_of e3
  exact ⟨x0, e1, rfl, rfl⟩
theorem Form.is13 (h : Form c p a r) (hp : p = 13) : ∃ (x0 : Int), c = [[13, x0]] ∧ a = [x0] ∧ r = none := by
  subst hp
  obtain ⟨e1, e2, e3⟩ := h.inv
  obtain ⟨x0, rfl⟩ := len1 e2
  obtain rfl := none_of e3
  exact ⟨x0, e1, rfl, rfl⟩
theorem Form.is14 (h : Form c p a r) (hp : p = 14) : ∃ (x0 : Int), c = [[14, x0]] ∧ a = [x0] ∧ r = none := by
  subst hp
  obtain ⟨e1, e2, e3⟩ := h.inv
  obtain ⟨x0, rfl⟩ := len1 e2
  obtain rfl := none_of e3
  exact ⟨x0, e1, rfl, rfl⟩
theorem Form.is15 (h : Form c p a r) (hp : p = 15) : ∃ (x0 : Int), c = [[15, x0]] ∧ a = [x0] ∧ r = none := by
  subst hp
  obtain ⟨e1, e2, e3⟩ := h.inv
  obtain ⟨x0, rfl⟩ := len1 e2
  obtain rfl := none_of e3
  exact ⟨x0, e1, rfl, rfl⟩
theorem Form.is16 (h : Form c p a r) (hp : p = 16) : c = [[16]] ∧ a = [] ∧ r = none := by
  subst hp
  obtain ⟨e1, e2, e3⟩ := h.inv
  obtain rfl := len0 e2
  obtain rfl := none_of e3
  exact ⟨e1, rfl, rfl⟩
theorem Form.is17 (h : Form c p a r) (hp : p = 17) : c = [[17]] ∧ a = [] ∧ r = none := by
  subst hp
  obtain ⟨e1, e2, e3⟩ := h.inv
  obtain rfl := len0 e2
  obtain rfl := none_of e3
  exact ⟨e1, rfl, rfl⟩
theorem Form.is18 (h : Form c p a r) (hp : p = 18) : c = [[18]] ∧ a = [] ∧ r = none := by
  subst hp
  obtain ⟨e1, e2, e3⟩ := h.inv
  obtain rfl := len0 e2
  obtain rfl := none_of e3
  exact ⟨e1, rfl, rfl⟩
theorem Form.is19 (h : Form c p a r) (hp : p = 19) : c = [[19]] ∧ a = [] ∧ r = none := by
  subst hp
  obtain ⟨e1, e2, e3⟩ := h.inv
  obtain rfl := len0 e2
  obtain rfl := none_of e3
  exact ⟨e1, rfl, rfl⟩
end

def Told (A : Adr) (N M : Addr → Prop) (H : Hp) (d : Addr) (res : Vbptam.State × List Int) (Q : VK) : Prop :=
  ∀ (H' : Hp) (N' M' : Addr → Prop) (q : Addr), Step A N M H d res.1 H' N' M' → H q = Option.none → H' q = some (.lst (res.2.map V.int)) → Q (.ref q) H'
theorem Step.same {A : Adr} {N M N' M' : Addr → Prop} {H H1 H2 : Hp} {d : Addr} {s' : Vbptam.State} (st : Step A N M H d s' H1 N' M') (e : Same H1 H2) : Step A N M H d s' H2 N' M' :=
  ⟨fun b o nb z => e _ _ (st.kept b o nb z), fun b hb => st.dom b (e.free hb), st.agree, fun b hb => st.fresh b (e.free hb), st.mutb, st.disp.same e⟩
theorem Step.none {A : Adr} {N M : Addr → Prop} {H : Hp} {d : Addr} {s : Vbptam.State} (hD : DispAt A N M H d s) (hN : ∀ b, H b = Option.none → N b) : Step A N M H d s H N M :=
  ⟨fun _ _ _ e => e, fun _ h => h, fun _ _ => Iff.rfl, hN, fun _ h _ => h, hD⟩
theorem Told.done {A : Adr} {N M N1 M1 : Addr → Prop} {H H1 H2 : Hp} {d q : Addr} {s' : Vbptam.State} {ans : List Int} {Q : VK} (k : Told A N M H d (s', ans) Q) (st : Step A N M H d s' H1 N1 M1) (s12 : Same H1 H2) (n : H2 q = Option.none) {xs : List V} (e : xs = ans.map V.int) : Q (.ref q) (upd H2 q (.lst xs)) := by
  subst e
  exact k _ N1 M1 q (st.same (s12.trans (same_new n))) (st.dom q (s12.free n)) upd_same
theorem Told.read {A : Adr} {N M : Addr → Prop} {H H2 : Hp} {d q : Addr} {s : Vbptam.State} {ans : List Int} {Q : VK} (k : Told A N M H d (s, ans) Q) (hD : DispAt A N M H d s) (hN : ∀ b, H b = Option.none → N b) (s12 : Same H H2) (n : H2 q = Option.none) {xs : List V} (e : xs = ans.map V.int) : Q (.ref q) (upd H2 q (.lst xs)) :=
  k.done (Step.none hD hN) s12 n e
theorem Told.from {A : Adr} {N M : Addr → Prop} {H H1 : Hp} {d : Addr} {res : Vbptam.State × List Int} {Q : VK} (k : Told A N M H d res Q) (s1 : Same H H1) : Told A N M H1 d res Q := fun H' N' M' q st n e =>
  k H' N' M' q ⟨fun b o nb z => st.kept b o nb (s1 _ _ z), fun b hb => s1.free (st.dom b hb), fun b hb => st.agree b fun z => hb (s1.free z), st.fresh, fun b nb hb => st.mutb b nb fun z => hb (s1.free z), st.disp⟩ (s1.free n) e
structure HPre (A : Adr) (N M : Addr → Prop) (H : Hp) (d kk : Addr) (s : Vbptam.State) (c : List (List Int)) (p : Int) (a : List Int) (r : Option (List Int)) : Prop where
  disp : DispAt A N M H d s
  call : CallAt A N H kk p a r
  form : Form c p a r
  ok : callOk p a r = true
  fresh : ∀ b, H b = Option.none → N b
  row : rowLen r ≤ 20
def spH (A : Adr) (num : Int) : Sp := fun vs H Q _ => ∃ (d kk : Addr) (s : Vbptam.State) (c : List (List Int)) (p : Int) (a : List Int) (r : Option (List Int)) (N M : Addr → Prop), vs = [.ref d, .ref kk] ∧ HPre A N M H d kk s c p a r ∧ p = num ∧ Told A N M H d (Vbptam.step s c) Q
theorem HPre.step {A : Adr} {N M : Addr → Prop} {H : Hp} {d kk : Addr} {s : Vbptam.State} {c : List (List Int)} {p : Int} {a : List Int} {r : Option (List Int)} (h : HPre A N M H d kk s c p a r) {dd : Vbptam.Call} (e : Vbptam.decode c = some dd) : Vbptam.step s c = Vbptam.act s dd := by
  obtain ⟨d2, e2, e3⟩ := decode_form h.form
  rw [e] at e2
  cases e2
  unfold Vbptam.step
  rw [e]
  show (if Vbptam.inRange dd = false then _ else _) = _
  rw [e3, h.ok, if_neg (by decide)]
theorem HPre.range {A : Adr} {N M : Addr → Prop} {H : Hp} {d kk : Addr} {s : Vbptam.State} {c : List (List Int)} {p : Int} {a : List Int} {r : Option (List Int)} (h : HPre A N M H d kk s c p a r) {dd : Vbptam.Call} (e : Vbptam.decode c = some dd) : Vbptam.inRange dd = true := by
  obtain ⟨d2, e2, e3⟩ := decode_form h.form
  rw [e] at e2
  cases e2
  rw [e3, h.ok]
section
variable {P : Program} {w : World} {K : PySem.W.Frag} {mg : Str → Option Value} {base : Heap} {A : Adr}
theorem nat_of {x lo hi : Int} (h : Vbptam.inside x lo hi = true) (h0 : 0 ≤ lo) : ∃ n : Nat, x = (n : Int) ∧ lo ≤ (n : Int) ∧ (n : Int) ≤ hi := by
  have := inside_iff.mp h
  exact ⟨x.toNat, by omega, by omega, by omega⟩
theorem ok_begin_case (T : Txt K mg A) : FnOk P w K mg base CX0 5 A.f_begin_case A.fd_begin_case ["dispute", "call"] (spH A 0) := by
  refine T.F_begin_case.ok sc_begin_case (fun vs H Q E h => ?_) (fun cdv Ar outer sh H vs Q E hr h => ?_)
  · obtain ⟨d, kk, s, c, p, a, r, N, M, rfl, _⟩ := h
    rfl
  · obtain ⟨d, kk, s, c, p, a, r, N, M, rfl, hp, hnum, k⟩ := h
    obtain ⟨n, t, l, rfl, rfl, rfl⟩ := hp.form.is0 hnum
    have hst := hp.step (dd := .case n t l) rfl
    have hrg := hp.range (dd := .case n t l) rfl
    have hrg : (Vbptam.inside n 1 6 && (Vbptam.inside t 1 20 && Vbptam.inside l 0 365)) = true := hrg
    rw [Bool.and_eq_true, Bool.and_eq_true] at hrg
    obtain ⟨n', rfl, _, hn6⟩ := nat_of hrg.1 (by decide)
    obtain ⟨l', rfl, _, _⟩ := nat_of hrg.2.2 (by decide)
    obtain ⟨dk, la, rv, hC⟩ := hp.call
    obtain ⟨dx, lp, lc, lt, lr, laa, sk, ps, cs, ts, as, hD⟩ := id hp.disp
    refine ⟨_, (pss_cons (ps_expr (pe_meth (pv 0) T.C_Dispute T.M_Dispute_begin (ok_Dispute_begin T) (hr.mono (by decide)) (b_Dispute_begin T) .nil pass0 (pa_cons (pe_ix ix_list (pe_fld (pv 1) rfl) pe_int (fun _ _ => rfl)) (pa_cons (pe_ix ix_list (pe_fld (pv 1) rfl) pe_int (fun _ _ => rfl)) (pa_cons (pe_ix ix_list (pe_fld (pv 1) rfl) pe_int (fun _ _ => rfl)) pa_nil)))))
      (pss_one (ps_ret (pe_lst (pa_cons pe_int pa_nil))))), ?_⟩
    refine ⟨_, rfl, d, dx, _, rfl, hD.ins, rfl, _, rfl, kk, _, dk, _, _, rfl, hC.ins, T.C_Call, T.a_Call_arguments, rfl, la, _, _, _, rfl, rfl, SqL.of hC.arg, rfl, _, rfl, kk, _, dk, _, _, rfl, hC.ins, T.C_Call, T.a_Call_arguments, rfl, la, _, _, _, rfl, rfl, SqL.of hC.arg, rfl,
      _, rfl, kk, _, dk, _, _, rfl, hC.ins, T.C_Call, T.a_Call_arguments, rfl, la, _, _, _, rfl, rfl, SqL.of hC.arg, rfl, d, n', t, l', s, N, M, rfl, hp.disp, by omega, hp.fresh, fun H' N' M' st => ?_⟩
    refine ⟨(by show 1 ≤ sizeLine; decide), fun q nq => ?_⟩
    rw [hst] at k
    exact Told.done (s' := begun n' t l') (ans := [0]) k st (Same.refl _) nq rfl
end
end Op


set_option Elab.async false
set_option linter.all false
set_option maxRecDepth 100000
set_option maxHeartbeats 4000000
namespace Op
open PySem PySem.Spec PyProof.Rows L2
section
variable {P : Program} {w : World} {K : PySem.W.Frag} {mg : Str → Option Value} {base : Heap} {A : Adr}
def sp_bring_piece (A : Adr) : Sp := fun vs H Q _ => ∃ (d f wl : Addr) (s : Vbptam.State) (x : Vbptam.Piece) (N M : Addr → Prop), vs = [.ref d, .int (x.who : Nat), claimV x.what, .ref f, .ref wl] ∧ DispAt A N M H d s ∧ (N f ∧ N wl) ∧ H f = some (.lst (factsV x.what)) ∧ H wl = some (.lst (weightsV x.what)) ∧ WfW x.what ∧ x.late = decide (s.limit < s.day) ∧ (∀ b, H b = Option.none → N b) ∧ Told A N M H d (Vbptam.bring s x.who x.what) Q
theorem ok_bring_piece (T : Txt K mg A) : FnOk P w K mg base CX0 7 A.f_bring_piece A.fd_bring_piece ["dispute", "bringer", "claim", "facts", "weights"] (sp_bring_piece A) := by
  refine T.F_bring_piece.ok sc_bring_piece (fun vs H Q E h => ?_) (fun cdv Ar outer sh H vs Q E hr h => ?_)
  · obtain ⟨d, f, wl, s, x, N, M, rfl, _⟩ := h
    rfl
  · obtain ⟨d, f, wl, s, x, N, M, rfl, hD0, ⟨nf, nw⟩, hf, hw, wf, hlate, hN, k⟩ := h
    obtain ⟨dx, lp, lc, lt, lr, la, sk, ps, cs, ts, as, hD⟩ := id hD0
    refine ⟨_, (pss_cons (ps_if (pt_not (pt_truth (pe_meth0 (pv 0) T.C_Dispute T.M_Dispute_is_running (ok_Dispute_is_running T) (hr.mono (by decide)) (b_Dispute_is_running T) .nil pass0) (fun _ => rfl))) (pss_one (ps_ret (pe_lst (pa_cons (pe_gint rfl T.g_NOT_NOW) pa_nil)))) pss_nil)
      (pss_cons (ps_if (pt_cmpR op_eq (pe_callB call_len_seq rfl T.n_len PySem.boot_len (pa_cons (pe_fld (pv 0) rfl) pa_nil)) (pe_gint rfl T.g_MOST_PIECES) (nomark _)) (pss_one (ps_ret (pe_lst (pa_cons (pe_gint rfl T.g_FULL) pa_nil)))) pss_nil)
      (pss_cons (ps_expr (pe_meth (pv 0) T.C_Dispute T.M_Dispute_bring (ok_Dispute_bring T) (hr.mono (by decide)) (b_Dispute_bring T) .nil pass0 (pa_cons (pv 1) (pa_cons (pv 2) (pa_cons (pv 3) (pa_cons (pv 4) pa_nil))))))
      (pss_one (ps_ret (pe_lst (pa_cons (pe_op op_sub (pe_callB call_len_seq rfl T.n_len PySem.boot_len (pa_cons (pe_fld (pv 0) rfl) pa_nil)) pe_int) pa_nil))))))), ?_⟩
    refine ⟨_, rfl, d, dx, _, rfl, hD.ins, rfl, d, s, N, M, rfl, hD0, fun H1 s1 => ⟨_, rfl, ?_⟩⟩
    unfold Vbptam.bring at k
    by_cases hrun : s.phase = 1 ∨ s.phase = 2
    · refine (if_neg (by rw [decide_eq_true hrun]; exact Bool.false_ne_true)).mpr ?_
      have h03 : ¬ (s.phase = 0 ∨ s.phase = 3) := by omega
      rw [if_neg h03] at k
      have hpl : ps.length = s.pieces.length := by rw [Paired.length hD.ps, numb_length]
      refine ⟨_, rfl, d, _, dx, _, _, rfl, s1 _ _ hD.ins, T.C_Dispute, T.a_Dispute_pieces, rfl, lp, _, rfl, .inl (SqL.of (s1 _ _ hD.lp)), rfl, _, rfl, ?_⟩
      rw [decI, List.length_map, hpl]
      have h24 := hD.ok.inv.pl
      by_cases hfull : s.pieces.length = 24
      · refine (if_pos (by rw [decide_eq_true_iff]; omega)).mpr ?_
        rw [if_pos (show Vbptam.PIECES ≤ s.pieces.length by show 24 ≤ _; omega)] at k
        exact ⟨(by show 1 ≤ sizeLine; decide), fun q nq => Told.read k hD0 hN s1 nq rfl⟩
      · refine (if_neg (by rw [decide_eq_true_iff]; omega)).mpr ?_
        rw [if_neg (show ¬ Vbptam.PIECES ≤ s.pieces.length by show ¬ 24 ≤ _; omega)] at k
        have hl2 : x.late = (decide (s.limit < s.day) || decide (1 < s.phase)) := by
          rcases hrun with h1 | h1
          · rw [hlate, h1]
            simp
          · have := hD.ok.inv.beh (by omega)
            rw [hlate, decide_eq_true this]
            rfl
        have ex : (⟨x.who, x.what, decide (s.limit < s.day) || decide (1 < s.phase)⟩ : Vbptam.Piece) = x := by
          rw [← hl2]
        rw [ex] at k
        have hN1 : ∀ b, H1 b = Option.none → N b := fun b hb => hN b (s1.free hb)
        refine ⟨_, rfl, d, dx, _, rfl, s1 _ _ hD.ins, rfl, _, rfl, _, rfl, _, rfl, _, rfl, d, f, wl, s, x, N, M, rfl, hD0.same s1, ⟨nf, nw⟩, s1 _ _ hf, s1 _ _ hw, wf, hlate, hl2, by omega, hN1, fun H' N' M' st => ?_⟩
        obtain ⟨dx', lp', lc', lt', lr', la', sk', ps', cs', ts', as', hDi⟩ := id st.disp
        have hpl' : ps'.length = s.pieces.length + 1 := by
          rw [Paired.length hDi.ps, numb_length]
          show (s.pieces ++ [x]).length = _
          simp
        refine ⟨_, rfl, d, _, dx', _, _, rfl, hDi.ins, T.C_Dispute, T.a_Dispute_pieces, rfl, lp', _, rfl, .inl (SqL.of hDi.lp), _, _, rfl, rfl, (by show 1 ≤ sizeLine; decide), fun q nq => ?_⟩
        refine Told.done (s' := more s x) (ans := [(s.pieces.length : Int)]) (k.from s1) st (Same.refl _) nq ?_
        show [V.int (((ps'.map V.ref).length : Int) - 1)] = [V.int (s.pieces.length : Int)]
        rw [List.length_map, hpl']
        congr 2
        omega
    · refine (if_pos (by rw [decide_eq_false hrun]; rfl)).mpr ?_
      have h3 := hD.ok.ph
      have h03 : s.phase = 0 ∨ s.phase = 3 := by omega
      rw [if_pos h03] at k
      exact ⟨(by show 1 ≤ sizeLine; decide), fun q nq => Told.read k hD0 hN s1 nq rfl⟩
theorem facts_nat {f : List Int} (h : ∀ x ∈ f, 0 ≤ x) : f.map V.int = (Vbptam.nats f).map fun (n : Nat) => V.int n := by
  unfold Vbptam.nats
  rw [List.map_map]
  apply List.map_congr_left
  intro x hx
  have := h x hx
  show V.int x = V.int ((x.toNat : Nat) : Int)
  congr 1
  omega
theorem ok_attack (T : Txt K mg A) : FnOk P w K mg base CX0 8 A.f_attack A.fd_attack ["dispute", "call"] (spH A 1) := by
  refine T.F_attack.ok sc_attack (fun vs H Q E h => ?_) (fun cdv Ar outer sh H vs Q E hr h => ?_)
  · obtain ⟨d, kk, s, c, p, a, r, N, M, rfl, _⟩ := h
    rfl
  · obtain ⟨d, kk, s, c, p, a, r, N, M, rfl, hp, hnum, k⟩ := h
    obtain ⟨o, cl, f, rfl, rfl, rfl⟩ := hp.form.is1 hnum
    have hst := hp.step (dd := .attack o cl f) rfl
    have hrg := hp.range (dd := .attack o cl f) rfl
    have hrg : (Vbptam.inside o 0 2 && (Vbptam.inside cl 0 5 && (decide (1 ≤ f.length ∧ f.length ≤ 3) && (f.all (fun x => Vbptam.inside x 0 7) && Vbptam.upward f)))) = true := hrg
    simp only [Bool.and_eq_true] at hrg
    obtain ⟨h1, h2, h3, h4, h5⟩ := hrg
    obtain ⟨o', rfl, _, _⟩ := nat_of h1 (by decide)
    obtain ⟨c', rfl, _, _⟩ := nat_of h2 (by decide)
    have h3 := of_decide_eq_true h3
    have hf : ∀ x ∈ f, 0 ≤ x ∧ x ≤ 7 := fun x hx => inside_iff.mp (List.all_eq_true.mp h4 x hx)
    obtain ⟨dk, la, rv, hC⟩ := hp.call
    obtain ⟨lr, rfl, nlr, hlr⟩ := hC.row
    have hD0 := hp.disp
    obtain ⟨dx, lp, lc, lt, lrr, laa, sk, ps, cs, ts, as, hD⟩ := id hp.disp
    have ea : Vbptam.act s (.attack (o' : Int) (c' : Int) f) = if s.phase ≠ 0 ∧ s.n ≤ c' then (s, [-5]) else Vbptam.bring s o' (.attack c' (Vbptam.nats f)) := rfl
    rw [hst, ea] at k
    refine ⟨_, (pss_cons (ps_set (i := 2) sc_attack.nd rfl (Or.inl rfl) (pe_ix ix_list (pe_fld (pv 1) rfl) pe_int (fun _ _ => rfl)))
      (pss_cons (ps_if (PW.pt (pw_and (pt_cmpR op_ne (pe_fld (pv 0) rfl) (pe_gint rfl T.g_NO_CASE) (nomark _)) (pw_and1 (pt_cmpR op_ge (pv 2) (pe_fld (pv 0) rfl) (nomark _))))) (pss_one (ps_ret (pe_lst (pa_cons (pe_gint rfl T.g_NOT_THERE) pa_nil)))) pss_nil)
      (pss_one (ps_ret (pe_call (ok_bring_piece T) (hr.mono (by decide)) rfl T.m_bring_piece T.F_bring_piece.kp (b_bring_piece T) .nil pass0 (pa_cons (pv 0) (pa_cons (pe_ix ix_list (pe_fld (pv 1) rfl) pe_int (fun _ _ => rfl)) (pa_cons (pv 2) (pa_cons (pe_fld (pv 1) rfl) (pa_cons (pe_lst pa_nil) pa_nil)))))))))), ?_⟩
    refine ⟨_, rfl, kk, _, dk, _, _, rfl, hC.ins, T.C_Call, T.a_Call_arguments, rfl, la, _, _, _, rfl, rfl, SqL.of hC.arg, rfl, ?_⟩
    have kb : ¬ (s.phase ≠ 0 ∧ s.n ≤ c') → Told A N M H d (Vbptam.bring s o' (.attack c' (Vbptam.nats f))) Q := fun hc => by
      have k2 := k
      rw [if_neg hc] at k2
      exact k2
    have cont : ¬ (s.phase ≠ 0 ∧ s.n ≤ c') → tRet (tCall (sp_bring_piece A) [] E0 (tCons (tVar 0) (tCons (tOp (rIxL K) (tFld K (tVar 1) "arguments") (tC (.int 0))) (tCons (tVar 2) (tCons (tFld K (tVar 1) "row") (tCons (tLst tNil) tNil)))))) { nx := fun _ H' => Q .non H', rt := Q } [some (.ref d), some (.ref kk), some (.int c')] H := fun hc => by
      have kb := kb hc
      refine ⟨_, rfl, _, rfl, kk, _, dk, _, _, rfl, hC.ins, T.C_Call, T.a_Call_arguments, rfl, la, _, _, _, rfl, rfl, SqL.of hC.arg, rfl, _, rfl, _, rfl, kk, _, dk, _, _, rfl, hC.ins, T.C_Call, T.a_Call_row, rfl, Nat.zero_le _, fun q1 n1 => ?_⟩
      have s1 : Same H (upd H q1 (.lst [])) := same_new n1
      refine ⟨d, lr, q1, s, ⟨o', .attack c' (Vbptam.nats f), decide (s.limit < s.day)⟩, N, M, rfl, hD0.same s1, ⟨nlr, hp.fresh q1 n1⟩, ?_, upd_same, ?_, rfl, fun b hb => hp.fresh b (s1.free hb), kb.from s1⟩
      · rw [s1 _ _ hlr]
        show some (HO.lst (f.map V.int)) = some (HO.lst ((Vbptam.nats f).map fun (n : Nat) => V.int n))
        rw [facts_nat fun x hx => (hf x hx).1]
      · refine ⟨fun x hx => ?_, ?_, fun z => ?_⟩
        · unfold Vbptam.nats at hx
          rw [List.mem_map] at hx
          obtain ⟨z, hz, rfl⟩ := hx
          have := hf z hz
          omega
        · unfold Vbptam.nats
          rw [List.length_map]
          exact h3.2
        · have z := congrArg List.length z
          unfold Vbptam.nats at z
          rw [List.length_map, List.length_nil] at z
          omega
    refine ⟨_, rfl, d, _, dx, _, _, rfl, hD.ins, T.C_Dispute, T.a_Dispute_phase, rfl, rfl, _, rfl, ?_⟩
    rw [decI]
    by_cases h0 : s.phase = 0
    · refine (if_neg (by simp [h0])).mpr ((if_neg Bool.false_ne_true).mpr ?_)
      exact cont fun z => z.1 h0
    · refine (if_pos (by simp; omega)).mpr ?_
      refine ⟨_, rfl, _, rfl, d, _, dx, _, _, rfl, hD.ins, T.C_Dispute, T.a_Dispute_claims, rfl, _, _, rfl, rfl, _, rfl, ?_⟩
      by_cases hc : s.n ≤ c'
      · refine (if_pos (by rw [decide_eq_true_iff]; omega)).mpr ?_
        rw [if_pos ⟨h0, hc⟩] at k
        exact ⟨(by show 1 ≤ sizeLine; decide), fun q nq => Told.read k hD0 hp.fresh (Same.refl H) nq rfl⟩
      · refine (if_neg (by rw [decide_eq_true_iff]; omega)).mpr ?_
        exact cont fun z => hc z.2
end
end Op


set_option Elab.async false
set_option linter.all false
set_option maxRecDepth 100000
set_option maxHeartbeats 4000000
namespace Op
open PySem PySem.Spec PyProof.Rows L2
theorem evens_facts {w : List Int} (h0 : w.length % 2 = 0) (h : ∀ x ∈ evens w, 0 ≤ x ∧ x ≤ 7) : (evens w).map V.int = (pairs w).map fun y => V.int y.1 := by
  obtain ⟨l1, l2⟩ := evens_length w h0
  have e : (pairs w).map Prod.fst = (evens w).map Int.toNat := by
    unfold pairs
    exact List.map_fst_zip (by rw [List.length_map]; omega)
  have e2 : (pairs w).map (fun y => V.int y.1) = ((pairs w).map Prod.fst).map fun (n : Nat) => V.int n := by rw [List.map_map]; rfl
  rw [e2, e, List.map_map]
  apply List.map_congr_left
  intro x hx
  have := h x hx
  show V.int x = V.int ((x.toNat : Nat) : Int)
  congr 1
  omega
theorem odds_weights {w : List Int} (h0 : w.length % 2 = 0) : (odds w).map V.int = (pairs w).map fun y => V.int y.2 := by
  obtain ⟨l1, l2⟩ := evens_length w h0
  have e : (pairs w).map Prod.snd = odds w := by
    unfold pairs
    exact List.map_snd_zip (by rw [List.length_map]; omega)
  have e2 : (pairs w).map (fun y => V.int y.2) = ((pairs w).map Prod.snd).map V.int := by rw [List.map_map]; rfl
  rw [e2, e]
section
variable {P : Program} {w : World} {K : PySem.W.Frag} {mg : Str → Option Value} {base : Heap} {A : Adr}
theorem ok_prove (T : Txt K mg A) : FnOk P w K mg base CX0 8 A.f_prove A.fd_prove ["dispute", "call"] (spH A 2) := by
  refine T.F_prove.ok sc_prove (fun vs H Q E h => ?_) (fun cdv Ar outer sh H vs Q E hr h => ?_)
  · obtain ⟨d, kk, s, c, p, a, r, N, M, rfl, _⟩ := h
    rfl
  · obtain ⟨d, kk, s, c, p, a, r, N, M, rfl, hp, hnum, k⟩ := h
    obtain ⟨o, f, rfl, rfl, rfl⟩ := hp.form.is2 hnum
    have hst := hp.step (dd := .proof o f) rfl
    have hrg := hp.range (dd := .proof o f) rfl
    have hrg : (Vbptam.inside o 0 3 && (!f.isEmpty && (Vbptam.pairsOf f).any Vbptam.risingPairs)) = true := hrg
    rw [pairs_ok, Bool.and_eq_true] at hrg
    obtain ⟨h1, h2⟩ := hrg
    obtain ⟨o', rfl, _, _⟩ := nat_of h1 (by decide)
    obtain ⟨p1, p2, p3, p4⟩ := pairs_some h2
    obtain ⟨l1, l2⟩ := evens_length f p3
    have hfl : f.length ≤ 20 := hp.row
    obtain ⟨dk, la, rv, hC⟩ := hp.call
    obtain ⟨lr, rfl, nlr, hlr⟩ := hC.row
    have hD0 := hp.disp
    obtain ⟨dx, lp, lc, lt, lrr, laa, sk, ps, cs, ts, as, hD⟩ := id hp.disp
    have ea : Vbptam.act s (.proof (o' : Int) f) = Vbptam.bring s o' (.proof ((Vbptam.pairsOf f).getD [])) := rfl
    rw [hst, ea, p1] at k
    refine ⟨_, (pss_one (ps_ret (pe_call (ok_bring_piece T) (hr.mono (by decide)) rfl T.m_bring_piece T.F_bring_piece.kp (b_bring_piece T) .nil pass0 (pa_cons (pv 0) (pa_cons (pe_ix ix_list (pe_fld (pv 1) rfl) pe_int (fun _ _ => rfl)) (pa_cons pe_non (pa_cons (pe_slice3 (pe_fld (pv 1) rfl) (po_some pe_int) po_none (po_some pe_int)) (pa_cons (pe_slice3 (pe_fld (pv 1) rfl) (po_some pe_int) po_none (po_some pe_int)) pa_nil)))))))), ?_⟩
    refine ⟨_, rfl, _, rfl, kk, _, dk, _, _, rfl, hC.ins, T.C_Call, T.a_Call_arguments, rfl, la, _, _, _, rfl, rfl, SqL.of hC.arg, rfl, _, rfl, kk, _, dk, _, _, rfl, hC.ins, T.C_Call, T.a_Call_row, rfl, _, rfl, _, rfl, lr, _, rfl, SqL.of hlr, (by intro q; cases q), fun q1 n1 => ?_⟩
    have s1 := same_new (o := .lst (pickV (f.map V.int) (some 0) none (some 2))) n1
    refine ⟨_, rfl, kk, _, dk, _, _, rfl, s1 _ _ hC.ins, T.C_Call, T.a_Call_row, rfl, _, rfl, _, rfl, lr, _, rfl, SqL.of (s1 _ _ hlr), (by intro q; cases q), fun q2 n2 => ?_⟩
    have s2 := same_new (o := .lst (pickV (f.map V.int) (some 1) none (some 2))) n2
    have s12 := s1.trans s2
    refine ⟨d, q1, q2, s, ⟨o', .proof (pairs f), decide (s.limit < s.day)⟩, N, M, rfl, hD0.same s12, ⟨hp.fresh q1 n1, hp.fresh q2 (s1.free n2)⟩, ?_, ?_, ?_, rfl, fun b hb => hp.fresh b (s12.free hb), Told.from k s12⟩
    · refine (s2 q1 _ upd_same).trans ?_
      rw [pick_evens, evens_facts p3 p4]
      rfl
    · have : upd (upd H q1 (.lst (pickV (f.map V.int) (some 0) none (some 2)))) q2 (.lst (pickV (f.map V.int) (some 1) none (some 2))) q2 = some (.lst (pickV (f.map V.int) (some 1) none (some 2))) := upd_same
      refine this.trans ?_
      rw [pick_odds, odds_weights p3]
      rfl
    · refine ⟨p2, ?_⟩
      unfold pairs
      rw [List.length_zip, List.length_map]
      omega

theorem ok_request (T : Txt K mg A) : FnOk P w K mg base CX0 3 A.f_request A.fd_request ["dispute", "call"] (spH A 3) := by
  refine T.F_request.ok sc_request (fun vs H Q E h => ?_) (fun cdv Ar outer sh H vs Q E hr h => ?_)
  · obtain ⟨d, kk, s, c, p, a, r, N, M, rfl, _⟩ := h
    rfl
  · obtain ⟨d, kk, s, c, p, a, r, N, M, rfl, hp, hnum, k⟩ := h
    obtain ⟨m, rfl, rfl, rfl⟩ := hp.form.is3 hnum
    have hst := hp.step (dd := .request m) rfl
    have hrg : Vbptam.inside m 1 63 = true := hp.range (dd := .request m) rfl
    obtain ⟨m', rfl, _, hm63⟩ := nat_of hrg (by decide)
    have hm : m' < 64 := by omega
    obtain ⟨dk, la, rv, hC⟩ := hp.call
    have hD0 := hp.disp
    obtain ⟨dx, lp, lc, lt, lr, laa, sk, ps, cs, ts, as, hD⟩ := id hp.disp
    have ea : Vbptam.act s (.request (m' : Int)) = if s.phase ≠ 1 then (s, [-6]) else if Vbptam.within_ m' (Vbptam.full s) = false then (s, [-5]) else if 6 ≤ s.requests.length then (s, [-3]) else ({ s with requests := s.requests ++ [m'] }, [(s.requests.length : Int)]) := rfl
    rw [hst, ea] at k
    refine ⟨_, (pss_cons (ps_set (i := 2) sc_request.nd rfl (Or.inl rfl) (pe_ix ix_list (pe_fld (pv 1) rfl) pe_int (fun _ _ => rfl)))
      (pss_cons (ps_if (pt_cmpR op_ne (pe_fld (pv 0) rfl) (pe_gint rfl T.g_OPPOSED) (nomark _)) (pss_one (ps_ret (pe_lst (pa_cons (pe_gint rfl T.g_NOT_NOW) pa_nil)))) pss_nil)
      (pss_cons (ps_if (pt_not (pt_truth (pe_meth (pv 0) T.C_Dispute T.M_Dispute_has_claims (ok_Dispute_has_claims T) hr (b_Dispute_has_claims T) .nil pass0 (pa_cons (pv 2) pa_nil)) (fun _ => rfl))) (pss_one (ps_ret (pe_lst (pa_cons (pe_gint rfl T.g_NOT_THERE) pa_nil)))) pss_nil)
      (pss_cons (ps_if (pt_cmpR op_eq (pe_callB call_len_seq rfl T.n_len PySem.boot_len (pa_cons (pe_fld (pv 0) rfl) pa_nil)) (pe_gint rfl T.g_MOST_REQUESTS) (nomark _)) (pss_one (ps_ret (pe_lst (pa_cons (pe_gint rfl T.g_FULL) pa_nil)))) pss_nil)
      (pss_cons (ps_expr (pe_bm PySem.F.plainAttrs_list PySem.F.slot_list_append PySem.F.type_list_append mt_append (pe_fld (pv 0) rfl) (pa_cons (pv 2) pa_nil)))
      (pss_one (ps_ret (pe_lst (pa_cons (pe_op op_sub (pe_callB call_len_seq rfl T.n_len PySem.boot_len (pa_cons (pe_fld (pv 0) rfl) pa_nil)) pe_int) pa_nil))))))))), ?_⟩
    refine ⟨_, rfl, kk, _, dk, _, _, rfl, hC.ins, T.C_Call, T.a_Call_arguments, rfl, la, _, _, _, rfl, rfl, SqL.of hC.arg, rfl, ?_⟩
    refine ⟨_, rfl, d, _, dx, _, _, rfl, hD.ins, T.C_Dispute, T.a_Dispute_phase, rfl, rfl, _, rfl, ?_⟩
    rw [decI]
    by_cases h1 : s.phase = 1
    · refine (if_neg (by simp [h1])).mpr ?_
      rw [if_neg (fun z => z h1)] at k
      refine ⟨_, rfl, d, dx, _, rfl, hD.ins, rfl, _, rfl, d, m', s, N, M, rfl, hD0, hm, _, rfl, ?_⟩
      cases hw : Vbptam.within_ m' (Vbptam.full s) with
      | false =>
        refine (if_pos rfl).mpr ?_
        rw [if_pos hw] at k
        exact ⟨(by show 1 ≤ sizeLine; decide), fun q nq => Told.read k hD0 hp.fresh (Same.refl H) nq rfl⟩
      | true =>
        refine (if_neg Bool.false_ne_true).mpr ?_
        rw [if_neg (by rw [hw]; decide)] at k
        refine ⟨_, rfl, d, _, dx, _, _, rfl, hD.ins, T.C_Dispute, T.a_Dispute_requests, rfl, lr, _, rfl, .inl (SqL.of hD.lr), rfl, _, rfl, ?_⟩
        rw [decI, List.length_map]
        have h6 := hD.ok.rql
        by_cases hf : s.requests.length = 6
        · refine (if_pos (by rw [decide_eq_true_iff]; omega)).mpr ?_
          rw [if_pos (by omega)] at k
          exact ⟨(by show 1 ≤ sizeLine; decide), fun q nq => Told.read k hD0 hp.fresh (Same.refl H) nq rfl⟩
        · refine (if_neg (by rw [decide_eq_true_iff]; omega)).mpr ?_
          rw [if_neg (by omega)] at k
          refine ⟨_, rfl, d, _, dx, _, _, rfl, hD.ins, T.C_Dispute, T.a_Dispute_requests, rfl, .inl ⟨rfl, _, SqL.of hD.lr⟩, _, rfl, lr, _, _, rfl, rfl, hD.lr, ?_, ?_⟩
          · rw [List.length_map]
            exact Nat.lt_of_le_of_lt h6 (by decide)
          have dlr : d ≠ lr := ne_of hD.ins hD.lr (by intro z; cases z)
          have up : ∀ b o, b ≠ lr → H b = some o → upd H lr (.lst ((s.requests.map fun (m : Nat) => V.int m) ++ [V.int (m' : Int)])) b = some o := fun b o hb e => by rw [upd_ne hb]; exact e
          have nN : ∀ b, N b → b ≠ lr := fun b nb z => hD.nlr (z ▸ nb)
          have kf : Keep N H (upd H lr (.lst ((s.requests.map fun (m : Nat) => V.int m) ++ [V.int (m' : Int)]))) := fun b o nb e => up b o (nN b nb) e
          have dom : ∀ b, upd H lr (.lst ((s.requests.map fun (m : Nat) => V.int m) ++ [V.int (m' : Int)])) b = Option.none → H b = Option.none := fun b hb => (upd_none hb).2
          refine ⟨_, rfl, d, _, dx, _, _, rfl, up _ _ dlr hD.ins, T.C_Dispute, T.a_Dispute_requests, rfl, lr, _, rfl, .inl (SqL.of upd_same), _, _, rfl, rfl, (by show 1 ≤ sizeLine; decide), fun q nq => ?_⟩
          refine Told.done (s' := { s with requests := s.requests ++ [m'] }) (ans := [(s.requests.length : Int)]) k (Step.mk (N' := N) (M' := M) (fun b o nb e => up b o (fun z => nb (z ▸ hD.mlr)) e) dom (fun b _ => Iff.rfl) (fun b hb => hp.fresh b (dom b hb)) (fun b nb _ => nb) ⟨dx, lp, lc, lt, lr, laa, sk, ps, cs, ts, as, ?_⟩) (Same.refl _) nq ?_
          · refine ⟨hD.md, hD.mlp, hD.mlr, hD.mla, hD.nm, hD.nlc, hD.plr, hD.pla, hD.rla, up _ _ dlr hD.ins, up _ _ hD.plr hD.lp, up _ _ (nN _ hD.nlc) hD.lc, ?_, up _ _ hD.rla.symm hD.la, Paired.mapP hD.ps fun _ _ q => q.keep kf, Paired.mapP hD.cs fun _ _ q => q.keep kf, Paired.mapP hD.as fun _ _ q => ⟨q.1, kf _ _ q.1 q.2⟩, (hD.st.keep kf).state Iff.rfl rfl rfl rfl rfl, ?_⟩
            · rw [upd_same]
              show _ = some (HO.lst ((s.requests ++ [m']).map fun (m : Nat) => V.int m))
              rw [List.map_append]
              rfl
            · have o := hD.ok
              refine ⟨⟨o.inv.n6, o.inv.srt, o.inv.nol, o.inv.beh, o.inv.tkl, o.inv.tkp, o.inv.pl⟩, o.wf, fun m hm' => ?_, ?_, o.ap, o.apl, o.fst, o.day, o.f0, o.ph⟩
              · have hm' : m ∈ s.requests ++ [m'] := hm'
                rw [List.mem_append, List.mem_singleton] at hm'
                rcases hm' with hm' | rfl
                · exact o.rq m hm'
                · exact hm
              · show (s.requests ++ [m']).length ≤ 6
                rw [List.length_append]
                show s.requests.length + 1 ≤ 6
                omega
          · show [V.int ((((s.requests.map fun (m : Nat) => V.int m) ++ [V.int (m' : Int)]).length : Int) - 1)] = [V.int (s.requests.length : Int)]
            rw [List.length_append, List.length_map]
            congr 2
            show ((s.requests.length + 1 : Nat) : Int) - 1 = _
            omega
    · refine (if_pos (by simp; omega)).mpr ?_
      rw [if_pos h1] at k
      exact ⟨(by show 1 ≤ sizeLine; decide), fun q nq => Told.read k hD0 hp.fresh (Same.refl H) nq rfl⟩
end
end Op


set_option Elab.async false
set_option linter.all false
set_option maxRecDepth 100000
set_option maxHeartbeats 4000000
namespace Op
open PySem PySem.Spec PyProof.Rows L2
theorem reach_tick {s : Vbptam.State} (o : Reach s) {n : Nat} (h : s.day + n ≤ 10000) : Reach { s with day := s.day + n } :=
  ⟨⟨o.inv.n6, o.inv.srt, fun q hd => o.inv.nol q (by have hd : s.day + n ≤ s.limit := hd; omega), fun q => by have := o.inv.beh q; show s.limit < s.day + n; omega, o.inv.tkl, o.inv.tkp, o.inv.pl⟩, o.wf, o.rq, o.rql, o.ap, o.apl, o.fst, h, o.f0, o.ph⟩
section
variable {P : Program} {w : World} {K : PySem.W.Frag} {mg : Str → Option Value} {base : Heap} {A : Adr}
theorem ok_tick (T : Txt K mg A) : FnOk P w K mg base CX0 1 A.f_tick A.fd_tick ["dispute", "call"] (spH A 4) := by
  refine T.F_tick.ok sc_tick (fun vs H Q E h => ?_) (fun cdv Ar outer sh H vs Q E hr h => ?_)
  · obtain ⟨d, kk, s, c, p, a, r, N, M, rfl, _⟩ := h
    rfl
  · obtain ⟨d, kk, s, c, p, a, r, N, M, rfl, hp, hnum, k⟩ := h
    obtain ⟨n, rfl, rfl, rfl⟩ := hp.form.is4 hnum
    have hst := hp.step (dd := .tick n) rfl
    have hrg : Vbptam.inside n 1 365 = true := hp.range (dd := .tick n) rfl
    obtain ⟨n', rfl, _, _⟩ := nat_of hrg (by decide)
    obtain ⟨dk, la, rv, hC⟩ := hp.call
    have hD0 := hp.disp
    obtain ⟨dx, lp, lc, lt, lr, laa, sk, ps, cs, ts, as, hD⟩ := id hp.disp
    have ea : Vbptam.act s (.tick (n' : Int)) = if s.phase = 0 then (s, [-6]) else if 10000 < s.day + n' then (s, [-3]) else ({ s with day := s.day + n' }, [((s.day + n' : Nat) : Int)]) := rfl
    rw [hst, ea] at k
    refine ⟨_, (pss_cons (ps_if (pt_cmpR op_eq (pe_fld (pv 0) rfl) (pe_gint rfl T.g_NO_CASE) (nomark _)) (pss_one (ps_ret (pe_lst (pa_cons (pe_gint rfl T.g_NOT_NOW) pa_nil)))) pss_nil)
      (pss_cons (ps_if (pt_cmpR op_gt (pe_op op_add (pe_fld (pv 0) rfl) (pe_ix ix_list (pe_fld (pv 1) rfl) pe_int (fun _ _ => rfl))) (pe_gint rfl T.g_LAST_DAY) (nomark _)) (pss_one (ps_ret (pe_lst (pa_cons (pe_gint rfl T.g_FULL) pa_nil)))) pss_nil)
      (pss_cons (ps_fldaug (pv 0) (pe_ix ix_list (pe_fld (pv 1) rfl) pe_int (fun _ _ => rfl)) in_add)
      (pss_one (ps_ret (pe_lst (pa_cons (pe_fld (pv 0) rfl) pa_nil))))))), ?_⟩
    refine ⟨_, rfl, d, _, dx, _, _, rfl, hD.ins, T.C_Dispute, T.a_Dispute_phase, rfl, rfl, _, rfl, ?_⟩
    rw [decI]
    by_cases h0 : s.phase = 0
    · refine (if_pos (by simp [h0])).mpr ?_
      rw [if_pos h0] at k
      exact ⟨(by show 1 ≤ sizeLine; decide), fun q nq => Told.read k hD0 hp.fresh (Same.refl H) nq rfl⟩
    · refine (if_neg (by simp; omega)).mpr ?_
      rw [if_neg h0] at k
      refine ⟨_, rfl, d, _, dx, _, _, rfl, hD.ins, T.C_Dispute, T.a_Dispute_day, rfl, _, rfl, kk, _, dk, _, _, rfl, hC.ins, T.C_Call, T.a_Call_arguments, rfl, la, _, _, _, rfl, rfl, SqL.of hC.arg, rfl, _, _, rfl, rfl, _, _, rfl, rfl, _, rfl, ?_⟩
      by_cases h1 : 10000 < s.day + n'
      · refine (if_pos (by rw [decide_eq_true_iff]; omega)).mpr ?_
        rw [if_pos h1] at k
        exact ⟨(by show 1 ≤ sizeLine; decide), fun q nq => Told.read k hD0 hp.fresh (Same.refl H) nq rfl⟩
      · refine (if_neg (by rw [decide_eq_true_iff]; omega)).mpr ?_
        rw [if_neg h1] at k
        refine ⟨_, rfl, d, _, dx, _, _, rfl, hD.ins, T.C_Dispute, T.a_Dispute_day, rfl, _, rfl, kk, _, dk, _, _, rfl, hC.ins, T.C_Call, T.a_Call_arguments, rfl, la, _, _, _, rfl, rfl, SqL.of hC.arg, rfl, _, _, rfl, rfl, dx, _, hD.ins, (by show 14 < 1000; decide), ?_⟩
        refine ⟨_, rfl, d, _, dx, _, _, rfl, upd_same, T.C_Dispute, T.a_Dispute_day, rfl, (by show 1 ≤ sizeLine; decide), fun q nq => ?_⟩
        have eF : putF "day" (V.int ((s.day : Int) + (n' : Int))) (dispF s sk lp lc lt lr laa) = dispF { s with day := s.day + n' } sk lp lc lt lr laa := by
          have : (s.day : Int) + (n' : Int) = ((s.day + n' : Nat) : Int) := by omega
          rw [this]
          rfl
        have fin := hD.stored (Same.refl H) hp.fresh (s' := { s with day := s.day + n' }) rfl rfl rfl rfl rfl (fun c _ => rfl) (hD.st.state Iff.rfl rfl rfl rfl rfl) (reach_tick hD.ok (by omega)) (R := fun H' => ∀ q, H' q = Option.none → Q (.ref q) (upd H' q (.lst [V.int ((s.day + n' : Nat) : Int)]))) (fun H' N' M' st q nq => Told.done k st (Same.refl _) nq rfl)
        rw [← eF] at fin
        have := fin q nq
        have e2 : V.int ((s.day : Int) + (n' : Int)) = V.int ((s.day + n' : Nat) : Int) := by congr 1
        rw [← e2] at this
        exact this

theorem ok_decide (T : Txt K mg A) : FnOk P w K mg base CX0 9 A.f_decide A.fd_decide ["dispute", "call"] (spH A 5) := by
  refine T.F_decide.ok sc_decide (fun vs H Q E h => ?_) (fun cdv Ar outer sh H vs Q E hr h => ?_)
  · obtain ⟨d, kk, s, c, p, a, r, N, M, rfl, _⟩ := h
    rfl
  · obtain ⟨d, kk, s, c, p, a, r, N, M, rfl, hp, hnum, k⟩ := h
    obtain ⟨rfl, rfl, rfl⟩ := hp.form.is5 hnum
    have hst := hp.step (dd := .decide_) rfl
    have hD0 := hp.disp
    obtain ⟨dx, lp, lc, lt, lr, laa, sk, ps, cs, ts, as, hD⟩ := id hp.disp
    have ea : Vbptam.act s .decide_ = if s.phase ≠ 1 ∨ s.day ≤ s.limit then (s, [-6]) else (decided s (Vbptam.granted s).1 (Vbptam.granted s).2, Vbptam.ints [(Vbptam.granted s).1, (Vbptam.granted s).2]) := rfl
    rw [hst, ea] at k
    refine ⟨_, (pss_cons (ps_if (PW.pt (pw_or (pt_cmpR op_ne (pe_fld (pv 0) rfl) (pe_gint rfl T.g_OPPOSED) (nomark _)) (pw_or1 (pt_not (pt_truth (pe_meth0 (pv 0) T.C_Dispute T.M_Dispute_is_behind_limit (ok_Dispute_is_behind_limit T) (hr.mono (by decide)) (b_Dispute_is_behind_limit T) .nil pass0) (fun _ => rfl)))))) (pss_one (ps_ret (pe_lst (pa_cons (pe_gint rfl T.g_NOT_NOW) pa_nil)))) pss_nil)
      (pss_cons (ps_expr (pe_meth0 (pv 0) T.C_Dispute T.M_Dispute_decide (ok_Dispute_decide T) (hr.mono (by decide)) (b_Dispute_decide T) .nil pass0))
      (pss_one (ps_ret (pe_lst (pa_cons (pe_fld (pv 0) rfl) (pa_cons (pe_fld (pv 0) rfl) pa_nil))))))), ?_⟩
    refine ⟨_, rfl, d, _, dx, _, _, rfl, hD.ins, T.C_Dispute, T.a_Dispute_phase, rfl, rfl, _, rfl, ?_⟩
    rw [decI]
    by_cases h1 : s.phase = 1
    · refine (if_neg (by simp [h1])).mpr ?_
      refine ⟨_, rfl, d, dx, _, rfl, hD.ins, rfl, d, s, N, M, rfl, hD0, _, rfl, ?_⟩
      by_cases h2 : s.limit < s.day
      · refine (if_neg (by rw [decide_eq_true h2]; exact Bool.false_ne_true)).mpr ?_
        rw [if_neg (by omega)] at k
        refine ⟨_, rfl, d, dx, _, rfl, hD.ins, rfl, d, s, N, M, rfl, hD0, h1, h2, hp.fresh, fun H' N' M' st => ?_⟩
        obtain ⟨dx', lp', lc', lt', lr', la', sk', ps', cs', ts', as', hDi⟩ := id st.disp
        refine ⟨_, rfl, d, _, dx', _, _, rfl, hDi.ins, T.C_Dispute, T.a_Dispute_kept, rfl, _, rfl, d, _, dx', _, _, rfl, hDi.ins, T.C_Dispute, T.a_Dispute_kept_request, rfl, (by show 2 ≤ sizeLine; decide), fun q nq => ?_⟩
        exact Told.done k st (Same.refl _) nq rfl
      · refine (if_pos (by rw [decide_eq_false h2]; rfl)).mpr ?_
        rw [if_pos (by omega)] at k
        exact ⟨(by show 1 ≤ sizeLine; decide), fun q nq => Told.read k hD0 hp.fresh (Same.refl H) nq rfl⟩
    · refine (if_pos (by simp; omega)).mpr ((if_pos rfl).mpr ?_)
      rw [if_pos (Or.inl h1)] at k
      exact ⟨(by show 1 ≤ sizeLine; decide), fun q nq => Told.read k hD0 hp.fresh (Same.refl H) nq rfl⟩

theorem ok_close_case (T : Txt K mg A) : FnOk P w K mg base CX0 9 A.f_close_case A.fd_close_case ["dispute", "call"] (spH A 8) := by
  refine T.F_close_case.ok sc_close_case (fun vs H Q E h => ?_) (fun cdv Ar outer sh H vs Q E hr h => ?_)
  · obtain ⟨d, kk, s, c, p, a, r, N, M, rfl, _⟩ := h
    rfl
  · obtain ⟨d, kk, s, c, p, a, r, N, M, rfl, hp, hnum, k⟩ := h
    obtain ⟨rfl, rfl, rfl⟩ := hp.form.is8 hnum
    have hst := hp.step (dd := .close) rfl
    have hD0 := hp.disp
    obtain ⟨dx, lp, lc, lt, lr, laa, sk, ps, cs, ts, as, hD⟩ := id hp.disp
    have ea : Vbptam.act s .close = if s.phase ≠ 2 ∨ s.day ≤ s.decided + 60 then (s, [-6]) else (closed s, Vbptam.ints [Vbptam.outcome s]) := rfl
    rw [hst, ea] at k
    refine ⟨_, (pss_cons (ps_if (PW.pt (pw_or (pt_cmpR op_ne (pe_fld (pv 0) rfl) (pe_gint rfl T.g_DECIDED) (nomark _)) (pw_or1 (pt_not (pt_truth (pe_meth0 (pv 0) T.C_Dispute T.M_Dispute_is_behind_appeals (ok_Dispute_is_behind_appeals T) (hr.mono (by decide)) (b_Dispute_is_behind_appeals T) .nil pass0) (fun _ => rfl)))))) (pss_one (ps_ret (pe_lst (pa_cons (pe_gint rfl T.g_NOT_NOW) pa_nil)))) pss_nil)
      (pss_cons (ps_expr (pe_meth0 (pv 0) T.C_Dispute T.M_Dispute_fix_outcome (ok_Dispute_fix_outcome T) (hr.mono (by decide)) (b_Dispute_fix_outcome T) .nil pass0))
      (pss_one (ps_ret (pe_lst (pa_cons (pe_fld (pv 0) rfl) pa_nil)))))), ?_⟩
    refine ⟨_, rfl, d, _, dx, _, _, rfl, hD.ins, T.C_Dispute, T.a_Dispute_phase, rfl, rfl, _, rfl, ?_⟩
    rw [decI]
    by_cases h1 : s.phase = 2
    · refine (if_neg (by simp [h1])).mpr ?_
      refine ⟨_, rfl, d, dx, _, rfl, hD.ins, rfl, d, s, N, M, rfl, hD0, _, rfl, ?_⟩
      by_cases h2 : s.decided + 60 < s.day
      · refine (if_neg (by rw [decide_eq_true h2]; exact Bool.false_ne_true)).mpr ?_
        rw [if_neg (by omega)] at k
        refine ⟨_, rfl, d, dx, _, rfl, hD.ins, rfl, d, s, N, M, rfl, hD0, h1, hp.fresh, fun H' N' M' st => ?_⟩
        obtain ⟨dx', lp', lc', lt', lr', la', sk', ps', cs', ts', as', hDi⟩ := id st.disp
        refine ⟨_, rfl, d, _, dx', _, _, rfl, hDi.ins, T.C_Dispute, T.a_Dispute_outcome, rfl, (by show 1 ≤ sizeLine; decide), fun q nq => ?_⟩
        exact Told.done k st (Same.refl _) nq rfl
      · refine (if_pos (by rw [decide_eq_false h2]; rfl)).mpr ?_
        rw [if_pos (by omega)] at k
        exact ⟨(by show 1 ≤ sizeLine; decide), fun q nq => Told.read k hD0 hp.fresh (Same.refl H) nq rfl⟩
    · refine (if_pos (by simp; omega)).mpr ((if_pos rfl).mpr ?_)
      rw [if_pos (Or.inl h1)] at k
      exact ⟨(by show 1 ≤ sizeLine; decide), fun q nq => Told.read k hD0 hp.fresh (Same.refl H) nq rfl⟩

theorem ok_alive (T : Txt K mg A) : FnOk P w K mg base CX0 7 A.f_alive A.fd_alive ["dispute", "call"] (spH A 9) := by
  refine T.F_alive.ok sc_alive (fun vs H Q E h => ?_) (fun cdv Ar outer sh H vs Q E hr h => ?_)
  · obtain ⟨d, kk, s, c, p, a, r, N, M, rfl, _⟩ := h
    rfl
  · obtain ⟨d, kk, s, c, p, a, r, N, M, rfl, hp, hnum, k⟩ := h
    obtain ⟨rfl, rfl, rfl⟩ := hp.form.is9 hnum
    have hst := hp.step (dd := .alive) rfl
    have hD0 := hp.disp
    obtain ⟨dx, lp, lc, lt, lr, laa, sk, ps, cs, ts, as, hD⟩ := id hp.disp
    have ea : Vbptam.act s .alive = if s.phase = 0 then (s, [-6]) else (s, Vbptam.ints [Vbptam.alive s]) := rfl
    rw [hst, ea] at k
    refine ⟨_, (pss_cons (ps_if (pt_cmpR op_eq (pe_fld (pv 0) rfl) (pe_gint rfl T.g_NO_CASE) (nomark _)) (pss_one (ps_ret (pe_lst (pa_cons (pe_gint rfl T.g_NOT_NOW) pa_nil)))) pss_nil)
      (pss_one (ps_ret (pe_lst (pa_cons (pe_meth0 (pv 0) T.C_Dispute T.M_Dispute_standing (ok_Dispute_standing T) (hr.mono (by decide)) (b_Dispute_standing T) .nil pass0) pa_nil))))), ?_⟩
    refine ⟨_, rfl, d, _, dx, _, _, rfl, hD.ins, T.C_Dispute, T.a_Dispute_phase, rfl, rfl, _, rfl, ?_⟩
    rw [decI]
    by_cases h0 : s.phase = 0
    · refine (if_pos (by simp [h0])).mpr ?_
      rw [if_pos h0] at k
      exact ⟨(by show 1 ≤ sizeLine; decide), fun q nq => Told.read k hD0 hp.fresh (Same.refl H) nq rfl⟩
    · refine (if_neg (by simp; omega)).mpr ?_
      rw [if_neg h0] at k
      refine ⟨_, rfl, d, dx, _, rfl, hD.ins, rfl, d, s, N, M, rfl, hD0, fun H1 s1 => ⟨(by show 1 ≤ sizeLine; decide), fun q nq => Told.read k hD0 hp.fresh s1 nq rfl⟩⟩
end
end Op


set_option Elab.async false
set_option linter.all false
set_option maxRecDepth 100000
set_option maxHeartbeats 4000000
namespace Op
open PySem PySem.Spec PyProof.Rows L2
section
variable {P : Program} {w : World} {K : PySem.W.Frag} {mg : Str → Option Value} {base : Heap} {A : Adr}
theorem ok_appeal (T : Txt K mg A) : FnOk P w K mg base CX0 4 A.f_appeal A.fd_appeal ["dispute", "call"] (spH A 6) := by
  refine T.F_appeal.ok sc_appeal (fun vs H Q E h => ?_) (fun cdv Ar outer sh H vs Q E hr h => ?_)
  · obtain ⟨d, kk, s, c, p, a, r, N, M, rfl, _⟩ := h
    rfl
  · obtain ⟨d, kk, s, c, p, a, r, N, M, rfl, hp, hnum, k⟩ := h
    obtain ⟨o, m, rfl, rfl, rfl⟩ := hp.form.is6 hnum
    have hst := hp.step (dd := .appeal o m) rfl
    have hrg : (Vbptam.inside o 0 3 && Vbptam.inside m 1 63) = true := hp.range (dd := .appeal o m) rfl
    rw [Bool.and_eq_true] at hrg
    obtain ⟨o', rfl, _, _⟩ := nat_of hrg.1 (by decide)
    obtain ⟨m', rfl, _, hm63⟩ := nat_of hrg.2 (by decide)
    have hm : m' < 64 := by omega
    obtain ⟨dk, la, rv, hC⟩ := hp.call
    have hD0 := hp.disp
    obtain ⟨dx, lp, lc, lt, lr, laa, sk, ps, cs, ts, as, hD⟩ := id hp.disp
    have ea : Vbptam.act s (.appeal (o' : Int) (m' : Int)) = if s.phase ≠ 2 ∨ s.decided + 60 < s.day then (s, [-6])
      else if Vbptam.within_ m' (if (o' : Int) = 3 then Vbptam.less (Vbptam.full s) s.first else s.first) = false then (s, [-5])
      else if 8 ≤ s.appeals.length then (s, [-3])
      else ({ s with appeals := s.appeals ++ [(o', m')] }, [(s.appeals.length : Int)]) := rfl
    rw [hst, ea] at k
    refine ⟨_, (pss_cons (ps_set (i := 2) sc_appeal.nd rfl (Or.inl rfl) (pe_ix ix_list (pe_fld (pv 1) rfl) pe_int (fun _ _ => rfl)))
      (pss_cons (ps_set (i := 3) sc_appeal.nd rfl (Or.inl rfl) (pe_ix ix_list (pe_fld (pv 1) rfl) pe_int (fun _ _ => rfl)))
      (pss_cons (ps_if (PW.pt (pw_or (pt_cmpR op_ne (pe_fld (pv 0) rfl) (pe_gint rfl T.g_DECIDED) (nomark _)) (pw_or1 (pt_truth (pe_meth0 (pv 0) T.C_Dispute T.M_Dispute_is_behind_appeals (ok_Dispute_is_behind_appeals T) (hr.mono (by decide)) (b_Dispute_is_behind_appeals T) .nil pass0) (fun _ => rfl))))) (pss_one (ps_ret (pe_lst (pa_cons (pe_gint rfl T.g_NOT_NOW) pa_nil)))) pss_nil)
      (pss_cons (ps_if (pt_not (pt_truth (pe_meth (pv 0) T.C_Dispute T.M_Dispute_may_name (ok_Dispute_may_name T) hr (b_Dispute_may_name T) .nil pass0 (pa_cons (pv 2) (pa_cons (pv 3) pa_nil))) (fun _ => rfl))) (pss_one (ps_ret (pe_lst (pa_cons (pe_gint rfl T.g_NOT_THERE) pa_nil)))) pss_nil)
      (pss_cons (ps_if (pt_cmpR op_eq (pe_callB call_len_seq rfl T.n_len PySem.boot_len (pa_cons (pe_fld (pv 0) rfl) pa_nil)) (pe_gint rfl T.g_MOST_APPEALS) (nomark _)) (pss_one (ps_ret (pe_lst (pa_cons (pe_gint rfl T.g_FULL) pa_nil)))) pss_nil)
      (pss_cons (ps_expr (pe_bm PySem.F.plainAttrs_list PySem.F.slot_list_append PySem.F.type_list_append mt_append (pe_fld (pv 0) rfl) (pa_cons (pe_tup (pa_cons (pv 2) (pa_cons (pv 3) pa_nil))) pa_nil)))
      (pss_one (ps_ret (pe_lst (pa_cons (pe_op op_sub (pe_callB call_len_seq rfl T.n_len PySem.boot_len (pa_cons (pe_fld (pv 0) rfl) pa_nil)) pe_int) pa_nil)))))))))), ?_⟩
    refine ⟨_, rfl, kk, _, dk, _, _, rfl, hC.ins, T.C_Call, T.a_Call_arguments, rfl, la, _, _, _, rfl, rfl, SqL.of hC.arg, rfl, ?_⟩
    refine ⟨_, rfl, kk, _, dk, _, _, rfl, hC.ins, T.C_Call, T.a_Call_arguments, rfl, la, _, _, _, rfl, rfl, SqL.of hC.arg, rfl, ?_⟩
    refine ⟨_, rfl, d, _, dx, _, _, rfl, hD.ins, T.C_Dispute, T.a_Dispute_phase, rfl, rfl, _, rfl, ?_⟩
    rw [decI]
    by_cases h1 : s.phase = 2
    · refine (if_neg (by simp [h1])).mpr ?_
      refine ⟨_, rfl, d, dx, _, rfl, hD.ins, rfl, d, s, N, M, rfl, hD0, _, rfl, ?_⟩
      by_cases h2 : s.decided + 60 < s.day
      · refine (if_pos (decide_eq_true h2)).mpr ?_
        rw [if_pos (Or.inr h2)] at k
        exact ⟨(by show 1 ≤ sizeLine; decide), fun q nq => Told.read k hD0 hp.fresh (Same.refl H) nq rfl⟩
      · refine (if_neg (by rw [decide_eq_true_iff]; exact h2)).mpr ?_
        rw [if_neg (by omega)] at k
        refine ⟨_, rfl, d, dx, _, rfl, hD.ins, rfl, _, rfl, _, rfl, d, (o' : Int), m', s, N, M, rfl, hD0, hm, _, rfl, ?_⟩
        cases hw : Vbptam.within_ m' (if (o' : Int) = 3 then Vbptam.less (Vbptam.full s) s.first else s.first) with
        | false =>
          refine (if_pos rfl).mpr ?_
          rw [if_pos hw] at k
          exact ⟨(by show 1 ≤ sizeLine; decide), fun q nq => Told.read k hD0 hp.fresh (Same.refl H) nq rfl⟩
        | true =>
          refine (if_neg Bool.false_ne_true).mpr ?_
          rw [if_neg (by rw [hw]; decide)] at k
          refine ⟨_, rfl, d, _, dx, _, _, rfl, hD.ins, T.C_Dispute, T.a_Dispute_appeals, rfl, laa, _, rfl, .inl (SqL.of hD.la), rfl, _, rfl, ?_⟩
          have hal : as.length = s.appeals.length := Paired.length hD.as
          rw [decI, List.length_map, hal]
          have h8 := hD.ok.apl
          by_cases hf : s.appeals.length = 8
          · refine (if_pos (by rw [decide_eq_true_iff]; omega)).mpr ?_
            rw [if_pos (by omega)] at k
            exact ⟨(by show 1 ≤ sizeLine; decide), fun q nq => Told.read k hD0 hp.fresh (Same.refl H) nq rfl⟩
          · refine (if_neg (by rw [decide_eq_true_iff]; omega)).mpr ?_
            rw [if_neg (by omega)] at k
            refine ⟨_, rfl, d, _, dx, _, _, rfl, hD.ins, T.C_Dispute, T.a_Dispute_appeals, rfl, .inl ⟨rfl, _, SqL.of hD.la⟩, _, rfl, _, rfl, (by show 2 ≤ sizeLine; decide), fun t nt => ?_⟩
            have s1 : Same H (upd H t (.tup [.int (o' : Int), .int (m' : Int)])) := same_new nt
            have gt : upd H t (.tup [.int (o' : Int), .int (m' : Int)]) t = some (.tup [.int (o' : Int), .int (m' : Int)]) := upd_same
            have hN1 : ∀ b, upd H t (.tup [.int (o' : Int), .int (m' : Int)]) b = Option.none → N b := fun b hb => hp.fresh b (s1.free hb)
            have nt' := hp.fresh t nt
            have hD1 := hD.same s1
            have hk1 := Told.from k s1
            generalize upd H t (.tup [.int (o' : Int), .int (m' : Int)]) = H1 at s1 gt hN1 hD1 hk1
            refine ⟨laa, _, _, rfl, rfl, hD1.la, ?_, ?_⟩
            · rw [List.length_map, hal]
              exact Nat.lt_of_le_of_lt h8 (by decide)
            have dla : d ≠ laa := ne_of hD.ins hD.la (by intro z; cases z)
            have up : ∀ b o, b ≠ laa → H1 b = some o → upd H1 laa (.lst (as.map V.ref ++ [.ref t])) b = some o := fun b o hb e => by rw [upd_ne hb]; exact e
            have nN : ∀ b, N b → b ≠ laa := fun b nb z => hD.nla (z ▸ nb)
            have kf : Keep N H1 (upd H1 laa (.lst (as.map V.ref ++ [.ref t]))) := fun b o nb e => up b o (nN b nb) e
            have dom : ∀ b, upd H1 laa (.lst (as.map V.ref ++ [.ref t])) b = Option.none → H1 b = Option.none := fun b hb => (upd_none hb).2
            refine ⟨_, rfl, d, _, dx, _, _, rfl, up _ _ dla hD1.ins, T.C_Dispute, T.a_Dispute_appeals, rfl, laa, _, rfl, .inl (SqL.of upd_same), _, _, rfl, rfl, (by show 1 ≤ sizeLine; decide), fun q nq => ?_⟩
            refine Told.done (s' := { s with appeals := s.appeals ++ [(o', m')] }) (ans := [(s.appeals.length : Int)]) hk1 (Step.mk (N' := N) (M' := M) (fun b o nb e => up b o (fun z => nb (z ▸ hD.mla)) e) dom (fun b _ => Iff.rfl) (fun b hb => hN1 b (dom b hb)) (fun b nb _ => nb) ⟨dx, lp, lc, lt, lr, laa, sk, ps, cs, ts, as ++ [t], ?_⟩) (Same.refl _) nq ?_
            · refine ⟨hD.md, hD.mlp, hD.mlr, hD.mla, hD.nm, hD.nlc, hD.plr, hD.pla, hD.rla, up _ _ dla hD1.ins, up _ _ hD.pla hD1.lp, up _ _ (nN _ hD.nlc) hD1.lc, up _ _ hD.rla hD1.lr, ?_, Paired.mapP hD1.ps fun _ _ q => q.keep kf, Paired.mapP hD1.cs fun _ _ q => q.keep kf, Paired.snoc (Paired.mapP hD1.as fun _ _ q => ⟨q.1, kf _ _ q.1 q.2⟩) ⟨nt', kf _ _ nt' gt⟩, (hD1.st.keep kf).state Iff.rfl rfl rfl rfl rfl, ?_⟩
              · rw [upd_same, List.map_append]
                rfl
              · have o := hD.ok
                refine ⟨⟨o.inv.n6, o.inv.srt, o.inv.nol, o.inv.beh, o.inv.tkl, o.inv.tkp, o.inv.pl⟩, o.wf, o.rq, o.rql, fun q hq => ?_, ?_, o.fst, o.day, o.f0, o.ph⟩
                · have hq : q ∈ s.appeals ++ [(o', m')] := hq
                  rw [List.mem_append, List.mem_singleton] at hq
                  rcases hq with hq | rfl
                  · exact o.ap q hq
                  · exact hm
                · show (s.appeals ++ [(o', m')]).length ≤ 8
                  rw [List.length_append]
                  show s.appeals.length + 1 ≤ 8
                  omega
            · show [V.int (((as.map V.ref ++ [V.ref t]).length : Int) - 1)] = [V.int (s.appeals.length : Int)]
              rw [List.length_append, List.length_map, hal]
              congr 2
              show ((s.appeals.length + 1 : Nat) : Int) - 1 = _
              omega
    · refine (if_pos (by simp; omega)).mpr ((if_pos rfl).mpr ?_)
      rw [if_pos (Or.inl h1)] at k
      exact ⟨(by show 1 ≤ sizeLine; decide), fun q nq => Told.read k hD0 hp.fresh (Same.refl H) nq rfl⟩

theorem count_filter (o : Nat) : ∀ l : List (Nat × Vbptam.Mask), (l.length : Int) - ((l.filter fun a => a.1 != o).length : Int) = ((l.countP fun a => a.1 == o : Nat) : Int)
  | [] => rfl
  | a :: l => by
    have ih := count_filter o l
    rw [List.filter_cons, List.countP_cons]
    by_cases h : a.1 = o
    · have h1 : (a.1 != o) = false := by simp [h]
      have h2 : (a.1 == o) = true := by simp [h]
      rw [h1, h2]
      simp only [List.length_cons, Bool.false_eq_true, if_false, if_true]
      omega
    · have h1 : (a.1 != o) = true := by simp [h]
      have h2 : (a.1 == o) = false := by simp [h]
      rw [h1, h2]
      simp only [List.length_cons, Bool.false_eq_true, if_false, if_true]
      omega
theorem ok_withdraw (T : Txt K mg A) : FnOk P w K mg base CX0 2 A.f_withdraw A.fd_withdraw ["dispute", "call"] (spH A 7) := by
  refine T.F_withdraw.ok sc_withdraw (fun vs H Q E h => ?_) (fun cdv Ar outer sh H vs Q E hr h => ?_)
  · obtain ⟨d, kk, s, c, p, a, r, N, M, rfl, _⟩ := h
    rfl
  · obtain ⟨d, kk, s, c, p, a, r, N, M, rfl, hp, hnum, k⟩ := h
    obtain ⟨o, rfl, rfl, rfl⟩ := hp.form.is7 hnum
    have hst := hp.step (dd := .withdraw o) rfl
    have hrg : Vbptam.inside o 0 2 = true := hp.range (dd := .withdraw o) rfl
    obtain ⟨o', rfl, _, _⟩ := nat_of hrg (by decide)
    obtain ⟨dk, la, rv, hC⟩ := hp.call
    have hD0 := hp.disp
    obtain ⟨dx, lp, lc, lt, lr, laa, sk, ps, cs, ts, as, hD⟩ := id hp.disp
    have ea : Vbptam.act s (.withdraw (o' : Int)) = if s.phase = 0 ∨ s.phase = 3 then (s, [-6]) else ({ s with appeals := s.appeals.filter fun a => a.1 != o' }, Vbptam.ints [s.appeals.countP fun a => a.1 == o']) := rfl
    rw [hst, ea] at k
    refine ⟨_, (pss_cons (ps_if (pt_not (pt_truth (pe_meth0 (pv 0) T.C_Dispute T.M_Dispute_is_running (ok_Dispute_is_running T) hr (b_Dispute_is_running T) .nil pass0) (fun _ => rfl))) (pss_one (ps_ret (pe_lst (pa_cons (pe_gint rfl T.g_NOT_NOW) pa_nil)))) pss_nil)
      (pss_cons (ps_set (i := 2) sc_withdraw.nd rfl (Or.inl rfl) (pe_callB call_len_seq rfl T.n_len PySem.boot_len (pa_cons (pe_fld (pv 0) rfl) pa_nil)))
      (pss_cons (ps_fld (pv 0) (pe_lc (own := [("made", 3)]) rfl sc_withdraw.nd (pi_list (pe_fld (pv 0) rfl)) (blkOk_by (by kernel_rfl)) (fun _ _ _ _ _ => (pg_name (i := 3) sc_withdraw.nd rfl (Or.inl rfl))) (fun _ _ _ _ _ => (pts_one (pt_cmpR op_ne (pe_ix (ix_tupK (K := K) rfl) (pv 3) pe_int (fun _ _ => rfl)) (pe_ix (ix_listK (K := K) rfl) (pe_fldK (K := K) rfl (pv 1) rfl) pe_int (fun _ _ => rfl)) (nomark _)))) (fun _ _ _ _ _ => (pv 3))) rfl)
      (pss_one (ps_ret (pe_lst (pa_cons (pe_op op_sub (pv 2) (pe_callB call_len_seq rfl T.n_len PySem.boot_len (pa_cons (pe_fld (pv 0) rfl) pa_nil))) pa_nil))))))), ?_⟩
    refine ⟨_, rfl, d, dx, _, rfl, hD.ins, rfl, d, s, N, M, rfl, hD0, fun H1 s1 => ⟨_, rfl, ?_⟩⟩
    by_cases hrun : s.phase = 1 ∨ s.phase = 2
    · refine (if_neg (by rw [decide_eq_true hrun]; exact Bool.false_ne_true)).mpr ?_
      rw [if_neg (by omega)] at k
      have hD1 := hD.same s1
      have hk1 := Told.from k s1
      have hN1 : ∀ b, H1 b = Option.none → N b := fun b hb => hp.fresh b (s1.free hb)
      have hC1 := s1 _ _ hC.ins
      have hC2 := s1 _ _ hC.arg
      have hal : as.length = s.appeals.length := Paired.length hD.as
      refine ⟨_, rfl, d, _, dx, _, _, rfl, hD1.ins, T.C_Dispute, T.a_Dispute_appeals, rfl, laa, _, rfl, .inl (SqL.of hD1.la), ?_⟩
      refine ⟨_, rfl, d, _, dx, _, _, rfl, hD1.ins, T.C_Dispute, T.a_Dispute_appeals, rfl, laa, rfl, ⟨_, SqL.of hD1.la⟩, fun D nD => ?_⟩
      refine lc_list (K := K) (a := laa) (xs := as.map V.ref) (fun i H' => Same H1 H' ∧ ∃ qs : List Addr, H' D = some (.lst (qs.map V.ref)) ∧ Paired (fun a (q : Nat × Vbptam.Mask) => N a ∧ H1 a = some (.tup [.int q.1, .int q.2])) qs ((s.appeals.take i).filter fun a => a.1 != o')) ⟨same_new nD, [], upd_same, .nil⟩ (fun i H' _ ⟨s2, _⟩ => SqL.of (s2 _ _ hD1.la)) ?_ ?_
      · rintro i v H' hv ⟨s2, qs, gD, hq⟩
        rw [List.getElem?_map] at hv
        cases ei : as[i]? with
        | none => rw [ei] at hv; cases hv
        | some t =>
          rw [ei] at hv
          cases hv
          obtain ⟨q, hq2, hqa⟩ := Paired.getR hD1.as ei
          have e1 : s.appeals.take (i + 1) = s.appeals.take i ++ [q] := by rw [List.take_add_one, hq2]; rfl
          refine ⟨rfl, _, rfl, t, _, _, _, rfl, rfl, SqT.of (s2 _ _ hqa.2), rfl, _, rfl, kk, _, dk, _, _, rfl, s2 _ _ hC1, T.C_Call, T.a_Call_arguments, rfl, la, _, _, _, rfl, rfl, SqL.of (s2 _ _ hC2), rfl, rfl, _, rfl, ?_⟩
          rw [decI]
          by_cases ho : q.1 = o'
          · refine (if_neg (by simp [ho])).mpr ⟨s2, qs, gD, ?_⟩
            rw [e1, List.filter_append, List.filter_cons, if_neg (by simp [ho]), List.filter_nil, List.append_nil]
            exact hq
          · refine (if_pos (by simp; omega)).mpr ?_
            refine ⟨_, rfl, _, gD, ?_, fun b o e => ?_, qs ++ [t], ?_, ?_⟩
            · rw [List.length_map, Paired.length hq]
              refine Nat.lt_of_le_of_lt (List.length_filter_le _ _) ?_
              rw [List.length_take]
              exact Nat.lt_of_le_of_lt (Nat.min_le_right _ _) (Nat.lt_of_le_of_lt hD.ok.apl (by decide))
            · rw [upd_ne (ne_of_none e nD)]
              exact s2 _ _ e
            · rw [upd_same, List.map_append]
              rfl
            · rw [e1, List.filter_append, List.filter_cons, if_pos (by simp [ho]), List.filter_nil]
              exact Paired.snoc hq hqa
      · rintro H3 ⟨s3, qs, gD, hq⟩
        rw [List.length_map, hal, List.take_length] at hq
        refine ⟨_, rfl, d, _, dx, _, rfl, s3 _ _ hD1.ins, T.C_Dispute, T.a_Dispute_appeals, (by show 14 < 1000; decide), ?_⟩
        have dD : D ≠ d := fun e => by rw [e, hD1.ins] at nD; cases nD
        have up : ∀ b o, b ≠ d → H3 b = some o → upd H3 d (.ins A.c_Dispute dx (dispF { s with appeals := s.appeals.filter fun a => a.1 != o' } sk lp lc lt lr D)) b = some o := fun b o hb e => by rw [upd_ne hb]; exact e
        have nN : ∀ b, N b → b ≠ d := fun b nb z => hD.nd (z ▸ nb)
        have kf : Keep N H1 (upd H3 d (.ins A.c_Dispute dx (dispF { s with appeals := s.appeals.filter fun a => a.1 != o' } sk lp lc lt lr D))) := fun b o nb e => up b o (nN b nb) (s3 _ _ e)
        have dom : ∀ b, upd H3 d (.ins A.c_Dispute dx (dispF { s with appeals := s.appeals.filter fun a => a.1 != o' } sk lp lc lt lr D)) b = Option.none → H1 b = Option.none := fun b hb => s3.free (upd_none hb).2
        refine ⟨_, rfl, _, rfl, d, _, dx, _, _, rfl, upd_same, T.C_Dispute, T.a_Dispute_appeals, rfl, D, _, rfl, .inl (SqL.of (up _ _ dD gD)), _, _, rfl, rfl, (by show 1 ≤ sizeLine; decide), fun q nq => ?_⟩
        have hw : ∀ b, N b → H1 b ≠ Option.none → (N b ∧ b ≠ D) := fun b nb hb => ⟨nb, fun z => hb (z ▸ nD)⟩
        have kf2 : Keep (fun b => N b ∧ b ≠ D) H1 (upd H3 d (.ins A.c_Dispute dx (dispF { s with appeals := s.appeals.filter fun a => a.1 != o' } sk lp lc lt lr D))) := fun b o nb e => kf b o nb.1 e
        refine Told.done (s' := { s with appeals := s.appeals.filter fun a => a.1 != o' }) (ans := Vbptam.ints [s.appeals.countP fun a => a.1 == o']) hk1 (Step.mk (N' := fun b => N b ∧ b ≠ D) (M' := fun b => M b ∨ b = D) (fun b o nb e => up b o (fun z => nb (z ▸ hD.md)) (s3 _ _ e)) dom (fun b hb => ⟨fun z => z.1, fun z => hw b z hb⟩) (fun b hb => ⟨hN1 b (dom b hb), fun z => by rw [z, up _ _ dD gD] at hb; cases hb⟩) (fun b nb hb z => z.elim nb fun y => hb (y ▸ nD)) ⟨dx, lp, lc, lt, lr, D, sk, ps, cs, ts, qs, ?_⟩) (Same.refl _) nq ?_
        · refine ⟨.inl hD.md, .inl hD.mlp, .inl hD.mlr, .inr rfl, fun b nb z => z.elim (hD.nm b nb.1) nb.2, hw _ hD.nlc (by rw [hD1.lc]; simp), hD.plr, ne_of_none hD1.lp nD, ne_of_none hD1.lr nD, upd_same, up _ _ (ne_of hD.lp hD.ins (by intro z; cases z)) (s3 _ _ hD1.lp), up _ _ (nN _ hD.nlc) (s3 _ _ hD1.lc), up _ _ (ne_of hD.lr hD.ins (by intro z; cases z)) (s3 _ _ hD1.lr), up _ _ dD gD, Paired.mapP hD1.ps fun _ _ q => (q.renew hw).keep kf2, Paired.mapP hD1.cs fun _ _ q => (q.renew hw).keep kf2, Paired.mapP hq fun _ _ q => ⟨hw _ q.1 (by rw [q.2]; simp), kf _ _ q.1 q.2⟩, ((hD1.st.renew hw).keep kf2).state Iff.rfl rfl rfl rfl rfl, ?_⟩
          have o := hD.ok
          refine ⟨⟨o.inv.n6, o.inv.srt, o.inv.nol, o.inv.beh, o.inv.tkl, o.inv.tkp, o.inv.pl⟩, o.wf, o.rq, o.rql, fun q hq => o.ap q (List.mem_filter.mp hq).1, Nat.le_trans (List.length_filter_le _ _) o.apl, o.fst, o.day, o.f0, o.ph⟩
        · show [V.int (((as.map V.ref).length : Int) - ((qs.map V.ref).length : Int))] = [V.int ((s.appeals.countP fun a => a.1 == o' : Nat) : Int)]
          rw [List.length_map, List.length_map, hal, Paired.length hq, count_filter]
    · refine (if_pos (by rw [decide_eq_false hrun]; rfl)).mpr ?_
      have h3 := hD.ok.ph
      rw [if_pos (by omega)] at k
      exact ⟨(by show 1 ≤ sizeLine; decide), fun q nq => Told.read k hD0 hp.fresh s1 nq rfl⟩
end
end Op


set_option Elab.async false
set_option linter.all false
set_option maxRecDepth 100000
set_option maxHeartbeats 4000000
namespace Op
open PySem PySem.Spec PyProof.Rows L2
structure Txt2 (K : PySem.W.Frag) (A : Adr) : Prop where
  rng : RngOk K A
  chg : A.v_CHANGES = [(0, A.f_begin_case), (1, A.f_attack), (2, A.f_prove), (3, A.f_request), (4, A.f_tick), (5, A.f_decide), (6, A.f_appeal), (7, A.f_withdraw), (8, A.f_close_case)]
  abt : A.v_ABOUT_CLAIM = [(10, A.f_tell_fact), (11, A.f_tell_why), (12, A.f_tell_fewest), (14, A.f_tell_let_in)]
  qst : A.v_QUESTIONS = [(9, A.f_alive), (10, A.f_about_claim), (11, A.f_about_claim), (12, A.f_about_claim), (13, A.f_without), (14, A.f_about_claim), (15, A.f_tell_piece), (16, A.f_tell_requests), (17, A.f_tell_appeals), (18, A.f_status), (19, A.f_would)]
section
variable {P : Program} {w : World} {K : PySem.W.Frag} {mg : Str → Option Value} {base : Heap} {A : Adr}
def sp_answer_change (A : Adr) : Sp := fun vs H Q _ => ∃ (d kk : Addr) (s : Vbptam.State) (c : List (List Int)) (p : Int) (a : List Int) (r : Option (List Int)) (N M : Addr → Prop), vs = [.ref d, .ref kk] ∧ HPre A N M H d kk s c p a r ∧ p ≤ 8 ∧ Told A N M H d (Vbptam.step s c) Q
theorem ok_answer_change (T : Txt K mg A) (T2 : Txt2 K A) : FnOk P w K mg base CX0 10 A.f_answer_change A.fd_answer_change ["dispute", "call"] (sp_answer_change A) := by
  refine T.F_answer_change.ok sc_answer_change (fun vs H Q E h => ?_) (fun cdv Ar outer sh H vs Q E hr h => ?_)
  · obtain ⟨d, kk, s, c, p, a, r, N, M, rfl, _⟩ := h
    rfl
  · obtain ⟨d, kk, s, c, p, a, r, N, M, rfl, hp, hp8, k⟩ := h
    have FF : ∀ k a, atM A.v_CHANGES k = some a → ∃ fd ps, FnOk P w K mg base CX0 9 a fd ps (spH A k) ∧ Binds K fd ps [] ∧ PySem.W.keepIn K (.ref a) = true := by
      intro k a ha
      rw [T2.chg] at ha
      unfold atM at ha
      simp only [List.find?_cons, List.find?_nil] at ha
      by_cases h0 : k = 0
      · subst h0; cases ha; exact ⟨_, _, (ok_begin_case T).mono (by decide), b_begin_case T, T.F_begin_case.kp⟩
      by_cases h1 : k = 1
      · subst h1; cases ha; exact ⟨_, _, (ok_attack T).mono (by decide), b_attack T, T.F_attack.kp⟩
      by_cases h2 : k = 2
      · subst h2; cases ha; exact ⟨_, _, (ok_prove T).mono (by decide), b_prove T, T.F_prove.kp⟩
      by_cases h3 : k = 3
      · subst h3; cases ha; exact ⟨_, _, (ok_request T).mono (by decide), b_request T, T.F_request.kp⟩
      by_cases h4 : k = 4
      · subst h4; cases ha; exact ⟨_, _, (ok_tick T).mono (by decide), b_tick T, T.F_tick.kp⟩
      by_cases h5 : k = 5
      · subst h5; cases ha; exact ⟨_, _, ok_decide T, b_decide T, T.F_decide.kp⟩
      by_cases h6 : k = 6
      · subst h6; cases ha; exact ⟨_, _, (ok_appeal T).mono (by decide), b_appeal T, T.F_appeal.kp⟩
      by_cases h7 : k = 7
      · subst h7; cases ha; exact ⟨_, _, (ok_withdraw T).mono (by decide), b_withdraw T, T.F_withdraw.kp⟩
      by_cases h8 : k = 8
      · subst h8; cases ha; exact ⟨_, _, ok_close_case T, b_close_case T, T.F_close_case.kp⟩
      exfalso
      have f : ∀ j : Int, k ≠ j → (j == k) = false := fun j h => by simpa using fun e : j = k => h e.symm
      rw [f 0 h0, f 1 h1, f 2 h2, f 3 h3, f 4 h4, f 5 h5, f 6 h6, f 7 h7, f 8 h8] at ha
      cases ha
    refine ⟨_, (pss_one (ps_ret (pe_mcall (sp := fun k => spH A k) T.d_CHANGES rfl T.g_CHANGES hr FF (pe_fld (pv 1) rfl) (pa_cons (pv 0) (pa_cons (pv 1) pa_nil))))), ?_⟩
    obtain ⟨dk, la, rv, hC⟩ := id hp.call
    obtain ⟨kp, ekp, hkp⟩ := hp.form.small
    have hat : ∃ f, atM A.v_CHANGES p = some f := by
      rw [T2.chg, ekp]
      rw [ekp] at hp8
      match kp, (show kp ≤ 8 by omega) with
      | 0, _ => exact ⟨_, rfl⟩
      | 1, _ => exact ⟨_, rfl⟩
      | 2, _ => exact ⟨_, rfl⟩
      | 3, _ => exact ⟨_, rfl⟩
      | 4, _ => exact ⟨_, rfl⟩
      | 5, _ => exact ⟨_, rfl⟩
      | 6, _ => exact ⟨_, rfl⟩
      | 7, _ => exact ⟨_, rfl⟩
      | 8, _ => exact ⟨_, rfl⟩
    obtain ⟨f, hf⟩ := hat
    exact ⟨_, rfl, kk, _, dk, _, _, rfl, hC.ins, T.C_Call, T.a_Call_number, rfl, p, f, rfl, hf, _, rfl, _, rfl, d, kk, s, c, p, a, r, N, M, rfl, hp, rfl, k⟩

structure CPre (A : Adr) (N M : Addr → Prop) (H : Hp) (d kk : Addr) (s : Vbptam.State) (c : List (List Int)) (p : Int) (a : List Int) (r : Option (List Int)) : Prop where
  disp : DispAt A N M H d s
  call : CallAt A N H kk p a r
  form : Form c p a r
  fresh : ∀ b, H b = Option.none → N b
  row : rowLen r ≤ 20
def sp_answer_question (A : Adr) : Sp := fun vs H Q _ => ∃ (d kk : Addr) (s : Vbptam.State) (c : List (List Int)) (p : Int) (a : List Int) (r : Option (List Int)) (N M : Addr → Prop), vs = [.ref d, .ref kk] ∧ HPre A N M H d kk s c p a r ∧ 8 < p ∧ Told A N M H d (Vbptam.step s c) Q
def sp_answer_call (A : Adr) : Sp := fun vs H Q _ => ∃ (d kk : Addr) (s : Vbptam.State) (c : List (List Int)) (p : Int) (a : List Int) (r : Option (List Int)) (N M : Addr → Prop), vs = [.ref d, .ref kk] ∧ CPre A N M H d kk s c p a r ∧ Told A N M H d (Vbptam.step s c) Q
theorem ok_answer_call (T : Txt K mg A) (T2 : Txt2 K A) (GQ : FnOk P w K mg base CX0 9 A.f_answer_question A.fd_answer_question ["dispute", "call"] (sp_answer_question A)) : FnOk P w K mg base CX0 11 A.f_answer_call A.fd_answer_call ["dispute", "call"] (sp_answer_call A) := by
  refine T.F_answer_call.ok sc_answer_call (fun vs H Q E h => ?_) (fun cdv Ar outer sh H vs Q E hr h => ?_)
  · obtain ⟨d, kk, s, c, p, a, r, N, M, rfl, _⟩ := h
    rfl
  · obtain ⟨d, kk, s, c, p, a, r, N, M, rfl, hp, k⟩ := h
    refine ⟨_, (pss_cons (ps_if (pt_not (pt_truth (pe_call (ok_is_as_told T T2.rng) (hr.mono (by decide)) rfl T.m_is_as_told T.F_is_as_told.kp (b_is_as_told T) .nil pass0 (pa_cons (pv 1) pa_nil)) (fun _ => rfl))) (pss_one (ps_ret (pe_lst (pa_cons (pe_gint rfl T.g_NOT_AS_TOLD) pa_nil)))) pss_nil)
      (pss_cons (ps_if (pt_cmpR op_le (pe_fld (pv 1) rfl) (pe_gint rfl T.g_LAST_CHANGE) (nomark _)) (pss_one (ps_ret (pe_call (ok_answer_change T T2) (hr.mono (by decide)) rfl T.m_answer_change T.F_answer_change.kp (b_answer_change T) .nil pass0 (pa_cons (pv 0) (pa_cons (pv 1) pa_nil))))) pss_nil)
      (pss_one (ps_ret (pe_call GQ (hr.mono (by decide)) rfl T.m_answer_question T.F_answer_question.kp (b_answer_question T) .nil pass0 (pa_cons (pv 0) (pa_cons (pv 1) pa_nil))))))), ?_⟩
    refine ⟨_, rfl, kk, c, p, a, r, N, rfl, hp.call, hp.form, Nat.le_trans hp.row (by decide), fun H1 s1 => ⟨_, rfl, ?_⟩⟩
    cases hok : callOk p a r with
    | false =>
      refine (if_pos rfl).mpr ⟨(by show 1 ≤ sizeLine; decide), fun q nq => ?_⟩
      obtain ⟨dd, e1, e2⟩ := decode_form hp.form
      have est : Vbptam.step s c = (s, [-1]) := by
        unfold Vbptam.step
        rw [e1]
        show (if Vbptam.inRange dd = false then _ else _) = _
        rw [if_pos (by rw [e2, hok])]
      rw [est] at k
      exact Told.read k hp.disp hp.fresh s1 nq rfl
    | true =>
      refine (if_neg Bool.false_ne_true).mpr ?_
      obtain ⟨dk, la, rv, hC⟩ := id hp.call
      have pre : HPre A N M H1 d kk s c p a r := ⟨hp.disp.same s1, hp.call.keep (Keep.of s1), hp.form, hok, fun b hb => hp.fresh b (s1.free hb), hp.row⟩
      refine ⟨_, rfl, kk, _, dk, _, _, rfl, s1 _ _ hC.ins, T.C_Call, T.a_Call_number, rfl, _, _, rfl, rfl, _, rfl, ?_⟩
      by_cases h8 : p ≤ 8
      · refine (if_pos (decide_eq_true h8)).mpr ?_
        exact ⟨_, rfl, _, rfl, d, kk, s, c, p, a, r, N, M, rfl, pre, h8, Told.from k s1⟩
      · refine (if_neg (by rw [decide_eq_true_iff]; exact h8)).mpr ?_
        exact ⟨_, rfl, _, rfl, d, kk, s, c, p, a, r, N, M, rfl, pre, by omega, Told.from k s1⟩
end
end Op


set_option Elab.async false
set_option linter.all false
set_option maxRecDepth 100000
set_option maxHeartbeats 4000000
namespace Op
open PySem PySem.Spec PyProof.Rows L2
def b01 (b : Bool) : Int := if b = true then 1 else 0
theorem counted_nv (l : List Nat) : [V.int ((nv l).length : Nat)] ++ nv l = (Vbptam.counted l).map V.int := by
  show V.int (((l.map fun (n : Nat) => V.int n).length : Nat) : Int) :: nv l = V.int (l.length : Nat) :: (l.map fun (n : Nat) => (n : Int)).map V.int
  rw [List.length_map, List.map_map]
  rfl
section
variable {P : Program} {w : World} {K : PySem.W.Frag} {mg : Str → Option Value} {base : Heap} {A : Adr}
def sp_as_number : Sp := fun vs H Q _ => ∃ b : Bool, vs = [.bl b] ∧ Q (.int (b01 b)) H
theorem ok_as_number (T : Txt K mg A) : FnOk P w K mg base CX0 1 A.f_as_number A.fd_as_number ["truth"] sp_as_number := by
  refine T.F_as_number.ok sc_as_number (fun vs H Q E h => ?_) (fun cdv Ar outer sh H vs Q E hr h => ?_)
  · obtain ⟨b, rfl, _⟩ := h
    rfl
  · obtain ⟨b, rfl, k⟩ := h
    refine ⟨_, (pss_one (ps_ret (pe_ifExp (pt_truth (pv 0) (fun _ => rfl)) pe_int pe_int))), ?_⟩
    refine ⟨_, rfl, _, rfl, ?_⟩
    cases b with
    | true => exact (if_pos rfl).mpr k
    | false => exact (if_neg Bool.false_ne_true).mpr k
def sp_counted_as_asked (A : Adr) : Sp := fun vs H Q _ => ∃ (d kk : Addr) (s : Vbptam.State) (p : Int) (c : Nat) (a : List Int) (r : Option (List Int)) (N M : Addr → Prop), vs = [.ref d, .ref kk] ∧ DispAt A N M H d s ∧ CallAt A N H kk p ((c : Int) :: a) r ∧ c < s.n ∧
  ∀ q, CountedAt A N H q c s.bar (countN s c) → Q (.ref q) H
theorem ok_counted_as_asked (T : Txt K mg A) : FnOk P w K mg base CX0 1 A.f_counted_as_asked A.fd_counted_as_asked ["dispute", "call"] (sp_counted_as_asked A) := by
  refine T.F_counted_as_asked.ok sc_counted_as_asked (fun vs H Q E h => ?_) (fun cdv Ar outer sh H vs Q E hr h => ?_)
  · obtain ⟨d, kk, s, p, c, a, r, N, M, rfl, _⟩ := h
    rfl
  · obtain ⟨d, kk, s, p, c, a, r, N, M, rfl, ⟨dx, lp, lc, lt, lr, la, sk, ps, cs, ts, as, hD⟩, ⟨dk, lar, rv, hC⟩, hc, k⟩ := h
    refine ⟨_, (pss_one (ps_ret (pe_ix ix_list (pe_fld (pv 0) rfl) (pe_ix ix_list (pe_fld (pv 1) rfl) pe_int (fun _ _ => rfl)) (fun _ _ => rfl)))), ?_⟩
    have hcl : cs.length = s.n := by rw [Paired.length hD.cs, List.length_range]
    obtain ⟨q, hq⟩ : ∃ q, cs[c]? = some q := ⟨_, List.getElem?_eq_getElem (by omega)⟩
    obtain ⟨c', hc', hQ⟩ := Paired.getR hD.cs hq
    rw [List.getElem?_range hc] at hc'
    cases hc'
    exact ⟨_, rfl, d, _, dx, _, _, rfl, hD.ins, T.C_Dispute, T.a_Dispute_counted, rfl, _, rfl, kk, _, dk, _, _, rfl, hC.ins, T.C_Call, T.a_Call_arguments, rfl, lar, _, _, V.int (c : Nat), rfl, rfl, SqL.of hC.arg, atI_nat (j := 0) rfl, lc, _, _, V.ref q, rfl, rfl, SqL.of hD.lc, atI_nat (by rw [List.getElem?_map, hq]; rfl), k q hQ⟩
def spT (A : Adr) (num : Int) : Sp := fun vs H Q _ => ∃ (d kk : Addr) (s : Vbptam.State) (c : List (List Int)) (p : Int) (a : List Int) (r : Option (List Int)) (N M : Addr → Prop), vs = [.ref d, .ref kk] ∧ HPre A N M H d kk s c p a r ∧ p = num ∧ s.phase ≠ 0 ∧ (∃ (c0 : Nat) (rest : List Int), a = (c0 : Int) :: rest ∧ c0 < s.n) ∧ Told A N M H d (Vbptam.step s c) Q
theorem ok_tell_fact (T : Txt K mg A) : FnOk P w K mg base CX0 2 A.f_tell_fact A.fd_tell_fact ["dispute", "call"] (spT A 10) := by
  refine T.F_tell_fact.ok sc_tell_fact (fun vs H Q E h => ?_) (fun cdv Ar outer sh H vs Q E hr h => ?_)
  · obtain ⟨d, kk, s, c, p, a, r, N, M, rfl, _⟩ := h
    rfl
  · obtain ⟨d, kk, s, c, p, a, r, N, M, rfl, hp, hnum, h0, ⟨c0, rest, ea0, hc0⟩, k⟩ := h
    obtain ⟨x0, x1, rfl, rfl, rfl⟩ := hp.form.is10 hnum
    cases ea0
    have hst := hp.step (dd := .fact (c0 : Int) x1) rfl
    have hrg : (Vbptam.inside (c0 : Int) 0 5 && Vbptam.inside x1 0 7) = true := hp.range (dd := .fact (c0 : Int) x1) rfl
    rw [Bool.and_eq_true] at hrg
    obtain ⟨f, rfl, _, hf7⟩ := nat_of hrg.2 (by decide)
    obtain ⟨dk, la, rv, hC⟩ := id hp.call
    have ea : Vbptam.act s (.fact (c0 : Int) (f : Int)) = if s.phase = 0 then (s, [-6]) else if s.n ≤ c0 then (s, [-5]) else (s, [b01 (Vbptam.proven s.bar (Vbptam.counting s c0) f), Vbptam.sumFor (Vbptam.counting s c0) f]) := rfl
    rw [hst, ea, if_neg h0, if_neg (by omega), ← countN_snds] at k
    refine ⟨_, (pss_cons (ps_set (i := 2) sc_tell_fact.nd rfl (Or.inl rfl) (pe_call (ok_counted_as_asked T) (hr.mono (by decide)) rfl T.m_counted_as_asked T.F_counted_as_asked.kp (b_counted_as_asked T) .nil pass0 (pa_cons (pv 0) (pa_cons (pv 1) pa_nil))))
      (pss_cons (ps_set (i := 3) sc_tell_fact.nd rfl (Or.inl rfl) (pe_ix ix_list (pe_fld (pv 1) rfl) pe_int (fun _ _ => rfl)))
      (pss_one (ps_ret (pe_lst (pa_cons (pe_call (ok_as_number T) (hr.mono (by decide)) rfl T.m_as_number T.F_as_number.kp (b_as_number T) .nil pass0 (pa_cons (pe_meth (pv 2) T.C_Counted T.M_Counted_is_proven (ok_Counted_is_proven T) (hr.mono (by decide)) (b_Counted_is_proven T) .nil pass0 (pa_cons (pv 3) pa_nil)) pa_nil)) (pa_cons (pe_ix ix_list (pe_fld (pv 2) rfl) (pv 3) (fun _ _ => rfl)) pa_nil))))))), ?_⟩
    refine ⟨_, rfl, _, rfl, d, kk, s, p, c0, _, _, N, M, rfl, hp.disp, hp.call, hc0, fun q hQ0 => ?_⟩
    obtain ⟨dq, lpq, lsq, psq, hQ⟩ := id hQ0
    refine ⟨_, rfl, kk, _, dk, _, _, rfl, hC.ins, T.C_Call, T.a_Call_arguments, rfl, la, _, _, _, rfl, rfl, SqL.of hC.arg, rfl, ?_⟩
    have hf8 : f < 8 := by omega
    refine ⟨_, rfl, q, dq, _, rfl, hQ.ins, rfl, _, rfl, q, f, c0, s.bar, _, N, rfl, hQ0, hf8, _, rfl, _, rfl, q, _, dq, _, _, rfl, hQ.ins, T.C_Counted, T.a_Counted_support, rfl, _, rfl, lsq, _, _, V.int (Vbptam.sumFor (snds (countN s c0)) f), rfl, rfl, SqL.of hQ.ls, atI_nat (by rw [List.getElem?_map, table_at _ hf8]; rfl), (by show 2 ≤ sizeLine; decide), fun t nt => ?_⟩
    exact Told.read k hp.disp hp.fresh (Same.refl H) nt rfl
theorem down_of {N : Addr → Prop} {H : Hp} {as : List Addr} {s : Vbptam.State} {c : Nat} (h : Paired (PieceAt A N H) as ((countN s c).filter fun y => Vbptam.downs s.bar (snds (countN s c)) c y.2)) : Paired (PieceAt A N H) as (downN s c) := by
  unfold downN
  rw [← countN_snds]
  exact h
theorem ok_tell_why (T : Txt K mg A) : FnOk P w K mg base CX0 4 A.f_tell_why A.fd_tell_why ["dispute", "call"] (spT A 11) := by
  refine T.F_tell_why.ok sc_tell_why (fun vs H Q E h => ?_) (fun cdv Ar outer sh H vs Q E hr h => ?_)
  · obtain ⟨d, kk, s, c, p, a, r, N, M, rfl, _⟩ := h
    rfl
  · obtain ⟨d, kk, s, c, p, a, r, N, M, rfl, hp, hnum, h0, ⟨c0, rest, ea0, hc0⟩, k⟩ := h
    obtain ⟨x0, rfl, rfl, rfl⟩ := hp.form.is11 hnum
    cases ea0
    have hst := hp.step (dd := .why (c0 : Int)) rfl
    have ea : Vbptam.act s (.why (c0 : Int)) = (s, match (downN s c0).head? with | some y => [1, (y.1 : Int)] | none => [0]) := by
      show (if s.phase = 0 then _ else if s.n ≤ c0 then _ else _) = _
      rw [if_neg h0, if_neg (by omega)]
      exact congrArg (Prod.mk s) (why_down s c0)
    rw [hst, ea] at k
    refine ⟨_, (pss_cons (ps_set (i := 2) sc_tell_why.nd rfl (Or.inl rfl) (pe_meth0 (pe_call (ok_counted_as_asked T) (hr.mono (by decide)) rfl T.m_counted_as_asked T.F_counted_as_asked.kp (b_counted_as_asked T) .nil pass0 (pa_cons (pv 0) (pa_cons (pv 1) pa_nil))) T.C_Counted T.M_Counted_proven_attacks (ok_Counted_proven_attacks T) (hr.mono (by decide)) (b_Counted_proven_attacks T) .nil pass0))
      (pss_cons (ps_if (pt_cmpR op_eq (pe_callB call_len_seq rfl T.n_len PySem.boot_len (pa_cons (pv 2) pa_nil)) pe_int (nomark _)) (pss_one (ps_ret (pe_lst (pa_cons pe_int pa_nil)))) pss_nil)
      (pss_one (ps_ret (pe_lst (pa_cons pe_int (pa_cons (pe_fld (pe_ix ix_list (pv 2) pe_int (fun _ _ => rfl)) rfl) pa_nil))))))), ?_⟩
    refine ⟨_, rfl, _, rfl, d, kk, s, p, c0, _, _, N, M, rfl, hp.disp, hp.call, hc0, fun q hQ0 => ?_⟩
    obtain ⟨dq, lpq, lsq, psq, hQ⟩ := id hQ0
    refine ⟨q, dq, _, rfl, hQ.ins, rfl, q, c0, s.bar, _, N, rfl, hQ0, fun H1 t as s1 nt gt hP => ?_⟩
    have hP := down_of hP
    refine ⟨_, rfl, t, _, rfl, .inl (SqL.of gt), rfl, _, rfl, ?_⟩
    rw [decI, List.length_map]
    cases hd : downN s c0 with
    | nil =>
      rw [hd] at hP k
      cases hP
      refine (if_pos (by rfl)).mpr ⟨(by show 1 ≤ sizeLine; decide), fun u nu => ?_⟩
      exact Told.read k hp.disp hp.fresh s1 nu rfl
    | cons y l =>
      rw [hd] at hP k
      cases hP with
      | @cons pa _ as' _ hpy hrest =>
        refine (if_neg (by rw [decide_eq_true_iff]; show ¬ ((as'.length + 1 : Nat) : Int) = 0; omega)).mpr ?_
        obtain ⟨dp, f, wl, _, h1, h2, h3⟩ := hpy
        refine ⟨_, rfl, t, _, _, V.ref pa, rfl, rfl, SqL.of gt, atI_nat (j := 0) rfl, pa, _, dp, _, _, rfl, h1, T.C_Piece, T.a_Piece_number, rfl, (by show 2 ≤ sizeLine; decide), fun u nu => ?_⟩
        exact Told.read k hp.disp hp.fresh s1 nu rfl
theorem ok_tell_fewest (T : Txt K mg A) : FnOk P w K mg base CX0 4 A.f_tell_fewest A.fd_tell_fewest ["dispute", "call"] (spT A 12) := by
  refine T.F_tell_fewest.ok sc_tell_fewest (fun vs H Q E h => ?_) (fun cdv Ar outer sh H vs Q E hr h => ?_)
  · obtain ⟨d, kk, s, c, p, a, r, N, M, rfl, _⟩ := h
    rfl
  · obtain ⟨d, kk, s, c, p, a, r, N, M, rfl, hp, hnum, h0, ⟨c0, rest, ea0, hc0⟩, k⟩ := h
    obtain ⟨x0, rfl, rfl, rfl⟩ := hp.form.is12 hnum
    cases ea0
    have hst := hp.step (dd := .fewest (c0 : Int)) rfl
    have ea : Vbptam.act s (.fewest (c0 : Int)) = if s.phase = 0 then (s, [-6]) else if s.n ≤ c0 then (s, [-5]) else (s, Vbptam.counted (Vbptam.fewest (Vbptam.live s c0))) := rfl
    rw [hst, ea, if_neg h0, if_neg (by omega), live_eq] at k
    refine ⟨_, (pss_cons (ps_set (i := 2) sc_tell_fewest.nd rfl (Or.inl rfl) (pe_call (ok_fewest_facts T) (hr.mono (by decide)) rfl T.m_fewest_facts T.F_fewest_facts.kp (b_fewest_facts T) .nil pass0 (pa_cons (pe_meth0 (pe_call (ok_counted_as_asked T) (hr.mono (by decide)) rfl T.m_counted_as_asked T.F_counted_as_asked.kp (b_counted_as_asked T) .nil pass0 (pa_cons (pv 0) (pa_cons (pv 1) pa_nil))) T.C_Counted T.M_Counted_proven_attacks (ok_Counted_proven_attacks T) (hr.mono (by decide)) (b_Counted_proven_attacks T) .nil pass0) pa_nil)))
      (pss_one (ps_ret (pe_op op_cat (pe_lst (pa_cons (pe_callB call_len_seq rfl T.n_len PySem.boot_len (pa_cons (pv 2) pa_nil)) pa_nil)) (pv 2))))), ?_⟩
    refine ⟨_, rfl, _, rfl, d, kk, s, p, c0, _, _, N, M, rfl, hp.disp, hp.call, hc0, fun q hQ0 => ?_⟩
    obtain ⟨dq, lpq, lsq, psq, hQ⟩ := id hQ0
    refine ⟨q, dq, _, rfl, hQ.ins, rfl, q, c0, s.bar, _, N, rfl, hQ0, fun H1 t as s1 nt gt hP => ?_⟩
    have hP := down_of hP
    have hwf : ∀ y ∈ downN s c0, WfW y.2.what := fun y hy => hQ.wf y (List.mem_filter.mp hy).1
    have hne : ∀ y ∈ downN s c0, factsN y.2.what ≠ [] ∧ ∀ f ∈ factsN y.2.what, f < 8 := fun y hy => by
      have h1 := hwf y hy
      have h2 : Vbptam.downs s.bar (Vbptam.counting s c0) c0 y.2 = true := (List.mem_filter.mp hy).2
      unfold Vbptam.downs at h2
      cases hw : y.2.what with
      | attack e fs =>
        rw [hw] at h1
        exact ⟨h1.2.2, h1.1⟩
      | proof w => rw [hw] at h2; cases h2
    refine ⟨t, downN s c0, as, N, rfl, gt, hP, hwf, hne, fun H2 q2 s2 g2 => ?_⟩
    have hfl := fewest_len ((downN s c0).map fun y => factsN y.2.what)
    generalize Vbptam.fewest ((downN s c0).map fun y => factsN y.2.what) = l at k g2 hfl
    refine ⟨_, rfl, q2, _, rfl, .inl (SqL.of g2), (by show 1 ≤ sizeLine; decide), fun u nu => ?_⟩
    refine ⟨_, rfl, u, q2, _, _, rfl, rfl, upd_same, same_new nu _ _ g2, ?_, fun u2 nu2 => ?_⟩
    · rw [List.length_map]
      exact Nat.le_trans (show 1 + l.length ≤ 9 by omega) (by decide)
    · exact Told.read k hp.disp hp.fresh ((s1.trans s2).trans (same_new nu)) nu2 (counted_nv l)
theorem ok_tell_let_in (T : Txt K mg A) : FnOk P w K mg base CX0 2 A.f_tell_let_in A.fd_tell_let_in ["dispute", "call"] (spT A 14) := by
  refine T.F_tell_let_in.ok sc_tell_let_in (fun vs H Q E h => ?_) (fun cdv Ar outer sh H vs Q E hr h => ?_)
  · obtain ⟨d, kk, s, c, p, a, r, N, M, rfl, _⟩ := h
    rfl
  · obtain ⟨d, kk, s, c, p, a, r, N, M, rfl, hp, hnum, h0, ⟨c0, rest, ea0, hc0⟩, k⟩ := h
    obtain ⟨x0, rfl, rfl, rfl⟩ := hp.form.is14 hnum
    cases ea0
    obtain ⟨dx, lp, lc, lt, lr, laa, sk, ps, cs, ts, as, hD⟩ := id hp.disp
    have hst := hp.step (dd := .letIn (c0 : Int)) rfl
    have ea : Vbptam.act s (.letIn (c0 : Int)) = if s.phase = 0 then (s, [-6]) else if s.n ≤ c0 then (s, [-5]) else (s, Vbptam.counted ((Vbptam.let_ s c0).map fun b => if b = true then 1 else 0)) := rfl
    rw [hst, ea, if_neg h0, if_neg (by omega), ← letin_eq hD.ok.inv] at k
    have hpl : ps.length = s.pieces.length := by rw [Paired.length hD.ps, numb_length]
    refine ⟨_, (pss_cons (ps_set (i := 3) sc_tell_let_in.nd rfl (Or.inr rfl) (pe_lc (own := [("piece", 2)]) rfl sc_tell_let_in.nd (pi_list (pe_fld (pe_call (ok_counted_as_asked T) (hr.mono (by decide)) rfl T.m_counted_as_asked T.F_counted_as_asked.kp (b_counted_as_asked T) .nil pass0 (pa_cons (pv 0) (pa_cons (pv 1) pa_nil))) rfl)) (blkOk_by (by kernel_rfl)) (fun _ _ _ _ _ => (pg_name (i := 2) sc_tell_let_in.nd rfl (Or.inl rfl))) (fun _ _ _ _ _ => pts_nil) (fun _ _ _ _ _ => (pe_fldK (K := K) rfl (pv 2) rfl))))
      (pss_one (ps_ret (pe_op op_cat (pe_lst (pa_cons (pe_callB call_len_seq rfl T.n_len PySem.boot_len (pa_cons (pe_fld (pv 0) rfl) pa_nil)) pa_nil)) (pe_lc (own := [("piece", 2)]) rfl sc_tell_let_in.nd (pi_list (pe_fld (pv 0) rfl)) (blkOk_by (by kernel_rfl)) (fun _ _ _ _ _ => (pg_name (i := 2) sc_tell_let_in.nd rfl (Or.inl rfl))) (fun _ _ _ _ _ => pts_nil) (fun _ _ _ _ _ => (pe_call (ok_as_number T) (hr.mono (by decide)) rfl T.m_as_number T.F_as_number.kp (b_as_number T) .nil pass0 (pa_cons (pe_cmpR (in_seqK (K := K) rfl) (pe_fldK (K := K) rfl (pv 2) rfl) (pv 3) (by with_unfolding_all rfl)) pa_nil)))))))), ?_⟩
    refine ⟨_, rfl, _, rfl, d, kk, s, p, c0, _, _, N, M, rfl, hp.disp, hp.call, hc0, fun q hQ0 => ?_⟩
    obtain ⟨dq, lpq, lsq, psq, hQ⟩ := id hQ0
    refine ⟨q, _, dq, _, _, rfl, hQ.ins, T.C_Counted, T.a_Counted_pieces, rfl, lpq, rfl, ⟨_, SqL.of hQ.lp⟩, fun D nD => ?_⟩
    obtain ⟨ys, hys⟩ : ∃ ys, ys = countN s c0 := ⟨_, rfl⟩
    rw [← hys] at k hQ
    refine lc_list (K := K) (a := lpq) (xs := psq.map V.ref) (fun j H' => Same H H' ∧ H' D = some (.lst (nv ((ys.take j).map (·.1))))) ⟨same_new nD, upd_same⟩ (fun j H' _ ⟨s1, _⟩ => SqL.of (s1 _ _ hQ.lp)) ?_ ?_
    · rintro j v H' hv ⟨s1, gD⟩
      rw [List.getElem?_map] at hv
      cases ei : psq[j]? with
      | none => rw [ei] at hv; cases hv
      | some pa =>
        rw [ei] at hv
        cases hv
        obtain ⟨y, hy, hpy⟩ := Paired.getR hQ.ps ei
        obtain ⟨dp, f, wl, _, h1, h2, h3⟩ := hpy
        have e1 : ys.take (j + 1) = ys.take j ++ [y] := by rw [List.take_add_one, hy]; rfl
        refine ⟨rfl, yesT ?_⟩
        refine ⟨_, rfl, pa, _, dp, _, _, rfl, s1 _ _ h1, T.C_Piece, T.a_Piece_number, rfl, _, gD, ?_, fun b o e => ?_, ?_⟩
        · rw [List.length_map, List.length_map, List.length_take]
          exact Nat.lt_of_le_of_lt (Nat.min_le_right _ _) (Nat.lt_of_le_of_lt hQ.len (by decide))
        · rw [upd_ne (ne_of_none e nD)]
          exact s1 _ _ e
        · rw [upd_same, e1, List.map_append]
          show some (HO.lst (nv ((ys.take j).map (·.1)) ++ [V.int (y.1 : Nat)])) = some (HO.lst (List.map _ (_ ++ [y.1])))
          rw [List.map_append]
          rfl
    · rintro H1 ⟨s1, gD⟩
      have el : (psq.map V.ref).length = ys.length := by rw [List.length_map]; exact Paired.length hQ.ps
      rw [el, List.take_length] at gD
      have hD1 := hD.same s1
      refine ⟨_, rfl, d, _, dx, _, _, rfl, hD1.ins, T.C_Dispute, T.a_Dispute_pieces, rfl, lp, _, rfl, .inl (SqL.of hD1.lp), (by show 1 ≤ sizeLine; decide), fun u nu => ?_⟩
      have s2 := same_new (o := .lst [V.int ((ps.map V.ref).length : Nat)]) nu
      have gu : upd H1 u (.lst [V.int ((ps.map V.ref).length : Nat)]) u = some (.lst [V.int ((ps.map V.ref).length : Nat)]) := upd_same
      have gD2 := s2 _ _ gD
      have hD2 := hD1.same s2
      generalize upd H1 u (.lst [V.int ((ps.map V.ref).length : Nat)]) = H2 at s2 gu gD2 hD2
      refine ⟨_, rfl, d, _, dx, _, _, rfl, hD2.ins, T.C_Dispute, T.a_Dispute_pieces, rfl, lp, rfl, ⟨_, SqL.of hD2.lp⟩, fun E2 nE => ?_⟩
      have h24 := hD.ok.inv.pl
      refine lc_list (K := K) (a := lp) (xs := ps.map V.ref) (fun j H' => Same H2 H' ∧ H' E2 = some (.lst (nv (((List.range s.pieces.length).take j).map fun i => if (ys.map (·.1)).contains i = true then 1 else 0)))) ⟨same_new nE, upd_same⟩ (fun j H' _ ⟨s3, _⟩ => SqL.of (s3 _ _ hD2.lp)) ?_ ?_
      · rintro j v H' hv ⟨s3, gE⟩
        rw [List.getElem?_map] at hv
        cases ei : ps[j]? with
        | none => rw [ei] at hv; cases hv
        | some pa =>
          rw [ei] at hv
          cases hv
          obtain ⟨y, hy, hpy⟩ := Paired.getR hD2.ps ei
          have hj : j < s.pieces.length := by rw [← hpl]; exact (List.getElem?_eq_some_iff.mp ei).1
          have hy1 : y.1 = j := by
            rw [numb_get, List.getElem?_eq_getElem hj] at hy
            have := Option.some.inj hy
            rw [← this]
            show 0 + j = j
            omega
          obtain ⟨dp, f, wl, _, h1, h2, h3⟩ := hpy
          refine ⟨rfl, yesT ?_⟩
          refine ⟨_, rfl, pa, _, dp, _, _, rfl, s3 _ _ h1, T.C_Piece, T.a_Piece_number, rfl, _, rfl, D, _, rfl, .inl (SqL.of (s3 _ _ gD2)), rfl, flat_nats _, _, rfl, _, gE, ?_, fun b o e => ?_, ?_⟩
          · rw [List.length_map, List.length_map, List.length_take, List.length_range]
            exact Nat.lt_of_le_of_lt (Nat.min_le_right _ _) (Nat.lt_of_le_of_lt h24 (by decide))
          · rw [upd_ne (ne_of_none e nE)]
            exact s3 _ _ e
          · rw [upd_same, take_range_snoc hj, List.map_append]
            show some (HO.lst (_ ++ [V.int (b01 (inV (.int (y.1 : Nat)) (nv (ys.map (·.1)))))])) = some (HO.lst (List.map _ (_ ++ [if (ys.map (·.1)).contains j = true then 1 else 0])))
            rw [inV_nats, hy1, List.map_append]
            cases (ys.map (·.1)).contains j <;> rfl
      · rintro H3 ⟨s3, gE⟩
        rw [List.length_map, hpl, List.take_of_length_le (by simp)] at gE
        refine ⟨u, E2, _, _, rfl, rfl, s3 _ _ gu, gE, ?_, fun t nt => ?_⟩
        · rw [List.length_map, List.length_map, List.length_map, List.length_range]
          exact Nat.le_trans (show 1 + s.pieces.length ≤ 25 by omega) (by decide)
        · refine Told.read k hp.disp hp.fresh ((s1.trans s2).trans s3) nt ?_
          rw [← counted_nv]
          show [V.int ((ps.map V.ref).length : Nat)] ++ _ = _
          rw [List.length_map, hpl, List.length_map, List.length_map, List.length_range]
end
end Op


set_option Elab.async false
set_option linter.all false
set_option maxRecDepth 100000
set_option maxHeartbeats 4000000
namespace Op
open PySem PySem.Spec PyProof.Rows L2
section
variable {P : Program} {w : World} {K : PySem.W.Frag} {mg : Str → Option Value} {base : Heap} {A : Adr}
theorem about_step {N M : Addr → Prop} {H : Hp} {d kk : Addr} {s : Vbptam.State} {c : List (List Int)} {p : Int} {a : List Int} {r : Option (List Int)} (hp : HPre A N M H d kk s c p a r) (hn : p = 10 ∨ p = 11 ∨ p = 12 ∨ p = 14) :
    ∃ (c0 : Nat) (rest : List Int), a = (c0 : Int) :: rest ∧ (s.phase = 0 → Vbptam.step s c = (s, [-6])) ∧ (s.phase ≠ 0 → s.n ≤ c0 → Vbptam.step s c = (s, [-5])) := by
  rcases hn with h | h | h | h
  · obtain ⟨x0, x1, rfl, rfl, rfl⟩ := hp.form.is10 h
    have hst := hp.step (dd := .fact x0 x1) rfl
    have hrg : (Vbptam.inside x0 0 5 && Vbptam.inside x1 0 7) = true := hp.range (dd := .fact x0 x1) rfl
    rw [Bool.and_eq_true] at hrg
    obtain ⟨c0, rfl, _, _⟩ := nat_of hrg.1 (by decide)
    refine ⟨c0, _, rfl, fun h0 => ?_, fun h0 hc => ?_⟩
    · rw [hst]; exact if_pos h0
    · rw [hst]; exact (if_neg h0).trans (if_pos hc)
  · obtain ⟨x0, rfl, rfl, rfl⟩ := hp.form.is11 h
    have hst := hp.step (dd := .why x0) rfl
    have hrg : Vbptam.inside x0 0 5 = true := hp.range (dd := .why x0) rfl
    obtain ⟨c0, rfl, _, _⟩ := nat_of hrg (by decide)
    refine ⟨c0, _, rfl, fun h0 => ?_, fun h0 hc => ?_⟩
    · rw [hst]; exact if_pos h0
    · rw [hst]; exact (if_neg h0).trans (if_pos hc)
  · obtain ⟨x0, rfl, rfl, rfl⟩ := hp.form.is12 h
    have hst := hp.step (dd := .fewest x0) rfl
    have hrg : Vbptam.inside x0 0 5 = true := hp.range (dd := .fewest x0) rfl
    obtain ⟨c0, rfl, _, _⟩ := nat_of hrg (by decide)
    refine ⟨c0, _, rfl, fun h0 => ?_, fun h0 hc => ?_⟩
    · rw [hst]; exact if_pos h0
    · rw [hst]; exact (if_neg h0).trans (if_pos hc)
  · obtain ⟨x0, rfl, rfl, rfl⟩ := hp.form.is14 h
    have hst := hp.step (dd := .letIn x0) rfl
    have hrg : Vbptam.inside x0 0 5 = true := hp.range (dd := .letIn x0) rfl
    obtain ⟨c0, rfl, _, _⟩ := nat_of hrg (by decide)
    refine ⟨c0, _, rfl, fun h0 => ?_, fun h0 hc => ?_⟩
    · rw [hst]; exact if_pos h0
    · rw [hst]; exact (if_neg h0).trans (if_pos hc)
theorem ok_about_claim (T : Txt K mg A) (hv : A.v_ABOUT_CLAIM = [(10, A.f_tell_fact), (11, A.f_tell_why), (12, A.f_tell_fewest), (14, A.f_tell_let_in)]) {num : Int} (hn : num = 10 ∨ num = 11 ∨ num = 12 ∨ num = 14) : FnOk P w K mg base CX0 5 A.f_about_claim A.fd_about_claim ["dispute", "call"] (spH A num) := by
  refine T.F_about_claim.ok sc_about_claim (fun vs H Q E h => ?_) (fun cdv Ar outer sh H vs Q E hr h => ?_)
  · obtain ⟨d, kk, s, c, p, a, r, N, M, rfl, _⟩ := h
    rfl
  · obtain ⟨d, kk, s, c, p, a, r, N, M, rfl, hp, hnum, k⟩ := h
    have FF : ∀ k a, atM A.v_ABOUT_CLAIM k = some a → ∃ fd ps, FnOk P w K mg base CX0 4 a fd ps (spT A k) ∧ Binds K fd ps [] ∧ PySem.W.keepIn K (.ref a) = true := by
      intro k a ha
      rw [hv] at ha
      unfold atM at ha
      simp only [List.find?_cons, List.find?_nil] at ha
      by_cases h0 : k = 10
      · subst h0; cases ha; exact ⟨_, _, (ok_tell_fact T).mono (by decide), b_tell_fact T, T.F_tell_fact.kp⟩
      by_cases h1 : k = 11
      · subst h1; cases ha; exact ⟨_, _, ok_tell_why T, b_tell_why T, T.F_tell_why.kp⟩
      by_cases h2 : k = 12
      · subst h2; cases ha; exact ⟨_, _, ok_tell_fewest T, b_tell_fewest T, T.F_tell_fewest.kp⟩
      by_cases h3 : k = 14
      · subst h3; cases ha; exact ⟨_, _, (ok_tell_let_in T).mono (by decide), b_tell_let_in T, T.F_tell_let_in.kp⟩
      exfalso
      have f : ∀ j : Int, k ≠ j → (j == k) = false := fun j h => by simpa using fun e : j = k => h e.symm
      rw [f 10 h0, f 11 h1, f 12 h2, f 14 h3] at ha
      cases ha
    obtain ⟨c0, rest, rfl, hs6, hs5⟩ := about_step hp (hnum.symm ▸ hn)
    obtain ⟨dx, lp, lc, lt, lr, laa, sk, ps, cs, ts, as, hD⟩ := id hp.disp
    obtain ⟨dk, la, rv, hC⟩ := id hp.call
    refine ⟨_, (pss_cons (ps_if (pt_cmpR op_eq (pe_fld (pv 0) rfl) (pe_gint rfl T.g_NO_CASE) (nomark _)) (pss_one (ps_ret (pe_lst (pa_cons (pe_gint rfl T.g_NOT_NOW) pa_nil)))) pss_nil)
      (pss_cons (ps_if (pt_cmpR op_ge (pe_ix ix_list (pe_fld (pv 1) rfl) pe_int (fun _ _ => rfl)) (pe_fld (pv 0) rfl) (nomark _)) (pss_one (ps_ret (pe_lst (pa_cons (pe_gint rfl T.g_NOT_THERE) pa_nil)))) pss_nil)
      (pss_one (ps_ret (pe_mcall (sp := fun k => spT A k) T.d_ABOUT_CLAIM rfl T.g_ABOUT_CLAIM hr FF (pe_fld (pv 1) rfl) (pa_cons (pv 0) (pa_cons (pv 1) pa_nil))))))), ?_⟩
    refine ⟨_, rfl, d, _, dx, _, _, rfl, hD.ins, T.C_Dispute, T.a_Dispute_phase, rfl, rfl, _, rfl, ?_⟩
    rw [decI]
    by_cases h0 : s.phase = 0
    · refine (if_pos (by simp [h0])).mpr ?_
      rw [hs6 h0] at k
      exact ⟨(by show 1 ≤ sizeLine; decide), fun q nq => Told.read k hp.disp hp.fresh (Same.refl H) nq rfl⟩
    · refine (if_neg (by simp; omega)).mpr ?_
      refine ⟨_, rfl, kk, _, dk, _, _, rfl, hC.ins, T.C_Call, T.a_Call_arguments, rfl, la, _, _, V.int (c0 : Nat), rfl, rfl, SqL.of hC.arg, atI_nat (j := 0) rfl, _, rfl, d, _, dx, _, _, rfl, hD.ins, T.C_Dispute, T.a_Dispute_claims, rfl, _, _, rfl, rfl, _, rfl, ?_⟩
      by_cases hc : s.n ≤ c0
      · refine (if_pos (by rw [decide_eq_true_iff]; omega)).mpr ?_
        rw [hs5 h0 hc] at k
        exact ⟨(by show 1 ≤ sizeLine; decide), fun q nq => Told.read k hp.disp hp.fresh (Same.refl H) nq rfl⟩
      · refine (if_neg (by rw [decide_eq_true_iff]; omega)).mpr ?_
        have hat : ∃ f, atM A.v_ABOUT_CLAIM p = some f := by
          rw [hv, hnum]
          rcases hn with rfl | rfl | rfl | rfl
          · exact ⟨_, rfl⟩
          · exact ⟨_, rfl⟩
          · exact ⟨_, rfl⟩
          · exact ⟨_, rfl⟩
        obtain ⟨f, hf⟩ := hat
        exact ⟨_, rfl, kk, _, dk, _, _, rfl, hC.ins, T.C_Call, T.a_Call_number, rfl, p, f, rfl, hf, _, rfl, _, rfl, d, kk, s, c, p, _, r, N, M, rfl, hp, rfl, h0, ⟨c0, rest, rfl, by omega⟩, k⟩
theorem ok_without (T : Txt K mg A) : FnOk P w K mg base CX0 8 A.f_without A.fd_without ["dispute", "call"] (spH A 13) := by
  refine T.F_without.ok sc_without (fun vs H Q E h => ?_) (fun cdv Ar outer sh H vs Q E hr h => ?_)
  · obtain ⟨d, kk, s, c, p, a, r, N, M, rfl, _⟩ := h
    rfl
  · obtain ⟨d, kk, s, c, p, a, r, N, M, rfl, hp, hnum, k⟩ := h
    obtain ⟨x0, rfl, rfl, rfl⟩ := hp.form.is13 hnum
    have hst := hp.step (dd := .without x0) rfl
    have hrg : Vbptam.inside x0 0 23 = true := hp.range (dd := .without x0) rfl
    obtain ⟨i, rfl, _, _⟩ := nat_of hrg (by decide)
    have hD0 := hp.disp
    obtain ⟨dx, lp, lc, lt, lr, laa, sk, ps, cs, ts, as, hD⟩ := id hp.disp
    obtain ⟨dk, la, rv, hC⟩ := id hp.call
    have hpl : ps.length = s.pieces.length := by rw [Paired.length hD.ps, numb_length]
    have ea : Vbptam.act s (.without (i : Int)) = if s.phase = 0 then (s, [-6]) else if s.pieces.length ≤ i then (s, [-5]) else (s, Vbptam.ints [Vbptam.without s i]) := rfl
    rw [hst, ea] at k
    refine ⟨_, (pss_cons (ps_set (i := 2) sc_without.nd rfl (Or.inl rfl) (pe_ix ix_list (pe_fld (pv 1) rfl) pe_int (fun _ _ => rfl)))
      (pss_cons (ps_if (pt_cmpR op_eq (pe_fld (pv 0) rfl) (pe_gint rfl T.g_NO_CASE) (nomark _)) (pss_one (ps_ret (pe_lst (pa_cons (pe_gint rfl T.g_NOT_NOW) pa_nil)))) pss_nil)
      (pss_cons (ps_if (pt_cmpR op_ge (pv 2) (pe_callB call_len_seq rfl T.n_len PySem.boot_len (pa_cons (pe_fld (pv 0) rfl) pa_nil)) (nomark _)) (pss_one (ps_ret (pe_lst (pa_cons (pe_gint rfl T.g_NOT_THERE) pa_nil)))) pss_nil)
      (pss_one (ps_ret (pe_lst (pa_cons (pe_meth (pv 0) T.C_Dispute T.M_Dispute_standing_without (ok_Dispute_standing_without T) (hr.mono (by decide)) (b_Dispute_standing_without T) .nil pass0 (pa_cons (pv 2) pa_nil)) pa_nil))))))), ?_⟩
    refine ⟨_, rfl, kk, _, dk, _, _, rfl, hC.ins, T.C_Call, T.a_Call_arguments, rfl, la, _, _, _, rfl, rfl, SqL.of hC.arg, rfl, ?_⟩
    refine ⟨_, rfl, d, _, dx, _, _, rfl, hD.ins, T.C_Dispute, T.a_Dispute_phase, rfl, rfl, _, rfl, ?_⟩
    rw [decI]
    by_cases h0 : s.phase = 0
    · refine (if_pos (by simp [h0])).mpr ?_
      rw [if_pos h0] at k
      exact ⟨(by show 1 ≤ sizeLine; decide), fun q nq => Told.read k hD0 hp.fresh (Same.refl H) nq rfl⟩
    · refine (if_neg (by simp; omega)).mpr ?_
      rw [if_neg h0] at k
      refine ⟨_, rfl, _, rfl, d, _, dx, _, _, rfl, hD.ins, T.C_Dispute, T.a_Dispute_pieces, rfl, lp, _, rfl, .inl (SqL.of hD.lp), _, _, rfl, rfl, _, rfl, ?_⟩
      rw [List.length_map, hpl]
      by_cases h1 : s.pieces.length ≤ i
      · refine (if_pos (by rw [decide_eq_true_iff]; omega)).mpr ?_
        rw [if_pos h1] at k
        exact ⟨(by show 1 ≤ sizeLine; decide), fun q nq => Told.read k hD0 hp.fresh (Same.refl H) nq rfl⟩
      · refine (if_neg (by rw [decide_eq_true_iff]; omega)).mpr ?_
        rw [if_neg h1] at k
        exact ⟨_, rfl, d, dx, _, rfl, hD.ins, rfl, _, rfl, d, i, s, N, M, rfl, hD0, by omega, hp.fresh, fun H1 s1 => ⟨(by show 1 ≤ sizeLine; decide), fun q nq => Told.read k hD0 hp.fresh s1 nq rfl⟩⟩
def rowV (w : List (Nat × Int)) : List V := w.flatMap fun z => [V.int (z.1 : Nat), V.int z.2]
theorem rowV_length : ∀ w : List (Nat × Int), (rowV w).length = 2 * w.length
  | [] => rfl
  | z :: w => by
    have := rowV_length w
    show (rowV w).length + 1 + 1 = 2 * (w.length + 1)
    omega
theorem rowV_snoc (w : List (Nat × Int)) (z : Nat × Int) : rowV (w ++ [z]) = rowV w ++ [V.int (z.1 : Nat), V.int z.2] := by
  unfold rowV
  rw [List.flatMap_append]
  simp
theorem wts_len {x : Vbptam.What} (wf : WfW x) : (wts x).length ≤ 10 := by
  cases x with
  | attack c fs => exact Nat.zero_le _
  | proof w => exact wf.2
def sp_facts_and_weights (A : Adr) : Sp := fun vs H Q _ => ∃ (p : Addr) (x : NP) (N : Addr → Prop), vs = [.ref p] ∧ PieceAt A N H p x ∧ WfW x.2.what ∧
  ∀ (H' : Hp) (q : Addr), Same H H' → H q = Option.none → H' q = some (.lst (rowV (wts x.2.what))) → Q (.ref q) H'
theorem ok_facts_and_weights (T : Txt K mg A) : FnOk P w K mg base CX0 1 A.f_facts_and_weights A.fd_facts_and_weights ["piece"] (sp_facts_and_weights A) := by
  refine T.F_facts_and_weights.ok sc_facts_and_weights (fun vs H Q E h => ?_) (fun cdv Ar outer sh H vs Q E hr h => ?_)
  · obtain ⟨p, x, N, rfl, _⟩ := h
    rfl
  · obtain ⟨p, x, N, rfl, ⟨dx, f, wl, _, h1, h2, h3⟩, wf, k⟩ := h
    refine ⟨_, (pss_cons (ps_set (i := 1) sc_facts_and_weights.nd rfl (Or.inl rfl) (pe_lst pa_nil))
      (pss_cons (ps_for PassesOwn.never rfl (pi_zip rfl T.n_zip (pa_cons (pe_fld (pv 0) rfl) (pa_cons (pe_fld (pv 0) rfl) pa_nil))) (pg_tup rfl (pgs_cons (pg_name (i := 2) sc_facts_and_weights.nd rfl (Or.inl rfl)) (pgs_cons (pg_name (i := 3) sc_facts_and_weights.nd rfl (Or.inl rfl)) pgs_nil))) (pss_one (ps_expr (pe_bm PySem.F.plainAttrs_list PySem.F.slot_list_extend PySem.F.type_list_extend mt_extend (pv 1) (pa_cons (pe_lst (pa_cons (pv 2) (pa_cons (pv 3) pa_nil))) pa_nil)))))
      (pss_one (ps_ret (pv 1))))), ?_⟩
    refine ⟨Nat.zero_le _, fun q hq => ?_⟩
    have s1 : Same H (upd H q (.lst [])) := same_new hq
    rw [weightsV_wts] at h3
    have hwl := wts_len wf
    refine ⟨_, rfl, p, _, dx, _, _, rfl, s1 _ _ h1, T.C_Piece, T.a_Piece_facts, rfl, _, rfl, p, _, dx, _, _, rfl, s1 _ _ h1, T.C_Piece, T.a_Piece_weights, rfl, f, wl, _, _, rfl, SqL.of (s1 _ _ h2), SqL.of (s1 _ _ h3), ?_⟩
    refine for_zip (K := K) (xs := factsV x.2.what) (ys := (wts x.2.what).map fun y => V.int y.2) (by rw [← weightsV_wts]; exact wts_facts _) (fun i σ H' => ∃ v3 v4 : Option V, σ = [some (.ref p), some (.ref q), v3, v4] ∧ Same H H' ∧ H' q = some (.lst (rowV ((wts x.2.what).take i)))) ⟨none, none, rfl, s1, upd_same⟩ ?_ ?_ ?_
    · rintro i σ H' _ ⟨v3, v4, rfl, s2, hq2⟩
      exact ⟨SqL.of (s2 _ _ h2), SqL.of (s2 _ _ h3)⟩
    · rintro i xv yv Tt σ H' hxv hyv hT ⟨v3, v4, rfl, s2, hq2⟩
      rw [List.getElem?_map] at hyv
      cases ei : (wts x.2.what)[i]? with
      | none => rw [ei] at hyv; cases hyv
      | some y =>
        rw [ei] at hyv
        cases hyv
        rw [factsV_wts ei] at hxv
        cases hxv
        generalize wts x.2.what = ws at *
        have s3 : Same H' (upd H' Tt (.tup [V.int (y.1 : Nat), V.int y.2])) := same_new hT
        have e2 : ws.take (i + 1) = ws.take i ++ [y] := by rw [List.take_add_one, ei]; rfl
        refine ⟨Tt, _, rfl, SqT.of upd_same, rfl, _, _, rfl, _, _, rfl, rfl, ?_⟩
        refine ⟨_, rfl, .inl ⟨rfl, _, SqL.of (s3 _ _ hq2)⟩, _, rfl, _, rfl, (by show 2 ≤ sizeLine; decide), fun u nu => ?_⟩
        have s4 := s3.trans (same_new (o := .lst [V.int (y.1 : Nat), V.int y.2]) nu)
        refine ⟨q, u, _, _, rfl, rfl, s4 _ _ hq2, upd_same, ?_, ?_⟩
        · rw [rowV_length, List.length_take]
          exact Nat.le_trans (show 2 * min i ws.length + 2 ≤ 30 by omega) (by decide)
        · refine ⟨_, _, rfl, fun b o e => ?_, ?_⟩
          · rw [upd_ne (ne_of_none e hq)]
            exact s4 _ _ (s2 _ _ e)
          · rw [upd_same, e2, rowV_snoc]
    · rintro σ H' ⟨v3, v4, rfl, s2, hq2⟩
      rw [List.length_map, List.take_length] at hq2
      exact ⟨_, rfl, k _ q s2 hq hq2⟩
theorem row_attack {x : Vbptam.Piece} {c : Nat} {fs : List Nat} (h : x.what = .attack c fs) : [V.int (x.who : Nat), V.int (b01 x.late), V.int (b01 (isPf x.what))] ++ [V.int (c : Nat)] ++ nv fs = (Vbptam.row x).map V.int := by
  have e : Vbptam.row x = (x.who : Int) :: b01 x.late :: 0 :: (c : Int) :: Vbptam.ints fs := by
    unfold Vbptam.row
    rw [h]
    rfl
  rw [e, h]
  show _ = V.int (x.who : Nat) :: V.int (b01 x.late) :: V.int 0 :: V.int (c : Nat) :: (fs.map fun (n : Nat) => (n : Int)).map V.int
  rw [List.map_map]
  rfl
theorem row_proof {x : Vbptam.Piece} {w : List (Nat × Int)} (h : x.what = .proof w) : [V.int (x.who : Nat), V.int (b01 x.late), V.int (b01 (isPf x.what))] ++ rowV w = (Vbptam.row x).map V.int := by
  have e : Vbptam.row x = (x.who : Int) :: b01 x.late :: 1 :: w.flatMap fun y => [(y.1 : Int), y.2] := by
    unfold Vbptam.row
    rw [h]
    rfl
  rw [e, h]
  show _ = V.int (x.who : Nat) :: V.int (b01 x.late) :: V.int 1 :: (w.flatMap fun y => [(y.1 : Int), y.2]).map V.int
  rw [List.map_flatMap]
  rfl
theorem ok_tell_piece (T : Txt K mg A) : FnOk P w K mg base CX0 2 A.f_tell_piece A.fd_tell_piece ["dispute", "call"] (spH A 15) := by
  refine T.F_tell_piece.ok sc_tell_piece (fun vs H Q E h => ?_) (fun cdv Ar outer sh H vs Q E hr h => ?_)
  · obtain ⟨d, kk, s, c, p, a, r, N, M, rfl, _⟩ := h
    rfl
  · obtain ⟨d, kk, s, c, p, a, r, N, M, rfl, hp, hnum, k⟩ := h
    obtain ⟨x0, rfl, rfl, rfl⟩ := hp.form.is15 hnum
    have hst := hp.step (dd := .piece x0) rfl
    have hrg : Vbptam.inside x0 0 23 = true := hp.range (dd := .piece x0) rfl
    obtain ⟨i, rfl, _, _⟩ := nat_of hrg (by decide)
    have hD0 := hp.disp
    obtain ⟨dx, lp, lc, lt, lr, laa, sk, ps, cs, ts, as, hD⟩ := id hp.disp
    obtain ⟨dk, la, rv, hC⟩ := id hp.call
    have hpl : ps.length = s.pieces.length := by rw [Paired.length hD.ps, numb_length]
    have eN : s.pieces[i]? = none → Vbptam.act s (.piece (i : Int)) = (s, [-5]) := fun e => by
      show (match s.pieces[i]? with | none => (s, [-5]) | some x => (s, Vbptam.row x)) = _
      rw [e]
    have eS : ∀ x, s.pieces[i]? = some x → Vbptam.act s (.piece (i : Int)) = (s, Vbptam.row x) := fun x e => by
      show (match s.pieces[i]? with | none => (s, [-5]) | some x => (s, Vbptam.row x)) = _
      rw [e]
    rw [hst] at k
    refine ⟨_, (pss_cons (ps_set (i := 2) sc_tell_piece.nd rfl (Or.inl rfl) (pe_ix ix_list (pe_fld (pv 1) rfl) pe_int (fun _ _ => rfl)))
      (pss_cons (ps_if (pt_cmpR op_ge (pv 2) (pe_callB call_len_seq rfl T.n_len PySem.boot_len (pa_cons (pe_fld (pv 0) rfl) pa_nil)) (nomark _)) (pss_one (ps_ret (pe_lst (pa_cons (pe_gint rfl T.g_NOT_THERE) pa_nil)))) pss_nil)
      (pss_cons (ps_set (i := 3) sc_tell_piece.nd rfl (Or.inl rfl) (pe_ix ix_list (pe_fld (pv 0) rfl) (pv 2) (fun _ _ => rfl)))
      (pss_cons (ps_set (i := 4) sc_tell_piece.nd rfl (Or.inl rfl) (pe_lst (pa_cons (pe_fld (pv 3) rfl) (pa_cons (pe_call (ok_as_number T) (hr.mono (by decide)) rfl T.m_as_number T.F_as_number.kp (b_as_number T) .nil pass0 (pa_cons (pe_fld (pv 3) rfl) pa_nil)) (pa_cons (pe_call (ok_as_number T) (hr.mono (by decide)) rfl T.m_as_number T.F_as_number.kp (b_as_number T) .nil pass0 (pa_cons (pe_call (ok_is_proof T) (hr.mono (by decide)) rfl T.m_is_proof T.F_is_proof.kp (b_is_proof T) .nil pass0 (pa_cons (pv 3) pa_nil)) pa_nil)) pa_nil)))))
      (pss_cons (ps_if (pt_truth (pe_call (ok_is_proof T) (hr.mono (by decide)) rfl T.m_is_proof T.F_is_proof.kp (b_is_proof T) .nil pass0 (pa_cons (pv 3) pa_nil)) (fun _ => rfl)) (pss_one (ps_ret (pe_op op_cat (pv 4) (pe_call (ok_facts_and_weights T) (hr.mono (by decide)) rfl T.m_facts_and_weights T.F_facts_and_weights.kp (b_facts_and_weights T) .nil pass0 (pa_cons (pv 3) pa_nil))))) pss_nil)
      (pss_one (ps_ret (pe_op op_cat (pe_op op_cat (pv 4) (pe_lst (pa_cons (pe_fld (pv 3) rfl) pa_nil))) (pe_fld (pv 3) rfl))))))))), ?_⟩
    refine ⟨_, rfl, kk, _, dk, _, _, rfl, hC.ins, T.C_Call, T.a_Call_arguments, rfl, la, _, _, _, rfl, rfl, SqL.of hC.arg, rfl, ?_⟩
    refine ⟨_, rfl, _, rfl, d, _, dx, _, _, rfl, hD.ins, T.C_Dispute, T.a_Dispute_pieces, rfl, lp, _, rfl, .inl (SqL.of hD.lp), _, _, rfl, rfl, _, rfl, ?_⟩
    rw [List.length_map, hpl]
    by_cases h1 : s.pieces.length ≤ i
    · refine (if_pos (by rw [decide_eq_true_iff]; omega)).mpr ?_
      rw [eN (List.getElem?_eq_none_iff.mpr h1)] at k
      exact ⟨(by show 1 ≤ sizeLine; decide), fun q nq => Told.read k hD0 hp.fresh (Same.refl H) nq rfl⟩
    · refine (if_neg (by rw [decide_eq_true_iff]; omega)).mpr ?_
      obtain ⟨x, hx⟩ : ∃ x, s.pieces[i]? = some x := ⟨_, List.getElem?_eq_getElem (by omega)⟩
      rw [eS x hx] at k
      obtain ⟨pa, hpa⟩ : ∃ pa, ps[i]? = some pa := ⟨_, List.getElem?_eq_getElem (by omega)⟩
      obtain ⟨y, hy, hP⟩ := Paired.getR hD.ps hpa
      rw [numb_get, hx] at hy
      cases hy
      have wf := hD.ok.wf x (List.mem_of_getElem? hx)
      obtain ⟨dp, f, wl, _, g1, g2, g3⟩ := id hP
      refine ⟨_, rfl, d, _, dx, _, _, rfl, hD.ins, T.C_Dispute, T.a_Dispute_pieces, rfl, _, rfl, lp, _, _, V.ref pa, rfl, rfl, SqL.of hD.lp, atI_nat (by rw [List.getElem?_map, hpa]; rfl), ?_⟩
      refine ⟨_, rfl, pa, _, dp, _, _, rfl, g1, T.C_Piece, T.a_Piece_bringer, rfl, _, rfl, pa, _, dp, _, _, rfl, g1, T.C_Piece, T.a_Piece_late, rfl, _, rfl, _, rfl, pa, _, N, rfl, hP, _, rfl, (by show 3 ≤ sizeLine; decide), fun u nu => ?_⟩
      have s1 := same_new (o := .lst [V.int (x.who : Nat), V.int (b01 x.late), V.int (b01 (isPf x.what))]) nu
      have gu : upd H u (.lst [V.int (x.who : Nat), V.int (b01 x.late), V.int (b01 (isPf x.what))]) u = some (.lst [V.int (x.who : Nat), V.int (b01 x.late), V.int (b01 (isPf x.what))]) := upd_same
      have hP1 := hP.keep (Keep.of s1)
      generalize upd H u (.lst [V.int (x.who : Nat), V.int (b01 x.late), V.int (b01 (isPf x.what))]) = H1 at s1 gu hP1
      refine ⟨_, rfl, pa, _, N, rfl, hP1, _, rfl, ?_⟩
      cases hw : x.what with
      | proof w =>
        refine (if_pos (rfl : isPf (Vbptam.What.proof w) = true)).mpr ?_
        have hlen := wts_len wf
        refine ⟨_, rfl, _, rfl, pa, (0 + i, x), N, rfl, hP1, wf, fun H2 q s2 nq gq => ?_⟩
        refine ⟨u, q, _, _, rfl, rfl, s2 _ _ gu, gq, ?_, fun t nt => ?_⟩
        · rw [rowV_length]
          exact Nat.le_trans (show 3 + 2 * (wts x.what).length ≤ 30 by omega) (by decide)
        · refine Told.read k hD0 hp.fresh (s1.trans s2) nt ?_
          show [V.int (x.who : Nat), V.int (b01 x.late), V.int (b01 (isPf x.what))] ++ rowV (wts x.what) = _
          rw [← row_proof hw, hw]
          rfl
      | attack cl fs =>
        refine (if_neg (Bool.false_ne_true : ¬ isPf (Vbptam.What.attack cl fs) = true)).mpr ?_
        have g1' := s1 _ _ g1
        have g2' := s1 _ _ g2
        have wf2 := wf
        rw [hw] at wf2
        refine ⟨_, rfl, _, rfl, pa, _, dp, _, _, rfl, g1', T.C_Piece, T.a_Piece_claim, rfl, (by show 1 ≤ sizeLine; decide), fun u1 nu1 => ?_⟩
        have s2 := s1.trans (same_new (o := .lst [claimV x.what]) nu1)
        have gu1 := same_new (o := .lst [claimV x.what]) nu1 _ _ gu
        refine ⟨u, u1, _, _, rfl, rfl, gu1, upd_same, (by show 4 ≤ sizeLine; decide), fun u2 nu2 => ?_⟩
        have s3 := s2.trans (same_new (o := .lst ([V.int (x.who : Nat), V.int (b01 x.late), V.int (b01 (isPf x.what))] ++ [claimV x.what])) nu2)
        refine ⟨_, rfl, pa, _, dp, _, _, rfl, s3 _ _ g1, T.C_Piece, T.a_Piece_facts, rfl, u2, f, _, _, rfl, rfl, upd_same, s3 _ _ g2, ?_, fun t nt => ?_⟩
        · rw [factsV_N, List.length_map]
          have := factsN_len wf
          exact Nat.le_trans (show 4 + (factsN x.what).length ≤ 30 by omega) (by decide)
        · refine Told.read k hD0 hp.fresh s3 nt ?_
          rw [← row_attack hw]
          show _ ++ [claimV x.what] ++ factsV x.what = _
          rw [hw]
          rfl
theorem ok_tell_requests (T : Txt K mg A) : FnOk P w K mg base CX0 1 A.f_tell_requests A.fd_tell_requests ["dispute", "call"] (spH A 16) := by
  refine T.F_tell_requests.ok sc_tell_requests (fun vs H Q E h => ?_) (fun cdv Ar outer sh H vs Q E hr h => ?_)
  · obtain ⟨d, kk, s, c, p, a, r, N, M, rfl, _⟩ := h
    rfl
  · obtain ⟨d, kk, s, c, p, a, r, N, M, rfl, hp, hnum, k⟩ := h
    obtain ⟨rfl, rfl, rfl⟩ := hp.form.is16 hnum
    have hst := hp.step (dd := .requests) rfl
    obtain ⟨dx, lp, lc, lt, lr, laa, sk, ps, cs, ts, as, hD⟩ := id hp.disp
    have ea : Vbptam.act s .requests = (s, Vbptam.counted s.requests) := rfl
    rw [hst, ea] at k
    refine ⟨_, (pss_one (ps_ret (pe_op op_cat (pe_lst (pa_cons (pe_callB call_len_seq rfl T.n_len PySem.boot_len (pa_cons (pe_fld (pv 0) rfl) pa_nil)) pa_nil)) (pe_fld (pv 0) rfl)))), ?_⟩
    refine ⟨_, rfl, d, _, dx, _, _, rfl, hD.ins, T.C_Dispute, T.a_Dispute_requests, rfl, lr, _, rfl, .inl (SqL.of hD.lr), (by show 1 ≤ sizeLine; decide), fun u nu => ?_⟩
    have s1 := same_new (o := .lst [V.int ((s.requests.map fun (m : Nat) => V.int m).length : Nat)]) nu
    refine ⟨_, rfl, d, _, dx, _, _, rfl, s1 _ _ hD.ins, T.C_Dispute, T.a_Dispute_requests, rfl, u, lr, _, _, rfl, rfl, upd_same, s1 _ _ hD.lr, ?_, fun t nt => ?_⟩
    · rw [List.length_map]
      have := hD.ok.rql
      exact Nat.le_trans (show 1 + s.requests.length ≤ 7 by omega) (by decide)
    · exact Told.read k hp.disp hp.fresh s1 nt (counted_nv s.requests)
def appV (l : List (Nat × Vbptam.Mask)) : List V := l.flatMap fun q => [V.int (q.1 : Nat), V.int (q.2 : Nat)]
theorem appV_length : ∀ l : List (Nat × Vbptam.Mask), (appV l).length = 2 * l.length
  | [] => rfl
  | z :: l => by
    have := appV_length l
    show (appV l).length + 1 + 1 = 2 * (l.length + 1)
    omega
theorem appV_ints (l : List (Nat × Vbptam.Mask)) : appV l = (Vbptam.ints (l.flatMap fun a => [a.1, a.2])).map V.int := by
  unfold appV Vbptam.ints
  rw [List.map_map, List.map_flatMap]
  rfl
theorem ok_tell_appeals (T : Txt K mg A) : FnOk P w K mg base CX0 1 A.f_tell_appeals A.fd_tell_appeals ["dispute", "call"] (spH A 17) := by
  refine T.F_tell_appeals.ok sc_tell_appeals (fun vs H Q E h => ?_) (fun cdv Ar outer sh H vs Q E hr h => ?_)
  · obtain ⟨d, kk, s, c, p, a, r, N, M, rfl, _⟩ := h
    rfl
  · obtain ⟨d, kk, s, c, p, a, r, N, M, rfl, hp, hnum, k⟩ := h
    obtain ⟨rfl, rfl, rfl⟩ := hp.form.is17 hnum
    have hst := hp.step (dd := .appeals) rfl
    obtain ⟨dx, lp, lc, lt, lr, laa, sk, ps, cs, ts, as, hD⟩ := id hp.disp
    have ea : Vbptam.act s .appeals = (s, (s.appeals.length : Int) :: Vbptam.ints (s.appeals.flatMap fun a => [a.1, a.2])) := rfl
    rw [hst, ea] at k
    have hal : as.length = s.appeals.length := Paired.length hD.as
    refine ⟨_, (pss_cons (ps_set (i := 2) sc_tell_appeals.nd rfl (Or.inl rfl) (pe_lst (pa_cons (pe_callB call_len_seq rfl T.n_len PySem.boot_len (pa_cons (pe_fld (pv 0) rfl) pa_nil)) pa_nil)))
      (pss_cons (ps_for PassesOwn.never rfl (pi_list (pe_fld (pv 0) rfl)) (pg_tup rfl (pgs_cons (pg_name (i := 3) sc_tell_appeals.nd rfl (Or.inl rfl)) (pgs_cons (pg_name (i := 4) sc_tell_appeals.nd rfl (Or.inl rfl)) pgs_nil))) (pss_one (ps_expr (pe_bm PySem.F.plainAttrs_list PySem.F.slot_list_extend PySem.F.type_list_extend mt_extend (pv 2) (pa_cons (pe_lst (pa_cons (pv 3) (pa_cons (pv 4) pa_nil))) pa_nil)))))
      (pss_one (ps_ret (pv 2))))), ?_⟩
    refine ⟨_, rfl, d, _, dx, _, _, rfl, hD.ins, T.C_Dispute, T.a_Dispute_appeals, rfl, laa, _, rfl, .inl (SqL.of hD.la), (by show 1 ≤ sizeLine; decide), fun u nu => ?_⟩
    rw [List.length_map, hal]
    have s1 := same_new (o := .lst [V.int (s.appeals.length : Nat)]) nu
    refine ⟨_, rfl, d, _, dx, _, _, rfl, s1 _ _ hD.ins, T.C_Dispute, T.a_Dispute_appeals, rfl, laa, rfl, ⟨_, SqL.of (s1 _ _ hD.la)⟩, ?_⟩
    refine for_list (K := K) (xs := as.map V.ref) (fun i σ H' => ∃ v3 v4 : Option V, σ = [some (.ref d), some (.ref kk), some (.ref u), v3, v4] ∧ Same H H' ∧ H' u = some (.lst (V.int (s.appeals.length : Nat) :: appV (s.appeals.take i)))) ⟨none, none, rfl, s1, upd_same⟩ (fun i σ H' _ ⟨_, _, _, s2, _⟩ => SqL.of (s2 _ _ hD.la)) ?_ ?_
    · rintro i v σ H' hv ⟨v3, v4, rfl, s2, gu⟩
      rw [List.getElem?_map] at hv
      cases ei : as[i]? with
      | none => rw [ei] at hv; cases hv
      | some t =>
        rw [ei] at hv
        cases hv
        obtain ⟨q, hq, hqa⟩ := Paired.getR hD.as ei
        have e1 : s.appeals.take (i + 1) = s.appeals.take i ++ [q] := by rw [List.take_add_one, hq]; rfl
        refine ⟨t, _, rfl, SqT.of (s2 _ _ hqa.2), rfl, _, _, rfl, _, _, rfl, rfl, ?_⟩
        refine ⟨_, rfl, .inl ⟨rfl, _, SqL.of gu⟩, _, rfl, _, rfl, (by show 2 ≤ sizeLine; decide), fun u1 nu1 => ?_⟩
        have s3 := same_new (o := .lst [V.int (q.1 : Nat), V.int (q.2 : Nat)]) nu1
        refine ⟨u, u1, _, _, rfl, rfl, s3 _ _ gu, upd_same, ?_, ?_⟩
        · have h8 := hD.ok.apl
          rw [List.length_cons, appV_length, List.length_take]
          exact Nat.le_trans (show 2 * min i s.appeals.length + 1 + 2 ≤ 30 by omega) (by decide)
        · refine ⟨_, _, rfl, fun b o e => ?_, ?_⟩
          · rw [upd_ne (ne_of_none e nu)]
            exact s3 _ _ (s2 _ _ e)
          · rw [upd_same, e1]
            unfold appV
            rw [List.flatMap_append]
            simp
    · rintro σ H' ⟨v3, v4, rfl, s2, gu⟩
      rw [List.length_map, hal, List.take_length, appV_ints] at gu
      exact ⟨_, rfl, k _ N M u ((Step.none hp.disp hp.fresh).same s2) nu gu⟩
theorem ok_status (T : Txt K mg A) : FnOk P w K mg base CX0 1 A.f_status A.fd_status ["dispute", "call"] (spH A 18) := by
  refine T.F_status.ok sc_status (fun vs H Q E h => ?_) (fun cdv Ar outer sh H vs Q E hr h => ?_)
  · obtain ⟨d, kk, s, c, p, a, r, N, M, rfl, _⟩ := h
    rfl
  · obtain ⟨d, kk, s, c, p, a, r, N, M, rfl, hp, hnum, k⟩ := h
    obtain ⟨rfl, rfl, rfl⟩ := hp.form.is18 hnum
    have hst := hp.step (dd := .status) rfl
    obtain ⟨dx, lp, lc, lt, lr, laa, sk, ps, cs, ts, as, hD⟩ := id hp.disp
    have ea : Vbptam.act s .status = (s, Vbptam.ints [s.phase, s.day, s.n, s.limit, s.first, s.which, s.decided, s.last]) := rfl
    rw [hst, ea] at k
    refine ⟨_, (pss_cons (ps_set (i := 2) sc_status.nd rfl (Or.inl rfl) (pe_lst (pa_cons (pe_fld (pv 0) rfl) (pa_cons (pe_fld (pv 0) rfl) (pa_cons (pe_fld (pv 0) rfl) (pa_cons (pe_fld (pv 0) rfl) pa_nil))))))
      (pss_one (ps_ret (pe_op op_cat (pv 2) (pe_lst (pa_cons (pe_fld (pv 0) rfl) (pa_cons (pe_fld (pv 0) rfl) (pa_cons (pe_fld (pv 0) rfl) (pa_cons (pe_fld (pv 0) rfl) pa_nil))))))))), ?_⟩
    refine ⟨_, rfl, d, _, dx, _, _, rfl, hD.ins, T.C_Dispute, T.a_Dispute_phase, rfl, _, rfl, d, _, dx, _, _, rfl, hD.ins, T.C_Dispute, T.a_Dispute_day, rfl, _, rfl, d, _, dx, _, _, rfl, hD.ins, T.C_Dispute, T.a_Dispute_claims, rfl, _, rfl, d, _, dx, _, _, rfl, hD.ins, T.C_Dispute, T.a_Dispute_limit, rfl, (by show 4 ≤ sizeLine; decide), fun u nu => ?_⟩
    have s1 := same_new (o := .lst [V.int (s.phase : Nat), V.int (s.day : Nat), V.int (s.n : Nat), V.int (s.limit : Nat)]) nu
    have hi := s1 _ _ hD.ins
    have gu : upd H u (.lst [V.int (s.phase : Nat), V.int (s.day : Nat), V.int (s.n : Nat), V.int (s.limit : Nat)]) u = some (.lst [V.int (s.phase : Nat), V.int (s.day : Nat), V.int (s.n : Nat), V.int (s.limit : Nat)]) := upd_same
    refine ⟨_, rfl, _, rfl, d, _, dx, _, _, rfl, hi, T.C_Dispute, T.a_Dispute_kept, rfl, _, rfl, d, _, dx, _, _, rfl, hi, T.C_Dispute, T.a_Dispute_kept_request, rfl, _, rfl, d, _, dx, _, _, rfl, hi, T.C_Dispute, T.a_Dispute_decision_day, rfl, _, rfl, d, _, dx, _, _, rfl, hi, T.C_Dispute, T.a_Dispute_outcome, rfl, (by show 4 ≤ sizeLine; decide), fun u1 nu1 => ?_⟩
    have s2 := same_new (o := .lst [V.int (s.first : Nat), V.int (s.which : Nat), V.int (s.decided : Nat), V.int (s.last : Nat)]) nu1
    refine ⟨u, u1, _, _, rfl, rfl, s2 _ _ gu, upd_same, (by show 8 ≤ sizeLine; decide), fun t nt => ?_⟩
    exact Told.read k hp.disp hp.fresh (s1.trans s2) nt rfl
theorem ok_would (T : Txt K mg A) : FnOk P w K mg base CX0 8 A.f_would A.fd_would ["dispute", "call"] (spH A 19) := by
  refine T.F_would.ok sc_would (fun vs H Q E h => ?_) (fun cdv Ar outer sh H vs Q E hr h => ?_)
  · obtain ⟨d, kk, s, c, p, a, r, N, M, rfl, _⟩ := h
    rfl
  · obtain ⟨d, kk, s, c, p, a, r, N, M, rfl, hp, hnum, k⟩ := h
    obtain ⟨rfl, rfl, rfl⟩ := hp.form.is19 hnum
    have hst := hp.step (dd := .would) rfl
    have hD0 := hp.disp
    obtain ⟨dx, lp, lc, lt, lr, laa, sk, ps, cs, ts, as, hD⟩ := id hp.disp
    have ea : Vbptam.act s .would = if s.phase = 1 then (s, Vbptam.ints [(Vbptam.granted s).1, (Vbptam.granted s).2]) else if s.phase = 2 then (s, Vbptam.ints [Vbptam.outcome s]) else (s, [-6]) := rfl
    rw [hst, ea] at k
    refine ⟨_, (pss_cons (ps_if (pt_cmpR op_eq (pe_fld (pv 0) rfl) (pe_gint rfl T.g_OPPOSED) (nomark _)) (pss_one (ps_ret (pe_callTy call_list_of rfl T.n_list PyProof.Rows.boot_list (pa_cons (pe_meth0 (pv 0) T.C_Dispute T.M_Dispute_granted (ok_Dispute_granted T) (hr.mono (by decide)) (b_Dispute_granted T) .nil pass0) pa_nil)))) pss_nil)
      (pss_cons (ps_if (pt_cmpR op_eq (pe_fld (pv 0) rfl) (pe_gint rfl T.g_DECIDED) (nomark _)) (pss_one (ps_ret (pe_lst (pa_cons (pe_meth0 (pv 0) T.C_Dispute T.M_Dispute_outcome_now (ok_Dispute_outcome_now T) (hr.mono (by decide)) (b_Dispute_outcome_now T) .nil pass0) pa_nil)))) pss_nil)
      (pss_one (ps_ret (pe_lst (pa_cons (pe_gint rfl T.g_NOT_NOW) pa_nil)))))), ?_⟩
    refine ⟨_, rfl, d, _, dx, _, _, rfl, hD.ins, T.C_Dispute, T.a_Dispute_phase, rfl, rfl, _, rfl, ?_⟩
    rw [decI]
    by_cases h1 : s.phase = 1
    · refine (if_pos (by simp [h1])).mpr ?_
      rw [if_pos h1] at k
      exact ⟨_, rfl, d, dx, _, rfl, hD.ins, rfl, d, s, N, M, rfl, hD0, fun H1 t s1 nt gt => ⟨t, _, rfl, .inr (SqT.of gt), fun q nq => Told.read k hD0 hp.fresh s1 nq rfl⟩⟩
    · refine (if_neg (by simp; omega)).mpr ?_
      rw [if_neg h1] at k
      refine ⟨_, rfl, d, _, dx, _, _, rfl, hD.ins, T.C_Dispute, T.a_Dispute_phase, rfl, rfl, _, rfl, ?_⟩
      rw [decI]
      by_cases h2 : s.phase = 2
      · refine (if_pos (by simp [h2])).mpr ?_
        rw [if_pos h2] at k
        exact ⟨_, rfl, d, dx, _, rfl, hD.ins, rfl, d, s, N, M, rfl, hD0, fun H1 s1 => ⟨(by show 1 ≤ sizeLine; decide), fun q nq => Told.read k hD0 hp.fresh s1 nq rfl⟩⟩
      · refine (if_neg (by simp; omega)).mpr ?_
        rw [if_neg h2] at k
        exact ⟨(by show 1 ≤ sizeLine; decide), fun q nq => Told.read k hD0 hp.fresh (Same.refl H) nq rfl⟩
end
end Op


set_option Elab.async false
set_option linter.all false
set_option maxRecDepth 100000
set_option maxHeartbeats 4000000
namespace Op
open PySem PySem.Spec PyProof.Rows L2
section
variable {P : Program} {w : World} {K : PySem.W.Frag} {mg : Str → Option Value} {base : Heap} {A : Adr}
theorem ok_answer_question (T : Txt K mg A) (T2 : Txt2 K A) : FnOk P w K mg base CX0 9 A.f_answer_question A.fd_answer_question ["dispute", "call"] (sp_answer_question A) := by
  refine T.F_answer_question.ok sc_answer_question (fun vs H Q E h => ?_) (fun cdv Ar outer sh H vs Q E hr h => ?_)
  · obtain ⟨d, kk, s, c, p, a, r, N, M, rfl, _⟩ := h
    rfl
  · obtain ⟨d, kk, s, c, p, a, r, N, M, rfl, hp, hp8, k⟩ := h
    have FF : ∀ k a, atM A.v_QUESTIONS k = some a → ∃ fd ps, FnOk P w K mg base CX0 8 a fd ps (spH A k) ∧ Binds K fd ps [] ∧ PySem.W.keepIn K (.ref a) = true := by
      intro k a ha
      rw [T2.qst] at ha
      unfold atM at ha
      simp only [List.find?_cons, List.find?_nil] at ha
      by_cases h9 : k = 9
      · subst h9; cases ha; exact ⟨_, _, (ok_alive T).mono (by decide), b_alive T, T.F_alive.kp⟩
      by_cases h10 : k = 10
      · subst h10; cases ha; exact ⟨_, _, (ok_about_claim T T2.abt (by decide)).mono (by decide), b_about_claim T, T.F_about_claim.kp⟩
      by_cases h11 : k = 11
      · subst h11; cases ha; exact ⟨_, _, (ok_about_claim T T2.abt (by decide)).mono (by decide), b_about_claim T, T.F_about_claim.kp⟩
      by_cases h12 : k = 12
      · subst h12; cases ha; exact ⟨_, _, (ok_about_claim T T2.abt (by decide)).mono (by decide), b_about_claim T, T.F_about_claim.kp⟩
      by_cases h13 : k = 13
      · subst h13; cases ha; exact ⟨_, _, ok_without T, b_without T, T.F_without.kp⟩
      by_cases h14 : k = 14
      · subst h14; cases ha; exact ⟨_, _, (ok_about_claim T T2.abt (by decide)).mono (by decide), b_about_claim T, T.F_about_claim.kp⟩
      by_cases h15 : k = 15
      · subst h15; cases ha; exact ⟨_, _, (ok_tell_piece T).mono (by decide), b_tell_piece T, T.F_tell_piece.kp⟩
      by_cases h16 : k = 16
      · subst h16; cases ha; exact ⟨_, _, (ok_tell_requests T).mono (by decide), b_tell_requests T, T.F_tell_requests.kp⟩
      by_cases h17 : k = 17
      · subst h17; cases ha; exact ⟨_, _, (ok_tell_appeals T).mono (by decide), b_tell_appeals T, T.F_tell_appeals.kp⟩
      by_cases h18 : k = 18
      · subst h18; cases ha; exact ⟨_, _, (ok_status T).mono (by decide), b_status T, T.F_status.kp⟩
      by_cases h19 : k = 19
      · subst h19; cases ha; exact ⟨_, _, ok_would T, b_would T, T.F_would.kp⟩
      exfalso
      have f : ∀ j : Int, k ≠ j → (j == k) = false := fun j h => by simpa using fun e : j = k => h e.symm
      rw [f 9 h9, f 10 h10, f 11 h11, f 12 h12, f 13 h13, f 14 h14, f 15 h15, f 16 h16, f 17 h17, f 18 h18, f 19 h19] at ha
      cases ha
    refine ⟨_, (pss_one (ps_ret (pe_mcall (sp := fun k => spH A k) T.d_QUESTIONS rfl T.g_QUESTIONS hr FF (pe_fld (pv 1) rfl) (pa_cons (pv 0) (pa_cons (pv 1) pa_nil))))), ?_⟩
    obtain ⟨dk, la, rv, hC⟩ := id hp.call
    obtain ⟨kp, ekp, hkp⟩ := hp.form.small
    have hat : ∃ f, atM A.v_QUESTIONS p = some f := by
      rw [T2.qst, ekp]
      rw [ekp] at hp8
      obtain ⟨j, rfl⟩ : ∃ j, kp = 9 + j := ⟨kp - 9, by omega⟩
      match j, (show j < 11 by omega) with
      | 0, _ => exact ⟨_, rfl⟩
      | 1, _ => exact ⟨_, rfl⟩
      | 2, _ => exact ⟨_, rfl⟩
      | 3, _ => exact ⟨_, rfl⟩
      | 4, _ => exact ⟨_, rfl⟩
      | 5, _ => exact ⟨_, rfl⟩
      | 6, _ => exact ⟨_, rfl⟩
      | 7, _ => exact ⟨_, rfl⟩
      | 8, _ => exact ⟨_, rfl⟩
      | 9, _ => exact ⟨_, rfl⟩
      | 10, _ => exact ⟨_, rfl⟩
    obtain ⟨f, hf⟩ := hat
    exact ⟨_, rfl, kk, _, dk, _, _, rfl, hC.ins, T.C_Call, T.a_Call_number, rfl, p, f, rfl, hf, _, rfl, _, rfl, d, kk, s, c, p, a, r, N, M, rfl, hp, rfl, k⟩
end
end Op


set_option Elab.async false
set_option linter.all false
set_option maxRecDepth 100000
set_option maxHeartbeats 4000000
namespace Op
open PySem PySem.Spec PyProof.Rows L2
theorem row_len {x : Vbptam.Piece} (h : WfW x.what) : (Vbptam.row x).length ≤ 30 := by
  unfold Vbptam.row
  cases hx : x.what with
  | attack c fs =>
    rw [hx] at h
    have := h.2.1
    simp [Vbptam.ints]
    omega
  | proof w =>
    rw [hx] at h
    have h2 := h.2
    have : ∀ l : List (Nat × Int), (l.flatMap fun y => [(y.1 : Int), y.2]).length = 2 * l.length := by
      intro l
      induction l with
      | nil => rfl
      | cons a l ih => rw [List.flatMap_cons, List.length_append, ih, List.length_cons]; simp; omega
    show ((_ : Int) :: _ :: 1 :: (w.flatMap fun y => [(y.1 : Int), y.2])).length ≤ 30
    rw [List.length_cons, List.length_cons, List.length_cons, this]
    omega
theorem Reach.len {s : Vbptam.State} (h : Reach s) (c : List (List Int)) : (Vbptam.step s c).2.length ≤ 30 := step_len h.inv h.rql h.apl (fun x hx => row_len (h.wf x hx)) c
theorem reach_start : Reach Vbptam.start where
  inv := ⟨by decide, fun _ => rfl, fun _ _ x hx => (by cases hx), fun h => absurd (show 0 ≤ 1 by decide) h, fun h => absurd (show 0 ≤ 1 by decide) h, fun h => absurd (show 0 ≤ 1 by decide) h, Nat.zero_le _⟩
  wf := fun x hx => by cases hx
  rq := fun m hm => by cases hm
  rql := Nat.zero_le _
  ap := fun q hq => by cases hq
  apl := Nat.zero_le _
  fst := by decide
  day := Nat.zero_le _
  f0 := fun _ => rfl
  ph := by decide
theorem DispAt.other {A : Adr} {N M : Addr → Prop} {H : Hp} {d t : Addr} {s : Vbptam.State} {o : HO} (h : DispAt A N M H d s) (hn : ¬ N t) (hm : ¬ M t) : DispAt A N M (upd H t o) d s := by
  obtain ⟨dx, lp, lc, lt, lr, la, sk, ps, cs, ts, as, h⟩ := h
  have kn : Keep N H (upd H t o) := fun b u nb e => by rw [upd_ne (show b ≠ t from fun z => hn (z ▸ nb))]; exact e
  have km : ∀ b u, M b → H b = some u → upd H t o b = some u := fun b u nb e => by rw [upd_ne (show b ≠ t from fun z => hm (z ▸ nb))]; exact e
  exact ⟨dx, lp, lc, lt, lr, la, sk, ps, cs, ts, as, h.md, h.mlp, h.mlr, h.mla, h.nm, h.nlc, h.plr, h.pla, h.rla, km _ _ h.md h.ins, km _ _ h.mlp h.lp, kn _ _ h.nlc h.lc, km _ _ h.mlr h.lr, km _ _ h.mla h.la, Paired.mapP h.ps fun _ _ q => q.keep kn, Paired.mapP h.cs fun _ _ q => q.keep kn, Paired.mapP h.as fun _ _ q => ⟨q.1, kn _ _ q.1 q.2⟩, h.st.keep kn, h.ok⟩
theorem CallFor.renew {A : Adr} {N N' : Addr → Prop} {H : Hp} {k : Addr} {c : List (List Int)} (h : CallFor A N H k c) (hw : ∀ b, N b → H b ≠ Option.none → N' b) : CallFor A N' H k c := by
  obtain ⟨p, a, r, hF, h⟩ := h
  exact ⟨p, a, r, hF, h.renew hw⟩
abbrev played (s : Vbptam.State) (cs : List (List (List Int))) : List Int := PyFlat.told (PyFlat.played VbptamNeutral.step s cs)
theorem played_cons (s : Vbptam.State) (c : List (List Int)) (cs : List (List (List Int))) : played s (c :: cs) = ((Vbptam.step s c).2.length : Int) :: ((Vbptam.step s c).2 ++ played (Vbptam.step s c).1 cs) := rfl
section
variable {P : Program} {w : World} {K : PySem.W.Frag} {mg : Str → Option Value} {base : Heap} {A : Adr}
def sp_answers (K : PySem.W.Frag) : Sp := fun vs H Q _ => ∃ (ln : Addr) (ns : List Int), vs = [.ref ln] ∧ SqL K H ln (ns.map V.int) ∧ PyVbptam.answers_asked ns = true ∧
  ∀ (H' : Hp) (p : Addr), H' p = some (.lst ((PyVbptam.answers ns).map V.int)) → Q (.ref p) H'
theorem ok_answers (T : Txt K mg A) (T2 : Txt2 K A) : FnOk P w K mg base CX0 12 A.f_answers A.fd_answers ["calls"] (sp_answers K) := by
  have GC := ok_answer_call (P := P) (w := w) (base := base) T T2 (ok_answer_question T T2)
  refine T.F_answers.ok sc_answers (fun vs H Q E h => ?_) (fun cdv Ar outer sh H vs Q E hr h => ?_)
  · obtain ⟨ln, ns, rfl, _⟩ := h
    rfl
  · obtain ⟨ln, ns, rfl, hln, hask, k⟩ := h
    unfold PyVbptam.answers_asked at hask
    unfold PyVbptam.answers at k
    cases hcs : PyVbptam.calls ns with
    | none => rw [hcs] at hask; cases hask
    | some cs =>
    rw [hcs] at hask k
    have hask : (PyFlat.atMost 400 cs && VbptamNeutral.asked cs) = true := hask
    rw [Bool.and_eq_true] at hask
    have h400 : cs.length ≤ 400 := of_decide_eq_true hask.1
    have hask1 : ∀ c ∈ cs, VbptamNeutral.asked1 c = true := by
      have h2 := hask.2
      unfold VbptamNeutral.asked at h2
      rw [Bool.and_eq_true] at h2
      exact List.all_eq_true.mp h2.1
    have k : ∀ (H' : Hp) (p : Addr), H' p = some (.lst ((played Vbptam.start cs).map V.int)) → Q (.ref p) H' := k
    obtain ⟨eput, hok⟩ := calls_some hcs
    rw [eput] at hln
    refine ⟨_, (pss_cons (ps_set (i := 1) sc_answers.nd rfl (Or.inl rfl) (pe_make0 T.K_Dispute (ok_Dispute_init T) (hr.mono (by decide)) rfl T.c_Dispute (b_Dispute_init T) .nil pass0))
      (pss_cons (ps_set (i := 2) sc_answers.nd rfl (Or.inl rfl) (pe_lst pa_nil))
      (pss_cons (ps_for PassesOwn.never rfl (pi_list (pe_call (ok_split_calls T T2.rng) (hr.mono (by decide)) rfl T.m_split_calls T.F_split_calls.kp (b_split_calls T) .nil pass0 (pa_cons (pv 0) pa_nil))) (pg_name (i := 3) sc_answers.nd rfl (Or.inl rfl)) (pss_cons (ps_set (i := 4) sc_answers.nd rfl (Or.inl rfl) (pe_call GC (hr.mono (by decide)) rfl T.m_answer_call T.F_answer_call.kp (b_answer_call T) .nil pass0 (pa_cons (pv 1) (pa_cons (pv 3) pa_nil))))
      (pss_cons (ps_expr (pe_bm PySem.F.plainAttrs_list PySem.F.slot_list_append PySem.F.type_list_append mt_append (pv 2) (pa_cons (pe_callB call_len_seq rfl T.n_len PySem.boot_len (pa_cons (pv 4) pa_nil)) pa_nil)))
      (pss_one (ps_expr (pe_bm PySem.F.plainAttrs_list PySem.F.slot_list_extend PySem.F.type_list_extend mt_extend (pv 2) (pa_cons (pv 4) pa_nil)))))))
      (pss_one (ps_ret (pv 2)))))), ?_⟩
    intro d dx nd ndx ned
    refine ⟨d, dx, rfl, upd_same, fun H1 lp lc lt lr la W => ⟨rfl, ?_⟩⟩
    have g1 := W.ins
    have glp := W.vp
    have glc := W.vc
    have glt := W.vt
    have glr := W.vr
    have gla := W.va
    have k1 := W.kept
    have m1 := W.np
    have m2 := W.nc
    have m3 := W.nr
    have m4 := W.na
    have m5 := W.nt
    obtain ⟨a1, m1⟩ := upd_none m1
    obtain ⟨_, m1⟩ := upd_none m1
    obtain ⟨a2, m2⟩ := upd_none m2
    obtain ⟨_, m2⟩ := upd_none m2
    obtain ⟨a3, m3⟩ := upd_none m3
    obtain ⟨_, m3⟩ := upd_none m3
    obtain ⟨a4, m4⟩ := upd_none m4
    obtain ⟨_, m4⟩ := upd_none m4
    obtain ⟨a5, m5⟩ := upd_none m5
    have s1 : Same H H1 := Same.made nd ndx k1
    refine ⟨Nat.zero_le _, fun qt nqt => ?_⟩
    have tq : ∀ b o, H1 b = some o → b ≠ qt := fun b o e => ne_of_none e nqt
    have s2 : Same H1 (upd H1 qt (.lst [])) := same_new nqt
    have gq : upd H1 qt (.lst []) qt = some (.lst []) := upd_same
    have hH2 : ∃ H2 : Hp, H2 = upd H1 qt (.lst []) := ⟨_, rfl⟩
    obtain ⟨H2, hH2⟩ := hH2
    rw [← hH2] at s2 gq ⊢
    have hD2 : DispAt A (fun b => b ≠ d ∧ b ≠ lp ∧ b ≠ lr ∧ b ≠ la ∧ b ≠ qt) (fun b => b = d ∨ b = lp ∨ b = lr ∨ b = la) H2 d Vbptam.start := by
      refine ⟨dx, lp, lc, lt, lr, la, 0, [], [], [], [], .inl rfl, .inr (.inl rfl), .inr (.inr (.inl rfl)), .inr (.inr (.inr rfl)), ?_, ⟨a2, W.pc.symm, W.cr, W.ca, tq _ _ glc⟩, W.pr, W.pa, W.ra, s2 _ _ g1, s2 _ _ glp, s2 _ _ glc, s2 _ _ glr, s2 _ _ gla, .nil, .nil, .nil, ⟨⟨a5, W.pt.symm, W.tr, W.ta, tq _ _ glt⟩, s2 _ _ glt, .nil, ⟨Nat.zero_le _, fun _ => rfl, fun h => absurd (show 0 ≤ 1 by decide) h, fun h => absurd (show 0 ≤ 1 by decide) h⟩⟩, reach_start⟩
      rintro b ⟨n1, n2, n3, n4, n5⟩ (z | z | z | z)
      · exact n1 z
      · exact n2 z
      · exact n3 z
      · exact n4 z
    have hN2 : ∀ b, H2 b = Option.none → (b ≠ d ∧ b ≠ lp ∧ b ≠ lr ∧ b ≠ la ∧ b ≠ qt) := fun b hb =>
      ⟨fun z => (by rw [z, s2 _ _ g1] at hb; cases hb), fun z => (by rw [z, s2 _ _ glp] at hb; cases hb), fun z => (by rw [z, s2 _ _ glr] at hb; cases hb), fun z => (by rw [z, s2 _ _ gla] at hb; cases hb), fun z => (by rw [z, gq] at hb; cases hb)⟩
    refine ⟨_, rfl, ln, cs, _, rfl, (s1.trans s2).seq hln, hok, h400, hN2, fun H3 lcs ks s3 nlcs glcs hks => ⟨lcs, rfl, ⟨_, SqL.of glcs⟩, ?_⟩⟩
    have hkl : ks.length = cs.length := Paired.length hks
    have big : (16000 : Nat) < sizeLine := by decide
    refine for_list (K := K) (xs := ks.map V.ref) (fun i σ H' => ∃ (v3 v4 : Option V) (N M : Addr → Prop) (s : Vbptam.State) (out : List Int), σ = [some (.ref ln), some (.ref d), some (.ref qt), v3, v4] ∧ DispAt A N M H' d s ∧ (∀ b, H' b = Option.none → N b) ∧ ¬ N qt ∧ ¬ M qt ∧
      H' qt = some (.lst (out.map V.int)) ∧ ¬ M lcs ∧ lcs ≠ qt ∧ H' lcs = some (.lst (ks.map V.ref)) ∧ Paired (CallFor A N H') ks cs ∧ out.length ≤ 31 * i ∧ played Vbptam.start cs = out ++ played s (cs.drop i)) ?_ ?_ ?_ ?_
    · refine ⟨none, none, _, _, Vbptam.start, [], rfl, hD2.same s3, fun b hb => hN2 b (s3.free hb), fun z => z.2.2.2.2 rfl, ?_, s3 _ _ gq, ?_, (hN2 lcs nlcs).2.2.2.2, glcs, hks, Nat.le_refl _, rfl⟩
      · rintro (z | z | z | z)
        · exact tq _ _ g1 z.symm
        · exact tq _ _ glp z.symm
        · exact tq _ _ glr z.symm
        · exact tq _ _ gla z.symm
      · obtain ⟨n1, n2, n3, n4, n5⟩ := hN2 lcs nlcs
        rintro (z | z | z | z)
        · exact n1 z
        · exact n2 z
        · exact n3 z
        · exact n4 z
    · rintro i σ H' _ ⟨v3, v4, N, M, s, out, _, _, _, _, _, _, _, _, hl, _⟩
      exact SqL.of hl
    · rintro i v σ H' hv ⟨v3, v4, N, M, s, out, rfl, hD, hN, nNq, nMq, hq, nMl, nlq, hl, hP, hlen, hplay⟩
      rw [List.getElem?_map] at hv
      cases ei : ks[i]? with
      | none => rw [ei] at hv; cases hv
      | some kk =>
        rw [ei] at hv
        cases hv
        obtain ⟨c, hc, p, a, r, hF, hC⟩ := Paired.getR hP ei
        have hi : i < cs.length := (List.getElem?_eq_some_iff.mp hc).1
        have hrow : rowLen r ≤ 20 := by
          cases r with
          | none => exact Nat.zero_le _
          | some f => exact asked_row hF (hask1 c (List.mem_of_getElem? hc)) f rfl
        have ed : cs.drop i = c :: cs.drop (i + 1) := by
          rw [List.drop_eq_getElem_cons hi]
          congr 1
          rw [List.getElem?_eq_getElem hi] at hc
          exact Option.some.inj hc
        have hR : Reach s := by
          obtain ⟨_, _, _, _, _, _, _, _, _, _, _, hDi⟩ := hD
          exact hDi.ok
        have hal := hR.len c
        refine ⟨_, rfl, _, rfl, d, kk, s, c, p, a, r, N, M, rfl, ⟨hD, hC, hF, hN, hrow⟩, fun H4 N4 M4 q st nq gq4 => ?_⟩
        have hqs : H' qt ≠ Option.none := by rw [hq]; simp
        have hls : H' lcs ≠ Option.none := by rw [hl]; simp
        have hq4 := st.kept _ _ nMq hq
        have hl4 := st.kept _ _ nMl hl
        have nNq4 : ¬ N4 qt := fun z => nNq ((st.agree qt hqs).mp z)
        have nMq4 := st.mutb qt nMq hqs
        have nMl4 := st.mutb lcs nMl hls
        have nqq : q ≠ qt := fun z => by rw [z, hq] at nq; cases nq
        have hnm : ∀ b, N b → ¬ M b := by
          obtain ⟨_, _, _, _, _, _, _, _, _, _, _, hDi⟩ := hD
          exact hDi.nm
        have hP4 : Paired (CallFor A N4 H4) ks cs := Paired.mapP hP fun b c h => by
          have h1 := h.renew (N' := fun b => N4 b ∧ H' b ≠ Option.none) fun b nb hb => ⟨(st.agree b hb).mpr nb, hb⟩
          have h2 := h1.keep (H' := H4) fun b o nb e => st.kept b o (hnm b ((st.agree b nb.2).mp nb.1)) e
          exact h2.weak fun b nb => nb.1
        refine ⟨_, rfl, .inl ⟨rfl, _, SqL.of hq4⟩, _, rfl, q, _, rfl, .inl (SqL.of gq4), qt, _, _, rfl, rfl, hq4, (by rw [List.length_map]; omega), ?_⟩
        refine ⟨_, rfl, .inl ⟨rfl, _, SqL.of upd_same⟩, _, rfl, qt, q, _, _, rfl, rfl, upd_same, (by rw [upd_ne nqq]; exact gq4), (by rw [List.length_append, List.length_map, List.length_map]; show out.length + 1 + _ ≤ _; omega), ?_⟩
        rw [upd_upd]
        have kn : Keep N4 H4 (upd H4 qt (.lst (out.map V.int ++ [V.int ((((Vbptam.step s c).2.map V.int).length : Nat) : Int)] ++ (Vbptam.step s c).2.map V.int))) := fun b u nb e => by
          rw [upd_ne (show b ≠ qt from fun z => nNq4 (z ▸ nb))]; exact e
        refine ⟨_, _, N4, M4, (Vbptam.step s c).1, out ++ (((Vbptam.step s c).2.length : Int) :: (Vbptam.step s c).2), rfl, st.disp.other nNq4 nMq4, fun b hb => st.fresh b (upd_none hb).2, nNq4, nMq4, ?_, nMl4, nlq, ?_, Paired.mapP hP4 fun b c h => h.keep kn, ?_, ?_⟩
        · rw [upd_same, List.map_append, List.map_cons, List.append_assoc, List.length_map]
          rfl
        · rw [upd_ne nlq]
          exact hl4
        · rw [List.length_append, List.length_cons]
          omega
        · rw [hplay, ed, played_cons, List.append_assoc]
          rfl
    · rintro σ H' ⟨v3, v4, N, M, s, out, rfl, hD, hN, nNq, nMq, hq, nMl, nlq, hl, hP, hlen, hplay⟩
      rw [List.length_map, hkl, List.drop_length] at hplay
      refine ⟨_, rfl, k H' qt ?_⟩
      rw [hq, hplay]
      show _ = some (HO.lst ((out ++ []).map V.int))
      rw [List.append_nil]
end
end Op


set_option Elab.async false
set_option linter.all false
set_option maxRecDepth 100000
set_option maxHeartbeats 4000000
namespace Op
open PySem PySem.Spec PyProof.Rows L2
abbrev fdOf (nm q : Str) (st : Stmt) (kV dc pm : Value) (an : Option Addr) (cd ct : Value) : FuncData := PySem.W.fnOf nm q (defArgs st) (defBody st) (defScope st) .none kV dc pm an cd ct
def ndI : List Int → Bool
  | [] => true
  | a :: l => l.all (fun b => a != b) && ndI l
theorem ndI_of : ∀ {l : List Int}, ndI l = true → l.Nodup
  | [], _ => List.nodup_nil
  | a :: l, h => by
    have h : (l.all (fun b => a != b) && ndI l) = true := h
    rw [Bool.and_eq_true] at h
    refine List.nodup_cons.mpr ⟨fun hm => ?_, ndI_of h.2⟩
    have := List.all_eq_true.mp h.1 a hm
    simp at this
def rngAll (K : PySem.W.Frag) (kvs : List (Int × Addr)) : Bool := (List.range 20).all fun p => match atM kvs p with
  | some a => rngIn K a == some (rngs p)
  | none => false
theorem rngAll_ok {K : PySem.W.Frag} {kvs : List (Int × Addr)} (h : rngAll K kvs = true) (p : Nat) (hp : p < 20) : ∃ a, atM kvs p = some a ∧ rngIn K a = some (rngs p) := by
  have h1 := List.all_eq_true.mp h p (List.mem_range.mpr hp)
  cases e : atM kvs p with
  | none => rw [e] at h1; cases h1
  | some a =>
    rw [e] at h1
    exact ⟨a, rfl, by simpa using h1⟩
theorem all_mk {P : Program} {w : World} {K : PySem.W.Frag} {h : Heap} {mg : Str → Option Value} {fa : Addr} {c_Piece : Addr} {c_Counted : Addr} {c_Dispute : Addr} {c_Call : Addr} {f0 : Addr} {oc0 kV0 dc0 pm0 cd0 ct0 : Value} {od0 an0 : Option Addr} {sl0 : Array (Option Value)} {f1 : Addr} {oc1 kV1 dc1 pm1 cd1 ct1 : Value} {od1 an1 : Option Addr} {sl1 : Array (Option Value)} {f2 : Addr} {oc2 kV2 dc2 pm2 cd2 ct2 : Value} {od2 an2 : Option Addr} {sl2 : Array (Option Value)} {f3 : Addr} {oc3 kV3 dc3 pm3 cd3 ct3 : Value} {od3 an3 : Option Addr} {sl3 : Array (Option Value)} {f4 : Addr} {oc4 kV4 dc4 pm4 cd4 ct4 : Value} {od4 an4 : Option Addr} {sl4 : Array (Option Value)} {f5 : Addr} {oc5 kV5 dc5 pm5 cd5 ct5 : Value} {od5 an5 : Option Addr} {sl5 : Array (Option Value)} {f6 : Addr} {oc6 kV6 dc6 pm6 cd6 ct6 : Value} {od6 an6 : Option Addr} {sl6 : Array (Option Value)} {f7 : Addr} {oc7 kV7 dc7 pm7 cd7 ct7 : Value} {od7 an7 : Option Addr} {sl7 : Array (Option Value)} {f8 : Addr} {oc8 kV8 dc8 pm8 cd8 ct8 : Value} {od8 an8 : Option Addr} {sl8 : Array (Option Value)} {f9 : Addr} {oc9 kV9 dc9 pm9 cd9 ct9 : Value} {od9 an9 : Option Addr} {sl9 : Array (Option Value)} {f10 : Addr} {oc10 kV10 dc10 pm10 cd10 ct10 : Value} {od10 an10 : Option Addr} {sl10 : Array (Option Value)} {f11 : Addr} {oc11 kV11 dc11 pm11 cd11 ct11 : Value} {od11 an11 : Option Addr} {sl11 : Array (Option Value)} {f12 : Addr} {oc12 kV12 dc12 pm12 cd12 ct12 : Value} {od12 an12 : Option Addr} {sl12 : Array (Option Value)} {f13 : Addr} {oc13 kV13 dc13 pm13 cd13 ct13 : Value} {od13 an13 : Option Addr} {sl13 : Array (Option Value)} {f14 : Addr} {oc14 kV14 dc14 pm14 cd14 ct14 : Value} {od14 an14 : Option Addr} {sl14 : Array (Option Value)} {f15 : Addr} {oc15 kV15 dc15 pm15 cd15 ct15 : Value} {od15 an15 : Option Addr} {sl15 : Array (Option Value)} {f16 : Addr} {oc16 kV16 dc16 pm16 cd16 ct16 : Value} {od16 an16 : Option Addr} {sl16 : Array (Option Value)} {f17 : Addr} {oc17 kV17 dc17 pm17 cd17 ct17 : Value} {od17 an17 : Option Addr} {sl17 : Array (Option Value)} {f18 : Addr} {oc18 kV18 dc18 pm18 cd18 ct18 : Value} {od18 an18 : Option Addr} {sl18 : Array (Option Value)} {f19 : Addr} {oc19 kV19 dc19 pm19 cd19 ct19 : Value} {od19 an19 : Option Addr} {sl19 : Array (Option Value)} {f20 : Addr} {oc20 kV20 dc20 pm20 cd20 ct20 : Value} {od20 an20 : Option Addr} {sl20 : Array (Option Value)} {f21 : Addr} {oc21 kV21 dc21 pm21 cd21 ct21 : Value} {od21 an21 : Option Addr} {sl21 : Array (Option Value)} {f22 : Addr} {oc22 kV22 dc22 pm22 cd22 ct22 : Value} {od22 an22 : Option Addr} {sl22 : Array (Option Value)} {f23 : Addr} {oc23 kV23 dc23 pm23 cd23 ct23 : Value} {od23 an23 : Option Addr} {sl23 : Array (Option Value)} {f24 : Addr} {oc24 kV24 dc24 pm24 cd24 ct24 : Value} {od24 an24 : Option Addr} {sl24 : Array (Option Value)} {f25 : Addr} {oc25 kV25 dc25 pm25 cd25 ct25 : Value} {od25 an25 : Option Addr} {sl25 : Array (Option Value)} {f26 : Addr} {oc26 kV26 dc26 pm26 cd26 ct26 : Value} {od26 an26 : Option Addr} {sl26 : Array (Option Value)} {f27 : Addr} {oc27 kV27 dc27 pm27 cd27 ct27 : Value} {od27 an27 : Option Addr} {sl27 : Array (Option Value)} {f28 : Addr} {oc28 kV28 dc28 pm28 cd28 ct28 : Value} {od28 an28 : Option Addr} {sl28 : Array (Option Value)} {f29 : Addr} {oc29 kV29 dc29 pm29 cd29 ct29 : Value} {od29 an29 : Option Addr} {sl29 : Array (Option Value)} {f30 : Addr} {oc30 kV30 dc30 pm30 cd30 ct30 : Value} {od30 an30 : Option Addr} {sl30 : Array (Option Value)} {f31 : Addr} {oc31 kV31 dc31 pm31 cd31 ct31 : Value} {od31 an31 : Option Addr} {sl31 : Array (Option Value)} {f32 : Addr} {oc32 kV32 dc32 pm32 cd32 ct32 : Value} {od32 an32 : Option Addr} {sl32 : Array (Option Value)} {f33 : Addr} {oc33 kV33 dc33 pm33 cd33 ct33 : Value} {od33 an33 : Option Addr} {sl33 : Array (Option Value)} {f34 : Addr} {oc34 kV34 dc34 pm34 cd34 ct34 : Value} {od34 an34 : Option Addr} {sl34 : Array (Option Value)} {f35 : Addr} {oc35 kV35 dc35 pm35 cd35 ct35 : Value} {od35 an35 : Option Addr} {sl35 : Array (Option Value)} {f36 : Addr} {oc36 kV36 dc36 pm36 cd36 ct36 : Value} {od36 an36 : Option Addr} {sl36 : Array (Option Value)} {f37 : Addr} {oc37 kV37 dc37 pm37 cd37 ct37 : Value} {od37 an37 : Option Addr} {sl37 : Array (Option Value)} {f38 : Addr} {oc38 kV38 dc38 pm38 cd38 ct38 : Value} {od38 an38 : Option Addr} {sl38 : Array (Option Value)} {f39 : Addr} {oc39 kV39 dc39 pm39 cd39 ct39 : Value} {od39 an39 : Option Addr} {sl39 : Array (Option Value)} {f40 : Addr} {oc40 kV40 dc40 pm40 cd40 ct40 : Value} {od40 an40 : Option Addr} {sl40 : Array (Option Value)} {f41 : Addr} {oc41 kV41 dc41 pm41 cd41 ct41 : Value} {od41 an41 : Option Addr} {sl41 : Array (Option Value)} {f42 : Addr} {oc42 kV42 dc42 pm42 cd42 ct42 : Value} {od42 an42 : Option Addr} {sl42 : Array (Option Value)} {f43 : Addr} {oc43 kV43 dc43 pm43 cd43 ct43 : Value} {od43 an43 : Option Addr} {sl43 : Array (Option Value)} {f44 : Addr} {oc44 kV44 dc44 pm44 cd44 ct44 : Value} {od44 an44 : Option Addr} {sl44 : Array (Option Value)} {f45 : Addr} {oc45 kV45 dc45 pm45 cd45 ct45 : Value} {od45 an45 : Option Addr} {sl45 : Array (Option Value)} {f46 : Addr} {oc46 kV46 dc46 pm46 cd46 ct46 : Value} {od46 an46 : Option Addr} {sl46 : Array (Option Value)} {f47 : Addr} {oc47 kV47 dc47 pm47 cd47 ct47 : Value} {od47 an47 : Option Addr} {sl47 : Array (Option Value)} {f48 : Addr} {oc48 kV48 dc48 pm48 cd48 ct48 : Value} {od48 an48 : Option Addr} {sl48 : Array (Option Value)} {f49 : Addr} {oc49 kV49 dc49 pm49 cd49 ct49 : Value} {od49 an49 : Option Addr} {sl49 : Array (Option Value)} {f50 : Addr} {oc50 kV50 dc50 pm50 cd50 ct50 : Value} {od50 an50 : Option Addr} {sl50 : Array (Option Value)} {f51 : Addr} {oc51 kV51 dc51 pm51 cd51 ct51 : Value} {od51 an51 : Option Addr} {sl51 : Array (Option Value)} {f52 : Addr} {oc52 kV52 dc52 pm52 cd52 ct52 : Value} {od52 an52 : Option Addr} {sl52 : Array (Option Value)} {f53 : Addr} {oc53 kV53 dc53 pm53 cd53 ct53 : Value} {od53 an53 : Option Addr} {sl53 : Array (Option Value)} {f54 : Addr} {oc54 kV54 dc54 pm54 cd54 ct54 : Value} {od54 an54 : Option Addr} {sl54 : Array (Option Value)} {f55 : Addr} {oc55 kV55 dc55 pm55 cd55 ct55 : Value} {od55 an55 : Option Addr} {sl55 : Array (Option Value)} {f56 : Addr} {oc56 kV56 dc56 pm56 cd56 ct56 : Value} {od56 an56 : Option Addr} {sl56 : Array (Option Value)} {f57 : Addr} {oc57 kV57 dc57 pm57 cd57 ct57 : Value} {od57 an57 : Option Addr} {sl57 : Array (Option Value)} {f58 : Addr} {oc58 kV58 dc58 pm58 cd58 ct58 : Value} {od58 an58 : Option Addr} {sl58 : Array (Option Value)} {f59 : Addr} {oc59 kV59 dc59 pm59 cd59 ct59 : Value} {od59 an59 : Option Addr} {sl59 : Array (Option Value)} {f60 : Addr} {oc60 kV60 dc60 pm60 cd60 ct60 : Value} {od60 an60 : Option Addr} {sl60 : Array (Option Value)} {f61 : Addr} {oc61 kV61 dc61 pm61 cd61 ct61 : Value} {od61 an61 : Option Addr} {sl61 : Array (Option Value)} {f62 : Addr} {oc62 kV62 dc62 pm62 cd62 ct62 : Value} {od62 an62 : Option Addr} {sl62 : Array (Option Value)} {f63 : Addr} {oc63 kV63 dc63 pm63 cd63 ct63 : Value} {od63 an63 : Option Addr} {sl63 : Array (Option Value)} {f64 : Addr} {oc64 kV64 dc64 pm64 cd64 ct64 : Value} {od64 an64 : Option Addr} {sl64 : Array (Option Value)} {f65 : Addr} {oc65 kV65 dc65 pm65 cd65 ct65 : Value} {od65 an65 : Option Addr} {sl65 : Array (Option Value)} {f66 : Addr} {oc66 kV66 dc66 pm66 cd66 ct66 : Value} {od66 an66 : Option Addr} {sl66 : Array (Option Value)} {f67 : Addr} {oc67 kV67 dc67 pm67 cd67 ct67 : Value} {od67 an67 : Option Addr} {sl67 : Array (Option Value)} {f68 : Addr} {oc68 kV68 dc68 pm68 cd68 ct68 : Value} {od68 an68 : Option Addr} {sl68 : Array (Option Value)} {f69 : Addr} {oc69 kV69 dc69 pm69 cd69 ct69 : Value} {od69 an69 : Option Addr} {sl69 : Array (Option Value)} {f70 : Addr} {oc70 kV70 dc70 pm70 cd70 ct70 : Value} {od70 an70 : Option Addr} {sl70 : Array (Option Value)} {t_FACTS : Tok} {t_NO_CASE : Tok} {t_OPPOSED : Tok} {t_DECIDED : Tok} {t_OVER : Tok} {t_OWNER : Tok} {t_DAYS_TO_APPEAL : Tok} {t_NOT_AS_TOLD : Tok} {t_FULL : Tok} {t_NOT_THERE : Tok} {t_NOT_NOW : Tok} {t_MOST_PIECES : Tok} {t_MOST_REQUESTS : Tok} {t_MOST_APPEALS : Tok} {t_LAST_DAY : Tok} {t_ATTACK : Tok} {t_PROOF : Tok} {t_LAST_FACT : Tok} {t_MOST_FACTS_OF_ATTACK : Tok} {t_MOST_WEIGHT : Tok} {t_LAST_CHANGE : Tok} {d_CHANGES : Addr} {o_CHANGES : Obj} {d_ABOUT_CLAIM : Addr} {o_ABOUT_CLAIM : Obj} {d_QUESTIONS : Addr} {o_QUESTIONS : Obj} {d_RANGES : Addr} {o_RANGES : Obj} (X : K.In h) (G : h.Ns mainGlobals mg) (hfa : mg "answers" = some (.ref fa))
    (n_Piece : PySem.W.nsIn K mainGlobals "Piece" = some (some (.ref c_Piece)))
    (pg_Piece : PySem.W.plainGet K c_Piece Str.empty = true)
    (hd_Piece : PySem.W.hasDictIn K c_Piece = true)
    (po_Piece : PySem.W.plainOver K c_Piece = true)
    (sa_Piece : PySem.W.findIn K (.ref c_Piece) "__setattr__" = some (some (.builtin "object.__setattr__")))
    (mk_Piece : PySem.W.makesIn K c_Piece = true)
    (kc_Piece : PySem.W.keepIn K (.ref c_Piece) = true)
    (na_Piece_number : PySem.W.findIn K (.ref c_Piece) "number" = some none)
    (na_Piece_bringer : PySem.W.findIn K (.ref c_Piece) "bringer" = some none)
    (na_Piece_late : PySem.W.findIn K (.ref c_Piece) "late" = some none)
    (na_Piece_claim : PySem.W.findIn K (.ref c_Piece) "claim" = some none)
    (na_Piece_facts : PySem.W.findIn K (.ref c_Piece) "facts" = some none)
    (na_Piece_weights : PySem.W.findIn K (.ref c_Piece) "weights" = some none)
    (n_Counted : PySem.W.nsIn K mainGlobals "Counted" = some (some (.ref c_Counted)))
    (pg_Counted : PySem.W.plainGet K c_Counted Str.empty = true)
    (hd_Counted : PySem.W.hasDictIn K c_Counted = true)
    (po_Counted : PySem.W.plainOver K c_Counted = true)
    (sa_Counted : PySem.W.findIn K (.ref c_Counted) "__setattr__" = some (some (.builtin "object.__setattr__")))
    (mk_Counted : PySem.W.makesIn K c_Counted = true)
    (kc_Counted : PySem.W.keepIn K (.ref c_Counted) = true)
    (na_Counted_claim : PySem.W.findIn K (.ref c_Counted) "claim" = some none)
    (na_Counted_bar : PySem.W.findIn K (.ref c_Counted) "bar" = some none)
    (na_Counted_pieces : PySem.W.findIn K (.ref c_Counted) "pieces" = some none)
    (na_Counted_support : PySem.W.findIn K (.ref c_Counted) "support" = some none)
    (n_Dispute : PySem.W.nsIn K mainGlobals "Dispute" = some (some (.ref c_Dispute)))
    (pg_Dispute : PySem.W.plainGet K c_Dispute Str.empty = true)
    (hd_Dispute : PySem.W.hasDictIn K c_Dispute = true)
    (po_Dispute : PySem.W.plainOver K c_Dispute = true)
    (sa_Dispute : PySem.W.findIn K (.ref c_Dispute) "__setattr__" = some (some (.builtin "object.__setattr__")))
    (mk_Dispute : PySem.W.makesIn K c_Dispute = true)
    (kc_Dispute : PySem.W.keepIn K (.ref c_Dispute) = true)
    (na_Dispute_pieces : PySem.W.findIn K (.ref c_Dispute) "pieces" = some none)
    (na_Dispute_phase : PySem.W.findIn K (.ref c_Dispute) "phase" = some none)
    (na_Dispute_day : PySem.W.findIn K (.ref c_Dispute) "day" = some none)
    (na_Dispute_claims : PySem.W.findIn K (.ref c_Dispute) "claims" = some none)
    (na_Dispute_limit : PySem.W.findIn K (.ref c_Dispute) "limit" = some none)
    (na_Dispute_counted : PySem.W.findIn K (.ref c_Dispute) "counted" = some none)
    (na_Dispute_settled : PySem.W.findIn K (.ref c_Dispute) "settled" = some none)
    (na_Dispute_settled_pieces : PySem.W.findIn K (.ref c_Dispute) "settled_pieces" = some none)
    (na_Dispute_requests : PySem.W.findIn K (.ref c_Dispute) "requests" = some none)
    (na_Dispute_appeals : PySem.W.findIn K (.ref c_Dispute) "appeals" = some none)
    (na_Dispute_kept : PySem.W.findIn K (.ref c_Dispute) "kept" = some none)
    (na_Dispute_kept_request : PySem.W.findIn K (.ref c_Dispute) "kept_request" = some none)
    (na_Dispute_decision_day : PySem.W.findIn K (.ref c_Dispute) "decision_day" = some none)
    (na_Dispute_outcome : PySem.W.findIn K (.ref c_Dispute) "outcome" = some none)
    (n_Call : PySem.W.nsIn K mainGlobals "Call" = some (some (.ref c_Call)))
    (pg_Call : PySem.W.plainGet K c_Call Str.empty = true)
    (hd_Call : PySem.W.hasDictIn K c_Call = true)
    (po_Call : PySem.W.plainOver K c_Call = true)
    (sa_Call : PySem.W.findIn K (.ref c_Call) "__setattr__" = some (some (.builtin "object.__setattr__")))
    (mk_Call : PySem.W.makesIn K c_Call = true)
    (kc_Call : PySem.W.keepIn K (.ref c_Call) = true)
    (na_Call_number : PySem.W.findIn K (.ref c_Call) "number" = some none)
    (na_Call_arguments : PySem.W.findIn K (.ref c_Call) "arguments" = some none)
    (na_Call_row : PySem.W.findIn K (.ref c_Call) "row" = some none)
    (ff0 : PySem.W.findIn K (.ref c_Piece) "__init__" = some (some (.ref f0)))
    (fi0 : PySem.W.isFn K (.ref f0) = true)
    (fl0 : K.lookup f0 = some ⟨oc0, od0, .func (fdOf "__init__" "Piece.__init__" s_Piece_init kV0 dc0 pm0 an0 cd0 ct0), sl0⟩)
    (fc0 : PySem.W.codeIn K cd0 "Piece.__init__" = true)
    (fk0 : PySem.W.keepIn K (.ref f0) = true)
    (ff1 : PySem.W.nsIn K mainGlobals "is_proof" = some (some (.ref f1)))
    (fl1 : K.lookup f1 = some ⟨oc1, od1, .func (fdOf "is_proof" "is_proof" s_is_proof kV1 dc1 pm1 an1 cd1 ct1), sl1⟩)
    (fc1 : PySem.W.codeIn K cd1 "is_proof" = true)
    (fk1 : PySem.W.keepIn K (.ref f1) = true)
    (ff2 : PySem.W.nsIn K mainGlobals "added_up" = some (some (.ref f2)))
    (fl2 : K.lookup f2 = some ⟨oc2, od2, .func (fdOf "added_up" "added_up" s_added_up kV2 dc2 pm2 an2 cd2 ct2), sl2⟩)
    (fc2 : PySem.W.codeIn K cd2 "added_up" = true)
    (fk2 : PySem.W.keepIn K (.ref f2) = true)
    (ff3 : PySem.W.findIn K (.ref c_Counted) "__init__" = some (some (.ref f3)))
    (fi3 : PySem.W.isFn K (.ref f3) = true)
    (fl3 : K.lookup f3 = some ⟨oc3, od3, .func (fdOf "__init__" "Counted.__init__" s_Counted_init kV3 dc3 pm3 an3 cd3 ct3), sl3⟩)
    (fc3 : PySem.W.codeIn K cd3 "Counted.__init__" = true)
    (fk3 : PySem.W.keepIn K (.ref f3) = true)
    (ff4 : PySem.W.findIn K (.ref c_Counted) "is_proven" = some (some (.ref f4)))
    (fi4 : PySem.W.isFn K (.ref f4) = true)
    (fl4 : K.lookup f4 = some ⟨oc4, od4, .func (fdOf "is_proven" "Counted.is_proven" s_Counted_is_proven kV4 dc4 pm4 an4 cd4 ct4), sl4⟩)
    (fc4 : PySem.W.codeIn K cd4 "Counted.is_proven" = true)
    (fk4 : PySem.W.keepIn K (.ref f4) = true)
    (ff5 : PySem.W.findIn K (.ref c_Counted) "is_brought_down_by" = some (some (.ref f5)))
    (fi5 : PySem.W.isFn K (.ref f5) = true)
    (fl5 : K.lookup f5 = some ⟨oc5, od5, .func (fdOf "is_brought_down_by" "Counted.is_brought_down_by" s_Counted_is_brought_down_by kV5 dc5 pm5 an5 cd5 ct5), sl5⟩)
    (fc5 : PySem.W.codeIn K cd5 "Counted.is_brought_down_by" = true)
    (fk5 : PySem.W.keepIn K (.ref f5) = true)
    (ff6 : PySem.W.findIn K (.ref c_Counted) "proven_attacks" = some (some (.ref f6)))
    (fi6 : PySem.W.isFn K (.ref f6) = true)
    (fl6 : K.lookup f6 = some ⟨oc6, od6, .func (fdOf "proven_attacks" "Counted.proven_attacks" s_Counted_proven_attacks kV6 dc6 pm6 an6 cd6 ct6), sl6⟩)
    (fc6 : PySem.W.codeIn K cd6 "Counted.proven_attacks" = true)
    (fk6 : PySem.W.keepIn K (.ref f6) = true)
    (ff7 : PySem.W.findIn K (.ref c_Counted) "stands" = some (some (.ref f7)))
    (fi7 : PySem.W.isFn K (.ref f7) = true)
    (fl7 : K.lookup f7 = some ⟨oc7, od7, .func (fdOf "stands" "Counted.stands" s_Counted_stands kV7 dc7 pm7 an7 cd7 ct7), sl7⟩)
    (fc7 : PySem.W.codeIn K cd7 "Counted.stands" = true)
    (fk7 : PySem.W.keepIn K (.ref f7) = true)
    (ff8 : PySem.W.findIn K (.ref c_Counted) "joined_by" = some (some (.ref f8)))
    (fi8 : PySem.W.isFn K (.ref f8) = true)
    (fl8 : K.lookup f8 = some ⟨oc8, od8, .func (fdOf "joined_by" "Counted.joined_by" s_Counted_joined_by kV8 dc8 pm8 an8 cd8 ct8), sl8⟩)
    (fc8 : PySem.W.codeIn K cd8 "Counted.joined_by" = true)
    (fk8 : PySem.W.keepIn K (.ref f8) = true)
    (ff9 : PySem.W.findIn K (.ref c_Counted) "weighed_with" = some (some (.ref f9)))
    (fi9 : PySem.W.isFn K (.ref f9) = true)
    (fl9 : K.lookup f9 = some ⟨oc9, od9, .func (fdOf "weighed_with" "Counted.weighed_with" s_Counted_weighed_with kV9 dc9 pm9 an9 cd9 ct9), sl9⟩)
    (fc9 : PySem.W.codeIn K cd9 "Counted.weighed_with" = true)
    (fk9 : PySem.W.keepIn K (.ref f9) = true)
    (ff10 : PySem.W.findIn K (.ref c_Counted) "less" = some (some (.ref f10)))
    (fi10 : PySem.W.isFn K (.ref f10) = true)
    (fl10 : K.lookup f10 = some ⟨oc10, od10, .func (fdOf "less" "Counted.less" s_Counted_less kV10 dc10 pm10 an10 cd10 ct10), sl10⟩)
    (fc10 : PySem.W.codeIn K cd10 "Counted.less" = true)
    (fk10 : PySem.W.keepIn K (.ref f10) = true)
    (ff11 : PySem.W.nsIn K mainGlobals "nothing_counted" = some (some (.ref f11)))
    (fl11 : K.lookup f11 = some ⟨oc11, od11, .func (fdOf "nothing_counted" "nothing_counted" s_nothing_counted kV11 dc11 pm11 an11 cd11 ct11), sl11⟩)
    (fc11 : PySem.W.codeIn K cd11 "nothing_counted" = true)
    (fk11 : PySem.W.keepIn K (.ref f11) = true)
    (ff12 : PySem.W.nsIn K mainGlobals "claims_that_stand" = some (some (.ref f12)))
    (fl12 : K.lookup f12 = some ⟨oc12, od12, .func (fdOf "claims_that_stand" "claims_that_stand" s_claims_that_stand kV12 dc12 pm12 an12 cd12 ct12), sl12⟩)
    (fc12 : PySem.W.codeIn K cd12 "claims_that_stand" = true)
    (fk12 : PySem.W.keepIn K (.ref f12) = true)
    (ff13 : PySem.W.nsIn K mainGlobals "weighed_on" = some (some (.ref f13)))
    (fl13 : K.lookup f13 = some ⟨oc13, od13, .func (fdOf "weighed_on" "weighed_on" s_weighed_on kV13 dc13 pm13 an13 cd13 ct13), sl13⟩)
    (fc13 : PySem.W.codeIn K cd13 "weighed_on" = true)
    (fk13 : PySem.W.keepIn K (.ref f13) = true)
    (ff14 : PySem.W.findIn K (.ref c_Dispute) "__init__" = some (some (.ref f14)))
    (fi14 : PySem.W.isFn K (.ref f14) = true)
    (fl14 : K.lookup f14 = some ⟨oc14, od14, .func (fdOf "__init__" "Dispute.__init__" s_Dispute_init kV14 dc14 pm14 an14 cd14 ct14), sl14⟩)
    (fc14 : PySem.W.codeIn K cd14 "Dispute.__init__" = true)
    (fk14 : PySem.W.keepIn K (.ref f14) = true)
    (ff15 : PySem.W.findIn K (.ref c_Dispute) "wipe" = some (some (.ref f15)))
    (fi15 : PySem.W.isFn K (.ref f15) = true)
    (fl15 : K.lookup f15 = some ⟨oc15, od15, .func (fdOf "wipe" "Dispute.wipe" s_Dispute_wipe kV15 dc15 pm15 an15 cd15 ct15), sl15⟩)
    (fc15 : PySem.W.codeIn K cd15 "Dispute.wipe" = true)
    (fk15 : PySem.W.keepIn K (.ref f15) = true)
    (ff16 : PySem.W.findIn K (.ref c_Dispute) "begin" = some (some (.ref f16)))
    (fi16 : PySem.W.isFn K (.ref f16) = true)
    (fl16 : K.lookup f16 = some ⟨oc16, od16, .func (fdOf "begin" "Dispute.begin" s_Dispute_begin kV16 dc16 pm16 an16 cd16 ct16), sl16⟩)
    (fc16 : PySem.W.codeIn K cd16 "Dispute.begin" = true)
    (fk16 : PySem.W.keepIn K (.ref f16) = true)
    (ff17 : PySem.W.findIn K (.ref c_Dispute) "all_claims" = some (some (.ref f17)))
    (fi17 : PySem.W.isFn K (.ref f17) = true)
    (fl17 : K.lookup f17 = some ⟨oc17, od17, .func (fdOf "all_claims" "Dispute.all_claims" s_Dispute_all_claims kV17 dc17 pm17 an17 cd17 ct17), sl17⟩)
    (fc17 : PySem.W.codeIn K cd17 "Dispute.all_claims" = true)
    (fk17 : PySem.W.keepIn K (.ref f17) = true)
    (ff18 : PySem.W.findIn K (.ref c_Dispute) "has_claims" = some (some (.ref f18)))
    (fi18 : PySem.W.isFn K (.ref f18) = true)
    (fl18 : K.lookup f18 = some ⟨oc18, od18, .func (fdOf "has_claims" "Dispute.has_claims" s_Dispute_has_claims kV18 dc18 pm18 an18 cd18 ct18), sl18⟩)
    (fc18 : PySem.W.codeIn K cd18 "Dispute.has_claims" = true)
    (fk18 : PySem.W.keepIn K (.ref f18) = true)
    (ff19 : PySem.W.findIn K (.ref c_Dispute) "is_running" = some (some (.ref f19)))
    (fi19 : PySem.W.isFn K (.ref f19) = true)
    (fl19 : K.lookup f19 = some ⟨oc19, od19, .func (fdOf "is_running" "Dispute.is_running" s_Dispute_is_running kV19 dc19 pm19 an19 cd19 ct19), sl19⟩)
    (fc19 : PySem.W.codeIn K cd19 "Dispute.is_running" = true)
    (fk19 : PySem.W.keepIn K (.ref f19) = true)
    (ff20 : PySem.W.findIn K (.ref c_Dispute) "is_behind_limit" = some (some (.ref f20)))
    (fi20 : PySem.W.isFn K (.ref f20) = true)
    (fl20 : K.lookup f20 = some ⟨oc20, od20, .func (fdOf "is_behind_limit" "Dispute.is_behind_limit" s_Dispute_is_behind_limit kV20 dc20 pm20 an20 cd20 ct20), sl20⟩)
    (fc20 : PySem.W.codeIn K cd20 "Dispute.is_behind_limit" = true)
    (fk20 : PySem.W.keepIn K (.ref f20) = true)
    (ff21 : PySem.W.findIn K (.ref c_Dispute) "is_behind_appeals" = some (some (.ref f21)))
    (fi21 : PySem.W.isFn K (.ref f21) = true)
    (fl21 : K.lookup f21 = some ⟨oc21, od21, .func (fdOf "is_behind_appeals" "Dispute.is_behind_appeals" s_Dispute_is_behind_appeals kV21 dc21 pm21 an21 cd21 ct21), sl21⟩)
    (fc21 : PySem.W.codeIn K cd21 "Dispute.is_behind_appeals" = true)
    (fk21 : PySem.W.keepIn K (.ref f21) = true)
    (ff22 : PySem.W.findIn K (.ref c_Dispute) "bring" = some (some (.ref f22)))
    (fi22 : PySem.W.isFn K (.ref f22) = true)
    (fl22 : K.lookup f22 = some ⟨oc22, od22, .func (fdOf "bring" "Dispute.bring" s_Dispute_bring kV22 dc22 pm22 an22 cd22 ct22), sl22⟩)
    (fc22 : PySem.W.codeIn K cd22 "Dispute.bring" = true)
    (fk22 : PySem.W.keepIn K (.ref f22) = true)
    (ff23 : PySem.W.findIn K (.ref c_Dispute) "standing" = some (some (.ref f23)))
    (fi23 : PySem.W.isFn K (.ref f23) = true)
    (fl23 : K.lookup f23 = some ⟨oc23, od23, .func (fdOf "standing" "Dispute.standing" s_Dispute_standing kV23 dc23 pm23 an23 cd23 ct23), sl23⟩)
    (fc23 : PySem.W.codeIn K cd23 "Dispute.standing" = true)
    (fk23 : PySem.W.keepIn K (.ref f23) = true)
    (ff24 : PySem.W.findIn K (.ref c_Dispute) "standing_without" = some (some (.ref f24)))
    (fi24 : PySem.W.isFn K (.ref f24) = true)
    (fl24 : K.lookup f24 = some ⟨oc24, od24, .func (fdOf "standing_without" "Dispute.standing_without" s_Dispute_standing_without kV24 dc24 pm24 an24 cd24 ct24), sl24⟩)
    (fc24 : PySem.W.codeIn K cd24 "Dispute.standing_without" = true)
    (fk24 : PySem.W.keepIn K (.ref f24) = true)
    (ff25 : PySem.W.findIn K (.ref c_Dispute) "granted" = some (some (.ref f25)))
    (fi25 : PySem.W.isFn K (.ref f25) = true)
    (fl25 : K.lookup f25 = some ⟨oc25, od25, .func (fdOf "granted" "Dispute.granted" s_Dispute_granted kV25 dc25 pm25 an25 cd25 ct25), sl25⟩)
    (fc25 : PySem.W.codeIn K cd25 "Dispute.granted" = true)
    (fk25 : PySem.W.keepIn K (.ref f25) = true)
    (ff26 : PySem.W.findIn K (.ref c_Dispute) "decide" = some (some (.ref f26)))
    (fi26 : PySem.W.isFn K (.ref f26) = true)
    (fl26 : K.lookup f26 = some ⟨oc26, od26, .func (fdOf "decide" "Dispute.decide" s_Dispute_decide kV26 dc26 pm26 an26 cd26 ct26), sl26⟩)
    (fc26 : PySem.W.codeIn K cd26 "Dispute.decide" = true)
    (fk26 : PySem.W.keepIn K (.ref f26) = true)
    (ff27 : PySem.W.findIn K (.ref c_Dispute) "may_name" = some (some (.ref f27)))
    (fi27 : PySem.W.isFn K (.ref f27) = true)
    (fl27 : K.lookup f27 = some ⟨oc27, od27, .func (fdOf "may_name" "Dispute.may_name" s_Dispute_may_name kV27 dc27 pm27 an27 cd27 ct27), sl27⟩)
    (fc27 : PySem.W.codeIn K cd27 "Dispute.may_name" = true)
    (fk27 : PySem.W.keepIn K (.ref f27) = true)
    (ff28 : PySem.W.findIn K (.ref c_Dispute) "outcome_now" = some (some (.ref f28)))
    (fi28 : PySem.W.isFn K (.ref f28) = true)
    (fl28 : K.lookup f28 = some ⟨oc28, od28, .func (fdOf "outcome_now" "Dispute.outcome_now" s_Dispute_outcome_now kV28 dc28 pm28 an28 cd28 ct28), sl28⟩)
    (fc28 : PySem.W.codeIn K cd28 "Dispute.outcome_now" = true)
    (fk28 : PySem.W.keepIn K (.ref f28) = true)
    (ff29 : PySem.W.findIn K (.ref c_Dispute) "fix_outcome" = some (some (.ref f29)))
    (fi29 : PySem.W.isFn K (.ref f29) = true)
    (fl29 : K.lookup f29 = some ⟨oc29, od29, .func (fdOf "fix_outcome" "Dispute.fix_outcome" s_Dispute_fix_outcome kV29 dc29 pm29 an29 cd29 ct29), sl29⟩)
    (fc29 : PySem.W.codeIn K cd29 "Dispute.fix_outcome" = true)
    (fk29 : PySem.W.keepIn K (.ref f29) = true)
    (ff30 : PySem.W.nsIn K mainGlobals "begin_case" = some (some (.ref f30)))
    (fl30 : K.lookup f30 = some ⟨oc30, od30, .func (fdOf "begin_case" "begin_case" s_begin_case kV30 dc30 pm30 an30 cd30 ct30), sl30⟩)
    (fc30 : PySem.W.codeIn K cd30 "begin_case" = true)
    (fk30 : PySem.W.keepIn K (.ref f30) = true)
    (ff31 : PySem.W.nsIn K mainGlobals "bring_piece" = some (some (.ref f31)))
    (fl31 : K.lookup f31 = some ⟨oc31, od31, .func (fdOf "bring_piece" "bring_piece" s_bring_piece kV31 dc31 pm31 an31 cd31 ct31), sl31⟩)
    (fc31 : PySem.W.codeIn K cd31 "bring_piece" = true)
    (fk31 : PySem.W.keepIn K (.ref f31) = true)
    (ff32 : PySem.W.nsIn K mainGlobals "attack" = some (some (.ref f32)))
    (fl32 : K.lookup f32 = some ⟨oc32, od32, .func (fdOf "attack" "attack" s_attack kV32 dc32 pm32 an32 cd32 ct32), sl32⟩)
    (fc32 : PySem.W.codeIn K cd32 "attack" = true)
    (fk32 : PySem.W.keepIn K (.ref f32) = true)
    (ff33 : PySem.W.nsIn K mainGlobals "prove" = some (some (.ref f33)))
    (fl33 : K.lookup f33 = some ⟨oc33, od33, .func (fdOf "prove" "prove" s_prove kV33 dc33 pm33 an33 cd33 ct33), sl33⟩)
    (fc33 : PySem.W.codeIn K cd33 "prove" = true)
    (fk33 : PySem.W.keepIn K (.ref f33) = true)
    (ff34 : PySem.W.nsIn K mainGlobals "request" = some (some (.ref f34)))
    (fl34 : K.lookup f34 = some ⟨oc34, od34, .func (fdOf "request" "request" s_request kV34 dc34 pm34 an34 cd34 ct34), sl34⟩)
    (fc34 : PySem.W.codeIn K cd34 "request" = true)
    (fk34 : PySem.W.keepIn K (.ref f34) = true)
    (ff35 : PySem.W.nsIn K mainGlobals "tick" = some (some (.ref f35)))
    (fl35 : K.lookup f35 = some ⟨oc35, od35, .func (fdOf "tick" "tick" s_tick kV35 dc35 pm35 an35 cd35 ct35), sl35⟩)
    (fc35 : PySem.W.codeIn K cd35 "tick" = true)
    (fk35 : PySem.W.keepIn K (.ref f35) = true)
    (ff36 : PySem.W.nsIn K mainGlobals "decide" = some (some (.ref f36)))
    (fl36 : K.lookup f36 = some ⟨oc36, od36, .func (fdOf "decide" "decide" s_decide kV36 dc36 pm36 an36 cd36 ct36), sl36⟩)
    (fc36 : PySem.W.codeIn K cd36 "decide" = true)
    (fk36 : PySem.W.keepIn K (.ref f36) = true)
    (ff37 : PySem.W.nsIn K mainGlobals "appeal" = some (some (.ref f37)))
    (fl37 : K.lookup f37 = some ⟨oc37, od37, .func (fdOf "appeal" "appeal" s_appeal kV37 dc37 pm37 an37 cd37 ct37), sl37⟩)
    (fc37 : PySem.W.codeIn K cd37 "appeal" = true)
    (fk37 : PySem.W.keepIn K (.ref f37) = true)
    (ff38 : PySem.W.nsIn K mainGlobals "withdraw" = some (some (.ref f38)))
    (fl38 : K.lookup f38 = some ⟨oc38, od38, .func (fdOf "withdraw" "withdraw" s_withdraw kV38 dc38 pm38 an38 cd38 ct38), sl38⟩)
    (fc38 : PySem.W.codeIn K cd38 "withdraw" = true)
    (fk38 : PySem.W.keepIn K (.ref f38) = true)
    (ff39 : PySem.W.nsIn K mainGlobals "close_case" = some (some (.ref f39)))
    (fl39 : K.lookup f39 = some ⟨oc39, od39, .func (fdOf "close_case" "close_case" s_close_case kV39 dc39 pm39 an39 cd39 ct39), sl39⟩)
    (fc39 : PySem.W.codeIn K cd39 "close_case" = true)
    (fk39 : PySem.W.keepIn K (.ref f39) = true)
    (ff40 : PySem.W.nsIn K mainGlobals "answer_change" = some (some (.ref f40)))
    (fl40 : K.lookup f40 = some ⟨oc40, od40, .func (fdOf "answer_change" "answer_change" s_answer_change kV40 dc40 pm40 an40 cd40 ct40), sl40⟩)
    (fc40 : PySem.W.codeIn K cd40 "answer_change" = true)
    (fk40 : PySem.W.keepIn K (.ref f40) = true)
    (ff41 : PySem.W.nsIn K mainGlobals "has_one_of_each" = some (some (.ref f41)))
    (fl41 : K.lookup f41 = some ⟨oc41, od41, .func (fdOf "has_one_of_each" "has_one_of_each" s_has_one_of_each kV41 dc41 pm41 an41 cd41 ct41), sl41⟩)
    (fc41 : PySem.W.codeIn K cd41 "has_one_of_each" = true)
    (fk41 : PySem.W.keepIn K (.ref f41) = true)
    (ff42 : PySem.W.nsIn K mainGlobals "one_longer" = some (some (.ref f42)))
    (fl42 : K.lookup f42 = some ⟨oc42, od42, .func (fdOf "one_longer" "one_longer" s_one_longer kV42 dc42 pm42 an42 cd42 ct42), sl42⟩)
    (fc42 : PySem.W.codeIn K cd42 "one_longer" = true)
    (fk42 : PySem.W.keepIn K (.ref f42) = true)
    (ff43 : PySem.W.nsIn K mainGlobals "fewest_facts" = some (some (.ref f43)))
    (fl43 : K.lookup f43 = some ⟨oc43, od43, .func (fdOf "fewest_facts" "fewest_facts" s_fewest_facts kV43 dc43 pm43 an43 cd43 ct43), sl43⟩)
    (fc43 : PySem.W.codeIn K cd43 "fewest_facts" = true)
    (fk43 : PySem.W.keepIn K (.ref f43) = true)
    (ff44 : PySem.W.nsIn K mainGlobals "as_number" = some (some (.ref f44)))
    (fl44 : K.lookup f44 = some ⟨oc44, od44, .func (fdOf "as_number" "as_number" s_as_number kV44 dc44 pm44 an44 cd44 ct44), sl44⟩)
    (fc44 : PySem.W.codeIn K cd44 "as_number" = true)
    (fk44 : PySem.W.keepIn K (.ref f44) = true)
    (ff45 : PySem.W.nsIn K mainGlobals "alive" = some (some (.ref f45)))
    (fl45 : K.lookup f45 = some ⟨oc45, od45, .func (fdOf "alive" "alive" s_alive kV45 dc45 pm45 an45 cd45 ct45), sl45⟩)
    (fc45 : PySem.W.codeIn K cd45 "alive" = true)
    (fk45 : PySem.W.keepIn K (.ref f45) = true)
    (ff46 : PySem.W.nsIn K mainGlobals "counted_as_asked" = some (some (.ref f46)))
    (fl46 : K.lookup f46 = some ⟨oc46, od46, .func (fdOf "counted_as_asked" "counted_as_asked" s_counted_as_asked kV46 dc46 pm46 an46 cd46 ct46), sl46⟩)
    (fc46 : PySem.W.codeIn K cd46 "counted_as_asked" = true)
    (fk46 : PySem.W.keepIn K (.ref f46) = true)
    (ff47 : PySem.W.nsIn K mainGlobals "tell_fact" = some (some (.ref f47)))
    (fl47 : K.lookup f47 = some ⟨oc47, od47, .func (fdOf "tell_fact" "tell_fact" s_tell_fact kV47 dc47 pm47 an47 cd47 ct47), sl47⟩)
    (fc47 : PySem.W.codeIn K cd47 "tell_fact" = true)
    (fk47 : PySem.W.keepIn K (.ref f47) = true)
    (ff48 : PySem.W.nsIn K mainGlobals "tell_why" = some (some (.ref f48)))
    (fl48 : K.lookup f48 = some ⟨oc48, od48, .func (fdOf "tell_why" "tell_why" s_tell_why kV48 dc48 pm48 an48 cd48 ct48), sl48⟩)
    (fc48 : PySem.W.codeIn K cd48 "tell_why" = true)
    (fk48 : PySem.W.keepIn K (.ref f48) = true)
    (ff49 : PySem.W.nsIn K mainGlobals "tell_fewest" = some (some (.ref f49)))
    (fl49 : K.lookup f49 = some ⟨oc49, od49, .func (fdOf "tell_fewest" "tell_fewest" s_tell_fewest kV49 dc49 pm49 an49 cd49 ct49), sl49⟩)
    (fc49 : PySem.W.codeIn K cd49 "tell_fewest" = true)
    (fk49 : PySem.W.keepIn K (.ref f49) = true)
    (ff50 : PySem.W.nsIn K mainGlobals "tell_let_in" = some (some (.ref f50)))
    (fl50 : K.lookup f50 = some ⟨oc50, od50, .func (fdOf "tell_let_in" "tell_let_in" s_tell_let_in kV50 dc50 pm50 an50 cd50 ct50), sl50⟩)
    (fc50 : PySem.W.codeIn K cd50 "tell_let_in" = true)
    (fk50 : PySem.W.keepIn K (.ref f50) = true)
    (ff51 : PySem.W.nsIn K mainGlobals "about_claim" = some (some (.ref f51)))
    (fl51 : K.lookup f51 = some ⟨oc51, od51, .func (fdOf "about_claim" "about_claim" s_about_claim kV51 dc51 pm51 an51 cd51 ct51), sl51⟩)
    (fc51 : PySem.W.codeIn K cd51 "about_claim" = true)
    (fk51 : PySem.W.keepIn K (.ref f51) = true)
    (ff52 : PySem.W.nsIn K mainGlobals "without" = some (some (.ref f52)))
    (fl52 : K.lookup f52 = some ⟨oc52, od52, .func (fdOf "without" "without" s_without kV52 dc52 pm52 an52 cd52 ct52), sl52⟩)
    (fc52 : PySem.W.codeIn K cd52 "without" = true)
    (fk52 : PySem.W.keepIn K (.ref f52) = true)
    (ff53 : PySem.W.nsIn K mainGlobals "facts_and_weights" = some (some (.ref f53)))
    (fl53 : K.lookup f53 = some ⟨oc53, od53, .func (fdOf "facts_and_weights" "facts_and_weights" s_facts_and_weights kV53 dc53 pm53 an53 cd53 ct53), sl53⟩)
    (fc53 : PySem.W.codeIn K cd53 "facts_and_weights" = true)
    (fk53 : PySem.W.keepIn K (.ref f53) = true)
    (ff54 : PySem.W.nsIn K mainGlobals "tell_piece" = some (some (.ref f54)))
    (fl54 : K.lookup f54 = some ⟨oc54, od54, .func (fdOf "tell_piece" "tell_piece" s_tell_piece kV54 dc54 pm54 an54 cd54 ct54), sl54⟩)
    (fc54 : PySem.W.codeIn K cd54 "tell_piece" = true)
    (fk54 : PySem.W.keepIn K (.ref f54) = true)
    (ff55 : PySem.W.nsIn K mainGlobals "tell_requests" = some (some (.ref f55)))
    (fl55 : K.lookup f55 = some ⟨oc55, od55, .func (fdOf "tell_requests" "tell_requests" s_tell_requests kV55 dc55 pm55 an55 cd55 ct55), sl55⟩)
    (fc55 : PySem.W.codeIn K cd55 "tell_requests" = true)
    (fk55 : PySem.W.keepIn K (.ref f55) = true)
    (ff56 : PySem.W.nsIn K mainGlobals "tell_appeals" = some (some (.ref f56)))
    (fl56 : K.lookup f56 = some ⟨oc56, od56, .func (fdOf "tell_appeals" "tell_appeals" s_tell_appeals kV56 dc56 pm56 an56 cd56 ct56), sl56⟩)
    (fc56 : PySem.W.codeIn K cd56 "tell_appeals" = true)
    (fk56 : PySem.W.keepIn K (.ref f56) = true)
    (ff57 : PySem.W.nsIn K mainGlobals "status" = some (some (.ref f57)))
    (fl57 : K.lookup f57 = some ⟨oc57, od57, .func (fdOf "status" "status" s_status kV57 dc57 pm57 an57 cd57 ct57), sl57⟩)
    (fc57 : PySem.W.codeIn K cd57 "status" = true)
    (fk57 : PySem.W.keepIn K (.ref f57) = true)
    (ff58 : PySem.W.nsIn K mainGlobals "would" = some (some (.ref f58)))
    (fl58 : K.lookup f58 = some ⟨oc58, od58, .func (fdOf "would" "would" s_would kV58 dc58 pm58 an58 cd58 ct58), sl58⟩)
    (fc58 : PySem.W.codeIn K cd58 "would" = true)
    (fk58 : PySem.W.keepIn K (.ref f58) = true)
    (ff59 : PySem.W.nsIn K mainGlobals "answer_question" = some (some (.ref f59)))
    (fl59 : K.lookup f59 = some ⟨oc59, od59, .func (fdOf "answer_question" "answer_question" s_answer_question kV59 dc59 pm59 an59 cd59 ct59), sl59⟩)
    (fc59 : PySem.W.codeIn K cd59 "answer_question" = true)
    (fk59 : PySem.W.keepIn K (.ref f59) = true)
    (ff60 : PySem.W.findIn K (.ref c_Call) "__init__" = some (some (.ref f60)))
    (fi60 : PySem.W.isFn K (.ref f60) = true)
    (fl60 : K.lookup f60 = some ⟨oc60, od60, .func (fdOf "__init__" "Call.__init__" s_Call_init kV60 dc60 pm60 an60 cd60 ct60), sl60⟩)
    (fc60 : PySem.W.codeIn K cd60 "Call.__init__" = true)
    (fk60 : PySem.W.keepIn K (.ref f60) = true)
    (ff61 : PySem.W.findIn K (.ref c_Call) "width" = some (some (.ref f61)))
    (fi61 : PySem.W.isFn K (.ref f61) = true)
    (fl61 : K.lookup f61 = some ⟨oc61, od61, .func (fdOf "width" "Call.width" s_Call_width kV61 dc61 pm61 an61 cd61 ct61), sl61⟩)
    (fc61 : PySem.W.codeIn K cd61 "Call.width" = true)
    (fk61 : PySem.W.keepIn K (.ref f61) = true)
    (ff62 : PySem.W.nsIn K mainGlobals "read_call" = some (some (.ref f62)))
    (fl62 : K.lookup f62 = some ⟨oc62, od62, .func (fdOf "read_call" "read_call" s_read_call kV62 dc62 pm62 an62 cd62 ct62), sl62⟩)
    (fc62 : PySem.W.codeIn K cd62 "read_call" = true)
    (fk62 : PySem.W.keepIn K (.ref f62) = true)
    (ff63 : PySem.W.nsIn K mainGlobals "split_calls" = some (some (.ref f63)))
    (fl63 : K.lookup f63 = some ⟨oc63, od63, .func (fdOf "split_calls" "split_calls" s_split_calls kV63 dc63 pm63 an63 cd63 ct63), sl63⟩)
    (fc63 : PySem.W.codeIn K cd63 "split_calls" = true)
    (fk63 : PySem.W.keepIn K (.ref f63) = true)
    (ff64 : PySem.W.nsIn K mainGlobals "are_facts" = some (some (.ref f64)))
    (fl64 : K.lookup f64 = some ⟨oc64, od64, .func (fdOf "are_facts" "are_facts" s_are_facts kV64 dc64 pm64 an64 cd64 ct64), sl64⟩)
    (fc64 : PySem.W.codeIn K cd64 "are_facts" = true)
    (fk64 : PySem.W.keepIn K (.ref f64) = true)
    (ff65 : PySem.W.nsIn K mainGlobals "is_weight" = some (some (.ref f65)))
    (fl65 : K.lookup f65 = some ⟨oc65, od65, .func (fdOf "is_weight" "is_weight" s_is_weight kV65 dc65 pm65 an65 cd65 ct65), sl65⟩)
    (fc65 : PySem.W.codeIn K cd65 "is_weight" = true)
    (fk65 : PySem.W.keepIn K (.ref f65) = true)
    (ff66 : PySem.W.nsIn K mainGlobals "are_facts_and_weights" = some (some (.ref f66)))
    (fl66 : K.lookup f66 = some ⟨oc66, od66, .func (fdOf "are_facts_and_weights" "are_facts_and_weights" s_are_facts_and_weights kV66 dc66 pm66 an66 cd66 ct66), sl66⟩)
    (fc66 : PySem.W.codeIn K cd66 "are_facts_and_weights" = true)
    (fk66 : PySem.W.keepIn K (.ref f66) = true)
    (ff67 : PySem.W.nsIn K mainGlobals "is_row_as_told" = some (some (.ref f67)))
    (fl67 : K.lookup f67 = some ⟨oc67, od67, .func (fdOf "is_row_as_told" "is_row_as_told" s_is_row_as_told kV67 dc67 pm67 an67 cd67 ct67), sl67⟩)
    (fc67 : PySem.W.codeIn K cd67 "is_row_as_told" = true)
    (fk67 : PySem.W.keepIn K (.ref f67) = true)
    (ff68 : PySem.W.nsIn K mainGlobals "is_as_told" = some (some (.ref f68)))
    (fl68 : K.lookup f68 = some ⟨oc68, od68, .func (fdOf "is_as_told" "is_as_told" s_is_as_told kV68 dc68 pm68 an68 cd68 ct68), sl68⟩)
    (fc68 : PySem.W.codeIn K cd68 "is_as_told" = true)
    (fk68 : PySem.W.keepIn K (.ref f68) = true)
    (ff69 : PySem.W.nsIn K mainGlobals "answer_call" = some (some (.ref f69)))
    (fl69 : K.lookup f69 = some ⟨oc69, od69, .func (fdOf "answer_call" "answer_call" s_answer_call kV69 dc69 pm69 an69 cd69 ct69), sl69⟩)
    (fc69 : PySem.W.codeIn K cd69 "answer_call" = true)
    (fk69 : PySem.W.keepIn K (.ref f69) = true)
    (ff70 : PySem.W.nsIn K mainGlobals "answers" = some (some (.ref f70)))
    (fl70 : K.lookup f70 = some ⟨oc70, od70, .func (fdOf "answers" "answers" s_answers kV70 dc70 pm70 an70 cd70 ct70), sl70⟩)
    (fc70 : PySem.W.codeIn K cd70 "answers" = true)
    (fk70 : PySem.W.keepIn K (.ref f70) = true)
    (g_FACTS : PySem.W.nsIn K mainGlobals "FACTS" = some (some (.int 8 t_FACTS)))
    (g_NO_CASE : PySem.W.nsIn K mainGlobals "NO_CASE" = some (some (.int 0 t_NO_CASE)))
    (g_OPPOSED : PySem.W.nsIn K mainGlobals "OPPOSED" = some (some (.int 1 t_OPPOSED)))
    (g_DECIDED : PySem.W.nsIn K mainGlobals "DECIDED" = some (some (.int 2 t_DECIDED)))
    (g_OVER : PySem.W.nsIn K mainGlobals "OVER" = some (some (.int 3 t_OVER)))
    (g_OWNER : PySem.W.nsIn K mainGlobals "OWNER" = some (some (.int 3 t_OWNER)))
    (g_DAYS_TO_APPEAL : PySem.W.nsIn K mainGlobals "DAYS_TO_APPEAL" = some (some (.int 60 t_DAYS_TO_APPEAL)))
    (g_NOT_AS_TOLD : PySem.W.nsIn K mainGlobals "NOT_AS_TOLD" = some (some (.int (-1) t_NOT_AS_TOLD)))
    (g_FULL : PySem.W.nsIn K mainGlobals "FULL" = some (some (.int (-3) t_FULL)))
    (g_NOT_THERE : PySem.W.nsIn K mainGlobals "NOT_THERE" = some (some (.int (-5) t_NOT_THERE)))
    (g_NOT_NOW : PySem.W.nsIn K mainGlobals "NOT_NOW" = some (some (.int (-6) t_NOT_NOW)))
    (g_MOST_PIECES : PySem.W.nsIn K mainGlobals "MOST_PIECES" = some (some (.int 24 t_MOST_PIECES)))
    (g_MOST_REQUESTS : PySem.W.nsIn K mainGlobals "MOST_REQUESTS" = some (some (.int 6 t_MOST_REQUESTS)))
    (g_MOST_APPEALS : PySem.W.nsIn K mainGlobals "MOST_APPEALS" = some (some (.int 8 t_MOST_APPEALS)))
    (g_LAST_DAY : PySem.W.nsIn K mainGlobals "LAST_DAY" = some (some (.int 10000 t_LAST_DAY)))
    (g_ATTACK : PySem.W.nsIn K mainGlobals "ATTACK" = some (some (.int 1 t_ATTACK)))
    (g_PROOF : PySem.W.nsIn K mainGlobals "PROOF" = some (some (.int 2 t_PROOF)))
    (g_LAST_FACT : PySem.W.nsIn K mainGlobals "LAST_FACT" = some (some (.int 7 t_LAST_FACT)))
    (g_MOST_FACTS_OF_ATTACK : PySem.W.nsIn K mainGlobals "MOST_FACTS_OF_ATTACK" = some (some (.int 3 t_MOST_FACTS_OF_ATTACK)))
    (g_MOST_WEIGHT : PySem.W.nsIn K mainGlobals "MOST_WEIGHT" = some (some (.int 9 t_MOST_WEIGHT)))
    (g_LAST_CHANGE : PySem.W.nsIn K mainGlobals "LAST_CHANGE" = some (some (.int 8 t_LAST_CHANGE)))
    (g_CHANGES : PySem.W.nsIn K mainGlobals "CHANGES" = some (some (.ref d_CHANGES)))
    (l_CHANGES : K.lookup d_CHANGES = some o_CHANGES)
    (c_CHANGES : (mdOk o_CHANGES (kvsOf o_CHANGES) && ndI ((kvsOf o_CHANGES).map (·.1))) = true)
    (e_CHANGES : kvsOf o_CHANGES = [(0, f30), (1, f32), (2, f33), (3, f34), (4, f35), (5, f36), (6, f37), (7, f38), (8, f39)])
    (g_ABOUT_CLAIM : PySem.W.nsIn K mainGlobals "ABOUT_CLAIM" = some (some (.ref d_ABOUT_CLAIM)))
    (l_ABOUT_CLAIM : K.lookup d_ABOUT_CLAIM = some o_ABOUT_CLAIM)
    (c_ABOUT_CLAIM : (mdOk o_ABOUT_CLAIM (kvsOf o_ABOUT_CLAIM) && ndI ((kvsOf o_ABOUT_CLAIM).map (·.1))) = true)
    (e_ABOUT_CLAIM : kvsOf o_ABOUT_CLAIM = [(10, f47), (11, f48), (12, f49), (14, f50)])
    (g_QUESTIONS : PySem.W.nsIn K mainGlobals "QUESTIONS" = some (some (.ref d_QUESTIONS)))
    (l_QUESTIONS : K.lookup d_QUESTIONS = some o_QUESTIONS)
    (c_QUESTIONS : (mdOk o_QUESTIONS (kvsOf o_QUESTIONS) && ndI ((kvsOf o_QUESTIONS).map (·.1))) = true)
    (e_QUESTIONS : kvsOf o_QUESTIONS = [(9, f45), (10, f51), (11, f51), (12, f51), (13, f52), (14, f51), (15, f54), (16, f55), (17, f56), (18, f57), (19, f58)])
    (g_RANGES : PySem.W.nsIn K mainGlobals "RANGES" = some (some (.ref d_RANGES)))
    (l_RANGES : K.lookup d_RANGES = some o_RANGES)
    (c_RANGES : (mdOk o_RANGES (kvsOf o_RANGES) && ndI ((kvsOf o_RANGES).map (·.1))) = true)
    (e_RANGES : rngAll K (kvsOf o_RANGES) = true)
    (b_all : PySem.W.nsIn K mainGlobals "all" = some none)
    (b_any : PySem.W.nsIn K mainGlobals "any" = some none)
    (b_enumerate : PySem.W.nsIn K mainGlobals "enumerate" = some none)
    (b_len : PySem.W.nsIn K mainGlobals "len" = some none)
    (b_list : PySem.W.nsIn K mainGlobals "list" = some none)
    (b_range : PySem.W.nsIn K mainGlobals "range" = some none)
    (b_sum : PySem.W.nsIn K mainGlobals "sum" = some none)
    (b_zip : PySem.W.nsIn K mainGlobals "zip" = some none) :
    ∃ fd : FuncData, (∀ (s : Shared) (us : List Value), us.length = (["calls"] : List Str).length → BindsTo s fd ⟨us, []⟩ ((["calls"] : List Str).zip us)) ∧ ∀ base : Heap, K.In base → base.Ns mainGlobals mg → FnOk P w K mg base CX0 12 fa fd ["calls"] (sp_answers K) := by
  have e : fa = f70 := by
    have e := hfa.symm.trans (PySem.W.mg_of X G ff70)
    injection e with e
    injection e
  have Z : ∃ A : Adr, Txt K mg A ∧ Txt2 K A ∧ A.f_answers = f70 ∧ A.fd_answers = (fdOf "answers" "answers" s_answers kV70 dc70 pm70 an70 cd70 ct70) := by
    refine ⟨{ c_Piece := c_Piece, c_Counted := c_Counted, c_Dispute := c_Dispute, c_Call := c_Call, f_Piece_init := f0, fd_Piece_init := (fdOf "__init__" "Piece.__init__" s_Piece_init kV0 dc0 pm0 an0 cd0 ct0), f_is_proof := f1, fd_is_proof := (fdOf "is_proof" "is_proof" s_is_proof kV1 dc1 pm1 an1 cd1 ct1), f_added_up := f2, fd_added_up := (fdOf "added_up" "added_up" s_added_up kV2 dc2 pm2 an2 cd2 ct2), f_Counted_init := f3, fd_Counted_init := (fdOf "__init__" "Counted.__init__" s_Counted_init kV3 dc3 pm3 an3 cd3 ct3), f_Counted_is_proven := f4, fd_Counted_is_proven := (fdOf "is_proven" "Counted.is_proven" s_Counted_is_proven kV4 dc4 pm4 an4 cd4 ct4), f_Counted_is_brought_down_by := f5, fd_Counted_is_brought_down_by := (fdOf "is_brought_down_by" "Counted.is_brought_down_by" s_Counted_is_brought_down_by kV5 dc5 pm5 an5 cd5 ct5), f_Counted_proven_attacks := f6, fd_Counted_proven_attacks := (fdOf "proven_attacks" "Counted.proven_attacks" s_Counted_proven_attacks kV6 dc6 pm6 an6 cd6 ct6), f_Counted_stands := f7, fd_Counted_stands := (fdOf "stands" "Counted.stands" s_Counted_stands kV7 dc7 pm7 an7 cd7 ct7), f_Counted_joined_by := f8, fd_Counted_joined_by := (fdOf "joined_by" "Counted.joined_by" s_Counted_joined_by kV8 dc8 pm8 an8 cd8 ct8), f_Counted_weighed_with := f9, fd_Counted_weighed_with := (fdOf "weighed_with" "Counted.weighed_with" s_Counted_weighed_with kV9 dc9 pm9 an9 cd9 ct9), f_Counted_less := f10, fd_Counted_less := (fdOf "less" "Counted.less" s_Counted_less kV10 dc10 pm10 an10 cd10 ct10), f_nothing_counted := f11, fd_nothing_counted := (fdOf "nothing_counted" "nothing_counted" s_nothing_counted kV11 dc11 pm11 an11 cd11 ct11), f_claims_that_stand := f12, fd_claims_that_stand := (fdOf "claims_that_stand" "claims_that_stand" s_claims_that_stand kV12 dc12 pm12 an12 cd12 ct12), f_weighed_on := f13, fd_weighed_on := (fdOf "weighed_on" "weighed_on" s_weighed_on kV13 dc13 pm13 an13 cd13 ct13), f_Dispute_init := f14, fd_Dispute_init := (fdOf "__init__" "Dispute.__init__" s_Dispute_init kV14 dc14 pm14 an14 cd14 ct14), f_Dispute_wipe := f15, fd_Dispute_wipe := (fdOf "wipe" "Dispute.wipe" s_Dispute_wipe kV15 dc15 pm15 an15 cd15 ct15), f_Dispute_begin := f16, fd_Dispute_begin := (fdOf "begin" "Dispute.begin" s_Dispute_begin kV16 dc16 pm16 an16 cd16 ct16), f_Dispute_all_claims := f17, fd_Dispute_all_claims := (fdOf "all_claims" "Dispute.all_claims" s_Dispute_all_claims kV17 dc17 pm17 an17 cd17 ct17), f_Dispute_has_claims := f18, fd_Dispute_has_claims := (fdOf "has_claims" "Dispute.has_claims" s_Dispute_has_claims kV18 dc18 pm18 an18 cd18 ct18), f_Dispute_is_running := f19, fd_Dispute_is_running := (fdOf "is_running" "Dispute.is_running" s_Dispute_is_running kV19 dc19 pm19 an19 cd19 ct19), f_Dispute_is_behind_limit := f20, fd_Dispute_is_behind_limit := (fdOf "is_behind_limit" "Dispute.is_behind_limit" s_Dispute_is_behind_limit kV20 dc20 pm20 an20 cd20 ct20), f_Dispute_is_behind_appeals := f21, fd_Dispute_is_behind_appeals := (fdOf "is_behind_appeals" "Dispute.is_behind_appeals" s_Dispute_is_behind_appeals kV21 dc21 pm21 an21 cd21 ct21), f_Dispute_bring := f22, fd_Dispute_bring := (fdOf "bring" "Dispute.bring" s_Dispute_bring kV22 dc22 pm22 an22 cd22 ct22), f_Dispute_standing := f23, fd_Dispute_standing := (fdOf "standing" "Dispute.standing" s_Dispute_standing kV23 dc23 pm23 an23 cd23 ct23), f_Dispute_standing_without := f24, fd_Dispute_standing_without := (fdOf "standing_without" "Dispute.standing_without" s_Dispute_standing_without kV24 dc24 pm24 an24 cd24 ct24), f_Dispute_granted := f25, fd_Dispute_granted := (fdOf "granted" "Dispute.granted" s_Dispute_granted kV25 dc25 pm25 an25 cd25 ct25), f_Dispute_decide := f26, fd_Dispute_decide := (fdOf "decide" "Dispute.decide" s_Dispute_decide kV26 dc26 pm26 an26 cd26 ct26), f_Dispute_may_name := f27, fd_Dispute_may_name := (fdOf "may_name" "Dispute.may_name" s_Dispute_may_name kV27 dc27 pm27 an27 cd27 ct27), f_Dispute_outcome_now := f28, fd_Dispute_outcome_now := (fdOf "outcome_now" "Dispute.outcome_now" s_Dispute_outcome_now kV28 dc28 pm28 an28 cd28 ct28), f_Dispute_fix_outcome := f29, fd_Dispute_fix_outcome := (fdOf "fix_outcome" "Dispute.fix_outcome" s_Dispute_fix_outcome kV29 dc29 pm29 an29 cd29 ct29), f_begin_case := f30, fd_begin_case := (fdOf "begin_case" "begin_case" s_begin_case kV30 dc30 pm30 an30 cd30 ct30), f_bring_piece := f31, fd_bring_piece := (fdOf "bring_piece" "bring_piece" s_bring_piece kV31 dc31 pm31 an31 cd31 ct31), f_attack := f32, fd_attack := (fdOf "attack" "attack" s_attack kV32 dc32 pm32 an32 cd32 ct32), f_prove := f33, fd_prove := (fdOf "prove" "prove" s_prove kV33 dc33 pm33 an33 cd33 ct33), f_request := f34, fd_request := (fdOf "request" "request" s_request kV34 dc34 pm34 an34 cd34 ct34), f_tick := f35, fd_tick := (fdOf "tick" "tick" s_tick kV35 dc35 pm35 an35 cd35 ct35), f_decide := f36, fd_decide := (fdOf "decide" "decide" s_decide kV36 dc36 pm36 an36 cd36 ct36), f_appeal := f37, fd_appeal := (fdOf "appeal" "appeal" s_appeal kV37 dc37 pm37 an37 cd37 ct37), f_withdraw := f38, fd_withdraw := (fdOf "withdraw" "withdraw" s_withdraw kV38 dc38 pm38 an38 cd38 ct38), f_close_case := f39, fd_close_case := (fdOf "close_case" "close_case" s_close_case kV39 dc39 pm39 an39 cd39 ct39), f_answer_change := f40, fd_answer_change := (fdOf "answer_change" "answer_change" s_answer_change kV40 dc40 pm40 an40 cd40 ct40), f_has_one_of_each := f41, fd_has_one_of_each := (fdOf "has_one_of_each" "has_one_of_each" s_has_one_of_each kV41 dc41 pm41 an41 cd41 ct41), f_one_longer := f42, fd_one_longer := (fdOf "one_longer" "one_longer" s_one_longer kV42 dc42 pm42 an42 cd42 ct42), f_fewest_facts := f43, fd_fewest_facts := (fdOf "fewest_facts" "fewest_facts" s_fewest_facts kV43 dc43 pm43 an43 cd43 ct43), f_as_number := f44, fd_as_number := (fdOf "as_number" "as_number" s_as_number kV44 dc44 pm44 an44 cd44 ct44), f_alive := f45, fd_alive := (fdOf "alive" "alive" s_alive kV45 dc45 pm45 an45 cd45 ct45), f_counted_as_asked := f46, fd_counted_as_asked := (fdOf "counted_as_asked" "counted_as_asked" s_counted_as_asked kV46 dc46 pm46 an46 cd46 ct46), f_tell_fact := f47, fd_tell_fact := (fdOf "tell_fact" "tell_fact" s_tell_fact kV47 dc47 pm47 an47 cd47 ct47), f_tell_why := f48, fd_tell_why := (fdOf "tell_why" "tell_why" s_tell_why kV48 dc48 pm48 an48 cd48 ct48), f_tell_fewest := f49, fd_tell_fewest := (fdOf "tell_fewest" "tell_fewest" s_tell_fewest kV49 dc49 pm49 an49 cd49 ct49), f_tell_let_in := f50, fd_tell_let_in := (fdOf "tell_let_in" "tell_let_in" s_tell_let_in kV50 dc50 pm50 an50 cd50 ct50), f_about_claim := f51, fd_about_claim := (fdOf "about_claim" "about_claim" s_about_claim kV51 dc51 pm51 an51 cd51 ct51), f_without := f52, fd_without := (fdOf "without" "without" s_without kV52 dc52 pm52 an52 cd52 ct52), f_facts_and_weights := f53, fd_facts_and_weights := (fdOf "facts_and_weights" "facts_and_weights" s_facts_and_weights kV53 dc53 pm53 an53 cd53 ct53), f_tell_piece := f54, fd_tell_piece := (fdOf "tell_piece" "tell_piece" s_tell_piece kV54 dc54 pm54 an54 cd54 ct54), f_tell_requests := f55, fd_tell_requests := (fdOf "tell_requests" "tell_requests" s_tell_requests kV55 dc55 pm55 an55 cd55 ct55), f_tell_appeals := f56, fd_tell_appeals := (fdOf "tell_appeals" "tell_appeals" s_tell_appeals kV56 dc56 pm56 an56 cd56 ct56), f_status := f57, fd_status := (fdOf "status" "status" s_status kV57 dc57 pm57 an57 cd57 ct57), f_would := f58, fd_would := (fdOf "would" "would" s_would kV58 dc58 pm58 an58 cd58 ct58), f_answer_question := f59, fd_answer_question := (fdOf "answer_question" "answer_question" s_answer_question kV59 dc59 pm59 an59 cd59 ct59), f_Call_init := f60, fd_Call_init := (fdOf "__init__" "Call.__init__" s_Call_init kV60 dc60 pm60 an60 cd60 ct60), f_Call_width := f61, fd_Call_width := (fdOf "width" "Call.width" s_Call_width kV61 dc61 pm61 an61 cd61 ct61), f_read_call := f62, fd_read_call := (fdOf "read_call" "read_call" s_read_call kV62 dc62 pm62 an62 cd62 ct62), f_split_calls := f63, fd_split_calls := (fdOf "split_calls" "split_calls" s_split_calls kV63 dc63 pm63 an63 cd63 ct63), f_are_facts := f64, fd_are_facts := (fdOf "are_facts" "are_facts" s_are_facts kV64 dc64 pm64 an64 cd64 ct64), f_is_weight := f65, fd_is_weight := (fdOf "is_weight" "is_weight" s_is_weight kV65 dc65 pm65 an65 cd65 ct65), f_are_facts_and_weights := f66, fd_are_facts_and_weights := (fdOf "are_facts_and_weights" "are_facts_and_weights" s_are_facts_and_weights kV66 dc66 pm66 an66 cd66 ct66), f_is_row_as_told := f67, fd_is_row_as_told := (fdOf "is_row_as_told" "is_row_as_told" s_is_row_as_told kV67 dc67 pm67 an67 cd67 ct67), f_is_as_told := f68, fd_is_as_told := (fdOf "is_as_told" "is_as_told" s_is_as_told kV68 dc68 pm68 an68 cd68 ct68), f_answer_call := f69, fd_answer_call := (fdOf "answer_call" "answer_call" s_answer_call kV69 dc69 pm69 an69 cd69 ct69), f_answers := f70, fd_answers := (fdOf "answers" "answers" s_answers kV70 dc70 pm70 an70 cd70 ct70), d_CHANGES := d_CHANGES, v_CHANGES := kvsOf o_CHANGES, d_ABOUT_CLAIM := d_ABOUT_CLAIM, v_ABOUT_CLAIM := kvsOf o_ABOUT_CLAIM, d_QUESTIONS := d_QUESTIONS, v_QUESTIONS := kvsOf o_QUESTIONS, d_RANGES := d_RANGES, v_RANGES := kvsOf o_RANGES }, ?_, ?_, rfl, rfl⟩
    · exact { C_Piece := ⟨pg_Piece, hd_Piece, po_Piece, sa_Piece⟩, K_Piece := ⟨mk_Piece, ff0, fi0, kc_Piece⟩, c_Piece := PySem.W.mg_of X G n_Piece, a_Piece_number := na_Piece_number, a_Piece_bringer := na_Piece_bringer, a_Piece_late := na_Piece_late, a_Piece_claim := na_Piece_claim, a_Piece_facts := na_Piece_facts, a_Piece_weights := na_Piece_weights, C_Counted := ⟨pg_Counted, hd_Counted, po_Counted, sa_Counted⟩, K_Counted := ⟨mk_Counted, ff3, fi3, kc_Counted⟩, c_Counted := PySem.W.mg_of X G n_Counted, a_Counted_claim := na_Counted_claim, a_Counted_bar := na_Counted_bar, a_Counted_pieces := na_Counted_pieces, a_Counted_support := na_Counted_support, C_Dispute := ⟨pg_Dispute, hd_Dispute, po_Dispute, sa_Dispute⟩, K_Dispute := ⟨mk_Dispute, ff14, fi14, kc_Dispute⟩, c_Dispute := PySem.W.mg_of X G n_Dispute, a_Dispute_pieces := na_Dispute_pieces, a_Dispute_phase := na_Dispute_phase, a_Dispute_day := na_Dispute_day, a_Dispute_claims := na_Dispute_claims, a_Dispute_limit := na_Dispute_limit, a_Dispute_counted := na_Dispute_counted, a_Dispute_settled := na_Dispute_settled, a_Dispute_settled_pieces := na_Dispute_settled_pieces, a_Dispute_requests := na_Dispute_requests, a_Dispute_appeals := na_Dispute_appeals, a_Dispute_kept := na_Dispute_kept, a_Dispute_kept_request := na_Dispute_kept_request, a_Dispute_decision_day := na_Dispute_decision_day, a_Dispute_outcome := na_Dispute_outcome, C_Call := ⟨pg_Call, hd_Call, po_Call, sa_Call⟩, K_Call := ⟨mk_Call, ff60, fi60, kc_Call⟩, c_Call := PySem.W.mg_of X G n_Call, a_Call_number := na_Call_number, a_Call_arguments := na_Call_arguments, a_Call_row := na_Call_row, F_Piece_init := fun_mk (st := s_Piece_init) fl0 fc0 fk0, F_is_proof := fun_mk (st := s_is_proof) fl1 fc1 fk1, m_is_proof := PySem.W.mg_of X G ff1, F_added_up := fun_mk (st := s_added_up) fl2 fc2 fk2, m_added_up := PySem.W.mg_of X G ff2, F_Counted_init := fun_mk (st := s_Counted_init) fl3 fc3 fk3, F_Counted_is_proven := fun_mk (st := s_Counted_is_proven) fl4 fc4 fk4, M_Counted_is_proven := ⟨ff4, fi4, fk4⟩, F_Counted_is_brought_down_by := fun_mk (st := s_Counted_is_brought_down_by) fl5 fc5 fk5, M_Counted_is_brought_down_by := ⟨ff5, fi5, fk5⟩, F_Counted_proven_attacks := fun_mk (st := s_Counted_proven_attacks) fl6 fc6 fk6, M_Counted_proven_attacks := ⟨ff6, fi6, fk6⟩, F_Counted_stands := fun_mk (st := s_Counted_stands) fl7 fc7 fk7, M_Counted_stands := ⟨ff7, fi7, fk7⟩, F_Counted_joined_by := fun_mk (st := s_Counted_joined_by) fl8 fc8 fk8, M_Counted_joined_by := ⟨ff8, fi8, fk8⟩, F_Counted_weighed_with := fun_mk (st := s_Counted_weighed_with) fl9 fc9 fk9, M_Counted_weighed_with := ⟨ff9, fi9, fk9⟩, F_Counted_less := fun_mk (st := s_Counted_less) fl10 fc10 fk10, M_Counted_less := ⟨ff10, fi10, fk10⟩, F_nothing_counted := fun_mk (st := s_nothing_counted) fl11 fc11 fk11, m_nothing_counted := PySem.W.mg_of X G ff11, F_claims_that_stand := fun_mk (st := s_claims_that_stand) fl12 fc12 fk12, m_claims_that_stand := PySem.W.mg_of X G ff12, F_weighed_on := fun_mk (st := s_weighed_on) fl13 fc13 fk13, m_weighed_on := PySem.W.mg_of X G ff13, F_Dispute_init := fun_mk (st := s_Dispute_init) fl14 fc14 fk14, F_Dispute_wipe := fun_mk (st := s_Dispute_wipe) fl15 fc15 fk15, M_Dispute_wipe := ⟨ff15, fi15, fk15⟩, F_Dispute_begin := fun_mk (st := s_Dispute_begin) fl16 fc16 fk16, M_Dispute_begin := ⟨ff16, fi16, fk16⟩, F_Dispute_all_claims := fun_mk (st := s_Dispute_all_claims) fl17 fc17 fk17, M_Dispute_all_claims := ⟨ff17, fi17, fk17⟩, F_Dispute_has_claims := fun_mk (st := s_Dispute_has_claims) fl18 fc18 fk18, M_Dispute_has_claims := ⟨ff18, fi18, fk18⟩, F_Dispute_is_running := fun_mk (st := s_Dispute_is_running) fl19 fc19 fk19, M_Dispute_is_running := ⟨ff19, fi19, fk19⟩, F_Dispute_is_behind_limit := fun_mk (st := s_Dispute_is_behind_limit) fl20 fc20 fk20, M_Dispute_is_behind_limit := ⟨ff20, fi20, fk20⟩, F_Dispute_is_behind_appeals := fun_mk (st := s_Dispute_is_behind_appeals) fl21 fc21 fk21, M_Dispute_is_behind_appeals := ⟨ff21, fi21, fk21⟩, F_Dispute_bring := fun_mk (st := s_Dispute_bring) fl22 fc22 fk22, M_Dispute_bring := ⟨ff22, fi22, fk22⟩, F_Dispute_standing := fun_mk (st := s_Dispute_standing) fl23 fc23 fk23, M_Dispute_standing := ⟨ff23, fi23, fk23⟩, F_Dispute_standing_without := fun_mk (st := s_Dispute_standing_without) fl24 fc24 fk24, M_Dispute_standing_without := ⟨ff24, fi24, fk24⟩, F_Dispute_granted := fun_mk (st := s_Dispute_granted) fl25 fc25 fk25, M_Dispute_granted := ⟨ff25, fi25, fk25⟩, F_Dispute_decide := fun_mk (st := s_Dispute_decide) fl26 fc26 fk26, M_Dispute_decide := ⟨ff26, fi26, fk26⟩, F_Dispute_may_name := fun_mk (st := s_Dispute_may_name) fl27 fc27 fk27, M_Dispute_may_name := ⟨ff27, fi27, fk27⟩, F_Dispute_outcome_now := fun_mk (st := s_Dispute_outcome_now) fl28 fc28 fk28, M_Dispute_outcome_now := ⟨ff28, fi28, fk28⟩, F_Dispute_fix_outcome := fun_mk (st := s_Dispute_fix_outcome) fl29 fc29 fk29, M_Dispute_fix_outcome := ⟨ff29, fi29, fk29⟩, F_begin_case := fun_mk (st := s_begin_case) fl30 fc30 fk30, m_begin_case := PySem.W.mg_of X G ff30, F_bring_piece := fun_mk (st := s_bring_piece) fl31 fc31 fk31, m_bring_piece := PySem.W.mg_of X G ff31, F_attack := fun_mk (st := s_attack) fl32 fc32 fk32, m_attack := PySem.W.mg_of X G ff32, F_prove := fun_mk (st := s_prove) fl33 fc33 fk33, m_prove := PySem.W.mg_of X G ff33, F_request := fun_mk (st := s_request) fl34 fc34 fk34, m_request := PySem.W.mg_of X G ff34, F_tick := fun_mk (st := s_tick) fl35 fc35 fk35, m_tick := PySem.W.mg_of X G ff35, F_decide := fun_mk (st := s_decide) fl36 fc36 fk36, m_decide := PySem.W.mg_of X G ff36, F_appeal := fun_mk (st := s_appeal) fl37 fc37 fk37, m_appeal := PySem.W.mg_of X G ff37, F_withdraw := fun_mk (st := s_withdraw) fl38 fc38 fk38, m_withdraw := PySem.W.mg_of X G ff38, F_close_case := fun_mk (st := s_close_case) fl39 fc39 fk39, m_close_case := PySem.W.mg_of X G ff39, F_answer_change := fun_mk (st := s_answer_change) fl40 fc40 fk40, m_answer_change := PySem.W.mg_of X G ff40, F_has_one_of_each := fun_mk (st := s_has_one_of_each) fl41 fc41 fk41, m_has_one_of_each := PySem.W.mg_of X G ff41, F_one_longer := fun_mk (st := s_one_longer) fl42 fc42 fk42, m_one_longer := PySem.W.mg_of X G ff42, F_fewest_facts := fun_mk (st := s_fewest_facts) fl43 fc43 fk43, m_fewest_facts := PySem.W.mg_of X G ff43, F_as_number := fun_mk (st := s_as_number) fl44 fc44 fk44, m_as_number := PySem.W.mg_of X G ff44, F_alive := fun_mk (st := s_alive) fl45 fc45 fk45, m_alive := PySem.W.mg_of X G ff45, F_counted_as_asked := fun_mk (st := s_counted_as_asked) fl46 fc46 fk46, m_counted_as_asked := PySem.W.mg_of X G ff46, F_tell_fact := fun_mk (st := s_tell_fact) fl47 fc47 fk47, m_tell_fact := PySem.W.mg_of X G ff47, F_tell_why := fun_mk (st := s_tell_why) fl48 fc48 fk48, m_tell_why := PySem.W.mg_of X G ff48, F_tell_fewest := fun_mk (st := s_tell_fewest) fl49 fc49 fk49, m_tell_fewest := PySem.W.mg_of X G ff49, F_tell_let_in := fun_mk (st := s_tell_let_in) fl50 fc50 fk50, m_tell_let_in := PySem.W.mg_of X G ff50, F_about_claim := fun_mk (st := s_about_claim) fl51 fc51 fk51, m_about_claim := PySem.W.mg_of X G ff51, F_without := fun_mk (st := s_without) fl52 fc52 fk52, m_without := PySem.W.mg_of X G ff52, F_facts_and_weights := fun_mk (st := s_facts_and_weights) fl53 fc53 fk53, m_facts_and_weights := PySem.W.mg_of X G ff53, F_tell_piece := fun_mk (st := s_tell_piece) fl54 fc54 fk54, m_tell_piece := PySem.W.mg_of X G ff54, F_tell_requests := fun_mk (st := s_tell_requests) fl55 fc55 fk55, m_tell_requests := PySem.W.mg_of X G ff55, F_tell_appeals := fun_mk (st := s_tell_appeals) fl56 fc56 fk56, m_tell_appeals := PySem.W.mg_of X G ff56, F_status := fun_mk (st := s_status) fl57 fc57 fk57, m_status := PySem.W.mg_of X G ff57, F_would := fun_mk (st := s_would) fl58 fc58 fk58, m_would := PySem.W.mg_of X G ff58, F_answer_question := fun_mk (st := s_answer_question) fl59 fc59 fk59, m_answer_question := PySem.W.mg_of X G ff59, F_Call_init := fun_mk (st := s_Call_init) fl60 fc60 fk60, F_Call_width := fun_mk (st := s_Call_width) fl61 fc61 fk61, M_Call_width := ⟨ff61, fi61, fk61⟩, F_read_call := fun_mk (st := s_read_call) fl62 fc62 fk62, m_read_call := PySem.W.mg_of X G ff62, F_split_calls := fun_mk (st := s_split_calls) fl63 fc63 fk63, m_split_calls := PySem.W.mg_of X G ff63, F_are_facts := fun_mk (st := s_are_facts) fl64 fc64 fk64, m_are_facts := PySem.W.mg_of X G ff64, F_is_weight := fun_mk (st := s_is_weight) fl65 fc65 fk65, m_is_weight := PySem.W.mg_of X G ff65, F_are_facts_and_weights := fun_mk (st := s_are_facts_and_weights) fl66 fc66 fk66, m_are_facts_and_weights := PySem.W.mg_of X G ff66, F_is_row_as_told := fun_mk (st := s_is_row_as_told) fl67 fc67 fk67, m_is_row_as_told := PySem.W.mg_of X G ff67, F_is_as_told := fun_mk (st := s_is_as_told) fl68 fc68 fk68, m_is_as_told := PySem.W.mg_of X G ff68, F_answer_call := fun_mk (st := s_answer_call) fl69 fc69 fk69, m_answer_call := PySem.W.mg_of X G ff69, F_answers := fun_mk (st := s_answers) fl70 fc70 fk70, m_answers := PySem.W.mg_of X G ff70, g_FACTS := ⟨_, PySem.W.mg_of X G g_FACTS⟩, g_NO_CASE := ⟨_, PySem.W.mg_of X G g_NO_CASE⟩, g_OPPOSED := ⟨_, PySem.W.mg_of X G g_OPPOSED⟩, g_DECIDED := ⟨_, PySem.W.mg_of X G g_DECIDED⟩, g_OVER := ⟨_, PySem.W.mg_of X G g_OVER⟩, g_OWNER := ⟨_, PySem.W.mg_of X G g_OWNER⟩, g_DAYS_TO_APPEAL := ⟨_, PySem.W.mg_of X G g_DAYS_TO_APPEAL⟩, g_NOT_AS_TOLD := ⟨_, PySem.W.mg_of X G g_NOT_AS_TOLD⟩, g_FULL := ⟨_, PySem.W.mg_of X G g_FULL⟩, g_NOT_THERE := ⟨_, PySem.W.mg_of X G g_NOT_THERE⟩, g_NOT_NOW := ⟨_, PySem.W.mg_of X G g_NOT_NOW⟩, g_MOST_PIECES := ⟨_, PySem.W.mg_of X G g_MOST_PIECES⟩, g_MOST_REQUESTS := ⟨_, PySem.W.mg_of X G g_MOST_REQUESTS⟩, g_MOST_APPEALS := ⟨_, PySem.W.mg_of X G g_MOST_APPEALS⟩, g_LAST_DAY := ⟨_, PySem.W.mg_of X G g_LAST_DAY⟩, g_ATTACK := ⟨_, PySem.W.mg_of X G g_ATTACK⟩, g_PROOF := ⟨_, PySem.W.mg_of X G g_PROOF⟩, g_LAST_FACT := ⟨_, PySem.W.mg_of X G g_LAST_FACT⟩, g_MOST_FACTS_OF_ATTACK := ⟨_, PySem.W.mg_of X G g_MOST_FACTS_OF_ATTACK⟩, g_MOST_WEIGHT := ⟨_, PySem.W.mg_of X G g_MOST_WEIGHT⟩, g_LAST_CHANGE := ⟨_, PySem.W.mg_of X G g_LAST_CHANGE⟩, g_CHANGES := PySem.W.mg_of X G g_CHANGES, d_CHANGES := ⟨⟨_, l_CHANGES, (Bool.and_eq_true_iff.mp c_CHANGES).1⟩, ndI_of (Bool.and_eq_true_iff.mp c_CHANGES).2⟩, g_ABOUT_CLAIM := PySem.W.mg_of X G g_ABOUT_CLAIM, d_ABOUT_CLAIM := ⟨⟨_, l_ABOUT_CLAIM, (Bool.and_eq_true_iff.mp c_ABOUT_CLAIM).1⟩, ndI_of (Bool.and_eq_true_iff.mp c_ABOUT_CLAIM).2⟩, g_QUESTIONS := PySem.W.mg_of X G g_QUESTIONS, d_QUESTIONS := ⟨⟨_, l_QUESTIONS, (Bool.and_eq_true_iff.mp c_QUESTIONS).1⟩, ndI_of (Bool.and_eq_true_iff.mp c_QUESTIONS).2⟩, g_RANGES := PySem.W.mg_of X G g_RANGES, d_RANGES := ⟨⟨_, l_RANGES, (Bool.and_eq_true_iff.mp c_RANGES).1⟩, ndI_of (Bool.and_eq_true_iff.mp c_RANGES).2⟩, n_all := PySem.W.mg_none_of X G b_all, n_any := PySem.W.mg_none_of X G b_any, n_enumerate := PySem.W.mg_none_of X G b_enumerate, n_len := PySem.W.mg_none_of X G b_len, n_list := PySem.W.mg_none_of X G b_list, n_range := PySem.W.mg_none_of X G b_range, n_sum := PySem.W.mg_none_of X G b_sum, n_zip := PySem.W.mg_none_of X G b_zip }
    · exact ⟨fun p hp => rngAll_ok e_RANGES p hp, e_CHANGES, e_ABOUT_CLAIM, e_QUESTIONS⟩
  obtain ⟨A, T, T2, e1, e2⟩ := Z
  refine ⟨(fdOf "answers" "answers" s_answers kV70 dc70 pm70 an70 cd70 ct70), fun s us hu => match us, hu with | [_], _ => .of_eq rfl, fun base _ _ => ?_⟩
  rw [e, ← e1, ← e2]
  exact ok_answers T T2
end Op
namespace PySem.W.Fast
theorem tw5091239474236866592:True:=trivial
theorem tw6445353583574025824:True:=trivial
theorem tw12971689318346833632:True:=trivial
theorem tw1303330719111965536:True:=trivial
theorem tw7530812765240077313:True:=trivial
theorem tw6011571318562648321:True:=trivial
theorem tw3870900556114359585:True:=trivial
theorem tw1928604562220806657:True:=trivial
theorem tw15431052855923050690:True:=trivial
theorem tw4199435042629346658:True:=trivial
theorem tw1031998068213301698:True:=trivial
theorem tw1135169715001086402:True:=trivial
theorem tw17205565144876438018:True:=trivial
theorem tw10514196716584429250:True:=trivial
theorem tw3592790762700963907:True:=trivial
theorem tw4136444625474684451:True:=trivial
theorem tw94713199577773731:True:=trivial
theorem tw8034731121273712419:True:=trivial
theorem tw16115877574585314179:True:=trivial
theorem tw12593565826889500804:True:=trivial
theorem tw7103317610026561668:True:=trivial
theorem tw16360347130369000900:True:=trivial
theorem tw2907961583511624324:True:=trivial
theorem tw7556806668556686308:True:=trivial
theorem tw6992015584020595845:True:=trivial
theorem tw13575688162392686821:True:=trivial
theorem tw7849041647214397733:True:=trivial
theorem tw1730878199359505893:True:=trivial
theorem tw1679244491321842405:True:=trivial
theorem tw2372225465887643365:True:=trivial
theorem tw17287909010754585862:True:=trivial
theorem tw6857114573155798310:True:=trivial
theorem tw10049613024987954886:True:=trivial
theorem tw16379415889657097926:True:=trivial
theorem tw3779223951053395718:True:=trivial
theorem tw11256365949118832454:True:=trivial
theorem tw15534523697865899846:True:=trivial
theorem tw4395361626570973158:True:=trivial
theorem tw16059828988577211399:True:=trivial
theorem tw15004658490226940999:True:=trivial
theorem tw2062518141693595879:True:=trivial
theorem tw15127160955611303143:True:=trivial
theorem tw931549760546174503:True:=trivial
theorem tw202363671833970599:True:=trivial
theorem tw4521553341605869576:True:=trivial
theorem tw12448744347913242216:True:=trivial
theorem tw1302058701511012040:True:=trivial
theorem tw1904021819052737320:True:=trivial
theorem tw3353828843163454440:True:=trivial
theorem tw16002174188322080777:True:=trivial
theorem tw13423854223468723401:True:=trivial
theorem tw8381591295470012745:True:=trivial
theorem tw139140137156114985:True:=trivial
theorem tw10165981018416280586:True:=trivial
theorem tw1493355056986030122:True:=trivial
theorem tw10090779826337820746:True:=trivial
theorem tw13111648679949924746:True:=trivial
theorem tw17252946221034235658:True:=trivial
theorem tw16368980427633523466:True:=trivial
theorem tw4660013114531495850:True:=trivial
theorem tw5431567792806811979:True:=trivial
theorem tw3203354919489535339:True:=trivial
theorem tw8233450914758234635:True:=trivial
theorem tw16345319312519782219:True:=trivial
theorem tw14181794923202468843:True:=trivial
theorem tw6296590569068967084:True:=trivial
theorem tw17439753973472103660:True:=trivial
theorem tw10777377190463784172:True:=trivial
theorem tw15592031007004062060:True:=trivial
theorem tw12438097192132399564:True:=trivial
theorem tw1923093165043457708:True:=trivial
theorem tw10784752134881176556:True:=trivial
theorem tw12780550680927887501:True:=trivial
theorem tw443541044258388205:True:=trivial
theorem tw14423861280274951405:True:=trivial
theorem tw16917426420117727533:True:=trivial
theorem tw5787593834586281677:True:=trivial
theorem tw17978712173491128173:True:=trivial
theorem tw3170926759429530477:True:=trivial
theorem tw9329681298178699790:True:=trivial
theorem tw5403834002119598670:True:=trivial
theorem tw12636765613923303054:True:=trivial
theorem tw12370687332247016238:True:=trivial
theorem tw9123174735951347855:True:=trivial
theorem tw12176639395123475695:True:=trivial
theorem tw1198481095612110255:True:=trivial
theorem tw11927547260531493359:True:=trivial
theorem tw12557024093885541039:True:=trivial
theorem tw9005023151744130799:True:=trivial
theorem tw18154773580702176272:True:=trivial
theorem tw1195564397717358640:True:=trivial
theorem tw3155408342025798800:True:=trivial
theorem tw11317663043915729136:True:=trivial
theorem tw3845957882642764112:True:=trivial
theorem tw18092567714974342768:True:=trivial
theorem tw15289072993563736816:True:=trivial
theorem tw5806168143138425616:True:=trivial
theorem tw4849360615400960848:True:=trivial
theorem tw813671801710732176:True:=trivial
theorem tw6328422783338870833:True:=trivial
theorem tw2257708375654408593:True:=trivial
theorem tw10888608274102228529:True:=trivial
theorem tw15984817453297061425:True:=trivial
theorem tw15067614554295276113:True:=trivial
theorem tw17720170202488500881:True:=trivial
theorem tw2492147050578677425:True:=trivial
theorem tw15711494455315415729:True:=trivial
theorem tw15174955905405464594:True:=trivial
theorem tw11436767293289572434:True:=trivial
theorem tw16547546481715034418:True:=trivial
theorem tw2060137326236545362:True:=trivial
theorem tw4086091441197551218:True:=trivial
theorem tw6195712657736243826:True:=trivial
theorem tw9451112430208279571:True:=trivial
theorem tw9026090747410504947:True:=trivial
theorem tw12545862101732552083:True:=trivial
theorem tw6397483958537750099:True:=trivial
theorem tw3529068380422048691:True:=trivial
theorem tw6629916533053673427:True:=trivial
theorem tw4401181934915062196:True:=trivial
theorem tw17256223466986408372:True:=trivial
theorem tw17599416380498874004:True:=trivial
theorem tw3977998786140704564:True:=trivial
theorem tw7340992147325374485:True:=trivial
theorem tw12480365637661392085:True:=trivial
theorem tw17835682247061580053:True:=trivial
theorem tw14655993994524742069:True:=trivial
theorem tw11394376451048183253:True:=trivial
theorem tw8434516930333780661:True:=trivial
theorem tw8018103375067922261:True:=trivial
theorem tw17448704127177312149:True:=trivial
theorem tw16638146501557389526:True:=trivial
theorem tw7077293668489695446:True:=trivial
theorem tw17577470680815335958:True:=trivial
theorem tw6218878492284042806:True:=trivial
theorem tw11439268189942645334:True:=trivial
theorem tw6400093240078781078:True:=trivial
theorem tw16315268394583969462:True:=trivial
theorem tw875874768556546902:True:=trivial
theorem tw7605661452015603959:True:=trivial
theorem tw2584510021103923511:True:=trivial
theorem tw4647032295412052279:True:=trivial
theorem tw6072545950031164727:True:=trivial
theorem tw1921717697832915607:True:=trivial
theorem tw15592962407283999383:True:=trivial
theorem tw17841145032968724119:True:=trivial
theorem tw170775034256362455:True:=trivial
theorem tw6357225641515787320:True:=trivial
theorem tw68771610432392472:True:=trivial
theorem tw10627290704938179160:True:=trivial
theorem tw779776207080586232:True:=trivial
theorem tw7159703683800468537:True:=trivial
theorem tw1198789986791413913:True:=trivial
theorem tw2380196847590841785:True:=trivial
theorem tw1836348337233601305:True:=trivial
theorem tw6477447939588360089:True:=trivial
theorem tw9055368875718166521:True:=trivial
theorem tw6447653298385489018:True:=trivial
theorem tw12216475749859839098:True:=trivial
theorem tw15758166733496924378:True:=trivial
theorem tw12390288734992102746:True:=trivial
theorem tw10083668787252245850:True:=trivial
theorem tw2758534520375451066:True:=trivial
theorem tw17221554106623066586:True:=trivial
theorem tw7932120847566689914:True:=trivial
theorem tw11002888937901572026:True:=trivial
theorem tw3637763712648976507:True:=trivial
theorem tw12193939856387482779:True:=trivial
theorem tw5713656365857566907:True:=trivial
theorem tw7805036503802129915:True:=trivial
theorem tw7520030943119751867:True:=trivial
theorem tw13231220885569115899:True:=trivial
theorem tw4117489455986884636:True:=trivial
theorem tw11995682614212158588:True:=trivial
theorem tw3988233571287391420:True:=trivial
theorem tw7359514152971424988:True:=trivial
theorem tw14059969979203610972:True:=trivial
theorem tw1166971409430809308:True:=trivial
theorem tw264400135324594140:True:=trivial
theorem tw9609426937779657853:True:=trivial
theorem tw16525123751367374813:True:=trivial
theorem tw1212027822781021534:True:=trivial
theorem tw9170209296826010046:True:=trivial
theorem tw1315528052057373278:True:=trivial
theorem tw12039945622915952286:True:=trivial
theorem tw9971953743308167966:True:=trivial
theorem tw15068793820795799422:True:=trivial
theorem tw85102299790356446:True:=trivial
theorem tw12516763340181676351:True:=trivial
theorem tw4258711868554119007:True:=trivial
theorem tw1215398264461450464:True:=trivial
theorem tw4468318601118397284:True:=trivial
theorem tw3801718930305006661:True:=trivial
theorem tw16270607073681059941:True:=trivial
theorem tw10121793729224391621:True:=trivial
theorem tw14542591219288757318:True:=trivial
theorem tw5773444213347033159:True:=trivial
theorem tw1812057467204576905:True:=trivial
theorem tw16701754355560790442:True:=trivial
theorem tw17135655447785041036:True:=trivial
theorem tw8184080440645187724:True:=trivial
theorem tw549511785868930412:True:=trivial
theorem tw5053935538667444748:True:=trivial
theorem tw3397279045415210700:True:=trivial
theorem tw14013084795899097485:True:=trivial
theorem tw11611340153203925038:True:=trivial
theorem tw10201534695210319982:True:=trivial
theorem tw9648571854419412561:True:=trivial
theorem tw6958023386468201266:True:=trivial
theorem tw10995050604057891826:True:=trivial
theorem tw1396994064212493139:True:=trivial
theorem tw2335728648978853397:True:=trivial
theorem tw1317034489700606999:True:=trivial
theorem tw2635867040550083545:True:=trivial
theorem tw9425106429233268411:True:=trivial
theorem tw6630631782094050300:True:=trivial
theorem tw4484531431766299453:True:=trivial
theorem tw7627604105706904062:True:=trivial
end PySem.W.Fast
open PySem PySem.W PyProof.Rows
set_option maxRecDepth 100000 in
set_option maxHeartbeats 0 in
theorem PySem.Challenge.cw_oppositions_s01_answers_holds : PySem.Challenge.rw_oppositions_s01_answers.Holds := by
  w_on; k_headS; (case hw => exact ⟨[.list [.int 5]], by decide +kernel, by decide +kernel⟩)
  k_fillS
  refine L2.walk_specK (r := PySem.Challenge.rw_oppositions_s01_answers) (k := 12) (CX := L2.CX0) (ps := ["calls"]) (sp := Op.sp_answers) (by decide +kernel) rfl rfl ⟨rfl, by decide, by decide⟩ (fun w h Y => PySem.W.kIn_of Y) ?F ?S (fun _ _ _ _ z => z)
  case F =>
    intro w mg fa h Y KX G hmg
    refine' Op.all_mk KX G hmg ?n_Piece ?pg_Piece ?hd_Piece ?po_Piece ?sa_Piece ?mk_Piece ?kc_Piece ?na_Piece_number ?na_Piece_bringer ?na_Piece_late ?na_Piece_claim ?na_Piece_facts ?na_Piece_weights ?n_Counted ?pg_Counted ?hd_Counted ?po_Counted ?sa_Counted ?mk_Counted ?kc_Counted ?na_Counted_claim ?na_Counted_bar ?na_Counted_pieces ?na_Counted_support ?n_Dispute ?pg_Dispute ?hd_Dispute ?po_Dispute ?sa_Dispute ?mk_Dispute ?kc_Dispute ?na_Dispute_pieces ?na_Dispute_phase ?na_Dispute_day ?na_Dispute_claims ?na_Dispute_limit ?na_Dispute_counted ?na_Dispute_settled ?na_Dispute_settled_pieces ?na_Dispute_requests ?na_Dispute_appeals ?na_Dispute_kept ?na_Dispute_kept_request ?na_Dispute_decision_day ?na_Dispute_outcome ?n_Call ?pg_Call ?hd_Call ?po_Call ?sa_Call ?mk_Call ?kc_Call ?na_Call_number ?na_Call_arguments ?na_Call_row ?ff0 ?fi0 ?fl0 ?fc0 ?fk0 ?ff1 ?fl1 ?fc1 ?fk1 ?ff2 ?fl2 ?fc2 ?fk2 ?ff3 ?fi3 ?fl3 ?fc3 ?fk3 ?ff4 ?fi4 ?fl4 ?fc4 ?fk4 ?ff5 ?fi5 ?fl5 ?fc5 ?fk5 ?ff6 ?fi6 ?fl6 ?fc6 ?fk6 ?ff7 ?fi7 ?fl7 ?fc7 ?fk7 ?ff8 ?fi8 ?fl8 ?fc8 ?fk8 ?ff9 ?fi9 ?fl9 ?fc9 ?fk9 ?ff10 ?fi10 ?fl10 ?fc10 ?fk10 ?ff11 ?fl11 ?fc11 ?fk11 ?ff12 ?fl12 ?fc12 ?fk12 ?ff13 ?fl13 ?fc13 ?fk13 ?ff14 ?fi14 ?fl14 ?fc14 ?fk14 ?ff15 ?fi15 ?fl15 ?fc15 ?fk15 ?ff16 ?fi16 ?fl16 ?fc16 ?fk16 ?ff17 ?fi17 ?fl17 ?fc17 ?fk17 ?ff18 ?fi18 ?fl18 ?fc18 ?fk18 ?ff19 ?fi19 ?fl19 ?fc19 ?fk19 ?ff20 ?fi20 ?fl20 ?fc20 ?fk20 ?ff21 ?fi21 ?fl21 ?fc21 ?fk21 ?ff22 ?fi22 ?fl22 ?fc22 ?fk22 ?ff23 ?fi23 ?fl23 ?fc23 ?fk23 ?ff24 ?fi24 ?fl24 ?fc24 ?fk24 ?ff25 ?fi25 ?fl25 ?fc25 ?fk25 ?ff26 ?fi26 ?fl26 ?fc26 ?fk26 ?ff27 ?fi27 ?fl27 ?fc27 ?fk27 ?ff28 ?fi28 ?fl28 ?fc28 ?fk28 ?ff29 ?fi29 ?fl29 ?fc29 ?fk29 ?ff30 ?fl30 ?fc30 ?fk30 ?ff31 ?fl31 ?fc31 ?fk31 ?ff32 ?fl32 ?fc32 ?fk32 ?ff33 ?fl33 ?fc33 ?fk33 ?ff34 ?fl34 ?fc34 ?fk34 ?ff35 ?fl35 ?fc35 ?fk35 ?ff36 ?fl36 ?fc36 ?fk36 ?ff37 ?fl37 ?fc37 ?fk37 ?ff38 ?fl38 ?fc38 ?fk38 ?ff39 ?fl39 ?fc39 ?fk39 ?ff40 ?fl40 ?fc40 ?fk40 ?ff41 ?fl41 ?fc41 ?fk41 ?ff42 ?fl42 ?fc42 ?fk42 ?ff43 ?fl43 ?fc43 ?fk43 ?ff44 ?fl44 ?fc44 ?fk44 ?ff45 ?fl45 ?fc45 ?fk45 ?ff46 ?fl46 ?fc46 ?fk46 ?ff47 ?fl47 ?fc47 ?fk47 ?ff48 ?fl48 ?fc48 ?fk48 ?ff49 ?fl49 ?fc49 ?fk49 ?ff50 ?fl50 ?fc50 ?fk50 ?ff51 ?fl51 ?fc51 ?fk51 ?ff52 ?fl52 ?fc52 ?fk52 ?ff53 ?fl53 ?fc53 ?fk53 ?ff54 ?fl54 ?fc54 ?fk54 ?ff55 ?fl55 ?fc55 ?fk55 ?ff56 ?fl56 ?fc56 ?fk56 ?ff57 ?fl57 ?fc57 ?fk57 ?ff58 ?fl58 ?fc58 ?fk58 ?ff59 ?fl59 ?fc59 ?fk59 ?ff60 ?fi60 ?fl60 ?fc60 ?fk60 ?ff61 ?fi61 ?fl61 ?fc61 ?fk61 ?ff62 ?fl62 ?fc62 ?fk62 ?ff63 ?fl63 ?fc63 ?fk63 ?ff64 ?fl64 ?fc64 ?fk64 ?ff65 ?fl65 ?fc65 ?fk65 ?ff66 ?fl66 ?fc66 ?fk66 ?ff67 ?fl67 ?fc67 ?fk67 ?ff68 ?fl68 ?fc68 ?fk68 ?ff69 ?fl69 ?fc69 ?fk69 ?ff70 ?fl70 ?fc70 ?fk70 ?g_FACTS ?g_NO_CASE ?g_OPPOSED ?g_DECIDED ?g_OVER ?g_OWNER ?g_DAYS_TO_APPEAL ?g_NOT_AS_TOLD ?g_FULL ?g_NOT_THERE ?g_NOT_NOW ?g_MOST_PIECES ?g_MOST_REQUESTS ?g_MOST_APPEALS ?g_LAST_DAY ?g_ATTACK ?g_PROOF ?g_LAST_FACT ?g_MOST_FACTS_OF_ATTACK ?g_MOST_WEIGHT ?g_LAST_CHANGE ?g_CHANGES ?l_CHANGES ?c_CHANGES ?e_CHANGES ?g_ABOUT_CLAIM ?l_ABOUT_CLAIM ?c_ABOUT_CLAIM ?e_ABOUT_CLAIM ?g_QUESTIONS ?l_QUESTIONS ?c_QUESTIONS ?e_QUESTIONS ?g_RANGES ?l_RANGES ?c_RANGES ?e_RANGES ?b_all ?b_any ?b_enumerate ?b_len ?b_list ?b_range ?b_sum ?b_zip
    (case n_Piece => k_is)
    (case pg_Piece => k_is)
    (case hd_Piece => k_is)
    (case po_Piece => k_is)
    (case sa_Piece => k_is)
    (case mk_Piece => k_is)
    (case kc_Piece => k_is)
    (case na_Piece_number => k_is)
    (case na_Piece_bringer => k_is)
    (case na_Piece_late => k_is)
    (case na_Piece_claim => k_is)
    (case na_Piece_facts => k_is)
    (case na_Piece_weights => k_is)
    (case n_Counted => k_is)
    (case pg_Counted => k_is)
    (case hd_Counted => k_is)
    (case po_Counted => k_is)
    (case sa_Counted => k_is)
    (case mk_Counted => k_is)
    (case kc_Counted => k_is)
    (case na_Counted_claim => k_is)
    (case na_Counted_bar => k_is)
    (case na_Counted_pieces => k_is)
    (case na_Counted_support => k_is)
    (case n_Dispute => k_is)
    (case pg_Dispute => k_is)
    (case hd_Dispute => k_is)
    (case po_Dispute => k_is)
    (case sa_Dispute => k_is)
    (case mk_Dispute => k_is)
    (case kc_Dispute => k_is)
    (case na_Dispute_pieces => k_is)
    (case na_Dispute_phase => k_is)
    (case na_Dispute_day => k_is)
    (case na_Dispute_claims => k_is)
    (case na_Dispute_limit => k_is)
    (case na_Dispute_counted => k_is)
    (case na_Dispute_settled => k_is)
    (case na_Dispute_settled_pieces => k_is)
    (case na_Dispute_requests => k_is)
    (case na_Dispute_appeals => k_is)
    (case na_Dispute_kept => k_is)
    (case na_Dispute_kept_request => k_is)
    (case na_Dispute_decision_day => k_is)
    (case na_Dispute_outcome => k_is)
    (case n_Call => k_is)
    (case pg_Call => k_is)
    (case hd_Call => k_is)
    (case po_Call => k_is)
    (case sa_Call => k_is)
    (case mk_Call => k_is)
    (case kc_Call => k_is)
    (case na_Call_number => k_is)
    (case na_Call_arguments => k_is)
    (case na_Call_row => k_is)
    (case ff0 => k_is)
    (case fi0 => k_is)
    (case fl0 => k_is)
    (case fc0 => k_is)
    (case fk0 => k_is)
    (case ff1 => k_is)
    (case fl1 => k_is)
    (case fc1 => k_is)
    (case fk1 => k_is)
    (case ff2 => k_is)
    (case fl2 => k_is)
    (case fc2 => k_is)
    (case fk2 => k_is)
    (case ff3 => k_is)
    (case fi3 => k_is)
    (case fl3 => k_is)
    (case fc3 => k_is)
    (case fk3 => k_is)
    (case ff4 => k_is)
    (case fi4 => k_is)
    (case fl4 => k_is)
    (case fc4 => k_is)
    (case fk4 => k_is)
    (case ff5 => k_is)
    (case fi5 => k_is)
    (case fl5 => k_is)
    (case fc5 => k_is)
    (case fk5 => k_is)
    (case ff6 => k_is)
    (case fi6 => k_is)
    (case fl6 => k_is)
    (case fc6 => k_is)
    (case fk6 => k_is)
    (case ff7 => k_is)
    (case fi7 => k_is)
    (case fl7 => k_is)
    (case fc7 => k_is)
    (case fk7 => k_is)
    (case ff8 => k_is)
    (case fi8 => k_is)
    (case fl8 => k_is)
    (case fc8 => k_is)
    (case fk8 => k_is)
    (case ff9 => k_is)
    (case fi9 => k_is)
    (case fl9 => k_is)
    (case fc9 => k_is)
    (case fk9 => k_is)
    (case ff10 => k_is)
    (case fi10 => k_is)
    (case fl10 => k_is)
    (case fc10 => k_is)
    (case fk10 => k_is)
    (case ff11 => k_is)
    (case fl11 => k_is)
    (case fc11 => k_is)
    (case fk11 => k_is)
    (case ff12 => k_is)
    (case fl12 => k_is)
    (case fc12 => k_is)
    (case fk12 => k_is)
    (case ff13 => k_is)
    (case fl13 => k_is)
    (case fc13 => k_is)
    (case fk13 => k_is)
    (case ff14 => k_is)
    (case fi14 => k_is)
    (case fl14 => k_is)
    (case fc14 => k_is)
    (case fk14 => k_is)
    (case ff15 => k_is)
    (case fi15 => k_is)
    (case fl15 => k_is)
    (case fc15 => k_is)
    (case fk15 => k_is)
    (case ff16 => k_is)
    (case fi16 => k_is)
    (case fl16 => k_is)
    (case fc16 => k_is)
    (case fk16 => k_is)
    (case ff17 => k_is)
    (case fi17 => k_is)
    (case fl17 => k_is)
    (case fc17 => k_is)
    (case fk17 => k_is)
    (case ff18 => k_is)
    (case fi18 => k_is)
    (case fl18 => k_is)
    (case fc18 => k_is)
    (case fk18 => k_is)
    (case ff19 => k_is)
    (case fi19 => k_is)
    (case fl19 => k_is)
    (case fc19 => k_is)
    (case fk19 => k_is)
    (case ff20 => k_is)
    (case fi20 => k_is)
    (case fl20 => k_is)
    (case fc20 => k_is)
    (case fk20 => k_is)
    (case ff21 => k_is)
    (case fi21 => k_is)
    (case fl21 => k_is)
    (case fc21 => k_is)
    (case fk21 => k_is)
    (case ff22 => k_is)
    (case fi22 => k_is)
    (case fl22 => k_is)
    (case fc22 => k_is)
    (case fk22 => k_is)
    (case ff23 => k_is)
    (case fi23 => k_is)
    (case fl23 => k_is)
    (case fc23 => k_is)
    (case fk23 => k_is)
    (case ff24 => k_is)
    (case fi24 => k_is)
    (case fl24 => k_is)
    (case fc24 => k_is)
    (case fk24 => k_is)
    (case ff25 => k_is)
    (case fi25 => k_is)
    (case fl25 => k_is)
    (case fc25 => k_is)
    (case fk25 => k_is)
    (case ff26 => k_is)
    (case fi26 => k_is)
    (case fl26 => k_is)
    (case fc26 => k_is)
    (case fk26 => k_is)
    (case ff27 => k_is)
    (case fi27 => k_is)
    (case fl27 => k_is)
    (case fc27 => k_is)
    (case fk27 => k_is)
    (case ff28 => k_is)
    (case fi28 => k_is)
    (case fl28 => k_is)
    (case fc28 => k_is)
    (case fk28 => k_is)
    (case ff29 => k_is)
    (case fi29 => k_is)
    (case fl29 => k_is)
    (case fc29 => k_is)
    (case fk29 => k_is)
    (case ff30 => k_is)
    (case fl30 => k_is)
    (case fc30 => k_is)
    (case fk30 => k_is)
    (case ff31 => k_is)
    (case fl31 => k_is)
    (case fc31 => k_is)
    (case fk31 => k_is)
    (case ff32 => k_is)
    (case fl32 => k_is)
    (case fc32 => k_is)
    (case fk32 => k_is)
    (case ff33 => k_is)
    (case fl33 => k_is)
    (case fc33 => k_is)
    (case fk33 => k_is)
    (case ff34 => k_is)
    (case fl34 => k_is)
    (case fc34 => k_is)
    (case fk34 => k_is)
    (case ff35 => k_is)
    (case fl35 => k_is)
    (case fc35 => k_is)
    (case fk35 => k_is)
    (case ff36 => k_is)
    (case fl36 => k_is)
    (case fc36 => k_is)
    (case fk36 => k_is)
    (case ff37 => k_is)
    (case fl37 => k_is)
    (case fc37 => k_is)
    (case fk37 => k_is)
    (case ff38 => k_is)
    (case fl38 => k_is)
    (case fc38 => k_is)
    (case fk38 => k_is)
    (case ff39 => k_is)
    (case fl39 => k_is)
    (case fc39 => k_is)
    (case fk39 => k_is)
    (case ff40 => k_is)
    (case fl40 => k_is)
    (case fc40 => k_is)
    (case fk40 => k_is)
    (case ff41 => k_is)
    (case fl41 => k_is)
    (case fc41 => k_is)
    (case fk41 => k_is)
    (case ff42 => k_is)
    (case fl42 => k_is)
    (case fc42 => k_is)
    (case fk42 => k_is)
    (case ff43 => k_is)
    (case fl43 => k_is)
    (case fc43 => k_is)
    (case fk43 => k_is)
    (case ff44 => k_is)
    (case fl44 => k_is)
    (case fc44 => k_is)
    (case fk44 => k_is)
    (case ff45 => k_is)
    (case fl45 => k_is)
    (case fc45 => k_is)
    (case fk45 => k_is)
    (case ff46 => k_is)
    (case fl46 => k_is)
    (case fc46 => k_is)
    (case fk46 => k_is)
    (case ff47 => k_is)
    (case fl47 => k_is)
    (case fc47 => k_is)
    (case fk47 => k_is)
    (case ff48 => k_is)
    (case fl48 => k_is)
    (case fc48 => k_is)
    (case fk48 => k_is)
    (case ff49 => k_is)
    (case fl49 => k_is)
    (case fc49 => k_is)
    (case fk49 => k_is)
    (case ff50 => k_is)
    (case fl50 => k_is)
    (case fc50 => k_is)
    (case fk50 => k_is)
    (case ff51 => k_is)
    (case fl51 => k_is)
    (case fc51 => k_is)
    (case fk51 => k_is)
    (case ff52 => k_is)
    (case fl52 => k_is)
    (case fc52 => k_is)
    (case fk52 => k_is)
    (case ff53 => k_is)
    (case fl53 => k_is)
    (case fc53 => k_is)
    (case fk53 => k_is)
    (case ff54 => k_is)
    (case fl54 => k_is)
    (case fc54 => k_is)
    (case fk54 => k_is)
    (case ff55 => k_is)
    (case fl55 => k_is)
    (case fc55 => k_is)
    (case fk55 => k_is)
    (case ff56 => k_is)
    (case fl56 => k_is)
    (case fc56 => k_is)
    (case fk56 => k_is)
    (case ff57 => k_is)
    (case fl57 => k_is)
    (case fc57 => k_is)
    (case fk57 => k_is)
    (case ff58 => k_is)
    (case fl58 => k_is)
    (case fc58 => k_is)
    (case fk58 => k_is)
    (case ff59 => k_is)
    (case fl59 => k_is)
    (case fc59 => k_is)
    (case fk59 => k_is)
    (case ff60 => k_is)
    (case fi60 => k_is)
    (case fl60 => k_is)
    (case fc60 => k_is)
    (case fk60 => k_is)
    (case ff61 => k_is)
    (case fi61 => k_is)
    (case fl61 => k_is)
    (case fc61 => k_is)
    (case fk61 => k_is)
    (case ff62 => k_is)
    (case fl62 => k_is)
    (case fc62 => k_is)
    (case fk62 => k_is)
    (case ff63 => k_is)
    (case fl63 => k_is)
    (case fc63 => k_is)
    (case fk63 => k_is)
    (case ff64 => k_is)
    (case fl64 => k_is)
    (case fc64 => k_is)
    (case fk64 => k_is)
    (case ff65 => k_is)
    (case fl65 => k_is)
    (case fc65 => k_is)
    (case fk65 => k_is)
    (case ff66 => k_is)
    (case fl66 => k_is)
    (case fc66 => k_is)
    (case fk66 => k_is)
    (case ff67 => k_is)
    (case fl67 => k_is)
    (case fc67 => k_is)
    (case fk67 => k_is)
    (case ff68 => k_is)
    (case fl68 => k_is)
    (case fc68 => k_is)
    (case fk68 => k_is)
    (case ff69 => k_is)
    (case fl69 => k_is)
    (case fc69 => k_is)
    (case fk69 => k_is)
    (case ff70 => k_is)
    (case fl70 => k_is)
    (case fc70 => k_is)
    (case fk70 => k_is)
    (case g_FACTS => k_is)
    (case g_NO_CASE => k_is)
    (case g_OPPOSED => k_is)
    (case g_DECIDED => k_is)
    (case g_OVER => k_is)
    (case g_OWNER => k_is)
    (case g_DAYS_TO_APPEAL => k_is)
    (case g_NOT_AS_TOLD => k_is)
    (case g_FULL => k_is)
    (case g_NOT_THERE => k_is)
    (case g_NOT_NOW => k_is)
    (case g_MOST_PIECES => k_is)
    (case g_MOST_REQUESTS => k_is)
    (case g_MOST_APPEALS => k_is)
    (case g_LAST_DAY => k_is)
    (case g_ATTACK => k_is)
    (case g_PROOF => k_is)
    (case g_LAST_FACT => k_is)
    (case g_MOST_FACTS_OF_ATTACK => k_is)
    (case g_MOST_WEIGHT => k_is)
    (case g_LAST_CHANGE => k_is)
    (case g_CHANGES => k_is)
    (case l_CHANGES => k_is)
    (case c_CHANGES => exact rfl)
    (case e_CHANGES => exact rfl)
    (case g_ABOUT_CLAIM => k_is)
    (case l_ABOUT_CLAIM => k_is)
    (case c_ABOUT_CLAIM => exact rfl)
    (case e_ABOUT_CLAIM => exact rfl)
    (case g_QUESTIONS => k_is)
    (case l_QUESTIONS => k_is)
    (case c_QUESTIONS => exact rfl)
    (case e_QUESTIONS => exact rfl)
    (case g_RANGES => k_is)
    (case l_RANGES => k_is)
    (case c_RANGES => exact rfl)
    (case e_RANGES => exact rfl)
    (case b_all => k_is)
    (case b_any => k_is)
    (case b_enumerate => k_is)
    (case b_len => k_is)
    (case b_list => k_is)
    (case b_range => k_is)
    (case b_sum => k_is)
    (case b_zip => k_is)
  case S =>
    intro K H xs a hO hwi hask hx
    cases hx with
    | cons h1 h2 =>
      cases h2
      cases h1 with
      | lst hs ha =>
        have e := L2.ints_dw a.1 _ ha
        subst e
        exact ⟨_, a.1, rfl, hs, hask, fun H' p hp => .lst (L2.SqL.of hp) (L2.dw_ints _)⟩

