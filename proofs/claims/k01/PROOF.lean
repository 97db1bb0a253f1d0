import PyProof.Rows.All
import PyProof.ZipIter
import Wide.All
import OpenK.AllK
import Wide.FinOn
import Lean
import PyProof.EqAt
import PyProof.EqKinds
import PyProof.TupleCall
import PyProof.NeKinds
import PyProof.Conv_int_bool
import PySem.Challenge.RW_mustrows_k01_stands
set_option Elab.async false
set_option linter.all false
set_option maxRecDepth 100000

namespace L2
open PySem PySem.Spec PyProof.Rows

abbrev Key := Sum Int Str
def keyIs : Key → Value → Bool
  | .inl k, v => Value.isInt k v
  | .inr x, v => Value.isStrOf x v
def keyH (w : World) : Key → Int
  | .inl k => hashInt k
  | .inr x => hashStr w x
theorem keyIs_shape : ∀ {k : Key} {v : Value}, keyIs k v = true → (∃ i t, k = Sum.inl i ∧ v = Value.int i t) ∨ (∃ x t, k = Sum.inr x ∧ v = Value.str x t)
  | .inl i, v, h => by
    obtain ⟨t, e⟩ := Value.isInt_shape (k := i) (v := v) h
    exact .inl ⟨i, t, rfl, e⟩
  | .inr x, v, h => by
    obtain ⟨t, e⟩ := Value.isStrOf_shape (x := x) (v := v) h
    exact .inr ⟨x, t, rfl, e⟩
theorem keyIs_int (i : Int) (t : Tok) : keyIs (.inl i) (.int i t) = true := by simp [keyIs, Value.isInt]
theorem keyIs_str (x : Str) (t : Tok) : keyIs (.inr x) (.str x t) = true := by simp [keyIs, Value.isStrOf]
theorem key_ll (a b : Int) : decide ((Sum.inl a : Key) = Sum.inl b) = (a == b) := by
  by_cases e : a = b
  · subst e; simp
  · have h : ¬ (Sum.inl a : Key) = Sum.inl b := fun q => e (Sum.inl.inj q)
    rw [decide_eq_false h]
    exact (beq_eq_false_iff_ne.mpr e).symm
theorem key_rr (a b : Str) : decide ((Sum.inr a : Key) = Sum.inr b) = decide (a = b) := by
  by_cases e : a = b
  · subst e; simp
  · have h : ¬ (Sum.inr a : Key) = Sum.inr b := fun q => e (Sum.inr.inj q)
    rw [decide_eq_false h, decide_eq_false e]
theorem key_lr (a : Int) (b : Str) : decide ((Sum.inl a : Key) = Sum.inr b) = false := decide_eq_false (fun q => nomatch q)
theorem key_rl (a : Str) (b : Int) : decide ((Sum.inr a : Key) = Sum.inl b) = false := decide_eq_false (fun q => nomatch q)

def mixKind (prog : Program) (w : World) : PySem.KeyKind prog w Key where
  is := keyIs
  hash := keyH w
  inj := fun v a b ha hb => by
    rcases keyIs_shape ha with ⟨i, t, rfl, rfl⟩ | ⟨x, t, rfl, rfl⟩
    · rcases keyIs_shape hb with ⟨j, u, rfl, e⟩ | ⟨y, u, rfl, e⟩
      · injection e with e1 _; rw [e1]
      · exact nomatch e
    · rcases keyIs_shape hb with ⟨j, u, rfl, e⟩ | ⟨y, u, rfl, e⟩
      · exact nomatch e
      · injection e with e1 _; rw [e1]
  byValue := fun k v h => by
    rcases keyIs_shape h with ⟨i, t, rfl, rfl⟩ | ⟨x, t, rfl, rfl⟩ <;> rfl
  pyHash := fun hv h => by
    rcases keyIs_shape hv with ⟨i, t, rfl, rfl⟩ | ⟨x, t, rfl, rfl⟩
    · exact wpAny_pyHash_int h
    · exact wpAny_pyHash_str h
  eqBool := fun hu hv h => by
    rcases keyIs_shape hu with ⟨i, t, rfl, rfl⟩ | ⟨x, t, rfl, rfl⟩
    · rcases keyIs_shape hv with ⟨j, u, rfl, rfl⟩ | ⟨y, u, rfl, rfl⟩
      · rw [key_ll] at h; exact wpAny_eqBool_int h
      · rw [key_lr] at h; exact SeqAt.EqAt.int_str i t y u _ _ _ _ h
    · rcases keyIs_shape hv with ⟨j, u, rfl, rfl⟩ | ⟨y, u, rfl, rfl⟩
      · rw [key_rl] at h; exact SeqAt.EqAt.str_int x t j u _ _ _ _ h
      · rw [key_rr] at h; exact wpAny_eqBool_str h
  «strs» := fun k x t v h => by
    rcases keyIs_shape h with ⟨i, u, rfl, e⟩ | ⟨y, u, rfl, e⟩
    · exact nomatch e
    · injection e with e1 _
      subst e1
      cases v <;> rfl

theorem mixKind_int (prog : Program) (w : World) (i : Int) (t : Tok) : (mixKind prog w).is (.inl i) (.int i t) = true := keyIs_int i t
theorem mixKind_str (prog : Program) (w : World) (x : Str) (t : Tok) : (mixKind prog w).is (.inr x) (.str x t) = true := keyIs_str x t
end L2

namespace L2
open PySem PySem.Spec PyProof.Rows

inductive V where
  | non | bl (b : Bool) | int (i : Int) | str (x : Str) | byt (b : Array UInt8) | flt (b : UInt64) | ref (a : Addr) | ty (n : String)
  deriving DecidableEq

def RelV : V → Value → Prop
  | .non, u => u = Value.none
  | .bl b, u => u = Value.bool b
  | .int i, u => ∃ t, u = Value.int i t
  | .str x, u => ∃ t, u = Value.str x t
  | .byt b, u => ∃ t, u = Value.bytes b t
  | .flt b, u => ∃ t, u = Value.float b t
  | .ref a, u => u = Value.ref a
  | .ty n, u => u = Value.type n

abbrev Vals : List V → List Value → Prop := Paired RelV
theorem Vals.length {xs : List V} {us : List Value} (r : Vals xs us) : xs.length = us.length := Paired.length r
theorem Vals.get : ∀ {xs : List V} {us : List Value} {i : Nat} {x : V}, Vals xs us → xs[i]? = some x → ∃ u, us[i]? = some u ∧ RelV x u
  | _, _, _, _, .nil, e => by simp at e
  | _, _, 0, _, .cons r _, e => by simp at e; subst e; exact ⟨_, rfl, r⟩
  | _, _, i + 1, x, .cons _ t, e => by
    obtain ⟨u, h1, h2⟩ := Vals.get (i := i) (x := x) t (by simpa using e)
    exact ⟨u, by simpa using h1, h2⟩
theorem Vals.append : ∀ {xs ys : List V} {us ws : List Value}, Vals xs us → Vals ys ws → Vals (xs ++ ys) (us ++ ws)
  | _, _, _, _, .nil, s => s
  | _, _, _, _, .cons r t, s => .cons r (Vals.append t s)
theorem Vals.take : ∀ {xs : List V} {us : List Value} (n : Nat), Vals xs us → Vals (xs.take n) (us.take n)
  | _, _, 0, _ => .nil
  | _, _, _ + 1, .nil => .nil
  | _, _, n + 1, .cons r t => .cons r (Vals.take n t)
theorem Vals.drop : ∀ {xs : List V} {us : List Value} (n : Nat), Vals xs us → Vals (xs.drop n) (us.drop n)
  | _, _, 0, r => r
  | _, _, _ + 1, .nil => .nil
  | _, _, n + 1, .cons _ t => Vals.drop n t
def RelO : Option V → Option Value → Prop
  | some v, some u => RelV v u
  | none, none => True
  | _, _ => False
def KV {κ : Type} : List (κ × V) → List (κ × Value) → Prop := Paired fun (p : κ × V) (q : κ × Value) => p.1 = q.1 ∧ RelV p.2 q.2

def kV : Key → V
  | .inl i => .int i
  | .inr x => .str x

inductive HO where
  
  | lst (xs : List V)
  
  | tup (xs : List V)
  
  | dK (kvs : List (Key × V)) | dT (kvs : List (List Key × V))
  
  | set (S : Int → Bool) (n : Nat)
  
  | ins (C dx : Addr) (fs : List (Str × V))
  
  | own (x : Addr)
  
  | xd (fs : List (Str × V))
  
  | met (f x : Addr)
  
  | rng (lo hi : Int)
  
  | frz (o : Obj) (u : HO)
  
  | tbl (ps : Array Value)
  
  | ext (φ : Heap → Prop)

abbrev Hp := Addr → Option HO
def upd (H : Hp) (a : Addr) (o : HO) : Hp := fun b => if b = a then some o else H b
theorem upd_same {H : Hp} {a : Addr} {o : HO} : upd H a o a = some o := by unfold upd; rw [if_pos rfl]
theorem upd_ne {H : Hp} {a b : Addr} {o : HO} (h : b ≠ a) : upd H a o b = H b := by unfold upd; rw [if_neg h]
theorem upd_upd {H : Hp} {a : Addr} {o u : HO} : upd (upd H a o) a u = upd H a u := by
  funext b; unfold upd; split <;> rfl

theorem ne_of {H : Hp} {a b : Addr} {o u : HO} (h : H a = some o) (h' : H b = some u) (d : o ≠ u) : a ≠ b := by
  intro e; subst e; rw [h] at h'; exact d (Option.some.inj h')
theorem ne_of_none {H : Hp} {a b : Addr} {o : HO} (h : H a = some o) (h' : H b = none) : a ≠ b := by
  intro e; subst e; rw [h] at h'; cases h'

section
variable (P : Program) (w : World)
def ObjOk (H : Hp) (h : Heap) (a : Addr) : HO → Prop
  | .lst xs => xs.length ≤ sizeLine ∧ ∃ (its : List Value) (n : Nat), Vals xs its ∧ h.get? a = some { cls := .type "list", data := .seq its.toArray n }
  | .tup xs => xs.length ≤ sizeLine ∧ ∃ its : List Value, Vals xs its ∧ IsTup h a its.toArray
  | .dK kvs => kvs.length ≤ sizeLine ∧ (a == sysModules) = false ∧ ∃ vs, KV kvs vs ∧ h.DictOf (mixKind P w) a vs
  | .dT kvs => kvs.length ≤ sizeLine ∧ (a == sysModules) = false ∧ ∃ xs : List (List Key × Addr × Value),
      Paired (fun (p : List Key × V) (q : List Key × Addr × Value) => p.1 = q.1 ∧ H q.2.1 = some (.tup (p.1.map kV)) ∧ RelV p.2 q.2.2) kvs xs ∧
      ∃ o es ep, h.get? a = some o ∧ o.ExactDict ∧ o.data = .dict es ep ∧ es.toList = xs.map (entryOfKey (tupleKind (mixKind P w))) ∧ (xs.map (·.1)).Nodup
  | .set S n => h.SetOf (intKind P w) a S n
  | .ins C dx fs => H dx = some (.own a) ∧ fs.length ≤ 1000 ∧ dx ≠ a ∧ h.get? a = some (PySem.W.instObj C dx) ∧
      ∃ mA, h.Ns1 dx mA ∧ (∀ f, RelO (fs.lookup f) (mA f)) ∧ PySem.Within mA (fs.map (·.1))
  | .own _ => ∃ o, h.get? a = some o
  | .xd fs => ∃ mA, h.Ns1 a mA ∧ ∀ f, RelO (fs.lookup f) (mA f)
  | .rng lo hi => ∃ t u v, h.get? a = some { cls := .type "range", data := .fields #[.int lo t, .int hi u, .int 1 v] }
  | .frz o u => h.get? a = some o ∧ ObjOk H h a u
  | .tbl ps => h.get? a = some { cls := .none, data := .fields ps }
  | .met f x => h.get? a = some (PySem.W.methodObj (.ref f) (.ref x))
  | .ext φ => φ h ∧ (∃ o, h.get? a = some o) ∧ ∀ h1 h2 : Heap, φ h1 → (∀ o, h1.get? a = some o → h2.get? a = some o) → φ h2

def HOk (H : Hp) (h : Heap) : Prop := ∀ a o, H a = some o → ObjOk P w H h a o
end

section
variable {P : Program} {w : World} {H H' : Hp} {h h' : Heap} {a : Addr} {o : HO}
theorem ObjOk.lt (x : ObjOk P w H h a o) : a < h.objs.size := by
  cases o with
  | lst xs => obtain ⟨_, _, _, _, e⟩ := x; exact Heap.lt_size e
  | tup xs => obtain ⟨_, _, _, p⟩ := x; exact p.lt
  | dK kvs => obtain ⟨_, _, _, _, o, _, _, e, _⟩ := x; exact Heap.lt_size e
  | dT kvs => obtain ⟨_, _, _, _, o, _, _, e, _⟩ := x; exact Heap.lt_size e
  | set S n => obtain ⟨o, _, _, _, e, _⟩ := x; exact Heap.lt_size e
  | ins C dx fs => obtain ⟨_, _, _, e, _⟩ := x; exact Heap.lt_size e
  | own y => obtain ⟨_, e⟩ := x; exact Heap.lt_size e
  | xd fs => obtain ⟨_, ⟨_, _, _, e, _⟩, _⟩ := x; exact Heap.lt_size e
  | rng lo hi => obtain ⟨_, _, _, e⟩ := x; exact Heap.lt_size e
  | frz ob u => obtain ⟨e, _⟩ := x; exact Heap.lt_size e
  | tbl ps => exact Heap.lt_size (show h.get? a = some _ from x)
  | met f y => exact Heap.lt_size (show h.get? a = some _ from x)
  | ext φ => obtain ⟨_, ⟨_, e⟩, _⟩ := x; exact Heap.lt_size e
theorem Paired.mapP {α β : Type} {F G : α → β → Prop} : ∀ {l₁ : List α} {l₂ : List β}, Paired F l₁ l₂ → (∀ a b, F a b → G a b) → Paired G l₁ l₂
  | _, _, .nil, _ => .nil
  | _, _, .cons r t, f => .cons (f _ _ r) (Paired.mapP t f)
theorem ObjOk.stay (x : ObjOk P w H h a o) (k : ∀ b u, (b = a ∨ H b = some (.own a)) → h.get? b = some u → h'.get? b = some u)
    (ho : ∀ b, H b = some (.own a) → H' b = some (.own a)) (ht : ∀ b xs, H b = some (.tup xs) → H' b = some (.tup xs)) : ObjOk P w H' h' a o := by
  induction o with
  | lst xs => obtain ⟨z, its, n, r, e⟩ := x; exact ⟨z, its, n, r, k _ _ (.inl rfl) e⟩
  | tup xs => obtain ⟨z, its, r, ob, e, c⟩ := x; exact ⟨z, its, r, ob, k _ _ (.inl rfl) e, c⟩
  | dK kvs => obtain ⟨z, y, vs, r, ob, es, ep, e, c⟩ := x; exact ⟨z, y, vs, r, ob, es, ep, k _ _ (.inl rfl) e, c⟩
  | dT kvs =>
    obtain ⟨z, y, xs, r, ob, es, ep, e, c⟩ := x
    exact ⟨z, y, xs, Paired.mapP r fun p q z => ⟨z.1, ht _ _ z.2.1, z.2.2⟩, ob, es, ep, k _ _ (.inl rfl) e, c⟩
  | set S n => obtain ⟨ob, es, ep, t, e, c⟩ := x; exact ⟨ob, es, ep, t, k _ _ (.inl rfl) e, c⟩
  | ins C dx fs =>
    obtain ⟨d, z, ne, e, mA, ⟨od, es, ep, e2, c⟩, r⟩ := x
    exact ⟨ho _ d, z, ne, k _ _ (.inl rfl) e, mA, ⟨od, es, ep, k _ _ (.inr d) e2, c⟩, r⟩
  | own y => obtain ⟨ob, e⟩ := x; exact ⟨ob, k _ _ (.inl rfl) e⟩
  | xd fs => obtain ⟨mA, ⟨od, es, ep, e, c⟩, r⟩ := x; exact ⟨mA, ⟨od, es, ep, k _ _ (.inl rfl) e, c⟩, r⟩
  | rng lo hi => obtain ⟨t, u, v, e⟩ := x; exact ⟨t, u, v, k _ _ (.inl rfl) e⟩
  | frz ob u ih => obtain ⟨e, q⟩ := x; exact ⟨k _ _ (.inl rfl) e, ih q⟩
  | tbl ps =>
    have e : h.get? a = some { cls := .none, data := .fields ps } := x
    show h'.get? a = some { cls := .none, data := .fields ps }
    exact k a _ (.inl rfl) e
  | met f y =>
    have e : h.get? a = some (PySem.W.methodObj (.ref f) (.ref y)) := x
    show h'.get? a = some (PySem.W.methodObj (.ref f) (.ref y))
    exact k a _ (.inl rfl) e
  | ext φ => obtain ⟨p, ⟨o, e⟩, st⟩ := x; exact ⟨st _ _ p fun o q => k _ _ (.inl rfl) q, ⟨o, k _ _ (.inl rfl) e⟩, st⟩
theorem HOk.lt (x : HOk P w H h) (e : H a = some o) : a < h.objs.size := (x a o e).lt
theorem HOk.fresh (x : HOk P w H h) (e : h.objs.size ≤ a) : H a = none := by
  cases q : H a with
  | none => rfl
  | some u => exact absurd (Nat.lt_of_lt_of_le (x.lt q) e) (Nat.lt_irrefl _)

theorem HOk.kept (x : HOk P w H h) (k : ∀ b u, h.get? b = some u → h'.get? b = some u) : HOk P w H h' := fun a o e =>
  (x a o e).stay (fun b u _ q => k b u q) (fun _ q => q) fun _ _ q => q

theorem HOk.laid (x : HOk P w H h) (k : ∀ b u, h.get? b = some u → h'.get? b = some u) (hp : h.objs.size ≤ a) (new : ObjOk P w (upd H a o) h' a o) : HOk P w (upd H a o) h' := fun b u e => by
  have hn := x.fresh hp
  by_cases hb : b = a
  · subst hb; rw [upd_same] at e; cases e; exact new
  · rw [upd_ne hb] at e
    exact (x b u e).stay (fun c v _ q => k c v q) (fun c q => by rw [upd_ne (ne_of_none q hn)]; exact q) fun c xs q => by rw [upd_ne (ne_of_none q hn)]; exact q
end

def Rd (H : Hp) (a : Addr) (u : HO) : Prop := H a = some u ∨ ∃ o, H a = some (.frz o u)
theorem Rd.ok {P : Program} {w : World} {H : Hp} {h : Heap} {a : Addr} {u : HO} (r : Rd H a u) (x : HOk P w H h) : ObjOk P w H h a u := by
  rcases r with r | ⟨o, r⟩
  · exact x a u r
  · obtain ⟨_, q⟩ := x a _ r
    exact q

def Mut : Option HO → Prop
  | some (.lst _) => True
  | some (.dK _) => True
  | some (.dT _) => True
  | some (.set _ _) => True
  | some (.ins _ _ _) => True
  | some (.ext _) => True
  | _ => False
section
variable {P : Program} {w : World} {H : Hp} {h h' : Heap} {x e : Addr} {o' : HO}

theorem HOk.write (ok : HOk P w H h) (mu : Mut (H x)) (he : e = x ∨ H e = some (.own x)) (k : ∀ b u, b ≠ e → h.get? b = some u → h'.get? b = some u) (heo : ∃ u, h'.get? e = some u)
    (new : ObjOk P w (upd H x o') h' x o') : HOk P w (upd H x o') h' := fun b u q => by
  have nown : ∀ c y, H c = some (.own y) → c ≠ x := fun c y r z => by subst z; rw [r] at mu; exact mu
  have ntup : ∀ c xs, H c = some (.tup xs) → c ≠ x := fun c xs r z => by subst z; rw [r] at mu; exact mu
  by_cases hb : b = x
  · subst hb; rw [upd_same] at q; cases q; exact new
  · rw [upd_ne hb] at q
    by_cases hbe : b = e
    · have q' : H b = some (.own x) := by
        rcases he with z | z
        · exact absurd (hbe.trans z) hb
        · rw [hbe]; exact z
      rw [q] at q'; cases q'
      obtain ⟨v, hv⟩ := heo
      exact ⟨v, by rw [hbe]; exact hv⟩
    · refine (ok b u q).stay (fun c v hc r => k c v ?_ r) (fun c r => by rw [upd_ne (nown c b r)]; exact r) fun c xs r => by rw [upd_ne (ntup c xs r)]; exact r
      rcases hc with rfl | hc
      · exact hbe
      · rintro rfl
        rcases he with z | z
        · exact nown c b hc z
        · rw [hc] at z; cases z; exact hb rfl
end

structure Un (fs ex : List Addr) (H H' : Hp) (h h' : Heap) : Prop where
  keep : ∀ b o, h.get? b = some o → H b = none → b ∉ fs → b ∉ ex → h'.get? b = some o
  slot : ∀ b o, h.get? b = some o → H b = none → b ∈ fs → b ∉ ex → ∃ sl, h'.get? b = some { o with slots := sl }
  free : ∀ b o, h.get? b = some o → H b = none → b ∉ ex → H' b = none
  there : ∀ b o, h.get? b = some o → b ∉ ex → ∃ o', h'.get? b = some o'
  tups : ∀ b xs, H b = some (.tup xs) → H' b = some (.tup xs)
  frzs : ∀ b o u, H b = some (.frz o u) → H' b = some (.frz o u)
  tbls : ∀ b ps, H b = some (.tbl ps) → ∃ more, H' b = some (.tbl (ps ++ more))
section
variable {fs fs' ex ex' : List Addr} {H H1 H2 : Hp} {h h1 h2 h' : Heap} {a x e : Addr} {o : HO}
theorem Un.any (u : Un fs ex H H1 h h1) {b : Addr} {ob : Obj} (q : h.get? b = some ob) (n : H b = none) (hx : b ∉ ex) : ∃ sl, h1.get? b = some { ob with slots := sl } := by
  by_cases hb : b ∈ fs
  · exact u.slot b ob q n hb hx
  · exact ⟨ob.slots, u.keep b ob q n hb hx⟩
theorem Un.kept (k : ∀ b u, h.get? b = some u → h'.get? b = some u) : Un fs ex H H h h' :=
  ⟨fun b ob q _ _ _ => k b ob q, fun b ob q _ _ _ => ⟨ob.slots, k b ob q⟩, fun _ _ _ n _ => n, fun b ob q _ => ⟨ob, k b ob q⟩, fun _ _ q => q, fun _ _ _ q => q, fun _ ps q => ⟨#[], by rw [q]; simp⟩⟩
theorem Un.refl : Un fs ex H H h h := Un.kept fun _ _ q => q
theorem Un.laid (k : ∀ b u, h.get? b = some u → h'.get? b = some u) (hp : h.objs.size ≤ a) (hn : H a = none) : Un fs ex H (upd H a o) h h' where
  keep := fun b u q _ _ _ => k b u q
  slot := fun b u q _ _ _ => ⟨u.slots, k b u q⟩
  free := fun b u q n _ => by rw [upd_ne (Nat.ne_of_lt (Nat.lt_of_lt_of_le (Heap.lt_size q) hp))]; exact n
  there := fun b u q _ => ⟨u, k b u q⟩
  tups := fun b xs q => by rw [upd_ne (ne_of_none q hn)]; exact q
  frzs := fun b u xs q => by rw [upd_ne (ne_of_none q hn)]; exact q
  tbls := fun b ps q => ⟨#[], by rw [upd_ne (ne_of_none q hn), q]; simp⟩
theorem Un.write (mu : Mut (H x)) (he : e = x ∨ H e = some (.own x)) (k : ∀ b u, b ≠ e → h.get? b = some u → h'.get? b = some u) (heo : ∃ u, h'.get? e = some u) : Un fs ex H (upd H x o) h h' := by
  have hx : ∀ b, H b = none → b ≠ x := fun b n z => by subst z; rw [n] at mu; exact mu
  have hb : ∀ b, H b = none → b ≠ e := fun b n z => by
    subst z
    rcases he with r | r
    · exact hx b n r
    · rw [n] at r; cases r
  have hm : ∀ b u, H b = some u → ¬ Mut (some u) → b ≠ x := fun b u q nm z => by subst z; rw [q] at mu; exact nm mu
  refine ⟨fun b u q n _ _ => k b u (hb b n) q, fun b u q n _ _ => ⟨u.slots, k b u (hb b n) q⟩, fun b u q n _ => by rw [upd_ne (hx b n)]; exact n, fun b u q _ => ?_,
    fun b xs q => by rw [upd_ne (hm b _ q fun z => z)]; exact q, fun b u xs q => by rw [upd_ne (hm b _ q fun z => z)]; exact q, fun b ps q => ⟨#[], by rw [upd_ne (hm b _ q fun z => z), q]; simp⟩⟩
  by_cases hbe : b = e
  · subst hbe; exact heo
  · exact ⟨u, k b u hbe q⟩
end

def trk (h : Heap) (H : Hp) : List Addr := (List.range h.objs.size).filter fun a => (H a).isSome
def hidT (h : Heap) (H : Hp) : Heap := PySem.W.hideAll h (trk h H)
theorem hidT_size (h : Heap) (H : Hp) : (hidT h H).objs.size = h.objs.size := PySem.W.hideAll_size _ _
theorem hidT_get {h : Heap} {H : Hp} {b : Addr} {o : Obj} (e : h.get? b = some o) (n : H b = none) : (hidT h H).get? b = some o :=
  PySem.W.hideAll_get _ e fun hm => by
    have q : (H b).isSome = true := (List.mem_filter.mp hm).2
    rw [n] at q; simp at q
theorem of_hidT {h : Heap} {H : Hp} {b : Addr} {o : Obj} (e : (hidT h H).get? b = some o) : h.get? b = some o ∧ H b = none := by
  have e' : h.get? b = some o := PySem.W.of_hideAll (trk h H) e
  refine ⟨e', ?_⟩
  cases q : H b with
  | none => rfl
  | some x =>
    have hm : b ∈ trk h H := List.mem_filter.mpr ⟨List.mem_range.mpr (Heap.lt_size e'), by simp [q]⟩
    have z : (hidT h H).get? b = none := PySem.W.hideAll_none (trk h H) hm
    rw [z] at e; cases e

end L2

namespace L2
open PySem PySem.Spec PyProof.Rows

structure Mod (K : PySem.W.Frag) (mg : Str → Option Value) (base : Heap) : Prop where
  kin : K.In base
  glob : base.Ns mainGlobals mg
  blt : ∃ mb, base.Ns builtinsNs mb ∧ ∀ x : Str, x ≠ "__name__" → mb x = bootBuiltins x
  nolimit : base.NoLimit

structure Cx where
  prog : Program
  w : World
  K : PySem.W.Frag
  mg : Str → Option Value
  base : Heap
  A : Around
  N : List Str
  s₀ : Shared
  H₀ : Hp
  env : Env
  outer : List Env
  stack : List Env
  ex : List Addr
  fn : Str → Bool
  calm : Bool
  pn : List (Addr × Obj)
  xe : Value → Shared → Prop

def frs (l : List Env) : List Addr := l.filterMap (·.frame)
abbrev Cx.fs (X : Cx) : List Addr := frs X.outer

def Vis (sc : Scope) (x : Str) : Prop := sc.names.lookup x = some .local ∨ sc.names.lookup x = some .cell ∨ sc.names.lookup x = some .free
def Loc (sc : Scope) (x : Str) : Prop := sc.names.lookup x = some .local ∨ sc.names.lookup x = some .cell
def Look (env : Env) (h : Heap) (m : Str → Option Value) (x : Str) (u : Value) : Prop :=
  (env.kindOf x = some .local ∧ m x = some u) ∨ ((env.kindOf x = some .cell ∨ env.kindOf x = some .free) ∧ ∃ c, env.cells.lookup x = some c ∧ h.IsCell c (some u))

structure Cx.Ok (X : Cx) : Prop where
  mod : Mod X.K X.mg X.base
  kind : X.env.scope.kind = .function
  glob : X.env.globals = mainGlobals
  blt : X.env.builtins = builtinsNs
  above : X.s₀.heap.objs.size ≤ X.env.locals
  inj : ∀ x y c, X.env.cells.lookup x = some c → X.env.cells.lookup y = some c → x = y
  has : ∀ x, (X.env.kindOf x = some .cell ∨ X.env.kindOf x = some .free) → ∃ c, X.env.cells.lookup x = some c
  cab : ∀ x c, X.fn x = true → X.env.cells.lookup x = some c → X.s₀.heap.objs.size ≤ c
  hd : X.calm = true → X.A.handled = none
  frames : X.A.frames = some X.stack
  stk : X.stack = X.outer ∨ (X.stack = X.env :: X.outer ∧ X.env.frame = some X.env.locals)
  exf : ∀ b ∈ X.ex, b ≠ X.env.locals ∧ ∀ x c, X.env.cells.lookup x = some c → c ≠ b
  bs : ∀ b o, X.base.get? b = some o → X.s₀.heap.get? b = some o ∧ X.H₀ b = none
  bsz : X.base.objs.size ≤ X.s₀.heap.objs.size
  noex : ∀ b o, X.base.get? b = some o → b ∉ X.ex
  exfs : ∀ b ∈ X.ex, b ∉ X.fs
  funs : X.s₀.heap.FunFrames X.base X.outer
  frf : ∀ b ∈ X.fs, X.H₀ b = none

structure Inv (X : Cx) (pins : List (Addr × Obj)) (σ : List (Option V)) (H : Hp) (s : Shared) : Prop where
  ok : X.Ok
  os : s.os = X.s₀.os
  bare : AllBare s.gens
  base : Un X.fs X.ex X.H₀ H X.s₀.heap s.heap
  loc : ∃ m, s.heap.Ns X.env.locals m ∧ ∀ (i : Nat) (x : Str) (v : V), X.N[i]? = some x → σ[i]? = some (some v) → Vis X.env.scope x → ∃ u, RelV v u ∧ Look X.env s.heap m x u
  cell : ∀ x c, X.env.cells.lookup x = some c → ∃ v, s.heap.IsCell c v
  free : H X.env.locals = none
  freeC : ∀ x c, X.env.cells.lookup x = some c → H c = none
  pin : ∀ p ∈ X.pn ++ pins, s.heap.get? p.1 = some p.2 ∧ H p.1 = none ∧ p.1 ≠ X.env.locals ∧ p.1 ∉ X.fs ∧ ∀ v, p.2.data ≠ .cell v
  hok : HOk X.prog X.w H s.heap
  len : σ.length = X.N.length

section
variable {X : Cx} {pins : List (Addr × Obj)} {σ : List (Option V)} {H H' : Hp} {s : Shared} {h' : Heap}

theorem Cx.Ok.nofr (ok : X.Ok) {b : Addr} {o : Obj} (e : X.base.get? b = some o) : b ∉ X.fs := fun hb => by
  have := (ok.funs.mem hb).1
  rw [e] at this; cases this
theorem Inv.bs (I : Inv X pins σ H s) : ∀ b o, X.base.get? b = some o → s.heap.get? b = some o ∧ H b = none := fun b o e =>
  ⟨I.base.keep b o (I.ok.bs b o e).1 (I.ok.bs b o e).2 (I.ok.nofr e) (I.ok.noex b o e), I.base.free b o (I.ok.bs b o e).1 (I.ok.bs b o e).2 (I.ok.noex b o e)⟩
theorem Inv.bk (I : Inv X pins σ H s) : ∀ b o, X.base.get? b = some o → s.heap.get? b = some o := fun b o e => (I.bs b o e).1
theorem Inv.mod (I : Inv X pins σ H s) : Mod X.K X.mg X.base := I.ok.mod
theorem Inv.kIn (I : Inv X pins σ H s) : X.K.In s.heap := I.ok.mod.kin.keeps I.bk
theorem Inv.lt (I : Inv X pins σ H s) : X.env.locals < s.heap.objs.size := let ⟨_, hn, _⟩ := I.loc; hn.lt
theorem Inv.sz (I : Inv X pins σ H s) : X.s₀.heap.objs.size ≤ s.heap.objs.size := Nat.le_trans I.ok.above (Nat.le_of_lt I.lt)
theorem Inv.nofs (I : Inv X pins σ H s) {a : Addr} (h : s.heap.objs.size ≤ a) : a ∉ X.fs := fun hb => by
  obtain ⟨_, o, ho, _⟩ := I.ok.funs.mem hb
  exact absurd (Nat.lt_of_lt_of_le (Heap.lt_size ho) (Nat.le_trans I.sz h)) (Nat.lt_irrefl _)
theorem Inv.cne (I : Inv X pins σ H s) : ∀ x c, X.env.cells.lookup x = some c → c ≠ X.env.locals := fun x c e z => by
  obtain ⟨v, o, ho, hd⟩ := I.cell x c e
  obtain ⟨m, ⟨o', es, ep, ho', hd', _⟩, _⟩ := I.loc
  rw [z, ho'] at ho; cases ho; rw [hd'] at hd; cases hd
theorem Inv.funs (I : Inv X pins σ H s) : s.heap.FunFrames X.base X.outer := by
  have all : ∀ (l : List Env), (∀ b ∈ frs l, b ∈ X.fs) → X.s₀.heap.FunFrames X.base l → s.heap.FunFrames X.base l := by
    intro l
    induction l with
    | nil => intro _ _; trivial
    | cons env r ih =>
      intro hs hl
      obtain ⟨hk, ⟨L, o, hf, hn, ho, hd⟩, hr⟩ := hl
      have hL : L ∈ X.fs := hs L (by unfold frs; rw [List.filterMap_cons, hf]; exact List.mem_cons_self)
      obtain ⟨sl, e⟩ := I.base.slot L o ho (I.ok.frf L hL) hL fun z => I.ok.exfs L z hL
      exact ⟨hk, ⟨L, _, hf, hn, e, hd⟩, ih (fun b hb => hs b (by unfold frs; rw [List.filterMap_cons, hf]; exact List.mem_cons_of_mem _ hb)) hr⟩
  exact all X.outer (fun _ hb => hb) I.ok.funs

theorem Inv.stack (I : Inv X pins σ H s) : s.heap.FunFrames X.base X.stack := by
  rcases I.ok.stk with e | ⟨e, hf⟩
  · rw [e]; exact I.funs
  · rw [e]
    obtain ⟨m, hn, _⟩ := I.loc
    refine .cons (by rw [I.ok.kind]; decide) hf hn ?_ I.funs
    exact Heap.get?_none_of_le (Nat.le_trans I.ok.bsz I.ok.above)
theorem Inv.stkSub (I : Inv X pins σ H s) : ∀ b ∈ frs X.stack, b ∈ X.env.locals :: X.fs := fun b hb => by
  rcases I.ok.stk with e | ⟨e, hf⟩
  · rw [e] at hb; exact List.mem_cons_of_mem _ hb
  · rw [e] at hb
    unfold frs at hb
    rw [List.filterMap_cons, hf] at hb
    exact hb
theorem Inv.stkFree (I : Inv X pins σ H s) : ∀ b ∈ frs X.stack, H b = none := fun b hb => by
  rcases List.mem_cons.mp (I.stkSub b hb) with e | hb
  · rw [e]; exact I.free
  · obtain ⟨_, o, ho, _⟩ := I.ok.funs.mem hb
    exact I.base.free b o ho (I.ok.frf b hb) fun z => I.ok.exfs b z hb

theorem Inv.step {g' : Array GenState} {t' : Nat} {d' : Drawn} {ch : List Addr} (I : Inv X pins σ H s)
    (hch : ∀ b ∈ ch, (b ∈ X.ex ∨ X.s₀.heap.objs.size ≤ b) ∧ b ≠ X.env.locals ∧ (∀ x c, X.env.cells.lookup x = some c → c ≠ b) ∧ ∀ p ∈ X.pn ++ pins, p.1 ≠ b)
    (keep : ∀ b o, b ≠ X.env.locals → b ∉ X.fs → b ∉ ch → s.heap.get? b = some o → H b = none → h'.get? b = some o)
    (slot : ∀ b o, b ≠ X.env.locals → b ∈ X.fs → b ∉ ch → s.heap.get? b = some o → H b = none → ∃ sl, h'.get? b = some { o with slots := sl }) (free : ∀ b o, b ∉ ch → s.heap.get? b = some o → H b = none → H' b = none)
    (there : ∀ b o, b ∉ ch → s.heap.get? b = some o → ∃ o', h'.get? b = some o')
    (tups : ∀ b xs, H b = some (.tup xs) → H' b = some (.tup xs)) (frzs : ∀ b o u, H b = some (.frz o u) → H' b = some (.frz o u)) (tbls : ∀ b ps, H b = some (.tbl ps) → ∃ more, H' b = some (.tbl (ps ++ more)))
    (ns : ∀ m, s.heap.Ns X.env.locals m → h'.Ns X.env.locals m) (hok : HOk X.prog X.w H' h') (hg : AllBare g') :
    Inv X pins σ H' { s with heap := h', gens := g', drawn := d', toks := t' } := by
  have neL : ∀ b o, X.s₀.heap.get? b = some o → b ≠ X.env.locals := fun b o e => Nat.ne_of_lt (Nat.lt_of_lt_of_le (Heap.lt_size e) I.ok.above)
  have neC : ∀ b o, X.s₀.heap.get? b = some o → b ∉ X.ex → b ∉ ch := fun b o e hx hb => by
    rcases (hch b hb).1 with z | z
    · exact hx z
    · exact absurd (Nat.lt_of_lt_of_le (Heap.lt_size e) z) (Nat.lt_irrefl _)
  have cellK : ∀ x c, X.env.cells.lookup x = some c → ∀ v, s.heap.IsCell c v → h'.IsCell c v := fun x c e v ⟨o, ho, hd⟩ => by
    have nch : c ∉ ch := fun z => (hch c z).2.2.1 x c e rfl
    by_cases hc : c ∈ X.fs
    · obtain ⟨sl, q⟩ := slot c o (I.cne x c e) hc nch ho (I.freeC x c e)
      exact ⟨_, q, hd⟩
    · exact ⟨o, keep c o (I.cne x c e) hc nch ho (I.freeC x c e), hd⟩
  refine ⟨I.ok, I.os, hg, ⟨fun b o e n hb hx => ?_, fun b o e n hb hx => ?_, fun b o e n hx => ?_, fun b o e hx => ?_, fun b xs e => tups b xs (I.base.tups b xs e), fun b o xs e => frzs b o xs (I.base.frzs b o xs e), fun b ps e => ?_⟩, ?_, fun x c e => ?_, ?_, fun x c e => ?_, fun p hp => ?_, hok, I.len⟩
  · exact keep b o (neL b o e) hb (neC b o e hx) (I.base.keep b o e n hb hx) (I.base.free b o e n hx)
  · obtain ⟨sl, e1⟩ := I.base.slot b o e n hb hx
    obtain ⟨sl', e2⟩ := slot b _ (neL b o e) hb (neC b o e hx) e1 (I.base.free b o e n hx)
    exact ⟨sl', e2⟩
  · obtain ⟨o', e1⟩ := I.base.there b o e hx
    exact free b o' (neC b o e hx) e1 (I.base.free b o e n hx)
  · obtain ⟨o', e1⟩ := I.base.there b o e hx
    exact there b o' (neC b o e hx) e1
  · obtain ⟨m1, e1⟩ := I.base.tbls b ps e
    obtain ⟨m2, e2⟩ := tbls b _ e1
    exact ⟨m1 ++ m2, by rw [e2, Array.append_assoc]⟩
  · obtain ⟨m, hn, hl⟩ := I.loc
    refine ⟨m, ns m hn, fun i x v e1 e2 e3 => ?_⟩
    obtain ⟨u, r, l⟩ := hl i x v e1 e2 e3
    refine ⟨u, r, ?_⟩
    rcases l with l | ⟨k, c, e, z⟩
    · exact .inl l
    · exact .inr ⟨k, c, e, cellK x c e _ z⟩
  · obtain ⟨v, z⟩ := I.cell x c e
    exact ⟨v, cellK x c e v z⟩
  · obtain ⟨m, ⟨o, _, _, ho, _⟩, _⟩ := I.loc
    exact free _ o (fun z => (hch _ z).2.1 rfl) ho I.free
  · obtain ⟨v, o, ho, hd⟩ := I.cell x c e
    exact free c o (fun z => (hch c z).2.2.1 x c e rfl) ho (I.freeC x c e)
  · obtain ⟨e, n, ne, nf, d⟩ := I.pin p hp
    have nch : p.1 ∉ ch := fun z => (hch p.1 z).2.2.2 p hp rfl
    exact ⟨keep p.1 p.2 ne nf nch e n, free p.1 p.2 nch e n, ne, nf, d⟩

theorem Inv.un {t' : Nat} (I : Inv X pins σ H s) (u : Un X.fs [] H H' s.heap h') (hok : HOk X.prog X.w H' h') : Inv X pins σ H' { s with heap := h', toks := t' } := by
  obtain ⟨m, ⟨o, es, ep, ho, r⟩, _⟩ := id I.loc
  obtain ⟨sl, hL⟩ := u.any ho I.free (by simp)
  exact I.step (g' := s.gens) (d' := s.drawn) (ch := []) (fun _ z => nomatch z) (fun b o _ hb _ e n => u.keep b o e n hb (by simp)) (fun b o _ hb _ e n => u.slot b o e n hb (by simp)) (fun b o _ e n => u.free b o e n (by simp)) (fun b o _ e => u.there b o e (by simp)) u.tups u.frzs u.tbls (fun m' hm => by
    obtain ⟨o', es', ep', ho', r'⟩ := hm
    rw [ho] at ho'; cases ho'
    exact ⟨_, es', ep', hL, r'⟩) hok I.bare

theorem Inv.call {g' : Array GenState} {t' : Nat} {d' : Drawn} {ch : List Addr} (I : Inv X pins σ H s) (u : Un (frs X.stack) ch H H' s.heap h') (hok : HOk X.prog X.w H' h') (hg : AllBare g')
    (hch : ∀ b ∈ ch, (b ∈ X.ex ∨ X.s₀.heap.objs.size ≤ b) ∧ b ≠ X.env.locals ∧ (∀ x c, X.env.cells.lookup x = some c → c ≠ b) ∧ ∀ p ∈ X.pn ++ pins, p.1 ≠ b) :
    Inv X pins σ H' { s with heap := h', gens := g', drawn := d', toks := t' } := by
  obtain ⟨m, ⟨o, es, ep, ho, r⟩, _⟩ := id I.loc
  obtain ⟨sl, hL⟩ := u.any ho I.free fun z => (hch _ z).2.1 rfl
  exact I.step (ch := ch) hch (fun b o hL hb hc e n => u.keep b o e n (fun z => (List.mem_cons.mp (I.stkSub b z)).elim hL hb) hc) (fun b o _ _ hc e n => u.any e n hc) (fun b o hc e n => u.free b o e n hc) (fun b o hc e => u.there b o e hc) u.tups u.frzs u.tbls (fun m' hm => by
    obtain ⟨o', es', ep', ho', r'⟩ := hm
    rw [ho] at ho'; cases ho'
    exact ⟨_, es', ep', hL, r'⟩) hok hg

theorem Inv.turned {t' : Nat} {it : Addr} (I : Inv X pins σ H s) (k : ∀ b o, b ≠ it → s.heap.get? b = some o → h'.get? b = some o) (hn : H it = none) (hL : it ≠ X.env.locals)
    (h1 : it ∈ X.ex ∨ X.s₀.heap.objs.size ≤ it) (h2 : ∀ x c, X.env.cells.lookup x = some c → c ≠ it) (h3 : ∀ p ∈ X.pn ++ pins, p.1 ≠ it) : Inv X pins σ H { s with heap := h', toks := t' } := by
  have nit : ∀ b u, H b = some u → b ≠ it := fun b u e z => by rw [z, hn] at e; cases e
  refine I.step (g' := s.gens) (d' := s.drawn) (ch := [it]) (fun b hb => ?_) (fun b o _ _ hc e _ => k b o (fun z => hc (by simp [z])) e) (fun b o _ _ hc e _ => ⟨o.slots, k b o (fun z => hc (by simp [z])) e⟩) (fun _ _ _ _ n => n)
    (fun b o hc e => ⟨o, k b o (fun z => hc (by simp [z])) e⟩) (fun _ _ e => e) (fun _ _ _ e => e) (fun b ps e => ⟨#[], by rw [e]; simp⟩) (fun m hm => ?_) (fun b u e => ?_) I.bare
  · have e : b = it := by simpa using hb
    subst e
    exact ⟨h1, hL, h2, h3⟩
  · obtain ⟨o, es, ep, ho, r⟩ := hm
    exact ⟨o, es, ep, k _ o (Ne.symm hL) ho, r⟩
  · refine (I.hok b u e).stay (fun c v hc q => k c v ?_ q) (fun _ q => q) fun _ _ q => q
    rcases hc with z | z
    · rw [z]; exact nit b u e
    · exact nit c _ z
theorem Inv.tok (I : Inv X pins σ H s) (t : Nat) : Inv X pins σ H { s with toks := t } := I.un (h' := s.heap) (t' := t) Un.refl I.hok

theorem Inv.kept {t' : Nat} (I : Inv X pins σ H s) (k : ∀ b u, s.heap.get? b = some u → h'.get? b = some u) : Inv X pins σ H { s with heap := h', toks := t' } := I.un (Un.kept k) (I.hok.kept k)

theorem Inv.laid {a : Addr} {o : HO} {t' : Nat} (I : Inv X pins σ H s) (k : ∀ b u, s.heap.get? b = some u → h'.get? b = some u) (hp : s.heap.objs.size ≤ a) (new : ObjOk X.prog X.w (upd H a o) h' a o) :
    Inv X pins σ (upd H a o) { s with heap := h', toks := t' } := I.un (Un.laid k hp (I.hok.fresh hp)) (I.hok.laid k hp new)

theorem Inv.write {x e : Addr} {o : HO} {t' : Nat} (I : Inv X pins σ H s) (mu : Mut (H x)) (he : e = x ∨ H e = some (.own x)) (k : ∀ b u, b ≠ e → s.heap.get? b = some u → h'.get? b = some u) (heo : ∃ u, h'.get? e = some u)
    (new : ObjOk X.prog X.w (upd H x o) h' x o) : Inv X pins σ (upd H x o) { s with heap := h', toks := t' } := I.un (Un.write mu he k heo) (I.hok.write mu he k heo new)

theorem Inv.pins_of {pins' : List (Addr × Obj)} (I : Inv X pins σ H s) (h : ∀ p ∈ pins', s.heap.get? p.1 = some p.2 ∧ H p.1 = none ∧ p.1 ≠ X.env.locals ∧ p.1 ∉ X.fs ∧ ∀ v, p.2.data ≠ .cell v) : Inv X pins' σ H s :=
  ⟨I.ok, I.os, I.bare, I.base, I.loc, I.cell, I.free, I.freeC, fun p hp => (List.mem_append.mp hp).elim (fun z => I.pin p (List.mem_append_left _ z)) (h p), I.hok, I.len⟩

theorem nodup_ix {N : List Str} (hN : N.Nodup) {i j : Nat} {x : Str} (a : N[i]? = some x) (b : N[j]? = some x) : i = j := by
  obtain ⟨h1, e1⟩ := List.getElem?_eq_some_iff.mp a
  obtain ⟨h2, e2⟩ := List.getElem?_eq_some_iff.mp b
  exact (List.getElem_inj hN).mp (e1.trans e2.symm)

theorem store_ok2 {M : Model} {A : Around} {E : Value → Shared → Prop} {i : Nat} {x : Str} {v : V} {u : Value} {Q : Unit → Shared → Prop} (I : Inv X pins σ H s) (hN : X.N.Nodup) (hi : X.N[i]? = some x) (hx : Loc X.env.scope x) (r : RelV v u)
    (h : ∀ s', Inv X pins (σ.set i (some v)) H s' → (∃ a, Heap.SameBut a s.heap s'.heap ∧ (a = X.env.locals ∨ X.env.cells.lookup x = some a)) → Q () s') (hf : X.fn x = true ∨ X.env.scope.names.lookup x = some .local := by first | exact .inl rfl | exact .inr rfl | assumption) : wpAny M A (storeName X.env x u) Q E s := by
  obtain ⟨m, hn, hl⟩ := id I.loc
  have hcls : (X.env.scope.kind == .class || (X.env.scope.kind == .module && X.env.locals != X.env.globals)) = false := by rw [I.ok.kind]; rfl
  have hiσ : i < σ.length := by rw [I.len]; exact (List.getElem?_eq_some_iff.mp hi).1
  have cne := I.cne
  have tracked : ∀ {a : Addr} {h' : Heap}, (∃ o, s.heap.get? a = some o ∧ H a = none) → Heap.SameBut a s.heap h' → HOk X.prog X.w H h' := fun {a h'} ha hs b ob e => by
    obtain ⟨_, _, hfree⟩ := ha
    refine (I.hok b ob e).stay (fun c w' hc q => (hs.2 c ?_).trans q) (fun _ q => q) fun _ _ q => q
    rintro rfl
    rcases hc with rfl | hc
    · rw [hfree] at e; cases e
    · rw [hfree] at hc; cases hc
  rcases hx with hk | hk
  · refine wpAny_storeName_local hk hn (fun h' hn' hs => ?_) hcls
    obtain ⟨oL, _, _, hoL, _⟩ := id hn
    refine h _ ⟨I.ok, I.os, I.bare, ⟨fun b o e n hb hx => ?_, fun b o e n hb hx => ?_, I.base.free, fun b o e hx => ?_, I.base.tups, I.base.frzs, I.base.tbls⟩, ⟨_, hn', fun j y v' e1 e2 e3 => ?_⟩, fun y c e => ?_, I.free, I.freeC, fun p hp => ?_, tracked ⟨oL, hoL, I.free⟩ hs, by simpa using I.len⟩ ⟨_, hs, .inl rfl⟩
    · exact (hs.2 b (Nat.ne_of_lt (Nat.lt_of_lt_of_le (Heap.lt_size e) I.ok.above))).trans (I.base.keep b o e n hb hx)
    · obtain ⟨sl, e1⟩ := I.base.slot b o e n hb hx
      exact ⟨sl, (hs.2 b (Nat.ne_of_lt (Nat.lt_of_lt_of_le (Heap.lt_size e) I.ok.above))).trans e1⟩
    · obtain ⟨o', e1⟩ := I.base.there b o e hx
      exact ⟨o', (hs.2 b (Nat.ne_of_lt (Nat.lt_of_lt_of_le (Heap.lt_size e) I.ok.above))).trans e1⟩
    · by_cases hj : j = i
      · subst hj
        rw [hi] at e1; cases e1
        rw [List.getElem?_set_self hiσ] at e2
        cases e2
        exact ⟨u, r, .inl ⟨hk, by simp⟩⟩
      · rw [List.getElem?_set_ne (Ne.symm hj)] at e2
        obtain ⟨u', r', q⟩ := hl j y v' e1 e2 e3
        refine ⟨u', r', ?_⟩
        rcases q with ⟨k, e⟩ | ⟨k, c, e, z⟩
        · refine .inl ⟨k, ?_⟩
          have : y ≠ x := fun e => hj (nodup_ix hN e1 (e ▸ hi))
          simp [this, e]
        · exact .inr ⟨k, c, e, z.sameBut hs (cne y c e)⟩
    · obtain ⟨w', z⟩ := I.cell y c e
      exact ⟨w', z.sameBut hs (cne y c e)⟩
    · obtain ⟨e, n, ne, nf, d⟩ := I.pin p hp
      exact ⟨(hs.2 p.1 ne).trans e, n, ne, nf, d⟩
  · have hfn : X.fn x = true := by
      rcases hf with z | z
      · exact z
      · rw [z] at hk; cases hk
    obtain ⟨c, hc⟩ := I.ok.has x (.inl hk)
    obtain ⟨w', z⟩ := I.cell x c hc
    refine wpAny_storeName_cell I.ok.kind hk hc z (fun h' hc' hs => ?_)
    obtain ⟨oc, hoc, hocd⟩ := id z
    refine h { s with heap := h' } ⟨I.ok, I.os, I.bare, ⟨fun b o e n hb hx => ?_, fun b o e n hb hx => ?_, I.base.free, fun b o e hx => ?_, I.base.tups, I.base.frzs, I.base.tbls⟩, ⟨m, hn.sameBut hs (Ne.symm (cne x c hc)), fun j y v' e1 e2 e3 => ?_⟩, fun y c' e => ?_, I.free, I.freeC, fun p hp => ?_, tracked ⟨oc, hoc, I.freeC x c hc⟩ hs, by simpa using I.len⟩ ⟨c, hs, .inr hc⟩
    · exact (hs.2 b (Nat.ne_of_lt (Nat.lt_of_lt_of_le (Heap.lt_size e) (I.ok.cab x c hfn hc)))).trans (I.base.keep b o e n hb hx)
    · obtain ⟨sl, e1⟩ := I.base.slot b o e n hb hx
      exact ⟨sl, (hs.2 b (Nat.ne_of_lt (Nat.lt_of_lt_of_le (Heap.lt_size e) (I.ok.cab x c hfn hc)))).trans e1⟩
    · obtain ⟨o', e1⟩ := I.base.there b o e hx
      exact ⟨o', (hs.2 b (Nat.ne_of_lt (Nat.lt_of_lt_of_le (Heap.lt_size e) (I.ok.cab x c hfn hc)))).trans e1⟩
    · by_cases hj : j = i
      · subst hj
        rw [hi] at e1; cases e1
        rw [List.getElem?_set_self hiσ] at e2
        cases e2
        exact ⟨u, r, .inr ⟨.inl hk, c, hc, hc'⟩⟩
      · rw [List.getElem?_set_ne (Ne.symm hj)] at e2
        obtain ⟨u', r', q⟩ := hl j y v' e1 e2 e3
        refine ⟨u', r', ?_⟩
        rcases q with q | ⟨k, c', e, z'⟩
        · exact .inl q
        · refine .inr ⟨k, c', e, z'.sameBut hs ?_⟩
          rintro rfl
          exact hj (nodup_ix hN e1 (I.ok.inj _ _ _ e hc ▸ hi))
    · by_cases hcc : c' = c
      · subst hcc; exact ⟨_, hc'⟩
      · obtain ⟨w2, z2⟩ := I.cell y c' e
        exact ⟨w2, z2.sameBut hs hcc⟩
    · obtain ⟨e, n, ne, nf, d⟩ := I.pin p hp
      refine ⟨(hs.2 p.1 ?_).trans e, n, ne, nf, d⟩
      intro q
      rw [q, hoc] at e
      have q' : oc = p.2 := Option.some.inj e
      exact d w' (by rw [← q']; exact hocd)
theorem store_ok {M : Model} {A : Around} {E : Value → Shared → Prop} {i : Nat} {x : Str} {v : V} {u : Value} {Q : Unit → Shared → Prop} (I : Inv X pins σ H s) (hN : X.N.Nodup) (hi : X.N[i]? = some x) (hx : Loc X.env.scope x) (r : RelV v u)
    (h : ∀ s', Inv X pins (σ.set i (some v)) H s' → Q () s') (hf : X.fn x = true ∨ X.env.scope.names.lookup x = some .local := by first | exact .inl rfl | exact .inr rfl | assumption) : wpAny M A (storeName X.env x u) Q E s :=
  store_ok2 I hN hi hx r (fun s' I' _ => h s' I') hf

theorem Inv.call' {s' : Shared} {ch : List Addr} (I : Inv X pins σ H s) (ho : s'.os = s.os) (u : Un (frs X.stack) ch H H' s.heap s'.heap) (hok : HOk X.prog X.w H' s'.heap) (hg : AllBare s'.gens)
    (hch : ∀ b ∈ ch, (b ∈ X.ex ∨ X.s₀.heap.objs.size ≤ b) ∧ b ≠ X.env.locals ∧ (∀ x c, X.env.cells.lookup x = some c → c ≠ b) ∧ ∀ p ∈ X.pn ++ pins, p.1 ≠ b) : Inv X pins σ H' s' := by
  obtain ⟨h', g', d', t', o'⟩ := s'
  have e : o' = s.os := ho
  subst e
  exact I.call (g' := g') (t' := t') (d' := d') u hok hg hch
end

abbrev XK := Value → Option Addr → Hp → Prop
abbrev St := List (Option V)
abbrev VK := V → Hp → Prop

abbrev TE := St → Hp → VK → Prop
abbrev TT := St → Hp → (Bool → Hp → Prop) → Prop
abbrev TA := St → Hp → (List V → Hp → Prop) → Prop

structure Ends where
  nx : St → Hp → Prop
  rt : VK
  bk : St → Hp → Prop := fun _ _ => False
  ct : St → Hp → Prop := fun _ _ => False
abbrev TS := Ends → St → Hp → Prop

def EP (X : Cx) (pins : List (Addr × Obj)) (σ : St) (Q : VK) (u : Value) (s' : Shared) : Prop := ∃ v H', Inv X pins σ H' s' ∧ RelV v u ∧ Q v H'
def TP (X : Cx) (pins : List (Addr × Obj)) (σ : St) (Q : Bool → Hp → Prop) (b : Bool) (s' : Shared) : Prop := ∃ H', Inv X pins σ H' s' ∧ Q b H'
def AP (X : Cx) (pins : List (Addr × Obj)) (σ : St) (Q : List V → Hp → Prop) (us : List Value) (s' : Shared) : Prop := ∃ vs H', Inv X pins σ H' s' ∧ Vals vs us ∧ Q vs H'
def SP (X : Cx) (pins : List (Addr × Obj)) (D : Ends) (f : Flow) (s' : Shared) : Prop :=
  match f with
  | .next => ∃ σ' H', Inv X pins σ' H' s' ∧ D.nx σ' H'
  | .brk => ∃ σ' H', Inv X pins σ' H' s' ∧ D.bk σ' H'
  | .cont => ∃ σ' H', Inv X pins σ' H' s' ∧ D.ct σ' H'
  | .ret u => ∃ v σ' H', Inv X pins σ' H' s' ∧ RelV v u ∧ D.rt v H'

def PE (X : Cx) (e : Expr) (t : TE) : Prop :=
  ∀ (pins : List (Addr × Obj)) (s : Shared) (σ : St) (H : Hp) (Q : VK), Inv X pins σ H s → t σ H Q → wpAny (model X.prog X.w) X.A (eval e X.env) (EP X pins σ Q) X.xe s
def PT (X : Cx) (e : Expr) (t : TT) : Prop :=
  ∀ (pins : List (Addr × Obj)) (s : Shared) (σ : St) (H : Hp) (Q : Bool → Hp → Prop), Inv X pins σ H s → t σ H Q → wpAny (model X.prog X.w) X.A (isTrue e X.env (eval e X.env)) (TP X pins σ Q) X.xe s

def PW (X : Cx) (e : Expr) (t : TT) : Prop :=
  ∀ (whole : Sem Value) (pins : List (Addr × Obj)) (s : Shared) (σ : St) (H : Hp) (Q : Bool → Hp → Prop), Inv X pins σ H s → t σ H Q → wpAny (model X.prog X.w) X.A (isTrue e X.env whole) (TP X pins σ Q) X.xe s
theorem PW.pt {X : Cx} {e : Expr} {t : TT} (h : PW X e t) : PT X e t := h _

def PA (X : Cx) (es : List Expr) (t : TA) : Prop :=
  ∀ (pos : Pos) (pins : List (Addr × Obj)) (s : Shared) (σ : St) (H : Hp) (Q : List V → Hp → Prop), Inv X pins σ H s → t σ H Q → wpAny (model X.prog X.w) X.A (spliced (backTo pos (starEach es X.env))) (AP X pins σ Q) X.xe s
def PS (X : Cx) (st : Stmt) (t : TS) : Prop :=
  ∀ (pins : List (Addr × Obj)) (s : Shared) (σ : St) (H : Hp) (D : Ends), Inv X pins σ H s → t D σ H → wpAny (model X.prog X.w) X.A (exec st X.env) (SP X pins D) X.xe s
def PSs (X : Cx) (st : List Stmt) (t : TS) : Prop :=
  ∀ (pins : List (Addr × Obj)) (s : Shared) (σ : St) (H : Hp) (D : Ends), Inv X pins σ H s → t D σ H → wpAny (model X.prog X.w) X.A (execs st X.env) (SP X pins D) X.xe s

theorem thn {α : Type} {t : Sem α} {Q Q' : α → Shared → Prop} {M : Model} {A : Around} {E : Value → Shared → Prop} {s : Shared} (h : wpAny M A t Q E s) (hQ : ∀ a s, Q a s → Q' a s) : wpAny M A t Q' E s := wpAny_mono h hQ fun _ _ x => x
end L2

namespace L2
open PySem PySem.Spec PyProof.Rows
section
variable {X : Cx}

theorem bin {a b : Expr} {ta tb : TE} (ha : PE X a ta) (hb : PE X b tb) {pins : List (Addr × Obj)} {s : Shared} {σ : St} {H : Hp} {R : V → V → Hp → Prop} (I : Inv X pins σ H s) (h : ta σ H fun x H1 => tb σ H1 fun y H2 => R x y H2)
    {α : Type} {Q : α → Shared → Prop} {f : Value → Value → Sem α}
    (hf : ∀ v u s2 x y H2, Inv X pins σ H2 s2 → RelV x v → RelV y u → R x y H2 → wpAny (model X.prog X.w) X.A (f v u) Q X.xe s2) :
    wpAny (model X.prog X.w) X.A (eval a X.env) (fun v s₁ => wpAny (model X.prog X.w) X.A (eval b X.env) (fun u s₂ => wpAny (model X.prog X.w) X.A (f v u) Q X.xe s₂) X.xe s₁) X.xe s := by
  refine thn (ha pins s σ H _ I h) fun v s1 ⟨x, H1, I1, r1, q1⟩ => ?_
  refine thn (hb pins s1 σ H1 _ I1 q1) fun u s2 ⟨y, H2, I2, r2, q2⟩ => ?_
  exact hf v u s2 x y H2 I2 r1 r2 q2

def tVar (i : Nat) : TE := fun σ H Q => ∃ v, σ[i]? = some (some v) ∧ Q v H
def tC (v : V) : TE := fun _ H Q => Q v H
theorem pe_var {i : Nat} {x : Str} {pos : Pos} (hN : X.N[i]? = some x) (hv : Vis X.env.scope x) (hd : (x == ("__debug__" : Str)) = false := by decide) (hcd : (x == ("__classdict__" : Str)) = false := by decide) : PE X (.Name x pos) (tVar i) := by
  intro pins s σ H Q I h
  obtain ⟨v, e, h⟩ := h
  obtain ⟨m, hn, hl⟩ := I.loc
  obtain ⟨u, r, l⟩ := hl i x v hN e hv
  have fin : EP X pins σ Q u s := ⟨v, H, I, r, h⟩
  rcases l with ⟨hk, hm⟩ | ⟨hk, c, hc, hcell⟩
  · exact wpAny_Name (wpAny_loadName_local I.ok.kind hk hn hm fin) hd
  · rcases hk with hk | hk
    · exact wpAny_Name (wpAny_loadName_cell I.ok.kind hk hc hcell fin) hd
    · exact wpAny_Name (wpAny_loadName_free I.ok.kind hk hc hcell fin hcd) hd
theorem pe_int {i j pos} : PE X (.Constant (.int i) j pos) (tC (.int i)) := fun _ _ _ H _ I h => wpAny_Constant_int ⟨.int i, H, I.tok _, ⟨_, rfl⟩, h⟩
theorem pe_bl {b j pos} : PE X (.Constant (.bool b) j pos) (tC (.bl b)) := fun _ _ _ H _ I h => Constant_bool ⟨.bl b, H, I, rfl, h⟩
theorem pe_non {j pos} : PE X (.Constant .none j pos) (tC .non) := fun _ _ _ H _ I h => Constant_none ⟨.non, H, I, rfl, h⟩
theorem pe_str {x j pos} : PE X (.Constant (.str x) j pos) (tC (.str x)) := fun _ _ _ H _ I h => Calls.Constant_str ⟨.str x, H, I.tok _, ⟨_, rfl⟩, h⟩

def Gl (X : Cx) (x : Str) : Prop := X.env.kindOf x = some .globalImplicit
theorem ld_glob {E : Value → Shared → Prop} {pins : List (Addr × Obj)} {s : Shared} {σ : St} {H : Hp} {x : Str} {u : Value} {pos : Pos} {Q : Value → Shared → Prop} (I : Inv X pins σ H s) (hg : Gl X x) (hm : X.mg x = some u) (h : Q u s)
    (hd : (x == ("__debug__" : Str)) = false := by decide) : wpAny (model X.prog X.w) X.A (eval (.Name x pos) X.env) Q E s :=
  Calls.Name_function_global I.ok.kind hg (Calls.loadGlobal_global (by rw [I.ok.glob]; exact I.mod.glob.keeps I.bk) hm h) hd
theorem ld_blt {E : Value → Shared → Prop} {pins : List (Addr × Obj)} {s : Shared} {σ : St} {H : Hp} {x : Str} {u : Value} {pos : Pos} {Q : Value → Shared → Prop} (I : Inv X pins σ H s) (hg : Gl X x) (hm : X.mg x = none) (hv : bootBuiltins x = some u) (h : Q u s)
    (hn : x ≠ "__name__" := by decide) (hd : (x == ("__debug__" : Str)) = false := by decide) : wpAny (model X.prog X.w) X.A (eval (.Name x pos) X.env) Q E s := by
  obtain ⟨mb, h1, h2⟩ := I.mod.blt
  exact Calls.Name_function_global I.ok.kind hg (Calls.loadGlobal_builtin (by rw [I.ok.glob]; exact I.mod.glob.keeps I.bk) hm (by rw [I.ok.blt]; exact h1.keeps I.bk) ((h2 x hn).trans hv) h) hd

theorem pe_bltn {x : Str} {v : V} {u : Value} {pos : Pos} (hg : Gl X x) (hm : X.mg x = none) (hv : bootBuiltins x = some u) (r : RelV v u) (hn : x ≠ "__name__" := by decide) (hd : (x == ("__debug__" : Str)) = false := by decide) : PE X (.Name x pos) (tC v) :=
  fun _ _ _ H _ I h => ld_blt I hg hm hv ⟨v, H, I, r, h⟩ hn hd

variable {a b : Expr} {ta tb : TE} {pos : Pos}
def PC (X : Cx) (op : CmpOp) (a b : Expr) (t : TE) : Prop :=
  ∀ (pins : List (Addr × Obj)) (s : Shared) (σ : St) (H : Hp) (Q : VK), Inv X pins σ H s → t σ H Q →
    wpAny (model X.prog X.w) X.A (eval a X.env) (fun v s₁ => wpAny (model X.prog X.w) X.A (eval b X.env) (fun u s₂ => wpAny (model X.prog X.w) X.A (compareOp op v u) (EP X pins σ Q) X.xe s₂) X.xe s₁) X.xe s
def tB (t : TE) : TT := fun σ H Q => t σ H fun x H1 => ∃ c, x = .bl c ∧ Q c H1
theorem pt_cmp {op : CmpOp} {t : TE} (h : PC X op a b t) (h1 : behindInMarks op b = false := by first | exact nobehind _ (by decide) (by decide) | rfl) : PT X (.Compare a [op] [b] pos) (tB t) := by
  intro pins s σ H Q I hw
  refine wpAny_isTrue_Compare1 (thn (h pins s σ H _ I hw) fun v s1 h1 => thn h1 fun u s2 h2 => thn h2 fun c s3 ⟨x, H1, I1, r1, q1⟩ => ?_) h1
  obtain ⟨d, rfl, q⟩ := q1
  cases r1
  exact wpAny_truthy_bool ⟨H1, I1, q⟩

theorem pt_val {e : Expr} {t : TE} (h : PE X e t) (he : ∀ whole, isTrue e X.env whole = (do let v ← whole; standAt e.pos; holding [v] (truthy v)) := by intro _; rfl) : PT X e (tB t) := by
  intro pins s σ H Q I hw
  refine isTrue_plain (thn (h pins s σ H _ I hw) fun v s1 ⟨x, H1, I1, r1, q1⟩ => ?_) (he _)
  obtain ⟨d, rfl, q⟩ := q1
  cases r1
  exact wpAny_truthy_bool ⟨H1, I1, q⟩

variable {tA tB' : TT} {rest : List Expr}
def tAnd (t u : TT) : TT := fun σ H Q => t σ H fun c H1 => if c = true then u σ H1 Q else Q false H1
def tOr (t u : TT) : TT := fun σ H Q => t σ H fun c H1 => if c = true then Q true H1 else u σ H1 Q
def tNot (t : TT) : TT := fun σ H Q => t σ H fun c H1 => Q (!c) H1
theorem pw_and1 (ha : PT X a tA) : PW X (.BoolOp .And [a] pos) tA := by
  intro wh pins s σ H Q I h
  refine isTrue_and (thn (ha pins s σ H Q I h) fun c s1 e => ?_)
  cases c with
  | true => exact isTrue_and_nil e
  | false => exact e
theorem pw_or1 (ha : PT X a tA) : PW X (.BoolOp .Or [a] pos) tA := by
  intro wh pins s σ H Q I h
  refine isTrue_or (thn (ha pins s σ H Q I h) fun c s1 e => ?_)
  cases c with
  | false => exact isTrue_or_nil e
  | true => exact e
theorem pw_and (ha : PT X a tA) (hb : PW X (.BoolOp .And (b :: rest) pos) tB') : PW X (.BoolOp .And (a :: b :: rest) pos) (tAnd tA tB') := by
  intro wh pins s σ H Q I h
  refine isTrue_and (thn (ha pins s σ H _ I h) fun c s1 ⟨H1, I1, q1⟩ => ?_)
  cases c with
  | true => exact hb wh pins s1 σ H1 Q I1 q1
  | false => exact ⟨H1, I1, q1⟩
theorem pw_or (ha : PT X a tA) (hb : PW X (.BoolOp .Or (b :: rest) pos) tB') : PW X (.BoolOp .Or (a :: b :: rest) pos) (tOr tA tB') := by
  intro wh pins s σ H Q I h
  refine isTrue_or (thn (ha pins s σ H _ I h) fun c s1 ⟨H1, I1, q1⟩ => ?_)
  cases c with
  | true => exact ⟨H1, I1, q1⟩
  | false => exact hb wh pins s1 σ H1 Q I1 q1
theorem pt_not (ha : PT X a tA) : PT X (.UnaryOp .Not a pos) (tNot tA) := by
  intro pins s σ H Q I h
  exact isTrue_not (ha pins s σ H (fun c H1 => Q (!c) H1) I h)

def tAndV (ta tb : TE) : TE := fun σ H Q => ta σ H fun x H1 => ∃ c, x = .bl c ∧ if c = true then tb σ H1 Q else Q (.bl false) H1
def tOrV (ta tb : TE) : TE := fun σ H Q => ta σ H fun x H1 => ∃ c, x = .bl c ∧ if c = true then Q (.bl true) H1 else tb σ H1 Q
def tNotV (ta : TE) : TE := fun σ H Q => ta σ H fun x H1 => ∃ c, x = .bl c ∧ Q (.bl (!c)) H1
theorem pe_one {op} {t : TE} (h : PE X a t) : PE X (.BoolOp op [a] pos) t := fun pins s σ H Q I hw => BoolOp_one (h pins s σ H Q I hw)
theorem pe_and (ha : PE X a ta) (hb : PE X (.BoolOp .And (b :: rest) pos) tb) : PE X (.BoolOp .And (a :: b :: rest) pos) (tAndV ta tb) := by
  intro pins s σ H Q I h
  refine BoolOp_and (thn (ha pins s σ H _ I h) fun v s1 ⟨x, H1, I1, r1, q1⟩ => ?_)
  obtain ⟨c, rfl, q1⟩ := q1
  cases r1
  refine wpAny_truthy_bool ?_
  cases c with
  | true => exact hb pins s1 σ H1 Q I1 q1
  | false => exact ⟨.bl false, H1, I1, rfl, q1⟩
theorem pe_or (ha : PE X a ta) (hb : PE X (.BoolOp .Or (b :: rest) pos) tb) : PE X (.BoolOp .Or (a :: b :: rest) pos) (tOrV ta tb) := by
  intro pins s σ H Q I h
  refine BoolOp_or (thn (ha pins s σ H _ I h) fun v s1 ⟨x, H1, I1, r1, q1⟩ => ?_)
  obtain ⟨c, rfl, q1⟩ := q1
  cases r1
  refine wpAny_truthy_bool ?_
  cases c with
  | false => exact hb pins s1 σ H1 Q I1 q1
  | true => exact ⟨.bl true, H1, I1, rfl, q1⟩
theorem pe_not (ha : PE X a ta) : PE X (.UnaryOp .Not a pos) (tNotV ta) := by
  intro pins s σ H Q I h
  refine UnaryOp_ (thn (ha pins s σ H _ I h) fun v s1 ⟨x, H1, I1, r1, q1⟩ => ?_)
  obtain ⟨c, rfl, q1⟩ := q1
  cases r1
  exact not_of (wpAny_truthy_bool ⟨.bl (!c), H1, I1, rfl, q1⟩)

def tIf (t : TT) (ta tb : TE) : TE := fun σ H Q => t σ H fun c H1 => if c = true then ta σ H1 Q else tb σ H1 Q
theorem pe_ifExp {c : Expr} (hc : PT X c tA) (ha : PE X a ta) (hb : PE X b tb) : PE X (.IfExp c a b pos) (tIf tA ta tb) := by
  intro pins s σ H Q I h
  refine wpAny_IfExp (thn (hc pins s σ H _ I h) fun d s1 ⟨H1, I1, q1⟩ => ?_)
  cases d with
  | true => exact ha pins s1 σ H1 Q I1 q1
  | false => exact hb pins s1 σ H1 Q I1 q1
end
end L2

namespace L2
open PySem PySem.Spec PyProof.Rows

def SqL (K : PySem.W.Frag) (H : Hp) (a : Addr) (xs : List V) : Prop :=
  Rd H a (.lst xs) ∨
    ∃ (o : Obj) (its : Array Value) (n : Nat), K.lookup a = some o ∧ o.cls = .type "list" ∧ o.dict = none ∧ o.data = .seq its n ∧ its.size ≤ sizeLine ∧ Vals xs its.toList
def SqT (K : PySem.W.Frag) (H : Hp) (a : Addr) (xs : List V) : Prop :=
  Rd H a (.tup xs) ∨
    ∃ (o : Obj) (its : Array Value) (n : Nat), K.lookup a = some o ∧ o.cls = .type "tuple" ∧ o.data = .seq its n ∧ its.size ≤ sizeLine ∧ Vals xs its.toList
def absV : Value → Option V
  | .none => some .non
  | .bool b => some (.bl b)
  | .int i _ => some (.int i)
  | .str x _ => some (.str x)
  | .bytes b _ => some (.byt b)
  | .float b _ => some (.flt b)
  | .ref a => some (.ref a)
  | .type n => some (.ty n)
  | _ => none
theorem RelV.abs {x : V} {u : Value} (r : RelV x u) : absV u = some x := by
  cases x with
  | non => cases r; rfl
  | bl _ => cases r; rfl
  | int _ => obtain ⟨t, rfl⟩ := r; rfl
  | str _ => obtain ⟨t, rfl⟩ := r; rfl
  | byt _ => obtain ⟨t, rfl⟩ := r; rfl
  | flt _ => obtain ⟨t, rfl⟩ := r; rfl
  | ref _ => cases r; rfl
  | ty _ => cases r; rfl
theorem RelV.inj {x y : V} {u : Value} (r : RelV x u) (q : RelV y u) : x = y := Option.some.inj (r.abs.symm.trans q.abs)
theorem Vals.inj : ∀ {xs ys : List V} {us : List Value}, Vals xs us → Vals ys us → xs = ys
  | _, _, _, .nil, .nil => rfl
  | _, _, _, .cons r t, .cons r' t' => by rw [r.inj r', Vals.inj t t']
section
variable {X : Cx} {pins : List (Addr × Obj)} {σ : St} {H : Hp} {s : Shared} {a : Addr} {xs ys : List V}
theorem SqL.of {K : PySem.W.Frag} (h : H a = some (.lst xs)) : SqL K H a xs := .inl (.inl h)
theorem SqT.of {K : PySem.W.Frag} (h : H a = some (.tup xs)) : SqT K H a xs := .inl (.inl h)
theorem Inv.list (I : Inv X pins σ H s) (h : SqL X.K H a xs) : ∃ its : List Value, Vals xs its ∧ PlainL s.heap a its.toArray ∧ xs.length ≤ sizeLine := by
  rcases h with h | ⟨o, its, n, hk, hc, hd, hs, hz, r⟩
  · obtain ⟨z, its, n, r, e⟩ := h.ok I.hok
    exact ⟨its, r, ⟨_, n, e, rfl, rfl, rfl⟩, z⟩
  · refine ⟨its.toList, r, ⟨o, n, I.kIn a o hk, hc, hd, by simpa using hs⟩, ?_⟩
    have e := r.length
    simp only [Array.length_toList] at e
    omega
theorem Inv.tuple (I : Inv X pins σ H s) (h : SqT X.K H a xs) : ∃ its : List Value, Vals xs its ∧ IsTup s.heap a its.toArray ∧ xs.length ≤ sizeLine := by
  rcases h with h | ⟨o, its, n, hk, hc, hs, hz, r⟩
  · obtain ⟨z, its, r, p⟩ := h.ok I.hok
    exact ⟨its, r, p, z⟩
  · refine ⟨its.toList, r, ⟨o, I.kIn a o hk, hc, n, by simpa using hs⟩, ?_⟩
    have e := r.length
    simp only [Array.length_toList] at e
    omega
theorem Inv.list_inj (I : Inv X pins σ H s) (h : SqL X.K H a xs) (h' : SqL X.K H a ys) : xs = ys := by
  obtain ⟨its, r, ⟨o, n, e, _, _, d⟩, _⟩ := I.list h
  obtain ⟨its', r', ⟨o', n', e', _, _, d'⟩, _⟩ := I.list h'
  rw [e] at e'; cases e'
  rw [d] at d'
  injection d' with d1 _
  have : its = its' := by simpa using congrArg Array.toList d1
  subst this
  exact r.inj r'
theorem Inv.tuple_inj (I : Inv X pins σ H s) (h : SqT X.K H a xs) (h' : SqT X.K H a ys) : xs = ys := by
  obtain ⟨its, r, ⟨o, e, _, n, d⟩, _⟩ := I.tuple h
  obtain ⟨its', r', ⟨o', e', _, n', d'⟩, _⟩ := I.tuple h'
  rw [e] at e'; cases e'
  rw [d] at d'
  injection d' with d1 _
  have : its = its' := by simpa using congrArg Array.toList d1
  subst this
  exact r.inj r'
end

abbrev Cx.wish (X : Cx) (E : Value → Shared → Prop) : Cx := { X with xe := E }

abbrev Cx.nox (X : Cx) : Cx := X.wish fun _ _ => False
theorem Cx.Ok.wish {X : Cx} (ok : X.Ok) (E : Value → Shared → Prop) : (X.wish E).Ok :=
  ⟨ok.mod, ok.kind, ok.glob, ok.blt, ok.above, ok.inj, ok.has, ok.cab, ok.hd, ok.frames, ok.stk, ok.exf, ok.bs, ok.bsz, ok.noex, ok.exfs, ok.funs, ok.frf⟩
theorem Cx.Ok.unwish {X : Cx} {E : Value → Shared → Prop} (ok : (X.wish E).Ok) : X.Ok :=
  ⟨ok.mod, ok.kind, ok.glob, ok.blt, ok.above, ok.inj, ok.has, ok.cab, ok.hd, ok.frames, ok.stk, ok.exf, ok.bs, ok.bsz, ok.noex, ok.exfs, ok.funs, ok.frf⟩
section
variable {X : Cx} {pins : List (Addr × Obj)} {σ : St} {H : Hp} {s : Shared} {E : Value → Shared → Prop}
theorem Inv.wish (I : Inv X pins σ H s) (E : Value → Shared → Prop) : Inv (X.wish E) pins σ H s := ⟨I.ok.wish E, I.os, I.bare, I.base, I.loc, I.cell, I.free, I.freeC, I.pin, I.hok, I.len⟩
theorem Inv.unwish (I : Inv (X.wish E) pins σ H s) : Inv X pins σ H s := ⟨I.ok.unwish, I.os, I.bare, I.base, I.loc, I.cell, I.free, I.freeC, I.pin, I.hok, I.len⟩
theorem SP.unwish {D : Ends} {f : Flow} {s' : Shared} (h : SP (X.wish E) pins D f s') : SP X pins D f s' := by
  cases f with
  | next => obtain ⟨σ', H', I, q⟩ := h; exact ⟨σ', H', I.unwish, q⟩
  | brk => obtain ⟨σ', H', I, q⟩ := h; exact ⟨σ', H', I.unwish, q⟩
  | cont => obtain ⟨σ', H', I, q⟩ := h; exact ⟨σ', H', I.unwish, q⟩
  | ret u => obtain ⟨v, σ', H', I, r, q⟩ := h; exact ⟨v, σ', H', I.unwish, r, q⟩
theorem PSs.nox {st : List Stmt} {t : TS} (h : PSs X.nox st t) : PSs X st t := fun pins s σ H D I hw =>
  wpAny_mono (h pins s σ H D (I.wish _) hw) (fun _ _ q => q.unwish) fun _ _ z => False.elim z
end

section
variable {X : Cx} {st : Stmt} {rest : List Stmt} {t u : TS} {e : Expr} {te : TE} {pos : Pos}
def tNext : TS := fun D σ H => D.nx σ H
def tSeq (t u : TS) : TS := fun D σ H => t { D with nx := u D } σ H
theorem pss_nil : PSs X [] tNext := fun _ _ σ H _ I h => wpAny_execs_nil ⟨σ, H, I, h⟩
theorem pss_cons (h1 : PS X st t) (h2 : PSs X rest u) : PSs X (st :: rest) (tSeq t u) := by
  intro pins s σ H D I h
  refine wpAny_execs_cons (thn (h1 pins s σ H { D with nx := u D } I h) fun f s1 q => ?_)
  cases f with
  | next =>
    obtain ⟨σ', H', I', q⟩ := q
    exact h2 pins s1 σ' H' D I' q
  | ret v => exact q
  | brk => exact q
  | cont => exact q
theorem pss_one (h1 : PS X st t) : PSs X [st] t := by
  intro pins s σ H D I h
  refine wpAny_execs_cons (thn (h1 pins s σ H D I h) fun f s1 q => ?_)
  cases f with
  | next => exact wpAny_execs_nil q
  | ret v => exact q
  | brk => exact q
  | cont => exact q
def tBreak : TS := fun D σ H => D.bk σ H
def tCont : TS := fun D σ H => D.ct σ H
theorem ps_pass : PS X (.Pass pos) tNext := fun _ _ σ H _ I h => wpAny_Pass ⟨σ, H, I, h⟩
theorem ps_break : PS X (.Break pos) tBreak := fun _ _ σ H _ I h => wpAny_Break ⟨σ, H, I, h⟩
theorem ps_continue : PS X (.Continue pos) tCont := fun _ _ σ H _ I h => wpAny_Continue ⟨σ, H, I, h⟩

theorem Inv.quiet {pins : List (Addr × Obj)} {σ : St} {H : Hp} {s : Shared} (I : Inv X pins σ H s) : interactive X.env = false := by simp [interactive, I.ok.kind]

def tDrop (te : TE) : TS := fun D σ H => te σ H fun _ H1 => D.nx σ H1
theorem ps_expr (he : PE X e te) (hs : swapsWith e none pos.line X.env = pure false := by rfl) : PS X (.Expr e pos) (tDrop te) := by
  intro pins s σ H D I h
  exact wpAny_Expr_any (thn (he pins s σ H _ I h) fun v s1 ⟨x, H1, I1, r1, q1⟩ => ⟨σ, H1, I1, q1⟩) I.quiet hs
def tRet (te : TE) : TS := fun D σ H => te σ H D.rt
theorem ps_ret (he : PE X e te) : PS X (.Return (some e) pos) (tRet te) := by
  intro pins s σ H D I h
  exact wpAny_Return_some (thn (he pins s σ H _ I h) fun v s1 ⟨x, H1, I1, r1, q1⟩ => ⟨x, σ, H1, I1, r1, q1⟩)
def tRetN : TS := fun D _ H => D.rt .non H
theorem ps_retN : PS X (.Return none pos) tRetN := fun _ _ σ H _ I h => wpAny_Return_none ⟨.non, σ, H, I, rfl, h⟩
def tIfS (c : TT) (t u : TS) : TS := fun D σ H => c σ H fun b H1 => if b = true then t D σ H1 else u D σ H1
theorem ps_if {c : Expr} {a b : List Stmt} {tc : TT} (hc : PT X c tc) (ha : PSs X a t) (hb : PSs X b u) : PS X (.If c a b pos) (tIfS tc t u) := by
  intro pins s σ H D I h
  refine wpAny_If (thn (hc pins s σ H _ I h) fun d s1 ⟨H1, I1, q1⟩ => ?_)
  cases d with
  | true => exact ha pins s1 σ H1 D I1 q1
  | false => exact hb pins s1 σ H1 D I1 q1

end

abbrev TG := V → St → Hp → (St → Hp → Prop) → Prop
abbrev TGs := List V → St → Hp → (St → Hp → Prop) → Prop
def PG (X : Cx) (target : Expr) (t : TG) : Prop :=
  ∀ (pins : List (Addr × Obj)) (s : Shared) (σ : St) (H : Hp) (v : V) (u : Value) (Q : St → Hp → Prop), Inv X pins σ H s → RelV v u → t v σ H Q →
    wpAny (model X.prog X.w) X.A (assign target X.env u) (fun _ s' => ∃ σ' H', Inv X pins σ' H' s' ∧ Q σ' H') X.xe s

def PGs (X : Cx) (ts : List Expr) (t : TGs) : Prop :=
  ∀ (pins : List (Addr × Obj)) (s : Shared) (σ : St) (H : Hp) (vs : List V) (us : List Value) (Q : St → Hp → Prop), Inv X pins σ H s → Vals vs us → t vs σ H Q →
    wpAny (model X.prog X.w) X.A (assignInOrder ((assignEach ts X.env).map (·.2)) us) (fun _ s' => ∃ σ' H', Inv X pins σ' H' s' ∧ Q σ' H') X.xe s

section
variable {X : Cx} {pos : Pos}
def gName (i : Nat) : TG := fun v σ H Q => Q (σ.set i (some v)) H
theorem pg_name {i : Nat} {x : Str} (hN : X.N.Nodup) (hi : X.N[i]? = some x) (hx : Loc X.env.scope x) (hf : X.fn x = true ∨ X.env.scope.names.lookup x = some .local := by first | exact .inl rfl | exact .inr rfl | assumption) : PG X (.Name x pos) (gName i) := by
  intro pins s σ H v u Q I r h
  exact wpAny_assign_Name (store_ok I hN hi hx r (fun s' I' => ⟨_, H, I', h⟩) hf)
def gNil : TGs := fun vs σ H Q => vs = [] ∧ Q σ H
def gCons (t : TG) (u : TGs) : TGs := fun vs σ H Q => ∃ v r, vs = v :: r ∧ t v σ H fun σ' H' => u r σ' H' Q
theorem pgs_nil : PGs X [] gNil := by
  intro pins s σ H vs us Q I r h
  obtain ⟨e, h⟩ := h
  subst e
  cases r
  exact assignInOrder_nil ⟨σ, H, I, h⟩
theorem pgs_cons {e : Expr} {es : List Expr} {t : TG} {u : TGs} (h1 : PG X e t) (h2 : PGs X es u)
    (hs : (assignEach (e :: es) X.env).map (·.2) = assign e X.env :: (assignEach es X.env).map (·.2) := by rfl) : PGs X (e :: es) (gCons t u) := by
  intro pins s σ H vs us Q I r h
  obtain ⟨v, vr, e1, h⟩ := h
  subst e1
  cases r with
  | cons r rr =>
    rw [hs]
    refine assignInOrder_cons (thn (h1 pins s σ H _ _ _ I r h) fun _ s1 ⟨σ1, H1, I1, q1⟩ => ?_)
    exact h2 pins s1 σ1 H1 _ _ Q I1 rr q1

def gTup (K : PySem.W.Frag) (n : Nat) (t : TGs) : TG := fun v σ H Q => ∃ a xs, v = .ref a ∧ SqT K H a xs ∧ xs.length = n ∧ t xs σ H Q
theorem pg_tup {es : List Expr} {k : Nat} {t : TGs} {n : Nat} (hc : X.calm = true) (h : PGs X es t)
    (hn : (assignEach es X.env).length = n := by rfl) (hst : (assignEach es X.env).findIdx? (·.1) = none := by rfl) : PG X (.Tuple es k pos) (gTup X.K n t) := by
  intro pins s σ H v u Q I r hw
  obtain ⟨a, xs, e1, hq, hl, hw⟩ := hw
  subst e1
  cases r
  obtain ⟨its, rv, ht, hz⟩ := I.tuple hq
  refine assign_Tuple_tuple (I.ok.hd hc) ht (by simp [hn, ← hl, rv.length]) hst fun h' hx => ?_
  have I1 : Inv X pins σ H { s with heap := h' } := I.kept (t' := s.toks) fun b o e => hx b o (Nat.ne_of_lt (Heap.lt_size e)) e
  exact h pins _ σ H xs _ Q I1 (by simpa using rv) hw

def tAsg (te : TE) (g : TG) : TS := fun D σ H => te σ H fun x H1 => g x σ H1 D.nx
theorem ps_asg {tg e : Expr} {te : TE} {g : TG} (he : PE X e te) (hg : PG X tg g) (hs : swapsWithSole [tg] e pos.line X.env = pure false := by rfl) (hw : swappedStores [tg] e X.env = pure none := by rfl)
    (h1 : (assignEach [tg] X.env).map (·.2) = [assign tg X.env] := by rfl) : PS X (.Assign [tg] e pos) (tAsg te g) := by
  intro pins s σ H D I h
  refine wpAny_Assign_stores (thn (he pins s σ H _ I h) fun v s1 ⟨x, H1, I1, r1, q1⟩ => ?_) hs hw
  rw [h1]
  exact thn (hg pins s1 σ H1 x v _ I1 r1 q1) fun _ s2 q => q

theorem ps_set {i : Nat} {x : Str} {e : Expr} {te : TE} {pos' : Pos} (hN : X.N.Nodup) (hi : X.N[i]? = some x) (hx : Loc X.env.scope x) (he : PE X e te) (hs : swapsWith e (some (.Name x pos')) pos.line X.env = pure false := by rfl) (hf : X.fn x = true ∨ X.env.scope.names.lookup x = some .local := by first | exact .inl rfl | exact .inr rfl | assumption) :
    PS X (.Assign [.Name x pos'] e pos) (tAsg te (gName i)) := by
  intro pins s σ H D I h
  refine wpAny_Assign_Name (thn (he pins s σ H _ I h) fun v s1 ⟨y, H1, I1, r1, q1⟩ => ?_) hs
  exact store_ok I1 hN hi hx r1 (fun s2 I2 => ⟨_, H1, I2, q1⟩) hf

end

section
variable {X : Cx} {pos : Pos}

end

structure It where
  go : Nat → Hp → Prop
  yld : Nat → Hp → V → Hp → Prop
  stop : Nat → Hp → Prop

def FpOk (X : Cx) (pins : List (Addr × Obj)) (H : Hp) (b : Addr) : Prop :=
  H b = none ∧ b ≠ X.env.locals ∧ b ∉ X.fs ∧ (b ∈ X.ex ∨ X.s₀.heap.objs.size ≤ b) ∧ (∀ x c, X.env.cells.lookup x = some c → c ≠ b) ∧ ∀ p ∈ X.pn ++ pins, p.1 ≠ b
theorem Inv.fpOk {X : Cx} {pins : List (Addr × Obj)} {σ : St} {H H' : Hp} {s : Shared} {b : Addr} (I : Inv X pins σ H s) (hb : s.heap.objs.size ≤ b) (hn : H' b = none) : FpOk X pins H' b := by
  refine ⟨hn, Nat.ne_of_gt (Nat.lt_of_lt_of_le I.lt hb), I.nofs hb, .inr (Nat.le_trans I.sz hb), fun x c e z => ?_, fun p hp z => ?_⟩
  · obtain ⟨v, q⟩ := I.cell x c e
    exact absurd (Nat.lt_of_lt_of_le q.lt (by rw [z]; exact hb)) (Nat.lt_irrefl _)
  · exact absurd (Nat.lt_of_lt_of_le (Heap.lt_size (I.pin p hp).1) (by rw [z]; exact hb)) (Nat.lt_irrefl _)
structure Turn (P : Program) (w : World) (K : PySem.W.Frag) (tg : Expr) (J : It) (fp : List Addr) (it : Addr) (tn : Nat → Heap → Prop) : Prop where
  mem : it ∈ fp
  obj : ∀ i h, tn i h → ∀ b ∈ fp, ∃ o, h.get? b = some o ∧ ∀ v, o.data ≠ .cell v
  keep : ∀ i h h', tn i h → (∀ b ∈ fp, ∀ o, h.get? b = some o → h'.get? b = some o) → tn i h'
  item : ∀ (X : Cx), X.prog = P → X.w = w → X.K = K → X.calm = true → ∀ (i : Nat) (pins : List (Addr × Obj)) (s : Shared) (σ : St) (H : Hp) (E : Value → Shared → Prop), Inv X pins σ H s → (∀ b ∈ fp, FpOk X pins H b) → tn i s.heap → J.go i H →
    wpAny (model P w) X.A (pyNext (.ref it)) (fun r s1 => ∃ u, r = some u ∧
      wpAny (model P w) X.A (letOwnedTupleGo tg (.ref it) u) (fun _ s2 => ∃ x H', Inv X pins σ H' s2 ∧ RelV x u ∧ J.yld i H x H' ∧ tn (i + 1) s2.heap ∧ ∀ b ∈ fp, H' b = none) E s1) E s
  done : ∀ (X : Cx), X.prog = P → X.w = w → X.K = K → X.calm = true → ∀ (i : Nat) (pins : List (Addr × Obj)) (s : Shared) (σ : St) (H : Hp) (E : Value → Shared → Prop), Inv X pins σ H s → (∀ b ∈ fp, FpOk X pins H b) → tn i s.heap → J.stop i H →
    wpAny (model P w) X.A (pyNext (.ref it)) (fun r s1 => r = none ∧ Inv X pins σ H s1) E s
  self : ∀ (A : Around) (i : Nat) (s : Shared) (Q : Value → Shared → Prop) (E : Value → Shared → Prop), tn i s.heap → Q (.ref it) s → wpAny (model P w) A (pyIter (.ref it)) Q E s
abbrev TI := St → Hp → (It → Hp → Prop) → Prop

def PIE (X : Cx) (pins : List (Addr × Obj)) (σ : St) (tg : Expr) (R : It → Hp → Prop) (itv : Value) (s2 : Shared) : Prop :=
  ∃ (it : Addr) (fp : List Addr) (tn : Nat → Heap → Prop) (J : It) (H' : Hp), itv = .ref it ∧ Inv X pins σ H' s2 ∧ Turn X.prog X.w X.K tg J fp it tn ∧ tn 0 s2.heap ∧ (∀ b ∈ fp, FpOk X pins H' b) ∧ R J H'
def PI (X : Cx) (tg iter : Expr) (wi : TI) : Prop :=
  ∀ (pins : List (Addr × Obj)) (s : Shared) (σ : St) (H : Hp) (R : It → Hp → Prop), Inv X pins σ H s → wi σ H R →
    wpAny (model X.prog X.w) X.A (eval iter X.env) (fun v s1 => wpAny (model X.prog X.w) X.A (pyIter v) (PIE X pins σ tg R) X.xe s1) X.xe s

theorem go_of {M : Model} {A : Around} {E : Value → Shared → Prop} {s : Shared} {tg : Expr} {it : Addr} {u : Value} {o : Obj} {n : String} {vs : Array Value} {Q : Unit → Shared → Prop} (ho : s.heap.get? it = some o) (hc : o.cls = .type n) (hd : o.data = .fields vs)
    (hn : ["enumerate", "zip", "dict_itemiterator", "dict_reverseitemiterator", "odict_iterator", "itertools.zip_longest", "itertools.pairwise"].contains n = false) (hQ : Q () s) : wpAny M A (letOwnedTupleGo tg (.ref it) u) Q E s := by
  unfold letOwnedTupleGo
  cases tg <;> first
    | exact wpAny_pure hQ
    | (cases u <;> first
        | exact wpAny_pure hQ
        | (refine wpAny_bind (wpAny_load ho ?_)
           rw [hc, hd]
           show wpAny M A (if (["enumerate", "zip", "dict_itemiterator", "dict_reverseitemiterator", "odict_iterator", "itertools.zip_longest", "itertools.pairwise"].contains n && vs[0]? == some (rawInt _)) = true then _ else _) Q E s
           rw [if_neg (by intro h; rw [hn, Bool.false_and] at h; cases h)]
           exact wpAny_pure hQ))

def Itl (K : PySem.W.Frag) (a : Addr) : It :=
  ⟨fun i H => ∃ xs x, SqL K H a xs ∧ xs[i]? = some x, fun i H x H' => H' = H ∧ ∀ xs, SqL K H a xs → xs[i]? = some x, fun i H => ∃ xs, SqL K H a xs ∧ xs.length ≤ i⟩
def Itt (K : PySem.W.Frag) (a : Addr) : It :=
  ⟨fun i H => ∃ xs x, SqT K H a xs ∧ xs[i]? = some x, fun i H x H' => H' = H ∧ ∀ xs, SqT K H a xs → xs[i]? = some x, fun i H => ∃ xs, SqT K H a xs ∧ xs.length ≤ i⟩

def Itr (lo : Int) (n : Nat) : It := ⟨fun i _ => i < n, fun i H x H' => H' = H ∧ x = .int (lo + i), fun i _ => n ≤ i⟩
theorem turn_list {P : Program} {w : World} {K : PySem.W.Frag} {tg : Expr} (a it : Addr) : Turn P w K tg (Itl K a) [it] it (fun i h => h.IsListIter it a i) where
  mem := by simp
  obj := fun i h st b hb => by
    have e : b = it := by simpa using hb
    subst e
    obtain ⟨o, e, c, d⟩ := st
    exact ⟨o, e, fun v z => by rw [d] at z; cases z⟩
  keep := fun i h h' st k => st.at fun o e => k it (by simp) o e
  item := by
    intro X hP hw hK hc i pins s σ H E I hf st hg
    subst hP hw hK
    obtain ⟨xs, x, hq, hx⟩ := hg
    obtain ⟨its, rv, p, hz⟩ := I.list hq
    obtain ⟨u, hu, ru⟩ := rv.get hx
    obtain ⟨f0, f1, f2, f3, f4, f5⟩ := hf it (by simp)
    refine wpAny_pyNext_list_item st p.isList (x := u) (by simpa using hu) fun h' st' sb => ?_
    have I1 : Inv X pins σ H { s with heap := h' } := I.turned (t' := s.toks) (fun b o hb e => (sb.2 b hb).trans e) f0 f1 f3 f4 f5
    obtain ⟨o, e, c, d⟩ := id st'
    exact ⟨u, rfl, go_of (s := { s with heap := h' }) e c d (by decide) ⟨x, H, I1, ru, ⟨rfl, fun ys hy => by rw [I.list_inj hy hq]; exact hx⟩, st', fun b hb => (hf b hb).1⟩⟩
  done := by
    intro X hP hw hK hc i pins s σ H E I hf st hg
    subst hP hw hK
    obtain ⟨xs, hq, hx⟩ := hg
    obtain ⟨its, rv, p, hz⟩ := I.list hq
    obtain ⟨f0, f1, f2, f3, f4, f5⟩ := hf it (by simp)
    have hl := rv.length
    exact wpAny_pyNext_list_end (I.ok.hd hc) st p.isList (by simp; omega) fun h' eb => ⟨rfl, I.turned (t' := s.toks) (fun b o hb e => eb b o hb e) f0 f1 f3 f4 f5⟩
  self := fun _ _ _ _ _ st h => wpAny_pyIter_listiter st h
theorem turn_tuple {P : Program} {w : World} {K : PySem.W.Frag} {tg : Expr} (a it : Addr) : Turn P w K tg (Itt K a) [it] it (fun i h => h.IsTupleIter it a i) where
  mem := by simp
  obj := fun i h st b hb => by
    have e : b = it := by simpa using hb
    subst e
    obtain ⟨o, e, c, d⟩ := st
    exact ⟨o, e, fun v z => by rw [d] at z; cases z⟩
  keep := fun i h h' st k => st.at fun o e => k it (by simp) o e
  item := by
    intro X hP hw hK hc i pins s σ H E I hf st hg
    subst hP hw hK
    obtain ⟨xs, x, hq, hx⟩ := hg
    obtain ⟨its, rv, p, hz⟩ := I.tuple hq
    obtain ⟨u, hu, ru⟩ := rv.get hx
    obtain ⟨f0, f1, f2, f3, f4, f5⟩ := hf it (by simp)
    refine wpAny_pyNext_tuple_item st (show s.heap.IsTuple a its.toArray from p) (x := u) (by simpa using hu) fun h' st' sb => ?_
    have I1 : Inv X pins σ H { s with heap := h' } := I.turned (t' := s.toks) (fun b o hb e => (sb.2 b hb).trans e) f0 f1 f3 f4 f5
    obtain ⟨o, e, c, d⟩ := id st'
    exact ⟨u, rfl, go_of (s := { s with heap := h' }) e c d (by decide) ⟨x, H, I1, ru, ⟨rfl, fun ys hy => by rw [I.tuple_inj hy hq]; exact hx⟩, st', fun b hb => (hf b hb).1⟩⟩
  done := by
    intro X hP hw hK hc i pins s σ H E I hf st hg
    subst hP hw hK
    obtain ⟨xs, hq, hx⟩ := hg
    obtain ⟨its, rv, p, hz⟩ := I.tuple hq
    obtain ⟨f0, f1, f2, f3, f4, f5⟩ := hf it (by simp)
    have hl := rv.length
    exact wpAny_pyNext_tuple_end (I.ok.hd hc) st (show s.heap.IsTuple a its.toArray from p) (by simp; omega) fun h' eb => ⟨rfl, I.turned (t' := s.toks) (fun b o hb e => eb b o hb e) f0 f1 f3 f4 f5⟩
  self := fun _ _ _ _ _ st h => wpAny_pyIter_tupleiter st h
theorem turn_range {P : Program} {w : World} {K : PySem.W.Frag} {tg : Expr} (it : Addr) (lo : Int) (n : Nat) : Turn P w K tg (Itr lo n) [it] it (fun i h => IsRangeIter h it (lo + (i : Nat) * 1) ((n : Int) - (i : Nat)) 1) where
  mem := by simp
  obj := fun i h st b hb => by
    have e : b = it := by simpa using hb
    subst e
    exact ⟨_, st, fun v z => by
      have z' : Data.fields _ = Data.cell v := z
      cases z'⟩
  keep := fun i h h' st k => k it (by simp) _ st
  item := by
    intro X hP hw hK hc i pins s σ H E I hf st hg
    subst hP hw hK
    obtain ⟨f0, f1, f2, f3, f4, f5⟩ := hf it (by simp)
    have W := Walks.range (prog := X.prog) (w := X.w) (I.ok.hd hc) it lo 1 n
    refine W.item i s _ _ hg st fun v h' tk hv st' kk => ?_
    obtain ⟨t, rfl⟩ := hv
    have I1 : Inv X pins σ H { s with heap := h', toks := tk } := I.turned (fun b o hb e => kk b o (by simpa using hb) e) f0 f1 f3 f4 f5
    refine ⟨_, rfl, go_of (s := { s with heap := h', toks := tk }) (n := "range_iterator") st' rfl rfl (by decide) ⟨.int (lo + i), H, I1, ⟨t, ?_⟩, ⟨rfl, rfl⟩, st', fun b hb => (hf b hb).1⟩⟩
    rw [Int.mul_one]
  done := by
    intro X hP hw hK hc i pins s σ H E I hf st hg
    subst hP hw hK
    obtain ⟨f0, f1, f2, f3, f4, f5⟩ := hf it (by simp)
    exact wpAny_pyNext_range_end (I.ok.hd hc) st (by have : n ≤ i := hg; omega) fun h' eb => ⟨rfl, I.turned (t' := s.toks) (fun b o hb e => eb b o hb e) f0 f1 f3 f4 f5⟩
  self := fun _ _ _ _ _ st h => wpAny_pyIter_rangeiter st h
end L2

namespace L2
open PySem PySem.Spec PyProof.Rows
section
variable {X : Cx} {tg : Expr}
def iList (K : PySem.W.Frag) (tl : TE) : TI := fun σ H R => tl σ H fun x H1 => ∃ a, x = .ref a ∧ (∃ xs, SqL K H1 a xs) ∧ R (Itl K a) H1
def iTup (K : PySem.W.Frag) (tl : TE) : TI := fun σ H R => tl σ H fun x H1 => ∃ a, x = .ref a ∧ (∃ xs, SqT K H1 a xs) ∧ R (Itt K a) H1
theorem pi_list {l : Expr} {tl : TE} (hl : PE X l tl) : PI X tg l (iList X.K tl) := by
  intro pins s σ H R I h
  refine thn (hl pins s σ H _ I h) fun v s1 ⟨x, H1, I1, r1, q1⟩ => ?_
  obtain ⟨a, e, ⟨xs, hq⟩, q⟩ := q1
  subst e
  cases r1
  obtain ⟨its, rv, p, hz⟩ := I1.list hq
  refine wpAny_pyIter_list p.isList ?_
  refine ⟨s1.heap.objs.size, [s1.heap.objs.size], _, _, H1, rfl, I1.kept (t' := s1.toks) fun b o e => Heap.get?_push_of_some _ e, turn_list a _, ⟨_, Heap.get?_push_size _ rfl, rfl, rfl⟩, fun b hb => ?_, q⟩
  have e : b = s1.heap.objs.size := by simpa using hb
  subst e
  exact I1.fpOk (Nat.le_refl _) (I1.hok.fresh (Nat.le_refl _))
theorem pi_tup {l : Expr} {tl : TE} (hl : PE X l tl) : PI X tg l (iTup X.K tl) := by
  intro pins s σ H R I h
  refine thn (hl pins s σ H _ I h) fun v s1 ⟨x, H1, I1, r1, q1⟩ => ?_
  obtain ⟨a, e, ⟨xs, hq⟩, q⟩ := q1
  subst e
  cases r1
  obtain ⟨its, rv, p, hz⟩ := I1.tuple hq
  refine wpAny_pyIter_tuple (show s1.heap.IsTuple a its.toArray from p) ?_
  refine ⟨s1.heap.objs.size, [s1.heap.objs.size], _, _, H1, rfl, I1.kept (t' := s1.toks) fun b o e => Heap.get?_push_of_some _ e, turn_tuple a _, ⟨_, Heap.get?_push_size _ rfl, rfl, rfl⟩, fun b hb => ?_, q⟩
  have e : b = s1.heap.objs.size := by simpa using hb
  subst e
  exact I1.fpOk (Nat.le_refl _) (I1.hok.fresh (Nat.le_refl _))

theorem range_it {pins : List (Addr × Obj)} {σ : St} {H : Hp} {s : Shared} {R : It → Hp → Prop} {E : Value → Shared → Prop} {lo hi : Int} {t u v : Tok} {tk : Nat} (I : Inv X pins σ H s) (h1 : -(2 ^ 62) ≤ lo) (h2 : lo < 2 ^ 62) (h3 : -(2 ^ 62) ≤ hi) (h4 : hi < 2 ^ 62)
    (q : R (Itr lo (hi - lo).toNat) H) : wpAny (model X.prog X.w) X.A (pyIter (.ref s.heap.objs.size)) (PIE X pins σ tg R) E { s with heap := s.heap.push { cls := .type "range", data := .fields #[.int lo t, .int hi u, .int 1 v] }, toks := tk } := by
  refine wpAny_pyIter_range (IsRange.new ..) (small_one h1 h2 h3 h4) ?_
  have I1 : Inv X pins σ H { s with heap := s.heap.push { cls := .type "range", data := .fields #[.int lo t, .int hi u, .int 1 v] }, toks := tk } := I.kept fun b o e => Heap.get?_push_of_some _ e
  refine ⟨(s.heap.push { cls := .type "range", data := .fields #[.int lo t, .int hi u, .int 1 v] }).objs.size, [(s.heap.push { cls := .type "range", data := .fields #[.int lo t, .int hi u, .int 1 v] }).objs.size], _, _, H, rfl,
    I1.kept (t' := tk) fun b o e => Heap.get?_push_of_some _ e, turn_range _ lo (hi - lo).toNat, ?_, fun b hb => ?_, q⟩
  · have e1 : lo + ((0 : Nat) : Int) * 1 = lo := by simp
    have e2 : (((hi - lo).toNat : Nat) : Int) - ((0 : Nat) : Int) = Builtin.Range.rangeSize lo hi 1 := by rw [rangeSize_one]; split <;> omega
    show IsRangeIter _ _ (lo + ((0 : Nat) : Int) * 1) ((((hi - lo).toNat : Nat) : Int) - ((0 : Nat) : Int)) 1
    rw [e1, e2]
    exact Heap.get?_push_size _ rfl
  · have e : b = (s.heap.push { cls := .type "range", data := .fields #[.int lo t, .int hi u, .int 1 v] }).objs.size := by simpa using hb
    subst e
    exact I1.fpOk (Nat.le_refl _) (I1.hok.fresh (Nat.le_refl _))
def iRng1 (ta : TA) : TI := fun σ H R => ta σ H fun vs H1 => ∃ j : Int, vs = [.int j] ∧ -(2 ^ 62) ≤ j ∧ j < 2 ^ 62 ∧ R (Itr 0 j.toNat) H1
def iRng2 (ta : TA) : TI := fun σ H R => ta σ H fun vs H1 => ∃ i j : Int, vs = [.int i, .int j] ∧ (-(2 ^ 62) ≤ i ∧ i < 2 ^ 62 ∧ -(2 ^ 62) ≤ j ∧ j < 2 ^ 62) ∧ R (Itr i (j - i).toNat) H1
theorem pi_range1 {a : Expr} {ta : TA} {p pos : Pos} (hg : Gl X "range") (hm : X.mg "range" = none) (ha : PA X [a] ta) (hs : starEach [a] X.env = [(false, eval a X.env)] := by rfl) : PI X tg (.Call (.Name "range" p) [a] [] pos) (iRng1 ta) := by
  intro pins s σ H R I h
  refine Call_ (ld_blt I hg hm boot_range (PyProof.Rows.callWith_type1 (thn (ha pos pins s σ H _ I h) fun us s1 ⟨vs, H1, I1, r1, q1⟩ => ?_) hs rfl))
  obtain ⟨j, e, q1, q2, q⟩ := q1
  subst e
  cases r1 with
  | cons r rr =>
    cases rr
    obtain ⟨t, rfl⟩ := r
    exact call_range_1 (range_it I1 (by omega) (by omega) q1 q2 (by simpa using q))
theorem pi_range2 {a b : Expr} {ta : TA} {p pos : Pos} (hg : Gl X "range") (hm : X.mg "range" = none) (ha : PA X [a, b] ta) (hs : starEach [a, b] X.env = [(false, eval a X.env), (false, eval b X.env)] := by rfl) (hs2 : starEach [b] X.env = [(false, eval b X.env)] := by rfl) :
    PI X tg (.Call (.Name "range" p) [a, b] [] pos) (iRng2 ta) := by
  intro pins s σ H R I h
  refine Call_ (ld_blt I hg hm boot_range (PyProof.Rows.callWith_type1 (thn (ha pos pins s σ H _ I h) fun us s1 ⟨vs, H1, I1, r1, q1⟩ => ?_) (by rw [hs, hs2]) (by rw [hs2]; rfl)))
  obtain ⟨i, j, e, ⟨q1, q2, q3, q4⟩, q⟩ := q1
  subst e
  cases r1 with
  | cons r rr =>
    cases rr with
    | cons r' rr =>
      cases rr
      obtain ⟨t, rfl⟩ := r
      obtain ⟨t', rfl⟩ := r'
      exact call_range_2 (range_it I1 q1 q2 q3 q4 q)

def tFor (wi : TI) (g : TG) (tb : TS) : TS := fun D σ H => wi σ H fun J H1 => ∃ W : Nat → Nat → St → Hp → Prop, (∃ m, W 0 m σ H1) ∧ ∀ i m σ H, W i m σ H →
  (J.stop i H ∧ D.nx σ H) ∨ (J.go i H ∧ ∃ N : St → Hp → Prop, (∀ σ' H', N σ' H' → ∃ m', m' < m ∧ W (i + 1) m' σ' H') ∧ ∀ x H', J.yld i H x H' → g x σ H' fun σ2 H2 => tb { D with nx := N, ct := N, bk := D.nx } σ2 H2)

def pinsAt (fp : List Addr) (h : Heap) : List (Addr × Obj) := fp.filterMap fun b => (h.get? b).map fun o => (b, o)
theorem mem_pinsAt {fp : List Addr} {h : Heap} {b : Addr} {o : Obj} (hb : b ∈ fp) (e : h.get? b = some o) : (b, o) ∈ pinsAt fp h := List.mem_filterMap.mpr ⟨b, hb, by rw [e]; rfl⟩
theorem of_pinsAt {fp : List Addr} {h : Heap} {p : Addr × Obj} (hp : p ∈ pinsAt fp h) : p.1 ∈ fp ∧ h.get? p.1 = some p.2 := by
  obtain ⟨b, hb, e⟩ := List.mem_filterMap.mp hp
  cases q : h.get? b with
  | none => rw [q] at e; cases e
  | some o =>
    rw [q] at e
    have e' : (b, o) = p := Option.some.inj e
    subst e'
    exact ⟨hb, q⟩
theorem Inv.pinned {pins : List (Addr × Obj)} {σ : St} {H : Hp} {s : Shared} {fp : List Addr} (I : Inv X pins σ H s) (hf : ∀ b ∈ fp, FpOk X pins H b) (ho : ∀ b ∈ fp, ∃ o, s.heap.get? b = some o ∧ ∀ v, o.data ≠ .cell v) : Inv X (pins ++ pinsAt fp s.heap) σ H s :=
  I.pins_of fun p hp => (List.mem_append.mp hp).elim (fun z => I.pin p (List.mem_append_right _ z)) fun z => by
    obtain ⟨hb, e⟩ := of_pinsAt z
    obtain ⟨f0, f1, f2, _⟩ := hf p.1 hb
    obtain ⟨o, e', d⟩ := ho p.1 hb
    rw [e] at e'; cases e'
    exact ⟨e, f0, f1, f2, d⟩
theorem Inv.unpinned {pins pl : List (Addr × Obj)} {σ : St} {H : Hp} {s : Shared} (I : Inv X (pins ++ pl) σ H s) : Inv X pins σ H s := I.pins_of fun p hp => I.pin p (List.mem_append_right _ (List.mem_append_left _ hp))
theorem ps_for {iter : Expr} {body : List Stmt} {wi : TI} {g : TG} {tb : TS} {pos : Pos} (hp : PassesOwn (model X.prog X.w) X.A X.env X.xe) (hc : X.calm = true) (hi : PI X tg iter wi) (hg : PG X tg g) (hb : PSs X body tb)
    (hs : ∀ x, foldedSetIterable iter X.env x = pure x := by intro _; rfl) : PS X (.For tg iter body [] pos) (tFor wi g tb) := by
  intro pins s σ H D I h
  refine wpAny_For (thn (hi pins s σ H _ I h) fun v s1 h1 => thn h1 fun itv s2 h2 => ?_) hs
  obtain ⟨it, fp, tn, J, H2, e, I2, T, st2, f2, W, ⟨m0, w0⟩, turn⟩ := h2
  subst e
  have stat : ∀ {H' : Hp}, (∀ b ∈ fp, H' b = none) → ∀ b ∈ fp, FpOk X pins H' b := fun hn b hb => ⟨hn b hb, (f2 b hb).2⟩
  refine codeAny_forLoop_any (fun n s' => ∃ i σ' H', Inv X pins σ' H' s' ∧ tn i s'.heap ∧ (∀ b ∈ fp, H' b = none) ∧ W i n σ' H') ?_ m0 ⟨0, σ, H2, I2, st2, fun b hb => (f2 b hb).1, w0⟩
  rintro n s3 ⟨i, σ3, H3, I3, st3, fr3, w3⟩
  rcases turn i n σ3 H3 w3 with ⟨stop, qn⟩ | ⟨go, N, hN, step⟩
  · refine wpAny_passesOwn hp (thn (T.done X rfl rfl rfl hc i pins s3 σ3 H3 X.xe I3 (stat fr3) st3 stop) fun r s4 ⟨hr, I4⟩ => ?_)
    subst hr
    exact wpAny_execs_nil ⟨σ3, H3, I4, qn⟩
  · refine wpAny_passesOwn hp (thn (T.item X rfl rfl rfl hc i pins s3 σ3 H3 X.xe I3 (stat fr3) st3 go) fun r s4 ⟨u, hr, h4⟩ => ?_)
    subst hr
    refine wpAny_passesOwn hp (thn h4 fun _ s5 ⟨x, H5, I5, r5, y5, st5, fr5⟩ => ?_)
    have I5' := I5.pinned (stat fr5) (T.obj _ _ st5)
    refine wpAny_passesOwn hp (thn (hg _ s5 σ3 H5 x u _ I5' r5 (step x H5 y5)) fun _ s6 ⟨σ6, H6, I6, q6⟩ => ?_)
    refine wpAny_passesOwn hp (thn (hb _ s6 σ6 H6 _ I6 q6) fun f s7 q7 => ?_)
    have again : ∀ {σ7 : St} {H7 : Hp}, Inv X (pins ++ pinsAt fp s5.heap) σ7 H7 s7 → N σ7 H7 → ∃ m, m < n ∧ ∃ i σ' H', Inv X pins σ' H' s7 ∧ tn i s7.heap ∧ (∀ b ∈ fp, H' b = none) ∧ W i m σ' H' := fun {σ7 H7} I7 n7 => by
      obtain ⟨m', hm, w7⟩ := hN σ7 H7 n7
      refine ⟨m', hm, i + 1, σ7, H7, I7.unpinned, T.keep _ _ _ st5 fun b hb o e => (I7.pin (b, o) (List.mem_append_right _ (List.mem_append_right _ (mem_pinsAt hb e)))).1, fun b hb => ?_, w7⟩
      obtain ⟨o, e, d⟩ := T.obj _ _ st5 b hb
      exact (I7.pin (b, o) (List.mem_append_right _ (List.mem_append_right _ (mem_pinsAt hb e)))).2.1
    cases f with
    | next => obtain ⟨σ7, H7, I7, n7⟩ := q7; exact again I7 n7
    | cont => obtain ⟨σ7, H7, I7, n7⟩ := q7; exact again I7 n7
    | brk => obtain ⟨σ7, H7, I7, q7⟩ := q7; exact ⟨σ7, H7, I7.unpinned, q7⟩
    | ret v => obtain ⟨x7, σ7, H7, I7, r7, q7⟩ := q7; exact ⟨x7, σ7, H7, I7.unpinned, r7, q7⟩
end

end L2

namespace L2
open PySem PySem.Spec PyProof.Rows

abbrev R2 := V → V → Hp → VK → Prop

def OpR (X : Cx) (f : Value → Value → Sem Value) (r : R2) : Prop :=
  ∀ (pins : List (Addr × Obj)) (s : Shared) (σ : St) (H : Hp) (x y : V) (v u : Value) (Q : VK), Inv X pins σ H s → RelV x v → RelV y u → r x y H Q →
    wpAny (model X.prog X.w) X.A (f v u) (EP X pins σ Q) X.xe s

def UnR (X : Cx) (f : Value → Sem Value) (r : V → Hp → VK → Prop) : Prop :=
  ∀ (pins : List (Addr × Obj)) (s : Shared) (σ : St) (H : Hp) (x : V) (v : Value) (Q : VK), Inv X pins σ H s → RelV x v → r x H Q →
    wpAny (model X.prog X.w) X.A (f v) (EP X pins σ Q) X.xe s

def CallR (X : Cx) (f : Value) (r : List V → Hp → VK → Prop) : Prop :=
  ∀ (pins : List (Addr × Obj)) (s : Shared) (σ : St) (H : Hp) (xs : List V) (us : List Value) (Q : VK), Inv X pins σ H s → Vals xs us → r xs H Q →
    wpAny (model X.prog X.w) X.A (call f us) (EP X pins σ Q) X.xe s

def tOp (r : R2) (ta tb : TE) : TE := fun σ H Q => ta σ H fun x H1 => tb σ H1 fun y H2 => r x y H2 Q
def tUn (r : V → Hp → VK → Prop) (ta : TE) : TE := fun σ H Q => ta σ H fun x H1 => r x H1 Q

def rI (C : Int → Int → Prop) (g : Int → Int → V) : R2 := fun x y H Q => ∃ i j, x = .int i ∧ y = .int j ∧ C i j ∧ Q (g i j) H
def rI0 (g : Int → Int → V) : R2 := fun x y H Q => ∃ i j, x = .int i ∧ y = .int j ∧ Q (g i j) H
def rU (g : Int → V) : V → Hp → VK → Prop := fun x H Q => ∃ i, x = .int i ∧ Q (g i) H

section
variable {X : Cx} {a b c : Expr} {ta tb tc : TE} {pos : Pos}

theorem binT (ha : PE X a ta) (hb : PE X b tb) {pins : List (Addr × Obj)} {s : Shared} {σ : St} {H : Hp} {R : V → V → Hp → Prop} (I : Inv X pins σ H s)
    (h : ta σ H fun x H1 => tb σ H1 fun y H2 => R x y H2) {Q : Value → Shared → Prop} {f : Value → Value → Sem Value}
    (hf : ∀ v u s2 x y H2, Inv X pins σ H2 s2 → RelV x v → RelV y u → R x y H2 → wpAny (model X.prog X.w) X.A (f v u) Q X.xe s2) :
    wpAny (model X.prog X.w) X.A (eval a X.env) (fun v s₁ => wpAny (model X.prog X.w) X.A (eval b X.env) (fun u s₂ => wpAny (model X.prog X.w) X.A (f v u) Q X.xe s₂) X.xe s₁) X.xe s := by
  refine thn (ha pins s σ H _ I h) fun v s1 ⟨x, H1, I1, r1, q1⟩ => ?_
  refine thn (hb pins s1 σ H1 _ I1 q1) fun u s2 ⟨y, H2, I2, r2, q2⟩ => ?_
  exact hf v u s2 x y H2 I2 r1 r2 q2

theorem pe_op {op : Operator} {r : R2} (ho : OpR X (binaryOp op) r) (ha : PE X a ta) (hb : PE X b tb) : PE X (.BinOp a op b pos) (tOp r ta tb) := by
  intro pins s σ H Q I h
  exact wpAny_BinOp (binT ha hb I h fun v u s2 x y H2 I2 rx ry q => ho pins s2 σ H2 x y v u Q I2 rx ry q)
theorem pe_un {op : UnaryOp} {r : V → Hp → VK → Prop} (ho : UnR X (unaryOp op) r) (ha : PE X a ta) : PE X (.UnaryOp op a pos) (tUn r ta) := by
  intro pins s σ H Q I h
  exact UnaryOp_ (thn (ha pins s σ H _ I h) fun v s1 ⟨x, H1, I1, r1, q1⟩ => ho pins s1 σ H1 x v Q I1 r1 q1)

theorem opI {f : Value → Value → Sem Value} {C : Int → Int → Prop} {g : Int → Int → Int}
    (rule : ∀ (i j : Int) (t u : Tok) (s : Shared) (Q : Value → Shared → Prop) (E : Value → Shared → Prop), C i j → Q (.int (g i j) s.toks) { s with toks := s.toks + 1 } → wpAny (model X.prog X.w) X.A (f (.int i t) (.int j u)) Q E s) :
    OpR X f (rI C fun i j => .int (g i j)) := by
  intro pins s σ H x y v u Q I rx ry h
  obtain ⟨i, j, rfl, rfl, hc, q⟩ := h
  obtain ⟨t, rfl⟩ := rx
  obtain ⟨t', rfl⟩ := ry
  exact rule i j t t' s _ _ hc ⟨.int (g i j), H, I.tok _, ⟨_, rfl⟩, q⟩
theorem opI0 {f : Value → Value → Sem Value} {g : Int → Int → Int}
    (rule : ∀ (i j : Int) (t u : Tok) (s : Shared) (Q : Value → Shared → Prop) (E : Value → Shared → Prop), Q (.int (g i j) s.toks) { s with toks := s.toks + 1 } → wpAny (model X.prog X.w) X.A (f (.int i t) (.int j u)) Q E s) :
    OpR X f (rI0 fun i j => .int (g i j)) := by
  intro pins s σ H x y v u Q I rx ry h
  obtain ⟨i, j, rfl, rfl, q⟩ := h
  obtain ⟨t, rfl⟩ := rx
  obtain ⟨t', rfl⟩ := ry
  exact rule i j t t' s _ _ ⟨.int (g i j), H, I.tok _, ⟨_, rfl⟩, q⟩
theorem opB0 {f : Value → Value → Sem Value} {g : Int → Int → Bool}
    (rule : ∀ (i j : Int) (t u : Tok) (s : Shared) (Q : Value → Shared → Prop) (E : Value → Shared → Prop), Q (.bool (g i j)) s → wpAny (model X.prog X.w) X.A (f (.int i t) (.int j u)) Q E s) :
    OpR X f (rI0 fun i j => .bl (g i j)) := by
  intro pins s σ H x y v u Q I rx ry h
  obtain ⟨i, j, rfl, rfl, q⟩ := h
  obtain ⟨t, rfl⟩ := rx
  obtain ⟨t', rfl⟩ := ry
  exact rule i j t t' s _ _ ⟨.bl (g i j), H, I, rfl, q⟩

def CDiv (i j : Int) : Prop := 0 < j ∧ j < 1073741824
def CMul (i j : Int) : Prop := (-(2 ^ 64) < i ∧ i < 2 ^ 64) ∨ (-(2 ^ 64) < j ∧ j < 2 ^ 64)
theorem CMul.ok {i j : Int} (h : CMul i j) : IntMulOk i j := by
  rcases h with ⟨h1, h2⟩ | ⟨h1, h2⟩
  · exact .of_left (intBits_le_64 h1 h2)
  · exact .of_right (intBits_le_64 h1 h2)
theorem op_add : OpR X (binaryOp .Add) (rI0 fun i j => .int (i + j)) := opI0 fun _ _ _ _ _ _ _ q => add_int q
theorem op_sub : OpR X (binaryOp .Sub) (rI0 fun i j => .int (i - j)) := opI0 fun _ _ _ _ _ _ _ q => sub_int q
theorem op_mul : OpR X (binaryOp .Mult) (rI CMul fun i j => .int (i * j)) := opI fun _ _ _ _ _ _ _ hc q => mul_int q hc.ok

theorem op_fdiv : OpR X (binaryOp .FloorDiv) (rI CDiv fun i j => .int (i / j)) := opI fun i j _ _ _ _ _ hc q => by
  have h1 : (0 : Int) < j := hc.1
  have h2 : j < 1073741824 := hc.2
  exact floordiv_int (by omega) (by rw [Int.fdiv_eq_ediv_of_nonneg i (by omega)]; exact q) (.inl (PyProof.noPylong_small (by omega)))
theorem op_mod : OpR X (binaryOp .Mod) (rI (fun _ j => 0 < j) fun i j => .int (i % j)) := opI fun i j _ _ _ _ _ hc q => by
  have h1 : (0 : Int) < j := hc
  exact mod_int' (by omega) (by rw [Int.fmod_eq_emod_of_nonneg i (by omega)]; exact q)
theorem unI {f : Value → Sem Value} {g : Int → Int}
    (rule : ∀ (i : Int) (t : Tok) (s : Shared) (Q : Value → Shared → Prop) (E : Value → Shared → Prop), Q (.int (g i) s.toks) { s with toks := s.toks + 1 } → wpAny (model X.prog X.w) X.A (f (.int i t)) Q E s) :
    UnR X f (rU fun i => .int (g i)) := by
  intro pins s σ H x v Q I rx h
  obtain ⟨i, rfl, q⟩ := h
  obtain ⟨t, rfl⟩ := rx
  exact rule i t s _ _ ⟨.int (g i), H, I.tok _, ⟨_, rfl⟩, q⟩
theorem un_neg : UnR X (unaryOp .USub) (rU fun i => .int (-i)) := unI fun _ _ _ _ _ q => neg_int q
end

section
variable {X : Cx} {a b c : Expr} {ta tb tc : TE} {pos : Pos}
theorem fin_bl {pins : List (Addr × Obj)} {σ : St} {H : Hp} {s : Shared} {Q : VK} {k k' : Bool} (I : Inv X pins σ H s) (q : Q (.bl k) H) (e : k = k') : EP X pins σ Q (.bool k') s := by
  subst e
  exact ⟨.bl k, H, I, rfl, q⟩
theorem op_lt : OpR X (compareOp .Lt) (rI0 fun i j => .bl (decide (i < j))) := opB0 fun _ _ _ _ _ _ _ q => lt_int q
theorem op_lt_str : OpR X (compareOp .Lt) (fun x y H Q => ∃ i j, x = .str i ∧ y = .str j ∧ Q (.bl (decide (i.cps.toList < j.cps.toList))) H) := by
  intro pins s σ H x y v u Q I rx ry h
  obtain ⟨i, j, rfl, rfl, q⟩ := h
  obtain ⟨t, rfl⟩ := rx
  obtain ⟨t', rfl⟩ := ry
  exact lt_str (fin_bl I q rfl)

theorem nomark (b : Expr) {op : CmpOp} (h : op ≠ .In := by decide) (h2 : op ≠ .NotIn := by decide) : behindInMarks op b = false := by
  have e1 : (op == CmpOp.In) = false := by cases op <;> first | rfl | exact absurd rfl h
  have e2 : (op == CmpOp.NotIn) = false := by cases op <;> first | rfl | exact absurd rfl h2
  cases b <;> simp [behindInMarks, e1, e2]

theorem pe_cmpR {op : CmpOp} {r : R2} (ho : OpR X (compareOp op) r) (ha : PE X a ta) (hb : PE X b tb) (hm : behindInMarks op b = false) : PE X (.Compare a [op] [b] pos) (tOp r ta tb) := by
  intro pins s σ H Q I h
  exact wpAny_Compare1 (binT ha hb I h fun v u s2 x y H2 I2 rx ry q => ho pins s2 σ H2 x y v u Q I2 rx ry q) hm

def tTest (t : TE) : TT := fun σ H Q => t σ H fun x H' => ∃ k, x = .bl k ∧ Q k H'
theorem pt_cmpR {op : CmpOp} {r : R2} (ho : OpR X (compareOp op) r) (ha : PE X a ta) (hb : PE X b tb) (hm : behindInMarks op b = false) : PT X (.Compare a [op] [b] pos) (tTest (tOp r ta tb)) := by
  intro pins s σ H Q I h
  refine wpAny_isTrue_Compare1 (thn (ha pins s σ H _ I h) fun v s1 ⟨x, H1, I1, r1, q1⟩ => thn (hb pins s1 σ H1 _ I1 q1) fun u s2 ⟨y, H2, I2, r2, q2⟩ =>
    thn (ho pins s2 σ H2 x y v u _ I2 r1 r2 q2) fun c s3 ⟨z, H3, I3, r3, k, e, q3⟩ => ?_) hm
  subst e
  cases r3
  exact wpAny_truthy_bool ⟨H3, I3, q3⟩

theorem line63 : (sizeLine : Nat) < 2 ^ 63 := by rw [sizeLine_eq]; decide
theorem op_add_str : OpR X (binaryOp .Add) (fun x y H Q => ∃ i j, x = .str i ∧ y = .str j ∧ i.length + j.length ≤ sizeLine ∧ Q (.str (i ++ j)) H) := by
  intro pins s σ H x y v u Q I rx ry h
  obtain ⟨i, j, rfl, rfl, hz, q⟩ := h
  obtain ⟨t, rfl⟩ := rx
  obtain ⟨t', rfl⟩ := ry
  exact add_str (fun t' tk => ⟨.str (i ++ j), H, I.tok _, ⟨_, rfl⟩, q⟩) hz
theorem vals1 {x : V} {us : List Value} (r : Vals [x] us) : ∃ u, us = [u] ∧ RelV x u := by
  cases r with
  | cons r1 r2 => cases r2; exact ⟨_, rfl, r1⟩
theorem vals2 {x y : V} {us : List Value} (r : Vals [x, y] us) : ∃ u w', us = [u, w'] ∧ RelV x u ∧ RelV y w' := by
  cases r with
  | cons r1 r2 =>
    cases r2 with
    | cons r3 r4 => cases r4; exact ⟨_, _, rfl, r1, r3⟩
end
end L2

namespace L2
open PySem PySem.Spec PyProof.Rows

structure ObjM (h : Heap) (x dx C : Addr) (mA : Str → Option Value) : Prop where
  obj : h.get? x = some (PySem.W.instObj C dx)
  ns : h.Ns1 dx mA
  ne : dx ≠ x

theorem lookIn_ns {h : Heap} {dx : Addr} {mA : Str → Option Value} (n : h.Ns1 dx mA) : ∃ od, h.get? dx = some od ∧ ∀ name, PySem.W.lookIn name od = some (mA name) := by
  obtain ⟨o, es, ep, ho, hd, hk, _, hm⟩ := n
  refine ⟨o, ho, fun name => ?_⟩
  have e := hm name
  unfold nsFind findBy at e
  rw [← Array.find?_toList] at e
  unfold PySem.W.lookIn
  rw [hd]
  dsimp only
  split
  · rename_i y q
    rw [q] at e
    exact congrArg some e
  · rename_i q
    rw [q] at e
    have a : es.toList.any (·.refKey) = false := by
      rw [List.any_eq_false]
      intro y hy
      obtain ⟨z, t, hkey⟩ := hk y (Array.mem_toList_iff.mp hy)
      simp [DictEntry.refKey, hkey]
    have a' : ¬ es.toList.any (·.refKey) = true := by rw [a]; exact Bool.false_ne_true
    rw [if_neg a']
    exact congrArg some e

theorem ObjM.look {h : Heap} {x dx C : Addr} {mA : Str → Option Value} (I : ObjM h x dx C mA) : ∃ od, PySem.W.InstAt h x (PySem.W.instObj C dx) C (some od) ∧ ∀ name, PySem.W.lookIn name od = some (mA name) :=
  let ⟨od, ho, hl⟩ := lookIn_ns I.ns
  ⟨od, ⟨I.obj, rfl, rfl, ho⟩, hl⟩

section
variable {prog : Program} {w : World} {A : Around} {E : Value → Shared → Prop} {s : Shared} {K : PySem.W.Frag} {x dx C f : Addr} {mA : Str → Option Value} {name : Str} {v : Value}

end

section
variable {P : Program} {w : World} {H H' : Hp} {h h' : Heap} {a C dx : Addr} {fs fs' : List (Str × V)}
theorem ins_get (hok : HOk P w H h) (e : H a = some (.ins C dx fs)) : ∃ mA, ObjM h a dx C mA ∧ (∀ f, RelO (fs.lookup f) (mA f)) ∧ PySem.Within mA (fs.map (·.1)) ∧ fs.length ≤ 1000 ∧ H dx = some (.own a) := by
  obtain ⟨d, z, ne, ob, mA, n, r, q⟩ := (show ObjOk P w H h a (.ins C dx fs) from hok a _ e)
  exact ⟨mA, ⟨ob, n, ne⟩, r, q, z, d⟩
end

structure Cls (K : PySem.W.Frag) (C : Addr) : Prop where
  pg : PySem.W.plainGet K C Str.empty = true
  hd : PySem.W.hasDictIn K C = true
  po : PySem.W.plainOver K C = true
  sa : PySem.W.findIn K (.ref C) "__setattr__" = some (some (.builtin "object.__setattr__"))
theorem Cls.get {K : PySem.W.Frag} {C : Addr} (c : Cls K C) (f : Str) : PySem.W.plainGet K C f = true := c.pg

section
variable {X : Cx} {pins : List (Addr × Obj)} {σ : St} {H : Hp} {s : Shared} {a C dx : Addr} {fs : List (Str × V)} {f : Str} {v : V} {A : Around} {E : Value → Shared → Prop}

end

section
variable {X : Cx} {o e value : Expr} {f : Str} {pos pos' tpos : Pos} {ta tv : TE}
end

section
variable {X : Cx} {pins : List (Addr × Obj)} {σ : St} {H : Hp} {s : Shared} {A : Around} {E : Value → Shared → Prop} {Q : Value → Shared → Prop} {c : Value} {b : Bool}

inductive TyOf (K : PySem.W.Frag) (H : Hp) : V → Value → Prop where
  | non : TyOf K H .non (.type "NoneType")
  | bl (x : Bool) : TyOf K H (.bl x) (.type "bool")
  | int (i : Int) : TyOf K H (.int i) (.type "int")
  | str (x : Str) : TyOf K H (.str x) (.type "str")
  | flt (x : UInt64) : TyOf K H (.flt x) (.type "float")
  | lst {a : Addr} {xs : List V} (e : H a = some (.lst xs)) : TyOf K H (.ref a) (.type "list")
  | frz {a : Addr} {o : Obj} {xs : List V} (e : H a = some (.frz o (.lst xs))) : TyOf K H (.ref a) (.type "list")
  | tup {a : Addr} {xs : List V} (e : H a = some (.tup xs)) : TyOf K H (.ref a) (.type "tuple")
  | dK {a : Addr} {kvs : List (Key × V)} (e : H a = some (.dK kvs)) : TyOf K H (.ref a) (.type "dict")
  | dT {a : Addr} {kvs : List (List Key × V)} (e : H a = some (.dT kvs)) : TyOf K H (.ref a) (.type "dict")
  | ins {a C dx : Addr} {fs : List (Str × V)} (e : H a = some (.ins C dx fs)) (cl : Cls K C) (ha : PySem.W.findIn K (.ref C) "__class__" = some (some (.builtin "object.__class__")))
      (hn : PySem.W.specialIn K (.builtin "object.__class__") "__get__" = some (some (.builtin "getset_descriptor.__get__"))) (htk : PySem.W.takesIn K (.builtin "object.__class__") = some true)
      (hm : PySem.W.mroIn K C (.type "object") = some true) : TyOf K H (.ref a) (.ref C)

theorem isinst_ok {x : V} {u t : Value} (I : Inv X pins σ H s) (rx : RelV x u) (ty : TyOf X.K H x t) (e : PySem.W.kitOne X.K t c = some b) (h : ∀ tk, Q (.bool b) { s with toks := tk }) :
    wpAny (model X.prog X.w) A (call (.builtin "isinstance") [u, c]) Q E s := by
  cases ty with
  | non => cases (show u = Value.none from rx); exact PySem.W.kia_one PySem.W.kitx_none I.kIn True.intro e (fun z => nomatch z) h
  | bl y => cases (show u = Value.bool y from rx); exact PySem.W.kia_one PySem.W.kitx_bool I.kIn True.intro e (fun z => nomatch z) h
  | int i => obtain ⟨t, q⟩ := (show ∃ t, u = Value.int i t from rx); cases q; exact PySem.W.kia_one PySem.W.kitx_int I.kIn True.intro e (fun z => nomatch z) h
  | str y => obtain ⟨t, q⟩ := (show ∃ t, u = Value.str y t from rx); cases q; exact PySem.W.kia_one PySem.W.kitx_str I.kIn True.intro e (fun z => nomatch z) h
  | flt y => obtain ⟨t, q⟩ := (show ∃ t, u = Value.float y t from rx); cases q; exact PySem.W.kia_one PySem.W.kitx_float I.kIn True.intro e (fun z => nomatch z) h
  | @lst a xs ea =>
    cases (show u = Value.ref a from rx)
    obtain ⟨_, _, n, _, h1⟩ := (show ObjOk X.prog X.w H s.heap a (.lst xs) from I.hok a _ ea)
    exact PySem.W.kia_one PySem.W.kitx_list I.kIn ⟨_, h1, rfl⟩ e (fun z => nomatch z) h
  | @frz a ob xs ea =>
    cases (show u = Value.ref a from rx)
    obtain ⟨_, _, _, n, _, h1⟩ := (show ObjOk X.prog X.w H s.heap a (.frz ob (.lst xs)) from I.hok a _ ea)
    exact PySem.W.kia_one PySem.W.kitx_list I.kIn ⟨_, h1, rfl⟩ e (fun z => nomatch z) h
  | @tup a xs ea =>
    cases (show u = Value.ref a from rx)
    obtain ⟨_, _, _, p⟩ := (show ObjOk X.prog X.w H s.heap a (.tup xs) from I.hok a _ ea)
    obtain ⟨o, h1, h2, _⟩ := p
    exact PySem.W.kia_one PySem.W.kitx_tuple I.kIn ⟨o, h1, h2⟩ e (fun z => nomatch z) h
  | @dK a kvs ea =>
    cases (show u = Value.ref a from rx)
    obtain ⟨_, _, vs, _, p⟩ := (show ObjOk X.prog X.w H s.heap a (.dK kvs) from I.hok a _ ea)
    obtain ⟨o, es, ep, h1, h2, _⟩ := p
    exact PySem.W.kia_one PySem.W.kitx_dict I.kIn ⟨o, h1, h2.1⟩ e (fun z => nomatch z) h
  | @dT a kvs ea =>
    cases (show u = Value.ref a from rx)
    obtain ⟨_, _, xs, _, o, es, ep, h1, h2, _⟩ := (show ObjOk X.prog X.w H s.heap a (.dT kvs) from I.hok a _ ea)
    exact PySem.W.kia_one PySem.W.kitx_dict I.kIn ⟨o, h1, h2.1⟩ e (fun z => nomatch z) h
  | @ins a C dx fs ea cl ha hn htk hm =>
    cases (show u = Value.ref a from rx)
    obtain ⟨mA, O, _⟩ := ins_get I.hok ea
    obtain ⟨od, J, _⟩ := O.look
    exact PySem.W.kia_one (PySem.W.kitx_own (cl.get _) cl.hd ha hn htk hm) I.kIn J e (fun z => nomatch z) h
end
end L2

namespace L2
open PySem PySem.Spec PyProof.Rows

structure Room (k : Nat) (A : Around) : Prop where
  hd : A.handled = none
  dp : A.depth + 3 * k + 5 < recursionLimit
  un : A.units + 16 * k + 200 < cLine
theorem Room.mono {j k : Nat} {A : Around} (r : Room k A) (h : j ≤ k) : Room j A := ⟨r.hd, by have := r.dp; omega, by have := r.un; omega⟩
theorem Room.deeper {k : Nat} {A : Around} (r : Room (k + 1) A) (env : Env) : Room k (A.deeper env) :=
  ⟨r.hd, by have := r.dp; show A.depth + 1 + 3 * k + 5 < _; omega, by have := r.un; show A.units + 3 + 16 * k + 200 < _; omega⟩
theorem Room.depth {k : Nat} {A : Around} (r : Room k A) : A.depth < recursionLimit := by have := r.dp; omega
theorem Room.units {k : Nat} {A : Around} (r : Room k A) : A.units + 64 < cLine := by have := r.un; omega
def tNil : TA := fun _ H Q => Q [] H
def tCons (ta : TE) (tr : TA) : TA := fun σ H Q => ta σ H fun x H1 => tr σ H1 fun xs H2 => Q (x :: xs) H2
section
variable {X : Cx} {e : Expr} {es : List Expr} {te : TE} {t : TA} {pos : Pos}
theorem pa_nil : PA X [] tNil := fun _ _ _ _ H Q I h => Calls.spliced_nil ⟨[], H, I, .nil, h⟩
theorem pa_cons (ha : PE X e te) (hr : PA X es t) (hs : starEach (e :: es) X.env = (false, eval e X.env) :: starEach es X.env := by rfl) : PA X (e :: es) (tCons te t) := by
  intro pos pins s σ H Q I h
  rw [hs]
  show wpAny _ _ (spliced ((false, eval e X.env) :: backTo pos (starEach es X.env))) _ _ s
  refine Calls.spliced_cons (thn (ha pins s σ H _ I h) fun u s1 ⟨x, H1, I1, r1, q1⟩ => ?_)
  exact thn (hr pos pins s1 σ H1 _ I1 q1) fun us s2 ⟨xs, H2, I2, r2, q2⟩ => ⟨x :: xs, H2, I2, .cons r1 r2, q2⟩

def tTup (t : TA) : TE := fun σ H Q => t σ H fun xs H1 => xs.length ≤ sizeLine ∧ ∀ p, H1 p = none → Q (.ref p) (upd H1 p (.tup xs))
def tLst (t : TA) : TE := fun σ H Q => t σ H fun xs H1 => xs.length ≤ sizeLine ∧ ∀ p, H1 p = none → Q (.ref p) (upd H1 p (.lst xs))
theorem pe_tup {x1} (h : PA X es t) : PE X (.Tuple es x1 pos) (tTup t) := by
  intro pins s σ H Q I hq
  refine wpAny_Tuple_spliced (thn (h pos pins s σ H _ I hq) fun us s1 ⟨xs, H1, I1, r, z, q⟩ => ⟨by rw [← r.length]; exact z, ?_⟩)
  have hf : H1 s1.heap.objs.size = none := I1.hok.fresh (Nat.le_refl _)
  refine ⟨.ref s1.heap.objs.size, upd H1 s1.heap.objs.size (.tup xs), I1.laid (t' := s1.toks) (fun b u e => Heap.get?_push_of_some _ e) (Nat.le_refl _) ?_, rfl, q _ hf⟩
  exact ⟨z, us, r, ⟨_, Heap.get?_push_size _ rfl, rfl, _, rfl⟩⟩
theorem pe_lst (h : PA X es t) : PE X (.List es pos) (tLst t) := by
  intro pins s σ H Q I hq
  refine wpAny_List_spliced (thn (h pos pins s σ H _ I hq) fun us s1 ⟨xs, H1, I1, r, z, q⟩ => ⟨by rw [← r.length]; exact z, ?_⟩)
  have hf : H1 s1.heap.objs.size = none := I1.hok.fresh (Nat.le_refl _)
  refine ⟨.ref s1.heap.objs.size, upd H1 s1.heap.objs.size (.lst xs), I1.laid (t' := s1.toks) (fun b u e => Heap.get?_push_of_some _ e) (Nat.le_refl _) ?_, rfl, q _ hf⟩
  exact ⟨z, us, 0, r, Heap.get?_push_size _ rfl⟩
end

abbrev Sp := List V → Hp → VK → XK → Prop

abbrev CXT := List Env → Hp → Shared → XK → Value → Shared → Prop

structure Env0 (P : Program) (w : World) (K : PySem.W.Frag) (mg : Str → Option Value) (base : Heap) (A : Around) (outer : List Env) (s : Shared) (H : Hp) : Prop where
  frames : A.frames = some outer
  mod : Mod K mg base
  bs : ∀ b o, base.get? b = some o → s.heap.get? b = some o ∧ H b = none
  bsz : base.objs.size ≤ s.heap.objs.size
  funs : s.heap.FunFrames base outer
  frf : ∀ b ∈ frs outer, H b = none
  hok : HOk P w H s.heap
  bare : AllBare s.gens

def CE (outer : List Env) (P : Program) (w : World) (H : Hp) (s : Shared) (Q : VK) (u : Value) (s' : Shared) : Prop :=
  ∃ v H', s'.os = s.os ∧ AllBare s'.gens ∧ Un (frs outer) [] H H' s.heap s'.heap ∧ HOk P w H' s'.heap ∧ RelV v u ∧ Q v H'
def CR (CX : CXT) (outer : List Env) (P : Program) (w : World) (H : Hp) (s : Shared) (Q : VK) (E : XK) (r : Result) (s' : Shared) : Prop :=
  match r with
  | .ok (.ret u) => CE outer P w H s Q u s'
  | .ok _ => False
  | .error e => CX outer H s E e s'
structure FnOk (P : Program) (w : World) (K : PySem.W.Frag) (mg : Str → Option Value) (base : Heap) (CX : CXT) (k : Nat) (f : Addr) (fd : FuncData) (ps : List Str) (sp : Sp) : Prop where
  len : ∀ vs H Q E, sp vs H Q E → vs.length = ps.length
  run : ∀ (A : Around) (outer : List Env) (s : Shared) (H : Hp) (args : Args) (us : List Value) (vs : List V) (Q : VK) (E : XK), Room k A → Env0 P w K mg base A outer s H → BindsTo s fd args (ps.zip us) → Vals vs us → sp vs H Q E →
    codeAny (model P w) A (.call (.ref f) args) (CR CX outer P w H s Q E) s
theorem FnOk.mono {P : Program} {w : World} {K : PySem.W.Frag} {mg : Str → Option Value} {base : Heap} {CX : CXT} {j k : Nat} {f : Addr} {fd : FuncData} {ps : List Str} {sp : Sp} (F : FnOk P w K mg base CX j f fd ps sp) (h : j ≤ k) :
    FnOk P w K mg base CX k f fd ps sp := ⟨F.len, fun A outer s H args us vs Q E hr => F.run A outer s H args us vs Q E (hr.mono h)⟩

theorem FnOk.imp {P : Program} {w : World} {K : PySem.W.Frag} {mg : Str → Option Value} {base : Heap} {CX : CXT} {k : Nat} {f : Addr} {fd : FuncData} {ps : List Str} {sp sp' : Sp} (F : FnOk P w K mg base CX k f fd ps sp)
    (h : ∀ vs H Q E, sp' vs H Q E → sp vs H Q E) : FnOk P w K mg base CX k f fd ps sp' :=
  ⟨fun vs H Q E q => F.len vs H Q E (h _ _ _ _ q), fun A outer s H args us vs Q E hr he hb hv hs => F.run A outer s H args us vs Q E hr he hb hv (h _ _ _ _ hs)⟩

section
variable {X : Cx} {pins : List (Addr × Obj)} {σ : St} {H : Hp} {s s' : Shared}

theorem Inv.env0 (I : Inv X pins σ H s) : Env0 X.prog X.w X.K X.mg X.base X.A X.stack s H :=
  ⟨I.ok.frames, I.ok.mod, I.bs, Nat.le_trans I.ok.bsz I.sz, I.stack, I.stkFree, I.hok, I.bare⟩

theorem Inv.after {Q : VK} {u : Value} (I : Inv X pins σ H s) (h : CE X.stack X.prog X.w H s Q u s') : EP X pins σ Q u s' := by
  obtain ⟨v, H', os, bare, un, hok, r, q⟩ := h
  obtain ⟨hh, g, d, t, os'⟩ := s'
  obtain rfl : os' = s.os := os
  exact ⟨v, H', I.call (h' := hh) (g' := g) (d' := d) (t' := t) (ch := []) un hok bare (fun b z => absurd z (by simp)), r, q⟩
end

def tCall (sp : Sp) (dvs : List V) (E : XK) (t : TA) : TE := fun σ H Q => t σ H fun vs H1 => sp (vs ++ dvs) H1 Q E

def Binds (K : PySem.W.Frag) (fd : FuncData) (ps : List Str) (ds : List Value) : Prop :=
  ∀ (s : Shared) (us : List Value), K.In s.heap → (us ++ ds).length = ps.length → BindsTo s fd ⟨us, []⟩ (ps.zip (us ++ ds))

theorem Binds.all {K : PySem.W.Frag} {fd : FuncData} {ps : List Str} (h : ∀ us : List Value, us.length = ps.length → bindArgs fd ⟨us, []⟩ = pure (ps.zip us)) : Binds K fd ps [] := fun s us _ hl => by
  rw [List.append_nil] at hl ⊢
  exact .of_eq (h us hl)

def Passes (CX : CXT) (X : Cx) (E : XK) : Prop := ∀ (pins : List (Addr × Obj)) (σ : St) (H : Hp) (s : Shared) (e : Value) (s' : Shared), Inv X pins σ H s → CX X.stack H s E e s' → X.xe e s'

section
variable {X : Cx} {CX : CXT} {k : Nat} {f C : Addr} {fd : FuncData} {ps : List Str} {sp : Sp} {dvs : List V} {ds : List Value} {E : XK} {x m : Str} {p pos apos : Pos} {e o : Expr} {es : List Expr} {ta : TE} {t : TA}

theorem run_fn {pins : List (Addr × Obj)} {σ : St} {H : Hp} {s : Shared} {Q : VK} {us : List Value} {vs : List V} (F : FnOk X.prog X.w X.K X.mg X.base CX k f fd ps sp) (hr : Room k X.A) (hb : Binds X.K fd ps ds) (hd : Vals dvs ds) (hx : Passes CX X E)
    (I : Inv X pins σ H s) (r : Vals vs us) (h : sp (vs ++ dvs) H Q E) : wpAny (model X.prog X.w) X.A (call (.ref f) us) (EP X pins σ Q) X.xe s := by
  have r2 : Vals (vs ++ dvs) (us ++ ds) := r.append hd
  have hl : (us ++ ds).length = ps.length := by rw [← r2.length]; exact F.len _ _ _ _ h
  refine wpAny_call (codeAny_mono (F.run X.A X.stack s H ⟨us, []⟩ (us ++ ds) (vs ++ dvs) Q E hr I.env0 (hb s us I.kIn hl) r2 h) fun r s' hq => ?_)
  cases r with
  | error e => exact hx pins σ H s e s' I hq
  | ok fl =>
    cases fl with
    | ret u => exact I.after hq
    | next => exact False.elim hq
    | brk => exact False.elim hq
    | cont => exact False.elim hq

theorem pe_call (F : FnOk X.prog X.w X.K X.mg X.base CX k f fd ps sp) (hr : Room k X.A) (hg : Gl X x) (hm : X.mg x = some (.ref f)) (hk : PySem.W.keepIn X.K (.ref f) = true) (hb : Binds X.K fd ps ds) (hd : Vals dvs ds) (hx : Passes CX X E)
    (ha : PA X (e :: es) t) (hdb : (x == ("__debug__" : Str)) = false := by decide) (he : starEach (e :: es) X.env = (false, eval e X.env) :: starEach es X.env := by rfl) (hpl : (backTo pos (starEach es X.env)).any (·.1) = false := by rfl) :
    PE X (.Call (.Name x p) (e :: es) [] pos) (tCall sp dvs E t) := by
  intro pins s σ H Q I h
  refine wpAny_Call_Name_kw (ld_glob I hg hm ?_ hdb)
  refine PySem.W.callWith_K (h₀ := X.base) I.ok.mod.kin hk (thn (ha pos pins s σ H _ I h) fun us s1 ⟨vs, H1, I1, r, q⟩ => ⟨I1.kIn, ?_⟩) he hpl
  exact run_fn F hr hb hd hx I1 r q
end

section
variable {X : Cx} {CX : CXT} {k : Nat} {f C : Addr} {fd : FuncData} {ps ks : List Str} {sp : Sp} {E : XK} {x m : Str} {p pos apos kpos : Pos} {e o : Expr} {es : List Expr} {kws : List Keyword} {te ta : TE} {t tk : TA} {nm : Option Str}
variable {g : List Value → List Value → List Value} {gV : List V → List V → List V}
end

structure FnScope (N P : List Str) (sc : Scope) : Prop where
  kind : sc.kind = .function
  co : sc.isCoroutine = false
  gen : sc.isGenerator = false
  nd : N.Nodup
  pre : N.take P.length = P
  par : ∀ x ∈ P, sc.names.lookup x = some .local ∨ sc.names.lookup x = some .cell
  nofree : ∀ y ∈ sc.names, y.2 ≠ .free

theorem bindL_out {kindOf : Str → Option NameKind} {x : Str} : ∀ {binds : List (Str × Value)} {m : Str → Option Value}, (∀ v, (x, v) ∉ binds) → bindL kindOf binds m x = m x
  | [], _, _ => rfl
  | (n, v) :: r, m, h => by
    unfold bindL
    rw [bindL_out fun w hw => h w (List.mem_cons_of_mem _ hw)]
    split
    · have : x ≠ n := by rintro rfl; exact h v List.mem_cons_self
      simp [this]
    · rfl
theorem bindC_out {kindOf : Str → Option NameKind} {x : Str} : ∀ {binds : List (Str × Value)} {m : Str → Option Value}, (∀ v, (x, v) ∉ binds) → bindC kindOf binds m x = m x
  | [], _, _ => rfl
  | (n, v) :: r, m, h => by
    unfold bindC
    rw [bindC_out fun w hw => h w (List.mem_cons_of_mem _ hw)]
    split
    · rfl
    · have : x ≠ n := by rintro rfl; exact h v List.mem_cons_self
      simp [this]
theorem bindL_get {kindOf : Str → Option NameKind} {x : Str} {v : Value} : ∀ {P : List Str} {vs : List Value} {i : Nat} {m : Str → Option Value}, P.Nodup → P[i]? = some x → vs[i]? = some v → kindOf x = some .local →
    bindL kindOf (P.zip vs) m x = some v
  | [], _, _, _, _, h, _, _ => by simp at h
  | _ :: _, [], _, _, _, _, h, _ => by simp at h
  | p :: P, w :: vs, 0, m, nd, h1, h2, hk => by
    simp at h1 h2; subst h1; subst h2
    show bindL kindOf ((p, w) :: P.zip vs) m p = _
    unfold bindL
    rw [bindL_out fun v hv => (List.nodup_cons.mp nd).1 (List.of_mem_zip hv).1, if_pos hk]
    simp
  | p :: P, w :: vs, i + 1, m, nd, h1, h2, hk => by
    show bindL kindOf ((p, w) :: P.zip vs) m x = _
    unfold bindL
    exact bindL_get (i := i) (List.nodup_cons.mp nd).2 (by simpa using h1) (by simpa using h2) hk
theorem bindC_get {kindOf : Str → Option NameKind} {x : Str} {v : Value} : ∀ {P : List Str} {vs : List Value} {i : Nat} {m : Str → Option Value}, P.Nodup → P[i]? = some x → vs[i]? = some v → kindOf x ≠ some .local →
    bindC kindOf (P.zip vs) m x = some v
  | [], _, _, _, _, h, _, _ => by simp at h
  | _ :: _, [], _, _, _, _, h, _ => by simp at h
  | p :: P, w :: vs, 0, m, nd, h1, h2, hk => by
    simp at h1 h2; subst h1; subst h2
    show bindC kindOf ((p, w) :: P.zip vs) m p = _
    unfold bindC
    rw [bindC_out fun v hv => (List.nodup_cons.mp nd).1 (List.of_mem_zip hv).1, if_neg hk]
    simp
  | p :: P, w :: vs, i + 1, m, nd, h1, h2, hk => by
    show bindC kindOf ((p, w) :: P.zip vs) m x = _
    unfold bindC
    exact bindC_get (i := i) (List.nodup_cons.mp nd).2 (by simpa using h1) (by simpa using h2) hk

def start (N : List Str) (vs : List V) : St := vs.map some ++ List.replicate (N.length - vs.length) none

def cxOf (CX : CXT) (P : Program) (w : World) (K : PySem.W.Frag) (mg : Str → Option Value) (base : Heap) (N : List Str) (qual : Str) (scope : Scope) (f : Addr) (cd : Value) (A : Around) (outer : List Env) (s : Shared) (H : Hp) (E : XK) : Cx where
  prog := P
  w := w
  K := K
  mg := mg
  base := base
  A := A.deeper (envOfC qual scope s.heap.objs.size f cd)
  N := N
  s₀ := s
  H₀ := H
  env := envOfC qual scope s.heap.objs.size f cd
  outer := outer
  stack := envOfC qual scope s.heap.objs.size f cd :: outer
  ex := []
  calm := true
  fn := fun _ => true
  pn := []
  xe := fun e s' => wpAny (model P w) (A.deeper (envOfC qual scope s.heap.objs.size f cd)) (leaving (envOfC qual scope s.heap.objs.size f cd) e) (fun _ s'' => CX outer H s E e s'') (fun e' s'' => CX outer H s E e' s'') s'

theorem cell_has {sc : Scope} {n : Nat} {x : Str} (h : sc.names.lookup x = some .cell) : ∃ c, (cellsFrom n sc.names []).lookup x = some c := by
  have q := PySem.W.cellsFrom_some sc.names n [] (.inl h)
  exact Option.isSome_iff_exists.mp q

theorem inv_start {CX : CXT} {P : Program} {w : World} {K : PySem.W.Frag} {mg : Str → Option Value} {base : Heap} {N ps : List Str} {qual : Str} {scope : Scope} {f : Addr} {cd : Value} {A : Around} {outer : List Env} {s s1 : Shared} {H : Hp} {E : XK} {us : List Value} {vs : List V}
    (S : FnScope N ps scope) (hd : A.handled = none) (e0 : Env0 P w K mg base A outer s H) (hl : vs.length = ps.length) (r : Vals vs us)
    (x : InCallC s s.heap.objs.size (bindL (envOfC qual scope s.heap.objs.size f cd).kindOf (ps.zip us) fun _ => none) (cellsFrom (s.heap.objs.size + 1) scope.names []) (bindC (envOfC qual scope s.heap.objs.size f cd).kindOf (ps.zip us) fun _ => none) s1) :
    Inv (cxOf CX P w K mg base N qual scope f cd A outer s H E) [] (start N vs) H s1 := by
  have hpl : ps.length ≤ N.length := by have := congrArg List.length S.pre; rw [List.length_take] at this; omega
  obtain ⟨h1, tk, rfl, hk⟩ := x.done
  have noA : ∀ b : Addr, b ∉ (cxOf CX P w K mg base N qual scope f cd A outer s H E).ex := fun b z => absurd (show b ∈ ([] : List Addr) from z) (by simp)
  refine ⟨⟨e0.mod, S.kind, rfl, rfl, Nat.le_refl _, fun y z c h1 h2 => ?_, fun y hy => ?_, fun y c _ h => ?_, fun _ => hd, Around.frames_deeper e0.frames, .inr ⟨rfl, rfl⟩, fun b z => absurd z (noA b), e0.bs, e0.bsz, fun b _ _ => noA b, fun b z => absurd z (noA b), e0.funs, e0.frf⟩,
    rfl, e0.bare, Un.kept hk, ⟨_, x.toInCall.ns, fun i y v h1 h2 h3 => ?_⟩, fun y c h => ⟨_, x.cell y c h⟩, e0.hok.fresh (Nat.le_refl _), fun y c h => ?_, fun p hp => absurd (show p ∈ ([] : List (Addr × Obj)) from hp) (by simp), e0.hok.kept hk, ?_⟩
  · exact name_of_addr x.apart (PySem.mem_of_lookup h1) (PySem.mem_of_lookup h2)
  · have hy : scope.names.lookup y = some .cell ∨ scope.names.lookup y = some .free := hy
    rcases hy with hy | hy
    · exact cell_has hy
    · exact absurd rfl (S.nofree _ (PySem.mem_of_lookup hy))
  · exact Nat.le_of_lt (x.above y c (PySem.mem_of_lookup h))
  · have hi : i < vs.length := by
      unfold start at h2
      by_cases hi : i < vs.length
      · exact hi
      · rw [List.getElem?_append_right (by simpa using hi)] at h2
        rw [List.getElem?_replicate] at h2
        split at h2 <;> cases h2
    have ha : vs[i]? = some v := by
      unfold start at h2
      rw [List.getElem?_append_left (by simpa using hi), List.getElem?_map] at h2
      cases e : vs[i]? with
      | none => rw [e] at h2; cases h2
      | some a => rw [e] at h2; cases h2; rfl
    obtain ⟨u, hu, rv⟩ := r.get ha
    have hp : ps[i]? = some y := by
      rw [← S.pre, List.getElem?_take_of_lt (by omega)]; exact h1
    have ndP : ps.Nodup := by rw [← S.pre]; exact S.nd.sublist (List.take_sublist _ _)
    refine ⟨u, rv, ?_⟩
    rcases S.par y (List.mem_of_getElem? hp) with k | k
    · exact .inl ⟨k, bindL_get ndP hp hu k⟩
    · obtain ⟨c, e⟩ := cell_has (n := s.heap.objs.size + 1) k
      refine .inr ⟨.inl k, c, e, ?_⟩
      have q := x.cell y c e
      rw [bindC_get ndP hp hu (by show scope.names.lookup y ≠ _; rw [k]; decide)] at q
      exact q
  · exact e0.hok.fresh (Nat.le_of_lt (x.above y c (PySem.mem_of_lookup h)))
  · unfold start
    show _ = N.length
    rw [List.length_append, List.length_map, List.length_replicate]
    omega

theorem fn_of {CX : CXT} {P : Program} {w : World} {K : PySem.W.Frag} {mg : Str → Option Value} {base : Heap} {k : Nat} {f : Addr} {name qual : Str} {params : Arguments} {body : List Stmt} {scope : Scope} {dV kV doc pm cdv ct oc : Value} {an od : Option Addr}
    {osl : Array (Option Value)} {N ps : List Str} {sp : Sp} (lk : K.lookup f = some ⟨oc, od, .func (PySem.W.fnOf name qual params body scope dV kV doc pm an cdv ct), osl⟩) (hcd : PySem.W.codeIn K cdv qual = true) (S : FnScope N ps scope)
    (len : ∀ vs H Q E, sp vs H Q E → vs.length = ps.length)
    (hbody : ∀ (A : Around) (outer : List Env) (s : Shared) (H : Hp) (vs : List V) (Q : VK) (E : XK), Room k (A.deeper (envOfC qual scope s.heap.objs.size f cdv)) → sp vs H Q E →
      ∃ t, PSs (cxOf CX P w K mg base N qual scope f cdv A outer s H E) body t ∧ t { nx := fun _ H' => Q .non H', rt := Q } (start N vs) H) :
    FnOk P w K mg base CX (k + 1) f (PySem.W.fnOf name qual params body scope dV kV doc pm an cdv ct) ps sp := by
  refine ⟨len, fun A outer s H args us vs Q E hr e0 hb r hsp => ?_⟩
  have hl := len _ _ _ _ hsp
  have KX : K.In s.heap := e0.mod.kin.keeps fun b o e => (e0.bs b o e).1
  have lim : s.heap.NoLimit := e0.mod.nolimit.keeps fun b o e => (e0.bs b o e).1
  have hkind : ∀ y ∈ ps.zip us, scope.names.lookup y.1 = some .local ∨ (scope.names.lookup y.1 = some .cell ∧ ((cellsFrom (s.heap.objs.size + 1) scope.names []).lookup y.1).isSome = true) := fun ⟨n, v⟩ hy => by
    rcases S.par n (List.of_mem_zip hy).1 with q | q
    · exact .inl q
    · exact .inr ⟨q, PySem.W.cellsFrom_some _ _ _ (.inl q)⟩
  refine codeAny_call_function hr.depth (KX _ _ lk) rfl S.co S.gen rfl (PySem.W.codeRec_of KX hcd) (hb _ _ _ _ ?_)
  refine wpAny_newFunctionEnv_cells S.kind hkind fun env he s1 x => ?_
  subst he
  refine ⟨lim.keeps x.toInCall.keep, codeAny_func ?_⟩
  obtain ⟨t, ht, hq⟩ := hbody A outer s H vs Q E (hr.deeper _) hsp
  have I : Inv (cxOf CX P w K mg base N qual scope f cdv A outer s H E) [] (start N vs) H s1 := inv_start S hr.hd e0 hl r x
  refine wpAny_mono (ht [] s1 (start N vs) H _ I hq) (fun fl s' hs => ?_) fun e s' hs => hs
  have fin : ∀ {σ' : St} {H' : Hp} {v : V} {u : Value}, Inv (cxOf CX P w K mg base N qual scope f cdv A outer s H E) [] σ' H' s' → RelV v u → Q v H' → CE outer P w H s Q u s' :=
    fun {σ' H' v u} J rv q => ⟨v, H', J.os, J.bare, J.base, J.hok, rv, q⟩
  cases fl with
  | ret u =>
    obtain ⟨v, σ', H', J, rv, q⟩ := hs
    exact fin J rv q
  | next =>
    obtain ⟨σ', H', J, q⟩ := hs
    exact fin (v := V.non) (u := Value.none) J rfl q
  | brk =>
    obtain ⟨_, _, _, q⟩ := hs
    exact False.elim q
  | cont =>
    obtain ⟨_, _, _, q⟩ := hs
    exact False.elim q
end L2

namespace L2
open PySem PySem.Spec PyProof.Rows
section
variable {X : Cx} {x : Str} {p pos : Pos} {e : Expr} {es : List Expr} {t : TA} {id T : String} {r : List V → Hp → VK → Prop}

def tCB (r : List V → Hp → VK → Prop) (t : TA) : TE := fun σ H Q => t σ H fun vs H1 => r vs H1 Q

theorem pe_callB (hc : CallR X (.builtin id) r) (hg : Gl X x) (hm : X.mg x = none) (hv : bootBuiltins x = some (.builtin id)) (ha : PA X (e :: es) t) (hn : x ≠ "__name__" := by decide) (hdb : (x == ("__debug__" : Str)) = false := by decide)
    (he : starEach (e :: es) X.env = (false, eval e X.env) :: starEach es X.env := by rfl) (hpl : (backTo pos (starEach es X.env)).any (·.1) = false := by rfl) : PE X (.Call (.Name x p) (e :: es) [] pos) (tCB r t) := by
  intro pins s σ H Q I h
  refine wpAny_Call_Name_kw (ld_blt I hg hm hv ?_ hn hdb)
  exact PyProof.Rows.callWith_builtin1 (thn (ha pos pins s σ H _ I h) fun us s1 ⟨vs, H1, I1, r1, q1⟩ => hc pins s1 σ H1 vs us Q I1 r1 q1) he hpl

theorem pe_callTy (hc : CallR X (.type T) r) (hg : Gl X x) (hm : X.mg x = none) (hv : bootBuiltins x = some (.type T)) (ha : PA X (e :: es) t) (hn : x ≠ "__name__" := by decide) (hdb : (x == ("__debug__" : Str)) = false := by decide)
    (he : starEach (e :: es) X.env = (false, eval e X.env) :: starEach es X.env := by rfl) (hpl : (backTo pos (starEach es X.env)).any (·.1) = false := by rfl) : PE X (.Call (.Name x p) (e :: es) [] pos) (tCB r t) := by
  intro pins s σ H Q I h
  refine wpAny_Call_Name_kw (ld_blt I hg hm hv ?_ hn hdb)
  exact PyProof.Rows.callWith_type1 (thn (ha pos pins s σ H _ I h) fun us s1 ⟨vs, H1, I1, r1, q1⟩ => hc pins s1 σ H1 vs us Q I1 r1 q1) he hpl

end
end L2

namespace L2
open PySem PySem.Spec PyProof.Rows

section
variable {κ : Type} [DecidableEq κ]
def valV (kvs : List (κ × V)) (k : κ) : Option V := (kvs.find? fun kv => decide (kv.1 = k)).map (·.2)

def putK (kvs : List (κ × V)) (k : κ) (v : V) : List (κ × V) :=
  if (kvs.any fun kv => decide (kv.1 = k)) = true then kvs.map (fun kv => if kv.1 = k then (kv.1, v) else kv) else kvs ++ [(k, v)]
theorem valV_pos {p : κ × V} {r : List (κ × V)} {k : κ} (e : p.1 = k) : valV (p :: r) k = some p.2 := by simp [valV, List.find?_cons, e]
theorem valV_neg {p : κ × V} {r : List (κ × V)} {k : κ} (e : ¬ p.1 = k) : valV (p :: r) k = valV r k := by simp [valV, List.find?_cons, e]
theorem valV_any (k : κ) : ∀ kvs : List (κ × V), (kvs.any fun kv => decide (kv.1 = k)) = (valV kvs k).isSome
  | [] => rfl
  | p :: r => by
    rw [List.any_cons]
    by_cases e : p.1 = k
    · simp only [valV_pos e, decide_eq_true e, Bool.true_or, Option.isSome_some]
    · rw [valV_neg e, decide_eq_false e, Bool.false_or]; exact valV_any k r
theorem length_putK (kvs : List (κ × V)) (k : κ) (v : V) : (putK kvs k v).length ≤ kvs.length + 1 := by
  unfold putK
  split
  · rw [List.length_map]; omega
  · rw [List.length_append, List.length_cons, List.length_nil]; omega
theorem RelO.isSome_eq {o : Option V} {u : Option Value} (r : RelO o u) : o.isSome = u.isSome := by
  cases o with
  | none => cases u with
    | none => rfl
    | some _ => exact (show False from r).elim
  | some _ => cases u with
    | none => exact (show False from r).elim
    | some _ => rfl
theorem RelO.getD {o : Option V} {u : Option Value} {d : V} {d' : Value} (r : RelO o u) (rd : RelV d d') : RelV (o.getD d) (u.getD d') := by
  cases o with
  | none => cases u with
    | none => exact rd
    | some _ => exact (show False from r).elim
  | some _ => cases u with
    | none => exact (show False from r).elim
    | some _ => exact r

theorem KV.val {kvs : List (κ × V)} {vs : List (κ × Value)} (r : KV kvs vs) (k : κ) : RelO (valV kvs k) (valueAt vs k) := by
  unfold KV at r
  induction r with
  | nil => exact True.intro
  | @cons p q ps qs h t ih =>
    obtain ⟨h1, h2⟩ := h
    by_cases e : p.1 = k
    · have e' : q.1 = k := h1.symm.trans e
      have b : valueAt (q :: qs) k = some q.2 := by simp [valueAt, List.find?_cons, e']
      rw [valV_pos e, b]; exact h2
    · have e' : ¬ q.1 = k := fun z => e (h1.trans z)
      have b : valueAt (q :: qs) k = valueAt qs k := by simp [valueAt, List.find?_cons, e']
      rw [valV_neg e, b]; exact ih
end

theorem kV_is {P : Program} {w : World} {k : Key} {u : Value} (r : RelV (kV k) u) : (mixKind P w).is k u = true := by
  cases k with
  | inl i => obtain ⟨t, e⟩ := (show ∃ t, u = Value.int i t from r); subst e; exact mixKind_int P w i t
  | inr x => obtain ⟨t, e⟩ := (show ∃ t, u = Value.str x t from r); subst e; exact mixKind_str P w x t
theorem items_are {P : Program} {w : World} : ∀ {ks : List Key} {us : List Value}, Vals (ks.map kV) us → ItemsAre (mixKind P w) ks us
  | [], _, r => by rw [List.map_nil] at r; cases r; exact .nil
  | k :: ks, _, r => by
    rw [List.map_cons] at r
    cases r with
    | cons h t => exact .cons (kV_is h) (items_are t)

abbrev KT (H : Hp) : List (List Key × V) → List (List Key × Addr × Value) → Prop := Paired fun p q => p.1 = q.1 ∧ H q.2.1 = some (.tup (p.1.map kV)) ∧ RelV p.2 q.2.2
theorem KT.val {H : Hp} {kvs : List (List Key × V)} {xs : List (List Key × Addr × Value)} (r : KT H kvs xs) (k : List Key) : RelO (valV kvs k) ((atKey xs k).map (·.2)) := by
  induction r with
  | nil => exact True.intro
  | @cons p q ps qs h t ih =>
    obtain ⟨h1, _, h2⟩ := h
    by_cases e : p.1 = k
    · have e' : q.1 = k := h1.symm.trans e
      have b : atKey (q :: qs) k = some q.2 := by simp [atKey, List.find?_cons, e']
      rw [valV_pos e, b]; exact h2
    · have e' : ¬ q.1 = k := fun z => e (h1.trans z)
      have b : atKey (q :: qs) k = atKey qs k := by simp [atKey, List.find?_cons, e']
      rw [valV_neg e, b]; exact ih
theorem KT.repl {H : Hp} {kvs : List (List Key × V)} {xs : List (List Key × Addr × Value)} (r : KT H kvs xs) (k : List Key) {y : V} {u : Value} (ry : RelV y u) :
    KT H (kvs.map fun kv => if kv.1 = k then (kv.1, y) else kv) (xs.map (putAt k u)) := by
  induction r with
  | nil => exact .nil
  | @cons p q ps qs h t ih =>
    rw [List.map_cons, List.map_cons]
    refine .cons ?_ ih
    obtain ⟨h1, h2, h3⟩ := h
    unfold putAt
    by_cases e : p.1 = k
    · rw [if_pos e, if_pos (h1.symm.trans e)]; exact ⟨h1, h2, ry⟩
    · rw [if_neg e, if_neg (fun z => e (h1.trans z))]; exact ⟨h1, h2, h3⟩
theorem KT.put {H : Hp} {kvs : List (List Key × V)} {xs : List (List Key × Addr × Value)} (r : KT H kvs xs) (k : List Key) {b : Addr} {y : V} {u : Value} (hb : H b = some (.tup (k.map kV))) (ry : RelV y u) :
    KT H (putK kvs k y) (storedH xs k b u) := by
  have e : (kvs.any fun kv => decide (kv.1 = k)) = (atKey xs k).isSome := by
    rw [valV_any, (r.val k).isSome_eq, Option.isSome_map]
  unfold putK storedH
  rw [e]
  by_cases q : (atKey xs k).isSome = true
  · rw [if_pos q, if_pos q]; exact r.repl k ry
  · rw [if_neg q, if_neg q]; exact Paired.snoc r ⟨rfl, hb, ry⟩
theorem KT.keeps {H H' : Hp} {kvs : List (List Key × V)} {xs : List (List Key × Addr × Value)} (r : KT H kvs xs) (ht : ∀ b ys, H b = some (.tup ys) → H' b = some (.tup ys)) : KT H' kvs xs :=
  Paired.mapP r fun _ _ z => ⟨z.1, ht _ _ z.2.1, z.2.2⟩

section
variable {P : Program} {w : World} {H : Hp} {h : Heap} {a : Addr}
theorem rd_of {u : HO} (ok : HOk P w H h) (e : Rd H a u) : ObjOk P w H h a u := e.ok ok
theorem dk_rd {kvs : List (Key × V)} (ok : HOk P w H h) (e : Rd H a (.dK kvs)) : kvs.length ≤ sizeLine ∧ (a == sysModules) = false ∧ ∃ vs, KV kvs vs ∧ h.DictOf (mixKind P w) a vs :=
  show ObjOk P w H h a (.dK kvs) from rd_of ok e
theorem key_of {ks : List Key} (ok : HOk P w H h) (e : H a = some (.tup (ks.map kV))) : (tupleKind (mixKind P w)).is h ks a := by
  obtain ⟨_, its, r, o, h1, h2, n, h3⟩ := (show ObjOk P w H h a (.tup (ks.map kV)) from ok a _ e)
  exact ⟨o, its.toArray, n, h1, h2, h3, by simpa using items_are r⟩
theorem dt_rd {kvs : List (List Key × V)} (ok : HOk P w H h) (e : Rd H a (.dT kvs)) : kvs.length ≤ sizeLine ∧ (a == sysModules) = false ∧
    ∃ xs, KT H kvs xs ∧ h.DictOfH (tupleKind (mixKind P w)) a xs := by
  obtain ⟨z, y, xs, r, o, es, ep, h1, h2, h3, h4, h5⟩ := (show ObjOk P w H h a (.dT kvs) from rd_of ok e)
  refine ⟨z, y, xs, r, o, es, ep, h1, h2, h3, h4, fun x hx => ?_, h5⟩
  have all : ∀ {l : List (List Key × V)} {m : List (List Key × Addr × Value)}, KT H l m → ∀ x ∈ m, (tupleKind (mixKind P w)).is h x.1 x.2.1 := by
    intro l m q
    induction q with
    | nil => intro x hx; exact nomatch hx
    | @cons p q ps qs hq t ih =>
      intro x hx
      rcases List.mem_cons.mp hx with e | hx
      · subst e
        exact key_of ok (by rw [← hq.1]; exact hq.2.1)
      · exact ih x hx
  exact all r x hx
theorem dt_of {kvs : List (List Key × V)} (ok : HOk P w H h) (e : H a = some (.dT kvs)) : kvs.length ≤ sizeLine ∧ (a == sysModules) = false ∧
    ∃ xs, KT H kvs xs ∧ h.DictOfH (tupleKind (mixKind P w)) a xs := dt_rd ok (.inl e)
end

def DGet (H : Hp) (a : Addr) (y : V) (r : Option V) : Prop :=
  (∃ kvs k, Rd H a (.dK kvs) ∧ y = kV k ∧ r = valV kvs k) ∨ ∃ kvs k b, Rd H a (.dT kvs) ∧ y = .ref b ∧ H b = some (.tup (k.map kV)) ∧ r = valV kvs k

section
variable {X : Cx} {pins : List (Addr × Obj)} {σ : St} {H : Hp} {s : Shared} {a : Addr} {y v : V} {u r : Value} {o : Option V} {A : Around} {E : Value → Shared → Prop}

theorem Inv.big (I : Inv X pins σ H s) : sysModules < s.heap.objs.size := by
  have h : mainGlobals < s.heap.objs.size := (I.mod.glob.keeps I.bk).lt
  exact Nat.lt_trans (by decide) h

theorem d_write {h' : Heap} {t' : Nat} {ob : HO} (I : Inv X pins σ H s) (mu : Mut (H a)) (hs : Heap.SameBut a s.heap h') (he : ∃ q, h'.get? a = some q) (new : ObjOk X.prog X.w (upd H a ob) h' a ob) :
    Inv X pins σ (upd H a ob) { s with heap := h', toks := t' } :=
  I.write (x := a) (e := a) mu (.inl rfl) (fun b q hb z => (hs.2 b hb).trans z) he new
end

section
variable {X : Cx} {pins : List (Addr × Obj)} {σ : St} {H : Hp} {s : Shared} {a : Addr} {kvs : List (Key × V)} {k : Key} {u : Value} {A : Around} {E : Value → Shared → Prop}

end

section
variable {X : Cx} {o i e value : Expr} {pos pos' tpos : Pos} {td ty tv : TE}
end

theorem dt_empty {P : Program} {w : World} {H : Hp} (h : Heap) (hb : sysModules < h.objs.size) : ObjOk P w H (h.push { cls := .type "dict", data := .dict #[] }) h.objs.size (.dT []) :=
  ⟨Nat.zero_le _, beq_eq_false_iff_ne.mpr (Ne.symm (Nat.ne_of_lt hb)), [], .nil, _, #[], 0, Heap.get?_push_size _ rfl, ⟨rfl, rfl, rfl⟩, rfl, rfl, List.nodup_nil⟩

section
variable {X : Cx} {pos : Pos}
end

structure M2 (X : Cx) (o : Expr) (m : Str) (apos : Pos) (e f : Expr) (cpos : Pos) : Prop where
  base : attributeBase o m X.env (eval o X.env) = eval o X.env
  few : ((backTo cpos (starEach [e, f] X.env)).all (fun x => !x.1) && (backToKw cpos (keywordEach [] X.env)).all (fun x => x.1.isSome)
    && decide (([e, f] : List Expr).length + ([] : List Keyword).length + (if ([] : List Keyword).isEmpty then 0 else 1) < 30)) = true
  line : (apos.endLine == cpos.line) = true
  trees : backTo cpos (starEach [e, f] X.env) = [(false, eval e X.env), (false, eval f X.env)]

def IsD (H : Hp) (a : Addr) : Prop := (∃ kvs, Rd H a (.dK kvs)) ∨ ∃ kvs, Rd H a (.dT kvs)
theorem isD_at {X : Cx} {pins : List (Addr × Obj)} {σ : St} {H : Hp} {s : Shared} {a : Addr} (I : Inv X pins σ H s) (d : IsD H a) :
    s.TypeIs (.ref a) "dict" ∧ (∀ b, Value.ref a = .ref b → ∃ ob, s.heap.get? b = some ob ∧ ob.dict = none) ∧ (a == sysModules) = false := by
  rcases d with ⟨kvs, e⟩ | ⟨kvs, e⟩
  · obtain ⟨_, hd, vs, _, dd⟩ := dk_rd I.hok e
    refine ⟨dd.typeIs, fun b q => ?_, hd⟩
    cases q
    obtain ⟨ob, _, _, h1, h2, _⟩ := dd
    exact ⟨ob, h1, h2.2.1⟩
  · obtain ⟨_, hd, xs, _, dd⟩ := dt_rd I.hok e
    refine ⟨dd.typeIs, fun b q => ?_, hd⟩
    cases q
    obtain ⟨ob, _, _, h1, h2, _⟩ := dd
    exact ⟨ob, h1, h2.2.1⟩

section
variable {X : Cx} {pins : List (Addr × Obj)} {σ : St} {H : Hp} {s : Shared} {a : Addr} {y d : V} {u r : Value} {o : Option V} {A : Around} {E : Value → Shared → Prop}

theorem d_get2 {Q : Value → Shared → Prop} (hu : A.units + 1 < cLine) (I : Inv X pins σ H s) (g : DGet H a y o) (ry : RelV y u) (rd : RelV d r) (h : ∀ w' s', Inv X pins σ H s' → RelV (o.getD d) w' → Q w' s') :
    wpAny (model X.prog X.w) A (call (.builtin "dict.get") [.ref a, u, r]) Q E s := by
  rcases g with ⟨kvs, k, e, ey, l⟩ | ⟨kvs, k, b, e, ey, eb, l⟩
  · subst ey
    obtain ⟨z, hd, vs, rel, dd⟩ := dk_rd I.hok e
    refine call_meetsIn PySem.F.slot_dict_get dd.typeIs PySem.F.entry_dict_get (PySem.F.args_dict_get_3 _ _ _) (meets_dict_get_default (mixKind X.prog X.w) a (kV_is ry) hd r) ⟨_, dd.mapOf, h _ _ (I.tok _) ?_⟩
    rw [l]
    exact (rel.val k).getD rd
  · subst ey
    cases (show u = Value.ref b from ry)
    obtain ⟨z, hd, xs, rel, dd⟩ := dt_rd I.hok e
    refine call_meetsIn PySem.F.slot_dict_get dd.typeIs PySem.F.entry_dict_get (PySem.F.args_dict_get_3 _ _ _) (meetsH_dict_get_default (tupleKind (mixKind X.prog X.w)) a b hd r) ⟨tupleKind_room_in1 hu, k, xs, key_of I.hok eb, dd, h _ _ (I.tok _) ?_⟩
    rw [l]
    exact (rel.val k).getD rd
end

def tDGet2 (td ty tx : TE) : TE := fun σ H Q => td σ H fun x H1 => ∃ a, x = .ref a ∧ IsD H1 a ∧ ty σ H1 fun y H2 => tx σ H2 fun z H3 => ∃ o, DGet H3 a y o ∧ Q (o.getD z) H3

section
variable {X : Cx} {o e f : Expr} {apos cpos : Pos} {td ty tx : TE}
theorem pe_dget2 (hu : X.A.units + 1 < cLine) (ho : PE X o td) (he : PE X e ty) (hf : PE X f tx) (m : M2 X o "get" apos e f cpos) : PE X (.Call (.Attribute o "get" apos) [e, f] [] cpos) (tDGet2 td ty tx) := by
  intro pins s σ H Q I h
  refine wpAny_Call_method m.base m.few m.line PySem.F.plainAttrs_dict PySem.F.slot_dict_get PySem.F.type_dict_get (thn (ho pins s σ H _ I h) fun u s1 ⟨x, H1, I1, rx, a, ex, d, q1⟩ => ?_)
  subst ex
  obtain rfl : u = Value.ref a := rx
  obtain ⟨t1, t2, _⟩ := isD_at I1 d
  refine ⟨t1, t2, ?_⟩
  rw [m.trees]
  refine Calls.callWith_builtin rfl (Calls.evalArgs_plain (Calls.spliced_cons (thn (he pins s1 σ H1 _ I1 q1) fun iv s2 ⟨y, H2, I2, ry, q2⟩ =>
    Calls.spliced_cons (thn (hf pins s2 σ H2 _ I2 q2) fun fv s3 ⟨z, H3, I3, rz, ov, g, q3⟩ => Calls.spliced_nil ?_))))
  exact d_get2 hu I3 g ry rz fun w' s4 I4 rw' => ⟨_, H3, I4, rw', q3⟩
end

section
variable {X : Cx} {pins : List (Addr × Obj)} {σ : St} {H : Hp} {s : Shared} {a : Addr} {kvs : List (Key × V)} {A : Around} {E : Value → Shared → Prop}
end

section
variable {X : Cx} {pins : List (Addr × Obj)} {σ : St} {H : Hp} {s : Shared} {a : Addr} {y : V} {u : Value} {A : Around} {E : Value → Shared → Prop}

end
end L2

namespace HT
open PySem PyProof.Rows

theorem rcLt_int (A : Around) (s : Shared) (a : Int) (t : Tok) (c : Int) (u : Tok) (prog : Program) (w : World) (E : Value → Shared → Prop) (Q : Value → Shared → Prop) (h : Q (.bool (decide (a < c))) s) :
    wpAny (model prog w) A (richCompare .Lt (.int a t) (.int c u)) Q E s :=
  (PyProof.Rows.lt_int h : wpAny (model prog w) A (compareOp .Lt (.int a t) (.int c u)) Q E s)

section
open PySem.SeqAt
open PySem.AutoSeq1 (wpAny_loadPart')
open PySem.MeetsSeq PySem.MeetsSeq2 PySem.MeetsSeq3

end

section
variable {prog : Program} {w : World} {A : Around} {E : Value → Shared → Prop} {s : Shared}

def sIx (n d : Nat) : Option Int → Nat
  | none => d
  | some v => if v < 0 then (v + (n : Int)).toNat else min v.toNat n
end
end HT

namespace L2
open PySem PySem.Spec PyProof.Rows

abbrev TO := St → Hp → (Option Int → Hp → Prop) → Prop

def PO (X : Cx) (e : Option Expr) (t : TO) : Prop :=
  ∀ (pins : List (Addr × Obj)) (s : Shared) (σ : St) (H : Hp) (Q : Option Int → Hp → Prop), Inv X pins σ H s → t σ H Q →
    wpAny (model X.prog X.w) X.A (evalPart e X.env) (fun u s' => ∃ o H', Inv X pins σ H' s' ∧ IsPart u o ∧ Q o H') X.xe s
def tNoPart : TO := fun _ H Q => Q none H
def tPart (t : TE) : TO := fun σ H Q => t σ H fun x H1 => ∃ i, x = .int i ∧ Q (some i) H1

theorem intsAre_of {ns : List Int} : ∀ {us : List Value}, Vals (ns.map V.int) us → IntsAre us ns := by
  induction ns with
  | nil => intro us r; rw [List.map_nil] at r; cases r; exact .nil
  | cons n ns ih =>
    intro us r
    rw [List.map_cons] at r
    cases r with
    | cons r1 r2 =>
      obtain ⟨t, e⟩ := r1
      subst e
      exact .cons n t (ih r2)

section
variable {X : Cx} {e : Expr} {te : TE} {lo hi : Option Expr} {tl th : TO} {pos p2 : Pos}

theorem po_none : PO X none tNoPart := by
  intro pins s σ H Q I h
  rw [evalPart_none]
  exact wpAny_pure ⟨none, H, I, .none, h⟩
theorem po_some (h : PE X e te) : PO X (some e) (tPart te) := by
  intro pins s σ H Q I hw
  rw [evalPart_some]
  refine thn (h pins s σ H _ I hw) fun u s1 ⟨x, H1, I1, r1, q1⟩ => ?_
  obtain ⟨i, rfl, q⟩ := q1
  obtain ⟨t, rfl⟩ := r1
  exact ⟨some i, H1, I1, .int i t, q⟩

def SlR (X : Cx) (r : V → Option Int → Option Int → Hp → VK → Prop) : Prop :=
  ∀ (pins : List (Addr × Obj)) (s : Shared) (σ : St) (H : Hp) (x : V) (v vl vu : Value) (lo hi : Option Int) (sl : Addr) (Q : VK), Inv X pins σ H s → RelV x v → s.heap.IsSliceOf sl vl vu .none → IsPart vl lo → IsPart vu hi → r x lo hi H Q →
    ∃ T id, typeLookup (.type T) "__getitem__" = pure (some (.builtin id)) ∧ s.TypeIs v T ∧ wpAny (model X.prog X.w) X.A (getItem v (.ref sl)) (EP X pins σ Q) X.xe s
def tSl (r : V → Option Int → Option Int → Hp → VK → Prop) (te : TE) (tl th : TO) : TE := fun σ H Q => te σ H fun x H1 => tl σ H1 fun l H2 => th σ H2 fun u H3 => r x l u H3 Q

theorem pe_slice {r : V → Option Int → Option Int → Hp → VK → Prop} (hr : SlR X r) (he : PE X e te) (hl : PO X lo tl) (hu : PO X hi th) : PE X (.Subscript e (.Slice lo hi none p2) pos) (tSl r te tl th) := by
  intro pins s σ H Q I h
  refine Subscript_ (thn (he pins s σ H _ I h) fun v s1 ⟨x, H1, I1, r1, q1⟩ => ?_)
  refine wpAny_Slice (thn (hl pins s1 σ H1 _ I1 q1) fun vl s2 ⟨l, H2, I2, pl, q2⟩ => thn (hu pins s2 σ H2 _ I2 q2) fun vu s3 ⟨u, H3, I3, pu, q3⟩ => ?_)
  rw [evalPart_none]
  refine wpAny_pure ?_
  have I4 : Inv X pins σ H3 { s3 with heap := s3.heap.push { cls := .type "slice", data := .fields #[vl, vu, .none] } } := I3.kept (t' := s3.toks) fun b ob q => Heap.get?_push_of_some _ q
  obtain ⟨T, id, hT, ht, hg⟩ := hr pins { s3 with heap := s3.heap.push { cls := .type "slice", data := .fields #[vl, vu, .none] } } σ H3 x v vl vu l u s3.heap.objs.size Q I4 r1 (Heap.IsSliceOf.new ..) pl pu q3
  show wpAny (model X.prog X.w) X.A (subscriptTail e (.Slice lo hi none p2) v (.ref s3.heap.objs.size)) (EP X pins σ Q) X.xe { s3 with heap := s3.heap.push { cls := .type "slice", data := .fields #[vl, vu, .none] } }
  exact tail_any (ops := [.ref s3.heap.objs.size, v]) ht hT hg (by with_unfolding_all rfl)

def cutV (xs : List V) (lo hi : Option Int) : List V := (xs.drop (HT.sIx xs.length 0 lo)).take (HT.sIx xs.length xs.length hi - HT.sIx xs.length 0 lo)
theorem cutV_length (xs : List V) (lo hi : Option Int) : (cutV xs lo hi).length ≤ xs.length := by
  unfold cutV
  rw [List.length_take, List.length_drop]
  omega

end
end L2

namespace L2
open PySem PySem.Spec PyProof.Rows

def ixN (n : Nat) (i : Int) : Option Nat := if 0 ≤ i then (if i < n then some i.toNat else none) else if -(n : Int) ≤ i then some (i + n).toNat else none
def atI {α : Type} (xs : List α) (i : Int) : Option α := (ixN xs.length i).bind fun j => xs[j]?
theorem ixN_seq {n : Nat} {i : Int} {j : Nat} (h : ixN n i = some j) : seqIndex? i n = some j ∧ j < n ∧ -(n : Int) ≤ i ∧ i < n := by
  unfold ixN at h
  by_cases h0 : 0 ≤ i
  · rw [if_pos h0] at h
    by_cases h1 : i < n
    · rw [if_pos h1] at h
      have e : i.toNat = j := Option.some.inj h
      exact ⟨by rw [seqIndex_of h0 h1, e], by omega, by omega, h1⟩
    · rw [if_neg h1] at h; cases h
  · rw [if_neg h0] at h
    by_cases h1 : -(n : Int) ≤ i
    · rw [if_pos h1] at h
      have e : (i + n).toNat = j := Option.some.inj h
      exact ⟨by rw [seqIndex_neg (by omega) h1, e], by omega, h1, by omega⟩
    · rw [if_neg h1] at h; cases h
theorem atI_get {α : Type} {xs : List α} {i : Int} {v : α} (h : atI xs i = some v) : ∃ j, seqIndex? i xs.length = some j ∧ xs[j]? = some v ∧ j < xs.length ∧ -(xs.length : Int) ≤ i ∧ i < xs.length := by
  unfold atI at h
  cases e : ixN xs.length i with
  | none => rw [e] at h; cases h
  | some j =>
    rw [e] at h
    obtain ⟨h1, h2, h3, h4⟩ := ixN_seq e
    exact ⟨j, h1, h, h2, h3, h4⟩
theorem atI_nat {α : Type} {xs : List α} {j : Nat} {v : α} (h : xs[j]? = some v) : atI xs (j : Int) = some v := by
  have hj : j < xs.length := (List.getElem?_eq_some_iff.mp h).1
  have e : ixN xs.length (j : Int) = some j := by
    unfold ixN
    rw [if_pos (by omega), if_pos (by omega)]; simp
  unfold atI; rw [e]; exact h
def PlainIx (b : Expr) : Prop := ∀ o i, subscripted b false o i = operate [o, i] (getItem o i)

def IxR (X : Cx) (r : R2) : Prop :=
  ∀ (value slice : Expr) (pins : List (Addr × Obj)) (s : Shared) (σ : St) (H : Hp) (x y : V) (v u : Value) (Q : VK), Inv X pins σ H s → RelV x v → RelV y u → r x y H Q →
    subscripted slice false v u = operate [v, u] (getItem v u) → wpAny (model X.prog X.w) X.A (subscriptTail value slice v u) (EP X pins σ Q) X.xe s

def MtR (X : Cx) (id : String) (r : V → List V → Hp → VK → Prop) : Prop :=
  ∀ (pins : List (Addr × Obj)) (s : Shared) (σ : St) (H : Hp) (x : V) (xs : List V) (v : Value) (us : List Value) (Q : VK), Inv X pins σ H s → RelV x v → Vals xs us → r x xs H Q →
    wpAny (model X.prog X.w) X.A (call (.builtin id) (v :: us)) (EP X pins σ Q) X.xe s
section
variable {X : Cx} {a b : Expr} {ta tb : TE} {pos : Pos}
theorem IxR.or {r r' : R2} (h : IxR X r) (h' : IxR X r') : IxR X (fun x y H Q => r x y H Q ∨ r' x y H Q) := by
  intro value slice pins s σ H x y v u Q I rx ry q hs
  rcases q with q | q
  · exact h value slice pins s σ H x y v u Q I rx ry q hs
  · exact h' value slice pins s σ H x y v u Q I rx ry q hs
theorem pe_ix {r : R2} (hr : IxR X r) (ha : PE X a ta) (hb : PE X b tb) (hs : PlainIx b) : PE X (.Subscript a b pos) (tOp r ta tb) := by
  intro pins s σ H Q I h
  exact Subscript_ (binT ha hb I h fun v u s2 x y H2 I2 rx ry q => hr a b pins s2 σ H2 x y v u Q I2 rx ry q (hs _ _))

def rIxL (K : PySem.W.Frag) : R2 := fun x y H Q => ∃ p xs i v, x = .ref p ∧ y = .int i ∧ SqL K H p xs ∧ atI xs i = some v ∧ Q v H
def rIxT (K : PySem.W.Frag) : R2 := fun x y H Q => ∃ p xs i v, x = .ref p ∧ y = .int i ∧ SqT K H p xs ∧ atI xs i = some v ∧ Q v H
def rIxS : R2 := fun x y H Q => ∃ z i c, x = .str z ∧ y = .int i ∧ z.length ≤ sizeLine ∧ atI z.cps.toList i = some c ∧ Q (.str ⟨#[c]⟩) H
theorem ix_list : IxR X (rIxL X.K) := by
  intro value slice pins s σ H x y v u Q I rx ry h hs
  obtain ⟨p, xs, i, z, rfl, rfl, hq, he, q⟩ := h
  cases rx
  obtain ⟨t, rfl⟩ := ry
  obtain ⟨its, r, pl, hz⟩ := I.list hq
  obtain ⟨j, h1, h2, h3, h4, h5⟩ := atI_get he
  obtain ⟨w, ew, rw'⟩ := r.get h2
  have hl := r.length
  have hn := line63
  have fin : EP X pins σ Q w s := ⟨z, H, I, rw', q⟩
  by_cases h0 : 0 ≤ i
  · have hj : i.toNat = j := by
      rw [seqIndex_of h0 h5] at h1
      exact Option.some.inj h1
    exact item_listR pl.isList h0 (by omega) (by rw [hj]; simpa using ew) fin hs
  · have hj : (i + (its.toArray.size : Int)).toNat = j := by
      rw [seqIndex_neg (by omega) h4] at h1
      rw [List.size_toArray, ← hl]
      exact Option.some.inj h1
    exact subscriptTail_builtinR (x := w) pl.isList.typeIs slot_list_getitem.lookup
      (wpAny_getItem_list_neg (Q := fun r s' => r = w ∧ EP X pins σ Q r s') pl.isList (by omega) (by rw [List.size_toArray] <;> omega) (by omega) (by rw [hj]; simpa using ew) ⟨rfl, fin⟩) hs
theorem ix_tup : IxR X (rIxT X.K) := by
  intro value slice pins s σ H x y v u Q I rx ry h hs
  obtain ⟨p, xs, i, z, rfl, rfl, hq, he, q⟩ := h
  cases rx
  obtain ⟨t, rfl⟩ := ry
  obtain ⟨its, r, pl, hz⟩ := I.tuple hq
  obtain ⟨j, h1, h2, h3, h4, h5⟩ := atI_get he
  obtain ⟨w, ew, rw'⟩ := r.get h2
  have hl := r.length
  have hn := line63
  have fin : EP X pins σ Q w s := ⟨z, H, I, rw', q⟩
  exact subscriptTail_builtinR (x := w) pl.typeIs slot_tuple_getitem.lookup
    (getItem_tuple (j := j) (Q := fun r s' => r = w ∧ EP X pins σ Q r s') pl (by omega) (by omega) (by rw [List.size_toArray, ← hl]; exact h1) (by simpa using ew) ⟨rfl, fin⟩) hs
theorem ix_str : IxR X rIxS := by
  intro value slice pins s σ H x y v u Q I rx ry h hs
  obtain ⟨z, i, c, rfl, rfl, hz, he, q⟩ := h
  obtain ⟨t, rfl⟩ := rx
  obtain ⟨t', rfl⟩ := ry
  obtain ⟨j, h1, h2, h3, h4, h5⟩ := atI_get he
  have hl : z.cps.toList.length = z.length := by simp [Str.length]
  rw [hl] at h1 h4 h5
  have hn := line63
  exact tail_any (typeIs_str s z t) slot_str_getitem.lookup (getItem_str (c := c) (by
    have e1 : decide (i < -(2 ^ 63 : Int)) = false := decide_eq_false (by omega)
    have e2 : decide (i ≥ 2 ^ 63) = false := decide_eq_false (by omega)
    rw [e1, e2, Bool.or_false]) (by rw [h1]; simpa using h2) ⟨.str ⟨#[c]⟩, H, I.tok _, ⟨_, rfl⟩, q⟩) hs

def rIx (K : PySem.W.Frag) : R2 := fun x y H Q => rIxL K x y H Q ∨ rIxT K x y H Q ∨ rIxS x y H Q
theorem ix_seq : IxR X (rIx X.K) := ix_list.or (ix_tup.or ix_str)

theorem slice_bounds (lo hi : Option Int) (n : Nat) : (sliceBounds lo hi none n).1 = ((HT.sIx n 0 lo : Nat) : Int) ∧ (sliceBounds lo hi none n).2.1 = ((HT.sIx n n hi : Nat) : Int) ∧ (sliceBounds lo hi none n).2.2 = 1 := by
  refine ⟨?_, ?_, rfl⟩
  · cases lo with
    | none => simp [sliceBounds, HT.sIx]
    | some i =>
      simp only [sliceBounds, HT.sIx, Option.getD_none, show (1 : Int) > 0 by decide, if_true]
      by_cases h : i < 0
      · simp only [h, if_true] <;> omega
      · simp only [h, if_false] <;> omega
  · cases hi with
    | none => simp [sliceBounds, HT.sIx]
    | some i =>
      simp only [sliceBounds, HT.sIx, Option.getD_none, show (1 : Int) > 0 by decide, if_true]
      by_cases h : i < 0
      · simp only [h, if_true] <;> omega
      · simp only [h, if_false] <;> omega
theorem slicePick_cut (its : List Value) (lo hi : Option Int) : slicePick its.toArray lo hi none = ((its.drop (HT.sIx its.length 0 lo)).take (HT.sIx its.length its.length hi - HT.sIx its.length 0 lo)).toArray := by
  obtain ⟨h1, h2, h3⟩ := slice_bounds lo hi its.toArray.size
  unfold slicePick
  rw [h1, h2, h3]
  simp only [sliceRange_one, pick_run, List.size_toArray] <;> rfl

def rSlL (K : PySem.W.Frag) : V → Option Int → Option Int → Hp → VK → Prop := fun x lo hi H Q => ∃ a xs, x = .ref a ∧ SqL K H a xs ∧ ∀ p, H p = none → Q (.ref p) (upd H p (.lst (cutV xs lo hi)))
theorem sl_list : SlR X (rSlL X.K) := by
  intro pins s σ H x v vl vu lo hi sl Q I rx hs pl pu h
  obtain ⟨a, xs, rfl, hx, q⟩ := h
  cases rx
  obtain ⟨its, r, ht, hz⟩ := I.list hx
  have hlen := r.length
  refine ⟨"list", _, slot_list_getitem.lookup, ht.isList.typeIs, ?_⟩
  refine wpAny_getItem_list_slice ht.isList hs pl pu .none (by simp) ?_ (by rw [List.size_toArray] <;> omega)
  rw [slicePick_cut, ← hlen]
  refine ⟨.ref s.heap.objs.size, _, I.laid (t' := s.toks) (o := .lst (cutV xs lo hi)) (fun b ob q => Heap.get?_push_of_some _ q) (Nat.le_refl _) ?_, rfl, q _ (I.hok.fresh (Nat.le_refl _))⟩
  exact ⟨Nat.le_trans (cutV_length xs lo hi) hz, _, 0, (r.drop (HT.sIx xs.length 0 lo)).take (HT.sIx xs.length xs.length hi - HT.sIx xs.length 0 lo), Heap.get?_push_size _ rfl⟩

theorem call_len_seq : CallR X (.builtin "len") (fun xs H Q => ∃ p ys, xs = [.ref p] ∧ (SqL X.K H p ys ∨ SqT X.K H p ys) ∧ Q (.int ys.length) H) := by
  intro pins s σ H xs us Q I r h
  obtain ⟨p, ys, rfl, hq, q⟩ := h
  obtain ⟨u, rfl, rx⟩ := vals1 r
  cases rx
  have hn := line63
  rcases hq with hq | hq
  · obtain ⟨its, r', pl, hz⟩ := I.list hq
    have hlen := r'.length
    exact Calls.call_len_list pl.isList (by simp only [List.size_toArray] <;> omega) ⟨.int ys.length, H, I.tok _, ⟨s.toks + 1, by rw [List.size_toArray, hlen]⟩, q⟩
  · obtain ⟨its, r', pl, hz⟩ := I.tuple hq
    have hlen := r'.length
    exact len_tuple pl (by simp only [List.size_toArray] <;> omega) ⟨.int ys.length, H, I.tok _, ⟨s.toks + 1, by rw [List.size_toArray, hlen]⟩, q⟩
theorem call_list_of : CallR X (.type "list") (fun xs H Q => ∃ p ys, xs = [.ref p] ∧ (SqL X.K H p ys ∨ SqT X.K H p ys) ∧ ∀ l, H l = none → Q (.ref l) (upd H l (.lst ys))) := by
  intro pins s σ H xs us Q I r h
  obtain ⟨p, ys, rfl, hq, q⟩ := h
  obtain ⟨u, rfl, rx⟩ := vals1 r
  cases rx
  have fin : ∀ (its : List Value), Vals ys its → ys.length ≤ sizeLine → ∀ (h' : Heap) (c' : Nat), (∀ b o', s.heap.get? b = some o' → h'.get? b = some o') →
      h'.get? s.heap.objs.size = some { cls := .type "list", dict := none, data := .seq its.toArray c', slots := #[] } → EP X pins σ Q (.ref s.heap.objs.size) { s with heap := h' } := fun its r' hz h' c' kp e =>
    ⟨.ref s.heap.objs.size, _, I.laid (t' := s.toks) kp (Nat.le_refl _) (show ObjOk X.prog X.w _ h' _ (.lst ys) from ⟨hz, its, c', r', e⟩), rfl, q _ (I.hok.fresh (Nat.le_refl _))⟩
  rcases hq with hq | hq
  · obtain ⟨its, r', pl, hz⟩ := I.list hq
    have hlen := r'.length
    obtain ⟨o, ho, hc, n, hd⟩ := pl.isList
    exact call_list_seq p (.inl rfl) ho hc hd (fun h' c' kp e => fin its r' hz h' c' kp e) (by simp only [List.size_toArray] <;> omega)
  · obtain ⟨its, r', pl, hz⟩ := I.tuple hq
    have hlen := r'.length
    obtain ⟨o, ho, hc, n, hd⟩ := pl
    exact call_list_seq p (.inr rfl) ho hc hd (fun h' c' kp e => fin its r' hz h' c' kp e) (by simp only [List.size_toArray] <;> omega)
theorem call_tuple_of : CallR X (.type "tuple") (fun xs H Q => ∃ p ys, xs = [.ref p] ∧ ((SqL X.K H p ys ∧ ∀ l, H l = none → Q (.ref l) (upd H l (.tup ys))) ∨ (SqT X.K H p ys ∧ Q (.ref p) H))) := by
  intro pins s σ H xs us Q I r h
  obtain ⟨p, ys, rfl, h⟩ := h
  obtain ⟨u, rfl, rx⟩ := vals1 r
  cases rx
  rcases h with ⟨hq, q⟩ | ⟨hq, q⟩
  · obtain ⟨its, r', pl, hz⟩ := I.list hq
    have hlen := r'.length
    refine call_tuple_list pl.isList (fun h' kp => ?_) (by simp only [List.size_toArray] <;> omega)
    have I1 : Inv X pins σ H { s with heap := h' } := I.kept (t' := s.toks) kp
    have I2 : Inv X pins σ (upd H h'.objs.size (.tup ys)) { s with heap := h'.push { cls := .type "tuple", data := .seq its.toArray } } :=
      I1.laid (t' := s.toks) (fun b o e => Heap.get?_push_of_some _ e) (Nat.le_refl _) (show ObjOk X.prog X.w _ _ _ (.tup ys) from ⟨hz, its, r', IsTup.new _ _⟩)
    exact ⟨.ref h'.objs.size, _, I2, rfl, q _ (I1.hok.fresh (Nat.le_refl _))⟩
  · obtain ⟨its, r', pl, hz⟩ := I.tuple hq
    exact call_tuple_same pl ⟨.ref p, H, I, rfl, q⟩

def tyV (K : PySem.W.Frag) (T : String) (x : V) (H : Hp) : Prop := match x with
  | .str _ => T = "str"
  | .int _ => T = "int"
  | .ref p => (T = "list" ∧ ∃ xs, SqL K H p xs) ∨ (T = "tuple" ∧ ∃ o, K.lookup p = some o ∧ o.cls = .type "tuple" ∧ o.dict = none) ∨
      (T = "dict" ∧ ((∃ kvs, H p = some (.dK kvs)) ∨ ∃ kvs, H p = some (.dT kvs))) ∨ (T = "set" ∧ ∃ S n, H p = some (.set S n))
  | _ => False
theorem tyV_is {pins : List (Addr × Obj)} {σ : St} {H : Hp} {s : Shared} {T : String} {x : V} {v : Value} (I : Inv X pins σ H s) (r : RelV x v) (ty : tyV X.K T x H) :
    s.TypeIs v T ∧ ∀ a, v = .ref a → ∃ ob, s.heap.get? a = some ob ∧ ob.dict = none := by
  cases x with
  | str z =>
    obtain ⟨t, rfl⟩ := r
    cases (show T = "str" from ty)
    exact ⟨typeIs_str s z t, fun _ e => nomatch e⟩
  | int i =>
    obtain ⟨t, rfl⟩ := r
    cases (show T = "int" from ty)
    exact ⟨typeIs_int s i t, fun _ e => nomatch e⟩
  | ref p =>
    cases r
    rcases ty with ⟨rfl, xs, hq⟩ | ⟨rfl, o, hk, hc, hd⟩ | ⟨rfl, hk⟩ | ⟨rfl, S, n, hk⟩
    · obtain ⟨its, _, pl, _⟩ := I.list hq
      refine ⟨pl.isList.typeIs, fun a e => ?_⟩
      cases e
      obtain ⟨o, n, e, c, hd, _⟩ := pl
      exact ⟨o, e, hd⟩
    · refine ⟨⟨o, I.kIn p o hk, hc⟩, fun a e => ?_⟩
      cases e
      exact ⟨o, I.kIn _ o hk, hd⟩
    · have z : ∃ o, s.heap.get? p = some o ∧ o.ExactDict := by
        rcases hk with ⟨kvs, hk⟩ | ⟨kvs, hk⟩
        · obtain ⟨_, _, _, _, o, _, _, e, ex, _⟩ := I.hok p _ hk
          exact ⟨o, e, ex⟩
        · obtain ⟨_, _, _, _, o, _, _, e, ex, _⟩ := I.hok p _ hk
          exact ⟨o, e, ex⟩
      obtain ⟨o, e, ex⟩ := z
      refine ⟨⟨o, e, ex.1⟩, fun a e2 => ?_⟩
      cases e2
      exact ⟨o, e, ex.2.1⟩
    · obtain ⟨o, _, _, _, e, ex, _⟩ := I.hok p _ hk
      refine ⟨⟨o, e, ex.1⟩, fun a e2 => ?_⟩
      cases e2
      exact ⟨o, e, ex.2.1⟩
  | _ => exact False.elim ty
def tBM (K : PySem.W.Frag) (T : String) (r : V → List V → Hp → VK → Prop) (to : TE) (t : TA) : TE := fun σ H Q => to σ H fun x H1 => tyV K T x H1 ∧ t σ H1 fun xs H2 => r x xs H2 Q
variable {o e : Expr} {es : List Expr} {to : TE} {t : TA} {name : Str} {apos cpos : Pos} {T id : String} {r : V → List V → Hp → VK → Prop}
theorem pe_bm (pa : PlainAttrs T) (slot : Slot T name id) (hty : typeOf (.builtin id) = pure (.type "method_descriptor")) (hm : MtR X id r) (ho : PE X o to) (ha : PA X (e :: es) t)
    (hbase : attributeBase o name X.env (eval o X.env) = eval o X.env := by rfl)
    (hfew : ((backTo cpos (starEach (e :: es) X.env)).all (fun x => !x.1) && (backToKw cpos (keywordEach [] X.env)).all (fun x => x.1.isSome)
      && decide ((e :: es).length + ([] : List Keyword).length + (if ([] : List Keyword).isEmpty then 0 else 1) < 30)) = true := by rfl)
    (hline : (apos.endLine == cpos.line) = true := by rfl) (hs : starEach (e :: es) X.env = (false, eval e X.env) :: starEach es X.env := by rfl) (hplain : (backTo cpos (starEach es X.env)).any (·.1) = false := by rfl) :
    PE X (.Call (.Attribute o name apos) (e :: es) [] cpos) (tBM X.K T r to t) := by
  intro pins s σ H Q I h
  refine wpAny_Call_method_late hbase hfew hline rfl (thn (ho pins s σ H _ I h) fun v s1 ⟨x, H1, I1, r1, ty, q1⟩ => ?_)
  obtain ⟨h1, h2⟩ := tyV_is I1 r1 ty
  refine ⟨T, id, pa, slot, hty, h1, h2, ?_⟩
  have hA := ha cpos pins s1 σ H1 _ I1 q1
  rw [hs] at hA ⊢
  refine Calls.callWith_builtin (by show (false || (backTo cpos (starEach es X.env)).any (·.1)) = false; rw [hplain] <;> rfl) (Calls.evalArgs_plain ?_)
  exact thn hA fun us s2 ⟨vs, H2, I2, r2, q2⟩ => hm pins s2 σ H2 x vs v us Q I2 r1 r2 q2

end
end L2

namespace L2
open PySem PySem.Spec PyProof.Rows

def MtM (X : Cx) (id : String) (r : V → List V → Hp → VK → Prop) : Prop :=
  ∀ (pins : List (Addr × Obj)) (s : Shared) (σ : St) (H : Hp) (x : V) (xs : List V) (v : Value) (us : List Value) (Q : VK), Inv X pins σ H s → RelV x v → Vals xs us → r x xs H Q →
    wpAny (model X.prog X.w) X.A (call (.builtin id) (v :: us)) (EP X pins σ Q) X.xe s

theorem Vals.one : ∀ {x : V} {us : List Value}, Vals [x] us → ∃ u, us = [u] ∧ RelV x u
  | _, _, .cons r .nil => ⟨_, rfl, r⟩
theorem Vals.two : ∀ {x y : V} {us : List Value}, Vals [x, y] us → ∃ u v, us = [u, v] ∧ RelV x u ∧ RelV y v
  | _, _, _, .cons r (.cons q .nil) => ⟨_, _, rfl, r, q⟩
theorem Vals.reverse {xs : List V} {us : List Value} (h : Vals xs us) : Vals xs.reverse us.reverse := by
  induction h with
  | nil => exact .nil
  | cons r t ih => rw [List.reverse_cons, List.reverse_cons]; exact Vals.append ih (.cons r .nil)
section
variable {X : Cx} {pins : List (Addr × Obj)} {σ : St} {H : Hp} {s : Shared} {l b : Addr} {xs ys zs : List V}

theorem Inv.lset {its its' : List Value} {n : Nat} {f : Array Value → Array Value} {t' : Nat} (I : Inv X pins σ H s) (hH : H l = some (.lst xs))
    (e : s.heap.get? l = some { cls := .type "list", data := .seq its.toArray n }) (hf : f its.toArray = its'.toArray) (hv : Vals ys its') (hz : ys.length ≤ sizeLine) :
    Inv X pins σ (upd H l (.lst ys)) { s with heap := s.heap.update l (Obj.mapSeq f), toks := t' } := by
  have q := PySem.IsL.update e f
  rw [hf] at q
  refine I.write (x := l) (e := l) (by rw [hH]; exact trivial) (.inl rfl) (fun b' u hb hu => (Heap.get?_update_other s.heap (Obj.mapSeq f) (Ne.symm hb)).trans hu) ⟨_, q⟩ ?_
  exact ⟨hz, its', _, hv, q⟩
theorem Inv.lnew {its : List Value} {t' : Nat} (I : Inv X pins σ H s) (hv : Vals ys its) (hz : ys.length ≤ sizeLine) :
    Inv X pins σ (upd H s.heap.objs.size (.lst ys)) { s with heap := s.heap.push { cls := .type "list", data := .seq its.toArray }, toks := t' } :=
  I.laid (fun _ _ q => Heap.get?_push_of_some _ q) (Nat.le_refl _) ⟨hz, its, 0, hv, Heap.get?_push_size _ rfl⟩
theorem Inv.fresh (I : Inv X pins σ H s) : H s.heap.objs.size = none := I.hok.fresh (Nat.le_refl _)
theorem Inv.lstM (I : Inv X pins σ H s) (hH : H l = some (.lst xs)) : xs.length ≤ sizeLine ∧ ∃ (its : List Value) (n : Nat), Vals xs its ∧ xs.length = its.length ∧ s.heap.get? l = some { cls := .type "list", data := .seq its.toArray n } := by
  obtain ⟨z, its, n, r, e⟩ := I.hok l _ hH
  exact ⟨z, its, n, r, r.length, e⟩

theorem notLongL {n : Nat} (h : n ≤ sizeLine) : Builtin.List.listTooLong n = false := by
  unfold Builtin.List.listTooLong
  exact decide_eq_false (by omega)
end

section
variable {X : Cx}

def rAppend : V → List V → Hp → VK → Prop := fun x vs H Q => ∃ l xs y, x = .ref l ∧ vs = [y] ∧ H l = some (.lst xs) ∧ xs.length < sizeLine ∧ Q .non (upd H l (.lst (xs ++ [y])))
theorem mt_append : MtM X "list.append" rAppend := by
  intro pins s σ H x vs v us Q I rx rv h
  obtain ⟨l, xs, y, rfl, rfl, hH, hz, q⟩ := h
  cases rx
  obtain ⟨u, rfl, ru⟩ := rv.one
  obtain ⟨z, its, n, r, hl, e⟩ := I.lstM hH
  refine call_meets F.slot_list_append ⟨_, e, rfl⟩ F.entry_list_append (F.args_list_append_2 _ _) (PySem.list_append l its.toArray n u (by rw [List.size_toArray]; omega)) ⟨e, ?_⟩
  refine ⟨.non, _, I.lset (its' := its ++ [u]) hH e (by simp) (r.append (.cons ru .nil)) ?_, rfl, q⟩
  rw [List.length_append, List.length_singleton]
  omega

def rExtend : V → List V → Hp → VK → Prop := fun x vs H Q => ∃ l b xs zs, x = .ref l ∧ vs = [.ref b] ∧ H l = some (.lst xs) ∧ H b = some (.lst zs) ∧ xs.length + zs.length ≤ sizeLine ∧ Q .non (upd H l (.lst (xs ++ zs)))
theorem mt_extend : MtM X "list.extend" rExtend := by
  intro pins s σ H x vs v us Q I rx rv h
  obtain ⟨l, b, xs, zs, rfl, rfl, hH, hB, hz, q⟩ := h
  cases rx
  obtain ⟨u, rfl, ru⟩ := rv.one
  cases ru
  obtain ⟨z, its, n, r, hl, e⟩ := I.lstM hH
  obtain ⟨z2, its2, n2, r2, hl2, e2⟩ := I.lstM hB
  have hsz : its.toArray.size + its2.toArray.size ≤ sizeLine := by rw [List.size_toArray, List.size_toArray]; omega
  have hlong : ¬ (!its.toArray.isEmpty && Builtin.List.listTooLong (its.toArray.size + its2.toArray.size)) = true := by
    rw [notLongL hsz, Bool.and_false]
    exact Bool.false_ne_true
  refine call_meets F.slot_list_extend ⟨_, e, rfl⟩ F.entry_list_extend (F.args_list_extend_2 _ _)
    (AutoSeq1.list_extend_list_list_0 l its.toArray n b its2.toArray n2 hlong (by rw [List.size_toArray]; omega) (by omega)) ⟨e, e2, ?_⟩
  refine ⟨.non, _, I.lset (its' := its ++ its2) hH e (by simp) (r.append r2) ?_, rfl, q⟩
  rw [List.length_append]
  omega

end

section
variable {prog : Program} {w : World} {A : Around} {E : Value → Shared → Prop} {s : Shared}
set_option maxRecDepth 100000 in

end

section
variable {X : Cx}

end
end L2

namespace Att
open PySem PySem.W PySem.Calls PyProof.Rows

theorem ints_of_wellAll {P : Params} {h : Heap} : ∀ (ns : List Int) (vs : List Value), WellAll P h vs (ns.map WData.int) → IntsAre vs ns := by
  intro ns
  induction ns with
  | nil =>
    intro vs w
    rw [List.map_nil] at w
    cases w
    exact .nil
  | cons n ns ih =>
    intro vs w
    rw [List.map_cons] at w
    cases w with
    | cons a b =>
      cases a
      exact .cons _ _ (ih _ b)

theorem script_of {l : OpenLaw} {n : Nat} (hn : l.most = some n) {P : Params} {h : Heap} {args : List WData} {vals : List Value}
    (hpre : l.row.toRowW.claim.pre args = true) (hwl : WellAll P h vals args) :
    ∃ a vs ns, vals = [Value.ref a] ∧ args = [WData.list (ns.map WData.int)] ∧ h.get? a = some { cls := .type "list", data := .seq vs.toArray } ∧ IntsAre vs ns ∧ ns.length ≤ n := by
  have hsh : WShape.hasAll [] args [.list .int] = true := (pre_splitW hpre).1
  have hc : l.pre.holds [] { args := args } = true := (pre_splitW hpre).2
  obtain ⟨d, r, rfl, h1, h2⟩ := hasAllW_cons hsh
  obtain rfl := hasAllW_nil h2
  obtain ⟨xs, rfl, h3⟩ := hasW_list h1
  obtain ⟨ns, rfl⟩ := items_int h3
  have hlen : ns.length ≤ n := by
    unfold OpenLaw.pre at hc
    have h4 : (WTm.not (.lt (.lit (.int (n : Int))) (.len (.arg 0)))).holds [] { args := [.list (ns.map .int)] } = true := by
      have h4 := (holds_andW hc).1
      rw [hn] at h4
      exact h4
    have h5 := condW_of h4 (w_not (w_lt w_lit (w_len_list (w_arg rfl))))
    rw [List.length_map] at h5
    refine Nat.le_of_not_lt fun q => ?_
    have q' : (n : Int) < ((ns.length : Nat) : Int) := by omega
    first
      | (rw [decide_eq_true q'] at h5; exact absurd h5 (by decide))
      | (simp at h5; omega)
  cases hwl with
  | cons w1 w2 =>
    cases w2
    cases w1 with
    | list ho hall => exact ⟨_, _, ns, rfl, rfl, ho, ints_of_wellAll ns _ hall, hlen⟩

theorem post_true (l : OpenLaw) (args : List WData) : l.row.toRowW.claim.post args (.bool true) args = true :=
  postW_of (r := l.row.toRowW) (X := (true == true))
    (show WShape.has [] (.bool true) .bool = true by first | rfl | decide | simp [WShape.has, WShape.arms, WShape.armsAll])
    (show (WTm.eq .res (.lit (.bool true))).value [] { args := args, res := some (.bool true), after := args } = some (.bool (true == true)) from w_eq_bool (w_res rfl) w_lit) rfl

theorem attach_call {l : OpenLaw} {n : Nat} {q : Program} {loose : List Str} {XP : (Str → Option Value) → Heap → Prop} {YP : World → Heap → Prop} {d : DefRec}
    (hn : l.most = some n) (hdf : d.params.defaults = [])
    (call : ∀ (w : World) (s₀ s₁ : Shared) (mg mb : Str → Option Value) (fa : Addr) (o : Obj) (pm cd doc : Value) (a : Addr) (vs : List Value) (ns : List Int),
      Ground q loose [] XP w s₀ mg mb s₁.heap → YP w s₁.heap →
      s₁.heap.get? fa = some o → o.data = .func (docDef d.name d.params d.body d.scope pm cd doc) → s₁.heap.CodeRec cd d.name → mg d.name = some (.ref fa) →
      s₁.heap.get? a = some { cls := .type "list", data := .seq vs.toArray } → IntsAre vs ns → ns.length ≤ n → s₁.gens = #[] →
      codeAny (model l.prog w) callerA (.call (.ref fa) ⟨[.ref a], []⟩) (fun r s' => r = .ok (.ret (.bool true)) ∧ OldK s₁.heap s'.heap ∧ s'.os = s₁.os ∧ AllBare s'.gens) s₁) :
    WalkO q loose XP YP l.row.toRowW d [] (fun f vs => PySem.call f vs) := by
  intro w s₀ s₁ mg mb G Y fa o pm cd doc dV kV ho hd hcd hD hmg hg args vals as hpre hlay hrd hwl hlo
  obtain rfl : dV = .none := Dflts.none hD hdf
  obtain rfl : kV = .none := Dflts.noKw hD
  obtain ⟨a, vs, ns, rfl, rfl, hobj, hints, hlen⟩ := script_of hn hpre hwl
  refine enter_call (codeAny_mono (call w s₀ s₁ mg mb fa o pm cd doc a vs ns G Y ho (fd_plain hd) hcd hmg hobj hints hlen hg) fun r s' hq => ?_)
  obtain ⟨rfl, h2, h3, h4⟩ := hq
  exact ⟨.inl ⟨.bool true, .bool true, [], rfl, fun _ => rfl, .bool true, post_true l _, fun _ => ⟨List.Pairwise.nil, fun _ hm => (nomatch hm)⟩⟩, h2, h3, h4⟩

section
variable {prog : Program} {w : World} {A : Around} {E : Value → Shared → Prop} {s : Shared} {K : Frag}

end
end Att

namespace L2
open PySem PySem.Spec PyProof.Rows

theorem vals_ints : ∀ {vs : List Value} {ns : List Int}, IntsAre vs ns → Vals (ns.map V.int) vs
  | _, _, .nil => .nil
  | _, _, .cons n t h => .cons ⟨t, rfl⟩ (vals_ints h)

def Only (H : Hp) : Prop := ∀ b, H b = none ∨ ∃ o xs, H b = some (.frz o (.lst xs))

theorem law_call {P : Program} {w : World} {K : PySem.W.Frag} {mg mb : Str → Option Value} {CX : CXT} {k : Nat} {fa a : Addr} {fd : FuncData} {x : Str} {sp : Sp} {s₁ : Shared} {vs : List Value} {ns : List Int}
    (KX : K.In s₁.heap) (hns : s₁.heap.Ns mainGlobals mg) (hb : s₁.heap.Ns builtinsNs mb) (hbb : ∀ x : Str, x ≠ "__name__" → mb x = bootBuiltins x) (hlim : s₁.heap.NoLimit) (hg : s₁.gens = #[])
    (ha : s₁.heap.get? a = some { cls := .type "list", data := .seq vs.toArray }) (hi : IntsAre vs ns) (hl : ns.length ≤ sizeLine) (hr : Room k callerA)
    (F : ∀ base : Heap, K.In base → base.Ns mainGlobals mg → FnOk P w K mg base CX k fa fd [x] sp) (hbind : ∀ (s : Shared) (u : Value), BindsTo s fd ⟨[u], []⟩ [(x, u)])
    (hsp : ∀ H : Hp, Only H → SqL K H a (ns.map V.int) → sp [.ref a] H (fun v _ => v = .bl true) fun _ _ _ => False)
    (hCX : ∀ H e s', CX [] H s₁ (fun _ _ _ => False) e s' → False) :
    codeAny (model P w) callerA (.call (.ref fa) ⟨[.ref a], []⟩) (fun r s' => r = .ok (.ret (.bool true)) ∧ OldK s₁.heap s'.heap ∧ s'.os = s₁.os ∧ AllBare s'.gens) s₁ := by
  have rv := vals_ints hi
  have lenV := hi.length
  have core : ∀ H : Hp, Only H → SqL K H a (ns.map V.int) → HOk P w H s₁.heap → (∀ b, H b ≠ none → b = a) → (H a ≠ none → K.lookup a = none) →
      codeAny (model P w) callerA (.call (.ref fa) ⟨[.ref a], []⟩) (fun r s' => r = .ok (.ret (.bool true)) ∧ OldK s₁.heap s'.heap ∧ s'.os = s₁.os ∧ AllBare s'.gens) s₁ := by
    intro H hO hS hok hA hK
    have base_of : ∀ {b : Addr} {o : Obj}, s₁.heap.get? b = some o → H b = none → (hidT s₁.heap H).get? b = some o := fun e n => hidT_get e n
    have noA : ∀ {b : Addr} {o : Obj} {es : Array DictEntry} {ep : Nat}, s₁.heap.get? b = some o → o.data = .dict es ep → H b = none := fun {b o es ep} e d => by
      cases q : H b with
      | none => rfl
      | some u =>
        have e' : b = a := hA b (by rw [q]; simp)
        subst e'
        rw [ha] at e; cases e
        have d' : Data.seq vs.toArray _ = Data.dict es ep := d
        cases d'
    have nsK : ∀ {b : Addr} {m : Str → Option Value}, s₁.heap.Ns b m → (hidT s₁.heap H).Ns b m := fun {b m} ⟨o, es, ep, e, d, r⟩ => ⟨o, es, ep, base_of e (noA e d), d, r⟩
    have hKb : K.In (hidT s₁.heap H) := fun b o e => base_of (KX b o e) (by
      cases q : H b with
      | none => rfl
      | some u =>
        have e' : b = a := hA b (by rw [q]; simp)
        subst e'
        rw [hK (by rw [q]; simp)] at e; cases e)
    have hM : Mod K mg (hidT s₁.heap H) := ⟨hKb, nsK hns, ⟨mb, nsK hb, hbb⟩, let ⟨mc, h1, h2⟩ := hlim; ⟨mc, nsK h1, h2⟩⟩
    have e0 : Env0 P w K mg (hidT s₁.heap H) callerA [] s₁ H := ⟨rfl, hM, fun b o e => of_hidT e, Nat.le_of_eq (hidT_size _ _), trivial, fun b hb => absurd (show b ∈ ([] : List Addr) from hb) (by simp), hok, .of_eq hg⟩
    refine codeAny_mono ((F _ hKb (nsK hns)).run callerA [] s₁ H ⟨[.ref a], []⟩ [.ref a] [.ref a] _ _ hr e0 (hbind s₁ (.ref a)) (.cons rfl .nil) (hsp H hO hS)) fun r s' h => ?_
    cases r with
    | error e => exact (hCX H e s' h).elim
    | ok fl =>
      cases fl with
      | next => exact False.elim h
      | brk => exact False.elim h
      | cont => exact False.elim h
      | ret u =>
        obtain ⟨v, H', os, bare, un, hok', r', q⟩ := h
        have q' : v = .bl true := q
        subst q'
        obtain rfl : u = Value.bool true := r'
        refine ⟨rfl, OldK.of_keep fun b o e => ?_, os, bare⟩
        cases q : H b with
        | none => exact un.keep b o e q (by intro z; exact absurd (show b ∈ ([] : List Addr) from z) (by simp)) (by simp)
        | some u =>
          rcases hO b with z | ⟨ob, xs, z⟩
          · rw [q] at z; cases z
          · have z2 := un.frzs b ob _ z
            obtain ⟨e1, _⟩ := hok b _ z
            obtain ⟨e2, _⟩ := hok' b _ z2
            rw [e] at e1; cases e1
            exact e2
  cases hk : K.lookup a with
  | some o =>
    have e := KX a o hk
    rw [ha] at e
    cases e
    refine core (fun _ => none) (fun _ => .inl rfl) (.inr ⟨_, vs.toArray, _, hk, rfl, rfl, rfl, by rw [List.size_toArray, lenV]; exact hl, by simpa using rv⟩) (fun b u z => by have z' : (none : Option HO) = some u := z; cases z') (fun b z => absurd rfl z) fun z => absurd rfl z
  | none =>
    refine core (fun b => if b = a then some (.frz { cls := .type "list", data := .seq vs.toArray } (.lst (ns.map V.int))) else none) (fun b => ?_) (.inl (.inr ⟨{ cls := .type "list", data := .seq vs.toArray }, if_pos rfl⟩)) (fun b u z => ?_) (fun b z => ?_) fun _ => hk
    · by_cases hb : b = a
      · exact .inr ⟨_, _, if_pos hb⟩
      · exact .inl (if_neg hb)
    · by_cases hb : b = a
      · have z' := (if_pos hb).symm.trans z
        cases z'
        subst hb
        exact ⟨ha, by rw [List.length_map]; exact hl, vs, _, rv, ha⟩
      · have z' := (if_neg hb).symm.trans z
        cases z'
    · by_cases hb : b = a
      · exact hb
      · exact absurd (if_neg hb) z
end L2

namespace L2
open PySem PySem.Spec PyProof.Rows

abbrev KOf {K : PySem.W.Frag} {h : Heap} (_ : K.In h) : PySem.W.Frag := K

theorem walk_of {l : PySem.W.OpenLaw} {n k : Nat} {q : Program} {loose : List Str} {XP : (Str → Option Value) → Heap → Prop} {YP : World → Heap → Prop} {d : DefRec} {K : Params → PySem.W.Frag} {CX : World → CXT} {sp : World → Sp} {x : Str}
    (hn : l.most = some n) (hn2 : n ≤ sizeLine) (hdf : d.params.defaults = []) (hr : Room k callerA)
    (hY : ∀ (w : World) (h : Heap), YP w h → (K w.params).In h)
    (F : ∀ (w : World) (mg : Str → Option Value) (fa : Addr) (h : Heap), (K w.params).In h → h.Ns mainGlobals mg → mg d.name = some (.ref fa) →
      ∃ fd : FuncData, (∀ (s : Shared) (u : Value), BindsTo s fd ⟨[u], []⟩ [(x, u)]) ∧
        ∀ base : Heap, (K w.params).In base → base.Ns mainGlobals mg → FnOk l.prog w (K w.params) mg base (CX w) k fa fd [x] (sp w))
    (hsp : ∀ (w : World) (H : Hp) (a : Addr) (ns : List Int), ns.length ≤ n → Only H → SqL (K w.params) H a (ns.map V.int) → sp w [.ref a] H (fun v _ => v = .bl true) fun _ _ _ => False)
    (hCX : ∀ (w : World) (H : Hp) (s : Shared) (e : Value) (s' : Shared), CX w [] H s (fun _ _ _ => False) e s' → False) :
    PySem.W.WalkO q loose XP YP l.row.toRowW d [] (fun f vs => PySem.call f vs) := by
  refine Att.attach_call hn hdf fun w s₀ s₁ mg mb fa o pm cd doc a vs ns G Y ho hd hcd hmg hobj hints hlen hg => ?_
  have KX := hY w _ Y
  obtain ⟨fd, hb, hF⟩ := F w mg fa _ KX G.T.g hmg
  exact law_call KX G.T.g G.T.b G.T.builtins G.T.nolimit hg hobj hints (Nat.le_trans hlen hn2) hr hF hb (fun H hO hS => hsp w H a ns hlen hO hS) fun H e s' => hCX w H s₁ e s'

theorem walk_ofK {l : PySem.W.OpenLaw} {n k : Nat} {q : Program} {loose : List Str} {XP : (Str → Option Value) → Heap → Prop} {YP : World → Heap → Prop} {d : DefRec} {K : Params → PySem.W.Frag} {CX : CXT} {sp : PySem.W.Frag → Sp} {x : Str}
    (hn : l.most = some n) (hn2 : n ≤ sizeLine) (hdf : d.params.defaults = []) (hr : Room k callerA)
    (hY : ∀ (w : World) (h : Heap), YP w h → (K w.params).In h)
    (F : ∀ (w : World) (mg : Str → Option Value) (fa : Addr) (h : Heap), (K w.params).In h → h.Ns mainGlobals mg → mg d.name = some (.ref fa) →
      ∃ fd : FuncData, (∀ (s : Shared) (u : Value), BindsTo s fd ⟨[u], []⟩ [(x, u)]) ∧
        ∀ base : Heap, (K w.params).In base → base.Ns mainGlobals mg → FnOk l.prog w (K w.params) mg base CX k fa fd [x] (sp (K w.params)))
    (hsp : ∀ (K : PySem.W.Frag) (H : Hp) (a : Addr) (ns : List Int), ns.length ≤ n → Only H → SqL K H a (ns.map V.int) → sp K [.ref a] H (fun v _ => v = .bl true) fun _ _ _ => False)
    (hCX : ∀ (H : Hp) (s : Shared) (e : Value) (s' : Shared), CX [] H s (fun _ _ _ => False) e s' → False) :
    PySem.W.WalkO q loose XP YP l.row.toRowW d [] (fun f vs => PySem.call f vs) :=
  walk_of (K := K) (CX := fun _ => CX) (sp := fun w => sp (K w.params)) hn hn2 hdf hr hY F (fun w H a ns h1 h2 h3 => hsp (K w.params) H a ns h1 h2 h3) fun _ H s e s' => hCX H s e s'
end L2

namespace L2
open PySem PySem.Spec PyProof.Rows

def defArgs (s : Stmt) : Arguments := match s with
  | .FunctionDef _ a _ _ _ _ _ _ _ _ => a
  | _ => { posonlyargs := [], args := [], vararg := none, kwonlyargs := [], kw_defaults := [], kwarg := none, defaults := [] }
def defBody (s : Stmt) : List Stmt := match s with
  | .FunctionDef _ _ b _ _ _ _ _ _ _ => b
  | _ => []
def defScope (s : Stmt) : Scope := match s with
  | .FunctionDef _ _ _ _ _ _ sc _ _ _ => sc
  | _ => { kind := .function, names := [], isGenerator := false, isCoroutine := false }

abbrev CX0 : CXT := fun _ _ _ _ _ _ => False
abbrev E0 : XK := fun _ _ _ => False
theorem pass0 {X : Cx} : Passes CX0 X E0 := fun _ _ _ _ _ _ _ h => h.elim

structure Fun (K : PySem.W.Frag) (x qual : Str) (st : Stmt) (f : Addr) (fd : FuncData) : Prop where
  ex : ∃ (oc : Value) (od : Option Addr) (kV doc pm : Value) (an : Option Addr) (cdv ct : Value) (osl : Array (Option Value)),
    fd = PySem.W.fnOf x qual (defArgs st) (defBody st) (defScope st) .none kV doc pm an cdv ct ∧ K.lookup f = some ⟨oc, od, .func fd, osl⟩ ∧ PySem.W.codeIn K cdv qual = true
  kp : PySem.W.keepIn K (.ref f) = true
section
variable {P : Program} {w : World} {K : PySem.W.Frag} {mg : Str → Option Value} {base : Heap}

theorem Fun.ok {x qual : Str} {st : Stmt} {f : Addr} {fd : FuncData} {N ps : List Str} {k : Nat} {sp : Sp} (F : Fun K x qual st f fd) (S : FnScope N ps (defScope st)) (len : ∀ vs H Q E, sp vs H Q E → vs.length = ps.length)
    (hbody : ∀ (cdv : Value) (A : Around) (outer : List Env) (s : Shared) (H : Hp) (vs : List V) (Q : VK) (E : XK), Room k (A.deeper (envOfC qual (defScope st) s.heap.objs.size f cdv)) → sp vs H Q E →
      ∃ t, PSs (cxOf CX0 P w K mg base N qual (defScope st) f cdv A outer s H E).nox (defBody st) t ∧ t { nx := fun _ H' => Q .non H', rt := Q } (start N vs) H) : FnOk P w K mg base CX0 (k + 1) f fd ps sp := by
  obtain ⟨oc, od, kV, doc, pm, an, cdv, ct, osl, rfl, lk, hcd⟩ := F.ex
  refine fn_of lk hcd S len fun A outer s H vs Q E hr hsp => ?_
  obtain ⟨t, h, q⟩ := hbody cdv A outer s H vs Q E hr hsp
  exact ⟨t, h.nox, q⟩

theorem Fun.binds {x qual : Str} {st : Stmt} {f : Addr} {fd : FuncData} {ps : List Str} (F : Fun K x qual st f fd)
    (h : ∀ (kV doc pm : Value) (an : Option Addr) (cdv ct : Value) (us : List Value), us.length = ps.length → bindArgs (PySem.W.fnOf x qual (defArgs st) (defBody st) (defScope st) .none kV doc pm an cdv ct) ⟨us, []⟩ = pure (ps.zip us)) : Binds K fd ps [] := by
  obtain ⟨oc, od, kV, doc, pm, an, cdv, ct, osl, rfl, lk, hcd⟩ := F.ex
  exact .all (h kV doc pm an cdv ct)
theorem fun_mk {x qual : Str} {st : Stmt} {f : Addr} {oc : Value} {od an : Option Addr} {osl : Array (Option Value)} {kV doc pm cdv ct : Value} (l : K.lookup f = some ⟨oc, od, .func (PySem.W.fnOf x qual (defArgs st) (defBody st) (defScope st) .none kV doc pm an cdv ct), osl⟩)
    (c : PySem.W.codeIn K cdv qual = true) (k : PySem.W.keepIn K (.ref f) = true) : Fun K x qual st f (PySem.W.fnOf x qual (defArgs st) (defBody st) (defScope st) .none kV doc pm an cdv ct) := ⟨⟨oc, od, kV, doc, pm, an, cdv, ct, osl, rfl, l, c⟩, k⟩
end
section
variable {X : Cx}
end

theorem iteF {A B : Prop} (h : B) : if false = true then A else B := by
  rw [if_neg Bool.false_ne_true]
  exact h
theorem iteT {A B : Prop} (h : A) : if true = true then A else B := by
  rw [if_pos rfl]
  exact h
def Same (H H' : Hp) : Prop := ∀ b o, H b = some o → H' b = some o
theorem Same.refl (H : Hp) : Same H H := fun _ _ h => h
theorem Same.trans {H H1 H2 : Hp} (a : Same H H1) (b : Same H1 H2) : Same H H2 := fun c o h => b c o (a c o h)
theorem Same.free {H H' : Hp} (e : Same H H') {l : Addr} (h : H' l = Option.none) : H l = Option.none := by
  cases q : H l with
  | none => rfl
  | some o =>
    rw [e l o q] at h
    cases h
theorem Same.seq {K : PySem.W.Frag} {H H' : Hp} {a : Addr} {xs : List V} (e : Same H H') (h : SqL K H a xs) : SqL K H' a xs := by
  rcases h with (h | ⟨o, h⟩) | h
  · exact .inl (.inl (e _ _ h))
  · exact .inl (.inr ⟨o, e _ _ h⟩)
  · exact .inr h

section
variable {κ : Type} [DecidableEq κ]
end
end L2

section
set_option maxHeartbeats 1000000
namespace L2
open PySem PySem.Spec PyProof.Rows

abbrev cxComp (X : Cx) (scope : Scope) (cl : List (Str × Addr)) (C : Addr) (s₂ : Shared) (H₂ : Hp) (ex : List Addr) (pn : List (Addr × Obj)) : Cx :=
  { X with s₀ := s₂, H₀ := H₂, env := compEnvC scope cl C X.env, outer := X.stack, stack := X.stack, ex := ex, fn := fun _ => false, pn := pn, xe := fun _ _ => False }

def mask (bs : List Bool) (σ : St) : St := List.zipWith (fun (b : Bool) o => if b = true then o else none) bs σ
theorem mask_length {bs : List Bool} {σ : St} (h : bs.length = σ.length) : (mask bs σ).length = σ.length := by
  unfold mask; rw [List.length_zipWith, h, Nat.min_self]
theorem mask_get {bs : List Bool} {σ : St} {i : Nat} {v : V} (h : (mask bs σ)[i]? = some (some v)) : bs[i]? = some true ∧ σ[i]? = some (some v) := by
  unfold mask at h
  rw [List.getElem?_zipWith] at h
  cases e1 : bs[i]? with
  | none => rw [e1] at h; simp at h
  | some b =>
    cases e2 : σ[i]? with
    | none => rw [e1, e2] at h; simp at h
    | some o =>
      rw [e1, e2] at h
      simp only [Option.some.injEq] at h
      cases b with
      | false => simp at h
      | true => simp at h; exact ⟨rfl, by rw [h]⟩

def PTs (X : Cx) (ifs : List Expr) (t : TT) : Prop :=
  ∀ (pins : List (Addr × Obj)) (s : Shared) (σ : St) (H : Hp) (Q : Bool → Hp → Prop), Inv X pins σ H s → t σ H Q →
    wpAny (model X.prog X.w) X.A (forIn ifs true fun c r => if r = true then do let ok ← isTrue c X.env (eval c X.env); pure (ForInStep.yield ok) else pure (ForInStep.yield r)) (TP X pins σ Q) X.xe s
def tTrue : TT := fun _ H Q => Q true H
theorem pts_nil {X : Cx} : PTs X [] tTrue := fun pins s σ H Q I h => wpAny_tests_nil ⟨H, I, h⟩
theorem pts_one {X : Cx} {c : Expr} {t : TT} (h : PT X c t) : PTs X [c] t := fun pins s σ H Q I hq => wpAny_tests_one (h pins s σ H Q I hq)

def closL (env : Env) : List (Str × NameKind) → List (Str × Addr) → List (Str × Addr)
  | [], acc => acc
  | (n, k) :: r, acc => if (k == NameKind.free) = true then closL env r ((n, (env.cells.lookup n).getD 0) :: acc) else closL env r acc
theorem closL_eq (env : Env) : ∀ (names : List (Str × NameKind)) (acc : List (Str × Addr)), (∀ y ∈ names, y.2 = .free → ∃ c, env.cells.lookup y.1 = some c) →
    (forIn names acc (fun (x : Str × NameKind) (cs : List (Str × Addr)) => (match x with
      | (name, kind) => if (kind == .free) = true then (do let c ← cellOf env name; pure (ForInStep.yield ((name, c) :: cs))) else pure (ForInStep.yield cs) : Sem (ForInStep (List (Str × Addr)))))) = pure (closL env names acc)
  | [], acc, _ => rfl
  | (n, k) :: r, acc, h => by
    by_cases hk : k = .free
    · subst hk
      obtain ⟨c, e⟩ := h (n, .free) List.mem_cons_self rfl
      have ih := closL_eq env r ((n, c) :: acc) fun y hy => h y (List.mem_cons_of_mem _ hy)
      have ec : cellOf env n = pure c := by unfold cellOf; rw [e]
      rw [List.forIn_cons]
      simp only [beq_self_eq_true, if_true, ec, pure_bind]
      rw [ih]
      simp only [closL, beq_self_eq_true, if_true, e, Option.getD_some]
    · have hb : (k == NameKind.free) = false := by simpa using hk
      have ih := closL_eq env r acc fun y hy => h y (List.mem_cons_of_mem _ hy)
      rw [List.forIn_cons]
      simp only [hb, Bool.false_eq_true, if_false, pure_bind]
      rw [ih]
      conv => rhs; rw [closL.eq_def]
      simp only [hb, Bool.false_eq_true, if_false]
theorem closL_cons (env : Env) : ∀ (names : List (Str × NameKind)) (acc : List (Str × Addr)), (∀ y ∈ names, y.2 = .free → ∃ c, env.cells.lookup y.1 = some c) →
    (∀ x c, acc.lookup x = some c → env.cells.lookup x = some c) → ∀ x c, (closL env names acc).lookup x = some c → env.cells.lookup x = some c
  | [], acc, _, ha => ha
  | (n, k) :: r, acc, h, ha => by
    have hr : ∀ y ∈ r, y.2 = .free → ∃ c, env.cells.lookup y.1 = some c := fun y hy => h y (List.mem_cons_of_mem _ hy)
    unfold closL
    by_cases hk : (k == NameKind.free) = true
    · rw [if_pos hk]
      obtain ⟨c, e⟩ := h (n, k) List.mem_cons_self (eq_of_beq hk)
      refine closL_cons env r _ hr fun x d hx => ?_
      rw [List.lookup_cons] at hx
      cases q : x == n with
      | true =>
        rw [q, e] at hx
        rw [eq_of_beq q, e]
        simpa using hx
      | false => rw [q] at hx; exact ha x d hx
    · rw [if_neg hk]; exact closL_cons env r acc hr ha
theorem closL_has (env : Env) (x : Str) : ∀ (names : List (Str × NameKind)) (acc : List (Str × Addr)), ((x, NameKind.free) ∈ names ∨ ∃ c, acc.lookup x = some c) → ∃ c, (closL env names acc).lookup x = some c
  | [], acc, h => by
    rcases h with h | h
    · cases h
    · exact h
  | (n, k) :: r, acc, h => by
    unfold closL
    by_cases hk : (k == NameKind.free) = true
    · rw [if_pos hk]
      refine closL_has env x r _ ?_
      by_cases q : (x == n) = true
      · exact .inr ⟨_, by rw [List.lookup_cons, q]⟩
      · rcases h with h | ⟨c, h⟩
        · rcases List.mem_cons.mp h with h | h
          · cases h; simp at q
          · exact .inl h
        · exact .inr ⟨c, by rw [List.lookup_cons]; simp [q, h]⟩
    · rw [if_neg hk]
      refine closL_has env x r _ ?_
      rcases h with h | h
      · rcases List.mem_cons.mp h with h | h
        · cases h; simp at hk
        · exact .inl h
      · exact .inr h
theorem closureFor_eq {scope : Scope} {env : Env} (h : ∀ y ∈ scope.names, y.2 = .free → ∃ c, env.cells.lookup y.1 = some c) : closureFor scope env = pure (closL env scope.names []) := by
  have e := closL_eq env scope.names [] h
  have q : closureFor scope env = ((forIn scope.names [] (fun (x : Str × NameKind) (cs : List (Str × Addr)) => (match x with
      | (name, kind) => if (kind == .free) = true then (do let c ← cellOf env name; pure (ForInStep.yield ((name, c) :: cs))) else pure (ForInStep.yield cs) : Sem (ForInStep (List (Str × Addr)))))) >>= fun cs => pure cs) := rfl
  rw [q, e, pure_bind]

theorem lookup_relabel {env : Env} : ∀ {names : List (Str × NameKind)} {x : Str} {k : NameKind},
    (names.map fun (n, k) => if (k == NameKind.free && env.scope.kind == .function && env.kindOf n == some .cell) then (n, NameKind.cell) else (n, k)).lookup x = some k →
    names.lookup x = some k ∨ (names.lookup x = some .free ∧ k = .cell)
  | [], _, _, h => by simp at h
  | (n, k') :: r, x, k, h => by
    have ih := @lookup_relabel env r x k
    have h' : List.lookup x ((if (k' == NameKind.free && env.scope.kind == .function && env.kindOf n == some .cell) = true then (n, NameKind.cell) else (n, k')) :: (r.map fun (n, k) => if (k == NameKind.free && env.scope.kind == .function && env.kindOf n == some .cell) then (n, NameKind.cell) else (n, k))) = some k := h
    by_cases hc : (k' == NameKind.free && env.scope.kind == .function && env.kindOf n == some .cell) = true
    · rw [if_pos hc] at h'
      rw [List.lookup_cons] at h' ⊢
      cases hx : x == n with
      | true =>
        rw [hx] at h'
        simp at h'
        have : k' = .free := by
          have := hc
          simp only [Bool.and_eq_true] at this
          exact eq_of_beq this.1.1
        exact .inr ⟨by rw [this], h'.symm⟩
      | false => rw [hx] at h'; exact ih h'
    · rw [if_neg hc] at h'
      rw [List.lookup_cons] at h' ⊢
      cases hx : x == n with
      | true => rw [hx] at h'; exact .inl h'
      | false => rw [hx] at h'; exact ih h'

def tComp (wi : TI) (bs : List Bool) (g : TG) (tt : TT) (te : TE) : TE := fun σ H Q => wi σ H fun J H1 => ∀ acc, H1 acc = none →
  ∃ W : Nat → Nat → List V → St → Hp → Prop, (∃ m, W 0 m [] (mask bs σ) (upd H1 acc (.lst []))) ∧ ∀ i m ys σ H, W i m ys σ H → H acc = some (.lst ys) ∧
    ((J.stop i H ∧ Q (.ref acc) H) ∨ (J.go i H ∧ ∀ x H', J.yld i H x H' → g x σ H' fun σ2 H2 => tt σ2 H2 fun ok H3 => if ok = true
      then te σ2 H3 fun v H4 => H4 acc = some (.lst ys) ∧ ys.length < sizeLine ∧ ∃ m', m' < m ∧ W (i + 1) m' (ys ++ [v]) σ2 (upd H4 acc (.lst (ys ++ [v])))
      else ∃ m', m' < m ∧ W (i + 1) m' ys σ2 H3))

section
variable {X : Cx} {pins : List (Addr × Obj)} {σ : St} {H : Hp} {s : Shared} {scope : Scope} {bs : List Bool} {fp : List Addr}
structure CompScope (X : Cx) (scope : Scope) (bs : List Bool) : Prop where
  kind : scope.kind = .function
  cell : ∀ y ∈ scope.names, y.2 ≠ .cell
  loc : ∀ y ∈ scope.names, y.2 = .local → scope.names.lookup y.1 = some .local
  fre : ∀ y ∈ scope.names, y.2 = .free → scope.names.lookup y.1 = some .free ∧ (X.env.kindOf y.1 = some .cell ∨ X.env.kindOf y.1 = some .free)
  len : bs.length = X.N.length
  vis : ∀ (i : Nat) (x : Str), X.N[i]? = some x → bs[i]? = some true → scope.names.lookup x = some .free

theorem CompScope.has (S : CompScope X scope bs) (I : Inv X pins σ H s) : ∀ y ∈ scope.names, y.2 = .free → ∃ c, X.env.cells.lookup y.1 = some c := fun y hy e => I.ok.has y.1 (S.fre y hy e).2

theorem inv_comp {h' : Heap} {m : Str → Option Value} (S : CompScope X scope bs) (I : Inv X pins σ H s) (hf : ∀ b ∈ fp, FpOk X pins H b) (ho : ∀ b ∈ fp, ∃ o, s.heap.get? b = some o)
    (hns : h'.Ns s.heap.objs.size m) (hk : ∀ b o, s.heap.get? b = some o → h'.get? b = some o) {t' : Nat} :
    Inv (cxComp X scope (closL X.env scope.names []) s.heap.objs.size s H fp (X.pn ++ pins)) [] (mask bs σ) H { s with heap := h', toks := t' } := by
  have hh := S.has I
  have cons := closL_cons X.env scope.names [] hh (fun x c e => by simp at e)
  refine ⟨⟨I.ok.mod, S.kind, I.ok.glob, I.ok.blt, Nat.le_refl _, fun x y c h1 h2 => I.ok.inj x y c (cons x c h1) (cons y c h2), fun x hx => ?_, (fun x c h => nomatch h), I.ok.hd, I.ok.frames, .inl rfl, fun b hb => ⟨?_, fun x c e => (hf b hb).2.2.2.2.1 x c (cons x c e)⟩,
    I.bs, Nat.le_trans I.ok.bsz I.sz, fun b o e hb => ?_, fun b hb z => ?_, I.stack, I.stkFree⟩,
    rfl, I.bare, Un.kept hk, ⟨m, hns, fun i x v e1 e2 e3 => ?_⟩, fun x c e => ?_, I.hok.fresh (Nat.le_refl _), fun x c e => I.freeC x c (cons x c e), fun p hp => ?_, I.hok.kept hk, ?_⟩
  · have hx' : (relabel scope X.env).names.lookup x = some .cell ∨ (relabel scope X.env).names.lookup x = some .free := hx
    have key : (x, NameKind.free) ∈ scope.names := by
      rcases hx' with q | q
      · rcases lookup_relabel q with q | ⟨q, _⟩
        · exact absurd rfl (S.cell _ (PySem.mem_of_lookup q))
        · exact PySem.mem_of_lookup q
      · rcases lookup_relabel q with q | ⟨_, q⟩
        · exact PySem.mem_of_lookup q
        · cases q
    exact closL_has X.env x scope.names [] (.inl key)
  · obtain ⟨o, e⟩ := ho b hb
    exact Nat.ne_of_lt (Heap.lt_size e)
  · rcases (hf b hb).2.2.2.1 with z | z
    · exact I.ok.noex b o e z
    · exact absurd (Nat.lt_of_lt_of_le (Heap.lt_size (I.ok.bs b o e).1) z) (Nat.lt_irrefl _)
  · rcases List.mem_cons.mp (I.stkSub b z) with q | q
    · exact (hf b hb).2.1 q
    · exact (hf b hb).2.2.1 q
  · obtain ⟨hb, hs⟩ := mask_get e2
    have hfr := S.vis i x e1 hb
    obtain ⟨_, hkd⟩ := S.fre _ (PySem.mem_of_lookup hfr) rfl
    obtain ⟨m0, hn0, hl⟩ := I.loc
    have hvis : Vis X.env.scope x := hkd.elim (fun z => .inr (.inl z)) fun z => .inr (.inr z)
    obtain ⟨u, ru, lk⟩ := hl i x v e1 hs hvis
    refine ⟨u, ru, .inr ⟨?_, ?_⟩⟩
    · rcases e3 with q | q | q
      · rcases lookup_relabel (show (relabel scope X.env).names.lookup x = some .local from q) with q | ⟨_, q⟩
        · rw [hfr] at q; cases q
        · cases q
      · exact .inl q
      · exact .inr q
    · rcases lk with ⟨kl, _⟩ | ⟨_, c, ec, ic⟩
      · rcases hkd with z | z
        · rw [kl] at z; cases z
        · rw [kl] at z; cases z
      · obtain ⟨c', e'⟩ := closL_has X.env x scope.names [] (.inl (PySem.mem_of_lookup hfr))
        have e'' := cons x c' e'
        rw [ec] at e''; cases e''
        obtain ⟨o, q1, q2⟩ := ic
        exact ⟨c, e', o, hk c o q1, q2⟩
  · obtain ⟨v, o, q1, q2⟩ := I.cell x c (cons x c e)
    exact ⟨v, o, hk c o q1, q2⟩
  · have hp' : p ∈ X.pn ++ pins := by
      have q : p ∈ (X.pn ++ pins) ++ ([] : List (Addr × Obj)) := hp
      rwa [List.append_nil] at q
    obtain ⟨e, n, ne, nf, d⟩ := I.pin p hp'
    refine ⟨hk _ _ e, n, Nat.ne_of_lt (Heap.lt_size e), fun z => ?_, d⟩
    rcases List.mem_cons.mp (I.stkSub p.1 z) with q | q
    · exact ne q
    · exact nf q
  · rw [mask_length (by rw [S.len, I.len])]
    exact I.len

theorem inv_back {cl : List (Str × Addr)} {pins' : List (Addr × Obj)} {σ' : St} {H' : Hp} {s' : Shared} {C : Addr} (I : Inv X pins σ H s) (hf : ∀ b ∈ fp, FpOk X pins H b)
    (J : Inv (cxComp X scope cl C s H fp (X.pn ++ pins)) pins' σ' H' s') : Inv X pins σ H' s' := by
  refine I.call' (ch := fp) J.os J.base J.hok J.bare fun b hb => ?_
  obtain ⟨f0, f1, f2, f3, f4, f5⟩ := hf b hb
  exact ⟨f3, f1, f4, f5⟩
end

section
variable {prog : Program} {w : World} {A : Around} {E : Value → Shared → Prop} {R : Result → Shared → Prop} {s : Shared}
theorem compLoop_go {elt target iter : Expr} {ifs : List Expr} {scope : Scope} {pos : Pos} {it acc : Value} {env : Env} (I : Nat → Shared → Prop)
    (turn : ∀ n s, I n s → wpAny (model prog w) A (pyNext it) (fun r s₁ => match r with
      | none => R (.ok .next) s₁
      | some v => wpAny (model prog w) A (letOwnedTupleGo target it v) (fun _ s₁ => wpAny (model prog w) A (assign target env v) (fun _ s₂ =>
          wpAny (model prog w) A (forIn ifs true fun c r => if r = true then do let ok ← isTrue c env (eval c env); pure (ForInStep.yield ok) else pure (ForInStep.yield r)) (fun ok s₃ =>
            if ok = true then wpAny (model prog w) A (eval elt env) (fun x s₄ =>
              wpAny (model prog w) A (call (.builtin "list.append") [acc, x]) (fun _ s₅ => ∃ m, m < n ∧ I m s₅) (fun _ _ => False) s₄) (fun _ _ => False) s₃
            else ∃ m, m < n ∧ I m s₃) (fun _ _ => False) s₂) (fun _ _ => False) s₁) (fun _ _ => False) s₁) (fun _ _ => False) s)
    (n : Nat) (h : I n s) :
    codeAny (model prog w) A (.compLoop (.ListComp elt [⟨target, iter, ifs, 0⟩] scope pos) 0 it acc env) R s := by
  refine codeAny_loop rfl I (fun n s hI => ?_) n h
  show wpAny _ A ((compTurn (.ListComp elt [⟨target, iter, ifs, 0⟩] scope pos) 0 it acc env).onRaise (fun x => do noteFrame x env; theTreesLotGoes x)) _ _ s
  refine wpAny_noted ?_
  rw [compTurn_list]
  refine wpAny_bind (wpAny_standAt (wpAny_bind (wpAny_mono (turn n s hI) (fun r s₁ h₁ => ?_) fun _ _ h' => h'.elim)))
  cases r with
  | none => exact wpAny_pure h₁
  | some v =>
    refine wpAny_bind (wpAny_mono h₁ (fun _ s₁' h₁' => ?_) fun _ _ h' => h'.elim)
    refine wpAny_bind (wpAny_mono h₁' (fun _ s₂ h₂ => wpAny_bind (wpAny_mono h₂ (fun ok s₃ h₃ => ?_) fun _ _ h' => h'.elim)) fun _ _ h' => h'.elim)
    cases ok with
    | false => exact wpAny_pure ⟨rfl, h₃⟩
    | true =>
      exact wpAny_bind (wpAny_bind (wpAny_mono h₃ (fun x s₄ h₄ => wpAny_bind (wpAny_mono h₄ (fun _ s₅ h₅ => wpAny_pure (wpAny_pure ⟨rfl, h₅⟩)) fun _ _ h' => h'.elim)) fun _ _ h' => h'.elim))
end

section
variable {X : Cx} {elt tg iter : Expr} {ifs : List Expr} {scope : Scope} {pos : Pos} {wi : TI} {g : TG} {tt : TT} {te : TE} {bs : List Bool}

theorem comp_block {pins : List (Addr × Obj)} {σ : St} {H : Hp} {s : Shared} {it : Addr} {fp : List Addr} {tn : Nat → Heap → Prop} {J : It} {Q : VK} {E : Value → Shared → Prop} {RR : Value → Addr → Result → Shared → Prop}
    (hc : X.calm = true) (S : CompScope X scope bs)
    (hg : ∀ cl C s₂ H₂ ex pn, PG (cxComp X scope cl C s₂ H₂ ex pn) tg g) (ht : ∀ cl C s₂ H₂ ex pn, PTs (cxComp X scope cl C s₂ H₂ ex pn) ifs tt) (he : ∀ cl C s₂ H₂ ex pn, PE (cxComp X scope cl C s₂ H₂ ex pn) elt te)
    (I : Inv X pins σ H s) (T : Turn X.prog X.w X.K tg J fp it tn) (st : tn 0 s.heap) (hf : ∀ b ∈ fp, FpOk X pins H b)
    (hq : ∀ acc, H acc = none →
      ∃ W : Nat → Nat → List V → St → Hp → Prop, (∃ m, W 0 m [] (mask bs σ) (upd H acc (.lst []))) ∧ ∀ i m ys σ H, W i m ys σ H → H acc = some (.lst ys) ∧
        ((J.stop i H ∧ Q (.ref acc) H) ∨ (J.go i H ∧ ∀ x H', J.yld i H x H' → g x σ H' fun σ2 H2 => tt σ2 H2 fun ok H3 => if ok = true
          then te σ2 H3 fun v H4 => H4 acc = some (.lst ys) ∧ ys.length < sizeLine ∧ ∃ m', m' < m ∧ W (i + 1) m' (ys ++ [v]) σ2 (upd H4 acc (.lst (ys ++ [v])))
          else ∃ m', m' < m ∧ W (i + 1) m' ys σ2 H3)))
    (hRR : ∀ D C s' H' m', Inv X pins σ H' s' → Q (.ref D) H' → s'.heap.Ns C m' → H' C = none → C ≠ X.env.locals → C ∉ X.fs → X.s₀.heap.objs.size ≤ C → (∀ x c, X.env.cells.lookup x = some c → c ≠ C) → (∀ p ∈ X.pn ++ pins, p.1 ≠ C) →
      RR (.ref D) C (.ok .next) s') :
    wpAny (model X.prog X.w) X.A (newList []) (fun acc s₃ => wpAny (model X.prog X.w) X.A (newFunctionEnv scope X.env.globals (closL X.env scope.names []) [] X.env.qual none .none (some X.env)) (fun cenv s₄ =>
      codeAny (model X.prog X.w) X.A (.compStart (.ListComp elt [⟨tg, iter, ifs, 0⟩] scope pos) 0 (.ref it) acc { cenv with scope := relabel scope X.env }) (RR acc cenv.locals) s₄) E s₃) E s := by
  refine wpAny_newObj_type ?_
  have hfr : H s.heap.objs.size = none := I.fresh
  have I3 : Inv X pins σ (upd H s.heap.objs.size (.lst [])) { s with heap := s.heap.push { cls := .type "list", dict := none, data := .seq ([] : List Value).toArray } } := I.lnew (its := []) (t' := s.toks) .nil (Nat.zero_le _)
  have stp : tn 0 (s.heap.push { cls := .type "list", dict := none, data := .seq ([] : List Value).toArray }) := T.keep _ _ _ st fun b _ o e => Heap.get?_push_of_some _ e
  have hlt : ∀ b ∈ fp, b < s.heap.objs.size := fun b hb => by
    obtain ⟨o, e, _⟩ := T.obj _ _ st b hb
    exact Heap.lt_size e
  have f3 : ∀ b ∈ fp, FpOk X pins (upd H s.heap.objs.size (.lst [])) b := fun b hb => ⟨by rw [upd_ne (Nat.ne_of_lt (hlt b hb))]; exact (hf b hb).1, (hf b hb).2⟩
  obtain ⟨W, ⟨m0, w0⟩, turn⟩ := hq s.heap.objs.size hfr
  generalize hacc : s.heap.objs.size = acc at *
  generalize hs3 : ({ s with heap := s.heap.push { cls := .type "list", dict := none, data := .seq ([] : List Value).toArray } } : Shared) = s3 at *
  have stp3 : tn 0 s3.heap := by rw [← hs3]; exact stp
  refine wpAny_newFunctionEnv S.cell (fun y hy => by simp at hy) (fun h₁ hns₁ hsb₁ => ?_) S.kind
  have keep : ∀ b o, s3.heap.get? b = some o → h₁.get? b = some o := fun b o e => (hsb₁.2 b (Nat.ne_of_lt (Heap.lt_size e))).trans (Heap.get?_push_of_some _ e)
  have ob3 : ∀ b ∈ fp, ∃ o, s3.heap.get? b = some o := fun b hb => by
    obtain ⟨o, e, _⟩ := T.obj _ _ stp3 b hb
    exact ⟨o, e⟩
  have I4 := inv_comp (t' := s3.toks + ([] : List (Str × Value)).length) S I3 f3 ob3 hns₁ keep
  have st4 : tn 0 h₁ := T.keep _ _ _ stp3 fun b _ o e => keep b o e
  have stat : ∀ {H' : Hp} {pl : List (Addr × Obj)}, (∀ b ∈ fp, H' b = none) → ∀ b ∈ fp, FpOk (cxComp X scope (closL X.env scope.names []) s3.heap.objs.size s3 (upd H acc (.lst [])) fp (X.pn ++ pins)) [] H' b := fun {H' pl} hn b hb => by
    obtain ⟨_, f1, f2, f3', f4, f5⟩ := f3 b hb
    obtain ⟨o, e⟩ := ob3 b hb
    refine ⟨hn b hb, Nat.ne_of_lt (Heap.lt_size e), fun z => ?_, .inl hb, fun x c e => f4 x c (closL_cons X.env scope.names [] (S.has I3) (fun x c e => by simp at e) x c e), fun p hp => ?_⟩
    · rcases List.mem_cons.mp (I3.stkSub b z) with q | q
      · exact f1 q
      · exact f2 q
    · have q : p ∈ (X.pn ++ pins) ++ ([] : List (Addr × Obj)) := hp
      rw [List.append_nil] at q
      exact f5 p q
  let X' : Cx := cxComp X scope (closL X.env scope.names []) s3.heap.objs.size s3 (upd H acc (.lst [])) fp (X.pn ++ pins)
  have loop : ∀ s5 : Shared, s5 = { s3 with heap := h₁, toks := s3.toks + ([] : List (Str × Value)).length } →
      codeAny (model X.prog X.w) X.A (.compLoop (.ListComp elt [⟨tg, iter, ifs, 0⟩] scope pos) 0 (.ref it) (.ref acc) (compEnvC scope (closL X.env scope.names []) s3.heap.objs.size X.env)) (RR (.ref acc) s3.heap.objs.size) s5 := by
    rintro s5 rfl
    refine compLoop_go (fun n s' => ∃ i ys σ' H', Inv (cxComp X scope (closL X.env scope.names []) s3.heap.objs.size s3 (upd H acc (.lst [])) fp (X.pn ++ pins)) [] σ' H' s' ∧ tn i s'.heap ∧ (∀ b ∈ fp, H' b = none) ∧ W i n ys σ' H') ?_ m0
      ⟨0, [], mask bs σ, upd H acc (.lst []), I4, st4, fun b hb => (f3 b hb).1, w0⟩
    rintro n s6 ⟨i, ys, σ6, H6, I6, st6, fr6, w6⟩
    obtain ⟨hac, way⟩ := turn i n ys σ6 H6 w6
    rcases way with ⟨stop, qn⟩ | ⟨go, step⟩
    · refine thn (T.done X' rfl rfl rfl hc i [] s6 σ6 H6 (fun _ _ => False) I6 (stat (pl := []) fr6) st6 stop) fun r s7 ⟨hr, I7⟩ => ?_
      subst hr
      obtain ⟨m', hn', _⟩ := I7.loc
      have IX := inv_back (C := s3.heap.objs.size) I3 f3 I7
      refine hRR acc s3.heap.objs.size s7 H6 m' IX qn hn' I7.free (Nat.ne_of_gt I3.lt) (I3.nofs (Nat.le_refl _)) I3.sz (fun x c e z => ?_) fun p hp z => ?_
      · obtain ⟨v, q⟩ := I3.cell x c e
        exact absurd q.lt (by rw [z]; exact Nat.lt_irrefl _)
      · exact absurd (Heap.lt_size (I3.pin p hp).1) (by rw [z]; exact Nat.lt_irrefl _)
    · refine thn (T.item X' rfl rfl rfl hc i [] s6 σ6 H6 (fun _ _ => False) I6 (stat (pl := []) fr6) st6 go) fun r s7 ⟨u, hr, h7⟩ => ?_
      subst hr
      refine thn h7 fun _ s8 ⟨x, H8, I8, r8, y8, st8, fr8⟩ => ?_
      have I8' := I8.pinned (stat (pl := []) fr8) (T.obj _ _ st8)
      refine thn (hg _ _ _ _ _ _ _ s8 σ6 H8 x u _ I8' r8 (step x H8 y8)) fun _ s9 ⟨σ9, H9, I9, q9⟩ => ?_
      refine thn (ht _ _ _ _ _ _ _ s9 σ9 H9 _ I9 q9) fun ok s10 ⟨H10, I10, q10⟩ => ?_
      have back : ∀ {σ' : St} {H' : Hp} {s' : Shared}, Inv (cxComp X scope (closL X.env scope.names []) s3.heap.objs.size s3 (upd H acc (.lst [])) fp (X.pn ++ pins)) ([] ++ pinsAt fp s8.heap) σ' H' s' → tn (i + 1) s'.heap ∧ ∀ b ∈ fp, H' b = none := fun {σ' H' s'} K => by
        refine ⟨T.keep _ _ _ st8 fun b hb o e => (K.pin (b, o) (List.mem_append_right _ (List.mem_append_right _ (mem_pinsAt hb e)))).1, fun b hb => ?_⟩
        obtain ⟨o, e, d⟩ := T.obj _ _ st8 b hb
        exact (K.pin (b, o) (List.mem_append_right _ (List.mem_append_right _ (mem_pinsAt hb e)))).2.1
      cases ok with
      | false =>
        rw [if_neg Bool.false_ne_true] at q10 ⊢
        obtain ⟨m', hm, w'⟩ := q10
        obtain ⟨b1, b2⟩ := back I10
        exact ⟨m', hm, i + 1, ys, σ9, H10, I10.unpinned, b1, b2, w'⟩
      | true =>
        rw [if_pos rfl] at q10 ⊢
        refine thn (he _ _ _ _ _ _ _ s10 σ9 H10 _ I10 q10) fun y s11 ⟨v, H11, I11, r11, hac11, hz, m', hm, w'⟩ => ?_
        have ap := mt_append (X := X') _ s11 σ9 H11 (.ref acc) [v] (.ref acc) [y] (fun (z : V) (H' : Hp) => H' = upd H11 acc (.lst (ys ++ [v]))) I11 rfl (.cons r11 .nil) ⟨acc, ys, v, rfl, rfl, hac11, hz, rfl⟩
        refine thn ap fun _ s12 ⟨_, H12, I12, _, e12⟩ => ?_
        subst e12
        obtain ⟨b1, b2⟩ := back I12
        exact ⟨m', hm, i + 1, ys ++ [v], σ9, _, I12.unpinned, b1, b2, w'⟩
  exact codeAny_compStart_list (loop _ rfl) (T.self _ 0 _ _ _ st4 (loop _ rfl))

theorem pe_comp (hc : X.calm = true) (hi : PI X tg iter wi) (S : CompScope X scope bs)
    (hg : ∀ cl C s₂ H₂ ex pn, PG (cxComp X scope cl C s₂ H₂ ex pn) tg g) (ht : ∀ cl C s₂ H₂ ex pn, PTs (cxComp X scope cl C s₂ H₂ ex pn) ifs tt) (he : ∀ cl C s₂ H₂ ex pn, PE (cxComp X scope cl C s₂ H₂ ex pn) elt te)
    (hs : ∀ x, foldedSetIterable iter X.env x = pure x := by intro _; rfl) : PE X (.ListComp elt [⟨tg, iter, ifs, 0⟩] scope pos) (tComp wi bs g tt te) := by
  intro pins s σ H Q I h
  rw [eval_ListComp]
  refine wpAny_comprehension_free (use := none) rfl hs (closureFor_eq (S.has I)) S.kind S.loc (thn (hi pins s σ H _ I h) fun v s1 h1 => thn h1 fun itv s2 h2 => ?_)
  obtain ⟨it, fp, tn, J, H2, e, I2, T, st2, f2, hq⟩ := h2
  subst e
  refine comp_block (RR := fun acc C => compPost (model X.prog X.w) X.A X.xe none (EP X pins σ Q) acc C) hc S hg ht he I2 T st2 f2 hq ?_
  intro D C s' H' m' I' q' hn hC hL hF hz hcl hp
  refine ⟨m', hn, fun h'' hs'' => ⟨.ref D, H', ?_, rfl, q'⟩⟩
  exact I'.turned (t' := s'.toks) (fun b o hb e => (hs''.2 b hb).trans e) hC hL (.inr hz) hcl hp

theorem ps_setc {i : Nat} {y : Str} {py spos : Pos} (hc : X.calm = true) (hi : PI X tg iter wi) (S : CompScope X scope bs)
    (hg : ∀ cl C s₂ H₂ ex pn, PG (cxComp X scope cl C s₂ H₂ ex pn) tg g) (ht : ∀ cl C s₂ H₂ ex pn, PTs (cxComp X scope cl C s₂ H₂ ex pn) ifs tt) (he : ∀ cl C s₂ H₂ ex pn, PE (cxComp X scope cl C s₂ H₂ ex pn) elt te)
    (hN : X.N.Nodup) (hiN : X.N[i]? = some y) (hy : X.env.scope.names.lookup y = some .local)
    (hsw : swapsWith (.ListComp elt [⟨tg, iter, ifs, 0⟩] scope pos) (some (.Name y py)) spos.line X.env = pure true := by rfl)
    (hs : ∀ x, foldedSetIterable iter X.env x = pure x := by intro _; rfl) : PS X (.Assign [.Name y py] (.ListComp elt [⟨tg, iter, ifs, 0⟩] scope pos) spos) (tAsg (tComp wi bs g tt te) (gName i)) := by
  intro pins s σ H D I h
  rw [exec_Assign_Name_used _ _ _ _ hsw]
  refine wpAny_bind (wpAny_standAt (wpAny_bind ?_))
  show wpAny _ X.A (do let _ ← comprehension (.ListComp elt [⟨tg, iter, ifs, 0⟩] scope pos) scope X.env _ (newList []) false (eval iter X.env) (some (assign (.Name y py) X.env))) _ _ s
  refine wpAny_bind (wpAny_mono (wpAny_comprehension_free (use := some (assign (.Name y py) X.env)) (Q := fun _ s' => SP X pins D .next s') rfl hs (closureFor_eq (S.has I)) S.kind S.loc
    (thn (hi pins s σ H _ I h) fun v s1 h1 => thn h1 fun itv s2 h2 => ?_)) (fun _ s' hq => wpAny_pure (wpAny_pure hq)) fun _ _ e => e)
  obtain ⟨it, fp, tn, J, H2, e, I2, T, st2, f2, hq⟩ := h2
  subst e
  refine comp_block (Q := fun x H1 => gName i x σ H1 D.nx) (RR := fun acc C => compPost (model X.prog X.w) X.A X.xe (some (assign (.Name y py) X.env)) (fun _ s' => SP X pins D .next s') acc C) hc S hg ht he I2 T st2 f2 hq ?_
  intro A C s' H' m' I' q' hn hC hL hF hz hcl hp
  show wpAny _ X.A (assign (.Name y py) X.env (.ref A)) _ _ _
  refine wpAny_assign_Name (store_ok2 I' hN hiN (.inl hy) (v := .ref A) rfl (fun s2 I2 hsb => ?_) (.inr hy))
  obtain ⟨a, sb, ha⟩ := hsb
  have hCa : C ≠ a := by
    rcases ha with z | z
    · rw [z]; exact hL
    · exact fun q => hcl y a z q.symm
  refine ⟨m', hn.sameBut sb hCa, fun h'' hs'' => ⟨σ.set i (some (.ref A)), H', ?_, q'⟩⟩
  exact I2.turned (t' := s2.toks) (fun b o hb e => (hs''.2 b hb).trans e) hC hL (.inr hz) hcl hp
end
end L2

end

section
set_option maxHeartbeats 1000000
namespace L2
open PySem PySem.Spec PyProof.Rows

inductive D where
  | non | bl (b : Bool) | int (i : Int) | str (x : Str) | tup (ds : List D) | lst (ds : List D) | dT (ks : List (List Key)) (vs : List D) | dK (ks : List Key) (vs : List D)

mutual
def D.beq : D → D → Bool
  | .non, .non => true
  | .bl a, .bl b => a == b
  | .int a, .int b => a == b
  | .str a, .str b => decide (a = b)
  | .tup a, .tup b => D.beqs a b
  | .lst a, .lst b => D.beqs a b
  | .dT ka a, .dT kb b => decide (ka = kb) && D.beqs a b
  | .dK ka a, .dK kb b => decide (ka = kb) && D.beqs a b
  | _, _ => false
def D.beqs : List D → List D → Bool
  | [], [] => true
  | a :: as, b :: bs => D.beq a b && D.beqs as bs
  | _, _ => false
end
mutual
theorem D.beq_iff : ∀ (a b : D), D.beq a b = true ↔ a = b
  | .non, b => by cases b <;> simp [D.beq]
  | .bl a, b => by cases b <;> simp [D.beq]
  | .int a, b => by cases b <;> simp [D.beq]
  | .str a, b => by cases b <;> simp [D.beq]
  | .tup a, b => by
    cases b with
    | tup b => simp only [D.beq, D.tup.injEq]; exact D.beqs_iff a b
    | _ => simp [D.beq]
  | .lst a, b => by
    cases b with
    | lst b => simp only [D.beq, D.lst.injEq]; exact D.beqs_iff a b
    | _ => simp [D.beq]
  | .dT ka a, b => by
    cases b with
    | dT kb b => simp only [D.beq, D.dT.injEq, Bool.and_eq_true, decide_eq_true_eq]; rw [D.beqs_iff a b]
    | _ => simp [D.beq]
  | .dK ka a, b => by
    cases b with
    | dK kb b => simp only [D.beq, D.dK.injEq, Bool.and_eq_true, decide_eq_true_eq]; rw [D.beqs_iff a b]
    | _ => simp [D.beq]
theorem D.beqs_iff : ∀ (a b : List D), D.beqs a b = true ↔ a = b
  | [], b => by cases b <;> simp [D.beqs]
  | a :: as, b => by
    cases b with
    | nil => simp [D.beqs]
    | cons b bs => simp only [D.beqs, Bool.and_eq_true, List.cons.injEq]; rw [D.beq_iff a b, D.beqs_iff as bs]
end
instance : DecidableEq D := fun a b => if h : D.beq a b = true then isTrue ((D.beq_iff a b).mp h) else isFalse fun e => h ((D.beq_iff a b).mpr e)

mutual

def D.flat : D → Bool
  | .non => true | .bl _ => true | .int _ => true | .str _ => true
  | .tup ds => D.flats ds
  | .lst _ => false | .dT _ _ => false | .dK _ _ => false
def D.flats : List D → Bool
  | [] => true
  | d :: ds => d.flat && D.flats ds
end
theorem D.flats_all : ∀ ds : List D, D.flats ds = ds.all D.flat
  | [] => rfl
  | d :: ds => by simp only [D.flats, List.all_cons, D.flats_all ds]

def LstS (K : PySem.W.Frag) (B : Addr → Prop) (H : Hp) (a : Addr) (xs : List V) : Prop :=
  (B a ∧ H a = some (.lst xs)) ∨ (∃ o, H a = some (.frz o (.lst xs))) ∨
    ∃ (o : Obj) (its : Array Value) (n : Nat), K.lookup a = some o ∧ o.cls = .type "list" ∧ o.dict = none ∧ o.data = .seq its n ∧ its.size ≤ sizeLine ∧ Vals xs its.toList
theorem LstS.sq {K : PySem.W.Frag} {B : Addr → Prop} {H : Hp} {a : Addr} {xs : List V} (h : LstS K B H a xs) : SqL K H a xs := by
  rcases h with ⟨_, h⟩ | ⟨o, h⟩ | h
  · exact .inl (.inl h)
  · exact .inl (.inr ⟨o, h⟩)
  · exact .inr h
def DicTS (B : Addr → Prop) (H : Hp) (a : Addr) (kvs : List (List Key × V)) : Prop := (B a ∧ H a = some (.dT kvs)) ∨ ∃ o, H a = some (.frz o (.dT kvs))
def DicKS (B : Addr → Prop) (H : Hp) (a : Addr) (kvs : List (Key × V)) : Prop := (B a ∧ H a = some (.dK kvs)) ∨ ∃ o, H a = some (.frz o (.dK kvs))

mutual
def Rep (K : PySem.W.Frag) (B : Addr → Prop) (H : Hp) : D → V → Prop
  | .non, v => v = .non
  | .bl b, v => v = .bl b
  | .int i, v => v = .int i
  | .str x, v => v = .str x
  | .tup ds, v => ∃ a xs, v = .ref a ∧ H a = some (.tup xs) ∧ Reps K B H ds xs
  | .lst ds, v => ∃ a xs, v = .ref a ∧ LstS K B H a xs ∧ Reps K B H ds xs
  | .dT ks ds, v => ∃ a kvs, v = .ref a ∧ DicTS B H a kvs ∧ kvs.map (·.1) = ks ∧ Reps K B H ds (kvs.map (·.2))
  | .dK ks ds, v => ∃ a kvs, v = .ref a ∧ DicKS B H a kvs ∧ kvs.map (·.1) = ks ∧ Reps K B H ds (kvs.map (·.2))
def Reps (K : PySem.W.Frag) (B : Addr → Prop) (H : Hp) : List D → List V → Prop
  | [], xs => xs = []
  | d :: ds, xs => ∃ x r, xs = x :: r ∧ Rep K B H d x ∧ Reps K B H ds r
end

structure Ext (B : Addr → Prop) (H H' : Hp) : Prop where
  tups : ∀ a xs, H a = some (.tup xs) → H' a = some (.tup xs)
  frzs : ∀ a o u, H a = some (.frz o u) → H' a = some (.frz o u)
  lent : ∀ a, B a → H' a = H a
theorem Ext.refl {B : Addr → Prop} {H : Hp} : Ext B H H := ⟨fun _ _ h => h, fun _ _ _ h => h, fun _ _ => rfl⟩
theorem Ext.trans {B : Addr → Prop} {H H1 H2 : Hp} (a : Ext B H H1) (b : Ext B H1 H2) : Ext B H H2 :=
  ⟨fun x y h => b.tups x y (a.tups x y h), fun x y z h => b.frzs x y z (a.frzs x y z h), fun x h => (b.lent x h).trans (a.lent x h)⟩
section
variable {K : PySem.W.Frag} {B B' : Addr → Prop} {H H' : Hp}
theorem SqT.ext {a : Addr} {xs : List V} (h : SqT K H a xs) (t : ∀ a xs, H a = some (.tup xs) → H' a = some (.tup xs)) (f : ∀ a o u, H a = some (.frz o u) → H' a = some (.frz o u)) : SqT K H' a xs := by
  rcases h with (h | ⟨o, h⟩) | h
  · exact .inl (.inl (t _ _ h))
  · exact .inl (.inr ⟨o, f _ _ _ h⟩)
  · exact .inr h
theorem LstS.ext {a : Addr} {xs : List V} (h : LstS K B H a xs) (e : Ext B H H') : LstS K B H' a xs := by
  rcases h with ⟨b, h⟩ | ⟨o, h⟩ | h
  · exact .inl ⟨b, (e.lent a b).trans h⟩
  · exact .inr (.inl ⟨o, e.frzs _ _ _ h⟩)
  · exact .inr (.inr h)
theorem LstS.more {a : Addr} {xs : List V} (h : LstS K B H a xs) (e : ∀ a, B a → B' a) : LstS K B' H a xs := by
  rcases h with ⟨b, h⟩ | h | h
  · exact .inl ⟨e a b, h⟩
  · exact .inr (.inl h)
  · exact .inr (.inr h)
theorem DicTS.ext {a : Addr} {xs : List (List Key × V)} (h : DicTS B H a xs) (e : Ext B H H') : DicTS B H' a xs := by
  rcases h with ⟨b, h⟩ | ⟨o, h⟩
  · exact .inl ⟨b, (e.lent a b).trans h⟩
  · exact .inr ⟨o, e.frzs _ _ _ h⟩
theorem DicKS.ext {a : Addr} {xs : List (Key × V)} (h : DicKS B H a xs) (e : Ext B H H') : DicKS B H' a xs := by
  rcases h with ⟨b, h⟩ | ⟨o, h⟩
  · exact .inl ⟨b, (e.lent a b).trans h⟩
  · exact .inr ⟨o, e.frzs _ _ _ h⟩
mutual
theorem Rep.ext (e : Ext B H H') : ∀ {d : D} {v : V}, Rep K B H d v → Rep K B H' d v
  | .non, v, h => by simpa only [Rep] using h
  | .bl b, v, h => by simpa only [Rep] using h
  | .int i, v, h => by simpa only [Rep] using h
  | .str x, v, h => by simpa only [Rep] using h
  | .tup ds, v, h => by
    simp only [Rep] at h ⊢
    obtain ⟨a, xs, hv, hq, hr⟩ := h
    exact ⟨a, xs, hv, e.tups _ _ hq, Reps.ext e hr⟩
  | .lst ds, v, h => by
    simp only [Rep] at h ⊢
    obtain ⟨a, xs, hv, hq, hr⟩ := h
    exact ⟨a, xs, hv, hq.ext e, Reps.ext e hr⟩
  | .dT ks ds, v, h => by
    simp only [Rep] at h ⊢
    obtain ⟨a, xs, hv, hq, hk, hr⟩ := h
    exact ⟨a, xs, hv, hq.ext e, hk, Reps.ext e hr⟩
  | .dK ks ds, v, h => by
    simp only [Rep] at h ⊢
    obtain ⟨a, xs, hv, hq, hk, hr⟩ := h
    exact ⟨a, xs, hv, hq.ext e, hk, Reps.ext e hr⟩
theorem Reps.ext (e : Ext B H H') : ∀ {ds : List D} {xs : List V}, Reps K B H ds xs → Reps K B H' ds xs
  | [], xs, h => by simpa only [Reps] using h
  | d :: ds, xs, h => by
    simp only [Reps] at h ⊢
    obtain ⟨x, r, hx, h1, h2⟩ := h
    exact ⟨x, r, hx, Rep.ext e h1, Reps.ext e h2⟩
end
mutual
theorem Rep.more (e : ∀ a, B a → B' a) : ∀ {d : D} {v : V}, Rep K B H d v → Rep K B' H d v
  | .non, v, h => by simpa only [Rep] using h
  | .bl b, v, h => by simpa only [Rep] using h
  | .int i, v, h => by simpa only [Rep] using h
  | .str x, v, h => by simpa only [Rep] using h
  | .tup ds, v, h => by
    simp only [Rep] at h ⊢
    obtain ⟨a, xs, hv, hq, hr⟩ := h
    exact ⟨a, xs, hv, hq, Reps.more e hr⟩
  | .lst ds, v, h => by
    simp only [Rep] at h ⊢
    obtain ⟨a, xs, hv, hq, hr⟩ := h
    exact ⟨a, xs, hv, hq.more e, Reps.more e hr⟩
  | .dT ks ds, v, h => by
    simp only [Rep] at h ⊢
    obtain ⟨a, xs, hv, hq, hk, hr⟩ := h
    exact ⟨a, xs, hv, hq.imp (fun z => ⟨e a z.1, z.2⟩) fun z => z, hk, Reps.more e hr⟩
  | .dK ks ds, v, h => by
    simp only [Rep] at h ⊢
    obtain ⟨a, xs, hv, hq, hk, hr⟩ := h
    exact ⟨a, xs, hv, hq.imp (fun z => ⟨e a z.1, z.2⟩) fun z => z, hk, Reps.more e hr⟩
theorem Reps.more (e : ∀ a, B a → B' a) : ∀ {ds : List D} {xs : List V}, Reps K B H ds xs → Reps K B' H ds xs
  | [], xs, h => by simpa only [Reps] using h
  | d :: ds, xs, h => by
    simp only [Reps] at h ⊢
    obtain ⟨x, r, hx, h1, h2⟩ := h
    exact ⟨x, r, hx, Rep.more e h1, Reps.more e h2⟩
end
mutual

theorem Rep.flat : ∀ {d : D} {v : V}, d.flat = true → Rep K B H d v → Rep K B' H d v
  | .non, v, _, h => by simpa only [Rep] using h
  | .bl b, v, _, h => by simpa only [Rep] using h
  | .int i, v, _, h => by simpa only [Rep] using h
  | .str x, v, _, h => by simpa only [Rep] using h
  | .tup ds, v, f, h => by
    simp only [Rep] at h ⊢
    simp only [D.flat] at f
    obtain ⟨a, xs, hv, hq, hr⟩ := h
    exact ⟨a, xs, hv, hq, Reps.flat f hr⟩
  | .lst ds, v, f, _ => by simp [D.flat] at f
  | .dT _ _, v, f, _ => by simp [D.flat] at f
  | .dK _ _, v, f, _ => by simp [D.flat] at f
theorem Reps.flat : ∀ {ds : List D} {xs : List V}, D.flats ds = true → Reps K B H ds xs → Reps K B' H ds xs
  | [], xs, _, h => by simpa only [Reps] using h
  | d :: ds, xs, f, h => by
    simp only [Reps] at h ⊢
    simp only [D.flats, Bool.and_eq_true] at f
    obtain ⟨x, r, hx, h1, h2⟩ := h
    exact ⟨x, r, hx, Rep.flat f.1 h1, Reps.flat f.2 h2⟩
end
theorem Reps.length : ∀ {ds : List D} {xs : List V}, Reps K B H ds xs → ds.length = xs.length
  | [], xs, h => by simp only [Reps] at h; subst h; rfl
  | d :: ds, xs, h => by
    simp only [Reps] at h
    obtain ⟨x, r, hx, h1, h2⟩ := h
    subst hx
    simp only [List.length_cons, Reps.length h2]
theorem Reps.nil : Reps K B H [] [] := by simp only [Reps]
theorem Reps.cons {d : D} {ds : List D} {x : V} {xs : List V} (h : Rep K B H d x) (t : Reps K B H ds xs) : Reps K B H (d :: ds) (x :: xs) := by
  simp only [Reps]; exact ⟨x, xs, rfl, h, t⟩
theorem Reps.uncons {d : D} {ds : List D} {x : V} {xs : List V} (h : Reps K B H (d :: ds) (x :: xs)) : Rep K B H d x ∧ Reps K B H ds xs := by
  simp only [Reps] at h
  obtain ⟨y, r, e, h1, h2⟩ := h
  cases e
  exact ⟨h1, h2⟩
theorem Reps.get : ∀ {ds : List D} {xs : List V} {i : Nat} {d : D}, Reps K B H ds xs → ds[i]? = some d → ∃ x, xs[i]? = some x ∧ Rep K B H d x
  | [], _, _, _, _, e => by simp at e
  | d :: ds, xs, 0, e, h, he => by
    simp only [Reps] at h
    obtain ⟨x, r, hx, h1, h2⟩ := h
    subst hx
    simp at he; subst he
    exact ⟨x, rfl, h1⟩
  | d :: ds, xs, i + 1, e, h, he => by
    simp only [Reps] at h
    obtain ⟨x, r, hx, h1, h2⟩ := h
    subst hx
    exact Reps.get (i := i) h2 (by simpa using he)
theorem Reps.get' : ∀ {ds : List D} {xs : List V} {i : Nat} {x : V}, Reps K B H ds xs → xs[i]? = some x → ∃ d, ds[i]? = some d ∧ Rep K B H d x := fun {ds xs i x} h e => by
  have hl := h.length
  have hi : i < ds.length := by rw [hl]; exact (List.getElem?_eq_some_iff.mp e).1
  obtain ⟨y, hy, r⟩ := h.get (i := i) (d := ds[i]) (by simp [hi])
  rw [e] at hy; cases hy
  exact ⟨ds[i], by simp [hi], r⟩
theorem Reps.append : ∀ {ds es : List D} {xs ys : List V}, Reps K B H ds xs → Reps K B H es ys → Reps K B H (ds ++ es) (xs ++ ys)
  | [], es, xs, ys, h, t => by simp only [Reps] at h; subst h; simpa using t
  | d :: ds, es, xs, ys, h, t => by
    simp only [Reps] at h
    obtain ⟨x, r, hx, h1, h2⟩ := h
    subst hx
    exact Reps.cons h1 (Reps.append h2 t)
theorem Reps.take : ∀ {ds : List D} {xs : List V} (n : Nat), Reps K B H ds xs → Reps K B H (ds.take n) (xs.take n)
  | _, _, 0, _ => by simp only [List.take_zero]; exact Reps.nil
  | [], xs, n + 1, h => by simp only [Reps] at h; subst h; exact Reps.nil
  | d :: ds, xs, n + 1, h => by
    simp only [Reps] at h
    obtain ⟨x, r, hx, h1, h2⟩ := h
    subst hx
    exact Reps.cons h1 (Reps.take n h2)
theorem Reps.drop : ∀ {ds : List D} {xs : List V} (n : Nat), Reps K B H ds xs → Reps K B H (ds.drop n) (xs.drop n)
  | _, _, 0, h => h
  | [], xs, n + 1, h => by simp only [Reps] at h; subst h; exact Reps.nil
  | d :: ds, xs, n + 1, h => by
    simp only [Reps] at h
    obtain ⟨x, r, hx, h1, h2⟩ := h
    subst hx
    exact Reps.drop n h2
end

abbrev DEnv := List (Option (D × Bool))

def ObR (K : PySem.W.Frag) (B : Addr → Prop) (H : Hp) (d : D) (a : Addr) : Prop := match d with
  | .lst ds => ∃ xs, H a = some (.lst xs) ∧ Reps K B H ds xs
  | .dT ks ds => ∃ kvs, H a = some (.dT kvs) ∧ kvs.map (·.1) = ks ∧ Reps K B H ds (kvs.map (·.2))
  | .dK ks ds => ∃ kvs, H a = some (.dK kvs) ∧ kvs.map (·.1) = ks ∧ Reps K B H ds (kvs.map (·.2))
  | _ => False
structure Rel (K : PySem.W.Frag) (B : Addr → Prop) (Hk : Hp) (δ : DEnv) (σ : St) (H : Hp) : Prop where
  same : Same Hk H
  bor : ∀ a, B a → ∃ o, Hk a = some o
  len : δ.length = σ.length
  var : ∀ (i : Nat) d, δ[i]? = some (some (d, false)) → ∃ v, σ[i]? = some (some v) ∧ Rep K B H d v
  own : ∀ (i : Nat) d, δ[i]? = some (some (d, true)) → ∃ a, σ[i]? = some (some (.ref a)) ∧ Hk a = none ∧ ObR K B H d a
  dis : ∀ (i j : Nat) d e a, i ≠ j → δ[i]? = some (some (d, true)) → δ[j]? = some (some (e, true)) → σ[i]? = some (some (.ref a)) → σ[j]? = some (some (.ref a)) → False

def BO (B : Addr → Prop) (δ : DEnv) (σ : St) (a : Addr) : Prop := B a ∨ ∃ (i : Nat) (d : D), δ[i]? = some (some (d, true)) ∧ σ[i]? = some (some (.ref a))
def bset (m : Bool) (B : Addr → Prop) (δ : DEnv) (σ : St) : Addr → Prop := if m = true then BO B δ σ else B
section
variable {K : PySem.W.Frag} {B B' : Addr → Prop} {Hk H H' : Hp} {δ : DEnv} {σ : St}
theorem Same.ext (s : Same H H') (b : ∀ a, B a → ∃ o, H a = some o) : Ext B H H' :=
  ⟨fun a xs h => s a _ h, fun a o u h => s a _ h, fun a h => by obtain ⟨o, e⟩ := b a h; rw [e, s a o e]⟩
theorem ObR.ext {d : D} {a : Addr} (h : ObR K B H d a) (e : Ext B H H') (ha : ∀ o, H a = some o → H' a = some o) : ObR K B H' d a := by
  cases d with
  | lst ds => obtain ⟨xs, h1, h2⟩ := h; exact ⟨xs, ha _ h1, h2.ext e⟩
  | dT ks ds => obtain ⟨xs, h1, h0, h2⟩ := h; exact ⟨xs, ha _ h1, h0, h2.ext e⟩
  | dK ks ds => obtain ⟨xs, h1, h0, h2⟩ := h; exact ⟨xs, ha _ h1, h0, h2.ext e⟩
  | _ => exact (show False from h).elim
theorem ObR.there {d : D} {a : Addr} (h : ObR K B H d a) : ∃ o, H a = some o := by
  cases d with
  | lst ds => obtain ⟨xs, h1, h2⟩ := h; exact ⟨_, h1⟩
  | dT ks ds => obtain ⟨xs, h1, h0, h2⟩ := h; exact ⟨_, h1⟩
  | dK ks ds => obtain ⟨xs, h1, h0, h2⟩ := h; exact ⟨_, h1⟩
  | _ => exact (show False from h).elim
theorem Rel.borH (R : Rel K B Hk δ σ H) : ∀ a, B a → ∃ o, H a = some o := fun a h => by
  obtain ⟨o, e⟩ := R.bor a h
  exact ⟨o, R.same a o e⟩
theorem Rel.boH (R : Rel K B Hk δ σ H) : ∀ a, BO B δ σ a → ∃ o, H a = some o := fun a h => by
  rcases h with h | ⟨i, d, h1, h2⟩
  · exact R.borH a h
  · obtain ⟨b, e, _, ob⟩ := R.own i d h1
    rw [h2] at e; cases e
    exact ob.there
theorem Rel.bsH (R : Rel K B Hk δ σ H) (m : Bool) : ∀ a, bset m B δ σ a → ∃ o, H a = some o := by
  unfold bset
  cases m with
  | true => exact R.boH
  | false => exact R.borH
theorem Rel.to (R : Rel K B Hk δ σ H) (s : Same H H') : Rel K B Hk δ σ H' := by
  have e : Ext B H H' := s.ext R.borH
  refine ⟨R.same.trans s, R.bor, R.len, fun i d h => ?_, fun i d h => ?_, R.dis⟩
  · obtain ⟨v, h1, h2⟩ := R.var i d h
    exact ⟨v, h1, h2.ext e⟩
  · obtain ⟨a, h1, h2, h3⟩ := R.own i d h
    exact ⟨a, h1, h2, h3.ext e fun o q => s a o q⟩
theorem Rep.same {m : Bool} {d : D} {v : V} (r : Rep K (bset m B δ σ) H d v) (R : Rel K B Hk δ σ H) (s : Same H H') : Rep K (bset m B δ σ) H' d v := r.ext (s.ext (R.bsH m))
theorem Reps.same {m : Bool} {d : List D} {v : List V} (r : Reps K (bset m B δ σ) H d v) (R : Rel K B Hk δ σ H) (s : Same H H') : Reps K (bset m B δ σ) H' d v := r.ext (s.ext (R.bsH m))
theorem bset_of (m : Bool) : ∀ a, B a → bset m B δ σ a := fun a h => by
  unfold bset
  cases m with
  | true => exact .inl h
  | false => exact h

theorem ObR.rep {d : D} {a : Addr} (h : ObR K B H d a) (hb : B' a) (hs : ∀ a, B a → B' a) : Rep K B' H d (.ref a) := by
  cases d with
  | lst ds => obtain ⟨xs, h1, h2⟩ := h; simp only [Rep]; exact ⟨a, xs, rfl, .inl ⟨hb, h1⟩, h2.more hs⟩
  | dT ks ds => obtain ⟨xs, h1, h0, h2⟩ := h; simp only [Rep]; exact ⟨a, xs, rfl, .inl ⟨hb, h1⟩, h0, h2.more hs⟩
  | dK ks ds => obtain ⟨xs, h1, h0, h2⟩ := h; simp only [Rep]; exact ⟨a, xs, rfl, .inl ⟨hb, h1⟩, h0, h2.more hs⟩
  | _ => exact (show False from h).elim
end
end L2

end

section
set_option maxHeartbeats 1000000
namespace L2
open PySem PySem.Spec PyProof.Rows

theorem PE.imp {X : Cx} {e : Expr} {t t' : TE} (h : PE X e t) (i : ∀ σ H Q, t' σ H Q → t σ H Q) : PE X e t' := fun pins s σ H Q I q => h pins s σ H Q I (i σ H Q q)
theorem PT.imp {X : Cx} {e : Expr} {t t' : TT} (h : PT X e t) (i : ∀ σ H Q, t' σ H Q → t σ H Q) : PT X e t' := fun pins s σ H Q I q => h pins s σ H Q I (i σ H Q q)
theorem PW.imp {X : Cx} {e : Expr} {t t' : TT} (h : PW X e t) (i : ∀ σ H Q, t' σ H Q → t σ H Q) : PW X e t' := fun whole pins s σ H Q I q => h whole pins s σ H Q I (i σ H Q q)
theorem PA.imp {X : Cx} {e : List Expr} {t t' : TA} (h : PA X e t) (i : ∀ σ H Q, t' σ H Q → t σ H Q) : PA X e t' := fun pos pins s σ H Q I q => h pos pins s σ H Q I (i σ H Q q)
theorem PI.imp {X : Cx} {tg e : Expr} {t t' : TI} (h : PI X tg e t) (i : ∀ σ H Q, t' σ H Q → t σ H Q) : PI X tg e t' := fun pins s σ H Q I q => h pins s σ H Q I (i σ H Q q)
theorem PS.imp {X : Cx} {e : Stmt} {t t' : TS} (h : PS X e t) (i : ∀ D σ H, t' D σ H → t D σ H) : PS X e t' := fun pins s σ H D I q => h pins s σ H D I (i D σ H q)
theorem PSs.imp {X : Cx} {e : List Stmt} {t t' : TS} (h : PSs X e t) (i : ∀ D σ H, t' D σ H → t D σ H) : PSs X e t' := fun pins s σ H D I q => h pins s σ H D I (i D σ H q)

def tM (K : PySem.W.Frag) (m : Bool) (f : DEnv → Option D) : TE := fun σ H Q => ∃ B Hk δ d, Rel K B Hk δ σ H ∧ f δ = some d ∧ ∀ v H', Same H H' → Rep K (bset m B δ σ) H' d v → Q v H'

def tF (K : PySem.W.Frag) (f : DEnv → Option D) : TE := fun σ H Q => ∃ B Hk δ d, Rel K B Hk δ σ H ∧ f δ = some d ∧ ∀ a H', Same H H' → H a = none → ObR K B H' d a → Q (.ref a) H'
def tMT (K : PySem.W.Frag) (f : DEnv → Option Bool) : TT := fun σ H Q => ∃ B Hk δ d, Rel K B Hk δ σ H ∧ f δ = some d ∧ ∀ H', Same H H' → Q d H'
def tMA (K : PySem.W.Frag) (m : Bool) (f : DEnv → Option (List D)) : TA := fun σ H Q => ∃ B Hk δ ds, Rel K B Hk δ σ H ∧ f δ = some ds ∧ ∀ vs H', Same H H' → Reps K (bset m B δ σ) H' ds vs → Q vs H'
abbrev DE (X : Cx) (m : Bool) (e : Expr) (f : DEnv → Option D) : Prop := PE X e (tM X.K m f)
abbrev DF (X : Cx) (e : Expr) (f : DEnv → Option D) : Prop := PE X e (tF X.K f)
abbrev DT (X : Cx) (e : Expr) (f : DEnv → Option Bool) : Prop := PT X e (tMT X.K f)
abbrev DA (X : Cx) (m : Bool) (es : List Expr) (f : DEnv → Option (List D)) : Prop := PA X es (tMA X.K m f)

section
variable {X : Cx} {m m' : Bool} {a b : Expr} {fa fb : DEnv → Option D} {pos : Pos}
theorem DE.lend (h : DE X false a fa) : DE X m a fa := h.imp fun σ H Q ⟨B, Hk, δ, d, R, e, k⟩ => ⟨B, Hk, δ, d, R, e, fun v H' s r => k v H' s (Rep.more (fun a h => bset_of m a h) r)⟩
def flatO (x : Option D) : Option D := match x with | some d => if d.flat = true then some d else none | none => none
theorem flatO_some {x : Option D} {d : D} (h : flatO x = some d) : x = some d ∧ d.flat = true := by
  unfold flatO at h
  cases x with
  | none => cases h
  | some e =>
    simp only at h
    by_cases q : e.flat = true
    · rw [if_pos q] at h; cases h; exact ⟨rfl, q⟩
    · rw [if_neg q] at h; cases h
theorem flatO_of {d : D} (h : d.flat = true) : flatO (some d) = some d := by unfold flatO; simp only [if_pos h]

theorem DE.keep (h : DE X m a fa) : DE X m' a (fun δ => flatO (fa δ)) := h.imp fun σ H Q ⟨B, Hk, δ, d, R, e, k⟩ => by
  obtain ⟨e1, e2⟩ := flatO_some e
  exact ⟨B, Hk, δ, d, R, e1, fun v H' s r => k v H' s (Rep.flat e2 r)⟩

def rd (m : Bool) (i : Nat) (δ : DEnv) : Option D := match δ[i]? with | some (some (d, o)) => if (o && !m) = true then none else some d | _ => none
theorem rd_some {m : Bool} {i : Nat} {δ : DEnv} {d : D} (h : rd m i δ = some d) : ∃ o, δ[i]? = some (some (d, o)) ∧ (o = true → m = true) := by
  unfold rd at h
  split at h
  · rename_i d' o e
    by_cases q : (o && !m) = true
    · rw [if_pos q] at h; cases h
    · rw [if_neg q] at h; cases h
      refine ⟨o, e, fun z => ?_⟩
      subst z
      cases m with
      | true => rfl
      | false => simp at q
  · cases h
theorem Rel.rd {K : PySem.W.Frag} {B : Addr → Prop} {Hk H : Hp} {δ : DEnv} {σ : St} {i : Nat} {d : D} (R : Rel K B Hk δ σ H) (h : rd m i δ = some d) : ∃ v, σ[i]? = some (some v) ∧ Rep K (bset m B δ σ) H d v := by
  obtain ⟨o, e, ho⟩ := rd_some h
  cases o with
  | false =>
    obtain ⟨v, h1, h2⟩ := R.var i d e
    exact ⟨v, h1, h2.more fun a h => bset_of m a h⟩
  | true =>
    obtain ⟨a, h1, h2, h3⟩ := R.own i d e
    obtain rfl := ho rfl
    exact ⟨_, h1, h3.rep (B' := bset true B δ σ) (by unfold bset; rw [if_pos rfl]; exact .inr ⟨i, d, e, h1⟩) fun a h => bset_of true a h⟩
theorem de_var {i : Nat} {x : Str} (hN : X.N[i]? = some x) (hv : Vis X.env.scope x) (hd : (x == ("__debug__" : Str)) = false := by decide) (hcd : (x == ("__classdict__" : Str)) = false := by decide) : DE X m (.Name x pos) (rd m i) :=
  (pe_var hN hv hd hcd).imp fun σ H Q ⟨B, Hk, δ, d, R, e, k⟩ => by
    obtain ⟨v, h1, h2⟩ := R.rd e
    exact ⟨v, h1, k v H (Same.refl H) h2⟩
theorem dv (m : Bool) (i : Nat) {x : Str} {pos : Pos} (hN : X.N[i]? = some x := by rfl) (hv : Vis X.env.scope x := by first | exact Or.inl rfl | exact Or.inr (Or.inl rfl) | exact Or.inr (Or.inr rfl)) (hd : (x == ("__debug__" : Str)) = false := by decide)
    (hcd : (x == ("__classdict__" : Str)) = false := by decide) : DE X m (.Name x pos) (rd m i) := de_var hN hv hd hcd

theorem de_int {i : Int} {j : Nat} : DE X m (.Constant (.int i) j pos) (fun _ => some (.int i)) := pe_int.imp fun σ H Q ⟨B, Hk, δ, d, R, e, k⟩ => by cases e; exact k _ H (Same.refl H) rfl
theorem de_str {x : Str} {j : Nat} : DE X m (.Constant (.str x) j pos) (fun _ => some (.str x)) := pe_str.imp fun σ H Q ⟨B, Hk, δ, d, R, e, k⟩ => by cases e; exact k _ H (Same.refl H) rfl
theorem de_bl {x : Bool} {j : Nat} : DE X m (.Constant (.bool x) j pos) (fun _ => some (.bl x)) := pe_bl.imp fun σ H Q ⟨B, Hk, δ, d, R, e, k⟩ => by cases e; exact k _ H (Same.refl H) rfl
theorem de_non {j : Nat} : DE X m (.Constant .none j pos) (fun _ => some .non) := pe_non.imp fun σ H Q ⟨B, Hk, δ, d, R, e, k⟩ => by cases e; exact k _ H (Same.refl H) rfl

theorem two {K : PySem.W.Frag} {σ : St} {H : Hp} {B : Addr → Prop} {Hk : Hp} {δ : DEnv} {d1 d2 : D} {P : V → V → Hp → Prop} (R : Rel K B Hk δ σ H) (e1 : fa δ = some d1) (e2 : fb δ = some d2)
    (k : ∀ v u H', Same H H' → Rel K B Hk δ σ H' → Rep K (bset m B δ σ) H' d1 v → Rep K (bset m' B δ σ) H' d2 u → P v u H') : tM K m fa σ H fun x H1 => tM K m' fb σ H1 fun y H2 => P x y H2 :=
  ⟨B, Hk, δ, d1, R, e1, fun v H1 s1 r1 => ⟨B, Hk, δ, d2, R.to s1, e2, fun u H2 s2 r2 => k v u H2 (s1.trans s2) (R.to (s1.trans s2)) (r1.same (R.to s1) s2) r2⟩⟩

def bI (C : Int → Int → Bool) (g : Int → Int → D) (x y : Option D) : Option D := match x, y with | some (.int i), some (.int j) => if C i j = true then some (g i j) else none | _, _ => none
theorem bI_some {C : Int → Int → Bool} {g : Int → Int → D} {x y : Option D} {d : D} (h : bI C g x y = some d) : ∃ i j, x = some (.int i) ∧ y = some (.int j) ∧ C i j = true ∧ d = g i j := by
  unfold bI at h
  split at h
  · rename_i i j
    by_cases q : C i j = true
    · rw [if_pos q] at h; cases h; exact ⟨i, j, rfl, rfl, q, rfl⟩
    · rw [if_neg q] at h; cases h
  · cases h
theorem bI_eq {C : Int → Int → Bool} {g : Int → Int → D} {i j : Int} (h : C i j = true) : bI C g (some (.int i)) (some (.int j)) = some (g i j) := by unfold bI; simp only [if_pos h]
def cT : Int → Int → Bool := fun _ _ => true
def cMul : Int → Int → Bool := fun i j => decide ((-(2 ^ 64) < i ∧ i < 2 ^ 64) ∨ (-(2 ^ 64) < j ∧ j < 2 ^ 64))
def cDiv : Int → Int → Bool := fun _ j => decide (0 < j ∧ j < 1073741824)
def cMod : Int → Int → Bool := fun _ j => decide (0 < j)
theorem de_op {op : Operator} {C : Int → Int → Bool} {g : Int → Int → Int} {r : R2} {mm : Bool} (ho : OpR X (binaryOp op) r) (hr : ∀ i j H Q, C i j = true → Q (V.int (g i j)) H → r (.int i) (.int j) H Q) (ha : DE X m a fa) (hb : DE X m' b fb) :
    DE X mm (.BinOp a op b pos) (fun δ => bI C (fun i j => .int (g i j)) (fa δ) (fb δ)) :=
  (pe_op ho ha hb).imp fun σ H Q ⟨B, Hk, δ, d, R, e, k⟩ => by
    obtain ⟨i, j, e1, e2, hc, rfl⟩ := bI_some e
    refine two R e1 e2 fun v u H' s R' r1 r2 => ?_
    simp only [Rep] at r1 r2
    subst r1 r2
    exact hr i j H' Q hc (k _ H' s (by simp only [Rep]))
def addI (x y : Option D) : Option D := bI cT (fun i j => .int (i + j)) x y
def subI (x y : Option D) : Option D := bI cT (fun i j => .int (i - j)) x y
def mulI (x y : Option D) : Option D := bI cMul (fun i j => .int (i * j)) x y
def divI (x y : Option D) : Option D := bI cDiv (fun i j => .int (i / j)) x y
def modI (x y : Option D) : Option D := bI cMod (fun i j => .int (i % j)) x y
theorem de_add {mm : Bool} (ha : DE X m a fa) (hb : DE X m' b fb) : DE X mm (.BinOp a .Add b pos) (fun δ => addI (fa δ) (fb δ)) := de_op op_add (fun i j H Q _ q => ⟨i, j, rfl, rfl, q⟩) ha hb
theorem de_sub {mm : Bool} (ha : DE X m a fa) (hb : DE X m' b fb) : DE X mm (.BinOp a .Sub b pos) (fun δ => subI (fa δ) (fb δ)) := de_op op_sub (fun i j H Q _ q => ⟨i, j, rfl, rfl, q⟩) ha hb
theorem de_mul {mm : Bool} (ha : DE X m a fa) (hb : DE X m' b fb) : DE X mm (.BinOp a .Mult b pos) (fun δ => mulI (fa δ) (fb δ)) := de_op op_mul (fun i j H Q c q => ⟨i, j, rfl, rfl, (show (-(2 ^ 64) < i ∧ i < 2 ^ 64) ∨ (-(2 ^ 64) < j ∧ j < 2 ^ 64) from of_decide_eq_true c), q⟩) ha hb
theorem de_div {mm : Bool} (ha : DE X m a fa) (hb : DE X m' b fb) : DE X mm (.BinOp a .FloorDiv b pos) (fun δ => divI (fa δ) (fb δ)) := de_op op_fdiv (fun i j H Q c q => ⟨i, j, rfl, rfl, (show 0 < j ∧ j < 1073741824 from of_decide_eq_true c), q⟩) ha hb
theorem de_mod {mm : Bool} (ha : DE X m a fa) (hb : DE X m' b fb) : DE X mm (.BinOp a .Mod b pos) (fun δ => modI (fa δ) (fb δ)) := de_op op_mod (fun i j H Q c q => ⟨i, j, rfl, rfl, (show 0 < j from of_decide_eq_true c), q⟩) ha hb

theorem de_cmp {op : CmpOp} {g : Int → Int → Bool} {mm : Bool} (ho : OpR X (compareOp op) (rI0 fun i j => .bl (g i j))) (hm : behindInMarks op b = false) (ha : DE X m a fa) (hb : DE X m' b fb) :
    DE X mm (.Compare a [op] [b] pos) (fun δ => bI cT (fun i j => .bl (g i j)) (fa δ) (fb δ)) :=
  (pe_cmpR ho ha hb hm).imp fun σ H Q ⟨B, Hk, δ, d, R, e, k⟩ => by
    obtain ⟨i, j, e1, e2, hc, rfl⟩ := bI_some e
    refine two R e1 e2 fun v u H' s R' r1 r2 => ?_
    simp only [Rep] at r1 r2
    subst r1 r2
    exact ⟨i, j, rfl, rfl, k _ H' s (by simp only [Rep])⟩
def cI (g : Int → Int → Bool) (x y : Option D) : Option Bool := match x, y with | some (.int i), some (.int j) => some (g i j) | _, _ => none
theorem cI_some {g : Int → Int → Bool} {x y : Option D} {c : Bool} (h : cI g x y = some c) : ∃ i j, x = some (.int i) ∧ y = some (.int j) ∧ c = g i j := by
  unfold cI at h
  split at h
  · rename_i i j; cases h; exact ⟨i, j, rfl, rfl, rfl⟩
  · cases h
theorem dt_cmp {op : CmpOp} {g : Int → Int → Bool} (ho : OpR X (compareOp op) (rI0 fun i j => .bl (g i j))) (hm : behindInMarks op b = false) (ha : DE X m a fa) (hb : DE X m' b fb) :
    DT X (.Compare a [op] [b] pos) (fun δ => cI g (fa δ) (fb δ)) :=
  (pt_cmpR ho ha hb hm).imp fun σ H Q ⟨B, Hk, δ, d, R, e, k⟩ => by
    obtain ⟨i, j, e1, e2, rfl⟩ := cI_some e
    refine two R e1 e2 fun v u H' s R' r1 r2 => ?_
    simp only [Rep] at r1 r2
    subst r1 r2
    exact ⟨i, j, rfl, rfl, _, rfl, k H' s⟩
abbrev gLt : Int → Int → Bool := fun i j => decide (i < j)
abbrev gLe : Int → Int → Bool := fun i j => decide (i ≤ j)
abbrev gGt : Int → Int → Bool := fun i j => decide (j < i)
abbrev gGe : Int → Int → Bool := fun i j => decide (j ≤ i)

def tyB (x : Option D) : Option Bool := match x with | some (.bl b) => some b | _ => none
def ofB (x : Option Bool) : Option D := match x with | some b => some (.bl b) | none => none
theorem tyB_some {x : Option D} {c : Bool} (h : tyB x = some c) : x = some (.bl c) := by
  unfold tyB at h
  split at h
  · cases h; rfl
  · cases h

theorem dt_val (ha : DE X m a fa) (he : ∀ whole, isTrue a X.env whole = (do let v ← whole; standAt a.pos; holding [v] (truthy v)) := by intro _; rfl) : DT X a (fun δ => tyB (fa δ)) :=
  (pt_val ha he).imp fun σ H Q ⟨B, Hk, δ, d, R, e, k⟩ => ⟨B, Hk, δ, _, R, tyB_some e, fun v H' s r => by
    simp only [Rep] at r
    subst r
    exact ⟨d, rfl, k H' s⟩⟩
variable {fc ga gb : DEnv → Option Bool} {rest : List Expr}
def andO (x y : Option Bool) : Option Bool := match x with | some true => y | some false => some false | none => none
def orO (x y : Option Bool) : Option Bool := match x with | some true => some true | some false => y | none => none
def notO (x : Option Bool) : Option Bool := match x with | some c => some (!c) | none => none
abbrev DW (X : Cx) (e : Expr) (f : DEnv → Option Bool) : Prop := PW X e (tMT X.K f)
theorem dw_and1 (ha : DT X a ga) : DW X (.BoolOp .And [a] pos) ga := pw_and1 ha
theorem dw_or1 (ha : DT X a ga) : DW X (.BoolOp .Or [a] pos) ga := pw_or1 ha
theorem dw_and (ha : DT X a ga) (hb : DW X (.BoolOp .And (b :: rest) pos) gb) : DW X (.BoolOp .And (a :: b :: rest) pos) (fun δ => andO (ga δ) (gb δ)) :=
  (pw_and ha hb).imp fun σ H Q ⟨B, Hk, δ, d, R, e, k⟩ => by
    unfold andO at e
    dsimp only at e
    split at e
    · rename_i q
      exact ⟨B, Hk, δ, true, R, q, fun H1 s1 => iteT (⟨B, Hk, δ, d, R.to s1, e, fun H2 s2 => k H2 (s1.trans s2)⟩)⟩
    · rename_i q; cases e
      exact ⟨B, Hk, δ, false, R, q, fun H1 s1 => iteF (k H1 s1)⟩
    · cases e
theorem dw_or (ha : DT X a ga) (hb : DW X (.BoolOp .Or (b :: rest) pos) gb) : DW X (.BoolOp .Or (a :: b :: rest) pos) (fun δ => orO (ga δ) (gb δ)) :=
  (pw_or ha hb).imp fun σ H Q ⟨B, Hk, δ, d, R, e, k⟩ => by
    unfold orO at e
    dsimp only at e
    split at e
    · rename_i q; cases e
      exact ⟨B, Hk, δ, true, R, q, fun H1 s1 => iteT (k H1 s1)⟩
    · rename_i q
      exact ⟨B, Hk, δ, false, R, q, fun H1 s1 => iteF (⟨B, Hk, δ, d, R.to s1, e, fun H2 s2 => k H2 (s1.trans s2)⟩)⟩
    · cases e
theorem dt_not (ha : DT X a ga) : DT X (.UnaryOp .Not a pos) (fun δ => notO (ga δ)) :=
  (pt_not ha).imp fun σ H Q ⟨B, Hk, δ, d, R, e, k⟩ => by
    dsimp only [notO] at e
    split at e
    · rename_i c q; cases e
      exact ⟨B, Hk, δ, c, R, q, fun H1 s1 => k H1 s1⟩
    · cases e

theorem de_one {op : BoolOp} {mm : Bool} (ha : DE X m a fa) (hk : m = mm := by rfl) : DE X mm (.BoolOp op [a] pos) fa := by subst hk; exact pe_one ha
theorem de_and {mm : Bool} (ha : DE X m a fa) (hb : DE X mm (.BoolOp .And (b :: rest) pos) fb) : DE X mm (.BoolOp .And (a :: b :: rest) pos) (fun δ => match tyB (fa δ) with | some true => fb δ | some false => some (.bl false) | none => none) :=
  (pe_and ha hb).imp fun σ H Q ⟨B, Hk, δ, d, R, e, k⟩ => by
    dsimp only at e
    split at e
    · rename_i q
      exact ⟨B, Hk, δ, _, R, tyB_some q, fun v H1 s1 r => by
        simp only [Rep] at r
        exact ⟨true, r, by rw [if_pos rfl]; exact ⟨B, Hk, δ, d, R.to s1, e, fun v H2 s2 => k v H2 (s1.trans s2)⟩⟩⟩
    · rename_i q; cases e
      exact ⟨B, Hk, δ, _, R, tyB_some q, fun v H1 s1 r => by
        simp only [Rep] at r
        exact ⟨false, r, by rw [if_neg Bool.false_ne_true]; exact k _ H1 s1 (by simp only [Rep])⟩⟩
    · cases e
theorem de_or {mm : Bool} (ha : DE X m a fa) (hb : DE X mm (.BoolOp .Or (b :: rest) pos) fb) : DE X mm (.BoolOp .Or (a :: b :: rest) pos) (fun δ => match tyB (fa δ) with | some true => some (.bl true) | some false => fb δ | none => none) :=
  (pe_or ha hb).imp fun σ H Q ⟨B, Hk, δ, d, R, e, k⟩ => by
    dsimp only at e
    split at e
    · rename_i q; cases e
      exact ⟨B, Hk, δ, _, R, tyB_some q, fun v H1 s1 r => by
        simp only [Rep] at r
        exact ⟨true, r, by rw [if_pos rfl]; exact k _ H1 s1 (by simp only [Rep])⟩⟩
    · rename_i q
      exact ⟨B, Hk, δ, _, R, tyB_some q, fun v H1 s1 r => by
        simp only [Rep] at r
        exact ⟨false, r, by rw [if_neg Bool.false_ne_true]; exact ⟨B, Hk, δ, d, R.to s1, e, fun v H2 s2 => k v H2 (s1.trans s2)⟩⟩⟩
    · cases e
theorem de_not {mm : Bool} (ha : DE X m a fa) : DE X mm (.UnaryOp .Not a pos) (fun δ => ofB (notO (tyB (fa δ)))) :=
  (pe_not ha).imp fun σ H Q ⟨B, Hk, δ, d, R, e, k⟩ => by
    cases q : tyB (fa δ) with
    | none => simp only [q, notO, ofB] at e; cases e
    | some c =>
      simp only [q, notO, ofB] at e; cases e
      exact ⟨B, Hk, δ, _, R, tyB_some q, fun v H1 s1 r => by
        simp only [Rep] at r
        exact ⟨c, r, k _ H1 s1 (by simp only [Rep])⟩⟩
theorem de_ifExp {c : Expr} {mm : Bool} (hc : DT X c fc) (ha : DE X mm a fa) (hb : DE X mm b fb) : DE X mm (.IfExp c a b pos) (fun δ => match fc δ with | some true => fa δ | some false => fb δ | none => none) :=
  (pe_ifExp hc ha hb).imp fun σ H Q ⟨B, Hk, δ, d, R, e, k⟩ => by
    dsimp only at e
    split at e
    · rename_i q
      exact ⟨B, Hk, δ, true, R, q, fun H1 s1 => iteT (⟨B, Hk, δ, d, R.to s1, e, fun v H2 s2 => k v H2 (s1.trans s2)⟩)⟩
    · rename_i q
      exact ⟨B, Hk, δ, false, R, q, fun H1 s1 => iteF (⟨B, Hk, δ, d, R.to s1, e, fun v H2 s2 => k v H2 (s1.trans s2)⟩)⟩
    · cases e

def consO (x : Option D) (y : Option (List D)) : Option (List D) := match x, y with | some d, some ds => some (d :: ds) | _, _ => none
theorem consO_some {x : Option D} {y : Option (List D)} {l : List D} (h : consO x y = some l) : ∃ d ds, x = some d ∧ y = some ds ∧ l = d :: ds := by
  unfold consO at h
  split at h
  · rename_i d ds; cases h; exact ⟨d, ds, rfl, rfl, rfl⟩
  · cases h
variable {e : Expr} {es : List Expr} {fe : DEnv → Option D} {fs : DEnv → Option (List D)}
theorem da_nil : DA X m [] (fun _ => some []) := pa_nil.imp fun σ H Q ⟨B, Hk, δ, d, R, e, k⟩ => by cases e; exact k [] H (Same.refl H) Reps.nil
theorem da_cons (ha : DE X m e fe) (hr : DA X m es fs) (hs : starEach (e :: es) X.env = (false, eval e X.env) :: starEach es X.env := by rfl) : DA X m (e :: es) (fun δ => consO (fe δ) (fs δ)) :=
  (pa_cons ha hr hs).imp fun σ H Q ⟨B, Hk, δ, l, R, e, k⟩ => by
    obtain ⟨d, ds, e1, e2, rfl⟩ := consO_some e
    exact ⟨B, Hk, δ, d, R, e1, fun v H1 s1 r1 => ⟨B, Hk, δ, ds, R.to s1, e2, fun vs H2 s2 r2 => k (v :: vs) H2 (s1.trans s2) (Reps.cons (r1.same (R.to s1) s2) r2)⟩⟩
def lim : Nat := 1000000
theorem lim_line {n : Nat} (h : n ≤ lim) : n ≤ sizeLine := Nat.le_trans h (by decide)
def tupO (x : Option (List D)) : Option D := match x with | some ds => if ds.length ≤ lim then some (.tup ds) else none | none => none
def lstO (x : Option (List D)) : Option D := match x with | some ds => if ds.length ≤ lim then some (.lst ds) else none | none => none
theorem tupO_some {x : Option (List D)} {d : D} (h : tupO x = some d) : ∃ ds, x = some ds ∧ ds.length ≤ lim ∧ d = .tup ds := by
  unfold tupO at h
  split at h
  · rename_i ds
    by_cases q : ds.length ≤ lim
    · rw [if_pos q] at h; cases h; exact ⟨ds, rfl, q, rfl⟩
    · rw [if_neg q] at h; cases h
  · cases h
theorem lstO_some {x : Option (List D)} {d : D} (h : lstO x = some d) : ∃ ds, x = some ds ∧ ds.length ≤ lim ∧ d = .lst ds := by
  unfold lstO at h
  split at h
  · rename_i ds
    by_cases q : ds.length ≤ lim
    · rw [if_pos q] at h; cases h; exact ⟨ds, rfl, q, rfl⟩
    · rw [if_neg q] at h; cases h
  · cases h
theorem same_upd {H : Hp} {p : Addr} {o : HO} (h : H p = none) : Same H (upd H p o) := fun b u e => by rw [upd_ne (ne_of_none e h)]; exact e
theorem de_tup {x1 : Nat} (h : DA X m es fs) : DE X m (.Tuple es x1 pos) (fun δ => tupO (fs δ)) :=
  (pe_tup h).imp fun σ H Q ⟨B, Hk, δ, d, R, e, k⟩ => by
    obtain ⟨ds, e1, hl, rfl⟩ := tupO_some e
    refine ⟨B, Hk, δ, ds, R, e1, fun vs H1 s1 r1 => ⟨by rw [← r1.length]; exact lim_line hl, fun p hp => ?_⟩⟩
    have s2 := same_upd (o := .tup vs) hp
    refine k _ _ (s1.trans s2) ?_
    simp only [Rep]
    exact ⟨p, vs, rfl, upd_same, r1.same (R.to s1) s2⟩
theorem df_lst (h : DA X false es fs) : DF X (.List es pos) (fun δ => lstO (fs δ)) :=
  (pe_lst h).imp fun σ H Q ⟨B, Hk, δ, d, R, e, k⟩ => by
    obtain ⟨ds, e1, hl, rfl⟩ := lstO_some e
    refine ⟨B, Hk, δ, ds, R, e1, fun vs H1 s1 r1 => ⟨by rw [← r1.length]; exact lim_line hl, fun p hp => ?_⟩⟩
    have s2 := same_upd (o := .lst vs) hp
    exact k p _ (s1.trans s2) (s1.free hp) ⟨vs, upd_same, r1.same (m := false) (R.to s1) s2⟩
end
end L2

end

section
set_option maxHeartbeats 1000000
namespace L2
open PySem PySem.Spec PyProof.Rows

def okD : Nat → D → Bool
  | _, .non => true
  | _, .int _ => true
  | _, .str _ => true
  | n + 1, .tup ds => ds.all (okD n)
  | n + 1, .lst ds => ds.all (okD n)
  | _, _ => false
theorem okD_tup {n : Nat} {ds : List D} (h : okD n (.tup ds) = true) : ∃ k, n = k + 1 ∧ ds.all (okD k) = true := by
  cases n with
  | zero => simp [okD] at h
  | succ k => exact ⟨k, rfl, by simpa only [okD] using h⟩
theorem okD_lst {n : Nat} {ds : List D} (h : okD n (.lst ds) = true) : ∃ k, n = k + 1 ∧ ds.all (okD k) = true := by
  cases n with
  | zero => simp [okD] at h
  | succ k => exact ⟨k, rfl, by simpa only [okD] using h⟩

section
variable {X : Cx} {pins : List (Addr × Obj)} {σ : St} {H : Hp} {s : Shared} {B B' : Addr → Prop}
theorem list_not_tuple {a : Addr} {xs ys : List V} (I : Inv X pins σ H s) (h : SqL X.K H a xs) (h' : SqT X.K H a ys) : False := by
  obtain ⟨its, _, ⟨o, n, e, hc, _, _⟩, _⟩ := I.list h
  obtain ⟨its', _, ⟨o', e', hc', _⟩, _⟩ := I.tuple h'
  rw [e] at e'; cases e'
  rw [hc] at hc'
  injection hc' with z
  exact absurd z (by decide)
mutual
theorem Rep.inj (I : Inv X pins σ H s) : ∀ {n n' : Nat} {d e : D} {v : V}, okD n d = true → okD n' e = true → Rep X.K B H d v → Rep X.K B' H e v → d = e
  | n, n', .non, e, v, hd, he, r, r' => by
    simp only [Rep] at r; subst r
    cases e with
    | non => rfl
    | dT _ _ => simp [okD] at he
    | dK _ _ => simp [okD] at he
    | tup _ => simp only [Rep] at r'; obtain ⟨a, xs, z, _⟩ := r'; cases z
    | lst _ => simp only [Rep] at r'; obtain ⟨a, xs, z, _⟩ := r'; cases z
    | _ => simp only [Rep] at r'; cases r'
  | n, n', .bl _, e, v, hd, he, r, r' => by simp [okD] at hd
  | n, n', .dT _ _, e, v, hd, he, r, r' => by simp [okD] at hd
  | n, n', .dK _ _, e, v, hd, he, r, r' => by simp [okD] at hd
  | n, n', .int i, e, v, hd, he, r, r' => by
    simp only [Rep] at r; subst r
    cases e with
    | int j => simp only [Rep] at r'; cases r'; rfl
    | dT _ _ => simp [okD] at he
    | dK _ _ => simp [okD] at he
    | tup _ => simp only [Rep] at r'; obtain ⟨a, xs, z, _⟩ := r'; cases z
    | lst _ => simp only [Rep] at r'; obtain ⟨a, xs, z, _⟩ := r'; cases z
    | _ => simp only [Rep] at r'; cases r'
  | n, n', .str i, e, v, hd, he, r, r' => by
    simp only [Rep] at r; subst r
    cases e with
    | str j => simp only [Rep] at r'; cases r'; rfl
    | dT _ _ => simp [okD] at he
    | dK _ _ => simp [okD] at he
    | tup _ => simp only [Rep] at r'; obtain ⟨a, xs, z, _⟩ := r'; cases z
    | lst _ => simp only [Rep] at r'; obtain ⟨a, xs, z, _⟩ := r'; cases z
    | _ => simp only [Rep] at r'; cases r'
  | n, n', .tup ds, e, v, hd, he, r, r' => by
    simp only [Rep] at r
    obtain ⟨a, xs, rfl, hq, hr⟩ := r
    obtain ⟨k, _, hd⟩ := okD_tup hd
    cases e with
    | tup es =>
      simp only [Rep] at r'
      obtain ⟨b, ys, z, hq', hr'⟩ := r'
      cases z
      obtain rfl := I.tuple_inj (SqT.of hq) (SqT.of hq')
      obtain ⟨k', _, he⟩ := okD_tup he
      rw [Reps.inj I hd he hr hr']
    | lst es =>
      simp only [Rep] at r'
      obtain ⟨b, ys, z, hq', hr'⟩ := r'
      cases z
      exact (list_not_tuple I hq'.sq (SqT.of hq)).elim
    | dT _ _ => simp [okD] at he
    | dK _ _ => simp [okD] at he
    | _ => simp only [Rep] at r'; cases r'
  | n, n', .lst ds, e, v, hd, he, r, r' => by
    simp only [Rep] at r
    obtain ⟨a, xs, rfl, hq, hr⟩ := r
    obtain ⟨k, _, hd⟩ := okD_lst hd
    cases e with
    | lst es =>
      simp only [Rep] at r'
      obtain ⟨b, ys, z, hq', hr'⟩ := r'
      cases z
      obtain rfl := I.list_inj hq.sq hq'.sq
      obtain ⟨k', _, he⟩ := okD_lst he
      rw [Reps.inj I hd he hr hr']
    | tup es =>
      simp only [Rep] at r'
      obtain ⟨b, ys, z, hq', hr'⟩ := r'
      cases z
      exact (list_not_tuple I hq.sq (SqT.of hq')).elim
    | dT _ _ => simp [okD] at he
    | dK _ _ => simp [okD] at he
    | _ => simp only [Rep] at r'; cases r'
theorem Reps.inj (I : Inv X pins σ H s) : ∀ {n n' : Nat} {ds es : List D} {xs : List V}, ds.all (okD n) = true → es.all (okD n') = true → Reps X.K B H ds xs → Reps X.K B' H es xs → ds = es
  | n, n', [], es, xs, hd, he, r, r' => by
    simp only [Reps] at r; subst r
    cases es with
    | nil => rfl
    | cons e es => simp only [Reps] at r'; obtain ⟨_, _, z, _⟩ := r'; cases z
  | n, n', d :: ds, es, xs, hd, he, r, r' => by
    simp only [Reps] at r
    obtain ⟨x, t, rfl, r1, r2⟩ := r
    cases es with
    | nil => simp only [Reps] at r'; cases r'
    | cons e es =>
      obtain ⟨q1, q2⟩ := r'.uncons
      rw [List.all_cons, Bool.and_eq_true] at hd he
      rw [Rep.inj I hd.1 he.1 r1 q1, Reps.inj I hd.2 he.2 r2 q2]
end

theorem all_range_eq : ∀ (ds es : List D), (ds.length = es.length) → ((List.range ds.length).all fun j => decide (ds[j]? = es[j]?)) = decide (ds = es) := by
  intro ds es hl
  rw [Bool.eq_iff_iff, List.all_eq_true, decide_eq_true_iff]
  constructor
  · intro h
    apply List.ext_getElem? 
    intro j
    by_cases hj : j < ds.length
    · exact of_decide_eq_true (h j (List.mem_range.mpr hj))
    · rw [List.getElem?_eq_none (by omega), List.getElem?_eq_none (by omega)]
  · intro h j _
    subst h
    exact decide_eq_true rfl
theorem all_range_tup : ∀ (ds es : List D), (((List.range (min ds.length es.length)).all fun j => decide (ds[j]? = es[j]?)) && ds.length == es.length) = decide (ds = es) := by
  intro ds es
  by_cases hl : ds.length = es.length
  · rw [hl, Nat.min_self, beq_self_eq_true, Bool.and_true, ← hl, all_range_eq ds es hl]
  · have h1 : (ds.length == es.length) = false := by simpa using hl
    have h2 : ¬ ds = es := fun z => hl (by rw [z])
    rw [h1, Bool.and_false, decide_eq_false h2]

open SeqAt in
theorem eq_D (I : Inv X pins σ H s) : ∀ (n : Nat) (d e : D) (x y : V) (u w : Value) (A : Around), okD n d = true → okD n e = true → A.units + n + 1 < cLine → Rep X.K B H d x → Rep X.K B' H e y → RelV x u → RelV y w →
    RcAt A s u w (decide (d = e)) ∧ EqAt A s u w (decide (d = e)) ∧ RcNeAt A s u w (!decide (d = e)) := by
  intro n
  induction n using Nat.strongRecOn with
  | ind n ih =>
  intro d e x y u w A hd he hA rd re rx ry
  have hu : A.units < cLine := by omega
  cases d with
  | bl _ => simp [okD] at hd
  | dT _ _ => simp [okD] at hd
  | dK _ _ => simp [okD] at hd
  | non =>
    simp only [Rep] at rd; subst rd; cases rx
    cases e with
    | bl _ => simp [okD] at he
    | dT _ _ => simp [okD] at he
    | dK _ _ => simp [okD] at he
    | non => simp only [Rep] at re; subst re; cases ry; rw [decide_eq_true rfl]; exact ⟨RcAt.none_none, EqAt.same _, RcNeAt.none_none⟩
    | int j => simp only [Rep] at re; subst re; obtain ⟨t, rfl⟩ := ry; rw [decide_eq_false (by intro z; cases z)]; exact ⟨RcAt.none_int j t, EqAt.none_int j t, RcNeAt.none_int j t⟩
    | str j => simp only [Rep] at re; subst re; obtain ⟨t, rfl⟩ := ry; rw [decide_eq_false (by intro z; cases z)]; exact ⟨RcAt.none_str j t, EqAt.none_str j t, RcNeAt.none_str j t⟩
    | tup es =>
      simp only [Rep] at re; obtain ⟨b, ys, rfl, hq, hr⟩ := re; cases ry
      obtain ⟨its, rv, ht, _⟩ := I.tuple (SqT.of hq)
      rw [decide_eq_false (by intro z; cases z)]; exact ⟨RcAt.none_tuple ht hu, EqAt.none_tuple ht hu, RcNeAt.none_tuple ht hu⟩
    | lst es =>
      simp only [Rep] at re; obtain ⟨b, ys, rfl, hq, hr⟩ := re; cases ry
      obtain ⟨its, rv, ht, _⟩ := I.list hq.sq
      rw [decide_eq_false (by intro z; cases z)]; exact ⟨RcAt.none_list ht.isList hu, EqAt.none_list ht.isList hu, RcNeAt.none_list ht.isList hu⟩
  | int i =>
    simp only [Rep] at rd; subst rd; obtain ⟨t', rfl⟩ := rx
    cases e with
    | bl _ => simp [okD] at he
    | dT _ _ => simp [okD] at he
    | dK _ _ => simp [okD] at he
    | non => simp only [Rep] at re; subst re; cases ry; rw [decide_eq_false (by intro z; cases z)]; exact ⟨RcAt.int_none i t', EqAt.int_none i t', RcNeAt.int_none i t'⟩
    | int j =>
      simp only [Rep] at re; subst re; obtain ⟨t, rfl⟩ := ry
      have q : decide (D.int i = D.int j) = (i == j) := by rw [Bool.eq_iff_iff, decide_eq_true_iff, beq_iff_eq, D.int.injEq]
      rw [q]; exact ⟨RcAt.int_int i t' j t, EqAt.int_int i t' j t, RcNeAt.int_int i t' j t⟩
    | str j => simp only [Rep] at re; subst re; obtain ⟨t, rfl⟩ := ry; rw [decide_eq_false (by intro z; cases z)]; exact ⟨RcAt.int_str i t' j t, EqAt.int_str i t' j t, RcNeAt.int_str i t' j t⟩
    | tup es =>
      simp only [Rep] at re; obtain ⟨b, ys, rfl, hq, hr⟩ := re; cases ry
      obtain ⟨its, rv, ht, _⟩ := I.tuple (SqT.of hq)
      rw [decide_eq_false (by intro z; cases z)]; exact ⟨RcAt.int_tuple i t' ht hu, EqAt.int_tuple i t' ht hu, RcNeAt.int_tuple i t' ht hu⟩
    | lst es =>
      simp only [Rep] at re; obtain ⟨b, ys, rfl, hq, hr⟩ := re; cases ry
      obtain ⟨its, rv, ht, _⟩ := I.list hq.sq
      rw [decide_eq_false (by intro z; cases z)]; exact ⟨RcAt.int_list i t' ht.isList hu, EqAt.int_list i t' ht.isList hu, RcNeAt.int_list i t' ht.isList hu⟩
  | str i =>
    simp only [Rep] at rd; subst rd; obtain ⟨t', rfl⟩ := rx
    cases e with
    | bl _ => simp [okD] at he
    | dT _ _ => simp [okD] at he
    | dK _ _ => simp [okD] at he
    | non => simp only [Rep] at re; subst re; cases ry; rw [decide_eq_false (by intro z; cases z)]; exact ⟨RcAt.str_none i t', EqAt.str_none i t', RcNeAt.str_none i t'⟩
    | int j => simp only [Rep] at re; subst re; obtain ⟨t, rfl⟩ := ry; rw [decide_eq_false (by intro z; cases z)]; exact ⟨RcAt.str_int i t' j t, EqAt.str_int i t' j t, RcNeAt.str_int i t' j t⟩
    | str j =>
      simp only [Rep] at re; subst re; obtain ⟨t, rfl⟩ := ry
      have q : decide (D.str i = D.str j) = (i == j) := by rw [Bool.eq_iff_iff, decide_eq_true_iff, beq_iff_eq, D.str.injEq]
      rw [q]; exact ⟨RcAt.str_str i t' j t, EqAt.str_str i t' j t, RcNeAt.str_str i t' j t⟩
    | tup es =>
      simp only [Rep] at re; obtain ⟨b, ys, rfl, hq, hr⟩ := re; cases ry
      obtain ⟨its, rv, ht, _⟩ := I.tuple (SqT.of hq)
      rw [decide_eq_false (by intro z; cases z)]; exact ⟨RcAt.str_tuple i t' ht hu, EqAt.str_tuple i t' ht hu, RcNeAt.str_tuple i t' ht hu⟩
    | lst es =>
      simp only [Rep] at re; obtain ⟨b, ys, rfl, hq, hr⟩ := re; cases ry
      obtain ⟨its, rv, ht, _⟩ := I.list hq.sq
      rw [decide_eq_false (by intro z; cases z)]; exact ⟨RcAt.str_list i t' ht.isList hu, EqAt.str_list i t' ht.isList hu, RcNeAt.str_list i t' ht.isList hu⟩
  | tup ds =>
    simp only [Rep] at rd; obtain ⟨a, xs, rfl, hp, hr⟩ := rd; cases rx
    obtain ⟨its, rv, hta, _⟩ := I.tuple (SqT.of hp)
    obtain ⟨k, rfl, hd'⟩ := okD_tup hd
    cases e with
    | bl _ => simp [okD] at he
    | dT _ _ => simp [okD] at he
    | dK _ _ => simp [okD] at he
    | non => simp only [Rep] at re; subst re; cases ry; rw [decide_eq_false (by intro z; cases z)]; exact ⟨RcAt.tuple_none hta hu, EqAt.tuple_none hta hu, RcNeAt.tuple_none hta hu⟩
    | int j => simp only [Rep] at re; subst re; obtain ⟨t, rfl⟩ := ry; rw [decide_eq_false (by intro z; cases z)]; exact ⟨RcAt.tuple_int j t hta hu, EqAt.tuple_int j t hta hu, RcNeAt.tuple_int j t hta hu⟩
    | str j => simp only [Rep] at re; subst re; obtain ⟨t, rfl⟩ := ry; rw [decide_eq_false (by intro z; cases z)]; exact ⟨RcAt.tuple_str j t hta hu, EqAt.tuple_str j t hta hu, RcNeAt.tuple_str j t hta hu⟩
    | lst es =>
      simp only [Rep] at re; obtain ⟨b, ys, rfl, hq, hr⟩ := re; cases ry
      obtain ⟨its, rv, ht, _⟩ := I.list hq.sq
      rw [decide_eq_false (by intro z; cases z)]; exact ⟨RcAt.tuple_list hta ht.isList hu, EqAt.tuple_list hta ht.isList hu, RcNeAt.tuple_list hta ht.isList hu⟩
    | tup es =>
      simp only [Rep] at re; obtain ⟨b, ys, rfl, hq, hr2⟩ := re; cases ry
      obtain ⟨its2, rv2, htb, _⟩ := I.tuple (SqT.of hq)
      obtain ⟨k', e', he'⟩ := okD_tup he
      cases e'
      have l1 := hr.length; have l2 := rv.length; have l3 := hr2.length; have l4 := rv2.length
      have el : ∀ j (h1 : j < its.toArray.size) (h2 : j < its2.toArray.size), EqAt A.in1 s its.toArray[j] its2.toArray[j] (decide (ds[j]? = es[j]?)) := fun j h1 h2 => by
        simp only [List.size_toArray] at h1 h2
        obtain ⟨d', hd1⟩ : ∃ d', ds[j]? = some d' := ⟨ds[j]'(by omega), by simp⟩
        obtain ⟨e', he1⟩ : ∃ e', es[j]? = some e' := ⟨es[j]'(by omega), by simp⟩
        obtain ⟨x', hx1, rx'⟩ := hr.get hd1
        obtain ⟨y', hy1, ry'⟩ := hr2.get he1
        obtain ⟨u', hu1, ru'⟩ := rv.get hx1
        obtain ⟨w', hw1, rw'⟩ := rv2.get hy1
        have q := (ih k (Nat.lt_succ_self k) d' e' x' y' u' w' A.in1 ((List.all_eq_true.mp hd') d' (List.mem_of_getElem? hd1)) ((List.all_eq_true.mp he') e' (List.mem_of_getElem? he1)) (by show A.units + 1 + k + 1 < cLine; omega) rx' ry' ru' rw').2.1
        have g1 : its.toArray[j] = u' := by
          have := List.getElem?_eq_some_iff.mp hu1
          simpa using this.2
        have g2 : its2.toArray[j] = w' := by
          have := List.getElem?_eq_some_iff.mp hw1
          simpa using this.2
        rw [g1, g2, hd1, he1]
        have q2 : decide (some d' = some e') = decide (d' = e') := by simp
        rw [q2]
        exact q
      have key : ((List.range (min its.toArray.size its2.toArray.size)).all (fun j => decide (ds[j]? = es[j]?)) && its.toArray.size == its2.toArray.size) = decide (D.tup ds = D.tup es) := by
        rw [List.size_toArray, List.size_toArray, ← l2, ← l4, ← l1, ← l3, all_range_tup]
        simp only [D.tup.injEq]
      have rc := RcAt.tuples hta htb hu el
      have rn := RcNeAt.tuples hta htb hu el
      rw [key] at rc rn
      refine ⟨rc, ?_, rn⟩
      by_cases hab : a = b
      · subst hab
        obtain rfl := I.tuple_inj (SqT.of hp) (SqT.of hq)
        have := Reps.inj I hd' he' hr hr2
        subst this
        rw [decide_eq_true rfl]
        exact EqAt.same _
      · exact EqAt.of_refs hab rc
  | lst ds =>
    simp only [Rep] at rd; obtain ⟨a, xs, rfl, hp, hr⟩ := rd; cases rx
    obtain ⟨its, rv, hta, _⟩ := I.list hp.sq
    obtain ⟨k, rfl, hd'⟩ := okD_lst hd
    cases e with
    | bl _ => simp [okD] at he
    | dT _ _ => simp [okD] at he
    | dK _ _ => simp [okD] at he
    | non => simp only [Rep] at re; subst re; cases ry; rw [decide_eq_false (by intro z; cases z)]; exact ⟨RcAt.list_none hta.isList hu, EqAt.list_none hta.isList hu, RcNeAt.list_none hta.isList hu⟩
    | int j => simp only [Rep] at re; subst re; obtain ⟨t, rfl⟩ := ry; rw [decide_eq_false (by intro z; cases z)]; exact ⟨RcAt.list_int j t hta.isList hu, EqAt.list_int j t hta.isList hu, RcNeAt.list_int j t hta.isList hu⟩
    | str j => simp only [Rep] at re; subst re; obtain ⟨t, rfl⟩ := ry; rw [decide_eq_false (by intro z; cases z)]; exact ⟨RcAt.list_str j t hta.isList hu, EqAt.list_str j t hta.isList hu, RcNeAt.list_str j t hta.isList hu⟩
    | tup es =>
      simp only [Rep] at re; obtain ⟨b, ys, rfl, hq, hr⟩ := re; cases ry
      obtain ⟨its, rv, ht, _⟩ := I.tuple (SqT.of hq)
      rw [decide_eq_false (by intro z; cases z)]; exact ⟨RcAt.list_tuple hta.isList ht hu, EqAt.list_tuple hta.isList ht hu, RcNeAt.list_tuple hta.isList ht hu⟩
    | lst es =>
      simp only [Rep] at re; obtain ⟨b, ys, rfl, hq, hr2⟩ := re; cases ry
      obtain ⟨its2, rv2, htb, _⟩ := I.list hq.sq
      obtain ⟨k', e', he'⟩ := okD_lst he
      cases e'
      have l1 := hr.length; have l2 := rv.length; have l3 := hr2.length; have l4 := rv2.length
      have el : ∀ j (h1 : j < its.toArray.size) (h2 : j < its2.toArray.size), EqAt A.in1 s its.toArray[j] its2.toArray[j] (decide (ds[j]? = es[j]?)) := fun j h1 h2 => by
        simp only [List.size_toArray] at h1 h2
        obtain ⟨d', hd1⟩ : ∃ d', ds[j]? = some d' := ⟨ds[j]'(by omega), by simp⟩
        obtain ⟨e', he1⟩ : ∃ e', es[j]? = some e' := ⟨es[j]'(by omega), by simp⟩
        obtain ⟨x', hx1, rx'⟩ := hr.get hd1
        obtain ⟨y', hy1, ry'⟩ := hr2.get he1
        obtain ⟨u', hu1, ru'⟩ := rv.get hx1
        obtain ⟨w', hw1, rw'⟩ := rv2.get hy1
        have q := (ih k (Nat.lt_succ_self k) d' e' x' y' u' w' A.in1 ((List.all_eq_true.mp hd') d' (List.mem_of_getElem? hd1)) ((List.all_eq_true.mp he') e' (List.mem_of_getElem? he1)) (by show A.units + 1 + k + 1 < cLine; omega) rx' ry' ru' rw').2.1
        have g1 : its.toArray[j] = u' := by
          have := List.getElem?_eq_some_iff.mp hu1
          simpa using this.2
        have g2 : its2.toArray[j] = w' := by
          have := List.getElem?_eq_some_iff.mp hw1
          simpa using this.2
        rw [g1, g2, hd1, he1]
        have q2 : decide (some d' = some e') = decide (d' = e') := by simp
        rw [q2]
        exact q
      by_cases hsz : its.toArray.size = its2.toArray.size
      · have key : ((List.range its.toArray.size).all (fun j => decide (ds[j]? = es[j]?))) = decide (D.lst ds = D.lst es) := by
          have hl : ds.length = es.length := by simp only [List.size_toArray] at hsz; omega
          rw [List.size_toArray, ← l2, ← l1, all_range_eq _ _ hl]
          simp only [D.lst.injEq]
        have rc := RcAt.lists hta.isList htb.isList hsz hu el
        have rn := RcNeAt.lists hta.isList htb.isList hsz hu el
        rw [key] at rc rn
        refine ⟨rc, ?_, rn⟩
        by_cases hab : a = b
        · subst hab
          obtain rfl := I.list_inj hp.sq hq.sq
          have := Reps.inj I hd' he' hr hr2
          subst this
          rw [decide_eq_true rfl]
          exact EqAt.same _
        · exact EqAt.of_refs hab rc
      · have hne : ¬ D.lst ds = D.lst es := fun z => hsz (by
          cases z
          simp only [List.size_toArray]; omega)
        have hb : (its.toArray.size != its2.toArray.size) = true := by simpa using hsz
        rw [decide_eq_false hne]
        have rc := RcAt.lists_lengths hta.isList htb.isList hb hu
        refine ⟨rc, ?_, RcNeAt.lists_lengths hta.isList htb.isList hb hu⟩
        have hab : a ≠ b := fun z => by
          subst z
          obtain rfl := I.list_inj hp.sq hq.sq
          exact hsz (by simp only [List.size_toArray]; omega)
        exact EqAt.of_refs hab rc
end

section
variable {X : Cx} {m m' mm : Bool} {a b : Expr} {fa fb : DEnv → Option D} {pos : Pos}
def ok2 (x y : D) : Bool := okD 16 x && okD 16 y
def eqO (x y : Option D) : Option Bool := match x, y with | some d, some e => if ok2 d e = true then some (decide (d = e)) else none | _, _ => none
theorem eqO_some {x y : Option D} {c : Bool} (h : eqO x y = some c) : ∃ d e, x = some d ∧ y = some e ∧ okD 16 d = true ∧ okD 16 e = true ∧ c = decide (d = e) := by
  unfold eqO at h
  split at h
  · rename_i d e
    by_cases q : ok2 d e = true
    · rw [if_pos q] at h
      cases h
      unfold ok2 at q
      rw [Bool.and_eq_true] at q
      exact ⟨d, e, rfl, rfl, q.1, q.2, rfl⟩
    · rw [if_neg q] at h; cases h
  · cases h
theorem eqO_eq {d e : D} (h1 : okD 16 d = true) (h2 : okD 16 e = true) : eqO (some d) (some e) = some (decide (d = e)) := by
  unfold eqO ok2; simp only [h1, h2, Bool.and_self, if_true]
def neO (x y : Option D) : Option Bool := notO (eqO x y)

def rD (K : PySem.W.Frag) (g : D → D → Bool) : R2 := fun x y H Q => ∃ B B' d e, okD 16 d = true ∧ okD 16 e = true ∧ Rep K B H d x ∧ Rep K B' H e y ∧ Q (.bl (g d e)) H
theorem op_eqD (hu : X.A.units + 64 < cLine) : OpR X (compareOp .Eq) (rD X.K fun d e => decide (d = e)) := by
  intro pins s σ H x y v u Q I rx ry h
  obtain ⟨B, B', d, e, hd, he, r1, r2, q⟩ := h
  exact (eq_D I 16 d e x y v u X.A hd he (by omega) r1 r2 rx ry).1 X.prog X.w X.xe _ ⟨.bl _, H, I, rfl, q⟩
theorem op_neD (hu : X.A.units + 64 < cLine) : OpR X (compareOp .NotEq) (rD X.K fun d e => !decide (d = e)) := by
  intro pins s σ H x y v u Q I rx ry h
  obtain ⟨B, B', d, e, hd, he, r1, r2, q⟩ := h
  exact (eq_D I 16 d e x y v u X.A hd he (by omega) r1 r2 rx ry).2.2 X.prog X.w X.xe _ ⟨.bl _, H, I, rfl, q⟩
theorem de_eq (hu : X.A.units + 64 < cLine) (ha : DE X m a fa) (hb : DE X m' b fb) : DE X mm (.Compare a [.Eq] [b] pos) (fun δ => ofB (eqO (fa δ) (fb δ))) :=
  (pe_cmpR (op_eqD hu) ha hb (nomark _)).imp fun σ H Q ⟨B, Hk, δ, d, R, e, k⟩ => by
    cases q : eqO (fa δ) (fb δ) with
    | none => simp only [q, ofB] at e; cases e
    | some c =>
      simp only [q, ofB] at e; cases e
      obtain ⟨d1, d2, e1, e2, o1, o2, rfl⟩ := eqO_some q
      exact two R e1 e2 fun v u H' s R' r1 r2 => ⟨_, _, d1, d2, o1, o2, r1, r2, k _ H' s (by simp only [Rep])⟩
theorem de_ne (hu : X.A.units + 64 < cLine) (ha : DE X m a fa) (hb : DE X m' b fb) : DE X mm (.Compare a [.NotEq] [b] pos) (fun δ => ofB (neO (fa δ) (fb δ))) :=
  (pe_cmpR (op_neD hu) ha hb (nomark _)).imp fun σ H Q ⟨B, Hk, δ, d, R, e, k⟩ => by
    cases q : eqO (fa δ) (fb δ) with
    | none => simp only [q, ofB, neO, notO] at e; cases e
    | some c =>
      simp only [q, ofB, neO, notO] at e; cases e
      obtain ⟨d1, d2, e1, e2, o1, o2, rfl⟩ := eqO_some q
      exact two R e1 e2 fun v u H' s R' r1 r2 => ⟨_, _, d1, d2, o1, o2, r1, r2, k _ H' s (by simp only [Rep])⟩
theorem dt_eq (hu : X.A.units + 64 < cLine) (ha : DE X m a fa) (hb : DE X m' b fb) : DT X (.Compare a [.Eq] [b] pos) (fun δ => eqO (fa δ) (fb δ)) :=
  (pt_cmpR (op_eqD hu) ha hb (nomark _)).imp fun σ H Q ⟨B, Hk, δ, d, R, q, k⟩ => by
    obtain ⟨d1, d2, e1, e2, o1, o2, rfl⟩ := eqO_some q
    exact two R e1 e2 fun v u H' s R' r1 r2 => ⟨_, _, d1, d2, o1, o2, r1, r2, _, rfl, k H' s⟩
theorem dt_ne (hu : X.A.units + 64 < cLine) (ha : DE X m a fa) (hb : DE X m' b fb) : DT X (.Compare a [.NotEq] [b] pos) (fun δ => neO (fa δ) (fb δ)) :=
  (pt_cmpR (op_neD hu) ha hb (nomark _)).imp fun σ H Q ⟨B, Hk, δ, d, R, e, k⟩ => by
    cases q : eqO (fa δ) (fb δ) with
    | none => simp only [q, neO, notO] at e; cases e
    | some c =>
      simp only [q, neO, notO] at e; cases e
      obtain ⟨d1, d2, e1, e2, o1, o2, rfl⟩ := eqO_some q
      exact two R e1 e2 fun v u H' s R' r1 r2 => ⟨_, _, d1, d2, o1, o2, r1, r2, _, rfl, k H' s⟩

def itemsD : D → Option (List D)
  | .lst ds => some ds
  | .tup ds => some ds
  | _ => none
def inO (x y : Option D) : Option Bool := match x, y with | some d, some e => (match itemsD e with | some es => if (okD 16 d && es.all (okD 16)) = true then some (decide (d ∈ es)) else none | none => none) | _, _ => none
theorem inO_some {x y : Option D} {c : Bool} (h : inO x y = some c) : ∃ d e es, x = some d ∧ y = some e ∧ itemsD e = some es ∧ okD 16 d = true ∧ es.all (okD 16) = true ∧ c = decide (d ∈ es) := by
  unfold inO at h
  split at h
  · rename_i d e
    split at h
    · rename_i es he
      by_cases q : (okD 16 d && es.all (okD 16)) = true
      · rw [if_pos q] at h
        cases h
        rw [Bool.and_eq_true] at q
        exact ⟨d, e, es, rfl, rfl, he, q.1, q.2, rfl⟩
      · rw [if_neg q] at h; cases h
    · cases h
  · cases h
def notInO (x y : Option D) : Option Bool := notO (inO x y)

theorem Rep.items {K : PySem.W.Frag} {B : Addr → Prop} {H : Hp} {e : D} {es : List D} {y : V} (r : Rep K B H e y) (h : itemsD e = some es) : ∃ p xs, y = .ref p ∧ (SqL K H p xs ∨ SqT K H p xs) ∧ Reps K B H es xs := by
  cases e with
  | lst ds => simp only [itemsD] at h; cases h; simp only [Rep] at r; obtain ⟨a, xs, e, hq, hr⟩ := r; exact ⟨a, xs, e, .inl hq.sq, hr⟩
  | tup ds => simp only [itemsD] at h; cases h; simp only [Rep] at r; obtain ⟨a, xs, e, hq, hr⟩ := r; exact ⟨a, xs, e, .inr (SqT.of hq), hr⟩
  | _ => simp [itemsD] at h
open Classical in
theorem in_ok {pins : List (Addr × Obj)} {σ : St} {H : Hp} {s : Shared} {B B' : Addr → Prop} {d : D} {es : List D} {x : V} {v : Value} {xs : List V} {its : List Value} (hu : X.A.units + 64 < cLine) (I : Inv X pins σ H s) (hd : okD 16 d = true) (he : es.all (okD 16) = true)
    (r1 : Rep X.K B H d x) (r2 : Reps X.K B' H es xs) (rx : RelV x v) (rv : Vals xs its) : ∃ e : Value → Bool, (∀ y, y ∈ its.toArray → SeqAt.EqAt X.A.in1 s y v (e y)) ∧ its.toArray.any e = decide (d ∈ es) := by
  have one : ∀ j u, its[j]? = some u → ∃ d' x', es[j]? = some d' ∧ okD 16 d' = true ∧ Rep X.K B' H d' x' ∧ RelV x' u := fun j u hj => by
    have hl := rv.length
    have hlt : j < xs.length := by rw [hl]; exact (List.getElem?_eq_some_iff.mp hj).1
    obtain ⟨u', hu', ru⟩ := rv.get (i := j) (x := xs[j]) (by simp [hlt])
    rw [hj] at hu'; cases hu'
    obtain ⟨d', hd', rd'⟩ := r2.get' (i := j) (x := xs[j]) (by simp [hlt])
    exact ⟨d', xs[j], hd', (List.all_eq_true.mp he) d' (List.mem_of_getElem? hd'), rd', ru⟩
  refine ⟨fun u => decide (∃ d' x', okD 16 d' = true ∧ Rep X.K B' H d' x' ∧ RelV x' u ∧ d' = d), fun u hu' => ?_, ?_⟩
  · obtain ⟨j, hj⟩ := List.getElem?_of_mem (show u ∈ its by simpa using hu')
    obtain ⟨d', x', _, o', rd', ru⟩ := one j u hj
    have q := (eq_D I 16 d' d x' x u v X.A.in1 o' hd (by show X.A.units + 1 + 16 + 1 < cLine; omega) rd' r1 ru rx).2.1
    have key : decide (∃ d' x', okD 16 d' = true ∧ Rep X.K B' H d' x' ∧ RelV x' u ∧ d' = d) = decide (d' = d) := by
      rw [Bool.eq_iff_iff, decide_eq_true_iff, decide_eq_true_iff]
      constructor
      · rintro ⟨d2, x2, o2, r2', ru2, e2⟩
        rw [← e2]
        have ex := ru.inj ru2
        subst ex
        exact Rep.inj I o' o2 rd' r2'
      · intro e2
        exact ⟨d', x', o', rd', ru, e2⟩
    show SeqAt.EqAt X.A.in1 s u v (decide (∃ d' x', okD 16 d' = true ∧ Rep X.K B' H d' x' ∧ RelV x' u ∧ d' = d))
    rw [key]
    exact q
  · rw [Bool.eq_iff_iff, decide_eq_true_iff, Array.any_eq_true]
    constructor
    · rintro ⟨j, hj, h⟩
      have h' := of_decide_eq_true h
      obtain ⟨d2, x2, o2, r2', ru2, e2⟩ := h'
      have hj' : its[j]? = some its.toArray[j] := by
        simp only [List.size_toArray] at hj
        simp [hj]
      obtain ⟨d', x', hd', o', rd', ru⟩ := one j _ hj'
      have ex := ru.inj ru2
      subst ex
      have := Rep.inj I o' o2 rd' r2'
      subst this
      rw [← e2]
      exact List.mem_of_getElem? hd'
    · intro h
      obtain ⟨j, hj⟩ := List.getElem?_of_mem h
      obtain ⟨y, hy, ry⟩ := r2.get hj
      obtain ⟨u, hu', ru⟩ := rv.get hy
      obtain ⟨hlt, ge⟩ := List.getElem?_eq_some_iff.mp hu'
      refine ⟨j, by simpa using hlt, decide_eq_true ⟨d, y, hd, ry, ?_, rfl⟩⟩
      simpa [ge] using ru
def rInD (K : PySem.W.Frag) (neg : Bool) : R2 := fun x y H Q => ∃ B B' d e es, itemsD e = some es ∧ okD 16 d = true ∧ es.all (okD 16) = true ∧ Rep K B H d x ∧ Rep K B' H e y ∧ Q (.bl (if neg then !decide (d ∈ es) else decide (d ∈ es))) H
theorem op_inD (hu : X.A.units + 64 < cLine) : OpR X (compareOp .In) (rInD X.K false) := by
  intro pins s σ H x y v u Q I rx ry h
  obtain ⟨B, B', d, e, es, hi, hd, he, r1, r2, q⟩ := h
  obtain ⟨p, xs, rfl, hq, rs⟩ := r2.items hi
  cases ry
  rcases hq with hq | hq
  · obtain ⟨its, r, pl, hz⟩ := I.list hq
    obtain ⟨g, g1, g2⟩ := in_ok hu I hd he r1 rs rx r
    exact SeqAt.in_listAt g pl.isList g1 ⟨.bl _, H, I, rfl, by rw [g2]; exact q⟩
  · obtain ⟨its, r, pl, hz⟩ := I.tuple hq
    obtain ⟨g, g1, g2⟩ := in_ok hu I hd he r1 rs rx r
    exact SeqAt.in_tupleAt g pl g1 ⟨.bl _, H, I, rfl, by rw [g2]; exact q⟩
theorem op_notInD (hu : X.A.units + 64 < cLine) : OpR X (compareOp .NotIn) (rInD X.K true) := by
  intro pins s σ H x y v u Q I rx ry h
  obtain ⟨B, B', d, e, es, hi, hd, he, r1, r2, q⟩ := h
  obtain ⟨p, xs, rfl, hq, rs⟩ := r2.items hi
  cases ry
  rcases hq with hq | hq
  · obtain ⟨its, r, pl, hz⟩ := I.list hq
    obtain ⟨g, g1, g2⟩ := in_ok hu I hd he r1 rs rx r
    exact SeqAt.notIn_listAt g pl.isList g1 ⟨.bl _, H, I, rfl, by rw [g2]; exact q⟩
  · obtain ⟨its, r, pl, hz⟩ := I.tuple hq
    obtain ⟨g, g1, g2⟩ := in_ok hu I hd he r1 rs rx r
    exact SeqAt.notIn_tupleAt g pl g1 ⟨.bl _, H, I, rfl, by rw [g2]; exact q⟩
theorem dt_in (hu : X.A.units + 64 < cLine) (ha : DE X m a fa) (hb : DE X m' b fb) (hm : behindInMarks .In b = false := by rfl) : DT X (.Compare a [.In] [b] pos) (fun δ => inO (fa δ) (fb δ)) :=
  (pt_cmpR (op_inD hu) ha hb hm).imp fun σ H Q ⟨B, Hk, δ, d, R, q, k⟩ => by
    obtain ⟨d1, d2, es, e1, e2, hi, o1, o2, rfl⟩ := inO_some q
    exact two R e1 e2 fun v u H' s R' r1 r2 => ⟨_, _, d1, d2, es, hi, o1, o2, r1, r2, _, rfl, k H' s⟩
theorem dt_notIn (hu : X.A.units + 64 < cLine) (ha : DE X m a fa) (hb : DE X m' b fb) (hm : behindInMarks .NotIn b = false := by rfl) : DT X (.Compare a [.NotIn] [b] pos) (fun δ => notInO (fa δ) (fb δ)) :=
  (pt_cmpR (op_notInD hu) ha hb hm).imp fun σ H Q ⟨B, Hk, δ, d, R, e, k⟩ => by
    cases q : inO (fa δ) (fb δ) with
    | none => simp only [q, notInO, notO] at e; cases e
    | some c =>
      simp only [q, notInO, notO] at e; cases e
      obtain ⟨d1, d2, es, e1, e2, hi, o1, o2, rfl⟩ := inO_some q
      exact two R e1 e2 fun v u H' s R' r1 r2 => ⟨_, _, d1, d2, es, hi, o1, o2, r1, r2, _, rfl, k H' s⟩
theorem de_in (hu : X.A.units + 64 < cLine) (ha : DE X m a fa) (hb : DE X m' b fb) (hm : behindInMarks .In b = false := by rfl) : DE X mm (.Compare a [.In] [b] pos) (fun δ => ofB (inO (fa δ) (fb δ))) :=
  (pe_cmpR (op_inD hu) ha hb hm).imp fun σ H Q ⟨B, Hk, δ, d, R, e, k⟩ => by
    cases q : inO (fa δ) (fb δ) with
    | none => simp only [q, ofB] at e; cases e
    | some c =>
      simp only [q, ofB] at e; cases e
      obtain ⟨d1, d2, es, e1, e2, hi, o1, o2, rfl⟩ := inO_some q
      exact two R e1 e2 fun v u H' s R' r1 r2 => ⟨_, _, d1, d2, es, hi, o1, o2, r1, r2, k _ H' s (by simp only [Rep]; rfl)⟩
end
end L2

end

section
set_option maxHeartbeats 1000000
namespace L2
open PySem PySem.Spec PyProof.Rows

section
variable {X : Cx} {m m' mm : Bool} {a b : Expr} {fa fb : DEnv → Option D} {pos : Pos}

def ixO (x y : Option D) : Option D := match x, y with | some d, some (.int i) => (match itemsD d with | some ds => atI ds i | none => none) | _, _ => none
theorem ixO_some {x y : Option D} {d : D} (h : ixO x y = some d) : ∃ e i es, x = some e ∧ y = some (.int i) ∧ itemsD e = some es ∧ atI es i = some d := by
  unfold ixO at h
  split at h
  · rename_i e i
    split at h
    · rename_i es he; exact ⟨e, i, es, rfl, rfl, he, h⟩
    · cases h
  · cases h
theorem Reps.atI {K : PySem.W.Frag} {B : Addr → Prop} {H : Hp} {ds : List D} {xs : List V} {i : Int} {d : D} (r : Reps K B H ds xs) (h : atI ds i = some d) : ∃ x, atI xs i = some x ∧ Rep K B H d x := by
  unfold L2.atI at h ⊢
  rw [r.length] at h
  cases q : ixN xs.length i with
  | none => rw [q] at h; cases h
  | some j =>
    rw [q] at h
    exact r.get (i := j) h
theorem ix_items {K : PySem.W.Frag} {B : Addr → Prop} {H : Hp} {e : D} {es : List D} {y : V} {i : Int} {d : D} {Q : VK} (r : Rep K B H e y) (h : itemsD e = some es) (hi : atI es i = some d) (k : ∀ v, Rep K B H d v → Q v H) : rIx K y (.int i) H Q := by
  obtain ⟨p, xs, rfl, hq, rs⟩ := r.items h
  obtain ⟨x, hx, rx⟩ := rs.atI hi
  rcases hq with hq | hq
  · exact .inl ⟨p, xs, i, x, rfl, rfl, hq, hx, k x rx⟩
  · exact .inr (.inl ⟨p, xs, i, x, rfl, rfl, hq, hx, k x rx⟩)
theorem de_ix (ha : DE X m a fa) (hb : DE X m' b fb) (hs : PlainIx b := by exact fun _ _ => rfl) : DE X m (.Subscript a b pos) (fun δ => ixO (fa δ) (fb δ)) :=
  (pe_ix ix_seq ha hb hs).imp fun σ H Q ⟨B, Hk, δ, d, R, e, k⟩ => by
    obtain ⟨d1, i, es, e1, e2, hi, hd⟩ := ixO_some e
    refine two R e1 e2 fun v u H' s R' r1 r2 => ?_
    simp only [Rep] at r2
    subst r2
    exact ix_items r1 hi hd fun v rv => k v H' s rv

theorem de_ixv {i : Nat} {x : Str} {px : Pos} (hb : DE X m' b fb) (hN : X.N[i]? = some x := by rfl) (hv : Vis X.env.scope x := by first | exact Or.inl rfl | exact Or.inr (Or.inl rfl) | exact Or.inr (Or.inr rfl)) (hs : PlainIx b := by exact fun _ _ => rfl)
    (hd : (x == ("__debug__" : Str)) = false := by decide) (hcd : (x == ("__classdict__" : Str)) = false := by decide) : DE X m (.Subscript (.Name x px) b pos) (fun δ => ixO (rd true i δ) (fb δ)) :=
  (pe_ix ix_seq (pe_var hN hv hd hcd) hb hs).imp fun σ H Q ⟨B, Hk, δ, d, R, e, k⟩ => by
    obtain ⟨d1, j, es, e1, e2, hi, hd⟩ := ixO_some e
    obtain ⟨o, ho, _⟩ := rd_some e1
    cases o with
    | false =>
      obtain ⟨v, h1, h2⟩ := R.var i d1 ho
      refine ⟨v, h1, B, Hk, δ, _, R, e2, fun u H' s r2 => ?_⟩
      simp only [Rep] at r2
      subst r2
      exact ix_items (h2.ext (s.ext R.borH)) hi hd fun v rv => k v H' s (rv.more fun a h => bset_of m a h)
    | true =>
      obtain ⟨p, h1, _, h3⟩ := R.own i d1 ho
      refine ⟨_, h1, B, Hk, δ, _, R, e2, fun u H' s r2 => ?_⟩
      simp only [Rep] at r2
      subst r2
      have h3' := h3.ext (s.ext R.borH) fun o q => s p o q
      cases d1 with
      | lst ds =>
        simp only [itemsD] at hi; cases hi
        obtain ⟨xs, q1, q2⟩ := h3'
        obtain ⟨w, hw, rw'⟩ := q2.atI hd
        exact .inl ⟨p, xs, j, w, rfl, rfl, SqL.of q1, hw, k w H' s (rw'.more fun a h => bset_of m a h)⟩
      | tup ds => exact (show False from h3').elim
      | _ => simp [itemsD] at hi
def ixSO (x y : Option D) : Option D := match x, y with | some (.str z), some (.int i) => if z.length ≤ lim then (match atI z.cps.toList i with | some c => some (.str ⟨#[c]⟩) | none => none) else none | _, _ => none
theorem ixSO_some {x y : Option D} {d : D} (h : ixSO x y = some d) : ∃ z i c, x = some (.str z) ∧ y = some (.int i) ∧ z.length ≤ lim ∧ atI z.cps.toList i = some c ∧ d = .str ⟨#[c]⟩ := by
  unfold ixSO at h
  split at h
  · rename_i z i
    by_cases q : z.length ≤ lim
    · rw [if_pos q] at h
      split at h
      · rename_i c hc; cases h; exact ⟨z, i, c, rfl, rfl, q, hc, rfl⟩
      · cases h
    · rw [if_neg q] at h; cases h
  · cases h
theorem de_ixS (ha : DE X m a fa) (hb : DE X m' b fb) (hs : PlainIx b := by exact fun _ _ => rfl) : DE X mm (.Subscript a b pos) (fun δ => ixSO (fa δ) (fb δ)) :=
  (pe_ix ix_str ha hb hs).imp fun σ H Q ⟨B, Hk, δ, d, R, e, k⟩ => by
    obtain ⟨z, i, c, e1, e2, hl, hc, rfl⟩ := ixSO_some e
    refine two R e1 e2 fun v u H' s R' r1 r2 => ?_
    simp only [Rep] at r1 r2
    subst r1 r2
    exact ⟨z, i, c, rfl, rfl, lim_line hl, hc, k _ H' s (by simp only [Rep])⟩

structure Blt (X : Cx) (x : Str) (id : Value) : Prop where
  gl : Gl X x
  mg : X.mg x = none
  bt : bootBuiltins x = some id
theorem PA.one {e : Expr} {t : TA} (h : PA X [e] t) : PA X [e] t := h
def lenO (x : Option D) : Option D := match x with | some d => (match itemsD d with | some ds => some (.int ds.length) | none => (match d with | .str z => if z.length ≤ lim then some (.int z.length) else none | _ => none)) | none => none
def lenL (x : Option D) : Option D := match x with | some d => (match itemsD d with | some ds => some (.int ds.length) | none => none) | none => none
theorem lenL_some {x : Option D} {d : D} (h : lenL x = some d) : ∃ e es, x = some e ∧ itemsD e = some es ∧ d = .int es.length := by
  unfold lenL at h
  split at h
  · rename_i e
    split at h
    · rename_i es he; cases h; exact ⟨e, es, rfl, he, rfl⟩
    · cases h
  · cases h

theorem oneA {K : PySem.W.Frag} {σ : St} {H : Hp} {B : Addr → Prop} {Hk : Hp} {δ : DEnv} {d : D} {P : List V → Hp → Prop} (R : Rel K B Hk δ σ H) (e : fa δ = some d)
    (k : ∀ v H', Same H H' → Rel K B Hk δ σ H' → Rep K (bset m B δ σ) H' d v → P [v] H') : tCons (tM K m fa) tNil σ H P :=
  ⟨B, Hk, δ, d, R, e, fun v H1 s1 r1 => k v H1 s1 (R.to s1) r1⟩
theorem de_len (g : Gl X "len") (hm : X.mg "len" = none) {p : Pos} (ha : DE X m a fa) (hs : starEach [a] X.env = [(false, eval a X.env)] := by rfl) (hd1 : ((Str.ofString "len") == ("__debug__" : Str)) = false := by decide) : DE X mm (.Call (.Name "len" p) [a] [] pos) (fun δ => lenL (fa δ)) :=
  (pe_callB call_len_seq g hm PySem.boot_len (pa_cons ha pa_nil hs) (he := hs)).imp fun σ H Q ⟨B, Hk, δ, d, R, e, k⟩ => by
    obtain ⟨d1, es, e1, hi, rfl⟩ := lenL_some e
    refine oneA R e1 fun v H' s R' r => ?_
    obtain ⟨p, xs, rfl, hq, rs⟩ := r.items hi
    exact ⟨p, xs, rfl, hq, k _ H' s (by simp only [Rep, rs.length])⟩

theorem Inv.frz {pins : List (Addr × Obj)} {σ : St} {H : Hp} {s : Shared} {p : Addr} {u : HO} (I : Inv X pins σ H s) (h : H p = some u) (mu : Mut (some u)) : ∃ o, Inv X pins σ (upd H p (.frz o u)) s := by
  have hob := I.hok p u h
  have hlt := hob.lt
  have mu' : Mut (H p) := by rw [h]; exact mu
  have heo : ∃ o, s.heap.get? p = some o := by
    cases u with
    | lst xs => obtain ⟨_, _, _, _, e⟩ := hob; exact ⟨_, e⟩
    | tup xs => exact mu.elim
    | dK kvs => obtain ⟨_, _, _, _, o, _, _, e, _⟩ := hob; exact ⟨_, e⟩
    | dT kvs => obtain ⟨_, _, _, _, o, _, _, e, _⟩ := hob; exact ⟨_, e⟩
    | set S n => obtain ⟨o, _, _, _, e, _⟩ := hob; exact ⟨_, e⟩
    | ins C dx fs => obtain ⟨_, _, _, e, _⟩ := hob; exact ⟨_, e⟩
    | own y => exact mu.elim
    | xd fs => exact mu.elim
    | rng lo hi => exact mu.elim
    | frz ob u => exact mu.elim
    | tbl ps => exact mu.elim
    | met f y => exact mu.elim
    | ext φ => obtain ⟨_, ⟨_, e⟩, _⟩ := hob; exact ⟨_, e⟩
  obtain ⟨o, ho⟩ := heo
  refine ⟨o, ?_⟩
  have nown : ∀ c y, H c = some (.own y) → c ≠ p := fun c y r z => by subst z; rw [h] at r; cases r; exact mu
  have ntup : ∀ c xs, H c = some (.tup xs) → c ≠ p := fun c xs r z => by subst z; rw [h] at r; cases r; exact mu
  have new : ObjOk X.prog X.w (upd H p (.frz o u)) s.heap p (.frz o u) := ⟨ho, hob.stay (fun b v _ q => q) (fun b q => by rw [upd_ne (nown b p q)]; exact q) fun b xs q => by rw [upd_ne (ntup b xs q)]; exact q⟩
  exact I.un (t' := s.toks) (Un.write mu' (.inl rfl) (fun b v _ q => q) ⟨o, ho⟩) (I.hok.write mu' (.inl rfl) (fun b v _ q => q) ⟨o, ho⟩ new)
theorem ObR.mut {K : PySem.W.Frag} {B : Addr → Prop} {H : Hp} {d : D} {p : Addr} (h : ObR K B H d p) : ∃ u, H p = some u ∧ Mut (some u) := by
  cases d with
  | lst ds => obtain ⟨xs, h1, h2⟩ := h; exact ⟨_, h1, trivial⟩
  | dT ks ds => obtain ⟨xs, h1, h0, h2⟩ := h; exact ⟨_, h1, trivial⟩
  | dK ks ds => obtain ⟨xs, h1, h0, h2⟩ := h; exact ⟨_, h1, trivial⟩
  | _ => exact (show False from h).elim

theorem ext_upd {B : Addr → Prop} {H : Hp} {p : Addr} {u o : HO} (h : H p = some u) (mu : Mut (some u)) (hb : ¬ B p) : Ext B H (upd H p o) :=
  ⟨fun c xs r => by rw [upd_ne (fun z => by subst z; rw [h] at r; cases r; exact mu)]; exact r, fun c x y r => by rw [upd_ne (fun z => by subst z; rw [h] at r; cases r; exact mu)]; exact r,
    fun c r => by rw [upd_ne (fun z => by subst z; exact hb r)]⟩
theorem ObR.frozen {K : PySem.W.Frag} {B B' : Addr → Prop} {H : Hp} {d : D} {p : Addr} {u : HO} {o : Obj} (h : ObR K B H d p) (hu : H p = some u) (hb : ¬ B p) (hs : ∀ a, B a → B' a) : Rep K B' (upd H p (.frz o u)) d (.ref p) := by
  obtain ⟨u', e, mu⟩ := h.mut
  rw [hu] at e; cases e
  have ex : Ext B H (upd H p (.frz o u)) := ext_upd hu mu hb
  cases d with
  | lst ds =>
    obtain ⟨xs, h1, h2⟩ := h
    rw [hu] at h1; cases h1
    simp only [Rep]
    exact ⟨p, xs, rfl, .inr (.inl ⟨o, upd_same⟩), (h2.ext ex).more hs⟩
  | dT ks ds =>
    obtain ⟨xs, h1, h0, h2⟩ := h
    rw [hu] at h1; cases h1
    simp only [Rep]
    exact ⟨p, xs, rfl, .inr ⟨o, upd_same⟩, h0, (h2.ext ex).more hs⟩
  | dK ks ds =>
    obtain ⟨xs, h1, h0, h2⟩ := h
    rw [hu] at h1; cases h1
    simp only [Rep]
    exact ⟨p, xs, rfl, .inr ⟨o, upd_same⟩, h0, (h2.ext ex).more hs⟩
  | _ => exact (show False from h).elim

theorem DF.share (h : DF X a fa) : DE X m a fa := by
  intro pins s σ H Q I hq
  obtain ⟨B, Hk, δ, d, R, e, k⟩ := hq
  have h1 := h pins s σ H (fun v H' => ∃ p, v = .ref p ∧ Same H H' ∧ H p = none ∧ ObR X.K B H' d p) I ⟨B, Hk, δ, d, R, e, fun p H' s n ob => ⟨p, rfl, s, n, ob⟩⟩
  refine thn h1 fun u s1 ⟨v, H1, I1, rv, p, ev, sm, hn, ob⟩ => ?_
  subst ev
  obtain ⟨u', hu, mu⟩ := ob.mut
  obtain ⟨o, I2⟩ := I1.frz hu mu
  have hb : ¬ B p := fun z => by
    obtain ⟨o', e'⟩ := R.borH p z
    rw [hn] at e'; cases e'
  refine ⟨.ref p, _, I2, rv, k _ _ (fun c o' r => ?_) (ob.frozen hu hb fun a h => bset_of m a h)⟩
  rw [upd_ne (ne_of_none r hn)]
  exact sm c o' r
end

def RepR (K : PySem.W.Frag) (B : Addr → Prop) (Hk H' : Hp) (d : D) (fr : Bool) (v : V) : Prop := if fr = true then ∃ a, v = .ref a ∧ Hk a = none ∧ ObR K B H' d a else Rep K B H' d v
def spM (K : PySem.W.Frag) (f : List D → Option (D × Bool)) : Sp := fun vs H Q _ => ∃ B ds r fr, (∀ a, B a → ∃ o, H a = some o) ∧ Reps K B H ds vs ∧ f ds = some (r, fr) ∧ ∀ v H', Same H H' → RepR K B H H' r fr v → Q v H'

structure FnM (P : Program) (w : World) (K : PySem.W.Frag) (mg : Str → Option Value) (base : Heap) (k : Nat) (x : Str) (f : List D → Option (D × Bool)) : Prop where
  ex : ∃ (p : Addr) (fd : FuncData) (ps : List Str), FnOk P w K mg base CX0 k p fd ps (spM K f) ∧ mg x = some (.ref p) ∧ PySem.W.keepIn K (.ref p) = true ∧ Binds K fd ps []
theorem FnM.mono {P : Program} {w : World} {K : PySem.W.Frag} {mg : Str → Option Value} {base : Heap} {j k : Nat} {x : Str} {f : List D → Option (D × Bool)} (h : FnM P w K mg base j x f) (hk : j ≤ k) : FnM P w K mg base k x f := by
  obtain ⟨p, fd, ps, h1, h2⟩ := h.ex
  exact ⟨p, fd, ps, h1.mono hk, h2⟩
theorem FnM.imp {P : Program} {w : World} {K : PySem.W.Frag} {mg : Str → Option Value} {base : Heap} {k : Nat} {x : Str} {f f' : List D → Option (D × Bool)} (h : FnM P w K mg base k x f) (hf : ∀ ds r, f' ds = some r → f ds = some r) : FnM P w K mg base k x f' := by
  obtain ⟨p, fd, ps, h1, h2⟩ := h.ex
  exact ⟨p, fd, ps, h1.imp fun vs H Q E ⟨B, ds, r, fr, a, b, c, d⟩ => ⟨B, ds, r, fr, a, b, hf _ _ c, d⟩, h2⟩
def bindO {α β : Type} (x : Option α) (f : α → Option β) : Option β := match x with | some a => f a | none => none
theorem bindO_some {α β : Type} {x : Option α} {f : α → Option β} {b : β} (h : bindO x f = some b) : ∃ a, x = some a ∧ f a = some b := by
  cases x with
  | none => cases h
  | some a => exact ⟨a, rfl, h⟩
@[simp] theorem bindO_of {α β : Type} {a : α} {f : α → Option β} : bindO (some a) f = f a := rfl
def shO (x : Option (D × Bool)) : Option D := match x with | some (d, _) => some d | none => none
def frO (x : Option (D × Bool)) : Option D := match x with | some (d, true) => some d | _ => none

def flO (x : Option (D × Bool)) : Option D := match x with | some (.lst ds, true) => if D.flats ds = true then some (.lst ds) else none | _ => none
section
variable {X : Cx} {m m' mm : Bool} {a b e : Expr} {es : List Expr} {fa fb : DEnv → Option D} {fs : DEnv → Option (List D)} {pos p : Pos} {k : Nat} {x : Str} {f : List D → Option (D × Bool)}
theorem call_un (F : FnM X.prog X.w X.K X.mg X.base k x f) (hr : Room k X.A) (hg : Gl X x) (ha : DA X m (e :: es) fs) (hdb : (x == ("__debug__" : Str)) = false) (he : starEach (e :: es) X.env = (false, eval e X.env) :: starEach es X.env) (hpl : (backTo pos (starEach es X.env)).any (·.1) = false) :
    PE X (.Call (.Name x p) (e :: es) [] pos) (fun σ H Q => ∃ B Hk δ ds r fr, Rel X.K B Hk δ σ H ∧ fs δ = some ds ∧ f ds = some (r, fr) ∧ ∀ v H1 H', Same H H1 → Same H1 H' → RepR X.K (bset m B δ σ) H1 H' r fr v → Q v H') := by
  obtain ⟨q, fd, ps, h1, h2, h3, h4⟩ := F.ex
  refine (pe_call (ds := []) (dvs := []) h1 hr hg h2 h3 h4 .nil pass0 ha hdb he hpl).imp fun σ H Q ⟨B, Hk, δ, ds, r, fr, R, e1, e2, kk⟩ => ?_
  refine ⟨B, Hk, δ, ds, R, e1, fun vs H1 s1 rs => ?_⟩
  show spM X.K f (vs ++ []) H1 Q E0
  rw [List.append_nil]
  exact ⟨bset m B δ σ, ds, r, fr, (R.to s1).bsH m, rs, e2, fun v H' s2 rr => kk v H1 H' s1 s2 rr⟩

theorem df_call (F : FnM X.prog X.w X.K X.mg X.base k x f) (hr : Room k X.A) (hg : Gl X x) (ha : DA X false (e :: es) fs) (hdb : (x == ("__debug__" : Str)) = false := by decide) (he : starEach (e :: es) X.env = (false, eval e X.env) :: starEach es X.env := by rfl)
    (hpl : (backTo pos (starEach es X.env)).any (·.1) = false := by rfl) : DF X (.Call (.Name x p) (e :: es) [] pos) (fun δ => frO (bindO (fs δ) f)) :=
  (call_un F hr hg ha hdb he hpl).imp fun σ H Q ⟨B, Hk, δ, d, R, e, kk⟩ => by
    unfold frO at e
    dsimp only at e
    split at e
    · rename_i q
      cases e
      obtain ⟨ds, e1, e2⟩ := bindO_some q
      refine ⟨B, Hk, δ, ds, _, _, R, e1, e2, fun v H1 H' s1 s2 rr => ?_⟩
      unfold RepR at rr
      rw [if_pos rfl] at rr
      obtain ⟨a, rfl, n, ob⟩ := rr
      exact kk a H' (s1.trans s2) (s1.free n) ob
    · cases e

theorem df_callF (F : FnM X.prog X.w X.K X.mg X.base k x f) (hr : Room k X.A) (hg : Gl X x) (ha : DA X true (e :: es) fs) (hdb : (x == ("__debug__" : Str)) = false := by decide) (he : starEach (e :: es) X.env = (false, eval e X.env) :: starEach es X.env := by rfl)
    (hpl : (backTo pos (starEach es X.env)).any (·.1) = false := by rfl) : DF X (.Call (.Name x p) (e :: es) [] pos) (fun δ => flO (bindO (fs δ) f)) :=
  (call_un F hr hg ha hdb he hpl).imp fun σ H Q ⟨B, Hk, δ, d, R, e, kk⟩ => by
    unfold flO at e
    dsimp only at e
    split at e
    · rename_i ls q
      by_cases fl : D.flats ls = true
      · rw [if_pos fl] at e
        cases e
        obtain ⟨ds, e1, e2⟩ := bindO_some q
        refine ⟨B, Hk, δ, ds, _, _, R, e1, e2, fun v H1 H' s1 s2 rr => ?_⟩
        unfold RepR at rr
        rw [if_pos rfl] at rr
        obtain ⟨a, rfl, n, xs, hx, rs⟩ := rr
        exact kk a H' (s1.trans s2) (s1.free n) ⟨xs, hx, Reps.flat fl rs⟩
      · rw [if_neg fl] at e; cases e
    · cases e

theorem de_call (F : FnM X.prog X.w X.K X.mg X.base k x f) (hr : Room k X.A) (hg : Gl X x) (ha : DA X m (e :: es) fs) (hdb : (x == ("__debug__" : Str)) = false := by decide) (he : starEach (e :: es) X.env = (false, eval e X.env) :: starEach es X.env := by rfl)
    (hpl : (backTo pos (starEach es X.env)).any (·.1) = false := by rfl) : DE X m (.Call (.Name x p) (e :: es) [] pos) (fun δ => shO (bindO (fs δ) f)) := by
  intro pins s σ H Q I hq
  obtain ⟨B, Hk, δ, d, R, e, kk⟩ := hq
  unfold shO at e
  dsimp only at e
  split at e
  · rename_i d' fr q
    cases e
    obtain ⟨ds, e1, e2⟩ := bindO_some q
    have h1 := call_un (p := p) F hr hg ha hdb he hpl pins s σ H (fun v H' => ∃ H1, Same H H1 ∧ Same H1 H' ∧ RepR X.K (bset m B δ σ) H1 H' d fr v) I ⟨B, Hk, δ, ds, d, fr, R, e1, e2, fun v H1 H' s1 s2 rr => ⟨H1, s1, s2, rr⟩⟩
    refine thn h1 fun u s1 ⟨v, H', I1, rv, H1, sm1, sm2, rr⟩ => ?_
    cases fr with
    | false =>
      unfold RepR at rr
      rw [if_neg Bool.false_ne_true] at rr
      exact ⟨v, H', I1, rv, kk v H' (sm1.trans sm2) rr⟩
    | true =>
      unfold RepR at rr
      rw [if_pos rfl] at rr
      obtain ⟨p, rfl, n, ob⟩ := rr
      obtain ⟨u', hu, mu⟩ := ob.mut
      obtain ⟨o, I2⟩ := I1.frz hu mu
      have hb : ¬ bset m B δ σ p := fun z => by
        obtain ⟨o', e'⟩ := R.bsH m p z
        have := sm1 p o' e'
        rw [n] at this; cases this
      refine ⟨.ref p, _, I2, rv, kk _ _ (fun c o' r => ?_) (ob.frozen hu hb fun a h => h)⟩
      rw [upd_ne (ne_of_none (sm1 c o' r) n)]
      exact sm2 c o' (sm1 c o' r)
  · cases e
end

inductive Out where
  | next (δ : DEnv) | ret (d : D) (fr : Bool) | brk (δ : DEnv) | cont (δ : DEnv)
def OutK (K : PySem.W.Frag) (B : Addr → Prop) (Hk H : Hp) (Dn : Ends) : Out → Prop
  | .next δ => ∀ σ' H', Ext B H H' → Rel K B Hk δ σ' H' → Dn.nx σ' H'
  | .brk δ => ∀ σ' H', Ext B H H' → Rel K B Hk δ σ' H' → Dn.bk σ' H'
  | .cont δ => ∀ σ' H', Ext B H H' → Rel K B Hk δ σ' H' → Dn.ct σ' H'
  | .ret d fr => ∀ v H', Ext B H H' → Same Hk H' → RepR K B Hk H' d fr v → Dn.rt v H'
def tD (K : PySem.W.Frag) (g : DEnv → Option Out) : TS := fun Dn σ H => ∃ B Hk δ o, Rel K B Hk δ σ H ∧ g δ = some o ∧ OutK K B Hk H Dn o
abbrev DS (X : Cx) (st : Stmt) (g : DEnv → Option Out) : Prop := PS X st (tD X.K g)
abbrev DSs (X : Cx) (sts : List Stmt) (g : DEnv → Option Out) : Prop := PSs X sts (tD X.K g)
theorem OutK.ext {K : PySem.W.Frag} {B : Addr → Prop} {Hk H H1 : Hp} {Dn : Ends} {o : Out} (h : OutK K B Hk H Dn o) (e : Ext B H H1) : OutK K B Hk H1 Dn o := by
  cases o with
  | next δ => exact fun σ' H' x r => h σ' H' (e.trans x) r
  | brk δ => exact fun σ' H' x r => h σ' H' (e.trans x) r
  | cont δ => exact fun σ' H' x r => h σ' H' (e.trans x) r
  | ret d fr => exact fun v H' x r => h v H' (e.trans x) r
def nextO (δ : DEnv) : Option Out := some (.next δ)
def seqO (x : Option Out) (k : DEnv → Option Out) : Option Out := match x with | some (.next δ) => k δ | o => o
section
variable {X : Cx} {m m' mm : Bool} {a b e : Expr} {es : List Expr} {fa fb : DEnv → Option D} {fs : DEnv → Option (List D)} {pos p : Pos} {st : Stmt} {rest : List Stmt} {g g1 g2 : DEnv → Option Out} {fc : DEnv → Option Bool}
theorem dss_nil : DSs X [] nextO := pss_nil.imp fun Dn σ H ⟨B, Hk, δ, o, R, e, k⟩ => by
  cases e
  exact k σ H Ext.refl R
theorem dss_cons (h1 : DS X st g1) (h2 : DSs X rest g2) : DSs X (st :: rest) (fun δ => seqO (g1 δ) g2) :=
  (pss_cons h1 h2).imp fun Dn σ H ⟨B, Hk, δ, o, R, e, k⟩ => by
    cases q : g1 δ with
    | none => simp only [q, seqO] at e; cases e
    | some o1 =>
      cases o1 with
      | next δ1 =>
        simp only [q, seqO] at e
        exact ⟨B, Hk, δ, _, R, q, fun σ' H' x R' => ⟨B, Hk, δ1, o, R', e, k.ext x⟩⟩
      | brk δ1 => simp only [q, seqO] at e; cases e; exact ⟨B, Hk, δ, _, R, q, k⟩
      | cont δ1 => simp only [q, seqO] at e; cases e; exact ⟨B, Hk, δ, _, R, q, k⟩
      | ret d fr => simp only [q, seqO] at e; cases e; exact ⟨B, Hk, δ, _, R, q, k⟩
theorem dss_one (h1 : DS X st g1) : DSs X [st] g1 := pss_one h1
theorem ds_pass : DS X (.Pass pos) nextO := ps_pass.imp fun Dn σ H ⟨B, Hk, δ, o, R, e, k⟩ => by cases e; exact k σ H Ext.refl R
theorem ds_break : DS X (.Break pos) (fun δ => some (.brk δ)) := ps_break.imp fun Dn σ H ⟨B, Hk, δ, o, R, e, k⟩ => by cases e; exact k σ H Ext.refl R
theorem ds_cont : DS X (.Continue pos) (fun δ => some (.cont δ)) := ps_continue.imp fun Dn σ H ⟨B, Hk, δ, o, R, e, k⟩ => by cases e; exact k σ H Ext.refl R
def ifO (c : Option Bool) (x y : Option Out) : Option Out := match c with | some true => x | some false => y | none => none
theorem Rel.ext {K : PySem.W.Frag} {B : Addr → Prop} {Hk H H' : Hp} {δ : DEnv} {σ : St} (R : Rel K B Hk δ σ H) (s : Same H H') : Ext B H H' := s.ext R.borH
theorem ds_if {c : Expr} {x y : List Stmt} (hc : DT X c fc) (ha : DSs X x g1) (hb : DSs X y g2) : DS X (.If c x y pos) (fun δ => ifO (fc δ) (g1 δ) (g2 δ)) :=
  (ps_if hc ha hb).imp fun Dn σ H ⟨B, Hk, δ, o, R, e, k⟩ => by
    unfold ifO at e
    dsimp only at e
    split at e
    · rename_i q
      exact ⟨B, Hk, δ, true, R, q, fun H1 s1 => iteT ⟨B, Hk, δ, o, R.to s1, e, k.ext (R.ext s1)⟩⟩
    · rename_i q
      exact ⟨B, Hk, δ, false, R, q, fun H1 s1 => iteF ⟨B, Hk, δ, o, R.to s1, e, k.ext (R.ext s1)⟩⟩
    · cases e

theorem Rel.set {K : PySem.W.Frag} {B : Addr → Prop} {Hk H : Hp} {δ : DEnv} {σ : St} {i : Nat} {d : D} {v : V} (R : Rel K B Hk δ σ H) (hi : i < σ.length) (r : Rep K B H d v) : Rel K B Hk (δ.set i (some (d, false))) (σ.set i (some v)) H := by
  have hi' : i < δ.length := by rw [R.len]; exact hi
  refine ⟨R.same, R.bor, by simpa using R.len, fun j e h => ?_, fun j e h => ?_, fun j k e f q hjk h1 h2 h3 h4 => ?_⟩
  · by_cases hj : j = i
    · subst hj
      rw [List.getElem?_set_self hi'] at h
      cases h
      exact ⟨v, by rw [List.getElem?_set_self hi], r⟩
    · rw [List.getElem?_set_ne (Ne.symm hj)] at h
      rw [List.getElem?_set_ne (Ne.symm hj)]
      exact R.var j e h
  · by_cases hj : j = i
    · subst hj
      rw [List.getElem?_set_self hi'] at h
      cases h
    · rw [List.getElem?_set_ne (Ne.symm hj)] at h
      rw [List.getElem?_set_ne (Ne.symm hj)]
      exact R.own j e h
  · have nj : j ≠ i := fun z => by subst z; rw [List.getElem?_set_self hi'] at h1; cases h1
    have nk : k ≠ i := fun z => by subst z; rw [List.getElem?_set_self hi'] at h2; cases h2
    rw [List.getElem?_set_ne (Ne.symm nj)] at h1 h3
    rw [List.getElem?_set_ne (Ne.symm nk)] at h2 h4
    exact R.dis j k e f q hjk h1 h2 h3 h4

theorem Rel.setOwn {K : PySem.W.Frag} {B : Addr → Prop} {Hk H : Hp} {δ : DEnv} {σ : St} {i : Nat} {d : D} {a : Addr} (R : Rel K B Hk δ σ H) (hi : i < σ.length) (hk : Hk a = none) (ob : ObR K B H d a)
    (ho : ∀ (j : Nat) e, j ≠ i → δ[j]? = some (some (e, true)) → σ[j]? ≠ some (some (.ref a))) : Rel K B Hk (δ.set i (some (d, true))) (σ.set i (some (.ref a))) H := by
  have hi' : i < δ.length := by rw [R.len]; exact hi
  refine ⟨R.same, R.bor, by simpa using R.len, fun j e h => ?_, fun j e h => ?_, fun j k e f q hjk h1 h2 h3 h4 => ?_⟩
  · by_cases hj : j = i
    · subst hj
      rw [List.getElem?_set_self hi'] at h
      cases h
    · rw [List.getElem?_set_ne (Ne.symm hj)] at h
      rw [List.getElem?_set_ne (Ne.symm hj)]
      exact R.var j e h
  · by_cases hj : j = i
    · subst hj
      rw [List.getElem?_set_self hi'] at h
      cases h
      exact ⟨a, by rw [List.getElem?_set_self hi], hk, ob⟩
    · rw [List.getElem?_set_ne (Ne.symm hj)] at h
      rw [List.getElem?_set_ne (Ne.symm hj)]
      exact R.own j e h
  · by_cases nj : j = i
    · subst nj
      have nk : k ≠ j := fun z => hjk z.symm
      rw [List.getElem?_set_self hi] at h3
      cases h3
      rw [List.getElem?_set_ne (Ne.symm nk)] at h2 h4
      exact ho k f nk h2 h4
    · rw [List.getElem?_set_ne (Ne.symm nj)] at h1 h3
      by_cases nk : k = i
      · subst nk
        rw [List.getElem?_set_self hi] at h4
        cases h4
        exact ho j e nj h1 h3
      · rw [List.getElem?_set_ne (Ne.symm nk)] at h2 h4
        exact R.dis j k e f q hjk h1 h2 h3 h4
def setO (i : Nat) (x : Option D) (δ : DEnv) : Option Out := match x with | some d => if i < δ.length then some (.next (δ.set i (some (d, false)))) else none | none => none
def setF (i : Nat) (x : Option D) (δ : DEnv) : Option Out := match x with | some d => if i < δ.length then some (.next (δ.set i (some (d, true)))) else none | none => none
theorem setO_some {i : Nat} {x : Option D} {δ : DEnv} {o : Out} (h : setO i x δ = some o) : ∃ d, x = some d ∧ i < δ.length ∧ o = .next (δ.set i (some (d, false))) := by
  unfold setO at h
  split at h
  · rename_i d
    by_cases q : i < δ.length
    · rw [if_pos q] at h; cases h; exact ⟨d, rfl, q, rfl⟩
    · rw [if_neg q] at h; cases h
  · cases h
theorem setF_some {i : Nat} {x : Option D} {δ : DEnv} {o : Out} (h : setF i x δ = some o) : ∃ d, x = some d ∧ i < δ.length ∧ o = .next (δ.set i (some (d, true))) := by
  unfold setF at h
  split at h
  · rename_i d
    by_cases q : i < δ.length
    · rw [if_pos q] at h; cases h; exact ⟨d, rfl, q, rfl⟩
    · rw [if_neg q] at h; cases h
  · cases h
theorem asg_set {i : Nat} {Dn : Ends} {σ : St} {H : Hp} (h : tD X.K (fun δ => setO i (fa δ) δ) Dn σ H) : tAsg (tM X.K false fa) (gName i) Dn σ H := by
  obtain ⟨B, Hk, δ, o, R, e, k⟩ := h
  obtain ⟨d, e1, hi, rfl⟩ := setO_some e
  exact ⟨B, Hk, δ, d, R, e1, fun v H' s r => k _ H' (R.ext s) ((R.to s).set (by rw [← R.len]; exact hi) r)⟩
theorem asg_setF {i : Nat} {Dn : Ends} {σ : St} {H : Hp} (h : tD X.K (fun δ => setF i (fa δ) δ) Dn σ H) : tAsg (tF X.K fa) (gName i) Dn σ H := by
  obtain ⟨B, Hk, δ, o, R, e, k⟩ := h
  obtain ⟨d, e1, hi, rfl⟩ := setF_some e
  refine ⟨B, Hk, δ, d, R, e1, fun a H' s n ob => k _ H' (R.ext s) ((R.to s).setOwn (by rw [← R.len]; exact hi) (R.same.free n) ob fun j e hj h1 h2 => ?_)⟩
  obtain ⟨b, h3, _, ob'⟩ := R.own j e h1
  rw [h2] at h3; cases h3
  obtain ⟨o, e'⟩ := ob'.there
  rw [n] at e'; cases e'
theorem ds_set {i : Nat} {x : Str} {pos' : Pos} (hN : X.N.Nodup) (ha : DE X false a fa) (hi : X.N[i]? = some x := by rfl) (hx : Loc X.env.scope x := by first | exact Or.inl rfl | exact Or.inr rfl) (hs : swapsWith a (some (.Name x pos')) pos.line X.env = pure false := by rfl)
    (hf : X.fn x = true ∨ X.env.scope.names.lookup x = some .local := by first | exact .inl rfl | exact .inr rfl) : DS X (.Assign [.Name x pos'] a pos) (fun δ => setO i (fa δ) δ) :=
  (ps_set hN hi hx ha hs hf).imp fun Dn σ H h => asg_set h
theorem ds_setF {i : Nat} {x : Str} {pos' : Pos} (hN : X.N.Nodup) (ha : DF X a fa) (hi : X.N[i]? = some x := by rfl) (hx : Loc X.env.scope x := by first | exact Or.inl rfl | exact Or.inr rfl) (hs : swapsWith a (some (.Name x pos')) pos.line X.env = pure false := by rfl)
    (hf : X.fn x = true ∨ X.env.scope.names.lookup x = some .local := by first | exact .inl rfl | exact .inr rfl) : DS X (.Assign [.Name x pos'] a pos) (fun δ => setF i (fa δ) δ) :=
  (ps_set hN hi hx ha hs hf).imp fun Dn σ H h => asg_setF h

def retO (x : Option D) : Option Out := match x with | some d => some (.ret d false) | none => none
def retF (x : Option D) : Option Out := match x with | some d => some (.ret d true) | none => none
theorem ds_ret (ha : DE X false a fa) : DS X (.Return (some a) pos) (fun δ => retO (fa δ)) :=
  (ps_ret ha).imp fun Dn σ H ⟨B, Hk, δ, o, R, e, k⟩ => by
    cases q : fa δ with
    | none => simp only [q, retO] at e; cases e
    | some d =>
      simp only [q, retO] at e; cases e
      exact ⟨B, Hk, δ, d, R, q, fun v H' s r => k v H' (R.ext s) (R.same.trans s) (by unfold RepR; rw [if_neg Bool.false_ne_true]; exact r)⟩
theorem ds_retF (ha : DF X a fa) : DS X (.Return (some a) pos) (fun δ => retF (fa δ)) :=
  (ps_ret ha).imp fun Dn σ H ⟨B, Hk, δ, o, R, e, k⟩ => by
    cases q : fa δ with
    | none => simp only [q, retF] at e; cases e
    | some d =>
      simp only [q, retF] at e; cases e
      exact ⟨B, Hk, δ, d, R, q, fun p H' s n ob => k (.ref p) H' (R.ext s) (R.same.trans s) (by unfold RepR; rw [if_pos rfl]; exact ⟨p, rfl, R.same.free n, ob⟩)⟩

def rdOwn (i : Nat) (δ : DEnv) : Option D := match δ[i]? with | some (some (d, true)) => some d | _ => none
theorem rdOwn_some {i : Nat} {δ : DEnv} {d : D} (h : rdOwn i δ = some d) : δ[i]? = some (some (d, true)) := by
  unfold rdOwn at h
  split at h
  · rename_i d' e; cases h; exact e
  · cases h

theorem ds_retv {i : Nat} {x : Str} {px : Pos} (hN : X.N[i]? = some x := by rfl) (hv : Vis X.env.scope x := by first | exact Or.inl rfl | exact Or.inr (Or.inl rfl) | exact Or.inr (Or.inr rfl)) (hd : (x == ("__debug__" : Str)) = false := by decide) (hcd : (x == ("__classdict__" : Str)) = false := by decide) :
    DS X (.Return (some (.Name x px)) pos) (fun δ => retF (rdOwn i δ)) :=
  (ps_ret (pe_var hN hv hd hcd)).imp fun Dn σ H ⟨B, Hk, δ, o, R, e, k⟩ => by
    cases q : rdOwn i δ with
    | none => simp only [q, retF] at e; cases e
    | some d =>
      simp only [q, retF] at e; cases e
      obtain ⟨p, h1, h2, h3⟩ := R.own i d (rdOwn_some q)
      exact ⟨.ref p, h1, k (.ref p) H Ext.refl R.same (by unfold RepR; rw [if_pos rfl]; exact ⟨p, rfl, h2, h3⟩)⟩
theorem ds_retN : DS X (.Return none pos) (fun _ => some (.ret .non false)) := ps_retN.imp fun Dn σ H ⟨B, Hk, δ, o, R, e, k⟩ => by
  cases e
  exact k .non H Ext.refl R.same (by unfold RepR; rw [if_neg Bool.false_ne_true]; simp only [Rep])

theorem Rel.lset {K : PySem.W.Frag} {B : Addr → Prop} {Hk H : Hp} {δ : DEnv} {σ : St} {i : Nat} {ds ds' : List D} {l : Addr} {xs xs' : List V} (R : Rel K B Hk δ σ H) (h : δ[i]? = some (some (.lst ds, true))) (hl : σ[i]? = some (some (.ref l))) (hx : H l = some (.lst xs)) (r : Reps K B H ds' xs') :
    Ext B H (upd H l (.lst xs')) ∧ Rel K B Hk (δ.set i (some (.lst ds', true))) σ (upd H l (.lst xs')) := by
  obtain ⟨a, e1, e2, ys, e3, _⟩ := R.own i _ h
  rw [hl] at e1; cases e1
  have hb : ¬ B l := fun z => by obtain ⟨o, q⟩ := R.bor l z; rw [e2] at q; cases q
  have ex : Ext B H (upd H l (.lst xs')) := ext_upd hx trivial hb
  have hi' : i < δ.length := (List.getElem?_eq_some_iff.mp h).1
  refine ⟨ex, ⟨fun b o q => ?_, R.bor, by simpa using R.len, fun j e q => ?_, fun j e q => ?_, fun j k e f q hjk h1 h2 h3 h4 => ?_⟩⟩
  · rw [upd_ne (ne_of_none q e2)]; exact R.same b o q
  · by_cases hj : j = i
    · subst hj
      rw [List.getElem?_set_self hi'] at q
      cases q
    · rw [List.getElem?_set_ne (Ne.symm hj)] at q
      obtain ⟨v, q1, q2⟩ := R.var j e q
      exact ⟨v, q1, q2.ext ex⟩
  · by_cases hj : j = i
    · subst hj
      rw [List.getElem?_set_self hi'] at q
      cases q
      exact ⟨l, hl, e2, xs', upd_same, r.ext ex⟩
    · rw [List.getElem?_set_ne (Ne.symm hj)] at q
      obtain ⟨c, q1, q2, q3⟩ := R.own j e q
      have hc : c ≠ l := fun z => by subst z; exact R.dis j i e _ c hj q h q1 hl
      exact ⟨c, q1, q2, q3.ext ex fun o q => by rw [upd_ne hc]; exact q⟩
  · have h1' : ∃ e', δ[j]? = some (some (e', true)) := by
      by_cases hj : j = i
      · subst hj; exact ⟨_, h⟩
      · rw [List.getElem?_set_ne (Ne.symm hj)] at h1; exact ⟨_, h1⟩
    have h2' : ∃ e', δ[k]? = some (some (e', true)) := by
      by_cases hj : k = i
      · subst hj; exact ⟨_, h⟩
      · rw [List.getElem?_set_ne (Ne.symm hj)] at h2; exact ⟨_, h2⟩
    obtain ⟨e', h1'⟩ := h1'
    obtain ⟨f', h2'⟩ := h2'
    exact R.dis j k e' f' q hjk h1' h2' h3 h4
def appO (i : Nat) (x : Option D) (δ : DEnv) : Option Out := match rdOwn i δ, x with | some (.lst ds), some d => if ds.length < lim then some (.next (δ.set i (some (.lst (ds ++ [d]), true)))) else none | _, _ => none
theorem appO_some {i : Nat} {x : Option D} {δ : DEnv} {o : Out} (h : appO i x δ = some o) : ∃ ds d, δ[i]? = some (some (.lst ds, true)) ∧ x = some d ∧ ds.length < lim ∧ o = .next (δ.set i (some (.lst (ds ++ [d]), true))) := by
  unfold appO at h
  split at h
  · rename_i ds d q
    by_cases hl : ds.length < lim
    · rw [if_pos hl] at h; cases h; exact ⟨ds, d, rdOwn_some q, rfl, hl, rfl⟩
    · rw [if_neg hl] at h; cases h
  · cases h
theorem ds_append {i : Nat} {x : Str} {px apos cpos : Pos} (ha : DE X false a fa) (hN : X.N[i]? = some x := by rfl) (hv : Vis X.env.scope x := by first | exact Or.inl rfl | exact Or.inr (Or.inl rfl) | exact Or.inr (Or.inr rfl))
    (hbase : attributeBase (.Name x px) "append" X.env (eval (.Name x px) X.env) = eval (.Name x px) X.env := by rfl)
    (hfew : ((backTo cpos (starEach [a] X.env)).all (fun x => !x.1) && (backToKw cpos (keywordEach [] X.env)).all (fun x => x.1.isSome) && decide (([a]).length + ([] : List Keyword).length + (if ([] : List Keyword).isEmpty then 0 else 1) < 30)) = true := by rfl)
    (hline : (apos.endLine == cpos.line) = true := by rfl) (hs : starEach [a] X.env = (false, eval a X.env) :: starEach [] X.env := by rfl) (hd : (x == ("__debug__" : Str)) = false := by decide) (hcd : (x == ("__classdict__" : Str)) = false := by decide)
    (hsw : swapsWith (.Call (.Attribute (.Name x px) "append" apos) [a] [] cpos) none pos.line X.env = pure false := by rfl) : DS X (.Expr (.Call (.Attribute (.Name x px) "append" apos) [a] [] cpos) pos) (fun δ => appO i (fa δ) δ) :=
  (ps_expr (pe_bm PySem.F.plainAttrs_list PySem.F.slot_list_append PySem.F.type_list_append mt_append (pe_var hN hv hd hcd) (pa_cons ha pa_nil hs) hbase hfew hline hs) hsw).imp fun Dn σ H ⟨B, Hk, δ, o, R, e, k⟩ => by
    obtain ⟨ds, d, h1, e1, hl, rfl⟩ := appO_some e
    obtain ⟨l, h2, h3, xs, h4, h5⟩ := R.own i _ h1
    refine ⟨.ref l, h2, .inl ⟨rfl, xs, SqL.of h4⟩, oneA R e1 fun v H' s R' r => ?_⟩
    have h4' := s l _ h4
    have h5' : Reps X.K B H' ds xs := h5.ext (R.ext s)
    obtain ⟨x1, x2⟩ := R'.lset (ds' := ds ++ [d]) (xs' := xs ++ [v]) h1 h2 h4' (h5'.append (Reps.cons r Reps.nil))
    exact ⟨l, xs, v, rfl, rfl, h4', by rw [← h5.length]; exact Nat.lt_of_lt_of_le hl (lim_line (Nat.le_refl _)), k σ _ ((R.ext s).trans x1) x2⟩

def frzE (i : Nat) (δ : DEnv) : DEnv := match δ[i]? with | some (some (d, true)) => δ.set i (some (d, false)) | _ => δ
theorem Rel.frzE {pins : List (Addr × Obj)} {σ : St} {H : Hp} {s : Shared} {B : Addr → Prop} {Hk : Hp} {δ : DEnv} (i : Nat) (I : Inv X pins σ H s) (R : Rel X.K B Hk δ σ H) : ∃ H', Inv X pins σ H' s ∧ Ext B H H' ∧ Rel X.K B Hk (frzE i δ) σ H' := by
  unfold L2.frzE
  split
  · rename_i d h
    obtain ⟨a, e1, e2, ob⟩ := R.own i d h
    obtain ⟨u, hu, mu⟩ := ob.mut
    obtain ⟨o, I2⟩ := I.frz hu mu
    have hb : ¬ B a := fun z => by obtain ⟨o, q⟩ := R.bor a z; rw [e2] at q; cases q
    have ex : Ext B H (upd H a (.frz o u)) := ext_upd hu mu hb
    have hi' : i < δ.length := (List.getElem?_eq_some_iff.mp h).1
    refine ⟨_, I2, ex, ⟨fun b o' q => ?_, R.bor, by simpa using R.len, fun j e q => ?_, fun j e q => ?_, fun j k e f q hjk h1 h2 h3 h4 => ?_⟩⟩
    · rw [upd_ne (ne_of_none q e2)]; exact R.same b o' q
    · by_cases hj : j = i
      · subst hj
        rw [List.getElem?_set_self hi'] at q
        cases q
        exact ⟨_, e1, ob.frozen hu hb fun a h => h⟩
      · rw [List.getElem?_set_ne (Ne.symm hj)] at q
        obtain ⟨v, q1, q2⟩ := R.var j e q
        exact ⟨v, q1, q2.ext ex⟩
    · by_cases hj : j = i
      · subst hj
        rw [List.getElem?_set_self hi'] at q
        cases q
      · rw [List.getElem?_set_ne (Ne.symm hj)] at q
        obtain ⟨c, q1, q2, q3⟩ := R.own j e q
        have hc : c ≠ a := fun z => by subst z; exact R.dis j i e _ c hj q h q1 e1
        exact ⟨c, q1, q2, q3.ext ex fun o q => by rw [upd_ne hc]; exact q⟩
    · have nj : j ≠ i := fun z => by subst z; rw [List.getElem?_set_self hi'] at h1; cases h1
      have nk : k ≠ i := fun z => by subst z; rw [List.getElem?_set_self hi'] at h2; cases h2
      rw [List.getElem?_set_ne (Ne.symm nj)] at h1
      rw [List.getElem?_set_ne (Ne.symm nk)] at h2
      exact R.dis j k e f q hjk h1 h2 h3 h4
  · exact ⟨H, I, Ext.refl, R⟩
theorem ds_frz (i : Nat) (h : DS X st g) : DS X st (fun δ => g (frzE i δ)) := by
  intro pins s σ H Dn I ⟨B, Hk, δ, o, R, e, k⟩
  obtain ⟨H', I', x, R'⟩ := R.frzE i I
  exact h pins s σ H' Dn I' ⟨B, Hk, _, o, R', e, k.ext x⟩
theorem dss_frz {sts : List Stmt} (i : Nat) (h : DSs X sts g) : DSs X sts (fun δ => g (frzE i δ)) := by
  intro pins s σ H Dn I ⟨B, Hk, δ, o, R, e, k⟩
  obtain ⟨H', I', x, R'⟩ := R.frzE i I
  exact h pins s σ H' Dn I' ⟨B, Hk, _, o, R', e, k.ext x⟩
end
end L2

end

section
set_option maxHeartbeats 1000000
namespace L2
open PySem PySem.Spec PyProof.Rows

def tG (K : PySem.W.Frag) (τ : D → DEnv → Option DEnv) : TG := fun v σ H Q => ∃ B Hk δ d δ', Rel K B Hk δ σ H ∧ Rep K B H d v ∧ τ d δ = some δ' ∧ ∀ σ', Rel K B Hk δ' σ' H → Q σ' H
def tGs (K : PySem.W.Frag) (τ : List D → DEnv → Option DEnv) : TGs := fun vs σ H Q => ∃ B Hk δ ds δ', Rel K B Hk δ σ H ∧ Reps K B H ds vs ∧ τ ds δ = some δ' ∧ ∀ σ', Rel K B Hk δ' σ' H → Q σ' H
abbrev DG (X : Cx) (tg : Expr) (τ : D → DEnv → Option DEnv) : Prop := PG X tg (tG X.K τ)
abbrev DGs (X : Cx) (tg : List Expr) (τ : List D → DEnv → Option DEnv) : Prop := PGs X tg (tGs X.K τ)
def toName (i : Nat) (d : D) (δ : DEnv) : Option DEnv := if i < δ.length then some (δ.set i (some (d, false))) else none
def toNil (ds : List D) (δ : DEnv) : Option DEnv := match ds with | [] => some δ | _ => none
def toCons (τ : D → DEnv → Option DEnv) (υ : List D → DEnv → Option DEnv) (ds : List D) (δ : DEnv) : Option DEnv := match ds with | d :: r => bindO (τ d δ) (υ r) | [] => none
def toTup (υ : List D → DEnv → Option DEnv) (d : D) (δ : DEnv) : Option DEnv := match d with | .tup ds => υ ds δ | _ => none
theorem PG.imp {X : Cx} {tg : Expr} {t t' : TG} (h : PG X tg t) (i : ∀ v σ H Q, t' v σ H Q → t v σ H Q) : PG X tg t' := fun pins s σ H v u Q I r q => h pins s σ H v u Q I r (i v σ H Q q)
theorem PGs.imp {X : Cx} {tg : List Expr} {t t' : TGs} (h : PGs X tg t) (i : ∀ v σ H Q, t' v σ H Q → t v σ H Q) : PGs X tg t' := fun pins s σ H v u Q I r q => h pins s σ H v u Q I r (i v σ H Q q)
section
variable {X : Cx} {pos : Pos}
theorem dg_name {i : Nat} {x : Str} (hN : X.N.Nodup) (hi : X.N[i]? = some x := by rfl) (hx : Loc X.env.scope x := by first | exact Or.inl rfl | exact Or.inr rfl) (hf : X.fn x = true ∨ X.env.scope.names.lookup x = some .local := by first | exact .inl rfl | exact .inr rfl) : DG X (.Name x pos) (toName i) :=
  (pg_name hN hi hx hf).imp fun v σ H Q ⟨B, Hk, δ, d, δ', R, r, e, k⟩ => by
    unfold toName at e
    by_cases q : i < δ.length
    · rw [if_pos q] at e; cases e
      exact k _ (R.set (by rw [← R.len]; exact q) r)
    · rw [if_neg q] at e; cases e
theorem dgs_nil : DGs X [] toNil := pgs_nil.imp fun v σ H Q ⟨B, Hk, δ, ds, δ', R, r, e, k⟩ => by
  cases ds with
  | nil => simp only [toNil] at e; cases e; simp only [Reps] at r; exact ⟨r, k σ R⟩
  | cons d ds => simp only [toNil] at e; cases e
theorem dgs_cons {e : Expr} {es : List Expr} {τ : D → DEnv → Option DEnv} {υ : List D → DEnv → Option DEnv} (h1 : DG X e τ) (h2 : DGs X es υ) (hs : (assignEach (e :: es) X.env).map (·.2) = assign e X.env :: (assignEach es X.env).map (·.2) := by rfl) : DGs X (e :: es) (toCons τ υ) :=
  (pgs_cons h1 h2 hs).imp fun v σ H Q ⟨B, Hk, δ, ds, δ', R, r, e, k⟩ => by
    cases ds with
    | nil => simp only [toCons] at e; cases e
    | cons d ds =>
      simp only [toCons] at e
      obtain ⟨δ1, e1, e2⟩ := bindO_some e
      simp only [Reps] at r
      obtain ⟨x, xs, rfl, r1, r2⟩ := r
      exact ⟨x, xs, rfl, B, Hk, δ, d, δ1, R, r1, e1, fun σ1 R1 => ⟨B, Hk, δ1, ds, δ', R1, r2, e2, k⟩⟩
theorem toCons_len {τ : D → DEnv → Option DEnv} {υ : List D → DEnv → Option DEnv} {n : Nat} (h : ∀ ds δ δ', υ ds δ = some δ' → ds.length = n) (ds : List D) (δ δ' : DEnv) (e : toCons τ υ ds δ = some δ') : ds.length = n + 1 := by
  cases ds with
  | nil => simp only [toCons] at e; cases e
  | cons d ds =>
    simp only [toCons] at e
    obtain ⟨δ1, _, e2⟩ := bindO_some e
    rw [List.length_cons, h _ _ _ e2]
theorem toNil_len (ds : List D) (δ δ' : DEnv) (e : toNil ds δ = some δ') : ds.length = 0 := by
  cases ds with
  | nil => rfl
  | cons d ds => simp only [toNil] at e; cases e
theorem dg_tup {es : List Expr} {k : Nat} {υ : List D → DEnv → Option DEnv} {n : Nat} (hc : X.calm = true) (h : DGs X es υ) (hl : ∀ ds δ δ', υ ds δ = some δ' → ds.length = n)
    (hn : (assignEach es X.env).length = n := by rfl) (hst : (assignEach es X.env).findIdx? (·.1) = none := by rfl) : DG X (.Tuple es k pos) (toTup υ) :=
  (pg_tup hc h hn hst).imp fun v σ H Q ⟨B, Hk, δ, d, δ', R, r, e, k⟩ => by
    cases d with
    | tup ds =>
      simp only [toTup] at e
      simp only [Rep] at r
      obtain ⟨a, xs, rfl, hq, rs⟩ := r
      exact ⟨a, xs, rfl, SqT.of hq, by rw [← rs.length]; exact hl _ _ _ e, B, Hk, δ, ds, δ', R, rs, e, k⟩
    | _ => simp only [toTup] at e; cases e
end
def NoOwn (δ : DEnv) : Prop := ∀ (i : Nat) d, δ[i]? ≠ some (some (d, true))

structure Anew (τ : D → DEnv → Option DEnv) : Prop where
  new : ∀ d d' δ δ', τ d δ = some δ' → τ d' δ' = τ d' δ
  own : ∀ d δ δ', τ d δ = some δ' → NoOwn δ → NoOwn δ'
theorem noOwn_set {δ : DEnv} {i : Nat} {d : D} (h : NoOwn δ) : NoOwn (δ.set i (some (d, false))) := fun j e q => by
  by_cases hj : i = j
  · subst hj
    rw [List.getElem?_set] at q
    simp at q
  · rw [List.getElem?_set_ne hj] at q
    exact h j e q
theorem own_name (i : Nat) : ∀ d δ δ', toName i d δ = some δ' → NoOwn δ → NoOwn δ' := fun d δ δ' h n => by
  unfold toName at h
  by_cases q : i < δ.length
  · rw [if_pos q] at h; cases h; exact noOwn_set n
  · rw [if_neg q] at h; cases h
theorem own_nil : ∀ ds δ δ', toNil ds δ = some δ' → NoOwn δ → NoOwn δ' := fun ds δ δ' h n => by
  cases ds with
  | nil => simp only [toNil] at h; cases h; exact n
  | cons d ds => simp only [toNil] at h; cases h
theorem own_cons {τ : D → DEnv → Option DEnv} {υ : List D → DEnv → Option DEnv} (h1 : ∀ d δ δ', τ d δ = some δ' → NoOwn δ → NoOwn δ') (h2 : ∀ ds δ δ', υ ds δ = some δ' → NoOwn δ → NoOwn δ') : ∀ ds δ δ', toCons τ υ ds δ = some δ' → NoOwn δ → NoOwn δ' := fun ds δ δ' h n => by
  cases ds with
  | nil => simp only [toCons] at h; cases h
  | cons d ds =>
    simp only [toCons] at h
    obtain ⟨δ1, e1, e2⟩ := bindO_some h
    exact h2 _ _ _ e2 (h1 _ _ _ e1 n)
theorem own_tup {υ : List D → DEnv → Option DEnv} (h2 : ∀ ds δ δ', υ ds δ = some δ' → NoOwn δ → NoOwn δ') : ∀ d δ δ', toTup υ d δ = some δ' → NoOwn δ → NoOwn δ' := fun d δ δ' h n => by
  cases d with
  | tup ds => exact h2 ds δ δ' h n
  | _ => simp only [toTup] at h; cases h
theorem anew_name (i : Nat) : Anew (toName i) := Anew.mk (own := own_name i) <| fun d d' δ δ' h => by
  unfold toName at h ⊢
  by_cases q : i < δ.length
  · rw [if_pos q] at h; cases h
    rw [List.length_set, if_pos q, if_pos q, List.set_set]
  · rw [if_neg q] at h; cases h
theorem anew_pair (i j : Nat) (hij : i ≠ j) : Anew (toTup (toCons (toName i) (toCons (toName j) toNil))) := Anew.mk (own := own_tup (own_cons (own_name i) (own_cons (own_name j) own_nil))) <| fun d d' δ δ' h => by
  cases d with
  | tup ds =>
    cases ds with
    | nil => simp only [toTup, toCons] at h; cases h
    | cons a ds =>
      cases ds with
      | nil => simp only [toTup, toCons] at h; obtain ⟨_, _, h⟩ := bindO_some h; cases h
      | cons b ds =>
        cases ds with
        | cons c ds => simp only [toTup, toCons] at h; obtain ⟨_, _, h⟩ := bindO_some h; obtain ⟨_, _, h⟩ := bindO_some h; simp only [toNil] at h; cases h
        | nil =>
          simp only [toTup, toCons] at h
          obtain ⟨δ1, h1, h⟩ := bindO_some h
          obtain ⟨δ2, h2, h⟩ := bindO_some h
          simp only [toNil] at h
          cases h
          unfold toName at h1
          by_cases qi : i < δ.length
          · rw [if_pos qi] at h1; cases h1
            unfold toName at h2
            by_cases qj : j < (δ.set i (some (a, false))).length
            · rw [if_pos qj] at h2; cases h2
              rw [List.length_set] at qj
              cases d' with
              | tup es =>
                cases es with
                | nil => rfl
                | cons a' es =>
                  cases es with
                  | nil =>
                    simp only [toTup, toCons, toName, List.length_set]
                    rw [if_pos qi, if_pos qi]; rfl
                  | cons b' es =>
                    have e3 : (((List.set δ i (some (a, false))).set j (some (b, false))).set i (some (a', false))).set j (some (b', false)) = (List.set δ i (some (a', false))).set j (some (b', false)) := by
                      rw [List.set_comm _ _ hij.symm, List.set_set, List.set_set]
                    simp only [toTup, toCons, toName, List.length_set]
                    rw [if_pos qi, if_pos qi]
                    simp only [bindO, toCons, toName, List.length_set]
                    rw [if_pos qj, if_pos qj, e3]
              | _ => rfl
            · rw [if_neg qj] at h2; cases h2
          · rw [if_neg qi] at h1; cases h1
  | _ => simp only [toTup] at h; cases h

def ItD (K : PySem.W.Frag) (B : Addr → Prop) (H1 : Hp) (J : It) (ds : List D) : Prop := ∀ H', Ext B H1 H' → J.stop ds.length H' ∧ ∀ (i : Nat) d, ds[i]? = some d → J.go i H' ∧ ∀ x H'', J.yld i H' x H'' → Same H' H'' ∧ Rep K B H'' d x
def tI (K : PySem.W.Frag) (m : Bool) (f : DEnv → Option (List D)) : TI := fun σ H R => ∃ B Hk δ ds, Rel K B Hk δ σ H ∧ f δ = some ds ∧ ∀ J H1, Same H H1 → ItD K (bset m B δ σ) H1 J ds → R J H1
abbrev DI (X : Cx) (m : Bool) (tg iter : Expr) (f : DEnv → Option (List D)) : Prop := PI X tg iter (tI X.K m f)
def lstL (x : Option D) : Option (List D) := match x with | some (.lst ds) => some ds | _ => none
def tupL (x : Option D) : Option (List D) := match x with | some (.tup ds) => some ds | _ => none
theorem lstL_some {x : Option D} {ds : List D} (h : lstL x = some ds) : x = some (.lst ds) := by
  unfold lstL at h
  split at h
  · cases h; rfl
  · cases h
theorem tupL_some {x : Option D} {ds : List D} (h : tupL x = some ds) : x = some (.tup ds) := by
  unfold tupL at h
  split at h
  · cases h; rfl
  · cases h
def rngL (lo : Int) (n : Nat) : List D := (List.range n).map fun (i : Nat) => .int (lo + (i : Int))
section
variable {X : Cx} {m m' mm : Bool} {a b tg : Expr} {fa fb : DEnv → Option D} {pos p : Pos}
theorem di_list (h : DE X m a fa) : DI X m tg a (fun δ => lstL (fa δ)) :=
  (pi_list h).imp fun σ H Q ⟨B, Hk, δ, ds, R, e, k⟩ => by
    refine ⟨B, Hk, δ, _, R, lstL_some e, fun v H' s r => ?_⟩
    simp only [Rep] at r
    obtain ⟨l, xs, rfl, hq, rs⟩ := r
    refine ⟨l, rfl, ⟨xs, hq.sq⟩, k _ H' s fun H2 x => ?_⟩
    have hq2 := hq.ext x
    have rs2 := rs.ext x
    refine ⟨⟨xs, hq2.sq, by rw [rs.length]; exact Nat.le_refl _⟩, fun i d hd => ?_⟩
    obtain ⟨y, hy, ry⟩ := rs2.get hd
    refine ⟨⟨xs, y, hq2.sq, hy⟩, fun z H3 ⟨e3, hz⟩ => ⟨by rw [e3]; exact Same.refl _, ?_⟩⟩
    rw [e3]
    have := hz xs hq2.sq
    rw [hy] at this; cases this
    exact ry
theorem di_tup (h : DE X m a fa) : DI X m tg a (fun δ => tupL (fa δ)) :=
  (pi_tup h).imp fun σ H Q ⟨B, Hk, δ, ds, R, e, k⟩ => by
    refine ⟨B, Hk, δ, _, R, tupL_some e, fun v H' s r => ?_⟩
    simp only [Rep] at r
    obtain ⟨l, xs, rfl, hq, rs⟩ := r
    refine ⟨l, rfl, ⟨xs, SqT.of hq⟩, k _ H' s fun H2 x => ?_⟩
    have hq2 : SqT X.K H2 l xs := SqT.of (x.tups _ _ hq)
    have rs2 := rs.ext x
    refine ⟨⟨xs, hq2, by rw [rs.length]; exact Nat.le_refl _⟩, fun i d hd => ?_⟩
    obtain ⟨y, hy, ry⟩ := rs2.get hd
    refine ⟨⟨xs, y, hq2, hy⟩, fun z H3 ⟨e3, hz⟩ => ⟨by rw [e3]; exact Same.refl _, ?_⟩⟩
    rw [e3]
    have := hz xs hq2
    rw [hy] at this; cases this
    exact ry
theorem itd_rng {K : PySem.W.Frag} {B : Addr → Prop} {H1 : Hp} (lo : Int) (n : Nat) : ItD K B H1 (Itr lo n) (rngL lo n) := fun H' x => by
  refine ⟨by show n ≤ (rngL lo n).length; unfold rngL; simp, fun i d hd => ?_⟩
  unfold rngL at hd
  rw [List.getElem?_map] at hd
  cases q : (List.range n)[i]? with
  | none => rw [q] at hd; cases hd
  | some j =>
    rw [q] at hd
    obtain ⟨hi, ej⟩ := List.getElem?_eq_some_iff.mp q
    rw [List.getElem_range] at ej
    subst ej
    rw [List.length_range] at hi
    simp only [Option.map_some, Option.some.injEq] at hd
    subst hd
    refine ⟨hi, fun z H3 ⟨e3, hz⟩ => ⟨by rw [e3]; exact Same.refl _, ?_⟩⟩
    simp only [Rep]
    exact hz
def rng1 (x : Option D) : Option (List D) := match x with | some (.int j) => if (decide (-(2 ^ 62) ≤ j ∧ j < 2 ^ 62)) = true then some (rngL 0 j.toNat) else none | _ => none
def rng2 (x y : Option D) : Option (List D) := match x, y with | some (.int i), some (.int j) => if (decide (-(2 ^ 62) ≤ i ∧ i < 2 ^ 62 ∧ -(2 ^ 62) ≤ j ∧ j < 2 ^ 62)) = true then some (rngL i (j - i).toNat) else none | _, _ => none
theorem di_rng1 (g : Gl X "range") (hm : X.mg "range" = none) (h : DE X m a fa) (hs : starEach [a] X.env = [(false, eval a X.env)] := by rfl) : DI X mm tg (.Call (.Name "range" p) [a] [] pos) (fun δ => rng1 (fa δ)) :=
  (pi_range1 g hm (pa_cons h pa_nil hs) hs).imp fun σ H Q ⟨B, Hk, δ, ds, R, e, k⟩ => by
    unfold rng1 at e
    dsimp only at e
    split at e
    · rename_i j q
      by_cases c : (decide (-(2 ^ 62) ≤ j ∧ j < 2 ^ 62)) = true
      · rw [if_pos c] at e; cases e
        have c' := of_decide_eq_true c
        refine oneA R q fun v H' s R' r => ?_
        simp only [Rep] at r
        subst r
        exact ⟨j, rfl, c'.1, c'.2, k _ H' s (itd_rng 0 _)⟩
      · rw [if_neg c] at e; cases e
    · cases e
theorem di_rng2 (g : Gl X "range") (hm : X.mg "range" = none) (h : DE X m a fa) (h' : DE X m' b fb) (hs : starEach [a, b] X.env = [(false, eval a X.env), (false, eval b X.env)] := by rfl) (hs2 : starEach [b] X.env = [(false, eval b X.env)] := by rfl) :
    DI X mm tg (.Call (.Name "range" p) [a, b] [] pos) (fun δ => rng2 (fa δ) (fb δ)) :=
  (pi_range2 g hm (pa_cons h (pa_cons h' pa_nil hs2) (by rw [hs, hs2])) hs hs2).imp fun σ H Q ⟨B, Hk, δ, ds, R, e, k⟩ => by
    unfold rng2 at e
    dsimp only at e
    split at e
    · rename_i i j q1 q2
      by_cases c : (decide (-(2 ^ 62) ≤ i ∧ i < 2 ^ 62 ∧ -(2 ^ 62) ≤ j ∧ j < 2 ^ 62)) = true
      · rw [if_pos c] at e; cases e
        have c' := of_decide_eq_true c
        refine two R q1 q2 fun v u H' s R' r1 r2 => ?_
        simp only [Rep] at r1 r2
        subst r1 r2
        exact ⟨i, j, rfl, c', k _ H' s (itd_rng i _)⟩
      · rw [if_neg c] at e; cases e
    · cases e
end

def loopD (body : D → DEnv → Option Out) : List D → DEnv → Option Out
  | [], δ => some (.next δ)
  | d :: ds, δ => match body d δ with
    | some (.next δ') => loopD body ds δ'
    | some (.cont δ') => loopD body ds δ'
    | some (.brk δ') => some (.next δ')
    | some (.ret e fr) => some (.ret e fr)
    | none => none
section
variable {X : Cx} {tg iter : Expr} {body : List Stmt} {fi : DEnv → Option (List D)} {τ : D → DEnv → Option DEnv} {gb : DEnv → Option Out} {pos : Pos}
theorem ds_for (hp : PassesOwn (model X.prog X.w) X.A X.env X.xe) (hc : X.calm = true) (hi : DI X false tg iter fi) (hg : DG X tg τ) (hb : DSs X body gb) (hs : ∀ x, foldedSetIterable iter X.env x = pure x := by intro _; rfl) :
    DS X (.For tg iter body [] pos) (fun δ => bindO (fi δ) fun ds => loopD (fun d δ => bindO (τ d δ) gb) ds δ) :=
  (ps_for hp hc hi hg hb hs).imp fun Dn σ H ⟨B, Hk, δ, o, R, e, k⟩ => by
    obtain ⟨ds, e1, e2⟩ := bindO_some e
    refine ⟨B, Hk, δ, ds, R, e1, fun J H1 s1 it => ?_⟩
    have it' : ItD X.K B H1 J ds := it
    refine ⟨fun i n σ' H' => n = ds.length - i ∧ i ≤ ds.length ∧ Ext B H1 H' ∧ ∃ δ', Rel X.K B Hk δ' σ' H' ∧ loopD (fun d δ => bindO (τ d δ) gb) (ds.drop i) δ' = some o,
      ⟨ds.length, by simp, Nat.zero_le _, Ext.refl, δ, R.to s1, e2⟩, ?_⟩
    rintro i n σ' H' ⟨rfl, hi, x, δ', R', e'⟩
    obtain ⟨hst, hgo⟩ := it' H' x
    by_cases hlt : i < ds.length
    · obtain ⟨go, yl⟩ := hgo i ds[i] (by simp [hlt])
      refine .inr ⟨go, fun σ2 H2 => Ext B H1 H2 ∧ ∃ δ2, Rel X.K B Hk δ2 σ2 H2 ∧ loopD (fun d δ => bindO (τ d δ) gb) (ds.drop (i + 1)) δ2 = some o, fun σ2 H2 z => ⟨_, by omega, rfl, hlt, z⟩, fun v H2 hy => ?_⟩
      obtain ⟨sy, rv⟩ := yl v H2 hy
      replace x := x.trans (R'.ext sy)
      replace R' := R'.to sy
      rw [List.drop_eq_getElem_cons hlt] at e'
      simp only [loopD] at e'
      cases q : bindO (τ ds[i] δ') gb with
      | none => rw [q] at e'; cases e'
      | some o1 =>
        rw [q] at e'
        obtain ⟨δ1, q1, q2⟩ := bindO_some q
        refine ⟨B, Hk, δ', ds[i], δ1, R', rv, q1, fun σ3 R3 => ⟨B, Hk, δ1, o1, R3, q2, ?_⟩⟩
        have kx := k.ext (R.ext s1)
        cases o1 with
        | next δ3 => exact fun σ4 H4 x4 R4 => ⟨x.trans x4, δ3, R4, e'⟩
        | cont δ3 => exact fun σ4 H4 x4 R4 => ⟨x.trans x4, δ3, R4, e'⟩
        | brk δ3 => simp only at e'; cases e'; exact fun σ4 H4 x4 R4 => kx σ4 H4 (x.trans x4) R4
        | ret d fr => simp only at e'; cases e'; exact fun v4 H4 x4 R4 => kx v4 H4 (x.trans x4) R4
    · have hi' : i = ds.length := by omega
      subst hi'
      rw [List.drop_length] at e'
      simp only [loopD] at e'
      cases e'
      exact .inl ⟨hst, k σ' H' ((R.ext s1).trans x) R'⟩
end

def compO (h : D → Option (Option D)) : List D → Option (List D)
  | [] => some []
  | d :: ds => match h d with
    | none => none
    | some none => compO h ds
    | some (some y) => match compO h ds with
      | some l => some (y :: l)
      | none => none
def maskD (bo : Bool) (bs : List Bool) (δ : DEnv) : DEnv := List.zipWith (fun (b : Bool) (o : Option (D × Bool)) => if b = true then (match o with | some (d, ow) => if (ow && !bo) = true then none else some (d, false) | none => none) else none) bs δ
theorem maskD_get {bo : Bool} {bs : List Bool} {δ : DEnv} {i : Nat} {d : D} {ow : Bool} (h : (maskD bo bs δ)[i]? = some (some (d, ow))) : bs[i]? = some true ∧ ow = false ∧ rd bo i δ = some d := by
  unfold maskD at h
  rw [List.getElem?_zipWith] at h
  cases e1 : bs[i]? with
  | none => rw [e1] at h; simp at h
  | some b =>
    cases e2 : δ[i]? with
    | none => rw [e1, e2] at h; simp at h
    | some o =>
      rw [e1, e2] at h
      simp only [Option.some.injEq] at h
      cases b with
      | false => simp at h
      | true =>
        rw [if_pos rfl] at h
        cases o with
        | none => cases h
        | some q =>
          obtain ⟨d', ow'⟩ := q
          simp only at h
          by_cases c : (ow' && !bo) = true
          · rw [if_pos c] at h; cases h
          · rw [if_neg c] at h; cases h
            exact ⟨rfl, rfl, by unfold rd; rw [e2]; simp only [if_neg c]⟩
theorem rel_block {K : PySem.W.Frag} {B : Addr → Prop} {Hk H : Hp} {δ : DEnv} {σ : St} {bo : Bool} {bs : List Bool} (R : Rel K B Hk δ σ H) (hl : bs.length = σ.length) : Rel K (bset bo B δ σ) H (maskD bo bs δ) (mask bs σ) H := by
  refine ⟨Same.refl H, R.bsH bo, ?_, fun i d h => ?_, fun i d h => ?_, fun i j d e a hij h => ?_⟩
  · unfold maskD; rw [List.length_zipWith, mask_length hl, R.len, hl, Nat.min_self]
  · obtain ⟨h1, _, h3⟩ := maskD_get h
    obtain ⟨v, h4, h5⟩ := R.rd h3
    refine ⟨v, ?_, h5⟩
    unfold mask
    rw [List.getElem?_zipWith, h1, h4]
    simp
  · obtain ⟨_, h2, _⟩ := maskD_get h
    cases h2
  · obtain ⟨_, h2, _⟩ := maskD_get h
    cases h2
def lstLim (x : Option (List D)) : Option D := match x with | some ds => some (.lst ds) | none => none
section
variable {X : Cx} {elt tg iter : Expr} {ifs : List Expr} {scope : Scope} {pos : Pos} {bo : Bool} {fi : DEnv → Option (List D)} {τ : D → DEnv → Option DEnv} {ft : DEnv → Option Bool} {fe : DEnv → Option D} {bs : List Bool}
abbrev DTs (X : Cx) (ifs : List Expr) (f : DEnv → Option Bool) : Prop := PTs X ifs (tMT X.K f)
theorem dts_nil {X : Cx} : DTs X [] (fun _ => some true) := fun pins s σ H Q I ⟨B, Hk, δ, d, R, e, k⟩ => by cases e; exact pts_nil pins s σ H Q I (k H (Same.refl H))
theorem dts_one {X : Cx} {c : Expr} {f : DEnv → Option Bool} (h : DT X c f) : DTs X [c] f := pts_one h

def itemO (τ : D → DEnv → Option DEnv) (ft : DEnv → Option Bool) (fe : DEnv → Option D) (δ : DEnv) (d : D) : Option (Option D) := bindO (τ d δ) fun δ' => match ft δ' with | some true => (match fe δ' with | some y => some (some y) | none => none) | some false => some none | none => none
def runC (bo : Bool) (bs : List Bool) (τ : D → DEnv → Option DEnv) (ft : DEnv → Option Bool) (fe : DEnv → Option D) (δ : DEnv) (ds : List D) : Option (List D) := if ds.length ≤ lim then compO (itemO τ ft fe (maskD bo bs δ)) ds else none
theorem comp_core {K : PySem.W.Frag} {σ : St} {H : Hp} {Q : VK} (hτ : Anew τ) (hl : bs.length = σ.length) {B : Addr → Prop} {Hk : Hp} {δ : DEnv} {ds ls : List D} (R : Rel K B Hk δ σ H) (e1 : fi δ = some ds) (e2 : runC bo bs τ ft fe δ ds = some ls)
    (k : ∀ a H', Same H H' → H a = none → (∃ xs, H' a = some (.lst xs) ∧ Reps K (bset bo B δ σ) H' ls xs) → Q (.ref a) H') : tComp (tI K bo fi) bs (tG K τ) (tMT K ft) (tM K false fe) σ H Q := by
  unfold runC at e2
  by_cases hlim : ds.length ≤ lim
  · rw [if_pos hlim] at e2
    refine ⟨B, Hk, δ, ds, R, e1, fun J H1 s1 it acc hacc => ?_⟩
    have R1 := R.to s1
    have nb : ¬ bset bo B δ σ acc := fun z => by obtain ⟨o, q⟩ := R1.bsH bo acc z; rw [hacc] at q; cases q
    have R2 : Rel K (bset bo B δ σ) H1 (maskD bo bs δ) (mask bs σ) (upd H1 acc (.lst [])) := (rel_block (bo := bo) (bs := bs) R1 hl).to (same_upd hacc)
    have no0 : NoOwn (maskD bo bs δ) := fun j d h => by obtain ⟨_, h2, _⟩ := maskD_get h; cases h2
    have x0 : Ext (bset bo B δ σ) H1 (upd H1 acc (.lst [])) := (same_upd hacc).ext (R1.bsH bo)
    refine ⟨fun i n ys σ' H' => n = ds.length - i ∧ i ≤ ds.length ∧ ys.length ≤ i ∧ H' acc = some (.lst ys) ∧ Ext (bset bo B δ σ) H1 H' ∧ ∃ δ' l1 l2, Rel K (bset bo B δ σ) H1 δ' σ' H' ∧ (∀ d, τ d δ' = τ d (maskD bo bs δ)) ∧ NoOwn δ' ∧ ls = l1 ++ l2 ∧ Reps K (bset bo B δ σ) H' l1 ys ∧ compO (itemO τ ft fe (maskD bo bs δ)) (ds.drop i) = some l2,
      ⟨ds.length, by simp, Nat.zero_le _, Nat.le_refl _, upd_same, x0, maskD bo bs δ, [], ls, R2, fun _ => rfl, no0, rfl, Reps.nil, e2⟩, ?_⟩
    rintro i n ys σ' H' ⟨rfl, hi, hys, ha, x, δ', l1, l2, R', hd', nw', hls, rs, ec⟩
    refine ⟨ha, ?_⟩
    obtain ⟨hst, hgo⟩ := it H' x
    by_cases hlt : i < ds.length
    · obtain ⟨go, yl⟩ := hgo i ds[i] (by simp [hlt])
      refine .inr ⟨go, fun v H2 hy => ?_⟩
      obtain ⟨sy, rv⟩ := yl v H2 hy
      have xy := R'.ext sy
      replace ha := sy acc _ ha
      replace rs := rs.ext xy
      replace x := x.trans xy
      replace R' := R'.to sy
      rw [List.drop_eq_getElem_cons hlt] at ec
      simp only [compO] at ec
      cases q : itemO τ ft fe (maskD bo bs δ) ds[i] with
      | none => rw [q] at ec; cases ec
      | some oy =>
        rw [q] at ec
        obtain ⟨δ1, q1, q2⟩ := bindO_some q
        have q1' : τ ds[i] δ' = some δ1 := by rw [hd']; exact q1
        have hd1 : ∀ d, τ d δ1 = τ d (maskD bo bs δ) := fun d => by rw [hτ.new _ d _ _ q1', hd' d]
        have nw1 : NoOwn δ1 := hτ.own _ _ _ q1' nw'
        refine ⟨_, H1, δ', ds[i], δ1, R', rv, q1', fun σ3 R3 => ?_⟩
        split at q2
        · rename_i qt
          refine ⟨_, H1, δ1, true, R3, qt, fun H3 s3 => iteT ?_⟩
          split at q2
          · rename_i y qe
            cases q2
            simp only at ec
            cases qc : compO (itemO τ ft fe (maskD bo bs δ)) (ds.drop (i + 1)) with
            | none => rw [qc] at ec; cases ec
            | some l3 =>
              rw [qc] at ec
              cases ec
              refine ⟨_, H1, δ1, y, R3.to s3, qe, fun v4 H4 s4 r4 => ?_⟩
              have s34 := s3.trans s4
              have ha4 : H4 acc = some (.lst ys) := s34 acc _ ha
              have x4 : Ext (bset bo B δ σ) H2 H4 := R3.ext s34
              have rs4 : Reps K (bset bo B δ σ) H4 l1 ys := rs.ext x4
              have r4' : Rep K (bset bo B δ σ) H4 y v4 := r4
              have x5 : Ext (bset bo B δ σ) H4 (upd H4 acc (.lst (ys ++ [v4]))) := ext_upd ha4 trivial nb
              have R5 : Rel K (bset bo B δ σ) H1 δ1 σ3 (upd H4 acc (.lst (ys ++ [v4]))) := by
                have R4 := R3.to s34
                refine ⟨fun b o q => ?_, R4.bor, R4.len, fun j d h => ?_, fun j d h => ?_, R4.dis⟩
                · rw [upd_ne (ne_of_none q hacc)]; exact R4.same b o q
                · obtain ⟨v, h1, h2⟩ := R4.var j d h
                  exact ⟨v, h1, h2.ext x5⟩
                · obtain ⟨c, h1, h2, h3⟩ := R4.own j d h
                  exact (nw1 j d h).elim
              refine ⟨ha4, by have := lim_line hlim; omega, ds.length - (i + 1), by omega, rfl, hlt, by rw [List.length_append, List.length_singleton]; omega, upd_same, x.trans (x4.trans x5), δ1, l1 ++ [y], l3, R5, hd1, nw1, by rw [hls, List.append_assoc]; rfl, ?_, qc⟩
              exact (rs4.ext x5).append (Reps.cons (r4'.ext x5) Reps.nil)
          · cases q2
        · rename_i qt
          cases q2
          refine ⟨_, H1, δ1, false, R3, qt, fun H3 s3 => iteF ?_⟩
          exact ⟨ds.length - (i + 1), by omega, rfl, hlt, by omega, s3 acc _ ha, x.trans (R3.ext s3), δ1, l1, l2, R3.to s3, hd1, nw1, hls, rs.ext (R3.ext s3), ec⟩
        · cases q2
    · have hi' : i = ds.length := by omega
      subst hi'
      rw [List.drop_length] at ec
      simp only [compO] at ec
      cases ec
      rw [List.append_nil] at hls
      subst hls
      exact .inl ⟨hst, k acc H' (s1.trans R'.same) (s1.free hacc) ⟨ys, ha, rs⟩⟩
  · rw [if_neg hlim] at e2; cases e2
end
end L2

end

section
set_option maxHeartbeats 1000000
namespace L2
open PySem PySem.Spec PyProof.Rows

section
variable {X : Cx} {elt tg iter : Expr} {ifs : List Expr} {scope : Scope} {pos : Pos} {bo : Bool} {fi : DEnv → Option (List D)} {τ : D → DEnv → Option DEnv} {ft : DEnv → Option Bool} {fe : DEnv → Option D} {bs : List Bool}
theorem comp_un (hc : X.calm = true) (hτ : Anew τ) (hi : DI X bo tg iter fi) (S : CompScope X scope bs)
    (hg : ∀ cl C s₂ H₂ ex pn, DG (cxComp X scope cl C s₂ H₂ ex pn) tg τ) (ht : ∀ cl C s₂ H₂ ex pn, DTs (cxComp X scope cl C s₂ H₂ ex pn) ifs ft) (he : ∀ cl C s₂ H₂ ex pn, DE (cxComp X scope cl C s₂ H₂ ex pn) false elt fe)
    (hs : ∀ x, foldedSetIterable iter X.env x = pure x) : PE X (.ListComp elt [⟨tg, iter, ifs, 0⟩] scope pos) (fun σ H Q => ∃ B Hk δ ds ls, Rel X.K B Hk δ σ H ∧ fi δ = some ds ∧ runC bo bs τ ft fe δ ds = some ls ∧
      ∀ a H', Same H H' → H a = none → (∃ xs, H' a = some (.lst xs) ∧ Reps X.K (bset bo B δ σ) H' ls xs) → Q (.ref a) H') := by
  intro pins s σ H Q I ⟨B, Hk, δ, ds, ls, R, e1, e2, k⟩
  exact pe_comp hc hi S hg ht he hs pins s σ H Q I (comp_core hτ (by rw [S.len, I.len]) R e1 e2 k)

theorem df_comp (hc : X.calm = true) (hτ : Anew τ) (hi : DI X false tg iter fi) (S : CompScope X scope bs)
    (hg : ∀ cl C s₂ H₂ ex pn, DG (cxComp X scope cl C s₂ H₂ ex pn) tg τ) (ht : ∀ cl C s₂ H₂ ex pn, DTs (cxComp X scope cl C s₂ H₂ ex pn) ifs ft) (he : ∀ cl C s₂ H₂ ex pn, DE (cxComp X scope cl C s₂ H₂ ex pn) false elt fe)
    (hs : ∀ x, foldedSetIterable iter X.env x = pure x := by intro _; rfl) : DF X (.ListComp elt [⟨tg, iter, ifs, 0⟩] scope pos) (fun δ => lstLim (bindO (fi δ) (runC false bs τ ft fe δ))) :=
  (comp_un hc hτ hi S hg ht he hs).imp fun σ H Q ⟨B, Hk, δ, d, R, e, k⟩ => by
    cases q : bindO (fi δ) (runC false bs τ ft fe δ) with
    | none => simp only [q, lstLim] at e; cases e
    | some ls =>
      simp only [q, lstLim] at e
      cases e
      obtain ⟨ds, e1, e2⟩ := bindO_some q
      exact ⟨B, Hk, δ, ds, ls, R, e1, e2, fun a H' s n ob => k a H' s n ob⟩
def flatsO (x : Option (List D)) : Option (List D) := match x with | some ds => if D.flats ds = true then some ds else none | none => none
theorem flatsO_some {x : Option (List D)} {ds : List D} (h : flatsO x = some ds) : x = some ds ∧ D.flats ds = true := by
  unfold flatsO at h
  cases x with
  | none => cases h
  | some e =>
    simp only at h
    by_cases q : D.flats e = true
    · rw [if_pos q] at h; cases h; exact ⟨rfl, q⟩
    · rw [if_neg q] at h; cases h

theorem df_compF (hc : X.calm = true) (hτ : Anew τ) (hi : DI X true tg iter fi) (S : CompScope X scope bs)
    (hg : ∀ cl C s₂ H₂ ex pn, DG (cxComp X scope cl C s₂ H₂ ex pn) tg τ) (ht : ∀ cl C s₂ H₂ ex pn, DTs (cxComp X scope cl C s₂ H₂ ex pn) ifs ft) (he : ∀ cl C s₂ H₂ ex pn, DE (cxComp X scope cl C s₂ H₂ ex pn) false elt fe)
    (hs : ∀ x, foldedSetIterable iter X.env x = pure x := by intro _; rfl) : DF X (.ListComp elt [⟨tg, iter, ifs, 0⟩] scope pos) (fun δ => lstLim (flatsO (bindO (fi δ) (runC true bs τ ft fe δ)))) :=
  (comp_un hc hτ hi S hg ht he hs).imp fun σ H Q ⟨B, Hk, δ, d, R, e, k⟩ => by
    cases q : flatsO (bindO (fi δ) (runC true bs τ ft fe δ)) with
    | none => simp only [q, lstLim] at e; cases e
    | some ls =>
      simp only [q, lstLim] at e
      cases e
      obtain ⟨q1, q2⟩ := flatsO_some q
      obtain ⟨ds, e1, e2⟩ := bindO_some q1
      exact ⟨B, Hk, δ, ds, ls, R, e1, e2, fun a H' s n ⟨xs, h1, h2⟩ => k a H' s n ⟨xs, h1, Reps.flat q2 h2⟩⟩

theorem ds_setc {i : Nat} {y : Str} {py spos : Pos} (hN : X.N.Nodup) (hc : X.calm = true) (hτ : Anew τ) (hi : DI X false tg iter fi) (S : CompScope X scope bs)
    (hg : ∀ cl C s₂ H₂ ex pn, DG (cxComp X scope cl C s₂ H₂ ex pn) tg τ) (ht : ∀ cl C s₂ H₂ ex pn, DTs (cxComp X scope cl C s₂ H₂ ex pn) ifs ft) (he : ∀ cl C s₂ H₂ ex pn, DE (cxComp X scope cl C s₂ H₂ ex pn) false elt fe)
    (hiN : X.N[i]? = some y := by rfl) (hy : X.env.scope.names.lookup y = some .local := by rfl)
    (hsw : swapsWith (.ListComp elt [⟨tg, iter, ifs, 0⟩] scope pos) (some (.Name y py)) spos.line X.env = pure true := by rfl)
    (hs : ∀ x, foldedSetIterable iter X.env x = pure x := by intro _; rfl) : DS X (.Assign [.Name y py] (.ListComp elt [⟨tg, iter, ifs, 0⟩] scope pos) spos) (fun δ => setF i (lstLim (bindO (fi δ) (runC false bs τ ft fe δ))) δ) := by
  intro pins s σ H Dn I ⟨B, Hk, δ, o, R, e, k⟩
  obtain ⟨d, ed, hlt, rfl⟩ := setF_some e
  cases q : bindO (fi δ) (runC false bs τ ft fe δ) with
  | none => simp only [q, lstLim] at ed; cases ed
  | some ls =>
    simp only [q, lstLim] at ed
    cases ed
    obtain ⟨ds, e1, e2⟩ := bindO_some q
    refine ps_setc hc hi S hg ht he hN hiN hy hsw hs pins s σ H Dn I (comp_core (Q := fun x H1 => gName i x σ H1 Dn.nx) hτ (by rw [S.len, I.len]) R e1 e2 fun a H' s n ob => ?_)
    refine k _ H' (R.ext s) ((R.to s).setOwn (by rw [← R.len]; exact hlt) (R.same.free n) ob fun j e hj h1 h2 => ?_)
    obtain ⟨b, h3, _, ob'⟩ := R.own j e h1
    rw [h2] at h3; cases h3
    obtain ⟨o, e'⟩ := ob'.there
    rw [n] at e'; cases e'
theorem ds_setcF {i : Nat} {y : Str} {py spos : Pos} (hN : X.N.Nodup) (hc : X.calm = true) (hτ : Anew τ) (hi : DI X true tg iter fi) (S : CompScope X scope bs)
    (hg : ∀ cl C s₂ H₂ ex pn, DG (cxComp X scope cl C s₂ H₂ ex pn) tg τ) (ht : ∀ cl C s₂ H₂ ex pn, DTs (cxComp X scope cl C s₂ H₂ ex pn) ifs ft) (he : ∀ cl C s₂ H₂ ex pn, DE (cxComp X scope cl C s₂ H₂ ex pn) false elt fe)
    (hiN : X.N[i]? = some y := by rfl) (hy : X.env.scope.names.lookup y = some .local := by rfl)
    (hsw : swapsWith (.ListComp elt [⟨tg, iter, ifs, 0⟩] scope pos) (some (.Name y py)) spos.line X.env = pure true := by rfl)
    (hs : ∀ x, foldedSetIterable iter X.env x = pure x := by intro _; rfl) : DS X (.Assign [.Name y py] (.ListComp elt [⟨tg, iter, ifs, 0⟩] scope pos) spos) (fun δ => setF i (lstLim (flatsO (bindO (fi δ) (runC true bs τ ft fe δ)))) δ) := by
  intro pins s σ H Dn I ⟨B, Hk, δ, o, R, e, k⟩
  obtain ⟨d, ed, hlt, rfl⟩ := setF_some e
  cases q : flatsO (bindO (fi δ) (runC true bs τ ft fe δ)) with
  | none => simp only [q, lstLim] at ed; cases ed
  | some ls =>
    simp only [q, lstLim] at ed
    cases ed
    obtain ⟨q1, q2⟩ := flatsO_some q
    obtain ⟨ds, e1, e2⟩ := bindO_some q1
    refine ps_setc hc hi S hg ht he hN hiN hy hsw hs pins s σ H Dn I (comp_core (Q := fun x H1 => gName i x σ H1 Dn.nx) hτ (by rw [S.len, I.len]) R e1 e2 fun a H' s n ob => ?_)
    obtain ⟨xs, x1, x2⟩ := ob
    refine k _ H' (R.ext s) ((R.to s).setOwn (by rw [← R.len]; exact hlt) (R.same.free n) ⟨xs, x1, Reps.flat q2 x2⟩ fun j e hj h1 h2 => ?_)
    obtain ⟨b, h3, _, ob'⟩ := R.own j e h1
    rw [h2] at h3; cases h3
    obtain ⟨o, e'⟩ := ob'.there
    rw [n] at e'; cases e'
end

def startD (n : Nat) (ds : List D) : DEnv := ds.map (fun d => some (d, false)) ++ List.replicate (n - ds.length) none
def outF (x : Option Out) : Option (D × Bool) := match x with | some (.ret d fr) => some (d, fr) | some (.next _) => some (.non, false) | _ => none
def runF (n np : Nat) (g : DEnv → Option Out) (ds : List D) : Option (D × Bool) := if ds.length = np then outF (g (startD n ds)) else none
theorem rel_start {K : PySem.W.Frag} {B : Addr → Prop} {H : Hp} {N : List Str} {ds : List D} {vs : List V} (hb : ∀ a, B a → ∃ o, H a = some o) (r : Reps K B H ds vs) (hl : ds.length ≤ N.length) : Rel K B H (startD N.length ds) (start N vs) H := by
  have el := r.length
  have key : ∀ (i : Nat) d ow, (startD N.length ds)[i]? = some (some (d, ow)) → ow = false ∧ ds[i]? = some d := fun i d ow h => by
    unfold startD at h
    by_cases hi : i < ds.length
    · rw [List.getElem?_append_left (by simpa using hi), List.getElem?_map] at h
      cases q : ds[i]? with
      | none => rw [q] at h; cases h
      | some e => rw [q] at h; simp only [Option.map_some, Option.some.injEq, Prod.mk.injEq] at h; exact ⟨h.2.symm, by rw [h.1]⟩
    · rw [List.getElem?_append_right (by simpa using hi), List.getElem?_replicate] at h
      split at h <;> cases h
  refine ⟨Same.refl H, hb, ?_, fun i d h => ?_, fun i d h => ?_, fun i j d e a _ h => ?_⟩
  · unfold startD start
    simp only [List.length_append, List.length_map, List.length_replicate]
    omega
  · obtain ⟨_, h2⟩ := key i d _ h
    obtain ⟨v, h3, h4⟩ := r.get h2
    refine ⟨v, ?_, h4⟩
    have hi : i < vs.length := (List.getElem?_eq_some_iff.mp h3).1
    unfold start
    rw [List.getElem?_append_left (by simpa using hi), List.getElem?_map, h3]
    rfl
  · have := (key i d _ h).1; cases this
  · have := (key i d _ h).1; cases this
section
variable {P : Program} {w : World} {K : PySem.W.Frag} {mg : Str → Option Value} {base : Heap}
theorem fnM_of {x qual : Str} {st : Stmt} {f : Addr} {fd : FuncData} {N ps : List Str} {k : Nat} {g : DEnv → Option Out} (F : Fun K x qual st f fd) (S : FnScope N ps (defScope st)) (hb : Binds K fd ps []) (hm : mg x = some (.ref f)) (hn : ps.length ≤ N.length)
    (body : ∀ (cdv : Value) (A : Around) (outer : List Env) (s : Shared) (H : Hp) (E : XK), Room k (A.deeper (envOfC qual (defScope st) s.heap.objs.size f cdv)) → DSs (cxOf CX0 P w K mg base N qual (defScope st) f cdv A outer s H E).nox (defBody st) g) :
    FnOk P w K mg base CX0 (k + 1) f fd ps (spM K (runF N.length ps.length g)) ∧ FnM P w K mg base (k + 1) x (runF N.length ps.length g) := by
  have key : FnOk P w K mg base CX0 (k + 1) f fd ps (spM K (runF N.length ps.length g)) := by
    refine F.ok S (fun vs H Q E h => ?_) (fun cdv A outer s H vs Q E hr h => ?_)
    · obtain ⟨B, ds, r, fr, _, hr, hf, _⟩ := h
      unfold runF at hf
      by_cases q : ds.length = ps.length
      · rw [← hr.length, q]
      · rw [if_neg q] at hf; cases hf
    · obtain ⟨B, ds, r, fr, hB, hrs, hf, kk⟩ := h
      refine ⟨_, body cdv A outer s H E hr, ?_⟩
      unfold runF at hf
      by_cases q : ds.length = ps.length
      · rw [if_pos q] at hf
        refine ⟨B, H, startD N.length ds, ?_⟩
        have R : Rel K B H (startD N.length ds) (start N vs) H := rel_start hB hrs (by omega)
        cases qo : g (startD N.length ds) with
        | none => rw [qo] at hf; cases hf
        | some o =>
          rw [qo] at hf
          refine ⟨o, R, by first | exact qo | rfl, ?_⟩
          cases o with
          | ret d fr' =>
            simp only [outF, Option.some.injEq, Prod.mk.injEq] at hf
            obtain ⟨rfl, rfl⟩ := hf
            exact fun v H' x s rr => kk v H' s rr
          | next δ =>
            simp only [outF, Option.some.injEq, Prod.mk.injEq] at hf
            obtain ⟨rfl, rfl⟩ := hf
            exact fun σ' H' x R' => kk .non H' R'.same (by unfold RepR; rw [if_neg Bool.false_ne_true]; simp only [Rep])
          | brk δ => simp only [outF] at hf; cases hf
          | cont δ => simp only [outF] at hf; cases hf
      · rw [if_neg q] at hf; cases hf
  exact ⟨key, ⟨f, fd, ps, key, hm, F.kp, hb⟩⟩

theorem sp_script {f : List D → Option (D × Bool)} {H : Hp} {a : Addr} {ns : List Int} (hO : Only H) (hS : SqL K H a (ns.map V.int)) (hf : f [.lst (ns.map D.int)] = some (.bl true, false)) : spM K f [.ref a] H (fun v _ => v = .bl true) fun _ _ _ => False := by
  have intsR : ∀ ns : List Int, Reps K (fun _ => False) H (ns.map D.int) (ns.map V.int) := fun ns => by
    induction ns with
    | nil => exact Reps.nil
    | cons n ns ih => exact Reps.cons (by simp only [Rep]) ih
  refine ⟨fun _ => False, [.lst (ns.map D.int)], .bl true, false, fun _ h => h.elim, Reps.cons ?_ Reps.nil, hf, fun v H' _ r => ?_⟩
  · simp only [Rep]
    refine ⟨a, ns.map V.int, rfl, ?_, intsR ns⟩
    rcases hS with (h | ⟨o, h⟩) | h
    · rcases hO a with z | ⟨o, xs, z⟩
      · rw [h] at z; cases z
      · rw [h] at z; cases z
    · exact .inr (.inl ⟨o, h⟩)
    · exact .inr (.inr h)
  · unfold RepR at r
    rw [if_neg Bool.false_ne_true] at r
    simpa only [Rep] using r
end
end L2

end

section
set_option maxHeartbeats 1000000
namespace L2
open PySem PySem.Spec PyProof.Rows

theorem bt_list : bootBuiltins "list" = some (.type "list") := by decide +kernel
theorem bt_tuple : bootBuiltins "tuple" = some (.type "tuple") := by decide +kernel
theorem bt_sum : bootBuiltins "sum" = some (.builtin "sum") := by decide +kernel
theorem bt_isinstance : bootBuiltins "isinstance" = some (.builtin "isinstance") := by decide +kernel
theorem bt_int : bootBuiltins "int" = some (.type "int") := by decide +kernel
theorem bt_str : bootBuiltins "str" = some (.type "str") := by decide +kernel
theorem bt_bool : bootBuiltins "bool" = some (.type "bool") := by decide +kernel
theorem bt_dict : bootBuiltins "dict" = some (.type "dict") := by decide +kernel
theorem bt_set : bootBuiltins "set" = some (.type "set") := by decide +kernel
theorem bt_sorted : bootBuiltins "sorted" = some (.builtin "sorted") := by decide +kernel

def cutS (x : Str) (lo hi : Option Int) : Str := if ((Builtin.Str.strSliceIndices lo hi 1 x.length).length == x.length) = true then x else ⟨((Builtin.Str.strSliceIndices lo hi 1 x.length).filterMap (x.cps[·]?)).toArray⟩
theorem cutS_len (x : Str) (lo hi : Option Int) : (cutS x lo hi).length ≤ x.length := by
  unfold cutS
  split
  · exact Nat.le_refl _
  · show ((Builtin.Str.strSliceIndices lo hi 1 x.length).filterMap (x.cps[·]?)).toArray.size ≤ _
    rw [List.size_toArray]
    exact Nat.le_trans (List.length_filterMap_le _ _) (sliceIndices_le lo hi x.length)
section
variable {X : Cx}
theorem part_of {v : Value} {o : Option Int} (h : IsPart v o) : ∃ l : Option (Int × Tok), v = partValue l ∧ l.map (·.1) = o := by
  cases h with
  | none => exact ⟨none, rfl, rfl⟩
  | int i t => exact ⟨some (i, t), rfl, rfl⟩
theorem sl_str : SlR X (fun x lo hi H Q => ∃ z, x = .str z ∧ z.length ≤ sizeLine ∧ Q (.str (cutS z lo hi)) H) := by
  intro pins s σ H x v vl vu lo hi sl Q I rx hs pl pu h
  obtain ⟨z, rfl, hz, q⟩ := h
  obtain ⟨t, rfl⟩ := rx
  obtain ⟨l, rfl, rfl⟩ := part_of pl
  obtain ⟨u, rfl, rfl⟩ := part_of pu
  refine ⟨"str", _, F.slot_str_getitem.lookup, typeIs_str s z t, wpAny_getItem_str_slice (l := l) (u := u) (st := none) hs rfl ?_⟩
  have key : (sliceMade z t l u none) = if ((Builtin.Str.strSliceIndices (l.map (·.1)) (u.map (·.1)) 1 z.length).length == z.length) = true then Made.val (.str z t) else Made.str ⟨((Builtin.Str.strSliceIndices (l.map (·.1)) (u.map (·.1)) 1 z.length).filterMap (z.cps[·]?)).toArray⟩ := by
    unfold sliceMade slicePicked
    simp
  rw [key]
  refine post_val_or_made (fun hc => ?_) fun t' k => ⟨.str (cutS z (l.map (·.1)) (u.map (·.1))), H, I.tok k, ⟨t', rfl⟩, q⟩
  have hle := cutS_len z (l.map (·.1)) (u.map (·.1))
  unfold cutS at hle
  rw [if_neg hc] at hle
  exact Nat.le_trans hle hz
end

def DO (X : Cx) (e : Option Expr) (f : DEnv → Option (Option Int)) : Prop := PO X e (fun σ H Q => ∃ B Hk δ o, Rel X.K B Hk δ σ H ∧ f δ = some o ∧ ∀ H', Same H H' → Q o H')
theorem PO.imp {X : Cx} {e : Option Expr} {t t' : TO} (h : PO X e t) (i : ∀ σ H Q, t' σ H Q → t σ H Q) : PO X e t' := fun pins s σ H Q I q => h pins s σ H Q I (i σ H Q q)
def partI (x : Option D) : Option (Option Int) := match x with | some (.int i) => some (some i) | _ => none
section
variable {X : Cx} {m m' mm : Bool} {a b : Expr} {fa fb : DEnv → Option D} {pos p p2 : Pos} {lo hi : Option Expr} {fl fh : DEnv → Option (Option Int)}
theorem do_none : DO X none (fun _ => some none) := po_none.imp fun σ H Q ⟨B, Hk, δ, o, R, e, k⟩ => by cases e; exact k H (Same.refl H)
theorem do_some (h : DE X m a fa) : DO X (some a) (fun δ => partI (fa δ)) := (po_some h).imp fun σ H Q ⟨B, Hk, δ, o, R, e, k⟩ => by
  unfold partI at e
  dsimp only at e
  split at e
  · rename_i i q
    cases e
    refine ⟨B, Hk, δ, _, R, q, fun v H' s r => ?_⟩
    simp only [Rep] at r
    exact ⟨i, r, k H' s⟩
  · cases e

theorem three {K : PySem.W.Frag} {σ : St} {H : Hp} {B : Addr → Prop} {Hk : Hp} {δ : DEnv} {d : D} {l u : Option Int} {r : V → Option Int → Option Int → Hp → VK → Prop} {Q : VK} (R : Rel K B Hk δ σ H) (e1 : fa δ = some d) (e2 : fl δ = some l) (e3 : fh δ = some u)
    (k : ∀ v H', Same H H' → Rel K B Hk δ σ H' → Rep K (bset m B δ σ) H' d v → r v l u H' Q) :
    tSl r (tM K m fa) (fun σ H Q => ∃ B Hk δ o, Rel K B Hk δ σ H ∧ fl δ = some o ∧ ∀ H', Same H H' → Q o H') (fun σ H Q => ∃ B Hk δ o, Rel K B Hk δ σ H ∧ fh δ = some o ∧ ∀ H', Same H H' → Q o H') σ H Q :=
  ⟨B, Hk, δ, d, R, e1, fun v H1 s1 r1 => ⟨B, Hk, δ, l, R.to s1, e2, fun H2 s2 => ⟨B, Hk, δ, u, R.to (s1.trans s2), e3, fun H3 s3 => k v H3 (s1.trans (s2.trans s3)) (R.to (s1.trans (s2.trans s3))) (r1.same (R.to s1) (s2.trans s3))⟩⟩⟩
def cutSO (x : Option D) (l u : Option (Option Int)) : Option D := match x, l, u with | some (.str z), some l, some u => if z.length ≤ lim then some (.str (cutS z l u)) else none | _, _, _ => none
theorem de_cutS (ha : DE X m a fa) (hl : DO X lo fl) (hh : DO X hi fh) : DE X mm (.Subscript a (.Slice lo hi none p2) pos) (fun δ => cutSO (fa δ) (fl δ) (fh δ)) :=
  (pe_slice sl_str ha hl hh).imp fun σ H Q ⟨B, Hk, δ, d, R, e, k⟩ => by
    unfold cutSO at e
    dsimp only at e
    split at e
    · rename_i z l u q1 q2 q3
      by_cases hz : z.length ≤ lim
      · rw [if_pos hz] at e; cases e
        refine three R q1 q2 q3 fun v H' s R' r => ?_
        simp only [Rep] at r
        exact ⟨z, r, lim_line hz, k _ H' s (by simp only [Rep])⟩
      · rw [if_neg hz] at e; cases e
    · cases e
def cutD (ds : List D) (lo hi : Option Int) : List D := (ds.drop (HT.sIx ds.length 0 lo)).take (HT.sIx ds.length ds.length hi - HT.sIx ds.length 0 lo)
theorem Reps.cut {K : PySem.W.Frag} {B : Addr → Prop} {H : Hp} {ds : List D} {xs : List V} (r : Reps K B H ds xs) (lo hi : Option Int) : Reps K B H (cutD ds lo hi) (cutV xs lo hi) := by
  unfold cutD cutV
  rw [r.length]
  exact (r.drop _).take _
def cutLO (x : Option D) (l u : Option (Option Int)) : Option D := match x, l, u with | some (.lst ds), some l, some u => some (.lst (cutD ds l u)) | _, _, _ => none

theorem df_cutL (ha : DE X false a fa) (hl : DO X lo fl) (hh : DO X hi fh) : DF X (.Subscript a (.Slice lo hi none p2) pos) (fun δ => cutLO (fa δ) (fl δ) (fh δ)) :=
  (pe_slice sl_list ha hl hh).imp fun σ H Q ⟨B, Hk, δ, d, R, e, k⟩ => by
    unfold cutLO at e
    dsimp only at e
    split at e
    · rename_i ds l u q1 q2 q3
      cases e
      refine three R q1 q2 q3 fun v H' s R' r => ?_
      simp only [Rep] at r
      obtain ⟨c, xs, rfl, hq, rs⟩ := r
      refine ⟨c, xs, rfl, hq.sq, fun p hp => ?_⟩
      have s2 := same_upd (o := .lst (cutV xs l u)) hp
      exact k p _ (s.trans s2) (s.free hp) ⟨_, upd_same, (rs.cut l u).same (m := false) R' s2⟩
    · cases e

def addS (x y : Option D) : Option D := match x, y with | some (.str i), some (.str j) => if i.length + j.length ≤ lim then some (.str (i ++ j)) else none | _, _ => none
theorem de_addS (ha : DE X m a fa) (hb : DE X m' b fb) : DE X mm (.BinOp a .Add b pos) (fun δ => addS (fa δ) (fb δ)) :=
  (pe_op op_add_str ha hb).imp fun σ H Q ⟨B, Hk, δ, d, R, e, k⟩ => by
    unfold addS at e
    dsimp only at e
    split at e
    · rename_i i j q1 q2
      by_cases hz : i.length + j.length ≤ lim
      · rw [if_pos hz] at e; cases e
        refine two R q1 q2 fun v u H' s R' r1 r2 => ?_
        simp only [Rep] at r1 r2
        subst r1 r2
        exact ⟨i, j, rfl, rfl, lim_line hz, k _ H' s (by simp only [Rep])⟩
      · rw [if_neg hz] at e; cases e
    · cases e

def listO (x : Option D) : Option D := match x with | some d => (match itemsD d with | some ds => some (.lst ds) | none => none) | none => none
theorem itemsO {x : Option D} {g : List D → D} {d : D} (h : (match x with | some d => (match itemsD d with | some ds => some (g ds) | none => none) | none => none) = some d) : ∃ e es, x = some e ∧ itemsD e = some es ∧ d = g es := by
  split at h
  · rename_i e
    split at h
    · rename_i es he; cases h; exact ⟨e, es, rfl, he, rfl⟩
    · cases h
  · cases h
theorem df_list (g : Gl X "list") (hm : X.mg "list" = none) (ha : DE X false a fa) (hs : starEach [a] X.env = [(false, eval a X.env)] := by rfl) : DF X (.Call (.Name "list" p) [a] [] pos) (fun δ => listO (fa δ)) :=
  (pe_callTy call_list_of g hm bt_list (pa_cons ha pa_nil hs) (he := hs)).imp fun σ H Q ⟨B, Hk, δ, d, R, e, k⟩ => by
    obtain ⟨d1, es, e1, hi, rfl⟩ := itemsO (g := D.lst) e
    refine oneA R e1 fun v H' s R' r => ?_
    obtain ⟨p, xs, rfl, hq, rs⟩ := r.items hi
    refine ⟨p, xs, rfl, hq, fun l hl => ?_⟩
    have s2 := same_upd (o := .lst xs) hl
    exact k l _ (s.trans s2) (s.free hl) ⟨_, upd_same, rs.same (m := false) R' s2⟩
def tupleO (x : Option D) : Option D := match x with | some d => (match itemsD d with | some ds => some (.tup ds) | none => none) | none => none
theorem de_tuple (g : Gl X "tuple") (hm : X.mg "tuple" = none) (ha : DE X m a fa) (hs : starEach [a] X.env = [(false, eval a X.env)] := by rfl) : DE X m (.Call (.Name "tuple" p) [a] [] pos) (fun δ => tupleO (fa δ)) :=
  (pe_callTy call_tuple_of g hm bt_tuple (pa_cons ha pa_nil hs) (he := hs)).imp fun σ H Q ⟨B, Hk, δ, d, R, e, k⟩ => by
    obtain ⟨d1, es, e1, hi, rfl⟩ := itemsO (g := D.tup) e
    refine oneA R e1 fun v H' s R' r => ?_
    cases d1 with
    | lst ds =>
      simp only [itemsD] at hi; cases hi
      simp only [Rep] at r
      obtain ⟨c, xs, rfl, hq, rs⟩ := r
      refine ⟨c, xs, rfl, .inl ⟨hq.sq, fun l hl => ?_⟩⟩
      have s2 := same_upd (o := .tup xs) hl
      refine k _ _ (s.trans s2) ?_
      simp only [Rep]
      exact ⟨l, xs, rfl, upd_same, rs.same R' s2⟩
    | tup ds =>
      simp only [itemsD] at hi; cases hi
      have r' := r
      simp only [Rep] at r
      obtain ⟨c, xs, rfl, hq, rs⟩ := r
      exact ⟨c, xs, rfl, .inr ⟨SqT.of hq, k _ H' s r'⟩⟩
    | _ => simp [itemsD] at hi

def intsD : List D → Option (List Int)
  | [] => some []
  | .int i :: ds => (match intsD ds with | some l => some (i :: l) | none => none)
  | _ => none
theorem intsD_map (ns : List Int) : intsD (ns.map D.int) = some ns := by
  induction ns with
  | nil => rfl
  | cons n ns ih => simp only [List.map_cons, intsD, ih]
theorem intsD_some : ∀ {ds : List D} {ns : List Int}, intsD ds = some ns → ds = ns.map D.int
  | [], ns, h => by simp only [intsD, Option.some.injEq] at h; subst h; rfl
  | .int i :: ds, ns, h => by
    simp only [intsD] at h
    cases q : intsD ds with
    | none => rw [q] at h; cases h
    | some l =>
      rw [q] at h
      simp only [Option.some.injEq] at h
      subst h
      rw [List.map_cons, intsD_some q]
  | .non :: ds, ns, h => by simp [intsD] at h
  | .bl _ :: ds, ns, h => by simp [intsD] at h
  | .str _ :: ds, ns, h => by simp [intsD] at h
  | .tup _ :: ds, ns, h => by simp [intsD] at h
  | .lst _ :: ds, ns, h => by simp [intsD] at h
  | .dT _ _ :: ds, ns, h => by simp [intsD] at h
  | .dK _ _ :: ds, ns, h => by simp [intsD] at h
theorem Reps.ints {K : PySem.W.Frag} {B : Addr → Prop} {H : Hp} : ∀ {ns : List Int} {xs : List V}, Reps K B H (ns.map D.int) xs → xs = ns.map V.int
  | [], xs, h => by simpa only [List.map_nil, Reps] using h
  | n :: ns, xs, h => by
    simp only [List.map_cons, Reps] at h
    obtain ⟨x, r, rfl, h1, h2⟩ := h
    simp only [Rep] at h1
    rw [List.map_cons, h1, Reps.ints h2]
theorem call_sum (hc : X.calm = true) : CallR X (.builtin "sum") (fun xs H Q => ∃ (p : Addr) (ns : List Int), xs = [.ref p] ∧ SqL X.K H p (ns.map V.int) ∧ Q (.int ns.sum) H) := by
  intro pins s σ H xs us Q I r h
  obtain ⟨p, ns, rfl, hq, q⟩ := h
  obtain ⟨u, rfl, rx⟩ := vals1 r
  cases rx
  obtain ⟨its, rv, pl, hz⟩ := I.list hq
  have hi := intsAre_of rv
  obtain ⟨xs, hxs⟩ := hi.allInts.items
  have hl := pl.isList
  rw [hxs] at hl
  refine PySem.sum_intListG (I.ok.hd hc) hl fun h' tk t' hk => ?_
  have e1 : preSum (numAt xs) xs.size = ns.sum := by
    rw [preSum_eq, List.take_of_length_le (by simp)]
    have := hi.numsOf
    rw [show its = its.toArray.toList from rfl, hxs, nums_intItems] at this
    rw [this]
  rw [e1]
  exact ⟨.int ns.sum, H, I.kept hk, ⟨t', rfl⟩, q⟩
def sumO (x : Option D) : Option D := match x with | some (.lst ds) => (match intsD ds with | some ns => some (.int ns.sum) | none => none) | _ => none
theorem de_sum (hc : X.calm = true) (g : Gl X "sum") (hm : X.mg "sum" = none) (ha : DE X m a fa) (hs : starEach [a] X.env = [(false, eval a X.env)] := by rfl) : DE X mm (.Call (.Name "sum" p) [a] [] pos) (fun δ => sumO (fa δ)) :=
  (pe_callB (call_sum hc) g hm bt_sum (pa_cons ha pa_nil hs) (he := hs)).imp fun σ H Q ⟨B, Hk, δ, d, R, e, k⟩ => by
    unfold sumO at e
    dsimp only at e
    split at e
    · rename_i ds q
      split at e
      · rename_i ns qn
        cases e
        obtain rfl := intsD_some qn
        refine oneA R q fun v H' s R' r => ?_
        simp only [Rep] at r
        obtain ⟨c, xs, rfl, hq, rs⟩ := r
        obtain rfl := rs.ints
        exact ⟨c, ns, rfl, hq.sq, k _ H' s (by simp only [Rep])⟩
      · cases e
    · cases e

def tyD : D → Option String
  | .non => some "NoneType" | .bl _ => some "bool" | .int _ => some "int" | .str _ => some "str" | .tup _ => some "tuple" | .lst _ => some "list" | _ => none
def isiT (t c : String) : Bool := t == c || (t == "bool" && c == "int")
def isiO (c : String) (x : Option D) : Option D := match x with | some d => (match tyD d with | some t => some (.bl (isiT t c)) | none => none) | none => none
theorem call_isi {c : String} (hc : c = "int" ∨ c = "bool" ∨ c = "str" ∨ c = "list" ∨ c = "tuple") : CallR X (.builtin "isinstance") (fun xs H Q => ∃ B d x t, xs = [x, .ty c] ∧ Rep X.K B H d x ∧ tyD d = some t ∧ Q (.bl (isiT t c)) H) := by
  intro pins s σ H xs us Q I r h
  obtain ⟨B, d, x, t, rfl, rx, ht, q⟩ := h
  obtain ⟨u, w', rfl, ru, rw'⟩ := vals2 r
  cases rw'
  have fin : ∀ b, b = isiT t c → ∀ tk, EP X pins σ Q (.bool b) { s with toks := tk } := fun b e tk => ⟨.bl b, H, I.tok tk, rfl, by rw [e]; exact q⟩
  have kit : ∀ (T : String), (T = "NoneType" ∨ T = "bool" ∨ T = "int" ∨ T = "str" ∨ T = "list" ∨ T = "tuple") → PySem.W.kitOne X.K (.type T) (.type c) = some (isiT T c) := fun T hT => by
    rcases hc with rfl | rfl | rfl | rfl | rfl <;> rcases hT with rfl | rfl | rfl | rfl | rfl | rfl <;> rfl
  cases d with
  | non => simp only [tyD, Option.some.injEq] at ht; subst ht; simp only [Rep] at rx; subst rx; exact isinst_ok I ru (.non) (kit _ (by simp)) (fin _ rfl)
  | bl b => simp only [tyD, Option.some.injEq] at ht; subst ht; simp only [Rep] at rx; subst rx; exact isinst_ok I ru (.bl b) (kit _ (by simp)) (fin _ rfl)
  | int b => simp only [tyD, Option.some.injEq] at ht; subst ht; simp only [Rep] at rx; subst rx; exact isinst_ok I ru (.int b) (kit _ (by simp)) (fin _ rfl)
  | str b => simp only [tyD, Option.some.injEq] at ht; subst ht; simp only [Rep] at rx; subst rx; exact isinst_ok I ru (.str b) (kit _ (by simp)) (fin _ rfl)
  | tup ds =>
    simp only [tyD, Option.some.injEq] at ht; subst ht
    simp only [Rep] at rx
    obtain ⟨a, xs, rfl, hq, _⟩ := rx
    cases ru
    obtain ⟨its, _, ⟨o, h1, h2, _⟩, _⟩ := I.tuple (SqT.of hq)
    exact PySem.W.kia_one PySem.W.kitx_tuple I.kIn ⟨o, h1, h2⟩ (kit _ (by simp)) (fun z => nomatch z) (fin _ rfl)
  | lst ds =>
    simp only [tyD, Option.some.injEq] at ht; subst ht
    simp only [Rep] at rx
    obtain ⟨a, xs, rfl, hq, _⟩ := rx
    cases ru
    obtain ⟨its, _, ⟨o, n, h1, h2, _⟩, _⟩ := I.list hq.sq
    exact PySem.W.kia_one PySem.W.kitx_list I.kIn ⟨o, h1, h2⟩ (kit _ (by simp)) (fun z => nomatch z) (fin _ rfl)
  | dT _ _ => simp [tyD] at ht
  | dK _ _ => simp [tyD] at ht
theorem de_isi {c : Str} {cs : String} {pc : Pos} (hc : cs = "int" ∨ cs = "bool" ∨ cs = "str" ∨ cs = "list" ∨ cs = "tuple") (g : Gl X "isinstance") (hm : X.mg "isinstance" = none) (gc : Gl X c) (hmc : X.mg c = none) (hv : bootBuiltins c = some (.type cs)) (ha : DE X m a fa)
    (hs : starEach [a, .Name c pc] X.env = [(false, eval a X.env), (false, eval (.Name c pc) X.env)] := by rfl) (hs2 : starEach [.Name c pc] X.env = [(false, eval (.Name c pc) X.env)] := by rfl) (hn : c ≠ "__name__" := by decide) (hd : (c == ("__debug__" : Str)) = false := by decide)
    (hpl : (backTo pos (starEach [.Name c pc] X.env)).any (·.1) = false := by rfl) :
    DE X mm (.Call (.Name "isinstance" p) [a, .Name c pc] [] pos) (fun δ => isiO cs (fa δ)) :=
  (pe_callB (call_isi hc) g hm bt_isinstance (pa_cons ha (pa_cons (pe_bltn (v := .ty cs) gc hmc hv rfl hn hd) pa_nil hs2) (by rw [hs, hs2])) (he := by rw [hs, hs2]) (hpl := hpl)).imp fun σ H Q ⟨B, Hk, δ, d, R, e, k⟩ => by
    unfold isiO at e
    dsimp only at e
    split at e
    · rename_i d1 q
      split at e
      · rename_i t qt
        cases e
        exact ⟨B, Hk, δ, d1, R, q, fun v H' s r => ⟨_, d1, v, t, rfl, r, qt, k _ H' s (by simp only [Rep])⟩⟩
      · cases e
    · cases e
end
end L2

end

section
set_option maxHeartbeats 1000000
namespace L2
open PySem PySem.Spec PyProof.Rows PySem.W

def krun {α : Type} (lt : Nat → Nat → Bool) : KasT α → α
  | .ret a => a
  | .ask i j k => krun lt (k (lt i j))

def kin {α : Type} (n : Nat) (lt : Nat → Nat → Bool) : KasT α → Prop
  | .ret _ => True
  | .ask i j k => i < n ∧ j < n ∧ kin n lt (k (lt i j))
theorem krun_bind {α β : Type} (lt : Nat → Nat → Bool) (f : α → KasT β) : ∀ t : KasT α, krun lt (t.bind f) = krun lt (f (krun lt t))
  | .ret a => rfl
  | .ask i j k => krun_bind lt f (k (lt i j))
theorem kin_bind {α β : Type} {n : Nat} {lt : Nat → Nat → Bool} (f : α → KasT β) : ∀ t : KasT α, kin n lt t → kin n lt (f (krun lt t)) → kin n lt (t.bind f)
  | .ret a, _, h => h
  | .ask i j k, h, h' => ⟨h.1, h.2.1, kin_bind f (k (lt i j)) h.2.2 h'⟩
theorem kas_wp {α : Type} {n : Nat} {lt : Nat → Nat → Bool} {cmp : Nat → Nat → (Bool → Shared → Prop) → Shared → Prop} {Q : α → Shared → Prop} {s : Shared} (hc : ∀ i j C, i < n → j < n → C (lt i j) s → cmp i j C s) : ∀ t : KasT α, kin n lt t → Q (krun lt t) s → t.kasWp cmp Q s
  | .ret a, _, h => h
  | .ask i j k, h, h' => hc i j _ h.1 h.2.1 (kas_wp hc (k (lt i j)) h.2.2 h')

section
variable {n : Nat} {lt : Nat → Nat → Bool}
structure Ord (lt : Nat → Nat → Bool) : Prop where
  asym : ∀ i j, lt i j = true → lt j i = false
  tr : ∀ i j k, lt j i = false → lt k j = false → lt k i = false
variable (O : Ord lt)

structure Ok (n : Nat) (p : Array Nat) : Prop where
  sz : p.size = n
  pm : p.toList.Perm (List.range n)
theorem Ok.below {p : Array Nat} (h : Ok n p) (i : Nat) (hn : 0 < n) : p.getD i 0 < n := by
  by_cases hi : i < p.size
  · have e : p.getD i 0 = p[i] := by simp [Array.getD, hi]
    rw [e]
    have hm : p[i] ∈ p.toList := by simp
    exact List.mem_range.mp (h.pm.mem_iff.mp hm)
  · have e : p.getD i 0 = 0 := by simp [Array.getD, hi]
    rw [e]; exact hn
theorem Ok.rev {p : Array Nat} (h : Ok n p) (i j : Nat) : Ok n (kas_rev p i j) := by
  unfold kas_rev
  exact ⟨by rw [mirror_size]; exact h.sz, (Array.perm_iff_toList_perm.mp (mirror_perm p i j _)).trans h.pm⟩
theorem Ok.bub {p : Array Nat} (h : Ok n p) (i j : Nat) : Ok n (bubble p i j) :=
  ⟨by rw [bubble_size]; exact h.sz, (Array.perm_iff_toList_perm.mp (bubble_perm p i j)).trans h.pm⟩
theorem rev_get {p : Array Nat} {i j : Nat} (hj : j ≤ p.size) (k : Nat) : (kas_rev p i j).getD k 0 = if i ≤ k ∧ k < j then p.getD (i + j - 1 - k) 0 else p.getD k 0 := by
  have e := getElem?_mirror_all (i := i) hj k
  unfold kas_rev
  have g : ∀ (q : Array Nat) (m : Nat), q.getD m 0 = (q[m]?).getD 0 := fun q m => by
    by_cases hm : m < q.size <;> simp [Array.getD, hm]
  rw [g, e, g p (i + j - 1 - k), g p k]
  split <;> rfl
theorem bub_get {p : Array Nat} {src d : Nat} (hs : src < p.size) (hd : d ≤ src) (k : Nat) : (bubble p src d).getD k 0 = if k = src - d then p.getD src 0 else if src - d < k ∧ k ≤ src then p.getD (k - 1) 0 else p.getD k 0 := by
  have e := getElem?_bubble hs d hd k
  have g : ∀ (q : Array Nat) (m : Nat), q.getD m 0 = (q[m]?).getD 0 := fun q m => by
    by_cases hm : m < q.size <;> simp [Array.getD, hm]
  rw [g, e, g p src, g p (k - 1), g p k]
  split
  · rfl
  · split <;> rfl

def Up (lt : Nat → Nat → Bool) (p : Array Nat) (k : Nat) : Prop := ∀ i j, i ≤ j → j < k → lt (p.getD j 0) (p.getD i 0) = false
def Down (lt : Nat → Nat → Bool) (p : Array Nat) (k : Nat) : Prop := ∀ i j, i ≤ j → j < k → lt (p.getD i 0) (p.getD j 0) = false
theorem Ord.irr (O : Ord lt) (i : Nat) : lt i i = false := by
  cases e : lt i i with
  | false => rfl
  | true => have := O.asym i i e; rw [e] at this; exact this
theorem Up.snoc (O : Ord lt) {p : Array Nat} {k : Nat} (h : Up lt p k) (hk : lt (p.getD k 0) (p.getD (k - 1) 0) = false) (h1 : 1 ≤ k) : Up lt p (k + 1) := fun i j hij hj => by
  by_cases e : j = k
  · subst e
    by_cases e2 : i = j
    · subst e2; exact O.irr _
    · exact O.tr _ _ _ (h i (j - 1) (by omega) (by omega)) hk
  · exact h i j hij (by omega)
theorem Down.snoc (O : Ord lt) {p : Array Nat} {k : Nat} (h : Down lt p k) (hk : lt (p.getD (k - 1) 0) (p.getD k 0) = false) (h1 : 1 ≤ k) : Down lt p (k + 1) := fun i j hij hj => by
  by_cases e : j = k
  · subst e
    by_cases e2 : i = j
    · subst e2; exact O.irr _
    · exact O.tr _ _ _ hk (h i (j - 1) (by omega) (by omega))
  · exact h i j hij (by omega)
include O in
theorem asc_ok (hn : 0 < n) {p : Array Nat} (hp : Ok n p) : ∀ (f k : Nat), 1 ≤ k → Up lt p k → kin n lt (kas_asc p f k) ∧ k ≤ krun lt (kas_asc p f k) ∧ krun lt (kas_asc p f k) ≤ k + f ∧ Up lt p (krun lt (kas_asc p f k))
  | 0, k, h1, h => ⟨trivial, Nat.le_refl _, Nat.le_refl _, h⟩
  | f + 1, k, h1, h => by
    unfold kas_asc
    cases c : lt (p.getD k 0) (p.getD (k - 1) 0) with
    | true =>
      refine ⟨⟨hp.below _ hn, hp.below _ hn, ?_⟩, ?_⟩
      · rw [c]; exact trivial
      · show _ ≤ krun lt (if lt (p.getD k 0) (p.getD (k - 1) 0) = true then _ else _) ∧ _
        simp only [krun, c, if_true]
        exact ⟨Nat.le_refl _, by omega, h⟩
    | false =>
      have ih := asc_ok hn hp f (k + 1) (by omega) (h.snoc O c h1)
      refine ⟨⟨hp.below _ hn, hp.below _ hn, ?_⟩, ?_⟩
      · rw [c]; exact ih.1
      · simp only [krun, c, Bool.false_eq_true, if_false]
        exact ⟨by omega, by omega, ih.2.2.2⟩
include O in
theorem desc_ok (hn : 0 < n) : ∀ (f : Nat) (p : Array Nat) (k q : Nat), Ok n p → q + 1 ≤ k → k + f ≤ n → Down lt p k → (∀ i j, k - (q + 1) ≤ i → i ≤ j → j < k → lt (p.getD j 0) (p.getD i 0) = false) →
    kin n lt (kas_desc f p k q) ∧ (let r := krun lt (kas_desc f p k q); Ok n r.1 ∧ r.2.2 + 1 ≤ r.2.1 ∧ k ≤ r.2.1 ∧ r.2.1 ≤ k + f ∧ Down lt r.1 r.2.1 ∧ ∀ i j, r.2.1 - (r.2.2 + 1) ≤ i → i ≤ j → j < r.2.1 → lt (r.1.getD j 0) (r.1.getD i 0) = false)
  | 0, p, k, q, hp, hq, hk, hd, he => ⟨trivial, hp, hq, Nat.le_refl _, Nat.le_refl _, hd, he⟩
  | f + 1, p, k, q, hp, hq, hk, hd, he => by
    unfold kas_desc
    cases c : lt (p.getD k 0) (p.getD (k - 1) 0) with
    | true =>
      have hd2 : Down lt p (k + 1) := hd.snoc O (O.asym _ _ c) (by omega)
      by_cases hq0 : q > 0
      · -- the equal ones at the end are turned about
        have hp2 := hp.rev (k - (q + 1)) k
        have hks : k ≤ p.size := by rw [hp.sz]; omega
        have hd3 : Down lt (kas_rev p (k - (q + 1)) k) (k + 1) := fun i j hij hj => by
          rw [rev_get hks, rev_get hks]
          by_cases hi : k - (q + 1) ≤ i ∧ i < k
          · rw [if_pos hi]
            by_cases hj' : k - (q + 1) ≤ j ∧ j < k
            · rw [if_pos hj']
              exact he _ _ (by omega) (by omega) (by omega)
            · rw [if_neg hj']
              exact hd2 _ _ (by omega) hj
          · rw [if_neg hi]
            by_cases hj' : k - (q + 1) ≤ j ∧ j < k
            · rw [if_pos hj']
              exact hd2 _ _ (by omega) (by omega)
            · rw [if_neg hj']
              exact hd2 _ _ hij hj
        have ih := desc_ok hn f (kas_rev p (k - (q + 1)) k) (k + 1) 0 hp2 (by omega) (by omega) hd3 (fun i j h1 h2 h3 => by
          have : i = j := by omega
          subst this; exact O.irr _)
        refine ⟨⟨hp.below _ hn, hp.below _ hn, ?_⟩, ?_⟩
        · simp only [c, if_true, if_pos hq0]; exact ih.1
        · simp only [krun, c, if_true, if_pos hq0]
          exact ⟨ih.2.1, ih.2.2.1, by have := ih.2.2.2.1; omega, by have := ih.2.2.2.2.1; omega, ih.2.2.2.2.2⟩
      · have ih := desc_ok hn f p (k + 1) 0 hp (by omega) (by omega) hd2 (fun i j h1 h2 h3 => by
          have : i = j := by omega
          subst this; exact O.irr _)
        refine ⟨⟨hp.below _ hn, hp.below _ hn, ?_⟩, ?_⟩
        · simp only [c, if_true, if_neg hq0]; exact ih.1
        · simp only [krun, c, if_true, if_neg hq0]
          exact ⟨ih.2.1, ih.2.2.1, by have := ih.2.2.2.1; omega, by have := ih.2.2.2.2.1; omega, ih.2.2.2.2.2⟩
    | false =>
      cases c2 : lt (p.getD (k - 1) 0) (p.getD k 0) with
      | true =>
        refine ⟨⟨hp.below _ hn, hp.below _ hn, ?_⟩, ?_⟩
        · simp only [c, Bool.false_eq_true, if_false]
          refine ⟨hp.below _ hn, hp.below _ hn, ?_⟩
          rw [c2]; exact trivial
        · simp only [krun, c, c2, Bool.false_eq_true, if_false, if_true]
          exact ⟨hp, hq, Nat.le_refl _, by omega, hd, he⟩
      | false =>
        have hd2 : Down lt p (k + 1) := hd.snoc O c2 (by omega)
        have he2 : ∀ i j, k + 1 - (q + 1 + 1) ≤ i → i ≤ j → j < k + 1 → lt (p.getD j 0) (p.getD i 0) = false := fun i j h1 h2 h3 => by
          by_cases e : j = k
          · subst e
            by_cases e2 : i = j
            · subst e2; exact O.irr _
            · exact O.tr _ _ _ (he i (j - 1) (by omega) (by omega) (by omega)) c
          · exact he i j (by omega) h2 (by omega)
        have ih := desc_ok hn f p (k + 1) (q + 1) hp (by omega) (by omega) hd2 he2
        refine ⟨⟨hp.below _ hn, hp.below _ hn, ?_⟩, ?_⟩
        · simp only [c, Bool.false_eq_true, if_false]
          refine ⟨hp.below _ hn, hp.below _ hn, ?_⟩
          simp only [c2, Bool.false_eq_true, if_false]; exact ih.1
        · simp only [krun, c, c2, Bool.false_eq_true, if_false]
          exact ⟨ih.2.1, ih.2.2.1, by have := ih.2.2.2.1; omega, by have := ih.2.2.2.2.1; omega, ih.2.2.2.2.2⟩
include O in
theorem tail3_ok (hn : 0 < n) {p : Array Nat} (hp : Ok n p) {k : Nat} (h1 : 1 ≤ k) (hk : k ≤ n) (hd : Down lt p k) :
    kin n lt (kas_tail3 k n p) ∧ (let r := krun lt (kas_tail3 k n p); Ok n r.2 ∧ 1 ≤ r.1 ∧ r.1 ≤ n ∧ Up lt r.2 r.1) := by
  have hks : k ≤ p.size := by rw [hp.sz]; exact hk
  have hp2 := hp.rev 0 k
  have hu : Up lt (kas_rev p 0 k) k := fun i j hij hj => by
    rw [rev_get hks, rev_get hks, if_pos ⟨Nat.zero_le _, hj⟩, if_pos ⟨Nat.zero_le _, by omega⟩]
    exact hd _ _ (by omega) (by omega)
  have a := asc_ok O hn hp2 (n - k) k h1 hu
  unfold kas_tail3
  refine ⟨kin_bind _ _ a.1 trivial, ?_⟩
  rw [krun_bind]
  simp only [krun]
  exact ⟨hp2, by omega, by omega, a.2.2.2⟩
include O in
theorem descPart_ok (hn : 0 < n) {p : Array Nat} (hp : Ok n p) {k : Nat} (h1 : 1 ≤ k) (hk : k + 1 ≤ n) (hd : Down lt p (k + 1)) :
    kin n lt (kas_descPart k n p) ∧ (let r := krun lt (kas_descPart k n p); Ok n r.2 ∧ 1 ≤ r.1 ∧ r.1 ≤ n ∧ Up lt r.2 r.1) := by
  have d := desc_ok O hn (n - (k + 1)) p (k + 1) 0 hp (by omega) (by omega) hd (fun i j h1 h2 h3 => by
    have : i = j := by omega
    subst this; exact O.irr _)
  unfold kas_descPart
  obtain ⟨d1, d2, d3, d4, d5, d6, d7⟩ := d
  rw [krun_bind]
  generalize hr : krun lt (kas_desc (n - (k + 1)) p (k + 1) 0) = r at *
  by_cases hq : r.2.2 > 0
  · have hks : r.2.1 ≤ r.1.size := by rw [d2.sz]; omega
    have hd3 : Down lt (kas_rev r.1 (r.2.1 - (r.2.2 + 1)) r.2.1) r.2.1 := fun i j hij hj => by
      rw [rev_get hks, rev_get hks]
      by_cases hi : r.2.1 - (r.2.2 + 1) ≤ i ∧ i < r.2.1
      · rw [if_pos hi, if_pos ⟨by omega, hj⟩]
        exact d7 _ _ (by omega) (by omega) (by omega)
      · rw [if_neg hi]
        by_cases hj' : r.2.1 - (r.2.2 + 1) ≤ j ∧ j < r.2.1
        · rw [if_pos hj']
          exact d6 _ _ (by omega) (by omega)
        · rw [if_neg hj']
          exact d6 _ _ hij hj
    have t := tail3_ok O hn (d2.rev (r.2.1 - (r.2.2 + 1)) r.2.1) (k := r.2.1) (by omega) (by omega) hd3
    refine ⟨kin_bind _ _ d1 ?_, ?_⟩
    · rw [hr, if_pos hq]; exact t.1
    · rw [if_pos hq]; exact t.2
  · have t := tail3_ok O hn d2 (k := r.2.1) (by omega) (by omega) d6
    refine ⟨kin_bind _ _ d1 ?_, ?_⟩
    · rw [hr, if_neg hq]; exact t.1
    · rw [if_neg hq]; exact t.2
include O in
theorem count_ok (h2 : 2 ≤ n) {p : Array Nat} (hp : Ok n p) : kin n lt (kas_count n p) ∧ (let r := krun lt (kas_count n p); Ok n r.2 ∧ 1 ≤ r.1 ∧ r.1 ≤ n ∧ Up lt r.2 r.1) := by
  have hn : 0 < n := by omega
  have one : Up lt p 1 := fun i j hij hj => by
    have : i = j := by omega
    subst this; exact O.irr _
  have a := asc_ok O hn hp (n - 1) 1 (Nat.le_refl _) one
  unfold kas_count
  rw [krun_bind]
  obtain ⟨a1, a2, a3, a4⟩ := a
  have stop : ∀ (f k : Nat), krun lt (kas_asc p f k) < k + f → lt (p.getD (krun lt (kas_asc p f k)) 0) (p.getD (krun lt (kas_asc p f k) - 1) 0) = true := by
    intro f
    induction f with
    | zero => intro k h; simp only [kas_asc, krun] at h; omega
    | succ f ih =>
      intro k h
      cases c : lt (p.getD k 0) (p.getD (k - 1) 0) with
      | true => simp only [kas_asc, krun, c, if_true] at h ⊢
      | false =>
        simp only [kas_asc, krun, c, Bool.false_eq_true, if_false] at h ⊢
        exact ih (k + 1) (by omega)
  have stop1 := stop (n - 1) 1
  generalize hr : krun lt (kas_asc p (n - 1) 1) = m at *
  by_cases hm : (m == n) = true
  · refine ⟨kin_bind _ _ a1 ?_, ?_⟩
    · rw [hr, if_pos hm]; exact trivial
    · rw [if_pos hm]; exact ⟨hp, a2, (show m ≤ n by omega), a4⟩
  · have hmn : m < n := by
      have : m ≠ n := by simpa using hm
      omega
    have st := stop1 (by omega)
    by_cases h1 : m > 1
    · cases c : lt (p.getD 0 0) (p.getD (m - 1) 0) with
      | true =>
        refine ⟨kin_bind _ _ a1 ?_, ?_⟩
        · rw [hr, if_neg hm, if_pos h1]
          refine ⟨hp.below _ hn, hp.below _ hn, ?_⟩
          rw [c]; exact trivial
        · rw [if_neg hm, if_pos h1]
          simp only [krun, c, if_true]
          exact ⟨hp, a2, by omega, a4⟩
      | false =>
        have hms : m ≤ p.size := by rw [hp.sz]; omega
        have same : ∀ i j, i < m → j < m → lt (p.getD i 0) (p.getD j 0) = false := fun i j hi hj =>
          O.tr _ _ _ (O.tr _ _ _ (a4 j (m - 1) (by omega) (by omega)) c) (a4 0 i (Nat.zero_le _) hi)
        have hd : Down lt (kas_rev p 0 m) (m + 1) := fun i j hij hj => by
          rw [rev_get hms, rev_get hms]
          by_cases hi : 0 ≤ i ∧ i < m
          · rw [if_pos hi]
            by_cases hj' : 0 ≤ j ∧ j < m
            · rw [if_pos hj']; exact same _ _ (by omega) (by omega)
            · rw [if_neg hj']
              have : j = m := by omega
              subst this
              exact O.tr _ _ _ (O.asym _ _ st) (same _ _ (by omega) (by omega))
          · rw [if_neg hi]
            have : i = j := by omega
            subst this
            rw [if_neg hi]; exact O.irr _
        have t := descPart_ok O hn (hp.rev 0 m) (k := m) (by omega) (by omega) hd
        refine ⟨kin_bind _ _ a1 ?_, ?_⟩
        · rw [hr, if_neg hm, if_pos h1]
          refine ⟨hp.below _ hn, hp.below _ hn, ?_⟩
          simp only [c, Bool.false_eq_true, if_false]; exact t.1
        · rw [if_neg hm, if_pos h1]
          simp only [krun, c, Bool.false_eq_true, if_false]
          exact t.2
    · have m1 : m = 1 := by omega
      subst m1
      have hd : Down lt p (1 + 1) := fun i j hij hj => by
        by_cases e : i = j
        · subst e; exact O.irr _
        · have e1 : i = 0 := by omega
          have e2 : j = 1 := by omega
          subst e1 e2
          exact O.asym _ _ st
      have t := descPart_ok O hn hp (k := 1) (by omega) (by omega) hd
      refine ⟨kin_bind _ _ a1 ?_, ?_⟩
      · rw [hr, if_neg hm, if_neg h1]; exact t.1
      · rw [if_neg hm, if_neg h1]; exact t.2
include O in
theorem place_ok (hn : 0 < n) {p : Array Nat} (hp : Ok n p) {k : Nat} (hu : Up lt p k) : ∀ (f l r : Nat), l ≤ r → r ≤ k → r - l ≤ f → (∀ i, i < l → lt (p.getD k 0) (p.getD i 0) = false) → (∀ i, r ≤ i → i < k → lt (p.getD k 0) (p.getD i 0) = true) →
    kin n lt (kas_place p k f l r) ∧ krun lt (kas_place p k f l r) ≤ k ∧ (∀ i, i < krun lt (kas_place p k f l r) → lt (p.getD k 0) (p.getD i 0) = false) ∧ (∀ i, krun lt (kas_place p k f l r) ≤ i → i < k → lt (p.getD k 0) (p.getD i 0) = true)
  | 0, l, r, hlr, hrk, hf, h1, h2 => by
    have : l = r := by omega
    subst this
    exact ⟨trivial, hrk, h1, h2⟩
  | f + 1, l, r, hlr, hrk, hf, h1, h2 => by
    unfold kas_place
    by_cases hge : l ≥ r
    · have : l = r := by omega
      subst this
      rw [if_pos hge]
      exact ⟨trivial, hrk, h1, h2⟩
    · rw [if_neg hge]
      cases c : lt (p.getD k 0) (p.getD ((l + r) / 2) 0) with
      | true =>
        have ih := place_ok hn hp hu f l ((l + r) / 2) (by omega) (by omega) (by omega) h1 (fun i hi hik => by
          cases e : lt (p.getD k 0) (p.getD i 0) with
          | true => rfl
          | false =>
            have q := O.tr _ _ _ (hu ((l + r) / 2) i hi hik) e
            rw [c] at q; cases q)
        refine ⟨⟨hp.below _ hn, hp.below _ hn, ?_⟩, ?_⟩
        · simp only [c, if_true]; exact ih.1
        · simp only [krun, c, if_true]; exact ih.2
      | false =>
        have ih := place_ok hn hp hu f ((l + r) / 2 + 1) r (by omega) hrk (by omega) (fun i hi => by
          by_cases e : i < l
          · exact h1 i e
          · exact O.tr _ _ _ (hu i ((l + r) / 2) (by omega) (by omega)) c) h2
        refine ⟨⟨hp.below _ hn, hp.below _ hn, ?_⟩, ?_⟩
        · simp only [c, Bool.false_eq_true, if_false]; exact ih.1
        · simp only [krun, c, Bool.false_eq_true, if_false]; exact ih.2
include O in
theorem bin_ok (hn : 0 < n) : ∀ (f : Nat) (p : Array Nat) (k : Nat), Ok n p → k + f = n → Up lt p k → kin n lt (kas_bin f p k) ∧ Ok n (krun lt (kas_bin f p k)) ∧ Up lt (krun lt (kas_bin f p k)) n
  | 0, p, k, hp, hk, hu => by
    have : k = n := by omega
    subst this
    exact ⟨trivial, hp, hu⟩
  | f + 1, p, k, hp, hk, hu => by
    unfold kas_bin
    have pl := place_ok O hn hp hu k 0 k (Nat.zero_le _) (Nat.le_refl _) (by omega) (fun i hi => by omega) (fun i h1 h2 => by omega)
    rw [krun_bind]
    obtain ⟨p1, p2, p3, p4⟩ := pl
    generalize hr : krun lt (kas_place p k k 0 k) = l at *
    have hks : k < p.size := by rw [hp.sz]; omega
    have hu2 : Up lt (bubble p k (k - l)) (k + 1) := fun i j hij hj => by
      rw [bub_get hks (by omega), bub_get hks (by omega)]
      have ek : k - (k - l) = l := by omega
      rw [ek]
      by_cases i1 : i = l
      · rw [if_pos i1]
        by_cases j1 : j = l
        · rw [if_pos j1]; exact O.irr _
        · rw [if_neg j1, if_pos ⟨by omega, by omega⟩]
          exact O.asym _ _ (p4 _ (by omega) (by omega))
      · rw [if_neg i1]
        by_cases i2 : l < i ∧ i ≤ k
        · rw [if_pos i2, if_neg (by omega), if_pos ⟨by omega, by omega⟩]
          exact hu _ _ (by omega) (by omega)
        · rw [if_neg i2]
          by_cases j1 : j = l
          · rw [if_pos j1]; exact p3 _ (by omega)
          · rw [if_neg j1]
            by_cases j2 : l < j ∧ j ≤ k
            · rw [if_pos j2]; exact hu _ _ (by omega) (by omega)
            · rw [if_neg j2]; exact hu _ _ hij (by omega)
    have ih := bin_ok hn f (bubble p k (k - l)) (k + 1) (hp.bub k (k - l)) (by omega) hu2
    refine ⟨kin_bind _ _ p1 ?_, ih.2⟩
    rw [hr]; exact ih.1
include O in
theorem sort_ok (h2 : 2 ≤ n) : kin n lt (kas_sort n) ∧ Ok n (krun lt (kas_sort n)) ∧ Up lt (krun lt (kas_sort n)) n := by
  have hp : Ok n (List.toArray (List.range n)) := ⟨by simp, by simp⟩
  have c := count_ok O h2 hp
  unfold kas_sort
  rw [krun_bind]
  obtain ⟨c1, c2, c3, c4, c5⟩ := c
  generalize hr : krun lt (kas_count n (List.toArray (List.range n))) = r at *
  by_cases h : r.1 < n
  · have em : max r.1 1 = r.1 := by omega
    have b := bin_ok O (by omega) (n - r.1) r.2 r.1 c2 (by omega) c5
    refine ⟨kin_bind _ _ c1 ?_, ?_⟩
    · rw [hr, if_pos h, em]; exact b.1
    · rw [if_pos h, em]; exact b.2
  · have : r.1 = n := by omega
    refine ⟨kin_bind _ _ c1 ?_, ?_⟩
    · rw [hr, if_neg h]; exact trivial
    · rw [if_neg h]; exact ⟨c2, by rw [← this]; exact c5⟩
end
end L2

end

section
set_option maxHeartbeats 1000000
namespace L2
open PySem PySem.Spec PyProof.Rows PySem.W

section
variable {prog : Program} {w : World} {A : Around} {E : Value → Shared → Prop} {s : Shared} {vs : List Value} {a : Addr}
def orderOf (vs : List Value) (p : List Nat) : List Value := p.map fun i => vs.getD i Value.none
theorem srt_list {n : Nat} {P : PySem.Fin → Shared → Prop} {κ : SortKind} {lt : Nat → Nat → Bool} (ho : s.heap.get? a = some (seqObj "list" vs.toArray n)) (h64 : vs.length < 64) (O : Ord lt)
    (hk : 2 ≤ vs.length → ∀ h', (∀ b o, b ≠ a → s.heap.get? b = some o → h'.get? b = some o) → ∀ Q : SortKind → Shared → Prop, Q κ { s with heap := h' } → wpAny (model prog w) A (keyKind' vs.toArray) Q (fun _ _ => False) { s with heap := h' })
    (hlt : ∀ h', (∀ b o, b ≠ a → s.heap.get? b = some o → h'.get? b = some o) → ∀ (i j : Nat) (C : Bool → Shared → Prop), i < vs.length → j < vs.length → C (lt i j) { s with heap := h' } → wpAny (model prog w) A (keyLt' κ (vs.getD i Value.none) (vs.getD j Value.none)) C (fun _ _ => False) { s with heap := h' })
    (h : ∀ p : List Nat, p.Perm (List.range vs.length) → (∀ i j, i ≤ j → j < vs.length → lt (p.getD j 0) (p.getD i 0) = false) → ∀ h' c, (∀ b o, b ≠ a → s.heap.get? b = some o → h'.get? b = some o) → h'.get? a = some (seqObj "list" (orderOf vs p).toArray c) → P (.done (.ret .none)) { s with heap := h' }) :
    wpAny (model prog w) A (Builtin.«list.sort» ⟨[.ref a], []⟩) P E s := by
  have ha : a < s.heap.objs.size := Heap.lt_size ho
  have hz : vs.length ≤ sizeLine := by rw [sizeLine_eq]; omega
  rw [list_sort_plain]
  refine wpAny_bind (listItems_at ho rfl (wpAny_bind (listUpdate_at ho rfl ?_ (by rw [List.size_toArray]; exact hz) (Nat.zero_le _))))
  obtain ⟨e1, g1⟩ : ∃ e1, (s.heap.update a (Obj.mapSeq fun _ => (#[] : Array Value))).get? a = some (seqObj "list" #[] e1) := ⟨_, get?_update_seq ho fun _ => #[]⟩
  refine wpAny_bind (seqEpoch_at g1 rfl (wpAny_bind (wpAny_newTuple ?_ hz)))
  refine wpAny_bind (wpAny_newList ?_ (Nat.zero_le _))
  refine wpAny_holding ?_
  have keep : ∀ b o, b ≠ a → s.heap.get? b = some o → (((s.heap.update a (Obj.mapSeq fun _ => (#[] : Array Value))).push (seqObj "tuple" vs.toArray 0)).push (seqObj "list" #[] 0)).get? b = some o := fun b o hb e =>
    Heap.get?_push_of_some _ (Heap.get?_push_of_some _ ((Heap.get?_update_other s.heap _ (Ne.symm hb)).trans e))
  have g3 : (((s.heap.update a (Obj.mapSeq fun _ => (#[] : Array Value))).push (seqObj "tuple" vs.toArray 0)).push (seqObj "list" #[] 0)).get? a = some (seqObj "list" #[] e1) := Heap.get?_push_of_some _ (Heap.get?_push_of_some _ g1)
  show wpAny (model prog w) A _ P E { s with heap := ((s.heap.update a (Obj.mapSeq fun _ => (#[] : Array Value))).push (seqObj "tuple" vs.toArray 0)).push (seqObj "list" #[] 0) }
  generalize hH : (((s.heap.update a (Obj.mapSeq fun _ => (#[] : Array Value))).push (seqObj "tuple" vs.toArray 0)).push (seqObj "list" #[] 0)) = H1 at *
  dsimp only
  have fin : ∀ (st : SortSt) (p : List Nat), (arrOf st).map (·.2) = (orderOf vs p).toArray → failedOf st = none → p.Perm (List.range vs.length) → (∀ i j, i ≤ j → j < vs.length → lt (p.getD j 0) (p.getD i 0) = false) →
      wpAny (model prog w) A (do
        let touched := (← seqEpoch a) != e1
        Builtin.List.listUpdate (.ref a) fun _ => (arrOf st).map (·.2)
        if let some e := failedOf st then rule "list.sort.comparison-raised"; throw e
        if touched then rule "list.sort.modified"; raiseError "ValueError" "list modified during sort"
        ret .none) P E { s with heap := H1 } := fun st p har hf hp hs => by
    rw [har, hf]
    refine wpAny_bind (seqEpoch_at g3 rfl (wpAny_bind (listUpdate_at g3 rfl ?_ (Nat.zero_le _) ?_)))
    · simp only [bne_self_eq_false, Bool.false_eq_true, if_false]
      obtain ⟨c, g4⟩ : ∃ c, (H1.update a (Obj.mapSeq fun _ => (orderOf vs p).toArray)).get? a = some (seqObj "list" (orderOf vs p).toArray c) := ⟨_, get?_update_seq g3 fun _ => (orderOf vs p).toArray⟩
      exact wpAny_pure (h p hp hs _ c (fun b o hb e => (Heap.get?_update_other H1 _ (Ne.symm hb)).trans (keep b o hb e)) g4)
    · rw [List.size_toArray]; unfold orderOf; rw [List.length_map, hp.length_eq, List.length_range]; omega
  by_cases h2 : vs.toArray.size < 2
  · rw [if_pos h2, if_pos h2]
    refine wpAny_bind (wpAny_pure ?_)
    rw [StateT.run_pure]
    refine wpAny_bind (wpAny_pure ?_)
    rw [List.size_toArray] at h2
    refine fin (SortSt.mk' general' (vs.toArray.zip vs.toArray) #[] 7 none) (List.range vs.length) ?_ rfl (List.Perm.refl _) (fun i j hij hj => ?_)
    · show (vs.toArray.zip vs.toArray).map (fun (x : Value × Value) => x.2) = _
      clear fin hlt hk h ho keep hH g3 g1
      match vs, h2 with
      | [], _ => simp [orderOf]
      | [v], _ => simp [orderOf, List.range_succ]
    · have e1 : i = 0 := by omega
      have e2 : j = 0 := by omega
      rw [e1, e2]; exact O.irr _
  · rw [if_neg h2, if_neg h2]
    rw [List.size_toArray] at h2
    have h2' : 2 ≤ vs.length := by omega
    refine wpAny_bind (wpAny_mono (hk h2' H1 keep _ ?_) (fun _ _ q => q) fun _ _ x => x.elim)
    obtain ⟨so1, so2, so3⟩ := sort_ok O h2'
    have run := kat_run (prog := prog) (w := w) (A := A) (E := E) (s := { s with heap := H1 }) (κ := κ) (vs := vs) (ks := vs) (Q := fun st' s' => s' = { s with heap := H1 } ∧ (arrOf st').map (·.2) = (orderOf vs (krun lt (kas_sort vs.length)).toList).toArray ∧ failedOf st' = none)
      (G := fun p s' => s' = { s with heap := H1 } ∧ p = krun lt (kas_sort vs.length)) rfl h2' h64 (fun p st' s' hp har hf ⟨e1, e2⟩ => ⟨e1, by rw [kat_snds rfl har, e2]; rfl, hf⟩)
      (kas_wp (fun i j C hi hj hC => hlt H1 keep i j C hi hj hC) _ so1 ⟨rfl, rfl⟩)
    refine wpAny_bind (wpAny_mono run ?_ fun _ _ e => e)
    rintro ⟨⟨⟩, st'⟩ s' ⟨rfl, har, hf⟩
    refine fin st' _ har hf so2.pm (fun i j hij hj => ?_)
    have := so3 i j hij hj
    have g : ∀ (q : Array Nat) (m : Nat), q.toList.getD m 0 = q.getD m 0 := fun q m => by
      by_cases hm : m < q.size <;> simp [Array.getD, hm]
    rw [g, g]
    exact this
end

def ltDs (lt : D → D → Option Bool) : List D → List D → Option Bool
  | [], [] => some false
  | [], _ :: _ => some true
  | _ :: _, [] => some false
  | x :: xs, y :: ys => if x = y then ltDs lt xs ys else lt x y
def ltD : Nat → D → D → Option Bool
  | _, .int i, .int j => some (decide (i < j))
  | _, .str x, .str y => some (decide (x.cps.toList < y.cps.toList))
  | n + 1, .tup xs, .tup ys => ltDs (ltD n) xs ys
  | _, _, _ => none
theorem str_ext {x y : Str} (h : x.cps.toList = y.cps.toList) : x = y := by
  obtain ⟨a⟩ := x; obtain ⟨b⟩ := y
  simp only at h
  rw [Array.toList_inj.mp h]
section
variable {lt : D → D → Option Bool}
theorem ltDs_tr (h : ∀ x y z, lt x y = some true → lt y z = some true → lt x z = some true) (hi : ∀ x y, lt x y = some true → lt y x ≠ some true) : ∀ xs ys zs, ltDs lt xs ys = some true → ltDs lt ys zs = some true → ltDs lt xs zs = some true
  | [], [], _, a, _ => by simp [ltDs] at a
  | [], _ :: _, [], _, b => by simp [ltDs] at b
  | [], _ :: _, _ :: _, _, _ => by simp [ltDs]
  | _ :: _, [], _, a, _ => by simp [ltDs] at a
  | _ :: _, _ :: _, [], _, b => by simp [ltDs] at b
  | x :: xs, y :: ys, z :: zs, a, b => by
    simp only [ltDs] at a b ⊢
    by_cases e1 : x = y
    · subst e1
      rw [if_pos rfl] at a
      by_cases e2 : x = z
      · subst e2
        rw [if_pos rfl] at b ⊢
        exact ltDs_tr h hi xs ys zs a b
      · rw [if_neg e2] at b ⊢; exact b
    · rw [if_neg e1] at a
      by_cases e2 : y = z
      · subst e2
        rw [if_neg e1]; exact a
      · rw [if_neg e2] at b
        by_cases e3 : x = z
        · subst e3; exact absurd b (hi _ _ a)
        · rw [if_neg e3]; exact h _ _ _ a b
theorem ltDs_as (hi : ∀ x y, lt x y = some true → lt y x ≠ some true) : ∀ xs ys, ltDs lt xs ys = some true → ltDs lt ys xs ≠ some true
  | [], [], a => by simp [ltDs] at a
  | [], _ :: _, _ => by simp [ltDs]
  | _ :: _, [], a => by simp [ltDs] at a
  | x :: xs, y :: ys, a => by
    simp only [ltDs] at a ⊢
    by_cases e1 : x = y
    · subst e1
      rw [if_pos rfl] at a ⊢
      exact ltDs_as hi xs ys a
    · rw [if_neg e1] at a
      rw [if_neg (Ne.symm e1)]
      exact hi _ _ a
theorem ltDs_tot (h : ∀ x y, lt x y = some false → x = y ∨ lt y x = some true) : ∀ xs ys, ltDs lt xs ys = some false → xs = ys ∨ ltDs lt ys xs = some true
  | [], [], _ => .inl rfl
  | [], _ :: _, a => by simp [ltDs] at a
  | _ :: _, [], _ => .inr (by simp [ltDs])
  | x :: xs, y :: ys, a => by
    simp only [ltDs] at a ⊢
    by_cases e1 : x = y
    · subst e1
      rw [if_pos rfl] at a ⊢
      rcases ltDs_tot h xs ys a with q | q
      · exact .inl (by rw [q])
      · exact .inr q
    · rw [if_neg e1] at a
      rcases h x y a with q | q
      · exact absurd q e1
      · rw [if_neg (Ne.symm e1)]; exact .inr q
end
theorem ltD_as : ∀ (n : Nat) (x y : D), ltD n x y = some true → ltD n y x ≠ some true := by
  intro n
  induction n with
  | zero =>
    intro x y h
    cases x <;> cases y <;> simp only [ltD, Option.some.injEq, decide_eq_true_eq, reduceCtorEq] at h <;> simp only [ltD, ne_eq, Option.some.injEq, decide_eq_true_eq]
    · omega
    · exact List.lt_asymm h
  | succ n ih =>
    intro x y h
    cases x <;> cases y <;> simp only [ltD, Option.some.injEq, decide_eq_true_eq, reduceCtorEq] at h <;> simp only [ltD, ne_eq, Option.some.injEq, decide_eq_true_eq]
    · omega
    · exact List.lt_asymm h
    · exact ltDs_as ih _ _ h
theorem ltD_tr : ∀ (n : Nat) (x y z : D), ltD n x y = some true → ltD n y z = some true → ltD n x z = some true := by
  intro n
  induction n with
  | zero =>
    intro x y z h h'
    cases x <;> cases y <;> simp only [ltD, Option.some.injEq, decide_eq_true_eq, reduceCtorEq] at h <;> cases z <;> simp only [ltD, Option.some.injEq, decide_eq_true_eq, reduceCtorEq] at h' <;> simp only [ltD, Option.some.injEq, decide_eq_true_eq]
    · omega
    · exact List.lt_trans h h'
  | succ n ih =>
    intro x y z h h'
    cases x <;> cases y <;> simp only [ltD, Option.some.injEq, decide_eq_true_eq, reduceCtorEq] at h <;> cases z <;> simp only [ltD, Option.some.injEq, decide_eq_true_eq, reduceCtorEq] at h' <;> simp only [ltD, Option.some.injEq, decide_eq_true_eq]
    · omega
    · exact List.lt_trans h h'
    · exact ltDs_tr ih (ltD_as n) _ _ _ h h'
theorem ltD_tot : ∀ (n : Nat) (x y : D), ltD n x y = some false → x = y ∨ ltD n y x = some true := by
  intro n
  induction n with
  | zero =>
    intro x y h
    cases x <;> cases y <;> simp only [ltD, Option.some.injEq, decide_eq_false_iff_not, reduceCtorEq] at h <;> simp only [ltD, Option.some.injEq, decide_eq_true_eq, D.int.injEq, D.str.injEq]
    · omega
    · rename_i x y
      by_cases q : y.cps.toList < x.cps.toList
      · exact .inr q
      · exact .inl (str_ext (List.le_antisymm (List.not_lt.mp q) (List.not_lt.mp h)))
  | succ n ih =>
    intro x y h
    cases x <;> cases y <;> simp only [ltD, Option.some.injEq, decide_eq_false_iff_not, reduceCtorEq] at h <;> simp only [ltD, Option.some.injEq, decide_eq_true_eq, D.int.injEq, D.str.injEq, D.tup.injEq]
    · omega
    · rename_i x y
      by_cases q : y.cps.toList < x.cps.toList
      · exact .inr q
      · exact .inl (str_ext (List.le_antisymm (List.not_lt.mp q) (List.not_lt.mp h)))
    · exact ltDs_tot ih _ _ h
end L2

end

section
set_option maxHeartbeats 1000000
namespace L2
open PySem PySem.Spec PyProof.Rows PySem.W

def LtAt (A : Around) (s : Shared) (y x : Value) (b : Bool) : Prop :=
  ∀ (prog : Program) (w : World) (E : Value → Shared → Prop) (Q : Value → Shared → Prop), Q (.bool b) s → wpAny (model prog w) A (richCompare .Lt y x) Q E s

inductive LexAt (A : Around) (s : Shared) : List Value → List Value → Bool → Prop
  | none : LexAt A s [] [] false
  | less {w : Value} {ws : List Value} : LexAt A s [] (w :: ws) true
  | more {v : Value} {vs : List Value} : LexAt A s (v :: vs) [] false
  | eq {v w : Value} {vs ws : List Value} {b : Bool} : SeqAt.EqAt A s v w true → LexAt A s vs ws b → LexAt A s (v :: vs) (w :: ws) b
  | ne {v w : Value} {vs ws : List Value} {b : Bool} : SeqAt.EqAt A s v w false → LtAt A s v w b → LexAt A s (v :: vs) (w :: ws) b
section
open PySem.SeqAt
open PySem.AutoSeq1 (wpAny_loadPart')
open PySem.MeetsSeq PySem.MeetsSeq2 PySem.MeetsSeq3
theorem tuple_lex (l b : Addr) (items items2 : Array Value) (n n2 : Nat) (dd dd2 : Option Addr) (sl sl2 : Array (Option Value)) (r : Bool) :
    Meets (Builtin.«tuple.__lt__» ⟨[.ref l, .ref b], []⟩)
      (fun A R s => s.heap.get? l = some { cls := .type "tuple", dict := dd, data := .seq items n, slots := sl } ∧ s.heap.get? b = some { cls := .type "tuple", dict := dd2, data := .seq items2 n2, slots := sl2 } ∧
        LexAt A.in1 s items.toList items2.toList r ∧ R (.ok (.ret (.bool r))) s) :=
  .of_wp fun prog w A R s h => by
    obtain ⟨hp, g, d, tk, os⟩ := s; obtain ⟨hl, hb, hx, h⟩ := h
    have f2 := AutoSeq1.sub_tuple_tuple
    wp_walk using wpAny_loadPart' hl, wpAny_loadPart' hb, wpAny_forIn_list _ (fun rest b s' => b.1 = none ∧ s' = ⟨hp, g, d, tk, os⟩ ∧ ∃ (vs ws : List Value), rest = vs.zip ws ∧
      LexAt A.in1 ⟨hp, g, d, tk, os⟩ vs ws r ∧ vs.length + items2.size = ws.length + items.size) _
    case turn =>
      rintro ⟨y, x⟩ rest b s' ⟨hb', rfl, vs, ws, hz, hlex, hlen⟩
      cases hlex with
      | none => rw [List.zip_nil_left] at hz; cases hz
      | less => rw [List.zip_nil_left] at hz; cases hz
      | more => rw [List.zip_nil_right] at hz; cases hz
      | eq he ht =>
        rw [List.zip_cons_cons] at hz
        injection hz with hyx hrest
        injection hyx with hy hx'
        subst hy hx'
        simp only [List.length_cons] at hlen
        refine wpAny_bind (he prog w _ _ ?_)
        wp_walk
        exact ⟨rfl, rfl, _, _, hrest, ht, by omega⟩
      | ne he hlt =>
        rw [List.zip_cons_cons] at hz
        injection hz with hyx hrest
        injection hyx with hy hx'
        subst hy hx'
        refine wpAny_bind (he prog w _ _ ?_)
        have hri := hlt prog w
        wp_walk using hri
        exact ⟨_, rfl, by simpa using h⟩
    case fin =>
      rintro ⟨b1, b2⟩ s' ⟨hb', rfl, vs, ws, hz, hlex, hlen⟩
      simp only at hb'
      subst hb'
      have hv : r = decide (items.size < items2.size) := by
        cases hlex with
        | none => simp only [List.length_nil] at hlen; exact (decide_eq_false (by omega)).symm
        | less => simp only [List.length_nil, List.length_cons] at hlen; exact (decide_eq_true (by omega)).symm
        | more => simp only [List.length_nil, List.length_cons] at hlen; exact (decide_eq_false (by omega)).symm
        | eq _ _ => rw [List.zip_cons_cons] at hz; cases hz
        | ne _ _ => rw [List.zip_cons_cons] at hz; cases hz
      rw [hv] at h
      wp_walk
      exact ⟨_, rfl, by simpa [Builtin.Tuple.tupleCompareSizes] using h⟩
    case h => exact ⟨rfl, rfl, items.toList, items2.toList, rfl, hx, by simp only [Array.length_toList]; omega⟩
end
theorem LtAt.tuples {A : Around} {s : Shared} {l b : Addr} {items items2 : Array Value} {r : Bool} (hl : s.heap.IsTuple l items) (hb : s.heap.IsTuple b items2) (hu : A.units < cLine) (hx : LexAt A.in1 s items.toList items2.toList r) : LtAt A s (.ref l) (.ref b) r := fun prog w E Q h => by
  obtain ⟨⟨cls, dd, data, sl⟩, ho, hc, n, hd⟩ := id hl
  obtain ⟨⟨cls2, dd2, data2, sl2⟩, ho2, hc2, n2, hd2⟩ := id hb
  simp only at hc hd hc2 hd2
  subst hc hd hc2 hd2
  exact richCompare_meets_room (op := .Lt) ⟨_, ho, rfl⟩ ⟨_, ho2, rfl⟩ PySem.F.slot_tuple_lt PySem.F.entry_tuple_lt (PySem.F.args_tuple_lt_2 _ _) (tuple_lex l b items items2 n n2 dd dd2 sl sl2 r)
    ⟨ho, ho2, hx, show Value.bool r ≠ Value.notImplemented ∧ Q (.bool r) s from ⟨(fun x => nomatch x), h⟩⟩ hu

section
variable {X : Cx} {pins : List (Addr × Obj)} {σ : St} {H : Hp} {s : Shared} {B B' : Addr → Prop}

theorem lex_D (I : Inv X pins σ H s) {n : Nat} {A : Around} (hA : A.units + n + 1 < cLine)
    (ih : ∀ (d e : D) (x y : V) (u w : Value) (r : Bool), okD n d = true → okD n e = true → Rep X.K B H d x → Rep X.K B' H e y → RelV x u → RelV y w → ltD n d e = some r → LtAt A s u w r) :
    ∀ (ds es : List D) (xs ys : List V) (us ws : List Value) (r : Bool), ds.all (okD n) = true → es.all (okD n) = true → Reps X.K B H ds xs → Reps X.K B' H es ys → Vals xs us → Vals ys ws → ltDs (ltD n) ds es = some r → LexAt A s us ws r
  | [], [], xs, ys, us, ws, r, hd, he, r1, r2, v1, v2, h => by
    simp only [Reps] at r1 r2; subst r1 r2; cases v1; cases v2
    simp only [ltDs, Option.some.injEq] at h; subst h; exact .none
  | [], e :: es, xs, ys, us, ws, r, hd, he, r1, r2, v1, v2, h => by
    simp only [Reps] at r1 r2; subst r1; obtain ⟨y, t, rfl, _, _⟩ := r2; cases v1; cases v2
    simp only [ltDs, Option.some.injEq] at h; subst h; exact .less
  | d :: ds, [], xs, ys, us, ws, r, hd, he, r1, r2, v1, v2, h => by
    simp only [Reps] at r1 r2; subst r2; obtain ⟨y, t, rfl, _, _⟩ := r1; cases v1; cases v2
    simp only [ltDs, Option.some.injEq] at h; subst h; exact .more
  | d :: ds, e :: es, xs, ys, us, ws, r, hd, he, r1, r2, v1, v2, h => by
    simp only [Reps] at r1 r2
    obtain ⟨x, xt, rfl, r1a, r1b⟩ := r1
    obtain ⟨y, yt, rfl, r2a, r2b⟩ := r2
    cases v1 with
    | cons va vb =>
      cases v2 with
      | cons wa wb =>
        rw [List.all_cons, Bool.and_eq_true] at hd he
        have q := (eq_D I n d e x y _ _ A hd.1 he.1 hA r1a r2a va wa).2.1
        simp only [ltDs] at h
        by_cases c : d = e
        · rw [if_pos c] at h
          rw [decide_eq_true c] at q
          exact .eq q (lex_D I hA ih ds es xt yt _ _ r hd.2 he.2 r1b r2b vb wb h)
        · rw [if_neg c] at h
          rw [decide_eq_false c] at q
          exact .ne q (ih d e x y _ _ r hd.1 he.1 r1a r2a va wa h)
theorem lt_D (I : Inv X pins σ H s) : ∀ (n : Nat) (d e : D) (x y : V) (u w : Value) (r : Bool) (A : Around), okD n d = true → okD n e = true → A.units + n + 1 < cLine → Rep X.K B H d x → Rep X.K B' H e y → RelV x u → RelV y w → ltD n d e = some r → LtAt A s u w r := by
  intro n
  have flat : ∀ (d e : D) (x y : V) (u w : Value) (r : Bool) (A : Around), Rep X.K B H d x → Rep X.K B' H e y → RelV x u → RelV y w → ltD 0 d e = some r → LtAt A s u w r := fun d e x y u w r A rd re rx ry h => by
    cases d with
    | int i =>
      cases e with
      | int j =>
        simp only [Rep] at rd re; subst rd re
        obtain ⟨t, rfl⟩ := rx; obtain ⟨t', rfl⟩ := ry
        simp only [ltD, Option.some.injEq] at h; subst h
        exact fun prog w E Q hq => HT.rcLt_int A s i t j t' prog w E Q hq
      | _ => simp [ltD] at h
    | str i =>
      cases e with
      | str j =>
        simp only [Rep] at rd re; subst rd re
        obtain ⟨t, rfl⟩ := rx; obtain ⟨t', rfl⟩ := ry
        simp only [ltD, Option.some.injEq] at h; subst h
        exact fun prog w E Q hq => (lt_str hq : wpAny (model prog w) A (compareOp .Lt (.str i t) (.str j t')) Q E s)
      | _ => simp [ltD] at h
    | _ => simp [ltD] at h
  induction n with
  | zero => exact fun d e x y u w r A _ _ _ rd re rx ry h => flat d e x y u w r A rd re rx ry h
  | succ n ih =>
    intro d e x y u w r A hd he hA rd re rx ry h
    cases d with
    | tup ds =>
      cases e with
      | tup es =>
        simp only [Rep] at rd re
        obtain ⟨a, xs, rfl, hq, r1⟩ := rd
        obtain ⟨b, ys, rfl, hq', r2⟩ := re
        cases rx; cases ry
        obtain ⟨its, v1, t1, _⟩ := I.tuple (SqT.of hq)
        obtain ⟨its2, v2, t2, _⟩ := I.tuple (SqT.of hq')
        simp only [okD] at hd he
        simp only [ltD] at h
        have hA' : A.in1.units + n + 1 < cLine := by show A.units + 1 + n + 1 < cLine; omega
        exact LtAt.tuples t1 t2 (by omega) (by simpa using lex_D I hA' (fun d e x y u w r o1 o2 r1 r2 v1 v2 hl => ih d e x y u w r A.in1 o1 o2 hA' r1 r2 v1 v2 hl) ds es xs ys its its2 r hd he r1 r2 v1 v2 h)
      | _ => simp [ltD] at h
    | int i => cases e <;> first | (simp [ltD] at h; done) | exact flat _ _ x y u w r A rd re rx ry (by simpa only [ltD] using h)
    | str i => cases e <;> first | (simp [ltD] at h; done) | exact flat _ _ x y u w r A rd re rx ry (by simpa only [ltD] using h)
    | _ => simp [ltD] at h
end
end L2

end

section
set_option maxHeartbeats 1000000
namespace L2
open PySem PySem.Spec PyProof.Rows PySem.W

def leD (x y : D) : Prop := ltD 15 y x ≠ some true
def insD (x : D) : List D → List D
  | [] => [x]
  | y :: ys => if ltD 15 y x = some true then y :: insD x ys else x :: y :: ys
def sortD (ds : List D) : List D := ds.foldr insD []

def cmpD (ds : List D) : Bool := ds.all fun x => okD 15 x && ds.all fun y => (ltD 15 x y).isSome
theorem cmpD_at {ds : List D} (h : cmpD ds = true) {x y : D} (hx : x ∈ ds) (hy : y ∈ ds) : ∃ b, ltD 15 x y = some b := by
  unfold cmpD at h
  have h1 := List.all_eq_true.mp h x hx
  rw [Bool.and_eq_true] at h1
  exact Option.isSome_iff_exists.mp (List.all_eq_true.mp h1.2 y hy)
theorem cmpD_ok {ds : List D} (h : cmpD ds = true) {x : D} (hx : x ∈ ds) : okD 15 x = true := by
  unfold cmpD at h
  have h1 := List.all_eq_true.mp h x hx
  rw [Bool.and_eq_true] at h1
  exact h1.1
theorem insD_perm (x : D) : ∀ l : List D, (insD x l).Perm (x :: l)
  | [] => List.Perm.refl _
  | y :: ys => by
    unfold insD
    split
    · exact ((insD_perm x ys).cons y).trans (List.Perm.swap x y ys)
    · exact List.Perm.refl _
theorem sortD_perm : ∀ ds : List D, (sortD ds).Perm ds
  | [] => List.Perm.refl _
  | d :: ds => by
    show (insD d (sortD ds)).Perm (d :: ds)
    exact (insD_perm d _).trans ((sortD_perm ds).cons d)
theorem leD_tr {x y z : D} {ds : List D} (h : cmpD ds = true) (hx : x ∈ ds) (hy : y ∈ ds) (hz : z ∈ ds) (a : leD x y) (b : leD y z) : leD x z := by
  unfold leD at *
  intro c
  obtain ⟨r1, e1⟩ := cmpD_at h hy hx
  obtain ⟨r2, e2⟩ := cmpD_at h hz hy
  cases r1 with
  | true => exact a e1
  | false =>
    cases r2 with
    | true => exact b e2
    | false =>
      rcases ltD_tot 15 _ _ e1 with q1 | q1
      · subst q1; exact b c
      · rcases ltD_tot 15 _ _ e2 with q2 | q2
        · subst q2; exact a c
        · exact ltD_as 15 _ _ (ltD_tr 15 _ _ _ q1 q2) c
theorem leD_as {x y : D} {ds : List D} (h : cmpD ds = true) (hx : x ∈ ds) (hy : y ∈ ds) (a : leD x y) (b : leD y x) : x = y := by
  unfold leD at *
  obtain ⟨r1, e1⟩ := cmpD_at h hx hy
  cases r1 with
  | true => exact absurd e1 b
  | false =>
    rcases ltD_tot 15 _ _ e1 with q | q
    · exact q
    · exact absurd q a
theorem insD_sorted {x : D} {ds : List D} (h : cmpD ds = true) (hx : x ∈ ds) : ∀ l : List D, (∀ y ∈ l, y ∈ ds) → l.Pairwise leD → (insD x l).Pairwise leD
  | [], _, _ => by simp [insD]
  | y :: ys, hm, hp => by
    unfold insD
    obtain ⟨h1, h2⟩ := List.pairwise_cons.mp hp
    have hy := hm y List.mem_cons_self
    split
    · rename_i c
      refine List.pairwise_cons.mpr ⟨fun z hz => ?_, insD_sorted h hx ys (fun z hz => hm z (List.mem_cons_of_mem _ hz)) h2⟩
      rcases List.mem_cons.mp ((insD_perm x ys).mem_iff.mp hz) with q | q
      · subst q; exact ltD_as 15 _ _ c
      · exact h1 z q
    · rename_i c
      refine List.pairwise_cons.mpr ⟨fun z hz => ?_, hp⟩
      rcases List.mem_cons.mp hz with q | q
      · subst q; exact c
      · exact leD_tr h hx hy (hm z hz) c (h1 z q)
theorem sortD_sorted {ds : List D} (h : cmpD ds = true) : (sortD ds).Pairwise leD := by
  have key : ∀ l : List D, (∀ y ∈ l, y ∈ ds) → (sortD l).Pairwise leD := by
    intro l
    induction l with
    | nil => intro _; exact List.Pairwise.nil
    | cons y l ih =>
      intro hm
      exact insD_sorted h (hm y List.mem_cons_self) _ (fun z hz => hm z (List.mem_cons_of_mem _ ((sortD_perm l).mem_iff.mp hz))) (ih fun z hz => hm z (List.mem_cons_of_mem _ hz))
  exact key ds fun _ h => h
theorem sorted_one {ds : List D} (h : cmpD ds = true) : ∀ (l1 l2 : List D), (∀ y ∈ l1, y ∈ ds) → l1.Perm l2 → l1.Pairwise leD → l2.Pairwise leD → l1 = l2
  | [], l2, _, hp, _, _ => (List.nil_perm.mp hp).symm
  | a :: l1, [], _, hp, _, _ => (List.perm_nil.mp hp)
  | a :: l1, b :: l2, hm, hp, h1, h2 => by
    obtain ⟨p1, q1⟩ := List.pairwise_cons.mp h1
    obtain ⟨p2, q2⟩ := List.pairwise_cons.mp h2
    have hm2 : ∀ y ∈ b :: l2, y ∈ ds := fun y hy => hm y (hp.mem_iff.mpr hy)
    have ab : a = b := by
      have ha : a ∈ b :: l2 := hp.mem_iff.mp List.mem_cons_self
      have hb : b ∈ a :: l1 := hp.mem_iff.mpr List.mem_cons_self
      rcases List.mem_cons.mp ha with z | z
      · exact z
      · rcases List.mem_cons.mp hb with y | y
        · exact y.symm
        · exact leD_as h (hm a List.mem_cons_self) (hm2 b List.mem_cons_self) (p1 b y) (p2 a z)
    subst ab
    rw [sorted_one h l1 l2 (fun y hy => hm y (List.mem_cons_of_mem _ hy)) (List.perm_cons a |>.mp hp) q1 q2]

inductive KD | st | it | ts | tt
def isKD : KD → D → Bool
  | .st, .str _ => true
  | .it, .int _ => true
  | .ts, .tup (.str _ :: _) => true
  | .tt, .tup (.tup _ :: _) => true
  | _, _ => false
def kindD : KD → SortKind
  | .st => oneType'
  | .it => oneType'
  | .ts => tuples' true
  | .tt => tuples' false
section
variable {prog : Program} {w : World} {A : Around} {E : Value → Shared → Prop} {s : Shared}
theorem kat_of_lex {b : Bool} {Q : Bool → Shared → Prop} {fin : Bool} {r : Bool} : ∀ {vs ws : List Value} {i : Nat}, LexAt A s vs ws r → (b = false ∨ 1 ≤ i) → (fin = decide (vs.length < ws.length)) → Q r s → KatLex prog w A b fin Q (vs.zip ws) i s
  | _, _, i, .none, hb, hf, q => by
    subst hf
    exact kat_nil (by simpa using q)
  | _, _, i, .less, hb, hf, q => by
    rw [List.zip_nil_left]
    subst hf
    exact kat_nil (by simpa using q)
  | _, _, i, .more, hb, hf, q => by
    rw [List.zip_nil_right]
    subst hf
    exact kat_nil (by simpa using q)
  | _, _, i, .eq he ht, hb, hf, q => by
    rw [List.zip_cons_cons]
    refine kat_cons (he prog w _ _ (kat_yes ?_))
    exact kat_of_lex ht (.inr (by omega)) (by rw [hf]; simp) q
  | _, _, i, .ne he hl, hb, hf, q => by
    rw [List.zip_cons_cons]
    refine kat_cons (he prog w _ _ (kat_no ?_))
    have hz : (b && i == 0) = false := by
      rcases hb with z | z
      · rw [z, Bool.false_and]
      · have : (i == 0) = false := by simp; omega
        rw [this, Bool.and_false]
    rw [hz]
    exact kat_one _ _ (hl prog w _ _ q)
end
section
variable {X : Cx} {pins : List (Addr × Obj)} {σ : St} {H : Hp} {s : Shared} {B B' : Addr → Prop}

theorem key_lt (I : Inv X pins σ H s) {A : Around} (hA : A.units + 20 < cLine) {c : KD} {d e : D} {x y : V} {u w' : Value} {r : Bool} (hd : okD 15 d = true) (he : okD 15 e = true) (kd : isKD c d = true) (ke : isKD c e = true) (rd : Rep X.K B H d x) (re : Rep X.K B' H e y) (rx : RelV x u) (ry : RelV y w')
    (h : ltD 15 d e = some r) {C : Bool → Shared → Prop} (q : C r s) : wpAny (model X.prog X.w) A (keyLt' (kindD c) u w') C (fun _ _ => False) s := by
  cases c with
  | st =>
    cases d <;> simp only [isKD, Bool.false_eq_true] at kd
    cases e <;> simp only [isKD, Bool.false_eq_true] at ke
    simp only [Rep] at rd re; subst rd re
    obtain ⟨t, rfl⟩ := rx; obtain ⟨t', rfl⟩ := ry
    simp only [ltD, Option.some.injEq] at h; subst h
    show wpAny _ _ (keyLt' oneType' _ _) _ _ _
    rw [keyLt'_oneType]
    exact oneLt_str q
  | it =>
    cases d <;> simp only [isKD, Bool.false_eq_true] at kd
    cases e <;> simp only [isKD, Bool.false_eq_true] at ke
    simp only [Rep] at rd re; subst rd re
    obtain ⟨t, rfl⟩ := rx; obtain ⟨t', rfl⟩ := ry
    simp only [ltD, Option.some.injEq] at h; subst h
    show wpAny _ _ (keyLt' oneType' _ _) _ _ _
    rw [keyLt'_oneType]
    exact oneLt_int q
  | ts =>
    match d, kd with
    | .tup (.str i :: ds), _ =>
      match e, ke with
      | .tup (.str j :: es), _ =>
        simp only [Rep] at rd re
        obtain ⟨a, xs, rfl, hq, r1⟩ := rd
        obtain ⟨b, ys, rfl, hq', r2⟩ := re
        cases rx; cases ry
        obtain ⟨its, v1, ⟨o1, g1, c1, n1, d1⟩, _⟩ := I.tuple (SqT.of hq)
        obtain ⟨its2, v2, ⟨o2, g2, c2, n2, d2⟩, _⟩ := I.tuple (SqT.of hq')
        refine kat_lt g1 d1 g2 d2 ?_
        simp only [Reps] at r1 r2
        obtain ⟨x, xt, rfl, r1a, r1b⟩ := r1
        obtain ⟨y, yt, rfl, r2a, r2b⟩ := r2
        simp only [Rep] at r1a r2a; subst r1a r2a
        simp only [okD, List.all_cons, Bool.and_eq_true] at hd he
        simp only [ltD, ltDs, D.str.injEq] at h
        cases v1 with
        | cons va vb =>
          cases v2 with
          | cons wa wb =>
            obtain ⟨t, rfl⟩ := va; obtain ⟨t', rfl⟩ := wa
            show KatLex _ _ _ _ _ _ ((Value.str i t :: _).zip (Value.str j t' :: _)) 0 s
            rw [List.zip_cons_cons]
            by_cases cij : i = j
            · subst cij
              rw [if_pos rfl] at h
              have q1 := SeqAt.EqAt.str_str (A := A) (s := s) i t i t'
              rw [beq_self_eq_true] at q1
              refine kat_cons (q1 _ _ _ _ (kat_yes ?_))
              have lx := lex_D (B := B) (B' := B') I (n := 14) (A := A) (by omega) (fun d e x y u w r o1 o2 r1 r2 v1 v2 hl => lt_D I 14 d e x y u w r A o1 o2 (by omega) r1 r2 v1 v2 hl) ds es xt yt _ _ r
                hd.2 he.2 r1b r2b vb wb h
              exact kat_of_lex lx (.inr (Nat.le_refl _)) (by simp) q
            · rw [if_neg cij] at h
              have q1 := SeqAt.EqAt.str_str (A := A) (s := s) i t j t'
              have eb : (i == j) = false := by simpa using cij
              rw [eb] at q1
              refine kat_cons (q1 _ _ _ _ (kat_no ?_))
              simp only [Option.some.injEq] at h
              subst h
              exact oneLt_str q
  | tt =>
    match d, kd with
    | .tup (.tup i :: ds), _ =>
      match e, ke with
      | .tup (.tup j :: es), _ =>
        have rd' := rd; have re' := re
        simp only [Rep] at rd re
        obtain ⟨a, xs, rfl, hq, r1⟩ := rd
        obtain ⟨b, ys, rfl, hq', r2⟩ := re
        cases rx; cases ry
        obtain ⟨its, v1, ⟨o1, g1, c1, n1, d1⟩, _⟩ := I.tuple (SqT.of hq)
        obtain ⟨its2, v2, ⟨o2, g2, c2, n2, d2⟩, _⟩ := I.tuple (SqT.of hq')
        refine kat_lt g1 d1 g2 d2 ?_
        have hd' : (D.tup i :: ds).all (okD 14) = true := by simpa only [okD] using hd
        have he' : (D.tup j :: es).all (okD 14) = true := by simpa only [okD] using he
        simp only [ltD] at h
        have lx := lex_D (B := B) (B' := B') I (n := 14) (A := A) (by omega) (fun d e x y u w r o1 o2 r1 r2 v1 v2 hl => lt_D I 14 d e x y u w r A o1 o2 (by omega) r1 r2 v1 v2 hl) _ _ xs ys _ _ r hd' he' (by simpa only [Reps] using r1) (by simpa only [Reps] using r2) v1 v2 h
        exact kat_of_lex lx (.inl rfl) (by simp) q

theorem key_kind (I : Inv X pins σ H s) {A : Around} {c : KD} {ds : List D} {xs : List V} {us : List Value} (h2 : 2 ≤ us.length) (hk : ds.all (isKD c) = true) (r : Reps X.K B H ds xs) (v : Vals xs us) {Q : SortKind → Shared → Prop} (q : Q (kindD c) s) :
    wpAny (model X.prog X.w) A (keyKind' us.toArray) Q (fun _ _ => False) s := by
  have each : ∀ u ∈ us, ∃ d x, isKD c d = true ∧ Rep X.K B H d x ∧ RelV x u := fun u hu => by
    obtain ⟨j, hj⟩ := List.getElem?_of_mem hu
    have hl := v.length
    have hlt : j < xs.length := by rw [hl]; exact (List.getElem?_eq_some_iff.mp hj).1
    obtain ⟨u', hu', ru⟩ := v.get (i := j) (x := xs[j]) (by simp [hlt])
    rw [hj] at hu'; cases hu'
    obtain ⟨d, hd, rd⟩ := r.get' (i := j) (x := xs[j]) (by simp [hlt])
    exact ⟨d, xs[j], List.all_eq_true.mp hk d (List.mem_of_getElem? hd), rd, ru⟩
  cases c with
  | st =>
    refine kas_kind (T := .type "str") h2 (fun u hu => ?_) (by decide) (by decide) q
    obtain ⟨d, x, k1, rd, ru⟩ := each u hu
    cases d <;> simp only [isKD, Bool.false_eq_true] at k1
    simp only [Rep] at rd; subst rd
    obtain ⟨t, rfl⟩ := ru
    exact .now
  | it =>
    refine kas_kind (T := .type "int") h2 (fun u hu => ?_) (by decide) (by decide) q
    obtain ⟨d, x, k1, rd, ru⟩ := each u hu
    cases d <;> simp only [isKD, Bool.false_eq_true] at k1
    simp only [Rep] at rd; subst rd
    obtain ⟨t, rfl⟩ := ru
    exact .now
  | ts =>
    have mk : ∀ (ds : List D) (xs : List V) (us : List Value), ds.all (isKD .ts) = true → Reps X.K B H ds xs → Vals xs us → ∃ fs, KatTups s.heap us fs ∧ fs.length = us.length ∧ ∀ f ∈ fs, ∃ z t, f = .str z t := by
      intro ds
      induction ds with
      | nil => intro xs us _ r v; simp only [Reps] at r; subst r; cases v; exact ⟨[], .nil, rfl, fun _ h => by cases h⟩
      | cons d ds ih =>
        intro xs us hk r v
        simp only [Reps] at r
        obtain ⟨x, xt, rfl, ra, rb⟩ := r
        cases v with
        | cons va vb =>
          rw [List.all_cons, Bool.and_eq_true] at hk
          obtain ⟨fs, f1, f2, f3⟩ := ih xt _ hk.2 rb vb
          match d, hk.1 with
          | .tup (.str z :: es), _ =>
            simp only [Rep] at ra
            obtain ⟨a, ys, rfl, hq, rs⟩ := ra
            cases va
            obtain ⟨its, v1, ⟨o1, g1, c1, n1, d1⟩, _⟩ := I.tuple (SqT.of hq)
            simp only [Reps] at rs
            obtain ⟨y, yt, rfl, ry, _⟩ := rs
            simp only [Rep] at ry; subst ry
            cases v1 with
            | cons w1 w2 =>
              obtain ⟨t, rfl⟩ := w1
              exact ⟨.str z t :: fs, .cons g1 c1 d1 (by simp) f1, by simp [f2], fun f hf => by
                rcases List.mem_cons.mp hf with q | q
                · exact ⟨z, t, q⟩
                · exact f3 f q⟩
    obtain ⟨fs, f1, f2, f3⟩ := mk ds xs us hk r v
    refine kat_kind (T := .type "str") f1 (by omega) (fun f hf => ?_) (by decide) q
    obtain ⟨z, t, rfl⟩ := f3 f hf
    exact .now
  | tt =>
    have mk : ∀ (ds : List D) (xs : List V) (us : List Value), ds.all (isKD .tt) = true → Reps X.K B H ds xs → Vals xs us → ∃ fs, KatTups s.heap us fs ∧ fs.length = us.length ∧ ∀ f ∈ fs, ∃ b o, f = .ref b ∧ s.heap.get? b = some o ∧ o.cls = .type "tuple" := by
      intro ds
      induction ds with
      | nil => intro xs us _ r v; simp only [Reps] at r; subst r; cases v; exact ⟨[], .nil, rfl, fun _ h => by cases h⟩
      | cons d ds ih =>
        intro xs us hk r v
        simp only [Reps] at r
        obtain ⟨x, xt, rfl, ra, rb⟩ := r
        cases v with
        | cons va vb =>
          rw [List.all_cons, Bool.and_eq_true] at hk
          obtain ⟨fs, f1, f2, f3⟩ := ih xt _ hk.2 rb vb
          match d, hk.1 with
          | .tup (.tup z :: es), _ =>
            simp only [Rep] at ra
            obtain ⟨a, ys, rfl, hq, rs⟩ := ra
            cases va
            obtain ⟨its, v1, ⟨o1, g1, c1, n1, d1⟩, _⟩ := I.tuple (SqT.of hq)
            simp only [Reps] at rs
            obtain ⟨y, yt, rfl, ry, _⟩ := rs
            simp only [Rep] at ry
            obtain ⟨b, zs, rfl, hqb, _⟩ := ry
            cases v1 with
            | cons w1 w2 =>
              cases w1
              obtain ⟨_, _, ⟨o2, g2, c2, _⟩, _⟩ := I.tuple (SqT.of hqb)
              exact ⟨.ref b :: fs, .cons g1 c1 d1 (by simp) f1, by simp [f2], fun f hf => by
                rcases List.mem_cons.mp hf with q | q
                · exact ⟨b, o2, q, g2, c2⟩
                · exact f3 f q⟩
    obtain ⟨fs, f1, f2, f3⟩ := mk ds xs us hk r v
    refine kat_kind (T := .type "tuple") f1 (by omega) (fun f hf => ?_) (by decide) q
    obtain ⟨b, o, rfl, g, hc⟩ := f3 f hf
    rw [← hc]
    exact (Looks.ld g).andThen .now
end
end L2

end

section
set_option maxHeartbeats 1000000
namespace L2
open PySem PySem.Spec PyProof.Rows PySem.W

theorem getD_lt {α : Type} (l : List α) (d : α) {i : Nat} (h : i < l.length) : l.getD i d = l[i] := by simp [h]
theorem getD_ge {α : Type} (l : List α) (d : α) {i : Nat} (h : l.length ≤ i) : l.getD i d = d := by simp [h]
def atG (ds : List D) (i : Nat) : D := ds.getD i (ds.headD .non)
theorem atG_mem {ds : List D} (h : ds ≠ []) (i : Nat) : atG ds i ∈ ds := by
  unfold atG
  cases ds with
  | nil => exact absurd rfl h
  | cons d ds =>
    by_cases hi : i < (d :: ds).length
    · rw [getD_lt _ _ hi]; exact List.getElem_mem hi
    · rw [getD_ge _ _ (by omega)]; exact List.mem_cons_self
theorem ord_G {ds : List D} (h : cmpD ds = true) : Ord (fun i j => decide (ltD 15 (atG ds i) (atG ds j) = some true)) := by
  by_cases hn : ds = []
  · subst hn
    have e : ∀ i, atG [] i = .non := fun i => rfl
    exact ⟨fun i j q => by simp only [e, ltD] at q; simp at q, fun i j k _ _ => by simp [e, ltD]⟩
  · refine ⟨fun i j q => decide_eq_false (ltD_as 15 _ _ (of_decide_eq_true q)), fun i j k a b => decide_eq_false ?_⟩
    exact leD_tr h (atG_mem hn i) (atG_mem hn j) (atG_mem hn k) (of_decide_eq_false a) (of_decide_eq_false b)
theorem Reps.getP {K : PySem.W.Frag} {B : Addr → Prop} {H : Hp} {ds : List D} {xs : List V} (r : Reps K B H ds xs) : ∀ p : List Nat, (∀ i ∈ p, i < ds.length) → Reps K B H (p.map fun i => ds.getD i .non) (p.map fun i => xs.getD i .non)
  | [], _ => Reps.nil
  | i :: p, h => by
    have hi := h i List.mem_cons_self
    obtain ⟨x, hx, rx⟩ := r.get (i := i) (d := ds[i]) (by simp [hi])
    refine Reps.cons ?_ (Reps.getP r p fun j hj => h j (List.mem_cons_of_mem _ hj))
    have e1 : ds.getD i .non = ds[i] := by simp [hi]
    have e2 : xs.getD i .non = x := by rw [List.getD_eq_getElem?_getD, hx]; rfl
    show Rep K B H (ds.getD i .non) (xs.getD i .non)
    rw [e1, e2]; exact rx
theorem Vals.getP {xs : List V} {us : List Value} (r : Vals xs us) : ∀ p : List Nat, (∀ i ∈ p, i < xs.length) → Vals (p.map fun i => xs.getD i .non) (orderOf us p)
  | [], _ => .nil
  | i :: p, h => by
    have hi := h i List.mem_cons_self
    obtain ⟨u, hu, ru⟩ := r.get (i := i) (x := xs[i]) (by simp [hi])
    refine .cons ?_ (Vals.getP r p fun j hj => h j (List.mem_cons_of_mem _ hj))
    have e1 : xs.getD i .non = xs[i] := by simp [hi]
    have e2 : us.getD i Value.none = u := by rw [List.getD_eq_getElem?_getD, hu]; rfl
    show RelV (xs.getD i .non) (us.getD i Value.none)
    rw [e1, e2]; exact ru
theorem map_range_getD (ds : List D) : (List.range ds.length).map (fun i => ds.getD i .non) = ds := by
  apply List.ext_getElem?
  intro i
  rw [List.getElem?_map]
  by_cases hi : i < ds.length
  · simp [hi]
  · rw [List.getElem?_eq_none (by simpa using hi), List.getElem?_eq_none (by omega)]; rfl

theorem sorted_by {ds : List D} (h : cmpD ds = true) {p : List Nat} (hp : p.Perm (List.range ds.length)) (hs : ∀ i j, i ≤ j → j < ds.length → decide (ltD 15 (atG ds (p.getD j 0)) (atG ds (p.getD i 0)) = some true) = false) :
    (p.map fun i => ds.getD i .non) = sortD ds := by
  have pl : p.length = ds.length := by rw [hp.length_eq, List.length_range]
  have hpl : ∀ i ∈ p, i < ds.length := fun i hi => List.mem_range.mp (hp.mem_iff.mp hi)
  have perm : (p.map fun i => ds.getD i .non).Perm ds := by
    have := hp.map (fun i => ds.getD i D.non)
    rw [map_range_getD] at this
    exact this
  refine sorted_one h _ _ (fun y hy => perm.mem_iff.mp hy) (perm.trans (sortD_perm ds).symm) ?_ (sortD_sorted h)
  rw [List.pairwise_iff_getElem]
  intro i j hi hj hij
  rw [List.length_map] at hi hj
  rw [List.getElem_map, List.getElem_map]
  have q := of_decide_eq_false (hs i j (Nat.le_of_lt hij) (by omega))
  have e : ∀ k (hk : k < p.length), atG ds (p.getD k 0) = ds.getD p[k] .non := fun k hk => by
    have : p.getD k 0 = p[k] := by simp [hk]
    rw [this]
    unfold atG
    have hl := hpl p[k] (List.getElem_mem hk)
    rw [getD_lt _ _ hl, getD_lt _ _ hl]
  rw [e j hj, e i hi] at q
  exact q

section
variable {X : Cx} {m m' mm : Bool} {a b : Expr} {fa fb : DEnv → Option D} {pos p : Pos}

theorem sorted_tail {pins : List (Addr × Obj)} {σ : St} {H : Hp} {s : Shared} {B : Addr → Prop} {c : KD} {ds : List D} {ys : List V} {us : List Value} {Q : VK} {h1 : Heap} {t1 : Nat} (hu : X.A.units + 64 < cLine) (I : Inv X pins σ H s) (k1 : ∀ b o, s.heap.get? b = some o → h1.get? b = some o) (hsz : s.heap.objs.size ≤ h1.objs.size)
    (r : Reps X.K B H ds ys) (v : Vals ys us) (h64 : ds.length < 64) (hc : cmpD ds = true) (hk : ds.all (isKD c) = true)
    (q : ∀ l zs, H l = none → Reps X.K B H (sortD ds) zs → Q (.ref l) (upd H l (.lst zs))) :
    wpAny (model X.prog X.w) X.A.in1 (do
      let l ← newList us
      let _ ← holding [l] (call (.builtin "list.sort") [l] [])
      ret l) (fun fin s' => ∃ w, fin = .done (.ret w) ∧ EP X pins σ Q w s') X.xe { s with heap := h1, toks := t1 } := by
  have l1 := r.length
  have l2 := v.length
  have hz : us.length ≤ sizeLine := by rw [sizeLine_eq]; omega
  refine wpAny_bind (wpAny_newList ?_ hz)
  have g0 : (h1.push (seqObj "list" us.toArray 0)).get? h1.objs.size = some (seqObj "list" us.toArray 0) := Heap.get?_push_size _ rfl
  have k2 : ∀ b o, s.heap.get? b = some o → b ≠ h1.objs.size ∧ (h1.push (seqObj "list" us.toArray 0)).get? b = some o := fun b o e => ⟨Nat.ne_of_lt (Heap.lt_size (k1 b o e)), Heap.get?_push_of_some _ (k1 b o e)⟩
  refine wpAny_bind (wpAny_holding (wpAny_call_entry slot_list_sort ⟨_, g0, rfl⟩ entry_list_sort ?_ (args_list_sort _)))
  have hA : X.A.in1.in1.units + 20 < cLine := by show X.A.units + 1 + 1 + 20 < cLine; omega
  refine srt_list (s := { s with heap := h1.push (seqObj "list" us.toArray 0), toks := t1 }) (vs := us) (κ := kindD c) g0 (by omega) (ord_G hc) (fun h2 h' kp Q' q' => ?_) (fun h' kp i j C hi hj hC => ?_) (fun pp hp hs h' cc kp g => ?_)
  · have I1 : Inv X pins σ H { s with heap := h', toks := t1 } := I.kept fun b o e => kp b o (k2 b o e).1 (k2 b o e).2
    exact key_kind I1 h2 hk r v q'
  · have I1 : Inv X pins σ H { s with heap := h', toks := t1 } := I.kept fun b o e => kp b o (k2 b o e).1 (k2 b o e).2
    have hi' : i < ds.length := by omega
    have hj' : j < ds.length := by omega
    obtain ⟨x, hx, rx⟩ := r.get (i := i) (d := ds[i]) (by simp [hi'])
    obtain ⟨y, hy, ry⟩ := r.get (i := j) (d := ds[j]) (by simp [hj'])
    obtain ⟨ux, hux, vx⟩ := v.get hx
    obtain ⟨uy, huy, vy⟩ := v.get hy
    have e1 : us.getD i Value.none = ux := by rw [List.getD_eq_getElem?_getD, hux]; rfl
    have e2 : us.getD j Value.none = uy := by rw [List.getD_eq_getElem?_getD, huy]; rfl
    have m1 : ds[i] ∈ ds := List.getElem_mem hi'
    have m2 : ds[j] ∈ ds := List.getElem_mem hj'
    rw [e1, e2]
    obtain ⟨rr, er⟩ := cmpD_at hc m1 m2
    refine key_lt I1 hA (cmpD_ok hc m1) (cmpD_ok hc m2) (List.all_eq_true.mp hk _ m1) (List.all_eq_true.mp hk _ m2) rx ry vx vy er ?_
    have g1 : atG ds i = ds[i] := by unfold atG; exact getD_lt _ _ hi'
    have g2 : atG ds j = ds[j] := by unfold atG; exact getD_lt _ _ hj'
    simp only [g1, g2, er] at hC
    cases rr with
    | true => simpa using hC
    | false => simpa using hC
  · have hpl : ∀ i ∈ pp, i < ds.length := fun i hi => by rw [l1, l2]; exact List.mem_range.mp (hp.mem_iff.mp hi)
    have hp' : pp.Perm (List.range ds.length) := by rw [l1, l2]; exact hp
    have es := sorted_by hc hp' (fun i j hij hj => hs i j hij (by omega))
    have rz : Reps X.K B H (sortD ds) (pp.map fun i => ys.getD i .non) := by rw [← es]; exact r.getP pp hpl
    have vz := v.getP pp (fun i hi => by rw [← l1]; exact hpl i hi)
    have hlen : (pp.map fun i => ys.getD i V.non).length ≤ sizeLine := by rw [List.length_map, hp'.length_eq, List.length_range, sizeLine_eq]; omega
    have hfr : H h1.objs.size = none := I.hok.fresh hsz
    refine ⟨_, rfl, wpAny_pure ⟨_, rfl, .ref h1.objs.size, _, I.laid (a := h1.objs.size) (o := .lst (pp.map fun i => ys.getD i .non)) (h' := h') (t' := t1) (fun b o e => kp b o (k2 b o e).1 (k2 b o e).2) hsz ?_, rfl, q _ _ hfr rz⟩⟩
    exact ⟨hlen, _, cc, vz, g⟩
theorem call_sorted {c : KD} (hu : X.A.units + 64 < cLine) : CallR X (.builtin "sorted") (fun xs H Q => ∃ B p ds ys, xs = [.ref p] ∧ SqL X.K H p ys ∧ Reps X.K B H ds ys ∧ ds.length < 64 ∧ cmpD ds = true ∧ ds.all (isKD c) = true ∧
    ∀ l zs, H l = none → Reps X.K B H (sortD ds) zs → Q (.ref l) (upd H l (.lst zs))) := by
  intro pins s σ H xs us Q I r h
  obtain ⟨B, p, ds, ys, rfl, hq, rs, h64, hc, hk, q⟩ := h
  obtain ⟨u, rfl, rx⟩ := vals1 r
  cases rx
  obtain ⟨its, rv, pl, hz⟩ := I.list hq
  have l1 := rs.length
  have l2 := rv.length
  refine Calls.call_function_entry kind_sorted plain_sorted entry_sorted (args_sorted1 _) ?_
  unfold Builtin.«sorted»
  refine wpAny_bind (m := checkCount "sorted" 1 1 _) (wpAny_pure (wpAny_bind (collect_list pl.isList ?_ (by rw [sizeLine_eq]; omega))))
  have hsz : ((s.heap.push (seqObj "list" #[] 0)).update s.heap.objs.size (Obj.mapSeq (· ++ its.toArray))).objs.size = s.heap.objs.size + 1 := by
    rw [Heap.size_update, size_push']
  refine sorted_tail (t1 := s.toks) hu I (fun b o e => ?_) (by rw [hsz]; omega) rs rv h64 hc hk q
  exact (Heap.get?_update_other _ _ (Nat.ne_of_gt (Heap.lt_size e))).trans (Heap.get?_push_of_some _ e)
def sortO (c : KD) (x : Option D) : Option D := match x with | some (.lst ds) => if (decide (ds.length < 64) && cmpD ds && ds.all (isKD c)) = true then some (.lst (sortD ds)) else none | _ => none
theorem sortO_eq {c : KD} {ds : List D} (h1 : ds.length < 64) (h2 : cmpD ds = true) (h3 : ds.all (isKD c) = true) : sortO c (some (.lst ds)) = some (.lst (sortD ds)) := by
  unfold sortO
  have : (decide (ds.length < 64) && cmpD ds && ds.all (isKD c)) = true := by rw [decide_eq_true h1, h2, h3]; rfl
  simp only [this, if_true]
theorem df_sorted {c : KD} (hu : X.A.units + 64 < cLine) (g : Gl X "sorted") (hm : X.mg "sorted" = none) (ha : DE X false a fa) (hs : starEach [a] X.env = [(false, eval a X.env)] := by rfl) : DF X (.Call (.Name "sorted" p) [a] [] pos) (fun δ => sortO c (fa δ)) :=
  (pe_callB (call_sorted (c := c) hu) g hm bt_sorted (pa_cons ha pa_nil hs) (he := hs)).imp fun σ H Q ⟨B, Hk, δ, d, R, e, k⟩ => by
    unfold sortO at e
    dsimp only at e
    split at e
    · rename_i ds qd
      by_cases cc : (decide (ds.length < 64) && cmpD ds && ds.all (isKD c)) = true
      · rw [if_pos cc] at e; cases e
        rw [Bool.and_eq_true, Bool.and_eq_true] at cc
        obtain ⟨⟨c1, c2⟩, c3⟩ := cc
        refine oneA R qd fun v H' s R' r => ?_
        simp only [Rep] at r
        obtain ⟨l, xs, rfl, hq, rs⟩ := r
        refine ⟨_, l, ds, xs, rfl, hq.sq, rs, of_decide_eq_true c1, c2, c3, fun l' zs hl rz => ?_⟩
        have s2 := same_upd (o := .lst zs) hl
        exact k l' _ (s.trans s2) (s.free hl) ⟨_, upd_same, rz.same (m := false) R' s2⟩
      · rw [if_neg cc] at e; cases e
    · cases e
end
end L2

end

section
set_option maxHeartbeats 1000000
namespace L2
open PySem PySem.Spec PyProof.Rows PySem.W

theorem entry_upd_loop : entryFor table "dict.update.loop" = some Builtin.«dict.update.loop» := entryFor_of_tree (by kernel_rfl)
theorem plain_upd_loop : plainId "dict.update.loop" = true := by decide +kernel
theorem keys_none : typeLookup (.type "list") "keys" = pure none := by rw [typeLookup_type, builtinLookup_eq_fast]; kernel_rfl

theorem no_keys {prog : Program} {w : World} {A : Around} {E : Value → Shared → Prop} {s : Shared} {a : Addr} {o : Obj} {xs : Array Value} {k : Nat} {Q : Option Value → Shared → Prop}
    (hx : s.heap.get? a = some o) (hc : o.cls = .type "list") (hdat : o.data = .seq xs k) (hd : o.dict = none) (hA : A.handled = none)
    (h : ∀ h' tk, (∀ b o, s.heap.get? b = some o → h'.get? b = some o) → Q none { s with heap := h', toks := tk }) : wpAny (model prog w) A (getAttr? (.ref a) "keys") Q E s := by
  obtain ⟨c, dct, dat, sl⟩ := o
  simp only at hc hdat hd
  subst hc hdat hd
  obtain ⟨hp, g, d, tk, os⟩ := s
  have hT : ∀ tk', (⟨hp, g, d, tk', os⟩ : Shared).TypeIs (.ref a) "list" := fun _ => ⟨_, hx, rfl⟩
  have f1 := sub_AttributeError
  have f3 := F.slot_list_getattribute.lookup
  have f4 := F.slot_list_getattribute.bind (.ref a)
  have f5 := am_list_getattr_none
  unfold getAttr? getAttrBy? getAttrBy
  repeat (any_goals (first | assumption | exact hT _ | ((with_reducible show wpAny _ _ (call (Value.builtin "list.__getattribute__") _ _) _ _ _); refine call_meets F.slot_list_getattribute (hT _) am_entry_list_getattribute (F.args_list_getattribute_2 _ _) (meets_getattribute_miss_list a xs k sl _ _ keys_none (by decide) (by decide)) ⟨hx, hA, fun h' tk' e hx' => ?_⟩) | wp_step))
  obtain ⟨t', u', he⟩ := hx'.there
  show wpAny _ _ (getattributeRaised _ _ _ _ _ _ _) _ _ _
  unfold getattributeRaised
  repeat (any_goals (first | assumption | wp_step))
  exact h _ _ hx'.keeps

section
variable {X : Cx} {pins : List (Addr × Obj)} {σ : St} {H : Hp} {s : Shared} {A : Around} {E : Value → Shared → Prop}

theorem d_dictSet {d b : Addr} {kvs : List (List Key × V)} {k : List Key} {v : V} {r : Value} {Q : Unit → Shared → Prop} (hu : A.units < cLine) (I : Inv X pins σ H s) (e : H d = some (.dT kvs)) (eb : H b = some (.tup (k.map kV))) (l : kvs.length < sizeLine) (rv : RelV v r)
    (h : ∀ h' tk, Heap.SameBut d s.heap h' → Inv X pins σ (upd H d (.dT (putK kvs k v))) { s with heap := h', toks := tk } → Q () { s with heap := h', toks := tk }) : wpAny (model X.prog X.w) A (dictSet d (.ref b) r) Q E s := by
  obtain ⟨z, hd, xs, rel, dd⟩ := dt_of I.hok e
  have hz : xs.length ≤ sizeLine := by rw [← Paired.length rel]; exact z
  have hl : (putK kvs k v).length ≤ sizeLine := by have := length_putK kvs k v; omega
  refine wpAny_dictSet_heap (hsz := hz) hu (key_of I.hok eb) dd fun h' dd' hs => h h' _ hs ?_
  obtain ⟨q, es, ep, hq, h2, h3, h4, _, h5⟩ := dd'
  refine d_write I (by rw [e]; exact True.intro) hs ⟨q, hq⟩ ⟨hl, hd, _, (rel.put k eb rv).keeps fun c ys ec => ?_, q, es, ep, hq, h2, h3, h4, h5⟩
  rw [upd_ne (ne_of ec e (fun z => nomatch z))]
  exact ec

def PairAt (H : Hp) (y : V) (p : List Key × V) : Prop := ∃ b kb, y = .ref b ∧ H b = some (.tup [.ref kb, p.2]) ∧ H kb = some (.tup (p.1.map kV))
theorem PairAt.upd {y : V} {p : List Key × V} {d : Addr} {kvs : List (List Key × V)} {o : HO} (h : PairAt H y p) (e : H d = some (.dT kvs)) : PairAt (L2.upd H d o) y p := by
  obtain ⟨b, kb, h1, h2, h3⟩ := h
  exact ⟨b, kb, h1, by rw [upd_ne (ne_of h2 e (fun z => nomatch z))]; exact h2, by rw [upd_ne (ne_of h3 e (fun z => nomatch z))]; exact h3⟩
def putAll (kvs : List (List Key × V)) (ps : List (List Key × V)) : List (List Key × V) := ps.foldl (fun m p => putK m p.1 p.2) kvs
theorem putAll_len (ps : List (List Key × V)) : ∀ kvs : List (List Key × V), (putAll kvs ps).length ≤ kvs.length + ps.length := by
  induction ps with
  | nil => intro kvs; exact Nat.le_refl _
  | cons p ps ih =>
    intro kvs
    have := ih (putK kvs p.1 p.2)
    have := length_putK kvs p.1 p.2
    show (putAll (putK kvs p.1 p.2) ps).length ≤ _
    rw [List.length_cons]
    omega
theorem SqL.updD {K : PySem.W.Frag} {l d : Addr} {ys : List V} {kvs : List (List Key × V)} {o : HO} (h : SqL K H l ys) (e : H d = some (.dT kvs)) : SqL K (upd H d o) l ys := by
  rcases h with (h | ⟨ob, h⟩) | h
  · exact .inl (.inl (by rw [upd_ne (ne_of h e (fun z => nomatch z))]; exact h))
  · exact .inl (.inr ⟨ob, by rw [upd_ne (ne_of h e (fun z => nomatch z))]; exact h⟩)
  · exact .inr h
theorem dict_loop {d l it : Addr} {R : Result → Shared → Prop} (hu : A.units + 1 < cLine) (hh : A.handled = none) (ps : List (List Key × V)) (ys : List V) (hlen : ys.length = ps.length) :
    ∀ (n i : Nat) (t : Tok) (H : Hp) (s : Shared) (kvs : List (List Key × V)), i + n = ps.length → Inv X pins σ H s → H d = some (.dT kvs) → kvs.length + n < lim → SqL X.K H l ys → (∀ (j : Nat) y p, ys[j]? = some y → ps[j]? = some p → PairAt H y p) → s.heap.IsListIter it l i → FpOk X pins H it → it ≠ d →
      (∀ H' s', Inv X pins σ H' s' → H' = upd H d (.dT (putAll kvs (ps.drop i))) → R (.ok (.ret .none)) s') →
      codeAny (model X.prog X.w) A (.builtin "dict.update.loop" ⟨[.ref d, .ref it, .int i t, .none], []⟩) R s := by
  intro n
  induction n with
  | zero =>
    intro i t H s kvs hi I e hl hq hp st hf hne hR
    refine codeAny_builtin entry_upd_loop ?_
    rw [Around.under_plainId plain_upd_loop _]
    obtain ⟨its, rv, pl, hz⟩ := I.list hq
    have hll := rv.length
    show wpAny _ A.in1 (pyNext (.ref it) >>= _) _ _ s
    obtain ⟨f0, f1, f2, f3, f4, f5⟩ := hf
    refine wpAny_bind (wpAny_pyNext_list_end hh st pl.isList (by simp; omega) fun h' eb => ?_)
    show wpAny _ A.in1 (Builtin.Dict.addKeywords d [] >>= fun _ => ret .none) _ _ _
    refine wpAny_bind (wpAny_pure (wpAny_pure (hR H _ (I.turned (t' := s.toks) (fun b o hb e => eb b o hb e) f0 f1 f3 f4 f5) ?_)))
    rw [List.drop_of_length_le (by omega)]
    show H = upd H d (.dT kvs)
    funext b
    by_cases hb : b = d
    · subst hb; rw [upd_same]; exact e
    · rw [upd_ne hb]
  | succ n ih =>
    intro i t H s kvs hi I e hl hq hp st hf hne hR
    refine codeAny_builtin entry_upd_loop ?_
    rw [Around.under_plainId plain_upd_loop _]
    obtain ⟨its, rv, pl, hz⟩ := I.list hq
    have hip : i < ps.length := by omega
    have hiy : i < ys.length := by omega
    obtain ⟨b, kb, ey, hb, hkb⟩ := hp i ys[i] ps[i] (by simp [hiy]) (by simp [hip])
    obtain ⟨u, hu1, ru⟩ := rv.get (i := i) (x := ys[i]) (by simp [hiy])
    rw [ey] at ru
    cases ru
    show wpAny _ A.in1 (pyNext (.ref it) >>= _) _ _ s
    obtain ⟨f0, f1, f2, f3, f4, f5⟩ := id hf
    refine wpAny_bind (wpAny_pyNext_list_item st pl.isList (x := .ref b) (by simpa using hu1) fun h' st' sb => ?_)
    have I1 : Inv X pins σ H { s with heap := h' } := I.turned (t' := s.toks) (fun b o hb e => (sb.2 b hb).trans e) f0 f1 f3 f4 f5
    obtain ⟨tz, tis, tv, ⟨to, tg, tc, tn, td⟩⟩ := (show ObjOk X.prog X.w H h' b (.tup [.ref kb, ps[i].2]) from I1.hok b _ hb)
    obtain ⟨ku, vu, rfl, rk, rvv⟩ := Vals.two tv
    cases rk
    refine wpAny_bind (wpAny_holding (wpAny_bind ?_))
    refine wpAny_tryCatch ?_
    unfold Builtin.Dict.pairItems
    refine wpAny_bind (wpAny_typeOf (show Shared.TypeIs { s with heap := h' } (.ref b) "tuple" from ⟨_, tg, tc⟩) ?_)
    rw [if_pos (by decide)]
    unfold seqItems?
    refine wpAny_bind (wpAny_bind (wpAny_load tg ?_))
    rw [td]
    refine wpAny_pure (wpAny_pure ?_)
    show wpAny _ A.in1 (holding [Value.ref kb, vu] (dictSet d (.ref kb) vu)) _ _ _
    refine wpAny_holding (d_dictSet (by show A.units + 1 < cLine; exact hu) I1 e hkb (by have := lim_line (Nat.le_refl lim); omega) rvv fun h2 tk2 hs2 I2 => ?_)
    refine wpAny_pure ⟨plainId_quiet plain_upd_loop _, ?_⟩
    have hlen2 := length_putK kvs ps[i].1 ps[i].2
    refine ih (i + 1) 0 (upd H d (.dT (putK kvs ps[i].1 ps[i].2))) _ (putK kvs ps[i].1 ps[i].2) (by omega) I2 upd_same (by omega) (hq.updD e) (fun j y p h1 h2 => (hp j y p h1 h2).upd e) ?_ ?_ hne ?_
    · obtain ⟨o, ho, hc, hd'⟩ := st'
      exact ⟨o, (hs2.2 it hne).trans ho, hc, hd'⟩
    · refine ⟨by rw [upd_ne hne]; exact f0, f1, f2, f3, f4, f5⟩
    · intro H' s' I' eH
      refine hR H' s' I' ?_
      rw [eH, upd_upd, List.drop_eq_getElem_cons hip]
      rfl
end
end L2

end

section
set_option maxHeartbeats 1000000
namespace L2
open PySem PySem.Spec PyProof.Rows PySem.W

section
variable {X : Cx}
theorem call_dictP (hc : X.calm = true) (hu : X.A.units + 64 < cLine) : CallR X (.type "dict") (fun xs H Q => ∃ (l : Addr) (ys : List V) (ps : List (List Key × V)), xs = [.ref l] ∧ SqL X.K H l ys ∧ ys.length = ps.length ∧ ps.length < lim ∧
    (∀ (j : Nat) y p, ys[j]? = some y → ps[j]? = some p → PairAt H y p) ∧ ∀ d, H d = none → Q (.ref d) (upd H d (.dT (putAll [] ps)))) := by
  intro pins s σ H xs us Q I r h
  obtain ⟨l, ys, ps, rfl, hq, hl, hlim, hp, q⟩ := h
  obtain ⟨u, rfl, rx⟩ := vals1 r
  cases rx
  have hh : X.A.handled = none := I.ok.hd hc
  refine callType_codes (Q₁ := fun obj s₁ => obj = .ref s.heap.objs.size ∧ s₁ = { s with heap := s.heap.push { cls := .type "dict", data := .dict #[] } }) F.kt_called_dict (F.kt_typeCall_dict_1 _) F.entry_dict_init (kt_code_dict_new _ ⟨rfl, rfl⟩) ?_
  rintro obj s₁ ⟨rfl, rfl⟩
  have hfr : H s.heap.objs.size = none := I.fresh
  have I1 : Inv X pins σ (upd H s.heap.objs.size (.dT [])) { s with heap := s.heap.push { cls := .type "dict", data := .dict #[] } } :=
    I.laid (t' := s.toks) (fun _ _ q => Heap.get?_push_of_some _ q) (Nat.le_refl _) (dt_empty s.heap I.big)
  have hT : Shared.TypeIs { s with heap := s.heap.push { cls := .type "dict", data := .dict #[] } } (.ref s.heap.objs.size) "dict" := ⟨_, Heap.get?_push_size _ rfl, rfl⟩
  have sm : Same H (upd H s.heap.objs.size (.dT [])) := same_upd hfr
  have hq1 : SqL X.K (upd H s.heap.objs.size (.dT [])) l ys := sm.seq hq
  obtain ⟨its, rv, ⟨ol, nl, hol, hcl, hdl, hsl⟩, hz⟩ := I1.list hq1
  refine ⟨hT, F.args_dict_init_2 _ _, ?_⟩
  unfold Builtin.«dict.__init__»
  refine wpAny_bind ?_
  unfold Builtin.Dict.selfAndRest
  refine wpAny_bind (wpAny_notOrdered_dict hT ?_)
  show wpAny _ _ (pure (s.heap.objs.size, [Value.ref l])) _ _ _
  refine wpAny_pure ?_
  show wpAny _ _ (Builtin.Dict.updateFrom "dict.__init__" s.heap.objs.size (.ref l) [] .none) _ _ _
  unfold Builtin.Dict.updateFrom
  refine wpAny_bind (wpAny_typeOf (show Shared.TypeIs { s with heap := s.heap.push { cls := .type "dict", data := .dict #[] } } (.ref l) "list" from ⟨_, hol, hcl⟩) ?_)
  rw [if_pos (by decide)]
  refine wpAny_bind (no_keys hol hcl hsl hdl (by simp [hh]) fun h2 tk2 kp2 => ?_)
  have I2 : Inv X pins σ (upd H s.heap.objs.size (.dT [])) { s with heap := h2, toks := tk2 } := I1.kept kp2
  rw [if_pos (by decide)]
  refine wpAny_bind (wpAny_rule ?_)
  have pl2 : h2.IsList l its.toArray := ⟨ol, kp2 _ _ hol, hcl, nl, hsl⟩
  refine wpAny_bind (wpAny_pyIter_list pl2 ?_)
  refine wpAny_pure ⟨plainId_quiet plain_upd_loop _, ?_⟩
  have I3 : Inv X pins σ (upd H s.heap.objs.size (.dT [])) { s with heap := h2.push { cls := .type "list_iterator", data := .fields #[.ref l, .int 0 0] }, toks := tk2 } := I2.kept fun b o e => Heap.get?_push_of_some _ e
  have hlt : s.heap.objs.size < h2.objs.size := Heap.lt_size (kp2 _ _ (Heap.get?_push_size (h := s.heap) (o := { cls := .type "dict", data := .dict #[] }) rfl))
  have fp : FpOk X pins (upd H s.heap.objs.size (.dT [])) h2.objs.size := I2.fpOk (Nat.le_refl _) (I2.hok.fresh (Nat.le_refl _))
  refine dict_loop (X := X) (A := X.A.in1) (by show X.A.units + 1 + 1 < cLine; omega) (by simp [hh]) ps ys hl ps.length 0 0 (upd H s.heap.objs.size (.dT [])) _ [] (by omega) I3 upd_same (by simpa using hlim) hq1 (fun j y p h1 h2' => ?_) ⟨_, Heap.get?_push_size _ rfl, rfl, rfl⟩ fp (Nat.ne_of_gt hlt) ?_
  · obtain ⟨b, kb, e1, e2, e3⟩ := hp j y p h1 h2'
    exact ⟨b, kb, e1, sm _ _ e2, sm _ _ e3⟩
  · intro H' s' I' eH
    rw [upd_upd, List.drop_zero] at eH
    subst eH
    exact ⟨rfl, ⟨.ref s.heap.objs.size, _, I', rfl, q _ hfr⟩⟩
end

def keyOf1 : D → Option Key
  | .int i => some (.inl i)
  | .str x => some (.inr x)
  | _ => none
def keysOf : List D → Option (List Key)
  | [] => some []
  | d :: ds => (match keyOf1 d, keysOf ds with | some k, some ks => some (k :: ks) | _, _ => none)
def keyT : D → Option (List Key)
  | .tup ds => keysOf ds
  | _ => none
theorem keysOf_rep {K : PySem.W.Frag} {B : Addr → Prop} {H : Hp} : ∀ {ds : List D} {ks : List Key} {xs : List V}, keysOf ds = some ks → Reps K B H ds xs → xs = ks.map kV
  | [], ks, xs, h, r => by
    simp only [keysOf, Option.some.injEq] at h; subst h
    simp only [Reps] at r; exact r
  | d :: ds, ks, xs, h, r => by
    simp only [keysOf] at h
    simp only [Reps] at r
    obtain ⟨x, t, rfl, r1, r2⟩ := r
    split at h
    · rename_i k ks' q1 q2
      cases h
      rw [List.map_cons, keysOf_rep q2 r2]
      congr 1
      cases d <;> simp only [keyOf1, Option.some.injEq, reduceCtorEq] at q1
      · subst q1; simp only [Rep] at r1; exact r1
      · subst q1; simp only [Rep] at r1; exact r1
    · cases h
theorem keyT_rep {K : PySem.W.Frag} {B : Addr → Prop} {H : Hp} {d : D} {ks : List Key} {x : V} (h : keyT d = some ks) (r : Rep K B H d x) : ∃ b, x = .ref b ∧ H b = some (.tup (ks.map kV)) := by
  cases d with
  | tup ds =>
    simp only [Rep] at r
    obtain ⟨b, xs, rfl, hb, rs⟩ := r
    rw [keysOf_rep h rs] at hb
    exact ⟨b, rfl, hb⟩
  | _ => simp [keyT] at h
def lookD (k : List Key) : List (List Key) → List D → Option D
  | a :: ks, d :: ds => if a = k then some d else lookD k ks ds
  | _, _ => none
theorem lookD_rep {K : PySem.W.Frag} {B : Addr → Prop} {H : Hp} (k : List Key) : ∀ {kvs : List (List Key × V)} {ds : List D}, Reps K B H ds (kvs.map (·.2)) →
    (lookD k (kvs.map (·.1)) ds = none ∧ valV kvs k = none) ∨ ∃ d v, lookD k (kvs.map (·.1)) ds = some d ∧ valV kvs k = some v ∧ Rep K B H d v
  | [], ds, r => .inl ⟨by cases ds <;> rfl, rfl⟩
  | p :: kvs, ds, r => by
    cases ds with
    | nil => simp only [List.map_cons, Reps] at r; cases r
    | cons d ds =>
      obtain ⟨r1, r2⟩ := r.uncons
      simp only [List.map_cons, lookD]
      by_cases e : p.1 = k
      · rw [if_pos e, valV_pos e]; exact .inr ⟨d, p.2, rfl, rfl, r1⟩
      · rw [if_neg e, valV_neg e]; exact lookD_rep k r2
def getDO (x k y : Option D) : Option D := match x, k, y with | some (.dT ks vs), some d, some z => (match keyT d with | some kk => some ((lookD kk ks vs).getD z) | none => none) | _, _, _ => none
section
variable {X : Cx} {m m' mm : Bool} {a b c : Expr} {fa fb fc : DEnv → Option D} {pos apos cpos : Pos}

theorem de_get (hu : X.A.units + 64 < cLine) (ha : DE X m a fa) (hb : DE X m b fb) (hc : DE X m c fc)
    (base : attributeBase a "get" X.env (eval a X.env) = eval a X.env := by rfl)
    (few : ((backTo cpos (starEach [b, c] X.env)).all (fun x => !x.1) && (backToKw cpos (keywordEach [] X.env)).all (fun x => x.1.isSome)
      && decide (([b, c] : List Expr).length + ([] : List Keyword).length + (if ([] : List Keyword).isEmpty then 0 else 1) < 30)) = true := by rfl)
    (line : (apos.endLine == cpos.line) = true := by rfl) (trees : backTo cpos (starEach [b, c] X.env) = [(false, eval b X.env), (false, eval c X.env)] := by rfl) :
    DE X m (.Call (.Attribute a "get" apos) [b, c] [] cpos) (fun δ => getDO (fa δ) (fb δ) (fc δ)) :=
  (pe_dget2 (by omega) ha hb hc ⟨base, few, line, trees⟩).imp fun σ H Q ⟨B, Hk, δ, d, R, e, k⟩ => by
    unfold getDO at e
    dsimp only at e
    split at e
    · rename_i ks vs dk z q1 q2 q3
      split at e
      · rename_i kk qk
        cases e
        refine ⟨B, Hk, δ, _, R, q1, fun v H1 s1 r1 => ?_⟩
        simp only [Rep] at r1
        obtain ⟨p, kvs, rfl, hd, hk, rs⟩ := r1
        have rd : ∀ {H2 : Hp}, Same H1 H2 → Rd H2 p (.dT kvs) := fun {H2} s => by
          rcases hd with ⟨_, hd⟩ | ⟨o, hd⟩
          · exact .inl (s _ _ hd)
          · exact .inr ⟨o, s _ _ hd⟩
        refine ⟨p, rfl, .inr ⟨kvs, rd (Same.refl _)⟩, B, Hk, δ, _, R.to s1, q2, fun y H2 s2 r2 => ⟨B, Hk, δ, _, R.to (s1.trans s2), q3, fun w H3 s3 r3 => ?_⟩⟩
        obtain ⟨bb, rfl, hbb⟩ := keyT_rep qk (r2.same (R.to (s1.trans s2)) s3)
        refine ⟨valV kvs kk, .inr ⟨kvs, kk, bb, rd (s2.trans s3), rfl, hbb, rfl⟩, ?_⟩
        have rs3 := rs.same (R.to s1) (s2.trans s3)
        have s13 := s1.trans (s2.trans s3)
        subst hk
        rcases lookD_rep kk rs3 with ⟨l1, l2⟩ | ⟨d', v', l1, l2, l3⟩
        · rw [l2]; rw [l1] at k; exact k w H3 s13 r3
        · rw [l2]; rw [l1] at k; exact k v' H3 s13 l3
      · cases e
    · cases e

def pairD : D → Option (List Key × D)
  | .tup [k, v] => (match keyT k with | some ks => some (ks, v) | none => none)
  | _ => none
def pairsD : List D → Option (List (List Key × D))
  | [] => some []
  | d :: ds => (match pairD d, pairsD ds with | some p, some ps => some (p :: ps) | _, _ => none)
def putP (m : List (List Key × D)) (k : List Key) (v : D) : List (List Key × D) := if (m.any fun kv => decide (kv.1 = k)) = true then m.map (fun kv => if kv.1 = k then (kv.1, v) else kv) else m ++ [(k, v)]
def putsP (m ps : List (List Key × D)) : List (List Key × D) := ps.foldl (fun m p => putP m p.1 p.2) m
def dictO (x : Option D) : Option D := match x with | some (.lst ds) => (match pairsD ds with | some ps => if ds.length < lim then some (.dT ((putsP [] ps).map (·.1)) ((putsP [] ps).map (·.2))) else none | none => none) | _ => none
def Prs (K : PySem.W.Frag) (B : Addr → Prop) (H : Hp) (m : List (List Key × D)) (kvs : List (List Key × V)) : Prop := m.map (·.1) = kvs.map (·.1) ∧ Reps K B H (m.map (·.2)) (kvs.map (·.2))
theorem Prs.nil {K : PySem.W.Frag} {B : Addr → Prop} {H : Hp} : Prs K B H [] [] := ⟨rfl, Reps.nil⟩
theorem Prs.cons {K : PySem.W.Frag} {B : Addr → Prop} {H : Hp} {p : List Key × D} {q : List Key × V} {m : List (List Key × D)} {kvs : List (List Key × V)} (h1 : p.1 = q.1) (h2 : Rep K B H p.2 q.2) (t : Prs K B H m kvs) : Prs K B H (p :: m) (q :: kvs) :=
  ⟨by rw [List.map_cons, List.map_cons, h1, t.1], Reps.cons h2 t.2⟩
theorem Prs.uncons {K : PySem.W.Frag} {B : Addr → Prop} {H : Hp} {p : List Key × D} {m : List (List Key × D)} {kvs : List (List Key × V)} (t : Prs K B H (p :: m) kvs) : ∃ q r, kvs = q :: r ∧ p.1 = q.1 ∧ Rep K B H p.2 q.2 ∧ Prs K B H m r := by
  obtain ⟨t1, t2⟩ := t
  cases kvs with
  | nil => simp at t1
  | cons q r =>
    simp only [List.map_cons, List.cons.injEq] at t1
    rw [List.map_cons, List.map_cons] at t2
    obtain ⟨u1, u2⟩ := t2.uncons
    exact ⟨q, r, rfl, t1.1, u1, t1.2, u2⟩
theorem Prs.any {K : PySem.W.Frag} {B : Addr → Prop} {H : Hp} (k : List Key) : ∀ {m : List (List Key × D)} {kvs : List (List Key × V)}, Prs K B H m kvs → (m.any fun kv => decide (kv.1 = k)) = kvs.any fun kv => decide (kv.1 = k)
  | [], kvs, t => by
    obtain ⟨t1, _⟩ := t
    have : kvs = [] := by cases kvs with | nil => rfl | cons q r => simp at t1
    subst this; rfl
  | p :: m, kvs, t => by
    obtain ⟨q, r, rfl, h1, _, h3⟩ := t.uncons
    rw [List.any_cons, List.any_cons, h1, Prs.any k h3]
theorem Prs.repl {K : PySem.W.Frag} {B : Addr → Prop} {H : Hp} {k : List Key} {d : D} {v : V} (r : Rep K B H d v) : ∀ {m : List (List Key × D)} {kvs : List (List Key × V)}, Prs K B H m kvs → Prs K B H (m.map fun kv => if kv.1 = k then (kv.1, d) else kv) (kvs.map fun kv => if kv.1 = k then (kv.1, v) else kv)
  | [], kvs, t => by
    obtain ⟨t1, _⟩ := t
    have : kvs = [] := by cases kvs with | nil => rfl | cons q r => simp at t1
    subst this; exact Prs.nil
  | p :: m, kvs, t => by
    obtain ⟨q, rr, rfl, h1, h2, h3⟩ := t.uncons
    rw [List.map_cons, List.map_cons]
    by_cases e : p.1 = k
    · rw [if_pos e, if_pos (h1.symm.trans e)]; exact Prs.cons h1 r (Prs.repl r h3)
    · rw [if_neg e, if_neg (fun z => e (h1.trans z))]; exact Prs.cons h1 h2 (Prs.repl r h3)
theorem Prs.put {K : PySem.W.Frag} {B : Addr → Prop} {H : Hp} {k : List Key} {d : D} {v : V} {m : List (List Key × D)} {kvs : List (List Key × V)} (t : Prs K B H m kvs) (r : Rep K B H d v) : Prs K B H (putP m k d) (putK kvs k v) := by
  unfold putP putK
  rw [t.any k]
  by_cases e : (kvs.any fun kv => decide (kv.1 = k)) = true
  · rw [if_pos e, if_pos e]; exact Prs.repl r t
  · rw [if_neg e, if_neg e]
    obtain ⟨t1, t2⟩ := t
    exact ⟨by rw [List.map_append, List.map_append, t1]; rfl, by rw [List.map_append, List.map_append]; exact t2.append (Reps.cons r Reps.nil)⟩
theorem Prs.puts {K : PySem.W.Frag} {B : Addr → Prop} {H : Hp} : ∀ {ps : List (List Key × D)} {qs : List (List Key × V)} {m : List (List Key × D)} {kvs : List (List Key × V)}, Prs K B H ps qs → Prs K B H m kvs → Prs K B H (putsP m ps) (putAll kvs qs)
  | [], qs, m, kvs, t, u => by
    obtain ⟨t1, _⟩ := t
    have : qs = [] := by cases qs with | nil => rfl | cons q r => simp at t1
    subst this; exact u
  | p :: ps, qs, m, kvs, t, u => by
    obtain ⟨q, r, rfl, h1, h2, h3⟩ := t.uncons
    show Prs K B H (putsP (putP m p.1 p.2) ps) (putAll (putK kvs q.1 q.2) r)
    rw [h1]
    exact Prs.puts h3 (u.put h2)
theorem pairs_rep {K : PySem.W.Frag} {B : Addr → Prop} {H : Hp} : ∀ {ds : List D} {ps : List (List Key × D)} {ys : List V}, pairsD ds = some ps → Reps K B H ds ys → ∃ qs, Prs K B H ps qs ∧ ys.length = qs.length ∧ ∀ (j : Nat) y p, ys[j]? = some y → qs[j]? = some p → PairAt H y p
  | [], ps, ys, h, r => by
    simp only [pairsD, Option.some.injEq] at h; subst h
    simp only [Reps] at r; subst r
    exact ⟨[], Prs.nil, rfl, fun j y p h => by simp at h⟩
  | d :: ds, ps, ys, h, r => by
    simp only [pairsD] at h
    simp only [Reps] at r
    obtain ⟨y, yt, rfl, r1, r2⟩ := r
    split at h
    · rename_i p ps' q1 q2
      cases h
      obtain ⟨qs, t1, t2, t3⟩ := pairs_rep q2 r2
      match d, q1 with
      | .tup [k, v], q1 =>
        simp only [pairD] at q1
        split at q1
        · rename_i ks qk
          cases q1
          simp only [Rep] at r1
          obtain ⟨b, xs, rfl, hb, rs⟩ := r1
          simp only [Reps] at rs
          obtain ⟨kx, xt, rfl, rk, vx, xt2, rfl, rv, rfl⟩ := rs
          obtain ⟨kb, rfl, hkb⟩ := keyT_rep qk rk
          refine ⟨(ks, vx) :: qs, Prs.cons rfl rv t1, by simp [t2], fun j y p h1 h2 => ?_⟩
          cases j with
          | zero => simp at h1 h2; subst h1 h2; exact ⟨b, kb, rfl, hb, hkb⟩
          | succ j => exact t3 j y p (by simpa using h1) (by simpa using h2)
        · cases q1
    · cases h
theorem pairsD_len : ∀ {ds : List D} {ps : List (List Key × D)}, pairsD ds = some ps → ps.length = ds.length
  | [], ps, h => by simp only [pairsD, Option.some.injEq] at h; subst h; rfl
  | d :: ds, ps, h => by
    simp only [pairsD] at h
    split at h
    · rename_i p ps' q1 q2; cases h; rw [List.length_cons, List.length_cons, pairsD_len q2]
    · cases h
theorem df_dict (hc : X.calm = true) (hu : X.A.units + 64 < cLine) {p : Pos} (g : Gl X "dict") (hm : X.mg "dict" = none) (ha : DE X false a fa) (hs : starEach [a] X.env = [(false, eval a X.env)] := by rfl) : DF X (.Call (.Name "dict" p) [a] [] pos) (fun δ => dictO (fa δ)) :=
  (pe_callTy (call_dictP hc hu) g hm bt_dict (pa_cons ha pa_nil hs) (he := hs)).imp fun σ H Q ⟨B, Hk, δ, d, R, e, k⟩ => by
    unfold dictO at e
    dsimp only at e
    split at e
    · rename_i ds qd
      split at e
      · rename_i ps qp
        by_cases hl : ds.length < lim
        · rw [if_pos hl] at e; cases e
          refine oneA R qd fun v H' s R' r => ?_
          simp only [Rep] at r
          obtain ⟨l, ys, rfl, hq, rs⟩ := r
          obtain ⟨qs, t1, t2, t3⟩ := pairs_rep qp rs
          refine ⟨l, ys, qs, rfl, hq.sq, t2, by rw [← t2, ← rs.length]; exact hl, t3, fun dd hd => ?_⟩
          have s2 := same_upd (o := .dT (putAll [] qs)) hd
          have pp : Prs X.K B H' (putsP [] ps) (putAll [] qs) := Prs.puts t1 Prs.nil
          exact k dd _ (s.trans s2) (s.free hd) ⟨_, upd_same, pp.1.symm, pp.2.same (m := false) R' s2⟩
        · rw [if_neg hl] at e; cases e
      · cases e
    · cases e
end
end L2

end

section
set_option maxHeartbeats 1000000
namespace L2
open PySem PySem.Spec PyProof.Rows PySem.W

def strsD : List D → Option (List Str)
  | [] => some []
  | .str i :: ds => (match strsD ds with | some l => some (i :: l) | none => none)
  | _ => none
theorem strsD_map (ns : List Str) : strsD (ns.map D.str) = some ns := by
  induction ns with
  | nil => rfl
  | cons n ns ih => simp only [List.map_cons, strsD, ih]
theorem strsD_some : ∀ {ds : List D} {ns : List Str}, strsD ds = some ns → ds = ns.map D.str
  | [], ns, h => by simp only [strsD, Option.some.injEq] at h; subst h; rfl
  | .str i :: ds, ns, h => by
    simp only [strsD] at h
    cases q : strsD ds with
    | none => rw [q] at h; cases h
    | some l =>
      rw [q] at h
      simp only [Option.some.injEq] at h
      subst h
      rw [List.map_cons, strsD_some q]
  | .non :: ds, ns, h => by simp [strsD] at h
  | .bl _ :: ds, ns, h => by simp [strsD] at h
  | .int _ :: ds, ns, h => by simp [strsD] at h
  | .tup _ :: ds, ns, h => by simp [strsD] at h
  | .lst _ :: ds, ns, h => by simp [strsD] at h
  | .dT _ _ :: ds, ns, h => by simp [strsD] at h
  | .dK _ _ :: ds, ns, h => by simp [strsD] at h
theorem Reps.strs {K : PySem.W.Frag} {B : Addr → Prop} {H : Hp} : ∀ {ns : List Str} {xs : List V}, Reps K B H (ns.map D.str) xs → xs = ns.map V.str
  | [], xs, h => by simpa only [List.map_nil, Reps] using h
  | n :: ns, xs, h => by
    simp only [List.map_cons, Reps] at h
    obtain ⟨x, r, rfl, h1, h2⟩ := h
    simp only [Rep] at h1
    rw [List.map_cons, h1, Reps.strs h2]
theorem strsAre_of {ns : List Str} : ∀ {us : List Value}, Vals (ns.map V.str) us → StrsAre us ns := by
  induction ns with
  | nil => intro us r; rw [List.map_nil] at r; cases r; exact .nil
  | cons n ns ih =>
    intro us r
    rw [List.map_cons] at r
    cases r with
    | cons r1 r2 =>
      obtain ⟨t, e⟩ := r1
      subst e
      exact .cons n t (ih r2)
section
variable {X : Cx} {m m' mm : Bool} {a b : Expr} {fa fb : DEnv → Option D} {pos p apos cpos : Pos}
theorem mt_join : MtM X "str.join" (fun x vs H Q => ∃ (z : Str) (p : Addr) (ys : List Str), x = .str z ∧ vs = [.ref p] ∧ SqL X.K H p (ys.map V.str) ∧ (ys.map (·.length)).sum + ys.length * z.length ≤ 16777216 ∧ Q (.str (Txt.join z ys)) H) := by
  intro pins s σ H x vs v us Q I rx rv h
  obtain ⟨z, p, ys, rfl, rfl, hq, hl, q⟩ := h
  obtain ⟨t, rfl⟩ := rx
  obtain ⟨u, rfl, ru⟩ := rv.one
  cases ru
  obtain ⟨its, r, pl, hz⟩ := I.list hq
  exact join_list pl.isList (by simpa using strsAre_of r) hl fun t' k => ⟨.str _, H, I.tok k, ⟨t', rfl⟩, q⟩
def joinO (x y : Option D) : Option D := match x, y with | some (.str z), some (.lst ds) => (match strsD ds with | some ys => if (ys.map (·.length)).sum + ys.length * z.length ≤ 16777216 then some (.str (Txt.join z ys)) else none | none => none) | _, _ => none
theorem de_join (ha : DE X m a fa) (hb : DE X m' b fb) (hbase : attributeBase a "join" X.env (eval a X.env) = eval a X.env := by rfl)
    (hfew : ((backTo cpos (starEach [b] X.env)).all (fun x => !x.1) && (backToKw cpos (keywordEach [] X.env)).all (fun x => x.1.isSome) && decide (([b]).length + ([] : List Keyword).length + (if ([] : List Keyword).isEmpty then 0 else 1) < 30)) = true := by rfl)
    (hline : (apos.endLine == cpos.line) = true := by rfl) (hs : starEach [b] X.env = (false, eval b X.env) :: starEach [] X.env := by rfl) : DE X mm (.Call (.Attribute a "join" apos) [b] [] cpos) (fun δ => joinO (fa δ) (fb δ)) :=
  (pe_bm PySem.F.plainAttrs_str PySem.F.slot_str_join PySem.F.type_str_join mt_join ha (pa_cons hb pa_nil hs) hbase hfew hline hs).imp fun σ H Q ⟨B, Hk, δ, d, R, e, k⟩ => by
    unfold joinO at e
    dsimp only at e
    split at e
    · rename_i z ds q1 q2
      split at e
      · rename_i ys qs
        obtain rfl := strsD_some qs
        by_cases c : (ys.map (·.length)).sum + ys.length * z.length ≤ 16777216
        · rw [if_pos c] at e; cases e
          refine ⟨B, Hk, δ, _, R, q1, fun v H1 s1 r1 => ?_⟩
          simp only [Rep] at r1
          subst r1
          refine ⟨rfl, oneA (R.to s1) q2 fun w H2 s2 R2 r2 => ?_⟩
          simp only [Rep] at r2
          obtain ⟨l, xs, rfl, hq, rs⟩ := r2
          obtain rfl := rs.strs
          exact ⟨z, l, ys, rfl, rfl, hq.sq, c, k _ H2 (s1.trans s2) (by simp only [Rep])⟩
        · rw [if_neg c] at e; cases e
      · cases e
    · cases e
theorem mt_find : MtM X "str.find" (fun x vs H Q => ∃ (z y : Str), x = .str z ∧ vs = [.str y] ∧ Q (.int (Txt.find z y)) H) := by
  intro pins s σ H x vs v us Q I rx rv h
  obtain ⟨z, y, rfl, rfl, q⟩ := h
  obtain ⟨t, rfl⟩ := rx
  obtain ⟨u, rfl, ru⟩ := rv.one
  obtain ⟨t', rfl⟩ := ru
  exact SC.find ⟨.int _, H, I.tok _, ⟨_, rfl⟩, q⟩
def findO (x y : Option D) : Option D := match x, y with | some (.str z), some (.str w) => some (.int (Txt.find z w)) | _, _ => none
theorem de_find (ha : DE X m a fa) (hb : DE X m' b fb) (hbase : attributeBase a "find" X.env (eval a X.env) = eval a X.env := by rfl)
    (hfew : ((backTo cpos (starEach [b] X.env)).all (fun x => !x.1) && (backToKw cpos (keywordEach [] X.env)).all (fun x => x.1.isSome) && decide (([b]).length + ([] : List Keyword).length + (if ([] : List Keyword).isEmpty then 0 else 1) < 30)) = true := by rfl)
    (hline : (apos.endLine == cpos.line) = true := by rfl) (hs : starEach [b] X.env = (false, eval b X.env) :: starEach [] X.env := by rfl) : DE X mm (.Call (.Attribute a "find" apos) [b] [] cpos) (fun δ => findO (fa δ) (fb δ)) :=
  (pe_bm PySem.F.plainAttrs_str PySem.F.slot_str_find PySem.F.type_str_find mt_find ha (pa_cons hb pa_nil hs) hbase hfew hline hs).imp fun σ H Q ⟨B, Hk, δ, d, R, e, k⟩ => by
    unfold findO at e
    dsimp only at e
    split at e
    · rename_i z y q1 q2
      cases e
      refine ⟨B, Hk, δ, _, R, q1, fun v H1 s1 r1 => ?_⟩
      simp only [Rep] at r1
      subst r1
      refine ⟨rfl, oneA (R.to s1) q2 fun w H2 s2 R2 r2 => ?_⟩
      simp only [Rep] at r2
      subst r2
      exact ⟨z, y, rfl, rfl, k _ H2 (s1.trans s2) (by simp only [Rep])⟩
    · cases e

theorem lst_add_m (l : Addr) (items : Array Value) (n : Nat) (b : Addr) (items2 : Array Value) (n2 : Nat) (s1 s2 : Array (Option Value)) (hc0 : items.size + items2.size ≤ sizeLine) :
    Meets (Builtin.«list.__add__» ⟨[.ref l, .ref b], []⟩) (fun _ R s => s.heap.get? l = some ⟨.type "list", none, .seq items n, s1⟩ ∧ s.heap.get? b = some ⟨.type "list", none, .seq items2 n2, s2⟩ ∧ R (.ok (.ret (Value.ref s.heap.objs.size))) { s with heap := s.heap.push { cls := Value.type "list", data := Data.seq (items ++ items2) } }) :=
  .of_wp fun prog w A R s h => by
    obtain ⟨hp, g, d, tk, os⟩ := s
    obtain ⟨hl, hb, h⟩ := h
    have f1 := AutoSeq1.idx_int; have f2 := AutoSeq1.sub_tuple_tuple; have f3 := AutoSeq1.sub_list_list; have f4 := AutoSeq1.sub_tuple_list; have f5 := AutoSeq1.sub_list_tuple
    wp_walk using AutoSeq1.wpAny_loadPart' hl, AutoSeq1.wpAny_loadPart' hb
    exact ⟨_, rfl, h⟩
theorem add_lists {P : Program} {w : World} {A : Around} {E : Value → Shared → Prop} {s : Shared} {l b : Addr} {its its2 : Array Value} {Q : Value → Shared → Prop} (hl : PlainL s.heap l its) (hb : PlainL s.heap b its2)
    (h : Q (.ref s.heap.objs.size) { s with heap := s.heap.push { cls := .type "list", data := .seq (its ++ its2) } }) (hsz : its.size + its2.size ≤ sizeLine) : wpAny (model P w) A (binaryOp .Add (.ref l) (.ref b)) Q E s := by
  obtain ⟨⟨c1, d1, a1, s1⟩, n1, e1, rfl, rfl, rfl⟩ := hl
  obtain ⟨⟨c2, d2, a2, s2⟩, n2, e2, rfl, rfl, rfl⟩ := hb
  exact concat_meets ⟨_, e1, rfl⟩ ⟨_, e2, rfl⟩ noFill_list_add seq_list_add F.slot_list_add F.entry_list_add (F.args_list_add_2 _ _) (lst_add_m l its n1 b its2 n2 s1 s2 hsz) ⟨e1, e2, h⟩
theorem op_catS : OpR X (binaryOp .Add) (fun x y H Q => ∃ l b xs zs, x = .ref l ∧ y = .ref b ∧ SqL X.K H l xs ∧ SqL X.K H b zs ∧ xs.length + zs.length ≤ sizeLine ∧ ∀ p, H p = none → Q (.ref p) (upd H p (.lst (xs ++ zs)))) := by
  intro pins s σ H x y v u Q I rx ry h
  obtain ⟨l, b, xs, zs, rfl, rfl, hH, hB, hz, q⟩ := h
  cases rx
  cases ry
  obtain ⟨its, r, pl, _⟩ := I.list hH
  obtain ⟨its2, r2, pl2, _⟩ := I.list hB
  have hl := r.length
  have hl2 := r2.length
  refine add_lists pl pl2 ?_ (by rw [List.size_toArray, List.size_toArray]; omega)
  have ea : its.toArray ++ its2.toArray = (its ++ its2).toArray := by simp
  rw [ea]
  exact ⟨.ref _, _, I.lnew (t' := s.toks) (r.append r2) (by rw [List.length_append]; omega), rfl, q _ I.fresh⟩
def catO (x y : Option D) : Option D := match x, y with | some (.lst i), some (.lst j) => if i.length + j.length ≤ lim then some (.lst (i ++ j)) else none | _, _ => none
theorem df_cat (ha : DE X false a fa) (hb : DE X false b fb) : DF X (.BinOp a .Add b pos) (fun δ => catO (fa δ) (fb δ)) :=
  (pe_op op_catS ha hb).imp fun σ H Q ⟨B, Hk, δ, d, R, e, k⟩ => by
    unfold catO at e
    dsimp only at e
    split at e
    · rename_i i j q1 q2
      by_cases hz : i.length + j.length ≤ lim
      · rw [if_pos hz] at e; cases e
        refine two R q1 q2 fun v u H' s R' r1 r2 => ?_
        simp only [Rep] at r1 r2
        obtain ⟨c, xs, rfl, hq, rs⟩ := r1
        obtain ⟨c2, xs2, rfl, hq2, rs2⟩ := r2
        refine ⟨c, c2, xs, xs2, rfl, rfl, hq.sq, hq2.sq, by rw [← rs.length, ← rs2.length]; exact lim_line hz, fun p hp => ?_⟩
        have s2 := same_upd (o := .lst (xs ++ xs2)) hp
        exact k p _ (s.trans s2) (s.free hp) ⟨_, upd_same, (rs.append rs2).same (m := false) R' s2⟩
      · rw [if_neg hz] at e; cases e
    · cases e
def extO (i : Nat) (x : Option D) (δ : DEnv) : Option Out := match rdOwn i δ, x with | some (.lst ds), some (.lst es) => if ds.length + es.length ≤ lim then some (.next (δ.set i (some (.lst (ds ++ es), true)))) else none | _, _ => none
theorem extO_some {i : Nat} {x : Option D} {δ : DEnv} {o : Out} (h : extO i x δ = some o) : ∃ ds es, δ[i]? = some (some (.lst ds, true)) ∧ x = some (.lst es) ∧ ds.length + es.length ≤ lim ∧ o = .next (δ.set i (some (.lst (ds ++ es), true))) := by
  unfold extO at h
  split at h
  · rename_i ds d q
    by_cases hl : ds.length + d.length ≤ lim
    · rw [if_pos hl] at h; cases h; exact ⟨ds, d, rdOwn_some q, rfl, hl, rfl⟩
    · rw [if_neg hl] at h; cases h
  · cases h
theorem ds_extend {i : Nat} {x : Str} {px apos cpos : Pos} (ha : DF X a fa) (hN : X.N[i]? = some x := by rfl) (hv : Vis X.env.scope x := by first | exact Or.inl rfl | exact Or.inr (Or.inl rfl) | exact Or.inr (Or.inr rfl))
    (hbase : attributeBase (.Name x px) "extend" X.env (eval (.Name x px) X.env) = eval (.Name x px) X.env := by rfl)
    (hfew : ((backTo cpos (starEach [a] X.env)).all (fun x => !x.1) && (backToKw cpos (keywordEach [] X.env)).all (fun x => x.1.isSome) && decide (([a]).length + ([] : List Keyword).length + (if ([] : List Keyword).isEmpty then 0 else 1) < 30)) = true := by rfl)
    (hline : (apos.endLine == cpos.line) = true := by rfl) (hs : starEach [a] X.env = (false, eval a X.env) :: starEach [] X.env := by rfl) (hd : (x == ("__debug__" : Str)) = false := by decide) (hcd : (x == ("__classdict__" : Str)) = false := by decide)
    (hsw : swapsWith (.Call (.Attribute (.Name x px) "extend" apos) [a] [] cpos) none pos.line X.env = pure false := by rfl) : DS X (.Expr (.Call (.Attribute (.Name x px) "extend" apos) [a] [] cpos) pos) (fun δ => extO i (fa δ) δ) :=
  (ps_expr (pe_bm PySem.F.plainAttrs_list PySem.F.slot_list_extend PySem.F.type_list_extend mt_extend (pe_var hN hv hd hcd) (pa_cons ha pa_nil hs) hbase hfew hline hs) hsw).imp fun Dn σ H ⟨B, Hk, δ, o, R, e, k⟩ => by
    obtain ⟨ds, es, h1, e1, hl, rfl⟩ := extO_some e
    obtain ⟨l, h2, h3, xs, h4, h5⟩ := R.own i _ h1
    refine ⟨.ref l, h2, .inl ⟨rfl, xs, SqL.of h4⟩, B, Hk, δ, _, R, e1, fun p H' s hp ob => ?_⟩
    have R' := R.to s
    have h4' := s l _ h4
    have h5' : Reps X.K B H' ds xs := h5.ext (R.ext s)
    obtain ⟨zs, h6, h7⟩ := ob
    obtain ⟨x1, x2⟩ := R'.lset (ds' := ds ++ es) (xs' := xs ++ zs) h1 h2 h4' (h5'.append h7)
    exact ⟨l, p, xs, zs, rfl, rfl, h4', h6, by rw [← h5.length, ← h7.length]; exact lim_line hl, k σ _ ((R.ext s).trans x1) x2⟩
end
end L2

end

section
set_option maxHeartbeats 1000000
namespace L2
open PySem PySem.Spec PyProof.Rows

def chkComp (osc : Scope) (scope : Scope) (N : List Str) (bs : List Bool) : Bool :=
  decide (scope.kind = .function) && scope.names.all (fun y => !decide (y.2 = .cell)) && scope.names.all (fun y => !decide (y.2 = .local) || decide (scope.names.lookup y.1 = some .local)) &&
  scope.names.all (fun y => !decide (y.2 = .free) || (decide (scope.names.lookup y.1 = some .free) && (decide (osc.names.lookup y.1 = some .cell) || decide (osc.names.lookup y.1 = some .free)))) &&
  decide (bs.length = N.length) && (N.zip bs).all (fun p => !p.2 || decide (scope.names.lookup p.1 = some .free))
theorem compScope_of {X : Cx} {osc scope : Scope} {N : List Str} {bs : List Bool} (h1 : X.env.scope = osc) (h2 : X.N = N) (h : chkComp osc scope N bs = true) : CompScope X scope bs := by
  unfold chkComp at h
  simp only [Bool.and_eq_true, decide_eq_true_eq] at h
  obtain ⟨⟨⟨⟨⟨a, b⟩, c⟩, d⟩, e⟩, f⟩ := h
  refine ⟨a, fun y hy z => ?_, fun y hy z => ?_, fun y hy z => ?_, by rw [h2]; exact e, fun i x hx hb => ?_⟩
  · have := List.all_eq_true.mp b y hy
    rw [decide_eq_true z] at this; cases this
  · have := List.all_eq_true.mp c y hy
    rw [decide_eq_true z] at this
    simpa using this
  · have := List.all_eq_true.mp d y hy
    rw [decide_eq_true z] at this
    simp only [Bool.not_true, Bool.false_or, Bool.and_eq_true, Bool.or_eq_true, decide_eq_true_eq] at this
    refine ⟨this.1, ?_⟩
    unfold Env.kindOf
    rw [h1]
    exact this.2
  · rw [h2] at hx
    have hz : (N.zip bs)[i]? = some (x, true) := by rw [List.getElem?_zip_eq_some]; exact ⟨hx, hb⟩
    have := List.all_eq_true.mp f _ (List.mem_of_getElem? hz)
    simpa using this
end L2

end

section
set_option maxHeartbeats 1000000
namespace L2
open PySem PySem.Spec PyProof.Rows

structure Nm (X : Cx) (i : Nat) (x : Str) : Prop where
  at' : X.N[i]? = some x
  vis : Vis X.env.scope x
  d1 : (x == ("__debug__" : Str)) = false
  d2 : (x == ("__classdict__" : Str)) = false
structure Lc (X : Cx) (i : Nat) (x : Str) : Prop where
  at' : X.N[i]? = some x
  loc : Loc X.env.scope x
  fnl : X.fn x = true ∨ X.env.scope.names.lookup x = some .local
structure Gb (X : Cx) (x : Str) : Prop where
  gl : Gl X x
  d1 : (x == ("__debug__" : Str)) = false
def kVis : Option NameKind → Bool
  | some .local => true | some .cell => true | some .free => true | _ => false
def kLoc : Option NameKind → Bool
  | some .local => true | some .cell => true | _ => false
def nmB (N : List Str) (sc : Scope) (i : Nat) (x : Str) : Bool := decide (N[i]? = some x) && kVis (sc.names.lookup x) && !(x == ("__debug__" : Str)) && !(x == ("__classdict__" : Str))
def lcB (N : List Str) (sc : Scope) (i : Nat) (x : Str) : Bool := decide (N[i]? = some x) && kLoc (sc.names.lookup x)
def lclB (N : List Str) (sc : Scope) (i : Nat) (x : Str) : Bool := decide (N[i]? = some x) && decide (sc.names.lookup x = some .local)
def gbB (sc : Scope) (x : Str) : Bool := decide (sc.names.lookup x = some .globalImplicit) && !(x == ("__debug__" : Str))
theorem kVis_vis {sc : Scope} {x : Str} (h : kVis (sc.names.lookup x) = true) : Vis sc x := by
  unfold kVis at h
  split at h
  · rename_i e; exact .inl e
  · rename_i e; exact .inr (.inl e)
  · rename_i e; exact .inr (.inr e)
  · cases h
theorem kLoc_loc {sc : Scope} {x : Str} (h : kLoc (sc.names.lookup x) = true) : Loc sc x := by
  unfold kLoc at h
  split at h
  · rename_i e; exact .inl e
  · rename_i e; exact .inr e
  · cases h

structure Has (X : Cx) (N : List Str) (sc : Scope) : Prop where
  n : X.N = N
  sc : X.env.scope = sc
  calm : X.calm = true
  nd : X.N.Nodup
theorem Has.nm {X : Cx} {N : List Str} {sc : Scope} {i : Nat} {x : Str} (h : Has X N sc) (b : nmB N sc i x = true) : Nm X i x := by
  unfold nmB at b
  simp only [Bool.and_eq_true, decide_eq_true_eq, Bool.not_eq_true'] at b
  exact ⟨by rw [h.n]; exact b.1.1.1, by rw [h.sc]; exact kVis_vis b.1.1.2, b.1.2, b.2⟩
theorem Has.lc {X : Cx} {N : List Str} {sc : Scope} {i : Nat} {x : Str} (h : Has X N sc) (hf : ∀ x, X.fn x = true) (b : lcB N sc i x = true) : Lc X i x := by
  unfold lcB at b
  simp only [Bool.and_eq_true, decide_eq_true_eq] at b
  exact ⟨by rw [h.n]; exact b.1, by rw [h.sc]; exact kLoc_loc b.2, .inl (hf x)⟩
theorem Has.lcl {X : Cx} {N : List Str} {sc : Scope} {i : Nat} {x : Str} (h : Has X N sc) (b : lclB N sc i x = true) : Lc X i x := by
  unfold lclB at b
  simp only [Bool.and_eq_true, decide_eq_true_eq] at b
  exact ⟨by rw [h.n]; exact b.1, by rw [h.sc]; exact .inl b.2, .inr (by rw [h.sc]; exact b.2)⟩
theorem Has.gb {X : Cx} {N : List Str} {sc : Scope} {x : Str} (h : Has X N sc) (b : gbB sc x = true) : Gb X x := by
  unfold gbB at b
  simp only [Bool.and_eq_true, decide_eq_true_eq, Bool.not_eq_true'] at b
  refine ⟨?_, b.2⟩
  unfold Gl Env.kindOf
  rw [h.sc]; exact b.1
def relS (scope sc : Scope) : Scope :=
  { scope with names := scope.names.map fun (n, k) => if (k == .free && sc.kind == .function && sc.names.lookup n == some .cell) then (n, .cell) else (n, k) }
theorem relS_of {scope sc : Scope} {env : Env} (h : env.scope = sc) : relabel scope env = relS scope sc := by subst h; rfl
theorem Has.comp {X : Cx} {N : List Str} {sc : Scope} (h : Has X N sc) (scope : Scope) (cl : List (Str × Addr)) (C : Addr) (s₂ : Shared) (H₂ : Hp) (ex : List Addr) (pn : List (Addr × Obj)) : Has (cxComp X scope cl C s₂ H₂ ex pn) N (relS scope sc) :=
  ⟨h.n, relS_of h.sc, h.calm, h.nd⟩
theorem CompScope.of' {X : Cx} {N : List Str} {sc scope : Scope} {bs : List Bool} (h : Has X N sc) (b : chkComp sc scope N bs = true) : CompScope X scope bs := compScope_of h.sc h.n b
section
variable {X : Cx} {m m' mm : Bool} {a b e : Expr} {es : List Expr} {fa fb : DEnv → Option D} {fs : DEnv → Option (List D)} {pos p : Pos} {k : Nat} {x : Str} {f : List D → Option (D × Bool)} {i : Nat}
theorem nv (m : Bool) (n : Nm X i x) : DE X m (.Name x pos) (rd m i) := de_var n.at' n.vis n.d1 n.d2
theorem ds_set' {pos' : Pos} (n : X.N.Nodup) (l : Lc X i x) (ha : DE X false a fa) (hs : swapsWith a (some (.Name x pos')) pos.line X.env = pure false := by rfl) : DS X (.Assign [.Name x pos'] a pos) (fun δ => setO i (fa δ) δ) := ds_set (i := i) (x := x) (pos := pos) (pos' := pos') n ha l.at' l.loc hs l.fnl
theorem ds_setF' {pos' : Pos} (n : X.N.Nodup) (l : Lc X i x) (ha : DF X a fa) (hs : swapsWith a (some (.Name x pos')) pos.line X.env = pure false := by rfl) : DS X (.Assign [.Name x pos'] a pos) (fun δ => setF i (fa δ) δ) := ds_setF (i := i) (x := x) (pos := pos) (pos' := pos') n ha l.at' l.loc hs l.fnl
theorem dg_name' (n : X.N.Nodup) (l : Lc X i x) : DG X (.Name x pos) (toName i) := dg_name n l.at' l.loc l.fnl
theorem ds_retv' {px : Pos} (n : Nm X i x) : DS X (.Return (some (.Name x px)) pos) (fun δ => retF (rdOwn i δ)) := ds_retv (i := i) (x := x) (px := px) (pos := pos) n.at' n.vis n.d1 n.d2
theorem de_ixv' {px : Pos} (n : Nm X i x) (hb : DE X m' b fb) (hs : PlainIx b := by exact fun _ _ => rfl) : DE X false (.Subscript (.Name x px) b pos) (fun δ => ixO (rd true i δ) (fb δ)) := de_ixv hb n.at' n.vis hs n.d1 n.d2
theorem de_call' (F : FnM X.prog X.w X.K X.mg X.base k x f) (hr : Room k X.A) (g : Gb X x) (ha : DA X m (e :: es) fs) (he : starEach (e :: es) X.env = (false, eval e X.env) :: starEach es X.env := by rfl)
    (hpl : (backTo pos (starEach es X.env)).any (·.1) = false := by rfl) : DE X m (.Call (.Name x p) (e :: es) [] pos) (fun δ => shO (bindO (fs δ) f)) := de_call F hr g.gl ha g.d1 he hpl
theorem df_call' (F : FnM X.prog X.w X.K X.mg X.base k x f) (hr : Room k X.A) (g : Gb X x) (ha : DA X false (e :: es) fs) (he : starEach (e :: es) X.env = (false, eval e X.env) :: starEach es X.env := by rfl)
    (hpl : (backTo pos (starEach es X.env)).any (·.1) = false := by rfl) : DF X (.Call (.Name x p) (e :: es) [] pos) (fun δ => frO (bindO (fs δ) f)) := df_call (p := p) F hr g.gl ha g.d1 he hpl
theorem df_callF' (F : FnM X.prog X.w X.K X.mg X.base k x f) (hr : Room k X.A) (g : Gb X x) (ha : DA X true (e :: es) fs) (he : starEach (e :: es) X.env = (false, eval e X.env) :: starEach es X.env := by rfl)
    (hpl : (backTo pos (starEach es X.env)).any (·.1) = false := by rfl) : DF X (.Call (.Name x p) (e :: es) [] pos) (fun δ => flO (bindO (fs δ) f)) := df_callF (p := p) F hr g.gl ha g.d1 he hpl
theorem de_len' {p : Pos} (g : Gb X "len") (hm : X.mg "len" = none) (ha : DE X m a fa) (hs : starEach [a] X.env = [(false, eval a X.env)] := by rfl) : DE X mm (.Call (.Name "len" p) [a] [] pos) (fun δ => lenL (fa δ)) := de_len g.gl hm ha hs g.d1
variable {apos cpos px : Pos}
theorem ds_append' (n : Nm X i x) (ha : DE X false a fa)
    (hbase : attributeBase (.Name x px) "append" X.env (eval (.Name x px) X.env) = eval (.Name x px) X.env := by rfl)
    (hfew : ((backTo cpos (starEach [a] X.env)).all (fun x => !x.1) && (backToKw cpos (keywordEach [] X.env)).all (fun x => x.1.isSome) && decide (([a]).length + ([] : List Keyword).length + (if ([] : List Keyword).isEmpty then 0 else 1) < 30)) = true := by rfl)
    (hline : (apos.endLine == cpos.line) = true := by rfl) (hs : starEach [a] X.env = (false, eval a X.env) :: starEach [] X.env := by rfl)
    (hsw : swapsWith (.Call (.Attribute (.Name x px) "append" apos) [a] [] cpos) none pos.line X.env = pure false := by rfl) : DS X (.Expr (.Call (.Attribute (.Name x px) "append" apos) [a] [] cpos) pos) (fun δ => appO i (fa δ) δ) :=
  ds_append ha n.at' n.vis hbase hfew hline hs n.d1 n.d2 hsw
theorem ds_extend' (n : Nm X i x) (ha : DF X a fa)
    (hbase : attributeBase (.Name x px) "extend" X.env (eval (.Name x px) X.env) = eval (.Name x px) X.env := by rfl)
    (hfew : ((backTo cpos (starEach [a] X.env)).all (fun x => !x.1) && (backToKw cpos (keywordEach [] X.env)).all (fun x => x.1.isSome) && decide (([a]).length + ([] : List Keyword).length + (if ([] : List Keyword).isEmpty then 0 else 1) < 30)) = true := by rfl)
    (hline : (apos.endLine == cpos.line) = true := by rfl) (hs : starEach [a] X.env = (false, eval a X.env) :: starEach [] X.env := by rfl)
    (hsw : swapsWith (.Call (.Attribute (.Name x px) "extend" apos) [a] [] cpos) none pos.line X.env = pure false := by rfl) : DS X (.Expr (.Call (.Attribute (.Name x px) "extend" apos) [a] [] cpos) pos) (fun δ => extO i (fa δ) δ) :=
  ds_extend ha n.at' n.vis hbase hfew hline hs n.d1 n.d2 hsw

def swB (sc scope : Scope) (t : Str) (l1 l2 : Nat) : Bool :=
  ((if sc.kind.isAnnotationScope then ScopeKind.function else sc.kind) == .function) && sc.names.lookup t == some .local && l1 == l2 && !(scope.names.any fun (n, k) => n == t && (k == .local || k == .cell))
theorem swaps_comp {N : List Str} {sc scope : Scope} {c : Bool} {elt : Expr} {gens : List Comprehension} {pos' : Pos} {l : Nat} (h : Has X N sc) (q : swB sc scope x pos'.line pos.line = c) :
    swapsWith (.ListComp elt gens scope pos) (some (.Name x pos')) l X.env = pure c := by
  subst q
  unfold swB
  rw [← h.sc]
  rfl
variable {elt tg iter : Expr} {ifs : List Expr} {scope : Scope} {bo : Bool} {fi : DEnv → Option (List D)} {τ : D → DEnv → Option DEnv} {ft : DEnv → Option Bool} {fe : DEnv → Option D} {bs : List Bool}
theorem lc_lookup {y : Str} {N : List Str} {sc : Scope} (h : Has X N sc) (b : decide (sc.names.lookup y = some .local) = true) : X.env.scope.names.lookup y = some .local := by rw [h.sc]; exact of_decide_eq_true b
theorem ds_setc' {y : Str} {py spos : Pos} {N : List Str} {sc : Scope} (h : Has X N sc) (l : Lc X i y) (hτ : Anew τ) (hi : DI X false tg iter fi) (S : CompScope X scope bs)
    (hg : ∀ cl C s₂ H₂ ex pn, DG (cxComp X scope cl C s₂ H₂ ex pn) tg τ) (ht : ∀ cl C s₂ H₂ ex pn, DTs (cxComp X scope cl C s₂ H₂ ex pn) ifs ft) (he : ∀ cl C s₂ H₂ ex pn, DE (cxComp X scope cl C s₂ H₂ ex pn) false elt fe)
    (b1 : decide (sc.names.lookup y = some .local) = true) (b2 : swB sc scope y py.line pos.line = true)
    (hs : ∀ x, foldedSetIterable iter X.env x = pure x := by intro _; rfl) : DS X (.Assign [.Name y py] (.ListComp elt [⟨tg, iter, ifs, 0⟩] scope pos) spos) (fun δ => setF i (lstLim (bindO (fi δ) (runC false bs τ ft fe δ))) δ) :=
  ds_setc h.nd h.calm hτ hi S hg ht he l.at' (lc_lookup h b1) (swaps_comp h b2) hs
theorem ds_setcF' {y : Str} {py spos : Pos} {N : List Str} {sc : Scope} (h : Has X N sc) (l : Lc X i y) (hτ : Anew τ) (hi : DI X true tg iter fi) (S : CompScope X scope bs)
    (hg : ∀ cl C s₂ H₂ ex pn, DG (cxComp X scope cl C s₂ H₂ ex pn) tg τ) (ht : ∀ cl C s₂ H₂ ex pn, DTs (cxComp X scope cl C s₂ H₂ ex pn) ifs ft) (he : ∀ cl C s₂ H₂ ex pn, DE (cxComp X scope cl C s₂ H₂ ex pn) false elt fe)
    (b1 : decide (sc.names.lookup y = some .local) = true) (b2 : swB sc scope y py.line pos.line = true)
    (hs : ∀ x, foldedSetIterable iter X.env x = pure x := by intro _; rfl) : DS X (.Assign [.Name y py] (.ListComp elt [⟨tg, iter, ifs, 0⟩] scope pos) spos) (fun δ => setF i (lstLim (flatsO (bindO (fi δ) (runC true bs τ ft fe δ)))) δ) :=
  ds_setcF h.nd h.calm hτ hi S hg ht he l.at' (lc_lookup h b1) (swaps_comp h b2) hs
theorem iff_bool {a b : Bool} (h : a = b) : a = b := h
end
theorem hasX {P : Program} {w : World} {K : PySem.W.Frag} {mg : Str → Option Value} {base : Heap} {f : Addr} {cdv : Value} {A : Around} {outer : List Env} {s : Shared} {H : Hp} {E : XK} {N : List Str} {q : Str} {sc : Scope} (nd : N.Nodup) :
    Has (cxOf CX0 P w K mg base N q sc f cdv A outer s H E).nox N sc := ⟨rfl, rfl, rfl, nd⟩

theorem spM_law {K : PySem.W.Frag} {H : Hp} {a : Addr} {ns : List Int} {f : List D → Option (D × Bool)} (hS : SqL K H a (ns.map V.int)) (h : f [.lst (ns.map D.int)] = some (.bl true, false)) :
    spM K f [.ref a] H (fun v _ => v = .bl true) fun _ _ _ => False := by
  have hr : Reps K (fun b => ∃ o, H b = some o) H (ns.map D.int) (ns.map V.int) := by
    clear hS h
    induction ns with
    | nil => exact Reps.nil
    | cons n ns ih => exact Reps.cons (by simp only [Rep]) ih
  refine ⟨fun b => ∃ o, H b = some o, [.lst (ns.map D.int)], .bl true, false, fun _ h => h, Reps.cons ?_ Reps.nil, h, fun v H' _ r => ?_⟩
  · simp only [Rep]
    refine ⟨a, _, rfl, ?_, hr⟩
    rcases hS with (h1 | ⟨o, h1⟩) | h1
    · exact .inl ⟨⟨_, h1⟩, h1⟩
    · exact .inr (.inl ⟨o, h1⟩)
    · exact .inr (.inr h1)
  · unfold RepR at r
    rw [if_neg Bool.false_ne_true] at r
    simpa only [Rep] using r
end L2

end

section
set_option maxHeartbeats 1000000
namespace L2
open PySem

def Ris (xs : List Nat) : Prop := xs.Pairwise (· < ·)
theorem Ris.at {xs : List Nat} (h : Ris xs) {i j : Nat} (hij : i < j) (hj : j < xs.length) : xs[i]'(Nat.lt_trans hij hj) < xs[j] := (List.pairwise_iff_getElem.mp h) i j (Nat.lt_trans hij hj) hj hij
theorem getD_at (xs : Array Nat) (d : Nat) {i : Nat} (h : i < xs.size) : xs.getD i d = xs.toList[i]'(by simpa using h) := by
  simp [Array.getD, h]
theorem below_go {xs : Array Nat} (h : Ris xs.toList) (j : Nat) : ∀ (fuel lo hi : Nat), hi - lo ≤ fuel → lo ≤ hi → hi ≤ xs.size → (∀ i (hi' : i < xs.size), i < lo → xs[i] < j) → (∀ i (hi' : i < xs.size), hi ≤ i → j ≤ xs[i]) →
    (∀ i (hi' : i < xs.size), i < SetTable.below.go xs j fuel lo hi → xs[i] < j) ∧ (∀ i (hi' : i < xs.size), SetTable.below.go xs j fuel lo hi ≤ i → j ≤ xs[i]) ∧ SetTable.below.go xs j fuel lo hi ≤ xs.size
  | 0, lo, hi, h1, h2, h3, h4, h5 => by
    have : lo = hi := by omega
    subst this
    exact ⟨fun i hi' q => h4 i hi' q, fun i hi' q => h5 i hi' q, h3⟩
  | fuel + 1, lo, hi, h1, h2, h3, h4, h5 => by
    unfold SetTable.below.go
    by_cases hl : lo < hi
    · rw [if_pos hl]
      have hm1 : (lo + hi) / 2 < hi := by omega
      have hm2 : lo ≤ (lo + hi) / 2 := by omega
      have hm : (lo + hi) / 2 < xs.size := by omega
      have hg : xs.getD ((lo + hi) / 2) j = xs[(lo + hi) / 2] := by simp [Array.getD, hm]
      dsimp only
      rw [hg]
      have mono : ∀ a b (ha : a < xs.size) (hb : b < xs.size), a ≤ b → xs[a] ≤ xs[b] := fun a b ha hb hab => by
        rcases Nat.lt_or_eq_of_le hab with q | q
        · have := Ris.at h q (by simpa using hb)
          simp only [Array.getElem_toList] at this
          omega
        · subst q; exact Nat.le_refl _
      by_cases hq : xs[(lo + hi) / 2] < j
      · rw [if_pos hq]
        refine below_go h j fuel ((lo + hi) / 2 + 1) hi (by omega) (by omega) h3 (fun i hi' q => ?_) h5
        exact Nat.lt_of_le_of_lt (mono i ((lo + hi) / 2) hi' hm (by omega)) hq
      · rw [if_neg hq]
        refine below_go h j fuel lo ((lo + hi) / 2) (by omega) hm2 (by omega) h4 (fun i hi' q => ?_)
        exact Nat.le_trans (by omega) (mono ((lo + hi) / 2) i hm hi' q)
    · rw [if_neg hl]
      have : lo = hi := by omega
      subst this
      exact ⟨fun i hi' q => h4 i hi' q, fun i hi' q => h5 i hi' q, h3⟩
theorem below_of {xs : Array Nat} (h : Ris xs.toList) (j : Nat) : (∀ i (hi' : i < xs.size), i < SetTable.below xs j → xs[i] < j) ∧ (∀ i (hi' : i < xs.size), SetTable.below xs j ≤ i → j ≤ xs[i]) ∧ SetTable.below xs j ≤ xs.size :=
  below_go h j xs.size 0 xs.size (by omega) (Nat.zero_le _) (Nat.le_refl _) (fun i _ q => absurd q (Nat.not_lt_zero i)) fun i hi' q => absurd q (by omega)
theorem ris_ne {xs : Array Nat} (h : Ris xs.toList) {i k : Nat} (hi : i < xs.size) (hk : k < xs.size) (e : xs[i] = xs[k]) : i = k := by
  rcases Nat.lt_trichotomy i k with q | q | q
  · have := Ris.at h q (by simpa using hk); simp only [Array.getElem_toList] at this; omega
  · exact q
  · have := Ris.at h q (by simpa using hi); simp only [Array.getElem_toList] at this; omega

theorem below_at {xs : Array Nat} (h : Ris xs.toList) {i : Nat} (hi : i < xs.size) : SetTable.below xs xs[i] = i := by
  obtain ⟨h1, h2, h3⟩ := below_of h xs[i]
  rcases Nat.lt_trichotomy (SetTable.below xs xs[i]) i with q | q | q
  · have hb : SetTable.below xs xs[i] < xs.size := by omega
    have := h2 _ hb (Nat.le_refl _)
    have q2 := Ris.at h q (by simpa using hi)
    simp only [Array.getElem_toList] at q2
    omega
  · exact q
  · have := h1 i hi q; omega

theorem below_succ {xs : Array Nat} (h : Ris xs.toList) {i : Nat} (hi : i < xs.size) : SetTable.below xs (xs[i] + 1) = i + 1 := by
  obtain ⟨h1, h2, h3⟩ := below_of h (xs[i] + 1)
  rcases Nat.lt_trichotomy (SetTable.below xs (xs[i] + 1)) (i + 1) with q | q | q
  · have := h2 i hi (by omega); omega
  · exact q
  · have hb : i + 1 < xs.size := by omega
    have := h1 (i + 1) hb q
    have q2 := Ris.at h (show i < i + 1 by omega) (by simpa using hb)
    simp only [Array.getElem_toList] at q2
    omega
theorem ris_insert {xs : Array Nat} (h : Ris xs.toList) {j : Nat} (hj : ∀ i (hi : i < xs.size), xs[i] ≠ j) : Ris (SetTable.insertAt xs (SetTable.below xs j) j).toList := by
  obtain ⟨h1, h2, h3⟩ := below_of h j
  rw [SetTable.toList_insertAt]
  generalize SetTable.below xs j = p at h1 h2 h3 ⊢
  unfold Ris
  rw [List.pairwise_append, List.pairwise_cons]
  have hx := List.pairwise_iff_getElem.mp h
  have ht : ∀ a ∈ xs.toList.take p, a < j := fun a ha => by
    obtain ⟨i, hi, rfl⟩ := List.mem_iff_getElem.mp ha
    rw [List.length_take] at hi
    rw [List.getElem_take]
    have hi2 : i < xs.size := by have : xs.toList.length = xs.size := Array.length_toList; omega
    have := h1 i hi2 (by omega)
    simpa using this
  have hd : ∀ a ∈ xs.toList.drop p, j < a := fun a ha => by
    obtain ⟨i, hi, rfl⟩ := List.mem_iff_getElem.mp ha
    rw [List.length_drop] at hi
    rw [List.getElem_drop]
    have hi2 : p + i < xs.size := by have : xs.toList.length = xs.size := Array.length_toList; omega
    have := h2 (p + i) hi2 (by omega)
    have := hj (p + i) hi2
    simp only [Array.getElem_toList]
    omega
  refine ⟨h.sublist (List.take_sublist _ _), ⟨hd, h.sublist (List.drop_sublist _ _)⟩, fun a ha b hb => ?_⟩
  rcases List.mem_cons.mp hb with rfl | hb
  · exact ht a ha
  · exact Nat.lt_trans (ht a ha) (hd b hb)

theorem slot_live {t : SetTable} (h : Ris t.place.toList) {i : Nat} (hi : i < t.place.size) : t.slot t.place[i] = .live i := by
  unfold SetTable.slot
  dsimp only
  rw [below_at h hi]
  simp [hi]
theorem slot_not {t : SetTable} (h : Ris t.place.toList) (hd : t.dummies = #[]) {j : Nat} (hj : ∀ i (hi : i < t.place.size), t.place[i] ≠ j) : t.slot j = .empty := by
  unfold SetTable.slot
  dsimp only
  have : (t.place[SetTable.below t.place j]? == some j) = false := by
    cases q : t.place[SetTable.below t.place j]? with
    | none => rfl
    | some v =>
      obtain ⟨hi, e⟩ := Array.getElem?_eq_some_iff.mp q
      have := hj _ hi
      rw [e] at this
      simpa using this
  rw [this, hd]
  simp [SetTable.has]
theorem slot_some {t : SetTable} {j i : Nat} (h : t.slot j = .live i) : ∃ hi : i < t.place.size, t.place[i] = j := by
  unfold SetTable.slot at h
  dsimp only at h
  split at h
  · rename_i q
    cases h
    obtain ⟨hi, e⟩ := Array.getElem?_eq_some_iff.mp (beq_iff_eq.mp q)
    exact ⟨hi, e⟩
  · split at h <;> cases h
end L2

end

section
set_option maxHeartbeats 1000000
namespace L2
open PySem

def advN (t : SetTable) : Nat → SetTable.Probe → SetTable.Probe
  | 0, p => p
  | n + 1, p => advN t n (t.advance p)
theorem advN_succ (t : SetTable) (n : Nat) (p : SetTable.Probe) : advN t (n + 1) p = t.advance (advN t n p) := by
  induction n generalizing p with
  | zero => rfl
  | succ n ih => show advN t (n + 1) (t.advance p) = _; rw [ih]; rfl
theorem advN_add (t : SetTable) (m n : Nat) (p : SetTable.Probe) : advN t (m + n) p = advN t n (advN t m p) := by
  induction m generalizing p with
  | zero => rw [Nat.zero_add]; rfl
  | succ m ih => rw [Nat.succ_add]; show advN t (m + n) (t.advance p) = _; rw [ih]; rfl
theorem adv_dummy (t : SetTable) (p : SetTable.Probe) : (t.advance p).dummy = p.dummy := by
  unfold SetTable.advance; split <;> rfl
theorem advN_dummy (t : SetTable) (n : Nat) (p : SetTable.Probe) : (advN t n p).dummy = p.dummy := by
  induction n generalizing p with
  | zero => rfl
  | succ n ih => show (advN t n (t.advance p)).dummy = _; rw [ih, adv_dummy]
theorem adv_mask {t u : SetTable} (h : t.mask = u.mask) (p : SetTable.Probe) : t.advance p = u.advance p := by
  unfold SetTable.advance; rw [h]
theorem advN_mask {t u : SetTable} (h : t.mask = u.mask) (n : Nat) (p : SetTable.Probe) : advN t n p = advN u n p := by
  induction n generalizing p with
  | zero => rfl
  | succ n ih => show advN t n (t.advance p) = advN u n (u.advance p); rw [adv_mask h, ih]
theorem start_mask {t u : SetTable} (h : t.mask = u.mask) (x : Int) : t.probeStart x = u.probeStart x := by
  unfold SetTable.probeStart; rw [h]

def baseN (mask : Nat) (h : Int) : Nat → Nat × Nat
  | 0 => (SetTable.bits h % (mask + 1), SetTable.bits h)
  | m + 1 => SetTable.leap mask (baseN mask h m).1 (baseN mask h m).2
def atBase (mask : Nat) (b : Nat × Nat) : SetTable.Probe := { j := b.1, more := SetTable.runEnd mask b.1 - b.1, i := b.1, perturb := b.2, dummy := none }
theorem run_le (mask i : Nat) : SetTable.runEnd mask i - i ≤ 9 := by unfold SetTable.runEnd; split <;> omega
theorem adv_more (t : SetTable) : ∀ (k : Nat) (p : SetTable.Probe), k ≤ p.more → advN t k p = { p with j := p.j + k, more := p.more - k }
  | 0, p, _ => rfl
  | k + 1, p, h => by
    show advN t k (t.advance p) = _
    have : t.advance p = { p with j := p.j + 1, more := p.more - 1 } := by unfold SetTable.advance; rw [if_pos (by omega)]
    rw [this, adv_more t k _ (show k ≤ p.more - 1 by omega)]
    show SetTable.Probe.mk _ _ _ _ _ = SetTable.Probe.mk _ _ _ _ _
    congr 1 <;> (dsimp only; omega)
theorem adv_run (t : SetTable) (b : Nat × Nat) : advN t (SetTable.runEnd t.mask b.1 - b.1 + 1) (atBase t.mask b) = atBase t.mask (SetTable.leap t.mask b.1 b.2) := by
  rw [advN_succ, adv_more t (SetTable.runEnd t.mask b.1 - b.1) _ (show SetTable.runEnd t.mask b.1 - b.1 ≤ (atBase t.mask b).more from Nat.le_refl _)]
  unfold SetTable.advance atBase
  rw [if_neg (by dsimp only; omega)]
theorem at_base (t : SetTable) (h : Int) : ∀ m : Nat, ∃ n, n ≤ 10 * m ∧ advN t n (t.probeStart h) = atBase t.mask (baseN t.mask h m)
  | 0 => ⟨0, Nat.le_refl _, rfl⟩
  | m + 1 => by
    obtain ⟨n, hn, e⟩ := at_base t h m
    have hr := run_le t.mask (baseN t.mask h m).1
    refine ⟨n + (SetTable.runEnd t.mask (baseN t.mask h m).1 - (baseN t.mask h m).1 + 1), by omega, ?_⟩
    rw [advN_add, e, adv_run]
    rfl
theorem pert (mask : Nat) (h : Int) : ∀ m, (baseN mask h m).2 = SetTable.bits h / 32 ^ m
  | 0 => by simp [baseN]
  | m + 1 => by
    show (baseN mask h m).2 / 32 = _
    rw [pert mask h m, Nat.div_div_eq_div_mul, Nat.pow_succ]
theorem bits_lt (h : Int) : SetTable.bits h < 2 ^ 64 := by unfold SetTable.bits; omega
theorem pert0 (mask : Nat) (h : Int) (m : Nat) : (baseN mask h (13 + m)).2 = 0 := by
  rw [pert]
  apply Nat.div_eq_of_lt
  refine Nat.lt_of_lt_of_le (bits_lt h) ?_
  rw [Nat.pow_add]
  exact Nat.le_trans (by decide : 2 ^ 64 ≤ 32 ^ 13) (Nat.le_mul_of_pos_right _ (Nat.pow_pos (by decide)))
def lcg (mask : Nat) : Nat → Nat → Nat
  | 0, x => x
  | n + 1, x => (lcg mask n x * 5 + 1) % (mask + 1)
theorem base_lcg (mask : Nat) (h : Int) (m : Nat) : (baseN mask h (13 + m)).1 = lcg mask m (baseN mask h 13).1 := by
  induction m with
  | zero => rfl
  | succ m ih =>
    show (SetTable.leap mask (baseN mask h (13 + m)).1 (baseN mask h (13 + m)).2).1 = (lcg mask m _ * 5 + 1) % (mask + 1)
    rw [pert0, ih]
    rfl
theorem base_lt (mask : Nat) (h : Int) : ∀ m, (baseN mask h m).1 < mask + 1
  | 0 => Nat.mod_lt _ (Nat.succ_pos _)
  | m + 1 => Nat.mod_lt _ (Nat.succ_pos _)

def lcgs (mask : Nat) : Nat → Nat → List Nat
  | 0, _ => []
  | n + 1, x => x :: lcgs mask n ((x * 5 + 1) % (mask + 1))
theorem lcg_shift (mask : Nat) : ∀ n x, lcg mask n ((x * 5 + 1) % (mask + 1)) = lcg mask (n + 1) x
  | 0, x => rfl
  | n + 1, x => by
    show (lcg mask n ((x * 5 + 1) % (mask + 1)) * 5 + 1) % (mask + 1) = (lcg mask (n + 1) x * 5 + 1) % (mask + 1)
    rw [lcg_shift mask n x]
theorem lcgs_mem {mask j : Nat} : ∀ {n x : Nat}, j ∈ lcgs mask n x → ∃ k, k < n ∧ lcg mask k x = j
  | 0, x, h => by simp [lcgs] at h
  | n + 1, x, h => by
    rcases List.mem_cons.mp h with rfl | h
    · exact ⟨0, Nat.succ_pos _, rfl⟩
    · obtain ⟨k, hk, e⟩ := lcgs_mem h
      exact ⟨k + 1, Nat.succ_lt_succ hk, by rw [← lcg_shift]; exact e⟩
theorem lcg_add (mask : Nat) (m n x : Nat) : lcg mask (m + n) x = lcg mask m (lcg mask n x) := by
  induction m with
  | zero => rw [Nat.zero_add]; rfl
  | succ m ih => rw [Nat.succ_add]; show (lcg mask (m + n) x * 5 + 1) % (mask + 1) = (lcg mask m (lcg mask n x) * 5 + 1) % (mask + 1); rw [ih]
def coversB (mask : Nat) : Bool := let l := lcgs mask (mask + 1) 0; ((List.range (mask + 1)).all fun j => l.contains j) && lcg mask (mask + 1) 0 == 0
theorem cov7 : coversB 7 = true := by decide +kernel
theorem cov31 : coversB 31 = true := by decide +kernel
theorem cov127 : coversB 127 = true := by decide +kernel
def Msk (mask : Nat) : Prop := mask = 7 ∨ mask = 31 ∨ mask = 127
theorem Msk.cov {mask : Nat} (h : Msk mask) : coversB mask = true := by
  rcases h with rfl | rfl | rfl
  · exact cov7
  · exact cov31
  · exact cov127
theorem covered {mask x j : Nat} (h : Msk mask) (hx : x < mask + 1) (hj : j < mask + 1) : ∃ n, n < mask + 1 ∧ lcg mask n x = j := by
  have hc := h.cov
  unfold coversB at hc
  dsimp only at hc
  rw [Bool.and_eq_true, beq_iff_eq] at hc
  have at0 : ∀ y, y < mask + 1 → ∃ k, k < mask + 1 ∧ lcg mask k 0 = y := fun y hy => lcgs_mem (List.contains_iff_mem.mp (List.all_eq_true.mp hc.1 y (List.mem_range.mpr hy)))
  obtain ⟨k0, h0, e0⟩ := at0 x hx
  obtain ⟨k1, h1, e1⟩ := at0 j hj
  by_cases hk : k0 ≤ k1
  · refine ⟨k1 - k0, by omega, ?_⟩
    rw [← e0, ← lcg_add, Nat.sub_add_cancel hk, e1]
  · refine ⟨k1 + (mask + 1) - k0, by omega, ?_⟩
    rw [← e0, ← lcg_add, Nat.sub_add_cancel (by omega), lcg_add, hc.2, e1]

theorem reached {t : SetTable} (hm : Msk t.mask) (h : Int) {j : Nat} (hj : j < t.mask + 1) : ∃ n, n < 10 * SetTable.turns t.mask ∧ (advN t n (t.probeStart h)).j = j := by
  obtain ⟨k, hk, e⟩ := covered hm (base_lt t.mask h 13) hj
  obtain ⟨n, hn, en⟩ := at_base t h (13 + k)
  refine ⟨n, by unfold SetTable.turns; omega, ?_⟩
  rw [en]
  show (baseN t.mask h (13 + k)).1 = j
  rw [base_lcg, e]

theorem probe_go {t : SetTable} {hashAt : Nat → Int} {h : Int} : ∀ (n fuel : Nat) (p : SetTable.Probe), n < fuel → (∀ m, m < n → ∃ i, t.slot (advN t m p).j = .live i ∧ (hashAt i == h) = false) →
    (t.slot (advN t n p).j = .empty → SetTable.probe.go t hashAt h fuel p = some (.empty (advN t n p).j (advN t n p).dummy)) ∧
    (∀ i, t.slot (advN t n p).j = .live i → (hashAt i == h) = true → SetTable.probe.go t hashAt h fuel p = some (.candidate (advN t n p).j i (t.advance (advN t n p))))
  | 0, fuel + 1, p, _, _ => by
    refine ⟨fun e => ?_, fun i e q => ?_⟩
    · unfold SetTable.probe.go
      rw [show t.slot p.j = .empty from e]
      rfl
    · unfold SetTable.probe.go
      rw [show t.slot p.j = .live i from e]
      dsimp only
      rw [if_pos q]
      rfl
  | n + 1, fuel + 1, p, hn, hm => by
    obtain ⟨i, e, q⟩ := hm 0 (Nat.succ_pos _)
    have ih := probe_go (hashAt := hashAt) (h := h) n fuel (t.advance p) (by omega) fun m hm' => hm (m + 1) (by omega)
    have e0 : SetTable.probe.go t hashAt h (fuel + 1) p = SetTable.probe.go t hashAt h fuel (t.advance p) := by
      conv => lhs; unfold SetTable.probe.go
      rw [show t.slot p.j = .live i from e]
      dsimp only
      rw [if_neg (by rw [q]; exact Bool.false_ne_true)]
    rw [e0]
    exact ih
end L2

end

section
set_option maxHeartbeats 1000000
namespace L2
open PySem

abbrev way (t : SetTable) (h : Int) (n : Nat) : Nat := (advN t n (t.probeStart h)).j

structure Tab (t : SetTable) (hs : List Int) : Prop where
  msk : Msk t.mask
  dum : t.dummies = #[]
  len : t.place.size = hs.length
  ris : Ris t.place.toList
  le : ∀ j ∈ t.place.toList, j ≤ t.mask
  rch : ∀ (i : Nat) h j, hs[i]? = some h → t.place.toList[i]? = some j → ∃ n, n < 10 * SetTable.turns t.mask ∧ way t h n = j ∧ ∀ m, m < n → ∃ k, t.slot (way t h m) = .live k
theorem Tab.fresh (f m : Nat) (l : Bool) : Tab (SetTable.fresh f m l) [] := by
  refine ⟨.inl rfl, rfl, rfl, List.Pairwise.nil, fun j hj => absurd hj (by simp [SetTable.fresh]), fun i h j e => absurd e (by simp)⟩
theorem Tab.slots {t : SetTable} {hs : List Int} (T : Tab t hs) (j : Nat) : t.slot j = .empty ∨ ∃ k, t.slot j = .live k := by
  by_cases h : ∃ i, ∃ hi : i < t.place.size, t.place[i] = j
  · obtain ⟨i, hi, e⟩ := h
    exact .inr ⟨i, by rw [← e]; exact slot_live T.ris hi⟩
  · exact .inl (slot_not T.ris T.dum fun i hi e => h ⟨i, hi, e⟩)
theorem gap : ∀ (n : Nat) (xs : List Nat), Ris xs → xs.length = n → ∃ j, j ≤ n ∧ j ∉ xs
  | n, xs, h, hl => by
    by_cases q : ∀ i (hi : i < xs.length), xs[i] = i
    · refine ⟨n, Nat.le_refl _, fun m => ?_⟩
      obtain ⟨i, hi, e⟩ := List.mem_iff_getElem.mp m
      rw [q i hi] at e
      omega
    · have hex : ∃ i, ∃ hi : i < xs.length, xs[i] ≠ i := by
        obtain ⟨i, hi⟩ := Classical.not_forall.mp q
        obtain ⟨hi, ne⟩ := Classical.not_forall.mp hi
        exact ⟨i, hi, ne⟩
      obtain ⟨i, ⟨hi, ne⟩, hmin⟩ : ∃ i, (∃ hi : i < xs.length, xs[i] ≠ i) ∧ ∀ k, k < i → ¬ ∃ hk : k < xs.length, xs[k] ≠ k := by
        obtain ⟨i, hi⟩ := hex
        induction i using Nat.strongRecOn with
        | _ i ih =>
          by_cases z : ∃ k, k < i ∧ ∃ hk : k < xs.length, xs[k] ≠ k
          · obtain ⟨k, hk, hk2⟩ := z
            exact ih k hk hk2
          · exact ⟨i, hi, fun k hk hh => z ⟨k, hk, hh⟩⟩
      have hlow : ∀ k (hk : k < xs.length), k < i → xs[k] = k := fun k hk hki => Classical.byContradiction fun z => hmin k hki ⟨hk, z⟩
      have hgt : i < xs[i] := by
        rcases Nat.lt_trichotomy i xs[i] with z | z | z
        · exact z
        · exact absurd z.symm ne
        · have e1 := hlow xs[i] (by omega) z
          have e2 := Ris.at h z hi
          rw [e1] at e2
          omega
      refine ⟨i, by omega, fun m => ?_⟩
      obtain ⟨k, hk, e⟩ := List.mem_iff_getElem.mp m
      rcases Nat.lt_trichotomy k i with z | z | z
      · have := hlow k hk z; omega
      · subst z; omega
      · have := Ris.at h z hk; omega
theorem least {P : Nat → Prop} {n : Nat} (h : P n) : ∃ m, m ≤ n ∧ P m ∧ ∀ k, k < m → ¬ P k := by
  induction n using Nat.strongRecOn with
  | _ n ih =>
    by_cases z : ∃ k, k < n ∧ P k
    · obtain ⟨k, hk, pk⟩ := z
      obtain ⟨m, hm, r⟩ := ih k hk pk
      exact ⟨m, by omega, r⟩
    · exact ⟨n, Nat.le_refl _, h, fun k hk pk => z ⟨k, hk, pk⟩⟩

theorem Tab.free {t : SetTable} {hs : List Int} (T : Tab t hs) (hf : t.place.size ≤ t.mask) (h : Int) : ∃ n, n < 10 * SetTable.turns t.mask ∧ t.slot (way t h n) = .empty ∧ ∀ m, m < n → ∃ k, t.slot (way t h m) = .live k := by
  obtain ⟨j, hj, nj⟩ := gap t.place.size t.place.toList T.ris (by simp)
  obtain ⟨n, hn, e⟩ := reached T.msk h (show j < t.mask + 1 by omega)
  have : t.slot (way t h n) = .empty := by
    show t.slot (advN t n (t.probeStart h)).j = .empty
    rw [e]
    exact slot_not T.ris T.dum fun i hi q => nj (by rw [← q]; simp)
  obtain ⟨m, hm, e1, e2⟩ := least (P := fun n => t.slot (way t h n) = .empty) this
  refine ⟨m, by omega, e1, fun k hk => ?_⟩
  rcases T.slots (way t h k) with q | q
  · exact absurd q (e2 k hk)
  · exact q

theorem put_mask (t : SetTable) (j : Nat) : (t.put j).1.mask = t.mask := rfl
theorem way_mask {t u : SetTable} (h : t.mask = u.mask) (x : Int) (n : Nat) : way t x n = way u x n := by
  unfold way; rw [start_mask h, advN_mask h]
theorem insertAt_len {α : Type} (xs : Array α) (p : Nat) (x : α) : (SetTable.insertAt xs p x).size = xs.size + 1 := by
  have := (SetTable.insertAt_perm xs p x).length_eq
  simpa using this
theorem insat_get {α : Type} (l : List α) (x : α) {p : Nat} (hp : p ≤ l.length) (i : Nat) : (l.take p ++ x :: l.drop p)[i]? = if i < p then l[i]? else if i = p then some x else l[i - 1]? := by
  by_cases h1 : i < p
  · rw [if_pos h1, List.getElem?_append_left (by rw [List.length_take]; omega), List.getElem?_take_of_lt h1]
  · rw [if_neg h1, List.getElem?_append_right (by rw [List.length_take]; omega), List.length_take, Nat.min_eq_left hp]
    by_cases h2 : i = p
    · rw [if_pos h2, h2, Nat.sub_self]; rfl
    · rw [if_neg h2]
      obtain ⟨d, rfl⟩ : ∃ d, i = p + 1 + d := ⟨i - p - 1, by omega⟩
      rw [show p + 1 + d - p = d + 1 by omega, List.getElem?_cons_succ, List.getElem?_drop]
      congr 1; omega
theorem Tab.put {t : SetTable} {hs : List Int} (T : Tab t hs) {h : Int} {n : Nat} (hn : n < 10 * SetTable.turns t.mask) (he : t.slot (way t h n) = .empty) (hw : ∀ m, m < n → ∃ k, t.slot (way t h m) = .live k) (hj : way t h n ≤ t.mask) :
    Tab (t.put (way t h n)).1 (hs.take (t.put (way t h n)).2 ++ h :: hs.drop (t.put (way t h n)).2) ∧ (t.put (way t h n)).2 ≤ hs.length := by
  generalize hJ : way t h n = J at he hj ⊢
  have nin : ∀ i (hi : i < t.place.size), t.place[i] ≠ J := fun i hi q => by
    rw [← q, slot_live T.ris hi] at he; cases he
  have hp : (t.put J).1.place = SetTable.insertAt t.place (SetTable.below t.place J) J := rfl
  have h2 : (t.put J).2 = SetTable.below t.place J := rfl
  have hpl : (t.put J).1.place.toList = t.place.toList.take (SetTable.below t.place J) ++ J :: t.place.toList.drop (SetTable.below t.place J) := by rw [hp, SetTable.toList_insertAt]
  have hd : (t.put J).1.dummies = #[] := by
    show (if SetTable.has t.dummies J then SetTable.eraseAt t.dummies (SetTable.below t.dummies J) else t.dummies) = #[]
    rw [T.dum]
    simp [SetTable.has]
  have hr : Ris (t.put J).1.place.toList := by rw [hp]; exact ris_insert T.ris nin
  have ble := (below_of T.ris J).2.2
  have keep : ∀ j, (∃ k, t.slot j = .live k) → ∃ k, (t.put J).1.slot j = .live k := fun j ⟨k, hk⟩ => by
    obtain ⟨hi, e⟩ := slot_some hk
    have : j ∈ (t.put J).1.place.toList := by
      rw [hp]; exact (SetTable.insertAt_perm _ _ _).mem_iff.mpr (by rw [← e]; simp)
    obtain ⟨i, hi, e⟩ := List.mem_iff_getElem.mp this
    have hi' : i < (t.put J).1.place.size := by simpa using hi
    exact ⟨i, by rw [← e]; simpa using slot_live hr hi'⟩
  have em : (t.put J).1.mask = t.mask := rfl
  have hll := T.len
  rw [h2]
  refine ⟨⟨T.msk, hd, ?_, hr, ?_, ?_⟩, by omega⟩
  · rw [hp, insertAt_len]
    simp; omega
  · intro j hj'
    rw [hp] at hj'
    have := (SetTable.insertAt_perm _ _ _).mem_iff.mp hj'
    simp only [Array.toList_push, List.mem_append, List.mem_singleton] at this
    rcases this with q | q
    · exact T.le j q
    · rw [q]; exact hj
  · intro i h' j' e1 e2
    rw [hpl] at e2
    rw [insat_get _ _ (by rw [← hll]; exact ble)] at e1
    rw [insat_get _ _ (by simpa using ble)] at e2
    have old : ∀ k, hs[k]? = some h' → t.place.toList[k]? = some j' → ∃ n, n < 10 * SetTable.turns (t.put J).1.mask ∧ way (t.put J).1 h' n = j' ∧ ∀ m, m < n → ∃ q, (t.put J).1.slot (way (t.put J).1 h' m) = .live q := fun k q1 q2 => by
      obtain ⟨n, a1, a2, a3⟩ := T.rch k h' j' q1 q2
      refine ⟨n, a1, by rw [way_mask em]; exact a2, fun m hm => ?_⟩
      rw [way_mask em]
      exact keep _ (a3 m hm)
    by_cases z1 : i < SetTable.below t.place J
    · rw [if_pos z1] at e1 e2
      exact old i e1 e2
    · rw [if_neg z1] at e1 e2
      by_cases z2 : i = SetTable.below t.place J
      · rw [if_pos z2] at e1 e2
        cases e1; cases e2
        refine ⟨n, hn, by rw [way_mask em]; exact hJ, fun m hm => ?_⟩
        rw [way_mask em]
        exact keep _ (hw m hm)
      · rw [if_neg z2] at e1 e2
        exact old (i - 1) e1 e2
end L2

end

section
set_option maxHeartbeats 1000000
namespace L2
open PySem

abbrev dummyT (mask : Nat) : SetTable := { mask := mask, place := #[], dummies := #[], finger := 0, led := true, moves := 0, plain := true }
abbrev wayM (mask : Nat) (h : Int) (n : Nat) : Nat := way (dummyT mask) h n
def Own (o : Array (Option Nat)) (j : Nat) : Prop := ∃ k, o[j]? = some (some k)
theorem run_lt {mask i : Nat} (h : i < mask + 1) : SetTable.runEnd mask i < mask + 1 := by unfold SetTable.runEnd; split <;> omega
theorem run_ge (mask i : Nat) : i ≤ SetTable.runEnd mask i := by unfold SetTable.runEnd; split <;> omega
theorem adv_in (mask : Nat) (b : Nat × Nat) (k : Nat) (hk : k ≤ SetTable.runEnd mask b.1 - b.1) : (advN (dummyT mask) k (atBase mask b)).j = b.1 + k := by
  rw [adv_more (dummyT mask) k (atBase mask b) hk]
  rfl

theorem free_of {mask : Nat} {o : Array (Option Nat)} (hs : o.size = mask + 1) (h : Int) : ∀ (fuel m n : Nat), n ≤ 10 * m → advN (dummyT mask) n ((dummyT mask).probeStart h) = atBase mask (baseN mask h m) → (∀ q, q < n → Own o (wayM mask h q)) →
    (∃ j n', SetTable.layClean.free mask o fuel (baseN mask h m).1 (baseN mask h m).2 = some j ∧ n' < 10 * (m + fuel) ∧ wayM mask h n' = j ∧ o[j]? = some none ∧ ∀ q, q < n' → Own o (wayM mask h q)) ∨
    (SetTable.layClean.free mask o fuel (baseN mask h m).1 (baseN mask h m).2 = none ∧ ∀ k, k < fuel → Own o (baseN mask h (m + k)).1)
  | 0, m, n, _, _, _ => .inr ⟨rfl, fun k hk => absurd hk (Nat.not_lt_zero k)⟩
  | fuel + 1, m, n, hn, e, hq => by
    have hb := base_lt mask h m
    have hr := run_lt hb
    have hg := run_ge mask (baseN mask h m).1
    have h9 := run_le mask (baseN mask h m).1
    have inb : ∀ k, k ≤ SetTable.runEnd mask (baseN mask h m).1 - (baseN mask h m).1 → wayM mask h (n + k) = (baseN mask h m).1 + k := fun k hk => by
      show (advN (dummyT mask) (n + k) ((dummyT mask).probeStart h)).j = _
      rw [advN_add, e, adv_in mask _ k hk]
    have own : ∀ k, k ≤ SetTable.runEnd mask (baseN mask h m).1 - (baseN mask h m).1 → (o.getD ((baseN mask h m).1 + k) (some 0)).isNone = false → Own o ((baseN mask h m).1 + k) := fun k hk q => by
      have hlt : (baseN mask h m).1 + k < o.size := by omega
      have : o.getD ((baseN mask h m).1 + k) (some 0) = o[(baseN mask h m).1 + k] := by simp [Array.getD, hlt]
      rw [this] at q
      cases z : o[(baseN mask h m).1 + k] with
      | none => rw [z] at q; cases q
      | some v => exact ⟨v, by rw [Array.getElem?_eq_getElem hlt, z]⟩
    unfold SetTable.layClean.free
    cases hf : (List.range (SetTable.runEnd mask (baseN mask h m).1 + 1 - (baseN mask h m).1)).find? fun k => (o.getD ((baseN mask h m).1 + k) (some 0)).isNone with
    | some k =>
      obtain ⟨pk, as, bs, eab, hall⟩ := List.find?_eq_some_iff_append.mp hf
      have hkr : k < SetTable.runEnd mask (baseN mask h m).1 + 1 - (baseN mask h m).1 := List.mem_range.mp (by rw [eab]; simp)
      have has : as.length = k := by
        have h1 : (List.range (SetTable.runEnd mask (baseN mask h m).1 + 1 - (baseN mask h m).1))[as.length]? = some k := by rw [eab]; simp
        have h2 := (List.getElem?_eq_some_iff.mp h1)
        obtain ⟨hl, e2⟩ := h2
        simpa using e2
      have hlow : ∀ q, q < k → (o.getD ((baseN mask h m).1 + q) (some 0)).isNone = false := fun q hqk => by
        have : q ∈ as := by
          have h1 : (List.range (SetTable.runEnd mask (baseN mask h m).1 + 1 - (baseN mask h m).1))[q]? = some q := by rw [List.getElem?_range (by omega)]
          rw [eab, List.getElem?_append_left (by omega)] at h1
          exact List.mem_of_getElem? h1
        have := hall q this
        rwa [Bool.not_eq_true'] at this
      refine .inl ⟨(baseN mask h m).1 + k, n + k, rfl, by omega, inb k (by omega), ?_, fun q hqn => ?_⟩
      · have hlt : (baseN mask h m).1 + k < o.size := by omega
        have e3 : o.getD ((baseN mask h m).1 + k) (some 0) = o[(baseN mask h m).1 + k] := by simp [Array.getD, hlt]
        rw [e3] at pk
        rw [Array.getElem?_eq_getElem hlt]
        cases z : o[(baseN mask h m).1 + k] with
        | none => rfl
        | some v => rw [z] at pk; cases pk
      · by_cases z : q < n
        · exact hq q z
        · obtain ⟨d, rfl⟩ : ∃ d, q = n + d := ⟨q - n, by omega⟩
          rw [inb d (by omega)]
          exact own d (by omega) (hlow d (by omega))
    | none =>
      dsimp only
      have hall := List.find?_eq_none.mp hf
      have hown : ∀ k, k ≤ SetTable.runEnd mask (baseN mask h m).1 - (baseN mask h m).1 → Own o ((baseN mask h m).1 + k) := fun k hk => own k hk (by
        have := hall k (List.mem_range.mpr (by omega))
        exact Bool.not_eq_true _ ▸ this)
      have hstep : advN (dummyT mask) (n + (SetTable.runEnd mask (baseN mask h m).1 - (baseN mask h m).1 + 1)) ((dummyT mask).probeStart h) = atBase mask (baseN mask h (m + 1)) := by
        rw [advN_add, e]
        exact adv_run (dummyT mask) _
      have ih := free_of hs h fuel (m + 1) (n + (SetTable.runEnd mask (baseN mask h m).1 - (baseN mask h m).1 + 1)) (by omega) hstep fun q hqn => by
        by_cases z : q < n
        · exact hq q z
        · obtain ⟨d, rfl⟩ : ∃ d, q = n + d := ⟨q - n, by omega⟩
          rw [inb d (by omega)]
          exact hown d (by omega)
      rcases ih with ⟨j, n', a1, a2, a3, a4, a5⟩ | ⟨a1, a2⟩
      · exact .inl ⟨j, n', a1, by omega, a3, a4, a5⟩
      · refine .inr ⟨a1, fun k hk => ?_⟩
        cases k with
        | zero => exact hown 0 (by omega)
        | succ k =>
          have := a2 k (by omega)
          rwa [show m + (k + 1) = m + 1 + k by omega]

theorem free_ok {mask : Nat} {o : Array (Option Nat)} (hm : Msk mask) (hs : o.size = mask + 1) (h : Int) {j : Nat} (hj : j < mask + 1) (hfree : o[j]? = some none) :
    ∃ J n, SetTable.layClean.free mask o (SetTable.turns mask) (SetTable.bits h % (mask + 1)) (SetTable.bits h) = some J ∧ n < 10 * SetTable.turns mask ∧ wayM mask h n = J ∧ o[J]? = some none ∧ ∀ q, q < n → Own o (wayM mask h q) := by
  rcases free_of hs h (SetTable.turns mask) 0 0 (Nat.le_refl _) rfl (fun q hq => absurd hq (Nat.not_lt_zero q)) with ⟨J, n, a1, a2, a3⟩ | ⟨a1, a2⟩
  · exact ⟨J, n, a1, by omega, a3⟩
  · obtain ⟨k, hk, e⟩ := covered hm (base_lt mask h 13) hj
    obtain ⟨v, hv⟩ := a2 (13 + k) (by unfold SetTable.turns; omega)
    rw [Nat.zero_add, base_lcg, e, hfree] at hv
    cases hv
end L2

end

section
set_option maxHeartbeats 1000000
namespace L2
open PySem

structure Lain (mask : Nat) (hs : List Int) (o : Array (Option Nat)) : Prop where
  sz : o.size = mask + 1
  cnt : o.toList.countP (·.isSome) = hs.length
  lt : ∀ (j : Nat) v, o[j]? = some (some v) → v < hs.length
  inj : ∀ (j j' : Nat) v, o[j]? = some (some v) → o[j']? = some (some v) → j = j'
  at' : ∀ (v : Nat) h, hs[v]? = some h → ∃ j n, o[j]? = some (some v) ∧ n < 10 * SetTable.turns mask ∧ wayM mask h n = j ∧ ∀ q, q < n → Own o (wayM mask h q)
theorem Lain.nil (mask : Nat) : Lain mask [] (Array.replicate (mask + 1) none) := by
  refine ⟨by simp, ?_, fun j v e => ?_, fun j j' v e => ?_, fun v h e => by simp at e⟩
  · simp
  · rw [Array.getElem?_replicate] at e; split at e <;> cases e
  · rw [Array.getElem?_replicate] at e; split at e <;> cases e
theorem Lain.hole {mask : Nat} {hs : List Int} {o : Array (Option Nat)} (L : Lain mask hs o) (h : hs.length ≤ mask) : ∃ j, j < mask + 1 ∧ o[j]? = some none := by
  apply Classical.byContradiction
  intro hn
  have : ∀ x ∈ o.toList, x.isSome = true := fun x hx => by
    obtain ⟨i, hi, e⟩ := List.mem_iff_getElem.mp hx
    have hi' : i < o.size := by simpa using hi
    cases x with
    | some v => rfl
    | none => exact absurd ⟨i, by rw [← L.sz]; exact hi', by rw [Array.getElem?_eq_getElem hi']; simpa using e⟩ hn
  have e := List.countP_eq_length.mpr this
  have e2 := L.cnt
  have e3 := L.sz
  rw [e] at e2
  simp only [Array.length_toList] at e2
  omega
theorem Lain.step {mask : Nat} {hs : List Int} {o : Array (Option Nat)} (hm : Msk mask) (L : Lain mask hs o) (h : Int) (hl : hs.length ≤ mask) :
    ∃ J, SetTable.layClean.free mask o (SetTable.turns mask) (SetTable.bits h % (mask + 1)) (SetTable.bits h) = some J ∧ Lain mask (hs ++ [h]) (o.setIfInBounds J (some hs.length)) := by
  obtain ⟨j, hj, hf⟩ := L.hole hl
  obtain ⟨J, n, a1, a2, a3, a4, a5⟩ := free_ok hm L.sz h hj hf
  obtain ⟨hJ, eJ⟩ := Array.getElem?_eq_some_iff.mp a4
  have keep : ∀ (i : Nat), Own o i → Own (o.setIfInBounds J (some hs.length)) i := fun i ⟨v, hv⟩ => by
    refine ⟨v, ?_⟩
    rw [Array.getElem?_setIfInBounds, if_neg (by intro e; rw [e, hv] at a4; cases a4)]
    exact hv
  have at0 : (o.setIfInBounds J (some hs.length))[J]? = some (some hs.length) := by rw [Array.getElem?_setIfInBounds, if_pos rfl, if_pos hJ]
  have atn : ∀ i, i ≠ J → (o.setIfInBounds J (some hs.length))[i]? = o[i]? := fun i hi => by rw [Array.getElem?_setIfInBounds, if_neg (fun e => hi e.symm)]
  refine ⟨J, a1, ⟨by simp [L.sz], ?_, fun i v e => ?_, fun i i' v e e' => ?_, fun v h' e => ?_⟩⟩
  · rw [Array.toList_setIfInBounds, List.countP_set (by simpa using hJ), L.cnt]
    have : o.toList[J]'(by simpa using hJ) = none := by simpa using eJ
    rw [this]
    simp
  · rw [List.length_append]
    by_cases z : i = J
    · rw [z, at0] at e; cases e; simp
    · rw [atn i z] at e
      have := L.lt i v e
      simp; omega
  · by_cases z : i = J <;> by_cases z' : i' = J
    · rw [z, z']
    · rw [z, at0] at e; cases e
      rw [atn i' z'] at e'
      exact absurd (L.lt i' _ e') (Nat.lt_irrefl _)
    · rw [z', at0] at e'; cases e'
      rw [atn i z] at e
      exact absurd (L.lt i _ e) (Nat.lt_irrefl _)
    · rw [atn i z] at e
      rw [atn i' z'] at e'
      exact L.inj i i' v e e'
  · by_cases z : v < hs.length
    · rw [List.getElem?_append_left z] at e
      obtain ⟨j, n, b1, b2, b3, b4⟩ := L.at' v h' e
      refine ⟨j, n, ?_, b2, b3, fun q hq => keep _ (b4 q hq)⟩
      rw [atn j (by intro e; rw [e, a4] at b1; cases b1)]
      exact b1
    · have hv : v = hs.length := by
        have := (List.getElem?_eq_some_iff.mp e).1
        simp at this; omega
      subst hv
      simp at e
      subst e
      exact ⟨J, n, at0, a2, a3, fun q hq => keep _ (a5 q hq)⟩
theorem lay_fold {mask : Nat} (hm : Msk mask) : ∀ (post pre : List Int) (o : Array (Option Nat)), Lain mask pre o → (pre ++ post).length ≤ mask →
    ∃ o', post.foldl (fun (acc : Option (Array (Option Nat) × Nat)) h => do
      let (owner, k) ← acc
      let j ← SetTable.layClean.free mask owner (SetTable.turns mask) (SetTable.bits h % (mask + 1)) (SetTable.bits h)
      pure (owner.setIfInBounds j (some k), k + 1)) (some (o, pre.length)) = some (o', (pre ++ post).length) ∧ Lain mask (pre ++ post) o'
  | [], pre, o, L, _ => ⟨o, by simp, by simpa using L⟩
  | h :: post, pre, o, L, hl => by
    rw [List.length_append, List.length_cons] at hl
    obtain ⟨J, e, L1⟩ := L.step hm h (by omega)
    obtain ⟨o', e', L'⟩ := lay_fold hm post (pre ++ [h]) _ L1 (by simp; omega)
    refine ⟨o', ?_, by simpa using L'⟩
    rw [List.foldl_cons]
    have : (do
      let (owner, k) ← some (o, pre.length)
      let j ← SetTable.layClean.free mask owner (SetTable.turns mask) (SetTable.bits h % (mask + 1)) (SetTable.bits h)
      pure (owner.setIfInBounds j (some k), k + 1)) = some (o.setIfInBounds J (some pre.length), (pre ++ [h]).length) := by
      show (SetTable.layClean.free mask o (SetTable.turns mask) (SetTable.bits h % (mask + 1)) (SetTable.bits h)).bind _ = _
      rw [e]
      simp
    rw [this, e']
    simp
theorem lay_ok {mask : Nat} (hm : Msk mask) (hs : List Int) (hl : hs.length ≤ mask) : ∃ o, SetTable.layClean mask hs.toArray = some o ∧ Lain mask hs o := by
  obtain ⟨o, e, L⟩ := lay_fold hm hs [] _ (Lain.nil mask) (by simpa using hl)
  refine ⟨o, ?_, by simpa using L⟩
  unfold SetTable.layClean
  rw [List.foldl_toArray]
  rw [show (some (Array.replicate (mask + 1) (none : Option Nat), 0)) = some (Array.replicate (mask + 1) none, ([] : List Int).length) from rfl]
  rw [e]
  rfl
theorem live_fst {β : Type} (g : Nat → Option β) : ∀ l : List Nat, (l.filterMap fun j => (g j).map (j, ·)).map (·.1) = l.filter fun j => (g j).isSome
  | [] => rfl
  | x :: l => by
    rw [List.filterMap_cons, List.filter_cons]
    cases e : g x with
    | none => simpa using live_fst g l
    | some v => simpa using live_fst g l
theorem live_snd {β : Type} (g : Nat → Option β) : ∀ l : List Nat, (l.filterMap fun j => (g j).map (j, ·)).map (·.2) = l.filterMap g
  | [] => rfl
  | x :: l => by
    rw [List.filterMap_cons, List.filterMap_cons]
    cases e : g x with
    | none => simpa using live_snd g l
    | some v => simpa using live_snd g l
theorem laid_ok {mask : Nat} (hm : Msk mask) (hs : List Int) (hl : hs.length ≤ mask) (finger moves : Nat) (led plain : Bool) : ∃ t order, SetTable.laid mask finger moves led plain hs.toArray = some (t, order) ∧
    order.toList.Perm (List.range hs.length) ∧ Tab t (order.toList.map fun i => hs.getD i 0) ∧ t.mask = mask ∧ t.led = led ∧ t.plain = plain ∧ t.place.size = hs.length := by
  obtain ⟨o, e, L⟩ := lay_ok hm hs hl
  unfold SetTable.laid
  rw [e]
  refine ⟨_, _, rfl, ?_⟩
  dsimp only
  have gd : ∀ j v, o.getD j none = some v ↔ o[j]? = some (some v) := fun j v => by
    unfold Array.getD
    by_cases h : j < o.size
    · simp [h]
    · simp [h]
  generalize hlive : ((List.range (mask + 1)).filterMap fun j => (o.getD j none).map (j, ·)) = live
  have hf : live.map (·.1) = (List.range (mask + 1)).filter fun j => (o.getD j none).isSome := by rw [← hlive]; exact live_fst (fun j => o.getD j none) _
  have hsn : live.map (·.2) = (List.range (mask + 1)).filterMap fun j => o.getD j none := by rw [← hlive]; exact live_snd (fun j => o.getD j none) _
  have mem : ∀ j v, (j, v) ∈ live ↔ o[j]? = some (some v) := fun j v => by
    rw [← hlive, List.mem_filterMap]
    constructor
    · rintro ⟨i, _, h⟩
      cases q : o.getD i none with
      | none => rw [q] at h; cases h
      | some u => rw [q] at h; simp at h; rw [← h.1, ← h.2]; exact (gd i u).mp q
    · intro h
      refine ⟨j, List.mem_range.mpr ?_, by rw [(gd j v).mpr h]; rfl⟩
      have := (Array.getElem?_eq_some_iff.mp h).1
      rw [L.sz] at this; exact this
  have nd : (live.map (·.2)).Nodup := by
    rw [hsn]
    unfold List.Nodup
    rw [List.pairwise_filterMap]
    refine List.Pairwise.imp ?_ (List.nodup_range (n := mask + 1))
    intro a b hab x hx y hy hxy
    subst hxy
    exact hab (L.inj a b x ((gd a x).mp hx) ((gd b x).mp hy))
  have perm : (live.map (·.2)).Perm (List.range hs.length) := by
    refine (List.perm_ext_iff_of_nodup nd List.nodup_range).mpr fun v => ?_
    rw [List.mem_range]
    constructor
    · intro h
      obtain ⟨⟨j, u⟩, hp, rfl⟩ := List.mem_map.mp h
      exact L.lt j u ((mem j u).mp hp)
    · intro h
      obtain ⟨j, n, a1, _⟩ := L.at' v hs[v] (by simp [h])
      exact List.mem_map.mpr ⟨(j, v), (mem j v).mpr a1, rfl⟩
  have ris : Ris (live.map (·.1)) := by
    rw [hf]
    exact List.Pairwise.filter _ (List.pairwise_lt_range (n := mask + 1))
  have llen : live.length = hs.length := by have := perm.length_eq; simpa using this
  refine ⟨by simpa using perm, ⟨hm, rfl, ?_, by simpa using ris, ?_, ?_⟩, rfl, rfl, rfl, by simpa using llen⟩
  · simp
  · intro j hj
    have : j ∈ live.map (·.1) := by simpa using hj
    rw [hf] at this
    have := List.mem_range.mp (List.mem_filter.mp this).1
    show j ≤ mask
    omega
  · intro i h j e1 e2
    have e2 : (live.map (·.1))[i]? = some j := by simpa using e2
    have e1 : ((live.map (·.2)).map fun i => hs.getD i 0)[i]? = some h := by simpa using e1
    obtain ⟨⟨j', v⟩, hp, rfl⟩ : ∃ p, live[i]? = some p ∧ p.1 = j := by
      rw [List.getElem?_map] at e2
      cases q : live[i]? with
      | none => rw [q] at e2; cases e2
      | some p => rw [q] at e2; cases e2; exact ⟨p, rfl, rfl⟩
    have ho := (mem j' v).mp (List.mem_of_getElem? hp)
    have hv := L.lt j' v ho
    have eh : h = hs[v] := by
      rw [List.getElem?_map, List.getElem?_map, hp] at e1
      simp [hv] at e1
      exact e1.symm
    subst eh
    obtain ⟨j2, n, b1, b2, b3, b4⟩ := L.at' v hs[v] (by simp [hv])
    have : j2 = j' := L.inj j2 j' v b1 ho
    subst this
    refine ⟨n, b2, ?_, fun m hm' => ?_⟩
    · exact (way_mask (t := { mask := mask, place := (live.map (·.1)).toArray, dummies := #[], finger := finger, led := led, moves := moves, plain := plain }) (u := dummyT mask) rfl _ _).trans b3
    · rw [way_mask (t := { mask := mask, place := (live.map (·.1)).toArray, dummies := #[], finger := finger, led := led, moves := moves, plain := plain }) (u := dummyT mask) rfl]
      obtain ⟨u, hu⟩ := b4 m hm'
      have hmem : wayM mask hs[v] m ∈ live.map (·.1) := List.mem_map.mpr ⟨(_, u), (mem _ u).mpr hu, rfl⟩
      obtain ⟨k, hk, ek⟩ := List.mem_iff_getElem.mp hmem
      refine ⟨k, ?_⟩
      have hk2 : k < ((live.map (·.1)).toArray).size := by simpa using hk
      have := slot_live (t := { mask := mask, place := (live.map (·.1)).toArray, dummies := #[], finger := finger, led := led, moves := moves, plain := plain }) (by simpa using ris) hk2
      have ek2 : ((live.map (·.1)).toArray)[k] = way (dummyT mask) hs[v] m := by simpa using ek
      rw [← ek2]
      exact this
end L2

end

section
set_option maxHeartbeats 1000000
namespace L2
open PySem PySem.Spec PyProof.Rows

def hasH : Nat → D → Bool
  | _, .int _ => true
  | _, .str _ => true
  | n + 1, .tup ds => ds.all (hasH n)
  | _, _ => false
mutual
def hashD (w : World) : D → Int
  | .int i => hashInt i
  | .str x => hashStr w x
  | .tup ds => reduceHash (Builtin.Tuple.tupleHashOf (hashDs w ds))
  | _ => 0
def hashDs (w : World) : List D → List Int
  | [] => []
  | d :: ds => hashD w d :: hashDs w ds
end
theorem hashDs_map (w : World) : ∀ ds : List D, hashDs w ds = ds.map (hashD w)
  | [] => by simp [hashDs]
  | d :: ds => by simp [hashDs, hashDs_map w ds]
theorem hasH_tup {n : Nat} {ds : List D} (h : hasH n (.tup ds) = true) : ∃ k, n = k + 1 ∧ ds.all (hasH k) = true := by
  cases n with
  | zero => simp [hasH] at h
  | succ n => exact ⟨n, rfl, by simpa [hasH] using h⟩
section
variable {X : Cx} {pins : List (Addr × Obj)} {σ : St} {H : Hp} {s : Shared} {B : Addr → Prop}
theorem hash_D (I : Inv X pins σ H s) : ∀ (n : Nat) (d : D) (x : V) (u : Value) (A : Around) (tk : Nat) (Q : Int → Shared → Prop) (E : Value → Shared → Prop), hasH n d = true → A.units + 2 * n + 2 < cLine → Rep X.K B H d x → RelV x u →
    (∀ t', tk ≤ t' → Q (hashD X.w d) { s with toks := t' }) → wpAny (model X.prog X.w) A (pyHash u) Q E { s with toks := tk } := by
  intro n
  induction n using Nat.strongRecOn with
  | ind n ih =>
  intro d x u A tk Q E hd hA rd rx hQ
  cases d with
  | int i =>
    simp only [Rep] at rd; subst rd; obtain ⟨t, rfl⟩ := rx
    simp only [hashD] at hQ
    exact wpAny_pyHash_int (hQ _ (Nat.le_succ _))
  | str i =>
    simp only [Rep] at rd; subst rd; obtain ⟨t, rfl⟩ := rx
    simp only [hashD] at hQ
    exact wpAny_pyHash_str (hQ _ (Nat.le_succ _))
  | tup ds =>
    simp only [Rep] at rd; obtain ⟨a, xs, rfl, hp, hr⟩ := rd; cases rx
    obtain ⟨k, rfl, hd'⟩ := hasH_tup hd
    obtain ⟨its, rv, hta, _⟩ := I.tuple (SqT.of hp)
    obtain ⟨o, ho, hc, m, hdat⟩ := hta
    have hT : Shared.TypeIs { s with toks := tk } (.ref a) "tuple" := ⟨o, ho, hc⟩
    unfold pyHash
    unfold pyHashByItsType
    refine wpAny_bind (wpAny_cRoomFor_or (.inr (by omega)) ?_)
    refine wpAny_bind (wpAny_specialOf hT F.slot_tuple_hash.lookup ?_)
    show wpAny _ _ (if (some (Value.builtin "tuple.__hash__") == some Value.none) = true then _ else _) Q E _
    rw [if_neg (by rw [beq_builtin_none]; exact Bool.false_ne_true)]
    refine wpAny_bind (wpAny_specialOf hT F.slot_tuple_hash.lookup ?_)
    show wpAny _ _ (callSpecialIfBoundUnlessNone? (.ref a) "__hash__" _ >>= _) Q E _
    refine wpAny_bind (wpAny_callSpecialIfBoundUnlessNone?_slot hT F.slot_tuple_hash (wpAny_call_entry F.slot_tuple_hash hT F.entry_tuple_hash ?_ (F.args_tuple_hash_1 _)))
    show wpAny _ _ (Builtin.Tuple.tupleItemsOf (.ref a) >>= _) _ _ _
    refine wpAny_bind (wpAny_tupleItemsOf ho hdat ?_)
    refine wpAny_bind ?_
    rw [← Array.forIn_toList]
    refine wpAny_forIn_list _
      (fun rest (b : Array Int) s' => ∃ done left, ds = done ++ left ∧ (∃ ys, Reps X.K B H left ys ∧ Vals ys rest) ∧ b.toList = done.map (hashD X.w) ∧ ∃ t', tk ≤ t' ∧ s' = { s with toks := t' })
      _ ?_ ?_ _ _ ⟨[], ds, rfl, ⟨xs, hr, by simpa using rv⟩, rfl, tk, Nat.le_refl _, rfl⟩
    · rintro v rest b s' ⟨done, left, rfl, ⟨ys, hl, hv⟩, hb, t', ht', rfl⟩
      cases left with
      | nil => simp only [Reps] at hl; subst hl; cases hv
      | cons d' left' =>
        cases hv with
        | @cons y _ ys' _ h1 hv' =>
        obtain ⟨r1, r2⟩ := hl.uncons
        have hd1 : hasH k d' = true := by
          rw [List.all_append, Bool.and_eq_true, List.all_cons, Bool.and_eq_true] at hd'; exact hd'.2.1
        refine wpAny_bind (ih k (by omega) d' y v _ t' _ _ hd1 ?_ r1 h1 fun t2 ht2 => ?_)
        · show A.units + 1 + 2 * k + 2 < cLine; omega
        · first
            | exact wpAny_pure ⟨done ++ [d'], left', by simp, ⟨ys', r2, hv'⟩, by simp [hb], t2, Nat.le_trans ht' ht2, rfl⟩
            | exact wpAny_bind (wpAny_pure (wpAny_pure ⟨done ++ [d'], left', by simp, ⟨ys', r2, hv'⟩, by simp [hb], t2, Nat.le_trans ht' ht2, rfl⟩))
    · rintro b s' ⟨done, left, rfl, ⟨ys, hl, hv⟩, hb, t', ht', rfl⟩
      cases hv
      have hleft : left = [] := by
        have := hl.length
        cases left with
        | nil => rfl
        | cons _ _ => simp at this
      subst hleft
      rw [List.append_nil] at hQ
      simp only [hashD, hashDs_map] at hQ
      show wpAny _ _ (retInt (Builtin.Tuple.tupleHashOf b.toList)) _ _ _
      rw [hb]
      refine wpAny_ret_mkInt ?_
      show wpAny _ _ (if (decide (-(2 : Int) ^ 63 ≤ Builtin.Tuple.tupleHashOf (done.map (hashD X.w))) && decide (Builtin.Tuple.tupleHashOf (done.map (hashD X.w)) < 2 ^ 63)) = true then _ else _) Q E _
      unfold reduceHash at hQ
      by_cases hr : (decide (-(2 : Int) ^ 63 ≤ Builtin.Tuple.tupleHashOf (done.map (hashD X.w))) && decide (Builtin.Tuple.tupleHashOf (done.map (hashD X.w)) < 2 ^ 63)) = true
      · rw [if_pos hr]
        rw [if_pos hr] at hQ
        exact wpAny_pure (hQ _ (by first | exact ht' | exact Nat.le_succ_of_le ht'))
      · rw [if_neg hr]
        rw [if_neg hr] at hQ
        exact wpAny_bind (wpAny_rule (wpAny_pure (hQ _ (by first | exact ht' | exact Nat.le_succ_of_le ht'))))
  | non => simp [hasH] at hd
  | bl _ => simp [hasH] at hd
  | lst _ => simp [hasH] at hd
  | dT _ _ => simp [hasH] at hd
  | dK _ _ => simp [hasH] at hd
end
end L2

end

section
set_option maxHeartbeats 1000000
namespace L2
open PySem PySem.Spec PyProof.Rows

section
variable {X : Cx} {pins : List (Addr × Obj)} {σ : St} {H : Hp} {s : Shared} {B : Addr → Prop}

theorem quiet_D (I : Inv X pins σ H s) : ∀ (n : Nat) (d : D) (x : V) (u : Value) (A : Around) (Q : Bool → Shared → Prop) (E : Value → Shared → Prop), hasH n d = true → Rep X.K B H d x → RelV x u →
    Q true s → wpAny (model X.prog X.w) A (eqIsQuiet n u) Q E s := by
  intro n
  induction n using Nat.strongRecOn with
  | ind n ih =>
  intro d x u A Q E hd rd rx hQ
  cases d with
  | int i => simp only [Rep] at rd; subst rd; obtain ⟨t, rfl⟩ := rx; unfold eqIsQuiet; exact wpAny_pure hQ
  | str i => simp only [Rep] at rd; subst rd; obtain ⟨t, rfl⟩ := rx; unfold eqIsQuiet; exact wpAny_pure hQ
  | tup ds =>
    simp only [Rep] at rd; obtain ⟨a, xs, rfl, hp, hr⟩ := rd; cases rx
    obtain ⟨k, rfl, hd'⟩ := hasH_tup hd
    obtain ⟨its, rv, hta, _⟩ := I.tuple (SqT.of hp)
    obtain ⟨o, ho, hc, m, hdat⟩ := hta
    have hT : s.TypeIs (.ref a) "tuple" := ⟨o, ho, hc⟩
    unfold eqIsQuiet
    refine wpAny_bind (wpAny_specialOf hT F.slot_tuple_eq.lookup ?_)
    dsimp only
    refine wpAny_bind (wpAny_isInstance hT isSubtype_tuple_tuple ?_)
    simp only [Bool.not_true, Bool.false_eq_true, if_false]
    refine wpAny_bind (wpAny_seqItems ho hdat ?_)
    refine wpAny_bind ?_
    simp only [Option.getD_some]
    rw [← Array.forIn_toList]
    refine wpAny_forIn_list _
      (fun rest b s' => b.1 = none ∧ s' = s ∧ ∃ left ys, left.all (hasH k) = true ∧ Reps X.K B H left ys ∧ Vals ys rest)
      _ ?_ ?_ _ _ ⟨rfl, rfl, ds, xs, hd', hr, by simpa using rv⟩
    · rintro v rest b s' ⟨hb, rfl, left, ys, hall, hl, hv⟩
      cases left with
      | nil => simp only [Reps] at hl; subst hl; cases hv
      | cons d' left' =>
        cases hv with
        | @cons y _ ys' _ h1 hv' =>
        obtain ⟨r1, r2⟩ := hl.uncons
        rw [List.all_cons, Bool.and_eq_true] at hall
        refine wpAny_bind (ih k (by omega) d' y v _ _ _ hall.1 r1 h1 ?_)
        simp only [Bool.not_true, Bool.false_eq_true, if_false]
        exact wpAny_pure ⟨rfl, rfl, left', ys', hall.2, r2, hv'⟩
    · rintro ⟨b1, b2⟩ s' ⟨hb, rfl, _⟩
      simp only at hb; subst hb
      exact wpAny_pure hQ
  | non => simp [hasH] at hd
  | bl _ => simp [hasH] at hd
  | lst _ => simp [hasH] at hd
  | dT _ _ => simp [hasH] at hd
  | dK _ _ => simp [hasH] at hd

theorem plain_D (I : Inv X pins σ H s) : ∀ (n : Nat) (d : D) (x : V) (u : Value) (A : Around) (Q : Bool → Shared → Prop) (E : Value → Shared → Prop), hasH n d = true → Rep X.K B H d x → RelV x u →
    Q false s → wpAny (model X.prog X.w) A (ofAClassStatement n u) Q E s := by
  intro n
  induction n using Nat.strongRecOn with
  | ind n ih =>
  intro d x u A Q E hd rd rx hQ
  cases d with
  | int i => simp only [Rep] at rd; subst rd; obtain ⟨t, rfl⟩ := rx; unfold ofAClassStatement; exact wpAny_pure hQ
  | str i => simp only [Rep] at rd; subst rd; obtain ⟨t, rfl⟩ := rx; unfold ofAClassStatement; exact wpAny_pure hQ
  | tup ds =>
    simp only [Rep] at rd; obtain ⟨a, xs, rfl, hp, hr⟩ := rd; cases rx
    obtain ⟨k, rfl, hd'⟩ := hasH_tup hd
    obtain ⟨its, rv, hta, _⟩ := I.tuple (SqT.of hp)
    obtain ⟨o, ho, hc, m, hdat⟩ := hta
    have hT : s.TypeIs (.ref a) "tuple" := ⟨o, ho, hc⟩
    unfold ofAClassStatement
    refine wpAny_bind (wpAny_typeOf hT ?_)
    dsimp only
    rw [if_pos (by decide)]
    refine wpAny_bind (wpAny_pure ?_)
    simp only [Bool.not_true, Bool.false_eq_true, if_false]
    refine wpAny_bind (wpAny_seqItems ho hdat ?_)
    dsimp only
    refine wpAny_bind ?_
    rw [← Array.forIn_toList]
    refine wpAny_forIn_list _
      (fun rest b s' => b.1 = none ∧ s' = s ∧ ∃ left ys, left.all (hasH k) = true ∧ Reps X.K B H left ys ∧ Vals ys rest)
      _ ?_ ?_ _ _ ⟨rfl, rfl, ds, xs, hd', hr, by simpa using rv⟩
    · rintro v rest b s' ⟨hb, rfl, left, ys, hall, hl, hv⟩
      cases left with
      | nil => simp only [Reps] at hl; subst hl; cases hv
      | cons d' left' =>
        cases hv with
        | @cons y _ ys' _ h1 hv' =>
        obtain ⟨r1, r2⟩ := hl.uncons
        rw [List.all_cons, Bool.and_eq_true] at hall
        refine wpAny_bind (ih k (by omega) d' y v _ _ _ hall.1 r1 h1 ?_)
        simp only [Bool.false_eq_true, if_false]
        exact wpAny_pure ⟨rfl, rfl, left', ys', hall.2, r2, hv'⟩
    · rintro ⟨b1, b2⟩ s' ⟨hb, rfl, _⟩
      simp only at hb; subst hb
      exact wpAny_pure hQ
  | non => simp [hasH] at hd
  | bl _ => simp [hasH] at hd
  | lst _ => simp [hasH] at hd
  | dT _ _ => simp [hasH] at hd
  | dK _ _ => simp [hasH] at hd

theorem byVal_D (I : Inv X pins σ H s) : ∀ (n : Nat) (d : D) (x : V) (u : Value) (A : Around) (Q : Bool → Shared → Prop) (E : Value → Shared → Prop), hasH n d = true → Rep X.K B H d x → RelV x u →
    (∀ b, Q b s) → wpAny (model X.prog X.w) A (hashByValue n u) Q E s := by
  intro n
  induction n using Nat.strongRecOn with
  | ind n ih =>
  intro d x u A Q E hd rd rx hQ
  cases d with
  | int i => simp only [Rep] at rd; subst rd; obtain ⟨t, rfl⟩ := rx; unfold hashByValue; exact wpAny_pure (hQ _)
  | str i => simp only [Rep] at rd; subst rd; obtain ⟨t, rfl⟩ := rx; unfold hashByValue; exact wpAny_pure (hQ _)
  | tup ds =>
    simp only [Rep] at rd; obtain ⟨a, xs, rfl, hp, hr⟩ := rd; cases rx
    obtain ⟨k, rfl, hd'⟩ := hasH_tup hd
    obtain ⟨its, rv, hta, _⟩ := I.tuple (SqT.of hp)
    obtain ⟨o, ho, hc, m, hdat⟩ := hta
    have hT : s.TypeIs (.ref a) "tuple" := ⟨o, ho, hc⟩
    unfold hashByValue
    refine wpAny_bind (wpAny_specialOf hT F.slot_tuple_hash.lookup ?_)
    dsimp only
    refine wpAny_bind (wpAny_seqItems ho hdat ?_)
    refine wpAny_bind ?_
    simp only [Option.getD_some]
    rw [← Array.forIn_toList]
    refine wpAny_forIn_list _
      (fun rest b s' => s' = s ∧ ∃ left ys, left.all (hasH k) = true ∧ Reps X.K B H left ys ∧ Vals ys rest)
      _ ?_ ?_ _ _ ⟨rfl, ds, xs, hd', hr, by simpa using rv⟩
    · rintro v rest b s' ⟨rfl, left, ys, hall, hl, hv⟩
      cases left with
      | nil => simp only [Reps] at hl; subst hl; cases hv
      | cons d' left' =>
        cases hv with
        | @cons y _ ys' _ h1 hv' =>
        obtain ⟨r1, r2⟩ := hl.uncons
        rw [List.all_cons, Bool.and_eq_true] at hall
        refine wpAny_bind (ih k (by omega) d' y v _ _ _ hall.1 r1 h1 fun b => ?_)
        cases b with
        | true =>
          simp only [Bool.not_true, Bool.false_eq_true, if_false]
          exact wpAny_pure ⟨rfl, left', ys', hall.2, r2, hv'⟩
        | false =>
          simp only [Bool.not_false, if_true]
          exact wpAny_pure (by first | exact wpAny_pure (hQ _) | exact hQ _ | exact rfl)
    · rintro ⟨b1, b2⟩ s' ⟨rfl, _⟩
      cases b1 with
      | none => exact wpAny_pure (hQ _)
      | some b => exact wpAny_pure (hQ _)
  | non => simp [hasH] at hd
  | bl _ => simp [hasH] at hd
  | lst _ => simp [hasH] at hd
  | dT _ _ => simp [hasH] at hd
  | dK _ _ => simp [hasH] at hd
end
end L2

end

section
set_option maxHeartbeats 1000000
namespace L2
open PySem PySem.Spec PyProof.Rows

theorem Tab.fits {t : SetTable} {hs : List Int} (T : Tab t hs) (hf : t.place.size ≤ t.mask) : t.fits hs.length = true := by
  unfold SetTable.fits SetTable.fill
  rw [T.dum, T.len]
  rw [T.len] at hf
  simp [hf]
theorem Tab.odd {t : SetTable} {hs : List Int} (T : Tab t hs) : t.gaveWay = false := by
  unfold SetTable.gaveWay
  rcases T.msk with h | h | h <;> rw [h] <;> rfl
section
variable {prog : Program} {w : World} {A : Around} {E : Value → Shared → Prop} {s : Shared} {a : Addr} {o : Obj} {es : List (Int × Value)} {ep : Nat} {t : SetTable} {x : Value} {hx : Int}
theorem search_from (ho : s.heap.get? a = some o) (hd : o.data = .set es.toArray ep t) (T : Tab t (es.map (·.1))) (hf : t.place.size ≤ t.mask) (eqb : Value → Bool) (hrefs : ∀ e ∈ es, ∃ b, e.2 = .ref b)
    (heq : ∀ e ∈ es, e.1 = hx → SeqAt.EqAt A s e.2 x (eqb e.2)) (hquiet : ∀ l : List Value, (∀ y ∈ l, ∃ e ∈ es, e.2 = y) → ∀ Q : Bool → Shared → Prop, Q false s → wpAny (model prog w) A (searchCouldBeSeen x l) Q E s)
    {Q : SetFound → Shared → Prop} {N : Nat} (hN : N < 10 * SetTable.turns t.mask) (hw : ∀ m, m < N → ∃ k, t.slot (way t hx m) = .live k)
    (hend : (t.slot (way t hx N) = .empty ∧ (∀ e ∈ es, e.1 = hx → eqb e.2 = false) ∧ Q (.free (way t hx N) false) s) ∨ (∃ i e, t.slot (way t hx N) = .live i ∧ es[i]? = some e ∧ e.1 = hx ∧ eqb e.2 = true) ∧ Q (.there none) s)
    (hthere : (∃ e ∈ es, e.1 = hx ∧ eqb e.2 = true) → Q (.there none) s) :
    ∀ (fuel m : Nat) (st : Option SetTable.Probe), m ≤ N → N - m < fuel → st.getD (t.probeStart hx) = advN t m (t.probeStart hx) → wpAny (model prog w) A (setSearchFrom a x hx true fuel st) Q E s := by
  intro fuel
  induction fuel with
  | zero => intro m st _ h; exact absurd h (Nat.not_lt_zero _)
  | succ fuel ih =>
    intro m st hm hfu hst
    have hfit : t.fits es.toArray.size = true := by simpa using T.fits hf
    unfold setSearchFrom
    refine wpAny_bind (wpAny_setState_of ho hd hfit ?_)
    dsimp only
    rw [T.odd]
    simp only [Bool.false_eq_true, if_false]
    rw [hst]
    let hashAt : Nat → Int := fun i => (es.toArray[i]?.map (·.1)).getD 0
    have hat : ∀ i e, es[i]? = some e → hashAt i = e.1 := fun i e h => by show (es.toArray[i]?.map (·.1)).getD 0 = _; simp [h]
    have tellsN : t.slot (way t hx N) = .empty ∨ ∃ i, t.slot (way t hx N) = .live i ∧ (hashAt i == hx) = true := by
      rcases hend with ⟨h, _⟩ | ⟨⟨i, e, h1, h2, h3, _⟩, _⟩
      · exact .inl h
      · exact .inr ⟨i, h1, by rw [hat i e h2, h3]; exact beq_self_eq_true _⟩
    obtain ⟨n, hn, tell, before⟩ := least (P := fun k => t.slot (way t hx (m + k)) = .empty ∨ ∃ i, t.slot (way t hx (m + k)) = .live i ∧ (hashAt i == hx) = true) (n := N - m) (by rw [show m + (N - m) = N by omega]; exact tellsN)
    have hadd : ∀ k, (advN t k (advN t m (t.probeStart hx))).j = way t hx (m + k) := fun k => by rw [← advN_add]
    have live : ∀ k, k < n → ∃ i, t.slot (way t hx (m + k)) = .live i := fun k hk => hw (m + k) (by omega)
    obtain ⟨go1, go2⟩ := probe_go (t := t) (hashAt := hashAt) (h := hx) n (10 * SetTable.turns t.mask) (advN t m (t.probeStart hx)) (by omega) fun k hk => by
      obtain ⟨i, hi⟩ := live k hk
      refine ⟨i, by rw [hadd]; exact hi, ?_⟩
      cases q : (hashAt i == hx) with
      | false => rfl
      | true => exact absurd (.inr ⟨i, hi, q⟩) (before k hk)
    rw [hadd] at go1 go2
    have dum0 : (advN t n (advN t m (t.probeStart hx))).dummy = none := by rw [advN_dummy, advN_dummy]; rfl
    rw [dum0] at go1
    rcases tell with te | ⟨i, ti, hi⟩
    · -- an empty one: it is the last
      have hnN : m + n = N := by
        rcases Nat.lt_or_ge (m + n) N with z | z
        · obtain ⟨k, hk⟩ := hw (m + n) z; rw [te] at hk; cases hk
        · omega
      have hp : ∀ f : Nat → Int, f = hashAt → t.probe f hx (advN t m (t.probeStart hx)) = some (.empty (way t hx (m + n)) none) := fun f e => by rw [e]; exact go1 te
      rw [hp]
      rotate_left
      · rfl
      dsimp only
      rcases hend with ⟨_, _, h⟩ | ⟨⟨i, e, h1, _⟩, _⟩
      · rw [hnN]; exact wpAny_pure h
      · rw [← hnN, te] at h1; cases h1
    · have hp : ∀ f : Nat → Int, f = hashAt → t.probe f hx (advN t m (t.probeStart hx)) = some (.candidate (way t hx (m + n)) i (t.advance (advN t n (advN t m (t.probeStart hx))))) := fun f e => by rw [e]; exact go2 i ti hi
      rw [hp]
      rotate_left
      · rfl
      dsimp only
      obtain ⟨hil, hpl⟩ := slot_some ti
      have hie : i < es.length := by have := T.len; simp at this; omega
      have hes : es[i]? = some es[i] := by simp [hie]
      have hh : es[i].1 = hx := by
        have := hat i _ hes
        rw [this] at hi
        exact beq_iff_eq.mp hi
      have hmem : es[i] ∈ es := List.getElem_mem hie
      obtain ⟨b, hb⟩ := hrefs _ hmem
      have tail : wpAny (model prog w) A (do
          let some (_, y) := es.toArray[i]? | unsupported "internal:set-entry"
          let equal ← holding [y] (eqBool y x)
          let (es', _, t') ← setState a
          if true && equal then return .there none
          let some same := t'.sameMemory t.moves t.mask | unsupported "set.changed-during-lookup:is-the-new-block-at-the-old-address"
          let still ← match (if same then t'.slot (way t hx (m + n)) else .empty) with
            | .live i' => match es'[i']? with
              | some (_, y') => do pure (if ← isSame y' y then some i' else none)
              | none => pure none
            | _ => pure none
          match still with
          | none => rule "set.search.anew"; setSearchFrom a x hx true fuel none
          | some i' => if equal then return .there (some i') else setSearchFrom a x hx true fuel (some (t.advance (advN t n (advN t m (t.probeStart hx)))))) Q E s := by
        have e1 : es.toArray[i]? = some es[i] := by simp [hie]
        rw [e1]
        dsimp only
        refine wpAny_bind (wpAny_holding (heq _ hmem hh _ _ _ _ ?_))
        refine wpAny_bind (wpAny_setState_of ho hd hfit ?_)
        dsimp only
        cases hq : eqb es[i].2 with
        | true =>
          simp only [Bool.and_true, if_true]
          exact wpAny_pure (hthere ⟨_, hmem, hh, hq⟩)
        | false =>
          simp only [Bool.and_false, Bool.false_eq_true, if_false]
          have sm : t.sameMemory t.moves t.mask = some true := by unfold SetTable.sameMemory; rw [if_pos (beq_self_eq_true _)]
          rw [sm]
          dsimp only
          simp only [if_true]
          rw [ti]
          dsimp only
          rw [e1]
          dsimp only
          rw [hb]
          have e3 : isSame (.ref b) (.ref b) = pure true := by unfold isSame; dsimp only; rw [if_pos (beq_self_eq_true _)]
          rw [e3]
          refine wpAny_bind (wpAny_pure (wpAny_bind (wpAny_pure ?_)))
          simp only [if_true, Bool.false_eq_true, if_false]
          · have h1 : m + n + 1 ≤ N := by
              rcases Nat.lt_or_ge (m + n) N with z | z
              · omega
              · have zN : m + n = N := by omega
                rcases hend with ⟨h, _⟩ | ⟨⟨i', e, h1, h2, h3, h4⟩, _⟩
                · rw [← zN, ti] at h; cases h
                · rw [← zN, ti] at h1
                  cases h1
                  rw [hes] at h2; cases h2
                  rw [hq] at h4; cases h4
            refine ih (m + n + 1) _ h1 (by omega) ?_
            · show t.advance (advN t n (advN t m (t.probeStart hx))) = _
              rw [← advN_add, advN_succ]
      cases hled : t.led with
      | true =>
        simp only [Bool.not_true, Bool.false_eq_true, if_false]
        exact tail
      | false =>
        simp only [Bool.not_false, if_true]
        refine wpAny_bind (hquiet _ (fun y hy => ?_) _ ?_)
        · obtain ⟨e, he, rfl⟩ := List.mem_map.mp hy
          refine ⟨e, ?_, rfl⟩
          have : e ∈ (es.toArray.filter fun z => z.1 == hx).toList := he
          simp at this
          exact this.1
        · simp only [Bool.false_eq_true, if_false]
          exact tail
end
end L2

end

section
set_option maxHeartbeats 1000000
namespace L2
open PySem PySem.Spec PyProof.Rows

def SetAt (h : Heap) (a : Addr) (es : List (Int × Value)) (led : Bool) : Prop :=
  ∃ o ep t, h.get? a = some o ∧ o.ExactSet ∧ o.data = .set es.toArray ep t ∧ Tab t (es.map (·.1)) ∧ t.place.size * 5 < t.mask * 3 ∧ t.led = led
theorem Tab.plain {t : SetTable} {hs : List Int} (T : Tab t hs) (b : Bool) : Tab { t with plain := b } hs := by
  refine ⟨T.msk, T.dum, T.len, T.ris, T.le, fun i h j e1 e2 => ?_⟩
  obtain ⟨n, a1, a2, a3⟩ := T.rch i h j e1 e2
  refine ⟨n, a1, (way_mask (t := { t with plain := b }) (u := t) rfl _ _).trans a2, fun m hm => ?_⟩
  rw [way_mask (t := { t with plain := b }) (u := t) rfl]
  exact a3 m hm
theorem order_es {es : List (Int × Value)} {order : List Nat} (h : order.Perm (List.range es.length)) : (order.filterMap (es[·]?)).Perm es ∧ (order.filterMap (es[·]?)).map (·.1) = order.map fun i => (es.map (·.1)).getD i 0 := by
  refine ⟨?_, ?_⟩
  · have h1 := h.filterMap (es[·]?)
    rw [List.filterMap_getElem?_range_length] at h1
    exact h1
  · have hl : ∀ i ∈ order, i < es.length := fun i hi => List.mem_range.mp (h.mem_iff.mp hi)
    clear h
    induction order with
    | nil => rfl
    | cons i order ih =>
      have hi := hl i (List.mem_cons_self ..)
      rw [List.filterMap_cons, List.map_cons]
      simp only [List.getElem?_eq_getElem hi, List.map_cons]
      rw [ih fun k hk => hl k (List.mem_cons_of_mem _ hk)]
      simp [hi]
section
variable {prog : Program} {w : World} {A : Around} {E : Value → Shared → Prop} {s : Shared} {a : Addr}
theorem relay_eq (a : Addr) (wanted : Nat) : setRelay a wanted = (do
    let (es, _, t) ← setState a
    if SetTable.sizeAbove wanted > sizeLine then unsupported "set:memory"
    let (es, t) ← (do
      let some (t, order) := t.relaid (es.map (·.1)) wanted | unsupported "internal:set-table-without-room"
      let es' := order.filterMap (es[·]?)
      if es'.size != es.size then unsupported "internal:set-table-lost-an-element"
      pure (es', t))
    storeSet a es t) := rfl
theorem set_store {h : Heap} {o : Obj} {es es' : Array (Int × Value)} {ep : Nat} {t t' : SetTable} (ho : h.get? a = some o) (hd : o.data = .set es ep t) : (h.update a (Obj.putSet es' t')).get? a = some { o with data := .set es' (ep + 1) t' } := by
  have := Heap.get?_update_self (Obj.putSet es' t') ho (by rw [putSet_of es' t' hd]; rfl)
  rw [putSet_of es' t' hd] at this; exact this

theorem adv_le {t : SetTable} {p : SetTable.Probe} (h : p.j + p.more ≤ t.mask) : (t.advance p).j + (t.advance p).more ≤ t.mask := by
  unfold SetTable.advance
  split
  · dsimp only; omega
  · unfold SetTable.leap
    dsimp only
    have h1 : (p.i * 5 + 1 + p.perturb / 32) % (t.mask + 1) < t.mask + 1 := Nat.mod_lt _ (Nat.succ_pos _)
    have := run_lt h1
    have := run_ge t.mask ((p.i * 5 + 1 + p.perturb / 32) % (t.mask + 1))
    omega
theorem at_way (t : SetTable) (hx : Int) (n : Nat) : ∃ m, m ≤ t.mask ∧ way t hx n = m := by
  have : ∀ n, (advN t n (t.probeStart hx)).j + (advN t n (t.probeStart hx)).more ≤ t.mask := fun n => by
    induction n with
    | zero =>
      show (t.probeStart hx).j + (t.probeStart hx).more ≤ t.mask
      unfold SetTable.probeStart
      dsimp only
      have h1 : SetTable.bits hx % (t.mask + 1) < t.mask + 1 := Nat.mod_lt _ (Nat.succ_pos _)
      have := run_lt h1
      have := run_ge t.mask (SetTable.bits hx % (t.mask + 1))
      omega
    | succ n ih => rw [advN_succ]; exact adv_le ih
  exact ⟨_, by have := this n; show (advN t n (t.probeStart hx)).j ≤ t.mask; omega, rfl⟩

theorem relay_ok {o : Obj} {es : List (Int × Value)} {ep : Nat} {t : SetTable} {wanted mask' : Nat} {Q : Unit → Shared → Prop} (ho : s.heap.get? a = some o) (hex : o.ExactSet) (hd : o.data = .set es.toArray ep t) (T : Tab t (es.map (·.1))) (hf : t.place.size ≤ t.mask)
    (hw : SetTable.sizeAbove wanted = mask' + 1) (hm : Msk mask') (hfew : es.length * 5 < mask' * 3)
    (h : ∀ es' t', es'.Perm es → SetAt (s.heap.update a (Obj.putSet es'.toArray t')) a es' t.led → Q () { s with heap := s.heap.update a (Obj.putSet es'.toArray t') }) :
    wpAny (model prog w) A (setRelay a wanted) Q E s := by
  have hsz : mask' ≤ 127 := by rcases hm with h | h | h <;> omega
  have hel : es.length ≤ mask' := by omega
  obtain ⟨t', order, e1, e2, e3, e4, e5, e6, e7⟩ := laid_ok hm (es.map (·.1)) (by simpa using hel) t.finger (t.movedTo (SetTable.sizeAbove wanted - 1)) t.led t.plain
  rw [List.length_map] at e2 e7
  obtain ⟨p1, p2⟩ := order_es e2
  rw [relay_eq]
  have hfit : t.fits es.toArray.size = true := by simpa using T.fits hf
  refine wpAny_bind (wpAny_setState_of ho hd hfit ?_)
  dsimp only
  rw [if_neg (by rw [hw, sizeLine_eq]; omega)]
  have er : t.relaid (es.toArray.map (·.1)) wanted = some (t', order) := by
    unfold SetTable.relaid
    rw [List.map_toArray, hw, Nat.add_sub_cancel]
    rw [hw, Nat.add_sub_cancel] at e1
    exact e1
  rw [er]
  dsimp only
  have es' : (order.filterMap (es.toArray[·]?)).toList = order.toList.filterMap (es[·]?) := by simp
  have el : (order.filterMap (es.toArray[·]?)) = (order.toList.filterMap (es[·]?)).toArray := by rw [← es']
  rw [el]
  have hlen : (order.toList.filterMap (es[·]?)).length = es.length := p1.length_eq
  have hne : ((order.toList.filterMap (es[·]?)).toArray.size != es.toArray.size) = false := by simp [hlen]
  rw [hne]
  simp only [Bool.false_eq_true, if_false]
  refine wpAny_bind (wpAny_pure ?_)
  dsimp only
  refine wpAny_storeSet_of ho hd ?_ (by rw [sizeLine_eq]; simp [hlen]; omega)
  refine h _ t' p1 ?_
  exact ⟨_, ep + 1, t', set_store ho hd, hex, rfl, by rw [p2]; exact e3, by rw [e7, e4]; exact hfew, e5⟩

theorem add_tail {o : Obj} {es : List (Int × Value)} {ep : Nat} {t : SetTable} {x : Value} {hx : Int} {n : Nat} {Q : Bool → Shared → Prop} (ho : s.heap.get? a = some o) (hex : o.ExactSet) (hd : o.data = .set es.toArray ep t) (T : Tab t (es.map (·.1)))
    (hf : t.place.size * 5 < t.mask * 3) (h75 : es.length ≤ 75) (hn : n < 10 * SetTable.turns t.mask) (he : t.slot (way t hx n) = .empty) (hw : ∀ m, m < n → ∃ k, t.slot (way t hx m) = .live k)
    (hbv : ∀ R : Bool → Shared → Prop, (∀ b, R b s) → wpAny (model prog w) A (hashByValue 8 x) R E s) {J : Nat} (hJ : way t hx n = J)
    (h : ∀ h' es', Heap.SameBut a s.heap h' → es'.Perm ((hx, x) :: es) → SetAt h' a es' t.led → Q true { s with heap := h' }) :
    wpAny (model prog w) A (do
      let (es, _, t) ← setState a
      let (t, p) := t.put J
      let byValue ← if t.plain then hashByValue 8 x else pure true
      let t := if byValue then t else { t with plain := false }
      storeSet a (SetTable.insertAt es p (hx, x)) t
      if !false && t.tooFull then setRelay a (SetTable.grown (es.size + 1))
      return true) Q E s := by
  subst hJ
  have hl := T.len
  rw [List.length_map] at hl
  have hfit : t.fits es.toArray.size = true := by simpa using T.fits (by omega)
  refine wpAny_bind (wpAny_setState_of ho hd hfit ?_)
  dsimp only
  have hjm : way t hx n ≤ t.mask := by
    obtain ⟨m, hm, e⟩ := at_way t hx n
    omega
  obtain ⟨T1, hp⟩ := T.put hn he hw hjm
  rw [List.length_map] at hp
  generalize ht1 : (t.put (way t hx n)).1 = t1 at T1 ⊢
  generalize hp1 : (t.put (way t hx n)).2 = p at T1 hp ⊢
  have hm1 : t1.mask = t.mask := by rw [← ht1]; rfl
  have hl1 : t1.led = t.led := by rw [← ht1]; rfl
  have ei : SetTable.insertAt es.toArray p (hx, x) = (es.take p ++ (hx, x) :: es.drop p).toArray := by
    apply Array.ext'
    rw [SetTable.toList_insertAt]
  have emap : (es.take p ++ (hx, x) :: es.drop p).map (·.1) = (es.map (·.1)).take p ++ hx :: (es.map (·.1)).drop p := by
    rw [List.map_append, List.map_cons, List.map_take, List.map_drop]
  have eperm : (es.take p ++ (hx, x) :: es.drop p).Perm ((hx, x) :: es) := by
    have := List.perm_middle (a := (hx, x)) (l₁ := es.take p) (l₂ := es.drop p)
    rwa [List.take_append_drop] at this
  have elen : (es.take p ++ (hx, x) :: es.drop p).length = es.length + 1 := eperm.length_eq
  rw [← emap] at T1
  rw [ei]
  generalize hes1 : es.take p ++ (hx, x) :: es.drop p = es1 at T1 eperm elen ⊢
  have core : ∀ b : Bool, wpAny (model prog w) A (do
      storeSet a es1.toArray (if b = true then t1 else { t1 with plain := false })
      if (!false && (if b = true then t1 else { t1 with plain := false }).tooFull) = true then do
          setRelay a (SetTable.grown (es.toArray.size + 1))
          pure true
        else pure true) Q E s := fun b => by
    have Tb : Tab (if b = true then t1 else { t1 with plain := false }) (es1.map (·.1)) := by
      cases b with
      | true => exact T1
      | false => exact T1.plain false
    have mb : (if b = true then t1 else { t1 with plain := false }).mask = t.mask := by cases b <;> exact hm1
    have lb : (if b = true then t1 else { t1 with plain := false }).led = t.led := by cases b <;> exact hl1
    generalize (if b = true then t1 else { t1 with plain := false }) = tb at Tb mb lb ⊢
    have plb := Tb.len
    rw [List.length_map] at plb
    refine wpAny_bind (wpAny_storeSet_of ho hd ?_ (by rw [sizeLine_eq]; simp [elen]; omega))
    have hst := set_store (es' := es1.toArray) (t' := tb) ho hd
    have hsb : Heap.SameBut a s.heap (s.heap.update a (Obj.putSet es1.toArray tb)) := Heap.SameBut.update s.heap a _
    have tf : tb.tooFull = decide (tb.place.size * 5 ≥ tb.mask * 3) := by
      unfold SetTable.tooFull SetTable.fill
      rw [Tb.dum]
      rfl
    cases hfull : tb.tooFull with
    | false =>
      simp only [Bool.not_false, Bool.and_false, Bool.false_eq_true, if_false]
      rw [hfull] at tf
      have := of_decide_eq_false tf.symm
      exact wpAny_pure (h _ es1 hsb eperm ⟨_, ep + 1, tb, hst, hex, rfl, Tb, by omega, lb⟩)
    | true =>
      simp only [Bool.not_false, Bool.and_true, if_true]
      rw [hfull] at tf
      have hge := of_decide_eq_true tf.symm
      have hsz : es.toArray.size = es.length := by simp
      rw [hsz]
      have go : ∀ wanted mask', SetTable.grown (es.length + 1) = wanted → SetTable.sizeAbove wanted = mask' + 1 → Msk mask' → es1.length * 5 < mask' * 3 →
          wpAny (model prog w) A (do setRelay a (SetTable.grown (es.length + 1)); pure true) Q E { s with heap := s.heap.update a (Obj.putSet es1.toArray tb) } := fun wanted mask' e1 e2 e3 e4 => by
        rw [e1]
        refine wpAny_bind (relay_ok (s := { s with heap := s.heap.update a (Obj.putSet es1.toArray tb) }) (o := { o with data := .set es1.toArray (ep + 1) tb }) hst hex rfl Tb (by omega) e2 e3 e4 fun es2 t2 p2 S2 => ?_)
        rw [lb] at S2
        exact wpAny_pure (h _ es2 (hsb.trans (Heap.SameBut.update _ a _)) (p2.trans eperm) S2)
      rcases T.msk with z | z | z
      · have : es.length = 4 := by omega
        exact go 20 31 (by rw [this]; rfl) (by decide) (.inr (.inl rfl)) (by omega)
      · have : es.length = 18 := by omega
        exact go 76 127 (by rw [this]; rfl) (by decide) (.inr (.inr rfl)) (by omega)
      · omega
  cases hpl : t1.plain with
  | true =>
    simp only [if_true]
    exact wpAny_bind (hbv _ fun b => core b)
  | false =>
    simp only [Bool.false_eq_true, if_false]
    exact wpAny_bind (wpAny_pure (core true))
end
end L2

end

section
set_option maxHeartbeats 1000000
namespace L2
open PySem PySem.Spec PyProof.Rows

section
variable {prog : Program} {w : World} {A : Around} {E : Value → Shared → Prop} {s : Shared} {a : Addr}

theorem add_ref {es : List (Int × Value)} {led : Bool} {b : Addr} {hx : Int} {Q : Bool → Shared → Prop} (S : SetAt s.heap a es led) (h75 : es.length ≤ 75) (eqb : Value → Bool) (hrefs : ∀ e ∈ es, ∃ b, e.2 = .ref b)
    (heq : ∀ e ∈ es, e.1 = hx → SeqAt.EqAt A s e.2 (.ref b) (eqb e.2)) (himp : ∀ e ∈ es, eqb e.2 = true → e.1 = hx)
    (hquiet : ∀ l : List Value, (∀ y ∈ l, ∃ e ∈ es, e.2 = y) → ∀ Q : Bool → Shared → Prop, Q false s → wpAny (model prog w) A (searchCouldBeSeen (.ref b) l) Q E s)
    (hbv : ∀ R : Bool → Shared → Prop, (∀ b, R b s) → wpAny (model prog w) A (hashByValue 8 (.ref b)) R E s)
    (h1 : (∃ e ∈ es, eqb e.2 = true) → Q false s)
    (h2 : (∀ e ∈ es, eqb e.2 = false) → ∀ h' es', Heap.SameBut a s.heap h' → es'.Perm ((hx, .ref b) :: es) → SetAt h' a es' led → Q true { s with heap := h' }) :
    wpAny (model prog w) A (setAddHashed a (.ref b) hx) Q E s := by
  obtain ⟨o, ep, t, ho, hex, hd, T, hf, hled⟩ := S
  have hl := T.len
  rw [List.length_map] at hl
  have hfm : t.place.size ≤ t.mask := by omega
  have hfit : t.fits es.toArray.size = true := by simpa using T.fits hfm
  unfold setAddHashed setAddHashedIn
  refine wpAny_holding (wpAny_bind (wpAny_setState_of ho hd hfit ?_))
  dsimp only
  have hbs : byScan (.ref b) es.toArray = false := by unfold byScan Value.scannable; rfl
  rw [hbs]
  simp only [Bool.false_eq_true, if_false]
  unfold setSearch
  by_cases hyes : ∃ e ∈ es, eqb e.2 = true
  · obtain ⟨e, hem, heb⟩ := hyes
    obtain ⟨i, hi, rfl⟩ := List.mem_iff_getElem.mp hem
    have hh := himp _ hem heb
    have hip : i < t.place.size := by omega
    obtain ⟨N, n1, n2, n3⟩ := T.rch i es[i].1 t.place[i] (by simp [hi]) (by simp [hip])
    rw [hh] at n2 n3
    refine wpAny_bind (search_from ho hd T hfm eqb hrefs heq hquiet n1 n3 (.inr ⟨⟨i, es[i], by rw [n2]; exact slot_live T.ris hip, by simp [hi], hh, heb⟩, ?_⟩) (fun _ => ?_) 100000 0 none (Nat.zero_le _) ?_ rfl)
    · exact wpAny_pure (h1 ⟨_, hem, heb⟩)
    · exact wpAny_pure (h1 ⟨_, hem, heb⟩)
    · have : SetTable.turns t.mask ≤ 142 := by unfold SetTable.turns; rcases T.msk with z | z | z <;> omega
      omega
  · have hno : ∀ e ∈ es, eqb e.2 = false := fun e he => by
      cases q : eqb e.2 with
      | false => rfl
      | true => exact absurd ⟨e, he, q⟩ hyes
    obtain ⟨N, n1, n2, n3⟩ := T.free hfm hx
    refine wpAny_bind (search_from ho hd T hfm eqb hrefs heq hquiet n1 n3 (.inl ⟨n2, fun e he _ => hno e he, ?_⟩) (fun ⟨e, he, _, q⟩ => absurd ⟨e, he, q⟩ hyes) 100000 0 none (Nat.zero_le _) ?_ rfl)
    · exact add_tail ho hex hd T hf h75 n1 n2 n3 hbv rfl fun h' es' k p S' => h2 hno h' es' k p (hled ▸ S')
    · have : SetTable.turns t.mask ≤ 142 := by unfold SetTable.turns; rcases T.msk with z | z | z <;> omega
      omega

theorem freeSlot_eq {t : SetTable} {hs : List Int} (T : Tab t hs) {hx : Int} {n : Nat} (hn : n < 10 * SetTable.turns t.mask) (he : t.slot (way t hx n) = .empty) (hw : ∀ m, m < n → ∃ k, t.slot (way t hx m) = .live k) :
    t.freeSlot hx = some (way t hx n, false) := by
  unfold SetTable.freeSlot
  have := (probe_go (t := t) (hashAt := fun _ => hx + 1) (h := hx) n (10 * SetTable.turns t.mask) (t.probeStart hx) hn fun m hm => by
    obtain ⟨k, hk⟩ := hw m hm
    refine ⟨k, hk, ?_⟩
    simp only [beq_eq_false_iff_ne, ne_eq]
    omega).1 he
  have e : t.probe (fun _ => hx + 1) hx (t.probeStart hx) = some (.empty (way t hx n) none) := by
    unfold SetTable.probe
    rw [this, advN_dummy]
    rfl
  rw [e]
  rfl
theorem add_scan {es : List (Int × Value)} {led : Bool} {k : Key} {x : Value} {Q : Bool → Shared → Prop} (S : SetAt s.heap a es led) (h75 : es.length ≤ 75) (hkey : (mixKind prog w).is k x = true) (hsc : x.scannable = true) (hel : ElemsOf (mixKind prog w) es)
    (h1 : (∃ e ∈ es, (mixKind prog w).is k e.2 = true) → Q false s)
    (h2 : (∀ e ∈ es, (mixKind prog w).is k e.2 = false) → ∀ h' es', Heap.SameBut a s.heap h' → es'.Perm (((mixKind prog w).hash k, x) :: es) → SetAt h' a es' led → Q true { s with heap := h' }) :
    wpAny (model prog w) A (setAddHashed a x ((mixKind prog w).hash k)) Q E s := by
  obtain ⟨o, ep, t, ho, hex, hd, T, hf, hled⟩ := S
  have hl := T.len
  rw [List.length_map] at hl
  have hfm : t.place.size ≤ t.mask := by omega
  have hfit : t.fits es.toArray.size = true := by simpa using T.fits hfm
  have hel' : ElemsOf (mixKind prog w) es.toArray.toList := by simpa using hel
  unfold setAddHashed setAddHashedIn
  refine wpAny_holding (wpAny_bind (wpAny_setState_of ho hd hfit ?_))
  dsimp only
  rw [byScan_of hsc (by unfold scanBound; simp; omega) hel']
  simp only [↓reduceIte]
  unfold setAddByScan
  refine wpAny_bind ?_
  refine wpAny_bind (wpAny_rule ?_)
  refine wpAny_bind (wpAny_setScan_of hkey ho hd hfit hel' ?_)
  cases hr : List.findIdx? (fun e => (mixKind prog w).is k e.2) es.toArray.toList with
  | some j =>
    dsimp only
    obtain ⟨hj, hpj, _⟩ := List.findIdx?_eq_some_iff_getElem.mp hr
    refine wpAny_pure (wpAny_pure (h1 ⟨es[j]'(by simpa using hj), List.getElem_mem _, by simpa using hpj⟩))
  | none =>
    dsimp only
    have hno : ∀ e ∈ es, (mixKind prog w).is k e.2 = false := fun e he => List.findIdx?_eq_none_iff.mp hr e (by simpa using he)
    obtain ⟨n, n1, n2, n3⟩ := T.free hfm ((mixKind prog w).hash k)
    generalize hhx : (mixKind prog w).hash k = hx at n1 n2 n3 h2 ⊢
    have hjm : way t hx n ≤ t.mask := by obtain ⟨m, hm, e⟩ := at_way t hx n; omega
    obtain ⟨T1, hp⟩ := T.put n1 n2 n3 hjm
    rw [List.length_map] at hp
    generalize ht1 : (t.put (way t hx n)).1 = t1 at T1
    generalize hp1 : (t.put (way t hx n)).2 = p at T1 hp
    have hm1 : t1.mask = t.mask := by rw [← ht1]; rfl
    have hl1 : t1.led = t.led := by rw [← ht1]; rfl
    have ei : SetTable.insertAt es.toArray p (hx, x) = (es.take p ++ (hx, x) :: es.drop p).toArray := by
      apply Array.ext'
      rw [SetTable.toList_insertAt]
    have emap : (es.take p ++ (hx, x) :: es.drop p).map (·.1) = (es.map (·.1)).take p ++ hx :: (es.map (·.1)).drop p := by
      rw [List.map_append, List.map_cons, List.map_take, List.map_drop]
    have eperm : (es.take p ++ (hx, x) :: es.drop p).Perm ((hx, x) :: es) := by
      have := List.perm_middle (a := (hx, x)) (l₁ := es.take p) (l₂ := es.drop p)
      rwa [List.take_append_drop] at this
    have elen : (es.take p ++ (hx, x) :: es.drop p).length = es.length + 1 := eperm.length_eq
    rw [← emap] at T1
    generalize hes1 : es.take p ++ (hx, x) :: es.drop p = es1 at T1 eperm elen ei
    have pl1 := T1.len
    rw [List.length_map] at pl1
    have hfit1 : t1.fits es1.toArray.size = true := by simpa using T1.fits (by omega)
    have elay : layNew t es.toArray hx x = (es1.toArray, t1, false, false) := by
      unfold layNew
      rw [freeSlot_eq T n1 n2 n3]
      dsimp only
      rw [show t.put (way t hx n) = (t1, p) from Prod.ext ht1 hp1]
      dsimp only
      rw [ei]
      unfold SetTable.orStandIn
      rw [hfit1]
      rfl
    rw [elay]
    dsimp only
    refine wpAny_bind (wpAny_pure ?_)
    have core : ∀ b : Bool, wpAny (model prog w) A (do
        storeSet a es1.toArray (if b = true then t1 else { t1 with plain := false })
        if (!false && (if b = true then t1 else { t1 with plain := false }).tooFull) = true then do
            (match (relayAll (if b = true then t1 else { t1 with plain := false }) es1.toArray (SetTable.grown es1.toArray.size)).2.2 with | true => rule "set.scan.the-table-gave-way" | false => pure ())
            storeSet a (relayAll (if b = true then t1 else { t1 with plain := false }) es1.toArray (SetTable.grown es1.toArray.size)).1 (relayAll (if b = true then t1 else { t1 with plain := false }) es1.toArray (SetTable.grown es1.toArray.size)).2.1
            pure (some true)
          else pure (some true)) (fun r s' => wpAny (model prog w) A (match r with | some added => pure added | none => setAddHashedIn a x hx 99999) Q E s') E s := fun b => by
      have Tb : Tab (if b = true then t1 else { t1 with plain := false }) (es1.map (·.1)) := by
        cases b with
        | true => exact T1
        | false => exact T1.plain false
      have mb : (if b = true then t1 else { t1 with plain := false }).mask = t.mask := by cases b <;> exact hm1
      have lb : (if b = true then t1 else { t1 with plain := false }).led = t.led := by cases b <;> exact hl1
      generalize (if b = true then t1 else { t1 with plain := false }) = tb at Tb mb lb ⊢
      have plb := Tb.len
      rw [List.length_map] at plb
      refine wpAny_bind (wpAny_storeSet_of ho hd ?_ (by rw [sizeLine_eq]; simp [elen]; omega))
      have hst := set_store (es' := es1.toArray) (t' := tb) ho hd
      have hsb : Heap.SameBut a s.heap (s.heap.update a (Obj.putSet es1.toArray tb)) := Heap.SameBut.update s.heap a _
      have tf : tb.tooFull = decide (tb.place.size * 5 ≥ tb.mask * 3) := by
        unfold SetTable.tooFull SetTable.fill
        rw [Tb.dum]
        rfl
      cases hfull : tb.tooFull with
      | false =>
        simp only [Bool.not_false, Bool.and_false, Bool.false_eq_true, if_false]
        rw [hfull] at tf
        have := of_decide_eq_false tf.symm
        exact wpAny_pure (wpAny_pure (h2 hno _ es1 hsb eperm ⟨_, ep + 1, tb, hst, hex, rfl, Tb, by omega, lb.trans hled⟩))
      | true =>
        simp only [Bool.not_false, Bool.and_true, if_true]
        rw [hfull] at tf
        have hge := of_decide_eq_true tf.symm
        have hsz : es1.toArray.size = es.length + 1 := by simp [elen]
        have go : ∀ wanted mask', SetTable.grown (es.length + 1) = wanted → SetTable.sizeAbove wanted = mask' + 1 → Msk mask' → es1.length * 5 < mask' * 3 →
            ∃ (es2 : List (Int × Value)) (t2 : SetTable), relayAll tb es1.toArray (SetTable.grown es1.toArray.size) = (es2.toArray, t2, false) ∧ es2.Perm es1 ∧ Tab t2 (es2.map (·.1)) ∧ t2.place.size * 5 < t2.mask * 3 ∧ t2.led = t.led := fun wanted mask' e1 e2 e3 e4 => by
          obtain ⟨t', order, q1, q2, q3, q4, q5, q6, q7⟩ := laid_ok e3 (es1.map (·.1)) (by simp; omega) tb.finger (tb.movedTo mask') tb.led tb.plain
          rw [List.length_map] at q2 q7
          obtain ⟨p1, p2⟩ := order_es q2
          refine ⟨order.toList.filterMap (es1[·]?), t', ?_, p1, by rw [p2]; exact q3, by rw [q7, q4]; exact e4, q5.trans lb⟩
          unfold relayAll
          have er : tb.relaid (es1.toArray.map (·.1)) (SetTable.grown es1.toArray.size) = some (t', order) := by
            unfold SetTable.relaid
            rw [List.map_toArray, hsz, e1, e2, Nat.add_sub_cancel]
            exact q1
          rw [er]
          dsimp only
          have el : (order.filterMap (es1.toArray[·]?)) = (order.toList.filterMap (es1[·]?)).toArray := by apply Array.ext'; simp
          rw [el]
          have hlen : (order.toList.filterMap (es1[·]?)).length = es1.length := p1.length_eq
          have c1 : coversAll order es1.toArray.size = true := by
            unfold coversAll
            rw [List.isPerm_iff]
            simpa using q2
          have c2 : t'.fits (order.toList.filterMap (es1[·]?)).toArray.size = true := by
            have := q3.fits (by rw [q7, q4]; omega)
            rw [List.length_map] at this
            have ho' := q2.length_eq
            rw [List.length_range] at ho'
            rw [List.size_toArray, hlen, ← ho']
            exact this
          rw [c1, c2]
          rfl
        have fin : ∃ (es2 : List (Int × Value)) (t2 : SetTable), relayAll tb es1.toArray (SetTable.grown es1.toArray.size) = (es2.toArray, t2, false) ∧ es2.Perm es1 ∧ Tab t2 (es2.map (·.1)) ∧ t2.place.size * 5 < t2.mask * 3 ∧ t2.led = t.led := by
          rcases T.msk with z | z | z
          · have : es.length = 4 := by omega
            exact go 20 31 (by rw [this]; rfl) (by decide) (.inr (.inl rfl)) (by omega)
          · have : es.length = 18 := by omega
            exact go 76 127 (by rw [this]; rfl) (by decide) (.inr (.inr rfl)) (by omega)
          · omega
        obtain ⟨es2, t2, r1, r2, r3, r4, r5⟩ := fin
        rw [r1]
        dsimp only
        refine wpAny_bind (wpAny_pure ?_)
        refine wpAny_bind (wpAny_storeSet_of (s := { s with heap := s.heap.update a (Obj.putSet es1.toArray tb) }) (o := { o with data := .set es1.toArray (ep + 1) tb }) hst rfl ?_ (by rw [sizeLine_eq]; have := r2.length_eq; simp [this, elen]; omega))
        refine wpAny_pure (wpAny_pure (h2 hno _ es2 (hsb.trans (Heap.SameBut.update _ a _)) (r2.trans eperm) ⟨_, ep + 2, t2, set_store (o := { o with data := .set es1.toArray (ep + 1) tb }) hst rfl, hex, rfl, r3, r4, r5.trans hled⟩))
    split
    · refine wpAny_bind ?_
      rw [hashByValue_scannable 8 hsc]
      exact wpAny_pure (core (plainKind x))
    · exact wpAny_bind (wpAny_pure (core true))
end
end L2

end

section
set_option maxHeartbeats 1000000
namespace L2
open PySem PySem.Spec PyProof.Rows

def scD : D → Bool
  | .int _ => true
  | .str _ => true
  | _ => false
theorem hasH_okD : ∀ {n : Nat} {d : D}, hasH n d = true → okD n d = true := by
  intro n
  induction n using Nat.strongRecOn with
  | ind n ih =>
  intro d h
  cases d with
  | int i => cases n <;> rfl
  | str i => cases n <;> rfl
  | tup ds =>
    obtain ⟨k, rfl, h'⟩ := hasH_tup h
    show ds.all (okD k) = true
    rw [List.all_eq_true] at h' ⊢
    exact fun x hx => ih k (by omega) (h' x hx)
  | non => cases n <;> simp [hasH] at h
  | bl _ => cases n <;> simp [hasH] at h
  | lst _ => cases n <;> simp [hasH] at h
  | dT _ _ => cases n <;> simp [hasH] at h
  | dK _ _ => cases n <;> simp [hasH] at h
abbrev El := D × V × Value
structure ElOk (K : PySem.W.Frag) (B : Addr → Prop) (H : Hp) (sc : Bool) (t : El) : Prop where
  rep : Rep K B H t.1 t.2.1
  rel : RelV t.2.1 t.2.2
  has : hasH 8 t.1 = true
  sc : scD t.1 = sc
abbrev elE (w : World) (t : El) : Int × Value := (hashD w t.1, t.2.2)
theorem perm_map {α β : Type} (f : α → β) : ∀ {l1 l2 : List β}, l1.Perm l2 → ∀ l : List α, l2 = l.map f → ∃ l' : List α, l'.Perm l ∧ l1 = l'.map f := by
  intro l1 l2 p
  induction p with
  | nil => intro l h; exact ⟨l, List.Perm.refl _, h⟩
  | cons x p ih =>
    intro l h
    cases l with
    | nil => cases h
    | cons a l =>
      simp only [List.map_cons, List.cons.injEq] at h
      obtain ⟨l', p', e'⟩ := ih l h.2
      exact ⟨a :: l', List.Perm.cons a p', by rw [List.map_cons, h.1, e']⟩
  | swap x y l0 =>
    intro l h
    cases l with
    | nil => cases h
    | cons a l =>
      cases l with
      | nil => cases h
      | cons b l =>
        simp only [List.map_cons, List.cons.injEq] at h
        exact ⟨b :: a :: l, List.Perm.swap a b l, by rw [List.map_cons, List.map_cons, h.1, h.2.1, h.2.2]⟩
  | trans p q ih1 ih2 =>
    intro l h
    obtain ⟨l2, p2, e2⟩ := ih2 l h
    obtain ⟨l1, p1, e1⟩ := ih1 l2 e2
    exact ⟨l1, p1.trans p2, e1⟩
section
variable {X : Cx} {pins : List (Addr × Obj)} {σ : St} {H : Hp} {s : Shared} {B : Addr → Prop} {A : Around} {E : Value → Shared → Prop} {a : Addr} {sc led : Bool}
theorem ref_of {t : El} (h : ElOk X.K B H false t) : ∃ b, t.2.1 = .ref b ∧ t.2.2 = .ref b := by
  obtain ⟨d, x, u⟩ := t
  have r := h.rep
  have q := h.rel
  have hs := h.sc
  have hh := h.has
  cases d with
  | tup ds =>
    simp only [Rep] at r
    obtain ⟨b, xs, rfl, _⟩ := r
    exact ⟨b, rfl, q⟩
  | int i => cases hs
  | str i => cases hs
  | non => simp [hasH] at hh
  | bl _ => simp [hasH] at hh
  | lst _ => simp [hasH] at hh
  | dT _ _ => simp [hasH] at hh
  | dK _ _ => simp [hasH] at hh
theorem elKey {t : El} (h : ElOk X.K B H true t) : ∃ k : Key, (mixKind X.prog X.w).is k t.2.2 = true ∧ t.2.2.scannable = true ∧ (mixKind X.prog X.w).hash k = hashD X.w t.1 ∧ ∀ t' : El, ElOk X.K B H true t' → (mixKind X.prog X.w).is k t'.2.2 = decide (t'.1 = t.1) := by
  obtain ⟨d, x, u⟩ := t
  have r := h.rep
  have q := h.rel
  have hs := h.sc
  cases d with
  | int i =>
    simp only [Rep] at r; subst r
    obtain ⟨tk, rfl⟩ := q
    refine ⟨.inl i, mixKind_int _ _ _ _, rfl, by simp only [hashD]; rfl, fun t' h' => ?_⟩
    obtain ⟨d', x', u'⟩ := t'
    have r' := h'.rep
    have q' := h'.rel
    have s' := h'.sc
    cases d' with
    | int j =>
      simp only [Rep] at r'; subst r'
      obtain ⟨tk', rfl⟩ := q'
      rw [KeyKind.is_eq_decide (mixKind_int X.prog X.w j tk') (.inl i)]
      simp only [Sum.inl.injEq, D.int.injEq]
      exact decide_eq_decide.mpr ⟨fun e => e.symm, fun e => e.symm⟩
    | str j =>
      simp only [Rep] at r'; subst r'
      obtain ⟨tk', rfl⟩ := q'
      rw [KeyKind.is_eq_decide (mixKind_str X.prog X.w j tk') (.inl i)]
      simp
    | _ => cases s'
  | str i =>
    simp only [Rep] at r; subst r
    obtain ⟨tk, rfl⟩ := q
    refine ⟨.inr i, mixKind_str _ _ _ _, rfl, by simp only [hashD]; rfl, fun t' h' => ?_⟩
    obtain ⟨d', x', u'⟩ := t'
    have r' := h'.rep
    have q' := h'.rel
    have s' := h'.sc
    cases d' with
    | str j =>
      simp only [Rep] at r'; subst r'
      obtain ⟨tk', rfl⟩ := q'
      rw [KeyKind.is_eq_decide (mixKind_str X.prog X.w j tk') (.inr i)]
      simp only [Sum.inr.injEq, D.str.injEq]
      exact decide_eq_decide.mpr ⟨fun e => e.symm, fun e => e.symm⟩
    | int j =>
      simp only [Rep] at r'; subst r'
      obtain ⟨tk', rfl⟩ := q'
      rw [KeyKind.is_eq_decide (mixKind_int X.prog X.w j tk') (.inr i)]
      simp
    | _ => cases s'
  | _ => cases hs
theorem seen_D (I : Inv X pins σ H s) {t : El} (ht : ElOk X.K B H false t) (l : List Value) (hl : ∀ y ∈ l, ∃ t' : El, ElOk X.K B H false t' ∧ t'.2.2 = y) {Q : Bool → Shared → Prop} (hQ : Q false s) : wpAny (model X.prog X.w) A (searchCouldBeSeen t.2.2 l) Q E s := by
  unfold searchCouldBeSeen
  refine wpAny_bind ?_
  refine wpAny_forIn_list _ (fun rest b s' => b.1 = none ∧ s' = s ∧ ∀ y ∈ rest, ∃ t' : El, ElOk X.K B H false t' ∧ t'.2.2 = y) _ ?_ ?_ _ _ ⟨rfl, rfl, hl⟩
  · rintro y rest b s' ⟨hb, rfl, hr⟩
    have hr' : ∀ z ∈ rest, ∃ t' : El, ElOk X.K B H false t' ∧ t'.2.2 = z := fun z hz => hr z (List.mem_cons_of_mem _ hz)
    obtain ⟨t', h', rfl⟩ := hr y (List.mem_cons_self ..)
    obtain ⟨c, _, hc⟩ := ref_of ht
    obtain ⟨c', _, hc'⟩ := ref_of h'
    have q1 := ht.rel
    have q2 := h'.rel
    rw [hc] at q1 ⊢
    rw [hc'] at q2 ⊢
    dsimp only
    split
    · exact wpAny_pure ⟨rfl, rfl, hr'⟩
    · refine wpAny_bind (quiet_D I 8 _ _ _ _ _ _ ht.has ht.rep q1 ?_)
      simp only [Bool.not_true, Bool.false_eq_true, if_false]
      refine wpAny_bind (quiet_D I 8 _ _ _ _ _ _ h'.has h'.rep q2 ?_)
      simp only [Bool.not_true, Bool.false_eq_true, if_false]
      refine wpAny_bind (plain_D I 8 _ _ _ _ _ _ ht.has ht.rep q1 ?_)
      simp only [Bool.false_eq_true, if_false]
      refine wpAny_bind (plain_D I 8 _ _ _ _ _ _ h'.has h'.rep q2 ?_)
      simp only [Bool.false_eq_true, if_false]
      exact wpAny_pure ⟨rfl, rfl, hr'⟩
  · rintro ⟨b1, b2⟩ s' ⟨hb, rfl, _⟩
    simp only at hb; subst hb
    exact wpAny_pure hQ
theorem add_D (I : Inv X pins σ H s) (hA : A.units + 32 < cLine) {ts : List El} {t : El} {Q : Bool → Shared → Prop} (S : SetAt s.heap a (ts.map (elE X.w)) led) (h75 : ts.length ≤ 75) (hts : ∀ t ∈ ts, ElOk X.K B H sc t) (ht : ElOk X.K B H sc t)
    (h : ∀ h' ts' tk, s.toks ≤ tk → Heap.SameBut a s.heap h' → (ts' = ts ∧ t.1 ∈ ts.map (·.1) ∨ ts'.Perm (t :: ts) ∧ t.1 ∉ ts.map (·.1)) → SetAt h' a (ts'.map (elE X.w)) led → ∀ b, Q b { s with heap := h', toks := tk }) :
    wpAny (model X.prog X.w) A (setAdd a t.2.2) Q E s := by
  unfold setAdd
  refine wpAny_holding (wpAny_bind ?_)
  refine hash_D I 8 t.1 t.2.1 t.2.2 A s.toks _ _ ht.has (by omega) ht.rep ht.rel fun tk htk => ?_
  have I' : Inv X pins σ H { s with toks := tk } := I.tok tk
  cases sc with
  | false =>
    obtain ⟨b, _, hb⟩ := ref_of ht
    have inj : ∀ t1 ∈ ts, ∀ t2 ∈ ts, t1.2.2 = t2.2.2 → t1.1 = t2.1 := fun t1 h1 t2 h2 e => by
      obtain ⟨b1, x1, u1⟩ := ref_of (hts t1 h1)
      obtain ⟨b2, x2, u2⟩ := ref_of (hts t2 h2)
      rw [u1, u2] at e
      cases e
      have r1 := (hts t1 h1).rep
      have r2 := (hts t2 h2).rep
      rw [x1] at r1
      rw [x2] at r2
      exact Rep.inj I (hasH_okD (hts t1 h1).has) (hasH_okD (hts t2 h2).has) r1 r2
    have S' : SetAt { s with toks := tk }.heap a (ts.map (elE X.w)) led := S
    open Classical in
    rw [hb]
    refine add_ref (s := { s with toks := tk }) (led := led) (es := ts.map (elE X.w)) S' (by simpa using h75) (fun v => decide (∃ t1 ∈ ts, t1.2.2 = v ∧ t1.1 = t.1)) ?_ ?_ ?_ ?_ ?_ ?_ ?_
    · intro e he
      obtain ⟨t1, h1, rfl⟩ := List.mem_map.mp he
      obtain ⟨b1, _, u1⟩ := ref_of (hts t1 h1)
      exact ⟨b1, u1⟩
    · intro e he _
      obtain ⟨t1, h1, rfl⟩ := List.mem_map.mp he
      have := (eq_D I' 8 t1.1 t.1 t1.2.1 t.2.1 t1.2.2 t.2.2 A (hasH_okD (hts t1 h1).has) (hasH_okD ht.has) (by omega) (hts t1 h1).rep ht.rep (hts t1 h1).rel ht.rel).2.1
      rw [hb] at this
      have e2 : decide (∃ t2 ∈ ts, t2.2.2 = t1.2.2 ∧ t2.1 = t.1) = decide (t1.1 = t.1) := by
        apply decide_eq_decide.mpr
        constructor
        · rintro ⟨t2, h2, e1, e2⟩
          rw [← inj t2 h2 t1 h1 e1]; exact e2
        · exact fun e => ⟨t1, h1, rfl, e⟩
      show SeqAt.EqAt A _ t1.2.2 (.ref b) (decide (∃ t2 ∈ ts, t2.2.2 = t1.2.2 ∧ t2.1 = t.1))
      rw [e2]
      exact this
    · intro e he hq
      obtain ⟨t1, h1, rfl⟩ := List.mem_map.mp he
      obtain ⟨t2, h2, e1, e2⟩ := of_decide_eq_true hq
      show hashD X.w t1.1 = hashD X.w t.1
      rw [← inj t2 h2 t1 h1 e1, e2]
    · intro l hl Q' hQ'
      have := seen_D (A := A) (E := E) I' ht l (fun y hy => by
        obtain ⟨e, he, rfl⟩ := hl y hy
        obtain ⟨t1, h1, rfl⟩ := List.mem_map.mp he
        exact ⟨t1, hts t1 h1, rfl⟩) hQ'
      rw [hb] at this
      exact this
    · intro R hR
      have := byVal_D I' 8 t.1 t.2.1 t.2.2 A R E ht.has ht.rep ht.rel hR
      rw [hb] at this
      exact this
    · rintro ⟨e, he, hq⟩
      obtain ⟨t2, h2, e1, e2⟩ := of_decide_eq_true hq
      exact h s.heap ts tk htk (Heap.SameBut.refl a s.heap) (.inl ⟨rfl, List.mem_map.mpr ⟨t2, h2, e2⟩⟩) S false
    · intro hno h' es' hsb hp S2
      obtain ⟨ts', pt, rfl⟩ := perm_map (elE X.w) hp (t :: ts) (by rw [List.map_cons]; show _ = (hashD X.w t.1, t.2.2) :: _; rw [hb])
      refine h h' ts' tk htk hsb (.inr ⟨pt, fun hm => ?_⟩) S2 true
      obtain ⟨t2, h2, e2⟩ := List.mem_map.mp hm
      have := hno (elE X.w t2) (List.mem_map.mpr ⟨t2, h2, rfl⟩)
      exact absurd ⟨t2, h2, rfl, e2⟩ (of_decide_eq_false this)
  | true =>
    obtain ⟨k, k1, k2, k3, k4⟩ := elKey ht
    rw [← k3]
    refine add_scan (s := { s with toks := tk }) (led := led) (es := ts.map (elE X.w)) S (by simpa using h75) k1 k2 ?_ ?_ ?_
    · intro e he
      obtain ⟨t1, h1, rfl⟩ := List.mem_map.mp he
      obtain ⟨k', a1, a2, a3, _⟩ := elKey (hts t1 h1)
      exact ⟨⟨k', a1, a3.symm⟩, a2⟩
    · rintro ⟨e, he, hq⟩
      obtain ⟨t1, h1, rfl⟩ := List.mem_map.mp he
      have hq : (mixKind X.prog X.w).is k t1.2.2 = true := hq
      rw [k4 t1 (hts t1 h1)] at hq
      exact h s.heap ts tk htk (Heap.SameBut.refl a s.heap) (.inl ⟨rfl, List.mem_map.mpr ⟨t1, h1, of_decide_eq_true hq⟩⟩) S false
    · intro hno h' es' hsb hp S2
      rw [k3] at hp
      obtain ⟨ts', pt, rfl⟩ := perm_map (elE X.w) hp (t :: ts) rfl
      refine h h' ts' tk htk hsb (.inr ⟨pt, fun hm => ?_⟩) S2 true
      obtain ⟨t1, h1, e1⟩ := List.mem_map.mp hm
      have hq := hno (elE X.w t1) (List.mem_map.mpr ⟨t1, h1, rfl⟩)
      have hq : (mixKind X.prog X.w).is k t1.2.2 = false := hq
      rw [k4 t1 (hts t1 h1)] at hq
      exact absurd e1 (of_decide_eq_false hq)
end
end L2

end

section
set_option maxHeartbeats 3200000
namespace L2
open PySem PySem.Spec PyProof.Rows

structure Fill (X : Cx) (B : Addr → Prop) (H : Hp) (sc led : Bool) (h : Heap) (a : Addr) (done : List D) (ts : List El) : Prop where
  at' : SetAt h a (ts.map (elE X.w)) led
  ok : ∀ t ∈ ts, ElOk X.K B H sc t
  nd : (ts.map (·.1)).Nodup
  mem : ∀ d, d ∈ ts.map (·.1) ↔ d ∈ done
theorem SetAt.same {h h' : Heap} {a : Addr} {es : List (Int × Value)} {led : Bool} (S : SetAt h a es led) (k : ∀ o, h.get? a = some o → h'.get? a = some o) : SetAt h' a es led := by
  obtain ⟨o, ep, t, ho, r⟩ := S
  exact ⟨o, ep, t, k o ho, r⟩
theorem nodup_le {l m : List D} (hl : l.Nodup) (h : ∀ x ∈ l, x ∈ m) : l.length ≤ m.length := by
  induction l generalizing m with
  | nil => exact Nat.zero_le _
  | cons x l ih =>
    have hx := h x (List.mem_cons_self ..)
    obtain ⟨h1, h2⟩ := List.nodup_cons.mp hl
    have := ih (m := m.erase x) h2 fun y hy => (List.mem_erase_of_ne (fun (e : y = x) => h1 (e ▸ hy))).mpr (h y (List.mem_cons_of_mem _ hy))
    rw [List.length_erase_of_mem hx] at this
    have : 0 < m.length := List.length_pos_of_mem hx
    rw [List.length_cons]; omega

def uniqD : List D → List D
  | [] => []
  | d :: ds => if d ∈ ds then uniqD ds else d :: uniqD ds
theorem uniqD_mem (x : D) : ∀ ds : List D, x ∈ uniqD ds ↔ x ∈ ds
  | [] => Iff.rfl
  | d :: ds => by
    unfold uniqD
    split
    · rename_i h
      rw [uniqD_mem x ds, List.mem_cons]
      exact ⟨.inr, fun z => z.elim (fun e => e ▸ h) id⟩
    · rw [List.mem_cons, List.mem_cons, uniqD_mem x ds]
theorem uniqD_nodup : ∀ ds : List D, (uniqD ds).Nodup
  | [] => List.nodup_nil
  | d :: ds => by
    unfold uniqD
    split
    · exact uniqD_nodup ds
    · rename_i h
      exact List.nodup_cons.mpr ⟨fun z => h ((uniqD_mem d ds).mp z), uniqD_nodup ds⟩
theorem uniqD_len (ds : List D) : (uniqD ds).length ≤ ds.length := nodup_le (uniqD_nodup ds) fun x hx => (uniqD_mem x ds).mp hx
section
variable {X : Cx} {pins : List (Addr × Obj)} {σ : St} {H : Hp} {s : Shared} {B : Addr → Prop} {A : Around} {sc led : Bool} {R : Result → Shared → Prop} {It : Addr} {fp wr : List Addr} {G : Array GenState → Array GenState → Prop} {n : Nat} {P : Nat → Value → Prop} {St : Nat → Shared → Prop}
theorem set_loop (I : Inv X pins σ H s) (hA : A.units + 40 < cLine) (W : WalksS X.prog X.w A.in1 It fp wr G n P St) (hG : ∀ a b, G a b → b = a) (S : Addr) (hSf : S ∉ fp) (hS0 : s.heap.get? S = none) (hwr : ∀ b ∈ wr, s.heap.get? b = none) (ds : List D) (hn : ds.length = n) (h76 : (uniqD ds).length ≤ 75)
    (hval : ∀ i v d, P i v → ds[i]? = some d → ∃ x, ElOk X.K B H sc (d, x, v)) :
    ∀ (k i : Nat) (h : Heap) (tk : Nat) (ts : List El), n - i = k → i ≤ n → St i { s with heap := h, toks := tk } → (∀ b o, s.heap.get? b = some o → h.get? b = some o) → Fill X B H sc led h S (ds.take i) ts →
      (∀ h' tk' ts', (∀ b o, s.heap.get? b = some o → h'.get? b = some o) → Fill X B H sc led h' S ds ts' → R (.ok (.ret .none)) { s with heap := h', toks := tk' }) →
      codeAny (model X.prog X.w) A (.builtin "set.update.loop" ⟨[.ref S, .ref It], []⟩) R { s with heap := h, toks := tk } := by
  have hSw : S ∉ wr := fun h => hSf (W.sub _ h)
  have back : ∀ {h : Heap} {tk : Nat} {s' : Shared}, (∀ b o, s.heap.get? b = some o → h.get? b = some o) → Moved wr G { s with heap := h, toks := tk } s' → s' = { s with heap := s'.heap, toks := s'.toks } ∧ ∀ b o, s.heap.get? b = some o → s'.heap.get? b = some o := fun {h tk s'} hk hm => by
    have e1 : s'.gens = s.gens := hG _ _ hm.gens
    have e2 : s'.drawn = s.drawn := hm.drawn
    have e3 : s'.os = s.os := hm.os
    refine ⟨?_, fun b o e => ?_⟩
    · obtain ⟨h', g', d', t', o'⟩ := s'
      simp only at e1 e2 e3
      subst e1; subst e2; subst e3
      rfl
    · refine hm.heap b o (fun hb => ?_) (hk b o e)
      rw [hwr b hb] at e; cases e
  intro k
  induction k with
  | zero =>
    intro i h tk ts hk hi hst hkeep hF hR
    have hin : i = n := by omega
    subst hin
    refine codeAny_builtin F.entry_set_update_loop ?_
    rw [Around.under_plainId F.plain_set_update_loop _]
    show wpAny _ A.in1 (pyNext (.ref It) >>= _) _ _ _
    refine wpAny_bind (W.done _ _ _ hst fun s' hm => ?_)
    obtain ⟨es, hkeep'⟩ := back hkeep hm
    show wpAny _ A.in1 (ret Value.none) _ _ s'
    rw [es]
    refine wpAny_pure (hR s'.heap s'.toks ts hkeep' ⟨hF.at'.same fun o e => hm.heap S o hSw e, hF.ok, hF.nd, fun d => ?_⟩)
    rw [hF.mem d, ← hn, List.take_length]
  | succ k ih =>
    intro i h tk ts hk hi hst hkeep hF hR
    have hlt : i < n := by omega
    refine codeAny_builtin F.entry_set_update_loop ?_
    rw [Around.under_plainId F.plain_set_update_loop _]
    show wpAny _ A.in1 (pyNext (.ref It) >>= _) _ _ _
    refine wpAny_bind (W.item i _ _ _ hlt hst fun v s' hP hst' hm => ?_)
    obtain ⟨es, hkeep'⟩ := back hkeep hm
    have hil : i < ds.length := by omega
    obtain ⟨x, hx⟩ := hval i v ds[i] hP (by simp [hil])
    have hat : SetAt s'.heap S (ts.map (elE X.w)) led := hF.at'.same fun o e => hm.heap S o hSw e
    have I' : Inv X pins σ H { s with heap := s'.heap, toks := s'.toks } := I.kept hkeep'
    have h75 : ts.length ≤ 75 := by
      have := nodup_le hF.nd fun d hd => (uniqD_mem d ds).mpr (List.mem_of_mem_take ((hF.mem d).mp hd))
      rw [List.length_map] at this
      omega
    show wpAny _ A.in1 (holding [v] (setAdd S v) >>= _) _ _ s'
    refine wpAny_bind (wpAny_holding ?_)
    rw [es] at hst' ⊢
    refine add_D (t := (ds[i], x, v)) I' (by show A.units + 1 + 32 < cLine; omega) hat h75 hF.ok hx fun h' ts' tk' htk hsb hor hS' b => ?_
    have keep2 : ∀ b o, s.heap.get? b = some o → h'.get? b = some o := fun b o e => by
      rw [hsb.2 b (fun z => by rw [z, hS0] at e; cases e)]
      exact hkeep' b o e
    have F' : Fill X B H sc led h' S (ds.take (i + 1)) ts' := by
      have htake : ds.take (i + 1) = ds.take i ++ [ds[i]] := by rw [List.take_succ]; simp [hil]
      rcases hor with ⟨rfl, hm'⟩ | ⟨hp, hm'⟩
      · refine ⟨hS', hF.ok, hF.nd, fun d => ?_⟩
        rw [hF.mem d, htake, List.mem_append, List.mem_singleton]
        constructor
        · exact .inl
        · rintro (h | rfl)
          · exact h
          · exact (hF.mem _).mp hm'
      · have hp2 := hp.map (·.1)
        rw [List.map_cons] at hp2
        refine ⟨hS', fun t ht => ?_, ?_, fun d => ?_⟩
        · rcases List.mem_cons.mp (hp.mem_iff.mp ht) with rfl | h
          · exact hx
          · exact hF.ok t h
        · rw [hp2.nodup_iff, List.nodup_cons]; exact ⟨hm', hF.nd⟩
        · rw [hp2.mem_iff, List.mem_cons, hF.mem d, htake, List.mem_append, List.mem_singleton]
          exact Or.comm
    refine wpAny_pure ⟨plainId_quiet F.plain_set_update_loop _, ih (i + 1) h' tk' ts' (by omega) hlt ?_ keep2 F' hR⟩
    exact W.frame _ { s with heap := s'.heap, toks := s'.toks } _ _ hst' htk fun b hb o e => by
      rw [hsb.2 b (fun h : b = S => hSf (by rw [← h]; exact hb))]; exact e
end
end L2

end

section
set_option maxHeartbeats 3200000
namespace L2
open PySem PySem.Spec PyProof.Rows

abbrev ledOf (w : World) : Bool := !w.params.followText "set-order"
abbrev setNew (led : Bool) : Obj := { cls := .type "set", dict := none, data := .set #[] 0 (.fresh 0 0 led) }
section
variable {prog : Program} {w : World} {A : Around} {E : Value → Shared → Prop} {s : Shared}
theorem code_set_led (a : Value) {Q₁ : Value → Shared → Prop} (h : Q₁ (.ref s.heap.objs.size) { s with heap := s.heap.push (setNew (ledOf w)) }) :
    codeAny (model prog w) A (.call (.builtin "set.__new__") ⟨[.type "set", a], []⟩) (wants Q₁ E) s := by
  refine codeAny_of_tree ?_
  show wpAny _ A.in1 (do checkBuiltinCall "set.__new__" ⟨[.type "set", a], []⟩; again (.builtin "set.__new__" ⟨[.type "set", a], []⟩)) _ _ s
  refine wpAny_bind (wpAny_of_eq (F.newCall_set_1 a) (wpAny_pure ⟨plainId_quiet F.plain_set_new _, codeAny_builtin F.entry_set_new ?_⟩))
  rw [Around.under_plainId F.plain_set_new _]
  unfold Builtin.«set.__new__» Builtin.Frozenset.newClass
  have hsub := sub_set_self
  obtain ⟨hp, g, d, tk, os⟩ := s
  dsimp only
  wp_walk
  refine wpAny_askSetting (wpAny_pure ?_)
  dsimp only
  simp only [newObj]
  refine wpAny_bind (wpAny_alloc (wpAny_pure ?_))
  exact wpAny_pure h
end
section
variable {X : Cx} {pins : List (Addr × Obj)} {σ : St} {H : Hp} {s : Shared} {B : Addr → Prop} {A : Around} {E : Value → Shared → Prop} {sc : Bool}
theorem fill_new {h : Heap} {a : Addr} (e : h.get? a = some (setNew (ledOf X.w))) : Fill X B H sc (ledOf X.w) h a [] [] :=
  ⟨⟨_, 0, _, e, ⟨rfl, rfl, rfl⟩, rfl, Tab.fresh _ _ _, by simp [SetTable.fresh], rfl⟩, fun t ht => by simp at ht, List.nodup_nil, fun d => Iff.rfl⟩
theorem call_set_D (I : Inv X pins σ H s) (hh : A.handled = none) (hA : A.units + 50 < cLine) {l : Addr} {items : Array Value} {Q : Value → Shared → Prop} (hl : s.heap.IsList l items) (ds : List D) (hlen : ds.length = items.size) (h76 : (uniqD ds).length ≤ 75)
    (hel : ∀ (i : Nat) v d, items[i]? = some v → ds[i]? = some d → ∃ x, ElOk X.K B H sc (d, x, v))
    (h : ∀ (h' : Heap) (tk : Nat) ts, (∀ b o, s.heap.get? b = some o → h'.get? b = some o) → Fill X B H sc (ledOf X.w) h' s.heap.objs.size ds ts → Q (.ref s.heap.objs.size) { s with heap := h', toks := tk }) :
    wpAny (model X.prog X.w) A (call (.type "set") [.ref l]) Q E s := by
  obtain ⟨c, tl, hmro⟩ := F.called_set.mro
  have hmade := F.called_set.made
  have hsub := F.called_set.sub
  refine wpAny_call (codeAny_of_tree ?_)
  show wpAny _ _ (callAny (.type "set") _) _ _ _
  refine wpAny_pure ⟨Code.quiet_builtin _ (by decide +kernel), codeAny_builtin F.entry_type_call ?_⟩
  rw [Around.under_plain (weight_type_call_type "set" [.ref l] []) rfl]
  have h1 := F.called_set.notType
  have h2 := F.called_set.canCreate
  have hct := F.typeCall_set_1 (.ref l)
  repeat (any_goals (first | assumption | wp_step))
  refine codeAny_mono (code_set_led (.ref l) (E := E) (Q₁ := fun obj s₁ => obj = .ref s.heap.objs.size ∧ s₁ = { s with heap := s.heap.push (setNew (ledOf X.w)) }) ⟨rfl, rfl⟩) fun r s₁ hr => ?_
  cases r with
  | error e => exact hr
  | ok fl =>
    cases fl with
    | ret obj =>
      obtain ⟨rfl, rfl⟩ := hr
      have hS : (s.heap.push (setNew (ledOf X.w))).get? s.heap.objs.size = some (setNew (ledOf X.w)) := Heap.get?_push_size _ rfl
      have hT : Shared.TypeIs { s with heap := s.heap.push (setNew (ledOf X.w)) } (.ref s.heap.objs.size) "set" := ⟨_, hS, rfl⟩
      have hli := F.called_set.init.lookup
      have hbi := F.called_set.init.bind (.ref s.heap.objs.size)
      repeat (any_goals (first | assumption | wp_step))
      refine codeAny_mono (codeAny_call_builtin (R := wants (fun r s₂ => r = .none ∧ ∃ h' tk ts, s₂ = { s with heap := h', toks := tk } ∧ Fill X B H sc (ledOf X.w) h' s.heap.objs.size ds ts ∧
          (∀ b o, s.heap.get? b = some o → h'.get? b = some o)) E) F.called_set.init.plain F.entry_set_init (check_set_init_1 hT ?_)) fun r₂ s₂ hr₂ => ?_
      · obtain ⟨ol, hol, hcl, nl, hdl⟩ := hl
        obtain ⟨ocls, odict, odata, oslots⟩ := ol
        simp only at hcl hdl
        subst hcl; subst hdl
        have hol' : (s.heap.push (setNew (ledOf X.w))).get? l = some { cls := .type "list", dict := odict, data := .seq items nl, slots := oslots } := Heap.get?_push_of_some _ hol
        have hsls := F.sub_list_set
        have hslf := F.sub_list_frozenset
        have hne : (Value.type "list" == Value.type "dict") = false := by decide
        have hl1 : (s.heap.push (setNew (ledOf X.w))).IsList l items := ⟨_, hol', rfl, nl, rfl⟩
        unfold Builtin.«set.__init__» noKeywords Builtin.Frozenset.updateFrom
        generalize hPI : pyIter = PI
        wp_walk
        subst hPI
        refine wpAny_pyIter_list hl1 ?_
        refine wpAny_bind (wpAny_runValue ?_)
        have hlS : l < s.heap.objs.size := Heap.lt_size hol
        have hh3 : A.in1.in1.in1.handled = none := by simp [hh]
        have hneI : l ≠ (s.heap.push (setNew (ledOf X.w))).objs.size := by
          rw [Heap.size_push]; exact Nat.ne_of_lt (Nat.lt_succ_of_lt hlS)
        have hSf : s.heap.objs.size ∉ [(s.heap.push (setNew (ledOf X.w))).objs.size, l] := by
          rw [Heap.size_push]; simp only [List.mem_cons, List.mem_singleton, List.not_mem_nil, or_false, not_or]
          exact ⟨Nat.ne_of_lt (Nat.lt_succ_self _), Nat.ne_of_gt hlS⟩
        have hnone : ∀ b, s.heap.objs.size ≤ b → s.heap.get? b = none := fun b hb => by
          cases q : s.heap.get? b with
          | none => rfl
          | some o => exact absurd (Heap.lt_size q) (Nat.not_lt.mpr hb)
        refine set_loop (s := s) (X := X) (σ := σ) (pins := pins) (H := H) (B := B) (sc := sc) (led := ledOf X.w) I ?_ ((Walks.list hh3 _ l hneI items).toS) ?_ s.heap.objs.size
          hSf (hnone _ (Nat.le_refl _)) ?_ ds hlen h76 (fun i v d hv hd => hel i v d hv hd) (items.size - 0) 0 _ s.toks [] (by omega) (Nat.zero_le _)
          ⟨⟨_, Heap.get?_push_size _ rfl, rfl, rfl⟩, (hl1.push _)⟩ (fun b o e => Heap.get?_push_of_some _ (Heap.get?_push_of_some _ e)) ?_ ?_
        · show A.units + 1 + 1 + 40 < cLine; omega
        · intro a b e; exact e
        · intro b hb
          simp only [List.mem_singleton] at hb
          rw [hb, Heap.size_push]
          exact hnone _ (Nat.le_succ _)
        · exact fill_new (Heap.get?_push_of_some _ hS)
        · intro h' tk' ts hk hF
          show wpAny _ _ _ _ _ _
          refine wpAny_pure ?_
          show wpAny _ _ (ret Value.none) _ _ _
          exact wpAny_pure ⟨rfl, h', tk', ts, rfl, hF, hk⟩
      · cases r₂ with
        | error e => exact hr₂
        | ok fl₂ =>
          cases fl₂ with
          | ret r =>
            obtain ⟨rfl, h', tk, ts, rfl, hF, hk⟩ := hr₂
            repeat (any_goals (first | assumption | wp_step))
            exact h _ _ _ hk hF
          | _ => exact hr₂.elim
    | _ => exact hr.elim
end
end L2

end

section
set_option maxHeartbeats 3200000
namespace L2
open PySem PySem.Spec PyProof.Rows

theorem slot_si_next : Slot "set_iterator" "__next__" "set_iterator.__next__" :=
  .of (owner := "set_iterator") (n := "__next__") (by rw [typeLookup_type, builtinLookup_eq_fast]; kernel_rfl) (by decide +kernel) (by decide +kernel) (by decide +kernel)
    (by first | exact .inl (by decide +kernel) | exact .inr (by decide +kernel)) (by rw [isSubtype_type]; kernel_rfl)
theorem entry_si_next : entryFor table "set_iterator.__next__" = some Builtin.«set_iterator.__next__» := entryFor_of_tree (by kernel_rfl)
theorem slot_si_iter : Slot "set_iterator" "__iter__" "set_iterator.__iter__" :=
  .of (owner := "set_iterator") (n := "__iter__") (by rw [typeLookup_type, builtinLookup_eq_fast]; kernel_rfl) (by decide +kernel) (by decide +kernel) (by decide +kernel)
    (by first | exact .inl (by decide +kernel) | exact .inr (by decide +kernel)) (by rw [isSubtype_type]; kernel_rfl)
theorem entry_si_iter : entryFor table "set_iterator.__iter__" = some Builtin.«dict_keyiterator.__iter__» :=
  entryFor_alias (id' := "dict_keyiterator.__iter__") (by kernel_rfl) rfl (by decide +kernel) (by kernel_rfl)
theorem entry_set_iter' : entryFor table "set.__iter__" = some Builtin.«frozenset.__iter__» :=
  entryFor_alias (id' := "frozenset.__iter__") (by kernel_rfl) rfl (by decide +kernel) (by kernel_rfl)
theorem args_si_next (a : Value) : argsOk "set_iterator.__next__" ⟨[a], []⟩ := by
  unfold argsOk; kernel_rfl
theorem args_si_iter (a : Value) : argsOk "set_iterator.__iter__" ⟨[a], []⟩ := by
  unfold argsOk; kernel_rfl
theorem erase_perm {α : Type} {l : List α} {i : Nat} (h : i < l.length) : (l[i] :: l.eraseIdx i).Perm l := by
  rw [List.eraseIdx_eq_take_drop_succ]
  refine List.perm_middle.symm.trans ?_
  rw [← List.drop_eq_getElem_cons h, List.take_append_drop]
theorem draw_order {prog : Program} {w : World} {A : Around} {E : Value → Shared → Prop} {α : Type} : ∀ (n : Nat) (xs : List α) (s : Shared) (Q : List α → Shared → Prop), xs.length = n →
    (∀ ys d, ys.Perm xs → Q ys { s with drawn := d }) → wpAny (model prog w) A (drawOrder n xs) Q E s
  | 0, xs, s, Q, hl, hQ => by
    have : xs = [] := List.length_eq_zero_iff.mp hl
    subst this
    unfold drawOrder
    exact wpAny_pure (hQ [] s.drawn (List.Perm.refl _))
  | n + 1, [], s, Q, hl, hQ => by cases hl
  | n + 1, x :: xs, s, Q, hl, hQ => by
    unfold drawOrder
    refine wpAny_bind (Q := Q) ?_
    intro Γ p hΓ
    refine ⟨by simp, ?_⟩
    generalize hd : s.drawn.bump .order = d1
    generalize hi : (model prog w).w.draws .order (s.drawn.get .order) % (x :: xs).length = i
    have hlt : i < (x :: xs).length := by rw [← hi]; exact Nat.mod_lt _ (by simp)
    have key : wpAny (model prog w) A (match (x :: xs)[i]? with | some y => (do return y :: (← drawOrder n ((x :: xs).eraseIdx i))) | none => unsupported "internal:drawOrder") Q E { s with drawn := d1 } := by
      rw [List.getElem?_eq_getElem hlt]
      dsimp only
      refine wpAny_bind (draw_order n ((x :: xs).eraseIdx i) _ _ (by rw [List.length_eraseIdx_of_lt hlt, hl]; rfl) fun ys d hp => ?_)
      refine wpAny_pure (hQ _ d ?_)
      exact (List.Perm.cons _ hp).trans (erase_perm hlt)
    exact key
theorem pick_go {α : Type} (f : Nat → Nat) : ∀ (fuel k : Nat) (left : List α) (out : Array α), fuel = left.length → (pickOrder.go f fuel k left out).toList.Perm (out.toList ++ left)
  | 0, k, left, out, h => by
    have : left = [] := List.length_eq_zero_iff.mp h.symm
    subst this
    unfold pickOrder.go
    simp
  | fuel + 1, k, left, out, h => by
    unfold pickOrder.go
    have hlt : f k % left.length < left.length := Nat.mod_lt _ (by omega)
    rw [List.getElem?_eq_getElem hlt]
    dsimp only
    refine (pick_go f fuel (k + 1) _ _ (by rw [List.length_eraseIdx_of_lt hlt]; omega)).trans ?_
    rw [Array.toList_push, List.append_assoc]
    exact List.Perm.append_left _ (erase_perm hlt)
theorem pick_perm {α : Type} (f : Nat → Nat) (xs : Array α) : (pickOrder f xs).toList.Perm xs.toList := by
  unfold pickOrder
  simpa using pick_go f xs.size 0 xs.toList #[] (by simp)
end L2

end

section
set_option maxHeartbeats 3200000
namespace L2
open PySem PySem.Spec PyProof.Rows

structure SetIs (h : Heap) (S : Addr) (es : List (Int × Value)) (ep : Nat) (t : SetTable) : Prop where
  ob : ∃ o, h.get? S = some o ∧ o.ExactSet ∧ o.data = .set es.toArray ep t
  tab : Tab t (es.map (·.1))
  few : t.place.size ≤ t.mask
theorem SetIs.fits {h : Heap} {S : Addr} {es : List (Int × Value)} {ep : Nat} {t : SetTable} (x : SetIs h S es ep t) : t.fits es.toArray.size = true := by simpa using x.tab.fits x.few
theorem SetIs.at {h h' : Heap} {S : Addr} {es : List (Int × Value)} {ep : Nat} {t : SetTable} (x : SetIs h S es ep t) (k : ∀ o, h.get? S = some o → h'.get? S = some o) : SetIs h' S es ep t := by
  obtain ⟨⟨o, ho, r⟩, a, b⟩ := x
  exact ⟨⟨o, k o ho, r⟩, a, b⟩

def IterAt (h : Heap) (I : Addr) (first : Value) (i : Nat) (S : Addr) (n ep : Nat) : Prop := ∃ o, h.get? I = some o ∧ o.cls = .type "set_iterator" ∧ o.data = .fields #[first, rawInt i, .ref S, rawInt n, rawInt ep]
theorem IterAt.typeIs {s : Shared} {I S : Addr} {first : Value} {i n ep : Nat} (x : IterAt s.heap I first i S n ep) : s.TypeIs (.ref I) "set_iterator" := by
  obtain ⟨o, ho, hc, _⟩ := x
  exact ⟨o, ho, hc⟩
theorem IterAt.at {h h' : Heap} {I S : Addr} {first : Value} {i n ep : Nat} (x : IterAt h I first i S n ep) (k : ∀ o, h.get? I = some o → h'.get? I = some o) : IterAt h' I first i S n ep := by
  obtain ⟨o, ho, r⟩ := x
  exact ⟨o, k o ho, r⟩
section
variable {prog : Program} {w : World} {A : Around} {E : Value → Shared → Prop} {s : Shared} {I S : Addr} {es : List (Int × Value)} {ep : Nat} {t : SetTable} {i : Nat}

theorem si_next_slot {sl nx : Nat} {v : Value} {Q : Option Value → Shared → Prop} (hne : S ≠ I) (it : IterAt s.heap I (rawInt sl) i S es.length ep) (st : SetIs s.heap S es ep t)
    (hn : ∀ (s : Shared) (R : Option (Value × Nat) → Shared → Prop) (E : Value → Shared → Prop), SetIs s.heap S es ep t → R (some (v, nx)) s → wpAny (model prog w) A.in1 (setNext S sl i ep) R E s)
    (hQ : ∀ h', IterAt h' I (rawInt nx) (i + 1) S es.length ep → (∀ b o, b ≠ I → s.heap.get? b = some o → h'.get? b = some o) → Q (some v) { s with heap := h' }) : wpAny (model prog w) A (pyNext (.ref I)) Q E s := by
  have hT := it.typeIs
  obtain ⟨o, ho, hc, hd⟩ := it
  unfold pyNext
  refine wpAny_bind (wpAny_attempt (wpAny_callSpecial?_slot (name := Str.ofString "__next__") hT slot_si_next (wpAny_call_entry slot_si_next hT entry_si_next ?_ (args_si_next _))))
  unfold Builtin.«set_iterator.__next__»
  refine wpAny_bind (m := slotArgs "__next__" 0 _) (wpAny_pure ?_)
  dsimp only
  refine wpAny_bind (wpAny_fieldsOf ho hd ?_)
  dsimp only [rawInt]
  obtain ⟨os, hos, hex, hds⟩ := st.ob
  refine wpAny_bind (wpAny_setEntries_of hos hds st.fits ?_)
  rw [if_neg (by simp)]
  simp only [Int.toNat_natCast]
  refine wpAny_bind (hn s _ _ st ?_)
  dsimp only
  refine wpAny_bind (wpAny_setField ho hd (by simp) ?_)
  have g1 := Heap.get?_update_self (Obj.mapFields (·.setIfInBounds 0 (rawInt nx))) ho (Obj.isFreed_of_fields (Obj.data_mapFields hd _))
  refine wpAny_bind (wpAny_setField g1 (Obj.data_mapFields hd _) (by simp) ?_)
  have g2 := Heap.get?_update_self (Obj.mapFields (·.setIfInBounds 1 (rawInt ((i : Int) + 1)))) g1 (Obj.isFreed_of_fields (Obj.data_mapFields (Obj.data_mapFields hd _) _))
  refine wpAny_pure ⟨_, rfl, wpAny_pure (hQ _ ?_ ?_)⟩
  · exact ⟨_, g2, (Obj.cls_mapFields ..).trans ((Obj.cls_mapFields ..).trans hc), by rw [Obj.data_mapFields (Obj.data_mapFields hd _)]; simp [rawInt]⟩
  · intro b o' hb e
    exact (Heap.get?_update_other _ _ (Ne.symm hb)).trans ((Heap.get?_update_other _ _ (Ne.symm hb)).trans e)

theorem si_next_drawn {T : Addr} {ps : List Nat} {p : Nat} {e : Int × Value} {Q : Option Value → Shared → Prop} (hne : S ≠ I) (it : IterAt s.heap I (.ref T) i S es.length ep) (st : SetIs s.heap S es ep t) (ht : ∃ o n, s.heap.get? T = some o ∧ o.data = .seq (ps.map fun (k : Nat) => rawInt k).toArray n)
    (hp : ps[i]? = some p) (he : es[p]? = some e)
    (hQ : ∀ h', IterAt h' I (.ref T) (i + 1) S es.length ep → (∀ b o, b ≠ I → s.heap.get? b = some o → h'.get? b = some o) → Q (some e.2) { s with heap := h' }) : wpAny (model prog w) A (pyNext (.ref I)) Q E s := by
  have hT := it.typeIs
  obtain ⟨o, ho, hc, hd⟩ := it
  unfold pyNext
  refine wpAny_bind (wpAny_attempt (wpAny_callSpecial?_slot (name := Str.ofString "__next__") hT slot_si_next (wpAny_call_entry slot_si_next hT entry_si_next ?_ (args_si_next _))))
  unfold Builtin.«set_iterator.__next__»
  refine wpAny_bind (m := slotArgs "__next__" 0 _) (wpAny_pure ?_)
  dsimp only
  refine wpAny_bind (wpAny_fieldsOf ho hd ?_)
  dsimp only [rawInt]
  obtain ⟨os, hos, hex, hds⟩ := st.ob
  refine wpAny_bind (wpAny_setEntries_of hos hds st.fits ?_)
  rw [if_neg (by simp)]
  simp only [Int.toNat_natCast]
  obtain ⟨oT, nT, hoT, hdT⟩ := ht
  refine wpAny_bind (wpAny_seqItems hoT hdT ?_)
  dsimp only
  have e1 : (ps.map fun (k : Nat) => rawInt k).toArray[i]? = some (rawInt p) := by simp [hp]
  rw [e1]
  dsimp only [rawInt]
  simp only [Int.toNat_natCast]
  refine wpAny_bind ?_
  unfold setNextDrawn
  refine wpAny_bind (wpAny_setState_of hos hds st.fits ?_)
  dsimp only
  rw [if_neg (by simp)]
  have e2 : es.toArray[p]? = some e := by simp [he]
  rw [e2]
  dsimp only
  refine wpAny_pure ?_
  refine wpAny_bind (wpAny_setField ho hd (by simp) ?_)
  have g2 := Heap.get?_update_self (Obj.mapFields (·.setIfInBounds 1 (rawInt ((i : Int) + 1)))) ho (Obj.isFreed_of_fields (Obj.data_mapFields hd _))
  refine wpAny_pure ⟨_, rfl, wpAny_pure (hQ _ ?_ ?_)⟩
  · exact ⟨_, g2, (Obj.cls_mapFields ..).trans hc, by rw [Obj.data_mapFields hd]; simp [rawInt]⟩
  · intro b o' hb e
    exact (Heap.get?_update_other _ _ (Ne.symm hb)).trans e

theorem si_end_slot {sl : Nat} {Q : Option Value → Shared → Prop} (hh : A.handled = none) (it : IterAt s.heap I (rawInt sl) i S es.length ep) (st : SetIs s.heap S es ep t)
    (hn : ∀ (s : Shared) (R : Option (Value × Nat) → Shared → Prop) (E : Value → Shared → Prop), SetIs s.heap S es ep t → R none s → wpAny (model prog w) A.in1 (setNext S sl i ep) R E s)
    (hQ : ∀ h', (∀ b o, b ≠ I → s.heap.get? b = some o → h'.get? b = some o) → Q none { s with heap := h' }) : wpAny (model prog w) A (pyNext (.ref I)) Q E s := by
  have hT := it.typeIs
  obtain ⟨o, ho, hc, hd⟩ := it
  unfold pyNext
  refine wpAny_bind (wpAny_attempt (wpAny_callSpecial?_slot (name := Str.ofString "__next__") hT slot_si_next (wpAny_call_entry slot_si_next hT entry_si_next ?_ (args_si_next _))))
  unfold Builtin.«set_iterator.__next__»
  refine wpAny_bind (m := slotArgs "__next__" 0 _) (wpAny_pure ?_)
  dsimp only
  refine wpAny_bind (wpAny_fieldsOf ho hd ?_)
  dsimp only [rawInt]
  obtain ⟨os, hos, hex, hds⟩ := st.ob
  refine wpAny_bind (wpAny_setEntries_of hos hds st.fits ?_)
  rw [if_neg (by simp)]
  simp only [Int.toNat_natCast]
  refine wpAny_bind (hn s _ _ st ?_)
  dsimp only
  refine wpAny_bind (wpAny_setField ho hd (by simp) ?_)
  refine wpAny_bind ?_
  simp only [newExc, newTuple]
  refine wpAny_bind (wpAny_newObj_type ?_ (by size_fits))
  refine wpAny_bind (m := firstArgMember _ _) (wpAny_of_eq (a := Value.none) (by first | rfl | (simp only [firstArgMember]; rfl)) ?_)
  refine wpAny_newObj_type ?_ (by size_fits)
  simp only [raiseNew]
  refine wpAny_bind (wpAny_handled ?_)
  rw [show A.in1.handled = none from hh]
  refine wpAny_bind (wpAny_pure (wpAny_throw ?_))
  refine wpAny_bind (wpAny_isInstance (T := "StopIteration") (b := true) ⟨_, Heap.get?_push_size _ rfl, rfl⟩ isSubtype_stop ?_)
  exact wpAny_pure (hQ _ fun b o' hb e => Heap.get?_push_of_some _ (Heap.get?_push_of_some _ ((Heap.get?_update_other _ _ (Ne.symm hb)).trans e)))
theorem si_end_drawn {T : Addr} {ps : List Nat} {Q : Option Value → Shared → Prop} (hh : A.handled = none) (it : IterAt s.heap I (.ref T) i S es.length ep) (st : SetIs s.heap S es ep t) (ht : ∃ o n, s.heap.get? T = some o ∧ o.data = .seq (ps.map fun (k : Nat) => rawInt k).toArray n)
    (hp : ps[i]? = none) (hQ : ∀ h', (∀ b o, b ≠ I → s.heap.get? b = some o → h'.get? b = some o) → Q none { s with heap := h' }) : wpAny (model prog w) A (pyNext (.ref I)) Q E s := by
  have hT := it.typeIs
  obtain ⟨o, ho, hc, hd⟩ := it
  unfold pyNext
  refine wpAny_bind (wpAny_attempt (wpAny_callSpecial?_slot (name := Str.ofString "__next__") hT slot_si_next (wpAny_call_entry slot_si_next hT entry_si_next ?_ (args_si_next _))))
  unfold Builtin.«set_iterator.__next__»
  refine wpAny_bind (m := slotArgs "__next__" 0 _) (wpAny_pure ?_)
  dsimp only
  refine wpAny_bind (wpAny_fieldsOf ho hd ?_)
  dsimp only [rawInt]
  obtain ⟨os, hos, hex, hds⟩ := st.ob
  refine wpAny_bind (wpAny_setEntries_of hos hds st.fits ?_)
  rw [if_neg (by simp)]
  simp only [Int.toNat_natCast]
  obtain ⟨oT, nT, hoT, hdT⟩ := ht
  refine wpAny_bind (wpAny_seqItems hoT hdT ?_)
  dsimp only
  have e1 : (ps.map fun (k : Nat) => rawInt k).toArray[i]? = none := by simpa using hp
  rw [e1]
  dsimp only
  refine wpAny_bind (wpAny_setField ho hd (by simp) ?_)
  have g1 := Heap.get?_update_self (Obj.mapFields (·.setIfInBounds 0 (rawInt 0))) ho (Obj.isFreed_of_fields (Obj.data_mapFields hd _))
  refine wpAny_bind (wpAny_setField g1 (Obj.data_mapFields hd _) (by simp) ?_)
  refine wpAny_bind ?_
  simp only [newExc, newTuple]
  refine wpAny_bind (wpAny_newObj_type ?_ (by size_fits))
  refine wpAny_bind (m := firstArgMember _ _) (wpAny_of_eq (a := Value.none) (by first | rfl | (simp only [firstArgMember]; rfl)) ?_)
  refine wpAny_newObj_type ?_ (by size_fits)
  simp only [raiseNew]
  refine wpAny_bind (wpAny_handled ?_)
  rw [show A.in1.handled = none from hh]
  refine wpAny_bind (wpAny_pure (wpAny_throw ?_))
  refine wpAny_bind (wpAny_isInstance (T := "StopIteration") (b := true) ⟨_, Heap.get?_push_size _ rfl, rfl⟩ isSubtype_stop ?_)
  exact wpAny_pure (hQ _ fun b o' hb e => Heap.get?_push_of_some _ (Heap.get?_push_of_some _ ((Heap.get?_update_other _ _ (Ne.symm hb)).trans ((Heap.get?_update_other _ _ (Ne.symm hb)).trans e))))
theorem si_self {first : Value} {n : Nat} {Q : Value → Shared → Prop} (it : IterAt s.heap I first i S n ep) (hQ : Q (.ref I) s) : wpAny (model prog w) A (pyIter (.ref I)) Q E s := by
  refine wpAny_pyIter_slot it.typeIs slot_si_iter (wpAny_call_entry slot_si_iter it.typeIs entry_si_iter ?_ (args_si_iter _))
  show wpAny _ _ (ret (.ref I)) _ _ s
  exact wpAny_pure ⟨_, rfl, "set_iterator", _, it.typeIs, slot_si_next.lookup, hQ⟩
end
end L2

end

section
set_option maxHeartbeats 3200000
namespace L2
open PySem PySem.Spec PyProof.Rows

section
variable {prog : Program} {w : World} {A : Around} {E : Value → Shared → Prop} {s : Shared} {S : Addr} {es : List (Int × Value)} {ep : Nat} {t : SetTable} {i sl : Nat}
theorem setNext_eq (a : Addr) (slot given epochThen : Nat) : setNext a slot given epochThen = (do
    let (es, epoch, t) ← setState a
    if ← setsByText then
      if epoch != epochThen then unsupported "set_iterator.__next__:elements-changed"
      return ((← setWalk a)[given]?).map fun e => (e.2, slot)
    if !t.plain && es.size > 1 then unsupported "set_iterator.__next__:the-table-is-plain-no-more"
    (if (!t.led && !es.isEmpty) = true then unsupported "set:maker-not-led" else pure () : Sem Unit)
    let i := SetTable.below t.place slot
    return match es[i]?, t.place[i]? with
      | some (_, x), some j => some (x, j + 1)
      | _, _ => none) := rfl
theorem next_text (hb : w.params.followText "set-order" = true) (st : SetIs s.heap S es ep t) {R : Option (Value × Nat) → Shared → Prop}
    (h : R (((pickOrder (w.params.setOrder S ep) es.toArray)[i]?).map fun e => (e.2, sl)) s) : wpAny (model prog w) A (setNext S sl i ep) R E s := by
  obtain ⟨os, hos, hex, hds⟩ := st.ob
  rw [setNext_eq]
  refine wpAny_bind (wpAny_setState_of hos hds st.fits ?_)
  dsimp only
  unfold setsByText
  refine wpAny_bind (wpAny_bind (wpAny_askSetting (wpAny_pure ?_)))
  show wpAny _ _ (if w.params.followText "set-order" = true then _ else _) _ _ _
  rw [if_pos hb, if_neg (by simp)]
  refine wpAny_bind ?_
  unfold setWalk setsByText
  refine wpAny_bind (wpAny_setState_of hos hds st.fits ?_)
  dsimp only
  refine wpAny_bind (wpAny_bind (wpAny_askSetting (wpAny_pure ?_)))
  show wpAny _ _ (if w.params.followText "set-order" = true then _ else _) _ _ _
  rw [if_pos hb]
  refine wpAny_bind (wpAny_askSetting (wpAny_pure ?_))
  exact wpAny_pure h
theorem next_slot (hb : w.params.followText "set-order" = false) (st : SetIs s.heap S es ep t) (hled : t.led = true) (hpl : (!t.plain && decide (es.toArray.size > 1)) = false) {R : Option (Value × Nat) → Shared → Prop}
    (h : R (match es.toArray[SetTable.below t.place sl]?, t.place[SetTable.below t.place sl]? with | some (_, x), some j => some (x, j + 1) | _, _ => none) s) : wpAny (model prog w) A (setNext S sl i ep) R E s := by
  obtain ⟨os, hos, hex, hds⟩ := st.ob
  rw [setNext_eq]
  refine wpAny_bind (wpAny_setState_of hos hds st.fits ?_)
  dsimp only
  unfold setsByText
  refine wpAny_bind (wpAny_bind (wpAny_askSetting (wpAny_pure ?_)))
  show wpAny _ _ (if w.params.followText "set-order" = true then _ else _) _ _ _
  rw [if_neg (by rw [hb]; exact Bool.false_ne_true), if_neg (by rw [hpl]; exact Bool.false_ne_true), if_neg (by rw [hled]; simp)]
  refine wpAny_bind (wpAny_pure ?_)
  exact wpAny_pure h
end

def slotAt (t : SetTable) (i : Nat) : Nat := match i with | 0 => 0 | k + 1 => t.place.getD k 0 + 1
theorem below_zero {t : SetTable} {hs : List Int} (T : Tab t hs) : SetTable.below t.place 0 = 0 := by
  obtain ⟨h1, h2, h3⟩ := below_of T.ris 0
  rcases Nat.eq_zero_or_pos (SetTable.below t.place 0) with z | z
  · exact z
  · have := h1 0 (by omega) z
    exact absurd this (Nat.not_lt_zero _)
theorem below_slotAt {t : SetTable} {hs : List Int} (T : Tab t hs) {i : Nat} (hi : i ≤ t.place.size) : SetTable.below t.place (slotAt t i) = i := by
  cases i with
  | zero => exact below_zero T
  | succ k =>
    have hk : k < t.place.size := by omega
    show SetTable.below t.place (t.place.getD k 0 + 1) = k + 1
    have : t.place.getD k 0 = t.place[k] := by simp [Array.getD, hk]
    rw [this]
    exact below_succ T.ris hk
section
variable {prog : Program} {w : World} {A : Around} {E : Value → Shared → Prop} {s : Shared} {I S : Addr} {es : List (Int × Value)} {ep : Nat} {t : SetTable}
theorem walks_text (hb : w.params.followText "set-order" = true) (hh : A.handled = none) (hne : S ≠ I) : Walks prog w A I [I, S] [I] es.length (fun i v => ((pickOrder (w.params.setOrder S ep) es.toArray).toList.map (·.2))[i]? = some v)
    (fun i h => IterAt h I (rawInt 0) i S es.length ep ∧ SetIs h S es ep t) where
  sub := fun b hb => by simp at hb; simp [hb]
  frame := fun _ _ _ st hk => ⟨st.1.at fun o e => hk I (by simp) o e, st.2.at fun o e => hk S (by simp) o e⟩
  item := fun i s Q E hi st hQ => by
    have hl : (pickOrder (w.params.setOrder S ep) es.toArray).toList.length = es.length := by have := (pick_perm (w.params.setOrder S ep) es.toArray).length_eq; simpa using this
    have hi' : i < (pickOrder (w.params.setOrder S ep) es.toArray).size := by rw [← Array.length_toList]; omega
    refine si_next_slot (sl := 0) (nx := 0) (v := ((pickOrder (w.params.setOrder S ep) es.toArray)[i]).2) hne st.1 st.2 (fun s R E st' hR => next_text hb st' (by rw [Array.getElem?_eq_getElem hi']; exact hR)) fun h' it' k => ?_
    exact hQ _ h' s.toks (by simp [hi']) ⟨it', st.2.at fun o e => k S o hne e⟩ fun b o hb e => k b o (fun z => hb (by simp [z])) e
  done := fun s Q E st hQ => by
    have hl : (pickOrder (w.params.setOrder S ep) es.toArray).size = es.length := by have := (pick_perm (w.params.setOrder S ep) es.toArray).length_eq; simpa using this
    exact si_end_slot hh st.1 st.2 (fun s R E st' hR => next_text hb st' (by rw [Array.getElem?_eq_none (by omega)]; exact hR)) fun h' k => hQ h' s.toks fun b o hb e => k b o (fun z => hb (by simp [z])) e
  self := fun _ _ _ _ st hQ => si_self st.1 hQ
theorem walks_slot (hb : w.params.followText "set-order" = false) (hled : t.led = true) (hpl : (!t.plain && decide (es.toArray.size > 1)) = false) (hh : A.handled = none) (hne : S ≠ I) : Walks prog w A I [I, S] [I] es.length (fun i v => (es.map (·.2))[i]? = some v)
    (fun i h => IterAt h I (rawInt (slotAt t i)) i S es.length ep ∧ SetIs h S es ep t) where
  sub := fun b hb => by simp at hb; simp [hb]
  frame := fun _ _ _ st hk => ⟨st.1.at fun o e => hk I (by simp) o e, st.2.at fun o e => hk S (by simp) o e⟩
  item := fun i s Q E hi st hQ => by
    have hl := st.2.tab.len
    rw [List.length_map] at hl
    have hip : i < t.place.size := by omega
    refine si_next_slot (sl := slotAt t i) (nx := slotAt t (i + 1)) (v := es[i].2) hne st.1 st.2 (fun s R E st' hR => next_slot hb st' hled hpl (by
      rw [below_slotAt st.2.tab (by omega)]
      rw [show es.toArray[i]? = some es[i] by simp [hi], Array.getElem?_eq_getElem hip]
      dsimp only
      have : slotAt t (i + 1) = t.place[i] + 1 := by show t.place.getD i 0 + 1 = _; simp [Array.getD, hip]
      rw [this] at hR
      exact hR)) fun h' it' k => ?_
    exact hQ _ h' s.toks (by simp [hi]) ⟨it', st.2.at fun o e => k S o hne e⟩ fun b o hb e => k b o (fun z => hb (by simp [z])) e
  done := fun s Q E st hQ => by
    have hl := st.2.tab.len
    rw [List.length_map] at hl
    exact si_end_slot hh st.1 st.2 (fun s R E st' hR => next_slot hb st' hled hpl (by
      rw [below_slotAt st.2.tab (by omega)]
      rw [show es.toArray[es.length]? = none by simp]
      exact hR)) fun h' k => hQ h' s.toks fun b o hb e => k b o (fun z => hb (by simp [z])) e
  self := fun _ _ _ _ st hQ => si_self st.1 hQ
theorem walks_drawn {T : Addr} {ps : List Nat} (hp : ps.Perm (List.range es.length)) (hh : A.handled = none) (hne : S ≠ I) (hTI : T ≠ I) : Walks prog w A I [I, S, T] [I] es.length (fun i v => ((ps.filterMap (es[·]?)).map (·.2))[i]? = some v)
    (fun i h => IterAt h I (.ref T) i S es.length ep ∧ SetIs h S es ep t ∧ ∃ o n, h.get? T = some o ∧ o.data = .seq (ps.map fun (k : Nat) => rawInt k).toArray n) where
  sub := fun b hb => by simp at hb; simp [hb]
  frame := fun _ _ _ st hk => ⟨st.1.at fun o e => hk I (by simp) o e, st.2.1.at fun o e => hk S (by simp) o e, by obtain ⟨o, n, e, r⟩ := st.2.2; exact ⟨o, n, hk T (by simp) o e, r⟩⟩
  item := fun i s Q E hi st hQ => by
    have hpl := hp.length_eq
    rw [List.length_range] at hpl
    have hip : i < ps.length := by omega
    have hpe : ps[i] < es.length := List.mem_range.mp (hp.mem_iff.mp (List.getElem_mem hip))
    refine si_next_drawn (ps := ps) (p := ps[i]) (e := es[ps[i]]) hne st.1 st.2.1 st.2.2 (by simp [hip]) (by simp [hpe]) fun h' it' k => ?_
    refine hQ _ h' s.toks ?_ ⟨it', st.2.1.at fun o e => k S o hne e, by obtain ⟨o, n, e, r⟩ := st.2.2; exact ⟨o, n, k T o hTI e, r⟩⟩ fun b o hb e => k b o (fun z => hb (by simp [z])) e
    have e1 : ps.filterMap (es[·]?) = ps.map fun k => es.getD k (0, .none) := by
      have hall : ∀ k ∈ ps, k < es.length := fun k hk => List.mem_range.mp (hp.mem_iff.mp hk)
      clear hpl hip hpe hp hi hQ st
      induction ps with
      | nil => rfl
      | cons k ps ih =>
        have hk := hall k (List.mem_cons_self ..)
        rw [List.filterMap_cons, List.getElem?_eq_getElem hk, List.map_cons, ih fun z hz => hall z (List.mem_cons_of_mem _ hz)]
        simp [hk]
    rw [e1]
    simp [hip, hpe]
  done := fun s Q E st hQ => by
    have hpl := hp.length_eq
    rw [List.length_range] at hpl
    exact si_end_drawn hh st.1 st.2.1 st.2.2 (by rw [List.getElem?_eq_none (by omega)]) fun h' k => hQ h' s.toks fun b o hb e => k b o (fun z => hb (by simp [z])) e
  self := fun _ _ _ _ st hQ => si_self st.1 hQ
end
end L2

end

section
set_option maxHeartbeats 3200000
namespace L2
open PySem PySem.Spec PyProof.Rows

theorem setDrawn_eq (a : Addr) : setDrawn a = (do
    let (es, _, t) ← setState a
    let byText ← setsByText
    return !byText && (!t.plain && es.size > 1)) := rfl
theorem nolen_set : typeLookup (.type "set") "__len__" = pure (some (.builtin "set.__len__")) := F.slot_set_len.lookup
section
variable {prog : Program} {w : World} {A : Around} {E : Value → Shared → Prop} {s : Shared} {S : Addr} {es : List (Int × Value)} {ep : Nat} {t : SetTable}

theorem iter_set (st : SetIs s.heap S es ep t) (hled : t.led = ledOf w) (hn : es.length ≤ 1000) {Q : Value → Shared → Prop}
    (hQ : ∀ (I : Addr) (vs : List Value) (fp : List Addr) (St : Nat → Heap → Prop) (h' : Heap) (d : Drawn), vs.Perm (es.map (·.2)) → (∀ A' : Around, A'.handled = none → Walks prog w A' I fp [I] es.length (fun i v => vs[i]? = some v) St) → St 0 h' →
      (∀ b o, s.heap.get? b = some o → h'.get? b = some o) → s.heap.objs.size ≤ I → I ∈ fp → (∀ b ∈ fp, b = S ∨ s.heap.objs.size ≤ b) → Q (.ref I) { s with heap := h', drawn := d }) : wpAny (model prog w) A (pyIter (.ref S)) Q E s := by
  obtain ⟨os, hos, hex, hds⟩ := id st.ob
  have hT : s.TypeIs (.ref S) "set" := ⟨os, hos, hex.1⟩
  have hSlt : S < s.heap.objs.size := Heap.lt_size hos
  refine wpAny_pyIter_slot hT F.slot_set_iter (wpAny_call_entry F.slot_set_iter hT entry_set_iter' ?_ (F.args_set_iter_1 _))
  unfold Builtin.«frozenset.__iter__» Builtin.Frozenset.slot0 slotArgs
  simp only [List.isEmpty_nil, Bool.not_true, Bool.false_eq_true, ↓reduceIte, bind_assoc, List.length_nil, bne_self_eq_false]
  unfold Builtin.Frozenset.addrOf Builtin.Frozenset.sizeOf
  refine wpAny_bind (wpAny_pure ?_)
  try dsimp only
  refine wpAny_bind (wpAny_pure ?_)
  refine wpAny_bind (wpAny_bind (wpAny_setEntries_of hos hds st.fits (wpAny_pure ?_)))
  refine wpAny_bind ?_
  rw [setDrawn_eq]
  refine wpAny_bind (wpAny_setState_of hos hds st.fits ?_)
  dsimp only
  refine wpAny_bind ?_
  unfold setsByText
  refine wpAny_bind (wpAny_askSetting (wpAny_pure ?_))
  refine wpAny_pure ?_
  have hsz : es.toArray.size = es.length := by simp
  show wpAny _ _ (if (!w.params.followText "set-order" && (!t.plain && decide (es.toArray.size > 1))) = true then _ else _) _ _ _
  by_cases hdr : (!w.params.followText "set-order" && (!t.plain && decide (es.toArray.size > 1))) = true
  · rw [if_pos hdr]
    refine wpAny_bind (draw_order es.toArray.size (List.range es.toArray.size) s _ (by simp) fun ps d hp => ?_)
    rw [hsz] at hp ⊢
    have hpl := hp.length_eq
    rw [List.length_range] at hpl
    unfold newTuple
    refine wpAny_bind (wpAny_newObj_type ?_ (by show (ps.map fun (i : Nat) => rawInt i).toArray.size ≤ sizeLine; rw [sizeLine_eq]; simp; omega))
    have g1 : (s.heap.push { cls := .type "tuple", data := .seq (ps.map fun (i : Nat) => rawInt i).toArray }).get? S = some os := Heap.get?_push_of_some _ hos
    refine wpAny_bind (wpAny_setEpoch_of (s := { s with heap := s.heap.push { cls := .type "tuple", data := .seq (ps.map fun (i : Nat) => rawInt i).toArray }, drawn := d }) g1 hds st.fits ?_)
    unfold newFields
    refine wpAny_bind (wpAny_newObj_type ?_ (by size_fits))
    refine wpAny_pure ⟨_, rfl, "set_iterator", _, ⟨_, Heap.get?_push_size _ rfl, rfl⟩, slot_si_next.lookup, ?_⟩
    have sz1 : (s.heap.push { cls := .type "tuple", data := .seq (ps.map fun (i : Nat) => rawInt i).toArray }).objs.size = s.heap.objs.size + 1 := Heap.size_push ..
    refine hQ (s.heap.push { cls := .type "tuple", data := .seq (ps.map fun (i : Nat) => rawInt i).toArray }).objs.size ((ps.filterMap (es[·]?)).map (·.2)) [(s.heap.push { cls := .type "tuple", data := .seq (ps.map fun (i : Nat) => rawInt i).toArray }).objs.size, S, s.heap.objs.size] _ _ d ((order_es hp).1.map _)
      (fun A' hA' => walks_drawn (T := s.heap.objs.size) (ps := ps) (es := es) (S := S) (ep := ep) (t := t) hp hA' ?_ ?_) ?_ (fun b o e => Heap.get?_push_of_some _ (Heap.get?_push_of_some _ e)) ?_ (by simp) ?_
    · rw [sz1]; exact Nat.ne_of_lt (Nat.lt_succ_of_lt hSlt)
    · rw [sz1]; exact Nat.ne_of_lt (Nat.lt_succ_self _)
    · exact ⟨⟨_, Heap.get?_push_size _ rfl, rfl, rfl⟩, st.at fun o e => Heap.get?_push_of_some _ (Heap.get?_push_of_some _ e), _, _, Heap.get?_push_of_some _ (Heap.get?_push_size _ rfl), rfl⟩
    · rw [sz1]; exact Nat.le_succ _
    · intro b hb
      simp only [List.mem_cons, List.not_mem_nil, or_false] at hb
      rcases hb with rfl | rfl | rfl
      · right; rw [sz1]; exact Nat.le_succ _
      · left; rfl
      · right; exact Nat.le_refl _
  · rw [if_neg hdr]
    refine wpAny_bind (wpAny_pure ?_)
    refine wpAny_bind (wpAny_setEpoch_of hos hds st.fits ?_)
    unfold newFields
    refine wpAny_bind (wpAny_newObj_type ?_ (by size_fits))
    refine wpAny_pure ⟨_, rfl, "set_iterator", _, ⟨_, Heap.get?_push_size _ rfl, rfl⟩, slot_si_next.lookup, ?_⟩
    rw [hsz]
    have fin : ∀ (vs : List Value) (St : Nat → Heap → Prop), vs.Perm (es.map (·.2)) → (∀ A' : Around, A'.handled = none → Walks prog w A' s.heap.objs.size [s.heap.objs.size, S] [s.heap.objs.size] es.length (fun i v => vs[i]? = some v) St) →
        St 0 (s.heap.push { cls := .type "set_iterator", data := .fields [rawInt 0, rawInt 0, .ref S, rawInt es.length, rawInt ep].toArray }) →
        Q (.ref s.heap.objs.size) { s with heap := s.heap.push { cls := .type "set_iterator", data := .fields [rawInt 0, rawInt 0, .ref S, rawInt es.length, rawInt ep].toArray } } := fun vs St hp W h0 => by
      refine hQ s.heap.objs.size vs [s.heap.objs.size, S] St _ s.drawn hp W h0 (fun b o e => Heap.get?_push_of_some _ e) (Nat.le_refl _) (by simp) fun b hb => ?_
      simp only [List.mem_cons, List.not_mem_nil, or_false] at hb
      rcases hb with rfl | rfl
      · exact .inr (Nat.le_refl _)
      · exact .inl rfl
    cases hbt : w.params.followText "set-order" with
    | true =>
      refine fin _ _ ?_ (fun A' hA' => walks_text (S := S) (es := es) (ep := ep) (t := t) hbt hA' (Nat.ne_of_lt hSlt)) ⟨⟨_, Heap.get?_push_size _ rfl, rfl, rfl⟩, st.at fun o e => Heap.get?_push_of_some _ e⟩
      have := (pick_perm (w.params.setOrder S ep) es.toArray).map (·.2)
      simpa using this
    | false =>
      have hpl : (!t.plain && decide (es.toArray.size > 1)) = false := by
        rw [hbt] at hdr
        simpa using hdr
      exact fin _ _ (List.Perm.refl _) (fun A' hA' => walks_slot (S := S) (es := es) (ep := ep) (t := t) hbt (by rw [hled, ledOf, hbt]; rfl) hpl hA' (Nat.ne_of_lt hSlt)) ⟨⟨_, Heap.get?_push_size _ rfl, rfl, rfl⟩, st.at fun o e => Heap.get?_push_of_some _ e⟩

theorem collect_set (hh : A.handled = none) (st : SetIs s.heap S es ep t) (hled : t.led = ledOf w) (hn : es.length ≤ 1000) {Q : List Value → Shared → Prop}
    (hQ : ∀ (vs : List Value) (h' : Heap) (d : Drawn) (tk : Nat), vs.Perm (es.map (·.2)) → (∀ b o, s.heap.get? b = some o → h'.get? b = some o) → s.heap.objs.size ≤ h'.objs.size → Q vs { s with heap := h', drawn := d, toks := tk }) : wpAny (model prog w) A (collect (.ref S)) Q E s := by
  obtain ⟨os, hos, hex, hds⟩ := id st.ob
  have hSlt : S < s.heap.objs.size := Heap.lt_size hos
  unfold collect
  refine wpAny_bind (wpAny_runValue (codeAny_builtin F.entry_proto_collect ?_))
  rw [Around.under_plainId F.plain_proto_collect _]
  show wpAny _ A.in1 (newList [] >>= fun l => again (.builtin "list.__iadd__" ⟨[l, .ref S], []⟩)) _ _ s
  refine wpAny_bind (wpAny_newObj_type ?_)
  refine wpAny_pure ⟨plainId_quiet F.plain_list_iadd _, codeAny_builtin F.entry_list_iadd ?_⟩
  rw [Around.under_plainId F.plain_list_iadd _]
  generalize hL : s.heap.objs.size = L
  have hst1 : SetIs (s.heap.push { cls := .type "list", data := .seq ([] : List Value).toArray }) S es ep t := st.at fun o e => Heap.get?_push_of_some _ e
  have g0 : (s.heap.push { cls := .type "list", data := .seq ([] : List Value).toArray }).get? L = some { cls := .type "list", data := .seq ([] : List Value).toArray } := by rw [← hL]; exact Heap.get?_push_size _ rfl
  have hS1 : (s.heap.push { cls := .type "list", data := .seq ([] : List Value).toArray }).get? S = some os := Heap.get?_push_of_some _ hos
  have hT1 : Shared.TypeIs { s with heap := s.heap.push { cls := .type "list", data := .seq ([] : List Value).toArray } } (.ref S) "set" := ⟨os, hS1, hex.1⟩
  show wpAny _ A.in1 (Builtin.List.listExtendWith (.ref L) (.ref S) (.ref L)) _ _ _
  unfold Builtin.List.listExtendWith
  refine wpAny_bind (wpAny_typeOf hT1 ?_)
  have h1 : Builtin.List.listSameRef (.ref L) (.ref S) = false := by simp [Builtin.List.listSameRef]; rw [← hL]; exact Nat.ne_of_gt hSlt
  have h2 : (Value.type "set" == Value.type "list") = false := by decide
  have h3 : (Value.type "set" == Value.type "tuple") = false := by decide
  simp only [h1, h2, h3, Bool.or_false, Bool.false_eq_true, if_false]
  refine wpAny_bind (iter_set (s := { s with heap := s.heap.push { cls := .type "list", data := .seq ([] : List Value).toArray } }) hst1 hled hn fun I vs fp St h' d hp W hS0 hk hI hIf hfp => ?_)
  have hT2 : Shared.TypeIs { s with heap := h', drawn := d } (.ref S) "set" := ⟨os, hk S os hS1, hex.1⟩
  have gL : h'.get? L = some { cls := .type "list", data := .seq ([] : List Value).toArray } := hk L _ g0
  refine wpAny_bind (wpAny_holding ?_)
  unfold Builtin.List.listLengthHint
  refine wpAny_bind (wpAny_specialOf hT2 nolen_set ?_)
  generalize hid : ("set.__len__" : String) = id0
  wp_delta
  rw [show splitId id0 = some ("set", "__len__") from by subst hid; decide +kernel]
  subst hid
  dsimp only
  refine wpAny_bind (wpAny_isInstance (b := true) hT2 (by rw [isSubtype_type]; kernel_rfl) ?_)
  rw [if_neg (by decide)]
  rw [if_pos (by decide +kernel)]
  refine wpAny_bind (wpAny_typeOf hT2 ?_)
  dsimp only
  refine wpAny_pure ?_
  rw [if_pos (by decide +kernel)]
  refine wpAny_bind (wpAny_rule ?_)
  refine wpAny_bind ?_
  show wpAny _ A.in1 (updateSeq L (·.push .none) >>= fun _ => updateSeq L (·.pop)) _ _ _
  refine wpAny_bind (wpAny_updateSeq gL rfl ?_)
  have gL2 := Heap.get?_update_self (Obj.mapSeq (·.push Value.none)) gL rfl
  refine wpAny_updateSeq gL2 rfl ?_
  have gL3 := Heap.get?_update_self (Obj.mapSeq (·.pop)) gL2 rfl
  have oth : ∀ b o, b ≠ L → h'.get? b = some o → ((h'.update L (Obj.mapSeq (·.push Value.none))).update L (Obj.mapSeq (·.pop))).get? b = some o :=
    fun b o hb e => (Heap.get?_update_other _ _ (Ne.symm hb)).trans ((Heap.get?_update_other _ _ (Ne.symm hb)).trans e)
  have WS := (W A.in1 (by simp [hh])).toS
  have hLS : L ≠ S := by rw [← hL]; exact Nat.ne_of_gt hSlt
  have hLf : L ∉ fp := fun hm => by
    rcases hfp L hm with e | e
    · exact hLS e
    · have e2 : s.heap.objs.size + 1 ≤ L := by have := e; rwa [Heap.size_push] at this
      rw [hL] at e2
      exact Nat.lt_irrefl _ e2
  refine wpAny_pure ⟨plainId_quiet F.plain_extend_loop _, codeAny_extend_loopS WS (by rw [sizeLine_eq]; omega) L hLf _ es.length 0 _ _ _ rfl (Nat.zero_le _)
    (WS.frame 0 ({ s with heap := h', drawn := d } : Shared) _ s.toks hS0 (Nat.le_refl _) fun b hb o e => oth b o (fun h => hLf (h ▸ hb)) e) gL3 (ItemsOf.nil _) fun s' acc' c' hm hS' hacc => ?_⟩
  show wpAny _ A (load L >>= _) _ _ s'
  refine wpAny_bind (wpAny_load hS' ?_)
  have e1 : s'.gens = s.gens := hm.gens
  have e2 : s'.drawn = d := hm.drawn
  have e3 : s'.os = s.os := hm.os
  obtain ⟨hh', gg', dd', tt', oo'⟩ := s'
  simp only at e1 e2 e3
  subst e1; subst e2; subst e3
  refine wpAny_pure (hQ acc'.toList hh' dd' tt' ?_ (fun b o e => ?_) (by rw [hL]; exact Nat.le_of_lt (Heap.lt_size hS')))
  · have : acc'.toList = vs := by
      have hvl := hp.length_eq
      rw [List.length_map] at hvl
      apply List.ext_getElem?
      intro j
      by_cases hj : j < acc'.size
      · have := hacc.2 j acc'[j] (by simp [hj])
        rw [this]; simp [hj]
      · rw [List.getElem?_eq_none (by simpa using hj), List.getElem?_eq_none (by rw [hvl, ← hacc.1]; omega)]
    rw [this]; exact hp
  · have hbL : b ≠ L := by rw [← hL]; exact Nat.ne_of_lt (Heap.lt_size e)
    have hbI : b ≠ I := fun z => by
      have h5 : s.heap.objs.size + 1 ≤ I := by have := hI; rwa [Heap.size_push] at this
      have := Heap.lt_size e
      rw [z] at this
      exact absurd (Nat.lt_of_lt_of_le (Nat.lt_succ_of_lt this) h5) (Nat.lt_irrefl _)
    refine hm.heap b o (by simp only [List.mem_cons, List.not_mem_nil, or_false, not_or]; exact ⟨hbL, hbI⟩) (oth b o hbL (hk b o (Heap.get?_push_of_some _ e)))
end
end L2

end

section
set_option maxHeartbeats 1000000
namespace L2
open PySem PySem.Spec PyProof.Rows

theorem Inv.drawn {X : Cx} {pins : List (Addr × Obj)} {σ : St} {H : Hp} {s : Shared} (I : Inv X pins σ H s) (d : Drawn) : Inv X pins σ H { s with drawn := d } :=
  ⟨I.ok, I.os, I.bare, I.base, I.loc, I.cell, I.free, I.freeC, I.pin, I.hok, I.len⟩

def setHO (w : World) (S : Addr) (ts : List El) : HO := .ext fun h => ∃ ts' : List El, ts'.Perm ts ∧ SetAt h S (ts'.map (elE w)) (ledOf w)
section
variable {X : Cx} {sc : Bool}
theorem call_setR (hc : X.calm = true) (hu : X.A.units + 64 < cLine) : CallR X (.type "set") (fun xs H Q => ∃ B l ds ys, xs = [.ref l] ∧ SqL X.K H l ys ∧ Reps X.K B H ds ys ∧ (uniqD ds).length < 64 ∧ ds.all (hasH 8) = true ∧ (ds.all fun d => scD d == sc) = true ∧
    ∀ S ts, H S = none → (∀ t ∈ ts, ElOk X.K B H sc t) → (ts.map (·.1)).Nodup → (∀ d, d ∈ ts.map (·.1) ↔ d ∈ ds) → Q (.ref S) (upd H S (setHO X.w S ts))) := by
  intro pins s σ H xs us Q I r h
  obtain ⟨B, l, ds, ys, rfl, hq, rs, h64, hh8, hsc, q⟩ := h
  obtain ⟨u, rfl, rx⟩ := vals1 r
  cases rx
  obtain ⟨its, rv, pl, hz⟩ := I.list hq
  have l1 := rs.length
  have l2 := rv.length
  refine call_set_D (B := B) (sc := sc) I (I.ok.hd hc) (by omega) pl.isList ds (by simp; omega) (by omega) (fun i v d hv hd => ?_) fun h' tk ts hk hF => ?_
  · obtain ⟨x, hx, rx⟩ := rs.get hd
    obtain ⟨u, hu', ru⟩ := rv.get hx
    have : u = v := by
      have : its[i]? = some v := by simpa using hv
      rw [hu'] at this; exact Option.some.inj this
    subst this
    have hm := List.mem_of_getElem? hd
    exact ⟨x, rx, ru, List.all_eq_true.mp hh8 d hm, beq_iff_eq.mp (List.all_eq_true.mp hsc d hm)⟩
  · have hfr : H s.heap.objs.size = none := I.fresh
    refine ⟨.ref s.heap.objs.size, _, I.laid (a := s.heap.objs.size) (o := setHO X.w s.heap.objs.size ts) (h' := h') (t' := tk) hk (Nat.le_refl _) ?_, rfl, q _ ts hfr hF.ok hF.nd hF.mem⟩
    obtain ⟨o, ep, t, ho, r⟩ := hF.at'
    exact ⟨⟨ts, List.Perm.refl _, o, ep, t, ho, r⟩, ⟨o, ho⟩, fun h1 h2 ⟨ts', p, a⟩ k => ⟨ts', p, a.same k⟩⟩
theorem sortD_same {ds es : List D} (hc : cmpD ds = true) (hp : es.Perm ds) : sortD es = sortD ds ∧ cmpD es = true := by
  have hc2 : cmpD es = true := by
    unfold cmpD
    rw [List.all_eq_true]
    intro x hx
    rw [Bool.and_eq_true]
    have hx' := hp.mem_iff.mp hx
    refine ⟨cmpD_ok hc hx', ?_⟩
    rw [List.all_eq_true]
    intro y hy
    obtain ⟨b, e⟩ := cmpD_at hc hx' (hp.mem_iff.mp hy)
    rw [e]; rfl
  exact ⟨sorted_one hc _ _ (fun y hy => hp.mem_iff.mp ((sortD_perm es).mem_iff.mp hy)) ((sortD_perm es).trans (hp.trans (sortD_perm ds).symm)) (sortD_sorted hc2) (sortD_sorted hc), hc2⟩
theorem reps_els {K : PySem.W.Frag} {B : Addr → Prop} {H : Hp} : ∀ {ts : List El}, (∀ t ∈ ts, ElOk K B H sc t) → Reps K B H (ts.map (·.1)) (ts.map (·.2.1)) ∧ Vals (ts.map (·.2.1)) (ts.map (·.2.2))
  | [], _ => ⟨Reps.nil, .nil⟩
  | t :: ts, h => by
    obtain ⟨a, b⟩ := reps_els (ts := ts) fun z hz => h z (List.mem_cons_of_mem _ hz)
    have ht := h t (List.mem_cons_self ..)
    exact ⟨Reps.cons ht.rep a, .cons ht.rel b⟩
theorem call_sortedS {c : KD} (hc : X.calm = true) (hu : X.A.units + 64 < cLine) : CallR X (.builtin "sorted") (fun xs H Q => ∃ B S ts, xs = [.ref S] ∧ H S = some (setHO X.w S ts) ∧ (∀ t ∈ ts, ElOk X.K B H sc t) ∧ ts.length < 64 ∧ cmpD (ts.map (·.1)) = true ∧ (ts.map (·.1)).all (isKD c) = true ∧
    ∀ l zs, H l = none → Reps X.K B H (sortD (ts.map (·.1))) zs → Q (.ref l) (upd H l (.lst zs))) := by
  intro pins s σ H xs us Q I r h
  obtain ⟨B, S, ts, rfl, hS, hok, h64, hcm, hk, q⟩ := h
  obtain ⟨u, rfl, rx⟩ := vals1 r
  cases rx
  obtain ⟨⟨ts1, p1, o, ep, t, ho, hex, hd, T, hf, hled⟩, _, _⟩ := I.hok S _ hS
  have hl := T.len
  have hl1 := p1.length_eq
  rw [List.length_map, List.length_map] at hl
  have st : SetIs s.heap S (ts1.map (elE X.w)) ep t := ⟨⟨o, ho, hex, hd⟩, T, by omega⟩
  refine Calls.call_function_entry kind_sorted plain_sorted entry_sorted (args_sorted1 _) ?_
  unfold Builtin.«sorted»
  refine wpAny_bind (m := checkCount "sorted" 1 1 _) (wpAny_pure (wpAny_bind (collect_set (by simp [I.ok.hd hc]) st hled (by rw [List.length_map]; omega) fun vs h' d tk hp hkeep hsz => ?_)))
  have hp2 : vs.Perm (ts1.map (·.2.2)) := by rw [List.map_map] at hp; exact hp
  obtain ⟨ts2, p2, rfl⟩ := perm_map (fun t : El => t.2.2) hp2 ts1 rfl
  have p3 : ts2.Perm ts := p2.trans p1
  have hok2 : ∀ t ∈ ts2, ElOk X.K B H sc t := fun t ht => hok t (p3.mem_iff.mp ht)
  obtain ⟨rs, rv⟩ := reps_els hok2
  obtain ⟨es, hcm2⟩ := sortD_same hcm (p3.map (·.1))
  have hk2 : (ts2.map (·.1)).all (isKD c) = true := by
    rw [List.all_eq_true] at hk ⊢
    exact fun x hx => hk x ((p3.map (·.1)).mem_iff.mp hx)
  have hlen := p3.length_eq
  refine sorted_tail (s := { s with drawn := d }) (t1 := tk) hu (I.drawn d) hkeep hsz rs rv (by rw [List.length_map]; omega) hcm2 hk2 fun l zs hl' rz => q l zs hl' (es ▸ rz)
theorem cmpD_sub {ds es : List D} (hc : cmpD ds = true) (h : ∀ x ∈ es, x ∈ ds) : cmpD es = true := by
  unfold cmpD
  rw [List.all_eq_true]
  intro x hx
  rw [Bool.and_eq_true]
  refine ⟨cmpD_ok hc (h x hx), ?_⟩
  rw [List.all_eq_true]
  intro y hy
  obtain ⟨b, e⟩ := cmpD_at hc (h x hx) (h y hy)
  rw [e]; rfl
def sortSetO (c : KD) (sc : Bool) (x : Option D) : Option D := match x with
  | some (.lst ds) => if (decide ((uniqD ds).length < 64) && cmpD ds && ds.all (isKD c) && ds.all (hasH 8) && ds.all fun d => scD d == sc) = true then some (.lst (sortD (uniqD ds))) else none
  | _ => none
variable {a : Expr} {fa : DEnv → Option D} {pos pos2 p p2 : Pos}
theorem df_sortedSet {c : KD} (hu : X.A.units + 64 < cLine) (hc : X.calm = true) (g : Gl X "sorted") (hm : X.mg "sorted" = none) (g2 : Gl X "set") (hm2 : X.mg "set" = none) (ha : DE X false a fa) (hs : starEach [a] X.env = [(false, eval a X.env)] := by rfl)
    (hs2 : starEach [.Call (.Name "set" p2) [a] [] pos2] X.env = [(false, eval (.Call (.Name "set" p2) [a] [] pos2) X.env)] := by rfl) :
    DF X (.Call (.Name "sorted" p) [.Call (.Name "set" p2) [a] [] pos2] [] pos) (fun δ => sortSetO c sc (fa δ)) :=
  (pe_callB (call_sortedS (c := c) (sc := sc) hc hu) g hm bt_sorted (pa_cons (pe_callTy (call_setR (sc := sc) hc hu) g2 hm2 bt_set (pa_cons ha pa_nil hs) (he := hs)) pa_nil hs2) (he := hs2)).imp fun σ H Q ⟨B, Hk, δ, d, R, e, k⟩ => by
    unfold sortSetO at e
    dsimp only at e
    split at e
    · rename_i ds qd
      by_cases cc : (decide ((uniqD ds).length < 64) && cmpD ds && ds.all (isKD c) && ds.all (hasH 8) && ds.all fun d => scD d == sc) = true
      · rw [if_pos cc] at e; cases e
        rw [Bool.and_eq_true, Bool.and_eq_true, Bool.and_eq_true, Bool.and_eq_true] at cc
        obtain ⟨⟨⟨⟨c1, c2⟩, c3⟩, c4⟩, c5⟩ := cc
        simp only [tCB, tCons, tNil]
        refine ⟨B, Hk, δ, _, R, qd, fun v H' s r => ?_⟩
        have R' := R.to s
        simp only [Rep] at r
        obtain ⟨l, xs, rfl, hq, rs⟩ := r
        refine ⟨bset false B δ σ, l, ds, xs, rfl, hq.sq, rs, of_decide_eq_true c1, c4, c5, fun S ts hS hok hnd hmem => ?_⟩
        have s2 := same_upd (o := setHO X.w S ts) hS
        have hp : (ts.map (·.1)).Perm (uniqD ds) := (List.perm_ext_iff_of_nodup hnd (uniqD_nodup ds)).mpr fun x => (hmem x).trans (uniqD_mem x ds).symm
        have hl := hp.length_eq
        rw [List.length_map] at hl
        have hul := uniqD_len ds
        have c1' := of_decide_eq_true c1
        have c2' : cmpD (uniqD ds) = true := cmpD_sub c2 fun x hx => (uniqD_mem x ds).mp hx
        obtain ⟨es, hcm⟩ := sortD_same c2' hp
        refine ⟨bset false B δ σ, S, ts, rfl, upd_same, fun t ht => ?_, by omega, hcm, ?_, fun l' zs hl' rz => ?_⟩
        · have q := hok t ht
          exact ⟨q.rep.same (m := false) R' s2, q.rel, q.has, q.sc⟩
        · rw [List.all_eq_true] at c3 ⊢
          exact fun x hx => c3 x ((hmem x).mp hx)
        · have s3 := same_upd (o := .lst zs) hl'
          have R2 := R'.to s2
          rw [es] at rz
          exact k l' _ (s.trans (s2.trans s3)) (s.free (s2.free hl')) ⟨_, upd_same, rz.same (m := false) R2 s3⟩
      · rw [if_neg cc] at e; cases e
    · cases e
end
end L2

end

section
set_option maxHeartbeats 1000000
namespace L2
open PySem

@[simp] theorem lim_eq : lim = 1000000 := by decide
@[simp] theorem bindO_s {α β : Type} (a : α) (f : α → Option β) : bindO (some a) f = f a := (rfl)
@[simp] theorem bindO_n {α β : Type} (f : α → Option β) : bindO none f = none := (rfl)
@[simp] theorem shO_s (d : D) (b : Bool) : shO (some (d, b)) = some d := (rfl)
@[simp] theorem frO_s (d : D) : frO (some (d, true)) = some d := (rfl)
@[simp] theorem consO_s (a : D) (l : List D) : consO (some a) (some l) = some (a :: l) := (rfl)
@[simp] theorem seqO_n (δ : DEnv) (k : DEnv → Option Out) : seqO (some (.next δ)) k = k δ := (rfl)
@[simp] theorem seqO_r (d : D) (b : Bool) (k : DEnv → Option Out) : seqO (some (.ret d b)) k = some (.ret d b) := (rfl)
@[simp] theorem ifO_t (x y : Option Out) : ifO (some true) x y = x := (rfl)
@[simp] theorem ifO_f (x y : Option Out) : ifO (some false) x y = y := (rfl)
@[simp] theorem retO_s (d : D) : retO (some d) = some (.ret d false) := (rfl)
@[simp] theorem retF_s (d : D) : retF (some d) = some (.ret d true) := (rfl)
@[simp] theorem outF_r (d : D) (b : Bool) : outF (some (.ret d b)) = some (d, b) := (rfl)
@[simp] theorem nextO_s (δ : DEnv) : nextO δ = some (.next δ) := (rfl)
@[simp] theorem setO_s (i : Nat) (d : D) (δ : DEnv) (h : i < δ.length) : setO i (some d) δ = some (.next (δ.set i (some (d, false)))) := by unfold setO; simp only [if_pos h]
@[simp] theorem setF_s (i : Nat) (d : D) (δ : DEnv) (h : i < δ.length) : setF i (some d) δ = some (.next (δ.set i (some (d, true)))) := by unfold setF; simp only [if_pos h]
@[simp] theorem toName_s (i : Nat) (d : D) (δ : DEnv) (h : i < δ.length) : toName i d δ = some (δ.set i (some (d, false))) := by unfold toName; simp only [if_pos h]
@[simp] theorem toTup_s (υ : List D → DEnv → Option DEnv) (ds : List D) (δ : DEnv) : toTup υ (.tup ds) δ = υ ds δ := (rfl)
@[simp] theorem toCons_s (τ : D → DEnv → Option DEnv) (υ : List D → DEnv → Option DEnv) (d : D) (ds : List D) (δ : DEnv) : toCons τ υ (d :: ds) δ = bindO (τ d δ) (υ ds) := (rfl)
@[simp] theorem toNil_s (δ : DEnv) : toNil [] δ = some δ := (rfl)
@[simp] theorem addI_s (i j : Int) : addI (some (.int i)) (some (.int j)) = some (.int (i + j)) := (rfl)
@[simp] theorem subI_s (i j : Int) : subI (some (.int i)) (some (.int j)) = some (.int (i - j)) := (rfl)
@[simp] theorem mulI_s (i j : Int) (h : (-(2 ^ 64) < i ∧ i < 2 ^ 64) ∨ (-(2 ^ 64) < j ∧ j < 2 ^ 64)) : mulI (some (.int i)) (some (.int j)) = some (.int (i * j)) := bI_eq (by unfold cMul; exact decide_eq_true h)
@[simp] theorem modI_s (i j : Int) (h : 0 < j) : modI (some (.int i)) (some (.int j)) = some (.int (i % j)) := bI_eq (by unfold cMod; exact decide_eq_true h)
@[simp] theorem divI_s (i j : Int) (h : 0 < j ∧ j < 1073741824) : divI (some (.int i)) (some (.int j)) = some (.int (i / j)) := bI_eq (by unfold cDiv; exact decide_eq_true h)
@[simp] theorem tupO_s (ds : List D) (h : ds.length ≤ lim) : tupO (some ds) = some (.tup ds) := by unfold tupO; simp only [if_pos h]
@[simp] theorem lstO_s (ds : List D) (h : ds.length ≤ lim) : lstO (some ds) = some (.lst ds) := by unfold lstO; simp only [if_pos h]
@[simp] theorem lstLim_s (ds : List D) : lstLim (some ds) = some (.lst ds) := (rfl)
@[simp] theorem lstL_s (ds : List D) : lstL (some (.lst ds)) = some ds := (rfl)
@[simp] theorem tupL_s (ds : List D) : tupL (some (.tup ds)) = some ds := (rfl)
@[simp] theorem tupleO_l (ds : List D) : tupleO (some (.lst ds)) = some (.tup ds) := (rfl)
@[simp] theorem tupleO_t (ds : List D) : tupleO (some (.tup ds)) = some (.tup ds) := (rfl)
@[simp] theorem listO_l (ds : List D) : listO (some (.lst ds)) = some (.lst ds) := (rfl)
@[simp] theorem listO_t (ds : List D) : listO (some (.tup ds)) = some (.lst ds) := (rfl)
@[simp] theorem lenL_l (ds : List D) : lenL (some (.lst ds)) = some (.int ds.length) := (rfl)
@[simp] theorem lenL_t (ds : List D) : lenL (some (.tup ds)) = some (.int ds.length) := (rfl)
@[simp] theorem ixO_l (ds : List D) (i : Int) : ixO (some (.lst ds)) (some (.int i)) = atI ds i := (rfl)
@[simp] theorem ixO_t (ds : List D) (i : Int) : ixO (some (.tup ds)) (some (.int i)) = atI ds i := (rfl)
@[simp] theorem partI_s (i : Int) : partI (some (.int i)) = some (some i) := (rfl)
@[simp] theorem cutLO_s (ds : List D) (l u : Option Int) : cutLO (some (.lst ds)) (some l) (some u) = some (.lst (cutD ds l u)) := (rfl)
@[simp] theorem cutSO_s (z : Str) (l u : Option Int) (h : z.length ≤ lim) : cutSO (some (.str z)) (some l) (some u) = some (.str (cutS z l u)) := by unfold cutSO; simp only [if_pos h]
@[simp] theorem addS_s (x y : Str) (h : x.length + y.length ≤ lim) : addS (some (.str x)) (some (.str y)) = some (.str (x ++ y)) := by unfold addS; simp only [if_pos h]
@[simp] theorem findO_s (x y : Str) : findO (some (.str x)) (some (.str y)) = some (.int (Txt.find x y)) := (rfl)
@[simp] theorem catO_s (x y : List D) (h : x.length + y.length ≤ lim) : catO (some (.lst x)) (some (.lst y)) = some (.lst (x ++ y)) := by unfold catO; simp only [if_pos h]
@[simp] theorem notO_s (b : Bool) : notO (some b) = some (!b) := (rfl)
@[simp] theorem tyB_s (b : Bool) : tyB (some (.bl b)) = some b := (rfl)
@[simp] theorem ofB_s (b : Bool) : ofB (some b) = some (.bl b) := (rfl)
@[simp] theorem orO_t (y : Option Bool) : orO (some true) y = some true := (rfl)
@[simp] theorem orO_f (y : Option Bool) : orO (some false) y = y := (rfl)
@[simp] theorem andO_t (y : Option Bool) : andO (some true) y = y := (rfl)
@[simp] theorem andO_f (y : Option Bool) : andO (some false) y = some false := (rfl)
@[simp] theorem cI_s (g : Int → Int → Bool) (i j : Int) : cI g (some (.int i)) (some (.int j)) = some (g i j) := (rfl)
theorem eqO_s (x y : D) (h : ok2 x y = true) : eqO (some x) (some y) = some (decide (x = y)) := by unfold eqO; simp only [if_pos h]
@[simp] theorem eqO_int (i j : Int) : eqO (some (.int i)) (some (.int j)) = some (decide (i = j)) := by
  rw [eqO_s _ _ (by rfl)]; simp only [D.int.injEq]
theorem neO_s (x y : D) (h : ok2 x y = true) : neO (some x) (some y) = some (!decide (x = y)) := by unfold neO; rw [eqO_s _ _ h]; rfl
theorem rng1_s (j : Int) (h : -(2 ^ 62) ≤ j ∧ j < 2 ^ 62) : rng1 (some (.int j)) = some (rngL 0 j.toNat) := by unfold rng1; simp only [decide_eq_true h, if_true]
theorem sumO_s (ns : List Int) : sumO (some (.lst (ns.map D.int))) = some (.int ns.sum) := by
  have : intsD (ns.map D.int) = some ns := by
    induction ns with
    | nil => rfl
    | cons n ns ih => simp only [List.map_cons, intsD, ih]
  unfold sumO; simp only [this]
theorem frzE_s {δ : DEnv} {i : Nat} {d : D} (h : δ[i]? = some (some (d, true))) : frzE i δ = δ.set i (some (d, false)) := by unfold frzE; rw [h]
theorem appO_s {δ : DEnv} {i : Nat} {ds : List D} (d : D) (h : δ[i]? = some (some (.lst ds, true))) (hl : ds.length < lim) : appO i (some d) δ = some (.next (δ.set i (some (.lst (ds ++ [d]), true)))) := by
  unfold appO rdOwn; simp only [h, if_pos hl]
theorem extO_s {δ : DEnv} {i : Nat} {ds es : List D} (h : δ[i]? = some (some (.lst ds, true))) (hl : ds.length + es.length ≤ lim) : extO i (some (.lst es)) δ = some (.next (δ.set i (some (.lst (ds ++ es), true)))) := by
  unfold extO rdOwn; simp only [h, if_pos hl]
theorem rd_s {δ : DEnv} {i : Nat} {d : D} (m : Bool) (h : δ[i]? = some (some (d, false))) : rd m i δ = some d := by unfold rd; rw [h]; rfl
theorem rd_o {δ : DEnv} {i : Nat} {d : D} (h : δ[i]? = some (some (d, true))) : rd true i δ = some d := by unfold rd; rw [h]; rfl
@[simp] theorem rd_0 (m : Bool) (d : D) (δ : DEnv) : rd m 0 (some (d, false) :: δ) = some d := (rfl)
@[simp] theorem rd_0o (d : D) (δ : DEnv) : rd true 0 (some (d, true) :: δ) = some d := (rfl)
@[simp] theorem rd_1 (m : Bool) (i : Nat) (x : Option (D × Bool)) (δ : DEnv) : rd m (i + 1) (x :: δ) = rd m i δ := (rfl)
@[simp] theorem rdOwn_0 (d : D) (δ : DEnv) : rdOwn 0 (some (d, true) :: δ) = some d := (rfl)
@[simp] theorem rdOwn_1 (i : Nat) (x : Option (D × Bool)) (δ : DEnv) : rdOwn (i + 1) (x :: δ) = rdOwn i δ := (rfl)
@[simp] theorem frzE_0 (d : D) (b : Bool) (δ : DEnv) : frzE 0 (some (d, b) :: δ) = some (d, false) :: δ := by cases b <;> rfl
@[simp] theorem frzE_1 (i : Nat) (x : Option (D × Bool)) (δ : DEnv) : frzE (i + 1) (x :: δ) = x :: frzE i δ := by
  unfold frzE
  rw [List.getElem?_cons_succ]
  split <;> simp_all
theorem appO_u (i : Nat) (d : D) (δ : DEnv) : appO i (some d) δ = (match rdOwn i δ with | some (.lst ds) => if ds.length < lim then some (.next (δ.set i (some (.lst (ds ++ [d]), true)))) else none | _ => none) := by
  unfold appO
  split
  · rename_i e1 e2; cases e2; rw [e1]
  · rename_i h
    split
    · rename_i ds e; exact absurd rfl (h ds d e)
    · rfl
theorem extO_u (i : Nat) (es : List D) (δ : DEnv) : extO i (some (.lst es)) δ = (match rdOwn i δ with | some (.lst ds) => if ds.length + es.length ≤ lim then some (.next (δ.set i (some (.lst (ds ++ es), true)))) else none | _ => none) := by
  unfold extO
  split
  · rename_i e1 e2; cases e2; rw [e1]
  · rename_i h
    split
    · rename_i ds e; exact absurd rfl (h ds es e)
    · rfl
theorem runF_s {n np : Nat} {g : DEnv → Option Out} {ds : List D} (h : ds.length = np) : runF n np g ds = outF (g (startD n ds)) := by unfold runF; rw [if_pos h]

theorem runF_eq {f : List D → Option (D × Bool)} {n np : Nat} {g : DEnv → Option Out} {ds : List D} {δ : DEnv} (hf : f = runF n np g) (hl : ds.length = np) (hs : startD n ds = δ) : f ds = outF (g δ) := by subst hf hs; exact runF_s hl

theorem atI_in {α : Type} {xs : List α} {i : Int} (h0 : 0 ≤ i) (h1 : i < xs.length) : ∃ v, v ∈ xs ∧ xs[i.toNat]? = some v ∧ atI xs i = some v := by
  have hi : i.toNat < xs.length := by omega
  refine ⟨xs[i.toNat], List.getElem_mem hi, by simp [hi], ?_⟩
  have := atI_nat (xs := xs) (j := i.toNat) (v := xs[i.toNat]) (by simp [hi])
  rwa [Int.toNat_of_nonneg h0] at this
theorem atI_eq {α : Type} {xs : List α} {i : Int} {v : α} (h0 : 0 ≤ i) (h : xs[i.toNat]? = some v) : atI xs i = some v := by
  have := atI_nat h
  rwa [Int.toNat_of_nonneg h0] at this

theorem compO_map {h : D → Option (Option D)} {g : D → D} : ∀ {ds : List D}, (∀ d ∈ ds, h d = some (some (g d))) → compO h ds = some (ds.map g)
  | [], _ => rfl
  | d :: ds, e => by
    unfold compO
    rw [e d (List.mem_cons_self ..), compO_map fun x hx => e x (List.mem_cons_of_mem _ hx)]
    rfl

theorem compO_ex {h : D → Option (Option D)} {P : D → D → Prop} : ∀ {ds : List D}, (∀ d ∈ ds, ∃ y, h d = some (some y) ∧ P d y) → ∃ g : List D, compO h ds = some g ∧ g.length = ds.length ∧ ∀ (i : Nat) d, ds[i]? = some d → ∃ y, g[i]? = some y ∧ P d y
  | [], _ => ⟨[], rfl, rfl, fun i d h => by simp at h⟩
  | d :: ds, e => by
    obtain ⟨y, e1, p⟩ := e d (List.mem_cons_self ..)
    obtain ⟨g, e2, hl, hp⟩ := compO_ex fun x hx => e x (List.mem_cons_of_mem _ hx)
    refine ⟨y :: g, ?_, by simp [hl], fun i z hz => ?_⟩
    · unfold compO; rw [e1, e2]
    · cases i with
      | zero => simp at hz; subst hz; exact ⟨y, rfl, p⟩
      | succ i => simpa using hp i z (by simpa using hz)
theorem runC_s {bo : Bool} {bs : List Bool} {τ : D → DEnv → Option DEnv} {ft : DEnv → Option Bool} {fe : DEnv → Option D} {δ : DEnv} {ds : List D} (h : ds.length ≤ lim) : runC bo bs τ ft fe δ ds = compO (itemO τ ft fe (maskD bo bs δ)) ds := by unfold runC; rw [if_pos h]
theorem loopD_inv {body : D → DEnv → Option Out} (I : List D → DEnv → Prop) : ∀ (post pre : List D) (δ : DEnv), I pre δ → (∀ p d q δ, p ++ d :: q = pre ++ post → I p δ → ∃ δ', (body d δ = some (.next δ') ∨ body d δ = some (.cont δ')) ∧ I (p ++ [d]) δ') →
    ∃ δ', loopD body post δ = some (.next δ') ∧ I (pre ++ post) δ'
  | [], pre, δ, h, _ => ⟨δ, rfl, by simpa using h⟩
  | d :: post, pre, δ, h, st => by
    obtain ⟨δ1, e1, i1⟩ := st pre d post δ rfl h
    obtain ⟨δ', e', i'⟩ := loopD_inv I post (pre ++ [d]) δ1 i1 fun p d' q δ e i => st p d' q δ (by simpa using e) i
    refine ⟨δ', ?_, by simpa using i'⟩
    unfold loopD
    rcases e1 with e1 | e1 <;> rw [e1] <;> exact e'
theorem loopD_all {body : D → DEnv → Option Out} (I : DEnv → Prop) {ds : List D} {δ : DEnv} (h : I δ) (st : ∀ d ∈ ds, ∀ δ, I δ → ∃ δ', (body d δ = some (.next δ') ∨ body d δ = some (.cont δ')) ∧ I δ') : ∃ δ', loopD body ds δ = some (.next δ') ∧ I δ' := by
  have := loopD_inv (body := body) (fun _ δ => I δ) ds [] δ h fun p d q δ e i => st d (by rw [List.nil_append] at e; rw [← e]; simp) δ i
  simpa using this
theorem loopD_fold {body : D → DEnv → Option Out} {f : DEnv → D → DEnv} : ∀ {ds : List D} {δ : DEnv}, (∀ p d q, p ++ d :: q = ds → body d (p.foldl f δ) = some (.next ((p ++ [d]).foldl f δ))) → loopD body ds δ = some (.next (ds.foldl f δ))
  | [], δ, _ => rfl
  | d :: ds, δ, h => by
    have h0 := h [] d ds rfl
    simp only [List.foldl_nil, List.nil_append, List.foldl_cons] at h0
    unfold loopD
    rw [h0]
    exact loopD_fold fun p d' q e => by
      have := h (d :: p) d' q (by rw [← e]; rfl)
      simpa using this
theorem rngL_mem {lo : Int} {n : Nat} {d : D} (h : d ∈ rngL lo n) : ∃ i : Nat, i < n ∧ d = .int (lo + i) := by
  unfold rngL at h
  obtain ⟨i, hi, e⟩ := List.mem_map.mp h
  exact ⟨i, List.mem_range.mp hi, e.symm⟩
theorem rngL_len (lo : Int) (n : Nat) : (rngL lo n).length = n := by unfold rngL; simp
theorem rngL_get {lo : Int} {n i : Nat} (h : i < n) : (rngL lo n)[i]? = some (.int (lo + i)) := by unfold rngL; simp [h]

theorem strsD_map' (ns : List Str) : strsD (ns.map D.str) = some ns := strsD_map ns
theorem join0_len : ∀ (ts : List Str), (Txt.join "" ts).length = (ts.map (·.length)).sum := by
  intro ts
  show (Builtin.Str.glued "" ts).length = _
  rw [StrLaws.glued_eq_join]
  induction ts with
  | nil => rfl
  | cons x r ih =>
    cases r with
    | nil => show x.length = _; simp
    | cons y r =>
      show (x ++ ("" : Str) ++ Str.join "" (y :: r)).length = _
      rw [Str.length_append, Str.length_append, ih]
      have : Str.length "" = 0 := by decide +kernel
      simp only [List.map_cons, List.sum_cons]
      omega

theorem strs_of {P : D → D → Prop} {ds g : List D} {Q : Str → Prop} (hl : g.length = ds.length) (h : ∀ (i : Nat) d, ds[i]? = some d → ∃ y, g[i]? = some y ∧ P d y) (hP : ∀ d y, P d y → ∃ x, y = .str x ∧ Q x) : ∃ ss : List Str, g = ss.map D.str ∧ ∀ x ∈ ss, Q x := by
  have hy : ∀ y ∈ g, ∃ x, y = .str x ∧ Q x := fun y hy => by
    obtain ⟨i, hi, e⟩ := List.mem_iff_getElem.mp hy
    obtain ⟨z, ez, p⟩ := h i (ds[i]'(by omega)) (by simp [show i < ds.length by omega])
    rw [List.getElem?_eq_getElem hi] at ez
    cases ez
    rw [← e]
    exact hP _ _ p
  clear h hl
  induction g with
  | nil => exact ⟨[], rfl, by simp⟩
  | cons y g ih =>
    obtain ⟨x, e, q⟩ := hy y (List.mem_cons_self ..)
    obtain ⟨ss, e2, q2⟩ := ih fun z hz => hy z (List.mem_cons_of_mem _ hz)
    refine ⟨x :: ss, by rw [e, e2]; rfl, fun z hz => ?_⟩
    rcases List.mem_cons.mp hz with hz | hz
    · rw [hz]; exact q
    · exact q2 z hz
theorem joinO_s (z : Str) (ys : List Str) (h : (ys.map (·.length)).sum + ys.length * z.length ≤ 16777216) : joinO (some (.str z)) (some (.lst (ys.map D.str))) = some (.str (Txt.join z ys)) := by
  unfold joinO; simp only [strsD_map, if_pos h]
theorem ones_sum {ss : List Str} (h : ∀ x ∈ ss, x.length = 1) : (ss.map (·.length)).sum = ss.length := by
  induction ss with
  | nil => rfl
  | cons x r ih =>
    have h1 := h x (List.mem_cons_self ..)
    have h2 := ih fun y hy => h y (List.mem_cons_of_mem _ hy)
    simp only [List.map_cons, List.sum_cons, List.length_cons, h1, h2]; omega
theorem ixSO_in (z : Str) (i : Int) (hz : z.length ≤ lim) (h0 : 0 ≤ i) (h1 : i < z.length) : ∃ x : Str, x.length = 1 ∧ ixSO (some (.str z)) (some (.int i)) = some (.str x) := by
  obtain ⟨c, _, _, e⟩ := atI_in (xs := z.cps.toList) (i := i) h0 (by simpa [Str.length] using h1)
  refine ⟨⟨#[c]⟩, rfl, ?_⟩
  unfold ixSO; simp only [if_pos hz, e]
end L2

end

section
set_option maxHeartbeats 1000000
namespace L2
open PySem PySem.Spec PyProof.Rows

def unpO (x : Option D) (τ : D → DEnv → Option DEnv) (δ : DEnv) : Option Out := match x with | some d => (match τ d δ with | some δ' => some (.next δ') | none => none) | none => none
theorem ds_unpack {X : Cx} {a tg : Expr} {fa : DEnv → Option D} {τ : D → DEnv → Option DEnv} {pos : Pos} (ha : DE X false a fa) (hg : DG X tg τ) (hs : swapsWithSole [tg] a pos.line X.env = pure false := by rfl) (hw : swappedStores [tg] a X.env = pure none := by rfl) (h1 : (assignEach [tg] X.env).map (·.2) = [assign tg X.env] := by rfl) :
    DS X (.Assign [tg] a pos) (fun δ => unpO (fa δ) τ δ) :=
  (ps_asg ha hg hs hw h1).imp fun Dn σ H ⟨B, Hk, δ, o, R, e, k⟩ => by
    unfold unpO at e
    dsimp only at e
    split at e
    · rename_i d qd
      split at e
      · rename_i δ' qδ
        cases e
        refine ⟨B, Hk, δ, d, R, qd, fun v H1 s1 r1 => ?_⟩
        exact ⟨B, Hk, δ, d, δ', R.to s1, r1, qδ, fun σ' R' => k σ' H1 (s1.ext R.borH) R'⟩
      · cases e
    · cases e
@[simp] theorem unpO_s (d : D) (τ : D → DEnv → Option DEnv) (δ : DEnv) : unpO (some d) τ δ = bindO (τ d δ) fun δ' => some (.next δ') := by
  unfold unpO bindO
  dsimp only
  cases τ d δ <;> rfl
end L2

end

section
set_option maxHeartbeats 1000000
namespace L2
open PySem PySem.Spec PyProof.Rows

section
variable {X : Cx} {m m' mm : Bool} {a b : Expr} {fa fb : DEnv → Option D} {pos p : Pos}
theorem call_intB : CallR X (.type "int") (fun xs H Q => ∃ b, xs = [.bl b] ∧ Q (.int (if b then 1 else 0)) H) := by
  intro pins s σ H xs us Q I r h
  obtain ⟨b, rfl, q⟩ := h
  obtain ⟨u, rfl, rx⟩ := vals1 r
  cases rx
  exact call_int_bool ⟨.int (if b then 1 else 0), H, I.tok _, ⟨_, rfl⟩, q⟩
def intBO (x : Option D) : Option D := match x with | some (.bl b) => some (.int (if b then 1 else 0)) | _ => none
@[simp] theorem intBO_s (b : Bool) : intBO (some (.bl b)) = some (.int (if b then 1 else 0)) := (rfl)
theorem de_intB (g : Gl X "int") (hm : X.mg "int" = none) (ha : DE X m a fa) (hs : starEach [a] X.env = [(false, eval a X.env)] := by rfl) : DE X mm (.Call (.Name "int" p) [a] [] pos) (fun δ => intBO (fa δ)) :=
  (pe_callTy call_intB g hm bt_int (pa_cons ha pa_nil hs) (he := hs)).imp fun σ H Q ⟨B, Hk, δ, d, R, e, k⟩ => by
    unfold intBO at e
    dsimp only at e
    split at e
    · rename_i b qd
      cases e
      refine oneA R qd fun v H' s R' r => ?_
      simp only [Rep] at r
      subst r
      exact ⟨b, rfl, k _ H' s (by simp only [Rep])⟩
    · cases e
end
end L2

end

section
set_option maxHeartbeats 1000000
namespace L2
open PySem

def ItAt (t : Bool) (h : Heap) (c q : Addr) (n : Nat) : Prop := if t = true then h.IsTupleIter c q n else h.IsListIter c q n
def SqAt (t : Bool) (h : Heap) (q : Addr) (vs : Array Value) : Prop := if t = true then h.IsTuple q vs else h.IsList q vs
theorem ItAt.obj {t : Bool} {h : Heap} {c q : Addr} {n : Nat} (x : ItAt t h c q n) : ∃ o, h.get? c = some o ∧ o.cls = .type (if t = true then "tuple_iterator" else "list_iterator") ∧ o.data = .fields #[.ref q, .int n 0] := by
  cases t <;> exact x
theorem ItAt.to {t : Bool} {h h' : Heap} {c q : Addr} {n : Nat} (x : ItAt t h c q n) (k : ∀ o, h.get? c = some o → h'.get? c = some o) : ItAt t h' c q n := by
  cases t <;> (obtain ⟨o, e, r⟩ := x; exact ⟨o, k o e, r⟩)
theorem SqAt.to {t : Bool} {h h' : Heap} {q : Addr} {vs : Array Value} (x : SqAt t h q vs) (k : ∀ o, h.get? q = some o → h'.get? q = some o) : SqAt t h' q vs := by
  cases t <;> (obtain ⟨o, e, r⟩ := x; exact ⟨o, k o e, r⟩)
section
variable {prog : Program} {w : World} {A : Around} {E : Value → Shared → Prop} {s : Shared}
theorem draw_tup {c q : Addr} {n : Nat} {vs : Array Value} {Q : Value → Shared → Prop} (hh : A.handled = none) (hc : s.heap.IsTupleIter c q n) (hq : s.heap.IsTuple q vs)
    (some' : ∀ v, vs[n]? = some v → ∀ h', h'.IsTupleIter c q (n + 1) → Heap.SameBut c s.heap h' → Q v { s with heap := h' })
    (none' : vs[n]? = none → ∀ h' e, Heap.ExtBut c s.heap h' → (∃ o, h'.get? e = some o ∧ o.cls = .type "StopIteration") → E (.ref e) { s with heap := h' }) :
    wpAny (model prog w) A (Builtin.SmallTypes.nextOf (.ref c)) Q E s := by
  have ty := hc.typeIs
  obtain ⟨oc, gc, kc, dc⟩ := hc
  obtain ⟨oq, gq, _, m, dq⟩ := hq
  unfold Builtin.SmallTypes.nextOf
  refine wpAny_bind (wpAny_callSpecial?_slot (name := Str.ofString "__next__") ty F.slot_tuple_iterator_next (wpAny_call_entry F.slot_tuple_iterator_next ty F.entry_tuple_iterator_next ?body (F.args_tuple_iterator_next_1 _)))
  change wpAny _ _ (field (.ref c) 0 >>= _) _ E s
  refine wpAny_bind (wpAny_field gc dc (x := .ref q) rfl ?_)
  change wpAny _ _ (if (Value.ref q == Value.none) = true then _ else _) _ E s
  rw [if_neg (by exact Bool.false_ne_true)]
  change wpAny _ _ (field (.ref c) 1 >>= _) _ E s
  refine wpAny_bind (wpAny_field gc dc (x := .int n 0) rfl (wpAny_bind (wpAny_seqItems gq dq ?_)))
  simp only [Int.toNat_natCast]
  rcases hv : vs[n]? with _ | v
  · simp only [newExc, newTuple, raiseNew]
    refine wpAny_bind (wpAny_rule (wpAny_bind (wpAny_setField gc dc (by simp) (wpAny_bind (wpAny_bind (wpAny_newObj_type ?_ (by size_fits)))))))
    refine wpAny_bind (m := firstArgMember _ _) (wpAny_of_eq (a := Value.none) (by first | rfl | (simp only [firstArgMember]; rfl)) (wpAny_newObj_type ?_ (by size_fits)))
    refine wpAny_bind (wpAny_handled ?_)
    rw [show A.in1.handled = none from hh]
    exact wpAny_bind (wpAny_pure (wpAny_throw (none' hv _ _ (((Heap.SameBut.update ..).extBut.push _).push _) ⟨_, Heap.get?_push_size _ rfl, rfl⟩)))
  · refine wpAny_bind (wpAny_setField gc dc (by simp) (wpAny_pure ⟨v, rfl, wpAny_pure (some' v hv _ ⟨_, Heap.get?_update_self _ gc (Obj.isFreed_of_fields (Obj.data_mapFields dc _)), ?_, ?_⟩ (Heap.SameBut.update ..))⟩))
    · rw [Obj.cls_mapFields]; exact kc
    · rw [Obj.data_mapFields dc]; simp [rawInt]

theorem draw {t : Bool} {c q : Addr} {n : Nat} {vs : Array Value} {Q : Value → Shared → Prop} (hh : A.handled = none) (hc : ItAt t s.heap c q n) (hq : SqAt t s.heap q vs)
    (some' : ∀ v, vs[n]? = some v → ∀ h', ItAt t h' c q (n + 1) → Heap.SameBut c s.heap h' → Q v { s with heap := h' })
    (none' : vs[n]? = none → ∀ h' e, Heap.ExtBut c s.heap h' → (∃ o, h'.get? e = some o ∧ o.cls = .type "StopIteration") → E (.ref e) { s with heap := h' }) :
    wpAny (model prog w) A (Builtin.SmallTypes.nextOf (.ref c)) Q E s := by
  cases t with
  | true => exact draw_tup hh hc hq some' none'
  | false =>
    rcases hv : vs[n]? with _ | v
    · exact wpAny_nextOf_list_end hh hc hq hv (none' hv)
    · exact wpAny_nextOf_list_item hc hq hv (some' v hv)
end
end L2

end

section
set_option maxHeartbeats 1000000
namespace L2
open PySem

structure Zp (t u : Bool) (h : Heap) (z P O c d p q : Addr) (n : Nat) (f : Value) : Prop where
  zz : IsZip h z P O f
  pp : IsPair h P (.ref c) (.ref d)
  oo : ∃ a b, IsPair h O a b
  cc : ItAt t h c p n
  dd : ItAt u h d q n
structure Ap (z P O c d p q : Addr) : Prop where
  nd : [z, P, O, c, d].Nodup
  p : p ∉ [z, P, O, c, d]
  q : q ∉ [z, P, O, c, d]
theorem get_but {a b : Addr} {h h' : Heap} {o : Obj} (k : Heap.SameBut a h h') (n : b ≠ a) (e : h.get? b = some o) : h'.get? b = some o := (k.2 b n).trans e
section
variable {prog : Program} {w : World} {A : Around} {E : Value → Shared → Prop} {s : Shared}
theorem zip_step {t u : Bool} {z P O c d p q : Addr} {n : Nat} {xs ys : Array Value} {Q : Value → Shared → Prop} (hh : A.handled = none) (ap : Ap z P O c d p q) (Z : Zp t u s.heap z P O c d p q n .none)
    (hp : SqAt t s.heap p xs) (hq : SqAt u s.heap q ys)
    (item : ∀ x y, xs[n]? = some x → ys[n]? = some y → ∀ h', Zp t u h' z P O c d p q (n + 1) (rawInt s.heap.objs.size) → IsPair h' s.heap.objs.size x y → h'.objs.size = s.heap.objs.size + 1 →
      (∀ b o, b ∉ [z, P, O, c, d] → s.heap.get? b = some o → h'.get? b = some o) → Q (.ref s.heap.objs.size) { s with heap := h' })
    (stop : (xs[n]? = none ∨ ys[n]? = none) → ∀ h' e, (∀ b o, b ∉ [z, P, O, c, d] → s.heap.get? b = some o → h'.get? b = some o) → (∃ o, h'.get? e = some o ∧ o.cls = .type "StopIteration") → E (.ref e) { s with heap := h' }) :
    wpAny (model prog w) A (Builtin.«zip.__next__» ⟨[.ref z], []⟩) (fun r s' => ∃ v, r = .done (.ret v) ∧ Q v s') E s := by
  obtain ⟨zz, pp, ⟨a, b, oo⟩, cc, dd⟩ := Z
  have nd := ap.nd
  have np := ap.p
  have nq := ap.q
  simp only [List.nodup_cons, List.mem_cons, List.not_mem_nil, or_false, not_or, List.nodup_nil, and_true, not_false_eq_true] at nd np nq
  obtain ⟨⟨zP, zO, zc, zd⟩, ⟨PO, Pc, Pd⟩, ⟨Oc, Od⟩, cd⟩ := nd
  obtain ⟨pz, pP, pO, pc, pd⟩ := np
  obtain ⟨qz, qP, qO, qc, qd⟩ := nq
  change wpAny _ _ (field (.ref z) 2 >>= _) _ E s
  refine wpAny_bind (wpAny_field zz rfl (x := .bool false) rfl ?_)
  change wpAny _ _ (field (.ref z) 3 >>= _) _ E s
  refine wpAny_bind (wpAny_field zz rfl (x := .ref P) rfl (wpAny_bind (wpAny_seqItems pp rfl ?_)))
  change wpAny _ _ (Builtin.SmallTypes.ownedTupleIsFree (.ref z) >>= _) _ E s
  unfold Builtin.SmallTypes.ownedTupleIsFree
  refine wpAny_bind (wpAny_bind (wpAny_field zz rfl (x := .none) rfl (wpAny_pure ?_)))
  simp only [if_true]
  refine wpAny_bind (wpAny_rule (wpAny_bind (wpAny_field zz rfl (x := .ref O) rfl (wpAny_bind (wpAny_setField_rec zz (by simp) fun k₁ g₁ m₁ => wpAny_bind ?_)))))
  have z₁ : IsZip k₁ z P O .ellipsis := g₁
  simp only [List.zipIdx_cons, List.zipIdx_nil, List.forIn_cons, List.forIn_nil]
  refine wpAny_bind (wpAny_bind (wpAny_onRaise ?_))
  change wpAny _ _ (Builtin.SmallTypes.nextOf (.ref c) >>= _) _ _ _
  refine wpAny_bind (draw (t := t) hh (cc.to fun o e => get_but m₁ (Ne.symm zc) e) (hp.to fun o e => get_but m₁ pz e) (fun x hx k₂ c₂ m₂ => wpAny_pure ?_) fun hx k₂ e m₂ he => ?_)
  · have o₂ : IsPair k₂ O a b := get_but m₂ Oc (get_but m₁ (Ne.symm zO) oo)
    refine wpAny_bind (wpAny_seqItems o₂ rfl (wpAny_bind (wpAny_updateSeq_pair o₂ fun k₃ g₃ m₃ => wpAny_bind (wpAny_letGo (wpAny_pure ?_)))))
    have o₃ : IsPair k₃ O x b := g₃
    refine wpAny_bind (wpAny_bind (wpAny_onRaise ?_))
    change wpAny _ _ (Builtin.SmallTypes.nextOf (.ref d) >>= _) _ _ _
    refine wpAny_bind (draw (t := u) hh (dd.to fun o e => get_but m₃ (Ne.symm Od) (get_but m₂ (Ne.symm cd) (get_but m₁ (Ne.symm zd) e))) (hq.to fun o e => get_but m₃ qO (get_but m₂ qc (get_but m₁ qz e))) (fun y hy k₄ d₄ m₄ => wpAny_pure ?_) fun hy k₄ e m₄ he => ?_)
    · have o₄ : IsPair k₄ O x b := get_but m₄ Od o₃
      refine wpAny_bind (wpAny_seqItems o₄ rfl (wpAny_bind (wpAny_updateSeq_pair o₄ fun k₅ g₅ m₅ => wpAny_bind (wpAny_letGo (wpAny_pure (wpAny_pure ?_))))))
      have o₅ : IsPair k₅ O x y := g₅
      have old : ∀ f o, f ≠ z → f ≠ O → f ≠ c → f ≠ d → s.heap.get? f = some o → k₅.get? f = some o := fun f o n1 n2 n3 n4 e => get_but m₅ n2 (get_but m₄ n4 (get_but m₃ n2 (get_but m₂ n3 (get_but m₁ n1 e))))
      have sz : k₅.objs.size = s.heap.objs.size := by rw [m₅.1, m₄.1, m₃.1, m₂.1, m₁.1]
      have z₅ : IsZip k₅ z P O .ellipsis := get_but m₅ zO (get_but m₄ zd (get_but m₃ zO (get_but m₂ zc z₁)))
      refine wpAny_bind (wpAny_seqItems o₅ rfl (wpAny_bind (wpAny_newTuple ?_)))
      have z₆ : IsZip (k₅.push { cls := .type "tuple", data := .seq #[x, y] }) z P O .ellipsis := Heap.get?_push_of_some _ z₅
      change wpAny _ _ (Builtin.SmallTypes.ownedTupleHandOut (.ref z) (.ref k₅.objs.size) >>= _) _ E _
      unfold Builtin.SmallTypes.ownedTupleHandOut
      refine wpAny_bind (wpAny_bind (wpAny_setField_rec z₆ (by simp) fun k₇ g₇ m₇ => ?_))
      have z₇ : IsZip k₇ z P O (rawInt k₅.objs.size) := g₇
      refine wpAny_setField_rec z₇ (by simp) fun k₈ g₈ m₈ => wpAny_pure ⟨_, rfl, ?_⟩
      have z₈ : IsZip k₈ z P O (rawInt k₅.objs.size) := g₈
      have up : ∀ f o, f ≠ z → k₅.get? f = some o → k₈.get? f = some o := fun f o n1 e => get_but m₈ n1 (get_but m₇ n1 (Heap.get?_push_of_some _ e))
      have lz := Heap.lt_size z₅
      have new : IsPair k₈ k₅.objs.size x y := get_but m₈ (Nat.ne_of_gt lz) (get_but m₇ (Nat.ne_of_gt lz) (Heap.get?_push_size _ rfl))
      have sz8 : k₈.objs.size = k₅.objs.size + 1 := by rw [m₈.1, m₇.1, Heap.size_push]
      change Q (.ref k₅.objs.size) _
      rw [sz] at z₈ new sz8 ⊢
      refine item x y hx hy k₈ ⟨z₈, up _ _ (Ne.symm zP) (old _ _ (Ne.symm zP) PO Pc Pd pp), ⟨x, y, up _ _ (Ne.symm zO) o₅⟩, ?_, ?_⟩ new sz8 fun f o hf e => ?_
      · exact c₂.to fun o e => up _ o (Ne.symm zc) (get_but m₅ (Ne.symm Oc) (get_but m₄ cd (get_but m₃ (Ne.symm Oc) e)))
      · exact d₄.to fun o e => up _ o (Ne.symm zd) (get_but m₅ (Ne.symm Od) e)
      · simp only [List.mem_cons, List.not_mem_nil, or_false, not_or] at hf
        exact up f o hf.1 (old f o hf.1 hf.2.2.1 hf.2.2.2.1 hf.2.2.2.2 e)
    · obtain ⟨oe, ge, ke⟩ := he
      have z₄ : IsZip k₄ z P O .ellipsis := m₄ _ _ zd (get_but m₃ zO (get_but m₂ zc z₁))
      have ez : e ≠ z := fun r => by rw [r] at ge; rw [z₄] at ge; cases ge; simp at ke
      refine wpAny_setField_rec z₄ (by simp) fun k₅ _ m₅ => stop (.inr hy) k₅ e (fun f o hf g => ?_) ⟨oe, get_but m₅ ez ge, ke⟩
      simp only [List.mem_cons, List.not_mem_nil, or_false, not_or] at hf
      obtain ⟨n1, _, n2, n3, n4⟩ := hf
      exact get_but m₅ n1 (m₄ _ _ n4 (get_but m₃ n2 (get_but m₂ n3 (get_but m₁ n1 g))))
  · obtain ⟨oe, ge, ke⟩ := he
    have z₂ : IsZip k₂ z P O .ellipsis := m₂ _ _ zc z₁
    have ez : e ≠ z := fun r => by rw [r] at ge; rw [z₂] at ge; cases ge; simp at ke
    refine wpAny_setField_rec z₂ (by simp) fun k₃ _ m₃ => stop (.inl hx) k₃ e (fun f o hf g => ?_) ⟨oe, get_but m₃ ez ge, ke⟩
    simp only [List.mem_cons, List.not_mem_nil, or_false, not_or] at hf
    exact get_but m₃ hf.1 (m₂ _ _ hf.2.2.2.1 (get_but m₁ hf.1 g))
end
end L2

end

section
set_option maxHeartbeats 1000000
namespace L2
open PySem

section
variable {X : Cx} {pins : List (Addr × Obj)} {σ : St} {H : Hp} {s : Shared} {h' : Heap}

theorem Inv.turnLay {t' : Nat} {fp : List Addr} {T : Addr} {o : HO} (I : Inv X pins σ H s) (k : ∀ b u, b ∉ fp → s.heap.get? b = some u → h'.get? b = some u) (hf : ∀ b ∈ fp, FpOk X pins H b)
    (hT : s.heap.objs.size ≤ T) (new : ObjOk X.prog X.w (upd H T o) h' T o) : Inv X pins σ (upd H T o) { s with heap := h', toks := t' } := by
  have hn : H T = none := I.hok.fresh hT
  have far : ∀ b u, H b = some u → b ∉ fp := fun b u e z => by rw [(hf b z).1] at e; cases e
  have lo : ∀ b u, s.heap.get? b = some u → b ≠ T := fun b u e => Nat.ne_of_lt (Nat.lt_of_lt_of_le (Heap.lt_size e) hT)
  refine I.step (g' := s.gens) (d' := s.drawn) (ch := fp) (fun b hb => ?_) (fun b u _ _ hc e _ => k b u hc e) (fun b u _ _ hc e _ => ⟨u.slots, k b u hc e⟩) (fun b u _ e n => by rw [upd_ne (lo b u e)]; exact n)
    (fun b u hc e => ⟨u, k b u hc e⟩) (fun b xs e => by rw [upd_ne (ne_of_none e hn)]; exact e) (fun b u v e => by rw [upd_ne (ne_of_none e hn)]; exact e) (fun b ps e => ⟨#[], by rw [upd_ne (ne_of_none e hn), e]; simp⟩) (fun m hm => ?_) (fun b u e => ?_) I.bare
  · obtain ⟨_, f1, _, f3, f4, f5⟩ := hf b hb
    exact ⟨f3, f1, f4, f5⟩
  · obtain ⟨ob, es, ep, ho, r⟩ := hm
    exact ⟨ob, es, ep, k _ ob (fun z => (hf _ z).2.1 rfl) ho, r⟩
  · by_cases hb : b = T
    · subst hb; rw [upd_same] at e; cases e; exact new
    · rw [upd_ne hb] at e
      refine (I.hok b u e).stay (fun c v hc q => k c v ?_ q) (fun c q => by rw [upd_ne (ne_of_none q hn)]; exact q) fun c xs q => by rw [upd_ne (ne_of_none q hn)]; exact q
      rcases hc with z | z
      · rw [z]; exact far b u e
      · exact far c _ z

theorem Inv.turns {t' : Nat} {fp : List Addr} (I : Inv X pins σ H s) (k : ∀ b u, b ∉ fp → s.heap.get? b = some u → h'.get? b = some u) (hf : ∀ b ∈ fp, FpOk X pins H b) : Inv X pins σ H { s with heap := h', toks := t' } := by
  have far : ∀ b u, H b = some u → b ∉ fp := fun b u e z => by rw [(hf b z).1] at e; cases e
  refine I.step (g' := s.gens) (d' := s.drawn) (ch := fp) (fun b hb => ?_) (fun b u _ _ hc e _ => k b u hc e) (fun b u _ _ hc e _ => ⟨u.slots, k b u hc e⟩) (fun b u _ e n => n)
    (fun b u hc e => ⟨u, k b u hc e⟩) (fun b xs e => e) (fun b u v e => e) (fun b ps e => ⟨#[], by rw [e]; simp⟩) (fun m hm => ?_) (fun b u e => ?_) I.bare
  · obtain ⟨_, f1, _, f3, f4, f5⟩ := hf b hb
    exact ⟨f3, f1, f4, f5⟩
  · obtain ⟨ob, es, ep, ho, r⟩ := hm
    exact ⟨ob, es, ep, k _ ob (fun z => (hf _ z).2.1 rfl) ho, r⟩
  · refine (I.hok b u e).stay (fun c v hc q => k c v ?_ q) (fun _ q => q) fun _ _ q => q
    rcases hc with z | z
    · rw [z]; exact far b u e
    · exact far c _ z
end
def SqV (t : Bool) (K : PySem.W.Frag) (H : Hp) (a : Addr) (xs : List V) : Prop := if t = true then SqT K H a xs else SqL K H a xs
section
variable {prog : Program} {w : World} {A : Around} {E : Value → Shared → Prop} {s : Shared}
theorem zip_next {t u : Bool} {z P O c d p q : Addr} {n : Nat} {xs ys : Array Value} {Q : Option Value → Shared → Prop} (hh : A.handled = none) (ap : Ap z P O c d p q) (Z : Zp t u s.heap z P O c d p q n .none)
    (hp : SqAt t s.heap p xs) (hq : SqAt u s.heap q ys)
    (item : ∀ x y, xs[n]? = some x → ys[n]? = some y → ∀ h', Zp t u h' z P O c d p q (n + 1) (rawInt s.heap.objs.size) → IsPair h' s.heap.objs.size x y → h'.objs.size = s.heap.objs.size + 1 →
      (∀ b o, b ∉ [z, P, O, c, d] → s.heap.get? b = some o → h'.get? b = some o) → Q (some (.ref s.heap.objs.size)) { s with heap := h' })
    (stop : (xs[n]? = none ∨ ys[n]? = none) → ∀ h', (∀ b o, b ∉ [z, P, O, c, d] → s.heap.get? b = some o → h'.get? b = some o) → Q none { s with heap := h' }) :
    wpAny (model prog w) A (pyNext (.ref z)) Q E s := by
  have ty : s.TypeIs (.ref z) "zip" := ⟨_, Z.zz, rfl⟩
  unfold pyNext
  refine wpAny_bind (wpAny_attempt (wpAny_callSpecial?_slot (name := Str.ofString "__next__") ty F.slot_zip_next (wpAny_call_entry F.slot_zip_next ty F.entry_zip_next (zip_step hh ap Z hp hq (fun x y hx hy h' b1 b2 b3 b4 => wpAny_pure (item x y hx hy h' b1 b2 b3 b4)) fun hn h' e k he => ?_) (F.args_zip_next_1 _))))
  obtain ⟨o, ho, hc⟩ := he
  exact wpAny_bind (wpAny_isInstance (T := "StopIteration") (b := true) ⟨o, ho, hc⟩ isSubtype_stop (wpAny_pure (stop hn h' k)))
end
section
variable {X : Cx} {pins : List (Addr × Obj)} {σ : St} {H : Hp} {s : Shared}
theorem Inv.seqV {t : Bool} {a : Addr} {xs : List V} (I : Inv X pins σ H s) (h : SqV t X.K H a xs) : ∃ its, Vals xs its ∧ SqAt t s.heap a its.toArray := by
  cases t with
  | true => obtain ⟨its, rv, p, _⟩ := I.tuple h; exact ⟨its, rv, p⟩
  | false => obtain ⟨its, rv, p, _⟩ := I.list h; exact ⟨its, rv, p.isList⟩
theorem Inv.seqV_inj {t : Bool} {a : Addr} {xs ys : List V} (I : Inv X pins σ H s) (h : SqV t X.K H a xs) (h' : SqV t X.K H a ys) : xs = ys := by
  cases t with
  | true => exact I.tuple_inj h h'
  | false => exact I.list_inj h h'
end

def Itz (t u : Bool) (K : PySem.W.Frag) (p q : Addr) : It :=
  ⟨fun i H => ∃ xs ys x y, SqV t K H p xs ∧ SqV u K H q ys ∧ xs[i]? = some x ∧ ys[i]? = some y,
   fun i H v H' => ∃ T x y, H T = none ∧ v = .ref T ∧ H' = upd H T (.tup [x, y]) ∧ (∀ xs, SqV t K H p xs → xs[i]? = some x) ∧ ∀ ys, SqV u K H q ys → ys[i]? = some y,
   fun i H => ∃ xs ys, SqV t K H p xs ∧ SqV u K H q ys ∧ (xs.length ≤ i ∨ ys.length ≤ i)⟩
theorem turn_zip {P : Program} {w : World} {K : PySem.W.Frag} {elts : List Expr} {x1} {pos : Pos} {t u : Bool} {z Pr O c d p q : Addr} (ap : Ap z Pr O c d p q) :
    Turn P w K (.Tuple elts x1 pos) (Itz t u K p q) [z, Pr, O, c, d] z (fun n h => Zp t u h z Pr O c d p q n .none) where
  mem := by simp
  obj := fun i h st b hb => by
    obtain ⟨zz, pp, ⟨a, a', oo⟩, cc, dd⟩ := st
    simp only [List.mem_cons, List.not_mem_nil, or_false] at hb
    rcases hb with rfl | rfl | rfl | rfl | rfl
    · exact ⟨_, zz, fun v e => by cases e⟩
    · exact ⟨_, pp, fun v e => by cases e⟩
    · exact ⟨_, oo, fun v e => by cases e⟩
    · obtain ⟨o, e, _, hd⟩ := cc.obj; exact ⟨o, e, fun v e' => by rw [hd] at e'; cases e'⟩
    · obtain ⟨o, e, _, hd⟩ := dd.obj; exact ⟨o, e, fun v e' => by rw [hd] at e'; cases e'⟩
  keep := fun i h h' st k => by
    obtain ⟨zz, pp, ⟨a, a', oo⟩, cc, dd⟩ := st
    exact ⟨k z (by simp) _ zz, k Pr (by simp) _ pp, ⟨a, a', k O (by simp) _ oo⟩, cc.to fun o e => k c (by simp) o e, dd.to fun o e => k d (by simp) o e⟩
  item := by
    intro X hP hw hK hc i pins s σ H E I hf st hg
    subst hP hw hK
    obtain ⟨xs, ys, x, y, h1, h2, hx, hy⟩ := hg
    obtain ⟨is, ri, sp⟩ := I.seqV h1
    obtain ⟨js, rj, sq⟩ := I.seqV h2
    obtain ⟨ux, e1, r1⟩ := ri.get hx
    obtain ⟨uy, e2, r2⟩ := rj.get hy
    refine zip_next (I.ok.hd hc) ap st sp sq (fun vx vy hvx hvy h' Z' new sz k => ?_) fun hn => ?_
    · have ex : vx = ux := by simp at hvx; rw [e1] at hvx; exact (Option.some.inj hvx).symm
      have ey : vy = uy := by simp at hvy; rw [e2] at hvy; exact (Option.some.inj hvy).symm
      subst ex ey
      refine ⟨_, rfl, ?_⟩
      have hT : H s.heap.objs.size = none := I.hok.fresh (Nat.le_refl _)
      have nT : ∀ b ∈ [z, Pr, O, c, d], b ≠ s.heap.objs.size := fun b hb e => by
        obtain ⟨o, g, _⟩ := (show ∀ b ∈ [z, Pr, O, c, d], ∃ o, s.heap.get? b = some o ∧ ∀ v, o.data ≠ .cell v from fun b hb => by
          obtain ⟨zz, pp, ⟨a, a', oo⟩, cc, dd⟩ := st
          simp only [List.mem_cons, List.not_mem_nil, or_false] at hb
          rcases hb with rfl | rfl | rfl | rfl | rfl
          · exact ⟨_, zz, fun v e => by cases e⟩
          · exact ⟨_, pp, fun v e => by cases e⟩
          · exact ⟨_, oo, fun v e => by cases e⟩
          · obtain ⟨o, e, _, hd⟩ := cc.obj; exact ⟨o, e, fun v e' => by rw [hd] at e'; cases e'⟩
          · obtain ⟨o, e, _, hd⟩ := dd.obj; exact ⟨o, e, fun v e' => by rw [hd] at e'; cases e'⟩) b hb
        rw [e] at g
        exact absurd (Heap.lt_size g) (Nat.lt_irrefl _)
      have I1 : Inv X pins σ (upd H s.heap.objs.size (.tup [x, y])) { s with heap := h' } := I.turnLay (t' := s.toks) k hf (Nat.le_refl _) ⟨by show 2 ≤ sizeLine; decide, [vx, vy], .cons r1 (.cons r2 .nil), ⟨_, new, rfl, _, rfl⟩⟩
      obtain ⟨zz, pp, oo, cc, dd⟩ := Z'
      have nd := ap.nd
      simp only [List.nodup_cons, List.mem_cons, List.not_mem_nil, or_false, not_or, List.nodup_nil, and_true, not_false_eq_true] at nd
      refine wpAny_letOwnedTupleGo_zip zz fun g2 z2 m2 => ?_
      have hz := hf z (by simp)
      refine ⟨.ref s.heap.objs.size, upd H s.heap.objs.size (.tup [x, y]), I1.turned (t' := s.toks) (fun b o hb e => get_but m2 hb e) (by rw [upd_ne (nT z (by simp))]; exact hz.1) hz.2.1 hz.2.2.2.1 hz.2.2.2.2.1 hz.2.2.2.2.2, rfl,
        ⟨s.heap.objs.size, x, y, hT, rfl, rfl, fun xs' h => by rw [I.seqV_inj h h1]; exact hx, fun ys' h => by rw [I.seqV_inj h h2]; exact hy⟩, ?_, fun b hb => by rw [upd_ne (nT b hb)]; exact (hf b hb).1⟩
      obtain ⟨a, a', oo⟩ := oo
      exact ⟨z2, get_but m2 (Ne.symm nd.1.1) pp, ⟨a, a', get_but m2 (Ne.symm nd.1.2.1) oo⟩, cc.to fun o e => get_but m2 (Ne.symm nd.1.2.2.1) e, dd.to fun o e => get_but m2 (Ne.symm nd.1.2.2.2) e⟩
    · exfalso
      rcases hn with hn | hn
      · simp at hn; have := (List.getElem?_eq_some_iff.mp e1).1; omega
      · simp at hn; have := (List.getElem?_eq_some_iff.mp e2).1; omega
  done := by
    intro X hP hw hK hc i pins s σ H E I hf st hg
    subst hP hw hK
    obtain ⟨xs, ys, h1, h2, hl⟩ := hg
    obtain ⟨is, ri, sp⟩ := I.seqV h1
    obtain ⟨js, rj, sq⟩ := I.seqV h2
    have l1 := ri.length
    have l2 := rj.length
    refine zip_next (I.ok.hd hc) ap st sp sq (fun vx vy hvx hvy h' Z' new sz k => ?_) fun hn h' k => ⟨rfl, I.turns (t' := s.toks) k hf⟩
    exfalso
    simp at hvx hvy
    have a1 := (List.getElem?_eq_some_iff.mp hvx).1
    have a2 := (List.getElem?_eq_some_iff.mp hvy).1
    omega
  self := fun _ _ _ _ _ st h => wpAny_pyIter_zip st.zz h
end L2

end

section
set_option maxHeartbeats 1000000
namespace L2
open PySem PySem.Spec PyProof.Rows

def itO (t : Bool) (p : Addr) : Obj := { cls := .type (if t = true then "tuple_iterator" else "list_iterator"), data := .fields #[.ref p, .int 0 0] }
theorem iter_seq {prog : Program} {w : World} {A : Around} {E : Value → Shared → Prop} {s : Shared} {t : Bool} {p : Addr} {xs : Array Value} {Q : Value → Shared → Prop} (hp : SqAt t s.heap p xs) (h : Q (.ref s.heap.objs.size) { s with heap := s.heap.push (itO t p) }) : wpAny (model prog w) A (pyIter (.ref p)) Q E s := by
  cases t with
  | true => exact wpAny_pyIter_tuple hp h
  | false => exact wpAny_pyIter_list hp h
def zO (a b : Value) : Obj := { cls := .type "tuple", data := .seq #[a, b] }
def zipL (t u : Bool) (h : Heap) (p q : Addr) : Heap :=
  ((((h.push (itO t p)).push (itO u q)).push (zO (.ref h.objs.size) (.ref (h.push (itO t p)).objs.size))).push (zO .none .none)).push
    { cls := .type "zip", data := .fields #[.none, .bool false, .bool false, .ref ((h.push (itO t p)).push (itO u q)).objs.size, .ref (((h.push (itO t p)).push (itO u q)).push (zO (.ref h.objs.size) (.ref (h.push (itO t p)).objs.size))).objs.size] }
theorem zip_new (t u : Bool) (p q : Addr) (xs ys : Array Value) :
    Meets (Builtin.«zip.__new__» ⟨[.type "zip", .ref p, .ref q], []⟩) (fun _ R s => SqAt t s.heap p xs ∧ SqAt u s.heap q ys ∧
      R (.ok (.ret (.ref (((((s.heap.push (itO t p)).push (itO u q)).push (zO (.ref s.heap.objs.size) (.ref (s.heap.push (itO t p)).objs.size))).push (zO .none .none)).objs.size)))) { s with heap := zipL t u s.heap p q }) :=
  .of_wp fun prog w A R s h => by
    obtain ⟨hp, g, d, tk, os⟩ := s
    obtain ⟨h1, h2, h⟩ := h
    have hsub := sub_zip
    have k1 : SqAt t (Shared.heap ⟨hp, g, d, tk, os⟩) p xs := h1
    have k2 : SqAt u (Shared.heap ⟨hp.push (itO t p), g, d, tk, os⟩) q ys := h2.to fun o e => Heap.get?_push_of_some _ e
    wp_walk using iter_seq k1, iter_seq k2
    exact ⟨_, rfl, h⟩
theorem zip_call {prog : Program} {w : World} {A : Around} {E : Value → Shared → Prop} {s : Shared} {t u : Bool} {p q : Addr} {xs ys : Array Value} {Q : Value → Shared → Prop} (hp : SqAt t s.heap p xs) (hq : SqAt u s.heap q ys)
    (h : ∀ z P O c d h', Ap z P O c d p q → Zp t u h' z P O c d p q 0 .none → (∀ b ∈ [z, P, O, c, d], s.heap.objs.size ≤ b) → (∀ b o, s.heap.get? b = some o → h'.get? b = some o) → Q (.ref z) { s with heap := h' }) :
    wpAny (model prog w) A (call (.type "zip") [.ref p, .ref q]) Q E s := by
  refine callType_new F.called_zip (by decide) (F.typeCall_zip_2 _ _) (F.newCall_zip_2 _ _) (fun obj => F.args_object_init_3 obj _ _) F.entry_zip_new (zip_new t u p q xs ys) ⟨hp, hq, ?_⟩
  have lp : p < s.heap.objs.size := by cases t <;> (obtain ⟨o, e, _⟩ := hp; exact Heap.lt_size e)
  have lq : q < s.heap.objs.size := by cases u <;> (obtain ⟨o, e, _⟩ := hq; exact Heap.lt_size e)
  generalize e1 : s.heap.push (itO t p) = k1
  generalize e2 : k1.push (itO u q) = k2
  generalize e3 : k2.push (zO (.ref s.heap.objs.size) (.ref k1.objs.size)) = k3
  generalize e4 : k3.push (zO .none .none) = k4
  have hL : zipL t u s.heap p q = k4.push { cls := .type "zip", data := .fields #[.none, .bool false, .bool false, .ref k2.objs.size, .ref k3.objs.size] } := by unfold zipL; rw [e1, e2, e3, e4]
  have s1 : k1.objs.size = s.heap.objs.size + 1 := by rw [← e1]; exact Heap.size_push ..
  have s2 : k2.objs.size = s.heap.objs.size + 2 := by rw [← e2, Heap.size_push, s1]
  have s3 : k3.objs.size = s.heap.objs.size + 3 := by rw [← e3, Heap.size_push, s2]
  have s4 : k4.objs.size = s.heap.objs.size + 4 := by rw [← e4, Heap.size_push, s3]
  have u1 : ∀ {b o}, s.heap.get? b = some o → k1.get? b = some o := fun e => by rw [← e1]; exact Heap.get?_push_of_some _ e
  have u2 : ∀ {b o}, k1.get? b = some o → k2.get? b = some o := fun e => by rw [← e2]; exact Heap.get?_push_of_some _ e
  have u3 : ∀ {b o}, k2.get? b = some o → k3.get? b = some o := fun e => by rw [← e3]; exact Heap.get?_push_of_some _ e
  have u4 : ∀ {b o}, k3.get? b = some o → k4.get? b = some o := fun e => by rw [← e4]; exact Heap.get?_push_of_some _ e
  have u5 : ∀ {b o}, k4.get? b = some o → (zipL t u s.heap p q).get? b = some o := fun e => by rw [hL]; exact Heap.get?_push_of_some _ e
  have z5 : IsZip (zipL t u s.heap p q) k4.objs.size k2.objs.size k3.objs.size .none := by rw [hL]; exact Heap.get?_push_size _ rfl
  have o5 : IsPair (zipL t u s.heap p q) k3.objs.size .none .none := u5 (by rw [← e4]; exact Heap.get?_push_size _ rfl)
  have p5 : IsPair (zipL t u s.heap p q) k2.objs.size (.ref s.heap.objs.size) (.ref k1.objs.size) := u5 (u4 (by rw [← e3]; exact Heap.get?_push_size _ rfl))
  have d5 : (zipL t u s.heap p q).get? k1.objs.size = some (itO u q) := u5 (u4 (u3 (by rw [← e2]; exact Heap.get?_push_size _ rfl)))
  have c5 : (zipL t u s.heap p q).get? s.heap.objs.size = some (itO t p) := u5 (u4 (u3 (u2 (by rw [← e1]; exact Heap.get?_push_size _ rfl))))
  refine ⟨⟨_, z5, rfl⟩, h k4.objs.size k2.objs.size k3.objs.size s.heap.objs.size k1.objs.size _ ⟨?_, ?_, ?_⟩ ⟨z5, p5, ⟨_, _, o5⟩, ?_, ?_⟩ ?_ fun b o e => u5 (u4 (u3 (u2 (u1 e))))⟩
  · rw [s1, s2, s3, s4]
    simp only [List.nodup_cons, List.mem_cons, List.not_mem_nil, or_false, not_or, List.nodup_nil, and_true, not_false_eq_true]
    refine ⟨⟨?_, ?_, ?_, ?_⟩, ⟨?_, ?_, ?_⟩, ⟨?_, ?_⟩, ?_⟩ <;> (intro e; have e' : (_ : Nat) = _ := e; omega)
  · rw [s1, s2, s3, s4]
    simp only [List.mem_cons, List.not_mem_nil, or_false, not_or]
    have far : ∀ k : Nat, p ≠ s.heap.objs.size + k := fun k => Nat.ne_of_lt (Nat.lt_of_lt_of_le lp (Nat.le_add_right _ k))
    exact ⟨far 4, far 2, far 3, far 0, far 1⟩
  · rw [s1, s2, s3, s4]
    simp only [List.mem_cons, List.not_mem_nil, or_false, not_or]
    have far : ∀ k : Nat, q ≠ s.heap.objs.size + k := fun k => Nat.ne_of_lt (Nat.lt_of_lt_of_le lq (Nat.le_add_right _ k))
    exact ⟨far 4, far 2, far 3, far 0, far 1⟩
  · cases t <;> exact ⟨_, c5, rfl, rfl⟩
  · cases u <;> exact ⟨_, d5, rfl, rfl⟩
  · rw [s1, s2, s3, s4]
    intro b hb
    simp only [List.mem_cons, List.not_mem_nil, or_false] at hb
    have : (s.heap.objs.size : Nat) ≤ (b : Nat) := by rcases hb with rfl | rfl | rfl | rfl | rfl <;> omega
    exact this
section
variable {X : Cx} {elts : List Expr} {x1 : Nat} {tp : Pos}
def iZip (t u : Bool) (K : PySem.W.Frag) (ta : TA) : TI := fun σ H R => ta σ H fun vs H1 => ∃ p q, vs = [.ref p, .ref q] ∧ (∃ xs, SqV t K H1 p xs) ∧ (∃ ys, SqV u K H1 q ys) ∧ R (Itz t u K p q) H1
theorem pi_zip {t u : Bool} {a b : Expr} {ta : TA} {p pos : Pos} (hg : Gl X "zip") (hm : X.mg "zip" = none) (ha : PA X [a, b] ta) (hs : starEach [a, b] X.env = [(false, eval a X.env), (false, eval b X.env)] := by rfl) (hs2 : starEach [b] X.env = [(false, eval b X.env)] := by rfl) :
    PI X (.Tuple elts x1 tp) (.Call (.Name "zip" p) [a, b] [] pos) (iZip t u X.K ta) := by
  intro pins s σ H R I h
  refine Call_ (ld_blt I hg hm boot_zip (PyProof.Rows.callWith_type1 (thn (ha pos pins s σ H _ I h) fun us s1 ⟨vs, H1, I1, r1, q1⟩ => ?_) (by rw [hs, hs2]) (by rw [hs2]; rfl)))
  obtain ⟨l1, l2, e, ⟨xs, h1⟩, ⟨ys, h2⟩, q⟩ := q1
  subst e
  cases r1 with
  | cons r rr =>
    cases rr with
    | cons r' rr =>
      cases rr
      cases r
      cases r'
      obtain ⟨is, ri, sp⟩ := I1.seqV h1
      obtain ⟨js, rj, sq⟩ := I1.seqV h2
      refine zip_call sp sq fun z P O c d h' ap Z hi k => ?_
      have I2 : Inv X pins σ H1 { s1 with heap := h' } := I1.kept (t' := s1.toks) k
      refine wpAny_pyIter_zip (s := { s1 with heap := h' }) Z.zz ⟨z, [z, P, O, c, d], _, _, H1, rfl, I2, turn_zip ap, Z, fun b hb => ?_, q⟩
      have hn : H1 b = none := I1.hok.fresh (hi b hb)
      obtain ⟨f0, f1, f2, f3, f4, f5⟩ := I1.fpOk (hi b hb) hn
      exact ⟨f0, f1, f2, f3, f4, f5⟩
def zipL2 : List D → List D → List D
  | d :: ds, e :: es => .tup [d, e] :: zipL2 ds es
  | _, _ => []
theorem zipL2_get : ∀ (ds es : List D) (i : Nat) (x : D), (zipL2 ds es)[i]? = some x → ∃ d e, ds[i]? = some d ∧ es[i]? = some e ∧ x = .tup [d, e]
  | [], _, i, x, h => by simp [zipL2] at h
  | d :: ds, [], i, x, h => by simp [zipL2] at h
  | d :: ds, e :: es, 0, x, h => by simp [zipL2] at h; exact ⟨d, e, rfl, rfl, h.symm⟩
  | d :: ds, e :: es, i + 1, x, h => by simp [zipL2] at h; simpa using zipL2_get ds es i x h
theorem zipL2_len : ∀ ds es : List D, (zipL2 ds es).length = min ds.length es.length
  | [], _ => by simp [zipL2]
  | d :: ds, [] => by simp [zipL2]
  | d :: ds, e :: es => by simp [zipL2, zipL2_len ds es]

def itmO (t : Bool) (x : Option D) : Option (List D) := if t = true then tupL x else lstL x
def zipO (t u : Bool) (x y : Option D) : Option (List D) := bindO (itmO t x) fun ds => bindO (itmO u y) fun es => some (zipL2 ds es)
theorem itmO_rep {K : PySem.W.Frag} {B : Addr → Prop} {H : Hp} {t : Bool} {x : Option D} {ds : List D} {v : V} {d : D} (h : itmO t x = some ds) (e : x = some d) (r : Rep K B H d v) : ∃ l xs, v = .ref l ∧ Reps K B H ds xs ∧ ∀ H', Ext B H H' → SqV t K H' l xs := by
  cases t with
  | true =>
    have := tupL_some h
    rw [e] at this; cases this
    simp only [Rep] at r
    obtain ⟨l, xs, rfl, hq, rs⟩ := r
    exact ⟨l, xs, rfl, rs, fun H' x => SqT.of (x.tups _ _ hq)⟩
  | false =>
    have := lstL_some h
    rw [e] at this; cases this
    simp only [Rep] at r
    obtain ⟨l, xs, rfl, hq, rs⟩ := r
    exact ⟨l, xs, rfl, rs, fun H' x => (hq.ext x).sq⟩
theorem di_zip {t u m : Bool} {a b : Expr} {fa fb : DEnv → Option D} {p pos : Pos} (g : Gl X "zip") (hm : X.mg "zip" = none) (h : DE X m a fa) (h' : DE X m b fb) (hs : starEach [a, b] X.env = [(false, eval a X.env), (false, eval b X.env)] := by rfl) (hs2 : starEach [b] X.env = [(false, eval b X.env)] := by rfl) :
    DI X m (.Tuple elts x1 tp) (.Call (.Name "zip" p) [a, b] [] pos) (fun δ => zipO t u (fa δ) (fb δ)) :=
  (pi_zip (t := t) (u := u) g hm (pa_cons h (pa_cons h' pa_nil hs2) (by rw [hs, hs2])) hs hs2).imp fun σ H Q ⟨B, Hk, δ, ds, R, e, k⟩ => by
    obtain ⟨as, q1, e⟩ := bindO_some e
    obtain ⟨bs, q2, e⟩ := bindO_some e
    cases e
    obtain ⟨d1, e1⟩ : ∃ d, fa δ = some d := by
      cases q : fa δ with
      | none => rw [q] at q1; cases t <;> cases q1
      | some d => exact ⟨d, rfl⟩
    obtain ⟨d2, e2⟩ : ∃ d, fb δ = some d := by
      cases q : fb δ with
      | none => rw [q] at q2; cases u <;> cases q2
      | some d => exact ⟨d, rfl⟩
    refine two R e1 e2 fun v w H' s R' r1 r2 => ?_
    obtain ⟨l1, xs, rfl, rs1, sq1⟩ := itmO_rep q1 e1 r1
    obtain ⟨l2, ys, rfl, rs2, sq2⟩ := itmO_rep q2 e2 r2
    refine ⟨l1, l2, rfl, ⟨xs, sq1 _ Ext.refl⟩, ⟨ys, sq2 _ Ext.refl⟩, k _ H' s fun H2 x => ?_⟩
    have hx := sq1 H2 x
    have hy := sq2 H2 x
    have rx := rs1.ext x
    have ry := rs2.ext x
    refine ⟨⟨xs, ys, hx, hy, ?_⟩, fun i d hd => ?_⟩
    · rw [zipL2_len, ← rx.length, ← ry.length]; omega
    · obtain ⟨d1, d2, g1, g2, rfl⟩ := zipL2_get _ _ _ _ hd
      obtain ⟨y1, w1, z1⟩ := rx.get g1
      obtain ⟨y2, w2, z2⟩ := ry.get g2
      refine ⟨⟨xs, ys, y1, y2, hx, hy, w1, w2⟩, fun v H3 ⟨T, v1, v2, hT, ev, e3, n1, n2⟩ => ?_⟩
      have := n1 xs hx
      rw [w1] at this; cases this
      have := n2 ys hy
      rw [w2] at this; cases this
      have sm : Same H2 (upd H2 T (.tup [y1, y2])) := same_upd hT
      have bo : ∀ a, bset m B δ σ a → ∃ o, H2 a = some o := fun a ha => by
        obtain ⟨o, ho⟩ := R'.bsH m a ha
        exact ⟨o, (x.lent a ha).trans ho⟩
      have ex := sm.ext bo
      rw [e3, ev]
      refine ⟨sm, ?_⟩
      simp only [Rep]
      exact ⟨T, [y1, y2], rfl, upd_same, Reps.cons (z1.ext ex) (Reps.cons (z2.ext ex) Reps.nil)⟩
end
end L2

end

section
set_option maxHeartbeats 1000000
namespace L2
open PySem PySem.Spec PyProof.Rows

def ltV (x y : Option D) : Option Bool := match x, y with
  | some (.int i), some (.int j) => some (decide (i < j))
  | some (.str i), some (.str j) => some (decide (i.cps.toList < j.cps.toList))
  | _, _ => none
section
variable {X : Cx} {a b e : Expr} {fa fb : DEnv → Option D} {m m' mm : Bool} {pos p2 q1 q2 : Pos} {te : TE}
def rLtV : R2 := fun x y H Q => (∃ i j, x = .int i ∧ y = .int j ∧ Q (.bl (decide (i < j))) H) ∨ ∃ i j, x = .str i ∧ y = .str j ∧ Q (.bl (decide (i.cps.toList < j.cps.toList))) H
theorem op_ltV : OpR X (compareOp .Lt) rLtV := by
  intro pins s σ H x y v u Q I rx ry h
  rcases h with h | h
  · exact op_lt pins s σ H x y v u Q I rx ry h
  · exact op_lt_str pins s σ H x y v u Q I rx ry h
theorem ltV_some {x y : Option D} {c : Bool} (h : ltV x y = some c) : ∃ d e, x = some d ∧ y = some e ∧ ∀ {K : PySem.W.Frag} {B B' : Addr → Prop} {H : Hp} {v u : V} {Q : VK}, Rep K B H d v → Rep K B' H e u → Q (.bl c) H → rLtV v u H Q := by
  unfold ltV at h
  split at h
  · rename_i i j
    cases h
    refine ⟨_, _, rfl, rfl, fun r1 r2 q => ?_⟩
    simp only [Rep] at r1 r2
    exact .inl ⟨i, j, r1, r2, q⟩
  · rename_i i j
    cases h
    refine ⟨_, _, rfl, rfl, fun r1 r2 q => ?_⟩
    simp only [Rep] at r1 r2
    exact .inr ⟨i, j, r1, r2, q⟩
  · cases h
theorem dt_ltV (hm : behindInMarks .Lt b = false) (ha : DE X m a fa) (hb : DE X m' b fb) : DT X (.Compare a [.Lt] [b] pos) (fun δ => ltV (fa δ) (fb δ)) :=
  (pt_cmpR op_ltV ha hb hm).imp fun σ H Q ⟨B, Hk, δ, d, R, e, k⟩ => by
    obtain ⟨d1, d2, e1, e2, go⟩ := ltV_some e
    refine two R e1 e2 fun v u H' s R' r1 r2 => ?_
    exact go r1 r2 ⟨_, rfl, k H' s⟩
theorem de_ltV (hm : behindInMarks .Lt b = false) (ha : DE X m a fa) (hb : DE X m' b fb) : DE X mm (.Compare a [.Lt] [b] pos) (fun δ => ofB (ltV (fa δ) (fb δ))) :=
  (pe_cmpR op_ltV ha hb hm).imp fun σ H Q ⟨B, Hk, δ, d, R, e, k⟩ => by
    cases q : ltV (fa δ) (fb δ) with
    | none => simp only [q, ofB] at e; cases e
    | some c =>
      simp only [q, ofB] at e; cases e
      obtain ⟨d1, d2, e1, e2, go⟩ := ltV_some q
      refine two R e1 e2 fun v u H' s R' r1 r2 => ?_
      exact go r1 r2 (k _ H' s (by simp only [Rep]))
end

theorem filterMap_same {α β : Type} {f g : α → Option β} : ∀ {l : List α}, (∀ k ∈ l, f k = g k) → l.filterMap f = l.filterMap g
  | [], _ => rfl
  | x :: l, h => by
    rw [List.filterMap_cons, List.filterMap_cons, h x (List.mem_cons_self ..), filterMap_same fun k hk => h k (List.mem_cons_of_mem _ hk)]
theorem pick_rev (its : List Value) : slicePick its.toArray none none (some (-1)) = its.reverse.toArray := by
  have hb : sliceBounds none none (some (-1)) its.length = ((its.length : Int) - 1, -1, -1) := by
    unfold sliceBounds
    simp
  unfold slicePick
  rw [List.size_toArray, hb]
  have hr : sliceRange ((its.length : Int) - 1) (-1) (-1) = (List.range its.length).map fun (k : Nat) => ((its.length : Int) - 1 + -1 * (k : Int)).toNat := by
    unfold sliceRange
    have hc : (if (its.length : Int) - 1 > -1 then ((its.length : Int) - 1 - -1 - -1 - 1) / (- -1) else 0) = (its.length : Int) := by rw [show (- -1 : Int) = 1 by rfl, Int.ediv_one]; split <;> omega
    simp only [show ¬ ((-1 : Int) > 0) by omega, if_false, hc, Int.toNat_natCast]
  rw [hr, List.filterMap_map]
  have he : ∀ k ∈ List.range its.length, ((fun x => its.toArray[x]?) ∘ fun (k : Nat) => ((its.length : Int) - 1 + -1 * (k : Int)).toNat) k = its.reverse[k]? := fun k hk => by
    have hk := List.mem_range.mp hk
    rw [List.getElem?_reverse hk]
    simp only [Function.comp]
    rw [show ((its.length : Int) - 1 + -1 * (k : Int)).toNat = its.length - 1 - k by omega]
    simp
  rw [filterMap_same he]
  have hp := pick_run its.reverse.toArray 0 its.length
  rw [List.filterMap_map] at hp
  have hz : ((fun x => its.reverse.toArray[x]?) ∘ fun x => 0 + x) = fun k => its.reverse[k]? := by funext k; simp
  rw [hz] at hp
  rw [hp]
  simp
  rw [List.take_of_length_le (by simp)]
section
variable {X : Cx} {a b e : Expr} {fa fb : DEnv → Option D} {m m' mm : Bool} {pos p2 q1 q2 : Pos} {te : TE}
def tRev (K : PySem.W.Frag) (te : TE) : TE := fun σ H Q => te σ H fun x H1 => ∃ a xs, x = .ref a ∧ SqL K H1 a xs ∧ ∀ p, H1 p = none → Q (.ref p) (upd H1 p (.lst xs.reverse))
theorem pe_rev {tk : Nat} (he : PE X e te) : PE X (.Subscript e (.Slice none none (some (.UnaryOp .USub (.Constant (.int 1) tk q1) q2)) p2) pos) (tRev X.K te) := by
  intro pins s σ H Q I h
  refine Subscript_ (thn (he pins s σ H _ I h) fun v s1 ⟨x, H1, I1, r1, q1⟩ => ?_)
  obtain ⟨l, xs, rfl, hx, q⟩ := q1
  cases r1
  refine wpAny_Slice ?_
  rw [evalPart_none]
  refine wpAny_pure (wpAny_pure (thn ((po_some (pe_un un_neg pe_int)) pins s1 σ H1 (fun o H' => o = some (-1) ∧ H' = H1) I1 ⟨1, rfl, -1, rfl, rfl, rfl⟩) fun vk s2 ⟨o, H2, I2, pk, eo, eH⟩ => ?_))
  subst eo eH
  have I4 : Inv X pins σ H2 { s2 with heap := s2.heap.push { cls := .type "slice", data := .fields #[.none, .none, vk] } } := I2.kept (t' := s2.toks) fun b ob q => Heap.get?_push_of_some _ q
  obtain ⟨its, r, ht, hz⟩ := I4.list hx
  have hlen := r.length
  change wpAny (model X.prog X.w) X.A (subscriptTail e (.Slice none none _ p2) (.ref l) (.ref s2.heap.objs.size)) (EP X pins σ Q) X.xe { s2 with heap := s2.heap.push { cls := .type "slice", data := .fields #[.none, .none, vk] } }
  refine tail_any (T := "list") (ops := [.ref l, .ref s2.heap.objs.size]) ht.isList.typeIs slot_list_getitem.lookup ?_ (by with_unfolding_all rfl)
  refine wpAny_getItem_list_slice ht.isList (Heap.IsSliceOf.new ..) .none .none pk (by simp) ?_ (by rw [List.size_toArray] <;> omega)
  rw [pick_rev]
  refine ⟨.ref (s2.heap.push { cls := .type "slice", data := .fields #[.none, .none, vk] }).objs.size, _, I4.laid (t' := s2.toks) (o := .lst xs.reverse) (fun b ob q => Heap.get?_push_of_some _ q) (Nat.le_refl _) ?_, rfl, q _ (I4.hok.fresh (Nat.le_refl _))⟩
  exact ⟨by rw [List.length_reverse]; exact hz, _, 0, r.reverse, Heap.get?_push_size _ rfl⟩
def revLO (x : Option D) : Option D := match x with | some (.lst ds) => some (.lst ds.reverse) | _ => none
theorem Reps.rev {K : PySem.W.Frag} {B : Addr → Prop} {H : Hp} : ∀ {ds : List D} {xs : List V}, Reps K B H ds xs → Reps K B H ds.reverse xs.reverse
  | [], xs, h => by
    have : xs = [] := h
    subst this
    exact Reps.nil
  | d :: ds, xs, h => by
    obtain ⟨x, r, rfl, h1, h2⟩ := h
    rw [List.reverse_cons, List.reverse_cons]
    exact (Reps.rev h2).append (Reps.cons h1 Reps.nil)

theorem df_rev {tk : Nat} (ha : DE X false a fa) : DF X (.Subscript a (.Slice none none (some (.UnaryOp .USub (.Constant (.int 1) tk q1) q2)) p2) pos) (fun δ => revLO (fa δ)) :=
  (pe_rev ha).imp fun σ H Q ⟨B, Hk, δ, d, R, e, k⟩ => by
    unfold revLO at e
    dsimp only at e
    split at e
    · rename_i ds q
      cases e
      refine ⟨B, Hk, δ, _, R, q, fun v H' s r => ?_⟩
      simp only [Rep] at r
      obtain ⟨c, xs, rfl, hq, rs⟩ := r
      refine ⟨c, xs, rfl, hq.sq, fun p hp => ?_⟩
      have s2 := same_upd (o := .lst xs.reverse) hp
      exact k p _ (s.trans s2) (s.free hp) ⟨_, upd_same, rs.rev.same (m := false) (R.to s) s2⟩
    · cases e
end
end L2

end

section
set_option maxHeartbeats 1000000
namespace K01
open PySem L2

def top (i : Nat) : Stmt := PySem.Challenge.pw_mustrows_k01_stands.main.body.getD i (.Pass ⟨0, 0, 0, 0⟩)
abbrev s_stand_of : Stmt := top 1
abbrev s__law_whole : Stmt := top 3
abbrev s__law_mix : Stmt := top 4
abbrev s__law_words : Stmt := top 5
abbrev s__law_world : Stmt := top 6
abbrev s__law_cell_by : Stmt := top 7
abbrev s__law_row : Stmt := top 8
abbrev s__law_rows : Stmt := top 9
abbrev s__law_cell_before : Stmt := top 10
abbrev s__law_before : Stmt := top 11
abbrev s__law_is_row : Stmt := top 12
abbrev s__law_right : Stmt := top 13
abbrev s_law : Stmt := top 14

structure Txt (mg : Str → Option Value) : Prop where
  b_bool : mg "bool" = none
  b_int : mg "int" = none
  b_isinstance : mg "isinstance" = none
  b_len : mg "len" = none
  b_list : mg "list" = none
  b_range : mg "range" = none
  b_set : mg "set" = none
  b_sorted : mg "sorted" = none
  b_str : mg "str" = none
  b_sum : mg "sum" = none
  b_tuple : mg "tuple" = none
  b_zip : mg "zip" = none
abbrev N_stand_of : List Str := ["rows"]
def g_stand_of (δ : DEnv) : Option Out := retF (sortSetO .ts false (rd false 0 δ))
def f_stand_of : List D → Option (D × Bool) := runF 1 1 g_stand_of
abbrev N__law_whole : List Str := ["_law_found"]
def g__law_whole (δ : DEnv) : Option Out := retO ((match tyB (isiO "int" (rd false 0 δ)) with | some true => ofB (notO (tyB (isiO "bool" (rd false 0 δ)))) | some false => some (.bl false) | none => none))
def f__law_whole : List D → Option (D × Bool) := runF 1 1 g__law_whole
abbrev N__law_mix : List Str := ["_law_cell", "_law_j", "_law_number"]
def g__law_mix (δ : DEnv) : Option Out := seqO (setO 2 (modI (addI (mulI (rd false 0 δ) (addI (mulI (some (.int 2)) (rd false 1 δ)) (some (.int 3)))) (rd false 1 δ)) (some (.int 2147483629))) δ) (fun δ => retO (modI (mulI (addI (mulI (rd false 2 δ) (rd false 2 δ)) (some (.int 1))) (some (.int 48271))) (some (.int 2147483629))))
def f__law_mix : List D → Option (D × Bool) := runF 3 2 g__law_mix
abbrev N__law_words : List Str := ["_law_cell", "_law_letters", "_law_size", "_law_stem", "_law_at", "_law_found", "_law_k", "_law_sign"]
def e__law_words_1 (δ : DEnv) : Option D := ixSO (rd false 1 δ) (modI (shO (bindO (consO (rd false 0 δ) (consO (addI (some (.int 2)) (rd false 6 δ)) (some []))) f__law_mix)) (some (.int 26)))
def b__law_words_2 (δ : DEnv) : Option Out := seqO (setO 7 (ixSO (rd false 1 δ) (modI (addI (findO (rd false 1 δ) (ixSO (rd false 3 δ) (rd false 4 δ))) (mulI (some (.int 7)) (rd false 6 δ))) (some (.int 26)))) δ) (fun δ => appO 5 (addS (addS (cutSO (rd false 3 δ) (some none) (partI (rd false 4 δ))) (rd false 7 δ)) (cutSO (rd false 3 δ) (partI (addI (rd false 4 δ) (some (.int 1)))) (some none))) δ)
def k__law_words_3 (δ : DEnv) : Option Out := retF (catO (rd false 5 δ) (lstO (consO (addS (rd false 3 δ) (ixSO (rd false 1 δ) (modI (shO (bindO (consO (rd false 0 δ) (consO (some (.int 10)) (some []))) f__law_mix)) (some (.int 26))))) (consO (cutSO (rd false 3 δ) (some none) (partI (subI (rd false 2 δ) (some (.int 1))))) (some [])))))
def g__law_words (δ : DEnv) : Option Out := seqO (setO 1 (some (.str "abcdefghijklmnopqrstuvwxyz")) δ) (fun δ => seqO (setO 2 (addI (some (.int 2)) (modI (shO (bindO (consO (rd false 0 δ) (consO (some (.int 1)) (some []))) f__law_mix)) (some (.int 6)))) δ) (fun δ => seqO (setO 3 (joinO (some (.str "")) (lstLim (bindO (rng1 (rd false 2 δ)) (runC false [true, true, false, false, false, false, false, false] (toName 6) (fun δ => some true) e__law_words_1 δ)))) δ) (fun δ => seqO (setO 4 (modI (shO (bindO (consO (rd false 0 δ) (consO (some (.int 9)) (some []))) f__law_mix)) (rd false 2 δ)) δ) (fun δ => seqO (setF 5 (lstO (some [])) δ) (fun δ => seqO (bindO (rng1 (some (.int 4))) fun ds => loopD (fun d δ => bindO ((toName 6) d δ) b__law_words_2) ds δ) (fun δ => k__law_words_3 (frzE 5 δ)))))))
def f__law_words : List D → Option (D × Bool) := runF 8 1 g__law_words
abbrev N__law_world : List Str := ["_law_cell"]
def g__law_world (δ : DEnv) : Option Out := retO (tupO (consO (frO (bindO (consO (rd false 0 δ) (some [])) f__law_words)) (consO (modI (shO (bindO (consO (rd false 0 δ) (consO (some (.int 11)) (some []))) f__law_mix)) (some (.int 400000))) (consO (addI (some (.int 1)) (modI (shO (bindO (consO (rd false 0 δ) (consO (some (.int 12)) (some []))) f__law_mix)) (some (.int 50000)))) (some [])))))
def f__law_world : List D → Option (D × Bool) := runF 1 1 g__law_world
abbrev N__law_cell_by : List Str := ["_law_world_here", "_law_number", "_law_words_here", "_law_start", "_law_step"]
def g__law_cell_by (δ : DEnv) : Option Out := seqO (unpO (rd false 0 δ) (toTup (toCons (toName 2) (toCons (toName 3) (toCons (toName 4) (toNil))))) δ) (fun δ => seqO (ifO (eqO (modI (rd false 1 δ) (some (.int 2))) (some (.int 0))) (retO (tupO (consO (some (.str "blank")) (consO (addI (mulI (rd false 3 δ) (divI (modI (divI (rd false 1 δ) (some (.int 2))) (some (.int 3))) (some (.int 2)))) (mulI (rd false 4 δ) (modI (divI (rd false 1 δ) (some (.int 6))) (some (.int 12))))) (some []))))) (nextO δ)) (fun δ => retO (tupO (consO (some (.str "name")) (consO (ixO (rd false 2 δ) (modI (divI (rd false 1 δ) (some (.int 2))) (some (.int 6)))) (some []))))))
def f__law_cell_by : List D → Option (D × Bool) := runF 5 2 g__law_cell_by
abbrev N__law_row : List Str := ["_law_world_here", "_law_cell", "_law_size", "_law_cells", "_law_k"]
def e__law_row_1 (δ : DEnv) : Option D := shO (bindO (consO (rd false 0 δ) (consO (shO (bindO (consO (rd false 1 δ) (consO (addI (some (.int 3)) (rd false 4 δ)) (some []))) f__law_mix)) (some []))) f__law_cell_by)
def k__law_row_2 (δ : DEnv) : Option Out := retO (tupO (consO (ixO (ixO (rd false 0 δ) (some (.int 0))) (modI (shO (bindO (consO (rd false 1 δ) (consO (some (.int 2)) (some []))) f__law_mix)) (some (.int 3)))) (consO (tupleO (rd false 3 δ)) (some []))))
def g__law_row (δ : DEnv) : Option Out := seqO (setO 2 (addI (some (.int 1)) (modI (shO (bindO (consO (rd false 1 δ) (consO (some (.int 1)) (some []))) f__law_mix)) (some (.int 4)))) δ) (fun δ => seqO (setF 3 (lstLim (bindO (rng1 (rd false 2 δ)) (runC false [true, true, false, false, false] (toName 4) (fun δ => some true) e__law_row_1 δ))) δ) (fun δ => k__law_row_2 (frzE 3 δ)))
def f__law_row : List D → Option (D × Bool) := runF 5 2 g__law_row
abbrev N__law_rows : List Str := ["_law_world_here", "_law_script", "_law_rows_here", "_law_cell"]
def b__law_rows_1 (δ : DEnv) : Option Out := ifO (andO (neO (rd true 2 δ) (lstO (some []))) (eqO (modI (shO (bindO (consO (rd false 3 δ) (consO (some (.int 13)) (some []))) f__law_mix)) (some (.int 4))) (some (.int 1)))) (appO 2 (ixO (rd true 2 δ) (modI (shO (bindO (consO (rd false 3 δ) (consO (some (.int 14)) (some []))) f__law_mix)) (lenL (rd true 2 δ)))) δ) (ifO (andO (neO (rd true 2 δ) (lstO (some []))) (eqO (modI (shO (bindO (consO (rd false 3 δ) (consO (some (.int 13)) (some []))) f__law_mix)) (some (.int 16))) (some (.int 2)))) (appO 2 (ixO (rd true 2 δ) (subI (lenL (rd true 2 δ)) (some (.int 1)))) δ) (appO 2 (shO (bindO (consO (rd false 0 δ) (consO (rd false 3 δ) (some []))) f__law_row)) δ))
def g__law_rows (δ : DEnv) : Option Out := seqO (setF 2 (lstO (some [])) δ) (fun δ => seqO (bindO (lstL (rd false 1 δ)) fun ds => loopD (fun d δ => bindO ((toName 3) d δ) b__law_rows_1) ds δ) (fun δ => retF (rdOwn 2 δ)))
def f__law_rows : List D → Option (D × Bool) := runF 4 2 g__law_rows
abbrev N__law_cell_before : List Str := ["_law_one", "_law_other"]
def g__law_cell_before (δ : DEnv) : Option Out := seqO (ifO (neO (ixO (rd false 0 δ) (some (.int 0))) (ixO (rd false 1 δ) (some (.int 0)))) (retO (ofB (eqO (ixO (rd false 0 δ) (some (.int 0))) (some (.str "blank"))))) (nextO δ)) (fun δ => retO (ofB (ltV (ixO (rd false 0 δ) (some (.int 1))) (ixO (rd false 1 δ) (some (.int 1))))))
def f__law_cell_before : List D → Option (D × Bool) := runF 2 2 g__law_cell_before
abbrev N__law_before : List Str := ["_law_one", "_law_other", "_law_x", "_law_y"]
def b__law_before_1 (δ : DEnv) : Option Out := ifO (neO (rd false 2 δ) (rd false 3 δ)) (retO (shO (bindO (consO (rd false 2 δ) (consO (rd false 3 δ) (some []))) f__law_cell_before))) (nextO δ)
def g__law_before (δ : DEnv) : Option Out := seqO (ifO (neO (ixO (rd false 0 δ) (some (.int 0))) (ixO (rd false 1 δ) (some (.int 0)))) (retO (ofB (ltV (ixO (rd false 0 δ) (some (.int 0))) (ixO (rd false 1 δ) (some (.int 0)))))) (nextO δ)) (fun δ => seqO (bindO (zipO true true (ixO (rd false 0 δ) (some (.int 1))) (ixO (rd false 1 δ) (some (.int 1)))) fun ds => loopD (fun d δ => bindO ((toTup (toCons (toName 2) (toCons (toName 3) (toNil)))) d δ) b__law_before_1) ds δ) (fun δ => retO (bI cT (fun i j => .bl (gLt i j)) (lenL (ixO (rd false 0 δ) (some (.int 1)))) (lenL (ixO (rd false 1 δ) (some (.int 1)))))))
def f__law_before : List D → Option (D × Bool) := runF 4 2 g__law_before
abbrev N__law_is_row : List Str := ["_law_found", "_law_cell"]
def b__law_is_row_1 (δ : DEnv) : Option Out := seqO (ifO (orO (notO (tyB (isiO "tuple" (rd false 1 δ)))) (orO (neO (lenL (rd false 1 δ)) (some (.int 2))) (notO (tyB (isiO "str" (ixO (rd false 1 δ) (some (.int 0)))))))) (retO (some (.bl false))) (nextO δ)) (fun δ => ifO (andO (notO (tyB (shO (bindO (consO (ixO (rd false 1 δ) (some (.int 1))) (some [])) f__law_whole)))) (notO (tyB (isiO "str" (ixO (rd false 1 δ) (some (.int 1))))))) (retO (some (.bl false))) (nextO δ))
def g__law_is_row (δ : DEnv) : Option Out := seqO (ifO (orO (notO (tyB (isiO "tuple" (rd false 0 δ)))) (orO (neO (lenL (rd false 0 δ)) (some (.int 2))) (notO (tyB (isiO "str" (ixO (rd false 0 δ) (some (.int 0)))))))) (retO (some (.bl false))) (nextO δ)) (fun δ => seqO (ifO (notO (tyB (isiO "tuple" (ixO (rd false 0 δ) (some (.int 1)))))) (retO (some (.bl false))) (nextO δ)) (fun δ => seqO (bindO (tupL (ixO (rd false 0 δ) (some (.int 1)))) fun ds => loopD (fun d δ => bindO ((toName 1) d δ) b__law_is_row_1) ds δ) (fun δ => retO (some (.bl true)))))
def f__law_is_row : List D → Option (D × Bool) := runF 2 1 g__law_is_row
abbrev N__law_right : List Str := ["_law_found", "_law_rows_here", "_law_row_here", "_law_k"]
def b__law_right_1 (δ : DEnv) : Option Out := ifO (orO (notO (tyB (shO (bindO (consO (rd false 2 δ) (some [])) f__law_is_row)))) (notInO (rd false 2 δ) (rd false 1 δ))) (retO (some (.bl false))) (nextO δ)
def b__law_right_2 (δ : DEnv) : Option Out := ifO (notInO (rd false 2 δ) (rd false 0 δ)) (retO (some (.bl false))) (nextO δ)
def b__law_right_3 (δ : DEnv) : Option Out := ifO (notO (tyB (shO (bindO (consO (ixO (rd false 0 δ) (subI (rd false 3 δ) (some (.int 1)))) (consO (ixO (rd false 0 δ) (rd false 3 δ)) (some []))) f__law_before)))) (retO (some (.bl false))) (nextO δ)
def g__law_right (δ : DEnv) : Option Out := seqO (ifO (notO (tyB (isiO "list" (rd false 0 δ)))) (retO (some (.bl false))) (nextO δ)) (fun δ => seqO (bindO (lstL (rd false 0 δ)) fun ds => loopD (fun d δ => bindO ((toName 2) d δ) b__law_right_1) ds δ) (fun δ => seqO (bindO (lstL (rd false 1 δ)) fun ds => loopD (fun d δ => bindO ((toName 2) d δ) b__law_right_2) ds δ) (fun δ => seqO (bindO (rng2 (some (.int 1)) (lenL (rd false 0 δ))) fun ds => loopD (fun d δ => bindO ((toName 3) d δ) b__law_right_3) ds δ) (fun δ => retO (some (.bl true))))))
def f__law_right : List D → Option (D × Bool) := runF 4 2 g__law_right
abbrev N_law : List Str := ["_law_script", "_law_cells", "_law_world_here", "_law_rows_here", "_law_kept", "_law_found", "_law_again"]
def g_law (δ : DEnv) : Option Out := seqO (setO 1 (cutLO (rd false 0 δ) (some none) (partI (some (.int 60)))) δ) (fun δ => seqO (setO 2 (shO (bindO (consO (modI (sumO (rd false 1 δ)) (some (.int 1000003))) (some [])) f__law_world)) δ) (fun δ => seqO (setO 3 (frO (bindO (consO (rd false 2 δ) (consO (rd false 1 δ) (some []))) f__law_rows)) δ) (fun δ => seqO (setO 4 (listO (rd false 3 δ)) δ) (fun δ => seqO (setF 5 (frO (bindO (consO (rd false 3 δ) (some [])) f_stand_of)) δ) (fun δ => seqO (ifO (orO (notO (tyB (shO (bindO (consO (rd true 5 δ) (consO (rd true 4 δ) (some []))) f__law_right)))) (neO (rd false 3 δ) (rd false 4 δ))) (retO (some (.bl false))) (nextO δ)) (fun δ => seqO (setO 6 (flO (bindO (consO (rd true 5 δ) (some [])) f_stand_of)) δ) (fun δ => seqO (ifO (orO (neO (rd false 6 δ) (rd true 5 δ)) (neO (frO (bindO (consO (revLO (rd false 3 δ)) (some [])) f_stand_of)) (rd true 5 δ))) (retO (some (.bl false))) (nextO δ)) (fun δ => seqO (appO 5 (some .non) δ) (fun δ => retO ((match tyB (ofB (eqO (rd false 3 δ) (rd false 4 δ))) with | some true => ofB (eqO (lenL (rd false 6 δ)) (subI (lenL (rd true 5 δ)) (some (.int 1)))) | some false => some (.bl false) | none => none)))))))))))
def f_law : List D → Option (D × Bool) := runF 7 1 g_law
section
variable {P : Program} {w : World} {K : PySem.W.Frag} {mg : Str → Option Value} {base : Heap}
theorem sc_stand_of : FnScope N_stand_of (["rows"] : List Str) (defScope s_stand_of) := ⟨rfl, rfl, rfl, by decide +kernel, rfl, by decide +kernel, by decide +kernel⟩
theorem d_stand_of {X : Cx} (hX : Has X N_stand_of (defScope s_stand_of)) (hf : ∀ x, X.fn x = true) (hp : PassesOwn (model X.prog X.w) X.A X.env X.xe) (hr : Room 0 X.A) (T : Txt X.mg)  :
    DSs X (defBody s_stand_of) g_stand_of := by
  have hu := hr.units
  have n0 : Nm X 0 "rows" := hX.nm (by decide +kernel)
  have gg_set : Gb X "set" := hX.gb (by decide +kernel)
  have gg_sorted : Gb X "sorted" := hX.gb (by decide +kernel)
  refine dss_one (ds_retF (df_sortedSet (c := .ts) (sc := false) hu hX.calm gg_sorted.gl T.b_sorted gg_set.gl T.b_set (nv false n0)))
theorem m_stand_of {f : Addr} {fd : FuncData} (F : Fun K "stand_of" "stand_of" s_stand_of f fd) (hb : Binds K fd (["rows"] : List Str) []) (hm : mg "stand_of" = some (.ref f)) (T : Txt mg)  :
    FnOk P w K mg base CX0 1 f fd (["rows"] : List Str) (spM K f_stand_of) ∧ FnM P w K mg base 1 "stand_of" f_stand_of := by
  have h := fnM_of (P := P) (w := w) (base := base) (k := 0) (g := g_stand_of) F sc_stand_of hb hm (by decide) fun cdv A outer s H E hr => by
    exact d_stand_of (X := ((cxOf CX0 P w K mg base N_stand_of "stand_of" (defScope s_stand_of) f cdv A outer s H E).nox)) (hasX sc_stand_of.nd) (fun _ => rfl) PassesOwn.never hr T 
  exact h
theorem sc__law_whole : FnScope N__law_whole (["_law_found"] : List Str) (defScope s__law_whole) := ⟨rfl, rfl, rfl, by decide +kernel, rfl, by decide +kernel, by decide +kernel⟩
theorem d__law_whole {X : Cx} (hX : Has X N__law_whole (defScope s__law_whole)) (hf : ∀ x, X.fn x = true) (hp : PassesOwn (model X.prog X.w) X.A X.env X.xe) (hr : Room 0 X.A) (T : Txt X.mg)  :
    DSs X (defBody s__law_whole) g__law_whole := by
  have hu := hr.units
  have n0 : Nm X 0 "_law_found" := hX.nm (by decide +kernel)
  have gg_bool : Gb X "bool" := hX.gb (by decide +kernel)
  have gg_int : Gb X "int" := hX.gb (by decide +kernel)
  have gg_isinstance : Gb X "isinstance" := hX.gb (by decide +kernel)
  refine dss_one (ds_ret (de_and (mm := false) (de_isi (mm := false) (cs := "int") (by simp) gg_isinstance.gl T.b_isinstance gg_int.gl T.b_int bt_int (nv false n0)) (de_one (de_not (mm := false) (de_isi (mm := false) (cs := "bool") (by simp) gg_isinstance.gl T.b_isinstance gg_bool.gl T.b_bool bt_bool (nv false n0))))))
theorem m__law_whole {f : Addr} {fd : FuncData} (F : Fun K "_law_whole" "_law_whole" s__law_whole f fd) (hb : Binds K fd (["_law_found"] : List Str) []) (hm : mg "_law_whole" = some (.ref f)) (T : Txt mg)  :
    FnOk P w K mg base CX0 1 f fd (["_law_found"] : List Str) (spM K f__law_whole) ∧ FnM P w K mg base 1 "_law_whole" f__law_whole := by
  have h := fnM_of (P := P) (w := w) (base := base) (k := 0) (g := g__law_whole) F sc__law_whole hb hm (by decide) fun cdv A outer s H E hr => by
    exact d__law_whole (X := ((cxOf CX0 P w K mg base N__law_whole "_law_whole" (defScope s__law_whole) f cdv A outer s H E).nox)) (hasX sc__law_whole.nd) (fun _ => rfl) PassesOwn.never hr T 
  exact h
theorem sc__law_mix : FnScope N__law_mix (["_law_cell", "_law_j"] : List Str) (defScope s__law_mix) := ⟨rfl, rfl, rfl, by decide +kernel, rfl, by decide +kernel, by decide +kernel⟩
theorem d__law_mix {X : Cx} (hX : Has X N__law_mix (defScope s__law_mix)) (hf : ∀ x, X.fn x = true) (hp : PassesOwn (model X.prog X.w) X.A X.env X.xe) (hr : Room 0 X.A) (T : Txt X.mg)  :
    DSs X (defBody s__law_mix) g__law_mix := by
  have hu := hr.units
  have n0 : Nm X 0 "_law_cell" := hX.nm (by decide +kernel)
  have n1 : Nm X 1 "_law_j" := hX.nm (by decide +kernel)
  have n2 : Nm X 2 "_law_number" := hX.nm (by decide +kernel)
  have l2 : Lc X 2 "_law_number" := hX.lc hf (by decide +kernel)
  refine dss_cons (ds_set' hX.nd l2 (de_mod (mm := false) (de_add (mm := false) (de_mul (mm := false) (nv false n0) (de_add (mm := false) (de_mul (mm := false) (de_int (m := false)) (nv false n1)) (de_int (m := false)))) (nv false n1)) (de_int (m := false)))) ?_
  refine dss_one (ds_ret (de_mod (mm := false) (de_mul (mm := false) (de_add (mm := false) (de_mul (mm := false) (nv false n2) (nv false n2)) (de_int (m := false))) (de_int (m := false))) (de_int (m := false))))
theorem m__law_mix {f : Addr} {fd : FuncData} (F : Fun K "_law_mix" "_law_mix" s__law_mix f fd) (hb : Binds K fd (["_law_cell", "_law_j"] : List Str) []) (hm : mg "_law_mix" = some (.ref f)) (T : Txt mg)  :
    FnOk P w K mg base CX0 1 f fd (["_law_cell", "_law_j"] : List Str) (spM K f__law_mix) ∧ FnM P w K mg base 1 "_law_mix" f__law_mix := by
  have h := fnM_of (P := P) (w := w) (base := base) (k := 0) (g := g__law_mix) F sc__law_mix hb hm (by decide) fun cdv A outer s H E hr => by
    exact d__law_mix (X := ((cxOf CX0 P w K mg base N__law_mix "_law_mix" (defScope s__law_mix) f cdv A outer s H E).nox)) (hasX sc__law_mix.nd) (fun _ => rfl) PassesOwn.never hr T 
  exact h
theorem sc__law_words : FnScope N__law_words (["_law_cell"] : List Str) (defScope s__law_words) := ⟨rfl, rfl, rfl, by decide +kernel, rfl, by decide +kernel, by decide +kernel⟩
theorem d__law_words {X : Cx} (hX : Has X N__law_words (defScope s__law_words)) (hf : ∀ x, X.fn x = true) (hp : PassesOwn (model X.prog X.w) X.A X.env X.xe) (hr : Room 1 X.A) (T : Txt X.mg) (F__law_mix : FnM X.prog X.w X.K X.mg X.base 1 "_law_mix" f__law_mix) :
    DSs X (defBody s__law_words) g__law_words := by
  have hu := hr.units
  have n0 : Nm X 0 "_law_cell" := hX.nm (by decide +kernel)
  have n1 : Nm X 1 "_law_letters" := hX.nm (by decide +kernel)
  have l1 : Lc X 1 "_law_letters" := hX.lc hf (by decide +kernel)
  have n2 : Nm X 2 "_law_size" := hX.nm (by decide +kernel)
  have l2 : Lc X 2 "_law_size" := hX.lc hf (by decide +kernel)
  have n3 : Nm X 3 "_law_stem" := hX.nm (by decide +kernel)
  have l3 : Lc X 3 "_law_stem" := hX.lc hf (by decide +kernel)
  have n4 : Nm X 4 "_law_at" := hX.nm (by decide +kernel)
  have l4 : Lc X 4 "_law_at" := hX.lc hf (by decide +kernel)
  have n5 : Nm X 5 "_law_found" := hX.nm (by decide +kernel)
  have l5 : Lc X 5 "_law_found" := hX.lc hf (by decide +kernel)
  have n6 : Nm X 6 "_law_k" := hX.nm (by decide +kernel)
  have l6 : Lc X 6 "_law_k" := hX.lc hf (by decide +kernel)
  have n7 : Nm X 7 "_law_sign" := hX.nm (by decide +kernel)
  have l7 : Lc X 7 "_law_sign" := hX.lc hf (by decide +kernel)
  have gg__law_mix : Gb X "_law_mix" := hX.gb (by decide +kernel)
  have gg_range : Gb X "range" := hX.gb (by decide +kernel)
  refine dss_cons (ds_set' hX.nd l1 (de_str (m := false))) ?_
  refine dss_cons (ds_set' hX.nd l2 (de_add (mm := false) (de_int (m := false)) (de_mod (mm := false) (de_call' F__law_mix (hr.mono (by decide)) gg__law_mix (da_cons (nv false n0) (da_cons (de_int (m := false)) (da_nil)))) (de_int (m := false))))) ?_
  refine dss_cons (ds_set' hX.nd l3 (de_join (mm := false) (de_str (m := false)) (DF.share (m := false) (df_comp hX.calm (anew_name 6) (di_rng1 (mm := false) gg_range.gl T.b_range (nv false n2)) (CompScope.of' hX (by decide +kernel)) (fun cl C s₂ H₂ ex pn => dg_name' (hX.comp _ cl C s₂ H₂ ex pn).nd ((hX.comp _ cl C s₂ H₂ ex pn).lcl (i := 6) (by decide +kernel))) (fun cl C s₂ H₂ ex pn => dts_nil) (fun cl C s₂ H₂ ex pn => de_ixS (mm := false) (nv false ((hX.comp _ cl C s₂ H₂ ex pn).nm (i := 1) (by decide +kernel))) (de_mod (mm := false) (de_call' F__law_mix (hr.mono (by decide)) ((hX.comp _ cl C s₂ H₂ ex pn).gb (x := "_law_mix") (by decide +kernel)) (da_cons (nv false ((hX.comp _ cl C s₂ H₂ ex pn).nm (i := 0) (by decide +kernel))) (da_cons (de_add (mm := false) (de_int (m := false)) (nv false ((hX.comp _ cl C s₂ H₂ ex pn).nm (i := 6) (by decide +kernel)))) (da_nil)))) (de_int (m := false)))))))) ?_
  refine dss_cons (ds_set' hX.nd l4 (de_mod (mm := false) (de_call' F__law_mix (hr.mono (by decide)) gg__law_mix (da_cons (nv false n0) (da_cons (de_int (m := false)) (da_nil)))) (nv false n2))) ?_
  refine dss_cons (ds_setF' hX.nd l5 (df_lst (da_nil))) ?_
  refine dss_cons (ds_for (gb := b__law_words_2) hp hX.calm (di_rng1 (mm := false) gg_range.gl T.b_range (de_int (m := false))) (dg_name' hX.nd l6) ?_) ?_
  · refine dss_cons (ds_set' hX.nd l7 (de_ixS (mm := false) (nv false n1) (de_mod (mm := false) (de_add (mm := false) (de_find (mm := false) (nv false n1) (de_ixS (mm := false) (nv false n3) (nv false n4))) (de_mul (mm := false) (de_int (m := false)) (nv false n6))) (de_int (m := false))))) ?_
    refine dss_one (ds_append' n5 (de_addS (mm := false) (de_addS (mm := false) (de_cutS (mm := false) (nv false n3) (do_none) (do_some (nv false n4))) (nv false n7)) (de_cutS (mm := false) (nv false n3) (do_some (de_add (mm := false) (nv false n4) (de_int (m := false)))) (do_none))))
  refine dss_frz (g := k__law_words_3) 5 ?_
  refine dss_one (ds_retF (df_cat (nv false n5) (DF.share (m := false) (df_lst (da_cons (de_addS (mm := false) (nv false n3) (de_ixS (mm := false) (nv false n1) (de_mod (mm := false) (de_call' F__law_mix (hr.mono (by decide)) gg__law_mix (da_cons (nv false n0) (da_cons (de_int (m := false)) (da_nil)))) (de_int (m := false))))) (da_cons (de_cutS (mm := false) (nv false n3) (do_none) (do_some (de_sub (mm := false) (nv false n2) (de_int (m := false))))) (da_nil)))))))
theorem m__law_words {f : Addr} {fd : FuncData} (F : Fun K "_law_words" "_law_words" s__law_words f fd) (hb : Binds K fd (["_law_cell"] : List Str) []) (hm : mg "_law_words" = some (.ref f)) (T : Txt mg) (F__law_mix : FnM P w K mg base 1 "_law_mix" f__law_mix) :
    FnOk P w K mg base CX0 2 f fd (["_law_cell"] : List Str) (spM K f__law_words) ∧ FnM P w K mg base 2 "_law_words" f__law_words := by
  have h := fnM_of (P := P) (w := w) (base := base) (k := 1) (g := g__law_words) F sc__law_words hb hm (by decide) fun cdv A outer s H E hr => by
    exact d__law_words (X := ((cxOf CX0 P w K mg base N__law_words "_law_words" (defScope s__law_words) f cdv A outer s H E).nox)) (hasX sc__law_words.nd) (fun _ => rfl) PassesOwn.never hr T F__law_mix
  exact h
theorem sc__law_world : FnScope N__law_world (["_law_cell"] : List Str) (defScope s__law_world) := ⟨rfl, rfl, rfl, by decide +kernel, rfl, by decide +kernel, by decide +kernel⟩
theorem d__law_world {X : Cx} (hX : Has X N__law_world (defScope s__law_world)) (hf : ∀ x, X.fn x = true) (hp : PassesOwn (model X.prog X.w) X.A X.env X.xe) (hr : Room 2 X.A) (T : Txt X.mg) (F__law_mix : FnM X.prog X.w X.K X.mg X.base 1 "_law_mix" f__law_mix) (F__law_words : FnM X.prog X.w X.K X.mg X.base 2 "_law_words" f__law_words) :
    DSs X (defBody s__law_world) g__law_world := by
  have hu := hr.units
  have n0 : Nm X 0 "_law_cell" := hX.nm (by decide +kernel)
  have gg__law_mix : Gb X "_law_mix" := hX.gb (by decide +kernel)
  have gg__law_words : Gb X "_law_words" := hX.gb (by decide +kernel)
  refine dss_one (ds_ret (de_tup (da_cons (DF.share (m := false) (df_call' F__law_words (hr.mono (by decide)) gg__law_words (da_cons (nv false n0) (da_nil)))) (da_cons (de_mod (mm := false) (de_call' F__law_mix (hr.mono (by decide)) gg__law_mix (da_cons (nv false n0) (da_cons (de_int (m := false)) (da_nil)))) (de_int (m := false))) (da_cons (de_add (mm := false) (de_int (m := false)) (de_mod (mm := false) (de_call' F__law_mix (hr.mono (by decide)) gg__law_mix (da_cons (nv false n0) (da_cons (de_int (m := false)) (da_nil)))) (de_int (m := false)))) (da_nil))))))
theorem m__law_world {f : Addr} {fd : FuncData} (F : Fun K "_law_world" "_law_world" s__law_world f fd) (hb : Binds K fd (["_law_cell"] : List Str) []) (hm : mg "_law_world" = some (.ref f)) (T : Txt mg) (F__law_mix : FnM P w K mg base 1 "_law_mix" f__law_mix) (F__law_words : FnM P w K mg base 2 "_law_words" f__law_words) :
    FnOk P w K mg base CX0 3 f fd (["_law_cell"] : List Str) (spM K f__law_world) ∧ FnM P w K mg base 3 "_law_world" f__law_world := by
  have h := fnM_of (P := P) (w := w) (base := base) (k := 2) (g := g__law_world) F sc__law_world hb hm (by decide) fun cdv A outer s H E hr => by
    exact d__law_world (X := ((cxOf CX0 P w K mg base N__law_world "_law_world" (defScope s__law_world) f cdv A outer s H E).nox)) (hasX sc__law_world.nd) (fun _ => rfl) PassesOwn.never hr T F__law_mix F__law_words
  exact h
theorem sc__law_cell_by : FnScope N__law_cell_by (["_law_world_here", "_law_number"] : List Str) (defScope s__law_cell_by) := ⟨rfl, rfl, rfl, by decide +kernel, rfl, by decide +kernel, by decide +kernel⟩
theorem d__law_cell_by {X : Cx} (hX : Has X N__law_cell_by (defScope s__law_cell_by)) (hf : ∀ x, X.fn x = true) (hp : PassesOwn (model X.prog X.w) X.A X.env X.xe) (hr : Room 0 X.A) (T : Txt X.mg)  :
    DSs X (defBody s__law_cell_by) g__law_cell_by := by
  have hu := hr.units
  have n0 : Nm X 0 "_law_world_here" := hX.nm (by decide +kernel)
  have n1 : Nm X 1 "_law_number" := hX.nm (by decide +kernel)
  have n2 : Nm X 2 "_law_words_here" := hX.nm (by decide +kernel)
  have l2 : Lc X 2 "_law_words_here" := hX.lc hf (by decide +kernel)
  have n3 : Nm X 3 "_law_start" := hX.nm (by decide +kernel)
  have l3 : Lc X 3 "_law_start" := hX.lc hf (by decide +kernel)
  have n4 : Nm X 4 "_law_step" := hX.nm (by decide +kernel)
  have l4 : Lc X 4 "_law_step" := hX.lc hf (by decide +kernel)
  refine dss_cons (ds_unpack (nv false n0) (dg_tup hX.calm (dgs_cons (dg_name' hX.nd l2) (dgs_cons (dg_name' hX.nd l3) (dgs_cons (dg_name' hX.nd l4) (dgs_nil)))) (toCons_len (toCons_len (toCons_len toNil_len))))) ?_
  refine dss_cons (ds_if (dt_eq hu (de_mod (mm := false) (nv false n1) (de_int (m := false))) (de_int (m := false))) ?_ ?_) ?_
  · refine dss_one (ds_ret (de_tup (da_cons (de_str (m := false)) (da_cons (de_add (mm := false) (de_mul (mm := false) (nv false n3) (de_div (mm := false) (de_mod (mm := false) (de_div (mm := false) (nv false n1) (de_int (m := false))) (de_int (m := false))) (de_int (m := false)))) (de_mul (mm := false) (nv false n4) (de_mod (mm := false) (de_div (mm := false) (nv false n1) (de_int (m := false))) (de_int (m := false))))) (da_nil)))))
  · exact dss_nil
  refine dss_one (ds_ret (de_tup (da_cons (de_str (m := false)) (da_cons (de_ix (nv false n2) (de_mod (mm := false) (de_div (mm := false) (nv false n1) (de_int (m := false))) (de_int (m := false)))) (da_nil)))))
theorem m__law_cell_by {f : Addr} {fd : FuncData} (F : Fun K "_law_cell_by" "_law_cell_by" s__law_cell_by f fd) (hb : Binds K fd (["_law_world_here", "_law_number"] : List Str) []) (hm : mg "_law_cell_by" = some (.ref f)) (T : Txt mg)  :
    FnOk P w K mg base CX0 1 f fd (["_law_world_here", "_law_number"] : List Str) (spM K f__law_cell_by) ∧ FnM P w K mg base 1 "_law_cell_by" f__law_cell_by := by
  have h := fnM_of (P := P) (w := w) (base := base) (k := 0) (g := g__law_cell_by) F sc__law_cell_by hb hm (by decide) fun cdv A outer s H E hr => by
    exact d__law_cell_by (X := ((cxOf CX0 P w K mg base N__law_cell_by "_law_cell_by" (defScope s__law_cell_by) f cdv A outer s H E).nox)) (hasX sc__law_cell_by.nd) (fun _ => rfl) PassesOwn.never hr T 
  exact h
theorem sc__law_row : FnScope N__law_row (["_law_world_here", "_law_cell"] : List Str) (defScope s__law_row) := ⟨rfl, rfl, rfl, by decide +kernel, rfl, by decide +kernel, by decide +kernel⟩
theorem d__law_row {X : Cx} (hX : Has X N__law_row (defScope s__law_row)) (hf : ∀ x, X.fn x = true) (hp : PassesOwn (model X.prog X.w) X.A X.env X.xe) (hr : Room 1 X.A) (T : Txt X.mg) (F__law_mix : FnM X.prog X.w X.K X.mg X.base 1 "_law_mix" f__law_mix) (F__law_cell_by : FnM X.prog X.w X.K X.mg X.base 1 "_law_cell_by" f__law_cell_by) :
    DSs X (defBody s__law_row) g__law_row := by
  have hu := hr.units
  have n0 : Nm X 0 "_law_world_here" := hX.nm (by decide +kernel)
  have n1 : Nm X 1 "_law_cell" := hX.nm (by decide +kernel)
  have n2 : Nm X 2 "_law_size" := hX.nm (by decide +kernel)
  have l2 : Lc X 2 "_law_size" := hX.lc hf (by decide +kernel)
  have n3 : Nm X 3 "_law_cells" := hX.nm (by decide +kernel)
  have l3 : Lc X 3 "_law_cells" := hX.lc hf (by decide +kernel)
  have gg__law_mix : Gb X "_law_mix" := hX.gb (by decide +kernel)
  have gg_range : Gb X "range" := hX.gb (by decide +kernel)
  have gg_tuple : Gb X "tuple" := hX.gb (by decide +kernel)
  refine dss_cons (ds_set' hX.nd l2 (de_add (mm := false) (de_int (m := false)) (de_mod (mm := false) (de_call' F__law_mix (hr.mono (by decide)) gg__law_mix (da_cons (nv false n1) (da_cons (de_int (m := false)) (da_nil)))) (de_int (m := false))))) ?_
  refine dss_cons (ds_setc' hX l3 (anew_name 4) (di_rng1 (mm := false) gg_range.gl T.b_range (nv false n2)) (CompScope.of' hX (by decide +kernel)) (fun cl C s₂ H₂ ex pn => dg_name' (hX.comp _ cl C s₂ H₂ ex pn).nd ((hX.comp _ cl C s₂ H₂ ex pn).lcl (i := 4) (by decide +kernel))) (fun cl C s₂ H₂ ex pn => dts_nil) (fun cl C s₂ H₂ ex pn => de_call' F__law_cell_by (hr.mono (by decide)) ((hX.comp _ cl C s₂ H₂ ex pn).gb (x := "_law_cell_by") (by decide +kernel)) (da_cons (nv false ((hX.comp _ cl C s₂ H₂ ex pn).nm (i := 0) (by decide +kernel))) (da_cons (de_call' F__law_mix (hr.mono (by decide)) ((hX.comp _ cl C s₂ H₂ ex pn).gb (x := "_law_mix") (by decide +kernel)) (da_cons (nv false ((hX.comp _ cl C s₂ H₂ ex pn).nm (i := 1) (by decide +kernel))) (da_cons (de_add (mm := false) (de_int (m := false)) (nv false ((hX.comp _ cl C s₂ H₂ ex pn).nm (i := 4) (by decide +kernel)))) (da_nil)))) (da_nil)))) (by decide +kernel) (by decide +kernel)) ?_
  refine dss_frz (g := k__law_row_2) 3 ?_
  refine dss_one (ds_ret (de_tup (da_cons (de_ix (de_ix (nv false n0) (de_int (m := false))) (de_mod (mm := false) (de_call' F__law_mix (hr.mono (by decide)) gg__law_mix (da_cons (nv false n1) (da_cons (de_int (m := false)) (da_nil)))) (de_int (m := false)))) (da_cons (de_tuple gg_tuple.gl T.b_tuple (nv false n3)) (da_nil)))))
theorem m__law_row {f : Addr} {fd : FuncData} (F : Fun K "_law_row" "_law_row" s__law_row f fd) (hb : Binds K fd (["_law_world_here", "_law_cell"] : List Str) []) (hm : mg "_law_row" = some (.ref f)) (T : Txt mg) (F__law_mix : FnM P w K mg base 1 "_law_mix" f__law_mix) (F__law_cell_by : FnM P w K mg base 1 "_law_cell_by" f__law_cell_by) :
    FnOk P w K mg base CX0 2 f fd (["_law_world_here", "_law_cell"] : List Str) (spM K f__law_row) ∧ FnM P w K mg base 2 "_law_row" f__law_row := by
  have h := fnM_of (P := P) (w := w) (base := base) (k := 1) (g := g__law_row) F sc__law_row hb hm (by decide) fun cdv A outer s H E hr => by
    exact d__law_row (X := ((cxOf CX0 P w K mg base N__law_row "_law_row" (defScope s__law_row) f cdv A outer s H E).nox)) (hasX sc__law_row.nd) (fun _ => rfl) PassesOwn.never hr T F__law_mix F__law_cell_by
  exact h
theorem sc__law_rows : FnScope N__law_rows (["_law_world_here", "_law_script"] : List Str) (defScope s__law_rows) := ⟨rfl, rfl, rfl, by decide +kernel, rfl, by decide +kernel, by decide +kernel⟩
theorem d__law_rows {X : Cx} (hX : Has X N__law_rows (defScope s__law_rows)) (hf : ∀ x, X.fn x = true) (hp : PassesOwn (model X.prog X.w) X.A X.env X.xe) (hr : Room 2 X.A) (T : Txt X.mg) (F__law_mix : FnM X.prog X.w X.K X.mg X.base 1 "_law_mix" f__law_mix) (F__law_row : FnM X.prog X.w X.K X.mg X.base 2 "_law_row" f__law_row) :
    DSs X (defBody s__law_rows) g__law_rows := by
  have hu := hr.units
  have n0 : Nm X 0 "_law_world_here" := hX.nm (by decide +kernel)
  have n1 : Nm X 1 "_law_script" := hX.nm (by decide +kernel)
  have n2 : Nm X 2 "_law_rows_here" := hX.nm (by decide +kernel)
  have l2 : Lc X 2 "_law_rows_here" := hX.lc hf (by decide +kernel)
  have n3 : Nm X 3 "_law_cell" := hX.nm (by decide +kernel)
  have l3 : Lc X 3 "_law_cell" := hX.lc hf (by decide +kernel)
  have gg__law_mix : Gb X "_law_mix" := hX.gb (by decide +kernel)
  have gg__law_row : Gb X "_law_row" := hX.gb (by decide +kernel)
  have gg_len : Gb X "len" := hX.gb (by decide +kernel)
  refine dss_cons (ds_setF' hX.nd l2 (df_lst (da_nil))) ?_
  refine dss_cons (ds_for (gb := b__law_rows_1) hp hX.calm (di_list (nv false n1)) (dg_name' hX.nd l3) ?_) ?_
  · refine dss_one (ds_if (PW.pt (dw_and (dt_ne hu (nv true n2) (DF.share (m := false) (df_lst (da_nil)))) (dw_and1 (dt_eq hu (de_mod (mm := false) (de_call' F__law_mix (hr.mono (by decide)) gg__law_mix (da_cons (nv false n3) (da_cons (de_int (m := false)) (da_nil)))) (de_int (m := false))) (de_int (m := false)))))) ?_ ?_)
    · refine dss_one (ds_append' n2 (de_ixv' n2 (de_mod (mm := true) (de_call' F__law_mix (hr.mono (by decide)) gg__law_mix (da_cons (nv false n3) (da_cons (de_int (m := false)) (da_nil)))) (de_len' (mm := true) gg_len T.b_len (nv true n2)))))
    · refine dss_one (ds_if (PW.pt (dw_and (dt_ne hu (nv true n2) (DF.share (m := false) (df_lst (da_nil)))) (dw_and1 (dt_eq hu (de_mod (mm := false) (de_call' F__law_mix (hr.mono (by decide)) gg__law_mix (da_cons (nv false n3) (da_cons (de_int (m := false)) (da_nil)))) (de_int (m := false))) (de_int (m := false)))))) ?_ ?_)
      · refine dss_one (ds_append' n2 (de_ixv' n2 (de_sub (mm := true) (de_len' (mm := true) gg_len T.b_len (nv true n2)) (de_int (m := false)))))
      · refine dss_one (ds_append' n2 (de_call' F__law_row (hr.mono (by decide)) gg__law_row (da_cons (nv false n0) (da_cons (nv false n3) (da_nil)))))
  refine dss_one (ds_retv' n2)
theorem m__law_rows {f : Addr} {fd : FuncData} (F : Fun K "_law_rows" "_law_rows" s__law_rows f fd) (hb : Binds K fd (["_law_world_here", "_law_script"] : List Str) []) (hm : mg "_law_rows" = some (.ref f)) (T : Txt mg) (F__law_mix : FnM P w K mg base 1 "_law_mix" f__law_mix) (F__law_row : FnM P w K mg base 2 "_law_row" f__law_row) :
    FnOk P w K mg base CX0 3 f fd (["_law_world_here", "_law_script"] : List Str) (spM K f__law_rows) ∧ FnM P w K mg base 3 "_law_rows" f__law_rows := by
  have h := fnM_of (P := P) (w := w) (base := base) (k := 2) (g := g__law_rows) F sc__law_rows hb hm (by decide) fun cdv A outer s H E hr => by
    exact d__law_rows (X := ((cxOf CX0 P w K mg base N__law_rows "_law_rows" (defScope s__law_rows) f cdv A outer s H E).nox)) (hasX sc__law_rows.nd) (fun _ => rfl) PassesOwn.never hr T F__law_mix F__law_row
  exact h
theorem sc__law_cell_before : FnScope N__law_cell_before (["_law_one", "_law_other"] : List Str) (defScope s__law_cell_before) := ⟨rfl, rfl, rfl, by decide +kernel, rfl, by decide +kernel, by decide +kernel⟩
theorem d__law_cell_before {X : Cx} (hX : Has X N__law_cell_before (defScope s__law_cell_before)) (hf : ∀ x, X.fn x = true) (hp : PassesOwn (model X.prog X.w) X.A X.env X.xe) (hr : Room 0 X.A) (T : Txt X.mg)  :
    DSs X (defBody s__law_cell_before) g__law_cell_before := by
  have hu := hr.units
  have n0 : Nm X 0 "_law_one" := hX.nm (by decide +kernel)
  have n1 : Nm X 1 "_law_other" := hX.nm (by decide +kernel)
  refine dss_cons (ds_if (dt_ne hu (de_ix (nv false n0) (de_int (m := false))) (de_ix (nv false n1) (de_int (m := false)))) ?_ ?_) ?_
  · refine dss_one (ds_ret (de_eq (mm := false) hu (de_ix (nv false n0) (de_int (m := false))) (de_str (m := false))))
  · exact dss_nil
  refine dss_one (ds_ret (de_ltV (mm := false) (by rfl) (de_ix (nv false n0) (de_int (m := false))) (de_ix (nv false n1) (de_int (m := false)))))
theorem m__law_cell_before {f : Addr} {fd : FuncData} (F : Fun K "_law_cell_before" "_law_cell_before" s__law_cell_before f fd) (hb : Binds K fd (["_law_one", "_law_other"] : List Str) []) (hm : mg "_law_cell_before" = some (.ref f)) (T : Txt mg)  :
    FnOk P w K mg base CX0 1 f fd (["_law_one", "_law_other"] : List Str) (spM K f__law_cell_before) ∧ FnM P w K mg base 1 "_law_cell_before" f__law_cell_before := by
  have h := fnM_of (P := P) (w := w) (base := base) (k := 0) (g := g__law_cell_before) F sc__law_cell_before hb hm (by decide) fun cdv A outer s H E hr => by
    exact d__law_cell_before (X := ((cxOf CX0 P w K mg base N__law_cell_before "_law_cell_before" (defScope s__law_cell_before) f cdv A outer s H E).nox)) (hasX sc__law_cell_before.nd) (fun _ => rfl) PassesOwn.never hr T 
  exact h
theorem sc__law_before : FnScope N__law_before (["_law_one", "_law_other"] : List Str) (defScope s__law_before) := ⟨rfl, rfl, rfl, by decide +kernel, rfl, by decide +kernel, by decide +kernel⟩
theorem d__law_before {X : Cx} (hX : Has X N__law_before (defScope s__law_before)) (hf : ∀ x, X.fn x = true) (hp : PassesOwn (model X.prog X.w) X.A X.env X.xe) (hr : Room 1 X.A) (T : Txt X.mg) (F__law_cell_before : FnM X.prog X.w X.K X.mg X.base 1 "_law_cell_before" f__law_cell_before) :
    DSs X (defBody s__law_before) g__law_before := by
  have hu := hr.units
  have n0 : Nm X 0 "_law_one" := hX.nm (by decide +kernel)
  have n1 : Nm X 1 "_law_other" := hX.nm (by decide +kernel)
  have n2 : Nm X 2 "_law_x" := hX.nm (by decide +kernel)
  have l2 : Lc X 2 "_law_x" := hX.lc hf (by decide +kernel)
  have n3 : Nm X 3 "_law_y" := hX.nm (by decide +kernel)
  have l3 : Lc X 3 "_law_y" := hX.lc hf (by decide +kernel)
  have gg__law_cell_before : Gb X "_law_cell_before" := hX.gb (by decide +kernel)
  have gg_len : Gb X "len" := hX.gb (by decide +kernel)
  have gg_zip : Gb X "zip" := hX.gb (by decide +kernel)
  refine dss_cons (ds_if (dt_ne hu (de_ix (nv false n0) (de_int (m := false))) (de_ix (nv false n1) (de_int (m := false)))) ?_ ?_) ?_
  · refine dss_one (ds_ret (de_ltV (mm := false) (by rfl) (de_ix (nv false n0) (de_int (m := false))) (de_ix (nv false n1) (de_int (m := false)))))
  · exact dss_nil
  refine dss_cons (ds_for (gb := b__law_before_1) hp hX.calm (di_zip (t := true) (u := true) gg_zip.gl T.b_zip (de_ix (nv false n0) (de_int (m := false))) (de_ix (nv false n1) (de_int (m := false)))) (dg_tup hX.calm (dgs_cons (dg_name' hX.nd l2) (dgs_cons (dg_name' hX.nd l3) (dgs_nil))) (toCons_len (toCons_len toNil_len))) ?_) ?_
  · refine dss_one (ds_if (dt_ne hu (nv false n2) (nv false n3)) ?_ ?_)
    · refine dss_one (ds_ret (de_call' F__law_cell_before (hr.mono (by decide)) gg__law_cell_before (da_cons (nv false n2) (da_cons (nv false n3) (da_nil)))))
    · exact dss_nil
  refine dss_one (ds_ret (de_cmp (mm := false) op_lt (by rfl) (de_len' (mm := false) gg_len T.b_len (de_ix (nv false n0) (de_int (m := false)))) (de_len' (mm := false) gg_len T.b_len (de_ix (nv false n1) (de_int (m := false))))))
theorem m__law_before {f : Addr} {fd : FuncData} (F : Fun K "_law_before" "_law_before" s__law_before f fd) (hb : Binds K fd (["_law_one", "_law_other"] : List Str) []) (hm : mg "_law_before" = some (.ref f)) (T : Txt mg) (F__law_cell_before : FnM P w K mg base 1 "_law_cell_before" f__law_cell_before) :
    FnOk P w K mg base CX0 2 f fd (["_law_one", "_law_other"] : List Str) (spM K f__law_before) ∧ FnM P w K mg base 2 "_law_before" f__law_before := by
  have h := fnM_of (P := P) (w := w) (base := base) (k := 1) (g := g__law_before) F sc__law_before hb hm (by decide) fun cdv A outer s H E hr => by
    exact d__law_before (X := ((cxOf CX0 P w K mg base N__law_before "_law_before" (defScope s__law_before) f cdv A outer s H E).nox)) (hasX sc__law_before.nd) (fun _ => rfl) PassesOwn.never hr T F__law_cell_before
  exact h
theorem sc__law_is_row : FnScope N__law_is_row (["_law_found"] : List Str) (defScope s__law_is_row) := ⟨rfl, rfl, rfl, by decide +kernel, rfl, by decide +kernel, by decide +kernel⟩
theorem d__law_is_row {X : Cx} (hX : Has X N__law_is_row (defScope s__law_is_row)) (hf : ∀ x, X.fn x = true) (hp : PassesOwn (model X.prog X.w) X.A X.env X.xe) (hr : Room 1 X.A) (T : Txt X.mg) (F__law_whole : FnM X.prog X.w X.K X.mg X.base 1 "_law_whole" f__law_whole) :
    DSs X (defBody s__law_is_row) g__law_is_row := by
  have hu := hr.units
  have n0 : Nm X 0 "_law_found" := hX.nm (by decide +kernel)
  have n1 : Nm X 1 "_law_cell" := hX.nm (by decide +kernel)
  have l1 : Lc X 1 "_law_cell" := hX.lc hf (by decide +kernel)
  have gg__law_whole : Gb X "_law_whole" := hX.gb (by decide +kernel)
  have gg_isinstance : Gb X "isinstance" := hX.gb (by decide +kernel)
  have gg_len : Gb X "len" := hX.gb (by decide +kernel)
  have gg_str : Gb X "str" := hX.gb (by decide +kernel)
  have gg_tuple : Gb X "tuple" := hX.gb (by decide +kernel)
  refine dss_cons (ds_if (PW.pt (dw_or (dt_not (dt_val (de_isi (mm := false) (cs := "tuple") (by simp) gg_isinstance.gl T.b_isinstance gg_tuple.gl T.b_tuple bt_tuple (nv false n0)))) (dw_or (dt_ne hu (de_len' (mm := false) gg_len T.b_len (nv false n0)) (de_int (m := false))) (dw_or1 (dt_not (dt_val (de_isi (mm := false) (cs := "str") (by simp) gg_isinstance.gl T.b_isinstance gg_str.gl T.b_str bt_str (de_ix (nv false n0) (de_int (m := false)))))))))) ?_ ?_) ?_
  · refine dss_one (ds_ret (de_bl (m := false)))
  · exact dss_nil
  refine dss_cons (ds_if (dt_not (dt_val (de_isi (mm := false) (cs := "tuple") (by simp) gg_isinstance.gl T.b_isinstance gg_tuple.gl T.b_tuple bt_tuple (de_ix (nv false n0) (de_int (m := false)))))) ?_ ?_) ?_
  · refine dss_one (ds_ret (de_bl (m := false)))
  · exact dss_nil
  refine dss_cons (ds_for (gb := b__law_is_row_1) hp hX.calm (di_tup (de_ix (nv false n0) (de_int (m := false)))) (dg_name' hX.nd l1) ?_) ?_
  · refine dss_cons (ds_if (PW.pt (dw_or (dt_not (dt_val (de_isi (mm := false) (cs := "tuple") (by simp) gg_isinstance.gl T.b_isinstance gg_tuple.gl T.b_tuple bt_tuple (nv false n1)))) (dw_or (dt_ne hu (de_len' (mm := false) gg_len T.b_len (nv false n1)) (de_int (m := false))) (dw_or1 (dt_not (dt_val (de_isi (mm := false) (cs := "str") (by simp) gg_isinstance.gl T.b_isinstance gg_str.gl T.b_str bt_str (de_ix (nv false n1) (de_int (m := false)))))))))) ?_ ?_) ?_
    · refine dss_one (ds_ret (de_bl (m := false)))
    · exact dss_nil
    refine dss_one (ds_if (PW.pt (dw_and (dt_not (dt_val (de_call' F__law_whole (hr.mono (by decide)) gg__law_whole (da_cons (de_ix (nv false n1) (de_int (m := false))) (da_nil))))) (dw_and1 (dt_not (dt_val (de_isi (mm := false) (cs := "str") (by simp) gg_isinstance.gl T.b_isinstance gg_str.gl T.b_str bt_str (de_ix (nv false n1) (de_int (m := false))))))))) ?_ ?_)
    · refine dss_one (ds_ret (de_bl (m := false)))
    · exact dss_nil
  refine dss_one (ds_ret (de_bl (m := false)))
theorem m__law_is_row {f : Addr} {fd : FuncData} (F : Fun K "_law_is_row" "_law_is_row" s__law_is_row f fd) (hb : Binds K fd (["_law_found"] : List Str) []) (hm : mg "_law_is_row" = some (.ref f)) (T : Txt mg) (F__law_whole : FnM P w K mg base 1 "_law_whole" f__law_whole) :
    FnOk P w K mg base CX0 2 f fd (["_law_found"] : List Str) (spM K f__law_is_row) ∧ FnM P w K mg base 2 "_law_is_row" f__law_is_row := by
  have h := fnM_of (P := P) (w := w) (base := base) (k := 1) (g := g__law_is_row) F sc__law_is_row hb hm (by decide) fun cdv A outer s H E hr => by
    exact d__law_is_row (X := ((cxOf CX0 P w K mg base N__law_is_row "_law_is_row" (defScope s__law_is_row) f cdv A outer s H E).nox)) (hasX sc__law_is_row.nd) (fun _ => rfl) PassesOwn.never hr T F__law_whole
  exact h
theorem sc__law_right : FnScope N__law_right (["_law_found", "_law_rows_here"] : List Str) (defScope s__law_right) := ⟨rfl, rfl, rfl, by decide +kernel, rfl, by decide +kernel, by decide +kernel⟩
theorem d__law_right {X : Cx} (hX : Has X N__law_right (defScope s__law_right)) (hf : ∀ x, X.fn x = true) (hp : PassesOwn (model X.prog X.w) X.A X.env X.xe) (hr : Room 2 X.A) (T : Txt X.mg) (F__law_before : FnM X.prog X.w X.K X.mg X.base 2 "_law_before" f__law_before) (F__law_is_row : FnM X.prog X.w X.K X.mg X.base 2 "_law_is_row" f__law_is_row) :
    DSs X (defBody s__law_right) g__law_right := by
  have hu := hr.units
  have n0 : Nm X 0 "_law_found" := hX.nm (by decide +kernel)
  have n1 : Nm X 1 "_law_rows_here" := hX.nm (by decide +kernel)
  have n2 : Nm X 2 "_law_row_here" := hX.nm (by decide +kernel)
  have l2 : Lc X 2 "_law_row_here" := hX.lc hf (by decide +kernel)
  have n3 : Nm X 3 "_law_k" := hX.nm (by decide +kernel)
  have l3 : Lc X 3 "_law_k" := hX.lc hf (by decide +kernel)
  have gg__law_before : Gb X "_law_before" := hX.gb (by decide +kernel)
  have gg__law_is_row : Gb X "_law_is_row" := hX.gb (by decide +kernel)
  have gg_isinstance : Gb X "isinstance" := hX.gb (by decide +kernel)
  have gg_len : Gb X "len" := hX.gb (by decide +kernel)
  have gg_list : Gb X "list" := hX.gb (by decide +kernel)
  have gg_range : Gb X "range" := hX.gb (by decide +kernel)
  refine dss_cons (ds_if (dt_not (dt_val (de_isi (mm := false) (cs := "list") (by simp) gg_isinstance.gl T.b_isinstance gg_list.gl T.b_list bt_list (nv false n0)))) ?_ ?_) ?_
  · refine dss_one (ds_ret (de_bl (m := false)))
  · exact dss_nil
  refine dss_cons (ds_for (gb := b__law_right_1) hp hX.calm (di_list (nv false n0)) (dg_name' hX.nd l2) ?_) ?_
  · refine dss_one (ds_if (PW.pt (dw_or (dt_not (dt_val (de_call' F__law_is_row (hr.mono (by decide)) gg__law_is_row (da_cons (nv false n2) (da_nil))))) (dw_or1 (dt_notIn hu (nv false n2) (nv false n1))))) ?_ ?_)
    · refine dss_one (ds_ret (de_bl (m := false)))
    · exact dss_nil
  refine dss_cons (ds_for (gb := b__law_right_2) hp hX.calm (di_list (nv false n1)) (dg_name' hX.nd l2) ?_) ?_
  · refine dss_one (ds_if (dt_notIn hu (nv false n2) (nv false n0)) ?_ ?_)
    · refine dss_one (ds_ret (de_bl (m := false)))
    · exact dss_nil
  refine dss_cons (ds_for (gb := b__law_right_3) hp hX.calm (di_rng2 (mm := false) gg_range.gl T.b_range (de_int (m := false)) (de_len' (mm := false) gg_len T.b_len (nv false n0))) (dg_name' hX.nd l3) ?_) ?_
  · refine dss_one (ds_if (dt_not (dt_val (de_call' F__law_before (hr.mono (by decide)) gg__law_before (da_cons (de_ix (nv false n0) (de_sub (mm := false) (nv false n3) (de_int (m := false)))) (da_cons (de_ix (nv false n0) (nv false n3)) (da_nil)))))) ?_ ?_)
    · refine dss_one (ds_ret (de_bl (m := false)))
    · exact dss_nil
  refine dss_one (ds_ret (de_bl (m := false)))
theorem m__law_right {f : Addr} {fd : FuncData} (F : Fun K "_law_right" "_law_right" s__law_right f fd) (hb : Binds K fd (["_law_found", "_law_rows_here"] : List Str) []) (hm : mg "_law_right" = some (.ref f)) (T : Txt mg) (F__law_before : FnM P w K mg base 2 "_law_before" f__law_before) (F__law_is_row : FnM P w K mg base 2 "_law_is_row" f__law_is_row) :
    FnOk P w K mg base CX0 3 f fd (["_law_found", "_law_rows_here"] : List Str) (spM K f__law_right) ∧ FnM P w K mg base 3 "_law_right" f__law_right := by
  have h := fnM_of (P := P) (w := w) (base := base) (k := 2) (g := g__law_right) F sc__law_right hb hm (by decide) fun cdv A outer s H E hr => by
    exact d__law_right (X := ((cxOf CX0 P w K mg base N__law_right "_law_right" (defScope s__law_right) f cdv A outer s H E).nox)) (hasX sc__law_right.nd) (fun _ => rfl) PassesOwn.never hr T F__law_before F__law_is_row
  exact h
theorem sc_law : FnScope N_law (["_law_script"] : List Str) (defScope s_law) := ⟨rfl, rfl, rfl, by decide +kernel, rfl, by decide +kernel, by decide +kernel⟩
theorem d_law {X : Cx} (hX : Has X N_law (defScope s_law)) (hf : ∀ x, X.fn x = true) (hp : PassesOwn (model X.prog X.w) X.A X.env X.xe) (hr : Room 3 X.A) (T : Txt X.mg) (F_stand_of : FnM X.prog X.w X.K X.mg X.base 1 "stand_of" f_stand_of) (F__law_world : FnM X.prog X.w X.K X.mg X.base 3 "_law_world" f__law_world) (F__law_rows : FnM X.prog X.w X.K X.mg X.base 3 "_law_rows" f__law_rows) (F__law_right : FnM X.prog X.w X.K X.mg X.base 3 "_law_right" f__law_right) :
    DSs X (defBody s_law) g_law := by
  have hu := hr.units
  have n0 : Nm X 0 "_law_script" := hX.nm (by decide +kernel)
  have n1 : Nm X 1 "_law_cells" := hX.nm (by decide +kernel)
  have l1 : Lc X 1 "_law_cells" := hX.lc hf (by decide +kernel)
  have n2 : Nm X 2 "_law_world_here" := hX.nm (by decide +kernel)
  have l2 : Lc X 2 "_law_world_here" := hX.lc hf (by decide +kernel)
  have n3 : Nm X 3 "_law_rows_here" := hX.nm (by decide +kernel)
  have l3 : Lc X 3 "_law_rows_here" := hX.lc hf (by decide +kernel)
  have n4 : Nm X 4 "_law_kept" := hX.nm (by decide +kernel)
  have l4 : Lc X 4 "_law_kept" := hX.lc hf (by decide +kernel)
  have n5 : Nm X 5 "_law_found" := hX.nm (by decide +kernel)
  have l5 : Lc X 5 "_law_found" := hX.lc hf (by decide +kernel)
  have n6 : Nm X 6 "_law_again" := hX.nm (by decide +kernel)
  have l6 : Lc X 6 "_law_again" := hX.lc hf (by decide +kernel)
  have gg__law_right : Gb X "_law_right" := hX.gb (by decide +kernel)
  have gg__law_rows : Gb X "_law_rows" := hX.gb (by decide +kernel)
  have gg__law_world : Gb X "_law_world" := hX.gb (by decide +kernel)
  have gg_len : Gb X "len" := hX.gb (by decide +kernel)
  have gg_list : Gb X "list" := hX.gb (by decide +kernel)
  have gg_stand_of : Gb X "stand_of" := hX.gb (by decide +kernel)
  have gg_sum : Gb X "sum" := hX.gb (by decide +kernel)
  refine dss_cons (ds_set' hX.nd l1 (DF.share (m := false) (df_cutL (nv false n0) (do_none) (do_some (de_int (m := false)))))) ?_
  refine dss_cons (ds_set' hX.nd l2 (de_call' F__law_world (hr.mono (by decide)) gg__law_world (da_cons (de_mod (mm := false) (de_sum (mm := false) hX.calm gg_sum.gl T.b_sum (nv false n1)) (de_int (m := false))) (da_nil)))) ?_
  refine dss_cons (ds_set' hX.nd l3 (DF.share (m := false) (df_call' F__law_rows (hr.mono (by decide)) gg__law_rows (da_cons (nv false n2) (da_cons (nv false n1) (da_nil)))))) ?_
  refine dss_cons (ds_set' hX.nd l4 (DF.share (m := false) (df_list gg_list.gl T.b_list (nv false n3)))) ?_
  refine dss_cons (ds_setF' hX.nd l5 (df_call' F_stand_of (hr.mono (by decide)) gg_stand_of (da_cons (nv false n3) (da_nil)))) ?_
  refine dss_cons (ds_if (PW.pt (dw_or (dt_not (dt_val (de_call' F__law_right (hr.mono (by decide)) gg__law_right (da_cons (nv true n5) (da_cons (nv true n4) (da_nil)))))) (dw_or1 (dt_ne hu (nv false n3) (nv false n4))))) ?_ ?_) ?_
  · refine dss_one (ds_ret (de_bl (m := false)))
  · exact dss_nil
  refine dss_cons (ds_set' hX.nd l6 (DF.share (m := false) (df_callF' F_stand_of (hr.mono (by decide)) gg_stand_of (da_cons (nv true n5) (da_nil))))) ?_
  refine dss_cons (ds_if (PW.pt (dw_or (dt_ne hu (nv false n6) (nv true n5)) (dw_or1 (dt_ne hu (DF.share (m := false) (df_call' F_stand_of (hr.mono (by decide)) gg_stand_of (da_cons (DF.share (m := false) (df_rev (nv false n3))) (da_nil)))) (nv true n5))))) ?_ ?_) ?_
  · refine dss_one (ds_ret (de_bl (m := false)))
  · exact dss_nil
  refine dss_cons (ds_append' n5 (de_non (m := false))) ?_
  refine dss_one (ds_ret (de_and (mm := false) (de_eq (mm := false) hu (nv false n3) (nv false n4)) (de_one (de_eq (mm := false) hu (de_len' (mm := false) gg_len T.b_len (nv false n6)) (de_sub (mm := true) (de_len' (mm := true) gg_len T.b_len (nv true n5)) (de_int (m := false)))))))
theorem m_law {f : Addr} {fd : FuncData} (F : Fun K "law" "law" s_law f fd) (hb : Binds K fd (["_law_script"] : List Str) []) (hm : mg "law" = some (.ref f)) (T : Txt mg) (F_stand_of : FnM P w K mg base 1 "stand_of" f_stand_of) (F__law_world : FnM P w K mg base 3 "_law_world" f__law_world) (F__law_rows : FnM P w K mg base 3 "_law_rows" f__law_rows) (F__law_right : FnM P w K mg base 3 "_law_right" f__law_right) :
    FnOk P w K mg base CX0 4 f fd (["_law_script"] : List Str) (spM K f_law) ∧ FnM P w K mg base 4 "law" f_law := by
  have h := fnM_of (P := P) (w := w) (base := base) (k := 3) (g := g_law) F sc_law hb hm (by decide) fun cdv A outer s H E hr => by
    exact d_law (X := ((cxOf CX0 P w K mg base N_law "law" (defScope s_law) f cdv A outer s H E).nox)) (hasX sc_law.nd) (fun _ => rfl) PassesOwn.never hr T F_stand_of F__law_world F__law_rows F__law_right
  exact h
end

theorem all_mk {l : PySem.W.OpenLaw} {w : World} {K : PySem.W.Frag} {h : Heap} {mg : Str → Option Value} {fa f0 f1 f2 f3 f4 f5 f6 f7 f8 f9 f10 f11 f12 : Addr} (X : K.In h) (G : h.Ns mainGlobals mg) (hfa : mg "law" = some (.ref fa))
    {od0 an0 od1 an1 od2 an2 od3 an3 od4 an4 od5 an5 od6 an6 od7 an7 od8 an8 od9 an9 od10 an10 od11 an11 od12 an12 : Option Addr} {sl0 sl1 sl2 sl3 sl4 sl5 sl6 sl7 sl8 sl9 sl10 sl11 sl12 : Array (Option Value)} {oc0 kV0 dc0 pm0 cd0 ct0 oc1 kV1 dc1 pm1 cd1 ct1 oc2 kV2 dc2 pm2 cd2 ct2 oc3 kV3 dc3 pm3 cd3 ct3 oc4 kV4 dc4 pm4 cd4 ct4 oc5 kV5 dc5 pm5 cd5 ct5 oc6 kV6 dc6 pm6 cd6 ct6 oc7 kV7 dc7 pm7 cd7 ct7 oc8 kV8 dc8 pm8 cd8 ct8 oc9 kV9 dc9 pm9 cd9 ct9 oc10 kV10 dc10 pm10 cd10 ct10 oc11 kV11 dc11 pm11 cd11 ct11 oc12 kV12 dc12 pm12 cd12 ct12 : Value}
    (a0 : PySem.W.nsIn K mainGlobals "stand_of" = some (some (.ref f0))) (l0 : K.lookup f0 = some ⟨oc0, od0, .func (PySem.W.fnOf "stand_of" "stand_of" (defArgs s_stand_of) (defBody s_stand_of) (defScope s_stand_of) .none kV0 dc0 pm0 an0 cd0 ct0), sl0⟩) (c0 : PySem.W.codeIn K cd0 "stand_of" = true) (k0 : PySem.W.keepIn K (.ref f0) = true)
    (a1 : PySem.W.nsIn K mainGlobals "_law_whole" = some (some (.ref f1))) (l1 : K.lookup f1 = some ⟨oc1, od1, .func (PySem.W.fnOf "_law_whole" "_law_whole" (defArgs s__law_whole) (defBody s__law_whole) (defScope s__law_whole) .none kV1 dc1 pm1 an1 cd1 ct1), sl1⟩) (c1 : PySem.W.codeIn K cd1 "_law_whole" = true) (k1 : PySem.W.keepIn K (.ref f1) = true)
    (a2 : PySem.W.nsIn K mainGlobals "_law_mix" = some (some (.ref f2))) (l2 : K.lookup f2 = some ⟨oc2, od2, .func (PySem.W.fnOf "_law_mix" "_law_mix" (defArgs s__law_mix) (defBody s__law_mix) (defScope s__law_mix) .none kV2 dc2 pm2 an2 cd2 ct2), sl2⟩) (c2 : PySem.W.codeIn K cd2 "_law_mix" = true) (k2 : PySem.W.keepIn K (.ref f2) = true)
    (a3 : PySem.W.nsIn K mainGlobals "_law_words" = some (some (.ref f3))) (l3 : K.lookup f3 = some ⟨oc3, od3, .func (PySem.W.fnOf "_law_words" "_law_words" (defArgs s__law_words) (defBody s__law_words) (defScope s__law_words) .none kV3 dc3 pm3 an3 cd3 ct3), sl3⟩) (c3 : PySem.W.codeIn K cd3 "_law_words" = true) (k3 : PySem.W.keepIn K (.ref f3) = true)
    (a4 : PySem.W.nsIn K mainGlobals "_law_world" = some (some (.ref f4))) (l4 : K.lookup f4 = some ⟨oc4, od4, .func (PySem.W.fnOf "_law_world" "_law_world" (defArgs s__law_world) (defBody s__law_world) (defScope s__law_world) .none kV4 dc4 pm4 an4 cd4 ct4), sl4⟩) (c4 : PySem.W.codeIn K cd4 "_law_world" = true) (k4 : PySem.W.keepIn K (.ref f4) = true)
    (a5 : PySem.W.nsIn K mainGlobals "_law_cell_by" = some (some (.ref f5))) (l5 : K.lookup f5 = some ⟨oc5, od5, .func (PySem.W.fnOf "_law_cell_by" "_law_cell_by" (defArgs s__law_cell_by) (defBody s__law_cell_by) (defScope s__law_cell_by) .none kV5 dc5 pm5 an5 cd5 ct5), sl5⟩) (c5 : PySem.W.codeIn K cd5 "_law_cell_by" = true) (k5 : PySem.W.keepIn K (.ref f5) = true)
    (a6 : PySem.W.nsIn K mainGlobals "_law_row" = some (some (.ref f6))) (l6 : K.lookup f6 = some ⟨oc6, od6, .func (PySem.W.fnOf "_law_row" "_law_row" (defArgs s__law_row) (defBody s__law_row) (defScope s__law_row) .none kV6 dc6 pm6 an6 cd6 ct6), sl6⟩) (c6 : PySem.W.codeIn K cd6 "_law_row" = true) (k6 : PySem.W.keepIn K (.ref f6) = true)
    (a7 : PySem.W.nsIn K mainGlobals "_law_rows" = some (some (.ref f7))) (l7 : K.lookup f7 = some ⟨oc7, od7, .func (PySem.W.fnOf "_law_rows" "_law_rows" (defArgs s__law_rows) (defBody s__law_rows) (defScope s__law_rows) .none kV7 dc7 pm7 an7 cd7 ct7), sl7⟩) (c7 : PySem.W.codeIn K cd7 "_law_rows" = true) (k7 : PySem.W.keepIn K (.ref f7) = true)
    (a8 : PySem.W.nsIn K mainGlobals "_law_cell_before" = some (some (.ref f8))) (l8 : K.lookup f8 = some ⟨oc8, od8, .func (PySem.W.fnOf "_law_cell_before" "_law_cell_before" (defArgs s__law_cell_before) (defBody s__law_cell_before) (defScope s__law_cell_before) .none kV8 dc8 pm8 an8 cd8 ct8), sl8⟩) (c8 : PySem.W.codeIn K cd8 "_law_cell_before" = true) (k8 : PySem.W.keepIn K (.ref f8) = true)
    (a9 : PySem.W.nsIn K mainGlobals "_law_before" = some (some (.ref f9))) (l9 : K.lookup f9 = some ⟨oc9, od9, .func (PySem.W.fnOf "_law_before" "_law_before" (defArgs s__law_before) (defBody s__law_before) (defScope s__law_before) .none kV9 dc9 pm9 an9 cd9 ct9), sl9⟩) (c9 : PySem.W.codeIn K cd9 "_law_before" = true) (k9 : PySem.W.keepIn K (.ref f9) = true)
    (a10 : PySem.W.nsIn K mainGlobals "_law_is_row" = some (some (.ref f10))) (l10 : K.lookup f10 = some ⟨oc10, od10, .func (PySem.W.fnOf "_law_is_row" "_law_is_row" (defArgs s__law_is_row) (defBody s__law_is_row) (defScope s__law_is_row) .none kV10 dc10 pm10 an10 cd10 ct10), sl10⟩) (c10 : PySem.W.codeIn K cd10 "_law_is_row" = true) (k10 : PySem.W.keepIn K (.ref f10) = true)
    (a11 : PySem.W.nsIn K mainGlobals "_law_right" = some (some (.ref f11))) (l11 : K.lookup f11 = some ⟨oc11, od11, .func (PySem.W.fnOf "_law_right" "_law_right" (defArgs s__law_right) (defBody s__law_right) (defScope s__law_right) .none kV11 dc11 pm11 an11 cd11 ct11), sl11⟩) (c11 : PySem.W.codeIn K cd11 "_law_right" = true) (k11 : PySem.W.keepIn K (.ref f11) = true)
    (a12 : PySem.W.nsIn K mainGlobals "law" = some (some (.ref f12))) (l12 : K.lookup f12 = some ⟨oc12, od12, .func (PySem.W.fnOf "law" "law" (defArgs s_law) (defBody s_law) (defScope s_law) .none kV12 dc12 pm12 an12 cd12 ct12), sl12⟩) (c12 : PySem.W.codeIn K cd12 "law" = true) (k12 : PySem.W.keepIn K (.ref f12) = true)
    (z_bool : PySem.W.nsIn K mainGlobals "bool" = some none) (z_int : PySem.W.nsIn K mainGlobals "int" = some none) (z_isinstance : PySem.W.nsIn K mainGlobals "isinstance" = some none) (z_len : PySem.W.nsIn K mainGlobals "len" = some none) (z_list : PySem.W.nsIn K mainGlobals "list" = some none) (z_range : PySem.W.nsIn K mainGlobals "range" = some none) (z_set : PySem.W.nsIn K mainGlobals "set" = some none) (z_sorted : PySem.W.nsIn K mainGlobals "sorted" = some none) (z_str : PySem.W.nsIn K mainGlobals "str" = some none) (z_sum : PySem.W.nsIn K mainGlobals "sum" = some none) (z_tuple : PySem.W.nsIn K mainGlobals "tuple" = some none) (z_zip : PySem.W.nsIn K mainGlobals "zip" = some none) :
    ∃ fd : FuncData, (∀ (s : Shared) (v : Value), BindsTo s fd ⟨[v], []⟩ [("_law_script", v)]) ∧ ∀ base : Heap, K.In base → base.Ns mainGlobals mg → FnOk l.prog w K mg base CX0 4 fa fd ["_law_script"] (spM K f_law) := by
  have e := hfa.symm.trans (PySem.W.mg_of X G a12)
  cases e
  have T : Txt mg := ⟨PySem.W.mg_none_of X G z_bool, PySem.W.mg_none_of X G z_int, PySem.W.mg_none_of X G z_isinstance, PySem.W.mg_none_of X G z_len, PySem.W.mg_none_of X G z_list, PySem.W.mg_none_of X G z_range, PySem.W.mg_none_of X G z_set, PySem.W.mg_none_of X G z_sorted, PySem.W.mg_none_of X G z_str, PySem.W.mg_none_of X G z_sum, PySem.W.mg_none_of X G z_tuple, PySem.W.mg_none_of X G z_zip⟩
  have G0 := fun_mk (st := s_stand_of) l0 c0 k0
  have b0 := G0.binds (ps := ["rows"]) fun _ _ _ _ _ _ us hl => match us, hl with | [_], _ => rfl
  have G1 := fun_mk (st := s__law_whole) l1 c1 k1
  have b1 := G1.binds (ps := ["_law_found"]) fun _ _ _ _ _ _ us hl => match us, hl with | [_], _ => rfl
  have G2 := fun_mk (st := s__law_mix) l2 c2 k2
  have b2 := G2.binds (ps := ["_law_cell", "_law_j"]) fun _ _ _ _ _ _ us hl => match us, hl with | [_, _], _ => rfl
  have G3 := fun_mk (st := s__law_words) l3 c3 k3
  have b3 := G3.binds (ps := ["_law_cell"]) fun _ _ _ _ _ _ us hl => match us, hl with | [_], _ => rfl
  have G4 := fun_mk (st := s__law_world) l4 c4 k4
  have b4 := G4.binds (ps := ["_law_cell"]) fun _ _ _ _ _ _ us hl => match us, hl with | [_], _ => rfl
  have G5 := fun_mk (st := s__law_cell_by) l5 c5 k5
  have b5 := G5.binds (ps := ["_law_world_here", "_law_number"]) fun _ _ _ _ _ _ us hl => match us, hl with | [_, _], _ => rfl
  have G6 := fun_mk (st := s__law_row) l6 c6 k6
  have b6 := G6.binds (ps := ["_law_world_here", "_law_cell"]) fun _ _ _ _ _ _ us hl => match us, hl with | [_, _], _ => rfl
  have G7 := fun_mk (st := s__law_rows) l7 c7 k7
  have b7 := G7.binds (ps := ["_law_world_here", "_law_script"]) fun _ _ _ _ _ _ us hl => match us, hl with | [_, _], _ => rfl
  have G8 := fun_mk (st := s__law_cell_before) l8 c8 k8
  have b8 := G8.binds (ps := ["_law_one", "_law_other"]) fun _ _ _ _ _ _ us hl => match us, hl with | [_, _], _ => rfl
  have G9 := fun_mk (st := s__law_before) l9 c9 k9
  have b9 := G9.binds (ps := ["_law_one", "_law_other"]) fun _ _ _ _ _ _ us hl => match us, hl with | [_, _], _ => rfl
  have G10 := fun_mk (st := s__law_is_row) l10 c10 k10
  have b10 := G10.binds (ps := ["_law_found"]) fun _ _ _ _ _ _ us hl => match us, hl with | [_], _ => rfl
  have G11 := fun_mk (st := s__law_right) l11 c11 k11
  have b11 := G11.binds (ps := ["_law_found", "_law_rows_here"]) fun _ _ _ _ _ _ us hl => match us, hl with | [_, _], _ => rfl
  have G12 := fun_mk (st := s_law) l12 c12 k12
  have b12 := G12.binds (ps := ["_law_script"]) fun _ _ _ _ _ _ us hl => match us, hl with | [_], _ => rfl
  refine ⟨PySem.W.fnOf "law" "law" (defArgs s_law) (defBody s_law) (defScope s_law) .none kV12 dc12 pm12 an12 cd12 ct12, fun s v => .of_eq rfl, fun base _ _ => ?_⟩
  have M_stand_of := m_stand_of (P := l.prog) (w := w) (base := base) G0 b0 (PySem.W.mg_of X G a0) T 
  have M__law_whole := m__law_whole (P := l.prog) (w := w) (base := base) G1 b1 (PySem.W.mg_of X G a1) T 
  have M__law_mix := m__law_mix (P := l.prog) (w := w) (base := base) G2 b2 (PySem.W.mg_of X G a2) T 
  have M__law_words := m__law_words (P := l.prog) (w := w) (base := base) G3 b3 (PySem.W.mg_of X G a3) T M__law_mix.2
  have M__law_world := m__law_world (P := l.prog) (w := w) (base := base) G4 b4 (PySem.W.mg_of X G a4) T M__law_mix.2 M__law_words.2
  have M__law_cell_by := m__law_cell_by (P := l.prog) (w := w) (base := base) G5 b5 (PySem.W.mg_of X G a5) T 
  have M__law_row := m__law_row (P := l.prog) (w := w) (base := base) G6 b6 (PySem.W.mg_of X G a6) T M__law_mix.2 M__law_cell_by.2
  have M__law_rows := m__law_rows (P := l.prog) (w := w) (base := base) G7 b7 (PySem.W.mg_of X G a7) T M__law_mix.2 M__law_row.2
  have M__law_cell_before := m__law_cell_before (P := l.prog) (w := w) (base := base) G8 b8 (PySem.W.mg_of X G a8) T 
  have M__law_before := m__law_before (P := l.prog) (w := w) (base := base) G9 b9 (PySem.W.mg_of X G a9) T M__law_cell_before.2
  have M__law_is_row := m__law_is_row (P := l.prog) (w := w) (base := base) G10 b10 (PySem.W.mg_of X G a10) T M__law_whole.2
  have M__law_right := m__law_right (P := l.prog) (w := w) (base := base) G11 b11 (PySem.W.mg_of X G a11) T M__law_before.2 M__law_is_row.2
  have M_law := m_law (P := l.prog) (w := w) (base := base) G12 b12 (PySem.W.mg_of X G a12) T M_stand_of.2 M__law_world.2 M__law_rows.2 M__law_right.2
  exact M_law.1
end K01

end

section
set_option maxHeartbeats 1000000
namespace K01
open PySem L2

def mixI (c j : Int) : Int := ((c * (2 * j + 3) + j) % 2147483629 * ((c * (2 * j + 3) + j) % 2147483629) + 1) * 48271 % 2147483629
theorem mixI_lo (c j : Int) : 0 ≤ mixI c j := by unfold mixI; omega
theorem mixI_hi (c j : Int) : mixI c j < 2147483629 := by unfold mixI; omega
theorem mix_eq (c j : Int) (h0 : -1000 ≤ j) (h1 : j ≤ 1000) : f__law_mix [.int c, .int j] = some (.int (mixI c j), false) := by
  rw [runF_eq (f := f__law_mix) (δ := [some (.int c, false), some (.int j, false), none]) rfl rfl rfl]
  have e1 : (0 : Int) ≤ (c * (2 * j + 3) + j) % 2147483629 := by omega
  have e2 : (c * (2 * j + 3) + j) % 2147483629 < 2147483629 := by omega
  simp [g__law_mix, mulI_s c (2 * j + 3) (by omega), mulI_s ((c * (2 * j + 3) + j) % 2147483629) ((c * (2 * j + 3) + j) % 2147483629) (by omega), mixI]

theorem abc_len : Str.length "abcdefghijklmnopqrstuvwxyz" = 26 := by decide +kernel
theorem words_eq (c : Int) : ∃ ws : List Str, ws.length = 6 ∧ f__law_words [.int c] = some (.lst (ws.map .str), true) := by
  have m1 := mixI_lo c 1
  generalize hsz : 2 + mixI c 1 % 6 = sz
  have hs2 : 2 ≤ sz := by omega
  have hs7 : sz ≤ 7 := by omega
  obtain ⟨g, eg, gl, gp⟩ := compO_ex (ds := rngL 0 sz.toNat) (P := fun _ y => ∃ x : Str, x.length = 1 ∧ y = .str x)
    (h := itemO (toName 6) (fun δ => some true) e__law_words_1 [some (.int c, false), some (.str "abcdefghijklmnopqrstuvwxyz", false), none, none, none, none, none, none]) fun d hd => by
      obtain ⟨i, hi, rfl⟩ := rngL_mem hd
      have h0 := mixI_lo c (2 + (0 + (i : Int)))
      obtain ⟨x, hx, ex⟩ := ixSO_in "abcdefghijklmnopqrstuvwxyz" (mixI c (2 + (0 + (i : Int))) % 26) (by rw [abc_len]; decide) (by omega) (by rw [abc_len]; omega)
      refine ⟨.str x, ?_, x, hx, rfl⟩
      simp [itemO, e__law_words_1]
      rw [mix_eq c _ (by omega) (by omega), shO_s, modI_s _ _ (by decide)]
      have e0 : (0 : Int) + (i : Int) = i := by omega
      rw [e0] at ex
      rw [ex]
  obtain ⟨ss, rfl, hss⟩ := strs_of (Q := fun x => x.length = 1) gl gp fun d y ⟨x, hx, e⟩ => ⟨x, e, hx⟩
  rw [rngL_len, List.length_map] at gl
  have hj := joinO_s "" ss (by rw [ones_sum hss, show Str.length "" = 0 by decide +kernel]; omega)
  have hjl : (Txt.join "" ss).length = ss.length := by rw [join0_len, ones_sum hss]
  generalize Txt.join "" ss = stem at hj hjl
  have m9 := mixI_lo c 9
  generalize hat : mixI c 9 % sz = at'
  have ha0 : 0 ≤ at' := by rw [← hat]; exact Int.emod_nonneg _ (by omega)
  have ha1 : at' < sz := by rw [← hat]; exact Int.emod_lt_of_pos _ (by omega)
  have hstem : stem.length ≤ 7 := by omega
  obtain ⟨δ', el, fs, hfl, x6, x7, rfl⟩ := loopD_inv (body := fun d δ => bindO ((toName 6) d δ) b__law_words_2) (fun pre δ => ∃ fs : List Str, fs.length = pre.length ∧ ∃ x6 x7,
      δ = [some (.int c, false), some (.str "abcdefghijklmnopqrstuvwxyz", false), some (.int sz, false), some (.str stem, false), some (.int at', false), some (.lst (fs.map D.str), true), x6, x7]) (rngL 0 4) []
    [some (.int c, false), some (.str "abcdefghijklmnopqrstuvwxyz", false), some (.int sz, false), some (.str stem, false), some (.int at', false), some (.lst [], true), none, none] ⟨[], rfl, none, none, rfl⟩
    fun p d q δ hpq ⟨fs, hfs, x6, x7, e⟩ => by
      have hd : d ∈ rngL 0 4 := by
        rw [List.nil_append] at hpq; rw [← hpq]; simp
      have hp : p.length < 4 := by
        have := congrArg List.length hpq
        rw [List.nil_append, rngL_len] at this
        simp at this; omega
      obtain ⟨i, hi, rfl⟩ := rngL_mem hd
      subst e
      obtain ⟨y, hy, ey⟩ := ixSO_in stem at' (by have : lim = 1000000 := rfl
                                                 omega) ha0 (by omega)
      obtain ⟨z, hz, ez⟩ := ixSO_in "abcdefghijklmnopqrstuvwxyz" ((Txt.find "abcdefghijklmnopqrstuvwxyz" y + 7 * (0 + (i : Int))) % 26) (by rw [abc_len]; decide) (by omega) (by rw [abc_len]; omega)
      have c1 := cutS_len stem none (some at')
      have c2 := cutS_len stem (some (at' + 1)) none
      have hlim : lim = 1000000 := rfl
      refine ⟨_, .inl ?_, fs ++ [cutS stem none (some at') ++ z ++ cutS stem (some (at' + 1)) none], by simp [hfs], some (.int (0 + (i : Int)), false), some (.str z, false), rfl⟩
      have e0 : (0 : Int) + (i : Int) = i := by omega
      rw [e0] at ez ⊢
      simp [b__law_words_2, ey, ez]
      rw [cutSO_s _ _ _ (by omega), cutSO_s _ _ _ (by omega), addS_s _ _ (by omega), addS_s _ _ (by rw [Str.length_append]; omega)]
      rw [appO_s (ds := fs.map D.str) _ (by rfl) (by rw [List.length_map]; omega)]
      simp
  rw [List.nil_append, rngL_len] at hfl
  have m10 := mixI_lo c 10
  obtain ⟨z, hz, ez⟩ := ixSO_in "abcdefghijklmnopqrstuvwxyz" (mixI c 10 % 26) (by rw [abc_len]; decide) (by omega) (by rw [abc_len]; omega)
  have hlim : lim = 1000000 := rfl
  refine ⟨fs ++ [stem ++ z, cutS stem none (some (sz - 1))], by simp [hfl], ?_⟩
  rw [runF_eq (f := f__law_words) (δ := [some (.int c, false), none, none, none, none, none, none, none]) rfl rfl rfl]
  simp [g__law_words]
  rw [mix_eq c 1 (by omega) (by omega), shO_s, modI_s _ _ (by decide), addI_s, hsz]
  simp
  rw [rng1_s sz (by omega), bindO_s, runC_s (by rw [rngL_len]; omega)]
  simp [maskD]
  rw [eg, lstLim_s, hj]
  simp
  rw [mix_eq c 9 (by omega) (by omega), shO_s, modI_s _ _ (by omega), hat]
  simp
  rw [rng1_s 4 (by omega), bindO_s]
  rw [show (4 : Int).toNat = 4 from rfl]
  rw [el]
  simp [k__law_words_3]
  rw [mix_eq c 10 (by omega) (by omega), shO_s, modI_s _ _ (by decide), ez, addS_s _ _ (by omega), cutSO_s _ _ _ (by omega)]
  simp
  rw [catO_s _ _ (by simp; omega)]
  simp

theorem insD_len (x : D) : ∀ l : List D, (insD x l).length = l.length + 1
  | [] => rfl
  | y :: ys => by
    unfold insD
    split
    · simp [insD_len x ys]
    · simp
theorem insD_mem {x z : D} : ∀ {l : List D}, z ∈ insD x l → z = x ∨ z ∈ l
  | [], h => by simpa [insD] using h
  | y :: ys, h => by
    unfold insD at h
    split at h
    · rcases List.mem_cons.mp h with h | h
      · exact .inr (List.mem_cons.mpr (.inl h))
      · rcases insD_mem h with h | h
        · exact .inl h
        · exact .inr (List.mem_cons_of_mem _ h)
    · rcases List.mem_cons.mp h with h | h
      · exact .inl h
      · exact .inr h
theorem sortD_len : ∀ l : List D, (sortD l).length = l.length
  | [] => rfl
  | x :: l => by show (insD x (sortD l)).length = _; rw [insD_len, sortD_len l]; rfl
theorem sortD_mem {z : D} : ∀ {l : List D}, z ∈ sortD l → z ∈ l
  | [], h => h
  | x :: l, h => by
    rcases insD_mem (show z ∈ insD x (sortD l) from h) with h | h
    · exact List.mem_cons.mpr (.inl h)
    · exact List.mem_cons_of_mem _ (sortD_mem h)
theorem at_str {ws : List Str} {i : Int} (h0 : 0 ≤ i) (h1 : i < ws.length) : ∃ w, atI (ws.map D.str) i = some (.str w) := by
  obtain ⟨v, hv, _, e⟩ := atI_in (xs := ws.map D.str) h0 (by simpa using h1)
  obtain ⟨w, _, rfl⟩ := List.mem_map.mp hv
  exact ⟨w, e⟩
theorem maps_of {α : Type} {F : α → D} {P : D → D → Prop} {ds g : List D} {Q : α → Prop} (hl : g.length = ds.length) (h : ∀ (i : Nat) d, ds[i]? = some d → ∃ y, g[i]? = some y ∧ P d y) (hP : ∀ d y, P d y → ∃ x, y = F x ∧ Q x) : ∃ ss : List α, g = ss.map F ∧ ∀ x ∈ ss, Q x := by
  have hy : ∀ y ∈ g, ∃ x, y = F x ∧ Q x := fun y hy => by
    obtain ⟨i, hi, e⟩ := List.mem_iff_getElem.mp hy
    obtain ⟨z, ez, p⟩ := h i (ds[i]'(by omega)) (by simp [show i < ds.length by omega])
    rw [List.getElem?_eq_getElem hi] at ez
    cases ez
    rw [← e]
    exact hP _ _ p
  clear h hl
  induction g with
  | nil => exact ⟨[], rfl, by simp⟩
  | cons y g ih =>
    obtain ⟨x, e, q⟩ := hy y (List.mem_cons_self ..)
    obtain ⟨ss, e2, q2⟩ := ih fun z hz => hy z (List.mem_cons_of_mem _ hz)
    refine ⟨x :: ss, by rw [e, e2]; rfl, fun z hz => ?_⟩
    rcases List.mem_cons.mp hz with hz | hz
    · rw [hz]; exact q
    · exact q2 z hz
theorem cut_ints (ns : List Int) (l u : Option Int) : ∃ cs : List Int, cutD (ns.map D.int) l u = cs.map D.int ∧ cs.length ≤ ns.length := by
  unfold cutD
  refine ⟨_, by rw [← List.map_drop, ← List.map_take], ?_⟩
  simp; omega
theorem at_int {cs : List Int} {i : Nat} (h : i < cs.length) : atI (cs.map D.int) (i : Int) = some (.int cs[i]) := atI_nat (by simp [h])

inductive Ce where
  | bl (n : Int) | nm (w : Str)
  deriving DecidableEq
def ceD : Ce → D
  | .bl n => .tup [.str "blank", .int n]
  | .nm w => .tup [.str "name", .str w]
abbrev Row := Str × List Ce
def rowD (r : Row) : D := .tup [.str r.1, .tup (r.2.map ceD)]
theorem bn : ¬ (Str.ofString "blank") = (Str.ofString "name") := by decide +kernel
theorem nb : ¬ (Str.ofString "name") = (Str.ofString "blank") := by decide +kernel
theorem ok_ce (c : Ce) (n : Nat) : okD (n + 1) (ceD c) = true := by cases c <;> simp [ceD, okD]
theorem ok_row (r : Row) (n : Nat) : okD (n + 3) (rowD r) = true := by
  simp only [rowD, okD, List.all_cons, List.all_nil, Bool.and_true, Bool.true_and, List.all_map, List.all_eq_true]
  intro c _
  exact ok_ce c n
theorem ok_rows (rs : List Row) (n : Nat) : okD (n + 4) (.lst (rs.map rowD)) = true := by
  simp only [okD, List.all_map, List.all_eq_true]
  intro r _
  exact ok_row r n
theorem ltDs_some {lt : D → D → Option Bool} : ∀ {xs ys : List D}, (∀ x ∈ xs, ∀ y ∈ ys, (lt x y).isSome = true) → (ltDs lt xs ys).isSome = true
  | [], [], _ => rfl
  | [], _ :: _, _ => rfl
  | _ :: _, [], _ => rfl
  | x :: xs, y :: ys, h => by
    unfold ltDs
    split
    · exact ltDs_some fun a ha b hb => h a (List.mem_cons_of_mem _ ha) b (List.mem_cons_of_mem _ hb)
    · exact h x (List.mem_cons_self ..) y (List.mem_cons_self ..)
theorem lt_ce (n : Nat) (c e : Ce) : (ltD (n + 1) (ceD c) (ceD e)).isSome = true := by
  cases c <;> cases e <;> simp [ceD, ltD, ltDs, bn, nb] <;> split <;> rfl
theorem lt_row (n : Nat) (r q : Row) : (ltD (n + 3) (rowD r) (rowD q)).isSome = true := by
  show (ltDs (ltD (n + 2)) [.str r.1, .tup (r.2.map ceD)] [.str q.1, .tup (q.2.map ceD)]).isSome = true
  unfold ltDs
  split
  · unfold ltDs
    split
    · rfl
    · show (ltDs (ltD (n + 1)) (r.2.map ceD) (q.2.map ceD)).isSome = true
      refine ltDs_some fun x hx y hy => ?_
      obtain ⟨c, _, rfl⟩ := List.mem_map.mp hx
      obtain ⟨e, _, rfl⟩ := List.mem_map.mp hy
      exact lt_ce n c e
  · rfl
theorem cmp_rows (rs : List Row) : cmpD (rs.map rowD) = true := by
  unfold cmpD
  rw [List.all_eq_true]; intro x hx
  obtain ⟨r, _, rfl⟩ := List.mem_map.mp hx
  rw [Bool.and_eq_true]
  refine ⟨ok_row r 12, ?_⟩
  rw [List.all_eq_true]; intro y hy
  obtain ⟨q, _, rfl⟩ := List.mem_map.mp hy
  exact lt_row 12 r q
theorem kd_rows (rs : List Row) : (rs.map rowD).all (isKD .ts) = true := by
  rw [List.all_eq_true]; intro x hx
  obtain ⟨r, _, rfl⟩ := List.mem_map.mp hx
  rfl
theorem list_map {α : Type} {F : α → D} {l : List D} {P : α → Prop} (h : ∀ x ∈ l, ∃ a, P a ∧ x = F a) : ∃ as : List α, l = as.map F ∧ ∀ a ∈ as, P a := by
  induction l with
  | nil => exact ⟨[], rfl, by simp⟩
  | cons x l ih =>
    obtain ⟨a, pa, e⟩ := h x (List.mem_cons_self ..)
    obtain ⟨as, e2, pas⟩ := ih fun y hy => h y (List.mem_cons_of_mem _ hy)
    refine ⟨a :: as, by rw [e, e2]; rfl, fun b hb => ?_⟩
    rcases List.mem_cons.mp hb with rfl | hb
    · exact pa
    · exact pas b hb

def standD (rs : List Row) : List D := sortD (uniqD (rs.map rowD))
theorem standD_rows (rs : List Row) : ∃ fs : List Row, standD rs = fs.map rowD ∧ (∀ r ∈ fs, r ∈ rs) ∧ fs.length ≤ rs.length := by
  have hp := sortD_perm (uniqD (rs.map rowD))
  obtain ⟨fs, e, h⟩ := list_map (F := rowD) (l := standD rs) (P := fun r => r ∈ rs) fun x hx => by
    obtain ⟨r, hr, e⟩ := List.mem_map.mp ((uniqD_mem x _).mp (hp.mem_iff.mp hx))
    exact ⟨r, hr, e.symm⟩
  refine ⟨fs, e, h, ?_⟩
  have h1 := congrArg List.length e
  have h2 := hp.length_eq
  have h3 := uniqD_len (rs.map rowD)
  unfold standD at h1
  rw [List.length_map] at h1 h3
  omega

theorem standD_self {rs fs : List Row} (e : standD rs = fs.map rowD) : standD fs = fs.map rowD := by
  have hc := cmp_rows fs
  have hnd : (fs.map rowD).Nodup := by rw [← e]; exact (sortD_perm _).nodup_iff.mpr (uniqD_nodup _)
  have hs : (fs.map rowD).Pairwise leD := by rw [← e]; exact sortD_sorted (cmpD_sub (cmp_rows rs) fun x hx => (uniqD_mem x _).mp hx)
  have hp : (uniqD (fs.map rowD)).Perm (fs.map rowD) := (List.perm_ext_iff_of_nodup (uniqD_nodup _) hnd).mpr fun x => uniqD_mem x _
  have hcu : cmpD (uniqD (fs.map rowD)) = true := cmpD_sub hc fun x hx => (uniqD_mem x _).mp hx
  exact sorted_one hc _ _ (fun y hy => (uniqD_mem y _).mp ((sortD_perm _).mem_iff.mp hy)) ((sortD_perm _).trans hp) (sortD_sorted hcu) hs
theorem standof_eq (rs : List Row) (h : rs.length < 64) : f_stand_of [.lst (rs.map rowD)] = some (.lst (standD rs), true) := by
  rw [runF_eq (f := f_stand_of) (δ := [some (.lst (rs.map rowD), false)]) rfl rfl rfl]
  have hall : ∀ {P : D → Bool}, (∀ r, P (rowD r) = true) → (rs.map rowD).all P = true := fun {P} h => by
    rw [List.all_eq_true]; intro x hx
    obtain ⟨n, _, rfl⟩ := List.mem_map.mp hx
    exact h n
  have hce : ∀ c n, hasH (n + 1) (ceD c) = true := fun c n => by cases c <;> simp [ceD, hasH]
  have hh : ∀ r, hasH 8 (rowD r) = true := fun r => by
    simp only [rowD, hasH, List.all_cons, List.all_nil, Bool.and_true, Bool.true_and, List.all_map, List.all_eq_true]
    intro c _
    exact hce c 5
  have hu : (uniqD (rs.map rowD)).length < 64 := by have := uniqD_len (rs.map rowD); rw [List.length_map] at this; omega
  have : sortSetO .ts false (some (.lst (rs.map rowD))) = some (.lst (standD rs)) := by
    unfold sortSetO
    simp only
    rw [if_pos]
    · rfl
    · rw [cmp_rows, kd_rows, hall hh, hall (P := fun d => scD d == false) fun r => rfl, decide_eq_true hu]
      rfl
  simp [g_stand_of, this]
def worldD (ws : List Str) (st sp : Int) : D := .tup [.lst (ws.map .str), .int st, .int sp]
theorem world_eq (c : Int) : ∃ ws st sp, ws.length = 6 ∧ 0 ≤ st ∧ st < 400000 ∧ 0 ≤ sp ∧ sp ≤ 50000 ∧ f__law_world [.int c] = some (worldD ws st sp, false) := by
  obtain ⟨ws, hw, ew⟩ := words_eq c
  have m1 := mixI_lo c 11
  have m2 := mixI_lo c 12
  refine ⟨ws, mixI c 11 % 400000, 1 + mixI c 12 % 50000, hw, by omega, by omega, by omega, by omega, ?_⟩
  rw [runF_eq (f := f__law_world) (δ := [some (.int c, false)]) rfl rfl rfl]
  simp [g__law_world, ew]
  rw [mix_eq c 11 (by omega) (by omega), mix_eq c 12 (by omega) (by omega)]
  simp [worldD]
end K01

end

section
set_option maxHeartbeats 1000000
namespace K01
open PySem L2

theorem cell_eq {ws : List Str} {st sp : Int} (hw : ws.length = 6) (h0 : 0 ≤ st) (h1 : st < 400000) (h2 : 0 ≤ sp) (h3 : sp ≤ 50000) (c : Int) (hc : 0 ≤ c) : ∃ e : Ce, f__law_cell_by [worldD ws st sp, .int c] = some (ceD e, false) := by
  obtain ⟨w, ew⟩ := at_str (ws := ws) (i := c / 2 % 6) (by omega) (by omega)
  by_cases hm : c % 2 = 0
  · refine ⟨.bl (st * (c / 2 % 3 / 2) + sp * (c / 6 % 12)), ?_⟩
    rw [runF_eq (f := f__law_cell_by) (δ := [some (worldD ws st sp, false), some (.int c, false), none, none, none]) rfl rfl rfl]
    simp [g__law_cell_by, worldD, hm]
    rw [mulI_s st _ (by omega), mulI_s sp _ (by omega)]
    simp [ceD]
  · refine ⟨.nm w, ?_⟩
    rw [runF_eq (f := f__law_cell_by) (δ := [some (worldD ws st sp, false), some (.int c, false), none, none, none]) rfl rfl rfl]
    simp [g__law_cell_by, worldD, hm, ew, ceD]
theorem row_eq {ws : List Str} {st sp : Int} (hw : ws.length = 6) (h0 : 0 ≤ st) (h1 : st < 400000) (h2 : 0 ≤ sp) (h3 : sp ≤ 50000) (c : Int) : ∃ r : Row, f__law_row [worldD ws st sp, .int c] = some (rowD r, false) := by
  have m1 := mixI_lo c 1
  have m2 := mixI_lo c 2
  generalize hsz : 1 + mixI c 1 % 4 = sz
  obtain ⟨t, et⟩ := at_str (ws := ws) (i := mixI c 2 % 3) (by omega) (by omega)
  have ew0 : atI [D.lst (ws.map .str), .int st, .int sp] 0 = some (.lst (ws.map .str)) := rfl
  obtain ⟨g, eg, gl, gp⟩ := compO_ex (ds := rngL 0 sz.toNat) (P := fun _ y => ∃ e : Ce, y = ceD e)
    (h := itemO (toName 4) (fun δ => some true) e__law_row_1 [some (worldD ws st sp, false), some (.int c, false), none, none, none]) fun d hd => by
      obtain ⟨i, hi, rfl⟩ := rngL_mem hd
      obtain ⟨e, ee⟩ := cell_eq hw h0 h1 h2 h3 (mixI c (3 + (0 + (i : Int)))) (mixI_lo _ _)
      refine ⟨ceD e, ?_, e, rfl⟩
      have e0 : (0 : Int) + (i : Int) = i := by omega
      rw [e0] at ee ⊢
      simp [itemO, e__law_row_1]
      rw [mix_eq c _ (by omega) (by omega)]
      simp [ee]
  obtain ⟨cs, rfl, _⟩ := maps_of (F := ceD) (Q := fun _ => True) gl gp fun d y ⟨e, b⟩ => ⟨e, b, trivial⟩
  refine ⟨(t, cs), ?_⟩
  rw [runF_eq (f := f__law_row) (δ := [some (worldD ws st sp, false), some (.int c, false), none, none, none]) rfl rfl rfl]
  simp [g__law_row]
  rw [mix_eq c 1 (by omega) (by omega)]
  simp [hsz]
  rw [rng1_s sz (by omega), bindO_s, runC_s (by rw [rngL_len, lim_eq]; omega)]
  simp [maskD]
  rw [eg]
  simp [k__law_row_2, worldD, ew0]
  rw [mix_eq c 2 (by omega) (by omega)]
  simp [et, rowD]
theorem ne_nil (rs : List Row) : neO (some (.lst (rs.map rowD))) (some (.lst [])) = some (!decide (rs = [])) := by
  rw [neO_s _ _ (by unfold ok2; rw [ok_rows rs 12]; rfl)]
  cases rs <;> simp
theorem at_rows {rs : List Row} {i : Int} (h0 : 0 ≤ i) (h1 : i < rs.length) : ∃ r, r ∈ rs ∧ atI (rs.map rowD) i = some (rowD r) := by
  obtain ⟨v, hv, _, e⟩ := atI_in (xs := rs.map rowD) h0 (by simpa using h1)
  obtain ⟨r, hr, rfl⟩ := List.mem_map.mp hv
  exact ⟨r, hr, e⟩
theorem rows_loop {ws : List Str} {st sp : Int} (hw : ws.length = 6) (h0 : 0 ≤ st) (h1 : st < 400000) (h2 : 0 ≤ sp) (h3 : sp ≤ 50000) (a1 : Option (D × Bool)) : ∀ (cs : List Int) (rs : List Row) (x3 : Option (D × Bool)), rs.length + cs.length ≤ 100 →
    ∃ (fs : List Row) (y3 : Option (D × Bool)), fs.length = rs.length + cs.length ∧
      loopD (fun d δ => bindO ((toName 3) d δ) b__law_rows_1) (cs.map D.int) [some (worldD ws st sp, false), a1, some (.lst (rs.map rowD), true), x3] = some (.next [some (worldD ws st sp, false), a1, some (.lst (fs.map rowD), true), y3])
  | [], rs, x3, hl => ⟨rs, x3, rfl, rfl⟩
  | c :: cs, rs, x3, hl => by
    rw [List.length_cons] at hl
    have key : ∃ r : Row, bindO ((toName 3) (.int c) [some (worldD ws st sp, false), a1, some (.lst (rs.map rowD), true), x3]) b__law_rows_1 = some (.next [some (worldD ws st sp, false), a1, some (.lst ((rs ++ [r]).map rowD), true), some (.int c, false)]) := by
      obtain ⟨r0, e0⟩ := row_eq hw h0 h1 h2 h3 c
      have m14 := mixI_lo c 14
      by_cases hn : rs = []
      · refine ⟨r0, ?_⟩
        have nn : neO (some (.lst [])) (some (.lst [])) = some false := by rw [neO_s _ _ (by rfl)]; simp
        subst hn
        simp [b__law_rows_1, nn, e0]
        rw [appO_s (ds := []) _ (by rfl) (by simp)]
        simp
      · have hpos : 0 < rs.length := List.length_pos_iff.mpr hn
        obtain ⟨r1, _, e1⟩ := at_rows (rs := rs) (i := mixI c 14 % (rs.length : Int)) (Int.emod_nonneg _ (by omega)) (Int.emod_lt_of_pos _ (by omega))
        obtain ⟨r2, _, e2⟩ := at_rows (rs := rs) (i := (rs.length : Int) - 1) (by omega) (by omega)
        have app : ∀ r : Row, appO 2 (some (rowD r)) [some (worldD ws st sp, false), a1, some (.lst (rs.map rowD), true), some (.int c, false)] = some (.next [some (worldD ws st sp, false), a1, some (.lst ((rs ++ [r]).map rowD), true), some (.int c, false)]) := fun r => by
          rw [appO_s (ds := rs.map rowD) _ (by rfl) (by rw [List.length_map, lim_eq]; omega)]
          simp
        by_cases h4 : mixI c 13 % 4 = 1
        · refine ⟨r1, ?_⟩
          simp [b__law_rows_1, ne_nil, hn]
          rw [mix_eq c 13 (by omega) (by omega), mix_eq c 14 (by omega) (by omega)]
          simp [h4]
          rw [modI_s _ _ (by omega)]
          simp [e1, app r1]
        · by_cases h16 : mixI c 13 % 16 = 2
          · refine ⟨r2, ?_⟩
            simp [b__law_rows_1, ne_nil, hn]
            rw [mix_eq c 13 (by omega) (by omega)]
            simp [h4, h16, e2, app r2]
          · refine ⟨r0, ?_⟩
            simp [b__law_rows_1, ne_nil, hn, e0]
            rw [mix_eq c 13 (by omega) (by omega)]
            simp [h4, h16, app r0]
    obtain ⟨r, er⟩ := key
    obtain ⟨fs, y3, hf, ef⟩ := rows_loop hw h0 h1 h2 h3 a1 cs (rs ++ [r]) (some (.int c, false)) (by simp; omega)
    refine ⟨fs, y3, by rw [hf]; simp; omega, ?_⟩
    rw [List.map_cons]
    unfold loopD
    rw [er]
    exact ef
theorem rows_eq {ws : List Str} {st sp : Int} (hw : ws.length = 6) (h0 : 0 ≤ st) (h1 : st < 400000) (h2 : 0 ≤ sp) (h3 : sp ≤ 50000) (cs : List Int) (hl : cs.length ≤ 60) : ∃ rs : List Row, rs.length ≤ 60 ∧ f__law_rows [worldD ws st sp, .lst (cs.map D.int)] = some (.lst (rs.map rowD), true) := by
  obtain ⟨fs, y3, hf, ef⟩ := rows_loop hw h0 h1 h2 h3 (some (.lst (cs.map D.int), false)) cs [] none (by simp; omega)
  refine ⟨fs, by rw [hf]; simp; omega, ?_⟩
  rw [runF_eq (f := f__law_rows) (δ := [some (worldD ws st sp, false), some (.lst (cs.map D.int), false), none, none]) rfl rfl rfl]
  rw [List.map_nil] at ef
  simp [g__law_rows]
  rw [ef]
  simp
end K01

end

section
set_option maxHeartbeats 1000000
namespace K01
open PySem L2

theorem at0 (a b : D) : atI [a, b] 0 = some a := rfl
theorem at1 (a b : D) : atI [a, b] 1 = some b := rfl
theorem ltV_int (i j : Int) : ltV (some (.int i)) (some (.int j)) = some (decide (i < j)) := rfl
theorem ltV_str (i j : Str) : ltV (some (.str i)) (some (.str j)) = some (decide (i.cps.toList < j.cps.toList)) := rfl
theorem ne_str (x y : Str) : neO (some (.str x)) (some (.str y)) = some (!decide (x = y)) := by
  rw [neO_s _ _ (by rfl)]; simp only [D.str.injEq]
theorem eq_str (x y : Str) : eqO (some (.str x)) (some (.str y)) = some (decide (x = y)) := by
  rw [eqO_s _ _ (by rfl)]; simp only [D.str.injEq]
theorem ceD_inj {x y : Ce} : ceD x = ceD y ↔ x = y := by
  constructor
  · intro e
    cases x <;> cases y <;> simp [ceD, bn, nb] at e
    · rw [e]
    · rw [e]
  · intro e; rw [e]
theorem blt : decide ((Str.ofString "blank").cps.toList < (Str.ofString "name").cps.toList) = true := by decide +kernel
theorem nlt : decide ((Str.ofString "name").cps.toList < (Str.ofString "blank").cps.toList) = false := by decide +kernel
theorem cell_before_eq (x y : Ce) (h : x ≠ y) (n : Nat) : ∃ b, ltD (n + 1) (ceD x) (ceD y) = some b ∧ f__law_cell_before [ceD x, ceD y] = some (.bl b, false) := by
  cases x with
  | bl i =>
    cases y with
    | bl j =>
      refine ⟨decide (i < j), ?_, ?_⟩
      · have : ¬ i = j := fun e => h (by rw [e])
        simp [ceD, ltD, ltDs, this]
      · rw [runF_eq (f := f__law_cell_before) (δ := [some (ceD (.bl i), false), some (ceD (.bl j), false)]) rfl rfl rfl]
        simp [g__law_cell_before, ceD, at0, at1, ne_str, ltV_int]
    | nm w =>
      refine ⟨true, ?_, ?_⟩
      · simp only [ceD, ltD, ltDs, D.str.injEq, bn, if_false, blt]
      · rw [runF_eq (f := f__law_cell_before) (δ := [some (ceD (.bl i), false), some (ceD (.nm w), false)]) rfl rfl rfl]
        simp [g__law_cell_before, ceD, at0, at1, ne_str, eq_str, bn]
  | nm v =>
    cases y with
    | bl j =>
      refine ⟨false, ?_, ?_⟩
      · simp only [ceD, ltD, ltDs, D.str.injEq, nb, if_false, nlt]
      · rw [runF_eq (f := f__law_cell_before) (δ := [some (ceD (.nm v), false), some (ceD (.bl j), false)]) rfl rfl rfl]
        simp [g__law_cell_before, ceD, at0, at1, ne_str, eq_str, nb]
    | nm w =>
      refine ⟨decide (v.cps.toList < w.cps.toList), ?_, ?_⟩
      · have : ¬ v = w := fun e => h (by rw [e])
        simp [ceD, ltD, ltDs, this]
      · rw [runF_eq (f := f__law_cell_before) (δ := [some (ceD (.nm v), false), some (ceD (.nm w), false)]) rfl rfl rfl]
        simp [g__law_cell_before, ceD, at0, at1, ne_str, ltV_str]
theorem ne_ce (x y : Ce) : neO (some (ceD x)) (some (ceD y)) = some (!decide (x = y)) := by
  rw [neO_s _ _ (by unfold ok2; rw [ok_ce x 15, ok_ce y 15]; rfl)]
  congr 2
  exact decide_eq_decide.mpr ceD_inj

theorem cells_loop (n : Nat) (a0 a1 : Option (D × Bool)) : ∀ (xs ys : List Ce) (x2 x3 : Option (D × Bool)), ∃ b y2 y3, ltDs (ltD (n + 1)) (xs.map ceD) (ys.map ceD) = some b ∧
    (loopD (fun d δ => bindO ((toTup (toCons (toName 2) (toCons (toName 3) (toNil)))) d δ) b__law_before_1) (zipL2 (xs.map ceD) (ys.map ceD)) [a0, a1, x2, x3] = some (.ret (.bl b) false) ∨
     (loopD (fun d δ => bindO ((toTup (toCons (toName 2) (toCons (toName 3) (toNil)))) d δ) b__law_before_1) (zipL2 (xs.map ceD) (ys.map ceD)) [a0, a1, x2, x3] = some (.next [a0, a1, y2, y3]) ∧ b = decide (xs.length < ys.length)))
  | [], [], x2, x3 => ⟨false, x2, x3, rfl, .inr ⟨rfl, rfl⟩⟩
  | [], y :: ys, x2, x3 => ⟨true, x2, x3, rfl, .inr ⟨rfl, by simp⟩⟩
  | x :: xs, [], x2, x3 => ⟨false, x2, x3, rfl, .inr ⟨rfl, by simp⟩⟩
  | x :: xs, y :: ys, x2, x3 => by
    by_cases e : x = y
    · subst e
      obtain ⟨b, y2, y3, h1, h2⟩ := cells_loop n a0 a1 xs ys (some (ceD x, false)) (some (ceD x, false))
      refine ⟨b, y2, y3, by simp [ltDs, h1], ?_⟩
      have one : bindO ((toTup (toCons (toName 2) (toCons (toName 3) (toNil)))) (.tup [ceD x, ceD x]) [a0, a1, x2, x3]) b__law_before_1 = some (.next [a0, a1, some (ceD x, false), some (ceD x, false)]) := by
        simp [b__law_before_1, ne_ce]
      rw [List.map_cons, List.map_cons]
      unfold zipL2 loopD
      rw [one]
      rcases h2 with h2 | ⟨h2, h3⟩
      · exact .inl h2
      · exact .inr ⟨h2, by rw [h3]; simp⟩
    · obtain ⟨b, h1, h2⟩ := cell_before_eq x y e n
      refine ⟨b, x2, x3, ?_, .inl ?_⟩
      · rw [List.map_cons, List.map_cons]
        unfold ltDs
        rw [if_neg (fun h => e (ceD_inj.mp h)), h1]
      · have one : bindO ((toTup (toCons (toName 2) (toCons (toName 3) (toNil)))) (.tup [ceD x, ceD y]) [a0, a1, x2, x3]) b__law_before_1 = some (.ret (.bl b) false) := by
          simp [b__law_before_1, ne_ce, e, h2]
        rw [List.map_cons, List.map_cons]
        unfold zipL2 loopD
        rw [one]
theorem before_eq (r q : Row) : ∃ b, ltD 15 (rowD r) (rowD q) = some b ∧ f__law_before [rowD r, rowD q] = some (.bl b, false) := by
  have i0 : ∀ r : Row, ixO (some (rowD r)) (some (.int 0)) = some (.str r.1) := fun _ => rfl
  have i1 : ∀ r : Row, ixO (some (rowD r)) (some (.int 1)) = some (.tup (r.2.map ceD)) := fun _ => rfl
  by_cases ht : r.1 = q.1
  · obtain ⟨b, y2, y3, h1, h2⟩ := cells_loop 12 (some (rowD r, false)) (some (rowD q, false)) r.2 q.2 none none
    refine ⟨b, ?_, ?_⟩
    · show ltDs (ltD 14) [.str r.1, .tup (r.2.map ceD)] [.str q.1, .tup (q.2.map ceD)] = some b
      unfold ltDs
      rw [if_pos (by rw [ht])]
      unfold ltDs
      by_cases hc : r.2.map ceD = q.2.map ceD
      · rw [if_pos (by rw [hc])]
        have : ∀ l : List D, ltDs (ltD 13) l l = some false := fun l => by
          induction l with
          | nil => rfl
          | cons x l ih => unfold ltDs; rw [if_pos rfl, ih]
        rw [hc, this] at h1
        cases h1
        rfl
      · rw [if_neg (fun e => hc (by simpa using e))]
        exact h1
    · rw [runF_eq (f := f__law_before) (δ := [some (rowD r, false), some (rowD q, false), none, none]) rfl rfl rfl]
      simp [g__law_before, i0, i1, ne_str, ht]
      have hz : zipO true true (some (.tup (r.2.map ceD))) (some (.tup (q.2.map ceD))) = some (zipL2 (r.2.map ceD) (q.2.map ceD)) := rfl
      rw [hz, bindO_s]
      rcases h2 with h2 | ⟨h2, h3⟩
      · rw [h2]; simp
      · rw [h2]
        simp [i1, h3, bI, cT]
  · refine ⟨decide (r.1.cps.toList < q.1.cps.toList), ?_, ?_⟩
    · show ltDs (ltD 14) [.str r.1, .tup (r.2.map ceD)] [.str q.1, .tup (q.2.map ceD)] = _
      unfold ltDs
      rw [if_neg (fun e => ht (by simpa using e))]
      rfl
    · rw [runF_eq (f := f__law_before) (δ := [some (rowD r, false), some (rowD q, false), none, none]) rfl rfl rfl]
      simp [g__law_before, i0, ne_str, ht, ltV_str]
end K01

end

section
set_option maxHeartbeats 1000000
namespace K01
open PySem L2

theorem whole_eq (n : Int) : f__law_whole [.int n] = some (.bl true, false) := by
  rw [runF_eq (f := f__law_whole) (δ := [some (.int n, false)]) rfl rfl rfl]
  rfl
theorem whole_str (w : Str) : f__law_whole [.str w] = some (.bl false, false) := by
  rw [runF_eq (f := f__law_whole) (δ := [some (.str w, false)]) rfl rfl rfl]
  rfl
theorem ne_int (i j : Int) : neO (some (.int i)) (some (.int j)) = some (!decide (i = j)) := by
  rw [neO_s _ _ (by rfl)]; simp only [D.int.injEq]
theorem is_row_loop (a0 : Option (D × Bool)) : ∀ (cs : List Ce) (x1 : Option (D × Bool)), ∃ y1, loopD (fun d δ => bindO ((toName 1) d δ) b__law_is_row_1) (cs.map ceD) [a0, x1] = some (.next [a0, y1])
  | [], x1 => ⟨x1, rfl⟩
  | c :: cs, x1 => by
    obtain ⟨y1, e⟩ := is_row_loop a0 cs (some (ceD c, false))
    refine ⟨y1, ?_⟩
    have one : bindO ((toName 1) (ceD c) [a0, x1]) b__law_is_row_1 = some (.next [a0, some (ceD c, false)]) := by
      cases c with
      | bl n => simp [b__law_is_row_1, ceD, at0, at1, isiO, tyD, isiT, ne_int, whole_eq]
      | nm w => simp [b__law_is_row_1, ceD, at0, at1, isiO, tyD, isiT, ne_int, whole_str]
    rw [List.map_cons]
    unfold loopD
    rw [one]
    exact e
theorem is_row_eq (r : Row) : f__law_is_row [rowD r] = some (.bl true, false) := by
  obtain ⟨y1, e⟩ := is_row_loop (some (rowD r, false)) r.2 none
  rw [runF_eq (f := f__law_is_row) (δ := [some (rowD r, false), none]) rfl rfl rfl]
  have i0 : ixO (some (rowD r)) (some (.int 0)) = some (.str r.1) := rfl
  have i1 : ixO (some (rowD r)) (some (.int 1)) = some (.tup (r.2.map ceD)) := rfl
  have t0 : isiO "tuple" (some (rowD r)) = some (.bl true) := rfl
  have l0 : lenL (some (rowD r)) = some (.int 2) := rfl
  have t1 : isiO "tuple" (some (.tup (r.2.map ceD))) = some (.bl true) := rfl
  have t2 : isiO "str" (some (.str r.1)) = some (.bl true) := rfl
  simp [g__law_is_row, i0, i1, t0, t1, t2, l0, ne_int]
  rw [e]
  simp
theorem in_rows (r : Row) (rs : List Row) : inO (some (rowD r)) (some (.lst (rs.map rowD))) = some (decide (rowD r ∈ rs.map rowD)) := by
  unfold inO
  simp only [itemsD]
  rw [if_pos]
  rw [ok_row r 13, Bool.true_and, List.all_eq_true]
  intro x hx
  obtain ⟨q, _, rfl⟩ := List.mem_map.mp hx
  exact ok_row q 13
theorem right_loop1 (a0 : Option (D × Bool)) (rs : List Row) (x3 : Option (D × Bool)) : ∀ (qs : List Row) (x2 : Option (D × Bool)), (∀ q ∈ qs, rowD q ∈ rs.map rowD) → ∃ y2, loopD (fun d δ => bindO ((toName 2) d δ) b__law_right_1) (qs.map rowD) [a0, some (.lst (rs.map rowD), false), x2, x3] = some (.next [a0, some (.lst (rs.map rowD), false), y2, x3])
  | [], x2, _ => ⟨x2, rfl⟩
  | q :: qs, x2, h => by
    obtain ⟨y2, e⟩ := right_loop1 a0 rs x3 qs (some (rowD q, false)) fun p hp => h p (List.mem_cons_of_mem _ hp)
    refine ⟨y2, ?_⟩
    have hq := h q (List.mem_cons_self ..)
    have one : bindO ((toName 2) (rowD q) [a0, some (.lst (rs.map rowD), false), x2, x3]) b__law_right_1 = some (.next [a0, some (.lst (rs.map rowD), false), some (rowD q, false), x3]) := by
      simp only [b__law_right_1, toName_s, rd_1, rd_0, List.length_cons, List.length_nil, List.set_cons_succ, List.set_cons_zero, bindO_s, Nat.zero_add, Nat.reduceAdd, Nat.reduceLT, notInO, in_rows, hq, decide_true, notO_s, Bool.not_true, consO_s, is_row_eq, shO_s, tyB_s, orO_f, ifO_f, nextO_s]
    rw [List.map_cons]
    unfold loopD
    rw [one]
    exact e
theorem right_loop2 (fs : List Row) (a1 x3 : Option (D × Bool)) : ∀ (qs : List Row) (x2 : Option (D × Bool)), (∀ q ∈ qs, rowD q ∈ fs.map rowD) → ∃ y2, loopD (fun d δ => bindO ((toName 2) d δ) b__law_right_2) (qs.map rowD) [some (.lst (fs.map rowD), false), a1, x2, x3] = some (.next [some (.lst (fs.map rowD), false), a1, y2, x3])
  | [], x2, _ => ⟨x2, rfl⟩
  | q :: qs, x2, h => by
    obtain ⟨y2, e⟩ := right_loop2 fs a1 x3 qs (some (rowD q, false)) fun p hp => h p (List.mem_cons_of_mem _ hp)
    refine ⟨y2, ?_⟩
    have hq := h q (List.mem_cons_self ..)
    have one : bindO ((toName 2) (rowD q) [some (.lst (fs.map rowD), false), a1, x2, x3]) b__law_right_2 = some (.next [some (.lst (fs.map rowD), false), a1, some (rowD q, false), x3]) := by
      simp only [b__law_right_2, toName_s, rd_1, rd_0, List.length_cons, List.length_nil, List.set_cons_succ, List.set_cons_zero, bindO_s, Nat.zero_add, Nat.reduceAdd, Nat.reduceLT, notInO, in_rows, hq, decide_true, notO_s, Bool.not_true, ifO_f, nextO_s]
    rw [List.map_cons]
    unfold loopD
    rw [one]
    exact e
theorem at_row {fs : List Row} {i : Nat} (h : i < fs.length) : atI (fs.map rowD) (i : Int) = some (rowD fs[i]) := atI_nat (by simp [h])
theorem right_loop3 (fs : List Row) (a1 x2 x3 : Option (D × Bool)) (hs : (fs.map rowD).Pairwise leD) (hn : (fs.map rowD).Nodup) : ∃ y3, loopD (fun d δ => bindO ((toName 3) d δ) b__law_right_3) (rngL 1 (fs.length - 1)) [some (.lst (fs.map rowD), false), a1, x2, x3] = some (.next [some (.lst (fs.map rowD), false), a1, x2, y3]) := by
  obtain ⟨δ', e, y3, rfl⟩ := loopD_all (body := fun d δ => bindO ((toName 3) d δ) b__law_right_3) (fun δ => ∃ y3, δ = [some (.lst (fs.map rowD), false), a1, x2, y3]) (ds := rngL 1 (fs.length - 1))
    (δ := [some (.lst (fs.map rowD), false), a1, x2, x3]) ⟨x3, rfl⟩ fun d hd δ ⟨y3, hδ⟩ => by
      obtain ⟨i, hi, rfl⟩ := rngL_mem hd
      subst hδ
      have h0 : i < fs.length := by omega
      have h1 : i + 1 < fs.length := by omega
      have e0 := at_row h0
      have e1 := at_row h1
      have c0 : (1 : Int) + (i : Int) - 1 = (i : Int) := by omega
      have c1 : (1 : Int) + (i : Int) = ((i + 1 : Nat) : Int) := by omega
      obtain ⟨b, lt, eb⟩ := before_eq fs[i] fs[i + 1]
      have le := List.pairwise_iff_getElem.mp hs i (i + 1) (by simpa using h0) (by simpa using h1) (by omega)
      have ne := List.pairwise_iff_getElem.mp hn i (i + 1) (by simpa using h0) (by simpa using h1) (by omega)
      simp only [List.getElem_map] at le ne
      have hb : b = true := by
        cases b with
        | true => rfl
        | false =>
          rcases ltD_tot 15 _ _ lt with z | z
          · exact absurd z ne
          · exact absurd z le
      subst hb
      refine ⟨_, .inl ?_, some (.int (1 + (i : Int)), false), rfl⟩
      simp [b__law_right_3, c0, e0]
      rw [c1, e1]
      simp [eb]
  exact ⟨y3, e⟩
theorem right_eq {fs rs : List Row} (h1 : ∀ r ∈ fs, rowD r ∈ rs.map rowD) (h2 : ∀ r ∈ rs, rowD r ∈ fs.map rowD) (hs : (fs.map rowD).Pairwise leD) (hn : (fs.map rowD).Nodup) (hl : fs.length ≤ 60) : f__law_right [.lst (fs.map rowD), .lst (rs.map rowD)] = some (.bl true, false) := by
  obtain ⟨y2, e1⟩ := right_loop1 (some (.lst (fs.map rowD), false)) rs none fs none h1
  obtain ⟨z2, e2⟩ := right_loop2 fs (some (.lst (rs.map rowD), false)) none rs y2 h2
  obtain ⟨y3, e3⟩ := right_loop3 fs (some (.lst (rs.map rowD), false)) z2 none hs hn
  have hr : rng2 (some (.int 1)) (some (.int (fs.length : Int))) = some (rngL 1 (fs.length - 1)) := by
    unfold rng2
    simp only
    rw [if_pos (decide_eq_true (by omega))]
    congr 2
    omega
  rw [runF_eq (f := f__law_right) (δ := [some (.lst (fs.map rowD), false), some (.lst (rs.map rowD), false), none, none]) rfl rfl rfl]
  simp [g__law_right, isiO, tyD, isiT]
  rw [e1]
  simp
  rw [e2]
  simp
  rw [hr, bindO_s, e3]
  simp
theorem standD_same {rs qs : List Row} (hm : ∀ x, x ∈ rs.map rowD ↔ x ∈ qs.map rowD) : standD rs = standD qs := by
  have hc := cmp_rows rs
  have hp : (uniqD (rs.map rowD)).Perm (uniqD (qs.map rowD)) := (List.perm_ext_iff_of_nodup (uniqD_nodup _) (uniqD_nodup _)).mpr fun x => by rw [uniqD_mem, uniqD_mem]; exact hm x
  exact sorted_one hc _ _ (fun y hy => (uniqD_mem y _).mp ((sortD_perm _).mem_iff.mp hy)) (((sortD_perm _).trans hp).trans (sortD_perm _).symm) (sortD_sorted (cmpD_sub hc fun x hx => (uniqD_mem x _).mp hx)) (sortD_sorted (cmpD_sub (cmp_rows qs) fun x hx => (uniqD_mem x _).mp hx))
theorem flats_ces : ∀ cs : List Ce, D.flats (cs.map ceD) = true
  | [] => rfl
  | c :: cs => by
    rw [List.map_cons, D.flats, flats_ces cs]
    cases c <;> rfl
theorem flats_rows : ∀ fs : List Row, D.flats (fs.map rowD) = true
  | [] => rfl
  | r :: fs => by
    rw [List.map_cons, D.flats, flats_rows fs]
    simp only [rowD, D.flat, D.flats, flats_ces]
    rfl
theorem pure (ns : List Int) (h : ns.length ≤ 63) : f_law [.lst (ns.map D.int)] = some (.bl true, false) := by
  obtain ⟨cs, ec, cl⟩ : ∃ cs : List Int, cutD (ns.map D.int) none (some 60) = cs.map D.int ∧ cs.length ≤ 60 := by
    unfold cutD
    refine ⟨_, by rw [← List.map_drop, ← List.map_take], ?_⟩
    simp [HT.sIx]
    omega
  obtain ⟨ws, st, sp, hw, h0, h1, h2, h3, ew⟩ := world_eq (cs.sum % 1000003)
  obtain ⟨rs, rl, er⟩ := rows_eq hw h0 h1 h2 h3 cs cl
  have es := standof_eq rs (by omega)
  obtain ⟨fs, ef, hf, fl⟩ := standD_rows rs
  have hc := cmp_rows rs
  have hs : (fs.map rowD).Pairwise leD := by rw [← ef]; exact sortD_sorted (cmpD_sub hc fun x hx => (uniqD_mem x _).mp hx)
  have hnd : (fs.map rowD).Nodup := by rw [← ef]; exact (sortD_perm _).nodup_iff.mpr (uniqD_nodup _)
  have hm : ∀ x, x ∈ fs.map rowD ↔ x ∈ rs.map rowD := fun x => by rw [← ef]; exact ((sortD_perm _).mem_iff).trans (uniqD_mem x _)
  have eright := right_eq (fs := fs) (rs := rs) (fun r hr => (hm _).mp (List.mem_map.mpr ⟨r, hr, rfl⟩)) (fun r hr => (hm _).mpr (List.mem_map.mpr ⟨r, hr, rfl⟩)) hs hnd (by omega)
  have es2 := standof_eq fs (by omega)
  rw [standD_self ef] at es2
  have es3 := standof_eq rs.reverse (by simp; omega)
  rw [show standD rs.reverse = standD rs from standD_same fun x => by simp, ef] at es3
  rw [ef] at es
  have okf : ok2 (.lst (fs.map rowD)) (.lst (fs.map rowD)) = true := by unfold ok2; rw [ok_rows fs 12]; rfl
  have okr : ok2 (.lst (rs.map rowD)) (.lst (rs.map rowD)) = true := by unfold ok2; rw [ok_rows rs 12]; rfl
  have rev : revLO (some (.lst (rs.map rowD))) = some (.lst (rs.reverse.map rowD)) := by
    show some (D.lst (rs.map rowD).reverse) = _
    rw [List.map_reverse]
  rw [runF_eq (f := f_law) (δ := [some (.lst (ns.map .int), false), none, none, none, none, none, none]) rfl rfl rfl]
  simp [g_law, ec, sumO_s, ew, er, es]
  rw [eright]
  simp
  rw [neO_s _ _ okr]
  have fl0 : flO (some (.lst (fs.map rowD), true)) = some (.lst (fs.map rowD)) := by
    unfold flO
    simp only
    rw [if_pos (flats_rows fs)]
  simp [es2, fl0]
  rw [neO_s _ _ okf, rev]
  simp only [consO_s, bindO_s]
  rw [es3]
  simp
  rw [neO_s _ _ okf]
  simp [appO_u]
  rw [if_pos (by omega)]
  simp
  rw [eqO_s _ _ okr]
  simp
end K01

end

section
set_option maxHeartbeats 1000000
open PySem PySem.W PySem.Spec PyProof.Rows
set_option maxRecDepth 100000 in
set_option maxHeartbeats 0 in
theorem PySem.Challenge.cw_mustrows_k01_stands_holds : PySem.Challenge.rw_mustrows_k01_stands.Holds := by
  w_on; o_law; k_head; (case hw => w_witness2)
  k_fill
  refine L2.walk_ofK (l := PySem.Challenge.rw_mustrows_k01_stands) (n := 63) (k := 4) (x := "_law_script") (CX := L2.CX0) (sp := fun K => L2.spM K K01.f_law) rfl (by decide) rfl ⟨rfl, by decide, by decide⟩ (fun w h Y => PySem.W.kIn_of Y) ?F ?S ?C
  case F =>
    intro w mg fa h KX G hmg
    have Q : ∃ fd : FuncData, (∀ (s : Shared) (v : Value), BindsTo s fd ⟨[v], []⟩ [("_law_script", v)]) ∧ ∀ base : Heap, (L2.KOf KX).In base → base.Ns mainGlobals mg → L2.FnOk PySem.Challenge.rw_mustrows_k01_stands.prog w (L2.KOf KX) mg base L2.CX0 4 fa fd ["_law_script"] (L2.spM (L2.KOf KX) K01.f_law) := by
      dsimp only [L2.KOf]
      refine' K01.all_mk KX G hmg ?a0 ?l0 ?c0 ?k0 ?a1 ?l1 ?c1 ?k1 ?a2 ?l2 ?c2 ?k2 ?a3 ?l3 ?c3 ?k3 ?a4 ?l4 ?c4 ?k4 ?a5 ?l5 ?c5 ?k5 ?a6 ?l6 ?c6 ?k6 ?a7 ?l7 ?c7 ?k7 ?a8 ?l8 ?c8 ?k8 ?a9 ?l9 ?c9 ?k9 ?a10 ?l10 ?c10 ?k10 ?a11 ?l11 ?c11 ?k11 ?a12 ?l12 ?c12 ?k12 ?z_bool ?z_int ?z_isinstance ?z_len ?z_list ?z_range ?z_set ?z_sorted ?z_str ?z_sum ?z_tuple ?z_zip
      (case a0 => k_is)
      (case l0 => k_is)
      (case c0 => k_is)
      (case k0 => k_is)
      (case a1 => k_is)
      (case l1 => k_is)
      (case c1 => k_is)
      (case k1 => k_is)
      (case a2 => k_is)
      (case l2 => k_is)
      (case c2 => k_is)
      (case k2 => k_is)
      (case a3 => k_is)
      (case l3 => k_is)
      (case c3 => k_is)
      (case k3 => k_is)
      (case a4 => k_is)
      (case l4 => k_is)
      (case c4 => k_is)
      (case k4 => k_is)
      (case a5 => k_is)
      (case l5 => k_is)
      (case c5 => k_is)
      (case k5 => k_is)
      (case a6 => k_is)
      (case l6 => k_is)
      (case c6 => k_is)
      (case k6 => k_is)
      (case a7 => k_is)
      (case l7 => k_is)
      (case c7 => k_is)
      (case k7 => k_is)
      (case a8 => k_is)
      (case l8 => k_is)
      (case c8 => k_is)
      (case k8 => k_is)
      (case a9 => k_is)
      (case l9 => k_is)
      (case c9 => k_is)
      (case k9 => k_is)
      (case a10 => k_is)
      (case l10 => k_is)
      (case c10 => k_is)
      (case k10 => k_is)
      (case a11 => k_is)
      (case l11 => k_is)
      (case c11 => k_is)
      (case k11 => k_is)
      (case a12 => k_is)
      (case l12 => k_is)
      (case c12 => k_is)
      (case k12 => k_is)
      (case z_bool => k_is)
      (case z_int => k_is)
      (case z_isinstance => k_is)
      (case z_len => k_is)
      (case z_list => k_is)
      (case z_range => k_is)
      (case z_set => k_is)
      (case z_sorted => k_is)
      (case z_str => k_is)
      (case z_sum => k_is)
      (case z_tuple => k_is)
      (case z_zip => k_is)
    exact Q
  case S => exact fun K H a ns hl hO hS => L2.spM_law hS (K01.pure ns hl)
  case C => exact fun _ _ _ _ h => h

end
