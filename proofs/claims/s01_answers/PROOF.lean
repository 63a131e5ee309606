import PyProof.Rows.All
import Wide.All
import OpenK.AllK
import Wide.FinOn
import PyProof.EqAt
import PyProof.EqKinds
import PyProof.TupleCall
import KE.BitLaws
import KE.KSortKeySt
import KE.KLam
import KE.KNest
import KE.KSortTupG
import KE.KSortTupUse
import VbsyadSpec
import PySem.Challenge.RW_sheepgates_s01_answers
import Open.SpecLaws
import KE.OsHead
import KE.OsGo
import KE.SpHead
import KE.OsShapes
section
set_option Elab.async false
set_option linter.all false
set_option maxRecDepth 100000
namespace L2
open PySem PySem.Spec PyProof.Rows
abbrev Key := Sum Int Str
def keyIs : Key → Value → Bool
  | .inl k, v => Value.isInt k v
  | .inr x, v => Value.isStrOf x v
def keyH (w : World) : Key → Int
  | .inl k => hashInt k
  | .inr x => hashStr w x
theorem keyIs_shape : ∀ {k : Key} {v : Value}, keyIs k v = true → (∃ i t, k = Sum.inl i ∧ v = Value.int i t) ∨ (∃ x t, k = Sum.inr x ∧ v = Value.str x t)
  | .inl i, v, h => by
    obtain ⟨t, e⟩ := Value.isInt_shape (k := i) (v := v) h
    exact .inl ⟨i, t, rfl, e⟩
  | .inr x, v, h => by
    obtain ⟨t, e⟩ := Value.isStrOf_shape (x := x) (v := v) h
    exact .inr ⟨x, t, rfl, e⟩
theorem keyIs_int (i : Int) (t : Tok) : keyIs (.inl i) (.int i t) = true := by simp [keyIs, Value.isInt]
theorem keyIs_str (x : Str) (t : Tok) : keyIs (.inr x) (.str x t) = true := by simp [keyIs, Value.isStrOf]
theorem key_ll (a b : Int) : decide ((Sum.inl a : Key) = Sum.inl b) = (a == b) := by
  by_cases e : a = b
  · subst e; simp
  · have h : ¬ (Sum.inl a : Key) = Sum.inl b := fun q => e (Sum.inl.inj q)
    rw [decide_eq_false h]
    exact (beq_eq_false_iff_ne.mpr e).symm
theorem key_rr (a b : Str) : decide ((Sum.inr a : Key) = Sum.inr b) = decide (a = b) := by
  by_cases e : a = b
  · subst e; simp
  · have h : ¬ (Sum.inr a : Key) = Sum.inr b := fun q => e (Sum.inr.inj q)
    rw [decide_eq_false h, decide_eq_false e]
theorem key_lr (a : Int) (b : Str) : decide ((Sum.inl a : Key) = Sum.inr b) = false := decide_eq_false (fun q => nomatch q)
theorem key_rl (a : Str) (b : Int) : decide ((Sum.inr a : Key) = Sum.inl b) = false := decide_eq_false (fun q => nomatch q)
def mixKind (prog : Program) (w : World) : PySem.KeyKind prog w Key where
  is := keyIs
  hash := keyH w
  inj := fun v a b ha hb => by
    rcases keyIs_shape ha with ⟨i, t, rfl, rfl⟩ | ⟨x, t, rfl, rfl⟩
    · rcases keyIs_shape hb with ⟨j, u, rfl, e⟩ | ⟨y, u, rfl, e⟩
      · injection e with e1 _; rw [e1]
      · exact nomatch e
    · rcases keyIs_shape hb with ⟨j, u, rfl, e⟩ | ⟨y, u, rfl, e⟩
      · exact nomatch e
      · injection e with e1 _; rw [e1]
  byValue := fun k v h => by
    rcases keyIs_shape h with ⟨i, t, rfl, rfl⟩ | ⟨x, t, rfl, rfl⟩ <;> rfl
  pyHash := fun hv h => by
    rcases keyIs_shape hv with ⟨i, t, rfl, rfl⟩ | ⟨x, t, rfl, rfl⟩
    · exact wpAny_pyHash_int h
    · exact wpAny_pyHash_str h
  eqBool := fun hu hv h => by
    rcases keyIs_shape hu with ⟨i, t, rfl, rfl⟩ | ⟨x, t, rfl, rfl⟩
    · rcases keyIs_shape hv with ⟨j, u, rfl, rfl⟩ | ⟨y, u, rfl, rfl⟩
      · rw [key_ll] at h; exact wpAny_eqBool_int h
      · rw [key_lr] at h; exact SeqAt.EqAt.int_str i t y u _ _ _ _ h
    · rcases keyIs_shape hv with ⟨j, u, rfl, rfl⟩ | ⟨y, u, rfl, rfl⟩
      · rw [key_rl] at h; exact SeqAt.EqAt.str_int x t j u _ _ _ _ h
      · rw [key_rr] at h; exact wpAny_eqBool_str h
  «strs» := fun k x t v h => by
    rcases keyIs_shape h with ⟨i, u, rfl, e⟩ | ⟨y, u, rfl, e⟩
    · exact nomatch e
    · injection e with e1 _
      subst e1
      cases v <;> rfl
theorem mixKind_int (prog : Program) (w : World) (i : Int) (t : Tok) : (mixKind prog w).is (.inl i) (.int i t) = true := keyIs_int i t
theorem mixKind_str (prog : Program) (w : World) (x : Str) (t : Tok) : (mixKind prog w).is (.inr x) (.str x t) = true := keyIs_str x t
end L2
namespace L2
open PySem PySem.Spec PyProof.Rows
inductive V where
  | non | bl (b : Bool) | int (i : Int) | str (x : Str) | byt (b : Array UInt8) | flt (b : UInt64) | ref (a : Addr) | ty (n : String)
  deriving DecidableEq
def RelV : V → Value → Prop
  | .non, u => u = Value.none
  | .bl b, u => u = Value.bool b
  | .int i, u => ∃ t, u = Value.int i t
  | .str x, u => ∃ t, u = Value.str x t
  | .byt b, u => ∃ t, u = Value.bytes b t
  | .flt b, u => ∃ t, u = Value.float b t
  | .ref a, u => u = Value.ref a
  | .ty n, u => u = Value.type n
abbrev Vals : List V → List Value → Prop := Paired RelV
theorem Vals.length {xs : List V} {us : List Value} (r : Vals xs us) : xs.length = us.length := Paired.length r
theorem Vals.get : ∀ {xs : List V} {us : List Value} {i : Nat} {x : V}, Vals xs us → xs[i]? = some x → ∃ u, us[i]? = some u ∧ RelV x u
  | _, _, _, _, .nil, e => by simp at e
  | _, _, 0, _, .cons r _, e => by simp at e; subst e; exact ⟨_, rfl, r⟩
  | _, _, i + 1, x, .cons _ t, e => by
    obtain ⟨u, h1, h2⟩ := Vals.get (i := i) (x := x) t (by simpa using e)
    exact ⟨u, by simpa using h1, h2⟩
theorem Vals.set {x : V} {u : Value} (r : RelV x u) : ∀ {xs : List V} {us : List Value} (i : Nat), Vals xs us → Vals (xs.set i x) (us.set i u)
  | _, _, _, .nil => .nil
  | _, _, 0, .cons _ t => .cons r t
  | _, _, i + 1, .cons q t => .cons q (Vals.set r i t)
theorem Vals.append : ∀ {xs ys : List V} {us ws : List Value}, Vals xs us → Vals ys ws → Vals (xs ++ ys) (us ++ ws)
  | _, _, _, _, .nil, s => s
  | _, _, _, _, .cons r t, s => .cons r (Vals.append t s)
theorem Vals.take : ∀ {xs : List V} {us : List Value} (n : Nat), Vals xs us → Vals (xs.take n) (us.take n)
  | _, _, 0, _ => .nil
  | _, _, _ + 1, .nil => .nil
  | _, _, n + 1, .cons r t => .cons r (Vals.take n t)
theorem Vals.drop : ∀ {xs : List V} {us : List Value} (n : Nat), Vals xs us → Vals (xs.drop n) (us.drop n)
  | _, _, 0, r => r
  | _, _, _ + 1, .nil => .nil
  | _, _, n + 1, .cons _ t => Vals.drop n t
def RelO : Option V → Option Value → Prop
  | some v, some u => RelV v u
  | none, none => True
  | _, _ => False
def KV {κ : Type} : List (κ × V) → List (κ × Value) → Prop := Paired fun (p : κ × V) (q : κ × Value) => p.1 = q.1 ∧ RelV p.2 q.2
def kV : Key → V
  | .inl i => .int i
  | .inr x => .str x
inductive HO where
  | lst (xs : List V)
  | tup (xs : List V)
  | dK (kvs : List (Key × V)) | dT (kvs : List (List Key × V))
  | set (S : Int → Bool) (n : Nat)
  | ins (C dx : Addr) (fs : List (Str × V))
  | own (x : Addr)
  | xd (fs : List (Str × V))
  | met (f x : Addr)
  | rng (lo hi : Int)
  | frz (o : Obj) (u : HO)
  | tbl (ps : Array Value)
  | ext (φ : Heap → Prop)
abbrev Hp := Addr → Option HO
def upd (H : Hp) (a : Addr) (o : HO) : Hp := fun b => if b = a then some o else H b
theorem upd_same {H : Hp} {a : Addr} {o : HO} : upd H a o a = some o := by unfold upd; rw [if_pos rfl]
theorem upd_ne {H : Hp} {a b : Addr} {o : HO} (h : b ≠ a) : upd H a o b = H b := by unfold upd; rw [if_neg h]
theorem upd_upd {H : Hp} {a : Addr} {o u : HO} : upd (upd H a o) a u = upd H a u := by
  funext b; unfold upd; split <;> rfl
theorem ne_of {H : Hp} {a b : Addr} {o u : HO} (h : H a = some o) (h' : H b = some u) (d : o ≠ u) : a ≠ b := by
  intro e; subst e; rw [h] at h'; exact d (Option.some.inj h')
theorem ne_of_none {H : Hp} {a b : Addr} {o : HO} (h : H a = some o) (h' : H b = none) : a ≠ b := by
  intro e; subst e; rw [h] at h'; cases h'
section
variable (P : Program) (w : World)
def ObjOk (H : Hp) (h : Heap) (a : Addr) : HO → Prop
  | .lst xs => xs.length ≤ sizeLine ∧ ∃ (its : List Value) (n : Nat), Vals xs its ∧ h.get? a = some { cls := .type "list", data := .seq its.toArray n }
  | .tup xs => xs.length ≤ sizeLine ∧ ∃ its : List Value, Vals xs its ∧ IsTup h a its.toArray
  | .dK kvs => kvs.length ≤ sizeLine ∧ (a == sysModules) = false ∧ ∃ vs, KV kvs vs ∧ h.DictOf (mixKind P w) a vs
  | .dT kvs => kvs.length ≤ sizeLine ∧ (a == sysModules) = false ∧ ∃ xs : List (List Key × Addr × Value),
      Paired (fun (p : List Key × V) (q : List Key × Addr × Value) => p.1 = q.1 ∧ H q.2.1 = some (.tup (p.1.map kV)) ∧ RelV p.2 q.2.2) kvs xs ∧
      ∃ o es ep, h.get? a = some o ∧ o.ExactDict ∧ o.data = .dict es ep ∧ es.toList = xs.map (entryOfKey (tupleKind (mixKind P w))) ∧ (xs.map (·.1)).Nodup
  | .set S n => h.SetOf (intKind P w) a S n
  | .ins C dx fs => H dx = some (.own a) ∧ fs.length ≤ 1000 ∧ dx ≠ a ∧ h.get? a = some (PySem.W.instObj C dx) ∧
      ∃ mA, h.Ns1 dx mA ∧ (∀ f, RelO (fs.lookup f) (mA f)) ∧ PySem.Within mA (fs.map (·.1))
  | .own _ => ∃ o, h.get? a = some o
  | .xd fs => ∃ mA, h.Ns1 a mA ∧ ∀ f, RelO (fs.lookup f) (mA f)
  | .rng lo hi => ∃ t u v, h.get? a = some { cls := .type "range", data := .fields #[.int lo t, .int hi u, .int 1 v] }
  | .frz o u => h.get? a = some o ∧ ObjOk H h a u
  | .tbl ps => h.get? a = some { cls := .none, data := .fields ps }
  | .met f x => h.get? a = some (PySem.W.methodObj (.ref f) (.ref x))
  | .ext φ => φ h ∧ (∃ o, h.get? a = some o) ∧ ∀ h1 h2 : Heap, φ h1 → (∀ o, h1.get? a = some o → h2.get? a = some o) → φ h2
def HOk (H : Hp) (h : Heap) : Prop := ∀ a o, H a = some o → ObjOk P w H h a o
end
section
variable {P : Program} {w : World} {H H' : Hp} {h h' : Heap} {a : Addr} {o : HO}
theorem ObjOk.lt (x : ObjOk P w H h a o) : a < h.objs.size := by
  cases o with
  | lst xs => obtain ⟨_, _, _, _, e⟩ := x; exact Heap.lt_size e
  | tup xs => obtain ⟨_, _, _, p⟩ := x; exact p.lt
  | dK kvs => obtain ⟨_, _, _, _, o, _, _, e, _⟩ := x; exact Heap.lt_size e
  | dT kvs => obtain ⟨_, _, _, _, o, _, _, e, _⟩ := x; exact Heap.lt_size e
  | set S n => obtain ⟨o, _, _, _, e, _⟩ := x; exact Heap.lt_size e
  | ins C dx fs => obtain ⟨_, _, _, e, _⟩ := x; exact Heap.lt_size e
  | own y => obtain ⟨_, e⟩ := x; exact Heap.lt_size e
  | xd fs => obtain ⟨_, ⟨_, _, _, e, _⟩, _⟩ := x; exact Heap.lt_size e
  | rng lo hi => obtain ⟨_, _, _, e⟩ := x; exact Heap.lt_size e
  | frz ob u => obtain ⟨e, _⟩ := x; exact Heap.lt_size e
  | tbl ps => exact Heap.lt_size (show h.get? a = some _ from x)
  | met f y => exact Heap.lt_size (show h.get? a = some _ from x)
  | ext φ => obtain ⟨_, ⟨_, e⟩, _⟩ := x; exact Heap.lt_size e
theorem Paired.mapP {α β : Type} {F G : α → β → Prop} : ∀ {l₁ : List α} {l₂ : List β}, Paired F l₁ l₂ → (∀ a b, F a b → G a b) → Paired G l₁ l₂
  | _, _, .nil, _ => .nil
  | _, _, .cons r t, f => .cons (f _ _ r) (Paired.mapP t f)
theorem ObjOk.stay (x : ObjOk P w H h a o) (k : ∀ b u, (b = a ∨ H b = some (.own a)) → h.get? b = some u → h'.get? b = some u)
    (ho : ∀ b, H b = some (.own a) → H' b = some (.own a)) (ht : ∀ b xs, H b = some (.tup xs) → H' b = some (.tup xs)) : ObjOk P w H' h' a o := by
  induction o with
  | lst xs => obtain ⟨z, its, n, r, e⟩ := x; exact ⟨z, its, n, r, k _ _ (.inl rfl) e⟩
  | tup xs => obtain ⟨z, its, r, ob, e, c⟩ := x; exact ⟨z, its, r, ob, k _ _ (.inl rfl) e, c⟩
  | dK kvs => obtain ⟨z, y, vs, r, ob, es, ep, e, c⟩ := x; exact ⟨z, y, vs, r, ob, es, ep, k _ _ (.inl rfl) e, c⟩
  | dT kvs =>
    obtain ⟨z, y, xs, r, ob, es, ep, e, c⟩ := x
    exact ⟨z, y, xs, Paired.mapP r fun p q z => ⟨z.1, ht _ _ z.2.1, z.2.2⟩, ob, es, ep, k _ _ (.inl rfl) e, c⟩
  | set S n => obtain ⟨ob, es, ep, t, e, c⟩ := x; exact ⟨ob, es, ep, t, k _ _ (.inl rfl) e, c⟩
  | ins C dx fs =>
    obtain ⟨d, z, ne, e, mA, ⟨od, es, ep, e2, c⟩, r⟩ := x
    exact ⟨ho _ d, z, ne, k _ _ (.inl rfl) e, mA, ⟨od, es, ep, k _ _ (.inr d) e2, c⟩, r⟩
  | own y => obtain ⟨ob, e⟩ := x; exact ⟨ob, k _ _ (.inl rfl) e⟩
  | xd fs => obtain ⟨mA, ⟨od, es, ep, e, c⟩, r⟩ := x; exact ⟨mA, ⟨od, es, ep, k _ _ (.inl rfl) e, c⟩, r⟩
  | rng lo hi => obtain ⟨t, u, v, e⟩ := x; exact ⟨t, u, v, k _ _ (.inl rfl) e⟩
  | frz ob u ih => obtain ⟨e, q⟩ := x; exact ⟨k _ _ (.inl rfl) e, ih q⟩
  | tbl ps =>
    have e : h.get? a = some { cls := .none, data := .fields ps } := x
    show h'.get? a = some { cls := .none, data := .fields ps }
    exact k a _ (.inl rfl) e
  | met f y =>
    have e : h.get? a = some (PySem.W.methodObj (.ref f) (.ref y)) := x
    show h'.get? a = some (PySem.W.methodObj (.ref f) (.ref y))
    exact k a _ (.inl rfl) e
  | ext φ => obtain ⟨p, ⟨o, e⟩, st⟩ := x; exact ⟨st _ _ p fun o q => k _ _ (.inl rfl) q, ⟨o, k _ _ (.inl rfl) e⟩, st⟩
theorem HOk.lt (x : HOk P w H h) (e : H a = some o) : a < h.objs.size := (x a o e).lt
theorem HOk.fresh (x : HOk P w H h) (e : h.objs.size ≤ a) : H a = none := by
  cases q : H a with
  | none => rfl
  | some u => exact absurd (Nat.lt_of_lt_of_le (x.lt q) e) (Nat.lt_irrefl _)
theorem HOk.kept (x : HOk P w H h) (k : ∀ b u, h.get? b = some u → h'.get? b = some u) : HOk P w H h' := fun a o e =>
  (x a o e).stay (fun b u _ q => k b u q) (fun _ q => q) fun _ _ q => q
theorem HOk.laid (x : HOk P w H h) (k : ∀ b u, h.get? b = some u → h'.get? b = some u) (hp : h.objs.size ≤ a) (new : ObjOk P w (upd H a o) h' a o) : HOk P w (upd H a o) h' := fun b u e => by
  have hn := x.fresh hp
  by_cases hb : b = a
  · subst hb; rw [upd_same] at e; cases e; exact new
  · rw [upd_ne hb] at e
    exact (x b u e).stay (fun c v _ q => k c v q) (fun c q => by rw [upd_ne (ne_of_none q hn)]; exact q) fun c xs q => by rw [upd_ne (ne_of_none q hn)]; exact q
end
def Rd (H : Hp) (a : Addr) (u : HO) : Prop := H a = some u ∨ ∃ o, H a = some (.frz o u)
theorem Rd.ok {P : Program} {w : World} {H : Hp} {h : Heap} {a : Addr} {u : HO} (r : Rd H a u) (x : HOk P w H h) : ObjOk P w H h a u := by
  rcases r with r | ⟨o, r⟩
  · exact x a u r
  · obtain ⟨_, q⟩ := x a _ r
    exact q
def Mut : Option HO → Prop
  | some (.lst _) => True
  | some (.dK _) => True
  | some (.dT _) => True
  | some (.set _ _) => True
  | some (.ins _ _ _) => True
  | some (.ext _) => True
  | _ => False
section
variable {P : Program} {w : World} {H : Hp} {h h' : Heap} {x e : Addr} {o' : HO}
theorem HOk.write (ok : HOk P w H h) (mu : Mut (H x)) (he : e = x ∨ H e = some (.own x)) (k : ∀ b u, b ≠ e → h.get? b = some u → h'.get? b = some u) (heo : ∃ u, h'.get? e = some u)
    (new : ObjOk P w (upd H x o') h' x o') : HOk P w (upd H x o') h' := fun b u q => by
  have nown : ∀ c y, H c = some (.own y) → c ≠ x := fun c y r z => by subst z; rw [r] at mu; exact mu
  have ntup : ∀ c xs, H c = some (.tup xs) → c ≠ x := fun c xs r z => by subst z; rw [r] at mu; exact mu
  by_cases hb : b = x
  · subst hb; rw [upd_same] at q; cases q; exact new
  · rw [upd_ne hb] at q
    by_cases hbe : b = e
    · have q' : H b = some (.own x) := by
        rcases he with z | z
        · exact absurd (hbe.trans z) hb
        · rw [hbe]; exact z
      rw [q] at q'; cases q'
      obtain ⟨v, hv⟩ := heo
      exact ⟨v, by rw [hbe]; exact hv⟩
    · refine (ok b u q).stay (fun c v hc r => k c v ?_ r) (fun c r => by rw [upd_ne (nown c b r)]; exact r) fun c xs r => by rw [upd_ne (ntup c xs r)]; exact r
      rcases hc with rfl | hc
      · exact hbe
      · rintro rfl
        rcases he with z | z
        · exact nown c b hc z
        · rw [hc] at z; cases z; exact hb rfl
end
structure Un (fs ex : List Addr) (H H' : Hp) (h h' : Heap) : Prop where
  keep : ∀ b o, h.get? b = some o → H b = none → b ∉ fs → b ∉ ex → h'.get? b = some o
  slot : ∀ b o, h.get? b = some o → H b = none → b ∈ fs → b ∉ ex → ∃ sl, h'.get? b = some { o with slots := sl }
  free : ∀ b o, h.get? b = some o → H b = none → b ∉ ex → H' b = none
  there : ∀ b o, h.get? b = some o → b ∉ ex → ∃ o', h'.get? b = some o'
  tups : ∀ b xs, H b = some (.tup xs) → H' b = some (.tup xs)
  frzs : ∀ b o u, H b = some (.frz o u) → H' b = some (.frz o u)
  tbls : ∀ b ps, H b = some (.tbl ps) → ∃ more, H' b = some (.tbl (ps ++ more))
section
variable {fs fs' ex ex' : List Addr} {H H1 H2 : Hp} {h h1 h2 h' : Heap} {a x e : Addr} {o : HO}
theorem Un.any (u : Un fs ex H H1 h h1) {b : Addr} {ob : Obj} (q : h.get? b = some ob) (n : H b = none) (hx : b ∉ ex) : ∃ sl, h1.get? b = some { ob with slots := sl } := by
  by_cases hb : b ∈ fs
  · exact u.slot b ob q n hb hx
  · exact ⟨ob.slots, u.keep b ob q n hb hx⟩
theorem Un.kept (k : ∀ b u, h.get? b = some u → h'.get? b = some u) : Un fs ex H H h h' :=
  ⟨fun b ob q _ _ _ => k b ob q, fun b ob q _ _ _ => ⟨ob.slots, k b ob q⟩, fun _ _ _ n _ => n, fun b ob q _ => ⟨ob, k b ob q⟩, fun _ _ q => q, fun _ _ _ q => q, fun _ ps q => ⟨#[], by rw [q]; simp⟩⟩
theorem Un.refl : Un fs ex H H h h := Un.kept fun _ _ q => q
theorem Un.laid (k : ∀ b u, h.get? b = some u → h'.get? b = some u) (hp : h.objs.size ≤ a) (hn : H a = none) : Un fs ex H (upd H a o) h h' where
  keep := fun b u q _ _ _ => k b u q
  slot := fun b u q _ _ _ => ⟨u.slots, k b u q⟩
  free := fun b u q n _ => by rw [upd_ne (Nat.ne_of_lt (Nat.lt_of_lt_of_le (Heap.lt_size q) hp))]; exact n
  there := fun b u q _ => ⟨u, k b u q⟩
  tups := fun b xs q => by rw [upd_ne (ne_of_none q hn)]; exact q
  frzs := fun b u xs q => by rw [upd_ne (ne_of_none q hn)]; exact q
  tbls := fun b ps q => ⟨#[], by rw [upd_ne (ne_of_none q hn), q]; simp⟩
theorem Un.write (mu : Mut (H x)) (he : e = x ∨ H e = some (.own x)) (k : ∀ b u, b ≠ e → h.get? b = some u → h'.get? b = some u) (heo : ∃ u, h'.get? e = some u) : Un fs ex H (upd H x o) h h' := by
  have hx : ∀ b, H b = none → b ≠ x := fun b n z => by subst z; rw [n] at mu; exact mu
  have hb : ∀ b, H b = none → b ≠ e := fun b n z => by
    subst z
    rcases he with r | r
    · exact hx b n r
    · rw [n] at r; cases r
  have hm : ∀ b u, H b = some u → ¬ Mut (some u) → b ≠ x := fun b u q nm z => by subst z; rw [q] at mu; exact nm mu
  refine ⟨fun b u q n _ _ => k b u (hb b n) q, fun b u q n _ _ => ⟨u.slots, k b u (hb b n) q⟩, fun b u q n _ => by rw [upd_ne (hx b n)]; exact n, fun b u q _ => ?_,
    fun b xs q => by rw [upd_ne (hm b _ q fun z => z)]; exact q, fun b u xs q => by rw [upd_ne (hm b _ q fun z => z)]; exact q, fun b ps q => ⟨#[], by rw [upd_ne (hm b _ q fun z => z), q]; simp⟩⟩
  by_cases hbe : b = e
  · subst hbe; exact heo
  · exact ⟨u, k b u hbe q⟩
end
def trk (h : Heap) (H : Hp) : List Addr := (List.range h.objs.size).filter fun a => (H a).isSome
def hidT (h : Heap) (H : Hp) : Heap := PySem.W.hideAll h (trk h H)
theorem hidT_size (h : Heap) (H : Hp) : (hidT h H).objs.size = h.objs.size := PySem.W.hideAll_size _ _
theorem hidT_get {h : Heap} {H : Hp} {b : Addr} {o : Obj} (e : h.get? b = some o) (n : H b = none) : (hidT h H).get? b = some o :=
  PySem.W.hideAll_get _ e fun hm => by
    have q : (H b).isSome = true := (List.mem_filter.mp hm).2
    rw [n] at q; simp at q
theorem of_hidT {h : Heap} {H : Hp} {b : Addr} {o : Obj} (e : (hidT h H).get? b = some o) : h.get? b = some o ∧ H b = none := by
  have e' : h.get? b = some o := PySem.W.of_hideAll (trk h H) e
  refine ⟨e', ?_⟩
  cases q : H b with
  | none => rfl
  | some x =>
    have hm : b ∈ trk h H := List.mem_filter.mpr ⟨List.mem_range.mpr (Heap.lt_size e'), by simp [q]⟩
    have z : (hidT h H).get? b = none := PySem.W.hideAll_none (trk h H) hm
    rw [z] at e; cases e
end L2
namespace L2
open PySem PySem.Spec PyProof.Rows
structure Mod (K : PySem.W.Frag) (mg : Str → Option Value) (base : Heap) : Prop where
  kin : K.In base
  glob : base.Ns mainGlobals mg
  blt : ∃ mb, base.Ns builtinsNs mb ∧ ∀ x : Str, x ≠ "__name__" → mb x = bootBuiltins x
  nolimit : base.NoLimit
structure Cx where
  prog : Program
  w : World
  K : PySem.W.Frag
  mg : Str → Option Value
  base : Heap
  A : Around
  N : List Str
  s_0 : Shared
  H_0 : Hp
  env : Env
  outer : List Env
  stack : List Env
  ex : List Addr
  fn : Str → Bool
  calm : Bool
  pn : List (Addr × Obj)
  xe : Value → Shared → Prop
def frs (l : List Env) : List Addr := l.filterMap (·.frame)
abbrev Cx.fs (X : Cx) : List Addr := frs X.outer
def Vis (sc : Scope) (x : Str) : Prop := sc.names.lookup x = some .local ∨ sc.names.lookup x = some .cell ∨ sc.names.lookup x = some .free
def Loc (sc : Scope) (x : Str) : Prop := sc.names.lookup x = some .local ∨ sc.names.lookup x = some .cell
def Look (env : Env) (h : Heap) (m : Str → Option Value) (x : Str) (u : Value) : Prop :=
  (env.kindOf x = some .local ∧ m x = some u) ∨ ((env.kindOf x = some .cell ∨ env.kindOf x = some .free) ∧ ∃ c, env.cells.lookup x = some c ∧ h.IsCell c (some u))
structure Cx.Ok (X : Cx) : Prop where
  mod : Mod X.K X.mg X.base
  kind : X.env.scope.kind = .function
  glob : X.env.globals = mainGlobals
  blt : X.env.builtins = builtinsNs
  above : X.s_0.heap.objs.size ≤ X.env.locals
  inj : ∀ x y c, X.env.cells.lookup x = some c → X.env.cells.lookup y = some c → x = y
  has : ∀ x, (X.env.kindOf x = some .cell ∨ X.env.kindOf x = some .free) → ∃ c, X.env.cells.lookup x = some c
  cab : ∀ x c, X.fn x = true → X.env.cells.lookup x = some c → X.s_0.heap.objs.size ≤ c
  hd : X.calm = true → X.A.handled = none
  frames : X.A.frames = some X.stack
  stk : X.stack = X.outer ∨ (X.stack = X.env :: X.outer ∧ X.env.frame = some X.env.locals)
  exf : ∀ b ∈ X.ex, b ≠ X.env.locals ∧ ∀ x c, X.env.cells.lookup x = some c → c ≠ b
  bs : ∀ b o, X.base.get? b = some o → X.s_0.heap.get? b = some o ∧ X.H_0 b = none
  bsz : X.base.objs.size ≤ X.s_0.heap.objs.size
  noex : ∀ b o, X.base.get? b = some o → b ∉ X.ex
  exfs : ∀ b ∈ X.ex, b ∉ X.fs
  funs : X.s_0.heap.FunFrames X.base X.outer
  frf : ∀ b ∈ X.fs, X.H_0 b = none
structure Inv (X : Cx) (pins : List (Addr × Obj)) (σ : List (Option V)) (H : Hp) (s : Shared) : Prop where
  ok : X.Ok
  os : s.os = X.s_0.os
  bare : AllBare s.gens
  base : Un X.fs X.ex X.H_0 H X.s_0.heap s.heap
  loc : ∃ m, s.heap.Ns X.env.locals m ∧ ∀ (i : Nat) (x : Str) (v : V), X.N[i]? = some x → σ[i]? = some (some v) → Vis X.env.scope x → ∃ u, RelV v u ∧ Look X.env s.heap m x u
  cell : ∀ x c, X.env.cells.lookup x = some c → ∃ v, s.heap.IsCell c v
  free : H X.env.locals = none
  freeC : ∀ x c, X.env.cells.lookup x = some c → H c = none
  pin : ∀ p ∈ X.pn ++ pins, s.heap.get? p.1 = some p.2 ∧ H p.1 = none ∧ p.1 ≠ X.env.locals ∧ p.1 ∉ X.fs ∧ ∀ v, p.2.data ≠ .cell v
  hok : HOk X.prog X.w H s.heap
  len : σ.length = X.N.length
section
variable {X : Cx} {pins : List (Addr × Obj)} {σ : List (Option V)} {H H' : Hp} {s : Shared} {h' : Heap}
theorem Cx.Ok.nofr (ok : X.Ok) {b : Addr} {o : Obj} (e : X.base.get? b = some o) : b ∉ X.fs := fun hb => by
  have := (ok.funs.mem hb).1
  rw [e] at this; cases this
theorem Inv.bs (I : Inv X pins σ H s) : ∀ b o, X.base.get? b = some o → s.heap.get? b = some o ∧ H b = none := fun b o e =>
  ⟨I.base.keep b o (I.ok.bs b o e).1 (I.ok.bs b o e).2 (I.ok.nofr e) (I.ok.noex b o e), I.base.free b o (I.ok.bs b o e).1 (I.ok.bs b o e).2 (I.ok.noex b o e)⟩
theorem Inv.bk (I : Inv X pins σ H s) : ∀ b o, X.base.get? b = some o → s.heap.get? b = some o := fun b o e => (I.bs b o e).1
theorem Inv.mod (I : Inv X pins σ H s) : Mod X.K X.mg X.base := I.ok.mod
theorem Inv.kIn (I : Inv X pins σ H s) : X.K.In s.heap := I.ok.mod.kin.keeps I.bk
theorem Inv.lt (I : Inv X pins σ H s) : X.env.locals < s.heap.objs.size := let ⟨_, hn, _⟩ := I.loc; hn.lt
theorem Inv.sz (I : Inv X pins σ H s) : X.s_0.heap.objs.size ≤ s.heap.objs.size := Nat.le_trans I.ok.above (Nat.le_of_lt I.lt)
theorem Inv.nofs (I : Inv X pins σ H s) {a : Addr} (h : s.heap.objs.size ≤ a) : a ∉ X.fs := fun hb => by
  obtain ⟨_, o, ho, _⟩ := I.ok.funs.mem hb
  exact absurd (Nat.lt_of_lt_of_le (Heap.lt_size ho) (Nat.le_trans I.sz h)) (Nat.lt_irrefl _)
theorem Inv.cne (I : Inv X pins σ H s) : ∀ x c, X.env.cells.lookup x = some c → c ≠ X.env.locals := fun x c e z => by
  obtain ⟨v, o, ho, hd⟩ := I.cell x c e
  obtain ⟨m, ⟨o', es, ep, ho', hd', _⟩, _⟩ := I.loc
  rw [z, ho'] at ho; cases ho; rw [hd'] at hd; cases hd
theorem Inv.funs (I : Inv X pins σ H s) : s.heap.FunFrames X.base X.outer := by
  have all : ∀ (l : List Env), (∀ b ∈ frs l, b ∈ X.fs) → X.s_0.heap.FunFrames X.base l → s.heap.FunFrames X.base l := by
    intro l
    induction l with
    | nil => intro _ _; trivial
    | cons env r ih =>
      intro hs hl
      obtain ⟨hk, ⟨L, o, hf, hn, ho, hd⟩, hr⟩ := hl
      have hL : L ∈ X.fs := hs L (by unfold frs; rw [List.filterMap_cons, hf]; exact List.mem_cons_self)
      obtain ⟨sl, e⟩ := I.base.slot L o ho (I.ok.frf L hL) hL fun z => I.ok.exfs L z hL
      exact ⟨hk, ⟨L, _, hf, hn, e, hd⟩, ih (fun b hb => hs b (by unfold frs; rw [List.filterMap_cons, hf]; exact List.mem_cons_of_mem _ hb)) hr⟩
  exact all X.outer (fun _ hb => hb) I.ok.funs
theorem Inv.stack (I : Inv X pins σ H s) : s.heap.FunFrames X.base X.stack := by
  rcases I.ok.stk with e | ⟨e, hf⟩
  · rw [e]; exact I.funs
  · rw [e]
    obtain ⟨m, hn, _⟩ := I.loc
    refine .cons (by rw [I.ok.kind]; decide) hf hn ?_ I.funs
    exact Heap.get?_none_of_le (Nat.le_trans I.ok.bsz I.ok.above)
theorem Inv.stkSub (I : Inv X pins σ H s) : ∀ b ∈ frs X.stack, b ∈ X.env.locals :: X.fs := fun b hb => by
  rcases I.ok.stk with e | ⟨e, hf⟩
  · rw [e] at hb; exact List.mem_cons_of_mem _ hb
  · rw [e] at hb
    unfold frs at hb
    rw [List.filterMap_cons, hf] at hb
    exact hb
theorem Inv.stkFree (I : Inv X pins σ H s) : ∀ b ∈ frs X.stack, H b = none := fun b hb => by
  rcases List.mem_cons.mp (I.stkSub b hb) with e | hb
  · rw [e]; exact I.free
  · obtain ⟨_, o, ho, _⟩ := I.ok.funs.mem hb
    exact I.base.free b o ho (I.ok.frf b hb) fun z => I.ok.exfs b z hb
theorem Inv.step {g' : Array GenState} {t' : Nat} {d' : Drawn} {ch : List Addr} (I : Inv X pins σ H s)
    (hch : ∀ b ∈ ch, (b ∈ X.ex ∨ X.s_0.heap.objs.size ≤ b) ∧ b ≠ X.env.locals ∧ (∀ x c, X.env.cells.lookup x = some c → c ≠ b) ∧ ∀ p ∈ X.pn ++ pins, p.1 ≠ b)
    (keep : ∀ b o, b ≠ X.env.locals → b ∉ X.fs → b ∉ ch → s.heap.get? b = some o → H b = none → h'.get? b = some o)
    (slot : ∀ b o, b ≠ X.env.locals → b ∈ X.fs → b ∉ ch → s.heap.get? b = some o → H b = none → ∃ sl, h'.get? b = some { o with slots := sl }) (free : ∀ b o, b ∉ ch → s.heap.get? b = some o → H b = none → H' b = none)
    (there : ∀ b o, b ∉ ch → s.heap.get? b = some o → ∃ o', h'.get? b = some o')
    (tups : ∀ b xs, H b = some (.tup xs) → H' b = some (.tup xs)) (frzs : ∀ b o u, H b = some (.frz o u) → H' b = some (.frz o u)) (tbls : ∀ b ps, H b = some (.tbl ps) → ∃ more, H' b = some (.tbl (ps ++ more)))
    (ns : ∀ m, s.heap.Ns X.env.locals m → h'.Ns X.env.locals m) (hok : HOk X.prog X.w H' h') (hg : AllBare g') :
    Inv X pins σ H' { s with heap := h', gens := g', drawn := d', toks := t' } := by
  have neL : ∀ b o, X.s_0.heap.get? b = some o → b ≠ X.env.locals := fun b o e => Nat.ne_of_lt (Nat.lt_of_lt_of_le (Heap.lt_size e) I.ok.above)
  have neC : ∀ b o, X.s_0.heap.get? b = some o → b ∉ X.ex → b ∉ ch := fun b o e hx hb => by
    rcases (hch b hb).1 with z | z
    · exact hx z
    · exact absurd (Nat.lt_of_lt_of_le (Heap.lt_size e) z) (Nat.lt_irrefl _)
  have cellK : ∀ x c, X.env.cells.lookup x = some c → ∀ v, s.heap.IsCell c v → h'.IsCell c v := fun x c e v ⟨o, ho, hd⟩ => by
    have nch : c ∉ ch := fun z => (hch c z).2.2.1 x c e rfl
    by_cases hc : c ∈ X.fs
    · obtain ⟨sl, q⟩ := slot c o (I.cne x c e) hc nch ho (I.freeC x c e)
      exact ⟨_, q, hd⟩
    · exact ⟨o, keep c o (I.cne x c e) hc nch ho (I.freeC x c e), hd⟩
  refine ⟨I.ok, I.os, hg, ⟨fun b o e n hb hx => ?_, fun b o e n hb hx => ?_, fun b o e n hx => ?_, fun b o e hx => ?_, fun b xs e => tups b xs (I.base.tups b xs e), fun b o xs e => frzs b o xs (I.base.frzs b o xs e), fun b ps e => ?_⟩, ?_, fun x c e => ?_, ?_, fun x c e => ?_, fun p hp => ?_, hok, I.len⟩
  · exact keep b o (neL b o e) hb (neC b o e hx) (I.base.keep b o e n hb hx) (I.base.free b o e n hx)
  · obtain ⟨sl, e1⟩ := I.base.slot b o e n hb hx
    obtain ⟨sl', e2⟩ := slot b _ (neL b o e) hb (neC b o e hx) e1 (I.base.free b o e n hx)
    exact ⟨sl', e2⟩
  · obtain ⟨o', e1⟩ := I.base.there b o e hx
    exact free b o' (neC b o e hx) e1 (I.base.free b o e n hx)
  · obtain ⟨o', e1⟩ := I.base.there b o e hx
    exact there b o' (neC b o e hx) e1
  · obtain ⟨m1, e1⟩ := I.base.tbls b ps e
    obtain ⟨m2, e2⟩ := tbls b _ e1
    exact ⟨m1 ++ m2, by rw [e2, Array.append_assoc]⟩
  · obtain ⟨m, hn, hl⟩ := I.loc
    refine ⟨m, ns m hn, fun i x v e1 e2 e3 => ?_⟩
    obtain ⟨u, r, l⟩ := hl i x v e1 e2 e3
    refine ⟨u, r, ?_⟩
    rcases l with l | ⟨k, c, e, z⟩
    · exact .inl l
    · exact .inr ⟨k, c, e, cellK x c e _ z⟩
  · obtain ⟨v, z⟩ := I.cell x c e
    exact ⟨v, cellK x c e v z⟩
  · obtain ⟨m, ⟨o, _, _, ho, _⟩, _⟩ := I.loc
    exact free _ o (fun z => (hch _ z).2.1 rfl) ho I.free
  · obtain ⟨v, o, ho, hd⟩ := I.cell x c e
    exact free c o (fun z => (hch c z).2.2.1 x c e rfl) ho (I.freeC x c e)
  · obtain ⟨e, n, ne, nf, d⟩ := I.pin p hp
    have nch : p.1 ∉ ch := fun z => (hch p.1 z).2.2.2 p hp rfl
    exact ⟨keep p.1 p.2 ne nf nch e n, free p.1 p.2 nch e n, ne, nf, d⟩
theorem Inv.un {t' : Nat} (I : Inv X pins σ H s) (u : Un X.fs [] H H' s.heap h') (hok : HOk X.prog X.w H' h') : Inv X pins σ H' { s with heap := h', toks := t' } := by
  obtain ⟨m, ⟨o, es, ep, ho, r⟩, _⟩ := id I.loc
  obtain ⟨sl, hL⟩ := u.any ho I.free (by simp)
  exact I.step (g' := s.gens) (d' := s.drawn) (ch := []) (fun _ z => nomatch z) (fun b o _ hb _ e n => u.keep b o e n hb (by simp)) (fun b o _ hb _ e n => u.slot b o e n hb (by simp)) (fun b o _ e n => u.free b o e n (by simp)) (fun b o _ e => u.there b o e (by simp)) u.tups u.frzs u.tbls (fun m' hm => by
    obtain ⟨o', es', ep', ho', r'⟩ := hm
    rw [ho] at ho'; cases ho'
    exact ⟨_, es', ep', hL, r'⟩) hok I.bare
theorem Inv.call {g' : Array GenState} {t' : Nat} {d' : Drawn} {ch : List Addr} (I : Inv X pins σ H s) (u : Un (frs X.stack) ch H H' s.heap h') (hok : HOk X.prog X.w H' h') (hg : AllBare g')
    (hch : ∀ b ∈ ch, (b ∈ X.ex ∨ X.s_0.heap.objs.size ≤ b) ∧ b ≠ X.env.locals ∧ (∀ x c, X.env.cells.lookup x = some c → c ≠ b) ∧ ∀ p ∈ X.pn ++ pins, p.1 ≠ b) :
    Inv X pins σ H' { s with heap := h', gens := g', drawn := d', toks := t' } := by
  obtain ⟨m, ⟨o, es, ep, ho, r⟩, _⟩ := id I.loc
  obtain ⟨sl, hL⟩ := u.any ho I.free fun z => (hch _ z).2.1 rfl
  exact I.step (ch := ch) hch (fun b o hL hb hc e n => u.keep b o e n (fun z => (List.mem_cons.mp (I.stkSub b z)).elim hL hb) hc) (fun b o _ _ hc e n => u.any e n hc) (fun b o hc e n => u.free b o e n hc) (fun b o hc e => u.there b o e hc) u.tups u.frzs u.tbls (fun m' hm => by
    obtain ⟨o', es', ep', ho', r'⟩ := hm
    rw [ho] at ho'; cases ho'
    exact ⟨_, es', ep', hL, r'⟩) hok hg
theorem Inv.turned {t' : Nat} {it : Addr} (I : Inv X pins σ H s) (k : ∀ b o, b ≠ it → s.heap.get? b = some o → h'.get? b = some o) (hn : H it = none) (hL : it ≠ X.env.locals)
    (h1 : it ∈ X.ex ∨ X.s_0.heap.objs.size ≤ it) (h2 : ∀ x c, X.env.cells.lookup x = some c → c ≠ it) (h3 : ∀ p ∈ X.pn ++ pins, p.1 ≠ it) : Inv X pins σ H { s with heap := h', toks := t' } := by
  have nit : ∀ b u, H b = some u → b ≠ it := fun b u e z => by rw [z, hn] at e; cases e
  refine I.step (g' := s.gens) (d' := s.drawn) (ch := [it]) (fun b hb => ?_) (fun b o _ _ hc e _ => k b o (fun z => hc (by simp [z])) e) (fun b o _ _ hc e _ => ⟨o.slots, k b o (fun z => hc (by simp [z])) e⟩) (fun _ _ _ _ n => n)
    (fun b o hc e => ⟨o, k b o (fun z => hc (by simp [z])) e⟩) (fun _ _ e => e) (fun _ _ _ e => e) (fun b ps e => ⟨#[], by rw [e]; simp⟩) (fun m hm => ?_) (fun b u e => ?_) I.bare
  · have e : b = it := by simpa using hb
    subst e
    exact ⟨h1, hL, h2, h3⟩
  · obtain ⟨o, es, ep, ho, r⟩ := hm
    exact ⟨o, es, ep, k _ o (Ne.symm hL) ho, r⟩
  · refine (I.hok b u e).stay (fun c v hc q => k c v ?_ q) (fun _ q => q) fun _ _ q => q
    rcases hc with z | z
    · rw [z]; exact nit b u e
    · exact nit c _ z
theorem Inv.tok (I : Inv X pins σ H s) (t : Nat) : Inv X pins σ H { s with toks := t } := I.un (h' := s.heap) (t' := t) Un.refl I.hok
theorem Inv.kept {t' : Nat} (I : Inv X pins σ H s) (k : ∀ b u, s.heap.get? b = some u → h'.get? b = some u) : Inv X pins σ H { s with heap := h', toks := t' } := I.un (Un.kept k) (I.hok.kept k)
theorem Inv.laid {a : Addr} {o : HO} {t' : Nat} (I : Inv X pins σ H s) (k : ∀ b u, s.heap.get? b = some u → h'.get? b = some u) (hp : s.heap.objs.size ≤ a) (new : ObjOk X.prog X.w (upd H a o) h' a o) :
    Inv X pins σ (upd H a o) { s with heap := h', toks := t' } := I.un (Un.laid k hp (I.hok.fresh hp)) (I.hok.laid k hp new)
theorem Inv.write {x e : Addr} {o : HO} {t' : Nat} (I : Inv X pins σ H s) (mu : Mut (H x)) (he : e = x ∨ H e = some (.own x)) (k : ∀ b u, b ≠ e → s.heap.get? b = some u → h'.get? b = some u) (heo : ∃ u, h'.get? e = some u)
    (new : ObjOk X.prog X.w (upd H x o) h' x o) : Inv X pins σ (upd H x o) { s with heap := h', toks := t' } := I.un (Un.write mu he k heo) (I.hok.write mu he k heo new)
theorem Inv.weak {σ' : List (Option V)} (I : Inv X pins σ H s) (hl : σ'.length = σ.length) (w : ∀ (i : Nat) v, σ'[i]? = some (some v) → σ[i]? = some (some v)) : Inv X pins σ' H s :=
  ⟨I.ok, I.os, I.bare, I.base, let ⟨m, hn, hl'⟩ := I.loc; ⟨m, hn, fun i x v e1 e2 e3 => hl' i x v e1 (w i v e2) e3⟩, I.cell, I.free, I.freeC, I.pin, I.hok, hl.trans I.len⟩
theorem Inv.pins_of {pins' : List (Addr × Obj)} (I : Inv X pins σ H s) (h : ∀ p ∈ pins', s.heap.get? p.1 = some p.2 ∧ H p.1 = none ∧ p.1 ≠ X.env.locals ∧ p.1 ∉ X.fs ∧ ∀ v, p.2.data ≠ .cell v) : Inv X pins' σ H s :=
  ⟨I.ok, I.os, I.bare, I.base, I.loc, I.cell, I.free, I.freeC, fun p hp => (List.mem_append.mp hp).elim (fun z => I.pin p (List.mem_append_left _ z)) (h p), I.hok, I.len⟩
theorem nodup_ix {N : List Str} (hN : N.Nodup) {i j : Nat} {x : Str} (a : N[i]? = some x) (b : N[j]? = some x) : i = j := by
  obtain ⟨h1, e1⟩ := List.getElem?_eq_some_iff.mp a
  obtain ⟨h2, e2⟩ := List.getElem?_eq_some_iff.mp b
  exact (List.getElem_inj hN).mp (e1.trans e2.symm)
theorem store_ok2 {M : Model} {A : Around} {E : Value → Shared → Prop} {i : Nat} {x : Str} {v : V} {u : Value} {Q : Unit → Shared → Prop} (I : Inv X pins σ H s) (hN : X.N.Nodup) (hi : X.N[i]? = some x) (hx : Loc X.env.scope x) (r : RelV v u)
    (h : ∀ s', Inv X pins (σ.set i (some v)) H s' → (∃ a, Heap.SameBut a s.heap s'.heap ∧ (a = X.env.locals ∨ X.env.cells.lookup x = some a)) → Q () s') (hf : X.fn x = true ∨ X.env.scope.names.lookup x = some .local := by first | exact .inl rfl | exact .inr rfl | assumption) : wpAny M A (storeName X.env x u) Q E s := by
  obtain ⟨m, hn, hl⟩ := id I.loc
  have hcls : (X.env.scope.kind == .class || (X.env.scope.kind == .module && X.env.locals != X.env.globals)) = false := by rw [I.ok.kind]; rfl
  have hiσ : i < σ.length := by rw [I.len]; exact (List.getElem?_eq_some_iff.mp hi).1
  have cne := I.cne
  have tracked : ∀ {a : Addr} {h' : Heap}, (∃ o, s.heap.get? a = some o ∧ H a = none) → Heap.SameBut a s.heap h' → HOk X.prog X.w H h' := fun {a h'} ha hs b ob e => by
    obtain ⟨_, _, hfree⟩ := ha
    refine (I.hok b ob e).stay (fun c w' hc q => (hs.2 c ?_).trans q) (fun _ q => q) fun _ _ q => q
    rintro rfl
    rcases hc with rfl | hc
    · rw [hfree] at e; cases e
    · rw [hfree] at hc; cases hc
  rcases hx with hk | hk
  · refine wpAny_storeName_local hk hn (fun h' hn' hs => ?_) hcls
    obtain ⟨oL, _, _, hoL, _⟩ := id hn
    refine h _ ⟨I.ok, I.os, I.bare, ⟨fun b o e n hb hx => ?_, fun b o e n hb hx => ?_, I.base.free, fun b o e hx => ?_, I.base.tups, I.base.frzs, I.base.tbls⟩, ⟨_, hn', fun j y v' e1 e2 e3 => ?_⟩, fun y c e => ?_, I.free, I.freeC, fun p hp => ?_, tracked ⟨oL, hoL, I.free⟩ hs, by simpa using I.len⟩ ⟨_, hs, .inl rfl⟩
    · exact (hs.2 b (Nat.ne_of_lt (Nat.lt_of_lt_of_le (Heap.lt_size e) I.ok.above))).trans (I.base.keep b o e n hb hx)
    · obtain ⟨sl, e1⟩ := I.base.slot b o e n hb hx
      exact ⟨sl, (hs.2 b (Nat.ne_of_lt (Nat.lt_of_lt_of_le (Heap.lt_size e) I.ok.above))).trans e1⟩
    · obtain ⟨o', e1⟩ := I.base.there b o e hx
      exact ⟨o', (hs.2 b (Nat.ne_of_lt (Nat.lt_of_lt_of_le (Heap.lt_size e) I.ok.above))).trans e1⟩
    · by_cases hj : j = i
      · subst hj
        rw [hi] at e1; cases e1
        rw [List.getElem?_set_self hiσ] at e2
        cases e2
        exact ⟨u, r, .inl ⟨hk, by simp⟩⟩
      · rw [List.getElem?_set_ne (Ne.symm hj)] at e2
        obtain ⟨u', r', q⟩ := hl j y v' e1 e2 e3
        refine ⟨u', r', ?_⟩
        rcases q with ⟨k, e⟩ | ⟨k, c, e, z⟩
        · refine .inl ⟨k, ?_⟩
          have : y ≠ x := fun e => hj (nodup_ix hN e1 (e ▸ hi))
          simp [this, e]
        · exact .inr ⟨k, c, e, z.sameBut hs (cne y c e)⟩
    · obtain ⟨w', z⟩ := I.cell y c e
      exact ⟨w', z.sameBut hs (cne y c e)⟩
    · obtain ⟨e, n, ne, nf, d⟩ := I.pin p hp
      exact ⟨(hs.2 p.1 ne).trans e, n, ne, nf, d⟩
  · have hfn : X.fn x = true := by
      rcases hf with z | z
      · exact z
      · rw [z] at hk; cases hk
    obtain ⟨c, hc⟩ := I.ok.has x (.inl hk)
    obtain ⟨w', z⟩ := I.cell x c hc
    refine wpAny_storeName_cell I.ok.kind hk hc z (fun h' hc' hs => ?_)
    obtain ⟨oc, hoc, hocd⟩ := id z
    refine h { s with heap := h' } ⟨I.ok, I.os, I.bare, ⟨fun b o e n hb hx => ?_, fun b o e n hb hx => ?_, I.base.free, fun b o e hx => ?_, I.base.tups, I.base.frzs, I.base.tbls⟩, ⟨m, hn.sameBut hs (Ne.symm (cne x c hc)), fun j y v' e1 e2 e3 => ?_⟩, fun y c' e => ?_, I.free, I.freeC, fun p hp => ?_, tracked ⟨oc, hoc, I.freeC x c hc⟩ hs, by simpa using I.len⟩ ⟨c, hs, .inr hc⟩
    · exact (hs.2 b (Nat.ne_of_lt (Nat.lt_of_lt_of_le (Heap.lt_size e) (I.ok.cab x c hfn hc)))).trans (I.base.keep b o e n hb hx)
    · obtain ⟨sl, e1⟩ := I.base.slot b o e n hb hx
      exact ⟨sl, (hs.2 b (Nat.ne_of_lt (Nat.lt_of_lt_of_le (Heap.lt_size e) (I.ok.cab x c hfn hc)))).trans e1⟩
    · obtain ⟨o', e1⟩ := I.base.there b o e hx
      exact ⟨o', (hs.2 b (Nat.ne_of_lt (Nat.lt_of_lt_of_le (Heap.lt_size e) (I.ok.cab x c hfn hc)))).trans e1⟩
    · by_cases hj : j = i
      · subst hj
        rw [hi] at e1; cases e1
        rw [List.getElem?_set_self hiσ] at e2
        cases e2
        exact ⟨u, r, .inr ⟨.inl hk, c, hc, hc'⟩⟩
      · rw [List.getElem?_set_ne (Ne.symm hj)] at e2
        obtain ⟨u', r', q⟩ := hl j y v' e1 e2 e3
        refine ⟨u', r', ?_⟩
        rcases q with q | ⟨k, c', e, z'⟩
        · exact .inl q
        · refine .inr ⟨k, c', e, z'.sameBut hs ?_⟩
          rintro rfl
          exact hj (nodup_ix hN e1 (I.ok.inj _ _ _ e hc ▸ hi))
    · by_cases hcc : c' = c
      · subst hcc; exact ⟨_, hc'⟩
      · obtain ⟨w2, z2⟩ := I.cell y c' e
        exact ⟨w2, z2.sameBut hs hcc⟩
    · obtain ⟨e, n, ne, nf, d⟩ := I.pin p hp
      refine ⟨(hs.2 p.1 ?_).trans e, n, ne, nf, d⟩
      intro q
      rw [q, hoc] at e
      have q' : oc = p.2 := Option.some.inj e
      exact d w' (by rw [← q']; exact hocd)
theorem store_ok {M : Model} {A : Around} {E : Value → Shared → Prop} {i : Nat} {x : Str} {v : V} {u : Value} {Q : Unit → Shared → Prop} (I : Inv X pins σ H s) (hN : X.N.Nodup) (hi : X.N[i]? = some x) (hx : Loc X.env.scope x) (r : RelV v u)
    (h : ∀ s', Inv X pins (σ.set i (some v)) H s' → Q () s') (hf : X.fn x = true ∨ X.env.scope.names.lookup x = some .local := by first | exact .inl rfl | exact .inr rfl | assumption) : wpAny M A (storeName X.env x u) Q E s :=
  store_ok2 I hN hi hx r (fun s' I' _ => h s' I') hf
theorem Inv.call' {s' : Shared} {ch : List Addr} (I : Inv X pins σ H s) (ho : s'.os = s.os) (u : Un (frs X.stack) ch H H' s.heap s'.heap) (hok : HOk X.prog X.w H' s'.heap) (hg : AllBare s'.gens)
    (hch : ∀ b ∈ ch, (b ∈ X.ex ∨ X.s_0.heap.objs.size ≤ b) ∧ b ≠ X.env.locals ∧ (∀ x c, X.env.cells.lookup x = some c → c ≠ b) ∧ ∀ p ∈ X.pn ++ pins, p.1 ≠ b) : Inv X pins σ H' s' := by
  obtain ⟨h', g', d', t', o'⟩ := s'
  have e : o' = s.os := ho
  subst e
  exact I.call (g' := g') (t' := t') (d' := d') u hok hg hch
end
abbrev XK := Value → Option Addr → Hp → Prop
abbrev St := List (Option V)
abbrev VK := V → Hp → Prop
abbrev TE := St → Hp → VK → Prop
abbrev TT := St → Hp → (Bool → Hp → Prop) → Prop
abbrev TA := St → Hp → (List V → Hp → Prop) → Prop
structure Ends where
  nx : St → Hp → Prop
  rt : VK
  bk : St → Hp → Prop := fun _ _ => False
  ct : St → Hp → Prop := fun _ _ => False
abbrev TS := Ends → St → Hp → Prop
def EP (X : Cx) (pins : List (Addr × Obj)) (σ : St) (Q : VK) (u : Value) (s' : Shared) : Prop := ∃ v H', Inv X pins σ H' s' ∧ RelV v u ∧ Q v H'
def TP (X : Cx) (pins : List (Addr × Obj)) (σ : St) (Q : Bool → Hp → Prop) (b : Bool) (s' : Shared) : Prop := ∃ H', Inv X pins σ H' s' ∧ Q b H'
def AP (X : Cx) (pins : List (Addr × Obj)) (σ : St) (Q : List V → Hp → Prop) (us : List Value) (s' : Shared) : Prop := ∃ vs H', Inv X pins σ H' s' ∧ Vals vs us ∧ Q vs H'
def SP (X : Cx) (pins : List (Addr × Obj)) (D : Ends) (f : Flow) (s' : Shared) : Prop :=
  match f with
  | .next => ∃ σ' H', Inv X pins σ' H' s' ∧ D.nx σ' H'
  | .brk => ∃ σ' H', Inv X pins σ' H' s' ∧ D.bk σ' H'
  | .cont => ∃ σ' H', Inv X pins σ' H' s' ∧ D.ct σ' H'
  | .ret u => ∃ v σ' H', Inv X pins σ' H' s' ∧ RelV v u ∧ D.rt v H'
def PE (X : Cx) (e : Expr) (t : TE) : Prop :=
  ∀ (pins : List (Addr × Obj)) (s : Shared) (σ : St) (H : Hp) (Q : VK), Inv X pins σ H s → t σ H Q → wpAny (model X.prog X.w) X.A (eval e X.env) (EP X pins σ Q) X.xe s
def PT (X : Cx) (e : Expr) (t : TT) : Prop :=
  ∀ (pins : List (Addr × Obj)) (s : Shared) (σ : St) (H : Hp) (Q : Bool → Hp → Prop), Inv X pins σ H s → t σ H Q → wpAny (model X.prog X.w) X.A (isTrue e X.env (eval e X.env)) (TP X pins σ Q) X.xe s
def PW (X : Cx) (e : Expr) (t : TT) : Prop :=
  ∀ (whole : Sem Value) (pins : List (Addr × Obj)) (s : Shared) (σ : St) (H : Hp) (Q : Bool → Hp → Prop), Inv X pins σ H s → t σ H Q → wpAny (model X.prog X.w) X.A (isTrue e X.env whole) (TP X pins σ Q) X.xe s
theorem PW.pt {X : Cx} {e : Expr} {t : TT} (h : PW X e t) : PT X e t := h _
def PA (X : Cx) (es : List Expr) (t : TA) : Prop :=
  ∀ (pos : Pos) (pins : List (Addr × Obj)) (s : Shared) (σ : St) (H : Hp) (Q : List V → Hp → Prop), Inv X pins σ H s → t σ H Q → wpAny (model X.prog X.w) X.A (spliced (backTo pos (starEach es X.env))) (AP X pins σ Q) X.xe s
def PS (X : Cx) (st : Stmt) (t : TS) : Prop :=
  ∀ (pins : List (Addr × Obj)) (s : Shared) (σ : St) (H : Hp) (D : Ends), Inv X pins σ H s → t D σ H → wpAny (model X.prog X.w) X.A (exec st X.env) (SP X pins D) X.xe s
def PSs (X : Cx) (st : List Stmt) (t : TS) : Prop :=
  ∀ (pins : List (Addr × Obj)) (s : Shared) (σ : St) (H : Hp) (D : Ends), Inv X pins σ H s → t D σ H → wpAny (model X.prog X.w) X.A (execs st X.env) (SP X pins D) X.xe s
theorem thn {α : Type} {t : Sem α} {Q Q' : α → Shared → Prop} {M : Model} {A : Around} {E : Value → Shared → Prop} {s : Shared} (h : wpAny M A t Q E s) (hQ : ∀ a s, Q a s → Q' a s) : wpAny M A t Q' E s := wpAny_mono h hQ fun _ _ x => x
end L2
namespace L2
open PySem PySem.Spec PyProof.Rows
section
variable {X : Cx}
def tVar (i : Nat) : TE := fun σ H Q => ∃ v, σ[i]? = some (some v) ∧ Q v H
def tC (v : V) : TE := fun _ H Q => Q v H
theorem pe_var {i : Nat} {x : Str} {pos : Pos} (hN : X.N[i]? = some x) (hv : Vis X.env.scope x) (hd : (x == ("__debug__" : Str)) = false := by decide) (hcd : (x == ("__classdict__" : Str)) = false := by decide) : PE X (.Name x pos) (tVar i) := by
  intro pins s σ H Q I h
  obtain ⟨v, e, h⟩ := h
  obtain ⟨m, hn, hl⟩ := I.loc
  obtain ⟨u, r, l⟩ := hl i x v hN e hv
  have fin : EP X pins σ Q u s := ⟨v, H, I, r, h⟩
  rcases l with ⟨hk, hm⟩ | ⟨hk, c, hc, hcell⟩
  · exact wpAny_Name (wpAny_loadName_local I.ok.kind hk hn hm fin) hd
  · rcases hk with hk | hk
    · exact wpAny_Name (wpAny_loadName_cell I.ok.kind hk hc hcell fin) hd
    · exact wpAny_Name (wpAny_loadName_free I.ok.kind hk hc hcell fin hcd) hd
theorem pe_int {i j pos} : PE X (.Constant (.int i) j pos) (tC (.int i)) := fun _ _ _ H _ I h => wpAny_Constant_int ⟨.int i, H, I.tok _, ⟨_, rfl⟩, h⟩
theorem pe_non {j pos} : PE X (.Constant .none j pos) (tC .non) := fun _ _ _ H _ I h => Constant_none ⟨.non, H, I, rfl, h⟩
def Gl (X : Cx) (x : Str) : Prop := X.env.kindOf x = some .globalImplicit
theorem ld_glob {E : Value → Shared → Prop} {pins : List (Addr × Obj)} {s : Shared} {σ : St} {H : Hp} {x : Str} {u : Value} {pos : Pos} {Q : Value → Shared → Prop} (I : Inv X pins σ H s) (hg : Gl X x) (hm : X.mg x = some u) (h : Q u s)
    (hd : (x == ("__debug__" : Str)) = false := by decide) : wpAny (model X.prog X.w) X.A (eval (.Name x pos) X.env) Q E s :=
  Calls.Name_function_global I.ok.kind hg (Calls.loadGlobal_global (by rw [I.ok.glob]; exact I.mod.glob.keeps I.bk) hm h) hd
theorem ld_blt {E : Value → Shared → Prop} {pins : List (Addr × Obj)} {s : Shared} {σ : St} {H : Hp} {x : Str} {u : Value} {pos : Pos} {Q : Value → Shared → Prop} (I : Inv X pins σ H s) (hg : Gl X x) (hm : X.mg x = none) (hv : bootBuiltins x = some u) (h : Q u s)
    (hn : x ≠ "__name__" := by decide) (hd : (x == ("__debug__" : Str)) = false := by decide) : wpAny (model X.prog X.w) X.A (eval (.Name x pos) X.env) Q E s := by
  obtain ⟨mb, h1, h2⟩ := I.mod.blt
  exact Calls.Name_function_global I.ok.kind hg (Calls.loadGlobal_builtin (by rw [I.ok.glob]; exact I.mod.glob.keeps I.bk) hm (by rw [I.ok.blt]; exact h1.keeps I.bk) ((h2 x hn).trans hv) h) hd
theorem pe_glob {x : Str} {v : V} {u : Value} {pos : Pos} (hg : Gl X x) (hm : X.mg x = some u) (r : RelV v u) (hd : (x == ("__debug__" : Str)) = false := by decide) : PE X (.Name x pos) (tC v) :=
  fun _ _ _ H _ I h => ld_glob I hg hm ⟨v, H, I, r, h⟩ hd
variable {a b : Expr} {ta tb : TE} {pos : Pos}
def PC (X : Cx) (op : CmpOp) (a b : Expr) (t : TE) : Prop :=
  ∀ (pins : List (Addr × Obj)) (s : Shared) (σ : St) (H : Hp) (Q : VK), Inv X pins σ H s → t σ H Q →
    wpAny (model X.prog X.w) X.A (eval a X.env) (fun v s₁ => wpAny (model X.prog X.w) X.A (eval b X.env) (fun u s₂ => wpAny (model X.prog X.w) X.A (compareOp op v u) (EP X pins σ Q) X.xe s₂) X.xe s₁) X.xe s
def tB (t : TE) : TT := fun σ H Q => t σ H fun x H1 => ∃ c, x = .bl c ∧ Q c H1
theorem pe_cmp {op : CmpOp} {t : TE} (h : PC X op a b t) (h1 : behindInMarks op b = false := by first | exact nobehind _ (by decide) (by decide) | rfl) : PE X (.Compare a [op] [b] pos) t := fun pins s σ H Q I hw => wpAny_Compare1 (h pins s σ H Q I hw) h1
theorem pt_val {e : Expr} {t : TE} (h : PE X e t) (he : ∀ whole, isTrue e X.env whole = (do let v ← whole; standAt e.pos; holding [v] (truthy v)) := by intro _; rfl) : PT X e (tB t) := by
  intro pins s σ H Q I hw
  refine isTrue_plain (thn (h pins s σ H _ I hw) fun v s1 ⟨x, H1, I1, r1, q1⟩ => ?_) (he _)
  obtain ⟨d, rfl, q⟩ := q1
  cases r1
  exact wpAny_truthy_bool ⟨H1, I1, q⟩
variable {tA tB' : TT} {rest : List Expr}
def tAnd (t u : TT) : TT := fun σ H Q => t σ H fun c H1 => if c = true then u σ H1 Q else Q false H1
def tOr (t u : TT) : TT := fun σ H Q => t σ H fun c H1 => if c = true then Q true H1 else u σ H1 Q
def tNot (t : TT) : TT := fun σ H Q => t σ H fun c H1 => Q (!c) H1
theorem pw_and1 (ha : PT X a tA) : PW X (.BoolOp .And [a] pos) tA := by
  intro wh pins s σ H Q I h
  refine isTrue_and (thn (ha pins s σ H Q I h) fun c s1 e => ?_)
  cases c with
  | true => exact isTrue_and_nil e
  | false => exact e
theorem pw_or1 (ha : PT X a tA) : PW X (.BoolOp .Or [a] pos) tA := by
  intro wh pins s σ H Q I h
  refine isTrue_or (thn (ha pins s σ H Q I h) fun c s1 e => ?_)
  cases c with
  | false => exact isTrue_or_nil e
  | true => exact e
theorem pw_and (ha : PT X a tA) (hb : PW X (.BoolOp .And (b :: rest) pos) tB') : PW X (.BoolOp .And (a :: b :: rest) pos) (tAnd tA tB') := by
  intro wh pins s σ H Q I h
  refine isTrue_and (thn (ha pins s σ H _ I h) fun c s1 ⟨H1, I1, q1⟩ => ?_)
  cases c with
  | true => exact hb wh pins s1 σ H1 Q I1 q1
  | false => exact ⟨H1, I1, q1⟩
theorem pw_or (ha : PT X a tA) (hb : PW X (.BoolOp .Or (b :: rest) pos) tB') : PW X (.BoolOp .Or (a :: b :: rest) pos) (tOr tA tB') := by
  intro wh pins s σ H Q I h
  refine isTrue_or (thn (ha pins s σ H _ I h) fun c s1 ⟨H1, I1, q1⟩ => ?_)
  cases c with
  | true => exact ⟨H1, I1, q1⟩
  | false => exact hb wh pins s1 σ H1 Q I1 q1
theorem pt_not (ha : PT X a tA) : PT X (.UnaryOp .Not a pos) (tNot tA) := by
  intro pins s σ H Q I h
  exact isTrue_not (ha pins s σ H (fun c H1 => Q (!c) H1) I h)
def tIf (t : TT) (ta tb : TE) : TE := fun σ H Q => t σ H fun c H1 => if c = true then ta σ H1 Q else tb σ H1 Q
theorem pe_ifExp {c : Expr} (hc : PT X c tA) (ha : PE X a ta) (hb : PE X b tb) : PE X (.IfExp c a b pos) (tIf tA ta tb) := by
  intro pins s σ H Q I h
  refine wpAny_IfExp (thn (hc pins s σ H _ I h) fun d s1 ⟨H1, I1, q1⟩ => ?_)
  cases d with
  | true => exact ha pins s1 σ H1 Q I1 q1
  | false => exact hb pins s1 σ H1 Q I1 q1
end
end L2
namespace L2
open PySem PySem.Spec PyProof.Rows
def SqL (K : PySem.W.Frag) (H : Hp) (a : Addr) (xs : List V) : Prop :=
  Rd H a (.lst xs) ∨
    ∃ (o : Obj) (its : Array Value) (n : Nat), K.lookup a = some o ∧ o.cls = .type "list" ∧ o.dict = none ∧ o.data = .seq its n ∧ its.size ≤ sizeLine ∧ Vals xs its.toList
def SqT (K : PySem.W.Frag) (H : Hp) (a : Addr) (xs : List V) : Prop :=
  Rd H a (.tup xs) ∨
    ∃ (o : Obj) (its : Array Value) (n : Nat), K.lookup a = some o ∧ o.cls = .type "tuple" ∧ o.data = .seq its n ∧ its.size ≤ sizeLine ∧ Vals xs its.toList
def absV : Value → Option V
  | .none => some .non
  | .bool b => some (.bl b)
  | .int i _ => some (.int i)
  | .str x _ => some (.str x)
  | .bytes b _ => some (.byt b)
  | .float b _ => some (.flt b)
  | .ref a => some (.ref a)
  | .type n => some (.ty n)
  | _ => none
theorem RelV.abs {x : V} {u : Value} (r : RelV x u) : absV u = some x := by
  cases x with
  | non => cases r; rfl
  | bl _ => cases r; rfl
  | int _ => obtain ⟨t, rfl⟩ := r; rfl
  | str _ => obtain ⟨t, rfl⟩ := r; rfl
  | byt _ => obtain ⟨t, rfl⟩ := r; rfl
  | flt _ => obtain ⟨t, rfl⟩ := r; rfl
  | ref _ => cases r; rfl
  | ty _ => cases r; rfl
theorem RelV.inj {x y : V} {u : Value} (r : RelV x u) (q : RelV y u) : x = y := Option.some.inj (r.abs.symm.trans q.abs)
theorem Vals.inj : ∀ {xs ys : List V} {us : List Value}, Vals xs us → Vals ys us → xs = ys
  | _, _, _, .nil, .nil => rfl
  | _, _, _, .cons r t, .cons r' t' => by rw [r.inj r', Vals.inj t t']
section
variable {X : Cx} {pins : List (Addr × Obj)} {σ : St} {H : Hp} {s : Shared} {a : Addr} {xs ys : List V}
theorem SqL.of {K : PySem.W.Frag} (h : H a = some (.lst xs)) : SqL K H a xs := .inl (.inl h)
theorem SqT.of {K : PySem.W.Frag} (h : H a = some (.tup xs)) : SqT K H a xs := .inl (.inl h)
theorem Inv.list (I : Inv X pins σ H s) (h : SqL X.K H a xs) : ∃ its : List Value, Vals xs its ∧ PlainL s.heap a its.toArray ∧ xs.length ≤ sizeLine := by
  rcases h with h | ⟨o, its, n, hk, hc, hd, hs, hz, r⟩
  · obtain ⟨z, its, n, r, e⟩ := h.ok I.hok
    exact ⟨its, r, ⟨_, n, e, rfl, rfl, rfl⟩, z⟩
  · refine ⟨its.toList, r, ⟨o, n, I.kIn a o hk, hc, hd, by simpa using hs⟩, ?_⟩
    have e := r.length
    simp only [Array.length_toList] at e
    omega
theorem Inv.tuple (I : Inv X pins σ H s) (h : SqT X.K H a xs) : ∃ its : List Value, Vals xs its ∧ IsTup s.heap a its.toArray ∧ xs.length ≤ sizeLine := by
  rcases h with h | ⟨o, its, n, hk, hc, hs, hz, r⟩
  · obtain ⟨z, its, r, p⟩ := h.ok I.hok
    exact ⟨its, r, p, z⟩
  · refine ⟨its.toList, r, ⟨o, I.kIn a o hk, hc, n, by simpa using hs⟩, ?_⟩
    have e := r.length
    simp only [Array.length_toList] at e
    omega
theorem Inv.list_inj (I : Inv X pins σ H s) (h : SqL X.K H a xs) (h' : SqL X.K H a ys) : xs = ys := by
  obtain ⟨its, r, ⟨o, n, e, _, _, d⟩, _⟩ := I.list h
  obtain ⟨its', r', ⟨o', n', e', _, _, d'⟩, _⟩ := I.list h'
  rw [e] at e'; cases e'
  rw [d] at d'
  injection d' with d1 _
  have : its = its' := by simpa using congrArg Array.toList d1
  subst this
  exact r.inj r'
theorem Inv.tuple_inj (I : Inv X pins σ H s) (h : SqT X.K H a xs) (h' : SqT X.K H a ys) : xs = ys := by
  obtain ⟨its, r, ⟨o, e, _, n, d⟩, _⟩ := I.tuple h
  obtain ⟨its', r', ⟨o', e', _, n', d'⟩, _⟩ := I.tuple h'
  rw [e] at e'; cases e'
  rw [d] at d'
  injection d' with d1 _
  have : its = its' := by simpa using congrArg Array.toList d1
  subst this
  exact r.inj r'
end
abbrev Cx.wish (X : Cx) (E : Value → Shared → Prop) : Cx := { X with xe := E }
abbrev Cx.nox (X : Cx) : Cx := X.wish fun _ _ => False
theorem Cx.Ok.wish {X : Cx} (ok : X.Ok) (E : Value → Shared → Prop) : (X.wish E).Ok :=
  ⟨ok.mod, ok.kind, ok.glob, ok.blt, ok.above, ok.inj, ok.has, ok.cab, ok.hd, ok.frames, ok.stk, ok.exf, ok.bs, ok.bsz, ok.noex, ok.exfs, ok.funs, ok.frf⟩
theorem Cx.Ok.unwish {X : Cx} {E : Value → Shared → Prop} (ok : (X.wish E).Ok) : X.Ok :=
  ⟨ok.mod, ok.kind, ok.glob, ok.blt, ok.above, ok.inj, ok.has, ok.cab, ok.hd, ok.frames, ok.stk, ok.exf, ok.bs, ok.bsz, ok.noex, ok.exfs, ok.funs, ok.frf⟩
section
variable {X : Cx} {pins : List (Addr × Obj)} {σ : St} {H : Hp} {s : Shared} {E : Value → Shared → Prop}
theorem Inv.wish (I : Inv X pins σ H s) (E : Value → Shared → Prop) : Inv (X.wish E) pins σ H s := ⟨I.ok.wish E, I.os, I.bare, I.base, I.loc, I.cell, I.free, I.freeC, I.pin, I.hok, I.len⟩
theorem Inv.unwish (I : Inv (X.wish E) pins σ H s) : Inv X pins σ H s := ⟨I.ok.unwish, I.os, I.bare, I.base, I.loc, I.cell, I.free, I.freeC, I.pin, I.hok, I.len⟩
theorem SP.unwish {D : Ends} {f : Flow} {s' : Shared} (h : SP (X.wish E) pins D f s') : SP X pins D f s' := by
  cases f with
  | next => obtain ⟨σ', H', I, q⟩ := h; exact ⟨σ', H', I.unwish, q⟩
  | brk => obtain ⟨σ', H', I, q⟩ := h; exact ⟨σ', H', I.unwish, q⟩
  | cont => obtain ⟨σ', H', I, q⟩ := h; exact ⟨σ', H', I.unwish, q⟩
  | ret u => obtain ⟨v, σ', H', I, r, q⟩ := h; exact ⟨v, σ', H', I.unwish, r, q⟩
theorem PSs.nox {st : List Stmt} {t : TS} (h : PSs X.nox st t) : PSs X st t := fun pins s σ H D I hw =>
  wpAny_mono (h pins s σ H D (I.wish _) hw) (fun _ _ q => q.unwish) fun _ _ z => False.elim z
end
section
variable {X : Cx} {st : Stmt} {rest : List Stmt} {t u : TS} {e : Expr} {te : TE} {pos : Pos}
def tNext : TS := fun D σ H => D.nx σ H
def tSeq (t u : TS) : TS := fun D σ H => t { D with nx := u D } σ H
theorem pss_nil : PSs X [] tNext := fun _ _ σ H _ I h => wpAny_execs_nil ⟨σ, H, I, h⟩
theorem pss_cons (h1 : PS X st t) (h2 : PSs X rest u) : PSs X (st :: rest) (tSeq t u) := by
  intro pins s σ H D I h
  refine wpAny_execs_cons (thn (h1 pins s σ H { D with nx := u D } I h) fun f s1 q => ?_)
  cases f with
  | next =>
    obtain ⟨σ', H', I', q⟩ := q
    exact h2 pins s1 σ' H' D I' q
  | ret v => exact q
  | brk => exact q
  | cont => exact q
theorem pss_one (h1 : PS X st t) : PSs X [st] t := by
  intro pins s σ H D I h
  refine wpAny_execs_cons (thn (h1 pins s σ H D I h) fun f s1 q => ?_)
  cases f with
  | next => exact wpAny_execs_nil q
  | ret v => exact q
  | brk => exact q
  | cont => exact q
theorem Inv.quiet {pins : List (Addr × Obj)} {σ : St} {H : Hp} {s : Shared} (I : Inv X pins σ H s) : interactive X.env = false := by simp [interactive, I.ok.kind]
def tDrop (te : TE) : TS := fun D σ H => te σ H fun _ H1 => D.nx σ H1
theorem ps_expr (he : PE X e te) (hs : swapsWith e none pos.line X.env = pure false := by rfl) : PS X (.Expr e pos) (tDrop te) := by
  intro pins s σ H D I h
  exact wpAny_Expr_any (thn (he pins s σ H _ I h) fun v s1 ⟨x, H1, I1, r1, q1⟩ => ⟨σ, H1, I1, q1⟩) I.quiet hs
def tRet (te : TE) : TS := fun D σ H => te σ H D.rt
theorem ps_ret (he : PE X e te) : PS X (.Return (some e) pos) (tRet te) := by
  intro pins s σ H D I h
  exact wpAny_Return_some (thn (he pins s σ H _ I h) fun v s1 ⟨x, H1, I1, r1, q1⟩ => ⟨x, σ, H1, I1, r1, q1⟩)
def tIfS (c : TT) (t u : TS) : TS := fun D σ H => c σ H fun b H1 => if b = true then t D σ H1 else u D σ H1
theorem ps_if {c : Expr} {a b : List Stmt} {tc : TT} (hc : PT X c tc) (ha : PSs X a t) (hb : PSs X b u) : PS X (.If c a b pos) (tIfS tc t u) := by
  intro pins s σ H D I h
  refine wpAny_If (thn (hc pins s σ H _ I h) fun d s1 ⟨H1, I1, q1⟩ => ?_)
  cases d with
  | true => exact ha pins s1 σ H1 D I1 q1
  | false => exact hb pins s1 σ H1 D I1 q1
def tNever : TS := fun _ _ _ => False
end
abbrev TG := V → St → Hp → (St → Hp → Prop) → Prop
abbrev TGs := List V → St → Hp → (St → Hp → Prop) → Prop
def PG (X : Cx) (target : Expr) (t : TG) : Prop :=
  ∀ (pins : List (Addr × Obj)) (s : Shared) (σ : St) (H : Hp) (v : V) (u : Value) (Q : St → Hp → Prop), Inv X pins σ H s → RelV v u → t v σ H Q →
    wpAny (model X.prog X.w) X.A (assign target X.env u) (fun _ s' => ∃ σ' H', Inv X pins σ' H' s' ∧ Q σ' H') X.xe s
def PGs (X : Cx) (ts : List Expr) (t : TGs) : Prop :=
  ∀ (pins : List (Addr × Obj)) (s : Shared) (σ : St) (H : Hp) (vs : List V) (us : List Value) (Q : St → Hp → Prop), Inv X pins σ H s → Vals vs us → t vs σ H Q →
    wpAny (model X.prog X.w) X.A (assignInOrder ((assignEach ts X.env).map (·.2)) us) (fun _ s' => ∃ σ' H', Inv X pins σ' H' s' ∧ Q σ' H') X.xe s
abbrev TSet := V → V → V → Hp → (Hp → Prop) → Prop
def PSet (X : Cx) (t : TSet) : Prop :=
  ∀ (pins : List (Addr × Obj)) (s : Shared) (σ : St) (H : Hp) (o i v : V) (ov iv u : Value) (Q : Hp → Prop), Inv X pins σ H s → RelV o ov → RelV i iv → RelV v u → t o i v H Q →
    wpAny (model X.prog X.w) X.A (setItem ov iv u) (fun _ s' => ∃ H', Inv X pins σ H' s' ∧ Q H') X.xe s
abbrev TIp := V → V → Hp → VK → Prop
def PIp (X : Cx) (op : Operator) (t : TIp) : Prop :=
  ∀ (pins : List (Addr × Obj)) (s : Shared) (σ : St) (H : Hp) (x y : V) (v u : Value) (Q : VK), Inv X pins σ H s → RelV x v → RelV y u → t x y H Q →
    wpAny (model X.prog X.w) X.A (inplaceOp op v u) (EP X pins σ Q) X.xe s
section
variable {X : Cx} {pos : Pos}
def gName (i : Nat) : TG := fun v σ H Q => Q (σ.set i (some v)) H
theorem pg_name {i : Nat} {x : Str} (hN : X.N.Nodup) (hi : X.N[i]? = some x) (hx : Loc X.env.scope x) (hf : X.fn x = true ∨ X.env.scope.names.lookup x = some .local := by first | exact .inl rfl | exact .inr rfl | assumption) : PG X (.Name x pos) (gName i) := by
  intro pins s σ H v u Q I r h
  exact wpAny_assign_Name (store_ok I hN hi hx r (fun s' I' => ⟨_, H, I', h⟩) hf)
def gNil : TGs := fun vs σ H Q => vs = [] ∧ Q σ H
def gCons (t : TG) (u : TGs) : TGs := fun vs σ H Q => ∃ v r, vs = v :: r ∧ t v σ H fun σ' H' => u r σ' H' Q
theorem pgs_nil : PGs X [] gNil := by
  intro pins s σ H vs us Q I r h
  obtain ⟨e, h⟩ := h
  subst e
  cases r
  exact assignInOrder_nil ⟨σ, H, I, h⟩
theorem pgs_cons {e : Expr} {es : List Expr} {t : TG} {u : TGs} (h1 : PG X e t) (h2 : PGs X es u)
    (hs : (assignEach (e :: es) X.env).map (·.2) = assign e X.env :: (assignEach es X.env).map (·.2) := by rfl) : PGs X (e :: es) (gCons t u) := by
  intro pins s σ H vs us Q I r h
  obtain ⟨v, vr, e1, h⟩ := h
  subst e1
  cases r with
  | cons r rr =>
    rw [hs]
    refine assignInOrder_cons (thn (h1 pins s σ H _ _ _ I r h) fun _ s1 ⟨σ1, H1, I1, q1⟩ => ?_)
    exact h2 pins s1 σ1 H1 _ _ Q I1 rr q1
def gTup (K : PySem.W.Frag) (n : Nat) (t : TGs) : TG := fun v σ H Q => ∃ a xs, v = .ref a ∧ SqT K H a xs ∧ xs.length = n ∧ t xs σ H Q
theorem pg_tup {es : List Expr} {k : Nat} {t : TGs} {n : Nat} (hc : X.calm = true) (h : PGs X es t)
    (hn : (assignEach es X.env).length = n := by rfl) (hst : (assignEach es X.env).findIdx? (·.1) = none := by rfl) : PG X (.Tuple es k pos) (gTup X.K n t) := by
  intro pins s σ H v u Q I r hw
  obtain ⟨a, xs, e1, hq, hl, hw⟩ := hw
  subst e1
  cases r
  obtain ⟨its, rv, ht, hz⟩ := I.tuple hq
  refine assign_Tuple_tuple (I.ok.hd hc) ht (by simp [hn, ← hl, rv.length]) hst fun h' hx => ?_
  have I1 : Inv X pins σ H { s with heap := h' } := I.kept (t' := s.toks) fun b o e => hx b o (Nat.ne_of_lt (Heap.lt_size e)) e
  exact h pins _ σ H xs _ Q I1 (by simpa using rv) hw
def tAsg (te : TE) (g : TG) : TS := fun D σ H => te σ H fun x H1 => g x σ H1 D.nx
theorem ps_set {i : Nat} {x : Str} {e : Expr} {te : TE} {pos' : Pos} (hN : X.N.Nodup) (hi : X.N[i]? = some x) (hx : Loc X.env.scope x) (he : PE X e te) (hs : swapsWith e (some (.Name x pos')) pos.line X.env = pure false := by rfl) (hf : X.fn x = true ∨ X.env.scope.names.lookup x = some .local := by first | exact .inl rfl | exact .inr rfl | assumption) :
    PS X (.Assign [.Name x pos'] e pos) (tAsg te (gName i)) := by
  intro pins s σ H D I h
  refine wpAny_Assign_Name (thn (he pins s σ H _ I h) fun v s1 ⟨y, H1, I1, r1, q1⟩ => ?_) hs
  exact store_ok I1 hN hi hx r1 (fun s2 I2 => ⟨_, H1, I2, q1⟩) hf
def tAug (i : Nat) (te : TE) (ti : TIp) : TS := fun D σ H => ∃ x, σ[i]? = some (some x) ∧ te σ H fun y H1 => ti x y H1 fun z H2 => D.nx (σ.set i (some z)) H2
theorem ps_aug {i : Nat} {x : Str} {e : Expr} {te : TE} {op : Operator} {ti : TIp} {pos' : Pos} (hN : X.N.Nodup) (hi : X.N[i]? = some x) (hx : Loc X.env.scope x) (he : PE X e te) (ho : PIp X op ti) (hf : X.fn x = true ∨ X.env.scope.names.lookup x = some .local := by first | exact .inl rfl | exact .inr rfl | assumption) :
    PS X (.AugAssign (.Name x pos') op e pos) (tAug i te ti) := by
  intro pins s σ H D I h
  obtain ⟨v, e1, h⟩ := h
  obtain ⟨m, hn, hl⟩ := I.loc
  have vis : Vis X.env.scope x := by rcases hx with k | k; exact .inl k; exact .inr (.inl k)
  obtain ⟨u, r, l⟩ := hl i x v hi e1 vis
  refine wpAny_AugAssign_Name ?_
  have go : wpAny (model X.prog X.w) X.A (eval e X.env) (fun w s₂ => wpAny (model X.prog X.w) X.A (inplaceOp op u w) (fun r s₃ => wpAny (model X.prog X.w) X.A (storeName X.env x r) (fun _ => SP X pins D .next) X.xe s₃) X.xe s₂) X.xe s := by
    refine thn (he pins s σ H _ I h) fun w s1 ⟨y, H1, I1, r1, q1⟩ => ?_
    refine thn (ho pins s1 σ H1 v y u w _ I1 r r1 q1) fun z s2 ⟨zv, H2, I2, r2, q2⟩ => ?_
    exact store_ok I2 hN hi hx r2 (fun s3 I3 => ⟨_, H2, I3, q2⟩) hf
  rcases l with ⟨hk, hm⟩ | ⟨hk, c, hc, hcell⟩
  · exact wpAny_loadName_local I.ok.kind hk hn hm go
  · rcases hk with hk | hk
    · exact wpAny_loadName_cell I.ok.kind hk hc hcell go
    · rcases hx with k | k
      · have : X.env.scope.names.lookup x = some .free := hk
        rw [k] at this; cases this
      · have : X.env.scope.names.lookup x = some .free := hk
        rw [k] at this; cases this
def tAugS (to ti te : TE) (tget : V → V → Hp → VK → Prop) (tip : TIp) (tset : TSet) : TS := fun D σ H => to σ H fun o H1 => ti σ H1 fun i H2 => tget o i H2 fun x H3 => te σ H3 fun y H4 => tip x y H4 fun z H5 => tset o i z H5 fun H6 => D.nx σ H6
def PGet (X : Cx) (t : V → V → Hp → VK → Prop) : Prop :=
  ∀ (pins : List (Addr × Obj)) (s : Shared) (σ : St) (H : Hp) (o i : V) (ov iv : Value) (Q : VK), Inv X pins σ H s → RelV o ov → RelV i iv → t o i H Q →
    wpAny (model X.prog X.w) X.A (getItem ov iv) (EP X pins σ Q) X.xe s
theorem ps_augS {o i e : Expr} {to ti te : TE} {tget : V → V → Hp → VK → Prop} {tip : TIp} {tset : TSet} {op : Operator} {tpos : Pos} (ho : PE X o to) (hi : PE X i ti) (hg : PGet X tget) (he : PE X e te) (hp : PIp X op tip) (hs : PSet X tset)
    (ha : ∀ ov iv new, augStore i ov iv new = (do holding [new, ov, iv] (setItem ov iv new); release [new, ov, iv] []; pure .next) := by intros; rfl) : PS X (.AugAssign (.Subscript o i tpos) op e pos) (tAugS to ti te tget tip tset) := by
  intro pins s σ H D I h
  refine wpAny_AugAssign_SubscriptAny (thn (ho pins s σ H _ I h) fun ov s1 ⟨x1, H1, I1, r1, q1⟩ => ?_) ha
  refine thn (hi pins s1 σ H1 _ I1 q1) fun iv s2 ⟨x2, H2, I2, r2, q2⟩ => ?_
  refine thn (hg pins s2 σ H2 x1 x2 ov iv _ I2 r1 r2 q2) fun old s3 ⟨x3, H3, I3, r3, q3⟩ => ?_
  refine thn (he pins s3 σ H3 _ I3 q3) fun v s4 ⟨x4, H4, I4, r4, q4⟩ => ?_
  refine thn (hp pins s4 σ H4 x3 x4 old v _ I4 r3 r4 q4) fun new s5 ⟨x5, H5, I5, r5, q5⟩ => ?_
  exact thn (hs pins s5 σ H5 x1 x2 x5 ov iv new _ I5 r1 r2 r5 q5) fun _ s6 ⟨H6, I6, q6⟩ => ⟨σ, H6, I6, q6⟩
def ipI (f : Int → Int → Int) : TIp := fun x y H Q => ∃ i j, x = .int i ∧ y = .int j ∧ Q (.int (f i j)) H
theorem ip_add : PIp X .Add (ipI fun i j => i + j) := by
  intro pins s σ H x y v u Q I r1 r2 h
  obtain ⟨i, j, e1, e2, q⟩ := h
  subst e1; subst e2
  obtain ⟨t, rfl⟩ := r1
  obtain ⟨t', rfl⟩ := r2
  exact iadd_int ⟨.int _, H, I.tok _, ⟨_, rfl⟩, q⟩
theorem ip_sub : PIp X .Sub (ipI fun i j => i - j) := by
  intro pins s σ H x y v u Q I r1 r2 h
  obtain ⟨i, j, e1, e2, q⟩ := h
  subst e1; subst e2
  obtain ⟨t, rfl⟩ := r1
  obtain ⟨t', rfl⟩ := r2
  exact isub_int ⟨.int _, H, I.tok _, ⟨_, rfl⟩, q⟩
end
section
variable {X : Cx} {pos : Pos}
def tWhile (c : TT) (tb : TS) : TS := fun D σ H => ∃ W : Nat → St → Hp → Prop, (∃ m, W m σ H) ∧ ∀ m σ H, W m σ H →
  c σ H fun b H1 => if b = true then ∃ N : St → Hp → Prop, (∀ σ' H', N σ' H' → ∃ m', m' < m ∧ W m' σ' H') ∧ tb { D with nx := N, ct := N, bk := D.nx } σ H1 else D.nx σ H1
theorem ps_while {c : Expr} {body : List Stmt} {tc : TT} {tb : TS} (hp : PassesOwn (model X.prog X.w) X.A X.env X.xe) (hc : PT X c tc) (hb : PSs X body tb) : PS X (.While c body [] pos) (tWhile tc tb) := by
  intro pins s σ H D I h
  obtain ⟨W, ⟨m0, w0⟩, turn⟩ := h
  refine wpAny_While (codeAny_whileLoop (fun n s' => ∃ σ' H', Inv X pins σ' H' s' ∧ W n σ' H') ?_ m0 ⟨σ, H, I, w0⟩)
  rintro n s1 ⟨σ1, H1, I1, w1⟩
  refine wpAny_passesOwn hp (thn (hc pins s1 σ1 H1 _ I1 (turn n σ1 H1 w1)) fun b s2 ⟨H2, I2, q2⟩ => ?_)
  cases b with
  | true =>
    obtain ⟨N, hN, q2⟩ := q2
    rw [if_pos rfl]
    refine wpAny_passesOwn hp (thn (hb pins s2 σ1 H2 _ I2 q2) fun f s3 q3 => ?_)
    cases f with
    | next =>
      obtain ⟨σ3, H3, I3, n3⟩ := q3
      obtain ⟨m', hm, w3⟩ := hN σ3 H3 n3
      exact ⟨m', hm, σ3, H3, I3, w3⟩
    | cont =>
      obtain ⟨σ3, H3, I3, n3⟩ := q3
      obtain ⟨m', hm, w3⟩ := hN σ3 H3 n3
      exact ⟨m', hm, σ3, H3, I3, w3⟩
    | brk => exact q3
    | ret v => exact q3
  | false =>
    rw [if_neg Bool.false_ne_true]
    exact wpAny_execs_nil ⟨σ1, H2, I2, q2⟩
end
structure It where
  go : Nat → Hp → Prop
  yld : Nat → Hp → V → Hp → Prop
  stop : Nat → Hp → Prop
def FpOk (X : Cx) (pins : List (Addr × Obj)) (H : Hp) (b : Addr) : Prop :=
  H b = none ∧ b ≠ X.env.locals ∧ b ∉ X.fs ∧ (b ∈ X.ex ∨ X.s_0.heap.objs.size ≤ b) ∧ (∀ x c, X.env.cells.lookup x = some c → c ≠ b) ∧ ∀ p ∈ X.pn ++ pins, p.1 ≠ b
theorem Inv.fpOk {X : Cx} {pins : List (Addr × Obj)} {σ : St} {H H' : Hp} {s : Shared} {b : Addr} (I : Inv X pins σ H s) (hb : s.heap.objs.size ≤ b) (hn : H' b = none) : FpOk X pins H' b := by
  refine ⟨hn, Nat.ne_of_gt (Nat.lt_of_lt_of_le I.lt hb), I.nofs hb, .inr (Nat.le_trans I.sz hb), fun x c e z => ?_, fun p hp z => ?_⟩
  · obtain ⟨v, q⟩ := I.cell x c e
    exact absurd (Nat.lt_of_lt_of_le q.lt (by rw [z]; exact hb)) (Nat.lt_irrefl _)
  · exact absurd (Nat.lt_of_lt_of_le (Heap.lt_size (I.pin p hp).1) (by rw [z]; exact hb)) (Nat.lt_irrefl _)
structure Turn (P : Program) (w : World) (K : PySem.W.Frag) (tg : Expr) (J : It) (fp : List Addr) (it : Addr) (tn : Nat → Heap → Prop) : Prop where
  mem : it ∈ fp
  obj : ∀ i h, tn i h → ∀ b ∈ fp, ∃ o, h.get? b = some o ∧ ∀ v, o.data ≠ .cell v
  keep : ∀ i h h', tn i h → (∀ b ∈ fp, ∀ o, h.get? b = some o → h'.get? b = some o) → tn i h'
  item : ∀ (X : Cx), X.prog = P → X.w = w → X.K = K → X.calm = true → ∀ (i : Nat) (pins : List (Addr × Obj)) (s : Shared) (σ : St) (H : Hp) (E : Value → Shared → Prop), Inv X pins σ H s → (∀ b ∈ fp, FpOk X pins H b) → tn i s.heap → J.go i H →
    wpAny (model P w) X.A (pyNext (.ref it)) (fun r s1 => ∃ u, r = some u ∧
      wpAny (model P w) X.A (letOwnedTupleGo tg (.ref it) u) (fun _ s2 => ∃ x H', Inv X pins σ H' s2 ∧ RelV x u ∧ J.yld i H x H' ∧ tn (i + 1) s2.heap ∧ ∀ b ∈ fp, H' b = none) E s1) E s
  done : ∀ (X : Cx), X.prog = P → X.w = w → X.K = K → X.calm = true → ∀ (i : Nat) (pins : List (Addr × Obj)) (s : Shared) (σ : St) (H : Hp) (E : Value → Shared → Prop), Inv X pins σ H s → (∀ b ∈ fp, FpOk X pins H b) → tn i s.heap → J.stop i H →
    wpAny (model P w) X.A (pyNext (.ref it)) (fun r s1 => r = none ∧ Inv X pins σ H s1) E s
  self : ∀ (A : Around) (i : Nat) (s : Shared) (Q : Value → Shared → Prop) (E : Value → Shared → Prop), tn i s.heap → Q (.ref it) s → wpAny (model P w) A (pyIter (.ref it)) Q E s
abbrev TI := St → Hp → (It → Hp → Prop) → Prop
def PIE (X : Cx) (pins : List (Addr × Obj)) (σ : St) (tg : Expr) (R : It → Hp → Prop) (itv : Value) (s2 : Shared) : Prop :=
  ∃ (it : Addr) (fp : List Addr) (tn : Nat → Heap → Prop) (J : It) (H' : Hp), itv = .ref it ∧ Inv X pins σ H' s2 ∧ Turn X.prog X.w X.K tg J fp it tn ∧ tn 0 s2.heap ∧ (∀ b ∈ fp, FpOk X pins H' b) ∧ R J H'
def PI (X : Cx) (tg iter : Expr) (wi : TI) : Prop :=
  ∀ (pins : List (Addr × Obj)) (s : Shared) (σ : St) (H : Hp) (R : It → Hp → Prop), Inv X pins σ H s → wi σ H R →
    wpAny (model X.prog X.w) X.A (eval iter X.env) (fun v s1 => wpAny (model X.prog X.w) X.A (pyIter v) (PIE X pins σ tg R) X.xe s1) X.xe s
theorem go_of {M : Model} {A : Around} {E : Value → Shared → Prop} {s : Shared} {tg : Expr} {it : Addr} {u : Value} {o : Obj} {n : String} {vs : Array Value} {Q : Unit → Shared → Prop} (ho : s.heap.get? it = some o) (hc : o.cls = .type n) (hd : o.data = .fields vs)
    (hn : ["enumerate", "zip", "dict_itemiterator", "dict_reverseitemiterator", "odict_iterator", "itertools.zip_longest", "itertools.pairwise"].contains n = false) (hQ : Q () s) : wpAny M A (letOwnedTupleGo tg (.ref it) u) Q E s := by
  unfold letOwnedTupleGo
  cases tg <;> first
    | exact wpAny_pure hQ
    | (cases u <;> first
        | exact wpAny_pure hQ
        | (refine wpAny_bind (wpAny_load ho ?_)
           rw [hc, hd]
           show wpAny M A (if (["enumerate", "zip", "dict_itemiterator", "dict_reverseitemiterator", "odict_iterator", "itertools.zip_longest", "itertools.pairwise"].contains n && vs[0]? == some (rawInt _)) = true then _ else _) Q E s
           rw [if_neg (by intro h; rw [hn, Bool.false_and] at h; cases h)]
           exact wpAny_pure hQ))
def Itl (K : PySem.W.Frag) (a : Addr) : It :=
  ⟨fun i H => ∃ xs x, SqL K H a xs ∧ xs[i]? = some x, fun i H x H' => H' = H ∧ ∀ xs, SqL K H a xs → xs[i]? = some x, fun i H => ∃ xs, SqL K H a xs ∧ xs.length ≤ i⟩
def Itt (K : PySem.W.Frag) (a : Addr) : It :=
  ⟨fun i H => ∃ xs x, SqT K H a xs ∧ xs[i]? = some x, fun i H x H' => H' = H ∧ ∀ xs, SqT K H a xs → xs[i]? = some x, fun i H => ∃ xs, SqT K H a xs ∧ xs.length ≤ i⟩
def Itr (lo : Int) (n : Nat) : It := ⟨fun i _ => i < n, fun i H x H' => H' = H ∧ x = .int (lo + i), fun i _ => n ≤ i⟩
theorem turn_list {P : Program} {w : World} {K : PySem.W.Frag} {tg : Expr} (a it : Addr) : Turn P w K tg (Itl K a) [it] it (fun i h => h.IsListIter it a i) where
  mem := by simp
  obj := fun i h st b hb => by
    have e : b = it := by simpa using hb
    subst e
    obtain ⟨o, e, c, d⟩ := st
    exact ⟨o, e, fun v z => by rw [d] at z; cases z⟩
  keep := fun i h h' st k => st.at fun o e => k it (by simp) o e
  item := by
    intro X hP hw hK hc i pins s σ H E I hf st hg
    subst hP hw hK
    obtain ⟨xs, x, hq, hx⟩ := hg
    obtain ⟨its, rv, p, hz⟩ := I.list hq
    obtain ⟨u, hu, ru⟩ := rv.get hx
    obtain ⟨f0, f1, f2, f3, f4, f5⟩ := hf it (by simp)
    refine wpAny_pyNext_list_item st p.isList (x := u) (by simpa using hu) fun h' st' sb => ?_
    have I1 : Inv X pins σ H { s with heap := h' } := I.turned (t' := s.toks) (fun b o hb e => (sb.2 b hb).trans e) f0 f1 f3 f4 f5
    obtain ⟨o, e, c, d⟩ := id st'
    exact ⟨u, rfl, go_of (s := { s with heap := h' }) e c d (by decide) ⟨x, H, I1, ru, ⟨rfl, fun ys hy => by rw [I.list_inj hy hq]; exact hx⟩, st', fun b hb => (hf b hb).1⟩⟩
  done := by
    intro X hP hw hK hc i pins s σ H E I hf st hg
    subst hP hw hK
    obtain ⟨xs, hq, hx⟩ := hg
    obtain ⟨its, rv, p, hz⟩ := I.list hq
    obtain ⟨f0, f1, f2, f3, f4, f5⟩ := hf it (by simp)
    have hl := rv.length
    exact wpAny_pyNext_list_end (I.ok.hd hc) st p.isList (by simp; omega) fun h' eb => ⟨rfl, I.turned (t' := s.toks) (fun b o hb e => eb b o hb e) f0 f1 f3 f4 f5⟩
  self := fun _ _ _ _ _ st h => wpAny_pyIter_listiter st h
theorem turn_tuple {P : Program} {w : World} {K : PySem.W.Frag} {tg : Expr} (a it : Addr) : Turn P w K tg (Itt K a) [it] it (fun i h => h.IsTupleIter it a i) where
  mem := by simp
  obj := fun i h st b hb => by
    have e : b = it := by simpa using hb
    subst e
    obtain ⟨o, e, c, d⟩ := st
    exact ⟨o, e, fun v z => by rw [d] at z; cases z⟩
  keep := fun i h h' st k => st.at fun o e => k it (by simp) o e
  item := by
    intro X hP hw hK hc i pins s σ H E I hf st hg
    subst hP hw hK
    obtain ⟨xs, x, hq, hx⟩ := hg
    obtain ⟨its, rv, p, hz⟩ := I.tuple hq
    obtain ⟨u, hu, ru⟩ := rv.get hx
    obtain ⟨f0, f1, f2, f3, f4, f5⟩ := hf it (by simp)
    refine wpAny_pyNext_tuple_item st (show s.heap.IsTuple a its.toArray from p) (x := u) (by simpa using hu) fun h' st' sb => ?_
    have I1 : Inv X pins σ H { s with heap := h' } := I.turned (t' := s.toks) (fun b o hb e => (sb.2 b hb).trans e) f0 f1 f3 f4 f5
    obtain ⟨o, e, c, d⟩ := id st'
    exact ⟨u, rfl, go_of (s := { s with heap := h' }) e c d (by decide) ⟨x, H, I1, ru, ⟨rfl, fun ys hy => by rw [I.tuple_inj hy hq]; exact hx⟩, st', fun b hb => (hf b hb).1⟩⟩
  done := by
    intro X hP hw hK hc i pins s σ H E I hf st hg
    subst hP hw hK
    obtain ⟨xs, hq, hx⟩ := hg
    obtain ⟨its, rv, p, hz⟩ := I.tuple hq
    obtain ⟨f0, f1, f2, f3, f4, f5⟩ := hf it (by simp)
    have hl := rv.length
    exact wpAny_pyNext_tuple_end (I.ok.hd hc) st (show s.heap.IsTuple a its.toArray from p) (by simp; omega) fun h' eb => ⟨rfl, I.turned (t' := s.toks) (fun b o hb e => eb b o hb e) f0 f1 f3 f4 f5⟩
  self := fun _ _ _ _ _ st h => wpAny_pyIter_tupleiter st h
theorem turn_range {P : Program} {w : World} {K : PySem.W.Frag} {tg : Expr} (it : Addr) (lo : Int) (n : Nat) : Turn P w K tg (Itr lo n) [it] it (fun i h => IsRangeIter h it (lo + (i : Nat) * 1) ((n : Int) - (i : Nat)) 1) where
  mem := by simp
  obj := fun i h st b hb => by
    have e : b = it := by simpa using hb
    subst e
    exact ⟨_, st, fun v z => by
      have z' : Data.fields _ = Data.cell v := z
      cases z'⟩
  keep := fun i h h' st k => k it (by simp) _ st
  item := by
    intro X hP hw hK hc i pins s σ H E I hf st hg
    subst hP hw hK
    obtain ⟨f0, f1, f2, f3, f4, f5⟩ := hf it (by simp)
    have W := Walks.range (prog := X.prog) (w := X.w) (I.ok.hd hc) it lo 1 n
    refine W.item i s _ _ hg st fun v h' tk hv st' kk => ?_
    obtain ⟨t, rfl⟩ := hv
    have I1 : Inv X pins σ H { s with heap := h', toks := tk } := I.turned (fun b o hb e => kk b o (by simpa using hb) e) f0 f1 f3 f4 f5
    refine ⟨_, rfl, go_of (s := { s with heap := h', toks := tk }) (n := "range_iterator") st' rfl rfl (by decide) ⟨.int (lo + i), H, I1, ⟨t, ?_⟩, ⟨rfl, rfl⟩, st', fun b hb => (hf b hb).1⟩⟩
    rw [Int.mul_one]
  done := by
    intro X hP hw hK hc i pins s σ H E I hf st hg
    subst hP hw hK
    obtain ⟨f0, f1, f2, f3, f4, f5⟩ := hf it (by simp)
    exact wpAny_pyNext_range_end (I.ok.hd hc) st (by have : n ≤ i := hg; omega) fun h' eb => ⟨rfl, I.turned (t' := s.toks) (fun b o hb e => eb b o hb e) f0 f1 f3 f4 f5⟩
  self := fun _ _ _ _ _ st h => wpAny_pyIter_rangeiter st h
end L2
namespace L2
open PySem PySem.Spec PyProof.Rows
section
variable {X : Cx} {tg : Expr}
def iList (K : PySem.W.Frag) (tl : TE) : TI := fun σ H R => tl σ H fun x H1 => ∃ a, x = .ref a ∧ (∃ xs, SqL K H1 a xs) ∧ R (Itl K a) H1
def iTup (K : PySem.W.Frag) (tl : TE) : TI := fun σ H R => tl σ H fun x H1 => ∃ a, x = .ref a ∧ (∃ xs, SqT K H1 a xs) ∧ R (Itt K a) H1
theorem pi_list {l : Expr} {tl : TE} (hl : PE X l tl) : PI X tg l (iList X.K tl) := by
  intro pins s σ H R I h
  refine thn (hl pins s σ H _ I h) fun v s1 ⟨x, H1, I1, r1, q1⟩ => ?_
  obtain ⟨a, e, ⟨xs, hq⟩, q⟩ := q1
  subst e
  cases r1
  obtain ⟨its, rv, p, hz⟩ := I1.list hq
  refine wpAny_pyIter_list p.isList ?_
  refine ⟨s1.heap.objs.size, [s1.heap.objs.size], _, _, H1, rfl, I1.kept (t' := s1.toks) fun b o e => Heap.get?_push_of_some _ e, turn_list a _, ⟨_, Heap.get?_push_size _ rfl, rfl, rfl⟩, fun b hb => ?_, q⟩
  have e : b = s1.heap.objs.size := by simpa using hb
  subst e
  exact I1.fpOk (Nat.le_refl _) (I1.hok.fresh (Nat.le_refl _))
theorem pi_tup {l : Expr} {tl : TE} (hl : PE X l tl) : PI X tg l (iTup X.K tl) := by
  intro pins s σ H R I h
  refine thn (hl pins s σ H _ I h) fun v s1 ⟨x, H1, I1, r1, q1⟩ => ?_
  obtain ⟨a, e, ⟨xs, hq⟩, q⟩ := q1
  subst e
  cases r1
  obtain ⟨its, rv, p, hz⟩ := I1.tuple hq
  refine wpAny_pyIter_tuple (show s1.heap.IsTuple a its.toArray from p) ?_
  refine ⟨s1.heap.objs.size, [s1.heap.objs.size], _, _, H1, rfl, I1.kept (t' := s1.toks) fun b o e => Heap.get?_push_of_some _ e, turn_tuple a _, ⟨_, Heap.get?_push_size _ rfl, rfl, rfl⟩, fun b hb => ?_, q⟩
  have e : b = s1.heap.objs.size := by simpa using hb
  subst e
  exact I1.fpOk (Nat.le_refl _) (I1.hok.fresh (Nat.le_refl _))
theorem range_it {pins : List (Addr × Obj)} {σ : St} {H : Hp} {s : Shared} {R : It → Hp → Prop} {E : Value → Shared → Prop} {lo hi : Int} {t u v : Tok} {tk : Nat} (I : Inv X pins σ H s) (h1 : -(2 ^ 62) ≤ lo) (h2 : lo < 2 ^ 62) (h3 : -(2 ^ 62) ≤ hi) (h4 : hi < 2 ^ 62)
    (q : R (Itr lo (hi - lo).toNat) H) : wpAny (model X.prog X.w) X.A (pyIter (.ref s.heap.objs.size)) (PIE X pins σ tg R) E { s with heap := s.heap.push { cls := .type "range", data := .fields #[.int lo t, .int hi u, .int 1 v] }, toks := tk } := by
  refine wpAny_pyIter_range (IsRange.new ..) (small_one h1 h2 h3 h4) ?_
  have I1 : Inv X pins σ H { s with heap := s.heap.push { cls := .type "range", data := .fields #[.int lo t, .int hi u, .int 1 v] }, toks := tk } := I.kept fun b o e => Heap.get?_push_of_some _ e
  refine ⟨(s.heap.push { cls := .type "range", data := .fields #[.int lo t, .int hi u, .int 1 v] }).objs.size, [(s.heap.push { cls := .type "range", data := .fields #[.int lo t, .int hi u, .int 1 v] }).objs.size], _, _, H, rfl,
    I1.kept (t' := tk) fun b o e => Heap.get?_push_of_some _ e, turn_range _ lo (hi - lo).toNat, ?_, fun b hb => ?_, q⟩
  · have e1 : lo + ((0 : Nat) : Int) * 1 = lo := by simp
    have e2 : (((hi - lo).toNat : Nat) : Int) - ((0 : Nat) : Int) = Builtin.Range.rangeSize lo hi 1 := by rw [rangeSize_one]; split <;> omega
    show IsRangeIter _ _ (lo + ((0 : Nat) : Int) * 1) ((((hi - lo).toNat : Nat) : Int) - ((0 : Nat) : Int)) 1
    rw [e1, e2]
    exact Heap.get?_push_size _ rfl
  · have e : b = (s.heap.push { cls := .type "range", data := .fields #[.int lo t, .int hi u, .int 1 v] }).objs.size := by simpa using hb
    subst e
    exact I1.fpOk (Nat.le_refl _) (I1.hok.fresh (Nat.le_refl _))
def iRng1 (ta : TA) : TI := fun σ H R => ta σ H fun vs H1 => ∃ j : Int, vs = [.int j] ∧ -(2 ^ 62) ≤ j ∧ j < 2 ^ 62 ∧ R (Itr 0 j.toNat) H1
def iRng2 (ta : TA) : TI := fun σ H R => ta σ H fun vs H1 => ∃ i j : Int, vs = [.int i, .int j] ∧ (-(2 ^ 62) ≤ i ∧ i < 2 ^ 62 ∧ -(2 ^ 62) ≤ j ∧ j < 2 ^ 62) ∧ R (Itr i (j - i).toNat) H1
theorem pi_range1 {a : Expr} {ta : TA} {p pos : Pos} (hg : Gl X "range") (hm : X.mg "range" = none) (ha : PA X [a] ta) (hs : starEach [a] X.env = [(false, eval a X.env)] := by rfl) : PI X tg (.Call (.Name "range" p) [a] [] pos) (iRng1 ta) := by
  intro pins s σ H R I h
  refine Call_ (ld_blt I hg hm boot_range (PyProof.Rows.callWith_type1 (thn (ha pos pins s σ H _ I h) fun us s1 ⟨vs, H1, I1, r1, q1⟩ => ?_) hs rfl))
  obtain ⟨j, e, q1, q2, q⟩ := q1
  subst e
  cases r1 with
  | cons r rr =>
    cases rr
    obtain ⟨t, rfl⟩ := r
    exact call_range_1 (range_it I1 (by omega) (by omega) q1 q2 (by simpa using q))
theorem pi_range2 {a b : Expr} {ta : TA} {p pos : Pos} (hg : Gl X "range") (hm : X.mg "range" = none) (ha : PA X [a, b] ta) (hs : starEach [a, b] X.env = [(false, eval a X.env), (false, eval b X.env)] := by rfl) (hs2 : starEach [b] X.env = [(false, eval b X.env)] := by rfl) :
    PI X tg (.Call (.Name "range" p) [a, b] [] pos) (iRng2 ta) := by
  intro pins s σ H R I h
  refine Call_ (ld_blt I hg hm boot_range (PyProof.Rows.callWith_type1 (thn (ha pos pins s σ H _ I h) fun us s1 ⟨vs, H1, I1, r1, q1⟩ => ?_) (by rw [hs, hs2]) (by rw [hs2]; rfl)))
  obtain ⟨i, j, e, ⟨q1, q2, q3, q4⟩, q⟩ := q1
  subst e
  cases r1 with
  | cons r rr =>
    cases rr with
    | cons r' rr =>
      cases rr
      obtain ⟨t, rfl⟩ := r
      obtain ⟨t', rfl⟩ := r'
      exact call_range_2 (range_it I1 q1 q2 q3 q4 q)
def tFor (wi : TI) (g : TG) (tb : TS) : TS := fun D σ H => wi σ H fun J H1 => ∃ W : Nat → Nat → St → Hp → Prop, (∃ m, W 0 m σ H1) ∧ ∀ i m σ H, W i m σ H →
  (J.stop i H ∧ D.nx σ H) ∨ (J.go i H ∧ ∃ N : St → Hp → Prop, (∀ σ' H', N σ' H' → ∃ m', m' < m ∧ W (i + 1) m' σ' H') ∧ ∀ x H', J.yld i H x H' → g x σ H' fun σ2 H2 => tb { D with nx := N, ct := N, bk := D.nx } σ2 H2)
def pinsAt (fp : List Addr) (h : Heap) : List (Addr × Obj) := fp.filterMap fun b => (h.get? b).map fun o => (b, o)
theorem mem_pinsAt {fp : List Addr} {h : Heap} {b : Addr} {o : Obj} (hb : b ∈ fp) (e : h.get? b = some o) : (b, o) ∈ pinsAt fp h := List.mem_filterMap.mpr ⟨b, hb, by rw [e]; rfl⟩
theorem of_pinsAt {fp : List Addr} {h : Heap} {p : Addr × Obj} (hp : p ∈ pinsAt fp h) : p.1 ∈ fp ∧ h.get? p.1 = some p.2 := by
  obtain ⟨b, hb, e⟩ := List.mem_filterMap.mp hp
  cases q : h.get? b with
  | none => rw [q] at e; cases e
  | some o =>
    rw [q] at e
    have e' : (b, o) = p := Option.some.inj e
    subst e'
    exact ⟨hb, q⟩
theorem Inv.pinned {pins : List (Addr × Obj)} {σ : St} {H : Hp} {s : Shared} {fp : List Addr} (I : Inv X pins σ H s) (hf : ∀ b ∈ fp, FpOk X pins H b) (ho : ∀ b ∈ fp, ∃ o, s.heap.get? b = some o ∧ ∀ v, o.data ≠ .cell v) : Inv X (pins ++ pinsAt fp s.heap) σ H s :=
  I.pins_of fun p hp => (List.mem_append.mp hp).elim (fun z => I.pin p (List.mem_append_right _ z)) fun z => by
    obtain ⟨hb, e⟩ := of_pinsAt z
    obtain ⟨f0, f1, f2, _⟩ := hf p.1 hb
    obtain ⟨o, e', d⟩ := ho p.1 hb
    rw [e] at e'; cases e'
    exact ⟨e, f0, f1, f2, d⟩
theorem Inv.unpinned {pins pl : List (Addr × Obj)} {σ : St} {H : Hp} {s : Shared} (I : Inv X (pins ++ pl) σ H s) : Inv X pins σ H s := I.pins_of fun p hp => I.pin p (List.mem_append_right _ (List.mem_append_left _ hp))
theorem ps_for {iter : Expr} {body : List Stmt} {wi : TI} {g : TG} {tb : TS} {pos : Pos} (hp : PassesOwn (model X.prog X.w) X.A X.env X.xe) (hc : X.calm = true) (hi : PI X tg iter wi) (hg : PG X tg g) (hb : PSs X body tb)
    (hs : ∀ x, foldedSetIterable iter X.env x = pure x := by intro _; rfl) : PS X (.For tg iter body [] pos) (tFor wi g tb) := by
  intro pins s σ H D I h
  refine wpAny_For (thn (hi pins s σ H _ I h) fun v s1 h1 => thn h1 fun itv s2 h2 => ?_) hs
  obtain ⟨it, fp, tn, J, H2, e, I2, T, st2, f2, W, ⟨m0, w0⟩, turn⟩ := h2
  subst e
  have stat : ∀ {H' : Hp}, (∀ b ∈ fp, H' b = none) → ∀ b ∈ fp, FpOk X pins H' b := fun hn b hb => ⟨hn b hb, (f2 b hb).2⟩
  refine codeAny_forLoop_any (fun n s' => ∃ i σ' H', Inv X pins σ' H' s' ∧ tn i s'.heap ∧ (∀ b ∈ fp, H' b = none) ∧ W i n σ' H') ?_ m0 ⟨0, σ, H2, I2, st2, fun b hb => (f2 b hb).1, w0⟩
  rintro n s3 ⟨i, σ3, H3, I3, st3, fr3, w3⟩
  rcases turn i n σ3 H3 w3 with ⟨stop, qn⟩ | ⟨go, N, hN, step⟩
  · refine wpAny_passesOwn hp (thn (T.done X rfl rfl rfl hc i pins s3 σ3 H3 X.xe I3 (stat fr3) st3 stop) fun r s4 ⟨hr, I4⟩ => ?_)
    subst hr
    exact wpAny_execs_nil ⟨σ3, H3, I4, qn⟩
  · refine wpAny_passesOwn hp (thn (T.item X rfl rfl rfl hc i pins s3 σ3 H3 X.xe I3 (stat fr3) st3 go) fun r s4 ⟨u, hr, h4⟩ => ?_)
    subst hr
    refine wpAny_passesOwn hp (thn h4 fun _ s5 ⟨x, H5, I5, r5, y5, st5, fr5⟩ => ?_)
    have I5' := I5.pinned (stat fr5) (T.obj _ _ st5)
    refine wpAny_passesOwn hp (thn (hg _ s5 σ3 H5 x u _ I5' r5 (step x H5 y5)) fun _ s6 ⟨σ6, H6, I6, q6⟩ => ?_)
    refine wpAny_passesOwn hp (thn (hb _ s6 σ6 H6 _ I6 q6) fun f s7 q7 => ?_)
    have again : ∀ {σ7 : St} {H7 : Hp}, Inv X (pins ++ pinsAt fp s5.heap) σ7 H7 s7 → N σ7 H7 → ∃ m, m < n ∧ ∃ i σ' H', Inv X pins σ' H' s7 ∧ tn i s7.heap ∧ (∀ b ∈ fp, H' b = none) ∧ W i m σ' H' := fun {σ7 H7} I7 n7 => by
      obtain ⟨m', hm, w7⟩ := hN σ7 H7 n7
      refine ⟨m', hm, i + 1, σ7, H7, I7.unpinned, T.keep _ _ _ st5 fun b hb o e => (I7.pin (b, o) (List.mem_append_right _ (List.mem_append_right _ (mem_pinsAt hb e)))).1, fun b hb => ?_, w7⟩
      obtain ⟨o, e, d⟩ := T.obj _ _ st5 b hb
      exact (I7.pin (b, o) (List.mem_append_right _ (List.mem_append_right _ (mem_pinsAt hb e)))).2.1
    cases f with
    | next => obtain ⟨σ7, H7, I7, n7⟩ := q7; exact again I7 n7
    | cont => obtain ⟨σ7, H7, I7, n7⟩ := q7; exact again I7 n7
    | brk => obtain ⟨σ7, H7, I7, q7⟩ := q7; exact ⟨σ7, H7, I7.unpinned, q7⟩
    | ret v => obtain ⟨x7, σ7, H7, I7, r7, q7⟩ := q7; exact ⟨x7, σ7, H7, I7.unpinned, r7, q7⟩
end
theorem for_list {K : PySem.W.Frag} {a : Addr} {xs : List V} {g : TG} {tb : TS} {D : Ends} {σ : St} {H : Hp} (Pv : Nat → St → Hp → Prop) (h0 : Pv 0 σ H) (hl : ∀ i σ H, i ≤ xs.length → Pv i σ H → SqL K H a xs)
    (hs : ∀ i x σ H, xs[i]? = some x → Pv i σ H → g x σ H fun σ2 H2 => tb { D with nx := Pv (i + 1), ct := Pv (i + 1), bk := D.nx } σ2 H2) (hd : ∀ σ H, Pv xs.length σ H → D.nx σ H) :
    ∃ W : Nat → Nat → St → Hp → Prop, (∃ m, W 0 m σ H) ∧ ∀ i m σ H, W i m σ H →
      ((Itl K a).stop i H ∧ D.nx σ H) ∨ ((Itl K a).go i H ∧ ∃ N : St → Hp → Prop, (∀ σ' H', N σ' H' → ∃ m', m' < m ∧ W (i + 1) m' σ' H') ∧ ∀ x H', (Itl K a).yld i H x H' → g x σ H' fun σ2 H2 => tb { D with nx := N, ct := N, bk := D.nx } σ2 H2) := by
  refine ⟨fun i m σ H => m = xs.length - i ∧ i ≤ xs.length ∧ Pv i σ H, ⟨xs.length, by simp, Nat.zero_le _, h0⟩, ?_⟩
  rintro i m σ H ⟨rfl, hi, p⟩
  have q := hl i σ H hi p
  by_cases hlt : i < xs.length
  · refine .inr ⟨⟨xs, xs[i], q, by simp [hlt]⟩, Pv (i + 1), fun σ' H' p' => ⟨xs.length - (i + 1), by omega, rfl, hlt, p'⟩, fun x H' y => ?_⟩
    obtain ⟨e, y⟩ := y
    subst e
    exact hs i x σ _ (y xs q) p
  · have e : i = xs.length := by omega
    subst e
    exact .inl ⟨⟨xs, q, Nat.le_refl _⟩, hd σ H p⟩
theorem for_range {lo : Int} {n : Nat} {g : TG} {tb : TS} {D : Ends} {σ : St} {H : Hp} (Pv : Nat → St → Hp → Prop) (h0 : Pv 0 σ H)
    (hs : ∀ i σ H, i < n → Pv i σ H → g (.int (lo + i)) σ H fun σ2 H2 => tb { D with nx := Pv (i + 1), ct := Pv (i + 1), bk := D.nx } σ2 H2) (hd : ∀ σ H, Pv n σ H → D.nx σ H) :
    ∃ W : Nat → Nat → St → Hp → Prop, (∃ m, W 0 m σ H) ∧ ∀ i m σ H, W i m σ H →
      ((Itr lo n).stop i H ∧ D.nx σ H) ∨ ((Itr lo n).go i H ∧ ∃ N : St → Hp → Prop, (∀ σ' H', N σ' H' → ∃ m', m' < m ∧ W (i + 1) m' σ' H') ∧ ∀ x H', (Itr lo n).yld i H x H' → g x σ H' fun σ2 H2 => tb { D with nx := N, ct := N, bk := D.nx } σ2 H2) := by
  refine ⟨fun i m σ H => m = n - i ∧ i ≤ n ∧ Pv i σ H, ⟨n, by simp, Nat.zero_le _, h0⟩, ?_⟩
  rintro i m σ H ⟨rfl, hi, p⟩
  by_cases hlt : i < n
  · refine .inr ⟨hlt, Pv (i + 1), fun σ' H' p' => ⟨n - (i + 1), by omega, rfl, hlt, p'⟩, fun x H' y => ?_⟩
    obtain ⟨e, y⟩ := y
    subst e y
    exact hs i σ _ hlt p
  · have e : i = n := by omega
    subst e
    exact .inl ⟨Nat.le_refl _, hd σ H p⟩
end L2
namespace L2
open PySem PySem.Spec PyProof.Rows
abbrev R2 := V → V → Hp → VK → Prop
def OpR (X : Cx) (f : Value → Value → Sem Value) (r : R2) : Prop :=
  ∀ (pins : List (Addr × Obj)) (s : Shared) (σ : St) (H : Hp) (x y : V) (v u : Value) (Q : VK), Inv X pins σ H s → RelV x v → RelV y u → r x y H Q →
    wpAny (model X.prog X.w) X.A (f v u) (EP X pins σ Q) X.xe s
def UnR (X : Cx) (f : Value → Sem Value) (r : V → Hp → VK → Prop) : Prop :=
  ∀ (pins : List (Addr × Obj)) (s : Shared) (σ : St) (H : Hp) (x : V) (v : Value) (Q : VK), Inv X pins σ H s → RelV x v → r x H Q →
    wpAny (model X.prog X.w) X.A (f v) (EP X pins σ Q) X.xe s
def CallR (X : Cx) (f : Value) (r : List V → Hp → VK → Prop) : Prop :=
  ∀ (pins : List (Addr × Obj)) (s : Shared) (σ : St) (H : Hp) (xs : List V) (us : List Value) (Q : VK), Inv X pins σ H s → Vals xs us → r xs H Q →
    wpAny (model X.prog X.w) X.A (call f us) (EP X pins σ Q) X.xe s
def TruR (X : Cx) (r : V → Hp → (Bool → Hp → Prop) → Prop) : Prop :=
  ∀ (pins : List (Addr × Obj)) (s : Shared) (σ : St) (H : Hp) (x : V) (v : Value) (Q : Bool → Hp → Prop), Inv X pins σ H s → RelV x v → r x H Q →
    wpAny (model X.prog X.w) X.A (truthy v) (TP X pins σ Q) X.xe s
def tOp (r : R2) (ta tb : TE) : TE := fun σ H Q => ta σ H fun x H1 => tb σ H1 fun y H2 => r x y H2 Q
def tUn (r : V → Hp → VK → Prop) (ta : TE) : TE := fun σ H Q => ta σ H fun x H1 => r x H1 Q
def rI (C : Int → Int → Prop) (g : Int → Int → V) : R2 := fun x y H Q => ∃ i j, x = .int i ∧ y = .int j ∧ C i j ∧ Q (g i j) H
def rI0 (g : Int → Int → V) : R2 := fun x y H Q => ∃ i j, x = .int i ∧ y = .int j ∧ Q (g i j) H
def rU (g : Int → V) : V → Hp → VK → Prop := fun x H Q => ∃ i, x = .int i ∧ Q (g i) H
section
variable {X : Cx} {a b c : Expr} {ta tb tc : TE} {pos : Pos}
theorem binT (ha : PE X a ta) (hb : PE X b tb) {pins : List (Addr × Obj)} {s : Shared} {σ : St} {H : Hp} {R : V → V → Hp → Prop} (I : Inv X pins σ H s)
    (h : ta σ H fun x H1 => tb σ H1 fun y H2 => R x y H2) {Q : Value → Shared → Prop} {f : Value → Value → Sem Value}
    (hf : ∀ v u s2 x y H2, Inv X pins σ H2 s2 → RelV x v → RelV y u → R x y H2 → wpAny (model X.prog X.w) X.A (f v u) Q X.xe s2) :
    wpAny (model X.prog X.w) X.A (eval a X.env) (fun v s₁ => wpAny (model X.prog X.w) X.A (eval b X.env) (fun u s₂ => wpAny (model X.prog X.w) X.A (f v u) Q X.xe s₂) X.xe s₁) X.xe s := by
  refine thn (ha pins s σ H _ I h) fun v s1 ⟨x, H1, I1, r1, q1⟩ => ?_
  refine thn (hb pins s1 σ H1 _ I1 q1) fun u s2 ⟨y, H2, I2, r2, q2⟩ => ?_
  exact hf v u s2 x y H2 I2 r1 r2 q2
theorem pe_op {op : Operator} {r : R2} (ho : OpR X (binaryOp op) r) (ha : PE X a ta) (hb : PE X b tb) : PE X (.BinOp a op b pos) (tOp r ta tb) := by
  intro pins s σ H Q I h
  exact wpAny_BinOp (binT ha hb I h fun v u s2 x y H2 I2 rx ry q => ho pins s2 σ H2 x y v u Q I2 rx ry q)
theorem pe_un {op : UnaryOp} {r : V → Hp → VK → Prop} (ho : UnR X (unaryOp op) r) (ha : PE X a ta) : PE X (.UnaryOp op a pos) (tUn r ta) := by
  intro pins s σ H Q I h
  exact UnaryOp_ (thn (ha pins s σ H _ I h) fun v s1 ⟨x, H1, I1, r1, q1⟩ => ho pins s1 σ H1 x v Q I1 r1 q1)
theorem opI {f : Value → Value → Sem Value} {C : Int → Int → Prop} {g : Int → Int → Int}
    (rule : ∀ (i j : Int) (t u : Tok) (s : Shared) (Q : Value → Shared → Prop) (E : Value → Shared → Prop), C i j → Q (.int (g i j) s.toks) { s with toks := s.toks + 1 } → wpAny (model X.prog X.w) X.A (f (.int i t) (.int j u)) Q E s) :
    OpR X f (rI C fun i j => .int (g i j)) := by
  intro pins s σ H x y v u Q I rx ry h
  obtain ⟨i, j, rfl, rfl, hc, q⟩ := h
  obtain ⟨t, rfl⟩ := rx
  obtain ⟨t', rfl⟩ := ry
  exact rule i j t t' s _ _ hc ⟨.int (g i j), H, I.tok _, ⟨_, rfl⟩, q⟩
theorem opI0 {f : Value → Value → Sem Value} {g : Int → Int → Int}
    (rule : ∀ (i j : Int) (t u : Tok) (s : Shared) (Q : Value → Shared → Prop) (E : Value → Shared → Prop), Q (.int (g i j) s.toks) { s with toks := s.toks + 1 } → wpAny (model X.prog X.w) X.A (f (.int i t) (.int j u)) Q E s) :
    OpR X f (rI0 fun i j => .int (g i j)) := by
  intro pins s σ H x y v u Q I rx ry h
  obtain ⟨i, j, rfl, rfl, q⟩ := h
  obtain ⟨t, rfl⟩ := rx
  obtain ⟨t', rfl⟩ := ry
  exact rule i j t t' s _ _ ⟨.int (g i j), H, I.tok _, ⟨_, rfl⟩, q⟩
theorem opB0 {f : Value → Value → Sem Value} {g : Int → Int → Bool}
    (rule : ∀ (i j : Int) (t u : Tok) (s : Shared) (Q : Value → Shared → Prop) (E : Value → Shared → Prop), Q (.bool (g i j)) s → wpAny (model X.prog X.w) X.A (f (.int i t) (.int j u)) Q E s) :
    OpR X f (rI0 fun i j => .bl (g i j)) := by
  intro pins s σ H x y v u Q I rx ry h
  obtain ⟨i, j, rfl, rfl, q⟩ := h
  obtain ⟨t, rfl⟩ := rx
  obtain ⟨t', rfl⟩ := ry
  exact rule i j t t' s _ _ ⟨.bl (g i j), H, I, rfl, q⟩
def CDiv (i j : Int) : Prop := 0 < j ∧ j < 1073741824
def CMul (i j : Int) : Prop := (-(2 ^ 64) < i ∧ i < 2 ^ 64) ∨ (-(2 ^ 64) < j ∧ j < 2 ^ 64)
theorem CMul.ok {i j : Int} (h : CMul i j) : IntMulOk i j := by
  rcases h with ⟨h1, h2⟩ | ⟨h1, h2⟩
  · exact .of_left (intBits_le_64 h1 h2)
  · exact .of_right (intBits_le_64 h1 h2)
theorem op_add : OpR X (binaryOp .Add) (rI0 fun i j => .int (i + j)) := opI0 fun _ _ _ _ _ _ _ q => add_int q
theorem op_sub : OpR X (binaryOp .Sub) (rI0 fun i j => .int (i - j)) := opI0 fun _ _ _ _ _ _ _ q => sub_int q
theorem op_mul : OpR X (binaryOp .Mult) (rI CMul fun i j => .int (i * j)) := opI fun _ _ _ _ _ _ _ hc q => mul_int q hc.ok
theorem op_fdiv : OpR X (binaryOp .FloorDiv) (rI CDiv fun i j => .int (i / j)) := opI fun i j _ _ _ _ _ hc q => by
  have h1 : (0 : Int) < j := hc.1
  have h2 : j < 1073741824 := hc.2
  exact floordiv_int (by omega) (by rw [Int.fdiv_eq_ediv_of_nonneg i (by omega)]; exact q) (.inl (PyProof.noPylong_small (by omega)))
theorem op_mod : OpR X (binaryOp .Mod) (rI (fun _ j => 0 < j) fun i j => .int (i % j)) := opI fun i j _ _ _ _ _ hc q => by
  have h1 : (0 : Int) < j := hc
  exact mod_int' (by omega) (by rw [Int.fmod_eq_emod_of_nonneg i (by omega)]; exact q)
theorem unI {f : Value → Sem Value} {g : Int → Int}
    (rule : ∀ (i : Int) (t : Tok) (s : Shared) (Q : Value → Shared → Prop) (E : Value → Shared → Prop), Q (.int (g i) s.toks) { s with toks := s.toks + 1 } → wpAny (model X.prog X.w) X.A (f (.int i t)) Q E s) :
    UnR X f (rU fun i => .int (g i)) := by
  intro pins s σ H x v Q I rx h
  obtain ⟨i, rfl, q⟩ := h
  obtain ⟨t, rfl⟩ := rx
  exact rule i t s _ _ ⟨.int (g i), H, I.tok _, ⟨_, rfl⟩, q⟩
theorem un_neg : UnR X (unaryOp .USub) (rU fun i => .int (-i)) := unI fun _ _ _ _ _ q => neg_int q
end
def scal : V → V → Bool
  | .non, .non => true | .non, .int _ => true | .int _, .non => true | .non, .bl _ => true | .bl _, .non => true | .non, .str _ => true | .str _, .non => true
  | .int _, .int _ => true | .bl _, .bl _ => true | .str _, .str _ => true | .byt _, .byt _ => true
  | .int _, .str _ => true | .str _, .int _ => true | .bl _, .str _ => true | .str _, .bl _ => true
  | _, _ => false
def rEq : R2 := fun x y H Q => scal x y = true ∧ Q (.bl (decide (x = y))) H
theorem dec_int {i j : Int} : decide (V.int i = V.int j) = (i == j) := by
  rw [Bool.eq_iff_iff]
  simp
theorem dec_bl {i j : Bool} : decide (V.bl i = V.bl j) = (i == j) := by
  rw [Bool.eq_iff_iff]
  simp
theorem dec_str {i j : Str} : decide (V.str i = V.str j) = (i == j) := by
  rw [Bool.eq_iff_iff]
  simp
theorem dec_byt {i j : Array UInt8} : decide (V.byt i = V.byt j) = (i.toList == j.toList) := by
  rw [Bool.eq_iff_iff]
  cases i
  cases j
  simp
section
variable {X : Cx} {a b c : Expr} {ta tb tc : TE} {pos : Pos}
theorem fin_bl {pins : List (Addr × Obj)} {σ : St} {H : Hp} {s : Shared} {Q : VK} {k k' : Bool} (I : Inv X pins σ H s) (q : Q (.bl k) H) (e : k = k') : EP X pins σ Q (.bool k') s := by
  subst e
  exact ⟨.bl k, H, I, rfl, q⟩
theorem op_eq : OpR X (compareOp .Eq) rEq := by
  intro pins s σ H x y v u Q I rx ry h
  obtain ⟨hs, q⟩ := h
  cases x with
  | non =>
    cases rx
    cases y with
    | non => cases ry; exact PySem.EqNone.eq_none_none (fin_bl I q (by simp))
    | bl j => cases ry; exact PySem.EqNone.eq_none_bool (fin_bl I q (by simp))
    | int j => obtain ⟨t', rfl⟩ := ry; exact PySem.EqNone.eq_none_int (fin_bl I q (by simp))
    | str j => obtain ⟨t', rfl⟩ := ry; exact PySem.EqNone.eq_none_str (fin_bl I q (by simp))
    | _ => exact absurd (show false = true from hs) Bool.false_ne_true
  | bl i =>
    cases rx
    cases y with
    | non => cases ry; exact PySem.EqNone.eq_bool_none (fin_bl I q (by simp))
    | bl j => cases ry; exact eq_bool (fin_bl I q dec_bl)
    | str j => obtain ⟨t', rfl⟩ := ry; exact PySem.EqMixed.eq_bool_str (fin_bl I q (by simp))
    | _ => exact absurd (show false = true from hs) Bool.false_ne_true
  | int i =>
    obtain ⟨t, rfl⟩ := rx
    cases y with
    | non => cases ry; exact PySem.EqNone.eq_int_none (fin_bl I q (by simp))
    | int j => obtain ⟨t', rfl⟩ := ry; exact eq_int (fin_bl I q dec_int)
    | str j => obtain ⟨t', rfl⟩ := ry; exact PySem.EqMixed.eq_int_str (fin_bl I q (by simp))
    | _ => exact absurd (show false = true from hs) Bool.false_ne_true
  | str i =>
    obtain ⟨t, rfl⟩ := rx
    cases y with
    | non => cases ry; exact PySem.EqNone.eq_str_none (fin_bl I q (by simp))
    | bl j => cases ry; exact PySem.EqMixed.eq_str_bool (fin_bl I q (by simp))
    | int j => obtain ⟨t', rfl⟩ := ry; exact PySem.EqMixed.eq_str_int (fin_bl I q (by simp))
    | str j => obtain ⟨t', rfl⟩ := ry; exact eq_str (fin_bl I q dec_str)
    | _ => exact absurd (show false = true from hs) Bool.false_ne_true
  | byt i =>
    obtain ⟨t, rfl⟩ := rx
    cases y with
    | byt j => obtain ⟨t', rfl⟩ := ry; exact PySem.W.eq_bytes (fin_bl I q dec_byt)
    | _ => exact absurd (show false = true from hs) Bool.false_ne_true
  | _ => cases y <;> exact absurd (show false = true from hs) Bool.false_ne_true
theorem op_lt : OpR X (compareOp .Lt) (rI0 fun i j => .bl (decide (i < j))) := opB0 fun _ _ _ _ _ _ _ q => lt_int q
theorem op_le : OpR X (compareOp .LtE) (rI0 fun i j => .bl (decide (i ≤ j))) := opB0 fun _ _ _ _ _ _ _ q => le_int q
theorem op_gt : OpR X (compareOp .Gt) (rI0 fun i j => .bl (decide (j < i))) := opB0 fun _ _ _ _ _ _ _ q => gt_int q
theorem op_ge : OpR X (compareOp .GtE) (rI0 fun i j => .bl (decide (j ≤ i))) := opB0 fun _ _ _ _ _ _ _ q => ge_int q
theorem op_isN : OpR X (compareOp .Is) (fun x y H Q => y = .non ∧ Q (.bl (decide (x = .non))) H) := by
  intro pins s σ H x y v u Q I rx ry h
  obtain ⟨rfl, q⟩ := h
  cases ry
  refine is_none_gen (fin_bl I q ?_)
  cases x <;> first
    | (cases rx; rfl)
    | (obtain ⟨t, rfl⟩ := rx; rfl)
theorem op_notN : OpR X (compareOp .IsNot) (fun x y H Q => y = .non ∧ Q (.bl (!decide (x = .non))) H) := by
  intro pins s σ H x y v u Q I rx ry h
  obtain ⟨rfl, q⟩ := h
  cases ry
  refine isnot_none_gen (fin_bl I q ?_)
  cases x <;> first
    | (cases rx; rfl)
    | (obtain ⟨t, rfl⟩ := rx; rfl)
theorem nomark (b : Expr) {op : CmpOp} (h : op ≠ .In := by decide) (h2 : op ≠ .NotIn := by decide) : behindInMarks op b = false := by
  have e1 : (op == CmpOp.In) = false := by cases op <;> first | rfl | exact absurd rfl h
  have e2 : (op == CmpOp.NotIn) = false := by cases op <;> first | rfl | exact absurd rfl h2
  cases b <;> simp [behindInMarks, e1, e2]
theorem pe_cmpR {op : CmpOp} {r : R2} (ho : OpR X (compareOp op) r) (ha : PE X a ta) (hb : PE X b tb) (hm : behindInMarks op b = false) : PE X (.Compare a [op] [b] pos) (tOp r ta tb) := by
  intro pins s σ H Q I h
  exact wpAny_Compare1 (binT ha hb I h fun v u s2 x y H2 I2 rx ry q => ho pins s2 σ H2 x y v u Q I2 rx ry q) hm
def tTest (t : TE) : TT := fun σ H Q => t σ H fun x H' => ∃ k, x = .bl k ∧ Q k H'
theorem pt_cmpR {op : CmpOp} {r : R2} (ho : OpR X (compareOp op) r) (ha : PE X a ta) (hb : PE X b tb) (hm : behindInMarks op b = false) : PT X (.Compare a [op] [b] pos) (tTest (tOp r ta tb)) := by
  intro pins s σ H Q I h
  refine wpAny_isTrue_Compare1 (thn (ha pins s σ H _ I h) fun v s1 ⟨x, H1, I1, r1, q1⟩ => thn (hb pins s1 σ H1 _ I1 q1) fun u s2 ⟨y, H2, I2, r2, q2⟩ =>
    thn (ho pins s2 σ H2 x y v u _ I2 r1 r2 q2) fun c s3 ⟨z, H3, I3, r3, k, e, q3⟩ => ?_) hm
  subst e
  cases r3
  exact wpAny_truthy_bool ⟨H3, I3, q3⟩
def tChain (r r' : R2) (ta tb tc : TE) : TE := fun σ H Q => ta σ H fun x H1 => tb σ H1 fun y H2 => r x y H2 fun z H3 => ∃ k, z = .bl k ∧
  (if k = true then tc σ H3 fun w' H4 => r' y w' H4 Q else Q (.bl false) H3)
theorem pt_chain {op op' : CmpOp} {r r' : R2} (ho : OpR X (compareOp op) r) (ho' : OpR X (compareOp op') r') (ha : PE X a ta) (hb : PE X b tb) (hc : PE X c tc)
    (hm : lastMarks [op, op'] [b, c] = false := by with_unfolding_all rfl) : PT X (.Compare a [op, op'] [b, c] pos) (tTest (tChain r r' ta tb tc)) := by
  intro pins s σ H Q I h
  refine isTrue_chain (thn (ha pins s σ H _ I h) fun v s1 ⟨x, H1, I1, r1, q1⟩ => test_link (thn (hb pins s1 σ H1 _ I1 q1) fun u s2 ⟨y, H2, I2, r2, q2⟩ =>
    thn (ho pins s2 σ H2 x y v u _ I2 r1 r2 q2) fun d s3 ⟨z, H3, I3, r3, k, e, q3⟩ => ?_)) hm
  subst e
  cases r3
  refine wpAny_truthy_bool ?_
  cases k with
  | false =>
    obtain ⟨k', e', q'⟩ := q3
    cases e'
    exact ite_ff ⟨H3, I3, q'⟩
  | true =>
    refine ite_tt (test_last (thn (hc pins s3 σ H3 _ I3 q3) fun w' s4 ⟨z', H4, I4, r4, q4⟩ => thn (ho' pins s4 σ H4 y z' u w' _ I4 r2 r4 q4) fun d' s5 ⟨z2, H5, I5, r5, k2, e2, q5⟩ => ?_))
    subst e2
    cases r5
    exact wpAny_truthy_bool ⟨H5, I5, q5⟩
def TruV (K : PySem.W.Frag) (x : V) (H : Hp) (k : Bool) : Prop :=
  match x with
  | .non => k = false
  | .bl b => k = b
  | .int i => k = (i != 0)
  | .str y => y.length ≤ sizeLine ∧ k = ((y.length : Int) != 0)
  | .byt y => y.size ≤ sizeLine ∧ k = ((y.size : Int) != 0)
  | .ref p => (∃ xs, SqL K H p xs ∧ k = !xs.isEmpty) ∨ (∃ xs, SqT K H p xs ∧ k = !xs.isEmpty) ∨ ∃ kvs, H p = some (.dK kvs) ∧ k = !kvs.isEmpty
  | _ => False
theorem isEmpty_kv {κ : Type} {kvs : List (κ × V)} {vs : List (κ × Value)} (r : KV kvs vs) : (!vs.isEmpty) = !kvs.isEmpty := by
  cases r <;> rfl
theorem isEmpty_of {xs : List V} {its : List Value} (r : Vals xs its) : (!its.toArray.isEmpty) = !xs.isEmpty := by
  cases r <;> simp
theorem line63 : (sizeLine : Nat) < 2 ^ 63 := by rw [sizeLine_eq]; decide
theorem tru_ok : TruR X (fun x H Q => ∃ k, TruV X.K x H k ∧ Q k H) := by
  intro pins s σ H x v Q I rx h
  obtain ⟨k, e, q⟩ := h
  have hl := line63
  have hs : sizeLine = 16777216 := sizeLine_eq
  cases x with
  | non =>
    cases rx
    have e' : k = false := e
    subst e'
    exact truthy_none ⟨H, I, q⟩
  | bl b =>
    cases rx
    have e' : k = b := e
    subst e'
    exact wpAny_truthy_bool ⟨H, I, q⟩
  | int i =>
    obtain ⟨t, rfl⟩ := rx
    have e' : k = (i != 0) := e
    subst e'
    exact PySem.P.truthy_int ⟨H, I, q⟩
  | str y =>
    obtain ⟨t, rfl⟩ := rx
    obtain ⟨hy, e'⟩ : y.length ≤ sizeLine ∧ k = ((y.length : Int) != 0) := e
    subst e'
    exact PySem.P.truthy_str (by omega) ⟨H, I.tok _, q⟩
  | byt y =>
    obtain ⟨t, rfl⟩ := rx
    obtain ⟨hy, e'⟩ : y.size ≤ sizeLine ∧ k = ((y.size : Int) != 0) := e
    subst e'
    exact PySem.W.truthy_bytes (by omega) ⟨H, I.tok _, q⟩
  | ref p =>
    cases rx
    have e' : (∃ xs, SqL X.K H p xs ∧ k = !xs.isEmpty) ∨ (∃ xs, SqT X.K H p xs ∧ k = !xs.isEmpty) ∨ ∃ kvs, H p = some (.dK kvs) ∧ k = !kvs.isEmpty := e
    rcases e' with ⟨xs, hx, e'⟩ | ⟨xs, hx, e'⟩ | ⟨kvs, hx, e'⟩
    · subst e'
      obtain ⟨its, r, pl, hz⟩ := I.list hx
      have hlen := r.length
      exact wpAny_truthy_list pl.isList (by simp only [List.size_toArray]; omega) ⟨H, I.tok _, by rw [isEmpty_of r]; exact q⟩
    · subst e'
      obtain ⟨its, r, pl, hz⟩ := I.tuple hx
      have hlen := r.length
      exact truthy_tuple pl (by simp only [List.size_toArray]; omega) ⟨H, I.tok _, by rw [isEmpty_of r]; exact q⟩
    · subst e'
      obtain ⟨hz, hS, vs, r, m⟩ : kvs.length ≤ sizeLine ∧ (p == sysModules) = false ∧ ∃ vs, KV kvs vs ∧ s.heap.DictOf (mixKind X.prog X.w) p vs := I.hok p _ hx
      have hlen : kvs.length = vs.length := Paired.length r
      exact wpAny_truthy_dict hS m (by omega) ⟨H, I.tok _, by rw [isEmpty_kv r]; exact q⟩
  | _ => exact (show False from e).elim
theorem pt_truth (ha : PE X a ta) (he : ∀ whole, isTrue a X.env whole = (do let v ← whole; standAt a.pos; holding [v] (truthy v))) :
    PT X a (fun σ H Q => ta σ H fun x H' => ∃ k, TruV X.K x H' k ∧ Q k H') := by
  intro pins s σ H Q I h
  exact isTrue_plain (thn (ha pins s σ H _ I h) fun v s1 ⟨x, H1, I1, r1, q1⟩ => tru_ok pins s1 σ H1 x v Q I1 r1 q1) (he _)
theorem vals1 {x : V} {us : List Value} (r : Vals [x] us) : ∃ u, us = [u] ∧ RelV x u := by
  cases r with
  | cons r1 r2 => cases r2; exact ⟨_, rfl, r1⟩
end
end L2
namespace L2
open PySem PySem.Spec PyProof.Rows
structure ObjM (h : Heap) (x dx C : Addr) (mA : Str → Option Value) : Prop where
  obj : h.get? x = some (PySem.W.instObj C dx)
  ns : h.Ns1 dx mA
  ne : dx ≠ x
theorem lookIn_ns {h : Heap} {dx : Addr} {mA : Str → Option Value} (n : h.Ns1 dx mA) : ∃ od, h.get? dx = some od ∧ ∀ name, PySem.W.lookIn name od = some (mA name) := by
  obtain ⟨o, es, ep, ho, hd, hk, _, hm⟩ := n
  refine ⟨o, ho, fun name => ?_⟩
  have e := hm name
  unfold nsFind findBy at e
  rw [← Array.find?_toList] at e
  unfold PySem.W.lookIn
  rw [hd]
  dsimp only
  split
  · rename_i y q
    rw [q] at e
    exact congrArg some e
  · rename_i q
    rw [q] at e
    have a : es.toList.any (·.refKey) = false := by
      rw [List.any_eq_false]
      intro y hy
      obtain ⟨z, t, hkey⟩ := hk y (Array.mem_toList_iff.mp hy)
      simp [DictEntry.refKey, hkey]
    have a' : ¬ es.toList.any (·.refKey) = true := by rw [a]; exact Bool.false_ne_true
    rw [if_neg a']
    exact congrArg some e
theorem ObjM.look {h : Heap} {x dx C : Addr} {mA : Str → Option Value} (I : ObjM h x dx C mA) : ∃ od, PySem.W.InstAt h x (PySem.W.instObj C dx) C (some od) ∧ ∀ name, PySem.W.lookIn name od = some (mA name) :=
  let ⟨od, ho, hl⟩ := lookIn_ns I.ns
  ⟨od, ⟨I.obj, rfl, rfl, ho⟩, hl⟩
section
variable {prog : Program} {w : World} {A : Around} {E : Value → Shared → Prop} {s : Shared} {K : PySem.W.Frag} {x dx C f : Addr} {mA : Str → Option Value} {name : Str} {v : Value}
theorem get_map {expr : Bool} {Q : Value → Shared → Prop} (X : K.In s.heap) (I : ObjM s.heap x dx C mA) (hg : PySem.W.plainGet K C name = true) (hh : PySem.W.hasDictIn K C = true)
    (ha : PySem.W.findIn K (.ref C) name = some none) (hv : mA name = some v) (hv' : PySem.W.handedIn v = true) (h : Q v { s with toks := s.toks + 1 }) :
    wpAny (model prog w) A (getAttr (.ref x) name expr) Q E s := by
  obtain ⟨od, J, hl⟩ := I.look
  exact PySem.W.get_value X J (PySem.W.plainGet_of hg).1 (PySem.W.findObj_own hh ha rfl (by rw [hl, hv])) hv' h
theorem get_meth {pl : Sem Bool} {Q : Value × List Value → Shared → Prop} (X : K.In s.heap) (I : ObjM s.heap x dx C mA) (hg : PySem.W.plainGet K C name = true)
    (hf : PySem.W.findIn K (.ref C) name = some (some (.ref f))) (ht : PySem.W.isFn K (.ref f) = true) (hv : mA name = none) (h : Q (.ref f, [.ref x]) s) :
    wpAny (model prog w) A (getMethod (.ref x) name pl) Q E s := by
  obtain ⟨od, J, hl⟩ := I.look
  exact PySem.W.method_fn X J (PySem.W.plainGet_of hg).1 (PySem.W.plainGet_of hg).2 hf (beq_iff_eq.mp ht) (by show (PySem.W.lookIn name od).map (·.isSome) = some false; rw [hl, hv]; rfl) h
theorem set_map {ns : List Str} {Q : Unit → Shared → Prop} (X : K.In s.heap) (I : ObjM s.heap x dx C mA)
    (hs : PySem.W.findIn K (.ref C) "__setattr__" = some (some (.builtin "object.__setattr__"))) (hp : PySem.W.plainOver K C = true) (ht : PySem.W.takerIn K C name = some none) (hh : PySem.W.hasDictIn K C = true)
    (hw : PySem.Within mA ns) (hsz : ns.length ≤ sizeLine)
    (h : ∀ h', ObjM h' x dx C (fun y => if y = name then some v else mA y) → Heap.SameBut dx s.heap h' → Q () { s with heap := h', toks := s.toks + 2 }) :
    wpAny (model prog w) A (setAttr (.ref x) name v) Q E s := by
  obtain ⟨od, J, hl⟩ := I.look
  refine PySem.W.set_plain X J hs (PySem.W.osa_open (s := { s with toks := s.toks + 1 }) (r := none) X J hp ht fun b => ?_)
  obtain ⟨cd, hc, hd'⟩ := PySem.W.any_some hh
  have hx : s.heap.get? x = some ⟨.ref C, some dx, .plain, #[]⟩ := I.obj
  refine wpAny_bind (wpAny_pure (wpAny_bind (wpAny_bind (wpAny_loadPart hx (wpAny_bind (PySem.W.Looks.here (s := { s with toks := s.toks + 1 }) (PySem.W.looks_clsIn X hc) ?_))))))
  rw [hd']
  refine wpAny_pure (a := some dx) (wpAny_bind (wpAny_pure (wpAny_bind ?_)))
  refine wpAny_nsSet1 (s := { s with toks := s.toks + 1 }) I.ns fun h' hn2 hs2 => ?_
  obtain ⟨oD, esD, epD, hoD, hdD, hcD⟩ := hn2.count (PySem.Within.cons name v hw)
  refine wpAny_bind (wpAny_lookBehind hoD (by rw [hdD]; exact pastItsLine_dict (Nat.le_trans hcD (by rw [List.length_cons]; omega))) ?_)
  exact wpAny_pure (h _ ⟨(hs2.2 _ (Ne.symm I.ne)).trans I.obj, hn2, I.ne⟩ hs2)
theorem make_map {R : Result → Shared → Prop} {vs : List Value} {kw : List (Str × Value)} (X : K.In s.heap) (hm : PySem.W.makesIn K C = true)
    (hi : PySem.W.findIn K (.ref C) "__init__" = some (some (.ref f))) (hf : PySem.W.typeIn K (.ref f) = some (.type "function"))
    (h : codeAny (model prog w) (A.under (.builtin "type.__call__" ⟨.ref C :: vs, kw⟩)) (.call (.ref f) ⟨.ref (s.heap.objs.size + 1) :: vs, kw⟩) (PySem.W.InitBack (s.heap.objs.size + 1) R)
      { s with heap := (s.heap.push PySem.W.emptyDict).push (PySem.W.instObj C s.heap.objs.size) }) :
    codeAny (model prog w) A (.call (.ref C) ⟨vs, kw⟩) R s := by
  obtain ⟨hh, g, d, t, os⟩ := s
  exact PySem.W.make_core (PySem.W.makes_of X hm) (PySem.W.looks_findIn X hi) (fun self => PySem.W.bind_fn X self hf) (.inl rfl) h
end
def putF (f : Str) (v : V) : List (Str × V) → List (Str × V)
  | [] => [(f, v)]
  | (g, x) :: r => if g = f then (g, v) :: r else (g, x) :: putF f v r
theorem lookup_putF (f g : Str) (v : V) : ∀ fs : List (Str × V), (putF f v fs).lookup g = if g = f then some v else fs.lookup g
  | [] => by
    show List.lookup g [(f, v)] = _
    by_cases h : g = f
    · have hb : (g == f) = true := beq_iff_eq.mpr h
      simp only [List.lookup, hb, if_pos h]
    · have hb : (g == f) = false := beq_eq_false_iff_ne.mpr h
      simp only [List.lookup, hb, if_neg h]
  | (k, x) :: r => by
    have ih := lookup_putF f g v r
    rw [show putF f v ((k, x) :: r) = (if k = f then (k, v) :: r else (k, x) :: putF f v r) from rfl]
    by_cases hk : k = f
    · rw [if_pos hk]
      by_cases h : g = k
      · have hb : (g == k) = true := beq_iff_eq.mpr h
        simp only [List.lookup, hb, if_pos (h.trans hk)]
      · have hb : (g == k) = false := beq_eq_false_iff_ne.mpr h
        simp only [List.lookup, hb, if_neg (fun e : g = f => h (e.trans hk.symm))]
    · rw [if_neg hk]
      by_cases h : g = k
      · have hb : (g == k) = true := beq_iff_eq.mpr h
        simp only [List.lookup, hb, if_neg (fun e : g = f => hk (h.symm.trans e))]
      · have hb : (g == k) = false := beq_eq_false_iff_ne.mpr h
        simp only [List.lookup, hb]
        exact ih
theorem keys_putF (f : Str) (v : V) : ∀ fs : List (Str × V), f ∈ (putF f v fs).map (·.1) ∧ ∀ g, g ∈ fs.map (·.1) → g ∈ (putF f v fs).map (·.1)
  | [] => ⟨by simp [putF], fun g h => by simp at h⟩
  | (k, x) :: r => by
    obtain ⟨i1, i2⟩ := keys_putF f v r
    rw [show putF f v ((k, x) :: r) = (if k = f then (k, v) :: r else (k, x) :: putF f v r) from rfl]
    by_cases hk : k = f
    · rw [if_pos hk]
      subst hk
      exact ⟨by simp, fun g h => by simpa using h⟩
    · rw [if_neg hk]
      refine ⟨?_, fun g h => ?_⟩
      · rw [List.map_cons]
        exact List.mem_cons_of_mem _ i1
      · rw [List.map_cons] at h ⊢
        rcases List.mem_cons.mp h with e | e
        · exact List.mem_cons.mpr (.inl e)
        · exact List.mem_cons_of_mem _ (i2 g e)
theorem length_putF (f : Str) (v : V) : ∀ fs : List (Str × V), (putF f v fs).length ≤ fs.length + 1
  | [] => by simp [putF]
  | (k, x) :: r => by
    have ih := length_putF f v r
    rw [show putF f v ((k, x) :: r) = (if k = f then (k, v) :: r else (k, x) :: putF f v r) from rfl]
    by_cases hk : k = f
    · rw [if_pos hk, List.length_cons, List.length_cons]; omega
    · rw [if_neg hk, List.length_cons, List.length_cons]; omega
theorem RelO.some_of {v : V} {o : Option Value} (r : RelO (some v) o) : ∃ u, o = some u ∧ RelV v u := by
  cases o with
  | none => exact (show False from r).elim
  | some u => exact ⟨u, rfl, r⟩
theorem RelO.none_of {o : Option Value} (r : RelO none o) : o = none := by
  cases o with
  | none => rfl
  | some u => exact (show False from r).elim
theorem handed_of {v : V} {u : Value} (r : RelV v u) : PySem.W.handedIn u = true := by
  cases v with
  | non => cases (show u = Value.none from r); rfl
  | bl b => cases (show u = Value.bool b from r); rfl
  | int i => obtain ⟨t, e⟩ := (show ∃ t, u = Value.int i t from r); cases e; rfl
  | str x => obtain ⟨t, e⟩ := (show ∃ t, u = Value.str x t from r); cases e; rfl
  | byt b => obtain ⟨t, e⟩ := (show ∃ t, u = Value.bytes b t from r); cases e; rfl
  | flt b => obtain ⟨t, e⟩ := (show ∃ t, u = Value.float b t from r); cases e; rfl
  | ref a => cases (show u = Value.ref a from r); rfl
  | ty n => cases (show u = Value.type n from r); rfl
section
variable {P : Program} {w : World} {H H' : Hp} {h h' : Heap} {a C dx : Addr} {fs fs' : List (Str × V)}
theorem ins_get (hok : HOk P w H h) (e : H a = some (.ins C dx fs)) : ∃ mA, ObjM h a dx C mA ∧ (∀ f, RelO (fs.lookup f) (mA f)) ∧ PySem.Within mA (fs.map (·.1)) ∧ fs.length ≤ 1000 ∧ H dx = some (.own a) := by
  obtain ⟨d, z, ne, ob, mA, n, r, q⟩ := (show ObjOk P w H h a (.ins C dx fs) from hok a _ e)
  exact ⟨mA, ⟨ob, n, ne⟩, r, q, z, d⟩
end
structure Cls (K : PySem.W.Frag) (C : Addr) : Prop where
  pg : PySem.W.plainGet K C Str.empty = true
  hd : PySem.W.hasDictIn K C = true
  po : PySem.W.plainOver K C = true
  sa : PySem.W.findIn K (.ref C) "__setattr__" = some (some (.builtin "object.__setattr__"))
theorem Cls.get {K : PySem.W.Frag} {C : Addr} (c : Cls K C) (f : Str) : PySem.W.plainGet K C f = true := c.pg
def NoAttr (K : PySem.W.Frag) (C : Addr) (f : Str) : Prop := PySem.W.findIn K (.ref C) f = some none
theorem NoAttr.taker {K : PySem.W.Frag} {C : Addr} {f : Str} (n : NoAttr K C f) : PySem.W.takerIn K C f = some none := by
  unfold PySem.W.takerIn
  rw [show PySem.W.findIn K (.ref C) f = some none from n]
  rfl
structure Meth (K : PySem.W.Frag) (C : Addr) (m : Str) (f : Addr) : Prop where
  at_ : PySem.W.findIn K (.ref C) m = some (some (.ref f))
  fn : PySem.W.isFn K (.ref f) = true
  kp : PySem.W.keepIn K (.ref f) = true
section
variable {X : Cx} {pins : List (Addr × Obj)} {σ : St} {H : Hp} {s : Shared} {a C dx : Addr} {fs : List (Str × V)} {f : Str} {v : V} {A : Around} {E : Value → Shared → Prop}
theorem getattr_ok {b : Bool} {Q : Value → Shared → Prop} (I : Inv X pins σ H s) (e : H a = some (.ins C dx fs)) (c : Cls X.K C) (n : NoAttr X.K C f) (l : fs.lookup f = some v)
    (h : ∀ u s', Inv X pins σ H s' → RelV v u → Q u s') : wpAny (model X.prog X.w) A (getAttr (.ref a) f b) Q E s := by
  obtain ⟨mA, O, r, _, _, _⟩ := ins_get I.hok e
  obtain ⟨u, hu, ru⟩ := RelO.some_of (v := v) (o := mA f) (by rw [← l]; exact r f)
  exact get_map I.kIn O (c.get f) c.hd n hu (handed_of ru) (h u _ (I.tok _) ru)
theorem getmeth_ok {m : Str} {g : Addr} {pl : Sem Bool} {Q : Value × List Value → Shared → Prop} (I : Inv X pins σ H s) (e : H a = some (.ins C dx fs)) (c : Cls X.K C) (k : Meth X.K C m g) (l : fs.lookup m = none)
    (h : Q (.ref g, [.ref a]) s) : wpAny (model X.prog X.w) A (getMethod (.ref a) m pl) Q E s := by
  obtain ⟨mA, O, r, _, _, _⟩ := ins_get I.hok e
  have hn : mA m = none := RelO.none_of (by rw [← l]; exact r m)
  exact get_meth I.kIn O (c.get m) k.at_ k.fn hn h
theorem setattr_ok {y : V} {u : Value} {Q : Unit → Shared → Prop} (I : Inv X pins σ H s) (e : H a = some (.ins C dx fs)) (c : Cls X.K C) (n : NoAttr X.K C f) (hl : fs.length < 1000) (ry : RelV y u)
    (h : ∀ s', Inv X pins σ (upd H a (.ins C dx (putF f y fs))) s' → Q () s') : wpAny (model X.prog X.w) A (setAttr (.ref a) f u) Q E s := by
  obtain ⟨mA, O, r, wi, _, ho⟩ := ins_get I.hok e
  have hz : (fs.map (·.1)).length ≤ sizeLine := by rw [List.length_map, sizeLine_eq]; omega
  refine set_map I.kIn O c.sa c.po n.taker c.hd wi hz fun h' O' sb => h _ ?_
  have hd : ∃ o, h'.get? dx = some o := let ⟨o, _, _, e', _⟩ := O'.ns; ⟨o, e'⟩
  refine I.write (x := a) (e := dx) (by rw [e]; exact True.intro) (.inr ho) (fun b q hb z => (sb.2 b hb).trans z) hd ?_
  refine ⟨by rw [upd_ne O.ne]; exact ho, ?_, O.ne, O'.obj, _, O'.ns, fun g => ?_, fun g hg => ?_⟩
  · have := length_putF f y fs; omega
  · show RelO ((putF f y fs).lookup g) (if g = f then some u else mA g)
    rw [lookup_putF]
    by_cases q : g = f
    · rw [if_pos q, if_pos q]; exact ry
    · rw [if_neg q, if_neg q]; exact r g
  · by_cases q : g = f
    · rw [q]; exact (keys_putF f y fs).1
    · refine (keys_putF f y fs).2 g (wi g fun z => hg ?_)
      show (if g = f then some u else mA g) = none
      rw [if_neg q]; exact z
theorem Inv.made (I : Inv X pins σ H s) : Inv X pins σ (upd (upd H s.heap.objs.size (.own (s.heap.objs.size + 1))) (s.heap.objs.size + 1) (.ins C s.heap.objs.size []))
    { s with heap := (s.heap.push PySem.W.emptyDict).push (PySem.W.instObj C s.heap.objs.size) } := by
  have e1 : (s.heap.push PySem.W.emptyDict).get? s.heap.objs.size = some PySem.W.emptyDict := Heap.get?_push_size s.heap rfl
  have e2 : ((s.heap.push PySem.W.emptyDict).push (PySem.W.instObj C s.heap.objs.size)).get? (s.heap.objs.size + 1) = some (PySem.W.instObj C s.heap.objs.size) := by
    have := Heap.get?_push_size (s.heap.push PySem.W.emptyDict) (o := PySem.W.instObj C s.heap.objs.size) rfl
    rwa [Heap.size_push] at this
  have e3 : (s.heap.push PySem.W.emptyDict).Ns s.heap.objs.size (fun _ => none) := ⟨PySem.W.emptyDict, #[], _, e1, rfl, (fun e he => absurd he (by simp)), fun _ => rfl⟩
  have I1 := I.laid (a := s.heap.objs.size) (o := .own (s.heap.objs.size + 1)) (h' := s.heap.push PySem.W.emptyDict) (t' := s.toks) (fun b u q => Heap.get?_push_of_some _ q) (Nat.le_refl _) ⟨_, e1⟩
  refine I1.laid (a := s.heap.objs.size + 1) (o := .ins C s.heap.objs.size []) (t' := s.toks) (fun b u q => Heap.get?_push_of_some _ q) (Nat.le_of_eq (Heap.size_push _ _)) ?_
  have ne : s.heap.objs.size ≠ s.heap.objs.size + 1 := Nat.ne_of_lt (Nat.lt_succ_self _)
  refine ⟨by rw [upd_ne ne, upd_same], Nat.zero_le _, ne, e2, fun _ => none, (Heap.Ns1.of_empty e3).at fun o q => Heap.get?_push_of_some _ q, fun _ => True.intro, fun y hy => absurd rfl hy⟩
theorem attr_of {prog : Program} {w : World} {env : Env} {e : Expr} {f : Str} {pos : Pos} {s : Shared} {Q : Value → Shared → Prop} (hb : attributeBase e f env (eval e env) = eval e env)
    (h : wpAny (model prog w) A (eval e env) (fun o s₁ => wpAny (model prog w) A (getAttr o f true) Q E s₁) E s) : wpAny (model prog w) A (eval (.Attribute e f pos) env) Q E s :=
  Attribute_any_ h (by rw [arm_eval_Attribute, hb])
end
def tFld (K : PySem.W.Frag) (ta : TE) (f : Str) : TE := fun σ H Q => ta σ H fun x H1 => ∃ a C dx fs v, x = .ref a ∧ H1 a = some (.ins C dx fs) ∧ Cls K C ∧ NoAttr K C f ∧ fs.lookup f = some v ∧ Q v H1
def sFld (K : PySem.W.Frag) (ta tv : TE) (f : Str) : TS := fun D σ H => tv σ H fun y H1 => ta σ H1 fun x H2 => ∃ a C dx fs, x = .ref a ∧ H2 a = some (.ins C dx fs) ∧ Cls K C ∧ NoAttr K C f ∧ fs.length < 1000 ∧
  D.nx σ (upd H2 a (.ins C dx (putF f y fs)))
section
variable {X : Cx} {o e value : Expr} {f : Str} {pos pos' tpos : Pos} {ta tv : TE}
theorem pe_fld (he : PE X e ta) (hb : attributeBase e f X.env (eval e X.env) = eval e X.env) : PE X (.Attribute e f pos) (tFld X.K ta f) := by
  intro pins s σ H Q I h
  refine attr_of hb (thn (he pins s σ H _ I h) fun u s1 ⟨x, H1, I1, rx, a, C, dx, fs, v, ex, ea, c, n, l, q⟩ => ?_)
  subst ex
  obtain rfl : u = Value.ref a := rx
  exact getattr_ok I1 ea c n l fun u' s2 I2 ru => ⟨v, H1, I2, ru, q⟩
theorem ps_fld (ha : PE X o ta) (hv : PE X value tv) (hs : swapsWith value (some (.Attribute o f pos')) pos.line X.env = pure false) : PS X (.Assign [.Attribute o f pos'] value pos) (sFld X.K ta tv f) := by
  intro pins s σ H D I h
  refine plainObj_wpAny_Assign_Attribute (thn (hv pins s σ H _ I h) fun u s1 ⟨y, H1, I1, ry, q⟩ => thn (ha pins s1 σ H1 _ I1 q) fun ov s2 ⟨x, H2, I2, rx, a, C, dx, fs, ex, ea, c, n, l, q2⟩ => ?_) hs
  subst ex
  obtain rfl : ov = Value.ref a := rx
  exact setattr_ok I2 ea c n l ry fun s3 I3 => ⟨σ, _, I3, q2⟩
end
end L2
namespace L2
open PySem PySem.Spec PyProof.Rows
structure Room (k : Nat) (A : Around) : Prop where
  hd : A.handled = none
  dp : A.depth + 3 * k + 5 < recursionLimit
  un : A.units + 16 * k + 200 < cLine
theorem Room.mono {j k : Nat} {A : Around} (r : Room k A) (h : j ≤ k) : Room j A := ⟨r.hd, by have := r.dp; omega, by have := r.un; omega⟩
theorem Room.deeper {k : Nat} {A : Around} (r : Room (k + 1) A) (env : Env) : Room k (A.deeper env) :=
  ⟨r.hd, by have := r.dp; show A.depth + 1 + 3 * k + 5 < _; omega, by have := r.un; show A.units + 3 + 16 * k + 200 < _; omega⟩
theorem make_depth {A : Around} {C : Addr} {us : List Value} {kw : List (Str × Value)} : (A.under (.builtin "type.__call__" ⟨.ref C :: us, kw⟩)).depth = A.depth + 1 := by
  first | rfl | simp [Around.under, Code.weight, Code.isCreation, Code.isGuard, Code.isCaller, Code.frames, Code.isFrame, guardIds]
theorem make_units {A : Around} {C : Addr} {us : List Value} {kw : List (Str × Value)} : (A.under (.builtin "type.__call__" ⟨.ref C :: us, kw⟩)).units = A.units + 1 := by
  first | rfl | simp [Around.under, Code.cUnits, Code.frames, Code.isFrame]
theorem Room.make {k : Nat} {A : Around} (r : Room (k + 1) A) (C : Addr) (us : List Value) (kw : List (Str × Value)) : Room k (A.under (.builtin "type.__call__" ⟨.ref C :: us, kw⟩)) :=
  ⟨r.hd, by have := r.dp; rw [make_depth]; omega, by have := r.un; rw [make_units]; omega⟩
theorem Room.depth {k : Nat} {A : Around} (r : Room k A) : A.depth < recursionLimit := by have := r.dp; omega
theorem Room.units {k : Nat} {A : Around} (r : Room k A) : A.units + 64 < cLine := by have := r.un; omega
def tNil : TA := fun _ H Q => Q [] H
def tCons (ta : TE) (tr : TA) : TA := fun σ H Q => ta σ H fun x H1 => tr σ H1 fun xs H2 => Q (x :: xs) H2
section
variable {X : Cx} {e : Expr} {es : List Expr} {te : TE} {t : TA} {pos : Pos}
theorem pa_nil : PA X [] tNil := fun _ _ _ _ H Q I h => Calls.spliced_nil ⟨[], H, I, .nil, h⟩
theorem pa_cons (ha : PE X e te) (hr : PA X es t) (hs : starEach (e :: es) X.env = (false, eval e X.env) :: starEach es X.env := by rfl) : PA X (e :: es) (tCons te t) := by
  intro pos pins s σ H Q I h
  rw [hs]
  show wpAny _ _ (spliced ((false, eval e X.env) :: backTo pos (starEach es X.env))) _ _ s
  refine Calls.spliced_cons (thn (ha pins s σ H _ I h) fun u s1 ⟨x, H1, I1, r1, q1⟩ => ?_)
  exact thn (hr pos pins s1 σ H1 _ I1 q1) fun us s2 ⟨xs, H2, I2, r2, q2⟩ => ⟨x :: xs, H2, I2, .cons r1 r2, q2⟩
def tTup (t : TA) : TE := fun σ H Q => t σ H fun xs H1 => xs.length ≤ sizeLine ∧ ∀ p, H1 p = none → Q (.ref p) (upd H1 p (.tup xs))
def tLst (t : TA) : TE := fun σ H Q => t σ H fun xs H1 => xs.length ≤ sizeLine ∧ ∀ p, H1 p = none → Q (.ref p) (upd H1 p (.lst xs))
theorem pe_tup {x1} (h : PA X es t) : PE X (.Tuple es x1 pos) (tTup t) := by
  intro pins s σ H Q I hq
  refine wpAny_Tuple_spliced (thn (h pos pins s σ H _ I hq) fun us s1 ⟨xs, H1, I1, r, z, q⟩ => ⟨by rw [← r.length]; exact z, ?_⟩)
  have hf : H1 s1.heap.objs.size = none := I1.hok.fresh (Nat.le_refl _)
  refine ⟨.ref s1.heap.objs.size, upd H1 s1.heap.objs.size (.tup xs), I1.laid (t' := s1.toks) (fun b u e => Heap.get?_push_of_some _ e) (Nat.le_refl _) ?_, rfl, q _ hf⟩
  exact ⟨z, us, r, ⟨_, Heap.get?_push_size _ rfl, rfl, _, rfl⟩⟩
theorem pe_lst (h : PA X es t) : PE X (.List es pos) (tLst t) := by
  intro pins s σ H Q I hq
  refine wpAny_List_spliced (thn (h pos pins s σ H _ I hq) fun us s1 ⟨xs, H1, I1, r, z, q⟩ => ⟨by rw [← r.length]; exact z, ?_⟩)
  have hf : H1 s1.heap.objs.size = none := I1.hok.fresh (Nat.le_refl _)
  refine ⟨.ref s1.heap.objs.size, upd H1 s1.heap.objs.size (.lst xs), I1.laid (t' := s1.toks) (fun b u e => Heap.get?_push_of_some _ e) (Nat.le_refl _) ?_, rfl, q _ hf⟩
  exact ⟨z, us, 0, r, Heap.get?_push_size _ rfl⟩
end
abbrev Sp := List V → Hp → VK → XK → Prop
abbrev CXT := List Env → Hp → Shared → XK → Value → Shared → Prop
structure Env0 (P : Program) (w : World) (K : PySem.W.Frag) (mg : Str → Option Value) (base : Heap) (A : Around) (outer : List Env) (s : Shared) (H : Hp) : Prop where
  frames : A.frames = some outer
  mod : Mod K mg base
  bs : ∀ b o, base.get? b = some o → s.heap.get? b = some o ∧ H b = none
  bsz : base.objs.size ≤ s.heap.objs.size
  funs : s.heap.FunFrames base outer
  frf : ∀ b ∈ frs outer, H b = none
  hok : HOk P w H s.heap
  bare : AllBare s.gens
def CE (outer : List Env) (P : Program) (w : World) (H : Hp) (s : Shared) (Q : VK) (u : Value) (s' : Shared) : Prop :=
  ∃ v H', s'.os = s.os ∧ AllBare s'.gens ∧ Un (frs outer) [] H H' s.heap s'.heap ∧ HOk P w H' s'.heap ∧ RelV v u ∧ Q v H'
def CR (CX : CXT) (outer : List Env) (P : Program) (w : World) (H : Hp) (s : Shared) (Q : VK) (E : XK) (r : Result) (s' : Shared) : Prop :=
  match r with
  | .ok (.ret u) => CE outer P w H s Q u s'
  | .ok _ => False
  | .error e => CX outer H s E e s'
structure FnOk (P : Program) (w : World) (K : PySem.W.Frag) (mg : Str → Option Value) (base : Heap) (CX : CXT) (k : Nat) (f : Addr) (fd : FuncData) (ps : List Str) (sp : Sp) : Prop where
  len : ∀ vs H Q E, sp vs H Q E → vs.length = ps.length
  run : ∀ (A : Around) (outer : List Env) (s : Shared) (H : Hp) (args : Args) (us : List Value) (vs : List V) (Q : VK) (E : XK), Room k A → Env0 P w K mg base A outer s H → BindsTo s fd args (ps.zip us) → Vals vs us → sp vs H Q E →
    codeAny (model P w) A (.call (.ref f) args) (CR CX outer P w H s Q E) s
theorem Env0.make {P : Program} {w : World} {K : PySem.W.Frag} {mg : Str → Option Value} {base : Heap} {A : Around} {outer : List Env} {s : Shared} {H : Hp} (e : Env0 P w K mg base A outer s H) (C : Addr) (us : List Value) (kw : List (Str × Value)) :
    Env0 P w K mg base (A.under (.builtin "type.__call__" ⟨.ref C :: us, kw⟩)) outer s H := ⟨by first | exact e.frames | (simpa [Around.under, Code.envs, Code.isFrame, pushEnvs] using e.frames), e.mod, e.bs, e.bsz, e.funs, e.frf, e.hok, e.bare⟩
section
variable {X : Cx} {pins : List (Addr × Obj)} {σ : St} {H : Hp} {s s' : Shared}
theorem Inv.env0 (I : Inv X pins σ H s) : Env0 X.prog X.w X.K X.mg X.base X.A X.stack s H :=
  ⟨I.ok.frames, I.ok.mod, I.bs, Nat.le_trans I.ok.bsz I.sz, I.stack, I.stkFree, I.hok, I.bare⟩
theorem Inv.after {Q : VK} {u : Value} (I : Inv X pins σ H s) (h : CE X.stack X.prog X.w H s Q u s') : EP X pins σ Q u s' := by
  obtain ⟨v, H', os, bare, un, hok, r, q⟩ := h
  obtain ⟨hh, g, d, t, os'⟩ := s'
  obtain rfl : os' = s.os := os
  exact ⟨v, H', I.call (h' := hh) (g' := g) (d' := d) (t' := t) (ch := []) un hok bare (fun b z => absurd z (by simp)), r, q⟩
end
def tCall (sp : Sp) (dvs : List V) (E : XK) (t : TA) : TE := fun σ H Q => t σ H fun vs H1 => sp (vs ++ dvs) H1 Q E
def tMeth (C : Addr) (m : Str) (sp : Sp) (dvs : List V) (E : XK) (ta : TE) (t : TA) : TE := fun σ H Q => ta σ H fun x H1 => ∃ a dx fs, x = .ref a ∧ H1 a = some (.ins C dx fs) ∧ fs.lookup m = none ∧
  t σ H1 fun vs H2 => sp (x :: (vs ++ dvs)) H2 Q E
def tMake (C : Addr) (sp : Sp) (dvs : List V) (E : XK) (t : TA) : TE := fun σ H Q => t σ H fun vs H1 => ∀ x dx, H1 x = none → H1 dx = none → dx ≠ x →
  sp (.ref x :: (vs ++ dvs)) (upd (upd H1 dx (.own x)) x (.ins C dx [])) (fun v H2 => v = .non ∧ Q (.ref x) H2) E
def Binds (K : PySem.W.Frag) (fd : FuncData) (ps : List Str) (ds : List Value) : Prop :=
  ∀ (s : Shared) (us : List Value), K.In s.heap → (us ++ ds).length = ps.length → BindsTo s fd ⟨us, []⟩ (ps.zip (us ++ ds))
theorem Binds.all {K : PySem.W.Frag} {fd : FuncData} {ps : List Str} (h : ∀ us : List Value, us.length = ps.length → bindArgs fd ⟨us, []⟩ = pure (ps.zip us)) : Binds K fd ps [] := fun s us _ hl => by
  rw [List.append_nil] at hl ⊢
  exact .of_eq (h us hl)
def Passes (CX : CXT) (X : Cx) (E : XK) : Prop := ∀ (pins : List (Addr × Obj)) (σ : St) (H : Hp) (s : Shared) (e : Value) (s' : Shared), Inv X pins σ H s → CX X.stack H s E e s' → X.xe e s'
section
variable {X : Cx} {CX : CXT} {k : Nat} {f C : Addr} {fd : FuncData} {ps : List Str} {sp : Sp} {dvs : List V} {ds : List Value} {E : XK} {x m : Str} {p pos apos : Pos} {e o : Expr} {es : List Expr} {ta : TE} {t : TA}
theorem run_fn {pins : List (Addr × Obj)} {σ : St} {H : Hp} {s : Shared} {Q : VK} {us : List Value} {vs : List V} (F : FnOk X.prog X.w X.K X.mg X.base CX k f fd ps sp) (hr : Room k X.A) (hb : Binds X.K fd ps ds) (hd : Vals dvs ds) (hx : Passes CX X E)
    (I : Inv X pins σ H s) (r : Vals vs us) (h : sp (vs ++ dvs) H Q E) : wpAny (model X.prog X.w) X.A (call (.ref f) us) (EP X pins σ Q) X.xe s := by
  have r2 : Vals (vs ++ dvs) (us ++ ds) := r.append hd
  have hl : (us ++ ds).length = ps.length := by rw [← r2.length]; exact F.len _ _ _ _ h
  refine wpAny_call (codeAny_mono (F.run X.A X.stack s H ⟨us, []⟩ (us ++ ds) (vs ++ dvs) Q E hr I.env0 (hb s us I.kIn hl) r2 h) fun r s' hq => ?_)
  cases r with
  | error e => exact hx pins σ H s e s' I hq
  | ok fl =>
    cases fl with
    | ret u => exact I.after hq
    | next => exact False.elim hq
    | brk => exact False.elim hq
    | cont => exact False.elim hq
theorem pe_call (F : FnOk X.prog X.w X.K X.mg X.base CX k f fd ps sp) (hr : Room k X.A) (hg : Gl X x) (hm : X.mg x = some (.ref f)) (hk : PySem.W.keepIn X.K (.ref f) = true) (hb : Binds X.K fd ps ds) (hd : Vals dvs ds) (hx : Passes CX X E)
    (ha : PA X (e :: es) t) (hdb : (x == ("__debug__" : Str)) = false := by decide) (he : starEach (e :: es) X.env = (false, eval e X.env) :: starEach es X.env := by rfl) (hpl : (backTo pos (starEach es X.env)).any (·.1) = false := by rfl) :
    PE X (.Call (.Name x p) (e :: es) [] pos) (tCall sp dvs E t) := by
  intro pins s σ H Q I h
  refine wpAny_Call_Name_kw (ld_glob I hg hm ?_ hdb)
  refine PySem.W.callWith_K (h₀ := X.base) I.ok.mod.kin hk (thn (ha pos pins s σ H _ I h) fun us s1 ⟨vs, H1, I1, r, q⟩ => ⟨I1.kIn, ?_⟩) he hpl
  exact run_fn F hr hb hd hx I1 r q
theorem pe_meth {pl : Sem Bool} (he : PE X o ta) (c : Cls X.K C) (hm : Meth X.K C m f) (F : FnOk X.prog X.w X.K X.mg X.base CX k f fd ps sp) (hr : Room k X.A) (hb : Binds X.K fd ps ds) (hd : Vals dvs ds) (hx : Passes CX X E) (ha : PA X (e :: es) t)
    (hst : starEach (e :: es) X.env = (false, eval e X.env) :: starEach es X.env := by rfl) (hpl : (backTo pos (starEach es X.env)).any (·.1) = false := by rfl)
    (ht : eval (.Call (.Attribute o m apos) (e :: es) [] pos) X.env = (do
      let ov ← eval o X.env
      standAt apos.atName
      let (f, first) ← holding [ov] (getMethod ov m pl)
      callWith pos f first (backTo pos (starEach (e :: es) X.env)) (backToKw pos (keywordEach [] X.env))) := by rfl) :
    PE X (.Call (.Attribute o m apos) (e :: es) [] pos) (tMeth C m sp dvs E ta t) := by
  intro pins s σ H Q I h
  refine PySem.W.methodCall_KW (pl := pl) (thn (he pins s σ H _ I h) fun u s1 ⟨x, H1, I1, rx, a, dx, fs, ex, ea, l, q⟩ => ?_) ht
  subst ex
  obtain rfl : u = Value.ref a := rx
  refine getmeth_ok I1 ea c hm l ?_
  refine PySem.W.callWith_K (first := [.ref a]) (h₀ := X.base) I.ok.mod.kin hm.kp (thn (ha pos pins s1 σ H1 _ I1 q) fun us s2 ⟨vs, H2, I2, r, q2⟩ => ⟨I2.kIn, ?_⟩) hst hpl
  exact run_fn (us := .ref a :: us) (vs := .ref a :: vs) F hr hb hd hx I2 (.cons rfl r) q2
structure Mk (K : PySem.W.Frag) (C f : Addr) : Prop where
  makes : PySem.W.makesIn K C = true
  init : PySem.W.findIn K (.ref C) "__init__" = some (some (.ref f))
  fn : PySem.W.isFn K (.ref f) = true
  kp : PySem.W.keepIn K (.ref C) = true
theorem run_make {pins : List (Addr × Obj)} {σ : St} {H : Hp} {s : Shared} {Q : VK} {us : List Value} {vs : List V} (M : Mk X.K C f) (F : FnOk X.prog X.w X.K X.mg X.base CX k f fd ps sp) (hr : Room (k + 1) X.A) (hb : Binds X.K fd ps ds) (hd : Vals dvs ds)
    (hx : Passes CX X E) (I : Inv X pins σ H s) (r : Vals vs us)
    (h : ∀ x dx, H x = none → H dx = none → dx ≠ x → sp (.ref x :: (vs ++ dvs)) (upd (upd H dx (.own x)) x (.ins C dx [])) (fun v H2 => v = .non ∧ Q (.ref x) H2) E) :
    wpAny (model X.prog X.w) X.A (call (.ref C) us) (EP X pins σ Q) X.xe s := by
  have hq := h (s.heap.objs.size + 1) s.heap.objs.size (I.hok.fresh (Nat.le_succ _)) (I.hok.fresh (Nat.le_refl _)) (Nat.ne_of_lt (Nat.lt_succ_self _))
  have I2 := Inv.made (C := C) I
  have r2 : Vals (V.ref (s.heap.objs.size + 1) :: (vs ++ dvs)) (Value.ref (s.heap.objs.size + 1) :: (us ++ ds)) := .cons rfl (r.append hd)
  have hl : (Value.ref (s.heap.objs.size + 1) :: us ++ ds).length = ps.length := by
    have e := r2.length
    rw [F.len _ _ _ _ hq] at e
    exact e.symm
  refine wpAny_call (make_map (f := f) I.kIn M.makes M.init (beq_iff_eq.mp M.fn) (codeAny_mono (F.run _ X.stack _ _ ⟨Value.ref (s.heap.objs.size + 1) :: us, []⟩ (Value.ref (s.heap.objs.size + 1) :: (us ++ ds)) _ _ E (hr.make C us [])
    (I2.env0.make C us []) (hb _ (Value.ref (s.heap.objs.size + 1) :: us) I2.kIn hl) r2 hq) fun r s' hq' => ?_))
  cases r with
  | error e => exact hx pins σ _ _ e s' I2 hq'
  | ok fl =>
    cases fl with
    | ret u =>
      obtain ⟨v, H', I3, rv, ev, q3⟩ := I2.after hq'
      subst ev
      exact ⟨rv, ⟨V.ref (s.heap.objs.size + 1), H', I3, rfl, q3⟩⟩
    | next => exact False.elim hq'
    | brk => exact False.elim hq'
    | cont => exact False.elim hq'
theorem pe_make (M : Mk X.K C f) (F : FnOk X.prog X.w X.K X.mg X.base CX k f fd ps sp) (hr : Room (k + 1) X.A) (hg : Gl X x) (hm : X.mg x = some (.ref C)) (hb : Binds X.K fd ps ds) (hd : Vals dvs ds) (hx : Passes CX X E)
    (ha : PA X (e :: es) t) (hdb : (x == ("__debug__" : Str)) = false := by decide) (he : starEach (e :: es) X.env = (false, eval e X.env) :: starEach es X.env := by rfl) (hpl : (backTo pos (starEach es X.env)).any (·.1) = false := by rfl) :
    PE X (.Call (.Name x p) (e :: es) [] pos) (tMake C sp dvs E t) := by
  intro pins s σ H Q I h
  refine wpAny_Call_Name_kw (ld_glob I hg hm ?_ hdb)
  refine PySem.W.callWith_K (h₀ := X.base) I.ok.mod.kin M.kp (thn (ha pos pins s σ H _ I h) fun us s1 ⟨vs, H1, I1, r, q⟩ => ⟨I1.kIn, ?_⟩) he hpl
  exact run_make M F hr hb hd hx I1 r q
theorem pe_make0 (M : Mk X.K C f) (F : FnOk X.prog X.w X.K X.mg X.base CX k f fd ps sp) (hr : Room (k + 1) X.A) (hg : Gl X x) (hm : X.mg x = some (.ref C)) (hb : Binds X.K fd ps ds) (hd : Vals dvs ds) (hx : Passes CX X E)
    (hdb : (x == ("__debug__" : Str)) = false := by decide) : PE X (.Call (.Name x p) [] [] pos) (tMake C sp dvs E tNil) := by
  intro pins s σ H Q I h
  refine wpAny_Call_Name_kw (ld_glob I hg hm ?_ hdb)
  exact PySem.W.callWith_K0 I.kIn M.kp (run_make (us := []) M F hr hb hd hx I .nil h)
end
structure FnScope (N P : List Str) (sc : Scope) : Prop where
  kind : sc.kind = .function
  co : sc.isCoroutine = false
  gen : sc.isGenerator = false
  nd : N.Nodup
  pre : N.take P.length = P
  par : ∀ x ∈ P, sc.names.lookup x = some .local ∨ sc.names.lookup x = some .cell
  nofree : ∀ y ∈ sc.names, y.2 ≠ .free
theorem bindL_out {kindOf : Str → Option NameKind} {x : Str} : ∀ {binds : List (Str × Value)} {m : Str → Option Value}, (∀ v, (x, v) ∉ binds) → bindL kindOf binds m x = m x
  | [], _, _ => rfl
  | (n, v) :: r, m, h => by
    unfold bindL
    rw [bindL_out fun w hw => h w (List.mem_cons_of_mem _ hw)]
    split
    · have : x ≠ n := by rintro rfl; exact h v List.mem_cons_self
      simp [this]
    · rfl
theorem bindC_out {kindOf : Str → Option NameKind} {x : Str} : ∀ {binds : List (Str × Value)} {m : Str → Option Value}, (∀ v, (x, v) ∉ binds) → bindC kindOf binds m x = m x
  | [], _, _ => rfl
  | (n, v) :: r, m, h => by
    unfold bindC
    rw [bindC_out fun w hw => h w (List.mem_cons_of_mem _ hw)]
    split
    · rfl
    · have : x ≠ n := by rintro rfl; exact h v List.mem_cons_self
      simp [this]
theorem bindL_get {kindOf : Str → Option NameKind} {x : Str} {v : Value} : ∀ {P : List Str} {vs : List Value} {i : Nat} {m : Str → Option Value}, P.Nodup → P[i]? = some x → vs[i]? = some v → kindOf x = some .local →
    bindL kindOf (P.zip vs) m x = some v
  | [], _, _, _, _, h, _, _ => by simp at h
  | _ :: _, [], _, _, _, _, h, _ => by simp at h
  | p :: P, w :: vs, 0, m, nd, h1, h2, hk => by
    simp at h1 h2; subst h1; subst h2
    show bindL kindOf ((p, w) :: P.zip vs) m p = _
    unfold bindL
    rw [bindL_out fun v hv => (List.nodup_cons.mp nd).1 (List.of_mem_zip hv).1, if_pos hk]
    simp
  | p :: P, w :: vs, i + 1, m, nd, h1, h2, hk => by
    show bindL kindOf ((p, w) :: P.zip vs) m x = _
    unfold bindL
    exact bindL_get (i := i) (List.nodup_cons.mp nd).2 (by simpa using h1) (by simpa using h2) hk
theorem bindC_get {kindOf : Str → Option NameKind} {x : Str} {v : Value} : ∀ {P : List Str} {vs : List Value} {i : Nat} {m : Str → Option Value}, P.Nodup → P[i]? = some x → vs[i]? = some v → kindOf x ≠ some .local →
    bindC kindOf (P.zip vs) m x = some v
  | [], _, _, _, _, h, _, _ => by simp at h
  | _ :: _, [], _, _, _, _, h, _ => by simp at h
  | p :: P, w :: vs, 0, m, nd, h1, h2, hk => by
    simp at h1 h2; subst h1; subst h2
    show bindC kindOf ((p, w) :: P.zip vs) m p = _
    unfold bindC
    rw [bindC_out fun v hv => (List.nodup_cons.mp nd).1 (List.of_mem_zip hv).1, if_neg hk]
    simp
  | p :: P, w :: vs, i + 1, m, nd, h1, h2, hk => by
    show bindC kindOf ((p, w) :: P.zip vs) m x = _
    unfold bindC
    exact bindC_get (i := i) (List.nodup_cons.mp nd).2 (by simpa using h1) (by simpa using h2) hk
def start (N : List Str) (vs : List V) : St := vs.map some ++ List.replicate (N.length - vs.length) none
def cxOf (CX : CXT) (P : Program) (w : World) (K : PySem.W.Frag) (mg : Str → Option Value) (base : Heap) (N : List Str) (qual : Str) (scope : Scope) (f : Addr) (cd : Value) (A : Around) (outer : List Env) (s : Shared) (H : Hp) (E : XK) : Cx where
  prog := P
  w := w
  K := K
  mg := mg
  base := base
  A := A.deeper (envOfC qual scope s.heap.objs.size f cd)
  N := N
  s_0 := s
  H_0 := H
  env := envOfC qual scope s.heap.objs.size f cd
  outer := outer
  stack := envOfC qual scope s.heap.objs.size f cd :: outer
  ex := []
  calm := true
  fn := fun _ => true
  pn := []
  xe := fun e s' => wpAny (model P w) (A.deeper (envOfC qual scope s.heap.objs.size f cd)) (leaving (envOfC qual scope s.heap.objs.size f cd) e) (fun _ s'' => CX outer H s E e s'') (fun e' s'' => CX outer H s E e' s'') s'
theorem cell_has {sc : Scope} {n : Nat} {x : Str} (h : sc.names.lookup x = some .cell) : ∃ c, (cellsFrom n sc.names []).lookup x = some c := by
  have q := PySem.W.cellsFrom_some sc.names n [] (.inl h)
  exact Option.isSome_iff_exists.mp q
theorem inv_start {CX : CXT} {P : Program} {w : World} {K : PySem.W.Frag} {mg : Str → Option Value} {base : Heap} {N ps : List Str} {qual : Str} {scope : Scope} {f : Addr} {cd : Value} {A : Around} {outer : List Env} {s s1 : Shared} {H : Hp} {E : XK} {us : List Value} {vs : List V}
    (S : FnScope N ps scope) (hd : A.handled = none) (e0 : Env0 P w K mg base A outer s H) (hl : vs.length = ps.length) (r : Vals vs us)
    (x : InCallC s s.heap.objs.size (bindL (envOfC qual scope s.heap.objs.size f cd).kindOf (ps.zip us) fun _ => none) (cellsFrom (s.heap.objs.size + 1) scope.names []) (bindC (envOfC qual scope s.heap.objs.size f cd).kindOf (ps.zip us) fun _ => none) s1) :
    Inv (cxOf CX P w K mg base N qual scope f cd A outer s H E) [] (start N vs) H s1 := by
  have hpl : ps.length ≤ N.length := by have := congrArg List.length S.pre; rw [List.length_take] at this; omega
  obtain ⟨h1, tk, rfl, hk⟩ := x.done
  have noA : ∀ b : Addr, b ∉ (cxOf CX P w K mg base N qual scope f cd A outer s H E).ex := fun b z => absurd (show b ∈ ([] : List Addr) from z) (by simp)
  refine ⟨⟨e0.mod, S.kind, rfl, rfl, Nat.le_refl _, fun y z c h1 h2 => ?_, fun y hy => ?_, fun y c _ h => ?_, fun _ => hd, Around.frames_deeper e0.frames, .inr ⟨rfl, rfl⟩, fun b z => absurd z (noA b), e0.bs, e0.bsz, fun b _ _ => noA b, fun b z => absurd z (noA b), e0.funs, e0.frf⟩,
    rfl, e0.bare, Un.kept hk, ⟨_, x.toInCall.ns, fun i y v h1 h2 h3 => ?_⟩, fun y c h => ⟨_, x.cell y c h⟩, e0.hok.fresh (Nat.le_refl _), fun y c h => ?_, fun p hp => absurd (show p ∈ ([] : List (Addr × Obj)) from hp) (by simp), e0.hok.kept hk, ?_⟩
  · exact name_of_addr x.apart (PySem.mem_of_lookup h1) (PySem.mem_of_lookup h2)
  · have hy : scope.names.lookup y = some .cell ∨ scope.names.lookup y = some .free := hy
    rcases hy with hy | hy
    · exact cell_has hy
    · exact absurd rfl (S.nofree _ (PySem.mem_of_lookup hy))
  · exact Nat.le_of_lt (x.above y c (PySem.mem_of_lookup h))
  · have hi : i < vs.length := by
      unfold start at h2
      by_cases hi : i < vs.length
      · exact hi
      · rw [List.getElem?_append_right (by simpa using hi)] at h2
        rw [List.getElem?_replicate] at h2
        split at h2 <;> cases h2
    have ha : vs[i]? = some v := by
      unfold start at h2
      rw [List.getElem?_append_left (by simpa using hi), List.getElem?_map] at h2
      cases e : vs[i]? with
      | none => rw [e] at h2; cases h2
      | some a => rw [e] at h2; cases h2; rfl
    obtain ⟨u, hu, rv⟩ := r.get ha
    have hp : ps[i]? = some y := by
      rw [← S.pre, List.getElem?_take_of_lt (by omega)]; exact h1
    have ndP : ps.Nodup := by rw [← S.pre]; exact S.nd.sublist (List.take_sublist _ _)
    refine ⟨u, rv, ?_⟩
    rcases S.par y (List.mem_of_getElem? hp) with k | k
    · exact .inl ⟨k, bindL_get ndP hp hu k⟩
    · obtain ⟨c, e⟩ := cell_has (n := s.heap.objs.size + 1) k
      refine .inr ⟨.inl k, c, e, ?_⟩
      have q := x.cell y c e
      rw [bindC_get ndP hp hu (by show scope.names.lookup y ≠ _; rw [k]; decide)] at q
      exact q
  · exact e0.hok.fresh (Nat.le_of_lt (x.above y c (PySem.mem_of_lookup h)))
  · unfold start
    show _ = N.length
    rw [List.length_append, List.length_map, List.length_replicate]
    omega
theorem fn_of {CX : CXT} {P : Program} {w : World} {K : PySem.W.Frag} {mg : Str → Option Value} {base : Heap} {k : Nat} {f : Addr} {name qual : Str} {params : Arguments} {body : List Stmt} {scope : Scope} {dV kV doc pm cdv ct oc : Value} {an od : Option Addr}
    {osl : Array (Option Value)} {N ps : List Str} {sp : Sp} (lk : K.lookup f = some ⟨oc, od, .func (PySem.W.fnOf name qual params body scope dV kV doc pm an cdv ct), osl⟩) (hcd : PySem.W.codeIn K cdv qual = true) (S : FnScope N ps scope)
    (len : ∀ vs H Q E, sp vs H Q E → vs.length = ps.length)
    (hbody : ∀ (A : Around) (outer : List Env) (s : Shared) (H : Hp) (vs : List V) (Q : VK) (E : XK), Room k (A.deeper (envOfC qual scope s.heap.objs.size f cdv)) → sp vs H Q E →
      ∃ t, PSs (cxOf CX P w K mg base N qual scope f cdv A outer s H E) body t ∧ t { nx := fun _ H' => Q .non H', rt := Q } (start N vs) H) :
    FnOk P w K mg base CX (k + 1) f (PySem.W.fnOf name qual params body scope dV kV doc pm an cdv ct) ps sp := by
  refine ⟨len, fun A outer s H args us vs Q E hr e0 hb r hsp => ?_⟩
  have hl := len _ _ _ _ hsp
  have KX : K.In s.heap := e0.mod.kin.keeps fun b o e => (e0.bs b o e).1
  have lim : s.heap.NoLimit := e0.mod.nolimit.keeps fun b o e => (e0.bs b o e).1
  have hkind : ∀ y ∈ ps.zip us, scope.names.lookup y.1 = some .local ∨ (scope.names.lookup y.1 = some .cell ∧ ((cellsFrom (s.heap.objs.size + 1) scope.names []).lookup y.1).isSome = true) := fun ⟨n, v⟩ hy => by
    rcases S.par n (List.of_mem_zip hy).1 with q | q
    · exact .inl q
    · exact .inr ⟨q, PySem.W.cellsFrom_some _ _ _ (.inl q)⟩
  refine codeAny_call_function hr.depth (KX _ _ lk) rfl S.co S.gen rfl (PySem.W.codeRec_of KX hcd) (hb _ _ _ _ ?_)
  refine wpAny_newFunctionEnv_cells S.kind hkind fun env he s1 x => ?_
  subst he
  refine ⟨lim.keeps x.toInCall.keep, codeAny_func ?_⟩
  obtain ⟨t, ht, hq⟩ := hbody A outer s H vs Q E (hr.deeper _) hsp
  have I : Inv (cxOf CX P w K mg base N qual scope f cdv A outer s H E) [] (start N vs) H s1 := inv_start S hr.hd e0 hl r x
  refine wpAny_mono (ht [] s1 (start N vs) H _ I hq) (fun fl s' hs => ?_) fun e s' hs => hs
  have fin : ∀ {σ' : St} {H' : Hp} {v : V} {u : Value}, Inv (cxOf CX P w K mg base N qual scope f cdv A outer s H E) [] σ' H' s' → RelV v u → Q v H' → CE outer P w H s Q u s' :=
    fun {σ' H' v u} J rv q => ⟨v, H', J.os, J.bare, J.base, J.hok, rv, q⟩
  cases fl with
  | ret u =>
    obtain ⟨v, σ', H', J, rv, q⟩ := hs
    exact fin J rv q
  | next =>
    obtain ⟨σ', H', J, q⟩ := hs
    exact fin (v := V.non) (u := Value.none) J rfl q
  | brk =>
    obtain ⟨_, _, _, q⟩ := hs
    exact False.elim q
  | cont =>
    obtain ⟨_, _, _, q⟩ := hs
    exact False.elim q
end L2
namespace L2
open PySem PySem.Spec PyProof.Rows
section
variable {X : Cx} {x : Str} {p pos : Pos} {e : Expr} {es : List Expr} {t : TA} {id T : String} {r : List V → Hp → VK → Prop}
def tCB (r : List V → Hp → VK → Prop) (t : TA) : TE := fun σ H Q => t σ H fun vs H1 => r vs H1 Q
theorem pe_callB (hc : CallR X (.builtin id) r) (hg : Gl X x) (hm : X.mg x = none) (hv : bootBuiltins x = some (.builtin id)) (ha : PA X (e :: es) t) (hn : x ≠ "__name__" := by decide) (hdb : (x == ("__debug__" : Str)) = false := by decide)
    (he : starEach (e :: es) X.env = (false, eval e X.env) :: starEach es X.env := by rfl) (hpl : (backTo pos (starEach es X.env)).any (·.1) = false := by rfl) : PE X (.Call (.Name x p) (e :: es) [] pos) (tCB r t) := by
  intro pins s σ H Q I h
  refine wpAny_Call_Name_kw (ld_blt I hg hm hv ?_ hn hdb)
  exact PyProof.Rows.callWith_builtin1 (thn (ha pos pins s σ H _ I h) fun us s1 ⟨vs, H1, I1, r1, q1⟩ => hc pins s1 σ H1 vs us Q I1 r1 q1) he hpl
theorem pe_callTy (hc : CallR X (.type T) r) (hg : Gl X x) (hm : X.mg x = none) (hv : bootBuiltins x = some (.type T)) (ha : PA X (e :: es) t) (hn : x ≠ "__name__" := by decide) (hdb : (x == ("__debug__" : Str)) = false := by decide)
    (he : starEach (e :: es) X.env = (false, eval e X.env) :: starEach es X.env := by rfl) (hpl : (backTo pos (starEach es X.env)).any (·.1) = false := by rfl) : PE X (.Call (.Name x p) (e :: es) [] pos) (tCB r t) := by
  intro pins s σ H Q I h
  refine wpAny_Call_Name_kw (ld_blt I hg hm hv ?_ hn hdb)
  exact PyProof.Rows.callWith_type1 (thn (ha pos pins s σ H _ I h) fun us s1 ⟨vs, H1, I1, r1, q1⟩ => hc pins s1 σ H1 vs us Q I1 r1 q1) he hpl
end
end L2
namespace HT
open PySem PyProof.Rows
section
variable {prog : Program} {w : World} {A : Around} {E : Value → Shared → Prop} {s : Shared}
def sIx (n d : Nat) : Option Int → Nat
  | none => d
  | some v => if v < 0 then (v + (n : Int)).toNat else min v.toNat n
theorem sIx_none (n d : Nat) : sIx n d none = d := rfl
theorem sIx_nat (n d k : Nat) : sIx n d (some (k : Int)) = min k n := by
  show (if (k : Int) < 0 then ((k : Int) + (n : Int)).toNat else min (k : Int).toNat n) = min k n
  rw [if_neg (by omega), Int.toNat_natCast]
end
end HT
namespace L2
open PySem PySem.Spec PyProof.Rows
abbrev TO := St → Hp → (Option Int → Hp → Prop) → Prop
def PO (X : Cx) (e : Option Expr) (t : TO) : Prop :=
  ∀ (pins : List (Addr × Obj)) (s : Shared) (σ : St) (H : Hp) (Q : Option Int → Hp → Prop), Inv X pins σ H s → t σ H Q →
    wpAny (model X.prog X.w) X.A (evalPart e X.env) (fun u s' => ∃ o H', Inv X pins σ H' s' ∧ IsPart u o ∧ Q o H') X.xe s
def tNoPart : TO := fun _ H Q => Q none H
def tPart (t : TE) : TO := fun σ H Q => t σ H fun x H1 => ∃ i, x = .int i ∧ Q (some i) H1
section
variable {X : Cx} {e : Expr} {te : TE} {lo hi : Option Expr} {tl th : TO} {pos p2 : Pos}
theorem po_none : PO X none tNoPart := by
  intro pins s σ H Q I h
  rw [evalPart_none]
  exact wpAny_pure ⟨none, H, I, .none, h⟩
theorem po_some (h : PE X e te) : PO X (some e) (tPart te) := by
  intro pins s σ H Q I hw
  rw [evalPart_some]
  refine thn (h pins s σ H _ I hw) fun u s1 ⟨x, H1, I1, r1, q1⟩ => ?_
  obtain ⟨i, rfl, q⟩ := q1
  obtain ⟨t, rfl⟩ := r1
  exact ⟨some i, H1, I1, .int i t, q⟩
def SlR (X : Cx) (r : V → Option Int → Option Int → Hp → VK → Prop) : Prop :=
  ∀ (pins : List (Addr × Obj)) (s : Shared) (σ : St) (H : Hp) (x : V) (v vl vu : Value) (lo hi : Option Int) (sl : Addr) (Q : VK), Inv X pins σ H s → RelV x v → s.heap.IsSliceOf sl vl vu .none → IsPart vl lo → IsPart vu hi → r x lo hi H Q →
    ∃ T id, typeLookup (.type T) "__getitem__" = pure (some (.builtin id)) ∧ s.TypeIs v T ∧ wpAny (model X.prog X.w) X.A (getItem v (.ref sl)) (EP X pins σ Q) X.xe s
def tSl (r : V → Option Int → Option Int → Hp → VK → Prop) (te : TE) (tl th : TO) : TE := fun σ H Q => te σ H fun x H1 => tl σ H1 fun l H2 => th σ H2 fun u H3 => r x l u H3 Q
theorem pe_slice {r : V → Option Int → Option Int → Hp → VK → Prop} (hr : SlR X r) (he : PE X e te) (hl : PO X lo tl) (hu : PO X hi th) : PE X (.Subscript e (.Slice lo hi none p2) pos) (tSl r te tl th) := by
  intro pins s σ H Q I h
  refine Subscript_ (thn (he pins s σ H _ I h) fun v s1 ⟨x, H1, I1, r1, q1⟩ => ?_)
  refine wpAny_Slice (thn (hl pins s1 σ H1 _ I1 q1) fun vl s2 ⟨l, H2, I2, pl, q2⟩ => thn (hu pins s2 σ H2 _ I2 q2) fun vu s3 ⟨u, H3, I3, pu, q3⟩ => ?_)
  rw [evalPart_none]
  refine wpAny_pure ?_
  have I4 : Inv X pins σ H3 { s3 with heap := s3.heap.push { cls := .type "slice", data := .fields #[vl, vu, .none] } } := I3.kept (t' := s3.toks) fun b ob q => Heap.get?_push_of_some _ q
  obtain ⟨T, id, hT, ht, hg⟩ := hr pins { s3 with heap := s3.heap.push { cls := .type "slice", data := .fields #[vl, vu, .none] } } σ H3 x v vl vu l u s3.heap.objs.size Q I4 r1 (Heap.IsSliceOf.new ..) pl pu q3
  show wpAny (model X.prog X.w) X.A (subscriptTail e (.Slice lo hi none p2) v (.ref s3.heap.objs.size)) (EP X pins σ Q) X.xe { s3 with heap := s3.heap.push { cls := .type "slice", data := .fields #[vl, vu, .none] } }
  exact tail_any (ops := [.ref s3.heap.objs.size, v]) ht hT hg (by with_unfolding_all rfl)
def cutV (xs : List V) (lo hi : Option Int) : List V := (xs.drop (HT.sIx xs.length 0 lo)).take (HT.sIx xs.length xs.length hi - HT.sIx xs.length 0 lo)
theorem cutV_length (xs : List V) (lo hi : Option Int) : (cutV xs lo hi).length ≤ xs.length := by
  unfold cutV
  rw [List.length_take, List.length_drop]
  omega
end
end L2
namespace L2
open PySem PySem.Spec PyProof.Rows
def ixN (n : Nat) (i : Int) : Option Nat := if 0 ≤ i then (if i < n then some i.toNat else none) else if -(n : Int) ≤ i then some (i + n).toNat else none
def atI {α : Type} (xs : List α) (i : Int) : Option α := (ixN xs.length i).bind fun j => xs[j]?
theorem ixN_seq {n : Nat} {i : Int} {j : Nat} (h : ixN n i = some j) : seqIndex? i n = some j ∧ j < n ∧ -(n : Int) ≤ i ∧ i < n := by
  unfold ixN at h
  by_cases h0 : 0 ≤ i
  · rw [if_pos h0] at h
    by_cases h1 : i < n
    · rw [if_pos h1] at h
      have e : i.toNat = j := Option.some.inj h
      exact ⟨by rw [seqIndex_of h0 h1, e], by omega, by omega, h1⟩
    · rw [if_neg h1] at h; cases h
  · rw [if_neg h0] at h
    by_cases h1 : -(n : Int) ≤ i
    · rw [if_pos h1] at h
      have e : (i + n).toNat = j := Option.some.inj h
      exact ⟨by rw [seqIndex_neg (by omega) h1, e], by omega, h1, by omega⟩
    · rw [if_neg h1] at h; cases h
theorem atI_get {α : Type} {xs : List α} {i : Int} {v : α} (h : atI xs i = some v) : ∃ j, seqIndex? i xs.length = some j ∧ xs[j]? = some v ∧ j < xs.length ∧ -(xs.length : Int) ≤ i ∧ i < xs.length := by
  unfold atI at h
  cases e : ixN xs.length i with
  | none => rw [e] at h; cases h
  | some j =>
    rw [e] at h
    obtain ⟨h1, h2, h3, h4⟩ := ixN_seq e
    exact ⟨j, h1, h, h2, h3, h4⟩
theorem atI_nat {α : Type} {xs : List α} {j : Nat} {v : α} (h : xs[j]? = some v) : atI xs (j : Int) = some v := by
  have hj : j < xs.length := (List.getElem?_eq_some_iff.mp h).1
  have e : ixN xs.length (j : Int) = some j := by
    unfold ixN
    rw [if_pos (by omega), if_pos (by omega)]; simp
  unfold atI; rw [e]; exact h
theorem atI_last {α : Type} (xs : List α) (v : α) : atI (xs ++ [v]) (-1) = some v := by
  have hl : (xs ++ [v]).length = xs.length + 1 := by simp
  have e : ixN (xs ++ [v]).length (-1) = some xs.length := by
    unfold ixN
    rw [hl, if_neg (by decide), if_pos (by omega)]
    congr 1
    omega
  unfold atI
  rw [e]
  show (xs ++ [v])[xs.length]? = some v
  simp
def PlainIx (b : Expr) : Prop := ∀ o i, subscripted b false o i = operate [o, i] (getItem o i)
def IxR (X : Cx) (r : R2) : Prop :=
  ∀ (value slice : Expr) (pins : List (Addr × Obj)) (s : Shared) (σ : St) (H : Hp) (x y : V) (v u : Value) (Q : VK), Inv X pins σ H s → RelV x v → RelV y u → r x y H Q →
    subscripted slice false v u = operate [v, u] (getItem v u) → wpAny (model X.prog X.w) X.A (subscriptTail value slice v u) (EP X pins σ Q) X.xe s
def MtR (X : Cx) (id : String) (r : V → List V → Hp → VK → Prop) : Prop :=
  ∀ (pins : List (Addr × Obj)) (s : Shared) (σ : St) (H : Hp) (x : V) (xs : List V) (v : Value) (us : List Value) (Q : VK), Inv X pins σ H s → RelV x v → Vals xs us → r x xs H Q →
    wpAny (model X.prog X.w) X.A (call (.builtin id) (v :: us)) (EP X pins σ Q) X.xe s
section
variable {X : Cx} {a b : Expr} {ta tb : TE} {pos : Pos}
theorem pe_ix {r : R2} (hr : IxR X r) (ha : PE X a ta) (hb : PE X b tb) (hs : PlainIx b) : PE X (.Subscript a b pos) (tOp r ta tb) := by
  intro pins s σ H Q I h
  exact Subscript_ (binT ha hb I h fun v u s2 x y H2 I2 rx ry q => hr a b pins s2 σ H2 x y v u Q I2 rx ry q (hs _ _))
def rIxL (K : PySem.W.Frag) : R2 := fun x y H Q => ∃ p xs i v, x = .ref p ∧ y = .int i ∧ SqL K H p xs ∧ atI xs i = some v ∧ Q v H
def rIxT (K : PySem.W.Frag) : R2 := fun x y H Q => ∃ p xs i v, x = .ref p ∧ y = .int i ∧ SqT K H p xs ∧ atI xs i = some v ∧ Q v H
theorem ix_list : IxR X (rIxL X.K) := by
  intro value slice pins s σ H x y v u Q I rx ry h hs
  obtain ⟨p, xs, i, z, rfl, rfl, hq, he, q⟩ := h
  cases rx
  obtain ⟨t, rfl⟩ := ry
  obtain ⟨its, r, pl, hz⟩ := I.list hq
  obtain ⟨j, h1, h2, h3, h4, h5⟩ := atI_get he
  obtain ⟨w, ew, rw'⟩ := r.get h2
  have hl := r.length
  have hn := line63
  have fin : EP X pins σ Q w s := ⟨z, H, I, rw', q⟩
  by_cases h0 : 0 ≤ i
  · have hj : i.toNat = j := by
      rw [seqIndex_of h0 h5] at h1
      exact Option.some.inj h1
    exact item_listR pl.isList h0 (by omega) (by rw [hj]; simpa using ew) fin hs
  · have hj : (i + (its.toArray.size : Int)).toNat = j := by
      rw [seqIndex_neg (by omega) h4] at h1
      rw [List.size_toArray, ← hl]
      exact Option.some.inj h1
    exact subscriptTail_builtinR (x := w) pl.isList.typeIs slot_list_getitem.lookup
      (wpAny_getItem_list_neg (Q := fun r s' => r = w ∧ EP X pins σ Q r s') pl.isList (by omega) (by rw [List.size_toArray] <;> omega) (by omega) (by rw [hj]; simpa using ew) ⟨rfl, fin⟩) hs
theorem ix_tup : IxR X (rIxT X.K) := by
  intro value slice pins s σ H x y v u Q I rx ry h hs
  obtain ⟨p, xs, i, z, rfl, rfl, hq, he, q⟩ := h
  cases rx
  obtain ⟨t, rfl⟩ := ry
  obtain ⟨its, r, pl, hz⟩ := I.tuple hq
  obtain ⟨j, h1, h2, h3, h4, h5⟩ := atI_get he
  obtain ⟨w, ew, rw'⟩ := r.get h2
  have hl := r.length
  have hn := line63
  have fin : EP X pins σ Q w s := ⟨z, H, I, rw', q⟩
  exact subscriptTail_builtinR (x := w) pl.typeIs slot_tuple_getitem.lookup
    (getItem_tuple (j := j) (Q := fun r s' => r = w ∧ EP X pins σ Q r s') pl (by omega) (by omega) (by rw [List.size_toArray, ← hl]; exact h1) (by simpa using ew) ⟨rfl, fin⟩) hs
theorem mapSeq_set (its : List Value) (n j : Nat) (u : Value) : Obj.mapSeq (·.setIfInBounds j u) { cls := .type "list", data := .seq its.toArray n } = { cls := .type "list", data := .seq (its.set j u).toArray n } := by
  simp [Obj.mapSeq]
theorem Inv.lst {pins : List (Addr × Obj)} {σ : St} {H : Hp} {s : Shared} {p : Addr} {xs : List V} (I : Inv X pins σ H s) (h : H p = some (.lst xs)) :
    ∃ (its : List Value) (n : Nat), Vals xs its ∧ s.heap.get? p = some { cls := .type "list", data := .seq its.toArray n } ∧ xs.length ≤ sizeLine := by
  obtain ⟨z, its, n, r, e⟩ := I.hok p _ h
  exact ⟨its, n, r, e, z⟩
theorem Inv.lstUpd {pins : List (Addr × Obj)} {σ : St} {H : Hp} {s : Shared} {p : Addr} {xs ys : List V} {its its' : List Value} {n n' : Nat} {f : Obj → Obj} (I : Inv X pins σ H s) (h : H p = some (.lst xs))
    (ho : s.heap.get? p = some { cls := .type "list", data := .seq its.toArray n }) (hf : f { cls := .type "list", data := .seq its.toArray n } = { cls := .type "list", data := .seq its'.toArray n' }) (r : Vals ys its') (hz : ys.length ≤ sizeLine) (t : Nat) :
    Inv X pins σ (upd H p (.lst ys)) { s with heap := s.heap.update p f, toks := t } := by
  have e : (s.heap.update p f).get? p = some { cls := .type "list", data := .seq its'.toArray n' } := by
    rw [Heap.get?_update_self f ho (by rw [hf] <;> rfl), hf]
  refine I.write (x := p) (e := p) (by rw [h]; trivial) (.inl rfl) (fun b u hb q => (Heap.get?_update_other _ _ (Ne.symm hb)).trans q) ⟨_, e⟩ ?_
  exact ⟨hz, its', n', r, e⟩
def rSetL : V → V → V → Hp → (Hp → Prop) → Prop := fun o i v H Q => ∃ p xs k j, o = .ref p ∧ i = .int k ∧ H p = some (.lst xs) ∧ ixN xs.length k = some j ∧ Q (upd H p (.lst (xs.set j v)))
theorem set_list : PSet X rSetL := by
  intro pins s σ H o i v ov iv u Q I ro ri rv h
  obtain ⟨p, xs, k, j, rfl, rfl, hp, hj, q⟩ := h
  cases ro
  obtain ⟨t, rfl⟩ := ri
  obtain ⟨its, n, r, ho, hz⟩ := I.lst hp
  obtain ⟨h1, h2, h3, h4⟩ := ixN_seq hj
  have hl := r.length
  have hn := line63
  have I' : Inv X pins σ (upd H p (.lst (xs.set j v))) { s with heap := s.heap.update p (Obj.mapSeq (·.setIfInBounds j u)) } :=
    I.lstUpd hp ho (mapSeq_set its n j u) (r.set rv j) (by rw [List.length_set]; exact hz) s.toks
  by_cases h0 : 0 ≤ k
  · have hk : k.toNat = j := by
      rw [seqIndex_of h0 h4] at h1
      exact Option.some.inj h1
    exact PySem.W.ki_setAt ho h0 (by omega) (by rw [List.size_toArray, ← hl]; exact h4) (by rw [hk]; exact ⟨_, I', q⟩)
  · have hk : (k + (its.toArray.size : Int)).toNat = j := by
      rw [seqIndex_neg (by omega) h3] at h1
      rw [List.size_toArray, ← hl]
      exact Option.some.inj h1
    exact PySem.W.ki_setBack ho (by omega) (by rw [List.size_toArray, ← hl]; exact h3) (by omega) (by rw [hk]; exact ⟨_, I', q⟩)
theorem slice_bounds (lo hi : Option Int) (n : Nat) : (sliceBounds lo hi none n).1 = ((HT.sIx n 0 lo : Nat) : Int) ∧ (sliceBounds lo hi none n).2.1 = ((HT.sIx n n hi : Nat) : Int) ∧ (sliceBounds lo hi none n).2.2 = 1 := by
  refine ⟨?_, ?_, rfl⟩
  · cases lo with
    | none => simp [sliceBounds, HT.sIx]
    | some i =>
      simp only [sliceBounds, HT.sIx, Option.getD_none, show (1 : Int) > 0 by decide, if_true]
      by_cases h : i < 0
      · simp only [h, if_true] <;> omega
      · simp only [h, if_false] <;> omega
  · cases hi with
    | none => simp [sliceBounds, HT.sIx]
    | some i =>
      simp only [sliceBounds, HT.sIx, Option.getD_none, show (1 : Int) > 0 by decide, if_true]
      by_cases h : i < 0
      · simp only [h, if_true] <;> omega
      · simp only [h, if_false] <;> omega
theorem slicePick_cut (its : List Value) (lo hi : Option Int) : slicePick its.toArray lo hi none = ((its.drop (HT.sIx its.length 0 lo)).take (HT.sIx its.length its.length hi - HT.sIx its.length 0 lo)).toArray := by
  obtain ⟨h1, h2, h3⟩ := slice_bounds lo hi its.toArray.size
  unfold slicePick
  rw [h1, h2, h3]
  simp only [sliceRange_one, pick_run, List.size_toArray] <;> rfl
def rSlL (K : PySem.W.Frag) : V → Option Int → Option Int → Hp → VK → Prop := fun x lo hi H Q => ∃ a xs, x = .ref a ∧ SqL K H a xs ∧ ∀ p, H p = none → Q (.ref p) (upd H p (.lst (cutV xs lo hi)))
theorem sl_list : SlR X (rSlL X.K) := by
  intro pins s σ H x v vl vu lo hi sl Q I rx hs pl pu h
  obtain ⟨a, xs, rfl, hx, q⟩ := h
  cases rx
  obtain ⟨its, r, ht, hz⟩ := I.list hx
  have hlen := r.length
  refine ⟨"list", _, slot_list_getitem.lookup, ht.isList.typeIs, ?_⟩
  refine wpAny_getItem_list_slice ht.isList hs pl pu .none (by simp) ?_ (by rw [List.size_toArray] <;> omega)
  rw [slicePick_cut, ← hlen]
  refine ⟨.ref s.heap.objs.size, _, I.laid (t' := s.toks) (o := .lst (cutV xs lo hi)) (fun b ob q => Heap.get?_push_of_some _ q) (Nat.le_refl _) ?_, rfl, q _ (I.hok.fresh (Nat.le_refl _))⟩
  exact ⟨Nat.le_trans (cutV_length xs lo hi) hz, _, 0, (r.drop (HT.sIx xs.length 0 lo)).take (HT.sIx xs.length xs.length hi - HT.sIx xs.length 0 lo), Heap.get?_push_size _ rfl⟩
theorem call_len_seq : CallR X (.builtin "len") (fun xs H Q => ∃ p ys, xs = [.ref p] ∧ (SqL X.K H p ys ∨ SqT X.K H p ys) ∧ Q (.int ys.length) H) := by
  intro pins s σ H xs us Q I r h
  obtain ⟨p, ys, rfl, hq, q⟩ := h
  obtain ⟨u, rfl, rx⟩ := vals1 r
  cases rx
  have hn := line63
  rcases hq with hq | hq
  · obtain ⟨its, r', pl, hz⟩ := I.list hq
    have hlen := r'.length
    exact Calls.call_len_list pl.isList (by simp only [List.size_toArray] <;> omega) ⟨.int ys.length, H, I.tok _, ⟨s.toks + 1, by rw [List.size_toArray, hlen]⟩, q⟩
  · obtain ⟨its, r', pl, hz⟩ := I.tuple hq
    have hlen := r'.length
    exact len_tuple pl (by simp only [List.size_toArray] <;> omega) ⟨.int ys.length, H, I.tok _, ⟨s.toks + 1, by rw [List.size_toArray, hlen]⟩, q⟩
theorem call_list_of : CallR X (.type "list") (fun xs H Q => ∃ p ys, xs = [.ref p] ∧ (SqL X.K H p ys ∨ SqT X.K H p ys) ∧ ∀ l, H l = none → Q (.ref l) (upd H l (.lst ys))) := by
  intro pins s σ H xs us Q I r h
  obtain ⟨p, ys, rfl, hq, q⟩ := h
  obtain ⟨u, rfl, rx⟩ := vals1 r
  cases rx
  have fin : ∀ (its : List Value), Vals ys its → ys.length ≤ sizeLine → ∀ (h' : Heap) (c' : Nat), (∀ b o', s.heap.get? b = some o' → h'.get? b = some o') →
      h'.get? s.heap.objs.size = some { cls := .type "list", dict := none, data := .seq its.toArray c', slots := #[] } → EP X pins σ Q (.ref s.heap.objs.size) { s with heap := h' } := fun its r' hz h' c' kp e =>
    ⟨.ref s.heap.objs.size, _, I.laid (t' := s.toks) kp (Nat.le_refl _) (show ObjOk X.prog X.w _ h' _ (.lst ys) from ⟨hz, its, c', r', e⟩), rfl, q _ (I.hok.fresh (Nat.le_refl _))⟩
  rcases hq with hq | hq
  · obtain ⟨its, r', pl, hz⟩ := I.list hq
    have hlen := r'.length
    obtain ⟨o, ho, hc, n, hd⟩ := pl.isList
    exact call_list_seq p (.inl rfl) ho hc hd (fun h' c' kp e => fin its r' hz h' c' kp e) (by simp only [List.size_toArray] <;> omega)
  · obtain ⟨its, r', pl, hz⟩ := I.tuple hq
    have hlen := r'.length
    obtain ⟨o, ho, hc, n, hd⟩ := pl
    exact call_list_seq p (.inr rfl) ho hc hd (fun h' c' kp e => fin its r' hz h' c' kp e) (by simp only [List.size_toArray] <;> omega)
def tyV (K : PySem.W.Frag) (T : String) (x : V) (H : Hp) : Prop := match x with
  | .str _ => T = "str"
  | .int _ => T = "int"
  | .ref p => (T = "list" ∧ ∃ xs, SqL K H p xs) ∨ (T = "tuple" ∧ ∃ o, K.lookup p = some o ∧ o.cls = .type "tuple" ∧ o.dict = none) ∨
      (T = "dict" ∧ ((∃ kvs, H p = some (.dK kvs)) ∨ ∃ kvs, H p = some (.dT kvs))) ∨ (T = "set" ∧ ∃ S n, H p = some (.set S n))
  | _ => False
theorem tyV_is {pins : List (Addr × Obj)} {σ : St} {H : Hp} {s : Shared} {T : String} {x : V} {v : Value} (I : Inv X pins σ H s) (r : RelV x v) (ty : tyV X.K T x H) :
    s.TypeIs v T ∧ ∀ a, v = .ref a → ∃ ob, s.heap.get? a = some ob ∧ ob.dict = none := by
  cases x with
  | str z =>
    obtain ⟨t, rfl⟩ := r
    cases (show T = "str" from ty)
    exact ⟨typeIs_str s z t, fun _ e => nomatch e⟩
  | int i =>
    obtain ⟨t, rfl⟩ := r
    cases (show T = "int" from ty)
    exact ⟨typeIs_int s i t, fun _ e => nomatch e⟩
  | ref p =>
    cases r
    rcases ty with ⟨rfl, xs, hq⟩ | ⟨rfl, o, hk, hc, hd⟩ | ⟨rfl, hk⟩ | ⟨rfl, S, n, hk⟩
    · obtain ⟨its, _, pl, _⟩ := I.list hq
      refine ⟨pl.isList.typeIs, fun a e => ?_⟩
      cases e
      obtain ⟨o, n, e, c, hd, _⟩ := pl
      exact ⟨o, e, hd⟩
    · refine ⟨⟨o, I.kIn p o hk, hc⟩, fun a e => ?_⟩
      cases e
      exact ⟨o, I.kIn _ o hk, hd⟩
    · have z : ∃ o, s.heap.get? p = some o ∧ o.ExactDict := by
        rcases hk with ⟨kvs, hk⟩ | ⟨kvs, hk⟩
        · obtain ⟨_, _, _, _, o, _, _, e, ex, _⟩ := I.hok p _ hk
          exact ⟨o, e, ex⟩
        · obtain ⟨_, _, _, _, o, _, _, e, ex, _⟩ := I.hok p _ hk
          exact ⟨o, e, ex⟩
      obtain ⟨o, e, ex⟩ := z
      refine ⟨⟨o, e, ex.1⟩, fun a e2 => ?_⟩
      cases e2
      exact ⟨o, e, ex.2.1⟩
    · obtain ⟨o, _, _, _, e, ex, _⟩ := I.hok p _ hk
      refine ⟨⟨o, e, ex.1⟩, fun a e2 => ?_⟩
      cases e2
      exact ⟨o, e, ex.2.1⟩
  | _ => exact False.elim ty
def tBM0 (K : PySem.W.Frag) (T : String) (r : V → List V → Hp → VK → Prop) (to : TE) : TE := fun σ H Q => to σ H fun x H1 => tyV K T x H1 ∧ r x [] H1 Q
def tBM (K : PySem.W.Frag) (T : String) (r : V → List V → Hp → VK → Prop) (to : TE) (t : TA) : TE := fun σ H Q => to σ H fun x H1 => tyV K T x H1 ∧ t σ H1 fun xs H2 => r x xs H2 Q
variable {o e : Expr} {es : List Expr} {to : TE} {t : TA} {name : Str} {apos cpos : Pos} {T id : String} {r : V → List V → Hp → VK → Prop}
theorem pe_bm0 (pa : PlainAttrs T) (slot : Slot T name id) (hty : typeOf (.builtin id) = pure (.type "method_descriptor")) (hm : MtR X id r) (ho : PE X o to)
    (hbase : attributeBase o name X.env (eval o X.env) = eval o X.env := by rfl) (hline : (apos.endLine == cpos.line) = true := by rfl) : PE X (.Call (.Attribute o name apos) [] [] cpos) (tBM0 X.K T r to) := by
  intro pins s σ H Q I h
  refine wpAny_Call_method0_late hbase hline (thn (ho pins s σ H _ I h) fun v s1 ⟨x, H1, I1, r1, ty, q1⟩ => ?_)
  obtain ⟨h1, h2⟩ := tyV_is I1 r1 ty
  exact ⟨T, id, pa, slot, hty, h1, h2, Calls.callWith_builtin rfl (PySem.evalArgs_none (hm pins s1 σ H1 x [] v [] Q I1 r1 .nil q1))⟩
theorem pe_bm (pa : PlainAttrs T) (slot : Slot T name id) (hty : typeOf (.builtin id) = pure (.type "method_descriptor")) (hm : MtR X id r) (ho : PE X o to) (ha : PA X (e :: es) t)
    (hbase : attributeBase o name X.env (eval o X.env) = eval o X.env := by rfl)
    (hfew : ((backTo cpos (starEach (e :: es) X.env)).all (fun x => !x.1) && (backToKw cpos (keywordEach [] X.env)).all (fun x => x.1.isSome)
      && decide ((e :: es).length + ([] : List Keyword).length + (if ([] : List Keyword).isEmpty then 0 else 1) < 30)) = true := by rfl)
    (hline : (apos.endLine == cpos.line) = true := by rfl) (hs : starEach (e :: es) X.env = (false, eval e X.env) :: starEach es X.env := by rfl) (hplain : (backTo cpos (starEach es X.env)).any (·.1) = false := by rfl) :
    PE X (.Call (.Attribute o name apos) (e :: es) [] cpos) (tBM X.K T r to t) := by
  intro pins s σ H Q I h
  refine wpAny_Call_method_late hbase hfew hline rfl (thn (ho pins s σ H _ I h) fun v s1 ⟨x, H1, I1, r1, ty, q1⟩ => ?_)
  obtain ⟨h1, h2⟩ := tyV_is I1 r1 ty
  refine ⟨T, id, pa, slot, hty, h1, h2, ?_⟩
  have hA := ha cpos pins s1 σ H1 _ I1 q1
  rw [hs] at hA ⊢
  refine Calls.callWith_builtin (by show (false || (backTo cpos (starEach es X.env)).any (·.1)) = false; rw [hplain] <;> rfl) (Calls.evalArgs_plain ?_)
  exact thn hA fun us s2 ⟨vs, H2, I2, r2, q2⟩ => hm pins s2 σ H2 x vs v us Q I2 r1 r2 q2
end
end L2
namespace L2
open PySem PySem.Spec PyProof.Rows
def MtM (X : Cx) (id : String) (r : V → List V → Hp → VK → Prop) : Prop :=
  ∀ (pins : List (Addr × Obj)) (s : Shared) (σ : St) (H : Hp) (x : V) (xs : List V) (v : Value) (us : List Value) (Q : VK), Inv X pins σ H s → RelV x v → Vals xs us → r x xs H Q →
    wpAny (model X.prog X.w) X.A (call (.builtin id) (v :: us)) (EP X pins σ Q) X.xe s
theorem Vals.one : ∀ {x : V} {us : List Value}, Vals [x] us → ∃ u, us = [u] ∧ RelV x u
  | _, _, .cons r .nil => ⟨_, rfl, r⟩
theorem Vals.zero : ∀ {us : List Value}, Vals [] us → us = []
  | _, .nil => rfl
theorem Vals.dropLast {xs : List V} {us : List Value} (h : Vals xs us) : Vals xs.dropLast us.dropLast := by
  induction h with
  | nil => exact .nil
  | cons r t ih =>
    cases t with
    | nil => exact .nil
    | cons q t' => exact .cons r ih
theorem Vals.rep {xs : List V} {us : List Value} (h : Vals xs us) : ∀ k : Nat, Vals (List.replicate k xs).flatten (List.replicate k us).flatten
  | 0 => .nil
  | k + 1 => by
    rw [List.replicate_succ, List.replicate_succ, List.flatten_cons, List.flatten_cons]
    exact Vals.append h (Vals.rep h k)
theorem erase_last {α : Type} (l : List α) : l.eraseIdx (l.length - 1) = l.dropLast := by
  induction l with
  | nil => rfl
  | cons a r ih =>
    cases r with
    | nil => rfl
    | cons b r =>
      have e : (a :: b :: r).length - 1 = ((b :: r).length - 1) + 1 := by
        have h1 : (a :: b :: r).length = r.length + 2 := rfl
        have h2 : (b :: r).length = r.length + 1 := rfl
        omega
      rw [e, List.eraseIdx_cons_succ, ih]
      all_goals rfl
theorem foldl_rep (its : List Value) : ∀ (k : Nat) (acc : List Value),
    List.foldl (fun x1 x2 => x1 ++ x2) acc.toArray (List.replicate k its.toArray) = (acc ++ (List.replicate k its).flatten).toArray
  | 0, acc => by simp
  | k + 1, acc => by
    have e : acc.toArray ++ its.toArray = (acc ++ its).toArray := by simp
    have e2 : (acc ++ its) ++ (List.replicate k its).flatten = acc ++ (List.replicate (k + 1) its).flatten := by
      rw [List.replicate_succ, List.flatten_cons, List.append_assoc]
    rw [← e2, ← foldl_rep its k (acc ++ its), ← e, List.replicate_succ, List.foldl_cons]
section
variable {X : Cx} {pins : List (Addr × Obj)} {σ : St} {H : Hp} {s : Shared} {l b : Addr} {xs ys zs : List V}
theorem Inv.lset {its its' : List Value} {n : Nat} {f : Array Value → Array Value} {t' : Nat} (I : Inv X pins σ H s) (hH : H l = some (.lst xs))
    (e : s.heap.get? l = some { cls := .type "list", data := .seq its.toArray n }) (hf : f its.toArray = its'.toArray) (hv : Vals ys its') (hz : ys.length ≤ sizeLine) :
    Inv X pins σ (upd H l (.lst ys)) { s with heap := s.heap.update l (Obj.mapSeq f), toks := t' } := by
  have q := PySem.IsL.update e f
  rw [hf] at q
  refine I.write (x := l) (e := l) (by rw [hH]; exact trivial) (.inl rfl) (fun b' u hb hu => (Heap.get?_update_other s.heap (Obj.mapSeq f) (Ne.symm hb)).trans hu) ⟨_, q⟩ ?_
  exact ⟨hz, its', _, hv, q⟩
theorem Inv.lnew {its : List Value} {t' : Nat} (I : Inv X pins σ H s) (hv : Vals ys its) (hz : ys.length ≤ sizeLine) :
    Inv X pins σ (upd H s.heap.objs.size (.lst ys)) { s with heap := s.heap.push { cls := .type "list", data := .seq its.toArray }, toks := t' } :=
  I.laid (fun _ _ q => Heap.get?_push_of_some _ q) (Nat.le_refl _) ⟨hz, its, 0, hv, Heap.get?_push_size _ rfl⟩
theorem Inv.fresh (I : Inv X pins σ H s) : H s.heap.objs.size = none := I.hok.fresh (Nat.le_refl _)
theorem Inv.lstM (I : Inv X pins σ H s) (hH : H l = some (.lst xs)) : xs.length ≤ sizeLine ∧ ∃ (its : List Value) (n : Nat), Vals xs its ∧ xs.length = its.length ∧ s.heap.get? l = some { cls := .type "list", data := .seq its.toArray n } := by
  obtain ⟨z, its, n, r, e⟩ := I.hok l _ hH
  exact ⟨z, its, n, r, r.length, e⟩
theorem notLongL {n : Nat} (h : n ≤ sizeLine) : Builtin.List.listTooLong n = false := by
  unfold Builtin.List.listTooLong
  exact decide_eq_false (by omega)
end
section
variable {X : Cx}
def rAppend : V → List V → Hp → VK → Prop := fun x vs H Q => ∃ l xs y, x = .ref l ∧ vs = [y] ∧ H l = some (.lst xs) ∧ xs.length < sizeLine ∧ Q .non (upd H l (.lst (xs ++ [y])))
theorem mt_append : MtM X "list.append" rAppend := by
  intro pins s σ H x vs v us Q I rx rv h
  obtain ⟨l, xs, y, rfl, rfl, hH, hz, q⟩ := h
  cases rx
  obtain ⟨u, rfl, ru⟩ := rv.one
  obtain ⟨z, its, n, r, hl, e⟩ := I.lstM hH
  refine call_meets F.slot_list_append ⟨_, e, rfl⟩ F.entry_list_append (F.args_list_append_2 _ _) (PySem.list_append l its.toArray n u (by rw [List.size_toArray]; omega)) ⟨e, ?_⟩
  refine ⟨.non, _, I.lset (its' := its ++ [u]) hH e (by simp) (r.append (.cons ru .nil)) ?_, rfl, q⟩
  rw [List.length_append, List.length_singleton]
  omega
def rExtend : V → List V → Hp → VK → Prop := fun x vs H Q => ∃ l b xs zs, x = .ref l ∧ vs = [.ref b] ∧ H l = some (.lst xs) ∧ H b = some (.lst zs) ∧ xs.length + zs.length ≤ sizeLine ∧ Q .non (upd H l (.lst (xs ++ zs)))
theorem mt_extend : MtM X "list.extend" rExtend := by
  intro pins s σ H x vs v us Q I rx rv h
  obtain ⟨l, b, xs, zs, rfl, rfl, hH, hB, hz, q⟩ := h
  cases rx
  obtain ⟨u, rfl, ru⟩ := rv.one
  cases ru
  obtain ⟨z, its, n, r, hl, e⟩ := I.lstM hH
  obtain ⟨z2, its2, n2, r2, hl2, e2⟩ := I.lstM hB
  have hsz : its.toArray.size + its2.toArray.size ≤ sizeLine := by rw [List.size_toArray, List.size_toArray]; omega
  have hlong : ¬ (!its.toArray.isEmpty && Builtin.List.listTooLong (its.toArray.size + its2.toArray.size)) = true := by
    rw [notLongL hsz, Bool.and_false]
    exact Bool.false_ne_true
  refine call_meets F.slot_list_extend ⟨_, e, rfl⟩ F.entry_list_extend (F.args_list_extend_2 _ _)
    (AutoSeq1.list_extend_list_list_0 l its.toArray n b its2.toArray n2 hlong (by rw [List.size_toArray]; omega) (by omega)) ⟨e, e2, ?_⟩
  refine ⟨.non, _, I.lset (its' := its ++ its2) hH e (by simp) (r.append r2) ?_, rfl, q⟩
  rw [List.length_append]
  omega
def rPop : V → List V → Hp → VK → Prop := fun x vs H Q => ∃ l xs y, x = .ref l ∧ vs = [] ∧ H l = some (.lst xs) ∧ xs[xs.length - 1]? = some y ∧ Q y (upd H l (.lst xs.dropLast))
theorem mt_pop : MtM X "list.pop" rPop := by
  intro pins s σ H x vs v us Q I rx rv h
  obtain ⟨l, xs, y, rfl, rfl, hH, hy, q⟩ := h
  cases rx
  have hus := rv.zero
  subst hus
  obtain ⟨z, its, n, r, hl, e⟩ := I.lstM hH
  obtain ⟨u, hu, ru⟩ := r.get hy
  have hy' : its.toArray[its.toArray.size - 1]? = some u := by
    show its.toArray[its.length - 1]? = some u
    rw [← Array.getElem?_toList, ← hl]
    exact hu
  refine call_meets F.slot_list_pop ⟨_, e, rfl⟩ F.entry_list_pop (F.args_list_pop_1 _) (MeetsSeq.list_pop_last l its.toArray n u hy' (by rw [List.size_toArray]; omega)) ⟨e, ?_⟩
  refine ⟨y, _, I.lset (its' := its.dropLast) hH e ?_ r.dropLast ?_, ru, q⟩
  · show its.toArray.eraseIdxIfInBounds (its.toArray.size - 1) = its.dropLast.toArray
    rw [List.size_toArray, List.eraseIdxIfInBounds_toArray, erase_last]
  · rw [List.length_dropLast]
    omega
def rCat : R2 := fun x y H Q => ∃ l b xs zs, x = .ref l ∧ y = .ref b ∧ H l = some (.lst xs) ∧ H b = some (.lst zs) ∧ xs.length + zs.length ≤ sizeLine ∧ ∀ p, H p = none → Q (.ref p) (upd H p (.lst (xs ++ zs)))
theorem op_cat : OpR X (binaryOp .Add) rCat := by
  intro pins s σ H x y v u Q I rx ry h
  obtain ⟨l, b, xs, zs, rfl, rfl, hH, hB, hz, q⟩ := h
  cases rx
  cases ry
  obtain ⟨z, its, n, r, hl, e⟩ := I.lstM hH
  obtain ⟨z2, its2, n2, r2, hl2, e2⟩ := I.lstM hB
  refine PySem.P.add_list e e2 ?_ (by rw [List.size_toArray, List.size_toArray]; omega)
  have ea : its.toArray ++ its2.toArray = (its ++ its2).toArray := by simp
  rw [ea]
  exact ⟨.ref _, _, I.lnew (t' := s.toks) (r.append r2) (by rw [List.length_append]; omega), rfl, q _ I.fresh⟩
def rRep : R2 := fun x y H Q => ∃ l k xs, x = .ref l ∧ y = .int k ∧ H l = some (.lst xs) ∧ -(2 ^ 63) ≤ k ∧ k < 2 ^ 63 ∧ xs.length * k.toNat ≤ sizeLine ∧
  ∀ p, H p = none → Q (.ref p) (upd H p (.lst (List.replicate k.toNat xs).flatten))
theorem len_rep {α : Type} (xs : List α) (k : Nat) : (List.replicate k xs).flatten.length = k * xs.length := by
  induction k with
  | zero => simp
  | succ k ih => rw [List.replicate_succ, List.flatten_cons, List.length_append, ih, Nat.succ_mul, Nat.add_comm]
theorem op_rep : OpR X (binaryOp .Mult) rRep := by
  intro pins s σ H x y v u Q I rx ry h
  obtain ⟨l, k, xs, rfl, rfl, hH, h1, h2, hz, q⟩ := h
  cases rx
  obtain ⟨t, rfl⟩ := ry
  obtain ⟨z, its, n, r, hl, e⟩ := I.lstM hH
  have hlen : its.toArray.size * k.toNat ≤ sizeLine := by rw [List.size_toArray, ← hl]; exact hz
  have hcap : ¬ its.toArray.size * k.toNat > (2 ^ 63 - 1) / 8 := by
    have : (sizeLine : Nat) ≤ (2 ^ 63 - 1) / 8 := by decide
    omega
  have hfit : ¬ (!Builtin.List.listFitsIndex k) = true := by
    rw [fitsIndex_both h1 h2]
    exact Bool.false_ne_true
  have hlong : ¬ Builtin.List.listTooLong (its.toArray.size * k.toNat) = true := by
    rw [notLongL hlen]
    exact Bool.false_ne_true
  have hnew : List.foldl (fun x1 x2 => x1 ++ x2) #[] (List.replicate (if its.toArray.isEmpty = true then 0 else k.toNat) its.toArray) = (List.replicate k.toNat its).flatten.toArray := by
    have f0 : ∀ m : Nat, List.foldl (fun x1 x2 => x1 ++ x2) #[] (List.replicate m its.toArray) = (List.replicate m its).flatten.toArray := fun m => by
      have := foldl_rep its m []
      rw [List.nil_append] at this
      exact this
    rw [f0]
    cases its with
    | nil => simp
    | cons a r' => rw [if_neg (by simp)]
  refine wpAny_binaryOp_repeat_ref (T := "list") (U := "int") (by decide) ⟨_, e, rfl⟩ (fun s' => typeIs_int s' k t) noFill_list_mul F.fills_int_mul F.slot_int_rmul repeat_list F.slot_int_index.lookup
    (call_meets F.slot_int_rmul (typeIs_int s k t) F.entry_int_rmul (F.args_int_rmul_2 _ _) (int___rmul___int_list k t l its.toArray n)
      ⟨e, rfl, ⟨_, e, rfl⟩, call_meets F.slot_list_mul ⟨_, e, rfl⟩ F.entry_list_mul (F.args_list_mul_2 _ _) (AutoListH.list___mul___list_int_3 l its.toArray n k t hfit hcap hlong) ⟨e, ?_⟩⟩)
  rw [hnew]
  exact ⟨.ref _, _, I.lnew (t' := s.toks) (r.rep k.toNat) (by rw [len_rep, Nat.mul_comm]; exact hz), rfl, q _ I.fresh⟩
end
end L2
namespace L2
open PySem PySem.Spec PyProof.Rows
theorem Vals.ints : ∀ {ns : List Int} {us : List Value}, Vals (ns.map V.int) us → IntsAre us ns
  | [], us, h => by
    rw [List.map_nil] at h
    cases h
    exact IntsAre.nil
  | n :: ns, us, h => by
    rw [List.map_cons] at h
    cases h with
    | cons r t =>
      obtain ⟨k, rfl⟩ := r
      exact IntsAre.cons n k (Vals.ints t)
theorem vals_of_ints : ∀ {us : List Value} {ns : List Int}, IntsAre us ns → Vals (ns.map V.int) us
  | _, _, .nil => by rw [List.map_nil]; exact Paired.nil
  | _, _, .cons n t h => by rw [List.map_cons]; exact Paired.cons (show RelV (V.int n) (Value.int n t) from ⟨t, rfl⟩) (vals_of_ints h)
theorem Vals.bls : ∀ {bs : List Bool} {us : List Value}, Vals (bs.map V.bl) us → us = bs.map Value.bool
  | [], us, h => by
    rw [List.map_nil] at h
    cases h
    rfl
  | b :: bs, us, h => by
    rw [List.map_cons] at h
    cases h with
    | cons r t =>
      cases r
      rw [Vals.bls t, List.map_cons]
theorem Vals.ref1 {a : Addr} {us : List Value} (r : Vals [V.ref a] us) : us = [Value.ref a] := by
  cases r with
  | cons r t =>
    cases t
    cases r
    rfl
section
variable {prog : Program} {w : World} {A : Around} {E : Value → Shared → Prop} {s : Shared} {l : Addr} {its : List Value} {ns : List Int} {Q : Value → Shared → Prop}
theorem sum_raw (hh : A.handled = none) (hl : s.heap.IsList l its.toArray) (hi : IntsAre its ns)
    (h : ∀ h' tk t', (∀ b o, s.heap.get? b = some o → h'.get? b = some o) → Q (.int ns.sum t') { s with heap := h', toks := tk }) : wpAny (model prog w) A (call (.builtin "sum") [.ref l]) Q E s := by
  obtain ⟨xs, e⟩ := hi.allInts.items
  have hn : numsOf (intItems xs).toList = ns := by rw [← e]; exact hi.numsOf
  rw [nums_intItems] at hn
  rw [e] at hl
  refine PySem.sum_intListG hh hl fun h' tk t' hk => ?_
  have := h h' tk t' hk
  rw [preSum_eq, List.take_of_length_le (by simp), hn]; exact this
end
section
variable {X : Cx}
def rSum (K : PySem.W.Frag) : List V → Hp → VK → Prop := fun vs H Q => ∃ (a : Addr) (ns : List Int), vs = [V.ref a] ∧ SqL K H a (ns.map V.int) ∧ Q (.int ns.sum) H
theorem cr_sum (hc : X.calm = true) : CallR X (.builtin "sum") (rSum X.K) := by
  intro pins s σ H vs us Q I r h
  obtain ⟨a, ns, rfl, hs, q⟩ := h
  obtain ⟨its, rv, hl, _⟩ := I.list hs
  rw [Vals.ref1 r]
  exact sum_raw (I.ok.hd hc) hl.isList rv.ints fun h' tk t' hk => ⟨.int _, H, I.kept hk, ⟨_, rfl⟩, q⟩
def rSorted (K : PySem.W.Frag) : List V → Hp → VK → Prop := fun vs H Q => ∃ (a : Addr) (ns : List Int), vs = [V.ref a] ∧ SqL K H a (ns.map V.int) ∧ ns.length < 64 ∧
  ∀ (ns' : List Int) (p : Addr), ns'.Perm ns → ns'.Pairwise (· ≤ ·) → H p = none → Q (.ref p) (upd H p (.lst (ns'.map V.int)))
theorem small64 {n : Nat} (h : n < 64) : n ≤ sizeLine := by rw [sizeLine_eq]; omega
theorem cr_sorted : CallR X (.builtin "sorted") (rSorted X.K) := by
  intro pins s σ H vs us Q I r h
  obtain ⟨a, ns, rfl, hs, h64, q⟩ := h
  obtain ⟨its, rv, hl, _⟩ := I.list hs
  rw [Vals.ref1 r]
  have hi := rv.ints
  refine PyProof.Rows.sorted_ints hl.isList hi (by rw [hi.length]; exact h64) fun out ns' h1 h2 h3 => ?_
  obtain ⟨ep, he'⟩ := PyProof.Rows.sortedAll_at s.heap its out
  have hlen : (ns'.map V.int).length ≤ sizeLine := by rw [List.length_map, h2.length_eq]; exact small64 h64
  exact ⟨.ref _, upd H (s.heap.objs.size + 1) (.lst (ns'.map V.int)), I.laid (t' := s.toks) (fun _ _ => PyProof.Rows.sortedAll_old) (Nat.le_succ _) ⟨hlen, out.toList, ep, vals_of_ints h1, he'⟩, rfl, q ns' _ h2 h3 (I.hok.fresh (Nat.le_succ _))⟩
end
theorem iter_any {prog : Program} {w : World} {A : Around} {E : Value → Shared → Prop} {s : Shared} {l : Addr} {items : Array Value} {Q : Value → Shared → Prop} (hl : s.heap.IsList l items)
    (h : ∀ s₂ : Shared, s₂ = { s with heap := s.heap.push { cls := .type "list_iterator", data := .fields #[.ref l, .int 0 0] } } →
      (s₂.heap.IsListIter s.heap.objs.size l 0 ∧ s₂.heap.IsList l items) → l ≠ s.heap.objs.size → Q (.ref s.heap.objs.size) s₂) : wpAny (model prog w) A (pyIter (.ref l)) Q E s := by
  have hlt : l < s.heap.objs.size := by obtain ⟨_, e, _⟩ := hl; exact Heap.lt_size e
  exact wpAny_pyIter_list hl (h _ rfl ⟨⟨_, Heap.get?_push_size _ rfl, rfl, rfl⟩, hl.push _⟩ (Nat.ne_of_lt hlt))
theorem truth_bools {prog : Program} {w : World} {A : Around} {bs : List Bool} {its : List Value} (e : its = bs.map Value.bool) :
    TruthOf prog w A (fun i v => its.toArray[i]? = some v) (fun i => bs.getD i false) := fun i v s Q E hv hq => by
  have hv' : its[i]? = some v := by simpa using hv
  rw [e, List.getElem?_map] at hv'
  obtain ⟨b, hb, rfl⟩ := Option.map_eq_some_iff.mp hv'
  have hg : bs.getD i false = b := by rw [List.getD_eq_getElem?_getD, hb] <;> rfl
  have hq' : Q (bs.getD i false) s := hq
  rw [hg] at hq'
  exact wpAny_truthy_bool hq'
theorem all_range : ∀ bs : List Bool, (List.range bs.length).all (fun i => bs.getD i false) = bs.all id
  | [] => rfl
  | b :: bs => by
    rw [List.length_cons, List.range_succ_eq_map, List.all_cons, List.all_map, List.all_cons, ← all_range bs]
    all_goals rfl
section
variable {X : Cx}
def rAll (K : PySem.W.Frag) : List V → Hp → VK → Prop := fun vs H Q => ∃ (a : Addr) (bs : List Bool), vs = [V.ref a] ∧ SqL K H a (bs.map V.bl) ∧ Q (.bl (bs.all id)) H
theorem cr_all (hc : X.calm = true) : CallR X (.builtin "all") (rAll X.K) := by
  intro pins s σ H vs us Q I r h
  obtain ⟨a, bs, rfl, hs, q⟩ := h
  obtain ⟨its, rv, hl, _⟩ := I.list hs
  rw [Vals.ref1 r]
  have hb := rv.bls
  refine call_all_walk (iter_any hl.isList fun s₂ e2 st hne => ?_)
  subst e2
  refine ⟨_, _, _, _, _, _, _, rfl, Walks.list (A := X.A.in1) (I.ok.hd hc) _ a hne its.toArray, st, truth_bools hb, fun h' tk hk => ?_⟩
  refine ⟨.bl _, H, I.kept fun b o eo => hk b o (fun hmem => ?_) (Heap.get?_push_of_some _ eo), ?_, q⟩
  · rcases List.mem_cons.mp hmem with e1 | hmem
    · exact absurd (e1 ▸ Heap.lt_size eo) (Nat.lt_irrefl _)
    · cases hmem
  · show Value.bool _ = Value.bool _
    rw [← all_range, hb, List.size_toArray, List.length_map]
end
mutual
inductive Dp (K : PySem.W.Frag) (H : Hp) : V → PyData → Prop
  | non : Dp K H .non .none
  | bl (b : Bool) : Dp K H (.bl b) (.bool b)
  | int (i : Int) : Dp K H (.int i) (.int i)
  | str (x : Str) : Dp K H (.str x) (.str x)
  | lst {a : Addr} {xs : List V} {ds : List PyData} : SqL K H a xs → DpAll K H xs ds → Dp K H (.ref a) (.list ds)
  | tup {a : Addr} {xs : List V} {ds : List PyData} : SqT K H a xs → DpAll K H xs ds → Dp K H (.ref a) (.tuple ds)
inductive DpAll (K : PySem.W.Frag) (H : Hp) : List V → List PyData → Prop
  | nil : DpAll K H [] []
  | cons {v : V} {vs : List V} {d : PyData} {ds : List PyData} : Dp K H v d → DpAll K H vs ds → DpAll K H (v :: vs) (d :: ds)
end
section
variable {X : Cx} {pins : List (Addr × Obj)} {σ : St} {H : Hp} {s : Shared}
mutual
theorem Dp.reads (I : Inv X pins σ H s) : ∀ (d : PyData) (v : V) (u : Value), Dp X.K H v d → RelV v u → ∃ as, Reads s.heap u d as
  | .none, _, _, h, r => by
    cases h
    cases r
    exact ⟨_, Reads.none⟩
  | .bool b, _, _, h, r => by
    cases h
    cases r
    exact ⟨_, Reads.bool b⟩
  | .int i, _, _, h, r => by
    cases h
    obtain ⟨t, rfl⟩ := r
    exact ⟨_, Reads.int i t⟩
  | .str x, _, _, h, r => by
    cases h
    obtain ⟨t, rfl⟩ := r
    exact ⟨_, Reads.str x t⟩
  | .list ds, _, _, h, r => by
    cases h with
    | lst hs ha =>
      cases r
      obtain ⟨its, rv, ⟨o, n, ho, hc, _, hd⟩, _⟩ := I.list hs
      obtain ⟨as, hr⟩ := Dp.readsAll I ds _ its ha rv
      exact ⟨_, Reads.list ho hc hd hr⟩
  | .tuple ds, _, _, h, r => by
    cases h with
    | tup hs ha =>
      cases r
      obtain ⟨its, rv, ⟨o, ho, hc, n, hd⟩, _⟩ := I.tuple hs
      obtain ⟨as, hr⟩ := Dp.readsAll I ds _ its ha rv
      exact ⟨_, Reads.tuple ho hc hd hr⟩
  | .dict _, _, _, h, _ => by cases h
theorem Dp.readsAll (I : Inv X pins σ H s) : ∀ (ds : List PyData) (vs : List V) (us : List Value), DpAll X.K H vs ds → Vals vs us → ∃ as, ReadsAll s.heap us ds as
  | [], _, _, h, r => by
    cases h
    cases r
    exact ⟨_, ReadsAll.nil⟩
  | d :: ds, _, _, h, r => by
    cases h with
    | cons h1 h2 =>
      cases r with
      | cons r1 r2 =>
        obtain ⟨as, q1⟩ := Dp.reads I d _ _ h1 r1
        obtain ⟨bs, q2⟩ := Dp.readsAll I ds _ _ h2 r2
        exact ⟨_, ReadsAll.cons q1 q2⟩
end
end
section
variable {X : Cx}
def rNeD (K : PySem.W.Frag) : R2 := fun x y H Q => ∃ d e, Dp K H x d ∧ Dp K H y e ∧ SeqAt.shaped d = true ∧ SeqAt.shaped e = true ∧ Q (.bl (!PyData.eqv d e)) H
theorem op_neD (hu : X.A.units + 64 < cLine) : OpR X (compareOp .NotEq) (rNeD X.K) := by
  intro pins s σ H x y v u Q I rx ry h
  obtain ⟨d, e, hd, he, sd, se, q⟩ := h
  obtain ⟨as, r1⟩ := Dp.reads I d x v hd rx
  obtain ⟨bs, r2⟩ := Dp.reads I e y u he ry
  exact SeqAt.compareNe_shaped r1 r2 sd se hu ⟨.bl _, H, I, rfl, q⟩
end
end L2
namespace L2
open PySem PySem.Spec PyProof.Rows
abbrev CellAt (h : Heap) (c : Addr) (v : Option Value) : Prop := h.IsCell c v
def relS (scope sc : Scope) : Scope :=
  { scope with names := scope.names.map fun (n, k) => if (k == .free && sc.kind == .function && sc.names.lookup n == some .cell) then (n, .cell) else (n, k) }
def cloFrom (cells : List (Str × Addr)) : List (Str × NameKind) → List (Str × Addr) → List (Str × Addr)
  | [], acc => acc
  | (n, k) :: r, acc => if k == .free then cloFrom cells r ((n, (cells.lookup n).getD 0) :: acc) else cloFrom cells r acc
theorem closure_loop (env : Env) (f : Str × NameKind → List (Str × Addr) → Sem (ForInStep (List (Str × Addr))))
    (hf : ∀ n k c, f (n, k) c = if k == .free then (do let a ← cellOf env n; pure (.yield ((n, a) :: c))) else pure (.yield c)) :
    ∀ (names : List (Str × NameKind)) (acc : List (Str × Addr)), (∀ y ∈ names, y.2 = .free → ∃ c, env.cells.lookup y.1 = some c) → forIn names acc f = pure (cloFrom env.cells names acc)
  | [], acc, _ => by rw [List.forIn_nil]; rfl
  | (n, k) :: r, acc, h => by
    rw [List.forIn_cons, hf]
    have ih := fun acc => closure_loop env f hf r acc fun y hy => h y (List.mem_cons_of_mem _ hy)
    unfold cloFrom
    by_cases hk : (k == NameKind.free) = true
    · rw [if_pos hk, if_pos hk]
      obtain ⟨c, hc⟩ := h (n, k) List.mem_cons_self (by simpa using hk)
      have e : cellOf env n = pure c := by unfold cellOf; rw [hc]
      rw [e]
      have e2 : (env.cells.lookup n).getD 0 = c := by rw [hc]; rfl
      rw [e2]
      exact ih _
    · rw [if_neg hk, if_neg hk]
      exact ih _
theorem closure_ok {scope : Scope} {env : Env} (h : ∀ y ∈ scope.names, y.2 = .free → ∃ c, env.cells.lookup y.1 = some c) : closureFor scope env = pure (cloFrom env.cells scope.names []) := by
  simp only [closureFor]
  rw [closure_loop env _ (fun n k c => rfl) scope.names [] h]
  rfl
theorem mem_lookup {α : Type} : ∀ {l : List (Str × α)} {n : Str} {c : α}, (n, c) ∈ l → ∃ c', l.lookup n = some c'
  | (k, v) :: r, n, c, h => by
    rw [List.lookup_cons]
    cases hb : n == k with
    | true => exact ⟨_, rfl⟩
    | false =>
      rcases List.mem_cons.mp h with e | h
      · cases e; simp at hb
      · exact mem_lookup h
theorem cloFrom_mem {cells : List (Str × Addr)} : ∀ {names : List (Str × NameKind)} {acc : List (Str × Addr)} {n : Str} {c : Addr}, (n, c) ∈ cloFrom cells names acc → (n, c) ∈ acc ∨ ((n, .free) ∈ names ∧ c = (cells.lookup n).getD 0)
  | [], _, _, _, h => .inl h
  | (m, k) :: r, acc, n, c, h => by
    unfold cloFrom at h
    split at h
    · rename_i hk
      have hk : k = .free := by simpa using hk
      rcases cloFrom_mem h with h | ⟨h1, h2⟩
      · rcases List.mem_cons.mp h with e | h
        · cases e; exact .inr ⟨hk ▸ List.mem_cons_self, rfl⟩
        · exact .inl h
      · exact .inr ⟨List.mem_cons_of_mem _ h1, h2⟩
    · rcases cloFrom_mem h with h | ⟨h1, h2⟩
      · exact .inl h
      · exact .inr ⟨List.mem_cons_of_mem _ h1, h2⟩
theorem cloFrom_acc {cells : List (Str × Addr)} : ∀ {names : List (Str × NameKind)} {acc : List (Str × Addr)} {p : Str × Addr}, p ∈ acc → p ∈ cloFrom cells names acc
  | [], _, _, h => h
  | (m, k) :: r, acc, p, h => by
    unfold cloFrom
    split
    · exact cloFrom_acc (List.mem_cons_of_mem _ h)
    · exact cloFrom_acc h
theorem cloFrom_has {cells : List (Str × Addr)} : ∀ {names : List (Str × NameKind)} {acc : List (Str × Addr)} {n : Str}, (n, .free) ∈ names → (n, (cells.lookup n).getD 0) ∈ cloFrom cells names acc
  | (m, k) :: r, acc, n, h => by
    unfold cloFrom
    rcases List.mem_cons.mp h with e | h
    · cases e
      exact cloFrom_acc List.mem_cons_self
    · split
      · exact cloFrom_has h
      · exact cloFrom_has h
theorem cells_mem : ∀ {names : List (Str × NameKind)} {h : Heap} {acc : List (Str × Addr)} {x : Str} {c : Addr}, (x, c) ∈ cellsFrom h.objs.size names acc →
    (x, c) ∈ acc ∨ ((x, .cell) ∈ names ∧ h.objs.size ≤ c ∧ CellAt (pushCells h names) c none)
  | [], _, _, _, _, h => .inl h
  | (n, k) :: r, h, acc, x, c, hm => by
    unfold cellsFrom at hm
    unfold pushCells
    split at hm
    · rename_i hk
      rw [if_pos hk]
      have hk : k = .cell := by simpa using hk
      rw [← Heap.size_push h { cls := .type "cell", data := .cell none }] at hm
      rcases cells_mem hm with hm | ⟨h1, h2, h3⟩
      · rcases List.mem_cons.mp hm with e | hm
        · cases e
          exact .inr ⟨hk ▸ List.mem_cons_self, Nat.le_refl _, _, pushCells_keeps r _ _ _ (Heap.get?_push_size _ rfl), rfl⟩
        · exact .inl hm
      · rw [Heap.size_push] at h2
        exact .inr ⟨List.mem_cons_of_mem _ h1, Nat.le_of_succ_le h2, h3⟩
    · rename_i hk
      rw [if_neg hk]
      rcases cells_mem hm with hm | ⟨h1, h2, h3⟩
      · exact .inl hm
      · exact .inr ⟨List.mem_cons_of_mem _ h1, h2, h3⟩
theorem cells_acc : ∀ {names : List (Str × NameKind)} {n : Nat} {acc : List (Str × Addr)} {p : Str × Addr}, p ∈ acc → p ∈ cellsFrom n names acc
  | [], _, _, _, h => h
  | (m, k) :: r, n, acc, p, h => by
    unfold cellsFrom
    split
    · exact cells_acc (List.mem_cons_of_mem _ h)
    · exact cells_acc h
theorem cells_has : ∀ {names : List (Str × NameKind)} {n : Nat} {acc : List (Str × Addr)} {x : Str}, (x, .cell) ∈ names → ∃ c, (x, c) ∈ cellsFrom n names acc
  | (m, k) :: r, n, acc, x, h => by
    unfold cellsFrom
    rcases List.mem_cons.mp h with e | h
    · cases e
      exact ⟨n, cells_acc List.mem_cons_self⟩
    · split
      · exact cells_has h
      · exact cells_has h
theorem cells_inj : ∀ {names : List (Str × NameKind)} {h : Heap} {acc : List (Str × Addr)} {x y : Str} {c : Addr}, (∀ p ∈ acc, p.2 < h.objs.size) → (∀ x y c, (x, c) ∈ acc → (y, c) ∈ acc → x = y) →
    (x, c) ∈ cellsFrom h.objs.size names acc → (y, c) ∈ cellsFrom h.objs.size names acc → x = y
  | [], _, _, _, _, _, _, hi, h1, h2 => hi _ _ _ h1 h2
  | (n, k) :: r, h, acc, x, y, c, hl, hi, h1, h2 => by
    unfold cellsFrom at h1 h2
    split at h1
    · rename_i hk
      rw [if_pos hk] at h2
      rw [← Heap.size_push h { cls := .type "cell", data := .cell none }] at h1 h2
      refine cells_inj (h := h.push _) (fun p hp => ?_) (fun x y c a b => ?_) h1 h2
      · rw [Heap.size_push]
        rcases List.mem_cons.mp hp with rfl | hp
        · exact Nat.lt_succ_self _
        · exact Nat.lt_succ_of_lt (hl p hp)
      · rcases List.mem_cons.mp a with e | a <;> rcases List.mem_cons.mp b with e' | b
        · cases e; cases e'; rfl
        · cases e; exact absurd (hl _ b) (Nat.lt_irrefl _)
        · cases e'; exact absurd (hl _ a) (Nat.lt_irrefl _)
        · exact hi _ _ _ a b
    · rename_i hk
      rw [if_neg hk] at h2
      exact cells_inj hl hi h1 h2
theorem newEnv_comp {M : Model} {A : Around} {E : Value → Shared → Prop} {s : Shared} {scope : Scope} {globals : Addr} {closure : List (Str × Addr)} {qual : Str} {func : Option Addr} {code : Value} {around : Env} {builtins : Addr} {Q : Env → Shared → Prop}
    (h : Q (newEnv scope s.heap.objs.size globals (cellsFrom (s.heap.objs.size + 1) scope.names closure) qual func code (some around) builtins)
      { s with heap := pushCells (s.heap.push { cls := .type "dict", data := .dict #[] }) scope.names }) :
    wpAny M A (newFunctionEnv scope globals closure [] qual func code (some around) builtins) Q E s := by
  simp only [newFunctionEnv, Option.isSome_some, if_true]
  refine wpAny_bind (wpAny_alloc ?_)
  refine wpAny_bind (wpAny_layCells _ (fun n k c => rfl) scope.names closure _ _ ?_)
  rw [show ({ s with heap := s.heap.push { cls := .type "dict", data := .dict #[] } } : Shared).heap.objs.size = s.heap.objs.size + 1 from Heap.size_push ..]
  rw [List.forIn_nil]
  exact wpAny_bind (wpAny_pure (wpAny_pure h))
theorem lookup_relS {sc : Scope} : ∀ {names : List (Str × NameKind)} {x : Str} {k : NameKind},
    (names.map fun (n, k) => if (k == NameKind.free && sc.kind == .function && sc.names.lookup n == some .cell) then (n, NameKind.cell) else (n, k)).lookup x = some k →
    ∃ k', names.lookup x = some k' ∧ (k = k' ∨ (k' = .free ∧ k = .cell))
  | [], _, _, h => by simp at h
  | (n, k₀) :: r, x, k, h => by
    have ih := @lookup_relS sc r x k
    have h' : List.lookup x ((if (k₀ == NameKind.free && sc.kind == .function && sc.names.lookup n == some .cell) = true then (n, NameKind.cell) else (n, k₀)) :: (r.map _)) = some k := h
    cases hx : x == n with
    | true =>
      simp only [List.lookup_cons, hx]
      by_cases hc : (k₀ == NameKind.free && sc.kind == .function && sc.names.lookup n == some .cell) = true
      · rw [if_pos hc] at h'
        simp only [List.lookup_cons, hx] at h'
        cases h'
        simp only [Bool.and_eq_true, beq_iff_eq] at hc
        exact ⟨k₀, rfl, .inr ⟨hc.1.1, rfl⟩⟩
      · rw [if_neg hc] at h'
        simp only [List.lookup_cons, hx] at h'
        cases h'
        exact ⟨_, rfl, .inl rfl⟩
    | false =>
      simp only [List.lookup_cons, hx]
      by_cases hc : (k₀ == NameKind.free && sc.kind == .function && sc.names.lookup n == some .cell) = true
      · rw [if_pos hc] at h'
        simp only [List.lookup_cons, hx] at h'
        exact ih h'
      · rw [if_neg hc] at h'
        simp only [List.lookup_cons, hx] at h'
        exact ih h'
structure BlkOk (N : List Str) (sc scope : Scope) (own : List (Str × Nat)) : Prop where
  kind : scope.kind = .function
  uniq : ∀ y ∈ scope.names, scope.names.lookup y.1 = some y.2
  ix : ∀ p ∈ own, N[p.2]? = some p.1
  free : ∀ y ∈ scope.names, y.2 = .free → sc.names.lookup y.1 = some .cell ∨ sc.names.lookup y.1 = some .free
  own : ∀ y ∈ scope.names, y.2 = .local ∨ y.2 = .cell → y.1 ∈ own.map (·.1) ∨ y.1 ∉ N
def wipe (σ : St) : List Nat → St
  | [] => σ
  | v :: vs => (wipe σ vs).set v none
theorem wipe_length (σ : St) : ∀ vs : List Nat, (wipe σ vs).length = σ.length
  | [] => rfl
  | v :: vs => by unfold wipe; rw [List.length_set, wipe_length σ vs]
theorem wipe_some {σ : St} {i : Nat} {x : V} : ∀ {vs : List Nat}, (wipe σ vs)[i]? = some (some x) → σ[i]? = some (some x) ∧ i ∉ vs
  | [], h => ⟨h, by simp⟩
  | v :: vs, h => by
    unfold wipe at h
    by_cases hi : v = i
    · subst hi
      by_cases hv : v < (wipe σ vs).length
      · rw [List.getElem?_set_self hv] at h; cases h
      · rw [List.getElem?_eq_none (by simpa using hv)] at h; cases h
    · rw [List.getElem?_set_ne hi] at h
      obtain ⟨h1, h2⟩ := wipe_some h
      exact ⟨h1, by simp only [List.mem_cons, not_or]; exact ⟨fun e => hi e.symm, h2⟩⟩
abbrev Cx.blk (X : Cx) (s : Shared) (H : Hp) (scope : Scope) (cenv : Env) (fp : List Addr) : Cx := { X with s_0 := s, H_0 := H, env := cenv, outer := X.stack, ex := fp, fn := fun x => scope.names.lookup x == some .cell, pn := [], xe := fun _ _ => False }
section
variable {X : Cx} {pins : List (Addr × Obj)} {σ : St} {H : Hp} {s : Shared}
theorem block_start {scope : Scope} {own : List (Str × Nat)} {fp : List Addr} (I : Inv X pins σ H s) (ok : BlkOk X.N X.env.scope scope own) (hN : X.N.Nodup) (hfp : ∀ b ∈ fp, FpOk X pins H b ∧ b < s.heap.objs.size) :
    Inv (X.blk s H scope (compEnvC scope (cellsFrom (s.heap.objs.size + 1) scope.names (cloFrom X.env.cells scope.names [])) s.heap.objs.size X.env) fp) [] (wipe σ (own.map (·.2))) H { s with heap := pushCells (s.heap.push { cls := .type "dict", data := .dict #[] }) scope.names } := by
  have hfree : ∀ y ∈ scope.names, y.2 = .free → ∃ c, X.env.cells.lookup y.1 = some c := fun y hy e => by
    rcases ok.free y hy e with k | k
    · exact I.ok.has _ (.inl k)
    · exact I.ok.has _ (.inr k)
  generalize hcenv : compEnvC scope (cellsFrom (s.heap.objs.size + 1) scope.names (cloFrom X.env.cells scope.names [])) s.heap.objs.size X.env = cenv
  have kp : ∀ b o, s.heap.get? b = some o → (pushCells (s.heap.push { cls := .type "dict", data := .dict #[] }) scope.names).get? b = some o := fun b o e => pushCells_keeps _ _ _ _ (Heap.get?_push_of_some _ e)
  have hL : cenv.locals = s.heap.objs.size := by rw [← hcenv]; rfl
  have hcl : cenv.cells = cellsFrom (s.heap.objs.size + 1) scope.names (cloFrom X.env.cells scope.names []) := by rw [← hcenv]; rfl
  have hsc : cenv.scope = relS scope X.env.scope := by rw [← hcenv]; rfl
  rw [← Heap.size_push s.heap { cls := .type "dict", data := .dict #[] }] at hcl
  have cm : ∀ {y c}, (y, c) ∈ cloFrom X.env.cells scope.names [] → X.env.cells.lookup y = some c ∧ c < s.heap.objs.size := fun {y c} hm => by
    rcases cloFrom_mem hm with hm | ⟨h1, rfl⟩
    · cases hm
    · obtain ⟨c, hc⟩ := hfree _ h1 rfl
      rw [hc]
      obtain ⟨w, z⟩ := I.cell _ _ hc
      exact ⟨rfl, z.lt⟩
  have mem : ∀ {y c}, cenv.cells.lookup y = some c → (X.env.cells.lookup y = some c ∧ c < s.heap.objs.size) ∨ (s.heap.objs.size + 1 ≤ c ∧ CellAt (pushCells (s.heap.push { cls := .type "dict", data := .dict #[] }) scope.names) c none) := fun {y c} e => by
    rw [hcl] at e
    rcases cells_mem (PySem.mem_of_lookup e) with hm | ⟨_, h2, h3⟩
    · exact .inl (cm hm)
    · rw [Heap.size_push] at h2; exact .inr ⟨h2, h3⟩
  have look : ∀ {y}, scope.names.lookup y = some .free → ∃ c, cenv.cells.lookup y = some c ∧ X.env.cells.lookup y = some c := fun {y} hl => by
    have hy : (y, NameKind.free) ∈ scope.names := PySem.mem_of_lookup hl
    obtain ⟨c', e'⟩ := mem_lookup (cells_acc (names := scope.names) (n := (s.heap.push { cls := .type "dict", data := .dict #[] }).objs.size) (cloFrom_has (cells := X.env.cells) (acc := []) hy))
    rw [← hcl] at e'
    refine ⟨c', e', ?_⟩
    rw [hcl] at e'
    rcases cells_mem (PySem.mem_of_lookup e') with hm | ⟨h1, _, _⟩
    · exact (cm hm).1
    · have := ok.uniq _ h1
      rw [hl] at this; cases this
  have okB : (X.blk s H scope cenv fp).Ok := by
    refine ⟨I.ok.mod, by show cenv.scope.kind = _; rw [hsc]; exact ok.kind, by show cenv.globals = _; rw [← hcenv]; exact I.ok.glob, by show cenv.builtins = _; rw [← hcenv]; exact I.ok.blt, by show s.heap.objs.size ≤ cenv.locals; rw [hL]; exact Nat.le_refl _,
      fun y z c e1 e2 => ?_, fun y hy => ?_, fun y c z e => ?_, I.ok.hd, I.ok.frames, .inl rfl, fun b hb => ⟨?_, fun y c e z => ?_⟩, I.bs, Nat.le_trans I.ok.bsz I.sz, fun b o e hb => ?_, fun b hb z => ?_, I.stack, I.stkFree⟩
    · have e1 : cenv.cells.lookup y = some c := e1
      have e2 : cenv.cells.lookup z = some c := e2
      rw [hcl] at e1 e2
      refine cells_inj (fun p hp => ?_) (fun y z c a b => I.ok.inj y z c (cm a).1 (cm b).1) (PySem.mem_of_lookup e1) (PySem.mem_of_lookup e2)
      rw [Heap.size_push]
      exact Nat.lt_succ_of_lt (cm (y := p.1) (c := p.2) hp).2
    · show ∃ c, cenv.cells.lookup y = some c
      have key : ∀ k, cenv.kindOf y = some k → (k = .cell ∨ k = .free) → ∃ c, cenv.cells.lookup y = some c := fun k hk hk' => by
        unfold Env.kindOf at hk
        rw [hsc] at hk
        obtain ⟨k', e, r⟩ := lookup_relS hk
        have : k' = .cell ∨ k' = .free := by
          rcases r with rfl | ⟨rfl, _⟩
          · exact hk'
          · exact .inr rfl
        rcases this with rfl | rfl
        · obtain ⟨c, hm⟩ := cells_has (n := (s.heap.push { cls := .type "dict", data := .dict #[] }).objs.size) (acc := cloFrom X.env.cells scope.names []) (PySem.mem_of_lookup e)
          obtain ⟨c', e'⟩ := mem_lookup hm
          exact ⟨c', by rw [hcl]; exact e'⟩
        · obtain ⟨c, h1, _⟩ := look e
          exact ⟨c, h1⟩
      rcases hy with hy | hy
      · exact key _ hy (.inl rfl)
      · exact key _ hy (.inr rfl)
    · have z : (scope.names.lookup y == some NameKind.cell) = true := z
      have z : scope.names.lookup y = some .cell := by simpa using z
      have e : cenv.cells.lookup y = some c := e
      rw [hcl] at e
      rcases cells_mem (PySem.mem_of_lookup e) with hm | ⟨_, h2, _⟩
      · rcases cloFrom_mem hm with hm | ⟨h1, _⟩
        · cases hm
        · have q := ok.uniq _ h1
          rw [z] at q; cases q
      · rw [Heap.size_push] at h2
        exact Nat.le_of_succ_le h2
    · show b ≠ cenv.locals
      rw [hL]; exact Nat.ne_of_lt (hfp b hb).2
    · have e : cenv.cells.lookup y = some c := e
      rcases mem e with ⟨h1, _⟩ | ⟨h1, _⟩
      · exact (hfp b hb).1.2.2.2.2.1 y c h1 z
      · have h2 : s.heap.objs.size + 1 ≤ b := by rw [← z]; exact h1
        exact absurd (Nat.lt_of_lt_of_le (hfp b hb).2 (Nat.le_of_succ_le h2)) (Nat.lt_irrefl _)
    · rcases (hfp b hb).1.2.2.2.1 with z | z
      · exact I.ok.noex b o e z
      · exact absurd (Nat.lt_of_lt_of_le (Heap.lt_size e) (Nat.le_trans I.ok.bsz z)) (Nat.lt_irrefl _)
    · rcases List.mem_cons.mp (I.stkSub b z) with z | z
      · exact (hfp b hb).1.2.1 z
      · exact (hfp b hb).1.2.2.1 z
  refine ⟨okB, rfl, I.bare, Un.kept kp, ⟨fun _ => none, ?_, fun i y av e1 e2 e3 => ?_⟩, fun y c e => ?_, ?_, fun y c e => ?_, fun p hp => ?_, I.hok.kept kp, by rw [wipe_length]; exact I.len⟩
  · show Heap.Ns _ cenv.locals _
    rw [hL]
    exact Heap.Ns.keeps (Heap.Ns.new ..) fun b o e => pushCells_keeps _ _ _ _ e
  · obtain ⟨e2, hne⟩ := wipe_some e2
    have hfr : scope.names.lookup y = some .free ∧ (cenv.kindOf y = some .cell ∨ cenv.kindOf y = some .free) := by
      have key : ∀ k, cenv.scope.names.lookup y = some k → k = .local ∨ k = .cell ∨ k = .free → scope.names.lookup y = some .free ∧ (cenv.kindOf y = some .cell ∨ cenv.kindOf y = some .free) := fun k hk hk' => by
        have hk0 := hk
        rw [hsc] at hk
        obtain ⟨k', e, r⟩ := lookup_relS hk
        have no : ¬ (k' = .local ∨ k' = .cell) := fun hh => by
          rcases ok.own _ (PySem.mem_of_lookup e) hh with e' | e'
          · obtain ⟨p, hp, hpy⟩ := List.mem_map.mp e'
            have e3 := ok.ix p hp
            have : p.1 = y := hpy
            rw [this] at e3
            exact hne (List.mem_map.mpr ⟨p, hp, nodup_ix hN e3 e1⟩)
          · exact e' (List.mem_of_getElem? e1)
        rcases r with rfl | ⟨rfl, rfl⟩
        · rcases hk' with rfl | rfl | rfl
          · exact absurd (.inl rfl) no
          · exact absurd (.inr rfl) no
          · exact ⟨e, .inr hk0⟩
        · exact ⟨e, .inl hk0⟩
      have e3 : Vis cenv.scope y := e3
      rcases e3 with e3 | e3 | e3
      · exact key _ e3 (.inl rfl)
      · exact key _ e3 (.inr (.inl rfl))
      · exact key _ e3 (.inr (.inr rfl))
    obtain ⟨m, hn, hl⟩ := I.loc
    have hvis : Vis X.env.scope y := (ok.free _ (PySem.mem_of_lookup hfr.1) rfl).elim (fun k => .inr (.inl k)) (fun k => .inr (.inr k))
    obtain ⟨w, r, q⟩ := hl i y av e1 e2 hvis
    refine ⟨w, r, .inr ⟨hfr.2, ?_⟩⟩
    obtain ⟨c, h1, h2⟩ := look hfr.1
    rcases q with ⟨k, _⟩ | ⟨_, c', e', z⟩
    · have k : X.env.scope.names.lookup y = some .local := k
      rcases ok.free _ (PySem.mem_of_lookup hfr.1) rfl with k' | k' <;> rw [show X.env.scope.names.lookup y = _ from k'] at k <;> cases k
    · rw [h2] at e'; cases e'
      exact ⟨c, h1, z.keeps kp⟩
  · have e : cenv.cells.lookup y = some c := e
    rcases mem e with ⟨h1, _⟩ | ⟨_, z⟩
    · obtain ⟨w, z⟩ := I.cell y c h1
      exact ⟨w, z.keeps kp⟩
    · exact ⟨_, z⟩
  · show H cenv.locals = none
    rw [hL]; exact I.hok.fresh (Nat.le_refl _)
  · have e : cenv.cells.lookup y = some c := e
    rcases mem e with ⟨h1, _⟩ | ⟨h1, _⟩
    · exact I.freeC y c h1
    · exact I.hok.fresh (Nat.le_of_succ_le h1)
  · exact absurd (show p ∈ ([] : List (Addr × Obj)) ++ [] from hp) (by simp)
theorem app_ok {E : Value → Shared → Prop} {D : Addr} {xs : List V} {y : V} {v : Value} {Q : Value → Shared → Prop} (I : Inv X pins σ H s) (hD : H D = some (.lst xs)) (hz : xs.length < sizeLine) (r : RelV y v)
    (h : ∀ s', Inv X pins σ (upd H D (.lst (xs ++ [y]))) s' → Q .none s') : wpAny (model X.prog X.w) X.A (call (.builtin "list.append") [.ref D, v]) Q E s := by
  obtain ⟨hz', its, n, ri, e⟩ := I.hok D _ hD
  have hl := ri.length
  refine append_at (hsz := by rw [List.size_toArray]; omega) e fun h' sb ho' => ?_
  refine h { s with heap := h' } (I.write (t' := s.toks) (by rw [hD]; trivial) (.inl rfl) (fun b u hb q => (sb.2 b hb).trans q) ⟨_, ho'⟩ ⟨by rw [List.length_append]; exact hz, its ++ [v], n + 1, ri.append (.cons r .nil), ?_⟩)
  rw [ho']
  simp
def PTs (X : Cx) (ifs : List Expr) (t : TT) : Prop :=
  ∀ (pins : List (Addr × Obj)) (s : Shared) (σ : St) (H : Hp) (Q : Bool → Hp → Prop), Inv X pins σ H s → t σ H Q →
    wpAny (model X.prog X.w) X.A (forIn ifs true fun c r => if r = true then do let ok ← isTrue c X.env (eval c X.env); pure (ForInStep.yield ok) else pure (ForInStep.yield r)) (TP X pins σ Q) X.xe s
def tYes : TT := fun _ H Q => Q true H
theorem pts_nil : PTs X [] tYes := fun _ _ _ H _ I h => wpAny_tests_nil ⟨H, I, h⟩
theorem pts_one {c : Expr} {t : TT} (h : PT X c t) : PTs X [c] t := fun pins s σ H Q I hw => wpAny_tests_one (h pins s σ H Q I hw)
end
theorem thnF {α : Type} {t : Sem α} {Q Q' : α → Shared → Prop} {M : Model} {A : Around} {E : Value → Shared → Prop} {s : Shared} (h : wpAny M A t Q (fun _ _ => False) s) (hQ : ∀ a s, Q a s → Q' a s) : wpAny M A t Q' E s := wpAny_mono h hQ fun _ _ z => False.elim z
theorem compLoop_any {prog : Program} {w : World} {A : Around} {R : Result → Shared → Prop} {s : Shared} {elt target iter : Expr} {ifs : List Expr} {scope : Scope} {pos : Pos} {it acc : Value} {env : Env} (I : Nat → Shared → Prop)
    (turn : ∀ n s, I n s → wpAny (model prog w) A (pyNext it) (fun r s₁ => match r with
      | none => R (.ok .next) s₁
      | some v => wpAny (model prog w) A (letOwnedTupleGo target it v) (fun _ s₁' => wpAny (model prog w) A (assign target env v) (fun _ s₂ =>
          wpAny (model prog w) A (forIn ifs true fun c r => if r = true then do let ok ← isTrue c env (eval c env); pure (ForInStep.yield ok) else pure (ForInStep.yield r)) (fun ok s₃ =>
            if ok = true then wpAny (model prog w) A (eval elt env) (fun x s₄ =>
              wpAny (model prog w) A (call (.builtin "list.append") [acc, x]) (fun _ s₅ => ∃ m, m < n ∧ I m s₅) (notedBy (model prog w) A env fun e s' => R (.error e) s') s₄) (notedBy (model prog w) A env fun e s' => R (.error e) s') s₃
            else ∃ m, m < n ∧ I m s₃) (notedBy (model prog w) A env fun e s' => R (.error e) s') s₂) (notedBy (model prog w) A env fun e s' => R (.error e) s') s₁') (notedBy (model prog w) A env fun e s' => R (.error e) s') s₁) (notedBy (model prog w) A env fun e s' => R (.error e) s') s)
    (n : Nat) (h : I n s) :
    codeAny (model prog w) A (.compLoop (.ListComp elt [⟨target, iter, ifs, 0⟩] scope pos) 0 it acc env) R s := by
  refine codeAny_loop rfl I (fun n s hI => ?_) n h
  show wpAny _ A ((compTurn (.ListComp elt [⟨target, iter, ifs, 0⟩] scope pos) 0 it acc env).onRaise (fun x => do noteFrame x env; theTreesLotGoes x)) _ _ s
  refine wpAny_noted ?_
  rw [compTurn_list]
  refine wpAny_bind (wpAny_standAt (wpAny_bind (wpAny_mono (turn n s hI) (fun r s₁ h₁ => ?_) fun _ _ h' => h')))
  cases r with
  | none => exact wpAny_pure h₁
  | some v =>
    refine wpAny_bind (wpAny_mono h₁ (fun _ s₁' h₁' => ?_) fun _ _ h' => h')
    refine wpAny_bind (wpAny_mono h₁' (fun _ s₂ h₂ => wpAny_bind (wpAny_mono h₂ (fun ok s₃ h₃ => ?_) fun _ _ h' => h')) fun _ _ h' => h')
    cases ok with
    | false => exact wpAny_pure ⟨rfl, h₃⟩
    | true =>
      exact wpAny_bind (wpAny_bind (wpAny_mono h₃ (fun x s₄ h₄ => wpAny_bind (wpAny_mono h₄ (fun _ s₅ h₅ => wpAny_pure (wpAny_pure ⟨rfl, h₅⟩)) fun _ _ h' => h')) fun _ _ h' => h'))
section
variable {X : Cx}
def tLc (wi : TI) (g : TG) (tt : TT) (te : TE) (vs : List Nat) : TE := fun σ H Q => wi σ H fun J H1 => ∀ D, H1 D = none → ∃ W : Nat → Nat → Hp → Prop, (∃ m, W 0 m (upd H1 D (.lst []))) ∧ ∀ i m H, W i m H →
  (J.stop i H ∧ Q (.ref D) H) ∨ (J.go i H ∧ ∃ Nx : Hp → Prop, (∀ H', Nx H' → ∃ m', m' < m ∧ W (i + 1) m' H') ∧ ∀ x H', J.yld i H x H' → g x (wipe σ vs) H' fun σ2 H2 => wipe σ2 vs = wipe σ vs ∧ tt σ2 H2 fun b H3 =>
    if b = true then te σ2 H3 fun y H4 => ∃ acc, H4 D = some (.lst acc) ∧ acc.length < sizeLine ∧ Nx (upd H4 D (.lst (acc ++ [y]))) else Nx H3)
theorem lc_core {pins : List (Addr × Obj)} {s : Shared} {σ : St} {H : Hp} {Q : VK} {elt tg iter : Expr} {ifs : List Expr} {scope : Scope} {own : List (Str × Nat)} {pos pos' : Pos} {wi : TI} {g : TG} {tt : TT} {te : TE} {use : Option (Value → Sem Unit)} {Qf : Value → Shared → Prop}
    (hc : X.calm = true) (hN : X.N.Nodup) (I : Inv X pins σ H s) (hi : PI X tg iter wi) (ok : BlkOk X.N X.env.scope scope own)
    (hg : ∀ (s : Shared) (H : Hp) (C : Addr) (cl : List (Str × Addr)) (fp : List Addr), PG (X.blk s H scope (compEnvC scope cl C X.env) fp) tg g) (ht : ∀ (s : Shared) (H : Hp) (C : Addr) (cl : List (Str × Addr)) (fp : List Addr), PTs (X.blk s H scope (compEnvC scope cl C X.env) fp) ifs tt)
    (he : ∀ (s : Shared) (H : Hp) (C : Addr) (cl : List (Str × Addr)) (fp : List Addr), PE (X.blk s H scope (compEnvC scope cl C X.env) fp) elt te) (hs : ∀ x, foldedSetIterable iter X.env x = pure x)
    (h : tLc wi g tt te (own.map (·.2)) σ H Q)
    (hRR : ∀ D C s' m H', Inv X pins σ H' s' → Q (.ref D) H' → s'.heap.Ns C m → FpOk X pins H' C → compPost (model X.prog X.w) X.A X.xe use Qf (.ref D) C (.ok .next) s') :
    wpAny (model X.prog X.w) X.A (comprehension (.ListComp elt [⟨tg, iter, ifs, 0⟩] scope pos) scope X.env pos' (newList []) false (eval iter X.env) use) Qf X.xe s := by
  have hfree : ∀ y ∈ scope.names, y.2 = .free → ∃ c, X.env.cells.lookup y.1 = some c := fun y hy e => by
    rcases ok.free y hy e with k | k
    · exact I.ok.has _ (.inl k)
    · exact I.ok.has _ (.inr k)
  refine wpAny_comprehension_free (use := use) rfl hs (closure_ok hfree) ok.kind (fun y hy e => by rw [ok.uniq y hy, e])
    (thn (hi pins s σ H _ I h) fun xv s1 hx => thn hx fun itv s2 h2 => ?_)
  obtain ⟨it, fp, tn, J, H2, e, I2, T, st2, f2, q⟩ := h2
  subst e
  refine wpAny_newObj_type (newEnv_comp ?_) (by show 0 ≤ sizeLine; decide)
  generalize hD : s2.heap.objs.size = D
  have hDn : H2 D = none := I2.hok.fresh (Nat.le_of_eq hD)
  obtain ⟨W, ⟨m0, w0⟩, turn⟩ := q D hDn
  generalize hs3 : ({ s2 with heap := s2.heap.push { cls := .type "list", data := .seq ([] : List Value).toArray } } : Shared) = s3
  have I3 : Inv X pins σ (upd H2 D (.lst [])) s3 := by
    rw [← hs3]
    refine I2.laid (t' := s2.toks) (fun b o e => Heap.get?_push_of_some _ e) (Nat.le_of_eq hD) ⟨Nat.zero_le _, [], 0, .nil, ?_⟩
    rw [← hD]
    exact Heap.get?_push_size _ rfl
  have h3 : s3.heap = s2.heap.push { cls := .type "list", data := .seq ([] : List Value).toArray } := by rw [← hs3]
  have sz : ∀ b ∈ fp, b < s2.heap.objs.size := fun b hb => by
    obtain ⟨o, e, _⟩ := T.obj _ _ st2 b hb
    exact Heap.lt_size e
  have f3 : ∀ b ∈ fp, FpOk X pins (upd H2 D (.lst [])) b ∧ b < s3.heap.objs.size := fun b hb => by
    have hlt := sz b hb
    refine ⟨⟨?_, (f2 b hb).2⟩, by rw [h3, Heap.size_push]; exact Nat.lt_succ_of_lt hlt⟩
    rw [upd_ne (by rw [← hD]; exact Nat.ne_of_lt hlt)]
    exact (f2 b hb).1
  have st3 : tn 0 s3.heap := T.keep _ _ _ st2 fun b _ o e => by rw [h3]; exact Heap.get?_push_of_some _ e
  have I4 := block_start I3 ok hN f3
  have pg := hg s3 (upd H2 D (.lst [])) s3.heap.objs.size (cellsFrom (s3.heap.objs.size + 1) scope.names (cloFrom X.env.cells scope.names [])) fp
  have pt := ht s3 (upd H2 D (.lst [])) s3.heap.objs.size (cellsFrom (s3.heap.objs.size + 1) scope.names (cloFrom X.env.cells scope.names [])) fp
  have pe := he s3 (upd H2 D (.lst [])) s3.heap.objs.size (cellsFrom (s3.heap.objs.size + 1) scope.names (cloFrom X.env.cells scope.names [])) fp
  show codeAny _ _ (.compStart (.ListComp elt [⟨tg, iter, ifs, 0⟩] scope pos) 0 (.ref it) (.ref D) (compEnvC scope (cellsFrom (s3.heap.objs.size + 1) scope.names (cloFrom X.env.cells scope.names [])) s3.heap.objs.size X.env)) (compPost (model X.prog X.w) X.A X.xe use Qf (.ref D) s3.heap.objs.size) { s3 with heap := pushCells (s3.heap.push { cls := .type "dict", data := .dict #[] }) scope.names }
  have nfp : ∀ b ∈ fp, (upd H2 D (.lst [])) b = none := fun b hb => (f3 b hb).1.1
  generalize hce : compEnvC scope (cellsFrom (s3.heap.objs.size + 1) scope.names (cloFrom X.env.cells scope.names [])) s3.heap.objs.size X.env = ce at I4 pg pt pe ⊢
  have cL : ce.locals = s3.heap.objs.size := by subst hce; rfl
  generalize hH3 : upd H2 D (.lst []) = H3 at I3 I4 pg pt pe w0 nfp f3
  generalize hs4 : ({ s3 with heap := pushCells (s3.heap.push { cls := .type "dict", data := .dict #[] }) scope.names } : Shared) = s4 at I4 ⊢
  have st4 : tn 0 s4.heap := T.keep _ _ _ st3 fun b _ o e => by rw [← hs4]; exact pushCells_keeps _ _ _ _ (Heap.get?_push_of_some _ e)
  have stat : ∀ {σ' : St} {H' : Hp} {s' : Shared}, Inv (X.blk s3 H3 scope ce fp) [] σ' H' s' → (∀ b ∈ fp, H' b = none) → ∀ b ∈ fp, FpOk (X.blk s3 H3 scope ce fp) [] H' b := fun {σ' H' s'} I' hn b hb =>
    ⟨hn b hb, (I'.ok.exf b hb).1, I'.ok.exfs b hb, .inl hb, fun x c e => (I'.ok.exf b hb).2 x c e, fun p hp => absurd (show p ∈ ([] : List (Addr × Obj)) ++ [] from hp) (by simp)⟩
  have loop : codeAny (model X.prog X.w) X.A (.compLoop (.ListComp elt [⟨tg, iter, ifs, 0⟩] scope pos) 0 (.ref it) (.ref D) ce) (compPost (model X.prog X.w) X.A X.xe use Qf (.ref D) s3.heap.objs.size) s4 := by
    refine compLoop_any (fun n s' => ∃ i H', Inv (X.blk s3 H3 scope ce fp) [] (wipe σ (own.map (·.2))) H' s' ∧ tn i s'.heap ∧ (∀ b ∈ fp, H' b = none) ∧ W i n H') ?_ m0 ⟨0, H3, I4, st4, nfp, w0⟩
    rintro n s5 ⟨i, H5, I5, st5, n5, w5⟩
    rcases turn i n H5 w5 with ⟨stop, qq⟩ | ⟨go, Nx, hNx, step⟩
    · have td := T.done (X.blk s3 H3 scope ce fp) rfl rfl rfl hc i [] s5 _ H5 (fun _ _ => False) I5 (stat I5 n5) st5 stop
      refine thnF td fun r s6 ⟨hr, I6⟩ => ?_
      subst hr
      have I7 : Inv X pins σ H5 s6 := I3.call' (ch := fp) I6.os I6.base I6.hok I6.bare fun b hb => ⟨(f3 b hb).1.2.2.2.1, (f3 b hb).1.2.1, (f3 b hb).1.2.2.2.2.1, (f3 b hb).1.2.2.2.2.2⟩
      have nC : H5 s3.heap.objs.size = none := by
        have z : H5 ce.locals = none := I6.free
        rw [cL] at z
        exact z
      obtain ⟨m, hn, _⟩ := I6.loc
      have hn : s6.heap.Ns ce.locals m := hn
      rw [cL] at hn
      exact hRR D s3.heap.objs.size s6 m H5 I7 qq hn (I3.fpOk (Nat.le_refl _) nC)
    · have ti := T.item (X.blk s3 H3 scope ce fp) rfl rfl rfl hc i [] s5 _ H5 (fun _ _ => False) I5 (stat I5 n5) st5 go
      refine thnF ti fun r s6 ⟨u, hr, h6⟩ => ?_
      subst hr
      refine thnF h6 fun _ s7 ⟨x, H7, I7, r7, y7, st7, n7⟩ => ?_
      have I7' := I7.pinned (stat I7 n7) (T.obj _ _ st7)
      refine thnF (pg _ s7 _ H7 x u _ I7' r7 (step x H7 y7)) fun _ s8 ⟨σ8, H8, I8, hw8, q8⟩ => ?_
      refine thnF (pt _ s8 σ8 H8 _ I8 q8) fun b s9 ⟨H9, I9, q9⟩ => ?_
      have fin : ∀ {s' : Shared} {H' : Hp}, Inv (X.blk s3 H3 scope ce fp) ([] ++ pinsAt fp s7.heap) σ8 H' s' → Nx H' → ∃ m, m < n ∧ ∃ i H', Inv (X.blk s3 H3 scope ce fp) [] (wipe σ (own.map (·.2))) H' s' ∧ tn i s'.heap ∧ (∀ b ∈ fp, H' b = none) ∧ W i m H' := fun {s' H'} I' nx => by
        obtain ⟨m', hm, w'⟩ := hNx H' nx
        have pin' : ∀ b ∈ fp, ∀ o, s7.heap.get? b = some o → s'.heap.get? b = some o ∧ H' b = none := fun b hb o e =>
          let z := I'.pin (b, o) (List.mem_append_right _ (List.mem_append_right _ (mem_pinsAt hb e)))
          ⟨z.1, z.2.1⟩
        have hl : (wipe σ (own.map (·.2))).length = σ8.length := by rw [← hw8, wipe_length]
        refine ⟨m', hm, i + 1, H', (I'.unpinned (pins := [])).weak hl (fun j v e => ?_), T.keep _ _ _ st7 fun b hb o e => (pin' b hb o e).1, fun b hb => ?_, w'⟩
        · rw [← hw8] at e
          exact (wipe_some e).1
        · obtain ⟨o, e, _⟩ := T.obj _ _ st7 b hb
          exact (pin' b hb o e).2
      cases b with
      | false =>
        simp only [Bool.false_eq_true, if_false] at q9 ⊢
        exact fin I9 q9
      | true =>
        simp only [if_true] at q9 ⊢
        refine thnF (pe _ s9 σ8 H9 _ I9 q9) fun z s10 ⟨yv, H10, I10, r10, acc, hD10, hz10, nx⟩ => ?_
        exact app_ok (X := X.blk s3 H3 scope ce fp) I10 hD10 hz10 r10 fun s11 I11 => fin I11 nx
  exact codeAny_compStart_list loop (T.self X.A 0 _ _ _ st4 loop)
theorem pe_lc {elt tg iter : Expr} {ifs : List Expr} {scope : Scope} {own : List (Str × Nat)} {pos : Pos} {wi : TI} {g : TG} {tt : TT} {te : TE} (hc : X.calm = true) (hN : X.N.Nodup) (hi : PI X tg iter wi) (ok : BlkOk X.N X.env.scope scope own)
    (hg : ∀ (s : Shared) (H : Hp) (C : Addr) (cl : List (Str × Addr)) (fp : List Addr), PG (X.blk s H scope (compEnvC scope cl C X.env) fp) tg g) (ht : ∀ (s : Shared) (H : Hp) (C : Addr) (cl : List (Str × Addr)) (fp : List Addr), PTs (X.blk s H scope (compEnvC scope cl C X.env) fp) ifs tt)
    (he : ∀ (s : Shared) (H : Hp) (C : Addr) (cl : List (Str × Addr)) (fp : List Addr), PE (X.blk s H scope (compEnvC scope cl C X.env) fp) elt te) (hs : ∀ x, foldedSetIterable iter X.env x = pure x := by intro _; rfl) :
    PE X (.ListComp elt [⟨tg, iter, ifs, 0⟩] scope pos) (tLc wi g tt te (own.map (·.2))) := by
  intro pins s σ H Q I h
  rw [eval_ListComp]
  refine lc_core hc hN I hi ok hg ht he hs h fun D C s' m H' I' q hn f => ⟨m, hn, fun h'' sb => ?_⟩
  obtain ⟨f0, f1, f2, f3, f4, f5⟩ := f
  exact ⟨.ref D, H', I'.turned (t' := s'.toks) (fun b o hb e => (sb.2 b hb).trans e) f0 f1 f3 f4 f5, rfl, q⟩
theorem ps_setLc {i : Nat} {y : Str} {py : Pos} {elt tg iter : Expr} {ifs : List Expr} {scope : Scope} {own : List (Str × Nat)} {pos spos : Pos} {wi : TI} {g : TG} {tt : TT} {te : TE} (hc : X.calm = true) (hN : X.N.Nodup) (hy : X.N[i]? = some y) (hyl : X.env.scope.names.lookup y = some .local)
    (hsw : swapsWith (.ListComp elt [⟨tg, iter, ifs, 0⟩] scope pos) (some (.Name y py)) spos.line X.env = pure true) (hi : PI X tg iter wi) (ok : BlkOk X.N X.env.scope scope own)
    (hg : ∀ (s : Shared) (H : Hp) (C : Addr) (cl : List (Str × Addr)) (fp : List Addr), PG (X.blk s H scope (compEnvC scope cl C X.env) fp) tg g) (ht : ∀ (s : Shared) (H : Hp) (C : Addr) (cl : List (Str × Addr)) (fp : List Addr), PTs (X.blk s H scope (compEnvC scope cl C X.env) fp) ifs tt)
    (he : ∀ (s : Shared) (H : Hp) (C : Addr) (cl : List (Str × Addr)) (fp : List Addr), PE (X.blk s H scope (compEnvC scope cl C X.env) fp) elt te) (hs : ∀ x, foldedSetIterable iter X.env x = pure x := by intro _; rfl) :
    PS X (.Assign [.Name y py] (.ListComp elt [⟨tg, iter, ifs, 0⟩] scope pos) spos) (tAsg (tLc wi g tt te (own.map (·.2))) (gName i)) := by
  intro pins s σ H D I h
  rw [exec_Assign_Name_used _ _ _ _ hsw]
  refine wpAny_bind (wpAny_standAt (wpAny_bind ?_))
  show wpAny _ X.A (do let _ ← comprehension (.ListComp elt [⟨tg, iter, ifs, 0⟩] scope pos) scope X.env (firstIterPos [⟨tg, iter, ifs, 0⟩] pos) (newList []) false (eval iter X.env) (some (assign (.Name y py) X.env))) _ _ s
  have h : tLc wi g tt te (own.map (·.2)) σ H (fun x H1 => gName i x σ H1 D.nx) := h
  refine wpAny_bind (thn (lc_core (Qf := fun _ s' => SP X pins D .next s') hc hN I hi ok hg ht he hs h fun L C s' m H' I' q hn f => ?_) fun _ s' hq => wpAny_pure (wpAny_pure hq))
  show wpAny _ _ (assign (.Name y py) X.env (.ref L)) _ _ _
  refine wpAny_assign_Name (store_ok2 (v := V.ref L) I' hN hy (.inl hyl) rfl (fun s2 I2 ⟨a, sb, ha⟩ => ?_) (.inr hyl))
  obtain ⟨f0, f1, f2, f3, f4, f5⟩ := f
  have haC : C ≠ a := by
    rcases ha with z | z
    · rw [z]; exact f1
    · exact fun e => f4 y a z e.symm
  refine ⟨m, hn.sameBut sb haC, fun h3 sb3 => ?_⟩
  exact ⟨_, H', I2.turned (t' := s2.toks) (fun b o hb e => (sb3.2 b hb).trans e) f0 f1 f3 f4 f5, q⟩
end
theorem lc_range {lo : Int} {n : Nat} {g : TG} {tt : TT} {te : TE} {vs : List Nat} {σ : St} {H1 : Hp} {D : Addr} {Qd : Hp → Prop} (Pv : Nat → Hp → Prop) (h0 : Pv 0 (upd H1 D (.lst [])))
    (hs : ∀ i H, i < n → Pv i H → g (.int (lo + i)) (wipe σ vs) H fun σ2 H2 => wipe σ2 vs = wipe σ vs ∧ tt σ2 H2 fun b H3 =>
      if b = true then te σ2 H3 fun y H4 => ∃ acc, H4 D = some (.lst acc) ∧ acc.length < sizeLine ∧ Pv (i + 1) (upd H4 D (.lst (acc ++ [y]))) else Pv (i + 1) H3) (hd : ∀ H, Pv n H → Qd H) :
    ∃ W : Nat → Nat → Hp → Prop, (∃ m, W 0 m (upd H1 D (.lst []))) ∧ ∀ i m H, W i m H →
      ((Itr lo n).stop i H ∧ Qd H) ∨ ((Itr lo n).go i H ∧ ∃ Nx : Hp → Prop, (∀ H', Nx H' → ∃ m', m' < m ∧ W (i + 1) m' H') ∧ ∀ x H', (Itr lo n).yld i H x H' → g x (wipe σ vs) H' fun σ2 H2 => wipe σ2 vs = wipe σ vs ∧ tt σ2 H2 fun b H3 =>
        if b = true then te σ2 H3 fun y H4 => ∃ acc, H4 D = some (.lst acc) ∧ acc.length < sizeLine ∧ Nx (upd H4 D (.lst (acc ++ [y]))) else Nx H3) := by
  refine ⟨fun i m H => m = n - i ∧ i ≤ n ∧ Pv i H, ⟨n, by simp, Nat.zero_le _, h0⟩, ?_⟩
  rintro i m H ⟨rfl, hi, p⟩
  by_cases hlt : i < n
  · refine .inr ⟨hlt, Pv (i + 1), fun H' p' => ⟨n - (i + 1), by omega, rfl, hlt, p'⟩, fun x H' y => ?_⟩
    obtain ⟨e, y⟩ := y
    subst e y
    exact hs i _ hlt p
  · have e : i = n := by omega
    subst e
    exact .inl ⟨Nat.le_refl _, hd H p⟩
theorem lc_list {K : PySem.W.Frag} {a : Addr} {xs : List V} {g : TG} {tt : TT} {te : TE} {vs : List Nat} {σ : St} {H1 : Hp} {D : Addr} {Qd : Hp → Prop} (Pv : Nat → Hp → Prop) (h0 : Pv 0 (upd H1 D (.lst []))) (hl : ∀ i H, i ≤ xs.length → Pv i H → SqL K H a xs)
    (hs : ∀ i x H, xs[i]? = some x → Pv i H → g x (wipe σ vs) H fun σ2 H2 => wipe σ2 vs = wipe σ vs ∧ tt σ2 H2 fun b H3 =>
      if b = true then te σ2 H3 fun y H4 => ∃ acc, H4 D = some (.lst acc) ∧ acc.length < sizeLine ∧ Pv (i + 1) (upd H4 D (.lst (acc ++ [y]))) else Pv (i + 1) H3) (hd : ∀ H, Pv xs.length H → Qd H) :
    ∃ W : Nat → Nat → Hp → Prop, (∃ m, W 0 m (upd H1 D (.lst []))) ∧ ∀ i m H, W i m H →
      ((Itl K a).stop i H ∧ Qd H) ∨ ((Itl K a).go i H ∧ ∃ Nx : Hp → Prop, (∀ H', Nx H' → ∃ m', m' < m ∧ W (i + 1) m' H') ∧ ∀ x H', (Itl K a).yld i H x H' → g x (wipe σ vs) H' fun σ2 H2 => wipe σ2 vs = wipe σ vs ∧ tt σ2 H2 fun b H3 =>
        if b = true then te σ2 H3 fun y H4 => ∃ acc, H4 D = some (.lst acc) ∧ acc.length < sizeLine ∧ Nx (upd H4 D (.lst (acc ++ [y]))) else Nx H3) := by
  refine ⟨fun i m H => m = xs.length - i ∧ i ≤ xs.length ∧ Pv i H, ⟨xs.length, by simp, Nat.zero_le _, h0⟩, ?_⟩
  rintro i m H ⟨rfl, hi, p⟩
  have q := hl i H hi p
  by_cases hlt : i < xs.length
  · refine .inr ⟨⟨xs, xs[i], q, by simp [hlt]⟩, Pv (i + 1), fun H' p' => ⟨xs.length - (i + 1), by omega, rfl, hlt, p'⟩, fun x H' y => ?_⟩
    obtain ⟨e, y⟩ := y
    subst e
    exact hs i x _ (y xs q) p
  · have e : i = xs.length := by omega
    subst e
    exact .inl ⟨⟨xs, q, Nat.le_refl _⟩, hd H p⟩
theorem lc_tup {K : PySem.W.Frag} {a : Addr} {xs : List V} {g : TG} {tt : TT} {te : TE} {vs : List Nat} {σ : St} {H1 : Hp} {D : Addr} {Qd : Hp → Prop} (Pv : Nat → Hp → Prop) (h0 : Pv 0 (upd H1 D (.lst []))) (hl : ∀ i H, i ≤ xs.length → Pv i H → SqT K H a xs)
    (hs : ∀ i x H, xs[i]? = some x → Pv i H → g x (wipe σ vs) H fun σ2 H2 => wipe σ2 vs = wipe σ vs ∧ tt σ2 H2 fun b H3 =>
      if b = true then te σ2 H3 fun y H4 => ∃ acc, H4 D = some (.lst acc) ∧ acc.length < sizeLine ∧ Pv (i + 1) (upd H4 D (.lst (acc ++ [y]))) else Pv (i + 1) H3) (hd : ∀ H, Pv xs.length H → Qd H) :
    ∃ W : Nat → Nat → Hp → Prop, (∃ m, W 0 m (upd H1 D (.lst []))) ∧ ∀ i m H, W i m H →
      ((Itt K a).stop i H ∧ Qd H) ∨ ((Itt K a).go i H ∧ ∃ Nx : Hp → Prop, (∀ H', Nx H' → ∃ m', m' < m ∧ W (i + 1) m' H') ∧ ∀ x H', (Itt K a).yld i H x H' → g x (wipe σ vs) H' fun σ2 H2 => wipe σ2 vs = wipe σ vs ∧ tt σ2 H2 fun b H3 =>
        if b = true then te σ2 H3 fun y H4 => ∃ acc, H4 D = some (.lst acc) ∧ acc.length < sizeLine ∧ Nx (upd H4 D (.lst (acc ++ [y]))) else Nx H3) := by
  refine ⟨fun i m H => m = xs.length - i ∧ i ≤ xs.length ∧ Pv i H, ⟨xs.length, by simp, Nat.zero_le _, h0⟩, ?_⟩
  rintro i m H ⟨rfl, hi, p⟩
  have q := hl i H hi p
  by_cases hlt : i < xs.length
  · refine .inr ⟨⟨xs, xs[i], q, by simp [hlt]⟩, Pv (i + 1), fun H' p' => ⟨xs.length - (i + 1), by omega, rfl, hlt, p'⟩, fun x H' y => ?_⟩
    obtain ⟨e, y⟩ := y
    subst e
    exact hs i x _ (y xs q) p
  · have e : i = xs.length := by omega
    subst e
    exact .inl ⟨⟨xs, q, Nat.le_refl _⟩, hd H p⟩
def blkC (N : List Str) (sc scope : Scope) (own : List (Str × Nat)) : Bool :=
  (match scope.kind with | .function => true | _ => false) && (scope.names.all fun y => decide (scope.names.lookup y.1 = some y.2)) && (own.all fun p => decide (N[p.2]? = some p.1)) &&
    (scope.names.all fun y => match y.2 with
      | .free => (match sc.names.lookup y.1 with | some .cell => true | some .free => true | _ => false)
      | .local => decide (y.1 ∈ own.map (·.1)) || decide (y.1 ∉ N)
      | .cell => decide (y.1 ∈ own.map (·.1)) || decide (y.1 ∉ N)
      | _ => true)
theorem blkOk_by {N : List Str} {sc scope : Scope} {own : List (Str × Nat)} (h : blkC N sc scope own = true) : BlkOk N sc scope own := by
  unfold blkC at h
  simp only [Bool.and_eq_true, List.all_eq_true, decide_eq_true_eq] at h
  obtain ⟨⟨⟨h1, h2⟩, h3⟩, h4⟩ := h
  refine ⟨?_, h2, h3, fun y hy e => ?_, fun y hy e => ?_⟩
  · split at h1
    · assumption
    · cases h1
  · have q := h4 y hy
    simp only [e] at q
    split at q <;> first | exact .inl (by assumption) | exact .inr (by assumption) | cases q
  · have q := h4 y hy
    rcases e with e | e <;> (simp only [e, Bool.or_eq_true, decide_eq_true_eq] at q; exact q)
end L2
namespace L2
open PySem PySem.Spec PyProof.Rows
section
variable {κ : Type} [DecidableEq κ]
def valV (kvs : List (κ × V)) (k : κ) : Option V := (kvs.find? fun kv => decide (kv.1 = k)).map (·.2)
def putK (kvs : List (κ × V)) (k : κ) (v : V) : List (κ × V) :=
  if (kvs.any fun kv => decide (kv.1 = k)) = true then kvs.map (fun kv => if kv.1 = k then (kv.1, v) else kv) else kvs ++ [(k, v)]
theorem valV_pos {p : κ × V} {r : List (κ × V)} {k : κ} (e : p.1 = k) : valV (p :: r) k = some p.2 := by simp [valV, List.find?_cons, e]
theorem valV_neg {p : κ × V} {r : List (κ × V)} {k : κ} (e : ¬ p.1 = k) : valV (p :: r) k = valV r k := by simp [valV, List.find?_cons, e]
theorem valV_any (k : κ) : ∀ kvs : List (κ × V), (kvs.any fun kv => decide (kv.1 = k)) = (valV kvs k).isSome
  | [] => rfl
  | p :: r => by
    rw [List.any_cons]
    by_cases e : p.1 = k
    · simp only [valV_pos e, decide_eq_true e, Bool.true_or, Option.isSome_some]
    · rw [valV_neg e, decide_eq_false e, Bool.false_or]; exact valV_any k r
theorem valV_map (k j : κ) (y : V) : ∀ kvs : List (κ × V), valV (kvs.map fun kv => if kv.1 = k then (kv.1, y) else kv) j = (valV kvs j).map fun x => if j = k then y else x
  | [] => rfl
  | p :: r => by
    have ih := valV_map k j y r
    rw [List.map_cons]
    by_cases h : p.1 = k
    · rw [if_pos h]
      by_cases e : p.1 = j
      · rw [valV_pos (p := (p.1, y)) e, valV_pos e, Option.map_some, if_pos (e.symm.trans h)]
      · rw [valV_neg (p := (p.1, y)) e, valV_neg e, ih]
    · rw [if_neg h]
      by_cases e : p.1 = j
      · rw [valV_pos (p := p) e, valV_pos e, Option.map_some, if_neg (fun z => h (e.trans z))]
      · rw [valV_neg (p := p) e, valV_neg e, ih]
theorem valV_snoc (k j : κ) (y : V) : ∀ kvs : List (κ × V), valV kvs k = none → valV (kvs ++ [(k, y)]) j = if j = k then some y else valV kvs j
  | [], _ => by
    by_cases e : k = j
    · rw [if_pos e.symm]; exact valV_pos (p := (k, y)) e
    · rw [if_neg (fun z => e z.symm)]; exact valV_neg (p := (k, y)) e
  | p :: r, hn => by
    rw [List.cons_append]
    have hk : ¬ p.1 = k := fun z => by rw [valV_pos z] at hn; cases hn
    rw [valV_neg hk] at hn
    have ih := valV_snoc k j y r hn
    by_cases e : p.1 = j
    · rw [valV_pos e, valV_pos e, if_neg (fun z => hk (e.trans z))]
    · rw [valV_neg e, valV_neg e, ih]
theorem valV_put (kvs : List (κ × V)) (k j : κ) (y : V) : valV (putK kvs k y) j = if j = k then some y else valV kvs j := by
  unfold putK
  by_cases a : (kvs.any fun kv => decide (kv.1 = k)) = true
  · rw [if_pos a, valV_map]
    rw [valV_any] at a
    by_cases e : j = k
    · obtain ⟨x, hx⟩ := Option.isSome_iff_exists.mp a
      rw [if_pos e, e, hx, Option.map_some, if_pos rfl]
    · rw [if_neg e]
      cases valV kvs j with
      | none => rfl
      | some x => rw [Option.map_some, if_neg e]
  · rw [if_neg a]
    refine valV_snoc k j y kvs ?_
    rw [valV_any] at a
    cases q : valV kvs k with
    | none => rfl
    | some x => rw [q] at a; exact (a rfl).elim
theorem length_putK (kvs : List (κ × V)) (k : κ) (v : V) : (putK kvs k v).length ≤ kvs.length + 1 := by
  unfold putK
  split
  · rw [List.length_map]; omega
  · rw [List.length_append, List.length_cons, List.length_nil]; omega
theorem RelO.isSome_eq {o : Option V} {u : Option Value} (r : RelO o u) : o.isSome = u.isSome := by
  cases o with
  | none => cases u with
    | none => rfl
    | some _ => exact (show False from r).elim
  | some _ => cases u with
    | none => exact (show False from r).elim
    | some _ => rfl
theorem RelO.getD {o : Option V} {u : Option Value} {d : V} {d' : Value} (r : RelO o u) (rd : RelV d d') : RelV (o.getD d) (u.getD d') := by
  cases o with
  | none => cases u with
    | none => exact rd
    | some _ => exact (show False from r).elim
  | some _ => cases u with
    | none => exact (show False from r).elim
    | some _ => exact r
theorem KV.val {kvs : List (κ × V)} {vs : List (κ × Value)} (r : KV kvs vs) (k : κ) : RelO (valV kvs k) (valueAt vs k) := by
  unfold KV at r
  induction r with
  | nil => exact True.intro
  | @cons p q ps qs h t ih =>
    obtain ⟨h1, h2⟩ := h
    by_cases e : p.1 = k
    · have e' : q.1 = k := h1.symm.trans e
      have b : valueAt (q :: qs) k = some q.2 := by simp [valueAt, List.find?_cons, e']
      rw [valV_pos e, b]; exact h2
    · have e' : ¬ q.1 = k := fun z => e (h1.trans z)
      have b : valueAt (q :: qs) k = valueAt qs k := by simp [valueAt, List.find?_cons, e']
      rw [valV_neg e, b]; exact ih
theorem KV.any {kvs : List (κ × V)} {vs : List (κ × Value)} (r : KV kvs vs) (k : κ) : (kvs.any fun kv => decide (kv.1 = k)) = vs.any fun kv => decide (kv.1 = k) := by
  unfold KV at r
  induction r with
  | nil => rfl
  | cons h t ih => rw [List.any_cons, List.any_cons, ih, h.1]
theorem KV.repl {kvs : List (κ × V)} {vs : List (κ × Value)} (r : KV kvs vs) (k : κ) {y : V} {u : Value} (ry : RelV y u) :
    KV (kvs.map fun kv => if kv.1 = k then (kv.1, y) else kv) (vs.map fun kv => if kv.1 = k then (kv.1, u) else kv) := by
  unfold KV at r ⊢
  induction r with
  | nil => exact .nil
  | @cons p q ps qs h t ih =>
    rw [List.map_cons, List.map_cons]
    refine .cons ?_ ih
    obtain ⟨h1, h2⟩ := h
    by_cases e : p.1 = k
    · rw [if_pos e, if_pos (h1.symm.trans e)]; exact ⟨h1, ry⟩
    · rw [if_neg e, if_neg (fun z => e (h1.trans z))]; exact ⟨h1, h2⟩
theorem KV.put {kvs : List (κ × V)} {vs : List (κ × Value)} (r : KV kvs vs) (k : κ) {y : V} {u : Value} (ry : RelV y u) : KV (putK kvs k y) (stored vs k u) := by
  unfold putK stored
  rw [r.any k]
  by_cases e : (vs.any fun kv => decide (kv.1 = k)) = true
  · rw [if_pos e, if_pos e]; exact r.repl k ry
  · rw [if_neg e, if_neg e]; exact Paired.snoc r ⟨rfl, ry⟩
theorem KV.length {kvs : List (κ × V)} {vs : List (κ × Value)} (r : KV kvs vs) : kvs.length = vs.length := Paired.length r
end
theorem kV_is {P : Program} {w : World} {k : Key} {u : Value} (r : RelV (kV k) u) : (mixKind P w).is k u = true := by
  cases k with
  | inl i => obtain ⟨t, e⟩ := (show ∃ t, u = Value.int i t from r); subst e; exact mixKind_int P w i t
  | inr x => obtain ⟨t, e⟩ := (show ∃ t, u = Value.str x t from r); subst e; exact mixKind_str P w x t
theorem items_are {P : Program} {w : World} : ∀ {ks : List Key} {us : List Value}, Vals (ks.map kV) us → ItemsAre (mixKind P w) ks us
  | [], _, r => by rw [List.map_nil] at r; cases r; exact .nil
  | k :: ks, _, r => by
    rw [List.map_cons] at r
    cases r with
    | cons h t => exact .cons (kV_is h) (items_are t)
abbrev KT (H : Hp) : List (List Key × V) → List (List Key × Addr × Value) → Prop := Paired fun p q => p.1 = q.1 ∧ H q.2.1 = some (.tup (p.1.map kV)) ∧ RelV p.2 q.2.2
theorem KT.val {H : Hp} {kvs : List (List Key × V)} {xs : List (List Key × Addr × Value)} (r : KT H kvs xs) (k : List Key) : RelO (valV kvs k) ((atKey xs k).map (·.2)) := by
  induction r with
  | nil => exact True.intro
  | @cons p q ps qs h t ih =>
    obtain ⟨h1, _, h2⟩ := h
    by_cases e : p.1 = k
    · have e' : q.1 = k := h1.symm.trans e
      have b : atKey (q :: qs) k = some q.2 := by simp [atKey, List.find?_cons, e']
      rw [valV_pos e, b]; exact h2
    · have e' : ¬ q.1 = k := fun z => e (h1.trans z)
      have b : atKey (q :: qs) k = atKey qs k := by simp [atKey, List.find?_cons, e']
      rw [valV_neg e, b]; exact ih
theorem KT.repl {H : Hp} {kvs : List (List Key × V)} {xs : List (List Key × Addr × Value)} (r : KT H kvs xs) (k : List Key) {y : V} {u : Value} (ry : RelV y u) :
    KT H (kvs.map fun kv => if kv.1 = k then (kv.1, y) else kv) (xs.map (putAt k u)) := by
  induction r with
  | nil => exact .nil
  | @cons p q ps qs h t ih =>
    rw [List.map_cons, List.map_cons]
    refine .cons ?_ ih
    obtain ⟨h1, h2, h3⟩ := h
    unfold putAt
    by_cases e : p.1 = k
    · rw [if_pos e, if_pos (h1.symm.trans e)]; exact ⟨h1, h2, ry⟩
    · rw [if_neg e, if_neg (fun z => e (h1.trans z))]; exact ⟨h1, h2, h3⟩
theorem KT.put {H : Hp} {kvs : List (List Key × V)} {xs : List (List Key × Addr × Value)} (r : KT H kvs xs) (k : List Key) {b : Addr} {y : V} {u : Value} (hb : H b = some (.tup (k.map kV))) (ry : RelV y u) :
    KT H (putK kvs k y) (storedH xs k b u) := by
  have e : (kvs.any fun kv => decide (kv.1 = k)) = (atKey xs k).isSome := by
    rw [valV_any, (r.val k).isSome_eq, Option.isSome_map]
  unfold putK storedH
  rw [e]
  by_cases q : (atKey xs k).isSome = true
  · rw [if_pos q, if_pos q]; exact r.repl k ry
  · rw [if_neg q, if_neg q]; exact Paired.snoc r ⟨rfl, hb, ry⟩
theorem KT.keeps {H H' : Hp} {kvs : List (List Key × V)} {xs : List (List Key × Addr × Value)} (r : KT H kvs xs) (ht : ∀ b ys, H b = some (.tup ys) → H' b = some (.tup ys)) : KT H' kvs xs :=
  Paired.mapP r fun _ _ z => ⟨z.1, ht _ _ z.2.1, z.2.2⟩
section
variable {P : Program} {w : World} {H : Hp} {h : Heap} {a : Addr}
theorem rd_of {u : HO} (ok : HOk P w H h) (e : Rd H a u) : ObjOk P w H h a u := e.ok ok
theorem dk_rd {kvs : List (Key × V)} (ok : HOk P w H h) (e : Rd H a (.dK kvs)) : kvs.length ≤ sizeLine ∧ (a == sysModules) = false ∧ ∃ vs, KV kvs vs ∧ h.DictOf (mixKind P w) a vs :=
  show ObjOk P w H h a (.dK kvs) from rd_of ok e
theorem dk_of {kvs : List (Key × V)} (ok : HOk P w H h) (e : H a = some (.dK kvs)) : kvs.length ≤ sizeLine ∧ (a == sysModules) = false ∧ ∃ vs, KV kvs vs ∧ h.DictOf (mixKind P w) a vs := dk_rd ok (.inl e)
theorem key_of {ks : List Key} (ok : HOk P w H h) (e : H a = some (.tup (ks.map kV))) : (tupleKind (mixKind P w)).is h ks a := by
  obtain ⟨_, its, r, o, h1, h2, n, h3⟩ := (show ObjOk P w H h a (.tup (ks.map kV)) from ok a _ e)
  exact ⟨o, its.toArray, n, h1, h2, h3, by simpa using items_are r⟩
theorem dt_rd {kvs : List (List Key × V)} (ok : HOk P w H h) (e : Rd H a (.dT kvs)) : kvs.length ≤ sizeLine ∧ (a == sysModules) = false ∧
    ∃ xs, KT H kvs xs ∧ h.DictOfH (tupleKind (mixKind P w)) a xs := by
  obtain ⟨z, y, xs, r, o, es, ep, h1, h2, h3, h4, h5⟩ := (show ObjOk P w H h a (.dT kvs) from rd_of ok e)
  refine ⟨z, y, xs, r, o, es, ep, h1, h2, h3, h4, fun x hx => ?_, h5⟩
  have all : ∀ {l : List (List Key × V)} {m : List (List Key × Addr × Value)}, KT H l m → ∀ x ∈ m, (tupleKind (mixKind P w)).is h x.1 x.2.1 := by
    intro l m q
    induction q with
    | nil => intro x hx; exact nomatch hx
    | @cons p q ps qs hq t ih =>
      intro x hx
      rcases List.mem_cons.mp hx with e | hx
      · subst e
        exact key_of ok (by rw [← hq.1]; exact hq.2.1)
      · exact ih x hx
  exact all r x hx
theorem dt_of {kvs : List (List Key × V)} (ok : HOk P w H h) (e : H a = some (.dT kvs)) : kvs.length ≤ sizeLine ∧ (a == sysModules) = false ∧
    ∃ xs, KT H kvs xs ∧ h.DictOfH (tupleKind (mixKind P w)) a xs := dt_rd ok (.inl e)
end
def DGet (H : Hp) (a : Addr) (y : V) (r : Option V) : Prop :=
  (∃ kvs k, Rd H a (.dK kvs) ∧ y = kV k ∧ r = valV kvs k) ∨ ∃ kvs k b, Rd H a (.dT kvs) ∧ y = .ref b ∧ H b = some (.tup (k.map kV)) ∧ r = valV kvs k
def DPut (H : Hp) (a : Addr) (y v : V) (H' : Hp) : Prop :=
  (∃ kvs k, H a = some (.dK kvs) ∧ y = kV k ∧ kvs.length < sizeLine ∧ H' = upd H a (.dK (putK kvs k v))) ∨
  ∃ kvs k b, H a = some (.dT kvs) ∧ y = .ref b ∧ H b = some (.tup (k.map kV)) ∧ kvs.length < sizeLine ∧ H' = upd H a (.dT (putK kvs k v))
theorem DGet.t {H : Hp} {a b : Addr} {kvs : List (List Key × V)} {k : List Key} (e : H a = some (.dT kvs)) (eb : H b = some (.tup (k.map kV))) : DGet H a (.ref b) (valV kvs k) := .inr ⟨kvs, k, b, .inl e, rfl, eb, rfl⟩
theorem DPut.t {H : Hp} {a b : Addr} {kvs : List (List Key × V)} {k : List Key} {v : V} (e : H a = some (.dT kvs)) (eb : H b = some (.tup (k.map kV))) (hl : kvs.length < sizeLine) :
    DPut H a (.ref b) v (upd H a (.dT (putK kvs k v))) := .inr ⟨kvs, k, b, e, rfl, eb, hl, rfl⟩
section
variable {X : Cx} {pins : List (Addr × Obj)} {σ : St} {H : Hp} {s : Shared} {a : Addr} {y v : V} {u r : Value} {o : Option V} {A : Around} {E : Value → Shared → Prop}
theorem Inv.big (I : Inv X pins σ H s) : sysModules < s.heap.objs.size := by
  have h : mainGlobals < s.heap.objs.size := (I.mod.glob.keeps I.bk).lt
  exact Nat.lt_trans (by decide) h
theorem d_getItem {Q : Value → Shared → Prop} (hu : A.units + 1 < cLine) (I : Inv X pins σ H s) (g : DGet H a y (some v)) (ry : RelV y u) (h : ∀ w' s', Inv X pins σ H s' → RelV v w' → Q w' s') :
    wpAny (model X.prog X.w) A (getItem (.ref a) u) Q E s := by
  rcases g with ⟨kvs, k, e, ey, l⟩ | ⟨kvs, k, b, e, ey, eb, l⟩
  · subst ey
    obtain ⟨z, hd, vs, rel, dd⟩ := dk_rd I.hok e
    obtain ⟨w', hw, rw'⟩ := RelO.some_of (v := v) (o := valueAt vs k) (by rw [l]; exact rel.val k)
    exact wpAny_getItem_of (kV_is ry) dd.mapOf hw (h w' _ (I.tok _) rw')
  · subst ey
    cases (show u = Value.ref b from ry)
    obtain ⟨z, hd, xs, rel, dd⟩ := dt_rd I.hok e
    obtain ⟨w', hw, rw'⟩ := RelO.some_of (v := v) (o := (atKey xs k).map (·.2)) (by rw [l]; exact rel.val k)
    obtain ⟨p, hp, hp2⟩ := Option.map_eq_some_iff.mp hw
    refine wpAny_getItem_heap (tupleKind_room_in1 hu) (key_of I.hok eb) dd hp ?_
    rw [hp2]
    exact h w' _ (I.tok _) rw'
theorem d_in {Q : Value → Shared → Prop} (hu : A.units + 1 < cLine) (I : Inv X pins σ H s) (g : DGet H a y o) (ry : RelV y u) (h : ∀ s', Inv X pins σ H s' → Q (.bool o.isSome) s') :
    wpAny (model X.prog X.w) A (compareOp .In u (.ref a)) Q E s := by
  rcases g with ⟨kvs, k, e, ey, l⟩ | ⟨kvs, k, b, e, ey, eb, l⟩
  · subst ey
    obtain ⟨z, hd, vs, rel, dd⟩ := dk_rd I.hok e
    refine wpAny_in_of (kV_is ry) hd dd.mapOf ?_
    rw [← (rel.val k).isSome_eq, ← l]
    exact h _ (I.tok _)
  · subst ey
    cases (show u = Value.ref b from ry)
    obtain ⟨z, hd, xs, rel, dd⟩ := dt_rd I.hok e
    refine wpAny_in_heap (tupleKind_room_in1 hu) (key_of I.hok eb) hd dd ?_
    have q := (rel.val k).isSome_eq
    rw [Option.isSome_map] at q
    rw [← q, ← l]
    exact h _ (I.tok _)
theorem d_write {h' : Heap} {t' : Nat} {ob : HO} (I : Inv X pins σ H s) (mu : Mut (H a)) (hs : Heap.SameBut a s.heap h') (he : ∃ q, h'.get? a = some q) (new : ObjOk X.prog X.w (upd H a ob) h' a ob) :
    Inv X pins σ (upd H a ob) { s with heap := h', toks := t' } :=
  I.write (x := a) (e := a) mu (.inl rfl) (fun b q hb z => (hs.2 b hb).trans z) he new
theorem dk_new {P : Program} {w : World} {H' : Hp} {h' : Heap} {kvs : List (Key × V)} {vs : List (Key × Value)} (z : kvs.length ≤ sizeLine) (hd : (a == sysModules) = false) (rel : KV kvs vs) (dd : h'.DictOf (mixKind P w) a vs) :
    ObjOk P w H' h' a (.dK kvs) := ⟨z, hd, vs, rel, dd⟩
theorem d_setItem {H' : Hp} {Q : Unit → Shared → Prop} (hu : A.units + 1 < cLine) (I : Inv X pins σ H s) (g : DPut H a y v H') (ry : RelV y u) (rv : RelV v r) (h : ∀ s', Inv X pins σ H' s' → Q () s') :
    wpAny (model X.prog X.w) A (setItem (.ref a) u r) Q E s := by
  rcases g with ⟨kvs, k, e, ey, l, eH⟩ | ⟨kvs, k, b, e, ey, eb, l, eH⟩
  · subst ey eH
    obtain ⟨z, hd, vs, rel, dd⟩ := dk_of I.hok e
    have hz : vs.length ≤ sizeLine := by rw [← rel.length]; exact z
    have hl : (putK kvs k v).length ≤ sizeLine := by have := length_putK kvs k v; omega
    refine wpAny_setItem_pairs (hsz := hz) (kV_is ry) dd fun h' dd' hs => h _ ?_
    have he : ∃ q, h'.get? a = some q := let ⟨q, _, _, hq, _⟩ := dd'; ⟨q, hq⟩
    exact d_write I (by rw [e]; exact True.intro) hs he (dk_new hl hd (rel.put k rv) dd')
  · subst ey eH
    cases (show u = Value.ref b from ry)
    obtain ⟨z, hd, xs, rel, dd⟩ := dt_of I.hok e
    have hz : xs.length ≤ sizeLine := by rw [← Paired.length rel]; exact z
    have hl : (putK kvs k v).length ≤ sizeLine := by have := length_putK kvs k v; omega
    refine wpAny_setItem_heap (hsz := hz) (tupleKind_room_in1 hu) (key_of I.hok eb) dd fun h' dd' hs => h _ ?_
    obtain ⟨q, es, ep, hq, h2, h3, h4, _, h5⟩ := dd'
    refine d_write I (by rw [e]; exact True.intro) hs ⟨q, hq⟩ ⟨hl, hd, _, (rel.put k eb rv).keeps fun c ys ec => ?_, q, es, ep, hq, h2, h3, h4, h5⟩
    rw [upd_ne (ne_of ec e (fun z => nomatch z))]
    exact ec
end
def NoSl (i : Expr) : Prop := ∀ ov iv, subscripted i false ov iv = operate [ov, iv] (getItem ov iv)
theorem subD_of {prog : Program} {w : World} {A : Around} {E : Value → Shared → Prop} {s : Shared} {env : Env} {value slice : Expr} {pos : Pos} {T id : String} {Q : Value → Shared → Prop}
    (hl : typeLookup (.type T) "__getitem__" = pure (some (.builtin id))) (hs : NoSl slice)
    (h : wpAny (model prog w) A (eval value env) (fun o s₁ => wpAny (model prog w) A (eval slice env) (fun i s₂ => s₂.TypeIs o T ∧ wpAny (model prog w) A (getItem o i) Q E s₂) E s₁) E s) :
    wpAny (model prog w) A (eval (.Subscript value slice pos) env) Q E s := by
  refine Subscript_ (wpAny_mono h (fun o s₁ h₁ => wpAny_mono h₁ (fun i s₂ h₂ => ?_) fun _ _ x => x) fun _ _ x => x)
  obtain ⟨hT, h₂⟩ := h₂
  unfold subscriptTail
  refine wpAny_bind ?_
  rw [getitemInPython_of_ne hT.not_modules]
  refine wpAny_bind (wpAny_specialOf hT hl ?_)
  have fin : wpAny (model prog w) A (subscripted slice false o i) (fun r s₃ => wpAny (model prog w) A (letTemporaryGo value o r >>= fun _ => pure r) Q E s₃) E s₂ := by
    rw [hs o i]
    exact wpAny_operating (wpAny_mono h₂ (fun r s₃ h₃ => wpAny_bind (wpAny_letTemporaryGo (wpAny_pure h₃))) fun _ _ x => x)
  first
    | exact wpAny_pure (wpAny_bind fin)
    | exact wpAny_bind (wpAny_pure (wpAny_bind fin))
    | exact wpAny_bind fin
theorem dict_typeIs {X : Cx} {pins : List (Addr × Obj)} {σ : St} {H : Hp} {s : Shared} {a : Addr} {y : V} {o : Option V} (I : Inv X pins σ H s) (g : DGet H a y o) : s.TypeIs (.ref a) "dict" := by
  rcases g with ⟨kvs, k, e, _, _⟩ | ⟨kvs, k, b, e, _, _, _⟩
  · obtain ⟨_, _, vs, _, dd⟩ := dk_rd I.hok e
    exact dd.typeIs
  · obtain ⟨_, _, xs, _, dd⟩ := dt_rd I.hok e
    exact dd.typeIs
def tDGet (td ty : TE) : TE := fun σ H Q => td σ H fun x H1 => ty σ H1 fun y H2 => ∃ a v, x = .ref a ∧ DGet H2 a y (some v) ∧ Q v H2
def tDIn (ty td : TE) : TE := fun σ H Q => ty σ H fun y H1 => td σ H1 fun x H2 => ∃ a o, x = .ref a ∧ DGet H2 a y o ∧ Q (.bl o.isSome) H2
def sDPut (td ty tv : TE) : TS := fun D σ H => tv σ H fun v H1 => td σ H1 fun x H2 => ty σ H2 fun y H3 => ∃ a H4, x = .ref a ∧ DPut H3 a y v H4 ∧ D.nx σ H4
section
variable {X : Cx} {o i e value : Expr} {pos pos' tpos : Pos} {td ty tv : TE}
theorem pe_dget (hu : X.A.units + 1 < cLine) (ho : PE X o td) (hi : PE X i ty) (hs : NoSl i) : PE X (.Subscript o i pos) (tDGet td ty) := by
  intro pins s σ H Q I h
  refine subD_of PySem.F.slot_dict_getitem.lookup hs (thn (ho pins s σ H _ I h) fun u s1 ⟨x, H1, I1, rx, q1⟩ => thn (hi pins s1 σ H1 _ I1 q1) fun iv s2 ⟨y, H2, I2, ry, a, v, ex, g, q2⟩ => ?_)
  subst ex
  obtain rfl : u = Value.ref a := rx
  exact ⟨dict_typeIs I2 g, d_getItem hu I2 g ry fun w' s3 I3 rw' => ⟨v, H2, I3, rw', q2⟩⟩
theorem pc_din (hu : X.A.units + 1 < cLine) (hi : PE X i ty) (ho : PE X o td) : PC X .In i o (tDIn ty td) := by
  intro pins s σ H Q I h
  refine thn (hi pins s σ H _ I h) fun iv s1 ⟨y, H1, I1, ry, q1⟩ => thn (ho pins s1 σ H1 _ I1 q1) fun u s2 ⟨x, H2, I2, rx, a, ov, ex, g, q2⟩ => ?_
  subst ex
  obtain rfl : u = Value.ref a := rx
  exact d_in hu I2 g ry fun s3 I3 => ⟨.bl ov.isSome, H2, I3, rfl, q2⟩
theorem ps_dput (hu : X.A.units + 1 < cLine) (ho : PE X o td) (hi : PE X i ty) (hv : PE X value tv) (hs : swapsWith value (some (.Subscript o i pos')) pos.line X.env = pure false) :
    PS X (.Assign [.Subscript o i pos'] value pos) (sDPut td ty tv) := by
  intro pins s σ H D I h
  refine wpAny_Assign_Subscript (thn (hv pins s σ H _ I h) fun r s1 ⟨v, H1, I1, rv, q1⟩ => thn (ho pins s1 σ H1 _ I1 q1) fun u s2 ⟨x, H2, I2, rx, q2⟩ => thn (hi pins s2 σ H2 _ I2 q2) fun iv s3 ⟨y, H3, I3, ry, a, H4, ex, g, q3⟩ => ?_) hs
  subst ex
  obtain rfl : u = Value.ref a := rx
  exact d_setItem hu I3 g ry rv fun s4 I4 => ⟨σ, H4, I4, q3⟩
end
theorem dt_empty {P : Program} {w : World} {H : Hp} (h : Heap) (hb : sysModules < h.objs.size) : ObjOk P w H (h.push { cls := .type "dict", data := .dict #[] }) h.objs.size (.dT []) :=
  ⟨Nat.zero_le _, beq_eq_false_iff_ne.mpr (Ne.symm (Nat.ne_of_lt hb)), [], .nil, _, #[], 0, Heap.get?_push_size _ rfl, ⟨rfl, rfl, rfl⟩, rfl, rfl, List.nodup_nil⟩
def tDNewT : TE := fun _ H Q => ∀ p, H p = none → Q (.ref p) (upd H p (.dT []))
section
variable {X : Cx} {pos : Pos}
theorem pe_dnewT : PE X (.Dict [] [] pos) tDNewT := fun pins s σ H Q I h =>
  wpAny_Dict_empty ⟨.ref s.heap.objs.size, _, I.laid (a := s.heap.objs.size) (o := .dT []) (t' := s.toks) (fun _ _ q => Heap.get?_push_of_some _ q) (Nat.le_refl _) (dt_empty s.heap I.big), rfl, h _ (I.hok.fresh (Nat.le_refl _))⟩
end
structure M1 (X : Cx) (o : Expr) (m : Str) (apos : Pos) (e : Expr) (cpos : Pos) : Prop where
  base : attributeBase o m X.env (eval o X.env) = eval o X.env
  few : ((backTo cpos (starEach [e] X.env)).all (fun x => !x.1) && (backToKw cpos (keywordEach [] X.env)).all (fun x => x.1.isSome)
    && decide (([e] : List Expr).length + ([] : List Keyword).length + (if ([] : List Keyword).isEmpty then 0 else 1) < 30)) = true
  line : (apos.endLine == cpos.line) = true
  trees : backTo cpos (starEach [e] X.env) = [(false, eval e X.env)]
def IsD (H : Hp) (a : Addr) : Prop := (∃ kvs, Rd H a (.dK kvs)) ∨ ∃ kvs, Rd H a (.dT kvs)
theorem isD_at {X : Cx} {pins : List (Addr × Obj)} {σ : St} {H : Hp} {s : Shared} {a : Addr} (I : Inv X pins σ H s) (d : IsD H a) :
    s.TypeIs (.ref a) "dict" ∧ (∀ b, Value.ref a = .ref b → ∃ ob, s.heap.get? b = some ob ∧ ob.dict = none) ∧ (a == sysModules) = false := by
  rcases d with ⟨kvs, e⟩ | ⟨kvs, e⟩
  · obtain ⟨_, hd, vs, _, dd⟩ := dk_rd I.hok e
    refine ⟨dd.typeIs, fun b q => ?_, hd⟩
    cases q
    obtain ⟨ob, _, _, h1, h2, _⟩ := dd
    exact ⟨ob, h1, h2.2.1⟩
  · obtain ⟨_, hd, xs, _, dd⟩ := dt_rd I.hok e
    refine ⟨dd.typeIs, fun b q => ?_, hd⟩
    cases q
    obtain ⟨ob, _, _, h1, h2, _⟩ := dd
    exact ⟨ob, h1, h2.2.1⟩
section
variable {X : Cx} {pins : List (Addr × Obj)} {σ : St} {H : Hp} {s : Shared} {a : Addr} {y d : V} {u r : Value} {o : Option V} {A : Around} {E : Value → Shared → Prop}
theorem d_get1 {Q : Value → Shared → Prop} (hu : A.units + 1 < cLine) (I : Inv X pins σ H s) (g : DGet H a y o) (ry : RelV y u) (h : ∀ w' s', Inv X pins σ H s' → RelV (o.getD .non) w' → Q w' s') :
    wpAny (model X.prog X.w) A (call (.builtin "dict.get") [.ref a, u]) Q E s := by
  rcases g with ⟨kvs, k, e, ey, l⟩ | ⟨kvs, k, b, e, ey, eb, l⟩
  · subst ey
    obtain ⟨z, hd, vs, rel, dd⟩ := dk_rd I.hok e
    refine call_meetsIn PySem.F.slot_dict_get dd.typeIs PySem.F.entry_dict_get (PySem.F.args_dict_get_2 _ _) (meets_dict_get (mixKind X.prog X.w) a (kV_is ry) hd) ⟨_, dd.mapOf, h _ _ (I.tok _) ?_⟩
    rw [l]
    exact (rel.val k).getD rfl
  · subst ey
    cases (show u = Value.ref b from ry)
    obtain ⟨z, hd, xs, rel, dd⟩ := dt_rd I.hok e
    refine call_meetsIn PySem.F.slot_dict_get dd.typeIs PySem.F.entry_dict_get (PySem.F.args_dict_get_2 _ _) (meetsH_dict_get (tupleKind (mixKind X.prog X.w)) a b hd) ⟨tupleKind_room_in1 hu, k, xs, key_of I.hok eb, dd, h _ _ (I.tok _) ?_⟩
    rw [l]
    exact (rel.val k).getD rfl
end
def tDGet1 (td ty : TE) : TE := fun σ H Q => td σ H fun x H1 => ∃ a, x = .ref a ∧ IsD H1 a ∧ ty σ H1 fun y H2 => ∃ o, DGet H2 a y o ∧ Q (o.getD .non) H2
section
variable {X : Cx} {o e f : Expr} {apos cpos : Pos} {td ty tx : TE}
theorem pe_dget1 (hu : X.A.units + 1 < cLine) (ho : PE X o td) (he : PE X e ty) (m : M1 X o "get" apos e cpos) : PE X (.Call (.Attribute o "get" apos) [e] [] cpos) (tDGet1 td ty) := by
  intro pins s σ H Q I h
  refine wpAny_Call_method m.base m.few m.line PySem.F.plainAttrs_dict PySem.F.slot_dict_get PySem.F.type_dict_get (thn (ho pins s σ H _ I h) fun u s1 ⟨x, H1, I1, rx, a, ex, d, q1⟩ => ?_)
  subst ex
  obtain rfl : u = Value.ref a := rx
  obtain ⟨t1, t2, _⟩ := isD_at I1 d
  refine ⟨t1, t2, ?_⟩
  rw [m.trees]
  refine Calls.callWith_builtin rfl (Calls.evalArgs_plain (Calls.spliced_cons (thn (he pins s1 σ H1 _ I1 q1) fun iv s2 ⟨y, H2, I2, ry, ov, g, q2⟩ => Calls.spliced_nil ?_)))
  exact d_get1 hu I2 g ry fun w' s3 I3 rw' => ⟨_, H2, I3, rw', q2⟩
end
end L2
namespace L2
open PySem PySem.Spec PyProof.Rows
section
variable {X : Cx} {pins : List (Addr × Obj)} {σ : St} {H : Hp} {s : Shared} {h' : Heap}
theorem Inv.turnedNew {t' : Nat} {ch : List Addr} {T : Addr} {ob : HO} (I : Inv X pins σ H s) (k : ∀ b o, b ∉ ch → s.heap.get? b = some o → h'.get? b = some o) (hf : ∀ b ∈ ch, FpOk X pins H b) (hT : s.heap.objs.size ≤ T)
    (new : ObjOk X.prog X.w (upd H T ob) h' T ob) : Inv X pins σ (upd H T ob) { s with heap := h', toks := t' } := by
  have hn : H T = none := I.hok.fresh hT
  have nit : ∀ b u, H b = some u → b ∉ ch := fun b u e z => by
    have q := (hf b z).1
    rw [q] at e; cases e
  refine I.step (g' := s.gens) (d' := s.drawn) (ch := ch) (fun b hb => ⟨(hf b hb).2.2.2.1, (hf b hb).2.1, (hf b hb).2.2.2.2.1, (hf b hb).2.2.2.2.2⟩) (fun b o _ _ hc e _ => k b o hc e) (fun b o _ _ hc e _ => ⟨o.slots, k b o hc e⟩)
    (fun b o _ e n => ?_) (fun b o hc e => ⟨o, k b o hc e⟩) (fun b xs e => ?_) (fun b o u e => ?_) (fun b ps e => ⟨#[], ?_⟩) (fun m hm => ?_) (fun b u e => ?_) I.bare
  · rw [upd_ne (Nat.ne_of_lt (Nat.lt_of_lt_of_le (Heap.lt_size e) hT))]; exact n
  · rw [upd_ne (ne_of_none e hn)]; exact e
  · rw [upd_ne (ne_of_none e hn)]; exact e
  · rw [upd_ne (ne_of_none e hn), e]; simp
  · obtain ⟨o, es, ep, ho, r⟩ := hm
    exact ⟨o, es, ep, k _ o (fun z => (hf _ z).2.1 rfl) ho, r⟩
  · by_cases hb : b = T
    · subst hb
      rw [upd_same] at e
      cases e
      exact new
    · rw [upd_ne hb] at e
      refine (I.hok b u e).stay (fun c v hc q => k c v ?_ q) (fun c q => by rw [upd_ne (ne_of_none q hn)]; exact q) fun c xs q => by rw [upd_ne (ne_of_none q hn)]; exact q
      rcases hc with z | z
      · rw [z]; exact nit b u e
      · exact nit c _ z
end
section
variable {X : Cx}
theorem pi_one {tg : Expr} {pins : List (Addr × Obj)} {σ : St} {H : Hp} {s : Shared} {R : It → Hp → Prop} {J : It} {tn : Nat → Heap → Prop} {tk : Nat} (I : Inv X pins σ H s) (o : Obj)
    (T : Turn X.prog X.w X.K tg J [s.heap.objs.size] s.heap.objs.size tn) (st : tn 0 (s.heap.push o)) (q : R J H) : PIE X pins σ tg R (.ref s.heap.objs.size) { s with heap := s.heap.push o, toks := tk } := by
  refine ⟨s.heap.objs.size, [s.heap.objs.size], tn, J, H, rfl, I.kept fun b ob e => Heap.get?_push_of_some _ e, T, st, fun b hb => ?_, q⟩
  have e : b = s.heap.objs.size := by simpa using hb
  subst e
  exact I.fpOk (Nat.le_refl _) (I.hok.fresh (Nat.le_refl _))
end
def Itc (lo c : Int) (n : Nat) : It := ⟨fun i _ => i < n, fun i H x H' => H' = H ∧ x = .int (lo + (i : Nat) * c), fun i _ => n ≤ i⟩
theorem turn_rangeC {P : Program} {w : World} {K : PySem.W.Frag} {tg : Expr} (it : Addr) (lo c : Int) (n : Nat) : Turn P w K tg (Itc lo c n) [it] it (fun i h => IsRangeIter h it (lo + (i : Nat) * c) ((n : Int) - (i : Nat)) c) where
  mem := by simp
  obj := fun i h st b hb => by
    have e : b = it := by simpa using hb
    subst e
    exact ⟨_, st, fun v z => nomatch z⟩
  keep := fun i h h' st k => k it (by simp) _ st
  item := by
    intro X hP hw hK hc i pins s σ H E I hf st hg
    subst hP hw hK
    obtain ⟨f0, f1, f2, f3, f4, f5⟩ := hf it (by simp)
    have W := Walks.range (prog := X.prog) (w := X.w) (I.ok.hd hc) it lo c n
    refine W.item i s _ _ hg st fun v h' tk hv st' kk => ?_
    obtain ⟨t, rfl⟩ := hv
    have I1 : Inv X pins σ H { s with heap := h', toks := tk } := I.turned (fun b o hb e => kk b o (by simpa using hb) e) f0 f1 f3 f4 f5
    exact ⟨_, rfl, go_of (s := { s with heap := h', toks := tk }) (n := "range_iterator") st' rfl rfl (by decide) ⟨.int (lo + (i : Nat) * c), H, I1, ⟨t, rfl⟩, ⟨rfl, rfl⟩, st', fun b hb => (hf b hb).1⟩⟩
  done := by
    intro X hP hw hK hc i pins s σ H E I hf st hg
    subst hP hw hK
    obtain ⟨f0, f1, f2, f3, f4, f5⟩ := hf it (by simp)
    exact wpAny_pyNext_range_end (I.ok.hd hc) st (by have : n ≤ i := hg; omega) fun h' eb => ⟨rfl, I.turned (t' := s.toks) (fun b o hb e => eb b o hb e) f0 f1 f3 f4 f5⟩
  self := fun A i s Q E st h => wpAny_pyIter_rangeiter st h
def RgC (i j c : Int) (n : Nat) : Prop := c ≠ 0 ∧ c.natAbs < 1073741824 ∧ Builtin.Range.small i j c = true ∧ Builtin.Range.rangeSize i j c = n
theorem RgC.neg {i j : Int} (ha : -(2 ^ 62) ≤ i) (ha' : i < 2 ^ 62) (hb : -(2 ^ 62) ≤ j) (hb' : j < 2 ^ 62) : RgC i j (-1) (i - j).toNat :=
  ⟨by decide, by decide, PySem.W.small_down ha ha' hb hb', PySem.W.rangeSize_downNat i j⟩
def iRng3 (ta : TA) : TI := fun σ H R => ta σ H fun vs H1 => ∃ (i j c : Int) (n : Nat), vs = [.int i, .int j, .int c] ∧ RgC i j c n ∧ R (Itc i c n) H1
section
variable {X : Cx} {tg : Expr}
theorem pi_range3 {a b c : Expr} {ta : TA} {p pos : Pos} (hg : Gl X "range") (hm : X.mg "range" = none) (ha : PA X [a, b, c] ta)
    (hs : starEach [a, b, c] X.env = (false, eval a X.env) :: starEach [b, c] X.env := by rfl) (hpl : (backTo pos (starEach [b, c] X.env)).any (·.1) = false := by rfl) :
    PI X tg (.Call (.Name "range" p) [a, b, c] [] pos) (iRng3 ta) := by
  intro pins s σ H R I h
  refine Call_ (ld_blt I hg hm boot_range (PyProof.Rows.callWith_type1 (thn (ha pos pins s σ H _ I h) fun us s1 ⟨vs, H1, I1, r1, q1⟩ => ?_) hs hpl))
  obtain ⟨i, j, k, n, e, ⟨c0, c1, c2, c3⟩, q⟩ := q1
  subst e
  cases r1 with
  | cons r rr =>
    cases rr with
    | cons r' rr =>
      cases rr with
      | cons r'' rr =>
        cases rr
        obtain ⟨t, rfl⟩ := r
        obtain ⟨t', rfl⟩ := r'
        obtain ⟨t'', rfl⟩ := r''
        refine call_range_3 c0 ?_ (.inl (PyProof.noPylong_small c1))
        refine wpAny_pyIter_range (IsRange.new ..) c2 ?_
        have I2 : Inv X pins σ H1 { s1 with heap := s1.heap.push { cls := .type "range", data := .fields #[.int i t, .int j t', .int k t''] } } := I1.kept (t' := s1.toks) fun b o e => Heap.get?_push_of_some _ e
        refine pi_one (tk := s1.toks) I2 _ (turn_rangeC _ i k n) ?_ q
        have e1 : i + ((0 : Nat) : Int) * k = i := by simp
        have e2 : (n : Int) - ((0 : Nat) : Int) = Builtin.Range.rangeSize i j k := by rw [c3]; simp
        show IsRangeIter _ _ (i + ((0 : Nat) : Int) * k) ((n : Int) - ((0 : Nat) : Int)) k
        rw [e1, e2]
        exact Heap.get?_push_size _ rfl
end
theorem for_rangeC {lo c : Int} {n : Nat} {g : TG} {tb : TS} {D : Ends} {σ : St} {H : Hp} (Pv : Nat → St → Hp → Prop) (h0 : Pv 0 σ H)
    (hs : ∀ i σ H, i < n → Pv i σ H → g (.int (lo + (i : Nat) * c)) σ H fun σ2 H2 => tb { D with nx := Pv (i + 1), ct := Pv (i + 1), bk := D.nx } σ2 H2) (hd : ∀ σ H, Pv n σ H → D.nx σ H) :
    ∃ W : Nat → Nat → St → Hp → Prop, (∃ m, W 0 m σ H) ∧ ∀ i m σ H, W i m σ H →
      ((Itc lo c n).stop i H ∧ D.nx σ H) ∨ ((Itc lo c n).go i H ∧ ∃ N : St → Hp → Prop, (∀ σ' H', N σ' H' → ∃ m', m' < m ∧ W (i + 1) m' σ' H') ∧ ∀ x H', (Itc lo c n).yld i H x H' → g x σ H' fun σ2 H2 => tb { D with nx := N, ct := N, bk := D.nx } σ2 H2) := by
  refine ⟨fun i m σ H => m = n - i ∧ i ≤ n ∧ Pv i σ H, ⟨n, by simp, Nat.zero_le _, h0⟩, ?_⟩
  rintro i m σ H ⟨rfl, hi, p⟩
  by_cases hlt : i < n
  · refine .inr ⟨hlt, Pv (i + 1), fun σ' H' p' => ⟨n - (i + 1), by omega, rfl, hlt, p'⟩, fun x H' y => ?_⟩
    obtain ⟨e, y⟩ := y
    subst e y
    exact hs i σ _ hlt p
  · have e : i = n := by omega
    subst e
    exact .inl ⟨Nat.le_refl _, hd σ H p⟩
def Ite (K : PySem.W.Frag) (a : Addr) : It :=
  ⟨fun i H => ∃ (xs : List V) (x : V), SqL K H a xs ∧ xs[i]? = some x, fun i H v H' => ∃ T x, v = .ref T ∧ H T = none ∧ H' = upd H T (.tup [.int (i : Nat), x]) ∧ ∀ xs, SqL K H a xs → xs[i]? = some x, fun i H => ∃ xs : List V, SqL K H a xs ∧ xs.length ≤ i⟩
theorem turn_enum {P : Program} {w : World} {K : PySem.W.Frag} {elts : List Expr} {kk : Nat} {tpos : Pos} (a e it : Addr) :
    Turn P w K (.Tuple elts kk tpos) (Ite K a) [e, it] e (fun i h => (∃ old, IsEnum h e it ((i : Nat) : Int) old) ∧ h.IsListIter it a i ∧ e ≠ it) where
  mem := by simp
  obj := fun i h st b hb => by
    obtain ⟨⟨old, he⟩, ⟨o, ho, hc, hd⟩, _⟩ := st
    have e' : b = e ∨ b = it := by simpa using hb
    rcases e' with z | z
    · rw [z]; exact ⟨_, he, fun v q => nomatch q⟩
    · rw [z]; exact ⟨o, ho, fun v q => by rw [hd] at q; cases q⟩
  keep := fun i h h' st k => let ⟨⟨old, he⟩, hi, hne⟩ := st; ⟨⟨old, k e (by simp) _ he⟩, hi.at fun o q => k it (by simp) o q, hne⟩
  item := by
    intro X hP hw hK hc i pins s σ H E I hf st hg
    subst hP hw hK
    obtain ⟨⟨old, he⟩, hit, hne⟩ := st
    obtain ⟨xs, x, hq, hx⟩ := hg
    obtain ⟨its, rv, p, hz⟩ := I.list hq
    obtain ⟨u, hu, ru⟩ := rv.get hx
    have hel : e < s.heap.objs.size := Heap.lt_size he
    have hil : it < s.heap.objs.size := by obtain ⟨_, q, _⟩ := hit; exact Heap.lt_size q
    refine wpAny_pyNext_enum_item he hit p.isList (x := u) (by simpa using hu) hne fun h' ho hit' hT hsz hk => ?_
    refine ⟨_, rfl, wpAny_letOwnedTupleGo_enum (s := { s with heap := h', toks := s.toks + 1 }) ho fun h'' he' sb => ?_⟩
    have hT2 : h''.get? s.heap.objs.size = some { cls := .type "tuple", data := .seq #[.int i s.toks, u] } := (sb.2 _ (Nat.ne_of_gt hel)).trans hT
    have new : ObjOk X.prog X.w (upd H s.heap.objs.size (.tup [.int (i : Nat), x])) h'' s.heap.objs.size (.tup [.int (i : Nat), x]) :=
      ⟨by show 2 ≤ sizeLine; decide, [.int i s.toks, u], .cons ⟨_, rfl⟩ (.cons ru .nil), ⟨_, hT2, rfl, _, rfl⟩⟩
    have I1 : Inv X pins σ (upd H s.heap.objs.size (.tup [.int (i : Nat), x])) { s with heap := h'', toks := s.toks + 1 } :=
      I.turnedNew (ch := [e, it]) (fun b ob hb q => (sb.2 b (fun z => hb (by simp [z]))).trans (hk b ob (fun z => hb (by simp [z])) (fun z => hb (by simp [z])) q)) hf (Nat.le_refl _) new
    refine ⟨.ref s.heap.objs.size, _, I1, rfl, ⟨_, x, rfl, I.hok.fresh (Nat.le_refl _), rfl, fun ys hy => by rw [I.list_inj hy hq]; exact hx⟩, ⟨⟨u, ?_⟩, hit'.at fun o q => (sb.2 it (Ne.symm hne)).trans q, hne⟩, fun b hb => ?_⟩
    · have e1 : ((i + 1 : Nat) : Int) = (i : Int) + 1 := by omega
      rw [e1]; exact he'
    · have hb' : b < s.heap.objs.size := by
        have e' : b = e ∨ b = it := by simpa using hb
        rcases e' with z | z
        · rw [z]; exact hel
        · rw [z]; exact hil
      rw [upd_ne (Nat.ne_of_lt hb')]
      exact (hf b hb).1
  done := by
    intro X hP hw hK hc i pins s σ H E I hf st hg
    subst hP hw hK
    obtain ⟨⟨old, he⟩, hit, hne⟩ := st
    obtain ⟨xs, hq, hx⟩ := hg
    obtain ⟨its, rv, p, hz⟩ := I.list hq
    obtain ⟨f0, f1, f2, f3, f4, f5⟩ := hf it (by simp)
    have hl := rv.length
    exact wpAny_pyNext_enum_end (I.ok.hd hc) he hit p.isList (by simp; omega) fun h' eb => ⟨rfl, I.turned (t' := s.toks) (fun b o hb q => eb b o hb q) f0 f1 f3 f4 f5⟩
  self := fun A i s Q E st h => let ⟨⟨_, he⟩, _⟩ := st; wpAny_pyIter_enum he h
def iEnum (K : PySem.W.Frag) (ta : TA) : TI := fun σ H R => ta σ H fun vs H1 => ∃ a xs, vs = [.ref a] ∧ SqL K H1 a xs ∧ R (Ite K a) H1
theorem pi_enum {X : Cx} {e : Expr} {ta : TA} {p pos tpos : Pos} {elts : List Expr} {kk : Nat} (hg : Gl X "enumerate") (hm : X.mg "enumerate" = none) (ha : PA X [e] ta) (hs : starEach [e] X.env = [(false, eval e X.env)] := by rfl) :
    PI X (.Tuple elts kk tpos) (.Call (.Name "enumerate" p) [e] [] pos) (iEnum X.K ta) := by
  intro pins s σ H R I h
  refine Call_ (ld_blt I hg hm boot_enumerate (PyProof.Rows.callWith_type1 (thn (ha pos pins s σ H _ I h) fun us s1 ⟨vs, H1, I1, r1, q1⟩ => ?_) hs rfl))
  obtain ⟨a, xs, ex, hq, q⟩ := q1
  subst ex
  cases r1 with
  | cons r rr =>
    cases rr
    cases r
    obtain ⟨its, rv, p', hz⟩ := I1.list hq
    refine call_enumerate_list p'.isList fun h' he hit hsz hk => wpAny_pyIter_enum he ?_
    have I2 : Inv X pins σ H1 { s1 with heap := h' } := I1.kept (t' := s1.toks) hk
    refine ⟨s1.heap.objs.size + 1, [s1.heap.objs.size + 1, s1.heap.objs.size], _, _, H1, rfl, I2, turn_enum a (s1.heap.objs.size + 1) s1.heap.objs.size, ⟨⟨.none, he⟩, hit, Nat.succ_ne_self _⟩, fun b hb => ?_, q⟩
    have e' : b = s1.heap.objs.size + 1 ∨ b = s1.heap.objs.size := by simpa using hb
    have hle : s1.heap.objs.size ≤ b := by
      rcases e' with z | z
      · rw [z]; exact Nat.le_add_right _ _
      · rw [z]; exact Nat.le_refl _
    exact I1.fpOk hle (I1.hok.fresh hle)
end L2
namespace Att
open PySem PySem.W PySem.Calls PyProof.Rows
section
variable {prog : Program} {w : World} {A : Around} {E : Value → Shared → Prop} {s : Shared} {K : Frag}
def noObjs (h : Heap) : Heap := { h with objs := #[] }
theorem noObjs_get (h : Heap) (b : Addr) : (noObjs h).get? b = none := by
  cases e : (noObjs h).get? b with
  | none => rfl
  | some o => exact absurd (Heap.lt_size e) (Nat.not_lt_zero _)
def ledger (h : Heap) (L d : Addr) : List (Addr × Obj) := (List.range h.objs.size).filterMap fun a => if a = L ∨ a = d then none else (h.get? a).map fun o => (a, o)
theorem mem_ledger {h : Heap} {L d a : Addr} {o : Obj} : (a, o) ∈ ledger h L d ↔ a ≠ L ∧ a ≠ d ∧ h.get? a = some o := by
  unfold ledger
  rw [List.mem_filterMap]
  constructor
  · rintro ⟨b, _, e⟩
    split at e
    · cases e
    · rename_i hb
      obtain ⟨o', ho, e'⟩ := Option.map_eq_some_iff.mp e
      cases e'
      exact ⟨fun q => hb (.inl q), fun q => hb (.inr q), ho⟩
  · rintro ⟨n1, n2, ho⟩
    refine ⟨a, List.mem_range.mpr (Heap.lt_size ho), ?_⟩
    rw [if_neg (show ¬ (a = L ∨ a = d) from fun q => q.elim n1 n2), ho] <;> rfl
theorem fr_all {h : Heap} {L : Addr} {m : Str → Option Value} (n : h.Ns L m) : Fr (noObjs h) L h m :=
  ⟨n, fun b o e => (by rw [noObjs_get] at e; cases e), Nat.zero_le _⟩
end
end Att
namespace L2
open PySem PySem.Spec PyProof.Rows
def inClass (s : Stmt) (j : Nat) : Stmt := match s with
  | .ClassDef _ _ _ body _ _ _ _ _ _ _ => body.getD j (.Pass ⟨0, 0, 0, 0⟩)
  | _ => .Pass ⟨0, 0, 0, 0⟩
def defArgs (s : Stmt) : Arguments := match s with
  | .FunctionDef _ a _ _ _ _ _ _ _ _ => a
  | _ => { posonlyargs := [], args := [], vararg := none, kwonlyargs := [], kw_defaults := [], kwarg := none, defaults := [] }
def defBody (s : Stmt) : List Stmt := match s with
  | .FunctionDef _ _ b _ _ _ _ _ _ _ => b
  | _ => []
def defScope (s : Stmt) : Scope := match s with
  | .FunctionDef _ _ _ _ _ _ sc _ _ _ => sc
  | _ => { kind := .function, names := [], isGenerator := false, isCoroutine := false }
abbrev CX0 : CXT := fun _ _ _ _ _ _ => False
abbrev E0 : XK := fun _ _ _ => False
theorem pass0 {X : Cx} : Passes CX0 X E0 := fun _ _ _ _ _ _ _ h => h.elim
structure Fun (K : PySem.W.Frag) (x qual : Str) (st : Stmt) (f : Addr) (fd : FuncData) : Prop where
  ex : ∃ (oc : Value) (od : Option Addr) (kV doc pm : Value) (an : Option Addr) (cdv ct : Value) (osl : Array (Option Value)),
    fd = PySem.W.fnOf x qual (defArgs st) (defBody st) (defScope st) .none kV doc pm an cdv ct ∧ K.lookup f = some ⟨oc, od, .func fd, osl⟩ ∧ PySem.W.codeIn K cdv qual = true
  kp : PySem.W.keepIn K (.ref f) = true
section
variable {P : Program} {w : World} {K : PySem.W.Frag} {mg : Str → Option Value} {base : Heap}
theorem Fun.ok {x qual : Str} {st : Stmt} {f : Addr} {fd : FuncData} {N ps : List Str} {k : Nat} {sp : Sp} (F : Fun K x qual st f fd) (S : FnScope N ps (defScope st)) (len : ∀ vs H Q E, sp vs H Q E → vs.length = ps.length)
    (hbody : ∀ (cdv : Value) (A : Around) (outer : List Env) (s : Shared) (H : Hp) (vs : List V) (Q : VK) (E : XK), Room k (A.deeper (envOfC qual (defScope st) s.heap.objs.size f cdv)) → sp vs H Q E →
      ∃ t, PSs (cxOf CX0 P w K mg base N qual (defScope st) f cdv A outer s H E).nox (defBody st) t ∧ t { nx := fun _ H' => Q .non H', rt := Q } (start N vs) H) : FnOk P w K mg base CX0 (k + 1) f fd ps sp := by
  obtain ⟨oc, od, kV, doc, pm, an, cdv, ct, osl, rfl, lk, hcd⟩ := F.ex
  refine fn_of lk hcd S len fun A outer s H vs Q E hr hsp => ?_
  obtain ⟨t, h, q⟩ := hbody cdv A outer s H vs Q E hr hsp
  exact ⟨t, h.nox, q⟩
theorem Fun.binds {x qual : Str} {st : Stmt} {f : Addr} {fd : FuncData} {ps : List Str} (F : Fun K x qual st f fd)
    (h : ∀ (kV doc pm : Value) (an : Option Addr) (cdv ct : Value) (us : List Value), us.length = ps.length → bindArgs (PySem.W.fnOf x qual (defArgs st) (defBody st) (defScope st) .none kV doc pm an cdv ct) ⟨us, []⟩ = pure (ps.zip us)) : Binds K fd ps [] := by
  obtain ⟨oc, od, kV, doc, pm, an, cdv, ct, osl, rfl, lk, hcd⟩ := F.ex
  exact .all (h kV doc pm an cdv ct)
theorem fun_mk {x qual : Str} {st : Stmt} {f : Addr} {oc : Value} {od an : Option Addr} {osl : Array (Option Value)} {kV doc pm cdv ct : Value} (l : K.lookup f = some ⟨oc, od, .func (PySem.W.fnOf x qual (defArgs st) (defBody st) (defScope st) .none kV doc pm an cdv ct), osl⟩)
    (c : PySem.W.codeIn K cdv qual = true) (k : PySem.W.keepIn K (.ref f) = true) : Fun K x qual st f (PySem.W.fnOf x qual (defArgs st) (defBody st) (defScope st) .none kV doc pm an cdv ct) := ⟨⟨oc, od, kV, doc, pm, an, cdv, ct, osl, rfl, l, c⟩, k⟩
end
theorem hu_of {A : Around} {k : Nat} (hr : Room k A) : A.units + 1 < cLine := Nat.lt_of_le_of_lt (Nat.add_le_add_left (by decide : 1 ≤ 64) _) hr.units
section
variable {X : Cx}
theorem pv (i : Nat) {x : Str} {pos : Pos} (hN : X.N[i]? = some x := by rfl) (hv : Vis X.env.scope x := by first | exact Or.inl rfl | exact Or.inr (Or.inl rfl) | exact Or.inr (Or.inr rfl)) (hd : (x == ("__debug__" : Str)) = false := by decide)
    (hcd : (x == ("__classdict__" : Str)) = false := by decide) : PE X (.Name x pos) (tVar i) := pe_var hN hv hd hcd
end
theorem iteF {A B : Prop} (h : B) : if false = true then A else B := by
  rw [if_neg Bool.false_ne_true]
  exact h
theorem iteT {A B : Prop} (h : A) : if true = true then A else B := by
  rw [if_pos rfl]
  exact h
theorem ite2 {c A B : Prop} [Decidable c] (h1 : c → A) (h2 : ¬ c → B) : if c then A else B := by
  by_cases h : c
  · rw [if_pos h]
    exact h1 h
  · rw [if_neg h]
    exact h2 h
def Same (H H' : Hp) : Prop := ∀ b o, H b = some o → H' b = some o
theorem Same.refl (H : Hp) : Same H H := fun _ _ h => h
theorem Same.trans {H H1 H2 : Hp} (a : Same H H1) (b : Same H1 H2) : Same H H2 := fun c o h => b c o (a c o h)
theorem Same.free {H H' : Hp} (e : Same H H') {l : Addr} (h : H' l = Option.none) : H l = Option.none := by
  cases q : H l with
  | none => rfl
  | some o =>
    rw [e l o q] at h
    cases h
theorem Same.seq {K : PySem.W.Frag} {H H' : Hp} {a : Addr} {xs : List V} (e : Same H H') (h : SqL K H a xs) : SqL K H' a xs := by
  rcases h with (h | ⟨o, h⟩) | h
  · exact .inl (.inl (e _ _ h))
  · exact .inl (.inr ⟨o, e _ _ h⟩)
  · exact .inr h
theorem at_of {xs : List V} {z : Int} {j : Nat} {v : V} (e : z = (j : Int)) (h : xs[j]? = some v) : atI xs z = some v := by
  rw [e]
  exact atI_nat h
theorem Same.made {H H1 : Hp} {x dx C : Addr} (nx : H x = Option.none) (nd : H dx = Option.none) (k : ∀ b o, (upd (upd H dx (.own x)) x (.ins C dx [])) b = some o → b ≠ x → H1 b = some o) : Same H H1 := fun b o e =>
  k b o (by rw [upd_ne (ne_of_none e nx), upd_ne (ne_of_none e nd)]; exact e) (ne_of_none e nx)
end L2
end
section
set_option Elab.async false
set_option linter.all false
set_option maxRecDepth 100000
namespace L2
open PySem PySem.Spec PyProof.Rows
structure ExcB (B : Heap) (a0 : Value) (P : Program) (w : World) (outer : List Env) (H : Hp) (s : Shared) (e : Addr) (cls : Value) (H' : Hp) (s' : Shared) : Prop where
  fly : Heap.FlyingW B outer e cls a0 s'.heap
  hok : HOk P w H' B
  old : ∀ b o, s.heap.get? b = some o → b ∉ frs outer → ∃ u, B.get? b = some u
  os : s'.os = s.os
  bare : AllBare s'.gens
  un : Un (frs outer) [] H H' s.heap s'.heap
def Exc (P : Program) (w : World) (outer : List Env) (H : Hp) (s : Shared) (e : Addr) (cls : Value) (H' : Hp) (s' : Shared) : Prop := ∃ B a0, ExcB B a0 P w outer H s e cls H' s'
def CXE (P : Program) (w : World) : CXT := fun outer H s E v s' => ∃ e cls H', v = .ref e ∧ Exc P w outer H s e cls H' s' ∧ E cls none H'
theorem ExcB.inv {B : Heap} {a0 : Value} {X : Cx} {pins : List (Addr × Obj)} {σ : St} {H H' : Hp} {s s' : Shared} {e : Addr} {cls : Value} (I : Inv X pins σ H s) (x : ExcB B a0 X.prog X.w X.stack H s e cls H' s') : Inv X pins σ H' s' :=
  I.call' (ch := []) x.os x.un (x.hok.kept x.fly.1) x.bare fun b z => absurd z (by simp)
theorem ExcB.move {B : Heap} {a0 : Value} {P : Program} {w : World} {outer : List Env} {H H' : Hp} {s s' : Shared} {e : Addr} {cls : Value} {h2 : Heap} (x : ExcB B a0 P w outer H s e cls H' s') (fl2 : Heap.FlyingW B outer e cls a0 h2) (up : s'.heap.UpToSlots h2) :
    ExcB B a0 P w outer H s e cls H' { s' with heap := h2 } := by
  refine ⟨fl2, x.hok, x.old, x.os, x.bare, ⟨fun b o hb n hf hx => ?_, fun b o hb n hf hx => ?_, x.un.free, fun b o hb hx => ?_, x.un.tups, x.un.frzs, x.un.tbls⟩⟩
  · obtain ⟨u, hu⟩ := x.old b o hb hf
    have h1 := x.un.keep b o hb n hf hx
    have h3 := x.fly.1 b u hu
    rw [h1] at h3
    cases h3
    exact fl2.1 b _ hu
  · obtain ⟨sl, h1⟩ := x.un.slot b o hb n hf hx
    obtain ⟨_, o', ho', hd⟩ := x.fly.2.2.1.mem (show b ∈ outer.filterMap (·.frame) from hf)
    rw [h1] at ho'
    cases ho'
    obtain ⟨sl2, h4⟩ := up b _ h1 hd
    exact ⟨sl2, h4⟩
  · by_cases hf : b ∈ frs outer
    · obtain ⟨_, o', ho', hd⟩ := fl2.2.2.1.mem (show b ∈ outer.filterMap (·.frame) from hf)
      exact ⟨o', ho'⟩
    · obtain ⟨u, hu⟩ := x.old b o hb hf
      exact ⟨u, fl2.1 b u hu⟩
section
variable {P : Program} {w : World} {K : PySem.W.Frag} {mg : Str → Option Value} {base : Heap} {N : List Str} {qual : Str} {scope : Scope} {f : Addr} {cd : Value} {A : Around} {outer : List Env} {s : Shared} {H : Hp} {E : XK}
theorem not_frame {b : Addr} {o : Obj} (hb : s.heap.get? b = some o) (n : b ∉ frs outer) : b ∉ frs (envOfC qual scope s.heap.objs.size f cd :: outer) := by
  intro hm
  unfold frs at hm
  rw [List.filterMap_cons] at hm
  rcases List.mem_cons.mp hm with e | e
  · have hlt := Heap.lt_size hb
    have e : b = s.heap.objs.size := e
    rw [e] at hlt
    exact absurd hlt (Nat.lt_irrefl _)
  · exact n e
theorem passes_def : Passes (CXE P w) (cxOf (CXE P w) P w K mg base N qual scope f cd A outer s H E) E := by
  intro pins σ H1 s1 v s' I h
  obtain ⟨e, cls, H', rfl, x, hE⟩ := h
  obtain ⟨B, a0, x⟩ := x
  have J := x.inv I
  have fl := x.fly
  have old := x.old
  show wpAny _ _ (leaving (envOfC qual scope s.heap.objs.size f cd) (.ref e)) _ _ s'
  refine wpAny_leaves_onW (base := B) (outer := outer) J.ok.frames rfl fl fun h2 fl2 up => ?_
  have has : ∀ b o, s.heap.get? b = some o → b ∉ frs outer → ∃ u, B.get? b = some u := fun b o hb n => by
    obtain ⟨o1, h1⟩ := I.base.there b o hb (by intro z; cases z)
    exact old b o1 h1 (not_frame hb n)
  refine ⟨e, cls, H', rfl, ⟨B, a0, fl2, x.hok, has, J.os, J.bare, ⟨fun b o hb n hf hx => ?_, fun b o hb n hf hx => ?_, J.base.free, fun b o hb hx => ?_, J.base.tups, J.base.frzs, J.base.tbls⟩⟩, hE⟩
  · obtain ⟨u, hu⟩ := has b o hb hf
    have h1 := J.base.keep b o hb n hf (by intro z; cases z)
    have h3 := fl.1 b u hu
    rw [h1] at h3
    cases h3
    exact fl2.1 b _ hu
  · obtain ⟨sl, h1⟩ := J.base.slot b o hb n hf (by intro z; cases z)
    obtain ⟨_, o', ho', hd⟩ := fl.2.2.1.mem (show b ∈ (envOfC qual scope s.heap.objs.size f cd :: outer).filterMap (·.frame) by rw [List.filterMap_cons]; exact List.mem_cons_of_mem _ hf)
    have h1' : s'.heap.get? b = some { o with slots := sl } := h1
    rw [h1'] at ho'
    cases ho'
    obtain ⟨sl2, h4⟩ := up b _ h1' hd
    exact ⟨sl2, h4⟩
  · by_cases hf : b ∈ frs outer
    · obtain ⟨_, o', ho', hd⟩ := fl2.2.2.1.mem (show b ∈ outer.filterMap (·.frame) from hf)
      exact ⟨o', ho'⟩
    · obtain ⟨u, hu⟩ := has b o hb hf
      exact ⟨u, fl2.1 b u hu⟩
theorem throws_def {pins : List (Addr × Obj)} {σ : St} {H1 : Hp} {s1 : Shared} {h1 : Heap} {e : Addr} {cls : Value} (I : Inv (cxOf (CXE P w) P w K mg base N qual scope f cd A outer s H E) pins σ H1 s1) (hx : Heap.MadeExcOf s1.heap h1 e cls []) (hE : E cls none H1) :
    (cxOf (CXE P w) P w K mg base N qual scope f cd A outer s H E).xe (.ref e) { s1 with heap := h1 } := by
  show wpAny _ _ (leaving (envOfC qual scope s.heap.objs.size f cd) (.ref e)) _ _ _
  have hfun : s1.heap.FunFrames (PySem.W.hideAll s1.heap (frs (envOfC qual scope s.heap.objs.size f cd :: outer))) (envOfC qual scope s.heap.objs.size f cd :: outer) :=
    PySem.W.funFrames_hide I.stack fun env he b hb => List.mem_filterMap.mpr ⟨env, he, hb⟩
  refine wpAny_leaves_madeW (base := PySem.W.hideAll s1.heap (frs (envOfC qual scope s.heap.objs.size f cd :: outer))) (h := s1.heap) (outer := outer) (args := []) I.ok.frames rfl (fun b o q => PySem.W.of_hideAll _ q) hfun hx fun h2 t fl2 _ _ up => ?_
  have inB : ∀ b o, s1.heap.get? b = some o → b ∉ frs (envOfC qual scope s.heap.objs.size f cd :: outer) → (PySem.W.hideAll s1.heap (frs (envOfC qual scope s.heap.objs.size f cd :: outer))).get? b = some o := fun b o hb n => PySem.W.hideAll_get _ hb n
  have hok : HOk P w H1 (PySem.W.hideAll s1.heap (frs (envOfC qual scope s.heap.objs.size f cd :: outer))) := fun b o q =>
    (I.hok b o q).stay (fun c u hc hu => inB c u hu fun hm => by
      have hz := I.stkFree c hm
      rcases hc with rfl | hc
      · rw [q] at hz; cases hz
      · rw [hc] at hz; cases hz) (fun _ z => z) fun _ _ z => z
  have has : ∀ b o, s.heap.get? b = some o → b ∉ frs outer → ∃ u, (PySem.W.hideAll s1.heap (frs (envOfC qual scope s.heap.objs.size f cd :: outer))).get? b = some u := fun b o hb n => by
    obtain ⟨o1, h1⟩ := I.base.there b o hb (by intro z; cases z)
    exact ⟨o1, inB b o1 h1 (not_frame hb n)⟩
  refine ⟨e, cls, H1, rfl, ⟨_, _, fl2, hok, has, I.os, I.bare, ⟨fun b o hb n hf hx' => ?_, fun b o hb n hf hx' => ?_, I.base.free, fun b o hb hx' => ?_, I.base.tups, I.base.frzs, I.base.tbls⟩⟩, hE⟩
  · exact fl2.1 b o (inB b o (I.base.keep b o hb n hf (by intro z; cases z)) (not_frame hb hf))
  · obtain ⟨sl, h3⟩ := I.base.slot b o hb n hf (by intro z; cases z)
    obtain ⟨_, o', ho', hd⟩ := hfun.mem (show b ∈ (envOfC qual scope s.heap.objs.size f cd :: outer).filterMap (·.frame) by rw [List.filterMap_cons]; exact List.mem_cons_of_mem _ hf)
    have h3' : s1.heap.get? b = some { o with slots := sl } := h3
    rw [h3'] at ho'
    cases ho'
    obtain ⟨sl2, h4⟩ := up b _ (hx.keeps _ _ h3') hd
    exact ⟨sl2, h4⟩
  · by_cases hf : b ∈ frs outer
    · obtain ⟨_, o', ho', hd⟩ := fl2.2.2.1.mem (show b ∈ outer.filterMap (·.frame) from hf)
      exact ⟨o', ho'⟩
    · obtain ⟨u, hu⟩ := has b o hb hf
      exact ⟨u, fl2.1 b u hu⟩
end
def excBM : List Value := [.type "Exception", .type "BaseException", .type "object"]
def XCls (K : PySem.W.Frag) (C : Addr) : Prop := ∃ (nm q : Str) (N : Addr) (bs : List Value) (hdct : Bool) (sn : List Str) (sub : List Value) (ab : Bool) (col : Option Bool) (dd : Option Addr) (k0 k1 k2 k3 k5 : Option Value),
  K.lookup C = some (excClassObj nm q C N bs excBM hdct sn sub ab col dd k0 k1 k2 k3 k5 "Exception.__new__") ∧ PySem.W.nsOkIn K N = true ∧ PySem.W.nsIn K N "__init__" = some none
def Throws (X : Cx) (C : Addr) (E : XK) : Prop := ∀ (pins : List (Addr × Obj)) (σ : St) (H : Hp) (s : Shared) (h1 : Heap) (e : Addr), Inv X pins σ H s → Heap.MadeExcOf s.heap h1 e (.ref C) [] → E (.ref C) none H → X.xe (.ref e) { s with heap := h1 }
theorem throws_in {P : Program} {w : World} {K : PySem.W.Frag} {mg : Str → Option Value} {base : Heap} {N : List Str} {qual : Str} {scope : Scope} {f : Addr} {cd : Value} {A : Around} {outer : List Env} {s : Shared} {H : Hp} {E : XK} {C : Addr} :
    Throws (cxOf (CXE P w) P w K mg base N qual scope f cd A outer s H E) C E := fun _ _ _ _ _ _ I hx hE => throws_def I hx hE
section
variable {X : Cx} {C : Addr} {E : XK} {x : Str} {np cpos pos : Pos}
def tRaise (C : Addr) (E : XK) : TS := fun _ _ H => E (.ref C) none H
theorem ps_raise (c : XCls X.K C) (hg : Gl X x) (hm : X.mg x = some (.ref C)) (hc : X.calm = true) (ht : Throws X C E) (hdb : (x == ("__debug__" : Str)) = false := by decide) :
    PS X (.Raise (some (.Call (.Name x np) [] [] cpos)) none pos) (tRaise C E) := by
  intro pins s σ H D I h
  obtain ⟨nm, q, N, bs, hdct, sn, sub, ab, col, dd, k0, k1, k2, k3, k5, hC, hN, hni⟩ := c
  have KX := I.kIn
  refine wpAny_Raise_call_subT (C := C) (nm := nm) (q := q) (N := N) (bs := bs) (bm := excBM) (hdct := hdct) (sn := sn) (sub := sub) (ab := ab) (col := col) (dd := dd) (k0 := k0) (k1 := k1) (k2 := k2) (k3 := k3) (k5 := k5)
    (mN := s.heap.nsMap N) PySem.F.excBase_Exception (by decide) (I.ok.hd hc) rfl (PySem.W.nsMap_none_of_in KX hN hni) (ld_glob I hg hm ⟨rfl, ?_⟩ hdb)
  exact evalArgs_empty ⟨rfl, Nat.zero_le _, KX _ _ hC, .of_isNs (PySem.W.isNs_of_in KX hN), .base, fun h1 e hx => ht pins σ H s h1 e I hx h⟩
end
end L2
end
section
set_option Elab.async false
set_option linter.all false
set_option maxRecDepth 100000
namespace L2
open PySem PySem.Spec PyProof.Rows
abbrev Cx.inH (X : Cx) (e : Addr) : Cx := { X with A := X.A.mark (some (.ref e)), calm := false, xe := fun _ _ => False }
abbrev Cx.inT (X : Cx) (pins : List (Addr × Obj)) (E : Value → Shared → Prop) : Cx := { X with pn := X.pn ++ pins, xe := E }
section
variable {X : Cx} {pins pins' : List (Addr × Obj)} {σ : St} {H : Hp} {s : Shared} {e : Addr} {E : Value → Shared → Prop}
theorem Inv.inH (I : Inv X pins σ H s) (e : Addr) : Inv (X.inH e) pins σ H s :=
  have ok := I.ok
  ⟨⟨ok.mod, ok.kind, ok.glob, ok.blt, ok.above, ok.inj, ok.has, ok.cab, (fun z => nomatch z), ok.frames, ok.stk, ok.exf, ok.bs, ok.bsz, ok.noex, ok.exfs, ok.funs, ok.frf⟩, I.os, I.bare, I.base, I.loc, I.cell, I.free, I.freeC, I.pin, I.hok, I.len⟩
theorem Inv.outH (ok : X.Ok) (I : Inv (X.inH e) pins σ H s) : Inv X pins σ H s := ⟨ok, I.os, I.bare, I.base, I.loc, I.cell, I.free, I.freeC, I.pin, I.hok, I.len⟩
theorem Inv.inT (I : Inv X pins σ H s) (E : Value → Shared → Prop) : Inv (X.inT pins E) [] σ H s :=
  have ok := I.ok
  ⟨⟨ok.mod, ok.kind, ok.glob, ok.blt, ok.above, ok.inj, ok.has, ok.cab, ok.hd, ok.frames, ok.stk, ok.exf, ok.bs, ok.bsz, ok.noex, ok.exfs, ok.funs, ok.frf⟩, I.os, I.bare, I.base, I.loc, I.cell, I.free, I.freeC,
    fun p hp => I.pin p (by simpa using hp), I.hok, I.len⟩
theorem Inv.outT (I : Inv (X.inT pins E) pins' σ H s) : Inv X pins σ H s :=
  have ok := I.ok
  ⟨⟨ok.mod, ok.kind, ok.glob, ok.blt, ok.above, ok.inj, ok.has, ok.cab, ok.hd, ok.frames, ok.stk, ok.exf, ok.bs, ok.bsz, ok.noex, ok.exfs, ok.funs, ok.frf⟩, I.os, I.bare, I.base, I.loc, I.cell, I.free, I.freeC,
    fun p hp => I.pin p (List.mem_append_left _ hp), I.hok, I.len⟩
theorem SP.outH (ok : X.Ok) {D : Ends} {f : Flow} (h : SP (X.inH e) pins D f s) : SP X pins D f s := by
  cases f with
  | next => obtain ⟨σ', H', I, q⟩ := h; exact ⟨σ', H', I.outH ok, q⟩
  | brk => obtain ⟨σ', H', I, q⟩ := h; exact ⟨σ', H', I.outH ok, q⟩
  | cont => obtain ⟨σ', H', I, q⟩ := h; exact ⟨σ', H', I.outH ok, q⟩
  | ret u => obtain ⟨v, σ', H', I, r, q⟩ := h; exact ⟨v, σ', H', I.outH ok, r, q⟩
theorem SP.outT {D : Ends} {f : Flow} (h : SP (X.inT pins E) pins' D f s) : SP X pins D f s := by
  cases f with
  | next => obtain ⟨σ', H', I, q⟩ := h; exact ⟨σ', H', I.outT, q⟩
  | brk => obtain ⟨σ', H', I, q⟩ := h; exact ⟨σ', H', I.outT, q⟩
  | cont => obtain ⟨σ', H', I, q⟩ := h; exact ⟨σ', H', I.outT, q⟩
  | ret u => obtain ⟨v, σ', H', I, r, q⟩ := h; exact ⟨v, σ', H', I.outT, r, q⟩
end
theorem exc_other {M : Model} {A : Around} {E : Value → Shared → Prop} {K : PySem.W.Frag} {C D e : Addr} {oe : Obj} {s : Shared} {Q : Bool → Shared → Prop} (KX : K.In s.heap) (c : XCls K C) (d : XCls K D) (ne : D ≠ C) (he : s.heap.get? e = some oe) (hcls : oe.cls = .ref D) (hq : Q false s) :
    wpAny M A (excMatches (.ref e) (.ref C)) Q E s := by
  obtain ⟨nm, q, N, bs, hdct, sn, sub, ab, col, dd, k0, k1, k2, k3, k5, hC, _, _⟩ := c
  obtain ⟨nm', q', N', bs', hdct', sn', sub', ab', col', dd', k0', k1', k2', k3', k5', hD, _, _⟩ := d
  have hC := KX _ _ hC
  have hD := KX _ _ hD
  have b1 : (Value.ref C :: excBM).contains (.type "BaseException") = true := by rw [List.contains_cons]; rfl
  have b2 : (Value.ref D :: excBM).contains (.ref C) = false := by
    rw [List.contains_cons]
    have : (Value.ref C == Value.ref D) = false := by
      rw [beq_eq_false_iff_ne]
      intro z
      injection z with z
      exact ne z.symm
    rw [this]
    rfl
  have nt := tc_notTuple
  obtain ⟨hp, g, dr, tk, os⟩ := s
  unfold excMatches
  repeat (first | (with_reducible refine wpAny_loadPart_at he ?_; rw [hcls]) | with_reducible refine wpAny_loadPart_at hC ?_ | (with_reducible refine wpAny_isSubtype_exc hC ?_; rw [b1]) | (with_reducible refine wpAny_isSubtype_exc hD ?_; rw [b2]) | wp_step)
  exact hq
theorem exc_same {M : Model} {A : Around} {E : Value → Shared → Prop} {K : PySem.W.Frag} {C e : Addr} {oe : Obj} {s : Shared} {Q : Bool → Shared → Prop} (KX : K.In s.heap) (c : XCls K C) (he : s.heap.get? e = some oe) (hcls : oe.cls = .ref C) (hq : Q true s) :
    wpAny M A (excMatches (.ref e) (.ref C)) Q E s := by
  obtain ⟨nm, q, N, bs, hdct, sn, sub, ab, col, dd, k0, k1, k2, k3, k5, hC, _, _⟩ := c
  obtain ⟨hp, g, dr, tk, os⟩ := s
  exact wpAny_excMatches_sub_self (KX _ _ hC) he hcls (by decide) hq
def PH (X : Cx) (hs : List ExceptHandler) (th : Value → TS) : Prop :=
  ∀ (pins : List (Addr × Obj)) (B : Heap) (a0 : Value) (e : Addr) (cls : Value) (σ : St) (H1 H : Hp) (D : Ends) (s1 s : Shared), Inv X pins σ H1 s1 → ExcB B a0 X.prog X.w X.stack H1 s1 e cls H s → th cls D σ H →
    wpAny (model X.prog X.w) X.A (handleBy (.ref e) X.env hs) (SP X pins D) X.xe s
section
variable {X : Cx} {C : Addr} {x : Str} {np hpos : Pos} {b0 : Stmt} {suite : List Stmt} {rest : List ExceptHandler} {tb : TS} {tr : Value → TS}
theorem ph_nil : PH X [] (fun _ => tNever) := fun _ _ _ _ _ _ _ _ _ _ _ _ _ h => h.elim
def tClause (K : PySem.W.Frag) (C : Addr) (tb : TS) (tr : Value → TS) : Value → TS := fun cls D σ H => (cls = .ref C ∧ tb D σ H) ∨ ((∃ F, cls = .ref F ∧ F ≠ C ∧ XCls K F) ∧ tr cls D σ H)
theorem ph_cons (c : XCls X.K C) (hg : Gl X x) (hm : X.mg x = some (.ref C)) (hb : ∀ e, PSs (X.inH e) (b0 :: suite) tb) (hr : PH X rest tr) (hdb : (x == ("__debug__" : Str)) = false := by decide) :
    PH X (.ExceptHandler (some (.Name x np)) none (b0 :: suite) hpos :: rest) (tClause X.K C tb tr) := by
  intro pins B a0 e cls σ H1 H D s1 s I ex h
  have J := ex.inv I
  have JH := J.inH e
  obtain ⟨oe, hoe, hcl⟩ := ex.fly.there
  refine wpAny_handleBy_cons (codeAny_handlers_test (ld_glob (X := X.inH e) JH hg hm ?_ hdb)) (by intro z; cases z)
  rcases h with ⟨rfl, h⟩ | ⟨⟨F, rfl, ne, cF⟩, h⟩
  · refine exc_same J.kIn c hoe hcl ?_
    refine codeAny_handlers_suite (lands_againW ex.fly fun h2 fl2 up => ?_)
    have ex2 := ex.move fl2 up
    refine wpAny_noRaise (wpAny_mono (hb e pins _ σ H D ((ex2.inv I).inH e) h) (fun f s3 q3 => ?_) fun _ _ z => z)
    exact q3.outH I.ok
  · refine exc_other J.kIn c cF ne hoe hcl ?_
    exact hr pins B a0 e (.ref F) σ H1 H D s1 s I ex h
end
section
variable {X : Cx} {E : XK} {body : List Stmt} {h0 : ExceptHandler} {hs : List ExceptHandler} {t : TS} {th : Value → TS} {pos : Pos}
def tTry (E : XK) (t : TS) (th : Value → TS) : TS := fun D σ H => t D σ H ∧ ∀ cls (σ' : St) H', E cls none H' → th cls D σ' H'
theorem ps_try (hstk : X.stack = X.env :: X.outer) (hfr : X.env.frame = some X.env.locals)
    (hb : ∀ (pins : List (Addr × Obj)) (xe : Value → Shared → Prop), Passes (CXE X.prog X.w) (X.inT pins xe) E → PassesOwn (model X.prog X.w) X.A X.env xe → PSs (X.inT pins xe) body t)
    (hh : PH X (h0 :: hs) th) : PS X (.Try body (h0 :: hs) [] [] pos) (tTry E t th) := by
  intro pins s σ H D I h
  obtain ⟨ht, hth⟩ := h
  refine wpAny_Try_except ?_
  refine wpAny_mono (hb pins (fun e s1 => wpAny (model X.prog X.w) X.A (noteFrame e X.env) (fun _ s2 => wpAny (model X.prog X.w) X.A (setFlight e none) (fun _ s3 => wpAny (model X.prog X.w) X.A (handleBy e X.env (h0 :: hs)) (SP X pins D) X.xe s3) X.xe s2) X.xe s1)
    ?pass PassesOwn.looking [] s σ H D (I.inT _) ht) (fun f s1 q => ?_) fun _ _ z => z
  case pass =>
    intro pins' σ' H1 s1 v s' I1 hx
    obtain ⟨e, cls, H', rfl, ⟨B, a0, x⟩, hE⟩ := hx
    show wpAny _ X.A (noteFrame (.ref e) X.env) _ _ s'
    have fl : Heap.FlyingW B (X.env :: X.outer) e cls a0 s'.heap := by rw [← hstk]; exact x.fly
    have hf : X.A.frames = some (X.env :: X.outer) := by rw [← hstk]; exact I.ok.frames
    refine wpAny_looks_onW hf hfr fl fun h4 hheld up4 => ?_
    refine wpAny_landsW hheld fun h5 fl5 up5 => ?_
    have x5 : ExcB B a0 X.prog X.w X.stack H1 s1 e cls H' { s' with heap := h5 } := by
      have fl5' : Heap.FlyingW B X.stack e cls a0 h5 := by rw [hstk]; exact fl5
      exact ExcB.move x fl5' (up4.trans up5)
    exact hh pins B a0 e cls σ' H1 H' D s1 _ I1.outT x5 (hth cls σ' H' hE)
  · have q' := SP.outT q
    cases f with
    | next => exact wpAny_execs_nil q'
    | brk => exact q'
    | cont => exact q'
    | ret u => exact q'
end
end L2
end
section
set_option Elab.async false
set_option linter.all false
set_option maxRecDepth 100000
namespace L2
open PySem PySem.Spec PyProof.Rows
section
variable {X : Cx}
theorem Vals.insert {xs : List V} {us : List Value} {y : V} {u : Value} (r : Vals xs us) (ry : RelV y u) (i : Nat) : Vals (xs.take i ++ y :: xs.drop i) (us.take i ++ u :: us.drop i) :=
  Vals.append (r.take i) (.cons ry (r.drop i))
def rInsert : V → List V → Hp → VK → Prop := fun x vs H Q => ∃ (l : Addr) (xs : List V) (i : Nat) (y : V), x = .ref l ∧ vs = [.int (i : Int), y] ∧ H l = some (.lst xs) ∧ i ≤ xs.length ∧ xs.length < sizeLine ∧ Q .non (upd H l (.lst (xs.take i ++ y :: xs.drop i)))
theorem mt_insert : MtM X "list.insert" rInsert := by
  intro pins s σ H x vs v us Q I rx rv h
  obtain ⟨l, xs, i, y, rfl, rfl, hH, hi, hz, q⟩ := h
  cases rx
  cases rv with
  | cons r1 rr =>
    obtain ⟨t, rfl⟩ := r1
    obtain ⟨u, rfl, ru⟩ := Vals.one rr
    obtain ⟨z, its, n, r, hl, e⟩ := I.lstM hH
    have line := sizeLine_eq
    have hfit : Builtin.List.listFitsIndex (i : Int) = true := by
      exact fitsIndex_both (by omega) (by rw [line] at hz; omega)
    obtain ⟨x, hx⟩ : ∃ x : Int, x = (i : Int) := ⟨_, rfl⟩
    rw [← hx] at hfit ⊢
    have ei : (if x < 0 then (x + (its.toArray.size : Int)).toNat else min x.toNat its.toArray.size) = i := by
      rw [if_neg (by omega), List.size_toArray]
      omega
    refine call_meets PySem.F.slot_list_insert ⟨_, e, rfl⟩ PySem.F.entry_list_insert (PySem.F.args_list_insert_3 _ _ _) (PySem.AutoSeq1.list_insert_list_int_val_1 l _ n x t u (by simp [hfit]) (by rw [List.size_toArray]; omega)) ⟨e, ?_⟩
    refine ⟨.non, _, I.lset (its' := its.take i ++ u :: its.drop i) hH e ?_ (r.insert ru i) ?_, rfl, q⟩
    · show (its.toArray.extract 0 (if x < 0 then (x + (its.toArray.size : Int)).toNat else min x.toNat its.toArray.size)).push u ++ its.toArray.extract (if x < 0 then (x + (its.toArray.size : Int)).toNat else min x.toNat its.toArray.size) = _
      rw [ei]
      exact PySem.W.kl_ins_eq its i u
    · rw [List.length_append, List.length_cons, List.length_take, List.length_drop]
      omega
def rCount (K : PySem.W.Frag) : V → List V → Hp → VK → Prop := fun x vs H Q => ∃ (l : Addr) (ns : List Int) (k : Int), x = .ref l ∧ vs = [.int k] ∧ SqL K H l (ns.map V.int) ∧ Q (.int (ns.count k : Int)) H
theorem mt_count_ints : MtM X "list.count" (rCount X.K) := by
  intro pins s σ H x vs v us Q I rx rv h
  obtain ⟨l, ns, k, rfl, rfl, hq, q⟩ := h
  cases rx
  obtain ⟨u, rfl, ru⟩ := rv.one
  obtain ⟨t, rfl⟩ := ru
  obtain ⟨its, r', pl, hz⟩ := I.list hq
  refine count_list_ints (ns := ns) pl.isList r'.ints ?_
  exact ⟨.int (ns.count k : Int), H, I.tok _, ⟨_, rfl⟩, q⟩
def tCallE {ι : Type} (fs : ι → Addr) (sp : ι → Sp) (E : XK) (tg : TE) (t : TA) : TE := fun σ H Q => tg σ H fun x H1 => ∃ i, x = .ref (fs i) ∧ t σ H1 fun vs H2 => sp i vs H2 Q E
theorem pe_callE {CX : CXT} {k : Nat} {ι : Type} {fs : ι → Addr} {fd : ι → FuncData} {ps : ι → List Str} {sp : ι → Sp} {E : XK} {g e : Expr} {es : List Expr} {tg : TE} {t : TA} {pos : Pos}
    (F : ∀ i, FnOk X.prog X.w X.K X.mg X.base CX k (fs i) (fd i) (ps i) (sp i)) (hr : Room k X.A) (hk : ∀ i, PySem.W.keepIn X.K (.ref (fs i)) = true) (hb : ∀ i, Binds X.K (fd i) (ps i) []) (hx : Passes CX X E) (hg : PE X g tg)
    (ha : PA X (e :: es) t) (ht : eval (.Call g (e :: es) [] pos) X.env = (do callWith pos (← eval g X.env) [] (backTo pos (starEach (e :: es) X.env)) (backToKw pos (keywordEach [] X.env))) := by rfl)
    (he : starEach (e :: es) X.env = (false, eval e X.env) :: starEach es X.env := by rfl) (hpl : (backTo pos (starEach es X.env)).any (·.1) = false := by rfl) :
    PE X (.Call g (e :: es) [] pos) (tCallE fs sp E tg t) := by
  intro pins s σ H Q I h
  rw [ht]
  refine wpAny_bind (thn (hg pins s σ H _ I h) fun u s1 ⟨x, H1, I1, rx, i, ex, q⟩ => ?_)
  subst ex
  obtain rfl : u = Value.ref (fs i) := rx
  refine PySem.W.callWith_K (h₀ := X.base) I.ok.mod.kin (hk i) (thn (ha pos pins s1 σ H1 _ I1 q) fun us s2 ⟨vs, H2, I2, r, q2⟩ => ⟨I2.kIn, ?_⟩) he hpl
  exact run_fn (dvs := []) (F i) hr (hb i) .nil hx I2 r (by rw [List.append_nil]; exact q2)
def tRng1 (ta : TA) : TE := fun σ H Q => ta σ H fun vs H1 => ∃ j : Int, vs = [.int j] ∧ -(2 ^ 62) ≤ j ∧ j < 2 ^ 62 ∧ ∀ p, H1 p = none → Q (.ref p) (upd H1 p (.rng 0 j))
theorem pe_range1 {a : Expr} {ta : TA} {p pos : Pos} (hg : Gl X "range") (hm : X.mg "range" = none) (ha : PA X [a] ta) (hs : starEach [a] X.env = [(false, eval a X.env)] := by rfl) : PE X (.Call (.Name "range" p) [a] [] pos) (tRng1 ta) := by
  intro pins s σ H Q I h
  refine Call_ (ld_blt I hg hm boot_range (PyProof.Rows.callWith_type1 (thn (ha pos pins s σ H _ I h) fun us s1 ⟨vs, H1, I1, r1, q1⟩ => ?_) hs rfl))
  obtain ⟨j, e, q1, q2, q⟩ := q1
  subst e
  cases r1 with
  | cons r rr =>
    cases rr
    obtain ⟨t, rfl⟩ := r
    refine call_range_1 ?_
    exact ⟨.ref s1.heap.objs.size, _, I1.laid (o := .rng 0 j) (fun b u e => Heap.get?_push_of_some _ e) (Nat.le_refl _) ⟨_, _, _, Heap.get?_push_size _ rfl⟩, rfl, q _ I1.fresh⟩
theorem vals_items {lo : Int} : ∀ (n : Nat) (k : Nat) (us : List Value), us.length = n → (∀ i (u : Value), us[i]? = some u → ∃ t, u = .int (lo + ((k + i : Nat) : Int)) t) → Vals ((List.range' k n).map fun (i : Nat) => V.int (lo + (i : Int))) us
  | 0, k, us, hl, _ => by
    cases us with
    | nil => exact .nil
    | cons => simp at hl
  | n + 1, k, us, hl, h => by
    cases us with
    | nil => simp at hl
    | cons u us =>
      obtain ⟨t, rfl⟩ := h 0 u rfl
      rw [List.range'_succ, List.map_cons]
      refine .cons ⟨t, by simp⟩ (vals_items n (k + 1) us (by simpa using hl) fun i v hv => ?_)
      obtain ⟨t', e⟩ := h (i + 1) v hv
      exact ⟨t', by rw [e]; congr 2; omega⟩
theorem call_list_rng (hc : X.calm = true) : CallR X (.type "list") (fun xs H Q => ∃ (p : Addr) (hi : Int), xs = [.ref p] ∧ H p = some (.rng 0 hi) ∧ 0 ≤ hi ∧ hi < 1000000 ∧ ∀ l, H l = none → Q (.ref l) (upd H l (.lst ((List.range hi.toNat).map fun (i : Nat) => V.int (i : Int))))) := by
  intro pins s σ H xs us Q I r h
  obtain ⟨p, hi, rfl, hp, h0, h1, q⟩ := h
  obtain ⟨u, rfl, rx⟩ := vals1 r
  cases rx
  obtain ⟨t, u, v, e⟩ := (show ObjOk X.prog X.w H s.heap p (.rng 0 hi) from I.hok p _ hp)
  have hsm : Builtin.Range.small 0 hi 1 = true := small_one (by omega) (by omega) (by omega) (by omega)
  have hsz : Builtin.Range.rangeSize 0 hi 1 = (hi.toNat : Int) := by rw [rangeSize_one]; split <;> omega
  refine call_list_range (n := hi.toNat) (I.ok.hd hc) e hsm hsz (by omega) fun h' tk acc' c' kp e' hit => ?_
  have hlen : acc'.toList.length = hi.toNat := by rw [Array.length_toList]; exact hit.1
  have hv : Vals ((List.range hi.toNat).map fun (i : Nat) => V.int (i : Int)) acc'.toList := by
    have z := vals_items (lo := 0) hi.toNat 0 acc'.toList hlen fun i u hu => ?_
    · rw [← List.range_eq_range'] at z
      simpa using z
    · have hu' : acc'[i]? = some u := by rw [← Array.getElem?_toList]; exact hu
      obtain ⟨t', e2⟩ := hit.2 i u hu'
      exact ⟨t', by rw [e2]; simp⟩
  have line := sizeLine_eq
  refine ⟨.ref s.heap.objs.size, _, I.laid (o := .lst _) (t' := tk) kp (Nat.le_refl _) ⟨by rw [List.length_map, List.length_range, line]; omega, acc'.toList, c', hv, by rw [Array.toArray_toList]; exact e'⟩, rfl, q _ I.fresh⟩
end
end L2
end
section
set_option Elab.async false
set_option linter.all false
set_option maxRecDepth 100000
set_option maxHeartbeats 2000000
namespace L2
open PySem PySem.Spec PyProof.Rows
def adOf : Value → Addr
  | .ref a => a
  | _ => 0
theorem vals_refs : ∀ {as : List Addr} {us : List Value}, Vals (as.map V.ref) us → us = as.map Value.ref
  | [], _, .nil => rfl
  | a :: as, _, .cons r t => by
    have r : _ = Value.ref a := r
    rw [r, vals_refs t]
    rfl
theorem vals_of_refs : ∀ as : List Addr, Vals (as.map V.ref) (as.map Value.ref)
  | [] => .nil
  | a :: as => .cons rfl (vals_of_refs as)
section
variable {X : Cx} {pins : List (Addr × Obj)} {σ : L2.St} {H : Hp} {s : Shared}
theorem Inv.quietly {m : Str → Option Value} {h' : Heap} {t' : Nat} (I : Inv X pins σ H s) (hm : s.heap.Ns X.env.locals m) (hm' : h'.Ns X.env.locals m) (k : ∀ b o, b ≠ X.env.locals → s.heap.get? b = some o → h'.get? b = some o) :
    HOk X.prog X.w H h' ∧ X.K.In h' ∧ h'.NoLimit := by
  have hL : ∀ b o, H b = some o → b ≠ X.env.locals := fun b o e z => by rw [z, I.free] at e; cases e
  have hb : ∀ b o, X.base.get? b = some o → h'.get? b = some o := fun b o e => k b o (fun z => by
    have hlt := Heap.lt_size e
    have h2 := Nat.le_trans I.ok.bsz I.ok.above
    rw [z] at hlt
    exact absurd (Nat.lt_of_lt_of_le hlt h2) (Nat.lt_irrefl _)) (I.bk b o e)
  refine ⟨fun b o e => (I.hok b o e).stay (fun c u hc q => k c u ?_ q) (fun _ z => z) fun _ _ z => z, I.ok.mod.kin.keeps hb, I.ok.mod.nolimit.keeps hb⟩
  rcases hc with rfl | hc
  · exact hL _ _ e
  · exact hL _ _ hc
theorem there_of {o : HO} : ∀ {b : Addr} {h : Heap}, ObjOk X.prog X.w H h b o → ∃ ob, h.get? b = some ob := by
  intro b h x
  cases o with
  | lst xs => obtain ⟨_, _, _, _, e⟩ := x; exact ⟨_, e⟩
  | tup xs => obtain ⟨_, _, _, ob, e, _⟩ := x; exact ⟨_, e⟩
  | dK kvs => obtain ⟨_, _, _, _, ob, _, _, e, _⟩ := x; exact ⟨_, e⟩
  | dT kvs => obtain ⟨_, _, _, _, ob, _, _, e, _⟩ := x; exact ⟨_, e⟩
  | set S n => obtain ⟨ob, _, _, _, e, _⟩ := x; exact ⟨_, e⟩
  | ins C dx fs => obtain ⟨_, _, _, e, _⟩ := x; exact ⟨_, e⟩
  | own y => exact x
  | xd fs => obtain ⟨_, ⟨_, _, _, e, _⟩, _⟩ := x; exact ⟨_, e⟩
  | rng lo hi => obtain ⟨_, _, _, e⟩ := x; exact ⟨_, e⟩
  | frz ob u => obtain ⟨e, _⟩ := x; exact ⟨_, e⟩
  | tbl ps => exact ⟨_, x⟩
  | met f y => exact ⟨_, x⟩
  | ext φ => obtain ⟨_, e, _⟩ := x; exact e
theorem ns_one {h : Heap} {a : Addr} {m m' : Str → Option Value} (x : h.Ns a m) (y : h.Ns a m') : m' = m := by
  obtain ⟨o, es, ep, e, d, _, f⟩ := x
  obtain ⟨o', es', ep', e', d', _, f'⟩ := y
  rw [e] at e'
  cases e'
  rw [d] at d'
  cases d'
  funext n
  rw [← f n, ← f' n]
theorem sorted_field {Q : VK} {l f c' C : Addr} {as : List Addr} {kz : List Int} {name qual arg fld : Str} {params : Arguments} {scope : Scope} {pm ctv : Value} {p1 p2 : Pos} (I : Inv X pins σ H s) (hlst : SqL X.K H l (as.map V.ref)) (hsm : as.length ≤ 64)
    (hf : s.heap.get? f = some (PySem.W.kla_obj name qual params (.Attribute (.Name arg p1) fld p2) scope [] pm c' ctv)) (hc : s.heap.CodeRec (.ref c') qual)
    (hbind : ∀ v, bindArgs (PySem.W.kla_fn name qual params (.Attribute (.Name arg p1) fld p2) scope [] pm (.ref c') ctv) ⟨[v], []⟩ = pure [(arg, v)])
    (hk : scope.kind = .function) (hco : scope.isCoroutine = false) (hgen : scope.isGenerator = false) (hloc : scope.names.lookup arg = some .local) (hcell : ∀ x ∈ scope.names, x.2 ≠ .cell) (hdb : (arg == ("__debug__" : Str)) = false)
    (cl : Cls X.K C) (na : NoAttr X.K C fld) (hfL : f ≠ X.env.locals) (hcL : c' ≠ X.env.locals) (hroom : X.A.in1.in1.depth < recursionLimit) (hlen : kz.length = as.length)
    (hkey : ∀ (i : Nat) (b : Addr) (z : Int), as[i]? = some b → kz[i]? = some z → ∃ dx fs, H b = some (.ins C dx fs) ∧ fs.lookup fld = some (.int z))
    (q : ∀ (D : Addr) (qs : List (Int × Addr)), qs.Perm (kz.zip as) → qs.Pairwise (fun x y => x.1 ≤ y.1) → (∀ c : Int, qs.filter (fun p => p.1 == c) = (kz.zip as).filter (fun p => p.1 == c)) → H D = none → Q (.ref D) (upd H D (.lst ((qs.map (·.2)).map V.ref)))) :
    wpAny (model X.prog X.w) X.A (call (.builtin "sorted") [.ref l] [(Str.ofString "key", .ref f)]) (EP X pins σ Q) X.xe s := by
  obtain ⟨its, rv, pl, hz⟩ := I.list hlst
  obtain rfl := vals_refs rv
  obtain ⟨m, hm, _⟩ := id I.loc
  have line := sizeLine_eq
  have mem : ∀ b o, b ≠ X.env.locals → s.heap.get? b = some o → (b, o) ∈ Att.ledger s.heap X.env.locals X.env.locals := fun b o n e => Att.mem_ledger.mpr ⟨n, n, e⟩
  have N0 : News (Att.noObjs s.heap) X.env.locals s.heap (Att.ledger s.heap X.env.locals X.env.locals) := fun p hp => by
    obtain ⟨b, o⟩ := p
    obtain ⟨n1, _, e⟩ := Att.mem_ledger.mp hp
    exact ⟨e, n1, Att.noObjs_get _ _⟩
  refine ksk_sortedSt (b := false) (kz := kz) (f := .ref f) (Att.fr_all hm) N0 pl.isList (by rw [List.length_map]; exact hlen) (by rw [List.length_map, line]; omega) (ksk_s1 _ _) (fun x => ksk_l1 _ _) (fun x => ksk_t1 f x) (fun i v z hv hzi h tk own F N => ?_) (fun D h' tk out c F N lt ko => ?_)
  ·
    obtain ⟨b, hb, rfl⟩ : ∃ b, as[i]? = some b ∧ v = Value.ref b := by
      rw [List.getElem?_map] at hv
      cases e : as[i]? with
      | none => rw [e] at hv; cases hv
      | some b => rw [e] at hv; exact ⟨b, rfl, (Option.some.inj hv).symm⟩
    obtain ⟨dx, fs, hins, hfld⟩ := hkey i b z hb hzi
    have kh : ∀ b o, b ≠ X.env.locals → s.heap.get? b = some o → h.get? b = some o := fun b o n e => (N (b, o) (List.mem_append_left _ (mem b o n e))).1
    refine wpAny_call (PySem.W.kla_callFunE hroom (kh _ _ hfL hf) rfl hco hgen rfl ?_ ?_)
    · obtain ⟨c0, o, vs, t, e1, e2, e3⟩ := hc
      cases e1
      exact ⟨_, o, vs, t, rfl, kh _ _ hcL e2, e3⟩
    · rw [hbind]
      refine wpAny_pure (wpAny_newFunctionEnv hcell (fun x hx => ?_) (fun h1 hns hsb => ?_) hk)
      · rw [List.mem_singleton] at hx
        subst hx
        exact hloc
      have kh1 : ∀ b o, h.get? b = some o → h1.get? b = some o := fun b o e => (hsb.2 b (Nat.ne_of_lt (Heap.lt_size e))).trans (Heap.get?_push_of_some _ e)
      have Ns1 : h1.Ns X.env.locals m := F.ns.keeps kh1
      obtain ⟨hok1, kin1, lim1⟩ := I.quietly (t' := tk) hm Ns1 fun b o n e => kh1 b o (kh b o n e)
      refine ⟨lim1, PySem.W.kla_codeExpr ?_⟩
      obtain ⟨mA, O, rr, _, _, _⟩ := ins_get hok1 hins
      obtain ⟨u, hu, ru⟩ := RelO.some_of (v := V.int z) (o := mA fld) (by rw [← hfld]; exact rr fld)
      obtain ⟨t, rfl⟩ := ru
      refine attr_of rfl (wpAny_Name (wpAny_loadName_local hk hloc hns (show List.lookup arg [(arg, Value.ref b)].reverse = some (Value.ref b) by simp) ?_) hdb)
      refine get_map kin1 O (cl.get fld) cl.hd na hu (handed_of (v := V.int z) ⟨t, rfl⟩) ?_
      exact ⟨h1, _, t, rfl, rfl, F.kept kh1, N.grown kh1⟩
  ·
    obtain ⟨ps, hp, ho, hs, hst⟩ := ko
    have nD := N (D, seqObj "list" out c) (.head _)
    have kh : ∀ b o, b ≠ X.env.locals → s.heap.get? b = some o → h'.get? b = some o := fun b o n e => (N (b, o) (.tail _ (mem b o n e))).1
    have hD : H D = none := by
      cases e : H D with
      | none => rfl
      | some o =>
        obtain ⟨ob, hob⟩ := there_of (I.hok D o e)
        exact absurd (lt (D, ob) (mem D ob nD.2.1 hob)) (Nat.lt_irrefl _)
    have form : ∀ p ∈ ps, p = (p.1, Value.ref (adOf p.2)) := fun p hp' => by
      have h1 := (List.of_mem_zip (show (p.1, p.2) ∈ kz.zip (as.map Value.ref) from hp.mem_iff.mp hp')).2
      obtain ⟨b, _, e⟩ := List.mem_map.mp h1
      obtain ⟨x, y⟩ := p
      have e : Value.ref b = y := e
      subst e
      rfl
    have back : ∀ l : List (Int × Value), (∀ p ∈ l, p = (p.1, Value.ref (adOf p.2))) → (l.map fun p => (p.1, adOf p.2)).map (fun p => (p.1, Value.ref p.2)) = l := fun l hl => by
      rw [List.map_map]
      conv => rhs; rw [← List.map_id l]
      exact List.map_congr_left fun p hp' => (hl p hp').symm
    have ezip : (kz.zip (as.map Value.ref)).map (fun p => (p.1, adOf p.2)) = kz.zip as := by
      rw [List.zip_map_right, List.map_map]
      conv => rhs; rw [← List.map_id (kz.zip as)]
      exact List.map_congr_left fun p _ => rfl
    have efil : ∀ (l : List (Int × Value)) (z : Int), (l.map fun p => (p.1, adOf p.2)).filter (fun p => p.1 == z) = (l.filter fun p => p.1 == z).map fun p => (p.1, adOf p.2) := fun l z => by
      rw [List.filter_map]
      rfl
    have hq := q D (ps.map fun p => (p.1, adOf p.2)) (by rw [← ezip]; exact hp.map _) (by rw [List.pairwise_map]; exact hs.imp fun h => by simpa using h) (fun z => by rw [efil, hst z, ← ezip, efil]) hD
    have eout : out.toList = ((ps.map fun p => (p.1, adOf p.2)).map (·.2)).map Value.ref := by
      rw [ho]
      conv => lhs; rw [← back ps form]
      simp only [List.map_map]
      rfl
    have hqs : ((ps.map fun p => (p.1, adOf p.2)).map (·.2)).length ≤ sizeLine := by
      rw [List.length_map, List.length_map, hp.length_eq, List.length_zip, List.length_map, line]
      omega
    refine ⟨.ref D, _, Inv.step (g' := s.gens) (d' := s.drawn) (ch := []) (H' := upd H D (.lst (((ps.map fun p => (p.1, adOf p.2)).map (·.2)).map V.ref))) I (fun b z => nomatch z) (fun b o n _ _ e _ => kh b o n e) (fun b o n _ _ e _ => ⟨o.slots, kh b o n e⟩) (fun b o _ e hn => ?_) (fun b o _ e => ?_) (fun b xs e => ?_) (fun b o u e => ?_) (fun b ps e => ?_) (fun m' hm' => ?_) (fun b o e => ?_) I.bare, rfl, hq⟩
    · by_cases z : b = D
      · subst z
        exact absurd (lt (b, o) (mem b o nD.2.1 e)) (Nat.lt_irrefl _)
      · rw [upd_ne z]; exact hn
    · by_cases z : b = X.env.locals
      · subst z
        obtain ⟨o', _, _, e', _⟩ := F.ns
        exact ⟨o', e'⟩
      · exact ⟨o, kh b o z e⟩
    · rw [upd_ne (ne_of_none e hD)]; exact e
    · rw [upd_ne (ne_of_none e hD)]; exact e
    · exact ⟨#[], by rw [upd_ne (ne_of_none e hD), e]; simp⟩
    · rw [ns_one hm hm']; exact F.ns
    · by_cases z : b = D
      · subst z
        rw [upd_same] at e
        cases e
        refine ⟨by rw [List.length_map]; exact hqs, out.toList, c, by rw [eout]; exact vals_of_refs _, ?_⟩
        rw [Array.toArray_toList]
        exact nD.1
      · rw [upd_ne z] at e
        refine (I.hok b o e).stay (fun c' u hc' hu => kh c' u (fun y => ?_) hu) (fun c' y => by rw [upd_ne (ne_of_none y hD)]; exact y) fun c' xs y => by rw [upd_ne (ne_of_none y hD)]; exact y
        have hz := I.free
        rcases hc' with rfl | hc'
        · rw [y, hz] at e; cases e
        · rw [y, hz] at hc'; cases hc'
end
end L2
end
section
set_option Elab.async false
set_option linter.all false
set_option maxRecDepth 100000
set_option maxHeartbeats 2000000
namespace L2
open PySem PySem.Spec PyProof.Rows
def codeO (c : Addr) (qual : Str) : HO := .ext fun h => h.CodeRec (.ref c) qual
theorem codeO_ok {P : Program} {w : World} {H : Hp} {h : Heap} {c : Addr} {qual : Str} (x : h.CodeRec (.ref c) qual) : ObjOk P w H h c (codeO c qual) := by
  obtain ⟨c0, o, vs, t, e, h1, h2⟩ := id x
  cases e
  refine ⟨x, ⟨o, h1⟩, fun g1 g2 y k => ?_⟩
  obtain ⟨c0, o, vs, t, e, h1, h2⟩ := y
  cases e
  exact ⟨_, o, vs, t, rfl, k o h1, h2⟩
def LamTab (H : Hp) (T : Addr) (pos : Pos) (qual : Str) : Prop :=
  H T = some (.tbl #[]) ∨ ∃ c : Addr, H T = some (.tbl #[rawInt pos.line, rawInt pos.col, .ref c]) ∧ H c = some (codeO c qual)
def But (T : Addr) (H H' : Hp) : Prop := ∀ b o, b ≠ T → H b = some o → H' b = some o
theorem But.refl {T : Addr} (H : Hp) : But T H H := fun _ _ _ e => e
theorem But.trans {T : Addr} {H H1 H2 : Hp} (a : But T H H1) (b : But T H1 H2) : But T H H2 := fun c o n e => b c o n (a c o n e)
theorem Same.but {T : Addr} {H H' : Hp} (a : Same H H') : But T H H' := fun b o _ e => a b o e
theorem LamTab.there {H : Hp} {T : Addr} {pos : Pos} {qual : Str} (x : LamTab H T pos qual) : ∃ ps, H T = some (.tbl ps) := by
  rcases x with x | ⟨_, x, _⟩ <;> exact ⟨_, x⟩
theorem LamTab.ne {H : Hp} {T b : Addr} {o : HO} {pos : Pos} {qual : Str} (x : LamTab H T pos qual) (e : H b = some o) (n : ∀ ps, o ≠ .tbl ps) : b ≠ T := by
  obtain ⟨ps, x⟩ := x.there
  exact ne_of e x (n ps)
theorem LamTab.same {H H' : Hp} {T : Addr} {pos : Pos} {qual : Str} (x : LamTab H T pos qual) (s : Same H H') : LamTab H' T pos qual := by
  rcases x with x | ⟨c, x, y⟩
  · exact .inl (s _ _ x)
  · exact .inr ⟨c, s _ _ x, s _ _ y⟩
theorem But.seq {K : PySem.W.Frag} {H H' : Hp} {T a : Addr} {xs : List V} {pos : Pos} {qual : Str} (x : LamTab H T pos qual) (e : But T H H') (h : SqL K H a xs) : SqL K H' a xs := by
  rcases h with (h | ⟨o, h⟩) | h
  · exact .inl (.inl (e _ _ (x.ne h fun _ z => nomatch z) h))
  · exact .inl (.inr ⟨o, e _ _ (x.ne h fun _ z => nomatch z) h⟩)
  · exact .inr h
section
variable {X : Cx} {pins : List (Addr × Obj)} {σ : L2.St} {H : Hp} {s : Shared}
theorem lam_ok {E : Value → Shared → Prop} {Q : Value → Shared → Prop} {params : Arguments} {body : Expr} {scope : Scope} {pos : Pos} {c T : Addr} (I : Inv X pins σ H s) (hdf : defaultsOf params X.env = ([], [])) (hcl : closureFor scope X.env = pure []) (hcode : X.env.code = .ref c)
    (hhd : PySem.W.codeHdIn X.K c T = true) (hbi : X.base.BuiltinsAt X.mg T) (ht : LamTab H T pos (X.env.qual ++ Str.ofString "<lambda>"))
    (q : ∀ (f c' : Addr) (pm ctv : Value) (H' : Hp) (s' : Shared), Inv X pins σ H' s' → LamTab H' T pos (X.env.qual ++ Str.ofString "<lambda>") → But T H H' →
      s'.heap.get? f = some (PySem.W.kla_obj (Str.ofString "<lambda>") (X.env.qual ++ Str.ofString "<lambda>") params body scope [] pm c' ctv) → s'.heap.CodeRec (.ref c') (X.env.qual ++ Str.ofString "<lambda>") → f ≠ X.env.locals → c' ≠ X.env.locals → Q (.ref f) s') :
    wpAny (model X.prog X.w) X.A (eval (.Lambda params body scope pos) X.env) Q E s := by
  refine PySem.W.kla_eval hdf ?_
  have hns : s.heap.Ns mainGlobals X.mg := I.mod.glob.keeps I.bk
  have hhd' := PySem.W.codeHd_of_K I.kIn hhd
  have hbi' : s.heap.BuiltinsAt X.mg T := by
    obtain ⟨bm, o, a1, a2, a3, a4, a5, a6⟩ := hbi
    exact ⟨bm, o, a1, a2, a3, a4, I.bk _ _ a5, a6⟩
  have hmT : mainGlobals ≠ T := by
    intro z
    obtain ⟨o, _, _, e, _⟩ := I.mod.glob
    have h1 := (I.bs _ _ e).2
    obtain ⟨ps, h2⟩ := ht.there
    rw [z, h2] at h1
    cases h1
  have hlt := I.lt
  rcases id ht with h0 | ⟨c', h0, h1⟩
  · have g0 : s.heap.get? T = some (PySem.W.tabObj #[]) := I.hok T _ h0
    refine PySem.W.kla_makeFunction hcl I.ok.glob hns hcode hhd' g0 trivial rfl hmT hbi' fun c' ctv h' tk ext hc1 hc2 hcr hT => ?_
    have nc : H c' = none := I.hok.fresh hc1
    have nL : T ≠ X.env.locals := fun z => by rw [z, I.free] at h0; cases h0
    have cT : c' ≠ T := fun z => by rw [z, h0] at nc; cases nc
    have kp : ∀ b o, b ≠ T → s.heap.get? b = some o → (h'.push (PySem.W.kla_obj (Str.ofString "<lambda>") (X.env.qual ++ Str.ofString "<lambda>") params body scope [] ((X.mg (Str.ofString "__name__")).getD Value.none) c' ctv)).get? b = some o :=
      fun b o n e => Heap.get?_push_of_some _ (ext b o n e)
    have hcr' : (h'.push (PySem.W.kla_obj (Str.ofString "<lambda>") (X.env.qual ++ Str.ofString "<lambda>") params body scope [] ((X.mg (Str.ofString "__name__")).getD Value.none) c' ctv)).CodeRec (.ref c') (X.env.qual ++ Str.ofString "<lambda>") := by
      obtain ⟨c0, o, vs, t, e, y1, y2⟩ := hcr
      cases e
      exact ⟨_, o, vs, t, rfl, Heap.get?_push_of_some _ y1, y2⟩
    have bT : But T H (upd (upd H T (.tbl #[rawInt pos.line, rawInt pos.col, .ref c'])) c' (codeO c' (X.env.qual ++ Str.ofString "<lambda>"))) := fun b o n e => by
      rw [upd_ne (ne_of_none e nc), upd_ne n]
      exact e
    refine q _ c' _ ctv (upd (upd H T (.tbl #[rawInt pos.line, rawInt pos.col, .ref c'])) c' (codeO c' (X.env.qual ++ Str.ofString "<lambda>"))) _
      (Inv.step (g' := s.gens) (d' := s.drawn) (ch := []) I (fun b z => nomatch z) (fun b o n _ _ e hn => kp b o ?_ e) (fun b o n _ _ e hn => ⟨o.slots, kp b o ?_ e⟩) (fun b o _ e hn => ?_) (fun b o _ e => ?_) (fun b xs e => ?_) (fun b o u e => ?_) (fun b ps e => ?_) (fun m' hm' => ?_) (fun b o e => ?_) I.bare)
      (.inr ⟨c', by rw [upd_ne cT.symm, upd_same], upd_same⟩) bT (Heap.get?_push_size _ rfl) hcr' ?_ ?_
    · rintro rfl; rw [h0] at hn; cases hn
    · rintro rfl; rw [h0] at hn; cases hn
    · have hb : b ≠ c' := by
        rintro rfl
        exact absurd (Nat.lt_of_lt_of_le (Heap.lt_size e) hc1) (Nat.lt_irrefl _)
      have hb2 : b ≠ T := by rintro rfl; rw [h0] at hn; cases hn
      rw [upd_ne hb, upd_ne hb2]
      exact hn
    · by_cases z : b = T
      · subst z
        exact ⟨_, Heap.get?_push_of_some _ hT⟩
      · exact ⟨o, kp b o z e⟩
    · exact bT _ _ (ht.ne e fun _ z => nomatch z) e
    · exact bT _ _ (ht.ne e fun _ z => nomatch z) e
    · by_cases z : b = T
      · subst z
        rw [h0] at e
        cases e
        exact ⟨#[rawInt pos.line, rawInt pos.col, .ref c'], by rw [upd_ne cT.symm, upd_same]; simp⟩
      · exact ⟨#[], by rw [bT _ _ z e]; simp⟩
    · obtain ⟨o, es, ep, e, r⟩ := hm'
      exact ⟨o, es, ep, kp _ _ nL.symm e, r⟩
    · by_cases z : b = c'
      · subst z
        rw [upd_same] at e
        cases e
        exact codeO_ok hcr'
      · rw [upd_ne z] at e
        by_cases z2 : b = T
        · subst z2
          rw [upd_same] at e
          cases e
          show Heap.get? _ _ = some _
          have := Heap.get?_push_of_some (PySem.W.kla_obj (Str.ofString "<lambda>") (X.env.qual ++ Str.ofString "<lambda>") params body scope [] ((X.mg (Str.ofString "__name__")).getD Value.none) c' ctv) hT
          simpa using this
        · rw [upd_ne z2] at e
          refine (I.hok b o e).stay (fun c1 u hc' hu => kp c1 u ?_ hu) (fun c1 y => ?_) fun c1 xs y => ?_
          · rcases hc' with rfl | hc'
            · exact z2
            · exact ht.ne hc' fun _ z => nomatch z
          · exact bT _ _ (ht.ne y fun _ z => nomatch z) y
          · exact bT _ _ (ht.ne y fun _ z => nomatch z) y
    · have := Heap.lt_size hT
      intro z
      obtain ⟨m, hm, _⟩ := id I.loc
      have h2 := (I.hok.fresh (Nat.le_refl _))
      have : X.env.locals < h'.objs.size := by
        obtain ⟨o, _, _, e, _⟩ := hm
        exact Heap.lt_size (ext _ _ nL.symm e)
      rw [z] at this
      exact absurd this (Nat.lt_irrefl _)
    · intro z
      rw [z] at hc1
      exact absurd (Nat.lt_of_lt_of_le hlt hc1) (Nat.lt_irrefl _)
  · have g0 : s.heap.get? T = some (PySem.W.tabObj #[rawInt pos.line, rawInt pos.col, .ref c']) := I.hok T _ h0
    refine PySem.W.kla_makeFunctionHit (cv := .ref c') hcl I.ok.glob hns hcode hhd' g0 ?_ ?_ hbi' fun ctv h' tk k hsz => ?_
    · simp [TriplesOk, rawInt]
    · simp [codeAmong, rawInt]
    · have hc : s.heap.CodeRec (.ref c') (X.env.qual ++ Str.ofString "<lambda>") := (I.hok c' _ h1).1
      refine q _ c' _ ctv H _ (I.kept fun b u e => Heap.get?_push_of_some _ (k b u e)) ht (But.refl H) (Heap.get?_push_size _ rfl) ?_ ?_ ?_
      · obtain ⟨c0, o, vs, t, e, y1, y2⟩ := hc
        cases e
        exact ⟨_, o, vs, t, rfl, Heap.get?_push_of_some _ (k _ _ y1), y2⟩
      · intro z
        rw [← z] at hlt
        exact absurd (Nat.lt_of_lt_of_le hlt hsz) (Nat.lt_irrefl _)
      · intro z
        rw [z, I.free] at h1
        cases h1
def tSortF (K : PySem.W.Frag) (C : Addr) (fld : Str) (T : Addr) (lpos : Pos) (qual : Str) (ta : TA) : TE := fun σ H Q => ta σ H fun vs H1 => ∃ (l : Addr) (as : List Addr) (kz : List Int), vs = [.ref l] ∧ SqL K H1 l (as.map V.ref) ∧ as.length ≤ 64 ∧ kz.length = as.length ∧
  (∀ (i : Nat) (b : Addr) (z : Int), as[i]? = some b → kz[i]? = some z → ∃ dx fs, H1 b = some (.ins C dx fs) ∧ fs.lookup fld = some (.int z)) ∧ LamTab H1 T lpos qual ∧
  ∀ (D : Addr) (qs : List (Int × Addr)) (H2 : Hp), qs.Perm (kz.zip as) → qs.Pairwise (fun x y => x.1 ≤ y.1) → (∀ c : Int, qs.filter (fun p => p.1 == c) = (kz.zip as).filter (fun p => p.1 == c)) →
    LamTab H2 T lpos qual → But T H1 H2 → H1 D = none → H2 D = some (.lst ((qs.map (·.2)).map V.ref)) → Q (.ref D) H2
theorem pe_sortedF {e : Expr} {ta : TA} {params : Arguments} {arg fld : Str} {scope : Scope} {p p1 p2 lpos kpos pos : Pos} {c T C : Addr} (hg : Gl X "sorted") (hm : X.mg "sorted" = none) (ha : PA X [e] ta)
    (hdf : defaultsOf params X.env = ([], [])) (hcl : closureFor scope X.env = pure []) (hcode : X.env.code = .ref c)
    (hhd : PySem.W.codeHdIn X.K c T = true) (hbi : X.base.BuiltinsAt X.mg T)
    (hbind : ∀ pm cv ctv v, bindArgs (PySem.W.kla_fn (Str.ofString "<lambda>") (X.env.qual ++ Str.ofString "<lambda>") params (.Attribute (.Name arg p1) fld p2) scope [] pm cv ctv) ⟨[v], []⟩ = pure [(arg, v)])
    (hk : scope.kind = .function) (hco : scope.isCoroutine = false) (hgen : scope.isGenerator = false) (hloc : scope.names.lookup arg = some .local) (hcell : ∀ x ∈ scope.names, x.2 ≠ .cell)
    (cl : Cls X.K C) (na : NoAttr X.K C fld) (hroom : X.A.in1.in1.depth < recursionLimit)
    (hdb : (arg == ("__debug__" : Str)) = false := by decide) (he : backTo pos (starEach [e] X.env) = (false, eval e X.env) :: backTo pos (starEach [] X.env) := by rfl) :
    PE X (.Call (.Name "sorted" p) [e] [⟨some "key", .Lambda params (.Attribute (.Name arg p1) fld p2) scope lpos, kpos⟩] pos) (tSortF X.K C fld T lpos (X.env.qual ++ Str.ofString "<lambda>") ta) := by
  intro pins s σ H Q I h
  refine wpAny_Call_Name_kw (ld_blt I hg hm boot_sorted ?_)
  refine PyProof.Rows.callWith_kw (thn (ha pos pins s σ H _ I h) fun us s1 ⟨vs, H1, I1, r1, q1⟩ => ?_) he (by rw [he]; rfl) rfl rfl
  obtain ⟨l, as, kz, rfl, hl, hsz, hlen, hkey, ht, q⟩ := q1
  obtain ⟨u, rfl, ru⟩ := r1.one
  obtain rfl : u = Value.ref l := ru
  refine kws_cons (lam_ok I1 hdf hcl hcode hhd hbi ht fun f c' pm ctv H2 s2 I2 ht2 bt hf hc hfL hcL => kws_nil ?_)
  refine sorted_field I2 (bt.seq ht hl) hsz hf hc (hbind pm _ ctv) hk hco hgen hloc hcell hdb cl na hfL hcL hroom hlen (fun i b z h1 h2 => ?_) fun D qs h1 h2 h3 hD => ?_
  · obtain ⟨dx, fs, h3, h4⟩ := hkey i b z h1 h2
    exact ⟨dx, fs, bt _ _ (ht.ne h3 fun _ z => nomatch z) h3, h4⟩
  · refine q D qs _ h1 h2 h3 ?_ (bt.trans ?_) ?_ upd_same
    · exact ht2.same fun b o e => by rw [upd_ne (ne_of_none e hD)]; exact e
    · exact fun b o _ e => by rw [upd_ne (ne_of_none e hD)]; exact e
    · cases e : H1 D with
      | none => rfl
      | some o =>
        by_cases z : D = T
        · subst z
          obtain ⟨ps, e2⟩ := ht2.there
          rw [hD] at e2
          cases e2
        · rw [bt _ _ z e] at hD
          cases hD
end
end L2
end
section
set_option Elab.async false
set_option linter.all false
set_option maxRecDepth 100000
set_option maxHeartbeats 2000000
namespace L2
open PySem PySem.Spec PyProof.Rows
section
variable {X : Cx}
def rSortedT (K : PySem.W.Frag) : List V → Hp → VK → Prop := fun vs H Q => ∃ (a : Addr) (as : List Addr) (kf : Addr → Int), vs = [V.ref a] ∧ SqL K H a (as.map V.ref) ∧ as.length < 64 ∧ (∀ b ∈ as, ∃ y, H b = some (.tup [.int (kf b), .int y])) ∧
  ∀ (bs : List Addr) (D : Addr), bs.Perm as → bs.Pairwise (fun x y => kf x ≤ kf y) → H D = none → Q (.ref D) (upd H D (.lst (bs.map V.ref)))
theorem tup_pair {P : Program} {w : World} {H : Hp} {h : Heap} {b : Addr} {x y : Int} (ok : HOk P w H h) (e : H b = some (.tup [.int x, .int y])) : ∃ t u o n, h.get? b = some o ∧ o.cls = .type "tuple" ∧ o.data = .seq #[.int x t, .int y u] n := by
  obtain ⟨_, its, r, o, h1, h2, n, h3⟩ := ok b _ e
  cases r with
  | cons r1 rr =>
    cases rr with
    | cons r2 rn =>
      cases rn
      obtain ⟨t, rfl⟩ := r1
      obtain ⟨u, rfl⟩ := r2
      exact ⟨t, u, o, n, h1, h2, h3⟩
theorem tups_of {P : Program} {w : World} {H : Hp} {h : Heap} (ok : HOk P w H h) (kf : Addr → Int) : ∀ as : List Addr, (∀ b ∈ as, ∃ y, H b = some (.tup [.int (kf b), .int y])) → ∃ fs, TupsOf h (fun _ => false) (as.map Value.ref) fs
  | [], _ => ⟨[], .nil⟩
  | a :: as, hy => by
    obtain ⟨fs, hf⟩ := tups_of ok kf as fun b hb => hy b (by simp [hb])
    obtain ⟨y, e⟩ := hy a (by simp)
    obtain ⟨t, u, o, n, h1, h2, h3⟩ := tup_pair ok e
    exact ⟨_, .cons ⟨a, o, _, n, rfl, h1, h2, h3, rfl, fun _ => ⟨_, _, rfl⟩, fun z => by cases z⟩ hf⟩
theorem cr_sortedT : CallR X (.builtin "sorted") (rSortedT X.K) := by
  intro pins s σ H vs us Q I r h
  obtain ⟨a, as, kf, rfl, hs, h64, hk, q⟩ := h
  obtain ⟨its, rv, hl, _⟩ := I.list hs
  rw [Vals.ref1 r]
  obtain rfl := vals_refs rv
  obtain ⟨fs, hf⟩ := tups_of I.hok kf as hk
  have key : ∀ b ∈ as, ∃ y, G.tupKeyC s.heap (fun _ => false) (Value.ref b) = some [Sum.inl (kf b), Sum.inl y] := fun b hb => by
    obtain ⟨y, e⟩ := hk b hb
    obtain ⟨t, u, o, n, h1, h2, h3⟩ := tup_pair I.hok e
    exact ⟨y, G.tupKeyC_of h1 h2 h3 rfl⟩
  refine G.sorted_tups hl.isList hf (fun v hv => ?_) (by rw [List.length_map]; exact small64 h64) fun st hp ho _ => ?_
  · obtain ⟨b, hb, rfl⟩ := List.mem_map.mp hv
    obtain ⟨y, e⟩ := key b hb
    exact ⟨_, e⟩
  · have hp' : (arrOf st).toList.Perm ((as.map Value.ref).zip (as.map Value.ref)) := by
      have := Array.perm_iff_toList_perm.mp hp
      rw [pairsOf_toList] at this
      exact this
    have form : ∀ p ∈ (arrOf st).toList, ∃ b ∈ as, p = (Value.ref b, Value.ref b) := fun p hp2 => by
      obtain ⟨e, m⟩ := mem_zip_self (hp'.mem_iff.mp hp2)
      obtain ⟨b, hb, e2⟩ := List.mem_map.mp m
      refine ⟨b, hb, ?_⟩
      obtain ⟨x, y⟩ := p
      dsimp only at e e2
      rw [← e, ← e2]
    have hbs : ((arrOf st).toList.map fun p => adOf p.2).map Value.ref = (arrOf st).toList.map (·.2) := by
      rw [List.map_map]
      refine List.map_congr_left fun p hp2 => ?_
      obtain ⟨b, _, rfl⟩ := form p hp2
      rfl
    have perm : ((arrOf st).toList.map fun p => adOf p.2).Perm as := by
      have h1 := hp'.map fun p => adOf p.2
      have h2 : ((as.map Value.ref).zip (as.map Value.ref)).map (fun p => adOf p.2) = as := by
        have : ∀ l : List Addr, ((l.map Value.ref).zip (l.map Value.ref)).map (fun p => adOf p.2) = l := fun l => by
          induction l with
          | nil => rfl
          | cons x l ih => rw [List.map_cons, List.zip_cons_cons, List.map_cons, ih]; rfl
        exact this as
      rw [h2] at h1
      exact h1
    have srt : ((arrOf st).toList.map fun p => adOf p.2).Pairwise (fun x y => kf x ≤ kf y) := by
      rw [List.pairwise_iff_getElem]
      intro i j hi hj hij
      have hi' : i < (arrOf st).size := by simpa using hi
      have hj' : j < (arrOf st).size := by simpa using hj
      have hsz : (pairsOf (as.map Value.ref)).size = (arrOf st).size := hp.size_eq.symm
      have h1 := ho i j (Nat.le_of_lt hij) (by rw [hsz]; exact hj')
      unfold KeyOrd.kle KK at h1
      rw [Array.getElem?_eq_getElem hi', Array.getElem?_eq_getElem hj'] at h1
      obtain ⟨bi, mi, ei⟩ := form _ (Array.getElem_mem_toList hi')
      obtain ⟨bj, mj, ej⟩ := form _ (Array.getElem_mem_toList hj')
      rw [ei, ej] at h1
      obtain ⟨yi, ki⟩ := key bi mi
      obtain ⟨yj, kj⟩ := key bj mj
      have h2 : lexLt itemOrd ((G.tupKeyC s.heap (fun _ => false) (Value.ref bj)).getD []) ((G.tupKeyC s.heap (fun _ => false) (Value.ref bi)).getD []) = false := h1
      rw [ki, kj] at h2
      have h3 : lexLt itemOrd [Sum.inl (kf bj), Sum.inl yj] [Sum.inl (kf bi), Sum.inl yi] = false := h2
      simp [PyProof.Rows.lexLt, itemLt] at h3
      have gi : ((arrOf st).toList.map fun p => adOf p.2)[i] = bi := by
        rw [List.getElem_map, Array.getElem_toList, ei]
        rfl
      have gj : ((arrOf st).toList.map fun p => adOf p.2)[j] = bj := by
        rw [List.getElem_map, Array.getElem_toList, ej]
        rfl
      rw [gi, gj]
      exact h3.1
    obtain ⟨ep, he'⟩ := PyProof.Rows.sortedAll_at s.heap (as.map Value.ref) (Array.map (fun x => x.snd) (arrOf st))
    have hlen : (((arrOf st).toList.map fun p => adOf p.2).map V.ref).length ≤ sizeLine := by rw [List.length_map, perm.length_eq]; exact small64 h64
    refine ⟨.ref _, upd H (s.heap.objs.size + 1) (.lst (((arrOf st).toList.map fun p => adOf p.2).map V.ref)), I.laid (t' := s.toks) (fun _ _ => PyProof.Rows.sortedAll_old) (Nat.le_succ _) ⟨hlen, (Array.map (fun x => x.snd) (arrOf st)).toList, ep, ?_, ?_⟩, rfl, q _ _ perm srt (I.hok.fresh (Nat.le_succ _))⟩
    · rw [Array.toList_map, ← hbs]
      exact vals_of_refs _
    · rw [Array.toArray_toList]
      exact he'
end
end L2
end
section
set_option Elab.async false
set_option linter.all false
set_option maxRecDepth 100000
set_option maxHeartbeats 2000000
namespace L2
open PySem PySem.Spec PyProof.Rows
def off (H : Hp) (D : Addr) : Hp := fun b => if b = D then none else H b
theorem off_ne {H : Hp} {D b : Addr} (n : b ≠ D) : off H D b = H b := by unfold off; rw [if_neg n]
theorem off_same {H : Hp} {D : Addr} : off H D D = none := by unfold off; rw [if_pos rfl]
theorem off_some {H : Hp} {D b : Addr} {o : HO} (h : off H D b = some o) : b ≠ D ∧ H b = some o := by
  by_cases e : b = D
  · rw [e, off_same] at h; cases h
  · rw [off_ne e] at h; exact ⟨e, h⟩
section
variable {X : Cx} {pins : List (Addr × Obj)} {σ : L2.St} {H : Hp} {s : Shared}
theorem Inv.fsFree (I : Inv X pins σ H s) : ∀ b ∈ X.fs, H b = none := fun b hb => by
  obtain ⟨_, o, ho, _⟩ := I.ok.funs.mem hb
  exact I.base.free b o ho (I.ok.frf b hb) fun z => I.ok.exfs b z hb
theorem Inv.aside {D : Addr} {xs : List V} {ob : Obj} (I : Inv X pins σ H s) (h : H D = some (.lst xs)) (hob : s.heap.get? D = some ob) (hd : ∀ v, ob.data ≠ .cell v) : Inv X (pins ++ [(D, ob)]) σ (off H D) s := by
  have ne : ∀ b o, H b = some o → (∀ ys, o ≠ .lst ys) → b ≠ D := fun b o e n z => by rw [z, h] at e; cases e; exact n _ rfl
  have nn : ∀ b, H b = none → off H D b = none := fun b e => by
    by_cases z : b = D
    · rw [z]; exact off_same
    · rw [off_ne z]; exact e
  refine ⟨I.ok, I.os, I.bare, ⟨I.base.keep, I.base.slot, fun b o e n hx => nn b (I.base.free b o e n hx), I.base.there, fun b ys e => ?_, fun b o u e => ?_, fun b ps e => ?_⟩, I.loc, I.cell, nn _ I.free, fun x c e => nn _ (I.freeC x c e), fun p hp => ?_, fun b o e => ?_, I.len⟩
  · have e1 := I.base.tups b ys e
    rw [off_ne (ne _ _ e1 fun _ z => nomatch z)]; exact e1
  · have e1 := I.base.frzs b o u e
    rw [off_ne (ne _ _ e1 fun _ z => nomatch z)]; exact e1
  · obtain ⟨more, e1⟩ := I.base.tbls b ps e
    exact ⟨more, by rw [off_ne (ne _ _ e1 fun _ z => nomatch z)]; exact e1⟩
  · rw [← List.append_assoc] at hp
    rcases List.mem_append.mp hp with hp | hp
    · obtain ⟨a1, a2, a3⟩ := I.pin p hp
      exact ⟨a1, nn _ a2, a3⟩
    · rw [List.mem_singleton] at hp
      subst hp
      refine ⟨hob, off_same, fun z => ?_, fun z => ?_, hd⟩
      · have z : D = X.env.locals := z
        rw [z, I.free] at h; cases h
      · have := I.fsFree D z
        rw [h] at this; cases this
  · obtain ⟨n, e⟩ := off_some e
    exact (I.hok b o e).stay (fun _ _ _ q => q) (fun c q => by rw [off_ne (ne _ _ q fun _ z => nomatch z)]; exact q) fun c ys q => by rw [off_ne (ne _ _ q fun _ z => nomatch z)]; exact q
theorem Inv.again {D : Addr} {xs : List V} {ob : Obj} {σ' : L2.St} {H' : Hp} {s' : Shared} (I : Inv X pins σ H s) (h : H D = some (.lst xs)) (hok : ∀ h' H2, h'.get? D = some ob → ObjOk X.prog X.w H2 h' D (.lst xs)) (J : Inv X (pins ++ [(D, ob)]) σ' H' s') :
    H' D = none ∧ Inv X pins σ' (upd H' D (.lst xs)) s' := by
  have pD := J.pin (D, ob) (by simp)
  have nD : H' D = none := pD.2.1
  have ne : ∀ b o, H' b = some o → b ≠ D := fun b o e z => by rw [z, nD] at e; cases e
  have nn : ∀ b, H b = none → H' b = none → upd H' D (.lst xs) b = none := fun b e e' => by
    have : b ≠ D := fun z => by rw [z, h] at e; cases e
    rw [upd_ne this]; exact e'
  refine ⟨nD, ⟨J.ok, J.os, J.bare, ⟨J.base.keep, J.base.slot, fun b o e n hx => nn b (I.base.free b o e n hx) (J.base.free b o e n hx), J.base.there, fun b ys e => ?_, fun b o u e => ?_, fun b ps e => ?_⟩, J.loc, J.cell, nn _ I.free J.free, fun x c e => nn _ (I.freeC x c e) (J.freeC x c e), fun p hp => ?_, fun b o e => ?_, J.len⟩⟩
  · have e1 := J.base.tups b ys e
    rw [upd_ne (ne _ _ e1)]; exact e1
  · have e1 := J.base.frzs b o u e
    rw [upd_ne (ne _ _ e1)]; exact e1
  · obtain ⟨more, e1⟩ := J.base.tbls b ps e
    exact ⟨more, by rw [upd_ne (ne _ _ e1)]; exact e1⟩
  · obtain ⟨a1, a2, a3⟩ := J.pin p (by rw [← List.append_assoc]; exact List.mem_append_left _ hp)
    exact ⟨a1, nn _ (I.pin p hp).2.1 a2, a3⟩
  · by_cases z : b = D
    · subst z
      rw [upd_same] at e
      cases e
      exact hok _ _ pD.1
    · rw [upd_ne z] at e
      exact (J.hok b o e).stay (fun _ _ _ q => q) (fun c q => by rw [upd_ne (ne _ _ q)]; exact q) fun c ys q => by rw [upd_ne (ne _ _ q)]; exact q
end
def tFrame (t : TE) : TE := fun σ H Q => ∃ (D : Addr) (xs : List V), H D = some (.lst xs) ∧ t σ (off H D) fun v H' => H' D = none → Q v (upd H' D (.lst xs))
theorem pe_frame {X : Cx} {e : Expr} {t : TE} (he : PE X e t) : PE X e (tFrame t) := by
  intro pins s σ H Q I h
  obtain ⟨D, xs, hD, ht⟩ := h
  obtain ⟨hl, its, n, r, ho⟩ := I.hok D _ hD
  refine thn (he _ s σ _ _ (I.aside hD ho fun v z => by cases z) ht) fun u s' ⟨v, H', J, rv, q⟩ => ?_
  obtain ⟨nD, J'⟩ := I.again (ob := { cls := .type "list", data := .seq its.toArray n }) hD (fun h' H2 e => ⟨hl, its, n, r, e⟩) J
  exact ⟨v, _, J', rv, q nD⟩
end L2
end
section
set_option Elab.async false
namespace Shed
open VbsyCore
def wsum (w D : Nat) (l : List Nat) : Nat := (l.map fun d => w ^ (D - d)).sum
theorem wsum_nil (w D : Nat) : wsum w D [] = 0 := rfl
theorem wsum_cons (w D d : Nat) (l : List Nat) : wsum w D (d :: l) = w ^ (D - d) + wsum w D l := rfl
theorem wsum_append (w D : Nat) : ∀ a b : List Nat, wsum w D (a ++ b) = wsum w D a + wsum w D b
  | [], b => by simp [wsum_nil]
  | x :: a, b => by rw [List.cons_append, wsum_cons, wsum_cons, wsum_append w D a b]; omega
theorem wsum_perm {w D : Nat} {a b : List Nat} (h : a.Perm b) : wsum w D a = wsum w D b := (h.map _).sum_nat
theorem wsum_up (w : Nat) {D : Nat} (k : Nat) : ∀ {l : List Nat}, (∀ d ∈ l, d ≤ D) → wsum w (D + k) l = w ^ k * wsum w D l
  | [], _ => by simp [wsum_nil]
  | d :: l, h => by
    have h1 : d ≤ D := h d (by simp)
    rw [wsum_cons, wsum_cons, wsum_up w k (fun x hx => h x (by simp [hx])), Nat.mul_add, ← Nat.pow_add]
    congr 2
    omega
theorem wsum_succ (w : Nat) {D : Nat} : ∀ {l : List Nat}, wsum w (D + 1) (l.map (· + 1)) = wsum w D l
  | [] => rfl
  | d :: l => by rw [List.map_cons, wsum_cons, wsum_cons, wsum_succ w (l := l), show D + 1 - (d + 1) = D - d by omega]
theorem foldl_max_le : ∀ (l : List Nat) (a : Nat), a ≤ l.foldl max a ∧ ∀ d ∈ l, d ≤ l.foldl max a
  | [], a => ⟨Nat.le_refl _, by simp⟩
  | x :: l, a => by
    obtain ⟨h1, h2⟩ := foldl_max_le l (max a x)
    rw [List.foldl_cons]
    refine ⟨by omega, fun d hd => ?_⟩
    rcases List.mem_cons.mp hd with rfl | hd
    · omega
    · exact h2 d hd
theorem foldl_max_bd {D : Nat} : ∀ (l : List Nat) (a : Nat), a ≤ D → (∀ d ∈ l, d ≤ D) → l.foldl max a ≤ D
  | [], a, h, _ => h
  | x :: l, a, h, k => by
    rw [List.foldl_cons]
    exact foldl_max_bd l _ (by have := k x (by simp); omega) (fun d hd => k d (by simp [hd]))
theorem canBe_iff {w D : Nat} (hw : 0 < w) {l : List Nat} (h : ∀ d ∈ l, d ≤ D) : Vbsyad.canBe w l = true ↔ wsum w D l ≤ w ^ D := by
  have e : Vbsyad.canBe w l = decide (wsum w (l.foldl max 0) l ≤ w ^ (l.foldl max 0)) := rfl
  rw [e, decide_eq_true_iff]
  have ht := (foldl_max_le l 0).2
  have hb := foldl_max_bd l 0 (Nat.zero_le _) h
  obtain ⟨k, hk⟩ : ∃ k, D = l.foldl max 0 + k := ⟨D - l.foldl max 0, by omega⟩
  rw [hk, wsum_up w k ht, Nat.pow_add, Nat.mul_comm (w ^ _) (w ^ k)]
  exact (Nat.mul_le_mul_left_iff (Nat.pow_pos hw)).symm
def dot : List Nat → List Nat → Nat
  | a :: l, b :: m => a * b + dot l m
  | _, _ => 0
theorem dot_zip : ∀ a b : List Nat, ((a.zip b).map fun x => x.1 * x.2).sum = dot a b
  | [], b => by simp [dot]
  | a :: l, [] => by simp [dot]
  | a :: l, b :: m => by simp [dot, dot_zip l m]
theorem dot_append : ∀ {a b c d : List Nat}, a.length = b.length → dot (a ++ c) (b ++ d) = dot a b + dot c d
  | [], [], c, d, _ => by simp [dot]
  | x :: a, y :: b, c, d, h => by
    have h' : a.length = b.length := by simpa using h
    show x * y + dot (a ++ c) (b ++ d) = (x * y + dot a b) + dot c d
    rw [dot_append h']
    omega
  | [], _ :: _, _, _, h => by simp at h
  | _ :: _, [], _, _, h => by simp at h
theorem dot_reverse : ∀ {a b : List Nat}, a.length = b.length → dot a.reverse b.reverse = dot a b
  | [], [], _ => rfl
  | x :: a, y :: b, h => by
    have h' : a.length = b.length := by simpa using h
    rw [List.reverse_cons, List.reverse_cons, dot_append (by simpa using h'), dot_reverse h']
    simp [dot]
    omega
  | [], _ :: _, h => by simp at h
  | _ :: _, [], h => by simp at h
theorem dot_succ : ∀ {a b : List Nat}, a.length = b.length → dot a (b.map (· + 1)) = a.sum + dot a b
  | [], [], _ => rfl
  | x :: a, y :: b, h => by
    have h' : a.length = b.length := by simpa using h
    show x * (y + 1) + dot a (b.map (· + 1)) = (x :: a).sum + (x * y + dot a b)
    rw [dot_succ h', List.sum_cons, Nat.mul_add]
    omega
  | [], _ :: _, h => by simp at h
  | _ :: _, [], h => by simp at h
def insD (x : Nat) : List Nat → List Nat
  | [] => [x]
  | y :: l => if y ≤ x then x :: y :: l else y :: insD x l
def sortD : List Nat → List Nat
  | [] => []
  | x :: l => insD x (sortD l)
theorem insD_perm (x : Nat) : ∀ l, (insD x l).Perm (x :: l)
  | [] => .refl _
  | y :: l => by
    unfold insD
    split
    · exact .refl _
    · exact ((insD_perm x l).cons y).trans (.swap x y l)
theorem sortD_perm : ∀ l, (sortD l).Perm l
  | [] => .refl _
  | x :: l => (insD_perm x _).trans ((sortD_perm l).cons x)
abbrev Down (l : List Nat) : Prop := l.Pairwise (fun a b => b ≤ a)
abbrev Up (l : List Nat) : Prop := l.Pairwise (fun a b => a ≤ b)
theorem insD_down {x : Nat} : ∀ {l : List Nat}, Down l → Down (insD x l)
  | [], _ => by simp [insD]
  | y :: l, h => by
    have hh := List.pairwise_cons.mp h
    unfold insD
    split
    · rename_i q
      refine List.pairwise_cons.mpr ⟨fun z hz => ?_, h⟩
      rcases List.mem_cons.mp hz with rfl | hz
      · exact q
      · exact Nat.le_trans (hh.1 z hz) q
    · rename_i q
      refine List.pairwise_cons.mpr ⟨fun z hz => ?_, insD_down hh.2⟩
      rcases List.mem_cons.mp ((insD_perm x l).mem_iff.mp hz) with rfl | hz
      · omega
      · exact hh.1 z hz
theorem sortD_down : ∀ l, Down (sortD l)
  | [] => .nil
  | _ :: l => insD_down (sortD_down l)
theorem dot_ins {x : Nat} : ∀ {a0 : Nat} {a s : List Nat}, Up (a0 :: a) → a.length = s.length → dot (a0 :: a) (insD x s) ≤ a0 * x + dot a s
  | a0, [], [], _, _ => by simp [insD, dot]
  | a0, a1 :: a, y :: s, h, hl => by
    unfold insD
    split
    · exact Nat.le_refl _
    · rename_i q
      have hh := List.pairwise_cons.mp h
      have ih := dot_ins (x := x) hh.2 (show a.length = s.length by simpa using hl)
      have h01 : a0 ≤ a1 := hh.1 a1 (by simp)
      show a0 * y + dot (a1 :: a) (insD x s) ≤ a0 * x + (a1 * y + dot a s)
      obtain ⟨p, rfl⟩ : ∃ p, a1 = a0 + p := ⟨a1 - a0, by omega⟩
      obtain ⟨r, rfl⟩ : ∃ r, y = x + r := ⟨y - x, by omega⟩
      have e1 : (a0 + p) * (x + r) = a0 * x + a0 * r + p * x + p * r := by rw [Nat.add_mul, Nat.mul_add, Nat.mul_add]; omega
      have e2 : (a0 + p) * x = a0 * x + p * x := Nat.add_mul _ _ _
      have e3 : a0 * (x + r) = a0 * x + a0 * r := Nat.mul_add _ _ _
      omega
  | _, [], _ :: _, _, h => by simp at h
  | _, _ :: _, [], _, h => by simp at h
theorem rearr : ∀ {a s : List Nat}, Up a → a.length = s.length → dot a (sortD s) ≤ dot a s
  | [], [], _, _ => Nat.le_refl _
  | a0 :: a, x :: s, h, hl => by
    have hl' : a.length = s.length := by simpa using hl
    have ih := rearr (List.pairwise_cons.mp h).2 hl'
    have := dot_ins (x := x) h (show a.length = (sortD s).length by rw [(sortD_perm s).length_eq]; exact hl')
    show dot (a0 :: a) (insD x (sortD s)) ≤ a0 * x + dot a s
    omega
  | [], _ :: _, _, h => by simp at h
  | _ :: _, [], _, h => by simp at h
theorem down_unique : ∀ {a b : List Nat}, a.Perm b → Down a → Down b → a = b
  | [], b, p, _, _ => by have := p.length_eq; cases b with | nil => rfl | cons => simp at this
  | x :: a, [], p, _, _ => by have := p.length_eq; simp at this
  | x :: a, y :: b, p, ha, hb => by
    have ha' := List.pairwise_cons.mp ha
    have hb' := List.pairwise_cons.mp hb
    have h1 : x ≤ y := by
      rcases List.mem_cons.mp (p.mem_iff.mp (List.mem_cons_self (a := x) (l := a))) with e | e
      · omega
      · exact hb'.1 _ e
    have h2 : y ≤ x := by
      rcases List.mem_cons.mp (p.mem_iff.mpr (List.mem_cons_self (a := y) (l := b))) with e | e
      · omega
      · exact ha'.1 _ e
    obtain rfl : x = y := by omega
    rw [down_unique ((List.perm_cons x).mp p) ha'.2 hb'.2]
theorem insertBy_insD (x : Nat) : ∀ l : List Nat, Down l → (insertBy (fun a b => decide (b < a)) x l).Perm (x :: l) ∧ Down (insertBy (fun a b => decide (b < a)) x l)
  | [], _ => ⟨.refl _, by simp [insertBy]⟩
  | y :: l, h => by
    have hh := List.pairwise_cons.mp h
    have ih := insertBy_insD x l hh.2
    unfold insertBy
    split
    · rename_i q
      have q : y < x := by simpa using q
      refine ⟨.refl _, List.pairwise_cons.mpr ⟨fun z hz => ?_, h⟩⟩
      rcases List.mem_cons.mp hz with rfl | hz
      · omega
      · have := hh.1 z hz; omega
    · rename_i q
      have q : ¬ y < x := by simpa using q
      refine ⟨(ih.1.cons y).trans (.swap x y l), List.pairwise_cons.mpr ⟨fun z hz => ?_, ih.2⟩⟩
      rcases List.mem_cons.mp (ih.1.mem_iff.mp hz) with rfl | hz
      · omega
      · exact hh.1 z hz
theorem sortBy_down : ∀ (l acc : List Nat), Down acc → (l.foldl (fun a x => insertBy (fun a b => decide (b < a)) x a) acc).Perm (l ++ acc) ∧ Down (l.foldl (fun a x => insertBy (fun a b => decide (b < a)) x a) acc)
  | [], acc, h => ⟨.refl _, h⟩
  | x :: l, acc, h => by
    have h1 := insertBy_insD x acc h
    have h2 := sortBy_down l _ h1.2
    refine ⟨h2.1.trans ?_, h2.2⟩
    exact ((List.Perm.append_left l h1.1).trans List.perm_middle)
theorem big_eq {asc cs : List Nat} (hu : Up asc) (hp : asc.Perm cs) : sortBy (fun a b => decide (b < a)) cs = asc.reverse := by
  have h := sortBy_down cs [] .nil
  rw [List.append_nil] at h
  refine down_unique (h.1.trans (hp.symm.trans (List.reverse_perm asc).symm)) h.2 ?_
  exact List.pairwise_reverse.mpr hu
theorem mem_rowsUp : ∀ {n lo hi : Nat} {r : List Nat}, r ∈ Vbsyad.rowsUp n lo hi ↔ r.length = n ∧ Up r ∧ ∀ d ∈ r, lo ≤ d ∧ d ≤ hi
  | 0, lo, hi, r => by
    unfold Vbsyad.rowsUp
    rw [List.mem_singleton]
    constructor
    · rintro rfl; exact ⟨rfl, .nil, by simp⟩
    · rintro ⟨h, _⟩; exact List.length_eq_zero_iff.mp h
  | n + 1, lo, hi, r => by
    unfold Vbsyad.rowsUp
    simp only [List.mem_flatMap, List.mem_range, List.mem_map]
    constructor
    · rintro ⟨k, hk, t, ht, rfl⟩
      obtain ⟨h1, h2, h3⟩ := mem_rowsUp.mp ht
      refine ⟨by simp [h1], List.pairwise_cons.mpr ⟨fun d hd => (h3 d hd).1, h2⟩, fun d hd => ?_⟩
      rcases List.mem_cons.mp hd with rfl | hd
      · omega
      · have := h3 d hd; omega
    · rintro ⟨h1, h2, h3⟩
      cases r with
      | nil => simp at h1
      | cons d t =>
        have hh := List.pairwise_cons.mp h2
        have hd := h3 d (by simp)
        refine ⟨d - lo, by omega, t, ?_, by congr 1; omega⟩
        rw [show lo + (d - lo) = d by omega]
        exact mem_rowsUp.mpr ⟨by simpa using h1, hh.2, fun x hx => ⟨hh.1 x hx, (h3 x (by simp [hx])).2⟩⟩
def minStep (f : List Nat → Nat) (b : Option Nat) (ds : List Nat) : Option Nat := match b with
  | none => some (f ds)
  | some m => some (min m (f ds))
theorem minFold (f : List Nat → Nat) : ∀ (l : List (List Nat)) (b : Option Nat),
    (l.foldl (minStep f) b = none ↔ l = [] ∧ b = none) ∧ ∀ v, l.foldl (minStep f) b = some v → ((b = some v ∨ ∃ x ∈ l, f x = v) ∧ (∀ m, b = some m → v ≤ m) ∧ ∀ x ∈ l, v ≤ f x)
  | [], b => ⟨by simp, fun v h => ⟨.inl h, fun m hm => by rw [List.foldl_nil] at h; rw [h] at hm; cases hm; exact Nat.le_refl _, by simp⟩⟩
  | x :: l, b => by
    rw [List.foldl_cons]
    obtain ⟨h1, h2⟩ := minFold f l (minStep f b x)
    have hn : minStep f b x ≠ none := by unfold minStep; cases b <;> simp
    refine ⟨⟨fun h => absurd (h1.mp h).2 hn, fun h => by simp at h⟩, fun v hv => ?_⟩
    obtain ⟨g1, g2, g3⟩ := h2 v hv
    have key : v ≤ f x ∧ ∀ m, b = some m → v ≤ m := by
      cases b with
      | none => exact ⟨g2 _ rfl, by simp⟩
      | some m => have := g2 _ rfl; exact ⟨by omega, fun m' hm' => by cases hm'; omega⟩
    refine ⟨?_, key.2, fun y hy => ?_⟩
    · rcases g1 with g1 | ⟨y, hy, e⟩
      · cases b with
        | none => exact .inr ⟨x, by simp, by simpa [minStep] using g1⟩
        | some m =>
          have g1 : min m (f x) = v := by simpa [minStep] using g1
          by_cases q : m ≤ f x
          · exact .inl (by rw [← g1]; congr 1; omega)
          · exact .inr ⟨x, by simp, by omega⟩
      · exact .inr ⟨y, by simp [hy], e⟩
    · rcases List.mem_cons.mp hy with rfl | hy
      · exact key.1
      · exact g3 y hy
theorem within_eq (w most : Nat) (cs : List Nat) : Vbsyad.within w most cs =
    ((Vbsyad.rowsUp cs.length 0 most).filter (Vbsyad.canBe w)).foldl (minStep fun ds => dot (sortBy (fun a b => decide (b < a)) cs) ds) none := by
  have e : (fun (b : Option Nat) ds => let v := (((sortBy (fun a b => decide (b < a)) cs).zip ds).map fun x => x.1 * x.2).sum
      match b with
      | none => some v
      | some m => some (min m v)) = minStep fun ds => dot (sortBy (fun a b => decide (b < a)) cs) ds := by
    funext b ds
    unfold minStep
    simp only [dot_zip]
  rw [← e]
  rfl
def seg (c : List Nat) (i j : Nat) : List Nat := (c.drop i).take (j - i)
theorem seg_len {c : List Nat} {i j : Nat} (h : j ≤ c.length) : (seg c i j).length = j - i := by
  unfold seg
  rw [List.length_take, List.length_drop]
  omega
theorem seg_append {c : List Nat} {i m j : Nat} (h1 : i ≤ m) (h2 : m ≤ j) : seg c i j = seg c i m ++ seg c m j := by
  unfold seg
  have e : j - i = (m - i) + (j - m) := by omega
  rw [e, List.take_add, List.drop_drop, show i + (m - i) = m by omega]
structure Dp (w : Nat) (c : List Nat) (L : Nat → Nat → Nat → Option Nat) : Prop where
  zero : ∀ i j, L 0 i j = none
  one : ∀ d i, i < c.length → L (d + 1) i (i + 1) = some 0
  sound : ∀ d i j v, i + 2 ≤ j → j ≤ c.length → L (d + 1) i j = some v →
    (∃ m a b, i < m ∧ m < j ∧ L d i m = some a ∧ L d m j = some b ∧ v = (seg c i j).sum + (a + b)) ∨
    (w = 3 ∧ ∃ m k a b e, i < m ∧ m < k ∧ k < j ∧ L d i m = some a ∧ L d m k = some b ∧ L d k j = some e ∧ v = (seg c i j).sum + (a + (b + e)))
  two : ∀ d i m j a b, i < m → m < j → j ≤ c.length → L d i m = some a → L d m j = some b → ∃ v, L (d + 1) i j = some v ∧ v ≤ (seg c i j).sum + (a + b)
  three : w = 3 → ∀ d i m k j a b e, i < m → m < k → k < j → j ≤ c.length → L d i m = some a → L d m k = some b → L d k j = some e → ∃ v, L (d + 1) i j = some v ∧ v ≤ (seg c i j).sum + (a + (b + e))
theorem Dp.lower {w : Nat} {c : List Nat} {L : Nat → Nat → Nat → Option Nat} (hw : 2 ≤ w) (X : Dp w c L) : ∀ (d i j v : Nat), i < j → j ≤ c.length → L (d + 1) i j = some v →
    ∃ dl : List Nat, dl.length = j - i ∧ (∀ x ∈ dl, x ≤ d) ∧ wsum w d dl ≤ w ^ d ∧ v = dot (seg c i j) dl := by
  intro d
  induction d with
  | zero =>
    intro i j v hij hj h
    by_cases q : j = i + 1
    · subst q
      rw [X.one 0 i (by omega)] at h
      cases h
      have hl := seg_len (c := c) (i := i) (j := i + 1) hj
      refine ⟨[0], by simp, by simp, by simp [wsum_cons, wsum_nil], ?_⟩
      match seg c i (i + 1), hl with
      | [y], _ => simp [dot]
      | [], hl => simp at hl
      | _ :: _ :: _, hl => simp at hl
    · rcases X.sound 0 i j v (by omega) hj h with ⟨m, a, b, _, _, e, _⟩ | ⟨_, m, k, a, b, e', _, _, _, e, _⟩
      · rw [X.zero] at e; cases e
      · rw [X.zero] at e; cases e
  | succ d ih =>
    intro i j v hij hj h
    by_cases q : j = i + 1
    · subst q
      rw [X.one (d + 1) i (by omega)] at h
      cases h
      have hl := seg_len (c := c) (i := i) (j := i + 1) hj
      refine ⟨[0], by simp, by simp, by simp [wsum_cons, wsum_nil], ?_⟩
      match seg c i (i + 1), hl with
      | [y], _ => simp [dot]
      | [], hl => simp at hl
      | _ :: _ :: _, hl => simp at hl
    · have ew : w ^ (d + 1) = w ^ d * w := Nat.pow_succ _ _
      rcases X.sound (d + 1) i j v (by omega) hj h with ⟨m, a, b, h1, h2, e1, e2, rfl⟩ | ⟨w3, m, k, a, b, e, h1, h2, h3, e1, e2, e3, rfl⟩
      · obtain ⟨dl1, l1, b1, k1, rfl⟩ := ih i m a h1 (by omega) e1
        obtain ⟨dl2, l2, b2, k2, rfl⟩ := ih m j b h2 hj e2
        have g1 := seg_len (c := c) (i := i) (j := m) (by omega)
        have g2 := seg_len (c := c) (i := m) (j := j) hj
        refine ⟨(dl1 ++ dl2).map (· + 1), by simp; omega, ?_, ?_, ?_⟩
        · intro x hx
          obtain ⟨y, hy, rfl⟩ := List.mem_map.mp hx
          rcases List.mem_append.mp hy with hy | hy
          · have := b1 y hy; show y + 1 ≤ d + 1; omega
          · have := b2 y hy; show y + 1 ≤ d + 1; omega
        · rw [wsum_succ, wsum_append, ew]
          have : w ^ d * 2 ≤ w ^ d * w := Nat.mul_le_mul_left _ hw
          omega
        · rw [dot_succ (by rw [List.length_append, seg_append (Nat.le_of_lt h1) (Nat.le_of_lt h2), List.length_append]; omega), seg_append (c := c) (Nat.le_of_lt h1) (Nat.le_of_lt h2), dot_append (by omega)]
      · obtain ⟨dl1, l1, b1, k1, rfl⟩ := ih i m a h1 (by omega) e1
        obtain ⟨dl2, l2, b2, k2, rfl⟩ := ih m k b h2 (by omega) e2
        obtain ⟨dl3, l3, b3, k3, rfl⟩ := ih k j e h3 hj e3
        have g1 := seg_len (c := c) (i := i) (j := m) (by omega)
        have g2 := seg_len (c := c) (i := m) (j := k) (by omega)
        have g3 := seg_len (c := c) (i := k) (j := j) hj
        refine ⟨(dl1 ++ (dl2 ++ dl3)).map (· + 1), by simp; omega, ?_, ?_, ?_⟩
        · intro x hx
          obtain ⟨y, hy, rfl⟩ := List.mem_map.mp hx
          rcases List.mem_append.mp hy with hy | hy
          · have := b1 y hy; show y + 1 ≤ d + 1; omega
          · rcases List.mem_append.mp hy with hy | hy
            · have := b2 y hy; show y + 1 ≤ d + 1; omega
            · have := b3 y hy; show y + 1 ≤ d + 1; omega
        · rw [wsum_succ, wsum_append, wsum_append, ew, w3]
          rw [w3] at k1 k2 k3
          omega
        · have es : seg c i j = seg c i m ++ (seg c m k ++ seg c k j) := by
            rw [seg_append (c := c) (Nat.le_of_lt h1) (show m ≤ j by omega), seg_append (c := c) (i := m) (Nat.le_of_lt h2) (Nat.le_of_lt h3)]
          rw [dot_succ (by rw [es]; simp only [List.length_append]; omega), es, dot_append (by omega), dot_append (by omega)]
theorem pow_dvd {w a b : Nat} (h : a ≤ b) : w ^ a ∣ w ^ b := Nat.pow_dvd_pow w h
theorem dvd_gap {p s B : Nat} (hs : p ∣ s) (hB : p ∣ B) (h : s < B) : s + p ≤ B := by
  obtain ⟨x, rfl⟩ := hs
  obtain ⟨y, rfl⟩ := hB
  have hxy : x < y := by
    rcases Nat.lt_or_ge x y with q | q
    · exact q
    · have := Nat.mul_le_mul_left p q; omega
  have := Nat.mul_le_mul_left p (show x + 1 ≤ y from hxy)
  rw [Nat.mul_add] at this
  omega
theorem wsum_pos {w d : Nat} (hw : 0 < w) : ∀ {l : List Nat}, l ≠ [] → 0 < wsum w d l
  | [], h => absurd rfl h
  | x :: l, _ => by rw [wsum_cons]; have := Nat.pow_pos (n := d - x) hw; omega
theorem chunk {w d : Nat} (hw : 0 < w) : ∀ (m : List Nat) (s : Nat), Up m → (∀ x ∈ m, w ^ (d - x) ∣ s) → s ≤ w ^ d → w ^ d < s + wsum w d m →
    ∃ m1 m2, m = m1 ++ m2 ∧ s + wsum w d m1 = w ^ d ∧ m2 ≠ []
  | [], s, _, _, h1, h2 => by rw [wsum_nil] at h2; omega
  | x :: t, s, hu, hd, h1, h2 => by
    by_cases q : s = w ^ d
    · exact ⟨[], x :: t, rfl, by rw [wsum_nil]; omega, by simp⟩
    · have hh := List.pairwise_cons.mp hu
      have g := dvd_gap (hd x (by simp)) (pow_dvd (show d - x ≤ d by omega)) (show s < w ^ d by omega)
      obtain ⟨m1, m2, e, k, n⟩ := chunk hw t (s + w ^ (d - x)) hh.2 (fun y hy => Nat.dvd_add (hd y (by simp [hy])) (pow_dvd (by have := hh.1 y hy; omega))) g (by rw [wsum_cons] at h2; omega)
      exact ⟨x :: m1, m2, by rw [e]; rfl, by rw [wsum_cons]; omega, n⟩
theorem up_reverse {l : List Nat} (h : Down l) : Up l.reverse := List.pairwise_reverse.mpr h
theorem down_of_up {l : List Nat} (h : Up l) : Down l.reverse := List.pairwise_reverse.mpr h
theorem wsum_reverse (w d : Nat) (l : List Nat) : wsum w d l.reverse = wsum w d l := wsum_perm (List.reverse_perm l)
theorem pred_map : ∀ {l : List Nat}, (∀ x ∈ l, 1 ≤ x) → (l.map (· - 1)).map (· + 1) = l
  | [], _ => rfl
  | x :: l, h => by
    rw [List.map_cons, List.map_cons, pred_map (fun y hy => h y (by simp [hy]))]
    have := h x (by simp)
    show (x - 1 + 1) :: l = x :: l
    rw [show x - 1 + 1 = x by omega]
theorem no_zero {w d : Nat} (hw : 0 < w) : ∀ {l : List Nat}, 2 ≤ l.length → wsum w d l ≤ w ^ d → ∀ x ∈ l, 1 ≤ x := by
  intro l hl hs x hx
  rcases Nat.eq_zero_or_pos x with rfl | h
  · obtain ⟨a, b, rfl⟩ := List.append_of_mem hx
    rw [wsum_append, wsum_cons, Nat.sub_zero] at hs
    have : a ++ b ≠ [] := by
      intro e
      have h1 := congrArg List.length e
      simp only [List.length_append, List.length_cons, List.length_nil] at hl h1
      omega
    have h2 := wsum_pos (d := d) hw this
    rw [wsum_append] at h2
    omega
  · exact h
theorem Dp.upper {w : Nat} {c : List Nat} {L : Nat → Nat → Nat → Option Nat} (hw : w = 2 ∨ w = 3) (X : Dp w c L) : ∀ (d i j : Nat) (dl : List Nat), i < j → j ≤ c.length → dl.length = j - i → Down dl → (∀ x ∈ dl, x ≤ d) → wsum w d dl ≤ w ^ d →
    ∃ v, L (d + 1) i j = some v ∧ v ≤ dot (seg c i j) dl := by
  have hw0 : 0 < w := by omega
  intro d
  induction d with
  | zero =>
    intro i j dl hij hj hl hd hb hk
    have e : ∀ {l : List Nat}, wsum w 0 l = l.length := by
      intro l
      induction l with
      | nil => rfl
      | cons x l ih => rw [wsum_cons, ih]; simp; omega
    rw [e] at hk
    have q : j = i + 1 := by simp at hk; omega
    subst q
    exact ⟨0, X.one 0 i (by omega), Nat.zero_le _⟩
  | succ d ih =>
    intro i j dl hij hj hl hd hb hk
    by_cases q : j = i + 1
    · subst q
      exact ⟨0, X.one (d + 1) i (by omega), Nat.zero_le _⟩
    · have h1 := no_zero hw0 (show 2 ≤ dl.length by omega) hk
      obtain ⟨es, hes⟩ : ∃ es, es = dl.map (· - 1) := ⟨_, rfl⟩
      have edl : dl = es.map (· + 1) := by rw [hes, pred_map h1]
      have hel : es.length = j - i := by rw [hes, List.length_map, hl]
      have heb : ∀ x ∈ es, x ≤ d := by
        intro x hx
        rw [hes] at hx
        obtain ⟨y, hy, rfl⟩ := List.mem_map.mp hx
        have := hb y hy
        show y - 1 ≤ d
        omega
      have hed : Down es := by
        rw [hes]
        exact List.pairwise_map.mpr (hd.imp fun h => by omega)
      have hek : wsum w d es ≤ w ^ d * w := by
        rw [edl, wsum_succ, Nat.pow_succ] at hk
        exact hk
      rw [edl]
      clear hes edl h1 hk hb hd hl
      have fin2 : ∀ e1 e2 : List Nat, es = e1 ++ e2 → e1 ≠ [] → e2 ≠ [] → wsum w d e1 ≤ w ^ d → wsum w d e2 ≤ w ^ d → ∃ v, L (d + 1 + 1) i j = some v ∧ v ≤ dot (seg c i j) (es.map (· + 1)) := by
        intro e1 e2 e n1 n2 k1 k2
        have p1 : 0 < e1.length := List.length_pos_iff.mpr n1
        have p2 : 0 < e2.length := List.length_pos_iff.mpr n2
        have le : e1.length + e2.length = j - i := by rw [← hel, e, List.length_append]
        rw [e] at hed heb
        obtain ⟨d1, d2, _⟩ := List.pairwise_append.mp hed
        obtain ⟨a, ha, ba⟩ := ih i (i + e1.length) e1 (by omega) (by omega) (by omega) d1 (fun x hx => heb x (List.mem_append_left _ hx)) k1
        obtain ⟨b, hb, bb⟩ := ih (i + e1.length) j e2 (by omega) hj (by omega) d2 (fun x hx => heb x (List.mem_append_right _ hx)) k2
        obtain ⟨v, hv, bv⟩ := X.two (d + 1) i (i + e1.length) j a b (by omega) (by omega) hj ha hb
        refine ⟨v, hv, ?_⟩
        have g1 := seg_len (c := c) (i := i) (j := i + e1.length) (by omega)
        have gs : (seg c i j).length = es.length := by rw [seg_len hj, hel]
        rw [dot_succ gs, e, seg_append (c := c) (m := i + e1.length) (by omega) (by omega : i + e1.length ≤ j), dot_append (by omega)]
        rw [seg_append (c := c) (m := i + e1.length) (by omega) (by omega : i + e1.length ≤ j)] at bv
        omega
      by_cases t1 : wsum w d es ≤ w ^ d
      · match es, hel with
        | [], hel => simp at hel; omega
        | x :: r, hel =>
          refine fin2 [x] r rfl (by simp) (by rintro rfl; simp at hel; omega) ?_ ?_
          · have e : x :: r = [x] ++ r := rfl
            rw [e, wsum_append] at t1
            omega
          · rw [wsum_cons] at t1
            omega
      · obtain ⟨m1, m2, em, k1, n2⟩ := chunk (w := w) (d := d) hw0 es.reverse 0 (up_reverse hed) (fun x _ => Nat.dvd_zero _) (Nat.zero_le _) (by rw [wsum_reverse]; omega)
        have ees : es = m2.reverse ++ m1.reverse := by rw [← List.reverse_append, ← em, List.reverse_reverse]
        have n1 : m1 ≠ [] := by
          rintro rfl
          rw [wsum_nil] at k1
          have := Nat.pow_pos (n := d) hw0
          omega
        have tot : wsum w d es = wsum w d m2 + wsum w d m1 := by rw [ees, wsum_append, wsum_reverse, wsum_reverse]
        by_cases t2 : wsum w d m2 ≤ w ^ d
        · exact fin2 _ _ ees (by simpa using n2) (by simpa using n1) (by rw [wsum_reverse]; exact t2) (by rw [wsum_reverse]; omega)
        · have w3 : w = 3 := by
            rcases hw with rfl | h
            · omega
            · exact h
          have hm2u : Up m2 := by
            have := up_reverse hed
            rw [em] at this
            exact (List.pairwise_append.mp this).2.1
          obtain ⟨m3, m4, em2, k3, n4⟩ := chunk (w := w) (d := d) hw0 m2 0 hm2u (fun x _ => Nat.dvd_zero _) (Nat.zero_le _) (by omega)
          have n3 : m3 ≠ [] := by
            rintro rfl
            rw [wsum_nil] at k3
            have := Nat.pow_pos (n := d) hw0
            omega
          have tot2 : wsum w d m2 = wsum w d m3 + wsum w d m4 := by rw [em2, wsum_append]
          have k4 : wsum w d m4 ≤ w ^ d := by
            rw [w3] at hek tot tot2 k1 k3 ⊢
            omega
          have ee3 : es = m4.reverse ++ (m3.reverse ++ m1.reverse) := by rw [ees, em2, List.reverse_append, List.append_assoc]
          have p4 : 0 < m4.length := List.length_pos_iff.mpr n4
          have p3 : 0 < m3.length := List.length_pos_iff.mpr n3
          have p1 : 0 < m1.length := List.length_pos_iff.mpr n1
          have le : m4.length + (m3.length + m1.length) = j - i := by rw [← hel, ee3]; simp
          rw [ee3] at hed heb
          obtain ⟨d4, d31, _⟩ := List.pairwise_append.mp hed
          obtain ⟨d3, d1, _⟩ := List.pairwise_append.mp d31
          obtain ⟨a, ha, ba⟩ := ih i (i + m4.length) m4.reverse (by omega) (by omega) (by simp) d4 (fun x hx => heb x (List.mem_append_left _ hx)) (by rw [wsum_reverse]; exact k4)
          obtain ⟨b, hb, bb⟩ := ih (i + m4.length) (i + m4.length + m3.length) m3.reverse (by omega) (by omega) (by simp) d3 (fun x hx => heb x (List.mem_append_right _ (List.mem_append_left _ hx))) (by rw [wsum_reverse]; omega)
          obtain ⟨f, hf, bf⟩ := ih (i + m4.length + m3.length) j m1.reverse (by omega) hj (by simp; omega) d1 (fun x hx => heb x (List.mem_append_right _ (List.mem_append_right _ hx))) (by rw [wsum_reverse]; omega)
          obtain ⟨v, hv, bv⟩ := X.three w3 (d + 1) i (i + m4.length) (i + m4.length + m3.length) j a b f (by omega) (by omega) (by omega) hj ha hb hf
          refine ⟨v, hv, ?_⟩
          have gs : (seg c i j).length = es.length := by rw [seg_len hj, hel]
          have sg : seg c i j = seg c i (i + m4.length) ++ (seg c (i + m4.length) (i + m4.length + m3.length) ++ seg c (i + m4.length + m3.length) j) := by
            rw [seg_append (c := c) (m := i + m4.length) (by omega) (by omega : i + m4.length ≤ j), seg_append (c := c) (i := i + m4.length) (m := i + m4.length + m3.length) (by omega) (by omega : i + m4.length + m3.length ≤ j)]
          have g1 := seg_len (c := c) (i := i) (j := i + m4.length) (by omega)
          have g2 := seg_len (c := c) (i := i + m4.length) (j := i + m4.length + m3.length) (by omega)
          rw [dot_succ gs, ee3, sg, dot_append (by rw [List.length_reverse]; omega), dot_append (by rw [List.length_reverse]; omega)]
          rw [sg] at bv
          omega
theorem Dp.within {w most : Nat} {asc cs : List Nat} {L : Nat → Nat → Nat → Option Nat} (hw : w = 2 ∨ w = 3) (X : Dp w asc L) (hu : Up asc) (hp : asc.Perm cs) (hn : 0 < cs.length) :
    L (most + 1) 0 cs.length = Vbsyad.within w most cs := by
  have hw0 : 0 < w := by omega
  have hlen : asc.length = cs.length := hp.length_eq
  rw [within_eq, big_eq hu hp]
  have hseg : seg asc 0 cs.length = asc := by unfold seg; rw [List.drop_zero, Nat.sub_zero, ← hlen, List.take_length]
  obtain ⟨M1, M2⟩ := minFold (fun ds => dot asc.reverse ds) ((Vbsyad.rowsUp cs.length 0 most).filter (Vbsyad.canBe w)) none
  have low : ∀ v, L (most + 1) 0 cs.length = some v → ∃ ds ∈ (Vbsyad.rowsUp cs.length 0 most).filter (Vbsyad.canBe w), dot asc.reverse ds ≤ v := by
    intro v hv
    obtain ⟨dl, l1, b1, k1, rfl⟩ := X.lower (by omega) most 0 cs.length v hn (by omega) hv
    rw [hseg]
    have hb : ∀ x ∈ (sortD dl).reverse, x ≤ most := fun x hx => b1 x ((sortD_perm dl).mem_iff.mp (List.mem_reverse.mp hx))
    refine ⟨(sortD dl).reverse, List.mem_filter.mpr ⟨mem_rowsUp.mpr ⟨by rw [List.length_reverse, (sortD_perm dl).length_eq, l1]; omega, up_reverse (sortD_down dl), fun d hd => ⟨Nat.zero_le _, hb d hd⟩⟩, (canBe_iff hw0 hb).mpr ?_⟩, ?_⟩
    · rw [wsum_reverse, wsum_perm (sortD_perm dl)]
      exact k1
    · rw [dot_reverse (by rw [(sortD_perm dl).length_eq, l1]; omega)]
      exact rearr hu (by rw [l1]; omega)
  have up : ∀ ds ∈ (Vbsyad.rowsUp cs.length 0 most).filter (Vbsyad.canBe w), ∃ v, L (most + 1) 0 cs.length = some v ∧ v ≤ dot asc.reverse ds := by
    intro ds hds
    obtain ⟨h1, h2⟩ := List.mem_filter.mp hds
    obtain ⟨g1, g2, g3⟩ := mem_rowsUp.mp h1
    have hb : ∀ x ∈ ds, x ≤ most := fun x hx => (g3 x hx).2
    obtain ⟨v, hv, bv⟩ := X.upper hw most 0 cs.length ds.reverse hn (by omega) (by rw [List.length_reverse]; omega) (down_of_up g2) (fun x hx => hb x (List.mem_reverse.mp hx)) (by rw [wsum_reverse]; exact (canBe_iff hw0 hb).mp h2)
    refine ⟨v, hv, ?_⟩
    rw [hseg] at bv
    have e := dot_reverse (a := asc.reverse) (b := ds) (by rw [List.length_reverse]; omega)
    rw [List.reverse_reverse] at e
    omega
  cases eS : ((Vbsyad.rowsUp cs.length 0 most).filter (Vbsyad.canBe w)).foldl (minStep fun ds => dot asc.reverse ds) none with
  | none =>
    have e0 := (M1.mp eS).1
    cases eL : L (most + 1) 0 cs.length with
    | none => rfl
    | some v =>
      obtain ⟨ds, hds, _⟩ := low v eL
      rw [e0] at hds
      cases hds
  | some m =>
    obtain ⟨g1, _, g3⟩ := M2 m eS
    rcases g1 with g1 | ⟨x, hx, e⟩
    · cases g1
    · obtain ⟨v, hv, bv⟩ := up x hx
      obtain ⟨ds, hds, bd⟩ := low v hv
      have := g3 ds hds
      rw [hv]
      congr 1
      have e : dot asc.reverse x = m := e
      have this : m ≤ dot asc.reverse ds := this
      omega
end Shed
end
section
set_option Elab.async false
namespace Shed
def upPlaces (w : Nat) (cnt : Nat → Nat) : Nat → Nat
  | 0 => 0
  | j + 1 => (upPlaces w cnt j + cnt (8 - j) + w - 1) / w
def upSum (w : Nat) (cnt : Nat → Nat) : Nat → Nat
  | 0 => 0
  | j + 1 => upSum w cnt j + cnt (8 - j) * w ^ j
theorem ceil_le {a w M : Nat} (hw : 0 < w) : (a + w - 1) / w ≤ M ↔ a ≤ M * w := by
  have h : (a + w - 1) / w ≤ M ↔ (a + w - 1) / w < M + 1 := by omega
  rw [h, Nat.div_lt_iff_lt_mul hw, Nat.add_mul]
  omega
theorem upPlaces_le {w : Nat} (hw : 0 < w) (cnt : Nat → Nat) : ∀ (j M : Nat), upPlaces w cnt j ≤ M ↔ upSum w cnt j ≤ M * w ^ j
  | 0, M => by simp [upPlaces, upSum]
  | j + 1, M => by
    unfold upPlaces upSum
    rw [ceil_le hw, Nat.pow_succ, show M * (w ^ j * w) = M * w * w ^ j by rw [Nat.mul_assoc, Nat.mul_comm (w ^ j) w]]
    rcases Nat.lt_or_ge (M * w) (cnt (8 - j)) with q | q
    · have h1 : (M * w + 1) * w ^ j ≤ cnt (8 - j) * w ^ j := Nat.mul_le_mul_right _ q
      rw [Nat.add_mul] at h1
      have h2 := Nat.pow_pos (n := j) hw
      constructor
      · intro h; omega
      · intro h; omega
    · obtain ⟨r, hr⟩ : ∃ r, M * w = r + cnt (8 - j) := ⟨M * w - cnt (8 - j), by omega⟩
      have ih := upPlaces_le hw cnt j r
      rw [hr, Nat.add_mul]
      constructor
      · intro h; have := ih.mp (by omega); omega
      · intro h; have := ih.mpr (by omega); omega
theorem upSum_cons (w x : Nat) (l : List Nat) (hx : x ≤ 8) : ∀ j, j ≤ 9 → upSum w (fun d => (x :: l).count d) j = upSum w (fun d => l.count d) j + (if 8 - x < j then w ^ (8 - x) else 0)
  | 0, _ => by simp [upSum]
  | j + 1, hj => by
    unfold upSum
    rw [upSum_cons w x l hx j (by omega)]
    show _ + (x :: l).count (8 - j) * w ^ j = _
    rw [List.count_cons]
    by_cases q : x = 8 - j
    · rw [if_pos (by simp [q] : (x == 8 - j) = true), if_neg (by omega : ¬ 8 - x < j), if_pos (by omega : 8 - x < j + 1), show 8 - x = j by omega, Nat.add_mul]
      omega
    · rw [if_neg (by simp [q] : ¬ (x == 8 - j) = true), Nat.add_zero]
      by_cases p : 8 - x < j
      · rw [if_pos p, if_pos (by omega : 8 - x < j + 1)]; omega
      · rw [if_neg p, if_neg (by omega : ¬ 8 - x < j + 1)]; omega
theorem upSum_nil (w : Nat) : ∀ j, upSum w (fun d => ([] : List Nat).count d) j = 0
  | 0 => rfl
  | j + 1 => by unfold upSum; rw [upSum_nil w j]; simp
theorem upSum_all (w : Nat) : ∀ {l : List Nat}, (∀ d ∈ l, d ≤ 8) → upSum w (fun d => l.count d) 9 = wsum w 8 l
  | [], _ => by rw [upSum_nil]; rfl
  | x :: l, h => by
    rw [upSum_cons w x l (h x (by simp)) 9 (by omega), upSum_all w (fun d hd => h d (by simp [hd])), if_pos (by omega), wsum_cons]
    omega
theorem upSum_last (w : Nat) (cnt : Nat → Nat) : upSum w cnt 9 = upSum w cnt 8 + cnt 0 * w ^ 8 := rfl
theorem canBe_places {w : Nat} (hw : 0 < w) {l : List Nat} (h : ∀ d ∈ l, d ≤ 8) : decide (upPlaces w (fun d => l.count d) 8 + l.count 0 ≤ 1) = Vbsyad.canBe w l := by
  rw [Bool.eq_iff_iff, decide_eq_true_iff, canBe_iff hw h, ← upSum_all w h, upSum_last]
  have h0 := upPlaces_le hw (fun d => l.count d) 8 0
  have h1 := upPlaces_le hw (fun d => l.count d) 8 1
  have hp := Nat.pow_pos (n := 8) hw
  rw [Nat.zero_mul] at h0
  rw [Nat.one_mul] at h1
  match e : l.count 0 with
  | 0 => simp only [Nat.zero_mul, Nat.add_zero]; exact h1
  | 1 => rw [Nat.one_mul]; constructor <;> intro q <;> omega
  | k + 2 =>
    rw [show (k + 2) * w ^ 8 = k * w ^ 8 + 2 * w ^ 8 by rw [Nat.add_mul]]
    constructor
    · intro q; omega
    · intro q; omega
end Shed
end
section
set_option Elab.async false
namespace Shed
open Vbsyad (Tree sheepIn costOf shown farmsOf countOf sumFrom orderedFrom putIn Piles)
structure Pl where
  sheep : Nat
  cost : Nat
  nums : List Int
def joinP (ps : List Pl) : Pl := ⟨(ps.map (·.sheep)).sum, (ps.map (·.sheep)).sum + (ps.map (·.cost)).sum, (ps.length : Int) :: ps.flatMap (·.nums)⟩
def penP (s : Nat) (f : Nat) : Pl := ⟨s, 0, [0, (f : Int)]⟩
def pensP (cs : List Nat) : List Pl := cs.zipIdx.map fun x => penP x.1 x.2
theorem pensP_len (cs : List Nat) : (pensP cs).length = cs.length := by simp [pensP]
theorem pensP_get {cs : List Nat} {i : Nat} (h : i < cs.length) : (pensP cs)[i]? = some (penP (cs.getD i 0) i) := by
  simp [pensP, h]
abbrev Span := Nat × Nat
def cuts (i j : Nat) : List Nat := (List.range (j - (i + 1))).map fun k => i + 1 + k
def splits (i j w : Nat) : List (List Span) := (cuts i j).map (fun m => [(i, m), (m, j)]) ++
  if w = 3 then (cuts i j).flatMap fun m => (cuts m j).map fun k => [(i, m), (m, k), (k, j)] else []
def looks (L : Span → Option Pl) : List Span → Option (List Pl)
  | [] => some []
  | s :: r => match L s, looks L r with
    | some p, some ps => some (p :: ps)
    | _, _ => none
def better (ch : Option Pl) (r : Pl) : Option Pl := match ch with
  | none => some r
  | some c => if r.cost < c.cost then some r else some c
def flrStep (L : Span → Option Pl) (ch : Option Pl) (spans : List Span) : Option Pl := match looks L spans with
  | none => ch
  | some ps => better ch (joinP ps)
def flr (L : Span → Option Pl) (rows : List (List Span)) : Option Pl := rows.foldl (flrStep L) none
def lvl (w : Nat) (pens : List Pl) : Nat → Span → Option Pl
  | 0, _ => none
  | d + 1, s => if s.2 = s.1 + 1 then pens[s.1]? else if s.1 + 2 ≤ s.2 ∧ s.2 ≤ pens.length then flr (lvl w pens d) (splits s.1 s.2 w) else none
theorem flr_from (L : Span → Option Pl) : ∀ (rows : List (List Span)) (ch : Option Pl),
    (∀ r, rows.foldl (flrStep L) ch = some r → ch = some r ∨ ∃ s ∈ rows, ∃ ps, looks L s = some ps ∧ r = joinP ps) ∧
    (∀ c, ch = some c → ∃ r, rows.foldl (flrStep L) ch = some r ∧ r.cost ≤ c.cost) ∧
    (∀ s ∈ rows, ∀ ps, looks L s = some ps → ∃ r, rows.foldl (flrStep L) ch = some r ∧ r.cost ≤ (joinP ps).cost)
  | [], ch => ⟨fun r h => .inl h, fun c h => ⟨c, h, Nat.le_refl _⟩, by simp⟩
  | s :: rows, ch => by
    rw [List.foldl_cons]
    obtain ⟨h1, h2, h3⟩ := flr_from L rows (flrStep L ch s)
    have stepS : ∀ c, ch = some c → ∃ r, flrStep L ch s = some r ∧ r.cost ≤ c.cost := by
      rintro c rfl
      unfold flrStep
      cases looks L s with
      | none => exact ⟨c, rfl, Nat.le_refl _⟩
      | some ps =>
        unfold better
        dsimp only
        split
        · rename_i q; exact ⟨_, rfl, Nat.le_of_lt q⟩
        · exact ⟨_, rfl, Nat.le_refl _⟩
    have stepN : ∀ ps, looks L s = some ps → ∃ r, flrStep L ch s = some r ∧ r.cost ≤ (joinP ps).cost := by
      intro ps e
      unfold flrStep
      rw [e]
      unfold better
      cases ch with
      | none => exact ⟨_, rfl, Nat.le_refl _⟩
      | some c =>
        dsimp only
        split
        · exact ⟨_, rfl, Nat.le_refl _⟩
        · rename_i q; exact ⟨_, rfl, by omega⟩
    refine ⟨fun r h => ?_, fun c hc => ?_, fun t ht ps e => ?_⟩
    · rcases h1 r h with g | ⟨t, ht, ps, e, er⟩
      · unfold flrStep at g
        cases e : looks L s with
        | none => rw [e] at g; exact .inl g
        | some ps =>
          rw [e] at g
          unfold better at g
          cases ch with
          | none => exact .inr ⟨s, by simp, ps, e, (Option.some.inj g).symm⟩
          | some c =>
            dsimp only at g
            split at g
            · exact .inr ⟨s, by simp, ps, e, (Option.some.inj g).symm⟩
            · exact .inl g
      · exact .inr ⟨t, by simp [ht], ps, e, er⟩
    · obtain ⟨r, e, b⟩ := stepS c hc
      obtain ⟨r', e', b'⟩ := h2 r e
      exact ⟨r', e', by omega⟩
    · rcases List.mem_cons.mp ht with rfl | ht
      · obtain ⟨r, er, b⟩ := stepN ps e
        obtain ⟨r', e', b'⟩ := h2 r er
        exact ⟨r', e', by omega⟩
      · exact h3 t ht ps e
theorem flr_sound {L : Span → Option Pl} {rows : List (List Span)} {r : Pl} (h : flr L rows = some r) : ∃ s ∈ rows, ∃ ps, looks L s = some ps ∧ r = joinP ps := by
  rcases (flr_from L rows none).1 r h with e | e
  · cases e
  · exact e
theorem flr_has {L : Span → Option Pl} {rows : List (List Span)} {s : List Span} {ps : List Pl} (hs : s ∈ rows) (e : looks L s = some ps) : ∃ r, flr L rows = some r ∧ r.cost ≤ (joinP ps).cost :=
  (flr_from L rows none).2.2 s hs ps e
theorem mem_cuts {i j m : Nat} : m ∈ cuts i j ↔ i < m ∧ m < j := by
  unfold cuts
  rw [List.mem_map]
  constructor
  · rintro ⟨k, hk, rfl⟩
    rw [List.mem_range] at hk
    omega
  · rintro ⟨h1, h2⟩
    exact ⟨m - (i + 1), List.mem_range.mpr (by omega), by omega⟩
theorem mem_splits {i j w : Nat} {s : List Span} : s ∈ splits i j w ↔ (∃ m, i < m ∧ m < j ∧ s = [(i, m), (m, j)]) ∨ (w = 3 ∧ ∃ m k, i < m ∧ m < k ∧ k < j ∧ s = [(i, m), (m, k), (k, j)]) := by
  unfold splits
  rw [List.mem_append]
  constructor
  · rintro (h | h)
    · obtain ⟨m, hm, rfl⟩ := List.mem_map.mp h
      exact .inl ⟨m, (mem_cuts.mp hm).1, (mem_cuts.mp hm).2, rfl⟩
    · split at h
      · rename_i w3
        obtain ⟨m, hm, h⟩ := List.mem_flatMap.mp h
        obtain ⟨k, hk, rfl⟩ := List.mem_map.mp h
        exact .inr ⟨w3, m, k, (mem_cuts.mp hm).1, (mem_cuts.mp hk).1, (mem_cuts.mp hk).2, rfl⟩
      · cases h
  · rintro (⟨m, h1, h2, rfl⟩ | ⟨w3, m, k, h1, h2, h3, rfl⟩)
    · exact .inl (List.mem_map.mpr ⟨m, mem_cuts.mpr ⟨h1, h2⟩, rfl⟩)
    · rw [if_pos w3]
      exact .inr (List.mem_flatMap.mpr ⟨m, mem_cuts.mpr ⟨h1, by omega⟩, List.mem_map.mpr ⟨k, mem_cuts.mpr ⟨h2, h3⟩, rfl⟩⟩)
theorem looks2 {L : Span → Option Pl} {a b : Span} {ps : List Pl} (h : looks L [a, b] = some ps) : ∃ x y, L a = some x ∧ L b = some y ∧ ps = [x, y] := by
  simp only [looks] at h
  cases ha : L a with
  | none => rw [ha] at h; cases h
  | some x =>
    cases hb : L b with
    | none => rw [ha, hb] at h; cases h
    | some y => rw [ha, hb] at h; exact ⟨x, y, rfl, rfl, (Option.some.inj h).symm⟩
theorem looks3 {L : Span → Option Pl} {a b c : Span} {ps : List Pl} (h : looks L [a, b, c] = some ps) : ∃ x y z, L a = some x ∧ L b = some y ∧ L c = some z ∧ ps = [x, y, z] := by
  simp only [looks] at h
  cases ha : L a with
  | none => rw [ha] at h; cases h
  | some x =>
    cases hb : L b with
    | none => rw [ha, hb] at h; cases h
    | some y =>
      cases hc : L c with
      | none => rw [ha, hb, hc] at h; cases h
      | some z => rw [ha, hb, hc] at h; exact ⟨x, y, z, rfl, rfl, rfl, (Option.some.inj h).symm⟩
theorem seg_one {c : List Nat} {i : Nat} (h : i < c.length) : seg c i (i + 1) = [c[i]] := by
  unfold seg
  rw [show i + 1 - i = 1 by omega, List.drop_eq_getElem_cons h, List.take_succ_cons, List.take_zero]
theorem lvl_sheep {w : Nat} {pens : List Pl} : ∀ (d i j : Nat) (p : Pl), i < j → j ≤ pens.length → lvl w pens d (i, j) = some p → p.sheep = (seg (pens.map (·.sheep)) i j).sum
  | 0, i, j, p, _, _, h => by cases h
  | d + 1, i, j, p, hij, hj, h => by
    unfold lvl at h
    dsimp only at h
    split at h
    · rename_i q
      subst q
      have hi : i < pens.length := by omega
      rw [List.getElem?_eq_getElem hi] at h
      cases h
      rw [seg_one (by simpa using hi)]
      simp
    · split at h
      · obtain ⟨s, hs, ps, e, rfl⟩ := flr_sound h
        rcases mem_splits.mp hs with ⟨m, h1, h2, rfl⟩ | ⟨_, m, k, h1, h2, h3, rfl⟩
        · obtain ⟨x, y, ex, ey, rfl⟩ := looks2 e
          have gx := lvl_sheep d i m x h1 (by omega) ex
          have gy := lvl_sheep d m j y h2 hj ey
          rw [seg_append (m := m) (by omega) (by omega), List.sum_append_nat, ← gx, ← gy]
          simp [joinP]
        · obtain ⟨x, y, z, ex, ey, ez, rfl⟩ := looks3 e
          have gx := lvl_sheep d i m x h1 (by omega) ex
          have gy := lvl_sheep d m k y h2 (by omega) ey
          have gz := lvl_sheep d k j z h3 hj ez
          rw [seg_append (m := m) (j := j) (by omega) (by omega), seg_append (i := m) (m := k) (j := j) (by omega) (by omega), List.sum_append_nat, List.sum_append_nat, ← gx, ← gy, ← gz]
          simp [joinP]
      · cases h
theorem lvl_dp {w : Nat} {pens : List Pl} (h0 : ∀ p ∈ pens, p.cost = 0) : Dp w (pens.map (·.sheep)) (fun d i j => (lvl w pens d (i, j)).map (·.cost)) where
  zero := fun i j => rfl
  one := fun d i hi => by
    have hi : i < pens.length := by simpa using hi
    show ((lvl w pens (d + 1) (i, i + 1)).map (·.cost)) = _
    unfold lvl
    rw [if_pos rfl]
    show (pens[i]?).map _ = _
    rw [List.getElem?_eq_getElem hi]
    exact congrArg some (h0 _ (List.getElem_mem hi))
  sound := fun d i j v hij hj h => by
    have hj' : j ≤ pens.length := by simpa using hj
    have h : (lvl w pens (d + 1) (i, j)).map (·.cost) = some v := h
    unfold lvl at h
    rw [if_neg (show ¬ (i, j).2 = (i, j).1 + 1 by show ¬ j = i + 1; omega), if_pos (show (i, j).1 + 2 ≤ (i, j).2 ∧ (i, j).2 ≤ pens.length from ⟨hij, hj'⟩)] at h
    cases e : flr (lvl w pens d) (splits i j w) with
    | none => rw [show flr (lvl w pens d) (splits (i, j).1 (i, j).2 w) = none from e] at h; cases h
    | some r =>
      rw [show flr (lvl w pens d) (splits (i, j).1 (i, j).2 w) = some r from e] at h
      have ev : r.cost = v := Option.some.inj h
      obtain ⟨s, hs, ps, e, rfl⟩ := flr_sound e
      rcases mem_splits.mp hs with ⟨m, h1, h2, rfl⟩ | ⟨w3, m, k, h1, h2, h3, rfl⟩
      · obtain ⟨x, y, ex, ey, rfl⟩ := looks2 e
        refine .inl ⟨m, x.cost, y.cost, h1, h2, by show (lvl w pens d (i, m)).map _ = _; rw [ex]; rfl, by show (lvl w pens d (m, j)).map _ = _; rw [ey]; rfl, ?_⟩
        rw [seg_append (m := m) (by omega) (by omega), List.sum_append_nat, ← lvl_sheep d i m x h1 (by omega) ex, ← lvl_sheep d m j y h2 hj' ey, ← ev]
        simp [joinP]
      · obtain ⟨x, y, z, ex, ey, ez, rfl⟩ := looks3 e
        refine .inr ⟨w3, m, k, x.cost, y.cost, z.cost, h1, h2, h3, by show (lvl w pens d (i, m)).map _ = _; rw [ex]; rfl, by show (lvl w pens d (m, k)).map _ = _; rw [ey]; rfl, by show (lvl w pens d (k, j)).map _ = _; rw [ez]; rfl, ?_⟩
        rw [seg_append (m := m) (j := j) (by omega) (by omega), seg_append (i := m) (m := k) (j := j) (by omega) (by omega), List.sum_append_nat, List.sum_append_nat, ← lvl_sheep d i m x h1 (by omega) ex, ← lvl_sheep d m k y h2 (by omega) ey, ← lvl_sheep d k j z h3 hj' ez, ← ev]
        simp [joinP]
  two := fun d i m j a b h1 h2 hj ha hb => by
    have hj' : j ≤ pens.length := by simpa using hj
    have ha : (lvl w pens d (i, m)).map (·.cost) = some a := ha
    have hb : (lvl w pens d (m, j)).map (·.cost) = some b := hb
    show ∃ v, (lvl w pens (d + 1) (i, j)).map (·.cost) = some v ∧ _
    cases ex : lvl w pens d (i, m) with
    | none => rw [ex] at ha; cases ha
    | some x =>
      cases ey : lvl w pens d (m, j) with
      | none => rw [ey] at hb; cases hb
      | some y =>
        rw [ex] at ha; rw [ey] at hb
        have ha : x.cost = a := Option.some.inj ha
        have hb : y.cost = b := Option.some.inj hb
        obtain ⟨r, er, br⟩ := flr_has (L := lvl w pens d) (rows := splits i j w) (s := [(i, m), (m, j)]) (ps := [x, y]) (mem_splits.mpr (.inl ⟨m, h1, h2, rfl⟩)) (by simp [looks, ex, ey])
        refine ⟨r.cost, ?_, ?_⟩
        · unfold lvl
          rw [if_neg (show ¬ (i, j).2 = (i, j).1 + 1 by show ¬ j = i + 1; omega), if_pos (show (i, j).1 + 2 ≤ (i, j).2 ∧ (i, j).2 ≤ pens.length from ⟨by show i + 2 ≤ j; omega, hj'⟩)]
          show (flr (lvl w pens d) (splits i j w)).map _ = _
          rw [er]
          rfl
        · rw [seg_append (m := m) (by omega) (by omega), List.sum_append_nat, ← lvl_sheep d i m x h1 (by omega) ex, ← lvl_sheep d m j y h2 hj' ey, ← ha, ← hb]
          have : (joinP [x, y]).cost = x.sheep + y.sheep + (x.cost + y.cost) := by simp [joinP]
          omega
  three := fun w3 d i m k j a b e h1 h2 h3 hj ha hb hc => by
    have hj' : j ≤ pens.length := by simpa using hj
    have ha : (lvl w pens d (i, m)).map (·.cost) = some a := ha
    have hb : (lvl w pens d (m, k)).map (·.cost) = some b := hb
    have hc : (lvl w pens d (k, j)).map (·.cost) = some e := hc
    show ∃ v, (lvl w pens (d + 1) (i, j)).map (·.cost) = some v ∧ _
    cases ex : lvl w pens d (i, m) with
    | none => rw [ex] at ha; cases ha
    | some x =>
      cases ey : lvl w pens d (m, k) with
      | none => rw [ey] at hb; cases hb
      | some y =>
        cases ez : lvl w pens d (k, j) with
        | none => rw [ez] at hc; cases hc
        | some z =>
          rw [ex] at ha; rw [ey] at hb; rw [ez] at hc
          have ha : x.cost = a := Option.some.inj ha
          have hb : y.cost = b := Option.some.inj hb
          have hc : z.cost = e := Option.some.inj hc
          obtain ⟨r, er, br⟩ := flr_has (L := lvl w pens d) (rows := splits i j w) (s := [(i, m), (m, k), (k, j)]) (ps := [x, y, z]) (mem_splits.mpr (.inr ⟨w3, m, k, h1, h2, h3, rfl⟩)) (by simp [looks, ex, ey, ez])
          refine ⟨r.cost, ?_, ?_⟩
          · unfold lvl
            rw [if_neg (show ¬ (i, j).2 = (i, j).1 + 1 by show ¬ j = i + 1; omega), if_pos (show (i, j).1 + 2 ≤ (i, j).2 ∧ (i, j).2 ≤ pens.length from ⟨by show i + 2 ≤ j; omega, hj'⟩)]
            show (flr (lvl w pens d) (splits i j w)).map _ = _
            rw [er]
            rfl
          · rw [seg_append (m := m) (j := j) (by omega) (by omega), seg_append (i := m) (m := k) (j := j) (by omega) (by omega), List.sum_append_nat, List.sum_append_nat, ← lvl_sheep d i m x h1 (by omega) ex, ← lvl_sheep d m k y h2 (by omega) ey, ← lvl_sheep d k j z h3 hj' ez, ← ha, ← hb, ← hc]
            have : (joinP [x, y, z]).cost = x.sheep + (y.sheep + z.sheep) + (x.cost + (y.cost + z.cost)) := by simp [joinP]
            omega
theorem within_lvl {w most : Nat} {cs : List Nat} {pens : List Pl} (hw : w = 2 ∨ w = 3) (h0 : ∀ p ∈ pens, p.cost = 0) (hu : Up (pens.map (·.sheep))) (hp : (pens.map (·.sheep)).Perm cs) (hn : 0 < cs.length) :
    (lvl w pens (most + 1) (0, cs.length)).map (·.cost) = Vbsyad.within w most cs :=
  (lvl_dp (w := w) h0).within hw hu hp hn
def phi (s : Nat) (x : Nat × Tree) : Pl := ⟨s, x.1, shown x.2⟩
theorem better_lesser (s : Nat) : ∀ (l : List (Nat × Tree)) (x : Nat × Tree), (l.map (phi s)).foldl better (some (phi s x)) = some (phi s (l.foldl Vbsyad.lesser x))
  | [], x => rfl
  | y :: l, x => by
    rw [List.map_cons, List.foldl_cons, List.foldl_cons, ← better_lesser s l]
    congr 1
    unfold better Vbsyad.lesser
    dsimp only
    show (if y.1 < x.1 then some (phi s y) else some (phi s x)) = _
    split <;> rfl
theorem flr_all {L : Span → Option Pl} {f : List Span → Pl} : ∀ {rows : List (List Span)} {ch : Option Pl}, (∀ s ∈ rows, ∃ ps, looks L s = some ps ∧ joinP ps = f s) → rows.foldl (flrStep L) ch = (rows.map f).foldl better ch
  | [], ch, _ => rfl
  | s :: rows, ch, h => by
    obtain ⟨ps, e, ef⟩ := h s (by simp)
    rw [List.foldl_cons, List.map_cons, List.foldl_cons, flr_all (rows := rows) (fun t ht => h t (by simp [ht]))]
    congr 1
    unfold flrStep
    rw [e]
    dsimp only
    rw [ef]
theorem sumFrom_seg (cs : List Nat) (i n : Nat) : sumFrom cs i n = (seg cs i (i + n)).sum := by
  unfold sumFrom seg
  rw [show i + n - i = n by omega]
def cands (w : Nat) (cs : List Nat) (f i n : Nat) : List (Nat × Tree) :=
  ((List.range (n - 1)).map fun k => let a := orderedFrom w cs f i (k + 1); let b := orderedFrom w cs f (i + (k + 1)) (n - (k + 1)); (sumFrom cs i n + (a.1 + b.1), Tree.two a.2 b.2)) ++
  (if w = 3 then (List.range (n - 1)).flatMap fun k => (List.range (n - (k + 2))).map fun j => let a := orderedFrom w cs f i (k + 1); let b := orderedFrom w cs f (i + (k + 1)) (j + 1); let c := orderedFrom w cs f (i + (k + (j + 2))) (n - (k + (j + 2))); (sumFrom cs i n + (a.1 + (b.1 + c.1)), Tree.three a.2 b.2 c.2) else [])
theorem orderedFrom_succ (w : Nat) (cs : List Nat) (f i n : Nat) : orderedFrom w cs (f + 1) i n = if n ≤ 1 then (0, .pen i) else (match cands w cs f i n with
    | [] => (0, .pen i)
    | x :: l => l.foldl Vbsyad.lesser x) := rfl
theorem ordered_lvl {w : Nat} {cs : List Nat} : ∀ (d i n f : Nat), 1 ≤ n → n ≤ d → n ≤ f → i + n ≤ cs.length →
    lvl w (pensP cs) d (i, i + n) = some (phi (sumFrom cs i n) (orderedFrom w cs f i n))
  | 0, i, n, f, h1, h2, _, _ => by omega
  | d + 1, i, n, 0, h1, _, h3, _ => by omega
  | d + 1, i, n, f + 1, h1, h2, h3, h4 => by
    by_cases q : n = 1
    · subst q
      unfold lvl
      rw [if_pos rfl, orderedFrom_succ, if_pos (Nat.le_refl 1)]
      show (pensP cs)[i]? = _
      rw [pensP_get (by omega), sumFrom_seg, seg_one (by omega)]
      simp [penP, phi, shown]
      rw [List.getElem?_eq_getElem (by omega)]
      rfl
    · have ih := fun a m => ordered_lvl (w := w) (cs := cs) d a m f
      have hlen : i + n ≤ (pensP cs).length := by rw [pensP_len]; omega
      unfold lvl
      rw [if_neg (show ¬ (i, i + n).2 = (i, i + n).1 + 1 by show ¬ i + n = i + 1; omega), if_pos (show (i, i + n).1 + 2 ≤ (i, i + n).2 ∧ (i, i + n).2 ≤ (pensP cs).length from ⟨by show i + 2 ≤ i + n; omega, hlen⟩)]
      show flr (lvl w (pensP cs) d) (splits i (i + n) w) = _
      let g : Span → Nat × Tree := fun s => orderedFrom w cs f s.1 (s.2 - s.1)
      let F : List Span → Nat × Tree := fun r => match r with
        | [a, b] => (sumFrom cs i n + ((g a).1 + (g b).1), Tree.two (g a).2 (g b).2)
        | [a, b, c] => (sumFrom cs i n + ((g a).1 + ((g b).1 + (g c).1)), Tree.three (g a).2 (g b).2 (g c).2)
        | _ => (0, Tree.pen 0)
      have key : ∀ s ∈ splits i (i + n) w, ∃ ps, looks (lvl w (pensP cs) d) s = some ps ∧ joinP ps = phi (sumFrom cs i n) (F s) := by
        intro s hs
        rcases mem_splits.mp hs with ⟨m, h5, h6, rfl⟩ | ⟨_, m, k, h5, h6, h7, rfl⟩
        · have e1 := ih i (m - i) (by omega) (by omega) (by omega) (by omega)
          have e2 := ih m (i + n - m) (by omega) (by omega) (by omega) (by omega)
          rw [show i + (m - i) = m by omega] at e1
          rw [show m + (i + n - m) = i + n by omega] at e2
          refine ⟨_, (by simp only [looks, e1, e2]; rfl), ?_⟩
          have es : sumFrom cs i (m - i) + sumFrom cs m (i + n - m) = sumFrom cs i n := by
            rw [sumFrom_seg, sumFrom_seg, sumFrom_seg, show i + (m - i) = m by omega, show m + (i + n - m) = i + n by omega, seg_append (c := cs) (i := i) (m := m) (j := i + n) (by omega) (by omega), List.sum_append_nat]
          have ej : ∀ a b : Pl, joinP [a, b] = ⟨a.sheep + b.sheep, a.sheep + b.sheep + (a.cost + b.cost), 2 :: (a.nums ++ b.nums)⟩ := by intro a b; simp [joinP]
          rw [ej]
          show Pl.mk (sumFrom cs i (m - i) + sumFrom cs m (i + n - m)) (sumFrom cs i (m - i) + sumFrom cs m (i + n - m) + _) _ = _
          rw [es]
          rfl
        · have e1 := ih i (m - i) (by omega) (by omega) (by omega) (by omega)
          have e2 := ih m (k - m) (by omega) (by omega) (by omega) (by omega)
          have e3 := ih k (i + n - k) (by omega) (by omega) (by omega) (by omega)
          rw [show i + (m - i) = m by omega] at e1
          rw [show m + (k - m) = k by omega] at e2
          rw [show k + (i + n - k) = i + n by omega] at e3
          refine ⟨_, (by simp only [looks, e1, e2, e3]; rfl), ?_⟩
          have es : sumFrom cs i (m - i) + (sumFrom cs m (k - m) + sumFrom cs k (i + n - k)) = sumFrom cs i n := by
            rw [sumFrom_seg, sumFrom_seg, sumFrom_seg, sumFrom_seg, show i + (m - i) = m by omega, show m + (k - m) = k by omega, show k + (i + n - k) = i + n by omega, seg_append (c := cs) (i := i) (m := m) (j := i + n) (by omega) (by omega), seg_append (c := cs) (i := m) (m := k) (j := i + n) (by omega) (by omega), List.sum_append_nat, List.sum_append_nat]
          have ej : ∀ a b c : Pl, joinP [a, b, c] = ⟨a.sheep + (b.sheep + c.sheep), a.sheep + (b.sheep + c.sheep) + (a.cost + (b.cost + c.cost)), 3 :: (a.nums ++ (b.nums ++ c.nums))⟩ := by intro a b c; simp [joinP]
          rw [ej]
          show Pl.mk (sumFrom cs i (m - i) + (sumFrom cs m (k - m) + sumFrom cs k (i + n - k))) (sumFrom cs i (m - i) + (sumFrom cs m (k - m) + sumFrom cs k (i + n - k)) + _) _ = _
          rw [es]
          rfl
      have eS : (splits i (i + n) w).map F = cands w cs f i n := by
        unfold cands
        unfold splits
        rw [List.map_append]
        congr 1
        · unfold cuts
          rw [List.map_map, List.map_map, show i + n - (i + 1) = n - 1 by omega]
          refine List.map_congr_left fun k hk => ?_
          have hk := List.mem_range.mp hk
          show (sumFrom cs i n + ((orderedFrom w cs f i (i + 1 + k - i)).1 + (orderedFrom w cs f (i + 1 + k) (i + n - (i + 1 + k))).1), Tree.two _ _) = _
          rw [show i + 1 + k - i = k + 1 by omega, show i + 1 + k = i + (k + 1) by omega, show i + n - (i + (k + 1)) = n - (k + 1) by omega]
          show (_, Tree.two (orderedFrom w cs f i (i + 1 + k - i)).2 (orderedFrom w cs f (i + 1 + k) (i + n - (i + 1 + k))).2) = _
          rw [show i + 1 + k - i = k + 1 by omega, show i + 1 + k = i + (k + 1) by omega, show i + n - (i + (k + 1)) = n - (k + 1) by omega]
        · split
          · unfold cuts
            rw [List.map_flatMap, List.flatMap_map, show i + n - (i + 1) = n - 1 by omega]
            rw [List.flatMap_def, List.flatMap_def]
            congr 1
            refine List.map_congr_left fun k hk => ?_
            have hk := List.mem_range.mp hk
            rw [List.map_map, List.map_map, show i + n - (i + 1 + k + 1) = n - (k + 2) by omega]
            refine List.map_congr_left fun j hj => ?_
            have hj := List.mem_range.mp hj
            show (sumFrom cs i n + ((orderedFrom w cs f i (i + 1 + k - i)).1 + ((orderedFrom w cs f (i + 1 + k) (i + 1 + k + 1 + j - (i + 1 + k))).1 + (orderedFrom w cs f (i + 1 + k + 1 + j) (i + n - (i + 1 + k + 1 + j))).1)),
              Tree.three (orderedFrom w cs f i (i + 1 + k - i)).2 (orderedFrom w cs f (i + 1 + k) (i + 1 + k + 1 + j - (i + 1 + k))).2 (orderedFrom w cs f (i + 1 + k + 1 + j) (i + n - (i + 1 + k + 1 + j))).2) = _
            rw [show i + 1 + k + 1 + j - (i + 1 + k) = j + 1 by omega, show i + n - (i + 1 + k + 1 + j) = n - (k + (j + 2)) by omega, show i + 1 + k - i = k + 1 by omega, show i + 1 + k + 1 + j = i + (k + (j + 2)) by omega, show i + 1 + k = i + (k + 1) by omega]
          · rfl
      unfold flr
      rw [flr_all (f := fun s => phi (sumFrom cs i n) (F s)) key, show (fun s => phi (sumFrom cs i n) (F s)) = phi (sumFrom cs i n) ∘ F from rfl, ← List.map_map, eS]
      rw [orderedFrom_succ, if_neg (show ¬ n ≤ 1 by omega)]
      generalize hC : cands w cs f i n = C
      match C, hC with
      | [], hC =>
        have := congrArg List.length hC
        unfold cands at this
        simp only [List.length_append, List.length_map, List.length_range, List.length_nil] at this
        omega
      | x :: l, _ =>
        rw [List.map_cons, List.foldl_cons]
        exact better_lesser _ l x
theorem ordered_plan {w : Nat} {cs : List Nat} (hn : 0 < cs.length) : lvl w (pensP cs) cs.length (0, cs.length) = some (phi cs.sum (Vbsyad.ordered w cs)) := by
  have h := ordered_lvl (w := w) (cs := cs) cs.length 0 cs.length (cs.length + 1) hn (Nat.le_refl _) (Nat.le_succ _) (by omega)
  rw [Nat.zero_add] at h
  rw [h]
  have e : sumFrom cs 0 cs.length = cs.sum := by unfold sumFrom; rw [List.drop_zero, List.take_length]
  rw [e]
  rfl
end Shed
end
section
set_option Elab.async false
set_option linter.all false
namespace Shed
open Vbsyad (Tree sheepIn costOf shown farmsOf countOf putIn Piles leastTree piles evened)
def psi (cs : List Nat) (x : Nat × Tree) : Pl := ⟨x.1, costOf cs x.2, shown x.2⟩
def insP (x : Pl) (r : List Pl) : List Pl := r.take (r.filter fun p => decide (p.sheep ≤ x.sheep)).length ++ x :: r.drop (r.filter fun p => decide (p.sheep ≤ x.sheep)).length
def wfj (l : List Pl) (w : Nat) : List Pl := insP (joinP (l.take w)) (l.drop w)
abbrev SortP (l : Piles) : Prop := l.Pairwise (fun a b => a.1 ≤ b.1)
abbrev GoodP (cs : List Nat) (l : Piles) : Prop := ∀ x ∈ l, x.1 = sheepIn cs x.2
theorem putIn_perm (x : Nat × Tree) : ∀ l : Piles, (putIn x l).Perm (x :: l)
  | [] => .refl _
  | y :: l => by
    unfold putIn
    split
    · exact ((putIn_perm x l).cons y).trans (.swap x y l)
    · exact .refl _
theorem putIn_len (x : Nat × Tree) (l : Piles) : (putIn x l).length = l.length + 1 := (putIn_perm x l).length_eq
theorem putIn_sorted {x : Nat × Tree} : ∀ {l : Piles}, SortP l → SortP (putIn x l)
  | [], _ => by simp [putIn]
  | y :: l, h => by
    have hh := List.pairwise_cons.mp h
    unfold putIn
    split
    · rename_i q
      refine List.pairwise_cons.mpr ⟨fun z hz => ?_, putIn_sorted hh.2⟩
      rcases List.mem_cons.mp ((putIn_perm x l).mem_iff.mp hz) with rfl | hz
      · exact q
      · exact hh.1 z hz
    · rename_i q
      refine List.pairwise_cons.mpr ⟨fun z hz => ?_, h⟩
      rcases List.mem_cons.mp hz with rfl | hz
      · omega
      · have := hh.1 z hz; omega
theorem putIn_good {cs : List Nat} {x : Nat × Tree} {l : Piles} (hx : x.1 = sheepIn cs x.2) (h : GoodP cs l) : GoodP cs (putIn x l) := fun y hy => by
  rcases List.mem_cons.mp ((putIn_perm x l).mem_iff.mp hy) with rfl | hy
  · exact hx
  · exact h y hy
theorem insP_putIn {cs : List Nat} {x : Nat × Tree} : ∀ {l : Piles}, SortP l → insP (psi cs x) (l.map (psi cs)) = (putIn x l).map (psi cs)
  | [], _ => rfl
  | y :: l, h => by
    have hh := List.pairwise_cons.mp h
    by_cases q : y.1 ≤ x.1
    · have ih := insP_putIn (cs := cs) (x := x) hh.2
      unfold putIn
      rw [if_pos q, List.map_cons, List.map_cons, ← ih]
      unfold insP
      rw [List.filter_cons, if_pos (by show decide (y.1 ≤ x.1) = true; simp [q]), List.length_cons, List.take_succ_cons, List.drop_succ_cons]
      rfl
    · unfold putIn
      rw [if_neg q]
      have e : ((y :: l).map (psi cs)).filter (fun p => decide (p.sheep ≤ (psi cs x).sheep)) = [] := by
        rw [List.filter_eq_nil_iff]
        intro p hp
        obtain ⟨z, hz, rfl⟩ := List.mem_map.mp hp
        show ¬ decide (z.1 ≤ x.1) = true
        rcases List.mem_cons.mp hz with rfl | hz
        · simp; omega
        · have := hh.1 z hz; simp; omega
      unfold insP
      rw [e]
      rfl
theorem sheepIn_two (cs : List Nat) (a b : Tree) : sheepIn cs (.two a b) = sheepIn cs a + sheepIn cs b := by
  unfold sheepIn
  rw [show farmsOf (.two a b) = farmsOf a ++ farmsOf b from rfl, List.map_append, List.sum_append_nat]
theorem sheepIn_three (cs : List Nat) (a b c : Tree) : sheepIn cs (.three a b c) = sheepIn cs a + (sheepIn cs b + sheepIn cs c) := by
  unfold sheepIn
  rw [show farmsOf (.three a b c) = farmsOf a ++ (farmsOf b ++ farmsOf c) from rfl, List.map_append, List.map_append, List.sum_append_nat, List.sum_append_nat]
theorem join_two {cs : List Nat} {x y : Nat × Tree} (hx : x.1 = sheepIn cs x.2) (hy : y.1 = sheepIn cs y.2) : joinP [psi cs x, psi cs y] = psi cs (x.1 + y.1, .two x.2 y.2) := by
  have e : costOf cs (.two x.2 y.2) = x.1 + y.1 + (costOf cs x.2 + costOf cs y.2) := by
    show sheepIn cs (.two x.2 y.2) + _ = _
    rw [sheepIn_two, hx, hy]
  simp [joinP, psi, e, shown]
theorem join_three {cs : List Nat} {x y z : Nat × Tree} (hx : x.1 = sheepIn cs x.2) (hy : y.1 = sheepIn cs y.2) (hz : z.1 = sheepIn cs z.2) : joinP [psi cs x, psi cs y, psi cs z] = psi cs (x.1 + (y.1 + z.1), .three x.2 y.2 z.2) := by
  have e : costOf cs (.three x.2 y.2 z.2) = x.1 + (y.1 + z.1) + (costOf cs x.2 + (costOf cs y.2 + costOf cs z.2)) := by
    show sheepIn cs (.three x.2 y.2 z.2) + _ = _
    rw [sheepIn_three, hx, hy, hz]
  simp [joinP, psi, e, shown]
theorem wfj_two {cs : List Nat} {x y : Nat × Tree} {r : Piles} (hs : SortP (x :: y :: r)) (hg : GoodP cs (x :: y :: r)) :
    wfj ((x :: y :: r).map (psi cs)) 2 = (putIn (x.1 + y.1, .two x.2 y.2) r).map (psi cs) ∧ SortP (putIn (x.1 + y.1, .two x.2 y.2) r) ∧ GoodP cs (putIn (x.1 + y.1, .two x.2 y.2) r) := by
  have h2 := (List.pairwise_cons.mp (List.pairwise_cons.mp hs).2).2
  have gx := hg x (by simp)
  have gy := hg y (by simp)
  refine ⟨?_, putIn_sorted h2, putIn_good ?_ fun z hz => hg z (by simp [hz])⟩
  · rw [← insP_putIn h2, ← join_two gx gy]
    rfl
  · show x.1 + y.1 = sheepIn cs (.two x.2 y.2)
    rw [sheepIn_two, gx, gy]
theorem wfj_three {cs : List Nat} {x y z : Nat × Tree} {r : Piles} (hs : SortP (x :: y :: z :: r)) (hg : GoodP cs (x :: y :: z :: r)) :
    wfj ((x :: y :: z :: r).map (psi cs)) 3 = (putIn (x.1 + (y.1 + z.1), .three x.2 y.2 z.2) r).map (psi cs) ∧ SortP (putIn (x.1 + (y.1 + z.1), .three x.2 y.2 z.2) r) ∧ GoodP cs (putIn (x.1 + (y.1 + z.1), .three x.2 y.2 z.2) r) := by
  have h2 := (List.pairwise_cons.mp (List.pairwise_cons.mp (List.pairwise_cons.mp hs).2).2).2
  have gx := hg x (by simp)
  have gy := hg y (by simp)
  have gz := hg z (by simp)
  refine ⟨?_, putIn_sorted h2, putIn_good ?_ fun z hz => hg z (by simp [hz])⟩
  · rw [← insP_putIn h2, ← join_three gx gy gz]
    rfl
  · show x.1 + (y.1 + z.1) = sheepIn cs (.three x.2 y.2 z.2)
    rw [sheepIn_three, gx, gy, gz]
def leastLoop (w : Nat) : Nat → List Pl → List Pl
  | 0, l => l
  | f + 1, l => if 1 < l.length then leastLoop w f (wfj l w) else l
def leastStart (w : Nat) (l : List Pl) : List Pl := if w = 3 ∧ l.length % 2 = 0 then wfj l 2 else l
theorem loop2 {cs : List Nat} : ∀ (f : Nat) (l : Piles), SortP l → GoodP cs l → l ≠ [] → l.length ≤ f → ∃ x : Nat × Tree, leastLoop 2 f (l.map (psi cs)) = [psi cs x] ∧ Vbsyad.joined false f l = some x.2 ∧ x.1 = sheepIn cs x.2
  | 0, l, _, _, hn, hl => by cases l with | nil => exact absurd rfl hn | cons => simp at hl
  | f + 1, [], _, _, hn, _ => absurd rfl hn
  | f + 1, [x], _, hg, _, _ => ⟨x, by unfold leastLoop; rw [if_neg (by simp)]; rfl, rfl, hg x (by simp)⟩
  | f + 1, x :: y :: r, hs, hg, _, hl => by
    obtain ⟨e, s', g'⟩ := wfj_two hs hg
    have ne : putIn (x.1 + y.1, .two x.2 y.2) r ≠ [] := by intro q; have := putIn_len (x.1 + y.1, Tree.two x.2 y.2) r; rw [q] at this; simp at this
    obtain ⟨z, h1, h2, h3⟩ := loop2 f _ s' g' ne (by rw [putIn_len]; simp at hl; omega)
    refine ⟨z, ?_, ?_, h3⟩
    · unfold leastLoop
      rw [if_pos (by simp), e]
      exact h1
    · rw [← h2]
      cases r with
      | nil => rfl
      | cons z r => rfl
theorem loop3 {cs : List Nat} : ∀ (f : Nat) (l : Piles), SortP l → GoodP cs l → l.length % 2 = 1 → l.length ≤ f → ∃ x : Nat × Tree, leastLoop 3 f (l.map (psi cs)) = [psi cs x] ∧ Vbsyad.joined true f l = some x.2 ∧ x.1 = sheepIn cs x.2
  | 0, l, _, _, hn, hl => by cases l with | nil => simp at hn | cons => simp at hl
  | f + 1, [], _, _, hn, _ => by simp at hn
  | f + 1, [x], _, hg, _, _ => ⟨x, by unfold leastLoop; rw [if_neg (by simp)]; rfl, rfl, hg x (by simp)⟩
  | f + 1, [x, y], _, hg, hn, _ => by simp at hn
  | f + 1, x :: y :: z :: r, hs, hg, hn, hl => by
    obtain ⟨e, s', g'⟩ := wfj_three hs hg
    obtain ⟨u, h1, h2, h3⟩ := loop3 f _ s' g' (by rw [putIn_len]; simp at hn; omega) (by rw [putIn_len]; simp at hl; omega)
    refine ⟨u, ?_, ?_, h3⟩
    · unfold leastLoop
      rw [if_pos (by simp), e]
      exact h1
    · rw [← h2]
      rfl
theorem piles_fold {cs : List Nat} : ∀ (l acc : Piles), SortP acc → GoodP cs acc → GoodP cs l → SortP (l.foldl (fun a x => putIn x a) acc) ∧ GoodP cs (l.foldl (fun a x => putIn x a) acc) ∧ (l.foldl (fun a x => putIn x a) acc).Perm (l ++ acc)
  | [], acc, h, g, _ => ⟨h, g, .refl _⟩
  | x :: l, acc, h, g, gl => by
    obtain ⟨a, b, c⟩ := piles_fold l (putIn x acc) (putIn_sorted h) (putIn_good (gl x (by simp)) g) (fun y hy => gl y (by simp [hy]))
    exact ⟨a, b, c.trans ((List.Perm.append_left l (putIn_perm x acc)).trans List.perm_middle)⟩
theorem pens_good (cs : List Nat) : GoodP cs (cs.zipIdx.map fun x => (x.1, Tree.pen x.2)) := fun y hy => by
  obtain ⟨⟨c, i⟩, hx, rfl⟩ := List.mem_map.mp hy
  have h := List.mem_zipIdx' hx
  show c = ((farmsOf (.pen i)).map (countOf cs)).sum
  simp only [farmsOf, List.map_cons, List.map_nil, List.sum_cons, List.sum_nil, countOf]
  rw [h.2]
  simp [h.1]
theorem piles_ok (cs : List Nat) : SortP (piles cs) ∧ GoodP cs (piles cs) ∧ (piles cs).Perm (cs.zipIdx.map fun x => (x.1, Tree.pen x.2)) := by
  have h := piles_fold (cs := cs) (cs.zipIdx.map fun x => (x.1, Tree.pen x.2)) [] .nil (by simp) (pens_good cs)
  rw [List.append_nil] at h
  exact h
theorem piles_len (cs : List Nat) : (piles cs).length = cs.length := by
  rw [(piles_ok cs).2.2.length_eq]
  simp
theorem least_plan {w : Nat} {cs : List Nat} (hw : w = 2 ∨ w = 3) (hn : 0 < cs.length) : ∃ s, leastLoop w cs.length (leastStart w ((piles cs).map (psi cs))) = [psi cs (s, leastTree w cs)] := by
  obtain ⟨hs, hg, _⟩ := piles_ok cs
  have hl := piles_len cs
  have fuel : ∀ (t : Bool) (f : Nat) (l : Piles) (x : Tree), Vbsyad.joined t f l = some x → Vbsyad.joined t (f + 1) l = some x := by
    intro t f
    induction f with
    | zero => intro l x h; cases h
    | succ f ih =>
      intro l x h
      match l, h with
      | [], h => cases h
      | [y], h => exact h
      | [y, z], h => exact ih _ _ h
      | y :: z :: u :: r, h =>
        unfold Vbsyad.joined at h ⊢
        split at h
        · rename_i q; rw [if_pos q]; exact ih _ _ h
        · rename_i q; rw [if_neg q]; exact ih _ _ h
  rcases hw with rfl | rfl
  · obtain ⟨x, h1, h2, h3⟩ := loop2 (cs := cs) cs.length (piles cs) hs hg (by intro q; rw [q] at hl; simp at hl; omega) (by omega)
    have e : leastTree 2 cs = x.2 := by
      unfold leastTree
      rw [if_neg (by decide), fuel _ _ _ _ h2]
      rfl
    refine ⟨x.1, ?_⟩
    rw [e, show leastStart 2 ((piles cs).map (psi cs)) = (piles cs).map (psi cs) by unfold leastStart; rw [if_neg (by omega)], h1]
  · by_cases hp : cs.length % 2 = 0
    · match hP : piles cs, hs, hg, hl with
      | [], _, _, hl => simp at hl; omega
      | [x], _, _, hl => simp at hl; omega
      | x :: y :: r, hs, hg, hl =>
        obtain ⟨e, s', g'⟩ := wfj_two hs hg
        have hl' : r.length + 2 = cs.length := by simpa using hl
        have hev : evened (x :: y :: r) = putIn (x.1 + y.1, .two x.2 y.2) r := by
          show (if r.length % 2 = 0 then putIn (x.1 + y.1, .two x.2 y.2) r else x :: y :: r) = _
          rw [if_pos (by omega)]
        obtain ⟨u, h1, h2, h3⟩ := loop3 (cs := cs) cs.length _ s' g' (by rw [putIn_len]; omega) (by rw [putIn_len]; omega)
        have e3 : leastTree 3 cs = u.2 := by
          unfold leastTree
          rw [if_pos rfl, hP, hev, fuel _ _ _ _ h2]
          rfl
        refine ⟨u.1, ?_⟩
        rw [e3, show leastStart 3 ((x :: y :: r).map (psi cs)) = wfj ((x :: y :: r).map (psi cs)) 2 by unfold leastStart; rw [if_pos ⟨rfl, by simp; omega⟩], e, h1]
    · have hev : evened (piles cs) = piles cs := by
        match hP : piles cs, hl with
        | [], _ => rfl
        | [x], _ => rfl
        | x :: y :: r, hl =>
          show (if r.length % 2 = 0 then putIn (x.1 + y.1, .two x.2 y.2) r else x :: y :: r) = _
          rw [if_neg (by simp at hl; omega)]
      obtain ⟨u, h1, h2, h3⟩ := loop3 (cs := cs) cs.length (piles cs) hs hg (by omega) (by omega)
      have e3 : leastTree 3 cs = u.2 := by
        unfold leastTree
        rw [if_pos rfl, hev, fuel _ _ _ _ h2]
        rfl
      refine ⟨u.1, ?_⟩
      rw [e3, show leastStart 3 ((piles cs).map (psi cs)) = (piles cs).map (psi cs) by unfold leastStart; rw [if_neg (by rw [List.length_map]; omega)], h1]
theorem stable_unique {α : Type} : ∀ {a b : List (Int × α)}, a.Pairwise (fun p q => p.1 ≤ q.1) → b.Pairwise (fun p q => p.1 ≤ q.1) → (∀ c : Int, a.filter (fun p => p.1 == c) = b.filter (fun p => p.1 == c)) → a = b
  | [], [], _, _, _ => rfl
  | [], y :: b, _, _, h => by have := h y.1; simp [List.filter_cons] at this
  | x :: a, [], _, _, h => by have := h x.1; simp [List.filter_cons] at this
  | x :: a, y :: b, ha, hb, h => by
    have ha' := List.pairwise_cons.mp ha
    have hb' := List.pairwise_cons.mp hb
    have h1 : y.1 ≤ x.1 := by
      have m : x ∈ (y :: b).filter (fun p => p.1 == x.1) := by rw [← h x.1]; simp [List.filter_cons]
      rcases List.mem_cons.mp (List.mem_filter.mp m).1 with rfl | m
      · exact Int.le_refl _
      · exact hb'.1 _ m
    have h2 : x.1 ≤ y.1 := by
      have m : y ∈ (x :: a).filter (fun p => p.1 == y.1) := by rw [h y.1]; simp [List.filter_cons]
      rcases List.mem_cons.mp (List.mem_filter.mp m).1 with rfl | m
      · exact Int.le_refl _
      · exact ha'.1 _ m
    have e : x.1 = y.1 := Int.le_antisymm h2 h1
    have hx := h x.1
    rw [List.filter_cons, if_pos (beq_self_eq_true _), List.filter_cons, if_pos (by rw [e]; exact beq_self_eq_true _)] at hx
    obtain rfl : x = y := (List.cons.inj hx).1
    congr 1
    refine stable_unique ha'.2 hb'.2 fun c => ?_
    have hc := h c
    rw [List.filter_cons, List.filter_cons] at hc
    split at hc
    · exact (List.cons.inj hc).2
    · exact hc
theorem putIn_filter {x : Nat × Tree} (c : Nat) : ∀ {l : Piles}, SortP l → (putIn x l).filter (fun p => p.1 == c) = l.filter (fun p => p.1 == c) ++ [x].filter (fun p => p.1 == c)
  | [], _ => rfl
  | y :: l, h => by
    have hh := List.pairwise_cons.mp h
    unfold putIn
    split
    · rw [List.filter_cons, List.filter_cons, putIn_filter c hh.2]
      split <;> rfl
    · rename_i q
      by_cases e : x.1 = c
      · have n : (y :: l).filter (fun p => p.1 == c) = [] := by
          rw [List.filter_eq_nil_iff]
          intro p hp
          rcases List.mem_cons.mp hp with rfl | hp
          · simp; omega
          · have := hh.1 p hp; simp; omega
        rw [List.filter_cons, n]
        simp [List.filter_cons, e]
      · have n : [x].filter (fun p => p.1 == c) = [] := by simp [List.filter_cons, e]
        rw [n, List.append_nil, List.filter_cons, if_neg (by simpa using e)]
theorem fold_filter (c : Nat) : ∀ (l acc : Piles), SortP acc → (l.foldl (fun a x => putIn x a) acc).filter (fun p => p.1 == c) = acc.filter (fun p => p.1 == c) ++ l.filter (fun p => p.1 == c)
  | [], acc, _ => by simp
  | x :: l, acc, h => by
    rw [List.foldl_cons, fold_filter c l _ (putIn_sorted h), putIn_filter c h, List.append_assoc]
    congr 1
    rw [show x :: l = [x] ++ l from rfl, List.filter_append]
theorem piles_filter (cs : List Nat) (c : Nat) : (piles cs).filter (fun p => p.1 == c) = (cs.zipIdx.map fun x => (x.1, Tree.pen x.2)).filter (fun p => p.1 == c) := by
  unfold piles
  rw [fold_filter c _ [] .nil]
  rfl
end Shed
end
section
set_option Elab.async false
set_option linter.all false
namespace Shed
open Vbsyad (Tree sheepIn costOf shown farmsOf countOf read readAll waysIn runsIn depthOf isPlan)
def ww : List Nat → List Nat
  | [] => []
  | 0 :: s => 0 :: s
  | 1 :: s => ww s
  | (k + 2) :: s => (k + 1) :: s
def mach (w : Nat) (l : List Int) (P : List (Int × Nat)) (st : List Nat) : Option (List (Int × Nat) × List Int) :=
  if P ≠ [] ∧ st = [] then some (P, l) else match l with
    | [] => none
    | x :: r => if x = 0 then (match r with
        | [] => none
        | f :: r' => mach w r' (P ++ [(f, st.length)]) (ww st))
      else if 2 ≤ x ∧ x ≤ (w : Int) then mach w r P (x.toNat :: st) else none
def lvI : Nat → Tree → List (Int × Nat)
  | k, .pen f => [((f : Int), k)]
  | k, .two a b => lvI (k + 1) a ++ lvI (k + 1) b
  | k, .three a b c => lvI (k + 1) a ++ (lvI (k + 1) b ++ lvI (k + 1) c)
theorem lvI_ne : ∀ (k : Nat) (t : Tree), lvI k t ≠ []
  | _, .pen _ => by simp [lvI]
  | k, .two a b => by simp [lvI, lvI_ne (k + 1) a]
  | k, .three a b c => by simp [lvI, lvI_ne (k + 1) a]
theorem mach_eq (w : Nat) (l : List Int) (P : List (Int × Nat)) (st : List Nat) : mach w l P st = if P ≠ [] ∧ st = [] then some (P, l) else match l with
    | [] => none
    | x :: r => if x = 0 then (match r with
        | [] => none
        | f :: r' => mach w r' (P ++ [(f, st.length)]) (ww st))
      else if 2 ≤ x ∧ x ≤ (w : Int) then mach w r P (x.toNat :: st) else none := by
  rw [mach.eq_def]
theorem mach_on {w : Nat} {l : List Int} {P : List (Int × Nat)} {st : List Nat} (h : P = [] ∨ st ≠ []) : ¬ (P ≠ [] ∧ st = []) := by
  rintro ⟨a, b⟩
  rcases h with h | h
  · exact a h
  · exact h b
theorem mach_pen {w : Nat} {f : Int} {r : List Int} {P : List (Int × Nat)} {st : List Nat} (h : P = [] ∨ st ≠ []) : mach w (0 :: f :: r) P st = mach w r (P ++ [(f, st.length)]) (ww st) := by
  rw [mach_eq, if_neg (mach_on (w := w) (l := r) h)]
  rfl
theorem mach_run {w x : Nat} {r : List Int} {P : List (Int × Nat)} {st : List Nat} (h : P = [] ∨ st ≠ []) (h2 : 2 ≤ x) (hw : x ≤ w) : mach w ((x : Int) :: r) P st = mach w r P (x :: st) := by
  rw [mach_eq, if_neg (mach_on (w := w) (l := r) h)]
  show (if (x : Int) = 0 then _ else _) = _
  rw [if_neg (by omega), if_pos (by omega)]
  rfl
theorem read_succ (F : Nat) (l : List Int) : read (F + 1) l = match l with
    | 0 :: n :: r => if 0 ≤ n ∧ n < 8 then some (.pen n.toNat, r) else none
    | 2 :: r => (read F r).bind fun a => (read F a.2).map fun b => (.two a.1 b.1, b.2)
    | 3 :: r => (read F r).bind fun a => (read F a.2).bind fun b => (read F b.2).map fun c => (.three a.1 b.1 c.1, c.2)
    | _ => none := rfl
theorem read_two {F : Nat} {r : List Int} {t : Tree} {q : List Int} (h : read (F + 1) (2 :: r) = some (t, q)) : ∃ a r1 b, read F r = some (a, r1) ∧ read F r1 = some (b, q) ∧ t = .two a b := by
  have h : (read F r).bind (fun a => (read F a.2).map fun b => (Tree.two a.1 b.1, b.2)) = some (t, q) := h
  cases e : read F r with
  | none => rw [e] at h; cases h
  | some a =>
    rw [e] at h
    have h : (read F a.2).map (fun b => (Tree.two a.1 b.1, b.2)) = some (t, q) := h
    cases e2 : read F a.2 with
    | none => rw [e2] at h; cases h
    | some b =>
      rw [e2] at h
      cases h
      exact ⟨a.1, a.2, b.1, rfl, e2, rfl⟩
theorem read_three {F : Nat} {r : List Int} {t : Tree} {q : List Int} (h : read (F + 1) (3 :: r) = some (t, q)) : ∃ a r1 b r2 c, read F r = some (a, r1) ∧ read F r1 = some (b, r2) ∧ read F r2 = some (c, q) ∧ t = .three a b c := by
  have h : (read F r).bind (fun a => (read F a.2).bind fun b => (read F b.2).map fun c => (Tree.three a.1 b.1 c.1, c.2)) = some (t, q) := h
  cases e : read F r with
  | none => rw [e] at h; cases h
  | some a =>
    rw [e] at h
    have h : (read F a.2).bind (fun b => (read F b.2).map fun c => (Tree.three a.1 b.1 c.1, c.2)) = some (t, q) := h
    cases e2 : read F a.2 with
    | none => rw [e2] at h; cases h
    | some b =>
      rw [e2] at h
      have h : (read F b.2).map (fun c => (Tree.three a.1 b.1 c.1, c.2)) = some (t, q) := h
      cases e3 : read F b.2 with
      | none => rw [e3] at h; cases h
      | some c =>
        rw [e3] at h
        cases h
        exact ⟨a.1, a.2, b.1, b.2, c.1, rfl, e2, e3, rfl⟩
theorem read_inv {F : Nat} {l : List Int} {t : Tree} {q : List Int} (h : read (F + 1) l = some (t, q)) :
    (∃ n, 0 ≤ n ∧ n < 8 ∧ l = 0 :: n :: q ∧ t = .pen n.toNat) ∨
    (∃ r a r1 b, l = 2 :: r ∧ read F r = some (a, r1) ∧ read F r1 = some (b, q) ∧ t = .two a b) ∨
    (∃ r a r1 b r2 c, l = 3 :: r ∧ read F r = some (a, r1) ∧ read F r1 = some (b, r2) ∧ read F r2 = some (c, q) ∧ t = .three a b c) := by
  have h' := h
  rw [read_succ] at h'
  split at h'
  · rename_i n r
    split at h'
    · rename_i hn
      cases h'
      exact .inl ⟨n, hn.1, hn.2, rfl, rfl⟩
    · cases h'
  · rename_i r
    obtain ⟨a, r1, b, h1, h2, h3⟩ := read_two h
    exact .inr (.inl ⟨r, a, r1, b, rfl, h1, h2, h3⟩)
  · rename_i r
    obtain ⟨a, r1, b, r2, c, h1, h2, h3, h4⟩ := read_three h
    exact .inr (.inr ⟨r, a, r1, b, r2, c, rfl, h1, h2, h3, h4⟩)
  · cases h'
theorem waysIn_two {a b : Tree} {w : Nat} : waysIn (.two a b) ≤ w ↔ 2 ≤ w ∧ waysIn a ≤ w ∧ waysIn b ≤ w := by
  show max 2 (max (waysIn a) (waysIn b)) ≤ w ↔ _
  omega
theorem waysIn_three {a b c : Tree} {w : Nat} : waysIn (.three a b c) ≤ w ↔ 3 ≤ w ∧ waysIn a ≤ w ∧ waysIn b ≤ w ∧ waysIn c ≤ w := by
  show max 3 (max (waysIn a) (max (waysIn b) (waysIn c))) ≤ w ↔ _
  omega
theorem mach_read {w : Nat} : ∀ (F : Nat) (l : List Int) (t : Tree) (q : List Int), read F l = some (t, q) → waysIn t ≤ w → ∀ (P : List (Int × Nat)) (st : List Nat), (P = [] ∨ st ≠ []) →
    mach w l P st = mach w q (P ++ lvI st.length t) (ww st) := by
  intro F
  induction F with
  | zero => intro l t q h; cases h
  | succ F ih =>
    intro l t q h hw P st hp
    rcases read_inv h with ⟨n, h0, h8, rfl, rfl⟩ | ⟨r, a, r1, b, rfl, ha, hb, rfl⟩ | ⟨r, a, r1, b, r2, c, rfl, ha, hb, hc, rfl⟩
    · rw [mach_pen hp]
      show _ = mach w q (P ++ [((n.toNat : Int), st.length)]) (ww st)
      rw [show ((n.toNat : Nat) : Int) = n by omega]
    · obtain ⟨h2, wa, wb⟩ := waysIn_two.mp hw
      rw [show (2 : Int) :: r = ((2 : Nat) : Int) :: r from rfl, mach_run hp (by omega) h2, ih r a r1 ha wa P (2 :: st) (.inr (by simp)), show ww (2 :: st) = 1 :: st from rfl, ih r1 b q hb wb _ (1 :: st) (.inr (by simp)), show ww (1 :: st) = ww st from rfl, List.append_assoc]
      rfl
    · obtain ⟨h2, wa, wb, wc⟩ := waysIn_three.mp hw
      rw [show (3 : Int) :: r = ((3 : Nat) : Int) :: r from rfl, mach_run hp (by omega) h2, ih r a r1 ha wa P (3 :: st) (.inr (by simp)), show ww (3 :: st) = 2 :: st from rfl, ih r1 b r2 hb wb _ (2 :: st) (.inr (by simp)), show ww (2 :: st) = 1 :: st from rfl,
        ih r2 c q hc wc _ (1 :: st) (.inr (by simp)), show ww (1 :: st) = ww st from rfl, List.append_assoc, List.append_assoc]
      rfl
theorem mach_pre {w : Nat} : ∀ (n : Nat) (l : List Int), l.length ≤ n → ∀ (P : List (Int × Nat)) (st : List Nat) (Q : List (Int × Nat)) (r : List Int), mach w l P st = some (Q, r) → ∃ R, Q = P ++ R := by
  intro n
  induction n with
  | zero =>
    intro l hl P st Q r h
    rw [mach_eq] at h
    split at h
    · cases h; exact ⟨[], by simp⟩
    · cases l with
      | nil => cases h
      | cons => simp at hl
  | succ n ih =>
    intro l hl P st Q r h
    rw [mach_eq] at h
    split at h
    · cases h; exact ⟨[], by simp⟩
    · cases l with
      | nil => cases h
      | cons x l =>
        dsimp only at h
        split at h
        · cases l with
          | nil => cases h
          | cons f l =>
            obtain ⟨R, e⟩ := ih l (by simp at hl; omega) _ _ _ _ h
            exact ⟨(f, st.length) :: R, by rw [e]; simp⟩
        · split at h
          · exact ih l (by simp at hl; omega) _ _ _ _ h
          · cases h
theorem read_mach {w : Nat} (hw : w ≤ 3) : ∀ (n : Nat) (l : List Int), l.length ≤ n → ∀ (P : List (Int × Nat)) (st : List Nat) (Q : List (Int × Nat)) (rest : List Int), (P = [] ∨ st ≠ []) → mach w l P st = some (Q, rest) → (∀ q ∈ Q, 0 ≤ q.1 ∧ q.1 < 8) →
    ∀ F, l.length < F → ∃ t r, read F l = some (t, r) ∧ waysIn t ≤ w ∧ r.length < l.length := by
  intro n
  induction n with
  | zero =>
    intro l hl P st Q rest hp h hq F hF
    rw [mach_eq, if_neg (mach_on (w := w) (l := l) hp)] at h
    cases l with
    | nil => cases h
    | cons => simp at hl
  | succ n ih =>
    intro l hl P st Q rest hp h hq F hF
    obtain ⟨F, rfl⟩ : ∃ G, F = G + 1 := ⟨F - 1, by omega⟩
    rw [mach_eq, if_neg (mach_on (w := w) (l := l) hp)] at h
    cases l with
    | nil => cases h
    | cons x l =>
      dsimp only at h
      split at h
      · rename_i x0
        subst x0
        cases l with
        | nil => cases h
        | cons f l =>
          obtain ⟨R, e⟩ := mach_pre l.length l (Nat.le_refl _) _ _ _ _ h
          have hf := hq (f, st.length) (by rw [e]; simp)
          refine ⟨.pen f.toNat, l, ?_, Nat.zero_le _, by simp; omega⟩
          rw [read_succ]
          exact if_pos hf
      · split at h
        · rename_i hx
          have hl' : l.length ≤ n := by simpa using hl
          have hF' : l.length < F := by simpa using hF
          have hc : x = 2 ∨ x = 3 := by omega
          rcases hc with rfl | rfl
          · obtain ⟨a, r1, ea, wa, la⟩ := ih l hl' P (2 :: st) Q rest (.inr (by simp)) h hq F hF'
            have h2 := (mach_read F l a r1 ea wa P (2 :: st) (.inr (by simp))).symm.trans h
            obtain ⟨b, r2, eb, wb, lb⟩ := ih r1 (by omega) _ (1 :: st) Q rest (.inr (by simp)) h2 hq F (by omega)
            refine ⟨.two a b, r2, ?_, waysIn_two.mpr ⟨by omega, wa, wb⟩, by simp; omega⟩
            show (read F l).bind _ = _
            rw [ea]
            show (read F r1).map _ = _
            rw [eb]
            rfl
          · obtain ⟨a, r1, ea, wa, la⟩ := ih l hl' P (3 :: st) Q rest (.inr (by simp)) h hq F hF'
            have h2 := (mach_read F l a r1 ea wa P (3 :: st) (.inr (by simp))).symm.trans h
            obtain ⟨b, r2, eb, wb, lb⟩ := ih r1 (by omega) _ (2 :: st) Q rest (.inr (by simp)) h2 hq F (by omega)
            have h3 := (mach_read F r1 b r2 eb wb _ (2 :: st) (.inr (by simp))).symm.trans h2
            obtain ⟨c, r3, ec, wc, lc⟩ := ih r2 (by omega) _ (1 :: st) Q rest (.inr (by simp)) h3 hq F (by omega)
            refine ⟨.three a b c, r3, ?_, waysIn_three.mpr ⟨by omega, wa, wb, wc⟩, by simp; omega⟩
            show (read F l).bind _ = _
            rw [ea]
            show (read F r1).bind _ = _
            rw [eb]
            show (read F r2).map _ = _
            rw [ec]
            rfl
        · cases h
theorem lvI_farms : ∀ (k : Nat) (t : Tree), (lvI k t).map (·.1) = (farmsOf t).map (fun (f : Nat) => (f : Int))
  | _, .pen f => rfl
  | k, .two a b => by
    show (lvI (k + 1) a ++ lvI (k + 1) b).map _ = (farmsOf a ++ farmsOf b).map _
    rw [List.map_append, List.map_append, lvI_farms, lvI_farms]
  | k, .three a b c => by
    show (lvI (k + 1) a ++ (lvI (k + 1) b ++ lvI (k + 1) c)).map _ = (farmsOf a ++ (farmsOf b ++ farmsOf c)).map _
    simp only [List.map_append]
    rw [lvI_farms, lvI_farms, lvI_farms]
def rangeI (n : Nat) : List Int := (List.range n).map fun (i : Nat) => (i : Int)
theorem perm_of_sub {α : Type} : ∀ {a l : List α}, a.Nodup → (∀ x ∈ a, x ∈ l) → l.length ≤ a.length → a.Perm l
  | [], l, _, _, h => by cases l with | nil => exact .refl _ | cons => simp at h
  | x :: a, l, nd, hs, hl => by
    obtain ⟨l1, l2, rfl⟩ := List.append_of_mem (hs x (by simp))
    have nd' := List.nodup_cons.mp nd
    have ih := perm_of_sub (a := a) (l := l1 ++ l2) nd'.2 (fun y hy => by
      have h := hs y (by simp [hy])
      simp only [List.mem_append, List.mem_cons] at h ⊢
      rcases h with h | h | h
      · exact .inl h
      · subst h; exact absurd hy nd'.1
      · exact .inr h) (by simp at hl ⊢; omega)
    exact (ih.cons x).trans List.perm_middle.symm
theorem perm_range_of {l : List Nat} {n : Nat} (hl : l.length = n) (h : ∀ f, f < n → f ∈ l) : l.Perm (List.range n) :=
  (perm_of_sub List.nodup_range (fun x hx => h x (List.mem_range.mp hx)) (by rw [hl, List.length_range]; exact Nat.le_refl _)).symm
theorem isPlan_iff {n w : Nat} {t : Tree} : isPlan n w t = true ↔ (farmsOf t).Perm (List.range n) ∧ waysIn t ≤ w := by
  unfold isPlan
  rw [Bool.and_eq_true, Bool.and_eq_true, decide_eq_true_iff, beq_iff_eq, List.all_eq_true]
  constructor
  · rintro ⟨h1, h2, h3⟩
    exact ⟨perm_range_of h1 fun f hf => by simpa using h2 f (List.mem_range.mpr hf), h3⟩
  · rintro ⟨h1, h2⟩
    exact ⟨by rw [h1.length_eq, List.length_range], fun f hf => by simpa using h1.mem_iff.mpr hf, h2⟩
theorem rangeI_up (n : Nat) : (rangeI n).Pairwise (fun a b => a ≤ b) := by
  unfold rangeI
  rw [List.pairwise_map]
  exact List.pairwise_lt_range.imp fun h => by omega
theorem upI_unique : ∀ {a b : List Int}, a.Perm b → a.Pairwise (fun x y => x ≤ y) → b.Pairwise (fun x y => x ≤ y) → a = b
  | [], b, p, _, _ => by have := p.length_eq; cases b with | nil => rfl | cons => simp at this
  | x :: a, [], p, _, _ => by have := p.length_eq; simp at this
  | x :: a, y :: b, p, ha, hb => by
    have ha' := List.pairwise_cons.mp ha
    have hb' := List.pairwise_cons.mp hb
    have h1 : y ≤ x := by
      rcases List.mem_cons.mp (p.mem_iff.mp (List.mem_cons_self (a := x) (l := a))) with e | e
      · omega
      · exact hb'.1 _ e
    have h2 : x ≤ y := by
      rcases List.mem_cons.mp (p.mem_iff.mpr (List.mem_cons_self (a := y) (l := b))) with e | e
      · omega
      · exact ha'.1 _ e
    obtain rfl : x = y := by omega
    rw [upI_unique ((List.perm_cons x).mp p) ha'.2 hb'.2]
theorem sorted_range {xs ys : List Int} {n : Nat} (p : ys.Perm xs) (hu : ys.Pairwise (fun x y => x ≤ y)) : ys = rangeI n ↔ xs.Perm (rangeI n) :=
  ⟨fun e => by rw [← e]; exact p.symm, fun q => upI_unique (p.trans q) hu (rangeI_up n)⟩
theorem perm_rangeI {l : List Nat} {n : Nat} : (l.map fun (f : Nat) => (f : Int)).Perm (rangeI n) ↔ l.Perm (List.range n) := by
  constructor
  · intro h
    have h2 := h.map Int.toNat
    unfold rangeI at h2
    rw [List.map_map, List.map_map] at h2
    have e : (Int.toNat ∘ fun (f : Nat) => (f : Int)) = id := by funext x; simp
    rw [e, List.map_id, List.map_id] at h2
    exact h2
  · intro h
    exact h.map _
theorem reads_to {w n : Nat} {l : List Int} {t : Tree} (h : readAll l = some t) (hp : isPlan n w t = true) : mach w l [] [] = some (lvI 0 t, []) ∧ ((lvI 0 t).map (·.1)).Perm (rangeI n) := by
  obtain ⟨h1, h2⟩ := isPlan_iff.mp hp
  unfold readAll at h
  split at h
  · rename_i t' e
    cases h
    refine ⟨?_, ?_⟩
    · rw [mach_read _ l t [] e h2 [] [] (.inl rfl), mach_eq, if_pos ⟨by simpa using lvI_ne 0 t, rfl⟩]
      rfl
    · rw [lvI_farms]
      exact perm_rangeI.mpr h1
  · cases h
theorem reads_from {w n : Nat} (hw : w ≤ 3) (hn : n ≤ 8) {l : List Int} {Q : List (Int × Nat)} (h : mach w l [] [] = some (Q, [])) (hq : (Q.map (·.1)).Perm (rangeI n)) : ∃ t, readAll l = some t ∧ isPlan n w t = true ∧ Q = lvI 0 t := by
  have hr : ∀ q ∈ Q, 0 ≤ q.1 ∧ q.1 < 8 := by
    intro q hm
    have h1 := hq.mem_iff.mp (List.mem_map_of_mem (f := (·.1)) hm)
    unfold rangeI at h1
    obtain ⟨i, hi, e⟩ := List.mem_map.mp h1
    have hi := List.mem_range.mp hi
    have e : (i : Int) = q.1 := e
    omega
  obtain ⟨t, r, e, ht, _⟩ := read_mach hw l.length l (Nat.le_refl _) [] [] Q [] (.inl rfl) h hr (l.length + 1) (Nat.lt_succ_self _)
  have h2 := (mach_read _ l t r e ht [] [] (.inl rfl)).symm.trans h
  rw [mach_eq, if_pos ⟨by simpa using lvI_ne 0 t, rfl⟩] at h2
  have h3 := Option.some.inj h2
  have e1 : lvI 0 t = Q := by have := congrArg Prod.fst h3; simpa using this
  have e2 : r = [] := congrArg Prod.snd h3
  subst e2
  refine ⟨t, ?_, isPlan_iff.mpr ⟨?_, ht⟩, e1.symm⟩
  · unfold readAll
    rw [e]
  · rw [← e1, lvI_farms] at hq
    exact perm_rangeI.mp hq
theorem lvI_cost (cs : List Nat) : ∀ (k : Nat) (t : Tree), ((lvI k t).map fun p => p.2 * cs.getD p.1.toNat 0).sum = k * sheepIn cs t + costOf cs t
  | k, .pen f => by simp [lvI, sheepIn, farmsOf, countOf, costOf]
  | k, .two a b => by
    show ((lvI (k + 1) a ++ lvI (k + 1) b).map _).sum = k * sheepIn cs (.two a b) + (sheepIn cs (.two a b) + (costOf cs a + costOf cs b))
    rw [List.map_append, List.sum_append_nat, lvI_cost cs (k + 1) a, lvI_cost cs (k + 1) b, sheepIn_two]
    simp only [Nat.add_mul, Nat.mul_add, Nat.one_mul]
    omega
  | k, .three a b c => by
    show ((lvI (k + 1) a ++ (lvI (k + 1) b ++ lvI (k + 1) c)).map _).sum = k * sheepIn cs (.three a b c) + (sheepIn cs (.three a b c) + (costOf cs a + (costOf cs b + costOf cs c)))
    rw [List.map_append, List.map_append, List.sum_append_nat, List.sum_append_nat, lvI_cost cs (k + 1) a, lvI_cost cs (k + 1) b, lvI_cost cs (k + 1) c, sheepIn_three]
    simp only [Nat.add_mul, Nat.mul_add, Nat.one_mul]
    omega
theorem lvI_len : ∀ (k : Nat) (t : Tree), (lvI k t).length = (farmsOf t).length := fun k t => by
  have := congrArg List.length (lvI_farms k t)
  simpa using this
theorem read_len : ∀ (F : Nat) (l : List Int) (t : Tree) (q : List Int), read F l = some (t, q) → l.length = q.length + 2 * (farmsOf t).length + runsIn t := by
  intro F
  induction F with
  | zero => intro l t q h; cases h
  | succ F ih =>
    intro l t q h
    rcases read_inv h with ⟨n, h0, h8, rfl, rfl⟩ | ⟨r, a, r1, b, rfl, ha, hb, rfl⟩ | ⟨r, a, r1, b, r2, c, rfl, ha, hb, hc, rfl⟩
    · simp [farmsOf, runsIn]
    · have h1 := ih _ _ _ ha
      have h2 := ih _ _ _ hb
      simp only [farmsOf, runsIn, List.length_append, List.length_cons]
      omega
    · have h1 := ih _ _ _ ha
      have h2 := ih _ _ _ hb
      have h3 := ih _ _ _ hc
      simp only [farmsOf, runsIn, List.length_append, List.length_cons]
      omega
theorem readAll_len {l : List Int} {t : Tree} (h : readAll l = some t) : l.length = 2 * (lvI 0 t).length + runsIn t := by
  unfold readAll at h
  split at h
  · rename_i t' e
    cases h
    have := read_len _ _ _ _ e
    rw [lvI_len]
    simpa using this
  · cases h
theorem lookup_app {α β : Type} [BEq α] (a : α) : ∀ l m : List (α × β), (l ++ m).lookup a = (l.lookup a).orElse fun _ => m.lookup a
  | [], m => rfl
  | (x, y) :: l, m => by
    show (match a == x with | true => some y | false => (l ++ m).lookup a) = (match a == x with | true => some y | false => l.lookup a).orElse _
    cases a == x with
    | true => rfl
    | false => exact lookup_app a l m
theorem lvI_depth (f : Nat) : ∀ (k : Nat) (t : Tree), (lvI k t).lookup (f : Int) = (depthOf f t).map (· + k)
  | k, .pen g => by
    show (match ((f : Int) == (g : Int)) with | true => some k | false => none) = (if g = f then some 0 else none).map (· + k)
    by_cases e : g = f
    · subst e; simp
    · rw [if_neg e, show ((f : Int) == (g : Int)) = false by rw [beq_eq_false_iff_ne]; omega]
      rfl
  | k, .two a b => by
    show (lvI (k + 1) a ++ lvI (k + 1) b).lookup _ = (((depthOf f a).orElse fun _ => depthOf f b).map fun d => d + 1).map (· + k)
    rw [lookup_app, lvI_depth f (k + 1) a, lvI_depth f (k + 1) b]
    cases depthOf f a <;> cases depthOf f b <;> simp <;> omega
  | k, .three a b c => by
    show (lvI (k + 1) a ++ (lvI (k + 1) b ++ lvI (k + 1) c)).lookup _ = (((depthOf f a).orElse fun _ => (depthOf f b).orElse fun _ => depthOf f c).map fun d => d + 1).map (· + k)
    rw [lookup_app, lookup_app, lvI_depth f (k + 1) a, lvI_depth f (k + 1) b, lvI_depth f (k + 1) c]
    cases depthOf f a <;> cases depthOf f b <;> cases depthOf f c <;> simp <;> omega
theorem depths_sorted {n : Nat} {t : Tree} {ys : List (Int × Nat)} (p : ys.Perm (lvI 0 t)) (hy : ys.map (·.1) = rangeI n) : ys.map (·.2) = (List.range n).map fun f => (depthOf f t).getD 0 := by
  have nd : (ys.map (·.1)).Nodup := by
    rw [hy]
    unfold rangeI
    rw [List.nodup_iff_pairwise_ne, List.pairwise_map]
    exact List.pairwise_lt_range.imp fun h => by omega
  have look : ∀ (l : List (Int × Nat)), (l.map (·.1)).Nodup → ∀ x ∈ l, l.lookup x.1 = some x.2 := by
    intro l
    induction l with
    | nil => intro _ x hx; cases hx
    | cons y l ih =>
      intro nd x hx
      have nd' := List.nodup_cons.mp nd
      rcases List.mem_cons.mp hx with rfl | hx
      · simp [List.lookup]
      · have : ¬ x.1 = y.1 := fun e => nd'.1 (by show y.1 ∈ _; rw [← e]; exact List.mem_map_of_mem (f := (·.1)) hx)
        show (match x.1 == y.1 with | true => some y.2 | false => l.lookup x.1) = some x.2
        rw [show (x.1 == y.1) = false by rw [beq_eq_false_iff_ne]; exact this]
        exact ih nd'.2 x hx
  have ndt : ((lvI 0 t).map (·.1)).Nodup := (p.map (·.1)).nodup_iff.mp nd
  have hlen : ys.length = n := by have := congrArg List.length hy; simpa [rangeI] using this
  refine List.ext_getElem (by simp [hlen]) fun i h1 h2 => ?_
  have hi : i < ys.length := by simpa using h1
  rw [List.getElem_map, List.getElem_map, List.getElem_range]
  have hm : ys[i] ∈ lvI 0 t := p.mem_iff.mp (List.getElem_mem hi)
  have e1 : ys[i].1 = (i : Int) := by
    have := List.getElem_of_eq hy (by simpa using hi)
    simpa [rangeI] using this
  have e2 := look _ ndt _ hm
  rw [e1, lvI_depth] at e2
  have e3 : (depthOf i t) = some ys[i].2 := by
    cases q : depthOf i t with
    | none => rw [q] at e2; cases e2
    | some d => rw [q] at e2; simpa using e2
  rw [e3]
  rfl
end Shed
end
section
set_option Elab.async false
set_option linter.all false
namespace Shed
open Vbsyad (Tree sheepIn costOf shown farmsOf countOf read readAll waysIn runsIn depthOf isPlan parted numbered countsIn)
def placesIn (l : List (Nat × Nat)) (f : Nat) : List Nat := (l.filter fun x => x.2 == f).map fun x => x.1
theorem filter_self {α : Type} {p : α → Bool} {l : List α} (h : ∀ x ∈ l, p x = true) : l.filter p = l := List.filter_eq_self.2 h
theorem placesIn_sub {l : List (Nat × Nat)} {fs : List Nat} {f : Nat} (hf : f ∈ fs) : placesIn (l.filter fun x => fs.contains x.2) f = placesIn l f := by
  unfold placesIn
  rw [List.filter_filter]
  congr 1
  refine List.filter_congr fun x _ => ?_
  by_cases h : x.2 == f
  · rw [h, eq_of_beq h, List.contains_iff_mem.2 hf]
    rfl
  · rw [Bool.eq_false_iff.2 h]
    rfl
theorem map_places {l : List (Nat × Nat)} {fs : List Nat} : (fs.map fun f => (f, placesIn (l.filter fun x => fs.contains x.2) f)) = fs.map fun f => (f, placesIn l f) :=
  List.map_congr_left fun f hf => by rw [placesIn_sub hf]
theorem parted_eq : ∀ (t : Tree) (l : List (Nat × Nat)), (∀ x ∈ l, x.2 ∈ farmsOf t) → parted t l = (farmsOf t).map fun f => (f, placesIn l f)
  | .pen f, l, h => by
    show [(f, l.map fun x => x.1)] = [(f, placesIn l f)]
    unfold placesIn
    rw [filter_self fun x hx => by rw [beq_iff_eq]; exact List.mem_singleton.1 (h x hx)]
  | .two a b, l, _ => by
    show parted a _ ++ parted b _ = (farmsOf a ++ farmsOf b).map _
    rw [parted_eq a _ fun x hx => List.contains_iff_mem.1 (List.mem_filter.1 hx).2, parted_eq b _ fun x hx => List.contains_iff_mem.1 (List.mem_filter.1 hx).2, List.map_append, map_places, map_places]
  | .three a b c, l, _ => by
    show parted a _ ++ (parted b _ ++ parted c _) = (farmsOf a ++ (farmsOf b ++ farmsOf c)).map _
    rw [parted_eq a _ fun x hx => List.contains_iff_mem.1 (List.mem_filter.1 hx).2, parted_eq b _ fun x hx => List.contains_iff_mem.1 (List.mem_filter.1 hx).2, parted_eq c _ fun x hx => List.contains_iff_mem.1 (List.mem_filter.1 hx).2, List.map_append, List.map_append, map_places, map_places, map_places]
theorem parted_row {n w : Nat} {t : Tree} {row : List Nat} (hp : isPlan n w t = true) (hr : ∀ f ∈ row, f < n) : parted t (numbered row) = (farmsOf t).map fun f => (f, placesIn (numbered row) f) := by
  refine parted_eq t _ fun x hx => ?_
  have h := (isPlan_iff.1 hp).1
  unfold numbered at hx
  obtain ⟨y, hy, rfl⟩ := List.mem_map.1 hx
  refine h.mem_iff.2 (List.mem_range.2 (hr _ ?_))
  exact List.fst_mem_of_mem_zipIdx hy
end Shed
end
section
set_option Elab.async false
set_option linter.all false
namespace Shed
open Vbsyad (Tree costOf leastTree strangers mixedPens mended rowsOf numbered)
theorem sum_ge_getD : ∀ (l : List Nat) (p : Nat), l.getD p 0 ≤ l.sum
  | [], p => by simp
  | x :: l, 0 => by simp
  | x :: l, p + 1 => by
    have := sum_ge_getD l p
    simp at this ⊢
    omega
theorem sum_two : ∀ (l : List Nat) (p f : Nat), f ≠ p → l.getD p 0 + l.getD f 0 ≤ l.sum
  | [], p, f, _ => by simp
  | x :: l, 0, 0, h => absurd rfl h
  | x :: l, 0, f + 1, _ => by
    have := sum_ge_getD l f
    simp at this ⊢
    omega
  | x :: l, p + 1, 0, _ => by
    have := sum_ge_getD l p
    simp at this ⊢
    omega
  | x :: l, p + 1, f + 1, h => by
    have := sum_two l p f (by omega)
    simp at this ⊢
    omega
theorem exists_pos : ∀ (l : List Nat), 0 < l.sum → ∃ f, f < l.length ∧ 0 < l.getD f 0
  | [], h => by simp at h
  | x :: l, h => by
    by_cases hx : 0 < x
    · exact ⟨0, by simp, by simpa using hx⟩
    · obtain ⟨f, h1, h2⟩ := exists_pos l (by simp at h; omega)
      exact ⟨f + 1, by simpa using h1, by simpa using h2⟩
theorem exists_other : ∀ (l : List Nat) (p : Nat), l.getD p 0 < l.sum → ∃ f, f < l.length ∧ f ≠ p ∧ 0 < l.getD f 0
  | [], p, h => by simp at h
  | x :: l, 0, h => by
    obtain ⟨f, h1, h2⟩ := exists_pos l (by simp at h; omega)
    exact ⟨f + 1, by simpa using h1, by omega, by simpa using h2⟩
  | x :: l, p + 1, h => by
    by_cases hx : 0 < x
    · exact ⟨0, by simp, by omega, by simpa using hx⟩
    · obtain ⟨f, h1, h2, h3⟩ := exists_other l p (by simp at h ⊢; omega)
      exact ⟨f + 1, by simpa using h1, by omega, by simpa using h3⟩
theorem mixed_iff {l : List Nat} {n p : Nat} (hl : l.length = n) : ((List.range n).any fun f => f != p && decide (0 < l.getD f 0)) = decide (l.getD p 0 < l.sum) := by
  rw [Bool.eq_iff_iff, List.any_eq_true, decide_eq_true_iff]
  constructor
  · rintro ⟨f, _, h⟩
    rw [Bool.and_eq_true, bne_iff_ne, decide_eq_true_iff] at h
    have := sum_two l p f h.1
    omega
  · intro h
    obtain ⟨f, h1, h2, h3⟩ := exists_other l p h
    exact ⟨f, List.mem_range.2 (by omega), by rw [Bool.and_eq_true, bne_iff_ne, decide_eq_true_iff]; exact ⟨h2, h3⟩⟩
theorem mixed_eq {pens : List (List Nat)} (hl : ∀ l ∈ pens, l.length = pens.length) : mixedPens pens = (List.range pens.length).filter fun p => decide ((pens.getD p []).getD p 0 < (pens.getD p []).sum) := by
  unfold Vbsyad.mixedPens
  refine List.filter_congr fun p hp => mixed_iff ?_
  have h := List.mem_range.1 hp
  rw [List.getD_eq_getElem?_getD, List.getElem?_eq_getElem h]
  exact hl _ (List.getElem_mem h)
theorem split_at (g : List Nat → Nat) : ∀ (pens : List (List Nat)) (k f : Nat), ((pens.zipIdx k).map fun p => g p.1).sum = (((pens.zipIdx k).filter fun p => p.2 != f).map fun p => g p.1).sum + (if k ≤ f ∧ f < k + pens.length then g (pens.getD (f - k) []) else 0)
  | [], k, f => by
    rw [if_neg (by simp only [List.length_nil]; omega)]
    rfl
  | l :: pens, k, f => by
    have ih := split_at g pens (k + 1) f
    rw [List.zipIdx_cons, List.map_cons, List.sum_cons, ih]
    by_cases e : k = f
    · subst e
      rw [List.filter_cons_of_neg (by simp), if_neg (by omega), if_pos (by simp), Nat.sub_self]
      simp
      omega
    · rw [List.filter_cons_of_pos (by simpa using e), List.map_cons, List.sum_cons]
      by_cases h : k + 1 ≤ f ∧ f < k + 1 + pens.length
      · rw [if_pos h, if_pos (by simp; omega)]
        have : f - k = (f - (k + 1)) + 1 := by omega
        rw [this, List.getD_cons_succ]
        omega
      · rw [if_neg h, if_neg (by simp; omega)]
        omega
theorem map_zip {β : Type} (g : List Nat → β) : ∀ (pens : List (List Nat)) (k : Nat), ((pens.zipIdx k).map fun p => g p.1) = pens.map g
  | [], _ => rfl
  | l :: pens, k => by rw [List.zipIdx_cons, List.map_cons, List.map_cons, map_zip g pens (k + 1)]
def strangersOf (pens : List (List Nat)) (f : Nat) : Nat := ((pens.zipIdx.filter fun p => p.2 != f).map fun p => p.1.getD f 0).sum
theorem strangers_eq {pens : List (List Nat)} {f : Nat} (hf : f < pens.length) : (((pens.map fun l => l.getD f 0).sum : Nat) : Int) - (((pens.getD f []).getD f 0 : Nat) : Int) = (strangersOf pens f : Int) := by
  have h := split_at (fun l => l.getD f 0) pens 0 f
  rw [if_pos (by omega)] at h
  have h2 := map_zip (fun l => l.getD f 0) pens 0
  unfold strangersOf
  simp only [Nat.sub_zero] at h
  rw [← h2, h]
  omega
theorem mem_le_sum {x : Nat} : ∀ {l : List Nat}, x ∈ l → x ≤ l.sum
  | y :: l, h => by
    rw [List.sum_cons]
    rcases List.mem_cons.1 h with rfl | h
    · omega
    · have := mem_le_sum h
      omega
theorem strangers_def (pens : List (List Nat)) : strangers pens = (List.range pens.length).map (strangersOf pens) := rfl
theorem mended_none {pens : List (List Nat)} (hl : ∀ l ∈ pens, l.length = pens.length) (h : (strangers pens).filter (fun c => decide (0 < c)) = []) : mended pens = 0 := by
  have hm : mixedPens pens = [] := by
    unfold Vbsyad.mixedPens
    rw [List.filter_eq_nil_iff]
    intro p hp ha
    obtain ⟨f, hf, hx⟩ := List.any_eq_true.1 ha
    rw [Bool.and_eq_true, bne_iff_ne, decide_eq_true_iff] at hx
    have hs : strangersOf pens f ∈ strangers pens := List.mem_map.2 ⟨f, hf, rfl⟩
    have hz := List.filter_eq_nil_iff.1 h _ hs
    rw [decide_eq_true_iff] at hz
    have hp' := List.mem_range.1 hp
    have hmem : (pens.getD p [], p) ∈ pens.zipIdx.filter fun q => q.2 != f := by
      rw [List.mem_filter]
      refine ⟨?_, by simpa using Ne.symm hx.1⟩
      rw [List.mk_mem_zipIdx_iff_getElem?, List.getD_eq_getElem?_getD, List.getElem?_eq_getElem hp']
      rfl
    have hle : (pens.getD p []).getD f 0 ≤ strangersOf pens f := by
      unfold strangersOf
      exact mem_le_sum (List.mem_map.2 ⟨_, hmem, rfl⟩)
    omega
  unfold Vbsyad.mended
  rw [hm, h]
  rfl
theorem mended_some {pens : List (List Nat)} : mended pens = ((mixedPens pens).map fun p => (pens.getD p []).sum).sum + costOf ((strangers pens).filter fun c => decide (0 < c)) (leastTree 2 ((strangers pens).filter fun c => decide (0 < c))) := rfl
theorem strangers_len (pens : List (List Nat)) : (strangers pens).length = pens.length := by rw [strangers_def, List.length_map, List.length_range]
theorem rows_eq (n : Nat) : ∀ (k : Nat) (l : List Int), rowsOf n k l = (List.range k).map fun i => ((l.drop (i * n)).take n).map Int.toNat
  | 0, _ => rfl
  | k + 1, l => by
    rw [Vbsyad.rowsOf, rows_eq n k (l.drop n), List.range_succ_eq_map, List.map_cons, List.map_map]
    congr 1
    · simp
    · refine List.map_congr_left fun i _ => ?_
      show _ = ((l.drop ((i + 1) * n)).take n).map Int.toNat
      rw [List.drop_drop, Nat.succ_mul, Nat.add_comm n]
theorem places_eq (row : List Nat) (f : Nat) : placesIn (numbered row) f = (row.zipIdx.filter fun x => x.1 == f).map fun x => x.2 := by
  unfold placesIn Vbsyad.numbered
  rw [List.filter_map, List.map_map]
  rfl
end Shed
end
section
set_option Elab.async false
set_option linter.all false
set_option maxRecDepth 100000
set_option maxHeartbeats 2000000
namespace L2
open PySem PySem.Spec PyProof.Rows
theorem FnOk.cx {P : Program} {w : World} {K : PySem.W.Frag} {mg : Str → Option Value} {base : Heap} {CX : CXT} {k : Nat} {f : Addr} {fd : FuncData} {ps : List Str} {sp : Sp} (F : FnOk P w K mg base CX0 k f fd ps sp) : FnOk P w K mg base CX k f fd ps sp :=
  ⟨F.len, fun A outer s H args us vs Q E hr he hb hv hs => codeAny_mono (F.run A outer s H args us vs Q E hr he hb hv hs) fun r s' h => by
    cases r with
    | error e => exact False.elim h
    | ok fl => cases fl <;> exact h⟩
theorem Fun.okE {P : Program} {w : World} {K : PySem.W.Frag} {mg : Str → Option Value} {base : Heap} {x qual : Str} {st : Stmt} {f : Addr} {fd : FuncData} {N ps : List Str} {k : Nat} {sp : Sp} (F : Fun K x qual st f fd) (S : FnScope N ps (defScope st)) (len : ∀ vs H Q E, sp vs H Q E → vs.length = ps.length)
    (hbody : ∀ (cdv : Value) (A : Around) (outer : List Env) (s : Shared) (H : Hp) (vs : List V) (Q : VK) (E : XK), Room k (A.deeper (envOfC qual (defScope st) s.heap.objs.size f cdv)) → sp vs H Q E →
      ∃ t, PSs (cxOf (CXE P w) P w K mg base N qual (defScope st) f cdv A outer s H E) (defBody st) t ∧ t { nx := fun _ H' => Q .non H', rt := Q } (start N vs) H) : FnOk P w K mg base (CXE P w) (k + 1) f fd ps sp := by
  obtain ⟨oc, od, kV, doc, pm, an, cdv, ct, osl, rfl, lk, hcd⟩ := F.ex
  exact fn_of lk hcd S len fun A outer s H vs Q E hr hsp => hbody cdv A outer s H vs Q E hr hsp
end L2
namespace Shed
open PySem PySem.Spec PyProof.Rows L2
def top (i : Nat) : Stmt := PySem.Challenge.pw_sheepgates_s01_answers.main.body.getD i (.Pass ⟨0, 0, 0, 0⟩)
abbrev sCheckNumber : Stmt := top 16
abbrev sCheckList : Stmt := top 17
abbrev sCheckedWays : Stmt := top 18
abbrev sNumberAt : Stmt := top 32
structure Names (mg : Str → Option Value) (cO cN : Addr) : Prop where
  oor : mg "OutOfRange" = some (.ref cO)
  nap : mg "NotAPlan" = some (.ref cN)
  fewest : ∃ t, mg "FEWEST_WAYS" = some (.int 2 t)
  mostw : ∃ t, mg "MOST_WAYS" = some (.int 3 t)
  mostf : ∃ t, mg "MOST_FARMS" = some (.int 8 t)
  mosts : ∃ t, mg "MOST_SHEEP_OF_A_FARM" = some (.int 1000 t)
  mostr : ∃ t, mg "MOST_RUNS" = some (.int 8 t)
  longest : ∃ t, mg "LONGEST_ROW" = some (.int 40 t)
  mostp : ∃ t, mg "MOST_OF_A_FARM_IN_A_PEN" = some (.int 1000 t)
  len : mg "len" = none
  range : mg "range" = none
  list : mg "list" = none
  sum : mg "sum" = none
  all : mg "all" = none
  sorted : mg "sorted" = none
  enumerate : mg "enumerate" = none
section
variable {P : Program} {w : World} {K : PySem.W.Frag} {mg : Str → Option Value} {base : Heap} {cO cN : Addr}
def spNumberAt (K : PySem.W.Frag) (cN : Addr) : Sp := fun vs H Q E => ∃ (a : Addr) (ns : List Int) (p : Nat), vs = [.ref a, .int (p : Int)] ∧ SqL K H a (ns.map V.int) ∧ ns.length ≤ 64 ∧
  (∀ z, ns[p]? = some z → Q (.int z) H) ∧ (ns[p]? = none → E (.ref cN) none H)
theorem scNA : FnScope ["numbers", "place"] ["numbers", "place"] (defScope sNumberAt) := ⟨rfl, rfl, rfl, by decide +kernel, rfl, by decide +kernel, by decide +kernel⟩
theorem ok_numberAt {f : Addr} {fd : FuncData} (F : Fun K "number_at" "number_at" sNumberAt f fd) (T : Names mg cO cN) (c : XCls K cN) : FnOk P w K mg base (CXE P w) 1 f fd ["numbers", "place"] (spNumberAt K cN) := by
  refine F.okE scNA (fun vs H Q E h => ?_) (fun cdv A outer s H vs Q E hr h => ?_)
  · obtain ⟨a, ns, p, rfl, _⟩ := h
    rfl
  · obtain ⟨a, ns, p, rfl, hs, hl, hq, he⟩ := h
    refine ⟨_, pss_cons (ps_if (pt_cmpR op_ge (pv 1) (pe_callB call_len_seq (by rfl) T.len PySem.boot_len (pa_cons (pv 0) pa_nil)) (nomark _)) (pss_one (ps_raise c (by rfl) T.nap rfl throws_in)) pss_nil)
      (pss_one (ps_ret (pe_ix ix_list (pv 0) (pv 1) (fun _ _ => rfl)))), ?_⟩
    refine ⟨_, rfl, _, rfl, a, _, rfl, .inl hs, _, _, rfl, rfl, _, rfl, ?_⟩
    refine ite2 (fun h => ?_) (fun h => ?_)
    · have h' : ((ns.map V.int).length : Int) ≤ (p : Int) := by simpa using h
      rw [List.length_map] at h'
      exact he (List.getElem?_eq_none_iff.mpr (by omega))
    · have h' : ¬ ((ns.map V.int).length : Int) ≤ (p : Int) := by simpa using h
      rw [List.length_map] at h'
      obtain ⟨z, hz⟩ : ∃ z, ns[p]? = some z := ⟨_, List.getElem?_eq_getElem (by omega)⟩
      refine ⟨_, rfl, _, rfl, a, _, _, _, rfl, rfl, hs, atI_nat (by rw [List.getElem?_map, hz]; rfl), hq z hz⟩
def spCheckNumber (cO : Addr) : Sp := fun vs H Q E => ∃ n lo hi : Int, vs = [.int n, .int lo, .int hi] ∧ (lo ≤ n → n ≤ hi → Q .non H) ∧ (¬ (lo ≤ n ∧ n ≤ hi) → E (.ref cO) none H)
theorem scCN : FnScope ["number", "lowest", "highest"] ["number", "lowest", "highest"] (defScope sCheckNumber) := ⟨rfl, rfl, rfl, by decide +kernel, rfl, by decide +kernel, by decide +kernel⟩
theorem ok_checkNumber {f : Addr} {fd : FuncData} (F : Fun K "check_number" "check_number" sCheckNumber f fd) (T : Names mg cO cN) (c : XCls K cO) : FnOk P w K mg base (CXE P w) 1 f fd ["number", "lowest", "highest"] (spCheckNumber cO) := by
  refine F.okE scCN (fun vs H Q E h => ?_) (fun cdv A outer s H vs Q E hr h => ?_)
  · obtain ⟨n, lo, hi, rfl, _⟩ := h
    rfl
  · obtain ⟨n, lo, hi, rfl, hq, he⟩ := h
    refine ⟨_, pss_one (ps_if (pw_or (pt_cmpR op_lt (pv 0) (pv 1) (nomark _)) (pw_or1 (pt_cmpR op_gt (pv 0) (pv 2) (nomark _)))).pt (pss_one (ps_raise c (by rfl) T.oor rfl throws_in)) pss_nil), ?_⟩
    refine ⟨_, rfl, _, rfl, _, _, rfl, rfl, _, rfl, ?_⟩
    refine ite2 (fun h => ?_) (fun h => ?_)
    · have h' : n < lo := by simpa using h
      exact iteT (he (by omega))
    · have h' : ¬ n < lo := by simpa using h
      refine ⟨_, rfl, _, rfl, _, _, rfl, rfl, _, rfl, ?_⟩
      refine ite2 (fun h => ?_) (fun h => ?_)
      · have h2 : hi < n := by simpa using h
        exact he (by omega)
      · have h2 : ¬ hi < n := by simpa using h
        exact hq (by omega) (by omega)
def spCheckList (K : PySem.W.Frag) (cO : Addr) : Sp := fun vs H Q E => ∃ (a : Addr) (ns : List Int) (fw mo hi : Int), vs = [.ref a, .int fw, .int mo, .int hi] ∧ SqL K H a (ns.map V.int) ∧ ns.length ≤ 64 ∧
  (fw ≤ (ns.length : Int) → (ns.length : Int) ≤ mo → (∀ n ∈ ns, 0 ≤ n ∧ n ≤ hi) → Q .non H) ∧ (¬ (fw ≤ (ns.length : Int) ∧ (ns.length : Int) ≤ mo ∧ ∀ n ∈ ns, 0 ≤ n ∧ n ≤ hi) → E (.ref cO) none H)
theorem scCL : FnScope ["numbers", "fewest", "most", "highest", "number"] ["numbers", "fewest", "most", "highest"] (defScope sCheckList) := ⟨rfl, rfl, rfl, by decide +kernel, rfl, by decide +kernel, by decide +kernel⟩
theorem get_int {ns : List Int} {i : Nat} {y : V} (h : (ns.map V.int)[i]? = some y) : ∃ z, ns[i]? = some z ∧ y = V.int z := by
  rw [List.getElem?_map] at h
  cases e : ns[i]? with
  | none => rw [e] at h; cases h
  | some z => rw [e] at h; exact ⟨z, rfl, (Option.some.inj h).symm⟩
theorem mem_take_succ {α : Type} {ns : List α} {i : Nat} {z : α} (h : ns[i]? = some z) {n : α} (hn : n ∈ ns.take (i + 1)) : n ∈ ns.take i ∨ n = z := by
  rw [List.take_add_one, h] at hn
  simpa using hn
theorem ok_checkList {f g : Addr} {fd gd : FuncData} (F : Fun K "check_list" "check_list" sCheckList f fd) (T : Names mg cO cN) (c : XCls K cO) (mgC : mg "check_number" = some (.ref g)) (FC : Fun K "check_number" "check_number" sCheckNumber g gd) (bC : Binds K gd ["number", "lowest", "highest"] []) :
    FnOk P w K mg base (CXE P w) 2 f fd ["numbers", "fewest", "most", "highest"] (spCheckList K cO) := by
  have G : FnOk P w K mg base (CXE P w) 1 g gd ["number", "lowest", "highest"] (spCheckNumber cO) := ok_checkNumber FC T c
  refine F.okE scCL (fun vs H Q E h => ?_) (fun cdv A outer s H vs Q E hr h => ?_)
  · obtain ⟨a, ns, fw, mo, hi, rfl, _⟩ := h
    rfl
  · obtain ⟨a, ns, fw, mo, hi, rfl, hs, hl, hq, he⟩ := h
    refine ⟨_, pss_cons (ps_expr (pe_call G hr (by rfl) mgC FC.kp bC .nil passes_def (pa_cons (pe_callB call_len_seq (by rfl) T.len PySem.boot_len (pa_cons (pv 0) pa_nil)) (pa_cons (pv 1) (pa_cons (pv 2) pa_nil)))))
      (pss_one (ps_for PassesOwn.leaving rfl (pi_list (pv 0)) (pg_name (i := 4) scCL.nd rfl (Or.inl rfl))
        (pss_one (ps_expr (pe_call G hr (by rfl) mgC FC.kp bC .nil passes_def (pa_cons (pv 4) (pa_cons pe_int (pa_cons (pv 3) pa_nil)))))))), ?_⟩
    refine ⟨_, rfl, a, _, rfl, .inl hs, _, rfl, _, rfl, _, fw, mo, rfl, fun h1 h2 => ?_, fun h1 => he fun z => h1 (by rw [List.length_map]; exact ⟨z.1, z.2.1⟩)⟩
    rw [List.length_map] at h1 h2
    refine ⟨_, rfl, a, rfl, ⟨_, hs⟩, for_list (K := K) (a := a) (xs := ns.map V.int) (fun i σ H' => (∃ v : Option V, σ = [some (.ref a), some (.int fw), some (.int mo), some (.int hi), v]) ∧ H' = H ∧ ∀ n ∈ ns.take i, 0 ≤ n ∧ n ≤ hi)
      ⟨⟨none, rfl⟩, rfl, by simp⟩ (fun i σ H' _ ⟨_, e, _⟩ => by rw [e]; exact hs) ?_ ?_⟩
    · rintro i y σ H' hi' ⟨⟨v, rfl⟩, rfl, hall⟩
      obtain ⟨z, hz, rfl⟩ := get_int hi'
      refine ⟨_, rfl, _, rfl, z, 0, hi, rfl, fun g1 g2 => ⟨⟨_, rfl⟩, rfl, fun n hn => ?_⟩, fun g => he fun q => g (q.2.2 z (List.mem_of_getElem? hz))⟩
      rcases mem_take_succ hz hn with hn | rfl
      · exact hall n hn
      · exact ⟨g1, g2⟩
    · rintro σ H' ⟨_, rfl, hall⟩
      rw [List.length_map, List.take_length] at hall
      exact hq h1 h2 hall
end
end Shed
end
section
set_option Elab.async false
set_option linter.all false
set_option maxRecDepth 100000
set_option maxHeartbeats 2000000
namespace L2
open PySem PySem.Spec PyProof.Rows
theorem get_list_neg {X : Cx} : PGet X (fun o i H Q => ∃ (p : Addr) (xs : List V) (k : Int) (z : V), o = .ref p ∧ i = .int k ∧ k < 0 ∧ SqL X.K H p xs ∧ atI xs k = some z ∧ Q z H) := by
  intro pins s σ H o i ov iv Q I ro ri h
  obtain ⟨p, xs, k, z, rfl, rfl, hk, hq, he, q⟩ := h
  cases ro
  obtain ⟨t, rfl⟩ := ri
  obtain ⟨its, r, pl, hz⟩ := I.list hq
  obtain ⟨j, h1, h2, h3, h4, h5⟩ := atI_get he
  obtain ⟨u, eu, ru⟩ := r.get h2
  have hl := r.length
  have hn := line63
  have hj : (k + (its.toArray.size : Int)).toNat = j := by
    rw [seqIndex_neg hk h4] at h1
    rw [List.size_toArray, ← hl]
    exact Option.some.inj h1
  exact wpAny_getItem_list_neg pl.isList hk (by rw [List.size_toArray] <;> omega) (by omega) (by rw [hj]; simpa using eu) ⟨z, H, I, ru, q⟩
theorem Same.new {H : Hp} {l : Addr} {o : HO} (h : H l = none) : Same H (upd H l o) := fun b u e => by rw [upd_ne (ne_of_none e h)]; exact e
theorem Same.over {H H' : Hp} {l : Addr} {o : HO} (s : Same H H') (h : H l = none) : Same H (upd H' l o) := fun b u e => by rw [upd_ne (ne_of_none e h)]; exact s b u e
theorem while_with {c : TT} {tb : TS} {D : Ends} {σ : L2.St} {H : Hp} (A : L2.St → Hp → Prop) (after : ∀ σ H, A σ H → D.nx σ H) (go : (∀ σ H, A σ H → D.nx σ H) → tWhile c tb D σ H) : tWhile c tb D σ H := go after
theorem while_turn {c : TT} {tb : TS} {D : Ends} {σ : L2.St} {H : Hp} (W : Nat → L2.St → Hp → Prop) (B : Nat → L2.St → Hp → Prop) (A : L2.St → Hp → Prop) (h0 : ∃ m, W m σ H)
    (test : ∀ m σ H, W m σ H → ∀ Q : Bool → Hp → Prop, (B m σ H → Q true H) → (A σ H → Q false H) → c σ H Q)
    (turn : ∀ m σ H, B m σ H → tb { D with nx := fun σ' H' => ∃ m', m' < m ∧ W m' σ' H', ct := fun σ' H' => ∃ m', m' < m ∧ W m' σ' H', bk := D.nx } σ H) (after : ∀ σ H, A σ H → D.nx σ H) : tWhile c tb D σ H :=
  ⟨W, h0, fun m σ H x => test m σ H x _ (fun b => by rw [if_pos rfl]; exact ⟨_, fun _ _ z => z, turn m σ H b⟩) fun a => by rw [if_neg Bool.false_ne_true]; exact after σ H a⟩
end L2
namespace Shed
open PySem PySem.Spec PyProof.Rows L2
abbrev sWithoutWay : Stmt := top 33
abbrev sReadPens : Stmt := top 34
def nV (n : Nat) : V := .int (n : Int)
def stV (st : List Nat) : List V := (st.map nV).reverse
theorem stV_cons (k : Nat) (st : List Nat) : stV (k :: st) = stV st ++ [nV k] := by simp [stV]
theorem stV_len (st : List Nat) : (stV st).length = st.length := by simp [stV]
theorem stV_empty (st : List Nat) : (stV st).isEmpty = st.isEmpty := by cases st <;> simp [stV]
theorem ww_len : ∀ st : List Nat, (ww st).length ≤ st.length
  | [] => Nat.le_refl _
  | 0 :: _ => Nat.le_refl _
  | 1 :: s => Nat.le_succ_of_le (ww_len s)
  | (_ + 2) :: _ => Nat.le_refl _
theorem ww_pos (st : List Nat) : (∀ k ∈ st, 1 ≤ k) → ∀ k ∈ ww st, 1 ≤ k := by
  induction st with
  | nil => exact fun h => h
  | cons q s ih =>
    intro h
    match q with
    | 0 => exact h
    | 1 => exact ih fun k hk => h k (by simp [hk])
    | n + 2 =>
      intro k hk
      rcases List.mem_cons.mp hk with rfl | hk
      · omega
      · exact h k (by simp [hk])
section
variable {P : Program} {w : World} {K : PySem.W.Frag} {mg : Str → Option Value} {base : Heap} {cO cN : Addr}
def spWithoutWay (K : PySem.W.Frag) : Sp := fun vs H Q _ => ∃ (a : Addr) (st : List Nat), vs = [.ref a] ∧ SqL K H a (stV st) ∧ st.length ≤ 64 ∧ (∀ k ∈ st, 1 ≤ k) ∧ ∀ (H' : Hp) (l : Addr), Same H H' → H l = none → H' l = some (.lst (stV (ww st))) → Q (.ref l) H'
theorem scWW : FnScope ["ways_to_come", "left"] ["ways_to_come"] (defScope sWithoutWay) := ⟨rfl, rfl, rfl, by decide +kernel, rfl, by decide +kernel, by decide +kernel⟩
theorem ok_withoutWay {f : Addr} {fd : FuncData} (F : Fun K "without_way" "without_way" sWithoutWay f fd) (T : Names mg cO cN) : FnOk P w K mg base CX0 1 f fd ["ways_to_come"] (spWithoutWay K) := by
  refine F.ok scWW (fun vs H Q E h => ?_) (fun cdv A outer s H vs Q E hr h => ?_)
  · obtain ⟨a, st, rfl, _⟩ := h
    rfl
  · obtain ⟨a, st, rfl, hs, hl, hpos, k⟩ := h
    refine ⟨_, pss_cons (ps_set (i := 1) scWW.nd rfl (Or.inl rfl) (pe_callTy call_list_of (by rfl) T.list PyProof.Rows.boot_list (pa_cons (pv 0) pa_nil)))
      (pss_cons (ps_while PassesOwn.never (pw_and (pt_truth (pv 1) (fun _ => rfl)) (pw_and1 (pt_cmpR op_eq (pe_ix ix_list (pv 1) (pe_un un_neg pe_int) (fun _ _ => rfl)) pe_int (nomark _)))).pt
        (pss_one (ps_expr (pe_bm0 PySem.F.plainAttrs_list PySem.F.slot_list_pop PySem.F.type_list_pop mt_pop (pv 1)))))
      (pss_cons (ps_if (pt_truth (pv 1) (fun _ => rfl)) (pss_one (ps_augS (pv 1) (pe_un un_neg pe_int) get_list_neg pe_int ip_sub set_list)) pss_nil)
      (pss_one (ps_ret (pv 1))))), ?_⟩
    refine ⟨_, rfl, a, _, rfl, .inl hs, fun l hlf => ?_⟩
    refine while_with (fun σ H' => ∃ r : List Nat, σ = [some (.ref a), some (.ref l)] ∧ H' l = some (.lst (stV r)) ∧ Same H H' ∧ ww r = ww st ∧ r.length ≤ 64 ∧ (∀ k ∈ r, 1 ≤ k) ∧ ∀ s, r ≠ 1 :: s) ?_ fun after => ?_
    · rintro σ H' ⟨r, rfl, hr', hsm, hww, hlen, hp, hne⟩
      refine ⟨_, rfl, _, .inl ⟨_, SqL.of hr', rfl⟩, ?_⟩
      cases r with
      | nil => exact iteF ⟨_, rfl, k H' l hsm hlf (by rw [← hww]; exact hr')⟩
      | cons q r =>
        rw [stV_cons] at hr' ⊢
        refine (by simp : ∀ {A B : Prop}, A → (if (!(stV r ++ [nV q]).isEmpty) = true then A else B)) ?_
        match q, hp q (by simp), hne with
        | 1, _, hne => exact absurd rfl (hne r)
        | q + 2, _, hne =>
          refine ⟨_, rfl, _, rfl, l, _, _, nV (q + 2), rfl, rfl, (by show (-1 : Int) < 0; decide), SqL.of hr', atI_last _ _, _, _, rfl, rfl, l, _, _, (stV r).length, rfl, rfl, hr', ?_, ?_⟩
          · unfold ixN
            rw [if_neg (by decide), List.length_append, List.length_singleton, if_pos (by omega)]
            congr 1
            omega
          · refine ⟨_, rfl, k _ l (hsm.over hlf) hlf ?_⟩
            rw [upd_same, ← hww]
            show some (HO.lst ((stV r ++ [nV (q + 2)]).set (stV r).length (.int (((q + 2 : Nat) : Int) - 1)))) = some (.lst (stV ((q + 1) :: r)))
            rw [stV_cons, List.set_append_right _ _ (Nat.le_refl _), Nat.sub_self]
            have : (((q + 2 : Nat) : Int) - 1) = ((q + 1 : Nat) : Int) := by omega
            rw [this]
            rfl
    · refine ⟨fun m σ H' => ∃ r : List Nat, m = r.length ∧ σ = [some (.ref a), some (.ref l)] ∧ H' l = some (.lst (stV r)) ∧ Same H H' ∧ ww r = ww st ∧ r.length ≤ 64 ∧ (∀ k ∈ r, 1 ≤ k), ⟨_, st, rfl, rfl, upd_same, Same.new hlf, rfl, hl, hpos⟩, ?_⟩
      rintro m σ H' ⟨r, rfl, rfl, hr', hsm, hww, hlen, hp⟩
      refine ⟨_, rfl, _, .inl ⟨_, SqL.of hr', rfl⟩, ?_⟩
      cases r with
      | nil => exact iteF (iteF (after _ _ ⟨[], rfl, hr', hsm, hww, hlen, hp, fun s z => by cases z⟩))
      | cons q r =>
        rw [stV_cons] at hr' ⊢
        refine (by simp : ∀ {A B : Prop}, A → (if (!(stV r ++ [nV q]).isEmpty) = true then A else B)) ?_
        refine ⟨_, rfl, _, rfl, l, _, _, nV q, rfl, rfl, SqL.of hr', atI_last _ _, rfl, _, rfl, ?_⟩
        refine ite2 (fun h => ?_) (fun h => ?_)
        · have hq : q = 1 := by
            have h' : nV q = V.int 1 := by simpa using h
            have h2 : (q : Int) = 1 := V.int.inj h'
            omega
          subst hq
          refine ⟨fun σ' H2 => σ' = [some (.ref a), some (.ref l)] ∧ H2 l = some (.lst (stV r)) ∧ Same H H2, fun σ' H2 ⟨e1, e2, e3⟩ => ⟨r.length, by simp, r, rfl, e1, e2, e3, hww, by simp at hlen; omega, fun k hk => hp k (by simp [hk])⟩, ?_⟩
          refine ⟨_, rfl, .inl ⟨rfl, _, SqL.of hr'⟩, l, _, nV 1, rfl, rfl, hr', by simp, rfl, ?_, hsm.over hlf⟩
          rw [upd_same, List.dropLast_concat]
        · refine after _ _ ⟨q :: r, rfl, by rw [stV_cons]; exact hr', hsm, hww, hlen, hp, fun s z => h ?_⟩
          cases z
          simp [nV]
def PensAt (H : Hp) (l : Addr) (P : List (Int × Nat)) : Prop := ∃ as : List Addr, H l = some (.lst (as.map V.ref)) ∧ Paired (fun (a : Addr) (q : Int × Nat) => H a = some (.tup [.int q.1, nV q.2])) as P
theorem PensAt.snoc {H : Hp} {a : Addr} {P : List (Int × Nat)} {q : Int × Nat} {as : List Addr} (h : Paired (fun (a : Addr) (q : Int × Nat) => H a = some (.tup [.int q.1, nV q.2])) as P) (ha : H a = some (.tup [.int q.1, nV q.2])) :
    Paired (fun (a : Addr) (q : Int × Nat) => H a = some (.tup [.int q.1, nV q.2])) (as ++ [a]) (P ++ [q]) := by
  induction h with
  | nil => exact .cons ha .nil
  | cons r _ ih => exact .cons r ih
theorem paired_len {α β : Type} {F : α → β → Prop} {a : List α} {b : List β} (h : Paired F a b) : a.length = b.length := Paired.length h
def spReadPens (K : PySem.W.Frag) (cN : Addr) : Sp := fun vs H Q E => ∃ (a : Addr) (ns : List Int) (w : Nat), vs = [.ref a, .int (w : Int)] ∧ SqL K H a (ns.map V.int) ∧ ns.length ≤ 64 ∧
  (∀ R, mach w ns [] [] = some (R, []) → ∀ (H' : Hp) (l : Addr), Same H H' → H l = none → PensAt H' l R → Q (.ref l) H') ∧ ((∀ R, mach w ns [] [] ≠ some (R, [])) → ∀ H', Same H H' → E (.ref cN) none H')
theorem scRP : FnScope ["numbers", "ways", "pens", "ways_to_come", "place", "first"] ["numbers", "ways"] (defScope sReadPens) := ⟨rfl, rfl, rfl, by decide +kernel, rfl, by decide +kernel, by decide +kernel⟩
theorem ok_readPens {f g h : Addr} {fd gd hd : FuncData} (F : Fun K "read_pens" "read_pens" sReadPens f fd) (T : Names mg cO cN) (c : XCls K cN)
    (mgN : mg "number_at" = some (.ref g)) (FN : Fun K "number_at" "number_at" sNumberAt g gd) (bN : Binds K gd ["numbers", "place"] []) (mgW : mg "without_way" = some (.ref h)) (FW : Fun K "without_way" "without_way" sWithoutWay h hd) (bW : Binds K hd ["ways_to_come"] []) :
    FnOk P w K mg base (CXE P w) 2 f fd ["numbers", "ways"] (spReadPens K cN) := by
  have GN : FnOk P w K mg base (CXE P w) 1 g gd ["numbers", "place"] (spNumberAt K cN) := ok_numberAt FN T c
  have GW : FnOk P w K mg base (CXE P w) 1 h hd ["ways_to_come"] (spWithoutWay K) := (ok_withoutWay FW T).cx
  obtain ⟨t2, hfew⟩ := T.fewest
  refine F.okE scRP (fun vs H Q E h => ?_) (fun cdv A outer s H vs Q E hr h => ?_)
  · obtain ⟨a, ns, w, rfl, _⟩ := h
    rfl
  · obtain ⟨a, ns, wy, rfl, hs, hl, hq, he⟩ := h
    refine ⟨_, pss_cons (ps_set (i := 2) scRP.nd rfl (Or.inl rfl) (pe_lst pa_nil)) (pss_cons (ps_set (i := 3) scRP.nd rfl (Or.inl rfl) (pe_lst pa_nil)) (pss_cons (ps_set (i := 4) scRP.nd rfl (Or.inl rfl) pe_int)
      (pss_cons (ps_while PassesOwn.leaving (pw_or (pt_not (pt_truth (pv 2) (fun _ => rfl))) (pw_or1 (pt_truth (pv 3) (fun _ => rfl)))).pt
        (pss_cons (ps_set (i := 5) scRP.nd rfl (Or.inl rfl) (pe_call GN hr (by rfl) mgN FN.kp bN .nil passes_def (pa_cons (pv 0) (pa_cons (pv 4) pa_nil))))
        (pss_one (ps_if (pt_cmpR op_eq (pv 5) pe_int (nomark _))
          (pss_cons (ps_expr (pe_bm PySem.F.plainAttrs_list PySem.F.slot_list_append PySem.F.type_list_append mt_append (pv 2) (pa_cons (pe_tup (pa_cons (pe_call GN hr (by rfl) mgN FN.kp bN .nil passes_def (pa_cons (pv 0) (pa_cons (pe_op op_add (pv 4) pe_int) pa_nil)))
              (pa_cons (pe_callB call_len_seq (by rfl) T.len PySem.boot_len (pa_cons (pv 3) pa_nil)) pa_nil))) pa_nil)))
          (pss_cons (ps_set (i := 3) scRP.nd rfl (Or.inl rfl) (pe_call GW hr (by rfl) mgW FW.kp bW .nil passes_def (pa_cons (pv 3) pa_nil)))
          (pss_one (ps_aug (i := 4) scRP.nd rfl (Or.inl rfl) pe_int ip_add))))
          (pss_one (ps_if (pt_chain op_le op_le (pe_glob (v := .int 2) (by rfl) hfew ⟨t2, rfl⟩) (pv 5) (pv 1))
            (pss_cons (ps_expr (pe_bm PySem.F.plainAttrs_list PySem.F.slot_list_append PySem.F.type_list_append mt_append (pv 3) (pa_cons (pv 5) pa_nil))) (pss_one (ps_aug (i := 4) scRP.nd rfl (Or.inl rfl) pe_int ip_add)))
            (pss_one (ps_raise c (by rfl) T.nap rfl throws_in))))))))
      (pss_cons (ps_if (pt_cmpR op_lt (pv 4) (pe_callB call_len_seq (by rfl) T.len PySem.boot_len (pa_cons (pv 0) pa_nil)) (nomark _)) (pss_one (ps_raise c (by rfl) T.nap rfl throws_in)) pss_nil)
      (pss_one (ps_ret (pv 2))))))), ?_⟩
    refine ⟨Nat.zero_le _, fun lp hlp => ⟨Nat.zero_le _, fun lw hlw => ?_⟩⟩
    have n1 : H lw = none := (Same.new hlp).free hlw
    have ne : lp ≠ lw := ne_of_none upd_same hlw
    refine while_turn
      (fun m σ H' => ∃ (R : List (Int × Nat)) (st : List Nat) (p : Nat) (lw : Addr) (fv : Option V), m = ns.length - p ∧ p ≤ ns.length ∧ σ = [some (.ref a), some (.int (wy : Int)), some (.ref lp), some (.ref lw), some (.int (p : Int)), fv] ∧
        PensAt H' lp R ∧ H' lw = some (.lst (stV st)) ∧ lp ≠ lw ∧ H lw = none ∧ Same H H' ∧ mach wy ns [] [] = mach wy (ns.drop p) R st ∧ st.length ≤ p ∧ (∀ k ∈ st, 1 ≤ k) ∧ R.length ≤ p)
      (fun m σ H' => ∃ (R : List (Int × Nat)) (st : List Nat) (p : Nat) (lw : Addr) (fv : Option V), m = ns.length - p ∧ p ≤ ns.length ∧ σ = [some (.ref a), some (.int (wy : Int)), some (.ref lp), some (.ref lw), some (.int (p : Int)), fv] ∧
        PensAt H' lp R ∧ H' lw = some (.lst (stV st)) ∧ lp ≠ lw ∧ H lw = none ∧ Same H H' ∧ mach wy ns [] [] = mach wy (ns.drop p) R st ∧ st.length ≤ p ∧ (∀ k ∈ st, 1 ≤ k) ∧ R.length ≤ p ∧ (R = [] ∨ st ≠ []))
      (fun σ H' => ∃ (R : List (Int × Nat)) (p : Nat) (lw : Addr) (fv : Option V), p ≤ ns.length ∧ σ = [some (.ref a), some (.int (wy : Int)), some (.ref lp), some (.ref lw), some (.int (p : Int)), fv] ∧
        PensAt H' lp R ∧ Same H H' ∧ mach wy ns [] [] = some (R, ns.drop p))
      ⟨_, [], [], 0, lw, none, rfl, Nat.zero_le _, rfl, ⟨[], by rw [upd_ne ne, upd_same]; rfl, .nil⟩, upd_same, ne, n1, (Same.new hlp).trans (Same.new hlw), by rw [List.drop_zero], Nat.le_refl _, by simp, Nat.le_refl _⟩ ?test ?turn ?after
    case test =>
      rintro m σ H' ⟨R, st, p, lw, fv, rfl, hp, rfl, hP, hw, nlw, nw, hsm, hm, h1, h2, h3⟩ Q' hB hA
      obtain ⟨as, hPl, hPa⟩ := id hP
      refine ⟨_, rfl, _, .inl ⟨_, SqL.of hPl, rfl⟩, ?_⟩
      cases hPa with
      | nil => exact iteT (hB ⟨[], st, p, lw, fv, rfl, hp, rfl, hP, hw, nlw, nw, hsm, hm, h1, h2, h3, .inl rfl⟩)
      | cons r rr =>
        refine iteF ⟨_, rfl, _, .inl ⟨_, SqL.of hw, rfl⟩, ?_⟩
        rw [stV_empty]
        cases st with
        | nil =>
          refine hA ⟨_, p, lw, fv, hp, rfl, hP, hsm, ?_⟩
          rw [hm, mach_eq, if_pos ⟨by simp, rfl⟩]
        | cons q st => exact hB ⟨_, q :: st, p, lw, fv, rfl, hp, rfl, hP, hw, nlw, nw, hsm, hm, h1, h2, h3, .inr (by simp)⟩
    case turn =>
      rintro m σ H' ⟨R, st, p, lw, fv, rfl, hp, rfl, hP, hw, nlw, nw, hsm, hm, h1, h2, h3, hgo⟩
      refine ⟨_, rfl, _, rfl, a, ns, p, rfl, hsm.seq hs, hl, fun z hz => ?ok, fun hz => he (fun R' q => ?bad) H' hsm⟩
      case bad =>
        have hd : ns.drop p = [] := by rw [List.drop_eq_nil_iff]; exact List.getElem?_eq_none_iff.mp hz
        rw [hm, hd, mach_eq, if_neg (mach_on (w := wy) (l := []) hgo)] at q
        cases q
      have hplt : p < ns.length := (List.getElem?_eq_some_iff.mp hz).1
      have hd : ns.drop p = z :: ns.drop (p + 1) := by
        rw [List.drop_eq_getElem_cons hplt]
        congr 1
        exact Option.some.inj ((List.getElem?_eq_getElem hplt).symm.trans hz)
      refine ⟨_, rfl, rfl, _, rfl, ?_⟩
      refine ite2 (fun hz0 => ?_) (fun hz0 => ?_)
      · have hz0 : z = 0 := by
          have e : V.int z = V.int 0 := by simpa using hz0
          exact V.int.inj e
        subst hz0
        obtain ⟨as, hPl, hPa⟩ := hP
        refine ⟨_, rfl, .inl ⟨rfl, _, SqL.of hPl⟩, _, rfl, _, rfl, _, _, rfl, rfl, a, ns, p + 1, rfl, hsm.seq hs, hl, fun fz hfz => ?ok2, fun hfz => he (fun R' q => ?bad2) H' hsm⟩
        case bad2 =>
          have hd2 : ns.drop (p + 1) = [] := by rw [List.drop_eq_nil_iff]; exact List.getElem?_eq_none_iff.mp hfz
          rw [hm, hd, hd2, mach_eq, if_neg (mach_on (w := wy) (l := [0]) hgo)] at q
          cases q
        have hplt2 : p + 1 < ns.length := (List.getElem?_eq_some_iff.mp hfz).1
        have hd2 : ns.drop (p + 1) = fz :: ns.drop (p + 2) := by
          rw [List.drop_eq_getElem_cons hplt2]
          congr 1
          exact Option.some.inj ((List.getElem?_eq_getElem hplt2).symm.trans hfz)
        have line := sizeLine_eq
        have hlen : as.length = R.length := paired_len hPa
        refine ⟨_, rfl, lw, _, rfl, .inl (SqL.of hw), (by show 2 ≤ sizeLine; decide), fun ta hta => ?_⟩
        refine ⟨lp, _, _, rfl, rfl, (by rw [upd_ne (ne_of_none hPl hta)]; exact hPl), (by rw [List.length_map, line]; omega), ?_⟩
        have nta : lp ≠ ta := ne_of_none hPl hta
        have ntw : lw ≠ ta := ne_of_none hw hta
        have n2 : H ta = none := hsm.free hta
        have s2 : Same H (upd (upd H' ta (.tup [.int fz, nV st.length])) lp (.lst (as.map V.ref ++ [.ref ta]))) := (hsm.over n2).over hlp
        rw [stV_len]
        refine ⟨_, rfl, lw, st, rfl, SqL.of (by rw [upd_ne nlw.symm, upd_ne ntw]; exact hw), (by omega), h2, fun H3 l3 s3 n3 hl3 => ?_⟩
        refine ⟨_, rfl, _, _, rfl, rfl, ?_⟩
        have hP3 : PensAt H3 lp (R ++ [(fz, st.length)]) := by
          refine ⟨as ++ [ta], s3 _ _ (by rw [upd_same, List.map_append]; rfl), PensAt.snoc ?_ (s3 _ _ (by rw [upd_ne nta.symm, upd_same]; rfl))⟩
          exact Paired.mapP hPa fun b q hb => s3 _ _ (by rw [upd_ne (ne_of hb hPl (by intro z; cases z)), upd_ne (ne_of_none hb hta)]; exact hb)
        refine ⟨ns.length - (p + 2), by omega, R ++ [(fz, st.length)], ww st, p + 2, l3, _, rfl, by omega, rfl, hP3, hl3, ?_, s2.free n3, s2.trans s3, ?_, ?_, ww_pos st h2, ?_⟩
        · exact ne_of_none upd_same n3
        · rw [hm, hd, hd2, mach_pen hgo]
        · have := ww_len st; omega
        · rw [List.length_append, List.length_singleton]; omega
      · have hz0 : z ≠ 0 := fun e => hz0 (by rw [e]; simp)
        refine ⟨_, rfl, _, _, rfl, rfl, _, rfl, ?_⟩
        have bad : ¬ (2 ≤ z ∧ z ≤ (wy : Int)) → ∀ R', mach wy ns [] [] ≠ some (R', []) := fun hn R' q => by
          rw [hm, hd, mach_eq, if_neg (mach_on (w := wy) (l := []) hgo)] at q
          dsimp only at q
          rw [if_neg hz0, if_neg hn] at q
          cases q
        refine ite2 (fun hz2 => ?_) (fun hz2 => ?_)
        · have hz2 : 2 ≤ z := by simpa using hz2
          refine ⟨_, rfl, _, _, rfl, rfl, _, rfl, ?_⟩
          refine ite2 (fun hz3 => ?_) (fun hz3 => ?_)
          · have hz3 : z ≤ (wy : Int) := by simpa using hz3
            have line := sizeLine_eq
            refine ⟨_, rfl, .inl ⟨rfl, _, SqL.of hw⟩, _, rfl, lw, _, _, rfl, rfl, hw, (by rw [stV_len, line]; omega), ?_⟩
            refine ⟨_, rfl, _, _, rfl, rfl, ?_⟩
            obtain ⟨as, hPl, hPa⟩ := hP
            have ez : (z.toNat : Int) = z := by omega
            refine ⟨ns.length - (p + 1), by omega, R, z.toNat :: st, p + 1, lw, _, rfl, by omega, rfl, ⟨as, by rw [upd_ne nlw]; exact hPl, Paired.mapP hPa fun b q hb => by rw [upd_ne (ne_of hb hw (by intro z; cases z))]; exact hb⟩, ?_, nlw, nw, hsm.over nw, ?_, ?_, ?_, ?_⟩
            · rw [upd_same, stV_cons]
              unfold nV
              rw [ez]
            · rw [hm, hd]
              have e := mach_run (w := wy) (x := z.toNat) (r := ns.drop (p + 1)) (P := R) (st := st) hgo (by omega) (by omega)
              rw [ez] at e
              exact e
            · rw [List.length_cons]; omega
            · intro k hk
              rcases List.mem_cons.mp hk with rfl | hk
              · omega
              · exact h2 k hk
            · omega
          · have hz3 : ¬ z ≤ (wy : Int) := by simpa using hz3
            exact he (bad fun q => hz3 q.2) H' hsm
        · have hz2 : ¬ 2 ≤ z := by simpa using hz2
          exact ⟨_, rfl, he (bad fun q => hz2 q.1) H' hsm⟩
    case after =>
      rintro σ H' ⟨R, p, lw, fv, hp, rfl, hP, hsm, hm⟩
      refine ⟨_, rfl, _, rfl, a, _, rfl, .inl (hsm.seq hs), _, _, rfl, rfl, _, rfl, ?_⟩
      rw [List.length_map]
      refine ite2 (fun h => ?_) (fun h => ?_)
      · have h' : (p : Int) < (ns.length : Int) := by simpa using h
        refine he (fun R' q => ?_) H' hsm
        rw [hm] at q
        have e := congrArg Prod.snd (Option.some.inj q)
        have e : ns.drop p = [] := e
        have := List.drop_eq_nil_iff.mp e
        omega
      · have h' : ¬ (p : Int) < (ns.length : Int) := by simpa using h
        have e : ns.drop p = [] := List.drop_eq_nil_iff.mpr (by omega)
        rw [e] at hm
        exact ⟨_, rfl, hq R hm H' lp hsm hlp hP⟩
end
end Shed
end
section
set_option Elab.async false
set_option linter.all false
set_option maxRecDepth 100000
set_option maxHeartbeats 2000000
namespace L2
open PySem PySem.Spec PyProof.Rows
theorem yes_of {σ : L2.St} {H : Hp} {A B : Hp → Prop} (h : A H) : tYes σ H fun b H3 => if b = true then A H3 else B H3 := by
  show if true = true then A H else B H
  rw [if_pos rfl]
  exact h
theorem pe_fldK {X : Cx} {K : PySem.W.Frag} {e : Expr} {ta : TE} {f : Str} {pos : Pos} (hK : X.K = K) (he : PE X e ta) (hb : attributeBase e f X.env (eval e X.env) = eval e X.env) : PE X (.Attribute e f pos) (tFld K ta f) := by
  subst hK
  exact pe_fld he hb
end L2
namespace Shed
open PySem PySem.Spec PyProof.Rows L2
abbrev sPlanInit : Stmt := inClass (top 14) 0
abbrev sJoined : Stmt := top 22
def planF (x y z : V) : List (Str × V) := putF "numbers" z (putF "cost" y (putF "sheep" x []))
theorem planF_sheep (x y z : V) : (planF x y z).lookup ("sheep" : Str) = some x := by
  unfold planF
  rw [lookup_putF, if_neg (by decide), lookup_putF, if_neg (by decide), lookup_putF, if_pos rfl]
theorem planF_cost (x y z : V) : (planF x y z).lookup ("cost" : Str) = some y := by
  unfold planF
  rw [lookup_putF, if_neg (by decide), lookup_putF, if_pos rfl]
theorem planF_numbers (x y z : V) : (planF x y z).lookup ("numbers" : Str) = some z := by
  unfold planF
  rw [lookup_putF, if_pos rfl]
structure PlanCls (K : PySem.W.Frag) (mg : Str → Option Value) (C : Addr) : Prop where
  cl : Cls K C
  nS : NoAttr K C "sheep"
  nC : NoAttr K C "cost"
  nN : NoAttr K C "numbers"
  mgC : mg "Plan" = some (.ref C)
def PlanAt (C : Addr) (H : Hp) (a : Addr) (p : Pl) : Prop := ∃ dx l, H a = some (.ins C dx (planF (nV p.sheep) (nV p.cost) (.ref l))) ∧ H l = some (.lst (p.nums.map V.int))
theorem PlanAt.same {C : Addr} {H H' : Hp} {a : Addr} {p : Pl} (h : PlanAt C H a p) (s : Same H H') : PlanAt C H' a p :=
  let ⟨dx, l, h1, h2⟩ := h
  ⟨dx, l, s _ _ h1, s _ _ h2⟩
abbrev PlansAt (C : Addr) (H : Hp) : List Addr → List Pl → Prop := Paired (PlanAt C H)
theorem PlansAt.same {C : Addr} {H H' : Hp} {as : List Addr} {ps : List Pl} (h : PlansAt C H as ps) (s : Same H H') : PlansAt C H' as ps := Paired.mapP h fun _ _ x => x.same s
theorem PlansAt.get {C : Addr} {H : Hp} : ∀ {as : List Addr} {ps : List Pl} {i : Nat} {a : Addr}, PlansAt C H as ps → as[i]? = some a → ∃ p, ps[i]? = some p ∧ PlanAt C H a p
  | _, _, _, _, .nil, h => by simp at h
  | _, _, 0, _, .cons r _, h => ⟨_, rfl, by have e := Option.some.inj h; subst e; exact r⟩
  | _, _, i + 1, _, .cons _ t, h => PlansAt.get (i := i) t h
theorem get_ref {as : List Addr} {i : Nat} {y : V} (h : (as.map V.ref)[i]? = some y) : ∃ b, as[i]? = some b ∧ y = V.ref b := by
  rw [List.getElem?_map] at h
  cases e : as[i]? with
  | none => rw [e] at h; cases h
  | some z => rw [e] at h; exact ⟨z, rfl, (Option.some.inj h).symm⟩
section
variable {P : Program} {w : World} {K : PySem.W.Frag} {mg : Str → Option Value} {base : Heap} {cO cN C : Addr}
def spPlanInit (C : Addr) : Sp := fun vs H Q _ => ∃ (p dx : Addr) (x y z : V), vs = [.ref p, x, y, z] ∧ H p = some (.ins C dx []) ∧ ∀ H' : Hp, H' p = some (.ins C dx (planF x y z)) → (∀ b o, H b = some o → b ≠ p → H' b = some o) → Q .non H'
theorem scPI : FnScope ["self", "sheep", "cost", "numbers"] ["self", "sheep", "cost", "numbers"] (defScope sPlanInit) := ⟨rfl, rfl, rfl, by decide +kernel, rfl, by decide +kernel, by decide +kernel⟩
theorem ok_planInit {f : Addr} {fd : FuncData} (F : Fun K "__init__" "Plan.__init__" sPlanInit f fd) (T : PlanCls K mg C) : FnOk P w K mg base CX0 1 f fd ["self", "sheep", "cost", "numbers"] (spPlanInit C) := by
  refine F.ok scPI (fun vs H Q E h => ?_) (fun cdv A outer s H vs Q E hr h => ?_)
  · obtain ⟨p, dx, x, y, z, rfl, _⟩ := h
    rfl
  · obtain ⟨p, dx, x, y, z, rfl, hp, k⟩ := h
    refine ⟨_, pss_cons (ps_fld (pv 0) (pv 1) rfl) (pss_cons (ps_fld (pv 0) (pv 2) rfl) (pss_one (ps_fld (pv 0) (pv 3) rfl))), ?_⟩
    refine ⟨_, rfl, _, rfl, p, C, dx, [], rfl, hp, T.cl, T.nS, (by show 0 < 1000; decide), ?_⟩
    refine ⟨_, rfl, _, rfl, p, C, dx, _, rfl, upd_same, T.cl, T.nC, (by show 1 < 1000; decide), ?_⟩
    refine ⟨_, rfl, _, rfl, p, C, dx, _, rfl, upd_same, T.cl, T.nN, (by show 2 < 1000; decide), ?_⟩
    exact k _ upd_same fun b o e hb => by rw [upd_ne hb, upd_ne hb, upd_ne hb]; exact e
def spJoined (K : PySem.W.Frag) (C : Addr) : Sp := fun vs H Q _ => ∃ (a : Addr) (as : List Addr) (ps : List Pl), vs = [.ref a] ∧ SqL K H a (as.map V.ref) ∧ PlansAt C H as ps ∧ ps.length ≤ 8 ∧ (∀ p ∈ ps, p.nums.length ≤ 1000) ∧
  ∀ (H' : Hp) (b : Addr), Same H H' → H b = none → PlanAt C H' b (joinP ps) → Q (.ref b) H'
theorem scJ : FnScope ["plans", "sheep", "cost", "numbers", "plan"] ["plans"] (defScope sJoined) := ⟨rfl, rfl, rfl, by decide +kernel, rfl, by decide +kernel, by decide +kernel⟩
theorem ok_joined {f g : Addr} {fd gd : FuncData} (F : Fun K "joined" "joined" sJoined f fd) (N : Names mg cO cN) (T : PlanCls K mg C) (M : Mk K C g) (FI : Fun K "__init__" "Plan.__init__" sPlanInit g gd) (bI : Binds K gd ["self", "sheep", "cost", "numbers"] []) :
    FnOk P w K mg base CX0 3 f fd ["plans"] (spJoined K C) := by
  have GI : FnOk P w K mg base CX0 1 g gd ["self", "sheep", "cost", "numbers"] (spPlanInit C) := ok_planInit FI T
  refine F.ok scJ (fun vs H Q E h => ?_) (fun cdv A outer s H vs Q E hr h => ?_)
  · obtain ⟨a, as, ps, rfl, _⟩ := h
    rfl
  · obtain ⟨a, as, ps, rfl, hs, hp, hl, hn, k⟩ := h
    refine ⟨_, pss_cons (ps_set (i := 1) scJ.nd rfl (Or.inl rfl) (pe_callB (cr_sum rfl) (by rfl) N.sum PyProof.Rows.boot_sum (pa_cons (pe_lc (own := [("plan", 4)]) rfl scJ.nd (pi_list (pv 0)) (blkOk_by (by rfl)) (fun _ _ _ _ _ => pg_name (i := 4) scJ.nd rfl (Or.inl rfl)) (fun _ _ _ _ _ => pts_nil) (fun _ _ _ _ _ => by exact pe_fldK (K := K) rfl (pv 4) rfl)) pa_nil)))
      (pss_cons (ps_set (i := 2) scJ.nd rfl (Or.inl rfl) (pe_op op_add (pv 1) (pe_callB (cr_sum rfl) (by rfl) N.sum PyProof.Rows.boot_sum (pa_cons (pe_lc (own := [("plan", 4)]) rfl scJ.nd (pi_list (pv 0)) (blkOk_by (by rfl)) (fun _ _ _ _ _ => pg_name (i := 4) scJ.nd rfl (Or.inl rfl)) (fun _ _ _ _ _ => pts_nil) (fun _ _ _ _ _ => by exact pe_fldK (K := K) rfl (pv 4) rfl)) pa_nil))))
      (pss_cons (ps_set (i := 3) scJ.nd rfl (Or.inl rfl) (pe_lst (pa_cons (pe_callB call_len_seq (by rfl) N.len PySem.boot_len (pa_cons (pv 0) pa_nil)) pa_nil)))
      (pss_cons (ps_for PassesOwn.never rfl (pi_list (pv 0)) (pg_name (i := 4) scJ.nd rfl (Or.inl rfl)) (pss_one (ps_expr (pe_bm PySem.F.plainAttrs_list PySem.F.slot_list_extend PySem.F.type_list_extend mt_extend (pv 3) (pa_cons (pe_fld (pv 4) rfl) pa_nil)))))
      (pss_one (ps_ret (pe_make M GI hr rfl T.mgC bI .nil pass0 (pa_cons (pv 1) (pa_cons (pv 2) (pa_cons (pv 3) pa_nil))))))))), ?_⟩
    have line := sizeLine_eq
    have hlen : as.length = ps.length := paired_len hp
    have sumN : ∀ l : List Nat, (l.map fun (n : Nat) => (n : Int)).sum = (l.sum : Int) := fun l => by
      induction l with
      | nil => rfl
      | cons x l ih => rw [List.map_cons, List.sum_cons, List.sum_cons, ih]; omega
    refine ⟨_, rfl, a, rfl, ⟨_, hs⟩, fun D1 hD1 => lc_list (K := K) (a := a) (xs := as.map V.ref) (fun i H' => Same H H' ∧ H' D1 = some (.lst ((ps.take i).map fun p => nV p.sheep)))
      ⟨Same.new hD1, upd_same⟩ (fun i H' _ q => q.1.seq hs) (fun i x H' hx ⟨sm, hd⟩ => ?_) (fun H1 ⟨sm1, hd1⟩ => ?_)⟩
    · obtain ⟨b, hb, rfl⟩ := get_ref hx
      obtain ⟨p, hpi, dx, ln, h1, h2⟩ := (hp.same sm).get hb
      refine ⟨rfl, yes_of ?_⟩
      refine ⟨_, rfl, b, C, dx, _, _, rfl, h1, T.cl, T.nS, planF_sheep _ _ _, _, hd, ?_, sm.over hD1, ?_⟩
      · rw [List.length_map, List.length_take, line]; omega
      · rw [upd_same, List.take_add_one, hpi, List.map_append]
        rfl
    rw [List.length_map, hlen, List.take_length] at hd1
    refine ⟨D1, ps.map fun p => (p.sheep : Int), rfl, SqL.of (by rw [hd1, List.map_map]; rfl), ?_⟩
    refine ⟨_, rfl, _, rfl, a, rfl, ⟨_, sm1.seq hs⟩, fun D2 hD2 => lc_list (K := K) (a := a) (xs := as.map V.ref) (fun i H' => Same H H' ∧ H' D2 = some (.lst ((ps.take i).map fun p => nV p.cost)))
      ⟨sm1.trans (Same.new hD2), upd_same⟩ (fun i H' _ q => q.1.seq hs) (fun i x H' hx ⟨sm, hd⟩ => ?_) (fun H2 ⟨sm2, hd2⟩ => ?_)⟩
    · obtain ⟨b, hb, rfl⟩ := get_ref hx
      obtain ⟨p, hpi, dx, ln, h1, h2⟩ := (hp.same sm).get hb
      refine ⟨rfl, yes_of ?_⟩
      refine ⟨_, rfl, b, C, dx, _, _, rfl, h1, T.cl, T.nC, planF_cost _ _ _, _, hd, ?_, sm.over (sm1.free hD2), ?_⟩
      · rw [List.length_map, List.length_take, line]; omega
      · rw [upd_same, List.take_add_one, hpi, List.map_append]
        rfl
    rw [List.length_map, hlen, List.take_length] at hd2
    refine ⟨D2, ps.map fun p => (p.cost : Int), rfl, SqL.of (by rw [hd2, List.map_map]; rfl), _, _, rfl, rfl, ?_⟩
    refine ⟨_, rfl, a, _, rfl, .inl (sm2.seq hs), (by show 1 ≤ sizeLine; decide), fun ln hln => ?_⟩
    have nln : H ln = none := sm2.free hln
    refine ⟨_, rfl, a, rfl, ⟨_, (sm2.trans (Same.new hln)).seq hs⟩, for_list (K := K) (a := a) (xs := as.map V.ref)
      (fun i σ H' => ∃ v : Option V, σ = [some (.ref a), some (.int (ps.map fun p => (p.sheep : Int)).sum), some (.int ((ps.map fun p => (p.sheep : Int)).sum + (ps.map fun p => (p.cost : Int)).sum)), some (.ref ln), v] ∧ Same H H' ∧ H' ln = some (.lst (V.int (ps.length : Int) :: ((ps.take i).flatMap (·.nums)).map V.int)))
      ⟨none, rfl, sm2.trans (Same.new hln), by rw [upd_same, List.length_map, hlen]; rfl⟩ (fun i σ H' _ ⟨_, _, q, _⟩ => q.seq hs) ?_ ?_⟩
    · rintro i x σ H' hx ⟨v, rfl, sm, hl'⟩
      obtain ⟨b, hb, rfl⟩ := get_ref hx
      obtain ⟨p, hpi, dx, lb, h1, h2⟩ := (hp.same sm).get hb
      have hsum : ∀ i, ((ps.take i).flatMap (·.nums)).length ≤ 8000 := fun i => by
        rw [List.length_flatMap]
        have : ∀ l : List Pl, (∀ q ∈ l, q.nums.length ≤ 1000) → (l.map fun q => q.nums.length).sum ≤ 1000 * l.length := fun l => by
          induction l with
          | nil => intro _; exact Nat.le_refl _
          | cons q l ih =>
            intro h
            have h1 := h q (by simp)
            have h2 := ih fun z hz => h z (by simp [hz])
            rw [List.map_cons, List.sum_cons, List.length_cons]
            omega
        have h3 := this (ps.take i) fun q hq => hn q (List.mem_of_mem_take hq)
        have h4 : (ps.take i).length ≤ 8 := by rw [List.length_take]; omega
        omega
      have hpn : p.nums.length ≤ 1000 := hn p (List.mem_of_getElem? hpi)
      have hi := hsum i
      refine ⟨_, rfl, .inl ⟨rfl, _, SqL.of hl'⟩, _, rfl, b, C, dx, _, _, rfl, h1, T.cl, T.nN, planF_numbers _ _ _, ln, lb, _, _, rfl, rfl, hl', h2, ?_, ?_⟩
      · rw [List.length_cons, List.length_map, List.length_map, line]; omega
      · refine ⟨_, rfl, sm.over nln, ?_⟩
        rw [upd_same, List.take_add_one, hpi]
        simp
    · rintro σ H' ⟨v, rfl, sm, hl'⟩
      rw [List.length_map, hlen, List.take_length] at hl'
      refine ⟨_, rfl, _, rfl, _, rfl, fun x dx nx nd ne => ⟨x, dx, _, _, _, rfl, upd_same, fun H3 h3 k3 => ⟨rfl, ?_⟩⟩⟩
      have s3 : Same H' H3 := Same.made nx nd k3
      refine k H3 x (sm.trans s3) (sm.free nx) ⟨dx, ln, ?_, ?_⟩
      · rw [h3]
        have e1 : (ps.map fun p => (p.sheep : Int)).sum = (((ps.map (·.sheep)).sum : Nat) : Int) := by rw [← sumN, List.map_map]; rfl
        have e2 : (ps.map fun p => (p.cost : Int)).sum = (((ps.map (·.cost)).sum : Nat) : Int) := by rw [← sumN, List.map_map]; rfl
        rw [e1, e2]
        rfl
      · rw [s3 _ _ hl']
        rfl
end
end Shed
end
section
set_option Elab.async false
set_option linter.all false
set_option maxRecDepth 100000
set_option maxHeartbeats 2000000
namespace Shed
open PySem PySem.Spec PyProof.Rows L2
abbrev sWfj : Stmt := top 23
theorem cut_lo {xs : List V} {k : Nat} (h : k ≤ xs.length) : cutV xs none (some (k : Int)) = xs.take k := by
  unfold cutV
  rw [HT.sIx_none, HT.sIx_nat, List.drop_zero, Nat.min_eq_left h, Nat.sub_zero]
theorem cut_hi {xs : List V} {k : Nat} (h : k ≤ xs.length) : cutV xs (some (k : Int)) none = xs.drop k := by
  unfold cutV
  rw [HT.sIx_none, HT.sIx_nat, Nat.min_eq_left h]
  exact List.take_of_length_le (by rw [List.length_drop]; exact Nat.le_refl _)
theorem PlansAt.take {C : Addr} {H : Hp} : ∀ {as : List Addr} {ps : List Pl} (k : Nat), PlansAt C H as ps → PlansAt C H (as.take k) (ps.take k)
  | _, _, 0, _ => by simp; exact .nil
  | _, _, _ + 1, .nil => .nil
  | _, _, k + 1, .cons r t => .cons r (PlansAt.take k t)
theorem PlansAt.drop {C : Addr} {H : Hp} : ∀ {as : List Addr} {ps : List Pl} (k : Nat), PlansAt C H as ps → PlansAt C H (as.drop k) (ps.drop k)
  | _, _, 0, r => r
  | _, _, _ + 1, .nil => .nil
  | _, _, k + 1, .cons _ t => PlansAt.drop k t
theorem PlansAt.app {C : Addr} {H : Hp} : ∀ {as bs : List Addr} {ps qs : List Pl}, PlansAt C H as ps → PlansAt C H bs qs → PlansAt C H (as ++ bs) (ps ++ qs)
  | _, _, _, _, .nil, s => s
  | _, _, _, _, .cons r t, s => .cons r (PlansAt.app t s)
section
variable {P : Program} {w : World} {K : PySem.W.Frag} {mg : Str → Option Value} {base : Heap} {cO cN C : Addr}
def spWfj (K : PySem.W.Frag) (C : Addr) : Sp := fun vs H Q _ => ∃ (a : Addr) (as : List Addr) (ps : List Pl) (k : Nat), vs = [.ref a, .int (k : Int)] ∧ SqL K H a (as.map V.ref) ∧ PlansAt C H as ps ∧ ps.length ≤ 8 ∧ k ≤ ps.length ∧ (∀ p ∈ ps, p.nums.length ≤ 1000) ∧
  ∀ (H' : Hp) (l : Addr) (as' : List Addr), Same H H' → H l = none → H' l = some (.lst (as'.map V.ref)) → PlansAt C H' as' (wfj ps k) → Q (.ref l) H'
theorem scWJ : FnScope ["plans", "ways", "run", "rest", "place", "plan"] ["plans", "ways"] (defScope sWfj) := ⟨rfl, rfl, rfl, by decide +kernel, rfl, by decide +kernel, by decide +kernel⟩
theorem ok_wfj {f g : Addr} {fd gd : FuncData} (F : Fun K "with_first_joined" "with_first_joined" sWfj f fd) (N : Names mg cO cN) (T : PlanCls K mg C) (mgJ : mg "joined" = some (.ref g)) (FJ : Fun K "joined" "joined" sJoined g gd) (bJ : Binds K gd ["plans"] [])
    (GJ : FnOk P w K mg base CX0 3 g gd ["plans"] (spJoined K C)) : FnOk P w K mg base CX0 4 f fd ["plans", "ways"] (spWfj K C) := by
  refine F.ok scWJ (fun vs H Q E h => ?_) (fun cdv A outer s H vs Q E hr h => ?_)
  · obtain ⟨a, as, ps, k, rfl, _⟩ := h
    rfl
  · obtain ⟨a, as, ps, kk, rfl, hs, hp, hl, hk, hn, k⟩ := h
    refine ⟨_, pss_cons (ps_set (i := 2) scWJ.nd rfl (Or.inr rfl) (pe_call GJ hr (by rfl) mgJ FJ.kp bJ .nil pass0 (pa_cons (pe_slice sl_list (pv 0) po_none (po_some (pv 1))) pa_nil)))
      (pss_cons (ps_set (i := 3) scWJ.nd rfl (Or.inl rfl) (pe_slice sl_list (pv 0) (po_some (pv 1)) po_none))
      (pss_cons (ps_set (i := 4) scWJ.nd rfl (Or.inl rfl) (pe_callB call_len_seq (by rfl) N.len PySem.boot_len (pa_cons (pe_lc (own := [("plan", 5)]) rfl scWJ.nd (pi_list (pv 3)) (blkOk_by (by rfl)) (fun _ _ _ _ _ => pg_name (i := 5) scWJ.nd rfl (Or.inl rfl))
        (fun _ _ _ _ _ => by exact pts_one (pt_cmpR op_le (pe_fldK (K := K) rfl (pv 5) rfl) (pe_fldK (K := K) rfl (pv 2) rfl) (nomark _))) (fun _ _ _ _ _ => by exact pv 5)) pa_nil)))
      (pss_cons (ps_expr (pe_bm PySem.F.plainAttrs_list PySem.F.slot_list_insert PySem.F.type_list_insert mt_insert (pv 3) (pa_cons (pv 4) (pa_cons (pv 2) pa_nil))))
      (pss_one (ps_ret (pv 3)))))), ?_⟩
    have line := sizeLine_eq
    have hlen : as.length = ps.length := paired_len hp
    have hk' : kk ≤ (as.map V.ref).length := by rw [List.length_map]; omega
    refine ⟨_, rfl, _, rfl, _, rfl, a, _, rfl, hs, fun p1 hp1 => ?_⟩
    rw [cut_lo hk', ← List.map_take]
    refine ⟨p1, as.take kk, ps.take kk, rfl, SqL.of upd_same, (hp.take kk).same (Same.new hp1), by rw [List.length_take]; omega, fun p hq => hn p (List.mem_of_mem_take hq), fun H1 b s1 nb hb => ?_⟩
    have sm1 : Same H H1 := (Same.new hp1).trans s1
    have nb' : H b = none := (Same.new hp1).free nb
    refine ⟨_, rfl, _, rfl, _, rfl, a, _, rfl, sm1.seq hs, fun p2 hp2 => ?_⟩
    rw [cut_hi hk', ← List.map_drop]
    have n2 : H p2 = none := sm1.free hp2
    have sm2 : Same H (upd H1 p2 (.lst ((as.drop kk).map V.ref))) := sm1.over n2
    have hb2 : PlanAt C (upd H1 p2 (.lst ((as.drop kk).map V.ref))) b (joinP (ps.take kk)) := hb.same (Same.new hp2)
    have hrest : PlansAt C (upd H1 p2 (.lst ((as.drop kk).map V.ref))) (as.drop kk) (ps.drop kk) := (hp.drop kk).same sm2
    have hlr : (as.drop kk).length = (ps.drop kk).length := paired_len hrest
    refine ⟨_, rfl, p2, rfl, ⟨_, SqL.of upd_same⟩, fun D hD => lc_list (K := K) (a := p2) (xs := (as.drop kk).map V.ref)
      (fun i H' => Same (upd H1 p2 (.lst ((as.drop kk).map V.ref))) H' ∧ ∃ vs : List V, H' D = some (.lst vs) ∧ vs.length = (((ps.drop kk).take i).filter fun p => decide (p.sheep ≤ (joinP (ps.take kk)).sheep)).length)
      ⟨Same.new hD, [], upd_same, rfl⟩ (fun i H' _ q => SqL.of (q.1 _ _ upd_same)) (fun i x H' hx ⟨sm, vs, hd, hv⟩ => ?_) (fun H3 ⟨sm3, vs, hd3, hv3⟩ => ?_)⟩
    · obtain ⟨c, hc, rfl⟩ := get_ref hx
      obtain ⟨p, hpi, dx, ln, h1, h2⟩ := (hrest.same sm).get hc
      obtain ⟨dx', ln', h1', h2'⟩ := hb2.same sm
      refine ⟨rfl, ?_⟩
      refine ⟨_, rfl, c, C, dx, _, _, rfl, h1, T.cl, T.nS, planF_sheep _ _ _, _, rfl, b, C, dx', _, _, rfl, h1', T.cl, T.nS, planF_sheep _ _ _, _, _, rfl, rfl, _, rfl, ?_⟩
      have hf : ((ps.drop kk).take (i + 1)).filter (fun p => decide (p.sheep ≤ (joinP (ps.take kk)).sheep)) = ((ps.drop kk).take i).filter (fun p => decide (p.sheep ≤ (joinP (ps.take kk)).sheep)) ++ (if p.sheep ≤ (joinP (ps.take kk)).sheep then [p] else []) := by
        rw [List.take_add_one, hpi, List.filter_append]
        congr 1
        simp [List.filter_cons]
      have hfl : (((ps.drop kk).take i).filter fun p => decide (p.sheep ≤ (joinP (ps.take kk)).sheep)).length ≤ 8 := by
        refine Nat.le_trans (List.length_filter_le _ _) ?_
        rw [List.length_take, List.length_drop]; omega
      refine ite2 (fun h => ?_) (fun h => ?_)
      · have h' : p.sheep ≤ (joinP (ps.take kk)).sheep := by simpa using h
        refine ⟨_, rfl, vs, hd, by rw [hv, line]; omega, sm.over hD, _, upd_same, ?_⟩
        rw [hf, if_pos h', List.length_append, List.length_append, hv]
        rfl
      · have h' : ¬ p.sheep ≤ (joinP (ps.take kk)).sheep := by simpa using h
        refine ⟨sm, vs, hd, ?_⟩
        rw [hf, if_neg h', List.append_nil, hv]
    rw [List.length_map, hlr, List.take_length] at hv3
    refine ⟨D, _, rfl, .inl (SqL.of hd3), ?_⟩
    have h3 : H3 p2 = some (.lst ((as.drop kk).map V.ref)) := sm3 _ _ upd_same
    have hvl : vs.length ≤ (ps.drop kk).length := by rw [hv3]; exact List.length_filter_le _ _
    have hdl : (ps.drop kk).length ≤ 8 := by rw [List.length_drop]; omega
    refine ⟨_, rfl, .inl ⟨rfl, _, SqL.of h3⟩, _, rfl, _, rfl, p2, _, vs.length, _, rfl, rfl, h3, by rw [List.length_map]; omega, by rw [List.length_map, line]; omega, ?_⟩
    refine ⟨_, rfl, ?_⟩
    have s4 : Same H (upd H3 p2 (.lst (((as.drop kk).map V.ref).take vs.length ++ V.ref b :: ((as.drop kk).map V.ref).drop vs.length))) := (sm2.trans sm3).over n2
    refine k _ p2 ((as.drop kk).take vs.length ++ b :: (as.drop kk).drop vs.length) s4 n2 ?_ ?_
    · rw [upd_same]
      simp only [List.map_append, List.map_cons, List.map_take, List.map_drop]
    · have s5 : Same H1 (upd H3 p2 (.lst (((as.drop kk).map V.ref).take vs.length ++ V.ref b :: ((as.drop kk).map V.ref).drop vs.length))) := ((Same.new hp2).trans sm3).over hp2
      have hr5 := ((hp.drop kk).same sm1).same s5
      unfold wfj insP
      rw [← hv3]
      exact PlansAt.app (hr5.take vs.length) (.cons (hb.same s5) (hr5.drop vs.length))
end
end Shed
end
section
set_option Elab.async false
set_option linter.all false
set_option maxRecDepth 100000
set_option maxHeartbeats 2000000
namespace Shed
open PySem PySem.Spec PyProof.Rows L2
abbrev sSplits : Stmt := top 25
def SpanAt (H : Hp) (b : Addr) (s : Span) : Prop := H b = some (.tup [nV s.1, nV s.2])
def SpansAt (H : Hp) (a : Addr) (ss : List Span) : Prop := ∃ bs : List Addr, H a = some (.lst (bs.map V.ref)) ∧ Paired (SpanAt H) bs ss
def RowsAt (H : Hp) (a : Addr) (rows : List (List Span)) : Prop := ∃ cs : List Addr, H a = some (.lst (cs.map V.ref)) ∧ Paired (SpansAt H) cs rows
theorem SpansAt.same {H H' : Hp} {a : Addr} {ss : List Span} (h : SpansAt H a ss) (s : Same H H') : SpansAt H' a ss :=
  let ⟨bs, h1, h2⟩ := h
  ⟨bs, s _ _ h1, Paired.mapP h2 fun _ _ x => s _ _ x⟩
theorem paired_snoc {α β : Type} {F : α → β → Prop} : ∀ {as : List α} {bs : List β} {a : α} {b : β}, Paired F as bs → F a b → Paired F (as ++ [a]) (bs ++ [b])
  | _, _, _, _, .nil, h => .cons h .nil
  | _, _, _, _, .cons r t, h => .cons r (paired_snoc t h)
def hid (H : Hp) (D : Addr) : Hp := fun b => if b = D then none else H b
theorem hid_same (H : Hp) (D : Addr) : Same (hid H D) H := fun b o e => by
  unfold hid at e
  split at e
  · cases e
  · exact e
theorem hid_get {H : Hp} {D b : Addr} {o : HO} (h : H b = some o) (n : b ≠ D) : hid H D b = some o := by
  unfold hid
  rw [if_neg n]
  exact h
theorem hid_mono {H H' : Hp} {D : Addr} (s : Same H H') : Same (hid H D) (hid H' D) := fun b o e => by
  unfold hid at e
  split at e
  · cases e
  · rename_i n; exact hid_get (s b o e) n
theorem hid_upd (H : Hp) (D : Addr) (o : HO) : hid (upd H D o) D = hid H D := by
  funext b
  unfold hid
  split
  · rfl
  · rename_i n; exact upd_ne n
def RowsIn (H : Hp) (D : Addr) (rows : List (List Span)) : Prop := ∃ cs : List Addr, H D = some (.lst (cs.map V.ref)) ∧ Paired (SpansAt (hid H D)) cs rows
theorem RowsIn.push {H H4 : Hp} {D l : Addr} {rows : List (List Span)} {new : List Span} (h : RowsIn H D rows) (s : Same H H4) (hn : SpansAt (hid H4 D) l new) :
    ∃ acc : List V, H4 D = some (.lst acc) ∧ acc.length = rows.length ∧ RowsIn (upd H4 D (.lst (acc ++ [.ref l]))) D (rows ++ [new]) := by
  obtain ⟨cs, h1, h2⟩ := h
  refine ⟨cs.map V.ref, s _ _ h1, by rw [List.length_map]; exact paired_len h2, cs ++ [l], by rw [upd_same, List.map_append]; rfl, ?_⟩
  rw [hid_upd]
  exact paired_snoc (Paired.mapP h2 fun _ _ x => x.same (hid_mono s)) hn
theorem RowsIn.at {H : Hp} {D : Addr} {rows : List (List Span)} (h : RowsIn H D rows) : RowsAt H D rows :=
  let ⟨cs, h1, h2⟩ := h
  ⟨cs, h1, Paired.mapP h2 fun _ _ x => x.same (hid_same _ _)⟩
section
variable {P : Program} {w : World} {K : PySem.W.Frag} {mg : Str → Option Value} {base : Heap} {cO cN C : Addr}
def spSplits : Sp := fun vs H Q _ => ∃ i j k : Nat, vs = [nV i, nV j, nV k] ∧ i ≤ 8 ∧ j ≤ 8 ∧ ∀ (H' : Hp) (l : Addr), Same H H' → H l = none → RowsAt H' l (splits i j k) → Q (.ref l) H'
theorem scSp : FnScope ["start", "end", "ways", "found", "cut", "first", "second"] ["start", "end", "ways"] (defScope sSplits) := ⟨rfl, rfl, rfl, by decide +kernel, rfl, by decide +kernel, by decide +kernel⟩
theorem ok_splits {f : Addr} {fd : FuncData} (F : Fun K "splits" "splits" sSplits f fd) (N : Names mg cO cN) : FnOk P w K mg base CX0 1 f fd ["start", "end", "ways"] spSplits := by
  refine F.ok scSp (fun vs H Q E h => ?_) (fun cdv A outer s H vs Q E hr h => ?_)
  · obtain ⟨i, j, k, rfl, _⟩ := h
    rfl
  · obtain ⟨i, j, kk, rfl, hi, hj, k⟩ := h
    refine ⟨_, pss_cons (ps_setLc (i := 3) (own := [("cut", 4)]) rfl scSp.nd rfl rfl rfl (pi_range2 (by rfl) N.range (pa_cons (pe_op op_add (pv 0) pe_int) (pa_cons (pv 1) pa_nil))) (blkOk_by (by rfl)) (fun _ _ _ _ _ => pg_name (i := 4) scSp.nd rfl (Or.inl rfl)) (fun _ _ _ _ _ => pts_nil)
        (fun _ _ _ _ _ => by exact pe_lst (pa_cons (pe_tup (pa_cons (pv 0) (pa_cons (pv 4) pa_nil))) (pa_cons (pe_tup (pa_cons (pv 4) (pa_cons (pv 1) pa_nil))) pa_nil))))
      (pss_cons (ps_if (pt_cmpR op_eq (pv 2) pe_int (nomark _))
        (pss_one (ps_for PassesOwn.never rfl (pi_range2 (by rfl) N.range (pa_cons (pe_op op_add (pv 0) pe_int) (pa_cons (pv 1) pa_nil))) (pg_name (i := 5) scSp.nd rfl (Or.inl rfl))
          (pss_one (ps_for PassesOwn.never rfl (pi_range2 (by rfl) N.range (pa_cons (pe_op op_add (pv 5) pe_int) (pa_cons (pv 1) pa_nil))) (pg_name (i := 6) scSp.nd rfl (Or.inl rfl))
            (pss_one (ps_expr (pe_bm PySem.F.plainAttrs_list PySem.F.slot_list_append PySem.F.type_list_append mt_append (pv 3) (pa_cons (pe_lst (pa_cons (pe_tup (pa_cons (pv 0) (pa_cons (pv 5) pa_nil))) (pa_cons (pe_tup (pa_cons (pv 5) (pa_cons (pv 6) pa_nil))) (pa_cons (pe_tup (pa_cons (pv 6) (pa_cons (pv 1) pa_nil))) pa_nil)))) pa_nil))))))))
        pss_nil)
      (pss_one (ps_ret (pv 3)))), ?_⟩
    have line := sizeLine_eq
    refine ⟨_, rfl, _, _, rfl, rfl, _, rfl, _, _, rfl, ⟨by show -(2 ^ 62) ≤ ((i : Int) + 1); omega, by show ((i : Int) + 1) < 2 ^ 62; omega, by show -(2 ^ 62) ≤ (j : Int); omega, by show (j : Int) < 2 ^ 62; omega⟩, fun D hD => lc_range
      (fun t H' => Same H H' ∧ RowsIn H' D ((List.range t).map fun m => [(i, i + 1 + m), (i + 1 + m, j)])) ⟨Same.new hD, [], upd_same, .nil⟩ (fun t H' ht ⟨sm, hin⟩ => ?_) (fun H1 ⟨sm1, hin1⟩ => ?_)⟩
    · refine ⟨rfl, yes_of ?_⟩
      refine ⟨_, rfl, _, rfl, (by show 2 ≤ sizeLine; decide), fun t1 h1 => ⟨_, rfl, _, rfl, (by show 2 ≤ sizeLine; decide), fun t2 h2 => ⟨(by show 2 ≤ sizeLine; decide), fun l hl => ?_⟩⟩⟩
      have hDin : ∃ o, H' D = some o := let ⟨cs, q, _⟩ := hin; ⟨_, q⟩
      obtain ⟨oD, hoD⟩ := hDin
      have s1 := Same.new (o := .tup [nV i, .int ((i : Int) + 1 + (t : Int))]) h1
      have s2 := Same.new (o := .tup [.int ((i : Int) + 1 + (t : Int)), nV j]) h2
      have s3 := Same.new (o := .lst [V.ref t1, V.ref t2]) hl
      have s13 := (s1.trans s2).trans s3
      have e : ((i : Int) + 1 + (t : Int)) = ((i + 1 + t : Nat) : Int) := by omega
      have n1 : t1 ≠ D := Ne.symm (ne_of_none hoD h1)
      have n2 : t2 ≠ D := Ne.symm (ne_of_none (s1 _ _ hoD) h2)
      have n3 : l ≠ D := Ne.symm (ne_of_none ((s1.trans s2) _ _ hoD) hl)
      obtain ⟨acc, a1, a2, a3⟩ := hin.push (l := l) (new := [(i, i + 1 + t), (i + 1 + t, j)]) s13 ⟨[t1, t2], hid_get upd_same n3, .cons (hid_get ((s2.trans s3) _ _ (by rw [upd_same, e]; rfl)) n1) (.cons (hid_get (s3 _ _ (by rw [upd_same, e]; rfl)) n2) .nil)⟩
      have hlt : t < 8 := by omega
      refine ⟨acc, a1, by rw [a2, List.length_map, List.length_range, line]; omega, (sm.trans s13).over hD, ?_⟩
      rw [List.range_succ, List.map_append]
      exact a3
    have en : ((j : Int) - ((i : Int) + 1)).toNat = j - (i + 1) := by omega
    rw [en] at hin1
    have etwo : (cuts i j).map (fun m => [(i, m), (m, j)]) = (List.range (j - (i + 1))).map fun m => [(i, i + 1 + m), (i + 1 + m, j)] := by unfold cuts; rw [List.map_map]; rfl
    refine ⟨_, rfl, rfl, _, rfl, ?_⟩
    refine ite2 (fun hk => ?_) (fun hk => ?_)
    · have hk3 : kk = 3 := by
        have e : nV kk = V.int 3 := by simpa using hk
        have e2 : (kk : Int) = 3 := V.int.inj e
        omega
      refine ⟨_, rfl, _, _, rfl, rfl, _, rfl, _, _, rfl, ⟨by show -(2 ^ 62) ≤ ((i : Int) + 1); omega, by show ((i : Int) + 1) < 2 ^ 62; omega, by show -(2 ^ 62) ≤ (j : Int); omega, by show (j : Int) < 2 ^ 62; omega⟩, for_range
        (fun t σ H' => (∃ v5 v6 : Option V, σ = [some (nV i), some (nV j), some (nV kk), some (.ref D), none, v5, v6]) ∧ Same H H' ∧ ∃ rows, RowsIn H' D rows ∧ rows.length ≤ 8 + 8 * t ∧ rows = (List.range (j - (i + 1))).map (fun m => [(i, i + 1 + m), (i + 1 + m, j)]) ++ ((List.range t).map fun m => i + 1 + m).flatMap fun m => (cuts m j).map fun q => [(i, m), (m, q), (q, j)])
        ⟨⟨_, _, rfl⟩, sm1, _, hin1, by rw [List.length_map, List.length_range]; omega, by simp⟩ ?_ ?_⟩
      · rintro t σ H' ht ⟨⟨v5, v6, rfl⟩, sm, rows, hin, hlen, hrows⟩
        have htb : t < 8 := by omega
        obtain ⟨m, hm⟩ : ∃ m, m = i + 1 + t := ⟨_, rfl⟩
        have em : ((i : Int) + 1 + (t : Int)) = (m : Int) := by omega
        have en2 : ((j : Int) - ((m : Int) + 1)).toNat = j - (m + 1) := by omega
        rw [em]
        refine ⟨_, rfl, _, _, rfl, rfl, _, rfl, _, _, rfl, ⟨by show -(2 ^ 62) ≤ ((m : Int) + 1); omega, by show ((m : Int) + 1) < 2 ^ 62; omega, by show -(2 ^ 62) ≤ (j : Int); omega, by show (j : Int) < 2 ^ 62; omega⟩, for_range
          (fun t2 σ H' => (∃ v6 : Option V, σ = [some (nV i), some (nV j), some (nV kk), some (.ref D), none, some (nV m), v6]) ∧ Same H H' ∧ ∃ rows2, RowsIn H' D rows2 ∧ rows2.length ≤ 8 + 8 * t + t2 ∧ rows2 = rows ++ (List.range t2).map fun q => [(i, m), (m, m + 1 + q), (m + 1 + q, j)])
          ⟨⟨_, rfl⟩, sm, rows, hin, by omega, by simp⟩ ?_ ?_⟩
        · rintro t2 σ H2 ht2 ⟨⟨v6, rfl⟩, sm2, rows2, hin2, hlen2, hrows2⟩
          have ht2b : t2 < 8 := by omega
          have hDin : ∃ o, H2 D = some o := let ⟨cs, q, _⟩ := hin2; ⟨_, q⟩
          obtain ⟨oD, hoD⟩ := hDin
          obtain ⟨cs, hcs, _⟩ := id hin2
          obtain ⟨q, hq⟩ : ∃ q, q = m + 1 + t2 := ⟨_, rfl⟩
          have eq : ((m : Int) + 1 + (t2 : Int)) = (q : Int) := by omega
          rw [eq]
          refine ⟨_, rfl, .inl ⟨rfl, _, SqL.of hcs⟩, _, rfl, _, rfl, (by show 2 ≤ sizeLine; decide), fun t1 h1 => ⟨_, rfl, _, rfl, (by show 2 ≤ sizeLine; decide), fun t3 h3 => ⟨_, rfl, _, rfl, (by show 2 ≤ sizeLine; decide), fun t4 h4 => ⟨(by show 3 ≤ sizeLine; decide), fun l hl => ?_⟩⟩⟩⟩
          have s1 := Same.new (o := .tup [nV i, nV m]) h1
          have s2 := Same.new (o := .tup [nV m, nV q]) h3
          have s3 := Same.new (o := .tup [nV q, nV j]) h4
          have s4 := Same.new (o := .lst [V.ref t1, V.ref t3, V.ref t4]) hl
          have s14 := ((s1.trans s2).trans s3).trans s4
          have n1 : t1 ≠ D := Ne.symm (ne_of_none hoD h1)
          have n2 : t3 ≠ D := Ne.symm (ne_of_none (s1 _ _ hoD) h3)
          have n3 : t4 ≠ D := Ne.symm (ne_of_none ((s1.trans s2) _ _ hoD) h4)
          have n4 : l ≠ D := Ne.symm (ne_of_none (((s1.trans s2).trans s3) _ _ hoD) hl)
          obtain ⟨acc, a1, a2, a3⟩ := hin2.push (l := l) (new := [(i, m), (m, q), (q, j)]) s14 ⟨[t1, t3, t4], hid_get upd_same n4, .cons (hid_get (((s2.trans s3).trans s4) _ _ upd_same) n1) (.cons (hid_get ((s3.trans s4) _ _ upd_same) n2) (.cons (hid_get (s4 _ _ upd_same) n3) .nil))⟩
          refine ⟨D, acc, _, rfl, rfl, a1, by rw [a2, line]; omega, ⟨_, rfl⟩, (sm2.trans s14).over hD, _, a3, by rw [List.length_append, List.length_singleton]; omega, ?_⟩
          rw [hrows2, List.range_succ, List.map_append, List.append_assoc]
          subst hq
          rfl
        · rintro σ H2 ⟨⟨v6, rfl⟩, sm2, rows2, hin2, hlen2, hrows2⟩
          rw [en2] at hlen2 hrows2
          refine ⟨⟨_, _, rfl⟩, sm2, rows2, hin2, by omega, ?_⟩
          rw [hrows2, hrows, List.range_succ, List.map_append, List.flatMap_append, List.append_assoc]
          congr 2
          subst hm
          unfold cuts
          simp only [List.map_cons, List.map_nil, List.flatMap_cons, List.flatMap_nil, List.append_nil, List.map_map]
          rfl
      · rintro σ H' ⟨⟨v5, v6, rfl⟩, sm, rows, hin, hlen, hrows⟩
        refine ⟨_, rfl, k H' D sm hD ?_⟩
        have e : splits i j kk = rows := by
          rw [hrows, en]
          unfold splits
          rw [if_pos hk3, etwo]
          rfl
        rw [e]
        exact hin.at
    · have hk3 : kk ≠ 3 := fun e => hk (by rw [e]; simp [nV])
      refine ⟨_, rfl, k H1 D sm1 hD ?_⟩
      have e : splits i j kk = (List.range (j - (i + 1))).map fun m => [(i, i + 1 + m), (i + 1 + m, j)] := by
        unfold splits
        rw [if_neg hk3, List.append_nil, etwo]
      rw [e]
      exact hin1.at
end
end Shed
end
section
set_option Elab.async false
set_option linter.all false
set_option maxRecDepth 100000
set_option maxHeartbeats 2000000
namespace Shed
open PySem PySem.Spec PyProof.Rows L2
abbrev sFlr : Stmt := top 26
theorem looks_none {L : Span → Option Pl} : ∀ {ss : List Span}, ss.all (fun s => (L s).isSome) = false → looks L ss = none
  | [], h => by simp at h
  | s :: ss, h => by
    unfold looks
    cases e : L s with
    | none => rfl
    | some p =>
      have h2 : ss.all (fun s => (L s).isSome) = false := by simpa [e] using h
      rw [looks_none h2]
theorem looks_some {L : Span → Option Pl} : ∀ {ss : List Span}, ss.all (fun s => (L s).isSome) = true → ∃ ps, looks L ss = some ps ∧ ps.length = ss.length ∧ ∀ (i : Nat) (s : Span), ss[i]? = some s → ps[i]? = L s
  | [], _ => ⟨[], rfl, rfl, fun i s h => by simp at h⟩
  | s :: ss, h => by
    rw [List.all_cons, Bool.and_eq_true] at h
    obtain ⟨p, hp⟩ := Option.isSome_iff_exists.mp h.1
    obtain ⟨ps, h1, h2, h3⟩ := looks_some h.2
    refine ⟨p :: ps, by unfold looks; rw [hp, h1], by simp [h2], fun i t ht => ?_⟩
    cases i with
    | zero =>
      have e : s = t := Option.some.inj ht
      subst e
      exact hp.symm
    | succ i => exact h3 i t ht
def keyS (s : Span) : List Key := [Sum.inl (s.1 : Int), Sum.inl (s.2 : Int)]
def LvlAt (C : Addr) (H : Hp) (d : Addr) (L : Span → Option Pl) : Prop := ∃ kvs : List (List Key × V), H d = some (.dT kvs) ∧ kvs.length ≤ 100 ∧ ∀ s : Span, (L s = none → valV kvs (keyS s) = none) ∧ ∀ p, L s = some p → ∃ a, valV kvs (keyS s) = some (.ref a) ∧ PlanAt C H a p
theorem LvlAt.same {C : Addr} {H H' : Hp} {d : Addr} {L : Span → Option Pl} (h : LvlAt C H d L) (s : Same H H') : LvlAt C H' d L :=
  let ⟨kvs, h1, h2, h3⟩ := h
  ⟨kvs, s _ _ h1, h2, fun t => ⟨(h3 t).1, fun p hp => let ⟨a, e, q⟩ := (h3 t).2 p hp; ⟨a, e, q.same s⟩⟩⟩
def ChAt (C : Addr) (H : Hp) (v : V) : Option Pl → Prop
  | none => v = .non
  | some p => ∃ b, v = .ref b ∧ PlanAt C H b p
theorem ChAt.same {C : Addr} {H H' : Hp} {v : V} {o : Option Pl} (h : ChAt C H v o) (s : Same H H') : ChAt C H' v o := by
  cases o with
  | none => exact h
  | some p => obtain ⟨b, e, q⟩ := h; exact ⟨b, e, q.same s⟩
theorem paired_get {α β : Type} {F : α → β → Prop} : ∀ {as : List α} {bs : List β} {i : Nat} {a : α}, Paired F as bs → as[i]? = some a → ∃ b, bs[i]? = some b ∧ F a b
  | _, _, _, _, .nil, h => by simp at h
  | _, _, 0, _, .cons r _, h => ⟨_, rfl, by have e := Option.some.inj h; subst e; exact r⟩
  | _, _, i + 1, _, .cons _ t, h => paired_get (i := i) t h
section
variable {P : Program} {w : World} {K : PySem.W.Frag} {mg : Str → Option Value} {base : Heap} {cO cN C : Addr}
def spFlr (C : Addr) : Sp := fun vs H Q _ => ∃ (d r : Addr) (L : Span → Option Pl) (rows : List (List Span)), vs = [.ref d, .ref r] ∧ LvlAt C H d L ∧ RowsAt H r rows ∧ (∀ ss ∈ rows, ss.length ≤ 8) ∧ (∀ s p, L s = some p → p.nums.length ≤ 1000) ∧
  ∀ (H' : Hp) (v : V), Same H H' → ChAt C H' v (flr L rows) → Q v H'
theorem scFl : FnScope ["least", "rows_of_spans", "chosen", "spans", "run", "span"] ["least", "rows_of_spans"] (defScope sFlr) := ⟨rfl, rfl, rfl, by decide +kernel, rfl, by decide +kernel, by decide +kernel⟩
theorem ok_flr {f g : Addr} {fd gd : FuncData} (F : Fun K "first_least_run" "first_least_run" sFlr f fd) (N : Names mg cO cN) (T : PlanCls K mg C) (mgJ : mg "joined" = some (.ref g)) (FJ : Fun K "joined" "joined" sJoined g gd) (bJ : Binds K gd ["plans"] [])
    (GJ : FnOk P w K mg base CX0 3 g gd ["plans"] (spJoined K C)) : FnOk P w K mg base CX0 4 f fd ["least", "rows_of_spans"] (spFlr C) := by
  refine F.ok scFl (fun vs H Q E h => ?_) (fun cdv A outer s H vs Q E hr h => ?_)
  · obtain ⟨d, r, L, rows, rfl, _⟩ := h
    rfl
  · obtain ⟨d, r, L, rows, rfl, hL, hR, hlen, hn, k⟩ := h
    have hu := hu_of hr
    refine ⟨_, pss_cons (ps_set (i := 2) scFl.nd rfl (Or.inl rfl) pe_non)
      (pss_cons (ps_for PassesOwn.never rfl (pi_list (pv 1)) (pg_name (i := 3) scFl.nd rfl (Or.inl rfl))
        (pss_one (ps_if (pt_val (pe_callB (cr_all rfl) (by rfl) N.all PyProof.Rows.boot_all (pa_cons (pe_lc (own := [("span", 5)]) rfl scFl.nd (pi_list (pv 3)) (blkOk_by (by rfl)) (fun _ _ _ _ _ => pg_name (i := 5) scFl.nd rfl (Or.inl rfl)) (fun _ _ _ _ _ => pts_nil)
              (fun _ _ _ _ _ => by exact pe_cmp (pc_din hu (pv 5) (pv 0)))) pa_nil)))
          (pss_cons (ps_set (i := 4) scFl.nd rfl (Or.inl rfl) (pe_call GJ hr (by rfl) mgJ FJ.kp bJ .nil pass0 (pa_cons (pe_lc (own := [("span", 5)]) rfl scFl.nd (pi_list (pv 3)) (blkOk_by (by rfl)) (fun _ _ _ _ _ => pg_name (i := 5) scFl.nd rfl (Or.inl rfl)) (fun _ _ _ _ _ => pts_nil)
              (fun _ _ _ _ _ => by exact pe_dget hu (pv 0) (pv 5) (fun _ _ => rfl))) pa_nil)))
          (pss_one (ps_if (pw_or (pt_cmpR op_isN (pv 2) pe_non (nomark _)) (pw_or1 (pt_cmpR op_lt (pe_fld (pv 4) rfl) (pe_fld (pv 2) rfl) (nomark _)))).pt (pss_one (ps_set (i := 2) scFl.nd rfl (Or.inl rfl) (pv 4))) pss_nil)))
          pss_nil)))
      (pss_one (ps_ret (pv 2)))), ?_⟩
    have line := sizeLine_eq
    obtain ⟨cs, hcs, hrows⟩ := id hR
    refine ⟨_, rfl, r, rfl, ⟨_, SqL.of hcs⟩, for_list (K := K) (a := r) (xs := cs.map V.ref)
      (fun t σ H' => (∃ (cv : V) (v3 v4 : Option V), σ = [some (.ref d), some (.ref r), some cv, v3, v4, none] ∧ ChAt C H' cv ((rows.take t).foldl (flrStep L) none)) ∧ Same H H')
      ⟨⟨.non, none, none, rfl, rfl⟩, Same.refl _⟩ (fun t σ H' _ q => SqL.of (q.2 _ _ hcs)) ?_ ?_⟩
    · rintro t x σ H' hx ⟨⟨cv, v3, v4, rfl, hch⟩, sm⟩
      obtain ⟨c, hc, rfl⟩ := get_ref hx
      obtain ⟨ss, hss, bs, hbs, hsp⟩ := paired_get hrows hc
      have hl8 : ss.length ≤ 8 := hlen ss (List.mem_of_getElem? hss)
      have hbl : bs.length = ss.length := paired_len hsp
      have etake : (rows.take (t + 1)).foldl (flrStep L) none = flrStep L ((rows.take t).foldl (flrStep L) none) ss := by
        rw [List.take_add_one, hss, List.foldl_append]
        rfl
      refine ⟨_, rfl, c, rfl, ⟨_, SqL.of (sm _ _ hbs)⟩, fun D1 hD1 => lc_list (K := K) (a := c) (xs := bs.map V.ref) (fun i H2 => Same H' H2 ∧ H2 D1 = some (.lst (((ss.take i).map fun s => (L s).isSome).map V.bl)))
        ⟨Same.new hD1, upd_same⟩ (fun i H2 _ q => SqL.of (q.1 _ _ (sm _ _ hbs))) (fun i x H2 hx ⟨sm2, hd⟩ => ?_) (fun H2 ⟨sm2, hd2⟩ => ?_)⟩
      · obtain ⟨b, hb, rfl⟩ := get_ref hx
        obtain ⟨sp, hspi, hspan⟩ := paired_get hsp hb
        obtain ⟨kvs, g1, g2, g3⟩ := hL.same (sm.trans sm2)
        refine ⟨rfl, yes_of ?_⟩
        refine ⟨_, rfl, _, rfl, d, _, rfl, DGet.t (k := keyS sp) g1 ((sm.trans sm2) _ _ hspan), _, hd, ?_, sm2.over hD1, ?_⟩
        · rw [List.length_map, List.length_map, List.length_take, line]; omega
        · rw [upd_same, List.take_add_one, hspi, List.map_append, List.map_append]
          have e : (valV kvs (keyS sp)).isSome = (L sp).isSome := by
            cases q : L sp with
            | none => rw [(g3 sp).1 q]; rfl
            | some p => obtain ⟨a, e, _⟩ := (g3 sp).2 p q; rw [e]; rfl
          rw [e]
          rfl
      rw [List.length_map, hbl, List.take_length] at hd2
      refine ⟨D1, ss.map fun s => (L s).isSome, rfl, SqL.of hd2, _, rfl, ?_⟩
      have hall : (ss.map fun s => (L s).isSome).all id = ss.all fun s => (L s).isSome := by rw [List.all_map]; rfl
      rw [hall]
      refine ite2 (fun hyes => ?_) (fun hno => ?_)
      · obtain ⟨ps, h1, h2, h3⟩ := looks_some hyes
        have estep : flrStep L ((rows.take t).foldl (flrStep L) none) ss = better ((rows.take t).foldl (flrStep L) none) (joinP ps) := by unfold flrStep; rw [h1]
        refine ⟨_, rfl, c, rfl, ⟨_, SqL.of (sm2 _ _ (sm _ _ hbs))⟩, fun D2 hD2 => lc_list (K := K) (a := c) (xs := bs.map V.ref) (fun i H3 => Same H2 H3 ∧ ∃ as' : List Addr, H3 D2 = some (.lst (as'.map V.ref)) ∧ PlansAt C H2 as' (ps.take i))
          ⟨Same.new hD2, [], upd_same, .nil⟩ (fun i H3 _ q => SqL.of (q.1 _ _ (sm2 _ _ (sm _ _ hbs)))) (fun i x H3 hx ⟨sm3, as', hd, hpl⟩ => ?_) (fun H3 ⟨sm3, as', hd3, hpl3⟩ => ?_)⟩
        · obtain ⟨b, hb, rfl⟩ := get_ref hx
          obtain ⟨sp, hspi, hspan⟩ := paired_get hsp hb
          obtain ⟨kvs, g1, g2, g3⟩ := hL.same (sm.trans sm2)
          have hLs : (L sp).isSome = true := (List.all_eq_true.mp hyes) sp (List.mem_of_getElem? hspi)
          obtain ⟨p, hp⟩ := Option.isSome_iff_exists.mp hLs
          obtain ⟨pa, ea, hpa⟩ := (g3 sp).2 p hp
          have hpi : ps[i]? = some p := (h3 i sp hspi).trans hp
          have hal : as'.length = (ps.take i).length := paired_len hpl
          refine ⟨rfl, yes_of ?_⟩
          refine ⟨_, rfl, _, rfl, d, .ref pa, rfl, (by rw [← ea]; exact DGet.t (k := keyS sp) (sm3 _ _ g1) (((sm.trans sm2).trans sm3) _ _ hspan)), _, hd, ?_, sm3.over hD2, as' ++ [pa], ?_, ?_⟩
          · rw [List.length_map, hal, List.length_take, line]; omega
          · rw [upd_same, List.map_append]
            rfl
          · rw [List.take_add_one, hpi]
            exact paired_snoc hpl hpa
        rw [List.length_map, hbl, ← h2, List.take_length] at hpl3
        refine ⟨D2, as', ps, rfl, SqL.of hd3, hpl3.same sm3, by rw [h2]; exact hl8, fun p hp => ?_, fun H4 b s4 nb hb => ?_⟩
        · obtain ⟨i, hi⟩ := List.getElem?_of_mem hp
          have hil : i < ss.length := by rw [← h2]; exact (List.getElem?_eq_some_iff.mp hi).1
          exact hn ss[i] p ((h3 i ss[i] (List.getElem?_eq_getElem hil)).symm.trans hi)
        have sm4 : Same H H4 := ((sm.trans sm2).trans sm3).trans s4
        have hch4 := ((hch.same sm2).same sm3).same s4
        refine ⟨_, rfl, rfl, _, rfl, ?_⟩
        cases ef : (rows.take t).foldl (flrStep L) none with
        | none =>
          rw [ef] at hch4 estep
          have ecv : cv = .non := hch4
          subst ecv
          refine iteT (iteT ⟨_, rfl, ⟨_, _, _, rfl, ?_⟩, sm4⟩)
          rw [etake, ef, estep]
          exact ⟨b, rfl, hb⟩
        | some pc =>
          rw [ef] at hch4 estep
          obtain ⟨bc, ecv, hbc⟩ := hch4
          subst ecv
          obtain ⟨dx, ln, i1, i2⟩ := id hb
          obtain ⟨dx', ln', j1, j2⟩ := id hbc
          refine iteF ⟨_, rfl, b, C, dx, _, _, rfl, i1, T.cl, T.nC, planF_cost _ _ _, _, rfl, bc, C, dx', _, _, rfl, j1, T.cl, T.nC, planF_cost _ _ _, _, _, rfl, rfl, _, rfl, ?_⟩
          refine ite2 (fun h => ?_) (fun h => ?_)
          · have h' : (joinP ps).cost < pc.cost := by simpa using h
            refine ⟨_, rfl, ⟨_, _, _, rfl, ?_⟩, sm4⟩
            rw [etake, ef, estep]
            unfold better
            dsimp only
            rw [if_pos h']
            exact ⟨b, rfl, hb⟩
          · have h' : ¬ (joinP ps).cost < pc.cost := by simpa using h
            refine ⟨⟨_, _, _, rfl, ?_⟩, sm4⟩
            rw [etake, ef, estep]
            unfold better
            dsimp only
            rw [if_neg h']
            exact ⟨bc, rfl, hbc⟩
      · have hno : ss.all (fun s => (L s).isSome) = false := by simpa using hno
        refine ⟨⟨cv, _, v4, rfl, ?_⟩, sm.trans sm2⟩
        rw [etake]
        unfold flrStep
        rw [looks_none hno]
        exact hch.same sm2
    · rintro σ H' ⟨⟨cv, v3, v4, rfl, hch⟩, sm⟩
      rw [List.length_map, paired_len hrows, List.take_length] at hch
      exact ⟨_, rfl, k H' cv sm hch⟩
end
end Shed
end
section
set_option Elab.async false
set_option linter.all false
set_option maxRecDepth 100000
set_option maxHeartbeats 2000000
namespace L2
open PySem PySem.Spec PyProof.Rows
theorem for_enum {K : PySem.W.Frag} {a : Addr} {xs : List V} {g : TG} {tb : TS} {D : Ends} {σ : L2.St} {H : Hp} (Pv : Nat → L2.St → Hp → Prop) (h0 : Pv 0 σ H) (hl : ∀ i σ H, i ≤ xs.length → Pv i σ H → SqL K H a xs)
    (hs : ∀ i x σ H (T : Addr), xs[i]? = some x → Pv i σ H → H T = none → g (.ref T) σ (upd H T (.tup [.int (i : Nat), x])) fun σ2 H2 => tb { D with nx := Pv (i + 1), ct := Pv (i + 1), bk := D.nx } σ2 H2) (hd : ∀ σ H, Pv xs.length σ H → D.nx σ H) :
    ∃ W : Nat → Nat → L2.St → Hp → Prop, (∃ m, W 0 m σ H) ∧ ∀ i m σ H, W i m σ H →
      ((Ite K a).stop i H ∧ D.nx σ H) ∨ ((Ite K a).go i H ∧ ∃ N : L2.St → Hp → Prop, (∀ σ' H', N σ' H' → ∃ m', m' < m ∧ W (i + 1) m' σ' H') ∧ ∀ x H', (Ite K a).yld i H x H' → g x σ H' fun σ2 H2 => tb { D with nx := N, ct := N, bk := D.nx } σ2 H2) := by
  refine ⟨fun i m σ H => m = xs.length - i ∧ i ≤ xs.length ∧ Pv i σ H, ⟨xs.length, by simp, Nat.zero_le _, h0⟩, ?_⟩
  rintro i m σ H ⟨rfl, hi, p⟩
  have q := hl i σ H hi p
  by_cases hlt : i < xs.length
  · refine .inr ⟨⟨xs, xs[i], q, by simp [hlt]⟩, Pv (i + 1), fun σ' H' p' => ⟨xs.length - (i + 1), by omega, rfl, hlt, p'⟩, fun v H' y => ?_⟩
    obtain ⟨T, x, rfl, hT, rfl, hx⟩ := y
    exact hs i x σ H T (hx xs q) p hT
  · have e : i = xs.length := by omega
    subst e
    exact .inl ⟨⟨xs, q, Nat.le_refl _⟩, hd σ H p⟩
end L2
namespace Shed
open PySem PySem.Spec PyProof.Rows L2
abbrev sWomr : Stmt := top 27
theorem keyS_inj {s t : Span} (h : keyS s = keyS t) : s = t := by
  unfold keyS at h
  have h1 := (List.cons.inj h).1
  have h2 := (List.cons.inj (List.cons.inj h).2).1
  have e1 : (s.1 : Int) = t.1 := Sum.inl.inj h1
  have e2 : (s.2 : Int) = t.2 := Sum.inl.inj h2
  have f1 : s.1 = t.1 := by omega
  have f2 : s.2 = t.2 := by omega
  exact Prod.ext f1 f2
theorem putK_len {κ : Type} [DecidableEq κ] (kvs : List (κ × V)) (k : κ) (v : V) : (putK kvs k v).length ≤ kvs.length + 1 := by
  unfold putK
  split
  · rw [List.length_map]; omega
  · rw [List.length_append]; exact Nat.le_refl _
theorem PlanAt.updT {C : Addr} {H : Hp} {a f : Addr} {p : Pl} {kvs kvs' : List (List Key × V)} (h : PlanAt C H a p) (hf : H f = some (.dT kvs)) : PlanAt C (upd H f (.dT kvs')) a p :=
  let ⟨dx, l, h1, h2⟩ := h
  ⟨dx, l, by rw [upd_ne (ne_of h1 hf (by intro z; cases z))]; exact h1, by rw [upd_ne (ne_of h2 hf (by intro z; cases z))]; exact h2⟩
def nextL (k : Nat) (pens : List Pl) (L : Span → Option Pl) (s : Span) : Option Pl := if s.2 = s.1 + 1 then pens[s.1]? else if s.1 + 2 ≤ s.2 ∧ s.2 ≤ pens.length then flr L (splits s.1 s.2 k) else none
def PartAt (C : Addr) (H : Hp) (f : Addr) (M : Span → Option Pl) (dom : Span → Prop) (n : Nat) : Prop := ∃ kvs : List (List Key × V), H f = some (.dT kvs) ∧ kvs.length ≤ n ∧
  ∀ s : Span, (dom s → (M s = none → valV kvs (keyS s) = none) ∧ ∀ p, M s = some p → ∃ a, valV kvs (keyS s) = some (.ref a) ∧ PlanAt C H a p) ∧ (¬ dom s → valV kvs (keyS s) = none)
theorem PartAt.same {C : Addr} {H H' : Hp} {f : Addr} {M : Span → Option Pl} {dom : Span → Prop} {n : Nat} (h : PartAt C H f M dom n) (s : Same H H') : PartAt C H' f M dom n :=
  let ⟨kvs, h1, h2, h3⟩ := h
  ⟨kvs, s _ _ h1, h2, fun t => ⟨fun q => ⟨((h3 t).1 q).1, fun p hp => let ⟨a, e, g⟩ := ((h3 t).1 q).2 p hp; ⟨a, e, g.same s⟩⟩, (h3 t).2⟩⟩
theorem PartAt.dom {C : Addr} {H : Hp} {f : Addr} {M : Span → Option Pl} {dom dom' : Span → Prop} {n n' : Nat} (h : PartAt C H f M dom n) (hn : n ≤ n') (h1 : ∀ s, dom s → dom' s) (h2 : ∀ s, dom' s → ¬ dom s → M s = none) : PartAt C H f M dom' n' := by
  obtain ⟨kvs, e, hl, hs⟩ := h
  refine ⟨kvs, e, by omega, fun s => ⟨fun d => ?_, fun nd => (hs s).2 fun q => nd (h1 s q)⟩⟩
  by_cases q : dom s
  · exact (hs s).1 q
  · have hm := h2 s d q
    exact ⟨fun _ => (hs s).2 q, fun p hp => by rw [hm] at hp; cases hp⟩
theorem PartAt.put {C : Addr} {H : Hp} {f a b : Addr} {M : Span → Option Pl} {dom : Span → Prop} {n : Nat} {s0 : Span} {p : Pl} (h : PartAt C H f M dom n) (hM : M s0 = some p) (ha : PlanAt C H a p) (hb : H b = some (.tup [nV s0.1, nV s0.2])) (hn : n < 1000) :
    ∃ H', DPut H f (.ref b) (.ref a) H' ∧ PartAt C H' f M (fun s => dom s ∨ s = s0) (n + 1) ∧ (∀ q o, H q = some o → q ≠ f → H' q = some o) := by
  obtain ⟨kvs, e, hl, hs⟩ := h
  have line := sizeLine_eq
  refine ⟨_, DPut.t (k := keyS s0) e hb (by rw [line]; omega), ⟨_, upd_same, Nat.le_trans (putK_len _ _ _) (by omega), fun s => ?_⟩, fun q o hq n => by rw [upd_ne n]; exact hq⟩
  rw [valV_put]
  by_cases es : s = s0
  · subst es
    rw [if_pos rfl]
    refine ⟨fun _ => ⟨fun z => ?_, fun p' hp => ?_⟩, fun z => absurd (.inr rfl) z⟩
    · rw [hM] at z; cases z
    · rw [hM] at hp; cases hp; exact ⟨a, rfl, ha.updT e⟩
  · rw [if_neg fun z => es (keyS_inj z)]
    refine ⟨fun d => ?_, fun nd => (hs s).2 fun z => nd (.inl z)⟩
    have d : dom s := d.resolve_right es
    exact ⟨((hs s).1 d).1, fun p' hp => let ⟨a', e', g⟩ := ((hs s).1 d).2 p' hp; ⟨a', e', g.updT e⟩⟩
section
variable {P : Program} {w : World} {K : PySem.W.Frag} {mg : Str → Option Value} {base : Heap} {cO cN C : Addr}
def spWomr (K : PySem.W.Frag) (C : Addr) : Sp := fun vs H Q _ => ∃ (a d : Addr) (k : Nat) (as : List Addr) (pens : List Pl) (L : Span → Option Pl), vs = [.ref a, .ref d, nV k] ∧ SqL K H a (as.map V.ref) ∧ PlansAt C H as pens ∧ pens.length ≤ 8 ∧ LvlAt C H d L ∧
  (∀ s p, L s = some p → p.nums.length ≤ 1000) ∧ ∀ (H' : Hp) (f : Addr), Same H H' → LvlAt C H' f (nextL k pens L) → Q (.ref f) H'
theorem scWo : FnScope ["pens", "least", "ways", "further", "start", "pen", "end", "run"] ["pens", "least", "ways"] (defScope sWomr) := ⟨rfl, rfl, rfl, by decide +kernel, rfl, by decide +kernel, by decide +kernel⟩
theorem splits_len {i j k : Nat} {ss : List Span} (h : ss ∈ splits i j k) : ss.length ≤ 8 := by
  rcases mem_splits.mp h with ⟨m, _, _, rfl⟩ | ⟨_, m, q, _, _, _, rfl⟩ <;> simp
theorem ok_womr {f g1 g2 : Addr} {fd gd1 gd2 : FuncData} (F : Fun K "with_one_more_run" "with_one_more_run" sWomr f fd) (N : Names mg cO cN)
    (mgF : mg "first_least_run" = some (.ref g1)) (FF : Fun K "first_least_run" "first_least_run" sFlr g1 gd1) (bF : Binds K gd1 ["least", "rows_of_spans"] []) (GF : FnOk P w K mg base CX0 4 g1 gd1 ["least", "rows_of_spans"] (spFlr C))
    (mgS : mg "splits" = some (.ref g2)) (FS : Fun K "splits" "splits" sSplits g2 gd2) (bS : Binds K gd2 ["start", "end", "ways"] []) (GS : FnOk P w K mg base CX0 1 g2 gd2 ["start", "end", "ways"] spSplits) :
    FnOk P w K mg base CX0 5 f fd ["pens", "least", "ways"] (spWomr K C) := by
  refine F.ok scWo (fun vs H Q E h => ?_) (fun cdv A outer s H vs Q E hr h => ?_)
  · obtain ⟨a, d, k, as, pens, L, rfl, _⟩ := h
    rfl
  · obtain ⟨a, d, kk, as, pens, L, rfl, hs, hp, hl8, hL, hn, k⟩ := h
    have hu := hu_of hr
    have hr1 : Room 1 _ := hr.mono (by decide)
    refine ⟨_, pss_cons (ps_set (i := 3) scWo.nd rfl (Or.inl rfl) pe_dnewT)
      (pss_cons (ps_for PassesOwn.never rfl (pi_enum (by rfl) N.enumerate (pa_cons (pv 0) pa_nil)) (pg_tup rfl (pgs_cons (pg_name (i := 4) scWo.nd rfl (Or.inl rfl)) (pgs_cons (pg_name (i := 5) scWo.nd rfl (Or.inl rfl)) pgs_nil)))
        (pss_cons (ps_dput hu (pv 3) (pe_tup (pa_cons (pv 4) (pa_cons (pe_op op_add (pv 4) pe_int) pa_nil))) (pv 5) rfl)
        (pss_one (ps_for PassesOwn.never rfl (pi_range2 (by rfl) N.range (pa_cons (pe_op op_add (pv 4) pe_int) (pa_cons (pe_op op_add (pe_callB call_len_seq (by rfl) N.len PySem.boot_len (pa_cons (pv 0) pa_nil)) pe_int) pa_nil))) (pg_name (i := 6) scWo.nd rfl (Or.inl rfl))
          (pss_cons (ps_set (i := 7) scWo.nd rfl (Or.inl rfl) (pe_call GF hr (by rfl) mgF FF.kp bF .nil pass0 (pa_cons (pv 1) (pa_cons (pe_call GS hr1 (by rfl) mgS FS.kp bS .nil pass0 (pa_cons (pv 4) (pa_cons (pv 6) (pa_cons (pv 2) pa_nil)))) pa_nil))))
          (pss_one (ps_if (pt_cmpR op_notN (pv 7) pe_non (nomark _)) (pss_one (ps_dput hu (pv 3) (pe_tup (pa_cons (pv 4) (pa_cons (pv 6) pa_nil))) (pv 7) rfl)) pss_nil)))))))
      (pss_one (ps_ret (pv 3)))), ?_⟩
    have hlen : as.length = pens.length := paired_len hp
    refine fun f hf => ?_
    refine ⟨_, rfl, a, _, rfl, (Same.new hf).seq hs, for_enum (K := K) (a := a) (xs := as.map V.ref)
      (fun t σ H' => (∃ v4 v5 v6 v7 : Option V, σ = [some (.ref a), some (.ref d), some (nV kk), some (.ref f), v4, v5, v6, v7]) ∧ Same H H' ∧ PartAt C H' f (nextL kk pens L) (fun s => s.1 < t) (9 * t))
      ⟨⟨none, none, none, none, rfl⟩, Same.new hf, [], upd_same, Nat.le_refl _, fun s => ⟨fun z => absurd z (Nat.not_lt_zero _), fun _ => rfl⟩⟩ (fun t σ H' _ q => q.2.1.seq hs) ?_ ?_⟩
    · rintro t x σ H' T hx ⟨⟨v4, v5, v6, v7, rfl⟩, sm, hpart⟩ hT
      obtain ⟨b, hb, rfl⟩ := get_ref hx
      obtain ⟨p, hpi, hpb⟩ := hp.get hb
      have ht : t < pens.length := (List.getElem?_eq_some_iff.mp hpi).1
      refine ⟨T, _, rfl, SqT.of upd_same, rfl, _, _, rfl, _, _, rfl, rfl, ?_⟩
      refine ⟨_, rfl, _, rfl, _, rfl, _, rfl, _, _, rfl, rfl, (by show 2 ≤ sizeLine; decide), fun tb htb => ?_⟩
      have s1 := Same.new (o := .tup [.int (t : Nat), V.ref b]) hT
      have s2 := Same.new (o := .tup [.int (t : Nat), .int ((t : Int) + 1)]) htb
      have sm2 := (sm.trans s1).trans s2
      have hM0 : nextL kk pens L (t, t + 1) = some p := by
        unfold nextL
        rw [if_pos rfl]
        exact hpi
      obtain ⟨H3, hput, hpart3, keep3⟩ := ((hpart.same s1).same s2).put (s0 := (t, t + 1)) hM0 (hpb.same sm2) (by rw [upd_same]; rfl) (by omega)
      have sm3 : Same H H3 := fun q o hq => keep3 q o (sm2 q o hq) (ne_of_none hq hf)
      refine ⟨f, H3, rfl, hput, ?_⟩
      have en : (((pens.length : Int) + 1) - ((t : Int) + 2)).toNat = pens.length - (t + 1) := by omega
      refine ⟨_, rfl, _, _, rfl, rfl, _, rfl, a, _, rfl, .inl (sm3.seq hs), _, _, rfl, rfl, _, _, rfl, ⟨by show -(2 ^ 62) ≤ ((t : Int) + 2); omega, by show ((t : Int) + 2) < 2 ^ 62; omega, ?_, ?_⟩, ?_⟩
      · rw [List.length_map, hlen]; omega
      · rw [List.length_map, hlen]; omega
      rw [List.length_map, hlen, en]
      refine for_range (fun u σ H' => (∃ v6 v7 : Option V, σ = [some (.ref a), some (.ref d), some (nV kk), some (.ref f), some (nV t), some (.ref b), v6, v7]) ∧ Same H H' ∧ PartAt C H' f (nextL kk pens L) (fun s => s.1 < t ∨ (s.1 = t ∧ s.2 < t + 2 + u)) (9 * t + 1 + u))
        ⟨⟨_, _, rfl⟩, sm3, hpart3.dom (Nat.le_refl _) (fun s hs => ?_) (fun s hs nd => ?_)⟩ ?_ ?_
      · rcases hs with hs | rfl
        · exact .inl hs
        · exact .inr ⟨rfl, by omega⟩
      · rcases hs with hs | ⟨e1, e2⟩
        · exact absurd (.inl hs) nd
        · have : s ≠ (t, t + 1) := fun z => nd (.inr z)
          have : s.2 ≠ t + 1 := fun z => this (Prod.ext e1 z)
          unfold nextL
          rw [if_neg (by omega), if_neg (by omega)]
      · rintro u σ H' hu' ⟨⟨v6, v7, rfl⟩, sm4, hpart4⟩
        obtain ⟨e, he⟩ : ∃ e, e = t + 2 + u := ⟨_, rfl⟩
        have ee : ((t : Int) + 2 + (u : Int)) = (e : Int) := by omega
        rw [ee]
        have hMe : nextL kk pens L (t, e) = flr L (splits t e kk) := by
          unfold nextL
          rw [if_neg (by show ¬ e = t + 1; omega), if_pos (by show t + 2 ≤ e ∧ e ≤ pens.length; omega)]
        refine ⟨_, rfl, _, rfl, _, rfl, _, rfl, t, e, kk, rfl, by omega, by omega, fun H5 l5 s5 n5 hrows => ?_⟩
        refine ⟨d, l5, L, splits t e kk, rfl, hL.same (sm4.trans s5), hrows, fun ss h => splits_len h, hn, fun H6 v s6 hch => ?_⟩
        have sm6 : Same H H6 := (sm4.trans s5).trans s6
        have hpart6 := (hpart4.same s5).same s6
        refine ⟨_, rfl, rfl, _, rfl, ?_⟩
        cases hfl : flr L (splits t e kk) with
        | none =>
          rw [hfl] at hch hMe
          have ev : v = .non := hch
          subst ev
          refine iteF ⟨⟨_, _, rfl⟩, sm6, hpart6.dom (by omega) (fun s hs => ?_) (fun s hs nd => ?_)⟩
          · rcases hs with hs | ⟨e1, e2⟩
            · exact .inl hs
            · exact .inr ⟨e1, by omega⟩
          · rcases hs with hs | ⟨e1, e2⟩
            · exact absurd (.inl hs) nd
            · have : s = (t, e) := Prod.ext e1 (by
                have : ¬ s.2 < t + 2 + u := fun z => nd (.inr ⟨e1, z⟩)
                show s.2 = e
                omega)
              rw [this]
              exact hMe
        | some q =>
          rw [hfl] at hch hMe
          obtain ⟨b', ev, hb'⟩ := hch
          subst ev
          refine iteT ⟨_, rfl, _, rfl, _, rfl, _, rfl, (by show 2 ≤ sizeLine; decide), fun tc htc => ?_⟩
          have s7 := Same.new (o := .tup [nV t, nV e]) htc
          obtain ⟨H7, hput7, hpart7, keep7⟩ := (hpart6.same s7).put (s0 := (t, e)) hMe (hb'.same s7) (by rw [upd_same]) (by omega)
          refine ⟨f, H7, rfl, hput7, ⟨_, _, rfl⟩, fun q o hq => keep7 q o (s7 _ _ (sm6 q o hq)) (ne_of_none hq hf), hpart7.dom (by omega) (fun s hs => ?_) (fun s hs nd => ?_)⟩
          · rcases hs with (hs | ⟨e1, e2⟩) | rfl
            · exact .inl hs
            · exact .inr ⟨e1, by omega⟩
            · exact .inr ⟨rfl, by show e < t + 2 + (u + 1); omega⟩
          · rcases hs with hs | ⟨e1, e2⟩
            · exact absurd (.inl (.inl hs)) nd
            · have : s = (t, e) := Prod.ext e1 (by
                have : ¬ s.2 < t + 2 + u := fun z => nd (.inl (.inr ⟨e1, z⟩))
                show s.2 = e
                omega)
              exact absurd (.inr this) nd
      · rintro σ H' ⟨⟨v6, v7, rfl⟩, sm4, hpart4⟩
        refine ⟨⟨_, _, _, _, rfl⟩, sm4, hpart4.dom (by omega) (fun s hs => ?_) (fun s hs nd => ?_)⟩
        · rcases hs with hs | ⟨e1, e2⟩ <;> omega
        · have e1 : s.1 = t := by
            have : ¬ s.1 < t := fun z => nd (.inl z)
            omega
          have e2 : ¬ s.2 < t + 2 + (pens.length - (t + 1)) := fun z => nd (.inr ⟨e1, z⟩)
          unfold nextL
          rw [if_neg (by omega), if_neg (by omega)]
    · rintro σ H' ⟨⟨v4, v5, v6, v7, rfl⟩, sm, hpart⟩
      rw [List.length_map, hlen] at hpart
      obtain ⟨kvs, e, hl, hsv⟩ := hpart.dom (dom' := fun _ => True) (n' := 100) (by omega) (fun _ _ => trivial) (fun s _ nd => by
        unfold nextL
        split
        · exact List.getElem?_eq_none_iff.mpr (by omega)
        · rw [if_neg (by omega)])
      exact ⟨_, rfl, k H' f sm ⟨kvs, e, hl, fun s => (hsv s).1 trivial⟩⟩
end
end Shed
end
section
set_option Elab.async false
set_option linter.all false
set_option maxRecDepth 100000
set_option maxHeartbeats 2000000
namespace L2
open PySem PySem.Spec PyProof.Rows
theorem lc_enum {K : PySem.W.Frag} {a : Addr} {xs : List V} {g : TG} {tt : TT} {te : TE} {vs : List Nat} {σ : L2.St} {H1 : Hp} {D : Addr} {Qd : Hp → Prop} (Pv : Nat → Hp → Prop) (h0 : Pv 0 (upd H1 D (.lst []))) (hl : ∀ i H, i ≤ xs.length → Pv i H → SqL K H a xs)
    (hs : ∀ i x H (T : Addr), xs[i]? = some x → Pv i H → H T = none → g (.ref T) (wipe σ vs) (upd H T (.tup [.int (i : Nat), x])) fun σ2 H2 => wipe σ2 vs = wipe σ vs ∧ tt σ2 H2 fun b H3 =>
      if b = true then te σ2 H3 fun y H4 => ∃ acc, H4 D = some (.lst acc) ∧ acc.length < sizeLine ∧ Pv (i + 1) (upd H4 D (.lst (acc ++ [y]))) else Pv (i + 1) H3) (hd : ∀ H, Pv xs.length H → Qd H) :
    ∃ W : Nat → Nat → Hp → Prop, (∃ m, W 0 m (upd H1 D (.lst []))) ∧ ∀ i m H, W i m H →
      ((Ite K a).stop i H ∧ Qd H) ∨ ((Ite K a).go i H ∧ ∃ Nx : Hp → Prop, (∀ H', Nx H' → ∃ m', m' < m ∧ W (i + 1) m' H') ∧ ∀ x H', (Ite K a).yld i H x H' → g x (wipe σ vs) H' fun σ2 H2 => wipe σ2 vs = wipe σ vs ∧ tt σ2 H2 fun b H3 =>
        if b = true then te σ2 H3 fun y H4 => ∃ acc, H4 D = some (.lst acc) ∧ acc.length < sizeLine ∧ Nx (upd H4 D (.lst (acc ++ [y]))) else Nx H3) := by
  refine ⟨fun i m H => m = xs.length - i ∧ i ≤ xs.length ∧ Pv i H, ⟨xs.length, by simp, Nat.zero_le _, h0⟩, ?_⟩
  rintro i m H ⟨rfl, hi, p⟩
  have q := hl i H hi p
  by_cases hlt : i < xs.length
  · refine .inr ⟨⟨xs, xs[i], q, by simp [hlt]⟩, Pv (i + 1), fun H' p' => ⟨xs.length - (i + 1), by omega, rfl, hlt, p'⟩, fun v H' y => ?_⟩
    obtain ⟨T, x, rfl, hT, rfl, hx⟩ := y
    exact hs i x H T (hx xs q) p hT
  · have e : i = xs.length := by omega
    subst e
    exact .inl ⟨⟨xs, q, Nat.le_refl _⟩, hd H p⟩
theorem pg_tupK {X : Cx} {K : PySem.W.Frag} {es : List Expr} {k : Nat} {t : TGs} {n : Nat} {pos : Pos} (hK : X.K = K) (hc : X.calm = true) (h : PGs X es t)
    (hn : (assignEach es X.env).length = n := by rfl) (hst : (assignEach es X.env).findIdx? (·.1) = none := by rfl) : PG X (.Tuple es k pos) (gTup K n t) := by
  subst hK
  exact pg_tup hc h hn hst
end L2
namespace Shed
open PySem PySem.Spec PyProof.Rows L2
abbrev sPio : Stmt := top 20
abbrev sLko : Stmt := top 28
abbrev sLpio : Stmt := top 29
theorem lvl_nums {k : Nat} {pens : List Pl} (h : ∀ p ∈ pens, p.nums.length ≤ 2) : ∀ (d : Nat) (s : Span) (p : Pl), lvl k pens d s = some p → s.1 < s.2 ∧ s.2 ≤ pens.length ∧ p.nums.length + 1 ≤ 3 * (s.2 - s.1)
  | 0, s, p, e => by cases e
  | d + 1, s, p, e => by
    unfold lvl at e
    split at e
    · rename_i q
      have hp := h p (List.mem_of_getElem? e)
      have hi := (List.getElem?_eq_some_iff.mp e).1
      omega
    · split at e
      · rename_i q1 q2
        obtain ⟨ss, hs, ps, e2, rfl⟩ := flr_sound e
        rcases mem_splits.mp hs with ⟨m, h1, h2, rfl⟩ | ⟨_, m, q, h1, h2, h3, rfl⟩
        · obtain ⟨x, y, ex, ey, rfl⟩ := looks2 e2
          have g1 := lvl_nums h d _ x ex
          have g2 := lvl_nums h d _ y ey
          have g1 := g1.2.2
          have g2 := g2.2.2
          dsimp only at g1 g2
          refine ⟨by omega, q2.2, ?_⟩
          simp only [joinP, List.flatMap_cons, List.flatMap_nil, List.append_nil, List.length_cons, List.length_append]
          omega
        · obtain ⟨x, y, z, ex, ey, ez, rfl⟩ := looks3 e2
          have g1 := (lvl_nums h d _ x ex).2.2
          have g2 := (lvl_nums h d _ y ey).2.2
          have g3 := (lvl_nums h d _ z ez).2.2
          dsimp only at g1 g2 g3
          refine ⟨by omega, q2.2, ?_⟩
          simp only [joinP, List.flatMap_cons, List.flatMap_nil, List.append_nil, List.length_cons, List.length_append]
          omega
      · cases e
theorem lvl_short {k : Nat} {pens : List Pl} (h : ∀ p ∈ pens, p.nums.length ≤ 2) (hl : pens.length ≤ 8) (d : Nat) (s : Span) (p : Pl) (e : lvl k pens d s = some p) : p.nums.length ≤ 1000 := by
  have g := lvl_nums h d s p e
  omega
theorem pensP_short (cs : List Nat) : ∀ p ∈ pensP cs, p.nums.length ≤ 2 := fun p hp => by
  unfold pensP at hp
  obtain ⟨x, _, rfl⟩ := List.mem_map.mp hp
  exact Nat.le_refl _
section
variable {P : Program} {w : World} {K : PySem.W.Frag} {mg : Str → Option Value} {base : Heap} {cO cN C : Addr}
def spLko (K : PySem.W.Frag) (C : Addr) : Sp := fun vs H Q _ => ∃ (a : Addr) (k m : Nat) (as : List Addr) (pens : List Pl), vs = [.ref a, nV k, nV m] ∧ SqL K H a (as.map V.ref) ∧ PlansAt C H as pens ∧ pens.length ≤ 8 ∧ (∀ p ∈ pens, p.nums.length ≤ 2) ∧ m ≤ 8 ∧
  ∀ (H' : Hp) (v : V), Same H H' → ChAt C H' v (lvl k pens (m + 1) (0, pens.length)) → Q v H'
theorem scLk : FnScope ["pens", "ways", "most", "least", "runs"] ["pens", "ways", "most"] (defScope sLko) := ⟨rfl, rfl, rfl, by decide +kernel, rfl, by decide +kernel, by decide +kernel⟩
theorem ok_lko {f g : Addr} {fd gd : FuncData} (F : Fun K "least_keeping_order" "least_keeping_order" sLko f fd) (N : Names mg cO cN)
    (mgO : mg "with_one_more_run" = some (.ref g)) (FO : Fun K "with_one_more_run" "with_one_more_run" sWomr g gd) (bO : Binds K gd ["pens", "least", "ways"] []) (GO : FnOk P w K mg base CX0 5 g gd ["pens", "least", "ways"] (spWomr K C)) :
    FnOk P w K mg base CX0 6 f fd ["pens", "ways", "most"] (spLko K C) := by
  refine F.ok scLk (fun vs H Q E h => ?_) (fun cdv A outer s H vs Q E hr h => ?_)
  · obtain ⟨a, k, m, as, pens, rfl, _⟩ := h
    rfl
  · obtain ⟨a, kk, m, as, pens, rfl, hs, hp, hl8, hn, hm, k⟩ := h
    have hu := hu_of hr
    have hlen : as.length = pens.length := paired_len hp
    refine ⟨_, pss_cons (ps_set (i := 3) scLk.nd rfl (Or.inl rfl) pe_dnewT)
      (pss_cons (ps_for PassesOwn.never rfl (pi_range1 (by rfl) N.range (pa_cons (pe_op op_add (pv 2) pe_int) pa_nil)) (pg_name (i := 4) scLk.nd rfl (Or.inl rfl))
        (pss_one (ps_set (i := 3) scLk.nd rfl (Or.inl rfl) (pe_call GO hr (by rfl) mgO FO.kp bO .nil pass0 (pa_cons (pv 0) (pa_cons (pv 3) (pa_cons (pv 1) pa_nil)))))))
      (pss_one (ps_ret (pe_dget1 hu (pv 3) (pe_tup (pa_cons pe_int (pa_cons (pe_callB call_len_seq (by rfl) N.len PySem.boot_len (pa_cons (pv 0) pa_nil)) pa_nil))) ⟨rfl, rfl, rfl, rfl⟩)))), ?_⟩
    refine fun d0 hd0 => ?_
    refine ⟨_, rfl, _, _, rfl, rfl, _, rfl, by omega, by omega, ?_⟩
    rw [show (((m : Int) + 1).toNat) = m + 1 by omega]
    refine for_range (fun t σ H' => (∃ (d : Addr) (v : Option V), σ = [some (.ref a), some (nV kk), some (nV m), some (.ref d), v] ∧ LvlAt C H' d (lvl kk pens t)) ∧ Same H H')
      ⟨⟨d0, none, rfl, [], upd_same, Nat.zero_le _, fun s => ⟨fun _ => rfl, fun p hp => by cases hp⟩⟩, Same.new hd0⟩ ?_ ?_
    · rintro t σ H' ht ⟨⟨d, v, rfl, hL⟩, sm⟩
      refine ⟨_, rfl, _, rfl, _, rfl, a, d, kk, as, pens, lvl kk pens t, rfl, sm.seq hs, hp.same sm, hl8, hL, fun s p e => lvl_short hn hl8 t s p e, fun H2 f2 s2 hL2 => ?_⟩
      exact ⟨⟨f2, _, rfl, hL2⟩, sm.trans s2⟩
    · rintro σ H' ⟨⟨d, v, rfl, hL⟩, sm⟩
      obtain ⟨kvs, h1, h2, h3⟩ := id hL
      refine ⟨_, rfl, d, rfl, .inr ⟨kvs, .inl h1⟩, _, rfl, a, _, rfl, .inl (sm.seq hs), (by show 2 ≤ sizeLine; decide), fun tb htb => ?_⟩
      have s2 := Same.new (o := .tup [.int 0, .int ((as.map V.ref).length : Int)]) htb
      refine ⟨_, DGet.t (k := keyS (0, pens.length)) (s2 _ _ h1) (by rw [upd_same, List.length_map, hlen]; rfl), k _ _ (sm.trans s2) ?_⟩
      cases e : lvl kk pens (m + 1) (0, pens.length) with
      | none => rw [(h3 _).1 e]; rfl
      | some p =>
        obtain ⟨b, e2, hb⟩ := (h3 _).2 p e
        rw [e2]
        exact ⟨b, rfl, hb.same s2⟩
def spPio (K : PySem.W.Frag) (C : Addr) : Sp := fun vs H Q _ => ∃ (a : Addr) (cs : List Nat), vs = [.ref a] ∧ SqL K H a (cs.map nV) ∧ cs.length ≤ 8 ∧
  ∀ (H' : Hp) (l : Addr) (as : List Addr), Same H H' → H l = none → H' l = some (.lst (as.map V.ref)) → PlansAt C H' as (pensP cs) → Q (.ref l) H'
theorem scPo : FnScope ["farms", "farm", "sheep"] ["farms"] (defScope sPio) := ⟨rfl, rfl, rfl, by decide +kernel, rfl, by decide +kernel, by decide +kernel⟩
theorem ok_pio {f g : Addr} {fd gd : FuncData} (F : Fun K "pens_in_order" "pens_in_order" sPio f fd) (N : Names mg cO cN) (T : PlanCls K mg C) (M : Mk K C g) (FI : Fun K "__init__" "Plan.__init__" sPlanInit g gd) (bI : Binds K gd ["self", "sheep", "cost", "numbers"] []) :
    FnOk P w K mg base CX0 3 f fd ["farms"] (spPio K C) := by
  have GI : FnOk P w K mg base CX0 1 g gd ["self", "sheep", "cost", "numbers"] (spPlanInit C) := ok_planInit FI T
  refine F.ok scPo (fun vs H Q E h => ?_) (fun cdv A outer s H vs Q E hr h => ?_)
  · obtain ⟨a, cs, rfl, _⟩ := h
    rfl
  · obtain ⟨a, cs, rfl, hs, hl, k⟩ := h
    refine ⟨_, pss_one (ps_ret (pe_lc (own := [("farm", 1), ("sheep", 2)]) rfl scPo.nd (pi_enum (by rfl) N.enumerate (pa_cons (pv 0) pa_nil)) (blkOk_by (by rfl))
      (fun _ _ _ _ _ => by exact pg_tupK (K := K) (n := 2) rfl rfl (pgs_cons (pg_name (i := 1) scPo.nd rfl (Or.inl rfl)) (pgs_cons (pg_name (i := 2) scPo.nd rfl (Or.inl rfl)) pgs_nil))) (fun _ _ _ _ _ => pts_nil)
      (fun _ _ _ _ _ => by exact pe_make M GI hr (by rfl) T.mgC bI .nil pass0 (pa_cons (pv 2) (pa_cons pe_int (pa_cons (pe_lst (pa_cons pe_int (pa_cons (pv 1) pa_nil))) pa_nil)))))), ?_⟩
    have line := sizeLine_eq
    refine ⟨_, rfl, a, _, rfl, hs, fun D hD => lc_enum (K := K) (a := a) (xs := cs.map nV) (fun t H' => Same H H' ∧ ∃ as : List Addr, H' D = some (.lst (as.map V.ref)) ∧ PlansAt C (hid H' D) as ((pensP cs).take t))
      ⟨Same.new hD, [], upd_same, .nil⟩ (fun t H' _ q => q.1.seq hs) (fun t x H' T hx ⟨sm, as, hd, hpl⟩ hT => ?_) (fun H' ⟨sm, as, hd, hpl⟩ => ?_)⟩
    · obtain ⟨c, hc, rfl⟩ : ∃ c, cs[t]? = some c ∧ x = nV c := by
        rw [List.getElem?_map] at hx
        cases e : cs[t]? with
        | none => rw [e] at hx; cases hx
        | some z => rw [e] at hx; exact ⟨z, rfl, (Option.some.inj hx).symm⟩
      have ht : t < cs.length := (List.getElem?_eq_some_iff.mp hc).1
      have s1 := Same.new (o := .tup [.int (t : Nat), nV c]) hT
      refine ⟨T, _, rfl, SqT.of upd_same, rfl, _, _, rfl, _, _, rfl, rfl, rfl, yes_of ?_⟩
      refine ⟨_, rfl, _, rfl, (by show 2 ≤ sizeLine; decide), fun ln hln => fun x dx nx nd ne => ⟨x, dx, _, _, _, rfl, upd_same, fun H3 h3 k3 => ⟨rfl, ?_⟩⟩⟩
      have s2 := Same.new (o := .lst [.int 0, .int (t : Nat)]) hln
      have s3 : Same _ H3 := Same.made nx nd k3
      have s13 := (s1.trans s2).trans s3
      have hal : as.length = ((pensP cs).take t).length := paired_len hpl
      have n1 : ln ≠ D := Ne.symm (ne_of_none (s1 _ _ hd) hln)
      have n2 : x ≠ D := Ne.symm (ne_of_none ((s1.trans s2) _ _ hd) nx)
      refine ⟨_, s13 _ _ hd, ?_, (sm.trans s13).over hD, as ++ [x], ?_, ?_⟩
      · rw [List.length_map, hal, List.length_take, line]; omega
      · rw [upd_same, List.map_append]
        rfl
      · rw [hid_upd, List.take_add_one, pensP_get ht]
        refine paired_snoc (PlansAt.same hpl (hid_mono s13)) ⟨dx, ln, hid_get ?_ n2, hid_get (s3 _ _ upd_same) n1⟩
        rw [h3]
        have ec : cs.getD t 0 = c := by
          rw [List.getD_eq_getElem?_getD, hc]
          rfl
        unfold penP
        rw [ec]
        rfl
    · rw [List.length_map] at hpl
      have e : (pensP cs).take cs.length = pensP cs := List.take_of_length_le (by rw [pensP_len]; exact Nat.le_refl _)
      rw [e] at hpl
      exact k H' D as sm hD hd (hpl.same (hid_same _ _))
def spLpio (K : PySem.W.Frag) (C : Addr) : Sp := fun vs H Q _ => ∃ (a : Addr) (k : Nat) (cs : List Nat), vs = [.ref a, nV k] ∧ SqL K H a (cs.map nV) ∧ 0 < cs.length ∧ cs.length ≤ 8 ∧
  ∀ (H' : Hp) (b : Addr), Same H H' → PlanAt C H' b (phi cs.sum (Vbsyad.ordered k cs)) → Q (.ref b) H'
theorem scLo : FnScope ["farms", "ways"] ["farms", "ways"] (defScope sLpio) := ⟨rfl, rfl, rfl, by decide +kernel, rfl, by decide +kernel, by decide +kernel⟩
theorem ok_lpio {f g1 g2 : Addr} {fd gd1 gd2 : FuncData} (F : Fun K "least_plan_in_order" "least_plan_in_order" sLpio f fd) (N : Names mg cO cN)
    (mg1 : mg "least_keeping_order" = some (.ref g1)) (F1 : Fun K "least_keeping_order" "least_keeping_order" sLko g1 gd1) (b1 : Binds K gd1 ["pens", "ways", "most"] []) (G1 : FnOk P w K mg base CX0 6 g1 gd1 ["pens", "ways", "most"] (spLko K C))
    (mg2 : mg "pens_in_order" = some (.ref g2)) (F2 : Fun K "pens_in_order" "pens_in_order" sPio g2 gd2) (b2 : Binds K gd2 ["farms"] []) (G2 : FnOk P w K mg base CX0 3 g2 gd2 ["farms"] (spPio K C)) :
    FnOk P w K mg base CX0 7 f fd ["farms", "ways"] (spLpio K C) := by
  refine F.ok scLo (fun vs H Q E h => ?_) (fun cdv A outer s H vs Q E hr h => ?_)
  · obtain ⟨a, k, cs, rfl, _⟩ := h
    rfl
  · obtain ⟨a, kk, cs, rfl, hs, h0, hl, k⟩ := h
    have hr3 : Room 3 _ := hr.mono (by decide)
    refine ⟨_, pss_one (ps_ret (pe_call G1 hr (by rfl) mg1 F1.kp b1 .nil pass0 (pa_cons (pe_call G2 hr3 (by rfl) mg2 F2.kp b2 .nil pass0 (pa_cons (pv 0) pa_nil)) (pa_cons (pv 1) (pa_cons (pe_op op_sub (pe_callB call_len_seq (by rfl) N.len PySem.boot_len (pa_cons (pv 0) pa_nil)) pe_int) pa_nil))))), ?_⟩
    refine ⟨_, rfl, a, cs, rfl, hs, hl, fun H1 l as s1 nl hl1 hp1 => ?_⟩
    refine ⟨_, rfl, _, rfl, a, _, rfl, .inl (s1.seq hs), _, _, rfl, rfl, ?_⟩
    refine ⟨l, kk, cs.length - 1, as, pensP cs, ?_, SqL.of hl1, hp1, by rw [pensP_len]; exact hl, pensP_short cs, by omega, fun H2 v s2 hch => ?_⟩
    · rw [List.length_map]
      have e : ((cs.length : Int) - 1) = ((cs.length - 1 : Nat) : Int) := by omega
      show [V.ref l, nV kk, V.int ((cs.length : Int) - 1)] = _
      rw [e]
      rfl
    · rw [show cs.length - 1 + 1 = cs.length by omega, pensP_len, ordered_plan h0] at hch
      obtain ⟨b, rfl, hb⟩ := hch
      exact k H2 b (s1.trans s2) hb
end
end Shed
end
section
set_option Elab.async false
set_option linter.all false
set_option maxRecDepth 100000
set_option maxHeartbeats 2000000
namespace Shed
open PySem PySem.Spec PyProof.Rows L2
abbrev sRcb : Stmt := top 31
theorem count_cast (d : Nat) : ∀ ds : List Nat, (ds.map fun (n : Nat) => (n : Int)).count (d : Int) = ds.count d
  | [] => rfl
  | x :: ds => by
    rw [List.map_cons, List.count_cons, List.count_cons, count_cast d ds]
    congr 1
    by_cases e : x = d
    · subst e; simp
    · have : ¬ (x : Int) = (d : Int) := by omega
      simp [e, this]
section
variable {P : Program} {w : World} {K : PySem.W.Frag} {mg : Str → Option Value} {base : Heap} {cO cN C : Addr}
def spCheckedWays (K : PySem.W.Frag) (cO : Addr) : Sp := fun vs H Q E => ∃ (a : Addr) (z : Int) (zs : List Int), vs = [.ref a] ∧ SqL K H a ((z :: zs).map V.int) ∧ (2 ≤ z → z ≤ 3 → Q (.int z) H) ∧ (¬ (2 ≤ z ∧ z ≤ 3) → E (.ref cO) none H)
theorem scCW : FnScope ["told"] ["told"] (defScope sCheckedWays) := ⟨rfl, rfl, rfl, by decide +kernel, rfl, by decide +kernel, by decide +kernel⟩
theorem ok_checkedWays {f g : Addr} {fd gd : FuncData} (F : Fun K "checked_ways" "checked_ways" sCheckedWays f fd) (T : Names mg cO cN) (mgC : mg "check_number" = some (.ref g)) (FC : Fun K "check_number" "check_number" sCheckNumber g gd) (bC : Binds K gd ["number", "lowest", "highest"] [])
    (G : FnOk P w K mg base (CXE P w) 1 g gd ["number", "lowest", "highest"] (spCheckNumber cO)) : FnOk P w K mg base (CXE P w) 2 f fd ["told"] (spCheckedWays K cO) := by
  obtain ⟨t2, hfew⟩ := T.fewest
  obtain ⟨t3, hmost⟩ := T.mostw
  refine F.okE scCW (fun vs H Q E h => ?_) (fun cdv A outer s H vs Q E hr h => ?_)
  · obtain ⟨a, z, zs, rfl, _⟩ := h
    rfl
  · obtain ⟨a, z, zs, rfl, hs, hq, he⟩ := h
    refine ⟨_, pss_cons (ps_expr (pe_call G hr (by rfl) mgC FC.kp bC .nil passes_def (pa_cons (pe_ix ix_list (pv 0) pe_int (fun _ _ => rfl)) (pa_cons (pe_glob (v := .int 2) (by rfl) hfew ⟨t2, rfl⟩) (pa_cons (pe_glob (v := .int 3) (by rfl) hmost ⟨t3, rfl⟩) pa_nil)))))
      (pss_one (ps_ret (pe_ix ix_list (pv 0) pe_int (fun _ _ => rfl)))), ?_⟩
    refine ⟨_, rfl, a, _, _, _, rfl, rfl, hs, atI_nat (j := 0) rfl, z, 2, 3, rfl, fun h1 h2 => ?_, he⟩
    exact ⟨_, rfl, a, _, _, _, rfl, rfl, hs, atI_nat (j := 0) rfl, hq h1 h2⟩
def spRcb (K : PySem.W.Frag) : Sp := fun vs H Q _ => ∃ (a : Addr) (k : Nat) (ds : List Nat), vs = [.ref a, nV k] ∧ SqL K H a (ds.map nV) ∧ (k = 2 ∨ k = 3) ∧ (∀ d ∈ ds, d ≤ 8) ∧ Q (.bl (Vbsyad.canBe k ds)) H
theorem scRc : FnScope ["runs", "ways", "places", "depth"] ["runs", "ways"] (defScope sRcb) := ⟨rfl, rfl, rfl, by decide +kernel, rfl, by decide +kernel, by decide +kernel⟩
theorem ok_rcb {f : Addr} {fd : FuncData} (F : Fun K "runs_can_be" "runs_can_be" sRcb f fd) (N : Names mg cO cN) : FnOk P w K mg base CX0 1 f fd ["runs", "ways"] (spRcb K) := by
  obtain ⟨t8, hmost⟩ := N.mostr
  refine F.ok scRc (fun vs H Q E h => ?_) (fun cdv A outer s H vs Q E hr h => ?_)
  · obtain ⟨a, k, ds, rfl, _⟩ := h
    rfl
  · obtain ⟨a, k, ds, rfl, hs, hk, hd, q⟩ := h
    refine ⟨_, pss_cons (ps_set (i := 2) scRc.nd rfl (Or.inl rfl) pe_int)
      (pss_cons (ps_for PassesOwn.never rfl (pi_range3 (by rfl) N.range (pa_cons (pe_glob (v := .int 8) (by rfl) hmost ⟨t8, rfl⟩) (pa_cons pe_int (pa_cons (pe_un un_neg pe_int) pa_nil)))) (pg_name (i := 3) scRc.nd rfl (Or.inl rfl))
        (pss_one (ps_set (i := 2) scRc.nd rfl (Or.inl rfl) (pe_op op_fdiv (pe_op op_sub (pe_op op_add (pe_op op_add (pv 2) (pe_bm PySem.F.plainAttrs_list PySem.F.slot_list_count PySem.F.type_list_count mt_count_ints (pv 0) (pa_cons (pv 3) pa_nil))) (pv 1)) pe_int) (pv 1)))))
      (pss_one (ps_ret (pe_cmpR op_le (pe_op op_add (pv 2) (pe_bm PySem.F.plainAttrs_list PySem.F.slot_list_count PySem.F.type_list_count mt_count_ints (pv 0) (pa_cons pe_int pa_nil))) pe_int (nomark _))))), ?_⟩
    have hsI : SqL K H a ((ds.map fun (n : Nat) => (n : Int)).map V.int) := by rw [List.map_map]; exact hs
    have hk0 : 0 < k := by omega
    refine ⟨1, rfl, 8, 0, -1, 8, rfl, RgC.neg (by decide) (by decide) (by decide) (by decide), for_rangeC
      (fun t σ H' => (∃ v : Option V, σ = [some (.ref a), some (nV k), some (nV (upPlaces k (fun d => ds.count d) t)), v]) ∧ H' = H) ⟨⟨none, rfl⟩, rfl⟩ ?_ ?_⟩
    · rintro t σ H' ht ⟨⟨v, rfl⟩, rfl⟩
      have e8 : (8 : Int) + (t : Nat) * (-1) = ((8 - t : Nat) : Int) := by omega
      rw [e8]
      refine ⟨_, rfl, _, rfl, .inl ⟨rfl, _, hsI⟩, _, rfl, a, _, _, rfl, rfl, hsI, _, _, rfl, rfl, _, rfl, _, _, rfl, rfl, _, _, rfl, rfl, _, rfl, _, _, rfl, rfl, ⟨by show (0 : Int) < (k : Int); omega, by show (k : Int) < 1073741824; omega⟩, ⟨some (V.int ((8 - t : Nat) : Int)), ?_⟩, rfl⟩
      have e1 : ((((upPlaces k (fun d => ds.count d) t : Nat) : Int) + (((ds.map fun (n : Nat) => (n : Int)).count ((8 - t : Nat) : Int) : Nat) : Int) + (k : Int) - 1) / (k : Int)) = ((upPlaces k (fun d => ds.count d) (t + 1) : Nat) : Int) := by
        rw [count_cast]
        have eu : upPlaces k (fun d => ds.count d) (t + 1) = (upPlaces k (fun d => ds.count d) t + ds.count (8 - t) + k - 1) / k := rfl
        rw [eu, Int.natCast_ediv]
        congr 1
        omega
      show [some (V.ref a), some (nV k), some (V.int ((((upPlaces k (fun d => ds.count d) t : Nat) : Int) + (((ds.map fun (n : Nat) => (n : Int)).count ((8 - t : Nat) : Int) : Nat) : Int) + (k : Int) - 1) / (k : Int))), some (V.int ((8 - t : Nat) : Int))] = _
      rw [e1]
      rfl
    · rintro σ H' ⟨⟨v, rfl⟩, rfl⟩
      refine ⟨_, rfl, _, rfl, .inl ⟨rfl, _, hsI⟩, a, _, 0, rfl, rfl, hsI, _, _, rfl, rfl, _, _, rfl, rfl, ?_⟩
      have e2 : (((upPlaces k (fun d => ds.count d) 8 : Nat) : Int) + (((ds.map fun (n : Nat) => (n : Int)).count (0 : Int) : Nat) : Int) ≤ 1) ↔ (upPlaces k (fun d => ds.count d) 8 + ds.count 0 ≤ 1) := by
        rw [show (0 : Int) = ((0 : Nat) : Int) from rfl, count_cast]
        omega
      have e3 : decide (((upPlaces k (fun d => ds.count d) 8 : Nat) : Int) + (((ds.map fun (n : Nat) => (n : Int)).count (0 : Int) : Nat) : Int) ≤ 1) = Vbsyad.canBe k ds := by
        rw [← canBe_places hk0 hd]
        exact decide_eq_decide.mpr e2
      rw [← e3] at q
      exact q
end
end Shed
end
section
set_option Elab.async false
set_option linter.all false
set_option maxRecDepth 100000
set_option maxHeartbeats 2000000
namespace Shed
open PySem PySem.Spec PyProof.Rows L2
abbrev sPff : Stmt := top 35
theorem eqv_ints : ∀ ns ms : List Int, PyData.eqvAll (ns.map PyData.int) (ms.map PyData.int) = decide (ns = ms)
  | [], [] => by simp [PyData.eqvAll]
  | [], _ :: _ => by simp [PyData.eqvAll]
  | _ :: _, [] => by simp [PyData.eqvAll]
  | n :: ns, m :: ms => by
    rw [List.map_cons, List.map_cons]
    rw [PyData.eqvAll, PyData.eqv, eqv_ints ns ms]
    by_cases e : n = m
    · subst e; simp
    · simp [e]
theorem lay_ints : ∀ ns : List Int, PyData.canLayAll0 (ns.map PyData.int) = true ∧ PyData.depthAll (ns.map PyData.int) ≤ 1
  | [] => ⟨rfl, by decide⟩
  | n :: ns => by
    obtain ⟨h1, h2⟩ := lay_ints ns
    rw [List.map_cons]
    refine ⟨by rw [PyData.canLayAll0, h1]; rfl, ?_⟩
    rw [PyData.depthAll]
    have : PyData.depth (.int n) ≤ 1 := by unfold PyData.depth; omega
    omega
theorem shaped_ints (ns : List Int) : SeqAt.shaped (.list (ns.map PyData.int)) = true := by
  obtain ⟨h1, h2⟩ := lay_ints ns
  unfold SeqAt.shaped
  rw [PyData.canLay0, h1, Bool.true_and, decide_eq_true_iff, PyData.depth]
  omega
theorem dp_ints {K : PySem.W.Frag} {H : Hp} : ∀ ns : List Int, DpAll K H (ns.map V.int) (ns.map PyData.int)
  | [] => .nil
  | n :: ns => .cons (.int n) (dp_ints ns)
theorem mach_len {w : Nat} : ∀ (n : Nat) (l : List Int), l.length ≤ n → ∀ (P : List (Int × Nat)) (st : List Nat) (R : List (Int × Nat)) (r : List Int), mach w l P st = some (R, r) → 2 * R.length + r.length ≤ 2 * P.length + l.length := by
  intro n
  induction n with
  | zero =>
    intro l hl P st R r h
    rw [mach_eq] at h
    split at h
    · cases h; exact Nat.le_refl _
    · cases l with
      | nil => cases h
      | cons => simp at hl
  | succ n ih =>
    intro l hl P st R r h
    rw [mach_eq] at h
    split at h
    · cases h; exact Nat.le_refl _
    · cases l with
      | nil => cases h
      | cons x l =>
        dsimp only at h
        split at h
        · cases l with
          | nil => cases h
          | cons f l =>
            have := ih l (by simp at hl; omega) _ _ _ _ h
            simp at this ⊢
            omega
        · split at h
          · have := ih l (by simp at hl; omega) _ _ _ _ h
            simp at this ⊢
            omega
          · cases h
section
variable {P : Program} {w : World} {K : PySem.W.Frag} {mg : Str → Option Value} {base : Heap} {cO cN C : Addr}
def spPff (K : PySem.W.Frag) (cN : Addr) : Sp := fun vs H Q E => ∃ (a fa : Addr) (ns : List Int) (k : Nat) (cs : List Nat), vs = [.ref a, nV k, .ref fa] ∧ SqL K H a (ns.map V.int) ∧ ns.length ≤ 64 ∧ k ≤ 3 ∧ SqL K H fa (cs.map nV) ∧ cs.length ≤ 8 ∧
  (∀ t, Vbsyad.readAll ns = some t → Vbsyad.isPlan cs.length k t = true → ∀ (H' : Hp) (l : Addr), Same H H' → H l = none → PensAt H' l (lvI 0 t) → Q (.ref l) H') ∧
  ((∀ t, Vbsyad.readAll ns = some t → Vbsyad.isPlan cs.length k t = false) → ∀ H', Same H H' → E (.ref cN) none H')
theorem scPf : FnScope ["numbers", "ways", "farms", "pens", "farm", "runs"] ["numbers", "ways", "farms"] (defScope sPff) := ⟨rfl, rfl, rfl, by decide +kernel, rfl, by decide +kernel, by decide +kernel⟩
theorem ok_pff {f g : Addr} {fd gd : FuncData} (F : Fun K "pens_for_farms" "pens_for_farms" sPff f fd) (N : Names mg cO cN) (c : XCls K cN) (mgR : mg "read_pens" = some (.ref g)) (FR : Fun K "read_pens" "read_pens" sReadPens g gd) (bR : Binds K gd ["numbers", "ways"] [])
    (GR : FnOk P w K mg base (CXE P w) 2 g gd ["numbers", "ways"] (spReadPens K cN)) : FnOk P w K mg base (CXE P w) 3 f fd ["numbers", "ways", "farms"] (spPff K cN) := by
  refine F.okE scPf (fun vs H Q E h => ?_) (fun cdv A outer s H vs Q E hr h => ?_)
  · obtain ⟨a, fa, ns, k, cs, rfl, _⟩ := h
    rfl
  · obtain ⟨a, fa, ns, k, cs, rfl, hs, hl, hk, hf, hc, hq, he⟩ := h
    refine ⟨_, pss_cons (ps_set (i := 3) scPf.nd rfl (Or.inl rfl) (pe_call GR hr (by rfl) mgR FR.kp bR .nil passes_def (pa_cons (pv 0) (pa_cons (pv 1) pa_nil))))
      (pss_cons (ps_if (pt_cmpR (op_neD hr.units) (pe_callB cr_sorted (by rfl) N.sorted PyProof.Rows.boot_sorted (pa_cons (pe_lc (own := [("farm", 4), ("runs", 5)]) rfl scPf.nd (pi_list (pv 3)) (blkOk_by (by rfl))
            (fun _ _ _ _ _ => by exact pg_tupK (K := K) (n := 2) rfl rfl (pgs_cons (pg_name (i := 4) scPf.nd rfl (Or.inl rfl)) (pgs_cons (pg_name (i := 5) scPf.nd rfl (Or.inl rfl)) pgs_nil))) (fun _ _ _ _ _ => pts_nil) (fun _ _ _ _ _ => by exact pv 4)) pa_nil))
          (pe_callTy (call_list_rng rfl) (by rfl) N.list PyProof.Rows.boot_list (pa_cons (pe_range1 (by rfl) N.range (pa_cons (pe_callB call_len_seq (by rfl) N.len PySem.boot_len (pa_cons (pv 2) pa_nil)) pa_nil)) pa_nil)) (nomark _))
        (pss_one (ps_raise c (by rfl) N.nap rfl throws_in)) pss_nil)
      (pss_one (ps_ret (pv 3)))), ?_⟩
    have line := sizeLine_eq
    refine ⟨_, rfl, _, rfl, a, ns, k, rfl, hs, hl, fun R hR H1 l s1 nl hP => ?_, fun hbad H1 s1 => he (fun t ht => ?_) H1 s1⟩
    case refine_2 =>
      cases e : Vbsyad.isPlan cs.length k t with
      | false => rfl
      | true => exact absurd (reads_to ht e).1 (hbad _)
    have hRl : R.length ≤ 32 := by
      have := mach_len ns.length ns (Nat.le_refl _) [] [] R [] hR
      simp at this
      omega
    obtain ⟨as, hla, hpa⟩ := id hP
    have hal : as.length = R.length := paired_len hpa
    refine ⟨_, rfl, l, rfl, ⟨_, SqL.of hla⟩, fun D hD => lc_list (K := K) (a := l) (xs := as.map V.ref) (fun i H2 => Same H1 H2 ∧ H2 D = some (.lst (((R.take i).map (·.1)).map V.int)))
      ⟨Same.new hD, upd_same⟩ (fun i H2 _ q => SqL.of (q.1 _ _ hla)) (fun i x H2 hx ⟨sm, hd⟩ => ?_) (fun H2 ⟨sm2, hd2⟩ => ?_)⟩
    · obtain ⟨b, hb, rfl⟩ := get_ref hx
      obtain ⟨q, hqi, hqb⟩ := paired_get hpa hb
      refine ⟨b, _, rfl, SqT.of (sm _ _ hqb), rfl, _, _, rfl, _, _, rfl, rfl, rfl, yes_of ?_⟩
      refine ⟨_, rfl, _, hd, ?_, sm.over hD, ?_⟩
      · rw [List.length_map, List.length_map, List.length_take, line]; omega
      · rw [upd_same, List.take_add_one, hqi, List.map_append, List.map_append]
        rfl
    rw [List.length_map, hal, List.take_length] at hd2
    refine ⟨D, R.map (·.1), rfl, SqL.of hd2, by rw [List.length_map]; omega, fun ns' p1 hperm hsort hp1 => ?_⟩
    have s3 := Same.new (o := .lst (ns'.map V.int)) hp1
    have sm3 : Same H (upd H2 p1 (.lst (ns'.map V.int))) := (s1.trans sm2).trans s3
    refine ⟨_, rfl, fa, _, rfl, .inl (sm3.seq hf), _, rfl, by rw [List.length_map]; omega, by rw [List.length_map]; omega, fun p2 hp2 => ⟨p2, _, rfl, upd_same, by rw [List.length_map]; omega, by rw [List.length_map]; omega, fun p3 hp3 => ?_⟩⟩
    have s4 := Same.new (o := .rng 0 ((cs.map nV).length : Int)) hp2
    have s5 := Same.new (o := .lst ((List.range ((cs.map nV).length : Int).toNat).map fun (i : Nat) => V.int (i : Int))) hp3
    have e3 : ((List.range ((cs.map nV).length : Int).toNat).map fun (i : Nat) => V.int (i : Int)) = (rangeI cs.length).map V.int := by
      unfold rangeI
      rw [List.map_map, List.length_map]
      rfl
    rw [e3] at s5 ⊢
    have sm5 := (sm3.trans s4).trans s5
    refine ⟨.list (ns'.map PyData.int), .list ((rangeI cs.length).map PyData.int), .lst (SqL.of (s5 _ _ (s4 _ _ upd_same))) (dp_ints _), .lst (SqL.of upd_same) (dp_ints _), shaped_ints _, shaped_ints _, _, rfl, ?_⟩
    have eeq : PyData.eqv (.list (ns'.map PyData.int)) (.list ((rangeI cs.length).map PyData.int)) = decide (ns' = rangeI cs.length) := by rw [PyData.eqv]; exact eqv_ints _ _
    rw [eeq]
    have hiff := sorted_range (n := cs.length) hperm hsort
    by_cases hyes : ns' = rangeI cs.length
    · rw [decide_eq_true hyes]
      obtain ⟨t, h1, h2, h3⟩ := reads_from hk hc hR (hiff.mp hyes)
      subst h3
      have sl : Same H1 _ := ((sm2.trans s3).trans s4).trans s5
      refine iteF ⟨_, rfl, hq t h1 h2 _ l sm5 nl ⟨as, sl _ _ hla, Paired.mapP hpa fun _ _ x => sl _ _ x⟩⟩
    · rw [decide_eq_false hyes]
      refine iteT (he (fun t ht => ?_) _ sm5)
      cases e : Vbsyad.isPlan cs.length k t with
      | false => rfl
      | true =>
        obtain ⟨g1, g2⟩ := reads_to ht e
        rw [hR] at g1
        have eR : R = lvI 0 t := congrArg Prod.fst (Option.some.inj g1)
        subst eR
        exact absurd (hiff.mpr g2) hyes
end
end Shed
end
section
set_option Elab.async false
set_option linter.all false
set_option maxRecDepth 100000
set_option maxHeartbeats 2000000
namespace L2
open PySem PySem.Spec PyProof.Rows
theorem Fun.okC {P : Program} {w : World} {K : PySem.W.Frag} {mg : Str → Option Value} {base : Heap} {x qual : Str} {st : Stmt} {f c : Addr} {fd : FuncData} {N ps : List Str} {k : Nat} {sp : Sp} (F : Fun K x qual st f fd) (hc : fd.code = .ref c) (S : FnScope N ps (defScope st)) (len : ∀ vs H Q E, sp vs H Q E → vs.length = ps.length)
    (hbody : ∀ (A : Around) (outer : List Env) (s : Shared) (H : Hp) (vs : List V) (Q : VK) (E : XK), Room k (A.deeper (envOfC qual (defScope st) s.heap.objs.size f (.ref c))) → sp vs H Q E →
      ∃ t, PSs (cxOf CX0 P w K mg base N qual (defScope st) f (.ref c) A outer s H E).nox (defBody st) t ∧ t { nx := fun _ H' => Q .non H', rt := Q } (start N vs) H) : FnOk P w K mg base CX0 (k + 1) f fd ps sp := by
  obtain ⟨oc, od, kV, doc, pm, an, cdv, ct, osl, rfl, lk, hcd⟩ := F.ex
  obtain rfl : cdv = .ref c := hc
  refine fn_of lk hcd S len fun A outer s H vs Q E hr hsp => ?_
  obtain ⟨t, h, q⟩ := hbody A outer s H vs Q E hr hsp
  exact ⟨t, h.nox, q⟩
end L2
namespace Shed
open PySem PySem.Spec PyProof.Rows L2
abbrev sPbs : Stmt := top 21
def lamOf (s : Stmt) : Pos := match defBody s with
  | [.Return (some (.Call _ _ [⟨_, .Lambda _ _ _ p, _⟩] _)) _] => p
  | _ => ⟨0, 0, 0, 0⟩
abbrev lamPos : Pos := lamOf sPbs
abbrev lamQual : Str := (("pens_by_sheep" : Str) ++ Str.ofString ".<locals>.") ++ Str.ofString "<lambda>"
abbrev Tab (T : Addr) (H : Hp) : Prop := LamTab H T lamPos lamQual
theorem PlanAt.but {C T : Addr} {H H' : Hp} {a : Addr} {p : Pl} (h : PlanAt C H a p) (x : Tab T H) (s : But T H H') : PlanAt C H' a p :=
  let ⟨dx, l, h1, h2⟩ := h
  ⟨dx, l, s _ _ (x.ne h1 fun _ z => nomatch z) h1, s _ _ (x.ne h2 fun _ z => nomatch z) h2⟩
theorem PlansAt.but {C T : Addr} {H H' : Hp} {as : List Addr} {ps : List Pl} (h : PlansAt C H as ps) (x : Tab T H) (s : But T H H') : PlansAt C H' as ps := Paired.mapP h fun _ _ y => y.but x s
theorem ints_inj : ∀ {a b : List Int}, a.map V.int = b.map V.int → a = b
  | [], [], _ => rfl
  | [], _ :: _, h => by cases h
  | _ :: _, [], h => by cases h
  | x :: a, y :: b, h => by
    rw [List.map_cons, List.map_cons] at h
    obtain ⟨h1, h2⟩ := List.cons.inj h
    cases h1
    rw [ints_inj h2]
theorem PlanAt.one {C : Addr} {H : Hp} {a : Addr} {p q : Pl} (h : PlanAt C H a p) (k : PlanAt C H a q) : p = q := by
  obtain ⟨dx, l, h1, h2⟩ := h
  obtain ⟨dx', l', k1, k2⟩ := k
  rw [h1] at k1
  have e := Option.some.inj k1
  injection e with _ _ e
  have e1 := planF_sheep (nV p.sheep) (nV p.cost) (.ref l)
  have e2 := planF_cost (nV p.sheep) (nV p.cost) (.ref l)
  have e3 := planF_numbers (nV p.sheep) (nV p.cost) (.ref l)
  rw [e] at e1 e2 e3
  rw [planF_sheep] at e1
  rw [planF_cost] at e2
  rw [planF_numbers] at e3
  have e1 : V.int (q.sheep : Int) = V.int (p.sheep : Int) := Option.some.inj e1
  have e2 : V.int (q.cost : Int) = V.int (p.cost : Int) := Option.some.inj e2
  have e3 : V.ref l' = V.ref l := Option.some.inj e3
  injection e1 with e1
  injection e2 with e2
  injection e3 with e3
  subst e3
  rw [h2] at k2
  have k2 := Option.some.inj k2
  injection k2 with k2
  have k2 := ints_inj k2
  obtain ⟨a1, a2, a3⟩ := p
  obtain ⟨b1, b2, b3⟩ := q
  dsimp only at e1 e2 k2
  rw [show b1 = a1 by omega, show b2 = a2 by omega, k2]
open Classical in
noncomputable def plOf (C : Addr) (H : Hp) (a : Addr) : Pl := if h : ∃ p, PlanAt C H a p then h.choose else ⟨0, 0, []⟩
theorem plOf_eq {C : Addr} {H : Hp} {a : Addr} {p : Pl} (h : PlanAt C H a p) : plOf C H a = p := by
  unfold plOf
  have e : ∃ p, PlanAt C H a p := ⟨p, h⟩
  rw [dif_pos e]
  exact e.choose_spec.one h
theorem PlansAt.map {C : Addr} {H : Hp} : ∀ {as : List Addr} {ps : List Pl}, PlansAt C H as ps → as.map (plOf C H) = ps
  | _, _, .nil => rfl
  | _, _, .cons r t => by rw [List.map_cons, plOf_eq r, PlansAt.map t]
theorem PlansAt.of {C : Addr} {H : Hp} : ∀ {as : List Addr}, (∀ a ∈ as, ∃ p, PlanAt C H a p) → PlansAt C H as (as.map (plOf C H))
  | [], _ => .nil
  | a :: as, h => by
    obtain ⟨p, hp⟩ := h a (by simp)
    rw [List.map_cons, plOf_eq hp]
    exact .cons hp (PlansAt.of fun b hb => h b (by simp [hb]))
theorem PlansAt.mem {C : Addr} {H : Hp} : ∀ {as : List Addr} {ps : List Pl}, PlansAt C H as ps → ∀ a ∈ as, ∃ p, PlanAt C H a p
  | _, _, .nil, _, h => by cases h
  | _, _, .cons r t, a, h => by
    rcases List.mem_cons.mp h with rfl | h
    · exact ⟨_, r⟩
    · exact PlansAt.mem t a h
theorem zip_self {α β : Type} (f : β → α) : ∀ l : List β, (l.map f).zip l = l.map fun x => (f x, x)
  | [] => rfl
  | x :: l => by rw [List.map_cons, List.zip_cons_cons, zip_self f l]; rfl
theorem plans_sorted {C : Addr} {H : Hp} {as : List Addr} {cs : List Nat} {qs : List (Int × Addr)} (hp : PlansAt C H as (pensP cs)) (hperm : qs.Perm (((pensP cs).map fun p => (p.sheep : Int)).zip as)) (hs : qs.Pairwise (fun x y => x.1 ≤ y.1))
    (hst : ∀ c : Int, qs.filter (fun p => p.1 == c) = (((pensP cs).map fun p => (p.sheep : Int)).zip as).filter (fun p => p.1 == c)) : PlansAt C H (qs.map (·.2)) ((Vbsyad.piles cs).map (psi cs)) := by
  have hm := hp.map
  have key : qs.map (fun q => (q.1, plOf C H q.2)) = (Vbsyad.piles cs).map fun x => ((x.1 : Int), psi cs x) := by
    refine stable_unique ?_ ?_ fun c => ?_
    · rw [List.pairwise_map]
      exact hs
    · rw [List.pairwise_map]
      exact (piles_ok cs).1.imp fun h => by simpa using h
    · have e1 : (qs.map fun q => (q.1, plOf C H q.2)).filter (fun p => p.1 == c) = (qs.filter fun p => p.1 == c).map fun q => (q.1, plOf C H q.2) := by rw [List.filter_map]; rfl
      have e2 : ((((pensP cs).map fun p => (p.sheep : Int)).zip as).filter (fun p => p.1 == c)).map (fun q => (q.1, plOf C H q.2)) = ((((pensP cs).map fun p => (p.sheep : Int)).zip as).map fun q => (q.1, plOf C H q.2)).filter (fun p => p.1 == c) := by rw [List.filter_map]; rfl
      have e3 : (((pensP cs).map fun p => (p.sheep : Int)).zip as).map (fun q => (q.1, plOf C H q.2)) = (pensP cs).map fun p => ((p.sheep : Int), p) := by
        rw [← zip_self]
        conv => rhs; arg 2; rw [← hm]
        rw [List.zip_map_right]
        rfl
      rw [e1, hst, e2, e3]
      have e4 : ((Vbsyad.piles cs).map fun x => ((x.1 : Int), psi cs x)).filter (fun p => p.1 == c) = ((Vbsyad.piles cs).filter fun x => (x.1 : Int) == c).map fun x => ((x.1 : Int), psi cs x) := by rw [List.filter_map]; rfl
      have e5 : ((pensP cs).map fun p => ((p.sheep : Int), p)).filter (fun p => p.1 == c) = ((cs.zipIdx.map fun x => (x.1, Vbsyad.Tree.pen x.2)).filter fun x => (x.1 : Int) == c).map fun x => ((x.1 : Int), psi cs x) := by
        rw [show (pensP cs).map (fun p => ((p.sheep : Int), p)) = (cs.zipIdx.map fun x => (x.1, Vbsyad.Tree.pen x.2)).map fun x => ((x.1 : Int), psi cs x) by unfold pensP; rw [List.map_map, List.map_map]; rfl, List.filter_map]
        rfl
      rw [e4, e5]
      congr 1
      cases c with
      | ofNat n =>
        have e6 : (fun x : Nat × Vbsyad.Tree => (x.1 : Int) == Int.ofNat n) = fun x => x.1 == n := by
          funext x
          rw [Bool.eq_iff_iff]
          simp
          omega
        rw [e6]
        exact (piles_filter cs n).symm
      | negSucc n =>
        have e6 : ∀ l : List (Nat × Vbsyad.Tree), l.filter (fun x => (x.1 : Int) == Int.negSucc n) = [] := fun l => List.filter_eq_nil_iff.mpr fun x _ => by
          simp
        rw [e6, e6]
  have e : (Vbsyad.piles cs).map (psi cs) = (qs.map (·.2)).map (plOf C H) := by
    have := congrArg (List.map Prod.snd) key
    rw [List.map_map, List.map_map] at this
    rw [List.map_map]
    exact this.symm
  rw [e]
  refine PlansAt.of fun a ha => ?_
  obtain ⟨q, hq, rfl⟩ := List.mem_map.mp ha
  exact hp.mem _ (List.of_mem_zip (show (q.1, q.2) ∈ _ from hperm.mem_iff.mp hq)).2
section
variable {P : Program} {w : World} {K : PySem.W.Frag} {mg : Str → Option Value} {base : Heap} {cO cN C T : Addr}
def spPbs (K : PySem.W.Frag) (C T : Addr) : Sp := fun vs H Q _ => ∃ (a : Addr) (cs : List Nat), vs = [.ref a] ∧ SqL K H a (cs.map nV) ∧ cs.length ≤ 8 ∧ Tab T H ∧
  ∀ (H' : Hp) (l : Addr) (as : List Addr), But T H H' → Tab T H' → H l = none → H' l = some (.lst (as.map V.ref)) → PlansAt C H' as ((Vbsyad.piles cs).map (psi cs)) → Q (.ref l) H'
theorem scPb : FnScope ["farms"] ["farms"] (defScope sPbs) := ⟨rfl, rfl, rfl, by decide +kernel, rfl, by decide +kernel, by decide +kernel⟩
theorem ok_pbs {f g c : Addr} {fd gd : FuncData} (F : Fun K "pens_by_sheep" "pens_by_sheep" sPbs f fd) (hc : fd.code = .ref c) (hhd : PySem.W.codeHdIn K c T = true) (hbi : base.BuiltinsAt mg T) (N : Names mg cO cN) (TC : PlanCls K mg C)
    (mg1 : mg "pens_in_order" = some (.ref g)) (F1 : Fun K "pens_in_order" "pens_in_order" sPio g gd) (b1 : Binds K gd ["farms"] []) (G1 : FnOk P w K mg base CX0 3 g gd ["farms"] (spPio K C)) :
    FnOk P w K mg base CX0 4 f fd ["farms"] (spPbs K C T) := by
  refine F.okC hc scPb (fun vs H Q E h => ?_) (fun A outer s H vs Q E hr h => ?_)
  · obtain ⟨a, cs, rfl, _⟩ := h
    rfl
  · obtain ⟨a, cs, rfl, hs, hl, ht, k⟩ := h
    refine ⟨_, pss_one (ps_ret (pe_sortedF (c := c) (T := T) (C := C) (by rfl) N.sorted (pa_cons (pe_call G1 hr (by rfl) mg1 F1.kp b1 .nil pass0 (pa_cons (pv 0) pa_nil)) pa_nil) (by rfl) (by rfl) (by rfl) hhd hbi (fun _ _ _ _ => by rfl) (by rfl) (by rfl) (by rfl) (by rfl) (by decide +kernel) TC.cl TC.nS hr.depth)), ?_⟩
    refine ⟨_, rfl, a, cs, rfl, hs, hl, fun H1 l as s1 nl hl1 hp1 => ?_⟩
    have hlen : as.length = (pensP cs).length := paired_len hp1
    have pl := pensP_len cs
    refine ⟨l, as, (pensP cs).map fun p => (p.sheep : Int), rfl, SqL.of hl1, by omega, by rw [List.length_map]; omega, fun i b z h1 h2 => ?_, ht.same s1, fun D qs H2 h1 h2 h3 t2 bt nD hD => ?_⟩
    · obtain ⟨p, hp, dx, ln, h3, h4⟩ := hp1.get h1
      rw [List.getElem?_map, hp] at h2
      have e := Option.some.inj h2
      subst e
      exact ⟨dx, _, h3, planF_sheep _ _ _⟩
    · exact k H2 D (qs.map (·.2)) (s1.but.trans bt) t2 (s1.free nD) hD (plans_sorted (hp1.but (ht.same s1) bt) h1 h2 h3)
end
end Shed
end
section
set_option Elab.async false
set_option linter.all false
set_option maxRecDepth 100000
set_option maxHeartbeats 2000000
namespace L2
open PySem PySem.Spec PyProof.Rows
def tJoin (t : TS) : TS := fun D σ H => ∃ J : L2.St → Hp → Prop, (∀ σ' H', J σ' H' → D.nx σ' H') ∧ t { D with nx := J } σ H
theorem ps_join {X : Cx} {st : Stmt} {t : TS} (h : PS X st t) : PS X st (tJoin t) := fun pins s σ H D I ⟨J, hJ, hw⟩ => thn (h pins s σ H _ I hw) fun f s' x => by
  cases f with
  | next =>
    obtain ⟨σ', H', I', q⟩ := x
    exact ⟨σ', H', I', hJ _ _ q⟩
  | brk => exact x
  | cont => exact x
  | ret u => exact x
end L2
namespace Shed
open PySem PySem.Spec PyProof.Rows L2
abbrev sLp : Stmt := top 24
abbrev sLpw : Stmt := top 30
def tot (ps : List Pl) : Nat := (ps.map fun p => p.nums.length + 1).sum
theorem tot_app (a b : List Pl) : tot (a ++ b) = tot a + tot b := by unfold tot; rw [List.map_append, List.sum_append]
theorem tot_cons (p : Pl) (b : List Pl) : tot (p :: b) = p.nums.length + 1 + tot b := by unfold tot; rw [List.map_cons, List.sum_cons]
theorem tot_mem {p : Pl} : ∀ {ps : List Pl}, p ∈ ps → p.nums.length + 1 ≤ tot ps
  | q :: ps, h => by
    rw [tot_cons]
    rcases List.mem_cons.mp h with rfl | h
    · omega
    · have := tot_mem h
      omega
theorem flat_tot : ∀ l : List Pl, (l.flatMap (·.nums)).length + l.length = tot l
  | [] => rfl
  | p :: l => by
    have := flat_tot l
    rw [tot_cons, List.flatMap_cons, List.length_append, List.length_cons]
    omega
theorem join_tot (l : List Pl) : (joinP l).nums.length + 1 + l.length = tot l + 2 := by
  have := flat_tot l
  show ((l.length : Int) :: l.flatMap (·.nums)).length + 1 + l.length = _
  rw [List.length_cons]
  omega
theorem insP_tot (x : Pl) (r : List Pl) : tot (insP x r) = x.nums.length + 1 + tot r := by
  unfold insP
  rw [tot_app, tot_cons]
  have : tot (r.take (r.filter fun p => decide (p.sheep ≤ x.sheep)).length) + tot (r.drop (r.filter fun p => decide (p.sheep ≤ x.sheep)).length) = tot r := by rw [← tot_app, List.take_append_drop]
  omega
theorem insP_len (x : Pl) (r : List Pl) : (insP x r).length = r.length + 1 := by
  unfold insP
  rw [List.length_append, List.length_cons, List.length_take, List.length_drop]
  have := List.length_filter_le (fun p : Pl => decide (p.sheep ≤ x.sheep)) r
  omega
theorem wfj_len {ps : List Pl} {k : Nat} (h : k ≤ ps.length) : (wfj ps k).length + k = ps.length + 1 := by
  unfold wfj
  rw [insP_len, List.length_drop]
  omega
theorem wfj_tot {ps : List Pl} {k : Nat} (h : k ≤ ps.length) (h2 : 2 ≤ k) : tot (wfj ps k) ≤ tot ps := by
  unfold wfj
  rw [insP_tot]
  have h1 := join_tot (ps.take k)
  have h3 : tot (ps.take k) + tot (ps.drop k) = tot ps := by rw [← tot_app, List.take_append_drop]
  have h4 : (ps.take k).length = k := by rw [List.length_take]; omega
  omega
theorem piles_tot (cs : List Nat) : tot ((Vbsyad.piles cs).map (psi cs)) = 3 * cs.length := by
  have h := ((piles_ok cs).2.2.map (psi cs)).map (fun p : Pl => p.nums.length + 1)
  have e : tot ((Vbsyad.piles cs).map (psi cs)) = (((cs.zipIdx.map fun x => (x.1, Vbsyad.Tree.pen x.2)).map (psi cs)).map fun p : Pl => p.nums.length + 1).sum := h.sum_nat
  rw [e, List.map_map, List.map_map]
  have : ∀ l : List (Nat × Nat), (l.map (((fun p : Pl => p.nums.length + 1) ∘ psi cs) ∘ fun x => (x.1, Vbsyad.Tree.pen x.2))).sum = 3 * l.length := fun l => by
    induction l with
    | nil => rfl
    | cons x l ih =>
      rw [List.map_cons, List.sum_cons, ih, List.length_cons]
      show (2 + 1) + 3 * l.length = _
      omega
  rw [this, List.length_zipIdx]
section
variable {P : Program} {w : World} {K : PySem.W.Frag} {mg : Str → Option Value} {base : Heap} {cO cN C T : Addr}
def spLp (K : PySem.W.Frag) (C T : Addr) : Sp := fun vs H Q _ => ∃ (a : Addr) (k : Nat) (cs : List Nat), vs = [.ref a, nV k] ∧ SqL K H a (cs.map nV) ∧ 0 < cs.length ∧ cs.length ≤ 8 ∧ (k = 2 ∨ k = 3) ∧ Tab T H ∧
  ∀ (H' : Hp) (b : Addr) (sh : Nat), But T H H' → Tab T H' → PlanAt C H' b (psi cs (sh, Vbsyad.leastTree k cs)) → Q (.ref b) H'
theorem scLp : FnScope ["farms", "ways", "plans"] ["farms", "ways"] (defScope sLp) := ⟨rfl, rfl, rfl, by decide +kernel, rfl, by decide +kernel, by decide +kernel⟩
theorem ok_lp {f g1 g2 : Addr} {fd gd1 gd2 : FuncData} (F : Fun K "least_plan" "least_plan" sLp f fd) (N : Names mg cO cN)
    (mg1 : mg "pens_by_sheep" = some (.ref g1)) (F1 : Fun K "pens_by_sheep" "pens_by_sheep" sPbs g1 gd1) (b1 : Binds K gd1 ["farms"] []) (G1 : FnOk P w K mg base CX0 4 g1 gd1 ["farms"] (spPbs K C T))
    (mg2 : mg "with_first_joined" = some (.ref g2)) (F2 : Fun K "with_first_joined" "with_first_joined" sWfj g2 gd2) (b2 : Binds K gd2 ["plans", "ways"] []) (G2 : FnOk P w K mg base CX0 4 g2 gd2 ["plans", "ways"] (spWfj K C)) :
    FnOk P w K mg base CX0 5 f fd ["farms", "ways"] (spLp K C T) := by
  refine F.ok scLp (fun vs H Q E h => ?_) (fun cdv A outer s H vs Q E hr h => ?_)
  · obtain ⟨a, k, cs, rfl, _⟩ := h
    rfl
  · obtain ⟨a, kk, cs, rfl, hs, h0, hl, hkk, ht, k⟩ := h
    have hk2 : 2 ≤ kk := by omega
    refine ⟨_, pss_cons (ps_set (i := 2) scLp.nd rfl (Or.inl rfl) (pe_call G1 hr (by rfl) mg1 F1.kp b1 .nil pass0 (pa_cons (pv 0) pa_nil)))
      (pss_cons (ps_join (ps_if (pw_and (pt_cmpR op_eq (pv 1) pe_int (nomark _)) (pw_and1 (pt_cmpR op_eq (pe_op op_mod (pe_callB call_len_seq (by rfl) N.len PySem.boot_len (pa_cons (pv 2) pa_nil)) pe_int) pe_int (nomark _)))).pt
        (pss_one (ps_set (i := 2) scLp.nd rfl (Or.inl rfl) (pe_call G2 hr (by rfl) mg2 F2.kp b2 .nil pass0 (pa_cons (pv 2) (pa_cons pe_int pa_nil))))) pss_nil))
      (pss_cons (ps_while PassesOwn.never (pt_cmpR op_gt (pe_callB call_len_seq (by rfl) N.len PySem.boot_len (pa_cons (pv 2) pa_nil)) pe_int (nomark _))
        (pss_one (ps_set (i := 2) scLp.nd rfl (Or.inl rfl) (pe_call G2 hr (by rfl) mg2 F2.kp b2 .nil pass0 (pa_cons (pv 2) (pa_cons (pv 1) pa_nil))))))
      (pss_one (ps_ret (pe_ix ix_list (pv 2) pe_int (fun _ _ => rfl)))))), ?_⟩
    refine ⟨_, rfl, a, cs, rfl, hs, hl, ht, fun H1 l as bt1 t1 nl hl1 hp1 => ?_⟩
    have plen := piles_len cs
    have len1 : ((Vbsyad.piles cs).map (psi cs)).length = cs.length := by rw [List.length_map]; exact plen
    have hal : as.length = cs.length := (paired_len hp1).trans len1
    have tot1 := piles_tot cs
    refine ⟨fun σ H' => ∃ (l' : Addr) (as' : List Addr) (ps : List Pl), σ = [some (.ref a), some (nV kk), some (.ref l')] ∧ Same H1 H' ∧ H' l' = some (.lst (as'.map V.ref)) ∧ PlansAt C H' as' ps ∧ ps = leastStart kk ((Vbsyad.piles cs).map (psi cs)) ∧
      1 ≤ ps.length ∧ ps.length ≤ cs.length ∧ tot ps ≤ 24 ∧ (kk = 3 → ps.length % 2 = 1), ?_, ?_⟩
    · rintro σ H2 ⟨l2, as2, ps2, rfl, sm2, hl2, hp2, e2, n1, n2, n3, n4⟩
      have hfin : ∃ sh, leastLoop kk cs.length ps2 = [psi cs (sh, Vbsyad.leastTree kk cs)] := by rw [e2]; exact least_plan hkk h0
      refine while_turn
        (fun m σ H' => ∃ (l' : Addr) (as' : List Addr) (ps : List Pl) (fu : Nat), σ = [some (.ref a), some (nV kk), some (.ref l')] ∧ Same H1 H' ∧ H' l' = some (.lst (as'.map V.ref)) ∧ PlansAt C H' as' ps ∧ leastLoop kk fu ps = leastLoop kk cs.length ps2 ∧ m = ps.length ∧
          1 ≤ ps.length ∧ ps.length ≤ fu ∧ ps.length ≤ 8 ∧ tot ps ≤ 24 ∧ (kk = 3 → ps.length % 2 = 1))
        (fun m σ H' => ∃ (l' : Addr) (as' : List Addr) (ps : List Pl) (fu : Nat), σ = [some (.ref a), some (nV kk), some (.ref l')] ∧ Same H1 H' ∧ H' l' = some (.lst (as'.map V.ref)) ∧ PlansAt C H' as' ps ∧ leastLoop kk fu ps = leastLoop kk cs.length ps2 ∧ m = ps.length ∧
          1 < ps.length ∧ ps.length ≤ fu ∧ ps.length ≤ 8 ∧ tot ps ≤ 24 ∧ (kk = 3 → ps.length % 2 = 1))
        (fun σ H' => ∃ (l' : Addr) (b : Addr) (sh : Nat), σ = [some (.ref a), some (nV kk), some (.ref l')] ∧ Same H1 H' ∧ H' l' = some (.lst [V.ref b]) ∧ PlanAt C H' b (psi cs (sh, Vbsyad.leastTree kk cs)))
        ⟨_, l2, as2, ps2, cs.length, rfl, sm2, hl2, hp2, rfl, rfl, n1, n2, by omega, n3, n4⟩ ?_ ?_ ?_
      · rintro m σ H' ⟨l', as', ps, fu, rfl, sm, hl', hp', e, rfl, m1, m2, m3, m4, m5⟩ R hB hA
        have hlen : as'.length = ps.length := paired_len hp'
        refine ⟨_, rfl, l', _, rfl, .inl (SqL.of hl'), _, _, rfl, rfl, _, rfl, ?_⟩
        rw [List.length_map]
        by_cases q : 1 < ps.length
        · rw [decide_eq_true (by omega)]
          exact hB ⟨l', as', ps, fu, rfl, sm, hl', hp', e, rfl, q, m2, m3, m4, m5⟩
        · rw [decide_eq_false (by omega)]
          refine hA ?_
          obtain ⟨sh, hsh⟩ := hfin
          have e3 : leastLoop kk fu ps = ps := by
            cases fu with
            | zero => rfl
            | succ n => unfold leastLoop; rw [if_neg q]
          rw [e3, hsh] at e
          subst e
          cases hp' with
          | cons r t =>
            cases t
            exact ⟨l', _, sh, rfl, sm, hl', r⟩
      · rintro m σ H' ⟨l', as', ps, fu, rfl, sm, hl', hp', e, rfl, m1, m2, m3, m4, m5⟩
        have hk : kk ≤ ps.length := by
          rcases hkk with q | q
          · omega
          · have := m5 q; omega
        refine ⟨_, rfl, _, rfl, l', as', ps, kk, rfl, SqL.of hl', hp', m3, hk, fun p hp => by have := tot_mem hp; omega, fun H3 l3 as3 s3 nl3 hl3 hp3 => ?_⟩
        have wl := wfj_len hk
        have wt := wfj_tot hk hk2
        refine ⟨_, ?_, l3, as3, wfj ps kk, fu - 1, rfl, sm.trans s3, hl3, hp3, ?_, rfl, by omega, by omega, by omega, by omega, fun q => by have := m5 q; omega⟩
        · omega
        · rw [← e]
          obtain ⟨n, rfl⟩ : ∃ n, fu = n + 1 := ⟨fu - 1, by omega⟩
          conv => rhs; unfold leastLoop
          rw [if_pos m1]
          rfl
      · rintro σ H' ⟨l', b, sh, rfl, sm, hl', hb⟩
        refine ⟨_, rfl, l', _, _, _, rfl, rfl, SqL.of hl', rfl, ?_⟩
        exact k H' b sh (bt1.trans sm.but) (t1.same sm) hb
    · refine ⟨_, rfl, rfl, ?_⟩
      refine ⟨_, rfl, ?_⟩
      have e3 : decide (nV kk = V.int 3) = decide (kk = 3) := by
        rw [Bool.eq_iff_iff]
        simp only [decide_eq_true_eq]
        constructor
        · intro h
          have : (kk : Int) = 3 := by injection h
          omega
        · rintro rfl; rfl
      rw [e3]
      have stay : ¬ (kk = 3 ∧ ((Vbsyad.piles cs).map (psi cs)).length % 2 = 0) → ∃ (l' : Addr) (as' : List Addr) (ps : List Pl), [some (.ref a), some (nV kk), some (V.ref l)] = [some (V.ref a), some (nV kk), some (.ref l')] ∧ Same H1 H1 ∧ H1 l' = some (.lst (as'.map V.ref)) ∧ PlansAt C H1 as' ps ∧ ps = leastStart kk ((Vbsyad.piles cs).map (psi cs)) ∧
          1 ≤ ps.length ∧ ps.length ≤ cs.length ∧ tot ps ≤ 24 ∧ (kk = 3 → ps.length % 2 = 1) := fun q => by
        refine ⟨l, as, _, rfl, Same.refl H1, hl1, hp1, ?_, by omega, by omega, by omega, fun z => ?_⟩
        · unfold leastStart
          rw [if_neg q]
        · have : ¬ ((Vbsyad.piles cs).map (psi cs)).length % 2 = 0 := fun y => q ⟨z, y⟩
          omega
      refine ite2 (fun h => ?_) (fun h => ?_)
      · have h3 : kk = 3 := of_decide_eq_true h
        refine ⟨_, rfl, l, _, rfl, .inl (SqL.of hl1), _, _, rfl, rfl, (by show (0 : Int) < 2; decide), rfl, _, rfl, ?_⟩
        rw [List.length_map, hal]
        refine ite2 (fun h => ?_) (fun h => ?_)
        · have h : decide (V.int ((cs.length : Int) % 2) = V.int 0) = true := h
          have hm : cs.length % 2 = 0 := by
            have := of_decide_eq_true h
            injection this with this
            omega
          have h2le : 2 ≤ ((Vbsyad.piles cs).map (psi cs)).length := by omega
          refine ⟨_, rfl, l, as, _, 2, rfl, SqL.of hl1, hp1, by omega, h2le, fun p hp => by have := tot_mem hp; omega, fun H2 l2 as2 s2 nl2 hl2 hp2 => ?_⟩
          have wl := wfj_len h2le
          have wt := wfj_tot h2le (Nat.le_refl 2)
          refine ⟨l2, as2, _, rfl, s2, hl2, hp2, ?_, by omega, by omega, by omega, fun _ => by omega⟩
          unfold leastStart
          rw [if_pos ⟨h3, by omega⟩]
        · have h : ¬ decide (V.int ((cs.length : Int) % 2) = V.int 0) = true := h
          exact stay fun ⟨_, z⟩ => h (decide_eq_true (by rw [show ((cs.length : Int) % 2) = 0 by omega]))
      · exact iteF (stay fun ⟨z, _⟩ => h (decide_eq_true z))
def spLpw (K : PySem.W.Frag) (C T : Addr) : Sp := fun vs H Q _ => ∃ (a : Addr) (k m : Nat) (cs : List Nat), vs = [.ref a, nV k, nV m] ∧ SqL K H a (cs.map nV) ∧ 0 < cs.length ∧ cs.length ≤ 8 ∧ (k = 2 ∨ k = 3) ∧ m ≤ 8 ∧ Tab T H ∧
  ∀ (H' : Hp) (v : V) (o : Option Pl), But T H H' → Tab T H' → ChAt C H' v o → o.map (·.cost) = Vbsyad.within k m cs → Q v H'
theorem scLw : FnScope ["farms", "ways", "most"] ["farms", "ways", "most"] (defScope sLpw) := ⟨rfl, rfl, rfl, by decide +kernel, rfl, by decide +kernel, by decide +kernel⟩
theorem ok_lpw {f g1 g2 : Addr} {fd gd1 gd2 : FuncData} (F : Fun K "least_plan_within" "least_plan_within" sLpw f fd)
    (mg1 : mg "least_keeping_order" = some (.ref g1)) (F1 : Fun K "least_keeping_order" "least_keeping_order" sLko g1 gd1) (b1 : Binds K gd1 ["pens", "ways", "most"] []) (G1 : FnOk P w K mg base CX0 6 g1 gd1 ["pens", "ways", "most"] (spLko K C))
    (mg2 : mg "pens_by_sheep" = some (.ref g2)) (F2 : Fun K "pens_by_sheep" "pens_by_sheep" sPbs g2 gd2) (b2 : Binds K gd2 ["farms"] []) (G2 : FnOk P w K mg base CX0 4 g2 gd2 ["farms"] (spPbs K C T)) :
    FnOk P w K mg base CX0 7 f fd ["farms", "ways", "most"] (spLpw K C T) := by
  refine F.ok scLw (fun vs H Q E h => ?_) (fun cdv A outer s H vs Q E hr h => ?_)
  · obtain ⟨a, k, m, cs, rfl, _⟩ := h
    rfl
  · obtain ⟨a, kk, m, cs, rfl, hs, h0, hl, hkk, hm, ht, k⟩ := h
    have hr4 : Room 4 _ := hr.mono (by decide)
    refine ⟨_, pss_one (ps_ret (pe_call G1 hr (by rfl) mg1 F1.kp b1 .nil pass0 (pa_cons (pe_call G2 hr4 (by rfl) mg2 F2.kp b2 .nil pass0 (pa_cons (pv 0) pa_nil)) (pa_cons (pv 1) (pa_cons (pv 2) pa_nil))))), ?_⟩
    refine ⟨_, rfl, a, cs, rfl, hs, hl, ht, fun H1 l as bt1 t1 nl hl1 hp1 => ?_⟩
    obtain ⟨p1, p2, p3⟩ := piles_ok cs
    have plen := piles_len cs
    have tot1 : ∀ p ∈ (Vbsyad.piles cs).map (psi cs), p.nums.length ≤ 2 ∧ p.cost = 0 := fun p hp => by
      have := (p3.map (psi cs)).mem_iff.mp hp
      rw [List.map_map] at this
      obtain ⟨x, _, rfl⟩ := List.mem_map.mp this
      exact ⟨Nat.le_refl _, rfl⟩
    have len1 : ((Vbsyad.piles cs).map (psi cs)).length = cs.length := by rw [List.length_map]; exact plen
    refine ⟨_, rfl, _, rfl, l, kk, m, as, (Vbsyad.piles cs).map (psi cs), rfl, SqL.of hl1, hp1, by omega, fun p hp => (tot1 p hp).1, hm, fun H2 v s2 hch => ?_⟩
    refine k H2 v _ (bt1.trans s2.but) (t1.same s2) hch ?_
    rw [len1]
    refine within_lvl hkk (fun p hp => (tot1 p hp).2) ?_ ?_ h0
    · rw [List.map_map]
      show List.Pairwise _ _
      rw [List.pairwise_map]
      exact p1
    · rw [List.map_map]
      refine (p3.map _).trans ?_
      rw [List.map_map]
      show ((cs.zipIdx.map fun x => x.1)).Perm cs
      rw [List.zipIdx_map_fst]
end
end Shed
end
section
set_option Elab.async false
set_option linter.all false
set_option maxRecDepth 100000
set_option maxHeartbeats 2000000
namespace L2
open PySem PySem.Spec PyProof.Rows
structure Def (P : Program) (w : World) (K : PySem.W.Frag) (mg : Str → Option Value) (base : Heap) (CX : CXT) (k : Nat) (x : Str) (st : Stmt) (ps : List Str) (sp : Sp) : Prop where
  ex : ∃ (g : Addr) (gd : FuncData), mg x = some (.ref g) ∧ Fun K x x st g gd ∧ Binds K gd ps [] ∧ FnOk P w K mg base CX k g gd ps sp
theorem Def.cx {P : Program} {w : World} {K : PySem.W.Frag} {mg : Str → Option Value} {base : Heap} {CX : CXT} {k : Nat} {x : Str} {st : Stmt} {ps : List Str} {sp : Sp} (d : Def P w K mg base CX0 k x st ps sp) : Def P w K mg base CX k x st ps sp :=
  let ⟨g, gd, a, b, c, e⟩ := d.ex
  ⟨g, gd, a, b, c, e.cx⟩
end L2
namespace Shed
open PySem PySem.Spec PyProof.Rows L2
open Vbsyad (State step)
structure Good (s : State) : Prop where
  n1 : 1 ≤ s.counts.length
  n8 : s.counts.length ≤ 8
  c : ∀ x ∈ s.counts, x ≤ 1000
  r40 : s.row.length ≤ 40
  r : ∀ x ∈ s.row, x < s.counts.length
  p : s.pens.length = s.counts.length
  pl : ∀ l ∈ s.pens, l.length = s.pens.length
structure FlockCls (K : PySem.W.Frag) (mg : Str → Option Value) (F : Addr) : Prop where
  cl : Cls K F
  nF : NoAttr K F "farms"
  nR : NoAttr K F "row"
  nP : NoAttr K F "pens"
  mgF : mg "Flock" = some (.ref F)
abbrev RowsOn (H : Hp) : List Addr → List (List Nat) → Prop := Paired fun (a : Addr) (l : List Nat) => H a = some (.lst (l.map nV))
theorem RowsOn.same {H H' : Hp} {as : List Addr} {ps : List (List Nat)} (h : RowsOn H as ps) (s : Same H H') : RowsOn H' as ps := Paired.mapP h fun _ _ x => s _ _ x
structure Whole (H : Hp) (fs : List (Str × V)) (s : State) : Prop extends Good s where
  nb : fs.lookup ("begin_with" : Str) = none
  pens : ∃ (pa : Addr) (as : List Addr), fs.lookup ("pens" : Str) = some (V.ref pa) ∧ H pa = some (.lst (as.map V.ref)) ∧ RowsOn H as s.pens
theorem Whole.keep {H H' : Hp} {fs : List (Str × V)} {s : State} (h : Whole H fs s) (k : ∀ b xs, H b = some (.lst xs) → H' b = some (.lst xs)) : Whole H' fs s := by
  obtain ⟨pa, as, h1, h2, h3⟩ := h.pens
  exact ⟨h.toGood, h.nb, pa, as, h1, k _ _ h2, Paired.mapP h3 fun _ _ x => k _ _ x⟩
def FlockAt (F : Addr) (H : Hp) (fl : Addr) (s : State) : Prop := ∃ (dx : Addr) (fs : List (Str × V)) (a r : Addr), H fl = some (.ins F dx fs) ∧ fs.length ≤ 10 ∧ fs.lookup ("farms" : Str) = some (V.ref a) ∧ H a = some (.lst (s.counts.map nV)) ∧
  fs.lookup ("row" : Str) = some (V.ref r) ∧ H r = some (.lst (s.row.map nV)) ∧ Whole H fs s
theorem FlockAt.but {F T : Addr} {H H' : Hp} {fl : Addr} {s : State} (h : FlockAt F H fl s) (x : Tab T H) (b : But T H H') : FlockAt F H' fl s := by
  obtain ⟨dx, fs, a, r, h1, h2, h3, h4, h5, h6, h7⟩ := h
  exact ⟨dx, fs, a, r, b _ _ (x.ne h1 fun _ z => nomatch z) h1, h2, h3, b _ _ (x.ne h4 fun _ z => nomatch z) h4, h5, b _ _ (x.ne h6 fun _ z => nomatch z) h6, h7.keep fun _ _ e => b _ _ (x.ne e fun _ z => nomatch z) e⟩
theorem FlockAt.same {F : Addr} {H H' : Hp} {fl : Addr} {s : State} (h : FlockAt F H fl s) (b : Same H H') : FlockAt F H' fl s := by
  obtain ⟨dx, fs, a, r, h1, h2, h3, h4, h5, h6, h7⟩ := h
  exact ⟨dx, fs, a, r, b _ _ h1, h2, h3, b _ _ h4, h5, b _ _ h6, h7.keep fun _ _ e => b _ _ e⟩
def Kept (T fl : Addr) (H H' : Hp) : Prop := ∀ b o, b ≠ T → b ≠ fl → H b = some o → H' b = some o
theorem Kept.trans {T fl : Addr} {H H1 H2 : Hp} (a : Kept T fl H H1) (b : Kept T fl H1 H2) : Kept T fl H H2 := fun c o n m e => b c o n m (a c o n m e)
theorem _root_.L2.But.kept {T fl : Addr} {H H' : Hp} (a : But T H H') : Kept T fl H H' := fun b o n _ e => a b o n e
theorem _root_.L2.Same.kept {T fl : Addr} {H H' : Hp} (a : Same H H') : Kept T fl H H' := fun b o _ _ e => a b o e
structure Pre (K : PySem.W.Frag) (F T : Addr) (H : Hp) (fl tl gl : Addr) (s : State) (told given : List Int) : Prop where
  flock : FlockAt F H fl s
  tab : Tab T H
  hTold : SqL K H tl (told.map V.int)
  hGiven : SqL K H gl (given.map V.int)
  few : given.length ≤ 64
structure Post (F T cO cN : Addr) (H : Hp) (fl : Addr) (s : State) (r : State × List Int) (Q : VK) (E : XK) : Prop where
  ok : ∀ (H' : Hp) (l : Addr), Kept T fl H H' → Tab T H' → FlockAt F H' fl r.1 → H' l = some (.lst (r.2.map V.int)) → Q (.ref l) H'
  oor : r = (s, [-1]) → ∀ H' : Hp, Kept T fl H H' → Tab T H' → FlockAt F H' fl s → E (.ref cO) none H'
  nap : r = (s, [-7]) → ∀ H' : Hp, Kept T fl H H' → Tab T H' → FlockAt F H' fl s → E (.ref cN) none H'
def spAns (K : PySem.W.Frag) (F T cO cN : Addr) (nt : Nat) (mk : List Int → List Int → List (List Int)) : Sp := fun vs H Q E => ∃ (fl tl gl : Addr) (s : State) (told given : List Int), vs = [.ref fl, .ref tl, .ref gl] ∧ Pre K F T H fl tl gl s told given ∧ told.length = nt ∧
  Post F T cO cN H fl s (step s (mk told given)) Q E
theorem spAns_len {K : PySem.W.Frag} {F T cO cN : Addr} {nt : Nat} {mk : List Int → List Int → List (List Int)} {vs : List V} {H : Hp} {Q : VK} {E : XK} (h : spAns K F T cO cN nt mk vs H Q E) : vs.length = 3 := by
  obtain ⟨_, _, _, _, _, _, rfl, _⟩ := h
  rfl
theorem gate_yes {w : Int} (h : 2 ≤ w ∧ w ≤ 3) : Vbsyad.isGate w = true := by
  unfold Vbsyad.isGate VbsyCore.isBetween
  rw [decide_eq_true h.1, decide_eq_true h.2]
  rfl
theorem gate_no {w : Int} (h : ¬ (2 ≤ w ∧ w ≤ 3)) : Vbsyad.isGate w = false := by
  unfold Vbsyad.isGate VbsyCore.isBetween
  cases e : (decide (2 ≤ w) && decide (w ≤ 3)) with
  | false => rfl
  | true =>
    simp only [Bool.and_eq_true, decide_eq_true_eq] at e
    exact absurd e h
theorem gate_nat {w : Int} (h : 2 ≤ w ∧ w ≤ 3) : (V.int w = nV w.toNat) ∧ (w.toNat = 2 ∨ w.toNat = 3) := by
  refine ⟨?_, by omega⟩
  unfold nV
  rw [Int.toNat_of_nonneg (by omega)]
section
variable {P : Program} {w : World} {K : PySem.W.Frag} {mg : Str → Option Value} {base : Heap} {cO cN C F T : Addr}
abbrev dWays (P : Program) (w : World) (K : PySem.W.Frag) (mg : Str → Option Value) (base : Heap) (cO : Addr) : Prop := Def P w K mg base (CXE P w) 2 "checked_ways" sCheckedWays ["told"] (spCheckedWays K cO)
abbrev dLp (P : Program) (w : World) (K : PySem.W.Frag) (mg : Str → Option Value) (base : Heap) (C T : Addr) : Prop := Def P w K mg base CX0 5 "least_plan" sLp ["farms", "ways"] (spLp K C T)
abbrev dLpio (P : Program) (w : World) (K : PySem.W.Frag) (mg : Str → Option Value) (base : Heap) (C : Addr) : Prop := Def P w K mg base CX0 7 "least_plan_in_order" sLpio ["farms", "ways"] (spLpio K C)
abbrev dLpw (P : Program) (w : World) (K : PySem.W.Frag) (mg : Str → Option Value) (base : Heap) (C T : Addr) : Prop := Def P w K mg base CX0 7 "least_plan_within" sLpw ["farms", "ways", "most"] (spLpw K C T)
abbrev dPff (P : Program) (w : World) (K : PySem.W.Frag) (mg : Str → Option Value) (base : Heap) (cN : Addr) : Prop := Def P w K mg base (CXE P w) 3 "pens_for_farms" sPff ["numbers", "ways", "farms"] (spPff K cN)
abbrev dCn (P : Program) (w : World) (K : PySem.W.Frag) (mg : Str → Option Value) (base : Heap) (cO : Addr) : Prop := Def P w K mg base (CXE P w) 1 "check_number" sCheckNumber ["number", "lowest", "highest"] (spCheckNumber cO)
abbrev dCl (P : Program) (w : World) (K : PySem.W.Frag) (mg : Str → Option Value) (base : Heap) (cO : Addr) : Prop := Def P w K mg base (CXE P w) 2 "check_list" sCheckList ["numbers", "fewest", "most", "highest"] (spCheckList K cO)
abbrev dRcb (P : Program) (w : World) (K : PySem.W.Frag) (mg : Str → Option Value) (base : Heap) : Prop := Def P w K mg base CX0 1 "runs_can_be" sRcb ["runs", "ways"] (spRcb K)
abbrev sALeast : Stmt := top 43
abbrev sATree : Stmt := top 44
abbrev sAOrd : Stmt := top 45
abbrev sAOtree : Stmt := top 46
abbrev sACost : Stmt := top 47
abbrev sADepths : Stmt := top 48
abbrev sACanbe : Stmt := top 49
abbrev sAWithin : Stmt := top 50
abbrev mk0 (n : Int) : List Int → List Int → List (List Int) := fun told _ => [n :: told]
abbrev mk1 (n : Int) : List Int → List Int → List (List Int) := fun told given => [n :: told, given]
theorem one_of {α : Type} {l : List α} (h : l.length = 1) : ∃ x, l = [x] := by
  match l, h with
  | [x], _ => exact ⟨x, rfl⟩
theorem two_of {α : Type} {l : List α} (h : l.length = 2) : ∃ x y, l = [x, y] := by
  match l, h with
  | [x, y], _ => exact ⟨x, y, rfl⟩
theorem scAL : FnScope ["flock", "told", "given"] ["flock", "told", "given"] (defScope sALeast) := ⟨rfl, rfl, rfl, by decide +kernel, rfl, by decide +kernel, by decide +kernel⟩
theorem ok_least {f : Addr} {fd : FuncData} (FF : Fun K "answer_least" "answer_least" sALeast f fd) (FC : FlockCls K mg F) (PC : PlanCls K mg C) (d1 : dWays P w K mg base cO) (d2 : dLp P w K mg base C T) :
    FnOk P w K mg base (CXE P w) 8 f fd ["flock", "told", "given"] (spAns K F T cO cN 1 (mk0 1)) := by
  obtain ⟨g1, gd1, mg1, F1, b1, G1⟩ := d1.ex
  obtain ⟨g2, gd2, mg2, F2, b2, G2⟩ := d2.cx.ex
  refine FF.okE scAL (fun vs H Q E h => spAns_len h) (fun cdv A outer s0 H vs Q E hr h => ?_)
  obtain ⟨fl, tl, gl, s, told, given, rfl, pre, ht, post⟩ := h
  obtain ⟨x, rfl⟩ := one_of ht
  obtain ⟨dx, fs, a, r, h1, h2, h3, h4, h5, h6, good⟩ := id pre.flock
  refine ⟨_, pss_one (ps_ret (pe_lst (pa_cons (pe_fld (pe_call G2 (hr.mono (by decide)) (by rfl) mg2 F2.kp b2 .nil passes_def (pa_cons (pe_fld (pv 0) rfl) (pa_cons (pe_call G1 (hr.mono (by decide)) (by rfl) mg1 F1.kp b1 .nil passes_def (pa_cons (pv 1) pa_nil)) pa_nil))) rfl) pa_nil))), ?_⟩
  refine ⟨_, rfl, fl, F, dx, fs, _, rfl, h1, FC.cl, FC.nF, h3, _, rfl, tl, x, [], rfl, pre.hTold, fun g1 g2 => ?_, fun g => post.oor ?_ H (Same.refl H).kept pre.tab pre.flock⟩
  · obtain ⟨e1, e2⟩ := gate_nat ⟨g1, g2⟩
    refine ⟨a, x.toNat, s.counts, by rw [e1]; rfl, SqL.of h4, good.n1, good.n8, e2, pre.tab, fun H' b sh bt tb hb => ?_⟩
    obtain ⟨dy, ln, k1, k2⟩ := hb
    refine ⟨b, C, dy, _, _, rfl, k1, PC.cl, PC.nC, planF_cost _ _ _, by show 1 ≤ sizeLine; decide, fun p hp => ?_⟩
    have sm := Same.new (o := .lst [nV (psi s.counts (sh, Vbsyad.leastTree x.toNat s.counts)).cost]) hp
    refine post.ok _ p (bt.trans sm.but).kept (tb.same sm) ?_ ?_
    · have : (step s (mk0 1 [x] given)).1 = s := by
        show (if Vbsyad.isGate x = false then _ else _ : State × List Int).1 = s
        rw [gate_yes ⟨g1, g2⟩]
        rfl
      rw [this]
      exact pre.flock.but pre.tab (bt.trans sm.but)
    · have : (step s (mk0 1 [x] given)).2 = [(Vbsyad.costOf s.counts (Vbsyad.leastTree x.toNat s.counts) : Int)] := by
        show (if Vbsyad.isGate x = false then _ else _ : State × List Int).2 = _
        rw [gate_yes ⟨g1, g2⟩]
        rfl
      rw [this, upd_same]
      rfl
  · show (if Vbsyad.isGate x = false then _ else _ : State × List Int) = _
    rw [gate_no g]
    rfl
end
end Shed
end
section
set_option Elab.async false
set_option linter.all false
set_option maxRecDepth 100000
set_option maxHeartbeats 2000000
namespace Shed
open PySem PySem.Spec PyProof.Rows L2
open Vbsyad (State step)
theorem step_in {s : State} {c : List (List Int)} {d : Vbsyad.Call} (hd : Vbsyad.decode c = some d) (hi : Vbsyad.inRange s d = true) : step s c = Vbsyad.act s d := by
  unfold Vbsyad.step
  rw [hd]
  show (if Vbsyad.inRange s d = false then _ else _) = _
  rw [hi]
  rfl
theorem step_out {s : State} {c : List (List Int)} {d : Vbsyad.Call} (hd : Vbsyad.decode c = some d) (hi : Vbsyad.inRange s d = false) : step s c = (s, [-1]) := by
  unfold Vbsyad.step
  rw [hd]
  show (if Vbsyad.inRange s d = false then _ else _) = _
  rw [hi]
  rfl
section
variable {P : Program} {w : World} {K : PySem.W.Frag} {mg : Str → Option Value} {base : Heap} {cO cN C F T : Addr}
theorem scAT : FnScope ["flock", "told", "given"] ["flock", "told", "given"] (defScope sATree) := ⟨rfl, rfl, rfl, by decide +kernel, rfl, by decide +kernel, by decide +kernel⟩
theorem ok_tree {f : Addr} {fd : FuncData} (FF : Fun K "answer_tree" "answer_tree" sATree f fd) (FC : FlockCls K mg F) (PC : PlanCls K mg C) (d1 : dWays P w K mg base cO) (d2 : dLp P w K mg base C T) :
    FnOk P w K mg base (CXE P w) 8 f fd ["flock", "told", "given"] (spAns K F T cO cN 1 (mk0 2)) := by
  obtain ⟨g1, gd1, mg1, F1, b1, G1⟩ := d1.ex
  obtain ⟨g2, gd2, mg2, F2, b2, G2⟩ := d2.cx.ex
  refine FF.okE scAT (fun vs H Q E h => spAns_len h) (fun cdv A outer s0 H vs Q E hr h => ?_)
  obtain ⟨fl, tl, gl, s, told, given, rfl, pre, ht, post⟩ := h
  obtain ⟨x, rfl⟩ := one_of ht
  obtain ⟨dx, fs, a, r, h1, h2, h3, h4, h5, h6, good⟩ := id pre.flock
  refine ⟨_, pss_one (ps_ret (pe_fld (pe_call G2 (hr.mono (by decide)) (by rfl) mg2 F2.kp b2 .nil passes_def (pa_cons (pe_fld (pv 0) rfl) (pa_cons (pe_call G1 (hr.mono (by decide)) (by rfl) mg1 F1.kp b1 .nil passes_def (pa_cons (pv 1) pa_nil)) pa_nil))) rfl)), ?_⟩
  refine ⟨_, rfl, fl, F, dx, fs, _, rfl, h1, FC.cl, FC.nF, h3, _, rfl, tl, x, [], rfl, pre.hTold, fun g1 g2 => ?_, fun g => post.oor ?_ H (Same.refl H).kept pre.tab pre.flock⟩
  · obtain ⟨e1, e2⟩ := gate_nat ⟨g1, g2⟩
    rw [step_in (d := .tree x) rfl (gate_yes ⟨g1, g2⟩)] at post
    refine ⟨a, x.toNat, s.counts, by rw [e1]; rfl, SqL.of h4, good.n1, good.n8, e2, pre.tab, fun H' b sh bt tb hb => ?_⟩
    obtain ⟨dy, ln, k1, k2⟩ := hb
    exact ⟨b, C, dy, _, _, rfl, k1, PC.cl, PC.nN, planF_numbers _ _ _, post.ok _ ln bt.kept tb (pre.flock.but pre.tab bt) k2⟩
  · exact step_out (d := .tree x) rfl (gate_no g)
theorem scAO : FnScope ["flock", "told", "given"] ["flock", "told", "given"] (defScope sAOrd) := ⟨rfl, rfl, rfl, by decide +kernel, rfl, by decide +kernel, by decide +kernel⟩
theorem ok_ordered {f : Addr} {fd : FuncData} (FF : Fun K "answer_ordered" "answer_ordered" sAOrd f fd) (FC : FlockCls K mg F) (PC : PlanCls K mg C) (d1 : dWays P w K mg base cO) (d2 : dLpio P w K mg base C) :
    FnOk P w K mg base (CXE P w) 8 f fd ["flock", "told", "given"] (spAns K F T cO cN 1 (mk0 3)) := by
  obtain ⟨g1, gd1, mg1, F1, b1, G1⟩ := d1.ex
  obtain ⟨g2, gd2, mg2, F2, b2, G2⟩ := d2.cx.ex
  refine FF.okE scAO (fun vs H Q E h => spAns_len h) (fun cdv A outer s0 H vs Q E hr h => ?_)
  obtain ⟨fl, tl, gl, s, told, given, rfl, pre, ht, post⟩ := h
  obtain ⟨x, rfl⟩ := one_of ht
  obtain ⟨dx, fs, a, r, h1, h2, h3, h4, h5, h6, good⟩ := id pre.flock
  refine ⟨_, pss_one (ps_ret (pe_lst (pa_cons (pe_fld (pe_call G2 (hr.mono (by decide)) (by rfl) mg2 F2.kp b2 .nil passes_def (pa_cons (pe_fld (pv 0) rfl) (pa_cons (pe_call G1 (hr.mono (by decide)) (by rfl) mg1 F1.kp b1 .nil passes_def (pa_cons (pv 1) pa_nil)) pa_nil))) rfl) pa_nil))), ?_⟩
  refine ⟨_, rfl, fl, F, dx, fs, _, rfl, h1, FC.cl, FC.nF, h3, _, rfl, tl, x, [], rfl, pre.hTold, fun g1 g2 => ?_, fun g => post.oor ?_ H (Same.refl H).kept pre.tab pre.flock⟩
  · obtain ⟨e1, e2⟩ := gate_nat ⟨g1, g2⟩
    rw [step_in (d := .ordered x) rfl (gate_yes ⟨g1, g2⟩)] at post
    refine ⟨a, x.toNat, s.counts, by rw [e1]; rfl, SqL.of h4, good.n1, good.n8, fun H' b sm0 hb => ?_⟩
    obtain ⟨dy, ln, k1, k2⟩ := hb
    refine ⟨b, C, dy, _, _, rfl, k1, PC.cl, PC.nC, planF_cost _ _ _, by show 1 ≤ sizeLine; decide, fun p hp => ?_⟩
    have sm := sm0.trans (Same.new (o := .lst [nV (phi s.counts.sum (Vbsyad.ordered x.toNat s.counts)).cost]) hp)
    exact post.ok _ p sm.kept (pre.tab.same sm) (pre.flock.same sm) upd_same
  · exact step_out (d := .ordered x) rfl (gate_no g)
theorem scAOt : FnScope ["flock", "told", "given"] ["flock", "told", "given"] (defScope sAOtree) := ⟨rfl, rfl, rfl, by decide +kernel, rfl, by decide +kernel, by decide +kernel⟩
theorem ok_orderedtree {f : Addr} {fd : FuncData} (FF : Fun K "answer_orderedtree" "answer_orderedtree" sAOtree f fd) (FC : FlockCls K mg F) (PC : PlanCls K mg C) (d1 : dWays P w K mg base cO) (d2 : dLpio P w K mg base C) :
    FnOk P w K mg base (CXE P w) 8 f fd ["flock", "told", "given"] (spAns K F T cO cN 1 (mk0 4)) := by
  obtain ⟨g1, gd1, mg1, F1, b1, G1⟩ := d1.ex
  obtain ⟨g2, gd2, mg2, F2, b2, G2⟩ := d2.cx.ex
  refine FF.okE scAOt (fun vs H Q E h => spAns_len h) (fun cdv A outer s0 H vs Q E hr h => ?_)
  obtain ⟨fl, tl, gl, s, told, given, rfl, pre, ht, post⟩ := h
  obtain ⟨x, rfl⟩ := one_of ht
  obtain ⟨dx, fs, a, r, h1, h2, h3, h4, h5, h6, good⟩ := id pre.flock
  refine ⟨_, pss_one (ps_ret (pe_fld (pe_call G2 (hr.mono (by decide)) (by rfl) mg2 F2.kp b2 .nil passes_def (pa_cons (pe_fld (pv 0) rfl) (pa_cons (pe_call G1 (hr.mono (by decide)) (by rfl) mg1 F1.kp b1 .nil passes_def (pa_cons (pv 1) pa_nil)) pa_nil))) rfl)), ?_⟩
  refine ⟨_, rfl, fl, F, dx, fs, _, rfl, h1, FC.cl, FC.nF, h3, _, rfl, tl, x, [], rfl, pre.hTold, fun g1 g2 => ?_, fun g => post.oor ?_ H (Same.refl H).kept pre.tab pre.flock⟩
  · obtain ⟨e1, e2⟩ := gate_nat ⟨g1, g2⟩
    rw [step_in (d := .orderedTree x) rfl (gate_yes ⟨g1, g2⟩)] at post
    refine ⟨a, x.toNat, s.counts, by rw [e1]; rfl, SqL.of h4, good.n1, good.n8, fun H' b sm hb => ?_⟩
    obtain ⟨dy, ln, k1, k2⟩ := hb
    exact ⟨b, C, dy, _, _, rfl, k1, PC.cl, PC.nN, planF_numbers _ _ _, post.ok _ ln sm.kept (pre.tab.same sm) (pre.flock.same sm) k2⟩
  · exact step_out (d := .orderedTree x) rfl (gate_no g)
theorem nats_of : ∀ {l : List Int}, (∀ x ∈ l, 0 ≤ x) → l.map V.int = (l.map Int.toNat).map nV
  | [], _ => rfl
  | x :: l, h => by
    have h0 := h x (by simp)
    rw [List.map_cons, List.map_cons, List.map_cons, nats_of fun y hy => h y (by simp [hy])]
    congr 1
    show V.int x = V.int ((x.toNat : Nat) : Int)
    rw [Int.toNat_of_nonneg h0]
theorem all_between {l : List Int} {lo hi : Int} : (l.all fun c => VbsyCore.isBetween c lo hi) = true ↔ ∀ x ∈ l, lo ≤ x ∧ x ≤ hi := by
  rw [List.all_eq_true]
  constructor
  · intro h x hx
    have := h x hx
    unfold VbsyCore.isBetween at this
    simpa using this
  · intro h x hx
    have := h x hx
    unfold VbsyCore.isBetween
    simpa using this
theorem bool_no {b : Bool} (h : ¬ b = true) : b = false := by cases b with | true => exact absurd rfl h | false => rfl
theorem scACb : FnScope ["flock", "told", "given", "ways"] ["flock", "told", "given"] (defScope sACanbe) := ⟨rfl, rfl, rfl, by decide +kernel, rfl, by decide +kernel, by decide +kernel⟩
theorem ok_canbe {f : Addr} {fd : FuncData} (FF : Fun K "answer_canbe" "answer_canbe" sACanbe f fd) (N : Names mg cO cN) (FC : FlockCls K mg F) (d1 : dWays P w K mg base cO) (d2 : dCl P w K mg base cO) (d3 : dRcb P w K mg base) :
    FnOk P w K mg base (CXE P w) 8 f fd ["flock", "told", "given"] (spAns K F T cO cN 1 (mk1 7)) := by
  obtain ⟨t8, hmost⟩ := N.mostr
  obtain ⟨g1, gd1, mg1, F1, b1, G1⟩ := d1.ex
  obtain ⟨g2, gd2, mg2, F2, b2, G2⟩ := d2.ex
  obtain ⟨g3, gd3, mg3, F3, b3, G3⟩ := d3.cx.ex
  refine FF.okE scACb (fun vs H Q E h => spAns_len h) (fun cdv A outer s0 H vs Q E hr h => ?_)
  obtain ⟨fl, tl, gl, s, told, given, rfl, pre, ht, post⟩ := h
  obtain ⟨x, rfl⟩ := one_of ht
  obtain ⟨dx, fs, a, r, h1, h2, h3, h4, h5, h6, good⟩ := id pre.flock
  refine ⟨_, pss_cons (ps_set (i := 3) scACb.nd rfl (Or.inl rfl) (pe_call G1 (hr.mono (by decide)) (by rfl) mg1 F1.kp b1 .nil passes_def (pa_cons (pv 1) pa_nil)))
    (pss_cons (ps_expr (pe_call G2 (hr.mono (by decide)) (by rfl) mg2 F2.kp b2 .nil passes_def (pa_cons (pv 2) (pa_cons (pe_callB call_len_seq (by rfl) N.len PySem.boot_len (pa_cons (pe_fld (pv 0) rfl) pa_nil)) (pa_cons (pe_callB call_len_seq (by rfl) N.len PySem.boot_len (pa_cons (pe_fld (pv 0) rfl) pa_nil)) (pa_cons (pe_glob (v := .int 8) (by rfl) hmost ⟨t8, rfl⟩) pa_nil))))))
    (pss_one (ps_ret (pe_lst (pa_cons (pe_ifExp (pt_val (pe_call G3 (hr.mono (by decide)) (by rfl) mg3 F3.kp b3 .nil passes_def (pa_cons (pv 2) (pa_cons (pv 3) pa_nil)))) pe_int pe_int) pa_nil))))), ?_⟩
  have hrng : ¬ (2 ≤ x ∧ x ≤ 3) ∨ ¬ (given.length = s.counts.length ∧ ∀ y ∈ given, 0 ≤ y ∧ y ≤ 8) → step s (mk1 7 [x] given) = (s, [-1]) := fun h => by
    refine step_out (d := .canBe x given) rfl (bool_no fun z => ?_)
    have z : (Vbsyad.isGate x && (given.length == Vbsyad.farmsIn s && given.all fun d => VbsyCore.isBetween d 0 8)) = true := z
    rw [Bool.and_eq_true, Bool.and_eq_true] at z
    obtain ⟨z1, z2, z3⟩ := z
    rcases h with h | h
    · rw [gate_no h] at z1; cases z1
    · exact h ⟨eq_of_beq z2, all_between.mp z3⟩
  refine ⟨_, rfl, tl, x, [], rfl, pre.hTold, fun g1 g2 => ?_, fun g => post.oor (hrng (.inl g)) H (Same.refl H).kept pre.tab pre.flock⟩
  obtain ⟨e1, e2⟩ := gate_nat ⟨g1, g2⟩
  refine ⟨_, rfl, _, rfl, fl, F, dx, fs, _, rfl, h1, FC.cl, FC.nF, h3, a, _, rfl, .inl (SqL.of h4), _, rfl, fl, F, dx, fs, _, rfl, h1, FC.cl, FC.nF, h3, a, _, rfl, .inl (SqL.of h4), ?_⟩
  rw [List.length_map]
  refine ⟨gl, given, _, _, 8, rfl, pre.hGiven, pre.few, fun k1 k2 k3 => ?_, fun g => post.oor (hrng (.inr fun z => g ⟨by omega, by omega, z.2⟩)) H (Same.refl H).kept pre.tab pre.flock⟩
  have hin : Vbsyad.inRange s (.canBe x given) = true := by
    show (Vbsyad.isGate x && (given.length == Vbsyad.farmsIn s && given.all fun d => VbsyCore.isBetween d 0 8)) = true
    rw [gate_yes ⟨g1, g2⟩, all_between.mpr k3, show given.length = Vbsyad.farmsIn s from by show given.length = s.counts.length; omega]
    simp
  rw [step_in (d := .canBe x given) rfl hin] at post
  have hgv : SqL K H gl ((given.map Int.toNat).map nV) := by rw [← nats_of fun y hy => (k3 y hy).1]; exact pre.hGiven
  refine ⟨_, rfl, _, rfl, gl, x.toNat, given.map Int.toNat, by rw [e1]; rfl, hgv, e2, fun d hd => ?_, ?_⟩
  · obtain ⟨y, hy, rfl⟩ := List.mem_map.mp hd
    have := k3 y hy
    omega
  · refine ⟨_, rfl, ?_⟩
    have fin : ∀ z : Int, z = (if Vbsyad.canBe x.toNat (given.map Int.toNat) = true then 1 else 0) → ([V.int z].length ≤ sizeLine ∧ ∀ p, H p = none → Q (.ref p) (upd H p (.lst [V.int z]))) := fun z hz => ⟨by show 1 ≤ sizeLine; decide, fun p hp => by
      have sm := Same.new (o := .lst [V.int z]) hp
      refine post.ok _ p sm.kept (pre.tab.same sm) (pre.flock.same sm) ?_
      rw [upd_same, hz]
      rfl⟩
    refine ite2 (fun h => ?_) (fun h => ?_)
    · exact fin 1 (by rw [if_pos h])
    · exact fin 0 (by rw [if_neg h])
theorem scAW : FnScope ["flock", "told", "given", "ways", "plan"] ["flock", "told", "given"] (defScope sAWithin) := ⟨rfl, rfl, rfl, by decide +kernel, rfl, by decide +kernel, by decide +kernel⟩
theorem ok_within {f : Addr} {fd : FuncData} (FF : Fun K "answer_within" "answer_within" sAWithin f fd) (N : Names mg cO cN) (FC : FlockCls K mg F) (PC : PlanCls K mg C) (d1 : dWays P w K mg base cO) (d2 : dCn P w K mg base cO) (d3 : dLpw P w K mg base C T) :
    FnOk P w K mg base (CXE P w) 8 f fd ["flock", "told", "given"] (spAns K F T cO cN 2 (mk0 8)) := by
  obtain ⟨t8, hmost⟩ := N.mostr
  obtain ⟨g1, gd1, mg1, F1, b1, G1⟩ := d1.ex
  obtain ⟨g2, gd2, mg2, F2, b2, G2⟩ := d2.ex
  obtain ⟨g3, gd3, mg3, F3, b3, G3⟩ := d3.cx.ex
  refine FF.okE scAW (fun vs H Q E h => spAns_len h) (fun cdv A outer s0 H vs Q E hr h => ?_)
  obtain ⟨fl, tl, gl, s, told, given, rfl, pre, ht, post⟩ := h
  obtain ⟨x, y, rfl⟩ := two_of ht
  obtain ⟨dx, fs, a, r, h1, h2, h3, h4, h5, h6, good⟩ := id pre.flock
  refine ⟨_, pss_cons (ps_set (i := 3) scAW.nd rfl (Or.inl rfl) (pe_call G1 (hr.mono (by decide)) (by rfl) mg1 F1.kp b1 .nil passes_def (pa_cons (pv 1) pa_nil)))
    (pss_cons (ps_expr (pe_call G2 (hr.mono (by decide)) (by rfl) mg2 F2.kp b2 .nil passes_def (pa_cons (pe_ix ix_list (pv 1) pe_int (fun _ _ => rfl)) (pa_cons pe_int (pa_cons (pe_glob (v := .int 8) (by rfl) hmost ⟨t8, rfl⟩) pa_nil)))))
    (pss_cons (ps_set (i := 4) scAW.nd rfl (Or.inl rfl) (pe_call G3 (hr.mono (by decide)) (by rfl) mg3 F3.kp b3 .nil passes_def (pa_cons (pe_fld (pv 0) rfl) (pa_cons (pv 3) (pa_cons (pe_ix ix_list (pv 1) pe_int (fun _ _ => rfl)) pa_nil)))))
    (pss_one (ps_ret (pe_ifExp (pt_cmpR op_isN (pv 4) pe_non (nomark _)) (pe_lst (pa_cons pe_int pa_nil)) (pe_lst (pa_cons pe_int (pa_cons (pe_fld (pv 4) rfl) pa_nil)))))))), ?_⟩
  have hrng : ¬ (2 ≤ x ∧ x ≤ 3) ∨ ¬ (0 ≤ y ∧ y ≤ 8) → step s (mk0 8 [x, y] given) = (s, [-1]) := fun h => by
    refine step_out (d := .within x y) rfl (bool_no fun z => ?_)
    have z : (Vbsyad.isGate x && VbsyCore.isBetween y 0 8) = true := z
    rw [Bool.and_eq_true] at z
    obtain ⟨z1, z2⟩ := z
    rcases h with h | h
    · rw [gate_no h] at z1; cases z1
    · unfold VbsyCore.isBetween at z2
      exact h (by simpa using z2)
  refine ⟨_, rfl, tl, x, [y], rfl, pre.hTold, fun g1 g2 => ?_, fun g => post.oor (hrng (.inl g)) H (Same.refl H).kept pre.tab pre.flock⟩
  obtain ⟨e1, e2⟩ := gate_nat ⟨g1, g2⟩
  refine ⟨_, rfl, tl, _, _, _, rfl, rfl, pre.hTold, atI_nat (j := 1) rfl, y, 0, 8, rfl, fun k1 k2 => ?_, fun g => post.oor (hrng (.inr g)) H (Same.refl H).kept pre.tab pre.flock⟩
  have hin : Vbsyad.inRange s (.within x y) = true := by
    show (Vbsyad.isGate x && VbsyCore.isBetween y 0 8) = true
    rw [gate_yes ⟨g1, g2⟩]
    unfold VbsyCore.isBetween
    simp
    exact ⟨k1, k2⟩
  rw [step_in (d := .within x y) rfl hin] at post
  have ey : V.int y = nV y.toNat := by unfold nV; rw [Int.toNat_of_nonneg k1]
  refine ⟨_, rfl, fl, F, dx, fs, _, rfl, h1, FC.cl, FC.nF, h3, _, rfl, _, rfl, tl, _, _, _, rfl, rfl, pre.hTold, atI_nat (j := 1) rfl, ?_⟩
  refine ⟨a, x.toNat, y.toNat, s.counts, by rw [← e1, ← ey]; rfl, SqL.of h4, good.n1, good.n8, e2, by omega, pre.tab, fun H' v o bt tb hch hw => ?_⟩
  refine ⟨_, rfl, rfl, _, rfl, ?_⟩
  have fin : ∀ (zs : List V) (p : Addr), H' p = none → zs = ((Vbsyad.act s (.within x y)).2).map V.int → Q (.ref p) (upd H' p (.lst zs)) := fun zs p hp hz => by
    have sm := Same.new (o := .lst zs) hp
    refine post.ok _ p (bt.trans sm.but).kept (tb.same sm) (pre.flock.but pre.tab (bt.trans sm.but)) ?_
    rw [upd_same, hz]
  have ea : (Vbsyad.act s (.within x y)).2 = (match Vbsyad.within x.toNat y.toNat s.counts with | none => [0] | some c => [1, (c : Int)]) := rfl
  cases o with
  | none =>
    obtain rfl : v = .non := hch
    refine iteT ⟨by show 1 ≤ sizeLine; decide, fun p hp => fin _ p hp ?_⟩
    rw [ea, ← hw]
    rfl
  | some pl =>
    obtain ⟨b, rfl, dy, ln, k1, k2⟩ := hch
    refine iteF ?_
    refine ⟨_, rfl, b, C, dy, _, _, rfl, k1, PC.cl, PC.nC, planF_cost _ _ _, by show 2 ≤ sizeLine; decide, fun p hp => fin _ p hp ?_⟩
    rw [ea, ← hw]
    rfl
end
end Shed
end
section
set_option Elab.async false
set_option linter.all false
set_option maxRecDepth 100000
set_option maxHeartbeats 2000000
namespace L2
open PySem PySem.Spec PyProof.Rows
theorem ix_listK {X : Cx} {K : PySem.W.Frag} (hK : X.K = K) : IxR X (rIxL K) := by
  subst hK
  exact ix_list
theorem sl_listK {X : Cx} {K : PySem.W.Frag} (hK : X.K = K) : SlR X (rSlL K) := by
  subst hK
  exact sl_list
theorem cr_sumK {X : Cx} {K : PySem.W.Frag} (hK : X.K = K) (hc : X.calm = true) : CallR X (.builtin "sum") (rSum K) := by
  subst hK
  exact cr_sum hc
theorem call_lenK {X : Cx} {K : PySem.W.Frag} (hK : X.K = K) : CallR X (.builtin "len") (fun xs H Q => ∃ p ys, xs = [.ref p] ∧ (SqL K H p ys ∨ SqT K H p ys) ∧ Q (.int ys.length) H) := by
  subst hK
  exact call_len_seq
theorem pe_countK {X : Cx} {K : PySem.W.Frag} {o e : Expr} {to : TE} {t : TA} {apos cpos : Pos} (hK : X.K = K) (ho : PE X o to) (ha : PA X [e] t)
    (hbase : attributeBase o "count" X.env (eval o X.env) = eval o X.env := by rfl)
    (hfew : ((backTo cpos (starEach [e] X.env)).all (fun x => !x.1) && (backToKw cpos (keywordEach [] X.env)).all (fun x => x.1.isSome)
      && decide ([e].length + ([] : List Keyword).length + (if ([] : List Keyword).isEmpty then 0 else 1) < 30)) = true := by rfl)
    (hline : (apos.endLine == cpos.line) = true := by rfl) (hs : starEach [e] X.env = (false, eval e X.env) :: starEach [] X.env := by rfl) (hplain : (backTo cpos (starEach [] X.env)).any (·.1) = false := by rfl) :
    PE X (.Call (.Attribute o "count" apos) [e] [] cpos) (tBM K "list" (rCount K) to t) := by
  subst hK
  exact pe_bm PySem.F.plainAttrs_list PySem.F.slot_list_count PySem.F.type_list_count mt_count_ints ho ha hbase hfew hline hs hplain
theorem putF_len {f : Str} {v u : V} : ∀ {fs : List (Str × V)}, fs.lookup f = some u → (putF f v fs).length = fs.length
  | [], h => by cases h
  | (k, x) :: r, h => by
    rw [show putF f v ((k, x) :: r) = (if k = f then (k, v) :: r else (k, x) :: putF f v r) from rfl]
    by_cases e : k = f
    · rw [if_pos e]; rfl
    · rw [if_neg e, List.length_cons, List.length_cons]
      rw [List.lookup_cons] at h
      have e2 : (f == k) = false := beq_eq_false_iff_ne.mpr fun z => e z.symm
      rw [e2] at h
      rw [putF_len h]
theorem SqL.keep {K : PySem.W.Frag} {H H' : Hp} {a : Addr} {xs : List V} (h : SqL K H a xs) (k : ∀ o, H a = some o → (o = .lst xs ∨ ∃ ob, o = .frz ob (.lst xs)) → H' a = some o) : SqL K H' a xs := by
  rcases h with (h | ⟨o, h⟩) | h
  · exact .inl (.inl (k _ h (.inl rfl)))
  · exact .inl (.inr ⟨o, k _ h (.inr ⟨o, rfl⟩)⟩)
  · exact .inr h
theorem SqT.keep {K : PySem.W.Frag} {H H' : Hp} {a : Addr} {xs : List V} (h : SqT K H a xs) (k : ∀ o, H a = some o → (o = .tup xs ∨ ∃ ob, o = .frz ob (.tup xs)) → H' a = some o) : SqT K H' a xs := by
  rcases h with (h | ⟨o, h⟩) | h
  · exact .inl (.inl (k _ h (.inl rfl)))
  · exact .inl (.inr ⟨o, k _ h (.inr ⟨o, rfl⟩)⟩)
  · exact .inr h
end L2
namespace Shed
open PySem PySem.Spec PyProof.Rows L2
open Vbsyad (State step)
theorem lvI_in {cs : List Nat} {w : Nat} {t : Vbsyad.Tree} (hp : Vbsyad.isPlan cs.length w t = true) : ∀ q ∈ lvI 0 t, ∃ f : Nat, q.1 = (f : Int) ∧ f < cs.length := fun q hq => by
  have h1 : q.1 ∈ (lvI 0 t).map (·.1) := List.mem_map_of_mem hq
  rw [lvI_farms] at h1
  obtain ⟨f, hf, e⟩ := List.mem_map.mp h1
  have h2 := (isPlan_iff.mp hp).1.mem_iff.mp hf
  exact ⟨f, e.symm, List.mem_range.mp h2⟩
theorem lvI_few : ∀ (k : Nat) (t : Vbsyad.Tree), ∀ q ∈ lvI k t, q.2 ≤ k + Vbsyad.runsIn t
  | k, .pen f, q, h => by
    rw [show lvI k (.pen f) = [((f : Int), k)] from rfl, List.mem_singleton] at h
    subst h
    exact Nat.le_refl _
  | k, .two a b, q, h => by
    rw [show lvI k (.two a b) = lvI (k + 1) a ++ lvI (k + 1) b from rfl] at h
    show q.2 ≤ k + (1 + (Vbsyad.runsIn a + Vbsyad.runsIn b))
    rcases List.mem_append.mp h with h | h
    · have := lvI_few (k + 1) a q h; omega
    · have := lvI_few (k + 1) b q h; omega
  | k, .three a b c, q, h => by
    rw [show lvI k (.three a b c) = lvI (k + 1) a ++ (lvI (k + 1) b ++ lvI (k + 1) c) from rfl] at h
    show q.2 ≤ k + (1 + (Vbsyad.runsIn a + (Vbsyad.runsIn b + Vbsyad.runsIn c)))
    rcases List.mem_append.mp h with h | h
    · have := lvI_few (k + 1) a q h; omega
    rcases List.mem_append.mp h with h | h
    · have := lvI_few (k + 1) b q h; omega
    · have := lvI_few (k + 1) c q h; omega
theorem paired_take {α β : Type} {R : α → β → Prop} : ∀ {as : List α} {ps : List β}, Paired R as ps → ∀ b ∈ as, ∃ p ∈ ps, R b p
  | _, _, .nil, _, h => by cases h
  | _, _, .cons r t, b, h => by
    rcases List.mem_cons.mp h with rfl | h
    · exact ⟨_, by simp, r⟩
    · obtain ⟨p, hp, hr⟩ := paired_take t b h
      exact ⟨p, by simp [hp], hr⟩
theorem sum_cast (l : List Nat) : (l.map fun (n : Nat) => (n : Int)).sum = (l.sum : Int) := by
  induction l with
  | nil => rfl
  | cons x l ih => rw [List.map_cons, List.sum_cons, List.sum_cons, ih]; omega
theorem ints_nV (l : List Nat) : (l.map fun (n : Nat) => (n : Int)).map V.int = l.map nV := by rw [List.map_map]; rfl
theorem getD_some {α : Type} {l : List α} {i : Nat} {x d : α} (h : l[i]? = some x) : l.getD i d = x := by
  rw [List.getD_eq_getElem?_getD, h]
  rfl
abbrev sWc : Stmt := top 19
abbrev sCf : Stmt := top 36
abbrev sPo : Stmt := top 37
abbrev sPws : Stmt := top 38
abbrev sSo : Stmt := top 39
abbrev sSbf : Stmt := top 40
abbrev sCtm : Stmt := top 41
section
variable {P : Program} {w : World} {K : PySem.W.Frag} {mg : Str → Option Value} {base : Heap} {cO cN C F T : Addr}
def spWc : Sp := fun vs H Q _ => ∃ (a : Addr) (xs : List V), vs = [.ref a] ∧ H a = some (.lst xs) ∧ xs.length ≤ 1000 ∧ ∀ (H' : Hp) (l : Addr), Same H H' → H l = none → H' l = some (.lst (nV xs.length :: xs)) → Q (.ref l) H'
theorem scWc : FnScope ["numbers"] ["numbers"] (defScope sWc) := ⟨rfl, rfl, rfl, by decide +kernel, rfl, by decide +kernel, by decide +kernel⟩
theorem ok_wc {f : Addr} {fd : FuncData} (FF : Fun K "with_count" "with_count" sWc f fd) (N : Names mg cO cN) : FnOk P w K mg base CX0 1 f fd ["numbers"] spWc := by
  refine FF.ok scWc (fun vs H Q E h => ?_) (fun cdv A outer s H vs Q E hr h => ?_)
  · obtain ⟨a, xs, rfl, _⟩ := h
    rfl
  · obtain ⟨a, xs, rfl, ha, hl, k⟩ := h
    refine ⟨_, pss_one (ps_ret (pe_op op_cat (pe_lst (pa_cons (pe_callB call_len_seq (by rfl) N.len PySem.boot_len (pa_cons (pv 0) pa_nil)) pa_nil)) (pv 0))), ?_⟩
    have line := sizeLine_eq
    refine ⟨_, rfl, a, _, rfl, .inl (SqL.of ha), by show 1 ≤ sizeLine; decide, fun p1 hp1 => ?_⟩
    have s1 := Same.new (o := .lst [V.int (xs.length : Int)]) hp1
    refine ⟨_, rfl, p1, a, _, _, rfl, rfl, upd_same, s1 _ _ ha, by show 1 + xs.length ≤ sizeLine; rw [line]; omega, fun p hp => ?_⟩
    exact k _ p (s1.trans (Same.new hp)) (s1.free hp) (by rw [upd_same]; rfl)
def spCf (K : PySem.W.Frag) : Sp := fun vs H Q _ => ∃ (l a : Addr) (t : Vbsyad.Tree) (cs : List Nat), vs = [.ref l, .ref a] ∧ PensAt H l (lvI 0 t) ∧ SqL K H a (cs.map nV) ∧ (∀ q ∈ lvI 0 t, ∃ f : Nat, q.1 = (f : Int) ∧ f < cs.length) ∧ Vbsyad.runsIn t ≤ 64 ∧ (lvI 0 t).length ≤ 64 ∧
  ∀ H' : Hp, Same H H' → Q (nV (Vbsyad.costOf cs t)) H'
theorem scCf : FnScope ["pens", "sheep", "farm", "runs"] ["pens", "sheep"] (defScope sCf) := ⟨rfl, rfl, rfl, by decide +kernel, rfl, by decide +kernel, by decide +kernel⟩
theorem ok_cf {f : Addr} {fd : FuncData} (FF : Fun K "cost_for" "cost_for" sCf f fd) (N : Names mg cO cN) : FnOk P w K mg base CX0 1 f fd ["pens", "sheep"] (spCf K) := by
  refine FF.ok scCf (fun vs H Q E h => ?_) (fun cdv A outer s H vs Q E hr h => ?_)
  · obtain ⟨l, a, t, cs, rfl, _⟩ := h
    rfl
  · obtain ⟨l, a, t, cs, rfl, hP, hs, hin, hrun, hlen, k⟩ := h
    refine ⟨_, pss_one (ps_ret (pe_callB (cr_sum rfl) (by rfl) N.sum PyProof.Rows.boot_sum (pa_cons (pe_lc (own := [("farm", 2), ("runs", 3)]) rfl scCf.nd (pi_list (pv 0)) (blkOk_by (by rfl))
        (fun _ _ _ _ _ => by exact pg_tupK (K := K) (n := 2) rfl rfl (pgs_cons (pg_name (i := 2) scCf.nd rfl (Or.inl rfl)) (pgs_cons (pg_name (i := 3) scCf.nd rfl (Or.inl rfl)) pgs_nil))) (fun _ _ _ _ _ => pts_nil)
        (fun _ _ _ _ _ => by exact pe_op op_mul (pv 3) (pe_ix (ix_listK (K := K) rfl) (pv 1) (pv 2) (fun _ _ => rfl)))) pa_nil))), ?_⟩
    have line := sizeLine_eq
    obtain ⟨as, hla, hpa⟩ := id hP
    have hal : as.length = (lvI 0 t).length := paired_len hpa
    refine ⟨_, rfl, l, rfl, ⟨_, SqL.of hla⟩, fun D hD => lc_list (K := K) (a := l) (xs := as.map V.ref) (fun i H2 => Same H H2 ∧ H2 D = some (.lst (((lvI 0 t).take i).map fun q => nV (q.2 * cs.getD q.1.toNat 0))))
      ⟨Same.new hD, upd_same⟩ (fun i H2 _ q => SqL.of (q.1 _ _ hla)) (fun i y H2 hy ⟨sm, hd⟩ => ?_) (fun H2 ⟨sm2, hd2⟩ => ?_)⟩
    · obtain ⟨b, hb, rfl⟩ := get_ref hy
      obtain ⟨q, hqi, hqb⟩ := paired_get hpa hb
      obtain ⟨fm, efm, hfm⟩ := hin q (List.mem_of_getElem? hqi)
      have hq2 := lvI_few 0 t q (List.mem_of_getElem? hqi)
      refine ⟨b, _, rfl, SqT.of (sm _ _ hqb), rfl, _, _, rfl, _, _, rfl, rfl, rfl, yes_of ?_⟩
      obtain ⟨cv, hcv⟩ : ∃ cv, cs[fm]? = some cv := ⟨_, List.getElem?_eq_getElem hfm⟩
      refine ⟨_, rfl, _, rfl, _, rfl, a, _, _, _, rfl, rfl, sm.seq hs, at_of efm (by rw [List.getElem?_map, hcv]; rfl), _, _, rfl, rfl, .inl ⟨by omega, by omega⟩, _, hd, ?_, sm.over hD, ?_⟩
      · rw [List.length_map, List.length_take, line]; omega
      · rw [upd_same, List.take_add_one, hqi, List.map_append]
        congr 3
        show [V.int ((q.2 : Int) * (cv : Int))] = [nV (q.2 * cs.getD q.1.toNat 0)]
        rw [efm, List.getD_eq_getElem?_getD, Int.toNat_natCast, hcv]
        rfl
    rw [List.length_map, hal, List.take_length] at hd2
    have esum : (((lvI 0 t).map fun q => q.2 * cs.getD q.1.toNat 0).map fun (n : Nat) => (n : Int)).sum = (Vbsyad.costOf cs t : Int) := by
      have h := lvI_cost cs 0 t
      rw [Nat.zero_mul, Nat.zero_add] at h
      rw [sum_cast, h]
    refine ⟨D, ((lvI 0 t).map fun q => q.2 * cs.getD q.1.toNat 0).map fun (n : Nat) => (n : Int), rfl, SqL.of (by rw [hd2, ints_nV, List.map_map]; rfl), ?_⟩
    rw [esum]
    exact k H2 sm2
def spPo (K : PySem.W.Frag) : Sp := fun vs H Q _ => ∃ (f : Nat) (a : Addr) (row : List Nat), vs = [nV f, .ref a] ∧ SqL K H a (row.map nV) ∧ row.length ≤ 40 ∧
  ∀ (H' : Hp) (l : Addr), Same H H' → H l = none → H' l = some (.lst ((placesIn (Vbsyad.numbered row) f).map nV)) → Q (.ref l) H'
theorem scPlc : FnScope ["farm", "row", "place", "other"] ["farm", "row"] (defScope sPo) := ⟨rfl, rfl, rfl, by decide +kernel, rfl, by decide +kernel, by decide +kernel⟩
theorem ok_po {f : Addr} {fd : FuncData} (FF : Fun K "places_of" "places_of" sPo f fd) (N : Names mg cO cN) : FnOk P w K mg base CX0 1 f fd ["farm", "row"] (spPo K) := by
  refine FF.ok scPlc (fun vs H Q E h => ?_) (fun cdv A outer s H vs Q E hr h => ?_)
  · obtain ⟨f, a, row, rfl, _⟩ := h
    rfl
  · obtain ⟨fm, a, row, rfl, hs, hlen, k⟩ := h
    refine ⟨_, pss_one (ps_ret (pe_lc (own := [("place", 2), ("other", 3)]) rfl scPlc.nd (pi_enum (by rfl) N.enumerate (pa_cons (pv 1) pa_nil)) (blkOk_by (by rfl))
        (fun _ _ _ _ _ => by exact pg_tupK (K := K) (n := 2) rfl rfl (pgs_cons (pg_name (i := 2) scPlc.nd rfl (Or.inl rfl)) (pgs_cons (pg_name (i := 3) scPlc.nd rfl (Or.inl rfl)) pgs_nil)))
        (fun _ _ _ _ _ => by exact pts_one (pt_cmpR op_eq (pv 3) (pv 0) (nomark _))) (fun _ _ _ _ _ => by exact pv 2))), ?_⟩
    have line := sizeLine_eq
    refine ⟨_, rfl, a, _, rfl, hs, fun D hD => lc_enum (K := K) (a := a) (xs := row.map nV) (fun i H' => Same H H' ∧ H' D = some (.lst (((row.zipIdx.take i).filter fun x => x.1 == fm).map fun x => nV x.2)))
      ⟨Same.new hD, upd_same⟩ (fun i H' _ q => q.1.seq hs) (fun i x H' T hx ⟨sm, hd⟩ hT => ?_) (fun H' ⟨sm, hd⟩ => ?_)⟩
    · obtain ⟨c, hc, rfl⟩ : ∃ c, row[i]? = some c ∧ x = nV c := by
        rw [List.getElem?_map] at hx
        cases e : row[i]? with
        | none => rw [e] at hx; cases hx
        | some z => rw [e] at hx; exact ⟨z, rfl, (Option.some.inj hx).symm⟩
      have s1 := Same.new (o := .tup [.int (i : Nat), nV c]) hT
      have hz : row.zipIdx[i]? = some (c, i) := by rw [List.getElem?_zipIdx, hc]; simp
      have hf : ((row.zipIdx.take (i + 1)).filter fun x => x.1 == fm) = ((row.zipIdx.take i).filter fun x => x.1 == fm) ++ (if c = fm then [(c, i)] else []) := by
        rw [List.take_add_one, hz, List.filter_append]
        congr 1
        by_cases e : c = fm
        · simp [e]
        · simp [e]
      have hfl : ((row.zipIdx.take i).filter fun x => x.1 == fm).length ≤ 40 := by
        refine Nat.le_trans (List.length_filter_le _ _) ?_
        rw [List.length_take, List.length_zipIdx]; omega
      refine ⟨T, _, rfl, SqT.of upd_same, rfl, _, _, rfl, _, _, rfl, rfl, rfl, _, rfl, _, rfl, rfl, _, rfl, ?_⟩
      refine ite2 (fun h => ?_) (fun h => ?_)
      · have h' : c = fm := by
          have e1 : nV c = nV fm := of_decide_eq_true h
          have e2 : (c : Int) = (fm : Int) := V.int.inj e1
          omega
        refine ⟨_, rfl, _, s1 _ _ hd, by rw [List.length_map, line]; omega, (sm.trans s1).over hD, ?_⟩
        rw [upd_same, hf, if_pos h', List.map_append]
        rfl
      · have h' : ¬ c = fm := fun e => h (decide_eq_true (by rw [e]))
        refine ⟨sm.trans s1, ?_⟩
        rw [hf, if_neg h', List.append_nil]
        exact s1 _ _ hd
    rw [List.length_map, List.take_of_length_le (by rw [List.length_zipIdx]; exact Nat.le_refl _)] at hd
    refine k H' D sm hD ?_
    rw [hd, places_eq, List.map_map]
    rfl
def spPws : Sp := fun vs H Q _ => ∃ (a : Addr) (as : List Addr) (pens : List (List Nat)), vs = [.ref a] ∧ H a = some (.lst (as.map V.ref)) ∧ RowsOn H as pens ∧ pens.length ≤ 8 ∧ (∀ l ∈ pens, l.length = pens.length) ∧
  ∀ (H' : Hp) (l : Addr), Same H H' → H l = none → H' l = some (.lst ((Vbsyad.mixedPens pens).map nV)) → Q (.ref l) H'
theorem scPw : FnScope ["pens", "farm", "pen"] ["pens"] (defScope sPws) := ⟨rfl, rfl, rfl, by decide +kernel, rfl, by decide +kernel, by decide +kernel⟩
theorem ok_pws {f : Addr} {fd : FuncData} (FF : Fun K "pens_with_strangers" "pens_with_strangers" sPws f fd) (N : Names mg cO cN) : FnOk P w K mg base CX0 1 f fd ["pens"] spPws := by
  refine FF.ok scPw (fun vs H Q E h => ?_) (fun cdv A outer s H vs Q E hr h => ?_)
  · obtain ⟨a, as, pens, rfl, _⟩ := h
    rfl
  · obtain ⟨a, as, pens, rfl, ha, hp, hlen, hl, k⟩ := h
    refine ⟨_, pss_one (ps_ret (pe_lc (own := [("farm", 1), ("pen", 2)]) rfl scPw.nd (pi_enum (by rfl) N.enumerate (pa_cons (pv 0) pa_nil)) (blkOk_by (by rfl))
        (fun _ _ _ _ _ => by exact pg_tupK (K := K) (n := 2) rfl rfl (pgs_cons (pg_name (i := 1) scPw.nd rfl (Or.inl rfl)) (pgs_cons (pg_name (i := 2) scPw.nd rfl (Or.inl rfl)) pgs_nil)))
        (fun _ _ _ _ _ => by exact pts_one (pt_cmpR op_gt (pe_callB (cr_sumK (K := K) rfl rfl) (by rfl) N.sum PyProof.Rows.boot_sum (pa_cons (pv 2) pa_nil)) (pe_ix (ix_listK (K := K) rfl) (pv 2) (pv 1) (fun _ _ => rfl)) (nomark _))) (fun _ _ _ _ _ => by exact pv 1))), ?_⟩
    have line := sizeLine_eq
    have hal : as.length = pens.length := paired_len hp
    refine ⟨_, rfl, a, _, rfl, SqL.of ha, fun D hD => lc_enum (K := K) (a := a) (xs := as.map V.ref) (fun i H' => Same H H' ∧ H' D = some (.lst (((List.range i).filter fun p => decide ((pens.getD p []).getD p 0 < (pens.getD p []).sum)).map nV)))
      ⟨Same.new hD, upd_same⟩ (fun i H' _ q => SqL.of (q.1 _ _ ha)) (fun i x H' T hx ⟨sm, hd⟩ hT => ?_) (fun H' ⟨sm, hd⟩ => ?_)⟩
    · obtain ⟨b, hb, rfl⟩ := get_ref hx
      obtain ⟨l, hli, hlb⟩ := paired_get hp hb
      have hi : i < pens.length := (List.getElem?_eq_some_iff.mp hli).1
      have hll : l.length = pens.length := hl l (List.mem_of_getElem? hli)
      have hgl : pens.getD i [] = l := getD_some hli
      obtain ⟨c, hc⟩ : ∃ c, l[i]? = some c := ⟨_, List.getElem?_eq_getElem (by omega)⟩
      have s1 := Same.new (o := .tup [.int (i : Nat), V.ref b]) hT
      have s2 := sm.trans s1
      have hrng : ((List.range i).filter fun p => decide ((pens.getD p []).getD p 0 < (pens.getD p []).sum)).length ≤ 8 := by
        refine Nat.le_trans (List.length_filter_le _ _) ?_
        rw [List.length_range]; omega
      have hf : ((List.range (i + 1)).filter fun p => decide ((pens.getD p []).getD p 0 < (pens.getD p []).sum)) = ((List.range i).filter fun p => decide ((pens.getD p []).getD p 0 < (pens.getD p []).sum)) ++ (if c < l.sum then [i] else []) := by
        rw [List.range_succ, List.filter_append]
        congr 1
        rw [List.filter_cons, hgl, getD_some hc]
        by_cases e : c < l.sum
        · simp [e]
        · simp [e]
      refine ⟨T, _, rfl, SqT.of upd_same, rfl, _, _, rfl, _, _, rfl, rfl, rfl, _, rfl, b, l.map fun (n : Nat) => (n : Int), rfl, SqL.of (by rw [ints_nV]; exact s2 _ _ hlb), ?_⟩
      refine ⟨_, rfl, _, rfl, b, _, _, nV c, rfl, rfl, SqL.of (s2 _ _ hlb), atI_nat (by rw [List.getElem?_map, hc]; rfl), _, _, rfl, rfl, _, rfl, ?_⟩
      rw [sum_cast]
      refine ite2 (fun h => ?_) (fun h => ?_)
      · have h' : c < l.sum := by
          have := of_decide_eq_true h
          omega
        refine ⟨_, rfl, _, s1 _ _ hd, by rw [List.length_map, line]; omega, s2.over hD, ?_⟩
        rw [upd_same, hf, if_pos h', List.map_append]
        rfl
      · have h' : ¬ c < l.sum := fun e => h (decide_eq_true (by omega))
        refine ⟨s2, ?_⟩
        rw [hf, if_neg h', List.append_nil]
        exact s1 _ _ hd
    rw [List.length_map, hal, ← mixed_eq hl] at hd
    exact k H' D sm hD hd
def spSo : Sp := fun vs H Q _ => ∃ (f : Nat) (a : Addr) (as : List Addr) (pens : List (List Nat)), vs = [nV f, .ref a] ∧ H a = some (.lst (as.map V.ref)) ∧ RowsOn H as pens ∧ pens.length ≤ 8 ∧ (∀ l ∈ pens, l.length = pens.length) ∧ f < pens.length ∧
  ∀ H' : Hp, Same H H' → Q (nV (strangersOf pens f)) H'
theorem scSo : FnScope ["farm", "pens", "pen"] ["farm", "pens"] (defScope sSo) := ⟨rfl, rfl, rfl, by decide +kernel, rfl, by decide +kernel, by decide +kernel⟩
theorem ok_so {f : Addr} {fd : FuncData} (FF : Fun K "strangers_of" "strangers_of" sSo f fd) (N : Names mg cO cN) : FnOk P w K mg base CX0 1 f fd ["farm", "pens"] spSo := by
  refine FF.ok scSo (fun vs H Q E h => ?_) (fun cdv A outer s H vs Q E hr h => ?_)
  · obtain ⟨f, a, as, pens, rfl, _⟩ := h
    rfl
  · obtain ⟨fm, a, as, pens, rfl, ha, hp, hlen, hl, hfm, k⟩ := h
    refine ⟨_, pss_one (ps_ret (pe_op op_sub (pe_callB (cr_sum rfl) (by rfl) N.sum PyProof.Rows.boot_sum (pa_cons (pe_lc (own := [("pen", 2)]) rfl scSo.nd (pi_list (pv 1)) (blkOk_by (by rfl)) (fun _ _ _ _ _ => pg_name (i := 2) scSo.nd rfl (Or.inl rfl)) (fun _ _ _ _ _ => pts_nil)
        (fun _ _ _ _ _ => by exact pe_ix (ix_listK (K := K) rfl) (pv 2) (pv 0) (fun _ _ => rfl))) pa_nil)) (pe_ix ix_list (pe_ix ix_list (pv 1) (pv 0) (fun _ _ => rfl)) (pv 0) (fun _ _ => rfl)))), ?_⟩
    have line := sizeLine_eq
    have hal : as.length = pens.length := paired_len hp
    refine ⟨_, rfl, a, rfl, ⟨_, SqL.of ha⟩, fun D hD => lc_list (K := K) (a := a) (xs := as.map V.ref) (fun i H' => Same H H' ∧ H' D = some (.lst ((pens.take i).map fun l => nV (l.getD fm 0))))
      ⟨Same.new hD, upd_same⟩ (fun i H' _ q => SqL.of (q.1 _ _ ha)) (fun i x H' hx ⟨sm, hd⟩ => ?_) (fun H1 ⟨sm, hd⟩ => ?_)⟩
    · obtain ⟨b, hb, rfl⟩ := get_ref hx
      obtain ⟨l, hli, hlb⟩ := paired_get hp hb
      have hll : l.length = pens.length := hl l (List.mem_of_getElem? hli)
      obtain ⟨c, hc⟩ : ∃ c, l[fm]? = some c := ⟨_, List.getElem?_eq_getElem (by omega)⟩
      refine ⟨rfl, yes_of ?_⟩
      refine ⟨_, rfl, _, rfl, b, _, _, nV c, rfl, rfl, SqL.of (sm _ _ hlb), atI_nat (by rw [List.getElem?_map, hc]; rfl), _, hd, ?_, sm.over hD, ?_⟩
      · rw [List.length_map, List.length_take, line]; omega
      · rw [upd_same, List.take_add_one, hli, List.map_append]
        congr 3
        show [nV c] = [nV (l.getD fm 0)]
        rw [getD_some hc]
    rw [List.length_map, hal, List.take_length] at hd
    obtain ⟨l, hli⟩ : ∃ l, pens[fm]? = some l := ⟨_, List.getElem?_eq_getElem hfm⟩
    obtain ⟨b, hb⟩ : ∃ b, as[fm]? = some b := ⟨_, List.getElem?_eq_getElem (by omega)⟩
    obtain ⟨l', hli', hlb⟩ := paired_get hp hb
    obtain rfl : l' = l := by rw [hli] at hli'; exact (Option.some.inj hli').symm
    have hll : l'.length = pens.length := hl l' (List.mem_of_getElem? hli)
    obtain ⟨c, hc⟩ : ∃ c, l'[fm]? = some c := ⟨_, List.getElem?_eq_getElem (by omega)⟩
    refine ⟨D, (pens.map fun l => l.getD fm 0).map fun (n : Nat) => (n : Int), rfl, SqL.of (by rw [hd, ints_nV, List.map_map]; rfl), ?_⟩
    refine ⟨_, rfl, _, rfl, a, _, _, V.ref b, rfl, rfl, SqL.of (sm _ _ ha), atI_nat (by rw [List.getElem?_map, hb]; rfl), _, rfl, b, _, _, nV c, rfl, rfl, SqL.of (sm _ _ hlb), atI_nat (by rw [List.getElem?_map, hc]; rfl), _, _, rfl, rfl, ?_⟩
    have e := strangers_eq hfm
    rw [getD_some hli, getD_some hc] at e
    have q := k H1 sm
    rw [show nV (strangersOf pens fm) = V.int _ from congrArg V.int e.symm] at q
    rw [sum_cast]
    exact q
def spSbf : Sp := fun vs H Q _ => ∃ (a : Addr) (as : List Addr) (pens : List (List Nat)), vs = [.ref a] ∧ H a = some (.lst (as.map V.ref)) ∧ RowsOn H as pens ∧ pens.length ≤ 8 ∧ (∀ l ∈ pens, l.length = pens.length) ∧
  ∀ (H' : Hp) (l : Addr), Same H H' → H l = none → H' l = some (.lst ((Vbsyad.strangers pens).map nV)) → Q (.ref l) H'
theorem scSb : FnScope ["pens", "farm"] ["pens"] (defScope sSbf) := ⟨rfl, rfl, rfl, by decide +kernel, rfl, by decide +kernel, by decide +kernel⟩
theorem ok_sbf {f g : Addr} {fd gd : FuncData} (FF : Fun K "strangers_by_farm" "strangers_by_farm" sSbf f fd) (N : Names mg cO cN) (mg1 : mg "strangers_of" = some (.ref g)) (F1 : Fun K "strangers_of" "strangers_of" sSo g gd) (b1 : Binds K gd ["farm", "pens"] [])
    (G1 : FnOk P w K mg base CX0 1 g gd ["farm", "pens"] spSo) : FnOk P w K mg base CX0 2 f fd ["pens"] spSbf := by
  refine FF.ok scSb (fun vs H Q E h => ?_) (fun cdv A outer s H vs Q E hr h => ?_)
  · obtain ⟨a, as, pens, rfl, _⟩ := h
    rfl
  · obtain ⟨a, as, pens, rfl, ha, hp, hlen, hl, k⟩ := h
    refine ⟨_, pss_one (ps_ret (pe_lc (own := [("farm", 1)]) rfl scSb.nd (pi_range1 (by rfl) N.range (pa_cons (pe_callB call_len_seq (by rfl) N.len PySem.boot_len (pa_cons (pv 0) pa_nil)) pa_nil)) (blkOk_by (by rfl)) (fun _ _ _ _ _ => pg_name (i := 1) scSb.nd rfl (Or.inl rfl)) (fun _ _ _ _ _ => pts_nil)
        (fun _ _ _ _ _ => by exact pe_call G1 hr (by rfl) mg1 F1.kp b1 .nil pass0 (pa_cons (pv 1) (pa_cons (pv 0) pa_nil))))), ?_⟩
    have line := sizeLine_eq
    have hal : as.length = pens.length := paired_len hp
    refine ⟨_, rfl, a, _, rfl, .inl (SqL.of ha), _, rfl, by omega, by rw [List.length_map]; omega, fun D hD => ?_⟩
    rw [List.length_map, hal, Int.toNat_natCast]
    refine lc_range (fun i H' => Same H H' ∧ H' D = some (.lst (((List.range i).map (strangersOf pens)).map nV))) ⟨Same.new hD, upd_same⟩ (fun i H' hi ⟨sm, hd⟩ => ?_) (fun H' ⟨sm, hd⟩ => ?_)
    · refine ⟨rfl, yes_of ?_⟩
      refine ⟨_, rfl, _, rfl, i, a, as, pens, by rw [Int.zero_add]; rfl, sm _ _ ha, hp.same sm, hlen, hl, hi, fun H2 s2 => ⟨_, s2 _ _ hd, ?_, (sm.trans s2).over hD, ?_⟩⟩
      · rw [List.length_map, List.length_map, List.length_range, line]; omega
      · rw [upd_same, List.range_succ, List.map_append, List.map_append]
        rfl
    · rw [← strangers_def] at hd
      exact k H' D sm hD hd
def spCtm (T : Addr) : Sp := fun vs H Q _ => ∃ (a : Addr) (as : List Addr) (pens : List (List Nat)), vs = [.ref a] ∧ H a = some (.lst (as.map V.ref)) ∧ RowsOn H as pens ∧ pens.length ≤ 8 ∧ (∀ l ∈ pens, l.length = pens.length) ∧ Tab T H ∧
  ∀ H' : Hp, But T H H' → Tab T H' → Q (nV (Vbsyad.mended pens)) H'
theorem scCm : FnScope ["pens", "strangers", "emptied", "many", "farm"] ["pens"] (defScope sCtm) := ⟨rfl, rfl, rfl, by decide +kernel, rfl, by decide +kernel, by decide +kernel⟩
theorem ok_ctm {f g1 g2 g3 : Addr} {fd gd1 gd2 gd3 : FuncData} (FF : Fun K "cost_to_mend" "cost_to_mend" sCtm f fd) (N : Names mg cO cN) (PC : PlanCls K mg C) (mg1 : mg "strangers_by_farm" = some (.ref g1)) (F1 : Fun K "strangers_by_farm" "strangers_by_farm" sSbf g1 gd1) (b1 : Binds K gd1 ["pens"] []) (G1 : FnOk P w K mg base CX0 2 g1 gd1 ["pens"] spSbf)
    (mg2 : mg "pens_with_strangers" = some (.ref g2)) (F2 : Fun K "pens_with_strangers" "pens_with_strangers" sPws g2 gd2) (b2 : Binds K gd2 ["pens"] []) (G2 : FnOk P w K mg base CX0 1 g2 gd2 ["pens"] spPws)
    (mg3 : mg "least_plan" = some (.ref g3)) (F3 : Fun K "least_plan" "least_plan" sLp g3 gd3) (b3 : Binds K gd3 ["farms", "ways"] []) (G3 : FnOk P w K mg base CX0 5 g3 gd3 ["farms", "ways"] (spLp K C T)) : FnOk P w K mg base CX0 6 f fd ["pens"] (spCtm T) := by
  refine FF.ok scCm (fun vs H Q E h => ?_) (fun cdv A outer s H vs Q E hr h => ?_)
  · obtain ⟨a, as, pens, rfl, _⟩ := h
    rfl
  · obtain ⟨a, as, pens, rfl, ha, hp, hlen, hl, htab, k⟩ := h
    refine ⟨_, pss_cons (ps_setLc (i := 1) (own := [("many", 3)]) rfl scCm.nd rfl rfl rfl (pi_list (pe_call G1 (hr.mono (by decide)) (by rfl) mg1 F1.kp b1 .nil pass0 (pa_cons (pv 0) pa_nil))) (blkOk_by (by rfl)) (fun _ _ _ _ _ => pg_name (i := 3) scCm.nd rfl (Or.inl rfl))
        (fun _ _ _ _ _ => by exact pts_one (pt_cmpR op_gt (pv 3) pe_int (nomark _))) (fun _ _ _ _ _ => by exact pv 3))
      (pss_cons (ps_if (pt_not (pt_truth (pv 1) (fun _ => rfl))) (pss_one (ps_ret pe_int)) pss_nil)
      (pss_cons (ps_set (i := 2) scCm.nd rfl (Or.inl rfl) (pe_callB (cr_sum rfl) (by rfl) N.sum PyProof.Rows.boot_sum (pa_cons (pe_lc (own := [("farm", 4)]) rfl scCm.nd (pi_list (pe_call G2 (hr.mono (by decide)) (by rfl) mg2 F2.kp b2 .nil pass0 (pa_cons (pv 0) pa_nil))) (blkOk_by (by rfl)) (fun _ _ _ _ _ => pg_name (i := 4) scCm.nd rfl (Or.inl rfl)) (fun _ _ _ _ _ => pts_nil)
        (fun _ _ _ _ _ => by exact pe_callB (cr_sumK (K := K) rfl rfl) (by rfl) N.sum PyProof.Rows.boot_sum (pa_cons (pe_ix (ix_listK (K := K) rfl) (pv 0) (pv 4) (fun _ _ => rfl)) pa_nil))) pa_nil)))
      (pss_one (ps_ret (pe_op op_add (pv 2) (pe_fld (pe_call G3 (hr.mono (by decide)) (by rfl) mg3 F3.kp b3 .nil pass0 (pa_cons (pv 1) (pa_cons pe_int pa_nil))) rfl)))))), ?_⟩
    have line := sizeLine_eq
    have hal : as.length = pens.length := paired_len hp
    have hsl := strangers_len pens
    refine ⟨_, rfl, a, as, pens, rfl, ha, hp, hlen, hl, fun H1 l1 s1 n1 hl1 => ⟨l1, rfl, ⟨_, SqL.of hl1⟩, fun D hD => lc_list (K := K) (a := l1) (xs := (Vbsyad.strangers pens).map nV)
      (fun i H' => Same H1 H' ∧ H' D = some (.lst ((((Vbsyad.strangers pens).take i).filter fun c => decide (0 < c)).map nV))) ⟨Same.new hD, upd_same⟩ (fun i H' _ q => SqL.of (q.1 _ _ hl1)) (fun i x H' hx ⟨sm, hd⟩ => ?_) (fun H2 ⟨sm2, hd2⟩ => ?_)⟩⟩
    · obtain ⟨c, hc, rfl⟩ : ∃ c, (Vbsyad.strangers pens)[i]? = some c ∧ x = nV c := by
        rw [List.getElem?_map] at hx
        cases e : (Vbsyad.strangers pens)[i]? with
        | none => rw [e] at hx; cases hx
        | some z => rw [e] at hx; exact ⟨z, rfl, (Option.some.inj hx).symm⟩
      have hf : (((Vbsyad.strangers pens).take (i + 1)).filter fun c => decide (0 < c)) = (((Vbsyad.strangers pens).take i).filter fun c => decide (0 < c)) ++ (if 0 < c then [c] else []) := by
        rw [List.take_add_one, hc, List.filter_append]
        congr 1
        by_cases e : 0 < c
        · simp [e]
        · simp [e]
      have hfl : (((Vbsyad.strangers pens).take i).filter fun c => decide (0 < c)).length ≤ 8 := by
        refine Nat.le_trans (List.length_filter_le _ _) ?_
        rw [List.length_take]; omega
      refine ⟨rfl, _, rfl, _, _, rfl, rfl, _, rfl, ?_⟩
      refine ite2 (fun h => ?_) (fun h => ?_)
      · have h' : 0 < c := by
          have := of_decide_eq_true h
          omega
        refine ⟨_, rfl, _, hd, by rw [List.length_map, line]; omega, sm.over hD, ?_⟩
        rw [upd_same, hf, if_pos h', List.map_append]
        rfl
      · have h' : ¬ 0 < c := fun e => h (decide_eq_true (by omega))
        refine ⟨sm, ?_⟩
        rw [hf, if_neg h', List.append_nil]
        exact hd
    rw [List.length_map, List.take_length] at hd2
    have sm := s1.trans sm2
    have hfl : ((Vbsyad.strangers pens).filter fun c => decide (0 < c)).length ≤ 8 := by
      refine Nat.le_trans (List.length_filter_le _ _) ?_
      omega
    refine ⟨_, rfl, _, .inl ⟨_, SqL.of hd2, rfl⟩, ?_⟩
    by_cases h0 : ((Vbsyad.strangers pens).filter fun c => decide (0 < c)) = []
    · rw [h0]
      refine iteT ?_
      have := k H2 sm.but (htab.same sm)
      rw [mended_none hl h0] at this
      exact this
    · have h0' : 0 < ((Vbsyad.strangers pens).filter fun c => decide (0 < c)).length := List.length_pos_iff.mpr h0
      have hb0 : (!(!(((Vbsyad.strangers pens).filter fun c => decide (0 < c)).map nV).isEmpty)) = false := by
        rw [Bool.not_not, List.isEmpty_eq_false_iff]
        intro e
        exact h0 (List.map_eq_nil_iff.mp e)
      refine (by intro A B h; rw [hb0]; exact iteF h : ∀ {A B : Prop}, B → (if (!(!(((Vbsyad.strangers pens).filter fun c => decide (0 < c)).map nV).isEmpty)) = true then A else B)) ?_
      refine ⟨_, rfl, a, as, pens, rfl, sm _ _ ha, hp.same sm, hlen, hl, fun H3 l3 s3 n3 hl3 => ⟨l3, rfl, ⟨_, SqL.of hl3⟩, fun D2 hD2 => lc_list (K := K) (a := l3) (xs := (Vbsyad.mixedPens pens).map nV)
        (fun i H' => Same H3 H' ∧ H' D2 = some (.lst (((Vbsyad.mixedPens pens).take i).map fun p => nV (pens.getD p []).sum))) ⟨Same.new hD2, upd_same⟩ (fun i H' _ q => SqL.of (q.1 _ _ hl3)) (fun i x H' hx ⟨sm3, hd⟩ => ?_) (fun H4 ⟨sm4, hd4⟩ => ?_)⟩⟩
      · obtain ⟨p, hc, rfl⟩ : ∃ c, (Vbsyad.mixedPens pens)[i]? = some c ∧ x = nV c := by
          rw [List.getElem?_map] at hx
          cases e : (Vbsyad.mixedPens pens)[i]? with
          | none => rw [e] at hx; cases hx
          | some z => rw [e] at hx; exact ⟨z, rfl, (Option.some.inj hx).symm⟩
        have hpl : p < pens.length := by
          have := List.mem_of_getElem? hc
          unfold Vbsyad.mixedPens at this
          exact List.mem_range.mp (List.mem_filter.mp this).1
        obtain ⟨b, hb⟩ : ∃ b, as[p]? = some b := ⟨_, List.getElem?_eq_getElem (by omega)⟩
        obtain ⟨l, hli, hlb⟩ := paired_get hp hb
        have s23 := (sm.trans s3).trans sm3
        have hml : (Vbsyad.mixedPens pens).length ≤ 8 := by
          unfold Vbsyad.mixedPens
          refine Nat.le_trans (List.length_filter_le _ _) ?_
          rw [List.length_range]; exact hlen
        refine ⟨rfl, yes_of ?_⟩
        refine ⟨_, rfl, _, rfl, a, _, _, V.ref b, rfl, rfl, SqL.of (s23 _ _ ha), atI_nat (by rw [List.getElem?_map, hb]; rfl), b, l.map fun (n : Nat) => (n : Int), rfl, SqL.of (by rw [ints_nV]; exact s23 _ _ hlb), _, hd, ?_, sm3.over hD2, ?_⟩
        · rw [List.length_map, List.length_take, line]; omega
        · rw [upd_same, List.take_add_one, hc, List.map_append, sum_cast]
          congr 3
          show [nV l.sum] = [nV (pens.getD p []).sum]
          rw [getD_some hli]
      rw [List.length_map, List.take_length] at hd4
      refine ⟨D2, ((Vbsyad.mixedPens pens).map fun p => (pens.getD p []).sum).map fun (n : Nat) => (n : Int), rfl, SqL.of (by rw [hd4, ints_nV, List.map_map]; rfl), ?_⟩
      rw [sum_cast]
      have s4 := s3.trans sm4
      have s5 := sm.trans s4
      refine ⟨_, rfl, _, rfl, D, 2, (Vbsyad.strangers pens).filter fun c => decide (0 < c), rfl, SqL.of (s4 _ _ hd2), h0', hfl, .inl rfl, htab.same s5, fun H5 b sh bt tb hb => ?_⟩
      obtain ⟨dy, ln, k1, k2⟩ := hb
      refine ⟨b, C, dy, _, _, rfl, k1, PC.cl, PC.nC, planF_cost _ _ _, _, _, rfl, rfl, ?_⟩
      have := k H5 (s5.but.trans bt) tb
      rw [mended_some] at this
      exact this
end
end Shed
end
section
set_option Elab.async false
set_option linter.all false
set_option maxRecDepth 100000
set_option maxHeartbeats 2000000
namespace Shed
open PySem PySem.Spec PyProof.Rows L2
open Vbsyad (State step)
abbrev sBegin : Stmt := inClass (top 13) 1
theorem putF_le {f : Str} {v : V} : ∀ {fs : List (Str × V)}, (putF f v fs).length ≤ fs.length + 1
  | [] => Nat.le_refl _
  | (k, x) :: r => by
    rw [show putF f v ((k, x) :: r) = (if k = f then (k, v) :: r else (k, x) :: putF f v r) from rfl]
    by_cases e : k = f
    · rw [if_pos e]; exact Nat.le_succ _
    · rw [if_neg e, List.length_cons, List.length_cons]
      exact Nat.succ_le_succ putF_le
section
variable {P : Program} {w : World} {K : PySem.W.Frag} {mg : Str → Option Value} {base : Heap} {cO cN C F T : Addr}
def Begun (F : Addr) (H : Hp) (fl : Addr) (cs : List Nat) (Q : VK) : Prop := ∀ H' : Hp, FlockAt F H' fl ⟨cs, [], Vbsyad.noPens cs.length⟩ → (∀ b o, b ≠ fl → H b = some o → H' b = some o) → Q .non H'
theorem good_begun {cs : List Nat} (h1 : 1 ≤ cs.length) (h8 : cs.length ≤ 8) (hc : ∀ x ∈ cs, x ≤ 1000) : Good ⟨cs, [], Vbsyad.noPens cs.length⟩ := by
  have e : (Vbsyad.noPens cs.length).length = cs.length := List.length_replicate
  refine ⟨h1, h8, hc, Nat.zero_le _, (fun x hx => by cases hx), e, fun l hl => ?_⟩
  have hl : l ∈ List.replicate cs.length (List.replicate cs.length 0) := hl
  rw [List.eq_of_mem_replicate hl, List.length_replicate]
  exact e.symm
theorem rep_zero (n : Nat) : (List.replicate n [V.int 0]).flatten = (List.replicate n 0).map nV := by
  rw [List.map_replicate]
  induction n with
  | zero => rfl
  | succ n ih => rw [List.replicate_succ, List.flatten_cons, ih, List.replicate_succ]; rfl
theorem scBg : FnScope ["self", "farms", "farm"] ["self", "farms"] (defScope sBegin) := ⟨rfl, rfl, rfl, by decide +kernel, rfl, by decide +kernel, by decide +kernel⟩
def spBeginL (K : PySem.W.Frag) (F : Addr) : Sp := fun vs H Q _ => ∃ (fl dx fa : Addr) (fs : List (Str × V)) (cs : List Nat), vs = [.ref fl, .ref fa] ∧ H fl = some (.ins F dx fs) ∧ fs.length ≤ 10 ∧ (∀ x y z : V, (putF "pens" z (putF "row" y (putF "farms" x fs))).length ≤ 10) ∧ fs.lookup ("begin_with" : Str) = none ∧
  SqL K H fa (cs.map nV) ∧ 1 ≤ cs.length ∧ cs.length ≤ 8 ∧ (∀ x ∈ cs, x ≤ 1000) ∧ Begun F H fl cs Q
theorem ok_beginL {f : Addr} {fd : FuncData} (FF : Fun K "begin_with" "Flock.begin_with" sBegin f fd) (N : Names mg cO cN) (FC : FlockCls K mg F) : FnOk P w K mg base CX0 1 f fd ["self", "farms"] (spBeginL K F) := by
  refine FF.ok scBg (fun vs H Q E h => ?_) (fun cdv A outer s H vs Q E hr h => ?_)
  · obtain ⟨fl, dx, fa, fs, cs, rfl, _⟩ := h
    rfl
  · obtain ⟨fl, dx, fa, fs, cs, rfl, h1, h2, hput, hnb, hs, n1, n8, hc, k⟩ := h
    refine ⟨_, pss_cons (ps_fld (pv 0) (pe_callTy call_list_of (by rfl) N.list PyProof.Rows.boot_list (pa_cons (pv 1) pa_nil)) rfl)
      (pss_cons (ps_fld (pv 0) (pe_lst pa_nil) rfl)
      (pss_one (ps_fld (pv 0) (pe_lc (own := [("farm", 2)]) rfl scBg.nd (pi_list (pv 1)) (blkOk_by (by rfl)) (fun _ _ _ _ _ => pg_name (i := 2) scBg.nd rfl (Or.inl rfl)) (fun _ _ _ _ _ => pts_nil)
        (fun _ _ _ _ _ => by exact pe_op op_rep (pe_lst (pa_cons pe_int pa_nil)) (pe_callB (call_lenK (K := K) rfl) (by rfl) N.len PySem.boot_len (pa_cons (pv 1) pa_nil)))) rfl))), ?_⟩
    have line := sizeLine_eq
    refine ⟨_, rfl, fa, _, rfl, .inl hs, fun l1 hl1 => ?_⟩
    have s1 := Same.new (o := .lst (cs.map nV)) hl1
    have nl1 : l1 ≠ fl := by rintro rfl; rw [h1] at hl1; cases hl1
    refine ⟨_, rfl, fl, F, dx, fs, rfl, s1 _ _ h1, FC.cl, FC.nF, by omega, ?_⟩
    refine ⟨by show 0 ≤ sizeLine; decide, fun l2 hl2 => ?_⟩
    have n2 : l2 ≠ fl := by rintro rfl; rw [upd_same] at hl2; cases hl2
    rw [upd_ne n2] at hl2
    have n12 : l2 ≠ l1 := by rintro rfl; rw [upd_same] at hl2; cases hl2
    have f1 : (putF "farms" (V.ref l1) fs).length ≤ 11 := Nat.le_trans putF_le (by omega)
    refine ⟨_, rfl, fl, F, dx, _, rfl, by rw [upd_ne n2.symm, upd_same], FC.cl, FC.nR, by omega, ?_⟩
    obtain ⟨H2, eH2⟩ : ∃ H2 : Hp, H2 = (upd (upd (upd (upd H l1 (.lst (cs.map nV))) fl (.ins F dx (putF "farms" (V.ref l1) fs))) l2 (.lst [])) fl (.ins F dx (putF "row" (V.ref l2) (putF "farms" (V.ref l1) fs)))) := ⟨_, rfl⟩
    rw [← eH2]
    have k2 : ∀ b o, b ≠ fl → H b = some o → H2 b = some o := fun b o nb e => by
      have e1 := s1 _ _ e
      rw [eH2, upd_ne nb, upd_ne (ne_of_none e1 hl2), upd_ne nb]
      exact e1
    have g0 : H2 fl = some (.ins F dx (putF "row" (V.ref l2) (putF "farms" (V.ref l1) fs))) := by rw [eH2, upd_same]
    have g1 : H2 l1 = some (.lst (cs.map nV)) := by rw [eH2, upd_ne nl1, upd_ne n12.symm, upd_ne nl1, upd_same]
    have g2 : H2 l2 = some (.lst []) := by rw [eH2, upd_ne n2, upd_same]
    have hs2 : SqL K H2 fa (cs.map nV) := hs.keep fun o e ho => k2 _ _ (ne_of e h1 (by rcases ho with rfl | ⟨ob, rfl⟩ <;> exact fun z => nomatch z)) e
    refine ⟨_, rfl, fa, rfl, ⟨_, hs2⟩, fun D hD => lc_list (K := K) (a := fa) (xs := cs.map nV) (fun i H' => Same H2 H' ∧ ∃ as : List Addr, H' D = some (.lst (as.map V.ref)) ∧ RowsOn (hid H' D) as (List.replicate i (List.replicate cs.length 0)))
      ⟨Same.new hD, [], upd_same, .nil⟩ (fun i H' _ q => hs2.keep fun o e _ => q.1 _ _ e) (fun i x H' hx ⟨sm, as, hd, hp⟩ => ?_) (fun H3 ⟨sm, as, hd, hp⟩ => ?_)⟩
    · have hi : i < cs.length := by
        have := (List.getElem?_eq_some_iff.mp hx).1
        rw [List.length_map] at this
        exact this
      have hal : as.length = i := by rw [paired_len hp, List.length_replicate]
      refine ⟨rfl, yes_of ?_⟩
      refine ⟨by show 1 ≤ sizeLine; decide, fun p1 hp1 => ?_⟩
      have t1 := Same.new (o := .lst [V.int 0]) hp1
      refine ⟨_, rfl, fa, _, rfl, .inl (hs2.keep fun o e _ => t1 _ _ (sm _ _ e)), p1, _, _, rfl, rfl, upd_same, by rw [List.length_map]; omega, by rw [List.length_map]; omega, ?_, fun p2 hp2 => ?_⟩
      · rw [List.length_map, Int.toNat_natCast, line]
        show 1 * cs.length ≤ 16777216
        omega
      rw [List.length_map, Int.toNat_natCast, rep_zero]
      have t2 := Same.new (o := .lst ((List.replicate cs.length 0).map nV)) hp2
      have t12 := t1.trans t2
      have nd : p2 ≠ D := Ne.symm (ne_of_none (t1 _ _ hd) hp2)
      refine ⟨_, t12 _ _ hd, ?_, (sm.trans t12).over hD, as ++ [p2], ?_, ?_⟩
      · rw [List.length_map, hal, line]; omega
      · rw [upd_same, List.map_append]
        rfl
      · rw [hid_upd, List.replicate_succ']
        exact paired_snoc (RowsOn.same hp (hid_mono t12)) (hid_get upd_same nd)
    rw [List.length_map] at hp
    refine ⟨_, rfl, fl, F, dx, _, rfl, sm _ _ g0, FC.cl, FC.nP, Nat.lt_of_le_of_lt putF_le (by omega), ?_⟩
    have nD : D ≠ fl := by rintro rfl; rw [g0] at hD; cases hD
    refine k _ ⟨dx, _, l1, l2, upd_same, hput _ _ _, ?_, ?_, ?_, ?_, good_begun n1 n8 hc, ?_, D, as, ?_, ?_, ?_⟩ fun b o nb e => ?_
    · rw [lookup_putF, if_neg (by decide), lookup_putF, if_neg (by decide), lookup_putF, if_pos rfl]
    · rw [upd_ne nl1]; exact sm _ _ g1
    · rw [lookup_putF, if_neg (by decide), lookup_putF, if_pos rfl]
    · rw [upd_ne n2]; exact sm _ _ g2
    · rw [lookup_putF, if_neg (by decide), lookup_putF, if_neg (by decide), lookup_putF, if_neg (by decide)]; exact hnb
    · rw [lookup_putF, if_pos rfl]
    · rw [upd_ne nD]; exact hd
    · refine Paired.mapP hp fun b l e => ?_
      have e := hid_same _ _ _ _ e
      rw [upd_ne (ne_of e (sm _ _ g0) fun z => nomatch z)]
      exact e
    · rw [upd_ne nb]
      exact sm _ _ (k2 b o nb e)
def spBeginT (K : PySem.W.Frag) (F : Addr) : Sp := fun vs H Q _ => ∃ (fl dx fa : Addr) (fs : List (Str × V)) (cs : List Nat), vs = [.ref fl, .ref fa] ∧ H fl = some (.ins F dx fs) ∧ fs.length ≤ 10 ∧ (∀ x y z : V, (putF "pens" z (putF "row" y (putF "farms" x fs))).length ≤ 10) ∧ fs.lookup ("begin_with" : Str) = none ∧
  SqT K H fa (cs.map nV) ∧ 1 ≤ cs.length ∧ cs.length ≤ 8 ∧ (∀ x ∈ cs, x ≤ 1000) ∧ Begun F H fl cs Q
theorem ok_beginT {f : Addr} {fd : FuncData} (FF : Fun K "begin_with" "Flock.begin_with" sBegin f fd) (N : Names mg cO cN) (FC : FlockCls K mg F) : FnOk P w K mg base CX0 1 f fd ["self", "farms"] (spBeginT K F) := by
  refine FF.ok scBg (fun vs H Q E h => ?_) (fun cdv A outer s H vs Q E hr h => ?_)
  · obtain ⟨fl, dx, fa, fs, cs, rfl, _⟩ := h
    rfl
  · obtain ⟨fl, dx, fa, fs, cs, rfl, h1, h2, hput, hnb, hs, n1, n8, hc, k⟩ := h
    refine ⟨_, pss_cons (ps_fld (pv 0) (pe_callTy call_list_of (by rfl) N.list PyProof.Rows.boot_list (pa_cons (pv 1) pa_nil)) rfl)
      (pss_cons (ps_fld (pv 0) (pe_lst pa_nil) rfl)
      (pss_one (ps_fld (pv 0) (pe_lc (own := [("farm", 2)]) rfl scBg.nd (pi_tup (pv 1)) (blkOk_by (by rfl)) (fun _ _ _ _ _ => pg_name (i := 2) scBg.nd rfl (Or.inl rfl)) (fun _ _ _ _ _ => pts_nil)
        (fun _ _ _ _ _ => by exact pe_op op_rep (pe_lst (pa_cons pe_int pa_nil)) (pe_callB (call_lenK (K := K) rfl) (by rfl) N.len PySem.boot_len (pa_cons (pv 1) pa_nil)))) rfl))), ?_⟩
    have line := sizeLine_eq
    refine ⟨_, rfl, fa, _, rfl, .inr hs, fun l1 hl1 => ?_⟩
    have s1 := Same.new (o := .lst (cs.map nV)) hl1
    have nl1 : l1 ≠ fl := by rintro rfl; rw [h1] at hl1; cases hl1
    refine ⟨_, rfl, fl, F, dx, fs, rfl, s1 _ _ h1, FC.cl, FC.nF, by omega, ?_⟩
    refine ⟨by show 0 ≤ sizeLine; decide, fun l2 hl2 => ?_⟩
    have n2 : l2 ≠ fl := by rintro rfl; rw [upd_same] at hl2; cases hl2
    rw [upd_ne n2] at hl2
    have n12 : l2 ≠ l1 := by rintro rfl; rw [upd_same] at hl2; cases hl2
    have f1 : (putF "farms" (V.ref l1) fs).length ≤ 11 := Nat.le_trans putF_le (by omega)
    refine ⟨_, rfl, fl, F, dx, _, rfl, by rw [upd_ne n2.symm, upd_same], FC.cl, FC.nR, by omega, ?_⟩
    obtain ⟨H2, eH2⟩ : ∃ H2 : Hp, H2 = (upd (upd (upd (upd H l1 (.lst (cs.map nV))) fl (.ins F dx (putF "farms" (V.ref l1) fs))) l2 (.lst [])) fl (.ins F dx (putF "row" (V.ref l2) (putF "farms" (V.ref l1) fs)))) := ⟨_, rfl⟩
    rw [← eH2]
    have k2 : ∀ b o, b ≠ fl → H b = some o → H2 b = some o := fun b o nb e => by
      have e1 := s1 _ _ e
      rw [eH2, upd_ne nb, upd_ne (ne_of_none e1 hl2), upd_ne nb]
      exact e1
    have g0 : H2 fl = some (.ins F dx (putF "row" (V.ref l2) (putF "farms" (V.ref l1) fs))) := by rw [eH2, upd_same]
    have g1 : H2 l1 = some (.lst (cs.map nV)) := by rw [eH2, upd_ne nl1, upd_ne n12.symm, upd_ne nl1, upd_same]
    have g2 : H2 l2 = some (.lst []) := by rw [eH2, upd_ne n2, upd_same]
    have hs2 : SqT K H2 fa (cs.map nV) := hs.keep fun o e ho => k2 _ _ (ne_of e h1 (by rcases ho with rfl | ⟨ob, rfl⟩ <;> exact fun z => nomatch z)) e
    refine ⟨_, rfl, fa, rfl, ⟨_, hs2⟩, fun D hD => lc_tup (K := K) (a := fa) (xs := cs.map nV) (fun i H' => Same H2 H' ∧ ∃ as : List Addr, H' D = some (.lst (as.map V.ref)) ∧ RowsOn (hid H' D) as (List.replicate i (List.replicate cs.length 0)))
      ⟨Same.new hD, [], upd_same, .nil⟩ (fun i H' _ q => hs2.keep fun o e _ => q.1 _ _ e) (fun i x H' hx ⟨sm, as, hd, hp⟩ => ?_) (fun H3 ⟨sm, as, hd, hp⟩ => ?_)⟩
    · have hi : i < cs.length := by
        have := (List.getElem?_eq_some_iff.mp hx).1
        rw [List.length_map] at this
        exact this
      have hal : as.length = i := by rw [paired_len hp, List.length_replicate]
      refine ⟨rfl, yes_of ?_⟩
      refine ⟨by show 1 ≤ sizeLine; decide, fun p1 hp1 => ?_⟩
      have t1 := Same.new (o := .lst [V.int 0]) hp1
      refine ⟨_, rfl, fa, _, rfl, .inr (hs2.keep fun o e _ => t1 _ _ (sm _ _ e)), p1, _, _, rfl, rfl, upd_same, by rw [List.length_map]; omega, by rw [List.length_map]; omega, ?_, fun p2 hp2 => ?_⟩
      · rw [List.length_map, Int.toNat_natCast, line]
        show 1 * cs.length ≤ 16777216
        omega
      rw [List.length_map, Int.toNat_natCast, rep_zero]
      have t2 := Same.new (o := .lst ((List.replicate cs.length 0).map nV)) hp2
      have t12 := t1.trans t2
      have nd : p2 ≠ D := Ne.symm (ne_of_none (t1 _ _ hd) hp2)
      refine ⟨_, t12 _ _ hd, ?_, (sm.trans t12).over hD, as ++ [p2], ?_, ?_⟩
      · rw [List.length_map, hal, line]; omega
      · rw [upd_same, List.map_append]
        rfl
      · rw [hid_upd, List.replicate_succ']
        exact paired_snoc (RowsOn.same hp (hid_mono t12)) (hid_get upd_same nd)
    rw [List.length_map] at hp
    refine ⟨_, rfl, fl, F, dx, _, rfl, sm _ _ g0, FC.cl, FC.nP, Nat.lt_of_le_of_lt putF_le (by omega), ?_⟩
    have nD : D ≠ fl := by rintro rfl; rw [g0] at hD; cases hD
    refine k _ ⟨dx, _, l1, l2, upd_same, hput _ _ _, ?_, ?_, ?_, ?_, good_begun n1 n8 hc, ?_, D, as, ?_, ?_, ?_⟩ fun b o nb e => ?_
    · rw [lookup_putF, if_neg (by decide), lookup_putF, if_neg (by decide), lookup_putF, if_pos rfl]
    · rw [upd_ne nl1]; exact sm _ _ g1
    · rw [lookup_putF, if_neg (by decide), lookup_putF, if_pos rfl]
    · rw [upd_ne n2]; exact sm _ _ g2
    · rw [lookup_putF, if_neg (by decide), lookup_putF, if_neg (by decide), lookup_putF, if_neg (by decide)]; exact hnb
    · rw [lookup_putF, if_pos rfl]
    · rw [upd_ne nD]; exact hd
    · refine Paired.mapP hp fun b l e => ?_
      have e := hid_same _ _ _ _ e
      rw [upd_ne (ne_of e (sm _ _ g0) fun z => nomatch z)]
      exact e
    · rw [upd_ne nb]
      exact sm _ _ (k2 b o nb e)
structure Begins (P : Program) (w : World) (K : PySem.W.Frag) (mg : Str → Option Value) (base : Heap) (F gB : Addr) : Prop where
  meth : Meth K F "begin_with" gB
  ex : ∃ gd : FuncData, Binds K gd ["self", "farms"] [] ∧ FnOk P w K mg base CX0 1 gB gd ["self", "farms"] (spBeginL K F) ∧ FnOk P w K mg base CX0 1 gB gd ["self", "farms"] (spBeginT K F)
def AtFirst (K : PySem.W.Frag) (mg : Str → Option Value) : Prop := ∃ ta, mg "FARMS_AT_FIRST" = some (.ref ta) ∧ ∀ H, SqT K H ta [nV 0]
theorem put_three {fs : List (Str × V)} {a r p : V} (h : fs.length ≤ 10) (h1 : fs.lookup ("farms" : Str) = some a) (h2 : fs.lookup ("row" : Str) = some r) (h3 : fs.lookup ("pens" : Str) = some p) (x y z : V) : (putF "pens" z (putF "row" y (putF "farms" x fs))).length ≤ 10 := by
  rw [putF_len (u := p) (by rw [lookup_putF, if_neg (by decide), lookup_putF, if_neg (by decide)]; exact h3), putF_len (u := r) (by rw [lookup_putF, if_neg (by decide)]; exact h2), putF_len h1]
  exact h
end
end Shed
end
section
set_option Elab.async false
set_option linter.all false
set_option maxRecDepth 100000
set_option maxHeartbeats 2000000
namespace Shed
open PySem PySem.Spec PyProof.Rows L2
open Vbsyad (State step)
abbrev sAFarms : Stmt := top 42
abbrev sASheep : Stmt := top 51
abbrev dWc (P : Program) (w : World) (K : PySem.W.Frag) (mg : Str → Option Value) (base : Heap) : Prop := Def P w K mg base CX0 1 "with_count" sWc ["numbers"] spWc
abbrev dCf (P : Program) (w : World) (K : PySem.W.Frag) (mg : Str → Option Value) (base : Heap) : Prop := Def P w K mg base CX0 1 "cost_for" sCf ["pens", "sheep"] (spCf K)
abbrev dPo (P : Program) (w : World) (K : PySem.W.Frag) (mg : Str → Option Value) (base : Heap) : Prop := Def P w K mg base CX0 1 "places_of" sPo ["farm", "row"] (spPo K)
abbrev dPws (P : Program) (w : World) (K : PySem.W.Frag) (mg : Str → Option Value) (base : Heap) : Prop := Def P w K mg base CX0 1 "pens_with_strangers" sPws ["pens"] spPws
abbrev dSbf (P : Program) (w : World) (K : PySem.W.Frag) (mg : Str → Option Value) (base : Heap) : Prop := Def P w K mg base CX0 2 "strangers_by_farm" sSbf ["pens"] spSbf
abbrev dCtm (P : Program) (w : World) (K : PySem.W.Frag) (mg : Str → Option Value) (base : Heap) (T : Addr) : Prop := Def P w K mg base CX0 6 "cost_to_mend" sCtm ["pens"] (spCtm T)
section
variable {P : Program} {w : World} {K : PySem.W.Frag} {mg : Str → Option Value} {base : Heap} {cO cN C F T : Addr}
theorem scACo : FnScope ["flock", "told", "given", "ways", "pens"] ["flock", "told", "given"] (defScope sACost) := ⟨rfl, rfl, rfl, by decide +kernel, rfl, by decide +kernel, by decide +kernel⟩
theorem ok_cost {f : Addr} {fd : FuncData} (FF : Fun K "answer_cost" "answer_cost" sACost f fd) (N : Names mg cO cN) (c : XCls K cN) (FC : FlockCls K mg F) (d1 : dWays P w K mg base cO) (d2 : dPff P w K mg base cN) (d3 : dCf P w K mg base) :
    FnOk P w K mg base (CXE P w) 8 f fd ["flock", "told", "given"] (spAns K F T cO cN 1 (mk1 5)) := by
  obtain ⟨g3, gd3, mg3, F3, b3, G3⟩ := d3.cx.ex
  obtain ⟨g1, gd1, mg1, F1, b1, G1⟩ := d1.ex
  obtain ⟨g2, gd2, mg2, F2, b2, G2⟩ := d2.ex
  refine FF.okE scACo (fun vs H Q E h => spAns_len h) (fun cdv A outer s0 H vs Q E hr h => ?_)
  obtain ⟨fl, tl, gl, s, told, given, rfl, pre, ht, post⟩ := h
  obtain ⟨x, rfl⟩ := one_of ht
  obtain ⟨dx, fs, a, r, h1, h2, h3, h4, h5, h6, good⟩ := id pre.flock
  refine ⟨_, pss_cons (ps_set (i := 3) scACo.nd rfl (Or.inl rfl) (pe_call G1 (hr.mono (by decide)) (by rfl) mg1 F1.kp b1 .nil passes_def (pa_cons (pv 1) pa_nil)))
    (pss_cons (ps_try (E := fun cls _ H' => cls = .ref cN ∧ Same H H' ∧ ∀ t, Vbsyad.readAll given = some t → Vbsyad.isPlan s.counts.length x.toNat t = false) rfl rfl
        (fun pins xe hp _ => by exact pss_one (ps_set (i := 4) scACo.nd rfl (Or.inl rfl) (pe_call G2 (hr.mono (by decide)) (by rfl) mg2 F2.kp b2 .nil hp (pa_cons (pv 2) (pa_cons (pv 3) (pa_cons (pe_fldK (K := K) rfl (pv 0) rfl) pa_nil))))))
        (ph_cons c (by rfl) N.nap (fun _ => pss_one (ps_ret (pe_lst (pa_cons pe_int pa_nil)))) ph_nil))
    (pss_one (ps_ret (pe_lst (pa_cons pe_int (pa_cons (pe_call G3 (hr.mono (by decide)) (by rfl) mg3 F3.kp b3 .nil passes_def (pa_cons (pv 4) (pa_cons (pe_fld (pv 0) rfl) pa_nil))) (pa_cons (pe_op op_sub (pe_callB call_len_seq (by rfl) N.len PySem.boot_len (pa_cons (pv 2) pa_nil)) (pe_op op_mul pe_int (pe_callB call_len_seq (by rfl) N.len PySem.boot_len (pa_cons (pv 4) pa_nil)))) pa_nil))))))), ?_⟩
  refine ⟨_, rfl, tl, x, [], rfl, pre.hTold, fun g1 g2 => ?_, fun g => post.oor (step_out (d := .cost x given) rfl (gate_no g)) H (Same.refl H).kept pre.tab pre.flock⟩
  obtain ⟨e1, e2⟩ := gate_nat ⟨g1, g2⟩
  rw [step_in (d := .cost x given) rfl (gate_yes ⟨g1, g2⟩)] at post
  have line := sizeLine_eq
  have ea : (Vbsyad.act s (.cost x given)).2 = (match Vbsyad.readAll given with | none => [0] | some t => if Vbsyad.isPlan s.counts.length x.toNat t = true then [1, (Vbsyad.costOf s.counts t : Int), (Vbsyad.runsIn t : Int)] else [0]) := rfl
  have fin : ∀ (H' : Hp) (zs : List V) (p : Addr), Same H H' → H' p = none → zs = ((Vbsyad.act s (.cost x given)).2).map V.int → Q (.ref p) (upd H' p (.lst zs)) := fun H' zs p sm0 hp hz => by
    have sm := sm0.trans (Same.new (o := .lst zs) hp)
    refine post.ok _ p sm.kept (pre.tab.same sm) (pre.flock.same sm) ?_
    rw [upd_same, hz]
  refine ⟨⟨_, rfl, _, rfl, _, rfl, fl, F, dx, fs, _, rfl, h1, FC.cl, FC.nF, h3, gl, a, given, x.toNat, s.counts, by rw [← e1]; rfl, pre.hGiven, pre.few, by omega, SqL.of h4, good.n8, fun t ht hpl H1 l sm1 nl hP => ?_, fun hbad H1 sm1 => ⟨rfl, sm1, hbad⟩⟩, ?_⟩
  · obtain ⟨as, hla, hpa⟩ := id hP
    have hal : as.length = (lvI 0 t).length := paired_len hpa
    have hlen := readAll_len ht
    have few := pre.few
    refine ⟨_, rfl, _, rfl, fl, F, dx, fs, _, rfl, sm1 _ _ h1, FC.cl, FC.nF, h3, l, a, t, s.counts, rfl, hP, SqL.of (sm1 _ _ h4), lvI_in hpl, by omega, by omega, fun H2 sm2 => ?_⟩
    have hs2 := sm1.trans sm2
    refine ⟨_, rfl, gl, _, rfl, .inl (hs2.seq pre.hGiven), _, rfl, l, _, rfl, .inl (SqL.of (sm2 _ _ hla)), 2, _, rfl, rfl, .inl ⟨by decide, by decide⟩, _, _, rfl, rfl, by show 3 ≤ sizeLine; decide, fun p hp => fin H2 _ p hs2 hp ?_⟩
    rw [ea, ht]
    show _ = (if Vbsyad.isPlan s.counts.length x.toNat t = true then [1, (Vbsyad.costOf s.counts t : Int), (Vbsyad.runsIn t : Int)] else [0]).map V.int
    rw [if_pos hpl, List.length_map, List.length_map, hal, hlen]
    show [V.int 1, V.int _, V.int _] = [V.int 1, V.int _, V.int _]
    congr 3
    simp only [V.int.injEq]
    omega
  · rintro cls σ' H' ⟨rfl, sm, hbad⟩
    refine .inl ⟨rfl, by show 1 ≤ sizeLine; decide, fun p hp => fin H' _ p sm hp ?_⟩
    rw [ea]
    cases e : Vbsyad.readAll given with
    | none => rfl
    | some t =>
      show _ = (if Vbsyad.isPlan s.counts.length x.toNat t = true then [1, (Vbsyad.costOf s.counts t : Int), (Vbsyad.runsIn t : Int)] else [0]).map V.int
      rw [hbad t e]
      rfl
end
end Shed
end
section
set_option Elab.async false
set_option linter.all false
set_option maxRecDepth 100000
set_option maxHeartbeats 2000000
namespace Shed
open PySem PySem.Spec PyProof.Rows L2
open Vbsyad (State step)
def pairOf (H : Hp) (b : Addr) : Int × Nat := match H b with
  | some (.tup [.int z, .int y]) => (z, y.toNat)
  | _ => (0, 0)
theorem pairOf_eq {H : Hp} {b : Addr} {q : Int × Nat} (h : H b = some (.tup [.int q.1, nV q.2])) : pairOf H b = q := by
  unfold pairOf
  rw [h]
  show (q.1, ((q.2 : Int)).toNat) = q
  rw [Int.toNat_natCast]
theorem pairs_map {H : Hp} : ∀ {as : List Addr} {ps : List (Int × Nat)}, Paired (fun (a : Addr) (q : Int × Nat) => H a = some (.tup [.int q.1, nV q.2])) as ps → as.map (pairOf H) = ps
  | _, _, .nil => rfl
  | _, _, .cons r t => by rw [List.map_cons, pairOf_eq r, pairs_map t]
section
variable {P : Program} {w : World} {K : PySem.W.Frag} {mg : Str → Option Value} {base : Heap} {cO cN C F T : Addr}
theorem scAD : FnScope ["flock", "told", "given", "pens", "farm", "runs"] ["flock", "told", "given"] (defScope sADepths) := ⟨rfl, rfl, rfl, by decide +kernel, rfl, by decide +kernel, by decide +kernel⟩
theorem onPlan_no {s : State} {l : List Int} {g : Vbsyad.Tree → State × List Int} (h : ∀ t, Vbsyad.readAll l = some t → Vbsyad.isPlan s.counts.length 3 t = false) : Vbsyad.onPlan s l g = (s, [-7]) := by
  unfold Vbsyad.onPlan
  cases e : Vbsyad.readAll l with
  | none => rfl
  | some t =>
    show (if Vbsyad.isPlan (Vbsyad.farmsIn s) 3 t = true then g t else Vbsyad.no s 7) = _
    rw [show Vbsyad.isPlan (Vbsyad.farmsIn s) 3 t = false from h t e]
    rfl
theorem onPlan_yes {s : State} {l : List Int} {t : Vbsyad.Tree} {g : Vbsyad.Tree → State × List Int} (h : Vbsyad.readAll l = some t) (hp : Vbsyad.isPlan s.counts.length 3 t = true) : Vbsyad.onPlan s l g = g t := by
  unfold Vbsyad.onPlan
  rw [h]
  show (if Vbsyad.isPlan (Vbsyad.farmsIn s) 3 t = true then g t else Vbsyad.no s 7) = _
  rw [show Vbsyad.isPlan (Vbsyad.farmsIn s) 3 t = true from hp]
  rfl
theorem ok_depths {f : Addr} {fd : FuncData} (FF : Fun K "answer_depths" "answer_depths" sADepths f fd) (N : Names mg cO cN) (FC : FlockCls K mg F) (d2 : dPff P w K mg base cN) (d3 : dWc P w K mg base) :
    FnOk P w K mg base (CXE P w) 8 f fd ["flock", "told", "given"] (spAns K F T cO cN 0 (mk1 6)) := by
  obtain ⟨g3, gd3, mg3, F3, b3, G3⟩ := d3.cx.ex
  obtain ⟨t3, hmost⟩ := N.mostw
  obtain ⟨g2, gd2, mg2, F2, b2, G2⟩ := d2.ex
  refine FF.okE scAD (fun vs H Q E h => spAns_len h) (fun cdv A outer s0 H vs Q E hr h => ?_)
  obtain ⟨fl, tl, gl, s, told, given, rfl, pre, htold, post⟩ := h
  obtain rfl := List.eq_nil_of_length_eq_zero htold
  obtain ⟨dx, fs, a, r, h1, h2, h3, h4, h5, h6, good⟩ := id pre.flock
  refine ⟨_, pss_cons (ps_set (i := 3) scAD.nd rfl (Or.inl rfl) (pe_call G2 (hr.mono (by decide)) (by rfl) mg2 F2.kp b2 .nil passes_def (pa_cons (pv 2) (pa_cons (pe_glob (v := .int 3) (by rfl) hmost ⟨t3, rfl⟩) (pa_cons (pe_fld (pv 0) rfl) pa_nil)))))
    (pss_one (ps_ret (pe_call G3 (hr.mono (by decide)) (by rfl) mg3 F3.kp b3 .nil passes_def (pa_cons
      (pe_lc (own := [("farm", 4), ("runs", 5)]) rfl scAD.nd (pi_list (pe_callB cr_sortedT (by rfl) N.sorted PyProof.Rows.boot_sorted (pa_cons (pv 3) pa_nil))) (blkOk_by (by rfl))
        (fun _ _ _ _ _ => by exact pg_tupK (K := K) (n := 2) rfl rfl (pgs_cons (pg_name (i := 4) scAD.nd rfl (Or.inl rfl)) (pgs_cons (pg_name (i := 5) scAD.nd rfl (Or.inl rfl)) pgs_nil))) (fun _ _ _ _ _ => pts_nil) (fun _ _ _ _ _ => by exact pv 5)) pa_nil)))), ?_⟩
  rw [step_in (d := .depths given) rfl rfl] at post
  have line := sizeLine_eq
  refine ⟨_, rfl, _, rfl, fl, F, dx, fs, _, rfl, h1, FC.cl, FC.nF, h3, gl, a, given, 3, s.counts, rfl, pre.hGiven, pre.few, by omega, SqL.of h4, good.n8, fun t ht hpl H1 l sm1 nl hP => ?_, fun hbad H1 sm1 => ?_⟩
  · obtain ⟨as, hla, hpa⟩ := id hP
    have hal : as.length = (lvI 0 t).length := paired_len hpa
    have hlen := readAll_len ht
    have few := pre.few
    have ea : Vbsyad.act s (.depths given) = (s, Vbsyad.listRow ((List.range s.counts.length).map fun f => (Vbsyad.depthOf f t).getD 0)) := onPlan_yes ht hpl
    rw [ea] at post
    have hn : (lvI 0 t).length = s.counts.length := by
      rw [lvI_len, (isPlan_iff.mp hpl).1.length_eq, List.length_range]
    refine ⟨_, rfl, l, as, fun b => (pairOf H1 b).1, rfl, SqL.of hla, by omega, fun b hb => ?_, fun bs p2 hperm hsort hp2 => ?_⟩
    · obtain ⟨q, _, hq⟩ := paired_take hpa b hb
      exact ⟨(q.2 : Int), by dsimp only; rw [pairOf_eq hq]; exact hq⟩
    have s3 := Same.new (o := .lst (bs.map V.ref)) hp2
    have hys : (bs.map (pairOf H1)).Perm (lvI 0 t) := by rw [← pairs_map hpa]; exact hperm.map _
    have hfst : (bs.map (pairOf H1)).map (·.1) = rangeI s.counts.length := by
      refine (sorted_range (hys.map (·.1)) ?_).mpr (reads_to ht hpl).2
      rw [List.map_map, List.pairwise_map]
      exact hsort
    have hsnd := depths_sorted hys hfst
    have hbl : bs.length = s.counts.length := by rw [hperm.length_eq, hal, hn]
    refine ⟨p2, rfl, ⟨_, SqL.of upd_same⟩, fun D hD => lc_list (K := K) (a := p2) (xs := bs.map V.ref) (fun i H2 => Same (upd H1 p2 (.lst (bs.map V.ref))) H2 ∧ H2 D = some (.lst ((bs.take i).map fun b => nV (pairOf H1 b).2)))
      ⟨Same.new hD, upd_same⟩ (fun i H2 _ q => SqL.of (q.1 _ _ upd_same)) (fun i y H2 hy ⟨sm, hd⟩ => ?_) (fun H2 ⟨sm2, hd2⟩ => ?_)⟩
    · obtain ⟨b, hb, rfl⟩ := get_ref hy
      obtain ⟨q, _, hq⟩ := paired_take hpa b (hperm.mem_iff.mp (List.mem_of_getElem? hb))
      refine ⟨b, _, rfl, SqT.of (sm _ _ (s3 _ _ hq)), rfl, _, _, rfl, _, _, rfl, rfl, rfl, yes_of ?_⟩
      refine ⟨_, rfl, _, hd, ?_, sm.over hD, ?_⟩
      · rw [List.length_map, List.length_take, line]; have := good.n8; omega
      · rw [upd_same, List.take_add_one, hb, List.map_append]
        congr 3
        show [nV q.2] = [nV (pairOf H1 b).2]
        rw [pairOf_eq hq]
    rw [List.length_map, List.take_length] at hd2
    refine ⟨D, _, rfl, hd2, by rw [List.length_map]; have := good.n8; omega, fun H4 p sm4 np hp => ?_⟩
    have sm := (sm1.trans (s3.trans sm2)).trans sm4
    refine post.ok _ p sm.kept (pre.tab.same sm) (pre.flock.same sm) ?_
    rw [hp]
    have e1 : (bs.map fun b => nV (pairOf H1 b).2) = (((List.range s.counts.length).map fun f => (Vbsyad.depthOf f t).getD 0)).map nV := by
      rw [← hsnd, List.map_map, List.map_map]
      rfl
    rw [e1]
    show some (HO.lst (_ :: _)) = some (HO.lst ((Vbsyad.listRow _).map V.int))
    unfold Vbsyad.listRow VbsyCore.ints
    rw [List.map_cons, List.length_map (f := nV), List.map_map (f := fun (n : Nat) => (n : Int))]
    rfl
  · have ea : Vbsyad.act s (.depths given) = (s, [-7]) := onPlan_no hbad
    exact post.nap ea H1 sm1.kept (pre.tab.same sm1) (pre.flock.same sm1)
theorem scAF : FnScope ["flock", "told", "given"] ["flock", "told", "given"] (defScope sAFarms) := ⟨rfl, rfl, rfl, by decide +kernel, rfl, by decide +kernel, by decide +kernel⟩
theorem Tab.keep {T fl dx F : Addr} {fs : List (Str × V)} {H H' : Hp} (h : Tab T H) (h1 : H fl = some (.ins F dx fs)) (k : ∀ b o, b ≠ fl → H b = some o → H' b = some o) : Tab T H' := by
  rcases h with x | ⟨c, x, y⟩
  · exact .inl (k _ _ (ne_of x h1 (fun z => nomatch z)) x)
  · exact .inr ⟨c, k _ _ (ne_of x h1 (fun z => nomatch z)) x, k _ _ (ne_of y h1 (fun z => nomatch z)) y⟩
theorem _root_.L2.SqL.keepF {K : PySem.W.Frag} {fl dx F a : Addr} {fs : List (Str × V)} {xs : List V} {H H' : Hp} (h : SqL K H a xs) (h1 : H fl = some (.ins F dx fs)) (k : ∀ b o, b ≠ fl → H b = some o → H' b = some o) : SqL K H' a xs :=
  L2.SqL.keep h fun o e ho => k _ _ (ne_of e h1 (by rcases ho with rfl | ⟨ob, rfl⟩ <;> exact fun z => nomatch z)) e
theorem ok_farms {f gB : Addr} {fd : FuncData} (FF : Fun K "answer_farms" "answer_farms" sAFarms f fd) (N : Names mg cO cN) (FC : FlockCls K mg F) (B : Begins P w K mg base F gB) (d2 : dCl P w K mg base cO) :
    FnOk P w K mg base (CXE P w) 8 f fd ["flock", "told", "given"] (spAns K F T cO cN 0 (mk1 0)) := by
  obtain ⟨t8, hmost⟩ := N.mostf
  obtain ⟨t1000, hsheep⟩ := N.mosts
  obtain ⟨g2, gd2, mg2, F2, b2, G2⟩ := d2.ex
  obtain ⟨gdB, bB, GB, _⟩ := B.ex
  have GB := GB.cx (CX := CXE P w)
  refine FF.okE scAF (fun vs H Q E h => spAns_len h) (fun cdv A outer s0 H vs Q E hr h => ?_)
  obtain ⟨fl, tl, gl, s, told, given, rfl, pre, htold, post⟩ := h
  obtain rfl := List.eq_nil_of_length_eq_zero htold
  obtain ⟨dx, fs, a, r, h1, h2, h3, h4, h5, h6, good⟩ := id pre.flock
  refine ⟨_, pss_cons (ps_expr (pe_call G2 (hr.mono (by decide)) (by rfl) mg2 F2.kp b2 .nil passes_def (pa_cons (pv 2) (pa_cons pe_int (pa_cons (pe_glob (v := .int 8) (by rfl) hmost ⟨t8, rfl⟩) (pa_cons (pe_glob (v := .int 1000) (by rfl) hsheep ⟨t1000, rfl⟩) pa_nil))))))
    (pss_cons (ps_expr (pe_meth (pv 0) FC.cl B.meth GB (hr.mono (by decide)) bB .nil passes_def (pa_cons (pv 2) pa_nil)))
    (pss_one (ps_ret (pe_lst (pa_cons (pe_callB (cr_sum rfl) (by rfl) N.sum PyProof.Rows.boot_sum (pa_cons (pv 2) pa_nil)) pa_nil))))), ?_⟩
  have hrng : ¬ (1 ≤ (given.length : Int) ∧ (given.length : Int) ≤ 8 ∧ ∀ y ∈ given, 0 ≤ y ∧ y ≤ 1000) → step s (mk1 0 [] given) = (s, [-1]) := fun h => by
    refine step_out (d := .farms given) rfl (bool_no fun z => ?_)
    have z : (decide (1 ≤ given.length ∧ given.length ≤ Vbsyad.FARMS) && given.all fun c => VbsyCore.isBetween c 0 1000) = true := z
    rw [Bool.and_eq_true, decide_eq_true_eq] at z
    have z2 : given.length ≤ 8 := z.1.2
    exact h ⟨by omega, by omega, all_between.mp z.2⟩
  refine ⟨_, rfl, gl, given, 1, 8, 1000, rfl, pre.hGiven, pre.few, fun k1 k2 k3 => ?_, fun g => post.oor (hrng g) H (Same.refl H).kept pre.tab pre.flock⟩
  have hin : Vbsyad.inRange s (.farms given) = true := by
    show (decide (1 ≤ given.length ∧ given.length ≤ 8) && given.all fun c => VbsyCore.isBetween c 0 1000) = true
    rw [all_between.mpr k3, Bool.and_true, decide_eq_true_eq]
    omega
  rw [step_in (d := .farms given) rfl hin] at post
  obtain ⟨pa, ps, hpa, _, _⟩ := good.pens
  have hgv : SqL K H gl ((given.map Int.toNat).map nV) := by rw [← nats_of fun y hy => (k3 y hy).1]; exact pre.hGiven
  have hle : (given.map Int.toNat).length = given.length := List.length_map _
  refine ⟨_, rfl, fl, dx, fs, rfl, h1, good.nb, _, rfl, fl, dx, gl, fs, given.map Int.toNat, rfl, h1, h2, put_three h2 h3 h5 hpa, good.nb, hgv, by omega, by omega, fun y hy => ?_, fun H1 hfl hk => ?_⟩
  · obtain ⟨z, hz, rfl⟩ := List.mem_map.mp hy
    have := k3 z hz
    omega
  rw [hle] at hfl
  refine ⟨_, rfl, gl, given, rfl, pre.hGiven.keepF h1 hk, by show 1 ≤ sizeLine; decide, fun p hp => ?_⟩
  have sp := Same.new (o := .lst [V.int given.sum]) hp
  exact post.ok _ p (fun b o _ nb e => sp _ _ (hk b o nb e)) ((pre.tab.keep h1 hk).same sp) (hfl.same sp) (by rw [upd_same]; rfl)
theorem scAS : FnScope ["flock", "told", "given"] ["flock", "told", "given"] (defScope sASheep) := ⟨rfl, rfl, rfl, by decide +kernel, rfl, by decide +kernel, by decide +kernel⟩
theorem ok_sheep {f : Addr} {fd : FuncData} (FF : Fun K "answer_sheep" "answer_sheep" sASheep f fd) (N : Names mg cO cN) (FC : FlockCls K mg F) (d2 : dCl P w K mg base cO) :
    FnOk P w K mg base (CXE P w) 8 f fd ["flock", "told", "given"] (spAns K F T cO cN 0 (mk1 9)) := by
  obtain ⟨t40, hmost⟩ := N.longest
  obtain ⟨g2, gd2, mg2, F2, b2, G2⟩ := d2.ex
  refine FF.okE scAS (fun vs H Q E h => spAns_len h) (fun cdv A outer s0 H vs Q E hr h => ?_)
  obtain ⟨fl, tl, gl, s, told, given, rfl, pre, htold, post⟩ := h
  obtain rfl := List.eq_nil_of_length_eq_zero htold
  obtain ⟨dx, fs, a, r, h1, h2, h3, h4, h5, h6, good⟩ := id pre.flock
  refine ⟨_, pss_cons (ps_expr (pe_call G2 (hr.mono (by decide)) (by rfl) mg2 F2.kp b2 .nil passes_def (pa_cons (pv 2) (pa_cons pe_int (pa_cons (pe_glob (v := .int 40) (by rfl) hmost ⟨t40, rfl⟩) (pa_cons (pe_op op_sub (pe_callB call_len_seq (by rfl) N.len PySem.boot_len (pa_cons (pe_fld (pv 0) rfl) pa_nil)) pe_int) pa_nil))))))
    (pss_cons (ps_fld (pv 0) (pe_callTy call_list_of (by rfl) N.list PyProof.Rows.boot_list (pa_cons (pv 2) pa_nil)) rfl)
    (pss_one (ps_ret (pe_lst (pa_cons (pe_callB call_len_seq (by rfl) N.len PySem.boot_len (pa_cons (pv 2) pa_nil)) pa_nil))))), ?_⟩
  have hrng : ¬ (0 ≤ (given.length : Int) ∧ (given.length : Int) ≤ 40 ∧ ∀ y ∈ given, 0 ≤ y ∧ y ≤ (s.counts.length : Int) - 1) → step s (mk1 9 [] given) = (s, [-1]) := fun h => by
    refine step_out (d := .sheep given) rfl (bool_no fun z => ?_)
    have z : (decide (given.length ≤ 40) && given.all fun c => VbsyCore.isBetween c 0 ((s.counts.length : Int) - 1)) = true := z
    rw [Bool.and_eq_true, decide_eq_true_eq] at z
    exact h ⟨by omega, by omega, all_between.mp z.2⟩
  refine ⟨_, rfl, _, rfl, fl, F, dx, fs, _, rfl, h1, FC.cl, FC.nF, h3, a, _, rfl, .inl (SqL.of h4), _, _, rfl, rfl, ?_⟩
  rw [List.length_map]
  refine ⟨gl, given, 0, 40, (s.counts.length : Int) - 1, rfl, pre.hGiven, pre.few, fun k1 k2 k3 => ?_, fun g => post.oor (hrng g) H (Same.refl H).kept pre.tab pre.flock⟩
  have hin : Vbsyad.inRange s (.sheep given) = true := by
    show (decide (given.length ≤ 40) && given.all fun c => VbsyCore.isBetween c 0 ((s.counts.length : Int) - 1)) = true
    rw [all_between.mpr k3, Bool.and_true, decide_eq_true_eq]
    omega
  rw [step_in (d := .sheep given) rfl hin] at post
  refine ⟨_, rfl, gl, _, rfl, .inl pre.hGiven, fun l1 hl1 => ?_⟩
  have s1 := Same.new (o := .lst (given.map V.int)) hl1
  refine ⟨_, rfl, fl, F, dx, fs, rfl, s1 _ _ h1, FC.cl, FC.nR, by omega, ?_⟩
  have f1 := putF_len (v := V.ref l1) h5
  have nl1 : l1 ≠ fl := by rintro rfl; rw [h1] at hl1; cases hl1
  have hne' : ¬ (("farms" : Str) = ("row" : Str)) := by decide
  have keptT : ∀ (b : Addr) (o : HO), b ≠ fl → H b = some o → (upd (upd H l1 (.lst (given.map V.int))) fl (.ins F dx (putF "row" (V.ref l1) fs))) b = some o := fun b o nb e => by
    rw [upd_ne nb]
    exact s1 _ _ e
  have hgl : SqL K (upd (upd H l1 (.lst (given.map V.int))) fl (.ins F dx (putF "row" (V.ref l1) fs))) gl (given.map V.int) := by
    rcases pre.hGiven with (h | ⟨o, h⟩) | h
    · exact .inl (.inl (keptT _ _ (ne_of h h1 (fun z => nomatch z)) h))
    · exact .inl (.inr ⟨o, keptT _ _ (ne_of h h1 (fun z => nomatch z)) h⟩)
    · exact .inr h
  refine ⟨_, rfl, gl, _, rfl, .inl hgl, by show 1 ≤ sizeLine; decide, fun p hp => ?_⟩
  have sp := Same.new (o := .lst [V.int ((given.map V.int).length : Int)]) hp
  have tabF : ∀ (b : Addr) (o : HO), b ≠ fl → H b = some o → (upd (upd (upd H l1 (.lst (given.map V.int))) fl (.ins F dx (putF "row" (V.ref l1) fs))) p (.lst [V.int ((given.map V.int).length : Int)])) b = some o := fun b o nb e => sp _ _ (keptT b o nb e)
  refine post.ok _ p (fun b o _ nb e => tabF b o nb e) ?_ ⟨dx, _, a, l1, sp _ _ upd_same, by omega, ?_, ?_, ?_, ?_, ?_⟩ (by rw [upd_same, List.length_map]; rfl)
  · rcases pre.tab with x | ⟨c, x, y⟩
    · exact .inl (tabF _ _ (ne_of x h1 (fun z => nomatch z)) x)
    · exact .inr ⟨c, tabF _ _ (ne_of x h1 (fun z => nomatch z)) x, tabF _ _ (ne_of y h1 (fun z => nomatch z)) y⟩
  · rw [lookup_putF, if_neg hne']; exact h3
  · exact tabF _ _ (ne_of h4 h1 (fun z => nomatch z)) h4
  · rw [lookup_putF, if_pos rfl]
  · refine sp _ _ ?_
    rw [upd_ne nl1, upd_same]
    show some (HO.lst (given.map V.int)) = some (HO.lst ((given.map Int.toNat).map nV))
    rw [nats_of fun y hy => (k3 y hy).1]
  · obtain ⟨pa, ps, hpa, hpl, hps⟩ := good.pens
    refine ⟨⟨good.n1, good.n8, good.c, ?_, fun y hy => ?_, good.p, good.pl⟩, ?_, pa, ps, ?_, ?_, ?_⟩
    · show (given.map Int.toNat).length ≤ 40
      rw [List.length_map]; omega
    · have hy : y ∈ given.map Int.toNat := hy
      obtain ⟨z, hz, rfl⟩ := List.mem_map.mp hy
      have := k3 z hz
      have := good.n1
      show z.toNat < s.counts.length
      omega
    · rw [lookup_putF, if_neg (by decide)]; exact good.nb
    · rw [lookup_putF, if_neg (by decide)]; exact hpa
    · exact tabF _ _ (ne_of hpl h1 (fun z => nomatch z)) hpl
    · exact Paired.mapP hps fun b l e => tabF _ _ (ne_of e h1 (fun z => nomatch z)) e
end
end Shed
end
section
set_option Elab.async false
set_option linter.all false
set_option maxRecDepth 100000
set_option maxHeartbeats 2000000
namespace Shed
open PySem PySem.Spec PyProof.Rows L2
open Vbsyad (State step)
abbrev sAShed : Stmt := top 52
abbrev sAWalked : Stmt := top 53
abbrev sAPens : Stmt := top 54
abbrev sAMixed : Stmt := top 55
abbrev sAMend : Stmt := top 56
abbrev sATold : Stmt := top 57
abbrev sARow : Stmt := top 58
abbrev sAPen : Stmt := top 59
abbrev sACounts : Stmt := top 60
abbrev sAClear : Stmt := top 61
theorem listRow_V (l : List Nat) : (Vbsyad.listRow l).map V.int = nV l.length :: l.map nV := by
  unfold Vbsyad.listRow VbsyCore.ints
  rw [List.map_cons, List.map_map]
  rfl
section
variable {P : Program} {w : World} {K : PySem.W.Frag} {mg : Str → Option Value} {base : Heap} {cO cN C F T : Addr}
theorem scATo : FnScope ["flock", "told", "given"] ["flock", "told", "given"] (defScope sATold) := ⟨rfl, rfl, rfl, by decide +kernel, rfl, by decide +kernel, by decide +kernel⟩
theorem ok_told {f : Addr} {fd : FuncData} (FF : Fun K "answer_told" "answer_told" sATold f fd) (FC : FlockCls K mg F) (d1 : dWc P w K mg base) :
    FnOk P w K mg base (CXE P w) 8 f fd ["flock", "told", "given"] (spAns K F T cO cN 0 (mk0 15)) := by
  obtain ⟨g1, gd1, mg1, F1, b1, G1⟩ := d1.cx.ex
  refine FF.okE scATo (fun vs H Q E h => spAns_len h) (fun cdv A outer s0 H vs Q E hr h => ?_)
  obtain ⟨fl, tl, gl, s, told, given, rfl, pre, htold, post⟩ := h
  obtain rfl := List.eq_nil_of_length_eq_zero htold
  obtain ⟨dx, fs, a, r, h1, h2, h3, h4, h5, h6, good⟩ := id pre.flock
  have line := sizeLine_eq
  refine ⟨_, pss_one (ps_ret (pe_call G1 (hr.mono (by decide)) (by rfl) mg1 F1.kp b1 .nil passes_def (pa_cons (pe_fld (pv 0) rfl) pa_nil))), ?_⟩
  rw [step_in (d := .told) rfl rfl] at post
  refine ⟨_, rfl, fl, F, dx, fs, _, rfl, h1, FC.cl, FC.nF, h3, a, _, rfl, h4, by rw [List.length_map]; have := good.n8; omega, fun H' l sm nl hl => ?_⟩
  refine post.ok H' l sm.kept (pre.tab.same sm) (pre.flock.same sm) ?_
  rw [hl, List.length_map]
  exact congrArg (fun z => some (HO.lst z)) (listRow_V s.counts).symm
theorem scARo : FnScope ["flock", "told", "given"] ["flock", "told", "given"] (defScope sARow) := ⟨rfl, rfl, rfl, by decide +kernel, rfl, by decide +kernel, by decide +kernel⟩
theorem ok_row {f : Addr} {fd : FuncData} (FF : Fun K "answer_row" "answer_row" sARow f fd) (FC : FlockCls K mg F) (d1 : dWc P w K mg base) :
    FnOk P w K mg base (CXE P w) 8 f fd ["flock", "told", "given"] (spAns K F T cO cN 0 (mk0 16)) := by
  obtain ⟨g1, gd1, mg1, F1, b1, G1⟩ := d1.cx.ex
  refine FF.okE scARo (fun vs H Q E h => spAns_len h) (fun cdv A outer s0 H vs Q E hr h => ?_)
  obtain ⟨fl, tl, gl, s, told, given, rfl, pre, htold, post⟩ := h
  obtain rfl := List.eq_nil_of_length_eq_zero htold
  obtain ⟨dx, fs, a, r, h1, h2, h3, h4, h5, h6, good⟩ := id pre.flock
  have line := sizeLine_eq
  refine ⟨_, pss_one (ps_ret (pe_call G1 (hr.mono (by decide)) (by rfl) mg1 F1.kp b1 .nil passes_def (pa_cons (pe_fld (pv 0) rfl) pa_nil))), ?_⟩
  rw [step_in (d := .row) rfl rfl] at post
  refine ⟨_, rfl, fl, F, dx, fs, _, rfl, h1, FC.cl, FC.nR, h5, r, _, rfl, h6, by rw [List.length_map]; have := good.r40; omega, fun H' l sm nl hl => ?_⟩
  refine post.ok H' l sm.kept (pre.tab.same sm) (pre.flock.same sm) ?_
  rw [hl, List.length_map]
  exact congrArg (fun z => some (HO.lst z)) (listRow_V s.row).symm
theorem scAPe : FnScope ["flock", "told", "given"] ["flock", "told", "given"] (defScope sAPen) := ⟨rfl, rfl, rfl, by decide +kernel, rfl, by decide +kernel, by decide +kernel⟩
theorem ok_pen {f : Addr} {fd : FuncData} (FF : Fun K "answer_pen" "answer_pen" sAPen f fd) (N : Names mg cO cN) (FC : FlockCls K mg F) (d1 : dWc P w K mg base) (d2 : dCn P w K mg base cO) :
    FnOk P w K mg base (CXE P w) 8 f fd ["flock", "told", "given"] (spAns K F T cO cN 1 (mk0 17)) := by
  obtain ⟨g1, gd1, mg1, F1, b1, G1⟩ := d1.cx.ex
  obtain ⟨g2, gd2, mg2, F2, b2, G2⟩ := d2.ex
  refine FF.okE scAPe (fun vs H Q E h => spAns_len h) (fun cdv A outer s0 H vs Q E hr h => ?_)
  obtain ⟨fl, tl, gl, s, told, given, rfl, pre, htold, post⟩ := h
  obtain ⟨x, rfl⟩ := one_of htold
  obtain ⟨dx, fs, a, r, h1, h2, h3, h4, h5, h6, good⟩ := id pre.flock
  have line := sizeLine_eq
  refine ⟨_, pss_cons (ps_expr (pe_call G2 (hr.mono (by decide)) (by rfl) mg2 F2.kp b2 .nil passes_def (pa_cons (pe_ix ix_list (pv 1) pe_int (fun _ _ => rfl)) (pa_cons pe_int (pa_cons (pe_op op_sub (pe_callB call_len_seq (by rfl) N.len PySem.boot_len (pa_cons (pe_fld (pv 0) rfl) pa_nil)) pe_int) pa_nil)))))
    (pss_one (ps_ret (pe_call G1 (hr.mono (by decide)) (by rfl) mg1 F1.kp b1 .nil passes_def (pa_cons (pe_ix ix_list (pe_fld (pv 0) rfl) (pe_ix ix_list (pv 1) pe_int (fun _ _ => rfl)) (fun _ _ => rfl)) pa_nil)))), ?_⟩
  refine ⟨_, rfl, tl, _, _, _, rfl, rfl, pre.hTold, atI_nat (j := 0) rfl, _, rfl, fl, F, dx, fs, _, rfl, h1, FC.cl, FC.nF, h3, a, _, rfl, .inl (SqL.of h4), _, _, rfl, rfl, ?_⟩
  rw [List.length_map]
  have hrng : ∀ b : Bool, Vbsyad.inRange s (.pen x) = b ↔ VbsyCore.isBetween x 0 ((s.counts.length : Int) - 1) = b := fun b => Iff.rfl
  refine ⟨x, 0, (s.counts.length : Int) - 1, rfl, fun k1 k2 => ?_, fun g => post.oor (step_out (d := .pen x) rfl ?_) H (Same.refl H).kept pre.tab pre.flock⟩
  · have hin : Vbsyad.inRange s (.pen x) = true := by
      rw [hrng]
      unfold VbsyCore.isBetween
      simp
      omega
    rw [step_in (d := .pen x) rfl hin] at post
    obtain ⟨pa, ps, hpa, hpl, hps⟩ := good.pens
    have hal : ps.length = s.pens.length := paired_len hps
    have hxp : x.toNat < s.pens.length := by rw [good.p]; omega
    obtain ⟨b, hb⟩ : ∃ b, ps[x.toNat]? = some b := ⟨_, List.getElem?_eq_getElem (by omega)⟩
    obtain ⟨l, hli, hlb⟩ := paired_get hps hb
    have hll : l.length = s.pens.length := good.pl l (List.mem_of_getElem? hli)
    refine ⟨_, rfl, fl, F, dx, fs, _, rfl, h1, FC.cl, FC.nP, hpa, _, rfl, tl, _, _, _, rfl, rfl, pre.hTold, atI_nat (j := 0) rfl, pa, _, _, V.ref b, rfl, rfl, SqL.of hpl, at_of (j := x.toNat) (by omega) (by rw [List.getElem?_map, hb]; rfl), ?_⟩
    refine ⟨b, _, rfl, hlb, by rw [List.length_map, hll, good.p]; have := good.n8; omega, fun H' l' sm nl hl => ?_⟩
    refine post.ok H' l' sm.kept (pre.tab.same sm) (pre.flock.same sm) ?_
    rw [hl, List.length_map]
    have e : (Vbsyad.act s (.pen x)).2 = Vbsyad.listRow l := by
      show Vbsyad.listRow (s.pens.getD x.toNat []) = _
      rw [getD_some hli]
    rw [e, listRow_V]
  · rw [hrng]
    unfold VbsyCore.isBetween
    simp
    omega
theorem scACs : FnScope ["flock", "told", "given"] ["flock", "told", "given"] (defScope sACounts) := ⟨rfl, rfl, rfl, by decide +kernel, rfl, by decide +kernel, by decide +kernel⟩
theorem ok_counts {f : Addr} {fd : FuncData} (FF : Fun K "answer_counts" "answer_counts" sACounts f fd) (N : Names mg cO cN) (FC : FlockCls K mg F) :
    FnOk P w K mg base (CXE P w) 8 f fd ["flock", "told", "given"] (spAns K F T cO cN 0 (mk0 18)) := by
  refine FF.okE scACs (fun vs H Q E h => spAns_len h) (fun cdv A outer s0 H vs Q E hr h => ?_)
  obtain ⟨fl, tl, gl, s, told, given, rfl, pre, htold, post⟩ := h
  obtain rfl := List.eq_nil_of_length_eq_zero htold
  obtain ⟨dx, fs, a, r, h1, h2, h3, h4, h5, h6, good⟩ := id pre.flock
  have line := sizeLine_eq
  refine ⟨_, pss_one (ps_ret (pe_lst (pa_cons (pe_callB call_len_seq (by rfl) N.len PySem.boot_len (pa_cons (pe_fld (pv 0) rfl) pa_nil)) (pa_cons (pe_callB (cr_sum rfl) (by rfl) N.sum PyProof.Rows.boot_sum (pa_cons (pe_fld (pv 0) rfl) pa_nil)) (pa_cons (pe_callB call_len_seq (by rfl) N.len PySem.boot_len (pa_cons (pe_fld (pv 0) rfl) pa_nil)) pa_nil))))), ?_⟩
  rw [step_in (d := .counts) rfl rfl] at post
  refine ⟨_, rfl, fl, F, dx, fs, _, rfl, h1, FC.cl, FC.nF, h3, a, _, rfl, .inl (SqL.of h4), ?_⟩
  refine ⟨_, rfl, fl, F, dx, fs, _, rfl, h1, FC.cl, FC.nF, h3, a, s.counts.map fun (n : Nat) => (n : Int), rfl, SqL.of (by rw [ints_nV]; exact h4), ?_⟩
  refine ⟨_, rfl, fl, F, dx, fs, _, rfl, h1, FC.cl, FC.nR, h5, r, _, rfl, .inl (SqL.of h6), by show 3 ≤ sizeLine; decide, fun p hp => ?_⟩
  rw [List.length_map, List.length_map, sum_cast]
  have sm := Same.new (o := .lst [V.int (s.counts.length : Int), V.int (s.counts.sum : Int), V.int (s.row.length : Int)]) hp
  exact post.ok _ p sm.kept (pre.tab.same sm) (pre.flock.same sm) (by rw [upd_same]; rfl)
theorem scACl : FnScope ["flock", "told", "given"] ["flock", "told", "given"] (defScope sAClear) := ⟨rfl, rfl, rfl, by decide +kernel, rfl, by decide +kernel, by decide +kernel⟩
theorem ok_clear {f gB : Addr} {fd : FuncData} (FF : Fun K "answer_clear" "answer_clear" sAClear f fd) (N : Names mg cO cN) (FC : FlockCls K mg F) (B : Begins P w K mg base F gB) (A1 : AtFirst K mg) :
    FnOk P w K mg base (CXE P w) 8 f fd ["flock", "told", "given"] (spAns K F T cO cN 0 (mk0 19)) := by
  obtain ⟨gdB, bB, _, GB⟩ := B.ex
  have GB := GB.cx (CX := CXE P w)
  obtain ⟨ta, hta, hT⟩ := A1
  refine FF.okE scACl (fun vs H Q E h => spAns_len h) (fun cdv A outer s0 H vs Q E hr h => ?_)
  obtain ⟨fl, tl, gl, s, told, given, rfl, pre, htold, post⟩ := h
  obtain rfl := List.eq_nil_of_length_eq_zero htold
  obtain ⟨dx, fs, a, r, h1, h2, h3, h4, h5, h6, good⟩ := id pre.flock
  have line := sizeLine_eq
  refine ⟨_, pss_cons (ps_expr (pe_meth (pv 0) FC.cl B.meth GB (hr.mono (by decide)) bB .nil passes_def (pa_cons (pe_glob (v := .ref ta) (by rfl) hta rfl) pa_nil)))
    (pss_one (ps_ret (pe_lst (pa_cons pe_int pa_nil)))), ?_⟩
  rw [step_in (d := .clear) rfl rfl] at post
  obtain ⟨pa, ps, hpa, _, _⟩ := good.pens
  refine ⟨_, rfl, fl, dx, fs, rfl, h1, good.nb, fl, dx, ta, fs, [0], rfl, h1, h2, put_three h2 h3 h5 hpa, good.nb, hT H, by decide, by decide, by decide, fun H1 hfl hk => ?_⟩
  refine ⟨by show 1 ≤ sizeLine; decide, fun p hp => ?_⟩
  have sp := Same.new (o := .lst [V.int 0]) hp
  exact post.ok _ p (fun b o _ nb e => sp _ _ (hk b o nb e)) ((pre.tab.keep h1 hk).same sp) (hfl.same sp) (by rw [upd_same]; rfl)
theorem scAMi : FnScope ["flock", "told", "given"] ["flock", "told", "given"] (defScope sAMixed) := ⟨rfl, rfl, rfl, by decide +kernel, rfl, by decide +kernel, by decide +kernel⟩
theorem ok_mixed {f : Addr} {fd : FuncData} (FF : Fun K "answer_mixed" "answer_mixed" sAMixed f fd) (FC : FlockCls K mg F) (d1 : dWc P w K mg base) (d2 : dPws P w K mg base) (d3 : dSbf P w K mg base) :
    FnOk P w K mg base (CXE P w) 8 f fd ["flock", "told", "given"] (spAns K F T cO cN 0 (mk0 13)) := by
  obtain ⟨g1, gd1, mg1, F1, b1, G1⟩ := d1.cx.ex
  obtain ⟨g2, gd2, mg2, F2, b2, G2⟩ := d2.cx.ex
  obtain ⟨g3, gd3, mg3, F3, b3, G3⟩ := d3.cx.ex
  refine FF.okE scAMi (fun vs H Q E h => spAns_len h) (fun cdv A outer s0 H vs Q E hr h => ?_)
  obtain ⟨fl, tl, gl, s, told, given, rfl, pre, htold, post⟩ := h
  obtain rfl := List.eq_nil_of_length_eq_zero htold
  obtain ⟨dx, fs, a, r, h1, h2, h3, h4, h5, h6, good⟩ := id pre.flock
  have line := sizeLine_eq
  refine ⟨_, pss_one (ps_ret (pe_op op_cat (pe_call G1 (hr.mono (by decide)) (by rfl) mg1 F1.kp b1 .nil passes_def (pa_cons (pe_call G2 (hr.mono (by decide)) (by rfl) mg2 F2.kp b2 .nil passes_def (pa_cons (pe_fld (pv 0) rfl) pa_nil)) pa_nil))
    (pe_call G1 (hr.mono (by decide)) (by rfl) mg1 F1.kp b1 .nil passes_def (pa_cons (pe_call G3 (hr.mono (by decide)) (by rfl) mg3 F3.kp b3 .nil passes_def (pa_cons (pe_fld (pv 0) rfl) pa_nil)) pa_nil)))), ?_⟩
  rw [step_in (d := .mixed) rfl rfl] at post
  obtain ⟨pa, ps, hpa, hpl, hps⟩ := good.pens
  have n8 : s.pens.length ≤ 8 := by rw [good.p]; exact good.n8
  have hml : (Vbsyad.mixedPens s.pens).length ≤ 8 := by
    unfold Vbsyad.mixedPens
    refine Nat.le_trans (List.length_filter_le _ _) ?_
    rw [List.length_range]; exact n8
  have hsl := strangers_len s.pens
  refine ⟨_, rfl, fl, F, dx, fs, _, rfl, h1, FC.cl, FC.nP, hpa, pa, ps, s.pens, rfl, hpl, hps, n8, good.pl, fun H1 l1 s1 n1 hl1 => ?_⟩
  refine ⟨l1, _, rfl, hl1, by rw [List.length_map]; omega, fun H2 l2 s2 n2 hl2 => ?_⟩
  have s12 := s1.trans s2
  refine ⟨_, rfl, fl, F, dx, fs, _, rfl, s12 _ _ h1, FC.cl, FC.nP, hpa, pa, ps, s.pens, rfl, s12 _ _ hpl, hps.same s12, n8, good.pl, fun H3 l3 s3 n3 hl3 => ?_⟩
  refine ⟨l3, _, rfl, hl3, by rw [List.length_map]; omega, fun H4 l4 s4 n4 hl4 => ?_⟩
  refine ⟨l2, l4, _, _, rfl, rfl, s4 _ _ (s3 _ _ hl2), hl4, by rw [List.length_cons, List.length_cons, List.length_map, List.length_map, line]; omega, fun p hp => ?_⟩
  have sm := ((s12.trans s3).trans s4).trans (Same.new (o := .lst ((nV ((Vbsyad.mixedPens s.pens).map nV).length :: (Vbsyad.mixedPens s.pens).map nV) ++ (nV ((Vbsyad.strangers s.pens).map nV).length :: (Vbsyad.strangers s.pens).map nV))) hp)
  refine post.ok _ p sm.kept (pre.tab.same sm) (pre.flock.same sm) ?_
  have e : ((Vbsyad.act s .mixed).2).map V.int = (nV (Vbsyad.mixedPens s.pens).length :: (Vbsyad.mixedPens s.pens).map nV) ++ (nV (Vbsyad.strangers s.pens).length :: (Vbsyad.strangers s.pens).map nV) := by
    show (Vbsyad.listRow _ ++ Vbsyad.listRow _).map V.int = _
    rw [List.map_append, listRow_V, listRow_V]
  rw [upd_same, e, List.length_map, List.length_map]
theorem scAMe : FnScope ["flock", "told", "given"] ["flock", "told", "given"] (defScope sAMend) := ⟨rfl, rfl, rfl, by decide +kernel, rfl, by decide +kernel, by decide +kernel⟩
theorem ok_mend {f : Addr} {fd : FuncData} (FF : Fun K "answer_mend" "answer_mend" sAMend f fd) (FC : FlockCls K mg F) (d1 : dCtm P w K mg base T) :
    FnOk P w K mg base (CXE P w) 8 f fd ["flock", "told", "given"] (spAns K F T cO cN 0 (mk0 14)) := by
  obtain ⟨g1, gd1, mg1, F1, b1, G1⟩ := d1.cx.ex
  refine FF.okE scAMe (fun vs H Q E h => spAns_len h) (fun cdv A outer s0 H vs Q E hr h => ?_)
  obtain ⟨fl, tl, gl, s, told, given, rfl, pre, htold, post⟩ := h
  obtain rfl := List.eq_nil_of_length_eq_zero htold
  obtain ⟨dx, fs, a, r, h1, h2, h3, h4, h5, h6, good⟩ := id pre.flock
  have line := sizeLine_eq
  refine ⟨_, pss_one (ps_ret (pe_lst (pa_cons (pe_call G1 (hr.mono (by decide)) (by rfl) mg1 F1.kp b1 .nil passes_def (pa_cons (pe_fld (pv 0) rfl) pa_nil)) pa_nil))), ?_⟩
  rw [step_in (d := .mend) rfl rfl] at post
  obtain ⟨pa, ps, hpa, hpl, hps⟩ := good.pens
  have n8 : s.pens.length ≤ 8 := by rw [good.p]; exact good.n8
  refine ⟨_, rfl, fl, F, dx, fs, _, rfl, h1, FC.cl, FC.nP, hpa, pa, ps, s.pens, rfl, hpl, hps, n8, good.pl, pre.tab, fun H1 bt tb => ?_⟩
  refine ⟨by show 1 ≤ sizeLine; decide, fun p hp => ?_⟩
  have sm := Same.new (o := .lst [nV (Vbsyad.mended s.pens)]) hp
  exact post.ok _ p (bt.trans sm.but).kept (tb.same sm) (pre.flock.but pre.tab (bt.trans sm.but)) (by rw [upd_same]; rfl)
theorem scAWa : FnScope ["flock", "told", "given", "pens", "farm"] ["flock", "told", "given"] (defScope sAWalked) := ⟨rfl, rfl, rfl, by decide +kernel, rfl, by decide +kernel, by decide +kernel⟩
theorem ok_walked {f : Addr} {fd : FuncData} (FF : Fun K "answer_walked" "answer_walked" sAWalked f fd) (N : Names mg cO cN) (FC : FlockCls K mg F) (d2 : dPff P w K mg base cN) (d3 : dCf P w K mg base) :
    FnOk P w K mg base (CXE P w) 8 f fd ["flock", "told", "given"] (spAns K F T cO cN 0 (mk1 11)) := by
  obtain ⟨t3, hmost⟩ := N.mostw
  obtain ⟨g2, gd2, mg2, F2, b2, G2⟩ := d2.ex
  obtain ⟨g3, gd3, mg3, F3, b3, G3⟩ := d3.cx.ex
  refine FF.okE scAWa (fun vs H Q E h => spAns_len h) (fun cdv A outer s0 H vs Q E hr h => ?_)
  obtain ⟨fl, tl, gl, s, told, given, rfl, pre, htold, post⟩ := h
  obtain rfl := List.eq_nil_of_length_eq_zero htold
  obtain ⟨dx, fs, a, r, h1, h2, h3, h4, h5, h6, good⟩ := id pre.flock
  have line := sizeLine_eq
  refine ⟨_, pss_cons (ps_set (i := 3) scAWa.nd rfl (Or.inl rfl) (pe_call G2 (hr.mono (by decide)) (by rfl) mg2 F2.kp b2 .nil passes_def (pa_cons (pv 2) (pa_cons (pe_glob (v := .int 3) (by rfl) hmost ⟨t3, rfl⟩) (pa_cons (pe_fld (pv 0) rfl) pa_nil)))))
    (pss_one (ps_ret (pe_lst (pa_cons (pe_call G3 (hr.mono (by decide)) (by rfl) mg3 F3.kp b3 .nil passes_def (pa_cons (pv 3) (pa_cons (pe_lc (own := [("farm", 4)]) rfl scAWa.nd (pi_range1 (by rfl) N.range (pa_cons (pe_callB call_len_seq (by rfl) N.len PySem.boot_len (pa_cons (pe_fld (pv 0) rfl) pa_nil)) pa_nil)) (blkOk_by (by rfl)) (fun _ _ _ _ _ => pg_name (i := 4) scAWa.nd rfl (Or.inl rfl)) (fun _ _ _ _ _ => pts_nil)
      (fun _ _ _ _ _ => by exact pe_countK (K := K) rfl (pe_fldK (K := K) rfl (pv 0) rfl) (pa_cons (pv 4) pa_nil))) pa_nil))) pa_nil)))), ?_⟩
  rw [step_in (d := .walked given) rfl rfl] at post
  refine ⟨_, rfl, _, rfl, fl, F, dx, fs, _, rfl, h1, FC.cl, FC.nF, h3, gl, a, given, 3, s.counts, rfl, pre.hGiven, pre.few, by omega, SqL.of h4, good.n8, fun t ht hpl H1 l sm1 nl hP => ?_, fun hbad H1 sm1 => ?_⟩
  · have hlen := readAll_len ht
    have few := pre.few
    have ea : Vbsyad.act s (.walked given) = (s, [(Vbsyad.costOf (Vbsyad.countsIn s.counts.length s.row) t : Int)]) := onPlan_yes ht hpl
    rw [ea] at post
    refine ⟨_, rfl, _, rfl, fl, F, dx, fs, _, rfl, sm1 _ _ h1, FC.cl, FC.nF, h3, a, _, rfl, .inl (SqL.of (sm1 _ _ h4)), _, rfl, by omega, by rw [List.length_map]; have := good.n8; omega, fun D hD => ?_⟩
    rw [List.length_map, Int.toNat_natCast]
    refine lc_range (fun i H' => Same H1 H' ∧ H' D = some (.lst (((List.range i).map fun f => s.row.count f).map nV))) ⟨Same.new hD, upd_same⟩ (fun i H' hi ⟨sm, hd⟩ => ?_) (fun H2 ⟨sm2, hd2⟩ => ?_)
    · refine ⟨rfl, yes_of ?_⟩
      have hs2 := sm1.trans sm
      have hrow : SqL K H' r ((s.row.map fun (n : Nat) => (n : Int)).map V.int) := SqL.of (by rw [ints_nV]; exact hs2 _ _ h6)
      refine ⟨_, rfl, fl, F, dx, fs, _, rfl, hs2 _ _ h1, FC.cl, FC.nR, h5, .inl ⟨rfl, _, hrow⟩, _, rfl, r, _, _, rfl, rfl, hrow, _, hd, ?_, sm.over hD, ?_⟩
      · rw [List.length_map, List.length_map, List.length_range, line]; have := good.n8; omega
      · rw [upd_same, List.range_succ, List.map_append, List.map_append, Int.zero_add, count_cast]
        rfl
    · have hcl : (Vbsyad.countsIn s.counts.length s.row).length = s.counts.length := by unfold Vbsyad.countsIn; rw [List.length_map, List.length_range]
      have hpl' : Vbsyad.isPlan (Vbsyad.countsIn s.counts.length s.row).length 3 t = true := by rw [hcl]; exact hpl
      refine ⟨l, D, t, Vbsyad.countsIn s.counts.length s.row, rfl, ?_, SqL.of hd2, lvI_in hpl', by omega, by omega, fun H3 sm3 => ?_⟩
      · obtain ⟨as, hla, hpa⟩ := hP
        exact ⟨as, sm2 _ _ hla, Paired.mapP hpa fun _ _ e => sm2 _ _ e⟩
      refine ⟨by show 1 ≤ sizeLine; decide, fun p hp => ?_⟩
      have sm := ((sm1.trans sm2).trans sm3).trans (Same.new (o := .lst [nV (Vbsyad.costOf (Vbsyad.countsIn s.counts.length s.row) t)]) hp)
      exact post.ok _ p sm.kept (pre.tab.same sm) (pre.flock.same sm) (by rw [upd_same]; rfl)
  · have ea : Vbsyad.act s (.walked given) = (s, [-7]) := onPlan_no hbad
    exact post.nap ea H1 sm1.kept (pre.tab.same sm1) (pre.flock.same sm1)
def shedOf (row : List Nat) (q : Int × Nat) : List Int := q.1 :: Vbsyad.listRow (placesIn (Vbsyad.numbered row) q.1.toNat)
theorem places_len (row : List Nat) (f : Nat) : (placesIn (Vbsyad.numbered row) f).length ≤ row.length := by
  rw [places_eq, List.length_map]
  refine Nat.le_trans (List.length_filter_le _ _) ?_
  rw [List.length_zipIdx]
  exact Nat.le_refl _
theorem shedOf_len (row : List Nat) (q : Int × Nat) : (shedOf row q).length ≤ row.length + 2 := by
  have := places_len row q.1.toNat
  unfold shedOf Vbsyad.listRow VbsyCore.ints
  rw [List.length_cons, List.length_cons, List.length_map]
  omega
theorem flat_len {row : List Nat} : ∀ l : List (Int × Nat), (l.flatMap (shedOf row)).length ≤ l.length * (row.length + 2)
  | [] => by simp
  | q :: l => by
    have h1 := shedOf_len row q
    have h2 := flat_len (row := row) l
    rw [List.flatMap_cons, List.length_append, List.length_cons, Nat.succ_mul]
    omega
theorem shed_eq {s : State} {t : Vbsyad.Tree} (hp : Vbsyad.isPlan s.counts.length 3 t = true) (hr : ∀ x ∈ s.row, x < s.counts.length) : ((Vbsyad.parted t (Vbsyad.numbered s.row)).flatMap fun x => (x.1 : Int) :: Vbsyad.listRow x.2) = (lvI 0 t).flatMap (shedOf s.row) := by
  rw [parted_row hp hr, List.flatMap_map]
  have e := lvI_farms 0 t
  have h2 : (lvI 0 t).flatMap (shedOf s.row) = ((lvI 0 t).map (·.1)).flatMap fun z => z :: Vbsyad.listRow (placesIn (Vbsyad.numbered s.row) z.toNat) := by rw [List.flatMap_map]; rfl
  rw [h2, e, List.flatMap_map]
  rfl
theorem scASh : FnScope ["flock", "told", "given", "pens", "answer", "farm", "runs"] ["flock", "told", "given"] (defScope sAShed) := ⟨rfl, rfl, rfl, by decide +kernel, rfl, by decide +kernel, by decide +kernel⟩
theorem ok_shed {f : Addr} {fd : FuncData} (FF : Fun K "answer_shed" "answer_shed" sAShed f fd) (N : Names mg cO cN) (FC : FlockCls K mg F) (d1 : dWc P w K mg base) (d2 : dPff P w K mg base cN) (d3 : dPo P w K mg base) :
    FnOk P w K mg base (CXE P w) 8 f fd ["flock", "told", "given"] (spAns K F T cO cN 0 (mk1 10)) := by
  obtain ⟨t3, hmost⟩ := N.mostw
  obtain ⟨g1, gd1, mg1, F1, b1, G1⟩ := d1.cx.ex
  obtain ⟨g2, gd2, mg2, F2, b2, G2⟩ := d2.ex
  obtain ⟨g3, gd3, mg3, F3, b3, G3⟩ := d3.cx.ex
  refine FF.okE scASh (fun vs H Q E h => spAns_len h) (fun cdv A outer s0 H vs Q E hr h => ?_)
  obtain ⟨fl, tl, gl, s, told, given, rfl, pre, htold, post⟩ := h
  obtain rfl := List.eq_nil_of_length_eq_zero htold
  obtain ⟨dx, fs, a, r, h1, h2, h3, h4, h5, h6, good⟩ := id pre.flock
  have line := sizeLine_eq
  refine ⟨_, pss_cons (ps_set (i := 3) scASh.nd rfl (Or.inl rfl) (pe_call G2 (hr.mono (by decide)) (by rfl) mg2 F2.kp b2 .nil passes_def (pa_cons (pv 2) (pa_cons (pe_glob (v := .int 3) (by rfl) hmost ⟨t3, rfl⟩) (pa_cons (pe_fld (pv 0) rfl) pa_nil)))))
    (pss_cons (ps_set (i := 4) scASh.nd rfl (Or.inl rfl) (pe_lst (pa_cons (pe_callB call_len_seq (by rfl) N.len PySem.boot_len (pa_cons (pv 3) pa_nil)) pa_nil)))
    (pss_cons (ps_for PassesOwn.leaving rfl (pi_list (pv 3)) (pg_tupK (K := K) (n := 2) rfl rfl (pgs_cons (pg_name (i := 5) scASh.nd rfl (Or.inl rfl)) (pgs_cons (pg_name (i := 6) scASh.nd rfl (Or.inl rfl)) pgs_nil)))
      (pss_one (ps_expr (pe_bm PySem.F.plainAttrs_list PySem.F.slot_list_extend PySem.F.type_list_extend mt_extend (pv 4) (pa_cons (pe_op op_cat (pe_lst (pa_cons (pv 5) pa_nil)) (pe_call G1 (hr.mono (by decide)) (by rfl) mg1 F1.kp b1 .nil passes_def (pa_cons (pe_call G3 (hr.mono (by decide)) (by rfl) mg3 F3.kp b3 .nil passes_def (pa_cons (pv 5) (pa_cons (pe_fld (pv 0) rfl) pa_nil))) pa_nil))) pa_nil)))))
    (pss_one (ps_ret (pv 4))))), ?_⟩
  rw [step_in (d := .shed given) rfl rfl] at post
  refine ⟨_, rfl, _, rfl, fl, F, dx, fs, _, rfl, h1, FC.cl, FC.nF, h3, gl, a, given, 3, s.counts, rfl, pre.hGiven, pre.few, by omega, SqL.of h4, good.n8, fun t ht hpl H1 l sm1 nl hP => ?_, fun hbad H1 sm1 => ?_⟩
  · obtain ⟨as, hla, hpa⟩ := id hP
    have hal : as.length = (lvI 0 t).length := paired_len hpa
    have hlen := readAll_len ht
    have few := pre.few
    have hn : (lvI 0 t).length = s.counts.length := by
      rw [lvI_len, (isPlan_iff.mp hpl).1.length_eq, List.length_range]
    have ea : Vbsyad.act s (.shed given) = (s, (s.counts.length : Int) :: (lvI 0 t).flatMap (shedOf s.row)) := by
      rw [← shed_eq hpl good.r]
      exact onPlan_yes ht hpl
    rw [ea] at post
    have r40 := good.r40
    refine ⟨_, rfl, l, _, rfl, .inl (SqL.of hla), by show 1 ≤ sizeLine; decide, fun D hD => ?_⟩
    rw [List.length_map, hal, hn]
    have nlD : l ≠ D := ne_of_none hla hD
    refine ⟨_, rfl, l, rfl, ⟨_, SqL.of (by rw [upd_ne nlD]; exact hla)⟩, for_list (K := K) (a := l) (xs := as.map V.ref)
      (fun i σ H' => (∃ v5 v6 : Option V, σ = [some (.ref fl), some (.ref tl), some (.ref gl), some (.ref l), some (.ref D), v5, v6]) ∧ Same H1 H' ∧ H' D = some (.lst ((((s.counts.length : Int) :: ((lvI 0 t).take i).flatMap (shedOf s.row))).map V.int)))
      ⟨⟨none, none, rfl⟩, Same.new hD, upd_same⟩ (fun i σ H' _ q => SqL.of (q.2.1 _ _ hla)) ?_ ?_⟩
    · rintro i y σ H' hy ⟨⟨v5, v6, rfl⟩, sm, hd⟩
      obtain ⟨b, hb, rfl⟩ := get_ref hy
      obtain ⟨q, hqi, hqb⟩ := paired_get hpa hb
      obtain ⟨fm, efm, hfm⟩ := lvI_in hpl q (List.mem_of_getElem? hqi)
      have hs2 := sm1.trans sm
      refine ⟨b, _, rfl, SqT.of (sm _ _ hqb), rfl, _, _, rfl, _, _, rfl, rfl, ?_⟩
      refine ⟨_, rfl, .inl ⟨rfl, _, SqL.of hd⟩, _, rfl, by show 1 ≤ sizeLine; decide, fun p2 hp2 => ?_⟩
      have t2 := Same.new (o := .lst [V.int q.1]) hp2
      have u2 := hs2.trans t2
      refine ⟨_, rfl, _, rfl, fl, F, dx, fs, _, rfl, u2 _ _ h1, FC.cl, FC.nR, h5, fm, r, s.row, by rw [efm]; rfl, SqL.of (u2 _ _ h6), r40, fun H4 l4 s4 n4 hl4 => ?_⟩
      have hpl4 := places_len s.row fm
      refine ⟨l4, _, rfl, hl4, by rw [List.length_map]; omega, fun H5 l5 s5 n5 hl5 => ?_⟩
      refine ⟨p2, l5, _, _, rfl, rfl, s5 _ _ (s4 _ _ upd_same), hl5, by rw [List.length_cons, List.length_cons, List.length_nil, List.length_map, line]; omega, fun p6 hp6 => ?_⟩
      have t6 := Same.new (o := .lst ([V.int q.1] ++ nV ((placesIn (Vbsyad.numbered s.row) fm).map nV).length :: (placesIn (Vbsyad.numbered s.row) fm).map nV)) hp6
      have tt := ((t2.trans s4).trans s5).trans t6
      have hfl := flat_len (row := s.row) ((lvI 0 t).take i)
      have hti : ((lvI 0 t).take i).length ≤ 8 := by rw [List.length_take, hn]; have := good.n8; omega
      have hfl2 : (((lvI 0 t).take i).flatMap (shedOf s.row)).length ≤ 8 * 42 := Nat.le_trans hfl (Nat.mul_le_mul hti (by omega))
      refine ⟨D, p6, _, _, rfl, rfl, tt _ _ hd, upd_same, ?_, ⟨_, _, rfl⟩, (sm.trans tt).over hD, ?_⟩
      · rw [List.length_map, List.length_cons, List.length_append, List.length_cons, List.length_cons, List.length_nil, List.length_map, line]
        omega
      · rw [upd_same, List.take_add_one, hqi, List.flatMap_append, List.map_cons, List.map_cons, List.map_append, List.length_map]
        have e : ((some q).toList.flatMap (shedOf s.row)).map V.int = [V.int q.1] ++ nV (placesIn (Vbsyad.numbered s.row) fm).length :: (placesIn (Vbsyad.numbered s.row) fm).map nV := by
          show ((q.1 :: Vbsyad.listRow (placesIn (Vbsyad.numbered s.row) q.1.toNat)) ++ []).map V.int = _
          rw [List.append_nil, List.map_cons, listRow_V, efm, Int.toNat_natCast]
          rfl
        rw [e]
        rfl
    · rintro σ H' ⟨⟨v5, v6, rfl⟩, sm, hd⟩
      rw [List.length_map, hal, List.take_length] at hd
      have hs2 := sm1.trans sm
      exact ⟨_, rfl, post.ok H' D hs2.kept (pre.tab.same hs2) (pre.flock.same hs2) hd⟩
  · have ea : Vbsyad.act s (.shed given) = (s, [-7]) := onPlan_no hbad
    exact post.nap ea H1 sm1.kept (pre.tab.same sm1) (pre.flock.same sm1)
theorem cut_row {xs : List V} {i n : Nat} (h : (i + 1) * n ≤ xs.length) : cutV xs (some (((i * n : Nat) : Int))) (some ((((i + 1) * n : Nat) : Int))) = (xs.drop (i * n)).take n := by
  have e : (i + 1) * n = i * n + n := Nat.succ_mul i n
  unfold cutV
  rw [HT.sIx_nat, HT.sIx_nat, Nat.min_eq_left h, Nat.min_eq_left (by omega : i * n ≤ xs.length), e, Nat.add_sub_cancel_left]
theorem scAPs : FnScope ["flock", "told", "given", "many", "farm"] ["flock", "told", "given"] (defScope sAPens) := ⟨rfl, rfl, rfl, by decide +kernel, rfl, by decide +kernel, by decide +kernel⟩
theorem ok_pens {f : Addr} {fd : FuncData} (FF : Fun K "answer_pens" "answer_pens" sAPens f fd) (N : Names mg cO cN) (FC : FlockCls K mg F) (d2 : dCl P w K mg base cO) :
    FnOk P w K mg base (CXE P w) 8 f fd ["flock", "told", "given"] (spAns K F T cO cN 0 (mk1 12)) := by
  obtain ⟨t1000, hmost⟩ := N.mostp
  obtain ⟨g2, gd2, mg2, F2, b2, G2⟩ := d2.ex
  refine FF.okE scAPs (fun vs H Q E h => spAns_len h) (fun cdv A outer s0 H vs Q E hr h => ?_)
  obtain ⟨fl, tl, gl, s, told, given, rfl, pre, htold, post⟩ := h
  obtain rfl := List.eq_nil_of_length_eq_zero htold
  obtain ⟨dx, fs, a, r, h1, h2, h3, h4, h5, h6, good⟩ := id pre.flock
  have line := sizeLine_eq
  refine ⟨_, pss_cons (ps_set (i := 3) scAPs.nd rfl (Or.inr rfl) (pe_callB call_len_seq (by rfl) N.len PySem.boot_len (pa_cons (pe_fld (pv 0) rfl) pa_nil)))
    (pss_cons (ps_expr (pe_call G2 (hr.mono (by decide)) (by rfl) mg2 F2.kp b2 .nil passes_def (pa_cons (pv 2) (pa_cons (pe_op op_mul (pv 3) (pv 3)) (pa_cons (pe_op op_mul (pv 3) (pv 3)) (pa_cons (pe_glob (v := .int 1000) (by rfl) hmost ⟨t1000, rfl⟩) pa_nil))))))
    (pss_cons (ps_fld (pv 0) (pe_lc (own := [("farm", 4)]) rfl scAPs.nd (pi_range1 (by rfl) N.range (pa_cons (pv 3) pa_nil)) (blkOk_by (by rfl)) (fun _ _ _ _ _ => pg_name (i := 4) scAPs.nd rfl (Or.inl rfl)) (fun _ _ _ _ _ => pts_nil)
      (fun _ _ _ _ _ => by exact pe_slice (sl_listK (K := K) rfl) (pv 2) (po_some (pe_op op_mul (pv 4) (pv 3))) (po_some (pe_op op_mul (pe_op op_add (pv 4) pe_int) (pv 3))))) rfl)
    (pss_one (ps_ret (pe_lst (pa_cons (pe_callB (cr_sum rfl) (by rfl) N.sum PyProof.Rows.boot_sum (pa_cons (pv 2) pa_nil)) pa_nil)))))), ?_⟩
  have n8 := good.n8
  have few := pre.few
  obtain ⟨n, en⟩ : ∃ n, n = s.counts.length := ⟨_, rfl⟩
  have hrng : ¬ (((n * n : Nat) : Int) ≤ (given.length : Int) ∧ (given.length : Int) ≤ ((n * n : Nat) : Int) ∧ ∀ y ∈ given, 0 ≤ y ∧ y ≤ 1000) → step s (mk1 12 [] given) = (s, [-1]) := fun h => by
    refine step_out (d := .pens given) rfl (bool_no fun z => ?_)
    have z : (given.length == s.counts.length * s.counts.length && given.all fun c => VbsyCore.isBetween c 0 1000) = true := z
    rw [Bool.and_eq_true, beq_iff_eq, ← en] at z
    exact h ⟨by rw [z.1]; exact Int.le_refl _, by rw [z.1]; exact Int.le_refl _, all_between.mp z.2⟩
  refine ⟨_, rfl, fl, F, dx, fs, _, rfl, h1, FC.cl, FC.nF, h3, a, _, rfl, .inl (SqL.of h4), ?_⟩
  rw [List.length_map, ← en]
  have en8 : n ≤ 8 := by omega
  refine ⟨_, rfl, _, rfl, _, rfl, _, _, rfl, rfl, .inl ⟨by omega, by omega⟩, _, rfl, _, rfl, _, _, rfl, rfl, .inl ⟨by omega, by omega⟩, ?_⟩
  have hmul : ((n * n : Nat) : Int) = (n : Int) * (n : Int) := Int.natCast_mul n n
  rw [hmul] at hrng
  refine ⟨gl, given, (n : Int) * (n : Int), (n : Int) * (n : Int), 1000, rfl, pre.hGiven, pre.few, fun k1 k2 k3 => ?_, fun g => post.oor (hrng g) H (Same.refl H).kept pre.tab pre.flock⟩
  rw [← hmul] at k1 k2
  have hgl : given.length = n * n := by omega
  have hin : Vbsyad.inRange s (.pens given) = true := by
    show (given.length == s.counts.length * s.counts.length && given.all fun c => VbsyCore.isBetween c 0 1000) = true
    rw [all_between.mpr k3, ← en, hgl, Bool.and_true, beq_self_eq_true]
  rw [step_in (d := .pens given) rfl hin] at post
  refine ⟨_, rfl, _, rfl, by omega, by omega, fun D hD => ?_⟩
  rw [Int.toNat_natCast]
  refine lc_range (fun i H' => Same H H' ∧ ∃ as : List Addr, H' D = some (.lst (as.map V.ref)) ∧ RowsOn (hid H' D) as ((List.range i).map fun k => ((given.drop (k * n)).take n).map Int.toNat)) ⟨Same.new hD, [], upd_same, .nil⟩ (fun i H' hi ⟨sm, as, hd, hp⟩ => ?_) (fun H2 ⟨sm2, as, hd, hp⟩ => ?_)
  · have hal : as.length = i := by rw [paired_len hp, List.length_map, List.length_range]
    have e1 : (0 + (i : Int)) * (n : Int) = ((i * n : Nat) : Int) := by rw [Int.zero_add, Int.natCast_mul]
    have e2 : (0 + (i : Int) + 1) * (n : Int) = (((i + 1) * n : Nat) : Int) := by rw [Int.zero_add, Int.natCast_mul]; rfl
    have hle : (i + 1) * n ≤ (given.map V.int).length := by
      rw [List.length_map, hgl]
      exact Nat.mul_le_mul_right n hi
    refine ⟨rfl, yes_of ?_⟩
    refine ⟨_, rfl, _, rfl, _, rfl, _, _, rfl, rfl, .inl ⟨by omega, by omega⟩, _, rfl, _, rfl, _, _, rfl, rfl, _, rfl, _, _, rfl, rfl, .inl ⟨by omega, by omega⟩, _, rfl, gl, _, rfl, sm.seq pre.hGiven, fun p hp1 => ?_⟩
    rw [e1, e2, cut_row hle]
    have enn : ((given.map V.int).drop (i * n)).take n = (((given.drop (i * n)).take n).map Int.toNat).map nV := by
      rw [← List.map_drop, ← List.map_take, nats_of fun y hy => (k3 y (List.mem_of_mem_drop (List.mem_of_mem_take hy))).1]
    rw [enn]
    have t1 := Same.new (o := .lst ((((given.drop (i * n)).take n).map Int.toNat).map nV)) hp1
    have nd : p ≠ D := Ne.symm (ne_of_none hd hp1)
    refine ⟨_, t1 _ _ hd, ?_, (sm.trans t1).over hD, as ++ [p], ?_, ?_⟩
    · rw [List.length_map, hal, line]; omega
    · rw [upd_same, List.map_append]
      rfl
    · rw [hid_upd, List.range_succ, List.map_append]
      exact paired_snoc (RowsOn.same hp (hid_mono t1)) (hid_get upd_same nd)
  refine ⟨_, rfl, fl, F, dx, fs, rfl, sm2 _ _ h1, FC.cl, FC.nP, by omega, ?_⟩
  obtain ⟨pa, ps, hpa, _, _⟩ := good.pens
  have f1 := putF_len (v := V.ref D) hpa
  have nD : D ≠ fl := by rintro rfl; rw [h1] at hD; cases hD
  have hk : ∀ (b : Addr) (o : HO), b ≠ fl → H b = some o → (upd H2 fl (.ins F dx (putF "pens" (V.ref D) fs))) b = some o := fun b o nb e => by
    rw [upd_ne nb]
    exact sm2 _ _ e
  have erows : (List.range n).map (fun k => ((given.drop (k * n)).take n).map Int.toNat) = Vbsyad.rowsOf n n given := (rows_eq n n given).symm
  rw [erows] at hp
  have hfl : FlockAt F (upd H2 fl (.ins F dx (putF "pens" (V.ref D) fs))) fl { s with pens := Vbsyad.rowsOf n n given } := by
    have hrl : (Vbsyad.rowsOf n n given).length = n := by rw [rows_eq, List.length_map, List.length_range]
    refine ⟨dx, _, a, r, upd_same, by omega, ?_, hk _ _ (ne_of h4 h1 fun z => nomatch z) h4, ?_, hk _ _ (ne_of h6 h1 fun z => nomatch z) h6, ⟨good.n1, good.n8, good.c, good.r40, good.r, ?_, ?_⟩, ?_, D, as, ?_, ?_, ?_⟩
    · rw [lookup_putF, if_neg (by decide)]; exact h3
    · rw [lookup_putF, if_neg (by decide)]; exact h5
    · show (Vbsyad.rowsOf n n given).length = s.counts.length
      rw [hrl, en]
    · intro l hl
      have hl : l ∈ Vbsyad.rowsOf n n given := hl
      show l.length = (Vbsyad.rowsOf n n given).length
      rw [hrl]
      rw [rows_eq] at hl
      obtain ⟨k, hk, rfl⟩ := List.mem_map.mp hl
      have hkn := List.mem_range.mp hk
      have hkk : (k + 1) * n ≤ n * n := Nat.mul_le_mul_right n hkn
      rw [Nat.succ_mul] at hkk
      rw [List.length_map, List.length_take, List.length_drop, hgl]
      omega
    · rw [lookup_putF, if_neg (by decide)]; exact good.nb
    · rw [lookup_putF, if_pos rfl]
    · rw [upd_ne nD]; exact hd
    · refine Paired.mapP hp fun b l e => ?_
      have e := hid_same _ _ _ _ e
      rw [upd_ne (ne_of e (sm2 _ _ h1) fun z => nomatch z)]
      exact e
  refine ⟨_, rfl, gl, given, rfl, pre.hGiven.keepF h1 hk, by show 1 ≤ sizeLine; decide, fun p hp => ?_⟩
  have sp := Same.new (o := .lst [V.int given.sum]) hp
  have ea : Vbsyad.act s (.pens given) = ({ s with pens := Vbsyad.rowsOf n n given }, [given.sum]) := by rw [en]; rfl
  rw [ea] at post
  exact post.ok _ p (fun b o _ nb e => sp _ _ (hk b o nb e)) ((pre.tab.keep h1 hk).same sp) (hfl.same sp) (by rw [upd_same]; rfl)
end
end Shed
end
section
set_option Elab.async false
set_option linter.all false
set_option maxRecDepth 100000
set_option maxHeartbeats 2000000
namespace L2
open PySem PySem.Spec PyProof.Rows
theorem ix_tupK {X : Cx} {K : PySem.W.Frag} (hK : X.K = K) : IxR X (rIxT K) := by
  subst hK
  exact ix_tup
end L2
namespace Shed
open PySem PySem.Spec PyProof.Rows L2
open Vbsyad (State step)
abbrev sFlockInit : Stmt := inClass (top 13) 0
abbrev sLineInit : Stmt := inClass (top 15) 0
abbrev sTaken : Stmt := inClass (top 15) 1
abbrev sAnswerCall : Stmt := top 65
abbrev sAnswerFrom : Stmt := top 66
abbrev sAnswers : Stmt := top 67
structure LineCls (K : PySem.W.Frag) (mg : Str → Option Value) (L g : Addr) : Prop where
  cl : Cls K L
  nC : NoAttr K L "calls"
  nP : NoAttr K L "place"
  mgL : mg "Line" = some (.ref L)
  taken : Meth K L "taken" g
def LineAt (L : Addr) (H : Hp) (ln ca : Addr) (p : Nat) : Prop := ∃ (dx : Addr) (fs : List (Str × V)), H ln = some (.ins L dx fs) ∧ fs.length ≤ 10 ∧ fs.lookup ("calls" : Str) = some (V.ref ca) ∧ fs.lookup ("place" : Str) = some (nV p) ∧ fs.lookup ("taken" : Str) = none
theorem LineAt.keep {L : Addr} {H H' : Hp} {ln ca : Addr} {p : Nat} (h : LineAt L H ln ca p) (k : ∀ o, H ln = some o → H' ln = some o) : LineAt L H' ln ca p := by
  obtain ⟨dx, fs, h1, h2⟩ := h
  exact ⟨dx, fs, k _ h1, h2⟩
theorem cut_mid {xs : List V} {p m : Nat} (h : p + m ≤ xs.length) : cutV xs (some (p : Int)) (some ((p + m : Nat) : Int)) = (xs.drop p).take m := by
  unfold cutV
  rw [HT.sIx_nat, HT.sIx_nat, Nat.min_eq_left h, Nat.min_eq_left (by omega : p ≤ xs.length), Nat.add_sub_cancel_left]
section
variable {P : Program} {w : World} {K : PySem.W.Frag} {mg : Str → Option Value} {base : Heap} {cO cN C F T L gT : Addr}
def spFlockInit (F : Addr) : Sp := fun vs H Q _ => ∃ (p dx : Addr), vs = [.ref p] ∧ H p = some (.ins F dx []) ∧ ∀ H' : Hp, FlockAt F H' p Vbsyad.start → (∀ b o, H b = some o → b ≠ p → H' b = some o) → Q .non H'
theorem scFI : FnScope ["self"] ["self"] (defScope sFlockInit) := ⟨rfl, rfl, rfl, by decide +kernel, rfl, by decide +kernel, by decide +kernel⟩
theorem ok_flockInit {f gB : Addr} {fd : FuncData} (FF : Fun K "__init__" "Flock.__init__" sFlockInit f fd) (FC : FlockCls K mg F) (B : Begins P w K mg base F gB) (A1 : AtFirst K mg) : FnOk P w K mg base CX0 2 f fd ["self"] (spFlockInit F) := by
  obtain ⟨gdB, bB, _, GB⟩ := B.ex
  obtain ⟨ta, hta, hT⟩ := A1
  refine FF.ok scFI (fun vs H Q E h => ?_) (fun cdv A outer s H vs Q E hr h => ?_)
  · obtain ⟨p, dx, rfl, _⟩ := h
    rfl
  · obtain ⟨p, dx, rfl, hp, k⟩ := h
    refine ⟨_, pss_one (ps_expr (pe_meth (pv 0) FC.cl B.meth GB hr bB .nil pass0 (pa_cons (pe_glob (v := .ref ta) (by rfl) hta rfl) pa_nil))), ?_⟩
    refine ⟨_, rfl, p, dx, [], rfl, hp, rfl, p, dx, ta, [], [0], rfl, hp, by decide, fun x y z => by show 3 ≤ 10; decide, rfl, hT H, by decide, by decide, by decide, fun H1 hfl hk => ?_⟩
    exact k H1 hfl fun b o e nb => hk b o nb e
def spLineInit (L : Addr) : Sp := fun vs H Q _ => ∃ (p dx ca : Addr), vs = [.ref p, .ref ca] ∧ H p = some (.ins L dx []) ∧ ∀ H' : Hp, LineAt L H' p ca 0 → (∀ b o, H b = some o → b ≠ p → H' b = some o) → Q .non H'
theorem scLI : FnScope ["self", "calls"] ["self", "calls"] (defScope sLineInit) := ⟨rfl, rfl, rfl, by decide +kernel, rfl, by decide +kernel, by decide +kernel⟩
theorem ok_lineInit {f : Addr} {fd : FuncData} (FF : Fun K "__init__" "Line.__init__" sLineInit f fd) (LC : LineCls K mg L gT) : FnOk P w K mg base CX0 1 f fd ["self", "calls"] (spLineInit L) := by
  refine FF.ok scLI (fun vs H Q E h => ?_) (fun cdv A outer s H vs Q E hr h => ?_)
  · obtain ⟨p, dx, ca, rfl, _⟩ := h
    rfl
  · obtain ⟨p, dx, ca, rfl, hp, k⟩ := h
    refine ⟨_, pss_cons (ps_fld (pv 0) (pv 1) rfl) (pss_one (ps_fld (pv 0) pe_int rfl)), ?_⟩
    refine ⟨_, rfl, _, rfl, p, L, dx, [], rfl, hp, LC.cl, LC.nC, by show 0 < 1000; decide, ?_⟩
    refine ⟨_, rfl, p, L, dx, _, rfl, upd_same, LC.cl, LC.nP, by show 1 < 1000; decide, ?_⟩
    refine k _ ⟨dx, _, upd_same, by show 2 ≤ 10; decide, ?_, ?_, ?_⟩ fun b o e nb => ?_
    · rw [lookup_putF, if_neg (by decide), lookup_putF, if_pos rfl]
    · rw [lookup_putF, if_pos rfl]; rfl
    · rw [lookup_putF, if_neg (by decide), lookup_putF, if_neg (by decide)]; rfl
    · rw [upd_ne nb, upd_ne nb]; exact e
def spTaken (K : PySem.W.Frag) (L : Addr) : Sp := fun vs H Q _ => ∃ (ln ca : Addr) (p m : Nat) (cs : List Int), vs = [.ref ln, nV m] ∧ LineAt L H ln ca p ∧ SqL K H ca (cs.map V.int) ∧ p + m ≤ cs.length ∧
  ∀ (H' : Hp) (l : Addr), LineAt L H' ln ca (p + m) → (∀ b o, b ≠ ln → H b = some o → H' b = some o) → H l = none → H' l = some (.lst (((cs.drop p).take m).map V.int)) → Q (.ref l) H'
theorem scTk : FnScope ["self", "many", "start"] ["self", "many"] (defScope sTaken) := ⟨rfl, rfl, rfl, by decide +kernel, rfl, by decide +kernel, by decide +kernel⟩
theorem ok_taken {f : Addr} {fd : FuncData} (FF : Fun K "taken" "Line.taken" sTaken f fd) (LC : LineCls K mg L gT) : FnOk P w K mg base CX0 1 f fd ["self", "many"] (spTaken K L) := by
  refine FF.ok scTk (fun vs H Q E h => ?_) (fun cdv A outer s H vs Q E hr h => ?_)
  · obtain ⟨ln, ca, p, m, cs, rfl, _⟩ := h
    rfl
  · obtain ⟨ln, ca, p, m, cs, rfl, hln, hs, hle, k⟩ := h
    obtain ⟨dx, fs, h1, h2, h3, h4, h5⟩ := id hln
    refine ⟨_, pss_cons (ps_set (i := 2) scTk.nd rfl (Or.inl rfl) (pe_fld (pv 0) rfl))
      (pss_cons (ps_fld (pv 0) (pe_op op_add (pv 2) (pv 1)) rfl)
      (pss_one (ps_ret (pe_slice sl_list (pe_fld (pv 0) rfl) (po_some (pv 2)) (po_some (pe_fld (pv 0) rfl)))))), ?_⟩
    refine ⟨_, rfl, ln, L, dx, fs, _, rfl, h1, LC.cl, LC.nP, h4, ?_⟩
    refine ⟨_, rfl, _, rfl, _, _, rfl, rfl, _, rfl, ln, L, dx, fs, rfl, h1, LC.cl, LC.nP, by omega, ?_⟩
    have e1 : (p : Int) + (m : Int) = ((p + m : Nat) : Int) := by omega
    have f1 := putF_len (v := V.int ((p : Int) + (m : Int))) h4
    have hL : LineAt L (upd H ln (.ins L dx (putF "place" (V.int ((p : Int) + (m : Int))) fs))) ln ca (p + m) := by
      refine ⟨dx, _, upd_same, by omega, ?_, ?_, ?_⟩
      · rw [lookup_putF, if_neg (by decide)]; exact h3
      · rw [lookup_putF, if_pos rfl, e1]; rfl
      · rw [lookup_putF, if_neg (by decide)]; exact h5
    obtain ⟨dx', fs', q1, q2, q3, q4, q5⟩ := id hL
    have hs' : SqL K (upd H ln (.ins L dx (putF "place" (V.int ((p : Int) + (m : Int))) fs))) ca (cs.map V.int) := hs.keep fun o e ho => by
      rw [upd_ne (ne_of e h1 ?_)]
      · exact e
      · rcases ho with rfl | ⟨ob, rfl⟩ <;> exact fun z => nomatch z
    refine ⟨_, rfl, ln, L, dx', fs', _, rfl, q1, LC.cl, LC.nC, q3, _, rfl, _, rfl, _, rfl, ln, L, dx', fs', _, rfl, q1, LC.cl, LC.nP, q4, _, rfl, ca, _, rfl, hs', fun l hl => ?_⟩
    rw [cut_mid (by rw [List.length_map]; exact hle), ← List.map_drop, ← List.map_take]
    have nl : l ≠ ln := by rintro rfl; rw [upd_same] at hl; cases hl
    rw [upd_ne nl] at hl
    refine k _ l (hL.keep fun o e => ?_) (fun b o nb e => ?_) hl upd_same
    · rw [upd_ne nl.symm]; exact e
    · rw [upd_ne (ne_of_none e hl), upd_ne nb]; exact e
end
end Shed
end
section
set_option Elab.async false
set_option linter.all false
set_option maxRecDepth 100000
set_option maxHeartbeats 2000000
namespace Shed
open PySem PySem.Spec PyProof.Rows L2
open Vbsyad (State step)
def ntOf (n : Nat) : Nat := ((PyVbsyad.shape (n : Int)).getD (0, 0)).1
def nlOf (n : Nat) : Nat := ((PyVbsyad.shape (n : Int)).getD (0, 0)).2
def mkc (n : Nat) (told given : List Int) : List (List Int) := ((n : Int) :: told) :: (if nlOf n = 1 then [given] else [])
structure Tables (K : PySem.W.Frag) (mg : Str → Option Value) (NA : Nat) (fs : Nat → Addr) : Prop where
  an : ∃ ta, mg "ANSWERERS" = some (.ref ta) ∧ ∀ H, SqT K H ta ((List.range NA).map fun i => V.ref (fs i))
  wn : ∃ ta, mg "WHOLE_NUMBERS" = some (.ref ta) ∧ ∀ H, SqT K H ta ((List.range NA).map fun i => nV (ntOf i))
  ls : ∃ ta, mg "LISTS" = some (.ref ta) ∧ ∀ H, SqT K H ta ((List.range NA).map fun i => nV (nlOf i))
  oorV : ∃ t, mg "OUT_OF_RANGE" = some (.int (-1) t)
  napV : ∃ t, mg "NOT_A_PLAN" = some (.int (-7) t)
theorem tab_get {NA n : Nat} {g : Nat → V} (h : n < NA) : atI ((List.range NA).map g) (n : Int) = some (g n) := atI_nat (by rw [List.getElem?_map, List.getElem?_range h]; rfl)
section
variable {P : Program} {w : World} {K : PySem.W.Frag} {mg : Str → Option Value} {base : Heap} {cO cN C F T L gT : Addr} {NA : Nat} {fs : Nat → Addr}
def spCall (K : PySem.W.Frag) (F T : Addr) (NA : Nat) : Sp := fun vs H Q _ => ∃ (fl tl gl : Addr) (n : Nat) (s : State) (told given : List Int), vs = [.ref fl, nV n, .ref tl, .ref gl] ∧ n < NA ∧ Pre K F T H fl tl gl s told given ∧ told.length = ntOf n ∧
  ∀ (H' : Hp) (l : Addr), Kept T fl H H' → Tab T H' → FlockAt F H' fl (step s (mkc n told given)).1 → H' l = some (.lst ((step s (mkc n told given)).2.map V.int)) → Q (.ref l) H'
theorem scAC : FnScope ["flock", "number", "told", "given"] ["flock", "number", "told", "given"] (defScope sAnswerCall) := ⟨rfl, rfl, rfl, by decide +kernel, rfl, by decide +kernel, by decide +kernel⟩
theorem ok_call {f : Addr} {fd : FuncData} {fds : Nat → FuncData} (FF : Fun K "answer_call" "answer_call" sAnswerCall f fd) (N : Names mg cO cN) (c1 : XCls K cO) (c2 : XCls K cN) (hne : cN ≠ cO) (TB : Tables K mg NA fs)
    (G : ∀ i, i < NA → FnOk P w K mg base (CXE P w) 8 (fs i) (fds i) ["flock", "told", "given"] (spAns K F T cO cN (ntOf i) (mkc i))) (hk : ∀ i, i < NA → PySem.W.keepIn K (.ref (fs i)) = true) (hb : ∀ i, i < NA → Binds K (fds i) ["flock", "told", "given"] []) :
    FnOk P w K mg base (CXE P w) 9 f fd ["flock", "number", "told", "given"] (spCall K F T NA) := by
  obtain ⟨ta, hta, hT⟩ := TB.an
  obtain ⟨t1, ho⟩ := TB.oorV
  obtain ⟨t7, hn⟩ := TB.napV
  refine FF.okE scAC (fun vs H Q E h => ?_) (fun cdv A outer s0 H vs Q E hr h => ?_)
  · obtain ⟨_, _, _, _, _, _, _, rfl, _⟩ := h
    rfl
  obtain ⟨fl, tl, gl, n, s, told, given, rfl, hnn, pre, htold, k⟩ := h
  refine ⟨_, pss_one (ps_try (E := fun cls _ H' => ((cls = .ref cO ∧ step s (mkc n told given) = (s, [-1])) ∨ (cls = .ref cN ∧ step s (mkc n told given) = (s, [-7]))) ∧ Kept T fl H H' ∧ Tab T H' ∧ FlockAt F H' fl s) rfl rfl
      (fun pins xe hp _ => by exact pss_one (ps_ret (pe_callE (ι := Fin NA) (fs := fun i => fs i.1) (fd := fun i => fds i.1) (ps := fun _ => ["flock", "told", "given"]) (sp := fun i => spAns K F T cO cN (ntOf i.1) (mkc i.1))
        (fun i => G i.1 i.2) hr (fun i => hk i.1 i.2) (fun i => hb i.1 i.2) hp (pe_ix (ix_tupK (K := K) rfl) (pe_glob (v := .ref ta) (by rfl) hta rfl) (pv 1) (fun _ _ => rfl)) (pa_cons (pv 0) (pa_cons (pv 2) (pa_cons (pv 3) pa_nil))))))
      (ph_cons c1 (by rfl) N.oor (fun _ => pss_one (ps_ret (pe_lst (pa_cons (pe_glob (v := .int (-1)) (by rfl) ho ⟨t1, rfl⟩) pa_nil))))
        (ph_cons c2 (by rfl) N.nap (fun _ => pss_one (ps_ret (pe_lst (pa_cons (pe_glob (v := .int (-7)) (by rfl) hn ⟨t7, rfl⟩) pa_nil)))) ph_nil))), ?_⟩
  refine ⟨⟨_, rfl, ta, _, _, _, rfl, rfl, hT H, tab_get hnn, ⟨n, hnn⟩, rfl, _, rfl, _, rfl, _, rfl, fl, tl, gl, s, told, given, rfl, pre, htold, ⟨fun H' l k1 k2 k3 k4 => k H' l k1 k2 k3 k4, fun e H' k1 k2 k3 => ⟨.inl ⟨rfl, e⟩, k1, k2, k3⟩, fun e H' k1 k2 k3 => ⟨.inr ⟨rfl, e⟩, k1, k2, k3⟩⟩⟩, ?_⟩
  rintro cls σ' H' ⟨hc, k1, k2, k3⟩
  have fin : ∀ (z : Int) (p : Addr), H' p = none → step s (mkc n told given) = (s, [z]) → Q (.ref p) (upd H' p (.lst [V.int z])) := fun z p hp e => by
    have sm := Same.new (o := .lst [V.int z]) hp
    refine k _ p (k1.trans sm.kept) (k2.same sm) ?_ ?_
    · rw [e]; exact k3.same sm
    · rw [e, upd_same]; rfl
  rcases hc with ⟨rfl, e⟩ | ⟨rfl, e⟩
  · exact .inl ⟨rfl, by show 1 ≤ sizeLine; decide, fun p hp => fin _ p hp e⟩
  · exact .inr ⟨⟨cN, rfl, hne, c2⟩, .inl ⟨rfl, by show 1 ≤ sizeLine; decide, fun p hp => fin _ p hp e⟩⟩
def Kept3 (T fl ln : Addr) (H H' : Hp) : Prop := ∀ b o, b ≠ T → b ≠ fl → b ≠ ln → H b = some o → H' b = some o
structure CallAt (NA : Nat) (cs : List Int) (p n : Nat) (told given : List Int) (p' : Nat) : Prop where
  num : cs[p]? = some (n : Int)
  lt : n < NA
  toldIs : (cs.drop (p + 1)).take (ntOf n) = told
  toldLen : told.length = ntOf n
  le : p + 1 + ntOf n ≤ cs.length
  few : given.length ≤ 64
  nl : nlOf n = 0 ∨ nlOf n = 1
  none : nlOf n = 0 → given = [] ∧ p' = p + 1 + ntOf n
  one : nlOf n = 1 → cs[p + 1 + ntOf n]? = some (given.length : Int) ∧ (cs.drop (p + 1 + ntOf n + 1)).take given.length = given ∧ p' = p + 1 + ntOf n + 1 + given.length ∧ p' ≤ cs.length
def spFrom (K : PySem.W.Frag) (F T L : Addr) (NA : Nat) : Sp := fun vs H Q _ => ∃ (fl ln ca : Addr) (cs : List Int) (p n p' : Nat) (s : State) (told given : List Int), vs = [.ref fl, .ref ln] ∧ FlockAt F H fl s ∧ Tab T H ∧ LineAt L H ln ca p ∧ SqL K H ca (cs.map V.int) ∧
  CallAt NA cs p n told given p' ∧
  ∀ (H' : Hp) (l : Addr), Kept3 T fl ln H H' → Tab T H' → FlockAt F H' fl (step s (mkc n told given)).1 → LineAt L H' ln ca p' → H' l = some (.lst ((step s (mkc n told given)).2.map V.int)) → Q (.ref l) H'
theorem drop_get {α : Type} {l : List α} {p : Nat} {x : α} (h : l[p]? = some x) : (l.drop p).take 1 = [x] := by
  have h2 : (l.drop p)[0]? = some x := by rw [List.getElem?_drop]; exact h
  cases e : l.drop p with
  | nil => rw [e] at h2; cases h2
  | cons y r => rw [e] at h2; cases h2; rfl
theorem scAFr : FnScope ["flock", "line", "number", "told", "given", "many"] ["flock", "line"] (defScope sAnswerFrom) := ⟨rfl, rfl, rfl, by decide +kernel, rfl, by decide +kernel, by decide +kernel⟩
theorem ok_from {f : Addr} {fd gd1 : FuncData} (FF : Fun K "answer_from" "answer_from" sAnswerFrom f fd) (LC : LineCls K mg L gT) (G1 : FnOk P w K mg base CX0 1 gT gd1 ["self", "many"] (spTaken K L)) (b1 : Binds K gd1 ["self", "many"] []) (TB : Tables K mg NA fs)
    (d2 : Def P w K mg base (CXE P w) 9 "answer_call" sAnswerCall ["flock", "number", "told", "given"] (spCall K F T NA)) (hFL : F ≠ L) :
    FnOk P w K mg base (CXE P w) 10 f fd ["flock", "line"] (spFrom K F T L NA) := by
  obtain ⟨ta, hta, hT⟩ := TB.wn
  obtain ⟨tb, htb, hB⟩ := TB.ls
  obtain ⟨g2, gd2, mg2, F2, b2, G2⟩ := d2.ex
  have G1 := G1.cx (CX := CXE P w)
  refine FF.okE scAFr (fun vs H Q E h => ?_) (fun cdv A outer s0 H vs Q E hr h => ?_)
  · obtain ⟨_, _, _, _, _, _, _, _, _, _, rfl, _⟩ := h
    rfl
  obtain ⟨fl, ln, ca, cs, p, n, p', s, told, given, rfl, hfl, htab, hln, hs, hc, k⟩ := h
  have hr1 : Room 1 _ := hr.mono (by decide)
  refine ⟨_, pss_cons (ps_set (i := 2) scAFr.nd rfl (Or.inl rfl) (pe_ix ix_list (pe_meth (pv 1) LC.cl LC.taken G1 hr1 b1 .nil passes_def (pa_cons pe_int pa_nil)) pe_int (fun _ _ => rfl)))
    (pss_cons (ps_set (i := 3) scAFr.nd rfl (Or.inl rfl) (pe_meth (pv 1) LC.cl LC.taken G1 hr1 b1 .nil passes_def (pa_cons (pe_ix ix_tup (pe_glob (v := .ref ta) (by rfl) hta rfl) (pv 2) (fun _ _ => rfl)) pa_nil)))
    (pss_cons (ps_set (i := 4) scAFr.nd rfl (Or.inl rfl) (pe_lst pa_nil))
    (pss_cons (ps_join (ps_if (pt_cmpR op_eq (pe_ix ix_tup (pe_glob (v := .ref tb) (by rfl) htb rfl) (pv 2) (fun _ _ => rfl)) pe_int (nomark _))
        (pss_cons (ps_set (i := 5) scAFr.nd rfl (Or.inl rfl) (pe_ix ix_list (pe_meth (pv 1) LC.cl LC.taken G1 hr1 b1 .nil passes_def (pa_cons pe_int pa_nil)) pe_int (fun _ _ => rfl)))
        (pss_one (ps_set (i := 4) scAFr.nd rfl (Or.inl rfl) (pe_meth (pv 1) LC.cl LC.taken G1 hr1 b1 .nil passes_def (pa_cons (pv 5) pa_nil))))) pss_nil))
    (pss_one (ps_ret (pe_call G2 hr (by rfl) mg2 F2.kp b2 .nil passes_def (pa_cons (pv 0) (pa_cons (pv 2) (pa_cons (pv 3) (pa_cons (pv 4) pa_nil)))))))))), ?_⟩
  have flne : ∀ {H1 : Hp} {s1 : State} {q : Nat}, FlockAt F H1 fl s1 → LineAt L H1 ln ca q → fl ≠ ln := fun {H1 s1 q} h1 h2 z => by
    obtain ⟨_, _, _, _, e1, _⟩ := h1
    obtain ⟨_, _, e2, _⟩ := h2
    rw [z, e2] at e1
    cases e1
    exact hFL rfl
  have onF : ∀ {H1 H2 : Hp} {s1 : State} {q : Nat}, FlockAt F H1 fl s1 → LineAt L H1 ln ca q → (∀ b o, b ≠ ln → H1 b = some o → H2 b = some o) → FlockAt F H2 fl s1 := fun {H1 H2 s1 q} h1 h2 kk => by
    have ne := flne h1 h2
    obtain ⟨_, _, e2, _⟩ := id h2
    obtain ⟨dx, fs, a, r, a1, a2, a3, a4, a5, a6, a7⟩ := h1
    exact ⟨dx, fs, a, r, kk _ _ ne a1, a2, a3, kk _ _ (ne_of a4 e2 fun z => nomatch z) a4, a5, kk _ _ (ne_of a6 e2 fun z => nomatch z) a6, a7.keep fun _ _ e => kk _ _ (ne_of e e2 fun z => nomatch z) e⟩
  have onT : ∀ {H1 H2 : Hp} {q : Nat}, Tab T H1 → LineAt L H1 ln ca q → (∀ b o, b ≠ ln → H1 b = some o → H2 b = some o) → Tab T H2 := fun {H1 H2 q} h1 h2 kk => by
    obtain ⟨_, _, e2, _⟩ := id h2
    rcases h1 with x | ⟨c, x, y⟩
    · exact .inl (kk _ _ (ne_of x e2 (fun z => nomatch z)) x)
    · exact .inr ⟨c, kk _ _ (ne_of x e2 (fun z => nomatch z)) x, kk _ _ (ne_of y e2 (fun z => nomatch z)) y⟩
  have onS : ∀ {H1 H2 : Hp} {q : Nat} {a : Addr} {xs : List V}, SqL K H1 a xs → LineAt L H1 ln ca q → (∀ b o, b ≠ ln → H1 b = some o → H2 b = some o) → SqL K H2 a xs := fun {H1 H2 q a xs} h1 h2 kk => h1.keep fun o e ho => by
    obtain ⟨_, _, e2, _⟩ := id h2
    refine kk _ _ (ne_of e e2 ?_) e
    rcases ho with rfl | ⟨ob, rfl⟩ <;> exact fun z => nomatch z
  have meth : ∀ {H1 : Hp} {q : Nat}, LineAt L H1 ln ca q → ∃ dx fs, H1 ln = some (.ins L dx fs) ∧ fs.lookup ("taken" : Str) = none := fun {H1 q} h1 => by
    obtain ⟨dx, fs, a1, _, _, _, a5⟩ := h1
    exact ⟨dx, fs, a1, a5⟩
  obtain ⟨dx1, fs1, m1, m2⟩ := meth hln
  have hp1 : p + 1 ≤ cs.length := by have := hc.le; omega
  refine ⟨_, rfl, ln, dx1, fs1, rfl, m1, m2, ln, ca, p, 1, cs, rfl, hln, hs, hp1, fun H1 l1 hln1 k1 nl1 hl1 => ?_⟩
  rw [drop_get hc.num] at hl1
  refine ⟨l1, _, _, _, rfl, rfl, SqL.of hl1, rfl, ?_⟩
  obtain ⟨dx2, fs2, m3, m4⟩ := meth hln1
  refine ⟨_, rfl, ln, dx2, fs2, rfl, m3, m4, _, rfl, ta, _, _, _, rfl, rfl, hT H1, tab_get hc.lt, ?_⟩
  refine ⟨ln, ca, p + 1, ntOf n, cs, rfl, hln1, onS hs hln k1, hc.le, fun H2 l2 hln2 k2 nl2 hl2 => ?_⟩
  rw [hc.toldIs] at hl2
  have k12 : ∀ b o, b ≠ ln → H b = some o → H2 b = some o := fun b o nb e => k2 b o nb (k1 b o nb e)
  refine ⟨by show 0 ≤ sizeLine; decide, fun l3 hl3 => ?_⟩
  have s3 := Same.new (o := .lst []) hl3
  have ln3 : LineAt L (upd H2 l3 (.lst [])) ln ca (p + 1 + ntOf n) := hln2.keep fun o e => s3 _ _ e
  have k13 : ∀ b o, b ≠ ln → H b = some o → (upd H2 l3 (.lst [])) b = some o := fun b o nb e => s3 _ _ (k12 b o nb e)
  refine ⟨fun σ H' => ∃ (gl : Addr) (v : Option V), σ = [some (.ref fl), some (.ref ln), some (nV n), some (.ref l2), some (.ref gl), v] ∧ (∀ b o, b ≠ ln → H b = some o → H' b = some o) ∧ LineAt L H' ln ca p' ∧ H' l2 = some (.lst (told.map V.int)) ∧ H' gl = some (.lst (given.map V.int)), ?_, ?_⟩
  · rintro σ H' ⟨gl, v, rfl, kk, hln', hl2', hgl⟩
    refine ⟨_, rfl, _, rfl, _, rfl, _, rfl, fl, l2, gl, n, s, told, given, rfl, hc.lt, ⟨onF hfl hln kk, onT htab hln kk, SqL.of hl2', SqL.of hgl, hc.few⟩, hc.toldLen, fun H3 l kp tb ff hl => ?_⟩
    have nT : ln ≠ T := by
      obtain ⟨_, _, e2, _⟩ := id hln
      exact htab.ne e2 fun _ z => nomatch z
    exact k H3 l (fun b o n1 n2 n3 e => kp b o n1 n2 (kk b o n3 e)) tb ff (hln'.keep fun o e => kp _ _ nT (flne hfl hln).symm e) hl
  · refine ⟨_, rfl, tb, _, _, _, rfl, rfl, hB _, tab_get hc.lt, ?_⟩
    have hsc : (scal (nV (nlOf n)) (V.int 1)) = true := rfl
    refine ⟨hsc, _, rfl, ?_⟩
    refine ite2 (fun h => ?_) (fun h => ?_)
    · have h1 : nlOf n = 1 := by
        have : V.int ((nlOf n : Nat) : Int) = V.int 1 := of_decide_eq_true h
        injection this with this
        omega
      obtain ⟨o1, o2, o3, o4⟩ := hc.one h1
      obtain ⟨dx4, fs4, m5, m6⟩ := meth ln3
      refine ⟨_, rfl, ln, dx4, fs4, rfl, m5, m6, ln, ca, p + 1 + ntOf n, 1, cs, rfl, ln3, onS hs hln k13, by omega, fun H4 l4 hln4 k4 nl4 hl4 => ?_⟩
      rw [drop_get o1] at hl4
      refine ⟨l4, _, _, _, rfl, rfl, SqL.of hl4, rfl, ?_⟩
      obtain ⟨dx5, fs5, m7, m8⟩ := meth hln4
      have k14 : ∀ b o, b ≠ ln → H b = some o → H4 b = some o := fun b o nb e => k4 b o nb (k13 b o nb e)
      refine ⟨_, rfl, ln, dx5, fs5, rfl, m7, m8, _, rfl, ln, ca, p + 1 + ntOf n + 1, given.length, cs, rfl, hln4, onS hs hln k14, by omega, fun H5 l5 hln5 k5 nl5 hl5 => ?_⟩
      rw [o2] at hl5
      have e2 : H5 l2 = some (.lst (told.map V.int)) := by
        obtain ⟨_, _, q3, _⟩ := id ln3
        obtain ⟨_, _, q4, _⟩ := id hln4
        have z1 := s3 _ _ hl2
        have z2 := k4 _ _ (ne_of z1 q3 fun z => nomatch z) z1
        exact k5 _ _ (ne_of z2 q4 fun z => nomatch z) z2
      refine ⟨l5, _, rfl, fun b o nb e => k5 b o nb (k14 b o nb e), ?_, e2, hl5⟩
      rw [o3]
      exact hln5
    · have h0 : nlOf n = 0 := by
        rcases hc.nl with q | q
        · exact q
        · exact absurd (decide_eq_true (by rw [q]; rfl)) h
      obtain ⟨q1, q2⟩ := hc.none h0
      refine ⟨l3, none, rfl, k13, ?_, s3 _ _ hl2, ?_⟩
      · rw [q2]; exact ln3
      · rw [q1, upd_same]; rfl
end
end Shed
end
section
set_option Elab.async false
set_option linter.all false
set_option maxRecDepth 100000
set_option maxHeartbeats 2000000
namespace L2
open PySem PySem.Spec PyProof.Rows
theorem FnOk.calm {P : Program} {w : World} {K : PySem.W.Frag} {mg : Str → Option Value} {base : Heap} {k : Nat} {f : Addr} {fd : FuncData} {ps : List Str} {sp : Sp} (F : FnOk P w K mg base (CXE P w) k f fd ps sp) (h : ∀ vs H Q E, sp vs H Q E → sp vs H Q E0) : FnOk P w K mg base CX0 k f fd ps sp :=
  ⟨F.len, fun A outer s H args us vs Q E hr he hb hv hs => codeAny_mono (F.run A outer s H args us vs Q E0 hr he hb hv (h _ _ _ _ hs)) fun r s' x => by
    cases r with
    | error e =>
      obtain ⟨_, _, _, _, _, z⟩ := x
      exact z.elim
    | ok fl => cases fl <;> exact x⟩
end L2
namespace Shed
open PySem PySem.Spec PyProof.Rows L2
open Vbsyad (State step)
theorem whole_id (c : List (List Int)) : PyVbsyad.whole c = c := by
  unfold PyVbsyad.whole
  split <;> rfl
theorem shape_in {x : Int} {v : Nat × Nat} (h : PyVbsyad.shape x = some v) : 0 ≤ x ∧ x < 20 := by
  refine Decidable.byContradiction fun hn => ?_
  have : PyVbsyad.shape x = none := by
    unfold PyVbsyad.shape
    repeat rw [if_neg (by omega)]
  rw [this] at h
  cases h
theorem nl_of : ∀ n, n < 20 → nlOf n = 0 ∨ nlOf n = 1 := by decide
theorem bound_of : ∀ n : Nat, n < 20 → nlOf n = 1 → (PyVbsyad.bound (n : Int)).2 = [(-9223372036854775808, 9223372036854775807, 0, 64)] := by
  intro n hn h
  have h20 : n = 0 ∨ n = 1 ∨ n = 2 ∨ n = 3 ∨ n = 4 ∨ n = 5 ∨ n = 6 ∨ n = 7 ∨ n = 8 ∨ n = 9 ∨ n = 10 ∨ n = 11 ∨ n = 12 ∨ n = 13 ∨ n = 14 ∨ n = 15 ∨ n = 16 ∨ n = 17 ∨ n = 18 ∨ n = 19 := by omega
  rcases h20 with rfl | rfl | rfl | rfl | rfl | rfl | rfl | rfl | rfl | rfl | rfl | rfl | rfl | rfl | rfl | rfl | rfl | rfl | rfl | rfl <;> first | rfl | exact absurd h (by decide)
theorem call_at {cs : List Int} {p : Nat} {c : List (List Int)} {t : List Int} (h : PyFlat.call PyVbsyad.shape (cs.drop p) = some (c, t)) (hb : PyInside.call PyVbsyad.bound c = true) :
    ∃ (n : Nat) (told given : List Int) (p' : Nat), CallAt 20 cs p n told given p' ∧ c = mkc n told given ∧ t = cs.drop p' ∧ p' ≤ cs.length ∧ p < p' := by
  cases ed : cs.drop p with
  | nil => rw [ed] at h; cases h
  | cons x r =>
    rw [ed] at h
    rw [PyFlat.call] at h
    cases es : PyVbsyad.shape x with
    | none => rw [es] at h; cases h
    | some v =>
      obtain ⟨nt, nk⟩ := v
      rw [es] at h
      dsimp only at h
      obtain ⟨x0, x1⟩ := shape_in es
      obtain ⟨n, rfl⟩ : ∃ n : Nat, x = (n : Int) := ⟨x.toNat, by omega⟩
      have hn : n < 20 := by omega
      have e1 : ntOf n = nt := by unfold ntOf; rw [es]; rfl
      have e2 : nlOf n = nk := by unfold nlOf; rw [es]; rfl
      have hx : cs[p]? = some (n : Int) := by
        have : (cs.drop p)[0]? = some (n : Int) := by rw [ed]; rfl
        rw [List.getElem?_drop] at this
        exact this
      have hr : cs.drop (p + 1) = r := by
        have := List.drop_drop (i := 1) (j := p) (l := cs)
        rw [← this, ed]
        rfl
      have hlt : p < cs.length := (List.getElem?_eq_some_iff.mp hx).1
      have hrl : r.length = cs.length - (p + 1) := by rw [← hr, List.length_drop]
      by_cases hl : r.length < nt
      · rw [if_pos hl] at h; cases h
      · rw [if_neg hl] at h
        have hle : p + 1 + ntOf n ≤ cs.length := by omega
        have htl : (r.take nt).length = ntOf n := by rw [List.length_take]; omega
        have hdr : r.drop nt = cs.drop (p + 1 + ntOf n) := by rw [← hr, List.drop_drop, e1]
        rw [hdr] at h
        rcases nl_of n hn with h0 | h1
        · rw [← e2, h0] at h
          have h : some (((n : Int) :: r.take nt) :: [], cs.drop (p + 1 + ntOf n)) = some (c, t) := h
          cases h
          refine ⟨n, r.take nt, [], p + 1 + ntOf n, ⟨hx, hn, by rw [hr, e1], htl, hle, by decide, .inl h0, fun _ => ⟨rfl, rfl⟩, fun z => by omega⟩, ?_, rfl, hle, by omega⟩
          unfold mkc
          rw [if_neg (by omega)]
        · rw [← e2, h1] at h
          cases ed2 : cs.drop (p + 1 + ntOf n) with
          | nil => rw [ed2] at h; cases h
          | cons m r2 =>
            rw [ed2] at h
            rw [PyFlat.rows, PyFlat.row] at h
            by_cases hm : 0 ≤ m ∧ m.toNat ≤ r2.length
            · rw [if_pos hm] at h
              have h : some (((n : Int) :: r.take nt) :: [r2.take m.toNat], r2.drop m.toNat) = some (c, t) := h
              cases h
              have hr2 : cs.drop (p + 1 + ntOf n + 1) = r2 := by
                have := List.drop_drop (i := 1) (j := p + 1 + ntOf n) (l := cs)
                rw [← this, ed2]
                rfl
              have hm2 : cs[p + 1 + ntOf n]? = some m := by
                have : (cs.drop (p + 1 + ntOf n))[0]? = some m := by rw [ed2]; rfl
                rw [List.getElem?_drop] at this
                exact this
              have hgl : (r2.take m.toNat).length = m.toNat := by rw [List.length_take]; omega
              have hr2l : r2.length = cs.length - (p + 1 + ntOf n + 1) := by rw [← hr2, List.length_drop]
              have hlt2 : p + 1 + ntOf n < cs.length := (List.getElem?_eq_some_iff.mp hm2).1
              have hfew : (r2.take m.toNat).length ≤ 64 := by
                have hb : (PyInside.each (PyVbsyad.bound (n : Int)).1 (r.take nt) && PyInside.lists (PyVbsyad.bound (n : Int)).2 [r2.take m.toNat]) = true := hb
                rw [bound_of n hn h1, Bool.and_eq_true] at hb
                have hb := hb.2
                unfold PyInside.lists at hb
                simp only [Bool.and_eq_true, decide_eq_true_eq] at hb
                exact hb.1.1.2
              refine ⟨n, r.take nt, r2.take m.toNat, p + 1 + ntOf n + 1 + m.toNat, ⟨hx, hn, by rw [hr, e1], htl, hle, hfew, .inr h1, fun z => by omega, fun _ => ⟨?_, ?_, by rw [hgl], by omega⟩⟩, ?_, ?_, by omega, by omega⟩
              · rw [hgl, hm2]
                congr 1
                omega
              · rw [hgl, hr2]
              · unfold mkc
                rw [if_pos h1]
              · rw [← hr2, List.drop_drop]
            · rw [if_neg hm] at h
              cases h
theorem calls_at {cs : List Int} {p f : Nat} {cl : List (List (List Int))} (hp : p < cs.length) (h : PyFlat.calls PyVbsyad.shape f (cs.drop p) = some cl) (hb : PyInside.calls PyVbsyad.bound cl = true) :
    ∃ (n : Nat) (told given : List Int) (p' f' : Nat) (cl' : List (List (List Int))), CallAt 20 cs p n told given p' ∧ cl = mkc n told given :: cl' ∧ PyFlat.calls PyVbsyad.shape f' (cs.drop p') = some cl' ∧ PyInside.calls PyVbsyad.bound cl' = true ∧ p' ≤ cs.length ∧ p < p' := by
  cases ed : cs.drop p with
  | nil =>
    have := List.drop_eq_nil_iff.mp ed
    omega
  | cons x r =>
    rw [ed] at h
    cases f with
    | zero => cases h
    | succ f =>
      unfold PyFlat.calls at h
      cases ec : PyFlat.call PyVbsyad.shape (x :: r) with
      | none => rw [ec] at h; cases h
      | some v =>
        obtain ⟨c, t⟩ := v
        rw [ec] at h
        dsimp only at h
        cases er : PyFlat.calls PyVbsyad.shape f t with
        | none => rw [er] at h; cases h
        | some cl' =>
          rw [er] at h
          have h : some (c :: cl') = some cl := h
          cases h
          have hb : (PyInside.call PyVbsyad.bound c && cl'.all (PyInside.call PyVbsyad.bound)) = true := hb
          rw [Bool.and_eq_true] at hb
          obtain ⟨n, told, given, p', a1, a2, a3, a4, a5⟩ := call_at (by rw [ed]; exact ec) hb.1
          subst a3
          exact ⟨n, told, given, p', f, cl', a1, by rw [a2], er, hb.2, a4, a5⟩
section
variable {P : Program} {w : World} {K : PySem.W.Frag} {mg : Str → Option Value} {base : Heap} {cO cN C F T L gT : Addr}
def spAnswers (K : PySem.W.Frag) (T : Addr) : Sp := fun vs H Q _ => ∃ (ca : Addr) (cs : List Int), vs = [.ref ca] ∧ SqL K H ca (cs.map V.int) ∧ PyVbsyad.answers_asked cs = true ∧ Tab T H ∧
  ∀ (H' : Hp) (l : Addr), But T H H' → Tab T H' → H' l = some (.lst ((PyVbsyad.answers cs).map V.int)) → Q (.ref l) H'
theorem scAn : FnScope ["calls", "flock", "line", "answered", "answer"] ["calls"] (defScope sAnswers) := ⟨rfl, rfl, rfl, by decide +kernel, rfl, by decide +kernel, by decide +kernel⟩
theorem off_new {H : Hp} {D : Addr} {o : HO} (h : H D = none) : off (upd H D o) D = H := by
  funext b
  by_cases e : b = D
  · rw [e, off_same, h]
  · rw [off_ne e, upd_ne e]
theorem ok_answers {f gF gL : Addr} {fd gdF gdL : FuncData} (FF : Fun K "answers" "answers" sAnswers f fd) (N : Names mg cO cN) (FC : FlockCls K mg F) (LC : LineCls K mg L gT) (hFL : F ≠ L)
    (MF : Mk K F gF) (GF : FnOk P w K mg base CX0 2 gF gdF ["self"] (spFlockInit F)) (bF : Binds K gdF ["self"] []) (ML : Mk K L gL) (GL : FnOk P w K mg base CX0 1 gL gdL ["self", "calls"] (spLineInit L)) (bL : Binds K gdL ["self", "calls"] [])
    (d2 : Def P w K mg base (CXE P w) 10 "answer_from" sAnswerFrom ["flock", "line"] (spFrom K F T L 20)) :
    FnOk P w K mg base CX0 11 f fd ["calls"] (spAnswers K T) := by
  obtain ⟨g2, gd2, mg2, F2, b2, G2⟩ := d2.ex
  have GF := GF.cx (CX := CXE P w)
  have GL := GL.cx (CX := CXE P w)
  refine FnOk.calm (FF.okE scAn (fun vs H Q E h => ?_) (fun cdv A outer s0 H vs Q E hr h => ?_)) (fun _ _ _ _ h => h)
  · obtain ⟨_, _, rfl, _⟩ := h
    rfl
  obtain ⟨ca, cs, rfl, hs, hask, htab, k⟩ := h
  refine ⟨_, pss_cons (ps_set (i := 1) scAn.nd rfl (Or.inl rfl) (pe_make0 MF GF (hr.mono (by decide)) (by rfl) FC.mgF bF .nil passes_def))
    (pss_cons (ps_set (i := 2) scAn.nd rfl (Or.inl rfl) (pe_make ML GL (hr.mono (by decide)) (by rfl) LC.mgL bL .nil passes_def (pa_cons (pv 0) pa_nil)))
    (pss_cons (ps_set (i := 3) scAn.nd rfl (Or.inl rfl) (pe_lst pa_nil))
    (pss_cons (ps_while PassesOwn.leaving (pt_cmpR op_lt (pe_fld (pv 2) rfl) (pe_callB call_len_seq (by rfl) N.len PySem.boot_len (pa_cons (pv 0) pa_nil)) (nomark _))
      (pss_cons (ps_set (i := 4) scAn.nd rfl (Or.inl rfl) (pe_frame (pe_call G2 hr (by rfl) mg2 F2.kp b2 .nil passes_def (pa_cons (pv 1) (pa_cons (pv 2) pa_nil)))))
      (pss_cons (ps_expr (pe_bm PySem.F.plainAttrs_list PySem.F.slot_list_append PySem.F.type_list_append mt_append (pv 3) (pa_cons (pe_callB call_len_seq (by rfl) N.len PySem.boot_len (pa_cons (pv 4) pa_nil)) pa_nil)))
      (pss_one (ps_expr (pe_bm PySem.F.plainAttrs_list PySem.F.slot_list_extend PySem.F.type_list_extend mt_extend (pv 3) (pa_cons (pv 4) pa_nil)))))))
    (pss_one (ps_ret (pv 3)))))), ?_⟩
  have line := sizeLine_eq
  unfold PyVbsyad.answers_asked at hask
  cases eraw : PyFlat.calls PyVbsyad.shape cs.length cs with
  | none => rw [eraw] at hask; cases hask
  | some raw =>
    rw [eraw] at hask
    dsimp only at hask
    rw [Bool.and_eq_true, Bool.and_eq_true, Bool.and_eq_true, Bool.and_eq_true] at hask
    obtain ⟨⟨⟨_, hbound⟩, _⟩, hshort⟩ := hask
    have hshort : (PyVbsyad.answers cs).length ≤ 10000000 := of_decide_eq_true hshort
    have eans : PyVbsyad.answers cs = PyFlat.told (PyFlat.played step Vbsyad.start raw) := by
      unfold PyVbsyad.answers PyVbsyad.calls
      rw [eraw]
      dsimp only
      rw [show raw.map PyVbsyad.whole = raw from by conv => rhs; rw [← List.map_id raw]
                                                    exact List.map_congr_left fun c _ => whole_id c]
      rfl
    refine fun x1 d1 nx1 nd1 ne1 => ⟨x1, d1, rfl, upd_same, fun H1 hF1 k1 => ⟨rfl, ?_⟩⟩
    have s1 : Same H H1 := Same.made nx1 nd1 k1
    refine ⟨_, rfl, fun x2 d2 nx2 nd2 ne2 => ⟨x2, d2, ca, rfl, upd_same, fun H2 hL2 k2 => ⟨rfl, ?_⟩⟩⟩
    have s2 : Same H1 H2 := Same.made nx2 nd2 k2
    refine ⟨by show 0 ≤ sizeLine; decide, fun D hD => ?_⟩
    have s12 := s1.trans s2
    refine while_turn
      (fun m σ H' => ∃ (v : Option V) (p f' : Nat) (s : State) (cl : List (List (List Int))) (acc : List Int), m = cs.length - p ∧ p ≤ cs.length ∧ σ = [some (.ref ca), some (.ref x1), some (.ref x2), some (.ref D), v] ∧ H' D = some (.lst (acc.map V.int)) ∧
        But T H (off H' D) ∧ Tab T (off H' D) ∧ FlockAt F (off H' D) x1 s ∧ LineAt L (off H' D) x2 ca p ∧ PyFlat.calls PyVbsyad.shape f' (cs.drop p) = some cl ∧ PyInside.calls PyVbsyad.bound cl = true ∧ acc ++ PyFlat.told (PyFlat.played step s cl) = PyVbsyad.answers cs)
      (fun m σ H' => ∃ (v : Option V) (p f' : Nat) (s : State) (cl : List (List (List Int))) (acc : List Int), m = cs.length - p ∧ p < cs.length ∧ σ = [some (.ref ca), some (.ref x1), some (.ref x2), some (.ref D), v] ∧ H' D = some (.lst (acc.map V.int)) ∧
        But T H (off H' D) ∧ Tab T (off H' D) ∧ FlockAt F (off H' D) x1 s ∧ LineAt L (off H' D) x2 ca p ∧ PyFlat.calls PyVbsyad.shape f' (cs.drop p) = some cl ∧ PyInside.calls PyVbsyad.bound cl = true ∧ acc ++ PyFlat.told (PyFlat.played step s cl) = PyVbsyad.answers cs)
      (fun σ H' => ∃ (v : Option V), σ = [some (.ref ca), some (.ref x1), some (.ref x2), some (.ref D), v] ∧ But T H (off H' D) ∧ Tab T (off H' D) ∧ H' D = some (.lst ((PyVbsyad.answers cs).map V.int))) ⟨cs.length, none, 0, cs.length, Vbsyad.start, raw, [], by simp, Nat.zero_le _, rfl, upd_same, ?_, ?_, ?_, ?_, ?_, hbound, ?_⟩ ?_ ?_ ?_
    · rw [off_new hD]; exact s12.but
    · rw [off_new hD]; exact htab.same s12
    · rw [off_new hD]; exact hF1.same s2
    · rw [off_new hD]; exact hL2
    · rw [List.drop_zero]; exact eraw
    · rw [List.nil_append, eans]
    ·
      rintro m σ H' ⟨v, p, f', s, cl, acc, rfl, hp, rfl, hacc, bt, tb, hfl, hln, hcl, hbd, hans⟩ R hB hA
      obtain ⟨dx, fs, q1, q2, q3, q4, q5⟩ := id hln
      obtain ⟨_, q1'⟩ := off_some q1
      have hs' : SqL K H' ca (cs.map V.int) := (bt.seq htab hs).keep fun o e _ => (off_some e).2
      refine ⟨_, rfl, x2, L, dx, fs, _, rfl, q1', LC.cl, LC.nP, q4, _, rfl, ca, _, rfl, .inl hs', _, _, rfl, rfl, _, rfl, ?_⟩
      rw [List.length_map]
      by_cases q : p < cs.length
      · rw [decide_eq_true (by omega)]
        exact hB ⟨v, p, f', s, cl, acc, rfl, q, rfl, hacc, bt, tb, hfl, hln, hcl, hbd, hans⟩
      · rw [decide_eq_false (by omega)]
        refine hA ⟨v, rfl, bt, tb, ?_⟩
        have : cs.drop p = [] := List.drop_eq_nil_iff.mpr (by omega)
        rw [this] at hcl
        have hcl : cl = [] := by
          cases f' <;> · unfold PyFlat.calls at hcl; exact (Option.some.inj hcl).symm
        subst hcl
        have : acc ++ [] = PyVbsyad.answers cs := hans
        rw [List.append_nil] at this
        rw [← this]
        exact hacc
    ·
      rintro m σ H' ⟨v, p, f', s, cl, acc, rfl, hp, rfl, hacc, bt, tb, hfl, hln, hcl, hbd, hans⟩
      obtain ⟨n, told, given, p', f2, cl', hc, rfl, hcl', hbd', hp', hpp⟩ := calls_at hp hcl hbd
      have hs' : SqL K (off H' D) ca (cs.map V.int) := bt.seq htab hs
      refine ⟨D, _, hacc, _, rfl, _, rfl, x1, x2, ca, cs, p, n, p', s, told, given, rfl, hfl, tb, hln, hs', hc, fun H3 l kp tb3 hfl3 hln3 hl3 nD => ?_⟩
      have s4 := Same.new (o := .lst (acc.map V.int)) nD
      have nl : l ≠ D := by rintro rfl; rw [hl3] at nD; cases nD
      have hans2 : acc ++ (((step s (mkc n told given)).2.length : Int) :: (step s (mkc n told given)).2 ++ PyFlat.told (PyFlat.played step (step s (mkc n told given)).1 cl')) = PyVbsyad.answers cs := by
        rw [← hans]
        rfl
      have hlen := congrArg List.length hans2
      rw [List.length_append, List.length_append, List.length_cons] at hlen
      refine ⟨_, rfl, .inl ⟨rfl, _, SqL.of upd_same⟩, _, rfl, l, _, rfl, .inl (SqL.of (s4 _ _ hl3)), D, _, _, rfl, rfl, upd_same, by rw [List.length_map, line]; omega, ?_⟩
      rw [upd_upd]
      have hl4 : (upd H3 D (.lst (acc.map V.int ++ [V.int (((step s (mkc n told given)).2.map V.int).length : Int)]))) l = some (.lst ((step s (mkc n told given)).2.map V.int)) := by rw [upd_ne nl]; exact hl3
      refine ⟨_, rfl, .inl ⟨rfl, _, SqL.of upd_same⟩, _, rfl, D, l, _, _, rfl, rfl, upd_same, hl4, ?_, ?_⟩
      · rw [List.length_append, List.length_map, List.length_map, line]
        simp only [List.length_cons, List.length_nil]
        omega
      · rw [upd_upd]
        have nT : x2 ≠ T := by obtain ⟨_, _, e2, _⟩ := id hln; exact tb.ne e2 fun _ z => nomatch z
        have kpb : But T H H3 := fun b o nb e => by
          have e1 := bt b o nb e
          obtain ⟨_, _, _, _, z1, _⟩ := id hfl
          obtain ⟨_, _, z2, _⟩ := id hln
          by_cases w1 : b = x1
          · subst w1
            exact absurd e (by rw [nx1]; intro z; cases z)
          by_cases w2 : b = x2
          · subst w2
            exact absurd (s1 _ _ e) (by rw [nx2]; intro z; cases z)
          exact kp b o nb w1 w2 e1
        refine ⟨cs.length - p', by omega, _, p', f2, (step s (mkc n told given)).1, cl', acc ++ (((step s (mkc n told given)).2.length : Int) :: (step s (mkc n told given)).2), rfl, hp', rfl, ?_, ?_, ?_, ?_, ?_, hcl', hbd', ?_⟩
        · rw [upd_same, List.map_append, List.map_cons, List.append_assoc, List.length_map]
          rfl
        · rw [off_new nD]; exact kpb
        · rw [off_new nD]; exact tb3
        · rw [off_new nD]; exact hfl3
        · rw [off_new nD]; exact hln3
        · rw [List.append_assoc]; exact hans2
    · rintro σ H' ⟨v, rfl, bt, tb, hD'⟩
      refine ⟨_, rfl, ?_⟩
      have so : Same (off H' D) H' := fun b o e => (off_some e).2
      exact k H' D (bt.trans so.but) (tb.same so) hD'
end
end Shed
end
section
section
set_option Elab.async false
set_option linter.all false
set_option maxRecDepth 100000
set_option maxHeartbeats 2000000
namespace L2
open PySem PySem.Spec PyProof.Rows
open PySem.W (WData Codec OpenSpec Well WellAll ReadsW ReadsAllW)
mutual
inductive Dw (K : PySem.W.Frag) (H : Hp) : V → WData → Prop
  | non : Dw K H .non .none
  | bl (b : Bool) : Dw K H (.bl b) (.bool b)
  | int (i : Int) : Dw K H (.int i) (.int i)
  | str (x : Str) : Dw K H (.str x) (.str x)
  | byt (b : Array UInt8) : Dw K H (.byt b) (.bytes b.toList)
  | lst {a : Addr} {xs : List V} {ds : List WData} : SqL K H a xs → DwAll K H xs ds → Dw K H (.ref a) (.list ds)
  | tup {a : Addr} {xs : List V} {ds : List WData} : SqT K H a xs → DwAll K H xs ds → Dw K H (.ref a) (.tuple ds)
inductive DwAll (K : PySem.W.Frag) (H : Hp) : List V → List WData → Prop
  | nil : DwAll K H [] []
  | cons {v : V} {vs : List V} {d : WData} {ds : List WData} : Dw K H v d → DwAll K H vs ds → DwAll K H (v :: vs) (d :: ds)
end
theorem dw_ints {K : PySem.W.Frag} {H : Hp} : ∀ ns : List Int, DwAll K H (ns.map V.int) (ns.map WData.int)
  | [] => .nil
  | n :: r => .cons (.int n) (dw_ints r)
theorem ints_dw {K : PySem.W.Frag} {H : Hp} : ∀ (ns : List Int) (xs : List V), DwAll K H xs (ns.map WData.int) → xs = ns.map V.int
  | [], xs, h => by
    cases h
    rfl
  | n :: r, xs, h => by
    cases h with
    | cons h1 h2 =>
      cases h1
      rw [ints_dw r _ h2] <;> rfl
section
variable {P : Program} {w : World} {K : PySem.W.Frag} {H : Hp} {h : Heap} {R : PySem.W.WRecords} {cl : Str → Option Addr}
theorem sqL_at {a : Addr} {xs : List V} (hok : HOk P w H h) (KX : K.In h) (q : SqL K H a xs) : ∃ (its : List Value) (o : Obj) (n : Nat), Vals xs its ∧ h.get? a = some o ∧ o.cls = .type "list" ∧ o.data = .seq its.toArray n := by
  rcases q with q | ⟨o, its, n, e, hc, _, hd, _, hv⟩
  · obtain ⟨_, its, n, hv, e⟩ := (show ObjOk P w H h a (.lst xs) from q.ok hok)
    exact ⟨its, _, n, hv, e, rfl, rfl⟩
  · exact ⟨its.toList, o, n, hv, KX _ _ e, hc, by simp [hd]⟩
theorem sqT_at {a : Addr} {xs : List V} (hok : HOk P w H h) (KX : K.In h) (q : SqT K H a xs) : ∃ (its : List Value) (o : Obj) (n : Nat), Vals xs its ∧ h.get? a = some o ∧ o.cls = .type "tuple" ∧ o.data = .seq its.toArray n := by
  rcases q with q | ⟨o, its, n, e, hc, hd, _, hv⟩
  · obtain ⟨_, its, hv, o, e, hc, n, hd⟩ := (show ObjOk P w H h a (.tup xs) from q.ok hok)
    exact ⟨its, o, n, hv, e, hc, hd⟩
  · exact ⟨its.toList, o, n, hv, KX _ _ e, hc, by simp [hd]⟩
mutual
theorem Dw.reads (hok : HOk P w H h) (KX : K.In h) : ∀ (d : WData) (v : V) (u : Value), Dw K H v d → RelV v u → ∃ as, ReadsW R cl h u d as
  | .none, _, _, x, r => by
    cases x
    cases r
    exact ⟨_, ReadsW.none⟩
  | .bool b, _, _, x, r => by
    cases x
    cases r
    exact ⟨_, ReadsW.bool b⟩
  | .int i, _, _, x, r => by
    cases x
    obtain ⟨t, rfl⟩ := r
    exact ⟨_, ReadsW.int i t⟩
  | .str s, _, _, x, r => by
    cases x
    obtain ⟨t, rfl⟩ := r
    exact ⟨_, ReadsW.str s t⟩
  | .bytes b, _, _, x, r => by
    cases x
    obtain ⟨t, rfl⟩ := r
    exact ⟨_, ReadsW.bytes _ t⟩
  | .list ds, _, _, x, r => by
    cases x with
    | lst hs ha =>
      cases r
      obtain ⟨its, o, n, rv, ho, hc, hd⟩ := sqL_at hok KX hs
      obtain ⟨as, hr⟩ := Dw.readsAll hok KX ds _ its ha rv
      exact ⟨_, ReadsW.list ho hc hd hr⟩
  | .tuple ds, _, _, x, r => by
    cases x with
    | tup hs ha =>
      cases r
      obtain ⟨its, o, n, rv, ho, hc, hd⟩ := sqT_at hok KX hs
      obtain ⟨as, hr⟩ := Dw.readsAll hok KX ds _ its ha rv
      exact ⟨_, ReadsW.tuple ho hc hd hr⟩
  | .float _, _, _, x, _ => by cases x
  | .dict _, _, _, x, _ => by cases x
  | .bytearray _, _, _, x, _ => by cases x
  | .set _, _, _, x, _ => by cases x
  | .frozenset _, _, _, x, _ => by cases x
  | .obj _ _, _, _, x, _ => by cases x
theorem Dw.readsAll (hok : HOk P w H h) (KX : K.In h) : ∀ (ds : List WData) (vs : List V) (us : List Value), DwAll K H vs ds → Vals vs us → ∃ as, ReadsAllW R cl h us ds as
  | [], _, _, x, r => by
    cases x
    cases r
    exact ⟨_, ReadsAllW.nil⟩
  | d :: ds, _, _, x, r => by
    cases x with
    | cons h1 h2 =>
      cases r with
      | cons r1 r2 =>
        obtain ⟨as, q1⟩ := Dw.reads hok KX d _ _ h1 r1
        obtain ⟨bs, q2⟩ := Dw.readsAll hok KX ds _ _ h2 r2
        exact ⟨_, ReadsAllW.cons q1 q2⟩
end
end
mutual
def plW : WData → Bool
  | .none => true
  | .bool _ => true
  | .int _ => true
  | .str _ => true
  | .bytes _ => true
  | .list xs => plWs xs
  | .tuple xs => plWs xs
  | _ => false
def plWs : List WData → Bool
  | [] => true
  | x :: r => plW x && plWs r
end
theorem plWs_map {α : Type} {f : α → WData} (h : ∀ a, plW (f a) = true) : ∀ l : List α, plWs (l.map f) = true
  | [] => rfl
  | x :: r => by
    show (plW (f x) && plWs (r.map f)) = true
    rw [h x, plWs_map h r] <;> rfl
theorem pl_enc : ∀ (c : Codec) (a : c.denote), plW (c.enc a) = true
  | .unit, _ => rfl
  | .bool, _ => rfl
  | .int _ _, _ => rfl
  | .nat _ _, _ => rfl
  | .u8, _ => rfl
  | .bytes _ _, _ => rfl
  | .text _ _ _ _, _ => rfl
  | .list _ _ c, a => plWs_map (fun x => pl_enc c x) a
  | .pair c d, a => by
    show (plW (c.enc a.1) && (plW (d.enc a.2) && true)) = true
    rw [pl_enc c a.1, pl_enc d a.2] <;> rfl
  | .triple c d e, a => by
    show (plW (c.enc a.1) && (plW (d.enc a.2.1) && (plW (e.enc a.2.2) && true))) = true
    rw [pl_enc c a.1, pl_enc d a.2.1, pl_enc e a.2.2] <;> rfl
  | .option c, none => rfl
  | .option c, some x => pl_enc c x
theorem pl_encAll : ∀ (cs : List Codec) (a : Codec.denoteAll cs), plWs (Codec.encAll cs a) = true
  | [], _ => rfl
  | c :: cs, a => by
    show (plW (c.enc a.1) && plWs (Codec.encAll cs a.2)) = true
    rw [pl_enc c a.1, pl_encAll cs a.2] <;> rfl
theorem weight_mem : ∀ {xs : List WData} {d : WData}, d ∈ xs → d.weight ≤ WData.weightAll xs
  | [], d, h => absurd h (by simp)
  | x :: r, d, h => by
    show d.weight ≤ x.weight + 1 + WData.weightAll r
    rcases List.mem_cons.mp h with e | m
    · rw [e]
      omega
    · have z := weight_mem m
      omega
def toV : Value → V
  | .none => .non
  | .bool b => .bl b
  | .int i _ => .int i
  | .str x _ => .str x
  | .bytes b _ => .byt b
  | .ref a => .ref a
  | _ => .non
def OkU (A : List Addr) : Value → Prop
  | .none => True
  | .bool _ => True
  | .int _ _ => True
  | .str _ _ => True
  | .bytes _ _ => True
  | .ref a => a ∈ A
  | _ => False
theorem OkU.mono {A B : List Addr} (h : ∀ a ∈ A, a ∈ B) : ∀ {u : Value}, OkU A u → OkU B u := fun {u} x => by
  cases u with
  | ref a => exact h a x
  | none => trivial
  | bool b => trivial
  | int i t => trivial
  | str s t => trivial
  | bytes b t => trivial
  | _ => exact False.elim x
theorem relV_toV {A : List Addr} {u : Value} (x : OkU A u) : RelV (toV u) u := by
  cases u with
  | ref a => rfl
  | none => rfl
  | bool b => rfl
  | int i t => exact ⟨t, rfl⟩
  | str s t => exact ⟨t, rfl⟩
  | bytes b t => exact ⟨t, rfl⟩
  | _ => exact False.elim x
theorem vals_toV {A : List Addr} : ∀ {vs : List Value}, (∀ u ∈ vs, OkU A u) → Vals (vs.map toV) vs
  | [], _ => .nil
  | u :: r, h => .cons (relV_toV (h u (List.mem_cons_self ..))) (vals_toV fun x hx => h x (List.mem_cons_of_mem _ hx))
def ArgOb (h : Heap) (A : List Addr) (a : Addr) : Prop := ∃ vs : List Value, vs.length ≤ sizeLine ∧ (∀ u ∈ vs, OkU A u) ∧
  (h.get? a = some { cls := .type "list", data := .seq vs.toArray } ∨ h.get? a = some { cls := .type "tuple", data := .seq vs.toArray })
theorem ArgOb.mono {h : Heap} {A B : List Addr} {a : Addr} (k : ∀ a ∈ A, a ∈ B) (x : ArgOb h A a) : ArgOb h B a := by
  obtain ⟨vs, h1, h2, h3⟩ := x
  exact ⟨vs, h1, fun u hu => (h2 u hu).mono k, h3⟩
theorem wellAll_len {P : Params} {h : Heap} : ∀ {vs : List Value} {ds : List WData}, WellAll P h vs ds → vs.length = ds.length
  | _, _, .nil => rfl
  | _, _, .cons _ b => by
    show _ + 1 = _ + 1
    rw [wellAll_len b]
theorem well_list {P : Params} {h : Heap} {v : Value} {ds : List WData} (x : Well P h v (.list ds)) : ∃ (a : Addr) (vs : List Value), v = .ref a ∧ h.get? a = some { cls := .type "list", data := .seq vs.toArray } ∧ WellAll P h vs ds := by
  cases x with
  | list ho hall => exact ⟨_, _, rfl, ho, hall⟩
theorem well_tuple {P : Params} {h : Heap} {v : Value} {ds : List WData} (x : Well P h v (.tuple ds)) : ∃ (a : Addr) (vs : List Value), v = .ref a ∧ h.get? a = some { cls := .type "tuple", data := .seq vs.toArray } ∧ WellAll P h vs ds := by
  cases x with
  | tuple ho hall => exact ⟨_, _, rfl, ho, hall⟩
theorem well_cons {P : Params} {h : Heap} {us : List Value} {d : WData} {ds : List WData} (x : WellAll P h us (d :: ds)) : ∃ (v : Value) (vs : List Value), us = v :: vs ∧ Well P h v d ∧ WellAll P h vs ds := by
  cases x with
  | cons a b => exact ⟨_, _, rfl, a, b⟩
theorem line_of {n : Nat} (h : n ≤ 1048576) : n ≤ sizeLine := Nat.le_trans h (by decide)
section
variable {P : Params} {h : Heap}
mutual
theorem area_one : ∀ (d : WData) (v : Value), Well P h v d → plW d = true → d.weight ≤ 1048576 → ∃ A : List Addr, OkU A v ∧ ∀ a ∈ A, ArgOb h A a
  | .none, _, x, _, _ => by
    cases x
    exact ⟨[], trivial, fun a m => absurd m (by simp)⟩
  | .bool b, _, x, _, _ => by
    cases x
    exact ⟨[], trivial, fun a m => absurd m (by simp)⟩
  | .int i, _, x, _, _ => by
    cases x
    exact ⟨[], trivial, fun a m => absurd m (by simp)⟩
  | .str s, _, x, _, _ => by
    cases x
    exact ⟨[], trivial, fun a m => absurd m (by simp)⟩
  | .bytes b, _, x, _, _ => by
    cases x
    exact ⟨[], trivial, fun a m => absurd m (by simp)⟩
  | .list ds, _, x, p, z => by
    obtain ⟨a, vs, rfl, ho, hall⟩ := well_list x
    have z2 : WData.weightAll ds ≤ 1048576 := z
    obtain ⟨A, h1, h2⟩ := area_all ds _ hall p fun d hd => Nat.le_trans (weight_mem hd) z2
    have k : ∀ b ∈ A, b ∈ a :: A := fun b hb => List.mem_cons_of_mem _ hb
    refine ⟨a :: A, List.mem_cons_self .., fun b hb => ?_⟩
    rcases List.mem_cons.mp hb with e | m
    · rw [e]
      exact ⟨vs, line_of (by rw [wellAll_len hall]; exact Nat.le_trans (PySem.W.length_le_weightAllW ds) z2), fun u hu => (h1 u hu).mono k, .inl ho⟩
    · exact (h2 b m).mono k
  | .tuple ds, _, x, p, z => by
    obtain ⟨a, vs, rfl, ho, hall⟩ := well_tuple x
    have z2 : WData.weightAll ds ≤ 1048576 := z
    obtain ⟨A, h1, h2⟩ := area_all ds _ hall p fun d hd => Nat.le_trans (weight_mem hd) z2
    have k : ∀ b ∈ A, b ∈ a :: A := fun b hb => List.mem_cons_of_mem _ hb
    refine ⟨a :: A, List.mem_cons_self .., fun b hb => ?_⟩
    rcases List.mem_cons.mp hb with e | m
    · rw [e]
      exact ⟨vs, line_of (by rw [wellAll_len hall]; exact Nat.le_trans (PySem.W.length_le_weightAllW ds) z2), fun u hu => (h1 u hu).mono k, .inr ho⟩
    · exact (h2 b m).mono k
  | .float _, _, _, p, _ => Bool.noConfusion (show false = true from p)
  | .dict _, _, _, p, _ => Bool.noConfusion (show false = true from p)
  | .bytearray _, _, _, p, _ => Bool.noConfusion (show false = true from p)
  | .set _, _, _, p, _ => Bool.noConfusion (show false = true from p)
  | .frozenset _, _, _, p, _ => Bool.noConfusion (show false = true from p)
  | .obj _ _, _, _, p, _ => Bool.noConfusion (show false = true from p)
theorem area_all : ∀ (ds : List WData) (vs : List Value), WellAll P h vs ds → plWs ds = true → (∀ d ∈ ds, d.weight ≤ 1048576) → ∃ A : List Addr, (∀ u ∈ vs, OkU A u) ∧ ∀ a ∈ A, ArgOb h A a
  | [], _, x, _, _ => by
    cases x
    exact ⟨[], fun u m => absurd m (by simp), fun a m => absurd m (by simp)⟩
  | d :: ds, _, x, p, z => by
    obtain ⟨v, vs, rfl, x1, x2⟩ := well_cons x
    have q : plW d = true ∧ plWs ds = true := Bool.and_eq_true_iff.mp p
    obtain ⟨A, a1, a2⟩ := area_one d v x1 q.1 (z d (List.mem_cons_self ..))
    obtain ⟨B, b1, b2⟩ := area_all ds vs x2 q.2 fun e he => z e (List.mem_cons_of_mem _ he)
    have kA : ∀ b ∈ A, b ∈ A ++ B := fun b hb => List.mem_append.mpr (.inl hb)
    have kB : ∀ b ∈ B, b ∈ A ++ B := fun b hb => List.mem_append.mpr (.inr hb)
    refine ⟨A ++ B, fun u hu => ?_, fun b hb => ?_⟩
    · rcases List.mem_cons.mp hu with e | m
      · rw [e]
        exact a1.mono kA
      · exact (b1 u m).mono kB
    · rcases List.mem_append.mp hb with m | m
      · exact (a2 b m).mono kA
      · exact (b2 b m).mono kB
end
end
def hoOf (o : Obj) : Option HO := match o.data with
  | .seq vs _ => if (o.cls == Value.type "list") = true then some (.frz o (.lst (vs.toList.map toV))) else some (.frz o (.tup (vs.toList.map toV)))
  | _ => none
def argH (K : PySem.W.Frag) (h : Heap) (A : List Addr) : Hp := fun b => if b ∈ A then (if (K.lookup b).isNone = true then (h.get? b).bind hoOf else none) else none
def OnlyF (H : Hp) : Prop := ∀ b, H b = none ∨ ∃ o u, H b = some (.frz o u)
theorem hoOf_lst (vs : List Value) : hoOf { cls := .type "list", data := .seq vs.toArray } = some (.frz { cls := .type "list", data := .seq vs.toArray } (.lst (vs.map toV))) := by
  show (if (Value.type "list" == Value.type "list") = true then some (HO.frz { cls := .type "list", data := .seq vs.toArray } (.lst (vs.toArray.toList.map toV))) else some (HO.frz { cls := .type "list", data := .seq vs.toArray } (.tup (vs.toArray.toList.map toV)))) = _
  rw [if_pos (beq_self_eq_true _)]
theorem hoOf_tup (vs : List Value) : hoOf { cls := .type "tuple", data := .seq vs.toArray } = some (.frz { cls := .type "tuple", data := .seq vs.toArray } (.tup (vs.map toV))) := by
  show (if (Value.type "tuple" == Value.type "list") = true then some (HO.frz { cls := .type "tuple", data := .seq vs.toArray } (.lst (vs.toArray.toList.map toV))) else some (HO.frz { cls := .type "tuple", data := .seq vs.toArray } (.tup (vs.toArray.toList.map toV)))) = _
  rw [if_neg (by decide)]
section
variable {P : Program} {w : World} {K : PySem.W.Frag} {h : Heap} {A : List Addr}
theorem argH_at {b : Addr} {o : Obj} (hb : b ∈ A) (hk : K.lookup b = none) (e : h.get? b = some o) : argH K h A b = hoOf o := by
  unfold argH
  rw [if_pos hb, hk, if_pos (show (none : Option Obj).isNone = true from rfl), e] <;> rfl
theorem of_argH {b : Addr} {u : HO} (q : argH K h A b = some u) : b ∈ A ∧ K.lookup b = none := by
  unfold argH at q
  by_cases hb : b ∈ A
  · rw [if_pos hb] at q
    cases hk : K.lookup b with
    | none => exact ⟨hb, rfl⟩
    | some o =>
      rw [hk, if_neg (by simp)] at q
      cases q
  · rw [if_neg hb] at q
    cases q
theorem argH_is (ar : ∀ a ∈ A, ArgOb h A a) {b : Addr} {u : HO} (q : argH K h A b = some u) : K.lookup b = none ∧ ∃ vs : List Value, vs.length ≤ sizeLine ∧ (∀ u ∈ vs, OkU A u) ∧
    ((h.get? b = some { cls := .type "list", data := .seq vs.toArray } ∧ u = .frz { cls := .type "list", data := .seq vs.toArray } (.lst (vs.map toV))) ∨
     (h.get? b = some { cls := .type "tuple", data := .seq vs.toArray } ∧ u = .frz { cls := .type "tuple", data := .seq vs.toArray } (.tup (vs.map toV)))) := by
  obtain ⟨hb, hk⟩ := of_argH q
  obtain ⟨vs, h1, h2, h3⟩ := ar b hb
  refine ⟨hk, vs, h1, h2, ?_⟩
  rcases h3 with e | e
  · rw [argH_at hb hk e, hoOf_lst] at q
    exact .inl ⟨e, (Option.some.inj q).symm⟩
  · rw [argH_at hb hk e, hoOf_tup] at q
    exact .inr ⟨e, (Option.some.inj q).symm⟩
theorem argH_only (ar : ∀ a ∈ A, ArgOb h A a) : OnlyF (argH K h A) := fun b => by
  cases q : argH K h A b with
  | none => exact .inl rfl
  | some u =>
    obtain ⟨_, vs, _, _, ⟨_, e⟩ | ⟨_, e⟩⟩ := argH_is ar q
    · exact .inr ⟨_, _, by rw [e]⟩
    · exact .inr ⟨_, _, by rw [e]⟩
theorem argH_ok (ar : ∀ a ∈ A, ArgOb h A a) : HOk P w (argH K h A) h := fun b u q => by
  obtain ⟨_, vs, h1, h2, ⟨e, rfl⟩ | ⟨e, rfl⟩⟩ := argH_is ar q
  · exact ⟨e, by rw [List.length_map]; exact h1, vs, _, vals_toV h2, e⟩
  · exact ⟨e, by rw [List.length_map]; exact h1, vs, vals_toV h2, _, e, rfl, _, rfl⟩
theorem seq_inj {c c' : Value} {vs us : List Value} (e : (some { cls := c, data := .seq vs.toArray } : Option Obj) = some { cls := c', data := .seq us.toArray }) : c = c' ∧ vs = us := by
  have e1 := Option.some.inj e
  have e2 : c = c' := congrArg Obj.cls e1
  have e3 : Data.seq vs.toArray = Data.seq us.toArray := congrArg Obj.data e1
  injection e3 with e4
  refine ⟨e2, ?_⟩
  have e5 := congrArg Array.toList e4
  simpa using e5
theorem argL (KX : K.In h) (ar : ∀ a ∈ A, ArgOb h A a) {a : Addr} {vs : List Value} (ha : a ∈ A) (e : h.get? a = some { cls := .type "list", data := .seq vs.toArray }) : (∀ u ∈ vs, OkU A u) ∧ SqL K (argH K h A) a (vs.map toV) := by
  obtain ⟨us, h1, h2, h3⟩ := ar a ha
  have hu : us = vs := by
    rcases h3 with q | q
    · rw [e] at q
      exact (seq_inj q).2.symm
    · rw [e] at q
      exact absurd (Value.type.inj (seq_inj q).1) (by decide)
  subst hu
  refine ⟨h2, ?_⟩
  cases hk : K.lookup a with
  | none => exact .inl (.inr ⟨_, by rw [argH_at ha hk e, hoOf_lst]⟩)
  | some o =>
    have e2 := KX a o hk
    rw [e] at e2
    obtain rfl := Option.some.inj e2
    exact .inr ⟨_, us.toArray, _, hk, rfl, rfl, rfl, by rw [List.size_toArray]; exact h1, by simpa using vals_toV h2⟩
theorem argT (KX : K.In h) (ar : ∀ a ∈ A, ArgOb h A a) {a : Addr} {vs : List Value} (ha : a ∈ A) (e : h.get? a = some { cls := .type "tuple", data := .seq vs.toArray }) : (∀ u ∈ vs, OkU A u) ∧ SqT K (argH K h A) a (vs.map toV) := by
  obtain ⟨us, h1, h2, h3⟩ := ar a ha
  have hu : us = vs := by
    rcases h3 with q | q
    · rw [e] at q
      exact absurd (Value.type.inj (seq_inj q).1) (by decide)
    · rw [e] at q
      exact (seq_inj q).2.symm
  subst hu
  refine ⟨h2, ?_⟩
  cases hk : K.lookup a with
  | none => exact .inl (.inr ⟨_, by rw [argH_at ha hk e, hoOf_tup]⟩)
  | some o =>
    have e2 := KX a o hk
    rw [e] at e2
    obtain rfl := Option.some.inj e2
    exact .inr ⟨_, us.toArray, _, hk, rfl, rfl, by rw [List.size_toArray]; exact h1, by simpa using vals_toV h2⟩
mutual
theorem dw_one {Pm : Params} (KX : K.In h) (ar : ∀ a ∈ A, ArgOb h A a) : ∀ (d : WData) (v : Value), Well Pm h v d → plW d = true → OkU A v → Dw K (argH K h A) (toV v) d
  | .none, _, x, _, _ => by
    cases x
    exact .non
  | .bool b, _, x, _, _ => by
    cases x
    exact .bl b
  | .int i, _, x, _, _ => by
    cases x
    exact .int i
  | .str s, _, x, _, _ => by
    cases x
    exact .str s
  | .bytes b, _, x, _, _ => by
    cases x
    have z := Dw.byt (K := K) (H := argH K h A) b.toArray
    exact z
  | .list ds, _, x, p, hu => by
    obtain ⟨a, vs, rfl, ho, hall⟩ := well_list x
    obtain ⟨h2, hs⟩ := argL KX ar hu ho
    exact .lst hs (dw_all KX ar ds _ hall p h2)
  | .tuple ds, _, x, p, hu => by
    obtain ⟨a, vs, rfl, ho, hall⟩ := well_tuple x
    obtain ⟨h2, hs⟩ := argT KX ar hu ho
    exact .tup hs (dw_all KX ar ds _ hall p h2)
  | .float _, _, _, p, _ => Bool.noConfusion (show false = true from p)
  | .dict _, _, _, p, _ => Bool.noConfusion (show false = true from p)
  | .bytearray _, _, _, p, _ => Bool.noConfusion (show false = true from p)
  | .set _, _, _, p, _ => Bool.noConfusion (show false = true from p)
  | .frozenset _, _, _, p, _ => Bool.noConfusion (show false = true from p)
  | .obj _ _, _, _, p, _ => Bool.noConfusion (show false = true from p)
theorem dw_all {Pm : Params} (KX : K.In h) (ar : ∀ a ∈ A, ArgOb h A a) : ∀ (ds : List WData) (vs : List Value), WellAll Pm h vs ds → plWs ds = true → (∀ u ∈ vs, OkU A u) → DwAll K (argH K h A) (vs.map toV) ds
  | [], _, x, _, _ => by
    cases x
    exact .nil
  | d :: ds, _, x, p, hu => by
    obtain ⟨v, vs, rfl, x1, x2⟩ := well_cons x
    have q : plW d = true ∧ plWs ds = true := Bool.and_eq_true_iff.mp p
    exact .cons (dw_one KX ar d v x1 q.1 (hu _ (List.mem_cons_self ..))) (dw_all KX ar ds vs x2 q.2 fun u m => hu u (List.mem_cons_of_mem _ m))
end
end
theorem layable_weight {ds : List WData} (h : WData.layableAll ds = true) : ∀ d ∈ ds, d.weight ≤ 1048576 := fun d hd =>
  (PySem.W.layableW_iff.mp (List.all_eq_true.mp h d hd)).2.2
theorem encAll_len : ∀ (cs : List Codec) (a : Codec.denoteAll cs), (Codec.encAll cs a).length = cs.length
  | [], _ => rfl
  | c :: cs, a => by
    show (Codec.encAll cs a.2).length + 1 = cs.length + 1
    rw [encAll_len cs a.2]
end L2
end
end
section
set_option Elab.async false
set_option linter.all false
set_option maxRecDepth 100000
set_option maxHeartbeats 2000000
namespace L2
open PySem PySem.Spec PyProof.Rows
open PySem.W (WData Codec OpenSpec Well WellAll ReadsW ReadsAllW)
theorem builtinsAt_of {h : Heap} {mg : Str → Option Value} {T : Addr} {ps : Array Value} (hns : h.Ns mainGlobals mg) (hT : h.get? T = some (PySem.W.tabObj ps))
    (hbm : ∃ bm ob, mg (Str.ofString "__builtins__") = some (Value.ref bm) ∧ bm ≠ builtinsNs ∧ h.get? bm = some ob ∧ ob.cls = Value.type "module" ∧ ob.dict = some builtinsNs ∧ ob.data = Data.plain) : h.BuiltinsAt mg T := by
  obtain ⟨bm, ob, a1, a2, a3, a4, a5, a6⟩ := hbm
  refine ⟨bm, ob, a1, a2, ?_, ?_, a3, a4, a5, a6⟩
  · rintro rfl
    obtain ⟨o, es, ep, e, d, _⟩ := hns
    rw [a3] at e
    cases e
    rw [a6] at d
    cases d
  · rintro rfl
    rw [a3] at hT
    cases hT
    cases a6
theorem enter_tab {P : Program} {w : World} {K : PySem.W.Frag} {mg mb : Str → Option Value} {CX : CXT} {k : Nat} {fa T c : Addr} {fd : FuncData} {ps : List Str} {sp : Sp} {s₁ : Shared} {vals : List Value} {ds : List WData} {R : PySem.W.WRecords} {cl : Str → Option Addr} {d0 : WData}
    (KX : K.In s₁.heap) (hns : s₁.heap.Ns mainGlobals mg) (hb : s₁.heap.Ns builtinsNs mb) (hbb : ∀ x : Str, x ≠ "__name__" → mb x = bootBuiltins x) (hlim : s₁.heap.NoLimit) (hg : s₁.gens = #[])
    (hst : ∃ mc, s₁.heap.Ns cStatics mc) (hTab : s₁.heap.TableAt c T #[]) (hKT : K.lookup T = none) (hbi : s₁.heap.BuiltinsAt mg T)
    (hwl : WellAll w.params s₁.heap vals ds) (hpl : plWs ds = true) (hwt : ∀ d ∈ ds, d.weight ≤ 1048576) (hr : Room k callerA)
    (F : ∀ base : Heap, K.In base → base.Ns mainGlobals mg → base.BuiltinsAt mg T → FnOk P w K mg base CX k fa fd ps sp) (hbind : ∀ (s : Shared) (us : List Value), us.length = ps.length → BindsTo s fd ⟨us, []⟩ (ps.zip us)) (hlen : ds.length = ps.length)
    (hsp : ∀ (H0 H : Hp) (xs : List V), Same H0 H → H T = some (.tbl #[]) → DwAll K H0 xs ds → sp xs H (fun v H' => Dw K H' v d0) fun _ _ _ => False)
    (hCX : ∀ H e s', CX [] H s₁ (fun _ _ _ => False) e s' → False) :
    codeAny (model P w) callerA (.call (.ref fa) ⟨vals, []⟩) (fun r s' => ∃ u as, r = .ok (.ret u) ∧ ReadsW R cl s'.heap u d0 as ∧ OldK s₁.heap s'.heap ∧ s'.os = s₁.os ∧ AllBare s'.gens) s₁ := by
  obtain ⟨A, ho, ar⟩ := area_all ds vals hwl hpl hwt
  have hT := hTab.2
  have hT0 : argH K s₁.heap A T = none := by
    cases q : argH K s₁.heap A T with
    | none => rfl
    | some u =>
      obtain ⟨_, vs, _, _, ⟨e2, _⟩ | ⟨e2, _⟩⟩ := argH_is ar q
      · rw [hT] at e2; cases e2
      · rw [hT] at e2; cases e2
  have hO : OnlyF (argH K s₁.heap A) := argH_only ar
  have hok0 : HOk P w (argH K s₁.heap A) s₁.heap := argH_ok ar
  have hS := dw_all KX ar ds vals hwl hpl ho
  have hV := vals_toV ho
  have hK0 : ∀ b u, argH K s₁.heap A b = some u → K.lookup b = none := fun b u q => (argH_is ar q).1
  have noA0 : ∀ {b : Addr} {o : Obj}, s₁.heap.get? b = some o → (∀ vs n, o.data ≠ .seq vs n) → argH K s₁.heap A b = none := fun {b o} e d => by
    cases q : argH K s₁.heap A b with
    | none => rfl
    | some u =>
      obtain ⟨_, vs, _, _, ⟨e2, _⟩ | ⟨e2, _⟩⟩ := argH_is ar q
      · rw [e2] at e
        cases e
        exact absurd rfl (d _ _)
      · rw [e2] at e
        cases e
        exact absurd rfl (d _ _)
  generalize argH K s₁.heap A = H0 at hO hok0 hS hK0 noA0 hT0
  obtain ⟨H, hH⟩ : ∃ H : Hp, H = upd H0 T (.tbl #[]) := ⟨_, rfl⟩
  have same : Same H0 H := fun b o e => by rw [hH, upd_ne (ne_of_none e hT0)]; exact e
  have hHT : H T = some (.tbl #[]) := by rw [hH, upd_same]
  have hok : HOk P w H s₁.heap := fun b o e => by
    by_cases z : b = T
    · subst z
      rw [hHT] at e
      cases e
      exact hT
    · rw [hH, upd_ne z] at e
      exact (hok0 b o e).stay (fun _ _ _ q => q) (fun c q => same _ _ q) fun c ys q => same _ _ q
  have hfz : ∀ b u, H b = some u → b ≠ T → ∃ ob u2, H b = some (.frz ob u2) := fun b u e n => by
    have e' := e
    rw [hH, upd_ne n] at e'
    rcases hO b with z | ⟨ob, u2, z⟩
    · rw [z] at e'; cases e'
    · exact ⟨ob, u2, same _ _ z⟩
  have noA : ∀ {b : Addr} {o : Obj}, b ≠ T → s₁.heap.get? b = some o → (∀ vs n, o.data ≠ .seq vs n) → H b = none := fun {b o} n e d => by
    rw [hH, upd_ne n]
    exact noA0 e d
  have base_of : ∀ {b : Addr} {o : Obj}, s₁.heap.get? b = some o → H b = none → (hidT s₁.heap H).get? b = some o := fun e n => hidT_get e n
  have nsT : ∀ {b : Addr} {m : Str → Option Value}, s₁.heap.Ns b m → b ≠ T := fun {b m} ⟨o, es, ep, e, d, r⟩ z => by
    rw [z, hT] at e
    cases e
    cases d
  have nsK : ∀ {b : Addr} {m : Str → Option Value}, s₁.heap.Ns b m → (hidT s₁.heap H).Ns b m := fun {b m} x => by
    have n := nsT x
    obtain ⟨o, es, ep, e, d, r⟩ := x
    exact ⟨o, es, ep, base_of e (noA n e fun vs n z => by rw [d] at z; cases z), d, r⟩
  have nK : ∀ b o, K.lookup b = some o → H b = none := fun b o e => by
    by_cases z : b = T
    · rw [z, hKT] at e; cases e
    · rw [hH, upd_ne z]
      cases q : H0 b with
      | none => rfl
      | some u =>
        rw [hK0 b u q] at e
        cases e
  have hKb : K.In (hidT s₁.heap H) := fun b o e => base_of (KX b o e) (nK b o e)
  have hM : Mod K mg (hidT s₁.heap H) := ⟨hKb, nsK hns, ⟨mb, nsK hb, hbb⟩, let ⟨mc, h1, h2⟩ := hlim; ⟨mc, nsK h1, h2⟩⟩
  have hbB : (hidT s₁.heap H).BuiltinsAt mg T := by
    obtain ⟨bm, o, a1, a2, a3, a4, a5, a6, a7, a8⟩ := hbi
    exact ⟨bm, o, a1, a2, a3, a4, base_of a5 (noA a4 a5 fun vs n z => by rw [a8] at z; cases z), a6, a7, a8⟩
  have e0 : Env0 P w K mg (hidT s₁.heap H) callerA [] s₁ H := ⟨rfl, hM, fun b o e => of_hidT e, Nat.le_of_eq (hidT_size _ _), trivial, fun b hb => absurd (show b ∈ ([] : List Addr) from hb) (by simp), hok, .of_eq hg⟩
  have hl : vals.length = ps.length := by rw [wellAll_len hwl]; exact hlen
  refine codeAny_mono ((F _ hKb (nsK hns) hbB).run callerA [] s₁ H ⟨vals, []⟩ vals (vals.map toV) _ _ hr e0 (hbind s₁ vals hl) hV (hsp H0 H _ same hHT hS)) fun r s' x => ?_
  cases r with
  | error e => exact (hCX H e s' x).elim
  | ok fl =>
    cases fl with
    | next => exact False.elim x
    | brk => exact False.elim x
    | cont => exact False.elim x
    | ret u =>
      obtain ⟨v, H', os, bare, un, hok', r', q⟩ := x
      have kept : ∀ b o, b ≠ T → s₁.heap.get? b = some o → s'.heap.get? b = some o := fun b o n e => by
        cases q2 : H b with
        | none => exact un.keep b o e q2 (by intro z; exact absurd (show b ∈ ([] : List Addr) from z) (by simp)) (by simp)
        | some u2 =>
          obtain ⟨ob, u3, z⟩ := hfz b u2 q2 n
          have z2 := un.frzs b ob _ z
          obtain ⟨e1, _⟩ := hok b _ z
          obtain ⟨e2, _⟩ := hok' b _ z2
          rw [e] at e1
          cases e1
          exact e2
      have KX' : K.In s'.heap := fun b o e => kept b o (fun z => by rw [z, hKT] at e; cases e) (KX b o e)
      obtain ⟨as, hrd⟩ := Dw.reads (R := R) (cl := cl) hok' KX' d0 v u q r'
      obtain ⟨more, hm⟩ := un.tbls T #[] hHT
      have hT' : s'.heap.get? T = some (PySem.W.tabObj (#[] ++ more)) := hok' T _ hm
      have hTab' : s'.heap.TableAt c T (#[] ++ more) := by
        obtain ⟨⟨oc, vs, c1, c2, c3, c4⟩, _⟩ := hTab
        refine ⟨⟨oc, vs, kept c oc ?_ c1, c2, c3, c4⟩, hT'⟩
        rintro rfl
        rw [hT] at c1
        cases c1
        cases c2
      have hcs : T ≠ cStatics := by
        obtain ⟨mc, h1⟩ := hst
        exact (nsT h1).symm
      exact ⟨u, as, rfl, hrd, OldK.step_table (OldK.refl _) hTab hTab hTab' (fun b o n e => kept b o n e) hcs, os, bare⟩
theorem walk_tab {r : OpenSpec} {k : Nat} {q : Program} {loose : List Str} {XP : (Str → Option Value) → Heap → Prop} {YP : World → Heap → Prop} {d dT : DefRec} {K : Params → PySem.W.Frag} {CX : World → CXT} {ps : List Str} {sp : PySem.W.Frag → Sp} {x : Str} {c T : Addr}
    (hwell : r.wellSaid = true) (hdf : d.params.defaults = []) (hlen : r.args.length = ps.length) (hr : Room k callerA)
    (hY : ∀ (w : World) (h : Heap), YP w h → (K w.params).In h)
    (hfind : (recsOf q).find? (fun e => e.name == x) = some dT) (htab : ∀ p : Params, PySem.W.tabIn (K p) x = some (c, T)) (hKT : ∀ p : Params, (K p).lookup T = none)
    (F : ∀ (w : World) (mg : Str → Option Value) (fa : Addr) (h : Heap), YP w h → (K w.params).In h → h.Ns mainGlobals mg → mg d.name = some (.ref fa) →
      ∃ fd : FuncData, (∀ (s : Shared) (us : List Value), us.length = ps.length → BindsTo s fd ⟨us, []⟩ (ps.zip us)) ∧
        ∀ base : Heap, (K w.params).In base → base.Ns mainGlobals mg → base.BuiltinsAt mg T → FnOk r.prog w (K w.params) mg base (CX w) k fa fd ps (sp (K w.params)))
    (hsp : ∀ (K : PySem.W.Frag) (H0 H : Hp) (xs : List V) (a : Codec.denoteAll r.args), Same H0 H → H T = some (.tbl #[]) → Codec.withinAll r.args a = true → Codec.app r.args r.asked a = true → DwAll K H0 xs (Codec.encAll r.args a) →
      sp K xs H (fun v H' => Dw K H' v (r.ret.enc (Codec.app r.args r.f a))) fun _ _ _ => False)
    (hCX : ∀ (w : World) (H : Hp) (s : Shared) (e : Value) (s' : Shared), CX w [] H s (fun _ _ _ => False) e s' → False) :
    PySem.W.WalkOS q loose XP YP r d [] (fun f vs => PySem.call f vs) := by
  intro w s_0 s₁ mg mb G Y fa o pm cd doc dV kV ho hd hcd hD hmg hg args vals as hpre hlay hrd hwl hlo
  obtain ⟨a, e1, e2⟩ := PySem.W.os_pre_some hpre
  obtain ⟨e3, hwi⟩ := Codec.encAll_of_decAll r.args args a e1
  subst e3
  have KX := hY w _ Y
  obtain ⟨fd, hb, hF⟩ := F w mg fa _ Y KX G.T.g hmg
  obtain ⟨hcode, hTt⟩ := PySem.W.tab_of G.T KX hfind (htab w.params)
  have hTab : s₁.heap.TableAt c T #[] := by
    obtain ⟨oc, vs, _, _, _, _, _, _, _, c1, c2, c3, c4, _⟩ := hcode
    exact ⟨⟨oc, vs, c1, c2, c3, c4⟩, hTt⟩
  obtain ⟨mc, hst, _⟩ := G.T.nodigits
  refine PySem.W.enter_call (codeAny_mono (enter_tab (R := []) (cl := classAt s_0.heap) (d0 := r.ret.enc (Codec.app r.args r.f a)) KX G.T.g G.T.b G.T.builtins G.T.nolimit hg ⟨mc, hst⟩ hTab (hKT w.params) (builtinsAt_of G.T.g hTt G.T.bmain) hwl (pl_encAll _ _) (layable_weight hlay) hr hF hb (by rw [encAll_len]; exact hlen)
    (fun H0 H xs hs hT hS => hsp _ H0 H xs a hs hT hwi e2 hS) fun H e s' => hCX w H s₁ e s') fun r' s' hq => ?_)
  obtain ⟨u, as', rfl, h1, h2, h3, h4⟩ := hq
  exact ⟨.inl ⟨u, _, as', rfl, fun _ => rfl, h1, (OpenSpec.post_iff hwell hwi _ _).mpr rfl, fun z => Bool.noConfusion (show false = true from z)⟩, h2, h3, h4⟩
end L2
end
section
set_option Elab.async false
set_option linter.all false
set_option maxRecDepth 100000
set_option maxHeartbeats 2000000
namespace L2
open PySem PySem.Spec PyProof.Rows
structure HasDef (K : PySem.W.Frag) (mg : Str → Option Value) (x : Str) (st : Stmt) : Prop where
  ex : ∃ (g : Addr) (gd : FuncData), mg x = some (.ref g) ∧ Fun K x x st g gd
theorem HasDef.of {K : PySem.W.Frag} {mg : Str → Option Value} {h : Heap} {x : Str} {st : Stmt} {f : Addr} {oc : Value} {od an : Option Addr} {osl : Array (Option Value)} {kV doc pm cdv ct : Value} (X : K.In h) (G : h.Ns mainGlobals mg)
    (a : PySem.W.nsIn K mainGlobals x = some (some (.ref f))) (l : K.lookup f = some ⟨oc, od, .func (PySem.W.fnOf x x (defArgs st) (defBody st) (defScope st) .none kV doc pm an cdv ct), osl⟩) (c : PySem.W.codeIn K cdv x = true) (k : PySem.W.keepIn K (.ref f) = true) : HasDef K mg x st :=
  ⟨f, _, PySem.W.mg_of X G a, fun_mk l c k⟩
structure HasAt (K : PySem.W.Frag) (x qual : Str) (st : Stmt) (g : Addr) : Prop where
  ex : ∃ gd : FuncData, Fun K x qual st g gd
theorem HasAt.of {K : PySem.W.Frag} {x qual : Str} {st : Stmt} {f : Addr} {oc : Value} {od an : Option Addr} {osl : Array (Option Value)} {kV doc pm cdv ct : Value}
    (l : K.lookup f = some ⟨oc, od, .func (PySem.W.fnOf x qual (defArgs st) (defBody st) (defScope st) .none kV doc pm an cdv ct), osl⟩) (c : PySem.W.codeIn K cdv qual = true) (k : PySem.W.keepIn K (.ref f) = true) : HasAt K x qual st f := ⟨_, fun_mk l c k⟩
structure HasTab (K : PySem.W.Frag) (mg : Str → Option Value) (x : Str) (st : Stmt) (T : Addr) : Prop where
  ex : ∃ (g c : Addr) (gd : FuncData), mg x = some (.ref g) ∧ Fun K x x st g gd ∧ gd.code = .ref c ∧ PySem.W.codeHdIn K c T = true
theorem HasTab.of {K : PySem.W.Frag} {mg : Str → Option Value} {h : Heap} {x : Str} {st : Stmt} {f T cc : Addr} {oc : Value} {od an : Option Addr} {osl : Array (Option Value)} {kV doc pm ct : Value} (X : K.In h) (G : h.Ns mainGlobals mg)
    (a : PySem.W.nsIn K mainGlobals x = some (some (.ref f))) (l : K.lookup f = some ⟨oc, od, .func (PySem.W.fnOf x x (defArgs st) (defBody st) (defScope st) .none kV doc pm an (.ref cc) ct), osl⟩) (c : PySem.W.codeIn K (.ref cc) x = true) (k : PySem.W.keepIn K (.ref f) = true)
    (t : PySem.W.codeHdIn K cc T = true) : HasTab K mg x st T :=
  ⟨f, cc, _, PySem.W.mg_of X G a, fun_mk l c k, rfl, t⟩
theorem cls_of {K : PySem.W.Frag} {C : Addr} (pg : PySem.W.plainGet K C Str.empty = true) (hd : PySem.W.hasDictIn K C = true) (po : PySem.W.plainOver K C = true) (sa : PySem.W.findIn K (.ref C) "__setattr__" = some (some (.builtin "object.__setattr__"))) : Cls K C := ⟨pg, hd, po, sa⟩
end L2
namespace Shed
open PySem PySem.Spec PyProof.Rows L2
section
variable {P : Program} {w : World} {K : PySem.W.Frag} {mg : Str → Option Value} {base : Heap} {cO cN C F T L gT gF gL gP gB : Addr} {fs : Nat → Addr}
structure Facts (K : PySem.W.Frag) (mg : Str → Option Value) (cO cN C F T L gT gF gL gP gB : Addr) : Prop where
  N : Names mg cO cN
  xO : XCls K cO
  xN : XCls K cN
  ne : cN ≠ cO
  FC : FlockCls K mg F
  MF : Mk K F gF
  iF : HasAt K "__init__" "Flock.__init__" sFlockInit gF
  mB : Meth K F "begin_with" gB
  iB : HasAt K "begin_with" "Flock.begin_with" sBegin gB
  A1 : AtFirst K mg
  PC : PlanCls K mg C
  MP : Mk K C gP
  iP : HasAt K "__init__" "Plan.__init__" sPlanInit gP
  LC : LineCls K mg L gT
  ML : Mk K L gL
  iL : HasAt K "__init__" "Line.__init__" sLineInit gL
  iT : HasAt K "taken" "Line.taken" sTaken gT
  FL : F ≠ L
  t_pens_by_sheep : HasTab K mg "pens_by_sheep" sPbs T
  t_check_number : HasDef K mg "check_number" sCheckNumber
  t_check_list : HasDef K mg "check_list" sCheckList
  t_checked_ways : HasDef K mg "checked_ways" sCheckedWays
  t_pens_in_order : HasDef K mg "pens_in_order" sPio
  t_joined : HasDef K mg "joined" sJoined
  t_with_first_joined : HasDef K mg "with_first_joined" sWfj
  t_least_plan : HasDef K mg "least_plan" sLp
  t_splits : HasDef K mg "splits" sSplits
  t_first_least_run : HasDef K mg "first_least_run" sFlr
  t_with_one_more_run : HasDef K mg "with_one_more_run" sWomr
  t_least_keeping_order : HasDef K mg "least_keeping_order" sLko
  t_least_plan_in_order : HasDef K mg "least_plan_in_order" sLpio
  t_least_plan_within : HasDef K mg "least_plan_within" sLpw
  t_runs_can_be : HasDef K mg "runs_can_be" sRcb
  t_number_at : HasDef K mg "number_at" sNumberAt
  t_without_way : HasDef K mg "without_way" sWithoutWay
  t_read_pens : HasDef K mg "read_pens" sReadPens
  t_pens_for_farms : HasDef K mg "pens_for_farms" sPff
  t_with_count : HasDef K mg "with_count" sWc
  t_cost_for : HasDef K mg "cost_for" sCf
  t_places_of : HasDef K mg "places_of" sPo
  t_pens_with_strangers : HasDef K mg "pens_with_strangers" sPws
  t_strangers_of : HasDef K mg "strangers_of" sSo
  t_strangers_by_farm : HasDef K mg "strangers_by_farm" sSbf
  t_cost_to_mend : HasDef K mg "cost_to_mend" sCtm
  t_answer_call : HasDef K mg "answer_call" sAnswerCall
  t_answer_from : HasDef K mg "answer_from" sAnswerFrom
structure AnsAt (K : PySem.W.Frag) (fs : Nat → Addr) : Prop where
  a0 : HasAt K "answer_farms" "answer_farms" sAFarms (fs 0)
  a1 : HasAt K "answer_least" "answer_least" sALeast (fs 1)
  a2 : HasAt K "answer_tree" "answer_tree" sATree (fs 2)
  a3 : HasAt K "answer_ordered" "answer_ordered" sAOrd (fs 3)
  a4 : HasAt K "answer_orderedtree" "answer_orderedtree" sAOtree (fs 4)
  a5 : HasAt K "answer_cost" "answer_cost" sACost (fs 5)
  a6 : HasAt K "answer_depths" "answer_depths" sADepths (fs 6)
  a7 : HasAt K "answer_canbe" "answer_canbe" sACanbe (fs 7)
  a8 : HasAt K "answer_within" "answer_within" sAWithin (fs 8)
  a9 : HasAt K "answer_sheep" "answer_sheep" sASheep (fs 9)
  a10 : HasAt K "answer_shed" "answer_shed" sAShed (fs 10)
  a11 : HasAt K "answer_walked" "answer_walked" sAWalked (fs 11)
  a12 : HasAt K "answer_pens" "answer_pens" sAPens (fs 12)
  a13 : HasAt K "answer_mixed" "answer_mixed" sAMixed (fs 13)
  a14 : HasAt K "answer_mend" "answer_mend" sAMend (fs 14)
  a15 : HasAt K "answer_told" "answer_told" sATold (fs 15)
  a16 : HasAt K "answer_row" "answer_row" sARow (fs 16)
  a17 : HasAt K "answer_pen" "answer_pen" sAPen (fs 17)
  a18 : HasAt K "answer_counts" "answer_counts" sACounts (fs 18)
  a19 : HasAt K "answer_clear" "answer_clear" sAClear (fs 19)
theorem all_from (A : Facts K mg cO cN C F T L gT gF gL gP gB) (hbi : base.BuiltinsAt mg T) (TB : Tables K mg 20 fs) (AA : AnsAt K fs) :
    Def P w K mg base (CXE P w) 10 "answer_from" sAnswerFrom ["flock", "line"] (spFrom K F T L 20) := by
  have N := A.N
  obtain ⟨gdP, iP⟩ := A.iP.ex
  have bP := iP.binds (ps := ["self", "sheep", "cost", "numbers"]) fun _ _ _ _ _ _ us hl => match us, hl with | [_, _, _, _], _ => rfl
  obtain ⟨gdT, iT⟩ := A.iT.ex
  have bT := iT.binds (ps := ["self", "many"]) fun _ _ _ _ _ _ us hl => match us, hl with | [_, _], _ => rfl
  obtain ⟨gdB, iB⟩ := A.iB.ex
  have bB := iB.binds (ps := ["self", "farms"]) fun _ _ _ _ _ _ us hl => match us, hl with | [_, _], _ => rfl
  have B : Begins P w K mg base F gB := ⟨A.mB, gdB, bB, ok_beginL iB N A.FC, ok_beginT iB N A.FC⟩
  obtain ⟨g_check_number, gd_check_number, m_check_number, F_check_number⟩ := A.t_check_number.ex
  have b_check_number := F_check_number.binds (ps := ["number", "lowest", "highest"]) fun _ _ _ _ _ _ us hl => match us, hl with | [_, _, _], _ => rfl
  obtain ⟨g_check_list, gd_check_list, m_check_list, F_check_list⟩ := A.t_check_list.ex
  have b_check_list := F_check_list.binds (ps := ["numbers", "fewest", "most", "highest"]) fun _ _ _ _ _ _ us hl => match us, hl with | [_, _, _, _], _ => rfl
  obtain ⟨g_checked_ways, gd_checked_ways, m_checked_ways, F_checked_ways⟩ := A.t_checked_ways.ex
  have b_checked_ways := F_checked_ways.binds (ps := ["told"]) fun _ _ _ _ _ _ us hl => match us, hl with | [_], _ => rfl
  obtain ⟨g_pens_in_order, gd_pens_in_order, m_pens_in_order, F_pens_in_order⟩ := A.t_pens_in_order.ex
  have b_pens_in_order := F_pens_in_order.binds (ps := ["farms"]) fun _ _ _ _ _ _ us hl => match us, hl with | [_], _ => rfl
  obtain ⟨g_joined, gd_joined, m_joined, F_joined⟩ := A.t_joined.ex
  have b_joined := F_joined.binds (ps := ["plans"]) fun _ _ _ _ _ _ us hl => match us, hl with | [_], _ => rfl
  obtain ⟨g_with_first_joined, gd_with_first_joined, m_with_first_joined, F_with_first_joined⟩ := A.t_with_first_joined.ex
  have b_with_first_joined := F_with_first_joined.binds (ps := ["plans", "ways"]) fun _ _ _ _ _ _ us hl => match us, hl with | [_, _], _ => rfl
  obtain ⟨g_least_plan, gd_least_plan, m_least_plan, F_least_plan⟩ := A.t_least_plan.ex
  have b_least_plan := F_least_plan.binds (ps := ["farms", "ways"]) fun _ _ _ _ _ _ us hl => match us, hl with | [_, _], _ => rfl
  obtain ⟨g_splits, gd_splits, m_splits, F_splits⟩ := A.t_splits.ex
  have b_splits := F_splits.binds (ps := ["start", "end", "ways"]) fun _ _ _ _ _ _ us hl => match us, hl with | [_, _, _], _ => rfl
  obtain ⟨g_first_least_run, gd_first_least_run, m_first_least_run, F_first_least_run⟩ := A.t_first_least_run.ex
  have b_first_least_run := F_first_least_run.binds (ps := ["least", "rows_of_spans"]) fun _ _ _ _ _ _ us hl => match us, hl with | [_, _], _ => rfl
  obtain ⟨g_with_one_more_run, gd_with_one_more_run, m_with_one_more_run, F_with_one_more_run⟩ := A.t_with_one_more_run.ex
  have b_with_one_more_run := F_with_one_more_run.binds (ps := ["pens", "least", "ways"]) fun _ _ _ _ _ _ us hl => match us, hl with | [_, _, _], _ => rfl
  obtain ⟨g_least_keeping_order, gd_least_keeping_order, m_least_keeping_order, F_least_keeping_order⟩ := A.t_least_keeping_order.ex
  have b_least_keeping_order := F_least_keeping_order.binds (ps := ["pens", "ways", "most"]) fun _ _ _ _ _ _ us hl => match us, hl with | [_, _, _], _ => rfl
  obtain ⟨g_least_plan_in_order, gd_least_plan_in_order, m_least_plan_in_order, F_least_plan_in_order⟩ := A.t_least_plan_in_order.ex
  have b_least_plan_in_order := F_least_plan_in_order.binds (ps := ["farms", "ways"]) fun _ _ _ _ _ _ us hl => match us, hl with | [_, _], _ => rfl
  obtain ⟨g_least_plan_within, gd_least_plan_within, m_least_plan_within, F_least_plan_within⟩ := A.t_least_plan_within.ex
  have b_least_plan_within := F_least_plan_within.binds (ps := ["farms", "ways", "most"]) fun _ _ _ _ _ _ us hl => match us, hl with | [_, _, _], _ => rfl
  obtain ⟨g_runs_can_be, gd_runs_can_be, m_runs_can_be, F_runs_can_be⟩ := A.t_runs_can_be.ex
  have b_runs_can_be := F_runs_can_be.binds (ps := ["runs", "ways"]) fun _ _ _ _ _ _ us hl => match us, hl with | [_, _], _ => rfl
  obtain ⟨g_number_at, gd_number_at, m_number_at, F_number_at⟩ := A.t_number_at.ex
  have b_number_at := F_number_at.binds (ps := ["numbers", "place"]) fun _ _ _ _ _ _ us hl => match us, hl with | [_, _], _ => rfl
  obtain ⟨g_without_way, gd_without_way, m_without_way, F_without_way⟩ := A.t_without_way.ex
  have b_without_way := F_without_way.binds (ps := ["ways_to_come"]) fun _ _ _ _ _ _ us hl => match us, hl with | [_], _ => rfl
  obtain ⟨g_read_pens, gd_read_pens, m_read_pens, F_read_pens⟩ := A.t_read_pens.ex
  have b_read_pens := F_read_pens.binds (ps := ["numbers", "ways"]) fun _ _ _ _ _ _ us hl => match us, hl with | [_, _], _ => rfl
  obtain ⟨g_pens_for_farms, gd_pens_for_farms, m_pens_for_farms, F_pens_for_farms⟩ := A.t_pens_for_farms.ex
  have b_pens_for_farms := F_pens_for_farms.binds (ps := ["numbers", "ways", "farms"]) fun _ _ _ _ _ _ us hl => match us, hl with | [_, _, _], _ => rfl
  obtain ⟨g_with_count, gd_with_count, m_with_count, F_with_count⟩ := A.t_with_count.ex
  have b_with_count := F_with_count.binds (ps := ["numbers"]) fun _ _ _ _ _ _ us hl => match us, hl with | [_], _ => rfl
  obtain ⟨g_cost_for, gd_cost_for, m_cost_for, F_cost_for⟩ := A.t_cost_for.ex
  have b_cost_for := F_cost_for.binds (ps := ["pens", "sheep"]) fun _ _ _ _ _ _ us hl => match us, hl with | [_, _], _ => rfl
  obtain ⟨g_places_of, gd_places_of, m_places_of, F_places_of⟩ := A.t_places_of.ex
  have b_places_of := F_places_of.binds (ps := ["farm", "row"]) fun _ _ _ _ _ _ us hl => match us, hl with | [_, _], _ => rfl
  obtain ⟨g_pens_with_strangers, gd_pens_with_strangers, m_pens_with_strangers, F_pens_with_strangers⟩ := A.t_pens_with_strangers.ex
  have b_pens_with_strangers := F_pens_with_strangers.binds (ps := ["pens"]) fun _ _ _ _ _ _ us hl => match us, hl with | [_], _ => rfl
  obtain ⟨g_strangers_of, gd_strangers_of, m_strangers_of, F_strangers_of⟩ := A.t_strangers_of.ex
  have b_strangers_of := F_strangers_of.binds (ps := ["farm", "pens"]) fun _ _ _ _ _ _ us hl => match us, hl with | [_, _], _ => rfl
  obtain ⟨g_strangers_by_farm, gd_strangers_by_farm, m_strangers_by_farm, F_strangers_by_farm⟩ := A.t_strangers_by_farm.ex
  have b_strangers_by_farm := F_strangers_by_farm.binds (ps := ["pens"]) fun _ _ _ _ _ _ us hl => match us, hl with | [_], _ => rfl
  obtain ⟨g_cost_to_mend, gd_cost_to_mend, m_cost_to_mend, F_cost_to_mend⟩ := A.t_cost_to_mend.ex
  have b_cost_to_mend := F_cost_to_mend.binds (ps := ["pens"]) fun _ _ _ _ _ _ us hl => match us, hl with | [_], _ => rfl
  obtain ⟨g_answer_call, gd_answer_call, m_answer_call, F_answer_call⟩ := A.t_answer_call.ex
  have b_answer_call := F_answer_call.binds (ps := ["flock", "number", "told", "given"]) fun _ _ _ _ _ _ us hl => match us, hl with | [_, _, _, _], _ => rfl
  obtain ⟨g_answer_from, gd_answer_from, m_answer_from, F_answer_from⟩ := A.t_answer_from.ex
  have b_answer_from := F_answer_from.binds (ps := ["flock", "line"]) fun _ _ _ _ _ _ us hl => match us, hl with | [_, _], _ => rfl
  obtain ⟨g_pens_by_sheep, c18, gd_pens_by_sheep, m_pens_by_sheep, F_pens_by_sheep, k18, t18⟩ := A.t_pens_by_sheep.ex
  have b_pens_by_sheep := F_pens_by_sheep.binds (ps := ["farms"]) fun _ _ _ _ _ _ us hl => match us, hl with | [_], _ => rfl
  have G_check_number : FnOk P w K mg base (CXE P w) 1 g_check_number gd_check_number _ (spCheckNumber cO) := ok_checkNumber F_check_number N A.xO
  have G_check_list : FnOk P w K mg base (CXE P w) 2 g_check_list gd_check_list _ (spCheckList K cO) := ok_checkList F_check_list N A.xO m_check_number F_check_number b_check_number
  have G_checked_ways : FnOk P w K mg base (CXE P w) 2 g_checked_ways gd_checked_ways _ (spCheckedWays K cO) := ok_checkedWays F_checked_ways N m_check_number F_check_number b_check_number G_check_number
  have G_pens_in_order : FnOk P w K mg base CX0 3 g_pens_in_order gd_pens_in_order _ (spPio K C) := ok_pio F_pens_in_order N A.PC A.MP iP bP
  have G_pens_by_sheep : FnOk P w K mg base CX0 4 g_pens_by_sheep gd_pens_by_sheep _ (spPbs K C T) := ok_pbs F_pens_by_sheep k18 t18 hbi N A.PC m_pens_in_order F_pens_in_order b_pens_in_order G_pens_in_order
  have G_joined : FnOk P w K mg base CX0 3 g_joined gd_joined _ (spJoined K C) := ok_joined F_joined N A.PC A.MP iP bP
  have G_with_first_joined : FnOk P w K mg base CX0 4 g_with_first_joined gd_with_first_joined _ (spWfj K C) := ok_wfj F_with_first_joined N A.PC m_joined F_joined b_joined G_joined
  have G_least_plan : FnOk P w K mg base CX0 5 g_least_plan gd_least_plan _ (spLp K C T) := ok_lp F_least_plan N m_pens_by_sheep F_pens_by_sheep b_pens_by_sheep G_pens_by_sheep m_with_first_joined F_with_first_joined b_with_first_joined G_with_first_joined
  have G_splits : FnOk P w K mg base CX0 1 g_splits gd_splits _ spSplits := ok_splits F_splits N
  have G_first_least_run := ok_flr (P := P) (w := w) (base := base) F_first_least_run N A.PC m_joined F_joined b_joined G_joined
  have G_with_one_more_run := ok_womr (P := P) (w := w) (base := base) F_with_one_more_run N m_first_least_run F_first_least_run b_first_least_run G_first_least_run m_splits F_splits b_splits G_splits
  have G_least_keeping_order : FnOk P w K mg base CX0 6 g_least_keeping_order gd_least_keeping_order _ (spLko K C) := ok_lko F_least_keeping_order N m_with_one_more_run F_with_one_more_run b_with_one_more_run G_with_one_more_run
  have G_least_plan_in_order : FnOk P w K mg base CX0 7 g_least_plan_in_order gd_least_plan_in_order _ (spLpio K C) := ok_lpio F_least_plan_in_order N m_least_keeping_order F_least_keeping_order b_least_keeping_order G_least_keeping_order m_pens_in_order F_pens_in_order b_pens_in_order G_pens_in_order
  have G_least_plan_within : FnOk P w K mg base CX0 7 g_least_plan_within gd_least_plan_within _ (spLpw K C T) := ok_lpw F_least_plan_within m_least_keeping_order F_least_keeping_order b_least_keeping_order G_least_keeping_order m_pens_by_sheep F_pens_by_sheep b_pens_by_sheep G_pens_by_sheep
  have G_runs_can_be : FnOk P w K mg base CX0 1 g_runs_can_be gd_runs_can_be _ (spRcb K) := ok_rcb F_runs_can_be N
  have G_number_at : FnOk P w K mg base (CXE P w) 1 g_number_at gd_number_at _ (spNumberAt K cN) := ok_numberAt F_number_at N A.xN
  have G_without_way : FnOk P w K mg base CX0 1 g_without_way gd_without_way _ (spWithoutWay K) := ok_withoutWay F_without_way N
  have G_read_pens : FnOk P w K mg base (CXE P w) 2 g_read_pens gd_read_pens _ (spReadPens K cN) := ok_readPens F_read_pens N A.xN m_number_at F_number_at b_number_at m_without_way F_without_way b_without_way
  have G_pens_for_farms : FnOk P w K mg base (CXE P w) 3 g_pens_for_farms gd_pens_for_farms _ (spPff K cN) := ok_pff F_pens_for_farms N A.xN m_read_pens F_read_pens b_read_pens G_read_pens
  have G_with_count : FnOk P w K mg base CX0 1 g_with_count gd_with_count _ spWc := ok_wc F_with_count N
  have G_cost_for : FnOk P w K mg base CX0 1 g_cost_for gd_cost_for _ (spCf K) := ok_cf F_cost_for N
  have G_places_of : FnOk P w K mg base CX0 1 g_places_of gd_places_of _ (spPo K) := ok_po F_places_of N
  have G_pens_with_strangers : FnOk P w K mg base CX0 1 g_pens_with_strangers gd_pens_with_strangers _ spPws := ok_pws F_pens_with_strangers N
  have G_strangers_of : FnOk P w K mg base CX0 1 g_strangers_of gd_strangers_of _ spSo := ok_so F_strangers_of N
  have G_strangers_by_farm : FnOk P w K mg base CX0 2 g_strangers_by_farm gd_strangers_by_farm _ spSbf := ok_sbf F_strangers_by_farm N m_strangers_of F_strangers_of b_strangers_of G_strangers_of
  have G_cost_to_mend : FnOk P w K mg base CX0 6 g_cost_to_mend gd_cost_to_mend _ (spCtm T) := ok_ctm F_cost_to_mend N A.PC m_strangers_by_farm F_strangers_by_farm b_strangers_by_farm G_strangers_by_farm m_pens_with_strangers F_pens_with_strangers b_pens_with_strangers G_pens_with_strangers m_least_plan F_least_plan b_least_plan G_least_plan
  have e_dWays : dWays P w K mg base cO := ⟨_, _, m_checked_ways, F_checked_ways, b_checked_ways, G_checked_ways⟩
  have e_dLp : dLp P w K mg base C T := ⟨_, _, m_least_plan, F_least_plan, b_least_plan, G_least_plan⟩
  have e_dLpio : dLpio P w K mg base C := ⟨_, _, m_least_plan_in_order, F_least_plan_in_order, b_least_plan_in_order, G_least_plan_in_order⟩
  have e_dLpw : dLpw P w K mg base C T := ⟨_, _, m_least_plan_within, F_least_plan_within, b_least_plan_within, G_least_plan_within⟩
  have e_dPff : dPff P w K mg base cN := ⟨_, _, m_pens_for_farms, F_pens_for_farms, b_pens_for_farms, G_pens_for_farms⟩
  have e_dCn : dCn P w K mg base cO := ⟨_, _, m_check_number, F_check_number, b_check_number, G_check_number⟩
  have e_dCl : dCl P w K mg base cO := ⟨_, _, m_check_list, F_check_list, b_check_list, G_check_list⟩
  have e_dRcb : dRcb P w K mg base := ⟨_, _, m_runs_can_be, F_runs_can_be, b_runs_can_be, G_runs_can_be⟩
  have e_dWc : dWc P w K mg base := ⟨_, _, m_with_count, F_with_count, b_with_count, G_with_count⟩
  have e_dCf : dCf P w K mg base := ⟨_, _, m_cost_for, F_cost_for, b_cost_for, G_cost_for⟩
  have e_dPo : dPo P w K mg base := ⟨_, _, m_places_of, F_places_of, b_places_of, G_places_of⟩
  have e_dPws : dPws P w K mg base := ⟨_, _, m_pens_with_strangers, F_pens_with_strangers, b_pens_with_strangers, G_pens_with_strangers⟩
  have e_dSbf : dSbf P w K mg base := ⟨_, _, m_strangers_by_farm, F_strangers_by_farm, b_strangers_by_farm, G_strangers_by_farm⟩
  have e_dCtm : dCtm P w K mg base T := ⟨_, _, m_cost_to_mend, F_cost_to_mend, b_cost_to_mend, G_cost_to_mend⟩
  have hA : ∀ i, i < 20 → ∃ gd : FuncData, FnOk P w K mg base (CXE P w) 8 (fs i) gd ["flock", "told", "given"] (spAns K F T cO cN (ntOf i) (mkc i)) ∧ PySem.W.keepIn K (.ref (fs i)) = true ∧ Binds K gd ["flock", "told", "given"] [] := fun i hi => by
    have h20 : i = 0 ∨ i = 1 ∨ i = 2 ∨ i = 3 ∨ i = 4 ∨ i = 5 ∨ i = 6 ∨ i = 7 ∨ i = 8 ∨ i = 9 ∨ i = 10 ∨ i = 11 ∨ i = 12 ∨ i = 13 ∨ i = 14 ∨ i = 15 ∨ i = 16 ∨ i = 17 ∨ i = 18 ∨ i = 19 := by omega
    rcases h20 with rfl | rfl | rfl | rfl | rfl | rfl | rfl | rfl | rfl | rfl | rfl | rfl | rfl | rfl | rfl | rfl | rfl | rfl | rfl | rfl
    · obtain ⟨gd, i⟩ := AA.a0.ex
      exact ⟨gd, ok_farms i N A.FC B e_dCl, i.kp, i.binds (ps := ["flock", "told", "given"]) fun _ _ _ _ _ _ us hl => match us, hl with | [_, _, _], _ => rfl⟩
    · obtain ⟨gd, i⟩ := AA.a1.ex
      exact ⟨gd, ok_least i A.FC A.PC e_dWays e_dLp, i.kp, i.binds (ps := ["flock", "told", "given"]) fun _ _ _ _ _ _ us hl => match us, hl with | [_, _, _], _ => rfl⟩
    · obtain ⟨gd, i⟩ := AA.a2.ex
      exact ⟨gd, ok_tree i A.FC A.PC e_dWays e_dLp, i.kp, i.binds (ps := ["flock", "told", "given"]) fun _ _ _ _ _ _ us hl => match us, hl with | [_, _, _], _ => rfl⟩
    · obtain ⟨gd, i⟩ := AA.a3.ex
      exact ⟨gd, ok_ordered i A.FC A.PC e_dWays e_dLpio, i.kp, i.binds (ps := ["flock", "told", "given"]) fun _ _ _ _ _ _ us hl => match us, hl with | [_, _, _], _ => rfl⟩
    · obtain ⟨gd, i⟩ := AA.a4.ex
      exact ⟨gd, ok_orderedtree i A.FC A.PC e_dWays e_dLpio, i.kp, i.binds (ps := ["flock", "told", "given"]) fun _ _ _ _ _ _ us hl => match us, hl with | [_, _, _], _ => rfl⟩
    · obtain ⟨gd, i⟩ := AA.a5.ex
      exact ⟨gd, ok_cost i N A.xN A.FC e_dWays e_dPff e_dCf, i.kp, i.binds (ps := ["flock", "told", "given"]) fun _ _ _ _ _ _ us hl => match us, hl with | [_, _, _], _ => rfl⟩
    · obtain ⟨gd, i⟩ := AA.a6.ex
      exact ⟨gd, ok_depths i N A.FC e_dPff e_dWc, i.kp, i.binds (ps := ["flock", "told", "given"]) fun _ _ _ _ _ _ us hl => match us, hl with | [_, _, _], _ => rfl⟩
    · obtain ⟨gd, i⟩ := AA.a7.ex
      exact ⟨gd, ok_canbe i N A.FC e_dWays e_dCl e_dRcb, i.kp, i.binds (ps := ["flock", "told", "given"]) fun _ _ _ _ _ _ us hl => match us, hl with | [_, _, _], _ => rfl⟩
    · obtain ⟨gd, i⟩ := AA.a8.ex
      exact ⟨gd, ok_within i N A.FC A.PC e_dWays e_dCn e_dLpw, i.kp, i.binds (ps := ["flock", "told", "given"]) fun _ _ _ _ _ _ us hl => match us, hl with | [_, _, _], _ => rfl⟩
    · obtain ⟨gd, i⟩ := AA.a9.ex
      exact ⟨gd, ok_sheep i N A.FC e_dCl, i.kp, i.binds (ps := ["flock", "told", "given"]) fun _ _ _ _ _ _ us hl => match us, hl with | [_, _, _], _ => rfl⟩
    · obtain ⟨gd, i⟩ := AA.a10.ex
      exact ⟨gd, ok_shed i N A.FC e_dWc e_dPff e_dPo, i.kp, i.binds (ps := ["flock", "told", "given"]) fun _ _ _ _ _ _ us hl => match us, hl with | [_, _, _], _ => rfl⟩
    · obtain ⟨gd, i⟩ := AA.a11.ex
      exact ⟨gd, ok_walked i N A.FC e_dPff e_dCf, i.kp, i.binds (ps := ["flock", "told", "given"]) fun _ _ _ _ _ _ us hl => match us, hl with | [_, _, _], _ => rfl⟩
    · obtain ⟨gd, i⟩ := AA.a12.ex
      exact ⟨gd, ok_pens i N A.FC e_dCl, i.kp, i.binds (ps := ["flock", "told", "given"]) fun _ _ _ _ _ _ us hl => match us, hl with | [_, _, _], _ => rfl⟩
    · obtain ⟨gd, i⟩ := AA.a13.ex
      exact ⟨gd, ok_mixed i A.FC e_dWc e_dPws e_dSbf, i.kp, i.binds (ps := ["flock", "told", "given"]) fun _ _ _ _ _ _ us hl => match us, hl with | [_, _, _], _ => rfl⟩
    · obtain ⟨gd, i⟩ := AA.a14.ex
      exact ⟨gd, ok_mend i A.FC e_dCtm, i.kp, i.binds (ps := ["flock", "told", "given"]) fun _ _ _ _ _ _ us hl => match us, hl with | [_, _, _], _ => rfl⟩
    · obtain ⟨gd, i⟩ := AA.a15.ex
      exact ⟨gd, ok_told i A.FC e_dWc, i.kp, i.binds (ps := ["flock", "told", "given"]) fun _ _ _ _ _ _ us hl => match us, hl with | [_, _, _], _ => rfl⟩
    · obtain ⟨gd, i⟩ := AA.a16.ex
      exact ⟨gd, ok_row i A.FC e_dWc, i.kp, i.binds (ps := ["flock", "told", "given"]) fun _ _ _ _ _ _ us hl => match us, hl with | [_, _, _], _ => rfl⟩
    · obtain ⟨gd, i⟩ := AA.a17.ex
      exact ⟨gd, ok_pen i N A.FC e_dWc e_dCn, i.kp, i.binds (ps := ["flock", "told", "given"]) fun _ _ _ _ _ _ us hl => match us, hl with | [_, _, _], _ => rfl⟩
    · obtain ⟨gd, i⟩ := AA.a18.ex
      exact ⟨gd, ok_counts i N A.FC, i.kp, i.binds (ps := ["flock", "told", "given"]) fun _ _ _ _ _ _ us hl => match us, hl with | [_, _, _], _ => rfl⟩
    · obtain ⟨gd, i⟩ := AA.a19.ex
      exact ⟨gd, ok_clear i N A.FC B A.A1, i.kp, i.binds (ps := ["flock", "told", "given"]) fun _ _ _ _ _ _ us hl => match us, hl with | [_, _, _], _ => rfl⟩
  have hch : ∀ i, ∃ gd : FuncData, i < 20 → FnOk P w K mg base (CXE P w) 8 (fs i) gd ["flock", "told", "given"] (spAns K F T cO cN (ntOf i) (mkc i)) ∧ PySem.W.keepIn K (.ref (fs i)) = true ∧ Binds K gd ["flock", "told", "given"] [] := fun i => by
    by_cases hi : i < 20
    · obtain ⟨gd, h⟩ := hA i hi
      exact ⟨gd, fun _ => h⟩
    · exact ⟨gd_check_number, fun z => absurd z hi⟩
  have G46 := ok_call (P := P) (w := w) (base := base) (fds := fun i => (hch i).choose) F_answer_call N A.xO A.xN A.ne TB (fun i hi => ((hch i).choose_spec hi).1) (fun i hi => ((hch i).choose_spec hi).2.1) fun i hi => ((hch i).choose_spec hi).2.2
  exact ⟨_, _, m_answer_from, F_answer_from, b_answer_from, ok_from F_answer_from A.LC (ok_taken iT A.LC) bT TB ⟨_, _, m_answer_call, F_answer_call, b_answer_call, G46⟩ A.FL⟩
theorem all_answers (A : Facts K mg cO cN C F T L gT gF gL gP gB) (hbi : base.BuiltinsAt mg T) (TB : Tables K mg 20 fs) (AA : AnsAt K fs) {f : Addr} {fd : FuncData} (F48 : Fun K "answers" "answers" sAnswers f fd) :
    FnOk P w K mg base CX0 11 f fd ["calls"] (spAnswers K T) := by
  obtain ⟨gdF, iF⟩ := A.iF.ex
  have bF := iF.binds (ps := ["self"]) fun _ _ _ _ _ _ us hl => match us, hl with | [_], _ => rfl
  obtain ⟨gdL, iL⟩ := A.iL.ex
  have bL := iL.binds (ps := ["self", "calls"]) fun _ _ _ _ _ _ us hl => match us, hl with | [_, _], _ => rfl
  obtain ⟨gdB, iB⟩ := A.iB.ex
  have bB := iB.binds (ps := ["self", "farms"]) fun _ _ _ _ _ _ us hl => match us, hl with | [_, _], _ => rfl
  have B : Begins P w K mg base F gB := ⟨A.mB, gdB, bB, ok_beginL iB A.N A.FC, ok_beginT iB A.N A.FC⟩
  exact ok_answers F48 A.N A.FC A.LC A.FL A.MF (ok_flockInit iF A.FC B A.A1) bF A.ML (ok_lineInit iL A.LC) bL (all_from A hbi TB AA)
end
end Shed
end
section
set_option Elab.async false
set_option linter.all false
set_option maxRecDepth 100000
set_option maxHeartbeats 2000000
namespace Shed
open PySem PySem.Spec PyProof.Rows L2
open PySem.W (nsIn findIn isFn keepIn)
section
variable {P : Program} {w : World} {K : PySem.W.Frag} {h : Heap} {mg : Str → Option Value} {cO cN C F T L gT gF gL gP gB : Addr} {fs : Nat → Addr}
theorem names_mk (X : K.In h) (G : h.Ns mainGlobals mg) {t0 t1 t2 t3 t4 t5 t6 : Tok} (a1 : nsIn K mainGlobals "OutOfRange" = some (some (.ref cO))) (a2 : nsIn K mainGlobals "NotAPlan" = some (some (.ref cN))) (i0 : nsIn K mainGlobals "FEWEST_WAYS" = some (some (.int 2 t0))) (i1 : nsIn K mainGlobals "MOST_WAYS" = some (some (.int 3 t1))) (i2 : nsIn K mainGlobals "MOST_FARMS" = some (some (.int 8 t2))) (i3 : nsIn K mainGlobals "MOST_SHEEP_OF_A_FARM" = some (some (.int 1000 t3))) (i4 : nsIn K mainGlobals "MOST_RUNS" = some (some (.int 8 t4))) (i5 : nsIn K mainGlobals "LONGEST_ROW" = some (some (.int 40 t5))) (i6 : nsIn K mainGlobals "MOST_OF_A_FARM_IN_A_PEN" = some (some (.int 1000 t6))) (n0 : nsIn K mainGlobals "len" = some none) (n1 : nsIn K mainGlobals "range" = some none) (n2 : nsIn K mainGlobals "list" = some none) (n3 : nsIn K mainGlobals "sum" = some none) (n4 : nsIn K mainGlobals "all" = some none) (n5 : nsIn K mainGlobals "sorted" = some none) (n6 : nsIn K mainGlobals "enumerate" = some none) : Names mg cO cN :=
  ⟨PySem.W.mg_of X G a1, PySem.W.mg_of X G a2, ⟨_, PySem.W.mg_of X G i0⟩, ⟨_, PySem.W.mg_of X G i1⟩, ⟨_, PySem.W.mg_of X G i2⟩, ⟨_, PySem.W.mg_of X G i3⟩, ⟨_, PySem.W.mg_of X G i4⟩, ⟨_, PySem.W.mg_of X G i5⟩, ⟨_, PySem.W.mg_of X G i6⟩, PySem.W.mg_none_of X G n0, PySem.W.mg_none_of X G n1, PySem.W.mg_none_of X G n2, PySem.W.mg_none_of X G n3, PySem.W.mg_none_of X G n4, PySem.W.mg_none_of X G n5, PySem.W.mg_none_of X G n6⟩
def addrs (f0 f1 f2 f3 f4 f5 f6 f7 f8 f9 f10 f11 f12 f13 f14 f15 f16 f17 f18 f19 : Addr) : Nat → Addr := fun i => [f0, f1, f2, f3, f4, f5, f6, f7, f8, f9, f10, f11, f12, f13, f14, f15, f16, f17, f18, f19].getD i 0
theorem nts : (List.range 20).map ntOf = [0, 1, 1, 1, 1, 1, 0, 1, 2, 0, 0, 0, 0, 0, 0, 0, 0, 1, 0, 0] := by decide +kernel
theorem nls : (List.range 20).map nlOf = [1, 0, 0, 0, 0, 1, 1, 1, 0, 1, 1, 1, 1, 0, 0, 0, 0, 0, 0, 0] := by decide +kernel
theorem tables_mk (X : K.In h) (G : h.Ns mainGlobals mg) {ta tb tc f0 f1 f2 f3 f4 f5 f6 f7 f8 f9 f10 f11 f12 f13 f14 f15 f16 f17 f18 f19 : Addr} {u0 v0 u1 v1 u2 v2 u3 v3 u4 v4 u5 v5 u6 v6 u7 v7 u8 v8 u9 v9 u10 v10 u11 v11 u12 v12 u13 v13 u14 v14 u15 v15 u16 v16 u17 v17 u18 v18 u19 v19 x1 x2 : Tok} {oa ob oc : Option Addr} {na nb nc : Nat} {sa sb sc : Array (Option Value)}
    (aA : nsIn K mainGlobals "ANSWERERS" = some (some (.ref ta))) (lA : K.lookup ta = some ⟨.type "tuple", oa, .seq #[.ref f0, .ref f1, .ref f2, .ref f3, .ref f4, .ref f5, .ref f6, .ref f7, .ref f8, .ref f9, .ref f10, .ref f11, .ref f12, .ref f13, .ref f14, .ref f15, .ref f16, .ref f17, .ref f18, .ref f19] na, sa⟩)
    (aW : nsIn K mainGlobals "WHOLE_NUMBERS" = some (some (.ref tb))) (lW : K.lookup tb = some ⟨.type "tuple", ob, .seq #[.int 0 u0, .int 1 u1, .int 1 u2, .int 1 u3, .int 1 u4, .int 1 u5, .int 0 u6, .int 1 u7, .int 2 u8, .int 0 u9, .int 0 u10, .int 0 u11, .int 0 u12, .int 0 u13, .int 0 u14, .int 0 u15, .int 0 u16, .int 1 u17, .int 0 u18, .int 0 u19] nb, sb⟩)
    (aL : nsIn K mainGlobals "LISTS" = some (some (.ref tc))) (lL : K.lookup tc = some ⟨.type "tuple", oc, .seq #[.int 1 v0, .int 0 v1, .int 0 v2, .int 0 v3, .int 0 v4, .int 1 v5, .int 1 v6, .int 1 v7, .int 0 v8, .int 1 v9, .int 1 v10, .int 1 v11, .int 1 v12, .int 0 v13, .int 0 v14, .int 0 v15, .int 0 v16, .int 0 v17, .int 0 v18, .int 0 v19] nc, sc⟩)
    (aO : nsIn K mainGlobals "OUT_OF_RANGE" = some (some (.int (-1) x1))) (aN : nsIn K mainGlobals "NOT_A_PLAN" = some (some (.int (-7) x2))) : Tables K mg 20 (addrs f0 f1 f2 f3 f4 f5 f6 f7 f8 f9 f10 f11 f12 f13 f14 f15 f16 f17 f18 f19) := by
  have hl : (20 : Nat) ≤ sizeLine := by decide
  refine ⟨⟨ta, PySem.W.mg_of X G aA, fun H => .inr ⟨_, _, na, lA, rfl, rfl, hl, ?_⟩⟩, ⟨tb, PySem.W.mg_of X G aW, fun H => .inr ⟨_, _, nb, lW, rfl, rfl, hl, ?_⟩⟩, ⟨tc, PySem.W.mg_of X G aL, fun H => .inr ⟨_, _, nc, lL, rfl, rfl, hl, ?_⟩⟩, ⟨_, PySem.W.mg_of X G aO⟩, ⟨_, PySem.W.mg_of X G aN⟩⟩
  · show Vals [V.ref f0, V.ref f1, V.ref f2, V.ref f3, V.ref f4, V.ref f5, V.ref f6, V.ref f7, V.ref f8, V.ref f9, V.ref f10, V.ref f11, V.ref f12, V.ref f13, V.ref f14, V.ref f15, V.ref f16, V.ref f17, V.ref f18, V.ref f19] [.ref f0, .ref f1, .ref f2, .ref f3, .ref f4, .ref f5, .ref f6, .ref f7, .ref f8, .ref f9, .ref f10, .ref f11, .ref f12, .ref f13, .ref f14, .ref f15, .ref f16, .ref f17, .ref f18, .ref f19]
    exact .cons rfl (.cons rfl (.cons rfl (.cons rfl (.cons rfl (.cons rfl (.cons rfl (.cons rfl (.cons rfl (.cons rfl (.cons rfl (.cons rfl (.cons rfl (.cons rfl (.cons rfl (.cons rfl (.cons rfl (.cons rfl (.cons rfl (.cons rfl .nil)))))))))))))))))))
  · rw [show ((List.range 20).map fun i => nV (ntOf i)) = ((List.range 20).map ntOf).map nV from by rw [List.map_map]; rfl, nts]
    exact .cons ⟨_, rfl⟩ (.cons ⟨_, rfl⟩ (.cons ⟨_, rfl⟩ (.cons ⟨_, rfl⟩ (.cons ⟨_, rfl⟩ (.cons ⟨_, rfl⟩ (.cons ⟨_, rfl⟩ (.cons ⟨_, rfl⟩ (.cons ⟨_, rfl⟩ (.cons ⟨_, rfl⟩ (.cons ⟨_, rfl⟩ (.cons ⟨_, rfl⟩ (.cons ⟨_, rfl⟩ (.cons ⟨_, rfl⟩ (.cons ⟨_, rfl⟩ (.cons ⟨_, rfl⟩ (.cons ⟨_, rfl⟩ (.cons ⟨_, rfl⟩ (.cons ⟨_, rfl⟩ (.cons ⟨_, rfl⟩ .nil)))))))))))))))))))
  · rw [show ((List.range 20).map fun i => nV (nlOf i)) = ((List.range 20).map nlOf).map nV from by rw [List.map_map]; rfl, nls]
    exact .cons ⟨_, rfl⟩ (.cons ⟨_, rfl⟩ (.cons ⟨_, rfl⟩ (.cons ⟨_, rfl⟩ (.cons ⟨_, rfl⟩ (.cons ⟨_, rfl⟩ (.cons ⟨_, rfl⟩ (.cons ⟨_, rfl⟩ (.cons ⟨_, rfl⟩ (.cons ⟨_, rfl⟩ (.cons ⟨_, rfl⟩ (.cons ⟨_, rfl⟩ (.cons ⟨_, rfl⟩ (.cons ⟨_, rfl⟩ (.cons ⟨_, rfl⟩ (.cons ⟨_, rfl⟩ (.cons ⟨_, rfl⟩ (.cons ⟨_, rfl⟩ (.cons ⟨_, rfl⟩ (.cons ⟨_, rfl⟩ .nil)))))))))))))))))))
theorem atFirst_mk (X : K.In h) (G : h.Ns mainGlobals mg) {ta : Addr} {u : Tok} {oa : Option Addr} {na : Nat} {sa : Array (Option Value)} (a : nsIn K mainGlobals "FARMS_AT_FIRST" = some (some (.ref ta))) (l : K.lookup ta = some ⟨.type "tuple", oa, .seq #[.int 0 u] na, sa⟩) : AtFirst K mg :=
  ⟨ta, PySem.W.mg_of X G a, fun H => .inr ⟨_, _, na, l, rfl, rfl, by show 1 ≤ sizeLine; decide, .cons ⟨_, rfl⟩ .nil⟩⟩
theorem flock_mk (X : K.In h) (G : h.Ns mainGlobals mg) (a : nsIn K mainGlobals "Flock" = some (some (.ref F))) (c : Cls K F) (n1 : findIn K (.ref F) "farms" = some none) (n2 : findIn K (.ref F) "row" = some none) (n3 : findIn K (.ref F) "pens" = some none) : FlockCls K mg F :=
  ⟨c, n1, n2, n3, PySem.W.mg_of X G a⟩
theorem plan_mk (X : K.In h) (G : h.Ns mainGlobals mg) (a : nsIn K mainGlobals "Plan" = some (some (.ref C))) (c : Cls K C) (n1 : findIn K (.ref C) "sheep" = some none) (n2 : findIn K (.ref C) "cost" = some none) (n3 : findIn K (.ref C) "numbers" = some none) : PlanCls K mg C :=
  ⟨c, n1, n2, n3, PySem.W.mg_of X G a⟩
theorem line_mk (X : K.In h) (G : h.Ns mainGlobals mg) (a : nsIn K mainGlobals "Line" = some (some (.ref L))) (c : Cls K L) (n1 : findIn K (.ref L) "calls" = some none) (n2 : findIn K (.ref L) "place" = some none) (m1 : findIn K (.ref L) "taken" = some (some (.ref gT))) (m2 : isFn K (.ref gT) = true) (m3 : keepIn K (.ref gT) = true) : LineCls K mg L gT :=
  ⟨c, n1, n2, PySem.W.mg_of X G a, ⟨m1, m2, m3⟩⟩
theorem xcls_mk {nm q : Str} {N : Addr} {bs : List Value} {hdct : Bool} {sn : List Str} {sub : List Value} {ab : Bool} {col : Option Bool} {dd : Option Addr} {k0 k1 k2 k3 k5 : Option Value} (l : K.lookup cO = some (excClassObj nm q cO N bs excBM hdct sn sub ab col dd k0 k1 k2 k3 k5 "Exception.__new__")) (n : PySem.W.nsOkIn K N = true) (i : nsIn K N "__init__" = some none) : XCls K cO :=
  ⟨nm, q, N, bs, hdct, sn, sub, ab, col, dd, k0, k1, k2, k3, k5, l, n, i⟩
theorem nsOk_mk {N : Addr} {c : Value} {o : Option Addr} {es : Array DictEntry} {n : Nat} {sl : Array (Option Value)} (l : K.lookup N = some ⟨c, o, .dict es n, sl⟩) (e : (es.toList.all fun e => match e.key with | .str _ _ => true | _ => false) = true) : PySem.W.nsOkIn K N = true := by
  unfold PySem.W.nsOkIn
  rw [l]
  show (es.all _) = true
  rw [← Array.all_toList]
  exact e
theorem tabIn_mk {x : Str} {f c Q : Addr} {o1 o2 : Option Addr} {c1 c2 : Value} {fd : FuncData} {s1 s2 : Array (Option Value)} {vs : Array Value} (a : nsIn K mainGlobals x = some (some (.ref f))) (l : K.lookup f = some ⟨c1, o1, .func fd, s1⟩) (hc : fd.code = .ref c) (l2 : K.lookup c = some ⟨c2, o2, .fields vs, s2⟩) (e : (vs[11]? : Option Value) = some (.ref Q)) : PySem.W.tabIn K x = some (c, Q) := by
  unfold PySem.W.tabIn
  rw [a]
  dsimp only
  rw [l]
  dsimp only
  rw [hc]
  dsimp only
  rw [l2]
  dsimp only
  rw [e]
theorem all_mk {fa f3 : Addr} {oc3 kV3 dc3 pm3 cd3 ct3 : Value} {od3 an3 : Option Addr} {sl3 : Array (Option Value)} (X : K.In h) (G : h.Ns mainGlobals mg) (hfa : mg "answers" = some (.ref fa)) (A : Facts K mg cO cN C F T L gT gF gL gP gB) (TB : Tables K mg 20 fs) (AA : AnsAt K fs)
    (a3 : nsIn K mainGlobals "answers" = some (some (.ref f3))) (l3 : K.lookup f3 = some ⟨oc3, od3, .func (PySem.W.fnOf "answers" "answers" (defArgs sAnswers) (defBody sAnswers) (defScope sAnswers) .none kV3 dc3 pm3 an3 cd3 ct3), sl3⟩) (c3 : PySem.W.codeIn K cd3 "answers" = true) (k3 : keepIn K (.ref f3) = true) :
    ∃ fd : FuncData, (∀ (s : Shared) (us : List Value), us.length = (["calls"] : List Str).length → BindsTo s fd ⟨us, []⟩ ((["calls"] : List Str).zip us)) ∧ ∀ base : Heap, K.In base → base.Ns mainGlobals mg → base.BuiltinsAt mg T → FnOk P w K mg base CX0 11 fa fd ["calls"] (spAnswers K T) := by
  have e := hfa.symm.trans (PySem.W.mg_of X G a3)
  cases e
  have F3 := fun_mk (st := sAnswers) l3 c3 k3
  exact ⟨PySem.W.fnOf "answers" "answers" (defArgs sAnswers) (defBody sAnswers) (defScope sAnswers) .none kV3 dc3 pm3 an3 cd3 ct3, fun s us hu => match us, hu with | [_], _ => .of_eq rfl, fun base _ _ hbi => all_answers A hbi TB AA F3⟩
end
end Shed
end
section
open PySem PySem.W PyProof.Rows
set_option Elab.async false
set_option linter.all false
theorem PySem.W.Fast.tw11344991212837161457 : True := True.intro
theorem PySem.W.Fast.tw15403338546422321353 : True := True.intro
theorem PySem.W.Fast.tw12361459313235673928 : True := True.intro
theorem PySem.W.Fast.tw4061747637907089863 : True := True.intro
theorem PySem.W.Fast.tw869532391081054774 : True := True.intro
theorem PySem.W.Fast.tw11857647881909879859 : True := True.intro
theorem PySem.W.Fast.tw7368310588283288776 : True := True.intro
theorem PySem.W.Fast.tw13896557201819716658 : True := True.intro
theorem PySem.W.Fast.tw3587484077192488608 : True := True.intro
theorem PySem.W.Fast.tw7697766591383670922 : True := True.intro
theorem PySem.W.Fast.tw13487716597278674040 : True := True.intro
theorem PySem.W.Fast.tw4185024813846717269 : True := True.intro
theorem PySem.W.Fast.tw11987514913371435758 : True := True.intro
theorem PySem.W.Fast.tw3429805369953780778 : True := True.intro
theorem PySem.W.Fast.tw6395541099074926731 : True := True.intro
set_option maxRecDepth 100000 in
set_option maxHeartbeats 0 in
theorem PySem.Challenge.cw_sheepgates_s01_answers_holds : PySem.Challenge.rw_sheepgates_s01_answers.Holds := by
  w_on; k_headS; (case hw => exact ⟨[.list [.int 18]], by decide +kernel, by decide +kernel⟩)
  k_fillS
  refine' L2.walk_tab (r := PySem.Challenge.rw_sheepgates_s01_answers) (k := 11) (CX := fun _ => L2.CX0) (ps := ["calls"]) (sp := fun K => Shed.spAnswers K _) (x := "pens_by_sheep") (by decide +kernel) rfl rfl ⟨rfl, by decide, by decide⟩ (fun w h Y => PySem.W.kIn_of Y) rfl ?q_T ?q_KT ?q_F ?q_S (fun _ _ _ _ _ z => z)
  case q_T =>
    intro p
    refine' Shed.tabIn_mk ?a ?l ?c ?m ?e
    (case a => k_is); (case l => k_is); (case c => exact rfl); (case m => k_is); (case e => exact rfl)
  case q_KT =>
    intro p
    exact rfl
  case q_F =>
    intro w mg fa h Y KX G hmg
    refine' Shed.all_mk KX G hmg ?q_A ?q_TB ?q_AA ?q_a3 ?q_l3 ?q_c3 ?q_k3
    case q_A =>
      refine' Shed.Facts.mk ?q_N ?q_xO ?q_xN ?q_ne ?q_FC ?q_MF ?q_iF ?q_mB ?q_iB ?q_A1 ?q_PC ?q_MP ?q_iP ?q_LC ?q_ML ?q_iL ?q_iT ?q_FL ?q_tp ?t_check_number ?t_check_list ?t_checked_ways ?t_pens_in_order ?t_joined ?t_with_first_joined ?t_least_plan ?t_splits ?t_first_least_run ?t_with_one_more_run ?t_least_keeping_order ?t_least_plan_in_order ?t_least_plan_within ?t_runs_can_be ?t_number_at ?t_without_way ?t_read_pens ?t_pens_for_farms ?t_with_count ?t_cost_for ?t_places_of ?t_pens_with_strangers ?t_strangers_of ?t_strangers_by_farm ?t_cost_to_mend ?t_answer_call ?t_answer_from
      case q_N =>
        refine' Shed.names_mk KX G ?a1 ?a2 ?i0 ?i1 ?i2 ?i3 ?i4 ?i5 ?i6 ?n0 ?n1 ?n2 ?n3 ?n4 ?n5 ?n6
        (case a1 => k_is); (case a2 => k_is); (case i0 => k_is); (case i1 => k_is); (case i2 => k_is); (case i3 => k_is); (case i4 => k_is); (case i5 => k_is); (case i6 => k_is); (case n0 => k_is); (case n1 => k_is); (case n2 => k_is); (case n3 => k_is); (case n4 => k_is); (case n5 => k_is); (case n6 => k_is)
      case q_xO => (refine' Shed.xcls_mk ?l ?n ?i; (case l => k_is); (case n => refine' Shed.nsOk_mk ?nl ?ne; (case nl => k_is); (case ne => exact rfl)); (case i => k_is))
      case q_xN => (refine' Shed.xcls_mk ?l ?n ?i; (case l => k_is); (case n => refine' Shed.nsOk_mk ?nl ?ne; (case nl => k_is); (case ne => exact rfl)); (case i => k_is))
      case q_ne => decide
      case q_FC =>
        refine' Shed.flock_mk KX G ?a ?c ?n1 ?n2 ?n3
        (case a => k_is); (case c => (refine' L2.cls_of ?ca ?cl ?cc ?ck; (case ca => k_is); (case cl => k_is); (case cc => k_is); (case ck => k_is))); (case n1 => k_is); (case n2 => k_is); (case n3 => k_is)
      case q_MF => (refine' L2.Mk.mk ?a ?l ?c ?k; (case a => k_is); (case l => k_is); (case c => k_is); (case k => k_is))
      case q_iF => (refine' L2.HasAt.of ?l ?c ?k; (case l => k_is); (case c => k_is); (case k => k_is))
      case q_mB =>
        refine' L2.Meth.mk ?a ?f ?k
        (case a => k_is); (case f => k_is); (case k => k_is)
      case q_iB => (refine' L2.HasAt.of ?l ?c ?k; (case l => k_is); (case c => k_is); (case k => k_is))
      case q_A1 =>
        refine' Shed.atFirst_mk KX G ?a ?l
        (case a => k_is); (case l => k_is)
      case q_PC =>
        refine' Shed.plan_mk KX G ?a ?c ?n1 ?n2 ?n3
        (case a => k_is); (case c => (refine' L2.cls_of ?ca ?cl ?cc ?ck; (case ca => k_is); (case cl => k_is); (case cc => k_is); (case ck => k_is))); (case n1 => k_is); (case n2 => k_is); (case n3 => k_is)
      case q_MP => (refine' L2.Mk.mk ?a ?l ?c ?k; (case a => k_is); (case l => k_is); (case c => k_is); (case k => k_is))
      case q_iP => (refine' L2.HasAt.of ?l ?c ?k; (case l => k_is); (case c => k_is); (case k => k_is))
      case q_LC =>
        refine' Shed.line_mk KX G ?a ?c ?n1 ?n2 ?m1 ?m2 ?m3
        (case a => k_is); (case c => (refine' L2.cls_of ?ca ?cl ?cc ?ck; (case ca => k_is); (case cl => k_is); (case cc => k_is); (case ck => k_is))); (case n1 => k_is); (case n2 => k_is); (case m1 => k_is); (case m2 => k_is); (case m3 => k_is)
      case q_ML => (refine' L2.Mk.mk ?a ?l ?c ?k; (case a => k_is); (case l => k_is); (case c => k_is); (case k => k_is))
      case q_iL => (refine' L2.HasAt.of ?l ?c ?k; (case l => k_is); (case c => k_is); (case k => k_is))
      case q_iT => (refine' L2.HasAt.of ?l ?c ?k; (case l => k_is); (case c => k_is); (case k => k_is))
      case q_FL => decide
      case q_tp =>
        refine' L2.HasTab.of KX G ?a ?l ?c ?k ?t
        (case a => k_is); (case l => k_is); (case c => k_is); (case k => k_is); (case t => exact rfl)
      case t_check_number => (refine' L2.HasDef.of KX G ?a ?l ?c ?k; (case a => k_is); (case l => k_is); (case c => k_is); (case k => k_is))
      case t_check_list => (refine' L2.HasDef.of KX G ?a ?l ?c ?k; (case a => k_is); (case l => k_is); (case c => k_is); (case k => k_is))
      case t_checked_ways => (refine' L2.HasDef.of KX G ?a ?l ?c ?k; (case a => k_is); (case l => k_is); (case c => k_is); (case k => k_is))
      case t_pens_in_order => (refine' L2.HasDef.of KX G ?a ?l ?c ?k; (case a => k_is); (case l => k_is); (case c => k_is); (case k => k_is))
      case t_joined => (refine' L2.HasDef.of KX G ?a ?l ?c ?k; (case a => k_is); (case l => k_is); (case c => k_is); (case k => k_is))
      case t_with_first_joined => (refine' L2.HasDef.of KX G ?a ?l ?c ?k; (case a => k_is); (case l => k_is); (case c => k_is); (case k => k_is))
      case t_least_plan => (refine' L2.HasDef.of KX G ?a ?l ?c ?k; (case a => k_is); (case l => k_is); (case c => k_is); (case k => k_is))
      case t_splits => (refine' L2.HasDef.of KX G ?a ?l ?c ?k; (case a => k_is); (case l => k_is); (case c => k_is); (case k => k_is))
      case t_first_least_run => (refine' L2.HasDef.of KX G ?a ?l ?c ?k; (case a => k_is); (case l => k_is); (case c => k_is); (case k => k_is))
      case t_with_one_more_run => (refine' L2.HasDef.of KX G ?a ?l ?c ?k; (case a => k_is); (case l => k_is); (case c => k_is); (case k => k_is))
      case t_least_keeping_order => (refine' L2.HasDef.of KX G ?a ?l ?c ?k; (case a => k_is); (case l => k_is); (case c => k_is); (case k => k_is))
      case t_least_plan_in_order => (refine' L2.HasDef.of KX G ?a ?l ?c ?k; (case a => k_is); (case l => k_is); (case c => k_is); (case k => k_is))
      case t_least_plan_within => (refine' L2.HasDef.of KX G ?a ?l ?c ?k; (case a => k_is); (case l => k_is); (case c => k_is); (case k => k_is))
      case t_runs_can_be => (refine' L2.HasDef.of KX G ?a ?l ?c ?k; (case a => k_is); (case l => k_is); (case c => k_is); (case k => k_is))
      case t_number_at => (refine' L2.HasDef.of KX G ?a ?l ?c ?k; (case a => k_is); (case l => k_is); (case c => k_is); (case k => k_is))
      case t_without_way => (refine' L2.HasDef.of KX G ?a ?l ?c ?k; (case a => k_is); (case l => k_is); (case c => k_is); (case k => k_is))
      case t_read_pens => (refine' L2.HasDef.of KX G ?a ?l ?c ?k; (case a => k_is); (case l => k_is); (case c => k_is); (case k => k_is))
      case t_pens_for_farms => (refine' L2.HasDef.of KX G ?a ?l ?c ?k; (case a => k_is); (case l => k_is); (case c => k_is); (case k => k_is))
      case t_with_count => (refine' L2.HasDef.of KX G ?a ?l ?c ?k; (case a => k_is); (case l => k_is); (case c => k_is); (case k => k_is))
      case t_cost_for => (refine' L2.HasDef.of KX G ?a ?l ?c ?k; (case a => k_is); (case l => k_is); (case c => k_is); (case k => k_is))
      case t_places_of => (refine' L2.HasDef.of KX G ?a ?l ?c ?k; (case a => k_is); (case l => k_is); (case c => k_is); (case k => k_is))
      case t_pens_with_strangers => (refine' L2.HasDef.of KX G ?a ?l ?c ?k; (case a => k_is); (case l => k_is); (case c => k_is); (case k => k_is))
      case t_strangers_of => (refine' L2.HasDef.of KX G ?a ?l ?c ?k; (case a => k_is); (case l => k_is); (case c => k_is); (case k => k_is))
      case t_strangers_by_farm => (refine' L2.HasDef.of KX G ?a ?l ?c ?k; (case a => k_is); (case l => k_is); (case c => k_is); (case k => k_is))
      case t_cost_to_mend => (refine' L2.HasDef.of KX G ?a ?l ?c ?k; (case a => k_is); (case l => k_is); (case c => k_is); (case k => k_is))
      case t_answer_call => (refine' L2.HasDef.of KX G ?a ?l ?c ?k; (case a => k_is); (case l => k_is); (case c => k_is); (case k => k_is))
      case t_answer_from => (refine' L2.HasDef.of KX G ?a ?l ?c ?k; (case a => k_is); (case l => k_is); (case c => k_is); (case k => k_is))
    case q_TB =>
      refine' Shed.tables_mk KX G ?aA ?lA ?aW ?lW ?aL ?lL ?aO ?aN
      (case aA => k_is); (case lA => k_is); (case aW => k_is); (case lW => k_is); (case aL => k_is); (case lL => k_is); (case aO => k_is); (case aN => k_is)
    case q_AA =>
      refine' Shed.AnsAt.mk ?z_0 ?z_1 ?z_2 ?z_3 ?z_4 ?z_5 ?z_6 ?z_7 ?z_8 ?z_9 ?z_10 ?z_11 ?z_12 ?z_13 ?z_14 ?z_15 ?z_16 ?z_17 ?z_18 ?z_19
      (case z_0 => (refine' L2.HasAt.of ?l ?c ?k; (case l => k_is); (case c => k_is); (case k => k_is)))
      (case z_1 => (refine' L2.HasAt.of ?l ?c ?k; (case l => k_is); (case c => k_is); (case k => k_is)))
      (case z_2 => (refine' L2.HasAt.of ?l ?c ?k; (case l => k_is); (case c => k_is); (case k => k_is)))
      (case z_3 => (refine' L2.HasAt.of ?l ?c ?k; (case l => k_is); (case c => k_is); (case k => k_is)))
      (case z_4 => (refine' L2.HasAt.of ?l ?c ?k; (case l => k_is); (case c => k_is); (case k => k_is)))
      (case z_5 => (refine' L2.HasAt.of ?l ?c ?k; (case l => k_is); (case c => k_is); (case k => k_is)))
      (case z_6 => (refine' L2.HasAt.of ?l ?c ?k; (case l => k_is); (case c => k_is); (case k => k_is)))
      (case z_7 => (refine' L2.HasAt.of ?l ?c ?k; (case l => k_is); (case c => k_is); (case k => k_is)))
      (case z_8 => (refine' L2.HasAt.of ?l ?c ?k; (case l => k_is); (case c => k_is); (case k => k_is)))
      (case z_9 => (refine' L2.HasAt.of ?l ?c ?k; (case l => k_is); (case c => k_is); (case k => k_is)))
      (case z_10 => (refine' L2.HasAt.of ?l ?c ?k; (case l => k_is); (case c => k_is); (case k => k_is)))
      (case z_11 => (refine' L2.HasAt.of ?l ?c ?k; (case l => k_is); (case c => k_is); (case k => k_is)))
      (case z_12 => (refine' L2.HasAt.of ?l ?c ?k; (case l => k_is); (case c => k_is); (case k => k_is)))
      (case z_13 => (refine' L2.HasAt.of ?l ?c ?k; (case l => k_is); (case c => k_is); (case k => k_is)))
      (case z_14 => (refine' L2.HasAt.of ?l ?c ?k; (case l => k_is); (case c => k_is); (case k => k_is)))
      (case z_15 => (refine' L2.HasAt.of ?l ?c ?k; (case l => k_is); (case c => k_is); (case k => k_is)))
      (case z_16 => (refine' L2.HasAt.of ?l ?c ?k; (case l => k_is); (case c => k_is); (case k => k_is)))
      (case z_17 => (refine' L2.HasAt.of ?l ?c ?k; (case l => k_is); (case c => k_is); (case k => k_is)))
      (case z_18 => (refine' L2.HasAt.of ?l ?c ?k; (case l => k_is); (case c => k_is); (case k => k_is)))
      (case z_19 => (refine' L2.HasAt.of ?l ?c ?k; (case l => k_is); (case c => k_is); (case k => k_is)))
    (case q_a3 => k_is); (case q_l3 => k_is); (case q_c3 => k_is); (case q_k3 => k_is)
  case q_S =>
    intro K H0 H xs a sm hT hwi hask hx
    cases hx with
    | cons h1 h2 =>
      cases h2
      cases h1 with
      | lst hs ha =>
        have e := L2.ints_dw a.1 _ ha
        subst e
        exact ⟨_, a.1, rfl, sm.seq hs, hask, .inl hT, fun H' l _ _ hl => .lst (L2.SqL.of hl) (L2.dw_ints _)⟩
#print axioms PySem.Challenge.cw_sheepgates_s01_answers_holds
end
