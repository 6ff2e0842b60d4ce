import PyProof.Rows.All
import Wide.All
import OpenK.AllK
import Wide.FinOn
import Lean
import PyProof.EqAt
import PyProof.EqKinds
import PyProof.TupleCall
import PyProof.NeKinds
import PySem.Challenge.RW_laidwords_k11_books_written
set_option Elab.async false
set_option linter.all false
set_option maxRecDepth 100000
set_option maxHeartbeats 4000000
local macro_rules | `(tactic| omega) => `(tactic| first | with_reducible assumption | with_reducible exact Nat.le_refl _ | with_reducible exact Nat.zero_le _ | with_reducible exact Int.natCast_nonneg _ | with_reducible exact Nat.le_of_lt (by assumption) | with_reducible exact Nat.le_trans (by assumption) (by decide) | with_reducible exact Nat.lt_of_le_of_lt (by assumption) (by decide) | with_reducible exact Nat.lt_of_lt_of_le (by assumption) (by assumption) | with_reducible exact Nat.lt_of_le_of_lt (by assumption) (by assumption) | with_reducible exact Nat.le_trans (by assumption) (by assumption) | with_reducible exact Int.ofNat_lt.mpr (by assumption) | with_reducible exact Int.ofNat_le.mpr (by assumption) | lia | fail)
namespace L2
open PySem PySem.Spec PyProof.Rows
abbrev Key := Sum Int Str
def keyIs : Key → Value → Bool
  | .inl k, v => Value.isInt k v
  | .inr x, v => Value.isStrOf x v
def keyH (w : World) : Key → Int
  | .inl k => hashInt k
  | .inr x => hashStr w x
theorem keyIs_shape : ∀ {k : Key} {v : Value}, keyIs k v = true → (∃ i t, k = Sum.inl i ∧ v = Value.int i t) ∨ (∃ x t, k = Sum.inr x ∧ v = Value.str x t)
  | .inl i, v, h => by
    obtain ⟨t, e⟩ := Value.isInt_shape (k := i) (v := v) h
    exact .inl ⟨i, t, rfl, e⟩
  | .inr x, v, h => by
    obtain ⟨t, e⟩ := Value.isStrOf_shape (x := x) (v := v) h
    exact .inr ⟨x, t, rfl, e⟩
theorem key_ll (a b : Int) : decide ((Sum.inl a : Key) = Sum.inl b) = (a == b) := by
  by_cases e : a = b
  · subst e; simp
  · have h : ¬ (Sum.inl a : Key) = Sum.inl b := fun q => e (Sum.inl.inj q)
    rw [decide_eq_false h]
    exact (beq_eq_false_iff_ne.mpr e).symm
theorem key_rr (a b : Str) : decide ((Sum.inr a : Key) = Sum.inr b) = decide (a = b) := by
  by_cases e : a = b
  · subst e; simp
  · have h : ¬ (Sum.inr a : Key) = Sum.inr b := fun q => e (Sum.inr.inj q)
    rw [decide_eq_false h, decide_eq_false e]
theorem key_lr (a : Int) (b : Str) : decide ((Sum.inl a : Key) = Sum.inr b) = false := decide_eq_false (fun q => nomatch q)
theorem key_rl (a : Str) (b : Int) : decide ((Sum.inr a : Key) = Sum.inl b) = false := decide_eq_false (fun q => nomatch q)
def mixKind (prog : Program) (w : World) : PySem.KeyKind prog w Key where
  is := keyIs
  hash := keyH w
  inj := fun v a b ha hb => by
    rcases keyIs_shape ha with ⟨i, t, rfl, rfl⟩ | ⟨x, t, rfl, rfl⟩
    · rcases keyIs_shape hb with ⟨j, u, rfl, e⟩ | ⟨y, u, rfl, e⟩
      · injection e with e1 _; rw [e1]
      · exact nomatch e
    · rcases keyIs_shape hb with ⟨j, u, rfl, e⟩ | ⟨y, u, rfl, e⟩
      · exact nomatch e
      · injection e with e1 _; rw [e1]
  byValue := fun k v h => by
    rcases keyIs_shape h with ⟨i, t, rfl, rfl⟩ | ⟨x, t, rfl, rfl⟩ <;> rfl
  pyHash := fun hv h => by
    rcases keyIs_shape hv with ⟨i, t, rfl, rfl⟩ | ⟨x, t, rfl, rfl⟩
    · exact wpAny_pyHash_int h
    · exact wpAny_pyHash_str h
  eqBool := fun hu hv h => by
    rcases keyIs_shape hu with ⟨i, t, rfl, rfl⟩ | ⟨x, t, rfl, rfl⟩
    · rcases keyIs_shape hv with ⟨j, u, rfl, rfl⟩ | ⟨y, u, rfl, rfl⟩
      · rw [key_ll] at h; exact wpAny_eqBool_int h
      · rw [key_lr] at h; exact SeqAt.EqAt.int_str i t y u _ _ _ _ h
    · rcases keyIs_shape hv with ⟨j, u, rfl, rfl⟩ | ⟨y, u, rfl, rfl⟩
      · rw [key_rl] at h; exact SeqAt.EqAt.str_int x t j u _ _ _ _ h
      · rw [key_rr] at h; exact wpAny_eqBool_str h
  «strs» := fun k x t v h => by
    rcases keyIs_shape h with ⟨i, u, rfl, e⟩ | ⟨y, u, rfl, e⟩
    · exact nomatch e
    · injection e with e1 _
      subst e1
      cases v <;> rfl
end L2
namespace L2
open PySem PySem.Spec PyProof.Rows
inductive V where
  | non | bl (b : Bool) | int (i : Int) | str (x : Str) | byt (b : Array UInt8) | flt (b : UInt64) | ref (a : Addr) | ty (n : String)
  deriving DecidableEq
def RelV : V → Value → Prop
  | .non, u => u = Value.none
  | .bl b, u => u = Value.bool b
  | .int i, u => ∃ t, u = Value.int i t
  | .str x, u => ∃ t, u = Value.str x t
  | .byt b, u => ∃ t, u = Value.bytes b t
  | .flt b, u => ∃ t, u = Value.float b t
  | .ref a, u => u = Value.ref a
  | .ty n, u => u = Value.type n
abbrev Vals : List V → List Value → Prop := Paired RelV
theorem Vals.length {xs : List V} {us : List Value} (r : Vals xs us) : xs.length = us.length := Paired.length r
theorem Vals.get : ∀ {xs : List V} {us : List Value} {i : Nat} {x : V}, Vals xs us → xs[i]? = some x → ∃ u, us[i]? = some u ∧ RelV x u
  | _, _, _, _, .nil, e => by simp at e
  | _, _, 0, _, .cons r _, e => by simp at e; subst e; exact ⟨_, rfl, r⟩
  | _, _, i + 1, x, .cons _ t, e => by
    obtain ⟨u, h1, h2⟩ := Vals.get (i := i) (x := x) t (by simpa using e)
    exact ⟨u, by simpa using h1, h2⟩
theorem Vals.set {x : V} {u : Value} (r : RelV x u) : ∀ {xs : List V} {us : List Value} (i : Nat), Vals xs us → Vals (xs.set i x) (us.set i u)
  | _, _, _, .nil => .nil
  | _, _, 0, .cons _ t => .cons r t
  | _, _, i + 1, .cons q t => .cons q (Vals.set r i t)
theorem Vals.append : ∀ {xs ys : List V} {us ws : List Value}, Vals xs us → Vals ys ws → Vals (xs ++ ys) (us ++ ws)
  | _, _, _, _, .nil, s => s
  | _, _, _, _, .cons r t, s => .cons r (Vals.append t s)
theorem Vals.take : ∀ {xs : List V} {us : List Value} (n : Nat), Vals xs us → Vals (xs.take n) (us.take n)
  | _, _, 0, _ => .nil
  | _, _, _ + 1, .nil => .nil
  | _, _, n + 1, .cons r t => .cons r (Vals.take n t)
theorem Vals.drop : ∀ {xs : List V} {us : List Value} (n : Nat), Vals xs us → Vals (xs.drop n) (us.drop n)
  | _, _, 0, r => r
  | _, _, _ + 1, .nil => .nil
  | _, _, n + 1, .cons _ t => Vals.drop n t
def RelO : Option V → Option Value → Prop
  | some v, some u => RelV v u
  | none, none => True
  | _, _ => False
def KV {κ : Type} : List (κ × V) → List (κ × Value) → Prop := Paired fun (p : κ × V) (q : κ × Value) => p.1 = q.1 ∧ RelV p.2 q.2
def kV : Key → V
  | .inl i => .int i
  | .inr x => .str x
inductive HO where
  | lst (xs : List V)
  | tup (xs : List V)
  | dK (kvs : List (Key × V)) | dT (kvs : List (List Key × V))
  | set (S : Int → Bool) (n : Nat)
  | ins (C dx : Addr) (fs : List (Str × V))
  | own (x : Addr)
  | xd (fs : List (Str × V))
  | met (f x : Addr)
  | rng (lo hi : Int)
  | frz (o : Obj) (u : HO)
  | tbl (ps : Array Value)
  | ext (φ : Heap → Prop)
abbrev Hp := Addr → Option HO
def upd (H : Hp) (a : Addr) (o : HO) : Hp := fun b => if b = a then some o else H b
theorem upd_same {H : Hp} {a : Addr} {o : HO} : upd H a o a = some o := by unfold upd; rw [if_pos rfl]
theorem upd_ne {H : Hp} {a b : Addr} {o : HO} (h : b ≠ a) : upd H a o b = H b := by unfold upd; rw [if_neg h]
theorem ne_of_none {H : Hp} {a b : Addr} {o : HO} (h : H a = some o) (h' : H b = none) : a ≠ b := by
  intro e; subst e; rw [h] at h'; cases h'
section
variable (P : Program) (w : World)
def ObjOk (H : Hp) (h : Heap) (a : Addr) : HO → Prop
  | .lst xs => xs.length ≤ sizeLine ∧ ∃ (its : List Value) (n : Nat), Vals xs its ∧ h.get? a = some { cls := .type "list", data := .seq its.toArray n }
  | .tup xs => xs.length ≤ sizeLine ∧ ∃ its : List Value, Vals xs its ∧ IsTup h a its.toArray
  | .dK kvs => kvs.length ≤ sizeLine ∧ (a == sysModules) = false ∧ ∃ vs, KV kvs vs ∧ h.DictOf (mixKind P w) a vs
  | .dT kvs => kvs.length ≤ sizeLine ∧ (a == sysModules) = false ∧ ∃ xs : List (List Key × Addr × Value),
      Paired (fun (p : List Key × V) (q : List Key × Addr × Value) => p.1 = q.1 ∧ H q.2.1 = some (.tup (p.1.map kV)) ∧ RelV p.2 q.2.2) kvs xs ∧
      ∃ o es ep, h.get? a = some o ∧ o.ExactDict ∧ o.data = .dict es ep ∧ es.toList = xs.map (entryOfKey (tupleKind (mixKind P w))) ∧ (xs.map (·.1)).Nodup
  | .set S n => h.SetOf (intKind P w) a S n
  | .ins C dx fs => H dx = some (.own a) ∧ fs.length ≤ 1000 ∧ dx ≠ a ∧ h.get? a = some (PySem.W.instObj C dx) ∧
      ∃ mA, h.Ns1 dx mA ∧ (∀ f, RelO (fs.lookup f) (mA f)) ∧ PySem.Within mA (fs.map (·.1))
  | .own _ => ∃ o, h.get? a = some o
  | .xd fs => ∃ mA, h.Ns1 a mA ∧ ∀ f, RelO (fs.lookup f) (mA f)
  | .rng lo hi => ∃ t u v, h.get? a = some { cls := .type "range", data := .fields #[.int lo t, .int hi u, .int 1 v] }
  | .frz o u => h.get? a = some o ∧ ObjOk H h a u
  | .tbl ps => h.get? a = some { cls := .none, data := .fields ps }
  | .met f x => h.get? a = some (PySem.W.methodObj (.ref f) (.ref x))
  | .ext φ => φ h ∧ (∃ o, h.get? a = some o) ∧ ∀ h1 h2 : Heap, φ h1 → (∀ o, h1.get? a = some o → h2.get? a = some o) → φ h2
def HOk (H : Hp) (h : Heap) : Prop := ∀ a o, H a = some o → ObjOk P w H h a o
end
section
variable {P : Program} {w : World} {H H' : Hp} {h h' : Heap} {a : Addr} {o : HO}
theorem ObjOk.lt (x : ObjOk P w H h a o) : a < h.objs.size := by
  cases o with
  | lst xs => obtain ⟨_, _, _, _, e⟩ := x; exact Heap.lt_size e
  | tup xs => obtain ⟨_, _, _, p⟩ := x; exact p.lt
  | dK kvs => obtain ⟨_, _, _, _, o, _, _, e, _⟩ := x; exact Heap.lt_size e
  | dT kvs => obtain ⟨_, _, _, _, o, _, _, e, _⟩ := x; exact Heap.lt_size e
  | set S n => obtain ⟨o, _, _, _, e, _⟩ := x; exact Heap.lt_size e
  | ins C dx fs => obtain ⟨_, _, _, e, _⟩ := x; exact Heap.lt_size e
  | own y => obtain ⟨_, e⟩ := x; exact Heap.lt_size e
  | xd fs => obtain ⟨_, ⟨_, _, _, e, _⟩, _⟩ := x; exact Heap.lt_size e
  | rng lo hi => obtain ⟨_, _, _, e⟩ := x; exact Heap.lt_size e
  | frz ob u => obtain ⟨e, _⟩ := x; exact Heap.lt_size e
  | tbl ps => exact Heap.lt_size (show h.get? a = some _ from x)
  | met f y => exact Heap.lt_size (show h.get? a = some _ from x)
  | ext φ => obtain ⟨_, ⟨_, e⟩, _⟩ := x; exact Heap.lt_size e
theorem Paired.mapP {α β : Type} {F G : α → β → Prop} : ∀ {l₁ : List α} {l₂ : List β}, Paired F l₁ l₂ → (∀ a b, F a b → G a b) → Paired G l₁ l₂
  | _, _, .nil, _ => .nil
  | _, _, .cons r t, f => .cons (f _ _ r) (Paired.mapP t f)
theorem ObjOk.stay (x : ObjOk P w H h a o) (k : ∀ b u, (b = a ∨ H b = some (.own a)) → h.get? b = some u → h'.get? b = some u)
    (ho : ∀ b, H b = some (.own a) → H' b = some (.own a)) (ht : ∀ b xs, H b = some (.tup xs) → H' b = some (.tup xs)) : ObjOk P w H' h' a o := by
  induction o with
  | lst xs => obtain ⟨z, its, n, r, e⟩ := x; exact ⟨z, its, n, r, k _ _ (.inl rfl) e⟩
  | tup xs => obtain ⟨z, its, r, ob, e, c⟩ := x; exact ⟨z, its, r, ob, k _ _ (.inl rfl) e, c⟩
  | dK kvs => obtain ⟨z, y, vs, r, ob, es, ep, e, c⟩ := x; exact ⟨z, y, vs, r, ob, es, ep, k _ _ (.inl rfl) e, c⟩
  | dT kvs =>
    obtain ⟨z, y, xs, r, ob, es, ep, e, c⟩ := x
    exact ⟨z, y, xs, Paired.mapP r fun p q z => ⟨z.1, ht _ _ z.2.1, z.2.2⟩, ob, es, ep, k _ _ (.inl rfl) e, c⟩
  | set S n => obtain ⟨ob, es, ep, t, e, c⟩ := x; exact ⟨ob, es, ep, t, k _ _ (.inl rfl) e, c⟩
  | ins C dx fs =>
    obtain ⟨d, z, ne, e, mA, ⟨od, es, ep, e2, c⟩, r⟩ := x
    exact ⟨ho _ d, z, ne, k _ _ (.inl rfl) e, mA, ⟨od, es, ep, k _ _ (.inr d) e2, c⟩, r⟩
  | own y => obtain ⟨ob, e⟩ := x; exact ⟨ob, k _ _ (.inl rfl) e⟩
  | xd fs => obtain ⟨mA, ⟨od, es, ep, e, c⟩, r⟩ := x; exact ⟨mA, ⟨od, es, ep, k _ _ (.inl rfl) e, c⟩, r⟩
  | rng lo hi => obtain ⟨t, u, v, e⟩ := x; exact ⟨t, u, v, k _ _ (.inl rfl) e⟩
  | frz ob u ih => obtain ⟨e, q⟩ := x; exact ⟨k _ _ (.inl rfl) e, ih q⟩
  | tbl ps =>
    have e : h.get? a = some { cls := .none, data := .fields ps } := x
    show h'.get? a = some { cls := .none, data := .fields ps }
    exact k a _ (.inl rfl) e
  | met f y =>
    have e : h.get? a = some (PySem.W.methodObj (.ref f) (.ref y)) := x
    show h'.get? a = some (PySem.W.methodObj (.ref f) (.ref y))
    exact k a _ (.inl rfl) e
  | ext φ => obtain ⟨p, ⟨o, e⟩, st⟩ := x; exact ⟨st _ _ p fun o q => k _ _ (.inl rfl) q, ⟨o, k _ _ (.inl rfl) e⟩, st⟩
theorem HOk.lt (x : HOk P w H h) (e : H a = some o) : a < h.objs.size := (x a o e).lt
theorem HOk.fresh (x : HOk P w H h) (e : h.objs.size ≤ a) : H a = none := by
  cases q : H a with
  | none => rfl
  | some u => exact absurd (Nat.lt_of_lt_of_le (x.lt q) e) (Nat.lt_irrefl _)
theorem HOk.kept (x : HOk P w H h) (k : ∀ b u, h.get? b = some u → h'.get? b = some u) : HOk P w H h' := fun a o e =>
  (x a o e).stay (fun b u _ q => k b u q) (fun _ q => q) fun _ _ q => q
theorem HOk.laid (x : HOk P w H h) (k : ∀ b u, h.get? b = some u → h'.get? b = some u) (hp : h.objs.size ≤ a) (new : ObjOk P w (upd H a o) h' a o) : HOk P w (upd H a o) h' := fun b u e => by
  have hn := x.fresh hp
  by_cases hb : b = a
  · subst hb; rw [upd_same] at e; cases e; exact new
  · rw [upd_ne hb] at e
    exact (x b u e).stay (fun c v _ q => k c v q) (fun c q => by rw [upd_ne (ne_of_none q hn)]; exact q) fun c xs q => by rw [upd_ne (ne_of_none q hn)]; exact q
end
def Rd (H : Hp) (a : Addr) (u : HO) : Prop := H a = some u ∨ ∃ o, H a = some (.frz o u)
theorem Rd.ok {P : Program} {w : World} {H : Hp} {h : Heap} {a : Addr} {u : HO} (r : Rd H a u) (x : HOk P w H h) : ObjOk P w H h a u := by
  rcases r with r | ⟨o, r⟩
  · exact x a u r
  · obtain ⟨_, q⟩ := x a _ r
    exact q
def Mut : Option HO → Prop
  | some (.lst _) => True
  | some (.dK _) => True
  | some (.dT _) => True
  | some (.set _ _) => True
  | some (.ins _ _ _) => True
  | some (.ext _) => True
  | _ => False
section
variable {P : Program} {w : World} {H : Hp} {h h' : Heap} {x e : Addr} {o' : HO}
theorem HOk.write (ok : HOk P w H h) (mu : Mut (H x)) (he : e = x ∨ H e = some (.own x)) (k : ∀ b u, b ≠ e → h.get? b = some u → h'.get? b = some u) (heo : ∃ u, h'.get? e = some u)
    (new : ObjOk P w (upd H x o') h' x o') : HOk P w (upd H x o') h' := fun b u q => by
  have nown : ∀ c y, H c = some (.own y) → c ≠ x := fun c y r z => by subst z; rw [r] at mu; exact mu
  have ntup : ∀ c xs, H c = some (.tup xs) → c ≠ x := fun c xs r z => by subst z; rw [r] at mu; exact mu
  by_cases hb : b = x
  · subst hb; rw [upd_same] at q; cases q; exact new
  · rw [upd_ne hb] at q
    by_cases hbe : b = e
    · have q' : H b = some (.own x) := by
        rcases he with z | z
        · exact absurd (hbe.trans z) hb
        · rw [hbe]; exact z
      rw [q] at q'; cases q'
      obtain ⟨v, hv⟩ := heo
      exact ⟨v, by rw [hbe]; exact hv⟩
    · refine (ok b u q).stay (fun c v hc r => k c v ?_ r) (fun c r => by rw [upd_ne (nown c b r)]; exact r) fun c xs r => by rw [upd_ne (ntup c xs r)]; exact r
      rcases hc with rfl | hc
      · exact hbe
      · rintro rfl
        rcases he with z | z
        · exact nown c b hc z
        · rw [hc] at z; cases z; exact hb rfl
end
structure Un (fs ex : List Addr) (H H' : Hp) (h h' : Heap) : Prop where
  keep : ∀ b o, h.get? b = some o → H b = none → b ∉ fs → b ∉ ex → h'.get? b = some o
  slot : ∀ b o, h.get? b = some o → H b = none → b ∈ fs → b ∉ ex → ∃ sl, h'.get? b = some { o with slots := sl }
  free : ∀ b o, h.get? b = some o → H b = none → b ∉ ex → H' b = none
  there : ∀ b o, h.get? b = some o → b ∉ ex → ∃ o', h'.get? b = some o'
  tups : ∀ b xs, H b = some (.tup xs) → H' b = some (.tup xs)
  frzs : ∀ b o u, H b = some (.frz o u) → H' b = some (.frz o u)
  tbls : ∀ b ps, H b = some (.tbl ps) → ∃ more, H' b = some (.tbl (ps ++ more))
section
variable {fs fs' ex ex' : List Addr} {H H1 H2 : Hp} {h h1 h2 h' : Heap} {a x e : Addr} {o : HO}
theorem Un.any (u : Un fs ex H H1 h h1) {b : Addr} {ob : Obj} (q : h.get? b = some ob) (n : H b = none) (hx : b ∉ ex) : ∃ sl, h1.get? b = some { ob with slots := sl } := by
  by_cases hb : b ∈ fs
  · exact u.slot b ob q n hb hx
  · exact ⟨ob.slots, u.keep b ob q n hb hx⟩
theorem Un.kept (k : ∀ b u, h.get? b = some u → h'.get? b = some u) : Un fs ex H H h h' :=
  ⟨fun b ob q _ _ _ => k b ob q, fun b ob q _ _ _ => ⟨ob.slots, k b ob q⟩, fun _ _ _ n _ => n, fun b ob q _ => ⟨ob, k b ob q⟩, fun _ _ q => q, fun _ _ _ q => q, fun _ ps q => ⟨#[], by rw [q]; simp⟩⟩
theorem Un.refl : Un fs ex H H h h := Un.kept fun _ _ q => q
theorem Un.laid (k : ∀ b u, h.get? b = some u → h'.get? b = some u) (hp : h.objs.size ≤ a) (hn : H a = none) : Un fs ex H (upd H a o) h h' where
  keep := fun b u q _ _ _ => k b u q
  slot := fun b u q _ _ _ => ⟨u.slots, k b u q⟩
  free := fun b u q n _ => by rw [upd_ne (Nat.ne_of_lt (Nat.lt_of_lt_of_le (Heap.lt_size q) hp))]; exact n
  there := fun b u q _ => ⟨u, k b u q⟩
  tups := fun b xs q => by rw [upd_ne (ne_of_none q hn)]; exact q
  frzs := fun b u xs q => by rw [upd_ne (ne_of_none q hn)]; exact q
  tbls := fun b ps q => ⟨#[], by rw [upd_ne (ne_of_none q hn), q]; simp⟩
theorem Un.write (mu : Mut (H x)) (he : e = x ∨ H e = some (.own x)) (k : ∀ b u, b ≠ e → h.get? b = some u → h'.get? b = some u) (heo : ∃ u, h'.get? e = some u) : Un fs ex H (upd H x o) h h' := by
  have hx : ∀ b, H b = none → b ≠ x := fun b n z => by subst z; rw [n] at mu; exact mu
  have hb : ∀ b, H b = none → b ≠ e := fun b n z => by
    subst z
    rcases he with r | r
    · exact hx b n r
    · rw [n] at r; cases r
  have hm : ∀ b u, H b = some u → ¬ Mut (some u) → b ≠ x := fun b u q nm z => by subst z; rw [q] at mu; exact nm mu
  refine ⟨fun b u q n _ _ => k b u (hb b n) q, fun b u q n _ _ => ⟨u.slots, k b u (hb b n) q⟩, fun b u q n _ => by rw [upd_ne (hx b n)]; exact n, fun b u q _ => ?_,
    fun b xs q => by rw [upd_ne (hm b _ q fun z => z)]; exact q, fun b u xs q => by rw [upd_ne (hm b _ q fun z => z)]; exact q, fun b ps q => ⟨#[], by rw [upd_ne (hm b _ q fun z => z), q]; simp⟩⟩
  by_cases hbe : b = e
  · subst hbe; exact heo
  · exact ⟨u, k b u hbe q⟩
end
def trk (h : Heap) (H : Hp) : List Addr := (List.range h.objs.size).filter fun a => (H a).isSome
def hidT (h : Heap) (H : Hp) : Heap := PySem.W.hideAll h (trk h H)
theorem hidT_size (h : Heap) (H : Hp) : (hidT h H).objs.size = h.objs.size := PySem.W.hideAll_size _ _
theorem hidT_get {h : Heap} {H : Hp} {b : Addr} {o : Obj} (e : h.get? b = some o) (n : H b = none) : (hidT h H).get? b = some o :=
  PySem.W.hideAll_get _ e fun hm => by
    have q : (H b).isSome = true := (List.mem_filter.mp hm).2
    rw [n] at q; simp at q
theorem of_hidT {h : Heap} {H : Hp} {b : Addr} {o : Obj} (e : (hidT h H).get? b = some o) : h.get? b = some o ∧ H b = none := by
  have e' : h.get? b = some o := PySem.W.of_hideAll (trk h H) e
  refine ⟨e', ?_⟩
  cases q : H b with
  | none => rfl
  | some x =>
    have hm : b ∈ trk h H := List.mem_filter.mpr ⟨List.mem_range.mpr (Heap.lt_size e'), by simp [q]⟩
    have z : (hidT h H).get? b = none := PySem.W.hideAll_none (trk h H) hm
    rw [z] at e; cases e
def allNews (g h : Heap) (L : Addr) : List (Addr × Obj) := (List.range h.objs.size).filterMap fun a => if a = L ∨ (g.get? a).isSome = true then none else (h.get? a).map fun o => (a, o)
def rest (g h : Heap) (L d : Addr) : List (Addr × Obj) := (allNews g h L).filter fun p => decide (p.1 ≠ d)
end L2
namespace L2
open PySem PySem.Spec PyProof.Rows
structure Mod (K : PySem.W.Frag) (mg : Str → Option Value) (base : Heap) : Prop where
  kin : K.In base
  glob : base.Ns mainGlobals mg
  blt : ∃ mb, base.Ns builtinsNs mb ∧ ∀ x : Str, x ≠ "__name__" → mb x = bootBuiltins x
  nolimit : base.NoLimit
structure Cx where
  prog : Program
  w : World
  K : PySem.W.Frag
  mg : Str → Option Value
  base : Heap
  A : Around
  N : List Str
  s₀ : Shared
  H₀ : Hp
  env : Env
  outer : List Env
  stack : List Env
  ex : List Addr
  fn : Str → Bool
  calm : Bool
  pn : List (Addr × Obj)
  xe : Value → Shared → Prop
def frs (l : List Env) : List Addr := l.filterMap (·.frame)
abbrev Cx.fs (X : Cx) : List Addr := frs X.outer
def Vis (sc : Scope) (x : Str) : Prop := sc.names.lookup x = some .local ∨ sc.names.lookup x = some .cell ∨ sc.names.lookup x = some .free
def Loc (sc : Scope) (x : Str) : Prop := sc.names.lookup x = some .local ∨ sc.names.lookup x = some .cell
def Look (env : Env) (h : Heap) (m : Str → Option Value) (x : Str) (u : Value) : Prop :=
  (env.kindOf x = some .local ∧ m x = some u) ∨ ((env.kindOf x = some .cell ∨ env.kindOf x = some .free) ∧ ∃ c, env.cells.lookup x = some c ∧ h.IsCell c (some u))
structure Cx.Ok (X : Cx) : Prop where
  mod : Mod X.K X.mg X.base
  kind : X.env.scope.kind = .function
  glob : X.env.globals = mainGlobals
  blt : X.env.builtins = builtinsNs
  above : X.s₀.heap.objs.size ≤ X.env.locals
  inj : ∀ x y c, X.env.cells.lookup x = some c → X.env.cells.lookup y = some c → x = y
  has : ∀ x, (X.env.kindOf x = some .cell ∨ X.env.kindOf x = some .free) → ∃ c, X.env.cells.lookup x = some c
  cab : ∀ x c, X.fn x = true → X.env.cells.lookup x = some c → X.s₀.heap.objs.size ≤ c
  hd : X.calm = true → X.A.handled = none
  frames : X.A.frames = some X.stack
  stk : X.stack = X.outer ∨ (X.stack = X.env :: X.outer ∧ X.env.frame = some X.env.locals)
  exf : ∀ b ∈ X.ex, b ≠ X.env.locals ∧ ∀ x c, X.env.cells.lookup x = some c → c ≠ b
  bs : ∀ b o, X.base.get? b = some o → X.s₀.heap.get? b = some o ∧ X.H₀ b = none
  bsz : X.base.objs.size ≤ X.s₀.heap.objs.size
  noex : ∀ b o, X.base.get? b = some o → b ∉ X.ex
  exfs : ∀ b ∈ X.ex, b ∉ X.fs
  funs : X.s₀.heap.FunFrames X.base X.outer
  frf : ∀ b ∈ X.fs, X.H₀ b = none
structure Inv (X : Cx) (pins : List (Addr × Obj)) (σ : List (Option V)) (H : Hp) (s : Shared) : Prop where
  ok : X.Ok
  os : s.os = X.s₀.os
  bare : AllBare s.gens
  base : Un X.fs X.ex X.H₀ H X.s₀.heap s.heap
  loc : ∃ m, s.heap.Ns X.env.locals m ∧ ∀ (i : Nat) (x : Str) (v : V), X.N[i]? = some x → σ[i]? = some (some v) → Vis X.env.scope x → ∃ u, RelV v u ∧ Look X.env s.heap m x u
  cell : ∀ x c, X.env.cells.lookup x = some c → ∃ v, s.heap.IsCell c v
  free : H X.env.locals = none
  freeC : ∀ x c, X.env.cells.lookup x = some c → H c = none
  pin : ∀ p ∈ X.pn ++ pins, s.heap.get? p.1 = some p.2 ∧ H p.1 = none ∧ p.1 ≠ X.env.locals ∧ p.1 ∉ X.fs ∧ ∀ v, p.2.data ≠ .cell v
  hok : HOk X.prog X.w H s.heap
  len : σ.length = X.N.length
section
variable {X : Cx} {pins : List (Addr × Obj)} {σ : List (Option V)} {H H' : Hp} {s : Shared} {h' : Heap}
theorem Cx.Ok.nofr (ok : X.Ok) {b : Addr} {o : Obj} (e : X.base.get? b = some o) : b ∉ X.fs := fun hb => by
  have := (ok.funs.mem hb).1
  rw [e] at this; cases this
theorem Inv.bs (I : Inv X pins σ H s) : ∀ b o, X.base.get? b = some o → s.heap.get? b = some o ∧ H b = none := fun b o e =>
  ⟨I.base.keep b o (I.ok.bs b o e).1 (I.ok.bs b o e).2 (I.ok.nofr e) (I.ok.noex b o e), I.base.free b o (I.ok.bs b o e).1 (I.ok.bs b o e).2 (I.ok.noex b o e)⟩
theorem Inv.bk (I : Inv X pins σ H s) : ∀ b o, X.base.get? b = some o → s.heap.get? b = some o := fun b o e => (I.bs b o e).1
theorem Inv.mod (I : Inv X pins σ H s) : Mod X.K X.mg X.base := I.ok.mod
theorem Inv.kIn (I : Inv X pins σ H s) : X.K.In s.heap := I.ok.mod.kin.keeps I.bk
theorem Inv.lt (I : Inv X pins σ H s) : X.env.locals < s.heap.objs.size := let ⟨_, hn, _⟩ := I.loc; hn.lt
theorem Inv.sz (I : Inv X pins σ H s) : X.s₀.heap.objs.size ≤ s.heap.objs.size := Nat.le_trans I.ok.above (Nat.le_of_lt I.lt)
theorem Inv.nofs (I : Inv X pins σ H s) {a : Addr} (h : s.heap.objs.size ≤ a) : a ∉ X.fs := fun hb => by
  obtain ⟨_, o, ho, _⟩ := I.ok.funs.mem hb
  exact absurd (Nat.lt_of_lt_of_le (Heap.lt_size ho) (Nat.le_trans I.sz h)) (Nat.lt_irrefl _)
theorem Inv.cne (I : Inv X pins σ H s) : ∀ x c, X.env.cells.lookup x = some c → c ≠ X.env.locals := fun x c e z => by
  obtain ⟨v, o, ho, hd⟩ := I.cell x c e
  obtain ⟨m, ⟨o', es, ep, ho', hd', _⟩, _⟩ := I.loc
  rw [z, ho'] at ho; cases ho; rw [hd'] at hd; cases hd
theorem Inv.funs (I : Inv X pins σ H s) : s.heap.FunFrames X.base X.outer := by
  have all : ∀ (l : List Env), (∀ b ∈ frs l, b ∈ X.fs) → X.s₀.heap.FunFrames X.base l → s.heap.FunFrames X.base l := by
    intro l
    induction l with
    | nil => intro _ _; trivial
    | cons env r ih =>
      intro hs hl
      obtain ⟨hk, ⟨L, o, hf, hn, ho, hd⟩, hr⟩ := hl
      have hL : L ∈ X.fs := hs L (by unfold frs; rw [List.filterMap_cons, hf]; exact List.mem_cons_self)
      obtain ⟨sl, e⟩ := I.base.slot L o ho (I.ok.frf L hL) hL fun z => I.ok.exfs L z hL
      exact ⟨hk, ⟨L, _, hf, hn, e, hd⟩, ih (fun b hb => hs b (by unfold frs; rw [List.filterMap_cons, hf]; exact List.mem_cons_of_mem _ hb)) hr⟩
  exact all X.outer (fun _ hb => hb) I.ok.funs
theorem Inv.stack (I : Inv X pins σ H s) : s.heap.FunFrames X.base X.stack := by
  rcases I.ok.stk with e | ⟨e, hf⟩
  · rw [e]; exact I.funs
  · rw [e]
    obtain ⟨m, hn, _⟩ := I.loc
    refine .cons (by rw [I.ok.kind]; decide) hf hn ?_ I.funs
    exact Heap.get?_none_of_le (Nat.le_trans I.ok.bsz I.ok.above)
theorem Inv.stkSub (I : Inv X pins σ H s) : ∀ b ∈ frs X.stack, b ∈ X.env.locals :: X.fs := fun b hb => by
  rcases I.ok.stk with e | ⟨e, hf⟩
  · rw [e] at hb; exact List.mem_cons_of_mem _ hb
  · rw [e] at hb
    unfold frs at hb
    rw [List.filterMap_cons, hf] at hb
    exact hb
theorem Inv.stkFree (I : Inv X pins σ H s) : ∀ b ∈ frs X.stack, H b = none := fun b hb => by
  rcases List.mem_cons.mp (I.stkSub b hb) with e | hb
  · rw [e]; exact I.free
  · obtain ⟨_, o, ho, _⟩ := I.ok.funs.mem hb
    exact I.base.free b o ho (I.ok.frf b hb) fun z => I.ok.exfs b z hb
theorem Inv.step {g' : Array GenState} {t' : Nat} {d' : Drawn} {ch : List Addr} (I : Inv X pins σ H s)
    (hch : ∀ b ∈ ch, (b ∈ X.ex ∨ X.s₀.heap.objs.size ≤ b) ∧ b ≠ X.env.locals ∧ (∀ x c, X.env.cells.lookup x = some c → c ≠ b) ∧ ∀ p ∈ X.pn ++ pins, p.1 ≠ b)
    (keep : ∀ b o, b ≠ X.env.locals → b ∉ X.fs → b ∉ ch → s.heap.get? b = some o → H b = none → h'.get? b = some o)
    (slot : ∀ b o, b ≠ X.env.locals → b ∈ X.fs → b ∉ ch → s.heap.get? b = some o → H b = none → ∃ sl, h'.get? b = some { o with slots := sl }) (free : ∀ b o, b ∉ ch → s.heap.get? b = some o → H b = none → H' b = none)
    (there : ∀ b o, b ∉ ch → s.heap.get? b = some o → ∃ o', h'.get? b = some o')
    (tups : ∀ b xs, H b = some (.tup xs) → H' b = some (.tup xs)) (frzs : ∀ b o u, H b = some (.frz o u) → H' b = some (.frz o u)) (tbls : ∀ b ps, H b = some (.tbl ps) → ∃ more, H' b = some (.tbl (ps ++ more)))
    (ns : ∀ m, s.heap.Ns X.env.locals m → h'.Ns X.env.locals m) (hok : HOk X.prog X.w H' h') (hg : AllBare g') :
    Inv X pins σ H' { s with heap := h', gens := g', drawn := d', toks := t' } := by
  have neL : ∀ b o, X.s₀.heap.get? b = some o → b ≠ X.env.locals := fun b o e => Nat.ne_of_lt (Nat.lt_of_lt_of_le (Heap.lt_size e) I.ok.above)
  have neC : ∀ b o, X.s₀.heap.get? b = some o → b ∉ X.ex → b ∉ ch := fun b o e hx hb => by
    rcases (hch b hb).1 with z | z
    · exact hx z
    · exact absurd (Nat.lt_of_lt_of_le (Heap.lt_size e) z) (Nat.lt_irrefl _)
  have cellK : ∀ x c, X.env.cells.lookup x = some c → ∀ v, s.heap.IsCell c v → h'.IsCell c v := fun x c e v ⟨o, ho, hd⟩ => by
    have nch : c ∉ ch := fun z => (hch c z).2.2.1 x c e rfl
    by_cases hc : c ∈ X.fs
    · obtain ⟨sl, q⟩ := slot c o (I.cne x c e) hc nch ho (I.freeC x c e)
      exact ⟨_, q, hd⟩
    · exact ⟨o, keep c o (I.cne x c e) hc nch ho (I.freeC x c e), hd⟩
  refine ⟨I.ok, I.os, hg, ⟨fun b o e n hb hx => ?_, fun b o e n hb hx => ?_, fun b o e n hx => ?_, fun b o e hx => ?_, fun b xs e => tups b xs (I.base.tups b xs e), fun b o xs e => frzs b o xs (I.base.frzs b o xs e), fun b ps e => ?_⟩, ?_, fun x c e => ?_, ?_, fun x c e => ?_, fun p hp => ?_, hok, I.len⟩
  · exact keep b o (neL b o e) hb (neC b o e hx) (I.base.keep b o e n hb hx) (I.base.free b o e n hx)
  · obtain ⟨sl, e1⟩ := I.base.slot b o e n hb hx
    obtain ⟨sl', e2⟩ := slot b _ (neL b o e) hb (neC b o e hx) e1 (I.base.free b o e n hx)
    exact ⟨sl', e2⟩
  · obtain ⟨o', e1⟩ := I.base.there b o e hx
    exact free b o' (neC b o e hx) e1 (I.base.free b o e n hx)
  · obtain ⟨o', e1⟩ := I.base.there b o e hx
    exact there b o' (neC b o e hx) e1
  · obtain ⟨m1, e1⟩ := I.base.tbls b ps e
    obtain ⟨m2, e2⟩ := tbls b _ e1
    exact ⟨m1 ++ m2, by rw [e2, Array.append_assoc]⟩
  · obtain ⟨m, hn, hl⟩ := I.loc
    refine ⟨m, ns m hn, fun i x v e1 e2 e3 => ?_⟩
    obtain ⟨u, r, l⟩ := hl i x v e1 e2 e3
    refine ⟨u, r, ?_⟩
    rcases l with l | ⟨k, c, e, z⟩
    · exact .inl l
    · exact .inr ⟨k, c, e, cellK x c e _ z⟩
  · obtain ⟨v, z⟩ := I.cell x c e
    exact ⟨v, cellK x c e v z⟩
  · obtain ⟨m, ⟨o, _, _, ho, _⟩, _⟩ := I.loc
    exact free _ o (fun z => (hch _ z).2.1 rfl) ho I.free
  · obtain ⟨v, o, ho, hd⟩ := I.cell x c e
    exact free c o (fun z => (hch c z).2.2.1 x c e rfl) ho (I.freeC x c e)
  · obtain ⟨e, n, ne, nf, d⟩ := I.pin p hp
    have nch : p.1 ∉ ch := fun z => (hch p.1 z).2.2.2 p hp rfl
    exact ⟨keep p.1 p.2 ne nf nch e n, free p.1 p.2 nch e n, ne, nf, d⟩
theorem Inv.un {t' : Nat} (I : Inv X pins σ H s) (u : Un X.fs [] H H' s.heap h') (hok : HOk X.prog X.w H' h') : Inv X pins σ H' { s with heap := h', toks := t' } := by
  obtain ⟨m, ⟨o, es, ep, ho, r⟩, _⟩ := id I.loc
  obtain ⟨sl, hL⟩ := u.any ho I.free (by simp)
  exact I.step (g' := s.gens) (d' := s.drawn) (ch := []) (fun _ z => nomatch z) (fun b o _ hb _ e n => u.keep b o e n hb (by simp)) (fun b o _ hb _ e n => u.slot b o e n hb (by simp)) (fun b o _ e n => u.free b o e n (by simp)) (fun b o _ e => u.there b o e (by simp)) u.tups u.frzs u.tbls (fun m' hm => by
    obtain ⟨o', es', ep', ho', r'⟩ := hm
    rw [ho] at ho'; cases ho'
    exact ⟨_, es', ep', hL, r'⟩) hok I.bare
theorem Inv.call {g' : Array GenState} {t' : Nat} {d' : Drawn} {ch : List Addr} (I : Inv X pins σ H s) (u : Un (frs X.stack) ch H H' s.heap h') (hok : HOk X.prog X.w H' h') (hg : AllBare g')
    (hch : ∀ b ∈ ch, (b ∈ X.ex ∨ X.s₀.heap.objs.size ≤ b) ∧ b ≠ X.env.locals ∧ (∀ x c, X.env.cells.lookup x = some c → c ≠ b) ∧ ∀ p ∈ X.pn ++ pins, p.1 ≠ b) :
    Inv X pins σ H' { s with heap := h', gens := g', drawn := d', toks := t' } := by
  obtain ⟨m, ⟨o, es, ep, ho, r⟩, _⟩ := id I.loc
  obtain ⟨sl, hL⟩ := u.any ho I.free fun z => (hch _ z).2.1 rfl
  exact I.step (ch := ch) hch (fun b o hL hb hc e n => u.keep b o e n (fun z => (List.mem_cons.mp (I.stkSub b z)).elim hL hb) hc) (fun b o _ _ hc e n => u.any e n hc) (fun b o hc e n => u.free b o e n hc) (fun b o hc e => u.there b o e hc) u.tups u.frzs u.tbls (fun m' hm => by
    obtain ⟨o', es', ep', ho', r'⟩ := hm
    rw [ho] at ho'; cases ho'
    exact ⟨_, es', ep', hL, r'⟩) hok hg
theorem Inv.turned {t' : Nat} {it : Addr} (I : Inv X pins σ H s) (k : ∀ b o, b ≠ it → s.heap.get? b = some o → h'.get? b = some o) (hn : H it = none) (hL : it ≠ X.env.locals)
    (h1 : it ∈ X.ex ∨ X.s₀.heap.objs.size ≤ it) (h2 : ∀ x c, X.env.cells.lookup x = some c → c ≠ it) (h3 : ∀ p ∈ X.pn ++ pins, p.1 ≠ it) : Inv X pins σ H { s with heap := h', toks := t' } := by
  have nit : ∀ b u, H b = some u → b ≠ it := fun b u e z => by rw [z, hn] at e; cases e
  refine I.step (g' := s.gens) (d' := s.drawn) (ch := [it]) (fun b hb => ?_) (fun b o _ _ hc e _ => k b o (fun z => hc (by simp [z])) e) (fun b o _ _ hc e _ => ⟨o.slots, k b o (fun z => hc (by simp [z])) e⟩) (fun _ _ _ _ n => n)
    (fun b o hc e => ⟨o, k b o (fun z => hc (by simp [z])) e⟩) (fun _ _ e => e) (fun _ _ _ e => e) (fun b ps e => ⟨#[], by rw [e]; simp⟩) (fun m hm => ?_) (fun b u e => ?_) I.bare
  · have e : b = it := by simpa using hb
    subst e
    exact ⟨h1, hL, h2, h3⟩
  · obtain ⟨o, es, ep, ho, r⟩ := hm
    exact ⟨o, es, ep, k _ o (Ne.symm hL) ho, r⟩
  · refine (I.hok b u e).stay (fun c v hc q => k c v ?_ q) (fun _ q => q) fun _ _ q => q
    rcases hc with z | z
    · rw [z]; exact nit b u e
    · exact nit c _ z
theorem Inv.tok (I : Inv X pins σ H s) (t : Nat) : Inv X pins σ H { s with toks := t } := I.un (h' := s.heap) (t' := t) Un.refl I.hok
theorem Inv.kept {t' : Nat} (I : Inv X pins σ H s) (k : ∀ b u, s.heap.get? b = some u → h'.get? b = some u) : Inv X pins σ H { s with heap := h', toks := t' } := I.un (Un.kept k) (I.hok.kept k)
theorem Inv.laid {a : Addr} {o : HO} {t' : Nat} (I : Inv X pins σ H s) (k : ∀ b u, s.heap.get? b = some u → h'.get? b = some u) (hp : s.heap.objs.size ≤ a) (new : ObjOk X.prog X.w (upd H a o) h' a o) :
    Inv X pins σ (upd H a o) { s with heap := h', toks := t' } := I.un (Un.laid k hp (I.hok.fresh hp)) (I.hok.laid k hp new)
theorem Inv.write {x e : Addr} {o : HO} {t' : Nat} (I : Inv X pins σ H s) (mu : Mut (H x)) (he : e = x ∨ H e = some (.own x)) (k : ∀ b u, b ≠ e → s.heap.get? b = some u → h'.get? b = some u) (heo : ∃ u, h'.get? e = some u)
    (new : ObjOk X.prog X.w (upd H x o) h' x o) : Inv X pins σ (upd H x o) { s with heap := h', toks := t' } := I.un (Un.write mu he k heo) (I.hok.write mu he k heo new)
theorem Inv.pins_of {pins' : List (Addr × Obj)} (I : Inv X pins σ H s) (h : ∀ p ∈ pins', s.heap.get? p.1 = some p.2 ∧ H p.1 = none ∧ p.1 ≠ X.env.locals ∧ p.1 ∉ X.fs ∧ ∀ v, p.2.data ≠ .cell v) : Inv X pins' σ H s :=
  ⟨I.ok, I.os, I.bare, I.base, I.loc, I.cell, I.free, I.freeC, fun p hp => (List.mem_append.mp hp).elim (fun z => I.pin p (List.mem_append_left _ z)) (h p), I.hok, I.len⟩
theorem nodup_ix {N : List Str} (hN : N.Nodup) {i j : Nat} {x : Str} (a : N[i]? = some x) (b : N[j]? = some x) : i = j := by
  obtain ⟨h1, e1⟩ := List.getElem?_eq_some_iff.mp a
  obtain ⟨h2, e2⟩ := List.getElem?_eq_some_iff.mp b
  exact (List.getElem_inj hN).mp (e1.trans e2.symm)
theorem store_ok2 {M : Model} {A : Around} {E : Value → Shared → Prop} {i : Nat} {x : Str} {v : V} {u : Value} {Q : Unit → Shared → Prop} (I : Inv X pins σ H s) (hN : X.N.Nodup) (hi : X.N[i]? = some x) (hx : Loc X.env.scope x) (r : RelV v u)
    (h : ∀ s', Inv X pins (σ.set i (some v)) H s' → (∃ a, Heap.SameBut a s.heap s'.heap ∧ (a = X.env.locals ∨ X.env.cells.lookup x = some a)) → Q () s') (hf : X.fn x = true ∨ X.env.scope.names.lookup x = some .local := by first | exact .inl rfl | exact .inr rfl | assumption) : wpAny M A (storeName X.env x u) Q E s := by
  obtain ⟨m, hn, hl⟩ := id I.loc
  have hcls : (X.env.scope.kind == .class || (X.env.scope.kind == .module && X.env.locals != X.env.globals)) = false := by rw [I.ok.kind]; rfl
  have hiσ : i < σ.length := by rw [I.len]; exact (List.getElem?_eq_some_iff.mp hi).1
  have cne := I.cne
  have tracked : ∀ {a : Addr} {h' : Heap}, (∃ o, s.heap.get? a = some o ∧ H a = none) → Heap.SameBut a s.heap h' → HOk X.prog X.w H h' := fun {a h'} ha hs b ob e => by
    obtain ⟨_, _, hfree⟩ := ha
    refine (I.hok b ob e).stay (fun c w' hc q => (hs.2 c ?_).trans q) (fun _ q => q) fun _ _ q => q
    rintro rfl
    rcases hc with rfl | hc
    · rw [hfree] at e; cases e
    · rw [hfree] at hc; cases hc
  rcases hx with hk | hk
  · refine wpAny_storeName_local hk hn (fun h' hn' hs => ?_) hcls
    obtain ⟨oL, _, _, hoL, _⟩ := id hn
    refine h _ ⟨I.ok, I.os, I.bare, ⟨fun b o e n hb hx => ?_, fun b o e n hb hx => ?_, I.base.free, fun b o e hx => ?_, I.base.tups, I.base.frzs, I.base.tbls⟩, ⟨_, hn', fun j y v' e1 e2 e3 => ?_⟩, fun y c e => ?_, I.free, I.freeC, fun p hp => ?_, tracked ⟨oL, hoL, I.free⟩ hs, by simpa using I.len⟩ ⟨_, hs, .inl rfl⟩
    · exact (hs.2 b (Nat.ne_of_lt (Nat.lt_of_lt_of_le (Heap.lt_size e) I.ok.above))).trans (I.base.keep b o e n hb hx)
    · obtain ⟨sl, e1⟩ := I.base.slot b o e n hb hx
      exact ⟨sl, (hs.2 b (Nat.ne_of_lt (Nat.lt_of_lt_of_le (Heap.lt_size e) I.ok.above))).trans e1⟩
    · obtain ⟨o', e1⟩ := I.base.there b o e hx
      exact ⟨o', (hs.2 b (Nat.ne_of_lt (Nat.lt_of_lt_of_le (Heap.lt_size e) I.ok.above))).trans e1⟩
    · by_cases hj : j = i
      · subst hj
        rw [hi] at e1; cases e1
        rw [List.getElem?_set_self hiσ] at e2
        cases e2
        exact ⟨u, r, .inl ⟨hk, by simp⟩⟩
      · rw [List.getElem?_set_ne (Ne.symm hj)] at e2
        obtain ⟨u', r', q⟩ := hl j y v' e1 e2 e3
        refine ⟨u', r', ?_⟩
        rcases q with ⟨k, e⟩ | ⟨k, c, e, z⟩
        · refine .inl ⟨k, ?_⟩
          have : y ≠ x := fun e => hj (nodup_ix hN e1 (e ▸ hi))
          simp [this, e]
        · exact .inr ⟨k, c, e, z.sameBut hs (cne y c e)⟩
    · obtain ⟨w', z⟩ := I.cell y c e
      exact ⟨w', z.sameBut hs (cne y c e)⟩
    · obtain ⟨e, n, ne, nf, d⟩ := I.pin p hp
      exact ⟨(hs.2 p.1 ne).trans e, n, ne, nf, d⟩
  · have hfn : X.fn x = true := by
      rcases hf with z | z
      · exact z
      · rw [z] at hk; cases hk
    obtain ⟨c, hc⟩ := I.ok.has x (.inl hk)
    obtain ⟨w', z⟩ := I.cell x c hc
    refine wpAny_storeName_cell I.ok.kind hk hc z (fun h' hc' hs => ?_)
    obtain ⟨oc, hoc, hocd⟩ := id z
    refine h { s with heap := h' } ⟨I.ok, I.os, I.bare, ⟨fun b o e n hb hx => ?_, fun b o e n hb hx => ?_, I.base.free, fun b o e hx => ?_, I.base.tups, I.base.frzs, I.base.tbls⟩, ⟨m, hn.sameBut hs (Ne.symm (cne x c hc)), fun j y v' e1 e2 e3 => ?_⟩, fun y c' e => ?_, I.free, I.freeC, fun p hp => ?_, tracked ⟨oc, hoc, I.freeC x c hc⟩ hs, by simpa using I.len⟩ ⟨c, hs, .inr hc⟩
    · exact (hs.2 b (Nat.ne_of_lt (Nat.lt_of_lt_of_le (Heap.lt_size e) (I.ok.cab x c hfn hc)))).trans (I.base.keep b o e n hb hx)
    · obtain ⟨sl, e1⟩ := I.base.slot b o e n hb hx
      exact ⟨sl, (hs.2 b (Nat.ne_of_lt (Nat.lt_of_lt_of_le (Heap.lt_size e) (I.ok.cab x c hfn hc)))).trans e1⟩
    · obtain ⟨o', e1⟩ := I.base.there b o e hx
      exact ⟨o', (hs.2 b (Nat.ne_of_lt (Nat.lt_of_lt_of_le (Heap.lt_size e) (I.ok.cab x c hfn hc)))).trans e1⟩
    · by_cases hj : j = i
      · subst hj
        rw [hi] at e1; cases e1
        rw [List.getElem?_set_self hiσ] at e2
        cases e2
        exact ⟨u, r, .inr ⟨.inl hk, c, hc, hc'⟩⟩
      · rw [List.getElem?_set_ne (Ne.symm hj)] at e2
        obtain ⟨u', r', q⟩ := hl j y v' e1 e2 e3
        refine ⟨u', r', ?_⟩
        rcases q with q | ⟨k, c', e, z'⟩
        · exact .inl q
        · refine .inr ⟨k, c', e, z'.sameBut hs ?_⟩
          rintro rfl
          exact hj (nodup_ix hN e1 (I.ok.inj _ _ _ e hc ▸ hi))
    · by_cases hcc : c' = c
      · subst hcc; exact ⟨_, hc'⟩
      · obtain ⟨w2, z2⟩ := I.cell y c' e
        exact ⟨w2, z2.sameBut hs hcc⟩
    · obtain ⟨e, n, ne, nf, d⟩ := I.pin p hp
      refine ⟨(hs.2 p.1 ?_).trans e, n, ne, nf, d⟩
      intro q
      rw [q, hoc] at e
      have q' : oc = p.2 := Option.some.inj e
      exact d w' (by rw [← q']; exact hocd)
theorem store_ok {M : Model} {A : Around} {E : Value → Shared → Prop} {i : Nat} {x : Str} {v : V} {u : Value} {Q : Unit → Shared → Prop} (I : Inv X pins σ H s) (hN : X.N.Nodup) (hi : X.N[i]? = some x) (hx : Loc X.env.scope x) (r : RelV v u)
    (h : ∀ s', Inv X pins (σ.set i (some v)) H s' → Q () s') (hf : X.fn x = true ∨ X.env.scope.names.lookup x = some .local := by first | exact .inl rfl | exact .inr rfl | assumption) : wpAny M A (storeName X.env x u) Q E s :=
  store_ok2 I hN hi hx r (fun s' I' _ => h s' I') hf
theorem Inv.call' {s' : Shared} {ch : List Addr} (I : Inv X pins σ H s) (ho : s'.os = s.os) (u : Un (frs X.stack) ch H H' s.heap s'.heap) (hok : HOk X.prog X.w H' s'.heap) (hg : AllBare s'.gens)
    (hch : ∀ b ∈ ch, (b ∈ X.ex ∨ X.s₀.heap.objs.size ≤ b) ∧ b ≠ X.env.locals ∧ (∀ x c, X.env.cells.lookup x = some c → c ≠ b) ∧ ∀ p ∈ X.pn ++ pins, p.1 ≠ b) : Inv X pins σ H' s' := by
  obtain ⟨h', g', d', t', o'⟩ := s'
  have e : o' = s.os := ho
  subst e
  exact I.call (g' := g') (t' := t') (d' := d') u hok hg hch
end
abbrev XK := Value → Option Addr → Hp → Prop
abbrev St := List (Option V)
abbrev VK := V → Hp → Prop
abbrev TE := St → Hp → VK → Prop
abbrev TT := St → Hp → (Bool → Hp → Prop) → Prop
abbrev TA := St → Hp → (List V → Hp → Prop) → Prop
structure Ends where
  nx : St → Hp → Prop
  rt : VK
  bk : St → Hp → Prop := fun _ _ => False
  ct : St → Hp → Prop := fun _ _ => False
abbrev TS := Ends → St → Hp → Prop
def EP (X : Cx) (pins : List (Addr × Obj)) (σ : St) (Q : VK) (u : Value) (s' : Shared) : Prop := ∃ v H', Inv X pins σ H' s' ∧ RelV v u ∧ Q v H'
def TP (X : Cx) (pins : List (Addr × Obj)) (σ : St) (Q : Bool → Hp → Prop) (b : Bool) (s' : Shared) : Prop := ∃ H', Inv X pins σ H' s' ∧ Q b H'
def AP (X : Cx) (pins : List (Addr × Obj)) (σ : St) (Q : List V → Hp → Prop) (us : List Value) (s' : Shared) : Prop := ∃ vs H', Inv X pins σ H' s' ∧ Vals vs us ∧ Q vs H'
def SP (X : Cx) (pins : List (Addr × Obj)) (D : Ends) (f : Flow) (s' : Shared) : Prop :=
  match f with
  | .next => ∃ σ' H', Inv X pins σ' H' s' ∧ D.nx σ' H'
  | .brk => ∃ σ' H', Inv X pins σ' H' s' ∧ D.bk σ' H'
  | .cont => ∃ σ' H', Inv X pins σ' H' s' ∧ D.ct σ' H'
  | .ret u => ∃ v σ' H', Inv X pins σ' H' s' ∧ RelV v u ∧ D.rt v H'
def PE (X : Cx) (e : Expr) (t : TE) : Prop :=
  ∀ (pins : List (Addr × Obj)) (s : Shared) (σ : St) (H : Hp) (Q : VK), Inv X pins σ H s → t σ H Q → wpAny (model X.prog X.w) X.A (eval e X.env) (EP X pins σ Q) X.xe s
def PT (X : Cx) (e : Expr) (t : TT) : Prop :=
  ∀ (pins : List (Addr × Obj)) (s : Shared) (σ : St) (H : Hp) (Q : Bool → Hp → Prop), Inv X pins σ H s → t σ H Q → wpAny (model X.prog X.w) X.A (isTrue e X.env (eval e X.env)) (TP X pins σ Q) X.xe s
def PW (X : Cx) (e : Expr) (t : TT) : Prop :=
  ∀ (whole : Sem Value) (pins : List (Addr × Obj)) (s : Shared) (σ : St) (H : Hp) (Q : Bool → Hp → Prop), Inv X pins σ H s → t σ H Q → wpAny (model X.prog X.w) X.A (isTrue e X.env whole) (TP X pins σ Q) X.xe s
theorem PW.pt {X : Cx} {e : Expr} {t : TT} (h : PW X e t) : PT X e t := h _
def PA (X : Cx) (es : List Expr) (t : TA) : Prop :=
  ∀ (pos : Pos) (pins : List (Addr × Obj)) (s : Shared) (σ : St) (H : Hp) (Q : List V → Hp → Prop), Inv X pins σ H s → t σ H Q → wpAny (model X.prog X.w) X.A (spliced (backTo pos (starEach es X.env))) (AP X pins σ Q) X.xe s
def PS (X : Cx) (st : Stmt) (t : TS) : Prop :=
  ∀ (pins : List (Addr × Obj)) (s : Shared) (σ : St) (H : Hp) (D : Ends), Inv X pins σ H s → t D σ H → wpAny (model X.prog X.w) X.A (exec st X.env) (SP X pins D) X.xe s
def PSs (X : Cx) (st : List Stmt) (t : TS) : Prop :=
  ∀ (pins : List (Addr × Obj)) (s : Shared) (σ : St) (H : Hp) (D : Ends), Inv X pins σ H s → t D σ H → wpAny (model X.prog X.w) X.A (execs st X.env) (SP X pins D) X.xe s
theorem thn {α : Type} {t : Sem α} {Q Q' : α → Shared → Prop} {M : Model} {A : Around} {E : Value → Shared → Prop} {s : Shared} (h : wpAny M A t Q E s) (hQ : ∀ a s, Q a s → Q' a s) : wpAny M A t Q' E s := wpAny_mono h hQ fun _ _ x => x
end L2
namespace L2
open PySem PySem.Spec PyProof.Rows
section
variable {X : Cx}
def tVar (i : Nat) : TE := fun σ H Q => ∃ v, σ[i]? = some (some v) ∧ Q v H
def tC (v : V) : TE := fun _ H Q => Q v H
theorem pe_var {i : Nat} {x : Str} {pos : Pos} (hN : X.N[i]? = some x) (hv : Vis X.env.scope x) (hd : (x == ("__debug__" : Str)) = false := by decide) (hcd : (x == ("__classdict__" : Str)) = false := by decide) : PE X (.Name x pos) (tVar i) := by
  intro pins s σ H Q I h
  obtain ⟨v, e, h⟩ := h
  obtain ⟨m, hn, hl⟩ := I.loc
  obtain ⟨u, r, l⟩ := hl i x v hN e hv
  have fin : EP X pins σ Q u s := ⟨v, H, I, r, h⟩
  rcases l with ⟨hk, hm⟩ | ⟨hk, c, hc, hcell⟩
  · exact wpAny_Name (wpAny_loadName_local I.ok.kind hk hn hm fin) hd
  · rcases hk with hk | hk
    · exact wpAny_Name (wpAny_loadName_cell I.ok.kind hk hc hcell fin) hd
    · exact wpAny_Name (wpAny_loadName_free I.ok.kind hk hc hcell fin hcd) hd
theorem pe_int {i j pos} : PE X (.Constant (.int i) j pos) (tC (.int i)) := fun _ _ _ H _ I h => wpAny_Constant_int ⟨.int i, H, I.tok _, ⟨_, rfl⟩, h⟩
theorem pe_bl {b j pos} : PE X (.Constant (.bool b) j pos) (tC (.bl b)) := fun _ _ _ H _ I h => Constant_bool ⟨.bl b, H, I, rfl, h⟩
theorem pe_non {j pos} : PE X (.Constant .none j pos) (tC .non) := fun _ _ _ H _ I h => Constant_none ⟨.non, H, I, rfl, h⟩
theorem pe_str {x j pos} : PE X (.Constant (.str x) j pos) (tC (.str x)) := fun _ _ _ H _ I h => Calls.Constant_str ⟨.str x, H, I.tok _, ⟨_, rfl⟩, h⟩
def Gl (X : Cx) (x : Str) : Prop := X.env.kindOf x = some .globalImplicit
theorem ld_glob {E : Value → Shared → Prop} {pins : List (Addr × Obj)} {s : Shared} {σ : St} {H : Hp} {x : Str} {u : Value} {pos : Pos} {Q : Value → Shared → Prop} (I : Inv X pins σ H s) (hg : Gl X x) (hm : X.mg x = some u) (h : Q u s)
    (hd : (x == ("__debug__" : Str)) = false := by decide) : wpAny (model X.prog X.w) X.A (eval (.Name x pos) X.env) Q E s :=
  Calls.Name_function_global I.ok.kind hg (Calls.loadGlobal_global (by rw [I.ok.glob]; exact I.mod.glob.keeps I.bk) hm h) hd
theorem ld_blt {E : Value → Shared → Prop} {pins : List (Addr × Obj)} {s : Shared} {σ : St} {H : Hp} {x : Str} {u : Value} {pos : Pos} {Q : Value → Shared → Prop} (I : Inv X pins σ H s) (hg : Gl X x) (hm : X.mg x = none) (hv : bootBuiltins x = some u) (h : Q u s)
    (hn : x ≠ "__name__" := by decide) (hd : (x == ("__debug__" : Str)) = false := by decide) : wpAny (model X.prog X.w) X.A (eval (.Name x pos) X.env) Q E s := by
  obtain ⟨mb, h1, h2⟩ := I.mod.blt
  exact Calls.Name_function_global I.ok.kind hg (Calls.loadGlobal_builtin (by rw [I.ok.glob]; exact I.mod.glob.keeps I.bk) hm (by rw [I.ok.blt]; exact h1.keeps I.bk) ((h2 x hn).trans hv) h) hd
theorem pe_glob {x : Str} {v : V} {u : Value} {pos : Pos} (hg : Gl X x) (hm : X.mg x = some u) (r : RelV v u) (hd : (x == ("__debug__" : Str)) = false := by decide) : PE X (.Name x pos) (tC v) :=
  fun _ _ _ H _ I h => ld_glob I hg hm ⟨v, H, I, r, h⟩ hd
theorem pe_bltn {x : Str} {v : V} {u : Value} {pos : Pos} (hg : Gl X x) (hm : X.mg x = none) (hv : bootBuiltins x = some u) (r : RelV v u) (hn : x ≠ "__name__" := by decide) (hd : (x == ("__debug__" : Str)) = false := by decide) : PE X (.Name x pos) (tC v) :=
  fun _ _ _ H _ I h => ld_blt I hg hm hv ⟨v, H, I, r, h⟩ hn hd
def t2I (ta tb : TE) (k : Int → Int → Hp → Prop) : St → Hp → Prop := fun σ H => ta σ H fun x H1 => tb σ H1 fun y H2 => ∃ i j, x = .int i ∧ y = .int j ∧ k i j H2
def tAdd (ta tb : TE) : TE := fun σ H Q => t2I ta tb (fun i j H2 => Q (.int (i + j)) H2) σ H
def tSub (ta tb : TE) : TE := fun σ H Q => t2I ta tb (fun i j H2 => Q (.int (i - j)) H2) σ H
def tMul (ta tb : TE) : TE := fun σ H Q => t2I ta tb (fun i j H2 => (-(2 ^ 64) < i ∧ i < 2 ^ 64) ∧ Q (.int (i * j)) H2) σ H
variable {a b : Expr} {ta tb : TE} {pos : Pos}
def PC (X : Cx) (op : CmpOp) (a b : Expr) (t : TE) : Prop :=
  ∀ (pins : List (Addr × Obj)) (s : Shared) (σ : St) (H : Hp) (Q : VK), Inv X pins σ H s → t σ H Q →
    wpAny (model X.prog X.w) X.A (eval a X.env) (fun v s₁ => wpAny (model X.prog X.w) X.A (eval b X.env) (fun u s₂ => wpAny (model X.prog X.w) X.A (compareOp op v u) (EP X pins σ Q) X.xe s₂) X.xe s₁) X.xe s
def tCmp (p : Int → Int → Bool) (ta tb : TE) : TE := fun σ H Q => t2I ta tb (fun i j H2 => Q (.bl (p i j)) H2) σ H
abbrev tLt : TE → TE → TE := tCmp fun i j => decide (i < j)
abbrev tLe : TE → TE → TE := tCmp fun i j => decide (i ≤ j)
abbrev tGt : TE → TE → TE := tCmp fun i j => decide (j < i)
abbrev tGe : TE → TE → TE := tCmp fun i j => decide (j ≤ i)
abbrev tEqI : TE → TE → TE := tCmp fun i j => decide (i = j)
abbrev tNeI : TE → TE → TE := tCmp fun i j => !decide (i = j)
def tIsN (ta : TE) : TE := fun σ H Q => ta σ H fun x H1 => Q (.bl (decide (x = .non))) H1
def tNotN (ta : TE) : TE := fun σ H Q => ta σ H fun x H1 => Q (.bl (!decide (x = .non))) H1
theorem RelV.none_iff {x : V} {v : Value} (r : RelV x v) : (v == Value.none) = decide (x = .non) := by
  cases x with
  | non => cases r; rfl
  | bl _ => cases r; rfl
  | int _ => obtain ⟨t, rfl⟩ := r; rfl
  | str _ => obtain ⟨t, rfl⟩ := r; rfl
  | byt _ => obtain ⟨t, rfl⟩ := r; rfl
  | flt _ => obtain ⟨t, rfl⟩ := r; rfl
  | ref _ => cases r; rfl
  | ty _ => cases r; rfl
theorem pc_isN {j pos'} (ha : PE X a ta) : PC X .Is a (.Constant .none j pos') (tIsN ta) := by
  intro pins s σ H Q I h
  refine thn (ha pins s σ H _ I h) fun v s1 ⟨x, H1, I1, r1, q1⟩ => ?_
  exact Constant_none (is_none_gen ⟨.bl _, H1, I1, by rw [r1.none_iff]; rfl, q1⟩)
def tB (t : TE) : TT := fun σ H Q => t σ H fun x H1 => ∃ c, x = .bl c ∧ Q c H1
theorem pt_cmp {op : CmpOp} {t : TE} (h : PC X op a b t) (h1 : behindInMarks op b = false := by first | exact nobehind _ (by decide) (by decide) | rfl) : PT X (.Compare a [op] [b] pos) (tB t) := by
  intro pins s σ H Q I hw
  refine wpAny_isTrue_Compare1 (thn (h pins s σ H _ I hw) fun v s1 h1 => thn h1 fun u s2 h2 => thn h2 fun c s3 ⟨x, H1, I1, r1, q1⟩ => ?_) h1
  obtain ⟨d, rfl, q⟩ := q1
  cases r1
  exact wpAny_truthy_bool ⟨H1, I1, q⟩
theorem pt_val {e : Expr} {t : TE} (h : PE X e t) (he : ∀ whole, isTrue e X.env whole = (do let v ← whole; standAt e.pos; holding [v] (truthy v)) := by intro _; rfl) : PT X e (tB t) := by
  intro pins s σ H Q I hw
  refine isTrue_plain (thn (h pins s σ H _ I hw) fun v s1 ⟨x, H1, I1, r1, q1⟩ => ?_) (he _)
  obtain ⟨d, rfl, q⟩ := q1
  cases r1
  exact wpAny_truthy_bool ⟨H1, I1, q⟩
variable {tA tB' : TT} {rest : List Expr}
def tAnd (t u : TT) : TT := fun σ H Q => t σ H fun c H1 => if c = true then u σ H1 Q else Q false H1
def tOr (t u : TT) : TT := fun σ H Q => t σ H fun c H1 => if c = true then Q true H1 else u σ H1 Q
def tNot (t : TT) : TT := fun σ H Q => t σ H fun c H1 => Q (!c) H1
theorem pw_and1 (ha : PT X a tA) : PW X (.BoolOp .And [a] pos) tA := by
  intro wh pins s σ H Q I h
  refine isTrue_and (thn (ha pins s σ H Q I h) fun c s1 e => ?_)
  cases c with
  | true => exact isTrue_and_nil e
  | false => exact e
theorem pw_or1 (ha : PT X a tA) : PW X (.BoolOp .Or [a] pos) tA := by
  intro wh pins s σ H Q I h
  refine isTrue_or (thn (ha pins s σ H Q I h) fun c s1 e => ?_)
  cases c with
  | false => exact isTrue_or_nil e
  | true => exact e
theorem pw_and (ha : PT X a tA) (hb : PW X (.BoolOp .And (b :: rest) pos) tB') : PW X (.BoolOp .And (a :: b :: rest) pos) (tAnd tA tB') := by
  intro wh pins s σ H Q I h
  refine isTrue_and (thn (ha pins s σ H _ I h) fun c s1 ⟨H1, I1, q1⟩ => ?_)
  cases c with
  | true => exact hb wh pins s1 σ H1 Q I1 q1
  | false => exact ⟨H1, I1, q1⟩
theorem pw_or (ha : PT X a tA) (hb : PW X (.BoolOp .Or (b :: rest) pos) tB') : PW X (.BoolOp .Or (a :: b :: rest) pos) (tOr tA tB') := by
  intro wh pins s σ H Q I h
  refine isTrue_or (thn (ha pins s σ H _ I h) fun c s1 ⟨H1, I1, q1⟩ => ?_)
  cases c with
  | true => exact ⟨H1, I1, q1⟩
  | false => exact hb wh pins s1 σ H1 Q I1 q1
theorem pt_not (ha : PT X a tA) : PT X (.UnaryOp .Not a pos) (tNot tA) := by
  intro pins s σ H Q I h
  exact isTrue_not (ha pins s σ H (fun c H1 => Q (!c) H1) I h)
def tAndV (ta tb : TE) : TE := fun σ H Q => ta σ H fun x H1 => ∃ c, x = .bl c ∧ if c = true then tb σ H1 Q else Q (.bl false) H1
def tOrV (ta tb : TE) : TE := fun σ H Q => ta σ H fun x H1 => ∃ c, x = .bl c ∧ if c = true then Q (.bl true) H1 else tb σ H1 Q
def tNotV (ta : TE) : TE := fun σ H Q => ta σ H fun x H1 => ∃ c, x = .bl c ∧ Q (.bl (!c)) H1
theorem pe_one {op} {t : TE} (h : PE X a t) : PE X (.BoolOp op [a] pos) t := fun pins s σ H Q I hw => BoolOp_one (h pins s σ H Q I hw)
theorem pe_and (ha : PE X a ta) (hb : PE X (.BoolOp .And (b :: rest) pos) tb) : PE X (.BoolOp .And (a :: b :: rest) pos) (tAndV ta tb) := by
  intro pins s σ H Q I h
  refine BoolOp_and (thn (ha pins s σ H _ I h) fun v s1 ⟨x, H1, I1, r1, q1⟩ => ?_)
  obtain ⟨c, rfl, q1⟩ := q1
  cases r1
  refine wpAny_truthy_bool ?_
  cases c with
  | true => exact hb pins s1 σ H1 Q I1 q1
  | false => exact ⟨.bl false, H1, I1, rfl, q1⟩
def tIf (t : TT) (ta tb : TE) : TE := fun σ H Q => t σ H fun c H1 => if c = true then ta σ H1 Q else tb σ H1 Q
end
end L2
namespace L2
open PySem PySem.Spec PyProof.Rows
def SqL (K : PySem.W.Frag) (H : Hp) (a : Addr) (xs : List V) : Prop :=
  Rd H a (.lst xs) ∨
    ∃ (o : Obj) (its : Array Value) (n : Nat), K.lookup a = some o ∧ o.cls = .type "list" ∧ o.dict = none ∧ o.data = .seq its n ∧ its.size ≤ sizeLine ∧ Vals xs its.toList
def SqT (K : PySem.W.Frag) (H : Hp) (a : Addr) (xs : List V) : Prop :=
  Rd H a (.tup xs) ∨
    ∃ (o : Obj) (its : Array Value) (n : Nat), K.lookup a = some o ∧ o.cls = .type "tuple" ∧ o.data = .seq its n ∧ its.size ≤ sizeLine ∧ Vals xs its.toList
def absV : Value → Option V
  | .none => some .non
  | .bool b => some (.bl b)
  | .int i _ => some (.int i)
  | .str x _ => some (.str x)
  | .bytes b _ => some (.byt b)
  | .float b _ => some (.flt b)
  | .ref a => some (.ref a)
  | .type n => some (.ty n)
  | _ => none
theorem RelV.abs {x : V} {u : Value} (r : RelV x u) : absV u = some x := by
  cases x with
  | non => cases r; rfl
  | bl _ => cases r; rfl
  | int _ => obtain ⟨t, rfl⟩ := r; rfl
  | str _ => obtain ⟨t, rfl⟩ := r; rfl
  | byt _ => obtain ⟨t, rfl⟩ := r; rfl
  | flt _ => obtain ⟨t, rfl⟩ := r; rfl
  | ref _ => cases r; rfl
  | ty _ => cases r; rfl
theorem RelV.inj {x y : V} {u : Value} (r : RelV x u) (q : RelV y u) : x = y := Option.some.inj (r.abs.symm.trans q.abs)
theorem Vals.inj : ∀ {xs ys : List V} {us : List Value}, Vals xs us → Vals ys us → xs = ys
  | _, _, _, .nil, .nil => rfl
  | _, _, _, .cons r t, .cons r' t' => by rw [r.inj r', Vals.inj t t']
section
variable {X : Cx} {pins : List (Addr × Obj)} {σ : St} {H : Hp} {s : Shared} {a : Addr} {xs ys : List V}
theorem SqL.of {K : PySem.W.Frag} (h : H a = some (.lst xs)) : SqL K H a xs := .inl (.inl h)
theorem SqT.of {K : PySem.W.Frag} (h : H a = some (.tup xs)) : SqT K H a xs := .inl (.inl h)
theorem Inv.list (I : Inv X pins σ H s) (h : SqL X.K H a xs) : ∃ its : List Value, Vals xs its ∧ PlainL s.heap a its.toArray ∧ xs.length ≤ sizeLine := by
  rcases h with h | ⟨o, its, n, hk, hc, hd, hs, hz, r⟩
  · obtain ⟨z, its, n, r, e⟩ := h.ok I.hok
    exact ⟨its, r, ⟨_, n, e, rfl, rfl, rfl⟩, z⟩
  · refine ⟨its.toList, r, ⟨o, n, I.kIn a o hk, hc, hd, by simpa using hs⟩, ?_⟩
    have e := r.length
    simp only [Array.length_toList] at e
    omega
theorem Inv.tuple (I : Inv X pins σ H s) (h : SqT X.K H a xs) : ∃ its : List Value, Vals xs its ∧ IsTup s.heap a its.toArray ∧ xs.length ≤ sizeLine := by
  rcases h with h | ⟨o, its, n, hk, hc, hs, hz, r⟩
  · obtain ⟨z, its, r, p⟩ := h.ok I.hok
    exact ⟨its, r, p, z⟩
  · refine ⟨its.toList, r, ⟨o, I.kIn a o hk, hc, n, by simpa using hs⟩, ?_⟩
    have e := r.length
    simp only [Array.length_toList] at e
    omega
theorem Inv.list_inj (I : Inv X pins σ H s) (h : SqL X.K H a xs) (h' : SqL X.K H a ys) : xs = ys := by
  obtain ⟨its, r, ⟨o, n, e, _, _, d⟩, _⟩ := I.list h
  obtain ⟨its', r', ⟨o', n', e', _, _, d'⟩, _⟩ := I.list h'
  rw [e] at e'; cases e'
  rw [d] at d'
  injection d' with d1 _
  have : its = its' := by simpa using congrArg Array.toList d1
  subst this
  exact r.inj r'
end
abbrev Cx.wish (X : Cx) (E : Value → Shared → Prop) : Cx := { X with xe := E }
abbrev Cx.nox (X : Cx) : Cx := X.wish fun _ _ => False
theorem Cx.Ok.wish {X : Cx} (ok : X.Ok) (E : Value → Shared → Prop) : (X.wish E).Ok :=
  ⟨ok.mod, ok.kind, ok.glob, ok.blt, ok.above, ok.inj, ok.has, ok.cab, ok.hd, ok.frames, ok.stk, ok.exf, ok.bs, ok.bsz, ok.noex, ok.exfs, ok.funs, ok.frf⟩
theorem Cx.Ok.unwish {X : Cx} {E : Value → Shared → Prop} (ok : (X.wish E).Ok) : X.Ok :=
  ⟨ok.mod, ok.kind, ok.glob, ok.blt, ok.above, ok.inj, ok.has, ok.cab, ok.hd, ok.frames, ok.stk, ok.exf, ok.bs, ok.bsz, ok.noex, ok.exfs, ok.funs, ok.frf⟩
section
variable {X : Cx} {pins : List (Addr × Obj)} {σ : St} {H : Hp} {s : Shared} {E : Value → Shared → Prop}
theorem Inv.wish (I : Inv X pins σ H s) (E : Value → Shared → Prop) : Inv (X.wish E) pins σ H s := ⟨I.ok.wish E, I.os, I.bare, I.base, I.loc, I.cell, I.free, I.freeC, I.pin, I.hok, I.len⟩
theorem Inv.unwish (I : Inv (X.wish E) pins σ H s) : Inv X pins σ H s := ⟨I.ok.unwish, I.os, I.bare, I.base, I.loc, I.cell, I.free, I.freeC, I.pin, I.hok, I.len⟩
theorem SP.unwish {D : Ends} {f : Flow} {s' : Shared} (h : SP (X.wish E) pins D f s') : SP X pins D f s' := by
  cases f with
  | next => obtain ⟨σ', H', I, q⟩ := h; exact ⟨σ', H', I.unwish, q⟩
  | brk => obtain ⟨σ', H', I, q⟩ := h; exact ⟨σ', H', I.unwish, q⟩
  | cont => obtain ⟨σ', H', I, q⟩ := h; exact ⟨σ', H', I.unwish, q⟩
  | ret u => obtain ⟨v, σ', H', I, r, q⟩ := h; exact ⟨v, σ', H', I.unwish, r, q⟩
theorem PSs.nox {st : List Stmt} {t : TS} (h : PSs X.nox st t) : PSs X st t := fun pins s σ H D I hw =>
  wpAny_mono (h pins s σ H D (I.wish _) hw) (fun _ _ q => q.unwish) fun _ _ z => False.elim z
end
section
variable {X : Cx} {st : Stmt} {rest : List Stmt} {t u : TS} {e : Expr} {te : TE} {pos : Pos}
def tNext : TS := fun D σ H => D.nx σ H
def tSeq (t u : TS) : TS := fun D σ H => t { D with nx := u D } σ H
theorem pss_nil : PSs X [] tNext := fun _ _ σ H _ I h => wpAny_execs_nil ⟨σ, H, I, h⟩
theorem pss_cons (h1 : PS X st t) (h2 : PSs X rest u) : PSs X (st :: rest) (tSeq t u) := by
  intro pins s σ H D I h
  refine wpAny_execs_cons (thn (h1 pins s σ H { D with nx := u D } I h) fun f s1 q => ?_)
  cases f with
  | next =>
    obtain ⟨σ', H', I', q⟩ := q
    exact h2 pins s1 σ' H' D I' q
  | ret v => exact q
  | brk => exact q
  | cont => exact q
theorem pss_one (h1 : PS X st t) : PSs X [st] t := by
  intro pins s σ H D I h
  refine wpAny_execs_cons (thn (h1 pins s σ H D I h) fun f s1 q => ?_)
  cases f with
  | next => exact wpAny_execs_nil q
  | ret v => exact q
  | brk => exact q
  | cont => exact q
def tBreak : TS := fun D σ H => D.bk σ H
def tCont : TS := fun D σ H => D.ct σ H
theorem Inv.quiet {pins : List (Addr × Obj)} {σ : St} {H : Hp} {s : Shared} (I : Inv X pins σ H s) : interactive X.env = false := by simp [interactive, I.ok.kind]
def tDrop (te : TE) : TS := fun D σ H => te σ H fun _ H1 => D.nx σ H1
theorem ps_expr (he : PE X e te) (hs : swapsWith e none pos.line X.env = pure false := by rfl) : PS X (.Expr e pos) (tDrop te) := by
  intro pins s σ H D I h
  exact wpAny_Expr_any (thn (he pins s σ H _ I h) fun v s1 ⟨x, H1, I1, r1, q1⟩ => ⟨σ, H1, I1, q1⟩) I.quiet hs
def tRet (te : TE) : TS := fun D σ H => te σ H D.rt
theorem ps_ret (he : PE X e te) : PS X (.Return (some e) pos) (tRet te) := by
  intro pins s σ H D I h
  exact wpAny_Return_some (thn (he pins s σ H _ I h) fun v s1 ⟨x, H1, I1, r1, q1⟩ => ⟨x, σ, H1, I1, r1, q1⟩)
def tRetN : TS := fun D _ H => D.rt .non H
def tIfS (c : TT) (t u : TS) : TS := fun D σ H => c σ H fun b H1 => if b = true then t D σ H1 else u D σ H1
theorem ps_if {c : Expr} {a b : List Stmt} {tc : TT} (hc : PT X c tc) (ha : PSs X a t) (hb : PSs X b u) : PS X (.If c a b pos) (tIfS tc t u) := by
  intro pins s σ H D I h
  refine wpAny_If (thn (hc pins s σ H _ I h) fun d s1 ⟨H1, I1, q1⟩ => ?_)
  cases d with
  | true => exact ha pins s1 σ H1 D I1 q1
  | false => exact hb pins s1 σ H1 D I1 q1
def tNever : TS := fun _ _ _ => False
theorem pss_never {sts : List Stmt} : PSs X sts tNever := fun _ _ _ _ _ _ h => h.elim
end
abbrev TG := V → St → Hp → (St → Hp → Prop) → Prop
abbrev TGs := List V → St → Hp → (St → Hp → Prop) → Prop
def PG (X : Cx) (target : Expr) (t : TG) : Prop :=
  ∀ (pins : List (Addr × Obj)) (s : Shared) (σ : St) (H : Hp) (v : V) (u : Value) (Q : St → Hp → Prop), Inv X pins σ H s → RelV v u → t v σ H Q →
    wpAny (model X.prog X.w) X.A (assign target X.env u) (fun _ s' => ∃ σ' H', Inv X pins σ' H' s' ∧ Q σ' H') X.xe s
def PGs (X : Cx) (ts : List Expr) (t : TGs) : Prop :=
  ∀ (pins : List (Addr × Obj)) (s : Shared) (σ : St) (H : Hp) (vs : List V) (us : List Value) (Q : St → Hp → Prop), Inv X pins σ H s → Vals vs us → t vs σ H Q →
    wpAny (model X.prog X.w) X.A (assignInOrder ((assignEach ts X.env).map (·.2)) us) (fun _ s' => ∃ σ' H', Inv X pins σ' H' s' ∧ Q σ' H') X.xe s
abbrev TSet := V → V → V → Hp → (Hp → Prop) → Prop
def PSet (X : Cx) (t : TSet) : Prop :=
  ∀ (pins : List (Addr × Obj)) (s : Shared) (σ : St) (H : Hp) (o i v : V) (ov iv u : Value) (Q : Hp → Prop), Inv X pins σ H s → RelV o ov → RelV i iv → RelV v u → t o i v H Q →
    wpAny (model X.prog X.w) X.A (setItem ov iv u) (fun _ s' => ∃ H', Inv X pins σ H' s' ∧ Q H') X.xe s
abbrev TIp := V → V → Hp → VK → Prop
def PIp (X : Cx) (op : Operator) (t : TIp) : Prop :=
  ∀ (pins : List (Addr × Obj)) (s : Shared) (σ : St) (H : Hp) (x y : V) (v u : Value) (Q : VK), Inv X pins σ H s → RelV x v → RelV y u → t x y H Q →
    wpAny (model X.prog X.w) X.A (inplaceOp op v u) (EP X pins σ Q) X.xe s
section
variable {X : Cx} {pos : Pos}
def gName (i : Nat) : TG := fun v σ H Q => Q (σ.set i (some v)) H
theorem pg_name {i : Nat} {x : Str} (hN : X.N.Nodup) (hi : X.N[i]? = some x) (hx : Loc X.env.scope x) (hf : X.fn x = true ∨ X.env.scope.names.lookup x = some .local := by first | exact .inl rfl | exact .inr rfl | assumption) : PG X (.Name x pos) (gName i) := by
  intro pins s σ H v u Q I r h
  exact wpAny_assign_Name (store_ok I hN hi hx r (fun s' I' => ⟨_, H, I', h⟩) hf)
def gNil : TGs := fun vs σ H Q => vs = [] ∧ Q σ H
def gCons (t : TG) (u : TGs) : TGs := fun vs σ H Q => ∃ v r, vs = v :: r ∧ t v σ H fun σ' H' => u r σ' H' Q
def gTup (K : PySem.W.Frag) (n : Nat) (t : TGs) : TG := fun v σ H Q => ∃ a xs, v = .ref a ∧ SqT K H a xs ∧ xs.length = n ∧ t xs σ H Q
def gSub (to ti : TE) (t : TSet) : TG := fun v σ H Q => to σ H fun o H1 => ti σ H1 fun i H2 => t o i v H2 fun H3 => Q σ H3
theorem pg_sub {o i : Expr} {to ti : TE} {t : TSet} (ho : PE X o to) (hi : PE X i ti) (hs : PSet X t)
    (ha : ∀ v, assign (.Subscript o i pos) X.env v = (do
      let ov ← holding [v] (eval o X.env)
      let iv ← holding [v, ov] (eval i X.env)
      standAt pos
      holding [v, ov, iv] (setItem ov iv v)
      release [v, ov, iv] []) := by intro _; rfl) : PG X (.Subscript o i pos) (gSub to ti t) := by
  intro pins s σ H v u Q I r h
  rw [ha]
  refine wpAny_bind (wpAny_holding (thn (ho pins s σ H _ I h) fun ov s1 ⟨x, H1, I1, r1, q1⟩ => ?_))
  refine wpAny_bind (wpAny_holding (thn (hi pins s1 σ H1 _ I1 q1) fun iv s2 ⟨y, H2, I2, r2, q2⟩ => ?_))
  refine wpAny_bind (wpAny_standAt (wpAny_bind (wpAny_holding (thn (hs pins s2 σ H2 x y v ov iv u _ I2 r1 r2 r q2) fun _ s3 ⟨H3, I3, q3⟩ => ?_))))
  exact wpAny_release ⟨σ, H3, I3, q3⟩
def tAsg (te : TE) (g : TG) : TS := fun D σ H => te σ H fun x H1 => g x σ H1 D.nx
theorem ps_asg {tg e : Expr} {te : TE} {g : TG} (he : PE X e te) (hg : PG X tg g) (hs : swapsWithSole [tg] e pos.line X.env = pure false := by rfl) (hw : swappedStores [tg] e X.env = pure none := by rfl)
    (h1 : (assignEach [tg] X.env).map (·.2) = [assign tg X.env] := by rfl) : PS X (.Assign [tg] e pos) (tAsg te g) := by
  intro pins s σ H D I h
  refine wpAny_Assign_stores (thn (he pins s σ H _ I h) fun v s1 ⟨x, H1, I1, r1, q1⟩ => ?_) hs hw
  rw [h1]
  exact thn (hg pins s1 σ H1 x v _ I1 r1 q1) fun _ s2 q => q
theorem ps_set {i : Nat} {x : Str} {e : Expr} {te : TE} {pos' : Pos} (hN : X.N.Nodup) (hi : X.N[i]? = some x) (hx : Loc X.env.scope x) (he : PE X e te) (hs : swapsWith e (some (.Name x pos')) pos.line X.env = pure false := by rfl) (hf : X.fn x = true ∨ X.env.scope.names.lookup x = some .local := by first | exact .inl rfl | exact .inr rfl | assumption) :
    PS X (.Assign [.Name x pos'] e pos) (tAsg te (gName i)) := by
  intro pins s σ H D I h
  refine wpAny_Assign_Name (thn (he pins s σ H _ I h) fun v s1 ⟨y, H1, I1, r1, q1⟩ => ?_) hs
  exact store_ok I1 hN hi hx r1 (fun s2 I2 => ⟨_, H1, I2, q1⟩) hf
def tPar (i j : Nat) (ta : TA) : TS := fun D σ H => ta σ H fun vs H1 => ∃ v w, vs = [v, w] ∧ D.nx ((σ.set i (some v)).set j (some w)) H1
def tAug (i : Nat) (te : TE) (ti : TIp) : TS := fun D σ H => ∃ x, σ[i]? = some (some x) ∧ te σ H fun y H1 => ti x y H1 fun z H2 => D.nx (σ.set i (some z)) H2
def tAugS (to ti te : TE) (tget : V → V → Hp → VK → Prop) (tip : TIp) (tset : TSet) : TS := fun D σ H => to σ H fun o H1 => ti σ H1 fun i H2 => tget o i H2 fun x H3 => te σ H3 fun y H4 => tip x y H4 fun z H5 => tset o i z H5 fun H6 => D.nx σ H6
def PGet (X : Cx) (t : V → V → Hp → VK → Prop) : Prop :=
  ∀ (pins : List (Addr × Obj)) (s : Shared) (σ : St) (H : Hp) (o i : V) (ov iv : Value) (Q : VK), Inv X pins σ H s → RelV o ov → RelV i iv → t o i H Q →
    wpAny (model X.prog X.w) X.A (getItem ov iv) (EP X pins σ Q) X.xe s
def ipI (f : Int → Int → Int) : TIp := fun x y H Q => ∃ i j, x = .int i ∧ y = .int j ∧ Q (.int (f i j)) H
end
section
variable {X : Cx} {pos : Pos}
def tWhile (c : TT) (tb : TS) : TS := fun D σ H => ∃ W : Nat → St → Hp → Prop, (∃ m, W m σ H) ∧ ∀ m σ H, W m σ H →
  c σ H fun b H1 => if b = true then ∃ N : St → Hp → Prop, (∀ σ' H', N σ' H' → ∃ m', m' < m ∧ W m' σ' H') ∧ tb { D with nx := N, ct := N, bk := D.nx } σ H1 else D.nx σ H1
end
structure It where
  go : Nat → Hp → Prop
  yld : Nat → Hp → V → Hp → Prop
  stop : Nat → Hp → Prop
def FpOk (X : Cx) (pins : List (Addr × Obj)) (H : Hp) (b : Addr) : Prop :=
  H b = none ∧ b ≠ X.env.locals ∧ b ∉ X.fs ∧ (b ∈ X.ex ∨ X.s₀.heap.objs.size ≤ b) ∧ (∀ x c, X.env.cells.lookup x = some c → c ≠ b) ∧ ∀ p ∈ X.pn ++ pins, p.1 ≠ b
theorem Inv.fpOk {X : Cx} {pins : List (Addr × Obj)} {σ : St} {H H' : Hp} {s : Shared} {b : Addr} (I : Inv X pins σ H s) (hb : s.heap.objs.size ≤ b) (hn : H' b = none) : FpOk X pins H' b := by
  refine ⟨hn, Nat.ne_of_gt (Nat.lt_of_lt_of_le I.lt hb), I.nofs hb, .inr (Nat.le_trans I.sz hb), fun x c e z => ?_, fun p hp z => ?_⟩
  · obtain ⟨v, q⟩ := I.cell x c e
    exact absurd (Nat.lt_of_lt_of_le q.lt (by rw [z]; exact hb)) (Nat.lt_irrefl _)
  · exact absurd (Nat.lt_of_lt_of_le (Heap.lt_size (I.pin p hp).1) (by rw [z]; exact hb)) (Nat.lt_irrefl _)
structure Turn (P : Program) (w : World) (K : PySem.W.Frag) (tg : Expr) (J : It) (fp : List Addr) (it : Addr) (tn : Nat → Heap → Prop) : Prop where
  mem : it ∈ fp
  obj : ∀ i h, tn i h → ∀ b ∈ fp, ∃ o, h.get? b = some o ∧ ∀ v, o.data ≠ .cell v
  keep : ∀ i h h', tn i h → (∀ b ∈ fp, ∀ o, h.get? b = some o → h'.get? b = some o) → tn i h'
  item : ∀ (X : Cx), X.prog = P → X.w = w → X.K = K → X.calm = true → ∀ (i : Nat) (pins : List (Addr × Obj)) (s : Shared) (σ : St) (H : Hp) (E : Value → Shared → Prop), Inv X pins σ H s → (∀ b ∈ fp, FpOk X pins H b) → tn i s.heap → J.go i H →
    wpAny (model P w) X.A (pyNext (.ref it)) (fun r s1 => ∃ u, r = some u ∧
      wpAny (model P w) X.A (letOwnedTupleGo tg (.ref it) u) (fun _ s2 => ∃ x H', Inv X pins σ H' s2 ∧ RelV x u ∧ J.yld i H x H' ∧ tn (i + 1) s2.heap ∧ ∀ b ∈ fp, H' b = none) E s1) E s
  done : ∀ (X : Cx), X.prog = P → X.w = w → X.K = K → X.calm = true → ∀ (i : Nat) (pins : List (Addr × Obj)) (s : Shared) (σ : St) (H : Hp) (E : Value → Shared → Prop), Inv X pins σ H s → (∀ b ∈ fp, FpOk X pins H b) → tn i s.heap → J.stop i H →
    wpAny (model P w) X.A (pyNext (.ref it)) (fun r s1 => r = none ∧ Inv X pins σ H s1) E s
  self : ∀ (A : Around) (i : Nat) (s : Shared) (Q : Value → Shared → Prop) (E : Value → Shared → Prop), tn i s.heap → Q (.ref it) s → wpAny (model P w) A (pyIter (.ref it)) Q E s
abbrev TI := St → Hp → (It → Hp → Prop) → Prop
def PIE (X : Cx) (pins : List (Addr × Obj)) (σ : St) (tg : Expr) (R : It → Hp → Prop) (itv : Value) (s2 : Shared) : Prop :=
  ∃ (it : Addr) (fp : List Addr) (tn : Nat → Heap → Prop) (J : It) (H' : Hp), itv = .ref it ∧ Inv X pins σ H' s2 ∧ Turn X.prog X.w X.K tg J fp it tn ∧ tn 0 s2.heap ∧ (∀ b ∈ fp, FpOk X pins H' b) ∧ R J H'
def PI (X : Cx) (tg iter : Expr) (wi : TI) : Prop :=
  ∀ (pins : List (Addr × Obj)) (s : Shared) (σ : St) (H : Hp) (R : It → Hp → Prop), Inv X pins σ H s → wi σ H R →
    wpAny (model X.prog X.w) X.A (eval iter X.env) (fun v s1 => wpAny (model X.prog X.w) X.A (pyIter v) (PIE X pins σ tg R) X.xe s1) X.xe s
theorem go_of {M : Model} {A : Around} {E : Value → Shared → Prop} {s : Shared} {tg : Expr} {it : Addr} {u : Value} {o : Obj} {n : String} {vs : Array Value} {Q : Unit → Shared → Prop} (ho : s.heap.get? it = some o) (hc : o.cls = .type n) (hd : o.data = .fields vs)
    (hn : ["enumerate", "zip", "dict_itemiterator", "dict_reverseitemiterator", "odict_iterator", "itertools.zip_longest", "itertools.pairwise"].contains n = false) (hQ : Q () s) : wpAny M A (letOwnedTupleGo tg (.ref it) u) Q E s := by
  unfold letOwnedTupleGo
  cases tg <;> first
    | exact wpAny_pure hQ
    | (cases u <;> first
        | exact wpAny_pure hQ
        | (refine wpAny_bind (wpAny_load ho ?_)
           rw [hc, hd]
           show wpAny M A (if (["enumerate", "zip", "dict_itemiterator", "dict_reverseitemiterator", "odict_iterator", "itertools.zip_longest", "itertools.pairwise"].contains n && vs[0]? == some (rawInt _)) = true then _ else _) Q E s
           rw [if_neg (by intro h; rw [hn, Bool.false_and] at h; cases h)]
           exact wpAny_pure hQ))
def Itl (K : PySem.W.Frag) (a : Addr) : It :=
  ⟨fun i H => ∃ xs x, SqL K H a xs ∧ xs[i]? = some x, fun i H x H' => H' = H ∧ ∀ xs, SqL K H a xs → xs[i]? = some x, fun i H => ∃ xs, SqL K H a xs ∧ xs.length ≤ i⟩
def Itt (K : PySem.W.Frag) (a : Addr) : It :=
  ⟨fun i H => ∃ xs x, SqT K H a xs ∧ xs[i]? = some x, fun i H x H' => H' = H ∧ ∀ xs, SqT K H a xs → xs[i]? = some x, fun i H => ∃ xs, SqT K H a xs ∧ xs.length ≤ i⟩
def Itr (lo : Int) (n : Nat) : It := ⟨fun i _ => i < n, fun i H x H' => H' = H ∧ x = .int (lo + i), fun i _ => n ≤ i⟩
theorem turn_list {P : Program} {w : World} {K : PySem.W.Frag} {tg : Expr} (a it : Addr) : Turn P w K tg (Itl K a) [it] it (fun i h => h.IsListIter it a i) where
  mem := by simp
  obj := fun i h st b hb => by
    have e : b = it := by simpa using hb
    subst e
    obtain ⟨o, e, c, d⟩ := st
    exact ⟨o, e, fun v z => by rw [d] at z; cases z⟩
  keep := fun i h h' st k => st.at fun o e => k it (by simp) o e
  item := by
    intro X hP hw hK hc i pins s σ H E I hf st hg
    subst hP hw hK
    obtain ⟨xs, x, hq, hx⟩ := hg
    obtain ⟨its, rv, p, hz⟩ := I.list hq
    obtain ⟨u, hu, ru⟩ := rv.get hx
    obtain ⟨f0, f1, f2, f3, f4, f5⟩ := hf it (by simp)
    refine wpAny_pyNext_list_item st p.isList (x := u) (by simpa using hu) fun h' st' sb => ?_
    have I1 : Inv X pins σ H { s with heap := h' } := I.turned (t' := s.toks) (fun b o hb e => (sb.2 b hb).trans e) f0 f1 f3 f4 f5
    obtain ⟨o, e, c, d⟩ := id st'
    exact ⟨u, rfl, go_of (s := { s with heap := h' }) e c d (by decide) ⟨x, H, I1, ru, ⟨rfl, fun ys hy => by rw [I.list_inj hy hq]; exact hx⟩, st', fun b hb => (hf b hb).1⟩⟩
  done := by
    intro X hP hw hK hc i pins s σ H E I hf st hg
    subst hP hw hK
    obtain ⟨xs, hq, hx⟩ := hg
    obtain ⟨its, rv, p, hz⟩ := I.list hq
    obtain ⟨f0, f1, f2, f3, f4, f5⟩ := hf it (by simp)
    have hl := rv.length
    exact wpAny_pyNext_list_end (I.ok.hd hc) st p.isList (by simp; omega) fun h' eb => ⟨rfl, I.turned (t' := s.toks) (fun b o hb e => eb b o hb e) f0 f1 f3 f4 f5⟩
  self := fun _ _ _ _ _ st h => wpAny_pyIter_listiter st h
theorem turn_range {P : Program} {w : World} {K : PySem.W.Frag} {tg : Expr} (it : Addr) (lo : Int) (n : Nat) : Turn P w K tg (Itr lo n) [it] it (fun i h => IsRangeIter h it (lo + (i : Nat) * 1) ((n : Int) - (i : Nat)) 1) where
  mem := by simp
  obj := fun i h st b hb => by
    have e : b = it := by simpa using hb
    subst e
    exact ⟨_, st, fun v z => by
      have z' : Data.fields _ = Data.cell v := z
      cases z'⟩
  keep := fun i h h' st k => k it (by simp) _ st
  item := by
    intro X hP hw hK hc i pins s σ H E I hf st hg
    subst hP hw hK
    obtain ⟨f0, f1, f2, f3, f4, f5⟩ := hf it (by simp)
    have W := Walks.range (prog := X.prog) (w := X.w) (I.ok.hd hc) it lo 1 n
    refine W.item i s _ _ hg st fun v h' tk hv st' kk => ?_
    obtain ⟨t, rfl⟩ := hv
    have I1 : Inv X pins σ H { s with heap := h', toks := tk } := I.turned (fun b o hb e => kk b o (by simpa using hb) e) f0 f1 f3 f4 f5
    refine ⟨_, rfl, go_of (s := { s with heap := h', toks := tk }) (n := "range_iterator") st' rfl rfl (by decide) ⟨.int (lo + i), H, I1, ⟨t, ?_⟩, ⟨rfl, rfl⟩, st', fun b hb => (hf b hb).1⟩⟩
    rw [Int.mul_one]
  done := by
    intro X hP hw hK hc i pins s σ H E I hf st hg
    subst hP hw hK
    obtain ⟨f0, f1, f2, f3, f4, f5⟩ := hf it (by simp)
    exact wpAny_pyNext_range_end (I.ok.hd hc) st (by have : n ≤ i := hg; omega) fun h' eb => ⟨rfl, I.turned (t' := s.toks) (fun b o hb e => eb b o hb e) f0 f1 f3 f4 f5⟩
  self := fun _ _ _ _ _ st h => wpAny_pyIter_rangeiter st h
end L2
namespace L2
open PySem PySem.Spec PyProof.Rows
section
variable {X : Cx} {tg : Expr}
def iList (K : PySem.W.Frag) (tl : TE) : TI := fun σ H R => tl σ H fun x H1 => ∃ a, x = .ref a ∧ (∃ xs, SqL K H1 a xs) ∧ R (Itl K a) H1
def iTup (K : PySem.W.Frag) (tl : TE) : TI := fun σ H R => tl σ H fun x H1 => ∃ a, x = .ref a ∧ (∃ xs, SqT K H1 a xs) ∧ R (Itt K a) H1
theorem pi_list {l : Expr} {tl : TE} (hl : PE X l tl) : PI X tg l (iList X.K tl) := by
  intro pins s σ H R I h
  refine thn (hl pins s σ H _ I h) fun v s1 ⟨x, H1, I1, r1, q1⟩ => ?_
  obtain ⟨a, e, ⟨xs, hq⟩, q⟩ := q1
  subst e
  cases r1
  obtain ⟨its, rv, p, hz⟩ := I1.list hq
  refine wpAny_pyIter_list p.isList ?_
  refine ⟨s1.heap.objs.size, [s1.heap.objs.size], _, _, H1, rfl, I1.kept (t' := s1.toks) fun b o e => Heap.get?_push_of_some _ e, turn_list a _, ⟨_, Heap.get?_push_size _ rfl, rfl, rfl⟩, fun b hb => ?_, q⟩
  have e : b = s1.heap.objs.size := by simpa using hb
  subst e
  exact I1.fpOk (Nat.le_refl _) (I1.hok.fresh (Nat.le_refl _))
theorem range_it {pins : List (Addr × Obj)} {σ : St} {H : Hp} {s : Shared} {R : It → Hp → Prop} {E : Value → Shared → Prop} {lo hi : Int} {t u v : Tok} {tk : Nat} (I : Inv X pins σ H s) (h1 : -(2 ^ 62) ≤ lo) (h2 : lo < 2 ^ 62) (h3 : -(2 ^ 62) ≤ hi) (h4 : hi < 2 ^ 62)
    (q : R (Itr lo (hi - lo).toNat) H) : wpAny (model X.prog X.w) X.A (pyIter (.ref s.heap.objs.size)) (PIE X pins σ tg R) E { s with heap := s.heap.push { cls := .type "range", data := .fields #[.int lo t, .int hi u, .int 1 v] }, toks := tk } := by
  refine wpAny_pyIter_range (IsRange.new ..) (small_one h1 h2 h3 h4) ?_
  have I1 : Inv X pins σ H { s with heap := s.heap.push { cls := .type "range", data := .fields #[.int lo t, .int hi u, .int 1 v] }, toks := tk } := I.kept fun b o e => Heap.get?_push_of_some _ e
  refine ⟨(s.heap.push { cls := .type "range", data := .fields #[.int lo t, .int hi u, .int 1 v] }).objs.size, [(s.heap.push { cls := .type "range", data := .fields #[.int lo t, .int hi u, .int 1 v] }).objs.size], _, _, H, rfl,
    I1.kept (t' := tk) fun b o e => Heap.get?_push_of_some _ e, turn_range _ lo (hi - lo).toNat, ?_, fun b hb => ?_, q⟩
  · have e1 : lo + ((0 : Nat) : Int) * 1 = lo := by simp
    have e2 : (((hi - lo).toNat : Nat) : Int) - ((0 : Nat) : Int) = Builtin.Range.rangeSize lo hi 1 := by rw [rangeSize_one]; split <;> omega
    show IsRangeIter _ _ (lo + ((0 : Nat) : Int) * 1) ((((hi - lo).toNat : Nat) : Int) - ((0 : Nat) : Int)) 1
    rw [e1, e2]
    exact Heap.get?_push_size _ rfl
  · have e : b = (s.heap.push { cls := .type "range", data := .fields #[.int lo t, .int hi u, .int 1 v] }).objs.size := by simpa using hb
    subst e
    exact I1.fpOk (Nat.le_refl _) (I1.hok.fresh (Nat.le_refl _))
def iRng1 (ta : TA) : TI := fun σ H R => ta σ H fun vs H1 => ∃ j : Int, vs = [.int j] ∧ -(2 ^ 62) ≤ j ∧ j < 2 ^ 62 ∧ R (Itr 0 j.toNat) H1
def iRng2 (ta : TA) : TI := fun σ H R => ta σ H fun vs H1 => ∃ i j : Int, vs = [.int i, .int j] ∧ (-(2 ^ 62) ≤ i ∧ i < 2 ^ 62 ∧ -(2 ^ 62) ≤ j ∧ j < 2 ^ 62) ∧ R (Itr i (j - i).toNat) H1
theorem pi_range1 {a : Expr} {ta : TA} {p pos : Pos} (hg : Gl X "range") (hm : X.mg "range" = none) (ha : PA X [a] ta) (hs : starEach [a] X.env = [(false, eval a X.env)] := by rfl) : PI X tg (.Call (.Name "range" p) [a] [] pos) (iRng1 ta) := by
  intro pins s σ H R I h
  refine Call_ (ld_blt I hg hm boot_range (PyProof.Rows.callWith_type1 (thn (ha pos pins s σ H _ I h) fun us s1 ⟨vs, H1, I1, r1, q1⟩ => ?_) hs rfl))
  obtain ⟨j, e, q1, q2, q⟩ := q1
  subst e
  cases r1 with
  | cons r rr =>
    cases rr
    obtain ⟨t, rfl⟩ := r
    exact call_range_1 (range_it I1 (by omega) (by omega) q1 q2 (by simpa using q))
def tFor (wi : TI) (g : TG) (tb : TS) : TS := fun D σ H => wi σ H fun J H1 => ∃ W : Nat → Nat → St → Hp → Prop, (∃ m, W 0 m σ H1) ∧ ∀ i m σ H, W i m σ H →
  (J.stop i H ∧ D.nx σ H) ∨ (J.go i H ∧ ∃ N : St → Hp → Prop, (∀ σ' H', N σ' H' → ∃ m', m' < m ∧ W (i + 1) m' σ' H') ∧ ∀ x H', J.yld i H x H' → g x σ H' fun σ2 H2 => tb { D with nx := N, ct := N, bk := D.nx } σ2 H2)
def pinsAt (fp : List Addr) (h : Heap) : List (Addr × Obj) := fp.filterMap fun b => (h.get? b).map fun o => (b, o)
theorem mem_pinsAt {fp : List Addr} {h : Heap} {b : Addr} {o : Obj} (hb : b ∈ fp) (e : h.get? b = some o) : (b, o) ∈ pinsAt fp h := List.mem_filterMap.mpr ⟨b, hb, by rw [e]; rfl⟩
theorem of_pinsAt {fp : List Addr} {h : Heap} {p : Addr × Obj} (hp : p ∈ pinsAt fp h) : p.1 ∈ fp ∧ h.get? p.1 = some p.2 := by
  obtain ⟨b, hb, e⟩ := List.mem_filterMap.mp hp
  cases q : h.get? b with
  | none => rw [q] at e; cases e
  | some o =>
    rw [q] at e
    have e' : (b, o) = p := Option.some.inj e
    subst e'
    exact ⟨hb, q⟩
theorem Inv.pinned {pins : List (Addr × Obj)} {σ : St} {H : Hp} {s : Shared} {fp : List Addr} (I : Inv X pins σ H s) (hf : ∀ b ∈ fp, FpOk X pins H b) (ho : ∀ b ∈ fp, ∃ o, s.heap.get? b = some o ∧ ∀ v, o.data ≠ .cell v) : Inv X (pins ++ pinsAt fp s.heap) σ H s :=
  I.pins_of fun p hp => (List.mem_append.mp hp).elim (fun z => I.pin p (List.mem_append_right _ z)) fun z => by
    obtain ⟨hb, e⟩ := of_pinsAt z
    obtain ⟨f0, f1, f2, _⟩ := hf p.1 hb
    obtain ⟨o, e', d⟩ := ho p.1 hb
    rw [e] at e'; cases e'
    exact ⟨e, f0, f1, f2, d⟩
theorem Inv.unpinned {pins pl : List (Addr × Obj)} {σ : St} {H : Hp} {s : Shared} (I : Inv X (pins ++ pl) σ H s) : Inv X pins σ H s := I.pins_of fun p hp => I.pin p (List.mem_append_right _ (List.mem_append_left _ hp))
theorem ps_for {iter : Expr} {body : List Stmt} {wi : TI} {g : TG} {tb : TS} {pos : Pos} (hp : PassesOwn (model X.prog X.w) X.A X.env X.xe) (hc : X.calm = true) (hi : PI X tg iter wi) (hg : PG X tg g) (hb : PSs X body tb)
    (hs : ∀ x, foldedSetIterable iter X.env x = pure x := by intro _; rfl) : PS X (.For tg iter body [] pos) (tFor wi g tb) := by
  intro pins s σ H D I h
  refine wpAny_For (thn (hi pins s σ H _ I h) fun v s1 h1 => thn h1 fun itv s2 h2 => ?_) hs
  obtain ⟨it, fp, tn, J, H2, e, I2, T, st2, f2, W, ⟨m0, w0⟩, turn⟩ := h2
  subst e
  have stat : ∀ {H' : Hp}, (∀ b ∈ fp, H' b = none) → ∀ b ∈ fp, FpOk X pins H' b := fun hn b hb => ⟨hn b hb, (f2 b hb).2⟩
  refine codeAny_forLoop_any (fun n s' => ∃ i σ' H', Inv X pins σ' H' s' ∧ tn i s'.heap ∧ (∀ b ∈ fp, H' b = none) ∧ W i n σ' H') ?_ m0 ⟨0, σ, H2, I2, st2, fun b hb => (f2 b hb).1, w0⟩
  rintro n s3 ⟨i, σ3, H3, I3, st3, fr3, w3⟩
  rcases turn i n σ3 H3 w3 with ⟨stop, qn⟩ | ⟨go, N, hN, step⟩
  · refine wpAny_passesOwn hp (thn (T.done X rfl rfl rfl hc i pins s3 σ3 H3 X.xe I3 (stat fr3) st3 stop) fun r s4 ⟨hr, I4⟩ => ?_)
    subst hr
    exact wpAny_execs_nil ⟨σ3, H3, I4, qn⟩
  · refine wpAny_passesOwn hp (thn (T.item X rfl rfl rfl hc i pins s3 σ3 H3 X.xe I3 (stat fr3) st3 go) fun r s4 ⟨u, hr, h4⟩ => ?_)
    subst hr
    refine wpAny_passesOwn hp (thn h4 fun _ s5 ⟨x, H5, I5, r5, y5, st5, fr5⟩ => ?_)
    have I5' := I5.pinned (stat fr5) (T.obj _ _ st5)
    refine wpAny_passesOwn hp (thn (hg _ s5 σ3 H5 x u _ I5' r5 (step x H5 y5)) fun _ s6 ⟨σ6, H6, I6, q6⟩ => ?_)
    refine wpAny_passesOwn hp (thn (hb _ s6 σ6 H6 _ I6 q6) fun f s7 q7 => ?_)
    have again : ∀ {σ7 : St} {H7 : Hp}, Inv X (pins ++ pinsAt fp s5.heap) σ7 H7 s7 → N σ7 H7 → ∃ m, m < n ∧ ∃ i σ' H', Inv X pins σ' H' s7 ∧ tn i s7.heap ∧ (∀ b ∈ fp, H' b = none) ∧ W i m σ' H' := fun {σ7 H7} I7 n7 => by
      obtain ⟨m', hm, w7⟩ := hN σ7 H7 n7
      refine ⟨m', hm, i + 1, σ7, H7, I7.unpinned, T.keep _ _ _ st5 fun b hb o e => (I7.pin (b, o) (List.mem_append_right _ (List.mem_append_right _ (mem_pinsAt hb e)))).1, fun b hb => ?_, w7⟩
      obtain ⟨o, e, d⟩ := T.obj _ _ st5 b hb
      exact (I7.pin (b, o) (List.mem_append_right _ (List.mem_append_right _ (mem_pinsAt hb e)))).2.1
    cases f with
    | next => obtain ⟨σ7, H7, I7, n7⟩ := q7; exact again I7 n7
    | cont => obtain ⟨σ7, H7, I7, n7⟩ := q7; exact again I7 n7
    | brk => obtain ⟨σ7, H7, I7, q7⟩ := q7; exact ⟨σ7, H7, I7.unpinned, q7⟩
    | ret v => obtain ⟨x7, σ7, H7, I7, r7, q7⟩ := q7; exact ⟨x7, σ7, H7, I7.unpinned, r7, q7⟩
end
theorem for_list {K : PySem.W.Frag} {a : Addr} {xs : List V} {g : TG} {tb : TS} {D : Ends} {σ : St} {H : Hp} (Pv : Nat → St → Hp → Prop) (h0 : Pv 0 σ H) (hl : ∀ i σ H, i ≤ xs.length → Pv i σ H → SqL K H a xs)
    (hs : ∀ i x σ H, xs[i]? = some x → Pv i σ H → g x σ H fun σ2 H2 => tb { D with nx := Pv (i + 1), ct := Pv (i + 1), bk := D.nx } σ2 H2) (hd : ∀ σ H, Pv xs.length σ H → D.nx σ H) :
    ∃ W : Nat → Nat → St → Hp → Prop, (∃ m, W 0 m σ H) ∧ ∀ i m σ H, W i m σ H →
      ((Itl K a).stop i H ∧ D.nx σ H) ∨ ((Itl K a).go i H ∧ ∃ N : St → Hp → Prop, (∀ σ' H', N σ' H' → ∃ m', m' < m ∧ W (i + 1) m' σ' H') ∧ ∀ x H', (Itl K a).yld i H x H' → g x σ H' fun σ2 H2 => tb { D with nx := N, ct := N, bk := D.nx } σ2 H2) := by
  refine ⟨fun i m σ H => m = xs.length - i ∧ i ≤ xs.length ∧ Pv i σ H, ⟨xs.length, by simp, Nat.zero_le _, h0⟩, ?_⟩
  rintro i m σ H ⟨rfl, hi, p⟩
  have q := hl i σ H hi p
  by_cases hlt : i < xs.length
  · refine .inr ⟨⟨xs, xs[i], q, by simp [hlt]⟩, Pv (i + 1), fun σ' H' p' => ⟨xs.length - (i + 1), by omega, rfl, hlt, p'⟩, fun x H' y => ?_⟩
    obtain ⟨e, y⟩ := y
    subst e
    exact hs i x σ _ (y xs q) p
  · have e : i = xs.length := by omega
    subst e
    exact .inl ⟨⟨xs, q, Nat.le_refl _⟩, hd σ H p⟩
theorem for_range {lo : Int} {n : Nat} {g : TG} {tb : TS} {D : Ends} {σ : St} {H : Hp} (Pv : Nat → St → Hp → Prop) (h0 : Pv 0 σ H)
    (hs : ∀ i σ H, i < n → Pv i σ H → g (.int (lo + i)) σ H fun σ2 H2 => tb { D with nx := Pv (i + 1), ct := Pv (i + 1), bk := D.nx } σ2 H2) (hd : ∀ σ H, Pv n σ H → D.nx σ H) :
    ∃ W : Nat → Nat → St → Hp → Prop, (∃ m, W 0 m σ H) ∧ ∀ i m σ H, W i m σ H →
      ((Itr lo n).stop i H ∧ D.nx σ H) ∨ ((Itr lo n).go i H ∧ ∃ N : St → Hp → Prop, (∀ σ' H', N σ' H' → ∃ m', m' < m ∧ W (i + 1) m' σ' H') ∧ ∀ x H', (Itr lo n).yld i H x H' → g x σ H' fun σ2 H2 => tb { D with nx := N, ct := N, bk := D.nx } σ2 H2) := by
  refine ⟨fun i m σ H => m = n - i ∧ i ≤ n ∧ Pv i σ H, ⟨n, by simp, Nat.zero_le _, h0⟩, ?_⟩
  rintro i m σ H ⟨rfl, hi, p⟩
  by_cases hlt : i < n
  · refine .inr ⟨hlt, Pv (i + 1), fun σ' H' p' => ⟨n - (i + 1), by omega, rfl, hlt, p'⟩, fun x H' y => ?_⟩
    obtain ⟨e, y⟩ := y
    subst e y
    exact hs i σ _ hlt p
  · have e : i = n := by omega
    subst e
    exact .inl ⟨Nat.le_refl _, hd σ H p⟩
end L2
namespace L2
open PySem PySem.Spec PyProof.Rows
abbrev R2 := V → V → Hp → VK → Prop
def OpR (X : Cx) (f : Value → Value → Sem Value) (r : R2) : Prop :=
  ∀ (pins : List (Addr × Obj)) (s : Shared) (σ : St) (H : Hp) (x y : V) (v u : Value) (Q : VK), Inv X pins σ H s → RelV x v → RelV y u → r x y H Q →
    wpAny (model X.prog X.w) X.A (f v u) (EP X pins σ Q) X.xe s
def UnR (X : Cx) (f : Value → Sem Value) (r : V → Hp → VK → Prop) : Prop :=
  ∀ (pins : List (Addr × Obj)) (s : Shared) (σ : St) (H : Hp) (x : V) (v : Value) (Q : VK), Inv X pins σ H s → RelV x v → r x H Q →
    wpAny (model X.prog X.w) X.A (f v) (EP X pins σ Q) X.xe s
def CallR (X : Cx) (f : Value) (r : List V → Hp → VK → Prop) : Prop :=
  ∀ (pins : List (Addr × Obj)) (s : Shared) (σ : St) (H : Hp) (xs : List V) (us : List Value) (Q : VK), Inv X pins σ H s → Vals xs us → r xs H Q →
    wpAny (model X.prog X.w) X.A (call f us) (EP X pins σ Q) X.xe s
def TruR (X : Cx) (r : V → Hp → (Bool → Hp → Prop) → Prop) : Prop :=
  ∀ (pins : List (Addr × Obj)) (s : Shared) (σ : St) (H : Hp) (x : V) (v : Value) (Q : Bool → Hp → Prop), Inv X pins σ H s → RelV x v → r x H Q →
    wpAny (model X.prog X.w) X.A (truthy v) (TP X pins σ Q) X.xe s
def tOp (r : R2) (ta tb : TE) : TE := fun σ H Q => ta σ H fun x H1 => tb σ H1 fun y H2 => r x y H2 Q
def tUn (r : V → Hp → VK → Prop) (ta : TE) : TE := fun σ H Q => ta σ H fun x H1 => r x H1 Q
def rI (C : Int → Int → Prop) (g : Int → Int → V) : R2 := fun x y H Q => ∃ i j, x = .int i ∧ y = .int j ∧ C i j ∧ Q (g i j) H
def rI0 (g : Int → Int → V) : R2 := fun x y H Q => ∃ i j, x = .int i ∧ y = .int j ∧ Q (g i j) H
def rU (g : Int → V) : V → Hp → VK → Prop := fun x H Q => ∃ i, x = .int i ∧ Q (g i) H
section
variable {X : Cx} {a b c : Expr} {ta tb tc : TE} {pos : Pos}
theorem binT (ha : PE X a ta) (hb : PE X b tb) {pins : List (Addr × Obj)} {s : Shared} {σ : St} {H : Hp} {R : V → V → Hp → Prop} (I : Inv X pins σ H s)
    (h : ta σ H fun x H1 => tb σ H1 fun y H2 => R x y H2) {Q : Value → Shared → Prop} {f : Value → Value → Sem Value}
    (hf : ∀ v u s2 x y H2, Inv X pins σ H2 s2 → RelV x v → RelV y u → R x y H2 → wpAny (model X.prog X.w) X.A (f v u) Q X.xe s2) :
    wpAny (model X.prog X.w) X.A (eval a X.env) (fun v s₁ => wpAny (model X.prog X.w) X.A (eval b X.env) (fun u s₂ => wpAny (model X.prog X.w) X.A (f v u) Q X.xe s₂) X.xe s₁) X.xe s := by
  refine thn (ha pins s σ H _ I h) fun v s1 ⟨x, H1, I1, r1, q1⟩ => ?_
  refine thn (hb pins s1 σ H1 _ I1 q1) fun u s2 ⟨y, H2, I2, r2, q2⟩ => ?_
  exact hf v u s2 x y H2 I2 r1 r2 q2
theorem pe_op {op : Operator} {r : R2} (ho : OpR X (binaryOp op) r) (ha : PE X a ta) (hb : PE X b tb) : PE X (.BinOp a op b pos) (tOp r ta tb) := by
  intro pins s σ H Q I h
  exact wpAny_BinOp (binT ha hb I h fun v u s2 x y H2 I2 rx ry q => ho pins s2 σ H2 x y v u Q I2 rx ry q)
theorem pe_un {op : UnaryOp} {r : V → Hp → VK → Prop} (ho : UnR X (unaryOp op) r) (ha : PE X a ta) : PE X (.UnaryOp op a pos) (tUn r ta) := by
  intro pins s σ H Q I h
  exact UnaryOp_ (thn (ha pins s σ H _ I h) fun v s1 ⟨x, H1, I1, r1, q1⟩ => ho pins s1 σ H1 x v Q I1 r1 q1)
theorem opI {f : Value → Value → Sem Value} {C : Int → Int → Prop} {g : Int → Int → Int}
    (rule : ∀ (i j : Int) (t u : Tok) (s : Shared) (Q : Value → Shared → Prop) (E : Value → Shared → Prop), C i j → Q (.int (g i j) s.toks) { s with toks := s.toks + 1 } → wpAny (model X.prog X.w) X.A (f (.int i t) (.int j u)) Q E s) :
    OpR X f (rI C fun i j => .int (g i j)) := by
  intro pins s σ H x y v u Q I rx ry h
  obtain ⟨i, j, rfl, rfl, hc, q⟩ := h
  obtain ⟨t, rfl⟩ := rx
  obtain ⟨t', rfl⟩ := ry
  exact rule i j t t' s _ _ hc ⟨.int (g i j), H, I.tok _, ⟨_, rfl⟩, q⟩
theorem opI0 {f : Value → Value → Sem Value} {g : Int → Int → Int}
    (rule : ∀ (i j : Int) (t u : Tok) (s : Shared) (Q : Value → Shared → Prop) (E : Value → Shared → Prop), Q (.int (g i j) s.toks) { s with toks := s.toks + 1 } → wpAny (model X.prog X.w) X.A (f (.int i t) (.int j u)) Q E s) :
    OpR X f (rI0 fun i j => .int (g i j)) := by
  intro pins s σ H x y v u Q I rx ry h
  obtain ⟨i, j, rfl, rfl, q⟩ := h
  obtain ⟨t, rfl⟩ := rx
  obtain ⟨t', rfl⟩ := ry
  exact rule i j t t' s _ _ ⟨.int (g i j), H, I.tok _, ⟨_, rfl⟩, q⟩
theorem opB0 {f : Value → Value → Sem Value} {g : Int → Int → Bool}
    (rule : ∀ (i j : Int) (t u : Tok) (s : Shared) (Q : Value → Shared → Prop) (E : Value → Shared → Prop), Q (.bool (g i j)) s → wpAny (model X.prog X.w) X.A (f (.int i t) (.int j u)) Q E s) :
    OpR X f (rI0 fun i j => .bl (g i j)) := by
  intro pins s σ H x y v u Q I rx ry h
  obtain ⟨i, j, rfl, rfl, q⟩ := h
  obtain ⟨t, rfl⟩ := rx
  obtain ⟨t', rfl⟩ := ry
  exact rule i j t t' s _ _ ⟨.bl (g i j), H, I, rfl, q⟩
def CDiv (i j : Int) : Prop := 0 < j ∧ j < 1073741824
def CDivN (i j : Int) : Prop := j ≠ 0 ∧ j.natAbs < 1073741824
def CPow (i j : Int) : Prop := 0 ≤ j ∧ j ≤ 1000000 ∧ i.natAbs < 2 ^ 64
def CMul (i j : Int) : Prop := (-(2 ^ 64) < i ∧ i < 2 ^ 64) ∨ (-(2 ^ 64) < j ∧ j < 2 ^ 64)
theorem op_add : OpR X (binaryOp .Add) (rI0 fun i j => .int (i + j)) := opI0 fun _ _ _ _ _ _ _ q => add_int q
theorem op_sub : OpR X (binaryOp .Sub) (rI0 fun i j => .int (i - j)) := opI0 fun _ _ _ _ _ _ _ q => sub_int q
theorem op_fdiv : OpR X (binaryOp .FloorDiv) (rI CDiv fun i j => .int (i / j)) := opI fun i j _ _ _ _ _ hc q => by
  have h1 : (0 : Int) < j := hc.1
  have h2 : j < 1073741824 := hc.2
  exact floordiv_int (by omega) (by rw [Int.fdiv_eq_ediv_of_nonneg i (by omega)]; exact q) (.inl (PyProof.noPylong_small (by omega)))
theorem op_mod : OpR X (binaryOp .Mod) (rI (fun _ j => 0 < j) fun i j => .int (i % j)) := opI fun i j _ _ _ _ _ hc q => by
  have h1 : (0 : Int) < j := hc
  exact mod_int' (by omega) (by rw [Int.fmod_eq_emod_of_nonneg i (by omega)]; exact q)
theorem unI {f : Value → Sem Value} {g : Int → Int}
    (rule : ∀ (i : Int) (t : Tok) (s : Shared) (Q : Value → Shared → Prop) (E : Value → Shared → Prop), Q (.int (g i) s.toks) { s with toks := s.toks + 1 } → wpAny (model X.prog X.w) X.A (f (.int i t)) Q E s) :
    UnR X f (rU fun i => .int (g i)) := by
  intro pins s σ H x v Q I rx h
  obtain ⟨i, rfl, q⟩ := h
  obtain ⟨t, rfl⟩ := rx
  exact rule i t s _ _ ⟨.int (g i), H, I.tok _, ⟨_, rfl⟩, q⟩
theorem un_neg : UnR X (unaryOp .USub) (rU fun i => .int (-i)) := unI fun _ _ _ _ _ q => neg_int q
end
def scal : V → V → Bool
  | .non, .non => true | .non, .int _ => true | .int _, .non => true | .non, .bl _ => true | .bl _, .non => true | .non, .str _ => true | .str _, .non => true
  | .int _, .int _ => true | .bl _, .bl _ => true | .str _, .str _ => true | .byt _, .byt _ => true
  | .int _, .str _ => true | .str _, .int _ => true | .bl _, .str _ => true | .str _, .bl _ => true
  | _, _ => false
def rEq : R2 := fun x y H Q => scal x y = true ∧ Q (.bl (decide (x = y))) H
def rNe : R2 := fun x y H Q => scal x y = true ∧ Q (.bl (!decide (x = y))) H
theorem dec_int {i j : Int} : decide (V.int i = V.int j) = (i == j) := by
  rw [Bool.eq_iff_iff]
  simp
theorem dec_bl {i j : Bool} : decide (V.bl i = V.bl j) = (i == j) := by
  rw [Bool.eq_iff_iff]
  simp
theorem dec_str {i j : Str} : decide (V.str i = V.str j) = (i == j) := by
  rw [Bool.eq_iff_iff]
  simp
theorem dec_byt {i j : Array UInt8} : decide (V.byt i = V.byt j) = (i.toList == j.toList) := by
  rw [Bool.eq_iff_iff]
  cases i
  cases j
  simp
section
variable {X : Cx} {a b c : Expr} {ta tb tc : TE} {pos : Pos}
theorem fin_bl {pins : List (Addr × Obj)} {σ : St} {H : Hp} {s : Shared} {Q : VK} {k k' : Bool} (I : Inv X pins σ H s) (q : Q (.bl k) H) (e : k = k') : EP X pins σ Q (.bool k') s := by
  subst e
  exact ⟨.bl k, H, I, rfl, q⟩
theorem op_eq : OpR X (compareOp .Eq) rEq := by
  intro pins s σ H x y v u Q I rx ry h
  obtain ⟨hs, q⟩ := h
  cases x with
  | non =>
    cases rx
    cases y with
    | non => cases ry; exact PySem.EqNone.eq_none_none (fin_bl I q (by simp))
    | bl j => cases ry; exact PySem.EqNone.eq_none_bool (fin_bl I q (by simp))
    | int j => obtain ⟨t', rfl⟩ := ry; exact PySem.EqNone.eq_none_int (fin_bl I q (by simp))
    | str j => obtain ⟨t', rfl⟩ := ry; exact PySem.EqNone.eq_none_str (fin_bl I q (by simp))
    | _ => exact absurd (show false = true from hs) Bool.false_ne_true
  | bl i =>
    cases rx
    cases y with
    | non => cases ry; exact PySem.EqNone.eq_bool_none (fin_bl I q (by simp))
    | bl j => cases ry; exact eq_bool (fin_bl I q dec_bl)
    | str j => obtain ⟨t', rfl⟩ := ry; exact PySem.EqMixed.eq_bool_str (fin_bl I q (by simp))
    | _ => exact absurd (show false = true from hs) Bool.false_ne_true
  | int i =>
    obtain ⟨t, rfl⟩ := rx
    cases y with
    | non => cases ry; exact PySem.EqNone.eq_int_none (fin_bl I q (by simp))
    | int j => obtain ⟨t', rfl⟩ := ry; exact eq_int (fin_bl I q dec_int)
    | str j => obtain ⟨t', rfl⟩ := ry; exact PySem.EqMixed.eq_int_str (fin_bl I q (by simp))
    | _ => exact absurd (show false = true from hs) Bool.false_ne_true
  | str i =>
    obtain ⟨t, rfl⟩ := rx
    cases y with
    | non => cases ry; exact PySem.EqNone.eq_str_none (fin_bl I q (by simp))
    | bl j => cases ry; exact PySem.EqMixed.eq_str_bool (fin_bl I q (by simp))
    | int j => obtain ⟨t', rfl⟩ := ry; exact PySem.EqMixed.eq_str_int (fin_bl I q (by simp))
    | str j => obtain ⟨t', rfl⟩ := ry; exact eq_str (fin_bl I q dec_str)
    | _ => exact absurd (show false = true from hs) Bool.false_ne_true
  | byt i =>
    obtain ⟨t, rfl⟩ := rx
    cases y with
    | byt j => obtain ⟨t', rfl⟩ := ry; exact PySem.W.eq_bytes (fin_bl I q dec_byt)
    | _ => exact absurd (show false = true from hs) Bool.false_ne_true
  | _ => cases y <;> exact absurd (show false = true from hs) Bool.false_ne_true
theorem op_ne : OpR X (compareOp .NotEq) rNe := by
  intro pins s σ H x y v u Q I rx ry h
  obtain ⟨hs, q⟩ := h
  cases x with
  | non =>
    cases rx
    cases y with
    | non => cases ry; exact PySem.EqNone.ne_none_none (fin_bl I q (by simp))
    | bl j => cases ry; exact PySem.EqNone.ne_none_bool (fin_bl I q (by simp))
    | int j => obtain ⟨t', rfl⟩ := ry; exact PySem.EqNone.ne_none_int (fin_bl I q (by simp))
    | str j => obtain ⟨t', rfl⟩ := ry; exact PySem.EqNone.ne_none_str (fin_bl I q (by simp))
    | _ => exact absurd (show false = true from hs) Bool.false_ne_true
  | bl i =>
    cases rx
    cases y with
    | non => cases ry; exact PySem.EqNone.ne_bool_none (fin_bl I q (by simp))
    | bl j => cases ry; exact ne_bool (fin_bl I q (congrArg not dec_bl))
    | str j => obtain ⟨t', rfl⟩ := ry; exact PySem.EqMixed.ne_bool_str (fin_bl I q (by simp))
    | _ => exact absurd (show false = true from hs) Bool.false_ne_true
  | int i =>
    obtain ⟨t, rfl⟩ := rx
    cases y with
    | non => cases ry; exact PySem.EqNone.ne_int_none (fin_bl I q (by simp))
    | int j => obtain ⟨t', rfl⟩ := ry; exact ne_int (fin_bl I q (congrArg not dec_int))
    | str j => obtain ⟨t', rfl⟩ := ry; exact PySem.EqMixed.ne_int_str (fin_bl I q (by simp))
    | _ => exact absurd (show false = true from hs) Bool.false_ne_true
  | str i =>
    obtain ⟨t, rfl⟩ := rx
    cases y with
    | non => cases ry; exact PySem.EqNone.ne_str_none (fin_bl I q (by simp))
    | bl j => cases ry; exact PySem.EqMixed.ne_str_bool (fin_bl I q (by simp))
    | int j => obtain ⟨t', rfl⟩ := ry; exact PySem.EqMixed.ne_str_int (fin_bl I q (by simp))
    | str j => obtain ⟨t', rfl⟩ := ry; exact ne_str (fin_bl I q (congrArg not dec_str))
    | _ => exact absurd (show false = true from hs) Bool.false_ne_true
  | byt i =>
    obtain ⟨t, rfl⟩ := rx
    cases y with
    | byt j => obtain ⟨t', rfl⟩ := ry; exact PySem.W.ne_bytes (fin_bl I q (congrArg not dec_byt))
    | _ => exact absurd (show false = true from hs) Bool.false_ne_true
  | _ => cases y <;> exact absurd (show false = true from hs) Bool.false_ne_true
theorem op_lt : OpR X (compareOp .Lt) (rI0 fun i j => .bl (decide (i < j))) := opB0 fun _ _ _ _ _ _ _ q => lt_int q
theorem op_le : OpR X (compareOp .LtE) (rI0 fun i j => .bl (decide (i ≤ j))) := opB0 fun _ _ _ _ _ _ _ q => le_int q
theorem op_gt : OpR X (compareOp .Gt) (rI0 fun i j => .bl (decide (j < i))) := opB0 fun _ _ _ _ _ _ _ q => gt_int q
theorem op_notin_str : OpR X (compareOp .NotIn) (fun x y H Q => ∃ i j, x = .str i ∧ y = .str j ∧ Q (.bl (!(!(Builtin.Str.occurrences j i 0 j.length 1).isEmpty))) H) := by
  intro pins s σ H x y v u Q I rx ry h
  obtain ⟨i, j, rfl, rfl, q⟩ := h
  obtain ⟨t, rfl⟩ := rx
  obtain ⟨t', rfl⟩ := ry
  exact notIn_str (fin_bl I q rfl)
def isObj : HO → Bool
  | .lst _ => true
  | .ins _ _ _ => true
  | _ => false
theorem obj_there {pins : List (Addr × Obj)} {s : Shared} {σ : St} {H : Hp} {a : Addr} {o : HO} (I : Inv X pins σ H s) (h : H a = some o) (p : isObj o = true) : ∃ ob, s.heap.get? a = some ob ∧ ob.cls ≠ .type "tuple" := by
  cases o with
  | lst xs =>
    obtain ⟨_, its, n, _, e⟩ : xs.length ≤ sizeLine ∧ ∃ (its : List Value) (n : Nat), Vals xs its ∧ s.heap.get? a = some { cls := .type "list", data := .seq its.toArray n } := I.hok a _ h
    exact ⟨_, e, (by show Value.type "list" ≠ .type "tuple"; decide +kernel)⟩
  | ins C dx fs =>
    have x := I.hok a _ h
    obtain ⟨_, _, _, e, _⟩ := x
    exact ⟨_, e, (by show Value.ref C ≠ .type "tuple"; exact fun z => by cases z)⟩
  | _ => exact absurd (show false = true from p) Bool.false_ne_true
theorem nomark (b : Expr) {op : CmpOp} (h : op ≠ .In := by decide) (h2 : op ≠ .NotIn := by decide) : behindInMarks op b = false := by
  have e1 : (op == CmpOp.In) = false := by cases op <;> first | rfl | exact absurd rfl h
  have e2 : (op == CmpOp.NotIn) = false := by cases op <;> first | rfl | exact absurd rfl h2
  cases b <;> simp [behindInMarks, e1, e2]
theorem pe_cmpR {op : CmpOp} {r : R2} (ho : OpR X (compareOp op) r) (ha : PE X a ta) (hb : PE X b tb) (hm : behindInMarks op b = false) : PE X (.Compare a [op] [b] pos) (tOp r ta tb) := by
  intro pins s σ H Q I h
  exact wpAny_Compare1 (binT ha hb I h fun v u s2 x y H2 I2 rx ry q => ho pins s2 σ H2 x y v u Q I2 rx ry q) hm
def tTest (t : TE) : TT := fun σ H Q => t σ H fun x H' => ∃ k, x = .bl k ∧ Q k H'
theorem pt_cmpR {op : CmpOp} {r : R2} (ho : OpR X (compareOp op) r) (ha : PE X a ta) (hb : PE X b tb) (hm : behindInMarks op b = false) : PT X (.Compare a [op] [b] pos) (tTest (tOp r ta tb)) := by
  intro pins s σ H Q I h
  refine wpAny_isTrue_Compare1 (thn (ha pins s σ H _ I h) fun v s1 ⟨x, H1, I1, r1, q1⟩ => thn (hb pins s1 σ H1 _ I1 q1) fun u s2 ⟨y, H2, I2, r2, q2⟩ =>
    thn (ho pins s2 σ H2 x y v u _ I2 r1 r2 q2) fun c s3 ⟨z, H3, I3, r3, k, e, q3⟩ => ?_) hm
  subst e
  cases r3
  exact wpAny_truthy_bool ⟨H3, I3, q3⟩
def tChain (r r' : R2) (ta tb tc : TE) : TE := fun σ H Q => ta σ H fun x H1 => tb σ H1 fun y H2 => r x y H2 fun z H3 => ∃ k, z = .bl k ∧
  (if k = true then tc σ H3 fun w' H4 => r' y w' H4 Q else Q (.bl false) H3)
theorem pe_chain {op op' : CmpOp} {r r' : R2} (ho : OpR X (compareOp op) r) (ho' : OpR X (compareOp op') r') (ha : PE X a ta) (hb : PE X b tb) (hc : PE X c tc)
    (hm : lastMarks [op, op'] [b, c] = false := by with_unfolding_all rfl) : PE X (.Compare a [op, op'] [b, c] pos) (tChain r r' ta tb tc) := by
  intro pins s σ H Q I h
  refine Compare_chain (thn (ha pins s σ H _ I h) fun v s1 ⟨x, H1, I1, r1, q1⟩ => chain_link (thn (hb pins s1 σ H1 _ I1 q1) fun u s2 ⟨y, H2, I2, r2, q2⟩ =>
    thn (ho pins s2 σ H2 x y v u _ I2 r1 r2 q2) fun d s3 ⟨z, H3, I3, r3, k, e, q3⟩ => ?_)) hm
  subst e
  cases r3
  refine wpAny_truthy_bool ?_
  cases k with
  | false => exact ite_ff ⟨.bl false, H3, I3, rfl, q3⟩
  | true => exact ite_tt (chain_last (thn (hc pins s3 σ H3 _ I3 q3) fun w' s4 ⟨z', H4, I4, r4, q4⟩ => ho' pins s4 σ H4 y z' u w' Q I4 r2 r4 q4))
theorem pt_chain {op op' : CmpOp} {r r' : R2} (ho : OpR X (compareOp op) r) (ho' : OpR X (compareOp op') r') (ha : PE X a ta) (hb : PE X b tb) (hc : PE X c tc)
    (hm : lastMarks [op, op'] [b, c] = false := by with_unfolding_all rfl) : PT X (.Compare a [op, op'] [b, c] pos) (tTest (tChain r r' ta tb tc)) := by
  intro pins s σ H Q I h
  refine isTrue_chain (thn (ha pins s σ H _ I h) fun v s1 ⟨x, H1, I1, r1, q1⟩ => test_link (thn (hb pins s1 σ H1 _ I1 q1) fun u s2 ⟨y, H2, I2, r2, q2⟩ =>
    thn (ho pins s2 σ H2 x y v u _ I2 r1 r2 q2) fun d s3 ⟨z, H3, I3, r3, k, e, q3⟩ => ?_)) hm
  subst e
  cases r3
  refine wpAny_truthy_bool ?_
  cases k with
  | false =>
    obtain ⟨k', e', q'⟩ := q3
    cases e'
    exact ite_ff ⟨H3, I3, q'⟩
  | true =>
    refine ite_tt (test_last (thn (hc pins s3 σ H3 _ I3 q3) fun w' s4 ⟨z', H4, I4, r4, q4⟩ => thn (ho' pins s4 σ H4 y z' u w' _ I4 r2 r4 q4) fun d' s5 ⟨z2, H5, I5, r5, k2, e2, q5⟩ => ?_))
    subst e2
    cases r5
    exact wpAny_truthy_bool ⟨H5, I5, q5⟩
def TruV (K : PySem.W.Frag) (x : V) (H : Hp) (k : Bool) : Prop :=
  match x with
  | .non => k = false
  | .bl b => k = b
  | .int i => k = (i != 0)
  | .str y => y.length ≤ sizeLine ∧ k = ((y.length : Int) != 0)
  | .byt y => y.size ≤ sizeLine ∧ k = ((y.size : Int) != 0)
  | .ref p => (∃ xs, SqL K H p xs ∧ k = !xs.isEmpty) ∨ (∃ xs, SqT K H p xs ∧ k = !xs.isEmpty) ∨ ∃ kvs, H p = some (.dK kvs) ∧ k = !kvs.isEmpty
  | _ => False
theorem line63 : (sizeLine : Nat) < 2 ^ 63 := by rw [sizeLine_eq]; decide
theorem op_add_str : OpR X (binaryOp .Add) (fun x y H Q => ∃ i j, x = .str i ∧ y = .str j ∧ i.length + j.length ≤ sizeLine ∧ Q (.str (i ++ j)) H) := by
  intro pins s σ H x y v u Q I rx ry h
  obtain ⟨i, j, rfl, rfl, hz, q⟩ := h
  obtain ⟨t, rfl⟩ := rx
  obtain ⟨t', rfl⟩ := ry
  exact add_str (fun t' tk => ⟨.str (i ++ j), H, I.tok _, ⟨_, rfl⟩, q⟩) hz
def PlainIxT (b : Expr) : Prop := ∀ o i, subscripted b false o i = operate [o, i] (getItem o i)
theorem vals1 {x : V} {us : List Value} (r : Vals [x] us) : ∃ u, us = [u] ∧ RelV x u := by
  cases r with
  | cons r1 r2 => cases r2; exact ⟨_, rfl, r1⟩
theorem vals2 {x y : V} {us : List Value} (r : Vals [x, y] us) : ∃ u w', us = [u, w'] ∧ RelV x u ∧ RelV y w' := by
  cases r with
  | cons r1 r2 =>
    cases r2 with
    | cons r3 r4 => cases r4; exact ⟨_, _, rfl, r1, r3⟩
def LenV (K : PySem.W.Frag) (x : V) (H : Hp) (n : Nat) : Prop :=
  match x with
  | .str y => y.length ≤ sizeLine ∧ n = y.length
  | .byt y => y.size ≤ sizeLine ∧ n = y.size
  | .ref p => (∃ xs, SqL K H p xs ∧ n = xs.length) ∨ ∃ xs, SqT K H p xs ∧ n = xs.length
  | _ => False
end
end L2
namespace L2
open PySem PySem.Spec PyProof.Rows
structure ObjM (h : Heap) (x dx C : Addr) (mA : Str → Option Value) : Prop where
  obj : h.get? x = some (PySem.W.instObj C dx)
  ns : h.Ns1 dx mA
  ne : dx ≠ x
theorem lookIn_ns {h : Heap} {dx : Addr} {mA : Str → Option Value} (n : h.Ns1 dx mA) : ∃ od, h.get? dx = some od ∧ ∀ name, PySem.W.lookIn name od = some (mA name) := by
  obtain ⟨o, es, ep, ho, hd, hk, _, hm⟩ := n
  refine ⟨o, ho, fun name => ?_⟩
  have e := hm name
  unfold nsFind findBy at e
  rw [← Array.find?_toList] at e
  unfold PySem.W.lookIn
  rw [hd]
  dsimp only
  split
  · rename_i y q
    rw [q] at e
    exact congrArg some e
  · rename_i q
    rw [q] at e
    have a : es.toList.any (·.refKey) = false := by
      rw [List.any_eq_false]
      intro y hy
      obtain ⟨z, t, hkey⟩ := hk y (Array.mem_toList_iff.mp hy)
      simp [DictEntry.refKey, hkey]
    have a' : ¬ es.toList.any (·.refKey) = true := by rw [a]; exact Bool.false_ne_true
    rw [if_neg a']
    exact congrArg some e
theorem ObjM.look {h : Heap} {x dx C : Addr} {mA : Str → Option Value} (I : ObjM h x dx C mA) : ∃ od, PySem.W.InstAt h x (PySem.W.instObj C dx) C (some od) ∧ ∀ name, PySem.W.lookIn name od = some (mA name) :=
  let ⟨od, ho, hl⟩ := lookIn_ns I.ns
  ⟨od, ⟨I.obj, rfl, rfl, ho⟩, hl⟩
section
variable {prog : Program} {w : World} {A : Around} {E : Value → Shared → Prop} {s : Shared} {K : PySem.W.Frag} {x dx C f : Addr} {mA : Str → Option Value} {name : Str} {v : Value}
end
def putF (f : Str) (v : V) : List (Str × V) → List (Str × V)
  | [] => [(f, v)]
  | (g, x) :: r => if g = f then (g, v) :: r else (g, x) :: putF f v r
section
variable {P : Program} {w : World} {H H' : Hp} {h h' : Heap} {a C dx : Addr} {fs fs' : List (Str × V)}
theorem ins_get (hok : HOk P w H h) (e : H a = some (.ins C dx fs)) : ∃ mA, ObjM h a dx C mA ∧ (∀ f, RelO (fs.lookup f) (mA f)) ∧ PySem.Within mA (fs.map (·.1)) ∧ fs.length ≤ 1000 ∧ H dx = some (.own a) := by
  obtain ⟨d, z, ne, ob, mA, n, r, q⟩ := (show ObjOk P w H h a (.ins C dx fs) from hok a _ e)
  exact ⟨mA, ⟨ob, n, ne⟩, r, q, z, d⟩
end
structure Cls (K : PySem.W.Frag) (C : Addr) : Prop where
  pg : PySem.W.plainGet K C Str.empty = true
  hd : PySem.W.hasDictIn K C = true
  po : PySem.W.plainOver K C = true
  sa : PySem.W.findIn K (.ref C) "__setattr__" = some (some (.builtin "object.__setattr__"))
theorem Cls.get {K : PySem.W.Frag} {C : Addr} (c : Cls K C) (f : Str) : PySem.W.plainGet K C f = true := c.pg
def NoAttr (K : PySem.W.Frag) (C : Addr) (f : Str) : Prop := PySem.W.findIn K (.ref C) f = some none
structure Con (K : PySem.W.Frag) (C : Addr) (f : Str) (v : V) (u : Value) : Prop where
  at_ : PySem.W.findIn K (.ref C) f = some (some u)
  rel : RelV v u
  get : PySem.W.specialIn K u "__get__" = some none
  cp : PySem.W.copiedNames.contains f = false
structure Meth (K : PySem.W.Frag) (C : Addr) (m : Str) (f : Addr) : Prop where
  at_ : PySem.W.findIn K (.ref C) m = some (some (.ref f))
  fn : PySem.W.isFn K (.ref f) = true
  kp : PySem.W.keepIn K (.ref f) = true
section
variable {X : Cx} {pins : List (Addr × Obj)} {σ : St} {H : Hp} {s : Shared} {a C dx : Addr} {fs : List (Str × V)} {f : Str} {v : V} {A : Around} {E : Value → Shared → Prop}
end
def tFld (K : PySem.W.Frag) (ta : TE) (f : Str) : TE := fun σ H Q => ta σ H fun x H1 => ∃ a C dx fs v, x = .ref a ∧ H1 a = some (.ins C dx fs) ∧ Cls K C ∧ NoAttr K C f ∧ fs.lookup f = some v ∧ Q v H1
def tCon (K : PySem.W.Frag) (ta : TE) (f : Str) : TE := fun σ H Q => ta σ H fun x H1 => ∃ a C dx fs v u, x = .ref a ∧ H1 a = some (.ins C dx fs) ∧ Cls K C ∧ Con K C f v u ∧ fs.lookup f = none ∧ Q v H1
def sFld (K : PySem.W.Frag) (ta tv : TE) (f : Str) : TS := fun D σ H => tv σ H fun y H1 => ta σ H1 fun x H2 => ∃ a C dx fs, x = .ref a ∧ H2 a = some (.ins C dx fs) ∧ Cls K C ∧ NoAttr K C f ∧ fs.length < 1000 ∧
  D.nx σ (upd H2 a (.ins C dx (putF f y fs)))
def InOp (X : Cx) (op : Operator) (rd : V → V → Hp → VK → Prop) : Prop :=
  ∀ (pins : List (Addr × Obj)) (s : Shared) (σ : St) (H : Hp) (x y : V) (u v : Value) (Q : VK), Inv X pins σ H s → RelV x u → RelV y v → rd x y H Q → wpAny (model X.prog X.w) X.A (inplaceOp op u v) (EP X pins σ Q) X.xe s
def sFldAug (K : PySem.W.Frag) (ta tv : TE) (rd : V → V → Hp → VK → Prop) (f : Str) : TS := fun D σ H => ta σ H fun x H1 => ∃ a C dx fs v, x = .ref a ∧ H1 a = some (.ins C dx fs) ∧ Cls K C ∧ NoAttr K C f ∧ fs.lookup f = some v ∧
  tv σ H1 fun y H2 => rd v y H2 fun z H3 => ∃ dx' fs', H3 a = some (.ins C dx' fs') ∧ fs'.length < 1000 ∧ D.nx σ (upd H3 a (.ins C dx' (putF f z fs')))
section
variable {X : Cx} {o e value : Expr} {f : Str} {pos pos' tpos : Pos} {ta tv : TE}
def rAdd : V → V → Hp → VK → Prop := fun x y H Q => ∃ i j, x = .int i ∧ y = .int j ∧ Q (.int (i + j)) H
def rSub : V → V → Hp → VK → Prop := fun x y H Q => ∃ i j, x = .int i ∧ y = .int j ∧ Q (.int (i - j)) H
end
section
variable {X : Cx} {pins : List (Addr × Obj)} {σ : St} {H : Hp} {s : Shared} {A : Around} {E : Value → Shared → Prop} {Q : Value → Shared → Prop} {c : Value} {b : Bool}
inductive TyOf (K : PySem.W.Frag) (H : Hp) : V → Value → Prop where
  | non : TyOf K H .non (.type "NoneType")
  | bl (x : Bool) : TyOf K H (.bl x) (.type "bool")
  | int (i : Int) : TyOf K H (.int i) (.type "int")
  | str (x : Str) : TyOf K H (.str x) (.type "str")
  | flt (x : UInt64) : TyOf K H (.flt x) (.type "float")
  | lst {a : Addr} {xs : List V} (e : H a = some (.lst xs)) : TyOf K H (.ref a) (.type "list")
  | frz {a : Addr} {o : Obj} {xs : List V} (e : H a = some (.frz o (.lst xs))) : TyOf K H (.ref a) (.type "list")
  | tup {a : Addr} {xs : List V} (e : H a = some (.tup xs)) : TyOf K H (.ref a) (.type "tuple")
  | dK {a : Addr} {kvs : List (Key × V)} (e : H a = some (.dK kvs)) : TyOf K H (.ref a) (.type "dict")
  | dT {a : Addr} {kvs : List (List Key × V)} (e : H a = some (.dT kvs)) : TyOf K H (.ref a) (.type "dict")
  | ins {a C dx : Addr} {fs : List (Str × V)} (e : H a = some (.ins C dx fs)) (cl : Cls K C) (ha : PySem.W.findIn K (.ref C) "__class__" = some (some (.builtin "object.__class__")))
      (hn : PySem.W.specialIn K (.builtin "object.__class__") "__get__" = some (some (.builtin "getset_descriptor.__get__"))) (htk : PySem.W.takesIn K (.builtin "object.__class__") = some true)
      (hm : PySem.W.mroIn K C (.type "object") = some true) : TyOf K H (.ref a) (.ref C)
theorem isinst_ok {x : V} {u t : Value} (I : Inv X pins σ H s) (rx : RelV x u) (ty : TyOf X.K H x t) (e : PySem.W.kitOne X.K t c = some b) (h : ∀ tk, Q (.bool b) { s with toks := tk }) :
    wpAny (model X.prog X.w) A (call (.builtin "isinstance") [u, c]) Q E s := by
  cases ty with
  | non => cases (show u = Value.none from rx); exact PySem.W.kia_one PySem.W.kitx_none I.kIn True.intro e (fun z => nomatch z) h
  | bl y => cases (show u = Value.bool y from rx); exact PySem.W.kia_one PySem.W.kitx_bool I.kIn True.intro e (fun z => nomatch z) h
  | int i => obtain ⟨t, q⟩ := (show ∃ t, u = Value.int i t from rx); cases q; exact PySem.W.kia_one PySem.W.kitx_int I.kIn True.intro e (fun z => nomatch z) h
  | str y => obtain ⟨t, q⟩ := (show ∃ t, u = Value.str y t from rx); cases q; exact PySem.W.kia_one PySem.W.kitx_str I.kIn True.intro e (fun z => nomatch z) h
  | flt y => obtain ⟨t, q⟩ := (show ∃ t, u = Value.float y t from rx); cases q; exact PySem.W.kia_one PySem.W.kitx_float I.kIn True.intro e (fun z => nomatch z) h
  | @lst a xs ea =>
    cases (show u = Value.ref a from rx)
    obtain ⟨_, _, n, _, h1⟩ := (show ObjOk X.prog X.w H s.heap a (.lst xs) from I.hok a _ ea)
    exact PySem.W.kia_one PySem.W.kitx_list I.kIn ⟨_, h1, rfl⟩ e (fun z => nomatch z) h
  | @frz a ob xs ea =>
    cases (show u = Value.ref a from rx)
    obtain ⟨_, _, _, n, _, h1⟩ := (show ObjOk X.prog X.w H s.heap a (.frz ob (.lst xs)) from I.hok a _ ea)
    exact PySem.W.kia_one PySem.W.kitx_list I.kIn ⟨_, h1, rfl⟩ e (fun z => nomatch z) h
  | @tup a xs ea =>
    cases (show u = Value.ref a from rx)
    obtain ⟨_, _, _, p⟩ := (show ObjOk X.prog X.w H s.heap a (.tup xs) from I.hok a _ ea)
    obtain ⟨o, h1, h2, _⟩ := p
    exact PySem.W.kia_one PySem.W.kitx_tuple I.kIn ⟨o, h1, h2⟩ e (fun z => nomatch z) h
  | @dK a kvs ea =>
    cases (show u = Value.ref a from rx)
    obtain ⟨_, _, vs, _, p⟩ := (show ObjOk X.prog X.w H s.heap a (.dK kvs) from I.hok a _ ea)
    obtain ⟨o, es, ep, h1, h2, _⟩ := p
    exact PySem.W.kia_one PySem.W.kitx_dict I.kIn ⟨o, h1, h2.1⟩ e (fun z => nomatch z) h
  | @dT a kvs ea =>
    cases (show u = Value.ref a from rx)
    obtain ⟨_, _, xs, _, o, es, ep, h1, h2, _⟩ := (show ObjOk X.prog X.w H s.heap a (.dT kvs) from I.hok a _ ea)
    exact PySem.W.kia_one PySem.W.kitx_dict I.kIn ⟨o, h1, h2.1⟩ e (fun z => nomatch z) h
  | @ins a C dx fs ea cl ha hn htk hm =>
    cases (show u = Value.ref a from rx)
    obtain ⟨mA, O, _⟩ := ins_get I.hok ea
    obtain ⟨od, J, _⟩ := O.look
    exact PySem.W.kia_one (PySem.W.kitx_own (cl.get _) cl.hd ha hn htk hm) I.kIn J e (fun z => nomatch z) h
end
end L2
namespace L2
open PySem PySem.Spec PyProof.Rows
structure Room (k : Nat) (A : Around) : Prop where
  hd : A.handled = none
  dp : A.depth + 3 * k + 5 < recursionLimit
  un : A.units + 16 * k + 200 < cLine
theorem Room.mono {j k : Nat} {A : Around} (r : Room k A) (h : j ≤ k) : Room j A := ⟨r.hd, by have := r.dp; omega, by have := r.un; omega⟩
theorem Room.deeper {k : Nat} {A : Around} (r : Room (k + 1) A) (env : Env) : Room k (A.deeper env) :=
  ⟨r.hd, by have := r.dp; show A.depth + 1 + 3 * k + 5 < _; omega, by have := r.un; show A.units + 3 + 16 * k + 200 < _; omega⟩
theorem Room.depth {k : Nat} {A : Around} (r : Room k A) : A.depth < recursionLimit := by have := r.dp; omega
theorem Room.units {k : Nat} {A : Around} (r : Room k A) : A.units + 64 < cLine := by have := r.un; omega
def tNil : TA := fun _ H Q => Q [] H
def tCons (ta : TE) (tr : TA) : TA := fun σ H Q => ta σ H fun x H1 => tr σ H1 fun xs H2 => Q (x :: xs) H2
section
variable {X : Cx} {e : Expr} {es : List Expr} {te : TE} {t : TA} {pos : Pos}
theorem pa_nil : PA X [] tNil := fun _ _ _ _ H Q I h => Calls.spliced_nil ⟨[], H, I, .nil, h⟩
theorem pa_cons (ha : PE X e te) (hr : PA X es t) (hs : starEach (e :: es) X.env = (false, eval e X.env) :: starEach es X.env := by rfl) : PA X (e :: es) (tCons te t) := by
  intro pos pins s σ H Q I h
  rw [hs]
  show wpAny _ _ (spliced ((false, eval e X.env) :: backTo pos (starEach es X.env))) _ _ s
  refine Calls.spliced_cons (thn (ha pins s σ H _ I h) fun u s1 ⟨x, H1, I1, r1, q1⟩ => ?_)
  exact thn (hr pos pins s1 σ H1 _ I1 q1) fun us s2 ⟨xs, H2, I2, r2, q2⟩ => ⟨x :: xs, H2, I2, .cons r1 r2, q2⟩
def tTup (t : TA) : TE := fun σ H Q => t σ H fun xs H1 => xs.length ≤ sizeLine ∧ ∀ p, H1 p = none → Q (.ref p) (upd H1 p (.tup xs))
def tLst (t : TA) : TE := fun σ H Q => t σ H fun xs H1 => xs.length ≤ sizeLine ∧ ∀ p, H1 p = none → Q (.ref p) (upd H1 p (.lst xs))
theorem pe_tup {x1} (h : PA X es t) : PE X (.Tuple es x1 pos) (tTup t) := by
  intro pins s σ H Q I hq
  refine wpAny_Tuple_spliced (thn (h pos pins s σ H _ I hq) fun us s1 ⟨xs, H1, I1, r, z, q⟩ => ⟨by rw [← r.length]; exact z, ?_⟩)
  have hf : H1 s1.heap.objs.size = none := I1.hok.fresh (Nat.le_refl _)
  refine ⟨.ref s1.heap.objs.size, upd H1 s1.heap.objs.size (.tup xs), I1.laid (t' := s1.toks) (fun b u e => Heap.get?_push_of_some _ e) (Nat.le_refl _) ?_, rfl, q _ hf⟩
  exact ⟨z, us, r, ⟨_, Heap.get?_push_size _ rfl, rfl, _, rfl⟩⟩
theorem pe_lst (h : PA X es t) : PE X (.List es pos) (tLst t) := by
  intro pins s σ H Q I hq
  refine wpAny_List_spliced (thn (h pos pins s σ H _ I hq) fun us s1 ⟨xs, H1, I1, r, z, q⟩ => ⟨by rw [← r.length]; exact z, ?_⟩)
  have hf : H1 s1.heap.objs.size = none := I1.hok.fresh (Nat.le_refl _)
  refine ⟨.ref s1.heap.objs.size, upd H1 s1.heap.objs.size (.lst xs), I1.laid (t' := s1.toks) (fun b u e => Heap.get?_push_of_some _ e) (Nat.le_refl _) ?_, rfl, q _ hf⟩
  exact ⟨z, us, 0, r, Heap.get?_push_size _ rfl⟩
end
abbrev Sp := List V → Hp → VK → XK → Prop
abbrev CXT := List Env → Hp → Shared → XK → Value → Shared → Prop
structure Env0 (P : Program) (w : World) (K : PySem.W.Frag) (mg : Str → Option Value) (base : Heap) (A : Around) (outer : List Env) (s : Shared) (H : Hp) : Prop where
  frames : A.frames = some outer
  mod : Mod K mg base
  bs : ∀ b o, base.get? b = some o → s.heap.get? b = some o ∧ H b = none
  bsz : base.objs.size ≤ s.heap.objs.size
  funs : s.heap.FunFrames base outer
  frf : ∀ b ∈ frs outer, H b = none
  hok : HOk P w H s.heap
  bare : AllBare s.gens
def CE (outer : List Env) (P : Program) (w : World) (H : Hp) (s : Shared) (Q : VK) (u : Value) (s' : Shared) : Prop :=
  ∃ v H', s'.os = s.os ∧ AllBare s'.gens ∧ Un (frs outer) [] H H' s.heap s'.heap ∧ HOk P w H' s'.heap ∧ RelV v u ∧ Q v H'
def CR (CX : CXT) (outer : List Env) (P : Program) (w : World) (H : Hp) (s : Shared) (Q : VK) (E : XK) (r : Result) (s' : Shared) : Prop :=
  match r with
  | .ok (.ret u) => CE outer P w H s Q u s'
  | .ok _ => False
  | .error e => CX outer H s E e s'
structure FnOk (P : Program) (w : World) (K : PySem.W.Frag) (mg : Str → Option Value) (base : Heap) (CX : CXT) (k : Nat) (f : Addr) (fd : FuncData) (ps : List Str) (sp : Sp) : Prop where
  len : ∀ vs H Q E, sp vs H Q E → vs.length = ps.length
  run : ∀ (A : Around) (outer : List Env) (s : Shared) (H : Hp) (args : Args) (us : List Value) (vs : List V) (Q : VK) (E : XK), Room k A → Env0 P w K mg base A outer s H → BindsTo s fd args (ps.zip us) → Vals vs us → sp vs H Q E →
    codeAny (model P w) A (.call (.ref f) args) (CR CX outer P w H s Q E) s
section
variable {X : Cx} {pins : List (Addr × Obj)} {σ : St} {H : Hp} {s s' : Shared}
theorem Inv.env0 (I : Inv X pins σ H s) : Env0 X.prog X.w X.K X.mg X.base X.A X.stack s H :=
  ⟨I.ok.frames, I.ok.mod, I.bs, Nat.le_trans I.ok.bsz I.sz, I.stack, I.stkFree, I.hok, I.bare⟩
theorem Inv.after {Q : VK} {u : Value} (I : Inv X pins σ H s) (h : CE X.stack X.prog X.w H s Q u s') : EP X pins σ Q u s' := by
  obtain ⟨v, H', os, bare, un, hok, r, q⟩ := h
  obtain ⟨hh, g, d, t, os'⟩ := s'
  obtain rfl : os' = s.os := os
  exact ⟨v, H', I.call (h' := hh) (g' := g) (d' := d) (t' := t) (ch := []) un hok bare (fun b z => absurd z (by simp)), r, q⟩
end
def tCall (sp : Sp) (dvs : List V) (E : XK) (t : TA) : TE := fun σ H Q => t σ H fun vs H1 => sp (vs ++ dvs) H1 Q E
def tMeth (C : Addr) (m : Str) (sp : Sp) (dvs : List V) (E : XK) (ta : TE) (t : TA) : TE := fun σ H Q => ta σ H fun x H1 => ∃ a dx fs, x = .ref a ∧ H1 a = some (.ins C dx fs) ∧ fs.lookup m = none ∧
  t σ H1 fun vs H2 => sp (x :: (vs ++ dvs)) H2 Q E
def tMake (C : Addr) (sp : Sp) (dvs : List V) (E : XK) (t : TA) : TE := fun σ H Q => t σ H fun vs H1 => ∀ x dx, H1 x = none → H1 dx = none → dx ≠ x →
  sp (.ref x :: (vs ++ dvs)) (upd (upd H1 dx (.own x)) x (.ins C dx [])) (fun v H2 => v = .non ∧ Q (.ref x) H2) E
def Binds (K : PySem.W.Frag) (fd : FuncData) (ps : List Str) (ds : List Value) : Prop :=
  ∀ (s : Shared) (us : List Value), K.In s.heap → (us ++ ds).length = ps.length → BindsTo s fd ⟨us, []⟩ (ps.zip (us ++ ds))
theorem Binds.all {K : PySem.W.Frag} {fd : FuncData} {ps : List Str} (h : ∀ us : List Value, us.length = ps.length → bindArgs fd ⟨us, []⟩ = pure (ps.zip us)) : Binds K fd ps [] := fun s us _ hl => by
  rw [List.append_nil] at hl ⊢
  exact .of_eq (h us hl)
def Passes (CX : CXT) (X : Cx) (E : XK) : Prop := ∀ (pins : List (Addr × Obj)) (σ : St) (H : Hp) (s : Shared) (e : Value) (s' : Shared), Inv X pins σ H s → CX X.stack H s E e s' → X.xe e s'
section
variable {X : Cx} {CX : CXT} {k : Nat} {f C : Addr} {fd : FuncData} {ps : List Str} {sp : Sp} {dvs : List V} {ds : List Value} {E : XK} {x m : Str} {p pos apos : Pos} {e o : Expr} {es : List Expr} {ta : TE} {t : TA}
theorem run_fn {pins : List (Addr × Obj)} {σ : St} {H : Hp} {s : Shared} {Q : VK} {us : List Value} {vs : List V} (F : FnOk X.prog X.w X.K X.mg X.base CX k f fd ps sp) (hr : Room k X.A) (hb : Binds X.K fd ps ds) (hd : Vals dvs ds) (hx : Passes CX X E)
    (I : Inv X pins σ H s) (r : Vals vs us) (h : sp (vs ++ dvs) H Q E) : wpAny (model X.prog X.w) X.A (call (.ref f) us) (EP X pins σ Q) X.xe s := by
  have r2 : Vals (vs ++ dvs) (us ++ ds) := r.append hd
  have hl : (us ++ ds).length = ps.length := by rw [← r2.length]; exact F.len _ _ _ _ h
  refine wpAny_call (codeAny_mono (F.run X.A X.stack s H ⟨us, []⟩ (us ++ ds) (vs ++ dvs) Q E hr I.env0 (hb s us I.kIn hl) r2 h) fun r s' hq => ?_)
  cases r with
  | error e => exact hx pins σ H s e s' I hq
  | ok fl =>
    cases fl with
    | ret u => exact I.after hq
    | next => exact False.elim hq
    | brk => exact False.elim hq
    | cont => exact False.elim hq
theorem pe_call (F : FnOk X.prog X.w X.K X.mg X.base CX k f fd ps sp) (hr : Room k X.A) (hg : Gl X x) (hm : X.mg x = some (.ref f)) (hk : PySem.W.keepIn X.K (.ref f) = true) (hb : Binds X.K fd ps ds) (hd : Vals dvs ds) (hx : Passes CX X E)
    (ha : PA X (e :: es) t) (hdb : (x == ("__debug__" : Str)) = false := by decide) (he : starEach (e :: es) X.env = (false, eval e X.env) :: starEach es X.env := by rfl) (hpl : (backTo pos (starEach es X.env)).any (·.1) = false := by rfl) :
    PE X (.Call (.Name x p) (e :: es) [] pos) (tCall sp dvs E t) := by
  intro pins s σ H Q I h
  refine wpAny_Call_Name_kw (ld_glob I hg hm ?_ hdb)
  refine PySem.W.callWith_K (h₀ := X.base) I.ok.mod.kin hk (thn (ha pos pins s σ H _ I h) fun us s1 ⟨vs, H1, I1, r, q⟩ => ⟨I1.kIn, ?_⟩) he hpl
  exact run_fn F hr hb hd hx I1 r q
structure Mk (K : PySem.W.Frag) (C f : Addr) : Prop where
  makes : PySem.W.makesIn K C = true
  init : PySem.W.findIn K (.ref C) "__init__" = some (some (.ref f))
  fn : PySem.W.isFn K (.ref f) = true
  kp : PySem.W.keepIn K (.ref C) = true
end
def PK (X : Cx) (kws : List Keyword) (t : TA) : Prop :=
  ∀ (pos : Pos) (pins : List (Addr × Obj)) (s : Shared) (σ : St) (H : Hp) (Q : List V → Hp → Prop), Inv X pins σ H s → t σ H Q → wpAny (model X.prog X.w) X.A (evalAll ((backToKw pos (keywordEach kws X.env)).map (·.2))) (AP X pins σ Q) X.xe s
section
variable {X : Cx} {CX : CXT} {k : Nat} {f C : Addr} {fd : FuncData} {ps ks : List Str} {sp : Sp} {E : XK} {x m : Str} {p pos apos kpos : Pos} {e o : Expr} {es : List Expr} {kws : List Keyword} {te ta : TE} {t tk : TA} {nm : Option Str}
structure KBinds (K : PySem.W.Frag) (fd : FuncData) (ps ks : List Str) (g : List Value → List Value → List Value) (gV : List V → List V → List V) : Prop where
  to : ∀ (s : Shared) (us ws : List Value), K.In s.heap → (g us ws).length = ps.length → BindsTo s fd ⟨us, ks.zip ws⟩ (ps.zip (g us ws))
  rel : ∀ {vs : List V} {us : List Value} {zs : List V} {ws : List Value}, Vals vs us → Vals zs ws → Vals (gV vs zs) (g us ws)
def tCallK (sp : Sp) (gV : List V → List V → List V) (E : XK) (t tk : TA) : TE := fun σ H Q => t σ H fun vs H1 => tk σ H1 fun zs H2 => sp (gV vs zs) H2 Q E
variable {g : List Value → List Value → List Value} {gV : List V → List V → List V}
end
structure FnScope (N P : List Str) (sc : Scope) : Prop where
  kind : sc.kind = .function
  co : sc.isCoroutine = false
  gen : sc.isGenerator = false
  nd : N.Nodup
  pre : N.take P.length = P
  par : ∀ x ∈ P, sc.names.lookup x = some .local ∨ sc.names.lookup x = some .cell
  nofree : ∀ y ∈ sc.names, y.2 ≠ .free
theorem bindL_out {kindOf : Str → Option NameKind} {x : Str} : ∀ {binds : List (Str × Value)} {m : Str → Option Value}, (∀ v, (x, v) ∉ binds) → bindL kindOf binds m x = m x
  | [], _, _ => rfl
  | (n, v) :: r, m, h => by
    unfold bindL
    rw [bindL_out fun w hw => h w (List.mem_cons_of_mem _ hw)]
    split
    · have : x ≠ n := by rintro rfl; exact h v List.mem_cons_self
      simp [this]
    · rfl
theorem bindC_out {kindOf : Str → Option NameKind} {x : Str} : ∀ {binds : List (Str × Value)} {m : Str → Option Value}, (∀ v, (x, v) ∉ binds) → bindC kindOf binds m x = m x
  | [], _, _ => rfl
  | (n, v) :: r, m, h => by
    unfold bindC
    rw [bindC_out fun w hw => h w (List.mem_cons_of_mem _ hw)]
    split
    · rfl
    · have : x ≠ n := by rintro rfl; exact h v List.mem_cons_self
      simp [this]
theorem bindL_get {kindOf : Str → Option NameKind} {x : Str} {v : Value} : ∀ {P : List Str} {vs : List Value} {i : Nat} {m : Str → Option Value}, P.Nodup → P[i]? = some x → vs[i]? = some v → kindOf x = some .local →
    bindL kindOf (P.zip vs) m x = some v
  | [], _, _, _, _, h, _, _ => by simp at h
  | _ :: _, [], _, _, _, _, h, _ => by simp at h
  | p :: P, w :: vs, 0, m, nd, h1, h2, hk => by
    simp at h1 h2; subst h1; subst h2
    show bindL kindOf ((p, w) :: P.zip vs) m p = _
    unfold bindL
    rw [bindL_out fun v hv => (List.nodup_cons.mp nd).1 (List.of_mem_zip hv).1, if_pos hk]
    simp
  | p :: P, w :: vs, i + 1, m, nd, h1, h2, hk => by
    show bindL kindOf ((p, w) :: P.zip vs) m x = _
    unfold bindL
    exact bindL_get (i := i) (List.nodup_cons.mp nd).2 (by simpa using h1) (by simpa using h2) hk
theorem bindC_get {kindOf : Str → Option NameKind} {x : Str} {v : Value} : ∀ {P : List Str} {vs : List Value} {i : Nat} {m : Str → Option Value}, P.Nodup → P[i]? = some x → vs[i]? = some v → kindOf x ≠ some .local →
    bindC kindOf (P.zip vs) m x = some v
  | [], _, _, _, _, h, _, _ => by simp at h
  | _ :: _, [], _, _, _, _, h, _ => by simp at h
  | p :: P, w :: vs, 0, m, nd, h1, h2, hk => by
    simp at h1 h2; subst h1; subst h2
    show bindC kindOf ((p, w) :: P.zip vs) m p = _
    unfold bindC
    rw [bindC_out fun v hv => (List.nodup_cons.mp nd).1 (List.of_mem_zip hv).1, if_neg hk]
    simp
  | p :: P, w :: vs, i + 1, m, nd, h1, h2, hk => by
    show bindC kindOf ((p, w) :: P.zip vs) m x = _
    unfold bindC
    exact bindC_get (i := i) (List.nodup_cons.mp nd).2 (by simpa using h1) (by simpa using h2) hk
def start (N : List Str) (vs : List V) : St := vs.map some ++ List.replicate (N.length - vs.length) none
def cxOf (CX : CXT) (P : Program) (w : World) (K : PySem.W.Frag) (mg : Str → Option Value) (base : Heap) (N : List Str) (qual : Str) (scope : Scope) (f : Addr) (cd : Value) (A : Around) (outer : List Env) (s : Shared) (H : Hp) (E : XK) : Cx where
  prog := P
  w := w
  K := K
  mg := mg
  base := base
  A := A.deeper (envOfC qual scope s.heap.objs.size f cd)
  N := N
  s₀ := s
  H₀ := H
  env := envOfC qual scope s.heap.objs.size f cd
  outer := outer
  stack := envOfC qual scope s.heap.objs.size f cd :: outer
  ex := []
  calm := true
  fn := fun _ => true
  pn := []
  xe := fun e s' => wpAny (model P w) (A.deeper (envOfC qual scope s.heap.objs.size f cd)) (leaving (envOfC qual scope s.heap.objs.size f cd) e) (fun _ s'' => CX outer H s E e s'') (fun e' s'' => CX outer H s E e' s'') s'
theorem cell_has {sc : Scope} {n : Nat} {x : Str} (h : sc.names.lookup x = some .cell) : ∃ c, (cellsFrom n sc.names []).lookup x = some c := by
  have q := PySem.W.cellsFrom_some sc.names n [] (.inl h)
  exact Option.isSome_iff_exists.mp q
theorem inv_start {CX : CXT} {P : Program} {w : World} {K : PySem.W.Frag} {mg : Str → Option Value} {base : Heap} {N ps : List Str} {qual : Str} {scope : Scope} {f : Addr} {cd : Value} {A : Around} {outer : List Env} {s s1 : Shared} {H : Hp} {E : XK} {us : List Value} {vs : List V}
    (S : FnScope N ps scope) (hd : A.handled = none) (e0 : Env0 P w K mg base A outer s H) (hl : vs.length = ps.length) (r : Vals vs us)
    (x : InCallC s s.heap.objs.size (bindL (envOfC qual scope s.heap.objs.size f cd).kindOf (ps.zip us) fun _ => none) (cellsFrom (s.heap.objs.size + 1) scope.names []) (bindC (envOfC qual scope s.heap.objs.size f cd).kindOf (ps.zip us) fun _ => none) s1) :
    Inv (cxOf CX P w K mg base N qual scope f cd A outer s H E) [] (start N vs) H s1 := by
  have hpl : ps.length ≤ N.length := by have := congrArg List.length S.pre; rw [List.length_take] at this; omega
  obtain ⟨h1, tk, rfl, hk⟩ := x.done
  have noA : ∀ b : Addr, b ∉ (cxOf CX P w K mg base N qual scope f cd A outer s H E).ex := fun b z => absurd (show b ∈ ([] : List Addr) from z) (by simp)
  refine ⟨⟨e0.mod, S.kind, rfl, rfl, Nat.le_refl _, fun y z c h1 h2 => ?_, fun y hy => ?_, fun y c _ h => ?_, fun _ => hd, Around.frames_deeper e0.frames, .inr ⟨rfl, rfl⟩, fun b z => absurd z (noA b), e0.bs, e0.bsz, fun b _ _ => noA b, fun b z => absurd z (noA b), e0.funs, e0.frf⟩,
    rfl, e0.bare, Un.kept hk, ⟨_, x.toInCall.ns, fun i y v h1 h2 h3 => ?_⟩, fun y c h => ⟨_, x.cell y c h⟩, e0.hok.fresh (Nat.le_refl _), fun y c h => ?_, fun p hp => absurd (show p ∈ ([] : List (Addr × Obj)) from hp) (by simp), e0.hok.kept hk, ?_⟩
  · exact name_of_addr x.apart (PySem.mem_of_lookup h1) (PySem.mem_of_lookup h2)
  · have hy : scope.names.lookup y = some .cell ∨ scope.names.lookup y = some .free := hy
    rcases hy with hy | hy
    · exact cell_has hy
    · exact absurd rfl (S.nofree _ (PySem.mem_of_lookup hy))
  · exact Nat.le_of_lt (x.above y c (PySem.mem_of_lookup h))
  · have hi : i < vs.length := by
      unfold start at h2
      by_cases hi : i < vs.length
      · exact hi
      · rw [List.getElem?_append_right (by simpa using hi)] at h2
        rw [List.getElem?_replicate] at h2
        split at h2 <;> cases h2
    have ha : vs[i]? = some v := by
      unfold start at h2
      rw [List.getElem?_append_left (by simpa using hi), List.getElem?_map] at h2
      cases e : vs[i]? with
      | none => rw [e] at h2; cases h2
      | some a => rw [e] at h2; cases h2; rfl
    obtain ⟨u, hu, rv⟩ := r.get ha
    have hp : ps[i]? = some y := by
      rw [← S.pre, List.getElem?_take_of_lt (by omega)]; exact h1
    have ndP : ps.Nodup := by rw [← S.pre]; exact S.nd.sublist (List.take_sublist _ _)
    refine ⟨u, rv, ?_⟩
    rcases S.par y (List.mem_of_getElem? hp) with k | k
    · exact .inl ⟨k, bindL_get ndP hp hu k⟩
    · obtain ⟨c, e⟩ := cell_has (n := s.heap.objs.size + 1) k
      refine .inr ⟨.inl k, c, e, ?_⟩
      have q := x.cell y c e
      rw [bindC_get ndP hp hu (by show scope.names.lookup y ≠ _; rw [k]; decide)] at q
      exact q
  · exact e0.hok.fresh (Nat.le_of_lt (x.above y c (PySem.mem_of_lookup h)))
  · unfold start
    show _ = N.length
    rw [List.length_append, List.length_map, List.length_replicate]
    omega
theorem fn_of {CX : CXT} {P : Program} {w : World} {K : PySem.W.Frag} {mg : Str → Option Value} {base : Heap} {k : Nat} {f : Addr} {name qual : Str} {params : Arguments} {body : List Stmt} {scope : Scope} {dV kV doc pm cdv ct oc : Value} {an od : Option Addr}
    {osl : Array (Option Value)} {N ps : List Str} {sp : Sp} (lk : K.lookup f = some ⟨oc, od, .func (PySem.W.fnOf name qual params body scope dV kV doc pm an cdv ct), osl⟩) (hcd : PySem.W.codeIn K cdv qual = true) (S : FnScope N ps scope)
    (len : ∀ vs H Q E, sp vs H Q E → vs.length = ps.length)
    (hbody : ∀ (A : Around) (outer : List Env) (s : Shared) (H : Hp) (vs : List V) (Q : VK) (E : XK), Room k (A.deeper (envOfC qual scope s.heap.objs.size f cdv)) → sp vs H Q E →
      ∃ t, PSs (cxOf CX P w K mg base N qual scope f cdv A outer s H E) body t ∧ t { nx := fun _ H' => Q .non H', rt := Q } (start N vs) H) :
    FnOk P w K mg base CX (k + 1) f (PySem.W.fnOf name qual params body scope dV kV doc pm an cdv ct) ps sp := by
  refine ⟨len, fun A outer s H args us vs Q E hr e0 hb r hsp => ?_⟩
  have hl := len _ _ _ _ hsp
  have KX : K.In s.heap := e0.mod.kin.keeps fun b o e => (e0.bs b o e).1
  have lim : s.heap.NoLimit := e0.mod.nolimit.keeps fun b o e => (e0.bs b o e).1
  have hkind : ∀ y ∈ ps.zip us, scope.names.lookup y.1 = some .local ∨ (scope.names.lookup y.1 = some .cell ∧ ((cellsFrom (s.heap.objs.size + 1) scope.names []).lookup y.1).isSome = true) := fun ⟨n, v⟩ hy => by
    rcases S.par n (List.of_mem_zip hy).1 with q | q
    · exact .inl q
    · exact .inr ⟨q, PySem.W.cellsFrom_some _ _ _ (.inl q)⟩
  refine codeAny_call_function hr.depth (KX _ _ lk) rfl S.co S.gen rfl (PySem.W.codeRec_of KX hcd) (hb _ _ _ _ ?_)
  refine wpAny_newFunctionEnv_cells S.kind hkind fun env he s1 x => ?_
  subst he
  refine ⟨lim.keeps x.toInCall.keep, codeAny_func ?_⟩
  obtain ⟨t, ht, hq⟩ := hbody A outer s H vs Q E (hr.deeper _) hsp
  have I : Inv (cxOf CX P w K mg base N qual scope f cdv A outer s H E) [] (start N vs) H s1 := inv_start S hr.hd e0 hl r x
  refine wpAny_mono (ht [] s1 (start N vs) H _ I hq) (fun fl s' hs => ?_) fun e s' hs => hs
  have fin : ∀ {σ' : St} {H' : Hp} {v : V} {u : Value}, Inv (cxOf CX P w K mg base N qual scope f cdv A outer s H E) [] σ' H' s' → RelV v u → Q v H' → CE outer P w H s Q u s' :=
    fun {σ' H' v u} J rv q => ⟨v, H', J.os, J.bare, J.base, J.hok, rv, q⟩
  cases fl with
  | ret u =>
    obtain ⟨v, σ', H', J, rv, q⟩ := hs
    exact fin J rv q
  | next =>
    obtain ⟨σ', H', J, q⟩ := hs
    exact fin (v := V.non) (u := Value.none) J rfl q
  | brk =>
    obtain ⟨_, _, _, q⟩ := hs
    exact False.elim q
  | cont =>
    obtain ⟨_, _, _, q⟩ := hs
    exact False.elim q
end L2
namespace L2
open PySem PySem.Spec PyProof.Rows
section
variable {X : Cx} {x : Str} {p pos : Pos} {e : Expr} {es : List Expr} {t : TA} {id T : String} {r : List V → Hp → VK → Prop}
def tCB (r : List V → Hp → VK → Prop) (t : TA) : TE := fun σ H Q => t σ H fun vs H1 => r vs H1 Q
theorem pe_callB (hc : CallR X (.builtin id) r) (hg : Gl X x) (hm : X.mg x = none) (hv : bootBuiltins x = some (.builtin id)) (ha : PA X (e :: es) t) (hn : x ≠ "__name__" := by decide) (hdb : (x == ("__debug__" : Str)) = false := by decide)
    (he : starEach (e :: es) X.env = (false, eval e X.env) :: starEach es X.env := by rfl) (hpl : (backTo pos (starEach es X.env)).any (·.1) = false := by rfl) : PE X (.Call (.Name x p) (e :: es) [] pos) (tCB r t) := by
  intro pins s σ H Q I h
  refine wpAny_Call_Name_kw (ld_blt I hg hm hv ?_ hn hdb)
  exact PyProof.Rows.callWith_builtin1 (thn (ha pos pins s σ H _ I h) fun us s1 ⟨vs, H1, I1, r1, q1⟩ => hc pins s1 σ H1 vs us Q I1 r1 q1) he hpl
theorem pe_callTy (hc : CallR X (.type T) r) (hg : Gl X x) (hm : X.mg x = none) (hv : bootBuiltins x = some (.type T)) (ha : PA X (e :: es) t) (hn : x ≠ "__name__" := by decide) (hdb : (x == ("__debug__" : Str)) = false := by decide)
    (he : starEach (e :: es) X.env = (false, eval e X.env) :: starEach es X.env := by rfl) (hpl : (backTo pos (starEach es X.env)).any (·.1) = false := by rfl) : PE X (.Call (.Name x p) (e :: es) [] pos) (tCB r t) := by
  intro pins s σ H Q I h
  refine wpAny_Call_Name_kw (ld_blt I hg hm hv ?_ hn hdb)
  exact PyProof.Rows.callWith_type1 (thn (ha pos pins s σ H _ I h) fun us s1 ⟨vs, H1, I1, r1, q1⟩ => hc pins s1 σ H1 vs us Q I1 r1 q1) he hpl
end
end L2
namespace HT
open PySem PyProof.Rows
def lexLt : List Int → List Int → Bool
  | [], [] => false
  | [], _ :: _ => true
  | _ :: _, [] => false
  | x :: xs, y :: ys => if x = y then lexLt xs ys else decide (x < y)
section
open PySem.SeqAt
open PySem.AutoSeq1 (wpAny_loadPart')
open PySem.MeetsSeq PySem.MeetsSeq2 PySem.MeetsSeq3
end
section
variable {prog : Program} {w : World} {A : Around} {E : Value → Shared → Prop} {s : Shared}
def sIx (n d : Nat) : Option Int → Nat
  | none => d
  | some v => if v < 0 then (v + (n : Int)).toNat else min v.toNat n
end
end HT
namespace L2
open PySem PySem.Spec PyProof.Rows
abbrev TO := St → Hp → (Option Int → Hp → Prop) → Prop
def PO (X : Cx) (e : Option Expr) (t : TO) : Prop :=
  ∀ (pins : List (Addr × Obj)) (s : Shared) (σ : St) (H : Hp) (Q : Option Int → Hp → Prop), Inv X pins σ H s → t σ H Q →
    wpAny (model X.prog X.w) X.A (evalPart e X.env) (fun u s' => ∃ o H', Inv X pins σ H' s' ∧ IsPart u o ∧ Q o H') X.xe s
def tNoPart : TO := fun _ H Q => Q none H
def tPart (t : TE) : TO := fun σ H Q => t σ H fun x H1 => ∃ i, x = .int i ∧ Q (some i) H1
section
variable {X : Cx} {e : Expr} {te : TE} {lo hi : Option Expr} {tl th : TO} {pos p2 : Pos}
theorem po_none : PO X none tNoPart := by
  intro pins s σ H Q I h
  rw [evalPart_none]
  exact wpAny_pure ⟨none, H, I, .none, h⟩
theorem po_some (h : PE X e te) : PO X (some e) (tPart te) := by
  intro pins s σ H Q I hw
  rw [evalPart_some]
  refine thn (h pins s σ H _ I hw) fun u s1 ⟨x, H1, I1, r1, q1⟩ => ?_
  obtain ⟨i, rfl, q⟩ := q1
  obtain ⟨t, rfl⟩ := r1
  exact ⟨some i, H1, I1, .int i t, q⟩
def SlR (X : Cx) (r : V → Option Int → Option Int → Hp → VK → Prop) : Prop :=
  ∀ (pins : List (Addr × Obj)) (s : Shared) (σ : St) (H : Hp) (x : V) (v vl vu : Value) (lo hi : Option Int) (sl : Addr) (Q : VK), Inv X pins σ H s → RelV x v → s.heap.IsSliceOf sl vl vu .none → IsPart vl lo → IsPart vu hi → r x lo hi H Q →
    ∃ T id, typeLookup (.type T) "__getitem__" = pure (some (.builtin id)) ∧ s.TypeIs v T ∧ wpAny (model X.prog X.w) X.A (getItem v (.ref sl)) (EP X pins σ Q) X.xe s
def tSl (r : V → Option Int → Option Int → Hp → VK → Prop) (te : TE) (tl th : TO) : TE := fun σ H Q => te σ H fun x H1 => tl σ H1 fun l H2 => th σ H2 fun u H3 => r x l u H3 Q
theorem pe_slice {r : V → Option Int → Option Int → Hp → VK → Prop} (hr : SlR X r) (he : PE X e te) (hl : PO X lo tl) (hu : PO X hi th) : PE X (.Subscript e (.Slice lo hi none p2) pos) (tSl r te tl th) := by
  intro pins s σ H Q I h
  refine Subscript_ (thn (he pins s σ H _ I h) fun v s1 ⟨x, H1, I1, r1, q1⟩ => ?_)
  refine wpAny_Slice (thn (hl pins s1 σ H1 _ I1 q1) fun vl s2 ⟨l, H2, I2, pl, q2⟩ => thn (hu pins s2 σ H2 _ I2 q2) fun vu s3 ⟨u, H3, I3, pu, q3⟩ => ?_)
  rw [evalPart_none]
  refine wpAny_pure ?_
  have I4 : Inv X pins σ H3 { s3 with heap := s3.heap.push { cls := .type "slice", data := .fields #[vl, vu, .none] } } := I3.kept (t' := s3.toks) fun b ob q => Heap.get?_push_of_some _ q
  obtain ⟨T, id, hT, ht, hg⟩ := hr pins { s3 with heap := s3.heap.push { cls := .type "slice", data := .fields #[vl, vu, .none] } } σ H3 x v vl vu l u s3.heap.objs.size Q I4 r1 (Heap.IsSliceOf.new ..) pl pu q3
  show wpAny (model X.prog X.w) X.A (subscriptTail e (.Slice lo hi none p2) v (.ref s3.heap.objs.size)) (EP X pins σ Q) X.xe { s3 with heap := s3.heap.push { cls := .type "slice", data := .fields #[vl, vu, .none] } }
  exact tail_any (ops := [.ref s3.heap.objs.size, v]) ht hT hg (by with_unfolding_all rfl)
def cutV (xs : List V) (lo hi : Option Int) : List V := (xs.drop (HT.sIx xs.length 0 lo)).take (HT.sIx xs.length xs.length hi - HT.sIx xs.length 0 lo)
theorem cutV_length (xs : List V) (lo hi : Option Int) : (cutV xs lo hi).length ≤ xs.length := by
  unfold cutV
  rw [List.length_take, List.length_drop]
  omega
def rSlT (K : PySem.W.Frag) : V → Option Int → Option Int → Hp → VK → Prop := fun x lo hi H Q => ∃ a xs, x = .ref a ∧ SqT K H a xs ∧
  ¬ (HT.sIx xs.length 0 lo = 0 ∧ HT.sIx xs.length xs.length hi = xs.length) ∧ ∀ p, H p = none → Q (.ref p) (upd H p (.tup (cutV xs lo hi)))
def rLtT (K : PySem.W.Frag) : R2 := fun x y H Q => ∃ a b ns ms, x = .ref a ∧ y = .ref b ∧ SqT K H a (ns.map V.int) ∧ SqT K H b (ms.map V.int) ∧ Q (.bl (HT.lexLt ns ms)) H
def rCatT (K : PySem.W.Frag) : R2 := fun x y H Q => ∃ a b xs ys, x = .ref a ∧ y = .ref b ∧ SqT K H a xs ∧ SqT K H b ys ∧ xs ≠ [] ∧ xs.length + ys.length ≤ sizeLine ∧
  (ys = [] → Q (.ref a) H) ∧ (ys ≠ [] → ∀ p, H p = none → Q (.ref p) (upd H p (.tup (xs ++ ys))))
end
end L2
namespace L2
open PySem PySem.Spec PyProof.Rows
def ixN (n : Nat) (i : Int) : Option Nat := if 0 ≤ i then (if i < n then some i.toNat else none) else if -(n : Int) ≤ i then some (i + n).toNat else none
def atI {α : Type} (xs : List α) (i : Int) : Option α := (ixN xs.length i).bind fun j => xs[j]?
theorem ixN_seq {n : Nat} {i : Int} {j : Nat} (h : ixN n i = some j) : seqIndex? i n = some j ∧ j < n ∧ -(n : Int) ≤ i ∧ i < n := by
  unfold ixN at h
  by_cases h0 : 0 ≤ i
  · rw [if_pos h0] at h
    by_cases h1 : i < n
    · rw [if_pos h1] at h
      have e : i.toNat = j := Option.some.inj h
      exact ⟨by rw [seqIndex_of h0 h1, e], by omega, by omega, h1⟩
    · rw [if_neg h1] at h; cases h
  · rw [if_neg h0] at h
    by_cases h1 : -(n : Int) ≤ i
    · rw [if_pos h1] at h
      have e : (i + n).toNat = j := Option.some.inj h
      exact ⟨by rw [seqIndex_neg (by omega) h1, e], by omega, h1, by omega⟩
    · rw [if_neg h1] at h; cases h
theorem atI_get {α : Type} {xs : List α} {i : Int} {v : α} (h : atI xs i = some v) : ∃ j, seqIndex? i xs.length = some j ∧ xs[j]? = some v ∧ j < xs.length ∧ -(xs.length : Int) ≤ i ∧ i < xs.length := by
  unfold atI at h
  cases e : ixN xs.length i with
  | none => rw [e] at h; cases h
  | some j =>
    rw [e] at h
    obtain ⟨h1, h2, h3, h4⟩ := ixN_seq e
    exact ⟨j, h1, h, h2, h3, h4⟩
theorem atI_nat {α : Type} {xs : List α} {j : Nat} {v : α} (h : xs[j]? = some v) : atI xs (j : Int) = some v := by
  have hj : j < xs.length := (List.getElem?_eq_some_iff.mp h).1
  have e : ixN xs.length (j : Int) = some j := by
    unfold ixN
    rw [if_pos (by omega), if_pos (by omega)]; simp
  unfold atI; rw [e]; exact h
def PlainIx (b : Expr) : Prop := ∀ o i, subscripted b false o i = operate [o, i] (getItem o i)
def IxR (X : Cx) (r : R2) : Prop :=
  ∀ (value slice : Expr) (pins : List (Addr × Obj)) (s : Shared) (σ : St) (H : Hp) (x y : V) (v u : Value) (Q : VK), Inv X pins σ H s → RelV x v → RelV y u → r x y H Q →
    subscripted slice false v u = operate [v, u] (getItem v u) → wpAny (model X.prog X.w) X.A (subscriptTail value slice v u) (EP X pins σ Q) X.xe s
def MtR (X : Cx) (id : String) (r : V → List V → Hp → VK → Prop) : Prop :=
  ∀ (pins : List (Addr × Obj)) (s : Shared) (σ : St) (H : Hp) (x : V) (xs : List V) (v : Value) (us : List Value) (Q : VK), Inv X pins σ H s → RelV x v → Vals xs us → r x xs H Q →
    wpAny (model X.prog X.w) X.A (call (.builtin id) (v :: us)) (EP X pins σ Q) X.xe s
section
variable {X : Cx} {a b : Expr} {ta tb : TE} {pos : Pos}
theorem pe_ix {r : R2} (hr : IxR X r) (ha : PE X a ta) (hb : PE X b tb) (hs : PlainIx b) : PE X (.Subscript a b pos) (tOp r ta tb) := by
  intro pins s σ H Q I h
  exact Subscript_ (binT ha hb I h fun v u s2 x y H2 I2 rx ry q => hr a b pins s2 σ H2 x y v u Q I2 rx ry q (hs _ _))
def rIxL (K : PySem.W.Frag) : R2 := fun x y H Q => ∃ p xs i v, x = .ref p ∧ y = .int i ∧ SqL K H p xs ∧ atI xs i = some v ∧ Q v H
def rIxT (K : PySem.W.Frag) : R2 := fun x y H Q => ∃ p xs i v, x = .ref p ∧ y = .int i ∧ SqT K H p xs ∧ atI xs i = some v ∧ Q v H
def rIxS : R2 := fun x y H Q => ∃ z i c, x = .str z ∧ y = .int i ∧ z.length ≤ sizeLine ∧ atI z.cps.toList i = some c ∧ Q (.str ⟨#[c]⟩) H
theorem ix_list : IxR X (rIxL X.K) := by
  intro value slice pins s σ H x y v u Q I rx ry h hs
  obtain ⟨p, xs, i, z, rfl, rfl, hq, he, q⟩ := h
  cases rx
  obtain ⟨t, rfl⟩ := ry
  obtain ⟨its, r, pl, hz⟩ := I.list hq
  obtain ⟨j, h1, h2, h3, h4, h5⟩ := atI_get he
  obtain ⟨w, ew, rw'⟩ := r.get h2
  have hl := r.length
  have hn := line63
  have fin : EP X pins σ Q w s := ⟨z, H, I, rw', q⟩
  by_cases h0 : 0 ≤ i
  · have hj : i.toNat = j := by
      rw [seqIndex_of h0 h5] at h1
      exact Option.some.inj h1
    exact item_listR pl.isList h0 (by omega) (by rw [hj]; simpa using ew) fin hs
  · have hj : (i + (its.toArray.size : Int)).toNat = j := by
      rw [seqIndex_neg (by omega) h4] at h1
      rw [List.size_toArray, ← hl]
      exact Option.some.inj h1
    exact subscriptTail_builtinR (x := w) pl.isList.typeIs slot_list_getitem.lookup
      (wpAny_getItem_list_neg (Q := fun r s' => r = w ∧ EP X pins σ Q r s') pl.isList (by omega) (by rw [List.size_toArray] <;> omega) (by omega) (by rw [hj]; simpa using ew) ⟨rfl, fin⟩) hs
theorem ix_str : IxR X rIxS := by
  intro value slice pins s σ H x y v u Q I rx ry h hs
  obtain ⟨z, i, c, rfl, rfl, hz, he, q⟩ := h
  obtain ⟨t, rfl⟩ := rx
  obtain ⟨t', rfl⟩ := ry
  obtain ⟨j, h1, h2, h3, h4, h5⟩ := atI_get he
  have hl : z.cps.toList.length = z.length := by simp [Str.length]
  rw [hl] at h1 h4 h5
  have hn := line63
  exact tail_any (typeIs_str s z t) slot_str_getitem.lookup (getItem_str (c := c) (by
    have e1 : decide (i < -(2 ^ 63 : Int)) = false := decide_eq_false (by omega)
    have e2 : decide (i ≥ 2 ^ 63) = false := decide_eq_false (by omega)
    rw [e1, e2, Bool.or_false]) (by rw [h1]; simpa using h2) ⟨.str ⟨#[c]⟩, H, I.tok _, ⟨_, rfl⟩, q⟩) hs
def rIx (K : PySem.W.Frag) : R2 := fun x y H Q => rIxL K x y H Q ∨ rIxT K x y H Q ∨ rIxS x y H Q
theorem mapSeq_set (its : List Value) (n j : Nat) (u : Value) : Obj.mapSeq (·.setIfInBounds j u) { cls := .type "list", data := .seq its.toArray n } = { cls := .type "list", data := .seq (its.set j u).toArray n } := by
  simp [Obj.mapSeq]
theorem Inv.lst {pins : List (Addr × Obj)} {σ : St} {H : Hp} {s : Shared} {p : Addr} {xs : List V} (I : Inv X pins σ H s) (h : H p = some (.lst xs)) :
    ∃ (its : List Value) (n : Nat), Vals xs its ∧ s.heap.get? p = some { cls := .type "list", data := .seq its.toArray n } ∧ xs.length ≤ sizeLine := by
  obtain ⟨z, its, n, r, e⟩ := I.hok p _ h
  exact ⟨its, n, r, e, z⟩
theorem Inv.lstUpd {pins : List (Addr × Obj)} {σ : St} {H : Hp} {s : Shared} {p : Addr} {xs ys : List V} {its its' : List Value} {n n' : Nat} {f : Obj → Obj} (I : Inv X pins σ H s) (h : H p = some (.lst xs))
    (ho : s.heap.get? p = some { cls := .type "list", data := .seq its.toArray n }) (hf : f { cls := .type "list", data := .seq its.toArray n } = { cls := .type "list", data := .seq its'.toArray n' }) (r : Vals ys its') (hz : ys.length ≤ sizeLine) (t : Nat) :
    Inv X pins σ (upd H p (.lst ys)) { s with heap := s.heap.update p f, toks := t } := by
  have e : (s.heap.update p f).get? p = some { cls := .type "list", data := .seq its'.toArray n' } := by
    rw [Heap.get?_update_self f ho (by rw [hf] <;> rfl), hf]
  refine I.write (x := p) (e := p) (by rw [h]; trivial) (.inl rfl) (fun b u hb q => (Heap.get?_update_other _ _ (Ne.symm hb)).trans q) ⟨_, e⟩ ?_
  exact ⟨hz, its', n', r, e⟩
def rSetL : V → V → V → Hp → (Hp → Prop) → Prop := fun o i v H Q => ∃ p xs k j, o = .ref p ∧ i = .int k ∧ H p = some (.lst xs) ∧ ixN xs.length k = some j ∧ Q (upd H p (.lst (xs.set j v)))
theorem set_list : PSet X rSetL := by
  intro pins s σ H o i v ov iv u Q I ro ri rv h
  obtain ⟨p, xs, k, j, rfl, rfl, hp, hj, q⟩ := h
  cases ro
  obtain ⟨t, rfl⟩ := ri
  obtain ⟨its, n, r, ho, hz⟩ := I.lst hp
  obtain ⟨h1, h2, h3, h4⟩ := ixN_seq hj
  have hl := r.length
  have hn := line63
  have I' : Inv X pins σ (upd H p (.lst (xs.set j v))) { s with heap := s.heap.update p (Obj.mapSeq (·.setIfInBounds j u)) } :=
    I.lstUpd hp ho (mapSeq_set its n j u) (r.set rv j) (by rw [List.length_set]; exact hz) s.toks
  by_cases h0 : 0 ≤ k
  · have hk : k.toNat = j := by
      rw [seqIndex_of h0 h4] at h1
      exact Option.some.inj h1
    exact PySem.W.ki_setAt ho h0 (by omega) (by rw [List.size_toArray, ← hl]; exact h4) (by rw [hk]; exact ⟨_, I', q⟩)
  · have hk : (k + (its.toArray.size : Int)).toNat = j := by
      rw [seqIndex_neg (by omega) h3] at h1
      rw [List.size_toArray, ← hl]
      exact Option.some.inj h1
    exact PySem.W.ki_setBack ho (by omega) (by rw [List.size_toArray, ← hl]; exact h3) (by omega) (by rw [hk]; exact ⟨_, I', q⟩)
theorem slice_bounds (lo hi : Option Int) (n : Nat) : (sliceBounds lo hi none n).1 = ((HT.sIx n 0 lo : Nat) : Int) ∧ (sliceBounds lo hi none n).2.1 = ((HT.sIx n n hi : Nat) : Int) ∧ (sliceBounds lo hi none n).2.2 = 1 := by
  refine ⟨?_, ?_, rfl⟩
  · cases lo with
    | none => simp [sliceBounds, HT.sIx]
    | some i =>
      simp only [sliceBounds, HT.sIx, Option.getD_none, show (1 : Int) > 0 by decide, if_true]
      by_cases h : i < 0
      · simp only [h, if_true] <;> omega
      · simp only [h, if_false] <;> omega
  · cases hi with
    | none => simp [sliceBounds, HT.sIx]
    | some i =>
      simp only [sliceBounds, HT.sIx, Option.getD_none, show (1 : Int) > 0 by decide, if_true]
      by_cases h : i < 0
      · simp only [h, if_true] <;> omega
      · simp only [h, if_false] <;> omega
theorem slicePick_cut (its : List Value) (lo hi : Option Int) : slicePick its.toArray lo hi none = ((its.drop (HT.sIx its.length 0 lo)).take (HT.sIx its.length its.length hi - HT.sIx its.length 0 lo)).toArray := by
  obtain ⟨h1, h2, h3⟩ := slice_bounds lo hi its.toArray.size
  unfold slicePick
  rw [h1, h2, h3]
  simp only [sliceRange_one, pick_run, List.size_toArray] <;> rfl
def rSlL (K : PySem.W.Frag) : V → Option Int → Option Int → Hp → VK → Prop := fun x lo hi H Q => ∃ a xs, x = .ref a ∧ SqL K H a xs ∧ ∀ p, H p = none → Q (.ref p) (upd H p (.lst (cutV xs lo hi)))
theorem sl_list : SlR X (rSlL X.K) := by
  intro pins s σ H x v vl vu lo hi sl Q I rx hs pl pu h
  obtain ⟨a, xs, rfl, hx, q⟩ := h
  cases rx
  obtain ⟨its, r, ht, hz⟩ := I.list hx
  have hlen := r.length
  refine ⟨"list", _, slot_list_getitem.lookup, ht.isList.typeIs, ?_⟩
  refine wpAny_getItem_list_slice ht.isList hs pl pu .none (by simp) ?_ (by rw [List.size_toArray] <;> omega)
  rw [slicePick_cut, ← hlen]
  refine ⟨.ref s.heap.objs.size, _, I.laid (t' := s.toks) (o := .lst (cutV xs lo hi)) (fun b ob q => Heap.get?_push_of_some _ q) (Nat.le_refl _) ?_, rfl, q _ (I.hok.fresh (Nat.le_refl _))⟩
  exact ⟨Nat.le_trans (cutV_length xs lo hi) hz, _, 0, (r.drop (HT.sIx xs.length 0 lo)).take (HT.sIx xs.length xs.length hi - HT.sIx xs.length 0 lo), Heap.get?_push_size _ rfl⟩
def flatV : V → Bool
  | .non => true
  | .bl _ => true
  | .int _ => true
  | .str _ => true
  | _ => false
def eqV : V → V → Bool
  | .non, .non => true
  | .bl a, .bl b => a == b
  | .bl a, .int b => (if a then 1 else 0) == b
  | .int a, .bl b => a == (if b then 1 else 0)
  | .int a, .int b => a == b
  | .str a, .str b => a == b
  | _, _ => false
theorem eqAt_V {A : Around} {s : Shared} {y x : V} {u v : Value} (ry : RelV y u) (rx : RelV x v) (fy : flatV y = true) (fx : flatV x = true) : SeqAt.EqAt A s u v (eqV y x) := by
  cases y with
  | non =>
    cases ry
    cases x with
    | non => cases rx; exact SeqAt.EqAt.same _
    | bl b => cases rx; exact SeqAt.EqAt.none_bool b
    | int b => obtain ⟨t, rfl⟩ := rx; exact SeqAt.EqAt.none_int b t
    | str b => obtain ⟨t, rfl⟩ := rx; exact SeqAt.EqAt.none_str b t
    | _ => exact absurd (show false = true from fx) Bool.false_ne_true
  | bl a =>
    cases ry
    cases x with
    | non => cases rx; exact SeqAt.EqAt.bool_none a
    | bl b => cases rx; exact SeqAt.EqAt.bool_bool a b
    | int b => obtain ⟨t, rfl⟩ := rx; exact SeqAt.EqAt.bool_int a b t
    | str b => obtain ⟨t, rfl⟩ := rx; exact SeqAt.EqAt.bool_str a b t
    | _ => exact absurd (show false = true from fx) Bool.false_ne_true
  | int a =>
    obtain ⟨t', rfl⟩ := ry
    cases x with
    | non => cases rx; exact SeqAt.EqAt.int_none a t'
    | bl b => cases rx; exact SeqAt.EqAt.int_bool a t' b
    | int b => obtain ⟨t, rfl⟩ := rx; exact SeqAt.EqAt.int_int a t' b t
    | str b => obtain ⟨t, rfl⟩ := rx; exact SeqAt.EqAt.int_str a t' b t
    | _ => exact absurd (show false = true from fx) Bool.false_ne_true
  | str a =>
    obtain ⟨t', rfl⟩ := ry
    cases x with
    | non => cases rx; exact SeqAt.EqAt.str_none a t'
    | bl b => cases rx; exact SeqAt.EqAt.str_bool a t' b
    | int b => obtain ⟨t, rfl⟩ := rx; exact SeqAt.EqAt.str_int a t' b t
    | str b => obtain ⟨t, rfl⟩ := rx; exact SeqAt.EqAt.str_str a t' b t
    | _ => exact absurd (show false = true from fx) Bool.false_ne_true
  | _ => exact absurd (show false = true from fy) Bool.false_ne_true
def eqU (x : V) (u : Value) : Bool := match u with
  | .none => eqV .non x
  | .bool b => eqV (.bl b) x
  | .int i _ => eqV (.int i) x
  | .str z _ => eqV (.str z) x
  | _ => false
theorem eqU_of {x y : V} {u : Value} (r : RelV y u) (f : flatV y = true) : eqU x u = eqV y x := by
  cases y with
  | non => cases r; rfl
  | bl b => cases r; rfl
  | int i => obtain ⟨t, rfl⟩ := r; rfl
  | str z => obtain ⟨t, rfl⟩ := r; rfl
  | _ => exact absurd (show false = true from f) Bool.false_ne_true
theorem any_eqU {x : V} : ∀ {xs : List V} {us : List Value}, Vals xs us → xs.all flatV = true → us.any (eqU x) = xs.any fun y => eqV y x
  | _, _, .nil, _ => rfl
  | y :: xs, u :: us, .cons r t, f => by
    rw [List.all_cons, Bool.and_eq_true] at f
    rw [List.any_cons, List.any_cons, eqU_of r f.1, any_eqU t f.2]
theorem mem_eqAt {A : Around} {s : Shared} {x : V} {v : Value} (rx : RelV x v) (fx : flatV x = true) : ∀ {xs : List V} {us : List Value}, Vals xs us → xs.all flatV = true → ∀ u ∈ us, SeqAt.EqAt A s u v (eqU x u)
  | _, _, .nil, _ => fun u hu => by cases hu
  | y :: xs, u :: us, .cons r t, f => fun u' hu => by
    rw [List.all_cons, Bool.and_eq_true] at f
    rcases List.mem_cons.mp hu with rfl | hu
    · rw [eqU_of r f.1]; exact eqAt_V r rx f.1 fx
    · exact mem_eqAt rx fx t f.2 u' hu
def inV (x : V) (xs : List V) : Bool := xs.any fun y => eqV y x
def rIn (K : PySem.W.Frag) (neg : Bool) : R2 := fun x y H Q => ∃ p xs, y = .ref p ∧ (SqL K H p xs ∨ SqT K H p xs) ∧ flatV x = true ∧ xs.all flatV = true ∧ Q (.bl (if neg then !inV x xs else inV x xs)) H
theorem op_notIn_seq : OpR X (compareOp .NotIn) (rIn X.K true) := by
  intro pins s σ H x y v u Q I rx ry h
  obtain ⟨p, xs, rfl, hq, fx, fs, q⟩ := h
  cases ry
  rcases hq with hq | hq
  · obtain ⟨its, r, pl, hz⟩ := I.list hq
    refine SeqAt.notIn_listAt (eqU x) pl.isList (fun w hw => mem_eqAt rx fx r fs w (by simpa using hw)) ⟨.bl _, H, I, rfl, ?_⟩
    rw [show its.toArray.any (eqU x) = its.any (eqU x) by simp, any_eqU r fs]
    exact q
  · obtain ⟨its, r, pl, hz⟩ := I.tuple hq
    refine SeqAt.notIn_tupleAt (eqU x) pl (fun w hw => mem_eqAt rx fx r fs w (by simpa using hw)) ⟨.bl _, H, I, rfl, ?_⟩
    rw [show its.toArray.any (eqU x) = its.any (eqU x) by simp, any_eqU r fs]
    exact q
theorem call_len_seq : CallR X (.builtin "len") (fun xs H Q => ∃ p ys, xs = [.ref p] ∧ (SqL X.K H p ys ∨ SqT X.K H p ys) ∧ Q (.int ys.length) H) := by
  intro pins s σ H xs us Q I r h
  obtain ⟨p, ys, rfl, hq, q⟩ := h
  obtain ⟨u, rfl, rx⟩ := vals1 r
  cases rx
  have hn := line63
  rcases hq with hq | hq
  · obtain ⟨its, r', pl, hz⟩ := I.list hq
    have hlen := r'.length
    exact Calls.call_len_list pl.isList (by simp only [List.size_toArray] <;> omega) ⟨.int ys.length, H, I.tok _, ⟨s.toks + 1, by rw [List.size_toArray, hlen]⟩, q⟩
  · obtain ⟨its, r', pl, hz⟩ := I.tuple hq
    have hlen := r'.length
    exact len_tuple pl (by simp only [List.size_toArray] <;> omega) ⟨.int ys.length, H, I.tok _, ⟨s.toks + 1, by rw [List.size_toArray, hlen]⟩, q⟩
theorem call_len_str : CallR X (.builtin "len") (fun xs H Q => ∃ z, xs = [.str z] ∧ z.length ≤ sizeLine ∧ Q (.int z.length) H) := by
  intro pins s σ H xs us Q I r h
  obtain ⟨z, rfl, hz, q⟩ := h
  obtain ⟨u, rfl, t, rfl⟩ := vals1 r
  have hn := line63
  exact len_str (by omega) ⟨.int z.length, H, I.tok _, ⟨_, rfl⟩, q⟩
theorem call_list_of : CallR X (.type "list") (fun xs H Q => ∃ p ys, xs = [.ref p] ∧ (SqL X.K H p ys ∨ SqT X.K H p ys) ∧ ∀ l, H l = none → Q (.ref l) (upd H l (.lst ys))) := by
  intro pins s σ H xs us Q I r h
  obtain ⟨p, ys, rfl, hq, q⟩ := h
  obtain ⟨u, rfl, rx⟩ := vals1 r
  cases rx
  have fin : ∀ (its : List Value), Vals ys its → ys.length ≤ sizeLine → ∀ (h' : Heap) (c' : Nat), (∀ b o', s.heap.get? b = some o' → h'.get? b = some o') →
      h'.get? s.heap.objs.size = some { cls := .type "list", dict := none, data := .seq its.toArray c', slots := #[] } → EP X pins σ Q (.ref s.heap.objs.size) { s with heap := h' } := fun its r' hz h' c' kp e =>
    ⟨.ref s.heap.objs.size, _, I.laid (t' := s.toks) kp (Nat.le_refl _) (show ObjOk X.prog X.w _ h' _ (.lst ys) from ⟨hz, its, c', r', e⟩), rfl, q _ (I.hok.fresh (Nat.le_refl _))⟩
  rcases hq with hq | hq
  · obtain ⟨its, r', pl, hz⟩ := I.list hq
    have hlen := r'.length
    obtain ⟨o, ho, hc, n, hd⟩ := pl.isList
    exact call_list_seq p (.inl rfl) ho hc hd (fun h' c' kp e => fin its r' hz h' c' kp e) (by simp only [List.size_toArray] <;> omega)
  · obtain ⟨its, r', pl, hz⟩ := I.tuple hq
    have hlen := r'.length
    obtain ⟨o, ho, hc, n, hd⟩ := pl
    exact call_list_seq p (.inr rfl) ho hc hd (fun h' c' kp e => fin its r' hz h' c' kp e) (by simp only [List.size_toArray] <;> omega)
def tyV (K : PySem.W.Frag) (T : String) (x : V) (H : Hp) : Prop := match x with
  | .str _ => T = "str"
  | .int _ => T = "int"
  | .ref p => (T = "list" ∧ ∃ xs, SqL K H p xs) ∨ (T = "tuple" ∧ ∃ o, K.lookup p = some o ∧ o.cls = .type "tuple" ∧ o.dict = none) ∨
      (T = "dict" ∧ ((∃ kvs, H p = some (.dK kvs)) ∨ ∃ kvs, H p = some (.dT kvs))) ∨ (T = "set" ∧ ∃ S n, H p = some (.set S n))
  | _ => False
theorem tyV_is {pins : List (Addr × Obj)} {σ : St} {H : Hp} {s : Shared} {T : String} {x : V} {v : Value} (I : Inv X pins σ H s) (r : RelV x v) (ty : tyV X.K T x H) :
    s.TypeIs v T ∧ ∀ a, v = .ref a → ∃ ob, s.heap.get? a = some ob ∧ ob.dict = none := by
  cases x with
  | str z =>
    obtain ⟨t, rfl⟩ := r
    cases (show T = "str" from ty)
    exact ⟨typeIs_str s z t, fun _ e => nomatch e⟩
  | int i =>
    obtain ⟨t, rfl⟩ := r
    cases (show T = "int" from ty)
    exact ⟨typeIs_int s i t, fun _ e => nomatch e⟩
  | ref p =>
    cases r
    rcases ty with ⟨rfl, xs, hq⟩ | ⟨rfl, o, hk, hc, hd⟩ | ⟨rfl, hk⟩ | ⟨rfl, S, n, hk⟩
    · obtain ⟨its, _, pl, _⟩ := I.list hq
      refine ⟨pl.isList.typeIs, fun a e => ?_⟩
      cases e
      obtain ⟨o, n, e, c, hd, _⟩ := pl
      exact ⟨o, e, hd⟩
    · refine ⟨⟨o, I.kIn p o hk, hc⟩, fun a e => ?_⟩
      cases e
      exact ⟨o, I.kIn _ o hk, hd⟩
    · have z : ∃ o, s.heap.get? p = some o ∧ o.ExactDict := by
        rcases hk with ⟨kvs, hk⟩ | ⟨kvs, hk⟩
        · obtain ⟨_, _, _, _, o, _, _, e, ex, _⟩ := I.hok p _ hk
          exact ⟨o, e, ex⟩
        · obtain ⟨_, _, _, _, o, _, _, e, ex, _⟩ := I.hok p _ hk
          exact ⟨o, e, ex⟩
      obtain ⟨o, e, ex⟩ := z
      refine ⟨⟨o, e, ex.1⟩, fun a e2 => ?_⟩
      cases e2
      exact ⟨o, e, ex.2.1⟩
    · obtain ⟨o, _, _, _, e, ex, _⟩ := I.hok p _ hk
      refine ⟨⟨o, e, ex.1⟩, fun a e2 => ?_⟩
      cases e2
      exact ⟨o, e, ex.2.1⟩
  | _ => exact False.elim ty
def tBM0 (K : PySem.W.Frag) (T : String) (r : V → List V → Hp → VK → Prop) (to : TE) : TE := fun σ H Q => to σ H fun x H1 => tyV K T x H1 ∧ r x [] H1 Q
def tBM (K : PySem.W.Frag) (T : String) (r : V → List V → Hp → VK → Prop) (to : TE) (t : TA) : TE := fun σ H Q => to σ H fun x H1 => tyV K T x H1 ∧ t σ H1 fun xs H2 => r x xs H2 Q
variable {o e : Expr} {es : List Expr} {to : TE} {t : TA} {name : Str} {apos cpos : Pos} {T id : String} {r : V → List V → Hp → VK → Prop}
theorem pe_bm (pa : PlainAttrs T) (slot : Slot T name id) (hty : typeOf (.builtin id) = pure (.type "method_descriptor")) (hm : MtR X id r) (ho : PE X o to) (ha : PA X (e :: es) t)
    (hbase : attributeBase o name X.env (eval o X.env) = eval o X.env := by rfl)
    (hfew : ((backTo cpos (starEach (e :: es) X.env)).all (fun x => !x.1) && (backToKw cpos (keywordEach [] X.env)).all (fun x => x.1.isSome)
      && decide ((e :: es).length + ([] : List Keyword).length + (if ([] : List Keyword).isEmpty then 0 else 1) < 30)) = true := by rfl)
    (hline : (apos.endLine == cpos.line) = true := by rfl) (hs : starEach (e :: es) X.env = (false, eval e X.env) :: starEach es X.env := by rfl) (hplain : (backTo cpos (starEach es X.env)).any (·.1) = false := by rfl) :
    PE X (.Call (.Attribute o name apos) (e :: es) [] cpos) (tBM X.K T r to t) := by
  intro pins s σ H Q I h
  refine wpAny_Call_method_late hbase hfew hline rfl (thn (ho pins s σ H _ I h) fun v s1 ⟨x, H1, I1, r1, ty, q1⟩ => ?_)
  obtain ⟨h1, h2⟩ := tyV_is I1 r1 ty
  refine ⟨T, id, pa, slot, hty, h1, h2, ?_⟩
  have hA := ha cpos pins s1 σ H1 _ I1 q1
  rw [hs] at hA ⊢
  refine Calls.callWith_builtin (by show (false || (backTo cpos (starEach es X.env)).any (·.1)) = false; rw [hplain] <;> rfl) (Calls.evalArgs_plain ?_)
  exact thn hA fun us s2 ⟨vs, H2, I2, r2, q2⟩ => hm pins s2 σ H2 x vs v us Q I2 r1 r2 q2
end
end L2
namespace L2
open PySem PySem.Spec PyProof.Rows
def MtM (X : Cx) (id : String) (r : V → List V → Hp → VK → Prop) : Prop :=
  ∀ (pins : List (Addr × Obj)) (s : Shared) (σ : St) (H : Hp) (x : V) (xs : List V) (v : Value) (us : List Value) (Q : VK), Inv X pins σ H s → RelV x v → Vals xs us → r x xs H Q →
    wpAny (model X.prog X.w) X.A (call (.builtin id) (v :: us)) (EP X pins σ Q) X.xe s
theorem Vals.one : ∀ {x : V} {us : List Value}, Vals [x] us → ∃ u, us = [u] ∧ RelV x u
  | _, _, .cons r .nil => ⟨_, rfl, r⟩
theorem Vals.rep {xs : List V} {us : List Value} (h : Vals xs us) : ∀ k : Nat, Vals (List.replicate k xs).flatten (List.replicate k us).flatten
  | 0 => .nil
  | k + 1 => by
    rw [List.replicate_succ, List.replicate_succ, List.flatten_cons, List.flatten_cons]
    exact Vals.append h (Vals.rep h k)
theorem foldl_rep (its : List Value) : ∀ (k : Nat) (acc : List Value),
    List.foldl (fun x1 x2 => x1 ++ x2) acc.toArray (List.replicate k its.toArray) = (acc ++ (List.replicate k its).flatten).toArray
  | 0, acc => by simp
  | k + 1, acc => by
    have e : acc.toArray ++ its.toArray = (acc ++ its).toArray := by simp
    have e2 : (acc ++ its) ++ (List.replicate k its).flatten = acc ++ (List.replicate (k + 1) its).flatten := by
      rw [List.replicate_succ, List.flatten_cons, List.append_assoc]
    rw [← e2, ← foldl_rep its k (acc ++ its), ← e, List.replicate_succ, List.foldl_cons]
section
variable {X : Cx} {pins : List (Addr × Obj)} {σ : St} {H : Hp} {s : Shared} {l b : Addr} {xs ys zs : List V}
theorem Inv.lset {its its' : List Value} {n : Nat} {f : Array Value → Array Value} {t' : Nat} (I : Inv X pins σ H s) (hH : H l = some (.lst xs))
    (e : s.heap.get? l = some { cls := .type "list", data := .seq its.toArray n }) (hf : f its.toArray = its'.toArray) (hv : Vals ys its') (hz : ys.length ≤ sizeLine) :
    Inv X pins σ (upd H l (.lst ys)) { s with heap := s.heap.update l (Obj.mapSeq f), toks := t' } := by
  have q := PySem.IsL.update e f
  rw [hf] at q
  refine I.write (x := l) (e := l) (by rw [hH]; exact trivial) (.inl rfl) (fun b' u hb hu => (Heap.get?_update_other s.heap (Obj.mapSeq f) (Ne.symm hb)).trans hu) ⟨_, q⟩ ?_
  exact ⟨hz, its', _, hv, q⟩
theorem Inv.lnew {its : List Value} {t' : Nat} (I : Inv X pins σ H s) (hv : Vals ys its) (hz : ys.length ≤ sizeLine) :
    Inv X pins σ (upd H s.heap.objs.size (.lst ys)) { s with heap := s.heap.push { cls := .type "list", data := .seq its.toArray }, toks := t' } :=
  I.laid (fun _ _ q => Heap.get?_push_of_some _ q) (Nat.le_refl _) ⟨hz, its, 0, hv, Heap.get?_push_size _ rfl⟩
theorem Inv.fresh (I : Inv X pins σ H s) : H s.heap.objs.size = none := I.hok.fresh (Nat.le_refl _)
theorem Inv.lstM (I : Inv X pins σ H s) (hH : H l = some (.lst xs)) : xs.length ≤ sizeLine ∧ ∃ (its : List Value) (n : Nat), Vals xs its ∧ xs.length = its.length ∧ s.heap.get? l = some { cls := .type "list", data := .seq its.toArray n } := by
  obtain ⟨z, its, n, r, e⟩ := I.hok l _ hH
  exact ⟨z, its, n, r, r.length, e⟩
theorem notLongL {n : Nat} (h : n ≤ sizeLine) : Builtin.List.listTooLong n = false := by
  unfold Builtin.List.listTooLong
  exact decide_eq_false (by omega)
end
section
variable {X : Cx}
def rAppend : V → List V → Hp → VK → Prop := fun x vs H Q => ∃ l xs y, x = .ref l ∧ vs = [y] ∧ H l = some (.lst xs) ∧ xs.length < sizeLine ∧ Q .non (upd H l (.lst (xs ++ [y])))
theorem mt_append : MtM X "list.append" rAppend := by
  intro pins s σ H x vs v us Q I rx rv h
  obtain ⟨l, xs, y, rfl, rfl, hH, hz, q⟩ := h
  cases rx
  obtain ⟨u, rfl, ru⟩ := rv.one
  obtain ⟨z, its, n, r, hl, e⟩ := I.lstM hH
  refine call_meets F.slot_list_append ⟨_, e, rfl⟩ F.entry_list_append (F.args_list_append_2 _ _) (PySem.list_append l its.toArray n u (by rw [List.size_toArray]; omega)) ⟨e, ?_⟩
  refine ⟨.non, _, I.lset (its' := its ++ [u]) hH e (by simp) (r.append (.cons ru .nil)) ?_, rfl, q⟩
  rw [List.length_append, List.length_singleton]
  omega
def rExtend : V → List V → Hp → VK → Prop := fun x vs H Q => ∃ l b xs zs, x = .ref l ∧ vs = [.ref b] ∧ H l = some (.lst xs) ∧ H b = some (.lst zs) ∧ xs.length + zs.length ≤ sizeLine ∧ Q .non (upd H l (.lst (xs ++ zs)))
def rPop : V → List V → Hp → VK → Prop := fun x vs H Q => ∃ l xs y, x = .ref l ∧ vs = [] ∧ H l = some (.lst xs) ∧ xs[xs.length - 1]? = some y ∧ Q y (upd H l (.lst xs.dropLast))
def rPopAt : V → List V → Hp → VK → Prop := fun x vs H Q => ∃ l xs i k y, x = .ref l ∧ vs = [.int i] ∧ H l = some (.lst xs) ∧ -(2 ^ 63) ≤ i ∧ i < 2 ^ 63 ∧ seqIndex? i xs.length = some k ∧ xs[k]? = some y ∧ Q y (upd H l (.lst (xs.eraseIdx k)))
def rReverse : V → List V → Hp → VK → Prop := fun x vs H Q => ∃ l xs, x = .ref l ∧ vs = [] ∧ H l = some (.lst xs) ∧ Q .non (upd H l (.lst xs.reverse))
def rClear : V → List V → Hp → VK → Prop := fun x vs H Q => ∃ l xs, x = .ref l ∧ vs = [] ∧ H l = some (.lst xs) ∧ Q .non (upd H l (.lst []))
def rCat : R2 := fun x y H Q => ∃ l b xs zs, x = .ref l ∧ y = .ref b ∧ H l = some (.lst xs) ∧ H b = some (.lst zs) ∧ xs.length + zs.length ≤ sizeLine ∧ ∀ p, H p = none → Q (.ref p) (upd H p (.lst (xs ++ zs)))
theorem op_cat : OpR X (binaryOp .Add) rCat := by
  intro pins s σ H x y v u Q I rx ry h
  obtain ⟨l, b, xs, zs, rfl, rfl, hH, hB, hz, q⟩ := h
  cases rx
  cases ry
  obtain ⟨z, its, n, r, hl, e⟩ := I.lstM hH
  obtain ⟨z2, its2, n2, r2, hl2, e2⟩ := I.lstM hB
  refine PySem.P.add_list e e2 ?_ (by rw [List.size_toArray, List.size_toArray]; omega)
  have ea : its.toArray ++ its2.toArray = (its ++ its2).toArray := by simp
  rw [ea]
  exact ⟨.ref _, _, I.lnew (t' := s.toks) (r.append r2) (by rw [List.length_append]; omega), rfl, q _ I.fresh⟩
def rRep : R2 := fun x y H Q => ∃ l k xs, x = .ref l ∧ y = .int k ∧ H l = some (.lst xs) ∧ -(2 ^ 63) ≤ k ∧ k < 2 ^ 63 ∧ xs.length * k.toNat ≤ sizeLine ∧
  ∀ p, H p = none → Q (.ref p) (upd H p (.lst (List.replicate k.toNat xs).flatten))
theorem len_rep {α : Type} (xs : List α) (k : Nat) : (List.replicate k xs).flatten.length = k * xs.length := by
  induction k with
  | zero => simp
  | succ k ih => rw [List.replicate_succ, List.flatten_cons, List.length_append, ih, Nat.succ_mul, Nat.add_comm]
theorem op_rep : OpR X (binaryOp .Mult) rRep := by
  intro pins s σ H x y v u Q I rx ry h
  obtain ⟨l, k, xs, rfl, rfl, hH, h1, h2, hz, q⟩ := h
  cases rx
  obtain ⟨t, rfl⟩ := ry
  obtain ⟨z, its, n, r, hl, e⟩ := I.lstM hH
  have hlen : its.toArray.size * k.toNat ≤ sizeLine := by rw [List.size_toArray, ← hl]; exact hz
  have hcap : ¬ its.toArray.size * k.toNat > (2 ^ 63 - 1) / 8 := by
    have : (sizeLine : Nat) ≤ (2 ^ 63 - 1) / 8 := by decide
    omega
  have hfit : ¬ (!Builtin.List.listFitsIndex k) = true := by
    rw [fitsIndex_both h1 h2]
    exact Bool.false_ne_true
  have hlong : ¬ Builtin.List.listTooLong (its.toArray.size * k.toNat) = true := by
    rw [notLongL hlen]
    exact Bool.false_ne_true
  have hnew : List.foldl (fun x1 x2 => x1 ++ x2) #[] (List.replicate (if its.toArray.isEmpty = true then 0 else k.toNat) its.toArray) = (List.replicate k.toNat its).flatten.toArray := by
    have f0 : ∀ m : Nat, List.foldl (fun x1 x2 => x1 ++ x2) #[] (List.replicate m its.toArray) = (List.replicate m its).flatten.toArray := fun m => by
      have := foldl_rep its m []
      rw [List.nil_append] at this
      exact this
    rw [f0]
    cases its with
    | nil => simp
    | cons a r' => rw [if_neg (by simp)]
  refine wpAny_binaryOp_repeat_ref (T := "list") (U := "int") (by decide) ⟨_, e, rfl⟩ (fun s' => typeIs_int s' k t) noFill_list_mul F.fills_int_mul F.slot_int_rmul repeat_list F.slot_int_index.lookup
    (call_meets F.slot_int_rmul (typeIs_int s k t) F.entry_int_rmul (F.args_int_rmul_2 _ _) (int___rmul___int_list k t l its.toArray n)
      ⟨e, rfl, ⟨_, e, rfl⟩, call_meets F.slot_list_mul ⟨_, e, rfl⟩ F.entry_list_mul (F.args_list_mul_2 _ _) (AutoListH.list___mul___list_int_3 l its.toArray n k t hfit hcap hlong) ⟨e, ?_⟩⟩)
  rw [hnew]
  exact ⟨.ref _, _, I.lnew (t' := s.toks) (r.rep k.toNat) (by rw [len_rep, Nat.mul_comm]; exact hz), rfl, q _ I.fresh⟩
end
section
variable {prog : Program} {w : World} {A : Around} {E : Value → Shared → Prop} {s : Shared}
set_option maxRecDepth 100000 in
end
section
variable {X : Cx}
end
end L2
namespace Att
open PySem PySem.W PySem.Calls PyProof.Rows
theorem ints_of_wellAll {P : Params} {h : Heap} : ∀ (ns : List Int) (vs : List Value), WellAll P h vs (ns.map WData.int) → IntsAre vs ns := by
  intro ns
  induction ns with
  | nil =>
    intro vs w
    rw [List.map_nil] at w
    cases w
    exact .nil
  | cons n ns ih =>
    intro vs w
    rw [List.map_cons] at w
    cases w with
    | cons a b =>
      cases a
      exact .cons _ _ (ih _ b)
theorem script_of {l : OpenLaw} {n : Nat} (hn : l.most = some n) {P : Params} {h : Heap} {args : List WData} {vals : List Value}
    (hpre : l.row.toRowW.claim.pre args = true) (hwl : WellAll P h vals args) :
    ∃ a vs ns, vals = [Value.ref a] ∧ args = [WData.list (ns.map WData.int)] ∧ h.get? a = some { cls := .type "list", data := .seq vs.toArray } ∧ IntsAre vs ns ∧ ns.length ≤ n := by
  have hsh : WShape.hasAll [] args [.list .int] = true := (pre_splitW hpre).1
  have hc : l.pre.holds [] { args := args } = true := (pre_splitW hpre).2
  obtain ⟨d, r, rfl, h1, h2⟩ := hasAllW_cons hsh
  obtain rfl := hasAllW_nil h2
  obtain ⟨xs, rfl, h3⟩ := hasW_list h1
  obtain ⟨ns, rfl⟩ := items_int h3
  have hlen : ns.length ≤ n := by
    unfold OpenLaw.pre at hc
    have h4 : (WTm.not (.lt (.lit (.int (n : Int))) (.len (.arg 0)))).holds [] { args := [.list (ns.map .int)] } = true := by
      have h4 := (holds_andW hc).1
      rw [hn] at h4
      exact h4
    have h5 := condW_of h4 (w_not (w_lt w_lit (w_len_list (w_arg rfl))))
    rw [List.length_map] at h5
    refine Nat.le_of_not_lt fun q => ?_
    have q' : (n : Int) < ((ns.length : Nat) : Int) := by omega
    first
      | (rw [decide_eq_true q'] at h5; exact absurd h5 (by decide))
      | (simp at h5; omega)
  cases hwl with
  | cons w1 w2 =>
    cases w2
    cases w1 with
    | list ho hall => exact ⟨_, _, ns, rfl, rfl, ho, ints_of_wellAll ns _ hall, hlen⟩
theorem post_true (l : OpenLaw) (args : List WData) : l.row.toRowW.claim.post args (.bool true) args = true :=
  postW_of (r := l.row.toRowW) (X := (true == true))
    (show WShape.has [] (.bool true) .bool = true by first | rfl | decide | simp [WShape.has, WShape.arms, WShape.armsAll])
    (show (WTm.eq .res (.lit (.bool true))).value [] { args := args, res := some (.bool true), after := args } = some (.bool (true == true)) from w_eq_bool (w_res rfl) w_lit) rfl
section
variable {prog : Program} {w : World} {A : Around} {E : Value → Shared → Prop} {s : Shared} {K : Frag}
def noObjs (h : Heap) : Heap := { h with objs := #[] }
def ledger (h : Heap) (L d : Addr) : List (Addr × Obj) := (List.range h.objs.size).filterMap fun a => if a = L ∨ a = d then none else (h.get? a).map fun o => (a, o)
end
end Att
namespace L2
open PySem PySem.Spec PyProof.Rows
theorem vals_ints : ∀ {vs : List Value} {ns : List Int}, IntsAre vs ns → Vals (ns.map V.int) vs
  | _, _, .nil => .nil
  | _, _, .cons n t h => .cons ⟨t, rfl⟩ (vals_ints h)
def Only (H : Hp) : Prop := ∀ b, H b = none ∨ ∃ o xs, H b = some (.frz o (.lst xs))
theorem law_call {P : Program} {w : World} {K : PySem.W.Frag} {mg mb : Str → Option Value} {CX : CXT} {k : Nat} {fa a : Addr} {fd : FuncData} {x : Str} {sp : Sp} {s₁ : Shared} {vs : List Value} {ns : List Int}
    (KX : K.In s₁.heap) (hns : s₁.heap.Ns mainGlobals mg) (hb : s₁.heap.Ns builtinsNs mb) (hbb : ∀ x : Str, x ≠ "__name__" → mb x = bootBuiltins x) (hlim : s₁.heap.NoLimit) (hg : s₁.gens = #[])
    (ha : s₁.heap.get? a = some { cls := .type "list", data := .seq vs.toArray }) (hi : IntsAre vs ns) (hl : ns.length ≤ sizeLine) (hr : Room k callerA)
    (F : ∀ base : Heap, K.In base → base.Ns mainGlobals mg → FnOk P w K mg base CX k fa fd [x] sp) (hbind : ∀ (s : Shared) (u : Value), BindsTo s fd ⟨[u], []⟩ [(x, u)])
    (hsp : ∀ H : Hp, Only H → SqL K H a (ns.map V.int) → sp [.ref a] H (fun v _ => v = .bl true) fun _ _ _ => False)
    (hCX : ∀ H e s', CX [] H s₁ (fun _ _ _ => False) e s' → False) :
    codeAny (model P w) callerA (.call (.ref fa) ⟨[.ref a], []⟩) (fun r s' => r = .ok (.ret (.bool true)) ∧ OldK s₁.heap s'.heap ∧ s'.os = s₁.os ∧ AllBare s'.gens) s₁ := by
  have rv := vals_ints hi
  have lenV := hi.length
  have core : ∀ H : Hp, Only H → SqL K H a (ns.map V.int) → HOk P w H s₁.heap → (∀ b, H b ≠ none → b = a) → (H a ≠ none → K.lookup a = none) →
      codeAny (model P w) callerA (.call (.ref fa) ⟨[.ref a], []⟩) (fun r s' => r = .ok (.ret (.bool true)) ∧ OldK s₁.heap s'.heap ∧ s'.os = s₁.os ∧ AllBare s'.gens) s₁ := by
    intro H hO hS hok hA hK
    have base_of : ∀ {b : Addr} {o : Obj}, s₁.heap.get? b = some o → H b = none → (hidT s₁.heap H).get? b = some o := fun e n => hidT_get e n
    have noA : ∀ {b : Addr} {o : Obj} {es : Array DictEntry} {ep : Nat}, s₁.heap.get? b = some o → o.data = .dict es ep → H b = none := fun {b o es ep} e d => by
      cases q : H b with
      | none => rfl
      | some u =>
        have e' : b = a := hA b (by rw [q]; simp)
        subst e'
        rw [ha] at e; cases e
        have d' : Data.seq vs.toArray _ = Data.dict es ep := d
        cases d'
    have nsK : ∀ {b : Addr} {m : Str → Option Value}, s₁.heap.Ns b m → (hidT s₁.heap H).Ns b m := fun {b m} ⟨o, es, ep, e, d, r⟩ => ⟨o, es, ep, base_of e (noA e d), d, r⟩
    have hKb : K.In (hidT s₁.heap H) := fun b o e => base_of (KX b o e) (by
      cases q : H b with
      | none => rfl
      | some u =>
        have e' : b = a := hA b (by rw [q]; simp)
        subst e'
        rw [hK (by rw [q]; simp)] at e; cases e)
    have hM : Mod K mg (hidT s₁.heap H) := ⟨hKb, nsK hns, ⟨mb, nsK hb, hbb⟩, let ⟨mc, h1, h2⟩ := hlim; ⟨mc, nsK h1, h2⟩⟩
    have e0 : Env0 P w K mg (hidT s₁.heap H) callerA [] s₁ H := ⟨rfl, hM, fun b o e => of_hidT e, Nat.le_of_eq (hidT_size _ _), trivial, fun b hb => absurd (show b ∈ ([] : List Addr) from hb) (by simp), hok, .of_eq hg⟩
    refine codeAny_mono ((F _ hKb (nsK hns)).run callerA [] s₁ H ⟨[.ref a], []⟩ [.ref a] [.ref a] _ _ hr e0 (hbind s₁ (.ref a)) (.cons rfl .nil) (hsp H hO hS)) fun r s' h => ?_
    cases r with
    | error e => exact (hCX H e s' h).elim
    | ok fl =>
      cases fl with
      | next => exact False.elim h
      | brk => exact False.elim h
      | cont => exact False.elim h
      | ret u =>
        obtain ⟨v, H', os, bare, un, hok', r', q⟩ := h
        have q' : v = .bl true := q
        subst q'
        obtain rfl : u = Value.bool true := r'
        refine ⟨rfl, OldK.of_keep fun b o e => ?_, os, bare⟩
        cases q : H b with
        | none => exact un.keep b o e q (by intro z; exact absurd (show b ∈ ([] : List Addr) from z) (by simp)) (by simp)
        | some u =>
          rcases hO b with z | ⟨ob, xs, z⟩
          · rw [q] at z; cases z
          · have z2 := un.frzs b ob _ z
            obtain ⟨e1, _⟩ := hok b _ z
            obtain ⟨e2, _⟩ := hok' b _ z2
            rw [e] at e1; cases e1
            exact e2
  cases hk : K.lookup a with
  | some o =>
    have e := KX a o hk
    rw [ha] at e
    cases e
    refine core (fun _ => none) (fun _ => .inl rfl) (.inr ⟨_, vs.toArray, _, hk, rfl, rfl, rfl, by rw [List.size_toArray, lenV]; exact hl, by simpa using rv⟩) (fun b u z => by have z' : (none : Option HO) = some u := z; cases z') (fun b z => absurd rfl z) fun z => absurd rfl z
  | none =>
    refine core (fun b => if b = a then some (.frz { cls := .type "list", data := .seq vs.toArray } (.lst (ns.map V.int))) else none) (fun b => ?_) (.inl (.inr ⟨{ cls := .type "list", data := .seq vs.toArray }, if_pos rfl⟩)) (fun b u z => ?_) (fun b z => ?_) fun _ => hk
    · by_cases hb : b = a
      · exact .inr ⟨_, _, if_pos hb⟩
      · exact .inl (if_neg hb)
    · by_cases hb : b = a
      · have z' := (if_pos hb).symm.trans z
        cases z'
        subst hb
        exact ⟨ha, by rw [List.length_map]; exact hl, vs, _, rv, ha⟩
      · have z' := (if_neg hb).symm.trans z
        cases z'
    · by_cases hb : b = a
      · exact hb
      · exact absurd (if_neg hb) z
end L2
namespace L2
open PySem PySem.Spec PyProof.Rows
abbrev KOf {K : PySem.W.Frag} {h : Heap} (_ : K.In h) : PySem.W.Frag := K
end L2
namespace L2
open PySem PySem.Spec PyProof.Rows
def inClass (s : Stmt) (j : Nat) : Stmt := match s with
  | .ClassDef _ _ _ body _ _ _ _ _ _ _ => body.getD j (.Pass ⟨0, 0, 0, 0⟩)
  | _ => .Pass ⟨0, 0, 0, 0⟩
def defArgs (s : Stmt) : Arguments := match s with
  | .FunctionDef _ a _ _ _ _ _ _ _ _ => a
  | _ => { posonlyargs := [], args := [], vararg := none, kwonlyargs := [], kw_defaults := [], kwarg := none, defaults := [] }
def defBody (s : Stmt) : List Stmt := match s with
  | .FunctionDef _ _ b _ _ _ _ _ _ _ => b
  | _ => []
def defScope (s : Stmt) : Scope := match s with
  | .FunctionDef _ _ _ _ _ _ sc _ _ _ => sc
  | _ => { kind := .function, names := [], isGenerator := false, isCoroutine := false }
abbrev CX0 : CXT := fun _ _ _ _ _ _ => False
abbrev E0 : XK := fun _ _ _ => False
theorem pass0 {X : Cx} : Passes CX0 X E0 := fun _ _ _ _ _ _ _ h => h.elim
structure Fun (K : PySem.W.Frag) (x qual : Str) (st : Stmt) (f : Addr) (fd : FuncData) : Prop where
  ex : ∃ (oc : Value) (od : Option Addr) (kV doc pm : Value) (an : Option Addr) (cdv ct : Value) (osl : Array (Option Value)),
    fd = PySem.W.fnOf x qual (defArgs st) (defBody st) (defScope st) .none kV doc pm an cdv ct ∧ K.lookup f = some ⟨oc, od, .func fd, osl⟩ ∧ PySem.W.codeIn K cdv qual = true
  kp : PySem.W.keepIn K (.ref f) = true
section
variable {P : Program} {w : World} {K : PySem.W.Frag} {mg : Str → Option Value} {base : Heap}
theorem Fun.ok {x qual : Str} {st : Stmt} {f : Addr} {fd : FuncData} {N ps : List Str} {k : Nat} {sp : Sp} (F : Fun K x qual st f fd) (S : FnScope N ps (defScope st)) (len : ∀ vs H Q E, sp vs H Q E → vs.length = ps.length)
    (hbody : ∀ (cdv : Value) (A : Around) (outer : List Env) (s : Shared) (H : Hp) (vs : List V) (Q : VK) (E : XK), Room k (A.deeper (envOfC qual (defScope st) s.heap.objs.size f cdv)) → sp vs H Q E →
      ∃ t, PSs (cxOf CX0 P w K mg base N qual (defScope st) f cdv A outer s H E).nox (defBody st) t ∧ t { nx := fun _ H' => Q .non H', rt := Q } (start N vs) H) : FnOk P w K mg base CX0 (k + 1) f fd ps sp := by
  obtain ⟨oc, od, kV, doc, pm, an, cdv, ct, osl, rfl, lk, hcd⟩ := F.ex
  refine fn_of lk hcd S len fun A outer s H vs Q E hr hsp => ?_
  obtain ⟨t, h, q⟩ := hbody cdv A outer s H vs Q E hr hsp
  exact ⟨t, h.nox, q⟩
theorem Fun.binds {x qual : Str} {st : Stmt} {f : Addr} {fd : FuncData} {ps : List Str} (F : Fun K x qual st f fd)
    (h : ∀ (kV doc pm : Value) (an : Option Addr) (cdv ct : Value) (us : List Value), us.length = ps.length → bindArgs (PySem.W.fnOf x qual (defArgs st) (defBody st) (defScope st) .none kV doc pm an cdv ct) ⟨us, []⟩ = pure (ps.zip us)) : Binds K fd ps [] := by
  obtain ⟨oc, od, kV, doc, pm, an, cdv, ct, osl, rfl, lk, hcd⟩ := F.ex
  exact .all (h kV doc pm an cdv ct)
theorem fun_mk {x qual : Str} {st : Stmt} {f : Addr} {oc : Value} {od an : Option Addr} {osl : Array (Option Value)} {kV doc pm cdv ct : Value} (l : K.lookup f = some ⟨oc, od, .func (PySem.W.fnOf x qual (defArgs st) (defBody st) (defScope st) .none kV doc pm an cdv ct), osl⟩)
    (c : PySem.W.codeIn K cdv qual = true) (k : PySem.W.keepIn K (.ref f) = true) : Fun K x qual st f (PySem.W.fnOf x qual (defArgs st) (defBody st) (defScope st) .none kV doc pm an cdv ct) := ⟨⟨oc, od, kV, doc, pm, an, cdv, ct, osl, rfl, l, c⟩, k⟩
end
theorem hu_of {A : Around} {k : Nat} (hr : Room k A) : A.units + 1 < cLine := Nat.lt_of_le_of_lt (Nat.add_le_add_left (by decide : 1 ≤ 64) _) hr.units
theorem small1000 {n : Nat} (h : n ≤ 1000) : n < sizeLine := Nat.lt_of_le_of_lt h (by decide)
section
variable {X : Cx}
theorem pv (i : Nat) {x : Str} {pos : Pos} (hN : X.N[i]? = some x := by rfl) (hv : Vis X.env.scope x := by first | exact Or.inl rfl | exact Or.inr (Or.inl rfl) | exact Or.inr (Or.inr rfl)) (hd : (x == ("__debug__" : Str)) = false := by decide)
    (hcd : (x == ("__classdict__" : Str)) = false := by decide) : PE X (.Name x pos) (tVar i) := pe_var hN hv hd hcd
end
theorem iteF {A B : Prop} (h : B) : if false = true then A else B := by
  rw [if_neg Bool.false_ne_true]
  exact h
theorem iteT {A B : Prop} (h : A) : if true = true then A else B := by
  rw [if_pos rfl]
  exact h
theorem ite2 {c A B : Prop} [Decidable c] (h1 : c → A) (h2 : ¬ c → B) : if c then A else B := by
  by_cases h : c
  · rw [if_pos h]
    exact h1 h
  · rw [if_neg h]
    exact h2 h
theorem iteNS {c A B : Prop} [Decidable c] (hc : c) (h : B) : if (!decide c) = true then A else B := by
  rw [decide_eq_true hc]
  exact iteF h
def Same (H H' : Hp) : Prop := ∀ b o, H b = some o → H' b = some o
theorem Same.refl (H : Hp) : Same H H := fun _ _ h => h
theorem Same.trans {H H1 H2 : Hp} (a : Same H H1) (b : Same H1 H2) : Same H H2 := fun c o h => b c o (a c o h)
theorem Same.free {H H' : Hp} (e : Same H H') {l : Addr} (h : H' l = Option.none) : H l = Option.none := by
  cases q : H l with
  | none => rfl
  | some o =>
    rw [e l o q] at h
    cases h
theorem Same.seq {K : PySem.W.Frag} {H H' : Hp} {a : Addr} {xs : List V} (e : Same H H') (h : SqL K H a xs) : SqL K H' a xs := by
  rcases h with (h | ⟨o, h⟩) | h
  · exact .inl (.inl (e _ _ h))
  · exact .inl (.inr ⟨o, e _ _ h⟩)
  · exact .inr h
end L2
namespace LW
open PySem PySem.Builtin.Str PySem.StrLaws
theorem slice_nn (x : Str) (a b : Nat) : (Txt.slice x (some (a : Int)) (some (b : Int))).cps.toList = (x.cps.toList.drop a).take (b - a) := by
  have key : strSliceIndices (some (a : Int)) (some (b : Int)) 1 x.length = strSliceIndices (some ((min a x.length : Nat) : Int)) (some ((max (min a x.length) (min b x.length) : Nat) : Int)) 1 x.length := by
    have h1 : ¬ ((a : Int) < 0) := by omega
    have h2 : ¬ ((b : Int) < 0) := by omega
    have h3 : ¬ (((min a x.length : Nat) : Int) < 0) := by omega
    have h4 : ¬ (((max (min a x.length) (min b x.length) : Nat) : Int) < 0) := by omega
    have e1 : max (0 : Int) (min (a : Int) (x.length : Int)) = ((min a x.length : Nat) : Int) := by omega
    have e2 : max (0 : Int) (min (b : Int) (x.length : Int)) = ((min b x.length : Nat) : Int) := by omega
    have e3 : max (0 : Int) (min ((min a x.length : Nat) : Int) (x.length : Int)) = ((min a x.length : Nat) : Int) := by omega
    have e4 : max (0 : Int) (min ((max (min a x.length) (min b x.length) : Nat) : Int) (x.length : Int)) = ((max (min a x.length) (min b x.length) : Nat) : Int) := by omega
    simp only [strSliceIndices, h1, h2, h3, h4, if_false, e1, e2, e3, e4, show ((1 : Int) > 0) = True from by simp, if_true]
    by_cases hab : min a x.length ≤ min b x.length
    · rw [Nat.max_eq_right hab]
    · rw [Nat.max_eq_left (by omega)]
      have q1 : ¬ (((min a x.length : Nat) : Int) < ((min b x.length : Nat) : Int)) := by omega
      have q2 : ¬ (((min a x.length : Nat) : Int) < ((min a x.length : Nat) : Int)) := by omega
      simp only [sliceRange, show ((1 : Int) > 0) = True from by simp, if_true, q1, q2, if_false]
  have hp := sliceText_nat x (a := min a x.length) (b := max (min a x.length) (min b x.length)) (Nat.le_max_left _ _) (by omega)
  have e : Txt.slice x (some (a : Int)) (some (b : Int)) = sliceText x (some ((min a x.length : Nat) : Int)) (some ((max (min a x.length) (min b x.length) : Nat) : Int)) := by
    unfold Txt.slice sliceText
    rw [key]
  rw [e, hp]
  show ((x.cps.toList.drop (min a x.length)).take (max (min a x.length) (min b x.length) - min a x.length)).toArray.toList = _
  have hl : x.cps.toList.length = x.length := by simp [Str.length]
  rw [List.toList_toArray]
  by_cases ha : a ≤ x.length
  · rw [Nat.min_eq_left ha]
    by_cases hb : b ≤ x.length
    · rw [Nat.min_eq_left hb]
      congr 1
      omega
    · rw [List.take_of_length_le (by rw [List.length_drop]; omega), List.take_of_length_le (by rw [List.length_drop]; omega)]
  · rw [List.drop_eq_nil_of_le (by omega), List.drop_eq_nil_of_le (by omega)]
    simp
theorem slice_to (x : Str) (b : Nat) : (Txt.slice x none (some (b : Int))).cps.toList = x.cps.toList.take b := by
  have e : Txt.slice x none (some (b : Int)) = Txt.slice x (some ((0 : Nat) : Int)) (some (b : Int)) := by unfold Txt.slice; rw [sliceIdx_none_lo] <;> rfl
  rw [e, slice_nn]
  simp
theorem slice_from (x : Str) (a : Nat) : (Txt.slice x (some (a : Int)) none).cps.toList = x.cps.toList.drop a := by
  have e : Txt.slice x (some (a : Int)) none = Txt.slice x (some (a : Int)) (some ((x.length : Nat) : Int)) := by unfold Txt.slice; rw [sliceIdx_none_hi]
  rw [e, slice_nn]
  rw [List.take_of_length_le]
  rw [List.length_drop]
  simp [Str.length]
end LW
namespace LW
open PySem PySem.Spec PyProof.Rows L2
section
variable {X : Cx} {tg : Expr}
theorem op_mulB : OpR X (binaryOp .Mult) (rI (fun i j => IntMulOk i j) fun i j => .int (i * j)) := opI fun _ _ _ _ _ _ _ hc q => mul_int q hc
def Its (lo c : Int) (n : Nat) : It := ⟨fun i _ => i < n, fun i H x H' => H' = H ∧ x = .int (lo + i * c), fun i _ => n ≤ i⟩
def iRngD (ta : TA) : TI := fun σ H R => ta σ H fun vs H1 => ∃ i j : Int, vs = [.int i, .int j, .int (-1)] ∧ (-(2 ^ 62) ≤ i ∧ i < 2 ^ 62 ∧ -(2 ^ 62) ≤ j ∧ j < 2 ^ 62) ∧ R (Its i (-1) (i - j).toNat) H1
end
section
variable {prog : Program} {w : World} {A : Around} {E : Value → Shared → Prop} {s : Shared}
end
section
variable {X : Cx} {tg : Expr}
def iRev (ta : TA) : TI := fun σ H R => ta σ H fun vs H1 => ∃ (a : Addr) (lo hi : Int), vs = [.ref a] ∧ H1 a = some (.rng lo hi) ∧ (-(2 ^ 61) ≤ lo ∧ lo < 2 ^ 61 ∧ -(2 ^ 61) ≤ hi ∧ hi < 2 ^ 61) ∧ R (Its (lo + ((hi - lo).toNat : Nat) - 1) (-1) (hi - lo).toNat) H1
def rSlS : V → Option Int → Option Int → Hp → VK → Prop := fun x lo hi H Q => ∃ z, x = .str z ∧ z.length ≤ sizeLine ∧ Q (.str (Txt.slice z lo hi)) H
theorem sl_str : SlR X rSlS := by
  intro pins s σ H x v vl vu lo hi sl Q I rx hs pl pu h
  obtain ⟨z, rfl, hz, q⟩ := h
  obtain ⟨t, rfl⟩ := rx
  refine ⟨"str", _, F.slot_str_getitem.lookup, typeIs_str _ _ _, ?_⟩
  have fin : ∀ (l u : Option (Int × Tok)), l.map (·.1) = lo → u.map (·.1) = hi → s.heap.IsSlice sl l u none → wpAny (model X.prog X.w) X.A (getItem (.str z t) (.ref sl)) (EP X pins σ Q) X.xe s := fun l u e1 e2 hs' => by
    refine wpAny_getItem_str_slice hs' rfl (post_val_or_str ⟨?_, fun t' k => ?_⟩)
    · subst e1 e2; exact Nat.le_trans (Txt.slice_le z _ _) hz
    · subst e1 e2; exact ⟨.str (Txt.slice z _ _), H, I.tok _, ⟨_, rfl⟩, q⟩
  cases pl with
  | none =>
    cases pu with
    | none => exact fin none none rfl rfl hs
    | int j u => exact fin none (some (j, u)) rfl rfl hs
  | int i ui =>
    cases pu with
    | none => exact fin (some (i, ui)) none rfl rfl hs
    | int j u => exact fin (some (i, ui)) (some (j, u)) rfl rfl hs
theorem call_isinst : CallR X (.builtin "isinstance") (fun xs H Q => ∃ x T t b, xs = [x, .ty T] ∧ TyOf X.K H x t ∧ PySem.W.kitOne X.K t (.type T) = some b ∧ Q (.bl b) H) := by
  intro pins s σ H xs us Q I r h
  obtain ⟨x, T, t, b, rfl, ty, e, q⟩ := h
  obtain ⟨u, w', rfl, rx, rt⟩ := vals2 r
  cases rt
  exact isinst_ok I rx ty e fun tk => ⟨.bl b, H, I.tok _, rfl, q⟩
theorem kit_same {K : PySem.W.Frag} {T : String} : PySem.W.kitOne K (.type T) (.type T) = some true := by
  unfold PySem.W.kitOne
  rw [if_pos (by simp)]
end
section
variable {X : Cx} {st : Stmt} {rest : List Stmt} {t u : TS}
def tCut (t u : TS) : TS := fun D σ H => ∃ Pm : L2.St → Hp → Prop, t { D with nx := Pm } σ H ∧ ∀ σ' H', Pm σ' H' → u D σ' H'
theorem pss_cut (h1 : PS X st t) (h2 : PSs X rest u) : PSs X (st :: rest) (tCut t u) := by
  intro pins s σ H D I h
  obtain ⟨Pm, h, k⟩ := h
  refine wpAny_execs_cons (thn (h1 pins s σ H { D with nx := Pm } I h) fun f s1 q => ?_)
  cases f with
  | next =>
    obtain ⟨σ', H', I', q⟩ := q
    exact h2 pins s1 σ' H' D I' (k σ' H' q)
  | ret v => exact q
  | brk => exact q
  | cont => exact q
end
section
open PySem.W PySem.Builtin.Int PySem.Calls
theorem bits_le_weight : ∀ (ns : List Int) (n : Int), n ∈ ns → intBits n ≤ WData.weightAll (ns.map WData.int)
  | [], _, h => by cases h
  | m :: r, n, h => by
    have e : WData.weightAll ((m :: r).map WData.int) = intBits m + 1 + WData.weightAll (r.map WData.int) := by
      simp only [List.map_cons, WData.weightAll, WData.weight, intBits]
    rw [e]
    rcases List.mem_cons.mp h with rfl | h
    · omega
    · have := bits_le_weight r n h
      omega
theorem bits_script {ns : List Int} (h : WData.layableAll [WData.list (ns.map WData.int)] = true) : ∀ n ∈ ns, intBits n ≤ 2 ^ 20 := fun n hn => by
  have h1 := (layW_cons h).1
  have h3 := (layableW_iff.mp h1).2.2
  have h4 : WData.weightAll (ns.map WData.int) ≤ 2 ^ 20 := by simpa only [WData.weight] using h3
  exact Nat.le_trans (bits_le_weight ns n hn) h4
theorem attach_callB {l : OpenLaw} {n : Nat} {q : Program} {loose : List Str} {XP : (Str → Option Value) → Heap → Prop} {YP : World → Heap → Prop} {d : DefRec}
    (hn : l.most = some n) (hdf : d.params.defaults = [])
    (call : ∀ (w : World) (s₀ s₁ : Shared) (mg mb : Str → Option Value) (fa : Addr) (o : Obj) (pm cd doc : Value) (a : Addr) (vs : List Value) (ns : List Int),
      Ground q loose [] XP w s₀ mg mb s₁.heap → YP w s₁.heap →
      s₁.heap.get? fa = some o → o.data = .func (docDef d.name d.params d.body d.scope pm cd doc) → s₁.heap.CodeRec cd d.name → mg d.name = some (.ref fa) →
      s₁.heap.get? a = some { cls := .type "list", data := .seq vs.toArray } → IntsAre vs ns → ns.length ≤ n → (∀ i ∈ ns, intBits i ≤ 2 ^ 20) → s₁.gens = #[] →
      codeAny (model l.prog w) callerA (.call (.ref fa) ⟨[.ref a], []⟩) (fun r s' => r = .ok (.ret (.bool true)) ∧ OldK s₁.heap s'.heap ∧ s'.os = s₁.os ∧ AllBare s'.gens) s₁) :
    WalkO q loose XP YP l.row.toRowW d [] (fun f vs => PySem.call f vs) := by
  intro w s₀ s₁ mg mb G Y fa o pm cd doc dV kV ho hd hcd hD hmg hg args vals as hpre hlay hrd hwl hlo
  obtain rfl : dV = .none := Dflts.none hD hdf
  obtain rfl : kV = .none := Dflts.noKw hD
  obtain ⟨a, vs, ns, rfl, rfl, hobj, hints, hlen⟩ := Att.script_of hn hpre hwl
  refine enter_call (codeAny_mono (call w s₀ s₁ mg mb fa o pm cd doc a vs ns G Y ho (fd_plain hd) hcd hmg hobj hints hlen (bits_script hlay) hg) fun r s' hq => ?_)
  obtain ⟨rfl, h2, h3, h4⟩ := hq
  exact ⟨.inl ⟨.bool true, .bool true, [], rfl, fun _ => rfl, .bool true, Att.post_true l _, fun _ => ⟨List.Pairwise.nil, fun _ hm => (nomatch hm)⟩⟩, h2, h3, h4⟩
theorem walk_ofB {l : PySem.W.OpenLaw} {n k : Nat} {q : Program} {loose : List Str} {XP : (Str → Option Value) → Heap → Prop} {YP : World → Heap → Prop} {d : DefRec} {K : Params → PySem.W.Frag} {CX : World → CXT} {sp : World → Sp} {x : Str}
    (hn : l.most = some n) (hn2 : n ≤ sizeLine) (hdf : d.params.defaults = []) (hr : Room k callerA)
    (hY : ∀ (w : World) (h : Heap), YP w h → (K w.params).In h)
    (F : ∀ (w : World) (mg : Str → Option Value) (fa : Addr) (h : Heap), (K w.params).In h → h.Ns mainGlobals mg → mg d.name = some (.ref fa) →
      ∃ fd : FuncData, (∀ (s : Shared) (u : Value), BindsTo s fd ⟨[u], []⟩ [(x, u)]) ∧
        ∀ base : Heap, (K w.params).In base → base.Ns mainGlobals mg → FnOk l.prog w (K w.params) mg base (CX w) k fa fd [x] (sp w))
    (hsp : ∀ (w : World) (H : Hp) (a : Addr) (ns : List Int), ns.length ≤ n → (∀ i ∈ ns, intBits i ≤ 2 ^ 20) → Only H → SqL (K w.params) H a (ns.map V.int) → sp w [.ref a] H (fun v _ => v = .bl true) fun _ _ _ => False)
    (hCX : ∀ (w : World) (H : Hp) (s : Shared) (e : Value) (s' : Shared), CX w [] H s (fun _ _ _ => False) e s' → False) :
    PySem.W.WalkO q loose XP YP l.row.toRowW d [] (fun f vs => PySem.call f vs) := by
  refine attach_callB hn hdf fun w s₀ s₁ mg mb fa o pm cd doc a vs ns G Y ho hd hcd hmg hobj hints hlen hbits hg => ?_
  have KX := hY w _ Y
  obtain ⟨fd, hb, hF⟩ := F w mg fa _ KX G.T.g hmg
  exact law_call KX G.T.g G.T.b G.T.builtins G.T.nolimit hg hobj hints (Nat.le_trans hlen hn2) hr hF hb (fun H hO hS => hsp w H a ns hlen hbits hO hS) fun H e s' => hCX w H s₁ e s'
end
end LW
namespace LW
open PySem PySem.Spec PyProof.Rows L2
theorem closure_of {env : Env} : ∀ (names : List (Str × NameKind)) (acc : List (Str × Addr)), (∀ y ∈ names, y.2 = .free → ∃ c, env.cells.lookup y.1 = some c) →
    (∀ x c, acc.lookup x = some c → env.cells.lookup x = some c) →
    ∃ cl, (forIn names acc fun (y : Str × NameKind) (r : List (Str × Addr)) => (if (y.2 == NameKind.free) = true then (do let a ← cellOf env y.1; pure (ForInStep.yield ((y.1, a) :: r))) else pure (ForInStep.yield r) : Sem (ForInStep (List (Str × Addr))))) = (pure cl : Sem _) ∧
      (∀ x c, cl.lookup x = some c → env.cells.lookup x = some c) ∧ (∀ x, (∃ c, acc.lookup x = some c) ∨ (x, NameKind.free) ∈ names → ∃ c, cl.lookup x = some c)
  | [], acc, _, ha => ⟨acc, rfl, ha, fun x h => h.elim id fun z => by cases z⟩
  | (n, k) :: r, acc, hf, ha => by
    by_cases hk : k = .free
    · subst hk
      obtain ⟨c, hc⟩ := hf (n, .free) List.mem_cons_self rfl
      have hl : ∀ x d, ((n, c) :: acc).lookup x = some d → env.cells.lookup x = some d := fun x d e => by
        rw [List.lookup_cons] at e
        by_cases hx : (x == n) = true
        · rw [hx] at e
          have hx' : x = n := eq_of_beq hx
          have e' : c = d := Option.some.inj e
          rw [hx', ← e']; exact hc
        · have hx' : (x == n) = false := by simpa using hx
          rw [hx'] at e
          exact ha x d e
      obtain ⟨cl, e1, e2, e3⟩ := closure_of r ((n, c) :: acc) (fun y hy => hf y (List.mem_cons_of_mem _ hy)) hl
      refine ⟨cl, ?_, e2, fun x h => e3 x ?_⟩
      · rw [List.forIn_cons]
        have ec : cellOf env n = pure c := by unfold cellOf; rw [hc]
        simp only [beq_self_eq_true, if_true, ec, pure_bind]
        exact e1
      · rcases h with ⟨d, h⟩ | h
        · refine .inl ?_
          rw [List.lookup_cons]
          by_cases hx : (x == n) = true
          · rw [hx]; exact ⟨c, rfl⟩
          · have hx' : (x == n) = false := by simpa using hx
            rw [hx']; exact ⟨d, h⟩
        · rcases List.mem_cons.mp h with h | h
          · cases h
            exact .inl ⟨c, by rw [List.lookup_cons, beq_self_eq_true]⟩
          · exact .inr h
    · have hb : (k == NameKind.free) = false := by simpa using hk
      obtain ⟨cl, e1, e2, e3⟩ := closure_of r acc (fun y hy => hf y (List.mem_cons_of_mem _ hy)) ha
      refine ⟨cl, ?_, e2, fun x h => e3 x ?_⟩
      · rw [List.forIn_cons]
        simp only [hb, Bool.false_eq_true, if_false, pure_bind]
        exact e1
      · rcases h with h | h
        · exact .inl h
        · rcases List.mem_cons.mp h with h | h
          · cases h; exact absurd rfl hk
          · exact .inr h
theorem closureFor_of {env : Env} {scope : Scope} (hf : ∀ y ∈ scope.names, y.2 = .free → ∃ c, env.cells.lookup y.1 = some c) :
    ∃ cl, closureFor scope env = pure cl ∧ (∀ x c, cl.lookup x = some c → env.cells.lookup x = some c) ∧ ∀ x, (x, NameKind.free) ∈ scope.names → ∃ c, cl.lookup x = some c := by
  obtain ⟨cl, e1, e2, e3⟩ := closure_of (env := env) scope.names [] hf (fun x c e => by cases e)
  refine ⟨cl, ?_, e2, fun x h => e3 x (.inr h)⟩
  unfold closureFor
  have e : (forIn scope.names [] fun (y : Str × NameKind) (r : List (Str × Addr)) => (match y with | (name, kind) => if (kind == NameKind.free) = true then (do let a ← cellOf env name; pure (ForInStep.yield ((name, a) :: r))) else pure (ForInStep.yield r) : Sem (ForInStep (List (Str × Addr))))) = (pure cl : Sem _) := e1
  first
    | (rw [e]; rfl)
    | (simp only []; rw [e]; rfl)
    | (show (do let r ← _; pure r) = _; rw [e]; rfl)
def capOk (oN : List Str) (osc scope : Scope) (N' : List Str) (cap : List (Option Nat)) : Bool :=
  (List.range cap.length).all fun j => match cap[j]?, N'[j]? with
    | some (some i), some x => oN[i]? == some x && scope.names.contains (x, .free) && scope.names.lookup x == some .free && osc.names.lookup x == some .cell
    | _, _ => true
def capt (cap : List (Option Nat)) (σ : L2.St) : L2.St := cap.map fun o => match o with | some i => (σ[i]?).join | none => none
theorem capOk_at {oN : List Str} {osc scope : Scope} {N' : List Str} {cap : List (Option Nat)} (h : capOk oN osc scope N' cap = true) {j i : Nat} {x : Str} (h1 : cap[j]? = some (some i)) (h2 : N'[j]? = some x) :
    oN[i]? = some x ∧ (x, NameKind.free) ∈ scope.names ∧ scope.names.lookup x = some .free ∧ osc.names.lookup x = some .cell := by
  have hj : j < cap.length := (List.getElem?_eq_some_iff.mp h1).1
  have q := List.all_eq_true.mp h j (List.mem_range.mpr hj)
  rw [h1, h2] at q
  simp only [Bool.and_eq_true, beq_iff_eq] at q
  obtain ⟨⟨⟨q1, q2⟩, q3⟩, q4⟩ := q
  exact ⟨q1, List.contains_iff_mem.mp q2, q3, q4⟩
theorem capt_at {cap : List (Option Nat)} {σ : L2.St} {j : Nat} {v : V} (h : (capt cap σ)[j]? = some (some v)) : ∃ i, cap[j]? = some (some i) ∧ σ[i]? = some (some v) := by
  unfold capt at h
  rw [List.getElem?_map] at h
  cases e : cap[j]? with
  | none => rw [e] at h; cases h
  | some o =>
    rw [e] at h
    cases o with
    | none => cases h
    | some i =>
      refine ⟨i, rfl, ?_⟩
      have h' : (σ[i]?).join = some v := by simpa using h
      cases e2 : σ[i]? with
      | none => rw [e2] at h'; cases h'
      | some u => rw [e2] at h'; exact congrArg some h'
theorem lookup_relabel_free {env : Env} (hk : env.scope.kind = .function) : ∀ {names : List (Str × NameKind)} {x : Str}, names.lookup x = some .free → env.kindOf x = some .cell →
    (names.map fun (n, k) => if (k == NameKind.free && env.scope.kind == .function && env.kindOf n == some .cell) then (n, NameKind.cell) else (n, k)).lookup x = some .cell
  | [], _, h, _ => by cases h
  | (n, k) :: r, x, h, hc => by
    have ih := @lookup_relabel_free env hk r x
    show List.lookup x ((if (k == NameKind.free && env.scope.kind == .function && env.kindOf n == some .cell) = true then (n, NameKind.cell) else (n, k)) :: _) = _
    cases hx : x == n with
    | true =>
      simp only [List.lookup_cons, hx] at h
      cases h
      have hx' : x = n := eq_of_beq hx
      rw [if_pos (by rw [hk, ← hx', hc]; decide)]
      simp [List.lookup_cons, hx]
    | false =>
      simp only [List.lookup_cons, hx] at h
      split <;> (simp only [List.lookup_cons, hx]; exact ih h hc)
theorem relabel_cf {env : Env} : ∀ {names : List (Str × NameKind)} {x : Str}, (∀ y ∈ names, y.2 ≠ .cell) →
    ((names.map fun (n, k) => if (k == NameKind.free && env.scope.kind == .function && env.kindOf n == some .cell) then (n, NameKind.cell) else (n, k)).lookup x = some .cell ∨
      (names.map fun (n, k) => if (k == NameKind.free && env.scope.kind == .function && env.kindOf n == some .cell) then (n, NameKind.cell) else (n, k)).lookup x = some .free) → (x, NameKind.free) ∈ names
  | [], _, _, h => by rcases h with h | h <;> cases h
  | (n, k) :: r, x, hc, h => by
    have ih := @relabel_cf env r x (fun y hy => hc y (List.mem_cons_of_mem _ hy))
    have h' : List.lookup x ((if (k == NameKind.free && env.scope.kind == .function && env.kindOf n == some .cell) = true then (n, NameKind.cell) else (n, k)) :: (r.map fun (n, k) => if (k == NameKind.free && env.scope.kind == .function && env.kindOf n == some .cell) then (n, NameKind.cell) else (n, k))) = some .cell ∨
        List.lookup x ((if (k == NameKind.free && env.scope.kind == .function && env.kindOf n == some .cell) = true then (n, NameKind.cell) else (n, k)) :: (r.map fun (n, k) => if (k == NameKind.free && env.scope.kind == .function && env.kindOf n == some .cell) then (n, NameKind.cell) else (n, k))) = some .free := h
    cases hx : x == n with
    | true =>
      have hx' : x = n := eq_of_beq hx
      subst hx'
      by_cases hq : (k == NameKind.free && env.scope.kind == .function && env.kindOf x == some .cell) = true
      · have hkf : k = .free := by simp only [Bool.and_eq_true, beq_iff_eq] at hq; exact hq.1.1
        subst hkf
        exact List.mem_cons_self
      · rw [if_neg hq] at h'
        simp only [List.lookup_cons, beq_self_eq_true] at h'
        rcases h' with h' | h'
        · have e : k = .cell := Option.some.inj h'
          exact absurd e (hc (x, k) List.mem_cons_self)
        · have e : k = .free := Option.some.inj h'
          subst e
          exact List.mem_cons_self
    | false =>
      by_cases hq : (k == NameKind.free && env.scope.kind == .function && env.kindOf n == some .cell) = true
      · rw [if_pos hq] at h'
        simp only [List.lookup_cons, hx] at h'
        exact List.mem_cons_of_mem _ (ih h')
      · rw [if_neg hq] at h'
        simp only [List.lookup_cons, hx] at h'
        exact List.mem_cons_of_mem _ (ih h')
def cxComp (X : Cx) (scope : Scope) (cl : List (Str × Addr)) (N' : List Str) (s₂ : Shared) (H₂ : Hp) (C : Addr) (fp : List Addr) : Cx where
  prog := X.prog
  w := X.w
  K := X.K
  mg := X.mg
  base := X.base
  A := X.A
  N := N'
  s₀ := s₂
  H₀ := H₂
  env := compEnvC scope cl C X.env
  outer := X.stack
  stack := X.stack
  ex := fp
  fn := fun _ => false
  calm := X.calm
  pn := []
  xe := fun _ _ => False
def InComp (X : Cx) (scope : Scope) (N' : List Str) (p : Cx → Prop) : Prop := ∀ (cl : List (Str × Addr)) (s₂ : Shared) (H₂ : Hp) (C : Addr) (fp : List Addr), p (cxComp X scope cl N' s₂ H₂ C fp)
def tTurns (J : It) (g : TG) (tt : TT) (te : TE) (D : Addr) (Fin : Hp → Prop) (σ' : L2.St) (H' : Hp) : Prop :=
  ∃ W : Nat → Nat → L2.St → Hp → Prop, (∃ m, W 0 m σ' H') ∧ ∀ i m σ H, W i m σ H →
    (J.stop i H ∧ Fin H) ∨ (J.go i H ∧ ∃ N : L2.St → Hp → Prop, (∀ σ' H', N σ' H' → ∃ m', m' < m ∧ W (i + 1) m' σ' H') ∧ ∀ x H1, J.yld i H x H1 → g x σ H1 fun σ2 H2 => tt σ2 H2 fun b H3 =>
      if b = true then te σ2 H3 fun y H4 => ∃ ys, H4 D = some (.lst ys) ∧ ys.length < sizeLine ∧ N σ2 (upd H4 D (.lst (ys ++ [y]))) else N σ2 H3)
def tComp (cap : List (Option Nat)) (wi : TI) (g : TG) (tt : TT) (te : TE) : TE := fun σ H Q => wi σ H fun J H1 => ∀ D, H1 D = none → tTurns J g tt te D (Q (.ref D)) (capt cap σ) (upd H1 D (.lst []))
def tYes : TT := fun _ H Q => Q true H
section
variable {X : Cx} {elt iter : Expr} {x : Str} {px pos : Pos} {ifs : List Expr} {scope osc : Scope} {oN N' : List Str} {cap : List (Option Nat)} {wi : TI} {g : TG} {tt : TT} {te : TE}
def PIf (X : Cx) (ifs : List Expr) (tt : TT) : Prop :=
  ∀ (pins : List (Addr × Obj)) (s : Shared) (σ : L2.St) (H : Hp) (Q : Bool → Hp → Prop), Inv X pins σ H s → tt σ H Q →
    wpAny (model X.prog X.w) X.A (forIn ifs true fun c r => if r = true then do let ok ← isTrue c X.env (eval c X.env); pure (ForInStep.yield ok) else pure (ForInStep.yield r)) (TP X pins σ Q) X.xe s
theorem pif_none : PIf X [] tYes := fun _ _ _ H _ I h => wpAny_tests_nil ⟨H, I, h⟩
theorem pif_one {c : Expr} (h : PT X c tt) : PIf X [c] tt := fun pins s σ H Q I q => wpAny_tests_one (h pins s σ H Q I q)
theorem comp_core {fp : List Addr} {it : Addr} {tn : Nat → Heap → Prop} {J : It} {pins : List (Addr × Obj)} {σ : L2.St} {H : Hp} {s : Shared} {cl : List (Str × Addr)} {Fin : Addr → Hp → Prop} {RR : Value → Addr → Result → Shared → Prop} {E : Value → Shared → Prop}
    (hsc : X.env.scope = osc) (hoN : X.N = oN) (hcalm : X.calm = true) (hcell : ∀ y ∈ scope.names, y.2 ≠ .cell) (hkind : scope.kind = .function) (hcap : capOk oN osc scope N' cap = true) (hlen : cap.length = N'.length)
    (cl1 : ∀ x c, cl.lookup x = some c → X.env.cells.lookup x = some c) (cl2 : ∀ x, (x, NameKind.free) ∈ scope.names → ∃ c, cl.lookup x = some c)
    (I : Inv X pins σ H s) (T : Turn X.prog X.w X.K (.Name x px) J fp it tn) (st : tn 0 s.heap) (hf : ∀ b ∈ fp, FpOk X pins H b) (hfl : ∀ b ∈ fp, b < s.heap.objs.size)
    (hg : InComp X scope N' fun Y => PG Y (.Name x px) g) (ht : InComp X scope N' fun Y => PIf Y ifs tt) (he : InComp X scope N' fun Y => PE Y elt te)
    (h : ∀ D, H D = none → tTurns J g tt te D (Fin D) (capt cap σ) (upd H D (.lst [])))
    (hRR : ∀ (D C : Addr) (s' : Shared) (H' : Hp) (m : Str → Option Value), Inv X pins σ H' s' → s'.heap.Ns C m → H' C = none → C ≠ X.env.locals → X.s₀.heap.objs.size ≤ C → (∀ x c, X.env.cells.lookup x = some c → c ≠ C) → (∀ p ∈ X.pn ++ pins, p.1 ≠ C) → Fin D H' → RR (.ref D) C (.ok .next) s') :
    wpAny (model X.prog X.w) X.A (newList []) (fun acc s₃ => wpAny (model X.prog X.w) X.A (newFunctionEnv scope X.env.globals cl [] X.env.qual none .none (some X.env)) (fun cenv s₄ =>
      codeAny (model X.prog X.w) X.A (.compStart (.ListComp elt [⟨.Name x px, iter, ifs, 0⟩] scope pos) 0 (.ref it) acc { cenv with scope := relabel scope X.env }) (RR acc cenv.locals) s₄) E s₃) E s := by
  refine wpAny_newObj_type (wpAny_newFunctionEnv hcell (by intro y hy; simp at hy) (fun h₁ hns₁ hsb₁ => ?_) hkind)
  dsimp only at hns₁ hsb₁ ⊢
  generalize hH2 : s.heap.push { cls := .type "list", dict := none, data := .seq ([] : List Value).toArray } = H2 at hns₁ hsb₁ ⊢
  have hC : H2.objs.size = s.heap.objs.size + 1 := by rw [← hH2, Heap.size_push]
  have hDC : s.heap.objs.size ≠ H2.objs.size := by rw [hC]; exact Nat.ne_of_lt (Nat.lt_succ_self _)
  have below : ∀ b, b < s.heap.objs.size → b ≠ H2.objs.size ∧ b ≠ s.heap.objs.size := fun b hb => ⟨by rw [hC]; exact Nat.ne_of_lt (Nat.lt_succ_of_lt hb), Nat.ne_of_lt hb⟩
  have hCle : s.heap.objs.size ≤ H2.objs.size := by rw [hC]; exact Nat.le_succ _
  have old : ∀ b o, s.heap.get? b = some o → h₁.get? b = some o := fun b o e => hsb₁.extBut b o (below b (Heap.lt_size e)).1 (Heap.get?_push_of_some _ (hH2 ▸ Heap.get?_push_of_some _ e))
  have hacc : h₁.get? s.heap.objs.size = some { cls := .type "list", data := .seq ([] : List Value).toArray } := hsb₁.extBut _ _ hDC (Heap.get?_push_of_some _ (hH2 ▸ Heap.get?_push_size _ rfl))
  have hHD : H s.heap.objs.size = none := I.hok.fresh (Nat.le_refl _)
  have hHC : H H2.objs.size = none := I.hok.fresh hCle
  have cellOld : ∀ y c, cl.lookup y = some c → c < s.heap.objs.size := fun y c e => by
    obtain ⟨v, o, ho, _⟩ := I.cell y c (cl1 y c e)
    exact Heap.lt_size ho
  let Y : Cx := cxComp X scope cl N' s H H2.objs.size fp
  have stkNo : ∀ b ∈ fp, b ∉ frs X.stack := fun b hb hm => by
    obtain ⟨_, f1, f2, _⟩ := hf b hb
    rcases List.mem_cons.mp (I.stkSub b hm) with z | z
    · exact f1 z
    · exact f2 z
  have okY : Y.Ok := by
    refine ⟨I.ok.mod, hkind, I.ok.glob, I.ok.blt, hCle, fun y z c e1 e2 => I.ok.inj y z c (cl1 y c e1) (cl1 z c e2), fun y hy => ?_, fun y c hfn => (nomatch hfn), I.ok.hd, I.ok.frames, .inl rfl, fun b hb => ⟨(below b (hfl b hb)).1, fun y c e => ?_⟩, I.bs, Nat.le_trans I.ok.bsz I.sz, fun b o e hb => ?_, stkNo, I.stack, I.stkFree⟩
    · exact cl2 y (relabel_cf hcell hy)
    · obtain ⟨_, _, _, _, f4, _⟩ := hf b hb
      exact f4 y c (cl1 y c e)
    · obtain ⟨_, _, _, f3, _⟩ := hf b hb
      rcases f3 with z | z
      · exact I.ok.noex b o e z
      · exact absurd (Nat.lt_of_lt_of_le (Heap.lt_size e) (Nat.le_trans I.ok.bsz z)) (Nat.lt_irrefl _)
  have IY : Inv Y [] (capt cap σ) (upd H s.heap.objs.size (.lst [])) { s with heap := h₁, toks := s.toks + ([] : List (Str × Value)).length } := by
    refine ⟨okY, rfl, I.bare, Un.laid old (Nat.le_refl _) hHD, ⟨_, hns₁, fun j y v e1 e2 e3 => ?_⟩, fun y c e => ?_, ?_, fun y c e => ?_, fun p hp => absurd (show p ∈ ([] : List (Addr × Obj)) from hp) (by simp), ?_, ?_⟩
    · obtain ⟨i, c1, c2⟩ := capt_at e2
      obtain ⟨q1, q2, q3, q4⟩ := capOk_at hcap c1 e1
      obtain ⟨m, hn, hl⟩ := I.loc
      have kc : X.env.kindOf y = some .cell := by show X.env.scope.names.lookup y = _; rw [hsc]; exact q4
      obtain ⟨u, r, l⟩ := hl i y v (by rw [hoN]; exact q1) c2 (.inr (.inl kc))
      refine ⟨u, r, .inr ⟨.inl (lookup_relabel_free I.ok.kind q3 kc), ?_⟩⟩
      rcases l with ⟨k, _⟩ | ⟨_, c, hc, hcl⟩
      · have k' : X.env.kindOf y = some .local := k
        rw [kc] at k'; cases k'
      · obtain ⟨d, hd⟩ := cl2 y q2
        have e := cl1 y d hd
        rw [hc] at e; cases e
        obtain ⟨o, ho, hd'⟩ := hcl
        exact ⟨c, hd, o, old _ _ ho, hd'⟩
    · obtain ⟨v, o, ho, hd⟩ := I.cell y c (cl1 y c e)
      exact ⟨v, o, old _ _ ho, hd⟩
    · show upd H s.heap.objs.size (.lst []) H2.objs.size = none
      rw [upd_ne (Ne.symm hDC)]; exact hHC
    · show upd H s.heap.objs.size (.lst []) c = none
      rw [upd_ne (below c (cellOld y c e)).2]; exact I.freeC y c (cl1 y c e)
    · exact I.hok.laid old (Nat.le_refl _) (show ObjOk X.prog X.w _ h₁ _ (.lst []) from ⟨Nat.zero_le _, [], 0, .nil, hacc⟩)
    · show (capt cap σ).length = N'.length
      unfold capt
      rw [List.length_map, hlen]
  have stY : ∀ {H' : Hp}, (∀ b ∈ fp, H' b = none) → ∀ b ∈ fp, FpOk Y [] H' b := fun hn b hb => by
    refine ⟨hn b hb, (below b (hfl b hb)).1, stkNo b hb, .inl hb, fun y c e => ?_, fun p hp => absurd (show p ∈ ([] : List (Addr × Obj)) from hp) (by simp)⟩
    obtain ⟨_, _, _, _, f4, _⟩ := hf b hb
    exact f4 y c (cl1 y c e)
  have st1 : tn 0 h₁ := T.keep _ _ _ st fun b hb o e => old b o e
  have fr1 : ∀ b ∈ fp, upd H s.heap.objs.size (.lst []) b = none := fun b hb => by rw [upd_ne (below b (hfl b hb)).2]; exact (hf b hb).1
  obtain ⟨W, ⟨m0, w0⟩, turn⟩ := h s.heap.objs.size hHD
  have fin : ∀ {σ' : L2.St} {H' : Hp} {s' : Shared}, Inv Y [] σ' H' s' → Fin s.heap.objs.size H' → RR (.ref s.heap.objs.size) H2.objs.size (.ok .next) s' := fun {σ' H' s'} J' q => by
    obtain ⟨m, hn, _⟩ := J'.loc
    have I' : Inv X pins σ H' s' := I.call' (ch := fp) J'.os J'.base J'.hok J'.bare fun b hb => by
      obtain ⟨_, f1, _, f3, f4, f5⟩ := hf b hb
      exact ⟨f3, f1, f4, f5⟩
    refine hRR _ _ s' H' m I' hn J'.free (Ne.symm (below _ I.lt).1) (Nat.le_trans I.sz hCle) (fun y c e z => ?_) (fun p hp z => ?_) q
    · obtain ⟨v, o, ho, _⟩ := I.cell y c e
      exact (below c (Heap.lt_size ho)).1 z
    · exact (below p.1 (Heap.lt_size (I.pin p hp).1)).1 z
  have loop : ∀ s₃ : Shared, s₃ = { s with heap := h₁, toks := s.toks + ([] : List (Str × Value)).length } →
      codeAny (model X.prog X.w) X.A (.compLoop (.ListComp elt [⟨.Name x px, iter, ifs, 0⟩] scope pos) 0 (.ref it) (.ref s.heap.objs.size) (compEnvC scope cl H2.objs.size X.env)) (RR (.ref s.heap.objs.size) H2.objs.size) s₃ := by
    rintro s₃ rfl
    refine codeAny_compLoop_tests (fun n s' => ∃ i σ' H', Inv Y [] σ' H' s' ∧ tn i s'.heap ∧ (∀ b ∈ fp, H' b = none) ∧ W i n σ' H') ?_ m0 ⟨0, _, _, IY, st1, fr1, w0⟩
    rintro n s3 ⟨i, σ3, H3, I3, st3, fr3, w3⟩
    rcases turn i n σ3 H3 w3 with ⟨stop, qn⟩ | ⟨go, N, hN, step⟩
    · refine thn (T.done Y rfl rfl rfl hcalm i [] s3 σ3 H3 _ I3 (stY fr3) st3 stop) fun r s4 ⟨hr, I4⟩ => ?_
      subst hr
      exact fin I4 qn
    · refine thn (T.item Y rfl rfl rfl hcalm i [] s3 σ3 H3 _ I3 (stY fr3) st3 go) fun r s4 ⟨u, hr, h4⟩ => ?_
      subst hr
      refine (show wpAny (model X.prog X.w) X.A ((pure () : Sem Unit) >>= fun _ => assign (.Name x px) (compEnvC scope cl H2.objs.size X.env) u) _ _ s4 → wpAny (model X.prog X.w) X.A (assign (.Name x px) (compEnvC scope cl H2.objs.size X.env) u) _ _ s4 from fun z => by rwa [pure_bind] at z) (wpAny_bind (thn (show wpAny (model X.prog X.w) X.A (pure ()) _ _ s4 from h4) fun _ s5 ⟨y, H5, I5, r5, y5, st5, fr5⟩ => ?_))
      have I5' := I5.pinned (stY fr5) (T.obj _ _ st5)
      have up : ∀ {α : Type} {t : Sem α} {Q : α → Shared → Prop} {E' : Value → Shared → Prop} {s' : Shared}, wpAny (model X.prog X.w) X.A t Q (fun _ _ => False) s' → wpAny (model X.prog X.w) X.A t Q E' s' := fun q => wpAny_mono q (fun _ _ z => z) fun _ _ z => z.elim
      refine up (thn (hg cl s H H2.objs.size fp _ s5 σ3 H5 y u _ I5' r5 (step y H5 y5)) fun _ s6 ⟨σ6, H6, I6, q6⟩ => ?_)
      refine up (thn (ht cl s H H2.objs.size fp _ s6 σ6 H6 _ I6 q6) fun b s7 ⟨H7, I7, q7⟩ => ?_)
      have again : ∀ {σ8 : L2.St} {H8 : Hp} {s8 : Shared}, Inv Y ([] ++ pinsAt fp s5.heap) σ8 H8 s8 → N σ8 H8 → ∃ m, m < n ∧ ∃ i σ' H', Inv Y [] σ' H' s8 ∧ tn i s8.heap ∧ (∀ b ∈ fp, H' b = none) ∧ W i m σ' H' := fun {σ8 H8 s8} I8 n8 => by
        obtain ⟨m', hm, w8⟩ := hN σ8 H8 n8
        refine ⟨m', hm, i + 1, σ8, H8, I8.unpinned, T.keep _ _ _ st5 fun b hb o e => (I8.pin (b, o) (List.mem_append_right _ (List.mem_append_right _ (mem_pinsAt hb e)))).1, fun b hb => ?_, w8⟩
        obtain ⟨o, e, d⟩ := T.obj _ _ st5 b hb
        exact (I8.pin (b, o) (List.mem_append_right _ (List.mem_append_right _ (mem_pinsAt hb e)))).2.1
      cases b with
      | false =>
        rw [if_neg Bool.false_ne_true] at q7 ⊢
        exact again I7 q7
      | true =>
        rw [if_pos rfl] at q7 ⊢
        refine up (thn (he cl s H H2.objs.size fp _ s7 σ6 H7 _ I7 q7) fun v s8 ⟨z, H8, I8, r8, q8⟩ => ?_)
        obtain ⟨ys, e1, e2, e3⟩ := q8
        refine up (thn (mt_append (X := Y) _ s8 σ6 H8 (.ref s.heap.objs.size) [z] (.ref s.heap.objs.size) [v] (fun w H9 => N σ6 H9) I8 rfl (.cons r8 .nil) ⟨s.heap.objs.size, ys, z, rfl, rfl, e1, e2, e3⟩) fun _ s9 ⟨_, H9, I9, _, q9⟩ => ?_)
        exact again I9 q9
  exact codeAny_compStart_list (loop _ rfl) (T.self _ 0 _ _ _ st1 (loop _ rfl))
theorem pe_comp (hsc : X.env.scope = osc) (hoN : X.N = oN) (hcalm : X.calm = true) (hcell : ∀ y ∈ scope.names, y.2 ≠ .cell) (hkind : scope.kind = .function) (hnames : ∀ y ∈ scope.names, y.2 = .local → scope.names.lookup y.1 = some .local)
    (hfree : ∀ y ∈ scope.names, y.2 = .free → osc.names.lookup y.1 = some .cell ∨ osc.names.lookup y.1 = some .free) (hcap : capOk oN osc scope N' cap = true) (hlen : cap.length = N'.length)
    (hi : PI X (.Name x px) iter wi) (hg : InComp X scope N' fun Y => PG Y (.Name x px) g) (ht : InComp X scope N' fun Y => PIf Y ifs tt) (he : InComp X scope N' fun Y => PE Y elt te)
    (hs : ∀ x, foldedSetIterable iter X.env x = pure x := by intro _; rfl) : PE X (.ListComp elt [⟨.Name x px, iter, ifs, 0⟩] scope pos) (tComp cap wi g tt te) := by
  intro pins s σ H Q I h
  obtain ⟨cl, ecl, cl1, cl2⟩ := closureFor_of (env := X.env) (scope := scope) fun y hy hk => I.ok.has y.1 (by
    have z := hfree y hy hk
    show X.env.scope.names.lookup y.1 = _ ∨ X.env.scope.names.lookup y.1 = _
    rw [hsc]; exact z)
  rw [eval_ListComp]
  refine wpAny_comprehension_free (use := none) rfl hs ecl hkind hnames (thn (hi pins s σ H _ I h) fun v s1 h1 => thn h1 fun itv s2 h2 => ?_)
  obtain ⟨it, fp, tn, J, H2, e, I2, T, st2, f2, h3⟩ := h2
  subst e
  refine comp_core (Fin := fun D => Q (.ref D)) hsc hoN hcalm hcell hkind hcap hlen cl1 cl2 I2 T st2 f2 (fun b hb => ?_) hg ht he h3 ?_
  · obtain ⟨o, ho, _⟩ := T.obj _ _ st2 b hb
    exact Heap.lt_size ho
  · intro D C s' H' m I' hn hC hL hz hc hp q
    refine ⟨m, hn, fun h' hs' => ?_⟩
    exact ⟨.ref D, H', I'.turned (t' := s'.toks) (fun b o hb e => hs'.extBut b o hb e) hC hL.symm.symm (.inr hz) hc hp, rfl, q⟩
def tSetComp (i : Nat) (cap : List (Option Nat)) (wi : TI) (g : TG) (tt : TT) (te : TE) : TS := fun E σ H => wi σ H fun J H1 => ∀ D, H1 D = none → tTurns J g tt te D (fun H2 => E.nx (σ.set i (some (.ref D))) H2) (capt cap σ) (upd H1 D (.lst []))
theorem ps_setComp {i : Nat} {y : Str} {py spos : Pos} (hN : X.N.Nodup) (hi' : X.N[i]? = some y) (hy : Loc X.env.scope y) (hsc : X.env.scope = osc) (hoN : X.N = oN) (hcalm : X.calm = true) (hcell : ∀ y ∈ scope.names, y.2 ≠ .cell) (hkind : scope.kind = .function) (hnames : ∀ y ∈ scope.names, y.2 = .local → scope.names.lookup y.1 = some .local)
    (hfree : ∀ y ∈ scope.names, y.2 = .free → osc.names.lookup y.1 = some .cell ∨ osc.names.lookup y.1 = some .free) (hcap : capOk oN osc scope N' cap = true) (hlen : cap.length = N'.length)
    (hi : PI X (.Name x px) iter wi) (hg : InComp X scope N' fun Y => PG Y (.Name x px) g) (ht : InComp X scope N' fun Y => PIf Y ifs tt) (he : InComp X scope N' fun Y => PE Y elt te)
    (hsw : swapsWith (.ListComp elt [⟨.Name x px, iter, ifs, 0⟩] scope pos) (some (.Name y py)) spos.line X.env = pure true := by rfl)
    (hs : ∀ x, foldedSetIterable iter X.env x = pure x := by intro _; rfl) (hfn : X.fn y = true ∨ X.env.scope.names.lookup y = some .local := by first | exact .inl rfl | exact .inr rfl | assumption) :
    PS X (.Assign [.Name y py] (.ListComp elt [⟨.Name x px, iter, ifs, 0⟩] scope pos) spos) (tSetComp i cap wi g tt te) := by
  intro pins s σ H Dn I h
  obtain ⟨cl, ecl, cl1, cl2⟩ := closureFor_of (env := X.env) (scope := scope) fun y hy hk => I.ok.has y.1 (by
    have z := hfree y hy hk
    show X.env.scope.names.lookup y.1 = _ ∨ X.env.scope.names.lookup y.1 = _
    rw [hsc]; exact z)
  rw [exec_Assign_Name_used _ _ _ _ hsw]
  refine wpAny_bind (wpAny_standAt (wpAny_bind ?_))
  show wpAny _ X.A (do let _ ← comprehension (.ListComp elt [⟨.Name x px, iter, ifs, 0⟩] scope pos) scope X.env _ (newList []) false (eval iter X.env) (some (assign (.Name y py) X.env))) _ _ s
  refine wpAny_bind (wpAny_mono (wpAny_comprehension_free (use := some (assign (.Name y py) X.env)) (Q := fun _ s' => SP X pins Dn .next s') rfl hs ecl hkind hnames
    (thn (hi pins s σ H _ I h) fun v s1 h1 => thn h1 fun itv s2 h2 => ?_)) (fun _ s' hq => wpAny_pure (wpAny_pure hq)) fun _ _ e => e)
  obtain ⟨it, fp, tn, J, H2, e, I2, T, st2, f2, h3⟩ := h2
  subst e
  refine comp_core (Fin := fun D H' => Dn.nx (σ.set i (some (.ref D))) H') hsc hoN hcalm hcell hkind hcap hlen cl1 cl2 I2 T st2 f2 (fun b hb => ?_) hg ht he h3 ?_
  · obtain ⟨o, ho, _⟩ := T.obj _ _ st2 b hb
    exact Heap.lt_size ho
  · intro D C s' H' m I' hn hC hL hz hc hp q
    show wpAny _ X.A (assign (.Name y py) X.env (.ref D)) _ _ _
    refine wpAny_assign_Name (store_ok2 I' hN hi' hy (v := .ref D) rfl (fun s'' I'' ⟨a, sb, ha⟩ => ?_) hfn)
    have hCa : C ≠ a := by
      rcases ha with z | z
      · rw [z]; exact hL
      · exact Ne.symm (hc y a z)
    refine ⟨m, hn.sameBut sb hCa, fun h' hs' => ?_⟩
    exact ⟨_, H', I''.turned (t' := s''.toks) (fun b o hb e => hs'.extBut b o hb e) hC hL (.inr hz) hc hp, q⟩
end
end LW
namespace LW
open PySem PySem.Spec PyProof.Rows L2
section
variable {X : Cx} {tg : Expr}
theorem op_le_str : OpR X (compareOp .LtE) (fun x y H Q => ∃ i j, x = .str i ∧ y = .str j ∧ Q (.bl (!decide (j.cps.toList < i.cps.toList))) H) := by
  intro pins s σ H x y v u Q I rx ry h
  obtain ⟨i, j, rfl, rfl, q⟩ := h
  obtain ⟨t, rfl⟩ := rx
  obtain ⟨t', rfl⟩ := ry
  exact PySem.P.le_str ⟨.bl _, H, I, rfl, q⟩
def Itx (x : Str) : It := ⟨fun i _ => i < x.length, fun i H v H' => H' = H ∧ ∃ c, x.cps[i]? = some c ∧ v = .str ⟨#[c]⟩, fun i _ => i = x.length⟩
theorem turn_str {P : Program} {w : World} {K : PySem.W.Frag} {tg : Expr} (T : String) (hT : ["enumerate", "zip", "dict_itemiterator", "dict_reverseitemiterator", "odict_iterator", "itertools.zip_longest", "itertools.pairwise"].contains T = false) (it : Addr) (x : Str) (t : Tok)
    (W : ∀ A : Around, A.handled = none → Walks P w A it [it] [it] x.cps.size (SignAt x) (fun i h => h.IsStrIter it T x t i))
    (self : ∀ (A : Around) (i : Nat) (s : Shared) (Q : Value → Shared → Prop) (E : Value → Shared → Prop), s.heap.IsStrIter it T x t i → Q (.ref it) s → wpAny (model P w) A (pyIter (.ref it)) Q E s) :
    Turn P w K tg (Itx x) [it] it (fun i h => h.IsStrIter it T x t i) where
  mem := by simp
  obj := fun i h st b hb => by
    have e : b = it := by simpa using hb
    subst e
    obtain ⟨o, e, c, d⟩ := st
    exact ⟨o, e, fun v z => by rw [d] at z; cases z⟩
  keep := fun i h h' st k => by
    obtain ⟨o, e, r⟩ := st
    exact ⟨o, k it (by simp) o e, r⟩
  item := by
    intro X hP hw hK hc i pins s σ H E I hf st hg
    subst hP hw hK
    obtain ⟨f0, f1, f2, f3, f4, f5⟩ := hf it (by simp)
    refine (W X.A (I.ok.hd hc)).item i s _ _ hg st fun v h' tk hv st' kk => ?_
    obtain ⟨c, u, hc', rfl⟩ := hv
    have I1 : Inv X pins σ H { s with heap := h', toks := tk } := I.turned (fun b o hb e => kk b o (by simpa using hb) e) f0 f1 f3 f4 f5
    obtain ⟨o, e, c1, d⟩ := id st'
    exact ⟨_, rfl, go_of (s := { s with heap := h', toks := tk }) e c1 d hT ⟨.str ⟨#[c]⟩, H, I1, ⟨u, rfl⟩, ⟨rfl, c, hc', rfl⟩, st', fun b hb => (hf b hb).1⟩⟩
  done := by
    intro X hP hw hK hc i pins s σ H E I hf st hg
    subst hP hw hK
    obtain ⟨f0, f1, f2, f3, f4, f5⟩ := hf it (by simp)
    have hg' : i = x.cps.size := hg
    subst hg'
    exact (W X.A (I.ok.hd hc)).done s _ _ st fun h' tk kk => ⟨rfl, I.turned (fun b o hb e => kk b o (by simpa using hb) e) f0 f1 f3 f4 f5⟩
  self := self
def iStr (te : TE) : TI := fun σ H R => te σ H fun v H1 => ∃ x, v = .str x ∧ R (Itx x) H1
theorem pi_str {l : Expr} {tl : TE} (hl : PE X l tl) : PI X tg l (iStr tl) := by
  intro pins s σ H R I h
  refine thn (hl pins s σ H _ I h) fun v s1 ⟨x, H1, I1, r1, q1⟩ => ?_
  obtain ⟨x, rfl, q⟩ := q1
  obtain ⟨t, rfl⟩ := r1
  have fin : ∀ (o : Obj) (T : String), Turn X.prog X.w X.K tg (Itx x) [s1.heap.objs.size] s1.heap.objs.size (fun i h => h.IsStrIter s1.heap.objs.size T x t i) → (s1.heap.push o).IsStrIter s1.heap.objs.size T x t 0 →
      PIE X pins σ tg R (.ref s1.heap.objs.size) { s1 with heap := s1.heap.push o } := fun o T tu st =>
    ⟨s1.heap.objs.size, [s1.heap.objs.size], _, _, H1, rfl, I1.kept (t' := s1.toks) fun b o e => Heap.get?_push_of_some _ e, tu, st, fun b hb => by
      have e : b = s1.heap.objs.size := by simpa using hb
      subst e
      exact I1.fpOk (Nat.le_refl _) (I1.hok.fresh (Nat.le_refl _)), q⟩
  cases ha : x.cps.all (· < 128)
  · exact wpAny_pyIter_wide ha (fin _ _ (turn_str "str_iterator" (by decide) _ x t (fun A hA => Walks.strWide hA _ x t) fun A i s Q E st q => wpAny_pyIter_striter_wide st q) ⟨_, Heap.get?_push_size _ rfl, rfl, rfl⟩)
  · exact wpAny_pyIter_ascii ha (fin _ _ (turn_str "str_ascii_iterator" (by decide) _ x t (fun A hA => Walks.strAscii hA _ x t) fun A i s Q E st q => wpAny_pyIter_striter_ascii st q) ⟨_, Heap.get?_push_size _ rfl, rfl, rfl⟩)
theorem bools_of {bs : List Bool} : ∀ {us : List Value}, Vals (bs.map V.bl) us → us = bs.map Value.bool := by
  induction bs with
  | nil => intro us r; rw [List.map_nil] at r; cases r; rfl
  | cons b bs ih =>
    intro us r
    rw [List.map_cons] at r
    cases r with
    | cons r1 r2 => cases r1; rw [ih r2, List.map_cons]
theorem range_allB (bs : List Bool) : ((List.range bs.length).all fun i => (bs[i]?).getD true) = bs.all id := by
  rw [Bool.eq_iff_iff, List.all_eq_true, List.all_eq_true]
  constructor
  · intro h b hb
    obtain ⟨i, hi, rfl⟩ := List.getElem_of_mem hb
    have := h i (List.mem_range.mpr hi)
    simp only [List.getElem?_eq_getElem hi, Option.getD_some] at this
    exact this
  · intro h i hi
    have hi' := List.mem_range.mp hi
    simp only [List.getElem?_eq_getElem hi', Option.getD_some]
    exact h _ (List.getElem_mem hi')
theorem keptIt {h h' : Heap} {o : Obj} (hk : ∀ b x, b ∉ [h.objs.size] → (h.push o).get? b = some x → h'.get? b = some x) : ∀ b x, h.get? b = some x → h'.get? b = some x :=
  fun b x e => hk b x (fun hm => by rw [List.mem_singleton.mp hm] at e; exact Nat.lt_irrefl _ (Heap.lt_size e)) (Heap.get?_push_of_some _ e)
theorem call_allB (hc : X.calm = true) : CallR X (.builtin "all") (fun xs H Q => ∃ (p : Addr) (bs : List Bool), xs = [.ref p] ∧ SqL X.K H p (bs.map V.bl) ∧ Q (.bl (bs.all id)) H) := by
  intro pins s σ H xs us Q I r h
  obtain ⟨p, bs, rfl, hq, q⟩ := h
  obtain ⟨u, rfl, rx⟩ := vals1 r
  cases rx
  obtain ⟨its, rv, pl, hz⟩ := I.list hq
  have eb := bools_of rv
  have hl := pl.isList
  have hlt : p < s.heap.objs.size := by obtain ⟨_, e, _⟩ := hl; exact Heap.lt_size e
  refine call_all_walk (wpAny_pyIter_list hl ?_)
  refine ⟨s.heap.objs.size, [s.heap.objs.size, p], [s.heap.objs.size], its.toArray.size, _, _, fun i => (bs[i]?).getD true, rfl, Walks.list (A := X.A.in1) (I.ok.hd hc) _ p (Nat.ne_of_lt hlt) its.toArray,
    ⟨⟨_, Heap.get?_push_size _ rfl, rfl, rfl⟩, hl.push _⟩, fun i v s' Q' E' hP hQ => ?_, fun h' tk hk => ?_⟩
  · have hP' : its[i]? = some v := by simpa using hP
    rw [eb, List.getElem?_map] at hP'
    cases e : bs[i]? with
    | none => rw [e] at hP'; cases hP'
    | some b =>
      rw [e] at hP'
      have ev : Value.bool b = v := Option.some.inj hP'
      subst ev
      simp only [e, Option.getD_some] at hQ
      exact wpAny_truthy_bool hQ
  · have e : ((List.range its.toArray.size).all fun i => (bs[i]?).getD true) = bs.all id := by
      rw [List.size_toArray, eb, List.length_map]; exact range_allB bs
    rw [e]
    exact ⟨.bl _, H, I.kept (keptIt hk), rfl, q⟩
inductive EqD (K : PySem.W.Frag) (H : Hp) : Nat → V → V → Bool → Prop where
  | flat {n : Nat} {x y : V} (hx : flatV x = true) (hy : flatV y = true) : EqD K H n x y (eqV x y)
  | same {n : Nat} (a : Addr) : EqD K H n (.ref a) (.ref a) true
  | lst {n : Nat} {a b : Addr} {xs ys : List V} {e : Nat → Bool} (hne : a ≠ b) (ha : SqL K H a xs) (hb : SqL K H b ys) (hl : xs.length = ys.length) (he : ∀ (j : Nat) x y, xs[j]? = some x → ys[j]? = some y → EqD K H n x y (e j)) : EqD K H (n + 1) (.ref a) (.ref b) ((List.range xs.length).all e)
  | lstN {n : Nat} {a b : Addr} {xs ys : List V} (hne : a ≠ b) (ha : SqL K H a xs) (hb : SqL K H b ys) (hl : xs.length ≠ ys.length) : EqD K H (n + 1) (.ref a) (.ref b) false
  | tup {n : Nat} {a b : Addr} {xs ys : List V} {e : Nat → Bool} (hne : a ≠ b) (ha : SqT K H a xs) (hb : SqT K H b ys) (he : ∀ (j : Nat) x y, xs[j]? = some x → ys[j]? = some y → EqD K H n x y (e j)) : EqD K H (n + 1) (.ref a) (.ref b) ((List.range (min xs.length ys.length)).all e && xs.length == ys.length)
theorem valsA {xs : List V} {us : List Value} (r : Vals xs us) {j : Nat} (h : j < us.toArray.size) : ∃ x, xs[j]? = some x ∧ RelV x us.toArray[j] := by
  have hl := r.length
  have h' : j < xs.length := by simp only [List.size_toArray] at h; omega
  obtain ⟨u, e1, e2⟩ := r.get (List.getElem?_eq_getElem h')
  refine ⟨_, List.getElem?_eq_getElem h', ?_⟩
  have : us.toArray[j] = u := by
    have h2 : j < us.length := by omega
    rw [List.getElem?_eq_getElem h2] at e1
    simpa using Option.some.inj e1
  rw [this]
  exact e2
def eAt (xs ys : List V) (j : Nat) : Bool := match xs[j]?, ys[j]? with | some x, some y => eqV x y | _, _ => true
theorem all_strs {as bs : List Str} (hl : as.length = bs.length) : ((List.range (as.map V.str).length).all (eAt (as.map V.str) (bs.map V.str))) = decide (as = bs) := by
  rw [Bool.eq_iff_iff, List.all_eq_true, decide_eq_true_iff]
  constructor
  · intro h
    refine List.ext_getElem? fun j => ?_
    by_cases hj : j < as.length
    · have q := h j (List.mem_range.mpr (by rw [List.length_map]; exact hj))
      unfold eAt at q
      rw [List.getElem?_map, List.getElem?_map, List.getElem?_eq_getElem hj, List.getElem?_eq_getElem (by omega : j < bs.length)] at q
      have q' : as[j] = bs[j] := by simpa [eqV] using q
      rw [List.getElem?_eq_getElem hj, List.getElem?_eq_getElem (by omega : j < bs.length), q']
    · rw [List.getElem?_eq_none (by omega), List.getElem?_eq_none (by omega)]
  · rintro rfl j hj
    rw [List.length_map] at hj
    have hj' := List.mem_range.mp hj
    unfold eAt
    rw [List.getElem?_map, List.getElem?_eq_getElem hj']
    simp [eqV]
theorem op_neS (hu : X.A.units + 8 < cLine) : OpR X (compareOp .NotEq) (fun x y H Q => ∃ (a b : Addr) (as bs : List Str), x = .ref a ∧ y = .ref b ∧ SqL X.K H a (as.map V.str) ∧ SqL X.K H b (bs.map V.str) ∧ Q (.bl (!decide (as = bs))) H) := by
  intro pins s σ H x y v u Q I rx ry h
  obtain ⟨a, b, as, bs, rfl, rfl, ha, hb, q⟩ := h
  cases rx; cases ry
  obtain ⟨its, rv, pl, hz⟩ := I.list ha
  obtain ⟨its', rv', pl', hz'⟩ := I.list hb
  have l1 := rv.length
  have l2 := rv'.length
  rw [List.length_map] at l1 l2
  obtain ⟨⟨cls, dd, data, sl⟩, ho, hc, n, hd⟩ := pl.isList
  obtain ⟨⟨cls2, dd2, data2, sl2⟩, ho2, hc2, n2, hd2⟩ := pl'.isList
  simp only at hc hd hc2 hd2
  subst hc hd hc2 hd2
  by_cases hl : as.length = bs.length
  · have he : ∀ j (h1 : j < its.toArray.size) (h2 : j < its'.toArray.size), SeqAt.EqAt X.A.in1 s its.toArray[j] its'.toArray[j] (eAt (as.map V.str) (bs.map V.str) j) := fun j h1 h2 => by
      obtain ⟨x, ex, rx⟩ := valsA rv h1
      obtain ⟨y, ey, ry⟩ := valsA rv' h2
      have e : eAt (as.map V.str) (bs.map V.str) j = eqV x y := by unfold eAt; rw [ex, ey]
      rw [e]
      refine eqAt_V rx ry ?_ ?_
      · obtain ⟨z, _, rfl⟩ := List.mem_map.mp (List.mem_of_getElem? ex); rfl
      · obtain ⟨z, _, rfl⟩ := List.mem_map.mp (List.mem_of_getElem? ey); rfl
    refine richCompare_meets_room (op := .NotEq) ⟨_, ho, rfl⟩ ⟨_, ho2, rfl⟩ F.slot_list_ne F.entry_list_ne (F.args_list_ne_2 _ _) (SeqAt.list_neAt a b its.toArray its'.toArray n n2 dd dd2 sl sl2 (by simp only [List.size_toArray]; omega) _) ⟨ho, ho2, he, ?_⟩ (by omega)
    rw [List.size_toArray, show its.length = (as.map V.str).length by rw [List.length_map, l1], all_strs hl]
    exact ⟨(fun x => nomatch x), ⟨.bl _, H, I, rfl, q⟩⟩
  · rw [decide_eq_false (fun e => hl (congrArg List.length e))] at q
    refine richCompare_meets_room (op := .NotEq) ⟨_, ho, rfl⟩ ⟨_, ho2, rfl⟩ F.slot_list_ne F.entry_list_ne (F.args_list_ne_2 _ _) (SeqAt.list_ne_lengthsAt a b its.toArray its'.toArray n n2 dd dd2 sl sl2 (by simp only [List.size_toArray, bne_iff_ne]; omega)) ⟨ho, ho2, ?_⟩ (by omega)
    exact ⟨(fun x => nomatch x), ⟨.bl _, H, I, rfl, q⟩⟩
theorem iteNT {c A B : Prop} [Decidable c] (hc : ¬ c) (h : A) : if (!decide c) = true then A else B := by
  rw [decide_eq_false hc]
  exact iteT h
theorem units_of {A : Around} {k : Nat} (hr : Room k A) : A.units + 8 < cLine := by have := hr.un; omega
end
end LW
namespace LW
open PySem PySem.Spec PyProof.Rows L2
def Has (P : Program) (w : World) (K : PySem.W.Frag) (mg : Str → Option Value) (base : Heap) (x : Str) (k : Nat) (ps : List Str) (sp : Sp) : Prop :=
  ∃ f fd, FnOk P w K mg base CX0 k f fd ps sp ∧ Binds K fd ps [] ∧ PySem.W.keepIn K (.ref f) = true ∧ mg x = some (.ref f)
section
variable {X : Cx} {x : Str} {k : Nat} {ps : List Str} {sp : Sp} {p pos : Pos} {e : Expr} {es : List Expr} {t : TA}
theorem pe_has (G : Has X.prog X.w X.K X.mg X.base x k ps sp) (hr : Room k X.A) (hg : Gl X x) (ha : PA X (e :: es) t) (hdb : (x == ("__debug__" : Str)) = false := by decide)
    (he : starEach (e :: es) X.env = (false, eval e X.env) :: starEach es X.env := by rfl) (hpl : (backTo pos (starEach es X.env)).any (·.1) = false := by rfl) :
    PE X (.Call (.Name x p) (e :: es) [] pos) (tCall sp [] E0 t) := by
  obtain ⟨f, fd, F, B, kp, m⟩ := G
  exact pe_call F hr hg m kp B .nil pass0 ha hdb he hpl
end
section
variable {X : Cx} {K : PySem.W.Frag}
theorem ix_listK (h : X.K = K) : IxR X (rIxL K) := h ▸ ix_list
theorem sl_listK (h : X.K = K) : SlR X (rSlL K) := h ▸ sl_list
theorem call_lenK (h : X.K = K) : CallR X (.builtin "len") (fun xs H Q => ∃ p ys, xs = [.ref p] ∧ (SqL K H p ys ∨ SqT K H p ys) ∧ Q (.int ys.length) H) := h ▸ call_len_seq
theorem op_notInK (h : X.K = K) : OpR X (compareOp .NotIn) (rIn K true) := h ▸ op_notIn_seq
theorem pi_listK {tg l : Expr} {tl : TE} (h : X.K = K) (hl : PE X l tl) : PI X tg l (iList K tl) := h ▸ pi_list hl
end
end LW
namespace LW
open PySem PySem.Spec PyProof.Rows L2 PySem.Builtin.Int
def down (p : Nat → Bool) : Nat → Nat
  | 0 => 0
  | n + 1 => if p (n + 1) = true then n + 1 else down p n
def laps (a b : Str) (k : Nat) : Bool := Txt.endswith a (Txt.slice b none (some (k : Int)))
def ovF (a b : Str) : Nat := down (laps a b) (min a.length b.length - 1)
def Low (x : Str) : Prop := ∀ q ∈ x.cps.toList, 97 ≤ q ∧ q ≤ 122
structure Word (m : Nat) (x : Str) : Prop where
  pos : 1 ≤ x.length
  le : x.length ≤ m
  low : Low x
theorem Low.app {x y : Str} (hx : Low x) (hy : Low y) : Low (x ++ y) := fun q hq => by
  have e : (x ++ y).cps.toList = x.cps.toList ++ y.cps.toList := by
    show (x.cps ++ y.cps).toList = _
    simp
  rw [e] at hq
  rcases List.mem_append.mp hq with h | h
  · exact hx q h
  · exact hy q h
theorem Low.nil : Low (Str.ofString "") := fun q hq => by
  have e : (Str.ofString "").cps.toList = [] := by decide +kernel
  rw [e] at hq
  cases hq
theorem len_nil : (Str.ofString "").length = 0 := by decide +kernel
def alpha : Str := Str.ofString "abcdefghijklmnopqrstuvwxyz"
theorem alpha_list : alpha.cps.toList = (List.range 26).map (97 + ·) := by decide +kernel
theorem alpha_len : alpha.length ≤ sizeLine := by decide +kernel
theorem alpha_at {i : Int} (h0 : 0 ≤ i) (h1 : i < 26) : ∃ c, atI alpha.cps.toList i = some c ∧ 97 ≤ c ∧ c ≤ 122 := by
  rw [alpha_list]
  have e : i = ((i.toNat : Nat) : Int) := by omega
  have h2 : i.toNat < 26 := by omega
  refine ⟨97 + i.toNat, ?_, by omega, by omega⟩
  rw [e]
  refine atI_nat ?_
  rw [List.getElem?_map, List.getElem?_range h2] <;> rfl
theorem Low.one {c : Nat} (h0 : 97 ≤ c) (h1 : c ≤ 122) : Low ⟨#[c]⟩ := fun q hq => by
  have e : q = c := by simpa using hq
  subst e
  exact ⟨h0, h1⟩
theorem small {n : Nat} (h : n ≤ 1000) : n ≤ sizeLine := Nat.le_of_lt (small1000 h)
theorem len_app (x y : Str) : (x ++ y).length = x.length + y.length := strLen_append x y
theorem bits_ediv {c d : Int} (h : intBits c ≤ 2 ^ 20) (hd : 0 < d) : intBits (c / d) ≤ 2 ^ 20 := by
  rw [← Int.fdiv_eq_ediv_of_nonneg c (Int.le_of_lt hd)]
  exact bits_fdiv h
theorem bits_small {c : Int} (h0 : 0 ≤ c) (h1 : c < 2147483647) : intBits c ≤ 2 ^ 20 :=
  Nat.le_trans (intBits_le_64 (by omega) (by omega)) (by decide)
theorem mulOk_sq {c : Int} (h : intBits c ≤ 2 ^ 20) : IntMulOk c c := IntMulOk.of_bits h h
theorem mulOk_l {c : Int} : IntMulOk 48271 c := IntMulOk.of_left (intBits_le_64 (by decide) (by decide))
def Ret (Q : VK) (H : Hp) (v : V) : Prop := ∀ H', Same H H' → Q v H'
def spCell (K : PySem.W.Frag) : Sp := fun vs H Q _ => ∃ (a : Addr) (ns : List Int) (k : Int), vs = [.ref a, .int k] ∧ SqL K H a (ns.map V.int) ∧ 0 ≤ k ∧ Q (.int (ns.getD k.toNat 0)) H
def spWord : Sp := fun vs H Q _ => ∃ (c l : Int) (m : Nat), vs = [.int c, .int l, .int m] ∧ intBits c ≤ 2 ^ 20 ∧ 1 ≤ l ∧ l ≤ 26 ∧ 1 ≤ m ∧ m ≤ 10 ∧ ∀ x, Word m x → Q (.str x) H
def spOv : Sp := fun vs H Q _ => ∃ (a b : Str), vs = [.str a, .str b] ∧ a.length ≤ 1000 ∧ b.length ≤ 1000 ∧ ∀ H', Same H H' → Q (.int (ovF a b)) H'
def spWhole : Sp := fun vs H Q _ => ∃ i : Int, vs = [.int i] ∧ Q (.bl true) H
def spLaw (K : PySem.W.Frag) : Sp := fun vs H Q _ => ∃ (a : Addr) (ns : List Int), vs = [.ref a] ∧ SqL K H a (ns.map V.int) ∧ ns.length ≤ 63 ∧ (∀ i ∈ ns, intBits i ≤ 2 ^ 20) ∧ ∀ H', Q (.bl true) H'
theorem bits_getD {ns : List Int} (h : ∀ i ∈ ns, intBits i ≤ 2 ^ 20) (k : Nat) : intBits (ns.getD k 0) ≤ 2 ^ 20 := by
  rw [List.getD_eq_getElem?_getD]
  cases e : ns[k]? with
  | none => show intBits 0 ≤ 2 ^ 20; decide
  | some n => exact h n (List.mem_of_getElem? e)
theorem same_new {H : Hp} {p : Addr} (h : H p = none) (o : HO) : Same H (upd H p o) := fun b u q => by rw [upd_ne (ne_of_none q h)]; exact q
theorem getD_at {ns : List Int} {k : Int} (h0 : 0 ≤ k) (h : k < (ns.length : Int)) : atI (ns.map V.int) k = some (.int (ns.getD k.toNat 0)) := by
  have hk : k.toNat < ns.length := by omega
  have ek : k = ((k.toNat : Nat) : Int) := by omega
  have q : atI (ns.map V.int) ((k.toNat : Nat) : Int) = some (.int (ns.getD k.toNat 0)) := atI_nat (by rw [List.getElem?_map, List.getElem?_eq_getElem hk, List.getD_eq_getElem?_getD, List.getElem?_eq_getElem hk] <;> rfl)
  rw [← ek] at q
  exact q
theorem getD_out {ns : List Int} {k : Int} (h : ¬ k < (ns.length : Int)) : ns.getD k.toNat 0 = 0 := by
  rw [List.getD_eq_getElem?_getD, List.getElem?_eq_none (by omega)] <;> rfl
end LW
namespace LW
open PySem PySem.Spec PyProof.Rows L2 PySem.Builtin.Int
theorem Low.slice {x : Str} (h : Low x) (lo hi : Option Int) : Low (Txt.slice x lo hi) := by
  unfold Txt.slice
  split
  · exact h
  · intro q hq
    have hq' : q ∈ (Builtin.Str.strSliceIndices lo hi 1 x.length).filterMap (x.cps[·]?) := by simpa using hq
    obtain ⟨i, _, e⟩ := List.mem_filterMap.mp hq'
    refine h q ?_
    have e' : x.cps.toList[i]? = some q := by simpa using e
    exact List.mem_of_getElem? e'
theorem strLenL (x : Str) : x.length = x.cps.toList.length := by simp [Str.length]
theorem slice_nn_len (x : Str) (a b : Nat) : (Txt.slice x (some (a : Int)) (some (b : Int))).length = min (b - a) (x.length - a) := by
  rw [strLenL, slice_nn, List.length_take, List.length_drop, ← strLenL]
theorem slice_to_len (x : Str) (b : Nat) : (Txt.slice x none (some (b : Int))).length = min b x.length := by
  rw [strLenL, slice_to, List.length_take, ← strLenL]
theorem slice_from_len (x : Str) (a : Nat) : (Txt.slice x (some (a : Int)) none).length = x.length - a := by
  rw [strLenL, slice_from, List.length_drop, ← strLenL]
theorem sameUpd {H H' : Hp} {D : Addr} {o : HO} (h : Same H H') (hD : H D = none) : Same H (upd H' D o) := fun b u q => by
  rw [upd_ne (ne_of_none q hD)]; exact h b u q
theorem ixN_nat {n : Nat} {k : Int} (h0 : 0 ≤ k) (h1 : k < (n : Int)) : ixN n k = some k.toNat := by
  unfold ixN
  rw [if_pos h0, if_pos h1]
theorem atI_strs {bs : List Str} {k : Int} (h0 : 0 ≤ k) (h1 : k < (bs.length : Int)) : ∃ b, b ∈ bs ∧ bs[k.toNat]? = some b ∧ atI (bs.map V.str) k = some (.str b) := by
  have hk : k.toNat < bs.length := by omega
  refine ⟨bs[k.toNat], List.getElem_mem hk, List.getElem?_eq_getElem hk, ?_⟩
  unfold atI
  rw [List.length_map, ixN_nat h0 h1]
  show (bs.map V.str)[k.toNat]? = _
  rw [List.getElem?_map, List.getElem?_eq_getElem hk] <;> rfl
theorem words_set {m : Nat} {bs : List Str} (h : ∀ b ∈ bs, Word m b) {j : Nat} {y : Str} (hy : Word m y) : ∀ b ∈ bs.set j y, Word m b := fun b hb => by
  rcases List.mem_or_eq_of_mem_set hb with z | z
  · exact h b z
  · rw [z]; exact hy
def spPiece : Sp := fun vs H Q _ => ∃ (x : Str) (c : Int) (m : Nat), vs = [.str x, .int c] ∧ Word m x ∧ m ≤ 10 ∧ ∀ y, Word m y → Q (.str y) H
def spJoined : Sp := fun vs H Q _ => ∃ (x z : Str) (m : Nat), vs = [.str x, .str z, .int m] ∧ Word m x ∧ Word m z ∧ m ≤ 10 ∧ ∀ y, Word m y → Q (.str y) H
def spBook (K : PySem.W.Frag) : Sp := fun vs H Q _ => ∃ (a : Addr) (ns : List Int) (st : Int) (n m : Nat), vs = [.ref a, .int st, .int n, .int m] ∧ SqL K H a (ns.map V.int) ∧ (∀ i ∈ ns, intBits i ≤ 2 ^ 20) ∧ 0 ≤ st ∧ 1 ≤ n ∧ n ≤ 9 ∧ 1 ≤ m ∧ m ≤ 10 ∧
  ∀ (p : Addr) (bs : List Str) (H' : Hp), H p = none → Same H H' → H' p = some (.lst (bs.map V.str)) → bs.length = n → (∀ b ∈ bs, Word m b) → Q (.ref p) H'
theorem gYes {i : Nat} {v : V} {σ : L2.St} {H : Hp} {P1 P2 : L2.St → Hp → Prop} (h : P1 (σ.set i (some v)) H) : gName i v σ H fun σ2 H2 => tYes σ2 H2 fun b H3 => if b = true then P1 σ2 H3 else P2 σ2 H3 := (iteT h : if true = true then P1 (σ.set i (some v)) H else P2 (σ.set i (some v)) H)
theorem turns_range {lo : Int} {n : Nat} {g : TG} {tt : TT} {te : TE} {D : Addr} {Fin : Hp → Prop} {σ : L2.St} {H : Hp} (Pv : Nat → L2.St → Hp → Prop) (h0 : Pv 0 σ H)
    (hs : ∀ i σ H, i < n → Pv i σ H → g (.int (lo + i)) σ H fun σ2 H2 => tt σ2 H2 fun b H3 => if b = true then te σ2 H3 fun y H4 => ∃ ys, H4 D = some (.lst ys) ∧ ys.length < sizeLine ∧ Pv (i + 1) σ2 (upd H4 D (.lst (ys ++ [y]))) else Pv (i + 1) σ2 H3)
    (hd : ∀ σ H, Pv n σ H → Fin H) : tTurns (Itr lo n) g tt te D Fin σ H := by
  refine ⟨fun i m σ H => m = n - i ∧ i ≤ n ∧ Pv i σ H, ⟨n, by simp, Nat.zero_le _, h0⟩, ?_⟩
  rintro i m σ H ⟨rfl, hi, p⟩
  by_cases hlt : i < n
  · refine .inr ⟨hlt, Pv (i + 1), fun σ' H' p' => ⟨n - (i + 1), by omega, rfl, hlt, p'⟩, fun x H' y => ?_⟩
    obtain ⟨e, y⟩ := y
    subst e y
    exact hs i σ _ hlt p
  · have e : i = n := by omega
    subst e
    exact .inl ⟨Nat.le_refl _, hd σ H p⟩
theorem turns_list {K : PySem.W.Frag} {a : Addr} {xs : List V} {g : TG} {tt : TT} {te : TE} {D : Addr} {Fin : Hp → Prop} {σ : L2.St} {H : Hp} (Pv : Nat → L2.St → Hp → Prop) (h0 : Pv 0 σ H) (hl : ∀ i σ H, i ≤ xs.length → Pv i σ H → SqL K H a xs)
    (hs : ∀ i x σ H, xs[i]? = some x → Pv i σ H → g x σ H fun σ2 H2 => tt σ2 H2 fun b H3 => if b = true then te σ2 H3 fun y H4 => ∃ ys, H4 D = some (.lst ys) ∧ ys.length < sizeLine ∧ Pv (i + 1) σ2 (upd H4 D (.lst (ys ++ [y]))) else Pv (i + 1) σ2 H3)
    (hd : ∀ σ H, Pv xs.length σ H → Fin H) : tTurns (Itl K a) g tt te D Fin σ H := by
  refine ⟨fun i m σ H => m = xs.length - i ∧ i ≤ xs.length ∧ Pv i σ H, ⟨xs.length, by simp, Nat.zero_le _, h0⟩, ?_⟩
  rintro i m σ H ⟨rfl, hi, p⟩
  have q := hl i σ H hi p
  by_cases hlt : i < xs.length
  · refine .inr ⟨⟨xs, xs[i], q, by simp [hlt]⟩, Pv (i + 1), fun σ' H' p' => ⟨xs.length - (i + 1), by omega, rfl, hlt, p'⟩, fun x H' y => ?_⟩
    obtain ⟨e, y⟩ := y
    subst e
    exact hs i x σ _ (y xs q) p
  · have e : i = xs.length := by omega
    subst e
    exact .inl ⟨⟨xs, q, Nat.le_refl _⟩, hd σ H p⟩
theorem turns_str {x : Str} {g : TG} {tt : TT} {te : TE} {D : Addr} {Fin : Hp → Prop} {σ : L2.St} {H : Hp} (Pv : Nat → L2.St → Hp → Prop) (h0 : Pv 0 σ H)
    (hs : ∀ i c σ H, x.cps[i]? = some c → Pv i σ H → g (.str ⟨#[c]⟩) σ H fun σ2 H2 => tt σ2 H2 fun b H3 => if b = true then te σ2 H3 fun y H4 => ∃ ys, H4 D = some (.lst ys) ∧ ys.length < sizeLine ∧ Pv (i + 1) σ2 (upd H4 D (.lst (ys ++ [y]))) else Pv (i + 1) σ2 H3)
    (hd : ∀ σ H, Pv x.length σ H → Fin H) : tTurns (Itx x) g tt te D Fin σ H := by
  refine ⟨fun i m σ H => m = x.length - i ∧ i ≤ x.length ∧ Pv i σ H, ⟨x.length, by simp, Nat.zero_le _, h0⟩, ?_⟩
  rintro i m σ H ⟨rfl, hi, p⟩
  by_cases hlt : i < x.length
  · refine .inr ⟨hlt, Pv (i + 1), fun σ' H' p' => ⟨x.length - (i + 1), by omega, rfl, hlt, p'⟩, fun v H' y => ?_⟩
    obtain ⟨e, c, hc, y⟩ := y
    subst e y
    exact hs i c σ _ hc p
  · have e : i = x.length := by omega
    subst e
    exact .inl ⟨rfl, hd σ H p⟩
end LW
namespace LW
open PySem PySem.Spec PyProof.Rows L2 PySem.Builtin.Int
def lowB (c : Nat) : Bool := decide (97 ≤ c) && decide (c ≤ 122)
def isWordB (x : Str) : Bool := (decide (1 ≤ (x.length : Int)) && decide ((x.length : Int) ≤ 10)) && x.cps.toList.all lowB
theorem Word.isB {x : Str} (h : Word 10 x) : isWordB x = true := by
  unfold isWordB
  have h1 := h.pos
  have h2 := h.le
  rw [decide_eq_true (show (1 : Int) ≤ (x.length : Int) by omega), decide_eq_true (show (x.length : Int) ≤ 10 by omega)]
  refine List.all_eq_true.mpr fun c hc => ?_
  obtain ⟨q1, q2⟩ := h.low c hc
  unfold lowB
  rw [decide_eq_true q1, decide_eq_true q2]
  rfl
def spSmall : Sp := fun vs H Q _ => ∃ c : Nat, vs = [.str ⟨#[c]⟩] ∧ Q (.bl (lowB c)) H
def spIsWord : Sp := fun vs H Q _ => ∃ x : Str, vs = [.str x] ∧ x.length ≤ 1000 ∧ ∀ H', Same H H' → Q (.bl (isWordB x)) H'
structure Good (bs : List Str) : Prop where
  pos : 1 ≤ bs.length
  le : bs.length ≤ 6
  words : ∀ b ∈ bs, Word 10 b
def spCheck (K : PySem.W.Frag) : Sp := fun vs H Q _ => ∃ (p : Addr) (bs : List Str), vs = [.ref p] ∧ SqL K H p (bs.map V.str) ∧ Good bs ∧ ∀ H', Same H H' → Q .non H'
theorem code_a : (Str.ofString "a").cps.toList = [97] := by decide +kernel
theorem code_z : (Str.ofString "z").cps.toList = [122] := by decide +kernel
theorem le_one (a b : Nat) : (!decide (([b] : List Nat) < [a])) = decide (a ≤ b) := by
  have e : (([b] : List Nat) < [a]) ↔ b < a := by
    constructor
    · intro h
      cases h with
      | rel h => exact h
      | cons h => cases h
    · intro h; exact List.Lex.rel h
  rw [show decide (([b] : List Nat) < [a]) = decide (b < a) from decide_eq_decide.mpr e]
  by_cases h : b < a
  · rw [decide_eq_true h, decide_eq_false (by omega)]; rfl
  · rw [decide_eq_false h, decide_eq_true (by omega)]; rfl
def likeB (bs : List Str) (k : Nat) : Bool := inV ((bs[k]?).elim V.non V.str) (cutV (bs.map V.str) none (some (k : Int)))
def inS (b o : Str) : Bool := !(Builtin.Str.occurrences o b 0 o.length 1).isEmpty
def holdsB (b o : Str) : Bool := (!decide (V.str b = V.str o)) && inS b o
def heldB (bs : List Str) (k : Nat) : Bool := bs.any fun o => holdsB ((bs[k]?).getD ⟨#[]⟩) o
def needB (bs : List Str) (k : Nat) : Bool := !likeB bs k && !heldB bs k
def keptF (bs : List Str) : List Int := ((List.range bs.length).filter (needB bs)).map fun (k : Nat) => (k : Int)
def spAt (K : PySem.W.Frag) (r : List Str → Nat → Bool) : Sp := fun vs H Q _ => ∃ (p : Addr) (bs : List Str) (k : Nat), vs = [.ref p, .int k] ∧ SqL K H p (bs.map V.str) ∧ k < bs.length ∧ bs.length ≤ 9 ∧ ∀ H', Same H H' → Q (.bl (r bs k)) H'
def spNew (K : PySem.W.Frag) (C : List Str → Prop) (r : List Str → List Int) : Sp := fun vs H Q _ => ∃ (p : Addr) (bs : List Str), vs = [.ref p] ∧ SqL K H p (bs.map V.str) ∧ C bs ∧ bs.length ≤ 9 ∧ ∀ (l : Addr) (H' : Hp), H l = none → Same H H' → H' l = some (.lst ((r bs).map V.int)) → Q (.ref l) H'
def spNums (K : PySem.W.Frag) : Sp := fun vs H Q _ => ∃ (p r : Addr) (ns : List Int), vs = [.ref p, .ref r] ∧ H p = some (.lst (ns.map V.int)) ∧ SqL K H r (ns.map V.int) ∧ ns.length ≤ 1000 ∧ Q (.bl true) H
theorem take_snoc {α : Type} {l : List α} {i : Nat} {x : α} (h : l[i]? = some x) : l.take (i + 1) = l.take i ++ [x] := by
  rw [List.take_add_one, h] <;> rfl
end LW
namespace LW
open PySem PySem.Spec PyProof.Rows L2
section
variable {X : Cx}
end
end LW
namespace LW
open PySem PySem.Spec PyProof.Rows L2 PySem.Builtin.Int
def layStep (st : Str × Str) (x : Str) : Str × Str := (st.1 ++ Txt.slice x (some ((ovF st.2 x : Nat) : Int)) none, x)
def layFrom (st : Str × Str) (xs : List Str) : Str := (xs.foldl layStep st).1
def laidW : List Str → Str
  | [] => Str.ofString ""
  | x :: r => layFrom (x, x) r
def ordWords (bs : List Str) (os : List Int) : List Str := os.map fun o => bs.getD o.toNat ⟨#[]⟩
structure Order (n : Nat) (os : List Int) : Prop where
  ne : os ≠ []
  nd : os.Nodup
  rng : ∀ o ∈ os, 0 ≤ o ∧ o < (n : Int)
  le : os.length ≤ 9
def spOrd (K : PySem.W.Frag) : Sp := fun vs H Q _ => ∃ (p r : Addr) (bs : List Str) (os : List Int), vs = [.ref p, .ref r] ∧ SqL K H p (bs.map V.str) ∧ SqL K H r (os.map V.int) ∧ Order bs.length os ∧ ∀ H', Same H H' → Q .non H'
def spLaid (K : PySem.W.Frag) (C : List Str → Prop) : Sp := fun vs H Q _ => ∃ (p r : Addr) (bs : List Str) (os : List Int), vs = [.ref p, .ref r] ∧ SqL K H p (bs.map V.str) ∧ SqL K H r (os.map V.int) ∧ C bs ∧ (∀ b ∈ bs, Word 10 b) ∧ Order bs.length os ∧ ∀ H', Same H H' → Q (.str (laidW (ordWords bs os))) H'
end LW
namespace LW
open PySem PySem.Spec PyProof.Rows L2 PySem.Builtin.Int
def startsB (t w : Str) (i : Nat) : Bool := decide (i + w.length ≤ t.length) && Builtin.Str.subAt t w i
def placesF (w t : Str) : List Int := ((List.range t.length).filter (startsB t w)).map fun (k : Nat) => (k : Int)
def alikeB (t w : Str) (i k : Nat) : Bool := decide (V.str ⟨#[t.cps.toList.getD (i + k) 0]⟩ = V.str ⟨#[w.cps.toList.getD k 0]⟩)
def lstartsB (t w : Str) (i : Nat) : Bool := decide (V.int (((((List.range w.length).filter (alikeB t w i)).map fun (k : Nat) => (k : Int)).map V.int).length : Nat) = V.int (w.length : Nat))
theorem sub_iff {t w : Str} {i : Nat} : Builtin.Str.subAt t w i = true ↔ (t.cps.toList.drop i).take w.length = w.cps.toList := by
  unfold Builtin.Str.subAt
  rw [beq_iff_eq]
  constructor
  · intro h
    have h' := congrArg Array.toList h
    rw [Array.toList_extract, List.extract_eq_drop_take] at h'
    simpa using h'
  · intro h
    have : (t.cps.extract i (i + w.length)).toList = w.cps.toList := by
      rw [Array.toList_extract, List.extract_eq_drop_take]
      simpa using h
    cases e : t.cps.extract i (i + w.length) with
    | mk l =>
      cases e2 : w.cps with
      | mk m =>
        rw [e, e2] at this
        simpa using this
def spPl (K : PySem.W.Frag) : Sp := fun vs H Q _ => ∃ (w t : Str), vs = [.str w, .str t] ∧ 1 ≤ w.length ∧ w.length ≤ 900 ∧ t.length ≤ 900 ∧ ∀ (l : Addr) (H' : Hp), H l = none → Same H H' → H' l = some (.lst ((placesF w t).map V.int)) → Q (.ref l) H'
structure Rows (H H' : Hp) (D : Addr) (t : Str) (bs : List Str) (ls : List Addr) : Prop where
  len : ls.length = bs.length
  nd : ls.Nodup
  out : D ∉ ls
  new : ∀ l ∈ ls, H l = none
  rows : ∀ (j : Nat) b l, bs[j]? = some b → ls[j]? = some l → H' l = some (.lst ((placesF b t).map V.int))
def spPlaces (K : PySem.W.Frag) : Sp := fun vs H Q _ => ∃ (p : Addr) (bs : List Str) (t : Str), vs = [.ref p, .str t] ∧ SqL K H p (bs.map V.str) ∧ Good bs ∧ t.length ≤ 900 ∧
  ∀ (D : Addr) (ls : List Addr) (H' : Hp), H D = none → Same H H' → H' D = some (.lst (ls.map V.ref)) → Rows H H' D t bs ls → Q (.ref D) H'
theorem at_strs {bs : List Str} {j : Nat} {v : V} (h : (bs.map V.str)[j]? = some v) : ∃ b, bs[j]? = some b ∧ v = .str b := by
  rw [List.getElem?_map] at h
  cases e : bs[j]? with
  | none => rw [e] at h; cases h
  | some o => rw [e] at h; exact ⟨o, rfl, (Option.some.inj h).symm⟩
section
variable {X : Cx} {K : PySem.W.Frag} {o e : Expr} {es : List Expr} {to : TE} {t : TA} {name : Str} {apos cpos : Pos} {T id : String} {r : V → List V → Hp → VK → Prop}
theorem pe_bmK (h : X.K = K) (pa : PlainAttrs T) (slot : Slot T name id) (hty : typeOf (.builtin id) = pure (.type "method_descriptor")) (hm : MtR X id r) (ho : PE X o to) (ha : PA X (e :: es) t)
    (hbase : attributeBase o name X.env (eval o X.env) = eval o X.env := by rfl)
    (hfew : ((backTo cpos (starEach (e :: es) X.env)).all (fun x => !x.1) && (backToKw cpos (keywordEach [] X.env)).all (fun x => x.1.isSome)
      && decide ((e :: es).length + ([] : List Keyword).length + (if ([] : List Keyword).isEmpty then 0 else 1) < 30)) = true := by rfl)
    (hline : (apos.endLine == cpos.line) = true := by rfl) (hs : starEach (e :: es) X.env = (false, eval e X.env) :: starEach es X.env := by rfl) (hplain : (backTo cpos (starEach es X.env)).any (·.1) = false := by rfl) :
    PE X (.Call (.Attribute o name apos) (e :: es) [] cpos) (tBM K T r to t) := h ▸ pe_bm pa slot hty hm ho ha hbase hfew hline hs hplain
end
end LW
namespace LW
open PySem PySem.Spec PyProof.Rows L2 PySem.Builtin.Int
def spSize (K : PySem.W.Frag) : Sp := fun vs H Q _ => ∃ (p : Addr) (bs : List Str), vs = [.ref p] ∧ SqL K H p (bs.map V.str) ∧ Q (.bl (decide (1 ≤ (bs.length : Int)) && decide ((bs.length : Int) ≤ 6))) H
def beyS (a b : Str) : Str := Txt.slice b (some ((ovF a b : Nat) : Int)) none
def spBeyond : Sp := fun vs H Q _ => ∃ (a b : Str), vs = [.str a, .str b] ∧ a.length ≤ 1000 ∧ b.length ≤ 1000 ∧ ∀ H', Same H H' → Q (.str (beyS a b)) H'
end LW
namespace LW
open PySem
theorem len1 : ∀ {us : List Value}, us.length = 1 → ∃ a, us = [a]
  | [a], _ => ⟨a, rfl⟩
theorem len2 {us : List Value} (h : us.length = 2) : ∃ a b, us = [a, b] := by
  cases us with
  | nil => cases h
  | cons a us => obtain ⟨b, rfl⟩ := len1 (Nat.succ.inj h); exact ⟨a, b, rfl⟩
theorem len3 {us : List Value} (h : us.length = 3) : ∃ a b c, us = [a, b, c] := by
  cases us with
  | nil => cases h
  | cons a us => obtain ⟨b, c, rfl⟩ := len2 (Nat.succ.inj h); exact ⟨a, b, c, rfl⟩
theorem len4 {us : List Value} (h : us.length = 4) : ∃ a b c d, us = [a, b, c, d] := by
  cases us with
  | nil => cases h
  | cons a us => obtain ⟨b, c, d, rfl⟩ := len3 (Nat.succ.inj h); exact ⟨a, b, c, d, rfl⟩
end LW
namespace LW
abbrev Ls := List Nat
def downL (p : Nat → Bool) : Nat → Nat
  | 0 => 0
  | n + 1 => if p (n + 1) = true then n + 1 else downL p n
def ovL (a b : Ls) : Nat := downL (fun k => decide (b.take k <:+ a)) (min a.length b.length - 1)
def layL (st : Ls × Ls) (x : Ls) : Ls × Ls := (st.1 ++ x.drop (ovL st.2 x), x)
def laidL : List Ls → Ls
  | [] => []
  | x :: r => (r.foldl layL (x, x)).1
def At (t : Ls) (p : Nat) (x : Ls) : Prop := p + x.length ≤ t.length ∧ (t.drop p).take x.length = x
theorem at_of_infix {t x : Ls} (h : x <:+: t) : ∃ p, At t p x := by
  obtain ⟨u, v, e⟩ := h
  refine ⟨u.length, ?_, ?_⟩
  · rw [← e]; simp only [List.length_append]; omega
  · rw [← e]; simp [List.append_assoc]
theorem infix_of_at {t x : Ls} {p : Nat} (h : At t p x) : x <:+: t := by
  refine ⟨t.take p, (t.drop p).drop x.length, ?_⟩
  have e : x ++ (t.drop p).drop x.length = t.drop p := by
    have := List.take_append_drop x.length (t.drop p)
    rw [h.2] at this
    exact this
  rw [List.append_assoc, e, List.take_append_drop]
def seg (t : Ls) (i j : Nat) : Ls := (t.drop i).take (j - i)
inductive Chain (t : Ls) : Nat → Ls → List (Nat × Ls) → Prop where
  | nil {p x} : Chain t p x []
  | cons {p x q y r} (hp : p < q) (he : p + x.length < q + y.length) (hy : At t q y) (hr : Chain t q y r) : Chain t p x ((q, y) :: r)
def lastEnd : Nat → Ls → List (Nat × Ls) → Nat
  | p, x, [] => p + x.length
  | _, _, (q, y) :: r => lastEnd q y r
def Free {α : Type} (g : α → Ls) (os : List α) : Prop := os.Pairwise fun a b => ¬ g a <:+: g b ∧ ¬ g b <:+: g a
end LW
namespace LW
def wd (bs : List Ls) (k : Nat) : Ls := bs.getD k []
structure Need (bs : List Ls) (k : Nat) : Prop where
  lt : k < bs.length
  first : ∀ i, i < k → wd bs i ≠ wd bs k
  top : ∀ o ∈ bs, o ≠ wd bs k → ¬ wd bs k <:+: o
structure KeptIs (bs : List Ls) (ks : List Nat) : Prop where
  nd : ks.Nodup
  iff : ∀ k, k ∈ ks ↔ Need bs k
def HoldsAll (bs : List Ls) (t : Ls) : Prop := ∀ b ∈ bs, b <:+: t
def Shortest (bs : List Ls) (t : Ls) : Prop := HoldsAll bs t ∧ ∀ u, HoldsAll bs u → t.length ≤ u.length
end LW
namespace LW
def takes (a b : Ls) : Nat := b.length - ovL a b
def cost {α : Type} (g : α → Ls) : α → List α → Nat
  | _, [] => 0
  | a, b :: r => takes (g a) (g b) + cost g b r
structure Height {α : Type} (g : α → Ls) (left : List α) (a : α) (h : Nat) : Prop where
  some : ∃ os : List α, os.Perm left ∧ cost g a os = h
  min : ∀ os : List α, os.Perm left → h ≤ cost g a os
def moreRows {α : Type} [BEq α] (ns : List α) (rows : List (List α)) : List (List α) := rows.flatMap fun row => (ns.filter fun n => !row.contains n).map fun n => row ++ [n]
def rowsF {α : Type} [BEq α] (ns : List α) : Nat → List (List α)
  | 0 => [[]]
  | k + 1 => moreRows ns (rowsF ns k)
def minN : List Nat → Nat
  | [] => 0
  | [x] => x
  | x :: y :: r => min x (minN (y :: r))
end LW
namespace LW
open PySem PySem.Spec PyProof.Rows L2
section
variable {prog : Program} {w : World} {A : Around} {E : Value → Shared → Prop} {s : Shared} {κ : KD} {kd : SortKind}
end
section
variable {X : Cx}
theorem strs_are {ss : List Str} : ∀ {us : List Value}, Vals (ss.map V.str) us → StrsAre us ss := by
  induction ss with
  | nil => intro us r; rw [List.map_nil] at r; cases r; exact .nil
  | cons x ss ih =>
    intro us r
    rw [List.map_cons] at r
    cases r with
    | cons r1 r2 => obtain ⟨t, rfl⟩ := r1; exact .cons _ _ (ih r2)
def leS (a b : Str) : Prop := ¬ b.cps.toList < a.cps.toList
end
end LW
namespace LW
open PySem PySem.Spec PyProof.Rows L2
section
variable {X : Cx}
theorem mt_join : MtR X "str.join" (fun x vs H Q => ∃ (z : Str) (p : Addr) (ss : List Str), x = .str z ∧ vs = [.ref p] ∧ SqL X.K H p (ss.map V.str) ∧ (ss.map (·.length)).sum + ss.length * z.length ≤ 16777216 ∧ Q (.str (Txt.join z ss)) H) := by
  intro pins s σ H x xs v us Q I rx rs h
  obtain ⟨z, p, ss, rfl, rfl, hq, hl, q⟩ := h
  obtain ⟨t, rfl⟩ := rx
  obtain ⟨u, rfl, ru⟩ := vals1 rs
  cases ru
  obtain ⟨its, rv, pl, hz⟩ := I.list hq
  exact join_list pl.isList (by simpa using strs_are rv) hl fun t' k => ⟨.str _, H, I.tok _, ⟨t', rfl⟩, q⟩
end
end LW
namespace LW
open PySem PySem.Spec PyProof.Rows L2 PySem.Builtin.Int
def cs (x : Str) : Ls := x.cps.toList
theorem cs_len (x : Str) : (cs x).length = x.length := (strLenL x).symm
theorem cs_app (x y : Str) : cs (x ++ y) = cs x ++ cs y := by
  show (x.cps ++ y.cps).toList = _
  simp [cs]
theorem sub_at {t w : Str} {i : Nat} : (i + w.length ≤ t.length ∧ Builtin.Str.subAt t w i = true) ↔ At (cs t) i (cs w) := by
  rw [sub_iff]
  unfold At
  rw [cs_len, cs_len]
  exact Iff.rfl
theorem inS_iff {b o : Str} : inS b o = true ↔ cs b <:+: cs o := by
  unfold inS
  rw [PySem.StrLaws.found_iff]
  constructor
  · rintro ⟨i, h1, h2⟩
    exact infix_of_at (sub_at.mp ⟨h1, h2⟩)
  · intro h
    obtain ⟨i, hi⟩ := at_of_infix h
    exact ⟨i, sub_at.mpr hi⟩
def wordAt (bs : List Str) (k : Nat) : Str := bs.getD k ⟨#[]⟩
def keptN (bs : List Str) : List Nat := (List.range bs.length).filter (needB bs)
end LW
namespace LW
open PySem PySem.Spec PyProof.Rows L2 PySem.Builtin.Int
def heldIn (bs : List Str) (t : Str) : Bool := decide (((bs.filter fun b => inS b t).length : Int) = (bs.length : Int))
def spHolds (K : PySem.W.Frag) : Sp := fun vs H Q _ => ∃ (t : Str) (p : Addr) (bs : List Str), vs = [.str t, .ref p] ∧ SqL K H p (bs.map V.str) ∧ bs.length ≤ 1000 ∧ ∀ H', Same H H' → Q (.bl (heldIn bs t)) H'
def textsF (ls : List Str) : Nat → List Str
  | 0 => [Str.ofString ""]
  | n + 1 => (textsF ls n).flatMap fun r => ls.map fun l => r ++ l
def spTexts (K : PySem.W.Frag) : Sp := fun vs H Q _ => ∃ (p : Addr) (ls : List Str) (n : Nat), vs = [.ref p, .int n] ∧ SqL K H p (ls.map V.str) ∧ (∀ l ∈ ls, l.length = 1) ∧ ls.length ≤ 100 ∧ n ≤ 100 ∧ ∀ (l : Addr) (ts : List Str) (H' : Hp), H l = none → Same H H' → H' l = some (.lst (ts.map V.str)) → (ts = [] ∨ ts = textsF ls n) → ts.length ≤ 600 → Q (.ref l) H'
theorem cs_join (ss : List Str) : cs (Txt.join (Str.ofString "") ss) = (ss.map cs).flatten := by
  show cs (Builtin.Str.glued (Str.ofString "") ss) = _
  rw [StrLaws.glued_eq_join]
  have e0 : cs (Str.ofString "") = [] := by decide +kernel
  have gen : ∀ ss : List Str, cs (PySem.Str.join (Str.ofString "") ss) = (ss.map cs).flatten := by
    intro ss
    induction ss with
    | nil => rfl
    | cons x r ih =>
      cases r with
      | nil => simp [PySem.Str.join]
      | cons y r =>
        show cs (x ++ Str.ofString "" ++ PySem.Str.join (Str.ofString "") (y :: r)) = _
        rw [cs_app, cs_app, e0, ih, List.append_nil]
        simp
  exact gen ss
theorem sum_len {bs : List Str} {m : Nat} (h : ∀ b ∈ bs, b.length ≤ m) : (bs.map (·.length)).sum ≤ m * bs.length := by
  induction bs with
  | nil => exact Nat.zero_le _
  | cons x r ih =>
    have h1 := ih fun b hb => h b (List.mem_cons_of_mem _ hb)
    have h2 := h x List.mem_cons_self
    rw [List.map_cons, List.sum_cons, List.length_cons, Nat.mul_succ]
    have h2' : x.length ≤ m := h2
    show x.length + _ ≤ _
    omega
theorem join_len (bs : List Str) : (Txt.join (Str.ofString "") bs).cps.size = (bs.map (·.length)).sum := by
  have e : (Txt.join (Str.ofString "") bs).cps.size = (cs (Txt.join (Str.ofString "") bs)).length := rfl
  rw [e, cs_join, List.length_flatten, List.map_map]
  congr 1
end LW
namespace LW
open PySem PySem.Spec PyProof.Rows L2
def ErrAt (h : Heap) (e D : Addr) : Prop := ∃ o vs, h.get? e = some o ∧ o.cls = .ref D ∧ o.data = .fields vs
structure ErrCls (K : PySem.W.Frag) (D : Addr) : Prop where
  is : (PySem.W.clsIn K D).isSome = true
  ga : PySem.W.findIn K (.ref D) "__getattribute__" = some (some (.builtin "BaseException.__getattribute__"))
  hk : PySem.W.findIn K (.ref D) "__getattr__" = some none
  cl : PySem.W.findIn K (.ref D) "__class__" = some (some (.builtin "object.__class__"))
  gt : PySem.W.specialIn K (.builtin "object.__class__") "__get__" = some (some (.builtin "getset_descriptor.__get__"))
  tk : PySem.W.takesIn K (.builtin "object.__class__") = some true
  ob : PySem.W.mroIn K D (.type "object") = some true
  bx : PySem.W.mroIn K D (.type "BaseException") = some true
theorem ErrAt.ty {M : Model} {h : Heap} {e D : Addr} (x : ErrAt h e D) : PySem.W.Looks M h (typeOf (.ref e)) (.ref D) := by
  obtain ⟨o, vs, e1, c, d⟩ := x
  rw [← c]
  exact (PySem.W.Looks.ld e1).andThen .now
section
variable {prog : Program} {w : World} {A : Around} {E : Value → Shared → Prop} {s : Shared} {K : PySem.W.Frag} {e D : Addr}
open PySem.Builtin.ObjectAttr PySem.W in
theorem err_find (X : K.In s.heap) (C : ErrCls K D) : Looks (model prog w) s.heap (find (.ref e) (.ref D) "__class__") (.bind (.builtin "getset_descriptor.__get__") (.builtin "object.__class__")) := by
  have a := looks_findIn (M := model prog w) X C.cl
  have b : Looks (model prog w) s.heap (getOf (some (.builtin "object.__class__"))) (some (.builtin "getset_descriptor.__get__")) := looks_specialIn X C.gt
  have c := looks_takesIn (M := model prog w) X C.tk
  have d : Looks (model prog w) s.heap (dataDescriptor? (some (.builtin "object.__class__")) (some (.builtin "getset_descriptor.__get__"))) (some (.builtin "getset_descriptor.__get__", .builtin "object.__class__")) := c.andThen .now
  exact a.andThen (b.andThen (d.andThen (Looks.tag .now)))
open PySem.W PySem.Builtin PySem.Builtin.ObjectAttr PySem.Builtin.Getset_descriptor in
theorem err_get {R : Result → Shared → Prop} {tp : Value} (X : K.In s.heap) (x : ErrAt s.heap e D) (C : ErrCls K D) (h : R (.ok (.ret (.ref D))) s) :
    codeAny (model prog w) A (.call (.builtin "getset_descriptor.__get__") ⟨[.builtin "object.__class__", .ref e, tp], []⟩) R s := by
  have t1 := x.ty (M := model prog w)
  have t2 := looks_mroIn (M := model prog w) X C.ob
  obtain ⟨hp, gs, dr, tk, os⟩ := s
  refine codeAny_call_builtin KF.slot_gs.plain KF.entry_gs (KF.slot_gs.check _ _ _ _ _ _ _ _ KF.type_class (KF.args_gs _ _ _) ?_)
  unfold Builtin.«getset_descriptor.__get__» descrGet
  rw [dga_obj]
  refine wpAny_bind (wpAny_pure ?_)
  unfold descrGetter descrCheckInstance descrNameAndClass isInstance
  simp only [KF.owner_class]
  repeat lk
  refine ⟨Code.quiet_builtin _ (by decide +kernel), codeAny_builtin KF.entry_class ?_⟩
  unfold Builtin.«object.__class__» shownTypeOf
  repeat lk
  exact h
open PySem.W PySem.Builtin PySem.Builtin.ObjectAttr in
theorem err_entry {Q : Fin → Shared → Prop} {tk : Tok} (X : K.In s.heap) (x : ErrAt s.heap e D) (C : ErrCls K D) (h : Q (.done (.ret (.ref D))) s) :
    wpAny (model prog w) A (Builtin.«object.__getattribute__» ⟨[.ref e, .str "__class__" tk], []⟩) Q E s := by
  have t1 := x.ty (M := model prog w)
  have t4 := err_find (prog := prog) (w := w) (e := e) X C
  have g := err_get (prog := prog) (w := w) (tp := .ref D) (A := A) (R := fun r s' => r = .ok (.ret (.ref D)) ∧ s' = s) X x C ⟨rfl, rfl⟩
  obtain ⟨hp, gs, dr, tt, os⟩ := s
  refine wpAny_bind (wpAny_pure (wpAny_bind (wpAny_pure (wpAny_bind (t1.at (wpAny_bind (t4.at ?_)))))))
  show wpAny _ _ (bindTo _ _ _ _) _ _ _
  unfold bindTo
  refine wpAny_bind (wpAny_holding (wpAny_call (codeAny_mono g fun r s' z => ?_)))
  obtain ⟨rfl, rfl⟩ := z
  exact wpAny_pure h
open PySem.W PySem.Builtin in
theorem err_check {M : Model} {Q : Unit → Shared → Prop} {nv : Value} (X : K.In s.heap) (x : ErrAt s.heap e D) (C : ErrCls K D) (h : Q () s) :
    wpAny M A (checkBuiltinCall "BaseException.__getattribute__" ⟨[.ref e, nv], []⟩) Q E s := by
  have t1 := x.ty (M := M)
  have t5 := looks_mroIn (M := M) X C.bx
  obtain ⟨hp, gs, dr, tt, os⟩ := s
  have k1 : builtinKind "BaseException.__getattribute__" = some .slot := by decide +kernel
  have k2 : splitId "BaseException.__getattribute__" = some ("BaseException", "__getattribute__") := by decide +kernel
  have k3 := F.args_bexc_ga (.ref e) nv
  simp only [checkBuiltinCall, k1, k2]
  refine wpAny_bind ?_
  unfold isInstance
  refine wpAny_bind (t1.at (t5.at ?_))
  rw [if_neg (by decide)]
  repeat (first | assumption | wp_step)
open PySem.W in
theorem err_attr {Q : Option Value → Shared → Prop} (X : K.In s.heap) (x : ErrAt s.heap e D) (C : ErrCls K D) (h : Q (some (.ref D)) { s with toks := s.toks + 1 }) :
    wpAny (model prog w) A (getAttr? (.ref e) "__class__") Q E s := by
  obtain ⟨hp, gs, dr, tk, os⟩ := s
  have t1 := x.ty (M := model prog w)
  have t2 := looks_findIn (M := model prog w) X C.ga
  have t3 := looks_findIn (M := model prog w) X C.hk
  have nb : (Value.builtin "BaseException.__getattribute__" == Value.builtin "object.__getattribute__") = false := by decide +kernel
  unfold getAttr? getAttrBy? getAttrBy
  refine wpAny_bind (wpAny_mkText (wpAny_bind (wpAny_attempt (wpAny_holding (wpAny_bind (t1.at (wpAny_bind (t2.at ?_))))))))
  dsimp only
  rw [nb, Bool.and_false, if_neg Bool.false_ne_true]
  unfold getAttrByItsOwn hookBefore
  rw [if_pos (show onTheHeap (Value.ref D) = true from rfl)]
  refine wpAny_bind (t3.at ?_)
  refine wpAny_bind (wpAny_attempt (wpAny_holding ?_))
  unfold callGetattribute
  rw [Bool.false_and, if_neg Bool.false_ne_true]
  unfold boundAndCalled
  refine wpAny_bind (wpAny_of_eq (F.attr_ValueError.ga.bind (.ref e)) ?_)
  refine wpAny_call (codeAny_call_builtin F.attr_ValueError.ga.plain F.entry_bexc_ga (err_check X x C ?_))
  refine err_entry X x C ?_
  exact wpAny_pure (wpAny_pure h)
theorem kitx_err (C : ErrCls K D) : PySem.W.KitX K (.ref e) (.ref D) (fun h => ErrAt h e D) where
  ty := fun _ _ _ x => x.ty
  it := fun _ h X _ => by
    have q := C.is
    unfold PySem.W.clsIn at q
    split at q
    · rename_i ho
      intro A' Q' E' s' k z
      unfold isType loadHead
      exact wpAny_bind (wpAny_loadPart (k _ _ (X _ _ ho)) (wpAny_pure z))
    · cases q
  ne := fun h tp dd its n sl X htp => by
    have q := C.is
    refine Bool.eq_false_iff.mpr fun z => ?_
    obtain rfl : D = tp := Value.ref.inj (beq_iff_eq.mp z)
    unfold PySem.W.clsIn at q
    split at q
    · rename_i ho
      have y := (X _ _ ho).symm.trans htp
      cases y
    · cases q
  ca := fun X x k => err_attr X x C k
end
end LW
namespace LW
open PySem PySem.Spec PyProof.Rows L2
theorem obj_there {P : Program} {w : World} {H : Hp} {h : Heap} {a : Addr} {o : HO} (x : ObjOk P w H h a o) : ∃ u, h.get? a = some u := by
  cases q : h.get? a with
  | some u => exact ⟨u, rfl⟩
  | none =>
    exfalso
    cases o with
      | lst xs => obtain ⟨_, _, _, _, e⟩ := x; rw [q] at e; cases e
      | tup xs => obtain ⟨_, _, _, _, e, _⟩ := x; rw [q] at e; cases e
      | dK kvs => obtain ⟨_, _, _, _, o, _, _, e, _⟩ := x; rw [q] at e; cases e
      | dT kvs => obtain ⟨_, _, _, _, o, _, _, e, _⟩ := x; rw [q] at e; cases e
      | set S n => obtain ⟨o, _, _, _, e, _⟩ := x; rw [q] at e; cases e
      | ins C dx fs => obtain ⟨_, _, _, e, _⟩ := x; rw [q] at e; cases e
      | own y => obtain ⟨_, e⟩ := x; rw [q] at e; cases e
      | xd fs => obtain ⟨_, ⟨_, _, _, e, _⟩, _⟩ := x; rw [q] at e; cases e
      | rng lo hi => obtain ⟨_, _, _, e⟩ := x; rw [q] at e; cases e
      | frz ob u => obtain ⟨e, _⟩ := x; rw [q] at e; cases e
      | tbl ps => have e : h.get? a = some _ := x; rw [q] at e; cases e
      | met f y => have e : h.get? a = some _ := x; rw [q] at e; cases e
      | ext φ => obtain ⟨_, ⟨_, e⟩, _⟩ := x; rw [q] at e; cases e
structure Flown (P : Program) (w : World) (outer : List Env) (H : Hp) (s : Shared) (B : Heap) (H' : Hp) (s' : Shared) : Prop where
  os : s'.os = s.os
  bare : AllBare s'.gens
  kb : ∀ b o, s.heap.get? b = some o → H b = none → b ∉ frs outer → B.get? b = some o
  tb : ∀ b o, s.heap.get? b = some o → b ∉ frs outer → ∃ o', B.get? b = some o'
  un : Un (frs outer) [] H H' s.heap s'.heap
  hok : HOk P w H' B
def CXR (P : Program) (w : World) : CXT := fun outer H s E v s' => ∃ e D a0 B H', v = .ref e ∧ Heap.FlyingW B outer e (.ref D) a0 s'.heap ∧ Flown P w outer H s B H' s' ∧ E (.ref D) none H'
theorem Flown.free {P : Program} {w : World} {outer : List Env} {H : Hp} {s : Shared} {e : Addr} {B : Heap} {H' : Hp} {s' : Shared} (F : Flown P w outer H s B H' s') (fe : B.get? e = none) : H' e = none := by
  cases q : H' e with
  | none => rfl
  | some u =>
    obtain ⟨o, z⟩ := obj_there (F.hok e u q)
    rw [fe] at z; cases z
theorem Flown.un_of {P : Program} {w : World} {outer : List Env} {H : Hp} {s : Shared} {B base : Heap} {H' : Hp} {s' : Shared} (F : Flown P w outer H s B H' s') (fr : s.heap.FunFrames base outer) (ff : ∀ b ∈ frs outer, H b = none) {h : Heap} (k : B.StaysIn h) (u : s'.heap.UpToSlots h) :
    Un (frs outer) [] H H' s.heap h where
  keep := fun b o q n hb _ => k b o (F.kb b o q n hb)
  slot := fun b o q n hb hx => by
    obtain ⟨sl, z⟩ := F.un.slot b o q n hb hx
    obtain ⟨_, o', e1, d1⟩ := fr.mem hb
    rw [q] at e1; cases e1
    obtain ⟨sl', y⟩ := u b { o with slots := sl } z d1
    exact ⟨sl', y⟩
  free := F.un.free
  there := fun b o q hx => by
    by_cases hb : b ∈ frs outer
    · obtain ⟨_, o', e1, d1⟩ := fr.mem hb
      rw [q] at e1; cases e1
      obtain ⟨sl, z⟩ := F.un.slot b o q (ff b hb) hb hx
      obtain ⟨sl', y⟩ := u b { o with slots := sl } z d1
      exact ⟨_, y⟩
    · obtain ⟨o', z⟩ := F.tb b o q hb
      exact ⟨o', k b o' z⟩
  tups := F.un.tups
  frzs := F.un.frzs
  tbls := F.un.tbls
theorem Flown.on {P : Program} {w : World} {X : Cx} {pins : List (Addr × Obj)} {σ : L2.St} {H : Hp} {s : Shared} {B : Heap} {H' : Hp} {s' : Shared} {h : Heap} (I : Inv X pins σ H s) (hx : X.ex = []) (hs : X.stack = X.env :: X.outer)
    (F : Flown P w X.stack H s B H' s') (fl : B.StaysIn h) (u : s'.heap.UpToSlots h) : Flown P w X.outer X.H₀ X.s₀ B H' { s' with heap := h } := by
  have U := F.un_of I.stack I.stkFree fl u
  have nx : ∀ b, b ∉ X.ex := fun b z => by rw [hx] at z; cases z
  have nst : ∀ b o, X.s₀.heap.get? b = some o → b ∉ frs X.outer → b ∉ frs X.stack := fun b o q hb z => by
    rcases List.mem_cons.mp (I.stkSub b z) with z | z
    · exact absurd (Heap.lt_size q) (Nat.not_lt.mpr (z ▸ I.ok.above))
    · exact hb z
  have kb : ∀ b o, X.s₀.heap.get? b = some o → X.H₀ b = none → b ∉ frs X.outer → B.get? b = some o := fun b o q n hb =>
    F.kb b o (I.base.keep b o q n hb (nx b)) (I.base.free b o q n (nx b)) (nst b o q hb)
  have tb : ∀ b o, X.s₀.heap.get? b = some o → b ∉ frs X.outer → ∃ o', B.get? b = some o' := fun b o q hb => by
    obtain ⟨o', z⟩ := I.base.there b o q (nx b)
    exact F.tb b o' z (nst b o q hb)
  refine ⟨F.os.trans I.os, F.bare, kb, tb, ?_, F.hok⟩
  refine ⟨fun b o q n hb _ => fl b o (kb b o q n hb), fun b o q n hb _ => ?_, fun b o q n _ => ?_, fun b o q _ => ?_, fun b xs q => U.tups b xs (I.base.tups b xs q), fun b o xs q => U.frzs b o xs (I.base.frzs b o xs q), fun b ps q => ?_⟩
  · obtain ⟨sl, z⟩ := I.base.slot b o q n hb (nx b)
    have z1 : b ∈ frs X.stack := by rw [hs]; unfold frs; rw [List.filterMap_cons]; split <;> first | exact hb | exact List.mem_cons_of_mem _ hb
    obtain ⟨sl', y⟩ := U.slot b _ z (I.base.free b o q n (nx b)) z1 (by simp)
    exact ⟨sl', y⟩
  · obtain ⟨o', z⟩ := I.base.there b o q (nx b)
    exact U.free b o' z (I.base.free b o q n (nx b)) (by simp)
  · obtain ⟨o', z⟩ := I.base.there b o q (nx b)
    exact U.there b o' z (by simp)
  · obtain ⟨m1, e1⟩ := I.base.tbls b ps q
    obtain ⟨m2, e2⟩ := U.tbls b _ e1
    exact ⟨m1 ++ m2, by rw [e2, Array.append_assoc]⟩
section
variable {P : Program} {w : World} {K : PySem.W.Frag} {mg : Str → Option Value} {base : Heap} {N : List Str} {qual : Str} {scope : Scope} {f : Addr} {cd : Value} {A : Around} {outer : List Env} {s₀ : Shared} {H₀ : Hp} {E : XK}
theorem raiseR {pins : List (Addr × Obj)} {σ : L2.St} {H : Hp} {s : Shared} {e D : Addr} {vs : List Value} {h' : Heap} (I : Inv (cxOf (CXR P w) P w K mg base N qual scope f cd A outer s₀ H₀ E) pins σ H s) (x : Heap.MadeExcOf s.heap h' e (.ref D) vs) (q : E (.ref D) none H) :
    (cxOf (CXR P w) P w K mg base N qual scope f cd A outer s₀ H₀ E).xe (.ref e) { s with heap := h' } := by
  have fr : (cxOf (CXR P w) P w K mg base N qual scope f cd A outer s₀ H₀ E).A.frames = some (envOfC qual scope s₀.heap.objs.size f cd :: outer) := I.ok.frames
  let B := PySem.W.hideAll s.heap (frs (envOfC qual scope s₀.heap.objs.size f cd :: outer))
  have kB : B.StaysIn s.heap := fun b o z => PySem.W.of_hideAll _ z
  have fB : s.heap.FunFrames B (envOfC qual scope s₀.heap.objs.size f cd :: outer) := PySem.W.funFrames_hide I.stack fun en he a ha => List.mem_filterMap.mpr ⟨en, he, ha⟩
  refine wpAny_leaves_madeW (base := B) (h := s.heap) fr rfl kB fB x fun h'' t fl _ _ u => ?_
  have F : Flown P w (envOfC qual scope s₀.heap.objs.size f cd :: outer) H s B H { s with heap := h' } := {
    os := rfl
    bare := I.bare
    kb := fun b o z _ hb => PySem.W.hideAll_get _ z hb
    tb := fun b o z hb => ⟨o, PySem.W.hideAll_get _ z hb⟩
    un := Un.kept x.keeps
    hok := fun b o z => (I.hok b o z).stay (fun c v hc r => PySem.W.hideAll_get _ r fun y => by
      have n := I.stkFree c y
      rcases hc with rfl | hc
      · rw [z] at n; cases n
      · rw [hc] at n; cases n) (fun _ y => y) fun _ _ y => y }
  exact ⟨e, D, .ref t, B, H, rfl, fl, F.on I rfl rfl fl.1 u, q⟩
end
end LW
namespace LW
open PySem PySem.Spec PyProof.Rows L2
abbrev vMro : List Value := [.type "ValueError", .type "Exception", .type "BaseException", .type "object"]
def ExcObj (h : Heap) (C : Addr) : Prop := ∃ bm N nm q bs hdct sn sub ab col dd k0 k1 k2 k3 k5 mN, h.get? C = some (excClassObj nm q C N bs bm hdct sn sub ab col dd k0 k1 k2 k3 k5 "ValueError.__new__") ∧ h.Ns N mN ∧ mN "__init__" = none ∧ OwnTail h vMro bm
theorem exc_obj {K : PySem.W.Frag} {h : Heap} {C : Addr} (X : K.In h) (q : PySem.W.excIn K C vMro "ValueError.__new__" = true) : ExcObj h C := by
  unfold PySem.W.excIn at q
  split at q
  · next dd cd sl ho =>
    split at q
    · next C' bm k0 k1 k2 k3 n k5 hm hs =>
      simp only [Bool.and_eq_true, beq_iff_eq, Bool.not_eq_true'] at q
      obtain ⟨⟨⟨⟨⟨e1, e2⟩, e3⟩, e4⟩, e5⟩, e6⟩ := q
      subst e1 e2
      cases cd with | mk nm bs mro ns qn hd sn sub ab col del => ?_
      dsimp only at hm e3 e5 e6
      subst hm e3
      cases sl with | mk l => ?_
      dsimp only at hs
      subst hs
      exact ⟨bm, ns, nm, qn, bs, hd, sn, sub, ab, col, dd, k0, k1, k2, k3, k5, _, X _ _ ho, .of_isNs (PySem.W.isNs_of_in X e5), PySem.W.nsMap_none_of_in X e5 e6, PySem.W.tail_of_in X e4⟩
    · cases q
  · cases q
def tRaise (C : Addr) (E : XK) (t : TA) : TS := fun _ σ H => t σ H fun vs H1 => vs.length ≤ sizeLine ∧ E (.ref C) none H1
section
variable {P : Program} {w : World} {K : PySem.W.Frag} {mg : Str → Option Value} {base : Heap} {N : List Str} {qual : Str} {scope : Scope} {f : Addr} {cd : Value} {A : Around} {outer : List Env} {s₀ : Shared} {H₀ : Hp} {E : XK}
abbrev cxR (P : Program) (w : World) (K : PySem.W.Frag) (mg : Str → Option Value) (base : Heap) (N : List Str) (qual : Str) (scope : Scope) (f : Addr) (cd : Value) (A : Around) (outer : List Env) (s₀ : Shared) (H₀ : Hp) (E : XK) : Cx :=
  cxOf (CXR P w) P w K mg base N qual scope f cd A outer s₀ H₀ E
theorem ps_raise {x : Str} {np cp pos : Pos} {C : Addr} {e₀ : Expr} {es : List Expr} {t : TA} (q : PySem.W.excIn K C vMro "ValueError.__new__" = true) (hg : Gl (cxR P w K mg base N qual scope f cd A outer s₀ H₀ E) x) (hm : mg x = some (.ref C))
    (ha : PA (cxR P w K mg base N qual scope f cd A outer s₀ H₀ E) (e₀ :: es) t) (hdb : (x == ("__debug__" : Str)) = false := by decide)
    (he : starEach (e₀ :: es) (cxR P w K mg base N qual scope f cd A outer s₀ H₀ E).env = (false, eval e₀ (cxR P w K mg base N qual scope f cd A outer s₀ H₀ E).env) :: starEach es (cxR P w K mg base N qual scope f cd A outer s₀ H₀ E).env := by rfl)
    (hpl : (backTo cp (starEach es (cxR P w K mg base N qual scope f cd A outer s₀ H₀ E).env)).any (·.1) = false := by rfl) :
    PS (cxR P w K mg base N qual scope f cd A outer s₀ H₀ E) (.Raise (some (.Call (.Name x np) (e₀ :: es) [] cp)) none pos) (tRaise C E t) := by
  intro pins s σ H D I h
  obtain ⟨bm, ns, nm, qn, bs, hd, sn, sub, ab, col, dd, k0, k1, k2, k3, k5, mN, c1, c2, c3, c4⟩ := exc_obj I.ok.mod.kin q
  have hpl' : (backTo cp (starEach (e₀ :: es) (cxR P w K mg base N qual scope f cd A outer s₀ H₀ E).env)).any (·.1) = false := by
    rw [he]
    exact hpl
  refine wpAny_Raise_call_subT F.excBase_ValueError (C := C) (nm := nm) (q := qn) (N := ns) (bs := bs) (bm := bm) (hdct := hd) (sn := sn) (sub := sub) (ab := ab) (col := col) (dd := dd) (k0 := k0) (k1 := k1) (k2 := k2) (k3 := k3) (k5 := k5) (mN := mN) (c4.hasType F.excBase_ValueError.hasBase) (I.ok.hd rfl) hpl' c3 (ld_glob I hg hm ⟨rfl, ?_⟩ hdb)
  have h2 := ha cp pins s σ H _ I h
  rw [he] at h2 ⊢
  exact Calls.evalArgs_plain (wpAny_mono h2 (fun us s2 ⟨vs, H1, I1, r, hl, z⟩ => ⟨rfl, by rw [← r.length]; exact hl, I1.bk _ _ c1, c2.keeps I1.bk, c4.keeps I1.bk, fun h' e m => raiseR I1 m z⟩) fun _ _ y => y)
theorem Fun.okR {x qual : Str} {st : Stmt} {f : Addr} {fd : FuncData} {N ps : List Str} {k : Nat} {sp : Sp} (F : Fun K x qual st f fd) (S : FnScope N ps (defScope st)) (len : ∀ vs H Q E, sp vs H Q E → vs.length = ps.length)
    (hbody : ∀ (cdv : Value) (A : Around) (outer : List Env) (s : Shared) (H : Hp) (vs : List V) (Q : VK) (E : XK), Room k (A.deeper (envOfC qual (defScope st) s.heap.objs.size f cdv)) → sp vs H Q E →
      ∃ t, PSs (cxR P w K mg base N qual (defScope st) f cdv A outer s H E) (defBody st) t ∧ t { nx := fun _ H' => Q .non H', rt := Q } (start N vs) H) : FnOk P w K mg base (CXR P w) (k + 1) f fd ps sp := by
  obtain ⟨oc, od, kV, doc, pm, an, cdv, ct, osl, rfl, lk, hcd⟩ := F.ex
  exact fn_of lk hcd S len fun A outer s H vs Q E hr hsp => hbody cdv A outer s H vs Q E hr hsp
end
abbrev hot (X : Cx) (e : Addr) : Cx := { X with A := X.A.mark (some (.ref e)), calm := false, xe := fun _ _ => False }
theorem hot_inv {X : Cx} {pins : List (Addr × Obj)} {σ : L2.St} {H : Hp} {s : Shared} (I : Inv X pins σ H s) (e : Addr) : Inv (hot X e) pins σ H s :=
  ⟨⟨I.ok.mod, I.ok.kind, I.ok.glob, I.ok.blt, I.ok.above, I.ok.inj, I.ok.has, I.ok.cab, (fun z => by cases z), I.ok.frames, I.ok.stk, I.ok.exf, I.ok.bs, I.ok.bsz, I.ok.noex, I.ok.exfs, I.ok.funs, I.ok.frf⟩, I.os, I.bare, I.base, I.loc, I.cell, I.free, I.freeC, I.pin, I.hok, I.len⟩
theorem of_hot {X : Cx} {pins : List (Addr × Obj)} {σ : L2.St} {H : Hp} {s : Shared} {e : Addr} (c : X.Ok) (I : Inv (hot X e) pins σ H s) : Inv X pins σ H s :=
  ⟨c, I.os, I.bare, I.base, I.loc, I.cell, I.free, I.freeC, I.pin, I.hok, I.len⟩
abbrev tryC (X : Cx) (E : Value → Shared → Prop) (pn : List (Addr × Obj)) : Cx := { X with xe := E, pn := pn }
theorem name_goes {X : Cx} {pins : List (Addr × Obj)} {σ : L2.St} {H : Hp} {s : Shared} {M : Model} {A : Around} {E : Value → Shared → Prop} {i : Nat} {n : Str} {pos : Pos} {Q : Unit → Shared → Prop} (I : Inv X pins σ H s) (hN : X.N.Nodup) (hi : X.N[i]? = some n) (hk : X.env.kindOf n = some .local)
    (h : ∀ s', Inv X pins (σ.set i none) H s' → Q () s') : wpAny M A (do bindName X.env n .none; unbindBehindTheSuite X.env n pos) Q E s := by
  have hcls : (X.env.scope.kind == .class || (X.env.scope.kind == .module && X.env.locals != X.env.globals)) = false := by rw [I.ok.kind]; rfl
  refine wpAny_bind (wpAny_bindName (store_ok (v := .non) I hN hi (.inl hk) rfl (fun s1 I1 => ?_) (.inr hk)))
  obtain ⟨m, hn, hl⟩ := id I1.loc
  unfold unbindBehindTheSuite
  refine wpAny_onRaise ?_
  unfold unbindName
  refine wpAny_bind (wpAny_point (wpAny_bind ?_))
  unfold deleteName
  simp only [hk, hcls]
  rw [if_neg (by decide)]
  refine wpAny_bind (wpAny_nsDel_keeps hn fun h2 v hn2 hs2 => ?_)
  have hm : (m n).isSome = true := by
    obtain ⟨u, _, l⟩ := hl i n .non hi (by rw [List.getElem?_set_self (by rw [I.len]; exact (List.getElem?_eq_some_iff.mp hi).1)]) (.inl hk)
    rcases l with ⟨_, l⟩ | ⟨k, _⟩
    · rw [l]; rfl
    · rw [hk] at k; rcases k with k | k <;> cases k
  simp only [hm, Bool.not_true, Bool.false_eq_true, if_false]
  refine wpAny_pure (wpAny_point (h _ ?_))
  have low : ∀ b o, X.s₀.heap.get? b = some o → b ≠ X.env.locals := fun b o z => Nat.ne_of_lt (Nat.lt_of_lt_of_le (Heap.lt_size z) I.ok.above)
  have keptL : ∀ b o, b ≠ X.env.locals → s1.heap.get? b = some o → h2.get? b = some o := fun b o hb z => (hs2.2 b hb).trans z
  refine ⟨I1.ok, I1.os, I1.bare, ⟨fun b o z k hb hx => keptL b o (low b o z) (I1.base.keep b o z k hb hx), fun b o z k hb hx => ?_, I1.base.free, fun b o z hx => ?_, I1.base.tups, I1.base.frzs, I1.base.tbls⟩, ⟨_, hn2, fun j y u z1 z2 z3 => ?_⟩, fun y c z => ?_, I1.free, I1.freeC, fun p hp => ?_, fun b u z => ?_, ?_⟩
  · obtain ⟨sl, y⟩ := I1.base.slot b o z k hb hx
    exact ⟨sl, keptL b _ (low b o z) y⟩
  · obtain ⟨o', y⟩ := I1.base.there b o z hx
    exact ⟨o', keptL b _ (low b o z) y⟩
  · have hj : j ≠ i := by
      rintro rfl
      rw [List.getElem?_set_self (by rw [I.len]; exact (List.getElem?_eq_some_iff.mp hi).1)] at z2
      cases z2
    rw [List.getElem?_set_ne (Ne.symm hj)] at z2
    obtain ⟨u', r', l⟩ := hl j y u z1 (by rw [List.getElem?_set_ne (Ne.symm hj)]; exact z2) z3
    refine ⟨u', r', ?_⟩
    rcases l with ⟨k, l⟩ | ⟨k, c, l, l2⟩
    · have hy : y ≠ n := fun z => hj (nodup_ix hN z1 (z ▸ hi))
      exact .inl ⟨k, by simp [hy, l]⟩
    · exact .inr ⟨k, c, l, l2.sameBut hs2 (I1.cne y c l)⟩
  · obtain ⟨u, l⟩ := I1.cell y c z
    exact ⟨u, l.sameBut hs2 (I1.cne y c z)⟩
  · obtain ⟨a1, a2, a3, a4, a5⟩ := I1.pin p hp
    exact ⟨keptL _ _ a3 a1, a2, a3, a4, a5⟩
  · refine (I1.hok b u z).stay (fun c o hc l => keptL c o ?_ l) (fun _ y => y) fun _ _ y => y
    rintro rfl
    have fr := I1.free
    rcases hc with hc | hc
    · rw [hc, z] at fr; cases fr
    · rw [hc] at fr; cases fr
  · rw [List.length_set]; exact I.len
def tTry (i : Nat) (tb : TS) (EW : XK) (th : Addr → TS) : TS := fun D σ H => tb D σ H ∧
  ∀ (σ' : L2.St) (H' : Hp) (C e : Addr), σ'.length = σ.length → EW (.ref C) none H' → H' e = none →
    th e { nx := fun σ2 H2 => D.nx (σ2.set i none) H2, rt := D.rt, bk := fun σ2 H2 => D.bk (σ2.set i none) H2, ct := fun σ2 H2 => D.ct (σ2.set i none) H2 } (σ'.set i (some (.ref e))) (upd H' e (.ext fun h => ErrAt h e C))
theorem ps_try {X : Cx} {body : List Stmt} {b₀ : Stmt} {suite : List Stmt} {x n : Str} {np hp pos : Pos} {i : Nat} {CL : Addr} {EW : XK} {tb : TS} {th : Addr → TS} (hst : X.stack = X.env :: X.outer) (hfr : X.env.frame = some X.env.locals) (nd : X.N.Nodup) (hi : X.N[i]? = some n)
    (hk : X.env.kindOf n = some .local) (hg : Gl X x) (hm : X.mg x = some (.ref CL)) (hE : ∀ C o H', EW C o H' → PySem.W.exmOne X.K C (.ref CL) = some true)
    (hb : ∀ E pn, Passes (CXR X.prog X.w) (tryC X E pn) EW → PSs (tryC X E pn) body tb) (hs : ∀ e, PSs (hot X e) (b₀ :: suite) (th e)) (hdb : (x == ("__debug__" : Str)) = false := by decide) :
    PS X (.Try body [.ExceptHandler (some (.Name x np)) (some n) (b₀ :: suite) hp] [] [] pos) (tTry i tb EW th) := by
  intro pins s σ H D I ⟨h1, h2⟩
  refine wpAny_Try_except ?_
  have toX : ∀ {E : Value → Shared → Prop} {pins2 : List (Addr × Obj)} {σ2 : L2.St} {H2 : Hp} {s2 : Shared}, Inv (tryC X E (X.pn ++ pins)) pins2 σ2 H2 s2 → Inv X pins σ2 H2 s2 := fun J =>
    ⟨I.ok, J.os, J.bare, J.base, J.loc, J.cell, J.free, J.freeC, fun p z => J.pin p (List.mem_append_left _ z), J.hok, J.len⟩
  have I1 : ∀ E, Inv (tryC X E (X.pn ++ pins)) [] σ H s := fun E =>
    ⟨⟨I.ok.mod, I.ok.kind, I.ok.glob, I.ok.blt, I.ok.above, I.ok.inj, I.ok.has, I.ok.cab, I.ok.hd, I.ok.frames, I.ok.stk, I.ok.exf, I.ok.bs, I.ok.bsz, I.ok.noex, I.ok.exfs, I.ok.funs, I.ok.frf⟩, I.os, I.bare, I.base, I.loc, I.cell, I.free, I.freeC, fun p z => I.pin p (by simpa using z), I.hok, I.len⟩
  refine wpAny_mono (hb (fun v s1 => wpAny (model X.prog X.w) X.A (noteFrame v X.env) (fun _ s₂ => wpAny (model X.prog X.w) X.A (setFlight v none) (fun _ s₃ =>
    wpAny (model X.prog X.w) X.A (handleBy v X.env [.ExceptHandler (some (.Name x np)) (some n) (b₀ :: suite) hp]) (SP X pins D) X.xe s₃) X.xe s₂) X.xe s1) (X.pn ++ pins) ?_ [] s σ H D (I1 _) h1) (fun fl s1 q => ?_) (fun v s1 q => q)
  · intro pins2 σ2 H2 s2 v s2' J2 ⟨e, C, a0, B, H', hv, ff, F, q⟩
    subst hv
    have J := toX J2
    have fr : X.A.frames = some (X.env :: X.outer) := I.ok.frames.trans (by rw [hst])
    have F' : Flown X.prog X.w X.stack H2 s2 B H' s2' := F
    have ff' : Heap.FlyingW B (X.env :: X.outer) e (.ref C) a0 s2'.heap := hst ▸ ff
    have fe := F'.free ff.2.1
    refine wpAny_looks_onW fr hfr ff' fun h4 hh u4 => ?_
    refine wpAny_landsW hh fun h5 fl5 u5 => ?_
    have hokAt : ∀ h, B.StaysIn h → HOk X.prog X.w H' h := fun h k b u z => (F'.hok b u z).stay (fun c o _ l => k c o l) (fun _ y => y) fun _ _ y => y
    have K5 : Inv X pins σ2 H' { s2' with heap := h5 } := J.call' F'.os (F'.un_of J.stack J.stkFree fl5.1 (u4.trans u5)) (hokAt _ fl5.1) F'.bare (fun b z => by cases z)
    have er5 : ErrAt h5 e C := by
      obtain ⟨oe, vs, z1, z2, z3, _⟩ := fl5.first
      exact ⟨oe, vs, z1, z2, z3⟩
    refine wpAny_handleBy_cons (codeAny_handlers_test (ld_glob (hot_inv K5 e) hg hm ?_ hdb)) (by intro q; cases q)
    refine PySem.W.exm_one K5.kIn er5.ty (hE _ _ _ q) _ _ _ _ (fun _ _ z => z) ?_
    refine codeAny_handlers_suite_as ?_
    refine lands_againW fl5 fun h6 fl6 u6 => ?_
    have er6 : ErrAt h6 e C := by
      obtain ⟨oe, vs, z1, z2, z3, _⟩ := fl6.first
      exact ⟨oe, vs, z1, z2, z3⟩
    have U6 := F'.un_of J.stack J.stkFree fl6.1 ((u4.trans u5).trans u6)
    have new : s2.heap.get? e = none := by
      cases z : s2.heap.get? e with
      | none => rfl
      | some o =>
        by_cases y : e ∈ frs X.stack
        · obtain ⟨_, oe, b1, b2⟩ := J.stack.mem y
          obtain ⟨sl, b3⟩ := U6.slot e oe b1 (J.stkFree e y) y (by simp)
          obtain ⟨oe', vs, z1, z2, z3⟩ := er6
          rw [b3] at z1
          cases z1
          exact absurd z3 (b2 vs)
        · obtain ⟨o', b1⟩ := F'.tb e o z y
          rw [ff.2.1] at b1; cases b1
    have neE : ∀ b u, H' b = some u → b ≠ e := fun b u z y => by rw [y, fe] at z; cases z
    have K6 : Inv X pins σ2 (upd H' e (.ext fun h => ErrAt h e C)) { s2' with heap := h6 } := by
      refine J.call' F'.os ⟨U6.keep, U6.slot, fun b o z k hx => ?_, U6.there, fun b xs z => ?_, fun b o u z => ?_, fun b ps z => ?_⟩ (fun b u z => ?_) F'.bare (fun b z => by cases z)
      · rw [upd_ne (fun y => by rw [y, new] at z; cases z)]
        exact U6.free b o z k hx
      · have y := U6.tups b xs z
        rw [upd_ne (neE b _ y)]; exact y
      · have y := U6.frzs b o u z
        rw [upd_ne (neE b _ y)]; exact y
      · obtain ⟨m, y⟩ := U6.tbls b ps z
        exact ⟨m, by rw [upd_ne (neE b _ y)]; exact y⟩
      · by_cases y : b = e
        · subst y
          rw [upd_same] at z
          cases z
          obtain ⟨o, vs, z1, z2, z3⟩ := id er6
          refine ⟨er6, ⟨o, z1⟩, fun g1 g2 a l => ?_⟩
          obtain ⟨o', vs', y1, y2, y3⟩ := a
          exact ⟨o', vs', l o' y1, y2, y3⟩
        · rw [upd_ne y] at z
          exact (hokAt _ fl6.1 b u z).stay (fun _ _ _ l => l) (fun c l => by rw [upd_ne (neE c _ l)]; exact l) fun c xs l => by rw [upd_ne (neE c _ l)]; exact l
    have K7 := hot_inv K6 e
    refine store_ok (X := hot X e) K7 nd hi (.inl hk) (v := .ref e) rfl (fun s8 K8 => ?_) (.inr hk)
    refine wpAny_mono (hs e pins s8 _ _ _ K8 (h2 σ2 H' C e ?_ q fe)) (fun fl s9 z => ?_) (fun _ _ z => z.elim)
    · rw [J.len, I.len]
    · cases fl with
      | next => obtain ⟨σ9, H9, K9, y⟩ := z; exact name_goes (of_hot I.ok K9) nd hi hk fun s10 K10 => ⟨_, H9, K10, y⟩
      | brk => obtain ⟨σ9, H9, K9, y⟩ := z; exact name_goes (of_hot I.ok K9) nd hi hk fun s10 K10 => ⟨_, H9, K10, y⟩
      | cont => obtain ⟨σ9, H9, K9, y⟩ := z; exact name_goes (of_hot I.ok K9) nd hi hk fun s10 K10 => ⟨_, H9, K10, y⟩
      | ret u => obtain ⟨v, σ9, H9, K9, r, y⟩ := z; exact name_goes (of_hot I.ok K9) nd hi hk fun s10 K10 => ⟨v, _, H9, K10, r, y⟩
  · cases fl with
    | next => obtain ⟨σ', H', J, z⟩ := q; exact wpAny_execs_nil ⟨σ', H', toX J, z⟩
    | brk => obtain ⟨σ', H', J, z⟩ := q; exact ⟨σ', H', toX J, z⟩
    | cont => obtain ⟨σ', H', J, z⟩ := q; exact ⟨σ', H', toX J, z⟩
    | ret u => obtain ⟨v, σ', H', J, r, z⟩ := q; exact ⟨v, σ', H', toX J, r, z⟩
end LW
namespace LW
open PySem PySem.Spec PyProof.Rows L2 PySem.Builtin.Str
theorem vals_from : ∀ (xs : List Str) (t : Nat), Vals (xs.map V.str) (strsFrom t xs)
  | [], _ => .nil
  | _ :: xs, t => .cons ⟨t, rfl⟩ (vals_from xs (t + 1))
theorem split_len (x y : Str) : (Txt.split x y).length ≤ x.length + 2 := by
  unfold Txt.split
  split
  · exact Nat.succ_le_succ (Nat.zero_le _)
  · split
    · exact Nat.succ_le_succ (Nat.zero_le _)
    · have e := StrLaws.occ_length_le x y 0 x.length (x.length + 1)
      rw [length_partsBetween]
      omega
section
variable {X : Cx}
theorem mt_split : MtR X "str.split" (fun x vs H Q => ∃ a b, x = .str a ∧ vs = [.str b] ∧ b.length ≠ 0 ∧ a.length ≤ 10000 ∧ ∀ p, H p = none → Q (.ref p) (upd H p (.lst ((Txt.split a b).map V.str)))) := by
  intro pins s σ H x xs v us Q I rx rs h
  obtain ⟨a, b, rfl, rfl, hb, hl, q⟩ := h
  obtain ⟨t, rfl⟩ := rx
  obtain ⟨u, rfl, t', rfl⟩ := vals1 rs
  have sl : 20000 ≤ sizeLine := by decide
  have hz := split_len a b
  have fin : ∀ (k : Nat) (its : List Value), Vals ((Txt.split a b).map V.str) its → EP X pins σ Q (.ref s.heap.objs.size) { s with heap := s.heap.push { cls := .type "list", data := .seq its.toArray }, toks := k } := fun k its r => by
    refine ⟨.ref s.heap.objs.size, upd H s.heap.objs.size (.lst ((Txt.split a b).map V.str)), I.laid (t' := k) (fun b u e => Heap.get?_push_of_some _ e) (Nat.le_refl _) ?_, rfl, q _ (I.hok.fresh (Nat.le_refl _))⟩
    exact ⟨by rw [List.length_map]; omega, its, 0, r, Heap.get?_push_size _ rfl⟩
  cases h1 : (decide (a.length < b.length) || decide (strKind a < strKind b))
  · have hy : (b.length == 0) = false := beq_eq_false_iff_ne.mpr hb
    cases hf : (occurrences a b 0 a.length (a.length + 1)).isEmpty
    · have e : Txt.split a b = partsBetween a (occurrences a b 0 a.length (a.length + 1)) b.length := by unfold Txt.split; rw [h1, hf]; rfl
      have n2 : (partsBetween a (occurrences a b 0 a.length (a.length + 1)) b.length).length ≤ sizeLine := by rw [← e]; omega
      refine call_meets F.slot_str_split (typeIs_str _ _ _) F.entry_str_split (F.args_str_split_2 _ _) (meets_str_split_sep a b t t' h1 hy hf (by omega) n2) ?_
      exact fin _ _ (e ▸ vals_from _ _)
    · have e : Txt.split a b = [a] := by unfold Txt.split; rw [h1, hf]; rfl
      refine call_meets F.slot_str_split (typeIs_str _ _ _) F.entry_str_split (F.args_str_split_2 _ _) (meets_str_split_not_found a b t t' h1 hy hf) ?_
      exact fin s.toks [.str a t] (by rw [e]; exact .cons ⟨t, rfl⟩ .nil)
  · have e : Txt.split a b = [a] := by unfold Txt.split; rw [h1]; rfl
    refine call_meets F.slot_str_split (typeIs_str _ _ _) F.entry_str_split (F.args_str_split_2 _ _) (meets_str_split_cannot_occur a b t t' h1) ?_
    exact fin s.toks [.str a t] (by rw [e]; exact .cons ⟨t, rfl⟩ .nil)
theorem call_isErr {K : PySem.W.Frag} (hK : X.K = K) : CallR X (.builtin "isinstance") (fun xs H Q => ∃ e D C b, xs = [.ref e, .ref C] ∧ H e = some (.ext fun h => ErrAt h e D) ∧ ErrCls K D ∧ PySem.W.kitOne K (.ref D) (.ref C) = some b ∧ Q (.bl b) H) := by
  intro pins s σ H xs us Q I r h
  obtain ⟨e, D, C, b, rfl, he, ec, k, q⟩ := h
  obtain ⟨u, w', rfl, rx, rt⟩ := vals2 r
  cases rx
  cases rt
  exact PySem.W.kia_one (kitx_err ec) (hK ▸ I.kIn) (I.hok e _ he).1 k (by intro z; cases z) fun tk => ⟨.bl b, H, I.tok _, rfl, q⟩
theorem call_isErrT {K : PySem.W.Frag} (hK : X.K = K) : CallR X (.builtin "isinstance") (fun xs H Q => ∃ e D T b, xs = [.ref e, .ty T] ∧ H e = some (.ext fun h => ErrAt h e D) ∧ ErrCls K D ∧ PySem.W.kitOne K (.ref D) (.type T) = some b ∧ Q (.bl b) H) := by
  intro pins s σ H xs us Q I r h
  obtain ⟨e, D, T, b, rfl, he, ec, k, q⟩ := h
  obtain ⟨u, w', rfl, rx, rt⟩ := vals2 r
  cases rx
  cases rt
  exact PySem.W.kia_one (kitx_err ec) (hK ▸ I.kIn) (I.hok e _ he).1 k (by intro z; cases z) fun tk => ⟨.bl b, H, I.tok _, rfl, q⟩
end
end LW
namespace LW
open PySem PySem.Spec PyProof.Rows L2
section
variable {X : Cx}
theorem op_eqTF {K : PySem.W.Frag} (hK : X.K = K) (hu : X.A.units + 1 < cLine) : OpR X (compareOp .Eq) (fun x y H Q => ∃ (a b : Addr) (xs ys : List V), x = .ref a ∧ y = .ref b ∧ SqT K H a xs ∧ SqT K H b ys ∧ (∀ v ∈ xs, flatV v = true) ∧ (∀ v ∈ ys, flatV v = true) ∧
    Q (.bl ((List.range (min xs.length ys.length)).all (eAt xs ys) && xs.length == ys.length)) H) := by
  subst hK
  intro pins s σ H x y v u Q I rx ry h
  obtain ⟨a, b, xs, ys, rfl, rfl, ha, hb, fx, fy, q⟩ := h
  cases rx
  cases ry
  obtain ⟨its, rv, pl, hz⟩ := I.tuple ha
  obtain ⟨its', rv', pl', hz'⟩ := I.tuple hb
  have l1 := rv.length
  have l2 := rv'.length
  have q' := SeqAt.RcAt.tuples (A := X.A) (s := s) (e := eAt xs ys) (show s.heap.IsTuple a its.toArray from pl) (show s.heap.IsTuple b its'.toArray from pl') (by omega) fun j h1 h2 => by
    obtain ⟨x, ex, rx⟩ := valsA rv h1
    obtain ⟨y, ey, ry⟩ := valsA rv' h2
    have e : eAt xs ys j = eqV x y := by unfold eAt; rw [ex, ey]
    rw [e]
    exact eqAt_V rx ry (fx x (List.mem_of_getElem? ex)) (fy y (List.mem_of_getElem? ey))
  rw [List.size_toArray, List.size_toArray, ← l1, ← l2] at q'
  exact q' X.prog X.w X.xe _ ⟨.bl _, H, I, rfl, q⟩
end
def HasR (P : Program) (w : World) (K : PySem.W.Frag) (mg : Str → Option Value) (base : Heap) (x : Str) (k : Nat) (ps : List Str) (sp : Sp) : Prop :=
  ∃ f fd, FnOk P w K mg base (CXR P w) k f fd ps sp ∧ Binds K fd ps [] ∧ PySem.W.keepIn K (.ref f) = true ∧ mg x = some (.ref f)
section
variable {X : Cx} {x : Str} {k : Nat} {ps : List Str} {sp : Sp} {p pos : Pos} {e : Expr} {es : List Expr} {t : TA} {E : XK}
theorem pe_hasR (G : HasR X.prog X.w X.K X.mg X.base x k ps sp) (hr : Room k X.A) (hg : Gl X x) (hx : Passes (CXR X.prog X.w) X E) (ha : PA X (e :: es) t) (hdb : (x == ("__debug__" : Str)) = false := by decide)
    (he : starEach (e :: es) X.env = (false, eval e X.env) :: starEach es X.env := by rfl) (hpl : (backTo pos (starEach es X.env)).any (·.1) = false := by rfl) :
    PE X (.Call (.Name x p) (e :: es) [] pos) (tCall sp [] E t) := by
  obtain ⟨f, fd, F, B, kp, m⟩ := G
  exact pe_call F hr hg m kp B .nil hx ha hdb he hpl
def tDead (t : TS) : TS := fun D σ H => t { nx := fun _ _ => False, rt := D.rt, bk := D.bk, ct := D.ct } σ H
end
structure Err (K : PySem.W.Frag) (mg : Str → Option Value) (x : Str) (C : Addr) : Prop where
  mg : mg x = some (.ref C)
  ex : PySem.W.excIn K C vMro "ValueError.__new__" = true
  cl : ErrCls K C
end LW
namespace LW
open PySem PySem.Spec PyProof.Rows L2 PySem.Builtin.Int
def nl : Str := "\n"
def partsOf (x : Str) : List Str := Txt.split x nl
def bookB (bs : List Str) : Bool := (decide (1 ≤ (bs.length : Int)) && decide ((bs.length : Int) ≤ 6)) && bs.all isWordB
def lastS (l : List Str) : Str := l.getLastD ""
def noteB (x : Str) : Bool := decide (lastS (partsOf x) = "") && bookB (partsOf x).dropLast
theorem parts_ne (x : Str) : partsOf x ≠ [] := by
  unfold partsOf Txt.split
  split
  · exact List.cons_ne_nil _ _
  · split
    · exact List.cons_ne_nil _ _
    · intro e
      have l := congrArg List.length e
      rw [length_partsBetween] at l
      simp at l
theorem parts_len (x : Str) : (partsOf x).length ≤ x.length + 2 := split_len x nl
theorem parts_short {x a : Str} (h : a ∈ partsOf x) : a.length ≤ x.length := part_short h
theorem nl_len : nl.length ≠ 0 := by decide +kernel
theorem take_last {α : Type} (xs : List α) (n : Nat) (h : n = xs.length - 1) : (xs.drop 0).take (n - 0) = xs.dropLast := by
  rw [List.drop_zero, Nat.sub_zero, h, List.dropLast_eq_take]
theorem cut_last (xs : List V) (h : xs ≠ []) : cutV xs none (some (-1)) = xs.dropLast := by
  have hl := List.length_pos_iff.mpr h
  unfold cutV
  exact take_last xs _ (by show (if (-1 : Int) < 0 then (-1 + (xs.length : Int)).toNat else min (-1 : Int).toNat xs.length) = _; rw [if_pos (by decide)]; omega)
theorem cut_init (xs : List V) (h : xs ≠ []) : cutV xs none (some ((xs.length : Int) - 1)) = xs.dropLast := by
  have hl := List.length_pos_iff.mpr h
  unfold cutV
  exact take_last xs _ (by show (if (xs.length : Int) - 1 < 0 then ((xs.length : Int) - 1 + (xs.length : Int)).toNat else min ((xs.length : Int) - 1).toNat xs.length) = _; rw [if_neg (by omega)]; omega)
theorem last_at (xs : List Str) (h : xs ≠ []) : (xs.map V.str)[xs.length - 1]? = some (.str (lastS xs)) := by
  have hl := List.length_pos_iff.mpr h
  rw [List.getElem?_map, List.getElem?_eq_getElem (by omega)]
  unfold lastS
  rw [List.getLastD_eq_getLast?, List.getLast?_eq_getElem?, List.getElem?_eq_getElem (by omega)]
  rfl
theorem at_last (xs : List Str) (h : xs ≠ []) : atI (xs.map V.str) (-1) = some (.str (lastS xs)) := by
  have hl := List.length_pos_iff.mpr h
  unfold atI ixN
  rw [List.length_map, if_neg (by omega), if_pos (by omega)]
  show (xs.map V.str)[(-1 + (xs.length : Int)).toNat]? = _
  rw [show (-1 + (xs.length : Int)).toNat = xs.length - 1 by omega]
  exact last_at xs h
theorem at_init (xs : List Str) (h : xs ≠ []) : atI (xs.map V.str) ((xs.length : Int) - 1) = some (.str (lastS xs)) := by
  have hl := List.length_pos_iff.mpr h
  unfold atI ixN
  rw [List.length_map, if_pos (by omega), if_pos (by omega)]
  show (xs.map V.str)[((xs.length : Int) - 1).toNat]? = _
  rw [show ((xs.length : Int) - 1).toNat = xs.length - 1 by omega]
  exact last_at xs h
theorem alpha_cs : cs (Str.ofString "abcdefghijklmnopqrstuvwxyz") = (List.range 26).map (· + 97) := by decide +kernel
theorem alpha_in (c : Nat) : inS ⟨#[c]⟩ (Str.ofString "abcdefghijklmnopqrstuvwxyz") = lowB c := by
  rw [Bool.eq_iff_iff, inS_iff, alpha_cs]
  have e : cs (⟨#[c]⟩ : Str) = [c] := rfl
  rw [e]
  unfold lowB
  rw [Bool.and_eq_true_iff, decide_eq_true_iff, decide_eq_true_iff]
  constructor
  · intro h
    obtain ⟨k, hk, e⟩ := List.mem_map.mp (h.subset (List.mem_singleton_self c))
    have := List.mem_range.mp hk
    omega
  · rintro ⟨h1, h2⟩
    have m : c ∈ (List.range 26).map (· + 97) := List.mem_map.mpr ⟨c - 97, List.mem_range.mpr (by omega), by omega⟩
    obtain ⟨s, t, e⟩ := List.append_of_mem m
    exact ⟨s, t, by rw [e, List.append_assoc]; rfl⟩
theorem none_bad (l : List Nat) : ((l.filter fun c => !lowB c).length : Int) ≤ 0 ↔ l.all lowB = true := by
  rw [List.all_eq_true]
  constructor
  · intro h c hc
    have z : l.filter (fun c => !lowB c) = [] := List.length_eq_zero_iff.mp (by omega)
    have y := List.filter_eq_nil_iff.mp z c hc
    simpa using y
  · intro h
    have z : l.filter (fun c => !lowB c) = [] := List.filter_eq_nil_iff.mpr fun c hc => by simp [h c hc]
    rw [z]
    exact Int.le_refl _
def spIsBook (K : PySem.W.Frag) : Sp := fun vs H Q _ => ∃ (p : Addr) (bs : List Str), vs = [.ref p] ∧ SqL K H p (bs.map V.str) ∧ (∀ b ∈ bs, b.length ≤ 1000) ∧ ∀ H', Same H H' → Q (.bl (bookB bs)) H'
def joinNl (bs : List Str) : Str := Txt.join "" (bs.map fun b => b ++ nl)
def spShown (K : PySem.W.Frag) : Sp := fun vs H Q _ => ∃ (p : Addr) (bs : List Str), vs = [.ref p] ∧ SqL K H p (bs.map V.str) ∧ Good bs ∧ ∀ H', Same H H' → Q (.str (joinNl bs)) H'
def Told (H : Hp) (x : Str) (Q : VK) : Prop := noteB x = true → ∀ (l : Addr) (H' : Hp), H l = none → Same H H' → H' l = some (.lst ((partsOf x).dropLast.map V.str)) → Q (.ref l) H'
def spRead (C : Addr) : Sp := fun vs H Q E => ∃ x : Str, vs = [.str x] ∧ x.length ≤ 1000 ∧ Told H x Q ∧ (noteB x = false → ∀ H', Same H H' → E (.ref C) none H')
def spDue : Sp := fun vs H Q _ => ∃ x : Str, vs = [.str x] ∧ x.length ≤ 1000 ∧ Told H x Q ∧ (noteB x = false → ∀ H', Same H H' → Q .non H')
def spTold : Sp := fun vs H Q _ => ∃ x : Str, vs = [.str x] ∧ x.length ≤ 1000 ∧ Told H x Q ∧ (noteB x = false → ∀ (t : Addr) (H' : Hp), H t = none → Same H H' → H' t = some (.tup [.str "refused", .bl true]) → Q (.ref t) H')
def spSpoiled : Sp := fun vs H Q _ => ∃ (x : Str) (way cell other : Int), vs = [.str x, .int way, .int cell, .int other] ∧ x.length ≤ 100 ∧ ∀ (y : Str) (H' : Hp), y.length ≤ 1000 → Same H H' → Q (.str y) H'
def spOdd : Sp := fun vs H Q _ => ∃ (cell : Int), vs = [.int cell] ∧ ∀ (y : Str) (H' : Hp), y.length ≤ 1000 → Same H H' → Q (.str y) H'
theorem exm_of {K : PySem.W.Frag} {C L : Addr} (a : PySem.W.subIn K (.ref L) (.type "BaseException") = some true) (b : PySem.W.kitOne K (.ref C) (.ref L) = some true) (c : Nat.beq C L = false) : PySem.W.exmOne K (.ref C) (.ref L) = some true := by
  have n : ¬ ((Value.ref C == Value.ref L) = true) := fun z => by
    have e : C = L := Value.ref.inj (beq_iff_eq.mp z)
    rw [e, Nat.beq_refl] at c
    cases c
  unfold PySem.W.kitOne at b
  rw [if_neg n] at b
  unfold PySem.W.exmOne
  rw [a, if_pos (by rfl)]
  exact b
theorem exc_is {K : PySem.W.Frag} {C : Addr} (q : PySem.W.excIn K C vMro "ValueError.__new__" = true) : (PySem.W.clsIn K C).isSome = true := by
  unfold PySem.W.excIn at q
  split at q
  · next ho =>
    unfold PySem.W.clsIn
    rw [ho]
    rfl
  · cases q
structure Er (K : PySem.W.Frag) (mg : Str → Option Value) (CL CB CW CO CN : Addr) : Prop where
  mL : mg "LayError" = some (.ref CL)
  mB : mg "BadBook" = some (.ref CB)
  mW : mg "BadWord" = some (.ref CW)
  mO : mg "BadOrder" = some (.ref CO)
  mN : mg "BadNote" = some (.ref CN)
  ex : PySem.W.excIn K CN vMro "ValueError.__new__" = true
  cl : ErrCls K CN
  nB : PySem.W.kitOne K (.ref CN) (.ref CB) = some false
  nW : PySem.W.kitOne K (.ref CN) (.ref CW) = some false
  nO : PySem.W.kitOne K (.ref CN) (.ref CO) = some false
  yN : PySem.W.kitOne K (.ref CN) (.ref CN) = some true
  yV : PySem.W.kitOne K (.ref CN) (.type "ValueError") = some true
  yL : PySem.W.exmOne K (.ref CN) (.ref CL) = some true
end LW
namespace LW
open PySem PySem.Spec PyProof.Rows L2 PySem.Builtin.Str
def wt (l : List Str) : Nat := (l.map (·.length)).sum + l.length
theorem wt_append (l m : List Str) : wt (l ++ m) = wt l + wt m := by
  unfold wt
  rw [List.map_append, List.sum_append, List.length_append]
  omega
theorem wt_sub : ∀ {l m : List Str}, l.Sublist m → wt l ≤ wt m
  | _, _, .slnil => Nat.le_refl _
  | _, _, .cons a h => by
    have z := wt_sub h
    unfold wt at z ⊢
    rw [List.map_cons, List.sum_cons, List.length_cons]
    omega
  | _, _, .cons₂ a h => by
    have z := wt_sub h
    unfold wt at z ⊢
    rw [List.map_cons, List.sum_cons, List.length_cons, List.map_cons, List.sum_cons, List.length_cons]
    omega
theorem cut_strs (bs : List Str) (lo hi : Option Int) : ∃ l : List Str, cutV (bs.map V.str) lo hi = l.map V.str ∧ l.Sublist bs := by
  unfold cutV
  rw [← List.map_drop, ← List.map_take]
  exact ⟨_, rfl, (List.take_sublist _ _).trans (List.drop_sublist _ _)⟩
theorem nl_one : nl.length = 1 := by decide +kernel
theorem join_wt (l : List Str) : (Txt.join nl l).length ≤ wt l := by
  unfold Txt.join wt
  rw [size_glued, nl_one, Nat.mul_one]
  omega
theorem join_room (l : List Str) : (l.map (·.length)).sum + l.length * nl.length = wt l := by
  unfold wt
  rw [nl_one, Nat.mul_one]
theorem parts_wt (x : Str) : wt (partsOf x) ≤ x.length + 1 := by
  have one : wt [x] ≤ x.length + 1 := by
    unfold wt
    simp
  unfold partsOf Txt.split
  split
  · exact one
  · split
    · exact one
    · have e := congrArg Str.length (StrLaws.glued_between_self x nl (x.length + 1))
      rw [size_glued, nl_one, Nat.mul_one] at e
      unfold wt
      rw [nl_one]
      omega
theorem len_of_wt {l : List Str} {n : Nat} (h : wt l ≤ n) : l.length ≤ n := by
  unfold wt at h
  omega
theorem str_at {z : Str} {n : Nat} (hz : z.cps.toList.length = n) {i : Int} (h0 : 0 ≤ i) (h1 : i < (n : Int)) : ∃ c, atI z.cps.toList i = some c := by
  unfold atI
  rw [hz, ixN_nat h0 h1]
  exact ⟨_, List.getElem?_eq_getElem (by rw [hz]; omega)⟩
theorem sl_to (x : Str) {i : Int} (h : 0 ≤ i) : (Txt.slice x none (some i)).length ≤ x.length := by
  obtain ⟨n, rfl⟩ := Int.eq_ofNat_of_zero_le h
  rw [slice_to_len]
  exact Nat.min_le_right _ _
theorem sl_from (x : Str) {i : Int} (h : 0 ≤ i) : (Txt.slice x (some i) none).length ≤ x.length := by
  obtain ⟨n, rfl⟩ := Int.eq_ofNat_of_zero_le h
  rw [slice_from_len]
  exact Nat.sub_le _ _
end LW


namespace My
open PySem PySem.Spec PyProof.Rows L2 LW PySem.Builtin.Int
def top (i : Nat) : Stmt := PySem.Challenge.pw_laidwords_k11_books_written.main.body.getD i (.Pass ⟨0, 0, 0, 0⟩)
abbrev sSmall : Stmt := top 9
abbrev sIsWord : Stmt := top 10
abbrev sSize : Stmt := top 11
abbrev sCheck : Stmt := top 13
abbrev sIsBook : Stmt := top 12
abbrev sShown : Stmt := top 16
abbrev sRead : Stmt := top 17
abbrev sCell : Stmt := top 19
abbrev sWord : Stmt := top 20
abbrev sPiece : Stmt := top 22
abbrev sJoined : Stmt := top 23
abbrev sBook : Stmt := top 21
abbrev sSpoiled : Stmt := top 24
abbrev sOdd : Stmt := top 25
abbrev sDue : Stmt := top 26
abbrev sTold : Stmt := top 27
abbrev sLaw : Stmt := top 28
structure Gb (mg : Str → Option Value) : Prop where
  b_len : mg "len" = none
  b_range : mg "range" = none
  b_list : mg "list" = none
  b_all : mg "all" = none
  b_isinstance : mg "isinstance" = none
  b_str : mg "str" = none
  b_ValueError : mg "ValueError" = none
  c_MOST_WORDS : ∃ t, mg "MOST_WORDS" = some (.int 6 t)
  c_MOST_LETTERS : ∃ t, mg "MOST_LETTERS" = some (.int 10 t)
  c_LINE_END : ∃ t, mg "LINE_END" = some (.str "\n" t)
section
variable {P : Program} {w : World} {K : PySem.W.Frag} {mg : Str → Option Value} {base : Heap} {f : Addr} {fd : FuncData}
theorem scSmall : FnScope ["sign"] ["sign"] (defScope sSmall) := ⟨rfl, rfl, rfl, by decide +kernel, rfl, by decide +kernel, by decide +kernel⟩
theorem ok_Small (F : Fun K "is_small_letter" "is_small_letter" sSmall f fd) (T : Gb mg) : FnOk P w K mg base CX0 1 f fd ["sign"] spSmall := by
  refine F.ok scSmall (fun vs H Q E h => ?_) (fun cdv A outer s H vs Q E hr h => ?_)
  · obtain ⟨c, rfl, _⟩ := h
    rfl
  obtain ⟨c, rfl, q⟩ := h
  refine ⟨_, pss_one (ps_ret (pe_chain op_le_str op_le_str pe_str (pv 0) pe_str)), ?_⟩
  refine ⟨_, rfl, _, _, rfl, rfl, _, rfl, ?_⟩
  have e1 : (!decide ((⟨#[c]⟩ : Str).cps.toList < (Str.ofString "a").cps.toList)) = decide (97 ≤ c) := by rw [code_a]; exact le_one 97 c
  have e2 : (!decide ((Str.ofString "z").cps.toList < (⟨#[c]⟩ : Str).cps.toList)) = decide (c ≤ 122) := by rw [code_z]; exact le_one c 122
  refine ite2 (fun k => ?_) (fun k => ?_)
  · have k1 : decide (97 ≤ c) = true := e1.symm.trans k
    refine ⟨_, _, rfl, rfl, ?_⟩
    have q' : Q (.bl (decide (c ≤ 122))) H := by
      have z := q
      unfold lowB at z
      rw [k1, Bool.true_and] at z
      exact z
    rw [← e2] at q'
    exact q'
  · have k1 : decide (97 ≤ c) = false := e1.symm.trans (Bool.eq_false_iff.mpr k)
    have z := q
    unfold lowB at z
    rw [k1, Bool.false_and] at z
    exact z
theorem scIsWord : FnScope ["text"] ["text"] (defScope sIsWord) := ⟨rfl, rfl, rfl, by decide +kernel, rfl, by decide +kernel, by decide +kernel⟩
theorem ndSign : (["sign"] : List Str).Nodup := by decide +kernel
theorem ok_IsWord (F : Fun K "is_word" "is_word" sIsWord f fd) (T : Gb mg) (G1 : Has P w K mg base "is_small_letter" 1 ["sign"] spSmall) : FnOk P w K mg base CX0 2 f fd ["text"] spIsWord := by
  refine F.ok scIsWord (fun vs H Q E h => ?_) (fun cdv A outer s H vs Q E hr h => ?_)
  · obtain ⟨x, rfl, _⟩ := h
    rfl
  obtain ⟨x, rfl, hx, q⟩ := h
  obtain ⟨t, ht⟩ := T.c_MOST_LETTERS
  refine ⟨_, pss_cons (ps_if (pt_not (pt_chain op_le op_le pe_int (pe_callB call_len_str rfl T.b_len PySem.boot_len (pa_cons (pv 0) pa_nil)) (pe_glob (v := .int 10) rfl ht ⟨_, rfl⟩))) (pss_one (ps_ret pe_bl)) pss_nil)
    (pss_one (ps_ret (pe_callB (call_allB rfl) rfl T.b_all boot_all (pa_cons (pe_comp (oN := ["text"]) (osc := defScope sIsWord) (N' := ["sign"]) (cap := [none]) rfl rfl rfl (by decide +kernel) rfl (by decide +kernel) (by decide +kernel) (by decide +kernel) rfl
      (pi_str (pv 0)) (fun _ _ _ _ _ => pg_name (i := 0) ndSign rfl (Or.inl rfl)) (fun _ _ _ _ _ => pif_none) (fun _ _ _ _ _ => pe_has G1 hr (by rfl) (pa_cons (pv 0) pa_nil))) pa_nil)))), ?_⟩
  refine ⟨_, rfl, x, rfl, small hx, _, _, rfl, rfl, _, rfl, ?_⟩
  refine ite2 (fun k => ?_) (fun k => ?_)
  · have k1 : decide (1 ≤ (x.length : Int)) = true := k
    refine ⟨_, _, rfl, rfl, _, rfl, ?_⟩
    by_cases h2 : (x.length : Int) ≤ 10
    · refine iteNS h2 ?_
      refine ⟨_, rfl, x, rfl, fun D hD => ?_⟩
      refine turns_str (fun i σ H' => (∃ kk, σ = [kk]) ∧ Same H H' ∧ H' D = some (.lst (((x.cps.toList.take i).map lowB).map V.bl))) ⟨⟨_, rfl⟩, same_new hD _, upd_same⟩ ?_ ?_
      · rintro i c σ H' hc ⟨⟨kk, rfl⟩, hs, hD'⟩
        have hc' : x.cps.toList[i]? = some c := by simpa using hc
        refine gYes ?_
        refine ⟨_, rfl, c, rfl, _, hD', ?_, ⟨_, rfl⟩, sameUpd hs hD, ?_⟩
        · rw [List.length_map, List.length_map, List.length_take, ← strLenL]
          exact small1000 (by omega)
        · rw [upd_same, take_snoc hc', List.map_append, List.map_append] <;> rfl
      · rintro σ H' ⟨_, hs, hD'⟩
        rw [strLenL, List.take_length] at hD'
        refine ⟨D, _, rfl, SqL.of hD', ?_⟩
        have e : ((x.cps.toList.map lowB).all id) = isWordB x := by
          unfold isWordB
          rw [k1, decide_eq_true h2, List.all_map]
          rfl
        rw [e]
        exact q H' hs
    · refine iteNT h2 ?_
      have e : isWordB x = false := by
        unfold isWordB
        rw [decide_eq_false h2, Bool.and_false, Bool.false_and]
      have z := q H (Same.refl _)
      rw [e] at z
      exact z
  · have k1 : decide (1 ≤ (x.length : Int)) = false := Bool.eq_false_iff.mpr k
    refine ⟨_, rfl, iteT ?_⟩
    have e : isWordB x = false := by
      unfold isWordB
      rw [k1, Bool.false_and, Bool.false_and]
    have z := q H (Same.refl _)
    rw [e] at z
    exact z
theorem scSize : FnScope ["book"] ["book"] (defScope sSize) := ⟨rfl, rfl, rfl, by decide +kernel, rfl, by decide +kernel, by decide +kernel⟩
theorem ok_Size (F : Fun K "has_book_size" "has_book_size" sSize f fd) (T : Gb mg) : FnOk P w K mg base CX0 1 f fd ["book"] (spSize K) := by
  refine F.ok scSize (fun vs H Q E h => ?_) (fun cdv A outer s H vs Q E hr h => ?_)
  · obtain ⟨p, bs, rfl, _⟩ := h
    rfl
  obtain ⟨p, bs, rfl, hS, q⟩ := h
  obtain ⟨t, ht⟩ := T.c_MOST_WORDS
  have hl : (bs.map V.str).length = bs.length := List.length_map _
  refine ⟨_, pss_one (ps_ret (pe_chain op_le op_le pe_int (pe_callB (call_lenK rfl) rfl T.b_len PySem.boot_len (pa_cons (pv 0) pa_nil)) (pe_glob (v := .int 6) rfl ht ⟨_, rfl⟩))), ?_⟩
  refine ⟨_, rfl, p, _, rfl, .inl hS, _, _, rfl, rfl, _, rfl, ?_⟩
  rw [hl]
  refine ite2 (fun k => ?_) (fun k => ?_)
  · have k1 : decide (1 ≤ (bs.length : Int)) = true := k
    rw [k1, Bool.true_and] at q
    exact ⟨_, _, rfl, rfl, q⟩
  · have k1 : decide (1 ≤ (bs.length : Int)) = false := Bool.eq_false_iff.mpr k
    rw [k1, Bool.false_and] at q
    exact q
theorem scCheck : FnScope ["book", "word"] ["book"] (defScope sCheck) := ⟨rfl, rfl, rfl, by decide +kernel, rfl, by decide +kernel, by decide +kernel⟩
theorem ok_Check (F : Fun K "check_book" "check_book" sCheck f fd) (T : Gb mg) (G1 : Has P w K mg base "has_book_size" 1 ["book"] (spSize K)) (G2 : Has P w K mg base "is_word" 2 ["text"] spIsWord) : FnOk P w K mg base CX0 3 f fd ["book"] (spCheck K) := by
  refine F.ok scCheck (fun vs H Q E h => ?_) (fun cdv A outer s H vs Q E hr h => ?_)
  · obtain ⟨p, bs, rfl, _⟩ := h
    rfl
  obtain ⟨p, bs, rfl, hS, hG, q⟩ := h
  have g1 := hG.pos
  have g2 := hG.le
  have hr1 := hr.mono (show 1 ≤ 2 by decide)
  refine ⟨_, pss_cons (ps_if (pt_not (pt_val (pe_has G1 hr1 (by rfl) (pa_cons (pv 0) pa_nil)))) pss_never pss_nil)
    (pss_one (ps_for PassesOwn.never rfl (pi_listK rfl (pv 0)) (pg_name (i := 1) scCheck.nd rfl (Or.inl rfl)) (pss_one (ps_if (pt_not (pt_val (pe_has G2 hr (by rfl) (pa_cons (pv 1) pa_nil)))) pss_never pss_nil)))), ?_⟩
  refine ⟨_, rfl, p, bs, rfl, hS, ?_⟩
  rw [decide_eq_true (show 1 ≤ (bs.length : Int) by omega), decide_eq_true (show (bs.length : Int) ≤ 6 by omega)]
  refine ⟨_, rfl, iteF ?_⟩
  refine ⟨_, rfl, p, rfl, ⟨_, hS⟩, ?_⟩
  refine for_list (xs := bs.map V.str) (fun i σ H' => (∃ kk, σ = [some (.ref p), kk]) ∧ Same H H') ⟨⟨_, rfl⟩, Same.refl _⟩ ?_ ?_ ?_
  · rintro i σ H' _ ⟨_, hs⟩
    exact hs.seq hS
  · rintro i v σ H' hv ⟨⟨kk, rfl⟩, hs⟩
    rw [List.getElem?_map] at hv
    cases e : bs[i]? with
    | none => rw [e] at hv; cases hv
    | some b =>
      rw [e] at hv
      have ev : V.str b = v := Option.some.inj hv
      subst ev
      have wb := hG.words b (List.mem_of_getElem? e)
      have wl := wb.le
      refine ⟨_, rfl, b, rfl, by omega, fun H2 s2 => ?_⟩
      refine ⟨_, rfl, ?_⟩
      rw [wb.isB]
      exact iteF ⟨⟨_, rfl⟩, hs.trans s2⟩
  · rintro σ H' ⟨_, hs⟩
    exact q H' hs
theorem scIsBook : FnScope ["book"] ["book"] (defScope sIsBook) := ⟨rfl, rfl, rfl, by decide +kernel, rfl, by decide +kernel, by decide +kernel⟩
theorem ndIsBook0 : (["word"] : List Str).Nodup := by decide +kernel
theorem ok_IsBook (F : Fun K "is_book" "is_book" sIsBook f fd) (T : Gb mg) (G1 : Has P w K mg base "has_book_size" 1 ["book"] (spSize K)) (G2 : Has P w K mg base "is_word" 2 ["text"] spIsWord) : FnOk P w K mg base CX0 3 f fd ["book"] (spIsBook K) := by
  refine F.ok scIsBook (fun vs H Q E h => ?_) (fun cdv A outer s H vs Q E hr h => ?_)
  · obtain ⟨p, bs, rfl, _⟩ := h
    rfl
  obtain ⟨p, bs, rfl, hS, hw, q⟩ := h
  have hr1 := hr.mono (show 1 ≤ 2 by decide)
  refine ⟨_, pss_one (ps_ret (pe_and (pe_has G1 hr1 (by rfl) (pa_cons (pv 0) pa_nil))
    (pe_one (pe_callB (call_allB rfl) rfl T.b_all boot_all (pa_cons (pe_comp (oN := ["book"]) (osc := defScope sIsBook) (N' := ["word"]) (cap := [none]) rfl rfl rfl (by decide +kernel) rfl (by decide +kernel) (by decide +kernel) (by decide +kernel) rfl
      (pi_listK rfl (pv 0)) (fun _ _ _ _ _ => pg_name (i := 0) ndIsBook0 rfl (Or.inl rfl)) (fun _ _ _ _ _ => pif_none) (fun _ _ _ _ _ => pe_has G2 hr (by rfl) (pa_cons (pv 0) pa_nil))) pa_nil))))), ?_⟩
  refine ⟨_, rfl, p, bs, rfl, hS, _, rfl, ?_⟩
  by_cases k : (decide (1 ≤ (bs.length : Int)) && decide ((bs.length : Int) ≤ 6)) = true
  · rw [k]
    refine iteT ?_
    have hle : bs.length ≤ 6 := by
      have z := (Bool.and_eq_true_iff.mp k).2
      have z' := of_decide_eq_true z
      omega
    refine ⟨_, rfl, p, rfl, ⟨_, hS⟩, fun D hD => ?_⟩
    refine turns_list (xs := bs.map V.str) (fun i σ H' => (∃ kk, σ = [kk]) ∧ Same H H' ∧ H' D = some (.lst (((bs.take i).map isWordB).map V.bl))) ⟨⟨_, rfl⟩, same_new hD _, upd_same⟩ ?_ ?_ ?_
    · rintro i σ H' _ ⟨_, hs, _⟩
      exact hs.seq hS
    · rintro i v σ H' hv ⟨⟨kk, rfl⟩, hs, hD'⟩
      obtain ⟨b, eb, rfl⟩ := at_strs hv
      refine gYes ?_
      refine ⟨_, rfl, b, rfl, hw b (List.mem_of_getElem? eb), fun H2 s2 => ?_⟩
      refine ⟨_, s2 _ _ hD', ?_, ⟨_, rfl⟩, sameUpd (hs.trans s2) hD, ?_⟩
      · rw [List.length_map, List.length_map, List.length_take]
        exact small1000 (by omega)
      · rw [upd_same, take_snoc eb, List.map_append, List.map_append] <;> rfl
    · rintro σ H' ⟨_, hs, hD'⟩
      rw [List.length_map, List.take_length] at hD'
      refine ⟨D, _, rfl, SqL.of hD', ?_⟩
      have e : (bs.map isWordB).all id = bookB bs := by
        unfold bookB
        rw [k, List.all_map]
        rfl
      rw [e]
      exact q H' hs
  · have k' := Bool.eq_false_iff.mpr k
    rw [k']
    refine iteF ?_
    have e : bookB bs = false := by
      unfold bookB
      rw [k', Bool.false_and]
    have z := q H (Same.refl _)
    rw [e] at z
    exact z
theorem scShown : FnScope ["book"] ["book"] (defScope sShown) := ⟨rfl, rfl, rfl, by decide +kernel, rfl, by decide +kernel, by decide +kernel⟩
theorem ok_Shown (F : Fun K "shown" "shown" sShown f fd) (T : Gb mg) (G1 : Has P w K mg base "check_book" 3 ["book"] (spCheck K)) : FnOk P w K mg base CX0 4 f fd ["book"] (spShown K) := by
  refine F.ok scShown (fun vs H Q E h => ?_) (fun cdv A outer s H vs Q E hr h => ?_)
  · obtain ⟨p, bs, rfl, _⟩ := h
    rfl
  obtain ⟨p, bs, rfl, hS, hG, q⟩ := h
  obtain ⟨t, ht⟩ := T.c_LINE_END
  refine ⟨_, pss_cons (ps_expr (pe_has G1 hr (by rfl) (pa_cons (pv 0) pa_nil)))
    (pss_one (ps_ret (pe_bmK rfl PySem.F.plainAttrs_str PySem.F.slot_str_join PySem.F.type_str_join mt_join pe_str (pa_cons (pe_comp (oN := ["book"]) (osc := defScope sShown) (N' := ["word"]) (cap := [none]) rfl rfl rfl (by decide +kernel) rfl (by decide +kernel) (by decide +kernel) (by decide +kernel) rfl
      (pi_listK rfl (pv 0)) (fun _ _ _ _ _ => pg_name (i := 0) ndIsBook0 rfl (Or.inl rfl)) (fun _ _ _ _ _ => pif_none) (fun _ _ _ _ _ => pe_op op_add_str (pv 0) (pe_glob (v := .str "\n") rfl ht ⟨_, rfl⟩))) pa_nil)))), ?_⟩
  refine ⟨_, rfl, p, bs, rfl, hS, hG, fun H1 s1 => ?_⟩
  have hle := hG.le
  refine ⟨rfl, _, rfl, p, rfl, ⟨_, s1.seq hS⟩, fun D hD => ?_⟩
  have wl : ∀ b ∈ bs, b.length + nl.length ≤ 11 := fun b hb => by
    have z := (hG.words b hb).le
    have e : nl.length = 1 := by decide +kernel
    omega
  refine turns_list (xs := bs.map V.str) (fun i σ H' => (∃ kk, σ = [kk]) ∧ Same H1 H' ∧ H' D = some (.lst (((bs.take i).map fun b => b ++ nl).map V.str))) ⟨⟨_, rfl⟩, same_new hD _, upd_same⟩ ?_ ?_ ?_
  · rintro i σ H' _ ⟨_, hs, _⟩
    exact (s1.trans hs).seq hS
  · rintro i v σ H' hv ⟨⟨kk, rfl⟩, hs, hD'⟩
    obtain ⟨b, eb, rfl⟩ := at_strs hv
    have z := wl b (List.mem_of_getElem? eb)
    refine gYes ?_
    refine ⟨_, rfl, b, nl, rfl, rfl, small1000 (by omega), _, hD', ?_, ⟨_, rfl⟩, sameUpd hs hD, ?_⟩
    · rw [List.length_map, List.length_map, List.length_take]
      exact small1000 (by omega)
    · rw [upd_same, take_snoc eb, List.map_append, List.map_append] <;> rfl
  · rintro σ H' ⟨_, hs, hD'⟩
    rw [List.length_map, List.take_length] at hD'
    have hz : (Str.ofString "").length = 0 := len_nil
    have hsum : ((bs.map fun b => b ++ nl).map (·.length)).sum ≤ 11 * (bs.map fun b => b ++ nl).length := sum_len (m := 11) fun y hy => by
      obtain ⟨b, hb, rfl⟩ := List.mem_map.mp hy
      have e : (b ++ nl).length = b.length + nl.length := Array.size_append
      rw [e]
      exact wl b hb
    rw [List.length_map] at hsum
    refine ⟨_, D, _, rfl, rfl, SqL.of hD', ?_, q H' (s1.trans hs)⟩
    rw [hz, List.length_map]
    omega
theorem scRead : FnScope ["text", "lines", "book"] ["text"] (defScope sRead) := ⟨rfl, rfl, rfl, by decide +kernel, rfl, by decide +kernel, by decide +kernel⟩
theorem ok_Read {CL CB CW CO CN : Addr} (F : Fun K "read" "read" sRead f fd) (T : Gb mg) (R : Er K mg CL CB CW CO CN) (G1 : Has P w K mg base "is_book" 3 ["book"] (spIsBook K)) : FnOk P w K mg base (CXR P w) 4 f fd ["text"] (spRead CN) := by
  refine LW.Fun.okR F scRead (fun vs H Q E h => ?_) (fun cdv A outer s H vs Q E hr h => ?_)
  · obtain ⟨x, rfl, _⟩ := h
    rfl
  obtain ⟨x, rfl, hx, q1, q2⟩ := h
  obtain ⟨t, ht⟩ := T.c_LINE_END
  refine ⟨_, pss_cons (ps_set (i := 1) scRead.nd rfl (Or.inl rfl) (pe_bmK rfl PySem.F.plainAttrs_str PySem.F.slot_str_split PySem.F.type_str_split mt_split (pv 0) (pa_cons (pe_glob (v := .str "\n") rfl ht ⟨_, rfl⟩) pa_nil)))
    (pss_cons (ps_set (i := 2) scRead.nd rfl (Or.inl rfl) (pe_slice (sl_listK rfl) (pv 1) po_none (po_some (pe_un un_neg pe_int))))
    (pss_cons (ps_if (PW.pt (pw_or (pt_cmpR op_ne (pe_ix (ix_listK rfl) (pv 1) (pe_un un_neg pe_int) (fun _ _ => rfl)) pe_str (nomark _)) (pw_or1 (pt_not (pt_val (pe_has G1 hr (by rfl) (pa_cons (pv 2) pa_nil))))))) (pss_one (ps_raise R.ex rfl R.mN (pa_cons pe_str pa_nil))) pss_nil)
    (pss_one (ps_ret (pv 2))))), ?_⟩
  refine ⟨_, rfl, rfl, x, nl, rfl, rfl, nl_len, Nat.le_trans hx (by decide), fun p1 hp1 => ?_⟩
  have h1 : upd H p1 (.lst ((partsOf x).map V.str)) p1 = some (.lst ((partsOf x).map V.str)) := upd_same
  have pn := parts_ne x
  have pm : (partsOf x).map V.str ≠ [] := fun z => pn (List.map_eq_nil_iff.mp z)
  refine ⟨_, rfl, _, rfl, _, rfl, p1, _, rfl, SqL.of h1, fun p2 hp2 => ?_⟩
  have e2 := cut_last _ pm
  rw [← List.map_dropLast] at e2
  have cu : ∀ z : Int, z = -1 → cutV ((partsOf x).map V.str) none (some z) = (partsOf x).dropLast.map V.str := fun z hz => by rw [hz]; exact e2
  rw [cu _ rfl]
  have s1 : Same H (upd H p1 (.lst ((partsOf x).map V.str))) := same_new hp1 _
  have s2 : Same H (upd (upd H p1 (.lst ((partsOf x).map V.str))) p2 (.lst ((partsOf x).dropLast.map V.str))) := sameUpd s1 (s1.free hp2)
  have h21 : upd (upd H p1 (.lst ((partsOf x).map V.str))) p2 (.lst ((partsOf x).dropLast.map V.str)) p1 = some (.lst ((partsOf x).map V.str)) := by
    rw [upd_ne (ne_of_none h1 hp2)]
    exact h1
  have h22 : upd (upd H p1 (.lst ((partsOf x).map V.str))) p2 (.lst ((partsOf x).dropLast.map V.str)) p2 = some (.lst ((partsOf x).dropLast.map V.str)) := upd_same
  refine ⟨_, rfl, _, rfl, p1, _, _, _, rfl, rfl, SqL.of h21, at_last _ pn, rfl, _, rfl, ?_⟩
  by_cases hl : V.str (lastS (partsOf x)) = V.str (Str.ofString "")
  · have hl' : lastS (partsOf x) = "" := by injection hl
    refine iteNS hl ?_
    refine ⟨_, rfl, p2, _, rfl, SqL.of h22, fun b hb => Nat.le_trans (parts_short ((List.dropLast_subset _) hb)) hx, fun H3 s3 => ?_⟩
    have nb : noteB x = bookB (partsOf x).dropLast := by unfold noteB; rw [decide_eq_true hl', Bool.true_and]
    refine ⟨_, rfl, ?_⟩
    by_cases hb : bookB (partsOf x).dropLast = true
    · rw [hb]
      refine iteF ?_
      exact ⟨_, rfl, q1 (nb.trans hb) p2 H3 (s1.free hp2) (s2.trans s3) (s3 _ _ h22)⟩
    · have hb' := Bool.eq_false_iff.mpr hb
      rw [hb']
      refine iteT ?_
      exact ⟨by decide, q2 (nb.trans hb') H3 (s2.trans s3)⟩
  · refine iteNT hl ?_
    refine iteT ?_
    exact ⟨by decide, q2 (by unfold noteB; rw [decide_eq_false (fun z => hl (congrArg V.str z)), Bool.false_and]) _ s2⟩
theorem scCell : FnScope ["script", "k"] ["script", "k"] (defScope sCell) := ⟨rfl, rfl, rfl, by decide +kernel, rfl, by decide +kernel, by decide +kernel⟩
theorem ok_Cell (F : Fun K "_law_cell_at" "_law_cell_at" sCell f fd) (T : Gb mg) : FnOk P w K mg base CX0 1 f fd ["script", "k"] (spCell K) := by
  refine F.ok scCell (fun vs H Q E h => ?_) (fun cdv A outer s H vs Q E hr h => ?_)
  · obtain ⟨a, ns, k, rfl, _⟩ := h
    rfl
  obtain ⟨a, ns, k, rfl, hS, h0, q⟩ := h
  refine ⟨_, pss_cons (ps_if (pt_cmpR op_lt (pv 1) (pe_callB call_len_seq rfl T.b_len PySem.boot_len (pa_cons (pv 0) pa_nil)) (nomark _)) (pss_one (ps_ret (pe_ix ix_list (pv 0) (pv 1) (fun _ _ => rfl)))) pss_nil)
    (pss_one (ps_ret pe_int)), ?_⟩
  have hl : (ns.map V.int).length = ns.length := List.length_map _
  refine ⟨_, rfl, _, rfl, a, _, rfl, .inl hS, _, _, rfl, rfl, _, rfl, ?_⟩
  refine ite2 (fun c => ?_) (fun c => ?_)
  · have c' : k < (((ns.map V.int).length : Nat) : Int) := of_decide_eq_true c
    rw [hl] at c'
    exact ⟨_, rfl, _, rfl, a, _, _, _, rfl, rfl, hS, getD_at h0 c', q⟩
  · have c' : ¬ k < (((ns.map V.int).length : Nat) : Int) := of_decide_eq_false (Bool.eq_false_iff.mpr c)
    rw [hl] at c'
    rw [getD_out c'] at q
    exact q
theorem scWord : FnScope ["cell", "letters", "most", "size", "word", "k"] ["cell", "letters", "most"] (defScope sWord) := ⟨rfl, rfl, rfl, by decide +kernel, rfl, by decide +kernel, by decide +kernel⟩
theorem ok_Word (F : Fun K "_law_word" "_law_word" sWord f fd) (T : Gb mg) : FnOk P w K mg base CX0 1 f fd ["cell", "letters", "most"] spWord := by
  refine F.ok scWord (fun vs H Q E h => ?_) (fun cdv A outer s H vs Q E hr h => ?_)
  · obtain ⟨c, l, m, rfl, _⟩ := h
    rfl
  obtain ⟨c, l, m, rfl, hc, hl1, hl2, hm1, hm2, q⟩ := h
  refine ⟨_, pss_cons (ps_set (i := 3) scWord.nd rfl (Or.inl rfl) (pe_op op_add pe_int (pe_op op_mod (pv 0) (pv 2))))
    (pss_cons (ps_set (i := 0) scWord.nd rfl (Or.inl rfl) (pe_op op_fdiv (pv 0) (pv 2)))
    (pss_cons (ps_set (i := 4) scWord.nd rfl (Or.inl rfl) pe_str)
    (pss_cons (ps_for PassesOwn.never rfl (pi_range1 rfl T.b_range (pa_cons (pv 3) pa_nil)) (pg_name (i := 5) scWord.nd rfl (Or.inl rfl))
      (pss_cons (ps_set (i := 4) scWord.nd rfl (Or.inl rfl) (pe_op op_add_str (pv 4) (pe_ix ix_str pe_str (pe_op op_mod (pv 0) (pv 1)) (fun _ _ => rfl))))
      (pss_cons (ps_set (i := 0) scWord.nd rfl (Or.inl rfl) (pe_op op_fdiv (pv 0) (pv 1)))
      (pss_one (ps_if (pt_cmpR op_gt (pv 1) pe_int (nomark _)) (pss_one (ps_set (i := 0) scWord.nd rfl (Or.inl rfl) (pe_op op_mod (pe_op op_add (pe_op op_add (pe_op op_mulB (pv 0) (pv 0)) (pe_op op_mulB pe_int (pe_op op_add (pv 0) (pv 5)))) pe_int) pe_int))) pss_nil)))))
    (pss_one (ps_ret (pv 4)))))), ?_⟩
  have r0 := Int.emod_nonneg c (show (m : Int) ≠ 0 by omega)
  have r1 := Int.emod_lt_of_pos c (show (0 : Int) < (m : Int) by omega)
  refine ⟨_, rfl, _, rfl, _, _, rfl, rfl, (by show (0 : Int) < (m : Int); omega), _, _, rfl, rfl, ?_⟩
  refine ⟨_, rfl, _, rfl, _, _, rfl, rfl, ⟨by show (0 : Int) < (m : Int); omega, by show (m : Int) < 1073741824; omega⟩, ?_⟩
  refine ⟨_, rfl, _, rfl, by omega, by omega, ?_⟩
  refine for_range (fun i σ H' => H' = H ∧ ∃ (c' : Int) (x : Str) (kk : Option V), σ = [some (.int c'), some (.int l), some (.int m), some (.int (1 + c % (m : Int))), some (.str x), kk] ∧ intBits c' ≤ 2 ^ 20 ∧ x.length = i ∧ Low x) ⟨rfl, _, _, _, rfl, bits_ediv hc (by omega), len_nil, Low.nil⟩ ?_ ?_
  · rintro i σ H' hi ⟨rfl, c', x, kk, rfl, hc', hx, lx⟩
    have s0 := Int.emod_nonneg c' (show l ≠ 0 by omega)
    have s1 := Int.emod_lt_of_pos c' (show 0 < l by omega)
    obtain ⟨z, hz, z0, z1⟩ := alpha_at s0 (by omega)
    refine ⟨_, rfl, _, rfl, _, rfl, _, _, rfl, rfl, (by show 0 < l; omega), alpha, _, z, rfl, rfl, alpha_len, hz, _, _, rfl, rfl, (by rw [hx]; show i + 1 ≤ sizeLine; exact small (by omega)), ?_⟩
    refine ⟨_, rfl, _, rfl, _, _, rfl, rfl, ⟨by show 0 < l; omega, by show l < 1073741824; omega⟩, ?_⟩
    have hd := bits_ediv hc' (show 0 < l by omega)
    have nlen : (x ++ (⟨#[z]⟩ : Str)).length = i + 1 := by rw [len_app, hx]; rfl
    refine ⟨_, rfl, _, _, rfl, rfl, _, rfl, ?_⟩
    refine ite2 (fun _ => ?_) (fun _ => ?_)
    · have m0 := Int.emod_nonneg (c' / l * (c' / l) + 48271 * (c' / l + (0 + (i : Int))) + 69621) (show (2147483647 : Int) ≠ 0 by decide)
      have m1 := Int.emod_lt_of_pos (c' / l * (c' / l) + 48271 * (c' / l + (0 + (i : Int))) + 69621) (show (0 : Int) < 2147483647 by decide)
      exact ⟨_, rfl, _, rfl, _, _, rfl, rfl, mulOk_sq hd, _, rfl, _, rfl, _, _, rfl, rfl, _, _, rfl, rfl, mulOk_l, _, _, rfl, rfl, _, _, rfl, rfl, _, _, rfl, rfl, (by show (0 : Int) < 2147483647; decide), rfl, _, _, _, rfl, bits_small m0 m1, nlen, lx.app (Low.one z0 z1)⟩
    · exact ⟨rfl, _, _, _, rfl, hd, nlen, lx.app (Low.one z0 z1)⟩
  · rintro σ H' ⟨rfl, c', x, kk, rfl, hc', hx, lx⟩
    exact ⟨_, rfl, q x ⟨by omega, by omega, lx⟩⟩
theorem scPiece : FnScope ["word", "cell", "low"] ["word", "cell"] (defScope sPiece) := ⟨rfl, rfl, rfl, by decide +kernel, rfl, by decide +kernel, by decide +kernel⟩
theorem ok_Piece (F : Fun K "_law_piece" "_law_piece" sPiece f fd) (T : Gb mg) : FnOk P w K mg base CX0 1 f fd ["word", "cell"] spPiece := by
  refine F.ok scPiece (fun vs H Q E h => ?_) (fun cdv A outer s H vs Q E hr h => ?_)
  · obtain ⟨x, c, m, rfl, _⟩ := h
    rfl
  obtain ⟨x, c, m, rfl, hx, hm, q⟩ := h
  refine ⟨_, pss_cons (ps_set (i := 2) scPiece.nd rfl (Or.inl rfl) (pe_op op_mod (pv 1) (pe_callB call_len_str rfl T.b_len PySem.boot_len (pa_cons (pv 0) pa_nil))))
    (pss_one (ps_ret (pe_slice sl_str (pv 0) (po_some (pv 2)) (po_some (pe_op op_add (pe_op op_add (pv 2) pe_int) (pe_op op_mod (pe_op op_fdiv (pv 1) pe_int) (pe_op op_sub (pe_callB call_len_str rfl T.b_len PySem.boot_len (pa_cons (pv 0) pa_nil)) (pv 2)))))))), ?_⟩
  have h1 := hx.pos
  have h2 := hx.le
  have r0 := Int.emod_nonneg c (show (x.length : Int) ≠ 0 by omega)
  have r1 := Int.emod_lt_of_pos c (show (0 : Int) < (x.length : Int) by omega)
  have t0 := Int.emod_nonneg (c / 10) (show (x.length : Int) - c % (x.length : Int) ≠ 0 by omega)
  have t1 := Int.emod_lt_of_pos (c / 10) (show (0 : Int) < (x.length : Int) - c % (x.length : Int) by omega)
  have key : ∀ lo d : Int, 0 ≤ lo → lo < (x.length : Int) → 0 ≤ d → d < (x.length : Int) - lo → Word m (Txt.slice x (some lo) (some (lo + 1 + d))) := fun lo d g0 g1 g2 g3 => by
    have e1 : lo = ((lo.toNat : Nat) : Int) := by omega
    have e2 : lo + 1 + d = (((lo + 1 + d).toNat : Nat) : Int) := by omega
    have hl := slice_nn_len x lo.toNat (lo + 1 + d).toNat
    rw [← e1, ← e2] at hl
    exact ⟨by rw [hl]; omega, by rw [hl]; omega, hx.low.slice _ _⟩
  exact ⟨_, rfl, _, rfl, x, rfl, small (by omega), _, _, rfl, rfl, (by show (0 : Int) < (x.length : Int); omega), _, rfl, _, rfl, _, rfl, _, rfl, _, _, rfl, rfl, _, rfl, _, _, rfl, rfl, ⟨by decide, by decide⟩, _, rfl, x, rfl, small (by omega), _, rfl, _, _, rfl, rfl, _, _, rfl, rfl, (by show (0 : Int) < (x.length : Int) - c % (x.length : Int); omega), _, _, rfl, rfl, _, rfl, x, rfl, small (by omega), q _ (key _ _ r0 r1 t0 t1)⟩
theorem scJoined : FnScope ["one", "other", "most"] ["one", "other", "most"] (defScope sJoined) := ⟨rfl, rfl, rfl, by decide +kernel, rfl, by decide +kernel, by decide +kernel⟩
theorem ok_Joined (F : Fun K "_law_joined" "_law_joined" sJoined f fd) (T : Gb mg) : FnOk P w K mg base CX0 1 f fd ["one", "other", "most"] spJoined := by
  refine F.ok scJoined (fun vs H Q E h => ?_) (fun cdv A outer s H vs Q E hr h => ?_)
  · obtain ⟨x, z, m, rfl, _⟩ := h
    rfl
  obtain ⟨x, z, m, rfl, hx, hz, hm, q⟩ := h
  refine ⟨_, pss_one (ps_ret (pe_slice sl_str (pe_op op_add_str (pe_slice sl_str (pv 0) (po_some (pe_op op_fdiv (pe_callB call_len_str rfl T.b_len PySem.boot_len (pa_cons (pv 0) pa_nil)) pe_int)) po_none) (pv 1)) po_none (po_some (pv 2)))), ?_⟩
  have h1 := hx.pos
  have h2 := hx.le
  have h3 := hz.pos
  have h4 := hz.le
  have hs := Txt.slice_le x (some ((x.length : Int) / 2)) none
  refine ⟨_, rfl, _, rfl, x, rfl, small (by omega), _, _, rfl, rfl, ⟨by decide, by decide⟩, _, rfl, x, rfl, small (by omega), _, rfl, _, _, rfl, rfl, small (by omega), _, rfl, _, rfl, _, rfl, small (by rw [len_app]; omega), ?_⟩
  have hl := slice_to_len (Txt.slice x (some ((x.length : Int) / 2)) none ++ z) m
  rw [len_app] at hl
  exact q _ ⟨by rw [hl]; omega, by rw [hl]; omega, ((hx.low.slice _ _).app hz.low).slice _ _⟩
theorem scBook : FnScope ["script", "start", "words", "most", "way", "letters", "book", "cell"] ["script", "start", "words", "most"] (defScope sBook) := ⟨rfl, rfl, rfl, by decide +kernel, rfl, by decide +kernel, by decide +kernel⟩
theorem ndBook : (["k", "script", "start", "letters", "most"] : List Str).Nodup := by decide +kernel
theorem pick6 {i : Int} (h0 : 0 ≤ i) (h1 : i < 6) : ∃ l : Int, atI [V.int 2, .int 2, .int 3, .int 4, .int 26, .int 1] i = some (.int l) ∧ 1 ≤ l ∧ l ≤ 26 := by
  have e : i = 0 ∨ i = 1 ∨ i = 2 ∨ i = 3 ∨ i = 4 ∨ i = 5 := by omega
  rcases e with rfl | rfl | rfl | rfl | rfl | rfl
  · exact ⟨2, rfl, by decide, by decide⟩
  · exact ⟨2, rfl, by decide, by decide⟩
  · exact ⟨3, rfl, by decide, by decide⟩
  · exact ⟨4, rfl, by decide, by decide⟩
  · exact ⟨26, rfl, by decide, by decide⟩
  · exact ⟨1, rfl, by decide, by decide⟩
theorem ok_Book (F : Fun K "_law_book" "_law_book" sBook f fd) (T : Gb mg) (G1 : Has P w K mg base "_law_cell_at" 1 ["script", "k"] (spCell K)) (G2 : Has P w K mg base "_law_word" 1 ["cell", "letters", "most"] spWord)
    (G3 : Has P w K mg base "_law_piece" 1 ["word", "cell"] spPiece) (G4 : Has P w K mg base "_law_joined" 1 ["one", "other", "most"] spJoined) : FnOk P w K mg base CX0 2 f fd ["script", "start", "words", "most"] (spBook K) := by
  refine F.ok scBook (fun vs H Q E h => ?_) (fun cdv A outer s H vs Q E hr h => ?_)
  · obtain ⟨a, ns, st, n, m, rfl, _⟩ := h
    rfl
  obtain ⟨a, ns, st, n, m, rfl, hS, hB, hst, hn1, hn2, hm1, hm2, q⟩ := h
  refine ⟨_, pss_cons (ps_set (i := 4) scBook.nd rfl (Or.inl rfl) (pe_op op_mod (pe_has G1 hr (by rfl) (pa_cons (pv 0) (pa_cons (pv 1) pa_nil))) pe_int))
    (pss_cons (ps_set (i := 5) scBook.nd rfl (Or.inr rfl) (pe_ix ix_list (pe_lst (pa_cons pe_int (pa_cons pe_int (pa_cons pe_int (pa_cons pe_int (pa_cons pe_int (pa_cons pe_int pa_nil))))))) (pv 4) (fun _ _ => rfl)))
    (pss_cons (ps_setComp (i := 6) (oN := ["script", "start", "words", "most", "way", "letters", "book", "cell"]) (osc := defScope sBook) (N' := ["k", "script", "start", "letters", "most"]) (cap := [none, some 0, some 1, some 5, some 3]) scBook.nd rfl (Or.inl rfl) rfl rfl rfl (by decide +kernel) rfl (by decide +kernel) (by decide +kernel) (by decide +kernel) rfl
        (pi_range1 rfl T.b_range (pa_cons (pv 2) pa_nil)) (fun _ _ _ _ _ => pg_name (i := 0) ndBook rfl (Or.inl rfl)) (fun _ _ _ _ _ => pif_none)
        (fun _ _ _ _ _ => pe_has G2 hr (by rfl) (pa_cons (pe_has G1 hr (by rfl) (pa_cons (pv 1) (pa_cons (pe_op op_add (pe_op op_add (pv 2) pe_int) (pv 0)) pa_nil))) (pa_cons (pv 3) (pa_cons (pv 4) pa_nil)))))
    (pss_cons (ps_set (i := 7) scBook.nd rfl (Or.inl rfl) (pe_has G1 hr (by rfl) (pa_cons (pv 0) (pa_cons (pe_op op_add (pv 1) pe_int) pa_nil))))
    (pss_cut (ps_if (PW.pt (pw_and (pt_cmpR op_eq (pe_op op_mod (pv 7) pe_int) pe_int (nomark _)) (pw_and1 (pt_cmpR op_gt (pv 2) pe_int (nomark _)))))
        (pss_one (ps_asg (pe_has G3 hr (by rfl) (pa_cons (pe_ix ix_list (pv 6) (pe_op op_mod (pe_op op_fdiv (pv 7) pe_int) (pv 2)) (fun _ _ => rfl)) (pa_cons (pe_op op_fdiv (pv 7) pe_int) pa_nil))) (pg_sub (pv 6) (pe_op op_mod (pe_op op_fdiv (pv 7) pe_int) (pv 2)) set_list))) pss_nil)
    (pss_cut (ps_if (PW.pt (pw_and (pt_cmpR op_eq (pe_op op_mod (pv 7) pe_int) pe_int (nomark _)) (pw_and1 (pt_cmpR op_gt (pv 2) pe_int (nomark _)))))
        (pss_one (ps_asg (pe_has G4 hr (by rfl) (pa_cons (pe_ix ix_list (pv 6) (pe_op op_mod (pe_op op_fdiv (pv 7) pe_int) (pv 2)) (fun _ _ => rfl)) (pa_cons (pe_ix ix_list (pv 6) (pe_op op_mod (pe_op op_fdiv (pv 7) pe_int) (pv 2)) (fun _ _ => rfl)) (pa_cons (pv 3) pa_nil)))) (pg_sub (pv 6) (pe_op op_mod (pe_op op_fdiv (pv 7) pe_int) (pv 2)) set_list))) pss_nil)
    (pss_one (ps_ret (pv 6)))))))), ?_⟩
  have r0 := Int.emod_nonneg (ns.getD st.toNat 0) (show (6 : Int) ≠ 0 by decide)
  have r1 := Int.emod_lt_of_pos (ns.getD st.toNat 0) (show (0 : Int) < 6 by decide)
  obtain ⟨l, hl, l0, l1⟩ := pick6 r0 r1
  refine ⟨_, rfl, _, rfl, a, ns, st, rfl, hS, hst, _, _, rfl, rfl, (by show (0 : Int) < 6; decide), ?_⟩
  refine ⟨(by show 6 ≤ sizeLine; decide), fun p0 n0 => ?_⟩
  have g0 : Same H (upd H p0 (.lst [.int 2, .int 2, .int 3, .int 4, .int 26, .int 1])) := same_new n0 _
  refine ⟨_, rfl, p0, _, _, _, rfl, rfl, SqL.of upd_same, hl, ?_⟩
  generalize upd H p0 (.lst [.int 2, .int 2, .int 3, .int 4, .int 26, .int 1]) = H1 at g0 ⊢
  refine ⟨_, rfl, _, rfl, by omega, by omega, fun D hD => ?_⟩
  have hHD : H D = none := g0.free hD
  refine turns_range (fun i σ H' => ∃ (kk : Option V) (bs : List Str), σ = [kk, some (.ref a), some (.int st), some (.int l), some (.int m)] ∧ Same H H' ∧ H' D = some (.lst (bs.map V.str)) ∧ bs.length = i ∧ ∀ b ∈ bs, Word m b) ⟨_, [], rfl, sameUpd g0 hHD, upd_same, rfl, fun b hb => by cases hb⟩ ?_ ?_
  · rintro i σ H' hi ⟨kk, bs, rfl, hs, hD', hlen, hW⟩
    refine gYes ?_
    refine ⟨_, rfl, _, rfl, _, _, rfl, rfl, _, rfl, _, _, rfl, rfl, a, ns, _, rfl, hs.seq hS, by omega, _, rfl, _, rfl, _, l, m, rfl, bits_getD hB _, l0, l1, hm1, hm2, fun x wx => ?_⟩
    refine ⟨_, hD', (by rw [List.length_map, hlen]; exact small1000 (by omega)), _, bs ++ [x], rfl, sameUpd hs hHD, ?_, (by rw [List.length_append, hlen] <;> rfl), fun b hb => ?_⟩
    · rw [upd_same, List.map_append] <;> rfl
    · rcases List.mem_append.mp hb with z | z
      · exact hW b z
      · rw [List.mem_singleton.mp z]; exact wx
  rintro σ' H2 ⟨kk, bs, rfl, hs, hD', hlen, hW⟩
  have hlen' : bs.length = n := by omega
  refine ⟨_, rfl, _, rfl, _, _, rfl, rfl, a, ns, _, rfl, hs.seq hS, by omega, ?_⟩
  generalize ns.getD (st + 1).toNat 0 = c
  have n0 := Int.emod_nonneg (c / 4) (show (n : Int) ≠ 0 by omega)
  have n1 := Int.emod_lt_of_pos (c / 4) (show (0 : Int) < (n : Int) by omega)
  have k0 := Int.emod_nonneg (c / 24) (show (n : Int) ≠ 0 by omega)
  have k1 := Int.emod_lt_of_pos (c / 24) (show (0 : Int) < (n : Int) by omega)
  have hnp : (0 : Int) < (n : Int) := by omega
  refine ⟨fun σ H' => ∃ bs : List Str, σ = [some (.ref a), some (.int st), some (.int n), some (.int m), some (.int (ns.getD st.toNat 0 % 6)), some (.int l), some (.ref D), some (.int c)] ∧ Same H H' ∧ H' D = some (.lst (bs.map V.str)) ∧ bs.length = n ∧ ∀ b ∈ bs, Word m b, ?_, ?_⟩
  · have no : ∃ bs' : List Str, ([some (.ref a), some (.int st), some (.int n), some (.int m), some (.int (ns.getD st.toNat 0 % 6)), some (.int l), some (.ref D), some (.int c)] : L2.St) = [some (.ref a), some (.int st), some (.int n), some (.int m), some (.int (ns.getD st.toNat 0 % 6)), some (.int l), some (.ref D), some (.int c)] ∧ Same H H2 ∧ H2 D = some (.lst (bs'.map V.str)) ∧ bs'.length = n ∧ ∀ b ∈ bs', Word m b := ⟨bs, rfl, hs, hD', hlen', hW⟩
    refine ⟨_, rfl, _, _, rfl, rfl, (by show (0 : Int) < 4; decide), rfl, _, rfl, ?_⟩
    refine ite2 (fun _ => ?_) (fun _ => iteF no)
    refine ⟨_, rfl, _, _, rfl, rfl, _, rfl, ?_⟩
    refine ite2 (fun _ => ?_) (fun _ => no)
    obtain ⟨x, hx, _, ex⟩ := atI_strs (bs := bs) k0 (by omega)
    refine ⟨_, rfl, _, rfl, _, _, rfl, rfl, ⟨by decide, by decide⟩, _, rfl, _, _, rfl, rfl, hnp, D, _, _, _, rfl, rfl, SqL.of hD', ex, _, rfl, _, _, rfl, rfl, ⟨by decide, by decide⟩, x, _, m, rfl, hW x hx, hm2, fun y wy => ?_⟩
    refine ⟨_, rfl, _, rfl, _, _, rfl, rfl, ⟨by decide, by decide⟩, _, rfl, _, _, rfl, rfl, hnp, D, _, _, _, rfl, rfl, hD', ixN_nat n0 (by rw [List.length_map]; omega), bs.set (c / 4 % (n : Int)).toNat y, rfl, sameUpd hs hHD, ?_, (by rw [List.length_set]; exact hlen'), words_set hW wy⟩
    rw [upd_same, List.map_set]
  rintro σ' H3 ⟨bs, rfl, hs, hD', hlen', hW⟩
  refine ⟨fun σ H' => ∃ bs : List Str, σ = [some (.ref a), some (.int st), some (.int n), some (.int m), some (.int (ns.getD st.toNat 0 % 6)), some (.int l), some (.ref D), some (.int c)] ∧ Same H H' ∧ H' D = some (.lst (bs.map V.str)) ∧ bs.length = n ∧ ∀ b ∈ bs, Word m b, ?_, ?_⟩
  · have no : ∃ bs' : List Str, ([some (.ref a), some (.int st), some (.int n), some (.int m), some (.int (ns.getD st.toNat 0 % 6)), some (.int l), some (.ref D), some (.int c)] : L2.St) = [some (.ref a), some (.int st), some (.int n), some (.int m), some (.int (ns.getD st.toNat 0 % 6)), some (.int l), some (.ref D), some (.int c)] ∧ Same H H3 ∧ H3 D = some (.lst (bs'.map V.str)) ∧ bs'.length = n ∧ ∀ b ∈ bs', Word m b := ⟨bs, rfl, hs, hD', hlen', hW⟩
    refine ⟨_, rfl, _, _, rfl, rfl, (by show (0 : Int) < 4; decide), rfl, _, rfl, ?_⟩
    refine ite2 (fun _ => ?_) (fun _ => iteF no)
    refine ⟨_, rfl, _, _, rfl, rfl, _, rfl, ?_⟩
    refine ite2 (fun _ => ?_) (fun _ => no)
    obtain ⟨x, hx, _, ex⟩ := atI_strs (bs := bs) k0 (by omega)
    obtain ⟨z, hz, _, ez⟩ := atI_strs (bs := bs) n0 (by omega)
    refine ⟨_, rfl, _, rfl, _, _, rfl, rfl, ⟨by decide, by decide⟩, _, rfl, _, _, rfl, rfl, hnp, D, _, _, _, rfl, rfl, SqL.of hD', ex, _, rfl, _, rfl, _, _, rfl, rfl, ⟨by decide, by decide⟩, _, rfl, _, _, rfl, rfl, hnp, D, _, _, _, rfl, rfl, SqL.of hD', ez, _, rfl, x, z, m, rfl, hW x hx, hW z hz, hm2, fun y wy => ?_⟩
    refine ⟨_, rfl, _, rfl, _, _, rfl, rfl, ⟨by decide, by decide⟩, _, rfl, _, _, rfl, rfl, hnp, D, _, _, _, rfl, rfl, hD', ixN_nat n0 (by rw [List.length_map]; omega), bs.set (c / 4 % (n : Int)).toNat y, rfl, sameUpd hs hHD, ?_, (by rw [List.length_set]; exact hlen'), words_set hW wy⟩
    rw [upd_same, List.map_set]
  rintro σ' H4 ⟨bs, rfl, hs, hD', hlen', hW⟩
  exact ⟨_, rfl, q D bs H4 hHD hs hD' hlen' hW⟩
theorem rep_wt (n : Nat) : wt (List.replicate n (Str.ofString "ab")) = 3 * n := by
  have e : (Str.ofString "ab").length = 2 := by decide +kernel
  induction n with
  | zero => rfl
  | succ n ih =>
    unfold wt at ih ⊢
    rw [List.replicate_succ, List.map_cons, List.sum_cons, List.length_cons, e]
    omega
theorem rep_strs (n : Nat) : (List.replicate n [V.str (Str.ofString "ab")]).flatten = (List.replicate n (Str.ofString "ab")).map V.str := by
  rw [List.flatten_replicate_singleton, List.map_replicate]
theorem scSpoiled : FnScope ["text", "way", "cell", "other", "sign", "at", "lines", "spot"] ["text", "way", "cell", "other"] (defScope sSpoiled) := ⟨rfl, rfl, rfl, by decide +kernel, rfl, by decide +kernel, by decide +kernel⟩
theorem ok_Spoiled (F : Fun K "_law_spoiled" "_law_spoiled" sSpoiled f fd) (T : Gb mg) : FnOk P w K mg base CX0 1 f fd ["text", "way", "cell", "other"] spSpoiled := by
  refine F.ok scSpoiled (fun vs H Q E h => ?_) (fun cdv A outer s H vs Q E hr h => ?_)
  · obtain ⟨x, a, b, c, rfl, _⟩ := h
    rfl
  obtain ⟨x, way, cell, other, rfl, hx, q⟩ := h
  refine ⟨_, pss_cons (ps_set (i := 4) scSpoiled.nd rfl (Or.inl rfl) (pe_ix ix_str pe_str (pe_op op_mod (pv 3) pe_int) (fun _ _ => rfl)))
    (pss_cons (ps_set (i := 5) scSpoiled.nd rfl (Or.inl rfl) (pe_op op_mod (pv 2) (pe_op op_add (pe_callB call_len_str rfl T.b_len PySem.boot_len (pa_cons (pv 0) pa_nil)) pe_int)))
    (pss_cons (ps_set (i := 6) scSpoiled.nd rfl (Or.inl rfl) (pe_bmK rfl PySem.F.plainAttrs_str PySem.F.slot_str_split PySem.F.type_str_split mt_split (pv 0) (pa_cons pe_str pa_nil)))
    (pss_cons (ps_set (i := 7) scSpoiled.nd rfl (Or.inl rfl) (pe_op op_mod (pv 2) (pe_callB (call_lenK rfl) rfl T.b_len PySem.boot_len (pa_cons (pv 6) pa_nil))))
    (pss_cons (ps_if (pt_cmpR op_eq (pv 1) pe_int (nomark _)) (pss_one (ps_ret (pe_op op_add_str (pe_op op_add_str (pe_slice sl_str (pv 0) po_none (po_some (pv 5))) (pv 4)) (pe_slice sl_str (pv 0) (po_some (pv 5)) po_none)))) pss_nil)
    (pss_cons (ps_if (pt_cmpR op_eq (pv 1) pe_int (nomark _)) (pss_one (ps_ret (pe_op op_add_str (pe_op op_add_str (pe_slice sl_str (pv 0) po_none (po_some (pv 5))) (pv 4)) (pe_slice sl_str (pv 0) (po_some (pe_op op_add (pv 5) pe_int)) po_none)))) pss_nil)
    (pss_cons (ps_if (pt_cmpR op_eq (pv 1) pe_int (nomark _)) (pss_one (ps_ret (pe_op op_add_str (pe_slice sl_str (pv 0) po_none (po_some (pv 5))) (pe_slice sl_str (pv 0) (po_some (pe_op op_add (pv 5) pe_int)) po_none)))) pss_nil)
    (pss_cons (ps_if (pt_cmpR op_eq (pv 1) pe_int (nomark _)) (pss_one (ps_set (i := 6) scSpoiled.nd rfl (Or.inl rfl) (pe_op op_cat (pe_slice (sl_listK rfl) (pv 6) po_none (po_some (pv 7))) (pe_slice (sl_listK rfl) (pv 6) (po_some (pe_op op_add (pv 7) pe_int)) po_none)))) pss_nil)
    (pss_cons (ps_if (pt_cmpR op_eq (pv 1) pe_int (nomark _)) (pss_one (ps_set (i := 6) scSpoiled.nd rfl (Or.inl rfl) (pe_op op_cat (pe_op op_cat (pe_slice (sl_listK rfl) (pv 6) po_none (po_some (pv 7))) (pe_lst (pa_cons (pe_ix (ix_listK rfl) (pe_lst (pa_cons pe_str (pa_cons pe_str (pa_cons pe_str pa_nil)))) (pe_op op_mod (pv 3) pe_int) (fun _ _ => rfl)) pa_nil))) (pe_slice (sl_listK rfl) (pv 6) (po_some (pv 7)) po_none)))) pss_nil)
    (pss_cons (ps_if (pt_cmpR op_eq (pv 1) pe_int (nomark _)) (pss_one (ps_set (i := 6) scSpoiled.nd rfl (Or.inl rfl) (pe_op op_cat (pe_op op_rep (pe_lst (pa_cons pe_str pa_nil)) (pe_op op_add pe_int (pe_op op_mod (pv 3) pe_int))) (pe_lst (pa_cons pe_str pa_nil))))) pss_nil)
    (pss_one (ps_ret (pe_bmK rfl PySem.F.plainAttrs_str PySem.F.slot_str_join PySem.F.type_str_join mt_join pe_str (pa_cons (pv 6) pa_nil))))))))))))), ?_⟩
  have hz : (Str.ofString "abcxyzAZ0_ -.\n\n").cps.toList.length = 15 := by decide +kernel
  have k1 : (0 : Int) ≤ other % 15 := Int.emod_nonneg _ (by decide)
  have k2 : other % 15 < ((15 : Nat) : Int) := Int.emod_lt_of_pos _ (by decide)
  obtain ⟨ch, hch⟩ := str_at hz k1 k2
  refine ⟨_, rfl, _, _, rfl, rfl, (by show (0 : Int) < 15; decide), _, _, ch, rfl, rfl, by decide, hch, ?_⟩
  have hl0 : (0 : Int) < (x.length : Int) + 1 := by omega
  have a1 : (0 : Int) ≤ cell % ((x.length : Int) + 1) := Int.emod_nonneg _ (by omega)
  refine ⟨_, rfl, _, rfl, x, rfl, small (Nat.le_trans hx (by decide)), _, _, rfl, rfl, _, _, rfl, rfl, hl0, ?_⟩
  refine ⟨_, rfl, rfl, x, nl, rfl, rfl, nl_len, Nat.le_trans hx (by decide), fun p1 hp1 => ?_⟩
  have h1 : upd H p1 (.lst ((partsOf x).map V.str)) p1 = some (.lst ((partsOf x).map V.str)) := upd_same
  have s1 : Same H (upd H p1 (.lst ((partsOf x).map V.str))) := same_new hp1 _
  have pn := List.length_pos_iff.mpr (parts_ne x)
  have ml : ((partsOf x).map V.str).length = (partsOf x).length := List.length_map _
  have hl1 : (0 : Int) < (((partsOf x).map V.str).length : Int) := by rw [ml]; omega
  have b1 : (0 : Int) ≤ cell % (((partsOf x).map V.str).length : Int) := Int.emod_nonneg _ (by omega)
  have pw := parts_wt x
  refine ⟨_, rfl, _, rfl, p1, _, rfl, .inl (SqL.of h1), _, _, rfl, rfl, hl1, ?_⟩
  have sx : x.length ≤ sizeLine := small (Nat.le_trans hx (by decide))
  have c1 : (⟨#[ch]⟩ : Str).length = 1 := rfl
  refine ⟨_, rfl, rfl, _, rfl, ?_⟩
  have e1 : ∀ j : Int, 0 ≤ j → (Txt.slice x none (some (cell % ((x.length : Int) + 1)))).length + (⟨#[ch]⟩ : Str).length ≤ sizeLine ∧ (Txt.slice x none (some (cell % ((x.length : Int) + 1))) ++ ⟨#[ch]⟩).length + (Txt.slice x (some j) none).length ≤ sizeLine ∧
      (Txt.slice x none (some (cell % ((x.length : Int) + 1))) ++ ⟨#[ch]⟩ ++ Txt.slice x (some j) none).length ≤ 1000 := fun j hj => by
    have l1 := sl_to x a1
    have l2 := sl_from x hj
    have l3 := strLen_append (Txt.slice x none (some (cell % ((x.length : Int) + 1)))) ⟨#[ch]⟩
    have l4 := strLen_append (Txt.slice x none (some (cell % ((x.length : Int) + 1))) ++ ⟨#[ch]⟩) (Txt.slice x (some j) none)
    exact ⟨Nat.le_of_lt (small1000 (by omega)), Nat.le_of_lt (small1000 (by omega)), by omega⟩
  have e3 : ∀ j : Int, 0 ≤ j → (Txt.slice x none (some (cell % ((x.length : Int) + 1)))).length + (Txt.slice x (some j) none).length ≤ sizeLine ∧ (Txt.slice x none (some (cell % ((x.length : Int) + 1))) ++ Txt.slice x (some j) none).length ≤ 1000 := fun j hj => by
    have l1 := sl_to x a1
    have l2 := sl_from x hj
    have l3 := strLen_append (Txt.slice x none (some (cell % ((x.length : Int) + 1)))) (Txt.slice x (some j) none)
    exact ⟨Nat.le_of_lt (small1000 (by omega)), by omega⟩
  have a2 : (0 : Int) ≤ cell % ((x.length : Int) + 1) + 1 := by omega
  refine ite2 (fun k => ?_) (fun k => ?_)
  · exact ⟨_, rfl, _, rfl, _, rfl, x, rfl, sx, _, rfl, _, _, rfl, rfl, (e1 _ a1).1, _, rfl, _, rfl, _, rfl, x, rfl, sx, _, _, rfl, rfl, (e1 _ a1).2.1, q _ _ (e1 _ a1).2.2 s1⟩
  refine ⟨_, rfl, rfl, _, rfl, ?_⟩
  refine ite2 (fun k => ?_) (fun k => ?_)
  · exact ⟨_, rfl, _, rfl, _, rfl, x, rfl, sx, _, rfl, _, _, rfl, rfl, (e1 _ a2).1, _, rfl, _, rfl, _, _, rfl, rfl, _, rfl, x, rfl, sx, _, _, rfl, rfl, (e1 _ a2).2.1, q _ _ (e1 _ a2).2.2 s1⟩
  refine ⟨_, rfl, rfl, _, rfl, ?_⟩
  refine ite2 (fun k => ?_) (fun k => ?_)
  · exact ⟨_, rfl, _, rfl, _, rfl, x, rfl, sx, _, rfl, _, rfl, _, _, rfl, rfl, _, rfl, x, rfl, sx, _, _, rfl, rfl, (e3 _ a2).1, q _ _ (e3 _ a2).2 s1⟩
  refine ⟨_, rfl, rfl, _, rfl, ?_⟩
  have ne : ∀ {m n : Int}, decide (V.int way = V.int m) = true → m ≠ n → ¬ V.int way = V.int n := fun h1 h2 h3 => by
    have z := of_decide_eq_true h1
    rw [z] at h3
    injection h3 with h3
    exact h2 h3
  have fin : ∀ (p : Addr) (ls : List Str) (H2 : Hp), Same H H2 → H2 p = some (.lst (ls.map V.str)) → wt ls ≤ 1000 → ∃ z p' ss, V.str nl = V.str z ∧ [V.ref p] = [V.ref p'] ∧ SqL K H2 p' (ss.map V.str) ∧ (ss.map (·.length)).sum + ss.length * z.length ≤ 16777216 ∧ Q (.str (Txt.join z ss)) H2 := fun p ls H2 s2 h2 hw =>
    ⟨nl, p, ls, rfl, rfl, SqL.of h2, by rw [join_room]; omega, q _ _ (Nat.le_trans (join_wt ls) hw) s2⟩
  refine ite2 (fun k4 => ?_) (fun k4 => ?_)
  · obtain ⟨l2, e2, u2⟩ := cut_strs (partsOf x) none (some (cell % (((partsOf x).map V.str).length : Int)))
    obtain ⟨l3, e3', u3⟩ := cut_strs (partsOf x) (some (cell % (((partsOf x).map V.str).length : Int) + 1)) none
    refine ⟨_, rfl, _, rfl, _, rfl, p1, _, rfl, SqL.of h1, fun p2 hp2 => ?_⟩
    have g1 : upd (upd H p1 (.lst ((partsOf x).map V.str))) p2 (.lst (cutV ((partsOf x).map V.str) none (some (cell % (((partsOf x).map V.str).length : Int))))) p1 = some (.lst ((partsOf x).map V.str)) := by
      rw [upd_ne (ne_of_none h1 hp2)]
      exact h1
    refine ⟨_, rfl, _, rfl, _, _, rfl, rfl, _, rfl, p1, _, rfl, SqL.of g1, fun p3 hp3 => ?_⟩
    have g2 : upd (upd (upd H p1 (.lst ((partsOf x).map V.str))) p2 (.lst (cutV ((partsOf x).map V.str) none (some (cell % (((partsOf x).map V.str).length : Int)))))) p3 (.lst (cutV ((partsOf x).map V.str) (some (cell % (((partsOf x).map V.str).length : Int) + 1)) none)) p2 = some (.lst (cutV ((partsOf x).map V.str) none (some (cell % (((partsOf x).map V.str).length : Int))))) := by
      rw [upd_ne (ne_of_none upd_same hp3)]
      exact upd_same
    have s2 := sameUpd (o := .lst (cutV ((partsOf x).map V.str) none (some (cell % (((partsOf x).map V.str).length : Int))))) s1 (s1.free hp2)
    have s3 := sameUpd (o := .lst (cutV ((partsOf x).map V.str) (some (cell % (((partsOf x).map V.str).length : Int) + 1)) none)) s2 (s2.free hp3)
    have w2 := wt_sub u2
    have w3 := wt_sub u3
    have wc : wt (l2 ++ l3) ≤ 1000 := by rw [wt_append]; omega
    have lc : (cutV ((partsOf x).map V.str) none (some (cell % (((partsOf x).map V.str).length : Int)))).length + (cutV ((partsOf x).map V.str) (some (cell % (((partsOf x).map V.str).length : Int) + 1)) none).length ≤ sizeLine := by
      rw [e2, e3', List.length_map, List.length_map]
      have z := len_of_wt wc
      rw [List.length_append] at z
      exact Nat.le_of_lt (small1000 z)
    refine ⟨p2, p3, _, _, rfl, rfl, g2, upd_same, lc, fun p4 hp4 => ?_⟩
    have s4 := sameUpd (o := .lst (cutV ((partsOf x).map V.str) none (some (cell % (((partsOf x).map V.str).length : Int))) ++ cutV ((partsOf x).map V.str) (some (cell % (((partsOf x).map V.str).length : Int) + 1)) none)) s3 (s3.free hp4)
    refine ⟨_, rfl, rfl, _, rfl, ite2 (fun k => absurd (of_decide_eq_true k) (ne k4 (by decide))) (fun _ => ?_)⟩
    refine ⟨_, rfl, rfl, _, rfl, ite2 (fun k => absurd (of_decide_eq_true k) (ne k4 (by decide))) (fun _ => ?_)⟩
    exact ⟨rfl, _, rfl, fin p4 (l2 ++ l3) _ s4 (by rw [List.map_append, ← e2, ← e3']; exact upd_same) wc⟩
  refine ⟨_, rfl, rfl, _, rfl, ?_⟩
  refine ite2 (fun k5 => ?_) (fun k5 => ?_)
  · have m1 : (0 : Int) ≤ other % 3 := Int.emod_nonneg _ (by decide)
    have m2 : other % 3 < ((3 : Nat) : Int) := Int.emod_lt_of_pos _ (by decide)
    obtain ⟨l2, e2, u2⟩ := cut_strs (partsOf x) none (some (cell % (((partsOf x).map V.str).length : Int)))
    obtain ⟨l3, e3', u3⟩ := cut_strs (partsOf x) (some (cell % (((partsOf x).map V.str).length : Int))) none
    obtain ⟨y, my, _, hat⟩ := atI_strs (bs := [Str.ofString "", Str.ofString "abcabcabcab", Str.ofString "abcabcabca"]) m1 m2
    have ly : ∀ b ∈ [Str.ofString "", Str.ofString "abcabcabcab", Str.ofString "abcabcabca"], b.length ≤ 11 := by decide +kernel
    refine ⟨_, rfl, _, rfl, _, rfl, p1, _, rfl, SqL.of h1, fun p2 hp2 => ?_⟩
    refine ⟨by decide, fun a ha => ?_⟩
    refine ⟨_, rfl, _, _, rfl, rfl, (by show (0 : Int) < 3; decide), a, _, _, .str y, rfl, rfl, SqL.of upd_same, hat, (by show 1 ≤ sizeLine; decide), fun b hb => ?_⟩
    have w2 := wt_sub u2
    have w3 := wt_sub u3
    have wy : wt [y] ≤ 12 := by
      have z := ly y my
      unfold wt
      rw [List.map_singleton, List.sum_singleton, List.length_singleton]
      omega
    have wc : wt (l2 ++ [y] ++ l3) ≤ 1000 := by rw [wt_append, wt_append]; omega
    have z1 : (cutV ((partsOf x).map V.str) none (some (cell % (((partsOf x).map V.str).length : Int)))).length = l2.length := by rw [e2, List.length_map]
    have z2 : (cutV ((partsOf x).map V.str) (some (cell % (((partsOf x).map V.str).length : Int))) none).length = l3.length := by rw [e3', List.length_map]
    have z3 := len_of_wt wc
    rw [List.length_append, List.length_append] at z3
    refine ⟨p2, b, _, _, rfl, rfl, ((same_new ha _).trans (same_new hb _)) p2 _ upd_same, upd_same, Nat.le_of_lt (small1000 (by rw [z1]; exact Nat.le_trans (Nat.le_add_right _ _) z3)), fun c hc => ?_⟩
    have t5 := (((same_new hp2 _).trans (same_new ha _)).trans (same_new hb _)).trans (same_new hc (.lst (cutV ((partsOf x).map V.str) none (some (cell % (((partsOf x).map V.str).length : Int))) ++ [V.str y])))
    refine ⟨_, rfl, _, rfl, _, rfl, p1, _, rfl, SqL.of (t5 p1 _ h1), fun d hd => ?_⟩
    refine ⟨c, d, _, _, rfl, rfl, same_new hd _ c _ upd_same, upd_same, Nat.le_of_lt (small1000 (by rw [List.length_append, z1, z2]; exact z3)), fun e he => ?_⟩
    have s7 := ((s1.trans t5).trans (same_new hd _)).trans (same_new he (.lst (cutV ((partsOf x).map V.str) none (some (cell % (((partsOf x).map V.str).length : Int))) ++ [V.str y] ++ cutV ((partsOf x).map V.str) (some (cell % (((partsOf x).map V.str).length : Int))) none)))
    refine ⟨_, rfl, rfl, _, rfl, ite2 (fun k => absurd (of_decide_eq_true k) (ne k5 (by decide))) (fun _ => ?_)⟩
    exact ⟨rfl, _, rfl, fin e (l2 ++ [y] ++ l3) _ s7 (by rw [List.map_append, List.map_append, ← e2, ← e3']; exact upd_same) wc⟩
  refine ⟨_, rfl, rfl, _, rfl, ?_⟩
  refine ite2 (fun k6 => ?_) (fun k6 => ?_)
  · have m1 : (0 : Int) ≤ other % 3 := Int.emod_nonneg _ (by decide)
    have m2 : other % 3 < 3 := Int.emod_lt_of_pos _ (by decide)
    refine ⟨by decide, fun a ha => ?_⟩
    refine ⟨_, rfl, _, _, rfl, rfl, (by show (0 : Int) < 3; decide), _, _, rfl, rfl, a, _, _, rfl, rfl, upd_same, (by omega), (by omega), ?_⟩
    have n7 : (5 + other % 3).toNat ≤ 7 := by omega
    have w6 : wt (List.replicate (5 + other % 3).toNat (Str.ofString "ab") ++ [Str.ofString ""]) ≤ 1000 := by
      have z : wt [Str.ofString ""] = 1 := by decide +kernel
      rw [wt_append, rep_wt, z]
      omega
    refine ⟨Nat.le_of_lt (small1000 (by show 1 * (5 + other % 3).toNat ≤ 1000; omega)), fun b hb => ⟨by decide, fun c hc => ?_⟩⟩
    have s2 := sameUpd (o := .lst [V.str (Str.ofString "ab")]) s1 (s1.free ha)
    have s3 := sameUpd (o := .lst (List.replicate (5 + other % 3).toNat [V.str (Str.ofString "ab")]).flatten) s2 (s2.free hb)
    have s4 := sameUpd (o := .lst [V.str (Str.ofString "")]) s3 (s3.free hc)
    refine ⟨b, c, _, _, rfl, rfl, by rw [upd_ne (ne_of_none upd_same hc)]; exact upd_same, upd_same, ?_, fun d hd => ?_⟩
    · rw [rep_strs, List.length_map, List.length_replicate]
      exact Nat.le_of_lt (small1000 (by show (5 + other % 3).toNat + 1 ≤ 1000; omega))
    · have s5 := sameUpd (o := .lst ((List.replicate (5 + other % 3).toNat [V.str (Str.ofString "ab")]).flatten ++ [V.str (Str.ofString "")])) s4 (s4.free hd)
      exact ⟨rfl, _, rfl, fin d (List.replicate (5 + other % 3).toNat (Str.ofString "ab") ++ [Str.ofString ""]) _ s5 (by rw [List.map_append, ← rep_strs]; exact upd_same) w6⟩
  exact ⟨rfl, _, rfl, fin p1 (partsOf x) _ s1 h1 (by omega)⟩
theorem pa_strs {X : Cx} : ∀ (l : List (Str × Pos)), PA X (l.map fun p => .Constant (.str p.1) 0 p.2) (fun _ H Q => Q (l.map fun p => V.str p.1) H)
  | [] => pa_nil
  | _ :: l => pa_cons pe_str (pa_strs l)
theorem scOdd : FnScope ["cell"] ["cell"] (defScope sOdd) := ⟨rfl, rfl, rfl, by decide +kernel, rfl, by decide +kernel, by decide +kernel⟩
def oddL : List Str := ["", "\n", "a", "a\n\n", "\na\n", " a\n", "a \n", "a b\n", "A\n", "a\nb", "a\n-\n"]
theorem odd_short : ∀ b ∈ oddL, b.length ≤ 1000 := by decide +kernel
theorem odd_body : ∃ (l : List (Str × Pos)) (p1 p2 p3 p4 p5 p6 : Pos), l.map (·.1) = oddL ∧ defBody sOdd = [.Return (some (.Subscript (.List (l.map fun p => .Constant (.str p.1) 0 p.2) p1) (.BinOp (.Name "cell" p4) .Mod (.Constant (.int 11) 0 p5) p6) p2)) p3] :=
  ⟨[("", _), ("\n", _), ("a", _), ("a\n\n", _), ("\na\n", _), (" a\n", _), ("a \n", _), ("a b\n", _), ("A\n", _), ("a\nb", _), ("a\n-\n", _)], _, _, _, _, _, _, rfl, rfl⟩
theorem odd_ps {X : Cx} (hK : X.K = K) (hN : X.N[0]? = some ("cell" : Str)) (hv : Vis X.env.scope ("cell" : Str)) :
    ∃ t, PSs X (defBody sOdd) t ∧ ∀ (D : Ends) (σ : L2.St) (H : Hp) (c : Int), σ[0]? = some (some (.int c)) → (∀ (y : Str) (H' : Hp), y.length ≤ 1000 → Same H H' → D.rt (.str y) H') → t D σ H := by
  obtain ⟨l, p1, p2, p3, p4, p5, p6, el, eb⟩ := odd_body
  rw [eb]
  refine ⟨_, pss_one (ps_ret (pe_ix (ix_listK hK) (pe_lst (pa_strs l)) (pe_op op_mod (pv 0 hN hv) pe_int) (fun _ _ => rfl))), fun D σ H c hc q => ?_⟩
  have em : (l.map fun p => V.str p.1) = oddL.map V.str := by rw [← el, List.map_map]; rfl
  have k1 : (0 : Int) ≤ c % 11 := Int.emod_nonneg _ (by decide)
  have k2 : c % 11 < ((oddL.length : Nat) : Int) := Int.emod_lt_of_pos _ (by decide)
  obtain ⟨b, hb, _, hat⟩ := atI_strs k1 k2
  rw [← em] at hat
  have e : ∀ a, upd H a (.lst (l.map fun p => V.str p.1)) a = some (.lst (l.map fun p => V.str p.1)) := fun _ => upd_same
  refine ⟨by rw [em]; decide, fun a ha => ?_⟩
  exact ⟨_, hc, _, _, rfl, rfl, (by show (0 : Int) < 11; decide), a, _, c % 11, .str b, rfl, rfl, SqL.of (e a), hat, q b _ (odd_short b hb) (same_new ha _)⟩
theorem ok_Odd (F : Fun K "_law_odd" "_law_odd" sOdd f fd) (T : Gb mg) : FnOk P w K mg base CX0 1 f fd ["cell"] spOdd := by
  refine F.ok scOdd (fun vs H Q E h => ?_) (fun cdv A outer s H vs Q E hr h => ?_)
  · obtain ⟨c, rfl, _⟩ := h
    rfl
  obtain ⟨c, rfl, q⟩ := h
  obtain ⟨t, h1, h2⟩ := odd_ps (X := (cxOf CX0 P w K mg base ["cell"] "_law_odd" (defScope sOdd) f cdv A outer s H E).nox) (K := K) rfl rfl (.inl rfl)
  refine ⟨t, ?_, ?_⟩
  · with_reducible exact h1
  · exact h2 _ _ _ c rfl q
theorem scDue : FnScope ["text", "lines", "book", "word"] ["text"] (defScope sDue) := ⟨rfl, rfl, rfl, by decide +kernel, rfl, by decide +kernel, by decide +kernel⟩
theorem ndDue0 : (["letter"] : List Str).Nodup := by decide +kernel
theorem ok_Due (F : Fun K "_law_due" "_law_due" sDue f fd) (T : Gb mg) : FnOk P w K mg base CX0 1 f fd ["text"] spDue := by
  refine F.ok scDue (fun vs H Q E h => ?_) (fun cdv A outer s H vs Q E hr h => ?_)
  · obtain ⟨x, rfl, _⟩ := h
    rfl
  obtain ⟨x, rfl, hx, q1, q2⟩ := h
  refine ⟨_, pss_cons (ps_set (i := 1) scDue.nd rfl (Or.inl rfl) (pe_bmK rfl PySem.F.plainAttrs_str PySem.F.slot_str_split PySem.F.type_str_split mt_split (pv 0) (pa_cons pe_str pa_nil)))
    (pss_cons (ps_set (i := 2) scDue.nd rfl (Or.inl rfl) (pe_slice (sl_listK rfl) (pv 1) po_none (po_some (pe_op op_sub (pe_callB (call_lenK rfl) rfl T.b_len PySem.boot_len (pa_cons (pv 1) pa_nil)) pe_int))))
    (pss_cons (ps_if (PW.pt (pw_or (pt_cmpR op_ne (pe_ix (ix_listK rfl) (pv 1) (pe_op op_sub (pe_callB (call_lenK rfl) rfl T.b_len PySem.boot_len (pa_cons (pv 1) pa_nil)) pe_int) (fun _ _ => rfl)) pe_str (nomark _)) (pw_or (pt_cmpR op_lt (pe_callB (call_lenK rfl) rfl T.b_len PySem.boot_len (pa_cons (pv 2) pa_nil)) pe_int (nomark _)) (pw_or1 (pt_cmpR op_gt (pe_callB (call_lenK rfl) rfl T.b_len PySem.boot_len (pa_cons (pv 2) pa_nil)) pe_int (nomark _)))))) (pss_one (ps_ret pe_non)) pss_nil)
    (pss_cons (ps_for PassesOwn.never rfl (pi_listK rfl (pv 2)) (pg_name (i := 3) scDue.nd rfl (Or.inl rfl))
      (pss_cons (ps_if (PW.pt (pw_or (pt_cmpR op_lt (pe_callB call_len_str rfl T.b_len PySem.boot_len (pa_cons (pv 3) pa_nil)) pe_int (nomark _)) (pw_or1 (pt_cmpR op_gt (pe_callB call_len_str rfl T.b_len PySem.boot_len (pa_cons (pv 3) pa_nil)) pe_int (nomark _))))) (pss_one (ps_ret pe_non)) pss_nil)
      (pss_one (ps_if (pt_cmpR op_gt (pe_callB (call_lenK rfl) rfl T.b_len PySem.boot_len (pa_cons (pe_comp (oN := ["text", "lines", "book", "word"]) (osc := defScope sDue) (N' := ["letter"]) (cap := [none]) rfl rfl rfl (by decide +kernel) rfl (by decide +kernel) (by decide +kernel) (by decide +kernel) rfl
        (pi_str (pv 3)) (fun _ _ _ _ _ => pg_name (i := 0) ndDue0 rfl (Or.inl rfl)) (fun _ _ _ _ _ => pif_one (pt_cmpR op_notin_str (pv 0) pe_str rfl)) (fun _ _ _ _ _ => pv 0)) pa_nil)) pe_int (nomark _)) (pss_one (ps_ret pe_non)) pss_nil))))
    (pss_one (ps_ret (pv 2)))))), ?_⟩
  refine ⟨_, rfl, rfl, x, nl, rfl, rfl, nl_len, Nat.le_trans hx (by decide), fun p1 hp1 => ?_⟩
  have h1 : upd H p1 (.lst ((partsOf x).map V.str)) p1 = some (.lst ((partsOf x).map V.str)) := upd_same
  have pn := parts_ne x
  have pm : (partsOf x).map V.str ≠ [] := fun z => pn (List.map_eq_nil_iff.mp z)
  have ml : ((partsOf x).map V.str).length = (partsOf x).length := List.length_map _
  refine ⟨_, rfl, _, rfl, p1, _, rfl, .inl (SqL.of h1), _, _, rfl, rfl, _, rfl, p1, _, rfl, SqL.of h1, fun p2 hp2 => ?_⟩
  have e2 := cut_init _ pm
  rw [← List.map_dropLast] at e2
  rw [show cutV ((partsOf x).map V.str) none (some ((((partsOf x).map V.str).length : Int) - 1)) = _ from e2]
  have s1 : Same H (upd H p1 (.lst ((partsOf x).map V.str))) := same_new hp1 _
  have s2 : Same H (upd (upd H p1 (.lst ((partsOf x).map V.str))) p2 (.lst ((partsOf x).dropLast.map V.str))) := sameUpd s1 (s1.free hp2)
  have h21 : upd (upd H p1 (.lst ((partsOf x).map V.str))) p2 (.lst ((partsOf x).dropLast.map V.str)) p1 = some (.lst ((partsOf x).map V.str)) := by
    rw [upd_ne (ne_of_none h1 hp2)]
    exact h1
  have h22 : upd (upd H p1 (.lst ((partsOf x).map V.str))) p2 (.lst ((partsOf x).dropLast.map V.str)) p2 = some (.lst ((partsOf x).dropLast.map V.str)) := upd_same
  have hi := at_init _ pn
  rw [← ml] at hi
  refine ⟨_, rfl, _, rfl, p1, _, rfl, .inl (SqL.of h21), _, _, rfl, rfl, p1, _, _, _, rfl, rfl, SqL.of h21, hi, rfl, _, rfl, ?_⟩
  by_cases hl : V.str (lastS (partsOf x)) = V.str (Str.ofString "")
  rotate_left
  · refine iteNT hl ?_
    refine iteT ?_
    exact q2 (by unfold noteB; rw [decide_eq_false (fun z => hl (congrArg V.str z)), Bool.false_and]) _ s2
  have hl' : lastS (partsOf x) = "" := by injection hl
  have nb : noteB x = bookB (partsOf x).dropLast := by unfold noteB; rw [decide_eq_true hl', Bool.true_and]
  have bsh : ∀ b ∈ (partsOf x).dropLast, b.length ≤ 1000 := fun b hb => Nat.le_trans (parts_short ((List.dropLast_subset _) hb)) hx
  unfold Told at q1
  generalize (partsOf x).dropLast = bs at h21 h22 s2 nb bsh e2 q1 ⊢
  have bl : (bs.map V.str).length = bs.length := List.length_map _
  refine iteNS hl ?_
  refine ⟨_, rfl, p2, _, rfl, .inl (SqL.of h22), _, _, rfl, rfl, _, rfl, ?_⟩
  rw [bl]
  refine ite2 (fun k => ?_) (fun k => ?_)
  · have k' : (bs.length : Int) < 1 := of_decide_eq_true k
    refine iteT ?_
    exact q2 (by rw [nb]; unfold bookB; rw [decide_eq_false (show ¬ (1 : Int) ≤ (bs.length : Int) by omega), Bool.false_and, Bool.false_and]) _ s2
  have k1 : ¬ (bs.length : Int) < 1 := fun z => k (decide_eq_true z)
  refine ⟨_, rfl, p2, _, rfl, .inl (SqL.of h22), _, _, rfl, rfl, _, rfl, ?_⟩
  rw [bl]
  refine ite2 (fun k => ?_) (fun k => ?_)
  · have k' : (6 : Int) < (bs.length : Int) := of_decide_eq_true k
    exact q2 (by rw [nb]; unfold bookB; rw [decide_eq_false (show ¬ (bs.length : Int) ≤ 6 by omega), Bool.and_false, Bool.false_and]) _ s2
  have k2 : ¬ (6 : Int) < (bs.length : Int) := fun z => k (decide_eq_true z)
  have nb' : noteB x = bs.all isWordB := by rw [nb]; unfold bookB; rw [decide_eq_true (show (1 : Int) ≤ (bs.length : Int) by omega), decide_eq_true (show (bs.length : Int) ≤ 6 by omega)]; rfl
  refine ⟨_, rfl, p2, rfl, ⟨_, SqL.of h22⟩, ?_⟩
  refine for_list (xs := bs.map V.str) (fun i σ H' => (∃ kk, σ = [some (.str x), some (.ref p1), some (.ref p2), kk]) ∧ Same (upd (upd H p1 (.lst ((partsOf x).map V.str))) p2 (.lst (bs.map V.str))) H' ∧ (bs.take i).all isWordB = true) ⟨⟨_, rfl⟩, Same.refl _, rfl⟩ ?_ ?_ ?_
  · rintro i σ H' _ ⟨_, hs, _⟩
    exact hs.seq (SqL.of h22)
  · rintro i v σ H' hv ⟨⟨kk, rfl⟩, hs, ha⟩
    obtain ⟨b, eb, rfl⟩ := at_strs hv
    have mb := List.mem_of_getElem? eb
    have lb := bsh b mb
    have bad : isWordB b = false → noteB x = false := fun z => by
      rw [nb']
      exact Bool.eq_false_iff.mpr fun y => by rw [List.all_eq_true.mp y b mb] at z; cases z
    refine ⟨_, rfl, b, rfl, small lb, _, _, rfl, rfl, _, rfl, ?_⟩
    refine ite2 (fun j => ?_) (fun j => ?_)
    · have j' : (b.length : Int) < 1 := of_decide_eq_true j
      refine iteT ?_
      exact q2 (bad (by unfold isWordB; rw [decide_eq_false (show ¬ (1 : Int) ≤ (b.length : Int) by omega), Bool.false_and, Bool.false_and])) H' (s2.trans hs)
    have j1 : ¬ (b.length : Int) < 1 := fun z => j (decide_eq_true z)
    refine ⟨_, rfl, b, rfl, small lb, _, _, rfl, rfl, _, rfl, ?_⟩
    refine ite2 (fun j => ?_) (fun j => ?_)
    · have j' : (10 : Int) < (b.length : Int) := of_decide_eq_true j
      exact q2 (bad (by unfold isWordB; rw [decide_eq_false (show ¬ (b.length : Int) ≤ 10 by omega), Bool.and_false, Bool.false_and])) H' (s2.trans hs)
    have j2 : ¬ (10 : Int) < (b.length : Int) := fun z => j (decide_eq_true z)
    have wb : isWordB b = b.cps.toList.all lowB := by unfold isWordB; rw [decide_eq_true (show (1 : Int) ≤ (b.length : Int) by omega), decide_eq_true (show (b.length : Int) ≤ 10 by omega)]; rfl
    refine ⟨_, rfl, b, rfl, fun D hD => ?_⟩
    refine turns_str (fun i σ H2 => (∃ kk, σ = [kk]) ∧ Same H' H2 ∧ H2 D = some (.lst (((b.cps.toList.take i).filter fun c => !lowB c).map fun c => V.str ⟨#[c]⟩))) ⟨⟨_, rfl⟩, same_new hD _, upd_same⟩ ?_ ?_
    · rintro m c σ H2 hc ⟨⟨kk, rfl⟩, hs2, hD'⟩
      have hc' : b.cps.toList[m]? = some c := by simpa using hc
      have e : (b.cps.toList.take (m + 1)).filter (fun c => !lowB c) = (b.cps.toList.take m).filter (fun c => !lowB c) ++ (if (!lowB c) = true then [c] else []) := by
        rw [take_snoc hc', List.filter_append, List.filter_cons, List.filter_nil]
      refine ⟨_, rfl, _, _, rfl, rfl, _, rfl, ?_⟩
      have ein : (!(!(Builtin.Str.occurrences (Str.ofString "abcdefghijklmnopqrstuvwxyz") ⟨#[c]⟩ 0 (Str.ofString "abcdefghijklmnopqrstuvwxyz").length 1).isEmpty)) = !lowB c := congrArg (fun z => !z) (alpha_in c)
      rw [show (!(!(Builtin.Str.occurrences (Str.ofString "abcdefghijklmnopqrstuvwxyz") ⟨#[c]⟩ 0 (Str.ofString "abcdefghijklmnopqrstuvwxyz").length 1).isEmpty)) = !lowB c from ein]
      refine ite2 (fun j => ?_) (fun j => ?_)
      · refine ⟨_, rfl, _, hD', ?_, ⟨_, rfl⟩, sameUpd hs2 hD, ?_⟩
        · have fl := List.length_filter_le (fun c => !lowB c) (b.cps.toList.take m)
          have tl : (b.cps.toList.take m).length ≤ b.length := by rw [List.length_take, ← strLenL]; exact Nat.min_le_right _ _
          rw [List.length_map]
          exact small1000 (by omega)
        · rw [upd_same, e, if_pos j, List.map_append]
          rfl
      · refine ⟨⟨_, rfl⟩, hs2, ?_⟩
        rw [hD', e, if_neg j, List.append_nil]
    · rintro σ H2 ⟨_, hs2, hD'⟩
      rw [strLenL, List.take_length] at hD'
      refine ⟨D, _, rfl, .inl (SqL.of hD'), _, _, rfl, rfl, _, rfl, ?_⟩
      rw [List.length_map]
      refine ite2 (fun j => ?_) (fun j => ?_)
      · have j' := of_decide_eq_true j
        refine q2 (bad ?_) H2 ((s2.trans hs).trans hs2)
        rw [wb]
        exact Bool.eq_false_iff.mpr fun z => by
          have y := (none_bad b.cps.toList).mpr z
          omega
      · refine ⟨⟨_, rfl⟩, hs.trans hs2, ?_⟩
        rw [take_snoc eb, List.all_append, ha]
        have y := (none_bad b.cps.toList).mp (Int.not_lt.mp fun z => j (decide_eq_true z))
        show ([b].all isWordB) = true
        rw [List.all_cons, wb, y]
        rfl
  · rintro σ H' ⟨⟨kk, rfl⟩, hs, ha⟩
    rw [bl, List.take_length] at ha
    exact ⟨_, rfl, q1 (nb'.trans ha) p2 H' (s1.free hp2) (s2.trans hs) (hs _ _ h22)⟩
theorem scTold : FnScope ["text", "found", "e", "flags"] ["text"] (defScope sTold) := ⟨rfl, rfl, rfl, by decide +kernel, rfl, by decide +kernel, by decide +kernel⟩
theorem boot_VE : bootBuiltins "ValueError" = some (.type "ValueError") := by decide +kernel
theorem ok_Told {CL CB CW CO CN : Addr} (F : Fun K "_law_told" "_law_told" sTold f fd) (T : Gb mg) (R : Er K mg CL CB CW CO CN) (G1 : HasR P w K mg base "read" 4 ["text"] (spRead CN)) : FnOk P w K mg base CX0 5 f fd ["text"] spTold := by
  refine F.ok scTold (fun vs H Q E h => ?_) (fun cdv A outer s H vs Q E hr h => ?_)
  · obtain ⟨x, rfl, _⟩ := h
    rfl
  obtain ⟨x, rfl, hx, q1, q2⟩ := h
  refine ⟨_, pss_cons (ps_set (i := 1) scTold.nd rfl (Or.inl rfl) pe_non)
    (pss_cons (ps_try (i := 2) (EW := fun C _ H' => C = .ref CN ∧ noteB x = false ∧ Same H H') rfl rfl scTold.nd rfl rfl rfl R.mL (fun C o H' z => z.1 ▸ R.yL)
      (fun E pn hx => pss_one (ps_set (i := 1) scTold.nd rfl (Or.inl rfl) (pe_hasR G1 hr (by rfl) hx (pa_cons (pv 0) pa_nil))))
      (fun e => pss_cons (ps_set (i := 3) scTold.nd rfl (Or.inl rfl) (pe_lst (pa_cons (pe_callB (call_isErr rfl) rfl T.b_isinstance boot_isinstance (pa_cons (pv 2) (pa_cons (pe_glob (v := .ref CB) rfl R.mB rfl) pa_nil)))
        (pa_cons (pe_callB (call_isErr rfl) rfl T.b_isinstance boot_isinstance (pa_cons (pv 2) (pa_cons (pe_glob (v := .ref CW) rfl R.mW rfl) pa_nil)))
        (pa_cons (pe_callB (call_isErr rfl) rfl T.b_isinstance boot_isinstance (pa_cons (pv 2) (pa_cons (pe_glob (v := .ref CO) rfl R.mO rfl) pa_nil))) pa_nil)))))
        (pss_one (ps_set (i := 1) scTold.nd rfl (Or.inl rfl) (pe_tup (pa_cons pe_str (pa_cons (pe_and (pe_callB (call_isErr rfl) rfl T.b_isinstance boot_isinstance (pa_cons (pv 2) (pa_cons (pe_glob (v := .ref CN) rfl R.mN rfl) pa_nil)))
          (pe_and (pe_callB (call_isErrT rfl) rfl T.b_isinstance boot_isinstance (pa_cons (pv 2) (pa_cons (pe_bltn (v := .ty "ValueError") rfl T.b_ValueError boot_VE rfl) pa_nil)))
          (pe_one (pe_cmpR (op_notInK rfl) pe_bl (pv 3) rfl)))) pa_nil)))))))
    (pss_one (ps_ret (pv 1)))), ?_⟩
  refine ⟨⟨_, rfl, x, rfl, hx, fun nb l H' hl s1 hl' => ⟨_, rfl, q1 nb l H' hl s1 hl'⟩, fun nb H' s1 => ⟨rfl, nb, s1⟩⟩, ?_⟩
  rintro σ' H' C e hl ⟨hC, nb, hs⟩ he
  obtain rfl : C = CN := by injection hC
  obtain ⟨a0, a1, a2, a3, rfl⟩ : ∃ a0 a1 a2 a3, σ' = [a0, a1, a2, a3] := match σ', hl with | [a0, a1, a2, a3], _ => ⟨a0, a1, a2, a3, rfl⟩
  have h0 : upd H' e (.ext fun h => ErrAt h e C) e = some (.ext fun h => ErrAt h e C) := upd_same
  refine ⟨_, rfl, e, C, CB, false, rfl, h0, R.cl, R.nB, _, rfl, e, C, CW, false, rfl, h0, R.cl, R.nW, _, rfl, e, C, CO, false, rfl, h0, R.cl, R.nO, by decide, fun l hl => ?_⟩
  have h1 : upd (upd H' e (.ext fun h => ErrAt h e C)) l (.lst [.bl false, .bl false, .bl false]) e = some (.ext fun h => ErrAt h e C) := by
    rw [upd_ne (ne_of_none h0 hl)]
    exact h0
  have h2 : upd (upd H' e (.ext fun h => ErrAt h e C)) l (.lst [.bl false, .bl false, .bl false]) l = some (.lst [.bl false, .bl false, .bl false]) := upd_same
  refine ⟨_, rfl, e, C, C, true, rfl, h1, R.cl, R.yN, _, rfl, iteT ?_⟩
  refine ⟨_, rfl, e, C, "ValueError", true, rfl, h1, R.cl, R.yV, _, rfl, iteT ?_⟩
  have s1 : Same H (upd H' e (.ext fun h => ErrAt h e C)) := sameUpd hs (hs.free he)
  have s2 := sameUpd (o := .lst [.bl false, .bl false, .bl false]) s1 (s1.free hl)
  refine ⟨_, rfl, l, _, rfl, .inl (SqL.of h2), rfl, by decide, by decide, fun p hp => ?_⟩
  exact ⟨_, rfl, q2 nb p _ (s2.free hp) (sameUpd s2 (s2.free hp)) upd_same⟩
theorem scL : FnScope ["script", "words", "book", "handed", "text", "found", "due", "turn"] ["script"] (defScope sLaw) := ⟨rfl, rfl, rfl, by decide +kernel, rfl, by decide +kernel, by decide +kernel⟩
theorem ndLaw0 : (["word"] : List Str).Nodup := by decide +kernel
theorem ok_Law (F : Fun K "law" "law" sLaw f fd) (T : Gb mg) (G1 : Has P w K mg base "_law_cell_at" 1 ["script", "k"] (spCell K)) (G2 : Has P w K mg base "_law_book" 2 ["script", "start", "words", "most"] (spBook K)) (G3 : Has P w K mg base "shown" 4 ["book"] (spShown K))
    (G4 : Has P w K mg base "_law_spoiled" 1 ["text", "way", "cell", "other"] spSpoiled) (G5 : Has P w K mg base "_law_odd" 1 ["cell"] spOdd) (G6 : Has P w K mg base "_law_due" 1 ["text"] spDue) (G7 : Has P w K mg base "_law_told" 5 ["text"] spTold) : FnOk P w K mg base CX0 6 f fd ["script"] (spLaw K) := by
  refine F.ok scL (fun vs H Q E h => ?_) (fun cdv A outer s H vs Q E hr h => ?_)
  · obtain ⟨a, ns, rfl, _⟩ := h
    rfl
  obtain ⟨a, ns, rfl, hS, h63, hB, q⟩ := h
  have hr1 := hr.mono (show 1 ≤ 5 by decide)
  have hr2 := hr.mono (show 2 ≤ 5 by decide)
  have hr4 := hr.mono (show 4 ≤ 5 by decide)
  refine ⟨_, pss_cons (ps_set (i := 1) scL.nd rfl (Or.inl rfl) (pe_op op_add pe_int (pe_op op_mod (pe_has G1 hr1 (by rfl) (pa_cons (pv 0) (pa_cons pe_int pa_nil))) pe_int)))
    (pss_cons (ps_set (i := 2) scL.nd rfl (Or.inl rfl) (pe_has G2 hr2 (by rfl) (pa_cons (pv 0) (pa_cons pe_int (pa_cons (pv 1) (pa_cons pe_int pa_nil))))))
    (pss_cons (ps_set (i := 3) scL.nd rfl (Or.inl rfl) (pe_callTy call_list_of rfl T.b_list PyProof.Rows.boot_list (pa_cons (pv 2) pa_nil)))
    (pss_cons (ps_set (i := 4) scL.nd rfl (Or.inl rfl) (pe_bmK rfl PySem.F.plainAttrs_str PySem.F.slot_str_join PySem.F.type_str_join mt_join pe_str (pa_cons (pe_comp (oN := ["script", "words", "book", "handed", "text", "found", "due", "turn"]) (osc := defScope sLaw) (N' := ["word"]) (cap := [none]) rfl rfl rfl (by decide +kernel) rfl (by decide +kernel) (by decide +kernel) (by decide +kernel) rfl
      (pi_listK rfl (pv 2)) (fun _ _ _ _ _ => pg_name (i := 0) ndLaw0 rfl (Or.inl rfl)) (fun _ _ _ _ _ => pif_none) (fun _ _ _ _ _ => pe_op op_add_str (pv 0) pe_str)) pa_nil)))
    (pss_cons (ps_set (i := 5) scL.nd rfl (Or.inl rfl) (pe_has G3 hr4 (by rfl) (pa_cons (pv 3) pa_nil)))
    (pss_cons (ps_if (PW.pt (pw_or (pt_not (pt_val (pe_callB call_isinst rfl T.b_isinstance boot_isinstance (pa_cons (pv 5) (pa_cons (pe_bltn (v := .ty "str") rfl T.b_str PyProof.Rows.boot_str rfl) pa_nil))))) (pw_or (pt_cmpR op_ne (pv 5) (pv 4) (nomark _)) (pw_or1 (pt_cmpR (op_neS (units_of hr)) (pv 3) (pv 2) (nomark _)))))) (pss_one (ps_ret pe_bl)) pss_nil)
    (pss_cons (ps_set (i := 4) scL.nd rfl (Or.inl rfl) (pe_has G4 hr1 (by rfl) (pa_cons (pv 4) (pa_cons (pe_op op_mod (pe_has G1 hr1 (by rfl) (pa_cons (pv 0) (pa_cons pe_int pa_nil))) pe_int) (pa_cons (pe_has G1 hr1 (by rfl) (pa_cons (pv 0) (pa_cons pe_int pa_nil))) (pa_cons (pe_has G1 hr1 (by rfl) (pa_cons (pv 0) (pa_cons pe_int pa_nil))) pa_nil))))))
    (pss_cut (ps_if (pt_cmpR op_eq (pe_op op_mod (pe_op op_fdiv (pe_has G1 hr1 (by rfl) (pa_cons (pv 0) (pa_cons pe_int pa_nil))) pe_int) pe_int) pe_int (nomark _)) (pss_one (ps_set (i := 4) scL.nd rfl (Or.inl rfl) (pe_has G5 hr1 (by rfl) (pa_cons (pe_has G1 hr1 (by rfl) (pa_cons (pv 0) (pa_cons pe_int pa_nil))) pa_nil)))) pss_nil)
    (pss_cons (ps_set (i := 6) scL.nd rfl (Or.inl rfl) (pe_has G6 hr1 (by rfl) (pa_cons (pv 4) pa_nil)))
    (pss_cons (ps_if (pt_cmp (pc_isN (pv 6)) rfl) (pss_one (ps_ret (pe_cmpR (op_eqTF rfl (hu_of hr)) (pe_has G7 hr (by rfl) (pa_cons (pv 4) pa_nil)) (pe_tup (pa_cons pe_str (pa_cons pe_bl pa_nil))) (nomark _)))) pss_nil)
    (pss_cons (ps_for PassesOwn.never rfl (pi_range1 rfl T.b_range (pa_cons pe_int pa_nil)) (pg_name (i := 7) scL.nd rfl (Or.inl rfl))
      (pss_cons (ps_set (i := 5) scL.nd rfl (Or.inl rfl) (pe_has G7 hr (by rfl) (pa_cons (pv 4) pa_nil)))
      (pss_cons (ps_if (PW.pt (pw_or (pt_not (pt_val (pe_callB call_isinst rfl T.b_isinstance boot_isinstance (pa_cons (pv 5) (pa_cons (pe_bltn (v := .ty "list") rfl T.b_list PyProof.Rows.boot_list rfl) pa_nil))))) (pw_or1 (pt_cmpR (op_neS (units_of hr)) (pv 5) (pv 6) (nomark _))))) (pss_one (ps_ret pe_bl)) pss_nil)
      (pss_one (ps_expr (pe_bm PySem.F.plainAttrs_list PySem.F.slot_list_append PySem.F.type_list_append mt_append (pv 5) (pa_cons pe_str pa_nil)))))))
    (pss_one (ps_ret pe_bl)))))))))))), ?_⟩
  have w0 := Int.emod_nonneg (ns.getD 0 0) (show (6 : Int) ≠ 0 by decide)
  have w1 := Int.emod_lt_of_pos (ns.getD 0 0) (show (0 : Int) < 6 by decide)
  refine ⟨_, rfl, a, ns, 0, rfl, hS, Int.le_refl 0, _, _, rfl, rfl, (by show (0 : Int) < 6; decide), _, _, rfl, rfl, ?_⟩
  obtain ⟨n, hn⟩ : ∃ n : Nat, 1 + ns.getD (0 : Int).toNat 0 % 6 = (n : Int) := ⟨(1 + ns.getD 0 0 % 6).toNat, by show 1 + ns.getD 0 0 % 6 = _; omega⟩
  have hn1 : 1 ≤ n ∧ n ≤ 6 := by
    have e : 1 + ns.getD 0 0 % 6 = (n : Int) := hn
    omega
  dsimp only
  rw [hn]
  refine ⟨_, rfl, _, rfl, a, ns, 1, n, 10, rfl, hS, hB, by decide, hn1.1, by omega, by decide, by decide, fun p bs H1 hp s1 hp1 hlen hW => ?_⟩
  have hG : Good bs := ⟨by omega, by omega, hW⟩
  have hle := hG.le
  have hS1 := s1.seq hS
  -- handed
  refine ⟨_, rfl, p, _, rfl, .inl (SqL.of hp1), fun c1 hc1 => ?_⟩
  have s2 := same_new hc1 (.lst (bs.map V.str))
  have hc2 : (upd H1 c1 (.lst (bs.map V.str))) c1 = some (.lst (bs.map V.str)) := upd_same
  have hp2 := s2 _ _ hp1
  have hS2 := s2.seq hS1
  generalize upd H1 c1 (.lst (bs.map V.str)) = H2 at s2 hc2 hp2 hS2 ⊢
  -- text
  refine ⟨rfl, _, rfl, p, rfl, ⟨_, SqL.of hp2⟩, fun D hD => ?_⟩
  have wl : ∀ b ∈ bs, b.length + nl.length ≤ 11 := fun b hb => by
    have z := (hG.words b hb).le
    have e : nl.length = 1 := by decide +kernel
    omega
  refine turns_list (xs := bs.map V.str) (fun i σ H' => (∃ kk, σ = [kk]) ∧ Same H2 H' ∧ H' D = some (.lst (((bs.take i).map fun b => b ++ nl).map V.str))) ⟨⟨_, rfl⟩, same_new hD _, upd_same⟩ ?_ ?_ ?_
  · rintro i σ H' _ ⟨_, hs, _⟩
    exact SqL.of (hs _ _ hp2)
  · rintro i v σ H' hv ⟨⟨kk, rfl⟩, hs, hD'⟩
    obtain ⟨b, eb, rfl⟩ := at_strs hv
    have z := wl b (List.mem_of_getElem? eb)
    refine gYes ?_
    refine ⟨_, rfl, b, nl, rfl, rfl, small1000 (by omega), _, hD', ?_, ⟨_, rfl⟩, sameUpd hs hD, ?_⟩
    · rw [List.length_map, List.length_map, List.length_take]
      exact small1000 (by omega)
    · rw [upd_same, take_snoc eb, List.map_append, List.map_append] <;> rfl
  rintro σ H3 ⟨_, s3, hD3⟩
  rw [List.length_map, List.take_length] at hD3
  have hp3 := s3 _ _ hp2
  have hc3 := s3 _ _ hc2
  have hS3 := s3.seq hS2
  have hz : (Str.ofString "").length = 0 := len_nil
  have hsum : ((bs.map fun b => b ++ nl).map (·.length)).sum ≤ 11 * (bs.map fun b => b ++ nl).length := sum_len (m := 11) fun y hy => by
    obtain ⟨b, hb, rfl⟩ := List.mem_map.mp hy
    have e : (b ++ nl).length = b.length + nl.length := Array.size_append
    rw [e]
    exact wl b hb
  rw [List.length_map] at hsum
  refine ⟨_, D, _, rfl, rfl, SqL.of hD3, (by rw [hz, List.length_map]; omega), ?_⟩
  have hjl : (joinNl bs).length ≤ 100 := by
    have e : (joinNl bs).length = ((bs.map fun b => b ++ nl).map (·.length)).sum := join_len _
    omega
  -- shown
  refine ⟨_, rfl, c1, bs, rfl, SqL.of hc3, hG, fun H4 s4 => ?_⟩
  have hp4 := s4 _ _ hp3
  have hc4 := s4 _ _ hc3
  have hS4 := s4.seq hS3
  refine ⟨_, rfl, _, "str", _, _, rfl, .str _, kit_same, _, rfl, ?_⟩
  refine iteF ?_
  refine ⟨_, rfl, _, rfl, rfl, _, rfl, ?_⟩
  refine iteNS rfl ?_
  refine ⟨_, rfl, _, rfl, c1, p, bs, bs, rfl, rfl, SqL.of hc4, SqL.of hp4, _, rfl, ?_⟩
  refine iteNS rfl ?_
  -- spoiled
  refine ⟨_, rfl, _, rfl, a, ns, 9, rfl, hS4, (by decide), _, _, rfl, rfl, (by show (0 : Int) < 9; decide), _, rfl, a, ns, 10, rfl, hS4, (by decide), _, rfl, a, ns, 11, rfl, hS4, (by decide), _, _, _, _, rfl, hjl, fun y H5 hy s5 => ?_⟩
  have hS5 := s5.seq hS4
  -- odd
  refine ⟨fun σ H' => ∃ y' : Str, σ = [some (.ref a), some (.int n), some (.ref p), some (.ref c1), some (.str y'), some (.str (joinNl bs)), none, none] ∧ y'.length ≤ 1000 ∧ Same H4 H', ?_, ?_⟩
  · refine ⟨_, rfl, a, ns, 9, rfl, hS5, by decide, _, _, rfl, rfl, ⟨by decide, by decide⟩, _, _, rfl, rfl, (by show (0 : Int) < 8; decide), rfl, _, rfl, ?_⟩
    refine ite2 (fun _ => ?_) (fun _ => ⟨y, rfl, hy, s5⟩)
    exact ⟨_, rfl, a, ns, 12, rfl, hS5, by decide, _, rfl, fun y' H6 hy' s6 => ⟨y', rfl, hy', s5.trans s6⟩⟩
  rintro σ H6 ⟨y, rfl, hy, s6⟩
  -- due
  refine ⟨_, rfl, y, rfl, hy, fun nb l H7 hl s7 hl7 => ?_, fun nb H7 s7 => ?_⟩
  · refine ⟨_, rfl, _, rfl, ?_⟩
    refine ite2 (fun z => absurd (of_decide_eq_true z) (fun z => nomatch z)) (fun _ => ?_)
    refine ⟨2, rfl, by decide, by decide, ?_⟩
    refine for_range (fun i σ H' => (∃ u v, σ = [some (.ref a), some (.int n), some (.ref p), some (.ref c1), some (.str y), u, some (.ref l), v]) ∧ H' l = some (.lst ((partsOf y).dropLast.map V.str))) ⟨⟨_, _, rfl⟩, hl7⟩ ?_ ?_
    · rintro i σ H' hi ⟨⟨u, v, rfl⟩, hl'⟩
      refine ⟨_, rfl, y, rfl, hy, fun _ r HA hr sA hrA => ?_, fun z => by rw [z] at nb; cases nb⟩
      refine ⟨_, rfl, _, "list", _, _, rfl, .lst hrA, kit_same, _, rfl, ?_⟩
      refine iteF ?_
      refine ⟨_, rfl, _, rfl, r, l, _, _, rfl, rfl, SqL.of hrA, SqL.of (sA _ _ hl'), _, rfl, ?_⟩
      refine iteNS rfl ?_
      have ll : ((partsOf y).dropLast.map V.str).length ≤ 1001 := by
        have z := parts_len y
        rw [List.length_map, List.length_dropLast]
        omega
      refine ⟨_, rfl, .inl ⟨rfl, _, SqL.of hrA⟩, r, _, _, rfl, rfl, hrA, Nat.lt_of_le_of_lt ll (by decide), ⟨_, _, rfl⟩, ?_⟩
      rw [upd_ne (ne_of_none hl' hr)]
      exact sA _ _ hl'
    · rintro σ H' _
      exact q H'
  · refine ⟨_, rfl, _, rfl, ?_⟩
    refine ite2 (fun _ => ?_) (fun z => absurd (decide_eq_true rfl) z)
    refine ⟨_, rfl, y, rfl, hy, (fun z => by rw [z] at nb; cases nb), fun _ t H8 ht s8 ht8 => ?_⟩
    refine ⟨(by decide), fun t2 ht2 => ?_⟩
    exact ⟨t, t2, _, _, rfl, rfl, SqT.of (same_new ht2 _ _ _ ht8), SqT.of upd_same, (by decide), (by decide), q _⟩
end
theorem all_mk {l : PySem.W.OpenLaw} {w : World} {K : PySem.W.Frag} {h : Heap} {mg : Str → Option Value} {fa f1 f2 f3 f4 f5 f6 f7 f8 f9 f10 f11 f12 f13 f14 f15 f16 f17 : Addr} (X : K.In h) (G : h.Ns mainGlobals mg) (hfa : mg "law" = some (.ref fa))
    {od1 an1 od2 an2 od3 an3 od4 an4 od5 an5 od6 an6 od7 an7 od8 an8 od9 an9 od10 an10 od11 an11 od12 an12 od13 an13 od14 an14 od15 an15 od16 an16 od17 an17 : Option Addr} {sl1 sl2 sl3 sl4 sl5 sl6 sl7 sl8 sl9 sl10 sl11 sl12 sl13 sl14 sl15 sl16 sl17 : Array (Option Value)}
    {oc1 kV1 dc1 pm1 cd1 ct1 oc2 kV2 dc2 pm2 cd2 ct2 oc3 kV3 dc3 pm3 cd3 ct3 oc4 kV4 dc4 pm4 cd4 ct4 oc5 kV5 dc5 pm5 cd5 ct5 oc6 kV6 dc6 pm6 cd6 ct6 oc7 kV7 dc7 pm7 cd7 ct7 oc8 kV8 dc8 pm8 cd8 ct8 oc9 kV9 dc9 pm9 cd9 ct9 oc10 kV10 dc10 pm10 cd10 ct10 oc11 kV11 dc11 pm11 cd11 ct11 oc12 kV12 dc12 pm12 cd12 ct12 oc13 kV13 dc13 pm13 cd13 ct13 oc14 kV14 dc14 pm14 cd14 ct14 oc15 kV15 dc15 pm15 cd15 ct15 oc16 kV16 dc16 pm16 cd16 ct16 oc17 kV17 dc17 pm17 cd17 ct17 : Value}
    {tc0 tc1 tc2 : Tok}
    (a1 : PySem.W.nsIn K mainGlobals "is_small_letter" = some (some (.ref f1))) (l1 : K.lookup f1 = some ⟨oc1, od1, .func (PySem.W.fnOf "is_small_letter" "is_small_letter" (defArgs sSmall) (defBody sSmall) (defScope sSmall) .none kV1 dc1 pm1 an1 cd1 ct1), sl1⟩) (c1 : PySem.W.codeIn K cd1 "is_small_letter" = true) (k1 : PySem.W.keepIn K (.ref f1) = true)
    (a2 : PySem.W.nsIn K mainGlobals "is_word" = some (some (.ref f2))) (l2 : K.lookup f2 = some ⟨oc2, od2, .func (PySem.W.fnOf "is_word" "is_word" (defArgs sIsWord) (defBody sIsWord) (defScope sIsWord) .none kV2 dc2 pm2 an2 cd2 ct2), sl2⟩) (c2 : PySem.W.codeIn K cd2 "is_word" = true) (k2 : PySem.W.keepIn K (.ref f2) = true)
    (a3 : PySem.W.nsIn K mainGlobals "has_book_size" = some (some (.ref f3))) (l3 : K.lookup f3 = some ⟨oc3, od3, .func (PySem.W.fnOf "has_book_size" "has_book_size" (defArgs sSize) (defBody sSize) (defScope sSize) .none kV3 dc3 pm3 an3 cd3 ct3), sl3⟩) (c3 : PySem.W.codeIn K cd3 "has_book_size" = true) (k3 : PySem.W.keepIn K (.ref f3) = true)
    (a4 : PySem.W.nsIn K mainGlobals "check_book" = some (some (.ref f4))) (l4 : K.lookup f4 = some ⟨oc4, od4, .func (PySem.W.fnOf "check_book" "check_book" (defArgs sCheck) (defBody sCheck) (defScope sCheck) .none kV4 dc4 pm4 an4 cd4 ct4), sl4⟩) (c4 : PySem.W.codeIn K cd4 "check_book" = true) (k4 : PySem.W.keepIn K (.ref f4) = true)
    (a5 : PySem.W.nsIn K mainGlobals "is_book" = some (some (.ref f5))) (l5 : K.lookup f5 = some ⟨oc5, od5, .func (PySem.W.fnOf "is_book" "is_book" (defArgs sIsBook) (defBody sIsBook) (defScope sIsBook) .none kV5 dc5 pm5 an5 cd5 ct5), sl5⟩) (c5 : PySem.W.codeIn K cd5 "is_book" = true) (k5 : PySem.W.keepIn K (.ref f5) = true)
    (a6 : PySem.W.nsIn K mainGlobals "shown" = some (some (.ref f6))) (l6 : K.lookup f6 = some ⟨oc6, od6, .func (PySem.W.fnOf "shown" "shown" (defArgs sShown) (defBody sShown) (defScope sShown) .none kV6 dc6 pm6 an6 cd6 ct6), sl6⟩) (c6 : PySem.W.codeIn K cd6 "shown" = true) (k6 : PySem.W.keepIn K (.ref f6) = true)
    (a7 : PySem.W.nsIn K mainGlobals "read" = some (some (.ref f7))) (l7 : K.lookup f7 = some ⟨oc7, od7, .func (PySem.W.fnOf "read" "read" (defArgs sRead) (defBody sRead) (defScope sRead) .none kV7 dc7 pm7 an7 cd7 ct7), sl7⟩) (c7 : PySem.W.codeIn K cd7 "read" = true) (k7 : PySem.W.keepIn K (.ref f7) = true)
    (a8 : PySem.W.nsIn K mainGlobals "_law_cell_at" = some (some (.ref f8))) (l8 : K.lookup f8 = some ⟨oc8, od8, .func (PySem.W.fnOf "_law_cell_at" "_law_cell_at" (defArgs sCell) (defBody sCell) (defScope sCell) .none kV8 dc8 pm8 an8 cd8 ct8), sl8⟩) (c8 : PySem.W.codeIn K cd8 "_law_cell_at" = true) (k8 : PySem.W.keepIn K (.ref f8) = true)
    (a9 : PySem.W.nsIn K mainGlobals "_law_word" = some (some (.ref f9))) (l9 : K.lookup f9 = some ⟨oc9, od9, .func (PySem.W.fnOf "_law_word" "_law_word" (defArgs sWord) (defBody sWord) (defScope sWord) .none kV9 dc9 pm9 an9 cd9 ct9), sl9⟩) (c9 : PySem.W.codeIn K cd9 "_law_word" = true) (k9 : PySem.W.keepIn K (.ref f9) = true)
    (a10 : PySem.W.nsIn K mainGlobals "_law_piece" = some (some (.ref f10))) (l10 : K.lookup f10 = some ⟨oc10, od10, .func (PySem.W.fnOf "_law_piece" "_law_piece" (defArgs sPiece) (defBody sPiece) (defScope sPiece) .none kV10 dc10 pm10 an10 cd10 ct10), sl10⟩) (c10 : PySem.W.codeIn K cd10 "_law_piece" = true) (k10 : PySem.W.keepIn K (.ref f10) = true)
    (a11 : PySem.W.nsIn K mainGlobals "_law_joined" = some (some (.ref f11))) (l11 : K.lookup f11 = some ⟨oc11, od11, .func (PySem.W.fnOf "_law_joined" "_law_joined" (defArgs sJoined) (defBody sJoined) (defScope sJoined) .none kV11 dc11 pm11 an11 cd11 ct11), sl11⟩) (c11 : PySem.W.codeIn K cd11 "_law_joined" = true) (k11 : PySem.W.keepIn K (.ref f11) = true)
    (a12 : PySem.W.nsIn K mainGlobals "_law_book" = some (some (.ref f12))) (l12 : K.lookup f12 = some ⟨oc12, od12, .func (PySem.W.fnOf "_law_book" "_law_book" (defArgs sBook) (defBody sBook) (defScope sBook) .none kV12 dc12 pm12 an12 cd12 ct12), sl12⟩) (c12 : PySem.W.codeIn K cd12 "_law_book" = true) (k12 : PySem.W.keepIn K (.ref f12) = true)
    (a13 : PySem.W.nsIn K mainGlobals "_law_spoiled" = some (some (.ref f13))) (l13 : K.lookup f13 = some ⟨oc13, od13, .func (PySem.W.fnOf "_law_spoiled" "_law_spoiled" (defArgs sSpoiled) (defBody sSpoiled) (defScope sSpoiled) .none kV13 dc13 pm13 an13 cd13 ct13), sl13⟩) (c13 : PySem.W.codeIn K cd13 "_law_spoiled" = true) (k13 : PySem.W.keepIn K (.ref f13) = true)
    (a14 : PySem.W.nsIn K mainGlobals "_law_odd" = some (some (.ref f14))) (l14 : K.lookup f14 = some ⟨oc14, od14, .func (PySem.W.fnOf "_law_odd" "_law_odd" (defArgs sOdd) (defBody sOdd) (defScope sOdd) .none kV14 dc14 pm14 an14 cd14 ct14), sl14⟩) (c14 : PySem.W.codeIn K cd14 "_law_odd" = true) (k14 : PySem.W.keepIn K (.ref f14) = true)
    (a15 : PySem.W.nsIn K mainGlobals "_law_due" = some (some (.ref f15))) (l15 : K.lookup f15 = some ⟨oc15, od15, .func (PySem.W.fnOf "_law_due" "_law_due" (defArgs sDue) (defBody sDue) (defScope sDue) .none kV15 dc15 pm15 an15 cd15 ct15), sl15⟩) (c15 : PySem.W.codeIn K cd15 "_law_due" = true) (k15 : PySem.W.keepIn K (.ref f15) = true)
    (a16 : PySem.W.nsIn K mainGlobals "_law_told" = some (some (.ref f16))) (l16 : K.lookup f16 = some ⟨oc16, od16, .func (PySem.W.fnOf "_law_told" "_law_told" (defArgs sTold) (defBody sTold) (defScope sTold) .none kV16 dc16 pm16 an16 cd16 ct16), sl16⟩) (c16 : PySem.W.codeIn K cd16 "_law_told" = true) (k16 : PySem.W.keepIn K (.ref f16) = true)
    (a17 : PySem.W.nsIn K mainGlobals "law" = some (some (.ref f17))) (l17 : K.lookup f17 = some ⟨oc17, od17, .func (PySem.W.fnOf "law" "law" (defArgs sLaw) (defBody sLaw) (defScope sLaw) .none kV17 dc17 pm17 an17 cd17 ct17), sl17⟩) (c17 : PySem.W.codeIn K cd17 "law" = true) (k17 : PySem.W.keepIn K (.ref f17) = true)
    (v0 : PySem.W.nsIn K mainGlobals "MOST_WORDS" = some (some (.int 6 tc0)))
    (v1 : PySem.W.nsIn K mainGlobals "MOST_LETTERS" = some (some (.int 10 tc1)))
    (v2 : PySem.W.nsIn K mainGlobals "LINE_END" = some (some (.str "\n" tc2)))
    (z0 : PySem.W.nsIn K mainGlobals "len" = some none)
    (z1 : PySem.W.nsIn K mainGlobals "range" = some none)
    (z2 : PySem.W.nsIn K mainGlobals "list" = some none)
    (z3 : PySem.W.nsIn K mainGlobals "all" = some none)
    (z4 : PySem.W.nsIn K mainGlobals "isinstance" = some none)
    (z5 : PySem.W.nsIn K mainGlobals "str" = some none)
    (z6 : PySem.W.nsIn K mainGlobals "ValueError" = some none)
    {CL CB CW CO CN : Addr}
    (er1 : PySem.W.nsIn K mainGlobals "LayError" = some (some (.ref CL)))
    (er2 : PySem.W.nsIn K mainGlobals "BadBook" = some (some (.ref CB)))
    (er3 : PySem.W.nsIn K mainGlobals "BadWord" = some (some (.ref CW)))
    (er4 : PySem.W.nsIn K mainGlobals "BadOrder" = some (some (.ref CO)))
    (er5 : PySem.W.nsIn K mainGlobals "BadNote" = some (some (.ref CN)))
    (er6 : PySem.W.excIn K CN vMro "ValueError.__new__" = true)
    (er7 : Nat.beq CN CL = false)
    (er8 : PySem.W.findIn K (.ref CN) "__getattribute__" = some (some (.builtin "BaseException.__getattribute__")))
    (er9 : PySem.W.findIn K (.ref CN) "__getattr__" = some none)
    (er10 : PySem.W.findIn K (.ref CN) "__class__" = some (some (.builtin "object.__class__")))
    (er11 : PySem.W.specialIn K (.builtin "object.__class__") "__get__" = some (some (.builtin "getset_descriptor.__get__")))
    (er12 : PySem.W.takesIn K (.builtin "object.__class__") = some true)
    (er13 : PySem.W.mroIn K CN (.type "object") = some true)
    (er14 : PySem.W.mroIn K CN (.type "BaseException") = some true)
    (er15 : PySem.W.kitOne K (.ref CN) (.ref CB) = some false)
    (er16 : PySem.W.kitOne K (.ref CN) (.ref CW) = some false)
    (er17 : PySem.W.kitOne K (.ref CN) (.ref CO) = some false)
    (er18 : PySem.W.kitOne K (.ref CN) (.ref CN) = some true)
    (er19 : PySem.W.kitOne K (.ref CN) (.type "ValueError") = some true)
    (er20 : PySem.W.subIn K (.ref CL) (.type "BaseException") = some true)
    (er21 : PySem.W.kitOne K (.ref CN) (.ref CL) = some true)
    : ∃ fd : FuncData, (∀ (s : Shared) (v : Value), BindsTo s fd ⟨[v], []⟩ [("script", v)]) ∧ ∀ base : Heap, K.In base → base.Ns mainGlobals mg → FnOk l.prog w K mg base CX0 6 fa fd ["script"] (spLaw K) := by
  have e := hfa.symm.trans (PySem.W.mg_of X G a17)
  cases e
  have T : Gb mg := ⟨PySem.W.mg_none_of X G z0, PySem.W.mg_none_of X G z1, PySem.W.mg_none_of X G z2, PySem.W.mg_none_of X G z3, PySem.W.mg_none_of X G z4, PySem.W.mg_none_of X G z5, PySem.W.mg_none_of X G z6, ⟨_, PySem.W.mg_of X G v0⟩, ⟨_, PySem.W.mg_of X G v1⟩, ⟨_, PySem.W.mg_of X G v2⟩⟩
  have E := Er.mk (PySem.W.mg_of X G er1) (PySem.W.mg_of X G er2) (PySem.W.mg_of X G er3) (PySem.W.mg_of X G er4) (PySem.W.mg_of X G er5) er6 ⟨exc_is er6, er8, er9, er10, er11, er12, er13, er14⟩ er15 er16 er17 er18 er19 (exm_of er20 er21 er7)
  have F1 := fun_mk (st := sSmall) l1 c1 k1
  have b1 := F1.binds (ps := ["sign"]) fun _ _ _ _ _ _ us hl => by obtain ⟨_, rfl⟩ := LW.len1 hl; exact rfl
  have F2 := fun_mk (st := sIsWord) l2 c2 k2
  have b2 := F2.binds (ps := ["text"]) fun _ _ _ _ _ _ us hl => by obtain ⟨_, rfl⟩ := LW.len1 hl; exact rfl
  have F3 := fun_mk (st := sSize) l3 c3 k3
  have b3 := F3.binds (ps := ["book"]) fun _ _ _ _ _ _ us hl => by obtain ⟨_, rfl⟩ := LW.len1 hl; exact rfl
  have F4 := fun_mk (st := sCheck) l4 c4 k4
  have b4 := F4.binds (ps := ["book"]) fun _ _ _ _ _ _ us hl => by obtain ⟨_, rfl⟩ := LW.len1 hl; exact rfl
  have F5 := fun_mk (st := sIsBook) l5 c5 k5
  have b5 := F5.binds (ps := ["book"]) fun _ _ _ _ _ _ us hl => by obtain ⟨_, rfl⟩ := LW.len1 hl; exact rfl
  have F6 := fun_mk (st := sShown) l6 c6 k6
  have b6 := F6.binds (ps := ["book"]) fun _ _ _ _ _ _ us hl => by obtain ⟨_, rfl⟩ := LW.len1 hl; exact rfl
  have F7 := fun_mk (st := sRead) l7 c7 k7
  have b7 := F7.binds (ps := ["text"]) fun _ _ _ _ _ _ us hl => by obtain ⟨_, rfl⟩ := LW.len1 hl; exact rfl
  have F8 := fun_mk (st := sCell) l8 c8 k8
  have b8 := F8.binds (ps := ["script", "k"]) fun _ _ _ _ _ _ us hl => by obtain ⟨_, _, rfl⟩ := LW.len2 hl; exact rfl
  have F9 := fun_mk (st := sWord) l9 c9 k9
  have b9 := F9.binds (ps := ["cell", "letters", "most"]) fun _ _ _ _ _ _ us hl => by obtain ⟨_, _, _, rfl⟩ := LW.len3 hl; exact rfl
  have F10 := fun_mk (st := sPiece) l10 c10 k10
  have b10 := F10.binds (ps := ["word", "cell"]) fun _ _ _ _ _ _ us hl => by obtain ⟨_, _, rfl⟩ := LW.len2 hl; exact rfl
  have F11 := fun_mk (st := sJoined) l11 c11 k11
  have b11 := F11.binds (ps := ["one", "other", "most"]) fun _ _ _ _ _ _ us hl => by obtain ⟨_, _, _, rfl⟩ := LW.len3 hl; exact rfl
  have F12 := fun_mk (st := sBook) l12 c12 k12
  have b12 := F12.binds (ps := ["script", "start", "words", "most"]) fun _ _ _ _ _ _ us hl => by obtain ⟨_, _, _, _, rfl⟩ := LW.len4 hl; exact rfl
  have F13 := fun_mk (st := sSpoiled) l13 c13 k13
  have b13 := F13.binds (ps := ["text", "way", "cell", "other"]) fun _ _ _ _ _ _ us hl => by obtain ⟨_, _, _, _, rfl⟩ := LW.len4 hl; exact rfl
  have F14 := fun_mk (st := sOdd) l14 c14 k14
  have b14 := F14.binds (ps := ["cell"]) fun _ _ _ _ _ _ us hl => by obtain ⟨_, rfl⟩ := LW.len1 hl; exact rfl
  have F15 := fun_mk (st := sDue) l15 c15 k15
  have b15 := F15.binds (ps := ["text"]) fun _ _ _ _ _ _ us hl => by obtain ⟨_, rfl⟩ := LW.len1 hl; exact rfl
  have F16 := fun_mk (st := sTold) l16 c16 k16
  have b16 := F16.binds (ps := ["text"]) fun _ _ _ _ _ _ us hl => by obtain ⟨_, rfl⟩ := LW.len1 hl; exact rfl
  have F17 := fun_mk (st := sLaw) l17 c17 k17
  refine ⟨PySem.W.fnOf "law" "law" (defArgs sLaw) (defBody sLaw) (defScope sLaw) .none kV17 dc17 pm17 an17 cd17 ct17, fun s v => .of_eq rfl, fun base _ _ => ?_⟩
  have H1 : Has l.prog w K mg base "is_small_letter" 1 ["sign"] spSmall := ⟨_, _, ok_Small F1 T , b1, k1, PySem.W.mg_of X G a1⟩
  have H2 : Has l.prog w K mg base "is_word" 2 ["text"] spIsWord := ⟨_, _, ok_IsWord F2 T H1, b2, k2, PySem.W.mg_of X G a2⟩
  have H3 : Has l.prog w K mg base "has_book_size" 1 ["book"] (spSize K) := ⟨_, _, ok_Size F3 T , b3, k3, PySem.W.mg_of X G a3⟩
  have H4 : Has l.prog w K mg base "check_book" 3 ["book"] (spCheck K) := ⟨_, _, ok_Check F4 T H3 H2, b4, k4, PySem.W.mg_of X G a4⟩
  have H5 : Has l.prog w K mg base "is_book" 3 ["book"] (spIsBook K) := ⟨_, _, ok_IsBook F5 T H3 H2, b5, k5, PySem.W.mg_of X G a5⟩
  have H6 : Has l.prog w K mg base "shown" 4 ["book"] (spShown K) := ⟨_, _, ok_Shown F6 T H4, b6, k6, PySem.W.mg_of X G a6⟩
  have H7 : HasR l.prog w K mg base "read" 4 ["text"] (spRead CN) := ⟨_, _, ok_Read F7 T E H5, b7, k7, PySem.W.mg_of X G a7⟩
  have H8 : Has l.prog w K mg base "_law_cell_at" 1 ["script", "k"] (spCell K) := ⟨_, _, ok_Cell F8 T , b8, k8, PySem.W.mg_of X G a8⟩
  have H9 : Has l.prog w K mg base "_law_word" 1 ["cell", "letters", "most"] spWord := ⟨_, _, ok_Word F9 T , b9, k9, PySem.W.mg_of X G a9⟩
  have H10 : Has l.prog w K mg base "_law_piece" 1 ["word", "cell"] spPiece := ⟨_, _, ok_Piece F10 T , b10, k10, PySem.W.mg_of X G a10⟩
  have H11 : Has l.prog w K mg base "_law_joined" 1 ["one", "other", "most"] spJoined := ⟨_, _, ok_Joined F11 T , b11, k11, PySem.W.mg_of X G a11⟩
  have H12 : Has l.prog w K mg base "_law_book" 2 ["script", "start", "words", "most"] (spBook K) := ⟨_, _, ok_Book F12 T H8 H9 H10 H11, b12, k12, PySem.W.mg_of X G a12⟩
  have H13 : Has l.prog w K mg base "_law_spoiled" 1 ["text", "way", "cell", "other"] spSpoiled := ⟨_, _, ok_Spoiled F13 T , b13, k13, PySem.W.mg_of X G a13⟩
  have H14 : Has l.prog w K mg base "_law_odd" 1 ["cell"] spOdd := ⟨_, _, ok_Odd F14 T , b14, k14, PySem.W.mg_of X G a14⟩
  have H15 : Has l.prog w K mg base "_law_due" 1 ["text"] spDue := ⟨_, _, ok_Due F15 T , b15, k15, PySem.W.mg_of X G a15⟩
  have H16 : Has l.prog w K mg base "_law_told" 5 ["text"] spTold := ⟨_, _, ok_Told F16 T E H7, b16, k16, PySem.W.mg_of X G a16⟩
  exact ok_Law F17 T H8 H12 H6 H13 H14 H15 H16
theorem walk {l : PySem.W.OpenLaw} {q : Program} {loose : List Str} {XP : (Str → Option Value) → Heap → Prop} {YP : World → Heap → Prop} {d : DefRec} {K : Params → PySem.W.Frag} (hn : l.most = some 63) (hdf : d.params.defaults = [])
    (hY : ∀ (w : World) (h : Heap), YP w h → (K w.params).In h)
    (F : ∀ (w : World) (mg : Str → Option Value) (fa : Addr) (h : Heap), (K w.params).In h → h.Ns mainGlobals mg → mg d.name = some (.ref fa) →
      ∃ fd : FuncData, (∀ (s : Shared) (u : Value), BindsTo s fd ⟨[u], []⟩ [("script", u)]) ∧ ∀ base : Heap, (K w.params).In base → base.Ns mainGlobals mg → FnOk l.prog w (K w.params) mg base CX0 6 fa fd ["script"] (spLaw (K w.params))) :
    PySem.W.WalkO q loose XP YP l.row.toRowW d [] (fun f vs => PySem.call f vs) :=
  walk_ofB (n := 63) (k := 6) (x := "script") (CX := fun _ => CX0) (sp := fun w => spLaw (K w.params)) hn (by decide) hdf ⟨rfl, by decide, by decide⟩ hY F (fun _ _ a ns hl hb _ hS => ⟨a, ns, rfl, hS, hl, hb, fun _ => rfl⟩) fun _ _ _ _ _ z => z
end My
open PySem PySem.W PyProof.Rows
set_option maxRecDepth 100000 in
set_option maxHeartbeats 0 in
theorem PySem.Challenge.cw_laidwords_k11_books_written_holds : PySem.Challenge.rw_laidwords_k11_books_written.Holds := by
  w_on; o_law; k_head; (case hw => w_witness2)
  k_fill
  refine My.walk (l := PySem.Challenge.rw_laidwords_k11_books_written) rfl rfl (fun w h Y => PySem.W.kIn_of Y) ?F
  case F =>
    intro w mg fa h KX G hmg
    refine' My.all_mk KX G hmg ?a1 ?l1 ?c1 ?k1 ?a2 ?l2 ?c2 ?k2 ?a3 ?l3 ?c3 ?k3 ?a4 ?l4 ?c4 ?k4 ?a5 ?l5 ?c5 ?k5 ?a6 ?l6 ?c6 ?k6 ?a7 ?l7 ?c7 ?k7 ?a8 ?l8 ?c8 ?k8 ?a9 ?l9 ?c9 ?k9 ?a10 ?l10 ?c10 ?k10 ?a11 ?l11 ?c11 ?k11 ?a12 ?l12 ?c12 ?k12 ?a13 ?l13 ?c13 ?k13 ?a14 ?l14 ?c14 ?k14 ?a15 ?l15 ?c15 ?k15 ?a16 ?l16 ?c16 ?k16 ?a17 ?l17 ?c17 ?k17 ?v0 ?v1 ?v2 ?z0 ?z1 ?z2 ?z3 ?z4 ?z5 ?z6 ?er1 ?er2 ?er3 ?er4 ?er5 ?er6 ?er7 ?er8 ?er9 ?er10 ?er11 ?er12 ?er13 ?er14 ?er15 ?er16 ?er17 ?er18 ?er19 ?er20 ?er21
    (case a1 => k_is)
    (case l1 => k_is)
    (case c1 => k_is)
    (case k1 => k_is)
    (case a2 => k_is)
    (case l2 => k_is)
    (case c2 => k_is)
    (case k2 => k_is)
    (case a3 => k_is)
    (case l3 => k_is)
    (case c3 => k_is)
    (case k3 => k_is)
    (case a4 => k_is)
    (case l4 => k_is)
    (case c4 => k_is)
    (case k4 => k_is)
    (case a5 => k_is)
    (case l5 => k_is)
    (case c5 => k_is)
    (case k5 => k_is)
    (case a6 => k_is)
    (case l6 => k_is)
    (case c6 => k_is)
    (case k6 => k_is)
    (case a7 => k_is)
    (case l7 => k_is)
    (case c7 => k_is)
    (case k7 => k_is)
    (case a8 => k_is)
    (case l8 => k_is)
    (case c8 => k_is)
    (case k8 => k_is)
    (case a9 => k_is)
    (case l9 => k_is)
    (case c9 => k_is)
    (case k9 => k_is)
    (case a10 => k_is)
    (case l10 => k_is)
    (case c10 => k_is)
    (case k10 => k_is)
    (case a11 => k_is)
    (case l11 => k_is)
    (case c11 => k_is)
    (case k11 => k_is)
    (case a12 => k_is)
    (case l12 => k_is)
    (case c12 => k_is)
    (case k12 => k_is)
    (case a13 => k_is)
    (case l13 => k_is)
    (case c13 => k_is)
    (case k13 => k_is)
    (case a14 => k_is)
    (case l14 => k_is)
    (case c14 => k_is)
    (case k14 => k_is)
    (case a15 => k_is)
    (case l15 => k_is)
    (case c15 => k_is)
    (case k15 => k_is)
    (case a16 => k_is)
    (case l16 => k_is)
    (case c16 => k_is)
    (case k16 => k_is)
    (case a17 => k_is)
    (case l17 => k_is)
    (case c17 => k_is)
    (case k17 => k_is)
    (case v0 => k_is)
    (case v1 => k_is)
    (case v2 => k_is)
    (case z0 => k_is)
    (case z1 => k_is)
    (case z2 => k_is)
    (case z3 => k_is)
    (case z4 => k_is)
    (case z5 => k_is)
    (case z6 => k_is)
    (case er1 => first | k_is | kit_is | k_exc | rfl)
    (case er2 => first | k_is | kit_is | k_exc | rfl)
    (case er3 => first | k_is | kit_is | k_exc | rfl)
    (case er4 => first | k_is | kit_is | k_exc | rfl)
    (case er5 => first | k_is | kit_is | k_exc | rfl)
    (case er6 => first | k_is | kit_is | k_exc | rfl)
    (case er7 => first | k_is | kit_is | k_exc | rfl)
    (case er8 => first | k_is | kit_is | k_exc | rfl)
    (case er9 => first | k_is | kit_is | k_exc | rfl)
    (case er10 => first | k_is | kit_is | k_exc | rfl)
    (case er11 => first | k_is | kit_is | k_exc | rfl)
    (case er12 => first | k_is | kit_is | k_exc | rfl)
    (case er13 => first | k_is | kit_is | k_exc | rfl)
    (case er14 => first | k_is | kit_is | k_exc | rfl)
    (case er15 => first | k_is | kit_is | k_exc | rfl)
    (case er16 => first | k_is | kit_is | k_exc | rfl)
    (case er17 => first | k_is | kit_is | k_exc | rfl)
    (case er18 => first | k_is | kit_is | k_exc | rfl)
    (case er19 => first | k_is | kit_is | k_exc | rfl)
    (case er20 => first | k_is | kit_is | k_exc | rfl)
    (case er21 => first | k_is | kit_is | k_exc | rfl)
#print axioms PySem.Challenge.cw_laidwords_k11_books_written_holds
