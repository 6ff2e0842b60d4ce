import PyProof.Rows.All
import Wide.All
import OpenK.AllK
import Wide.FinOn
import Lean
import PyProof.EqAt
import PyProof.EqKinds
import PyProof.TupleCall
import PyProof.NeKinds
import PySem.Challenge.RW_laidwords_k12_refusals
set_option Elab.async false
set_option linter.all false
set_option maxRecDepth 100000
set_option maxHeartbeats 4000000
namespace Tp
open PySem PySem.W PyProof.Rows
noncomputable def vw (p : Program) : Program := { p with main := { p.main with body := ((((((p.main.body.eraseIdx 43).eraseIdx 31).eraseIdx 28).eraseIdx 24).eraseIdx 19).eraseIdx 6).eraseIdx 0 } }
noncomputable def xt (q : Program) (s : Shared) : Bool := xlAt q [] s && recOk (RowW.records PySem.Challenge.rw_laidwords_k12_refusals.row.toRowW) s
noncomputable def top (p : Program) (w : World) (os : OsState) : Option Shared := topFrom treeTable p w 4710 ⟨boot_heap w.params, Array.mk [], boot_drawn, boot_toks, os⟩
theorem cut {A B C : Prop} (h : A ∧ B → C) (a : A) : B → C := fun b => h ⟨a, b⟩
theorem glue {p q : Program} {loose : List Str} {Xt : Shared → Bool} {α : Type} {Yf : Shared → α} {Ya : World → α} {g0 : Bool}
    (B : ∀ w : World, (fencedOpening treeTable p w 4710).map (fun s => (s.heap, s.gens, s.drawn, s.toks)) = some (boot_heap w.params, Array.mk [], boot_drawn, boot_toks))
    (h1 : ∀ (w : World) (os : OsState), (top p w os).map (openSeen q loose (importedModules p.main.body) Xt g0) = some (openGood q loose))
    (h2 : ∀ (w : World) (os : OsState), (top p w os).map Yf = some (Ya w)) : LeftO p q loose Xt Yf Ya 4710 g0 := fun w => by
  obtain ⟨s, hs, hv⟩ := Option.map_eq_some_iff.mp (B w)
  obtain ⟨x1, x2, x3, x4, os⟩ := s
  obtain ⟨e1, e2⟩ := Prod.mk.inj hv
  obtain ⟨e5, e6⟩ := Prod.mk.inj e2
  obtain ⟨e7, e8⟩ := Prod.mk.inj e6
  dsimp only at e1 e5 e7 e8
  subst e1; subst e5; subst e7; subst e8
  obtain ⟨s1, a1, b1⟩ := Option.map_eq_some_iff.mp (h1 w os)
  obtain ⟨s2, a2, b2⟩ := Option.map_eq_some_iff.mp (h2 w os)
  cases a1.symm.trans a2
  unfold openEnds
  rw [hs]
  show Option.map _ (top p w os) = _
  rw [a1]
  dsimp only [Option.map]
  rw [b1, b2]
theorem hl1 : ∀ (w : World) (os : OsState), (top PySem.Challenge.pw_laidwords_k12_refusals w os).map (openSeen (vw PySem.Challenge.pw_laidwords_k12_refusals) [] (importedModules PySem.Challenge.pw_laidwords_k12_refusals.main.body) (xt (vw PySem.Challenge.pw_laidwords_k12_refusals)) true) = some (openGood (vw PySem.Challenge.pw_laidwords_k12_refusals) []) := by
  intro w os
  kernel_rfl
local macro_rules | `(tactic| o_head $H:term) => `(tactic| (refine holds_open (q := vw PySem.Challenge.pw_laidwords_k12_refusals) (loose := []) (Xt := xt (vw PySem.Challenge.pw_laidwords_k12_refusals)) (XP := XL (vw PySem.Challenge.pw_laidwords_k12_refusals) []) (Yf := Hook.obs $H) (Ya := Hook.val $H) (YP := Hook.says $H) (N := 4710) ?_ (Hook.of $H) (Hook.keeps $H) (fun s e => xl_of s (Bool.and_eq_true_iff.mp e).1) XL.keeps (by rfl) (by rfl) (by rfl) (fun s e => recFacts_of (Bool.and_eq_true_iff.mp e).2) (by rfl) (by first | assumption | decide +kernel) (by decide +kernel) ⟨rfl, rfl, rfl, rfl, rfl, by decide +kernel⟩ ?hw ?hc; exact glue (boot_open (by kernel_rfl) rfl fun s => by kernel_rfl) hl1 fun w os => by kernel_rfl))
open_top head for PySem.Challenge.rw_laidwords_k12_refusals
end Tp
local macro_rules | `(tactic| omega) => `(tactic| first | with_reducible assumption | with_reducible exact Nat.le_refl _ | with_reducible exact Nat.zero_le _ | with_reducible exact Int.natCast_nonneg _ | with_reducible exact Nat.le_of_lt (by assumption) | with_reducible exact Nat.le_trans (by assumption) (by decide) | with_reducible exact Nat.lt_of_le_of_lt (by assumption) (by decide) | with_reducible exact Nat.lt_of_lt_of_le (by assumption) (by assumption) | with_reducible exact Nat.lt_of_le_of_lt (by assumption) (by assumption) | with_reducible exact Nat.le_trans (by assumption) (by assumption) | with_reducible exact Int.ofNat_lt.mpr (by assumption) | with_reducible exact Int.ofNat_le.mpr (by assumption) | with_reducible exact Nat.sub_sub_self (by assumption) | with_reducible exact Nat.sub_sub_self (Nat.le_trans (by decide) (by assumption)) | with_reducible exact Nat.add_lt_of_lt_sub' (by assumption) | with_reducible exact Nat.add_lt_of_lt_sub (by assumption) | with_reducible exact Nat.sub_add_cancel (by assumption) | with_reducible exact Nat.sub_add_cancel (Nat.le_trans (by decide) (by assumption)) | with_reducible exact Nat.sub_pos_of_lt (by assumption) | with_reducible exact Nat.sub_lt_sub_left (by assumption) (Nat.lt_succ_self _) | with_reducible exact Nat.sub_lt_sub_right (by assumption) (by assumption) | with_reducible exact Nat.add_sub_of_le (by assumption) | with_reducible exact Nat.add_sub_of_le (Nat.le_of_not_lt (by assumption)) | with_reducible exact Nat.min_eq_left (by assumption) | with_reducible exact Nat.min_eq_right (by assumption) | with_reducible exact Nat.sub_le _ _ | with_reducible exact Nat.lt_succ_of_le (by assumption) | with_reducible exact Nat.le_of_lt_succ (by assumption) | with_reducible exact Nat.succ_le_of_lt (by assumption) | with_reducible exact Nat.le_sub_of_add_le (by assumption) | with_reducible exact Nat.sub_le_of_le_add (by assumption) | lia | fail)
namespace L2
open PySem PySem.Spec PyProof.Rows
abbrev Key:=Sum Int Str
def keyIs:Key→Value→Bool
 | .inl k,v=>Value.isInt k v
 | .inr x,v=>Value.isStrOf x v
def keyH (w:World):Key→Int
 | .inl k=>hashInt k
 | .inr x=>hashStr w x
theorem keyIs_shape:∀ {k:Key} {v:Value},keyIs k v=true→(∃ i t,k=Sum.inl i∧v=Value.int i t)∨(∃ x t,k=Sum.inr x∧v=Value.str x t)
 | .inl i,v,h=>by
  obtain ⟨t,e⟩:=Value.isInt_shape (k:=i) (v:=v) h
  exact .inl ⟨i,t,rfl,e⟩
 | .inr x,v,h=>by
  obtain ⟨t,e⟩:=Value.isStrOf_shape (x:=x) (v:=v) h
  exact .inr ⟨x,t,rfl,e⟩
theorem key_ll (a b:Int):decide ((Sum.inl a:Key)=Sum.inl b)=(a == b):=by
 by_cases e:a=b
 · subst e; simp
 · have h:¬ (Sum.inl a:Key)=Sum.inl b:=fun q=>e (Sum.inl.inj q)
   rw [decide_eq_false h]
   exact (beq_eq_false_iff_ne.mpr e).symm
theorem key_rr (a b:Str):decide ((Sum.inr a:Key)=Sum.inr b)=decide (a=b):=by
 by_cases e:a=b
 · subst e; simp
 · have h:¬ (Sum.inr a:Key)=Sum.inr b:=fun q=>e (Sum.inr.inj q)
   rw [decide_eq_false h,decide_eq_false e]
theorem key_lr (a:Int) (b:Str):decide ((Sum.inl a:Key)=Sum.inr b)=false:=decide_eq_false (fun q=>nomatch q)
theorem key_rl (a:Str) (b:Int):decide ((Sum.inr a:Key)=Sum.inl b)=false:=decide_eq_false (fun q=>nomatch q)
def mixKind (prog:Program) (w:World):PySem.KeyKind prog w Key where
 is:=keyIs
 hash:=keyH w
 inj:=fun v a b ha hb=>by
  rcases keyIs_shape ha with ⟨i,t,rfl,rfl⟩ | ⟨x,t,rfl,rfl⟩
  · rcases keyIs_shape hb with ⟨j,u,rfl,e⟩ | ⟨y,u,rfl,e⟩
    · injection e with e1 _; rw [e1]
    · exact nomatch e
  · rcases keyIs_shape hb with ⟨j,u,rfl,e⟩ | ⟨y,u,rfl,e⟩
    · exact nomatch e
    · injection e with e1 _; rw [e1]
 byValue:=fun k v h=>by
  rcases keyIs_shape h with ⟨i,t,rfl,rfl⟩ | ⟨x,t,rfl,rfl⟩ <;> rfl
 pyHash:=fun hv h=>by
  rcases keyIs_shape hv with ⟨i,t,rfl,rfl⟩ | ⟨x,t,rfl,rfl⟩
  · exact wpAny_pyHash_int h
  · exact wpAny_pyHash_str h
 eqBool:=fun hu hv h=>by
  rcases keyIs_shape hu with ⟨i,t,rfl,rfl⟩ | ⟨x,t,rfl,rfl⟩
  · rcases keyIs_shape hv with ⟨j,u,rfl,rfl⟩ | ⟨y,u,rfl,rfl⟩
    · rw [key_ll] at h; exact wpAny_eqBool_int h
    · rw [key_lr] at h; exact SeqAt.EqAt.int_str i t y u _ _ _ _ h
  · rcases keyIs_shape hv with ⟨j,u,rfl,rfl⟩ | ⟨y,u,rfl,rfl⟩
    · rw [key_rl] at h; exact SeqAt.EqAt.str_int x t j u _ _ _ _ h
    · rw [key_rr] at h; exact wpAny_eqBool_str h
 «strs»:=fun k x t v h=>by
  rcases keyIs_shape h with ⟨i,u,rfl,e⟩ | ⟨y,u,rfl,e⟩
  · exact nomatch e
  · injection e with e1 _
    subst e1
    cases v <;> rfl
inductive V where
 | non | bl (b:Bool) | int (i:Int) | str (x:Str) | byt (b:Array UInt8) | flt (b:UInt64) | ref (a:Addr) | ty (n:String)
 deriving DecidableEq
def RelV:V→Value→Prop
 | .non,u=>u=Value.none
 | .bl b,u=>u=Value.bool b
 | .int i,u=>∃ t,u=Value.int i t
 | .str x,u=>∃ t,u=Value.str x t
 | .byt b,u=>∃ t,u=Value.bytes b t
 | .flt b,u=>∃ t,u=Value.float b t
 | .ref a,u=>u=Value.ref a
 | .ty n,u=>u=Value.type n
abbrev Vals:List V→List Value→Prop:=Paired RelV
theorem Vals.length {xs:List V} {us:List Value} (r:Vals xs us):xs.length=us.length:=Paired.length r
theorem Vals.get:∀ {xs:List V} {us:List Value} {i:Nat} {x:V},Vals xs us→xs[i]? = some x→∃ u,us[i]? = some u∧RelV x u
 | _,_,_,_,.nil,e=>by simp at e
 | _,_,0,_,.cons r _,e=>by simp at e; subst e; exact ⟨_,rfl,r⟩
 | _,_,i+1,x,.cons _ t,e=>by
  obtain ⟨u,h1,h2⟩:=Vals.get (i:=i) (x:=x) t (by simpa using e)
  exact ⟨u,by simpa using h1,h2⟩
theorem Vals.set {x:V} {u:Value} (r:RelV x u):∀ {xs:List V} {us:List Value} (i:Nat),Vals xs us→Vals (xs.set i x) (us.set i u)
 | _,_,_,.nil=>.nil
 | _,_,0,.cons _ t=>.cons r t
 | _,_,i+1,.cons q t=>.cons q (Vals.set r i t)
theorem Vals.append:∀ {xs ys:List V} {us ws:List Value},Vals xs us→Vals ys ws→Vals (xs ++ ys) (us ++ ws)
 | _,_,_,_,.nil,s=>s
 | _,_,_,_,.cons r t,s=>.cons r (Vals.append t s)
theorem Vals.take:∀ {xs:List V} {us:List Value} (n:Nat),Vals xs us→Vals (xs.take n) (us.take n)
 | _,_,0,_=>.nil
 | _,_,_+1,.nil=>.nil
 | _,_,n+1,.cons r t=>.cons r (Vals.take n t)
theorem Vals.drop:∀ {xs:List V} {us:List Value} (n:Nat),Vals xs us→Vals (xs.drop n) (us.drop n)
 | _,_,0,r=>r
 | _,_,_+1,.nil=>.nil
 | _,_,n+1,.cons _ t=>Vals.drop n t
def RelO:Option V→Option Value→Prop
 | some v,some u=>RelV v u
 | none,none=>True
 | _,_=>False
def KV {κ:Type}:List (κ×V)→List (κ×Value)→Prop:=Paired fun (p:κ×V) (q:κ×Value)=>p.1=q.1∧RelV p.2 q.2
def kV:Key→V
 | .inl i=>.int i
 | .inr x=>.str x
inductive HO where
 | lst (xs:List V)
 | tup (xs:List V)
 | dK (kvs:List (Key×V)) | dT (kvs:List (List Key×V))
 | set (S:Int→Bool) (n:Nat)
 | ins (C dx:Addr) (fs:List (Str×V))
 | own (x:Addr)
 | xd (fs:List (Str×V))
 | met (f x:Addr)
 | rng (lo hi:Int)
 | frz (o:Obj) (u:HO)
 | tbl (ps:Array Value)
 | ext (φ:Heap→Prop)
abbrev Hp:=Addr→Option HO
def upd (H:Hp) (a:Addr) (o:HO):Hp:=fun b=>if b=a then some o else H b
theorem upd_same {H:Hp} {a:Addr} {o:HO}:upd H a o a=some o:=by unfold upd; rw [if_pos rfl]
theorem upd_ne {H:Hp} {a b:Addr} {o:HO} (h:b≠a):upd H a o b=H b:=by unfold upd; rw [if_neg h]
theorem ne_of {H:Hp} {a b:Addr} {o u:HO} (h:H a=some o) (h':H b=some u) (d:o≠u):a≠b:=by
 intro e; subst e; rw [h] at h'; exact d (Option.some.inj h')
theorem ne_of_none {H:Hp} {a b:Addr} {o:HO} (h:H a=some o) (h':H b=none):a≠b:=by
 intro e; subst e; rw [h] at h'; cases h'
section
variable (P:Program) (w:World)
def ObjOk (H:Hp) (h:Heap) (a:Addr):HO→Prop
 | .lst xs=>xs.length≤sizeLine∧∃ (its:List Value) (n:Nat),Vals xs its∧h.get? a=some { cls:=.type "list",data:=.seq its.toArray n }
 | .tup xs=>xs.length≤sizeLine∧∃ its:List Value,Vals xs its∧IsTup h a its.toArray
 | .dK kvs=>kvs.length≤sizeLine∧(a == sysModules)=false∧∃ vs,KV kvs vs∧h.DictOf (mixKind P w) a vs
 | .dT kvs=>kvs.length≤sizeLine∧(a == sysModules)=false∧∃ xs:List (List Key×Addr×Value),
   Paired (fun (p:List Key×V) (q:List Key×Addr×Value)=>p.1=q.1∧H q.2.1=some (.tup (p.1.map kV))∧RelV p.2 q.2.2) kvs xs ∧
   ∃ o es ep,h.get? a=some o∧o.ExactDict∧o.data=.dict es ep∧es.toList=xs.map (entryOfKey (tupleKind (mixKind P w)))∧(xs.map (·.1)).Nodup
 | .set S n=>h.SetOf (intKind P w) a S n
 | .ins C dx fs=>H dx=some (.own a)∧fs.length≤1000∧dx≠a∧h.get? a=some (W.instObj C dx) ∧
   ∃ mA,h.Ns1 dx mA∧(∀ f,RelO (fs.lookup f) (mA f))∧PySem.Within mA (fs.map (·.1))
 | .own _=>∃ o,h.get? a=some o
 | .xd fs=>∃ mA,h.Ns1 a mA∧∀ f,RelO (fs.lookup f) (mA f)
 | .rng lo hi=>∃ t u v,h.get? a=some { cls:=.type "range",data:=.fields #[.int lo t,.int hi u,.int 1 v] }
 | .frz o u=>h.get? a=some o∧ObjOk H h a u
 | .tbl ps=>h.get? a=some { cls:=.none,data:=.fields ps }
 | .met f x=>h.get? a=some (W.methodObj (.ref f) (.ref x))
 | .ext φ=>φ h∧(∃ o,h.get? a=some o)∧∀ h1 h2:Heap,φ h1→(∀ o,h1.get? a=some o→h2.get? a=some o)→φ h2
def HOk (H:Hp) (h:Heap):Prop:=∀ a o,H a=some o→ObjOk P w H h a o
end
section
variable {P:Program} {w:World} {H H':Hp} {h h':Heap} {a:Addr} {o:HO}
theorem ObjOk.lt (x:ObjOk P w H h a o):a < h.objs.size:=by
 cases o with
 | lst xs=>obtain ⟨_,_,_,_,e⟩:=x; exact Heap.lt_size e
 | tup xs=>obtain ⟨_,_,_,p⟩:=x; exact p.lt
 | dK kvs=>obtain ⟨_,_,_,_,o,_,_,e,_⟩:=x; exact Heap.lt_size e
 | dT kvs=>obtain ⟨_,_,_,_,o,_,_,e,_⟩:=x; exact Heap.lt_size e
 | set S n=>obtain ⟨o,_,_,_,e,_⟩:=x; exact Heap.lt_size e
 | ins C dx fs=>obtain ⟨_,_,_,e,_⟩:=x; exact Heap.lt_size e
 | own y=>obtain ⟨_,e⟩:=x; exact Heap.lt_size e
 | xd fs=>obtain ⟨_,⟨_,_,_,e,_⟩,_⟩:=x; exact Heap.lt_size e
 | rng lo hi=>obtain ⟨_,_,_,e⟩:=x; exact Heap.lt_size e
 | frz ob u=>obtain ⟨e,_⟩:=x; exact Heap.lt_size e
 | tbl ps=>exact Heap.lt_size (show h.get? a=some _ from x)
 | met f y=>exact Heap.lt_size (show h.get? a=some _ from x)
 | ext φ=>obtain ⟨_,⟨_,e⟩,_⟩:=x; exact Heap.lt_size e
theorem Paired.mapP {α β:Type} {F G:α→β→Prop}:∀ {l₁:List α} {l₂:List β},Paired F l₁ l₂→(∀ a b,F a b→G a b)→Paired G l₁ l₂
 | _,_,.nil,_=>.nil
 | _,_,.cons r t,f=>.cons (f _ _ r) (Paired.mapP t f)
theorem ObjOk.stay (x:ObjOk P w H h a o) (k:∀ b u,(b=a∨H b=some (.own a))→h.get? b=some u→h'.get? b=some u)
  (ho:∀ b,H b=some (.own a)→H' b=some (.own a)) (ht:∀ b xs,H b=some (.tup xs)→H' b=some (.tup xs)):ObjOk P w H' h' a o:=by
 induction o with
 | lst xs=>obtain ⟨z,its,n,r,e⟩:=x; exact ⟨z,its,n,r,k _ _ (.inl rfl) e⟩
 | tup xs=>obtain ⟨z,its,r,ob,e,c⟩:=x; exact ⟨z,its,r,ob,k _ _ (.inl rfl) e,c⟩
 | dK kvs=>obtain ⟨z,y,vs,r,ob,es,ep,e,c⟩:=x; exact ⟨z,y,vs,r,ob,es,ep,k _ _ (.inl rfl) e,c⟩
 | dT kvs =>
  obtain ⟨z,y,xs,r,ob,es,ep,e,c⟩:=x
  exact ⟨z,y,xs,Paired.mapP r fun p q z=>⟨z.1,ht _ _ z.2.1,z.2.2⟩,ob,es,ep,k _ _ (.inl rfl) e,c⟩
 | set S n=>obtain ⟨ob,es,ep,t,e,c⟩:=x; exact ⟨ob,es,ep,t,k _ _ (.inl rfl) e,c⟩
 | ins C dx fs =>
  obtain ⟨d,z,ne,e,mA,⟨od,es,ep,e2,c⟩,r⟩:=x
  exact ⟨ho _ d,z,ne,k _ _ (.inl rfl) e,mA,⟨od,es,ep,k _ _ (.inr d) e2,c⟩,r⟩
 | own y=>obtain ⟨ob,e⟩:=x; exact ⟨ob,k _ _ (.inl rfl) e⟩
 | xd fs=>obtain ⟨mA,⟨od,es,ep,e,c⟩,r⟩:=x; exact ⟨mA,⟨od,es,ep,k _ _ (.inl rfl) e,c⟩,r⟩
 | rng lo hi=>obtain ⟨t,u,v,e⟩:=x; exact ⟨t,u,v,k _ _ (.inl rfl) e⟩
 | frz ob u ih=>obtain ⟨e,q⟩:=x; exact ⟨k _ _ (.inl rfl) e,ih q⟩
 | tbl ps =>
  have e:h.get? a=some { cls:=.none,data:=.fields ps }:=x
  show h'.get? a=some { cls:=.none,data:=.fields ps }
  exact k a _ (.inl rfl) e
 | met f y =>
  have e:h.get? a=some (W.methodObj (.ref f) (.ref y)):=x
  show h'.get? a=some (W.methodObj (.ref f) (.ref y))
  exact k a _ (.inl rfl) e
 | ext φ=>obtain ⟨p,⟨o,e⟩,st⟩:=x; exact ⟨st _ _ p fun o q=>k _ _ (.inl rfl) q,⟨o,k _ _ (.inl rfl) e⟩,st⟩
theorem HOk.lt (x:HOk P w H h) (e:H a=some o):a < h.objs.size:=(x a o e).lt
theorem HOk.fresh (x:HOk P w H h) (e:h.objs.size≤a):H a=none:=by
 cases q:H a with
 | none=>rfl
 | some u=>exact absurd (Nat.lt_of_lt_of_le (x.lt q) e) (Nat.lt_irrefl _)
theorem HOk.kept (x:HOk P w H h) (k:∀ b u,h.get? b=some u→h'.get? b=some u):HOk P w H h':=fun a o e =>
 (x a o e).stay (fun b u _ q=>k b u q) (fun _ q=>q) fun _ _ q=>q
theorem HOk.laid (x:HOk P w H h) (k:∀ b u,h.get? b=some u→h'.get? b=some u) (hp:h.objs.size≤a) (new:ObjOk P w (upd H a o) h' a o):HOk P w (upd H a o) h':=fun b u e=>by
 have hn:=x.fresh hp
 by_cases hb:b=a
 · subst hb; rw [upd_same] at e; cases e; exact new
 · rw [upd_ne hb] at e
   exact (x b u e).stay (fun c v _ q=>k c v q) (fun c q=>by rw [upd_ne (ne_of_none q hn)]; exact q) fun c xs q=>by rw [upd_ne (ne_of_none q hn)]; exact q
end
def Rd (H:Hp) (a:Addr) (u:HO):Prop:=H a=some u∨∃ o,H a=some (.frz o u)
theorem Rd.ok {P:Program} {w:World} {H:Hp} {h:Heap} {a:Addr} {u:HO} (r:Rd H a u) (x:HOk P w H h):ObjOk P w H h a u:=by
 rcases r with r | ⟨o,r⟩
 · exact x a u r
 · obtain ⟨_,q⟩:=x a _ r
   exact q
def Mut:Option HO→Prop
 | some (.lst _)=>True
 | some (.dK _)=>True
 | some (.dT _)=>True
 | some (.set _ _)=>True
 | some (.ins _ _ _)=>True
 | some (.ext _)=>True
 | _=>False
section
variable {P:Program} {w:World} {H:Hp} {h h':Heap} {x e:Addr} {o':HO}
theorem HOk.write (ok:HOk P w H h) (mu:Mut (H x)) (he:e=x∨H e=some (.own x)) (k:∀ b u,b≠e→h.get? b=some u→h'.get? b=some u) (heo:∃ u,h'.get? e=some u)
  (new:ObjOk P w (upd H x o') h' x o'):HOk P w (upd H x o') h':=fun b u q=>by
 have nown:∀ c y,H c=some (.own y)→c≠x:=fun c y r z=>by subst z; rw [r] at mu; exact mu
 have ntup:∀ c xs,H c=some (.tup xs)→c≠x:=fun c xs r z=>by subst z; rw [r] at mu; exact mu
 by_cases hb:b=x
 · subst hb; rw [upd_same] at q; cases q; exact new
 · rw [upd_ne hb] at q
   by_cases hbe:b=e
   · have q':H b=some (.own x):=by
      rcases he with z | z
      · exact absurd (hbe.trans z) hb
      · rw [hbe]; exact z
     rw [q] at q'; cases q'
     obtain ⟨v,hv⟩:=heo
     exact ⟨v,by rw [hbe]; exact hv⟩
   · refine (ok b u q).stay (fun c v hc r=>k c v ?_ r) (fun c r=>by rw [upd_ne (nown c b r)]; exact r) fun c xs r=>by rw [upd_ne (ntup c xs r)]; exact r
     rcases hc with rfl | hc
     · exact hbe
     · rintro rfl
       rcases he with z | z
       · exact nown c b hc z
       · rw [hc] at z; cases z; exact hb rfl
end
structure Un (fs ex:List Addr) (H H':Hp) (h h':Heap):Prop where
 keep:∀ b o,h.get? b=some o→H b=none→b∉fs→b∉ex→h'.get? b=some o
 slot:∀ b o,h.get? b=some o→H b=none→b∈fs→b∉ex→∃ sl,h'.get? b=some { o with slots:=sl }
 free:∀ b o,h.get? b=some o→H b=none→b∉ex→H' b=none
 there:∀ b o,h.get? b=some o→b∉ex→∃ o',h'.get? b=some o'
 tups:∀ b xs,H b=some (.tup xs)→H' b=some (.tup xs)
 frzs:∀ b o u,H b=some (.frz o u)→H' b=some (.frz o u)
 tbls:∀ b ps,H b=some (.tbl ps)→∃ more,H' b=some (.tbl (ps ++ more))
section
variable {fs fs' ex ex':List Addr} {H H1 H2:Hp} {h h1 h2 h':Heap} {a x e:Addr} {o:HO}
theorem Un.any (u:Un fs ex H H1 h h1) {b:Addr} {ob:Obj} (q:h.get? b=some ob) (n:H b=none) (hx:b∉ex):∃ sl,h1.get? b=some { ob with slots:=sl }:=by
 by_cases hb:b∈fs
 · exact u.slot b ob q n hb hx
 · exact ⟨ob.slots,u.keep b ob q n hb hx⟩
theorem Un.kept (k:∀ b u,h.get? b=some u→h'.get? b=some u):Un fs ex H H h h' :=
 ⟨fun b ob q _ _ _=>k b ob q,fun b ob q _ _ _=>⟨ob.slots,k b ob q⟩,fun _ _ _ n _=>n,fun b ob q _=>⟨ob,k b ob q⟩,fun _ _ q=>q,fun _ _ _ q=>q,fun _ ps q=>⟨#[],by rw [q]; simp⟩⟩
theorem Un.refl:Un fs ex H H h h:=Un.kept fun _ _ q=>q
theorem Un.laid (k:∀ b u,h.get? b=some u→h'.get? b=some u) (hp:h.objs.size≤a) (hn:H a=none):Un fs ex H (upd H a o) h h' where
 keep:=fun b u q _ _ _=>k b u q
 slot:=fun b u q _ _ _=>⟨u.slots,k b u q⟩
 free:=fun b u q n _=>by rw [upd_ne (Nat.ne_of_lt (Nat.lt_of_lt_of_le (Heap.lt_size q) hp))]; exact n
 there:=fun b u q _=>⟨u,k b u q⟩
 tups:=fun b xs q=>by rw [upd_ne (ne_of_none q hn)]; exact q
 frzs:=fun b u xs q=>by rw [upd_ne (ne_of_none q hn)]; exact q
 tbls:=fun b ps q=>⟨#[],by rw [upd_ne (ne_of_none q hn),q]; simp⟩
theorem Un.write (mu:Mut (H x)) (he:e=x∨H e=some (.own x)) (k:∀ b u,b≠e→h.get? b=some u→h'.get? b=some u) (heo:∃ u,h'.get? e=some u):Un fs ex H (upd H x o) h h':=by
 have hx:∀ b,H b=none→b≠x:=fun b n z=>by subst z; rw [n] at mu; exact mu
 have hb:∀ b,H b=none→b≠e:=fun b n z=>by
  subst z
  rcases he with r | r
  · exact hx b n r
  · rw [n] at r; cases r
 have hm:∀ b u,H b=some u→¬ Mut (some u)→b≠x:=fun b u q nm z=>by subst z; rw [q] at mu; exact nm mu
 refine ⟨fun b u q n _ _=>k b u (hb b n) q,fun b u q n _ _=>⟨u.slots,k b u (hb b n) q⟩,fun b u q n _=>by rw [upd_ne (hx b n)]; exact n,fun b u q _=>?_,
  fun b xs q=>by rw [upd_ne (hm b _ q fun z=>z)]; exact q,fun b u xs q=>by rw [upd_ne (hm b _ q fun z=>z)]; exact q,fun b ps q=>⟨#[],by rw [upd_ne (hm b _ q fun z=>z),q]; simp⟩⟩
 by_cases hbe:b=e
 · subst hbe; exact heo
 · exact ⟨u,k b u hbe q⟩
end
def trk (h:Heap) (H:Hp):List Addr:=(List.range h.objs.size).filter fun a=>(H a).isSome
def hidT (h:Heap) (H:Hp):Heap:=W.hideAll h (trk h H)
theorem hidT_size (h:Heap) (H:Hp):(hidT h H).objs.size=h.objs.size:=W.hideAll_size _ _
theorem hidT_get {h:Heap} {H:Hp} {b:Addr} {o:Obj} (e:h.get? b=some o) (n:H b=none):(hidT h H).get? b=some o :=
 W.hideAll_get _ e fun hm=>by
  have q:(H b).isSome=true:=(List.mem_filter.mp hm).2
  rw [n] at q; simp at q
theorem of_hidT {h:Heap} {H:Hp} {b:Addr} {o:Obj} (e:(hidT h H).get? b=some o):h.get? b=some o∧H b=none:=by
 have e':h.get? b=some o:=W.of_hideAll (trk h H) e
 refine ⟨e',?_⟩
 cases q:H b with
 | none=>rfl
 | some x =>
  have hm:b∈trk h H:=List.mem_filter.mpr ⟨List.mem_range.mpr (Heap.lt_size e'),by simp [q]⟩
  have z:(hidT h H).get? b=none:=W.hideAll_none (trk h H) hm
  rw [z] at e; cases e
def allNews (g h:Heap) (L:Addr):List (Addr×Obj):=(List.range h.objs.size).filterMap fun a=>if a=L∨(g.get? a).isSome=true then none else (h.get? a).map fun o=>(a,o)
def rest (g h:Heap) (L d:Addr):List (Addr×Obj):=(allNews g h L).filter fun p=>decide (p.1≠d)
structure Mod (K:W.Frag) (mg:Str→Option Value) (base:Heap):Prop where
 kin:K.In base
 glob:base.Ns mainGlobals mg
 blt:∃ mb,base.Ns builtinsNs mb∧∀ x:Str,x≠"__name__"→mb x=bootBuiltins x
 nolimit:base.NoLimit
structure Cx where
 prog:Program
 w:World
 K:W.Frag
 mg:Str→Option Value
 base:Heap
 A:Around
 N:List Str
 s₀:Shared
 H₀:Hp
 env:Env
 outer:List Env
 stack:List Env
 ex:List Addr
 fn:Str→Bool
 calm:Bool
 pn:List (Addr×Obj)
 xe:Value→Shared→Prop
def frs (l:List Env):List Addr:=l.filterMap (·.frame)
abbrev Cx.fs (X:Cx):List Addr:=frs X.outer
def Vis (sc:Scope) (x:Str):Prop:=sc.names.lookup x=some .local∨sc.names.lookup x=some .cell∨sc.names.lookup x=some .free
def Loc (sc:Scope) (x:Str):Prop:=sc.names.lookup x=some .local∨sc.names.lookup x=some .cell
def Look (env:Env) (h:Heap) (m:Str→Option Value) (x:Str) (u:Value):Prop :=
 (env.kindOf x=some .local∧m x=some u)∨((env.kindOf x=some .cell∨env.kindOf x=some .free)∧∃ c,env.cells.lookup x=some c∧h.IsCell c (some u))
structure Cx.Ok (X:Cx):Prop where
 mod:Mod X.K X.mg X.base
 kind:X.env.scope.kind=.function
 glob:X.env.globals=mainGlobals
 blt:X.env.builtins=builtinsNs
 above:X.s₀.heap.objs.size≤X.env.locals
 inj:∀ x y c,X.env.cells.lookup x=some c→X.env.cells.lookup y=some c→x=y
 has:∀ x,(X.env.kindOf x=some .cell∨X.env.kindOf x=some .free)→∃ c,X.env.cells.lookup x=some c
 cab:∀ x c,X.fn x=true→X.env.cells.lookup x=some c→X.s₀.heap.objs.size≤c
 hd:X.calm=true→X.A.handled=none
 frames:X.A.frames=some X.stack
 stk:X.stack=X.outer∨(X.stack=X.env::X.outer∧X.env.frame=some X.env.locals)
 exf:∀ b∈X.ex,b≠X.env.locals∧∀ x c,X.env.cells.lookup x=some c→c≠b
 bs:∀ b o,X.base.get? b=some o→X.s₀.heap.get? b=some o∧X.H₀ b=none
 bsz:X.base.objs.size≤X.s₀.heap.objs.size
 noex:∀ b o,X.base.get? b=some o→b∉X.ex
 exfs:∀ b∈X.ex,b∉X.fs
 funs:X.s₀.heap.FunFrames X.base X.outer
 frf:∀ b∈X.fs,X.H₀ b=none
structure Inv (X:Cx) (pins:List (Addr×Obj)) (σ:List (Option V)) (H:Hp) (s:Shared):Prop where
 ok:X.Ok
 os:s.os=X.s₀.os
 bare:AllBare s.gens
 base:Un X.fs X.ex X.H₀ H X.s₀.heap s.heap
 loc:∃ m,s.heap.Ns X.env.locals m∧∀ (i:Nat) (x:Str) (v:V),X.N[i]? = some x→σ[i]? = some (some v)→Vis X.env.scope x→∃ u,RelV v u∧Look X.env s.heap m x u
 cell:∀ x c,X.env.cells.lookup x=some c→∃ v,s.heap.IsCell c v
 free:H X.env.locals=none
 freeC:∀ x c,X.env.cells.lookup x=some c→H c=none
 pin:∀ p∈X.pn ++ pins,s.heap.get? p.1=some p.2∧H p.1=none∧p.1≠X.env.locals∧p.1∉X.fs∧∀ v,p.2.data≠.cell v
 hok:HOk X.prog X.w H s.heap
 len:σ.length=X.N.length
section
variable {X:Cx} {pins:List (Addr×Obj)} {σ:List (Option V)} {H H':Hp} {s:Shared} {h':Heap}
theorem Cx.Ok.nofr (ok:X.Ok) {b:Addr} {o:Obj} (e:X.base.get? b=some o):b∉X.fs:=fun hb=>by
 have:=(ok.funs.mem hb).1
 rw [e] at this; cases this
theorem Inv.bs (I:Inv X pins σ H s):∀ b o,X.base.get? b=some o→s.heap.get? b=some o∧H b=none:=fun b o e =>
 ⟨I.base.keep b o (I.ok.bs b o e).1 (I.ok.bs b o e).2 (I.ok.nofr e) (I.ok.noex b o e),I.base.free b o (I.ok.bs b o e).1 (I.ok.bs b o e).2 (I.ok.noex b o e)⟩
theorem Inv.bk (I:Inv X pins σ H s):∀ b o,X.base.get? b=some o→s.heap.get? b=some o:=fun b o e=>(I.bs b o e).1
theorem Inv.mod (I:Inv X pins σ H s):Mod X.K X.mg X.base:=I.ok.mod
theorem Inv.kIn (I:Inv X pins σ H s):X.K.In s.heap:=I.ok.mod.kin.keeps I.bk
theorem Inv.lt (I:Inv X pins σ H s):X.env.locals < s.heap.objs.size:=let ⟨_,hn,_⟩:=I.loc; hn.lt
theorem Inv.sz (I:Inv X pins σ H s):X.s₀.heap.objs.size≤s.heap.objs.size:=Nat.le_trans I.ok.above (Nat.le_of_lt I.lt)
theorem Inv.nofs (I:Inv X pins σ H s) {a:Addr} (h:s.heap.objs.size≤a):a∉X.fs:=fun hb=>by
 obtain ⟨_,o,ho,_⟩:=I.ok.funs.mem hb
 exact absurd (Nat.lt_of_lt_of_le (Heap.lt_size ho) (Nat.le_trans I.sz h)) (Nat.lt_irrefl _)
theorem Inv.cne (I:Inv X pins σ H s):∀ x c,X.env.cells.lookup x=some c→c≠X.env.locals:=fun x c e z=>by
 obtain ⟨v,o,ho,hd⟩:=I.cell x c e
 obtain ⟨m,⟨o',es,ep,ho',hd',_⟩,_⟩:=I.loc
 rw [z,ho'] at ho; cases ho; rw [hd'] at hd; cases hd
theorem Inv.funs (I:Inv X pins σ H s):s.heap.FunFrames X.base X.outer:=by
 have all:∀ (l:List Env),(∀ b∈frs l,b∈X.fs)→X.s₀.heap.FunFrames X.base l→s.heap.FunFrames X.base l:=by
  intro l
  induction l with
  | nil=>intro _ _; trivial
  | cons env r ih =>
   intro hs hl
   obtain ⟨hk,⟨L,o,hf,hn,ho,hd⟩,hr⟩:=hl
   have hL:L∈X.fs:=hs L (by unfold frs; rw [List.filterMap_cons,hf]; exact List.mem_cons_self)
   obtain ⟨sl,e⟩:=I.base.slot L o ho (I.ok.frf L hL) hL fun z=>I.ok.exfs L z hL
   exact ⟨hk,⟨L,_,hf,hn,e,hd⟩,ih (fun b hb=>hs b (by unfold frs; rw [List.filterMap_cons,hf]; exact List.mem_cons_of_mem _ hb)) hr⟩
 exact all X.outer (fun _ hb=>hb) I.ok.funs
theorem Inv.stack (I:Inv X pins σ H s):s.heap.FunFrames X.base X.stack:=by
 rcases I.ok.stk with e | ⟨e,hf⟩
 · rw [e]; exact I.funs
 · rw [e]
   obtain ⟨m,hn,_⟩:=I.loc
   refine .cons (by rw [I.ok.kind]; decide) hf hn ?_ I.funs
   exact Heap.get?_none_of_le (Nat.le_trans I.ok.bsz I.ok.above)
theorem Inv.stkSub (I:Inv X pins σ H s):∀ b∈frs X.stack,b∈X.env.locals::X.fs:=fun b hb=>by
 rcases I.ok.stk with e | ⟨e,hf⟩
 · rw [e] at hb; exact List.mem_cons_of_mem _ hb
 · rw [e] at hb
   unfold frs at hb
   rw [List.filterMap_cons,hf] at hb
   exact hb
theorem Inv.stkFree (I:Inv X pins σ H s):∀ b∈frs X.stack,H b=none:=fun b hb=>by
 rcases List.mem_cons.mp (I.stkSub b hb) with e | hb
 · rw [e]; exact I.free
 · obtain ⟨_,o,ho,_⟩:=I.ok.funs.mem hb
   exact I.base.free b o ho (I.ok.frf b hb) fun z=>I.ok.exfs b z hb
theorem Inv.step {g':Array GenState} {t':Nat} {d':Drawn} {ch:List Addr} (I:Inv X pins σ H s)
  (hch:∀ b∈ch,(b∈X.ex∨X.s₀.heap.objs.size≤b)∧b≠X.env.locals∧(∀ x c,X.env.cells.lookup x=some c→c≠b)∧∀ p∈X.pn ++ pins,p.1≠b)
  (keep:∀ b o,b≠X.env.locals→b∉X.fs→b∉ch→s.heap.get? b=some o→H b=none→h'.get? b=some o)
  (slot:∀ b o,b≠X.env.locals→b∈X.fs→b∉ch→s.heap.get? b=some o→H b=none→∃ sl,h'.get? b=some { o with slots:=sl }) (free:∀ b o,b∉ch→s.heap.get? b=some o→H b=none→H' b=none)
  (there:∀ b o,b∉ch→s.heap.get? b=some o→∃ o',h'.get? b=some o')
  (tups:∀ b xs,H b=some (.tup xs)→H' b=some (.tup xs)) (frzs:∀ b o u,H b=some (.frz o u)→H' b=some (.frz o u)) (tbls:∀ b ps,H b=some (.tbl ps)→∃ more,H' b=some (.tbl (ps ++ more)))
  (ns:∀ m,s.heap.Ns X.env.locals m→h'.Ns X.env.locals m) (hok:HOk X.prog X.w H' h') (hg:AllBare g') :
  Inv X pins σ H' { s with heap:=h',gens:=g',drawn:=d',toks:=t' }:=by
 have neL:∀ b o,X.s₀.heap.get? b=some o→b≠X.env.locals:=fun b o e=>Nat.ne_of_lt (Nat.lt_of_lt_of_le (Heap.lt_size e) I.ok.above)
 have neC:∀ b o,X.s₀.heap.get? b=some o→b∉X.ex→b∉ch:=fun b o e hx hb=>by
  rcases (hch b hb).1 with z | z
  · exact hx z
  · exact absurd (Nat.lt_of_lt_of_le (Heap.lt_size e) z) (Nat.lt_irrefl _)
 have cellK:∀ x c,X.env.cells.lookup x=some c→∀ v,s.heap.IsCell c v→h'.IsCell c v:=fun x c e v ⟨o,ho,hd⟩=>by
  have nch:c∉ch:=fun z=>(hch c z).2.2.1 x c e rfl
  by_cases hc:c∈X.fs
  · obtain ⟨sl,q⟩:=slot c o (I.cne x c e) hc nch ho (I.freeC x c e)
    exact ⟨_,q,hd⟩
  · exact ⟨o,keep c o (I.cne x c e) hc nch ho (I.freeC x c e),hd⟩
 refine ⟨I.ok,I.os,hg,⟨fun b o e n hb hx=>?_,fun b o e n hb hx=>?_,fun b o e n hx=>?_,fun b o e hx=>?_,fun b xs e=>tups b xs (I.base.tups b xs e),fun b o xs e=>frzs b o xs (I.base.frzs b o xs e),fun b ps e=>?_⟩,?_,fun x c e=>?_,?_,fun x c e=>?_,fun p hp=>?_,hok,I.len⟩
 · exact keep b o (neL b o e) hb (neC b o e hx) (I.base.keep b o e n hb hx) (I.base.free b o e n hx)
 · obtain ⟨sl,e1⟩:=I.base.slot b o e n hb hx
   obtain ⟨sl',e2⟩:=slot b _ (neL b o e) hb (neC b o e hx) e1 (I.base.free b o e n hx)
   exact ⟨sl',e2⟩
 · obtain ⟨o',e1⟩:=I.base.there b o e hx
   exact free b o' (neC b o e hx) e1 (I.base.free b o e n hx)
 · obtain ⟨o',e1⟩:=I.base.there b o e hx
   exact there b o' (neC b o e hx) e1
 · obtain ⟨m1,e1⟩:=I.base.tbls b ps e
   obtain ⟨m2,e2⟩:=tbls b _ e1
   exact ⟨m1 ++ m2,by rw [e2,Array.append_assoc]⟩
 · obtain ⟨m,hn,hl⟩:=I.loc
   refine ⟨m,ns m hn,fun i x v e1 e2 e3=>?_⟩
   obtain ⟨u,r,l⟩:=hl i x v e1 e2 e3
   refine ⟨u,r,?_⟩
   rcases l with l | ⟨k,c,e,z⟩
   · exact .inl l
   · exact .inr ⟨k,c,e,cellK x c e _ z⟩
 · obtain ⟨v,z⟩:=I.cell x c e
   exact ⟨v,cellK x c e v z⟩
 · obtain ⟨m,⟨o,_,_,ho,_⟩,_⟩:=I.loc
   exact free _ o (fun z=>(hch _ z).2.1 rfl) ho I.free
 · obtain ⟨v,o,ho,hd⟩:=I.cell x c e
   exact free c o (fun z=>(hch c z).2.2.1 x c e rfl) ho (I.freeC x c e)
 · obtain ⟨e,n,ne,nf,d⟩:=I.pin p hp
   have nch:p.1∉ch:=fun z=>(hch p.1 z).2.2.2 p hp rfl
   exact ⟨keep p.1 p.2 ne nf nch e n,free p.1 p.2 nch e n,ne,nf,d⟩
theorem Inv.un {t':Nat} (I:Inv X pins σ H s) (u:Un X.fs [] H H' s.heap h') (hok:HOk X.prog X.w H' h'):Inv X pins σ H' { s with heap:=h',toks:=t' }:=by
 obtain ⟨m,⟨o,es,ep,ho,r⟩,_⟩:=id I.loc
 obtain ⟨sl,hL⟩:=u.any ho I.free (by simp)
 exact I.step (g':=s.gens) (d':=s.drawn) (ch:=[]) (fun _ z=>nomatch z) (fun b o _ hb _ e n=>u.keep b o e n hb (by simp)) (fun b o _ hb _ e n=>u.slot b o e n hb (by simp)) (fun b o _ e n=>u.free b o e n (by simp)) (fun b o _ e=>u.there b o e (by simp)) u.tups u.frzs u.tbls (fun m' hm=>by
  obtain ⟨o',es',ep',ho',r'⟩:=hm
  rw [ho] at ho'; cases ho'
  exact ⟨_,es',ep',hL,r'⟩) hok I.bare
theorem Inv.call {g':Array GenState} {t':Nat} {d':Drawn} {ch:List Addr} (I:Inv X pins σ H s) (u:Un (frs X.stack) ch H H' s.heap h') (hok:HOk X.prog X.w H' h') (hg:AllBare g')
  (hch:∀ b∈ch,(b∈X.ex∨X.s₀.heap.objs.size≤b)∧b≠X.env.locals∧(∀ x c,X.env.cells.lookup x=some c→c≠b)∧∀ p∈X.pn ++ pins,p.1≠b) :
  Inv X pins σ H' { s with heap:=h',gens:=g',drawn:=d',toks:=t' }:=by
 obtain ⟨m,⟨o,es,ep,ho,r⟩,_⟩:=id I.loc
 obtain ⟨sl,hL⟩:=u.any ho I.free fun z=>(hch _ z).2.1 rfl
 exact I.step (ch:=ch) hch (fun b o hL hb hc e n=>u.keep b o e n (fun z=>(List.mem_cons.mp (I.stkSub b z)).elim hL hb) hc) (fun b o _ _ hc e n=>u.any e n hc) (fun b o hc e n=>u.free b o e n hc) (fun b o hc e=>u.there b o e hc) u.tups u.frzs u.tbls (fun m' hm=>by
  obtain ⟨o',es',ep',ho',r'⟩:=hm
  rw [ho] at ho'; cases ho'
  exact ⟨_,es',ep',hL,r'⟩) hok hg
theorem Inv.turned {t':Nat} {it:Addr} (I:Inv X pins σ H s) (k:∀ b o,b≠it→s.heap.get? b=some o→h'.get? b=some o) (hn:H it=none) (hL:it≠X.env.locals)
  (h1:it∈X.ex∨X.s₀.heap.objs.size≤it) (h2:∀ x c,X.env.cells.lookup x=some c→c≠it) (h3:∀ p∈X.pn ++ pins,p.1≠it):Inv X pins σ H { s with heap:=h',toks:=t' }:=by
 have nit:∀ b u,H b=some u→b≠it:=fun b u e z=>by rw [z,hn] at e; cases e
 refine I.step (g':=s.gens) (d':=s.drawn) (ch:=[it]) (fun b hb=>?_) (fun b o _ _ hc e _=>k b o (fun z=>hc (by simp [z])) e) (fun b o _ _ hc e _=>⟨o.slots,k b o (fun z=>hc (by simp [z])) e⟩) (fun _ _ _ _ n=>n)
  (fun b o hc e=>⟨o,k b o (fun z=>hc (by simp [z])) e⟩) (fun _ _ e=>e) (fun _ _ _ e=>e) (fun b ps e=>⟨#[],by rw [e]; simp⟩) (fun m hm=>?_) (fun b u e=>?_) I.bare
 · have e:b=it:=by simpa using hb
   subst e
   exact ⟨h1,hL,h2,h3⟩
 · obtain ⟨o,es,ep,ho,r⟩:=hm
   exact ⟨o,es,ep,k _ o (Ne.symm hL) ho,r⟩
 · refine (I.hok b u e).stay (fun c v hc q=>k c v ?_ q) (fun _ q=>q) fun _ _ q=>q
   rcases hc with z | z
   · rw [z]; exact nit b u e
   · exact nit c _ z
theorem Inv.tok (I:Inv X pins σ H s) (t:Nat):Inv X pins σ H { s with toks:=t }:=I.un (h':=s.heap) (t':=t) Un.refl I.hok
theorem Inv.kept {t':Nat} (I:Inv X pins σ H s) (k:∀ b u,s.heap.get? b=some u→h'.get? b=some u):Inv X pins σ H { s with heap:=h',toks:=t' }:=I.un (Un.kept k) (I.hok.kept k)
theorem Inv.laid {a:Addr} {o:HO} {t':Nat} (I:Inv X pins σ H s) (k:∀ b u,s.heap.get? b=some u→h'.get? b=some u) (hp:s.heap.objs.size≤a) (new:ObjOk X.prog X.w (upd H a o) h' a o) :
  Inv X pins σ (upd H a o) { s with heap:=h',toks:=t' }:=I.un (Un.laid k hp (I.hok.fresh hp)) (I.hok.laid k hp new)
theorem Inv.write {x e:Addr} {o:HO} {t':Nat} (I:Inv X pins σ H s) (mu:Mut (H x)) (he:e=x∨H e=some (.own x)) (k:∀ b u,b≠e→s.heap.get? b=some u→h'.get? b=some u) (heo:∃ u,h'.get? e=some u)
  (new:ObjOk X.prog X.w (upd H x o) h' x o):Inv X pins σ (upd H x o) { s with heap:=h',toks:=t' }:=I.un (Un.write mu he k heo) (I.hok.write mu he k heo new)
theorem Inv.pins_of {pins':List (Addr×Obj)} (I:Inv X pins σ H s) (h:∀ p∈pins',s.heap.get? p.1=some p.2∧H p.1=none∧p.1≠X.env.locals∧p.1∉X.fs∧∀ v,p.2.data≠.cell v):Inv X pins' σ H s :=
 ⟨I.ok,I.os,I.bare,I.base,I.loc,I.cell,I.free,I.freeC,fun p hp=>(List.mem_append.mp hp).elim (fun z=>I.pin p (List.mem_append_left _ z)) (h p),I.hok,I.len⟩
theorem nodup_ix {N:List Str} (hN:N.Nodup) {i j:Nat} {x:Str} (a:N[i]? = some x) (b:N[j]? = some x):i=j:=by
 obtain ⟨h1,e1⟩:=List.getElem?_eq_some_iff.mp a
 obtain ⟨h2,e2⟩:=List.getElem?_eq_some_iff.mp b
 exact (List.getElem_inj hN).mp (e1.trans e2.symm)
theorem store_ok2 {M:Model} {A:Around} {E:Value→Shared→Prop} {i:Nat} {x:Str} {v:V} {u:Value} {Q:Unit→Shared→Prop} (I:Inv X pins σ H s) (hN:X.N.Nodup) (hi:X.N[i]? = some x) (hx:Loc X.env.scope x) (r:RelV v u)
  (h:∀ s',Inv X pins (σ.set i (some v)) H s'→(∃ a,Heap.SameBut a s.heap s'.heap∧(a=X.env.locals∨X.env.cells.lookup x=some a))→Q () s') (hf:X.fn x=true∨X.env.scope.names.lookup x=some .local:=by first | exact .inl rfl | exact .inr rfl | assumption):wpAny M A (storeName X.env x u) Q E s:=by
 obtain ⟨m,hn,hl⟩:=id I.loc
 have hcls:(X.env.scope.kind == .class || (X.env.scope.kind == .module && X.env.locals != X.env.globals))=false:=by rw [I.ok.kind]; rfl
 have hiσ:i < σ.length:=by rw [I.len]; exact (List.getElem?_eq_some_iff.mp hi).1
 have cne:=I.cne
 have tracked:∀ {a:Addr} {h':Heap},(∃ o,s.heap.get? a=some o∧H a=none)→Heap.SameBut a s.heap h'→HOk X.prog X.w H h':=fun {a h'} ha hs b ob e=>by
  obtain ⟨_,_,hfree⟩:=ha
  refine (I.hok b ob e).stay (fun c w' hc q=>(hs.2 c ?_).trans q) (fun _ q=>q) fun _ _ q=>q
  rintro rfl
  rcases hc with rfl | hc
  · rw [hfree] at e; cases e
  · rw [hfree] at hc; cases hc
 rcases hx with hk | hk
 · refine wpAny_storeName_local hk hn (fun h' hn' hs=>?_) hcls
   obtain ⟨oL,_,_,hoL,_⟩:=id hn
   refine h _ ⟨I.ok,I.os,I.bare,⟨fun b o e n hb hx=>?_,fun b o e n hb hx=>?_,I.base.free,fun b o e hx=>?_,I.base.tups,I.base.frzs,I.base.tbls⟩,⟨_,hn',fun j y v' e1 e2 e3=>?_⟩,fun y c e=>?_,I.free,I.freeC,fun p hp=>?_,tracked ⟨oL,hoL,I.free⟩ hs,by simpa using I.len⟩ ⟨_,hs,.inl rfl⟩
   · exact (hs.2 b (Nat.ne_of_lt (Nat.lt_of_lt_of_le (Heap.lt_size e) I.ok.above))).trans (I.base.keep b o e n hb hx)
   · obtain ⟨sl,e1⟩:=I.base.slot b o e n hb hx
     exact ⟨sl,(hs.2 b (Nat.ne_of_lt (Nat.lt_of_lt_of_le (Heap.lt_size e) I.ok.above))).trans e1⟩
   · obtain ⟨o',e1⟩:=I.base.there b o e hx
     exact ⟨o',(hs.2 b (Nat.ne_of_lt (Nat.lt_of_lt_of_le (Heap.lt_size e) I.ok.above))).trans e1⟩
   · by_cases hj:j=i
     · subst hj
       rw [hi] at e1; cases e1
       rw [List.getElem?_set_self hiσ] at e2
       cases e2
       exact ⟨u,r,.inl ⟨hk,by simp⟩⟩
     · rw [List.getElem?_set_ne (Ne.symm hj)] at e2
       obtain ⟨u',r',q⟩:=hl j y v' e1 e2 e3
       refine ⟨u',r',?_⟩
       rcases q with ⟨k,e⟩ | ⟨k,c,e,z⟩
       · refine .inl ⟨k,?_⟩
         have:y≠x:=fun e=>hj (nodup_ix hN e1 (e ▸ hi))
         simp [this,e]
       · exact .inr ⟨k,c,e,z.sameBut hs (cne y c e)⟩
   · obtain ⟨w',z⟩:=I.cell y c e
     exact ⟨w',z.sameBut hs (cne y c e)⟩
   · obtain ⟨e,n,ne,nf,d⟩:=I.pin p hp
     exact ⟨(hs.2 p.1 ne).trans e,n,ne,nf,d⟩
 · have hfn:X.fn x=true:=by
    rcases hf with z | z
    · exact z
    · rw [z] at hk; cases hk
   obtain ⟨c,hc⟩:=I.ok.has x (.inl hk)
   obtain ⟨w',z⟩:=I.cell x c hc
   refine wpAny_storeName_cell I.ok.kind hk hc z (fun h' hc' hs=>?_)
   obtain ⟨oc,hoc,hocd⟩:=id z
   refine h { s with heap:=h' } ⟨I.ok,I.os,I.bare,⟨fun b o e n hb hx=>?_,fun b o e n hb hx=>?_,I.base.free,fun b o e hx=>?_,I.base.tups,I.base.frzs,I.base.tbls⟩,⟨m,hn.sameBut hs (Ne.symm (cne x c hc)),fun j y v' e1 e2 e3=>?_⟩,fun y c' e=>?_,I.free,I.freeC,fun p hp=>?_,tracked ⟨oc,hoc,I.freeC x c hc⟩ hs,by simpa using I.len⟩ ⟨c,hs,.inr hc⟩
   · exact (hs.2 b (Nat.ne_of_lt (Nat.lt_of_lt_of_le (Heap.lt_size e) (I.ok.cab x c hfn hc)))).trans (I.base.keep b o e n hb hx)
   · obtain ⟨sl,e1⟩:=I.base.slot b o e n hb hx
     exact ⟨sl,(hs.2 b (Nat.ne_of_lt (Nat.lt_of_lt_of_le (Heap.lt_size e) (I.ok.cab x c hfn hc)))).trans e1⟩
   · obtain ⟨o',e1⟩:=I.base.there b o e hx
     exact ⟨o',(hs.2 b (Nat.ne_of_lt (Nat.lt_of_lt_of_le (Heap.lt_size e) (I.ok.cab x c hfn hc)))).trans e1⟩
   · by_cases hj:j=i
     · subst hj
       rw [hi] at e1; cases e1
       rw [List.getElem?_set_self hiσ] at e2
       cases e2
       exact ⟨u,r,.inr ⟨.inl hk,c,hc,hc'⟩⟩
     · rw [List.getElem?_set_ne (Ne.symm hj)] at e2
       obtain ⟨u',r',q⟩:=hl j y v' e1 e2 e3
       refine ⟨u',r',?_⟩
       rcases q with q | ⟨k,c',e,z'⟩
       · exact .inl q
       · refine .inr ⟨k,c',e,z'.sameBut hs ?_⟩
         rintro rfl
         exact hj (nodup_ix hN e1 (I.ok.inj _ _ _ e hc ▸ hi))
   · by_cases hcc:c'=c
     · subst hcc; exact ⟨_,hc'⟩
     · obtain ⟨w2,z2⟩:=I.cell y c' e
       exact ⟨w2,z2.sameBut hs hcc⟩
   · obtain ⟨e,n,ne,nf,d⟩:=I.pin p hp
     refine ⟨(hs.2 p.1 ?_).trans e,n,ne,nf,d⟩
     intro q
     rw [q,hoc] at e
     have q':oc=p.2:=Option.some.inj e
     exact d w' (by rw [←q']; exact hocd)
theorem store_ok {M:Model} {A:Around} {E:Value→Shared→Prop} {i:Nat} {x:Str} {v:V} {u:Value} {Q:Unit→Shared→Prop} (I:Inv X pins σ H s) (hN:X.N.Nodup) (hi:X.N[i]? = some x) (hx:Loc X.env.scope x) (r:RelV v u)
  (h:∀ s',Inv X pins (σ.set i (some v)) H s'→Q () s') (hf:X.fn x=true∨X.env.scope.names.lookup x=some .local:=by first | exact .inl rfl | exact .inr rfl | assumption):wpAny M A (storeName X.env x u) Q E s :=
 store_ok2 I hN hi hx r (fun s' I' _=>h s' I') hf
theorem Inv.call' {s':Shared} {ch:List Addr} (I:Inv X pins σ H s) (ho:s'.os=s.os) (u:Un (frs X.stack) ch H H' s.heap s'.heap) (hok:HOk X.prog X.w H' s'.heap) (hg:AllBare s'.gens)
  (hch:∀ b∈ch,(b∈X.ex∨X.s₀.heap.objs.size≤b)∧b≠X.env.locals∧(∀ x c,X.env.cells.lookup x=some c→c≠b)∧∀ p∈X.pn ++ pins,p.1≠b):Inv X pins σ H' s':=by
 obtain ⟨h',g',d',t',o'⟩:=s'
 have e:o'=s.os:=ho
 subst e
 exact I.call (g':=g') (t':=t') (d':=d') u hok hg hch
end
abbrev XK:=Value→Option Addr→Hp→Prop
abbrev St:=List (Option V)
abbrev VK:=V→Hp→Prop
abbrev TE:=St→Hp→VK→Prop
abbrev TT:=St→Hp→(Bool→Hp→Prop)→Prop
abbrev TA:=St→Hp→(List V→Hp→Prop)→Prop
structure Ends where
 nx:St→Hp→Prop
 rt:VK
 bk:St→Hp→Prop:=fun _ _=>False
 ct:St→Hp→Prop:=fun _ _=>False
abbrev TS:=Ends→St→Hp→Prop
def EP (X:Cx) (pins:List (Addr×Obj)) (σ:St) (Q:VK) (u:Value) (s':Shared):Prop:=∃ v H',Inv X pins σ H' s'∧RelV v u∧Q v H'
def TP (X:Cx) (pins:List (Addr×Obj)) (σ:St) (Q:Bool→Hp→Prop) (b:Bool) (s':Shared):Prop:=∃ H',Inv X pins σ H' s'∧Q b H'
def AP (X:Cx) (pins:List (Addr×Obj)) (σ:St) (Q:List V→Hp→Prop) (us:List Value) (s':Shared):Prop:=∃ vs H',Inv X pins σ H' s'∧Vals vs us∧Q vs H'
def SP (X:Cx) (pins:List (Addr×Obj)) (D:Ends) (f:Flow) (s':Shared):Prop :=
 match f with
 | .next=>∃ σ' H',Inv X pins σ' H' s'∧D.nx σ' H'
 | .brk=>∃ σ' H',Inv X pins σ' H' s'∧D.bk σ' H'
 | .cont=>∃ σ' H',Inv X pins σ' H' s'∧D.ct σ' H'
 | .ret u=>∃ v σ' H',Inv X pins σ' H' s'∧RelV v u∧D.rt v H'
def PE (X:Cx) (e:Expr) (t:TE):Prop :=
 ∀ (pins:List (Addr×Obj)) (s:Shared) (σ:St) (H:Hp) (Q:VK),Inv X pins σ H s→t σ H Q→wpAny (model X.prog X.w) X.A (eval e X.env) (EP X pins σ Q) X.xe s
def PT (X:Cx) (e:Expr) (t:TT):Prop :=
 ∀ (pins:List (Addr×Obj)) (s:Shared) (σ:St) (H:Hp) (Q:Bool→Hp→Prop),Inv X pins σ H s→t σ H Q→wpAny (model X.prog X.w) X.A (isTrue e X.env (eval e X.env)) (TP X pins σ Q) X.xe s
def PW (X:Cx) (e:Expr) (t:TT):Prop :=
 ∀ (whole:Sem Value) (pins:List (Addr×Obj)) (s:Shared) (σ:St) (H:Hp) (Q:Bool→Hp→Prop),Inv X pins σ H s→t σ H Q→wpAny (model X.prog X.w) X.A (isTrue e X.env whole) (TP X pins σ Q) X.xe s
theorem PW.pt {X:Cx} {e:Expr} {t:TT} (h:PW X e t):PT X e t:=h _
def PA (X:Cx) (es:List Expr) (t:TA):Prop :=
 ∀ (pos:Pos) (pins:List (Addr×Obj)) (s:Shared) (σ:St) (H:Hp) (Q:List V→Hp→Prop),Inv X pins σ H s→t σ H Q→wpAny (model X.prog X.w) X.A (spliced (backTo pos (starEach es X.env))) (AP X pins σ Q) X.xe s
def PS (X:Cx) (st:Stmt) (t:TS):Prop :=
 ∀ (pins:List (Addr×Obj)) (s:Shared) (σ:St) (H:Hp) (D:Ends),Inv X pins σ H s→t D σ H→wpAny (model X.prog X.w) X.A (exec st X.env) (SP X pins D) X.xe s
def PSs (X:Cx) (st:List Stmt) (t:TS):Prop :=
 ∀ (pins:List (Addr×Obj)) (s:Shared) (σ:St) (H:Hp) (D:Ends),Inv X pins σ H s→t D σ H→wpAny (model X.prog X.w) X.A (execs st X.env) (SP X pins D) X.xe s
theorem thn {α:Type} {t:Sem α} {Q Q':α→Shared→Prop} {M:Model} {A:Around} {E:Value→Shared→Prop} {s:Shared} (h:wpAny M A t Q E s) (hQ:∀ a s,Q a s→Q' a s):wpAny M A t Q' E s:=wpAny_mono h hQ fun _ _ x=>x
section
variable {X:Cx}
def tVar (i:Nat):TE:=fun σ H Q=>∃ v,σ[i]? = some (some v)∧Q v H
def tC (v:V):TE:=fun _ H Q=>Q v H
theorem pe_var {i:Nat} {x:Str} {pos:Pos} (hN:X.N[i]? = some x) (hv:Vis X.env.scope x) (hd:(x == ("__debug__":Str))=false:=by decide) (hcd:(x == ("__classdict__":Str))=false:=by decide):PE X (.Name x pos) (tVar i):=by
 intro pins s σ H Q I h
 obtain ⟨v,e,h⟩:=h
 obtain ⟨m,hn,hl⟩:=I.loc
 obtain ⟨u,r,l⟩:=hl i x v hN e hv
 have fin:EP X pins σ Q u s:=⟨v,H,I,r,h⟩
 rcases l with ⟨hk,hm⟩ | ⟨hk,c,hc,hcell⟩
 · exact wpAny_Name (wpAny_loadName_local I.ok.kind hk hn hm fin) hd
 · rcases hk with hk | hk
   · exact wpAny_Name (wpAny_loadName_cell I.ok.kind hk hc hcell fin) hd
   · exact wpAny_Name (wpAny_loadName_free I.ok.kind hk hc hcell fin hcd) hd
theorem pe_int {i j pos}:PE X (.Constant (.int i) j pos) (tC (.int i)):=fun _ _ _ H _ I h=>wpAny_Constant_int ⟨.int i,H,I.tok _,⟨_,rfl⟩,h⟩
theorem pe_bl {b j pos}:PE X (.Constant (.bool b) j pos) (tC (.bl b)):=fun _ _ _ H _ I h=>Constant_bool ⟨.bl b,H,I,rfl,h⟩
theorem pe_str {x j pos}:PE X (.Constant (.str x) j pos) (tC (.str x)):=fun _ _ _ H _ I h=>Calls.Constant_str ⟨.str x,H,I.tok _,⟨_,rfl⟩,h⟩
def Gl (X:Cx) (x:Str):Prop:=X.env.kindOf x=some .globalImplicit
theorem ld_glob {E:Value→Shared→Prop} {pins:List (Addr×Obj)} {s:Shared} {σ:St} {H:Hp} {x:Str} {u:Value} {pos:Pos} {Q:Value→Shared→Prop} (I:Inv X pins σ H s) (hg:Gl X x) (hm:X.mg x=some u) (h:Q u s)
  (hd:(x == ("__debug__":Str))=false:=by decide):wpAny (model X.prog X.w) X.A (eval (.Name x pos) X.env) Q E s :=
 Calls.Name_function_global I.ok.kind hg (Calls.loadGlobal_global (by rw [I.ok.glob]; exact I.mod.glob.keeps I.bk) hm h) hd
theorem ld_blt {E:Value→Shared→Prop} {pins:List (Addr×Obj)} {s:Shared} {σ:St} {H:Hp} {x:Str} {u:Value} {pos:Pos} {Q:Value→Shared→Prop} (I:Inv X pins σ H s) (hg:Gl X x) (hm:X.mg x=none) (hv:bootBuiltins x=some u) (h:Q u s)
  (hn:x≠"__name__":=by decide) (hd:(x == ("__debug__":Str))=false:=by decide):wpAny (model X.prog X.w) X.A (eval (.Name x pos) X.env) Q E s:=by
 obtain ⟨mb,h1,h2⟩:=I.mod.blt
 exact Calls.Name_function_global I.ok.kind hg (Calls.loadGlobal_builtin (by rw [I.ok.glob]; exact I.mod.glob.keeps I.bk) hm (by rw [I.ok.blt]; exact h1.keeps I.bk) ((h2 x hn).trans hv) h) hd
theorem pe_glob {x:Str} {v:V} {u:Value} {pos:Pos} (hg:Gl X x) (hm:X.mg x=some u) (r:RelV v u) (hd:(x == ("__debug__":Str))=false:=by decide):PE X (.Name x pos) (tC v) :=
 fun _ _ _ H _ I h=>ld_glob I hg hm ⟨v,H,I,r,h⟩ hd
theorem pe_bltn {x:Str} {v:V} {u:Value} {pos:Pos} (hg:Gl X x) (hm:X.mg x=none) (hv:bootBuiltins x=some u) (r:RelV v u) (hn:x≠"__name__":=by decide) (hd:(x == ("__debug__":Str))=false:=by decide):PE X (.Name x pos) (tC v) :=
 fun _ _ _ H _ I h=>ld_blt I hg hm hv ⟨v,H,I,r,h⟩ hn hd
variable {a b:Expr} {ta tb:TE} {pos:Pos}
def tB (t:TE):TT:=fun σ H Q=>t σ H fun x H1=>∃ c,x=.bl c∧Q c H1
theorem pt_val {e:Expr} {t:TE} (h:PE X e t) (he:∀ whole,isTrue e X.env whole=(do let v ← whole; standAt e.pos; holding [v] (truthy v)):=by intro _; rfl):PT X e (tB t):=by
 intro pins s σ H Q I hw
 refine isTrue_plain (thn (h pins s σ H _ I hw) fun v s1 ⟨x,H1,I1,r1,q1⟩=>?_) (he _)
 obtain ⟨d,rfl,q⟩:=q1
 cases r1
 exact wpAny_truthy_bool ⟨H1,I1,q⟩
variable {tA tB':TT} {rest:List Expr}
def tAnd (t u:TT):TT:=fun σ H Q=>t σ H fun c H1=>if c=true then u σ H1 Q else Q false H1
def tOr (t u:TT):TT:=fun σ H Q=>t σ H fun c H1=>if c=true then Q true H1 else u σ H1 Q
def tNot (t:TT):TT:=fun σ H Q=>t σ H fun c H1=>Q (!c) H1
theorem pw_and1 (ha:PT X a tA):PW X (.BoolOp .And [a] pos) tA:=by
 intro wh pins s σ H Q I h
 refine isTrue_and (thn (ha pins s σ H Q I h) fun c s1 e=>?_)
 cases c with
 | true=>exact isTrue_and_nil e
 | false=>exact e
theorem pw_or1 (ha:PT X a tA):PW X (.BoolOp .Or [a] pos) tA:=by
 intro wh pins s σ H Q I h
 refine isTrue_or (thn (ha pins s σ H Q I h) fun c s1 e=>?_)
 cases c with
 | false=>exact isTrue_or_nil e
 | true=>exact e
theorem pw_and (ha:PT X a tA) (hb:PW X (.BoolOp .And (b::rest) pos) tB'):PW X (.BoolOp .And (a::b::rest) pos) (tAnd tA tB'):=by
 intro wh pins s σ H Q I h
 refine isTrue_and (thn (ha pins s σ H _ I h) fun c s1 ⟨H1,I1,q1⟩=>?_)
 cases c with
 | true=>exact hb wh pins s1 σ H1 Q I1 q1
 | false=>exact ⟨H1,I1,q1⟩
theorem pw_or (ha:PT X a tA) (hb:PW X (.BoolOp .Or (b::rest) pos) tB'):PW X (.BoolOp .Or (a::b::rest) pos) (tOr tA tB'):=by
 intro wh pins s σ H Q I h
 refine isTrue_or (thn (ha pins s σ H _ I h) fun c s1 ⟨H1,I1,q1⟩=>?_)
 cases c with
 | true=>exact ⟨H1,I1,q1⟩
 | false=>exact hb wh pins s1 σ H1 Q I1 q1
theorem pt_not (ha:PT X a tA):PT X (.UnaryOp .Not a pos) (tNot tA):=by
 intro pins s σ H Q I h
 exact isTrue_not (ha pins s σ H (fun c H1=>Q (!c) H1) I h)
def tAndV (ta tb:TE):TE:=fun σ H Q=>ta σ H fun x H1=>∃ c,x=.bl c∧if c=true then tb σ H1 Q else Q (.bl false) H1
def tNotV (ta:TE):TE:=fun σ H Q=>ta σ H fun x H1=>∃ c,x=.bl c∧Q (.bl (!c)) H1
theorem pe_one {op} {t:TE} (h:PE X a t):PE X (.BoolOp op [a] pos) t:=fun pins s σ H Q I hw=>BoolOp_one (h pins s σ H Q I hw)
theorem pe_and (ha:PE X a ta) (hb:PE X (.BoolOp .And (b::rest) pos) tb):PE X (.BoolOp .And (a::b::rest) pos) (tAndV ta tb):=by
 intro pins s σ H Q I h
 refine BoolOp_and (thn (ha pins s σ H _ I h) fun v s1 ⟨x,H1,I1,r1,q1⟩=>?_)
 obtain ⟨c,rfl,q1⟩:=q1
 cases r1
 refine wpAny_truthy_bool ?_
 cases c with
 | true=>exact hb pins s1 σ H1 Q I1 q1
 | false=>exact ⟨.bl false,H1,I1,rfl,q1⟩
theorem pe_not (ha:PE X a ta):PE X (.UnaryOp .Not a pos) (tNotV ta):=by
 intro pins s σ H Q I h
 refine UnaryOp_ (thn (ha pins s σ H _ I h) fun v s1 ⟨x,H1,I1,r1,q1⟩=>?_)
 obtain ⟨c,rfl,q1⟩:=q1
 cases r1
 exact not_of (wpAny_truthy_bool ⟨.bl (!c),H1,I1,rfl,q1⟩)
end
def SqL (K:W.Frag) (H:Hp) (a:Addr) (xs:List V):Prop :=
 Rd H a (.lst xs) ∨
  ∃ (o:Obj) (its:Array Value) (n:Nat),K.lookup a=some o∧o.cls=.type "list"∧o.dict=none∧o.data=.seq its n∧its.size≤sizeLine∧Vals xs its.toList
def SqT (K:W.Frag) (H:Hp) (a:Addr) (xs:List V):Prop :=
 Rd H a (.tup xs) ∨
  ∃ (o:Obj) (its:Array Value) (n:Nat),K.lookup a=some o∧o.cls=.type "tuple"∧o.data=.seq its n∧its.size≤sizeLine∧Vals xs its.toList
def absV:Value→Option V
 | .none=>some .non
 | .bool b=>some (.bl b)
 | .int i _=>some (.int i)
 | .str x _=>some (.str x)
 | .bytes b _=>some (.byt b)
 | .float b _=>some (.flt b)
 | .ref a=>some (.ref a)
 | .type n=>some (.ty n)
 | _=>none
theorem RelV.abs {x:V} {u:Value} (r:RelV x u):absV u=some x:=by
 cases x with
 | non=>cases r; rfl
 | bl _=>cases r; rfl
 | int _=>obtain ⟨t,rfl⟩:=r; rfl
 | str _=>obtain ⟨t,rfl⟩:=r; rfl
 | byt _=>obtain ⟨t,rfl⟩:=r; rfl
 | flt _=>obtain ⟨t,rfl⟩:=r; rfl
 | ref _=>cases r; rfl
 | ty _=>cases r; rfl
theorem RelV.inj {x y:V} {u:Value} (r:RelV x u) (q:RelV y u):x=y:=Option.some.inj (r.abs.symm.trans q.abs)
theorem Vals.inj:∀ {xs ys:List V} {us:List Value},Vals xs us→Vals ys us→xs=ys
 | _,_,_,.nil,.nil=>rfl
 | _,_,_,.cons r t,.cons r' t'=>by rw [r.inj r',Vals.inj t t']
section
variable {X:Cx} {pins:List (Addr×Obj)} {σ:St} {H:Hp} {s:Shared} {a:Addr} {xs ys:List V}
theorem SqL.of {K:W.Frag} (h:H a=some (.lst xs)):SqL K H a xs:=.inl (.inl h)
theorem SqT.of {K:W.Frag} (h:H a=some (.tup xs)):SqT K H a xs:=.inl (.inl h)
theorem Inv.list (I:Inv X pins σ H s) (h:SqL X.K H a xs):∃ its:List Value,Vals xs its∧PlainL s.heap a its.toArray∧xs.length≤sizeLine:=by
 rcases h with h | ⟨o,its,n,hk,hc,hd,hs,hz,r⟩
 · obtain ⟨z,its,n,r,e⟩:=h.ok I.hok
   exact ⟨its,r,⟨_,n,e,rfl,rfl,rfl⟩,z⟩
 · refine ⟨its.toList,r,⟨o,n,I.kIn a o hk,hc,hd,by simpa using hs⟩,?_⟩
   have e:=r.length
   simp only [Array.length_toList] at e
   omega
theorem Inv.tuple (I:Inv X pins σ H s) (h:SqT X.K H a xs):∃ its:List Value,Vals xs its∧IsTup s.heap a its.toArray∧xs.length≤sizeLine:=by
 rcases h with h | ⟨o,its,n,hk,hc,hs,hz,r⟩
 · obtain ⟨z,its,r,p⟩:=h.ok I.hok
   exact ⟨its,r,p,z⟩
 · refine ⟨its.toList,r,⟨o,I.kIn a o hk,hc,n,by simpa using hs⟩,?_⟩
   have e:=r.length
   simp only [Array.length_toList] at e
   omega
theorem Inv.list_inj (I:Inv X pins σ H s) (h:SqL X.K H a xs) (h':SqL X.K H a ys):xs=ys:=by
 obtain ⟨its,r,⟨o,n,e,_,_,d⟩,_⟩:=I.list h
 obtain ⟨its',r',⟨o',n',e',_,_,d'⟩,_⟩:=I.list h'
 rw [e] at e'; cases e'
 rw [d] at d'
 injection d' with d1 _
 have:its=its':=by simpa using congrArg Array.toList d1
 subst this
 exact r.inj r'
theorem Inv.tuple_inj (I:Inv X pins σ H s) (h:SqT X.K H a xs) (h':SqT X.K H a ys):xs=ys:=by
 obtain ⟨its,r,⟨o,e,_,n,d⟩,_⟩:=I.tuple h
 obtain ⟨its',r',⟨o',e',_,n',d'⟩,_⟩:=I.tuple h'
 rw [e] at e'; cases e'
 rw [d] at d'
 injection d' with d1 _
 have:its=its':=by simpa using congrArg Array.toList d1
 subst this
 exact r.inj r'
end
abbrev Cx.wish (X:Cx) (E:Value→Shared→Prop):Cx:={ X with xe:=E }
abbrev Cx.nox (X:Cx):Cx:=X.wish fun _ _=>False
theorem Cx.Ok.wish {X:Cx} (ok:X.Ok) (E:Value→Shared→Prop):(X.wish E).Ok :=
 ⟨ok.mod,ok.kind,ok.glob,ok.blt,ok.above,ok.inj,ok.has,ok.cab,ok.hd,ok.frames,ok.stk,ok.exf,ok.bs,ok.bsz,ok.noex,ok.exfs,ok.funs,ok.frf⟩
theorem Cx.Ok.unwish {X:Cx} {E:Value→Shared→Prop} (ok:(X.wish E).Ok):X.Ok :=
 ⟨ok.mod,ok.kind,ok.glob,ok.blt,ok.above,ok.inj,ok.has,ok.cab,ok.hd,ok.frames,ok.stk,ok.exf,ok.bs,ok.bsz,ok.noex,ok.exfs,ok.funs,ok.frf⟩
section
variable {X:Cx} {pins:List (Addr×Obj)} {σ:St} {H:Hp} {s:Shared} {E:Value→Shared→Prop}
theorem Inv.wish (I:Inv X pins σ H s) (E:Value→Shared→Prop):Inv (X.wish E) pins σ H s:=⟨I.ok.wish E,I.os,I.bare,I.base,I.loc,I.cell,I.free,I.freeC,I.pin,I.hok,I.len⟩
theorem Inv.unwish (I:Inv (X.wish E) pins σ H s):Inv X pins σ H s:=⟨I.ok.unwish,I.os,I.bare,I.base,I.loc,I.cell,I.free,I.freeC,I.pin,I.hok,I.len⟩
theorem SP.unwish {D:Ends} {f:Flow} {s':Shared} (h:SP (X.wish E) pins D f s'):SP X pins D f s':=by
 cases f with
 | next=>obtain ⟨σ',H',I,q⟩:=h; exact ⟨σ',H',I.unwish,q⟩
 | brk=>obtain ⟨σ',H',I,q⟩:=h; exact ⟨σ',H',I.unwish,q⟩
 | cont=>obtain ⟨σ',H',I,q⟩:=h; exact ⟨σ',H',I.unwish,q⟩
 | ret u=>obtain ⟨v,σ',H',I,r,q⟩:=h; exact ⟨v,σ',H',I.unwish,r,q⟩
theorem PSs.nox {st:List Stmt} {t:TS} (h:PSs X.nox st t):PSs X st t:=fun pins s σ H D I hw =>
 wpAny_mono (h pins s σ H D (I.wish _) hw) (fun _ _ q=>q.unwish) fun _ _ z=>False.elim z
end
section
variable {X:Cx} {st:Stmt} {rest:List Stmt} {t u:TS} {e:Expr} {te:TE} {pos:Pos}
def tNext:TS:=fun D σ H=>D.nx σ H
def tSeq (t u:TS):TS:=fun D σ H=>t { D with nx:=u D } σ H
theorem pss_nil:PSs X [] tNext:=fun _ _ σ H _ I h=>wpAny_execs_nil ⟨σ,H,I,h⟩
theorem pss_cons (h1:PS X st t) (h2:PSs X rest u):PSs X (st::rest) (tSeq t u):=by
 intro pins s σ H D I h
 refine wpAny_execs_cons (thn (h1 pins s σ H { D with nx:=u D } I h) fun f s1 q=>?_)
 cases f with
 | next =>
  obtain ⟨σ',H',I',q⟩:=q
  exact h2 pins s1 σ' H' D I' q
 | ret v=>exact q
 | brk=>exact q
 | cont=>exact q
theorem pss_one (h1:PS X st t):PSs X [st] t:=by
 intro pins s σ H D I h
 refine wpAny_execs_cons (thn (h1 pins s σ H D I h) fun f s1 q=>?_)
 cases f with
 | next=>exact wpAny_execs_nil q
 | ret v=>exact q
 | brk=>exact q
 | cont=>exact q
theorem Inv.quiet {pins:List (Addr×Obj)} {σ:St} {H:Hp} {s:Shared} (I:Inv X pins σ H s):interactive X.env=false:=by simp [interactive,I.ok.kind]
def tDrop (te:TE):TS:=fun D σ H=>te σ H fun _ H1=>D.nx σ H1
theorem ps_expr (he:PE X e te) (hs:swapsWith e none pos.line X.env=pure false:=by rfl):PS X (.Expr e pos) (tDrop te):=by
 intro pins s σ H D I h
 exact wpAny_Expr_any (thn (he pins s σ H _ I h) fun v s1 ⟨x,H1,I1,r1,q1⟩=>⟨σ,H1,I1,q1⟩) I.quiet hs
def tRet (te:TE):TS:=fun D σ H=>te σ H D.rt
theorem ps_ret (he:PE X e te):PS X (.Return (some e) pos) (tRet te):=by
 intro pins s σ H D I h
 exact wpAny_Return_some (thn (he pins s σ H _ I h) fun v s1 ⟨x,H1,I1,r1,q1⟩=>⟨x,σ,H1,I1,r1,q1⟩)
def tIfS (c:TT) (t u:TS):TS:=fun D σ H=>c σ H fun b H1=>if b=true then t D σ H1 else u D σ H1
theorem ps_if {c:Expr} {a b:List Stmt} {tc:TT} (hc:PT X c tc) (ha:PSs X a t) (hb:PSs X b u):PS X (.If c a b pos) (tIfS tc t u):=by
 intro pins s σ H D I h
 refine wpAny_If (thn (hc pins s σ H _ I h) fun d s1 ⟨H1,I1,q1⟩=>?_)
 cases d with
 | true=>exact ha pins s1 σ H1 D I1 q1
 | false=>exact hb pins s1 σ H1 D I1 q1
def tNever:TS:=fun _ _ _=>False
theorem pss_never {sts:List Stmt}:PSs X sts tNever:=fun _ _ _ _ _ _ h=>h.elim
end
abbrev TG:=V→St→Hp→(St→Hp→Prop)→Prop
def PG (X:Cx) (target:Expr) (t:TG):Prop :=
 ∀ (pins:List (Addr×Obj)) (s:Shared) (σ:St) (H:Hp) (v:V) (u:Value) (Q:St→Hp→Prop),Inv X pins σ H s→RelV v u→t v σ H Q →
  wpAny (model X.prog X.w) X.A (assign target X.env u) (fun _ s'=>∃ σ' H',Inv X pins σ' H' s'∧Q σ' H') X.xe s
abbrev TSet:=V→V→V→Hp→(Hp→Prop)→Prop
def PSet (X:Cx) (t:TSet):Prop :=
 ∀ (pins:List (Addr×Obj)) (s:Shared) (σ:St) (H:Hp) (o i v:V) (ov iv u:Value) (Q:Hp→Prop),Inv X pins σ H s→RelV o ov→RelV i iv→RelV v u→t o i v H Q →
  wpAny (model X.prog X.w) X.A (setItem ov iv u) (fun _ s'=>∃ H',Inv X pins σ H' s'∧Q H') X.xe s
abbrev TIp:=V→V→Hp→VK→Prop
def PIp (X:Cx) (op:Operator) (t:TIp):Prop :=
 ∀ (pins:List (Addr×Obj)) (s:Shared) (σ:St) (H:Hp) (x y:V) (v u:Value) (Q:VK),Inv X pins σ H s→RelV x v→RelV y u→t x y H Q →
  wpAny (model X.prog X.w) X.A (inplaceOp op v u) (EP X pins σ Q) X.xe s
section
variable {X:Cx} {pos:Pos}
def gName (i:Nat):TG:=fun v σ H Q=>Q (σ.set i (some v)) H
theorem pg_name {i:Nat} {x:Str} (hN:X.N.Nodup) (hi:X.N[i]? = some x) (hx:Loc X.env.scope x) (hf:X.fn x=true∨X.env.scope.names.lookup x=some .local:=by first | exact .inl rfl | exact .inr rfl | assumption):PG X (.Name x pos) (gName i):=by
 intro pins s σ H v u Q I r h
 exact wpAny_assign_Name (store_ok I hN hi hx r (fun s' I'=>⟨_,H,I',h⟩) hf)
def gSub (to ti:TE) (t:TSet):TG:=fun v σ H Q=>to σ H fun o H1=>ti σ H1 fun i H2=>t o i v H2 fun H3=>Q σ H3
theorem pg_sub {o i:Expr} {to ti:TE} {t:TSet} (ho:PE X o to) (hi:PE X i ti) (hs:PSet X t)
  (ha:∀ v,assign (.Subscript o i pos) X.env v=(do
   let ov ← holding [v] (eval o X.env)
   let iv ← holding [v,ov] (eval i X.env)
   standAt pos
   holding [v,ov,iv] (setItem ov iv v)
   release [v,ov,iv] []):=by intro _; rfl):PG X (.Subscript o i pos) (gSub to ti t):=by
 intro pins s σ H v u Q I r h
 rw [ha]
 refine wpAny_bind (wpAny_holding (thn (ho pins s σ H _ I h) fun ov s1 ⟨x,H1,I1,r1,q1⟩=>?_))
 refine wpAny_bind (wpAny_holding (thn (hi pins s1 σ H1 _ I1 q1) fun iv s2 ⟨y,H2,I2,r2,q2⟩=>?_))
 refine wpAny_bind (wpAny_standAt (wpAny_bind (wpAny_holding (thn (hs pins s2 σ H2 x y v ov iv u _ I2 r1 r2 r q2) fun _ s3 ⟨H3,I3,q3⟩=>?_))))
 exact wpAny_release ⟨σ,H3,I3,q3⟩
def tAsg (te:TE) (g:TG):TS:=fun D σ H=>te σ H fun x H1=>g x σ H1 D.nx
theorem ps_asg {tg e:Expr} {te:TE} {g:TG} (he:PE X e te) (hg:PG X tg g) (hs:swapsWithSole [tg] e pos.line X.env=pure false:=by rfl) (hw:swappedStores [tg] e X.env=pure none:=by rfl)
  (h1:(assignEach [tg] X.env).map (·.2)=[assign tg X.env]:=by rfl):PS X (.Assign [tg] e pos) (tAsg te g):=by
 intro pins s σ H D I h
 refine wpAny_Assign_stores (thn (he pins s σ H _ I h) fun v s1 ⟨x,H1,I1,r1,q1⟩=>?_) hs hw
 rw [h1]
 exact thn (hg pins s1 σ H1 x v _ I1 r1 q1) fun _ s2 q=>q
theorem ps_set {i:Nat} {x:Str} {e:Expr} {te:TE} {pos':Pos} (hN:X.N.Nodup) (hi:X.N[i]? = some x) (hx:Loc X.env.scope x) (he:PE X e te) (hs:swapsWith e (some (.Name x pos')) pos.line X.env=pure false:=by rfl) (hf:X.fn x=true∨X.env.scope.names.lookup x=some .local:=by first | exact .inl rfl | exact .inr rfl | assumption) :
  PS X (.Assign [.Name x pos'] e pos) (tAsg te (gName i)):=by
 intro pins s σ H D I h
 refine wpAny_Assign_Name (thn (he pins s σ H _ I h) fun v s1 ⟨y,H1,I1,r1,q1⟩=>?_) hs
 exact store_ok I1 hN hi hx r1 (fun s2 I2=>⟨_,H1,I2,q1⟩) hf
def tAug (i:Nat) (te:TE) (ti:TIp):TS:=fun D σ H=>∃ x,σ[i]? = some (some x)∧te σ H fun y H1=>ti x y H1 fun z H2=>D.nx (σ.set i (some z)) H2
theorem ps_aug {i:Nat} {x:Str} {e:Expr} {te:TE} {op:Operator} {ti:TIp} {pos':Pos} (hN:X.N.Nodup) (hi:X.N[i]? = some x) (hx:Loc X.env.scope x) (he:PE X e te) (ho:PIp X op ti) (hf:X.fn x=true∨X.env.scope.names.lookup x=some .local:=by first | exact .inl rfl | exact .inr rfl | assumption) :
  PS X (.AugAssign (.Name x pos') op e pos) (tAug i te ti):=by
 intro pins s σ H D I h
 obtain ⟨v,e1,h⟩:=h
 obtain ⟨m,hn,hl⟩:=I.loc
 have vis:Vis X.env.scope x:=by rcases hx with k | k; exact .inl k; exact .inr (.inl k)
 obtain ⟨u,r,l⟩:=hl i x v hi e1 vis
 refine wpAny_AugAssign_Name ?_
 have go:wpAny (model X.prog X.w) X.A (eval e X.env) (fun w s₂=>wpAny (model X.prog X.w) X.A (inplaceOp op u w) (fun r s₃=>wpAny (model X.prog X.w) X.A (storeName X.env x r) (fun _=>SP X pins D .next) X.xe s₃) X.xe s₂) X.xe s:=by
  refine thn (he pins s σ H _ I h) fun w s1 ⟨y,H1,I1,r1,q1⟩=>?_
  refine thn (ho pins s1 σ H1 v y u w _ I1 r r1 q1) fun z s2 ⟨zv,H2,I2,r2,q2⟩=>?_
  exact store_ok I2 hN hi hx r2 (fun s3 I3=>⟨_,H2,I3,q2⟩) hf
 rcases l with ⟨hk,hm⟩ | ⟨hk,c,hc,hcell⟩
 · exact wpAny_loadName_local I.ok.kind hk hn hm go
 · rcases hk with hk | hk
   · exact wpAny_loadName_cell I.ok.kind hk hc hcell go
   · rcases hx with k | k
     · have:X.env.scope.names.lookup x=some .free:=hk
       rw [k] at this; cases this
     · have:X.env.scope.names.lookup x=some .free:=hk
       rw [k] at this; cases this
end
section
variable {X:Cx} {pos:Pos}
def tWhile (c:TT) (tb:TS):TS:=fun D σ H=>∃ W:Nat→St→Hp→Prop,(∃ m,W m σ H)∧∀ m σ H,W m σ H →
 c σ H fun b H1=>if b=true then ∃ N:St→Hp→Prop,(∀ σ' H',N σ' H'→∃ m',m' < m∧W m' σ' H')∧tb { D with nx:=N,ct:=N,bk:=D.nx } σ H1 else D.nx σ H1
theorem ps_while {c:Expr} {body:List Stmt} {tc:TT} {tb:TS} (hp:PassesOwn (model X.prog X.w) X.A X.env X.xe) (hc:PT X c tc) (hb:PSs X body tb):PS X (.While c body [] pos) (tWhile tc tb):=by
 intro pins s σ H D I h
 obtain ⟨W,⟨m0,w0⟩,turn⟩:=h
 refine wpAny_While (codeAny_whileLoop (fun n s'=>∃ σ' H',Inv X pins σ' H' s'∧W n σ' H') ?_ m0 ⟨σ,H,I,w0⟩)
 rintro n s1 ⟨σ1,H1,I1,w1⟩
 refine wpAny_passesOwn hp (thn (hc pins s1 σ1 H1 _ I1 (turn n σ1 H1 w1)) fun b s2 ⟨H2,I2,q2⟩=>?_)
 cases b with
 | true =>
  obtain ⟨N,hN,q2⟩:=q2
  rw [if_pos rfl]
  refine wpAny_passesOwn hp (thn (hb pins s2 σ1 H2 _ I2 q2) fun f s3 q3=>?_)
  cases f with
  | next =>
   obtain ⟨σ3,H3,I3,n3⟩:=q3
   obtain ⟨m',hm,w3⟩:=hN σ3 H3 n3
   exact ⟨m',hm,σ3,H3,I3,w3⟩
  | cont =>
   obtain ⟨σ3,H3,I3,n3⟩:=q3
   obtain ⟨m',hm,w3⟩:=hN σ3 H3 n3
   exact ⟨m',hm,σ3,H3,I3,w3⟩
  | brk=>exact q3
  | ret v=>exact q3
 | false =>
  rw [if_neg Bool.false_ne_true]
  exact wpAny_execs_nil ⟨σ1,H2,I2,q2⟩
end
structure It where
 go:Nat→Hp→Prop
 yld:Nat→Hp→V→Hp→Prop
 stop:Nat→Hp→Prop
def FpOk (X:Cx) (pins:List (Addr×Obj)) (H:Hp) (b:Addr):Prop :=
 H b=none∧b≠X.env.locals∧b∉X.fs∧(b∈X.ex∨X.s₀.heap.objs.size≤b)∧(∀ x c,X.env.cells.lookup x=some c→c≠b)∧∀ p∈X.pn ++ pins,p.1≠b
theorem Inv.fpOk {X:Cx} {pins:List (Addr×Obj)} {σ:St} {H H':Hp} {s:Shared} {b:Addr} (I:Inv X pins σ H s) (hb:s.heap.objs.size≤b) (hn:H' b=none):FpOk X pins H' b:=by
 refine ⟨hn,Nat.ne_of_gt (Nat.lt_of_lt_of_le I.lt hb),I.nofs hb,.inr (Nat.le_trans I.sz hb),fun x c e z=>?_,fun p hp z=>?_⟩
 · obtain ⟨v,q⟩:=I.cell x c e
   exact absurd (Nat.lt_of_lt_of_le q.lt (by rw [z]; exact hb)) (Nat.lt_irrefl _)
 · exact absurd (Nat.lt_of_lt_of_le (Heap.lt_size (I.pin p hp).1) (by rw [z]; exact hb)) (Nat.lt_irrefl _)
structure Turn (P:Program) (w:World) (K:W.Frag) (tg:Expr) (J:It) (fp:List Addr) (it:Addr) (tn:Nat→Heap→Prop):Prop where
 mem:it∈fp
 obj:∀ i h,tn i h→∀ b∈fp,∃ o,h.get? b=some o∧∀ v,o.data≠.cell v
 keep:∀ i h h',tn i h→(∀ b∈fp,∀ o,h.get? b=some o→h'.get? b=some o)→tn i h'
 item:∀ (X:Cx),X.prog=P→X.w=w→X.K=K→X.calm=true→∀ (i:Nat) (pins:List (Addr×Obj)) (s:Shared) (σ:St) (H:Hp) (E:Value→Shared→Prop),Inv X pins σ H s→(∀ b∈fp,FpOk X pins H b)→tn i s.heap→J.go i H →
  wpAny (model P w) X.A (pyNext (.ref it)) (fun r s1=>∃ u,r=some u ∧
   wpAny (model P w) X.A (letOwnedTupleGo tg (.ref it) u) (fun _ s2=>∃ x H',Inv X pins σ H' s2∧RelV x u∧J.yld i H x H'∧tn (i+1) s2.heap∧∀ b∈fp,H' b=none) E s1) E s
 done:∀ (X:Cx),X.prog=P→X.w=w→X.K=K→X.calm=true→∀ (i:Nat) (pins:List (Addr×Obj)) (s:Shared) (σ:St) (H:Hp) (E:Value→Shared→Prop),Inv X pins σ H s→(∀ b∈fp,FpOk X pins H b)→tn i s.heap→J.stop i H →
  wpAny (model P w) X.A (pyNext (.ref it)) (fun r s1=>r=none∧Inv X pins σ H s1) E s
 self:∀ (A:Around) (i:Nat) (s:Shared) (Q:Value→Shared→Prop) (E:Value→Shared→Prop),tn i s.heap→Q (.ref it) s→wpAny (model P w) A (pyIter (.ref it)) Q E s
abbrev TI:=St→Hp→(It→Hp→Prop)→Prop
def PIE (X:Cx) (pins:List (Addr×Obj)) (σ:St) (tg:Expr) (R:It→Hp→Prop) (itv:Value) (s2:Shared):Prop :=
 ∃ (it:Addr) (fp:List Addr) (tn:Nat→Heap→Prop) (J:It) (H':Hp),itv=.ref it∧Inv X pins σ H' s2∧Turn X.prog X.w X.K tg J fp it tn∧tn 0 s2.heap∧(∀ b∈fp,FpOk X pins H' b)∧R J H'
def PI (X:Cx) (tg iter:Expr) (wi:TI):Prop :=
 ∀ (pins:List (Addr×Obj)) (s:Shared) (σ:St) (H:Hp) (R:It→Hp→Prop),Inv X pins σ H s→wi σ H R →
  wpAny (model X.prog X.w) X.A (eval iter X.env) (fun v s1=>wpAny (model X.prog X.w) X.A (pyIter v) (PIE X pins σ tg R) X.xe s1) X.xe s
theorem go_of {M:Model} {A:Around} {E:Value→Shared→Prop} {s:Shared} {tg:Expr} {it:Addr} {u:Value} {o:Obj} {n:String} {vs:Array Value} {Q:Unit→Shared→Prop} (ho:s.heap.get? it=some o) (hc:o.cls=.type n) (hd:o.data=.fields vs)
  (hn:["enumerate","zip","dict_itemiterator","dict_reverseitemiterator","odict_iterator","itertools.zip_longest","itertools.pairwise"].contains n=false) (hQ:Q () s):wpAny M A (letOwnedTupleGo tg (.ref it) u) Q E s:=by
 unfold letOwnedTupleGo
 cases tg <;> first
  | exact wpAny_pure hQ
  | (cases u <;> first
    | exact wpAny_pure hQ
    | (refine wpAny_bind (wpAny_load ho ?_)
       rw [hc,hd]
       show wpAny M A (if (["enumerate","zip","dict_itemiterator","dict_reverseitemiterator","odict_iterator","itertools.zip_longest","itertools.pairwise"].contains n && vs[0]? == some (rawInt _))=true then _ else _) Q E s
       rw [if_neg (by intro h; rw [hn,Bool.false_and] at h; cases h)]
       exact wpAny_pure hQ))
def Itl (K:W.Frag) (a:Addr):It :=
 ⟨fun i H=>∃ xs x,SqL K H a xs∧xs[i]? = some x,fun i H x H'=>H'=H∧∀ xs,SqL K H a xs→xs[i]? = some x,fun i H=>∃ xs,SqL K H a xs∧xs.length≤i⟩
def Itt (K:W.Frag) (a:Addr):It :=
 ⟨fun i H=>∃ xs x,SqT K H a xs∧xs[i]? = some x,fun i H x H'=>H'=H∧∀ xs,SqT K H a xs→xs[i]? = some x,fun i H=>∃ xs,SqT K H a xs∧xs.length≤i⟩
def Itr (lo:Int) (n:Nat):It:=⟨fun i _=>i < n,fun i H x H'=>H'=H∧x=.int (lo+i),fun i _=>n≤i⟩
theorem turn_list {P:Program} {w:World} {K:W.Frag} {tg:Expr} (a it:Addr):Turn P w K tg (Itl K a) [it] it (fun i h=>h.IsListIter it a i) where
 mem:=by simp
 obj:=fun i h st b hb=>by
  have e:b=it:=by simpa using hb
  subst e
  obtain ⟨o,e,c,d⟩:=st
  exact ⟨o,e,fun v z=>by rw [d] at z; cases z⟩
 keep:=fun i h h' st k=>st.at fun o e=>k it (by simp) o e
 item:=by
  intro X hP hw hK hc i pins s σ H E I hf st hg
  subst hP hw hK
  obtain ⟨xs,x,hq,hx⟩:=hg
  obtain ⟨its,rv,p,hz⟩:=I.list hq
  obtain ⟨u,hu,ru⟩:=rv.get hx
  obtain ⟨f0,f1,f2,f3,f4,f5⟩:=hf it (by simp)
  refine wpAny_pyNext_list_item st p.isList (x:=u) (by simpa using hu) fun h' st' sb=>?_
  have I1:Inv X pins σ H { s with heap:=h' }:=I.turned (t':=s.toks) (fun b o hb e=>(sb.2 b hb).trans e) f0 f1 f3 f4 f5
  obtain ⟨o,e,c,d⟩:=id st'
  exact ⟨u,rfl,go_of (s:={ s with heap:=h' }) e c d (by decide) ⟨x,H,I1,ru,⟨rfl,fun ys hy=>by rw [I.list_inj hy hq]; exact hx⟩,st',fun b hb=>(hf b hb).1⟩⟩
 done:=by
  intro X hP hw hK hc i pins s σ H E I hf st hg
  subst hP hw hK
  obtain ⟨xs,hq,hx⟩:=hg
  obtain ⟨its,rv,p,hz⟩:=I.list hq
  obtain ⟨f0,f1,f2,f3,f4,f5⟩:=hf it (by simp)
  have hl:=rv.length
  exact wpAny_pyNext_list_end (I.ok.hd hc) st p.isList (by simp; omega) fun h' eb=>⟨rfl,I.turned (t':=s.toks) (fun b o hb e=>eb b o hb e) f0 f1 f3 f4 f5⟩
 self:=fun _ _ _ _ _ st h=>wpAny_pyIter_listiter st h
theorem turn_tuple {P:Program} {w:World} {K:W.Frag} {tg:Expr} (a it:Addr):Turn P w K tg (Itt K a) [it] it (fun i h=>h.IsTupleIter it a i) where
 mem:=by simp
 obj:=fun i h st b hb=>by
  have e:b=it:=by simpa using hb
  subst e
  obtain ⟨o,e,c,d⟩:=st
  exact ⟨o,e,fun v z=>by rw [d] at z; cases z⟩
 keep:=fun i h h' st k=>st.at fun o e=>k it (by simp) o e
 item:=by
  intro X hP hw hK hc i pins s σ H E I hf st hg
  subst hP hw hK
  obtain ⟨xs,x,hq,hx⟩:=hg
  obtain ⟨its,rv,p,hz⟩:=I.tuple hq
  obtain ⟨u,hu,ru⟩:=rv.get hx
  obtain ⟨f0,f1,f2,f3,f4,f5⟩:=hf it (by simp)
  refine wpAny_pyNext_tuple_item st (show s.heap.IsTuple a its.toArray from p) (x:=u) (by simpa using hu) fun h' st' sb=>?_
  have I1:Inv X pins σ H { s with heap:=h' }:=I.turned (t':=s.toks) (fun b o hb e=>(sb.2 b hb).trans e) f0 f1 f3 f4 f5
  obtain ⟨o,e,c,d⟩:=id st'
  exact ⟨u,rfl,go_of (s:={ s with heap:=h' }) e c d (by decide) ⟨x,H,I1,ru,⟨rfl,fun ys hy=>by rw [I.tuple_inj hy hq]; exact hx⟩,st',fun b hb=>(hf b hb).1⟩⟩
 done:=by
  intro X hP hw hK hc i pins s σ H E I hf st hg
  subst hP hw hK
  obtain ⟨xs,hq,hx⟩:=hg
  obtain ⟨its,rv,p,hz⟩:=I.tuple hq
  obtain ⟨f0,f1,f2,f3,f4,f5⟩:=hf it (by simp)
  have hl:=rv.length
  exact wpAny_pyNext_tuple_end (I.ok.hd hc) st (show s.heap.IsTuple a its.toArray from p) (by simp; omega) fun h' eb=>⟨rfl,I.turned (t':=s.toks) (fun b o hb e=>eb b o hb e) f0 f1 f3 f4 f5⟩
 self:=fun _ _ _ _ _ st h=>wpAny_pyIter_tupleiter st h
theorem turn_range {P:Program} {w:World} {K:W.Frag} {tg:Expr} (it:Addr) (lo:Int) (n:Nat):Turn P w K tg (Itr lo n) [it] it (fun i h=>IsRangeIter h it (lo+(i:Nat) * 1) ((n:Int) - (i:Nat)) 1) where
 mem:=by simp
 obj:=fun i h st b hb=>by
  have e:b=it:=by simpa using hb
  subst e
  exact ⟨_,st,fun v z=>by
   have z':Data.fields _=Data.cell v:=z
   cases z'⟩
 keep:=fun i h h' st k=>k it (by simp) _ st
 item:=by
  intro X hP hw hK hc i pins s σ H E I hf st hg
  subst hP hw hK
  obtain ⟨f0,f1,f2,f3,f4,f5⟩:=hf it (by simp)
  have W:=Walks.range (prog:=X.prog) (w:=X.w) (I.ok.hd hc) it lo 1 n
  refine W.item i s _ _ hg st fun v h' tk hv st' kk=>?_
  obtain ⟨t,rfl⟩:=hv
  have I1:Inv X pins σ H { s with heap:=h',toks:=tk }:=I.turned (fun b o hb e=>kk b o (by simpa using hb) e) f0 f1 f3 f4 f5
  refine ⟨_,rfl,go_of (s:={ s with heap:=h',toks:=tk }) (n:="range_iterator") st' rfl rfl (by decide) ⟨.int (lo+i),H,I1,⟨t,?_⟩,⟨rfl,rfl⟩,st',fun b hb=>(hf b hb).1⟩⟩
  rw [Int.mul_one]
 done:=by
  intro X hP hw hK hc i pins s σ H E I hf st hg
  subst hP hw hK
  obtain ⟨f0,f1,f2,f3,f4,f5⟩:=hf it (by simp)
  exact wpAny_pyNext_range_end (I.ok.hd hc) st (by have:n≤i:=hg; omega) fun h' eb=>⟨rfl,I.turned (t':=s.toks) (fun b o hb e=>eb b o hb e) f0 f1 f3 f4 f5⟩
 self:=fun _ _ _ _ _ st h=>wpAny_pyIter_rangeiter st h
section
variable {X:Cx} {tg:Expr}
def iList (K:W.Frag) (tl:TE):TI:=fun σ H R=>tl σ H fun x H1=>∃ a,x=.ref a∧(∃ xs,SqL K H1 a xs)∧R (Itl K a) H1
def iTup (K:W.Frag) (tl:TE):TI:=fun σ H R=>tl σ H fun x H1=>∃ a,x=.ref a∧(∃ xs,SqT K H1 a xs)∧R (Itt K a) H1
theorem pi_list {l:Expr} {tl:TE} (hl:PE X l tl):PI X tg l (iList X.K tl):=by
 intro pins s σ H R I h
 refine thn (hl pins s σ H _ I h) fun v s1 ⟨x,H1,I1,r1,q1⟩=>?_
 obtain ⟨a,e,⟨xs,hq⟩,q⟩:=q1
 subst e
 cases r1
 obtain ⟨its,rv,p,hz⟩:=I1.list hq
 refine wpAny_pyIter_list p.isList ?_
 refine ⟨s1.heap.objs.size,[s1.heap.objs.size],_,_,H1,rfl,I1.kept (t':=s1.toks) fun b o e=>Heap.get?_push_of_some _ e,turn_list a _,⟨_,Heap.get?_push_size _ rfl,rfl,rfl⟩,fun b hb=>?_,q⟩
 have e:b=s1.heap.objs.size:=by simpa using hb
 subst e
 exact I1.fpOk (Nat.le_refl _) (I1.hok.fresh (Nat.le_refl _))
theorem pi_tup {l:Expr} {tl:TE} (hl:PE X l tl):PI X tg l (iTup X.K tl):=by
 intro pins s σ H R I h
 refine thn (hl pins s σ H _ I h) fun v s1 ⟨x,H1,I1,r1,q1⟩=>?_
 obtain ⟨a,e,⟨xs,hq⟩,q⟩:=q1
 subst e
 cases r1
 obtain ⟨its,rv,p,hz⟩:=I1.tuple hq
 refine wpAny_pyIter_tuple (show s1.heap.IsTuple a its.toArray from p) ?_
 refine ⟨s1.heap.objs.size,[s1.heap.objs.size],_,_,H1,rfl,I1.kept (t':=s1.toks) fun b o e=>Heap.get?_push_of_some _ e,turn_tuple a _,⟨_,Heap.get?_push_size _ rfl,rfl,rfl⟩,fun b hb=>?_,q⟩
 have e:b=s1.heap.objs.size:=by simpa using hb
 subst e
 exact I1.fpOk (Nat.le_refl _) (I1.hok.fresh (Nat.le_refl _))
theorem range_it {pins:List (Addr×Obj)} {σ:St} {H:Hp} {s:Shared} {R:It→Hp→Prop} {E:Value→Shared→Prop} {lo hi:Int} {t u v:Tok} {tk:Nat} (I:Inv X pins σ H s) (h1:-(2 ^ 62)≤lo) (h2:lo < 2 ^ 62) (h3:-(2 ^ 62)≤hi) (h4:hi < 2 ^ 62)
  (q:R (Itr lo (hi - lo).toNat) H):wpAny (model X.prog X.w) X.A (pyIter (.ref s.heap.objs.size)) (PIE X pins σ tg R) E { s with heap:=s.heap.push { cls:=.type "range",data:=.fields #[.int lo t,.int hi u,.int 1 v] },toks:=tk }:=by
 refine wpAny_pyIter_range (IsRange.new ..) (small_one h1 h2 h3 h4) ?_
 have I1:Inv X pins σ H { s with heap:=s.heap.push { cls:=.type "range",data:=.fields #[.int lo t,.int hi u,.int 1 v] },toks:=tk }:=I.kept fun b o e=>Heap.get?_push_of_some _ e
 refine ⟨(s.heap.push { cls:=.type "range",data:=.fields #[.int lo t,.int hi u,.int 1 v] }).objs.size,[(s.heap.push { cls:=.type "range",data:=.fields #[.int lo t,.int hi u,.int 1 v] }).objs.size],_,_,H,rfl,
  I1.kept (t':=tk) fun b o e=>Heap.get?_push_of_some _ e,turn_range _ lo (hi - lo).toNat,?_,fun b hb=>?_,q⟩
 · have e1:lo+((0:Nat):Int) * 1=lo:=by simp
   have e2:(((hi - lo).toNat:Nat):Int) - ((0:Nat):Int)=Builtin.Range.rangeSize lo hi 1:=by rw [rangeSize_one]; split <;> omega
   show IsRangeIter _ _ (lo+((0:Nat):Int) * 1) ((((hi - lo).toNat:Nat):Int) - ((0:Nat):Int)) 1
   rw [e1,e2]
   exact Heap.get?_push_size _ rfl
 · have e:b=(s.heap.push { cls:=.type "range",data:=.fields #[.int lo t,.int hi u,.int 1 v] }).objs.size:=by simpa using hb
   subst e
   exact I1.fpOk (Nat.le_refl _) (I1.hok.fresh (Nat.le_refl _))
def iRng1 (ta:TA):TI:=fun σ H R=>ta σ H fun vs H1=>∃ j:Int,vs=[.int j]∧-(2 ^ 62)≤j∧j < 2 ^ 62∧R (Itr 0 j.toNat) H1
theorem pi_range1 {a:Expr} {ta:TA} {p pos:Pos} (hg:Gl X "range") (hm:X.mg "range"=none) (ha:PA X [a] ta) (hs:starEach [a] X.env=[(false,eval a X.env)]:=by rfl):PI X tg (.Call (.Name "range" p) [a] [] pos) (iRng1 ta):=by
 intro pins s σ H R I h
 refine Call_ (ld_blt I hg hm boot_range (PyProof.Rows.callWith_type1 (thn (ha pos pins s σ H _ I h) fun us s1 ⟨vs,H1,I1,r1,q1⟩=>?_) hs rfl))
 obtain ⟨j,e,q1,q2,q⟩:=q1
 subst e
 cases r1 with
 | cons r rr =>
  cases rr
  obtain ⟨t,rfl⟩:=r
  exact call_range_1 (range_it I1 (by omega) (by omega) q1 q2 (by simpa using q))
def tFor (wi:TI) (g:TG) (tb:TS):TS:=fun D σ H=>wi σ H fun J H1=>∃ W:Nat→Nat→St→Hp→Prop,(∃ m,W 0 m σ H1)∧∀ i m σ H,W i m σ H →
 (J.stop i H∧D.nx σ H)∨(J.go i H∧∃ N:St→Hp→Prop,(∀ σ' H',N σ' H'→∃ m',m' < m∧W (i+1) m' σ' H')∧∀ x H',J.yld i H x H'→g x σ H' fun σ2 H2=>tb { D with nx:=N,ct:=N,bk:=D.nx } σ2 H2)
def pinsAt (fp:List Addr) (h:Heap):List (Addr×Obj):=fp.filterMap fun b=>(h.get? b).map fun o=>(b,o)
theorem mem_pinsAt {fp:List Addr} {h:Heap} {b:Addr} {o:Obj} (hb:b∈fp) (e:h.get? b=some o):(b,o)∈pinsAt fp h:=List.mem_filterMap.mpr ⟨b,hb,by rw [e]; rfl⟩
theorem of_pinsAt {fp:List Addr} {h:Heap} {p:Addr×Obj} (hp:p∈pinsAt fp h):p.1∈fp∧h.get? p.1=some p.2:=by
 obtain ⟨b,hb,e⟩:=List.mem_filterMap.mp hp
 cases q:h.get? b with
 | none=>rw [q] at e; cases e
 | some o =>
  rw [q] at e
  have e':(b,o)=p:=Option.some.inj e
  subst e'
  exact ⟨hb,q⟩
theorem Inv.pinned {pins:List (Addr×Obj)} {σ:St} {H:Hp} {s:Shared} {fp:List Addr} (I:Inv X pins σ H s) (hf:∀ b∈fp,FpOk X pins H b) (ho:∀ b∈fp,∃ o,s.heap.get? b=some o∧∀ v,o.data≠.cell v):Inv X (pins ++ pinsAt fp s.heap) σ H s :=
 I.pins_of fun p hp=>(List.mem_append.mp hp).elim (fun z=>I.pin p (List.mem_append_right _ z)) fun z=>by
  obtain ⟨hb,e⟩:=of_pinsAt z
  obtain ⟨f0,f1,f2,_⟩:=hf p.1 hb
  obtain ⟨o,e',d⟩:=ho p.1 hb
  rw [e] at e'; cases e'
  exact ⟨e,f0,f1,f2,d⟩
theorem Inv.unpinned {pins pl:List (Addr×Obj)} {σ:St} {H:Hp} {s:Shared} (I:Inv X (pins ++ pl) σ H s):Inv X pins σ H s:=I.pins_of fun p hp=>I.pin p (List.mem_append_right _ (List.mem_append_left _ hp))
theorem ps_for {iter:Expr} {body:List Stmt} {wi:TI} {g:TG} {tb:TS} {pos:Pos} (hp:PassesOwn (model X.prog X.w) X.A X.env X.xe) (hc:X.calm=true) (hi:PI X tg iter wi) (hg:PG X tg g) (hb:PSs X body tb)
  (hs:∀ x,foldedSetIterable iter X.env x=pure x:=by intro _; rfl):PS X (.For tg iter body [] pos) (tFor wi g tb):=by
 intro pins s σ H D I h
 refine wpAny_For (thn (hi pins s σ H _ I h) fun v s1 h1=>thn h1 fun itv s2 h2=>?_) hs
 obtain ⟨it,fp,tn,J,H2,e,I2,T,st2,f2,W,⟨m0,w0⟩,turn⟩:=h2
 subst e
 have stat:∀ {H':Hp},(∀ b∈fp,H' b=none)→∀ b∈fp,FpOk X pins H' b:=fun hn b hb=>⟨hn b hb,(f2 b hb).2⟩
 refine codeAny_forLoop_any (fun n s'=>∃ i σ' H',Inv X pins σ' H' s'∧tn i s'.heap∧(∀ b∈fp,H' b=none)∧W i n σ' H') ?_ m0 ⟨0,σ,H2,I2,st2,fun b hb=>(f2 b hb).1,w0⟩
 rintro n s3 ⟨i,σ3,H3,I3,st3,fr3,w3⟩
 rcases turn i n σ3 H3 w3 with ⟨stop,qn⟩ | ⟨go,N,hN,step⟩
 · refine wpAny_passesOwn hp (thn (T.done X rfl rfl rfl hc i pins s3 σ3 H3 X.xe I3 (stat fr3) st3 stop) fun r s4 ⟨hr,I4⟩=>?_)
   subst hr
   exact wpAny_execs_nil ⟨σ3,H3,I4,qn⟩
 · refine wpAny_passesOwn hp (thn (T.item X rfl rfl rfl hc i pins s3 σ3 H3 X.xe I3 (stat fr3) st3 go) fun r s4 ⟨u,hr,h4⟩=>?_)
   subst hr
   refine wpAny_passesOwn hp (thn h4 fun _ s5 ⟨x,H5,I5,r5,y5,st5,fr5⟩=>?_)
   have I5':=I5.pinned (stat fr5) (T.obj _ _ st5)
   refine wpAny_passesOwn hp (thn (hg _ s5 σ3 H5 x u _ I5' r5 (step x H5 y5)) fun _ s6 ⟨σ6,H6,I6,q6⟩=>?_)
   refine wpAny_passesOwn hp (thn (hb _ s6 σ6 H6 _ I6 q6) fun f s7 q7=>?_)
   have again:∀ {σ7:St} {H7:Hp},Inv X (pins ++ pinsAt fp s5.heap) σ7 H7 s7→N σ7 H7→∃ m,m < n∧∃ i σ' H',Inv X pins σ' H' s7∧tn i s7.heap∧(∀ b∈fp,H' b=none)∧W i m σ' H':=fun {σ7 H7} I7 n7=>by
    obtain ⟨m',hm,w7⟩:=hN σ7 H7 n7
    refine ⟨m',hm,i+1,σ7,H7,I7.unpinned,T.keep _ _ _ st5 fun b hb o e=>(I7.pin (b,o) (List.mem_append_right _ (List.mem_append_right _ (mem_pinsAt hb e)))).1,fun b hb=>?_,w7⟩
    obtain ⟨o,e,d⟩:=T.obj _ _ st5 b hb
    exact (I7.pin (b,o) (List.mem_append_right _ (List.mem_append_right _ (mem_pinsAt hb e)))).2.1
   cases f with
   | next=>obtain ⟨σ7,H7,I7,n7⟩:=q7; exact again I7 n7
   | cont=>obtain ⟨σ7,H7,I7,n7⟩:=q7; exact again I7 n7
   | brk=>obtain ⟨σ7,H7,I7,q7⟩:=q7; exact ⟨σ7,H7,I7.unpinned,q7⟩
   | ret v=>obtain ⟨x7,σ7,H7,I7,r7,q7⟩:=q7; exact ⟨x7,σ7,H7,I7.unpinned,r7,q7⟩
end
theorem for_list {K:W.Frag} {a:Addr} {xs:List V} {g:TG} {tb:TS} {D:Ends} {σ:St} {H:Hp} (Pv:Nat→St→Hp→Prop) (h0:Pv 0 σ H) (hl:∀ i σ H,i≤xs.length→Pv i σ H→SqL K H a xs)
  (hs:∀ i x σ H,xs[i]? = some x→Pv i σ H→g x σ H fun σ2 H2=>tb { D with nx:=Pv (i+1),ct:=Pv (i+1),bk:=D.nx } σ2 H2) (hd:∀ σ H,Pv xs.length σ H→D.nx σ H) :
  ∃ W:Nat→Nat→St→Hp→Prop,(∃ m,W 0 m σ H)∧∀ i m σ H,W i m σ H →
   ((Itl K a).stop i H∧D.nx σ H)∨((Itl K a).go i H∧∃ N:St→Hp→Prop,(∀ σ' H',N σ' H'→∃ m',m' < m∧W (i+1) m' σ' H')∧∀ x H',(Itl K a).yld i H x H'→g x σ H' fun σ2 H2=>tb { D with nx:=N,ct:=N,bk:=D.nx } σ2 H2):=by
 refine ⟨fun i m σ H=>m=xs.length - i∧i≤xs.length∧Pv i σ H,⟨xs.length,by simp,Nat.zero_le _,h0⟩,?_⟩
 rintro i m σ H ⟨rfl,hi,p⟩
 have q:=hl i σ H hi p
 by_cases hlt:i < xs.length
 · refine .inr ⟨⟨xs,xs[i],q,by simp [hlt]⟩,Pv (i+1),fun σ' H' p'=>⟨xs.length - (i+1),by omega,rfl,hlt,p'⟩,fun x H' y=>?_⟩
   obtain ⟨e,y⟩:=y
   subst e
   exact hs i x σ _ (y xs q) p
 · have e:i=xs.length:=by omega
   subst e
   exact .inl ⟨⟨xs,q,Nat.le_refl _⟩,hd σ H p⟩
theorem for_tup {K:W.Frag} {a:Addr} {xs:List V} {g:TG} {tb:TS} {D:Ends} {σ:St} {H:Hp} (Pv:Nat→St→Hp→Prop) (h0:Pv 0 σ H) (hl:∀ i σ H,i≤xs.length→Pv i σ H→SqT K H a xs)
  (hs:∀ i x σ H,xs[i]? = some x→Pv i σ H→g x σ H fun σ2 H2=>tb { D with nx:=Pv (i+1),ct:=Pv (i+1),bk:=D.nx } σ2 H2) (hd:∀ σ H,Pv xs.length σ H→D.nx σ H) :
  ∃ W:Nat→Nat→St→Hp→Prop,(∃ m,W 0 m σ H)∧∀ i m σ H,W i m σ H →
   ((Itt K a).stop i H∧D.nx σ H)∨((Itt K a).go i H∧∃ N:St→Hp→Prop,(∀ σ' H',N σ' H'→∃ m',m' < m∧W (i+1) m' σ' H')∧∀ x H',(Itt K a).yld i H x H'→g x σ H' fun σ2 H2=>tb { D with nx:=N,ct:=N,bk:=D.nx } σ2 H2):=by
 refine ⟨fun i m σ H=>m=xs.length - i∧i≤xs.length∧Pv i σ H,⟨xs.length,by simp,Nat.zero_le _,h0⟩,?_⟩
 rintro i m σ H ⟨rfl,hi,p⟩
 have q:=hl i σ H hi p
 by_cases hlt:i < xs.length
 · refine .inr ⟨⟨xs,xs[i],q,by simp [hlt]⟩,Pv (i+1),fun σ' H' p'=>⟨xs.length - (i+1),by omega,rfl,hlt,p'⟩,fun x H' y=>?_⟩
   obtain ⟨e,y⟩:=y
   subst e
   exact hs i x σ _ (y xs q) p
 · have e:i=xs.length:=by omega
   subst e
   exact .inl ⟨⟨xs,q,Nat.le_refl _⟩,hd σ H p⟩
theorem for_range {lo:Int} {n:Nat} {g:TG} {tb:TS} {D:Ends} {σ:St} {H:Hp} (Pv:Nat→St→Hp→Prop) (h0:Pv 0 σ H)
  (hs:∀ i σ H,i < n→Pv i σ H→g (.int (lo+i)) σ H fun σ2 H2=>tb { D with nx:=Pv (i+1),ct:=Pv (i+1),bk:=D.nx } σ2 H2) (hd:∀ σ H,Pv n σ H→D.nx σ H) :
  ∃ W:Nat→Nat→St→Hp→Prop,(∃ m,W 0 m σ H)∧∀ i m σ H,W i m σ H →
   ((Itr lo n).stop i H∧D.nx σ H)∨((Itr lo n).go i H∧∃ N:St→Hp→Prop,(∀ σ' H',N σ' H'→∃ m',m' < m∧W (i+1) m' σ' H')∧∀ x H',(Itr lo n).yld i H x H'→g x σ H' fun σ2 H2=>tb { D with nx:=N,ct:=N,bk:=D.nx } σ2 H2):=by
 refine ⟨fun i m σ H=>m=n - i∧i≤n∧Pv i σ H,⟨n,by simp,Nat.zero_le _,h0⟩,?_⟩
 rintro i m σ H ⟨rfl,hi,p⟩
 by_cases hlt:i < n
 · refine .inr ⟨hlt,Pv (i+1),fun σ' H' p'=>⟨n - (i+1),by omega,rfl,hlt,p'⟩,fun x H' y=>?_⟩
   obtain ⟨e,y⟩:=y
   subst e y
   exact hs i σ _ hlt p
 · have e:i=n:=by omega
   subst e
   exact .inl ⟨Nat.le_refl _,hd σ H p⟩
abbrev R2:=V→V→Hp→VK→Prop
def OpR (X:Cx) (f:Value→Value→Sem Value) (r:R2):Prop :=
 ∀ (pins:List (Addr×Obj)) (s:Shared) (σ:St) (H:Hp) (x y:V) (v u:Value) (Q:VK),Inv X pins σ H s→RelV x v→RelV y u→r x y H Q →
  wpAny (model X.prog X.w) X.A (f v u) (EP X pins σ Q) X.xe s
def UnR (X:Cx) (f:Value→Sem Value) (r:V→Hp→VK→Prop):Prop :=
 ∀ (pins:List (Addr×Obj)) (s:Shared) (σ:St) (H:Hp) (x:V) (v:Value) (Q:VK),Inv X pins σ H s→RelV x v→r x H Q →
  wpAny (model X.prog X.w) X.A (f v) (EP X pins σ Q) X.xe s
def CallR (X:Cx) (f:Value) (r:List V→Hp→VK→Prop):Prop :=
 ∀ (pins:List (Addr×Obj)) (s:Shared) (σ:St) (H:Hp) (xs:List V) (us:List Value) (Q:VK),Inv X pins σ H s→Vals xs us→r xs H Q →
  wpAny (model X.prog X.w) X.A (call f us) (EP X pins σ Q) X.xe s
def tOp (r:R2) (ta tb:TE):TE:=fun σ H Q=>ta σ H fun x H1=>tb σ H1 fun y H2=>r x y H2 Q
def tUn (r:V→Hp→VK→Prop) (ta:TE):TE:=fun σ H Q=>ta σ H fun x H1=>r x H1 Q
def rI (C:Int→Int→Prop) (g:Int→Int→V):R2:=fun x y H Q=>∃ i j,x=.int i∧y=.int j∧C i j∧Q (g i j) H
def rI0 (g:Int→Int→V):R2:=fun x y H Q=>∃ i j,x=.int i∧y=.int j∧Q (g i j) H
def rU (g:Int→V):V→Hp→VK→Prop:=fun x H Q=>∃ i,x=.int i∧Q (g i) H
section
variable {X:Cx} {a b c:Expr} {ta tb tc:TE} {pos:Pos}
theorem binT (ha:PE X a ta) (hb:PE X b tb) {pins:List (Addr×Obj)} {s:Shared} {σ:St} {H:Hp} {R:V→V→Hp→Prop} (I:Inv X pins σ H s)
  (h:ta σ H fun x H1=>tb σ H1 fun y H2=>R x y H2) {Q:Value→Shared→Prop} {f:Value→Value→Sem Value}
  (hf:∀ v u s2 x y H2,Inv X pins σ H2 s2→RelV x v→RelV y u→R x y H2→wpAny (model X.prog X.w) X.A (f v u) Q X.xe s2) :
  wpAny (model X.prog X.w) X.A (eval a X.env) (fun v s₁=>wpAny (model X.prog X.w) X.A (eval b X.env) (fun u s₂=>wpAny (model X.prog X.w) X.A (f v u) Q X.xe s₂) X.xe s₁) X.xe s:=by
 refine thn (ha pins s σ H _ I h) fun v s1 ⟨x,H1,I1,r1,q1⟩=>?_
 refine thn (hb pins s1 σ H1 _ I1 q1) fun u s2 ⟨y,H2,I2,r2,q2⟩=>?_
 exact hf v u s2 x y H2 I2 r1 r2 q2
theorem pe_op {op:Operator} {r:R2} (ho:OpR X (binaryOp op) r) (ha:PE X a ta) (hb:PE X b tb):PE X (.BinOp a op b pos) (tOp r ta tb):=by
 intro pins s σ H Q I h
 exact wpAny_BinOp (binT ha hb I h fun v u s2 x y H2 I2 rx ry q=>ho pins s2 σ H2 x y v u Q I2 rx ry q)
theorem pe_un {op:UnaryOp} {r:V→Hp→VK→Prop} (ho:UnR X (unaryOp op) r) (ha:PE X a ta):PE X (.UnaryOp op a pos) (tUn r ta):=by
 intro pins s σ H Q I h
 exact UnaryOp_ (thn (ha pins s σ H _ I h) fun v s1 ⟨x,H1,I1,r1,q1⟩=>ho pins s1 σ H1 x v Q I1 r1 q1)
theorem opI {f:Value→Value→Sem Value} {C:Int→Int→Prop} {g:Int→Int→Int}
  (rule:∀ (i j:Int) (t u:Tok) (s:Shared) (Q:Value→Shared→Prop) (E:Value→Shared→Prop),C i j→Q (.int (g i j) s.toks) { s with toks:=s.toks+1 }→wpAny (model X.prog X.w) X.A (f (.int i t) (.int j u)) Q E s) :
  OpR X f (rI C fun i j=>.int (g i j)):=by
 intro pins s σ H x y v u Q I rx ry h
 obtain ⟨i,j,rfl,rfl,hc,q⟩:=h
 obtain ⟨t,rfl⟩:=rx
 obtain ⟨t',rfl⟩:=ry
 exact rule i j t t' s _ _ hc ⟨.int (g i j),H,I.tok _,⟨_,rfl⟩,q⟩
theorem opI0 {f:Value→Value→Sem Value} {g:Int→Int→Int}
  (rule:∀ (i j:Int) (t u:Tok) (s:Shared) (Q:Value→Shared→Prop) (E:Value→Shared→Prop),Q (.int (g i j) s.toks) { s with toks:=s.toks+1 }→wpAny (model X.prog X.w) X.A (f (.int i t) (.int j u)) Q E s) :
  OpR X f (rI0 fun i j=>.int (g i j)):=by
 intro pins s σ H x y v u Q I rx ry h
 obtain ⟨i,j,rfl,rfl,q⟩:=h
 obtain ⟨t,rfl⟩:=rx
 obtain ⟨t',rfl⟩:=ry
 exact rule i j t t' s _ _ ⟨.int (g i j),H,I.tok _,⟨_,rfl⟩,q⟩
theorem opB0 {f:Value→Value→Sem Value} {g:Int→Int→Bool}
  (rule:∀ (i j:Int) (t u:Tok) (s:Shared) (Q:Value→Shared→Prop) (E:Value→Shared→Prop),Q (.bool (g i j)) s→wpAny (model X.prog X.w) X.A (f (.int i t) (.int j u)) Q E s) :
  OpR X f (rI0 fun i j=>.bl (g i j)):=by
 intro pins s σ H x y v u Q I rx ry h
 obtain ⟨i,j,rfl,rfl,q⟩:=h
 obtain ⟨t,rfl⟩:=rx
 obtain ⟨t',rfl⟩:=ry
 exact rule i j t t' s _ _ ⟨.bl (g i j),H,I,rfl,q⟩
def CDiv (i j:Int):Prop:=0 < j∧j < 1073741824
def CPow (i j:Int):Prop:=0≤j∧j≤1000000∧i.natAbs < 2 ^ 64
theorem op_add:OpR X (binaryOp .Add) (rI0 fun i j=>.int (i+j)):=opI0 fun _ _ _ _ _ _ _ q=>add_int q
theorem op_sub:OpR X (binaryOp .Sub) (rI0 fun i j=>.int (i - j)):=opI0 fun _ _ _ _ _ _ _ q=>sub_int q
theorem op_fdiv:OpR X (binaryOp .FloorDiv) (rI CDiv fun i j=>.int (i / j)):=opI fun i j _ _ _ _ _ hc q=>by
 have h1:(0:Int) < j:=hc.1
 have h2:j < 1073741824:=hc.2
 exact floordiv_int (by omega) (by rw [Int.fdiv_eq_ediv_of_nonneg i (by omega)]; exact q) (.inl (PyProof.noPylong_small (by omega)))
theorem op_mod:OpR X (binaryOp .Mod) (rI (fun _ j=>0 < j) fun i j=>.int (i % j)):=opI fun i j _ _ _ _ _ hc q=>by
 have h1:(0:Int) < j:=hc
 exact mod_int' (by omega) (by rw [Int.fmod_eq_emod_of_nonneg i (by omega)]; exact q)
theorem op_pow:OpR X (binaryOp .Pow) (rI CPow fun i j=>.int (i ^ j.toNat)):=opI fun _ _ _ _ _ _ _ hc q=>pow_int_small hc.1 hc.2.1 hc.2.2 q
theorem unI {f:Value→Sem Value} {g:Int→Int}
  (rule:∀ (i:Int) (t:Tok) (s:Shared) (Q:Value→Shared→Prop) (E:Value→Shared→Prop),Q (.int (g i) s.toks) { s with toks:=s.toks+1 }→wpAny (model X.prog X.w) X.A (f (.int i t)) Q E s) :
  UnR X f (rU fun i=>.int (g i)):=by
 intro pins s σ H x v Q I rx h
 obtain ⟨i,rfl,q⟩:=h
 obtain ⟨t,rfl⟩:=rx
 exact rule i t s _ _ ⟨.int (g i),H,I.tok _,⟨_,rfl⟩,q⟩
theorem un_neg:UnR X (unaryOp .USub) (rU fun i=>.int (-i)):=unI fun _ _ _ _ _ q=>neg_int q
end
def scal:V→V→Bool
 | .non,.non=>true | .non,.int _=>true | .int _,.non=>true | .non,.bl _=>true | .bl _,.non=>true | .non,.str _=>true | .str _,.non=>true
 | .int _,.int _=>true | .bl _,.bl _=>true | .str _,.str _=>true | .byt _,.byt _=>true
 | .int _,.str _=>true | .str _,.int _=>true | .bl _,.str _=>true | .str _,.bl _=>true
 | _,_=>false
def rEq:R2:=fun x y H Q=>scal x y=true∧Q (.bl (decide (x=y))) H
def rNe:R2:=fun x y H Q=>scal x y=true∧Q (.bl (!decide (x=y))) H
theorem dec_int {i j:Int}:decide (V.int i=V.int j)=(i == j):=by
 rw [Bool.eq_iff_iff]
 simp
theorem dec_bl {i j:Bool}:decide (V.bl i=V.bl j)=(i == j):=by
 rw [Bool.eq_iff_iff]
 simp
theorem dec_str {i j:Str}:decide (V.str i=V.str j)=(i == j):=by
 rw [Bool.eq_iff_iff]
 simp
theorem dec_byt {i j:Array UInt8}:decide (V.byt i=V.byt j)=(i.toList == j.toList):=by
 rw [Bool.eq_iff_iff]
 cases i
 cases j
 simp
section
variable {X:Cx} {a b c:Expr} {ta tb tc:TE} {pos:Pos}
theorem fin_bl {pins:List (Addr×Obj)} {σ:St} {H:Hp} {s:Shared} {Q:VK} {k k':Bool} (I:Inv X pins σ H s) (q:Q (.bl k) H) (e:k=k'):EP X pins σ Q (.bool k') s:=by
 subst e
 exact ⟨.bl k,H,I,rfl,q⟩
theorem op_eq:OpR X (compareOp .Eq) rEq:=by
 intro pins s σ H x y v u Q I rx ry h
 obtain ⟨hs,q⟩:=h
 cases x with
 | non =>
  cases rx
  cases y with
  | non=>cases ry; exact PySem.EqNone.eq_none_none (fin_bl I q (by simp))
  | bl j=>cases ry; exact PySem.EqNone.eq_none_bool (fin_bl I q (by simp))
  | int j=>obtain ⟨t',rfl⟩:=ry; exact PySem.EqNone.eq_none_int (fin_bl I q (by simp))
  | str j=>obtain ⟨t',rfl⟩:=ry; exact PySem.EqNone.eq_none_str (fin_bl I q (by simp))
  | _=>exact absurd (show false=true from hs) Bool.false_ne_true
 | bl i =>
  cases rx
  cases y with
  | non=>cases ry; exact PySem.EqNone.eq_bool_none (fin_bl I q (by simp))
  | bl j=>cases ry; exact eq_bool (fin_bl I q dec_bl)
  | str j=>obtain ⟨t',rfl⟩:=ry; exact PySem.EqMixed.eq_bool_str (fin_bl I q (by simp))
  | _=>exact absurd (show false=true from hs) Bool.false_ne_true
 | int i =>
  obtain ⟨t,rfl⟩:=rx
  cases y with
  | non=>cases ry; exact PySem.EqNone.eq_int_none (fin_bl I q (by simp))
  | int j=>obtain ⟨t',rfl⟩:=ry; exact eq_int (fin_bl I q dec_int)
  | str j=>obtain ⟨t',rfl⟩:=ry; exact PySem.EqMixed.eq_int_str (fin_bl I q (by simp))
  | _=>exact absurd (show false=true from hs) Bool.false_ne_true
 | str i =>
  obtain ⟨t,rfl⟩:=rx
  cases y with
  | non=>cases ry; exact PySem.EqNone.eq_str_none (fin_bl I q (by simp))
  | bl j=>cases ry; exact PySem.EqMixed.eq_str_bool (fin_bl I q (by simp))
  | int j=>obtain ⟨t',rfl⟩:=ry; exact PySem.EqMixed.eq_str_int (fin_bl I q (by simp))
  | str j=>obtain ⟨t',rfl⟩:=ry; exact eq_str (fin_bl I q dec_str)
  | _=>exact absurd (show false=true from hs) Bool.false_ne_true
 | byt i =>
  obtain ⟨t,rfl⟩:=rx
  cases y with
  | byt j=>obtain ⟨t',rfl⟩:=ry; exact W.eq_bytes (fin_bl I q dec_byt)
  | _=>exact absurd (show false=true from hs) Bool.false_ne_true
 | _=>cases y <;> exact absurd (show false=true from hs) Bool.false_ne_true
theorem op_ne:OpR X (compareOp .NotEq) rNe:=by
 intro pins s σ H x y v u Q I rx ry h
 obtain ⟨hs,q⟩:=h
 cases x with
 | non =>
  cases rx
  cases y with
  | non=>cases ry; exact PySem.EqNone.ne_none_none (fin_bl I q (by simp))
  | bl j=>cases ry; exact PySem.EqNone.ne_none_bool (fin_bl I q (by simp))
  | int j=>obtain ⟨t',rfl⟩:=ry; exact PySem.EqNone.ne_none_int (fin_bl I q (by simp))
  | str j=>obtain ⟨t',rfl⟩:=ry; exact PySem.EqNone.ne_none_str (fin_bl I q (by simp))
  | _=>exact absurd (show false=true from hs) Bool.false_ne_true
 | bl i =>
  cases rx
  cases y with
  | non=>cases ry; exact PySem.EqNone.ne_bool_none (fin_bl I q (by simp))
  | bl j=>cases ry; exact ne_bool (fin_bl I q (congrArg not dec_bl))
  | str j=>obtain ⟨t',rfl⟩:=ry; exact PySem.EqMixed.ne_bool_str (fin_bl I q (by simp))
  | _=>exact absurd (show false=true from hs) Bool.false_ne_true
 | int i =>
  obtain ⟨t,rfl⟩:=rx
  cases y with
  | non=>cases ry; exact PySem.EqNone.ne_int_none (fin_bl I q (by simp))
  | int j=>obtain ⟨t',rfl⟩:=ry; exact ne_int (fin_bl I q (congrArg not dec_int))
  | str j=>obtain ⟨t',rfl⟩:=ry; exact PySem.EqMixed.ne_int_str (fin_bl I q (by simp))
  | _=>exact absurd (show false=true from hs) Bool.false_ne_true
 | str i =>
  obtain ⟨t,rfl⟩:=rx
  cases y with
  | non=>cases ry; exact PySem.EqNone.ne_str_none (fin_bl I q (by simp))
  | bl j=>cases ry; exact PySem.EqMixed.ne_str_bool (fin_bl I q (by simp))
  | int j=>obtain ⟨t',rfl⟩:=ry; exact PySem.EqMixed.ne_str_int (fin_bl I q (by simp))
  | str j=>obtain ⟨t',rfl⟩:=ry; exact ne_str (fin_bl I q (congrArg not dec_str))
  | _=>exact absurd (show false=true from hs) Bool.false_ne_true
 | byt i =>
  obtain ⟨t,rfl⟩:=rx
  cases y with
  | byt j=>obtain ⟨t',rfl⟩:=ry; exact W.ne_bytes (fin_bl I q (congrArg not dec_byt))
  | _=>exact absurd (show false=true from hs) Bool.false_ne_true
 | _=>cases y <;> exact absurd (show false=true from hs) Bool.false_ne_true
theorem op_lt:OpR X (compareOp .Lt) (rI0 fun i j=>.bl (decide (i < j))):=opB0 fun _ _ _ _ _ _ _ q=>lt_int q
theorem op_le:OpR X (compareOp .LtE) (rI0 fun i j=>.bl (decide (i≤j))):=opB0 fun _ _ _ _ _ _ _ q=>le_int q
theorem op_gt:OpR X (compareOp .Gt) (rI0 fun i j=>.bl (decide (j < i))):=opB0 fun _ _ _ _ _ _ _ q=>gt_int q
theorem op_in_str:OpR X (compareOp .In) (fun x y H Q=>∃ i j,x=.str i∧y=.str j∧Q (.bl (!(Builtin.Str.occurrences j i 0 j.length 1).isEmpty)) H):=by
 intro pins s σ H x y v u Q I rx ry h
 obtain ⟨i,j,rfl,rfl,q⟩:=h
 obtain ⟨t,rfl⟩:=rx
 obtain ⟨t',rfl⟩:=ry
 exact in_str (fin_bl I q rfl)
def isObj:HO→Bool
 | .lst _=>true
 | .ins _ _ _=>true
 | _=>false
theorem obj_there {pins:List (Addr×Obj)} {s:Shared} {σ:St} {H:Hp} {a:Addr} {o:HO} (I:Inv X pins σ H s) (h:H a=some o) (p:isObj o=true):∃ ob,s.heap.get? a=some ob∧ob.cls≠.type "tuple":=by
 cases o with
 | lst xs =>
  obtain ⟨_,its,n,_,e⟩:xs.length≤sizeLine∧∃ (its:List Value) (n:Nat),Vals xs its∧s.heap.get? a=some { cls:=.type "list",data:=.seq its.toArray n }:=I.hok a _ h
  exact ⟨_,e,(by show Value.type "list"≠.type "tuple"; decide +kernel)⟩
 | ins C dx fs =>
  have x:=I.hok a _ h
  obtain ⟨_,_,_,e,_⟩:=x
  exact ⟨_,e,(by show Value.ref C≠.type "tuple"; exact fun z=>by cases z)⟩
 | _=>exact absurd (show false=true from p) Bool.false_ne_true
theorem nomark (b:Expr) {op:CmpOp} (h:op≠.In:=by decide) (h2:op≠.NotIn:=by decide):behindInMarks op b=false:=by
 have e1:(op == CmpOp.In)=false:=by cases op <;> first | rfl | exact absurd rfl h
 have e2:(op == CmpOp.NotIn)=false:=by cases op <;> first | rfl | exact absurd rfl h2
 cases b <;> simp [behindInMarks,e1,e2]
theorem pe_cmpR {op:CmpOp} {r:R2} (ho:OpR X (compareOp op) r) (ha:PE X a ta) (hb:PE X b tb) (hm:behindInMarks op b=false):PE X (.Compare a [op] [b] pos) (tOp r ta tb):=by
 intro pins s σ H Q I h
 exact wpAny_Compare1 (binT ha hb I h fun v u s2 x y H2 I2 rx ry q=>ho pins s2 σ H2 x y v u Q I2 rx ry q) hm
def tTest (t:TE):TT:=fun σ H Q=>t σ H fun x H'=>∃ k,x=.bl k∧Q k H'
theorem pt_cmpR {op:CmpOp} {r:R2} (ho:OpR X (compareOp op) r) (ha:PE X a ta) (hb:PE X b tb) (hm:behindInMarks op b=false):PT X (.Compare a [op] [b] pos) (tTest (tOp r ta tb)):=by
 intro pins s σ H Q I h
 refine wpAny_isTrue_Compare1 (thn (ha pins s σ H _ I h) fun v s1 ⟨x,H1,I1,r1,q1⟩=>thn (hb pins s1 σ H1 _ I1 q1) fun u s2 ⟨y,H2,I2,r2,q2⟩ =>
  thn (ho pins s2 σ H2 x y v u _ I2 r1 r2 q2) fun c s3 ⟨z,H3,I3,r3,k,e,q3⟩=>?_) hm
 subst e
 cases r3
 exact wpAny_truthy_bool ⟨H3,I3,q3⟩
def tChain (r r':R2) (ta tb tc:TE):TE:=fun σ H Q=>ta σ H fun x H1=>tb σ H1 fun y H2=>r x y H2 fun z H3=>∃ k,z=.bl k ∧
 (if k=true then tc σ H3 fun w' H4=>r' y w' H4 Q else Q (.bl false) H3)
theorem pe_chain {op op':CmpOp} {r r':R2} (ho:OpR X (compareOp op) r) (ho':OpR X (compareOp op') r') (ha:PE X a ta) (hb:PE X b tb) (hc:PE X c tc)
  (hm:lastMarks [op,op'] [b,c]=false:=by with_unfolding_all rfl):PE X (.Compare a [op,op'] [b,c] pos) (tChain r r' ta tb tc):=by
 intro pins s σ H Q I h
 refine Compare_chain (thn (ha pins s σ H _ I h) fun v s1 ⟨x,H1,I1,r1,q1⟩=>chain_link (thn (hb pins s1 σ H1 _ I1 q1) fun u s2 ⟨y,H2,I2,r2,q2⟩ =>
  thn (ho pins s2 σ H2 x y v u _ I2 r1 r2 q2) fun d s3 ⟨z,H3,I3,r3,k,e,q3⟩=>?_)) hm
 subst e
 cases r3
 refine wpAny_truthy_bool ?_
 cases k with
 | false=>exact ite_ff ⟨.bl false,H3,I3,rfl,q3⟩
 | true=>exact ite_tt (chain_last (thn (hc pins s3 σ H3 _ I3 q3) fun w' s4 ⟨z',H4,I4,r4,q4⟩=>ho' pins s4 σ H4 y z' u w' Q I4 r2 r4 q4))
theorem pt_chain {op op':CmpOp} {r r':R2} (ho:OpR X (compareOp op) r) (ho':OpR X (compareOp op') r') (ha:PE X a ta) (hb:PE X b tb) (hc:PE X c tc)
  (hm:lastMarks [op,op'] [b,c]=false:=by with_unfolding_all rfl):PT X (.Compare a [op,op'] [b,c] pos) (tTest (tChain r r' ta tb tc)):=by
 intro pins s σ H Q I h
 refine isTrue_chain (thn (ha pins s σ H _ I h) fun v s1 ⟨x,H1,I1,r1,q1⟩=>test_link (thn (hb pins s1 σ H1 _ I1 q1) fun u s2 ⟨y,H2,I2,r2,q2⟩ =>
  thn (ho pins s2 σ H2 x y v u _ I2 r1 r2 q2) fun d s3 ⟨z,H3,I3,r3,k,e,q3⟩=>?_)) hm
 subst e
 cases r3
 refine wpAny_truthy_bool ?_
 cases k with
 | false =>
  obtain ⟨k',e',q'⟩:=q3
  cases e'
  exact ite_ff ⟨H3,I3,q'⟩
 | true =>
  refine ite_tt (test_last (thn (hc pins s3 σ H3 _ I3 q3) fun w' s4 ⟨z',H4,I4,r4,q4⟩=>thn (ho' pins s4 σ H4 y z' u w' _ I4 r2 r4 q4) fun d' s5 ⟨z2,H5,I5,r5,k2,e2,q5⟩=>?_))
  subst e2
  cases r5
  exact wpAny_truthy_bool ⟨H5,I5,q5⟩
theorem line63:(sizeLine:Nat) < 2 ^ 63:=by rw [sizeLine_eq]; decide
theorem op_add_str:OpR X (binaryOp .Add) (fun x y H Q=>∃ i j,x=.str i∧y=.str j∧i.length+j.length≤sizeLine∧Q (.str (i ++ j)) H):=by
 intro pins s σ H x y v u Q I rx ry h
 obtain ⟨i,j,rfl,rfl,hz,q⟩:=h
 obtain ⟨t,rfl⟩:=rx
 obtain ⟨t',rfl⟩:=ry
 exact add_str (fun t' tk=>⟨.str (i ++ j),H,I.tok _,⟨_,rfl⟩,q⟩) hz
theorem iop_add_str:OpR X (inplaceOp .Add) (fun x y H Q=>∃ i j,x=.str i∧y=.str j∧i.length+j.length≤sizeLine∧Q (.str (i ++ j)) H):=by
 intro pins s σ H x y v u Q I rx ry h
 obtain ⟨i,j,rfl,rfl,hz,q⟩:=h
 obtain ⟨t,rfl⟩:=rx
 obtain ⟨t',rfl⟩:=ry
 exact iadd_str (fun t' tk=>⟨.str (i ++ j),H,I.tok _,⟨_,rfl⟩,q⟩) hz
theorem vals1 {x:V} {us:List Value} (r:Vals [x] us):∃ u,us=[u]∧RelV x u:=by
 cases r with
 | cons r1 r2=>cases r2; exact ⟨_,rfl,r1⟩
theorem vals2 {x y:V} {us:List Value} (r:Vals [x,y] us):∃ u w',us=[u,w']∧RelV x u∧RelV y w':=by
 cases r with
 | cons r1 r2 =>
  cases r2 with
  | cons r3 r4=>cases r4; exact ⟨_,_,rfl,r1,r3⟩
theorem call_min2 (hc:X.calm=true):CallR X (.builtin "min") (fun xs H Q=>∃ i j,xs=[.int i,.int j]∧Q (.int (if j < i then j else i)) H):=by
 intro pins s σ H xs us Q I r h
 obtain ⟨i,j,rfl,q⟩:=h
 obtain ⟨u,w',rfl,⟨t,rfl⟩,⟨t',rfl⟩⟩:=vals2 r
 refine min_two_ints (I.ok.hd hc) fun h' tk k=>⟨_,H,I.kept k,?_,q⟩
 by_cases hj:j < i
 · rw [if_pos hj,if_pos hj]; exact ⟨_,rfl⟩
 · rw [if_neg hj,if_neg hj]; exact ⟨_,rfl⟩
end
section
variable {prog:Program} {w:World} {A:Around} {E:Value→Shared→Prop} {s:Shared} {K:W.Frag} {x dx C f:Addr} {mA:Str→Option Value} {name:Str} {v:Value}
end
section
variable {P:Program} {w:World} {H H':Hp} {h h':Heap} {a C dx:Addr} {fs fs':List (Str×V)}
end
section
variable {X:Cx} {pins:List (Addr×Obj)} {σ:St} {H:Hp} {s:Shared} {a C dx:Addr} {fs:List (Str×V)} {f:Str} {v:V} {A:Around} {E:Value→Shared→Prop}
end
section
variable {X:Cx} {o e value:Expr} {f:Str} {pos pos' tpos:Pos} {ta tv:TE}
end
section
variable {X:Cx} {pins:List (Addr×Obj)} {σ:St} {H:Hp} {s:Shared} {A:Around} {E:Value→Shared→Prop} {Q:Value→Shared→Prop} {c:Value} {b:Bool}
end
structure Room (k:Nat) (A:Around):Prop where
 hd:A.handled=none
 dp:A.depth+3 * k+5 < recursionLimit
 un:A.units+16 * k+200 < cLine
theorem Room.mono {j k:Nat} {A:Around} (r:Room k A) (h:j≤k):Room j A:=⟨r.hd,by have:=r.dp; omega,by have:=r.un; omega⟩
theorem Room.deeper {k:Nat} {A:Around} (r:Room (k+1) A) (env:Env):Room k (A.deeper env) :=
 ⟨r.hd,by have:=r.dp; show A.depth+1+3 * k+5 < _; omega,by have:=r.un; show A.units+3+16 * k+200 < _; omega⟩
theorem Room.depth {k:Nat} {A:Around} (r:Room k A):A.depth < recursionLimit:=by have:=r.dp; omega
def tNil:TA:=fun _ H Q=>Q [] H
def tCons (ta:TE) (tr:TA):TA:=fun σ H Q=>ta σ H fun x H1=>tr σ H1 fun xs H2=>Q (x::xs) H2
section
variable {X:Cx} {e:Expr} {es:List Expr} {te:TE} {t:TA} {pos:Pos}
theorem pa_nil:PA X [] tNil:=fun _ _ _ _ H Q I h=>Calls.spliced_nil ⟨[],H,I,.nil,h⟩
theorem pa_cons (ha:PE X e te) (hr:PA X es t) (hs:starEach (e::es) X.env=(false,eval e X.env)::starEach es X.env:=by rfl):PA X (e::es) (tCons te t):=by
 intro pos pins s σ H Q I h
 rw [hs]
 show wpAny _ _ (spliced ((false,eval e X.env)::backTo pos (starEach es X.env))) _ _ s
 refine Calls.spliced_cons (thn (ha pins s σ H _ I h) fun u s1 ⟨x,H1,I1,r1,q1⟩=>?_)
 exact thn (hr pos pins s1 σ H1 _ I1 q1) fun us s2 ⟨xs,H2,I2,r2,q2⟩=>⟨x::xs,H2,I2,.cons r1 r2,q2⟩
def tTup (t:TA):TE:=fun σ H Q=>t σ H fun xs H1=>xs.length≤sizeLine∧∀ p,H1 p=none→Q (.ref p) (upd H1 p (.tup xs))
def tLst (t:TA):TE:=fun σ H Q=>t σ H fun xs H1=>xs.length≤sizeLine∧∀ p,H1 p=none→Q (.ref p) (upd H1 p (.lst xs))
theorem pe_tup {x1} (h:PA X es t):PE X (.Tuple es x1 pos) (tTup t):=by
 intro pins s σ H Q I hq
 refine wpAny_Tuple_spliced (thn (h pos pins s σ H _ I hq) fun us s1 ⟨xs,H1,I1,r,z,q⟩=>⟨by rw [←r.length]; exact z,?_⟩)
 have hf:H1 s1.heap.objs.size=none:=I1.hok.fresh (Nat.le_refl _)
 refine ⟨.ref s1.heap.objs.size,upd H1 s1.heap.objs.size (.tup xs),I1.laid (t':=s1.toks) (fun b u e=>Heap.get?_push_of_some _ e) (Nat.le_refl _) ?_,rfl,q _ hf⟩
 exact ⟨z,us,r,⟨_,Heap.get?_push_size _ rfl,rfl,_,rfl⟩⟩
theorem pe_lst (h:PA X es t):PE X (.List es pos) (tLst t):=by
 intro pins s σ H Q I hq
 refine wpAny_List_spliced (thn (h pos pins s σ H _ I hq) fun us s1 ⟨xs,H1,I1,r,z,q⟩=>⟨by rw [←r.length]; exact z,?_⟩)
 have hf:H1 s1.heap.objs.size=none:=I1.hok.fresh (Nat.le_refl _)
 refine ⟨.ref s1.heap.objs.size,upd H1 s1.heap.objs.size (.lst xs),I1.laid (t':=s1.toks) (fun b u e=>Heap.get?_push_of_some _ e) (Nat.le_refl _) ?_,rfl,q _ hf⟩
 exact ⟨z,us,0,r,Heap.get?_push_size _ rfl⟩
end
abbrev Sp:=List V→Hp→VK→XK→Prop
abbrev CXT:=List Env→Hp→Shared→XK→Value→Shared→Prop
structure Env0 (P:Program) (w:World) (K:W.Frag) (mg:Str→Option Value) (base:Heap) (A:Around) (outer:List Env) (s:Shared) (H:Hp):Prop where
 frames:A.frames=some outer
 mod:Mod K mg base
 bs:∀ b o,base.get? b=some o→s.heap.get? b=some o∧H b=none
 bsz:base.objs.size≤s.heap.objs.size
 funs:s.heap.FunFrames base outer
 frf:∀ b∈frs outer,H b=none
 hok:HOk P w H s.heap
 bare:AllBare s.gens
def CE (outer:List Env) (P:Program) (w:World) (H:Hp) (s:Shared) (Q:VK) (u:Value) (s':Shared):Prop :=
 ∃ v H',s'.os=s.os∧AllBare s'.gens∧Un (frs outer) [] H H' s.heap s'.heap∧HOk P w H' s'.heap∧RelV v u∧Q v H'
def CR (CX:CXT) (outer:List Env) (P:Program) (w:World) (H:Hp) (s:Shared) (Q:VK) (E:XK) (r:Result) (s':Shared):Prop :=
 match r with
 | .ok (.ret u)=>CE outer P w H s Q u s'
 | .ok _=>False
 | .error e=>CX outer H s E e s'
structure FnOk (P:Program) (w:World) (K:W.Frag) (mg:Str→Option Value) (base:Heap) (CX:CXT) (k:Nat) (f:Addr) (fd:FuncData) (ps:List Str) (sp:Sp):Prop where
 len:∀ vs H Q E,sp vs H Q E→vs.length=ps.length
 run:∀ (A:Around) (outer:List Env) (s:Shared) (H:Hp) (args:Args) (us:List Value) (vs:List V) (Q:VK) (E:XK),Room k A→Env0 P w K mg base A outer s H→BindsTo s fd args (ps.zip us)→Vals vs us→sp vs H Q E →
  codeAny (model P w) A (.call (.ref f) args) (CR CX outer P w H s Q E) s
theorem FnOk.imp {P:Program} {w:World} {K:W.Frag} {mg:Str→Option Value} {base:Heap} {CX:CXT} {k:Nat} {f:Addr} {fd:FuncData} {ps:List Str} {sp sp':Sp} (F:FnOk P w K mg base CX k f fd ps sp)
  (h:∀ vs H Q E,sp' vs H Q E→sp vs H Q E):FnOk P w K mg base CX k f fd ps sp' :=
 ⟨fun vs H Q E q=>F.len vs H Q E (h _ _ _ _ q),fun A outer s H args us vs Q E hr he hb hv hs=>F.run A outer s H args us vs Q E hr he hb hv (h _ _ _ _ hs)⟩
section
variable {X:Cx} {pins:List (Addr×Obj)} {σ:St} {H:Hp} {s s':Shared}
theorem Inv.env0 (I:Inv X pins σ H s):Env0 X.prog X.w X.K X.mg X.base X.A X.stack s H :=
 ⟨I.ok.frames,I.ok.mod,I.bs,Nat.le_trans I.ok.bsz I.sz,I.stack,I.stkFree,I.hok,I.bare⟩
theorem Inv.after {Q:VK} {u:Value} (I:Inv X pins σ H s) (h:CE X.stack X.prog X.w H s Q u s'):EP X pins σ Q u s':=by
 obtain ⟨v,H',os,bare,un,hok,r,q⟩:=h
 obtain ⟨hh,g,d,t,os'⟩:=s'
 obtain rfl:os'=s.os:=os
 exact ⟨v,H',I.call (h':=hh) (g':=g) (d':=d) (t':=t) (ch:=[]) un hok bare (fun b z=>absurd z (by simp)),r,q⟩
end
def tCall (sp:Sp) (dvs:List V) (E:XK) (t:TA):TE:=fun σ H Q=>t σ H fun vs H1=>sp (vs ++ dvs) H1 Q E
def Binds (K:W.Frag) (fd:FuncData) (ps:List Str) (ds:List Value):Prop :=
 ∀ (s:Shared) (us:List Value),K.In s.heap→(us ++ ds).length=ps.length→BindsTo s fd ⟨us,[]⟩ (ps.zip (us ++ ds))
theorem Binds.all {K:W.Frag} {fd:FuncData} {ps:List Str} (h:∀ us:List Value,us.length=ps.length→bindArgs fd ⟨us,[]⟩=pure (ps.zip us)):Binds K fd ps []:=fun s us _ hl=>by
 rw [List.append_nil] at hl ⊢
 exact .of_eq (h us hl)
def Passes (CX:CXT) (X:Cx) (E:XK):Prop:=∀ (pins:List (Addr×Obj)) (σ:St) (H:Hp) (s:Shared) (e:Value) (s':Shared),Inv X pins σ H s→CX X.stack H s E e s'→X.xe e s'
section
variable {X:Cx} {CX:CXT} {k:Nat} {f C:Addr} {fd:FuncData} {ps:List Str} {sp:Sp} {dvs:List V} {ds:List Value} {E:XK} {x m:Str} {p pos apos:Pos} {e o:Expr} {es:List Expr} {ta:TE} {t:TA}
theorem run_fn {pins:List (Addr×Obj)} {σ:St} {H:Hp} {s:Shared} {Q:VK} {us:List Value} {vs:List V} (F:FnOk X.prog X.w X.K X.mg X.base CX k f fd ps sp) (hr:Room k X.A) (hb:Binds X.K fd ps ds) (hd:Vals dvs ds) (hx:Passes CX X E)
  (I:Inv X pins σ H s) (r:Vals vs us) (h:sp (vs ++ dvs) H Q E):wpAny (model X.prog X.w) X.A (call (.ref f) us) (EP X pins σ Q) X.xe s:=by
 have r2:Vals (vs ++ dvs) (us ++ ds):=r.append hd
 have hl:(us ++ ds).length=ps.length:=by rw [←r2.length]; exact F.len _ _ _ _ h
 refine wpAny_call (codeAny_mono (F.run X.A X.stack s H ⟨us,[]⟩ (us ++ ds) (vs ++ dvs) Q E hr I.env0 (hb s us I.kIn hl) r2 h) fun r s' hq=>?_)
 cases r with
 | error e=>exact hx pins σ H s e s' I hq
 | ok fl =>
  cases fl with
  | ret u=>exact I.after hq
  | next=>exact False.elim hq
  | brk=>exact False.elim hq
  | cont=>exact False.elim hq
theorem pe_call (F:FnOk X.prog X.w X.K X.mg X.base CX k f fd ps sp) (hr:Room k X.A) (hg:Gl X x) (hm:X.mg x=some (.ref f)) (hk:W.keepIn X.K (.ref f)=true) (hb:Binds X.K fd ps ds) (hd:Vals dvs ds) (hx:Passes CX X E)
  (ha:PA X (e::es) t) (hdb:(x == ("__debug__":Str))=false:=by decide) (he:starEach (e::es) X.env=(false,eval e X.env)::starEach es X.env:=by rfl) (hpl:(backTo pos (starEach es X.env)).any (·.1)=false:=by rfl) :
  PE X (.Call (.Name x p) (e::es) [] pos) (tCall sp dvs E t):=by
 intro pins s σ H Q I h
 refine wpAny_Call_Name_kw (ld_glob I hg hm ?_ hdb)
 refine W.callWith_K (h₀:=X.base) I.ok.mod.kin hk (thn (ha pos pins s σ H _ I h) fun us s1 ⟨vs,H1,I1,r,q⟩=>⟨I1.kIn,?_⟩) he hpl
 exact run_fn F hr hb hd hx I1 r q
end
def PK (X:Cx) (kws:List Keyword) (t:TA):Prop :=
 ∀ (pos:Pos) (pins:List (Addr×Obj)) (s:Shared) (σ:St) (H:Hp) (Q:List V→Hp→Prop),Inv X pins σ H s→t σ H Q→wpAny (model X.prog X.w) X.A (evalAll ((backToKw pos (keywordEach kws X.env)).map (·.2))) (AP X pins σ Q) X.xe s
section
variable {X:Cx} {CX:CXT} {k:Nat} {f C:Addr} {fd:FuncData} {ps ks:List Str} {sp:Sp} {E:XK} {x m:Str} {p pos apos kpos:Pos} {e o:Expr} {es:List Expr} {kws:List Keyword} {te ta:TE} {t tk:TA} {nm:Option Str}
theorem pk_nil:PK X [] tNil:=fun _ _ _ _ H Q I h=>wpAny_evalAll_nil ⟨[],H,I,.nil,h⟩
theorem pk_cons (ha:PE X e te) (hr:PK X kws t):PK X (⟨nm,e,kpos⟩::kws) (tCons te t):=by
 intro pos pins s σ H Q I h
 show wpAny _ _ (evalAll ((do let v ← eval e X.env; standAt pos; pure v)::(backToKw pos (keywordEach kws X.env)).map (·.2))) _ _ s
 refine wpAny_evalAll_cons (wpAny_bind (thn (ha pins s σ H _ I h) fun u s1 ⟨x,H1,I1,r1,q1⟩=>wpAny_bind (wpAny_standAt (wpAny_pure ?_))))
 exact thn (hr pos pins s1 σ H1 _ I1 q1) fun us s2 ⟨xs,H2,I2,r2,q2⟩=>⟨x::xs,H2,I2,.cons r1 r2,q2⟩
variable {g:List Value→List Value→List Value} {gV:List V→List V→List V}
end
structure FnScope (N P:List Str) (sc:Scope):Prop where
 kind:sc.kind=.function
 co:sc.isCoroutine=false
 gen:sc.isGenerator=false
 nd:N.Nodup
 pre:N.take P.length=P
 par:∀ x∈P,sc.names.lookup x=some .local∨sc.names.lookup x=some .cell
 nofree:∀ y∈sc.names,y.2≠.free
theorem bindL_out {kindOf:Str→Option NameKind} {x:Str}:∀ {binds:List (Str×Value)} {m:Str→Option Value},(∀ v,(x,v)∉binds)→bindL kindOf binds m x=m x
 | [],_,_=>rfl
 | (n,v)::r,m,h=>by
  unfold bindL
  rw [bindL_out fun w hw=>h w (List.mem_cons_of_mem _ hw)]
  split
  · have:x≠n:=by rintro rfl; exact h v List.mem_cons_self
    simp [this]
  · rfl
theorem bindC_out {kindOf:Str→Option NameKind} {x:Str}:∀ {binds:List (Str×Value)} {m:Str→Option Value},(∀ v,(x,v)∉binds)→bindC kindOf binds m x=m x
 | [],_,_=>rfl
 | (n,v)::r,m,h=>by
  unfold bindC
  rw [bindC_out fun w hw=>h w (List.mem_cons_of_mem _ hw)]
  split
  · rfl
  · have:x≠n:=by rintro rfl; exact h v List.mem_cons_self
    simp [this]
theorem bindL_get {kindOf:Str→Option NameKind} {x:Str} {v:Value}:∀ {P:List Str} {vs:List Value} {i:Nat} {m:Str→Option Value},P.Nodup→P[i]? = some x→vs[i]? = some v→kindOf x=some .local →
  bindL kindOf (P.zip vs) m x=some v
 | [],_,_,_,_,h,_,_=>by simp at h
 | _::_,[],_,_,_,_,h,_=>by simp at h
 | p::P,w::vs,0,m,nd,h1,h2,hk=>by
  simp at h1 h2; subst h1; subst h2
  show bindL kindOf ((p,w)::P.zip vs) m p=_
  unfold bindL
  rw [bindL_out fun v hv=>(List.nodup_cons.mp nd).1 (List.of_mem_zip hv).1,if_pos hk]
  simp
 | p::P,w::vs,i+1,m,nd,h1,h2,hk=>by
  show bindL kindOf ((p,w)::P.zip vs) m x=_
  unfold bindL
  exact bindL_get (i:=i) (List.nodup_cons.mp nd).2 (by simpa using h1) (by simpa using h2) hk
theorem bindC_get {kindOf:Str→Option NameKind} {x:Str} {v:Value}:∀ {P:List Str} {vs:List Value} {i:Nat} {m:Str→Option Value},P.Nodup→P[i]? = some x→vs[i]? = some v→kindOf x≠some .local →
  bindC kindOf (P.zip vs) m x=some v
 | [],_,_,_,_,h,_,_=>by simp at h
 | _::_,[],_,_,_,_,h,_=>by simp at h
 | p::P,w::vs,0,m,nd,h1,h2,hk=>by
  simp at h1 h2; subst h1; subst h2
  show bindC kindOf ((p,w)::P.zip vs) m p=_
  unfold bindC
  rw [bindC_out fun v hv=>(List.nodup_cons.mp nd).1 (List.of_mem_zip hv).1,if_neg hk]
  simp
 | p::P,w::vs,i+1,m,nd,h1,h2,hk=>by
  show bindC kindOf ((p,w)::P.zip vs) m x=_
  unfold bindC
  exact bindC_get (i:=i) (List.nodup_cons.mp nd).2 (by simpa using h1) (by simpa using h2) hk
def start (N:List Str) (vs:List V):St:=vs.map some ++ List.replicate (N.length - vs.length) none
def cxOf (CX:CXT) (P:Program) (w:World) (K:W.Frag) (mg:Str→Option Value) (base:Heap) (N:List Str) (qual:Str) (scope:Scope) (f:Addr) (cd:Value) (A:Around) (outer:List Env) (s:Shared) (H:Hp) (E:XK):Cx where
 prog:=P
 w:=w
 K:=K
 mg:=mg
 base:=base
 A:=A.deeper (envOfC qual scope s.heap.objs.size f cd)
 N:=N
 s₀:=s
 H₀:=H
 env:=envOfC qual scope s.heap.objs.size f cd
 outer:=outer
 stack:=envOfC qual scope s.heap.objs.size f cd::outer
 ex:=[]
 calm:=true
 fn:=fun _=>true
 pn:=[]
 xe:=fun e s'=>wpAny (model P w) (A.deeper (envOfC qual scope s.heap.objs.size f cd)) (leaving (envOfC qual scope s.heap.objs.size f cd) e) (fun _ s''=>CX outer H s E e s'') (fun e' s''=>CX outer H s E e' s'') s'
theorem cell_has {sc:Scope} {n:Nat} {x:Str} (h:sc.names.lookup x=some .cell):∃ c,(cellsFrom n sc.names []).lookup x=some c:=by
 have q:=W.cellsFrom_some sc.names n [] (.inl h)
 exact Option.isSome_iff_exists.mp q
theorem inv_start {CX:CXT} {P:Program} {w:World} {K:W.Frag} {mg:Str→Option Value} {base:Heap} {N ps:List Str} {qual:Str} {scope:Scope} {f:Addr} {cd:Value} {A:Around} {outer:List Env} {s s1:Shared} {H:Hp} {E:XK} {us:List Value} {vs:List V}
  (S:FnScope N ps scope) (hd:A.handled=none) (e0:Env0 P w K mg base A outer s H) (hl:vs.length=ps.length) (r:Vals vs us)
  (x:InCallC s s.heap.objs.size (bindL (envOfC qual scope s.heap.objs.size f cd).kindOf (ps.zip us) fun _=>none) (cellsFrom (s.heap.objs.size+1) scope.names []) (bindC (envOfC qual scope s.heap.objs.size f cd).kindOf (ps.zip us) fun _=>none) s1) :
  Inv (cxOf CX P w K mg base N qual scope f cd A outer s H E) [] (start N vs) H s1:=by
 have hpl:ps.length≤N.length:=by have:=congrArg List.length S.pre; rw [List.length_take] at this; omega
 obtain ⟨h1,tk,rfl,hk⟩:=x.done
 have noA:∀ b:Addr,b∉(cxOf CX P w K mg base N qual scope f cd A outer s H E).ex:=fun b z=>absurd (show b∈([]:List Addr) from z) (by simp)
 refine ⟨⟨e0.mod,S.kind,rfl,rfl,Nat.le_refl _,fun y z c h1 h2=>?_,fun y hy=>?_,fun y c _ h=>?_,fun _=>hd,Around.frames_deeper e0.frames,.inr ⟨rfl,rfl⟩,fun b z=>absurd z (noA b),e0.bs,e0.bsz,fun b _ _=>noA b,fun b z=>absurd z (noA b),e0.funs,e0.frf⟩,
  rfl,e0.bare,Un.kept hk,⟨_,x.toInCall.ns,fun i y v h1 h2 h3=>?_⟩,fun y c h=>⟨_,x.cell y c h⟩,e0.hok.fresh (Nat.le_refl _),fun y c h=>?_,fun p hp=>absurd (show p∈([]:List (Addr×Obj)) from hp) (by simp),e0.hok.kept hk,?_⟩
 · exact name_of_addr x.apart (PySem.mem_of_lookup h1) (PySem.mem_of_lookup h2)
 · have hy:scope.names.lookup y=some .cell∨scope.names.lookup y=some .free:=hy
   rcases hy with hy | hy
   · exact cell_has hy
   · exact absurd rfl (S.nofree _ (PySem.mem_of_lookup hy))
 · exact Nat.le_of_lt (x.above y c (PySem.mem_of_lookup h))
 · have hi:i < vs.length:=by
    unfold start at h2
    by_cases hi:i < vs.length
    · exact hi
    · rw [List.getElem?_append_right (by simpa using hi)] at h2
      rw [List.getElem?_replicate] at h2
      split at h2 <;> cases h2
   have ha:vs[i]? = some v:=by
    unfold start at h2
    rw [List.getElem?_append_left (by simpa using hi),List.getElem?_map] at h2
    cases e:vs[i]? with
    | none=>rw [e] at h2; cases h2
    | some a=>rw [e] at h2; cases h2; rfl
   obtain ⟨u,hu,rv⟩:=r.get ha
   have hp:ps[i]? = some y:=by
    rw [←S.pre,List.getElem?_take_of_lt (by omega)]; exact h1
   have ndP:ps.Nodup:=by rw [←S.pre]; exact S.nd.sublist (List.take_sublist _ _)
   refine ⟨u,rv,?_⟩
   rcases S.par y (List.mem_of_getElem? hp) with k | k
   · exact .inl ⟨k,bindL_get ndP hp hu k⟩
   · obtain ⟨c,e⟩:=cell_has (n:=s.heap.objs.size+1) k
     refine .inr ⟨.inl k,c,e,?_⟩
     have q:=x.cell y c e
     rw [bindC_get ndP hp hu (by show scope.names.lookup y≠_; rw [k]; decide)] at q
     exact q
 · exact e0.hok.fresh (Nat.le_of_lt (x.above y c (PySem.mem_of_lookup h)))
 · unfold start
   show _=N.length
   rw [List.length_append,List.length_map,List.length_replicate]
   omega
theorem fn_of {CX:CXT} {P:Program} {w:World} {K:W.Frag} {mg:Str→Option Value} {base:Heap} {k:Nat} {f:Addr} {name qual:Str} {params:Arguments} {body:List Stmt} {scope:Scope} {dV kV doc pm cdv ct oc:Value} {an od:Option Addr}
  {osl:Array (Option Value)} {N ps:List Str} {sp:Sp} (lk:K.lookup f=some ⟨oc,od,.func (W.fnOf name qual params body scope dV kV doc pm an cdv ct),osl⟩) (hcd:W.codeIn K cdv qual=true) (S:FnScope N ps scope)
  (len:∀ vs H Q E,sp vs H Q E→vs.length=ps.length)
  (hbody:∀ (A:Around) (outer:List Env) (s:Shared) (H:Hp) (vs:List V) (Q:VK) (E:XK),Room k (A.deeper (envOfC qual scope s.heap.objs.size f cdv))→sp vs H Q E →
   ∃ t,PSs (cxOf CX P w K mg base N qual scope f cdv A outer s H E) body t∧t { nx:=fun _ H'=>Q .non H',rt:=Q } (start N vs) H) :
  FnOk P w K mg base CX (k+1) f (W.fnOf name qual params body scope dV kV doc pm an cdv ct) ps sp:=by
 refine ⟨len,fun A outer s H args us vs Q E hr e0 hb r hsp=>?_⟩
 have hl:=len _ _ _ _ hsp
 have KX:K.In s.heap:=e0.mod.kin.keeps fun b o e=>(e0.bs b o e).1
 have lim:s.heap.NoLimit:=e0.mod.nolimit.keeps fun b o e=>(e0.bs b o e).1
 have hkind:∀ y∈ps.zip us,scope.names.lookup y.1=some .local∨(scope.names.lookup y.1=some .cell∧((cellsFrom (s.heap.objs.size+1) scope.names []).lookup y.1).isSome=true):=fun ⟨n,v⟩ hy=>by
  rcases S.par n (List.of_mem_zip hy).1 with q | q
  · exact .inl q
  · exact .inr ⟨q,W.cellsFrom_some _ _ _ (.inl q)⟩
 refine codeAny_call_function hr.depth (KX _ _ lk) rfl S.co S.gen rfl (W.codeRec_of KX hcd) (hb _ _ _ _ ?_)
 refine wpAny_newFunctionEnv_cells S.kind hkind fun env he s1 x=>?_
 subst he
 refine ⟨lim.keeps x.toInCall.keep,codeAny_func ?_⟩
 obtain ⟨t,ht,hq⟩:=hbody A outer s H vs Q E (hr.deeper _) hsp
 have I:Inv (cxOf CX P w K mg base N qual scope f cdv A outer s H E) [] (start N vs) H s1:=inv_start S hr.hd e0 hl r x
 refine wpAny_mono (ht [] s1 (start N vs) H _ I hq) (fun fl s' hs=>?_) fun e s' hs=>hs
 have fin:∀ {σ':St} {H':Hp} {v:V} {u:Value},Inv (cxOf CX P w K mg base N qual scope f cdv A outer s H E) [] σ' H' s'→RelV v u→Q v H'→CE outer P w H s Q u s' :=
  fun {σ' H' v u} J rv q=>⟨v,H',J.os,J.bare,J.base,J.hok,rv,q⟩
 cases fl with
 | ret u =>
  obtain ⟨v,σ',H',J,rv,q⟩:=hs
  exact fin J rv q
 | next =>
  obtain ⟨σ',H',J,q⟩:=hs
  exact fin (v:=V.non) (u:=Value.none) J rfl q
 | brk =>
  obtain ⟨_,_,_,q⟩:=hs
  exact False.elim q
 | cont =>
  obtain ⟨_,_,_,q⟩:=hs
  exact False.elim q
section
variable {X:Cx} {x:Str} {p pos:Pos} {e:Expr} {es:List Expr} {t:TA} {id T:String} {r:List V→Hp→VK→Prop}
def tCB (r:List V→Hp→VK→Prop) (t:TA):TE:=fun σ H Q=>t σ H fun vs H1=>r vs H1 Q
theorem pe_callB (hc:CallR X (.builtin id) r) (hg:Gl X x) (hm:X.mg x=none) (hv:bootBuiltins x=some (.builtin id)) (ha:PA X (e::es) t) (hn:x≠"__name__":=by decide) (hdb:(x == ("__debug__":Str))=false:=by decide)
  (he:starEach (e::es) X.env=(false,eval e X.env)::starEach es X.env:=by rfl) (hpl:(backTo pos (starEach es X.env)).any (·.1)=false:=by rfl):PE X (.Call (.Name x p) (e::es) [] pos) (tCB r t):=by
 intro pins s σ H Q I h
 refine wpAny_Call_Name_kw (ld_blt I hg hm hv ?_ hn hdb)
 exact PyProof.Rows.callWith_builtin1 (thn (ha pos pins s σ H _ I h) fun us s1 ⟨vs,H1,I1,r1,q1⟩=>hc pins s1 σ H1 vs us Q I1 r1 q1) he hpl
theorem pe_callTy (hc:CallR X (.type T) r) (hg:Gl X x) (hm:X.mg x=none) (hv:bootBuiltins x=some (.type T)) (ha:PA X (e::es) t) (hn:x≠"__name__":=by decide) (hdb:(x == ("__debug__":Str))=false:=by decide)
  (he:starEach (e::es) X.env=(false,eval e X.env)::starEach es X.env:=by rfl) (hpl:(backTo pos (starEach es X.env)).any (·.1)=false:=by rfl):PE X (.Call (.Name x p) (e::es) [] pos) (tCB r t):=by
 intro pins s σ H Q I h
 refine wpAny_Call_Name_kw (ld_blt I hg hm hv ?_ hn hdb)
 exact PyProof.Rows.callWith_type1 (thn (ha pos pins s σ H _ I h) fun us s1 ⟨vs,H1,I1,r1,q1⟩=>hc pins s1 σ H1 vs us Q I1 r1 q1) he hpl
end
end L2
namespace HT
open PySem PyProof.Rows
theorem eqAt_int (A:Around) (s:Shared) (a:Int) (t:Tok) (c:Int) (u:Tok):∃ e,SeqAt.EqAt A s (.int a t) (.int c u) e∧(e=true↔a=c) :=
 ⟨(a == c),SeqAt.EqAt.int_int a t c u,by simp⟩
section
open PySem.SeqAt
open PySem.AutoSeq1 (wpAny_loadPart')
open PySem.MeetsSeq PySem.MeetsSeq2 PySem.MeetsSeq3
end
section
variable {prog:Program} {w:World} {A:Around} {E:Value→Shared→Prop} {s:Shared}
theorem cat_tup {t b:Addr} {vs ws:List Value} {Q:Value→Shared→Prop} (ht:IsTup s.heap t vs.toArray) (hb:IsTup s.heap b ws.toArray) (hv:vs≠[])
  (h1:ws=[]→Q (.ref t) s) (h2:ws≠[]→Q (.ref s.heap.objs.size) { s with heap:=s.heap.push { cls:=.type "tuple",data:=.seq (vs ++ ws).toArray } })
  (hsz:vs.length+ws.length≤sizeLine):wpAny (model prog w) A (binaryOp .Add (.ref t) (.ref b)) Q E s:=by
 obtain ⟨⟨cls,dd,data,sl⟩,ho,hc,n,hd⟩:=id ht
 obtain ⟨⟨cls2,dd2,data2,sl2⟩,ho2,hc2,n2,hd2⟩:=id hb
 simp only at hc hd hc2 hd2
 subst hc hd hc2 hd2
 have e:vs.toArray ++ ws.toArray=(vs ++ ws).toArray:=by simp
 by_cases hw:ws=[]
 · exact concat_meets ⟨_,ho,rfl⟩ ⟨_,ho2,rfl⟩ noFill_tuple_add seq_tuple_add PySem.F.slot_tuple_add PySem.F.entry_tuple_add (PySem.F.args_tuple_add_2 _ _)
    (tuple_addW1 t b vs.toArray ws.toArray n n2 dd dd2 sl sl2 (by simpa using hv) (by simp [hw])) ⟨ho,ho2,h1 hw⟩
 · refine concat_meets ⟨_,ho,rfl⟩ ⟨_,ho2,rfl⟩ noFill_tuple_add seq_tuple_add PySem.F.slot_tuple_add PySem.F.entry_tuple_add (PySem.F.args_tuple_add_2 _ _)
    (tuple_addW2 t b vs.toArray ws.toArray n n2 dd dd2 sl sl2 (by simpa using hv) (by simpa using hw) (by rw [List.size_toArray,List.size_toArray]; exact hsz)) ⟨ho,ho2,?_⟩
   rw [e]
   exact h2 hw
def sIx (n d:Nat):Option Int→Nat
 | none=>d
 | some v=>if v < 0 then (v+(n:Int)).toNat else min v.toNat n
theorem sIx_none (n d:Nat):sIx n d none=d:=rfl
theorem sIx_nat (n d k:Nat):sIx n d (some (k:Int))=min k n:=by
 show (if (k:Int) < 0 then ((k:Int)+(n:Int)).toNat else min (k:Int).toNat n)=min k n
 rw [if_neg (by omega),Int.toNat_natCast]
end
end HT
namespace L2
open PySem PySem.Spec PyProof.Rows
abbrev TO:=St→Hp→(Option Int→Hp→Prop)→Prop
def PO (X:Cx) (e:Option Expr) (t:TO):Prop :=
 ∀ (pins:List (Addr×Obj)) (s:Shared) (σ:St) (H:Hp) (Q:Option Int→Hp→Prop),Inv X pins σ H s→t σ H Q →
  wpAny (model X.prog X.w) X.A (evalPart e X.env) (fun u s'=>∃ o H',Inv X pins σ H' s'∧IsPart u o∧Q o H') X.xe s
def tNoPart:TO:=fun _ H Q=>Q none H
def tPart (t:TE):TO:=fun σ H Q=>t σ H fun x H1=>∃ i,x=.int i∧Q (some i) H1
theorem intsAre_of {ns:List Int}:∀ {us:List Value},Vals (ns.map V.int) us→IntsAre us ns:=by
 induction ns with
 | nil=>intro us r; rw [List.map_nil] at r; cases r; exact .nil
 | cons n ns ih =>
  intro us r
  rw [List.map_cons] at r
  cases r with
  | cons r1 r2 =>
   obtain ⟨t,e⟩:=r1
   subst e
   exact .cons n t (ih r2)
section
variable {X:Cx} {e:Expr} {te:TE} {lo hi:Option Expr} {tl th:TO} {pos p2:Pos}
theorem po_none:PO X none tNoPart:=by
 intro pins s σ H Q I h
 rw [evalPart_none]
 exact wpAny_pure ⟨none,H,I,.none,h⟩
theorem po_some (h:PE X e te):PO X (some e) (tPart te):=by
 intro pins s σ H Q I hw
 rw [evalPart_some]
 refine thn (h pins s σ H _ I hw) fun u s1 ⟨x,H1,I1,r1,q1⟩=>?_
 obtain ⟨i,rfl,q⟩:=q1
 obtain ⟨t,rfl⟩:=r1
 exact ⟨some i,H1,I1,.int i t,q⟩
def SlR (X:Cx) (r:V→Option Int→Option Int→Hp→VK→Prop):Prop :=
 ∀ (pins:List (Addr×Obj)) (s:Shared) (σ:St) (H:Hp) (x:V) (v vl vu:Value) (lo hi:Option Int) (sl:Addr) (Q:VK),Inv X pins σ H s→RelV x v→s.heap.IsSliceOf sl vl vu .none→IsPart vl lo→IsPart vu hi→r x lo hi H Q →
  ∃ T id,typeLookup (.type T) "__getitem__"=pure (some (.builtin id))∧s.TypeIs v T∧wpAny (model X.prog X.w) X.A (getItem v (.ref sl)) (EP X pins σ Q) X.xe s
def tSl (r:V→Option Int→Option Int→Hp→VK→Prop) (te:TE) (tl th:TO):TE:=fun σ H Q=>te σ H fun x H1=>tl σ H1 fun l H2=>th σ H2 fun u H3=>r x l u H3 Q
theorem pe_slice {r:V→Option Int→Option Int→Hp→VK→Prop} (hr:SlR X r) (he:PE X e te) (hl:PO X lo tl) (hu:PO X hi th):PE X (.Subscript e (.Slice lo hi none p2) pos) (tSl r te tl th):=by
 intro pins s σ H Q I h
 refine Subscript_ (thn (he pins s σ H _ I h) fun v s1 ⟨x,H1,I1,r1,q1⟩=>?_)
 refine wpAny_Slice (thn (hl pins s1 σ H1 _ I1 q1) fun vl s2 ⟨l,H2,I2,pl,q2⟩=>thn (hu pins s2 σ H2 _ I2 q2) fun vu s3 ⟨u,H3,I3,pu,q3⟩=>?_)
 rw [evalPart_none]
 refine wpAny_pure ?_
 have I4:Inv X pins σ H3 { s3 with heap:=s3.heap.push { cls:=.type "slice",data:=.fields #[vl,vu,.none] } }:=I3.kept (t':=s3.toks) fun b ob q=>Heap.get?_push_of_some _ q
 obtain ⟨T,id,hT,ht,hg⟩:=hr pins { s3 with heap:=s3.heap.push { cls:=.type "slice",data:=.fields #[vl,vu,.none] } } σ H3 x v vl vu l u s3.heap.objs.size Q I4 r1 (Heap.IsSliceOf.new ..) pl pu q3
 show wpAny (model X.prog X.w) X.A (subscriptTail e (.Slice lo hi none p2) v (.ref s3.heap.objs.size)) (EP X pins σ Q) X.xe { s3 with heap:=s3.heap.push { cls:=.type "slice",data:=.fields #[vl,vu,.none] } }
 exact tail_any (ops:=[.ref s3.heap.objs.size,v]) ht hT hg (by with_unfolding_all rfl)
def cutV (xs:List V) (lo hi:Option Int):List V:=(xs.drop (HT.sIx xs.length 0 lo)).take (HT.sIx xs.length xs.length hi - HT.sIx xs.length 0 lo)
theorem cutV_length (xs:List V) (lo hi:Option Int):(cutV xs lo hi).length≤xs.length:=by
 unfold cutV
 rw [List.length_take,List.length_drop]
 omega
def rCatT (K:W.Frag):R2:=fun x y H Q=>∃ a b xs ys,x=.ref a∧y=.ref b∧SqT K H a xs∧SqT K H b ys∧xs≠[]∧xs.length+ys.length≤sizeLine ∧
 (ys=[]→Q (.ref a) H)∧(ys≠[]→∀ p,H p=none→Q (.ref p) (upd H p (.tup (xs ++ ys))))
theorem Vals.nil_iff {xs:List V} {us:List Value} (r:Vals xs us):us=[]↔xs=[]:=by
 cases r with
 | nil=>simp
 | cons _ _=>simp
theorem op_catT:OpR X (binaryOp .Add) (rCatT X.K):=by
 intro pins s σ H x y v u Q I rx ry h
 obtain ⟨a,b,xs,ys,rfl,rfl,ha,hb,hx,hz,q1,q2⟩:=h
 cases rx
 cases ry
 obtain ⟨its,r1,p1,_⟩:=I.tuple ha
 obtain ⟨its2,r2,p2,_⟩:=I.tuple hb
 refine HT.cat_tup p1 p2 (fun z=>hx (r1.nil_iff.mp z)) (fun z=>⟨.ref a,H,I,rfl,q1 (r2.nil_iff.mp z)⟩) (fun z=>?_) (by rw [←r1.length,←r2.length]; exact hz)
 refine ⟨.ref s.heap.objs.size,_,I.laid (t':=s.toks) (o:=.tup (xs ++ ys)) (fun b ob q=>Heap.get?_push_of_some _ q) (Nat.le_refl _) ?_,rfl,q2 (fun w=>z (r2.nil_iff.mpr w)) _ (I.hok.fresh (Nat.le_refl _))⟩
 exact ⟨by rw [List.length_append]; exact hz,_,r1.append r2,IsTup.new _ _⟩
end
def ixN (n:Nat) (i:Int):Option Nat:=if 0≤i then (if i < n then some i.toNat else none) else if -(n:Int)≤i then some (i+n).toNat else none
def atI {α:Type} (xs:List α) (i:Int):Option α:=(ixN xs.length i).bind fun j=>xs[j]?
theorem ixN_seq {n:Nat} {i:Int} {j:Nat} (h:ixN n i=some j):seqIndex? i n=some j∧j < n∧-(n:Int)≤i∧i < n:=by
 unfold ixN at h
 by_cases h0:0≤i
 · rw [if_pos h0] at h
   by_cases h1:i < n
   · rw [if_pos h1] at h
     have e:i.toNat=j:=Option.some.inj h
     exact ⟨by rw [seqIndex_of h0 h1,e],by omega,by omega,h1⟩
   · rw [if_neg h1] at h; cases h
 · rw [if_neg h0] at h
   by_cases h1:-(n:Int)≤i
   · rw [if_pos h1] at h
     have e:(i+n).toNat=j:=Option.some.inj h
     exact ⟨by rw [seqIndex_neg (by omega) h1,e],by omega,h1,by omega⟩
   · rw [if_neg h1] at h; cases h
theorem atI_get {α:Type} {xs:List α} {i:Int} {v:α} (h:atI xs i=some v):∃ j,seqIndex? i xs.length=some j∧xs[j]? = some v∧j < xs.length∧-(xs.length:Int)≤i∧i < xs.length:=by
 unfold atI at h
 cases e:ixN xs.length i with
 | none=>rw [e] at h; cases h
 | some j =>
  rw [e] at h
  obtain ⟨h1,h2,h3,h4⟩:=ixN_seq e
  exact ⟨j,h1,h,h2,h3,h4⟩
theorem atI_nat {α:Type} {xs:List α} {j:Nat} {v:α} (h:xs[j]? = some v):atI xs (j:Int)=some v:=by
 have hj:j < xs.length:=(List.getElem?_eq_some_iff.mp h).1
 have e:ixN xs.length (j:Int)=some j:=by
  unfold ixN
  rw [if_pos (by omega),if_pos (by omega)]; simp
 unfold atI; rw [e]; exact h
def PlainIx (b:Expr):Prop:=∀ o i,subscripted b false o i=operate [o,i] (getItem o i)
def IxR (X:Cx) (r:R2):Prop :=
 ∀ (value slice:Expr) (pins:List (Addr×Obj)) (s:Shared) (σ:St) (H:Hp) (x y:V) (v u:Value) (Q:VK),Inv X pins σ H s→RelV x v→RelV y u→r x y H Q →
  subscripted slice false v u=operate [v,u] (getItem v u)→wpAny (model X.prog X.w) X.A (subscriptTail value slice v u) (EP X pins σ Q) X.xe s
def MtR (X:Cx) (id:String) (r:V→List V→Hp→VK→Prop):Prop :=
 ∀ (pins:List (Addr×Obj)) (s:Shared) (σ:St) (H:Hp) (x:V) (xs:List V) (v:Value) (us:List Value) (Q:VK),Inv X pins σ H s→RelV x v→Vals xs us→r x xs H Q →
  wpAny (model X.prog X.w) X.A (call (.builtin id) (v::us)) (EP X pins σ Q) X.xe s
section
variable {X:Cx} {a b:Expr} {ta tb:TE} {pos:Pos}
theorem pe_ix {r:R2} (hr:IxR X r) (ha:PE X a ta) (hb:PE X b tb) (hs:PlainIx b):PE X (.Subscript a b pos) (tOp r ta tb):=by
 intro pins s σ H Q I h
 exact Subscript_ (binT ha hb I h fun v u s2 x y H2 I2 rx ry q=>hr a b pins s2 σ H2 x y v u Q I2 rx ry q (hs _ _))
def rIxL (K:W.Frag):R2:=fun x y H Q=>∃ p xs i v,x=.ref p∧y=.int i∧SqL K H p xs∧atI xs i=some v∧Q v H
def rIxT (K:W.Frag):R2:=fun x y H Q=>∃ p xs i v,x=.ref p∧y=.int i∧SqT K H p xs∧atI xs i=some v∧Q v H
def rIxS:R2:=fun x y H Q=>∃ z i c,x=.str z∧y=.int i∧z.length≤sizeLine∧atI z.cps.toList i=some c∧Q (.str ⟨#[c]⟩) H
theorem ix_list:IxR X (rIxL X.K):=by
 intro value slice pins s σ H x y v u Q I rx ry h hs
 obtain ⟨p,xs,i,z,rfl,rfl,hq,he,q⟩:=h
 cases rx
 obtain ⟨t,rfl⟩:=ry
 obtain ⟨its,r,pl,hz⟩:=I.list hq
 obtain ⟨j,h1,h2,h3,h4,h5⟩:=atI_get he
 obtain ⟨w,ew,rw'⟩:=r.get h2
 have hl:=r.length
 have hn:=line63
 have fin:EP X pins σ Q w s:=⟨z,H,I,rw',q⟩
 by_cases h0:0≤i
 · have hj:i.toNat=j:=by
    rw [seqIndex_of h0 h5] at h1
    exact Option.some.inj h1
   exact item_listR pl.isList h0 (by omega) (by rw [hj]; simpa using ew) fin hs
 · have hj:(i+(its.toArray.size:Int)).toNat=j:=by
    rw [seqIndex_neg (by omega) h4] at h1
    rw [List.size_toArray,←hl]
    exact Option.some.inj h1
   exact subscriptTail_builtinR (x:=w) pl.isList.typeIs slot_list_getitem.lookup
    (wpAny_getItem_list_neg (Q:=fun r s'=>r=w∧EP X pins σ Q r s') pl.isList (by omega) (by rw [List.size_toArray] <;> omega) (by omega) (by rw [hj]; simpa using ew) ⟨rfl,fin⟩) hs
theorem ix_tup:IxR X (rIxT X.K):=by
 intro value slice pins s σ H x y v u Q I rx ry h hs
 obtain ⟨p,xs,i,z,rfl,rfl,hq,he,q⟩:=h
 cases rx
 obtain ⟨t,rfl⟩:=ry
 obtain ⟨its,r,pl,hz⟩:=I.tuple hq
 obtain ⟨j,h1,h2,h3,h4,h5⟩:=atI_get he
 obtain ⟨w,ew,rw'⟩:=r.get h2
 have hl:=r.length
 have hn:=line63
 have fin:EP X pins σ Q w s:=⟨z,H,I,rw',q⟩
 exact subscriptTail_builtinR (x:=w) pl.typeIs slot_tuple_getitem.lookup
  (getItem_tuple (j:=j) (Q:=fun r s'=>r=w∧EP X pins σ Q r s') pl (by omega) (by omega) (by rw [List.size_toArray,←hl]; exact h1) (by simpa using ew) ⟨rfl,fin⟩) hs
theorem ix_str:IxR X rIxS:=by
 intro value slice pins s σ H x y v u Q I rx ry h hs
 obtain ⟨z,i,c,rfl,rfl,hz,he,q⟩:=h
 obtain ⟨t,rfl⟩:=rx
 obtain ⟨t',rfl⟩:=ry
 obtain ⟨j,h1,h2,h3,h4,h5⟩:=atI_get he
 have hl:z.cps.toList.length=z.length:=by simp [Str.length]
 rw [hl] at h1 h4 h5
 have hn:=line63
 exact tail_any (typeIs_str s z t) slot_str_getitem.lookup (getItem_str (c:=c) (by
  have e1:decide (i < -(2 ^ 63:Int))=false:=decide_eq_false (by omega)
  have e2:decide (i ≥ 2 ^ 63)=false:=decide_eq_false (by omega)
  rw [e1,e2,Bool.or_false]) (by rw [h1]; simpa using h2) ⟨.str ⟨#[c]⟩,H,I.tok _,⟨_,rfl⟩,q⟩) hs
theorem mapSeq_set (its:List Value) (n j:Nat) (u:Value):Obj.mapSeq (·.setIfInBounds j u) { cls:=.type "list",data:=.seq its.toArray n }={ cls:=.type "list",data:=.seq (its.set j u).toArray n }:=by
 simp [Obj.mapSeq]
theorem Inv.lst {pins:List (Addr×Obj)} {σ:St} {H:Hp} {s:Shared} {p:Addr} {xs:List V} (I:Inv X pins σ H s) (h:H p=some (.lst xs)) :
  ∃ (its:List Value) (n:Nat),Vals xs its∧s.heap.get? p=some { cls:=.type "list",data:=.seq its.toArray n }∧xs.length≤sizeLine:=by
 obtain ⟨z,its,n,r,e⟩:=I.hok p _ h
 exact ⟨its,n,r,e,z⟩
theorem Inv.lstUpd {pins:List (Addr×Obj)} {σ:St} {H:Hp} {s:Shared} {p:Addr} {xs ys:List V} {its its':List Value} {n n':Nat} {f:Obj→Obj} (I:Inv X pins σ H s) (h:H p=some (.lst xs))
  (ho:s.heap.get? p=some { cls:=.type "list",data:=.seq its.toArray n }) (hf:f { cls:=.type "list",data:=.seq its.toArray n }={ cls:=.type "list",data:=.seq its'.toArray n' }) (r:Vals ys its') (hz:ys.length≤sizeLine) (t:Nat) :
  Inv X pins σ (upd H p (.lst ys)) { s with heap:=s.heap.update p f,toks:=t }:=by
 have e:(s.heap.update p f).get? p=some { cls:=.type "list",data:=.seq its'.toArray n' }:=by
  rw [Heap.get?_update_self f ho (by rw [hf] <;> rfl),hf]
 refine I.write (x:=p) (e:=p) (by rw [h]; trivial) (.inl rfl) (fun b u hb q=>(Heap.get?_update_other _ _ (Ne.symm hb)).trans q) ⟨_,e⟩ ?_
 exact ⟨hz,its',n',r,e⟩
def rSetL:V→V→V→Hp→(Hp→Prop)→Prop:=fun o i v H Q=>∃ p xs k j,o=.ref p∧i=.int k∧H p=some (.lst xs)∧ixN xs.length k=some j∧Q (upd H p (.lst (xs.set j v)))
theorem set_list:PSet X rSetL:=by
 intro pins s σ H o i v ov iv u Q I ro ri rv h
 obtain ⟨p,xs,k,j,rfl,rfl,hp,hj,q⟩:=h
 cases ro
 obtain ⟨t,rfl⟩:=ri
 obtain ⟨its,n,r,ho,hz⟩:=I.lst hp
 obtain ⟨h1,h2,h3,h4⟩:=ixN_seq hj
 have hl:=r.length
 have hn:=line63
 have I':Inv X pins σ (upd H p (.lst (xs.set j v))) { s with heap:=s.heap.update p (Obj.mapSeq (·.setIfInBounds j u)) } :=
  I.lstUpd hp ho (mapSeq_set its n j u) (r.set rv j) (by rw [List.length_set]; exact hz) s.toks
 by_cases h0:0≤k
 · have hk:k.toNat=j:=by
    rw [seqIndex_of h0 h4] at h1
    exact Option.some.inj h1
   exact W.ki_setAt ho h0 (by omega) (by rw [List.size_toArray,←hl]; exact h4) (by rw [hk]; exact ⟨_,I',q⟩)
 · have hk:(k+(its.toArray.size:Int)).toNat=j:=by
    rw [seqIndex_neg (by omega) h3] at h1
    rw [List.size_toArray,←hl]
    exact Option.some.inj h1
   exact W.ki_setBack ho (by omega) (by rw [List.size_toArray,←hl]; exact h3) (by omega) (by rw [hk]; exact ⟨_,I',q⟩)
theorem slice_bounds (lo hi:Option Int) (n:Nat):(sliceBounds lo hi none n).1=((HT.sIx n 0 lo:Nat):Int)∧(sliceBounds lo hi none n).2.1=((HT.sIx n n hi:Nat):Int)∧(sliceBounds lo hi none n).2.2=1:=by
 refine ⟨?_,?_,rfl⟩
 · cases lo with
   | none=>simp [sliceBounds,HT.sIx]
   | some i =>
    simp only [sliceBounds,HT.sIx,Option.getD_none,show (1:Int) > 0 by decide,if_true]
    by_cases h:i < 0
    · simp only [h,if_true] <;> omega
    · simp only [h,if_false] <;> omega
 · cases hi with
   | none=>simp [sliceBounds,HT.sIx]
   | some i =>
    simp only [sliceBounds,HT.sIx,Option.getD_none,show (1:Int) > 0 by decide,if_true]
    by_cases h:i < 0
    · simp only [h,if_true] <;> omega
    · simp only [h,if_false] <;> omega
theorem slicePick_cut (its:List Value) (lo hi:Option Int):slicePick its.toArray lo hi none=((its.drop (HT.sIx its.length 0 lo)).take (HT.sIx its.length its.length hi - HT.sIx its.length 0 lo)).toArray:=by
 obtain ⟨h1,h2,h3⟩:=slice_bounds lo hi its.toArray.size
 unfold slicePick
 rw [h1,h2,h3]
 simp only [sliceRange_one,pick_run,List.size_toArray] <;> rfl
def rSlL (K:W.Frag):V→Option Int→Option Int→Hp→VK→Prop:=fun x lo hi H Q=>∃ a xs,x=.ref a∧SqL K H a xs∧∀ p,H p=none→Q (.ref p) (upd H p (.lst (cutV xs lo hi)))
theorem sl_list:SlR X (rSlL X.K):=by
 intro pins s σ H x v vl vu lo hi sl Q I rx hs pl pu h
 obtain ⟨a,xs,rfl,hx,q⟩:=h
 cases rx
 obtain ⟨its,r,ht,hz⟩:=I.list hx
 have hlen:=r.length
 refine ⟨"list",_,slot_list_getitem.lookup,ht.isList.typeIs,?_⟩
 refine wpAny_getItem_list_slice ht.isList hs pl pu .none (by simp) ?_ (by rw [List.size_toArray] <;> omega)
 rw [slicePick_cut,←hlen]
 refine ⟨.ref s.heap.objs.size,_,I.laid (t':=s.toks) (o:=.lst (cutV xs lo hi)) (fun b ob q=>Heap.get?_push_of_some _ q) (Nat.le_refl _) ?_,rfl,q _ (I.hok.fresh (Nat.le_refl _))⟩
 exact ⟨Nat.le_trans (cutV_length xs lo hi) hz,_,0,(r.drop (HT.sIx xs.length 0 lo)).take (HT.sIx xs.length xs.length hi - HT.sIx xs.length 0 lo),Heap.get?_push_size _ rfl⟩
def flatV:V→Bool
 | .non=>true
 | .bl _=>true
 | .int _=>true
 | .str _=>true
 | _=>false
def eqV:V→V→Bool
 | .non,.non=>true
 | .bl a,.bl b=>a == b
 | .bl a,.int b=>(if a then 1 else 0) == b
 | .int a,.bl b=>a == (if b then 1 else 0)
 | .int a,.int b=>a == b
 | .str a,.str b=>a == b
 | _,_=>false
theorem eqAt_V {A:Around} {s:Shared} {y x:V} {u v:Value} (ry:RelV y u) (rx:RelV x v) (fy:flatV y=true) (fx:flatV x=true):SeqAt.EqAt A s u v (eqV y x):=by
 cases y with
 | non =>
  cases ry
  cases x with
  | non=>cases rx; exact SeqAt.EqAt.same _
  | bl b=>cases rx; exact SeqAt.EqAt.none_bool b
  | int b=>obtain ⟨t,rfl⟩:=rx; exact SeqAt.EqAt.none_int b t
  | str b=>obtain ⟨t,rfl⟩:=rx; exact SeqAt.EqAt.none_str b t
  | _=>exact absurd (show false=true from fx) Bool.false_ne_true
 | bl a =>
  cases ry
  cases x with
  | non=>cases rx; exact SeqAt.EqAt.bool_none a
  | bl b=>cases rx; exact SeqAt.EqAt.bool_bool a b
  | int b=>obtain ⟨t,rfl⟩:=rx; exact SeqAt.EqAt.bool_int a b t
  | str b=>obtain ⟨t,rfl⟩:=rx; exact SeqAt.EqAt.bool_str a b t
  | _=>exact absurd (show false=true from fx) Bool.false_ne_true
 | int a =>
  obtain ⟨t',rfl⟩:=ry
  cases x with
  | non=>cases rx; exact SeqAt.EqAt.int_none a t'
  | bl b=>cases rx; exact SeqAt.EqAt.int_bool a t' b
  | int b=>obtain ⟨t,rfl⟩:=rx; exact SeqAt.EqAt.int_int a t' b t
  | str b=>obtain ⟨t,rfl⟩:=rx; exact SeqAt.EqAt.int_str a t' b t
  | _=>exact absurd (show false=true from fx) Bool.false_ne_true
 | str a =>
  obtain ⟨t',rfl⟩:=ry
  cases x with
  | non=>cases rx; exact SeqAt.EqAt.str_none a t'
  | bl b=>cases rx; exact SeqAt.EqAt.str_bool a t' b
  | int b=>obtain ⟨t,rfl⟩:=rx; exact SeqAt.EqAt.str_int a t' b t
  | str b=>obtain ⟨t,rfl⟩:=rx; exact SeqAt.EqAt.str_str a t' b t
  | _=>exact absurd (show false=true from fx) Bool.false_ne_true
 | _=>exact absurd (show false=true from fy) Bool.false_ne_true
def eqU (x:V) (u:Value):Bool:=match u with
 | .none=>eqV .non x
 | .bool b=>eqV (.bl b) x
 | .int i _=>eqV (.int i) x
 | .str z _=>eqV (.str z) x
 | _=>false
theorem eqU_of {x y:V} {u:Value} (r:RelV y u) (f:flatV y=true):eqU x u=eqV y x:=by
 cases y with
 | non=>cases r; rfl
 | bl b=>cases r; rfl
 | int i=>obtain ⟨t,rfl⟩:=r; rfl
 | str z=>obtain ⟨t,rfl⟩:=r; rfl
 | _=>exact absurd (show false=true from f) Bool.false_ne_true
theorem any_eqU {x:V}:∀ {xs:List V} {us:List Value},Vals xs us→xs.all flatV=true→us.any (eqU x)=xs.any fun y=>eqV y x
 | _,_,.nil,_=>rfl
 | y::xs,u::us,.cons r t,f=>by
  rw [List.all_cons,Bool.and_eq_true] at f
  rw [List.any_cons,List.any_cons,eqU_of r f.1,any_eqU t f.2]
theorem mem_eqAt {A:Around} {s:Shared} {x:V} {v:Value} (rx:RelV x v) (fx:flatV x=true):∀ {xs:List V} {us:List Value},Vals xs us→xs.all flatV=true→∀ u∈us,SeqAt.EqAt A s u v (eqU x u)
 | _,_,.nil,_=>fun u hu=>by cases hu
 | y::xs,u::us,.cons r t,f=>fun u' hu=>by
  rw [List.all_cons,Bool.and_eq_true] at f
  rcases List.mem_cons.mp hu with rfl | hu
  · rw [eqU_of r f.1]; exact eqAt_V r rx f.1 fx
  · exact mem_eqAt rx fx t f.2 u' hu
def inV (x:V) (xs:List V):Bool:=xs.any fun y=>eqV y x
def rIn (K:W.Frag) (neg:Bool):R2:=fun x y H Q=>∃ p xs,y=.ref p∧(SqL K H p xs∨SqT K H p xs)∧flatV x=true∧xs.all flatV=true∧Q (.bl (if neg then !inV x xs else inV x xs)) H
theorem op_in_seq:OpR X (compareOp .In) (rIn X.K false):=by
 intro pins s σ H x y v u Q I rx ry h
 obtain ⟨p,xs,rfl,hq,fx,fs,q⟩:=h
 cases ry
 rcases hq with hq | hq
 · obtain ⟨its,r,pl,hz⟩:=I.list hq
   refine SeqAt.in_listAt (eqU x) pl.isList (fun w hw=>mem_eqAt rx fx r fs w (by simpa using hw)) ⟨.bl _,H,I,rfl,?_⟩
   rw [show its.toArray.any (eqU x)=its.any (eqU x) by simp,any_eqU r fs]
   exact q
 · obtain ⟨its,r,pl,hz⟩:=I.tuple hq
   refine SeqAt.in_tupleAt (eqU x) pl (fun w hw=>mem_eqAt rx fx r fs w (by simpa using hw)) ⟨.bl _,H,I,rfl,?_⟩
   rw [show its.toArray.any (eqU x)=its.any (eqU x) by simp,any_eqU r fs]
   exact q
theorem op_notIn_seq:OpR X (compareOp .NotIn) (rIn X.K true):=by
 intro pins s σ H x y v u Q I rx ry h
 obtain ⟨p,xs,rfl,hq,fx,fs,q⟩:=h
 cases ry
 rcases hq with hq | hq
 · obtain ⟨its,r,pl,hz⟩:=I.list hq
   refine SeqAt.notIn_listAt (eqU x) pl.isList (fun w hw=>mem_eqAt rx fx r fs w (by simpa using hw)) ⟨.bl _,H,I,rfl,?_⟩
   rw [show its.toArray.any (eqU x)=its.any (eqU x) by simp,any_eqU r fs]
   exact q
 · obtain ⟨its,r,pl,hz⟩:=I.tuple hq
   refine SeqAt.notIn_tupleAt (eqU x) pl (fun w hw=>mem_eqAt rx fx r fs w (by simpa using hw)) ⟨.bl _,H,I,rfl,?_⟩
   rw [show its.toArray.any (eqU x)=its.any (eqU x) by simp,any_eqU r fs]
   exact q
theorem call_len_seq:CallR X (.builtin "len") (fun xs H Q=>∃ p ys,xs=[.ref p]∧(SqL X.K H p ys∨SqT X.K H p ys)∧Q (.int ys.length) H):=by
 intro pins s σ H xs us Q I r h
 obtain ⟨p,ys,rfl,hq,q⟩:=h
 obtain ⟨u,rfl,rx⟩:=vals1 r
 cases rx
 have hn:=line63
 rcases hq with hq | hq
 · obtain ⟨its,r',pl,hz⟩:=I.list hq
   have hlen:=r'.length
   exact Calls.call_len_list pl.isList (by simp only [List.size_toArray] <;> omega) ⟨.int ys.length,H,I.tok _,⟨s.toks+1,by rw [List.size_toArray,hlen]⟩,q⟩
 · obtain ⟨its,r',pl,hz⟩:=I.tuple hq
   have hlen:=r'.length
   exact len_tuple pl (by simp only [List.size_toArray] <;> omega) ⟨.int ys.length,H,I.tok _,⟨s.toks+1,by rw [List.size_toArray,hlen]⟩,q⟩
theorem call_len_str:CallR X (.builtin "len") (fun xs H Q=>∃ z,xs=[.str z]∧z.length≤sizeLine∧Q (.int z.length) H):=by
 intro pins s σ H xs us Q I r h
 obtain ⟨z,rfl,hz,q⟩:=h
 obtain ⟨u,rfl,t,rfl⟩:=vals1 r
 have hn:=line63
 exact len_str (by omega) ⟨.int z.length,H,I.tok _,⟨_,rfl⟩,q⟩
theorem call_list_of:CallR X (.type "list") (fun xs H Q=>∃ p ys,xs=[.ref p]∧(SqL X.K H p ys∨SqT X.K H p ys)∧∀ l,H l=none→Q (.ref l) (upd H l (.lst ys))):=by
 intro pins s σ H xs us Q I r h
 obtain ⟨p,ys,rfl,hq,q⟩:=h
 obtain ⟨u,rfl,rx⟩:=vals1 r
 cases rx
 have fin:∀ (its:List Value),Vals ys its→ys.length≤sizeLine→∀ (h':Heap) (c':Nat),(∀ b o',s.heap.get? b=some o'→h'.get? b=some o') →
   h'.get? s.heap.objs.size=some { cls:=.type "list",dict:=none,data:=.seq its.toArray c',slots:=#[] }→EP X pins σ Q (.ref s.heap.objs.size) { s with heap:=h' }:=fun its r' hz h' c' kp e =>
  ⟨.ref s.heap.objs.size,_,I.laid (t':=s.toks) kp (Nat.le_refl _) (show ObjOk X.prog X.w _ h' _ (.lst ys) from ⟨hz,its,c',r',e⟩),rfl,q _ (I.hok.fresh (Nat.le_refl _))⟩
 rcases hq with hq | hq
 · obtain ⟨its,r',pl,hz⟩:=I.list hq
   have hlen:=r'.length
   obtain ⟨o,ho,hc,n,hd⟩:=pl.isList
   exact call_list_seq p (.inl rfl) ho hc hd (fun h' c' kp e=>fin its r' hz h' c' kp e) (by simp only [List.size_toArray] <;> omega)
 · obtain ⟨its,r',pl,hz⟩:=I.tuple hq
   have hlen:=r'.length
   obtain ⟨o,ho,hc,n,hd⟩:=pl
   exact call_list_seq p (.inr rfl) ho hc hd (fun h' c' kp e=>fin its r' hz h' c' kp e) (by simp only [List.size_toArray] <;> omega)
theorem call_tuple_of:CallR X (.type "tuple") (fun xs H Q=>∃ p ys,xs=[.ref p]∧((SqL X.K H p ys∧∀ l,H l=none→Q (.ref l) (upd H l (.tup ys)))∨(SqT X.K H p ys∧Q (.ref p) H))):=by
 intro pins s σ H xs us Q I r h
 obtain ⟨p,ys,rfl,h⟩:=h
 obtain ⟨u,rfl,rx⟩:=vals1 r
 cases rx
 rcases h with ⟨hq,q⟩ | ⟨hq,q⟩
 · obtain ⟨its,r',pl,hz⟩:=I.list hq
   have hlen:=r'.length
   refine call_tuple_list pl.isList (fun h' kp=>?_) (by simp only [List.size_toArray] <;> omega)
   have I1:Inv X pins σ H { s with heap:=h' }:=I.kept (t':=s.toks) kp
   have I2:Inv X pins σ (upd H h'.objs.size (.tup ys)) { s with heap:=h'.push { cls:=.type "tuple",data:=.seq its.toArray } } :=
    I1.laid (t':=s.toks) (fun b o e=>Heap.get?_push_of_some _ e) (Nat.le_refl _) (show ObjOk X.prog X.w _ _ _ (.tup ys) from ⟨hz,its,r',IsTup.new _ _⟩)
   exact ⟨.ref h'.objs.size,_,I2,rfl,q _ (I1.hok.fresh (Nat.le_refl _))⟩
 · obtain ⟨its,r',pl,hz⟩:=I.tuple hq
   exact call_tuple_same pl ⟨.ref p,H,I,rfl,q⟩
def tyV (K:W.Frag) (T:String) (x:V) (H:Hp):Prop:=match x with
 | .str _=>T="str"
 | .int _=>T="int"
 | .ref p=>(T="list"∧∃ xs,SqL K H p xs)∨(T="tuple"∧∃ o,K.lookup p=some o∧o.cls=.type "tuple"∧o.dict=none) ∨
   (T="dict"∧((∃ kvs,H p=some (.dK kvs))∨∃ kvs,H p=some (.dT kvs)))∨(T="set"∧∃ S n,H p=some (.set S n))
 | _=>False
theorem tyV_is {pins:List (Addr×Obj)} {σ:St} {H:Hp} {s:Shared} {T:String} {x:V} {v:Value} (I:Inv X pins σ H s) (r:RelV x v) (ty:tyV X.K T x H) :
  s.TypeIs v T∧∀ a,v=.ref a→∃ ob,s.heap.get? a=some ob∧ob.dict=none:=by
 cases x with
 | str z =>
  obtain ⟨t,rfl⟩:=r
  cases (show T="str" from ty)
  exact ⟨typeIs_str s z t,fun _ e=>nomatch e⟩
 | int i =>
  obtain ⟨t,rfl⟩:=r
  cases (show T="int" from ty)
  exact ⟨typeIs_int s i t,fun _ e=>nomatch e⟩
 | ref p =>
  cases r
  rcases ty with ⟨rfl,xs,hq⟩ | ⟨rfl,o,hk,hc,hd⟩ | ⟨rfl,hk⟩ | ⟨rfl,S,n,hk⟩
  · obtain ⟨its,_,pl,_⟩:=I.list hq
    refine ⟨pl.isList.typeIs,fun a e=>?_⟩
    cases e
    obtain ⟨o,n,e,c,hd,_⟩:=pl
    exact ⟨o,e,hd⟩
  · refine ⟨⟨o,I.kIn p o hk,hc⟩,fun a e=>?_⟩
    cases e
    exact ⟨o,I.kIn _ o hk,hd⟩
  · have z:∃ o,s.heap.get? p=some o∧o.ExactDict:=by
     rcases hk with ⟨kvs,hk⟩ | ⟨kvs,hk⟩
     · obtain ⟨_,_,_,_,o,_,_,e,ex,_⟩:=I.hok p _ hk
       exact ⟨o,e,ex⟩
     · obtain ⟨_,_,_,_,o,_,_,e,ex,_⟩:=I.hok p _ hk
       exact ⟨o,e,ex⟩
    obtain ⟨o,e,ex⟩:=z
    refine ⟨⟨o,e,ex.1⟩,fun a e2=>?_⟩
    cases e2
    exact ⟨o,e,ex.2.1⟩
  · obtain ⟨o,_,_,_,e,ex,_⟩:=I.hok p _ hk
    refine ⟨⟨o,e,ex.1⟩,fun a e2=>?_⟩
    cases e2
    exact ⟨o,e,ex.2.1⟩
 | _=>exact False.elim ty
def tBM (K:W.Frag) (T:String) (r:V→List V→Hp→VK→Prop) (to:TE) (t:TA):TE:=fun σ H Q=>to σ H fun x H1=>tyV K T x H1∧t σ H1 fun xs H2=>r x xs H2 Q
variable {o e:Expr} {es:List Expr} {to:TE} {t:TA} {name:Str} {apos cpos:Pos} {T id:String} {r:V→List V→Hp→VK→Prop}
theorem pe_bm (pa:PlainAttrs T) (slot:Slot T name id) (hty:typeOf (.builtin id)=pure (.type "method_descriptor")) (hm:MtR X id r) (ho:PE X o to) (ha:PA X (e::es) t)
  (hbase:attributeBase o name X.env (eval o X.env)=eval o X.env:=by rfl)
  (hfew:((backTo cpos (starEach (e::es) X.env)).all (fun x=>!x.1) && (backToKw cpos (keywordEach [] X.env)).all (fun x=>x.1.isSome)
   && decide ((e::es).length+([]:List Keyword).length+(if ([]:List Keyword).isEmpty then 0 else 1) < 30))=true:=by rfl)
  (hline:(apos.endLine == cpos.line)=true:=by rfl) (hs:starEach (e::es) X.env=(false,eval e X.env)::starEach es X.env:=by rfl) (hplain:(backTo cpos (starEach es X.env)).any (·.1)=false:=by rfl) :
  PE X (.Call (.Attribute o name apos) (e::es) [] cpos) (tBM X.K T r to t):=by
 intro pins s σ H Q I h
 refine wpAny_Call_method_late hbase hfew hline rfl (thn (ho pins s σ H _ I h) fun v s1 ⟨x,H1,I1,r1,ty,q1⟩=>?_)
 obtain ⟨h1,h2⟩:=tyV_is I1 r1 ty
 refine ⟨T,id,pa,slot,hty,h1,h2,?_⟩
 have hA:=ha cpos pins s1 σ H1 _ I1 q1
 rw [hs] at hA ⊢
 refine Calls.callWith_builtin (by show (false || (backTo cpos (starEach es X.env)).any (·.1))=false; rw [hplain] <;> rfl) (Calls.evalArgs_plain ?_)
 exact thn hA fun us s2 ⟨vs,H2,I2,r2,q2⟩=>hm pins s2 σ H2 x vs v us Q I2 r1 r2 q2
end
def MtM (X:Cx) (id:String) (r:V→List V→Hp→VK→Prop):Prop :=
 ∀ (pins:List (Addr×Obj)) (s:Shared) (σ:St) (H:Hp) (x:V) (xs:List V) (v:Value) (us:List Value) (Q:VK),Inv X pins σ H s→RelV x v→Vals xs us→r x xs H Q →
  wpAny (model X.prog X.w) X.A (call (.builtin id) (v::us)) (EP X pins σ Q) X.xe s
theorem Vals.one:∀ {x:V} {us:List Value},Vals [x] us→∃ u,us=[u]∧RelV x u
 | _,_,.cons r .nil=>⟨_,rfl,r⟩
theorem Vals.eraseIdx:∀ {xs:List V} {us:List Value} (i:Nat),Vals xs us→Vals (xs.eraseIdx i) (us.eraseIdx i)
 | _,_,_,.nil=>.nil
 | _,_,0,.cons _ t=>t
 | _,_,i+1,.cons r t=>.cons r (Vals.eraseIdx i t)
theorem Vals.rep {xs:List V} {us:List Value} (h:Vals xs us):∀ k:Nat,Vals (List.replicate k xs).flatten (List.replicate k us).flatten
 | 0=>.nil
 | k+1=>by
  rw [List.replicate_succ,List.replicate_succ,List.flatten_cons,List.flatten_cons]
  exact Vals.append h (Vals.rep h k)
theorem len_erase {α:Type}:∀ (l:List α) (i:Nat),(l.eraseIdx i).length≤l.length
 | [],_=>Nat.le_refl _
 | _::_,0=>Nat.le_succ _
 | _::r,i+1=>Nat.succ_le_succ (len_erase r i)
theorem foldl_rep (its:List Value):∀ (k:Nat) (acc:List Value),
  List.foldl (fun x1 x2=>x1 ++ x2) acc.toArray (List.replicate k its.toArray)=(acc ++ (List.replicate k its).flatten).toArray
 | 0,acc=>by simp
 | k+1,acc=>by
  have e:acc.toArray ++ its.toArray=(acc ++ its).toArray:=by simp
  have e2:(acc ++ its) ++ (List.replicate k its).flatten=acc ++ (List.replicate (k+1) its).flatten:=by
   rw [List.replicate_succ,List.flatten_cons,List.append_assoc]
  rw [←e2,←foldl_rep its k (acc ++ its),←e,List.replicate_succ,List.foldl_cons]
section
variable {X:Cx} {pins:List (Addr×Obj)} {σ:St} {H:Hp} {s:Shared} {l b:Addr} {xs ys zs:List V}
theorem Inv.lset {its its':List Value} {n:Nat} {f:Array Value→Array Value} {t':Nat} (I:Inv X pins σ H s) (hH:H l=some (.lst xs))
  (e:s.heap.get? l=some { cls:=.type "list",data:=.seq its.toArray n }) (hf:f its.toArray=its'.toArray) (hv:Vals ys its') (hz:ys.length≤sizeLine) :
  Inv X pins σ (upd H l (.lst ys)) { s with heap:=s.heap.update l (Obj.mapSeq f),toks:=t' }:=by
 have q:=PySem.IsL.update e f
 rw [hf] at q
 refine I.write (x:=l) (e:=l) (by rw [hH]; exact trivial) (.inl rfl) (fun b' u hb hu=>(Heap.get?_update_other s.heap (Obj.mapSeq f) (Ne.symm hb)).trans hu) ⟨_,q⟩ ?_
 exact ⟨hz,its',_,hv,q⟩
theorem Inv.lnew {its:List Value} {t':Nat} (I:Inv X pins σ H s) (hv:Vals ys its) (hz:ys.length≤sizeLine) :
  Inv X pins σ (upd H s.heap.objs.size (.lst ys)) { s with heap:=s.heap.push { cls:=.type "list",data:=.seq its.toArray },toks:=t' } :=
 I.laid (fun _ _ q=>Heap.get?_push_of_some _ q) (Nat.le_refl _) ⟨hz,its,0,hv,Heap.get?_push_size _ rfl⟩
theorem Inv.fresh (I:Inv X pins σ H s):H s.heap.objs.size=none:=I.hok.fresh (Nat.le_refl _)
theorem Inv.lstM (I:Inv X pins σ H s) (hH:H l=some (.lst xs)):xs.length≤sizeLine∧∃ (its:List Value) (n:Nat),Vals xs its∧xs.length=its.length∧s.heap.get? l=some { cls:=.type "list",data:=.seq its.toArray n }:=by
 obtain ⟨z,its,n,r,e⟩:=I.hok l _ hH
 exact ⟨z,its,n,r,r.length,e⟩
theorem notLongL {n:Nat} (h:n≤sizeLine):Builtin.List.listTooLong n=false:=by
 unfold Builtin.List.listTooLong
 exact decide_eq_false (by omega)
end
section
variable {X:Cx}
def rAppend:V→List V→Hp→VK→Prop:=fun x vs H Q=>∃ l xs y,x=.ref l∧vs=[y]∧H l=some (.lst xs)∧xs.length < sizeLine∧Q .non (upd H l (.lst (xs ++ [y])))
theorem mt_append:MtM X "list.append" rAppend:=by
 intro pins s σ H x vs v us Q I rx rv h
 obtain ⟨l,xs,y,rfl,rfl,hH,hz,q⟩:=h
 cases rx
 obtain ⟨u,rfl,ru⟩:=rv.one
 obtain ⟨z,its,n,r,hl,e⟩:=I.lstM hH
 refine call_meets F.slot_list_append ⟨_,e,rfl⟩ F.entry_list_append (F.args_list_append_2 _ _) (PySem.list_append l its.toArray n u (by rw [List.size_toArray]; omega)) ⟨e,?_⟩
 refine ⟨.non,_,I.lset (its':=its ++ [u]) hH e (by simp) (r.append (.cons ru .nil)) ?_,rfl,q⟩
 rw [List.length_append,List.length_singleton]
 omega
def rExtend:V→List V→Hp→VK→Prop:=fun x vs H Q=>∃ l b xs zs,x=.ref l∧vs=[.ref b]∧H l=some (.lst xs)∧H b=some (.lst zs)∧xs.length+zs.length≤sizeLine∧Q .non (upd H l (.lst (xs ++ zs)))
theorem mt_extend:MtM X "list.extend" rExtend:=by
 intro pins s σ H x vs v us Q I rx rv h
 obtain ⟨l,b,xs,zs,rfl,rfl,hH,hB,hz,q⟩:=h
 cases rx
 obtain ⟨u,rfl,ru⟩:=rv.one
 cases ru
 obtain ⟨z,its,n,r,hl,e⟩:=I.lstM hH
 obtain ⟨z2,its2,n2,r2,hl2,e2⟩:=I.lstM hB
 have hsz:its.toArray.size+its2.toArray.size≤sizeLine:=by rw [List.size_toArray,List.size_toArray]; omega
 have hlong:¬ (!its.toArray.isEmpty && Builtin.List.listTooLong (its.toArray.size+its2.toArray.size))=true:=by
  rw [notLongL hsz,Bool.and_false]
  exact Bool.false_ne_true
 refine call_meets F.slot_list_extend ⟨_,e,rfl⟩ F.entry_list_extend (F.args_list_extend_2 _ _)
  (AutoSeq1.list_extend_list_list_0 l its.toArray n b its2.toArray n2 hlong (by rw [List.size_toArray]; omega) (by omega)) ⟨e,e2,?_⟩
 refine ⟨.non,_,I.lset (its':=its ++ its2) hH e (by simp) (r.append r2) ?_,rfl,q⟩
 rw [List.length_append]
 omega
def rPopAt:V→List V→Hp→VK→Prop:=fun x vs H Q=>∃ l xs i k y,x=.ref l∧vs=[.int i]∧H l=some (.lst xs)∧-(2 ^ 63)≤i∧i < 2 ^ 63∧seqIndex? i xs.length=some k∧xs[k]? = some y∧Q y (upd H l (.lst (xs.eraseIdx k)))
theorem mt_popAt:MtM X "list.pop" rPopAt:=by
 intro pins s σ H x vs v us Q I rx rv h
 obtain ⟨l,xs,i,k,y,rfl,rfl,hH,h1,h2,hk,hy,q⟩:=h
 cases rx
 obtain ⟨u,rfl,ru⟩:=rv.one
 obtain ⟨t,rfl⟩:=ru
 obtain ⟨z,its,n,r,hl,e⟩:=I.lstM hH
 obtain ⟨w,hw,rw'⟩:=r.get hy
 refine call_meets F.slot_list_pop ⟨_,e,rfl⟩ F.entry_list_pop (F.args_list_pop_2 _ _)
  (MeetsSeq.list_pop_at l its.toArray n i t k w (fitsIndex_both h1 h2) (by rw [List.size_toArray,←hl]; exact hk) (by rw [←Array.getElem?_toList]; exact hw) (by rw [List.size_toArray]; omega)) ⟨e,?_⟩
 refine ⟨y,_,I.lset (its':=its.eraseIdx k) hH e ?_ (r.eraseIdx k) ?_,rw',q⟩
 · show its.toArray.eraseIdxIfInBounds k=(its.eraseIdx k).toArray
   rw [List.eraseIdxIfInBounds_toArray]
 · have:=len_erase xs k
   omega
def rCat:R2:=fun x y H Q=>∃ l b xs zs,x=.ref l∧y=.ref b∧H l=some (.lst xs)∧H b=some (.lst zs)∧xs.length+zs.length≤sizeLine∧∀ p,H p=none→Q (.ref p) (upd H p (.lst (xs ++ zs)))
theorem op_cat:OpR X (binaryOp .Add) rCat:=by
 intro pins s σ H x y v u Q I rx ry h
 obtain ⟨l,b,xs,zs,rfl,rfl,hH,hB,hz,q⟩:=h
 cases rx
 cases ry
 obtain ⟨z,its,n,r,hl,e⟩:=I.lstM hH
 obtain ⟨z2,its2,n2,r2,hl2,e2⟩:=I.lstM hB
 refine PySem.P.add_list e e2 ?_ (by rw [List.size_toArray,List.size_toArray]; omega)
 have ea:its.toArray ++ its2.toArray=(its ++ its2).toArray:=by simp
 rw [ea]
 exact ⟨.ref _,_,I.lnew (t':=s.toks) (r.append r2) (by rw [List.length_append]; omega),rfl,q _ I.fresh⟩
def rRep:R2:=fun x y H Q=>∃ l k xs,x=.ref l∧y=.int k∧H l=some (.lst xs)∧-(2 ^ 63)≤k∧k < 2 ^ 63∧xs.length * k.toNat≤sizeLine ∧
 ∀ p,H p=none→Q (.ref p) (upd H p (.lst (List.replicate k.toNat xs).flatten))
theorem len_rep {α:Type} (xs:List α) (k:Nat):(List.replicate k xs).flatten.length=k * xs.length:=by
 induction k with
 | zero=>simp
 | succ k ih=>rw [List.replicate_succ,List.flatten_cons,List.length_append,ih,Nat.succ_mul,Nat.add_comm]
theorem op_rep:OpR X (binaryOp .Mult) rRep:=by
 intro pins s σ H x y v u Q I rx ry h
 obtain ⟨l,k,xs,rfl,rfl,hH,h1,h2,hz,q⟩:=h
 cases rx
 obtain ⟨t,rfl⟩:=ry
 obtain ⟨z,its,n,r,hl,e⟩:=I.lstM hH
 have hlen:its.toArray.size * k.toNat≤sizeLine:=by rw [List.size_toArray,←hl]; exact hz
 have hcap:¬ its.toArray.size * k.toNat > (2 ^ 63 - 1) / 8:=by
  have:(sizeLine:Nat)≤(2 ^ 63 - 1) / 8:=by decide
  omega
 have hfit:¬ (!Builtin.List.listFitsIndex k)=true:=by
  rw [fitsIndex_both h1 h2]
  exact Bool.false_ne_true
 have hlong:¬ Builtin.List.listTooLong (its.toArray.size * k.toNat)=true:=by
  rw [notLongL hlen]
  exact Bool.false_ne_true
 have hnew:List.foldl (fun x1 x2=>x1 ++ x2) #[] (List.replicate (if its.toArray.isEmpty=true then 0 else k.toNat) its.toArray)=(List.replicate k.toNat its).flatten.toArray:=by
  have f0:∀ m:Nat,List.foldl (fun x1 x2=>x1 ++ x2) #[] (List.replicate m its.toArray)=(List.replicate m its).flatten.toArray:=fun m=>by
   have:=foldl_rep its m []
   rw [List.nil_append] at this
   exact this
  rw [f0]
  cases its with
  | nil=>simp
  | cons a r'=>rw [if_neg (by simp)]
 refine wpAny_binaryOp_repeat_ref (T:="list") (U:="int") (by decide) ⟨_,e,rfl⟩ (fun s'=>typeIs_int s' k t) noFill_list_mul F.fills_int_mul F.slot_int_rmul repeat_list F.slot_int_index.lookup
  (call_meets F.slot_int_rmul (typeIs_int s k t) F.entry_int_rmul (F.args_int_rmul_2 _ _) (int___rmul___int_list k t l its.toArray n)
   ⟨e,rfl,⟨_,e,rfl⟩,call_meets F.slot_list_mul ⟨_,e,rfl⟩ F.entry_list_mul (F.args_list_mul_2 _ _) (AutoListH.list___mul___list_int_3 l its.toArray n k t hfit hcap hlong) ⟨e,?_⟩⟩)
 rw [hnew]
 exact ⟨.ref _,_,I.lnew (t':=s.toks) (r.rep k.toNat) (by rw [len_rep,Nat.mul_comm]; exact hz),rfl,q _ I.fresh⟩
end
section
variable {prog:Program} {w:World} {A:Around} {E:Value→Shared→Prop} {s:Shared}
set_option maxRecDepth 100000 in
end
section
variable {X:Cx}
end
end L2
namespace Att
open PySem PySem.W PySem.Calls PyProof.Rows
theorem ints_of_wellAll {P:Params} {h:Heap}:∀ (ns:List Int) (vs:List Value),WellAll P h vs (ns.map WData.int)→IntsAre vs ns:=by
 intro ns
 induction ns with
 | nil =>
  intro vs w
  rw [List.map_nil] at w
  cases w
  exact .nil
 | cons n ns ih =>
  intro vs w
  rw [List.map_cons] at w
  cases w with
  | cons a b =>
   cases a
   exact .cons _ _ (ih _ b)
theorem script_of {l:OpenLaw} {n:Nat} (hn:l.most=some n) {P:Params} {h:Heap} {args:List WData} {vals:List Value}
  (hpre:l.row.toRowW.claim.pre args=true) (hwl:WellAll P h vals args) :
  ∃ a vs ns,vals=[Value.ref a]∧args=[WData.list (ns.map WData.int)]∧h.get? a=some { cls:=.type "list",data:=.seq vs.toArray }∧IntsAre vs ns∧ns.length≤n:=by
 have hsh:WShape.hasAll [] args [.list .int]=true:=(pre_splitW hpre).1
 have hc:l.pre.holds [] { args:=args }=true:=(pre_splitW hpre).2
 obtain ⟨d,r,rfl,h1,h2⟩:=hasAllW_cons hsh
 obtain rfl:=hasAllW_nil h2
 obtain ⟨xs,rfl,h3⟩:=hasW_list h1
 obtain ⟨ns,rfl⟩:=items_int h3
 have hlen:ns.length≤n:=by
  unfold OpenLaw.pre at hc
  have h4:(WTm.not (.lt (.lit (.int (n:Int))) (.len (.arg 0)))).holds [] { args:=[.list (ns.map .int)] }=true:=by
   have h4:=(holds_andW hc).1
   rw [hn] at h4
   exact h4
  have h5:=condW_of h4 (w_not (w_lt w_lit (w_len_list (w_arg rfl))))
  rw [List.length_map] at h5
  refine Nat.le_of_not_lt fun q=>?_
  have q':(n:Int) < ((ns.length:Nat):Int):=by omega
  first
   | (rw [decide_eq_true q'] at h5; exact absurd h5 (by decide))
   | (simp at h5; omega)
 cases hwl with
 | cons w1 w2 =>
  cases w2
  cases w1 with
  | list ho hall=>exact ⟨_,_,ns,rfl,rfl,ho,ints_of_wellAll ns _ hall,hlen⟩
theorem post_true (l:OpenLaw) (args:List WData):l.row.toRowW.claim.post args (.bool true) args=true :=
 postW_of (r:=l.row.toRowW) (X:=(true == true))
  (show WShape.has [] (.bool true) .bool=true by first | rfl | decide | simp [WShape.has,WShape.arms,WShape.armsAll])
  (show (WTm.eq .res (.lit (.bool true))).value [] { args:=args,res:=some (.bool true),after:=args }=some (.bool (true == true)) from w_eq_bool (w_res rfl) w_lit) rfl
section
variable {prog:Program} {w:World} {A:Around} {E:Value→Shared→Prop} {s:Shared} {K:Frag}
end
end Att
namespace L2
open PySem PySem.Spec PyProof.Rows
theorem vals_ints:∀ {vs:List Value} {ns:List Int},IntsAre vs ns→Vals (ns.map V.int) vs
 | _,_,.nil=>.nil
 | _,_,.cons n t h=>.cons ⟨t,rfl⟩ (vals_ints h)
def Only (H:Hp):Prop:=∀ b,H b=none∨∃ o xs,H b=some (.frz o (.lst xs))
theorem law_call {P:Program} {w:World} {K:W.Frag} {mg mb:Str→Option Value} {CX:CXT} {k:Nat} {fa a:Addr} {fd:FuncData} {x:Str} {sp:Sp} {s₁:Shared} {vs:List Value} {ns:List Int}
  (KX:K.In s₁.heap) (hns:s₁.heap.Ns mainGlobals mg) (hb:s₁.heap.Ns builtinsNs mb) (hbb:∀ x:Str,x≠"__name__"→mb x=bootBuiltins x) (hlim:s₁.heap.NoLimit) (hg:s₁.gens=#[])
  (ha:s₁.heap.get? a=some { cls:=.type "list",data:=.seq vs.toArray }) (hi:IntsAre vs ns) (hl:ns.length≤sizeLine) (hr:Room k callerA)
  (F:∀ base:Heap,K.In base→base.Ns mainGlobals mg→FnOk P w K mg base CX k fa fd [x] sp) (hbind:∀ (s:Shared) (u:Value),BindsTo s fd ⟨[u],[]⟩ [(x,u)])
  (hsp:∀ H:Hp,Only H→SqL K H a (ns.map V.int)→sp [.ref a] H (fun v _=>v=.bl true) fun _ _ _=>False)
  (hCX:∀ H e s',CX [] H s₁ (fun _ _ _=>False) e s'→False) :
  codeAny (model P w) callerA (.call (.ref fa) ⟨[.ref a],[]⟩) (fun r s'=>r=.ok (.ret (.bool true))∧OldK s₁.heap s'.heap∧s'.os=s₁.os∧AllBare s'.gens) s₁:=by
 have rv:=vals_ints hi
 have lenV:=hi.length
 have core:∀ H:Hp,Only H→SqL K H a (ns.map V.int)→HOk P w H s₁.heap→(∀ b,H b≠none→b=a)→(H a≠none→K.lookup a=none) →
   codeAny (model P w) callerA (.call (.ref fa) ⟨[.ref a],[]⟩) (fun r s'=>r=.ok (.ret (.bool true))∧OldK s₁.heap s'.heap∧s'.os=s₁.os∧AllBare s'.gens) s₁:=by
  intro H hO hS hok hA hK
  have base_of:∀ {b:Addr} {o:Obj},s₁.heap.get? b=some o→H b=none→(hidT s₁.heap H).get? b=some o:=fun e n=>hidT_get e n
  have noA:∀ {b:Addr} {o:Obj} {es:Array DictEntry} {ep:Nat},s₁.heap.get? b=some o→o.data=.dict es ep→H b=none:=fun {b o es ep} e d=>by
   cases q:H b with
   | none=>rfl
   | some u =>
    have e':b=a:=hA b (by rw [q]; simp)
    subst e'
    rw [ha] at e; cases e
    have d':Data.seq vs.toArray _=Data.dict es ep:=d
    cases d'
  have nsK:∀ {b:Addr} {m:Str→Option Value},s₁.heap.Ns b m→(hidT s₁.heap H).Ns b m:=fun {b m} ⟨o,es,ep,e,d,r⟩=>⟨o,es,ep,base_of e (noA e d),d,r⟩
  have hKb:K.In (hidT s₁.heap H):=fun b o e=>base_of (KX b o e) (by
   cases q:H b with
   | none=>rfl
   | some u =>
    have e':b=a:=hA b (by rw [q]; simp)
    subst e'
    rw [hK (by rw [q]; simp)] at e; cases e)
  have hM:Mod K mg (hidT s₁.heap H):=⟨hKb,nsK hns,⟨mb,nsK hb,hbb⟩,let ⟨mc,h1,h2⟩:=hlim; ⟨mc,nsK h1,h2⟩⟩
  have e0:Env0 P w K mg (hidT s₁.heap H) callerA [] s₁ H:=⟨rfl,hM,fun b o e=>of_hidT e,Nat.le_of_eq (hidT_size _ _),trivial,fun b hb=>absurd (show b∈([]:List Addr) from hb) (by simp),hok,.of_eq hg⟩
  refine codeAny_mono ((F _ hKb (nsK hns)).run callerA [] s₁ H ⟨[.ref a],[]⟩ [.ref a] [.ref a] _ _ hr e0 (hbind s₁ (.ref a)) (.cons rfl .nil) (hsp H hO hS)) fun r s' h=>?_
  cases r with
  | error e=>exact (hCX H e s' h).elim
  | ok fl =>
   cases fl with
   | next=>exact False.elim h
   | brk=>exact False.elim h
   | cont=>exact False.elim h
   | ret u =>
    obtain ⟨v,H',os,bare,un,hok',r',q⟩:=h
    have q':v=.bl true:=q
    subst q'
    obtain rfl:u=Value.bool true:=r'
    refine ⟨rfl,OldK.of_keep fun b o e=>?_,os,bare⟩
    cases q:H b with
    | none=>exact un.keep b o e q (by intro z; exact absurd (show b∈([]:List Addr) from z) (by simp)) (by simp)
    | some u =>
     rcases hO b with z | ⟨ob,xs,z⟩
     · rw [q] at z; cases z
     · have z2:=un.frzs b ob _ z
       obtain ⟨e1,_⟩:=hok b _ z
       obtain ⟨e2,_⟩:=hok' b _ z2
       rw [e] at e1; cases e1
       exact e2
 cases hk:K.lookup a with
 | some o =>
  have e:=KX a o hk
  rw [ha] at e
  cases e
  refine core (fun _=>none) (fun _=>.inl rfl) (.inr ⟨_,vs.toArray,_,hk,rfl,rfl,rfl,by rw [List.size_toArray,lenV]; exact hl,by simpa using rv⟩) (fun b u z=>by have z':(none:Option HO)=some u:=z; cases z') (fun b z=>absurd rfl z) fun z=>absurd rfl z
 | none =>
  refine core (fun b=>if b=a then some (.frz { cls:=.type "list",data:=.seq vs.toArray } (.lst (ns.map V.int))) else none) (fun b=>?_) (.inl (.inr ⟨{ cls:=.type "list",data:=.seq vs.toArray },if_pos rfl⟩)) (fun b u z=>?_) (fun b z=>?_) fun _=>hk
  · by_cases hb:b=a
    · exact .inr ⟨_,_,if_pos hb⟩
    · exact .inl (if_neg hb)
  · by_cases hb:b=a
    · have z':=(if_pos hb).symm.trans z
      cases z'
      subst hb
      exact ⟨ha,by rw [List.length_map]; exact hl,vs,_,rv,ha⟩
    · have z':=(if_neg hb).symm.trans z
      cases z'
  · by_cases hb:b=a
    · exact hb
    · exact absurd (if_neg hb) z
def defArgs (s:Stmt):Arguments:=match s with
 | .FunctionDef _ a _ _ _ _ _ _ _ _=>a
 | _=>{ posonlyargs:=[],args:=[],vararg:=none,kwonlyargs:=[],kw_defaults:=[],kwarg:=none,defaults:=[] }
def defBody (s:Stmt):List Stmt:=match s with
 | .FunctionDef _ _ b _ _ _ _ _ _ _=>b
 | _=>[]
def defScope (s:Stmt):Scope:=match s with
 | .FunctionDef _ _ _ _ _ _ sc _ _ _=>sc
 | _=>{ kind:=.function,names:=[],isGenerator:=false,isCoroutine:=false }
abbrev CX0:CXT:=fun _ _ _ _ _ _=>False
abbrev E0:XK:=fun _ _ _=>False
theorem pass0 {X:Cx}:Passes CX0 X E0:=fun _ _ _ _ _ _ _ h=>h.elim
structure Fun (K:W.Frag) (x qual:Str) (st:Stmt) (f:Addr) (fd:FuncData):Prop where
 ex:∃ (oc:Value) (od:Option Addr) (kV doc pm:Value) (an:Option Addr) (cdv ct:Value) (osl:Array (Option Value)),
  fd=W.fnOf x qual (defArgs st) (defBody st) (defScope st) .none kV doc pm an cdv ct∧K.lookup f=some ⟨oc,od,.func fd,osl⟩∧W.codeIn K cdv qual=true
 kp:W.keepIn K (.ref f)=true
section
variable {P:Program} {w:World} {K:W.Frag} {mg:Str→Option Value} {base:Heap}
theorem Fun.ok {x qual:Str} {st:Stmt} {f:Addr} {fd:FuncData} {N ps:List Str} {k:Nat} {sp:Sp} (F:Fun K x qual st f fd) (S:FnScope N ps (defScope st)) (len:∀ vs H Q E,sp vs H Q E→vs.length=ps.length)
  (hbody:∀ (cdv:Value) (A:Around) (outer:List Env) (s:Shared) (H:Hp) (vs:List V) (Q:VK) (E:XK),Room k (A.deeper (envOfC qual (defScope st) s.heap.objs.size f cdv))→sp vs H Q E →
   ∃ t,PSs (cxOf CX0 P w K mg base N qual (defScope st) f cdv A outer s H E).nox (defBody st) t∧t { nx:=fun _ H'=>Q .non H',rt:=Q } (start N vs) H):FnOk P w K mg base CX0 (k+1) f fd ps sp:=by
 obtain ⟨oc,od,kV,doc,pm,an,cdv,ct,osl,rfl,lk,hcd⟩:=F.ex
 refine fn_of lk hcd S len fun A outer s H vs Q E hr hsp=>?_
 obtain ⟨t,h,q⟩:=hbody cdv A outer s H vs Q E hr hsp
 exact ⟨t,h.nox,q⟩
theorem Fun.binds {x qual:Str} {st:Stmt} {f:Addr} {fd:FuncData} {ps:List Str} (F:Fun K x qual st f fd)
  (h:∀ (kV doc pm:Value) (an:Option Addr) (cdv ct:Value) (us:List Value),us.length=ps.length→bindArgs (W.fnOf x qual (defArgs st) (defBody st) (defScope st) .none kV doc pm an cdv ct) ⟨us,[]⟩=pure (ps.zip us)):Binds K fd ps []:=by
 obtain ⟨oc,od,kV,doc,pm,an,cdv,ct,osl,rfl,lk,hcd⟩:=F.ex
 exact .all (h kV doc pm an cdv ct)
theorem fun_mk {x qual:Str} {st:Stmt} {f:Addr} {oc:Value} {od an:Option Addr} {osl:Array (Option Value)} {kV doc pm cdv ct:Value} (l:K.lookup f=some ⟨oc,od,.func (W.fnOf x qual (defArgs st) (defBody st) (defScope st) .none kV doc pm an cdv ct),osl⟩)
  (c:W.codeIn K cdv qual=true) (k:W.keepIn K (.ref f)=true):Fun K x qual st f (W.fnOf x qual (defArgs st) (defBody st) (defScope st) .none kV doc pm an cdv ct):=⟨⟨oc,od,kV,doc,pm,an,cdv,ct,osl,rfl,l,c⟩,k⟩
end
theorem small1000 {n:Nat} (h:n≤1000):n < sizeLine:=Nat.lt_of_le_of_lt h (by decide)
section
variable {X:Cx}
theorem pv (i:Nat) {x:Str} {pos:Pos} (hN:X.N[i]? = some x:=by rfl) (hv:Vis X.env.scope x:=by first | exact Or.inl rfl | exact Or.inr (Or.inl rfl) | exact Or.inr (Or.inr rfl)) (hd:(x == ("__debug__":Str))=false:=by decide)
  (hcd:(x == ("__classdict__":Str))=false:=by decide):PE X (.Name x pos) (tVar i):=pe_var hN hv hd hcd
end
theorem iteF {A B:Prop} (h:B):if false=true then A else B:=by
 rw [if_neg Bool.false_ne_true]
 exact h
theorem iteT {A B:Prop} (h:A):if true=true then A else B:=by
 rw [if_pos rfl]
 exact h
theorem ite2 {c A B:Prop} [Decidable c] (h1:c→A) (h2:¬ c→B):if c then A else B:=by
 by_cases h:c
 · rw [if_pos h]
   exact h1 h
 · rw [if_neg h]
   exact h2 h
theorem iteNS {c A B:Prop} [Decidable c] (hc:c) (h:B):if (!decide c)=true then A else B:=by
 rw [decide_eq_true hc]
 exact iteF h
def Same (H H':Hp):Prop:=∀ b o,H b=some o→H' b=some o
theorem Same.refl (H:Hp):Same H H:=fun _ _ h=>h
theorem Same.trans {H H1 H2:Hp} (a:Same H H1) (b:Same H1 H2):Same H H2:=fun c o h=>b c o (a c o h)
theorem Same.free {H H':Hp} (e:Same H H') {l:Addr} (h:H' l=Option.none):H l=Option.none:=by
 cases q:H l with
 | none=>rfl
 | some o =>
  rw [e l o q] at h
  cases h
theorem Same.seq {K:W.Frag} {H H':Hp} {a:Addr} {xs:List V} (e:Same H H') (h:SqL K H a xs):SqL K H' a xs:=by
 rcases h with (h | ⟨o,h⟩) | h
 · exact .inl (.inl (e _ _ h))
 · exact .inl (.inr ⟨o,e _ _ h⟩)
 · exact .inr h
end L2
namespace LW
open PySem PySem.Builtin.Str PySem.StrLaws
theorem clampI (a n:Nat):max (0:Int) (min (a:Int) (n:Int))=((min a n:Nat):Int):=by
 rcases Nat.le_total a n with h | h
 · rw [Nat.min_eq_left h,Int.min_eq_left (Int.ofNat_le.mpr h),Int.max_eq_right (Int.natCast_nonneg _)]
 · rw [Nat.min_eq_right h,Int.min_eq_right (Int.ofNat_le.mpr h),Int.max_eq_right (Int.natCast_nonneg _)]
theorem clamped {a n:Nat} (h:a≤n):max (0:Int) (min (a:Int) (n:Int))=(a:Int):=by rw [clampI,Nat.min_eq_left h]
theorem nonneg (a:Nat):¬ ((a:Int) < 0):=Int.not_lt.mpr (Int.natCast_nonneg a)
theorem slice_nn (x:Str) (a b:Nat):(Txt.slice x (some (a:Int)) (some (b:Int))).cps.toList=(x.cps.toList.drop a).take (b - a):=by
 have hm:max (min a x.length) (min b x.length)≤x.length:=Nat.max_le.mpr ⟨Nat.min_le_right _ _,Nat.min_le_right _ _⟩
 have key:strSliceIndices (some (a:Int)) (some (b:Int)) 1 x.length=strSliceIndices (some ((min a x.length:Nat):Int)) (some ((max (min a x.length) (min b x.length):Nat):Int)) 1 x.length:=by
  have h1:=nonneg a
  have h2:=nonneg b
  have h3:=nonneg (min a x.length)
  have h4:=nonneg (max (min a x.length) (min b x.length))
  have e1:=clampI a x.length
  have e2:=clampI b x.length
  have e3:=clamped (Nat.min_le_right a x.length)
  have e4:=clamped hm
  simp only [strSliceIndices,h1,h2,h3,h4,if_false,e1,e2,e3,e4,show ((1:Int) > 0)=True from by simp,if_true]
  by_cases hab:min a x.length≤min b x.length
  · rw [Nat.max_eq_right hab]
  · have hba:=Nat.le_of_lt (Nat.lt_of_not_le hab)
    rw [Nat.max_eq_left hba]
    have q1:¬ (((min a x.length:Nat):Int) < ((min b x.length:Nat):Int)):=Int.not_lt.mpr (Int.ofNat_le.mpr hba)
    have q2:¬ (((min a x.length:Nat):Int) < ((min a x.length:Nat):Int)):=Int.lt_irrefl _
    simp only [sliceRange,show ((1:Int) > 0)=True from by simp,if_true,q1,q2,if_false]
 have hp:=sliceText_nat x (a:=min a x.length) (b:=max (min a x.length) (min b x.length)) (Nat.le_max_left _ _) hm
 have e:Txt.slice x (some (a:Int)) (some (b:Int))=sliceText x (some ((min a x.length:Nat):Int)) (some ((max (min a x.length) (min b x.length):Nat):Int)):=by
  unfold Txt.slice sliceText
  rw [key]
 rw [e,hp]
 show ((x.cps.toList.drop (min a x.length)).take (max (min a x.length) (min b x.length) - min a x.length)).toArray.toList=_
 have hl:x.cps.toList.length=x.length:=by simp [Str.length]
 rw [List.toList_toArray]
 by_cases ha:a≤x.length
 · rw [Nat.min_eq_left ha]
   by_cases hb:b≤x.length
   · rw [Nat.min_eq_left hb]
     congr 1
     rcases Nat.le_total a b with h | h
     · rw [Nat.max_eq_right h]
     · rw [Nat.max_eq_left h,Nat.sub_self,Nat.sub_eq_zero_of_le h]
   · have hb':=Nat.le_of_lt (Nat.lt_of_not_le hb)
     rw [List.take_of_length_le (by rw [List.length_drop,hl]; exact Nat.sub_le_sub_right (Nat.le_trans (Nat.le_min.mpr ⟨hb',Nat.le_refl _⟩) (Nat.le_max_right _ _)) a),List.take_of_length_le (by rw [List.length_drop,hl]; exact Nat.sub_le_sub_right hb' a)]
 · have ha':=Nat.le_of_lt (Nat.lt_of_not_le ha)
   rw [List.drop_eq_nil_of_le (by rw [hl]; exact Nat.le_min.mpr ⟨ha',Nat.le_refl _⟩),List.drop_eq_nil_of_le (by rw [hl]; exact ha')]
   simp
theorem slice_to (x:Str) (b:Nat):(Txt.slice x none (some (b:Int))).cps.toList=x.cps.toList.take b:=by
 have e:Txt.slice x none (some (b:Int))=Txt.slice x (some ((0:Nat):Int)) (some (b:Int)):=by unfold Txt.slice; rw [sliceIdx_none_lo] <;> rfl
 rw [e,slice_nn]
 simp
theorem slice_from (x:Str) (a:Nat):(Txt.slice x (some (a:Int)) none).cps.toList=x.cps.toList.drop a:=by
 have e:Txt.slice x (some (a:Int)) none=Txt.slice x (some (a:Int)) (some ((x.length:Nat):Int)):=by unfold Txt.slice; rw [sliceIdx_none_hi]
 rw [e,slice_nn]
 rw [List.take_of_length_le]
 rw [List.length_drop]
 simp [Str.length]
end LW
namespace LW
open PySem PySem.Spec PyProof.Rows L2
section
variable {X:Cx} {tg:Expr}
theorem op_mulB:OpR X (binaryOp .Mult) (rI (fun i j=>IntMulOk i j) fun i j=>.int (i * j)):=opI fun _ _ _ _ _ _ _ hc q=>mul_int q hc
def Its (lo c:Int) (n:Nat):It:=⟨fun i _=>i < n,fun i H x H'=>H'=H∧x=.int (lo+i * c),fun i _=>n≤i⟩
theorem turn_step {P:Program} {w:World} {K:W.Frag} {tg:Expr} (it:Addr) (lo c:Int) (n:Nat):Turn P w K tg (Its lo c n) [it] it (fun i h=>IsRangeIter h it (lo+(i:Nat) * c) ((n:Int) - (i:Nat)) c) where
 mem:=by simp
 obj:=fun i h st b hb=>by
  have e:b=it:=by simpa using hb
  subst e
  exact ⟨_,st,fun v z=>by
   have z':Data.fields _=Data.cell v:=z
   cases z'⟩
 keep:=fun i h h' st k=>k it (by simp) _ st
 item:=by
  intro X hP hw hK hc i pins s σ H E I hf st hg
  subst hP hw hK
  obtain ⟨f0,f1,f2,f3,f4,f5⟩:=hf it (by simp)
  have W:=Walks.range (prog:=X.prog) (w:=X.w) (I.ok.hd hc) it lo c n
  refine W.item i s _ _ hg st fun v h' tk hv st' kk=>?_
  obtain ⟨t,rfl⟩:=hv
  have I1:Inv X pins σ H { s with heap:=h',toks:=tk }:=I.turned (fun b o hb e=>kk b o (by simpa using hb) e) f0 f1 f3 f4 f5
  exact ⟨_,rfl,go_of (s:={ s with heap:=h',toks:=tk }) (n:="range_iterator") st' rfl rfl (by decide) ⟨.int (lo+i * c),H,I1,⟨t,rfl⟩,⟨rfl,rfl⟩,st',fun b hb=>(hf b hb).1⟩⟩
 done:=by
  intro X hP hw hK hc i pins s σ H E I hf st hg
  subst hP hw hK
  obtain ⟨f0,f1,f2,f3,f4,f5⟩:=hf it (by simp)
  exact wpAny_pyNext_range_end (I.ok.hd hc) st (by have:n≤i:=hg; omega) fun h' eb=>⟨rfl,I.turned (t':=s.toks) (fun b o hb e=>eb b o hb e) f0 f1 f3 f4 f5⟩
 self:=fun _ _ _ _ _ st h=>wpAny_pyIter_rangeiter st h
theorem rangeSize_down (a b:Int):Builtin.Range.rangeSize a b (-1)=if b < a then a - b else 0:=by
 unfold Builtin.Range.rangeSize
 have e:¬ ((-1:Int) > 0):=by decide
 rw [if_neg e]
 have e2:(-(-1:Int))=1:=by decide
 rw [e2,Int.ediv_one]
 split <;> omega
theorem small_down {a b:Int} (ha:-(2 ^ 62)≤a) (ha':a < 2 ^ 62) (hb:-(2 ^ 62)≤b) (hb':b < 2 ^ 62):Builtin.Range.small a b (-1)=true:=by
 unfold Builtin.Range.small
 rw [rangeSize_down]
 have e:¬ ((-1:Int) > 0):=by decide
 simp only [Builtin.Range.rangeFitsLong,Bool.and_eq_true,Bool.or_eq_true,decide_eq_true_eq,beq_iff_eq,if_neg e]
 split <;> omega
theorem range_itD {pins:List (Addr×Obj)} {σ:L2.St} {H:Hp} {s:Shared} {R:It→Hp→Prop} {E:Value→Shared→Prop} {lo hi:Int} {t u v:Tok} {tk:Nat} (I:Inv X pins σ H s) (h1:-(2 ^ 62)≤lo) (h2:lo < 2 ^ 62) (h3:-(2 ^ 62)≤hi) (h4:hi < 2 ^ 62)
  (q:R (Its lo (-1) (lo - hi).toNat) H):wpAny (model X.prog X.w) X.A (pyIter (.ref s.heap.objs.size)) (PIE X pins σ tg R) E { s with heap:=s.heap.push { cls:=.type "range",data:=.fields #[.int lo t,.int hi u,.int (-1) v] },toks:=tk }:=by
 refine wpAny_pyIter_range (IsRange.new ..) (small_down h1 h2 h3 h4) ?_
 have I1:Inv X pins σ H { s with heap:=s.heap.push { cls:=.type "range",data:=.fields #[.int lo t,.int hi u,.int (-1) v] },toks:=tk }:=I.kept fun b o e=>Heap.get?_push_of_some _ e
 refine ⟨(s.heap.push { cls:=.type "range",data:=.fields #[.int lo t,.int hi u,.int (-1) v] }).objs.size,[(s.heap.push { cls:=.type "range",data:=.fields #[.int lo t,.int hi u,.int (-1) v] }).objs.size],_,_,H,rfl,
  I1.kept (t':=tk) fun b o e=>Heap.get?_push_of_some _ e,turn_step _ lo (-1) (lo - hi).toNat,?_,fun b hb=>?_,q⟩
 · have e1:lo+((0:Nat):Int) * (-1)=lo:=by simp
   have e2:(((lo - hi).toNat:Nat):Int) - ((0:Nat):Int)=Builtin.Range.rangeSize lo hi (-1):=by rw [rangeSize_down]; split <;> omega
   show IsRangeIter _ _ (lo+((0:Nat):Int) * (-1)) ((((lo - hi).toNat:Nat):Int) - ((0:Nat):Int)) (-1)
   rw [e1,e2]
   exact Heap.get?_push_size _ rfl
 · have e:b=(s.heap.push { cls:=.type "range",data:=.fields #[.int lo t,.int hi u,.int (-1) v] }).objs.size:=by simpa using hb
   subst e
   exact I1.fpOk (Nat.le_refl _) (I1.hok.fresh (Nat.le_refl _))
def iRngD (ta:TA):TI:=fun σ H R=>ta σ H fun vs H1=>∃ i j:Int,vs=[.int i,.int j,.int (-1)]∧(-(2 ^ 62)≤i∧i < 2 ^ 62∧-(2 ^ 62)≤j∧j < 2 ^ 62)∧R (Its i (-1) (i - j).toNat) H1
theorem pi_rangeD {a b c:Expr} {ta:TA} {p pos:Pos} (hg:Gl X "range") (hm:X.mg "range"=none) (ha:PA X [a,b,c] ta)
  (hs:starEach [a,b,c] X.env=(false,eval a X.env)::starEach [b,c] X.env:=by rfl) (hpl:(backTo pos (starEach [b,c] X.env)).any (·.1)=false:=by rfl):PI X tg (.Call (.Name "range" p) [a,b,c] [] pos) (iRngD ta):=by
 intro pins s σ H R I h
 refine Call_ (ld_blt I hg hm boot_range (PyProof.Rows.callWith_type1 (thn (ha pos pins s σ H _ I h) fun us s1 ⟨vs,H1,I1,r1,q1⟩=>?_) hs hpl))
 obtain ⟨i,j,e,⟨q1,q2,q3,q4⟩,q⟩:=q1
 subst e
 cases r1 with
 | cons r rr =>
  cases rr with
  | cons r' rr =>
   cases rr with
   | cons r'' rr =>
    cases rr
    obtain ⟨t,rfl⟩:=r
    obtain ⟨t',rfl⟩:=r'
    obtain ⟨t'',rfl⟩:=r''
    exact call_range_3 (by decide) (range_itD I1 q1 q2 q3 q4 q) (Or.inl (PyProof.noPylong_small (by decide)))
theorem for_step {lo c:Int} {n:Nat} {g:TG} {tb:TS} {D:Ends} {σ:L2.St} {H:Hp} (Pv:Nat→L2.St→Hp→Prop) (h0:Pv 0 σ H)
  (hs:∀ i σ H,i < n→Pv i σ H→g (.int (lo+i * c)) σ H fun σ2 H2=>tb { D with nx:=Pv (i+1),ct:=Pv (i+1),bk:=D.nx } σ2 H2) (hd:∀ σ H,Pv n σ H→D.nx σ H) :
  ∃ W:Nat→Nat→L2.St→Hp→Prop,(∃ m,W 0 m σ H)∧∀ i m σ H,W i m σ H →
   ((Its lo c n).stop i H∧D.nx σ H)∨((Its lo c n).go i H∧∃ N:L2.St→Hp→Prop,(∀ σ' H',N σ' H'→∃ m',m' < m∧W (i+1) m' σ' H')∧∀ x H',(Its lo c n).yld i H x H'→g x σ H' fun σ2 H2=>tb { D with nx:=N,ct:=N,bk:=D.nx } σ2 H2):=by
 refine ⟨fun i m σ H=>m=n - i∧i≤n∧Pv i σ H,⟨n,by simp,Nat.zero_le _,h0⟩,?_⟩
 rintro i m σ H ⟨rfl,hi,p⟩
 by_cases hlt:i < n
 · refine .inr ⟨hlt,Pv (i+1),fun σ' H' p'=>⟨n - (i+1),by omega,rfl,hlt,p'⟩,fun x H' y=>?_⟩
   obtain ⟨e,y⟩:=y
   subst e y
   exact hs i σ _ hlt p
 · have e:i=n:=by omega
   subst e
   exact .inl ⟨Nat.le_refl _,hd σ H p⟩
end
section
variable {prog:Program} {w:World} {A:Around} {E:Value→Shared→Prop} {s:Shared}
end
section
variable {X:Cx} {tg:Expr}
def rSlS:V→Option Int→Option Int→Hp→VK→Prop:=fun x lo hi H Q=>∃ z,x=.str z∧z.length≤sizeLine∧Q (.str (Txt.slice z lo hi)) H
theorem sl_str:SlR X rSlS:=by
 intro pins s σ H x v vl vu lo hi sl Q I rx hs pl pu h
 obtain ⟨z,rfl,hz,q⟩:=h
 obtain ⟨t,rfl⟩:=rx
 refine ⟨"str",_,F.slot_str_getitem.lookup,typeIs_str _ _ _,?_⟩
 have fin:∀ (l u:Option (Int×Tok)),l.map (·.1)=lo→u.map (·.1)=hi→s.heap.IsSlice sl l u none→wpAny (model X.prog X.w) X.A (getItem (.str z t) (.ref sl)) (EP X pins σ Q) X.xe s:=fun l u e1 e2 hs'=>by
  refine wpAny_getItem_str_slice hs' rfl (post_val_or_str ⟨?_,fun t' k=>?_⟩)
  · subst e1 e2; exact Nat.le_trans (Txt.slice_le z _ _) hz
  · subst e1 e2; exact ⟨.str (Txt.slice z _ _),H,I.tok _,⟨_,rfl⟩,q⟩
 cases pl with
 | none =>
  cases pu with
  | none=>exact fin none none rfl rfl hs
  | int j u=>exact fin none (some (j,u)) rfl rfl hs
 | int i ui =>
  cases pu with
  | none=>exact fin (some (i,ui)) none rfl rfl hs
  | int j u=>exact fin (some (i,ui)) (some (j,u)) rfl rfl hs
theorem mt_endswith:MtR X "str.endswith" (fun x vs H Q=>∃ a b,x=.str a∧vs=[.str b]∧Q (.bl (Txt.endswith a b)) H):=by
 intro pins s σ H x xs v us Q I rx rs h
 obtain ⟨a,b,rfl,rfl,q⟩:=h
 obtain ⟨t,rfl⟩:=rx
 obtain ⟨u,rfl,t',rfl⟩:=vals1 rs
 exact SC.endswith ⟨.bl _,H,I,rfl,q⟩
end
section
variable {X:Cx} {st:Stmt} {rest:List Stmt} {t u:TS}
def tCut (t u:TS):TS:=fun D σ H=>∃ Pm:L2.St→Hp→Prop,t { D with nx:=Pm } σ H∧∀ σ' H',Pm σ' H'→u D σ' H'
theorem pss_cut (h1:PS X st t) (h2:PSs X rest u):PSs X (st::rest) (tCut t u):=by
 intro pins s σ H D I h
 obtain ⟨Pm,h,k⟩:=h
 refine wpAny_execs_cons (thn (h1 pins s σ H { D with nx:=Pm } I h) fun f s1 q=>?_)
 cases f with
 | next =>
  obtain ⟨σ',H',I',q⟩:=q
  exact h2 pins s1 σ' H' D I' (k σ' H' q)
 | ret v=>exact q
 | brk=>exact q
 | cont=>exact q
end
section
open PySem.W PySem.Builtin.Int PySem.Calls
theorem bits_le_weight:∀ (ns:List Int) (n:Int),n∈ns→intBits n≤WData.weightAll (ns.map WData.int)
 | [],_,h=>by cases h
 | m::r,n,h=>by
  have e:WData.weightAll ((m::r).map WData.int)=intBits m+1+WData.weightAll (r.map WData.int):=by
   simp only [List.map_cons,WData.weightAll,WData.weight,intBits]
  rw [e]
  rcases List.mem_cons.mp h with rfl | h
  · omega
  · have:=bits_le_weight r n h
    omega
theorem bits_script {ns:List Int} (h:WData.layableAll [WData.list (ns.map WData.int)]=true):∀ n∈ns,intBits n≤2 ^ 20:=fun n hn=>by
 have h1:=(layW_cons h).1
 have h3:=(layableW_iff.mp h1).2.2
 have h4:WData.weightAll (ns.map WData.int)≤2 ^ 20:=by simpa only [WData.weight] using h3
 exact Nat.le_trans (bits_le_weight ns n hn) h4
theorem attach_callB {l:OpenLaw} {n:Nat} {q:Program} {loose:List Str} {XP:(Str→Option Value)→Heap→Prop} {YP:World→Heap→Prop} {d:DefRec}
  (hn:l.most=some n) (hdf:d.params.defaults=[])
  (call:∀ (w:World) (s₀ s₁:Shared) (mg mb:Str→Option Value) (fa:Addr) (o:Obj) (pm cd doc:Value) (a:Addr) (vs:List Value) (ns:List Int),
   Ground q loose [] XP w s₀ mg mb s₁.heap→YP w s₁.heap →
   s₁.heap.get? fa=some o→o.data=.func (docDef d.name d.params d.body d.scope pm cd doc)→s₁.heap.CodeRec cd d.name→mg d.name=some (.ref fa) →
   s₁.heap.get? a=some { cls:=.type "list",data:=.seq vs.toArray }→IntsAre vs ns→ns.length≤n→(∀ i∈ns,intBits i≤2 ^ 20)→s₁.gens=#[] →
   codeAny (model l.prog w) callerA (.call (.ref fa) ⟨[.ref a],[]⟩) (fun r s'=>r=.ok (.ret (.bool true))∧OldK s₁.heap s'.heap∧s'.os=s₁.os∧AllBare s'.gens) s₁) :
  WalkO q loose XP YP l.row.toRowW d [] (fun f vs=>PySem.call f vs):=by
 intro w s₀ s₁ mg mb G Y fa o pm cd doc dV kV ho hd hcd hD hmg hg args vals as hpre hlay hrd hwl hlo
 obtain rfl:dV=.none:=Dflts.none hD hdf
 obtain rfl:kV=.none:=Dflts.noKw hD
 obtain ⟨a,vs,ns,rfl,rfl,hobj,hints,hlen⟩:=Att.script_of hn hpre hwl
 refine enter_call (codeAny_mono (call w s₀ s₁ mg mb fa o pm cd doc a vs ns G Y ho (fd_plain hd) hcd hmg hobj hints hlen (bits_script hlay) hg) fun r s' hq=>?_)
 obtain ⟨rfl,h2,h3,h4⟩:=hq
 exact ⟨.inl ⟨.bool true,.bool true,[],rfl,fun _=>rfl,.bool true,Att.post_true l _,fun _=>⟨List.Pairwise.nil,fun _ hm=>(nomatch hm)⟩⟩,h2,h3,h4⟩
theorem walk_ofB {l:W.OpenLaw} {n k:Nat} {q:Program} {loose:List Str} {XP:(Str→Option Value)→Heap→Prop} {YP:World→Heap→Prop} {d:DefRec} {K:Params→W.Frag} {CX:World→CXT} {sp:World→Sp} {x:Str}
  (hn:l.most=some n) (hn2:n≤sizeLine) (hdf:d.params.defaults=[]) (hr:Room k callerA)
  (hY:∀ (w:World) (h:Heap),YP w h→(K w.params).In h)
  (F:∀ (w:World) (mg:Str→Option Value) (fa:Addr) (h:Heap),(K w.params).In h→h.Ns mainGlobals mg→mg d.name=some (.ref fa) →
   ∃ fd:FuncData,(∀ (s:Shared) (u:Value),BindsTo s fd ⟨[u],[]⟩ [(x,u)]) ∧
    ∀ base:Heap,(K w.params).In base→base.Ns mainGlobals mg→FnOk l.prog w (K w.params) mg base (CX w) k fa fd [x] (sp w))
  (hsp:∀ (w:World) (H:Hp) (a:Addr) (ns:List Int),ns.length≤n→(∀ i∈ns,intBits i≤2 ^ 20)→Only H→SqL (K w.params) H a (ns.map V.int)→sp w [.ref a] H (fun v _=>v=.bl true) fun _ _ _=>False)
  (hCX:∀ (w:World) (H:Hp) (s:Shared) (e:Value) (s':Shared),CX w [] H s (fun _ _ _=>False) e s'→False) :
  W.WalkO q loose XP YP l.row.toRowW d [] (fun f vs=>PySem.call f vs):=by
 refine attach_callB hn hdf fun w s₀ s₁ mg mb fa o pm cd doc a vs ns G Y ho hd hcd hmg hobj hints hlen hbits hg=>?_
 have KX:=hY w _ Y
 obtain ⟨fd,hb,hF⟩:=F w mg fa _ KX G.T.g hmg
 exact law_call KX G.T.g G.T.b G.T.builtins G.T.nolimit hg hobj hints (Nat.le_trans hlen hn2) hr hF hb (fun H hO hS=>hsp w H a ns hlen hbits hO hS) fun H e s'=>hCX w H s₁ e s'
end
end LW
namespace LW
open PySem PySem.Spec PyProof.Rows L2
theorem closure_of {env:Env}:∀ (names:List (Str×NameKind)) (acc:List (Str×Addr)),(∀ y∈names,y.2=.free→∃ c,env.cells.lookup y.1=some c) →
  (∀ x c,acc.lookup x=some c→env.cells.lookup x=some c) →
  ∃ cl,(forIn names acc fun (y:Str×NameKind) (r:List (Str×Addr))=>(if (y.2 == NameKind.free)=true then (do let a ← cellOf env y.1; pure (ForInStep.yield ((y.1,a)::r))) else pure (ForInStep.yield r):Sem (ForInStep (List (Str×Addr)))))=(pure cl:Sem _) ∧
   (∀ x c,cl.lookup x=some c→env.cells.lookup x=some c)∧(∀ x,(∃ c,acc.lookup x=some c)∨(x,NameKind.free)∈names→∃ c,cl.lookup x=some c)
 | [],acc,_,ha=>⟨acc,rfl,ha,fun x h=>h.elim id fun z=>by cases z⟩
 | (n,k)::r,acc,hf,ha=>by
  by_cases hk:k=.free
  · subst hk
    obtain ⟨c,hc⟩:=hf (n,.free) List.mem_cons_self rfl
    have hl:∀ x d,((n,c)::acc).lookup x=some d→env.cells.lookup x=some d:=fun x d e=>by
     rw [List.lookup_cons] at e
     by_cases hx:(x == n)=true
     · rw [hx] at e
       have hx':x=n:=eq_of_beq hx
       have e':c=d:=Option.some.inj e
       rw [hx',←e']; exact hc
     · have hx':(x == n)=false:=by simpa using hx
       rw [hx'] at e
       exact ha x d e
    obtain ⟨cl,e1,e2,e3⟩:=closure_of r ((n,c)::acc) (fun y hy=>hf y (List.mem_cons_of_mem _ hy)) hl
    refine ⟨cl,?_,e2,fun x h=>e3 x ?_⟩
    · rw [List.forIn_cons]
      have ec:cellOf env n=pure c:=by unfold cellOf; rw [hc]
      simp only [beq_self_eq_true,if_true,ec,pure_bind]
      exact e1
    · rcases h with ⟨d,h⟩ | h
      · refine .inl ?_
        rw [List.lookup_cons]
        by_cases hx:(x == n)=true
        · rw [hx]; exact ⟨c,rfl⟩
        · have hx':(x == n)=false:=by simpa using hx
          rw [hx']; exact ⟨d,h⟩
      · rcases List.mem_cons.mp h with h | h
        · cases h
          exact .inl ⟨c,by rw [List.lookup_cons,beq_self_eq_true]⟩
        · exact .inr h
  · have hb:(k == NameKind.free)=false:=by simpa using hk
    obtain ⟨cl,e1,e2,e3⟩:=closure_of r acc (fun y hy=>hf y (List.mem_cons_of_mem _ hy)) ha
    refine ⟨cl,?_,e2,fun x h=>e3 x ?_⟩
    · rw [List.forIn_cons]
      simp only [hb,Bool.false_eq_true,if_false,pure_bind]
      exact e1
    · rcases h with h | h
      · exact .inl h
      · rcases List.mem_cons.mp h with h | h
        · cases h; exact absurd rfl hk
        · exact .inr h
theorem closureFor_of {env:Env} {scope:Scope} (hf:∀ y∈scope.names,y.2=.free→∃ c,env.cells.lookup y.1=some c) :
  ∃ cl,closureFor scope env=pure cl∧(∀ x c,cl.lookup x=some c→env.cells.lookup x=some c)∧∀ x,(x,NameKind.free)∈scope.names→∃ c,cl.lookup x=some c:=by
 obtain ⟨cl,e1,e2,e3⟩:=closure_of (env:=env) scope.names [] hf (fun x c e=>by cases e)
 refine ⟨cl,?_,e2,fun x h=>e3 x (.inr h)⟩
 unfold closureFor
 have e:(forIn scope.names [] fun (y:Str×NameKind) (r:List (Str×Addr))=>(match y with | (name,kind)=>if (kind == NameKind.free)=true then (do let a ← cellOf env name; pure (ForInStep.yield ((name,a)::r))) else pure (ForInStep.yield r):Sem (ForInStep (List (Str×Addr)))))=(pure cl:Sem _):=e1
 first
  | (rw [e]; rfl)
  | (simp only []; rw [e]; rfl)
  | (show (do let r ← _; pure r)=_; rw [e]; rfl)
def capOk (oN:List Str) (osc scope:Scope) (N':List Str) (cap:List (Option Nat)):Bool :=
 (List.range cap.length).all fun j=>match cap[j]?,N'[j]? with
  | some (some i),some x=>oN[i]? == some x && scope.names.contains (x,.free) && scope.names.lookup x == some .free && osc.names.lookup x == some .cell
  | _,_=>true
def capt (cap:List (Option Nat)) (σ:L2.St):L2.St:=cap.map fun o=>match o with | some i=>(σ[i]?).join | none=>none
theorem capOk_at {oN:List Str} {osc scope:Scope} {N':List Str} {cap:List (Option Nat)} (h:capOk oN osc scope N' cap=true) {j i:Nat} {x:Str} (h1:cap[j]? = some (some i)) (h2:N'[j]? = some x) :
  oN[i]? = some x∧(x,NameKind.free)∈scope.names∧scope.names.lookup x=some .free∧osc.names.lookup x=some .cell:=by
 have hj:j < cap.length:=(List.getElem?_eq_some_iff.mp h1).1
 have q:=List.all_eq_true.mp h j (List.mem_range.mpr hj)
 rw [h1,h2] at q
 simp only [Bool.and_eq_true,beq_iff_eq] at q
 obtain ⟨⟨⟨q1,q2⟩,q3⟩,q4⟩:=q
 exact ⟨q1,List.contains_iff_mem.mp q2,q3,q4⟩
theorem capt_at {cap:List (Option Nat)} {σ:L2.St} {j:Nat} {v:V} (h:(capt cap σ)[j]? = some (some v)):∃ i,cap[j]? = some (some i)∧σ[i]? = some (some v):=by
 unfold capt at h
 rw [List.getElem?_map] at h
 cases e:cap[j]? with
 | none=>rw [e] at h; cases h
 | some o =>
  rw [e] at h
  cases o with
  | none=>cases h
  | some i =>
   refine ⟨i,rfl,?_⟩
   have h':(σ[i]?).join=some v:=by simpa using h
   cases e2:σ[i]? with
   | none=>rw [e2] at h'; cases h'
   | some u=>rw [e2] at h'; exact congrArg some h'
theorem lookup_relabel_free {env:Env} (hk:env.scope.kind=.function):∀ {names:List (Str×NameKind)} {x:Str},names.lookup x=some .free→env.kindOf x=some .cell →
  (names.map fun (n,k)=>if (k == NameKind.free && env.scope.kind == .function && env.kindOf n == some .cell) then (n,NameKind.cell) else (n,k)).lookup x=some .cell
 | [],_,h,_=>by cases h
 | (n,k)::r,x,h,hc=>by
  have ih:=@lookup_relabel_free env hk r x
  show List.lookup x ((if (k == NameKind.free && env.scope.kind == .function && env.kindOf n == some .cell)=true then (n,NameKind.cell) else (n,k))::_)=_
  cases hx:x == n with
  | true =>
   simp only [List.lookup_cons,hx] at h
   cases h
   have hx':x=n:=eq_of_beq hx
   rw [if_pos (by rw [hk,←hx',hc]; decide)]
   simp [List.lookup_cons,hx]
  | false =>
   simp only [List.lookup_cons,hx] at h
   split <;> (simp only [List.lookup_cons,hx]; exact ih h hc)
theorem relabel_cf {env:Env}:∀ {names:List (Str×NameKind)} {x:Str},(∀ y∈names,y.2≠.cell) →
  ((names.map fun (n,k)=>if (k == NameKind.free && env.scope.kind == .function && env.kindOf n == some .cell) then (n,NameKind.cell) else (n,k)).lookup x=some .cell ∨
    (names.map fun (n,k)=>if (k == NameKind.free && env.scope.kind == .function && env.kindOf n == some .cell) then (n,NameKind.cell) else (n,k)).lookup x=some .free)→(x,NameKind.free)∈names
 | [],_,_,h=>by rcases h with h | h <;> cases h
 | (n,k)::r,x,hc,h=>by
  have ih:=@relabel_cf env r x (fun y hy=>hc y (List.mem_cons_of_mem _ hy))
  have h':List.lookup x ((if (k == NameKind.free && env.scope.kind == .function && env.kindOf n == some .cell)=true then (n,NameKind.cell) else (n,k))::(r.map fun (n,k)=>if (k == NameKind.free && env.scope.kind == .function && env.kindOf n == some .cell) then (n,NameKind.cell) else (n,k)))=some .cell ∨
    List.lookup x ((if (k == NameKind.free && env.scope.kind == .function && env.kindOf n == some .cell)=true then (n,NameKind.cell) else (n,k))::(r.map fun (n,k)=>if (k == NameKind.free && env.scope.kind == .function && env.kindOf n == some .cell) then (n,NameKind.cell) else (n,k)))=some .free:=h
  cases hx:x == n with
  | true =>
   have hx':x=n:=eq_of_beq hx
   subst hx'
   by_cases hq:(k == NameKind.free && env.scope.kind == .function && env.kindOf x == some .cell)=true
   · have hkf:k=.free:=by simp only [Bool.and_eq_true,beq_iff_eq] at hq; exact hq.1.1
     subst hkf
     exact List.mem_cons_self
   · rw [if_neg hq] at h'
     simp only [List.lookup_cons,beq_self_eq_true] at h'
     rcases h' with h' | h'
     · have e:k=.cell:=Option.some.inj h'
       exact absurd e (hc (x,k) List.mem_cons_self)
     · have e:k=.free:=Option.some.inj h'
       subst e
       exact List.mem_cons_self
  | false =>
   by_cases hq:(k == NameKind.free && env.scope.kind == .function && env.kindOf n == some .cell)=true
   · rw [if_pos hq] at h'
     simp only [List.lookup_cons,hx] at h'
     exact List.mem_cons_of_mem _ (ih h')
   · rw [if_neg hq] at h'
     simp only [List.lookup_cons,hx] at h'
     exact List.mem_cons_of_mem _ (ih h')
def cxComp (X:Cx) (scope:Scope) (cl:List (Str×Addr)) (N':List Str) (s₂:Shared) (H₂:Hp) (C:Addr) (fp:List Addr):Cx where
 prog:=X.prog
 w:=X.w
 K:=X.K
 mg:=X.mg
 base:=X.base
 A:=X.A
 N:=N'
 s₀:=s₂
 H₀:=H₂
 env:=compEnvC scope cl C X.env
 outer:=X.stack
 stack:=X.stack
 ex:=fp
 fn:=fun _=>false
 calm:=X.calm
 pn:=[]
 xe:=fun _ _=>False
def InComp (X:Cx) (scope:Scope) (N':List Str) (p:Cx→Prop):Prop:=∀ (cl:List (Str×Addr)) (s₂:Shared) (H₂:Hp) (C:Addr) (fp:List Addr),p (cxComp X scope cl N' s₂ H₂ C fp)
def tTurns (J:It) (g:TG) (tt:TT) (te:TE) (D:Addr) (Fin:Hp→Prop) (σ':L2.St) (H':Hp):Prop :=
 ∃ W:Nat→Nat→L2.St→Hp→Prop,(∃ m,W 0 m σ' H')∧∀ i m σ H,W i m σ H →
  (J.stop i H∧Fin H)∨(J.go i H∧∃ N:L2.St→Hp→Prop,(∀ σ' H',N σ' H'→∃ m',m' < m∧W (i+1) m' σ' H')∧∀ x H1,J.yld i H x H1→g x σ H1 fun σ2 H2=>tt σ2 H2 fun b H3 =>
   if b=true then te σ2 H3 fun y H4=>∃ ys,H4 D=some (.lst ys)∧ys.length < sizeLine∧N σ2 (upd H4 D (.lst (ys ++ [y]))) else N σ2 H3)
def tComp (cap:List (Option Nat)) (wi:TI) (g:TG) (tt:TT) (te:TE):TE:=fun σ H Q=>wi σ H fun J H1=>∀ D,H1 D=none→tTurns J g tt te D (Q (.ref D)) (capt cap σ) (upd H1 D (.lst []))
def tYes:TT:=fun _ H Q=>Q true H
section
variable {X:Cx} {elt iter:Expr} {x:Str} {px pos:Pos} {ifs:List Expr} {scope osc:Scope} {oN N':List Str} {cap:List (Option Nat)} {wi:TI} {g:TG} {tt:TT} {te:TE}
def PIf (X:Cx) (ifs:List Expr) (tt:TT):Prop :=
 ∀ (pins:List (Addr×Obj)) (s:Shared) (σ:L2.St) (H:Hp) (Q:Bool→Hp→Prop),Inv X pins σ H s→tt σ H Q →
  wpAny (model X.prog X.w) X.A (forIn ifs true fun c r=>if r=true then do let ok ← isTrue c X.env (eval c X.env); pure (ForInStep.yield ok) else pure (ForInStep.yield r)) (TP X pins σ Q) X.xe s
theorem pif_none:PIf X [] tYes:=fun _ _ _ H _ I h=>wpAny_tests_nil ⟨H,I,h⟩
theorem pif_one {c:Expr} (h:PT X c tt):PIf X [c] tt:=fun pins s σ H Q I q=>wpAny_tests_one (h pins s σ H Q I q)
theorem comp_core {fp:List Addr} {it:Addr} {tn:Nat→Heap→Prop} {J:It} {pins:List (Addr×Obj)} {σ:L2.St} {H:Hp} {s:Shared} {cl:List (Str×Addr)} {Fin:Addr→Hp→Prop} {RR:Value→Addr→Result→Shared→Prop} {E:Value→Shared→Prop}
  (hsc:X.env.scope=osc) (hoN:X.N=oN) (hcalm:X.calm=true) (hcell:∀ y∈scope.names,y.2≠.cell) (hkind:scope.kind=.function) (hcap:capOk oN osc scope N' cap=true) (hlen:cap.length=N'.length)
  (cl1:∀ x c,cl.lookup x=some c→X.env.cells.lookup x=some c) (cl2:∀ x,(x,NameKind.free)∈scope.names→∃ c,cl.lookup x=some c)
  (I:Inv X pins σ H s) (T:Turn X.prog X.w X.K (.Name x px) J fp it tn) (st:tn 0 s.heap) (hf:∀ b∈fp,FpOk X pins H b) (hfl:∀ b∈fp,b < s.heap.objs.size)
  (hg:InComp X scope N' fun Y=>PG Y (.Name x px) g) (ht:InComp X scope N' fun Y=>PIf Y ifs tt) (he:InComp X scope N' fun Y=>PE Y elt te)
  (h:∀ D,H D=none→tTurns J g tt te D (Fin D) (capt cap σ) (upd H D (.lst [])))
  (hRR:∀ (D C:Addr) (s':Shared) (H':Hp) (m:Str→Option Value),Inv X pins σ H' s'→s'.heap.Ns C m→H' C=none→C≠X.env.locals→X.s₀.heap.objs.size≤C→(∀ x c,X.env.cells.lookup x=some c→c≠C)→(∀ p∈X.pn ++ pins,p.1≠C)→Fin D H'→RR (.ref D) C (.ok .next) s') :
  wpAny (model X.prog X.w) X.A (newList []) (fun acc s₃=>wpAny (model X.prog X.w) X.A (newFunctionEnv scope X.env.globals cl [] X.env.qual none .none (some X.env)) (fun cenv s₄ =>
   codeAny (model X.prog X.w) X.A (.compStart (.ListComp elt [⟨.Name x px,iter,ifs,0⟩] scope pos) 0 (.ref it) acc { cenv with scope:=relabel scope X.env }) (RR acc cenv.locals) s₄) E s₃) E s:=by
 refine wpAny_newObj_type (wpAny_newFunctionEnv hcell (by intro y hy; simp at hy) (fun h₁ hns₁ hsb₁=>?_) hkind)
 dsimp only at hns₁ hsb₁ ⊢
 generalize hH2:s.heap.push { cls:=.type "list",dict:=none,data:=.seq ([]:List Value).toArray }=H2 at hns₁ hsb₁ ⊢
 have hC:H2.objs.size=s.heap.objs.size+1:=by rw [←hH2,Heap.size_push]
 have hDC:s.heap.objs.size≠H2.objs.size:=by rw [hC]; exact Nat.ne_of_lt (Nat.lt_succ_self _)
 have below:∀ b,b < s.heap.objs.size→b≠H2.objs.size∧b≠s.heap.objs.size:=fun b hb=>⟨by rw [hC]; exact Nat.ne_of_lt (Nat.lt_succ_of_lt hb),Nat.ne_of_lt hb⟩
 have hCle:s.heap.objs.size≤H2.objs.size:=by rw [hC]; exact Nat.le_succ _
 have old:∀ b o,s.heap.get? b=some o→h₁.get? b=some o:=fun b o e=>hsb₁.extBut b o (below b (Heap.lt_size e)).1 (Heap.get?_push_of_some _ (hH2 ▸ Heap.get?_push_of_some _ e))
 have hacc:h₁.get? s.heap.objs.size=some { cls:=.type "list",data:=.seq ([]:List Value).toArray }:=hsb₁.extBut _ _ hDC (Heap.get?_push_of_some _ (hH2 ▸ Heap.get?_push_size _ rfl))
 have hHD:H s.heap.objs.size=none:=I.hok.fresh (Nat.le_refl _)
 have hHC:H H2.objs.size=none:=I.hok.fresh hCle
 have cellOld:∀ y c,cl.lookup y=some c→c < s.heap.objs.size:=fun y c e=>by
  obtain ⟨v,o,ho,_⟩:=I.cell y c (cl1 y c e)
  exact Heap.lt_size ho
 let Y:Cx:=cxComp X scope cl N' s H H2.objs.size fp
 have stkNo:∀ b∈fp,b∉frs X.stack:=fun b hb hm=>by
  obtain ⟨_,f1,f2,_⟩:=hf b hb
  rcases List.mem_cons.mp (I.stkSub b hm) with z | z
  · exact f1 z
  · exact f2 z
 have okY:Y.Ok:=by
  refine ⟨I.ok.mod,hkind,I.ok.glob,I.ok.blt,hCle,fun y z c e1 e2=>I.ok.inj y z c (cl1 y c e1) (cl1 z c e2),fun y hy=>?_,fun y c hfn=>(nomatch hfn),I.ok.hd,I.ok.frames,.inl rfl,fun b hb=>⟨(below b (hfl b hb)).1,fun y c e=>?_⟩,I.bs,Nat.le_trans I.ok.bsz I.sz,fun b o e hb=>?_,stkNo,I.stack,I.stkFree⟩
  · exact cl2 y (relabel_cf hcell hy)
  · obtain ⟨_,_,_,_,f4,_⟩:=hf b hb
    exact f4 y c (cl1 y c e)
  · obtain ⟨_,_,_,f3,_⟩:=hf b hb
    rcases f3 with z | z
    · exact I.ok.noex b o e z
    · exact absurd (Nat.lt_of_lt_of_le (Heap.lt_size e) (Nat.le_trans I.ok.bsz z)) (Nat.lt_irrefl _)
 have IY:Inv Y [] (capt cap σ) (upd H s.heap.objs.size (.lst [])) { s with heap:=h₁,toks:=s.toks+([]:List (Str×Value)).length }:=by
  refine ⟨okY,rfl,I.bare,Un.laid old (Nat.le_refl _) hHD,⟨_,hns₁,fun j y v e1 e2 e3=>?_⟩,fun y c e=>?_,?_,fun y c e=>?_,fun p hp=>absurd (show p∈([]:List (Addr×Obj)) from hp) (by simp),?_,?_⟩
  · obtain ⟨i,c1,c2⟩:=capt_at e2
    obtain ⟨q1,q2,q3,q4⟩:=capOk_at hcap c1 e1
    obtain ⟨m,hn,hl⟩:=I.loc
    have kc:X.env.kindOf y=some .cell:=by show X.env.scope.names.lookup y=_; rw [hsc]; exact q4
    obtain ⟨u,r,l⟩:=hl i y v (by rw [hoN]; exact q1) c2 (.inr (.inl kc))
    refine ⟨u,r,.inr ⟨.inl (lookup_relabel_free I.ok.kind q3 kc),?_⟩⟩
    rcases l with ⟨k,_⟩ | ⟨_,c,hc,hcl⟩
    · have k':X.env.kindOf y=some .local:=k
      rw [kc] at k'; cases k'
    · obtain ⟨d,hd⟩:=cl2 y q2
      have e:=cl1 y d hd
      rw [hc] at e; cases e
      obtain ⟨o,ho,hd'⟩:=hcl
      exact ⟨c,hd,o,old _ _ ho,hd'⟩
  · obtain ⟨v,o,ho,hd⟩:=I.cell y c (cl1 y c e)
    exact ⟨v,o,old _ _ ho,hd⟩
  · show upd H s.heap.objs.size (.lst []) H2.objs.size=none
    rw [upd_ne (Ne.symm hDC)]; exact hHC
  · show upd H s.heap.objs.size (.lst []) c=none
    rw [upd_ne (below c (cellOld y c e)).2]; exact I.freeC y c (cl1 y c e)
  · exact I.hok.laid old (Nat.le_refl _) (show ObjOk X.prog X.w _ h₁ _ (.lst []) from ⟨Nat.zero_le _,[],0,.nil,hacc⟩)
  · show (capt cap σ).length=N'.length
    unfold capt
    rw [List.length_map,hlen]
 have stY:∀ {H':Hp},(∀ b∈fp,H' b=none)→∀ b∈fp,FpOk Y [] H' b:=fun hn b hb=>by
  refine ⟨hn b hb,(below b (hfl b hb)).1,stkNo b hb,.inl hb,fun y c e=>?_,fun p hp=>absurd (show p∈([]:List (Addr×Obj)) from hp) (by simp)⟩
  obtain ⟨_,_,_,_,f4,_⟩:=hf b hb
  exact f4 y c (cl1 y c e)
 have st1:tn 0 h₁:=T.keep _ _ _ st fun b hb o e=>old b o e
 have fr1:∀ b∈fp,upd H s.heap.objs.size (.lst []) b=none:=fun b hb=>by rw [upd_ne (below b (hfl b hb)).2]; exact (hf b hb).1
 obtain ⟨W,⟨m0,w0⟩,turn⟩:=h s.heap.objs.size hHD
 have fin:∀ {σ':L2.St} {H':Hp} {s':Shared},Inv Y [] σ' H' s'→Fin s.heap.objs.size H'→RR (.ref s.heap.objs.size) H2.objs.size (.ok .next) s':=fun {σ' H' s'} J' q=>by
  obtain ⟨m,hn,_⟩:=J'.loc
  have I':Inv X pins σ H' s':=I.call' (ch:=fp) J'.os J'.base J'.hok J'.bare fun b hb=>by
   obtain ⟨_,f1,_,f3,f4,f5⟩:=hf b hb
   exact ⟨f3,f1,f4,f5⟩
  refine hRR _ _ s' H' m I' hn J'.free (Ne.symm (below _ I.lt).1) (Nat.le_trans I.sz hCle) (fun y c e z=>?_) (fun p hp z=>?_) q
  · obtain ⟨v,o,ho,_⟩:=I.cell y c e
    exact (below c (Heap.lt_size ho)).1 z
  · exact (below p.1 (Heap.lt_size (I.pin p hp).1)).1 z
 have loop:∀ s₃:Shared,s₃={ s with heap:=h₁,toks:=s.toks+([]:List (Str×Value)).length } →
   codeAny (model X.prog X.w) X.A (.compLoop (.ListComp elt [⟨.Name x px,iter,ifs,0⟩] scope pos) 0 (.ref it) (.ref s.heap.objs.size) (compEnvC scope cl H2.objs.size X.env)) (RR (.ref s.heap.objs.size) H2.objs.size) s₃:=by
  rintro s₃ rfl
  refine codeAny_compLoop_tests (fun n s'=>∃ i σ' H',Inv Y [] σ' H' s'∧tn i s'.heap∧(∀ b∈fp,H' b=none)∧W i n σ' H') ?_ m0 ⟨0,_,_,IY,st1,fr1,w0⟩
  rintro n s3 ⟨i,σ3,H3,I3,st3,fr3,w3⟩
  rcases turn i n σ3 H3 w3 with ⟨stop,qn⟩ | ⟨go,N,hN,step⟩
  · refine thn (T.done Y rfl rfl rfl hcalm i [] s3 σ3 H3 _ I3 (stY fr3) st3 stop) fun r s4 ⟨hr,I4⟩=>?_
    subst hr
    exact fin I4 qn
  · refine thn (T.item Y rfl rfl rfl hcalm i [] s3 σ3 H3 _ I3 (stY fr3) st3 go) fun r s4 ⟨u,hr,h4⟩=>?_
    subst hr
    refine (show wpAny (model X.prog X.w) X.A ((pure ():Sem Unit) >>= fun _=>assign (.Name x px) (compEnvC scope cl H2.objs.size X.env) u) _ _ s4→wpAny (model X.prog X.w) X.A (assign (.Name x px) (compEnvC scope cl H2.objs.size X.env) u) _ _ s4 from fun z=>by rwa [pure_bind] at z) (wpAny_bind (thn (show wpAny (model X.prog X.w) X.A (pure ()) _ _ s4 from h4) fun _ s5 ⟨y,H5,I5,r5,y5,st5,fr5⟩=>?_))
    have I5':=I5.pinned (stY fr5) (T.obj _ _ st5)
    have up:∀ {α:Type} {t:Sem α} {Q:α→Shared→Prop} {E':Value→Shared→Prop} {s':Shared},wpAny (model X.prog X.w) X.A t Q (fun _ _=>False) s'→wpAny (model X.prog X.w) X.A t Q E' s':=fun q=>wpAny_mono q (fun _ _ z=>z) fun _ _ z=>z.elim
    refine up (thn (hg cl s H H2.objs.size fp _ s5 σ3 H5 y u _ I5' r5 (step y H5 y5)) fun _ s6 ⟨σ6,H6,I6,q6⟩=>?_)
    refine up (thn (ht cl s H H2.objs.size fp _ s6 σ6 H6 _ I6 q6) fun b s7 ⟨H7,I7,q7⟩=>?_)
    have again:∀ {σ8:L2.St} {H8:Hp} {s8:Shared},Inv Y ([] ++ pinsAt fp s5.heap) σ8 H8 s8→N σ8 H8→∃ m,m < n∧∃ i σ' H',Inv Y [] σ' H' s8∧tn i s8.heap∧(∀ b∈fp,H' b=none)∧W i m σ' H':=fun {σ8 H8 s8} I8 n8=>by
     obtain ⟨m',hm,w8⟩:=hN σ8 H8 n8
     refine ⟨m',hm,i+1,σ8,H8,I8.unpinned,T.keep _ _ _ st5 fun b hb o e=>(I8.pin (b,o) (List.mem_append_right _ (List.mem_append_right _ (mem_pinsAt hb e)))).1,fun b hb=>?_,w8⟩
     obtain ⟨o,e,d⟩:=T.obj _ _ st5 b hb
     exact (I8.pin (b,o) (List.mem_append_right _ (List.mem_append_right _ (mem_pinsAt hb e)))).2.1
    cases b with
    | false =>
     rw [if_neg Bool.false_ne_true] at q7 ⊢
     exact again I7 q7
    | true =>
     rw [if_pos rfl] at q7 ⊢
     refine up (thn (he cl s H H2.objs.size fp _ s7 σ6 H7 _ I7 q7) fun v s8 ⟨z,H8,I8,r8,q8⟩=>?_)
     obtain ⟨ys,e1,e2,e3⟩:=q8
     refine up (thn (mt_append (X:=Y) _ s8 σ6 H8 (.ref s.heap.objs.size) [z] (.ref s.heap.objs.size) [v] (fun w H9=>N σ6 H9) I8 rfl (.cons r8 .nil) ⟨s.heap.objs.size,ys,z,rfl,rfl,e1,e2,e3⟩) fun _ s9 ⟨_,H9,I9,_,q9⟩=>?_)
     exact again I9 q9
 exact codeAny_compStart_list (loop _ rfl) (T.self _ 0 _ _ _ st1 (loop _ rfl))
theorem pe_comp (hsc:X.env.scope=osc) (hoN:X.N=oN) (hcalm:X.calm=true) (hcell:∀ y∈scope.names,y.2≠.cell) (hkind:scope.kind=.function) (hnames:∀ y∈scope.names,y.2=.local→scope.names.lookup y.1=some .local)
  (hfree:∀ y∈scope.names,y.2=.free→osc.names.lookup y.1=some .cell∨osc.names.lookup y.1=some .free) (hcap:capOk oN osc scope N' cap=true) (hlen:cap.length=N'.length)
  (hi:PI X (.Name x px) iter wi) (hg:InComp X scope N' fun Y=>PG Y (.Name x px) g) (ht:InComp X scope N' fun Y=>PIf Y ifs tt) (he:InComp X scope N' fun Y=>PE Y elt te)
  (hs:∀ x,foldedSetIterable iter X.env x=pure x:=by intro _; rfl):PE X (.ListComp elt [⟨.Name x px,iter,ifs,0⟩] scope pos) (tComp cap wi g tt te):=by
 intro pins s σ H Q I h
 obtain ⟨cl,ecl,cl1,cl2⟩:=closureFor_of (env:=X.env) (scope:=scope) fun y hy hk=>I.ok.has y.1 (by
  have z:=hfree y hy hk
  show X.env.scope.names.lookup y.1=_∨X.env.scope.names.lookup y.1=_
  rw [hsc]; exact z)
 rw [eval_ListComp]
 refine wpAny_comprehension_free (use:=none) rfl hs ecl hkind hnames (thn (hi pins s σ H _ I h) fun v s1 h1=>thn h1 fun itv s2 h2=>?_)
 obtain ⟨it,fp,tn,J,H2,e,I2,T,st2,f2,h3⟩:=h2
 subst e
 refine comp_core (Fin:=fun D=>Q (.ref D)) hsc hoN hcalm hcell hkind hcap hlen cl1 cl2 I2 T st2 f2 (fun b hb=>?_) hg ht he h3 ?_
 · obtain ⟨o,ho,_⟩:=T.obj _ _ st2 b hb
   exact Heap.lt_size ho
 · intro D C s' H' m I' hn hC hL hz hc hp q
   refine ⟨m,hn,fun h' hs'=>?_⟩
   exact ⟨.ref D,H',I'.turned (t':=s'.toks) (fun b o hb e=>hs'.extBut b o hb e) hC hL.symm.symm (.inr hz) hc hp,rfl,q⟩
def tSetComp (i:Nat) (cap:List (Option Nat)) (wi:TI) (g:TG) (tt:TT) (te:TE):TS:=fun E σ H=>wi σ H fun J H1=>∀ D,H1 D=none→tTurns J g tt te D (fun H2=>E.nx (σ.set i (some (.ref D))) H2) (capt cap σ) (upd H1 D (.lst []))
theorem ps_setComp {i:Nat} {y:Str} {py spos:Pos} (hN:X.N.Nodup) (hi':X.N[i]? = some y) (hy:Loc X.env.scope y) (hsc:X.env.scope=osc) (hoN:X.N=oN) (hcalm:X.calm=true) (hcell:∀ y∈scope.names,y.2≠.cell) (hkind:scope.kind=.function) (hnames:∀ y∈scope.names,y.2=.local→scope.names.lookup y.1=some .local)
  (hfree:∀ y∈scope.names,y.2=.free→osc.names.lookup y.1=some .cell∨osc.names.lookup y.1=some .free) (hcap:capOk oN osc scope N' cap=true) (hlen:cap.length=N'.length)
  (hi:PI X (.Name x px) iter wi) (hg:InComp X scope N' fun Y=>PG Y (.Name x px) g) (ht:InComp X scope N' fun Y=>PIf Y ifs tt) (he:InComp X scope N' fun Y=>PE Y elt te)
  (hsw:swapsWith (.ListComp elt [⟨.Name x px,iter,ifs,0⟩] scope pos) (some (.Name y py)) spos.line X.env=pure true:=by rfl)
  (hs:∀ x,foldedSetIterable iter X.env x=pure x:=by intro _; rfl) (hfn:X.fn y=true∨X.env.scope.names.lookup y=some .local:=by first | exact .inl rfl | exact .inr rfl | assumption) :
  PS X (.Assign [.Name y py] (.ListComp elt [⟨.Name x px,iter,ifs,0⟩] scope pos) spos) (tSetComp i cap wi g tt te):=by
 intro pins s σ H Dn I h
 obtain ⟨cl,ecl,cl1,cl2⟩:=closureFor_of (env:=X.env) (scope:=scope) fun y hy hk=>I.ok.has y.1 (by
  have z:=hfree y hy hk
  show X.env.scope.names.lookup y.1=_∨X.env.scope.names.lookup y.1=_
  rw [hsc]; exact z)
 rw [exec_Assign_Name_used _ _ _ _ hsw]
 refine wpAny_bind (wpAny_standAt (wpAny_bind ?_))
 show wpAny _ X.A (do let _ ← comprehension (.ListComp elt [⟨.Name x px,iter,ifs,0⟩] scope pos) scope X.env _ (newList []) false (eval iter X.env) (some (assign (.Name y py) X.env))) _ _ s
 refine wpAny_bind (wpAny_mono (wpAny_comprehension_free (use:=some (assign (.Name y py) X.env)) (Q:=fun _ s'=>SP X pins Dn .next s') rfl hs ecl hkind hnames
  (thn (hi pins s σ H _ I h) fun v s1 h1=>thn h1 fun itv s2 h2=>?_)) (fun _ s' hq=>wpAny_pure (wpAny_pure hq)) fun _ _ e=>e)
 obtain ⟨it,fp,tn,J,H2,e,I2,T,st2,f2,h3⟩:=h2
 subst e
 refine comp_core (Fin:=fun D H'=>Dn.nx (σ.set i (some (.ref D))) H') hsc hoN hcalm hcell hkind hcap hlen cl1 cl2 I2 T st2 f2 (fun b hb=>?_) hg ht he h3 ?_
 · obtain ⟨o,ho,_⟩:=T.obj _ _ st2 b hb
   exact Heap.lt_size ho
 · intro D C s' H' m I' hn hC hL hz hc hp q
   show wpAny _ X.A (assign (.Name y py) X.env (.ref D)) _ _ _
   refine wpAny_assign_Name (store_ok2 I' hN hi' hy (v:=.ref D) rfl (fun s'' I'' ⟨a,sb,ha⟩=>?_) hfn)
   have hCa:C≠a:=by
    rcases ha with z | z
    · rw [z]; exact hL
    · exact Ne.symm (hc y a z)
   refine ⟨m,hn.sameBut sb hCa,fun h' hs'=>?_⟩
   exact ⟨_,H',I''.turned (t':=s''.toks) (fun b o hb e=>hs'.extBut b o hb e) hC hL (.inr hz) hc hp,q⟩
end
section
variable {X:Cx} {tg:Expr}
theorem op_le_str:OpR X (compareOp .LtE) (fun x y H Q=>∃ i j,x=.str i∧y=.str j∧Q (.bl (!decide (j.cps.toList < i.cps.toList))) H):=by
 intro pins s σ H x y v u Q I rx ry h
 obtain ⟨i,j,rfl,rfl,q⟩:=h
 obtain ⟨t,rfl⟩:=rx
 obtain ⟨t',rfl⟩:=ry
 exact PySem.P.le_str ⟨.bl _,H,I,rfl,q⟩
def Itx (x:Str):It:=⟨fun i _=>i < x.length,fun i H v H'=>H'=H∧∃ c,x.cps[i]? = some c∧v=.str ⟨#[c]⟩,fun i _=>i=x.length⟩
theorem turn_str {P:Program} {w:World} {K:W.Frag} {tg:Expr} (T:String) (hT:["enumerate","zip","dict_itemiterator","dict_reverseitemiterator","odict_iterator","itertools.zip_longest","itertools.pairwise"].contains T=false) (it:Addr) (x:Str) (t:Tok)
  (W:∀ A:Around,A.handled=none→Walks P w A it [it] [it] x.cps.size (SignAt x) (fun i h=>h.IsStrIter it T x t i))
  (self:∀ (A:Around) (i:Nat) (s:Shared) (Q:Value→Shared→Prop) (E:Value→Shared→Prop),s.heap.IsStrIter it T x t i→Q (.ref it) s→wpAny (model P w) A (pyIter (.ref it)) Q E s) :
  Turn P w K tg (Itx x) [it] it (fun i h=>h.IsStrIter it T x t i) where
 mem:=by simp
 obj:=fun i h st b hb=>by
  have e:b=it:=by simpa using hb
  subst e
  obtain ⟨o,e,c,d⟩:=st
  exact ⟨o,e,fun v z=>by rw [d] at z; cases z⟩
 keep:=fun i h h' st k=>by
  obtain ⟨o,e,r⟩:=st
  exact ⟨o,k it (by simp) o e,r⟩
 item:=by
  intro X hP hw hK hc i pins s σ H E I hf st hg
  subst hP hw hK
  obtain ⟨f0,f1,f2,f3,f4,f5⟩:=hf it (by simp)
  refine (W X.A (I.ok.hd hc)).item i s _ _ hg st fun v h' tk hv st' kk=>?_
  obtain ⟨c,u,hc',rfl⟩:=hv
  have I1:Inv X pins σ H { s with heap:=h',toks:=tk }:=I.turned (fun b o hb e=>kk b o (by simpa using hb) e) f0 f1 f3 f4 f5
  obtain ⟨o,e,c1,d⟩:=id st'
  exact ⟨_,rfl,go_of (s:={ s with heap:=h',toks:=tk }) e c1 d hT ⟨.str ⟨#[c]⟩,H,I1,⟨u,rfl⟩,⟨rfl,c,hc',rfl⟩,st',fun b hb=>(hf b hb).1⟩⟩
 done:=by
  intro X hP hw hK hc i pins s σ H E I hf st hg
  subst hP hw hK
  obtain ⟨f0,f1,f2,f3,f4,f5⟩:=hf it (by simp)
  have hg':i=x.cps.size:=hg
  subst hg'
  exact (W X.A (I.ok.hd hc)).done s _ _ st fun h' tk kk=>⟨rfl,I.turned (fun b o hb e=>kk b o (by simpa using hb) e) f0 f1 f3 f4 f5⟩
 self:=self
def iStr (te:TE):TI:=fun σ H R=>te σ H fun v H1=>∃ x,v=.str x∧R (Itx x) H1
theorem pi_str {l:Expr} {tl:TE} (hl:PE X l tl):PI X tg l (iStr tl):=by
 intro pins s σ H R I h
 refine thn (hl pins s σ H _ I h) fun v s1 ⟨x,H1,I1,r1,q1⟩=>?_
 obtain ⟨x,rfl,q⟩:=q1
 obtain ⟨t,rfl⟩:=r1
 have fin:∀ (o:Obj) (T:String),Turn X.prog X.w X.K tg (Itx x) [s1.heap.objs.size] s1.heap.objs.size (fun i h=>h.IsStrIter s1.heap.objs.size T x t i)→(s1.heap.push o).IsStrIter s1.heap.objs.size T x t 0 →
   PIE X pins σ tg R (.ref s1.heap.objs.size) { s1 with heap:=s1.heap.push o }:=fun o T tu st =>
  ⟨s1.heap.objs.size,[s1.heap.objs.size],_,_,H1,rfl,I1.kept (t':=s1.toks) fun b o e=>Heap.get?_push_of_some _ e,tu,st,fun b hb=>by
   have e:b=s1.heap.objs.size:=by simpa using hb
   subst e
   exact I1.fpOk (Nat.le_refl _) (I1.hok.fresh (Nat.le_refl _)),q⟩
 cases ha:x.cps.all (· < 128)
 · exact wpAny_pyIter_wide ha (fin _ _ (turn_str "str_iterator" (by decide) _ x t (fun A hA=>Walks.strWide hA _ x t) fun A i s Q E st q=>wpAny_pyIter_striter_wide st q) ⟨_,Heap.get?_push_size _ rfl,rfl,rfl⟩)
 · exact wpAny_pyIter_ascii ha (fin _ _ (turn_str "str_ascii_iterator" (by decide) _ x t (fun A hA=>Walks.strAscii hA _ x t) fun A i s Q E st q=>wpAny_pyIter_striter_ascii st q) ⟨_,Heap.get?_push_size _ rfl,rfl,rfl⟩)
theorem bools_of {bs:List Bool}:∀ {us:List Value},Vals (bs.map V.bl) us→us=bs.map Value.bool:=by
 induction bs with
 | nil=>intro us r; rw [List.map_nil] at r; cases r; rfl
 | cons b bs ih =>
  intro us r
  rw [List.map_cons] at r
  cases r with
  | cons r1 r2=>cases r1; rw [ih r2,List.map_cons]
theorem range_allB (bs:List Bool):((List.range bs.length).all fun i=>(bs[i]?).getD true)=bs.all id:=by
 rw [Bool.eq_iff_iff,List.all_eq_true,List.all_eq_true]
 constructor
 · intro h b hb
   obtain ⟨i,hi,rfl⟩:=List.getElem_of_mem hb
   have:=h i (List.mem_range.mpr hi)
   simp only [List.getElem?_eq_getElem hi,Option.getD_some] at this
   exact this
 · intro h i hi
   have hi':=List.mem_range.mp hi
   simp only [List.getElem?_eq_getElem hi',Option.getD_some]
   exact h _ (List.getElem_mem hi')
theorem range_anyB (bs:List Bool):((List.range bs.length).any fun i=>(bs[i]?).getD false)=bs.any id:=by
 rw [Bool.eq_iff_iff,List.any_eq_true,List.any_eq_true]
 constructor
 · rintro ⟨i,hi,e⟩
   have hi':=List.mem_range.mp hi
   simp only [List.getElem?_eq_getElem hi',Option.getD_some] at e
   exact ⟨_,List.getElem_mem hi',e⟩
 · rintro ⟨b,hb,e⟩
   obtain ⟨i,hi,rfl⟩:=List.getElem_of_mem hb
   exact ⟨i,List.mem_range.mpr hi,by simp only [List.getElem?_eq_getElem hi,Option.getD_some]; exact e⟩
theorem keptIt {h h':Heap} {o:Obj} (hk:∀ b x,b∉[h.objs.size]→(h.push o).get? b=some x→h'.get? b=some x):∀ b x,h.get? b=some x→h'.get? b=some x :=
 fun b x e=>hk b x (fun hm=>by rw [List.mem_singleton.mp hm] at e; exact Nat.lt_irrefl _ (Heap.lt_size e)) (Heap.get?_push_of_some _ e)
theorem call_allB (hc:X.calm=true):CallR X (.builtin "all") (fun xs H Q=>∃ (p:Addr) (bs:List Bool),xs=[.ref p]∧SqL X.K H p (bs.map V.bl)∧Q (.bl (bs.all id)) H):=by
 intro pins s σ H xs us Q I r h
 obtain ⟨p,bs,rfl,hq,q⟩:=h
 obtain ⟨u,rfl,rx⟩:=vals1 r
 cases rx
 obtain ⟨its,rv,pl,hz⟩:=I.list hq
 have eb:=bools_of rv
 have hl:=pl.isList
 have hlt:p < s.heap.objs.size:=by obtain ⟨_,e,_⟩:=hl; exact Heap.lt_size e
 refine call_all_walk (wpAny_pyIter_list hl ?_)
 refine ⟨s.heap.objs.size,[s.heap.objs.size,p],[s.heap.objs.size],its.toArray.size,_,_,fun i=>(bs[i]?).getD true,rfl,Walks.list (A:=X.A.in1) (I.ok.hd hc) _ p (Nat.ne_of_lt hlt) its.toArray,
  ⟨⟨_,Heap.get?_push_size _ rfl,rfl,rfl⟩,hl.push _⟩,fun i v s' Q' E' hP hQ=>?_,fun h' tk hk=>?_⟩
 · have hP':its[i]? = some v:=by simpa using hP
   rw [eb,List.getElem?_map] at hP'
   cases e:bs[i]? with
   | none=>rw [e] at hP'; cases hP'
   | some b =>
    rw [e] at hP'
    have ev:Value.bool b=v:=Option.some.inj hP'
    subst ev
    simp only [e,Option.getD_some] at hQ
    exact wpAny_truthy_bool hQ
 · have e:((List.range its.toArray.size).all fun i=>(bs[i]?).getD true)=bs.all id:=by
    rw [List.size_toArray,eb,List.length_map]; exact range_allB bs
   rw [e]
   exact ⟨.bl _,H,I.kept (keptIt hk),rfl,q⟩
theorem call_anyB (hc:X.calm=true):CallR X (.builtin "any") (fun xs H Q=>∃ (p:Addr) (bs:List Bool),xs=[.ref p]∧SqL X.K H p (bs.map V.bl)∧Q (.bl (bs.any id)) H):=by
 intro pins s σ H xs us Q I r h
 obtain ⟨p,bs,rfl,hq,q⟩:=h
 obtain ⟨u,rfl,rx⟩:=vals1 r
 cases rx
 obtain ⟨its,rv,pl,hz⟩:=I.list hq
 have eb:=bools_of rv
 have hl:=pl.isList
 have hlt:p < s.heap.objs.size:=by obtain ⟨_,e,_⟩:=hl; exact Heap.lt_size e
 refine call_any_walk (wpAny_pyIter_list hl ?_)
 refine ⟨s.heap.objs.size,[s.heap.objs.size,p],[s.heap.objs.size],its.toArray.size,_,_,fun i=>(bs[i]?).getD false,rfl,Walks.list (A:=X.A.in1) (I.ok.hd hc) _ p (Nat.ne_of_lt hlt) its.toArray,
  ⟨⟨_,Heap.get?_push_size _ rfl,rfl,rfl⟩,hl.push _⟩,fun i v s' Q' E' hP hQ=>?_,fun h' tk hk=>?_⟩
 · have hP':its[i]? = some v:=by simpa using hP
   rw [eb,List.getElem?_map] at hP'
   cases e:bs[i]? with
   | none=>rw [e] at hP'; cases hP'
   | some b =>
    rw [e] at hP'
    have ev:Value.bool b=v:=Option.some.inj hP'
    subst ev
    simp only [e,Option.getD_some] at hQ
    exact wpAny_truthy_bool hQ
 · have e:((List.range its.toArray.size).any fun i=>(bs[i]?).getD false)=bs.any id:=by
    rw [List.size_toArray,eb,List.length_map]; exact range_anyB bs
   rw [e]
   exact ⟨.bl _,H,I.kept (keptIt hk),rfl,q⟩
theorem mt_starts:MtR X "str.startswith" (fun x vs H Q=>∃ a b i,x=.str a∧vs=[.str b,.int i]∧Q (.bl (decide (fromIndex a.length i+b.length≤a.length) && Builtin.Str.subAt a b (fromIndex a.length i))) H):=by
 intro pins s σ H x xs v us Q I rx rs h
 obtain ⟨a,b,i,rfl,rfl,q⟩:=h
 obtain ⟨t,rfl⟩:=rx
 obtain ⟨u,w',rfl,⟨t',rfl⟩,⟨t'',rfl⟩⟩:=vals2 rs
 exact call_gives F.slot_str_startswith (typeIs_str _ _ _) F.entry_str_startswith (F.args_str_startswith_3 _ _ _) (gives_str_startswith_from a b i t t' t'') ⟨.bl _,H,I,rfl,q⟩
theorem valsA {xs:List V} {us:List Value} (r:Vals xs us) {j:Nat} (h:j < us.toArray.size):∃ x,xs[j]? = some x∧RelV x us.toArray[j]:=by
 have hl:=r.length
 have h':j < xs.length:=by simp only [List.size_toArray] at h; omega
 obtain ⟨u,e1,e2⟩:=r.get (List.getElem?_eq_getElem h')
 refine ⟨_,List.getElem?_eq_getElem h',?_⟩
 have:us.toArray[j]=u:=by
  have h2:j < us.length:=by omega
  rw [List.getElem?_eq_getElem h2] at e1
  simpa using Option.some.inj e1
 rw [this]
 exact e2
def eAt (xs ys:List V) (j:Nat):Bool:=match xs[j]?,ys[j]? with | some x,some y=>eqV x y | _,_=>true
theorem iteNT {c A B:Prop} [Decidable c] (hc:¬ c) (h:A):if (!decide c)=true then A else B:=by
 rw [decide_eq_false hc]
 exact iteT h
theorem units_of {A:Around} {k:Nat} (hr:Room k A):A.units+8 < cLine:=by have:=hr.un; omega
end
def Has (P:Program) (w:World) (K:W.Frag) (mg:Str→Option Value) (base:Heap) (x:Str) (k:Nat) (ps:List Str) (sp:Sp):Prop :=
 ∃ f fd,FnOk P w K mg base CX0 k f fd ps sp∧Binds K fd ps []∧W.keepIn K (.ref f)=true∧mg x=some (.ref f)
section
variable {X:Cx} {x:Str} {k:Nat} {ps:List Str} {sp:Sp} {p pos:Pos} {e:Expr} {es:List Expr} {t:TA}
theorem pe_has (G:Has X.prog X.w X.K X.mg X.base x k ps sp) (hr:Room k X.A) (hg:Gl X x) (ha:PA X (e::es) t) (hdb:(x == ("__debug__":Str))=false:=by decide)
  (he:starEach (e::es) X.env=(false,eval e X.env)::starEach es X.env:=by rfl) (hpl:(backTo pos (starEach es X.env)).any (·.1)=false:=by rfl) :
  PE X (.Call (.Name x p) (e::es) [] pos) (tCall sp [] E0 t):=by
 obtain ⟨f,fd,F,B,kp,m⟩:=G
 exact pe_call F hr hg m kp B .nil pass0 ha hdb he hpl
end
section
variable {X:Cx} {K:W.Frag}
theorem ix_listK (h:X.K=K):IxR X (rIxL K):=h ▸ ix_list
theorem sl_listK (h:X.K=K):SlR X (rSlL K):=h ▸ sl_list
theorem call_lenK (h:X.K=K):CallR X (.builtin "len") (fun xs H Q=>∃ p ys,xs=[.ref p]∧(SqL K H p ys∨SqT K H p ys)∧Q (.int ys.length) H):=h ▸ call_len_seq
theorem op_notInK (h:X.K=K):OpR X (compareOp .NotIn) (rIn K true):=h ▸ op_notIn_seq
theorem pi_listK {tg l:Expr} {tl:TE} (h:X.K=K) (hl:PE X l tl):PI X tg l (iList K tl):=h ▸ pi_list hl
end
end LW
namespace LW
open PySem PySem.Spec PyProof.Rows L2 PySem.Builtin.Int
def down (p:Nat→Bool):Nat→Nat
 | 0=>0
 | n+1=>if p (n+1)=true then n+1 else down p n
theorem down_hit {p:Nat→Bool} {n:Nat} (h:p (n+1)=true):down p (n+1)=n+1:=by unfold down; rw [if_pos h]
theorem down_miss {p:Nat→Bool} {n:Nat} (h:¬ p (n+1)=true):down p (n+1)=down p n:=by
 conv=>lhs; unfold down
 rw [if_neg h]
def laps (a b:Str) (k:Nat):Bool:=Txt.endswith a (Txt.slice b none (some (k:Int)))
def ovF (a b:Str):Nat:=down (laps a b) (min a.length b.length - 1)
def Low (x:Str):Prop:=∀ q∈x.cps.toList,97≤q∧q≤122
structure Word (m:Nat) (x:Str):Prop where
 pos:1≤x.length
 le:x.length≤m
 low:Low x
theorem Low.app {x y:Str} (hx:Low x) (hy:Low y):Low (x ++ y):=fun q hq=>by
 have e:(x ++ y).cps.toList=x.cps.toList ++ y.cps.toList:=by
  show (x.cps ++ y.cps).toList=_
  simp
 rw [e] at hq
 rcases List.mem_append.mp hq with h | h
 · exact hx q h
 · exact hy q h
theorem Low.nil:Low (Str.ofString ""):=fun q hq=>by
 have e:(Str.ofString "").cps.toList=[]:=by decide +kernel
 rw [e] at hq
 cases hq
theorem len_nil:(Str.ofString "").length=0:=by decide +kernel
def alpha:Str:=Str.ofString "abcdefghijklmnopqrstuvwxyz"
theorem alpha_list:alpha.cps.toList=(List.range 26).map (97 + ·):=by decide +kernel
theorem alpha_len:alpha.length≤sizeLine:=by decide +kernel
theorem alpha_at {i:Int} (h0:0≤i) (h1:i < 26):∃ c,atI alpha.cps.toList i=some c∧97≤c∧c≤122:=by
 rw [alpha_list]
 have e:i=((i.toNat:Nat):Int):=by omega
 have h2:i.toNat < 26:=by omega
 refine ⟨97+i.toNat,?_,by omega,by omega⟩
 rw [e]
 refine atI_nat ?_
 rw [List.getElem?_map,List.getElem?_range h2] <;> rfl
theorem Low.one {c:Nat} (h0:97≤c) (h1:c≤122):Low ⟨#[c]⟩:=fun q hq=>by
 have e:q=c:=by simpa using hq
 subst e
 exact ⟨h0,h1⟩
theorem small {n:Nat} (h:n≤1000):n≤sizeLine:=Nat.le_of_lt (small1000 h)
theorem len_app (x y:Str):(x ++ y).length=x.length+y.length:=strLen_append x y
theorem bits_ediv {c d:Int} (h:intBits c≤2 ^ 20) (hd:0 < d):intBits (c / d)≤2 ^ 20:=by
 rw [←Int.fdiv_eq_ediv_of_nonneg c (Int.le_of_lt hd)]
 exact bits_fdiv h
theorem bits_small {c:Int} (h0:0≤c) (h1:c < 2147483647):intBits c≤2 ^ 20 :=
 Nat.le_trans (intBits_le_64 (by omega) (by omega)) (by decide)
theorem mulOk_sq {c:Int} (h:intBits c≤2 ^ 20):IntMulOk c c:=IntMulOk.of_bits h h
theorem mulOk_l {c:Int}:IntMulOk 48271 c:=IntMulOk.of_left (intBits_le_64 (by decide) (by decide))
def spCell (K:W.Frag):Sp:=fun vs H Q _=>∃ (a:Addr) (ns:List Int) (k:Int),vs=[.ref a,.int k]∧SqL K H a (ns.map V.int)∧0≤k∧Q (.int (ns.getD k.toNat 0)) H
def spWord:Sp:=fun vs H Q _=>∃ (c l:Int) (m:Nat),vs=[.int c,.int l,.int m]∧intBits c≤2 ^ 20∧1≤l∧l≤26∧1≤m∧m≤10∧∀ x,Word m x→Q (.str x) H
def spOv:Sp:=fun vs H Q _=>∃ (a b:Str),vs=[.str a,.str b]∧a.length≤1000∧b.length≤1000∧∀ H',Same H H'→Q (.int (ovF a b)) H'
def spLaw (K:W.Frag):Sp:=fun vs H Q _=>∃ (a:Addr) (ns:List Int),vs=[.ref a]∧SqL K H a (ns.map V.int)∧ns.length≤63∧(∀ i∈ns,intBits i≤2 ^ 20)∧∀ H',Q (.bl true) H'
theorem bits_getD {ns:List Int} (h:∀ i∈ns,intBits i≤2 ^ 20) (k:Nat):intBits (ns.getD k 0)≤2 ^ 20:=by
 rw [List.getD_eq_getElem?_getD]
 cases e:ns[k]? with
 | none=>show intBits 0≤2 ^ 20; decide
 | some n=>exact h n (List.mem_of_getElem? e)
theorem same_new {H:Hp} {p:Addr} (h:H p=none) (o:HO):Same H (upd H p o):=fun b u q=>by rw [upd_ne (ne_of_none q h)]; exact q
theorem getD_at {ns:List Int} {k:Int} (h0:0≤k) (h:k < (ns.length:Int)):atI (ns.map V.int) k=some (.int (ns.getD k.toNat 0)):=by
 have hk:k.toNat < ns.length:=by omega
 have ek:k=((k.toNat:Nat):Int):=by omega
 have q:atI (ns.map V.int) ((k.toNat:Nat):Int)=some (.int (ns.getD k.toNat 0)):=atI_nat (by rw [List.getElem?_map,List.getElem?_eq_getElem hk,List.getD_eq_getElem?_getD,List.getElem?_eq_getElem hk] <;> rfl)
 rw [←ek] at q
 exact q
theorem getD_out {ns:List Int} {k:Int} (h:¬ k < (ns.length:Int)):ns.getD k.toNat 0=0:=by
 rw [List.getD_eq_getElem?_getD,List.getElem?_eq_none (by omega)] <;> rfl
theorem Low.slice {x:Str} (h:Low x) (lo hi:Option Int):Low (Txt.slice x lo hi):=by
 unfold Txt.slice
 split
 · exact h
 · intro q hq
   have hq':q∈(Builtin.Str.strSliceIndices lo hi 1 x.length).filterMap (x.cps[·]?):=by simpa using hq
   obtain ⟨i,_,e⟩:=List.mem_filterMap.mp hq'
   refine h q ?_
   have e':x.cps.toList[i]? = some q:=by simpa using e
   exact List.mem_of_getElem? e'
theorem strLenL (x:Str):x.length=x.cps.toList.length:=by simp [Str.length]
theorem slice_nn_len (x:Str) (a b:Nat):(Txt.slice x (some (a:Int)) (some (b:Int))).length=min (b - a) (x.length - a):=by
 rw [strLenL,slice_nn,List.length_take,List.length_drop,←strLenL]
theorem slice_to_len (x:Str) (b:Nat):(Txt.slice x none (some (b:Int))).length=min b x.length:=by
 rw [strLenL,slice_to,List.length_take,←strLenL]
theorem slice_from_len (x:Str) (a:Nat):(Txt.slice x (some (a:Int)) none).length=x.length - a:=by
 rw [strLenL,slice_from,List.length_drop,←strLenL]
theorem sameUpd {H H':Hp} {D:Addr} {o:HO} (h:Same H H') (hD:H D=none):Same H (upd H' D o):=fun b u q=>by
 rw [upd_ne (ne_of_none q hD)]; exact h b u q
theorem ixN_nat {n:Nat} {k:Int} (h0:0≤k) (h1:k < (n:Int)):ixN n k=some k.toNat:=by
 unfold ixN
 rw [if_pos h0,if_pos h1]
theorem atI_strs {bs:List Str} {k:Int} (h0:0≤k) (h1:k < (bs.length:Int)):∃ b,b∈bs∧bs[k.toNat]? = some b∧atI (bs.map V.str) k=some (.str b):=by
 have hk:k.toNat < bs.length:=by omega
 refine ⟨bs[k.toNat],List.getElem_mem hk,List.getElem?_eq_getElem hk,?_⟩
 unfold atI
 rw [List.length_map,ixN_nat h0 h1]
 show (bs.map V.str)[k.toNat]? = _
 rw [List.getElem?_map,List.getElem?_eq_getElem hk] <;> rfl
theorem words_set {m:Nat} {bs:List Str} (h:∀ b∈bs,Word m b) {j:Nat} {y:Str} (hy:Word m y):∀ b∈bs.set j y,Word m b:=fun b hb=>by
 rcases List.mem_or_eq_of_mem_set hb with z | z
 · exact h b z
 · rw [z]; exact hy
def spPiece:Sp:=fun vs H Q _=>∃ (x:Str) (c:Int) (m:Nat),vs=[.str x,.int c]∧Word m x∧m≤10∧∀ y,Word m y→Q (.str y) H
def spJoined:Sp:=fun vs H Q _=>∃ (x z:Str) (m:Nat),vs=[.str x,.str z,.int m]∧Word m x∧Word m z∧m≤10∧∀ y,Word m y→Q (.str y) H
def spBook (K:W.Frag):Sp:=fun vs H Q _=>∃ (a:Addr) (ns:List Int) (st:Int) (n m:Nat),vs=[.ref a,.int st,.int n,.int m]∧SqL K H a (ns.map V.int)∧(∀ i∈ns,intBits i≤2 ^ 20)∧0≤st∧1≤n∧n≤9∧1≤m∧m≤10 ∧
 ∀ (p:Addr) (bs:List Str) (H':Hp),H p=none→Same H H'→H' p=some (.lst (bs.map V.str))→bs.length=n→(∀ b∈bs,Word m b)→Q (.ref p) H'
theorem gYes {i:Nat} {v:V} {σ:L2.St} {H:Hp} {P1 P2:L2.St→Hp→Prop} (h:P1 (σ.set i (some v)) H):gName i v σ H fun σ2 H2=>tYes σ2 H2 fun b H3=>if b=true then P1 σ2 H3 else P2 σ2 H3:=(iteT h:if true=true then P1 (σ.set i (some v)) H else P2 (σ.set i (some v)) H)
theorem turns_range {lo:Int} {n:Nat} {g:TG} {tt:TT} {te:TE} {D:Addr} {Fin:Hp→Prop} {σ:L2.St} {H:Hp} (Pv:Nat→L2.St→Hp→Prop) (h0:Pv 0 σ H)
  (hs:∀ i σ H,i < n→Pv i σ H→g (.int (lo+i)) σ H fun σ2 H2=>tt σ2 H2 fun b H3=>if b=true then te σ2 H3 fun y H4=>∃ ys,H4 D=some (.lst ys)∧ys.length < sizeLine∧Pv (i+1) σ2 (upd H4 D (.lst (ys ++ [y]))) else Pv (i+1) σ2 H3)
  (hd:∀ σ H,Pv n σ H→Fin H):tTurns (Itr lo n) g tt te D Fin σ H:=by
 refine ⟨fun i m σ H=>m=n - i∧i≤n∧Pv i σ H,⟨n,by simp,Nat.zero_le _,h0⟩,?_⟩
 rintro i m σ H ⟨rfl,hi,p⟩
 by_cases hlt:i < n
 · refine .inr ⟨hlt,Pv (i+1),fun σ' H' p'=>⟨n - (i+1),by omega,rfl,hlt,p'⟩,fun x H' y=>?_⟩
   obtain ⟨e,y⟩:=y
   subst e y
   exact hs i σ _ hlt p
 · have e:i=n:=by omega
   subst e
   exact .inl ⟨Nat.le_refl _,hd σ H p⟩
theorem turns_list {K:W.Frag} {a:Addr} {xs:List V} {g:TG} {tt:TT} {te:TE} {D:Addr} {Fin:Hp→Prop} {σ:L2.St} {H:Hp} (Pv:Nat→L2.St→Hp→Prop) (h0:Pv 0 σ H) (hl:∀ i σ H,i≤xs.length→Pv i σ H→SqL K H a xs)
  (hs:∀ i x σ H,xs[i]? = some x→Pv i σ H→g x σ H fun σ2 H2=>tt σ2 H2 fun b H3=>if b=true then te σ2 H3 fun y H4=>∃ ys,H4 D=some (.lst ys)∧ys.length < sizeLine∧Pv (i+1) σ2 (upd H4 D (.lst (ys ++ [y]))) else Pv (i+1) σ2 H3)
  (hd:∀ σ H,Pv xs.length σ H→Fin H):tTurns (Itl K a) g tt te D Fin σ H:=by
 refine ⟨fun i m σ H=>m=xs.length - i∧i≤xs.length∧Pv i σ H,⟨xs.length,by simp,Nat.zero_le _,h0⟩,?_⟩
 rintro i m σ H ⟨rfl,hi,p⟩
 have q:=hl i σ H hi p
 by_cases hlt:i < xs.length
 · refine .inr ⟨⟨xs,xs[i],q,by simp [hlt]⟩,Pv (i+1),fun σ' H' p'=>⟨xs.length - (i+1),by omega,rfl,hlt,p'⟩,fun x H' y=>?_⟩
   obtain ⟨e,y⟩:=y
   subst e
   exact hs i x σ _ (y xs q) p
 · have e:i=xs.length:=by omega
   subst e
   exact .inl ⟨⟨xs,q,Nat.le_refl _⟩,hd σ H p⟩
theorem turns_str {x:Str} {g:TG} {tt:TT} {te:TE} {D:Addr} {Fin:Hp→Prop} {σ:L2.St} {H:Hp} (Pv:Nat→L2.St→Hp→Prop) (h0:Pv 0 σ H)
  (hs:∀ i c σ H,x.cps[i]? = some c→Pv i σ H→g (.str ⟨#[c]⟩) σ H fun σ2 H2=>tt σ2 H2 fun b H3=>if b=true then te σ2 H3 fun y H4=>∃ ys,H4 D=some (.lst ys)∧ys.length < sizeLine∧Pv (i+1) σ2 (upd H4 D (.lst (ys ++ [y]))) else Pv (i+1) σ2 H3)
  (hd:∀ σ H,Pv x.length σ H→Fin H):tTurns (Itx x) g tt te D Fin σ H:=by
 refine ⟨fun i m σ H=>m=x.length - i∧i≤x.length∧Pv i σ H,⟨x.length,by simp,Nat.zero_le _,h0⟩,?_⟩
 rintro i m σ H ⟨rfl,hi,p⟩
 by_cases hlt:i < x.length
 · refine .inr ⟨hlt,Pv (i+1),fun σ' H' p'=>⟨x.length - (i+1),by omega,rfl,hlt,p'⟩,fun v H' y=>?_⟩
   obtain ⟨e,c,hc,y⟩:=y
   subst e y
   exact hs i c σ _ hc p
 · have e:i=x.length:=by omega
   subst e
   exact .inl ⟨rfl,hd σ H p⟩
def lowB (c:Nat):Bool:=decide (97≤c) && decide (c≤122)
def isWordB (x:Str):Bool:=(decide (1≤(x.length:Int)) && decide ((x.length:Int)≤10)) && x.cps.toList.all lowB
theorem Word.isB {x:Str} (h:Word 10 x):isWordB x=true:=by
 unfold isWordB
 have h1:=h.pos
 have h2:=h.le
 rw [decide_eq_true (show (1:Int)≤(x.length:Int) by omega),decide_eq_true (show (x.length:Int)≤10 by omega)]
 refine List.all_eq_true.mpr fun c hc=>?_
 obtain ⟨q1,q2⟩:=h.low c hc
 unfold lowB
 rw [decide_eq_true q1,decide_eq_true q2]
 rfl
def spSmall:Sp:=fun vs H Q _=>∃ c:Nat,vs=[.str ⟨#[c]⟩]∧Q (.bl (lowB c)) H
def spIsWord:Sp:=fun vs H Q _=>∃ x:Str,vs=[.str x]∧x.length≤1000∧∀ H',Same H H'→Q (.bl (isWordB x)) H'
structure Good (bs:List Str):Prop where
 pos:1≤bs.length
 le:bs.length≤6
 words:∀ b∈bs,Word 10 b
def spCheck (K:W.Frag):Sp:=fun vs H Q _=>∃ (p:Addr) (bs:List Str),vs=[.ref p]∧SqL K H p (bs.map V.str)∧Good bs∧∀ H',Same H H'→Q .non H'
theorem code_a:(Str.ofString "a").cps.toList=[97]:=by decide +kernel
theorem code_z:(Str.ofString "z").cps.toList=[122]:=by decide +kernel
theorem le_one (a b:Nat):(!decide (([b]:List Nat) < [a]))=decide (a≤b):=by
 have e:(([b]:List Nat) < [a])↔b < a:=by
  constructor
  · intro h
    cases h with
    | rel h=>exact h
    | cons h=>cases h
  · intro h; exact List.Lex.rel h
 rw [show decide (([b]:List Nat) < [a])=decide (b < a) from decide_eq_decide.mpr e]
 by_cases h:b < a
 · rw [decide_eq_true h,decide_eq_false (by omega)]; rfl
 · rw [decide_eq_false h,decide_eq_true (by omega)]; rfl
def likeB (bs:List Str) (k:Nat):Bool:=inV ((bs[k]?).elim V.non V.str) (cutV (bs.map V.str) none (some (k:Int)))
def inS (b o:Str):Bool:=!(Builtin.Str.occurrences o b 0 o.length 1).isEmpty
def holdsB (b o:Str):Bool:=(!decide (V.str b=V.str o)) && inS b o
def heldB (bs:List Str) (k:Nat):Bool:=bs.any fun o=>holdsB ((bs[k]?).getD ⟨#[]⟩) o
def needB (bs:List Str) (k:Nat):Bool:=!likeB bs k && !heldB bs k
def keptF (bs:List Str):List Int:=((List.range bs.length).filter (needB bs)).map fun (k:Nat)=>(k:Int)
theorem cut_flat (bs:List Str) (lo hi:Option Int):(cutV (bs.map V.str) lo hi).all flatV=true:=by
 refine List.all_eq_true.mpr fun v hv=>?_
 unfold cutV at hv
 have hv':=List.mem_of_mem_drop (List.mem_of_mem_take hv)
 obtain ⟨z,_,rfl⟩:=List.mem_map.mp hv'
 rfl
def spAt (K:W.Frag) (r:List Str→Nat→Bool):Sp:=fun vs H Q _=>∃ (p:Addr) (bs:List Str) (k:Nat),vs=[.ref p,.int k]∧SqL K H p (bs.map V.str)∧k < bs.length∧bs.length≤9∧∀ H',Same H H'→Q (.bl (r bs k)) H'
def spNew (K:W.Frag) (C:List Str→Prop) (r:List Str→List Int):Sp:=fun vs H Q _=>∃ (p:Addr) (bs:List Str),vs=[.ref p]∧SqL K H p (bs.map V.str)∧C bs∧bs.length≤9∧∀ (l:Addr) (H':Hp),H l=none→Same H H'→H' l=some (.lst ((r bs).map V.int))→Q (.ref l) H'
theorem range_filter_succ (p:Nat→Bool) (i:Nat):(List.range (i+1)).filter p=(List.range i).filter p ++ if p i=true then [i] else []:=by
 rw [List.range_succ,List.filter_append]
 congr 1
 by_cases h:p i=true
 · rw [if_pos h]; simp [h]
 · rw [if_neg h]; simp [h]
theorem take_snoc {α:Type} {l:List α} {i:Nat} {x:α} (h:l[i]? = some x):l.take (i+1)=l.take i ++ [x]:=by
 rw [List.take_add_one,h] <;> rfl
end LW
namespace LW
open PySem PySem.Spec PyProof.Rows L2
section
variable {X:Cx}
theorem call_setI (hc:X.calm=true):CallR X (.type "set") (fun xs H Q=>∃ (p:Addr) (ns:List Int),xs=[.ref p]∧SqL X.K H p (ns.map V.int)∧ns.length≤1000 ∧
  ∀ r,H r=none→Q (.ref r) (upd H r (.set (fun k'=>(firstMet (fun i=>ns.getD i 0) ns.length).any (· == k')) (firstMet (fun i=>ns.getD i 0) ns.length).length))):=by
 intro pins s σ H xs us Q I r h
 obtain ⟨p,ns,rfl,hq,hn,q⟩:=h
 obtain ⟨u,rfl,rx⟩:=vals1 r
 cases rx
 obtain ⟨its,rv,pl,hz⟩:=I.list hq
 have hi:=intsAre_of rv
 have hl:its.length=ns.length:=hi.length
 refine PySem.call_set_list (items:=its.toArray) (ns:=ns) (I.ok.hd hc) pl.isList (by simpa using hi) (by rw [List.size_toArray,hl]; unfold scanBound; omega) fun h' tk hS hk=>?_
 have hz':its.toArray.size=ns.length:=by rw [List.size_toArray,hl]
 rw [hz'] at hS
 exact ⟨.ref s.heap.objs.size,_,I.laid (fun b o e=>hk b o (Heap.lt_size e) e) (Nat.le_refl _) (show ObjOk X.prog X.w _ h' _ (.set _ _) from hS),rfl,q _ (I.hok.fresh (Nat.le_refl _))⟩
theorem call_lenSet:CallR X (.builtin "len") (fun xs H Q=>∃ (p:Addr) (S:Int→Bool) (n:Nat),xs=[.ref p]∧H p=some (.set S n)∧Q (.int n) H):=by
 intro pins s σ H xs us Q I r h
 obtain ⟨p,S,n,rfl,hp,q⟩:=h
 obtain ⟨u,rfl,rx⟩:=vals1 r
 cases rx
 obtain ⟨o,es,ep,t,ho,hex,hd,_,_,hb,hf,hn⟩:=(show s.heap.SetOf (intKind X.prog X.w) p S n from I.hok p _ hp)
 refine PySem.call_len_set ho hex hd hf (by unfold scanBound at hb; omega) ?_
 exact ⟨.int n,H,I.tok _,⟨_,by rw [hn]⟩,q⟩
theorem firstMet_nodup {ns:List Int} (hn:ns.Nodup):∀ i,i≤ns.length→firstMet (fun i=>ns.getD i 0) i=ns.take i
 | 0,_=>by rw [firstMet_zero,List.take_zero]
 | i+1,h=>by
  have ih:=firstMet_nodup hn i (by omega)
  rw [firstMet_succ,ih]
  have hi:i < ns.length:=by omega
  have e:ns.getD i 0=ns[i]:=by rw [List.getD_eq_getElem?_getD,List.getElem?_eq_getElem hi] <;> rfl
  have no:(ns.take i).any (· == ns.getD i 0)=false:=by
   rw [List.any_eq_false]
   intro x hx hxe
   rw [e] at hxe
   have hxe':x=ns[i]:=by simpa using hxe
   obtain ⟨j,hj,rfl⟩:=List.getElem_of_mem hx
   rw [List.length_take] at hj
   rw [List.getElem_take] at hxe'
   have:=(List.getElem_inj hn).mp hxe'
   omega
  show (if ((ns.take i).any (· == ns.getD i 0))=true then ns.take i else ns.take i ++ [ns.getD i 0])=_
  rw [no,if_neg Bool.false_ne_true,e,List.take_add_one,List.getElem?_eq_getElem hi] <;> rfl
theorem firstMet_len {ns:List Int} (hn:ns.Nodup):(firstMet (fun i=>ns.getD i 0) ns.length).length=ns.length:=by
 rw [firstMet_nodup hn _ (Nat.le_refl _),List.take_length]
end
end LW
namespace LW
open PySem PySem.Spec PyProof.Rows L2 PySem.Builtin.Int
def layStep (st:Str×Str) (x:Str):Str×Str:=(st.1 ++ Txt.slice x (some ((ovF st.2 x:Nat):Int)) none,x)
def layFrom (st:Str×Str) (xs:List Str):Str:=(xs.foldl layStep st).1
def laidW:List Str→Str
 | []=>Str.ofString ""
 | x::r=>layFrom (x,x) r
def ordWords (bs:List Str) (os:List Int):List Str:=os.map fun o=>bs.getD o.toNat ⟨#[]⟩
theorem str_ext {x y:Str} (h:x.cps.toList=y.cps.toList):x=y:=by
 cases x; cases y
 congr 1
 simpa using congrArg List.toArray h
theorem step_len (st:Str×Str) (x:Str):(layStep st x).1.length≤st.1.length+x.length:=by
 show (st.1 ++ Txt.slice x (some ((ovF st.2 x:Nat):Int)) none).length≤_
 rw [len_app]
 have:=Txt.slice_le x (some ((ovF st.2 x:Nat):Int)) none
 omega
structure Order (n:Nat) (os:List Int):Prop where
 ne:os≠[]
 nd:os.Nodup
 rng:∀ o∈os,0≤o∧o < (n:Int)
 le:os.length≤9
def spOrd (K:W.Frag):Sp:=fun vs H Q _=>∃ (p r:Addr) (bs:List Str) (os:List Int),vs=[.ref p,.ref r]∧SqL K H p (bs.map V.str)∧SqL K H r (os.map V.int)∧Order bs.length os∧∀ H',Same H H'→Q .non H'
def spLaid (K:W.Frag) (C:List Str→Prop):Sp:=fun vs H Q _=>∃ (p r:Addr) (bs:List Str) (os:List Int),vs=[.ref p,.ref r]∧SqL K H p (bs.map V.str)∧SqL K H r (os.map V.int)∧C bs∧(∀ b∈bs,Word 10 b)∧Order bs.length os∧∀ H',Same H H'→Q (.str (laidW (ordWords bs os))) H'
theorem cut1 (xs:List V):cutV xs (some 1) none=xs.drop 1:=by
 unfold cutV
 have e:HT.sIx xs.length 0 (some 1)=min 1 xs.length:=HT.sIx_nat xs.length 0 1
 rw [e]
 cases xs with
 | nil=>rfl
 | cons x r =>
  rw [show min 1 (x::r).length=1 by simp]
  refine List.take_of_length_le ?_
  rw [List.length_drop]
  exact Nat.le_refl _
theorem at_ints {os:List Int} {j:Nat} {v:V} (h:(os.map V.int)[j]? = some v):∃ o,os[j]? = some o∧v=.int o:=by
 rw [List.getElem?_map] at h
 cases e:os[j]? with
 | none=>rw [e] at h; cases h
 | some o=>rw [e] at h; exact ⟨o,rfl,(Option.some.inj h).symm⟩
theorem at_word {bs:List Str} {o:Int} (h0:0≤o) (h1:o < (bs.length:Int)):bs.getD o.toNat ⟨#[]⟩∈bs∧atI (bs.map V.str) o=some (.str (bs.getD o.toNat ⟨#[]⟩)):=by
 obtain ⟨b,hb,e,ea⟩:=atI_strs (bs:=bs) h0 h1
 have eg:bs.getD o.toNat ⟨#[]⟩=b:=by rw [List.getD_eq_getElem?_getD,e] <;> rfl
 rw [eg]
 exact ⟨hb,ea⟩
theorem words_len {bs:List Str} (hW:∀ b∈bs,Word 10 b) {os:List Int} (ho:∀ o∈os,0≤o∧o < (bs.length:Int)):∀ x∈ordWords bs os,x.length≤10:=fun x hx=>by
 obtain ⟨o,h1,rfl⟩:=List.mem_map.mp hx
 exact (hW _ (at_word (ho o h1).1 (ho o h1).2).1).le
theorem lay_len {xs:List Str} (h:∀ x∈xs,x.length≤10) (st:Str×Str):∀ i,((xs.take i).foldl layStep st).1.length≤st.1.length+10 * i
 | 0=>by rw [List.take_zero]; exact Nat.le_add_right _ _
 | i+1=>by
  have ih:=lay_len h st i
  cases e:xs[i]? with
  | none =>
   rw [List.take_of_length_le (by have:=List.getElem?_eq_none_iff.mp e; omega)]
   rw [List.take_of_length_le (List.getElem?_eq_none_iff.mp e)] at ih
   omega
  | some x =>
   rw [take_snoc e,List.foldl_append]
   have:=step_len ((xs.take i).foldl layStep st) x
   have:=h x (List.mem_of_getElem? e)
   show (layStep ((xs.take i).foldl layStep st) x).1.length≤_
   omega
theorem lay_last {xs:List Str} {st:Str×Str} {i:Nat} {x:Str} (e:xs[i]? = some x):(xs.take (i+1)).foldl layStep st=layStep ((xs.take i).foldl layStep st) x:=by
 rw [take_snoc e,List.foldl_append] <;> rfl
theorem erase_map {α β:Type} (g:α→β):∀ (l:List α) (i:Nat),(l.map g).eraseIdx i=(l.eraseIdx i).map g
 | [],_=>rfl
 | _::_,0=>rfl
 | x::r,i+1=>by
  show g x::(r.map g).eraseIdx i=g x::(r.eraseIdx i).map g
  rw [erase_map g r i]
theorem erase_perm {α:Type}:∀ (l:List α) (i:Nat) (h:i < l.length),(l[i]::l.eraseIdx i).Perm l
 | x::r,0,_=>List.Perm.refl _
 | x::r,i+1,h=>by
  have ih:=erase_perm r i (by simpa using h)
  exact (List.Perm.swap x _ _).trans (ih.cons x)
theorem fromIndex_nat (n i:Nat):fromIndex n (i:Int)=i:=by
 unfold fromIndex
 rw [if_neg (by omega)]
 omega
def startsB (t w:Str) (i:Nat):Bool:=decide (i+w.length≤t.length) && Builtin.Str.subAt t w i
def placesF (w t:Str):List Int:=((List.range t.length).filter (startsB t w)).map fun (k:Nat)=>(k:Int)
theorem sub_iff {t w:Str} {i:Nat}:Builtin.Str.subAt t w i=true↔(t.cps.toList.drop i).take w.length=w.cps.toList:=by
 unfold Builtin.Str.subAt
 rw [beq_iff_eq]
 constructor
 · intro h
   have h':=congrArg Array.toList h
   rw [Array.toList_extract,List.extract_eq_drop_take] at h'
   simpa using h'
 · intro h
   have:(t.cps.extract i (i+w.length)).toList=w.cps.toList:=by
    rw [Array.toList_extract,List.extract_eq_drop_take]
    simpa using h
   cases e:t.cps.extract i (i+w.length) with
   | mk l =>
    cases e2:w.cps with
    | mk m =>
     rw [e,e2] at this
     simpa using this
def spPl (K:W.Frag):Sp:=fun vs H Q _=>∃ (w t:Str),vs=[.str w,.str t]∧1≤w.length∧w.length≤900∧t.length≤900∧∀ (l:Addr) (H':Hp),H l=none→Same H H'→H' l=some (.lst ((placesF w t).map V.int))→Q (.ref l) H'
structure Rows (H H':Hp) (D:Addr) (t:Str) (bs:List Str) (ls:List Addr):Prop where
 len:ls.length=bs.length
 nd:ls.Nodup
 out:D∉ls
 new:∀ l∈ls,H l=none
 rows:∀ (j:Nat) b l,bs[j]? = some b→ls[j]? = some l→H' l=some (.lst ((placesF b t).map V.int))
def spPlaces (K:W.Frag):Sp:=fun vs H Q _=>∃ (p:Addr) (bs:List Str) (t:Str),vs=[.ref p,.str t]∧SqL K H p (bs.map V.str)∧Good bs∧t.length≤900 ∧
 ∀ (D:Addr) (ls:List Addr) (H':Hp),H D=none→Same H H'→H' D=some (.lst (ls.map V.ref))→Rows H H' D t bs ls→Q (.ref D) H'
theorem at_strs {bs:List Str} {j:Nat} {v:V} (h:(bs.map V.str)[j]? = some v):∃ b,bs[j]? = some b∧v=.str b:=by
 rw [List.getElem?_map] at h
 cases e:bs[j]? with
 | none=>rw [e] at h; cases h
 | some o=>rw [e] at h; exact ⟨o,rfl,(Option.some.inj h).symm⟩
section
variable {X:Cx} {K:W.Frag} {o e:Expr} {es:List Expr} {to:TE} {t:TA} {name:Str} {apos cpos:Pos} {T id:String} {r:V→List V→Hp→VK→Prop}
theorem pe_bmK (h:X.K=K) (pa:PlainAttrs T) (slot:Slot T name id) (hty:typeOf (.builtin id)=pure (.type "method_descriptor")) (hm:MtR X id r) (ho:PE X o to) (ha:PA X (e::es) t)
  (hbase:attributeBase o name X.env (eval o X.env)=eval o X.env:=by rfl)
  (hfew:((backTo cpos (starEach (e::es) X.env)).all (fun x=>!x.1) && (backToKw cpos (keywordEach [] X.env)).all (fun x=>x.1.isSome)
   && decide ((e::es).length+([]:List Keyword).length+(if ([]:List Keyword).isEmpty then 0 else 1) < 30))=true:=by rfl)
  (hline:(apos.endLine == cpos.line)=true:=by rfl) (hs:starEach (e::es) X.env=(false,eval e X.env)::starEach es X.env:=by rfl) (hplain:(backTo cpos (starEach es X.env)).any (·.1)=false:=by rfl) :
  PE X (.Call (.Attribute o name apos) (e::es) [] cpos) (tBM K T r to t):=h ▸ pe_bm pa slot hty hm ho ha hbase hfew hline hs hplain
theorem ix_tupK (h:X.K=K):IxR X (rIxT K):=h ▸ ix_tup
theorem pi_tupK {tg l:Expr} {tl:TE} (h:X.K=K) (hl:PE X l tl):PI X tg l (iTup K tl):=h ▸ pi_tup hl
end
def spSize (K:W.Frag):Sp:=fun vs H Q _=>∃ (p:Addr) (bs:List Str),vs=[.ref p]∧SqL K H p (bs.map V.str)∧Q (.bl (decide (1≤(bs.length:Int)) && decide ((bs.length:Int)≤6))) H
def beyS (a b:Str):Str:=Txt.slice b (some ((ovF a b:Nat):Int)) none
def spBeyond:Sp:=fun vs H Q _=>∃ (a b:Str),vs=[.str a,.str b]∧a.length≤1000∧b.length≤1000∧∀ H',Same H H'→Q (.str (beyS a b)) H'
end LW
namespace LW
open PySem PyProof.Rows L2
theorem len1:∀ {us:List Value},us.length=1→∃ a,us=[a]
 | [a],_=>⟨a,rfl⟩
theorem len2 {us:List Value} (h:us.length=2):∃ a b,us=[a,b]:=by
 cases us with
 | nil=>cases h
 | cons a us=>obtain ⟨b,rfl⟩:=len1 (Nat.succ.inj h); exact ⟨a,b,rfl⟩
theorem len3 {us:List Value} (h:us.length=3):∃ a b c,us=[a,b,c]:=by
 cases us with
 | nil=>cases h
 | cons a us=>obtain ⟨b,c,rfl⟩:=len2 (Nat.succ.inj h); exact ⟨a,b,c,rfl⟩
theorem len4 {us:List Value} (h:us.length=4):∃ a b c d,us=[a,b,c,d]:=by
 cases us with
 | nil=>cases h
 | cons a us=>obtain ⟨b,c,d,rfl⟩:=len3 (Nat.succ.inj h); exact ⟨a,b,c,d,rfl⟩
theorem len5 {us:List Value} (h:us.length=5):∃ a b c d e,us=[a,b,c,d,e]:=by
 cases us with
 | nil=>cases h
 | cons a us=>obtain ⟨b,c,d,e,rfl⟩:=len4 (Nat.succ.inj h); exact ⟨a,b,c,d,e,rfl⟩
theorem binds1 {K:W.Frag} {x qual:Str} {st:Stmt} {f:Addr} {fd:FuncData} {p1:Str} (F:Fun K x qual st f fd) (h:∀ (kV doc pm:Value) (an:Option Addr) (cdv ct u1:Value),bindArgs (W.fnOf x qual (defArgs st) (defBody st) (defScope st) .none kV doc pm an cdv ct) ⟨[u1],[]⟩=pure [(p1,u1)]):Binds K fd [p1] [] :=
 F.binds fun kV doc pm an cdv ct us hl=>by
  obtain ⟨u1,rfl⟩:=len1 hl
  exact h kV doc pm an cdv ct u1
theorem binds2 {K:W.Frag} {x qual:Str} {st:Stmt} {f:Addr} {fd:FuncData} {p1 p2:Str} (F:Fun K x qual st f fd) (h:∀ (kV doc pm:Value) (an:Option Addr) (cdv ct u1 u2:Value),bindArgs (W.fnOf x qual (defArgs st) (defBody st) (defScope st) .none kV doc pm an cdv ct) ⟨[u1,u2],[]⟩=pure [(p1,u1),(p2,u2)]):Binds K fd [p1,p2] [] :=
 F.binds fun kV doc pm an cdv ct us hl=>by
  obtain ⟨u1,u2,rfl⟩:=len2 hl
  exact h kV doc pm an cdv ct u1 u2
theorem binds3 {K:W.Frag} {x qual:Str} {st:Stmt} {f:Addr} {fd:FuncData} {p1 p2 p3:Str} (F:Fun K x qual st f fd) (h:∀ (kV doc pm:Value) (an:Option Addr) (cdv ct u1 u2 u3:Value),bindArgs (W.fnOf x qual (defArgs st) (defBody st) (defScope st) .none kV doc pm an cdv ct) ⟨[u1,u2,u3],[]⟩=pure [(p1,u1),(p2,u2),(p3,u3)]):Binds K fd [p1,p2,p3] [] :=
 F.binds fun kV doc pm an cdv ct us hl=>by
  obtain ⟨u1,u2,u3,rfl⟩:=len3 hl
  exact h kV doc pm an cdv ct u1 u2 u3
theorem binds4 {K:W.Frag} {x qual:Str} {st:Stmt} {f:Addr} {fd:FuncData} {p1 p2 p3 p4:Str} (F:Fun K x qual st f fd) (h:∀ (kV doc pm:Value) (an:Option Addr) (cdv ct u1 u2 u3 u4:Value),bindArgs (W.fnOf x qual (defArgs st) (defBody st) (defScope st) .none kV doc pm an cdv ct) ⟨[u1,u2,u3,u4],[]⟩=pure [(p1,u1),(p2,u2),(p3,u3),(p4,u4)]):Binds K fd [p1,p2,p3,p4] [] :=
 F.binds fun kV doc pm an cdv ct us hl=>by
  obtain ⟨u1,u2,u3,u4,rfl⟩:=len4 hl
  exact h kV doc pm an cdv ct u1 u2 u3 u4
theorem binds5 {K:W.Frag} {x qual:Str} {st:Stmt} {f:Addr} {fd:FuncData} {p1 p2 p3 p4 p5:Str} (F:Fun K x qual st f fd) (h:∀ (kV doc pm:Value) (an:Option Addr) (cdv ct u1 u2 u3 u4 u5:Value),bindArgs (W.fnOf x qual (defArgs st) (defBody st) (defScope st) .none kV doc pm an cdv ct) ⟨[u1,u2,u3,u4,u5],[]⟩=pure [(p1,u1),(p2,u2),(p3,u3),(p4,u4),(p5,u5)]):Binds K fd [p1,p2,p3,p4,p5] [] :=
 F.binds fun kV doc pm an cdv ct us hl=>by
  obtain ⟨u1,u2,u3,u4,u5,rfl⟩:=len5 hl
  exact h kV doc pm an cdv ct u1 u2 u3 u4 u5
end LW
namespace LW
open PySem PyProof.Rows
abbrev KD:=PyProof.Rows.KeyKind
def gallop':Bool→Keyed→Array Keyed→Nat→Nat→Nat→StateT SortSt Sem (Option Nat):=sortPriv% PySem.Builtin.gallop
def mergeLo':Array Keyed→Array Keyed→StateT SortSt Sem (Array Keyed):=sortPriv% PySem.Builtin.mergeLo
def mergeHi':Array Keyed→Array Keyed→StateT SortSt Sem (Array Keyed):=sortPriv% PySem.Builtin.mergeHi
def KV (κ:KD) (p:Keyed):κ.α:=(κ.keyOf p.1).getD κ.dflt
section
variable {prog:Program} {w:World} {A:Around} {E:Value→Shared→Prop} {s:Shared} {κ:KD} {kd:SortKind}
def LtOk (prog:Program) (w:World) (A:Around) (E:Value→Shared→Prop) (s:Shared) (κ:KD) (kd:SortKind):Prop :=
 ∀ (st:SortSt) (x y:Keyed) (a b:κ.α) (Q:Option Bool→SortSt→Prop),kindOf st=kd→κ.keyOf x.1=some a→κ.keyOf y.1=some b→Q (some (κ.blt a b)) st→wpS (model prog w) A E s (lt' x y) Q st
theorem wpS_lt2 (hL:LtOk prog w A E s κ kd) {st:SortSt} {x y:Keyed} {Q:Option Bool→SortSt→Prop} (hk:kindOf st=kd) (hx:∃ a,κ.keyOf x.1=some a) (hy:∃ a,κ.keyOf y.1=some a)
  (h:Q (some (κ.blt (KV κ x) (KV κ y))) st):wpS (model prog w) A E s (lt' x y) Q st:=by
 obtain ⟨a,ha⟩:=hx
 obtain ⟨b,hb⟩:=hy
 refine hL st x y a b Q hk ha hb ?_
 unfold KV at h
 rw [ha,hb] at h
 exact h
theorem wpS_elem {st:SortSt} {arr:Array Keyed} {i:Nat} {p:Keyed} {Q:Keyed→SortSt→Prop} (e:arr[i]? = some p) (h:Q p st):wpS (model prog w) A E s (elem' arr i) Q st:=by
 rw [elem'_eq,e]
 exact wpS_pure h
theorem wpS_beyond (hL:LtOk prog w A E s κ kd) {st:SortSt} {arr:Array Keyed} {left:Bool} {key:Keyed} {j:Nat} {Q:Option Bool→SortSt→Prop} (hk:kindOf st=kd) (hy:∃ a,κ.keyOf key.1=some a) (hj:∃ p,arr[j]? = some p∧∃ a,κ.keyOf p.1=some a)
  (h:Q (some (if left=true then κ.blt (KK κ arr j) (KV κ key) else !(κ.blt (KV κ key) (KK κ arr j)))) st) :
  wpS (model prog w) A E s (do let x ← elem' arr j; if left=true then lt' x key else do { let o ← lt' key x; pure (o.map (fun b=>!b)) }) Q st:=by
 obtain ⟨p,e,hp⟩:=hj
 have ek:KK κ arr j=KV κ p:=by unfold KK KV; rw [e]
 rw [ek] at h
 refine wpS_bind (wpS_elem e ?_)
 cases left with
 | true=>exact wpS_lt2 hL hk hp hy h
 | false=>exact wpS_bind (wpS_lt2 hL hk hy hp (wpS_pure h))
theorem half_in {l r:Nat} (h:l < r):l≤(l+r) / 2∧(l+r) / 2 < r:=by omega
theorem half_in' {l r:Nat} (h:l < r):l+(r - l) / 2 < r:=by omega
theorem less_one {d e k x:Nat} (h1:d < e) (h2:e≤k - x):d≤k - (x+1):=by
 rw [Nat.sub_add_eq]
 exact Nat.le_sub_one_of_lt (Nat.lt_of_lt_of_le h1 h2)
theorem below_min {h l o:Nat} (a:l < o):h+1 - min o (h+1)≤h - l:=by
 rcases Nat.le_total o (h+1) with c | c
 · rw [Nat.min_eq_left c]
   exact Nat.le_trans (Nat.sub_le_sub_left (Nat.succ_le_of_lt a) _) (Nat.le_of_eq (Nat.add_sub_add_right h 1 l))
 · rw [Nat.min_eq_right c,Nat.sub_self]
   exact Nat.zero_le _
theorem ext_len {n i k:Nat} (hi:i≤n) (hk:k≤n - i):min (i+k) n - i=k:=by
 rw [Nat.min_eq_left (Nat.add_le_of_le_sub' hi hk),Nat.add_sub_cancel_left]
theorem wpS_gallop (hL:LtOk prog w A E s κ kd) {st:SortSt} {left:Bool} {key:Keyed} {arr:Array Keyed} {base n hint:Nat} {Q:Option Nat→SortSt→Prop} (hk:kindOf st=kd) (hy:∃ a,κ.keyOf key.1=some a)
  (hj:∀ i,i < n→∃ p,arr[base+i]? = some p∧∃ a,κ.keyOf p.1=some a) (hh:hint < n) (bB:Nat→Bool) (hB:∀ i,i < n→(if left=true then κ.blt (KK κ arr (base+i)) (KV κ key) else !(κ.blt (KV κ key) (KK κ arr (base+i))))=bB i)
  (mono:∀ i j,i≤j→j < n→bB j=true→bB i=true)
  (h:∀ k,k≤n→(∀ i,i < k→bB i=true)→(∀ i,k≤i→i < n→bB i=false)→Q (some k) st) :
  wpS (model prog w) A E s (gallop' left key arr base n hint) Q st:=by
 have bey:∀ i,i < n→∀ {Q:Option Bool→SortSt→Prop},Q (some (bB i)) st→wpS (model prog w) A E s (do let x ← elem' arr (base+i); if left=true then lt' x key else do { let o ← lt' key x; pure (o.map (fun b=>!b)) }) Q st:=by
  intro i hi Q q
  refine wpS_beyond hL hk hy (hj i hi) ?_
  rw [hB i hi]
  exact q
 have monoF:∀ i j,i≤j→j < n→bB i=false→bB j=false:=by
  intro i j hij hjn hi
  cases e:bB j with
  | false=>rfl
  | true=>rw [mono i j hij hjn e] at hi; exact hi
 have fin:∀ lo hi,lo≤hi→hi≤n→(∀ i,i < lo→bB i=true)→(∀ i,hi≤i→i < n→bB i=false)→∀ {f:Nat→Option (Option Nat)×Nat×Nat→StateT SortSt Sem (ForInStep (Option (Option Nat)×Nat×Nat))} {g:Option (Option Nat)×Nat×Nat→StateT SortSt Sem (Option Nat)},
   (∀ x lo hi,lo < hi→hi≤n→∀ {R:ForInStep (Option (Option Nat)×Nat×Nat)→SortSt→Prop},R (.yield (if bB (lo+(hi - lo) / 2)=true then (none,lo+(hi - lo) / 2+1,hi) else (none,lo,lo+(hi - lo) / 2))) st→wpS (model prog w) A E s (f x (none,lo,hi)) R st) →
   (∀ x lo hi,¬ lo < hi→∀ {R:ForInStep (Option (Option Nat)×Nat×Nat)→SortSt→Prop},R (.done (none,lo,hi)) st→wpS (model prog w) A E s (f x (none,lo,hi)) R st) →
   (∀ lo hi,g (none,lo,hi)=pure (some hi))→wpS (model prog w) A E s (do let c ← forIn [0:n] ((none,lo,hi):Option (Option Nat)×Nat×Nat) f; g c) Q st:=by
  intro lo hi hlh hhn hlo hhi f g hf hf2 hg
  refine wpS_bind (wpS_mono (wpS_forRange (I:=fun x c st''=>st''=st∧∃ lo hi,c=(none,lo,hi)∧lo≤hi∧hi≤n∧hi - lo≤n - x∧(∀ i,i < lo→bB i=true)∧(∀ i,hi≤i→i < n→bB i=false))
   (Q:=fun c st''=>st''=st∧∃ k,c=(none,k,k)∧k≤n∧(∀ i,i < k→bB i=true)∧(∀ i,k≤i→i < n→bB i=false)) ?step ?fin ⟨rfl,lo,hi,rfl,hlh,hhn,by omega,hlo,hhi⟩) ?post)
  case post =>
   rintro c st'' ⟨rfl,k,rfl,h1,h2,h3⟩
   rw [hg]
   exact wpS_pure (h k h1 h2 h3)
  case fin =>
   rintro c st'' ⟨rfl,lo,hi,rfl,h1,h2,h3,h4,h5⟩
   have:lo=hi:=by omega
   subst this
   exact ⟨rfl,lo,rfl,h2,h4,h5⟩
  case step =>
   rintro x c st'' _ hx ⟨rfl,lo,hi,rfl,h1,h2,h3,h4,h5⟩
   by_cases hlt:lo < hi
   · refine hf x lo hi hlt h2 ?_
     cases e:bB (lo+(hi - lo) / 2) with
     | true =>
      rw [if_pos rfl]
      exact ⟨rfl,_,_,rfl,half_in' hlt,h2,less_one (Nat.sub_lt_sub_left hlt (Nat.lt_succ_of_le (Nat.le_add_right _ _))) h3,fun i hi'=>mono i _ (Nat.le_of_lt_succ hi') (Nat.lt_of_lt_of_le (half_in' hlt) h2) e,h5⟩
     | false =>
      rw [if_neg Bool.false_ne_true]
      exact ⟨rfl,_,_,rfl,Nat.le_add_right _ _,Nat.le_trans (Nat.le_of_lt (half_in' hlt)) h2,less_one (Nat.sub_lt_sub_right (Nat.le_add_right _ _) (half_in' hlt)) h3,h4,fun i a b=>monoF _ i a b e⟩
   · have:lo=hi:=by omega
     subst this
     exact hf2 x lo lo hlt ⟨rfl,lo,rfl,h2,h4,h5⟩
 refine wpS_bind (bey hint hh ?_)
 dsimp only
 have lastF:∀ (lo hi:Nat),lo≤hi→hi≤n→(∀ i,i < lo→bB i=true)→(∀ i,hi≤i→i < n→bB i=false)→True:=fun _ _ _ _ _ _=>trivial
 cases eh:bB hint with
 | true =>
  rw [if_pos rfl]
  refine wpS_bind (wpS_mono (wpS_forRange (I:=fun x c st''=>st''=st∧∃ l o,c=(none,l,o)∧l < o∧x+1≤o∧hint+l < n∧bB (hint+l)=true)
   (Q:=fun c st''=>st''=st∧∃ l o,c=(none,l,o)∧l < o∧hint+l < n∧bB (hint+l)=true∧(n - hint≤o∨bB (hint+o)=false)) ?step ?fin ⟨rfl,0,1,rfl,by omega,by omega,hh,eh⟩) ?post)
  case fin =>
   rintro c st'' ⟨rfl,l,o,rfl,h1,h2,h3,h4⟩
   exact ⟨rfl,l,o,rfl,h1,h3,h4,.inl (by omega)⟩
  case step =>
   rintro x c st'' _ hx ⟨rfl,l,o,rfl,h1,h2,h3,h4⟩
   dsimp only
   by_cases hge:o ≥ n - hint
   · rw [if_pos hge]
     exact wpS_pure ⟨rfl,l,o,rfl,h1,h3,h4,.inl hge⟩
   · rw [if_neg hge]
     refine wpS_bind (bey (hint+o) (by omega) ?_)
     dsimp only
     cases e:bB (hint+o) with
     | true =>
      simp only [Bool.not_true,Bool.false_eq_true,if_false]
      exact wpS_pure ⟨rfl,o,2 * o+1,rfl,by omega,by omega,by omega,e⟩
     | false =>
      simp only [Bool.not_false,if_true]
      exact wpS_pure ⟨rfl,l,o,rfl,h1,h3,h4,.inr e⟩
  case post =>
   rintro c st'' ⟨rfl,l,o,rfl,h1,h2,h3,h4⟩
   dsimp only
   refine fin (hint+l+1) (hint+min o (n - hint)) (by omega) (by omega) (fun i hi=>mono i _ (by omega) h2 h3) (fun i a b=>?_) ?_ ?_ ?_
   · rcases h4 with h4 | h4
     · omega
     · exact monoF (hint+o) i (by omega) b h4
   · intro x lo hi hlt hle R hR
     dsimp only
     rw [if_neg (by omega)]
     refine wpS_bind (bey _ (by omega) ?_)
     dsimp only
     cases e:bB (lo+(hi - lo) / 2) with
     | true=>rw [e,if_pos rfl] at hR; rw [if_pos rfl]; exact wpS_pure hR
     | false=>rw [e,if_neg Bool.false_ne_true] at hR; rw [if_neg Bool.false_ne_true]; exact wpS_pure hR
   · intro x lo hi hlt R hR
     dsimp only
     rw [if_pos (by omega)]
     exact wpS_pure hR
   · intro lo hi
     rfl
 | false =>
  rw [if_neg Bool.false_ne_true]
  refine wpS_bind (wpS_mono (wpS_forRange (I:=fun x c st''=>st''=st∧∃ l o,c=(none,l,o)∧l < o∧x+1≤o∧l≤hint∧bB (hint - l)=false)
   (Q:=fun c st''=>st''=st∧∃ l o,c=(none,l,o)∧l < o∧l≤hint∧bB (hint - l)=false∧(hint+1≤o∨bB (hint - o)=true)) ?step ?fin ⟨rfl,0,1,rfl,by omega,by omega,by omega,eh⟩) ?post)
  case fin =>
   rintro c st'' ⟨rfl,l,o,rfl,h1,h2,h3,h4⟩
   exact ⟨rfl,l,o,rfl,h1,h3,h4,.inl (by omega)⟩
  case step =>
   rintro x c st'' _ hx ⟨rfl,l,o,rfl,h1,h2,h3,h4⟩
   dsimp only
   by_cases hge:o ≥ hint+1
   · rw [if_pos hge]
     exact wpS_pure ⟨rfl,l,o,rfl,h1,h3,h4,.inl hge⟩
   · rw [if_neg hge]
     refine wpS_bind (bey (hint - o) (by omega) ?_)
     dsimp only
     cases e:bB (hint - o) with
     | true =>
      rw [if_pos rfl]
      exact wpS_pure ⟨rfl,l,o,rfl,h1,h3,h4,.inr e⟩
     | false =>
      rw [if_neg Bool.false_ne_true]
      exact wpS_pure ⟨rfl,o,2 * o+1,rfl,by omega,by omega,by omega,e⟩
  case post =>
   rintro c st'' ⟨rfl,l,o,rfl,h1,h2,h3,h4⟩
   dsimp only
   refine fin (hint+1 - min o (hint+1)) (hint - l) (below_min h1) (Nat.le_trans (Nat.sub_le _ _) (Nat.le_of_lt hh)) (fun i hi=>?_) (fun i a b=>monoF (hint - l) i a b h3) ?_ ?_ ?_
   · rcases h4 with h4 | h4
     · omega
     · exact mono i (hint - o) (by omega) (by omega) h4
   · intro x lo hi hlt hle R hR
     dsimp only
     rw [if_neg (by omega)]
     refine wpS_bind (bey _ (by omega) ?_)
     dsimp only
     cases e:bB (lo+(hi - lo) / 2) with
     | true=>rw [e,if_pos rfl] at hR; rw [if_pos rfl]; exact wpS_pure hR
     | false=>rw [e,if_neg Bool.false_ne_true] at hR; rw [if_neg Bool.false_ne_true]; exact wpS_pure hR
   · intro x lo hi hlt R hR
     dsimp only
     rw [if_pos (by omega)]
     exact wpS_pure hR
   · intro lo hi
     rfl
end
abbrev KL (κ:KD) (p q:Keyed):Prop:=κ.kle (KV κ p) (KV κ q)
abbrev Srt (κ:KD) (l:List Keyed):Prop:=l.Pairwise (KL κ)
def Merged (κ:KD) (a b r:Array Keyed):Prop:=Srt κ r.toList∧r.toList.Perm (a.toList ++ b.toList)
structure Lo (κ:KD) (a b out:Array Keyed) (ia ib:Nat):Prop where
 perm:(out.toList ++ (a.toList.drop ia ++ b.toList.drop ib)).Perm (a.toList ++ b.toList)
 srt:Srt κ out.toList
 la:∀ p∈out.toList,∀ q∈a.toList.drop ia,KL κ p q
 lb:∀ p∈out.toList,∀ q∈b.toList.drop ib,KL κ p q
theorem Lo.size {κ:KD} {a b out:Array Keyed} {ia ib:Nat} (h:Lo κ a b out ia ib):out.size+(a.size - ia)+(b.size - ib)=a.size+b.size:=by
 have:=h.perm.length_eq
 simp only [List.length_append,List.length_drop,Array.length_toList] at this
 omega
theorem ext_list (a:Array Keyed) (i k:Nat):(a.extract i (i+k)).toList=(a.toList.drop i).take k:=by
 rw [Array.toList_extract,List.extract_eq_drop_take,Nat.add_sub_cancel_left]
theorem ext_rest (a:Array Keyed) (i:Nat):(a.extract i a.size).toList=a.toList.drop i:=by
 rw [Array.toList_extract,List.extract_eq_drop_take,List.take_of_length_le]
 rw [List.length_drop,Array.length_toList]
 exact Nat.le_refl _
theorem ext_one {a:Array Keyed} {i:Nat} {p:Keyed} (e:a[i]? = some p) (out:Array Keyed):out.push p=out ++ a.extract i (i+1):=by
 have e1:(a.extract i (i+1)).toList=[p]:=by
  rw [ext_list]
  have e':a.toList[i]? = some p:=by simpa using e
  obtain ⟨hi,e2⟩:=List.getElem?_eq_some_iff.mp e'
  rw [List.drop_eq_getElem_cons hi,e2]
  rfl
 have e2:a.extract i (i+1)=#[p]:=by
  have:(a.extract i (i+1)).toList=(#[p]:Array Keyed).toList:=e1
  exact Array.toList_inj.mp this
 rw [e2]
 exact Array.append_singleton.symm
theorem Lo.pushA {κ:KD} {a b out:Array Keyed} {ia ib k:Nat} (h:Lo κ a b out ia ib) (sa:Srt κ a.toList) (hq:∀ p∈(a.toList.drop ia).take k,∀ q∈b.toList.drop ib,KL κ p q):Lo κ a b (out ++ a.extract ia (ia+k)) (ia+k) ib:=by
 have et:(out ++ a.extract ia (ia+k)).toList=out.toList ++ (a.toList.drop ia).take k:=by rw [Array.toList_append,ext_list]
 have sp:a.toList.drop ia=(a.toList.drop ia).take k ++ a.toList.drop (ia+k):=by
  rw [←List.drop_drop,List.take_append_drop]
 have sd:Srt κ (a.toList.drop ia):=List.Pairwise.sublist (List.drop_sublist _ _) sa
 refine ⟨?_,?_,?_,?_⟩
 · rw [et,List.append_assoc,←List.append_assoc ((a.toList.drop ia).take k),←sp]
   exact h.perm
 · rw [et]
   refine List.pairwise_append.mpr ⟨h.srt,List.Pairwise.sublist (List.take_sublist _ _) sd,fun p hp q hq'=>h.la p hp q (List.mem_of_mem_take hq')⟩
 · rw [et]
   intro p hp q hq'
   rcases List.mem_append.mp hp with z | z
   · refine h.la p z q ?_
     rw [sp]
     exact List.mem_append_right _ hq'
   · rw [sp] at sd
     exact (List.pairwise_append.mp sd).2.2 p z q hq'
 · rw [et]
   intro p hp q hq'
   rcases List.mem_append.mp hp with z | z
   · exact h.lb p z q hq'
   · exact hq p z q hq'
theorem Lo.swap {κ:KD} {a b out:Array Keyed} {ia ib:Nat} (h:Lo κ a b out ia ib):Lo κ b a out ib ia :=
 ⟨((List.perm_append_comm.append_left _).trans h.perm).trans List.perm_append_comm,h.srt,h.lb,h.la⟩
theorem Lo.pushB {κ:KD} {a b out:Array Keyed} {ia ib k:Nat} (h:Lo κ a b out ia ib) (sb:Srt κ b.toList) (hq:∀ p∈(b.toList.drop ib).take k,∀ q∈a.toList.drop ia,KL κ p q):Lo κ a b (out ++ b.extract ib (ib+k)) ia (ib+k):=(h.swap.pushA sb hq).swap
theorem drop_all {a:Array Keyed} {i:Nat} (h:a.size≤i):a.toList.drop i=[]:=List.drop_eq_nil_of_le (by rw [Array.length_toList]; exact h)
theorem Lo.doneB {κ:KD} {a b out:Array Keyed} {ia ib:Nat} (h:Lo κ a b out ia ib) (sa:Srt κ a.toList) (hb:b.size≤ib):Merged κ a b (out ++ a.extract ia ++ b.extract ib):=by
 have e:(out ++ a.extract ia ++ b.extract ib).toList=out.toList ++ a.toList.drop ia:=by
  rw [Array.toList_append,Array.toList_append,ext_rest,ext_rest,drop_all hb,List.append_nil]
 have hp:=h.perm
 rw [drop_all hb,List.append_nil] at hp
 unfold Merged
 rw [e]
 exact ⟨List.pairwise_append.mpr ⟨h.srt,List.Pairwise.sublist (List.drop_sublist _ _) sa,h.la⟩,hp⟩
theorem Lo.doneA {κ:KD} {a b out:Array Keyed} {ia ib:Nat} (h:Lo κ a b out ia ib) (sb:Srt κ b.toList) (ha:a.size≤ia):Merged κ a b (out ++ a.extract ia ++ b.extract ib):=by
 have e:(out ++ a.extract ia ++ b.extract ib).toList=out.toList ++ b.toList.drop ib:=by
  rw [Array.toList_append,Array.toList_append,ext_rest,ext_rest,drop_all ha,List.append_nil]
 have hp:=h.perm
 rw [drop_all ha,List.nil_append] at hp
 unfold Merged
 rw [e]
 exact ⟨List.pairwise_append.mpr ⟨h.srt,List.Pairwise.sublist (List.drop_sublist _ _) sb,h.lb⟩,hp⟩
theorem Lo.lastA {κ:KD} {a b out:Array Keyed} {ia ib:Nat} (h:Lo κ a b out ia ib) (sb:Srt κ b.toList) (hl:∀ q∈b.toList,∀ p∈a.toList.drop ia,KL κ q p) (h1:ia+1=a.size):Merged κ a b (out ++ b.extract ib ++ a.extract ia):=by
 have e:(out ++ b.extract ib ++ a.extract ia).toList=out.toList ++ (b.toList.drop ib ++ a.toList.drop ia):=by
  rw [Array.toList_append,Array.toList_append,ext_rest,ext_rest,List.append_assoc]
 have hl1:(a.toList.drop ia).length=1:=by rw [List.length_drop,Array.length_toList]; omega
 obtain ⟨x,hx⟩:=List.length_eq_one_iff.mp hl1
 unfold Merged
 rw [e]
 refine ⟨List.pairwise_append.mpr ⟨h.srt,List.pairwise_append.mpr ⟨List.Pairwise.sublist (List.drop_sublist _ _) sb,?_,fun q hq p hp=>hl q (List.mem_of_mem_drop hq) p hp⟩,fun p hp q hq=>?_⟩,(List.perm_append_comm.append_left _).trans h.perm⟩
 · rw [hx]; exact List.pairwise_singleton _ _
 · rcases List.mem_append.mp hq with z | z
   · exact h.lb p hp q z
   · exact h.la p hp q z
theorem mem_at {a:Array Keyed} {i:Nat} (h:i < a.size):∃ p,a[i]? = some p∧p∈a.toList.drop i∧p∈a.toList∧(a.toList.drop i).take 1=[p]:=by
 refine ⟨a[i],getElem?_pos a i h,?_,by simp,?_⟩
 · have hi:i < a.toList.length:=by simpa using h
   rw [List.drop_eq_getElem_cons hi]
   exact List.mem_cons.mpr (.inl (by simp))
 · have hi:i < a.toList.length:=by simpa using h
   rw [List.drop_eq_getElem_cons hi]
   simp
theorem head_le {κ:KD} {a:Array Keyed} (sa:Srt κ a.toList) {i:Nat} {p:Keyed} (e:a[i]? = some p):∀ q∈a.toList.drop i,KL κ p q:=by
 have e':a.toList[i]? = some p:=by simpa using e
 obtain ⟨hi,e2⟩:=List.getElem?_eq_some_iff.mp e'
 have sd:Srt κ (a.toList.drop i):=List.Pairwise.sublist (List.drop_sublist _ _) sa
 rw [List.drop_eq_getElem_cons hi,e2] at sd ⊢
 intro q hq
 rcases List.mem_cons.mp hq with z | z
 · rw [z]; exact KeyOrd.kle_refl _
 · exact (List.pairwise_cons.mp sd).1 q z
theorem KK_at {κ:KD} {a:Array Keyed} {i:Nat} {p:Keyed} (e:a[i]? = some p):KK κ a i=KV κ p:=by unfold KK KV; rw [e]
theorem Srt.at {κ:KD} {a:Array Keyed} (sa:Srt κ a.toList) {i j:Nat} (hij:i≤j) (hj:j < a.size):κ.kle (KK κ a i) (KK κ a j):=by
 obtain ⟨p,e,_⟩:=mem_at (a:=a) (i:=i) (by omega)
 obtain ⟨q,e2,m,_⟩:=mem_at (a:=a) (i:=j) hj
 rw [KK_at e,KK_at e2]
 refine head_le sa e q ?_
 have:a.toList.drop j=(a.toList.drop i).drop (j - i):=by rw [List.drop_drop]; congr 1; omega
 rw [this] at m
 exact List.mem_of_mem_drop m
theorem take_at {a:Array Keyed} {i k:Nat} {p:Keyed} (h:p∈(a.toList.drop i).take k):∃ j,j < k∧a[i+j]? = some p:=by
 obtain ⟨j,hj,e⟩:=List.getElem_of_mem h
 have hj':j < k:=by rw [List.length_take] at hj; omega
 refine ⟨j,hj',?_⟩
 have e2:((a.toList.drop i).take k)[j]? = some p:=by rw [List.getElem?_eq_getElem hj,e]
 rw [List.getElem?_take_of_lt hj',List.getElem?_drop] at e2
 simpa using e2
section
variable {prog:Program} {w:World} {A:Around} {E:Value→Shared→Prop} {s:Shared} {κ:KD} {kd:SortKind}
abbrev stG (st:SortSt) (g:Nat):SortSt:=SortSt.mk' (kindOf st) (arrOf st) (pendingOf st) g (failedOf st)
theorem stG_self (st:SortSt):stG st (gallopOf st)=st:=rfl
theorem wpS_rule {st:SortSt} {x:String} {Q:Unit→SortSt→Prop} (h:Q () st):wpS (model prog w) A E s (liftM (rule x):StateT SortSt Sem Unit) Q st:=wpS_lift (wpAny_rule ⟨rfl,h⟩)
theorem wpS_gallopR (hL:LtOk prog w A E s κ kd) {st:SortSt} {key:Keyed} {arr:Array Keyed} {base n hint:Nat} {Q:Option Nat→SortSt→Prop} (hk:kindOf st=kd) (hy:∃ a,κ.keyOf key.1=some a)
  (hj:∀ i,i < n→∃ p,arr[base+i]? = some p∧∃ a,κ.keyOf p.1=some a) (hh:hint < n) (hs:∀ i j,i≤j→j < n→κ.kle (KK κ arr (base+i)) (KK κ arr (base+j)))
  (h:∀ k,k≤n→(∀ i,i < k→κ.kle (KK κ arr (base+i)) (KV κ key))→(∀ i,k≤i→i < n→κ.klt (KV κ key) (KK κ arr (base+i)))→Q (some k) st) :
  wpS (model prog w) A E s (gallop' false key arr base n hint) Q st:=by
 refine wpS_gallop hL hk hy hj hh (fun i=>!(κ.blt (KV κ key) (KK κ arr (base+i)))) (fun i _=>if_neg Bool.false_ne_true) (fun i j hij hjn e=>?_) fun k h1 h2 h3=>h k h1 (fun i hi=>?_) fun i a b=>?_
 · have e':κ.kle (KK κ arr (base+j)) (KV κ key):=by simpa [KeyOrd.kle] using e
   have:=KeyOrd.kle_trans (hs i j hij hjn) e'
   simpa [KeyOrd.kle] using this
 · have:=h2 i hi
   simpa [KeyOrd.kle] using this
 · have:=h3 i a b
   simpa [KeyOrd.klt] using this
theorem wpS_gallopL (hL:LtOk prog w A E s κ kd) {st:SortSt} {key:Keyed} {arr:Array Keyed} {base n hint:Nat} {Q:Option Nat→SortSt→Prop} (hk:kindOf st=kd) (hy:∃ a,κ.keyOf key.1=some a)
  (hj:∀ i,i < n→∃ p,arr[base+i]? = some p∧∃ a,κ.keyOf p.1=some a) (hh:hint < n) (hs:∀ i j,i≤j→j < n→κ.kle (KK κ arr (base+i)) (KK κ arr (base+j)))
  (h:∀ k,k≤n→(∀ i,i < k→κ.klt (KK κ arr (base+i)) (KV κ key))→(∀ i,k≤i→i < n→κ.kle (KV κ key) (KK κ arr (base+i)))→Q (some k) st) :
  wpS (model prog w) A E s (gallop' true key arr base n hint) Q st:=by
 refine wpS_gallop hL hk hy hj hh (fun i=>κ.blt (KK κ arr (base+i)) (KV κ key)) (fun i _=>if_pos rfl) (fun i j hij hjn e=>?_) fun k h1 h2 h3=>h k h1 (fun i hi=>h2 i hi) fun i a b=>h3 i a b
 exact KeyOrd.klt_of_kle_of_klt (hs i j hij hjn) e
end
section
variable {prog:Program} {w:World} {A:Around} {E:Value→Shared→Prop} {s:Shared} {κ:KD} {kd:SortKind}
theorem wpS_ite {α:Type} {c:Prop} [Decidable c] {m1 m2:StateT SortSt Sem α} {Q:α→SortSt→Prop} {st:SortSt} (h1:c→wpS (model prog w) A E s m1 Q st) (h2:¬ c→wpS (model prog w) A E s m2 Q st):wpS (model prog w) A E s (if c then m1 else m2) Q st:=by
 by_cases h:c
 · rw [if_pos h]; exact h1 h
 · rw [if_neg h]; exact h2 h
abbrev LoC:=Option (Array Keyed)×Array Keyed×Nat×Nat×Nat×Nat×Nat
abbrev LoI (κ:KD) (a b:Array Keyed) (st:SortSt) (x0:Nat) (c:LoC) (st':SortSt):Prop:=(∃ g,st'=stG st g)∧∃ out ia ib mg ac bc,c=(none,out,ia,ib,mg,ac,bc)∧Lo κ a b out ia ib∧ia+1 < a.size∧ib < b.size∧x0+2≤out.size
abbrev LoQ (κ:KD) (a b:Array Keyed) (st:SortSt) (x0:Nat) (c:LoC) (st':SortSt):Prop:=(∃ g,st'=stG st g)∧((∃ r,c.1=some r∧Merged κ a b r)∨∃ out ia ib mg ac bc,c=(none,out,ia,ib,mg,ac,bc)∧Lo κ a b out ia ib∧ia+1 < a.size∧ib < b.size∧x0+2≤out.size)
theorem wpS_fork {α β:Type} {c:Prop} [Decidable c] {m1 m2:StateT SortSt Sem α} {Q:α→SortSt→Prop} {st:SortSt} {R:β→Prop} (h1:(∀ v,R v)→c→wpS (model prog w) A E s m1 Q st) (h2:(∀ v,R v)→¬ c→wpS (model prog w) A E s m2 Q st) (h:∀ v,R v):wpS (model prog w) A E s (if c then m1 else m2) Q st:=wpS_ite (h1 h) (h2 h)
theorem wpS_fork2 {α β γ:Type} {c:Prop} [Decidable c] {m1 m2:StateT SortSt Sem α} {Q:α→SortSt→Prop} {st:SortSt} {R:β→γ→Prop} (P:β→γ→Prop) (h1:(∀ u v,P u v→R u v)→c→wpS (model prog w) A E s m1 Q st) (h2:(∀ u v,P u v→R u v)→¬ c→wpS (model prog w) A E s m2 Q st) (h:∀ u v,P u v→R u v):wpS (model prog w) A E s (if c then m1 else m2) Q st:=wpS_ite (h1 h) (h2 h)
theorem wpS_brule {α:Type} {x:String} {f:Unit→StateT SortSt Sem α} {Q:α→SortSt→Prop} {st:SortSt} (h:wpS (model prog w) A E s (f ()) Q st):wpS (model prog w) A E s ((liftM (rule x):StateT SortSt Sem Unit) >>= f) Q st:=wpS_bind (wpS_rule h)
theorem wpS_belem {α:Type} {arr:Array Keyed} {i:Nat} {p:Keyed} {f:Keyed→StateT SortSt Sem α} {Q:α→SortSt→Prop} {st:SortSt} (e:arr[i]? = some p) (h:wpS (model prog w) A E s (f p) Q st):wpS (model prog w) A E s (elem' arr i >>= f) Q st:=wpS_bind (wpS_elem e h)
theorem wpS_bget {α:Type} {f:SortSt→StateT SortSt Sem α} {Q:α→SortSt→Prop} {st:SortSt} (h:wpS (model prog w) A E s (f st) Q st):wpS (model prog w) A E s ((get:StateT SortSt Sem SortSt) >>= f) Q st:=wpS_bind (wpS_get h)
theorem wpS_bmodify {α:Type} {g:SortSt→SortSt} {f:PUnit→StateT SortSt Sem α} {Q:α→SortSt→Prop} {st:SortSt} (h:wpS (model prog w) A E s (f ⟨⟩) Q (g st)):wpS (model prog w) A E s ((modify g:StateT SortSt Sem PUnit) >>= f) Q st:=wpS_bind (wpS_modify h)
theorem wpS_blt (hL:LtOk prog w A E s κ kd) {α:Type} {st:SortSt} {x y:Keyed} {f:Option Bool→StateT SortSt Sem α} {Q:α→SortSt→Prop} (hk:kindOf st=kd) (hx:∃ a,κ.keyOf x.1=some a) (hy:∃ a,κ.keyOf y.1=some a)
  (h:wpS (model prog w) A E s (f (some (κ.blt (KV κ x) (KV κ y)))) Q st):wpS (model prog w) A E s (lt' x y >>= f) Q st:=wpS_bind (wpS_lt2 hL hk hx hy h)
theorem wpS_bfor {α β:Type} {a b:Nat} {g:Nat→β→StateT SortSt Sem (ForInStep β)} {f:β→StateT SortSt Sem α} {Q:α→SortSt→Prop} (I:Nat→β→SortSt→Prop) (Q':β→SortSt→Prop)
  (step:∀ i c st,a≤i→i < b→I i c st→wpS (model prog w) A E s (g i c) (fun r st'=>match r with | .done c'=>Q' c' st' | .yield c'=>I (i+1) c' st') st)
  (fin:∀ c st,I (max a b) c st→Q' c st) {c:β} {st:SortSt} (h:I a c st) (post:∀ c st',Q' c st'→wpS (model prog w) A E s (f c) Q st'):wpS (model prog w) A E s (forIn [a:b] c g >>= f) Q st :=
 wpS_bind (wpS_mono (wpS_forRange I step fin h) post)
theorem wpS_bgalR (hL:LtOk prog w A E s κ kd) {α:Type} {st:SortSt} {key:Keyed} {arr:Array Keyed} {base n hint:Nat} {f:Option Nat→StateT SortSt Sem α} {Q:α→SortSt→Prop} (hk:kindOf st=kd) (hy:∃ a,κ.keyOf key.1=some a)
  (hj:∀ i,i < n→∃ p,arr[base+i]? = some p∧∃ a,κ.keyOf p.1=some a) (hh:hint < n) (hs:∀ i j,i≤j→j < n→κ.kle (KK κ arr (base+i)) (KK κ arr (base+j)))
  (h:∀ k,k≤n→(∀ i,i < k→κ.kle (KK κ arr (base+i)) (KV κ key))→(∀ i,k≤i→i < n→κ.klt (KV κ key) (KK κ arr (base+i)))→wpS (model prog w) A E s (f (some k)) Q st) :
  wpS (model prog w) A E s (gallop' false key arr base n hint >>= f) Q st:=wpS_bind (wpS_gallopR hL hk hy hj hh hs h)
theorem wpS_bgalL (hL:LtOk prog w A E s κ kd) {α:Type} {st:SortSt} {key:Keyed} {arr:Array Keyed} {base n hint:Nat} {f:Option Nat→StateT SortSt Sem α} {Q:α→SortSt→Prop} (hk:kindOf st=kd) (hy:∃ a,κ.keyOf key.1=some a)
  (hj:∀ i,i < n→∃ p,arr[base+i]? = some p∧∃ a,κ.keyOf p.1=some a) (hh:hint < n) (hs:∀ i j,i≤j→j < n→κ.kle (KK κ arr (base+i)) (KK κ arr (base+j)))
  (h:∀ k,k≤n→(∀ i,i < k→κ.klt (KK κ arr (base+i)) (KV κ key))→(∀ i,k≤i→i < n→κ.kle (KV κ key) (KK κ arr (base+i)))→wpS (model prog w) A E s (f (some k)) Q st) :
  wpS (model prog w) A E s (gallop' true key arr base n hint >>= f) Q st:=wpS_bind (wpS_gallopL hL hk hy hj hh hs h)
theorem elimS {S:Type} {s s0:S} {R:Prop} {G:S→Prop} (h:s=s0∧R) (k:R→G s0):G s:=h.1 ▸ k h.2
theorem elimG {S:Type} {s:S} {f:Nat→S} {R:Prop} {G:S→Prop} (h:(∃ g,s=f g)∧R) (k:∀ g,R→G (f g)):G s:=by
 obtain ⟨⟨g,rfl⟩,r⟩:=h
 exact k g r
theorem elimR {α β:Type} {c:Option α×β} {M:α→Prop} {G:Option α×β→Prop} (h:∃ r,c.1=some r∧M r) (k:∀ r c2,M r→G (some r,c2)):G c:=by
 obtain ⟨c1,c2⟩:=c
 obtain ⟨r,e,hr⟩:=h
 cases e
 exact k r c2 hr
theorem elim4 {C A1 A2 A3 A4:Type} {F:A1→A2→A3→A4→C} {P:A1→A2→A3→A4→Prop} {c:C} {G:C→Prop} (h:∃ a b d e,c=F a b d e∧P a b d e) (k:∀ a b d e,P a b d e→G (F a b d e)):G c:=by
 obtain ⟨a,b,d,e,rfl,p⟩:=h
 exact k a b d e p
theorem elim5 {C A1 A2 A3 A4 A5:Type} {F:A1→A2→A3→A4→A5→C} {P:A1→A2→A3→A4→A5→Prop} {c:C} {G:C→Prop} (h:∃ a b d e f,c=F a b d e f∧P a b d e f) (k:∀ a b d e f,P a b d e f→G (F a b d e f)):G c:=by
 obtain ⟨a,b,d,e,f,rfl,p⟩:=h
 exact k a b d e f p
theorem elim6 {C A1 A2 A3 A4 A5 A6:Type} {F:A1→A2→A3→A4→A5→A6→C} {P:A1→A2→A3→A4→A5→A6→Prop} {c:C} {G:C→Prop} (h:∃ a b d e f g,c=F a b d e f g∧P a b d e f g) (k:∀ a b d e f g,P a b d e f g→G (F a b d e f g)):G c:=by
 obtain ⟨a,b,d,e,f,g,rfl,p⟩:=h
 exact k a b d e f g p
theorem mem_atK {a:Array Keyed} {i:Nat} (h:i < a.size) {G:Prop} (k:∀ p,a[i]? = some p→p∈a.toList.drop i→p∈a.toList→(a.toList.drop i).take 1=[p]→G):G:=by
 obtain ⟨p,h1,h2,h3,h4⟩:=mem_at h
 exact k p h1 h2 h3 h4
theorem wpS_mergeLo (hL:LtOk prog w A E s κ kd) {st:SortSt} {a b:Array Keyed} {Q:Array Keyed→SortSt→Prop} (hk:kindOf st=kd) (ka:∀ p∈a.toList,∃ x,κ.keyOf p.1=some x) (kb:∀ p∈b.toList,∃ x,κ.keyOf p.1=some x)
  (sa:Srt κ a.toList) (sb:Srt κ b.toList) (ha:1≤a.size) (hb:1≤b.size) (first:∀ q,b[0]? = some q→∀ p∈a.toList,KL κ q p) (last:∀ q∈b.toList,∀ p∈a.toList.drop (a.size - 1),KL κ q p)
  (h:∀ r g,Merged κ a b r→Q r (stG st g)):wpS (model prog w) A E s (mergeLo' a b) Q st:=by
 have lastD:∀ {ia},ia+1=a.size→∀ q∈b.toList,∀ p∈a.toList.drop ia,KL κ q p:=fun {ia} e=>by
  have:ia=a.size - 1:=by omega
  rw [this]; exact last
 refine wpS_brule ?_
 refine mem_atK (a:=b) (i:=0) hb fun b0 e0 _ m0 t0=>?_
 refine wpS_belem e0 ?_
 have L0:Lo κ a b #[b0] 0 1:=by
  have z:Lo κ a b #[] 0 0:=⟨by simp,by simp,by simp,by simp⟩
  have:=z.pushB (k:=1) sb (by rw [t0]; intro p hp q hq; rw [List.mem_singleton.mp hp]; exact first b0 e0 q (by simpa using hq))
  rw [←ext_one e0] at this
  exact this
 refine wpS_ite (fun c=>?_) (fun c1=>?_)
 · refine wpS_pure ?_
   rw [←stG_self st]
   have c':1=b.size:=by simpa using c
   exact h _ _ (L0.doneB sa (by omega))
 refine wpS_ite (fun c=>?_) (fun c2=>?_)
 · refine wpS_pure ?_
   rw [←stG_self st]
   have c':1=a.size:=by simpa using c
   exact h _ _ (L0.lastA sb (lastD (by omega)) (by omega))
 have i1:0+1 < a.size:=by
  have:¬ 1=a.size:=by simpa using c2
  omega
 have i2:1 < b.size:=by
  have:¬ 1=b.size:=by simpa using c1
  omega
 refine wpS_bget ?_
 refine wpS_bfor (I:=fun x c st'=>(∃ g,st'=stG st g)∧∃ out ia ib mg,c=(none,out,ia,ib,mg)∧Lo κ a b out ia ib∧ia+1 < a.size∧ib < b.size∧x+1≤out.size)
  (Q':=fun c st'=>(∃ g,st'=stG st g)∧∃ r,c.1=some r∧Merged κ a b r) ?step ?fin ⟨⟨gallopOf st,rfl⟩,_,_,_,_,rfl,L0,i1,i2,Nat.le_refl 1⟩ ?post
 case post =>
  rintro ⟨c1,c2⟩ st' ⟨⟨g,rfl⟩,r,e,hr⟩
  have e':c1=some r:=e
  subst e'
  exact wpS_pure (h r g hr)
 case fin =>
  rintro c st' ⟨_,out,ia,ib,mg,rfl,L,j1,j2,j3⟩
  have:=L.size
  have e:max 0 (a.size+b.size)=a.size+b.size:=Nat.max_eq_right (Nat.zero_le _)
  omega
 case step =>
  intro x0 c st' _ hx0 hI
  apply elimG hI
  clear hI
  intro g hI
  apply elim4 hI
  clear hI
  intro out ia ib mg hP
  have L:=hP.1
  have j1:=hP.2.1
  have j2:=hP.2.2.1
  have j3:=hP.2.2.2
  clear hP
  dsimp only
  refine wpS_bfor (I:=fun x c st'=>st'=stG st g∧∃ out ia ib ac bc,c=(none,out,ia,ib,ac,bc)∧Lo κ a b out ia ib∧ia+1 < a.size∧ib < b.size∧x0+1+x≤out.size)
   (Q':=fun c st'=>st'=stG st g∧((∃ r,c.1=some r∧Merged κ a b r)∨∃ out ia ib ac bc,c=(none,out,ia,ib,ac,bc)∧Lo κ a b out ia ib∧ia+1 < a.size∧ib < b.size∧x0+2≤out.size)) ?step1 ?fin1 ⟨rfl,out,ia,ib,_,_,rfl,L,j1,j2,by omega⟩ ?post1
  case fin1 =>
   rintro c st' ⟨rfl,out,ia,ib,ac,bc,rfl,L,k1,k2,k3⟩
   have e:max 0 (a.size+b.size)=a.size+b.size:=Nat.max_eq_right (Nat.zero_le _)
   exact ⟨rfl,.inr ⟨out,ia,ib,ac,bc,rfl,L,k1,k2,by omega⟩⟩
  case step1 =>
   intro x c st' _ hx hI
   apply elimS hI
   clear hI
   intro hI
   apply elim5 hI
   clear hI
   intro out ia ib ac bc hP
   have L:=hP.1
   have k1:=hP.2.1
   have k2:=hP.2.2.1
   have k3:=hP.2.2.2
   clear hP
   dsimp only
   refine mem_atK (a:=b) (i:=ib) k2 fun q eq mq mq' tq=>?_
   obtain ⟨p,ep,mp,mp',tp⟩:=mem_at (a:=a) (i:=ia) (by omega)
   refine wpS_belem eq (wpS_belem ep (wpS_blt hL hk (kb q mq') (ka p mp') ?_))
   refine wpS_ite (fun ew=>?_) (fun ew=>?_)
   · skip
     refine wpS_belem eq ?_
     have L':Lo κ a b (out.push q) ia (ib+1):=by
      rw [ext_one eq]
      refine L.pushB sb fun p' hp' q' hq'=>?_
      rw [tq] at hp'
      rw [List.mem_singleton.mp hp']
      exact KeyOrd.kle_trans (KeyOrd.kle_of_klt ew) (head_le sa ep q' hq')
     have sz:(out.push q).size=out.size+1:=Array.size_push _
     refine wpS_ite (fun c=>?_) (fun c=>?_)
     · exact wpS_pure ⟨rfl,.inl ⟨_,rfl,L'.doneB sa (by have:ib+1=b.size:=by simpa using c
                                                       omega)⟩⟩
     · have c':¬ ib+1=b.size:=by simpa using c
       refine wpS_ite (fun _=>?_) (fun _=>?_)
       · exact wpS_pure ⟨rfl,.inr ⟨_,_,_,_,_,rfl,L',k1,by omega,by omega⟩⟩
       · exact wpS_pure ⟨rfl,_,_,_,_,_,rfl,L',k1,by omega,by omega⟩
   · have ew:=Bool.eq_false_iff.mpr ew
     refine wpS_belem ep ?_
     have L':Lo κ a b (out.push p) (ia+1) ib:=by
      rw [ext_one ep]
      refine L.pushA sa fun p' hp' q' hq'=>?_
      rw [tp] at hp'
      rw [List.mem_singleton.mp hp']
      exact KeyOrd.kle_trans ew (head_le sb eq q' hq')
     have sz:(out.push p).size=out.size+1:=Array.size_push _
     refine wpS_ite (fun c=>?_) (fun c=>?_)
     · exact wpS_pure ⟨rfl,.inl ⟨_,rfl,L'.lastA sb (lastD (by simpa using c)) (by simpa using c)⟩⟩
     · have c':¬ ia+1+1=a.size:=by simpa using c
       refine wpS_ite (fun _=>?_) (fun _=>?_)
       · exact wpS_pure ⟨rfl,.inr ⟨_,_,_,_,_,rfl,L',by omega,k2,by omega⟩⟩
       · exact wpS_pure ⟨rfl,_,_,_,_,_,rfl,L',by omega,k2,by omega⟩
  case post1 =>
   intro c st' h1
   apply elimS h1
   clear h1
   intro h1
   refine h1.elim ?_ ?_ <;> clear h1
   · intro h1
     apply elimR h1
     clear h1
     intro r c2 hr
     exact wpS_pure ⟨⟨g,rfl⟩,r,rfl,hr⟩
   intro h1
   apply elim5 h1
   clear h1
   intro out ia ib ac bc hP
   have L:=hP.1
   have k1:=hP.2.1
   have k2:=hP.2.2.1
   have k3:=hP.2.2.2
   clear hP
   refine wpS_brule ?_
   refine wpS_bfor (I:=fun x c st'=>LoI κ a b st x0 c st') (Q':=LoQ κ a b st x0) ?step2 ?fin2 ⟨⟨g,rfl⟩,out,ia,ib,_,_,_,rfl,L,k1,k2,k3⟩ ?post2
   case fin2 =>
    rintro c st' ⟨hg,out,ia,ib,mg,ac,bc,rfl,L,k1,k2,k3⟩
    exact ⟨hg,.inr ⟨out,ia,ib,mg,ac,bc,rfl,L,k1,k2,k3⟩⟩
   case post2 =>
    intro c st' h1
    apply elimG h1
    clear h1
    intro g2 h1
    refine h1.elim ?_ ?_ <;> clear h1
    · intro h1
      apply elimR h1
      clear h1
      intro r c2 hr
      exact wpS_pure ⟨⟨g2,rfl⟩,r,rfl,hr⟩
    · intro h1
      apply elim6 h1
      clear h1
      intro out ia ib mg ac bc hP
      have L:=hP.1
      have k1:=hP.2.1
      have k2:=hP.2.2.1
      have k3:=hP.2.2.2
      clear hP
      refine wpS_bmodify (wpS_pure ?_)
      exact ⟨⟨_,rfl⟩,out,ia,ib,_,rfl,L,k1,k2,by omega⟩
   case step2 =>
    intro x c st' _ hx hI
    apply elimG hI
    clear hI
    intro g2 hI
    apply elim6 hI
    clear hI
    intro out ia ib mg ac bc hP
    have L:=hP.1
    have k1:=hP.2.1
    have k2:=hP.2.2.1
    have k3:=hP.2.2.2
    clear hP
    dsimp only
    refine mem_atK (a:=b) (i:=ib) k2 fun q eq mq mq' tq=>?_
    apply wpS_fork (β:=Nat)
    case h1 =>
     intro rest _
     generalize mg - 1=v
     exact rest v
    case h2 =>
     intro rest _
     exact rest mg
    intro mg
    refine wpS_bmodify ?_
    refine wpS_belem eq ?_
    refine wpS_bgalR hL hk (kb q mq') (fun i hi=>?_) (by omega) (fun i j hij hj=>sa.at (by omega) (by omega)) (fun k hk1 hle hgt=>?_)
    · obtain ⟨p,ep,_,mp,_⟩:=mem_at (a:=a) (i:=ia+i) (by omega)
      exact ⟨p,ep,ka p mp⟩
    have LA:Lo κ a b (out ++ a.extract ia (ia+k)) (ia+k) ib:=L.pushA sa fun p' hp' q' hq'=>by
     obtain ⟨j,hj,ej⟩:=take_at hp'
     have z:=hle j hj
     rw [KK_at ej] at z
     exact KeyOrd.kle_trans z (head_le sb eq q' hq')
    have sza:(out ++ a.extract ia (ia+k)).size=out.size+k:=by
     rw [Array.size_append,Array.size_extract,ext_len (Nat.le_of_lt (Nat.lt_of_succ_lt k1)) hk1]
    have gta:∀ p'∈a.toList.drop (ia+k),KL κ q p':=fun p' hp'=>by
     obtain ⟨j,hj,ej⟩:=List.getElem_of_mem hp'
     rw [List.length_drop,Array.length_toList] at hj
     have e2:(a.toList.drop (ia+k))[j]? = some p':=by rw [List.getElem?_eq_getElem (by rw [List.length_drop,Array.length_toList]; exact hj),ej]
     rw [List.getElem?_drop] at e2
     have e3:a[ia+(k+j)]? = some p':=by rw [←Nat.add_assoc]; simpa using e2
     have z:=hgt (k+j) (by omega) (by omega)
     rw [KK_at e3] at z
     exact KeyOrd.kle_of_klt z
    have n3:x0+2≤(out ++ a.extract ia (ia+k)).size:=by omega
    apply wpS_fork2 fun out2 ia2=>Lo κ a b out2 ia2 ib∧ia2+1 < a.size∧x0+2≤out2.size∧∀ p'∈a.toList.drop ia2,KL κ q p'
    case h1 =>
     intro rest h0
     refine wpS_ite (fun c=>wpS_pure ?_) (fun c=>wpS_ite (fun c'=>wpS_pure ?_) (fun c'=>?_))
     · have c':ia+k+1=a.size:=by simpa using c
       exact (show LoQ κ a b st x0 _ _ from ⟨⟨_,rfl⟩,.inl ⟨_,rfl,LA.lastA sb (lastD c') c'⟩⟩)
     · have c'':ia+k=a.size:=by simpa using c'
       exact (show LoQ κ a b st x0 _ _ from ⟨⟨_,rfl⟩,.inl ⟨_,rfl,LA.doneA sb (by clear rest; omega)⟩⟩)
     have c2:¬ ia+k=a.size:=by simpa using c'
     have c1:¬ ia+k+1=a.size:=by simpa using c
     have n1:ia+k+1 < a.size:=by clear rest; omega
     have hP:=And.intro LA (And.intro n1 (And.intro n3 gta))
     generalize out ++ a.extract ia (ia+k)=out2 at hP ⊢
     generalize ia+k=ia2 at hP ⊢
     exact rest out2 ia2 hP
    case h2 =>
     intro rest h0
     have hk0:k=0:=by clear rest; omega
     have n1:ia+k+1 < a.size:=by clear rest; omega
     have eo:out ++ a.extract ia (ia+k)=out:=by
      rw [hk0,Nat.add_zero,Array.extract_empty_of_stop_le_start (Nat.le_refl _),Array.append_empty]
     have ei:ia+k=ia:=by clear rest; omega
     rw [eo] at n3 LA
     rw [ei] at n1 gta LA
     exact rest out ia ⟨LA,n1,n3,gta⟩
    clear sza gta n3 LA
    intro out2 ia2 hP2
    have LA:=hP2.1
    have n1:=hP2.2.1
    have n3:=hP2.2.2.1
    have gta:=hP2.2.2.2
    clear hP2
    refine wpS_belem eq ?_
    have L3:Lo κ a b (out2.push q) ia2 (ib+1):=by
     rw [ext_one eq]
     refine LA.pushB sb fun p' hp' q' hq'=>?_
     rw [tq] at hp'
     rw [List.mem_singleton.mp hp']
     exact gta q' hq'
    have sz3:(out2.push q).size=out2.size+1:=Array.size_push _
    refine wpS_ite (fun c=>wpS_pure ?_) (fun c=>?_)
    · have c':ib+1=b.size:=by simpa using c
      exact (show LoQ κ a b st x0 _ _ from ⟨⟨_,rfl⟩,.inl ⟨_,rfl,L3.doneB sa (by omega)⟩⟩)
    have n4:ib+1 < b.size:=by
     have c':¬ ib+1=b.size:=by simpa using c
     omega
    refine mem_atK (a:=a) (i:=ia2) (by omega) fun p ep mp mp' tp=>?_
    refine wpS_belem ep ?_
    refine wpS_bgalL hL hk (ka p mp') (fun i hi=>?_) (by omega) (fun i j hij hj=>sb.at (by omega) (by omega)) (fun m hm1 hlt hge=>?_)
    · obtain ⟨p,ep,_,mp,_⟩:=mem_at (a:=b) (i:=ib+1+i) (by omega)
      exact ⟨p,ep,kb p mp⟩
    have LB:Lo κ a b (out2.push q ++ b.extract (ib+1) (ib+1+m)) ia2 (ib+1+m):=L3.pushB sb fun p' hp' q' hq'=>by
     obtain ⟨j,hj,ej⟩:=take_at hp'
     have z:=hlt j hj
     rw [KK_at ej] at z
     exact KeyOrd.kle_trans (KeyOrd.kle_of_klt z) (head_le sa ep q' hq')
    have szb:(out2.push q ++ b.extract (ib+1) (ib+1+m)).size=out2.size+1+m:=by
     rw [Array.size_append,Array.size_extract,sz3,ext_len (Nat.le_of_lt n4) hm1]
    have geb:∀ p'∈b.toList.drop (ib+1+m),KL κ p p':=fun p' hp'=>by
     obtain ⟨j,hj,ej⟩:=List.getElem_of_mem hp'
     rw [List.length_drop,Array.length_toList] at hj
     have e2:(b.toList.drop (ib+1+m))[j]? = some p':=by rw [List.getElem?_eq_getElem (by rw [List.length_drop,Array.length_toList]; exact hj),ej]
     rw [List.getElem?_drop] at e2
     have e3:b[ib+1+(m+j)]? = some p':=by rw [←Nat.add_assoc]; simpa using e2
     have z:=hge (m+j) (by omega) (by omega)
     rw [KK_at e3] at z
     exact z
    have n6:x0+3≤(out2.push q ++ b.extract (ib+1) (ib+1+m)).size:=by omega
    apply wpS_fork2 fun out4 ib4=>Lo κ a b out4 ia2 ib4∧ib4 < b.size∧x0+3≤out4.size∧∀ p'∈b.toList.drop ib4,KL κ p p'
    case h1 =>
     intro rest h0
     refine wpS_ite (fun cm=>wpS_pure ?_) (fun cm=>?_)
     · have c':ib+1+m=b.size:=by simpa using cm
       exact (show LoQ κ a b st x0 _ _ from ⟨⟨_,rfl⟩,.inl ⟨_,rfl,LB.doneB sa (by clear rest; omega)⟩⟩)
     have c1:¬ ib+1+m=b.size:=by simpa using cm
     have n5:ib+1+m < b.size:=by clear rest; omega
     have hP:=And.intro LB (And.intro n5 (And.intro n6 geb))
     generalize out2.push q ++ b.extract (ib+1) (ib+1+m)=out4 at hP ⊢
     generalize ib+1+m=ib4 at hP ⊢
     exact rest out4 ib4 hP
    case h2 =>
     intro rest h0
     have hm0:m=0:=by clear rest; omega
     have n5:ib+1+m < b.size:=by clear rest; omega
     have eo:out2.push q ++ b.extract (ib+1) (ib+1+m)=out2.push q:=by
      rw [hm0,Nat.add_zero,Array.extract_empty_of_stop_le_start (Nat.le_refl _),Array.append_empty]
     have ei:ib+1+m=ib+1:=by clear rest; omega
     rw [eo] at n6 LB
     rw [ei] at n5 geb LB
     exact rest (out2.push q) (ib+1) ⟨LB,n5,n6,geb⟩
    clear szb geb n6 LB
    intro out4 ib4 hP4
    have LB:=hP4.1
    have n5:=hP4.2.1
    have n6:=hP4.2.2.1
    have geb:=hP4.2.2.2
    clear hP4
    refine wpS_belem ep ?_
    have L5:Lo κ a b (out4.push p) (ia2+1) ib4:=by
     rw [ext_one ep]
     refine LB.pushA sa fun p' hp' q' hq'=>?_
     rw [tp] at hp'
     rw [List.mem_singleton.mp hp']
     exact geb q' hq'
    have sz5:(out4.push p).size=out4.size+1:=Array.size_push _
    refine wpS_ite (fun c=>wpS_pure ?_) (fun c=>?_)
    · have c':ia2+1+1=a.size:=by simpa using c
      exact (show LoQ κ a b st x0 _ _ from ⟨⟨_,rfl⟩,.inl ⟨_,rfl,L5.lastA sb (lastD c') c'⟩⟩)
    have n7:ia2+1+1 < a.size:=by
     have c':¬ ia2+1+1=a.size:=by simpa using c
     omega
    refine wpS_ite (fun _=>wpS_pure ?_) (fun _=>wpS_pure ?_)
    · exact (show LoQ κ a b st x0 _ _ from ⟨⟨_,rfl⟩,.inr ⟨_,_,_,_,_,_,rfl,L5,n7,n5,by omega⟩⟩)
    · exact (show LoI κ a b st x0 _ _ from ⟨⟨_,rfl⟩,_,_,_,_,_,_,rfl,L5,n7,n5,by omega⟩)
end
structure Hi (κ:KD) (a b out:Array Keyed) (na nb:Nat):Prop where
 perm:(a.toList.take na ++ (b.toList.take nb ++ out.toList.reverse)).Perm (a.toList ++ b.toList)
 srt:Srt κ out.toList.reverse
 la:∀ p∈a.toList.take na,∀ q∈out.toList,KL κ p q
 lb:∀ p∈b.toList.take nb,∀ q∈out.toList,KL κ p q
theorem Hi.size {κ:KD} {a b out:Array Keyed} {na nb:Nat} (h:Hi κ a b out na nb) (h1:na≤a.size) (h2:nb≤b.size):out.size+na+nb=a.size+b.size:=by
 have:=h.perm.length_eq
 simp only [List.length_append,List.length_take,List.length_reverse,Array.length_toList] at this
 omega
theorem ext_mid (a:Array Keyed) (i j:Nat):(a.extract i j).toList=(a.toList.drop i).take (j - i):=by
 rw [Array.toList_extract,List.extract_eq_drop_take]
theorem ext_to (a:Array Keyed) (j:Nat):(a.extract 0 j).toList=a.toList.take j:=by
 rw [ext_mid,List.drop_zero,Nat.sub_zero]
theorem rev_one {a:Array Keyed} {i:Nat} {p:Keyed} (e:a[i]? = some p) (out:Array Keyed):out.push p=out ++ (a.extract i (i+1)).reverse:=by
 have e1:a.extract i (i+1)=#[p]:=by
  have:=ext_one e #[]
  rw [Array.empty_append] at this
  exact this.symm
 rw [e1]
 exact Array.append_singleton.symm
theorem Hi.pushA {κ:KD} {a b out:Array Keyed} {na nb t:Nat} (h:Hi κ a b out na nb) (ht:t≤na) (sa:Srt κ a.toList) (hq:∀ q∈(a.toList.drop t).take (na - t),∀ p∈b.toList.take nb,KL κ p q):Hi κ a b (out ++ (a.extract t na).reverse) t nb:=by
 have er:(out ++ (a.extract t na).reverse).toList.reverse=(a.toList.drop t).take (na - t) ++ out.toList.reverse:=by
  rw [Array.toList_append,Array.toList_reverse,List.reverse_append,List.reverse_reverse,ext_mid]
 have sp:a.toList.take na=a.toList.take t ++ (a.toList.drop t).take (na - t):=by
  have:na=t+(na - t):=by omega
  conv=>lhs; rw [this]
  rw [List.take_add]
 have sd:Srt κ (a.toList.take na):=List.Pairwise.sublist (List.take_sublist _ _) sa
 have sd':=sd
 rw [sp] at sd'
 obtain ⟨s1,s2,s3⟩:=List.pairwise_append.mp sd'
 have mem:∀ q,q∈(out ++ (a.extract t na).reverse).toList→q∈out.toList∨q∈(a.toList.drop t).take (na - t):=by
  intro q hq
  rw [Array.toList_append,Array.toList_reverse,ext_mid] at hq
  rcases List.mem_append.mp hq with z | z
  · exact .inl z
  · exact .inr (List.mem_reverse.mp z)
 refine ⟨?_,?_,?_,?_⟩
 · rw [er]
   refine List.Perm.trans ?_ h.perm
   rw [sp,List.append_assoc]
   refine List.Perm.append_left _ ?_
   rw [←List.append_assoc,←List.append_assoc]
   exact List.perm_append_comm.append_right _
 · rw [er]
   refine List.pairwise_append.mpr ⟨s2,h.srt,fun p hp q hq'=>h.la p ?_ q (List.mem_reverse.mp hq')⟩
   rw [sp]
   exact List.mem_append_right _ hp
 · intro p hp q hq'
   rcases mem q hq' with z | z
   · refine h.la p ?_ q z
     rw [sp]
     exact List.mem_append_left _ hp
   · exact s3 p hp q z
 · intro p hp q hq'
   rcases mem q hq' with z | z
   · exact h.lb p hp q z
   · exact hq q z p hp
theorem Hi.swap {κ:KD} {a b out:Array Keyed} {na nb:Nat} (h:Hi κ a b out na nb):Hi κ b a out nb na:=by
 refine ⟨?_,h.srt,h.lb,h.la⟩
 refine List.Perm.trans ?_ (h.perm.trans List.perm_append_comm)
 rw [←List.append_assoc,←List.append_assoc]
 exact List.perm_append_comm.append_right _
theorem Hi.pushB {κ:KD} {a b out:Array Keyed} {na nb t:Nat} (h:Hi κ a b out na nb) (ht:t≤nb) (sb:Srt κ b.toList) (hq:∀ q∈(b.toList.drop t).take (nb - t),∀ p∈a.toList.take na,KL κ p q):Hi κ a b (out ++ (b.extract t nb).reverse) na t:=(h.swap.pushA ht sb hq).swap
theorem Hi.doneA {κ:KD} {a b out:Array Keyed} {na nb:Nat} (h:Hi κ a b out na nb) (sb:Srt κ b.toList) (h0:na=0):Merged κ a b (a.extract 0 na ++ b.extract 0 nb ++ out.reverse):=by
 subst h0
 have e:(a.extract 0 0 ++ b.extract 0 nb ++ out.reverse).toList=b.toList.take nb ++ out.toList.reverse:=by
  rw [Array.toList_append,Array.toList_append,ext_to,ext_to,Array.toList_reverse,List.take_zero,List.nil_append]
 have hp:=h.perm
 rw [List.take_zero,List.nil_append] at hp
 unfold Merged
 rw [e]
 exact ⟨List.pairwise_append.mpr ⟨List.Pairwise.sublist (List.take_sublist _ _) sb,h.srt,fun p hp q hq=>h.lb p hp q (List.mem_reverse.mp hq)⟩,hp⟩
theorem Hi.doneB {κ:KD} {a b out:Array Keyed} {na nb:Nat} (h:Hi κ a b out na nb) (sa:Srt κ a.toList) (h0:nb=0):Merged κ a b (a.extract 0 na ++ b.extract 0 nb ++ out.reverse):=by
 subst h0
 have e:(a.extract 0 na ++ b.extract 0 0 ++ out.reverse).toList=a.toList.take na ++ out.toList.reverse:=by
  rw [Array.toList_append,Array.toList_append,ext_to,ext_to,Array.toList_reverse,List.take_zero,List.append_nil]
 have hp:=h.perm
 rw [List.take_zero,List.nil_append] at hp
 unfold Merged
 rw [e]
 exact ⟨List.pairwise_append.mpr ⟨List.Pairwise.sublist (List.take_sublist _ _) sa,h.srt,fun p hp q hq=>h.la p hp q (List.mem_reverse.mp hq)⟩,hp⟩
theorem Hi.firstB {κ:KD} {a b out:Array Keyed} {na nb:Nat} (h:Hi κ a b out na nb) (sa:Srt κ a.toList) (hl:∀ q,b[0]? = some q→∀ p∈a.toList,KL κ q p) (h1:nb=1) (hb:1≤b.size):Merged κ a b (b.extract 0 nb ++ a.extract 0 na ++ out.reverse):=by
 subst h1
 have e:(b.extract 0 1 ++ a.extract 0 na ++ out.reverse).toList=b.toList.take 1 ++ (a.toList.take na ++ out.toList.reverse):=by
  rw [Array.toList_append,Array.toList_append,ext_to,ext_to,Array.toList_reverse,List.append_assoc]
 obtain ⟨q,eq,_,mq,tq⟩:=mem_at (a:=b) (i:=0) hb
 rw [List.drop_zero] at tq
 unfold Merged
 rw [e]
 refine ⟨List.pairwise_append.mpr ⟨by rw [tq]; exact List.pairwise_singleton _ _,List.pairwise_append.mpr ⟨List.Pairwise.sublist (List.take_sublist _ _) sa,h.srt,fun p hp q hq=>h.la p hp q (List.mem_reverse.mp hq)⟩,fun p hp x hx=>?_⟩,?_⟩
 · rcases List.mem_append.mp hx with z | z
   · rw [tq] at hp
     rw [List.mem_singleton.mp hp]
     exact hl q eq x (List.mem_of_mem_take z)
   · exact h.lb p hp x (List.mem_reverse.mp z)
 · refine List.Perm.trans ?_ h.perm
   rw [←List.append_assoc,←List.append_assoc]
   exact List.perm_append_comm.append_right _
theorem last_ge {κ:KD} {a:Array Keyed} (sa:Srt κ a.toList) {i:Nat} {p:Keyed} (e:a[i]? = some p):∀ q∈a.toList.take (i+1),KL κ q p:=by
 intro q hq
 have e':a.toList[i]? = some p:=by simpa using e
 have h:a.toList.take (i+1)=a.toList.take i ++ [p]:=by rw [List.take_add_one,e'] <;> rfl
 have sd:Srt κ (a.toList.take (i+1)):=List.Pairwise.sublist (List.take_sublist _ _) sa
 rw [h] at sd hq
 rcases List.mem_append.mp hq with z | z
 · exact (List.pairwise_append.mp sd).2.2 q z p (List.mem_singleton.mpr rfl)
 · rw [List.mem_singleton.mp z]; exact KeyOrd.kle_refl _
theorem take_mem {a:Array Keyed} {n:Nat} {p:Keyed} (h:p∈a.toList.take n):∃ j,j < n∧a[j]? = some p:=by
 have:p∈(a.toList.drop 0).take n:=by rw [List.drop_zero]; exact h
 obtain ⟨j,hj,e⟩:=take_at this
 exact ⟨j,hj,by rw [Nat.zero_add] at e; exact e⟩
section
variable {prog:Program} {w:World} {A:Around} {E:Value→Shared→Prop} {s:Shared} {κ:KD} {kd:SortKind}
abbrev HiC:=Option (Array Keyed)×Nat×Nat×Array Keyed×Nat×Nat×Nat
abbrev HiI (κ:KD) (a b:Array Keyed) (st:SortSt) (x0:Nat) (c:HiC) (st':SortSt):Prop:=(∃ g,st'=stG st g)∧∃ na nb out mg ac bc,c=(none,na,nb,out,mg,ac,bc)∧Hi κ a b out na nb∧(1≤na∧na≤a.size)∧(2≤nb∧nb≤b.size)∧x0+2≤out.size
abbrev HiQ (κ:KD) (a b:Array Keyed) (st:SortSt) (x0:Nat) (c:HiC) (st':SortSt):Prop:=(∃ g,st'=stG st g)∧((∃ r,c.1=some r∧Merged κ a b r)∨∃ na nb out mg ac bc,c=(none,na,nb,out,mg,ac,bc)∧Hi κ a b out na nb∧(1≤na∧na≤a.size)∧(2≤nb∧nb≤b.size)∧x0+2≤out.size)
theorem wpS_mergeHi (hL:LtOk prog w A E s κ kd) {st:SortSt} {a b:Array Keyed} {Q:Array Keyed→SortSt→Prop} (hk:kindOf st=kd) (ka:∀ p∈a.toList,∃ x,κ.keyOf p.1=some x) (kb:∀ p∈b.toList,∃ x,κ.keyOf p.1=some x)
  (sa:Srt κ a.toList) (sb:Srt κ b.toList) (ha:1≤a.size) (hb:1≤b.size) (first:∀ q,b[0]? = some q→∀ p∈a.toList,KL κ q p) (last:∀ q∈b.toList,∀ p∈a.toList.drop (a.size - 1),KL κ q p)
  (h:∀ r g,Merged κ a b r→Q r (stG st g)):wpS (model prog w) A E s (mergeHi' a b) Q st:=by
 refine wpS_brule ?_
 refine mem_atK (a:=a) (i:=a.size - 1) (by omega) fun a0 e0 d0 m0 t0=>?_
 refine wpS_belem e0 ?_
 have L0:Hi κ a b #[a0] (a.size - 1) b.size:=by
  have z:Hi κ a b #[] a.size b.size:=by
   refine ⟨?_,by simp,by simp,by simp⟩
   rw [List.take_of_length_le (by simp),List.take_of_length_le (by simp)]
   simp
  have:=z.pushA (t:=a.size - 1) (by omega) sa (by
   rw [show a.size - (a.size - 1)=1 by omega,t0]
   intro q hq p hp
   rw [List.mem_singleton.mp hq]
   exact last p (List.mem_of_mem_take hp) a0 d0)
  have e1:=rev_one e0 #[]
  rw [show a.size - 1+1=a.size by omega] at e1
  rw [←e1] at this
  exact this
 refine wpS_ite (fun c=>?_) (fun c1=>?_)
 · refine wpS_pure ?_
   rw [←stG_self st]
   have c':a.size - 1=0:=by simpa using c
   exact h _ _ (L0.doneA sb c')
 refine wpS_ite (fun c=>?_) (fun c2=>?_)
 · refine wpS_pure ?_
   rw [←stG_self st]
   have c':b.size=1:=by simpa using c
   exact h _ _ (L0.firstB sa first c' hb)
 have i1:1≤a.size - 1:=by
  have:¬ a.size - 1=0:=by simpa using c1
  omega
 have i2:2≤b.size:=by
  have:¬ b.size=1:=by simpa using c2
  omega
 refine wpS_bget ?_
 refine wpS_bfor (I:=fun x c st'=>(∃ g,st'=stG st g)∧∃ na nb out mg,c=(none,na,nb,out,mg)∧Hi κ a b out na nb∧(1≤na∧na≤a.size)∧(2≤nb∧nb≤b.size)∧x+1≤out.size)
  (Q':=fun c st'=>(∃ g,st'=stG st g)∧∃ r,c.1=some r∧Merged κ a b r) ?step ?fin ⟨⟨gallopOf st,rfl⟩,_,_,_,_,rfl,L0,⟨i1,by omega⟩,⟨i2,by omega⟩,Nat.le_refl 1⟩ ?post
 case post =>
  rintro ⟨c1,c2⟩ st' ⟨⟨g,rfl⟩,r,e,hr⟩
  have e':c1=some r:=e
  subst e'
  exact wpS_pure (h r g hr)
 case fin =>
  rintro c st' ⟨_,na,nb,out,mg,rfl,L,⟨j1,j1'⟩,⟨j2,j2'⟩,j3⟩
  have:=L.size j1' j2'
  have e:max 0 (a.size+b.size)=a.size+b.size:=Nat.max_eq_right (Nat.zero_le _)
  omega
 case step =>
  intro x0 c st' _ hx0 hI
  apply elimG hI
  clear hI
  intro g hI
  apply elim4 hI
  clear hI
  intro na nb out mg hP
  have L:=hP.1
  have j1:=hP.2.1.1
  have j1':=hP.2.1.2
  have j2:=hP.2.2.1.1
  have j2':=hP.2.2.1.2
  have j3:=hP.2.2.2
  clear hP
  dsimp only
  refine wpS_bfor (I:=fun x c st'=>st'=stG st g∧∃ na nb out ac bc,c=(none,na,nb,out,ac,bc)∧Hi κ a b out na nb∧(1≤na∧na≤a.size)∧(2≤nb∧nb≤b.size)∧x0+1+x≤out.size)
   (Q':=fun c st'=>st'=stG st g∧((∃ r,c.1=some r∧Merged κ a b r)∨∃ na nb out ac bc,c=(none,na,nb,out,ac,bc)∧Hi κ a b out na nb∧(1≤na∧na≤a.size)∧(2≤nb∧nb≤b.size)∧x0+2≤out.size)) ?step1 ?fin1 ⟨rfl,na,nb,out,_,_,rfl,L,⟨j1,j1'⟩,⟨j2,j2'⟩,by omega⟩ ?post1
  case fin1 =>
   rintro c st' ⟨rfl,na,nb,out,ac,bc,rfl,L,k1,k2,k3⟩
   have e:max 0 (a.size+b.size)=a.size+b.size:=Nat.max_eq_right (Nat.zero_le _)
   exact ⟨rfl,.inr ⟨na,nb,out,ac,bc,rfl,L,k1,k2,by omega⟩⟩
  case step1 =>
   intro x c st' _ hx hI
   apply elimS hI
   clear hI
   intro hI
   apply elim5 hI
   clear hI
   intro na nb out ac bc hP
   have L:=hP.1
   have k1:=hP.2.1.1
   have k1':=hP.2.1.2
   have k2:=hP.2.2.1.1
   have k2':=hP.2.2.1.2
   have k3:=hP.2.2.2
   clear hP
   dsimp only
   refine mem_atK (a:=b) (i:=nb - 1) (by omega) fun q eq dq mq tq=>?_
   obtain ⟨p,ep,dp,mp,tp⟩:=mem_at (a:=a) (i:=na - 1) (by omega)
   refine wpS_belem eq (wpS_belem ep (wpS_blt hL hk (kb q mq) (ka p mp) ?_))
   refine wpS_ite (fun ew=>?_) (fun ew=>?_)
   · skip
     refine wpS_belem ep ?_
     have L':Hi κ a b (out.push p) (na - 1) nb:=by
      have:=L.pushA (t:=na - 1) (by omega) sa (by
       rw [show na - (na - 1)=1 by omega,tp]
       intro q' hq' p' hp'
       rw [List.mem_singleton.mp hq']
       refine KeyOrd.kle_trans (last_ge sb eq p' ?_) (KeyOrd.kle_of_klt ew)
       rw [show nb - 1+1=nb by omega]; exact hp')
      have e1:=rev_one ep out
      rw [show na - 1+1=na by omega] at e1
      rw [←e1] at this
      exact this
     have sz:(out.push p).size=out.size+1:=Array.size_push _
     refine wpS_ite (fun c=>?_) (fun c=>?_)
     · exact wpS_pure ⟨rfl,.inl ⟨_,rfl,L'.doneA sb (by simpa using c)⟩⟩
     · have c':¬ na - 1=0:=by simpa using c
       refine wpS_ite (fun _=>?_) (fun _=>?_)
       · exact wpS_pure ⟨rfl,.inr ⟨_,_,_,_,_,rfl,L',⟨by omega,by omega⟩,⟨k2,k2'⟩,by omega⟩⟩
       · exact wpS_pure ⟨rfl,_,_,_,_,_,rfl,L',⟨by omega,by omega⟩,⟨k2,k2'⟩,by omega⟩
   · have ew:=Bool.eq_false_iff.mpr ew
     refine wpS_belem eq ?_
     have L':Hi κ a b (out.push q) na (nb - 1):=by
      have:=L.pushB (t:=nb - 1) (by omega) sb (by
       rw [show nb - (nb - 1)=1 by omega,tq]
       intro q' hq' p' hp'
       rw [List.mem_singleton.mp hq']
       refine KeyOrd.kle_trans (last_ge sa ep p' ?_) ew
       rw [show na - 1+1=na by omega]; exact hp')
      have e1:=rev_one eq out
      rw [show nb - 1+1=nb by omega] at e1
      rw [←e1] at this
      exact this
     have sz:(out.push q).size=out.size+1:=Array.size_push _
     refine wpS_ite (fun c=>?_) (fun c=>?_)
     · exact wpS_pure ⟨rfl,.inl ⟨_,rfl,L'.firstB sa first (by simpa using c) hb⟩⟩
     · have c':¬ nb - 1=1:=by simpa using c
       refine wpS_ite (fun _=>?_) (fun _=>?_)
       · exact wpS_pure ⟨rfl,.inr ⟨_,_,_,_,_,rfl,L',⟨k1,k1'⟩,⟨by omega,by omega⟩,by omega⟩⟩
       · exact wpS_pure ⟨rfl,_,_,_,_,_,rfl,L',⟨k1,k1'⟩,⟨by omega,by omega⟩,by omega⟩
  case post1 =>
   intro c st' h1
   apply elimS h1
   clear h1
   intro h1
   refine h1.elim ?_ ?_ <;> clear h1
   · intro h1
     apply elimR h1
     clear h1
     intro r c2 hr
     exact wpS_pure ⟨⟨g,rfl⟩,r,rfl,hr⟩
   intro h1
   apply elim5 h1
   clear h1
   intro na nb out ac bc hP
   have L:=hP.1
   have k1:=hP.2.1
   have k2:=hP.2.2.1
   have k3:=hP.2.2.2
   clear hP
   refine wpS_brule ?_
   refine wpS_bfor (I:=fun x c st'=>HiI κ a b st x0 c st') (Q':=HiQ κ a b st x0) ?step2 ?fin2 ⟨⟨g,rfl⟩,na,nb,out,_,_,_,rfl,L,k1,k2,k3⟩ ?post2
   case fin2 =>
    rintro c st' ⟨hg,na,nb,out,mg,ac,bc,rfl,L,k1,k2,k3⟩
    exact ⟨hg,.inr ⟨na,nb,out,mg,ac,bc,rfl,L,k1,k2,k3⟩⟩
   case post2 =>
    intro c st' h1
    apply elimG h1
    clear h1
    intro g2 h1
    refine h1.elim ?_ ?_ <;> clear h1
    · intro h1
      apply elimR h1
      clear h1
      intro r c2 hr
      exact wpS_pure ⟨⟨g2,rfl⟩,r,rfl,hr⟩
    · intro h1
      apply elim6 h1
      clear h1
      intro na nb out mg ac bc hP
      have L:=hP.1
      have k1:=hP.2.1
      have k2:=hP.2.2.1
      have k3:=hP.2.2.2
      clear hP
      refine wpS_bmodify (wpS_pure ?_)
      exact ⟨⟨_,rfl⟩,na,nb,out,_,rfl,L,k1,k2,by omega⟩
   case step2 =>
    intro x c st' _ hx hI
    apply elimG hI
    clear hI
    intro g2 hI
    apply elim6 hI
    clear hI
    intro na nb out mg ac bc hP
    have L:=hP.1
    have k1:=hP.2.1.1
    have k1':=hP.2.1.2
    have k2:=hP.2.2.1.1
    have k2':=hP.2.2.1.2
    have k3:=hP.2.2.2
    clear hP
    dsimp only
    refine mem_atK (a:=b) (i:=nb - 1) (by omega) fun q eq dq mq tq=>?_
    apply wpS_fork (β:=Nat)
    case h1 =>
     intro rest _
     generalize mg - 1=v
     exact rest v
    case h2 =>
     intro rest _
     exact rest mg
    intro mg
    refine wpS_bmodify ?_
    refine wpS_belem eq ?_
    refine wpS_bgalR hL hk (kb q mq) (fun i hi=>?_) (by omega) (fun i j hij hj=>sa.at (by omega) (by omega)) (fun t ht1 hle hgt=>?_)
    · obtain ⟨p,ep,_,mp,_⟩:=mem_at (a:=a) (i:=0+i) (by omega)
      exact ⟨p,ep,ka p mp⟩
    have LA:Hi κ a b (out ++ (a.extract t na).reverse) t nb:=L.pushA ht1 sa fun q' hq' p' hp'=>by
     obtain ⟨j,hj,ej⟩:=take_at hq'
     have z:=hgt (t+j) (by omega) (by omega)
     rw [Nat.zero_add,KK_at ej] at z
     refine KeyOrd.kle_trans (last_ge sb eq p' ?_) (KeyOrd.kle_of_klt z)
     rw [show nb - 1+1=nb by omega]; exact hp'
    have sza:(out ++ (a.extract t na).reverse).size=out.size+(na - t):=by
     rw [Array.size_append,Array.size_reverse,Array.size_extract]
     omega
    have lea:∀ p'∈a.toList.take t,KL κ p' q:=fun p' hp'=>by
     obtain ⟨j,hj,ej⟩:=take_mem hp'
     have z:=hle j hj
     rw [Nat.zero_add,KK_at ej] at z
     exact z
    have n3:x0+2≤(out ++ (a.extract t na).reverse).size:=by omega
    dsimp only
    generalize hac:na - t=acv
    apply wpS_fork2 fun out2 na2=>Hi κ a b out2 na2 nb∧(1≤na2∧na2≤a.size)∧x0+2≤out2.size∧∀ p'∈a.toList.take na2,KL κ p' q
    case h1 =>
     intro rest h0
     refine wpS_ite (fun ct=>wpS_pure ?_) (fun ct=>?_)
     · exact (show HiQ κ a b st x0 _ _ from ⟨⟨_,rfl⟩,.inl ⟨_,rfl,LA.doneA sb (by simpa using ct)⟩⟩)
     have c2:¬ t=0:=by simpa using ct
     have n1:1≤t∧t≤a.size:=⟨by clear rest; omega,by clear rest; omega⟩
     have hP:=And.intro LA (And.intro n1 (And.intro n3 lea))
     generalize out ++ (a.extract t na).reverse=out2 at hP ⊢
     generalize t=na2 at hP ⊢
     exact rest out2 na2 hP
    case h2 =>
     intro rest h0
     have ht0:t=na:=by clear rest; omega
     have n1:1≤t∧t≤a.size:=⟨by clear rest; omega,by clear rest; omega⟩
     have eo:out ++ (a.extract t na).reverse=out:=by
      rw [ht0,Array.extract_empty_of_stop_le_start (Nat.le_refl _),Array.reverse_empty,Array.append_empty]
     rw [eo] at n3 LA
     rw [ht0] at n1 lea LA
     exact rest out na ⟨LA,n1,n3,lea⟩
    clear sza lea n3 LA
    intro out2 na2 hP2
    have LA:=hP2.1
    have n1:=hP2.2.1.1
    have n1':=hP2.2.1.2
    have n3:=hP2.2.2.1
    have lea:=hP2.2.2.2
    clear hP2
    refine wpS_belem eq ?_
    have L3:Hi κ a b (out2.push q) na2 (nb - 1):=by
     have:=LA.pushB (t:=nb - 1) (by omega) sb (by
      rw [show nb - (nb - 1)=1 by omega,tq]
      intro q' hq' p' hp'
      rw [List.mem_singleton.mp hq']
      exact lea p' hp')
     have e1:=rev_one eq out2
     rw [show nb - 1+1=nb by omega] at e1
     rw [←e1] at this
     exact this
    have sz3:(out2.push q).size=out2.size+1:=Array.size_push _
    refine wpS_ite (fun c=>wpS_pure ?_) (fun c=>?_)
    · exact (show HiQ κ a b st x0 _ _ from ⟨⟨_,rfl⟩,.inl ⟨_,rfl,L3.firstB sa first (by simpa using c) hb⟩⟩)
    have n4:2≤nb - 1:=by
     have c':¬ nb - 1=1:=by simpa using c
     omega
    refine mem_atK (a:=a) (i:=na2 - 1) (by omega) fun p ep dp mp tp=>?_
    refine wpS_belem ep ?_
    refine wpS_bgalL hL hk (ka p mp) (fun i hi=>?_) (by omega) (fun i j hij hj=>sb.at (by omega) (by omega)) (fun m hm1 hlt hge=>?_)
    · obtain ⟨p,ep,_,mp,_⟩:=mem_at (a:=b) (i:=0+i) (by omega)
      exact ⟨p,ep,kb p mp⟩
    have LB:Hi κ a b (out2.push q ++ (b.extract m (nb - 1)).reverse) na2 m:=L3.pushB hm1 sb fun q' hq' p' hp'=>by
     obtain ⟨j,hj,ej⟩:=take_at hq'
     have z:=hge (m+j) (by omega) (by omega)
     rw [Nat.zero_add,KK_at ej] at z
     refine KeyOrd.kle_trans (last_ge sa ep p' ?_) z
     rw [show na2 - 1+1=na2 by omega]; exact hp'
    have szb:(out2.push q ++ (b.extract m (nb - 1)).reverse).size=out2.size+1+(nb - 1 - m):=by
     rw [Array.size_append,Array.size_reverse,Array.size_extract,sz3]
     omega
    have leb:∀ p'∈b.toList.take m,KL κ p' p:=fun p' hp'=>by
     obtain ⟨j,hj,ej⟩:=take_mem hp'
     have z:=hlt j hj
     rw [Nat.zero_add,KK_at ej] at z
     exact KeyOrd.kle_of_klt z
    have n6:x0+3≤(out2.push q ++ (b.extract m (nb - 1)).reverse).size:=by omega
    dsimp only
    generalize hbc:nb - 1 - m=bcv
    apply wpS_fork2 fun out4 nb4=>Hi κ a b out4 na2 nb4∧(2≤nb4∧nb4≤b.size)∧x0+3≤out4.size∧∀ p'∈b.toList.take nb4,KL κ p' p
    case h1 =>
     intro rest h0
     refine wpS_ite (fun cm=>wpS_pure ?_) (fun cm=>wpS_ite (fun cn=>wpS_pure ?_) (fun cn=>?_))
     · exact (show HiQ κ a b st x0 _ _ from ⟨⟨_,rfl⟩,.inl ⟨_,rfl,LB.firstB sa first (by simpa using cm) hb⟩⟩)
     · exact (show HiQ κ a b st x0 _ _ from ⟨⟨_,rfl⟩,.inl ⟨_,rfl,LB.doneB sa (by simpa using cn)⟩⟩)
     have c1:¬ m=0:=by simpa using cn
     have c2:¬ m=1:=by simpa using cm
     have n5:2≤m∧m≤b.size:=⟨by clear rest; omega,by clear rest; omega⟩
     have hP:=And.intro LB (And.intro n5 (And.intro n6 leb))
     generalize out2.push q ++ (b.extract m (nb - 1)).reverse=out4 at hP ⊢
     generalize m=nb4 at hP ⊢
     exact rest out4 nb4 hP
    case h2 =>
     intro rest h0
     have hm0:m=nb - 1:=by clear rest; omega
     have n5:2≤m∧m≤b.size:=⟨by clear rest; omega,by clear rest; omega⟩
     have eo:out2.push q ++ (b.extract m (nb - 1)).reverse=out2.push q:=by
      rw [hm0,Array.extract_empty_of_stop_le_start (Nat.le_refl _),Array.reverse_empty,Array.append_empty]
     rw [eo] at n6 LB
     rw [hm0] at n5 leb LB
     exact rest (out2.push q) (nb - 1) ⟨LB,n5,n6,leb⟩
    clear szb leb n6 LB
    intro out4 nb4 hP4
    have LB:=hP4.1
    have n5:=hP4.2.1.1
    have n5':=hP4.2.1.2
    have n6:=hP4.2.2.1
    have leb:=hP4.2.2.2
    clear hP4
    refine wpS_belem ep ?_
    have L5:Hi κ a b (out4.push p) (na2 - 1) nb4:=by
     have:=LB.pushA (t:=na2 - 1) (by omega) sa (by
      rw [show na2 - (na2 - 1)=1 by omega,tp]
      intro q' hq' p' hp'
      rw [List.mem_singleton.mp hq']
      exact leb p' hp')
     have e1:=rev_one ep out4
     rw [show na2 - 1+1=na2 by omega] at e1
     rw [←e1] at this
     exact this
    have sz5:(out4.push p).size=out4.size+1:=Array.size_push _
    refine wpS_ite (fun c=>wpS_pure ?_) (fun c=>?_)
    · exact (show HiQ κ a b st x0 _ _ from ⟨⟨_,rfl⟩,.inl ⟨_,rfl,L5.doneA sb (by simpa using c)⟩⟩)
    have n7:1≤na2 - 1:=by
     have c':¬ na2 - 1=0:=by simpa using c
     omega
    refine wpS_ite (fun _=>wpS_pure ?_) (fun _=>wpS_pure ?_)
    · exact (show HiQ κ a b st x0 _ _ from ⟨⟨_,rfl⟩,.inr ⟨_,_,_,_,_,_,rfl,L5,⟨n7,by omega⟩,⟨n5,n5'⟩,by omega⟩⟩)
    · exact (show HiI κ a b st x0 _ _ from ⟨⟨_,rfl⟩,_,_,_,_,_,_,rfl,L5,⟨n7,by omega⟩,⟨n5,n5'⟩,by omega⟩)
end
structure Chg (x0 xs:Array Keyed) (lo hi:Nat):Prop where
 perm:xs.Perm x0
 out:∀ k,k < lo∨hi≤k→xs[k]? = x0[k]?
theorem Chg.refl (xs:Array Keyed) (lo hi:Nat):Chg xs xs lo hi:=⟨Array.Perm.refl _,fun _ _=>rfl⟩
theorem Chg.trans {x y z:Array Keyed} {lo hi:Nat} (a:Chg x y lo hi) (b:Chg y z lo hi):Chg x z lo hi:=⟨b.perm.trans a.perm,fun k h=>(b.out k h).trans (a.out k h)⟩
theorem Chg.size {x y:Array Keyed} {lo hi:Nat} (a:Chg x y lo hi):y.size=x.size:=a.perm.size_eq
theorem Chg.wide {x y:Array Keyed} {lo hi lo' hi':Nat} (a:Chg x y lo hi) (h1:lo'≤lo) (h2:hi≤hi'):Chg x y lo' hi':=⟨a.perm,fun k h=>a.out k (by omega)⟩
theorem Chg.mirror {xs:Array Keyed} {i j lo hi:Nat} (hj:j≤xs.size) (h1:lo≤i) (h2:j≤hi):Chg xs (PyProof.Rows.mirror xs i j ((j - i) / 2)) lo hi:=⟨mirror_perm _ _ _ _,fun k h=>by
 rw [getElem?_mirror_all hj,if_neg (by omega)]⟩
theorem Chg.bubble {xs:Array Keyed} {src d lo hi:Nat} (hs:src < xs.size) (hd:d≤src) (h1:lo≤src - d) (h2:src < hi):Chg xs (PyProof.Rows.bubble xs src d) lo hi:=⟨bubble_perm _ _ _,fun k h=>by
 rw [getElem?_bubble hs d hd,if_neg (by omega),if_neg (by omega)]⟩
def AllKeys (κ:KD) (xs:Array Keyed):Prop:=∀ p∈xs.toList,∃ a,κ.keyOf p.1=some a
theorem AllKeys.chg {κ:KD} {x y:Array Keyed} {lo hi:Nat} (h:AllKeys κ x) (c:Chg x y lo hi):AllKeys κ y:=fun p hp=>h p ((Array.perm_iff_toList_perm.mp c.perm).mem_iff.mp hp)
def SegK (κ:KD) (xs:Array Keyed) (lo hi:Nat):Prop:=∀ i j,lo≤i→i≤j→j < hi→κ.kle (KK κ xs i) (KK κ xs j)
def FallK (κ:KD) (xs:Array Keyed) (lo hi:Nat):Prop:=∀ i j,lo≤i→i≤j→j < hi→κ.kle (KK κ xs j) (KK κ xs i)
theorem SegK.chg {κ:KD} {x y:Array Keyed} {lo hi a b:Nat} (h:SegK κ x a b) (c:Chg x y lo hi) (hd:b≤lo∨hi≤a):SegK κ y a b:=fun i j h1 h2 h3=>by
 rw [KK_congr (c.out i (by omega)),KK_congr (c.out j (by omega))]
 exact h i j h1 h2 h3
section
variable {prog:Program} {w:World} {A:Around} {E:Value→Shared→Prop} {s:Shared} {κ:KD} {kd:SortKind}
theorem wpS_ltAt2 (hL:LtOk prog w A E s κ kd) {st:SortSt} {i j:Nat} {Q:Option Bool→SortSt→Prop} (xs:Array Keyed) (hx:arrOf st=xs) (hk:kindOf st=kd) (hK:AllKeys κ xs) (hi:i < xs.size) (hj:j < xs.size)
  (h:Q (some (κ.blt (KK κ xs i) (KK κ xs j))) st):wpS (model prog w) A E s (ltAt' i j) Q st:=by
 subst hx
 obtain ⟨p,ep,_,mp,_⟩:=mem_at hi
 obtain ⟨q,eq,_,mq,_⟩:=mem_at hj
 rw [KK_at ep,KK_at eq] at h
 rw [ltAt'_eq]
 refine wpS_bind (wpS_get ?_)
 exact wpS_bind (wpS_elem ep (wpS_bind (wpS_elem eq (wpS_lt2 hL hk (hK p mp) (hK q mq) h))))
def ascL (lo a nrem:Nat):StateT SortSt Sem AscSt :=
 forIn [a:nrem] ((none,a):AscSt) fun _ c=>do
  match ← ltAt' (lo+c.snd) (lo+c.snd - 1) with
  | some b=>if b=true then pure (.done (none,c.snd)) else pure (.yield (none,c.snd+1))
  | _=>pure (.done (some none,c.snd))
theorem wpS_ascL (hL:LtOk prog w A E s κ kd) {st:SortSt} {xs:Array Keyed} {lo a nrem:Nat} {Q:AscSt→SortSt→Prop} (hk:kindOf st=kd) (hK:AllKeys κ xs) (hn:lo+nrem≤xs.size) (ha:1≤a) (han:a≤nrem) (hs:SegK κ xs lo (lo+a))
  (h:∀ n,a≤n→n≤nrem→SegK κ xs lo (lo+n)→(n=nrem∨κ.klt (KK κ xs (lo+n)) (KK κ xs (lo+n - 1)))→Q (none,n) (setArr st xs)):wpS (model prog w) A E s (ascL lo a nrem) Q (setArr st xs):=by
 unfold ascL
 refine wpS_forRange (I:=fun x c st'=>st'=setArr st xs∧c=(none,x)∧SegK κ xs lo (lo+x)) ?step ?fin ⟨rfl,rfl,hs⟩
 case fin =>
  rintro c st' ⟨rfl,rfl,hs'⟩
  rw [show max a nrem=nrem by omega] at hs' ⊢
  exact h nrem han (Nat.le_refl _) hs' (.inl rfl)
 case step =>
  rintro x c st' hax hxn ⟨rfl,rfl,hs'⟩
  dsimp only
  refine wpS_bind (wpS_ltAt2 hL xs rfl hk hK (by omega) (by omega) ?_)
  dsimp only
  cases hless:κ.blt (KK κ xs (lo+x)) (KK κ xs (lo+x - 1)) with
  | true =>
   rw [if_pos rfl]
   exact wpS_pure (h x hax (by omega) hs' (.inr hless))
  | false =>
   rw [if_neg Bool.false_ne_true]
   refine wpS_pure ⟨rfl,rfl,fun i j h1 hij hj=>?_⟩
   by_cases hjx:j < lo+x
   · exact hs' i j h1 hij hjx
   · have hj':j=lo+x:=by omega
     subst hj'
     by_cases hi':i=lo+x
     · subst hi'; exact KeyOrd.kle_refl _
     · exact KeyOrd.kle_trans (hs' i (lo+x - 1) h1 (by omega) (by omega)) hless
def descL (lo n nrem:Nat):StateT SortSt Sem DescSt :=
 forIn [n:nrem] ((none,n,0):DescSt) fun _ c=>do
  match ← ltAt' (lo+c.snd.fst) (lo+c.snd.fst - 1) with
  | some b =>
   if b=true then
    if c.snd.snd > 0 then do { reverseSlice' (lo+c.snd.fst - (c.snd.snd+1)) (lo+c.snd.fst); pure (.yield (none,c.snd.fst+1,0)) }
    else pure (.yield (none,c.snd.fst+1,0))
   else do
    match ← ltAt' (lo+c.snd.fst - 1) (lo+c.snd.fst) with
    | some d=>if d=true then pure (.done (none,c.snd.fst,c.snd.snd)) else pure (.yield (none,c.snd.fst+1,c.snd.snd+1))
    | _=>pure (.done (some none,c.snd.fst,c.snd.snd))
  | _=>pure (.done (some none,c.snd.fst,c.snd.snd))
theorem wpS_descL (hL:LtOk prog w A E s κ kd) {st:SortSt} {x0:Array Keyed} {lo n nrem:Nat} {Q:DescSt→SortSt→Prop} (hk:kindOf st=kd) (hK:AllKeys κ x0) (hn:lo+nrem≤x0.size) (h1:1≤n) (hnn:n≤nrem) (hs:FallK κ x0 lo (lo+n))
  (h:∀ m neq xs,Chg x0 xs lo (lo+nrem)→n≤m→m≤nrem→FallK κ xs lo (lo+m)→neq+1≤m→(∀ i,lo+m - (neq+1)≤i→i < lo+m→KK κ xs i=KK κ xs (lo+m - 1))→Q (none,m,neq) (setArr st xs)):wpS (model prog w) A E s (descL lo n nrem) Q (setArr st x0):=by
 unfold descL
 refine wpS_forRange (I:=fun x c st'=>∃ neq xs,st'=setArr st xs∧c=(none,x,neq)∧Chg x0 xs lo (lo+nrem)∧FallK κ xs lo (lo+x)∧neq+1≤x ∧
   (∀ i,lo+x - (neq+1)≤i→i < lo+x→KK κ xs i=KK κ xs (lo+x - 1))) ?step ?fin ⟨0,x0,rfl,rfl,Chg.refl _ _ _,hs,by omega,fun i a b=>by congr 1; omega⟩
 case fin =>
  rintro c st' ⟨neq,xs,rfl,rfl,hB',hs',hq,he⟩
  rw [show max n nrem=nrem by omega] at hs' hq he ⊢
  exact h nrem neq xs hB' hnn (Nat.le_refl _) hs' hq he
 case step =>
  rintro x c st' hax hxn ⟨neq,xs,rfl,rfl,hB',hs',hq,he⟩
  dsimp only
  have hsz:xs.size=x0.size:=hB'.size
  have hKx:=hK.chg hB'
  refine wpS_bind (wpS_ltAt2 hL xs rfl hk hKx (by omega) (by omega) ?_)
  dsimp only
  cases hless:κ.blt (KK κ xs (lo+x)) (KK κ xs (lo+x - 1)) with
  | true =>
   rw [if_pos rfl]
   have step1:∀ ys:Array Keyed,(∀ k,KK κ ys k=KK κ xs k)→FallK κ ys lo (lo+(x+1)):=by
    intro ys hy i j h1 hij hj
    rw [hy,hy]
    by_cases hjx:j < lo+x
    · exact hs' i j h1 hij hjx
    · have hj':j=lo+x:=by omega
      subst hj'
      by_cases hi':i=lo+x
      · subst hi'; exact KeyOrd.kle_refl _
      · exact KeyOrd.kle_trans (KeyOrd.kle_of_klt hless) (hs' i (lo+x - 1) h1 (by omega) (by omega))
   refine wpS_ite (fun hneq=>?_) (fun hneq=>?_)
   · refine wpS_bind (wpS_reverse (wpS_pure ⟨0,_,rfl,rfl,hB'.trans (Chg.mirror (by show _≤xs.size; omega) (by omega) (by omega)),step1 _ (KK_mirror_equal (by show _≤xs.size; omega) he),by omega,fun i a b=>by congr 1; omega⟩))
   · exact wpS_pure ⟨0,xs,rfl,rfl,hB',step1 _ (fun _=>rfl),by omega,fun i a b=>by congr 1; omega⟩
  | false =>
   rw [if_neg Bool.false_ne_true]
   refine wpS_bind (wpS_ltAt2 hL xs rfl hk hKx (by omega) (by omega) ?_)
   dsimp only
   cases hlarger:κ.blt (KK κ xs (lo+x - 1)) (KK κ xs (lo+x)) with
   | true =>
    rw [if_pos rfl]
    exact wpS_pure (h x neq xs hB' hax (by omega) hs' hq he)
   | false =>
    rw [if_neg Bool.false_ne_true]
    have heqx:KK κ xs (lo+x)=KK κ xs (lo+x - 1):=KeyOrd.kle_antisymm hlarger hless
    refine wpS_pure ⟨neq+1,xs,rfl,rfl,hB',fun i j h1 hij hj=>?_,by omega,fun i a b=>?_⟩
    · by_cases hjx:j < lo+x
      · exact hs' i j h1 hij hjx
      · have hj':j=lo+x:=by omega
        subst hj'
        by_cases hi':i=lo+x
        · subst hi'; exact KeyOrd.kle_refl _
        · rw [heqx]; exact hs' i (lo+x - 1) h1 (by omega) (by omega)
    · rw [show lo+(x+1) - 1=lo+x by omega]
      by_cases hix:i=lo+x
      · subst hix; rfl
      · rw [heqx]; exact he i (by omega) (by omega)
theorem wpS_countRun2 (hL:LtOk prog w A E s κ kd) {st:SortSt} {lo nrem:Nat} {Q:Option Nat→SortSt→Prop} (hk:kindOf st=kd) (hK:AllKeys κ (arrOf st)) (hn:lo+nrem≤(arrOf st).size) (h1:1≤nrem)
  (h:∀ m xs,Chg (arrOf st) xs lo (lo+nrem)→1≤m→m≤nrem→SegK κ xs lo (lo+m)→Q (some m) (setArr st xs)):wpS (model prog w) A E s (countRun' lo nrem) Q st:=by
 have hst:st=setArr st (arrOf st):=rfl
 rw [hst]
 generalize hx0:arrOf st=x0 at *
 refine wpS_bind (m:=ascL lo 1 nrem) (wpS_ascL hL hk hK hn (Nat.le_refl 1) h1 (fun i j a hij b=>by have:i=j:=(by omega); subst this; exact KeyOrd.kle_refl _) fun n hn1 hn2 hsn hor=>?_)
 dsimp only
 refine wpS_ite (fun c=>?_) (fun c=>?_)
 · exact wpS_pure (h n x0 (Chg.refl _ _ _) hn1 hn2 hsn)
 have hnn:¬ n=nrem:=by simpa using c
 have hlt:κ.klt (KK κ x0 (lo+n)) (KK κ x0 (lo+n - 1)):=hor.resolve_left hnn
 have fin:∀ m ys,Chg x0 ys lo (lo+nrem)→1≤m→m≤nrem→FallK κ ys lo (lo+m)→∀ {g:AscSt→StateT SortSt Sem (Option Nat)},(∀ k,g (none,k)=pure (some k))→wpS (model prog w) A E s (do reverseSlice' lo (lo+m); let c ← ascL lo m nrem; g c) Q (setArr st ys):=by
  intro m ys hy a b hf g hg
  have hsz:=hy.size
  refine wpS_bind (wpS_reverse ?_)
  have hc:Chg x0 (mirror ys lo (lo+m) ((lo+m - lo) / 2)) lo (lo+nrem):=hy.trans (Chg.mirror (by omega) (by omega) (by omega))
  refine wpS_bind (wpS_ascL (st:=st) (xs:=mirror ys lo (lo+m) ((lo+m - lo) / 2)) hL hk (hK.chg hc) (by have:=hc.size; omega) a b ?_ fun k k1 k2 k3 _=>by rw [hg]; exact wpS_pure (h k _ hc (by omega) k2 k3))
  intro i j l1 hij hj
  rw [KK_mirror (by omega),KK_mirror (by omega),if_pos (by omega),if_pos (by omega)]
  exact hf _ _ (by omega) (by omega) (by omega)
 refine wpS_ite (fun hgt=>?_) (fun hgt=>?_)
 · refine wpS_bind (wpS_ltAt2 (i:=lo) (j:=lo+n - 1) hL x0 rfl hk hK (by omega) (by omega) ?_)
   dsimp only
   cases hrose:κ.blt (KK κ x0 lo) (KK κ x0 (lo+n - 1)) with
   | true =>
    rw [if_pos rfl]
    exact wpS_pure (h n x0 (Chg.refl _ _ _) hn1 hn2 hsn)
   | false =>
    rw [if_neg Bool.false_ne_true]
    have hall:∀ k,lo≤k→k < lo+n→KK κ x0 k=KK κ x0 (lo+n - 1):=by
     intro k hk1 hk2
     have a1:=hsn lo k (Nat.le_refl _) hk1 hk2
     have a2:=hsn k (lo+n - 1) hk1 (by omega) (by omega)
     exact KeyOrd.kle_antisymm a2 (KeyOrd.kle_trans hrose a1)
    refine wpS_bind (wpS_reverse ?_)
    have hc:Chg x0 (mirror x0 lo (lo+n) ((lo+n - lo) / 2)) lo (lo+nrem):=Chg.mirror (by omega) (by omega) (by omega)
    have hf:FallK κ (mirror x0 lo (lo+n) ((lo+n - lo) / 2)) lo (lo+(n+1)):=by
     intro i j l1 hij hj
     rw [KK_mirror_equal (by omega) hall,KK_mirror_equal (by omega) hall]
     by_cases hjn:j < lo+n
     · rw [hall i (by omega) (by omega),hall j (by omega) hjn]; exact KeyOrd.kle_refl _
     · have hj':j=lo+n:=by omega
       subst hj'
       by_cases hi':i=lo+n
       · subst hi'; exact KeyOrd.kle_refl _
       · rw [hall i (by omega) (by omega)]; exact KeyOrd.kle_of_klt hlt
    refine wpS_bind (wpS_rule ?_)
    show wpS _ _ _ _ _ _ (setArr st (mirror x0 lo (lo+n) ((lo+n - lo) / 2)))
    generalize mirror x0 lo (lo+n) ((lo+n - lo) / 2)=xs at hc hf ⊢
    refine wpS_bind (m:=descL lo (n+1) nrem) (wpS_descL hL hk (hK.chg hc) (by have:=hc.size; omega) (by omega) (by omega) hf fun m neq ys hy a b hfm hq he=>?_)
    have hy2:=hc.trans hy
    have hsz:=hy2.size
    dsimp only
    refine wpS_ite (fun hneq=>?_) (fun hneq=>fin m ys hy2 (by omega) b hfm fun _=>rfl)
    refine wpS_bind (wpS_reverse ?_)
    refine fin m (mirror ys (lo+m - (neq+1)) (lo+m) ((lo+m - (lo+m - (neq+1))) / 2)) (hy2.trans (Chg.mirror (by omega) (by omega) (by omega))) (by omega) b ?_ fun _=>rfl
    intro i j l1 hij hj
    show κ.kle (KK κ (mirror ys _ _ _) j) (KK κ (mirror ys _ _ _) i)
    rw [KK_mirror_equal (by omega) he,KK_mirror_equal (by omega) he]
    exact hfm i j l1 hij hj
 · have hn1':n=1:=by omega
   have hf:FallK κ x0 lo (lo+(n+1)):=by
    intro i j l1 hij hj
    by_cases hi':i=j
    · subst hi'; exact KeyOrd.kle_refl _
    · have hi0:i=lo+n - 1:=by omega
      have hj1:j=lo+n:=by omega
      rw [hi0,hj1]
      exact KeyOrd.kle_of_klt hlt
   refine wpS_bind (wpS_rule ?_)
   refine wpS_bind (m:=descL lo (n+1) nrem) (wpS_descL hL hk hK (by omega) (by omega) (by omega) hf fun m neq ys hy2 a b hfm hq he=>?_)
   have hsz:=hy2.size
   dsimp only
   refine wpS_ite (fun hneq=>?_) (fun hneq=>fin m ys hy2 (by omega) b hfm fun _=>rfl)
   refine wpS_bind (wpS_reverse ?_)
   refine fin m (mirror ys (lo+m - (neq+1)) (lo+m) ((lo+m - (lo+m - (neq+1))) / 2)) (hy2.trans (Chg.mirror (by omega) (by omega) (by omega))) (by omega) b ?_ fun _=>rfl
   intro i j l1 hij hj
   show κ.kle (KK κ (mirror ys _ _ _) j) (KK κ (mirror ys _ _ _) i)
   rw [KK_mirror_equal (by omega) he,KK_mirror_equal (by omega) he]
   exact hfm i j l1 hij hj
theorem wpS_binarySort2 (hL:LtOk prog w A E s κ kd) {st:SortSt} {lo n ok:Nat} {Q:Bool→SortSt→Prop} (hk:kindOf st=kd) (hK:AllKeys κ (arrOf st)) (hn:lo+n≤(arrOf st).size) (hok:ok≤n) (hs:SegK κ (arrOf st) lo (lo+ok))
  (h:∀ xs,Chg (arrOf st) xs lo (lo+n)→SegK κ xs lo (lo+n)→Q true (setArr st xs)):wpS (model prog w) A E s (binarySort' lo n ok) Q st:=by
 have hst:st=setArr st (arrOf st):=rfl
 rw [hst]
 generalize hx0:arrOf st=x0 at *
 refine wpS_bind (wpS_mono (wpS_forRange (I:=fun k c st'=>c=(none,())∧∃ xs,st'=setArr st xs∧Chg x0 xs lo (lo+n)∧SegK κ xs lo (lo+min k n))
  (Q:=fun c st'=>c=(none,())∧∃ xs,st'=setArr st xs∧Chg x0 xs lo (lo+n)∧SegK κ xs lo (lo+n)) ?step ?fin ?init) ?post)
 case post =>
  rintro c st' ⟨rfl,xs,rfl,hc,hs'⟩
  exact wpS_pure (h xs hc hs')
 case init =>
  refine ⟨rfl,x0,rfl,Chg.refl _ _ _,fun i j l1 hij hj=>?_⟩
  by_cases h1:ok=0
  · have:i=j:=by omega
    subst this; exact KeyOrd.kle_refl _
  · exact hs i j l1 hij (by omega)
 case fin =>
  rintro c st' ⟨hc,xs,e,hB',hs'⟩
  refine ⟨hc,xs,e,hB',?_⟩
  rwa [show min (max (max ok 1) n) n=n by omega] at hs'
 case step =>
  rintro k c st' hak hkn ⟨rfl,xs,rfl,hB',hs'⟩
  rw [show min k n=k by omega] at hs'
  have hsz:=hB'.size
  have hKx:=hK.chg hB'
  dsimp only
  refine wpS_bind (wpS_mono (wpS_forRange (I:=fun x c st''=>st''=setArr st xs∧∃ l r,c=(none,l,r)∧l≤r∧r≤k∧r - l≤k - x ∧
    (∀ i,lo≤i→i < lo+l→κ.kle (KK κ xs i) (KK κ xs (lo+k)))∧(∀ i,lo+r≤i→i < lo+k→κ.klt (KK κ xs (lo+k)) (KK κ xs i)))
   (Q:=fun c st''=>st''=setArr st xs∧∃ l r,c=(none,l,r)∧l≤k ∧
    (∀ i,lo≤i→i < lo+l→κ.kle (KK κ xs i) (KK κ xs (lo+k)))∧(∀ i,lo+l≤i→i < lo+k→κ.klt (KK κ xs (lo+k)) (KK κ xs i))) ?istep ?ifin ?iinit) ?ipost)
  case iinit=>exact ⟨rfl,0,k,rfl,by omega,by omega,by omega,fun i a b=>by omega,fun i a b=>by omega⟩
  case ifin =>
   rintro c st'' ⟨rfl,l,r,rfl,hlr,hrk,hm,hlo,hhi⟩
   have:l=r:=by omega
   subst this
   exact ⟨rfl,l,l,rfl,hrk,hlo,hhi⟩
  case istep =>
   rintro x c st'' _ hxk ⟨rfl,l,r,rfl,hlr,hrk,hm,hlo,hhi⟩
   dsimp only
   refine wpS_ite (fun hge=>?_) (fun hge=>?_)
   · have:l=r:=by omega
     subst this
     exact wpS_pure ⟨rfl,l,l,rfl,hrk,hlo,hhi⟩
   · have hlt:=Nat.lt_of_not_le hge
     have hf:=half_in hlt
     refine wpS_bind (wpS_ltAt2 hL xs rfl hk hKx (by omega) (by omega) ?_)
     dsimp only
     cases hless:κ.blt (KK κ xs (lo+k)) (KK κ xs (lo+(l+r) / 2)) with
     | true =>
      rw [if_pos rfl]
      refine wpS_pure ⟨rfl,l,(l+r) / 2,rfl,hf.1,Nat.le_trans (Nat.le_of_lt hf.2) hrk,less_one (Nat.sub_lt_sub_right hf.1 hf.2) hm,hlo,fun i a b=>?_⟩
      exact KeyOrd.klt_of_klt_of_kle hless (hs' _ _ (by omega) a (by omega))
     | false =>
      rw [if_neg Bool.false_ne_true]
      refine wpS_pure ⟨rfl,(l+r) / 2+1,r,rfl,hf.2,hrk,less_one (Nat.sub_lt_sub_left hlt (Nat.lt_succ_of_le hf.1)) hm,fun i a b=>?_,hhi⟩
      exact KeyOrd.kle_trans (hs' i (lo+(l+r) / 2) a (by omega) (by omega)) (show κ.kle _ _ from hless)
  case ipost =>
   rintro c st'' ⟨rfl,l,r,rfl,hlk,hlo,hhi⟩
   dsimp only
   show wpS _ _ _ _ (do moveDown' (lo+k) (lo+l); pure (ForInStep.yield (none,()))) _ _
   rw [moveDown'_eq]
   refine wpS_bind (wpS_modify (wpS_pure ⟨rfl,bubble xs (lo+k) (lo+k - (lo+l)),rfl,hB'.trans (Chg.bubble (by omega) (by omega) (by omega) (by omega)),?_⟩))
   rw [show min (k+1) n=k+1 by omega]
   intro i j l1 hij hj
   rw [KK_bubble (by omega) (by omega),KK_bubble (by omega) (by omega),show lo+k - (lo+k - (lo+l))=lo+l from Nat.sub_sub_self (Nat.add_le_add_left hlk lo)]
   repeat' split
   all_goals first
    | (exfalso; omega)
    | exact KeyOrd.kle_refl _
    | exact hlo _ (by omega) (by omega)
    | exact KeyOrd.kle_of_klt (hhi _ (by omega) (by omega))
    | exact hs' _ _ (by omega) (by omega) (by omega)
end
def sg (xs:Array Keyed) (lo hi:Nat):List Keyed:=(xs.toList.drop lo).take (hi - lo)
theorem sg_app (xs:Array Keyed) {a b c:Nat} (h1:a≤b) (h2:b≤c):sg xs a b ++ sg xs b c=sg xs a c:=by
 unfold sg
 have e:xs.toList.drop b=(xs.toList.drop a).drop (b - a):=by rw [List.drop_drop]; congr 1; omega
 rw [e,show c - a=(b - a)+(c - b) by omega,List.take_add]
theorem sg_len {xs:Array Keyed} {a b:Nat} (h:b≤xs.size):(sg xs a b).length=b - a:=by
 unfold sg
 rw [List.length_take,List.length_drop,Array.length_toList]
 omega
theorem sg_at {xs:Array Keyed} {a b:Nat} {p:Keyed} (h:p∈sg xs a b):∃ j,a≤j∧j < b∧xs[j]? = some p:=by
 obtain ⟨j,hj,e⟩:=take_at h
 exact ⟨a+j,by omega,by omega,e⟩
theorem sg_get {xs:Array Keyed} {a b i:Nat} (h:i < b - a):(sg xs a b)[i]? = xs[a+i]?:=by
 unfold sg
 rw [List.getElem?_take_of_lt h,List.getElem?_drop]
 simp
theorem seg_srt {κ:KD} {xs:Array Keyed} {a b:Nat} (hb:b≤xs.size):SegK κ xs a b↔Srt κ (sg xs a b):=by
 constructor
 · intro h
   refine List.pairwise_iff_getElem.mpr fun i j hi hj hij=>?_
   have hl:=sg_len (a:=a) hb
   have ei:xs[a+i]? = some (sg xs a b)[i]:=by rw [←sg_get (b:=b) (by omega),List.getElem?_eq_getElem hi]
   have ej:xs[a+j]? = some (sg xs a b)[j]:=by rw [←sg_get (b:=b) (by omega),List.getElem?_eq_getElem hj]
   have:=h (a+i) (a+j) (by omega) (by omega) (by omega)
   rw [KK_at ei,KK_at ej] at this
   exact this
 · intro h i j h1 h2 h3
   obtain ⟨p,ep,_⟩:=mem_at (a:=xs) (i:=i) (by omega)
   obtain ⟨q,eq,_⟩:=mem_at (a:=xs) (i:=j) (by omega)
   rw [KK_at ep,KK_at eq]
   by_cases hij:i=j
   · subst hij
     rw [ep] at eq
     cases eq
     exact KeyOrd.kle_refl _
   · have hl:=sg_len (a:=a) hb
     have z:=List.pairwise_iff_getElem.mp h (i - a) (j - a) (by omega) (by omega) (by omega)
     have e1:(sg xs a b)[i - a]'(by omega)=p:=by
      have:(sg xs a b)[i - a]? = some p:=by rw [sg_get (by omega),show a+(i - a)=i by omega]; exact ep
      rw [List.getElem?_eq_getElem (by omega)] at this
      exact Option.some.inj this
     have e2:(sg xs a b)[j - a]'(by omega)=q:=by
      have:(sg xs a b)[j - a]? = some q:=by rw [sg_get (by omega),show a+(j - a)=j by omega]; exact eq
      rw [List.getElem?_eq_getElem (by omega)] at this
      exact Option.some.inj this
     rw [e1,e2] at z
     exact z
def wr (base:Nat) (l:List Keyed) (a:Array Keyed):Array Keyed:=l.zipIdx.foldl (fun a x=>a.setIfInBounds (base+x.2) x.1) a
theorem wr_get (base:Nat):∀ (l:List Keyed) (off:Nat) (a:Array Keyed) (k:Nat),((l.zipIdx off).foldl (fun a x=>a.setIfInBounds (base+x.2) x.1) a).size=a.size ∧
  ((l.zipIdx off).foldl (fun a x=>a.setIfInBounds (base+x.2) x.1) a)[k]? = if base+off≤k∧k < base+off+l.length∧k < a.size then l[k - base - off]? else a[k]?
 | [],off,a,k=>by
  refine ⟨rfl,?_⟩
  rw [if_neg (by simp only [List.length_nil]; omega)]
  rfl
 | p::l,off,a,k=>by
  rw [List.zipIdx_cons,List.foldl_cons]
  obtain ⟨h1,h2⟩:=wr_get base l (off+1) (a.setIfInBounds (base+off) p) k
  refine ⟨h1.trans (Array.size_setIfInBounds ..),?_⟩
  rw [h2,Array.size_setIfInBounds]
  by_cases hk:k < a.size
  · by_cases c1:base+(off+1)≤k∧k < base+(off+1)+l.length∧k < a.size
    · rw [if_pos c1,if_pos (by simp only [List.length_cons]; omega),show k - base - off=(k - base - (off+1))+1 by omega,List.getElem?_cons_succ]
    · rw [if_neg c1]
      by_cases c2:k=base+off
      · subst c2
        rw [if_pos (by simp only [List.length_cons]; omega),show base+off - base - off=0 by omega,List.getElem?_cons_zero,Array.getElem?_setIfInBounds_self_of_lt hk]
      · rw [if_neg (by simp only [List.length_cons]; omega),Array.getElem?_setIfInBounds_ne (by omega)]
  · rw [if_neg (by omega),if_neg (by omega)]
    rw [Array.getElem?_eq_none (by rw [Array.size_setIfInBounds]; omega),Array.getElem?_eq_none (by omega)]
theorem wr_list {base:Nat} {l:List Keyed} {a:Array Keyed} (h:base+l.length≤a.size):(wr base l a).toList=a.toList.take base ++ (l ++ a.toList.drop (base+l.length)):=by
 refine List.ext_getElem? fun k=>?_
 have:=(wr_get base l 0 a k).2
 have e:(wr base l a).toList[k]? = (wr base l a)[k]?:=by simp
 rw [e]
 unfold wr
 rw [this]
 have hla:a.toList.length=a.size:=Array.length_toList
 by_cases c1:k < base
 · rw [if_neg (by omega),List.getElem?_append_left (by rw [List.length_take]; omega),List.getElem?_take_of_lt c1]
   simp
 · rw [List.getElem?_append_right (by rw [List.length_take]; omega),List.length_take,show min base a.toList.length=base by omega]
   by_cases c2:k < base+l.length
   · rw [if_pos (by omega),List.getElem?_append_left (by omega),Nat.sub_zero]
   · rw [if_neg (by omega),List.getElem?_append_right (by omega),List.getElem?_drop,show base+l.length+(k - base - l.length)=k by omega]
     simp
theorem wr_size {base:Nat} {l:List Keyed} {a:Array Keyed}:(wr base l a).size=a.size:=(wr_get base l 0 a 0).1
section
variable {prog:Program} {w:World} {A:Around} {E:Value→Shared→Prop} {s:Shared} {κ:KD} {kd:SortKind}
theorem wpS_set {st st':SortSt} {Q:PUnit→SortSt→Prop} (h:Q ⟨⟩ st'):wpS (model prog w) A E s (set st':StateT SortSt Sem PUnit) Q st:=by
 unfold wpS; rw [StateT.run_set]; exact wpAny_pure ⟨rfl,h⟩
abbrev stP (st:SortSt) (xs:Array Keyed) (p:Array (Nat×Nat×Nat)) (g:Nat):SortSt:=SortSt.mk' (kindOf st) xs p g (failedOf st)
theorem merged_ok {x0:Array Keyed} {sa sb k n nb:Nat} {r:Array Keyed} (h1:sa+k≤sb) (h2:n≤nb) (hz:sb+nb≤x0.size) (sA:SegK κ x0 sa sb) (sB:SegK κ x0 sb (sb+nb))
  (hF:∀ i,i < k→∀ j,j < nb→κ.kle (KK κ x0 (sa+i)) (KK κ x0 (sb+j))) (hR:∀ i,sa≤i→i < sb→∀ j,n≤j→j < nb→κ.kle (KK κ x0 i) (KK κ x0 (sb+j)))
  (hm:Merged κ (x0.extract (sa+k) sb) (x0.extract sb (sb+n)) r):Chg x0 (wr (sa+k) r.toList x0) sa (sb+nb)∧SegK κ (wr (sa+k) r.toList x0) sa (sb+nb):=by
 obtain ⟨ms,mp⟩:=hm
 rw [ext_mid,ext_mid] at mp
 have mp':r.toList.Perm (sg x0 (sa+k) sb ++ sg x0 sb (sb+n)):=mp
 have hl:r.toList.length=sb+n - (sa+k):=by
  rw [mp'.length_eq,List.length_append,sg_len (by omega),sg_len (by omega)]
  omega
 have el:=wr_list (base:=sa+k) (l:=r.toList) (a:=x0) (by omega)
 rw [hl,Nat.add_sub_of_le (Nat.le_trans h1 (Nat.le_add_right _ _))] at el
 have t1:x0.toList.take (sa+k)=x0.toList.take sa ++ sg x0 sa (sa+k):=by
  unfold sg
  rw [Nat.add_sub_cancel_left,←List.take_add]
 have t2:x0.toList.drop (sb+n)=sg x0 (sb+n) (sb+nb) ++ x0.toList.drop (sb+nb):=by
  unfold sg
  have:x0.toList.drop (sb+nb)=(x0.toList.drop (sb+n)).drop (sb+nb - (sb+n)):=by rw [List.drop_drop]; congr 1; omega
  rw [this,List.take_append_drop]
 have t0:x0.toList=x0.toList.take sa ++ (sg x0 sa (sb+nb) ++ x0.toList.drop (sb+nb)):=by
  have:x0.toList.drop (sb+nb)=(x0.toList.drop sa).drop (sb+nb - sa):=by rw [List.drop_drop]; congr 1; omega
  unfold sg
  rw [this,List.take_append_drop,List.take_append_drop]
 have F:=sg x0 sa (sa+k)
 have el2:(wr (sa+k) r.toList x0).toList=x0.toList.take sa ++ ((sg x0 sa (sa+k) ++ (r.toList ++ sg x0 (sb+n) (sb+nb))) ++ x0.toList.drop (sb+nb)):=by
  rw [el,t1,t2]
  simp only [List.append_assoc]
 have s0:sg x0 sa (sb+nb)=sg x0 sa (sa+k) ++ ((sg x0 (sa+k) sb ++ sg x0 sb (sb+n)) ++ sg x0 (sb+n) (sb+nb)):=by
  rw [sg_app x0 h1 (by omega),sg_app x0 (by omega) (by omega),sg_app x0 (by omega) (by omega)]
 have lf:(x0.toList.take sa).length=sa:=by rw [List.length_take,Array.length_toList]; omega
 have lm:(sg x0 sa (sa+k) ++ (r.toList ++ sg x0 (sb+n) (sb+nb))).length=sb+nb - sa:=by
  rw [List.length_append,List.length_append,hl,sg_len (by omega),sg_len (by omega)]
  omega
 refine ⟨⟨?_,fun i hi=>?_⟩,?_⟩
 · refine Array.perm_iff_toList_perm.mpr ?_
   rw [el2]
   conv=>rhs; rw [t0,s0]
   exact List.Perm.append_left _ (List.Perm.append_right _ (List.Perm.append_left _ (mp'.append_right _)))
 · have e1:(wr (sa+k) r.toList x0)[i]? = (wr (sa+k) r.toList x0).toList[i]?:=by simp
   have e2:x0[i]? = x0.toList[i]?:=by simp
   rw [e1,e2,el2]
   conv=>rhs; rw [t0]
   rcases hi with hi | hi
   · rw [List.getElem?_append_left (by omega),List.getElem?_append_left (by omega)]
   · rw [List.getElem?_append_right (by omega),List.getElem?_append_right (by omega),List.getElem?_append_right (by omega),List.getElem?_append_right (by rw [sg_len hz]; omega),lf,lm,sg_len hz]
 · rw [seg_srt (by rw [wr_size]; exact hz)]
   have e3:sg (wr (sa+k) r.toList x0) sa (sb+nb)=sg x0 sa (sa+k) ++ (r.toList ++ sg x0 (sb+n) (sb+nb)):=by
    conv=>lhs; unfold sg
    rw [el2,List.drop_left' lf,List.take_left' lm]
   rw [e3]
   have sA':=(seg_srt (by omega)).mp sA
   have sB':=(seg_srt hz).mp sB
   rw [←sg_app x0 (a:=sa) (b:=sa+k) (c:=sb) (by omega) h1] at sA'
   rw [←sg_app x0 (a:=sb) (b:=sb+n) (c:=sb+nb) (by omega) (by omega)] at sB'
   obtain ⟨a1,a2,a3⟩:=List.pairwise_append.mp sA'
   obtain ⟨b1,b2,b3⟩:=List.pairwise_append.mp sB'
   have FB:∀ p∈sg x0 sa (sa+k),∀ q∈sg x0 sb (sb+nb),KL κ p q:=fun p hp q hq=>by
    obtain ⟨i,i1,i2,ei⟩:=sg_at hp
    obtain ⟨j,j1,j2,ej⟩:=sg_at hq
    have:=hF (i - sa) (by omega) (j - sb) (by omega)
    rw [show sa+(i - sa)=i by omega,show sb+(j - sb)=j by omega,KK_at ei,KK_at ej] at this
    exact this
   have AR:∀ p∈sg x0 (sa+k) sb,∀ q∈sg x0 (sb+n) (sb+nb),KL κ p q:=fun p hp q hq=>by
    obtain ⟨i,i1,i2,ei⟩:=sg_at hp
    obtain ⟨j,j1,j2,ej⟩:=sg_at hq
    have:=hR i (by omega) (by omega) (j - sb) (by omega) (by omega)
    rw [show sb+(j - sb)=j by omega,KK_at ei,KK_at ej] at this
    exact this
   have memB:∀ q,q∈sg x0 sb (sb+n)∨q∈sg x0 (sb+n) (sb+nb)→q∈sg x0 sb (sb+nb):=fun q hq=>by
    rw [←sg_app x0 (a:=sb) (b:=sb+n) (c:=sb+nb) (by omega) (by omega)]
    exact List.mem_append.mpr hq
   refine List.pairwise_append.mpr ⟨a1,List.pairwise_append.mpr ⟨ms,b2,fun p hp q hq=>?_⟩,fun p hp q hq=>?_⟩
   · rcases List.mem_append.mp (mp'.mem_iff.mp hp) with z | z
     · exact AR p z q hq
     · exact b3 p z q hq
   · rcases List.mem_append.mp hq with z | z
     · rcases List.mem_append.mp (mp'.mem_iff.mp z) with y | y
       · exact a3 p hp q y
       · exact FB p hp q (memB q (.inl y))
     · exact FB p hp q (memB q (.inr z))
theorem wpS_mergeAt2 (hL:LtOk prog w A E s κ kd) {st:SortSt} {i sa na nb pa pb:Nat} {Q:Bool→SortSt→Prop} (hk:kindOf st=kd) (hK:AllKeys κ (arrOf st)) (hf:failedOf st=none)
  (e1:(pendingOf st)[i]? = some (sa,na,pa)) (e2:(pendingOf st)[i+1]? = some (sa+na,nb,pb)) (ha:1≤na) (hb:1≤nb) (hz:sa+na+nb≤(arrOf st).size) (sA:SegK κ (arrOf st) sa (sa+na)) (sB:SegK κ (arrOf st) (sa+na) (sa+na+nb))
  (h:∀ xs g,Chg (arrOf st) xs sa (sa+na+nb)→SegK κ xs sa (sa+na+nb)→Q true (stP st xs (((pendingOf st).setIfInBounds i (sa,na+nb,pa)).eraseIdxIfInBounds (i+1)) g)) :
  wpS (model prog w) A E s (mergeAt' i) Q st:=by
 refine wpS_bind (wpS_get ?_)
 dsimp only
 have e1':=e1
 have e2':=e2
 unfold pendingOf at e1' e2'
 rw [e1',e2']
 dsimp only
 obtain ⟨b0,eb0,_,mb0,_⟩:=mem_at (a:=arrOf st) (i:=sa+na) (by omega)
 refine wpS_bind (wpS_set ?_)
 refine wpS_bind (wpS_elem eb0 ?_)
 have kAt:∀ j,j < (arrOf st).size→∃ p,(arrOf st)[j]? = some p∧∃ a,κ.keyOf p.1=some a:=fun j hj=>by
  obtain ⟨p,ep,_,mp,_⟩:=mem_at hj
  exact ⟨p,ep,hK p mp⟩
 refine wpS_bind (wpS_gallopR (st:=stP st (arrOf st) (((pendingOf st).setIfInBounds i (sa,na+nb,pa)).eraseIdxIfInBounds (i+1)) (gallopOf st)) hL hk (hK b0 mb0) (fun j hj=>kAt _ (by omega)) (by omega) (fun x y hxy hy=>sA _ _ (by omega) (by omega) (by omega)) (fun k hk1 hle hgt=>?_))
 rw [←KK_at (κ:=κ) eb0] at hle hgt
 dsimp only
 have hF:∀ i,i < k→∀ j,j < nb→κ.kle (KK κ (arrOf st) (sa+i)) (KK κ (arrOf st) (sa+na+j)):=fun i hi j hj=>KeyOrd.kle_trans (hle i hi) (sB _ _ (Nat.le_refl _) (by omega) (by omega))
 refine wpS_ite (fun c=>wpS_pure ?_) (fun c=>?_)
 · have c':na - k=0:=by simpa using c
   refine h (arrOf st) (gallopOf st) (Chg.refl _ _ _) fun i j l1 hij hj=>?_
   by_cases hi:j < sa+na
   · exact sA i j l1 hij hi
   · by_cases hi2:i < sa+na
     · have:=hF (i - sa) (by omega) (j - (sa+na)) (by omega)
       rw [show sa+(i - sa)=i by omega,show sa+na+(j - (sa+na))=j by omega] at this
       exact this
     · exact sB i j (by omega) hij hj
 have c':¬ na - k=0:=by simpa using c
 have el:sa+k+(na - k) - 1=sa+na - 1:=by rw [Nat.add_assoc,Nat.add_sub_of_le hk1]
 rw [el]
 obtain ⟨al,eal,_,mal,_⟩:=mem_at (a:=arrOf st) (i:=sa+na - 1) (by omega)
 refine wpS_bind (wpS_elem eal ?_)
 refine wpS_bind (wpS_gallopL (st:=stP st (arrOf st) (((pendingOf st).setIfInBounds i (sa,na+nb,pa)).eraseIdxIfInBounds (i+1)) (gallopOf st)) hL hk (hK al mal) (fun j hj=>kAt _ (by omega)) (by omega) (fun x y hxy hy=>sB _ _ (by omega) (by omega) (by omega)) (fun n hn1 hlt hge=>?_))
 rw [←KK_at (κ:=κ) eal] at hlt hge
 dsimp only
 have hR:∀ i,sa≤i→i < sa+na→∀ j,n≤j→j < nb→κ.kle (KK κ (arrOf st) i) (KK κ (arrOf st) (sa+na+j)):=fun i l1 l2 j l3 l4=>KeyOrd.kle_trans (sA _ _ l1 (by omega) (by omega)) (hge j l3 l4)
 refine wpS_ite (fun c=>wpS_pure ?_) (fun c2=>?_)
 · have c2':n=0:=by simpa using c
   refine h (arrOf st) (gallopOf st) (Chg.refl _ _ _) fun i j l1 hij hj=>?_
   by_cases hi:j < sa+na
   · exact sA i j l1 hij hi
   · by_cases hi2:i < sa+na
     · have:=hR i l1 hi2 (j - (sa+na)) (by omega) (by omega)
       rw [show sa+na+(j - (sa+na))=j by omega] at this
       exact this
     · exact sB i j (by omega) hij hj
 have c2':¬ n=0:=by simpa using c2
 have lx:((arrOf st).extract (sa+k) (sa+na)).toList=sg (arrOf st) (sa+k) (sa+na):=ext_mid _ _ _
 have ly:((arrOf st).extract (sa+na) (sa+na+n)).toList=sg (arrOf st) (sa+na) (sa+na+n):=ext_mid _ _ _
 have kx:∀ p∈((arrOf st).extract (sa+k) (sa+na)).toList,∃ x,κ.keyOf p.1=some x:=fun p hp=>by
  rw [lx] at hp
  exact hK p (List.mem_of_mem_drop (List.mem_of_mem_take hp))
 have ky:∀ p∈((arrOf st).extract (sa+na) (sa+na+n)).toList,∃ x,κ.keyOf p.1=some x:=fun p hp=>by
  rw [ly] at hp
  exact hK p (List.mem_of_mem_drop (List.mem_of_mem_take hp))
 have sx:Srt κ ((arrOf st).extract (sa+k) (sa+na)).toList:=by
  rw [lx,←seg_srt (by omega)]
  exact fun i j l1 l2 l3=>sA i j (by omega) l2 l3
 have sy:Srt κ ((arrOf st).extract (sa+na) (sa+na+n)).toList:=by
  rw [ly,←seg_srt (by omega)]
  exact fun i j l1 l2 l3=>sB i j l1 l2 (by omega)
 have zx:((arrOf st).extract (sa+k) (sa+na)).size=na - k:=by rw [Array.size_extract,Nat.min_eq_left (Nat.le_trans (Nat.le_add_right _ _) hz),Nat.add_sub_add_left]
 have zy:((arrOf st).extract (sa+na) (sa+na+n)).size=n:=by rw [Array.size_extract,Nat.min_eq_left (Nat.le_trans (Nat.add_le_add_left hn1 _) hz),Nat.add_sub_cancel_left]
 have fst':∀ q,((arrOf st).extract (sa+na) (sa+na+n))[0]? = some q→∀ p∈((arrOf st).extract (sa+k) (sa+na)).toList,KL κ q p:=fun q hq p hp=>by
  rw [lx] at hp
  obtain ⟨j,j1,j2,ej⟩:=sg_at hp
  have hq':(arrOf st)[sa+na]? = some q:=by
   have:((arrOf st).extract (sa+na) (sa+na+n)).toList[0]? = some q:=by rw [Array.getElem?_toList]; exact hq
   rw [ly,sg_get (by omega),Nat.add_zero] at this
   exact this
  have:=hgt (j - sa) (by omega) (by omega)
  rw [show sa+(j - sa)=j by omega,KK_at ej,KK_at hq'] at this
  exact KeyOrd.kle_of_klt this
 have lst:∀ q∈((arrOf st).extract (sa+na) (sa+na+n)).toList,∀ p∈((arrOf st).extract (sa+k) (sa+na)).toList.drop (((arrOf st).extract (sa+k) (sa+na)).size - 1),KL κ q p:=fun q hq p hp=>by
  rw [ly] at hq
  obtain ⟨j,j1,j2,ej⟩:=sg_at hq
  rw [lx,zx] at hp
  obtain ⟨m,hm,em⟩:=List.getElem_of_mem hp
  have hm0:m=0:=by
   rw [List.length_drop,sg_len (Nat.le_trans (Nat.le_add_right _ _) hz),Nat.add_sub_add_left,Nat.sub_sub_self (Nat.pos_of_ne_zero c')] at hm
   exact Nat.lt_one_iff.mp hm
  subst hm0
  have em':(List.drop (na - k - 1) (sg (arrOf st) (sa+k) (sa+na)))[0]? = some p:=by rw [List.getElem?_eq_getElem hm,em]
  rw [List.getElem?_drop,Nat.add_zero,sg_get (by omega),(Nat.add_sub_assoc (Nat.pos_of_ne_zero c') _).symm.trans el] at em'
  have:=hlt (j - (sa+na)) (by omega)
  rw [show sa+na+(j - (sa+na))=j by omega,KK_at ej,KK_at em'] at this
  exact KeyOrd.kle_of_klt this
 have fin:∀ r,Merged κ ((arrOf st).extract (sa+k) (sa+na)) ((arrOf st).extract (sa+na) (sa+na+n)) r→∀ g,Q true (stP st (wr (sa+k) r.toList (arrOf st)) (((pendingOf st).setIfInBounds i (sa,na+nb,pa)).eraseIdxIfInBounds (i+1)) g):=fun r hr g=>by
  obtain ⟨m1,m2⟩:=merged_ok (κ:=κ) (x0:=arrOf st) (sa:=sa) (sb:=sa+na) (k:=k) (n:=n) (nb:=nb) (by omega) hn1 hz sA sB hF hR hr
  exact h _ g m1 m2
 refine wpS_ite (fun _=>?_) (fun _=>?_)
 · refine wpS_bind (wpS_mergeLo (st:=stP st (arrOf st) (((pendingOf st).setIfInBounds i (sa,na+nb,pa)).eraseIdxIfInBounds (i+1)) (gallopOf st)) hL hk kx ky sx sy (by rw [zx]; omega) (by rw [zy]; omega) fst' lst fun r g hr=>?_)
   refine wpS_bind (wpS_modify (wpS_bind (wpS_get (wpS_pure ?_))))
   have:=fin r hr g
   have hn:(failedOf (stP st (wr (sa+k) r.toList (arrOf st)) (((pendingOf st).setIfInBounds i (sa,na+nb,pa)).eraseIdxIfInBounds (i+1)) g)).isNone=true:=by
    show (failedOf st).isNone=true
    rw [hf]; rfl
   rw [←hn] at this
   exact this
 · refine wpS_bind (wpS_mergeHi (st:=stP st (arrOf st) (((pendingOf st).setIfInBounds i (sa,na+nb,pa)).eraseIdxIfInBounds (i+1)) (gallopOf st)) hL hk kx ky sx sy (by rw [zx]; omega) (by rw [zy]; omega) fst' lst fun r g hr=>?_)
   refine wpS_bind (wpS_modify (wpS_bind (wpS_get (wpS_pure ?_))))
   have:=fin r hr g
   have hn:(failedOf (stP st (wr (sa+k) r.toList (arrOf st)) (((pendingOf st).setIfInBounds i (sa,na+nb,pa)).eraseIdxIfInBounds (i+1)) g)).isNone=true:=by
    show (failedOf st).isNone=true
    rw [hf]; rfl
   rw [←hn] at this
   exact this
end
def Runs (κ:KD) (xs:Array Keyed):Nat→List (Nat×Nat)→Nat→Prop
 | lo,[],hi=>lo=hi
 | lo,(t,n)::r,hi=>t=lo∧1≤n∧SegK κ xs lo (lo+n)∧Runs κ xs (lo+n) r hi
theorem Runs.app {κ:KD} {xs:Array Keyed}:∀ {l r:List (Nat×Nat)} {lo hi:Nat},Runs κ xs lo (l ++ r) hi↔∃ m,Runs κ xs lo l m∧Runs κ xs m r hi
 | [],r,lo,hi=>⟨fun h=>⟨lo,rfl,h⟩,fun ⟨m,e,h⟩=>by
   have e':lo=m:=e
   subst e'
   exact h⟩
 | (t,n)::l,r,lo,hi=>by
  constructor
  · rintro ⟨h1,h2,h3,h4⟩
    obtain ⟨m,h5,h6⟩:=Runs.app.mp h4
    exact ⟨m,⟨h1,h2,h3,h5⟩,h6⟩
  · rintro ⟨m,⟨h1,h2,h3,h5⟩,h6⟩
    exact ⟨h1,h2,h3,Runs.app.mpr ⟨m,h5,h6⟩⟩
theorem Runs.le {κ:KD} {xs:Array Keyed}:∀ {l:List (Nat×Nat)} {lo hi:Nat},Runs κ xs lo l hi→lo+l.length≤hi
 | [],lo,hi,h=>by have:lo=hi:=h; simp; omega
 | (t,n)::l,lo,hi,⟨h1,h2,h3,h4⟩=>by have:=Runs.le h4; simp; omega
theorem Runs.chg {κ:KD} {x y:Array Keyed} {a b:Nat} (c:Chg x y a b):∀ {l:List (Nat×Nat)} {lo hi:Nat},Runs κ x lo l hi→(hi≤a∨b≤lo)→Runs κ y lo l hi
 | [],lo,hi,h,_=>h
 | (t,n)::l,lo,hi,⟨h1,h2,h3,h4⟩,hd=>by
  have:=Runs.le h4
  exact ⟨h1,h2,h3.chg c (by omega),Runs.chg c h4 (by omega)⟩
def pj (p:Array (Nat×Nat×Nat)):List (Nat×Nat):=p.toList.map fun t=>(t.1,t.2.1)
theorem pj_push (p:Array (Nat×Nat×Nat)) (t:Nat×Nat×Nat):pj (p.push t)=pj p ++ [(t.1,t.2.1)]:=by
 unfold pj
 rw [Array.toList_push,List.map_append]
 rfl
theorem pj_modify (p:Array (Nat×Nat×Nat)) (i pw:Nat):pj (p.modify i fun x=>(x.1,x.2.1,pw))=pj p:=by
 unfold pj
 refine List.ext_getElem? fun k=>?_
 rw [List.getElem?_map,List.getElem?_map,Array.getElem?_toList,Array.getElem?_toList,Array.getElem?_modify]
 split
 · cases p[k]? <;> rfl
 · rfl
theorem pj_len (p:Array (Nat×Nat×Nat)):(pj p).length=p.size:=by unfold pj; rw [List.length_map,Array.length_toList]
theorem pj_split {p:Array (Nat×Nat×Nat)} {i:Nat} (h:i+1 < p.size):∃ l r sa na pa sb nb pb,p[i]? = some (sa,na,pa)∧p[i+1]? = some (sb,nb,pb)∧pj p=l ++ (sa,na)::(sb,nb)::r ∧
  (∀ na',pj ((p.setIfInBounds i (sa,na',pa)).eraseIdxIfInBounds (i+1))=l ++ (sa,na')::r)∧∀ na',((p.setIfInBounds i (sa,na',pa)).eraseIdxIfInBounds (i+1)).size=p.size - 1:=by
 have hl:p.toList.length=p.size:=Array.length_toList
 obtain ⟨⟨sa,na,pa⟩,ea⟩:∃ t,p.toList[i]? = some t:=⟨_,List.getElem?_eq_getElem (by omega)⟩
 obtain ⟨⟨sb,nb,pb⟩,eb⟩:∃ t,p.toList[i+1]? = some t:=⟨_,List.getElem?_eq_getElem (by omega)⟩
 have d1:p.toList=p.toList.take i ++ (sa,na,pa)::(sb,nb,pb)::p.toList.drop (i+2):=by
  obtain ⟨h1,e1⟩:=List.getElem?_eq_some_iff.mp ea
  obtain ⟨h2,e2⟩:=List.getElem?_eq_some_iff.mp eb
  have:p.toList.drop i=(sa,na,pa)::(sb,nb,pb)::p.toList.drop (i+2):=by
   rw [List.drop_eq_getElem_cons h1,e1,List.drop_eq_getElem_cons h2,e2]
  rw [←this,List.take_append_drop]
 have lt:(p.toList.take i).length=i:=by rw [List.length_take]; omega
 have pp:pj p=(p.toList.take i).map (fun t=>(t.1,t.2.1)) ++ (sa,na)::(sb,nb)::(p.toList.drop (i+2)).map fun t=>(t.1,t.2.1):=by
  unfold pj
  conv=>lhs; rw [d1]
  rw [List.map_append,List.map_cons,List.map_cons]
 have main:∀ na',pj ((p.setIfInBounds i (sa,na',pa)).eraseIdxIfInBounds (i+1))=(p.toList.take i).map (fun t=>(t.1,t.2.1)) ++ (sa,na')::(p.toList.drop (i+2)).map fun t=>(t.1,t.2.1):=by
  intro na'
  unfold pj
  have e:((p.setIfInBounds i (sa,na',pa)).eraseIdxIfInBounds (i+1)).toList=p.toList.take i ++ (sa,na',pa)::p.toList.drop (i+2):=by
   rw [Array.toList_eraseIdxIfInBounds,Array.toList_setIfInBounds]
   conv=>lhs; rw [d1]
   have e1:(p.toList.take i ++ (sa,na,pa)::(sb,nb,pb)::p.toList.drop (i+2)).set i (sa,na',pa)=p.toList.take i ++ (sa,na',pa)::(sb,nb,pb)::p.toList.drop (i+2):=by
    rw [List.set_append_right _ _ (by omega),lt,Nat.sub_self]
    rfl
   rw [e1,List.eraseIdx_append_of_length_le (by omega),lt,show i+1 - i=1 by omega]
   rfl
  rw [e,List.map_append,List.map_cons]
 refine ⟨_,_,sa,na,pa,sb,nb,pb,by simpa using ea,by simpa using eb,pp,main,fun na'=>?_⟩
 rw [←pj_len,←pj_len,main,pp]
 simp only [List.length_append,List.length_cons]
 omega
section
variable {prog:Program} {w:World} {A:Around} {E:Value→Shared→Prop} {s:Shared} {κ:KD} {kd:SortKind}
theorem wpS_mergeRuns (hL:LtOk prog w A E s κ kd) {st:SortSt} {x0 xs:Array Keyed} {p:Array (Nat×Nat×Nat)} {g i hi:Nat} {Q:Bool→SortSt→Prop} (hk:kindOf st=kd) (hf:failedOf st=none) (hK:AllKeys κ x0) (hp:xs.Perm x0) (hR:Runs κ xs 0 (pj p) hi) (hz:hi≤x0.size) (h2:i+1 < p.size)
  (h:∀ xs' p' g',Chg xs xs' 0 hi→Runs κ xs' 0 (pj p') hi→p'.size=p.size - 1→Q true (stP st xs' p' g')):wpS (model prog w) A E s (mergeAt' i) Q (stP st xs p g):=by
 obtain ⟨l,r,sa,na,pa,sb,nb,pb,e1,e2,e3,e4,e5⟩:=pj_split h2
 rw [e3] at hR
 obtain ⟨m,r1,r2⟩:=Runs.app.mp hR
 obtain ⟨q1,q2,q3,q4,q5,q6,q7⟩:=r2
 subst q1 q4
 have hsz:xs.size=x0.size:=hp.size_eq
 have hle:=Runs.le q7
 have hK':AllKeys κ xs:=fun t ht=>hK t ((Array.perm_iff_toList_perm.mp hp).mem_iff.mp ht)
 refine wpS_mergeAt2 (st:=stP st xs p g) hL hk hK' hf e1 e2 q2 q5 (by show _≤xs.size; omega) q3 q6 fun ys g' hc hs=>?_
 refine h ys _ g' (hc.wide (Nat.zero_le _) (by omega)) ?_ (e5 _)
 rw [e4]
 refine Runs.app.mpr ⟨sa,Runs.chg hc r1 (.inl (Nat.le_refl _)),rfl,by omega,?_,?_⟩
 · rw [←Nat.add_assoc]; exact hs
 · have:=Runs.chg hc q7 (.inr (Nat.le_refl _))
   rw [←Nat.add_assoc]; exact this
theorem wpS_sortRuns2 (hL:LtOk prog w A E s κ kd) {st:SortSt} {Q:Unit→SortSt→Prop} (hk:kindOf st=kd) (hf:failedOf st=none) (hpe:pendingOf st=#[]) (hK:AllKeys κ (arrOf st))
  (h:∀ st',(arrOf st').Perm (arrOf st)→failedOf st'=none→SegK κ (arrOf st') 0 (arrOf st).size→Q () st'):wpS (model prog w) A E s sortRuns' Q st:=by
 refine wpS_bind (wpS_get ?_)
 dsimp only
 generalize hN:(arrOf st).size=N at *
 refine wpS_bind (wpS_mono (wpS_forRange (I:=fun x c st'=>∃ lo xs p g,c=(none,lo)∧st'=stP st xs p g∧xs.Perm (arrOf st)∧Runs κ xs 0 (pj p) lo∧lo≤N∧x≤lo)
  (Q:=fun c st'=>∃ xs p g,c=(none,N)∧st'=stP st xs p g∧xs.Perm (arrOf st)∧Runs κ xs 0 (pj p) N) ?step ?fin ⟨0,arrOf st,#[],gallopOf st,rfl,by rw [←hpe],Array.Perm.refl _,rfl,by omega,by omega⟩) ?post)
 case fin =>
  rintro c st' ⟨lo,xs,p,g,rfl,rfl,h1,h2,h3,h4⟩
  have:lo=N:=by omega
  subst this
  exact ⟨xs,p,g,rfl,rfl,h1,h2⟩
 case step =>
  rintro x c st' _ hx ⟨lo,xs,p,g,rfl,rfl,h1,h2,h3,h4⟩
  dsimp only
  have hsz:xs.size=N:=by rw [h1.size_eq,hN]
  have keys:∀ {ys:Array Keyed},ys.Perm (arrOf st)→AllKeys κ ys:=fun hy t ht=>hK t ((Array.perm_iff_toList_perm.mp hy).mem_iff.mp ht)
  refine wpS_ite (fun c=>wpS_pure ?_) (fun c=>?_)
  · have:lo=N:=by omega
    subst this
    exact ⟨xs,p,g,rfl,rfl,h1,h2⟩
  refine wpS_bind (wpS_countRun2 (st:=stP st xs p g) hL hk (keys h1) (by show _≤xs.size; omega) (by omega) fun m ys hc m1 m2 m3=>?_)
  have hy1:ys.Perm (arrOf st):=hc.perm.trans h1
  have hy2:Runs κ ys 0 (pj p) lo:=Runs.chg hc h2 (.inl (Nat.le_refl _))
  dsimp only
  generalize (sortPriv% PySem.Builtin.minRun) N N 0=mr
  have m2':lo+m≤N:=by omega
  refine wpS_ite (fun hlt=>wpS_bind (wpS_rule (wpS_bind (wpS_binarySort2 (st:=stP st ys p g) hL hk (keys hy1) (by show _≤ys.size; rw [hy1.size_eq,hN]; omega) (by omega) m3 fun zs hz1 hz2=>?_)))) (fun hlt=>?_)
  all_goals
   first
   | (simp only [Bool.not_true,Bool.false_eq_true,if_false]
      replace hy1:zs.Perm (arrOf st):=hz1.perm.trans hy1
      replace hy2:Runs κ zs 0 (pj p) lo:=Runs.chg hz1 hy2 (.inl (Nat.le_refl _))
      replace m1:1≤min (N - lo) mr:=by omega
      replace m2':lo+min (N - lo) mr≤N:=by omega
      replace m3:=hz2
      generalize min (N - lo) mr=n at m1 m2' m3 ⊢)
   | (generalize m=n at m1 m2' m3 ⊢
      generalize ys=zs at hy1 hy2 m3 ⊢)
  all_goals
   show wpS _ _ _ _ _ _ (stP st zs p g)
   refine wpS_bind (wpS_get ?_)
   dsimp only
   cases hb:p.back? with
   | none =>
    dsimp only
    refine wpS_bind (wpS_modify (wpS_pure ⟨lo+n,zs,p.push (lo,n,0),g,rfl,rfl,hy1,?_,m2',by omega⟩))
    rw [pj_push]
    exact Runs.app.mpr ⟨lo,hy2,rfl,m1,m3,rfl⟩
   | some t =>
    obtain ⟨s1,n1,pw0⟩:=t
    dsimp only
    refine wpS_bind (wpS_mono (wpS_forRange (I:=fun x c st'=>∃ xs p g,c=(none,())∧st'=stP st xs p g∧xs.Perm (arrOf st)∧Runs κ xs 0 (pj p) lo∧SegK κ xs lo (lo+n))
     (Q:=fun c st'=>∃ xs p g,c=(none,())∧st'=stP st xs p g∧xs.Perm (arrOf st)∧Runs κ xs 0 (pj p) lo∧SegK κ xs lo (lo+n)) ?_ ?_ ⟨zs,p,g,rfl,rfl,hy1,hy2,m3⟩) ?_)
    · rintro y c st' _ hy ⟨xs,p,g,rfl,rfl,h1,h2,h3⟩
      refine wpS_bind (wpS_get ?_)
      dsimp only
      by_cases hp:p.size > 1
      · rw [if_pos hp]
        obtain ⟨t,ht⟩:∃ t,p[p.size - 2]? = some t:=⟨_,getElem?_pos p (p.size - 2) (by omega)⟩
        obtain ⟨t1,t2,older⟩:=t
        rw [ht]
        dsimp only
        refine wpS_ite (fun _=>wpS_pure ⟨xs,p,g,rfl,rfl,h1,h2,h3⟩) (fun _=>?_)
        refine wpS_bind (wpS_mergeRuns hL hk hf hK h1 h2 (by omega) (by omega) fun xs' p' g' hc hr hs=>?_)
        simp only [Bool.not_true,Bool.false_eq_true,if_false]
        exact wpS_pure ⟨xs',p',g',rfl,rfl,hc.perm.trans h1,hr,h3.chg hc (.inr (Nat.le_refl _))⟩
      · rw [if_neg hp]
        exact wpS_pure ⟨xs,p,g,rfl,rfl,h1,h2,h3⟩
    · rintro c st' hh
      exact hh
    · rintro c st' ⟨xs,p,g,rfl,rfl,h1,h2,h3⟩
      dsimp only
      refine wpS_bind (wpS_modify (wpS_bind (wpS_modify (wpS_pure ⟨lo+n,xs,_,g,rfl,rfl,h1,?_,m2',by omega⟩))))
      rw [pj_push,pj_modify]
      exact Runs.app.mpr ⟨lo,h2,rfl,m1,h3,rfl⟩
 case post =>
  rintro c st' ⟨xs,p,g,rfl,rfl,h1,h2⟩
  dsimp only
  have keys:∀ {ys:Array Keyed},ys.Perm (arrOf st)→AllKeys κ ys:=fun hy t ht=>hK t ((Array.perm_iff_toList_perm.mp hy).mem_iff.mp ht)
  have hz:=Runs.le h2
  rw [pj_len] at hz
  refine wpS_bind (wpS_mono (wpS_forRange (I:=fun x c st'=>∃ xs p g,c=(none,())∧st'=stP st xs p g∧xs.Perm (arrOf st)∧Runs κ xs 0 (pj p) N∧(p.size≤1∨p.size+x≤N))
   (Q:=fun c st'=>∃ xs p g,c=(none,())∧st'=stP st xs p g∧xs.Perm (arrOf st)∧Runs κ xs 0 (pj p) N∧p.size≤1) ?step1 ?fin1 ⟨xs,p,g,rfl,rfl,h1,h2,.inr (by omega)⟩) ?post1)
  case fin1 =>
   rintro c st' ⟨xs,p,g,rfl,rfl,h1,h2,h3⟩
   exact ⟨xs,p,g,rfl,rfl,h1,h2,by omega⟩
  case step1 =>
   rintro x c st' _ hx ⟨xs,p,g,rfl,rfl,h1,h2,h3⟩
   refine wpS_bind (wpS_get ?_)
   dsimp only
   refine wpS_ite (fun c=>wpS_pure ⟨xs,p,g,rfl,rfl,h1,h2,c⟩) (fun c=>?_)
   have c':¬ p.size≤1:=c
   have hix:∀ {b c:Prop} [Decidable b],(if b then p.size - 2 - 1 else p.size - 2)+1 < p.size:=by
    intro b _ _
    split <;> omega
   refine wpS_bind (wpS_mergeRuns hL hk hf hK h1 h2 (by omega) (hix (c:=True)) fun xs' p' g' hc hr hs=>?_)
   simp only [Bool.not_true,Bool.false_eq_true,if_false]
   exact wpS_pure ⟨xs',p',g',rfl,rfl,hc.perm.trans h1,hr,by omega⟩
  case post1 =>
   rintro c st' ⟨xs,p,g,rfl,rfl,h1,h2,h3⟩
   refine wpS_pure (h _ h1 hf ?_)
   show SegK κ xs 0 N
   have hl:=pj_len p
   cases e:pj p with
   | nil =>
    rw [e] at h2
    have:0=N:=h2
    intro i j a b c
    omega
   | cons t r =>
    obtain ⟨a,n⟩:=t
    rw [e] at h2 hl
    obtain ⟨q1,q2,q3,q4⟩:=h2
    have hr:r=[]:=by
     cases r with
     | nil=>rfl
     | cons _ _=>simp at hl; omega
    subst hr
    have q4':0+n=N:=q4
    rw [q4'] at q3
    exact q3
end
section
variable {prog:Program} {w:World} {A:Around} {E:Value→Shared→Prop} {s:Shared} {κ:KD} {kd:SortKind}
def SortOk (prog:Program) (w:World) (A:Around) (E:Value→Shared→Prop) (s:Shared) (κ:KD) (kd:SortKind) (vs:List Value) (a:Addr):Prop :=
 ∀ h':Heap,(∀ b o,b≠a→s.heap.get? b=some o→h'.get? b=some o) →
  (2≤vs.length→∀ Q:SortKind→Shared→Prop,Q kd { s with heap:=h' }→wpAny (model prog w) A (keyKind' vs.toArray) Q E { s with heap:=h' })∧LtOk prog w A E { s with heap:=h' } κ kd
theorem sort_any {a:Addr} {vs:List Value} {n:Nat} {P:Fin→Shared→Prop} (ho:s.heap.get? a=some (seqObj "list" vs.toArray n)) (h1000:vs.length≤1000) (hK:AllKeys κ (pairsOf vs)) (hS:SortOk prog w A E s κ kd vs a)
  (h:∀ out:Array Keyed,out.Perm (pairsOf vs)→SegK κ out 0 vs.length→P (.done (.ret .none)) { s with heap:=sortedHeap s.heap a vs (out.map (·.2)) }) :
  wpAny (model prog w) A (Builtin.«list.sort» ⟨[.ref a],[]⟩) P E s:=by
 have ha:a < s.heap.objs.size:=Heap.lt_size ho
 have hz:vs.toArray.size=vs.length:=by simp
 rw [list_sort_plain]
 refine wpAny_bind (listItems_at ho rfl (wpAny_bind (listUpdate_at ho rfl ?_ (hsz:=by rw [hz,sizeLine_eq]; omega))))
 obtain ⟨ep,he⟩:∃ ep,(s.heap.update a (Obj.mapSeq fun _=>#[])).get? a=some (seqObj "list" #[] ep):=⟨_,get?_update_seq ho (fun _=>#[])⟩
 refine wpAny_bind (seqEpoch_at he rfl (wpAny_bind (wpAny_newTuple (wpAny_bind (wpAny_newList (wpAny_holding ?_))))))
 have hold:∀ b o,b≠a→s.heap.get? b=some o→(((s.heap.update a (Obj.mapSeq fun _=>#[])).push (seqObj "tuple" vs.toArray 0)).push (seqObj "list" #[] 0)).get? b=some o:=fun b o hb e=>by
  refine Heap.get?_push_of_some _ (Heap.get?_push_of_some _ ?_)
  rw [Heap.get?_update_ne _ _ _ _ hb]
  exact e
 have heb:(((s.heap.update a (Obj.mapSeq fun _=>#[])).push (seqObj "tuple" vs.toArray 0)).push (seqObj "list" #[] 0)).get? a=some (seqObj "list" #[] ep):=Heap.get?_push_of_some _ (Heap.get?_push_of_some _ he)
 obtain ⟨q1,q2⟩:=hS _ hold
 show wpAny (model prog w) A _ P E { s with heap:=((s.heap.update a (Obj.mapSeq fun _=>#[])).push (seqObj "tuple" vs.toArray 0)).push (seqObj "list" #[] 0) }
 dsimp only
 by_cases h2:vs.toArray.size < 2
 · rw [if_pos h2,if_pos h2]
   refine wpAny_bind (wpAny_pure ?_)
   rw [StateT.run_pure]
   refine wpAny_bind (wpAny_pure ?_)
   dsimp only
   refine wpAny_bind (seqEpoch_at heb rfl (wpAny_bind (listUpdate_at heb rfl ?_ (hsz2:=by rw [Array.size_map]; show (pairsOf vs).size≤_; rw [pairsOf_size,sizeLine_eq]; omega))))
   simp only [bne_self_eq_false,Bool.false_eq_true,if_false]
   refine wpAny_pure (h (pairsOf vs) (Array.Perm.refl _) fun i j _ hij hj=>?_)
   have:i=j:=by omega
   subst this
   exact KeyOrd.kle_refl _
 · rw [if_neg h2,if_neg h2]
   refine wpAny_bind (q1 (by omega) _ ?_)
   refine wpAny_bind (wpAny_mono (wpS_sortRuns2 (κ:=κ) (kd:=kd) (st:=SortSt.mk' kd (vs.toArray.zip vs.toArray) #[] 7 none) q2 rfl rfl rfl hK
    (Q:=fun _ st'=>(arrOf st').Perm (pairsOf vs)∧failedOf st'=none∧SegK κ (arrOf st') 0 vs.length) fun st' a1 a2 a3=>⟨a1,a2,by
     have:(pairsOf vs).size=vs.length:=pairsOf_size vs
     rw [←this]; exact a3⟩) ?_ fun _ _ e=>e)
   rintro ⟨⟨⟩,st'⟩ s' ⟨rfl,p1,p2,p3⟩
   dsimp only
   refine wpAny_bind (seqEpoch_at heb rfl (wpAny_bind (listUpdate_at heb rfl ?_ (hsz2:=by rw [Array.size_map,p1.size_eq,pairsOf_size,sizeLine_eq]; omega))))
   rw [p2]
   simp only [bne_self_eq_false,Bool.false_eq_true,if_false]
   exact wpAny_pure (h _ p1 p3)
end
end LW
namespace LW
abbrev Ls:=List Nat
def downL (p:Nat→Bool):Nat→Nat
 | 0=>0
 | n+1=>if p (n+1)=true then n+1 else downL p n
theorem downL_is (p:Nat→Bool) (h0:p 0=true):∀ n,p (downL p n)=true
 | 0=>h0
 | n+1=>by
  unfold downL
  split
  · assumption
  · exact downL_is p h0 n
def ovL (a b:Ls):Nat:=downL (fun k=>decide (b.take k <:+ a)) (min a.length b.length - 1)
theorem ovL_suf (a b:Ls):b.take (ovL a b) <:+ a:=of_decide_eq_true (downL_is (fun k=>decide (b.take k <:+ a)) (by simp) _)
def layL (st:Ls×Ls) (x:Ls):Ls×Ls:=(st.1 ++ x.drop (ovL st.2 x),x)
def laidL:List Ls→Ls
 | []=>[]
 | x::r=>(r.foldl layL (x,x)).1
theorem lay_suf {st:Ls×Ls} (h:st.2 <:+ st.1) (x:Ls):x <:+ (layL st x).1∧st.1 <+: (layL st x).1:=by
 refine ⟨?_,List.prefix_append _ _⟩
 have h1:x.take (ovL st.2 x) <:+ st.1:=(ovL_suf st.2 x).trans h
 obtain ⟨u,hu⟩:=h1
 refine ⟨u,?_⟩
 show u ++ x=st.1 ++ x.drop (ovL st.2 x)
 rw [←hu,List.append_assoc,List.take_append_drop]
theorem lay_holds:∀ (xs:List Ls) (st:Ls×Ls),st.2 <:+ st.1→st.1 <:+: (xs.foldl layL st).1∧∀ x∈xs,x <:+: (xs.foldl layL st).1
 | [],st,_=>⟨List.infix_refl _,fun _ h=>by cases h⟩
 | y::r,st,h=>by
  obtain ⟨h1,h2⟩:=lay_suf h y
  obtain ⟨i1,i2⟩:=lay_holds r (layL st y) h1
  rw [List.foldl_cons]
  refine ⟨h2.isInfix.trans i1,fun x hx=>?_⟩
  rcases List.mem_cons.mp hx with z | z
  · rw [z]; exact h1.isInfix.trans i1
  · exact i2 x z
theorem laid_holds {xs:List Ls} {x:Ls} (h:x∈xs):x <:+: laidL xs:=by
 cases xs with
 | nil=>cases h
 | cons y r =>
  obtain ⟨i1,i2⟩:=lay_holds r (y,y) (List.suffix_refl _)
  rcases List.mem_cons.mp h with z | z
  · rw [z]; exact i1
  · exact i2 x z
def At (t:Ls) (p:Nat) (x:Ls):Prop:=p+x.length≤t.length∧(t.drop p).take x.length=x
theorem at_of_infix {t x:Ls} (h:x <:+: t):∃ p,At t p x:=by
 obtain ⟨u,v,e⟩:=h
 refine ⟨u.length,?_,?_⟩
 · rw [←e]; simp only [List.length_append]; omega
 · rw [←e]; simp [List.append_assoc]
theorem infix_of_at {t x:Ls} {p:Nat} (h:At t p x):x <:+: t:=by
 refine ⟨t.take p,(t.drop p).drop x.length,?_⟩
 have e:x ++ (t.drop p).drop x.length=t.drop p:=by
  have:=List.take_append_drop x.length (t.drop p)
  rw [h.2] at this
  exact this
 rw [List.append_assoc,e,List.take_append_drop]
end LW
namespace LW
def wd (bs:List Ls) (k:Nat):Ls:=bs.getD k []
structure Need (bs:List Ls) (k:Nat):Prop where
 lt:k < bs.length
 first:∀ i,i < k→wd bs i≠wd bs k
 top:∀ o∈bs,o≠wd bs k→¬ wd bs k <:+: o
theorem mem_wd {bs:List Ls} {b:Ls} (h:b∈bs):∃ k,k < bs.length∧wd bs k=b:=by
 obtain ⟨k,hk,e⟩:=List.getElem_of_mem h
 refine ⟨k,hk,?_⟩
 unfold wd
 rw [List.getD_eq_getElem?_getD,List.getElem?_eq_getElem hk]
 exact e
theorem infix_same {a b:Ls} (h:a <:+: b) (hl:b.length≤a.length):a=b:=h.eq_of_length_le hl
theorem first_like (bs:List Ls):∀ k,k < bs.length→∃ j,j < bs.length∧wd bs j=wd bs k∧∀ i,i < j→wd bs i≠wd bs j:=by
 intro k
 induction k using Nat.strongRecOn with
 | ind k ih =>
  intro hk
  by_cases h:∃ i,i < k∧wd bs i=wd bs k
  · obtain ⟨i,hi,e⟩:=h
    obtain ⟨j,h1,h2,h3⟩:=ih i hi (by omega)
    exact ⟨j,h1,h2.trans e,h3⟩
  · exact ⟨k,hk,rfl,fun i hi e=>h ⟨i,hi,e⟩⟩
theorem cover_by (bs:List Ls) (M:Nat) (hM:∀ b∈bs,b.length≤M):∀ d k,k < bs.length→M - (wd bs k).length≤d→∃ j,Need bs j∧wd bs k <:+: wd bs j:=by
 intro d
 induction d with
 | zero =>
  intro k hk hd
  obtain ⟨j,h1,h2,h3⟩:=first_like bs k hk
  refine ⟨j,⟨h1,h3,fun o ho hne hin=>hne ?_⟩,by rw [h2]; exact List.infix_refl _⟩
  have:=hM o ho
  exact (infix_same hin (by rw [h2]; omega)).symm
 | succ d ih =>
  intro k hk hd
  by_cases h:∃ o∈bs,o≠wd bs k∧wd bs k <:+: o
  · obtain ⟨o,ho,hne,hin⟩:=h
    obtain ⟨m,hm,em⟩:=mem_wd ho
    have hlt:(wd bs k).length < o.length:=by
     rcases Nat.lt_or_ge (wd bs k).length o.length with z | z
     · exact z
     · exact absurd (infix_same hin z).symm hne
    obtain ⟨j,hj,hi⟩:=ih m hm (by rw [em]; omega)
    exact ⟨j,hj,hin.trans (em ▸ hi)⟩
  · obtain ⟨j,h1,h2,h3⟩:=first_like bs k hk
    exact ⟨j,⟨h1,h3,fun o ho hne hin=>h ⟨o,ho,by rw [←h2]; exact hne,by rw [←h2]; exact hin⟩⟩,by rw [h2]; exact List.infix_refl _⟩
theorem len_le_sum:∀ {bs:List Ls} {b:Ls},b∈bs→b.length≤(bs.map List.length).sum
 | x::r,b,hb=>by
  rw [List.map_cons,List.sum_cons]
  rcases List.mem_cons.mp hb with z | z
  · rw [z]; omega
  · have:=len_le_sum z
    omega
theorem cover {bs:List Ls} {b:Ls} (hb:b∈bs):∃ j,Need bs j∧b <:+: wd bs j:=by
 obtain ⟨k,hk,e⟩:=mem_wd hb
 obtain ⟨j,h1,h2⟩:=cover_by bs _ (fun _=>len_le_sum) _ k hk (Nat.le_refl _)
 exact ⟨j,h1,e ▸ h2⟩
structure KeptIs (bs:List Ls) (ks:List Nat):Prop where
 nd:ks.Nodup
 iff:∀ k,k∈ks↔Need bs k
def HoldsAll (bs:List Ls) (t:Ls):Prop:=∀ b∈bs,b <:+: t
theorem laid_all {bs:List Ls} {ks os:List Nat} (h:KeptIs bs ks) (hp:os.Perm ks):HoldsAll bs (laidL (os.map (wd bs))):=fun b hb=>by
 obtain ⟨j,hj,hi⟩:=cover hb
 exact hi.trans (laid_holds (List.mem_map.mpr ⟨j,hp.mem_iff.mpr ((h.iff j).mpr hj),rfl⟩))
end LW
namespace LW
def takes (a b:Ls):Nat:=b.length - ovL a b
def cost {α:Type} (g:α→Ls):α→List α→Nat
 | _,[]=>0
 | a,b::r=>takes (g a) (g b)+cost g b r
theorem lay_cost {α:Type} (g:α→Ls):∀ (os:List α) (a:α) (T:Ls),((os.map g).foldl layL (T,g a)).1.length=T.length+cost g a os
 | [],_,_=>rfl
 | b::r,a,T=>by
  show (((r.map g).foldl layL (T ++ (g b).drop (ovL (g a) (g b)),g b)).1.length)=_
  rw [lay_cost g r b,List.length_append,List.length_drop]
  show _=T.length+(takes (g a) (g b)+cost g b r)
  unfold takes
  omega
theorem laid_cost {α:Type} (g:α→Ls) (a:α) (os:List α):(laidL ((a::os).map g)).length=(g a).length+cost g a os:=lay_cost g os a (g a)
structure Height {α:Type} (g:α→Ls) (left:List α) (a:α) (h:Nat):Prop where
 some:∃ os:List α,os.Perm left∧cost g a os=h
 min:∀ os:List α,os.Perm left→h≤cost g a os
theorem Height.unique {α:Type} {g:α→Ls} {left:List α} {a:α} {h h':Nat} (x:Height g left a h) (y:Height g left a h'):h=h':=by
 obtain ⟨os,p,e⟩:=x.some
 obtain ⟨os',p',e'⟩:=y.some
 have h1:=x.min os' p'
 have h2:=y.min os p
 omega
theorem Height.perm {α:Type} {g:α→Ls} {left left':List α} {a:α} {h:Nat} (q:left.Perm left') (x:Height g left a h):Height g left' a h:=by
 obtain ⟨os,p,e⟩:=x.some
 exact ⟨⟨os,p.trans q,e⟩,fun os' p'=>x.min os' (p'.trans q.symm)⟩
theorem Height.nil {α:Type} (g:α→Ls) (a:α):Height g [] a 0:=⟨⟨[],List.Perm.refl _,rfl⟩,fun _ _=>Nat.zero_le _⟩
theorem Height.le {α:Type} {g:α→Ls} {left:List α} {a b:α} {rest:List α} {h hb:Nat} (x:Height g left a h) (q:(b::rest).Perm left) (y:Height g rest b hb):h≤takes (g a) (g b)+hb:=by
 obtain ⟨os,p,e⟩:=y.some
 have:=x.min (b::os) ((p.cons b).trans q)
 have e2:cost g a (b::os)=takes (g a) (g b)+cost g b os:=rfl
 omega
theorem Height.mk' {α:Type} {g:α→Ls} {left:List α} {a:α} {h:Nat} (h1:∃ b rest hb,(b::rest).Perm left∧Height g rest b hb∧h=takes (g a) (g b)+hb)
  (h2:∀ b rest,(b::rest).Perm left→∃ hb,Height g rest b hb∧h≤takes (g a) (g b)+hb):Height g left a h:=by
 obtain ⟨b,rest,hb,p,y,e⟩:=h1
 refine ⟨?_,fun os q=>?_⟩
 · obtain ⟨os,p',e'⟩:=y.some
   refine ⟨b::os,(p'.cons b).trans p,?_⟩
   show takes (g a) (g b)+cost g b os=h
   omega
 · cases os with
   | nil =>
    have:=List.nil_perm.mp q
    rw [this] at p
    exact absurd (List.perm_nil.mp p) (by simp)
   | cons c r =>
    obtain ⟨hc,yc,le⟩:=h2 c r q
    have:=yc.min r (List.Perm.refl _)
    show h≤takes (g a) (g c)+cost g c r
    omega
theorem perm_of_sub {α:Type} [BEq α] [LawfulBEq α]:∀ {row ns:List α},row.Nodup→row.length=ns.length→(∀ x∈row,x∈ns)→row.Perm ns
 | [],ns,_,h,_=>by
  have:ns=[]:=List.length_eq_zero_iff.mp h.symm
  rw [this]
 | x::r,ns,hn,h,hs=>by
  have hx:=hs x List.mem_cons_self
  have p:=List.perm_cons_erase hx
  obtain ⟨n1,n2⟩:=List.nodup_cons.mp hn
  refine (List.Perm.cons x (perm_of_sub n2 ?_ fun y hy=>?_)).trans p.symm
  · have:=p.length_eq
    rw [List.length_cons] at this h
    omega
  · have:y∈x::ns.erase x:=p.mem_iff.mp (hs y (List.mem_cons_of_mem _ hy))
    rcases List.mem_cons.mp this with z | z
    · exact absurd (z ▸ hy) n1
    · exact z
end LW
namespace LW
open PySem PySem.Spec PyProof.Rows L2
theorem Vals.perm {us vs:List Value} (p:us.Perm vs):∀ {xs:List V},Vals xs vs→∃ ys:List V,ys.Perm xs∧Vals ys us:=by
 induction p with
 | nil=>intro xs r; exact ⟨xs,List.Perm.refl _,r⟩
 | cons u _ ih =>
  intro xs r
  cases r with
  | cons r1 r2 =>
   obtain ⟨ys,p,v⟩:=ih r2
   exact ⟨_::ys,p.cons _,.cons r1 v⟩
 | swap u v l =>
  intro xs r
  cases r with
  | cons r1 r2 =>
   cases r2 with
   | cons r2 r3=>exact ⟨_::_::_,List.Perm.swap _ _ _,.cons r2 (.cons r1 r3)⟩
 | trans _ _ a b =>
  intro xs r
  obtain ⟨ys,p,v⟩:=b r
  obtain ⟨zs,q,z⟩:=a v
  exact ⟨zs,q.trans p,z⟩
theorem LtOk_one {κ:KD} (hO:κ.OneLt) {prog:Program} {w:World} {A:Around} {E:Value→Shared→Prop} {s:Shared}:LtOk prog w A E s κ oneType':=by
 intro st x y a b Q hk ha hb h
 rw [lt'_eq]
 refine wpS_bind (wpS_get ?_)
 rw [hk,keyLt'_oneType]
 exact wpS_bind (wpS_lift (wpAny_attempt (hO prog w A _ s x.1 y.1 a b ha hb ⟨rfl,wpS_pure h⟩)))
section
variable {prog:Program} {w:World} {A:Around} {E:Value→Shared→Prop} {s:Shared} {κ:KD} {kd:SortKind}
theorem sorted_of {v:Value} {Q:Value→Shared→Prop} (P:List Value→Prop) (hcol:∀ (Q':List Value→Shared→Prop),(∀ vs s',P vs→s'.os=s.os→s'.gens=s.gens→s.heap.objs.size≤s'.heap.objs.size→(∀ b o,s.heap.get? b=some o→s'.heap.get? b=some o)→Q' vs s')→wpAny (model prog w) A.in1 (collect v) Q' E s)
  (hz:∀ vs,P vs→vs.length≤1000) (hK:∀ vs,P vs→AllKeys κ (pairsOf vs)) (hS:∀ vs s' a,P vs→s'.os=s.os→s'.gens=s.gens→(∀ b o,s.heap.get? b=some o→s'.heap.get? b=some o)→s.heap.objs.size≤a→SortOk prog w A.in1.in1 E s' κ kd vs a)
  (h:∀ (vs:List Value) (out:Array Keyed) (s':Shared) (r:Addr) (e:Nat),P vs→s'.os=s.os→s'.gens=s.gens→(∀ b o,s.heap.get? b=some o→s'.heap.get? b=some o)→s.heap.objs.size≤r→s'.heap.get? r=some (seqObj "list" (out.map (·.2)) e)→out.Perm (pairsOf vs)→SegK κ out 0 vs.length→Q (.ref r) s') :
  wpAny (model prog w) A (call (.builtin "sorted") [v]) Q E s:=by
 refine Calls.call_function_entry kind_sorted plain_sorted entry_sorted (args_sorted1 _) ?_
 unfold Builtin.«sorted»
 refine wpAny_bind (m:=checkCount "sorted" 1 1 _) (wpAny_pure (wpAny_bind (hcol _ fun vs s1 hP o1 g1 hle k1=>wpAny_bind (wpAny_newList ?_ (by have:=hz vs hP; rw [sizeLine_eq]; omega)))))
 have ho:(s1.heap.push (seqObj "list" vs.toArray 0)).get? s1.heap.objs.size=some (seqObj "list" vs.toArray 0):=Heap.get?_push_size _ rfl
 refine wpAny_bind (wpAny_holding (wpAny_call_entry slot_list_sort ⟨_,ho,rfl⟩ entry_list_sort (sort_any (κ:=κ) (kd:=kd) ho (hz vs hP) (hK vs hP) (hS vs _ _ hP o1 g1 (fun b o e=>Heap.get?_push_of_some _ (k1 b o e)) hle) fun out p1 p2=>⟨_,rfl,?_⟩) (args_list_sort _)))
 refine wpAny_pure ⟨_,rfl,?_⟩
 have hat:=sortedHeap_at (out:=out.map (·.2)) ho
 obtain ⟨e,he⟩:=hat
 refine h vs out _ _ e hP o1 g1 (fun b o eb=>?_) hle he p1 p2
 have hb:=k1 b o eb
 have hlt:=Heap.lt_size hb
 show (sortedHeap (s1.heap.push (seqObj "list" vs.toArray 0)) s1.heap.objs.size vs (out.map (·.2))).get? b=some o
 rw [sortedHeap_old (Nat.ne_of_lt hlt) (by rw [size_push']; exact Nat.lt_succ_of_lt hlt)]
 exact Heap.get?_push_of_some _ hb
end
section
variable {X:Cx}
theorem seg_pairs {κ:KD} {vs:List Value} {out:Array Keyed} (hp:out.Perm (pairsOf vs)) (hs:SegK κ out 0 vs.length):((out.map (·.2)).toList).Perm vs∧(out.map (·.2)).toList.Pairwise fun a b=>κ.kle ((κ.keyOf a).getD κ.dflt) ((κ.keyOf b).getD κ.dflt):=by
 have hl:=Array.perm_iff_toList_perm.mp hp
 rw [pairsOf_toList] at hl
 have hm:∀ p∈out.toList,p.1=p.2:=fun p h=>(mem_zip_self (hl.mem_iff.mp h)).1
 rw [Array.toList_map]
 refine ⟨?_,?_⟩
 · have:=hl.map (·.2)
   rw [List.map_snd_zip (Nat.le_refl _)] at this
   exact this
 · have hz:vs.length≤out.size:=by rw [hp.size_eq,pairsOf_size]; exact Nat.le_refl _
   have hz2:out.size=vs.length:=by rw [hp.size_eq,pairsOf_size]
   have hh:=(seg_srt (κ:=κ) hz).mp hs
   have e:sg out 0 vs.length=out.toList:=by
    unfold sg
    rw [List.drop_zero,Nat.sub_zero,List.take_of_length_le]
    rw [Array.length_toList,hz2]
    exact Nat.le_refl _
   rw [e] at hh
   refine List.pairwise_map.mpr (List.Pairwise.imp_of_mem ?_ hh)
   intro a b ha hb h
   have h':κ.kle ((κ.keyOf a.1).getD κ.dflt) ((κ.keyOf b.1).getD κ.dflt):=h
   rw [hm a ha,hm b hb] at h'
   exact h'
theorem strs_are {ss:List Str}:∀ {us:List Value},Vals (ss.map V.str) us→StrsAre us ss:=by
 induction ss with
 | nil=>intro us r; rw [List.map_nil] at r; cases r; exact .nil
 | cons x ss ih =>
  intro us r
  rw [List.map_cons] at r
  cases r with
  | cons r1 r2=>obtain ⟨t,rfl⟩:=r1; exact .cons _ _ (ih r2)
def leS (a b:Str):Prop:=¬ b.cps.toList < a.cps.toList
end
theorem layNew_led (t:SetTable) (es:Array (Int×Value)) (h:Int) (x:Value):(layNew t es h x).2.1.led=t.led:=by
 unfold layNew
 split
 · rename_i slot wd _
   show ((t.put slot).1.orStandIn _).led=t.led
   unfold SetTable.orStandIn
   split <;> rfl
 · rfl
theorem relayAll_led (t:SetTable) (es:Array (Int×Value)) (n:Nat):(relayAll t es n).2.1.led=t.led∧(t.plain=false→(relayAll t es n).2.1.plain=false):=by
 unfold relayAll
 split
 · rename_i t' order e
   have hl:t'.led=t.led∧t'.plain=t.plain:=by
    unfold SetTable.relaid SetTable.laid at e
    cases hc:SetTable.layClean (SetTable.sizeAbove n - 1) (es.map (·.1)) with
    | none=>rw [hc] at e; cases e
    | some ow =>
     rw [hc] at e
     have e':=Option.some.inj e
     have e2:_=t':=congrArg Prod.fst e'
     rw [←e2]
     exact ⟨rfl,rfl⟩
   dsimp only
   split
   · exact ⟨hl.1,fun z=>hl.2.trans z⟩
   · exact ⟨rfl,fun _=>rfl⟩
 · exact ⟨rfl,fun _=>rfl⟩
def SetS (prog:Program) (w:World) (h:Heap) (a:Addr) (ds:List Str):Prop :=
 ∃ o es ep t,h.get? a=some o∧o.ExactSet∧o.data=.set es ep t∧ElemsOf (PySem.strKind prog w) es.toList∧(es.toList.map fun e=>strOf e.2).Perm ds∧es.size < scanBound∧t.fits es.size=true∧t.led = !w.params.followText "set-order"∧(0 < es.size→t.plain=false)
theorem SetS.keep {prog:Program} {w:World} {h h':Heap} {a:Addr} {ds:List Str} (hS:SetS prog w h a ds) (k:∀ o,h.get? a=some o→h'.get? a=some o):SetS prog w h' a ds:=by
 obtain ⟨o,es,ep,t,ho,r⟩:=hS
 exact ⟨o,es,ep,t,k o ho,r⟩
theorem is_str {prog:Program} {w:World} {v:Value} {k:Str} (h:(PySem.strKind prog w).is k v=true):strOf v=k∧∃ t,v=.str k t:=by
 obtain ⟨t,rfl⟩:=Value.isStrOf_shape h
 exact ⟨rfl,t,rfl⟩
theorem str_is {prog:Program} {w:World} (k:Str) (t:Tok):(PySem.strKind prog w).is k (.str k t)=true:=by
 show Value.isStrOf k (.str k t)=true
 simp [Value.isStrOf]
theorem mem_elems {prog:Program} {w:World} {es:List (Int×Value)} {ds:List Str} (hel:ElemsOf (PySem.strKind prog w) es) (hp:(es.map fun e=>strOf e.2).Perm ds) (k:Str):k∈ds↔∃ e∈es,(PySem.strKind prog w).is k e.2=true:=by
 rw [←hp.mem_iff]
 constructor
 · intro h
   obtain ⟨e,he,ek⟩:=List.mem_map.mp h
   obtain ⟨⟨k',hk',_⟩,_⟩:=hel e he
   have:=(is_str hk').1
   rw [this] at ek
   exact ⟨e,he,ek ▸ hk'⟩
 · rintro ⟨e,he,hk⟩
   exact List.mem_map.mpr ⟨e,he,(is_str hk).1⟩
section
variable {prog:Program} {w:World} {A:Around} {E:Value→Shared→Prop} {s:Shared}
theorem setAdd_S {a:Addr} {ds:List Str} {z:Str} {t:Tok} {Q:Bool→Shared→Prop} (hS:SetS prog w s.heap a ds) (hroom:ds.length+1 < scanBound)
  (h:∀ b h',Heap.SameBut a s.heap h'→SetS prog w h' a (if z∈ds then ds else ds ++ [z])→Q b { s with heap:=h' }) :
  wpAny (model prog w) A (setAddHashed a (.str z t) ((PySem.strKind prog w).hash z)) Q E s:=by
 obtain ⟨o,es,ep,tb,ho,hex,hd,hel,hp,hb,hf,hled,hpl⟩:=hS
 have hlen:es.size=ds.length:=by
  have:=hp.length_eq
  rw [List.length_map,Array.length_toList] at this
  exact this
 have hkey:=str_is (prog:=prog) (w:=w) z t
 have hmem:=mem_elems hel hp
 unfold setAddHashed setAddHashedIn
 refine wpAny_holding (wpAny_bind (wpAny_setState_of ho hd hf ?_))
 dsimp only
 rw [byScan_of (knd:=PySem.strKind prog w) rfl hb hel]
 simp only [↓reduceIte]
 unfold setAddByScan
 refine wpAny_bind (wpAny_bind (wpAny_rule (wpAny_bind (wpAny_setScan_of hkey ho hd hf hel ?_))))
 cases hr:List.findIdx? (fun e=>(PySem.strKind prog w).is z e.2) es.toList with
 | some j =>
  dsimp only
  obtain ⟨hj,hpj,_⟩:=List.findIdx?_eq_some_iff_getElem.mp hr
  have hz:z∈ds:=(hmem z).mpr ⟨es.toList[j],List.getElem_mem hj,hpj⟩
  refine wpAny_pure (wpAny_pure ?_)
  have:=h false s.heap (Heap.SameBut.refl a s.heap) (by rw [if_pos hz]; exact ⟨o,es,ep,tb,ho,hex,hd,hel,hp,hb,hf,hled,hpl⟩)
  exact this
 | none =>
  dsimp only
  have hz:z∉ds:=fun hz=>by
   obtain ⟨e,he,q⟩:=(hmem z).mp hz
   have:=List.findIdx?_eq_none_iff.mp hr e he
   rw [q] at this
   cases this
  have hgw:∀ (b:Bool) {s₁:Shared} {Q':Unit→Shared→Prop},Q' () s₁→wpAny (model prog w) A (match b with | true=>rule "set.scan.the-table-gave-way" | false=>pure ()) Q' E s₁ :=
   fun b s₁ Q' hq=>by cases b <;> first | exact wpAny_pure hq | exact wpAny_rule hq
  have hperm:=layNew_perm tb es ((PySem.strKind prog w).hash z) (.str z t)
  have hfits:=layNew_fits tb es ((PySem.strKind prog w).hash z) (.str z t)
  have hld:=layNew_led tb es ((PySem.strKind prog w).hash z) (.str z t)
  generalize layNew tb es ((PySem.strKind prog w).hash z) (.str z t)=L at hperm hfits hld ⊢
  obtain ⟨es1,t1,wasDummy,gave⟩:=L
  dsimp only at hperm hfits hld ⊢
  rw [Array.toList_push] at hperm
  have hel1:ElemsOf (PySem.strKind prog w) es1.toList:=(hel.push hkey rfl).perm hperm
  have hp1:(es1.toList.map fun e=>strOf e.2).Perm (ds ++ [z]):=by
   refine (hperm.map _).trans ?_
   rw [List.map_append]
   exact hp.append_right _
  have hsz:es1.size=ds.length+1:=by
   have:=hp1.length_eq
   rw [List.length_map,Array.length_toList,List.length_append] at this
   exact this
  have hb1:es1.size < scanBound:=by omega
  refine wpAny_bind (hgw _ ?_)
  have tail:∀ (t2:SetTable),t2.fits es1.size=true→t2.led=tb.led→t2.plain=false→∀ {g:Bool→Sem Unit},(∀ (b:Bool) (s₁:Shared) (Q':Unit→Shared→Prop),Q' () s₁→wpAny (model prog w) A (g b) Q' E s₁)→∀ {R:Option Bool→Shared→Prop},
    (∀ h',Heap.SameBut a s.heap h'→SetS prog w h' a (ds ++ [z])→R (some true) { s with heap:=h' }) →
    wpAny (model prog w) A (do
     storeSet a es1 t2
     if (!wasDummy && t2.tooFull)=true then do
      g (relayAll t2 es1 (SetTable.grown es1.size)).2.2
      storeSet a (relayAll t2 es1 (SetTable.grown es1.size)).1 (relayAll t2 es1 (SetTable.grown es1.size)).2.1
      pure (some true)
     else pure (some true)) R E s:=by
   intro t2 f2 l2 p2 g hg R hR
   refine wpAny_bind (wpAny_storeSet_of ho hd ?_ (fits_of_scanBound hb1))
   have hg1:(s.heap.update a (Obj.putSet es1 t2)).get? a=some { o with data:=.set es1 (ep+1) t2 }:=by
    have:=Heap.get?_update_self (Obj.putSet es1 t2) ho (by rw [putSet_of es1 t2 hd]; rfl)
    rw [putSet_of es1 t2 hd] at this
    exact this
   have hsb:=Heap.SameBut.update s.heap a (Obj.putSet es1 t2)
   by_cases hc:(!wasDummy && t2.tooFull)=true
   · rw [if_pos hc]
     have rp:=relayAll_perm t2 es1 (SetTable.grown es1.size)
     have rf:=relayAll_fits t2 es1 (SetTable.grown es1.size)
     have rl:=relayAll_led t2 es1 (SetTable.grown es1.size)
     generalize relayAll t2 es1 (SetTable.grown es1.size)=Rl at rp rf rl ⊢
     obtain ⟨es2,t3,gv⟩:=Rl
     dsimp only at rp rf rl ⊢
     have hz2:es2.size=es1.size:=by rw [←Array.length_toList,rp.length_eq,Array.length_toList]
     refine wpAny_bind (hg _ _ _ (wpAny_bind (wpAny_storeSet_of hg1 rfl ?_ (fits_of_scanBound (by omega)))))
     have hg2:((s.heap.update a (Obj.putSet es1 t2)).update a (Obj.putSet es2 t3)).get? a=some { o with data:=.set es2 (ep+1+1) t3 }:=by
      have:=Heap.get?_update_self (Obj.putSet es2 t3) hg1 (by rw [putSet_of es2 t3 rfl]; rfl)
      rw [putSet_of es2 t3 rfl] at this
      exact this
     exact wpAny_pure (hR _ (hsb.trans (Heap.SameBut.update _ a _)) ⟨_,es2,_,t3,hg2,hex,rfl,hel1.perm rp,(rp.map _).trans hp1,by omega,rf,rl.1.trans (l2.trans hled),fun _=>rl.2 p2⟩)
   · rw [if_neg hc]
     exact wpAny_pure (hR _ hsb ⟨_,es1,_,t2,hg1,hex,rfl,hel1,hp1,hb1,f2,l2.trans hled,fun _=>p2⟩)
  have hend:∀ h',Heap.SameBut a s.heap h'→SetS prog w h' a (ds ++ [z])→Q true { s with heap:=h' }:=fun h' hsb hS'=>h true h' hsb (by rw [if_neg hz]; exact hS')
  split
  · refine wpAny_bind ?_
    rw [hashByValue_scannable 8 rfl]
    refine wpAny_pure ?_
    refine tail _ ?_ ?_ ?_ (fun b s₁ Q' hq=>by cases b <;> first | exact wpAny_pure hq | exact wpAny_rule hq) (fun h' hsb hS'=>by dsimp only; exact wpAny_pure (hend h' hsb hS'))
    · exact SetTable.fits_plain_off hfits
    · exact hld
    · rfl
  · rename_i hnp
    refine wpAny_bind (wpAny_pure ?_)
    simp only [↓reduceIte]
    exact tail t1 hfits hld (Bool.eq_false_iff.mpr hnp) (fun b s₁ Q' hq=>by cases b <;> first | exact wpAny_pure hq | exact wpAny_rule hq) (fun h' hsb hS'=>by dsimp only; exact wpAny_pure (hend h' hsb hS'))
def ddStep (acc:List Str) (z:Str):List Str:=if z∈acc then acc else acc ++ [z]
def ddS (l:List Str):List Str:=l.foldl ddStep []
theorem ddS_snoc (l:List Str) (z:Str):ddS (l ++ [z])=ddStep (ddS l) z:=by unfold ddS; rw [List.foldl_append] <;> rfl
theorem dd_facts:∀ (l acc:List Str),acc.Nodup→(l.foldl ddStep acc).Nodup∧(∀ z,z∈l.foldl ddStep acc↔z∈acc∨z∈l)∧(l.foldl ddStep acc).length≤acc.length+l.length
 | [],acc,h=>⟨h,fun z=>by simp,by simp⟩
 | x::l,acc,h=>by
  have hn:(ddStep acc x).Nodup:=by
   unfold ddStep
   split
   · exact h
   · rename_i hx
     exact List.nodup_append.mpr ⟨h,by simp,fun a ha b hb=>by rw [List.mem_singleton.mp hb]; intro e; exact hx (e ▸ ha)⟩
  have hm:∀ z,z∈ddStep acc x↔z∈acc∨z=x:=by
   intro z
   unfold ddStep
   split
   · rename_i hx
     exact ⟨.inl,fun q=>q.elim id fun e=>e ▸ hx⟩
   · rw [List.mem_append,List.mem_singleton]
  have hl:(ddStep acc x).length≤acc.length+1:=by
   unfold ddStep
   split
   · omega
   · rw [List.length_append] <;> exact Nat.le_refl _
  obtain ⟨a1,a2,a3⟩:=dd_facts l (ddStep acc x) hn
  rw [List.foldl_cons]
  refine ⟨a1,fun z=>?_,by rw [List.length_cons]; omega⟩
  rw [a2,hm,List.mem_cons,or_assoc]
theorem mem_ddS {l:List Str} {z:Str}:z∈ddS l↔z∈l:=by
 have:=(dd_facts l [] List.nodup_nil).2.1 z
 unfold ddS
 rw [this]
 simp
theorem ddS_len (l:List Str):(ddS l).length≤l.length:=by
 have:=(dd_facts l [] List.nodup_nil).2.2
 unfold ddS
 simpa using this
theorem update_S {R:Result→Shared→Prop} {I:Addr} {fp wr:List Addr} {G:Array GenState→Array GenState→Prop} {n:Nat} {P:Nat→Value→Prop} {St:Nat→Shared→Prop} (W:WalksS prog w A.in1 I fp wr G n P St) (S:Addr) (hSf:S∉fp)
  (val:Nat→Str) (hval:∀ i v,P i v→∃ t,v=.str (val i) t) (hb:n+1 < scanBound) :
  ∀ (k i:Nat) (s:Shared),n - i=k→i≤n→St i s→SetS prog w s.heap S (ddS ((List.range i).map val)) →
   (∀ s',Moved (S::wr) G s s'→SetS prog w s'.heap S (ddS ((List.range n).map val))→R (.ok (.ret .none)) s') →
   codeAny (model prog w) A (.builtin "set.update.loop" ⟨[.ref S,.ref I],[]⟩) R s:=by
 have hSw:S∉wr:=fun h=>hSf (W.sub _ h)
 have hsub:∀ b∈wr,b∈S::wr:=fun b hb=>List.mem_cons_of_mem _ hb
 intro k
 induction k with
 | zero =>
  intro i s hk hi hst hS hR
  have hin:i=n:=by omega
  subst hin
  refine codeAny_builtin PyProof.Rows.F.entry_set_update_loop ?_
  rw [Around.under_plainId PyProof.Rows.F.plain_set_update_loop _]
  refine wpAny_bind (m:=pyNext (.ref I)) (W.done s _ _ hst fun s' hm=>?_)
  exact wpAny_pure (hR s' (hm.mono hsub) (hS.keep fun o e=>hm.heap S o hSw e))
 | succ k ih =>
  intro i s hk hi hst hS hR
  have hlt:i < n:=by omega
  refine codeAny_builtin PyProof.Rows.F.entry_set_update_loop ?_
  rw [Around.under_plainId PyProof.Rows.F.plain_set_update_loop _]
  refine wpAny_bind (m:=pyNext (.ref I)) (W.item i s _ _ hlt hst fun v s' hP hst' hm=>?_)
  obtain ⟨t,rfl⟩:=hval i v hP
  have hS':=hS.keep (h':=s'.heap) fun o e=>hm.heap S o hSw e
  refine wpAny_bind (m:=holding [Value.str (val i) t] (setAdd S (.str (val i) t))) (wpAny_holding ?_)
  unfold setAdd
  refine wpAny_holding (wpAny_bind ((PySem.strKind prog w).pyHash (k:=val i) (str_is _ _) ?_))
  have hl:=ddS_len ((List.range i).map val)
  rw [List.length_map,List.length_range] at hl
  refine setAdd_S (s:={ s' with toks:=s'.toks+1 }) hS' (by omega) fun b h' hsb hS2=>?_
  have e2:(if val i∈ddS ((List.range i).map val) then ddS ((List.range i).map val) else ddS ((List.range i).map val) ++ [val i])=ddS ((List.range (i+1)).map val):=by
   rw [List.range_succ,List.map_append]
   exact (ddS_snoc _ _).symm
  rw [e2] at hS2
  refine wpAny_pure ⟨plainId_quiet PyProof.Rows.F.plain_set_update_loop _,ih (i+1) _ (by omega) hlt (W.frame _ s' _ _ hst' (Nat.le_succ _) fun b hb o e=>?_) hS2 fun s'' hm'' hS''=>?_⟩
  · rw [hsb.2 b (fun h:b=S=>hSf (by rw [←h]; exact hb))]; exact e
  · refine hR s'' (Moved.trans W.gtrans ((hm.mono hsub).then_heap (Nat.le_succ _) fun b o hb e=>?_) hm'') hS''
    rw [hsb.2 b (fun h:b=S=>hb (by rw [h]; exact List.mem_cons_self))]; exact e
end
section
variable {prog:Program} {w:World} {A:Around} {E:Value→Shared→Prop} {s:Shared}
theorem set_fresh_S {h:Heap} {a:Addr} (e:h.get? a=some { cls:=.type "set",dict:=none,data:=.set #[] 0 (.fresh 0 0 (!w.params.followText "set-order")) }):SetS prog w h a [] :=
 ⟨_,#[],0,_,e,⟨rfl,rfl,rfl⟩,rfl,(fun x hx=>by cases hx),List.Perm.nil,by unfold scanBound; decide,by simp [SetTable.fits,SetTable.fresh,SetTable.fill],rfl,fun z=>by simp at z⟩
theorem set_new_S (a:Value) {Q₁:Value→Shared→Prop}
  (h:Q₁ (.ref s.heap.objs.size) { s with heap:=s.heap.push { cls:=.type "set",dict:=none,data:=.set #[] 0 (.fresh 0 0 (!w.params.followText "set-order")) } }) :
  codeAny (model prog w) A (.call (.builtin "set.__new__") ⟨[.type "set",a],[]⟩) (wants Q₁ E) s:=by
 refine codeAny_of_tree ?_
 refine (show wpAny _ A.in1 (do checkBuiltinCall "set.__new__" ⟨[.type "set",a],[]⟩; again (.builtin "set.__new__" ⟨[.type "set",a],[]⟩)) _ _ s from ?_)
 refine wpAny_bind (wpAny_of_eq (PySem.F.newCall_set_1 a) (wpAny_pure ⟨plainId_quiet PySem.F.plain_set_new _,codeAny_builtin PySem.F.entry_set_new ?_⟩))
 rw [Around.under_plainId PySem.F.plain_set_new _]
 unfold Builtin.«set.__new__» Builtin.Frozenset.newClass
 have hsub:=sub_set_self
 obtain ⟨hp,g,d,tk,os⟩:=s
 dsimp only
 wp_walk
 refine wpAny_askSetting (wpAny_pure ?_)
 dsimp only
 simp only [newObj]
 exact wpAny_bind (wpAny_alloc (wpAny_pure (wpAny_pure h)))
set_option maxRecDepth 100000 in
set_option maxHeartbeats 3200000 in
theorem call_set_S {l:Addr} {items:Array Value} {ss:List Str} {Q:Value→Shared→Prop} (hh:A.handled=none) (hl:s.heap.IsList l items) (hi:StrsAre items.toList ss) (hb:ss.length≤1000)
  (h:∀ (h':Heap) (tk:Nat),SetS prog w h' s.heap.objs.size (ddS ss)→s.heap.objs.size < h'.objs.size→(∀ b o,s.heap.get? b=some o→h'.get? b=some o)→Q (.ref s.heap.objs.size) { s with heap:=h',toks:=tk }) :
  wpAny (model prog w) A (call (.type "set") [.ref l]) Q E s:=by
 have hlen:items.size=ss.length:=by
  have:=StrsAre.length hi
  simpa using this
 have strAt:∀ (i:Nat) (v:Value),items[i]? = some v→∃ t,v=.str (ss.getD i ⟨#[]⟩) t:=by
  have gen:∀ {vs:List Value} {ss:List Str},StrsAre vs ss→∀ (i:Nat) (v:Value),vs[i]? = some v→∃ t,v=.str (ss.getD i ⟨#[]⟩) t:=by
   intro vs ss r
   induction r with
   | nil=>intro i v e; simp at e
   | cons y t _ ih =>
    intro i v e
    cases i with
    | zero=>simp at e; exact ⟨t,by rw [←e]; rfl⟩
    | succ i =>
     simp only [List.getElem?_cons_succ] at e
     obtain ⟨t',e'⟩:=ih i v e
     exact ⟨t',by rw [e']; rfl⟩
  intro i v e
  exact gen hi i v (by rw [Array.getElem?_toList]; exact e)
 have eval:(List.range items.size).map (fun i=>ss.getD i ⟨#[]⟩)=ss:=by
  rw [hlen]
  refine List.ext_getElem? fun i=>?_
  rw [List.getElem?_map]
  by_cases hi':i < ss.length
  · rw [List.getElem?_range hi',List.getElem?_eq_getElem hi']
    show some (ss.getD i ⟨#[]⟩)=_
    rw [List.getD_eq_getElem?_getD,List.getElem?_eq_getElem hi'] <;> rfl
  · rw [List.getElem?_eq_none (by rw [List.length_range]; omega),List.getElem?_eq_none (by omega)] <;> rfl
 obtain ⟨c,tl,hmro⟩:=PySem.F.called_set.mro
 have hmade:=PySem.F.called_set.made
 have hsub:=PySem.F.called_set.sub
 refine wpAny_call (codeAny_of_tree ?_)
 refine wpAny_pure ⟨Code.quiet_builtin _ (by decide +kernel),codeAny_builtin PySem.F.entry_type_call ?_⟩
 rw [Around.under_plain (weight_type_call_type "set" [.ref l] []) rfl]
 have h1:=PySem.F.called_set.notType
 have h2:=PySem.F.called_set.canCreate
 have hct:=PySem.F.typeCall_set_1 (.ref l)
 repeat (any_goals (first | assumption | wp_step))
 refine codeAny_mono (set_new_S (.ref l) (E:=E) (Q₁:=fun obj s₁=>obj=.ref s.heap.objs.size∧s₁={ s with heap:=s.heap.push { cls:=.type "set",dict:=none,data:=.set #[] 0 (.fresh 0 0 (!w.params.followText "set-order")) } }) ⟨rfl,rfl⟩) fun r s₁ hr=>?_
 cases r with
 | error e=>exact hr
 | ok fl =>
  cases fl with
  | ret obj =>
   obtain ⟨rfl,rfl⟩:=hr
   have hS0:SetS prog w (s.heap.push { cls:=.type "set",dict:=none,data:=.set #[] 0 (.fresh 0 0 (!w.params.followText "set-order")) }) s.heap.objs.size []:=set_fresh_S (Heap.get?_push_size _ rfl)
   generalize (!w.params.followText "set-order")=led at hS0 ⊢
   have hS:(s.heap.push { cls:=.type "set",dict:=none,data:=.set #[] 0 (.fresh 0 0 led) }).get? s.heap.objs.size=some { cls:=.type "set",dict:=none,data:=.set #[] 0 (.fresh 0 0 led) }:=Heap.get?_push_size _ rfl
   have hT:Shared.TypeIs { s with heap:=s.heap.push { cls:=.type "set",dict:=none,data:=.set #[] 0 (.fresh 0 0 led) } } (.ref s.heap.objs.size) "set":=⟨_,hS,rfl⟩
   have hli:=PySem.F.called_set.init.lookup
   have hbi:=PySem.F.called_set.init.bind (.ref s.heap.objs.size)
   repeat (any_goals (first | assumption | wp_step))
   refine codeAny_mono (codeAny_call_builtin (R:=wants (fun r s₂=>r=.none∧∃ h' tk,s₂={ s with heap:=h',toks:=tk }∧SetS prog w h' s.heap.objs.size (ddS ss)∧s.heap.objs.size < h'.objs.size∧(∀ b o,s.heap.get? b=some o→h'.get? b=some o)) E) PySem.F.called_set.init.plain PySem.F.entry_set_init (check_set_init_1 hT ?_)) fun r₂ s₂ hr₂=>?_
   · obtain ⟨ol,hol,hcl,nl,hdl⟩:=hl
     obtain ⟨ocls,odict,odata,oslots⟩:=ol
     simp only at hcl hdl
     subst hcl; subst hdl
     have hol':(s.heap.push { cls:=.type "set",dict:=none,data:=.set #[] 0 (.fresh 0 0 led) }).get? l=some { cls:=.type "list",dict:=odict,data:=.seq items nl,slots:=oslots }:=Heap.get?_push_of_some _ hol
     have hsls:=PySem.F.sub_list_set
     have hslf:=PySem.F.sub_list_frozenset
     have hne:(Value.type "list" == Value.type "dict")=false:=by decide
     have hl1:(s.heap.push { cls:=.type "set",dict:=none,data:=.set #[] 0 (.fresh 0 0 led) }).IsList l items:=⟨_,hol',rfl,nl,rfl⟩
     unfold Builtin.«set.__init__» noKeywords Builtin.Frozenset.updateFrom
     generalize hPI:pyIter=PI
     wp_walk
     subst hPI
     refine wpAny_pyIter_list hl1 (wpAny_bind (wpAny_runValue ?_))
     have hlS:l < s.heap.objs.size:=Heap.lt_size hol
     have hh3:A.in1.in1.in1.handled=none:=by simp [hh]
     have hneI:l≠(s.heap.push { cls:=.type "set",dict:=none,data:=.set #[] 0 (.fresh 0 0 led) }).objs.size:=by
      rw [Heap.size_push]; exact Nat.ne_of_lt (Nat.lt_succ_of_lt hlS)
     have hSf:s.heap.objs.size∉[(s.heap.push { cls:=.type "set",dict:=none,data:=.set #[] 0 (.fresh 0 0 led) }).objs.size,l]:=by
      rw [Heap.size_push]
      simp only [List.mem_cons,List.not_mem_nil,or_false,not_or]
      exact ⟨Nat.ne_of_lt (Nat.lt_succ_self _),Nat.ne_of_gt hlS⟩
     refine update_S ((Walks.list hh3 _ l hneI items).toS) s.heap.objs.size hSf (fun i=>ss.getD i ⟨#[]⟩) strAt (by unfold scanBound; omega) (items.size - 0) 0 _ rfl (Nat.zero_le _)
      ⟨⟨_,Heap.get?_push_size _ rfl,rfl,rfl⟩,(hl1.push _)⟩ (hS0.keep fun o e=>Heap.get?_push_of_some _ e) fun s' hm hS'=>?_
     rw [eval] at hS'
     obtain ⟨h',g',d',tk',os'⟩:=s'
     have eg:g'=s.gens:=hm.gens
     have ed:d'=s.drawn:=hm.drawn
     have eo:os'=s.os:=hm.os
     subst eg; subst ed; subst eo
     refine wpAny_pure (wpAny_pure ⟨rfl,h',tk',rfl,hS',?_,fun b o e=>?_⟩)
     · obtain ⟨o,_,_,_,ho,_⟩:=hS'
       exact Heap.lt_size ho
     · have hb:=Heap.lt_size e
       refine hm.heap b o ?_ (Heap.get?_push_of_some _ (Heap.get?_push_of_some _ e))
       simp only [List.mem_cons,List.not_mem_nil,or_false,not_or]
       exact ⟨Nat.ne_of_lt hb,by rw [Heap.size_push]; exact Nat.ne_of_lt (Nat.lt_succ_of_lt hb)⟩
   · cases r₂ with
     | error e=>exact hr₂
     | ok fl₂ =>
      cases fl₂ with
      | ret r =>
       obtain ⟨rfl,h',tk,rfl,hS',hz',hk'⟩:=hr₂
       repeat (any_goals (first | assumption | wp_step))
       exact h _ _ hS' hz' hk'
      | _=>exact hr₂.elim
  | _=>exact hr.elim
end
theorem slot_si_next:Slot "set_iterator" "__next__" "set_iterator.__next__" :=
 .of (owner:="set_iterator") (n:="__next__") (by rw [typeLookup_type,builtinLookup_eq_fast]; kernel_rfl) (by decide +kernel) (by decide +kernel) (by decide +kernel)
  (by first | exact .inl (by decide +kernel) | exact .inr (by decide +kernel)) (by rw [isSubtype_type]; kernel_rfl)
theorem entry_si_next:entryFor table "set_iterator.__next__"=some Builtin.«set_iterator.__next__»:=entryFor_of_tree (by kernel_rfl)
theorem args_si_next (a:Value):argsOk "set_iterator.__next__" ⟨[a],[]⟩:=by unfold argsOk; kernel_rfl
theorem entry_set_iter:entryFor table "set.__iter__"=some Builtin.«frozenset.__iter__» :=
 entryFor_alias (id':="frozenset.__iter__") (by kernel_rfl) rfl (by decide +kernel) (by kernel_rfl)
theorem lookup_set_len:typeLookup (.type "set") "__len__"=pure (some (.builtin "set.__len__")):=by rw [typeLookup_type,builtinLookup_eq_fast]; kernel_rfl
def SIter (h:Heap) (it a:Addr) (first:Value) (i n ep:Nat):Prop:=∃ o,h.get? it=some o∧o.cls=.type "set_iterator"∧o.data=.fields #[first,.int i 0,.ref a,.int n 0,.int ep 0]
theorem SIter.typeIs {s:Shared} {it a:Addr} {first:Value} {i n ep:Nat} (h:SIter s.heap it a first i n ep):s.TypeIs (.ref it) "set_iterator":=by
 obtain ⟨o,ho,hc,_⟩:=h
 exact ⟨o,ho,hc⟩
section
variable {prog:Program} {w:World} {A:Around} {E:Value→Shared→Prop} {s:Shared}
theorem next_D {it a tp:Addr} {i n ep p:Nat} {o:Obj} {es:Array (Int×Value)} {t:SetTable} {pl:Array Value} {x:Int×Value} {tk:Tok} {Q:Option Value→Shared→Prop} (hit:SIter s.heap it a (.ref tp) i n ep)
  (ho:s.heap.get? a=some o) (hd:o.data=.set es ep t) (hf:t.fits es.size=true) (hn:es.size=n) (htp:IsTup s.heap tp pl) (hp:pl[i]? = some (.int p tk)) (hx:es[p]? = some x)
  (hQ:∀ h',SIter h' it a (.ref tp) (i+1) n ep→Heap.SameBut it s.heap h'→Q (some x.2) { s with heap:=h' }):wpAny (model prog w) A (pyNext (.ref it)) Q E s:=by
 obtain ⟨oi,hoi,hci,hdi⟩:=id hit
 unfold pyNext
 refine wpAny_bind (wpAny_attempt (wpAny_callSpecial?_slot (name:=Str.ofString "__next__") hit.typeIs slot_si_next (wpAny_call_entry slot_si_next hit.typeIs entry_si_next ?_ (args_si_next _))))
 refine wpAny_bind (wpAny_pure ?_)
 refine wpAny_bind (wpAny_fieldsOf hoi hdi ?_)
 dsimp only
 unfold setEntries
 refine wpAny_bind (wpAny_bind (wpAny_setState_of ho hd hf (wpAny_pure ?_)))
 rw [if_neg (by simp [hn])]
 obtain ⟨ot,hot,_,nt,hdt⟩:=htp
 refine wpAny_bind (wpAny_seqItems hot hdt ?_)
 simp only [Int.toNat_natCast,hp]
 unfold setNextDrawn
 refine wpAny_bind (wpAny_bind (wpAny_setState_of ho hd hf ?_))
 simp only [bne_self_eq_false,Bool.false_eq_true,if_false,hx]
 refine wpAny_pure (wpAny_bind (wpAny_setField hoi hdi (by simp) (wpAny_pure ⟨x.2,rfl,wpAny_pure (hQ _ ?_ (Heap.SameBut.update ..))⟩)))
 exact ⟨_,Heap.get?_update_self _ hoi (Obj.isFreed_of_fields (Obj.data_mapFields hdi _)),(Obj.cls_mapFields ..).trans hci,by rw [Obj.data_mapFields hdi]; simp [rawInt]⟩
theorem stop_here {Q:Option Value→Shared→Prop} (hh:A.handled=none) (hQ:∀ h',(∀ b o,s.heap.get? b=some o→h'.get? b=some o)→Q none { s with heap:=h' }) :
  wpAny (model prog w) A.in1 (do let e ← newExc (.type "StopIteration") []; raiseNew e) (fun fin s'=>∃ v,fin=Fin.done (Flow.ret v)∧wpAny (model prog w) A (pure (some v)) Q E s')
   (fun e s'=>wpAny (model prog w) A (do let b ← isInstance e (.type "StopIteration"); if b=true then pure none else throw e) Q E s') s:=by
 refine wpAny_bind ?_
 simp only [newExc,newTuple]
 refine wpAny_bind (wpAny_newObj_type ?_ (by size_fits))
 refine wpAny_bind (m:=firstArgMember _ _) (wpAny_of_eq (a:=Value.none) (by first | rfl | (simp only [firstArgMember]; rfl)) ?_)
 refine wpAny_newObj_type ?_ (by size_fits)
 simp only [raiseNew]
 refine wpAny_bind (wpAny_handled ?_)
 rw [show A.in1.handled=none from hh]
 refine wpAny_bind (wpAny_pure (wpAny_throw ?_))
 refine wpAny_bind (wpAny_isInstance (T:="StopIteration") (b:=true) ⟨_,Heap.get?_push_size _ rfl,rfl⟩ isSubtype_stop ?_)
 exact wpAny_pure (hQ _ fun b o e=>Heap.get?_push_of_some _ (Heap.get?_push_of_some _ e))
theorem end_D {it a tp:Addr} {i n ep:Nat} {o:Obj} {es:Array (Int×Value)} {t:SetTable} {pl:Array Value} {Q:Option Value→Shared→Prop} (hh:A.handled=none) (hit:SIter s.heap it a (.ref tp) i n ep)
  (ho:s.heap.get? a=some o) (hd:o.data=.set es ep t) (hf:t.fits es.size=true) (hn:es.size=n) (htp:IsTup s.heap tp pl) (hp:pl[i]? = none)
  (hQ:∀ h',(∀ b o,b≠it→s.heap.get? b=some o→h'.get? b=some o)→Q none { s with heap:=h' }):wpAny (model prog w) A (pyNext (.ref it)) Q E s:=by
 obtain ⟨oi,hoi,hci,hdi⟩:=id hit
 unfold pyNext
 refine wpAny_bind (wpAny_attempt (wpAny_callSpecial?_slot (name:=Str.ofString "__next__") hit.typeIs slot_si_next (wpAny_call_entry slot_si_next hit.typeIs entry_si_next ?_ (args_si_next _))))
 refine wpAny_bind (wpAny_pure ?_)
 refine wpAny_bind (wpAny_fieldsOf hoi hdi ?_)
 dsimp only
 unfold setEntries
 refine wpAny_bind (wpAny_bind (wpAny_setState_of ho hd hf (wpAny_pure ?_)))
 rw [if_neg (by simp [hn])]
 obtain ⟨ot,hot,_,nt,hdt⟩:=htp
 refine wpAny_bind (wpAny_seqItems hot hdt ?_)
 simp only [Int.toNat_natCast,hp]
 have hg1:=Heap.get?_update_self (Obj.mapFields (·.setIfInBounds 0 (rawInt 0))) hoi (Obj.isFreed_of_fields (Obj.data_mapFields hdi _))
 refine wpAny_bind (wpAny_setField hoi hdi (by simp) (wpAny_bind (wpAny_setField hg1 (Obj.data_mapFields hdi _) (by simp) ?_)))
 refine stop_here hh fun h' k=>hQ h' fun b o hb e=>k b o ?_
 rw [Heap.get?_update_ne _ _ _ _ hb,Heap.get?_update_ne _ _ _ _ hb]
 exact e
theorem next_I {it a:Addr} {i n ep slot nx:Nat} {o:Obj} {es:Array (Int×Value)} {t:SetTable} {x:Value} {Q:Option Value→Shared→Prop} (hit:SIter s.heap it a (.int slot 0) i n ep)
  (ho:s.heap.get? a=some o) (hd:o.data=.set es ep t) (hf:t.fits es.size=true) (hn:es.size=n) (hx:∀ (A':Around) (E':Value→Shared→Prop) (Q':Option (Value×Nat)→Shared→Prop),Q' (some (x,nx)) s→wpAny (model prog w) A' (setNext a slot i ep) Q' E' s)
  (hQ:∀ h',SIter h' it a (.int nx 0) (i+1) n ep→Heap.SameBut it s.heap h'→Q (some x) { s with heap:=h' }):wpAny (model prog w) A (pyNext (.ref it)) Q E s:=by
 obtain ⟨oi,hoi,hci,hdi⟩:=id hit
 unfold pyNext
 refine wpAny_bind (wpAny_attempt (wpAny_callSpecial?_slot (name:=Str.ofString "__next__") hit.typeIs slot_si_next (wpAny_call_entry slot_si_next hit.typeIs entry_si_next ?_ (args_si_next _))))
 refine wpAny_bind (wpAny_pure ?_)
 refine wpAny_bind (wpAny_fieldsOf hoi hdi ?_)
 dsimp only
 unfold setEntries
 refine wpAny_bind (wpAny_bind (wpAny_setState_of ho hd hf (wpAny_pure ?_)))
 rw [if_neg (by simp [hn])]
 simp only [Int.toNat_natCast]
 refine wpAny_bind (hx _ _ _ ?_)
 dsimp only
 have hg1:=Heap.get?_update_self (Obj.mapFields (·.setIfInBounds 0 (rawInt nx))) hoi (Obj.isFreed_of_fields (Obj.data_mapFields hdi _))
 refine wpAny_bind (wpAny_setField hoi hdi (by simp) (wpAny_bind (wpAny_setField hg1 (Obj.data_mapFields hdi _) (by simp) (wpAny_pure ⟨x,rfl,wpAny_pure (hQ _ ?_ ((Heap.SameBut.update ..).trans (Heap.SameBut.update ..)))⟩))))
 refine ⟨_,Heap.get?_update_self _ hg1 (Obj.isFreed_of_fields (Obj.data_mapFields (Obj.data_mapFields hdi _) _)),(Obj.cls_mapFields ..).trans ((Obj.cls_mapFields ..).trans hci),?_⟩
 rw [Obj.data_mapFields (Obj.data_mapFields hdi _)]
 simp [rawInt]
theorem end_I {it a:Addr} {i n ep slot:Nat} {o:Obj} {es:Array (Int×Value)} {t:SetTable} {Q:Option Value→Shared→Prop} (hh:A.handled=none) (hit:SIter s.heap it a (.int slot 0) i n ep)
  (ho:s.heap.get? a=some o) (hd:o.data=.set es ep t) (hf:t.fits es.size=true) (hn:es.size=n) (hx:∀ (A':Around) (E':Value→Shared→Prop) (Q':Option (Value×Nat)→Shared→Prop),Q' none s→wpAny (model prog w) A' (setNext a slot i ep) Q' E' s)
  (hQ:∀ h',(∀ b o,b≠it→s.heap.get? b=some o→h'.get? b=some o)→Q none { s with heap:=h' }):wpAny (model prog w) A (pyNext (.ref it)) Q E s:=by
 obtain ⟨oi,hoi,hci,hdi⟩:=id hit
 unfold pyNext
 refine wpAny_bind (wpAny_attempt (wpAny_callSpecial?_slot (name:=Str.ofString "__next__") hit.typeIs slot_si_next (wpAny_call_entry slot_si_next hit.typeIs entry_si_next ?_ (args_si_next _))))
 refine wpAny_bind (wpAny_pure ?_)
 refine wpAny_bind (wpAny_fieldsOf hoi hdi ?_)
 dsimp only
 unfold setEntries
 refine wpAny_bind (wpAny_bind (wpAny_setState_of ho hd hf (wpAny_pure ?_)))
 rw [if_neg (by simp [hn])]
 simp only [Int.toNat_natCast]
 refine wpAny_bind (hx _ _ _ ?_)
 dsimp only
 refine wpAny_bind (wpAny_setField hoi hdi (by simp) ?_)
 refine stop_here hh fun h' k=>hQ h' fun b o hb e=>k b o ?_
 rw [Heap.get?_update_ne _ _ _ _ hb]
 exact e
theorem setNext_T {a:Addr} {i ep slot:Nat} {o:Obj} {es:Array (Int×Value)} {t:SetTable} {Q:Option (Value×Nat)→Shared→Prop} (hT:w.params.followText "set-order"=true)
  (ho:s.heap.get? a=some o) (hd:o.data=.set es ep t) (hf:t.fits es.size=true) (h:Q (((pickOrder (w.params.setOrder a ep) es)[i]?).map fun e=>(e.2,slot)) s):wpAny (model prog w) A (setNext a slot i ep) Q E s:=by
 unfold setNext
 refine wpAny_bind (wpAny_setState_of ho hd hf ?_)
 dsimp only
 unfold setsByText
 refine wpAny_bind (wpAny_bind (wpAny_askSetting (wpAny_pure ?_)))
 have hT':((⟨(model prog w).prog,(model prog w).w.params⟩:Setting).params.followText "set-order")=true:=hT
 rw [if_pos hT']
 simp only [bne_self_eq_false,Bool.false_eq_true,if_false]
 unfold setWalk setsByText
 refine wpAny_bind (wpAny_bind (wpAny_setState_of ho hd hf ?_))
 dsimp only
 refine wpAny_bind (wpAny_bind (wpAny_askSetting (wpAny_pure ?_)))
 rw [if_pos hT']
 refine wpAny_bind (wpAny_askSetting (wpAny_pure (wpAny_pure h)))
theorem setNext_1 {a:Addr} {i ep slot:Nat} {o:Obj} {es:Array (Int×Value)} {t:SetTable} {Q:Option (Value×Nat)→Shared→Prop} (hT:w.params.followText "set-order"=false)
  (ho:s.heap.get? a=some o) (hd:o.data=.set es ep t) (hf:t.fits es.size=true) (hl:t.led=true) (h1:es.size≤1)
  (h:Q (match es[SetTable.below t.place slot]?,t.place[SetTable.below t.place slot]? with | some (_,x),some j=>some (x,j+1) | _,_=>none) s):wpAny (model prog w) A (setNext a slot i ep) Q E s:=by
 unfold setNext
 refine wpAny_bind (wpAny_setState_of ho hd hf ?_)
 dsimp only
 unfold setsByText
 refine wpAny_bind (wpAny_bind (wpAny_askSetting (wpAny_pure ?_)))
 have hT':((⟨(model prog w).prog,(model prog w).w.params⟩:Setting).params.followText "set-order")=false:=hT
 rw [if_neg (by rw [hT']; exact Bool.false_ne_true)]
 have hdr:(!t.plain && decide (es.size > 1))=false:=by
  rw [decide_eq_false (by omega),Bool.and_false]
 refine (show wpAny (model prog w) A (if (!t.plain && decide (es.size > 1))=true then _ else _) Q E s from ?_)
 rw [if_neg (by rw [hdr]; exact Bool.false_ne_true)]
 refine wpAny_bind (m:=if (!t.led && !es.isEmpty)=true then unsupported "set:maker-not-led" else pure ()) ?_
 rw [if_neg (by rw [hl]; simp)]
 exact wpAny_pure (wpAny_pure h)
end
theorem pick_go {α:Type} (next:Nat→Nat):∀ (fuel k:Nat) (left:List α) (out:Array α),left.length=fuel→∃ l',(pickOrder.go next fuel k left out).toList=out.toList ++ l'∧l'.Perm left
 | 0,k,left,out,h=>by
  have:left=[]:=List.length_eq_zero_iff.mp h
  subst this
  exact ⟨[],by rw [List.append_nil]; rfl,List.Perm.nil⟩
 | fuel+1,k,left,out,h=>by
  have hi:next k % left.length < left.length:=Nat.mod_lt _ (by omega)
  obtain ⟨l',e,p⟩:=pick_go next fuel (k+1) (left.eraseIdx (next k % left.length)) (out.push left[next k % left.length]) (by rw [List.length_eraseIdx_of_lt hi]; omega)
  refine ⟨left[next k % left.length]::l',?_,(p.cons _).trans (erase_perm left _ hi)⟩
  unfold pickOrder.go
  rw [List.getElem?_eq_getElem hi]
  dsimp only
  rw [e,Array.toList_push,List.append_assoc]
  rfl
theorem pick_perm {α:Type} (next:Nat→Nat) (xs:Array α):(pickOrder next xs).toList.Perm xs.toList:=by
 obtain ⟨l',e,p⟩:=pick_go next xs.size 0 xs.toList #[] (by simp)
 unfold pickOrder
 rw [e]
 simpa using p
section
variable {prog:Program} {w:World} {A:Around} {E:Value→Shared→Prop}
theorem draw_perm {α:Type}:∀ (n:Nat) (xs:List α) (s:Shared) (Q:List α→Shared→Prop),xs.length=n→(∀ ys d,ys.Perm xs→Q ys { s with drawn:=d })→wpAny (model prog w) A (drawOrder n xs) Q E s
 | 0,xs,s,Q,h,q=>by
  have:xs=[]:=List.length_eq_zero_iff.mp h
  subst this
  exact wpAny_pure (q [] s.drawn List.Perm.nil)
 | n+1,xs,s,Q,h,q=>by
  cases xs with
  | nil=>simp at h
  | cons x r =>
   unfold drawOrder
   refine wpAny_bind (m:=choose .order (x::r).length) (show wpAny (model prog w) A (choose .order (x::r).length) _ E s from fun Γ p hΓ=>⟨by simp,?_⟩)
   have hi:(model prog w).w.draws .order (s.drawn.get .order) % (x::r).length < (x::r).length:=Nat.mod_lt _ (by simp)
   refine (show wpAny (model prog w) A (match (x::r)[(model prog w).w.draws .order (s.drawn.get .order) % (x::r).length]? with | some x'=>_ | none=>_) Q E { s with drawn:=s.drawn.bump .order } from ?_)
   rw [List.getElem?_eq_getElem hi]
   dsimp only
   refine wpAny_bind (draw_perm n _ _ _ (by rw [List.length_eraseIdx_of_lt hi]; simp at h ⊢; omega) fun ys d p=>wpAny_pure (q _ d ?_))
   exact (p.cons _).trans (erase_perm (x::r) _ hi)
end
section
variable {prog:Program} {w:World} {A:Around} {E:Value→Shared→Prop} {s:Shared}
theorem slot_si_iter:Slot "set_iterator" "__iter__" "set_iterator.__iter__" :=
 .of (owner:="set_iterator") (n:="__iter__") (by rw [typeLookup_type,builtinLookup_eq_fast]; kernel_rfl) (by decide +kernel) (by decide +kernel) (by decide +kernel)
  (by first | exact .inl (by decide +kernel) | exact .inr (by decide +kernel)) (by rw [isSubtype_type]; kernel_rfl)
theorem entry_si_iter:entryFor table "set_iterator.__iter__"=some Builtin.«dict_keyiterator.__iter__» :=
 entryFor_alias (id':="dict_keyiterator.__iter__") (by kernel_rfl) rfl (by decide +kernel) (by kernel_rfl)
theorem args_si_iter (a:Value):argsOk "set_iterator.__iter__" ⟨[a],[]⟩:=by unfold argsOk; kernel_rfl
theorem self_S {it a:Addr} {first:Value} {i n ep:Nat} {Q:Value→Shared→Prop} (hit:SIter s.heap it a first i n ep) (h:Q (.ref it) s):wpAny (model prog w) A (pyIter (.ref it)) Q E s:=by
 refine wpAny_pyIter_slot hit.typeIs slot_si_iter (wpAny_call_entry slot_si_iter hit.typeIs entry_si_iter ?_ (args_si_iter _))
 refine (show wpAny _ _ (ret (.ref it)) _ _ s from ?_)
 exact wpAny_pure ⟨_,rfl,"set_iterator",_,hit.typeIs,slot_si_next.lookup,h⟩
theorem elem_str {es:Array (Int×Value)} {e:Int×Value} (hel:ElemsOf (PySem.strKind prog w) es.toList) (h:e∈es.toList):∃ t,e.2=.str (strOf e.2) t:=by
 obtain ⟨⟨k,hk,_⟩,_⟩:=hel e h
 obtain ⟨h1,t,h2⟩:=is_str hk
 rw [h1]
 exact ⟨t,h2⟩
theorem below_one {place:Array Nat} {j:Nat} (h:place.size=1) (e:place[0]? = some j):SetTable.below place 0=0∧SetTable.below place (j+1)=1:=by
 have e2:∀ d,place.getD 0 d=j:=fun d=>by rw [Array.getD_eq_getD_getElem?,e] <;> rfl
 constructor
 · unfold SetTable.below
   rw [h]
   unfold SetTable.below.go
   rw [if_pos (by decide)]
   dsimp only
   rw [show (0+1) / 2=0 by decide,e2,if_neg (by omega)]
   rfl
 · unfold SetTable.below
   rw [h]
   unfold SetTable.below.go
   rw [if_pos (by decide)]
   dsimp only
   rw [show (0+1) / 2=0 by decide,e2,if_pos (by omega)]
   rfl
theorem fp_two (x a:Addr):∀ b∈[x,a],b=a∨x≤b:=fun b hb=>by
 rcases List.mem_cons.mp hb with z | z
 · rw [z]; exact .inr (Nat.le_refl _)
 · exact .inl (List.mem_singleton.mp z)
theorem iter_S {a:Addr} {ds:List Str} {Q:Value→Shared→Prop} (hS:SetS prog w s.heap a ds)
  (hQ:∀ (it:Addr) (fp:List Addr) (St:Nat→Heap→Prop) (ts:List Str) (s':Shared),s.heap.objs.size≤it→(∀ b∈fp,b=a∨s.heap.objs.size≤b)→s'.os=s.os→s'.gens=s.gens→s.heap.objs.size≤s'.heap.objs.size→(∀ b o,s.heap.get? b=some o→s'.heap.get? b=some o)→(∀ b∈fp,b < s'.heap.objs.size)→it∈fp →
   ts.Perm ds→St 0 s'.heap→(∀ A':Around,A'.handled=none→Walks prog w A' it fp [it] ts.length (fun i v=>∃ x t,ts[i]? = some x∧v=.str x t) St)→Q (.ref it) s') :
  wpAny (model prog w) A (pyIter (.ref a)) Q E s:=by
 obtain ⟨o,es,ep,t,ho,hex,hd,hel,hp,hb,hf,hled,hpl⟩:=id hS
 have hT:s.TypeIs (.ref a) "set":=⟨o,ho,hex.1⟩
 have ha:a < s.heap.objs.size:=Heap.lt_size ho
 refine wpAny_pyIter_slot hT PySem.F.slot_set_iter (wpAny_call_entry PySem.F.slot_set_iter hT entry_set_iter ?_ (PySem.F.args_set_iter_1 _))
 unfold Builtin.«frozenset.__iter__»
 refine wpAny_bind (m:=Builtin.Frozenset.slot0 "__iter__" { pos:=[Value.ref a] }) (wpAny_pure ?_)
 unfold Builtin.Frozenset.sizeOf setEntries setDrawn
 refine wpAny_bind (wpAny_bind (wpAny_bind (wpAny_setState_of ho hd hf (wpAny_pure (wpAny_pure ?_)))))
 refine wpAny_bind (wpAny_bind (wpAny_setState_of ho hd hf ?_))
 dsimp only
 unfold setsByText
 refine wpAny_bind (wpAny_bind (wpAny_askSetting (wpAny_pure (wpAny_pure ?_))))
 cases hby:w.params.followText "set-order" with
 | true =>
  have hT':((⟨(model prog w).prog,(model prog w).w.params⟩:Setting).params.followText "set-order")=true:=hby
  rw [hT',if_neg (by simp)]
  refine wpAny_bind (wpAny_pure (wpAny_bind (wpAny_setEpoch_of ho hd hf (wpAny_bind (wpAny_newObj_type (wpAny_pure ⟨_,rfl,"set_iterator",_,⟨_,Heap.get?_push_size _ rfl,rfl⟩,slot_si_next.lookup,?_⟩))))))
  have pp:=pick_perm (w.params.setOrder a ep) es
  have hlen:(pickOrder (w.params.setOrder a ep) es).size=es.size:=by rw [←Array.length_toList,pp.length_eq,Array.length_toList]
  refine hQ s.heap.objs.size [s.heap.objs.size,a] (fun i h=>SIter h s.heap.objs.size a (.int (0:Nat) 0) i es.size ep∧h.get? a=some o) ((pickOrder (w.params.setOrder a ep) es).toList.map fun e=>strOf e.2) _ (Nat.le_refl _) (fp_two _ _) rfl rfl (by show _≤Array.size _; rw [Heap.size_push]; exact Nat.le_succ _) (fun b o e=>Heap.get?_push_of_some _ e) (fun b hb=>?_) (by simp) ((pp.map _).trans hp) ⟨⟨_,Heap.get?_push_size _ rfl,rfl,rfl⟩,Heap.get?_push_of_some _ ho⟩ fun A' hA=>?_
  · show b < Array.size _
    rw [Heap.size_push]
    rcases List.mem_cons.mp hb with z | z
    · rw [z]; exact Nat.lt_succ_self _
    · rw [List.mem_singleton.mp z]; exact Nat.lt_succ_of_lt ha
  · have hne:a≠s.heap.objs.size:=Nat.ne_of_lt ha
    refine ⟨by simp,fun i h h' ⟨⟨oi,e1,e2⟩,e3⟩ k=>⟨⟨oi,k _ (by simp) _ e1,e2⟩,k _ (by simp) _ e3⟩,fun i s1 Q1 E1 hi ⟨st,sa⟩ q=>?_,fun s1 Q1 E1 ⟨st,sa⟩ q=>?_,fun i s1 Q1 E1 ⟨st,_⟩ q=>self_S st q⟩
    · rw [List.length_map,Array.length_toList] at hi
      obtain ⟨e,he,hm⟩:∃ e,(pickOrder (w.params.setOrder a ep) es)[i]? = some e∧e∈(pickOrder (w.params.setOrder a ep) es).toList:=⟨_,getElem?_pos _ i hi,by simp⟩
      obtain ⟨tk,hv⟩:=elem_str hel (pp.mem_iff.mp hm)
      refine next_I (nx:=0) (x:=e.2) st sa hd hf rfl (fun A2 E2 Q2 q2=>setNext_T hby sa hd hf (by rw [he]; exact q2)) fun h' st' sb=>q e.2 h' s1.toks ⟨strOf e.2,tk,?_,hv⟩ ⟨st',?_⟩ fun b o hb e=>?_
      · rw [List.getElem?_map,Array.getElem?_toList,he] <;> rfl
      · rw [sb.2 a hne]; exact sa
      · rw [sb.2 b (by simpa using hb)]; exact e
    · refine end_I hA st sa hd hf rfl (fun A2 E2 Q2 q2=>setNext_T hby sa hd hf (by rw [Array.getElem?_eq_none (by rw [List.length_map,Array.length_toList]; exact Nat.le_refl _)]; exact q2)) fun h' k=>q h' s1.toks fun b o hb e=>k b o (by simpa using hb) e
 | false =>
  have hT':((⟨(model prog w).prog,(model prog w).w.params⟩:Setting).params.followText "set-order")=false:=hby
  rw [hT']
  by_cases h1:es.size≤1
  · rw [if_neg (by
     show ¬ (!false && (!t.plain && decide (es.size > 1)))=true
     rw [decide_eq_false (by omega),Bool.and_false]
     simp)]
    refine wpAny_bind (wpAny_pure (wpAny_bind (wpAny_setEpoch_of ho hd hf (wpAny_bind (wpAny_newObj_type (wpAny_pure ⟨_,rfl,"set_iterator",_,⟨_,Heap.get?_push_size _ rfl,rfl⟩,slot_si_next.lookup,?_⟩))))))
    have hl:t.led=true:=by rw [hled,hby]; rfl
    have hps:t.place.size=es.size:=by
     simp only [SetTable.fits,Bool.and_eq_true,beq_iff_eq] at hf
     exact hf.1
    have hne:a≠s.heap.objs.size:=Nat.ne_of_lt ha
    refine hQ s.heap.objs.size [s.heap.objs.size,a] (fun i h=>(∃ slot,SIter h s.heap.objs.size a (.int (slot:Nat) 0) i es.size ep∧(i=0→slot=0)∧(i=1→∀ j,t.place[0]? = some j→slot=j+1))∧h.get? a=some o) (es.toList.map fun e=>strOf e.2) _ (Nat.le_refl _) (fp_two _ _) rfl rfl (by show _≤Array.size _; rw [Heap.size_push]; exact Nat.le_succ _) (fun b o e=>Heap.get?_push_of_some _ e) (fun b hb=>?_) (by simp) hp ⟨⟨0,⟨_,Heap.get?_push_size _ rfl,rfl,rfl⟩,fun _=>rfl,fun z=>by cases z⟩,Heap.get?_push_of_some _ ho⟩ fun A' hA=>?_
    · show b < Array.size _
      rw [Heap.size_push]
      rcases List.mem_cons.mp hb with z | z
      · rw [z]; exact Nat.lt_succ_self _
      · rw [List.mem_singleton.mp z]; exact Nat.lt_succ_of_lt ha
    · refine ⟨by simp,fun i h h' ⟨⟨sl,⟨oi,e1,e2⟩,z⟩,e3⟩ k=>⟨⟨sl,⟨oi,k _ (by simp) _ e1,e2⟩,z⟩,k _ (by simp) _ e3⟩,fun i s1 Q1 E1 hi ⟨⟨sl,st,z0,z1⟩,sa⟩ q=>?_,fun s1 Q1 E1 ⟨⟨sl,st,z0,z1⟩,sa⟩ q=>?_,fun i s1 Q1 E1 ⟨⟨_,st,_⟩,_⟩ q=>self_S st q⟩
      · rw [List.length_map,Array.length_toList] at hi
        have hi0:i=0:=by omega
        have hs1:es.size=1:=by omega
        subst hi0
        have hsl:=z0 rfl
        subst hsl
        obtain ⟨e,he,hm⟩:∃ e,es[0]? = some e∧e∈es.toList:=⟨_,getElem?_pos _ 0 (by omega),by simp⟩
        obtain ⟨j,hj⟩:∃ j,t.place[0]? = some j:=⟨_,getElem?_pos _ 0 (by omega)⟩
        obtain ⟨b0,b1⟩:=below_one (by omega) hj
        obtain ⟨tk,hv⟩:=elem_str hel hm
        refine next_I (nx:=j+1) (x:=e.2) st sa hd hf rfl (fun A2 E2 Q2 q2=>setNext_1 hby sa hd hf hl h1 (by rw [b0,he,hj]; exact q2)) fun h' st' sb=>q e.2 h' s1.toks ⟨strOf e.2,tk,?_,hv⟩ ⟨⟨j+1,st',fun z=>by omega,fun _ j' hj'=>by rw [hj] at hj'; cases hj'; rfl⟩,?_⟩ fun b o hb e=>?_
        · rw [List.getElem?_map,Array.getElem?_toList,he] <;> rfl
        · rw [sb.2 a hne]; exact sa
        · rw [sb.2 b (by simpa using hb)]; exact e
      · rw [List.length_map,Array.length_toList] at st z0 z1
        have hnone:es[SetTable.below t.place sl]? = none:=by
         by_cases hs0:es.size=0
         · exact Array.getElem?_eq_none (by omega)
         · have hs1:es.size=1:=by omega
           obtain ⟨j,hj⟩:∃ j,t.place[0]? = some j:=⟨_,getElem?_pos _ 0 (by omega)⟩
           obtain ⟨b0,b1⟩:=below_one (by omega) hj
           have hsl:=z1 hs1 j hj
           rw [hsl,b1]
           exact Array.getElem?_eq_none (by omega)
        refine end_I hA st sa hd hf rfl (fun A2 E2 Q2 q2=>setNext_1 hby sa hd hf hl h1 (by rw [hnone]; exact q2)) fun h' k=>q h' s1.toks fun b o hb e=>k b o (by simpa using hb) e
  · have hpf:=hpl (by omega)
    rw [if_pos (by
     show (!false && (!t.plain && decide (es.size > 1)))=true
     rw [hpf,decide_eq_true (by omega)]
     rfl)]
    refine wpAny_bind (draw_perm _ _ s _ List.length_range fun pl d hpm=>?_)
    have hpl':pl.length=es.size:=by rw [hpm.length_eq,List.length_range]
    refine wpAny_bind (wpAny_newTuple ?_ (by rw [List.length_map,hpl']; exact fits_of_scanBound hb))
    have ho1:(s.heap.push { cls:=.type "tuple",data:=.seq (pl.map fun (i:Nat)=>rawInt i).toArray }).get? a=some o:=Heap.get?_push_of_some _ ho
    refine wpAny_bind (wpAny_setEpoch_of (s:={ s with heap:=s.heap.push { cls:=.type "tuple",data:=.seq (pl.map fun (i:Nat)=>rawInt i).toArray },drawn:=d }) ho1 hd hf (wpAny_bind (wpAny_newObj_type (wpAny_pure ⟨_,rfl,"set_iterator",_,⟨_,Heap.get?_push_size _ rfl,rfl⟩,slot_si_next.lookup,?_⟩))))
    dsimp only
    have hs1:(s.heap.push { cls:=.type "tuple",data:=.seq (pl.map fun (i:Nat)=>rawInt i).toArray }).objs.size=s.heap.objs.size+1:=Heap.size_push _ _
    have htp:(s.heap.push { cls:=.type "tuple",data:=.seq (pl.map fun (i:Nat)=>rawInt i).toArray }).get? s.heap.objs.size=some { cls:=.type "tuple",data:=.seq (pl.map fun (i:Nat)=>rawInt i).toArray }:=Heap.get?_push_size _ rfl
    have hk1:∀ b o,s.heap.get? b=some o→(s.heap.push { cls:=.type "tuple",data:=.seq (pl.map fun (i:Nat)=>rawInt i).toArray }).get? b=some o:=fun b o e=>Heap.get?_push_of_some _ e
    generalize s.heap.push { cls:=.type "tuple",data:=.seq (pl.map fun (i:Nat)=>rawInt i).toArray }=h1 at ho1 hs1 htp hk1 ⊢
    have e0:(List.range es.size).map (fun p=>strOf ((es[p]?).getD (0,.none)).2)=es.toList.map fun e=>strOf e.2:=by
     refine List.ext_getElem? fun k=>?_
     have ek:es.toList[k]? = es[k]?:=by simp
     rw [List.getElem?_map,List.getElem?_map,ek]
     by_cases hk:k < es.size
     · rw [List.getElem?_range hk,getElem?_pos es k hk]
       show some (strOf ((es[k]?).getD (0,.none)).2)=some (strOf es[k].2)
       rw [getElem?_pos es k hk] <;> rfl
     · rw [List.getElem?_eq_none (by rw [List.length_range]; omega),Array.getElem?_eq_none (by omega)] <;> rfl
    have hne1:a≠h1.objs.size:=by rw [hs1]; exact Nat.ne_of_lt (Nat.lt_succ_of_lt ha)
    have hne2:s.heap.objs.size≠h1.objs.size:=by rw [hs1]; exact Nat.ne_of_lt (Nat.lt_succ_self _)
    refine hQ h1.objs.size [h1.objs.size,a,s.heap.objs.size] (fun i h=>SIter h h1.objs.size a (.ref s.heap.objs.size) i es.size ep∧h.get? a=some o∧h.get? s.heap.objs.size=some { cls:=.type "tuple",data:=.seq (pl.map fun (i:Nat)=>rawInt i).toArray }) (pl.map fun p=>strOf ((es[p]?).getD (0,.none)).2) _ (by rw [hs1]; exact Nat.le_succ _) (fun b hb=>by
     simp only [List.mem_cons,List.not_mem_nil,or_false] at hb
     rcases hb with z | z | z
     · rw [z,hs1]; exact .inr (Nat.le_succ _)
     · exact .inl z
     · rw [z]; exact .inr (Nat.le_refl _)) rfl rfl (by show _≤Array.size _; rw [Heap.size_push,hs1]; exact Nat.le_succ_of_le (Nat.le_succ _)) (fun b o e=>Heap.get?_push_of_some _ (hk1 b o e)) (fun b hb=>?_) (by simp) (((hpm.map _).trans (by rw [e0])).trans hp) ⟨⟨_,Heap.get?_push_size _ rfl,rfl,rfl⟩,Heap.get?_push_of_some _ ho1,Heap.get?_push_of_some _ htp⟩ fun A' hA=>?_
    · show b < Array.size _
      rw [Heap.size_push]
      simp only [List.mem_cons,List.not_mem_nil,or_false] at hb
      rcases hb with z | z | z
      · rw [z]; exact Nat.lt_succ_self _
      · rw [z,hs1]; exact Nat.lt_succ_of_lt (Nat.lt_succ_of_lt ha)
      · rw [z,hs1]; exact Nat.lt_succ_of_lt (Nat.lt_succ_self _)
    · refine ⟨by simp,fun i h h' ⟨⟨oi,e1,e2⟩,e3,e4⟩ k=>⟨⟨oi,k _ (by simp) _ e1,e2⟩,k _ (by simp) _ e3,k _ (by simp) _ e4⟩,fun i s1 Q1 E1 hi ⟨st,sa,sp⟩ q=>?_,fun s1 Q1 E1 ⟨st,sa,sp⟩ q=>?_,fun i s1 Q1 E1 ⟨st,_⟩ q=>self_S st q⟩
      · rw [List.length_map] at hi
        have hpi:pl[i]? = some pl[i]:=List.getElem?_eq_getElem hi
        have hlt:pl[i] < es.size:=List.mem_range.mp (hpm.mem_iff.mp (List.getElem_mem hi))
        have he:es[pl[i]]? = some es[pl[i]]:=getElem?_pos es pl[i] hlt
        obtain ⟨tk,hv⟩:=elem_str hel (show es[pl[i]]∈es.toList by simp)
        refine next_D st sa hd hf rfl ⟨_,sp,rfl,_,rfl⟩ (p:=pl[i]) (tk:=0) (by simp [hpi,rawInt]) he fun h' st' sb=>q es[pl[i]].2 h' s1.toks ⟨strOf es[pl[i]].2,tk,?_,hv⟩ ⟨st',?_,?_⟩ fun b o hb e=>?_
        · rw [List.getElem?_map,hpi]
          show some (strOf ((es[pl[i]]?).getD (0,.none)).2)=_
          rw [he] <;> rfl
        · rw [sb.2 a hne1]; exact sa
        · rw [sb.2 _ hne2]; exact sp
        · rw [sb.2 b (by simpa using hb)]; exact e
      · refine end_D hA st sa hd hf rfl ⟨_,sp,rfl,_,rfl⟩ (by simp) fun h' k=>q h' s1.toks fun b o hb e=>k b o (by simpa using hb) e
theorem strs_of:∀ {vs:List Value} {ts:List Str},vs.length=ts.length→(∀ (j:Nat) v,vs[j]? = some v→∃ x t,ts[j]? = some x∧v=.str x t)→StrsAre vs ts
 | [],[],_,_=>.nil
 | [],_::_,h,_=>by simp at h
 | _::_,[],h,_=>by simp at h
 | v::vs,x::ts,h,hv=>by
  obtain ⟨y,t,e1,e2⟩:=hv 0 v rfl
  have:x=y:=by simpa using e1
  subst this
  rw [e2]
  exact .cons _ _ (strs_of (by simpa using h) fun j u e=>hv (j+1) u (by simpa using e))
theorem collect_S {a:Addr} {ds:List Str} {Q:List Value→Shared→Prop} (hh:A.handled=none) (hS:SetS prog w s.heap a ds) (hn:ds.length≤1000)
  (hQ:∀ (vs:List Value) (ts:List Str) (s':Shared),s'.os=s.os→s'.gens=s.gens→s.heap.objs.size≤s'.heap.objs.size→(∀ b o,s.heap.get? b=some o→s'.heap.get? b=some o)→ts.Perm ds→StrsAre vs ts→Q vs s'):wpAny (model prog w) A (collect (.ref a)) Q E s:=by
 obtain ⟨oa,_,_,_,hoa,hexa,_⟩:=id hS
 have haS:a < s.heap.objs.size:=Heap.lt_size hoa
 unfold collect
 refine wpAny_bind (wpAny_runValue (codeAny_builtin PySem.F.entry_proto_collect ?_))
 rw [Around.under_plainId PySem.F.plain_proto_collect _]
 refine (show wpAny _ A.in1 (newList [] >>= fun l=>again (.builtin "list.__iadd__" ⟨[l,.ref a],[]⟩)) _ _ s from ?_)
 refine wpAny_bind (wpAny_newObj_type (wpAny_pure ⟨plainId_quiet PySem.F.plain_list_iadd _,codeAny_builtin PySem.F.entry_list_iadd ?_⟩))
 rw [Around.under_plainId PySem.F.plain_list_iadd _]
 have hL0:(s.heap.push { cls:=.type "list",data:=.seq ([]:List Value).toArray }).get? s.heap.objs.size=some { cls:=.type "list",data:=.seq ([]:List Value).toArray }:=Heap.get?_push_size _ rfl
 have hk0:∀ b o,s.heap.get? b=some o→(s.heap.push { cls:=.type "list",data:=.seq ([]:List Value).toArray }).get? b=some o:=fun b o e=>Heap.get?_push_of_some _ e
 have hz0:(s.heap.push { cls:=.type "list",data:=.seq ([]:List Value).toArray }).objs.size=s.heap.objs.size+1:=Heap.size_push _ _
 have hne:s.heap.objs.size≠a:=Nat.ne_of_gt haS
 refine (show wpAny _ A.in1 (Builtin.List.listExtendWith (.ref s.heap.objs.size) (.ref a) (.ref s.heap.objs.size)) _ _ { s with heap:=s.heap.push { cls:=.type "list",data:=.seq ([]:List Value).toArray } } from ?_)
 unfold Builtin.List.listExtendWith
 have hT:Shared.TypeIs { s with heap:=s.heap.push { cls:=.type "list",data:=.seq ([]:List Value).toArray } } (.ref a) "set":=⟨oa,hk0 _ _ hoa,hexa.1⟩
 have h1:Builtin.List.listSameRef (.ref s.heap.objs.size) (.ref a)=false:=by simp [Builtin.List.listSameRef,hne]
 refine wpAny_bind (wpAny_typeOf hT ?_)
 rw [if_neg (by rw [h1]; decide)]
 refine wpAny_bind (iter_S (hS.keep fun o e=>hk0 _ _ e) fun it fp St ts s' hit fo o1 g1 z1 k1 fl hi hp st W=>?_)
 have hT':s'.TypeIs (.ref a) "set":=⟨oa,k1 _ _ (hk0 _ _ hoa),hexa.1⟩
 refine wpAny_bind (wpAny_holding ?_)
 unfold Builtin.List.listLengthHint
 refine wpAny_bind (wpAny_specialOf hT' lookup_set_len ?_)
 dsimp only
 rw [show splitId "set.__len__"=some ("set","__len__") from by decide +kernel]
 dsimp only
 refine wpAny_bind (wpAny_isInstance (b:=true) hT' sub_set_self ?_)
 simp only [Bool.not_true,Bool.false_eq_true,if_false]
 rw [if_pos (by decide +kernel)]
 refine wpAny_bind (wpAny_typeOf hT' ?_)
 dsimp only
 refine wpAny_pure ?_
 rw [if_pos (by decide +kernel)]
 have hLs:s'.heap.get? s.heap.objs.size=some { cls:=.type "list",data:=.seq ([]:List Value).toArray }:=k1 _ _ hL0
 have hSf:s.heap.objs.size∉fp:=fun hm=>by
  rcases fo _ hm with z | z
  · exact hne z
  · have z':(s.heap.push { cls:=.type "list",data:=.seq ([]:List Value).toArray }).objs.size≤s.heap.objs.size:=z
    rw [hz0] at z'
    exact Nat.lt_irrefl _ z'
 refine wpAny_bind (wpAny_rule ?_)
 unfold Builtin.List.listTouch
 refine wpAny_bind (wpAny_bind (listUpdate_at hLs rfl ?_ (by show 0≤sizeLine; exact Nat.zero_le _) (by show 1≤sizeLine+1; exact Nat.succ_le_succ (Nat.zero_le _))))
 have hL2:=get?_update_seq hLs (fun xs=>xs.push .none)
 refine listUpdate_at hL2 rfl ?_ (by show 1≤sizeLine; rw [sizeLine_eq]; decide) (by show 0≤sizeLine+1; exact Nat.zero_le _)
 have hL3:=get?_update_seq hL2 (fun xs=>xs.pop)
 have hk3:∀ b o,b≠s.heap.objs.size→s'.heap.get? b=some o→((s'.heap.update s.heap.objs.size (Obj.mapSeq fun xs=>xs.push .none)).update s.heap.objs.size (Obj.mapSeq fun xs=>xs.pop)).get? b=some o:=fun b o hb e=>by
  rw [Heap.get?_update_ne _ _ _ _ hb,Heap.get?_update_ne _ _ _ _ hb]
  exact e
 have hA:A.in1.handled=none:=hh
 have hlt:ts.length≤sizeLine:=by rw [hp.length_eq,sizeLine_eq]; omega
 refine wpAny_pure ⟨plainId_quiet PySem.F.plain_extend_loop _,codeAny_extend_loopS (W A.in1 hA).toS hlt s.heap.objs.size hSf _ (ts.length - 0) 0 _ #[] _ rfl (Nat.zero_le _) ?_ hL3 (ItemsOf.nil _) fun s'' acc' c' hm hS'' hacc=>?_⟩
 · exact (W A.in1 hA).frame 0 _ _ st fun b hb o e=>hk3 b o (fun z=>hSf (z ▸ hb)) e
 · refine wpAny_bind (wpAny_load hS'' (wpAny_pure (hQ acc'.toList ts s'' (hm.os.trans o1) (hm.gens.trans g1) (Nat.le_of_lt (Heap.lt_size hS'')) (fun b o e=>?_) hp (strs_of (by simpa using hacc.1) fun j v e=>hacc.2 j v (by simpa using e)))))
   have hb:=Heap.lt_size e
   have hb2:b≠s.heap.objs.size:=Nat.ne_of_lt hb
   have hb3:b≠it:=fun z=>by
    have z':(s.heap.push { cls:=.type "list",data:=.seq ([]:List Value).toArray }).objs.size≤it:=hit
    rw [hz0,←z] at z'
    exact Nat.lt_irrefl _ (Nat.lt_trans hb z')
   exact hm.heap b o (by simp only [List.mem_cons,List.not_mem_nil,or_false,not_or]; exact ⟨hb2,hb3⟩) (hk3 b o hb2 (k1 b o (hk0 b o e)))
end
section
variable {X:Cx}
def SetO (P:Program) (w:World) (r:Addr) (ds:List Str):HO:=.ext fun h=>SetS P w h r ds
theorem SetO.ok {P:Program} {w:World} {H:Hp} {h:Heap} {r:Addr} {ds:List Str} (hS:SetS P w h r ds):ObjOk P w H h r (SetO P w r ds) :=
 ⟨hS,(by obtain ⟨o,_,_,_,ho,_⟩:=hS; exact ⟨o,ho⟩),fun _ _ x k=>x.keep k⟩
theorem call_setS (hc:X.calm=true):CallR X (.type "set") (fun xs H Q=>∃ (p:Addr) (ss:List Str),xs=[.ref p]∧SqL X.K H p (ss.map V.str)∧ss.length≤1000∧∀ r,H r=none→Q (.ref r) (upd H r (SetO X.prog X.w r (ddS ss)))):=by
 intro pins s σ H xs us Q I r h
 obtain ⟨p,ss,rfl,hq,hn,q⟩:=h
 obtain ⟨u,rfl,rx⟩:=vals1 r
 cases rx
 obtain ⟨its,rv,pl,hz⟩:=I.list hq
 refine call_set_S (I.ok.hd hc) pl.isList (by simpa using strs_are rv) hn fun h' tk hS hz' hk=>?_
 exact ⟨.ref s.heap.objs.size,_,I.laid hk (Nat.le_refl _) (SetO.ok hS),rfl,q _ (I.hok.fresh (Nat.le_refl _))⟩
theorem sorted_fin {pins:List (Addr×Obj)} {σ:L2.St} {H:Hp} {s:Shared} {Q:VK} {vs:List Value} {ts:List Str} (I:Inv X pins σ H s) (hv:StrsAre vs ts) (hn:ts.length≤1000)
  (q:∀ (r:Addr) (us:List Str),H r=none→us.Perm ts→us.Pairwise leS→Q (.ref r) (upd H r (.lst (us.map V.str))))
  {out:Array Keyed} {s':Shared} {r:Addr} {e:Nat} (o1:s'.os=s.os) (g1:s'.gens=s.gens) (k1:∀ b o,s.heap.get? b=some o→s'.heap.get? b=some o) (hr:s.heap.objs.size≤r) (he:s'.heap.get? r=some (seqObj "list" (out.map (·.2)) e)) (p1:out.Perm (pairsOf vs)) (p2:SegK PyProof.Rows.strKind out 0 vs.length):EP X pins σ Q (.ref r) s':=by
 have rv:Vals (ts.map V.str) vs:=by
  clear q p1 p2 he hn
  induction hv with
  | nil=>exact .nil
  | cons y t _ ih=>exact .cons ⟨t,rfl⟩ ih
 obtain ⟨h1,h2⟩:=seg_pairs p1 p2
 obtain ⟨ys,py,vy⟩:=Vals.perm h1 rv
 have ey:∃ us:List Str,ys=us.map V.str:=by
  refine ⟨ys.map fun v=>match v with | .str x=>x | _=>⟨#[]⟩,?_⟩
  rw [List.map_map]
  conv=>lhs; rw [←List.map_id ys]
  refine List.map_congr_left fun v hv=>?_
  obtain ⟨z,_,rfl⟩:=List.mem_map.mp (py.mem_iff.mp hv)
  rfl
 obtain ⟨us,rfl⟩:=ey
 have hp:us.Perm ts:=by
  have:=py.map (fun v=>match v with | V.str x=>x | _=>(⟨#[]⟩:Str))
  rw [List.map_map,List.map_map] at this
  have e:∀ l:List Str,l.map ((fun v=>match v with | V.str x=>x | _=>(⟨#[]⟩:Str)) ∘ V.str)=l:=fun l=>List.map_id l
  rw [e,e] at this
  exact this
 have hw:us.Pairwise leS:=by
  have gen:∀ {as:List Str} {ws:List Value},Vals (as.map V.str) ws→ws.Pairwise (fun a b=>PyProof.Rows.strKind.kle ((PyProof.Rows.strKind.keyOf a).getD PyProof.Rows.strKind.dflt) ((PyProof.Rows.strKind.keyOf b).getD PyProof.Rows.strKind.dflt))→as.Pairwise leS:=by
   intro as
   induction as with
   | nil=>intro ws _ _; exact List.Pairwise.nil
   | cons a as ih =>
    intro ws r hp
    rw [List.map_cons] at r
    cases r with
    | cons r1 r2 =>
     obtain ⟨t,rfl⟩:=r1
     obtain ⟨p1,p2⟩:=List.pairwise_cons.mp hp
     refine List.pairwise_cons.mpr ⟨fun x hx=>?_,ih r2 p2⟩
     have:∀ {cs:List Str} {ws:List Value},Vals (cs.map V.str) ws→x∈cs→∃ t,Value.str x t∈ws:=by
      intro cs
      induction cs with
      | nil=>intro ws _ z; cases z
      | cons c cs ih =>
       intro ws r z
       rw [List.map_cons] at r
       cases r with
       | cons r1 r2 =>
        obtain ⟨t,rfl⟩:=r1
        rcases List.mem_cons.mp z with z | z
        · rw [z]; exact ⟨t,List.mem_cons_self⟩
        · obtain ⟨t,h⟩:=ih r2 z
          exact ⟨t,List.mem_cons_of_mem _ h⟩
     obtain ⟨t',hm⟩:=this r2 hx
     have z:=p1 _ hm
     have z':decide (x.cps.toList < a.cps.toList)=false:=z
     exact of_decide_eq_false z'
  exact gen vy h2
 have hzy:(us.map V.str).length≤sizeLine:=by rw [List.length_map,hp.length_eq]; exact small hn
 refine ⟨.ref r,_,?_,rfl,q r us (I.hok.fresh hr) hp hw⟩
 obtain ⟨hp',gg,dd,tk,os⟩:=s'
 have e1:os=s.os:=o1
 have e2:gg=s.gens:=g1
 subst e1 e2
 have he':hp'.get? r=some { cls:=.type "list",data:=.seq ((out.map (·.2)).toList).toArray e }:=by
  rw [Array.toArray_toList]
  exact he
 exact I.call (g':=s.gens) (t':=tk) (d':=dd) (ch:=[]) (Un.laid k1 hr (I.hok.fresh hr)) (I.hok.laid k1 hr (show ObjOk X.prog X.w _ hp' r (.lst _) from ⟨hzy,_,e,vy,he'⟩)) I.bare (fun _ z=>nomatch z)
theorem keys_strs {vs:List Value} {ts:List Str} (hv:StrsAre vs ts):AllKeys PyProof.Rows.strKind (pairsOf vs):=fun p hp=>by
 rw [pairsOf_toList] at hp
 obtain ⟨e,hm⟩:=mem_zip_self hp
 obtain ⟨x,t,ex⟩:=StrsAre.all hv p.1 hm
 exact ⟨x.cps.toList,by rw [ex]⟩
theorem sortOk_strs {prog:Program} {w:World} {A:Around} {E:Value→Shared→Prop} {s:Shared} {vs:List Value} {ts:List Str} (hv:StrsAre vs ts) (a:Addr):SortOk prog w A E s PyProof.Rows.strKind oneType' vs a:=fun h' _=>by
 refine ⟨fun h2 Q' q'=>?_,LtOk_one strKind_oneLt⟩
 match vs,hv,h2 with
 | [],_,h2=>simp at h2
 | [_],_,h2=>simp at h2
 | v₁::v₂::vs,hs,_=>rw [keyKind_strs hs]; exact wpAny_pure q'
theorem call_sortedSet (hc:X.calm=true):CallR X (.builtin "sorted") (fun xs H Q=>∃ (p:Addr) (ds:List Str),xs=[.ref p]∧H p=some (SetO X.prog X.w p ds)∧ds.length≤1000∧∀ (r:Addr) (ts:List Str),H r=none→ts.Perm ds→ts.Pairwise leS→Q (.ref r) (upd H r (.lst (ts.map V.str)))):=by
 intro pins s σ H xs us Q I r h
 obtain ⟨p,ds,rfl,hp,hn,q⟩:=h
 obtain ⟨u,rfl,rx⟩:=vals1 r
 cases rx
 have hS:SetS X.prog X.w s.heap p ds:=(show ObjOk X.prog X.w H s.heap p (SetO X.prog X.w p ds) from I.hok p _ hp).1
 have hlen:∀ {vs:List Value} {ts:List Str},StrsAre vs ts→ts.Perm ds→vs.length≤1000:=fun hv hp=>by rw [StrsAre.length hv,hp.length_eq]; exact hn
 refine sorted_of (κ:=PyProof.Rows.strKind) (kd:=oneType') (fun vs=>∃ ts,ts.Perm ds∧StrsAre vs ts) (fun Q' hq=>collect_S (by exact I.ok.hd hc) hS hn fun vs ts s' o1 g1 z1 k1 tp tv=>hq vs s' ⟨ts,tp,tv⟩ o1 g1 z1 k1) (fun vs ⟨ts,tp,tv⟩=>hlen tv tp) (fun vs ⟨ts,tp,tv⟩=>keys_strs tv) (fun vs s' a ⟨ts,tp,tv⟩ _ _ _ _=>sortOk_strs tv a) fun vs out s' r e ⟨ts,tp,tv⟩ o1 g1 k1 hr he p1 p2=>?_
 exact sorted_fin I tv (by rw [tp.length_eq]; exact hn) (fun r us hr up uw=>q r us hr (up.trans tp) uw) o1 g1 k1 hr he p1 p2
end
theorem argBest_le (bt:Nat→Nat→Bool):∀ k,argBest bt k≤k
 | 0=>Nat.le_refl _
 | k+1=>by
  unfold argBest
  split
  · exact Nat.le_refl _
  · exact Nat.le_succ_of_le (argBest_le bt k)
theorem argBest_min (val:Nat→Int):∀ k j,j≤k→val (argBest (fun i j=>decide (val i < val j)) k)≤val j
 | 0,j,h=>by
  have:j=0:=by omega
  subst this
  exact Int.le_refl _
 | k+1,j,h=>by
  have ih:=argBest_min val k
  unfold argBest
  by_cases c:decide (val (k+1) < val (argBest (fun i j=>decide (val i < val j)) k))=true
  · rw [if_pos c]
    have c':=of_decide_eq_true c
    rcases Nat.lt_or_ge j (k+1) with z | z
    · have:=ih j (by omega)
      omega
    · have:j=k+1:=by omega
      rw [this]
      exact Int.le_refl _
  · rw [if_neg c]
    have c':¬ val (k+1) < val (argBest (fun i j=>decide (val i < val j)) k):=fun z=>c (decide_eq_true z)
    rcases Nat.lt_or_ge j (k+1) with z | z
    · exact ih j (by omega)
    · have:j=k+1:=by omega
      rw [this]
      omega
section
variable {X:Cx}
theorem call_minI (hc:X.calm=true):CallR X (.builtin "min") (fun xs H Q=>∃ (p:Addr) (ns:List Int),xs=[.ref p]∧SqL X.K H p (ns.map V.int)∧ns≠[]∧∀ m,m∈ns→(∀ x∈ns,m≤x)→Q (.int m) H):=by
 intro pins s σ H xs us Q I r h
 obtain ⟨p,ns,rfl,hq,hne,q⟩:=h
 obtain ⟨u,rfl,rx⟩:=vals1 r
 cases rx
 obtain ⟨its,rv,pl,hz⟩:=I.list hq
 have hi:=intsAre_of rv
 have hlen:its.length=ns.length:=hi.length
 have hl:=pl.isList
 have hlt:p < s.heap.objs.size:=by obtain ⟨_,e,_⟩:=hl; exact Heap.lt_size e
 have hpos:0 < ns.length:=by
  cases ns with
  | nil=>exact absurd rfl hne
  | cons a b=>simp
 refine call_min_walk (wpAny_pyIter_list hl ?_)
 refine ⟨s.heap.objs.size,[s.heap.objs.size,p],[s.heap.objs.size],its.toArray.size,_,_,_,rfl,Walks.list (A:=X.A.in1) (I.ok.hd hc) _ p (Nat.ne_of_lt hlt) its.toArray,
  ⟨⟨_,Heap.get?_push_size _ rfl,rfl,rfl⟩,hl.push _⟩,fun b hb=>?_,by rw [List.size_toArray]; omega,CmpOf.ints_lt (fun i=>ns.getD i 0) (fun i v hv=>IntsAre.int_at hi i v (by simpa using hv)),fun v h' tk hP hk=>?_⟩
 · show b < Array.size _
   rw [Heap.size_push]
   rcases List.mem_cons.mp hb with z | z
   · rw [z]; exact Nat.lt_succ_self _
   · rw [List.mem_singleton.mp z]; exact Nat.lt_succ_of_lt hlt
 · have hP':its[argBest (fun i j=>decide (ns.getD i 0 < ns.getD j 0)) (its.toArray.size - 1)]? = some v:=by
    rw [←List.getElem?_toArray]; exact hP
   obtain ⟨t,rfl⟩:=IntsAre.int_at hi _ _ hP'
   rw [List.size_toArray,hlen]
   have hle:=argBest_le (fun i j=>decide (ns.getD i 0 < ns.getD j 0)) (ns.length - 1)
   refine ⟨.int _,H,I.kept (keptIt hk),⟨t,rfl⟩,q _ ?_ fun x hx=>?_⟩
   · rw [List.getD_eq_getElem?_getD,List.getElem?_eq_getElem (by omega)]
     exact List.getElem_mem _
   · obtain ⟨j,hj,rfl⟩:=List.getElem_of_mem hx
     have:=argBest_min (fun i=>ns.getD i 0) (ns.length - 1) j (by omega)
     have e:ns.getD j 0=ns[j]:=by rw [List.getD_eq_getElem?_getD,List.getElem?_eq_getElem hj] <;> rfl
     rw [←e]
     exact this
theorem mt_join:MtR X "str.join" (fun x vs H Q=>∃ (z:Str) (p:Addr) (ss:List Str),x=.str z∧vs=[.ref p]∧SqL X.K H p (ss.map V.str)∧(ss.map (·.length)).sum+ss.length * z.length≤16777216∧Q (.str (Txt.join z ss)) H):=by
 intro pins s σ H x xs v us Q I rx rs h
 obtain ⟨z,p,ss,rfl,rfl,hq,hl,q⟩:=h
 obtain ⟨t,rfl⟩:=rx
 obtain ⟨u,rfl,ru⟩:=vals1 rs
 cases ru
 obtain ⟨its,rv,pl,hz⟩:=I.list hq
 exact join_list pl.isList (by simpa using strs_are rv) hl fun t' k=>⟨.str _,H,I.tok _,⟨t',rfl⟩,q⟩
end
end LW
namespace LW
open PySem PySem.Spec PyProof.Rows L2 PySem.Builtin.Int
def cs (x:Str):Ls:=x.cps.toList
theorem cs_len (x:Str):(cs x).length=x.length:=(strLenL x).symm
theorem cs_inj {x y:Str} (h:cs x=cs y):x=y:=str_ext h
theorem cs_app (x y:Str):cs (x ++ y)=cs x ++ cs y:=by
 show (x.cps ++ y.cps).toList=_
 simp [cs]
theorem sub_at {t w:Str} {i:Nat}:(i+w.length≤t.length∧Builtin.Str.subAt t w i=true)↔At (cs t) i (cs w):=by
 rw [sub_iff]
 unfold At
 rw [cs_len,cs_len]
 exact Iff.rfl
theorem inS_iff {b o:Str}:inS b o=true↔cs b <:+: cs o:=by
 unfold inS
 rw [PySem.StrLaws.found_iff]
 constructor
 · rintro ⟨i,h1,h2⟩
   exact infix_of_at (sub_at.mp ⟨h1,h2⟩)
 · intro h
   obtain ⟨i,hi⟩:=at_of_infix h
   exact ⟨i,sub_at.mpr hi⟩
theorem ends_iff {x y:Str}:Txt.endswith x y=true↔cs y <:+ cs x:=by
 have lx:=cs_len x
 have ly:=cs_len y
 unfold Txt.endswith
 rw [Bool.and_eq_true,decide_eq_true_iff,sub_iff]
 constructor
 · rintro ⟨h1,h2⟩
   have h3:((cs x).drop (x.length - y.length)).take y.length=cs y:=h2
   rw [List.take_of_length_le (by rw [List.length_drop]; omega)] at h3
   rw [←h3]
   exact List.drop_suffix _ _
 · intro h
   have hl:=h.length_le
   refine ⟨by omega,?_⟩
   show ((cs x).drop (x.length - y.length)).take y.length=cs y
   obtain ⟨u,e⟩:=h
   rw [←e]
   have hu:u.length=x.length - y.length:=by
    have:=congrArg List.length e
    rw [List.length_append] at this
    omega
   rw [←hu,List.drop_left,List.take_of_length_le (by omega)]
theorem laps_iff {a b:Str} {k:Nat}:laps a b k=true↔(cs b).take k <:+ cs a:=by
 unfold laps
 rw [ends_iff]
 have:cs (Txt.slice b none (some (k:Int)))=(cs b).take k:=slice_to b k
 rw [this]
theorem down_eq {p q:Nat→Bool} (h:∀ k,p k=q k):∀ n,down p n=downL q n
 | 0=>rfl
 | n+1=>by
  unfold down downL
  rw [h,down_eq h n]
theorem ovF_eq (a b:Str):ovF a b=ovL (cs a) (cs b):=by
 unfold ovF ovL
 rw [cs_len,cs_len]
 refine down_eq (fun k=>?_) _
 rw [Bool.eq_iff_iff,laps_iff,decide_eq_true_iff]
theorem lay_cs (st:Str×Str) (x:Str):(cs (layStep st x).1,cs (layStep st x).2)=layL (cs st.1,cs st.2) (cs x):=by
 unfold layStep layL
 rw [cs_app,ovF_eq]
 have:cs (Txt.slice x (some ((ovL (cs st.2) (cs x):Nat):Int)) none)=(cs x).drop (ovL (cs st.2) (cs x)):=slice_from x _
 rw [this]
theorem lays_cs:∀ (xs:List Str) (st:Str×Str),(cs (xs.foldl layStep st).1,cs (xs.foldl layStep st).2)=(xs.map cs).foldl layL (cs st.1,cs st.2)
 | [],_=>rfl
 | x::r,st=>by
  rw [List.foldl_cons,List.map_cons,List.foldl_cons,lays_cs r,lay_cs]
theorem laidW_cs (xs:List Str):cs (laidW xs)=laidL (xs.map cs):=by
 cases xs with
 | nil=>exact (by decide +kernel:cs (Str.ofString "")=[])
 | cons x r =>
  have:=lays_cs r (x,x)
  exact congrArg Prod.fst this
def wordAt (bs:List Str) (k:Nat):Str:=bs.getD k ⟨#[]⟩
theorem wd_cs {bs:List Str} {k:Nat} (h:k < bs.length):wd (bs.map cs) k=cs (wordAt bs k):=by
 unfold wd wordAt
 rw [List.getD_eq_getElem?_getD,List.getD_eq_getElem?_getD,List.getElem?_map,List.getElem?_eq_getElem h] <;> rfl
theorem like_iff {bs:List Str} {k:Nat} (h:k < bs.length):likeB bs k=true↔∃ i,i < k∧wordAt bs i=wordAt bs k:=by
 unfold likeB
 rw [List.getElem?_eq_getElem h]
 have hc:cutV (bs.map V.str) none (some (k:Int))=(bs.take k).map V.str:=by
  unfold cutV
  rw [HT.sIx_none,HT.sIx_nat,List.length_map,Nat.min_eq_left (Nat.le_of_lt h),List.drop_zero,Nat.sub_zero,List.map_take]
 rw [hc]
 show inV (.str bs[k]) ((bs.take k).map V.str)=true↔_
 unfold inV
 rw [List.any_map,List.any_eq_true]
 have ek:wordAt bs k=bs[k]:=by unfold wordAt; rw [List.getD_eq_getElem?_getD,List.getElem?_eq_getElem h] <;> rfl
 constructor
 · rintro ⟨y,hy,e⟩
   have e':y=bs[k]:=by simpa [eqV] using e
   obtain ⟨i,hi,ei⟩:=List.getElem_of_mem hy
   rw [List.length_take] at hi
   rw [List.getElem_take] at ei
   refine ⟨i,by omega,?_⟩
   rw [ek,←e',←ei]
   unfold wordAt
   rw [List.getD_eq_getElem?_getD,List.getElem?_eq_getElem (by omega)] <;> rfl
 · rintro ⟨i,hi,e⟩
   refine ⟨bs[k],?_,by simp [eqV]⟩
   rw [←ek,←e]
   unfold wordAt
   rw [List.getD_eq_getElem?_getD,List.getElem?_eq_getElem (by omega)]
   refine List.mem_of_getElem? (i:=i) ?_
   rw [List.getElem?_take_of_lt hi,List.getElem?_eq_getElem (by omega)] <;> rfl
theorem held_iff {bs:List Str} {k:Nat} (h:k < bs.length):heldB bs k=true↔∃ o∈bs,o≠wordAt bs k∧cs (wordAt bs k) <:+: cs o:=by
 have ek:(bs[k]?).getD ⟨#[]⟩=wordAt bs k:=by unfold wordAt; rw [List.getD_eq_getElem?_getD]
 unfold heldB
 rw [ek,List.any_eq_true]
 constructor
 · rintro ⟨o,ho,hh⟩
   unfold holdsB at hh
   rw [Bool.and_eq_true,inS_iff] at hh
   refine ⟨o,ho,fun z=>?_,hh.2⟩
   rw [z] at hh
   simp at hh
 · rintro ⟨o,ho,hne,hi⟩
   refine ⟨o,ho,?_⟩
   unfold holdsB
   rw [Bool.and_eq_true,inS_iff]
   refine ⟨?_,hi⟩
   rw [decide_eq_false (fun z=>hne (by injection z with z; exact z.symm))]
   rfl
def keptN (bs:List Str):List Nat:=(List.range bs.length).filter (needB bs)
theorem keptF_eq (bs:List Str):keptF bs=(keptN bs).map fun (k:Nat)=>(k:Int):=rfl
theorem kept_is (bs:List Str):KeptIs (bs.map cs) (keptN bs):=by
 refine ⟨List.Pairwise.filter _ List.nodup_range,fun k=>?_⟩
 unfold keptN
 rw [List.mem_filter,List.mem_range]
 constructor
 · rintro ⟨h,hn⟩
   unfold needB at hn
   rw [Bool.and_eq_true,Bool.not_eq_true',Bool.not_eq_true'] at hn
   refine ⟨by rw [List.length_map]; exact h,fun i hi e=>?_,fun o ho hne hin=>?_⟩
   · rw [wd_cs (by omega),wd_cs h] at e
     have:=(like_iff h).mpr ⟨i,hi,cs_inj e⟩
     rw [hn.1] at this
     cases this
   · obtain ⟨x,hx,rfl⟩:=List.mem_map.mp ho
     rw [wd_cs h] at hne hin
     have:=(held_iff h).mpr ⟨x,hx,fun z=>hne (by rw [z]),hin⟩
     rw [hn.2] at this
     cases this
 · intro hN
   have h:k < bs.length:=by have:=hN.lt; rwa [List.length_map] at this
   refine ⟨h,?_⟩
   unfold needB
   rw [Bool.and_eq_true,Bool.not_eq_true',Bool.not_eq_true']
   constructor
   · refine Bool.eq_false_iff.mpr fun z=>?_
     obtain ⟨i,hi,e⟩:=(like_iff h).mp z
     exact hN.first i hi (by rw [wd_cs (by omega),wd_cs h,e])
   · refine Bool.eq_false_iff.mpr fun z=>?_
     obtain ⟨o,ho,hne,hin⟩:=(held_iff h).mp z
     refine hN.top (cs o) (List.mem_map.mpr ⟨o,ho,rfl⟩) (fun e=>?_) (by rw [wd_cs h]; exact hin)
     rw [wd_cs h] at e
     exact hne (cs_inj e)
theorem keptN_lt {bs:List Str} {k:Nat} (h:k∈keptN bs):k < bs.length:=List.mem_range.mp (List.mem_filter.mp h).1
theorem at_refs {ls:List Addr} {j:Nat} {v:V} (h:(ls.map V.ref)[j]? = some v):∃ l,ls[j]? = some l∧v=.ref l:=by
 rw [List.getElem?_map] at h
 cases e:ls[j]? with
 | none=>rw [e] at h; cases h
 | some l=>rw [e] at h; cases h; exact ⟨l,rfl,rfl⟩
theorem inV_int (x:Int):∀ (xs:List Int),inV (.int x) (xs.map V.int)=xs.contains x
 | []=>rfl
 | y::ys=>by
  have ih:=inV_int x ys
  unfold inV at ih ⊢
  rw [List.map_cons,List.any_cons,ih,List.contains_cons]
  show ((y == x) || _)=_
  rw [show (y == x)=(x == y) from by rw [Bool.beq_comm]]
theorem flat_ints (xs:List Int):(xs.map V.int).all flatV=true:=by simp [flatV]
section
variable {X:Cx} {K:W.Frag} {P:Program} {w:World}
theorem call_setSK (hc:X.calm=true) (hK:X.K=K) (hP:X.prog=P) (hw:X.w=w):CallR X (.type "set") (fun xs H Q=>∃ (p:Addr) (ss:List Str),xs=[.ref p]∧SqL K H p (ss.map V.str)∧ss.length≤1000∧∀ r,H r=none→Q (.ref r) (upd H r (SetO P w r (ddS ss)))):=by
 subst hK hP hw
 exact call_setS hc
theorem call_sortedSetK (hc:X.calm=true) (hP:X.prog=P) (hw:X.w=w):CallR X (.builtin "sorted") (fun xs H Q=>∃ (p:Addr) (ds:List Str),xs=[.ref p]∧H p=some (SetO P w p ds)∧ds.length≤1000∧∀ (r:Addr) (ts:List Str),H r=none→ts.Perm ds→ts.Pairwise leS→Q (.ref r) (upd H r (.lst (ts.map V.str)))):=by
 subst hP hw
 exact call_sortedSet hc
end
theorem keptF_nd (bs:List Str):(keptF bs).Nodup:=by
 rw [keptF_eq]
 have h:(keptN bs).Nodup:=(kept_is bs).nd
 refine List.Pairwise.map _ (fun a b hne e=>hne ?_) h
 exact Int.ofNat.inj e
theorem keptF_rng {bs:List Str} {o:Int} (h:o∈keptF bs):0≤o∧o < (bs.length:Int):=by
 rw [keptF_eq] at h
 obtain ⟨k,hk,rfl⟩:=List.mem_map.mp h
 have:=keptN_lt hk
 omega
theorem keptN_le (bs:List Str):(keptN bs).length≤bs.length:=Nat.le_trans (List.length_filter_le _ _) (by rw [List.length_range]; exact Nat.le_refl _)
theorem keptF_len (bs:List Str):(keptF bs).length=(keptN bs).length:=by rw [keptF_eq,List.length_map]
theorem kept_ne {bs:List Str} (h:1≤bs.length) (hW:∀ b∈bs,1≤b.length):keptF bs≠[]:=by
 intro z
 have hk:keptN bs=[]:=by rw [keptF_eq] at z; exact List.map_eq_nil_iff.mp z
 have hm:bs[0]∈bs:=List.getElem_mem _
 have h1:=laid_all (kept_is bs) (os:=[]) (by rw [hk]) (cs bs[0]) (List.mem_map.mpr ⟨_,hm,rfl⟩)
 have h2:(cs bs[0]).length≤0:=h1.length_le
 rw [cs_len] at h2
 have:=hW _ hm
 omega
end LW
namespace LW
open PySem PySem.Spec PyProof.Rows L2
section
variable {prog:Program} {w:World} {A:Around} {E:Value→Shared→Prop} {s:Shared}
set_option maxRecDepth 100000 in
set_option maxHeartbeats 3200000 in
end
end LW
namespace LW
open PySem PySem.Spec PyProof.Rows L2 PySem.Builtin.Int
theorem sum_len {bs:List Str} {m:Nat} (h:∀ b∈bs,b.length≤m):(bs.map (·.length)).sum≤m * bs.length:=by
 induction bs with
 | nil=>exact Nat.zero_le _
 | cons x r ih =>
  have h1:=ih fun b hb=>h b (List.mem_cons_of_mem _ hb)
  have h2:=h x List.mem_cons_self
  rw [List.map_cons,List.sum_cons,List.length_cons,Nat.mul_succ]
  have h2':x.length≤m:=h2
  show x.length+_≤_
  omega
end LW
namespace LW
open PySem PySem.Spec PyProof.Rows L2
section
variable {X:Cx} {tg:Expr} {K:W.Frag}
end
end LW
namespace LW
open PySem PySem.Spec PyProof.Rows L2 PySem.Builtin.Int
theorem cut_from {xs:List V} {k:Nat} (h:k≤xs.length):cutV xs (some (k:Int)) none=xs.drop k:=by
 unfold cutV
 rw [HT.sIx_nat,HT.sIx_none,Nat.min_eq_left h]
 refine List.take_of_length_le ?_
 rw [List.length_drop]
 exact Nat.le_refl _
theorem cut_to {xs:List V} {k:Nat} (h:k≤xs.length):cutV xs none (some (k:Int))=xs.take k:=by
 unfold cutV
 rw [HT.sIx_none,HT.sIx_nat,Nat.min_eq_left h,List.drop_zero,Nat.sub_zero]
end LW
namespace LW
open PySem PySem.Spec PyProof.Rows L2 PySem.SeqAt
def LtAt (A:Around) (s:Shared) (x y:Value) (k:Bool):Prop:=∀ prog w E (Q:Value→Shared→Prop),Q (.bool k) s→wpAny (model prog w) A (richCompare .Lt x y) Q E s
def firstLt (e l:Nat→Bool) (t:Bool):List Nat→Bool
 | []=>t
 | j::r=>if e j=true then firstLt e l t r else l j
theorem tuple_ltAt (l b:Addr) (items items2:Array Value) (n n2:Nat) (dd dd2:Option Addr) (sl sl2:Array (Option Value)) (e lt:Nat→Bool) :
  Meets (Builtin.«tuple.__lt__» ⟨[.ref l,.ref b],[]⟩)
   (fun A R s=>s.heap.get? l=some { cls:=.type "tuple",dict:=dd,data:=.seq items n,slots:=sl }∧s.heap.get? b=some { cls:=.type "tuple",dict:=dd2,data:=.seq items2 n2,slots:=sl2 } ∧
    (∀ j (h1:j < items.size) (h2:j < items2.size),EqAt A.in1 s items[j] items2[j] (e j)) ∧
    (∀ j (h1:j < items.size) (h2:j < items2.size),e j=false→LtAt A.in1 s items[j] items2[j] (lt j)) ∧
    R (.ok (.ret (.bool (firstLt e lt (decide (items.size < items2.size)) (List.range (min items.size items2.size)))))) s) :=
 .of_wp fun prog w A R s h=>by
  obtain ⟨hp,g,d,tk,os⟩:=s; obtain ⟨hl,hb,he,hlt',h⟩:=h
  have f2:=AutoSeq1.sub_tuple_tuple
  have hZ:(items.toList.zip items2.toList).length=min items.size items2.size:=by simp
  wp_walk using wpAny_loadPart' hl,wpAny_loadPart' hb,wpAny_forIn_list _ (fun rest b s'=>b.1=none∧s'=⟨hp,g,d,tk,os⟩∧∃ i,rest=(items.toList.zip items2.toList).drop i ∧
   R (.ok (.ret (.bool (firstLt e lt (decide (items.size < items2.size)) ((List.range (min items.size items2.size)).drop i))))) ⟨hp,g,d,tk,os⟩) _
  case turn =>
   rintro ⟨y,x⟩ rest b s' ⟨hb',rfl,i,hz,hR⟩
   have hlt:i < (items.toList.zip items2.toList).length:=by
    rcases Nat.lt_or_ge i (items.toList.zip items2.toList).length with h' | h'
    · exact h'
    · rw [List.drop_of_length_le h'] at hz; cases hz
   have hm:i < min items.size items2.size:=hZ ▸ hlt
   have h1:i < items.size:=Nat.lt_of_lt_of_le hm (Nat.min_le_left _ _)
   have h2:i < items2.size:=Nat.lt_of_lt_of_le hm (Nat.min_le_right _ _)
   rw [List.drop_eq_getElem_cons hlt] at hz
   injection hz with hyx hrest
   have hy:y=items[i]:=by have:=congrArg Prod.fst hyx; simpa using this
   have hx:x=items2[i]:=by have:=congrArg Prod.snd hyx; simpa using this
   subst hy hx
   have hd:(List.range (min items.size items2.size)).drop i=i::(List.range (min items.size items2.size)).drop (i+1):=by simp [List.drop_eq_getElem_cons,hm]
   rw [hd] at hR
   refine wpAny_bind (he i h1 h2 prog w _ _ ?_)
   cases hy:e i with
   | true =>
    have hR':R (.ok (.ret (.bool (firstLt e lt (decide (items.size < items2.size)) ((List.range (min items.size items2.size)).drop (i+1)))))) ⟨hp,g,d,tk,os⟩:=by
     have e1:firstLt e lt (decide (items.size < items2.size)) (i::(List.range (min items.size items2.size)).drop (i+1))=firstLt e lt (decide (items.size < items2.size)) ((List.range (min items.size items2.size)).drop (i+1)):=by
      show (if e i=true then _ else _)=_
      rw [hy,if_pos rfl]
     rw [e1] at hR
     exact hR
    wp_walk
    exact ⟨rfl,rfl,i+1,hrest,hR'⟩
   | false =>
    have e1:firstLt e lt (decide (items.size < items2.size)) (i::(List.range (min items.size items2.size)).drop (i+1))=lt i:=by
     show (if e i=true then _ else _)=_
     rw [hy,if_neg Bool.false_ne_true]
    rw [e1] at hR
    generalize hRC:richCompare=RC
    wp_walk
    subst hRC
    refine hlt' i h1 h2 hy prog w _ _ ?_
    wp_walk
    exact ⟨_,rfl,hR⟩
  case fin =>
   rintro ⟨b1,b2⟩ s' ⟨hb',rfl,i,hz,hR⟩
   simp only at hb'
   subst hb'
   have hge:min items.size items2.size≤i:=by
    rcases Nat.lt_or_ge i (items.toList.zip items2.toList).length with h' | h'
    · rw [List.drop_eq_getElem_cons h'] at hz; cases hz
    · exact hZ ▸ h'
   rw [List.drop_of_length_le (by simpa using hge)] at hR
   wp_walk
   exact ⟨_,rfl,hR⟩
  case h =>
   exact ⟨rfl,rfl,0,rfl,by simpa using h⟩
theorem LtAt.tuples {A:Around} {s:Shared} {l b:Addr} {items items2:Array Value} {e lt:Nat→Bool} (hl:s.heap.IsTuple l items) (hb:s.heap.IsTuple b items2) (hu:A.units < cLine)
  (he:∀ j (h1:j < items.size) (h2:j < items2.size),EqAt A.in1 s items[j] items2[j] (e j)) (hlt:∀ j (h1:j < items.size) (h2:j < items2.size),e j=false→LtAt A.in1 s items[j] items2[j] (lt j)) :
  LtAt A s (.ref l) (.ref b) (firstLt e lt (decide (items.size < items2.size)) (List.range (min items.size items2.size))):=fun prog w E Q h=>by
 obtain ⟨⟨cls,dd,data,sl⟩,ho,hc,n,hd⟩:=id hl
 obtain ⟨⟨cls2,dd2,data2,sl2⟩,ho2,hc2,n2,hd2⟩:=id hb
 simp only at hc hd hc2 hd2
 subst hc hd hc2 hd2
 exact richCompare_meets_room (op:=.Lt) ⟨_,ho,rfl⟩ ⟨_,ho2,rfl⟩ F.slot_tuple_lt F.entry_tuple_lt (F.args_tuple_lt_2 _ _) (tuple_ltAt l b items items2 n n2 dd dd2 sl sl2 e lt)
  ⟨ho,ho2,he,hlt,(fun x=>nomatch x),h⟩ hu
theorem firstLt_map {e l:Nat→Bool} {t:Bool} (g:Nat→Nat):∀ xs:List Nat,firstLt e l t (xs.map g)=firstLt (fun j=>e (g j)) (fun j=>l (g j)) t xs
 | []=>rfl
 | j::r=>by
  show (if e (g j)=true then _ else _)=(if e (g j)=true then _ else _)
  rw [firstLt_map g r]
theorem lex_ints:∀ (a b:List Int),firstLt (fun j=>decide (a.getD j 0=b.getD j 0)) (fun j=>decide (a.getD j 0 < b.getD j 0)) (decide (a.length < b.length)) (List.range (min a.length b.length))=decide (a < b)
 | [],[]=>by simp [firstLt]
 | [],y::b=>by simp [firstLt]
 | x::a,[]=>by simp [firstLt]
 | x::a,y::b=>by
  have ih:=lex_ints a b
  have e:min (x::a).length (y::b).length=min a.length b.length+1:=by simp only [List.length_cons]; omega
  rw [e,List.range_succ_eq_map]
  show (if decide (x=y)=true then _ else decide (x < y))=_
  rw [firstLt_map]
  by_cases c:x=y
  · rw [if_pos (decide_eq_true c)]
    have e2:decide ((x::a).length < (y::b).length)=decide (a.length < b.length):=by simp
    rw [e2]
    refine Eq.trans ih ?_
    refine decide_eq_decide.mpr ?_
    rw [List.cons_lt_cons_iff]
    constructor
    · intro h; exact .inr ⟨c,h⟩
    · rintro (h | ⟨_,h⟩)
      · omega
      · exact h
  · rw [if_neg (by rw [decide_eq_false c]; exact Bool.false_ne_true)]
    refine decide_eq_decide.mpr ?_
    rw [List.cons_lt_cons_iff]
    constructor
    · intro h; exact .inl h
    · rintro (h | ⟨h,_⟩)
      · exact h
      · exact absurd h c
theorem vals_int {r:List Int} {its:List Value} (h:Vals (r.map V.int) its) {j:Nat} (hj:j < its.length):∃ t,its[j]=.int (r.getD j 0) t:=by
 have hl:=h.length
 rw [List.length_map] at hl
 obtain ⟨u,hu,ru⟩:=h.get (i:=j) (x:=.int (r.getD j 0)) (by
  rw [List.getElem?_map,List.getD_eq_getElem?_getD,List.getElem?_eq_getElem (by omega)] <;> rfl)
 obtain ⟨t,rfl⟩:=ru
 refine ⟨t,?_⟩
 rw [List.getElem?_eq_getElem hj] at hu
 exact Option.some.inj hu
theorem LtAt.ints {A:Around} {s:Shared} {p q:Addr} {a b:List Int} {us vs:List Value} (ha:s.heap.IsTuple p us.toArray) (hb:s.heap.IsTuple q vs.toArray) (ra:Vals (a.map V.int) us) (rb:Vals (b.map V.int) vs) (hu:A.units < cLine) :
  LtAt A s (.ref p) (.ref q) (decide (a < b)):=by
 have la:=ra.length
 have lb:=rb.length
 rw [List.length_map] at la lb
 have h:=LtAt.tuples (e:=fun j=>decide (a.getD j 0=b.getD j 0)) (lt:=fun j=>decide (a.getD j 0 < b.getD j 0)) ha hb hu (fun j h1 h2=>?_) (fun j h1 h2 _=>?_)
 · have e1:us.toArray.size=a.length:=by rw [List.size_toArray]; exact la.symm
   have e2:vs.toArray.size=b.length:=by rw [List.size_toArray]; exact lb.symm
   rw [e1,e2,lex_ints] at h
   exact h
 · obtain ⟨t,e1⟩:=vals_int ra (j:=j) (by simpa using h1)
   obtain ⟨t',e2⟩:=vals_int rb (j:=j) (by simpa using h2)
   have z:=eqAt_V (A:=A.in1) (s:=s) (y:=.int (a.getD j 0)) (x:=.int (b.getD j 0)) (u:=.int (a.getD j 0) t) (v:=.int (b.getD j 0) t') ⟨t,rfl⟩ ⟨t',rfl⟩ rfl rfl
   rw [List.getElem_toArray,List.getElem_toArray,e1,e2]
   have e3:eqV (.int (a.getD j 0)) (.int (b.getD j 0))=decide (a.getD j 0=b.getD j 0):=by
    show (a.getD j 0 == b.getD j 0)=_
    exact Bool.eq_iff_iff.mpr (by rw [beq_iff_eq,decide_eq_true_iff])
   rw [e3] at z
   exact z
 · obtain ⟨t,e1⟩:=vals_int ra (j:=j) (by simpa using h1)
   obtain ⟨t',e2⟩:=vals_int rb (j:=j) (by simpa using h2)
   rw [List.getElem_toArray,List.getElem_toArray,e1,e2]
   intro prog w E Q hq
   exact (show wpAny (model prog w) A.in1 (compareOp .Lt _ _) Q E s from wpAny_lt_int hq)
section
variable {prog:Program} {w:World} {A:Around} {R:Result→Shared→Prop} {I:Addr} {fp wr:List Addr} {n:Nat} {P:Nat→Value→Prop} {St:Nat→Heap→Prop} {G:Heap→Prop}
end
section
variable {prog:Program} {w:World} {A:Around} {E:Value→Shared→Prop} {s:Shared}
end
def Tups (H:Hp) (ps:List Addr) (rs:List (List Int)):Prop:=ps.length=rs.length∧∀ (j:Nat) p r,ps[j]? = some p→rs[j]? = some r→H p=some (.tup (r.map V.int))
section
variable {X:Cx}
end
end LW
namespace LW
open PySem PySem.Spec PyProof.Rows L2 PySem.Builtin.Int
theorem Tups.nil {H:Hp}:Tups H [] []:=⟨rfl,fun j p r e=>by cases e⟩
theorem Tups.mono {H H':Hp} {ps:List Addr} {rs:List (List Int)} (h:Tups H ps rs) (s:∀ p∈ps,∀ o,H p=some o→H' p=some o):Tups H' ps rs:=⟨h.1,fun j p r e e'=>s p (List.mem_of_getElem? e) _ (h.2 j p r e e')⟩
theorem Tups.same {H H':Hp} {ps:List Addr} {rs:List (List Int)} (h:Tups H ps rs) (s:Same H H'):Tups H' ps rs:=h.mono fun p _ o e=>s p o e
theorem Tups.app {H:Hp} {ps qs:List Addr} {rs ss:List (List Int)} (h:Tups H ps rs) (k:Tups H qs ss):Tups H (ps ++ qs) (rs ++ ss):=by
 refine ⟨by rw [List.length_append,List.length_append,h.1,k.1],fun j p r e e'=>?_⟩
 by_cases hj:j < ps.length
 · rw [List.getElem?_append_left hj] at e
   rw [List.getElem?_append_left (by rw [←h.1]; exact hj)] at e'
   exact h.2 j p r e e'
 · rw [List.getElem?_append_right (by omega)] at e
   rw [List.getElem?_append_right (by rw [←h.1]; omega),←h.1] at e'
   exact k.2 _ p r e e'
theorem Tups.one {H:Hp} {p:Addr} {r:List Int} (h:H p=some (.tup (r.map V.int))):Tups H [p] [r]:=by
 refine ⟨rfl,fun j p' r' e e'=>?_⟩
 cases j with
 | zero=>cases e; cases e'; exact h
 | succ j=>cases e
theorem Tups.upd {H:Hp} {D:Addr} {xs:List V} {o:HO} {ps:List Addr} {rs:List (List Int)} (h:Tups H ps rs) (hD:H D=some (.lst xs)):Tups (L2.upd H D o) ps rs:=by
 refine ⟨h.1,fun j p r e e'=>?_⟩
 have hp:=h.2 j p r e e'
 have hne:p≠D:=fun z=>by rw [z,hD] at hp; cases hp
 rw [upd_ne hne]
 exact hp
def gKey (ps:List Str) (i j:Nat):List Int:=[-((ovF (wordAt ps i) (wordAt ps j):Nat):Int),(i:Int),(j:Int)]
structure Best (ps:List Str) (i j:Nat):Prop where
 li:i < ps.length
 lj:j < ps.length
 ne:i≠j
 min:∀ i' j',i' < ps.length→j' < ps.length→i'≠j'→¬ gKey ps i' j' < gKey ps i j
def glue (a b:Str):Str:=a ++ Txt.slice b (some ((ovF a b:Nat):Int)) none
def gStep (ps:List Str) (i j:Nat):List Str:=(ps.set i (glue (wordAt ps i) (wordAt ps j))).eraseIdx j
inductive Greedy:List Str→Str→Prop
 | one (x:Str):Greedy [x] x
 | step {ps:List Str} {i j:Nat} {t:Str}:2≤ps.length→Best ps i j→Greedy (gStep ps i j) t→Greedy ps t
theorem glue_cs (a b:Str):cs (glue a b)=cs a ++ (cs b).drop (ovL (cs a) (cs b)):=by
 unfold glue
 rw [cs_app,ovF_eq]
 congr 1
 exact slice_from b _
theorem glue_len (a b:Str):(glue a b).length≤a.length+b.length:=by
 rw [←cs_len,glue_cs,List.length_append,List.length_drop,cs_len,cs_len]
 omega
theorem wordAt_get {ps:List Str} {k:Nat} (h:k < ps.length):wordAt ps k=ps[k]:=by
 unfold wordAt
 rw [List.getD_eq_getElem?_getD,List.getElem?_eq_getElem h]
 rfl
theorem gStep_len {ps:List Str} {i j:Nat} (h:j < ps.length):(gStep ps i j).length+1=ps.length:=by
 unfold gStep
 rw [List.length_eraseIdx_of_lt (by rw [List.length_set]; exact h),List.length_set]
 omega
def lenSum (ps:List Str):Nat:=(ps.map (·.length)).sum
theorem lenSum_perm {ps qs:List Str} (h:ps.Perm qs):lenSum ps=lenSum qs:=by
 unfold lenSum
 exact (h.map _).sum_nat
theorem lenSum_cons (x:Str) (ps:List Str):lenSum (x::ps)=x.length+lenSum ps:=by
 unfold lenSum
 rw [List.map_cons,List.sum_cons]
theorem set_perm:∀ (l:List Str) (i:Nat) (x:Str),i < l.length→(x::l.eraseIdx i).Perm (l.set i x)
 | y::r,0,x,_=>List.Perm.refl _
 | y::r,i+1,x,h=>by
  have ih:=set_perm r i x (by simpa using h)
  exact (List.Perm.swap y x _).trans (ih.cons y)
theorem gStep_sum {ps:List Str} {i j:Nat} (hi:i < ps.length) (hj:j < ps.length) (hne:i≠j):lenSum (gStep ps i j)≤lenSum ps:=by
 have hj':j < (ps.set i (glue (wordAt ps i) (wordAt ps j))).length:=by rw [List.length_set]; exact hj
 have p1:=erase_perm (ps.set i (glue (wordAt ps i) (wordAt ps j))) j hj'
 have p2:=set_perm ps i (glue (wordAt ps i) (wordAt ps j)) hi
 have p3:=erase_perm ps i hi
 have e1:=lenSum_perm p1
 have e2:=lenSum_perm p2
 have e3:=lenSum_perm p3
 rw [lenSum_cons] at e1 e2 e3
 rw [List.getElem_set_ne hne] at e1
 have hg:=glue_len (wordAt ps i) (wordAt ps j)
 have li:(wordAt ps i).length=ps[i].length:=by rw [wordAt_get hi]
 have lj:(wordAt ps j).length=ps[j].length:=by rw [wordAt_get hj]
 unfold gStep
 omega
theorem mem_sum {ps:List Str} {x:Str} (h:x∈ps):x.length≤lenSum ps:=by
 obtain ⟨k,hk,ek⟩:=List.getElem_of_mem h
 have:=lenSum_perm (erase_perm ps k hk)
 rw [lenSum_cons,ek] at this
 omega
def keptW (bs:List Str):List Str:=(keptN bs).map (wordAt bs)
theorem keptW_sum {bs:List Str} (hW:∀ b∈bs,Word 10 b):lenSum (keptW bs)≤10 * bs.length:=by
 unfold lenSum
 refine Nat.le_trans (sum_len (m:=10) fun b hb=>?_) ?_
 · obtain ⟨k,hk,rfl⟩:=List.mem_map.mp hb
   have hl:=keptN_lt hk
   rw [wordAt_get hl]
   exact (hW _ (List.getElem_mem hl)).le
 · unfold keptW
   rw [List.length_map]
   have:=keptN_le bs
   omega
def spGreedy (K:W.Frag) (C:List Str→Prop):Sp:=fun vs H Q _=>∃ (p:Addr) (bs:List Str),vs=[.ref p]∧SqL K H p (bs.map V.str)∧Good bs∧C bs∧∀ (t:Str) (H':Hp),Same H H'→Greedy (keptW bs) t→Q (.str t) H'
end LW
namespace LW
open PySem PySem.Spec PyProof.Rows L2 PySem.SeqAt
section
variable {prog:Program} {w:World} {A:Around} {E:Value→Shared→Prop} {s:Shared}
theorem keyLt'_tuples (f:Bool) (x y:Value):keyLt' (tuples' f) x y=(do
  let xs ← Builtin.List.listItems x
  let ys ← Builtin.List.listItems y
  for ((p,q),i) in (xs.toList.zip ys.toList).zipIdx do
   if !(← eqBool p q) then return ← oneLt' (f && i == 0) p q
  return decide (xs.size < ys.size)):=rfl
theorem oneLt_false {x y:Value} {k:Bool} {Q:Bool→Shared→Prop} (hl:LtAt A s x y k) (h:Q k s):wpAny (model prog w) A (oneLt' false x y) Q E s:=by
 rw [oneLt'_eq]
 simp only [Bool.false_eq_true,if_false]
 exact wpAny_bind (hl prog w E _ (wpAny_truthy_bool h))
theorem keyLt_tuples {l b:Addr} {items items2:Array Value} {e lt:Nat→Bool} {Q:Bool→Shared→Prop} (hl:s.heap.IsTuple l items) (hb:s.heap.IsTuple b items2)
  (he:∀ j (h1:j < items.size) (h2:j < items2.size),EqAt A s items[j] items2[j] (e j)) (hlt:∀ j (h1:j < items.size) (h2:j < items2.size),e j=false→LtAt A s items[j] items2[j] (lt j))
  (h:Q (firstLt e lt (decide (items.size < items2.size)) (List.range (min items.size items2.size))) s):wpAny (model prog w) A (keyLt' (tuples' false) (.ref l) (.ref b)) Q E s:=by
 obtain ⟨o,ho,hc,n,hd⟩:=hl
 obtain ⟨o2,ho2,hc2,n2,hd2⟩:=hb
 rw [keyLt'_tuples]
 refine wpAny_bind (wpAny_listItems ho hd ?_)
 refine wpAny_bind (wpAny_listItems ho2 hd2 ?_)
 have hZ:(items.toList.zip items2.toList).length=min items.size items2.size:=by simp
 refine wpAny_bind (wpAny_forIn_list _ (fun rest b s'=>b.1=none∧s'=s∧∃ i,rest=((items.toList.zip items2.toList).zipIdx).drop i ∧
   Q (firstLt e lt (decide (items.size < items2.size)) ((List.range (min items.size items2.size)).drop i)) s) _ ?_ ?_ _ _ ?_)
 · rintro ⟨⟨y,x⟩,k⟩ rest b s' ⟨hb',rfl,i,hz,hR⟩
   have hlt2:i < ((items.toList.zip items2.toList).zipIdx).length:=by
    rcases Nat.lt_or_ge i ((items.toList.zip items2.toList).zipIdx).length with h' | h'
    · exact h'
    · rw [List.drop_of_length_le h'] at hz; cases hz
   have hm:i < min items.size items2.size:=by rw [List.length_zipIdx,hZ] at hlt2; exact hlt2
   have h1:i < items.size:=Nat.lt_of_lt_of_le hm (Nat.min_le_left _ _)
   have h2:i < items2.size:=Nat.lt_of_lt_of_le hm (Nat.min_le_right _ _)
   rw [List.drop_eq_getElem_cons hlt2] at hz
   injection hz with hyx hrest
   rw [List.getElem_zipIdx] at hyx
   have hy:y=items[i]:=by have:=congrArg (fun z=>z.1.1) hyx; simpa using this
   have hx:x=items2[i]:=by have:=congrArg (fun z=>z.1.2) hyx; simpa using this
   subst hy hx
   have hd':(List.range (min items.size items2.size)).drop i=i::(List.range (min items.size items2.size)).drop (i+1):=by simp [List.drop_eq_getElem_cons,hm]
   rw [hd'] at hR
   refine wpAny_bind (he i h1 h2 prog w _ _ ?_)
   cases hy:e i with
   | true =>
    have e1:firstLt e lt (decide (items.size < items2.size)) (i::(List.range (min items.size items2.size)).drop (i+1))=firstLt e lt (decide (items.size < items2.size)) ((List.range (min items.size items2.size)).drop (i+1)):=by
     show (if e i=true then _ else _)=_
     rw [hy,if_pos rfl]
    rw [e1] at hR
    exact wpAny_pure ⟨rfl,rfl,i+1,hrest,hR⟩
   | false =>
    have e1:firstLt e lt (decide (items.size < items2.size)) (i::(List.range (min items.size items2.size)).drop (i+1))=lt i:=by
     show (if e i=true then _ else _)=_
     rw [hy,if_neg Bool.false_ne_true]
    rw [e1] at hR
    refine wpAny_bind ?_
    rw [Bool.false_and]
    exact oneLt_false (hlt i h1 h2 hy) (wpAny_pure (wpAny_pure hR))
 · rintro ⟨b1,b2⟩ s' ⟨hb',rfl,i,hz,hR⟩
   simp only at hb'
   subst hb'
   have hge:min items.size items2.size≤i:=by
    rcases Nat.lt_or_ge i ((items.toList.zip items2.toList).zipIdx).length with h' | h'
    · rw [List.drop_eq_getElem_cons h'] at hz; cases hz
    · rw [List.length_zipIdx,hZ] at h'; exact h'
   rw [List.drop_of_length_le (by simpa using hge)] at hR
   exact wpAny_pure hR
 · exact ⟨rfl,rfl,0,rfl,by simpa using h⟩
end
abbrev SK:=List (List Int)
theorem pair_lt (t1 t2:List Int) (n1 n2:Int):(if decide (t1=t2)=true then (if decide (n1=n2)=true then false else decide (n1 < n2)) else decide (t1 < t2))=decide ([t1,[n1]] < [t2,[n2]]):=by
 by_cases h1:t1=t2
 · subst h1
   rw [if_pos (decide_eq_true rfl)]
   have e:([t1,[n1]] < [t1,[n2]])↔n1 < n2:=by
    rw [List.cons_lt_cons_iff]
    constructor
    · rintro (h | ⟨_,h⟩)
      · exact absurd h (List.lt_irrefl _)
      · rw [List.cons_lt_cons_iff] at h
        rcases h with h | ⟨_,h⟩
        · rw [List.cons_lt_cons_iff] at h
          rcases h with h | ⟨_,h⟩
          · exact h
          · exact absurd h (List.lt_irrefl _)
        · exact absurd h (List.lt_irrefl _)
    · intro h
      refine .inr ⟨rfl,?_⟩
      rw [List.cons_lt_cons_iff]
      refine .inl ?_
      rw [List.cons_lt_cons_iff]
      exact .inl h
   by_cases h2:n1=n2
   · rw [if_pos (decide_eq_true h2)]
     exact (decide_eq_false fun z=>by have:=e.mp z; omega).symm
   · rw [if_neg (by rw [decide_eq_false h2]; exact Bool.false_ne_true)]
     exact decide_eq_decide.mpr e.symm
 · rw [if_neg (by rw [decide_eq_false h1]; exact Bool.false_ne_true)]
   refine decide_eq_decide.mpr ?_
   rw [List.cons_lt_cons_iff]
   constructor
   · intro h; exact .inl h
   · rintro (h | ⟨h,_⟩)
     · exact h
     · exact absurd h h1
def Stand (H:Hp) (a:Addr) (t:List Int) (n:Int):Prop:=∃ b,H a=some (.tup [.ref b,.int n])∧H b=some (.tup (t.map V.int))
open Classical in
theorem eq_ints (a b:List Int):((List.range (min a.length b.length)).all (fun j=>decide (a.getD j 0=b.getD j 0)) && a.length == b.length)=decide (a=b):=by
 rw [Bool.eq_iff_iff,Bool.and_eq_true,List.all_eq_true,decide_eq_true_iff,beq_iff_eq]
 constructor
 · rintro ⟨h1,h2⟩
   refine List.ext_getElem h2 fun i hi hj=>?_
   have:=h1 i (List.mem_range.mpr (by omega))
   have:=of_decide_eq_true this
   rw [List.getD_eq_getElem?_getD,List.getD_eq_getElem?_getD,List.getElem?_eq_getElem hi,List.getElem?_eq_getElem hj] at this
   exact this
 · intro h
   subst h
   exact ⟨fun j _=>decide_eq_true rfl,rfl⟩
theorem eqAt_int {A:Around} {s:Shared} (x y:Int) (t u:Tok):EqAt A s (.int x t) (.int y u) (decide (x=y)):=by
 have z:=eqAt_V (A:=A) (s:=s) (y:=.int x) (x:=.int y) (u:=.int x t) (v:=.int y u) ⟨t,rfl⟩ ⟨u,rfl⟩ rfl rfl
 have e3:eqV (.int x) (.int y)=decide (x=y):=by
  show (x == y)=_
  exact Bool.eq_iff_iff.mpr (by rw [beq_iff_eq,decide_eq_true_iff])
 rw [e3] at z
 exact z
theorem eqAt_ints {A:Around} {s:Shared} {p q:Addr} {a b:List Int} {us vs:List Value} (ha:s.heap.IsTuple p us.toArray) (hb:s.heap.IsTuple q vs.toArray) (ra:Vals (a.map V.int) us) (rb:Vals (b.map V.int) vs) (hu:A.units < cLine) :
  EqAt A s (.ref p) (.ref q) (decide (a=b)):=by
 have la:=ra.length
 have lb:=rb.length
 rw [List.length_map] at la lb
 by_cases hpq:p=q
 · subst hpq
   have e:us=vs:=by
    obtain ⟨o1,h1,_,n1,d1⟩:=ha
    obtain ⟨o2,h2,_,n2,d2⟩:=hb
    rw [h1] at h2
    cases h2
    rw [d1] at d2
    cases d2
    rfl
   subst e
   have hab:a=b:=by
    refine List.ext_getElem (by omega) fun i hi hj=>?_
    obtain ⟨t,e1⟩:=vals_int ra (j:=i) (by omega)
    obtain ⟨t',e2⟩:=vals_int rb (j:=i) (by omega)
    rw [e1] at e2
    injection e2 with e2
    rw [List.getD_eq_getElem?_getD,List.getD_eq_getElem?_getD,List.getElem?_eq_getElem hi,List.getElem?_eq_getElem hj] at e2
    exact e2
   rw [decide_eq_true hab]
   exact EqAt.same _
 · have h:=EqAt.of_refs hpq (RcAt.tuples (e:=fun j=>decide (a.getD j 0=b.getD j 0)) ha hb hu fun j h1 h2=>?_)
   · have e1:us.toArray.size=a.length:=by rw [List.size_toArray]; exact la.symm
     have e2:vs.toArray.size=b.length:=by rw [List.size_toArray]; exact lb.symm
     rw [e1,e2,eq_ints] at h
     exact h
   · obtain ⟨t,e1⟩:=vals_int ra (j:=j) (by simpa using h1)
     obtain ⟨t',e2⟩:=vals_int rb (j:=j) (by simpa using h2)
     rw [List.getElem_toArray,List.getElem_toArray,e1,e2]
     exact eqAt_int _ _ _ _
def StandAt (h:Heap) (a:Addr) (t:List Int) (n:Int):Prop:=∃ b tk us,h.IsTuple a #[.ref b,.int n tk]∧h.IsTuple b us.toArray∧Vals (t.map V.int) us
theorem StandAt.keep {h h':Heap} {a:Addr} {t:List Int} {n:Int} (x:StandAt h a t n) (k:∀ b o,h.get? b=some o→h'.get? b=some o):StandAt h' a t n:=by
 obtain ⟨b,tk,us,⟨o1,h1,r1⟩,⟨o2,h2,r2⟩,rv⟩:=x
 exact ⟨b,tk,us,⟨o1,k _ _ h1,r1⟩,⟨o2,k _ _ h2,r2⟩,rv⟩
end LW
namespace LW
open PySem PySem.Spec PyProof.Rows L2 PySem.SeqAt
section
variable {prog:Program} {w:World} {A:Around} {E:Value→Shared→Prop} {s:Shared}
theorem mapM_all {α β:Type} {f:α→Sem β} (P:β→Prop):∀ {l:List α} {Q:List β→Shared→Prop},(∀ x∈l,∀ Q':β→Shared→Prop,(∀ y,P y→Q' y s)→wpAny (model prog w) A (f x) Q' E s)→(∀ ys,ys.length=l.length→(∀ y∈ys,P y)→Q ys s)→wpAny (model prog w) A (l.mapM f) Q E s
 | [],Q,_,h=>by
  rw [List.mapM_nil]
  exact wpAny_pure (h [] rfl fun y hy=>by cases hy)
 | x::l,Q,hf,h=>by
  rw [List.mapM_cons]
  refine wpAny_bind (hf x List.mem_cons_self _ fun y hy=>?_)
  refine wpAny_bind (mapM_all P (fun z hz=>hf z (List.mem_cons_of_mem _ hz)) fun ys hl hys=>?_)
  refine wpAny_pure (h (y::ys) (by rw [List.length_cons,List.length_cons,hl]) fun z hz=>?_)
  rcases List.mem_cons.mp hz with e | e
  · rw [e]; exact hy
  · exact hys z e
theorem firstOfTuple'_eq (v:Value):firstOfTuple' v=(do
  if (← typeOf v) != .type "tuple" then return none
  return (← Builtin.List.listItems v)[0]?):=rfl
end
section
variable {X:Cx}
def Stands (H:Hp) (ps:List Addr) (ks:List (List Int×Int)):Prop:=ps.length=ks.length∧∀ (j:Nat) p k,ps[j]? = some p→ks[j]? = some k→Stand H p k.1 k.2
def leK (a b:List Int×Int):Prop:=¬ ([b.1,[b.2]] < [a.1,[a.2]])
theorem stand_at {pins:List (Addr×Obj)} {σ:L2.St} {H:Hp} {s:Shared} (I:Inv X pins σ H s) {a:Addr} {t:List Int} {n:Int} (h:Stand H a t n):StandAt s.heap a t n:=by
 obtain ⟨b,h1,h2⟩:=h
 obtain ⟨_,its,rv,ht⟩:=(show ObjOk X.prog X.w H s.heap a (.tup [.ref b,.int n]) from I.hok a _ h1)
 obtain ⟨_,us,ru,hb⟩:=(show ObjOk X.prog X.w H s.heap b (.tup (t.map V.int)) from I.hok b _ h2)
 cases rv with
 | cons r1 rr =>
  cases rr with
  | cons r2 rr =>
   cases rr
   cases r1
   obtain ⟨tk,rfl⟩:=r2
   exact ⟨b,tk,us,ht,hb,ru⟩
end
end LW
namespace LW
open PySem PySem.Spec PyProof.Rows L2 PySem.Builtin.Int
theorem Stand.mono {H H':Hp} {a:Addr} {t:List Int} {n:Int} (h:Stand H a t n) (s:∀ p o,H p=some (.tup o)→H' p=some (.tup o)):Stand H' a t n:=by
 obtain ⟨b,h1,h2⟩:=h
 exact ⟨b,s _ _ h1,s _ _ h2⟩
theorem Stands.nil {H:Hp}:Stands H [] []:=⟨rfl,fun j p r e=>by cases e⟩
theorem Stands.mono {H H':Hp} {ps:List Addr} {ks:List (List Int×Int)} (h:Stands H ps ks) (s:∀ p o,H p=some (.tup o)→H' p=some (.tup o)):Stands H' ps ks:=⟨h.1,fun j p r e e'=>(h.2 j p r e e').mono s⟩
theorem Stands.same {H H':Hp} {ps:List Addr} {ks:List (List Int×Int)} (h:Stands H ps ks) (s:Same H H'):Stands H' ps ks:=h.mono fun p _ e=>s p _ e
theorem Stands.upd {H:Hp} {D:Addr} {xs:List V} {o:HO} {ps:List Addr} {ks:List (List Int×Int)} (h:Stands H ps ks) (hD:H D=some (.lst xs)):Stands (L2.upd H D o) ps ks:=h.mono fun p o' e=>by
 have hne:p≠D:=fun z=>by rw [z,hD] at e; cases e
 rw [upd_ne hne]
 exact e
theorem Stands.app {H:Hp} {ps qs:List Addr} {rs ss:List (List Int×Int)} (h:Stands H ps rs) (k:Stands H qs ss):Stands H (ps ++ qs) (rs ++ ss):=by
 refine ⟨by rw [List.length_append,List.length_append,h.1,k.1],fun j p r e e'=>?_⟩
 by_cases hj:j < ps.length
 · rw [List.getElem?_append_left hj] at e
   rw [List.getElem?_append_left (by rw [←h.1]; exact hj)] at e'
   exact h.2 j p r e e'
 · rw [List.getElem?_append_right (by omega)] at e
   rw [List.getElem?_append_right (by rw [←h.1]; omega),←h.1] at e'
   exact k.2 _ p r e e'
theorem Stands.one {H:Hp} {p:Addr} {k:List Int×Int} (h:Stand H p k.1 k.2):Stands H [p] [k]:=by
 refine ⟨rfl,fun j p' r' e e'=>?_⟩
 cases j with
 | zero=>cases e; cases e'; exact h
 | succ j=>cases e
def pickF:List Int→Nat→List Int
 | [],_=>[]
 | x::r,c=>(if c % 2=1 then [x] else []) ++ pickF r (c / 2)
theorem pickF_succ:∀ (ns:List Int) (c j:Nat) (x:Int),ns[j]? = some x→pickF (ns.take (j+1)) c=pickF (ns.take j) c ++ (if c / 2 ^ j % 2=1 then [x] else [])
 | [],_,_,_,e=>by cases e
 | y::r,c,0,x,e=>by
  cases e
  show (if c % 2=1 then [y] else []) ++ pickF (r.take 0) (c / 2)=[] ++ (if c / 2 ^ 0 % 2=1 then [y] else [])
  rw [List.take_zero,Nat.pow_zero,Nat.div_one,List.nil_append]
  show _ ++ []=_
  rw [List.append_nil]
 | y::r,c,j+1,x,e=>by
  have ih:=pickF_succ r (c / 2) j x (by simpa using e)
  show (if c % 2=1 then [y] else []) ++ pickF (r.take (j+1)) (c / 2)=((if c % 2=1 then [y] else []) ++ pickF (r.take j) (c / 2)) ++ _
  rw [ih,List.append_assoc,Nat.div_div_eq_div_mul,Nat.pow_succ,Nat.mul_comm 2]
def standsOf (ns:List Int) (c:Nat):List (List Int×Int):=(pickF ns c).map fun last=>(pickF ns c,last)
def standsTo (ns:List Int) (i:Nat):List (List Int×Int):=(List.range i).flatMap fun c=>standsOf ns (c+1)
def gWord (bs:List Str) (o:Int):Ls:=cs (wordAt bs o.toNat)
theorem ord_laid (bs:List Str) (n:Int) (os:List Int):(laidW (ordWords bs (n::os))).length=(wordAt bs n.toNat).length+cost (gWord bs) n os:=by
 rw [←cs_len,laidW_cs]
 have e:(ordWords bs (n::os)).map cs=(n::os).map (gWord bs):=by
  unfold ordWords
  rw [List.map_map]
  rfl
 rw [e,laid_cost]
 show (cs (wordAt bs n.toNat)).length+_=_
 rw [cs_len]
def leftOf (ns t:List Int):List Int:=ns.filter fun o=>!t.contains o
end LW
namespace LW
open PySem PySem.Spec PyProof.Rows L2 PySem.SeqAt
section
variable {X:Cx}
end
end LW
namespace LW
open PySem PySem.Spec PyProof.Rows L2 PySem.Builtin.Int
def PairAt (bs:List Str) (ns:List Int) (H:Hp) (q:Addr) (k:List Int×Int):Prop:=∃ (c:Addr) (h:Nat),H q=some (.tup [.ref c,.int h])∧Stand H c k.1 k.2∧Height (gWord bs) (leftOf ns k.1) k.2 h
def PairsAt (bs:List Str) (ns:List Int) (H:Hp) (qs:List Addr) (ks:List (List Int×Int)):Prop:=qs.length=ks.length∧∀ (j:Nat) q k,qs[j]? = some q→ks[j]? = some k→PairAt bs ns H q k
def spHeights (K:W.Frag):Sp:=fun vs H Q _=>∃ (p:Addr) (bs:List Str),vs=[.ref p]∧SqL K H p (bs.map V.str)∧Good bs∧∀ (l:Addr) (qs:List Addr) (ms:List (List Int×Int)) (H':Hp),H l=none→Same H H'→H' l=some (.lst (qs.map V.ref))→PairsAt bs (keptF bs) H' qs ms→ms.Perm (standsTo (keptF bs) (2 ^ (keptF bs).length - 1))→ms.Pairwise leK→Q (.ref l) H'
end LW
namespace LW
open PySem PySem.Spec PyProof.Rows L2
section
variable {X:Cx}
def rCatU (K:W.Frag):R2:=fun x y H Q=>∃ a b xs ys,x=.ref a∧y=.ref b∧SqT K H a xs∧SqT K H b ys∧ys≠[]∧xs.length+ys.length≤sizeLine ∧
 (xs=[]→Q (.ref b) H)∧(xs≠[]→∀ p,H p=none→Q (.ref p) (upd H p (.tup (xs ++ ys))))
theorem op_catU:OpR X (binaryOp .Add) (rCatU X.K):=by
 intro pins s σ H x y v u Q I rx ry h
 obtain ⟨a,b,xs,ys,rfl,rfl,ha,hb,hy,hz,q0,q1⟩:=h
 by_cases hx:xs=[]
 · cases rx
   cases ry
   obtain ⟨its,r1,p1,_⟩:=I.tuple ha
   obtain ⟨its2,r2,p2,_⟩:=I.tuple hb
   have hv:its=[]:=r1.nil_iff.mpr hx
   obtain ⟨⟨c1,d1,da1,sl⟩,ho,hc,n,hd⟩:=id p1
   obtain ⟨⟨c2,d2,da2,sl2⟩,ho2,hc2,n2,hd2⟩:=id p2
   simp only at hc hd hc2 hd2
   subst hc hd hc2 hd2
   exact concat_meets ⟨_,ho,rfl⟩ ⟨_,ho2,rfl⟩ noFill_tuple_add seq_tuple_add PySem.F.slot_tuple_add PySem.F.entry_tuple_add (PySem.F.args_tuple_add_2 _ _) (tuple_addW0 a b its.toArray its2.toArray n n2 d1 d2 sl sl2 (by simp [hv])) ⟨ho,ho2,⟨.ref b,H,I,rfl,q0 hx⟩⟩
 · exact op_catT pins s σ H (.ref a) (.ref b) _ _ Q I rx ry ⟨a,b,xs,ys,rfl,rfl,ha,hb,hx,hz,fun z=>absurd z hy,fun _=>q1 hx⟩
theorem call_tupleLK {K:W.Frag} (h:X.K=K):CallR X (.type "tuple") (fun xs H Q=>∃ p ys,xs=[.ref p]∧SqL K H p ys∧∀ l,H l=none→Q (.ref l) (upd H l (.tup ys))):=by
 subst h
 intro pins s σ H xs us Q I r h
 obtain ⟨p,ys,e,h1,h2⟩:=h
 exact call_tuple_of pins s σ H xs us Q I r ⟨p,ys,e,.inl ⟨h1,h2⟩⟩
theorem op_catUK {K:W.Frag} (h:X.K=K):OpR X (binaryOp .Add) (rCatU K):=h ▸ op_catU
end
section
variable {prog:Program} {w:World} {A:Around} {E:Value→Shared→Prop} {s:Shared}
theorem collect_tup {l:Addr} {vs:List Value} {Q:List Value→Shared→Prop} (hl:s.heap.IsTuple l vs.toArray)
  (h:Q vs { s with heap:=(s.heap.push (seqObj "list" #[] 0)).update s.heap.objs.size (Obj.mapSeq (· ++ vs.toArray)) }) (hsz:vs.length≤sizeLine):wpAny (model prog w) A (collect (.ref l)) Q E s:=by
 obtain ⟨o,ho,hc,n,hd⟩:=id hl
 unfold collect
 refine wpAny_bind (wpAny_runValue (codeAny_builtin PySem.F.entry_proto_collect ?_))
 rw [Around.under_plainId PySem.F.plain_proto_collect _]
 refine (show wpAny _ A.in1 (newList [] >>= fun l'=>again (.builtin "list.__iadd__" ⟨[l',.ref l],[]⟩)) _ _ s from ?_)
 refine wpAny_bind (wpAny_newList (wpAny_pure ⟨plainId_quiet PySem.F.plain_list_iadd _,codeAny_builtin PySem.F.entry_list_iadd ?_⟩))
 rw [Around.under_plainId PySem.F.plain_list_iadd _]
 refine (show wpAny _ A.in1 (Builtin.List.listExtendWith (.ref s.heap.objs.size) (.ref l) (.ref s.heap.objs.size)) _ _ { s with heap:=s.heap.push (seqObj "list" #[] 0) } from ?_)
 unfold Builtin.List.listExtendWith
 have ho':(s.heap.push (seqObj "list" #[] 0)).get? l=some o:=Heap.get?_push_of_some _ ho
 have hL:(s.heap.push (seqObj "list" #[] 0)).get? s.heap.objs.size=some (seqObj "list" #[] 0):=Heap.get?_push_size _ rfl
 refine wpAny_bind (wpAny_typeOf (T:="tuple") ⟨o,ho',hc⟩ ?_)
 have ht:(Value.type "tuple" == Value.type "tuple")=true:=rfl
 rw [if_pos (by rw [ht,Bool.or_true])]
 refine wpAny_bind (listItems_at ho' hd (wpAny_bind (listItems_at (xs:=#[]) (n:=0) hL rfl ?_)))
 rw [if_neg (by simp)]
 refine wpAny_bind (listUpdate_at (xs:=#[]) (n:=0) hL rfl ?_ (Nat.zero_le _) (by show (#[] ++ vs.toArray).size≤sizeLine+1; rw [Array.size_append,List.size_toArray]; show 0+vs.length≤_; omega))
 refine wpAny_pure (wpAny_bind (wpAny_load (get?_update_seq hL _) ?_))
 have e:((#[]:Array Value) ++ vs.toArray).toList=vs:=by simp
 refine (show wpAny _ A (pure ((#[]:Array Value) ++ vs.toArray).toList) Q E _ from ?_)
 rw [e]
 exact wpAny_pure h
@[reducible] def intKD:KD where
 α:=Int
 blt a b:=decide (a < b)
 irrefl a:=by simp
 trans a b c h1 h2:=by simp only [decide_eq_true_eq] at *; omega
 negTrans a b c h:=by simp only [decide_eq_true_eq] at *; omega
 total a b h1 h2:=by simp only [decide_eq_false_iff_not] at *; omega
 keyOf v:=match v with | .int i _=>some i | _=>none
 dflt:=0
theorem intKD_one:intKD.OneLt:=by
 intro prog w A E s x y a b Q ha hb h
 cases x with
 | int i t =>
  cases y with
  | int j u =>
   have e1:i=a:=Option.some.inj ha
   have e2:j=b:=Option.some.inj hb
   subst e1 e2
   exact oneLt_int h
  | _=>cases hb
 | _=>cases ha
end
section
variable {X:Cx}
theorem call_sortedIT:CallR X (.builtin "sorted") (fun xs H Q=>∃ (p:Addr) (ns:List Int),xs=[.ref p]∧SqT X.K H p (ns.map V.int)∧ns.length≤1000∧∀ (r:Addr) (ms:List Int),H r=none→ms.Perm ns→ms.Pairwise (·≤·)→Q (.ref r) (upd H r (.lst (ms.map V.int)))):=by
 intro pins s σ H xs us Q I r h
 obtain ⟨p,ns,rfl,hq,hn,q⟩:=h
 obtain ⟨u,rfl,rx⟩:=vals1 r
 cases rx
 obtain ⟨its,rv,pt,hz⟩:=I.tuple hq
 have hi:=intsAre_of rv
 have hlen:its.length=ns.length:=hi.length
 have hK:AllKeys intKD (pairsOf its):=fun x hx=>by
  rw [pairsOf_toList] at hx
  obtain ⟨_,hm⟩:=mem_zip_self hx
  obtain ⟨i,t,e⟩:=hi.all _ hm
  exact ⟨i,by rw [e]⟩
 refine sorted_of (κ:=intKD) (kd:=oneType') (fun vs=>vs=its) (fun Q' hq'=>collect_tup (show s.heap.IsTuple p its.toArray from pt) (hq' its _ rfl rfl rfl (by show _≤Array.size _; rw [Heap.size_update,size_push']; exact Nat.le_succ _) fun b o e=>?_) (by rw [sizeLine_eq]; omega))
  (fun vs e=>by subst e; omega) (fun vs e=>by subst e; exact hK) (fun vs s' a e _ _ _ _ h' _=>⟨fun h2 Q' q'=>?_,LtOk_one intKD_one⟩) fun vs out s' r e ev o1 g1 k1 hr he p1 p2=>?_
 · show Heap.get? _ b=some o
   rw [Heap.get?_update_ne _ _ _ _ (Nat.ne_of_lt (Heap.lt_size e))]
   exact Heap.get?_push_of_some _ e
 · subst e
   rw [ksk_kind (keys:=vs.toArray) (by simpa using hi) (by simpa using h2)]
   exact wpAny_pure q'
 · subst ev
   obtain ⟨h1,h2⟩:=seg_pairs p1 p2
   obtain ⟨ys,py,vy⟩:=Vals.perm h1 rv
   obtain ⟨ms,rfl⟩:∃ ms:List Int,ys=ms.map V.int:=by
    refine ⟨ys.map fun v=>match v with | .int i=>i | _=>0,?_⟩
    rw [List.map_map]
    conv=>lhs; rw [←List.map_id ys]
    refine List.map_congr_left fun v hv=>?_
    obtain ⟨z,_,rfl⟩:=List.mem_map.mp (py.mem_iff.mp hv)
    rfl
   have hpm:ms.Perm ns:=by
    have:=py.map (fun v=>match v with | V.int i=>i | _=>0)
    rw [List.map_map,List.map_map] at this
    have e:∀ l:List Int,l.map ((fun v=>match v with | V.int i=>i | _=>0) ∘ V.int)=l:=fun l=>List.map_id l
    rw [e,e] at this
    exact this
   have hw:ms.Pairwise (·≤·):=by
    have gen:∀ {as:List Int} {ws:List Value},Vals (as.map V.int) ws→ws.Pairwise (fun a b=>intKD.kle ((intKD.keyOf a).getD intKD.dflt) ((intKD.keyOf b).getD intKD.dflt))→as.Pairwise (·≤·):=by
     intro as
     induction as with
     | nil=>intro ws _ _; exact List.Pairwise.nil
     | cons a as ih =>
      intro ws r hp
      rw [List.map_cons] at r
      cases r with
      | cons r1 r2 =>
       obtain ⟨t,rfl⟩:=r1
       obtain ⟨p1,p2⟩:=List.pairwise_cons.mp hp
       refine List.pairwise_cons.mpr ⟨fun x hx=>?_,ih r2 p2⟩
       obtain ⟨j,hj,ej⟩:=List.getElem_of_mem hx
       obtain ⟨u,hu,ru⟩:=L2.Vals.get (i:=j) (x:=V.int x) r2 (by rw [List.getElem?_map,List.getElem?_eq_getElem hj,ej]; rfl)
       obtain ⟨t',rfl⟩:=ru
       have z:=p1 _ (List.mem_of_getElem? hu)
       have z':decide (x < a)=false:=z
       have:=of_decide_eq_false z'
       omega
    exact gen vy h2
   have hzy:(ms.map V.int).length≤sizeLine:=by rw [List.length_map,hpm.length_eq,sizeLine_eq]; omega
   refine ⟨.ref r,_,?_,rfl,q r ms (I.hok.fresh hr) hpm hw⟩
   obtain ⟨hp',gg,dd,tk,os⟩:=s'
   have e1:os=s.os:=o1
   have e2:gg=s.gens:=g1
   subst e1 e2
   have he':hp'.get? r=some { cls:=.type "list",data:=.seq ((out.map (·.2)).toList).toArray e }:=by
    rw [Array.toArray_toList]
    exact he
   exact I.call (g':=s.gens) (t':=tk) (d':=dd) (ch:=[]) (Un.laid k1 hr (I.hok.fresh hr)) (I.hok.laid k1 hr (show ObjOk X.prog X.w _ hp' r (.lst _) from ⟨hzy,_,e,vy,he'⟩)) I.bare (fun _ z=>nomatch z)
theorem call_sortedITK {K:W.Frag} (h:X.K=K):CallR X (.builtin "sorted") (fun xs H Q=>∃ (p:Addr) (ns:List Int),xs=[.ref p]∧SqT K H p (ns.map V.int)∧ns.length≤1000∧∀ (r:Addr) (ms:List Int),H r=none→ms.Perm ns→ms.Pairwise (·≤·)→Q (.ref r) (upd H r (.lst (ms.map V.int)))):=h ▸ call_sortedIT
end
section
variable {prog:Program} {w:World} {A:Around} {R:Result→Shared→Prop} {I:Addr} {fp wr:List Addr} {n:Nat} {P:Nat→Value→Prop} {St:Nat→Heap→Prop} {kw:List (Str×Value)}
theorem min_loopD (W:Walks prog w A.in1 I fp wr n P St) (bt:Nat→Nat→Bool) (hcmp:CmpOf prog w A.in1 .Lt P bt) (S:Addr) (hSf:S∉fp) :
  ∀ (k j:Nat) (s:Shared) (vb:Value) (c:Nat),n - (j+1)=k→j+1≤n→St (j+1) s.heap→P (argBest bt j) vb →
  s.heap.get? S=some { cls:=.type "list",dict:=none,data:=.seq #[vb,vb] c,slots:=#[] } →
  (∀ v h' tk,P (argBest bt (n - 1)) v→(∀ b o,b∉wr→b≠S→s.heap.get? b=some o→h'.get? b=some o)→R (.ok (.ret v)) { s with heap:=h',toks:=tk }) →
  codeAny (model prog w) A (.builtin "min.loop" ⟨[.ref I,.none,.ref S],kw⟩) R s:=by
 have hSw:S∉wr:=fun h=>hSf (W.sub _ h)
 have hname:(toString "min" ++ toString ".loop":String)="min.loop":=by decide
 intro k
 induction k with
 | zero =>
  intro j s vb c hk hj hst hPb hS hR
  have hin:j+1=n:=by omega
  refine codeAny_builtin PySem.F.entry_min_loop ?_
  rw [Around.under_plainId PySem.F.plain_min_loop _]
  refine wpAny_bind (m:=seqItems? (.ref S)) (wpAny_seqItems hS rfl ?_)
  refine wpAny_bind (m:=tryCatch (pyNext (.ref I)) _) (wpAny_tryCatch (W.done s _ _ (hin ▸ hst) fun h' tk hk'=>?_))
  have hS':=hk' S _ hSw hS
  refine wpAny_bind (m:=updateSeq S (fun _=>#[])) ?_
  refine wpAny_updateSeq hS' rfl (wpAny_bind (wpAny_letGo (wpAny_pure ?_)))
  exact hR vb _ tk (by rw [←hin]; exact hPb) fun b o hbw hbS e=>(Heap.get?_update_other _ _ (Ne.symm hbS)).trans (hk' b o hbw e)
 | succ k ih =>
  intro j s vb c hk hj hst hPb hS hR
  have hlt:j+1 < n:=by omega
  refine codeAny_builtin PySem.F.entry_min_loop ?_
  rw [Around.under_plainId PySem.F.plain_min_loop _]
  refine wpAny_bind (m:=seqItems? (.ref S)) (wpAny_seqItems hS rfl ?_)
  refine wpAny_bind (m:=tryCatch (pyNext (.ref I)) _) (wpAny_tryCatch (W.item (j+1) s _ _ hlt hst fun v h' tk hP hst' hk'=>?_))
  have hS':=hk' S _ hSw hS
  refine wpAny_bind (m:=tryCatch (holding [v,v] (richCompare .Lt v vb >>= _)) _) (wpAny_tryCatch (wpAny_holding (wpAny_bind (hcmp (j+1) (argBest bt j) v vb _ _ _ hP hPb ?_))))
  refine wpAny_bind (wpAny_holding (wpAny_truthy_bool ?_))
  refine wpAny_bind (wpAny_letGo (wpAny_pure ?_))
  cases hb:bt (j+1) (argBest bt j) with
  | true =>
   simp only [if_true]
   refine wpAny_bind ?_
   refine wpAny_updateSeq hS' rfl (wpAny_bind (wpAny_letGo ?_))
   rw [hname]
   refine wpAny_pure ⟨plainId_quiet PySem.F.plain_min_loop _,ih (j+1) _ v _ (by omega) hlt (W.frame _ _ _ hst' fun b hbf o e=>?_) (by simp only [argBest,hb,if_true]; exact hP) (Heap.get?_update_self _ hS' rfl) fun v' h'' tk'' hP' hk''=>?_⟩
   · exact (Heap.get?_update_other _ _ (fun h:S=b=>hSf (by rw [h]; exact hbf))).trans e
   · exact hR v' h'' tk'' hP' fun b o hbw hbS e=>hk'' b o hbw hbS ((Heap.get?_update_other _ _ (Ne.symm hbS)).trans (hk' b o hbw e))
  | false =>
   simp only [Bool.false_eq_true,if_false]
   refine wpAny_bind (wpAny_letGo ?_)
   rw [hname]
   refine wpAny_pure ⟨plainId_quiet PySem.F.plain_min_loop _,ih (j+1) _ vb c (by omega) hlt hst' (by simp only [argBest,hb,Bool.false_eq_true,if_false]; exact hPb) hS' fun v' h'' tk'' hP' hk''=>?_⟩
   exact hR v' h'' tk'' hP' fun b o hbw hbS e=>hk'' b o hbw hbS (hk' b o hbw e)
theorem min_firstD (W:Walks prog w A.in1 I fp wr n P St) (bt:Nat→Nat→Bool) (hcmp:CmpOf prog w A.in1 .Lt P bt) (S:Addr) (hSf:S∉fp) {dn:Str} {dv:Value} {s:Shared} {c:Nat} (hst:St 0 s.heap)
  (hS:s.heap.get? S=some { cls:=.type "list",dict:=none,data:=.seq #[] c,slots:=#[] })
  (h0:n=0→∀ h' tk,(∀ b o,b∉wr→b≠S→s.heap.get? b=some o→h'.get? b=some o)→R (.ok (.ret dv)) { s with heap:=h',toks:=tk })
  (hR:0 < n→∀ v h' tk,P (argBest bt (n - 1)) v→(∀ b o,b∉wr→b≠S→s.heap.get? b=some o→h'.get? b=some o)→R (.ok (.ret v)) { s with heap:=h',toks:=tk }) :
  codeAny (model prog w) A (.builtin "min.loop" ⟨[.ref I,.none,.ref S],[(dn,dv)]⟩) R s:=by
 have hSw:S∉wr:=fun h=>hSf (W.sub _ h)
 have hname:(toString "min" ++ toString ".loop":String)="min.loop":=by decide
 refine codeAny_builtin PySem.F.entry_min_loop ?_
 rw [Around.under_plainId PySem.F.plain_min_loop _]
 refine wpAny_bind (m:=seqItems? (.ref S)) (wpAny_seqItems hS rfl ?_)
 by_cases hn:0 < n
 · refine wpAny_bind (m:=tryCatch (pyNext (.ref I)) _) (wpAny_tryCatch (W.item 0 s _ _ hn hst fun v h' tk hP hst' hk'=>?_))
   have hS':=hk' S _ hSw hS
   refine wpAny_bind (m:=updateSeq S (fun _=>#[v,v])) ?_
   refine wpAny_updateSeq hS' rfl ?_
   rw [hname]
   refine wpAny_pure ⟨plainId_quiet PySem.F.plain_min_loop _,min_loopD W bt hcmp S hSf _ 0 _ v _ rfl hn (W.frame _ _ _ hst' fun b hbf o e=>?_) hP (Heap.get?_update_self _ hS' rfl) fun v' h'' tk'' hP' hk''=>?_⟩
   · exact (Heap.get?_update_other _ _ (fun h:S=b=>hSf (by rw [h]; exact hbf))).trans e
   · exact hR hn v' h'' tk'' hP' fun b o hbw hbS e=>hk'' b o hbw hbS ((Heap.get?_update_other _ _ (Ne.symm hbS)).trans (hk' b o hbw e))
 · have hz:n=0:=by omega
   refine wpAny_bind (m:=tryCatch (pyNext (.ref I)) _) (wpAny_tryCatch (W.done s _ _ (by rw [hz]; exact hst) fun h' tk hk'=>?_))
   refine wpAny_bind (m:=rule _) (wpAny_rule (wpAny_pure ?_))
   exact h0 hz h' tk fun b o hbw _ e=>hk' b o hbw e
end
section
variable {prog:Program} {w:World} {A:Around} {E:Value→Shared→Prop} {s:Shared}
theorem args_minD (a v:Value):argsOk "min" ⟨[a],[(Str.ofString "default",v)]⟩:=by unfold argsOk; kernel_rfl
theorem call_tree_kw {id:String} {b:Builtin} {args:List Value} {kw:List (Str×Value)} {Q:Value→Shared→Prop} (hk:builtinKind id=none) (hp:plainId id=true) (hb:entryFor table id=some b) (ha:argsOk id ⟨args,kw⟩)
  (hc:wpAny (model prog w) A.in1 (b ⟨args,kw⟩) (fun fin s'=>match fin with | .done f=>(match (Except.ok f:Result) with | .ok (.ret v)=>Q v s' | .ok _=>False | .error e=>E e s') | .again c'=>c'.quiet=true∧codeAny (model prog w) A c' (fun r s'=>match r with | .ok (.ret v)=>Q v s' | .ok _=>False | .error e=>E e s') s') E s) :
  wpAny (model prog w) A (call (.builtin id) args kw) Q E s:=by
 refine wpAny_call (codeAny_call_builtin hp hb ?_)
 simp only [checkBuiltinCall,hk]
 cases hsig:Manifest.signature? id with
 | none=>exact wpAny_pure hc
 | some sig =>
  have ha':Bind.checkArgs id sig ⟨args,kw⟩=pure ():=by simpa only [argsOk,hsig] using ha
  simp only [ha']
  exact wpAny_pure hc
theorem min_walkD {x dv:Value} {Q:Value→Shared→Prop}
  (h:wpAny (model prog w) A.in1 (pyIter x) (fun it s₂=>∃ I fp wr n P St bt,it=.ref I∧Walks prog w A.in1 I fp wr n P St∧St 0 s₂.heap∧(∀ b∈fp,b < s₂.heap.objs.size)∧CmpOf prog w A.in1 .Lt P bt ∧
   (n=0→∀ h' tk,(∀ b o,b∉wr→s₂.heap.get? b=some o→h'.get? b=some o)→Q dv { s₂ with heap:=h',toks:=tk }) ∧
   (0 < n→∀ v h' tk,P (argBest bt (n - 1)) v→(∀ b o,b∉wr→s₂.heap.get? b=some o→h'.get? b=some o)→Q v { s₂ with heap:=h',toks:=tk })) E s) :
  wpAny (model prog w) A (call (.builtin "min") [x] [(Str.ofString "default",dv)]) Q E s:=by
 have hname:(toString "min" ++ toString ".loop":String)="min.loop":=by decide
 refine call_tree_kw PySem.F.kind_min PySem.F.plain_min PySem.F.entry_min (args_minD _ _) ?_
 refine wpAny_bind (m:=Builtin.Builtins.bindParams "min" ["key","default"] 0 ⟨[],[(Str.ofString "default",dv)]⟩) (wpAny_of_eq (show Builtin.Builtins.bindParams "min" ["key","default"] 0 ⟨[],[(Str.ofString "default",dv)]⟩=pure [none,some dv] from by rfl) ?_)
 refine wpAny_bind (wpAny_pure ?_)
 refine wpAny_bind (wpAny_mono h (fun it s₂ h₂=>?_) fun _ _ e=>e)
 obtain ⟨I,fp,wr,n,P,St,bt,rfl,W,hst,hfp,hcmp,hQ0,hQ⟩:=h₂
 refine wpAny_bind (wpAny_newObj_type ?_)
 have hSf:s₂.heap.objs.size∉fp:=fun hm=>Nat.lt_irrefl _ (hfp _ hm)
 rw [hname]
 refine wpAny_pure ⟨plainId_quiet PySem.F.plain_min_loop _,min_firstD W bt hcmp s₂.heap.objs.size hSf (W.frame _ _ _ hst fun b _ o e=>Heap.get?_push_of_some _ e) (Heap.get?_push_size _ rfl) (fun z h' tk hk=>?_) fun z v h' tk hP hk=>?_⟩
 · exact hQ0 z h' tk fun b o hbw e=>hk b o hbw (Nat.ne_of_lt (Heap.lt_size e)) (Heap.get?_push_of_some _ e)
 · exact hQ z v h' tk hP fun b o hbw e=>hk b o hbw (Nat.ne_of_lt (Heap.lt_size e)) (Heap.get?_push_of_some _ e)
end
section
variable {X:Cx}
def CallKR (X:Cx) (f:Value) (ks:List Str) (r:List V→List V→Hp→VK→Prop):Prop :=
 ∀ (pins:List (Addr×Obj)) (s:Shared) (σ:L2.St) (H:Hp) (xs zs:List V) (us ws:List Value) (Q:VK),Inv X pins σ H s→Vals xs us→Vals zs ws→r xs zs H Q →
  wpAny (model X.prog X.w) X.A (call f us (ks.zip ws)) (EP X pins σ Q) X.xe s
def tCBK (r:List V→List V→Hp→VK→Prop) (t tk:TA):TE:=fun σ H Q=>t σ H fun vs H1=>tk σ H1 fun zs H2=>r vs zs H2 Q
theorem pe_callBK {x:Str} {p pos:Pos} {e:Expr} {es:List Expr} {kws:List Keyword} {t tk:TA} {id:String} {ks:List Str} {r:List V→List V→Hp→VK→Prop} (hc:CallKR X (.builtin id) ks r) (hg:Gl X x) (hm:X.mg x=none) (hv:bootBuiltins x=some (.builtin id)) (ha:PA X (e::es) t) (hkw:PK X kws tk)
  (hn:x≠"__name__":=by decide) (hdb:(x == ("__debug__":Str))=false:=by decide)
  (he:backTo pos (starEach (e::es) X.env)=(false,eval e X.env)::backTo pos (starEach es X.env):=by rfl)
  (hpl:(backTo pos (starEach (e::es) X.env)).any (·.1)=false:=by rfl)
  (hall:(backToKw pos (keywordEach kws X.env)).all (·.1.isSome)=true:=by rfl) (hno:(backToKw pos (keywordEach kws X.env)).any (·.1.isNone)=false:=by rfl)
  (hks:(backToKw pos (keywordEach kws X.env)).filterMap (·.1)=ks:=by rfl):PE X (.Call (.Name x p) (e::es) kws pos) (tCBK r t tk):=by
 intro pins s σ H Q I h
 refine wpAny_Call_Name_kw (ld_blt I hg hm hv ?_ hn hdb)
 refine callWith_kw (thn (ha pos pins s σ H _ I h) fun us s1 ⟨vs,H1,I1,r1,q1⟩=>thn (hkw pos pins s1 σ H1 _ I1 q1) fun ws s2 ⟨zs,H2,I2,rz,q2⟩=>?_) he hpl hall hno
 rw [hks]
 exact hc pins s2 σ H2 vs zs us ws Q I2 r1 rz q2
theorem call_minD (hc:X.calm=true):CallKR X (.builtin "min") [Str.ofString "default"] (fun xs zs H Q=>∃ (p:Addr) (ns:List Int) (d:Int),xs=[.ref p]∧zs=[.int d]∧SqL X.K H p (ns.map V.int)∧(ns=[]→Q (.int d) H)∧∀ m,m∈ns→(∀ x∈ns,m≤x)→Q (.int m) H):=by
 intro pins s σ H xs zs us ws Q I r rz h
 obtain ⟨p,ns,d,rfl,rfl,hq,q0,q⟩:=h
 obtain ⟨u,rfl,rx⟩:=vals1 r
 cases rx
 obtain ⟨u,rfl,ry⟩:=vals1 rz
 obtain ⟨td,rfl⟩:=ry
 obtain ⟨its,rv,pl,hz⟩:=I.list hq
 have hi:=intsAre_of rv
 have hlen:its.length=ns.length:=hi.length
 have hl:=pl.isList
 have hlt:p < s.heap.objs.size:=by obtain ⟨_,e,_⟩:=hl; exact Heap.lt_size e
 refine min_walkD (wpAny_pyIter_list hl ?_)
 refine ⟨s.heap.objs.size,[s.heap.objs.size,p],[s.heap.objs.size],its.toArray.size,_,_,_,rfl,Walks.list (A:=X.A.in1) (I.ok.hd hc) _ p (Nat.ne_of_lt hlt) its.toArray,
  ⟨⟨_,Heap.get?_push_size _ rfl,rfl,rfl⟩,hl.push _⟩,fun b hb=>?_,CmpOf.ints_lt (fun i=>ns.getD i 0) (fun i v hv=>IntsAre.int_at hi i v (by simpa using hv)),fun hn h' tk hk=>?_,fun hn v h' tk hP hk=>?_⟩
 · show b < Array.size _
   rw [Heap.size_push]
   rcases List.mem_cons.mp hb with z | z
   · rw [z]; exact Nat.lt_succ_self _
   · rw [List.mem_singleton.mp z]; exact Nat.lt_succ_of_lt hlt
 · rw [List.size_toArray,hlen] at hn
   exact ⟨.int d,H,I.kept (keptIt hk),⟨td,rfl⟩,q0 (List.length_eq_zero_iff.mp hn)⟩
 · have hP':its[argBest (fun i j=>decide (ns.getD i 0 < ns.getD j 0)) (its.toArray.size - 1)]? = some v:=by
    rw [←List.getElem?_toArray]; exact hP
   obtain ⟨t,rfl⟩:=IntsAre.int_at hi _ _ hP'
   rw [List.size_toArray,hlen] at hn ⊢
   have hle:=argBest_le (fun i j=>decide (ns.getD i 0 < ns.getD j 0)) (ns.length - 1)
   refine ⟨.int _,H,I.kept (keptIt hk),⟨t,rfl⟩,q _ ?_ fun x hx=>?_⟩
   · rw [List.getD_eq_getElem?_getD,List.getElem?_eq_getElem (by omega)]
     exact List.getElem_mem _
   · obtain ⟨j,hj,rfl⟩:=List.getElem_of_mem hx
     have:=argBest_min (fun i=>ns.getD i 0) (ns.length - 1) j (by omega)
     have e:ns.getD j 0=ns[j]:=by rw [List.getD_eq_getElem?_getD,List.getElem?_eq_getElem hj] <;> rfl
     rw [←e]
     exact this
end
theorem perm_map_ex {α β:Type} (f:α→β) {l k:List β} (p:l.Perm k):∀ {m:List α},k=m.map f→∃ m':List α,m'.Perm m∧l=m'.map f:=by
 induction p with
 | nil=>intro m e; exact ⟨m,List.Perm.refl _,e⟩
 | cons x _ ih =>
  intro m e
  cases m with
  | nil=>cases e
  | cons y m =>
   rw [List.map_cons] at e
   injection e with e1 e2
   obtain ⟨m',q,rfl⟩:=ih e2
   exact ⟨y::m',q.cons _,by rw [List.map_cons,e1]⟩
 | swap x y l =>
  intro m e
  cases m with
  | nil=>cases e
  | cons a m =>
   cases m with
   | nil=>rw [List.map_cons] at e; injection e with _ e2; cases e2
   | cons b m =>
    rw [List.map_cons,List.map_cons] at e
    injection e with e1 e2
    injection e2 with e2 e3
    exact ⟨b::a::m,List.Perm.swap _ _ _,by rw [List.map_cons,List.map_cons,e1,e2,e3]⟩
 | trans _ _ a b =>
  intro m e
  obtain ⟨m1,q1,e1⟩:=b e
  obtain ⟨m2,q2,e2⟩:=a e1
  exact ⟨m2,q2.trans q1,e2⟩
theorem seg_ints {xs:Array Keyed} (hK:AllKeys intKD xs) {n:Nat} (h:SegK intKD xs 0 n) (hn:n≤xs.size):SortedTo xs n:=by
 intro i j hij hj
 have z:=h i j (Nat.zero_le _) hij hj
 have at':∀ i,i < xs.size→KK intKD xs i=K xs i:=fun i hi=>by
  have e:xs[i]? = some xs[i]:=Array.getElem?_eq_getElem hi
  obtain ⟨a,ha⟩:=hK xs[i] (by simp)
  rw [K_eq hi]
  unfold KK
  rw [e]
  show (intKD.keyOf xs[i].1).getD 0=numOf xs[i].1
  generalize xs[i].1=v at ha
  cases v with
  | int k t=>rfl
  | _=>cases ha
 rw [at' i (by omega),at' j (by omega)] at z
 have z':decide (K xs j < K xs i)=false:=z
 have:=of_decide_eq_false z'
 omega
section
variable {prog:Program} {w:World} {A:Around} {E:Value→Shared→Prop} {s:Shared}
theorem sort_len {a:Addr} {vs:List Value} {n:Nat} {kz:List Int} {P:Fin→Shared→Prop} (ho:s.heap.get? a=some (seqObj "list" vs.toArray n)) (h1000:vs.length≤1000) (hl:kz.length=vs.length)
  (hv:∀ (i:Nat) v k,vs[i]? = some v→kz[i]? = some k→∃ p its,v=.ref p∧p≠a∧s.heap.IsTuple p its∧(its.size:Int)=k∧its.size≤sizeLine)
  (h:∀ (out:Array Value) (c:Nat) (h':Heap) (tk:Nat),KskOut true kz vs out.toList→h'.get? a=some (seqObj "list" out c)→(∀ b o,b≠a→s.heap.get? b=some o→h'.get? b=some o)→P (.done (.ret .none)) { s with heap:=h',toks:=tk }) :
  wpAny (model prog w) A (ksk_tree a (.builtin "len") true) P E s:=by
 have ha:a < s.heap.objs.size:=Heap.lt_size ho
 have hn:=line63
 have s1:=Heap.SameBut.update s.heap a (Obj.mapSeq fun _=>(#[]:Array Value))
 obtain ⟨e1,ho1⟩:∃ e1,(s.heap.update a (Obj.mapSeq fun _=>(#[]:Array Value))).get? a=some (seqObj "list" #[] e1):=⟨_,get?_update_seq ho fun _=>#[]⟩
 unfold ksk_tree
 refine wpAny_bind (listItems_at ho rfl (wpAny_bind (listUpdate_at ho rfl ?_ (by rw [List.size_toArray,sizeLine_eq]; omega) (Nat.zero_le _))))
 refine wpAny_bind (seqEpoch_at ho1 rfl (wpAny_bind (wpAny_newTuple (wpAny_bind (wpAny_newList (wpAny_holding ?_) (Nat.zero_le _))) (by show vs.length≤_; rw [sizeLine_eq]; omega))))
 generalize hg:((s.heap.update a (Obj.mapSeq fun _=>(#[]:Array Value))).push (seqObj "tuple" vs.toArray 0))=g
 have hgs:g.objs.size=s.heap.objs.size+1:=by rw [←hg,size_push',Heap.size_update]
 have hka:g.objs.size≠a:=by rw [hgs]; exact Nat.ne_of_gt (Nat.lt_succ_of_lt ha)
 have hold:∀ b o,b≠a→s.heap.get? b=some o→(g.push (seqObj "list" #[] 0)).get? b=some o:=fun b o hb e=>by
  rw [←hg]
  refine Heap.get?_push_of_some _ (Heap.get?_push_of_some _ ?_)
  rw [Heap.get?_update_ne _ _ _ _ hb]
  exact e
 have hga:(g.push (seqObj "list" #[] 0)).get? a=some (seqObj "list" #[] e1):=by
  rw [←hg]
  exact Heap.get?_push_of_some _ (Heap.get?_push_of_some _ ho1)
 have hgk:(g.push (seqObj "list" #[] 0)).get? g.objs.size=some (seqObj "list" #[] 0):=Heap.get?_push_size _ rfl
 have hnk:∀ b o,s.heap.get? b=some o→b≠g.objs.size:=fun b o e=>by rw [hgs]; exact Nat.ne_of_lt (Nat.lt_succ_of_lt (Heap.lt_size e))
 generalize g.objs.size=kS at hka hgk hnk
 refine (show wpAny (model prog w) A (ksk_rest a (.builtin "len") true vs.toArray e1 (.ref kS)) P E { s with heap:=g.push (seqObj "list" #[] 0) } from ?_)
 generalize g.push (seqObj "list" #[] 0)=g2 at hold hga hgk
 unfold ksk_rest
 refine wpAny_bind (wpAny_rule ?_)
 rw [List.forIn_toArray]
 refine wpAny_bind (ksk_fold (fun i s'=>∃ h' tk kA e,s'={ s with heap:=h',toks:=tk }∧h'.get? kS=some (seqObj "list" kA e)∧h'.get? a=some (seqObj "list" #[] e1)∧(∀ b o,b≠a→s.heap.get? b=some o→h'.get? b=some o)∧IntsAre kA.toList (kz.take i)) vs 0 _
  ⟨g2,s.toks,#[],0,rfl,hgk,hga,hold,by simpa using IntsAre.nil⟩ ?step ?done)
 case step =>
  rintro j x s' hx ⟨h',tk,kA,e,rfl,k1,k2,k3,hk⟩
  simp only [Nat.zero_add] at hk ⊢
  have hj:j < vs.length:=(List.getElem?_eq_some_iff.mp hx).1
  obtain ⟨k,hkj⟩:∃ k,kz[j]? = some k:=⟨_,List.getElem?_eq_getElem (by omega)⟩
  have hz:kA.size≤vs.length:=by
   have h1:=hk.length
   rw [Array.length_toList,List.length_take] at h1
   omega
  obtain ⟨p,its,rfl,hpa,⟨o,hp1,hp2⟩,hp3,hp4⟩:=hv j x k hx hkj
  have ht:Heap.IsTuple h' p its:=⟨o,k3 p o hpa hp1,hp2⟩
  refine wpAny_bind (wpAny_attempt (len_tuple (s:={ s with heap:=h',toks:=tk }) ht (by omega) ?_))
  rw [hp3]
  have s2:=Heap.SameBut.update h' kS (Obj.mapSeq (·.push (.int k (tk+1))))
  obtain ⟨c2,hc2⟩:∃ c2,(h'.update kS (Obj.mapSeq (·.push (.int k (tk+1))))).get? kS=some (seqObj "list" (kA.push (.int k (tk+1))) c2):=⟨_,get?_update_seq k1 (·.push (.int k (tk+1)))⟩
  have ek:kz.take (j+1)=kz.take j ++ [k]:=by rw [List.take_add_one,hkj]; simp
  have ea:(kA.push (Value.int k (tk+1))).toList=kA.toList ++ [Value.int k (tk+1)]:=by simp
  dsimp only
  refine wpAny_bind (listUpdate_at (xs:=kA) (n:=e) k1 rfl ?_ (by rw [sizeLine_eq]; omega) (by rw [Array.size_push,sizeLine_eq]; omega))
  refine wpAny_pure ⟨rfl,_,_,kA.push (.int k (tk+1)),c2,rfl,hc2,(s2.2 a hka.symm).trans k2,fun b o' hb e'=>(s2.2 b (hnk b o' e')).trans (k3 b o' hb e'),by rw [ea,ek]; exact ksk_snoc hk⟩
 case done =>
  rintro s' ⟨h',tk,kA,e,rfl,k1,k2,k3,hk⟩
  have hk':IntsAre kA.toList kz:=by
   have e3:kz.take (0+vs.length)=kz:=List.take_of_length_le (by omega)
   rw [e3] at hk
   exact hk
  have hsz:kA.size=vs.length:=by
   have h1:=hk'.length
   rw [Array.length_toList] at h1
   omega
  have hzs:(kA.zip vs.toArray).size=vs.length:=by rw [Array.size_zip,hsz,List.size_toArray,Nat.min_self]
  have hKs:AllKeys intKD (kA.zip vs.toArray):=fun q hq=>by
   obtain ⟨i,t,e⟩:=ksk_intKeys hk' q hq
   exact ⟨i,by rw [e]⟩
  have hrev:(kA.zip vs.toArray).reverse.Perm (kA.zip vs.toArray):=Array.perm_iff_toList_perm.mpr (by rw [Array.toList_reverse]; exact List.reverse_perm _)
  have hKr:AllKeys intKD (kA.zip vs.toArray).reverse:=fun q hq=>hKs q ((Array.perm_iff_toList_perm.mp hrev).mem_iff.mp hq)
  refine wpAny_bind (listItems_at k1 rfl ?_)
  have tail:∀ st:SortSt,(arrOf st).Perm (kA.zip vs.toArray)→failedOf st=none→SortedTo (arrOf st) (arrOf st).size→wpAny (model prog w) A (ksk_tail a true e1 (.ref kS) st) P E { s with heap:=h',toks:=tk }:=by
   intro st hp hf hs
   have hz2:(arrOf st).size=vs.length:=by rw [hp.size_eq]; exact hzs
   have ko:=ksk_out (b:=true) hk' hp hs
   have hO:(((arrOf st).map (·.2)).reverse).size=vs.length:=by rw [Array.size_reverse,Array.size_map,hz2]
   unfold ksk_tail
   dsimp only
   simp only [↓reduceIte] at ko ⊢
   rw [hf]
   generalize ((arrOf st).map (·.2)).reverse=out at ko hO ⊢
   generalize ((arrOf st).map (·.1)).toList=gone
   have t1:=Heap.SameBut.update h' kS (Obj.mapSeq fun _=>(#[]:Array Value))
   have na:(h'.update kS (Obj.mapSeq fun _=>(#[]:Array Value))).get? a=some (seqObj "list" #[] e1):=(t1.2 a hka.symm).trans k2
   have t2:=Heap.SameBut.update (h'.update kS (Obj.mapSeq fun _=>(#[]:Array Value))) a (Obj.mapSeq fun _=>out)
   obtain ⟨c2,hc2⟩:∃ c2,((h'.update kS (Obj.mapSeq fun _=>(#[]:Array Value))).update a (Obj.mapSeq fun _=>out)).get? a=some (seqObj "list" out c2):=⟨_,get?_update_seq na fun _=>out⟩
   refine wpAny_bind (listUpdate_at k1 rfl ?_ (by rw [hsz,sizeLine_eq]; omega) (Nat.zero_le _))
   refine wpAny_bind (wpAny_letGo (wpAny_bind (seqEpoch_at na rfl ?_)))
   refine wpAny_bind (listUpdate_at na rfl ?_ (Nat.zero_le _) (by rw [hO,sizeLine_eq]; omega))
   simp only [bne_self_eq_false,Bool.false_eq_true,if_false]
   exact wpAny_pure (h _ c2 _ _ ko hc2 fun b o hb e=>(t2.2 b hb).trans ((t1.2 b (hnk b o e)).trans (k3 b o hb e)))
  unfold ksk_end
  dsimp only
  simp only [if_true]
  refine wpAny_bind (wpAny_rule ?_)
  by_cases h2:vs.toArray.size < 2
  · rw [if_pos h2,if_pos h2]
    refine wpAny_bind (wpAny_pure ?_)
    rw [StateT.run_pure]
    refine wpAny_bind (wpAny_pure ?_)
    refine tail (SortSt.mk' general' (kA.zip vs.toArray).reverse #[] 7 none) hrev rfl ?_
    intro i j hij hj
    have hj2:j < (kA.zip vs.toArray).reverse.size:=hj
    rw [hrev.size_eq,hzs] at hj2
    rw [List.size_toArray] at h2
    have:i=j:=by omega
    subst this
    exact Int.le_refl _
  · rw [if_neg h2,if_neg h2]
    rw [List.size_toArray] at h2
    rw [ksk_kind hk' (by rw [hsz]; omega)]
    refine wpAny_bind (wpAny_pure ?_)
    refine wpAny_bind (wpAny_mono (wpS_sortRuns2 (κ:=intKD) (kd:=oneType') (s:={ s with heap:=h',toks:=tk }) (A:=A) (E:=E) (st:=SortSt.mk' oneType' (kA.zip vs.toArray).reverse #[] 7 none) (LtOk_one intKD_one) rfl rfl rfl hKr
     (Q:=fun _ st'=>(arrOf st').Perm (kA.zip vs.toArray)∧failedOf st'=none∧SortedTo (arrOf st') (arrOf st').size) fun st' a1 a2 a3=>⟨a1.trans hrev,a2,?_⟩) ?_ fun _ _ e=>e)
    · have a1':(arrOf st').Perm (kA.zip vs.toArray).reverse:=a1
      have e:(kA.zip vs.toArray).reverse.size=(arrOf st').size:=a1'.size_eq.symm
      have a3':SegK intKD (arrOf st') 0 (kA.zip vs.toArray).reverse.size:=a3
      rw [e] at a3'
      exact seg_ints (fun q hq=>hKr q ((Array.perm_iff_toList_perm.mp a1').mem_iff.mp hq)) a3' (Nat.le_refl _)
    · rintro ⟨⟨⟩,st'⟩ s' ⟨rfl,p1,p2,p3⟩
      exact tail st' p1 p2 p3
end
section
variable {X:Cx}
def rSortLen (K:W.Frag) (Q:VK) (x:V) (H1:Hp):Prop:=∃ (l:Addr) (ps:List Addr) (rs:List (List Int)),x=.ref l∧SqL K H1 l (ps.map V.ref)∧Tups H1 ps rs∧ps.length≤1000 ∧
 ∀ (r:Addr) (qs:List Addr) (ms:List (List Int)),H1 r=none→ms.Perm rs→ms.Pairwise (fun a b=>b.length≤a.length)→Tups H1 qs ms→Q (.ref r) (upd H1 r (.lst (qs.map V.ref)))
def tSortLen (K:W.Frag) (te:TE):TE:=fun σ H Q=>te σ H (rSortLen K Q)
theorem vals_ref_eq:∀ {ps:List Addr} {its:List Value},Vals (ps.map V.ref) its→its=ps.map Value.ref
 | [],_,r=>by rw [List.map_nil] at r; cases r; rfl
 | p::ps,_,r=>by
  rw [List.map_cons] at r
  cases r with
  | cons r1 r2 =>
   cases r1
   rw [vals_ref_eq r2]
   rfl
theorem tups_zip {H:Hp} {ps:List Addr} {rs:List (List Int)} (h:Tups H ps rs) {x:Addr×List Int} (hx:x∈ps.zip rs):H x.1=some (.tup (x.2.map V.int)):=by
 obtain ⟨j,hj,e⟩:=List.getElem_of_mem hx
 rw [List.length_zip] at hj
 rw [List.getElem_zip] at e
 have e1:ps[j]'(by omega)=x.1:=congrArg Prod.fst e
 have e2:rs[j]'(by omega)=x.2:=congrArg Prod.snd e
 exact h.2 j _ _ (by rw [List.getElem?_eq_getElem (by omega),e1]) (by rw [List.getElem?_eq_getElem (by omega),e2])
theorem sorted_len {pins:List (Addr×Obj)} {σ:L2.St} {H:Hp} {s:Shared} {l:Addr} {ps:List Addr} {rs:List (List Int)} {Q:VK} (I:Inv X pins σ H s) (hl:SqL X.K H l (ps.map V.ref)) (ht:Tups H ps rs) (hn:ps.length≤1000)
  (q:∀ (r:Addr) (qs:List Addr) (ms:List (List Int)),H r=none→ms.Perm rs→ms.Pairwise (fun a b=>b.length≤a.length)→Tups H qs ms→Q (.ref r) (upd H r (.lst (qs.map V.ref)))) :
  wpAny (model X.prog X.w) X.A (call (.builtin "sorted") [.ref l] [(Str.ofString "key",.builtin "len"),(Str.ofString "reverse",.bool true)]) (EP X pins σ Q) X.xe s:=by
 obtain ⟨its,rv,pl,hz⟩:=I.list hl
 have eits:=vals_ref_eq rv
 have hlen:its.length=ps.length:=by rw [eits,List.length_map]
 refine call_function_entry_kw kind_sorted plain_sorted entry_sorted (ksk_s2 _ _ _) ?_
 unfold Builtin.«sorted»
 refine wpAny_bind (m:=checkCount "sorted" 1 1 _) (wpAny_pure (wpAny_bind (collect_list pl.isList (wpAny_bind (wpAny_newList ?_ (by rw [sizeLine_eq]; omega))) (by rw [sizeLine_eq]; omega))))
 generalize hg:((s.heap.push (seqObj "list" #[] 0)).update s.heap.objs.size (Obj.mapSeq (· ++ its.toArray)))=g
 have hgz:g.objs.size=s.heap.objs.size+1:=by rw [←hg,Heap.size_update,size_push']
 have hgk:∀ b o,s.heap.get? b=some o→(g.push (seqObj "list" its.toArray 0)).get? b=some o:=fun b o e=>by
  refine Heap.get?_push_of_some _ ?_
  rw [←hg,Heap.get?_update_ne _ _ _ _ (Nat.ne_of_lt (Heap.lt_size e))]
  exact Heap.get?_push_of_some _ e
 have hgL:(g.push (seqObj "list" its.toArray 0)).get? g.objs.size=some (seqObj "list" its.toArray 0):=Heap.get?_push_size _ rfl
 have hne:∀ b o,s.heap.get? b=some o→b≠g.objs.size:=fun b o e=>by rw [hgz]; exact Nat.ne_of_lt (Nat.lt_succ_of_lt (Heap.lt_size e))
 have hge:s.heap.objs.size≤g.objs.size:=by rw [hgz]; exact Nat.le_succ _
 show wpAny _ _ _ _ _ { s with heap:=g.push (seqObj "list" its.toArray 0) }
 refine wpAny_bind (wpAny_holding (wpAny_call_entry_kw slot_list_sort ⟨_,hgL,rfl⟩ entry_list_sort ?body (ksk_l2 _ _ _)))
 case body =>
  rw [ksk_t5]
  refine sort_len (s:={ s with heap:=g.push (seqObj "list" its.toArray 0) }) (kz:=rs.map fun r=>(r.length:Int)) hgL (by omega) (by rw [List.length_map,hlen,ht.1]) (fun i v k hv hk=>?_) fun out c h' tk ko hc hk=>⟨_,rfl,?_⟩
  · rw [eits,List.getElem?_map] at hv
    rw [List.getElem?_map] at hk
    cases hp:ps[i]? with
    | none=>rw [hp] at hv; cases hv
    | some p =>
     cases hr:rs[i]? with
     | none=>rw [hr] at hk; cases hk
     | some r =>
      rw [hp] at hv
      rw [hr] at hk
      have ev:Value.ref p=v:=Option.some.inj hv
      have ek:(r.length:Int)=k:=Option.some.inj hk
      subst ev ek
      obtain ⟨hz1,us,ru,ht1⟩:=(show ObjOk X.prog X.w H s.heap p (.tup (r.map V.int)) from I.hok p _ (ht.2 i p r hp hr))
      have hul:=ru.length
      rw [List.length_map] at hul hz1
      obtain ⟨o,e1,e2⟩:=ht1
      exact ⟨p,us.toArray,rfl,hne p o e1,⟨o,hgk p o e1,e2⟩,by rw [List.size_toArray,hul],by rw [List.size_toArray,←hul]; exact hz1⟩
  · refine wpAny_pure ⟨_,rfl,?_⟩
    obtain ⟨ws,hp,ho,hs⟩:=ko
    have ez:((rs.map fun r=>(r.length:Int)).zip its)=(ps.zip rs).map fun x:Addr×List Int=>((x.2.length:Int),Value.ref x.1):=by
     rw [eits]
     have gen:∀ (ps:List Addr) (rs:List (List Int)),((rs.map fun r=>(r.length:Int)).zip (ps.map Value.ref))=(ps.zip rs).map fun x:Addr×List Int=>((x.2.length:Int),Value.ref x.1):=by
      intro ps
      induction ps with
      | nil=>intro rs; cases rs <;> rfl
      | cons p ps ih =>
       intro rs
       cases rs with
       | nil=>rfl
       | cons r rs =>
        exact congrArg (List.cons ((r.length:Int),Value.ref p)) (ih rs)
     exact gen ps rs
    obtain ⟨tr,htr,rfl⟩:=perm_map_ex _ hp ez
    rw [List.map_map] at ho
    have eo:out.toList=(tr.map (·.1)).map Value.ref:=by rw [ho,List.map_map]; rfl
    have hrv:Vals ((tr.map (·.1)).map V.ref) out.toList:=by
     rw [eo]
     have gen:∀ l:List Addr,Vals (l.map V.ref) (l.map Value.ref):=by
      intro l
      induction l with
      | nil=>exact .nil
      | cons a l ih=>exact .cons rfl ih
     exact gen _
    have hmp:(tr.map (·.2)).Perm rs:=by
     have:=htr.map (·.2)
     rw [List.map_snd_zip (by rw [ht.1]; exact Nat.le_refl _)] at this
     exact this
    have hk':∀ b o,s.heap.get? b=some o→h'.get? b=some o:=fun b o e=>hk b o (hne b o e) (hgk b o e)
    have hfr:H g.objs.size=none:=I.hok.fresh hge
    refine ⟨.ref g.objs.size,_,?_,rfl,q g.objs.size (tr.map (·.1)) (tr.map (·.2)) hfr hmp ?_ ?_⟩
    · have hc':h'.get? g.objs.size=some { cls:=.type "list",data:=.seq out.toList.toArray c }:=by
       rw [Array.toArray_toList]
       exact hc
      refine (show L2.Inv X pins σ _ { s with heap:=h',gens:=s.gens,drawn:=s.drawn,toks:=tk } from ?_)
      exact I.call (s:=s) (g':=s.gens) (t':=tk) (d':=s.drawn) (ch:=[]) (Un.laid hk' hge hfr) (I.hok.laid hk' hge (show ObjOk X.prog X.w _ h' _ (.lst _) from ⟨by rw [List.length_map,List.length_map,htr.length_eq,List.length_zip,sizeLine_eq]; omega,_,c,hrv,hc'⟩)) I.bare (fun _ z=>nomatch z)
    · rw [List.pairwise_map] at hs ⊢
      refine hs.imp fun {a b} hab=>?_
      have hab':((b.2.length:Nat):Int)≤((a.2.length:Nat):Int):=hab
      omega
    · refine ⟨by rw [List.length_map,List.length_map],fun j p r ep er=>?_⟩
      rw [List.getElem?_map] at ep er
      cases hj:tr[j]? with
      | none=>rw [hj] at ep; cases ep
      | some x =>
       rw [hj] at ep er
       have e1:x.1=p:=Option.some.inj ep
       have e2:x.2=r:=Option.some.inj er
       subst e1 e2
       exact tups_zip ht (htr.mem_iff.mp (List.mem_of_getElem? hj))
theorem pe_sortedLen {K:W.Frag} {p p1 p2 k1 k2 pos:Pos} {e:Expr} {te:TE} {j:Nat} (hK:X.K=K) (hg:Gl X "sorted") (hm:X.mg "sorted"=none) (hg2:Gl X "len") (hm2:X.mg "len"=none) (he:PE X e te)
  (h0:backTo pos (starEach [e] X.env)=(false,eval e X.env)::backTo pos (starEach [] X.env):=by rfl) (hpl:(backTo pos (starEach [e] X.env)).any (·.1)=false:=by rfl) (hs:starEach (e::[]) X.env=(false,eval e X.env)::starEach [] X.env:=by rfl) :
  PE X (.Call (.Name "sorted" p) [e] [⟨some "key",.Name "len" p1,k1⟩,⟨some "reverse",.Constant (.bool true) j p2,k2⟩] pos) (tSortLen K te):=by
 subst hK
 intro pins s σ H Q I h
 refine wpAny_Call_Name_kw (ld_blt I hg hm boot_sorted ?_ (by decide) (by decide))
 refine callWith_kw (thn (pa_cons he pa_nil hs pos pins s σ H (fun vs H1=>match vs with | [x]=>rSortLen X.K Q x H1 | _=>False) I h) fun us s1 ⟨vs,H1,I1,r1,q1⟩=>?_) h0 hpl rfl rfl
 match vs,q1 with
 | [x],q1 =>
  obtain ⟨l,ps,rs,rfl,hl,ht,hn,q⟩:=q1
  obtain ⟨u,rfl,rx⟩:=vals1 r1
  cases rx
  refine kws_cons (ld_blt I1 hg2 hm2 PySem.boot_len (kws_cons (Constant_bool (kws_nil ?_))) (by decide) (by decide))
  exact sorted_len I1 hl ht hn q
end
end LW
namespace LW
open PySem PySem.Spec PyProof.Rows L2 PySem.SeqAt
abbrev SKey:=List Int×Int
theorem StandAt.uniq {h:Heap} {a:Addr} {t t':List Int} {n n':Int} (x:StandAt h a t n) (y:StandAt h a t' n'):t=t'∧n=n':=by
 obtain ⟨b,k,us,⟨o1,e1,_,m1,d1⟩,⟨o2,e2,_,m2,d2⟩,r⟩:=x
 obtain ⟨b',k',us',⟨o3,e3,_,m3,d3⟩,⟨o4,e4,_,m4,d4⟩,r'⟩:=y
 rw [e1] at e3
 cases e3
 rw [d1] at d3
 injection d3 with d3 _
 have z:=congrArg Array.toList d3
 injection z with z1 z2
 injection z1 with z1
 injection z2 with z2 _
 injection z2 with z2 _
 subst z1
 rw [e2] at e4
 cases e4
 rw [d2] at d4
 injection d4 with d4 _
 have w:=congrArg Array.toList d4
 have w':us=us':=by simpa using w
 subst w'
 have la:=r.length
 have lb:=r'.length
 rw [List.length_map] at la lb
 refine ⟨List.ext_getElem (by omega) fun i hi hj=>?_,z2⟩
 obtain ⟨u1,q1⟩:=vals_int r (j:=i) (by omega)
 obtain ⟨u2,q2⟩:=vals_int r' (j:=i) (by omega)
 rw [q1] at q2
 injection q2 with q2
 rw [List.getD_eq_getElem?_getD,List.getD_eq_getElem?_getD,List.getElem?_eq_getElem hi,List.getElem?_eq_getElem hj] at q2
 exact q2
theorem IsTuple.keepBut {h h':Heap} {a d:Addr} {xs:Array Value} {o:Obj} {es ep} (x:h.IsTuple a xs) (ho:h.get? d=some o) (hd:o.data=.dict es ep) (hs:Heap.SameBut d h h'):h'.IsTuple a xs:=by
 obtain ⟨o',e,c,n,q⟩:=x
 have hne:a≠d:=by
  rintro rfl
  rw [e] at ho
  cases ho
  rw [q] at hd
  cases hd
 exact ⟨o',(hs.2 a hne).trans e,c,n,q⟩
theorem items_ints {prog:Program} {w:World}:∀ {t:List Int} {us:List Value},Vals (t.map V.int) us→ItemsAre (PySem.intKind prog w) t us
 | [],_,r=>by rw [List.map_nil] at r; cases r; exact .nil
 | i::t,_,r=>by
  rw [List.map_cons] at r
  cases r with
  | cons r1 r2 =>
   obtain ⟨k,rfl⟩:=r1
   exact .cons (by show Value.isInt i (.int i k)=true; simp [Value.isInt]) (items_ints r2)
theorem key_ints {prog:Program} {w:World} {h:Heap} {b:Addr} {t:List Int} {us:List Value} (x:h.IsTuple b us.toArray) (r:Vals (t.map V.int) us):IsTupleKey (PySem.intKind prog w) h t b:=by
 obtain ⟨o,e,c,n,d⟩:=x
 exact ⟨o,us.toArray,n,e,c,d,by simpa using items_ints r⟩
section
variable {prog:Program} {w:World} {A:Around} {E:Value→Shared→Prop} {s:Shared}
def standHash (prog:Program) (w:World) (k:SKey):Int:=reduceHash (Builtin.Tuple.tupleHashOf [tupleKeyHash (PySem.intKind prog w) k.1,hashInt k.2])
theorem hash_stand {a:Addr} {k:SKey} {Q:Int→Shared→Prop} (hu:A.units+1 < cLine) (hk:StandAt s.heap a k.1 k.2) (h:Q (standHash prog w k) { s with toks:=s.toks+(k.1.length+3) }):wpAny (model prog w) A (pyHash (.ref a)) Q E s:=by
 obtain ⟨b,tk,us,ha,hb,r⟩:=hk
 obtain ⟨o,ho,hc,m,hd⟩:=id ha
 have hT:s.TypeIs (.ref a) "tuple":=⟨o,ho,hc⟩
 unfold pyHash
 first | unfold pyHashByItsType | skip
 first | refine wpAny_bind (wpAny_cRoomFor_or (.inr (by omega)) ?_) | skip
 refine wpAny_bind (wpAny_specialOf hT PySem.F.slot_tuple_hash.lookup ?_)
 refine (show wpAny _ _ (if (some (Value.builtin "tuple.__hash__") == some Value.none)=true then _ else _) Q E s from ?_)
 rw [if_neg (by rw [beq_builtin_none]; exact Bool.false_ne_true)]
 refine wpAny_bind (wpAny_specialOf hT PySem.F.slot_tuple_hash.lookup ?_)
 refine (show wpAny _ _ (callSpecialIfBoundUnlessNone? (.ref a) "__hash__" _ >>= _) Q E s from ?_)
 refine wpAny_bind (wpAny_callSpecialIfBoundUnlessNone?_slot hT PySem.F.slot_tuple_hash (wpAny_call_entry PySem.F.slot_tuple_hash hT PySem.F.entry_tuple_hash ?_ (PySem.F.args_tuple_hash_1 _)))
 refine (show wpAny _ _ (Builtin.Tuple.tupleItemsOf (.ref a) >>= _) _ _ s from ?_)
 refine wpAny_bind (wpAny_tupleItemsOf ho hd (wpAny_bind ?_))
 rw [←Array.forIn_toList]
 refine wpAny_forIn_list _ (fun rest (acc:Array Int) s'=>(rest=[.ref b,.int k.2 tk]∧acc.toList=[]∧s'=s)∨(rest=[.int k.2 tk]∧acc.toList=[tupleKeyHash (PySem.intKind prog w) k.1]∧s'={ s with toks:=s.toks+(k.1.length+1) }) ∨
  (rest=[]∧acc.toList=[tupleKeyHash (PySem.intKind prog w) k.1,hashInt k.2]∧s'={ s with toks:=s.toks+(k.1.length+1)+1 })) _ ?_ ?_ _ _ (.inl ⟨rfl,rfl,rfl⟩)
 · rintro x rest acc s' (⟨e,ea,rfl⟩ | ⟨e,ea,rfl⟩ | ⟨e,_,_⟩)
   · injection e with e1 e2
     subst e1 e2
     refine wpAny_bind (wpAny_pyHash_tuple (knd:=PySem.intKind prog w) (A:=A.in1) (by show A.units+1 < cLine; exact hu) (key_ints hb r) ?_)
     first
      | exact wpAny_pure (.inr (.inl ⟨rfl,by simp [ea],rfl⟩))
      | exact wpAny_bind (wpAny_pure (wpAny_pure (.inr (.inl ⟨rfl,by simp [ea],rfl⟩))))
   · injection e with e1 e2
     subst e1 e2
     refine wpAny_bind (wpAny_pyHash_int ?_)
     first
      | exact wpAny_pure (.inr (.inr ⟨rfl,by simp [ea],rfl⟩))
      | exact wpAny_bind (wpAny_pure (wpAny_pure (.inr (.inr ⟨rfl,by simp [ea],rfl⟩))))
   · cases e
 · rintro acc s' (⟨e,_,_⟩ | ⟨e,_,_⟩ | ⟨_,ea,rfl⟩)
   · cases e
   · cases e
   refine (show wpAny _ _ (retInt (Builtin.Tuple.tupleHashOf acc.toList)) _ _ _ from ?_)
   rw [ea]
   refine wpAny_ret_mkInt ?_
   unfold standHash reduceHash at h
   generalize Builtin.Tuple.tupleHashOf [tupleKeyHash (PySem.intKind prog w) k.1,hashInt k.2]=z at h ⊢
   have et:s.toks+(k.1.length+1)+1+1=s.toks+(k.1.length+3):=by omega
   refine (show wpAny _ _ (if (decide (-(2:Int) ^ 63≤z) && decide (z < 2 ^ 63))=true then _ else _) Q E _ from ?_)
   by_cases hr:(decide (-(2:Int) ^ 63≤z) && decide (z < 2 ^ 63))=true
   · rw [if_pos hr]
     rw [if_pos hr] at h
     refine wpAny_pure ?_
     rw [←et] at h
     exact h
   · rw [if_neg hr]
     rw [if_neg hr] at h
     refine wpAny_bind (wpAny_rule (wpAny_pure ?_))
     rw [←et] at h
     exact h
theorem eq_stand {a b:Addr} {k m:SKey} (hu:A.units+1 < cLine) (hx:StandAt s.heap a k.1 k.2) (hy:StandAt s.heap b m.1 m.2):EqAt A s (.ref a) (.ref b) (decide (k=m)):=by
 by_cases hab:a=b
 · subst hab
   obtain ⟨e1,e2⟩:=hx.uniq hy
   rw [decide_eq_true (Prod.ext e1 e2)]
   exact EqAt.same _
 · obtain ⟨c1,k1,us,p1,p2,rv⟩:=hx
   obtain ⟨c2,k2,vs,p3,p4,rw'⟩:=hy
   have h:=EqAt.of_refs (A:=A) hab (RcAt.tuples (A:=A) (e:=fun j=>if j=0 then decide (k.1=m.1) else decide (k.2=m.2)) p1 p3 (by omega) fun j h1 h2=>?_)
   · have e:((List.range (min (#[Value.ref c1,.int k.2 k1]:Array Value).size (#[Value.ref c2,.int m.2 k2]:Array Value).size)).all (fun j=>if j=0 then decide (k.1=m.1) else decide (k.2=m.2)) && (#[Value.ref c1,.int k.2 k1]:Array Value).size == (#[Value.ref c2,.int m.2 k2]:Array Value).size)=decide (k=m):=by
      show (decide (k.1=m.1) && (decide (k.2=m.2) && true) && true)=_
      rw [Bool.and_true,Bool.and_true,Bool.eq_iff_iff,Bool.and_eq_true,decide_eq_true_iff,decide_eq_true_iff,decide_eq_true_iff,Prod.ext_iff]
     rw [e] at h
     exact h
   · have hj:j=0∨j=1:=by
      have:j < 2:=h1
      omega
     rcases hj with rfl | rfl
     · exact eqAt_ints (A:=A.in1) p2 p4 rv rw' (by show A.units+1 < cLine; exact hu)
     · exact eqAt_int (A:=A.in1) (s:=s) k.2 m.2 k1 k2
theorem quiet_tup {d:Nat} {a:Addr} {xs:Array Value} {Q:Bool→Shared→Prop} (ha:s.heap.IsTuple a xs) (hall:∀ v∈xs.toList,∀ Q':Bool→Shared→Prop,Q' true s→wpAny (model prog w) A (eqIsQuiet d v) Q' E s) (h:Q true s):wpAny (model prog w) A (eqIsQuiet (d+1) (.ref a)) Q E s:=by
 obtain ⟨o,ho,hc,m,hd⟩:=id ha
 have hT:s.TypeIs (.ref a) "tuple":=⟨o,ho,hc⟩
 unfold eqIsQuiet
 refine wpAny_bind (wpAny_specialOf hT PySem.F.slot_tuple_eq.lookup ?_)
 refine (show wpAny _ _ (isInstance (.ref a) (.type "tuple") >>= _) _ _ s from ?_)
 refine wpAny_bind (wpAny_isInstance hT isSubtype_tuple_tuple ?_)
 simp only [Bool.not_true,Bool.false_eq_true,if_false]
 refine wpAny_bind (wpAny_seqItems ho hd (wpAny_bind ?_))
 refine (show wpAny _ _ (forIn xs _ _) _ _ s from ?_)
 rw [←Array.forIn_toList]
 refine wpAny_forIn_list _ (fun rest r s'=>r.1=none∧s'=s∧∀ v∈rest,v∈xs.toList) _ ?_ ?_ _ _ ⟨rfl,rfl,fun v hv=>hv⟩
 · rintro v rest r s' ⟨hr,rfl,hm⟩
   refine wpAny_bind (hall v (hm v List.mem_cons_self) _ ?_)
   simp only [Bool.not_true,Bool.false_eq_true,if_false]
   exact wpAny_pure ⟨rfl,rfl,fun u hu'=>hm u (List.mem_cons_of_mem _ hu')⟩
 · rintro ⟨r1,r2⟩ s' ⟨hr,rfl,_⟩
   simp only at hr
   subst hr
   exact wpAny_pure h
theorem quiet_stand {a:Addr} {k:SKey} {Q:Bool→Shared→Prop} (hk:StandAt s.heap a k.1 k.2) (h:Q true s):wpAny (model prog w) A (eqIsQuiet 8 (.ref a)) Q E s:=by
 obtain ⟨b,tk,us,ha,hb,r⟩:=hk
 refine quiet_tup (d:=7) ha (fun v hv Q' hq=>?_) h
 have hv':v∈[Value.ref b,.int k.2 tk]:=hv
 rcases List.mem_cons.mp hv' with e | e
 · subst e
   refine quiet_tup (d:=6) hb (fun u hu' Q'' hq''=>?_) hq
   have hbv:=(items_ints (prog:=prog) (w:=w) r).byValue u (by simpa using hu')
   rw [eqIsQuiet_byValue _ hbv]
   exact wpAny_pure hq''
 · rw [List.mem_singleton.mp e,eqIsQuiet_byValue _ rfl]
   exact wpAny_pure hq
end
def stKind (prog:Program) (w:World):HeapKind prog w SKey where
 is h k a:=StandAt h a k.1 k.2
 hash:=standHash prog w
 draws k:=k.1.length+3
 room A:=A.units+1 < cLine
 inj hx hy:=Prod.ext (hx.uniq hy).1 (hx.uniq hy).2
 keeps x ho hd hs:=by
  obtain ⟨b,tk,us,h1,h2,r⟩:=x
  exact ⟨b,tk,us,IsTuple.keepBut h1 ho hd hs,IsTuple.keepBut h2 ho hd hs,r⟩
 pyHash hu hk h:=hash_stand hu hk h
 eqBool hu hx hy h:=eq_stand hu hx hy _ _ _ _ h
 quiet hk h:=quiet_stand hk h
def DictS (P:Program) (w:World) (h:Heap) (d:Addr) (es:List (SKey×Addr×Int)):Prop :=
 es.length≤1000∧(d == sysModules)=false∧∃ xs:List (SKey×Addr×Value),Paired (fun (e:SKey×Addr×Int) (x:SKey×Addr×Value)=>e.1=x.1∧e.2.1=x.2.1∧∃ t,x.2.2=.int e.2.2 t) es xs ∧
  ∃ o en ep,h.get? d=some o∧o.ExactDict∧o.data=.dict en ep∧en.toList=xs.map (entryOfKey (stKind P w))∧(xs.map (·.1)).Nodup
def DictO (P:Program) (w:World) (d:Addr) (es:List (SKey×Addr×Int)):HO:=.ext fun h=>DictS P w h d es
theorem DictS.keep {P:Program} {w:World} {h h':Heap} {d:Addr} {es:List (SKey×Addr×Int)} (x:DictS P w h d es) (k:∀ o,h.get? d=some o→h'.get? d=some o):DictS P w h' d es:=by
 obtain ⟨a,b,xs,c,o,en,ep,e,r⟩:=x
 exact ⟨a,b,xs,c,o,en,ep,k o e,r⟩
theorem DictS.ok {P:Program} {w:World} {H:Hp} {h:Heap} {d:Addr} {es:List (SKey×Addr×Int)} (x:DictS P w h d es):ObjOk P w H h d (DictO P w d es):=by
 obtain ⟨a,b,xs,c,o,en,ep,e,r⟩:=id x
 exact ⟨x,⟨o,e⟩,fun h1 h2 y k=>y.keep k⟩
def KnownAt (P:Program) (w:World) (H:Hp) (d:Addr) (es:List (SKey×Addr×Int)):Prop:=H d=some (DictO P w d es)∧Stands H (es.map (·.2.1)) (es.map (·.1))
def valS (es:List (SKey×Addr×Int)) (k:SKey):Option Int:=(es.find? fun e=>decide (e.1=k)).map (·.2.2)
theorem valS_rel {es:List (SKey×Addr×Int)} {xs:List (SKey×Addr×Value)} (r:Paired (fun (e:SKey×Addr×Int) (x:SKey×Addr×Value)=>e.1=x.1∧e.2.1=x.2.1∧∃ t,x.2.2=.int e.2.2 t) es xs) (k:SKey) :
  (valS es k=none∧atKey xs k=none)∨∃ v p t,valS es k=some v∧atKey xs k=some p∧p.2=.int v t:=by
 induction r with
 | nil=>exact .inl ⟨rfl,rfl⟩
 | @cons e x l₁ l₂ h1 _ ih =>
  obtain ⟨e1,e2,t,e3⟩:=h1
  unfold valS atKey at ih ⊢
  rw [List.find?_cons,List.find?_cons]
  by_cases c:e.1=k
  · rw [decide_eq_true c,decide_eq_true (e1 ▸ c)]
    exact .inr ⟨_,_,t,rfl,rfl,e3⟩
  · rw [decide_eq_false c,decide_eq_false (fun z=>c (e1.trans z))]
    exact ih
section
variable {X:Cx} {pins:List (Addr×Obj)} {σ:L2.St} {H:Hp} {s:Shared}
theorem known_dict {d:Addr} {es:List (SKey×Addr×Int)} (I:Inv X pins σ H s) (h:KnownAt X.prog X.w H d es):(d == sysModules)=false∧es.length≤1000∧∃ xs:List (SKey×Addr×Value),Paired (fun (e:SKey×Addr×Int) (x:SKey×Addr×Value)=>e.1=x.1∧e.2.1=x.2.1∧∃ t,x.2.2=.int e.2.2 t) es xs∧s.heap.DictOfH (stKind X.prog X.w) d xs:=by
 obtain ⟨h1,h2⟩:=h
 obtain ⟨a,b,xs,c,o,en,ep,e1,e2,e3,e4,e5⟩:=(show ObjOk X.prog X.w H s.heap d (DictO X.prog X.w d es) from I.hok d _ h1).1
 refine ⟨b,a,xs,c,o,en,ep,e1,e2,e3,e4,fun x hx=>?_,e5⟩
 have gen:∀ {l:List (SKey×Addr×Int)} {m:List (SKey×Addr×Value)},Paired (fun (e:SKey×Addr×Int) (x:SKey×Addr×Value)=>e.1=x.1∧e.2.1=x.2.1∧∃ t,x.2.2=.int e.2.2 t) l m→∀ x∈m,∃ e∈l,e.1=x.1∧e.2.1=x.2.1:=by
  intro l m q
  induction q with
  | nil=>intro x hx; cases hx
  | cons q1 _ ih =>
   intro x hx
   rcases List.mem_cons.mp hx with z | z
   · subst z; exact ⟨_,List.mem_cons_self,q1.1,q1.2.1⟩
   · obtain ⟨e,he,r⟩:=ih x z
     exact ⟨e,List.mem_cons_of_mem _ he,r⟩
 obtain ⟨e,he,r1,r2⟩:=gen c x hx
 obtain ⟨j,hj,ej⟩:=List.getElem_of_mem he
 have st:=h2.2 j e.2.1 e.1 (by rw [List.getElem?_map,List.getElem?_eq_getElem hj,ej]; rfl) (by rw [List.getElem?_map,List.getElem?_eq_getElem hj,ej]; rfl)
 show StandAt s.heap x.2.1 x.1.1 x.1.2
 rw [←r1,←r2]
 exact stand_at I st
theorem ix_known {P:Program} {w:World} (hP:X.prog=P) (hw:X.w=w) (hu:X.A.units+8 < cLine):IxR X (fun x y H Q=>∃ (d b:Addr) (es:List (SKey×Addr×Int)) (k:SKey) (v:Int),x=.ref d∧y=.ref b∧KnownAt P w H d es∧Stand H b k.1 k.2∧valS es k=some v∧Q (.int v) H):=by
 subst hP hw
 intro value slice pins s σ H x y v u Q I rx ry h hs
 obtain ⟨d,b,es,k,m,rfl,rfl,hk,hb,hv,q⟩:=h
 cases rx
 cases ry
 obtain ⟨_,_,xs,rel,dd⟩:=known_dict I hk
 rcases valS_rel rel k with ⟨z,_⟩ | ⟨m',p,t,e1,e2,e3⟩
 · rw [z] at hv; cases hv
 · rw [hv] at e1
   cases e1
   refine subscriptTail_builtinR (x:=.int m t) dd.typeIs PySem.F.slot_dict_getitem.lookup (wpAny_getItem_heap (knd:=stKind X.prog X.w) (k:=k) (p:=p) (by show X.A.units+1+1 < cLine; omega) (stand_at I hb) dd e2 ?_) hs
   rw [e3]
   exact ⟨rfl,⟨.int m,H,I.tok _,⟨t,rfl⟩,q⟩⟩
theorem set_known {P:Program} {w:World} (hP:X.prog=P) (hw:X.w=w) (hu:X.A.units+8 < cLine):PSet X (fun o i v H Q=>∃ (d b:Addr) (es:List (SKey×Addr×Int)) (k:SKey) (m:Int),o=.ref d∧i=.ref b∧v=.int m∧KnownAt P w H d es∧Stand H b k.1 k.2∧valS es k=none∧es.length < 1000∧Q (upd H d (DictO P w d (es ++ [(k,b,m)])))):=by
 subst hP hw
 intro pins s σ H o i v ov iv u Q I ro ri rv h
 obtain ⟨d,b,es,k,m,rfl,rfl,rfl,hk,hb,hv,hl,q⟩:=h
 cases ro
 cases ri
 obtain ⟨t,rfl⟩:=rv
 obtain ⟨hd,hz,xs,rel,dd⟩:=known_dict I hk
 have hxl:xs.length=es.length:=(Paired.length rel).symm
 have hn:atKey xs k=none:=by
  rcases valS_rel rel k with ⟨_,z⟩ | ⟨m',p,t,e1,_⟩
  · exact z
  · rw [hv] at e1; cases e1
 refine wpAny_setItem_heap (knd:=stKind X.prog X.w) (hsz:=by rw [hxl,sizeLine_eq]; omega) (k:=k) (by show X.A.units+1+1 < cLine; omega) (stand_at I hb) dd fun h' dd' hs=>?_
 rw [storedH_new hn] at dd'
 obtain ⟨ob,en,ep,e1,e2,e3,e4,_,e5⟩:=dd'
 refine ⟨_,I.write (x:=d) (e:=d) (by rw [hk.1]; exact True.intro) (.inl rfl) (fun b q hb z=>(hs.2 b hb).trans z) ⟨ob,e1⟩ (DictS.ok ⟨?_,hd,xs ++ [(k,b,.int m t)],Paired.snoc rel ⟨rfl,rfl,t,rfl⟩,ob,en,ep,e1,e2,e3,e4,e5⟩),q⟩
 rw [List.length_append,List.length_singleton]
 omega
theorem pe_dnewSt {P:Program} {w:World} {pos:Pos} (hP:X.prog=P) (hw:X.w=w):PE X (.Dict [] [] pos) (fun _ H Q=>∀ p,H p=none→Q (.ref p) (upd H p (DictO P w p []))):=by
 subst hP hw
 intro pins s σ H Q I h
 have hbig:sysModules < s.heap.objs.size:=Nat.lt_trans (by decide) (I.mod.glob.keeps I.bk).lt
 refine wpAny_Dict_empty ⟨.ref s.heap.objs.size,_,I.laid (a:=s.heap.objs.size) (o:=DictO X.prog X.w s.heap.objs.size []) (t':=s.toks) (fun _ _ q=>Heap.get?_push_of_some _ q) (Nat.le_refl _) (DictS.ok ⟨Nat.zero_le _,beq_eq_false_iff_ne.mpr (Ne.symm (Nat.ne_of_lt hbig)),[],.nil,_,#[],0,Heap.get?_push_size _ rfl,⟨rfl,rfl,rfl⟩,rfl,rfl,List.nodup_nil⟩),rfl,h _ (I.hok.fresh (Nat.le_refl _))⟩
end
theorem KnownAt.same {P:Program} {w:World} {H H':Hp} {d:Addr} {es:List (SKey×Addr×Int)} (h:KnownAt P w H d es) (s:Same H H'):KnownAt P w H' d es:=⟨s _ _ h.1,h.2.same s⟩
theorem KnownAt.put {P:Program} {w:World} {H:Hp} {d b:Addr} {es:List (SKey×Addr×Int)} {k:SKey} {m:Int} (h:KnownAt P w H d es) (hb:Stand H b k.1 k.2):KnownAt P w (upd H d (DictO P w d (es ++ [(k,b,m)]))) d (es ++ [(k,b,m)]):=by
 refine ⟨upd_same,?_⟩
 have hst:Stands H ((es ++ [(k,b,m)]).map (·.2.1)) ((es ++ [(k,b,m)]).map (·.1)):=by
  rw [List.map_append,List.map_append]
  exact h.2.app (Stands.one hb)
 refine hst.mono fun p o e=>?_
 rw [upd_ne (ne_of e h.1 (fun z=>nomatch z))]
 exact e
theorem KnownAt.new {P:Program} {w:World} {H:Hp} {d:Addr}:KnownAt P w (upd H d (DictO P w d [])) d []:=⟨upd_same,Stands.nil⟩
end LW
namespace LW
abbrev Up (l:List Int):Prop:=l.Pairwise (· < ·)
def choStep (acc:List (List Int)) (n:Int):List (List Int):=acc ++ acc.map fun t=>t ++ [n]
def choF (ns:List Int):List (List Int):=ns.foldl choStep [[]]
theorem choF_snoc (ns:List Int) (n:Int):choF (ns ++ [n])=choStep (choF ns) n:=by unfold choF; rw [List.foldl_append]; rfl
theorem rev_ind {P:List Int→Prop} (h0:P []) (h1:∀ l n,P l→P (l ++ [n])):∀ l,P l:=by
 intro l
 have:∀ k,∀ l:List Int,l.length=k→P l:=by
  intro k
  induction k with
  | zero=>intro l hl; rw [List.length_eq_zero_iff.mp hl]; exact h0
  | succ k ih =>
   intro l hl
   have hne:l≠[]:=fun z=>by rw [z] at hl; cases hl
   rw [←List.dropLast_concat_getLast hne]
   exact h1 _ _ (ih _ (by rw [List.length_dropLast]; omega))
 exact this _ l rfl
theorem choF_len (ns:List Int):(choF ns).length=2 ^ ns.length:=by
 induction ns using rev_ind with
 | h0=>rfl
 | h1 l n ih =>
  rw [choF_snoc,List.length_append,List.length_singleton,Nat.pow_succ]
  unfold choStep
  rw [List.length_append,List.length_map,ih]
  omega
theorem sub_one {l:List Int} {n:Int}:l.Sublist [n]↔l=[]∨l=[n]:=by
 constructor
 · intro h
   cases h with
   | cons _ h=>exact .inl (List.sublist_nil.mp h)
   | cons_cons _ h=>exact .inr (by rw [List.sublist_nil.mp h])
 · rintro (rfl | rfl)
   · exact List.nil_sublist _
   · exact List.Sublist.refl _
theorem mem_choF (ns:List Int):∀ t,t∈choF ns↔t.Sublist ns:=by
 induction ns using rev_ind with
 | h0 =>
  intro t
  rw [List.sublist_nil]
  exact List.mem_singleton
 | h1 l n ih =>
  intro t
  rw [choF_snoc,List.sublist_append_iff]
  unfold choStep
  rw [List.mem_append,List.mem_map]
  constructor
  · rintro (h | ⟨u,h,rfl⟩)
    · exact ⟨t,[],(List.append_nil _).symm,(ih t).mp h,List.nil_sublist _⟩
    · exact ⟨u,[n],rfl,(ih u).mp h,List.Sublist.refl _⟩
  · rintro ⟨a,b,rfl,h1,h2⟩
    rcases sub_one.mp h2 with rfl | rfl
    · exact .inl (by rw [List.append_nil]; exact (ih a).mpr h1)
    · exact .inr ⟨a,(ih a).mpr h1,rfl⟩
theorem choF_nd {ns:List Int}:ns.Nodup→(choF ns).Nodup:=by
 induction ns using rev_ind with
 | h0=>intro _; exact List.pairwise_singleton _ _
 | h1 l n ih =>
  intro hn
  rw [List.nodup_append] at hn
  obtain ⟨h1,_,h3⟩:=hn
  rw [choF_snoc]
  unfold choStep
  rw [List.nodup_append]
  refine ⟨ih h1,?_,?_⟩
  · refine List.Pairwise.map _ (fun a b hne e=>hne ?_) (ih h1)
    exact List.append_cancel_right e
  · intro a ha b hb e
    obtain ⟨u,hu,rfl⟩:=List.mem_map.mp hb
    subst e
    have:=((mem_choF l _).mp ha).subset (List.mem_append_right u (List.mem_singleton.mpr rfl))
    exact h3 n this n (List.mem_singleton.mpr rfl) rfl
theorem up_ext:∀ {a b:List Int},Up a→Up b→(∀ x,x∈a↔x∈b)→a=b
 | [],[],_,_,_=>rfl
 | [],y::b,_,_,h=>by have:=(h y).mpr List.mem_cons_self; cases this
 | x::a,[],_,_,h=>by have:=(h x).mp List.mem_cons_self; cases this
 | x::a,y::b,ha,hb,h=>by
  obtain ⟨a1,a2⟩:=List.pairwise_cons.mp ha
  obtain ⟨b1,b2⟩:=List.pairwise_cons.mp hb
  have e:x=y:=by
   rcases List.mem_cons.mp ((h x).mp List.mem_cons_self) with z | z
   · exact z
   · rcases List.mem_cons.mp ((h y).mpr List.mem_cons_self) with w | w
     · exact w.symm
     · have:=b1 x z; have:=a1 y w; omega
  subst e
  rw [up_ext a2 b2 fun z=>?_]
  constructor
  · intro hz
    rcases List.mem_cons.mp ((h z).mp (List.mem_cons_of_mem _ hz)) with w | w
    · have:=a1 z hz; omega
    · exact w
  · intro hz
    rcases List.mem_cons.mp ((h z).mpr (List.mem_cons_of_mem _ hz)) with w | w
    · have:=b1 z hz; omega
    · exact w
theorem Up.nd {l:List Int} (h:Up l):l.Nodup:=h.imp fun h=>by intro e; omega
theorem Up.sub {l m:List Int} (h:Up m) (s:l.Sublist m):Up l:=List.Pairwise.sublist s h
theorem up_sublist {t ns:List Int} (ht:Up t) (hn:Up ns) (h:∀ x∈t,x∈ns):t.Sublist ns:=by
 have e:t=ns.filter fun x=>decide (x∈t):=up_ext ht (hn.filter _) fun x=>by
  rw [List.mem_filter]
  exact ⟨fun q=>⟨h x q,decide_eq_true q⟩,fun q=>of_decide_eq_true q.2⟩
 rw [e]
 exact List.filter_sublist
theorem up_of_sorted {l:List Int} (h:l.Pairwise (·≤·)) (hn:l.Nodup):Up l:=by
 have:=List.Pairwise.and h hn
 exact this.imp fun ⟨a,b⟩=>by omega
def plusI (t:List Int) (m:Int) (u:List Int):Prop:=Up u∧∀ x,x∈u↔x∈t∨x=m
theorem plusI.unique {t u u':List Int} {m:Int} (h:plusI t m u) (k:plusI t m u'):u=u':=up_ext h.1 k.1 fun x=>(h.2 x).trans (k.2 x).symm
theorem plusI_of {t u:List Int} {m:Int} (ht:Up t) (hm:m∉t) (hp:u.Perm (t ++ [m])) (hs:u.Pairwise (·≤·)):plusI t m u:=by
 refine ⟨up_of_sorted hs (hp.nodup_iff.mpr ?_),fun x=>?_⟩
 · rw [List.nodup_append]
   exact ⟨ht.nd,(by simp),fun a ha b hb e=>hm (by rw [List.mem_singleton.mp hb] at e; exact e ▸ ha)⟩
 · rw [hp.mem_iff,List.mem_append,List.mem_singleton]
end LW
namespace LW
theorem mem_leftOf {ns t:List Int} {x:Int}:x∈leftOf ns t↔x∈ns∧x∉t:=by
 unfold leftOf
 rw [List.mem_filter]
 simp
theorem leftOf_nd {ns t:List Int} (h:ns.Nodup):(leftOf ns t).Nodup:=List.Pairwise.filter _ h
theorem leftOf_len (ns t:List Int):(leftOf ns t).length≤ns.length:=List.length_filter_le _ _
theorem left_left {ns t u:List Int} {m:Int} (h:plusI t m u):leftOf (leftOf ns t) u=leftOf ns u:=by
 unfold leftOf
 rw [List.filter_filter]
 refine List.filter_congr fun x _=>?_
 by_cases c:x∈u
 · simp [c]
 · have:x∉t:=fun z=>c ((h.2 x).mpr (.inl z))
   simp [c,this]
theorem nodup_ext_perm {l k:List Int} (hl:l.Nodup) (hk:k.Nodup) (h:∀ x,x∈l↔x∈k):l.Perm k:=by
 have e1:l.length≤k.length:=hl.length_le_of_subset fun x hx=>(h x).mp hx
 have e2:k.length≤l.length:=hk.length_le_of_subset fun x hx=>(h x).mpr hx
 exact perm_of_sub hl (Nat.le_antisymm e1 e2) fun x hx=>(h x).mp hx
theorem left_perm {ns t u:List Int} {m:Int} (hn:ns.Nodup) (hm:m∈leftOf ns t) (h:plusI t m u):(m::leftOf ns u).Perm (leftOf ns t):=by
 refine nodup_ext_perm ?_ (leftOf_nd hn) fun x=>?_
 · refine List.nodup_cons.mpr ⟨fun z=>(mem_leftOf.mp z).2 ((h.2 m).mpr (.inr rfl)),leftOf_nd hn⟩
 · rw [List.mem_cons,mem_leftOf,mem_leftOf,h.2]
   constructor
   · rintro (rfl | ⟨h1,h2⟩)
     · exact mem_leftOf.mp hm
     · exact ⟨h1,fun z=>h2 (.inl z)⟩
   · rintro ⟨h1,h2⟩
     by_cases e:x=m
     · exact .inl e
     · exact .inr ⟨h1,fun z=>z.elim h2 e⟩
theorem plus_sub {ns t u:List Int} {m:Int} (hn:Up ns) (ht:t.Sublist ns) (hm:m∈leftOf ns t) (h:plusI t m u):u.Sublist ns∧u.length=t.length+1∧m∈u:=by
 refine ⟨up_sublist h.1 hn fun x hx=>?_,?_,(h.2 m).mpr (.inr rfl)⟩
 · rcases (h.2 x).mp hx with z | z
   · exact ht.subset z
   · rw [z]; exact (mem_leftOf.mp hm).1
 · have hmt:=(mem_leftOf.mp hm).2
   have:u.Perm (m::t):=nodup_ext_perm h.1.nd (List.nodup_cons.mpr ⟨hmt,(hn.sub ht).nd⟩) fun x=>by
    rw [h.2,List.mem_cons]
    exact or_comm
   rw [this.length_eq,List.length_cons]
def plusF (ns t:List Int) (m:Int):List Int:=ns.filter fun x=>decide (x∈t∨x=m)
theorem plusF_is {ns t:List Int} {m:Int} (hn:Up ns) (ht:t.Sublist ns) (hm:m∈leftOf ns t):plusI t m (plusF ns t m):=by
 refine ⟨List.Pairwise.filter _ hn,fun x=>?_⟩
 unfold plusF
 rw [List.mem_filter,decide_eq_true_iff]
 constructor
 · intro h; exact h.2
 · intro h
   refine ⟨?_,h⟩
   rcases h with h | h
   · exact ht.subset h
   · rw [h]; exact (mem_leftOf.mp hm).1
theorem height_ways {g:Int→Ls} {ns t:List Int} {n:Int} (hn:ns.Nodup) (hs:Int→List Int) (hh:Int→Nat) (hp:∀ m∈leftOf ns t,plusI t m (hs m)∧Height g (leftOf ns (hs m)) m (hh m))
  {w:Int} (hw:w∈(leftOf ns t).map fun m=>((takes (g n) (g m):Nat):Int)+(hh m:Int)) (hle:∀ x∈(leftOf ns t).map fun m=>((takes (g n) (g m):Nat):Int)+(hh m:Int),w≤x):∃ h:Nat,w=(h:Int)∧Height g (leftOf ns t) n h:=by
 obtain ⟨m,hm,rfl⟩:=List.mem_map.mp hw
 refine ⟨takes (g n) (g m)+hh m,by omega,Height.mk' ⟨m,leftOf ns (hs m),hh m,left_perm hn hm (hp m hm).1,(hp m hm).2,rfl⟩ fun b rest q=>?_⟩
 have hb:b∈leftOf ns t:=q.mem_iff.mp List.mem_cons_self
 have hr:rest.Perm (leftOf ns (hs b)):=List.Perm.cons_inv (q.trans (left_perm hn hb (hp b hb).1).symm)
 have h2:=hle _ (List.mem_map.mpr ⟨b,hb,rfl⟩)
 exact ⟨hh b,(hp b hb).2.perm hr.symm,by omega⟩
theorem cost_next {g:Int→Ls} {left rest:List Int} {n m:Int} {h hm:Nat} {os:List Int} (x:Height g left n h) (q:(m::rest).Perm left) (y:Height g rest m hm) (p:os.Perm rest):cost g n (m::os)=h↔takes (g n) (g m)+hm=h∧cost g m os=hm:=by
 have h1:=x.le q y
 have h2:=y.min os p
 have e:cost g n (m::os)=takes (g n) (g m)+cost g m os:=rfl
 rw [e]
 constructor
 · intro z; omega
 · rintro ⟨a,b⟩; omega
def standsAt (t:List Int):List (List Int×Int):=t.map fun n=>(t,n)
def standsAt' (t:List Int) (j:Nat):List (List Int×Int):=(t.take j).map fun n=>(t,n)
theorem mem_standsAt {t:List Int} {k:List Int×Int}:k∈standsAt t↔k.1=t∧k.2∈t:=by
 unfold standsAt
 rw [List.mem_map]
 constructor
 · rintro ⟨n,hn,rfl⟩; exact ⟨rfl,hn⟩
 · rintro ⟨e,h⟩; exact ⟨k.2,h,Prod.ext e.symm rfl⟩
theorem mem_stands {cs:List (List Int)} {k:List Int×Int}:k∈cs.flatMap standsAt↔k.1∈cs∧k.2∈k.1:=by
 rw [List.mem_flatMap]
 constructor
 · rintro ⟨t,ht,h⟩
   obtain ⟨e,h⟩:=mem_standsAt.mp h
   rw [e]; exact ⟨ht,h⟩
 · rintro ⟨h1,h2⟩; exact ⟨k.1,h1,mem_standsAt.mpr ⟨rfl,h2⟩⟩
theorem ahead_of {cs:List (List Int)} (hp:cs.Pairwise fun a b=>b.length≤a.length) {i:Nat} {t u:List Int} (ht:cs[i]? = some t) (hu:u∈cs) (hl:t.length < u.length):u∈cs.take i:=by
 obtain ⟨j,hj,e⟩:=List.getElem_of_mem hu
 obtain ⟨hi,e2⟩:=List.getElem?_eq_some_iff.mp ht
 have hji:j < i:=by
  rcases Nat.lt_or_ge j i with z | z
  · exact z
  · exfalso
    rcases Nat.lt_or_ge i j with y | y
    · have:=List.pairwise_iff_getElem.mp hp i j hi hj y
      rw [e,e2] at this
      omega
    · have:i=j:=by omega
      subst this
      rw [e] at e2
      rw [e2] at hl
      omega
 rw [←e]
 exact List.mem_take_iff_getElem.mpr ⟨j,by omega,rfl⟩
theorem stands_len {cs:List (List Int)} {n:Nat} (h:∀ t∈cs,t.length≤n):(cs.flatMap standsAt).length≤cs.length * n:=by
 induction cs with
 | nil=>simp
 | cons t cs ih =>
  rw [List.flatMap_cons,List.length_append,List.length_cons,Nat.succ_mul]
  have:=ih fun u hu=>h u (List.mem_cons_of_mem _ hu)
  have h1:=h t List.mem_cons_self
  have h2:(standsAt t).length=t.length:=List.length_map _
  omega
end LW
namespace LW
open PySem PySem.Spec PyProof.Rows L2 PySem.Builtin.Int
theorem keptF_up (bs:List Str):Up (keptF bs):=by
 unfold keptF
 refine List.Pairwise.map (R:=fun a b:Nat=>a < b) _ (fun a b h=>by omega) (List.Pairwise.filter _ ?_)
 exact List.pairwise_lt_range
theorem beyS_len (a b:Str):(beyS a b).length=takes (cs a) (cs b):=by
 have h:=congrArg (fun z:Ls×Ls=>z.1) (lay_cs (⟨#[]⟩,a) b)
 have h':cs ((⟨#[]⟩:Str) ++ beyS a b)=[] ++ (cs b).drop (ovL (cs a) (cs b)):=h
 rw [cs_app] at h'
 have h2:cs (beyS a b)=(cs b).drop (ovL (cs a) (cs b)):=h'
 rw [←cs_len,h2,List.length_drop]
 rfl
theorem beyS_le (a b:Str):(beyS a b).length≤b.length:=by
 rw [beyS_len,←cs_len b]
 exact Nat.sub_le _ _
structure NumsOf (bs:List Str) (ns:List Int):Prop where
 good:Good bs
 up:Up ns
 le:ns.length≤6
 rng:∀ o∈ns,0≤o∧o < (bs.length:Int)
def spChoices (K:W.Frag):Sp:=fun vs H Q _=>∃ (p:Addr) (ns:List Int),vs=[.ref p]∧SqL K H p (ns.map V.int)∧ns.length≤6∧∀ (l:Addr) (ps:List Addr) (H':Hp),H l=none→Same H H'→H' l=some (.lst (ps.map V.ref))→Tups H' ps (choF ns)→Q (.ref l) H'
def spLeft (K:W.Frag):Sp:=fun vs H Q _=>∃ (r a:Addr) (ns t:List Int) (n:Int),vs=[.ref r,.ref a]∧SqL K H r (ns.map V.int)∧ns.length≤1000∧Stand H a t n∧∀ (l:Addr) (H':Hp),H l=none→Same H H'→H' l=some (.lst ((leftOf ns t).map V.int))→Q (.ref l) H'
def spAlone:Sp:=fun vs H Q _=>∃ n:Int,vs=[.int n]∧∀ (a:Addr) (H':Hp),Same H H'→Stand H' a [n] n→Q (.ref a) H'
def spAfter:Sp:=fun vs H Q _=>∃ (a:Addr) (t:List Int) (n m:Int),vs=[.ref a,.int m]∧Stand H a t n∧t≠[]∧t.length≤900∧∀ (b:Addr) (u:List Int) (H':Hp),Same H H'→u.Perm (t ++ [m])→u.Pairwise (·≤·)→Stand H' b u m→Q (.ref b) H'
def spBehind (K:W.Frag):Sp:=fun vs H Q _=>∃ (p a:Addr) (bs:List Str) (t:List Int) (n m:Int),vs=[.ref p,.ref a,.int m]∧SqL K H p (bs.map V.str)∧Stand H a t n∧(∀ b∈bs,Word 10 b)∧(0≤n∧n < (bs.length:Int))∧(0≤m∧m < (bs.length:Int))∧∀ H',Same H H'→Q (.str (beyS (wordAt bs n.toNat) (wordAt bs m.toNat))) H'
structure KnownIs (bs:List Str) (ns:List Int) (es:List (SKey×Addr×Int)) (ks:List SKey):Prop where
 keys:es.map (·.1)=ks
 val:∀ e∈es,∃ h:Nat,e.2.2=(h:Int)∧Height (gWord bs) (leftOf ns e.1.1) e.1.2 h
theorem KnownIs.get {bs:List Str} {ns:List Int} {es:List (SKey×Addr×Int)} {ks:List SKey} (h:KnownIs bs ns es ks) {k:SKey} (hk:k∈ks):∃ m:Nat,valS es k=some (m:Int)∧Height (gWord bs) (leftOf ns k.1) k.2 m:=by
 rw [←h.keys] at hk
 obtain ⟨e,he,rfl⟩:=List.mem_map.mp hk
 unfold valS
 cases c:es.find? fun x=>decide (x.1=e.1) with
 | none=>exact absurd (show decide (e.1=e.1)=true from decide_eq_true rfl) (List.find?_eq_none.mp c e he)
 | some x =>
  have hx0:=List.find?_some c
  have hx:x.1=e.1:=of_decide_eq_true hx0
  obtain ⟨m,e1,e2⟩:=h.val x (List.mem_of_find?_eq_some c)
  rw [hx] at e2
  exact ⟨m,by rw [←e1]; rfl,e2⟩
theorem KnownIs.miss {bs:List Str} {ns:List Int} {es:List (SKey×Addr×Int)} {ks:List SKey} (h:KnownIs bs ns es ks) {k:SKey} (hk:k∉ks):valS es k=none:=by
 unfold valS
 rw [List.find?_eq_none.mpr fun x hx=>by
  simp only [decide_eq_true_eq]
  intro e
  exact hk (h.keys ▸ List.mem_map.mpr ⟨x,hx,e⟩)]
 rfl
theorem KnownIs.put {bs:List Str} {ns:List Int} {es:List (SKey×Addr×Int)} {ks:List SKey} (h:KnownIs bs ns es ks) {k:SKey} {b:Addr} {m:Nat} (hm:Height (gWord bs) (leftOf ns k.1) k.2 m):KnownIs bs ns (es ++ [(k,b,(m:Int))]) (ks ++ [k]):=by
 refine ⟨by rw [List.map_append,h.keys]; rfl,fun e he=>?_⟩
 rcases List.mem_append.mp he with z | z
 · exact h.val e z
 · rw [List.mem_singleton.mp z]; exact ⟨m,rfl,hm⟩
theorem KnownIs.nil (bs:List Str) (ns:List Int):KnownIs bs ns [] []:=⟨rfl,fun e he=>by cases he⟩
def spHeightOf (P:Program) (w:World) (K:W.Frag):Sp:=fun vs H Q _=>∃ (p r a d:Addr) (bs:List Str) (ns t:List Int) (n:Int) (es:List (SKey×Addr×Int)) (ks:List SKey),vs=[.ref p,.ref r,.ref a,.ref d]∧SqL K H p (bs.map V.str)∧SqL K H r (ns.map V.int)∧Stand H a t n∧KnownAt P w H d es∧KnownIs bs ns es ks∧NumsOf bs ns∧t.Sublist ns∧n∈t ∧
 (∀ m∈leftOf ns t,∀ u,plusI t m u→(u,m)∈ks)∧∀ (h:Nat) (H':Hp),Same H H'→Height (gWord bs) (leftOf ns t) n h→Q (.int h) H'
def spKnown (P:Program) (w:World) (K:W.Frag):Sp:=fun vs H Q _=>∃ (p r:Addr) (bs:List Str) (ns:List Int),vs=[.ref p,.ref r]∧SqL K H p (bs.map V.str)∧SqL K H r (ns.map V.int)∧NumsOf bs ns ∧
 ∀ (d:Addr) (es:List (SKey×Addr×Int)) (chs:List (List Int)) (H':Hp),H d=none→Same H H'→KnownAt P w H' d es→KnownIs bs ns es (chs.flatMap standsAt)→chs.Perm (choF ns)→Q (.ref d) H'
def fac:Nat→Nat
 | 0=>1
 | n+1=>(n+1) * fac n
theorem fac_le {n:Nat} (h:n≤6):fac n≤720:=by
 match n,h with
 | 0,_=>decide
 | 1,_=>decide
 | 2,_=>decide
 | 3,_=>decide
 | 4,_=>decide
 | 5,_=>decide
 | 6,_=>decide
structure TextsFrom (bs:List Str) (left:List Int) (n:Int) (text:Str) (ts:List Str):Prop where
 mem:∀ x,x∈ts↔∃ os:List Int,os.Perm left∧Height (gWord bs) left n (cost (gWord bs) n os)∧x=((ordWords bs os).foldl layStep (text,wordAt bs n.toNat)).1
 len:ts.length≤fac left.length
def spTextsFrom (P:Program) (w:World) (K:W.Frag) (N:Nat):Sp:=fun vs H Q _=>∃ (p d a l:Addr) (bs:List Str) (ns t:List Int) (n:Int) (es:List (SKey×Addr×Int)) (ks:List SKey) (text:Str),vs=[.ref p,.ref d,.str text,.ref a,.ref l]∧SqL K H p (bs.map V.str)∧KnownAt P w H d es∧KnownIs bs ns es ks∧(∀ t n,t.Sublist ns→n∈t→(t,n)∈ks)∧NumsOf bs ns∧Stand H a t n∧t.Sublist ns∧n∈t ∧
 SqL K H l ((leftOf ns t).map V.int)∧(leftOf ns t).length≤N∧text.length+10 * (leftOf ns t).length≤900∧∀ (r:Addr) (ts:List Str) (H':Hp),H r=none→Same H H'→H' r=some (.lst (ts.map V.str))→TextsFrom bs (leftOf ns t) n text ts→Q (.ref r) H'
def Via (bs:List Str) (left:List Int) (n:Int) (text:Str) (m:Int) (x:Str):Prop:=∃ os:List Int,(m::os).Perm left∧Height (gWord bs) left n (cost (gWord bs) n (m::os))∧x=((ordWords bs (m::os)).foldl layStep (text,wordAt bs n.toNat)).1
theorem via_yes {bs:List Str} {left rest:List Int} {n m:Int} {text:Str} {ts:List Str} {h hm:Nat} (x:Height (gWord bs) left n h) (q:(m::rest).Perm left) (y:Height (gWord bs) rest m hm) (c:takes (gWord bs n) (gWord bs m)+hm=h)
  (T:TextsFrom bs rest m (text ++ beyS (wordAt bs n.toNat) (wordAt bs m.toNat)) ts) (z:Str):z∈ts↔Via bs left n text m z:=by
 rw [T.mem]
 constructor
 · rintro ⟨os,p,hh,e⟩
   refine ⟨os,(p.cons m).trans q,?_,e⟩
   rw [(cost_next x q y p).mpr ⟨c,hh.unique y⟩]
   exact x
 · rintro ⟨os,p,hh,e⟩
   have p':os.Perm rest:=List.Perm.cons_inv (p.trans q.symm)
   refine ⟨os,p',?_,e⟩
   rw [((cost_next x q y p').mp (hh.unique x)).2]
   exact y
theorem via_no {bs:List Str} {left rest:List Int} {n m:Int} {text:Str} {h hm:Nat} (x:Height (gWord bs) left n h) (q:(m::rest).Perm left) (y:Height (gWord bs) rest m hm) (c:takes (gWord bs n) (gWord bs m)+hm≠h) (z:Str):¬ Via bs left n text m z:=by
 rintro ⟨os,p,hh,e⟩
 have p':os.Perm rest:=List.Perm.cons_inv (p.trans q.symm)
 exact c ((cost_next x q y p').mp (hh.unique x)).1
theorem texts_of_via {bs:List Str} {left:List Int} {n:Int} {text:Str} {ts:List Str} (hne:left≠[]) (h:∀ x,x∈ts↔∃ m∈left,Via bs left n text m x) (hl:ts.length≤fac left.length):TextsFrom bs left n text ts:=by
 refine ⟨fun x=>?_,hl⟩
 rw [h]
 constructor
 · rintro ⟨m,_,os,p,hh,e⟩
   exact ⟨m::os,p,hh,e⟩
 · rintro ⟨os,p,hh,e⟩
   cases os with
   | nil=>exact absurd (List.nil_perm.mp p) hne
   | cons m os=>exact ⟨m,p.mem_iff.mp List.mem_cons_self,os,p,hh,e⟩
theorem texts_nil {bs:List Str} {n:Int} {text:Str}:TextsFrom bs [] n text [text]:=by
 refine ⟨fun x=>?_,Nat.le_refl _⟩
 rw [List.mem_singleton]
 constructor
 · rintro rfl
   exact ⟨[],List.Perm.refl _,Height.nil _ _,rfl⟩
 · rintro ⟨os,p,_,e⟩
   rw [List.perm_nil.mp p] at e
   exact e
def ViaA (bs:List Str) (ns:List Int) (few:Nat) (n:Int) (x:Str):Prop:=∃ os:List Int,(n::os).Perm ns∧x=laidW (ordWords bs (n::os))∧x.length=few
theorem viaA_yes {bs:List Str} {ns rest:List Int} {n:Int} {ts:List Str} {h few:Nat} (q:(n::rest).Perm ns) (y:Height (gWord bs) rest n h) (c:(wordAt bs n.toNat).length+h=few) (T:TextsFrom bs rest n (wordAt bs n.toNat) ts) (z:Str):z∈ts↔ViaA bs ns few n z:=by
 rw [T.mem]
 constructor
 · rintro ⟨os,p,hh,e⟩
   have e':z=laidW (ordWords bs (n::os)):=e
   refine ⟨os,(p.cons n).trans q,e',?_⟩
   rw [e',ord_laid,hh.unique y]
   exact c
 · rintro ⟨os,p,e,hl⟩
   have p':os.Perm rest:=List.Perm.cons_inv (p.trans q.symm)
   refine ⟨os,p',?_,e⟩
   rw [e,ord_laid] at hl
   have:cost (gWord bs) n os=h:=by omega
   rw [this]
   exact y
theorem viaA_no {bs:List Str} {ns rest:List Int} {n:Int} {h few:Nat} (q:(n::rest).Perm ns) (y:Height (gWord bs) rest n h) (c:(wordAt bs n.toNat).length+h≠few) (hf:few≤(wordAt bs n.toNat).length+h) (z:Str):¬ ViaA bs ns few n z:=by
 rintro ⟨os,p,e,hl⟩
 have p':os.Perm rest:=List.Perm.cons_inv (p.trans q.symm)
 rw [e,ord_laid] at hl
 have:=y.min os p'
 omega
def ovAt (ps:List Str) (i j:Nat):Nat:=ovF (wordAt ps i) (wordAt ps j)
structure BestTo (ps:List Str) (a b i j:Nat):Prop where
 li:i < ps.length
 lj:j < ps.length
 ne:i≠j
 seen:(i=0∧j=1)∨i < a∨(i=a∧j < b)
 le:∀ i' j',(i' < a∨(i'=a∧j' < b))→j' < ps.length→i'≠j'→ovAt ps i' j'≤ovAt ps i j
 first:∀ i' j',(i' < a∨(i'=a∧j' < b))→j' < ps.length→i'≠j'→ovAt ps i' j'=ovAt ps i j→¬ (i' < i∨(i'=i∧j' < j))
theorem BestTo.start {ps:List Str} (h:2≤ps.length):BestTo ps 0 0 0 1:=⟨by omega,by omega,by decide,.inl ⟨rfl,rfl⟩,fun i' j' z=>by omega,fun i' j' z=>by omega⟩
theorem BestTo.row {ps:List Str} {a i j:Nat} (h:BestTo ps a ps.length i j):BestTo ps (a+1) 0 i j :=
 ⟨h.li,h.lj,h.ne,by have:=h.seen; omega,fun i' j' z hj hne=>h.le i' j' (by omega) hj hne,fun i' j' z hj hne=>h.first i' j' (by omega) hj hne⟩
theorem BestTo.keep {ps:List Str} {a b i j:Nat} (h:BestTo ps a b i j) (c:a=b∨ovAt ps a b≤ovAt ps i j):BestTo ps a (b+1) i j:=by
 have hs:=h.seen
 have hne:=h.ne
 refine ⟨h.li,h.lj,h.ne,by omega,fun i' j' z hj hne'=>?_,fun i' j' z hj hne' e=>?_⟩
 · by_cases d:i'=a∧j'=b
   · obtain ⟨rfl,rfl⟩:=d
     rcases c with c | c
     · exact absurd c hne'
     · exact c
   · exact h.le i' j' (by omega) hj hne'
 · by_cases d:i'=a∧j'=b
   · obtain ⟨rfl,rfl⟩:=d
     omega
   · exact h.first i' j' (by omega) hj hne' e
theorem BestTo.take {ps:List Str} {a b i j:Nat} (h:BestTo ps a b i j) (ha:a < ps.length) (hb:b < ps.length) (hab:a≠b) (c:ovAt ps i j < ovAt ps a b):BestTo ps a (b+1) a b:=by
 refine ⟨ha,hb,hab,by omega,fun i' j' z hj hne'=>?_,fun i' j' z hj hne' e=>?_⟩
 · by_cases d:i'=a∧j'=b
   · obtain ⟨rfl,rfl⟩:=d
     exact Nat.le_refl _
   · have:=h.le i' j' (by omega) hj hne'
     omega
 · by_cases d:i'=a∧j'=b
   · omega
   · have:=h.le i' j' (by omega) hj hne'
     omega
theorem BestTo.best {ps:List Str} {i j:Nat} (h:BestTo ps ps.length 0 i j):Best ps i j:=by
 refine ⟨h.li,h.lj,h.ne,fun i' j' hi hj hne z=>?_⟩
 have h1:=h.le i' j' (.inl hi) hj hne
 have h2:=h.first i' j' (.inl hi) hj hne
 unfold ovAt at h1 h2
 unfold gKey at z
 rw [List.cons_lt_cons_iff,List.cons_lt_cons_iff,List.cons_lt_cons_iff] at z
 rcases z with z | ⟨e,z⟩
 · omega
 · have e':ovF (wordAt ps i') (wordAt ps j')=ovF (wordAt ps i) (wordAt ps j):=by omega
   have h3:=h2 e'
   rcases z with z | ⟨e2,z | ⟨_,z⟩⟩
   · omega
   · omega
   · exact absurd z (List.lt_irrefl _)
def spGPair (K:W.Frag):Sp:=fun vs H Q _=>∃ (p:Addr) (ps:List Str),vs=[.ref p]∧SqL K H p (ps.map V.str)∧2≤ps.length∧ps.length≤6∧(∀ k,k < ps.length→(wordAt ps k).length≤400)∧∀ (b:Addr) (i j:Nat) (H':Hp),Same H H'→H' b=some (.tup [.int (i:Int),.int (j:Int)])→Best ps i j→Q (.ref b) H'
def spGLaid (K:W.Frag):Sp:=fun vs H Q _=>∃ (p b:Addr) (ps:List Str) (i j:Nat),vs=[.ref p,.ref b]∧SqL K H p (ps.map V.str)∧H b=some (.tup [.int (i:Int),.int (j:Int)])∧i < ps.length∧j < ps.length∧ps.length≤6∧(∀ k,k < ps.length→(wordAt ps k).length≤400)∧∀ (l:Addr) (H':Hp),H l=none→Same H H'→H' l=some (.lst ((gStep ps i j).map V.str))→Q (.ref l) H'
theorem at_piece {ps:List Str} {k:Nat} (hk:k < ps.length):atI (ps.map V.str) ((k:Nat):Int)=some (.str (wordAt ps k)):=atI_nat (by rw [List.getElem?_map,List.getElem?_eq_getElem hk,wordAt_get hk]; rfl)
end LW
namespace LW
open PySem PySem.Spec PyProof.Rows L2 PySem.SeqAt
def ItIt (h:Heap) (it d:Addr) (fst flag:Value) (i n ep:Nat) (ok ov:Value):Prop :=
 h.get? it=some { cls:=.type "dict_itemiterator",dict:=none,data:=.fields #[fst,flag,.ref d,.int i 0,.int n 0,.int ep 0,ok,ov],slots:=#[] }
def ItFree (h:Heap) (fst flag:Value):Prop:=(fst=.none∧flag=.bool false)∨∃ (a:Addr) (f:Bool),fst=rawInt a∧flag=.bool f∧∃ oa,h.get? a=some oa
theorem ItFree.keep {h h':Heap} {fst flag:Value} (x:ItFree h fst flag) (k:∀ b o,h.get? b=some o→∃ o',h'.get? b=some o'):ItFree h' fst flag:=by
 rcases x with x | ⟨a,f,e1,e2,oa,e3⟩
 · exact .inl x
 · exact .inr ⟨a,f,e1,e2,k a oa e3⟩
section
variable {prog:Program} {w:World} {A:Around} {E:Value→Shared→Prop} {s:Shared}
theorem alive_at {a:Addr} {o:Obj} {Q:Option Obj→Shared→Prop} (ho:s.heap.get? a=some o) (h:Q (some o) s):wpAny (model prog w) A (loadIfAlive a) Q E s:=by
 have z:Q (s.heap.get? a) s:=by rw [ho]; exact h
 exact fun _ _ _=>z
theorem it_next {it d:Addr} {fst flag ok ov:Value} {i ep:Nat} {od:Obj} {es:Array DictEntry} {en:DictEntry} {Q:Option Value→Shared→Prop} (hit:ItIt s.heap it d fst flag i es.size ep ok ov) (hfr:ItFree s.heap fst flag)
  (ho:s.heap.get? d=some od) (hd:od.data=.dict es ep) (hx:es[i]? = some en)
  (hQ:∀ h' fst' flag' ok' ov',ItIt h' it d fst' flag' (i+1) es.size ep ok' ov'→ItFree h' fst' flag'→h'.get? s.heap.objs.size=some { cls:=.type "tuple",data:=.seq #[en.key,en.val] }→h'.objs.size=s.heap.objs.size+1 →
   (∀ b o,b≠it→s.heap.get? b=some o→h'.get? b=some o)→Q (some (.ref s.heap.objs.size)) { s with heap:=h' }):wpAny (model prog w) A (pyNext (.ref it)) Q E s:=by
 obtain ⟨hp,g,dr,tk,os⟩:=s
 have hty:Shared.TypeIs ⟨hp,g,dr,tk,os⟩ (.ref it) "dict_itemiterator":=⟨_,hit,rfl⟩
 have hit0:hp.get? it=some { cls:=.type "dict_itemiterator",dict:=none,data:=.fields #[fst,flag,.ref d,.int i 0,.int es.size 0,.int ep 0,ok,ov],slots:=#[] }:=hit
 obtain ⟨hlt,hxe⟩:=Array.getElem?_eq_some_iff.mp hx
 unfold pyNext
 refine wpAny_bind (wpAny_attempt (wpAny_callSpecial?_slot (name:=Str.ofString "__next__") hty PySem.F.slot_dict_itemiterator_next (wpAny_call_entry PySem.F.slot_dict_itemiterator_next hty PySem.F.entry_dict_itemiterator_next ?_ (PySem.F.args_dict_itemiterator_next_1 _))))
 refine wpAny_bind (wpAny_pure (wpAny_bind (wpAny_bind ?_)))
 first | refine wpAny_bind (wpAny_typeNameOfWhole_itemiter hty (wpAny_pure ?_)) | refine wpAny_bind (wpAny_typeNameOf_itemiter hty (wpAny_pure ?_))
 refine wpAny_bind (wpAny_fieldsOf hit0 rfl ?_)
 have how:Builtin.Dict_items.ownsTuple "dict_itemiterator"=true:=by decide
 simp only [how,if_true]
 refine (show wpAny _ _ (if (Value.ref d == Value.none)=true then _ else _) _ _ _ from ?_)
 rw [if_neg (show ¬ (Value.ref d == Value.none)=true from Bool.false_ne_true)]
 refine wpAny_bind (wpAny_pure (wpAny_bind (wpAny_dictEntries ho hd ?_)))
 rw [if_neg (by simp)]
 refine wpAny_bind (wpAny_pure (wpAny_bind (wpAny_dictEpoch ho hd ?_)))
 rw [if_neg (by simp)]
 refine wpAny_pure ?_
 simp only [show ¬ ((i:Int) < 0) from by omega,if_false,Int.toNat_natCast,hx]
 refine wpAny_bind ?_
 first | refine wpAny_bind (wpAny_typeNameOfWhole_itemiter hty (wpAny_pure ?_)) | refine wpAny_bind (wpAny_typeNameOf_itemiter hty (wpAny_pure ?_))
 refine wpAny_bind (wpAny_isOneOf_itemiter hty ?_)
 refine (show wpAny _ _ (setField (.ref it) 3 (rawInt ((i:Int)+1)) >>= _) _ _ ⟨hp,g,dr,tk,os⟩ from ?_)
 refine wpAny_bind (wpAny_setField_rec hit0 (by simp) fun h1 he1 hs1=>?_)
 replace hs1:Heap.SameBut it hp h1:=hs1
 replace he1:ItIt h1 it d fst flag (i+1) es.size ep ok ov:=by
  have e:((i+1:Nat):Int)=(i:Int)+1:=by omega
  unfold ItIt
  rw [e]
  simpa [rawInt] using he1
 have hty1:Shared.TypeIs ⟨h1,g,dr,tk,os⟩ (.ref it) "dict_itemiterator":=⟨_,he1,rfl⟩
 refine wpAny_bind (wpAny_holding (wpAny_bind (wpAny_isOneOf_itemiter hty1 (wpAny_bind (wpAny_isOneOf_itemiter hty1 ?_)))))
 refine (show wpAny _ _ (Builtin.Dict_items.pairFromOwner (.ref it) 6 en.key en.val) _ _ ⟨h1,g,dr,tk,os⟩ from ?_)
 unfold Builtin.Dict_items.pairFromOwner
 refine wpAny_bind (wpAny_newTuple ?_)
 have he2:ItIt (h1.push { cls:=.type "tuple",data:=.seq #[en.key,en.val] }) it d fst flag (i+1) es.size ep ok ov:=Heap.get?_push_of_some _ he1
 generalize hh2:h1.push { cls:=.type "tuple",data:=.seq #[en.key,en.val] }=h2 at he2
 have hz1:h1.objs.size=hp.objs.size:=hs1.1
 have hil:it < hp.objs.size:=Heap.lt_size hit0
 have ht2:h2.get? hp.objs.size=some { cls:=.type "tuple",data:=.seq #[en.key,en.val] }:=by rw [←hh2,←hz1]; exact Heap.get?_push_size _ rfl
 have hz2:h2.objs.size=hp.objs.size+1:=by rw [←hh2,Heap.size_push,hz1]
 have hk2:∀ b o,b≠it→hp.get? b=some o→h2.get? b=some o:=fun b o hb e=>by rw [←hh2]; exact Heap.get?_push_of_some _ (hs1.extBut b o hb e)
 refine (show wpAny _ _ (Builtin.Dict_items.ownedTupleIsFree (.ref it) >>= _) _ _ ⟨h2,g,dr,tk,os⟩ from ?_)
 rw [hz1]
 clear hh2 he1 hs1 hty1 hz1 h1
 have he2':h2.get? it=some { cls:=.type "dict_itemiterator",dict:=none,data:=.fields #[fst,flag,.ref d,.int ((i+1:Nat):Int) 0,.int es.size 0,.int ep 0,ok,ov],slots:=#[] }:=he2
 refine wpAny_bind ?_
 unfold Builtin.Dict_items.ownedTupleIsFree
 rcases hfr with ⟨rfl,rfl⟩ | ⟨a,f,rfl,rfl,oa,ha⟩
 · refine wpAny_bind (wpAny_field he2' rfl (x:=.none) rfl (wpAny_pure ?_))
   simp only [if_true]
   refine wpAny_bind (wpAny_field he2' rfl (x:=ok) rfl (wpAny_bind (wpAny_field he2' rfl (x:=ov) rfl ?_)))
   refine wpAny_bind (wpAny_setField_rec he2' (by simp) fun h3 he3 hs3=>?_)
   replace hs3:Heap.SameBut it h2 h3:=hs3
   replace he3:h3.get? it=some { cls:=.type "dict_itemiterator",dict:=none,data:=.fields #[.none,.bool false,.ref d,.int ((i+1:Nat):Int) 0,.int es.size 0,.int ep 0,en.key,ov],slots:=#[] }:=he3
   refine wpAny_bind (wpAny_setField_rec he3 (by simp) fun h4 he4 hs4=>?_)
   replace hs4:Heap.SameBut it h3 h4:=hs4
   replace he4:h4.get? it=some { cls:=.type "dict_itemiterator",dict:=none,data:=.fields #[.none,.bool false,.ref d,.int ((i+1:Nat):Int) 0,.int es.size 0,.int ep 0,en.key,en.val],slots:=#[] }:=he4
   refine wpAny_bind (wpAny_setField_rec he4 (by simp) fun h5 he5 hs5=>?_)
   replace hs5:Heap.SameBut it h4 h5:=hs5
   replace he5:h5.get? it=some { cls:=.type "dict_itemiterator",dict:=none,data:=.fields #[rawInt hp.objs.size,.bool false,.ref d,.int ((i+1:Nat):Int) 0,.int es.size 0,.int ep 0,en.key,en.val],slots:=#[] }:=he5
   refine wpAny_bind (wpAny_setField_rec he5 (by simp) fun h6 he6 hs6=>?_)
   replace hs6:Heap.SameBut it h5 h6:=hs6
   replace he6:ItIt h6 it d (rawInt hp.objs.size) (.bool false) (i+1) es.size ep en.key en.val:=he6
   have hne:=Nat.ne_of_gt hil
   have hto:∀ b o,b≠it→h2.get? b=some o→h6.get? b=some o:=fun b o hb e=>hs6.extBut b o hb (hs5.extBut b o hb (hs4.extBut b o hb (hs3.extBut b o hb e)))
   refine wpAny_bind (wpAny_letGo (wpAny_pure (wpAny_pure ⟨_,rfl,wpAny_pure (hQ h6 _ _ _ _ he6 (.inr ⟨hp.objs.size,false,rfl,rfl,_,hto _ _ hne ht2⟩) (hto _ _ hne ht2) ?_ fun b o hb e=>hto b o hb (hk2 b o hb e))⟩)))
   show h6.objs.size=hp.objs.size+1
   rw [hs6.1,hs5.1,hs4.1,hs3.1,hz2]
 · obtain ⟨oa2,ha2⟩:∃ o,h2.get? a=some o:=by
    by_cases hai:a=it
    · rw [hai]; exact ⟨_,he2'⟩
    · exact ⟨oa,hk2 a oa hai ha⟩
   refine wpAny_bind (wpAny_field he2' rfl (x:=rawInt a) rfl ?_)
   refine (show wpAny _ _ (loadIfAlive ((a:Int).toNat) >>= _) _ _ _ from ?_)
   rw [Int.toNat_natCast]
   refine wpAny_bind (alive_at ha2 ?_)
   simp only [Option.isNone_some,Bool.false_eq_true,if_false]
   refine wpAny_bind (wpAny_field he2' rfl (x:=.bool f) rfl ?_)
   have fin:∀ h3:Heap,ItIt h3 it d (rawInt a) (.bool true) (i+1) es.size ep ok ov→Heap.SameBut it h2 h3→Q (some (.ref hp.objs.size)) ⟨h3,g,dr,tk,os⟩:=fun h3 he3 hs3=>by
    have hal:∃ o,h3.get? a=some o:=by
     by_cases hai:a=it
     · rw [hai]; exact ⟨_,he3⟩
     · exact ⟨oa2,hs3.extBut a oa2 hai ha2⟩
    exact hQ h3 _ _ _ _ he3 (.inr ⟨a,true,rfl,rfl,hal⟩) (hs3.extBut _ _ (Nat.ne_of_gt hil) ht2) (by show h3.objs.size=hp.objs.size+1; rw [hs3.1,hz2]) fun b o hb e=>hs3.extBut b o hb (hk2 b o hb e)
   cases f with
   | true =>
    rw [if_neg (show ¬ (Value.bool true != Value.bool true)=true from Bool.false_ne_true)]
    refine wpAny_pure ?_
    simp only [Bool.false_eq_true,if_false]
    exact wpAny_pure (wpAny_pure ⟨_,rfl,wpAny_pure (fin h2 he2 (Heap.SameBut.refl _ _))⟩)
   | false =>
    rw [if_pos (show (Value.bool false != Value.bool true)=true from rfl)]
    refine wpAny_bind (wpAny_setField_rec he2' (by simp) fun h3 he3 hs3=>?_)
    replace he3:ItIt h3 it d (rawInt a) (.bool true) (i+1) es.size ep ok ov:=he3
    refine wpAny_pure ?_
    simp only [Bool.false_eq_true,if_false]
    exact wpAny_pure (wpAny_pure ⟨_,rfl,wpAny_pure (fin h3 he3 hs3)⟩)
theorem it_end {it d:Addr} {fst flag ok ov:Value} {i ep:Nat} {od:Obj} {es:Array DictEntry} {Q:Option Value→Shared→Prop} (hh:A.handled=none) (hit:ItIt s.heap it d fst flag i es.size ep ok ov)
  (ho:s.heap.get? d=some od) (hd:od.data=.dict es ep) (hx:es.size≤i) (hQ:∀ h',(∀ b o,b≠it→s.heap.get? b=some o→h'.get? b=some o)→Q none { s with heap:=h' }):wpAny (model prog w) A (pyNext (.ref it)) Q E s:=by
 have hty:s.TypeIs (.ref it) "dict_itemiterator":=⟨_,hit,rfl⟩
 have hit0:s.heap.get? it=some { cls:=.type "dict_itemiterator",dict:=none,data:=.fields #[fst,flag,.ref d,.int i 0,.int es.size 0,.int ep 0,ok,ov],slots:=#[] }:=hit
 unfold pyNext
 refine wpAny_bind (wpAny_attempt (wpAny_callSpecial?_slot (name:=Str.ofString "__next__") hty PySem.F.slot_dict_itemiterator_next (wpAny_call_entry PySem.F.slot_dict_itemiterator_next hty PySem.F.entry_dict_itemiterator_next ?_ (PySem.F.args_dict_itemiterator_next_1 _))))
 refine wpAny_bind (wpAny_pure (wpAny_bind (wpAny_bind ?_)))
 first | refine wpAny_bind (wpAny_typeNameOfWhole_itemiter hty (wpAny_pure ?_)) | refine wpAny_bind (wpAny_typeNameOf_itemiter hty (wpAny_pure ?_))
 refine wpAny_bind (wpAny_fieldsOf hit0 rfl ?_)
 have how:Builtin.Dict_items.ownsTuple "dict_itemiterator"=true:=by decide
 simp only [how,if_true]
 refine (show wpAny _ _ (if (Value.ref d == Value.none)=true then _ else _) _ _ s from ?_)
 rw [if_neg (show ¬ (Value.ref d == Value.none)=true from Bool.false_ne_true)]
 refine wpAny_bind (wpAny_pure (wpAny_bind (wpAny_dictEntries ho hd ?_)))
 rw [if_neg (by simp)]
 refine wpAny_bind (wpAny_pure (wpAny_bind (wpAny_dictEpoch ho hd ?_)))
 rw [if_neg (by simp)]
 refine wpAny_pure ?_
 simp only [show ¬ ((i:Int) < 0) from by omega,if_false,Int.toNat_natCast,Array.getElem?_eq_none hx]
 refine wpAny_bind ?_
 first | refine wpAny_bind (wpAny_typeNameOfWhole_itemiter hty (wpAny_pure ?_)) | refine wpAny_bind (wpAny_typeNameOf_itemiter hty (wpAny_pure ?_))
 refine (show wpAny _ _ (setField (.ref it) 2 .none >>= _) _ _ s from ?_)
 refine wpAny_bind (wpAny_setField hit0 rfl (by simp) ?_)
 refine stop_here hh fun h' k=>hQ h' fun b o hb e=>k b o ?_
 rw [Heap.get?_update_ne _ _ _ _ hb]
 exact e
end
structure PrsAt (es:Array DictEntry) (lo:Addr) (h:Heap) (as:List Addr):Prop where
 rise:as.Pairwise (· < ·)
 above:∀ a∈as,lo < a
 pairs:∀ (j:Nat) (a:Addr),as[j]? = some a→∃ en,es[j]? = some en∧h.get? a=some { cls:=.type "tuple",data:=.seq #[en.key,en.val] }
theorem PrsAt.there {es:Array DictEntry} {lo:Addr} {h:Heap} {as:List Addr} (g:PrsAt es lo h as) {a:Addr} (ha:a∈as):a < h.objs.size:=by
 obtain ⟨j,hj⟩:=List.mem_iff_getElem?.mp ha
 obtain ⟨_,_,e⟩:=g.pairs j a hj
 exact Heap.lt_size e
section
variable {prog:Program} {w:World} {A:Around} {s:Shared} {R:Result→Shared→Prop} {es:Array DictEntry} {ep:Nat} {od:Obj}
theorem it_loop {S I d:Addr} (hh:A.handled=none) (hSI:S < I) (hSd:d≠S) (hId:d≠I) (hn:es.size≤1000) (hod:od.data=.dict es ep) (res:Value) {h1:Heap}
  (hR:∀ h' tk acc c as,(∀ b o,b≠S→b≠I→h1.get? b=some o→h'.get? b=some o)→h'.get? S=some { cls:=.type "list",dict:=none,data:=.seq acc c,slots:=#[] }→as.length=es.size→PrsAt es I h' as→acc.toList=as.map Value.ref→R (.ok (.ret res)) { s with heap:=h',toks:=tk }) :
  ∀ (k i:Nat) (h:Heap) (tk c:Nat) (acc:Array Value) (as:List Addr),es.size - i=k→i≤es.size→(∃ fst flag ok ov,ItIt h I d fst flag i es.size ep ok ov∧ItFree h fst flag)→h.get? d=some od→(∀ b o,b≠S→b≠I→h1.get? b=some o→h.get? b=some o) →
   h.get? S=some { cls:=.type "list",dict:=none,data:=.seq acc c,slots:=#[] }→acc.toList=as.map Value.ref→as.length=i→PrsAt es I h as→I < h.objs.size →
   codeAny (model prog w) A (.builtin "list.extend.loop" ⟨[.ref S,.ref I,res],[]⟩) R { s with heap:=h,toks:=tk }:=by
 have hne:S≠I:=Nat.ne_of_lt hSI
 intro k
 induction k with
 | zero =>
  intro i h tk c acc as hk hi ⟨fst,flag,ok,ov,hst,hfr⟩ hD hkeep hS hacc hal hG hIs
  refine codeAny_builtin PySem.F.entry_extend_loop ?_
  rw [Around.under_plainId PySem.F.plain_extend_loop _]
  refine (show wpAny _ A.in1 (pyNext (.ref I) >>= _) _ _ _ from ?_)
  refine wpAny_bind (it_end (s:={ s with heap:=h,toks:=tk }) (A:=A.in1) hh hst hD hod (by omega) fun h' he=>?_)
  refine wpAny_pure (hR h' tk acc c as (fun b o z1 z2 e=>he b o z2 (hkeep b o z1 z2 e)) (he S _ hne hS) (by omega) ⟨hG.rise,hG.above,fun j a hj=>?_⟩ hacc)
  obtain ⟨en,q1,q2⟩:=hG.pairs j a hj
  exact ⟨en,q1,he a _ (Nat.ne_of_gt (hG.above a (List.mem_of_getElem? hj))) q2⟩
 | succ k ih =>
  intro i h tk c acc as hk hi ⟨fst,flag,ok,ov,hst,hfr⟩ hD hkeep hS hacc hal hG hIs
  have hlt:i < es.size:=by omega
  have hx:es[i]? = some es[i]:=Array.getElem?_eq_getElem hlt
  have hsz:acc.size=i:=by rw [←Array.length_toList,hacc,List.length_map,hal]
  refine codeAny_builtin PySem.F.entry_extend_loop ?_
  rw [Around.under_plainId PySem.F.plain_extend_loop _]
  refine (show wpAny _ A.in1 (pyNext (.ref I) >>= _) _ _ _ from ?_)
  refine wpAny_bind (it_next (s:={ s with heap:=h,toks:=tk }) hst hfr hD hod hx fun h' f1 f2 o1 o2 hst' hfr' ht hz hkp=>?_)
  dsimp only at ht hz hkp ⊢
  have hS':=hkp S _ hne hS
  have up:∀ b o,b≠S→h'.get? b=some o→(h'.update S (Obj.mapSeq (·.push (Value.ref h.objs.size)))).get? b=some o:=fun b o hb e=>(Heap.get?_update_other _ _ (Ne.symm hb)).trans e
  have hS2:=Heap.get?_update_self (Obj.mapSeq (·.push (Value.ref h.objs.size))) hS' rfl
  have upA:∀ b o,h'.get? b=some o→∃ o',(h'.update S (Obj.mapSeq (·.push (Value.ref h.objs.size)))).get? b=some o':=fun b o e=>by
   by_cases hb:b=S
   · rw [hb]; exact ⟨_,hS2⟩
   · exact ⟨o,up b o hb e⟩
  have hSl:S < h.objs.size:=Heap.lt_size hS
  refine (show wpAny _ A.in1 (updateSeq S (·.push (Value.ref h.objs.size)) >>= _) _ _ _ from ?_)
  refine wpAny_bind ?_
  refine wpAny_updateSeq hS' rfl (wpAny_pure ⟨plainId_quiet PySem.F.plain_extend_loop _,ih (i+1) _ tk _ (acc.push (Value.ref h.objs.size)) (as ++ [h.objs.size]) (by omega) hlt ⟨f1,f2,o1,o2,up I _ (Ne.symm hne) hst',hfr'.keep upA⟩ (up d _ hSd (hkp d _ hId hD)) (fun b o z1 z2 e=>up b o z1 (hkp b o z2 (hkeep b o z1 z2 e))) hS2 (by rw [Array.toList_push,hacc,List.map_append]; rfl) (by rw [List.length_append,hal]; rfl) ⟨?_,?_,?_⟩ ?_⟩) (by rw [hsz,sizeLine_eq]; omega) (by show (acc.push (Value.ref h.objs.size)).size≤sizeLine+1; rw [Array.size_push,hsz,sizeLine_eq]; omega)
  · refine List.pairwise_append.mpr ⟨hG.rise,List.pairwise_singleton _ _,fun a ha b hb=>?_⟩
    rw [List.mem_singleton.mp hb]
    exact hG.there ha
  · intro a ha
    rcases List.mem_append.mp ha with ha | ha
    · exact hG.above a ha
    · rw [List.mem_singleton.mp ha]; exact hIs
  · intro j b hj
    rcases Nat.lt_trichotomy j as.length with z | z | z
    · rw [List.getElem?_append_left z] at hj
      obtain ⟨en,q1,q2⟩:=hG.pairs j b hj
      have hb:=hG.above b (List.mem_of_getElem? hj)
      exact ⟨en,q1,up b _ (Nat.ne_of_gt (Nat.lt_trans hSI hb)) (hkp b _ (Nat.ne_of_gt hb) q2)⟩
    · subst z
      have hb:h.objs.size=b:=by simpa using hj
      subst hb
      exact ⟨es[i],by rw [hal]; exact hx,up _ _ (Nat.ne_of_gt hSl) ht⟩
    · rw [List.getElem?_eq_none (by rw [List.length_append,List.length_singleton]; omega)] at hj
      cases hj
  · exact Nat.lt_trans hIs (Heap.lt_size (up _ _ (Nat.ne_of_gt hSl) ht))
end
theorem len_items:typeLookup (.type "dict_items") "__len__"=pure (some (.builtin "dict_items.__len__")):=by rw [typeLookup_type,builtinLookup_eq_fast]; kernel_rfl
theorem sub_items:isSubtype (.type "dict_items") (.type "dict_items")=pure true:=by rw [isSubtype_type]; kernel_rfl
section
variable {prog:Program} {w:World} {A:Around} {E:Value→Shared→Prop} {s:Shared} {es:Array DictEntry} {ep:Nat} {od:Obj}
theorem iter_items {v d:Addr} {Q:Value→Shared→Prop} (hv:s.heap.IsItemsView v d) (ho:s.heap.get? d=some od) (hd:od.data=.dict es ep)
  (hQ:Q (.ref s.heap.objs.size) { s with heap:=s.heap.push { cls:=.type "dict_itemiterator",data:=.fields #[.none,.bool false,.ref d,.int 0 0,.int es.size 0,.int ep 0,.none,.none] } }):wpAny (model prog w) A (pyIter (.ref v)) Q E s:=by
 obtain ⟨vo,hvo,hcv,hdv⟩:=id hv
 refine wpAny_pyIter_slot hv.typeIs PySem.F.slot_dict_items_iter (wpAny_call_entry PySem.F.slot_dict_items_iter hv.typeIs PySem.F.entry_dict_items_iter ?_ (PySem.F.args_dict_items_iter_1 _))
 unfold Builtin.«dict_items.__iter__»
 refine wpAny_bind (wpAny_pure (wpAny_bind ?_))
 unfold Builtin.Dict_items.dictOf
 refine wpAny_bind (wpAny_field hvo hdv (x:=.ref d) rfl (wpAny_pure (wpAny_bind ?_)))
 unfold Builtin.Dict_items.newIterator
 refine wpAny_bind (wpAny_dictEntries ho hd (wpAny_bind (wpAny_dictEpoch ho hd ?_)))
 have how:Builtin.Dict_items.ownsTuple "dict_itemiterator"=true:=by decide
 simp only [how,if_true]
 refine wpAny_newObj_type (wpAny_pure ⟨_,rfl,"dict_itemiterator",_,⟨_,Heap.get?_push_size _ rfl,rfl⟩,PySem.F.slot_dict_itemiterator_next.lookup,?_⟩) (by simp only [sizeOk,Builtin.Dict_items.ownedTupleFields,List.size_toArray,List.length_append,List.length_cons,List.length_nil,sizeLine_eq]; omega)
 simpa [rawInt,Builtin.Dict_items.ownedTupleFields] using hQ
theorem collect_items {v d:Addr} {Q:List Value→Shared→Prop} (hh:A.handled=none) (hv:s.heap.IsItemsView v d) (ho:s.heap.get? d=some od) (hd:od.data=.dict es ep) (hn:es.size≤1000)
  (h:∀ (h':Heap) (tk:Nat) (as:List Addr),s.heap.objs.size < h'.objs.size→(∀ b o,s.heap.get? b=some o→h'.get? b=some o)→as.length=es.size→PrsAt es s.heap.objs.size h' as→Q (as.map Value.ref) { s with heap:=h',toks:=tk }):wpAny (model prog w) A (collect (.ref v)) Q E s:=by
 obtain ⟨vo,hvo,hcv,hdv⟩:=id hv
 have hvl:v < s.heap.objs.size:=Heap.lt_size hvo
 have hdl:d < s.heap.objs.size:=Heap.lt_size ho
 unfold collect
 refine wpAny_bind (wpAny_runValue (codeAny_builtin PySem.F.entry_proto_collect ?_))
 rw [Around.under_plainId PySem.F.plain_proto_collect _]
 refine (show wpAny _ A.in1 (newList [] >>= fun l=>again (.builtin "list.__iadd__" ⟨[l,.ref v],[]⟩)) _ _ s from ?_)
 refine wpAny_bind (wpAny_newObj_type (wpAny_pure ⟨plainId_quiet PySem.F.plain_list_iadd _,codeAny_builtin PySem.F.entry_list_iadd ?_⟩))
 rw [Around.under_plainId PySem.F.plain_list_iadd _]
 have hL0:(s.heap.push { cls:=.type "list",data:=.seq ([]:List Value).toArray }).get? s.heap.objs.size=some { cls:=.type "list",data:=.seq ([]:List Value).toArray }:=Heap.get?_push_size _ rfl
 have hk0:∀ b o,s.heap.get? b=some o→(s.heap.push { cls:=.type "list",data:=.seq ([]:List Value).toArray }).get? b=some o:=fun b o e=>Heap.get?_push_of_some _ e
 have hz0:(s.heap.push { cls:=.type "list",data:=.seq ([]:List Value).toArray }).objs.size=s.heap.objs.size+1:=Heap.size_push _ _
 refine (show wpAny _ A.in1 (Builtin.List.listExtendWith (.ref s.heap.objs.size) (.ref v) (.ref s.heap.objs.size)) _ _ { s with heap:=s.heap.push { cls:=.type "list",data:=.seq ([]:List Value).toArray } } from ?_)
 generalize s.heap.push { cls:=.type "list",data:=.seq ([]:List Value).toArray }=g0 at hL0 hk0 hz0 ⊢
 unfold Builtin.List.listExtendWith
 have hty:Shared.TypeIs { s with heap:=g0 } (.ref v) "dict_items":=⟨vo,hk0 _ _ hvo,hcv⟩
 have hne:s.heap.objs.size≠v:=Nat.ne_of_gt hvl
 have hs1:Builtin.List.listSameRef (.ref s.heap.objs.size) (.ref v)=false:=by simp [Builtin.List.listSameRef,hne]
 refine wpAny_bind (wpAny_typeOf hty ?_)
 rw [if_neg (by rw [hs1]; decide)]
 refine wpAny_bind (iter_items (s:={ s with heap:=g0 }) (es:=es) (ep:=ep) (od:=od) ⟨vo,hk0 _ _ hvo,hcv,hdv⟩ (hk0 _ _ ho) hd ?_)
 have hI1:(g0.push { cls:=.type "dict_itemiterator",data:=.fields #[.none,.bool false,.ref d,.int 0 0,.int es.size 0,.int ep 0,.none,.none] }).get? g0.objs.size=some { cls:=.type "dict_itemiterator",data:=.fields #[.none,.bool false,.ref d,.int 0 0,.int es.size 0,.int ep 0,.none,.none] }:=Heap.get?_push_size _ rfl
 have hk1:∀ b o,g0.get? b=some o→(g0.push { cls:=.type "dict_itemiterator",data:=.fields #[.none,.bool false,.ref d,.int 0 0,.int es.size 0,.int ep 0,.none,.none] }).get? b=some o:=fun b o e=>Heap.get?_push_of_some _ e
 show wpAny _ A.in1 _ _ _ { s with heap:=g0.push { cls:=.type "dict_itemiterator",data:=.fields #[.none,.bool false,.ref d,.int 0 0,.int es.size 0,.int ep 0,.none,.none] } }
 generalize g0.push { cls:=.type "dict_itemiterator",data:=.fields #[.none,.bool false,.ref d,.int 0 0,.int es.size 0,.int ep 0,.none,.none] }=g1 at hI1 hk1 ⊢
 have hty1:Shared.TypeIs { s with heap:=g1 } (.ref v) "dict_items":=⟨vo,hk1 _ _ (hk0 _ _ hvo),hcv⟩
 have hI0:s.heap.objs.size < g0.objs.size:=by rw [hz0]; exact Nat.lt_succ_self _
 have key:∀ (R:Result→Shared→Prop),(∀ (h':Heap) (tk:Nat) (acc:Array Value) (c:Nat),h'.get? s.heap.objs.size=some { cls:=.type "list",dict:=none,data:=.seq acc c,slots:=#[] }→Q acc.toList { s with heap:=h',toks:=tk }→R (.ok (.ret (.ref s.heap.objs.size))) { s with heap:=h',toks:=tk }) →
   ∀ (h2:Heap) (c1 tk:Nat),(∀ b o,b≠s.heap.objs.size→g1.get? b=some o→h2.get? b=some o)→h2.get? s.heap.objs.size=some { cls:=.type "list",dict:=none,data:=.seq #[] c1,slots:=#[] } →
   codeAny (model prog w) A (.builtin "list.extend.loop" ⟨[.ref s.heap.objs.size,.ref g0.objs.size,.ref s.heap.objs.size],[]⟩) R { s with heap:=h2,toks:=tk }:=by
  intro R hR h2 c1 tk hk2 hS2
  refine it_loop (s:=s) (es:=es) (ep:=ep) (od:=od) (h1:=s.heap) hh hI0 (Nat.ne_of_lt hdl) (Nat.ne_of_lt (Nat.lt_trans hdl hI0)) hn hd _ (fun h' tk' acc c as hk' hS' hl hG hacc=>hR h' tk' acc c hS' ?_) es.size 0 h2 tk c1 #[] [] (Nat.sub_zero _) (Nat.zero_le _) ⟨_,_,_,_,hk2 _ _ (Nat.ne_of_gt hI0) hI1,.inl ⟨rfl,rfl⟩⟩ (hk2 _ _ (Nat.ne_of_lt hdl) (hk1 _ _ (hk0 _ _ ho))) (fun b o hb _ e=>hk2 b o hb (hk1 _ _ (hk0 _ _ e))) hS2 rfl rfl ⟨List.Pairwise.nil,(fun _ ha=>nomatch ha),(fun j a hj=>by simp at hj)⟩ (Heap.lt_size (hk2 _ _ (Nat.ne_of_gt hI0) hI1))
  rw [hacc]
  exact h h' tk' as (Heap.lt_size hS') (fun b o e=>hk' b o (Nat.ne_of_lt (Heap.lt_size e)) (Nat.ne_of_lt (Nat.lt_trans (Heap.lt_size e) hI0)) e) hl ⟨hG.rise,fun a ha=>Nat.lt_trans hI0 (hG.above a ha),hG.pairs⟩
 refine wpAny_bind (wpAny_holding ?_)
 unfold Builtin.List.listLengthHint
 refine wpAny_bind (wpAny_specialOf hty1 len_items ?_)
 dsimp only
 rw [show splitId "dict_items.__len__"=some ("dict_items","__len__") from by decide +kernel]
 dsimp only
 refine wpAny_bind (wpAny_isInstance (b:=true) hty1 sub_items ?_)
 simp only [Bool.not_true,Bool.false_eq_true,if_false]
 rw [if_pos (by decide +kernel)]
 refine wpAny_bind (wpAny_typeOf hty1 ?_)
 refine wpAny_pure ?_
 have hLs:g1.get? s.heap.objs.size=some { cls:=.type "list",data:=.seq ([]:List Value).toArray }:=hk1 _ _ hL0
 refine wpAny_ite_split (fun _=>?_) (fun _=>wpAny_pure ⟨plainId_quiet PySem.F.plain_extend_loop _,key _ (fun h' tk acc c hS' hq=>by dsimp only; exact wpAny_bind (wpAny_load hS' (wpAny_pure hq))) g1 0 _ (fun b o _ e=>e) hLs⟩)
 refine wpAny_bind (wpAny_rule ?_)
 unfold Builtin.List.listTouch
 refine wpAny_bind (wpAny_bind (listUpdate_at hLs rfl ?_ (by show 0≤sizeLine; exact Nat.zero_le _) (by show 1≤sizeLine+1; exact Nat.succ_le_succ (Nat.zero_le _))))
 have hL2:=get?_update_seq hLs (fun xs=>xs.push .none)
 refine listUpdate_at hL2 rfl ?_ (by show 1≤sizeLine; rw [sizeLine_eq]; decide) (by show 0≤sizeLine+1; exact Nat.zero_le _)
 have hL3:=get?_update_seq hL2 (fun xs=>xs.pop)
 refine wpAny_pure ⟨plainId_quiet PySem.F.plain_extend_loop _,key _ (fun h' tk acc c hS' hq=>by dsimp only; exact wpAny_bind (wpAny_load hS' (wpAny_pure hq))) _ _ _ (fun b o hb e=>?_) hL3⟩
 rw [Heap.get?_update_ne _ _ _ _ hb,Heap.get?_update_ne _ _ _ _ hb]
 exact e
theorem lt_stand {a b:Addr} {k m:SKey} (hu:A.units+1 < cLine) (hx:StandAt s.heap a k.1 k.2) (hy:StandAt s.heap b m.1 m.2):LtAt A s (.ref a) (.ref b) (decide ([k.1,[k.2]] < [m.1,[m.2]])):=by
 obtain ⟨c1,k1,us,p1,p2,rv⟩:=hx
 obtain ⟨c2,k2,vs,p3,p4,rw'⟩:=hy
 have h:=LtAt.tuples (e:=fun j=>if j=0 then decide (k.1=m.1) else decide (k.2=m.2)) (lt:=fun j=>if j=0 then decide (k.1 < m.1) else decide (k.2 < m.2)) p1 p3 (show A.units < cLine by omega) (fun j g1 g2=>?_) (fun j g1 g2 _=>?_)
 · rw [←pair_lt]
   exact h
 · have hj:j=0∨j=1:=by
    have:j < 2:=g1
    omega
   rcases hj with rfl | rfl
   · exact eqAt_ints (A:=A.in1) p2 p4 rv rw' (by show A.units+1 < cLine; exact hu)
   · exact eqAt_int (A:=A.in1) (s:=s) k.2 m.2 k1 k2
 · have hj:j=0∨j=1:=by
    have:j < 2:=g1
    omega
   rcases hj with rfl | rfl
   · exact LtAt.ints (A:=A.in1) p2 p4 rv rw' (by show A.units+1 < cLine; exact hu)
   · intro prog w E Q hq
     exact (show wpAny (model prog w) A.in1 (compareOp .Lt _ _) Q E s from wpAny_lt_int hq)
theorem first_tup {a b:Addr} {xs us:Array Value} (ha:s.heap.IsTuple a xs) (h0:xs[0]? = some (.ref b)) (hb:s.heap.IsTuple b us) (Q':Option Value→Shared→Prop) (hq:∀ y,(∃ b us,y=some (.ref b)∧s.heap.IsTuple b us)→Q' y s):wpAny (model prog w) A (firstOfTuple' (.ref a)) Q' E s:=by
 rw [firstOfTuple'_eq]
 refine wpAny_bind (wpAny_typeOf ha.typeIs ?_)
 rw [if_neg (by decide)]
 obtain ⟨o,ho,hc,m,hd⟩:=ha
 exact wpAny_bind (wpAny_listItems ho hd (wpAny_pure (hq _ ⟨b,us,h0,hb⟩)))
theorem keyKind_tups {vs:List Value} (h2:2≤vs.length) (hv:∀ v∈vs,∃ a b xs us,v=.ref a∧s.heap.IsTuple a xs∧xs[0]? = some (.ref b)∧s.heap.IsTuple b us) {Q:SortKind→Shared→Prop} (q:Q (tuples' false) s):wpAny (model prog w) A (keyKind' vs.toArray) Q E s:=by
 rw [keyKind'_eq,List.mapM_toArray,map_eq_pure_bind,bind_assoc]
 refine wpAny_bind (mapM_all (fun y=>∃ b us,y=some (.ref b)∧s.heap.IsTuple b us) (fun v hv' Q' hq=>?_) fun ys hl hys=>?_)
 · obtain ⟨a,b,xs,us,rfl,h1,h0,hb⟩:=hv v hv'
   exact first_tup h1 h0 hb Q' hq
 rw [pure_bind]
 rw [if_pos (by
  rw [List.all_toArray,List.all_eq_true]
  intro y hy
  obtain ⟨b,us,rfl,_⟩:=hys y hy
  rfl)]
 refine wpAny_bind (wpAny_rule ?_)
 rw [oneTypeOnly'_eq,List.filterMap_toArray,List.mapM_toArray,map_eq_pure_bind]
 have hfm:∀ z∈ys.filterMap id,∃ b us,z=Value.ref b∧s.heap.IsTuple b us:=fun z hz=>by
  obtain ⟨y,hy,e⟩:=List.mem_filterMap.mp hz
  obtain ⟨b,us,rfl,hb⟩:=hys y hy
  exact ⟨b,us,(Option.some.inj e).symm,hb⟩
 have hfl:(ys.filterMap id).length=ys.length:=by
  have gen:∀ l:List (Option Value),(∀ y∈l,y.isSome=true)→(l.filterMap id).length=l.length:=by
   intro l
   induction l with
   | nil=>intro _; rfl
   | cons y l ih =>
    intro h
    have hy:=h y List.mem_cons_self
    cases y with
    | none=>cases hy
    | some v =>
     show (v::l.filterMap id).length=_
     rw [List.length_cons,List.length_cons,ih fun z hz=>h z (List.mem_cons_of_mem _ hz)]
  exact gen ys fun y hy=>by
   obtain ⟨b,us,rfl,_⟩:=hys y hy
   rfl
 simp only [bind_assoc]
 refine wpAny_bind (mapM_all (fun y=>y=Value.type "tuple") (fun v hv' Q' hq=>?_) fun ts hl2 hts=>?_)
 · obtain ⟨b,us,rfl,hb⟩:=hfm v hv'
   exact wpAny_typeOf hb.typeIs (hq _ rfl)
 rw [pure_bind]
 match ts,hl2,hts with
 | [],hl2,_ =>
  exfalso
  rw [hfl,hl] at hl2
  have:(0:Nat)=vs.length:=hl2
  omega
 | t::ts,_,hts =>
  have ht:=hts t List.mem_cons_self
  subst ht
  have hall:((Value.type "tuple"::ts).toArray.all fun x=>x == Value.type "tuple")=true:=by
   rw [List.all_toArray,List.all_eq_true]
   intro y hy
   rw [hts y hy]
   rfl
  have h0:((Value.type "tuple"::ts).toArray)[0]? = some (Value.type "tuple"):=by simp
  rw [h0]
  dsimp only
  rw [hall,if_pos rfl,pure_bind]
  exact wpAny_pure q
theorem sorted_ofK {v:Value} {Q:Value→Shared→Prop} (P:List Value→Shared→Prop) (hcol:∀ Q':List Value→Shared→Prop,(∀ vs s1,P vs s1→Q' vs s1)→wpAny (model prog w) A.in1 (collect v) Q' E s)
  (hfin:∀ vs s1,P vs s1→vs.length≤1000∧∃ (κ:KD) (kd:SortKind),AllKeys κ (pairsOf vs)∧(∀ s' a,(∀ b o,s1.heap.get? b=some o→s'.heap.get? b=some o)→s1.heap.objs.size≤a→SortOk prog w A.in1.in1 E s' κ kd vs a) ∧
   ∀ (out:Array Keyed) (hp:Heap) (r:Addr) (e:Nat),(∀ b o,s1.heap.get? b=some o→hp.get? b=some o)→s1.heap.objs.size≤r→hp.get? r=some (seqObj "list" (out.map (·.2)) e)→out.Perm (pairsOf vs)→SegK κ out 0 vs.length→Q (.ref r) { s1 with heap:=hp }) :
  wpAny (model prog w) A (call (.builtin "sorted") [v]) Q E s:=by
 refine Calls.call_function_entry kind_sorted plain_sorted entry_sorted (args_sorted1 _) ?_
 unfold Builtin.«sorted»
 refine wpAny_bind (m:=checkCount "sorted" 1 1 _) (wpAny_pure (wpAny_bind (hcol _ fun vs s1 hP=>?_)))
 obtain ⟨hz,κ,kd,hK,hS,hend⟩:=hfin vs s1 hP
 refine wpAny_bind (wpAny_newList ?_ (by rw [sizeLine_eq]; omega))
 have ho:(s1.heap.push (seqObj "list" vs.toArray 0)).get? s1.heap.objs.size=some (seqObj "list" vs.toArray 0):=Heap.get?_push_size _ rfl
 refine wpAny_bind (wpAny_holding (wpAny_call_entry slot_list_sort ⟨_,ho,rfl⟩ entry_list_sort (sort_any (κ:=κ) (kd:=kd) ho hz hK (hS _ _ (fun b o e=>Heap.get?_push_of_some _ e) (Nat.le_refl _)) fun out p1 p2=>⟨_,rfl,?_⟩) (args_list_sort _)))
 refine wpAny_pure ⟨_,rfl,?_⟩
 obtain ⟨e,he⟩:=sortedHeap_at (out:=out.map (·.2)) ho
 refine hend out _ _ e (fun b o eb=>?_) (Nat.le_refl _) he p1 p2
 have hlt:=Heap.lt_size eb
 show (sortedHeap (s1.heap.push (seqObj "list" vs.toArray 0)) s1.heap.objs.size vs (out.map (·.2))).get? b=some o
 rw [sortedHeap_old (Nat.ne_of_lt hlt) (by rw [size_push']; exact Nat.lt_succ_of_lt hlt)]
 exact Heap.get?_push_of_some _ eb
end
def keyKD (f:Addr→Option SK):KD where
 α:=SK
 blt a b:=decide (a < b)
 irrefl a:=by simpa using List.lt_irrefl a
 trans a b c h1 h2:=by simp only [decide_eq_true_eq] at *; exact List.lt_trans h1 h2
 negTrans a b c h:=by
  simp only [decide_eq_true_eq] at *
  by_cases hab:a < b
  · exact .inl hab
  · exact .inr (List.lt_of_le_of_lt (List.not_lt.mp hab) h)
 total a b h1 h2:=by simp only [decide_eq_false_iff_not] at *; exact List.le_antisymm (List.not_lt.mp h2) (List.not_lt.mp h1)
 keyOf v:=match v with | .ref a=>f a | _=>none
 dflt:=[]
section
variable {X:Cx} {pins:List (Addr×Obj)} {σ:L2.St} {H H':Hp} {s:Shared} {h':Heap}
theorem Inv.many {t':Nat} (I:Inv X pins σ H s) (k:∀ b u,s.heap.get? b=some u→h'.get? b=some u) (hs:∀ b,b < s.heap.objs.size→H' b=H b) (new:∀ b o,s.heap.objs.size≤b→H' b=some o→ObjOk X.prog X.w H' h' b o) :
  Inv X pins σ H' { s with heap:=h',toks:=t' }:=by
 have up:∀ b o,H b=some o→H' b=some o:=fun b o e=>(hs b (I.hok.lt e)).trans e
 refine I.un ⟨fun b u q _ _ _=>k b u q,fun b u q _ _ _=>⟨u.slots,k b u q⟩,fun b u q n _=>(hs b (Heap.lt_size q)).trans n,fun b u q _=>⟨u,k b u q⟩,fun b xs q=>up b _ q,fun b u xs q=>up b _ q,fun b ps q=>⟨#[],by rw [up b _ q]; simp⟩⟩ fun b o e=>?_
 by_cases hb:b < s.heap.objs.size
 · exact (I.hok b o ((hs b hb).symm.trans e)).stay (fun c v _ q=>k c v q) (fun c q=>up c _ q) fun c xs q=>up c _ q
 · exact new b o (Nat.not_lt.mp hb) e
def ViewO (v d:Addr):HO:=.ext fun h=>h.IsItemsView v d
theorem ViewO.ok {P:Program} {w:World} {H:Hp} {h:Heap} {v d:Addr} (x:h.IsItemsView v d):ObjOk P w H h v (ViewO v d) :=
 ⟨x,(by obtain ⟨o,e,_⟩:=x; exact ⟨o,e⟩),fun _ _ ⟨o,e,r⟩ k=>⟨o,k o e,r⟩⟩
theorem view_raw {d:Addr} {R:Result→Shared→Prop} {od:Obj} {A:Around} {E:Value→Shared→Prop} {Q:Value→Shared→Prop} (hd:(d == sysModules)=false) (ho:s.heap.get? d=some od) (hc:od.cls=.type "dict")
  (h:Q (.ref s.heap.objs.size) { s with heap:=s.heap.push { cls:=.type "dict_items",data:=.fields #[.ref d] } }):wpAny (model X.prog X.w) A (call (.builtin "dict.items") [.ref d]) Q E s:=by
 have hty:s.TypeIs (.ref d) "dict":=⟨od,ho,hc⟩
 refine wpAny_call_entry PySem.F.slot_dict_items hty PySem.F.entry_dict_items ?_ (PySem.F.args_dict_items_1 _)
 unfold Builtin.«dict.items»
 refine wpAny_bind ?_
 unfold Builtin.Dict.noArgs
 refine wpAny_bind (wpAny_notOrdered_dict hty ?_)
 refine (show wpAny _ _ (pure d) _ _ s from wpAny_pure ?_)
 refine (show wpAny _ _ (Builtin.Dict.showsAll d >>= _) _ _ s from ?_)
 unfold Builtin.Dict.showsAll
 rw [if_neg (by rw [hd]; exact Bool.false_ne_true)]
 exact wpAny_bind (wpAny_pure (wpAny_bind (wpAny_newObj_type (wpAny_pure ⟨_,rfl,h⟩))))
theorem pe_items {P:Program} {w:World} {o:Expr} {to:TE} {apos cpos:Pos} (hP:X.prog=P) (hw:X.w=w) (ho:PE X o to)
  (hbase:attributeBase o "items" X.env (eval o X.env)=eval o X.env:=by rfl) (hline:(apos.endLine == cpos.line)=true:=by rfl) :
  PE X (.Call (.Attribute o "items" apos) [] [] cpos) (fun σ H Q=>to σ H fun x H1=>∃ (d:Addr) (es:List (SKey×Addr×Int)),x=.ref d∧KnownAt P w H1 d es∧∀ v,H1 v=none→Q (.ref v) (upd H1 v (ViewO v d))):=by
 subst hP hw
 intro pins s σ H Q I h
 refine wpAny_Call_method0_late hbase hline (thn (ho pins s σ H _ I h) fun v s1 ⟨x,H1,I1,r1,d,es,ex,hk,q1⟩=>?_)
 subst ex
 cases r1
 obtain ⟨hd,_,xs,_,od,en,ep,e1,e2,e3,_⟩:=known_dict I1 hk
 refine ⟨"dict","dict.items",PySem.F.plainAttrs_dict,PySem.F.slot_dict_items,PySem.F.type_dict_items,⟨od,e1,e2.1⟩,(fun b q=>by cases q; exact ⟨od,e1,e2.2.1⟩),Calls.callWith_builtin rfl (PySem.evalArgs_none ?_)⟩
 exact view_raw (R:=fun _ _=>True) hd e1 e2.1 ⟨.ref s1.heap.objs.size,_,I1.laid (a:=s1.heap.objs.size) (o:=ViewO s1.heap.objs.size d) (t':=s1.toks) (fun _ _ q=>Heap.get?_push_of_some _ q) (Nat.le_refl _) (ViewO.ok ⟨_,Heap.get?_push_size _ rfl,rfl,rfl⟩),rfl,q1 _ (I1.hok.fresh (Nat.le_refl _))⟩
theorem lookup_zip {es:List (SKey×Addr×Int)}:∀ {as:List Addr} {es:List (SKey×Addr×Int)},as.Nodup→∀ {j:Nat} {a:Addr} {e:SKey×Addr×Int},as[j]? = some a→es[j]? = some e→(as.zip es).lookup a=some e
 | [],_,_,_,_,_,h,_=>by simp at h
 | _::_,[],_,_,_,_,_,h=>by simp at h
 | x::as,y::es,hn,0,a,e,h1,h2=>by
  have e1:x=a:=by simpa using h1
  have e2:y=e:=by simpa using h2
  subst e1 e2
  show (List.lookup x ((x,y)::as.zip es))=_
  rw [List.lookup_cons,beq_self_eq_true]
 | x::as,y::es,hn,j+1,a,e,h1,h2=>by
  obtain ⟨n1,n2⟩:=List.nodup_cons.mp hn
  have h1':as[j]? = some a:=by simpa using h1
  have h2':es[j]? = some e:=by simpa using h2
  have hne:a≠x:=fun z=>n1 (z ▸ List.mem_of_getElem? h1')
  show (List.lookup a ((x,y)::as.zip es))=_
  rw [List.lookup_cons,beq_eq_false_iff_ne.mpr hne]
  exact lookup_zip (es:=es) n2 h1' h2'
theorem lookup_out {es:List (SKey×Addr×Int)} {as:List Addr} {a:Addr} (h:a∉as):(as.zip es).lookup a=none:=by
 induction as generalizing es with
 | nil=>rfl
 | cons x as ih =>
  cases es with
  | nil=>rfl
  | cons y es =>
   show (List.lookup a ((x,y)::as.zip es))=_
   rw [List.lookup_cons,beq_eq_false_iff_ne.mpr (fun z:a=x=>h (by rw [z]; exact List.mem_cons_self))]
   exact ih fun z=>h (List.mem_cons_of_mem _ z)
theorem paired_at {α β:Type} {F:α→β→Prop}:∀ {l:List α} {m:List β},Paired F l m→∀ {j:Nat} {x:α},l[j]? = some x→∃ y,m[j]? = some y∧F x y
 | _,_,.nil,j,x,e=>by simp at e
 | _,_,.cons r t,0,x,e=>by
  have e':=Option.some.inj e
  subst e'
  exact ⟨_,rfl,r⟩
 | _,_,.cons r t,j+1,x,e=>by
  obtain ⟨y,h1,h2⟩:=paired_at t (j:=j) (x:=x) (by simpa using e)
  exact ⟨y,by simpa using h1,h2⟩
theorem call_sortedItems {P:Program} {w:World} (hP:X.prog=P) (hw:X.w=w) (hc:X.calm=true) (hu:X.A.units+8 < cLine):CallR X (.builtin "sorted") (fun xs H Q=>∃ (v d:Addr) (es:List (SKey×Addr×Int)),xs=[.ref v]∧H v=some (ViewO v d)∧KnownAt P w H d es ∧
  ∀ (r:Addr) (qs:List Addr) (ms:List (SKey×Addr×Int)) (H':Hp),H r=none→Same H H'→H' r=some (.lst (qs.map V.ref))→ms.Perm es→ms.Pairwise (fun a b=>leK a.1 b.1)→qs.length=ms.length→(∀ (j:Nat) q e,qs[j]? = some q→ms[j]? = some e→H' q=some (.tup [.ref e.2.1,.int e.2.2]))→Q (.ref r) H'):=by
 subst hP hw
 intro pins s σ H xs us Q I r h
 obtain ⟨v,d,es,rfl,hv,hk,q⟩:=h
 obtain ⟨u,rfl,rx⟩:=vals1 r
 cases rx
 have hview:s.heap.IsItemsView v d:=(show ObjOk X.prog X.w H s.heap v (ViewO v d) from I.hok v _ hv).1
 obtain ⟨_,hz,xs,rel,od,en,ep,e1,e2,e3,e4,his,hnd⟩:=known_dict I hk
 have hxl:xs.length=es.length:=(Paired.length rel).symm
 have hen:en.size=es.length:=by rw [←Array.length_toList,e4,List.length_map,hxl]
 have hent:∀ (j:Nat) e,es[j]? = some e→∃ n t,en[j]? = some n∧n.key=.ref e.2.1∧n.val=.int e.2.2 t∧StandAt s.heap e.2.1 e.1.1 e.1.2:=fun j e he=>by
  obtain ⟨x,hx,r1,r2,t,r3⟩:=paired_at rel he
  refine ⟨entryOfKey (stKind X.prog X.w) x,t,by rw [←Array.getElem?_toList,e4,List.getElem?_map,hx]; rfl,by rw [r2]; rfl,r3,?_⟩
  have:=his x (List.mem_of_getElem? hx)
  rw [←r1,←r2] at this
  exact this
 have hkeys:(es.map (·.1)).Nodup:=by
  have gen:∀ {l:List (SKey×Addr×Int)} {m:List (SKey×Addr×Value)},Paired (fun (e:SKey×Addr×Int) (x:SKey×Addr×Value)=>e.1=x.1∧e.2.1=x.2.1∧∃ t,x.2.2=.int e.2.2 t) l m→l.map (·.1)=m.map (·.1):=by
   intro l m r
   induction r with
   | nil=>rfl
   | cons r1 _ ih=>rw [List.map_cons,List.map_cons,ih,r1.1]
  rw [gen rel]
  exact hnd
 refine sorted_ofK (fun vs s1=>∃ (h':Heap) (tk:Nat) (as:List Addr),s1={ s with heap:=h',toks:=tk }∧s.heap.objs.size < h'.objs.size∧(∀ b o,s.heap.get? b=some o→h'.get? b=some o)∧as.length=en.size∧PrsAt en s.heap.objs.size h' as∧vs=as.map Value.ref)
  (fun Q' hq=>collect_items (I.ok.hd hc) hview e1 e3 (by omega) fun h' tk as a0 a1 a2 a3=>hq _ _ ⟨h',tk,as,rfl,a0,a1,a2,a3,rfl⟩) ?_
 rintro vs s1 ⟨h',tk,as,rfl,hgr,kp,hal,hG,rfl⟩
 have hand:as.Nodup:=hG.rise.imp fun h=>Nat.ne_of_lt h
 have hale:as.length=es.length:=hal.trans hen
 have hpr:∀ a∈as,∃ (j:Nat) (e:SKey×Addr×Int) (t:Tok),as[j]? = some a∧es[j]? = some e∧(as.zip es).lookup a=some e∧h'.IsTuple a #[.ref e.2.1,.int e.2.2 t]∧StandAt h' e.2.1 e.1.1 e.1.2:=fun a ha=>by
  obtain ⟨j,hj,ej⟩:=List.getElem_of_mem ha
  have ea:as[j]? = some a:=by rw [List.getElem?_eq_getElem hj,ej]
  have ee:es[j]? = some es[j]:=List.getElem?_eq_getElem (by omega)
  obtain ⟨n,t,n1,n2,n3,n4⟩:=hent j _ ee
  obtain ⟨n',m1,m2⟩:=hG.pairs j a ea
  rw [n1] at m1
  cases m1
  rw [n2,n3] at m2
  exact ⟨j,_,t,ea,ee,lookup_zip (es:=es) hand ea ee,⟨_,m2,rfl,0,rfl⟩,n4.keep kp⟩
 refine ⟨by rw [List.length_map]; omega,keyKD (fun a=>((as.zip es).lookup a).map fun e=>[e.1.1,[e.1.2]]),tuples' false,fun p hp=>?_,fun s' a0 kp2 ha0 h2 hh2=>⟨fun hv2 Q' q'=>?_,?_⟩,fun out hp r e kp2 hr he p1 p2=>?_⟩
 · rw [pairsOf_toList] at hp
   obtain ⟨_,hm⟩:=mem_zip_self hp
   obtain ⟨a,ha,ea⟩:=List.mem_map.mp hm
   obtain ⟨j,e,t,_,_,el,_⟩:=hpr a ha
   refine ⟨[e.1.1,[e.1.2]],?_⟩
   rw [←ea]
   show ((as.zip es).lookup a).map _=_
   rw [el]
   rfl
 · have ext:∀ b o,h'.get? b=some o→h2.get? b=some o:=fun b o e=>hh2 b o (fun z=>by have:=Heap.lt_size e; rw [z] at this; exact absurd this (Nat.not_lt.mpr ha0)) (kp2 b o e)
   refine keyKind_tups (s:={ s' with heap:=h2 }) hv2 (fun x hx=>?_) q'
   obtain ⟨a,ha,rfl⟩:=List.mem_map.mp hx
   obtain ⟨j,e,t,_,_,_,⟨o1,m1,m2⟩,hst⟩:=hpr a ha
   obtain ⟨b,tk',us,⟨o2,p1,p2⟩,_⟩:=hst
   exact ⟨a,e.2.1,_,_,rfl,⟨o1,ext _ _ m1,m2⟩,rfl,⟨o2,ext _ _ p1,p2⟩⟩
 · have ext:∀ b o,h'.get? b=some o→h2.get? b=some o:=fun b o e=>hh2 b o (fun z=>by have:=Heap.lt_size e; rw [z] at this; exact absurd this (Nat.not_lt.mpr ha0)) (kp2 b o e)
   intro st x y ka kb Q2 hkd ha hb hq
   obtain ⟨x1,x2⟩:=x
   obtain ⟨y1,y2⟩:=y
   have key:∀ {v:Value} {k:SK},(keyKD (fun a=>((as.zip es).lookup a).map fun e=>[e.1.1,[e.1.2]])).keyOf v=some k→∃ (a:Addr) (j:Nat) (e:SKey×Addr×Int) (t:Tok),v=.ref a∧as[j]? = some a∧es[j]? = some e∧h2.IsTuple a #[.ref e.2.1,.int e.2.2 t]∧StandAt h2 e.2.1 e.1.1 e.1.2∧k=[e.1.1,[e.1.2]]:=by
    intro v k hv
    cases v with
    | ref c =>
     have hv':((as.zip es).lookup c).map (fun e=>[e.1.1,[e.1.2]])=some k:=hv
     by_cases hc:c∈as
     · obtain ⟨j,e,t,ea,ee,el,⟨o1,m1,m2⟩,hst⟩:=hpr c hc
       rw [el] at hv'
       exact ⟨c,j,e,t,rfl,ea,ee,⟨o1,ext _ _ m1,m2⟩,hst.keep ext,(Option.some.inj hv').symm⟩
     · rw [lookup_out hc] at hv'
       cases hv'
    | _=>cases hv
   obtain ⟨c1,i1,k1,t1,rfl,a1,b1,p1,s1,rfl⟩:=key ha
   obtain ⟨c2,i2,k2,t2,rfl,a2,b2,p2,s2,rfl⟩:=key hb
   rw [lt'_eq]
   refine wpS_bind (wpS_get ?_)
   rw [hkd]
   refine wpS_bind (wpS_lift (wpAny_attempt (keyLt_tuples (s:={ s' with heap:=h2 }) (e:=fun j=>if j=0 then decide (k1.1=k2.1) else decide (k1.2.2=k2.2.2)) (lt:=fun j=>if j=0 then decide ([k1.1.1,[k1.1.2]] < [k2.1.1,[k2.1.2]]) else decide (k1.2.2 < k2.2.2)) p1 p2 (fun j g1 g2=>?_) (fun j g1 g2 _=>?_) ?_)))
   · have hj:j=0∨j=1:=by
      have:j < 2:=g1
      omega
     rcases hj with rfl | rfl
     · exact eq_stand (by show X.A.units+1+1+1 < cLine; omega) s1 s2
     · exact eqAt_int _ _ _ _
   · have hj:j=0∨j=1:=by
      have:j < 2:=g1
      omega
     rcases hj with rfl | rfl
     · exact lt_stand (by show X.A.units+1+1+1 < cLine; omega) s1 s2
     · intro prog w E Q hq
       exact (show wpAny (model prog w) _ (compareOp .Lt _ _) Q E _ from wpAny_lt_int hq)
   · refine ⟨rfl,wpS_pure ?_⟩
     have ek:firstLt (fun j=>if j=0 then decide (k1.1=k2.1) else decide (k1.2.2=k2.2.2)) (fun j=>if j=0 then decide ([k1.1.1,[k1.1.2]] < [k2.1.1,[k2.1.2]]) else decide (k1.2.2 < k2.2.2)) (decide ((#[Value.ref k1.2.1,.int k1.2.2 t1]:Array Value).size < (#[Value.ref k2.2.1,.int k2.2.2 t2]:Array Value).size)) (List.range (min (#[Value.ref k1.2.1,.int k1.2.2 t1]:Array Value).size (#[Value.ref k2.2.1,.int k2.2.2 t2]:Array Value).size))=decide ([k1.1.1,[k1.1.2]] < [k2.1.1,[k2.1.2]]):=by
      show (if decide (k1.1=k2.1)=true then (if decide (k1.2.2=k2.2.2)=true then false else decide (k1.2.2 < k2.2.2)) else decide ([k1.1.1,[k1.1.2]] < [k2.1.1,[k2.1.2]]))=_
      by_cases c:k1.1=k2.1
      · have hi:i1=i2:=by
         have l1:i1 < (es.map (·.1)).length:=by rw [List.length_map]; exact (List.getElem?_eq_some_iff.mp b1).1
         exact (List.getElem?_inj l1 hkeys).mp (by rw [List.getElem?_map,List.getElem?_map,b1,b2]; exact congrArg some c)
        subst hi
        rw [b1] at b2
        cases b2
        rw [if_pos (decide_eq_true rfl),if_pos (decide_eq_true rfl)]
        exact (decide_eq_false (List.lt_irrefl _)).symm
      · rw [if_neg (by rw [decide_eq_false c]; exact Bool.false_ne_true)]
     rw [ek]
     exact hq
 · obtain ⟨h1,h2⟩:=seg_pairs p1 p2
   have ev:as.map Value.ref=(as.zip es).map fun x=>Value.ref x.1:=by
    conv=>lhs; rw [←List.map_fst_zip (l₁:=as) (l₂:=es) (by omega)]
    rw [List.map_map]
    rfl
   obtain ⟨tr,htr,eo⟩:=perm_map_ex (fun x:Addr×(SKey×Addr×Int)=>Value.ref x.1) h1 ev
   have htm:∀ x∈tr,x.1∈as∧(as.zip es).lookup x.1=some x.2:=fun x hx=>by
    have hz':=htr.mem_iff.mp hx
    obtain ⟨j,hj,ej⟩:=List.getElem_of_mem hz'
    rw [List.length_zip] at hj
    rw [List.getElem_zip] at ej
    have q1:as[j]? = some x.1:=by rw [List.getElem?_eq_getElem (by omega)]; exact congrArg some (congrArg Prod.fst ej)
    have q2:es[j]? = some x.2:=by rw [List.getElem?_eq_getElem (by omega)]; exact congrArg some (congrArg Prod.snd ej)
    exact ⟨List.mem_of_getElem? q1,lookup_zip (es:=es) hand q1 q2⟩
   have hr':h'.objs.size≤r:=hr
   have hrs:s.heap.objs.size≤r:=Nat.le_of_lt (Nat.lt_of_lt_of_le hgr hr')
   have hra:r∉as:=fun z=>absurd (hG.there z) (Nat.not_lt.mpr hr')
   obtain ⟨H',hH'⟩:∃ H':Hp,H'=fun b=>if b=r then some (.lst ((tr.map (·.1)).map V.ref)) else match (as.zip es).lookup b with | some e=>some (.tup [.ref e.2.1,.int e.2.2]) | none=>H b:=⟨_,rfl⟩
   have atr:H' r=some (.lst ((tr.map (·.1)).map V.ref)):=by rw [hH']; exact if_pos rfl
   have ata:∀ {b:Addr} {e:SKey×Addr×Int},b∈as→(as.zip es).lookup b=some e→H' b=some (.tup [.ref e.2.1,.int e.2.2]):=fun {b e} hb el=>by
    rw [hH']
    show (if b=r then _ else _)=_
    rw [if_neg (fun z:b=r=>hra (by rw [←z]; exact hb)),el]
   have ato:∀ {b:Addr},b≠r→b∉as→H' b=H b:=fun {b} hb ha=>by
    rw [hH']
    show (if b=r then _ else _)=_
    rw [if_neg hb,lookup_out ha]
   have old:∀ b,b < s.heap.objs.size→H' b=H b:=fun b hb=>ato (Nat.ne_of_lt (Nat.lt_of_lt_of_le hb hrs)) fun z=>absurd (hG.above b z) (Nat.not_lt.mpr (Nat.le_of_lt hb))
   have hsame:Same H H':=fun b o e=>(old b (I.hok.lt e)).trans e
   have kps:∀ b o,s.heap.get? b=some o→hp.get? b=some o:=fun b o e=>kp2 b o (kp b o e)
   have hqv:Vals ((tr.map (·.1)).map V.ref) ((out.map (·.2)).toList):=by
    rw [eo]
    have gen:∀ l:List (Addr×(SKey×Addr×Int)),Vals ((l.map (·.1)).map V.ref) (l.map fun x=>Value.ref x.1):=by
     intro l
     induction l with
     | nil=>exact .nil
     | cons a l ih=>exact .cons rfl ih
    exact gen tr
   have htl:tr.length=es.length:=by rw [htr.length_eq,List.length_zip]; omega
   refine ⟨.ref r,H',(show L2.Inv X pins σ H' { s with heap:=hp,toks:=tk } from Inv.many (s:=s) (t':=tk) I kps old (fun b o hb eo'=>?_)),rfl,q r (tr.map (·.1)) (tr.map (·.2)) H' (I.hok.fresh hrs) hsame atr ?_ ?_ (by rw [List.length_map,List.length_map]) ?_⟩
   · by_cases hbr:b=r
     · subst hbr
       rw [atr] at eo'
       cases eo'
       have he':hp.get? b=some { cls:=.type "list",data:=.seq ((out.map (·.2)).toList).toArray e }:=by
        rw [Array.toArray_toList]
        exact he
       exact (show ObjOk X.prog X.w H' hp b (.lst _) from ⟨by rw [List.length_map,List.length_map,htl,sizeLine_eq]; omega,_,e,hqv,he'⟩)
     · by_cases hba:b∈as
       · obtain ⟨j,e',t',_,_,el,⟨o1,m1,m2⟩,_⟩:=hpr b hba
         rw [ata hba el] at eo'
         cases eo'
         exact (show ObjOk X.prog X.w H' hp b (.tup _) from ⟨by show 2≤sizeLine; decide,[.ref e'.2.1,.int e'.2.2 t'],.cons rfl (.cons ⟨t',rfl⟩ .nil),⟨o1,kp2 _ _ m1,m2⟩⟩)
       · rw [ato hbr hba] at eo'
         exact absurd (I.hok.lt eo') (Nat.not_lt.mpr hb)
   · have:=htr.map (·.2)
     rw [List.map_snd_zip (by omega)] at this
     exact this
   · rw [eo] at h2
     rw [List.pairwise_map] at h2 ⊢
     refine h2.imp_of_mem fun {x y} hx hy hxy=>?_
     have ex:∀ z∈tr,(((as.zip es).lookup z.1).map fun e=>([e.1.1,[e.1.2]]:SK)).getD []=[z.2.1.1,[z.2.1.2]]:=fun z hz'=>by
      rw [(htm z hz').2]
      rfl
     have hxy':decide ((((as.zip es).lookup y.1).map fun e=>([e.1.1,[e.1.2]]:SK)).getD [] < (((as.zip es).lookup x.1).map fun e=>([e.1.1,[e.1.2]]:SK)).getD [])=false:=hxy
     rw [ex x hx,ex y hy] at hxy'
     exact of_decide_eq_false hxy'
   · intro j b e' hb he'
     rw [List.getElem?_map] at hb he'
     cases hj:tr[j]? with
     | none=>rw [hj] at hb; cases hb
     | some x =>
      rw [hj] at hb he'
      have z1:x.1=b:=Option.some.inj hb
      have z2:x.2=e':=Option.some.inj he'
      subst z1 z2
      obtain ⟨m1,m2⟩:=htm x (List.mem_of_getElem? hj)
      exact ata m1 m2
end
end LW
namespace LW
open PySem PySem.Spec PyProof.Rows L2 PySem.Builtin.Int
theorem pickF_mod:∀ (ns:List Int) (c:Nat),pickF ns (c % 2 ^ ns.length)=pickF ns c
 | [],_=>rfl
 | x::r,c=>by
  have h1:c % 2 ^ (r.length+1) % 2=c % 2:=Nat.mod_mod_of_dvd c ⟨2 ^ r.length,by rw [Nat.pow_succ,Nat.mul_comm]⟩
  have h2:c % 2 ^ (r.length+1) / 2=c / 2 % 2 ^ r.length:=by
   rw [Nat.pow_succ,Nat.mul_comm,Nat.mod_mul_right_div_self]
  show (if c % 2 ^ (r.length+1) % 2=1 then [x] else []) ++ pickF r (c % 2 ^ (r.length+1) / 2)=(if c % 2=1 then [x] else []) ++ pickF r (c / 2)
  rw [h1,h2,pickF_mod r (c / 2)]
theorem pickF_snoc (ns:List Int) (n:Int) (c:Nat):pickF (ns ++ [n]) c=pickF ns c ++ (if c / 2 ^ ns.length % 2=1 then [n] else []):=by
 have h:=pickF_succ (ns ++ [n]) c ns.length n (by rw [List.getElem?_append_right (Nat.le_refl _),Nat.sub_self]; rfl)
 rw [List.take_of_length_le (by rw [List.length_append,List.length_singleton]; exact Nat.le_refl _),List.take_append_of_le_length (Nat.le_refl _),List.take_length] at h
 exact h
theorem choF_pick (ns:List Int):choF ns=(List.range (2 ^ ns.length)).map (pickF ns):=by
 induction ns using rev_ind with
 | h0=>rfl
 | h1 l n ih =>
  rw [choF_snoc,List.length_append,List.length_singleton,Nat.pow_succ,Nat.mul_two,List.range_add,List.map_append]
  unfold choStep
  congr 1
  · rw [ih]
    refine List.map_congr_left fun c hc=>?_
    have hc':=List.mem_range.mp hc
    rw [pickF_snoc,Nat.div_eq_of_lt hc',if_neg (by decide),List.append_nil]
  · rw [ih,List.map_map,List.map_map]
    refine List.map_congr_left fun c hc=>?_
    have hc':=List.mem_range.mp hc
    have hp:0 < 2 ^ l.length:=Nat.pow_pos (by decide)
    show pickF l c ++ [n]=pickF (l ++ [n]) (2 ^ l.length+c)
    rw [pickF_snoc,Nat.add_div_left _ hp,Nat.div_eq_of_lt hc',if_pos rfl]
    congr 1
    rw [←pickF_mod l (2 ^ l.length+c),Nat.add_mod_left,Nat.mod_eq_of_lt hc']
theorem pick_zero:∀ ns:List Int,pickF ns 0=[]
 | []=>rfl
 | x::r=>by
  show (if 0 % 2=1 then [x] else []) ++ pickF r (0 / 2)=[]
  rw [if_neg (by decide),Nat.zero_div,pick_zero r]
  rfl
theorem stands_choF (ns:List Int):(choF ns).flatMap standsAt=standsTo ns (2 ^ ns.length - 1):=by
 obtain ⟨m,hm⟩:∃ m,2 ^ ns.length=m+1:=⟨2 ^ ns.length - 1,by have:0 < 2 ^ ns.length:=Nat.pow_pos (by decide); omega⟩
 rw [choF_pick,hm,List.range_succ_eq_map,List.map_cons,List.flatMap_cons,pick_zero]
 show [] ++ _=_
 rw [List.nil_append,List.map_map,List.flatMap_map,Nat.add_sub_cancel]
 rfl
theorem stands_perm {ns:List Int} {chs:List (List Int)} (h:chs.Perm (choF ns)):(chs.flatMap standsAt).Perm (standsTo ns (2 ^ ns.length - 1)):=by
 rw [←stands_choF]
 exact h.flatMap_right standsAt
end LW
namespace LW
open PySem PySem.Spec PyProof.Rows L2 PySem.SeqAt
section
variable {prog:Program} {w:World} {A:Around} {E:Value→Shared→Prop} {s:Shared} {es:Array DictEntry} {ep:Nat} {od:Obj}
end
section
variable {X:Cx} {pins:List (Addr×Obj)} {σ:L2.St} {H:Hp} {s:Shared}
end
section
variable {X:Cx}
end
end LW
namespace LW
open PySem PySem.Spec PyProof.Rows L2 PySem.Builtin.Int
end LW
namespace LW
open PySem PySem.Spec PyProof.Rows L2
abbrev tSeqN (t u:TS):TS:=fun D σ H=>∀ N:L2.St→Hp→Prop,(∀ σ' H',u D σ' H'→N σ' H')→t { D with nx:=N } σ H
theorem pss_consN {X:Cx} {st:Stmt} {rest:List Stmt} {t u:TS} (h1:PS X st t) (h2:PSs X rest u):PSs X (st::rest) (tSeqN t u) :=
 fun pins s σ H D I h=>pss_cons h1 h2 pins s σ H D I (h (u D) fun _ _ x=>x)
def ErrAt (h:Heap) (e D:Addr):Prop:=∃ o vs,h.get? e=some o∧o.cls=.ref D∧o.data=.fields vs
structure ErrCls (K:W.Frag) (D:Addr):Prop where
 is:(W.clsIn K D).isSome=true
 ga:W.findIn K (.ref D) "__getattribute__"=some (some (.builtin "BaseException.__getattribute__"))
 hk:W.findIn K (.ref D) "__getattr__"=some none
 cl:W.findIn K (.ref D) "__class__"=some (some (.builtin "object.__class__"))
 gt:W.specialIn K (.builtin "object.__class__") "__get__"=some (some (.builtin "getset_descriptor.__get__"))
 tk:W.takesIn K (.builtin "object.__class__")=some true
 ob:W.mroIn K D (.type "object")=some true
 bx:W.mroIn K D (.type "BaseException")=some true
theorem ErrAt.ty {M:Model} {h:Heap} {e D:Addr} (x:ErrAt h e D):W.Looks M h (typeOf (.ref e)) (.ref D):=by
 obtain ⟨o,vs,e1,c,d⟩:=x
 rw [←c]
 exact (W.Looks.ld e1).andThen .now
section
variable {prog:Program} {w:World} {A:Around} {E:Value→Shared→Prop} {s:Shared} {K:W.Frag} {e D:Addr}
open PySem.Builtin.ObjectAttr PySem.W in
theorem err_find (X:K.In s.heap) (C:ErrCls K D):Looks (model prog w) s.heap (find (.ref e) (.ref D) "__class__") (.bind (.builtin "getset_descriptor.__get__") (.builtin "object.__class__")):=by
 have a:=looks_findIn (M:=model prog w) X C.cl
 have b:Looks (model prog w) s.heap (getOf (some (.builtin "object.__class__"))) (some (.builtin "getset_descriptor.__get__")):=looks_specialIn X C.gt
 have c:=looks_takesIn (M:=model prog w) X C.tk
 have d:Looks (model prog w) s.heap (dataDescriptor? (some (.builtin "object.__class__")) (some (.builtin "getset_descriptor.__get__"))) (some (.builtin "getset_descriptor.__get__",.builtin "object.__class__")):=c.andThen .now
 exact a.andThen (b.andThen (d.andThen (Looks.tag .now)))
open PySem.W PySem.Builtin PySem.Builtin.ObjectAttr PySem.Builtin.Getset_descriptor in
theorem err_get {R:Result→Shared→Prop} {tp:Value} (X:K.In s.heap) (x:ErrAt s.heap e D) (C:ErrCls K D) (h:R (.ok (.ret (.ref D))) s) :
  codeAny (model prog w) A (.call (.builtin "getset_descriptor.__get__") ⟨[.builtin "object.__class__",.ref e,tp],[]⟩) R s:=by
 have t1:=x.ty (M:=model prog w)
 have t2:=looks_mroIn (M:=model prog w) X C.ob
 obtain ⟨hp,gs,dr,tk,os⟩:=s
 refine codeAny_call_builtin KF.slot_gs.plain KF.entry_gs (KF.slot_gs.check _ _ _ _ _ _ _ _ KF.type_class (KF.args_gs _ _ _) ?_)
 unfold Builtin.«getset_descriptor.__get__» descrGet
 rw [dga_obj]
 refine wpAny_bind (wpAny_pure ?_)
 unfold descrGetter descrCheckInstance descrNameAndClass isInstance
 simp only [KF.owner_class]
 repeat lk
 refine ⟨Code.quiet_builtin _ (by decide +kernel),codeAny_builtin KF.entry_class ?_⟩
 unfold Builtin.«object.__class__» shownTypeOf
 repeat lk
 exact h
open PySem.W PySem.Builtin PySem.Builtin.ObjectAttr in
theorem err_entry {Q:Fin→Shared→Prop} {tk:Tok} (X:K.In s.heap) (x:ErrAt s.heap e D) (C:ErrCls K D) (h:Q (.done (.ret (.ref D))) s) :
  wpAny (model prog w) A (Builtin.«object.__getattribute__» ⟨[.ref e,.str "__class__" tk],[]⟩) Q E s:=by
 have t1:=x.ty (M:=model prog w)
 have t4:=err_find (prog:=prog) (w:=w) (e:=e) X C
 have g:=err_get (prog:=prog) (w:=w) (tp:=.ref D) (A:=A) (R:=fun r s'=>r=.ok (.ret (.ref D))∧s'=s) X x C ⟨rfl,rfl⟩
 obtain ⟨hp,gs,dr,tt,os⟩:=s
 refine wpAny_bind (wpAny_pure (wpAny_bind (wpAny_pure (wpAny_bind (t1.at (wpAny_bind (t4.at ?_)))))))
 show wpAny _ _ (bindTo _ _ _ _) _ _ _
 unfold bindTo
 refine wpAny_bind (wpAny_holding (wpAny_call (codeAny_mono g fun r s' z=>?_)))
 obtain ⟨rfl,rfl⟩:=z
 exact wpAny_pure h
open PySem.W PySem.Builtin in
theorem err_check {M:Model} {Q:Unit→Shared→Prop} {nv:Value} (X:K.In s.heap) (x:ErrAt s.heap e D) (C:ErrCls K D) (h:Q () s) :
  wpAny M A (checkBuiltinCall "BaseException.__getattribute__" ⟨[.ref e,nv],[]⟩) Q E s:=by
 have t1:=x.ty (M:=M)
 have t5:=looks_mroIn (M:=M) X C.bx
 obtain ⟨hp,gs,dr,tt,os⟩:=s
 have k1:builtinKind "BaseException.__getattribute__"=some .slot:=by decide +kernel
 have k2:splitId "BaseException.__getattribute__"=some ("BaseException","__getattribute__"):=by decide +kernel
 have k3:=F.args_bexc_ga (.ref e) nv
 simp only [checkBuiltinCall,k1,k2]
 refine wpAny_bind ?_
 unfold isInstance
 refine wpAny_bind (t1.at (t5.at ?_))
 rw [if_neg (by decide)]
 repeat (first | assumption | wp_step)
open PySem.W in
theorem err_attr {Q:Option Value→Shared→Prop} (X:K.In s.heap) (x:ErrAt s.heap e D) (C:ErrCls K D) (h:Q (some (.ref D)) { s with toks:=s.toks+1 }) :
  wpAny (model prog w) A (getAttr? (.ref e) "__class__") Q E s:=by
 obtain ⟨hp,gs,dr,tk,os⟩:=s
 have t1:=x.ty (M:=model prog w)
 have t2:=looks_findIn (M:=model prog w) X C.ga
 have t3:=looks_findIn (M:=model prog w) X C.hk
 have nb:(Value.builtin "BaseException.__getattribute__" == Value.builtin "object.__getattribute__")=false:=by decide +kernel
 unfold getAttr? getAttrBy? getAttrBy
 refine wpAny_bind (wpAny_mkText (wpAny_bind (wpAny_attempt (wpAny_holding (wpAny_bind (t1.at (wpAny_bind (t2.at ?_))))))))
 dsimp only
 rw [nb,Bool.and_false,if_neg Bool.false_ne_true]
 unfold getAttrByItsOwn hookBefore
 rw [if_pos (show onTheHeap (Value.ref D)=true from rfl)]
 refine wpAny_bind (t3.at ?_)
 refine wpAny_bind (wpAny_attempt (wpAny_holding ?_))
 unfold callGetattribute
 rw [Bool.false_and,if_neg Bool.false_ne_true]
 unfold boundAndCalled
 refine wpAny_bind (wpAny_of_eq (F.attr_ValueError.ga.bind (.ref e)) ?_)
 refine wpAny_call (codeAny_call_builtin F.attr_ValueError.ga.plain F.entry_bexc_ga (err_check X x C ?_))
 refine err_entry X x C ?_
 exact wpAny_pure (wpAny_pure h)
theorem kitx_err (C:ErrCls K D):W.KitX K (.ref e) (.ref D) (fun h=>ErrAt h e D) where
 ty:=fun _ _ _ x=>x.ty
 it:=fun _ h X _=>by
  have q:=C.is
  unfold W.clsIn at q
  split at q
  · rename_i ho
    intro A' Q' E' s' k z
    unfold isType loadHead
    exact wpAny_bind (wpAny_loadPart (k _ _ (X _ _ ho)) (wpAny_pure z))
  · cases q
 ne:=fun h tp dd its n sl X htp=>by
  have q:=C.is
  refine Bool.eq_false_iff.mpr fun z=>?_
  obtain rfl:D=tp:=Value.ref.inj (beq_iff_eq.mp z)
  unfold W.clsIn at q
  split at q
  · rename_i ho
    have y:=(X _ _ ho).symm.trans htp
    cases y
  · cases q
 ca:=fun X x k=>err_attr X x C k
end
end LW
namespace LW
open PySem PySem.Spec PyProof.Rows L2
theorem obj_there {P:Program} {w:World} {H:Hp} {h:Heap} {a:Addr} {o:HO} (x:ObjOk P w H h a o):∃ u,h.get? a=some u:=by
 cases q:h.get? a with
 | some u=>exact ⟨u,rfl⟩
 | none =>
  exfalso
  cases o with
   | lst xs=>obtain ⟨_,_,_,_,e⟩:=x; rw [q] at e; cases e
   | tup xs=>obtain ⟨_,_,_,_,e,_⟩:=x; rw [q] at e; cases e
   | dK kvs=>obtain ⟨_,_,_,_,o,_,_,e,_⟩:=x; rw [q] at e; cases e
   | dT kvs=>obtain ⟨_,_,_,_,o,_,_,e,_⟩:=x; rw [q] at e; cases e
   | set S n=>obtain ⟨o,_,_,_,e,_⟩:=x; rw [q] at e; cases e
   | ins C dx fs=>obtain ⟨_,_,_,e,_⟩:=x; rw [q] at e; cases e
   | own y=>obtain ⟨_,e⟩:=x; rw [q] at e; cases e
   | xd fs=>obtain ⟨_,⟨_,_,_,e,_⟩,_⟩:=x; rw [q] at e; cases e
   | rng lo hi=>obtain ⟨_,_,_,e⟩:=x; rw [q] at e; cases e
   | frz ob u=>obtain ⟨e,_⟩:=x; rw [q] at e; cases e
   | tbl ps=>have e:h.get? a=some _:=x; rw [q] at e; cases e
   | met f y=>have e:h.get? a=some _:=x; rw [q] at e; cases e
   | ext φ=>obtain ⟨_,⟨_,e⟩,_⟩:=x; rw [q] at e; cases e
structure Flown (P:Program) (w:World) (outer:List Env) (H:Hp) (s:Shared) (B:Heap) (H':Hp) (s':Shared):Prop where
 os:s'.os=s.os
 bare:AllBare s'.gens
 kb:∀ b o,s.heap.get? b=some o→H b=none→b∉frs outer→B.get? b=some o
 tb:∀ b o,s.heap.get? b=some o→b∉frs outer→∃ o',B.get? b=some o'
 un:Un (frs outer) [] H H' s.heap s'.heap
 hok:HOk P w H' B
def CXR (P:Program) (w:World):CXT:=fun outer H s E v s'=>∃ e D a0 B H',v=.ref e∧Heap.FlyingW B outer e (.ref D) a0 s'.heap∧Flown P w outer H s B H' s'∧E (.ref D) none H'
theorem Flown.free {P:Program} {w:World} {outer:List Env} {H:Hp} {s:Shared} {e:Addr} {B:Heap} {H':Hp} {s':Shared} (F:Flown P w outer H s B H' s') (fe:B.get? e=none):H' e=none:=by
 cases q:H' e with
 | none=>rfl
 | some u =>
  obtain ⟨o,z⟩:=obj_there (F.hok e u q)
  rw [fe] at z; cases z
theorem Flown.un_of {P:Program} {w:World} {outer:List Env} {H:Hp} {s:Shared} {B base:Heap} {H':Hp} {s':Shared} (F:Flown P w outer H s B H' s') (fr:s.heap.FunFrames base outer) (ff:∀ b∈frs outer,H b=none) {h:Heap} (k:B.StaysIn h) (u:s'.heap.UpToSlots h) :
  Un (frs outer) [] H H' s.heap h where
 keep:=fun b o q n hb _=>k b o (F.kb b o q n hb)
 slot:=fun b o q n hb hx=>by
  obtain ⟨sl,z⟩:=F.un.slot b o q n hb hx
  obtain ⟨_,o',e1,d1⟩:=fr.mem hb
  rw [q] at e1; cases e1
  obtain ⟨sl',y⟩:=u b { o with slots:=sl } z d1
  exact ⟨sl',y⟩
 free:=F.un.free
 there:=fun b o q hx=>by
  by_cases hb:b∈frs outer
  · obtain ⟨_,o',e1,d1⟩:=fr.mem hb
    rw [q] at e1; cases e1
    obtain ⟨sl,z⟩:=F.un.slot b o q (ff b hb) hb hx
    obtain ⟨sl',y⟩:=u b { o with slots:=sl } z d1
    exact ⟨_,y⟩
  · obtain ⟨o',z⟩:=F.tb b o q hb
    exact ⟨o',k b o' z⟩
 tups:=F.un.tups
 frzs:=F.un.frzs
 tbls:=F.un.tbls
theorem Flown.on {P:Program} {w:World} {X:Cx} {pins:List (Addr×Obj)} {σ:L2.St} {H:Hp} {s:Shared} {B:Heap} {H':Hp} {s':Shared} {h:Heap} (I:Inv X pins σ H s) (hx:X.ex=[]) (hs:X.stack=X.env::X.outer)
  (F:Flown P w X.stack H s B H' s') (fl:B.StaysIn h) (u:s'.heap.UpToSlots h):Flown P w X.outer X.H₀ X.s₀ B H' { s' with heap:=h }:=by
 have U:=F.un_of I.stack I.stkFree fl u
 have nx:∀ b,b∉X.ex:=fun b z=>by rw [hx] at z; cases z
 have nst:∀ b o,X.s₀.heap.get? b=some o→b∉frs X.outer→b∉frs X.stack:=fun b o q hb z=>by
  rcases List.mem_cons.mp (I.stkSub b z) with z | z
  · exact absurd (Heap.lt_size q) (Nat.not_lt.mpr (z ▸ I.ok.above))
  · exact hb z
 have kb:∀ b o,X.s₀.heap.get? b=some o→X.H₀ b=none→b∉frs X.outer→B.get? b=some o:=fun b o q n hb =>
  F.kb b o (I.base.keep b o q n hb (nx b)) (I.base.free b o q n (nx b)) (nst b o q hb)
 have tb:∀ b o,X.s₀.heap.get? b=some o→b∉frs X.outer→∃ o',B.get? b=some o':=fun b o q hb=>by
  obtain ⟨o',z⟩:=I.base.there b o q (nx b)
  exact F.tb b o' z (nst b o q hb)
 refine ⟨F.os.trans I.os,F.bare,kb,tb,?_,F.hok⟩
 refine ⟨fun b o q n hb _=>fl b o (kb b o q n hb),fun b o q n hb _=>?_,fun b o q n _=>?_,fun b o q _=>?_,fun b xs q=>U.tups b xs (I.base.tups b xs q),fun b o xs q=>U.frzs b o xs (I.base.frzs b o xs q),fun b ps q=>?_⟩
 · obtain ⟨sl,z⟩:=I.base.slot b o q n hb (nx b)
   have z1:b∈frs X.stack:=by rw [hs]; unfold frs; rw [List.filterMap_cons]; split <;> first | exact hb | exact List.mem_cons_of_mem _ hb
   obtain ⟨sl',y⟩:=U.slot b _ z (I.base.free b o q n (nx b)) z1 (by simp)
   exact ⟨sl',y⟩
 · obtain ⟨o',z⟩:=I.base.there b o q (nx b)
   exact U.free b o' z (I.base.free b o q n (nx b)) (by simp)
 · obtain ⟨o',z⟩:=I.base.there b o q (nx b)
   exact U.there b o' z (by simp)
 · obtain ⟨m1,e1⟩:=I.base.tbls b ps q
   obtain ⟨m2,e2⟩:=U.tbls b _ e1
   exact ⟨m1 ++ m2,by rw [e2,Array.append_assoc]⟩
section
variable {P:Program} {w:World} {K:W.Frag} {mg:Str→Option Value} {base:Heap} {N:List Str} {qual:Str} {scope:Scope} {f:Addr} {cd:Value} {A:Around} {outer:List Env} {s₀:Shared} {H₀:Hp} {E:XK}
theorem passR:Passes (CXR P w) (cxOf (CXR P w) P w K mg base N qual scope f cd A outer s₀ H₀ E) E:=by
 intro pins σ H s v s' I ⟨e,D,a0,B,H',hv,ff,F,q⟩
 subst hv
 have fr:(cxOf (CXR P w) P w K mg base N qual scope f cd A outer s₀ H₀ E).A.frames=some (envOfC qual scope s₀.heap.objs.size f cd::outer):=I.ok.frames
 refine wpAny_leaves_onW fr rfl ff fun h fl u=>?_
 exact ⟨e,D,a0,B,H',rfl,fl,F.on I rfl rfl fl.1 u,q⟩
theorem raiseR {pins:List (Addr×Obj)} {σ:L2.St} {H:Hp} {s:Shared} {e D:Addr} {vs:List Value} {h':Heap} (I:Inv (cxOf (CXR P w) P w K mg base N qual scope f cd A outer s₀ H₀ E) pins σ H s) (x:Heap.MadeExcOf s.heap h' e (.ref D) vs) (q:E (.ref D) none H) :
  (cxOf (CXR P w) P w K mg base N qual scope f cd A outer s₀ H₀ E).xe (.ref e) { s with heap:=h' }:=by
 have fr:(cxOf (CXR P w) P w K mg base N qual scope f cd A outer s₀ H₀ E).A.frames=some (envOfC qual scope s₀.heap.objs.size f cd::outer):=I.ok.frames
 let B:=W.hideAll s.heap (frs (envOfC qual scope s₀.heap.objs.size f cd::outer))
 have kB:B.StaysIn s.heap:=fun b o z=>W.of_hideAll _ z
 have fB:s.heap.FunFrames B (envOfC qual scope s₀.heap.objs.size f cd::outer):=W.funFrames_hide I.stack fun en he a ha=>List.mem_filterMap.mpr ⟨en,he,ha⟩
 refine wpAny_leaves_madeW (base:=B) (h:=s.heap) fr rfl kB fB x fun h'' t fl _ _ u=>?_
 have F:Flown P w (envOfC qual scope s₀.heap.objs.size f cd::outer) H s B H { s with heap:=h' }:={
  os:=rfl
  bare:=I.bare
  kb:=fun b o z _ hb=>W.hideAll_get _ z hb
  tb:=fun b o z hb=>⟨o,W.hideAll_get _ z hb⟩
  un:=Un.kept x.keeps
  hok:=fun b o z=>(I.hok b o z).stay (fun c v hc r=>W.hideAll_get _ r fun y=>by
   have n:=I.stkFree c y
   rcases hc with rfl | hc
   · rw [z] at n; cases n
   · rw [hc] at n; cases n) (fun _ y=>y) fun _ _ y=>y }
 exact ⟨e,D,.ref t,B,H,rfl,fl,F.on I rfl rfl fl.1 u,q⟩
end
abbrev vMro:List Value:=[.type "ValueError",.type "Exception",.type "BaseException",.type "object"]
def ExcObj (h:Heap) (C:Addr):Prop:=∃ bm N nm q bs hdct sn sub ab col dd k0 k1 k2 k3 k5 mN,h.get? C=some (excClassObj nm q C N bs bm hdct sn sub ab col dd k0 k1 k2 k3 k5 "ValueError.__new__")∧h.Ns N mN∧mN "__init__"=none∧OwnTail h vMro bm
theorem exc_obj {K:W.Frag} {h:Heap} {C:Addr} (X:K.In h) (q:W.excIn K C vMro "ValueError.__new__"=true):ExcObj h C:=by
 unfold W.excIn at q
 split at q
 · next dd cd sl ho =>
   split at q
   · next C' bm k0 k1 k2 k3 n k5 hm hs =>
     simp only [Bool.and_eq_true,beq_iff_eq,Bool.not_eq_true'] at q
     obtain ⟨⟨⟨⟨⟨e1,e2⟩,e3⟩,e4⟩,e5⟩,e6⟩:=q
     subst e1 e2
     cases cd with | mk nm bs mro ns qn hd sn sub ab col del=>?_
     dsimp only at hm e3 e5 e6
     subst hm e3
     cases sl with | mk l=>?_
     dsimp only at hs
     subst hs
     exact ⟨bm,ns,nm,qn,bs,hd,sn,sub,ab,col,dd,k0,k1,k2,k3,k5,_,X _ _ ho,.of_isNs (W.isNs_of_in X e5),W.nsMap_none_of_in X e5 e6,W.tail_of_in X e4⟩
   · cases q
 · cases q
def tRaise (C:Addr) (E:XK) (t:TA):TS:=fun _ σ H=>t σ H fun vs H1=>vs.length≤sizeLine∧E (.ref C) none H1
section
variable {P:Program} {w:World} {K:W.Frag} {mg:Str→Option Value} {base:Heap} {N:List Str} {qual:Str} {scope:Scope} {f:Addr} {cd:Value} {A:Around} {outer:List Env} {s₀:Shared} {H₀:Hp} {E:XK}
abbrev cxR (P:Program) (w:World) (K:W.Frag) (mg:Str→Option Value) (base:Heap) (N:List Str) (qual:Str) (scope:Scope) (f:Addr) (cd:Value) (A:Around) (outer:List Env) (s₀:Shared) (H₀:Hp) (E:XK):Cx :=
 cxOf (CXR P w) P w K mg base N qual scope f cd A outer s₀ H₀ E
theorem ps_raise {x:Str} {np cp pos:Pos} {C:Addr} {e₀:Expr} {es:List Expr} {t:TA} (q:W.excIn K C vMro "ValueError.__new__"=true) (hg:Gl (cxR P w K mg base N qual scope f cd A outer s₀ H₀ E) x) (hm:mg x=some (.ref C))
  (ha:PA (cxR P w K mg base N qual scope f cd A outer s₀ H₀ E) (e₀::es) t) (hdb:(x == ("__debug__":Str))=false:=by decide)
  (he:starEach (e₀::es) (cxR P w K mg base N qual scope f cd A outer s₀ H₀ E).env=(false,eval e₀ (cxR P w K mg base N qual scope f cd A outer s₀ H₀ E).env)::starEach es (cxR P w K mg base N qual scope f cd A outer s₀ H₀ E).env:=by rfl)
  (hpl:(backTo cp (starEach es (cxR P w K mg base N qual scope f cd A outer s₀ H₀ E).env)).any (·.1)=false:=by rfl) :
  PS (cxR P w K mg base N qual scope f cd A outer s₀ H₀ E) (.Raise (some (.Call (.Name x np) (e₀::es) [] cp)) none pos) (tRaise C E t):=by
 intro pins s σ H D I h
 obtain ⟨bm,ns,nm,qn,bs,hd,sn,sub,ab,col,dd,k0,k1,k2,k3,k5,mN,c1,c2,c3,c4⟩:=exc_obj I.ok.mod.kin q
 have hpl':(backTo cp (starEach (e₀::es) (cxR P w K mg base N qual scope f cd A outer s₀ H₀ E).env)).any (·.1)=false:=by
  rw [he]
  exact hpl
 refine wpAny_Raise_call_subT F.excBase_ValueError (C:=C) (nm:=nm) (q:=qn) (N:=ns) (bs:=bs) (bm:=bm) (hdct:=hd) (sn:=sn) (sub:=sub) (ab:=ab) (col:=col) (dd:=dd) (k0:=k0) (k1:=k1) (k2:=k2) (k3:=k3) (k5:=k5) (mN:=mN) (c4.hasType F.excBase_ValueError.hasBase) (I.ok.hd rfl) hpl' c3 (ld_glob I hg hm ⟨rfl,?_⟩ hdb)
 have h2:=ha cp pins s σ H _ I h
 rw [he] at h2 ⊢
 exact Calls.evalArgs_plain (wpAny_mono h2 (fun us s2 ⟨vs,H1,I1,r,hl,z⟩=>⟨rfl,by rw [←r.length]; exact hl,I1.bk _ _ c1,c2.keeps I1.bk,c4.keeps I1.bk,fun h' e m=>raiseR I1 m z⟩) fun _ _ y=>y)
theorem Fun.okR {x qual:Str} {st:Stmt} {f:Addr} {fd:FuncData} {N ps:List Str} {k:Nat} {sp:Sp} (F:Fun K x qual st f fd) (S:FnScope N ps (defScope st)) (len:∀ vs H Q E,sp vs H Q E→vs.length=ps.length)
  (hbody:∀ (cdv:Value) (A:Around) (outer:List Env) (s:Shared) (H:Hp) (vs:List V) (Q:VK) (E:XK),Room k (A.deeper (envOfC qual (defScope st) s.heap.objs.size f cdv))→sp vs H Q E →
   ∃ t,PSs (cxR P w K mg base N qual (defScope st) f cdv A outer s H E) (defBody st) t∧t { nx:=fun _ H'=>Q .non H',rt:=Q } (start N vs) H):FnOk P w K mg base (CXR P w) (k+1) f fd ps sp:=by
 obtain ⟨oc,od,kV,doc,pm,an,cdv,ct,osl,rfl,lk,hcd⟩:=F.ex
 exact fn_of lk hcd S len fun A outer s H vs Q E hr hsp=>hbody cdv A outer s H vs Q E hr hsp
end
abbrev hot (X:Cx) (e:Addr):Cx:={ X with A:=X.A.mark (some (.ref e)),calm:=false,xe:=fun _ _=>False }
theorem hot_inv {X:Cx} {pins:List (Addr×Obj)} {σ:L2.St} {H:Hp} {s:Shared} (I:Inv X pins σ H s) (e:Addr):Inv (hot X e) pins σ H s :=
 ⟨⟨I.ok.mod,I.ok.kind,I.ok.glob,I.ok.blt,I.ok.above,I.ok.inj,I.ok.has,I.ok.cab,(fun z=>by cases z),I.ok.frames,I.ok.stk,I.ok.exf,I.ok.bs,I.ok.bsz,I.ok.noex,I.ok.exfs,I.ok.funs,I.ok.frf⟩,I.os,I.bare,I.base,I.loc,I.cell,I.free,I.freeC,I.pin,I.hok,I.len⟩
theorem of_hot {X:Cx} {pins:List (Addr×Obj)} {σ:L2.St} {H:Hp} {s:Shared} {e:Addr} (c:X.Ok) (I:Inv (hot X e) pins σ H s):Inv X pins σ H s :=
 ⟨c,I.os,I.bare,I.base,I.loc,I.cell,I.free,I.freeC,I.pin,I.hok,I.len⟩
abbrev tryC (X:Cx) (E:Value→Shared→Prop) (pn:List (Addr×Obj)):Cx:={ X with xe:=E,pn:=pn }
theorem name_goes {X:Cx} {pins:List (Addr×Obj)} {σ:L2.St} {H:Hp} {s:Shared} {M:Model} {A:Around} {E:Value→Shared→Prop} {i:Nat} {n:Str} {pos:Pos} {Q:Unit→Shared→Prop} (I:Inv X pins σ H s) (hN:X.N.Nodup) (hi:X.N[i]? = some n) (hk:X.env.kindOf n=some .local)
  (h:∀ s',Inv X pins (σ.set i none) H s'→Q () s'):wpAny M A (do bindName X.env n .none; unbindBehindTheSuite X.env n pos) Q E s:=by
 have hcls:(X.env.scope.kind == .class || (X.env.scope.kind == .module && X.env.locals != X.env.globals))=false:=by rw [I.ok.kind]; rfl
 refine wpAny_bind (wpAny_bindName (store_ok (v:=.non) I hN hi (.inl hk) rfl (fun s1 I1=>?_) (.inr hk)))
 obtain ⟨m,hn,hl⟩:=id I1.loc
 unfold unbindBehindTheSuite
 refine wpAny_onRaise ?_
 unfold unbindName
 refine wpAny_bind (wpAny_point (wpAny_bind ?_))
 unfold deleteName
 simp only [hk,hcls]
 rw [if_neg (by decide)]
 refine wpAny_bind (wpAny_nsDel_keeps hn fun h2 v hn2 hs2=>?_)
 have hm:(m n).isSome=true:=by
  obtain ⟨u,_,l⟩:=hl i n .non hi (by rw [List.getElem?_set_self (by rw [I.len]; exact (List.getElem?_eq_some_iff.mp hi).1)]) (.inl hk)
  rcases l with ⟨_,l⟩ | ⟨k,_⟩
  · rw [l]; rfl
  · rw [hk] at k; rcases k with k | k <;> cases k
 simp only [hm,Bool.not_true,Bool.false_eq_true,if_false]
 refine wpAny_pure (wpAny_point (h _ ?_))
 have low:∀ b o,X.s₀.heap.get? b=some o→b≠X.env.locals:=fun b o z=>Nat.ne_of_lt (Nat.lt_of_lt_of_le (Heap.lt_size z) I.ok.above)
 have keptL:∀ b o,b≠X.env.locals→s1.heap.get? b=some o→h2.get? b=some o:=fun b o hb z=>(hs2.2 b hb).trans z
 refine ⟨I1.ok,I1.os,I1.bare,⟨fun b o z k hb hx=>keptL b o (low b o z) (I1.base.keep b o z k hb hx),fun b o z k hb hx=>?_,I1.base.free,fun b o z hx=>?_,I1.base.tups,I1.base.frzs,I1.base.tbls⟩,⟨_,hn2,fun j y u z1 z2 z3=>?_⟩,fun y c z=>?_,I1.free,I1.freeC,fun p hp=>?_,fun b u z=>?_,?_⟩
 · obtain ⟨sl,y⟩:=I1.base.slot b o z k hb hx
   exact ⟨sl,keptL b _ (low b o z) y⟩
 · obtain ⟨o',y⟩:=I1.base.there b o z hx
   exact ⟨o',keptL b _ (low b o z) y⟩
 · have hj:j≠i:=by
    rintro rfl
    rw [List.getElem?_set_self (by rw [I.len]; exact (List.getElem?_eq_some_iff.mp hi).1)] at z2
    cases z2
   rw [List.getElem?_set_ne (Ne.symm hj)] at z2
   obtain ⟨u',r',l⟩:=hl j y u z1 (by rw [List.getElem?_set_ne (Ne.symm hj)]; exact z2) z3
   refine ⟨u',r',?_⟩
   rcases l with ⟨k,l⟩ | ⟨k,c,l,l2⟩
   · have hy:y≠n:=fun z=>hj (nodup_ix hN z1 (z ▸ hi))
     exact .inl ⟨k,by simp [hy,l]⟩
   · exact .inr ⟨k,c,l,l2.sameBut hs2 (I1.cne y c l)⟩
 · obtain ⟨u,l⟩:=I1.cell y c z
   exact ⟨u,l.sameBut hs2 (I1.cne y c z)⟩
 · obtain ⟨a1,a2,a3,a4,a5⟩:=I1.pin p hp
   exact ⟨keptL _ _ a3 a1,a2,a3,a4,a5⟩
 · refine (I1.hok b u z).stay (fun c o hc l=>keptL c o ?_ l) (fun _ y=>y) fun _ _ y=>y
   rintro rfl
   have fr:=I1.free
   rcases hc with hc | hc
   · rw [hc,z] at fr; cases fr
   · rw [hc] at fr; cases fr
 · rw [List.length_set]; exact I.len
def tTry (i:Nat) (tb:TS) (EW:XK) (th:Addr→TS):TS:=fun D σ H=>tb D σ H ∧
 ∀ (σ':L2.St) (H':Hp) (C e:Addr),σ'.length=σ.length→EW (.ref C) none H'→H' e=none →
  th e { nx:=fun σ2 H2=>D.nx (σ2.set i none) H2,rt:=D.rt,bk:=fun σ2 H2=>D.bk (σ2.set i none) H2,ct:=fun σ2 H2=>D.ct (σ2.set i none) H2 } (σ'.set i (some (.ref e))) (upd H' e (.ext fun h=>ErrAt h e C))
theorem ps_try {X:Cx} {body:List Stmt} {b₀:Stmt} {suite:List Stmt} {x n:Str} {np hp pos:Pos} {i:Nat} {CL:Addr} {EW:XK} {tb:TS} {th:Addr→TS} (hst:X.stack=X.env::X.outer) (hfr:X.env.frame=some X.env.locals) (nd:X.N.Nodup) (hi:X.N[i]? = some n)
  (hk:X.env.kindOf n=some .local) (hg:Gl X x) (hm:X.mg x=some (.ref CL)) (hE:∀ C o H',EW C o H'→W.exmOne X.K C (.ref CL)=some true)
  (hb:∀ E pn,Passes (CXR X.prog X.w) (tryC X E pn) EW→PSs (tryC X E pn) body tb) (hs:∀ e,PSs (hot X e) (b₀::suite) (th e)) (hdb:(x == ("__debug__":Str))=false:=by decide) :
  PS X (.Try body [.ExceptHandler (some (.Name x np)) (some n) (b₀::suite) hp] [] [] pos) (tTry i tb EW th):=by
 intro pins s σ H D I ⟨h1,h2⟩
 refine wpAny_Try_except ?_
 have toX:∀ {E:Value→Shared→Prop} {pins2:List (Addr×Obj)} {σ2:L2.St} {H2:Hp} {s2:Shared},Inv (tryC X E (X.pn ++ pins)) pins2 σ2 H2 s2→Inv X pins σ2 H2 s2:=fun J =>
  ⟨I.ok,J.os,J.bare,J.base,J.loc,J.cell,J.free,J.freeC,fun p z=>J.pin p (List.mem_append_left _ z),J.hok,J.len⟩
 have I1:∀ E,Inv (tryC X E (X.pn ++ pins)) [] σ H s:=fun E =>
  ⟨⟨I.ok.mod,I.ok.kind,I.ok.glob,I.ok.blt,I.ok.above,I.ok.inj,I.ok.has,I.ok.cab,I.ok.hd,I.ok.frames,I.ok.stk,I.ok.exf,I.ok.bs,I.ok.bsz,I.ok.noex,I.ok.exfs,I.ok.funs,I.ok.frf⟩,I.os,I.bare,I.base,I.loc,I.cell,I.free,I.freeC,fun p z=>I.pin p (by simpa using z),I.hok,I.len⟩
 refine wpAny_mono (hb (fun v s1=>wpAny (model X.prog X.w) X.A (noteFrame v X.env) (fun _ s₂=>wpAny (model X.prog X.w) X.A (setFlight v none) (fun _ s₃ =>
  wpAny (model X.prog X.w) X.A (handleBy v X.env [.ExceptHandler (some (.Name x np)) (some n) (b₀::suite) hp]) (SP X pins D) X.xe s₃) X.xe s₂) X.xe s1) (X.pn ++ pins) ?_ [] s σ H D (I1 _) h1) (fun fl s1 q=>?_) (fun v s1 q=>q)
 · intro pins2 σ2 H2 s2 v s2' J2 ⟨e,C,a0,B,H',hv,ff,F,q⟩
   subst hv
   have J:=toX J2
   have fr:X.A.frames=some (X.env::X.outer):=I.ok.frames.trans (by rw [hst])
   have F':Flown X.prog X.w X.stack H2 s2 B H' s2':=F
   have ff':Heap.FlyingW B (X.env::X.outer) e (.ref C) a0 s2'.heap:=hst ▸ ff
   have fe:=F'.free ff.2.1
   refine wpAny_looks_onW fr hfr ff' fun h4 hh u4=>?_
   refine wpAny_landsW hh fun h5 fl5 u5=>?_
   have hokAt:∀ h,B.StaysIn h→HOk X.prog X.w H' h:=fun h k b u z=>(F'.hok b u z).stay (fun c o _ l=>k c o l) (fun _ y=>y) fun _ _ y=>y
   have K5:Inv X pins σ2 H' { s2' with heap:=h5 }:=J.call' F'.os (F'.un_of J.stack J.stkFree fl5.1 (u4.trans u5)) (hokAt _ fl5.1) F'.bare (fun b z=>by cases z)
   have er5:ErrAt h5 e C:=by
    obtain ⟨oe,vs,z1,z2,z3,_⟩:=fl5.first
    exact ⟨oe,vs,z1,z2,z3⟩
   refine wpAny_handleBy_cons (codeAny_handlers_test (ld_glob (hot_inv K5 e) hg hm ?_ hdb)) (by intro q; cases q)
   refine W.exm_one K5.kIn er5.ty (hE _ _ _ q) _ _ _ _ (fun _ _ z=>z) ?_
   refine codeAny_handlers_suite_as ?_
   refine lands_againW fl5 fun h6 fl6 u6=>?_
   have er6:ErrAt h6 e C:=by
    obtain ⟨oe,vs,z1,z2,z3,_⟩:=fl6.first
    exact ⟨oe,vs,z1,z2,z3⟩
   have U6:=F'.un_of J.stack J.stkFree fl6.1 ((u4.trans u5).trans u6)
   have new:s2.heap.get? e=none:=by
    cases z:s2.heap.get? e with
    | none=>rfl
    | some o =>
     by_cases y:e∈frs X.stack
     · obtain ⟨_,oe,b1,b2⟩:=J.stack.mem y
       obtain ⟨sl,b3⟩:=U6.slot e oe b1 (J.stkFree e y) y (by simp)
       obtain ⟨oe',vs,z1,z2,z3⟩:=er6
       rw [b3] at z1
       cases z1
       exact absurd z3 (b2 vs)
     · obtain ⟨o',b1⟩:=F'.tb e o z y
       rw [ff.2.1] at b1; cases b1
   have neE:∀ b u,H' b=some u→b≠e:=fun b u z y=>by rw [y,fe] at z; cases z
   have K6:Inv X pins σ2 (upd H' e (.ext fun h=>ErrAt h e C)) { s2' with heap:=h6 }:=by
    refine J.call' F'.os ⟨U6.keep,U6.slot,fun b o z k hx=>?_,U6.there,fun b xs z=>?_,fun b o u z=>?_,fun b ps z=>?_⟩ (fun b u z=>?_) F'.bare (fun b z=>by cases z)
    · rw [upd_ne (fun y=>by rw [y,new] at z; cases z)]
      exact U6.free b o z k hx
    · have y:=U6.tups b xs z
      rw [upd_ne (neE b _ y)]; exact y
    · have y:=U6.frzs b o u z
      rw [upd_ne (neE b _ y)]; exact y
    · obtain ⟨m,y⟩:=U6.tbls b ps z
      exact ⟨m,by rw [upd_ne (neE b _ y)]; exact y⟩
    · by_cases y:b=e
      · subst y
        rw [upd_same] at z
        cases z
        obtain ⟨o,vs,z1,z2,z3⟩:=id er6
        refine ⟨er6,⟨o,z1⟩,fun g1 g2 a l=>?_⟩
        obtain ⟨o',vs',y1,y2,y3⟩:=a
        exact ⟨o',vs',l o' y1,y2,y3⟩
      · rw [upd_ne y] at z
        exact (hokAt _ fl6.1 b u z).stay (fun _ _ _ l=>l) (fun c l=>by rw [upd_ne (neE c _ l)]; exact l) fun c xs l=>by rw [upd_ne (neE c _ l)]; exact l
   have K7:=hot_inv K6 e
   refine store_ok (X:=hot X e) K7 nd hi (.inl hk) (v:=.ref e) rfl (fun s8 K8=>?_) (.inr hk)
   refine wpAny_mono (hs e pins s8 _ _ _ K8 (h2 σ2 H' C e ?_ q fe)) (fun fl s9 z=>?_) (fun _ _ z=>z.elim)
   · rw [J.len,I.len]
   · cases fl with
     | next=>obtain ⟨σ9,H9,K9,y⟩:=z; exact name_goes (of_hot I.ok K9) nd hi hk fun s10 K10=>⟨_,H9,K10,y⟩
     | brk=>obtain ⟨σ9,H9,K9,y⟩:=z; exact name_goes (of_hot I.ok K9) nd hi hk fun s10 K10=>⟨_,H9,K10,y⟩
     | cont=>obtain ⟨σ9,H9,K9,y⟩:=z; exact name_goes (of_hot I.ok K9) nd hi hk fun s10 K10=>⟨_,H9,K10,y⟩
     | ret u=>obtain ⟨v,σ9,H9,K9,r,y⟩:=z; exact name_goes (of_hot I.ok K9) nd hi hk fun s10 K10=>⟨v,_,H9,K10,r,y⟩
 · cases fl with
   | next=>obtain ⟨σ',H',J,z⟩:=q; exact wpAny_execs_nil ⟨σ',H',toX J,z⟩
   | brk=>obtain ⟨σ',H',J,z⟩:=q; exact ⟨σ',H',toX J,z⟩
   | cont=>obtain ⟨σ',H',J,z⟩:=q; exact ⟨σ',H',toX J,z⟩
   | ret u=>obtain ⟨v,σ',H',J,r,z⟩:=q; exact ⟨v,σ',H',toX J,r,z⟩
end LW
namespace LW
open PySem PySem.Spec PyProof.Rows L2 PySem.Builtin.Str
section
variable {X:Cx}
theorem call_isErr {K:W.Frag} (hK:X.K=K):CallR X (.builtin "isinstance") (fun xs H Q=>∃ e D C b,xs=[.ref e,.ref C]∧H e=some (.ext fun h=>ErrAt h e D)∧ErrCls K D∧W.kitOne K (.ref D) (.ref C)=some b∧Q (.bl b) H):=by
 intro pins s σ H xs us Q I r h
 obtain ⟨e,D,C,b,rfl,he,ec,k,q⟩:=h
 obtain ⟨u,w',rfl,rx,rt⟩:=vals2 r
 cases rx
 cases rt
 exact W.kia_one (kitx_err ec) (hK ▸ I.kIn) (I.hok e _ he).1 k (by intro z; cases z) fun tk=>⟨.bl b,H,I.tok _,rfl,q⟩
theorem call_isErrT {K:W.Frag} (hK:X.K=K):CallR X (.builtin "isinstance") (fun xs H Q=>∃ e D T b,xs=[.ref e,.ty T]∧H e=some (.ext fun h=>ErrAt h e D)∧ErrCls K D∧W.kitOne K (.ref D) (.type T)=some b∧Q (.bl b) H):=by
 intro pins s σ H xs us Q I r h
 obtain ⟨e,D,T,b,rfl,he,ec,k,q⟩:=h
 obtain ⟨u,w',rfl,rx,rt⟩:=vals2 r
 cases rx
 cases rt
 exact W.kia_one (kitx_err ec) (hK ▸ I.kIn) (I.hok e _ he).1 k (by intro z; cases z) fun tk=>⟨.bl b,H,I.tok _,rfl,q⟩
end
end LW
namespace LW
open PySem PySem.Spec PyProof.Rows L2
section
variable {X:Cx}
end
def HasR (P:Program) (w:World) (K:W.Frag) (mg:Str→Option Value) (base:Heap) (x:Str) (k:Nat) (ps:List Str) (sp:Sp):Prop :=
 ∃ f fd,FnOk P w K mg base (CXR P w) k f fd ps sp∧Binds K fd ps []∧W.keepIn K (.ref f)=true∧mg x=some (.ref f)
section
variable {X:Cx} {x:Str} {k:Nat} {ps:List Str} {sp:Sp} {p pos:Pos} {e:Expr} {es:List Expr} {t:TA} {E:XK}
theorem pe_hasR (G:HasR X.prog X.w X.K X.mg X.base x k ps sp) (hr:Room k X.A) (hg:Gl X x) (hx:Passes (CXR X.prog X.w) X E) (ha:PA X (e::es) t) (hdb:(x == ("__debug__":Str))=false:=by decide)
  (he:starEach (e::es) X.env=(false,eval e X.env)::starEach es X.env:=by rfl) (hpl:(backTo pos (starEach es X.env)).any (·.1)=false:=by rfl) :
  PE X (.Call (.Name x p) (e::es) [] pos) (tCall sp [] E t):=by
 obtain ⟨f,fd,F,B,kp,m⟩:=G
 exact pe_call F hr hg m kp B .nil hx ha hdb he hpl
def tDead (t:TS):TS:=fun D σ H=>t { nx:=fun _ _=>False,rt:=D.rt,bk:=D.bk,ct:=D.ct } σ H
theorem pss_dead {st:Stmt} {rest:List Stmt} {t:TS} (h:PS X st t):PSs X (st::rest) (tDead t):=by
 intro pins s σ H D I z
 refine pss_cons h (fun pins s σ H D I w=>False.elim w:PSs X rest fun _ _ _=>False) pins s σ H D I ?_
 exact z
end
end LW
namespace LW
open PySem PySem.Spec PyProof.Rows L2 PySem.Builtin.Int
def nl:Str:="\n"
def joinNl (bs:List Str):Str:=Txt.join "" (bs.map fun b=>b ++ nl)
def spShown (K:W.Frag):Sp:=fun vs H Q _=>∃ (p:Addr) (bs:List Str),vs=[.ref p]∧SqL K H p (bs.map V.str)∧Good bs∧∀ H',Same H H'→Q (.str (joinNl bs)) H'
theorem exm_of {K:W.Frag} {C L:Addr} (a:W.subIn K (.ref L) (.type "BaseException")=some true) (b:W.kitOne K (.ref C) (.ref L)=some true) (c:Nat.beq C L=false):W.exmOne K (.ref C) (.ref L)=some true:=by
 have n:¬ ((Value.ref C == Value.ref L)=true):=fun z=>by
  have e:C=L:=Value.ref.inj (beq_iff_eq.mp z)
  rw [e,Nat.beq_refl] at c
  cases c
 unfold W.kitOne at b
 rw [if_neg n] at b
 unfold W.exmOne
 rw [a,if_pos (by rfl)]
 exact b
theorem exc_is {K:W.Frag} {C:Addr} (q:W.excIn K C vMro "ValueError.__new__"=true):(W.clsIn K C).isSome=true:=by
 unfold W.excIn at q
 split at q
 · next ho =>
   unfold W.clsIn
   rw [ho]
   rfl
 · cases q
end LW
namespace LW
open PySem PySem.Spec PyProof.Rows L2 PySem.Builtin.Str
theorem str_at {z:Str} {n:Nat} (hz:z.cps.toList.length=n) {i:Int} (h0:0≤i) (h1:i < (n:Int)):∃ c,atI z.cps.toList i=some c:=by
 unfold atI
 rw [hz,ixN_nat h0 h1]
 exact ⟨_,List.getElem?_eq_getElem (by rw [hz]; omega)⟩
theorem sl_to (x:Str) {i:Int} (h:0≤i):(Txt.slice x none (some i)).length≤x.length:=by
 obtain ⟨n,rfl⟩:=Int.eq_ofNat_of_zero_le h
 rw [slice_to_len]
 exact Nat.min_le_right _ _
theorem sl_from (x:Str) {i:Int} (h:0≤i):(Txt.slice x (some i) none).length≤x.length:=by
 obtain ⟨n,rfl⟩:=Int.eq_ofNat_of_zero_le h
 rw [slice_from_len]
 exact Nat.sub_le _ _
end LW
namespace LW
open PySem PySem.Spec PyProof.Rows L2
section
variable {X:Cx}
theorem pe_f3 {x a b:Str} {n:Int} {tk:Tok} {j1 j2:Nat} {p1 p2 p3 p4 p5:Pos} (hg:Gl X x) (hm:X.mg x=some (.int n tk)) (hn:n.natAbs.log2 < 1920)
  (h1:(Str.empty ++ a).length≤sizeLine) (h2:(Str.empty ++ a ++ (toString n:String)).length≤sizeLine) (h3:(Str.empty ++ a ++ (toString n:String) ++ b).length≤sizeLine) (hd:(x == ("__debug__":Str))=false:=by decide) :
  PE X (.JoinedStr [.Constant (.str a) j1 p1,.FormattedValue (.Name x p2) (-1) none p3,.Constant (.str b) j2 p4] p5) (fun _ H Q=>∀ y:Str,Q (.str y) H):=by
 intro pins s σ H Q I h
 refine JoinedStr_many (joinParts_cons (Calls.Constant_str ⟨h1,joinParts_cons (FormattedValue_plain (ld_glob (I.tok _) hg hm (formatField_int_small hn ⟨h2,joinParts_cons (Calls.Constant_str ⟨h3,joinParts_nil ⟨.str _,H,?_,⟨_,rfl⟩,h _⟩ h3⟩)⟩) hd))⟩))
 exact (((I.tok _).tok _).tok _).tok _
theorem op_neF {K:W.Frag} (hK:X.K=K) (hu:X.A.units+8 < cLine):OpR X (compareOp .NotEq) (fun x y H Q=>∃ (a b:Addr) (xs:List V),x=.ref a∧y=.ref b∧SqL K H a xs∧SqL K H b xs∧(∀ v∈xs,flatV v=true)∧(List.range xs.length).all (eAt xs xs)=true∧Q (.bl false) H):=by
 subst hK
 intro pins s σ H x y v u Q I rx ry h
 obtain ⟨a,b,xs,rfl,rfl,ha,hb,fx,al,q⟩:=h
 cases rx; cases ry
 obtain ⟨its,rv,pl,hz⟩:=I.list ha
 obtain ⟨its',rv',pl',hz'⟩:=I.list hb
 have l1:=rv.length
 have l2:=rv'.length
 obtain ⟨⟨cls,dd,data,sl⟩,ho,hc,n,hd⟩:=pl.isList
 obtain ⟨⟨cls2,dd2,data2,sl2⟩,ho2,hc2,n2,hd2⟩:=pl'.isList
 simp only at hc hd hc2 hd2
 subst hc hd hc2 hd2
 have he:∀ j (h1:j < its.toArray.size) (h2:j < its'.toArray.size),SeqAt.EqAt X.A.in1 s its.toArray[j] its'.toArray[j] (eAt xs xs j):=fun j h1 h2=>by
  obtain ⟨x,ex,rx⟩:=valsA rv h1
  obtain ⟨y,ey,ry⟩:=valsA rv' h2
  have e:eAt xs xs j=eqV x y:=by unfold eAt; rw [ex]; rw [ex] at ey; cases ey; rfl
  rw [e]
  exact eqAt_V rx ry (fx x (List.mem_of_getElem? ex)) (fx y (List.mem_of_getElem? ey))
 refine richCompare_meets_room (op:=.NotEq) ⟨_,ho,rfl⟩ ⟨_,ho2,rfl⟩ F.slot_list_ne F.entry_list_ne (F.args_list_ne_2 _ _) (SeqAt.list_neAt a b its.toArray its'.toArray n n2 dd dd2 sl sl2 (by simp only [List.size_toArray]; omega) _) ⟨ho,ho2,he,?_⟩ (by omega)
 rw [List.size_toArray,←l1,al]
 exact ⟨(fun x=>nomatch x),⟨.bl _,H,I,rfl,q⟩⟩
theorem op_eqF {K:W.Frag} (hK:X.K=K) (hu:X.A.units+8 < cLine):OpR X (compareOp .Eq) (fun x y H Q=>∃ (a b:Addr) (xs:List V),x=.ref a∧y=.ref b∧SqL K H a xs∧SqL K H b xs∧(∀ v∈xs,flatV v=true)∧(List.range xs.length).all (eAt xs xs)=true∧Q (.bl true) H):=by
 subst hK
 intro pins s σ H x y v u Q I rx ry h
 obtain ⟨a,b,xs,rfl,rfl,ha,hb,fx,al,q⟩:=h
 cases rx; cases ry
 obtain ⟨its,rv,pl,hz⟩:=I.list ha
 obtain ⟨its',rv',pl',hz'⟩:=I.list hb
 have l1:=rv.length
 have l2:=rv'.length
 have q':=SeqAt.RcAt.lists (A:=X.A) (s:=s) (e:=eAt xs xs) pl.isList pl'.isList (by simp only [List.size_toArray]; omega) (by omega) fun j h1 h2=>by
  obtain ⟨x,ex,rx⟩:=valsA rv h1
  obtain ⟨y,ey,ry⟩:=valsA rv' h2
  have e:eAt xs xs j=eqV x y:=by unfold eAt; rw [ex]; rw [ex] at ey; cases ey; rfl
  rw [e]
  exact eqAt_V rx ry (fx x (List.mem_of_getElem? ex)) (fx y (List.mem_of_getElem? ey))
 rw [List.size_toArray,←l1,al] at q'
 exact q' X.prog X.w X.xe _ ⟨.bl _,H,I,rfl,q⟩
end
section
variable {P:Program} {w:World} {K:W.Frag} {mg:Str→Option Value} {base:Heap} {k:Nat} {f:Addr} {fd:FuncData} {ps:List Str} {sp sp':Sp}
theorem both (F:FnOk P w K mg base CX0 k f fd ps sp) (G:FnOk P w K mg base (CXR P w) k f fd ps sp'):FnOk P w K mg base (CXR P w) k f fd ps (fun vs H Q E=>sp vs H Q E∨sp' vs H Q E) :=
 ⟨fun vs H Q E h=>h.elim (F.len vs H Q E) (G.len vs H Q E),fun A outer s H args us vs Q E hr e b v h=>h.elim
  (fun h=>codeAny_mono (F.run A outer s H args us vs Q E hr e b v h) fun r s' x=>by
   match r,x with
   | .ok (.ret _),x=>exact x
   | .error _,x=>exact False.elim x)
  (fun h=>G.run A outer s H args us vs Q E hr e b v h)⟩
theorem ors (F:FnOk P w K mg base (CXR P w) k f fd ps sp) (G:FnOk P w K mg base (CXR P w) k f fd ps sp'):FnOk P w K mg base (CXR P w) k f fd ps (fun vs H Q E=>sp vs H Q E∨sp' vs H Q E) :=
 ⟨fun vs H Q E h=>h.elim (F.len vs H Q E) (G.len vs H Q E),fun A outer s H args us vs Q E hr e b v h=>h.elim
  (fun h=>F.run A outer s H args us vs Q E hr e b v h)
  (fun h=>G.run A outer s H args us vs Q E hr e b v h)⟩
end
end LW
namespace LW
open PySem PySem.Spec PyProof.Rows L2 PySem.Builtin.Int
def sizedB (bs:List Str):Bool:=decide (1≤(bs.length:Int)) && decide ((bs.length:Int)≤6)
theorem firstMet_once {ns:List Int}:∀ i,i≤ns.length→i≤(firstMet (fun i=>ns.getD i 0) i).length→firstMet (fun i=>ns.getD i 0) i=ns.take i∧(ns.take i).Nodup
 | 0,_,_=>by rw [firstMet_zero,List.take_zero]; exact ⟨rfl,List.nodup_nil⟩
 | i+1,h,hl=>by
  have hi:i < ns.length:=h
  have e:ns.getD i 0=ns[i]:=by rw [List.getD_eq_getElem?_getD,List.getElem?_eq_getElem hi] <;> rfl
  have hle:=firstMet_length_le (fun i=>ns.getD i 0) i
  rw [firstMet_succ] at hl ⊢
  unfold step_dedup at hl ⊢
  by_cases c:(firstMet (fun i=>ns.getD i 0) i).any (· == ns.getD i 0)=true
  · rw [if_pos c] at hl
    omega
  · rw [if_neg c] at hl ⊢
    rw [List.length_append,List.length_singleton] at hl
    obtain ⟨h1,h2⟩:=firstMet_once i (Nat.le_of_lt hi) (by omega)
    have c':(firstMet (fun i=>ns.getD i 0) i).any (· == ns.getD i 0)=false:=Bool.eq_false_iff.mpr c
    have et:ns.take (i+1)=ns.take i ++ [ns.getD i 0]:=by rw [e,List.take_add_one,List.getElem?_eq_getElem hi] <;> rfl
    rw [h1] at c'
    rw [h1,et]
    refine ⟨rfl,List.nodup_append.mpr ⟨h2,List.nodup_cons.mpr ⟨(fun z=>by cases z),List.nodup_nil⟩,fun a ha b hb z=>?_⟩⟩
    rw [List.mem_singleton.mp hb] at z
    have y:=List.any_eq_false.mp c' a ha
    rw [z] at y
    exact y (beq_self_eq_true _)
theorem firstMet_nd {ns:List Int} (h:ns.length≤(firstMet (fun i=>ns.getD i 0) ns.length).length):ns.Nodup:=by
 have z:=(firstMet_once _ (Nat.le_refl _) h).2
 rw [List.take_length] at z
 exact z
def spAllW (K:W.Frag):Sp:=fun vs H Q _=>∃ (p:Addr) (bs:List Str),vs=[.ref p]∧SqL K H p (bs.map V.str)∧Good bs∧∀ (l:Addr) (ts:List Str) (H':Hp),H l=none→Same H H'→H' l=some (.lst (ts.map V.str))→ts≠[]→Q (.ref l) H'
def spOneW (K:W.Frag):Sp:=fun vs H Q _=>∃ (p:Addr) (bs:List Str),vs=[.ref p]∧SqL K H p (bs.map V.str)∧Good bs∧∀ (t:Str) (H':Hp),Same H H'→Q (.str t) H'
theorem some_via {bs:List Str} {found:List Str} {few:Nat} (h:∀ x,x∈found↔∃ n∈keptF bs,ViaA bs (keptF bs) few n x) (h1:∃ n rest hh,(n::rest).Perm (keptF bs)∧Height (gWord bs) rest n hh∧(wordAt bs n.toNat).length+hh=few) {ts:List Str} (hp:ts.Perm (ddS found)):ts≠[]:=fun z=>by
 obtain ⟨n,rest,hh,p,y,e⟩:=h1
 obtain ⟨os,p',e'⟩:=y.some
 have m:laidW (ordWords bs (n::os))∈found:=(h _).mpr ⟨n,p.mem_iff.mp List.mem_cons_self,os,(p'.cons n).trans p,rfl,by rw [ord_laid]; omega⟩
 rw [←mem_ddS,←hp.mem_iff,z] at m
 cases m
def Ill (CB CW:Addr) (bs:List Str) (H:Hp) (E:XK):Prop :=
 (sizedB bs=false∧∀ H',Same H H'→E (.ref CB) none H')∨(sizedB bs=true∧(∃ b∈bs,isWordB b=false)∧∀ H',Same H H'→E (.ref CW) none H')
def spIll (K:W.Frag) (n:Nat) (CB CW:Addr):Sp:=fun vs H _ E=>∃ (p:Addr) (bs:List Str) (r:List V),vs=.ref p::r∧r.length=n∧SqL K H p (bs.map V.str)∧(∀ b∈bs,b.length≤1000)∧Ill CB CW bs H E
def spOrdIll (K:W.Frag) (CO:Addr):Sp:=fun vs H _ E=>∃ (p r:Addr) (bs:List Str) (os:List Int),vs=[.ref p,.ref r]∧SqL K H p (bs.map V.str)∧SqL K H r (os.map V.int)∧os.length≤9∧¬ Order bs.length os∧∀ H',Same H H'→E (.ref CO) none H'
def spLaidIll (K:W.Frag) (CO:Addr):Sp:=fun vs H _ E=>∃ (p r:Addr) (bs:List Str) (os:List Int),vs=[.ref p,.ref r]∧SqL K H p (bs.map V.str)∧SqL K H r (os.map V.int)∧Good bs∧os.length≤9∧¬ Order bs.length os∧∀ H',Same H H'→E (.ref CO) none H'
def spUni (K:W.Frag) (CB CW:Addr):Sp:=fun vs H Q E=>∃ (p:Addr) (bs:List Str),vs=[.ref p]∧SqL K H p (bs.map V.str)∧(∀ b∈bs,b.length≤1000)∧(Ill CB CW bs H E∨Good bs∧∀ v H',Same H H'→Q v H')
def spUniP (K:W.Frag) (CB CW:Addr):Sp:=fun vs H Q E=>∃ (p:Addr) (bs:List Str) (t:Str),vs=[.ref p,.str t]∧t.length≤900∧SqL K H p (bs.map V.str)∧(∀ b∈bs,b.length≤1000)∧(Ill CB CW bs H E∨Good bs∧∀ v H',Same H H'→Q v H')
def AskedL (CB CW CO:Addr) (bs:List Str) (os:List Int) (H:Hp) (Q:VK) (E:XK):Prop :=
 Ill CB CW bs H E∨(Good bs∧Order bs.length os∧∀ v H',Same H H'→Q v H')∨(Good bs∧¬ Order bs.length os∧∀ H',Same H H'→E (.ref CO) none H')
def spUniL (K:W.Frag) (CB CW CO:Addr):Sp:=fun vs H Q E=>∃ (p r:Addr) (bs:List Str) (os:List Int),vs=[.ref p,.ref r]∧SqL K H p (bs.map V.str)∧SqL K H r (os.map V.int)∧(∀ b∈bs,b.length≤1000)∧os.length≤9∧AskedL CB CW CO bs os H Q E
section
variable {K:W.Frag} {CB CW CO:Addr} {vs:List V} {H:Hp} {Q:VK} {E:XK}
theorem uni_ill {sp:Sp} (h:spUni K CB CW vs H Q E) (g:∀ (p:Addr) (bs:List Str),vs=[.ref p]→SqL K H p (bs.map V.str)→Good bs→(∀ v H',Same H H'→Q v H')→sp vs H Q E):sp vs H Q E∨spIll K 0 CB CW vs H Q E:=by
 obtain ⟨p,bs,rfl,hS,hw,hI | ⟨hG,q⟩⟩:=h
 · exact .inr ⟨p,bs,[],rfl,rfl,hS,hw,hI⟩
 · exact .inl (g p bs rfl hS hG q)
theorem uni_kept (h:spUni K CB CW vs H Q E):spNew K Good keptF vs H Q E∨spIll K 0 CB CW vs H Q E :=
 uni_ill h fun p bs e hS hG q=>⟨p,bs,e,hS,hG,Nat.le_trans hG.le (by decide),fun l H' _ s _=>q _ H' s⟩
theorem uni_heights (h:spUni K CB CW vs H Q E):spHeights K vs H Q E∨spIll K 0 CB CW vs H Q E :=
 uni_ill h fun p bs e hS hG q=>⟨p,bs,e,hS,hG,fun l _ _ H' _ s _ _ _ _=>q _ H' s⟩
theorem uni_one (h:spUni K CB CW vs H Q E):spOneW K vs H Q E∨spIll K 0 CB CW vs H Q E :=
 uni_ill h fun p bs e hS hG q=>⟨p,bs,e,hS,hG,fun _ H' s=>q _ H' s⟩
theorem uni_all (h:spUni K CB CW vs H Q E):spAllW K vs H Q E∨spIll K 0 CB CW vs H Q E :=
 uni_ill h fun p bs e hS hG q=>⟨p,bs,e,hS,hG,fun _ _ H' _ s _ _=>q _ H' s⟩
theorem uni_greedy (h:spUni K CB CW vs H Q E):spGreedy K (fun _=>True) vs H Q E∨spIll K 0 CB CW vs H Q E :=
 uni_ill h fun p bs e hS hG q=>⟨p,bs,e,hS,hG,trivial,fun _ H' s _=>q _ H' s⟩
theorem uni_shown (h:spUni K CB CW vs H Q E):spShown K vs H Q E∨spIll K 0 CB CW vs H Q E :=
 uni_ill h fun p bs e hS hG q=>⟨p,bs,e,hS,hG,fun H' s=>q _ H' s⟩
theorem uni_places (h:spUniP K CB CW vs H Q E):spPlaces K vs H Q E∨spIll K 1 CB CW vs H Q E:=by
 obtain ⟨p,bs,t,rfl,ht,hS,hw,hI | ⟨hG,q⟩⟩:=h
 · exact .inr ⟨p,bs,[_],rfl,rfl,hS,hw,hI⟩
 · exact .inl ⟨p,bs,t,rfl,hS,hG,ht,fun _ _ H' _ s _ _=>q _ H' s⟩
theorem uni_laid (h:spUniL K CB CW CO vs H Q E):(spLaid K Good vs H Q E∨spIll K 1 CB CW vs H Q E)∨spLaidIll K CO vs H Q E:=by
 obtain ⟨p,r,bs,os,rfl,hS,hR,hw,hl,hI | ⟨hG,hO,q⟩ | ⟨hG,hO,q⟩⟩:=h
 · exact .inl (.inr ⟨p,bs,[_],rfl,rfl,hS,hw,hI⟩)
 · exact .inl (.inl ⟨p,r,bs,os,rfl,hS,hR,hG,hG.words,hO,fun H' s=>q _ H' s⟩)
 · exact .inr ⟨p,r,bs,os,rfl,hS,hR,hG,hl,hO,q⟩
end
def Asked (CB CW CO:Addr) (way:Int) (bs:List Str) (os:List Int) (H:Hp) (Q:VK) (E:XK):Prop :=
 Ill CB CW bs H E∨(Good bs∧Order bs.length os∧∀ H',Same H H'→Q .non H')∨(Good bs∧way=2∧¬ Order bs.length os∧∀ H',Same H H'→E (.ref CO) none H')
def spAsked (K:W.Frag) (CB CW CO:Addr):Sp:=fun vs H Q E=>∃ (way:Int) (p r:Addr) (bs:List Str) (os:List Int),vs=[.int way,.ref p,.ref r]∧SqL K H p (bs.map V.str)∧SqL K H r (os.map V.int)∧(∀ b∈bs,b.length≤1000)∧os.length≤9∧Asked CB CW CO way bs os H Q E
def Verd (way:Int) (bs:List Str) (os:List Int) (fl:List Bool):Prop :=
 (sizedB bs=false∧fl=[true,false,false,false,true])∨(sizedB bs=true∧(∃ b∈bs,isWordB b=false)∧fl=[false,true,false,false,true])∨(Good bs∧Order bs.length os∧fl=[])∨(Good bs∧way=2∧¬ Order bs.length os∧fl=[false,false,true,false,true])
def spFlags (K:W.Frag):Sp:=fun vs H Q _=>∃ (way:Int) (p r:Addr) (bs:List Str) (os:List Int) (fl:List Bool),vs=[.int way,.ref p,.ref r]∧SqL K H p (bs.map V.str)∧SqL K H r (os.map V.int)∧(∀ b∈bs,b.length≤1000)∧os.length≤9∧Verd way bs os fl ∧
 ∀ (l:Addr) (H':Hp),H l=none→Same H H'→H' l=some (.lst (fl.map V.bl))→Q (.ref l) H'
def spIllWord:Sp:=fun vs H Q _=>∃ (x:Str) (cell:Int),vs=[.str x,.int cell]∧Word 10 x∧∀ y:Str,y.length≤100→isWordB y=false→Q (.str y) H
def spIllOrder:Sp:=fun vs H Q _=>∃ (n:Nat) (cell far:Int),vs=[.int (n:Int),.int cell,.int far]∧1≤n∧n≤6∧0≤far∧∀ (l:Addr) (os:List Int) (H':Hp),H l=none→Same H H'→H' l=some (.lst (os.map V.int))→os.length≤9→¬ Order n os→Q (.ref l) H'
structure Kind (K:W.Frag) (CL CB CW CO CN D:Addr) (b1 b2 b3:Bool):Prop where
 ex:W.excIn K D vMro "ValueError.__new__"=true
 cl:ErrCls K D
 kB:W.kitOne K (.ref D) (.ref CB)=some b1
 kW:W.kitOne K (.ref D) (.ref CW)=some b2
 kO:W.kitOne K (.ref D) (.ref CO)=some b3
 kN:W.kitOne K (.ref D) (.ref CN)=some false
 kV:W.kitOne K (.ref D) (.type "ValueError")=some true
 yL:W.exmOne K (.ref D) (.ref CL)=some true
structure Ers (K:W.Frag) (mg:Str→Option Value) (CL CB CW CO CN:Addr):Prop where
 mL:mg "LayError"=some (.ref CL)
 mB:mg "BadBook"=some (.ref CB)
 mW:mg "BadWord"=some (.ref CW)
 mO:mg "BadOrder"=some (.ref CO)
 mN:mg "BadNote"=some (.ref CN)
 B:Kind K CL CB CW CO CN CB true false false
 W:Kind K CL CB CW CO CN CW false true false
 O:Kind K CL CB CW CO CN CO false false true
theorem ill_long {x:Str} (h:11≤x.length):isWordB x=false:=by
 unfold isWordB
 rw [decide_eq_false (show ¬ (x.length:Int)≤10 by omega),Bool.and_false,Bool.false_and]
theorem ill_sign {a b:Str} {c:Nat} (h:lowB c=false):isWordB (a ++ ⟨#[c]⟩ ++ b)=false:=by
 have e:(a ++ ⟨#[c]⟩ ++ b).cps.toList.all lowB=false:=by
  have z:(a ++ ⟨#[c]⟩ ++ b).cps.toList=cs a ++ [c] ++ cs b:=by
   show cs _=_
   rw [cs_app,cs_app]
   rfl
  rw [z,List.all_append,List.all_append,List.all_cons,h,Bool.false_and,Bool.and_false,Bool.false_and]
 unfold isWordB
 rw [e,Bool.and_false]
theorem ill_order {n:Nat} {xs:List Int} {k:Nat} {g:Int} (hg:g < 0∨(n:Int)≤g∨g∈xs):¬ Order n (xs.take k ++ [g] ++ xs.drop k):=fun o=>by
 have hm:g∈xs.take k ++ [g] ++ xs.drop k:=List.mem_append_left _ (List.mem_append_right _ (List.mem_singleton.mpr rfl))
 have hr:=o.rng g hm
 rcases hg with h | h | h
 · omega
 · omega
 · have nd:=o.nd
   rw [List.append_assoc] at nd
   obtain ⟨_,n2,n3⟩:=List.nodup_append.mp nd
   rw [←List.take_append_drop k xs] at h
   rcases List.mem_append.mp h with h | h
   · exact n3 g h g (List.mem_append_left _ (List.mem_singleton.mpr rfl)) rfl
   · exact (List.nodup_append.mp n2).2.2 g (List.mem_singleton.mpr rfl) g h rfl
theorem rep_map {α β:Type} (f:α→β) (k:Nat) (xs:List α):(List.replicate k (xs.map f)).flatten=((List.replicate k xs).flatten).map f:=by
 rw [List.map_flatten,List.map_replicate]
theorem mem_rep {α:Type} {k:Nat} {xs:List α} {x:α} (h:x∈(List.replicate k xs).flatten):x∈xs:=by
 obtain ⟨l,hl,hx⟩:=List.mem_flatten.mp h
 rw [(List.mem_replicate.mp hl).2] at hx
 exact hx
theorem sized_not {bs:List Str} (h:bs.length=0∨7≤bs.length):sizedB bs=false:=by
 unfold sizedB
 rcases h with h | h
 · rw [decide_eq_false (by omega),Bool.false_and]
 · rw [decide_eq_false (p:=(bs.length:Int)≤6) (by omega),Bool.and_false]
theorem sized_yes {bs:List Str} (h1:1≤bs.length) (h2:bs.length≤6):sizedB bs=true:=by
 unfold sizedB
 rw [decide_eq_true (by omega),decide_eq_true (by omega)]
 rfl
theorem nine {bs:List Str} {m:Nat} (h1:1≤bs.length) (h2:m≤9):cutV (List.replicate 9 (bs.map V.str)).flatten none (some (m:Int))=(((List.replicate 9 bs).flatten).take m).map V.str∧(((List.replicate 9 bs).flatten).take m).length=m∧∀ b∈((List.replicate 9 bs).flatten).take m,b∈bs:=by
 have l:=len_rep bs 9
 rw [rep_map,cut_to (by rw [List.length_map]; omega),←List.map_take]
 refine ⟨rfl,by rw [List.length_take]; omega,fun b hb=>mem_rep (List.mem_of_mem_take hb)⟩
theorem atI_ints {xs:List Int} {k:Int} (h0:0≤k) (h1:k < (xs.length:Int)):∃ x,x∈xs∧atI (xs.map V.int) k=some (.int x):=by
 have hk:k.toNat < xs.length:=by omega
 refine ⟨xs[k.toNat],List.getElem_mem hk,?_⟩
 unfold atI
 rw [List.length_map,ixN_nat h0 h1]
 show (xs.map V.int)[k.toNat]? = _
 rw [List.getElem?_map,List.getElem?_eq_getElem hk]
 rfl
theorem flat_bl (fl:List Bool):∀ v∈fl.map V.bl,flatV v=true:=fun v hv=>by
 obtain ⟨b,_,rfl⟩:=List.mem_map.mp hv
 rfl
theorem all_bl (fl:List Bool):(List.range (fl.map V.bl).length).all (eAt (fl.map V.bl) (fl.map V.bl))=true:=by
 refine List.all_eq_true.mpr fun j hj=>?_
 have hj':=List.mem_range.mp hj
 unfold eAt
 rw [List.getElem?_eq_getElem hj',List.getElem_map]
 have e:∀ b:Bool,eqV (V.bl b) (V.bl b)=true:=fun b=>by cases b <;> rfl
 exact e _
end LW
namespace My
open PySem PySem.Spec PyProof.Rows L2 LW PySem.Builtin.Int
def top (i:Nat):Stmt:=PySem.Challenge.pw_laidwords_k12_refusals.main.body.getD i (.Pass ⟨0,0,0,0⟩)
abbrev sSmall:Stmt:=top 9
abbrev sIsWord:Stmt:=top 10
abbrev sSize:Stmt:=top 11
abbrev sCheck:Stmt:=top 12
abbrev sLike:Stmt:=top 13
abbrev sHeld:Stmt:=top 14
abbrev sNeeds:Stmt:=top 15
abbrev sKept:Stmt:=top 16
abbrev sPow:Stmt:=top 17
abbrev sPlaces:Stmt:=top 18
abbrev sOv:Stmt:=top 20
abbrev sBeyond:Stmt:=top 21
abbrev sOrd:Stmt:=top 22
abbrev sLaid:Stmt:=top 23
abbrev sChoices:Stmt:=top 32
abbrev sLeft:Stmt:=top 33
abbrev sAlone:Stmt:=top 34
abbrev sAfter:Stmt:=top 35
abbrev sBehind:Stmt:=top 36
abbrev sHOf:Stmt:=top 37
abbrev sKnown:Stmt:=top 38
abbrev sTFrom:Stmt:=top 40
abbrev sAll:Stmt:=top 41
abbrev sOne:Stmt:=top 42
abbrev sHeights:Stmt:=top 39
abbrev sGPair:Stmt:=top 25
abbrev sGLaid:Stmt:=top 26
abbrev sGreedy:Stmt:=top 27
abbrev sShown:Stmt:=top 30
abbrev sCell:Stmt:=top 44
abbrev sWord:Stmt:=top 45
abbrev sPiece:Stmt:=top 47
abbrev sJoined:Stmt:=top 48
abbrev sBook:Stmt:=top 46
abbrev sAsked:Stmt:=top 49
abbrev sFlags:Stmt:=top 50
abbrev sIllWord:Stmt:=top 51
abbrev sIllOrder:Stmt:=top 52
abbrev sLaw:Stmt:=top 53
structure Gb (mg:Str→Option Value):Prop where
 b_len:mg "len"=none
 b_range:mg "range"=none
 b_list:mg "list"=none
 b_all:mg "all"=none
 b_any:mg "any"=none
 b_min:mg "min"=none
 b_sorted:mg "sorted"=none
 b_set:mg "set"=none
 b_tuple:mg "tuple"=none
 b_isinstance:mg "isinstance"=none
 b_ValueError:mg "ValueError"=none
 c_MOST_WORDS:∃ t,mg "MOST_WORDS"=some (.int 6 t)
 c_MOST_LETTERS:∃ t,mg "MOST_LETTERS"=some (.int 10 t)
 c_LINE_END:∃ t,mg "LINE_END"=some (.str "\n" t)
section
variable {P:Program} {w:World} {K:W.Frag} {mg:Str→Option Value} {base:Heap} {f:Addr} {fd:FuncData}
theorem scSmall:FnScope ["sign"] ["sign"] (defScope sSmall):=⟨rfl,rfl,rfl,by decide +kernel,rfl,by decide +kernel,by decide +kernel⟩
theorem ok_Small (F:Fun K "is_small_letter" "is_small_letter" sSmall f fd) (T:Gb mg):FnOk P w K mg base CX0 1 f fd ["sign"] spSmall:=by
 refine F.ok scSmall (fun vs H Q E h=>?_) (fun cdv A outer s H vs Q E hr h=>?_)
 · obtain ⟨c,rfl,_⟩:=h
   rfl
 obtain ⟨c,rfl,q⟩:=h
 refine ⟨_,pss_one (ps_ret (pe_chain op_le_str op_le_str pe_str (pv 0) pe_str)),?_⟩
 refine ⟨_,rfl,_,_,rfl,rfl,_,rfl,?_⟩
 have e1:(!decide ((⟨#[c]⟩:Str).cps.toList < (Str.ofString "a").cps.toList))=decide (97≤c):=by rw [code_a]; exact le_one 97 c
 have e2:(!decide ((Str.ofString "z").cps.toList < (⟨#[c]⟩:Str).cps.toList))=decide (c≤122):=by rw [code_z]; exact le_one c 122
 refine ite2 (fun k=>?_) (fun k=>?_)
 · have k1:decide (97≤c)=true:=e1.symm.trans k
   refine ⟨_,_,rfl,rfl,?_⟩
   have q':Q (.bl (decide (c≤122))) H:=by
    have z:=q
    unfold lowB at z
    rw [k1,Bool.true_and] at z
    exact z
   rw [←e2] at q'
   exact q'
 · have k1:decide (97≤c)=false:=e1.symm.trans (Bool.eq_false_iff.mpr k)
   have z:=q
   unfold lowB at z
   rw [k1,Bool.false_and] at z
   exact z
theorem scIsWord:FnScope ["text"] ["text"] (defScope sIsWord):=⟨rfl,rfl,rfl,by decide +kernel,rfl,by decide +kernel,by decide +kernel⟩
theorem ndSign:(["sign"]:List Str).Nodup:=by decide +kernel
theorem ok_IsWord (F:Fun K "is_word" "is_word" sIsWord f fd) (T:Gb mg) (G1:Has P w K mg base "is_small_letter" 1 ["sign"] spSmall):FnOk P w K mg base CX0 2 f fd ["text"] spIsWord:=by
 refine F.ok scIsWord (fun vs H Q E h=>?_) (fun cdv A outer s H vs Q E hr h=>?_)
 · obtain ⟨x,rfl,_⟩:=h
   rfl
 obtain ⟨x,rfl,hx,q⟩:=h
 obtain ⟨t,ht⟩:=T.c_MOST_LETTERS
 refine ⟨_,pss_consN (ps_if (pt_not (pt_chain op_le op_le pe_int (pe_callB call_len_str rfl T.b_len PySem.boot_len (pa_cons (pv 0) pa_nil)) (pe_glob (v:=.int 10) rfl ht ⟨_,rfl⟩))) (pss_one (ps_ret pe_bl)) pss_nil)
  (pss_one (ps_ret (pe_callB (call_allB rfl) rfl T.b_all boot_all (pa_cons (pe_comp (oN:=["text"]) (osc:=defScope sIsWord) (N':=["sign"]) (cap:=[none]) rfl rfl rfl (by decide +kernel) rfl (by decide +kernel) (by decide +kernel) (by decide +kernel) rfl
   (pi_str (pv 0)) (fun _ _ _ _ _=>pg_name (i:=0) ndSign rfl (Or.inl rfl)) (fun _ _ _ _ _=>pif_none) (fun _ _ _ _ _=>pe_has G1 hr (by rfl) (pa_cons (pv 0) pa_nil))) pa_nil)))),?_⟩
 intro N hN
 refine ⟨_,rfl,x,rfl,small hx,_,_,rfl,rfl,_,rfl,?_⟩
 refine ite2 (fun k=>?_) (fun k=>?_)
 · have k1:decide (1≤(x.length:Int))=true:=k
   refine ⟨_,_,rfl,rfl,_,rfl,?_⟩
   by_cases h2:(x.length:Int)≤10
   · refine iteNS h2 ?_
     refine hN _ _ ?_
     refine ⟨_,rfl,x,rfl,fun D hD=>?_⟩
     refine turns_str (fun i σ H'=>(∃ kk,σ=[kk])∧Same H H'∧H' D=some (.lst (((x.cps.toList.take i).map lowB).map V.bl))) ⟨⟨_,rfl⟩,same_new hD _,upd_same⟩ ?_ ?_
     · rintro i c σ H' hc ⟨⟨kk,rfl⟩,hs,hD'⟩
       have hc':x.cps.toList[i]? = some c:=by simpa using hc
       refine gYes ?_
       refine ⟨_,rfl,c,rfl,_,hD',?_,⟨_,rfl⟩,sameUpd hs hD,?_⟩
       · rw [List.length_map,List.length_map,List.length_take,←strLenL]
         exact small1000 (by omega)
       · rw [upd_same,take_snoc hc',List.map_append,List.map_append] <;> rfl
     · rintro σ H' ⟨_,hs,hD'⟩
       rw [strLenL,List.take_length] at hD'
       refine ⟨D,_,rfl,SqL.of hD',?_⟩
       have e:((x.cps.toList.map lowB).all id)=isWordB x:=by
        unfold isWordB
        rw [k1,decide_eq_true h2,List.all_map]
        rfl
       rw [e]
       exact q H' hs
   · refine iteNT h2 ?_
     have e:isWordB x=false:=by
      unfold isWordB
      rw [decide_eq_false h2,Bool.and_false,Bool.false_and]
     have z:=q H (Same.refl _)
     rw [e] at z
     exact z
 · have k1:decide (1≤(x.length:Int))=false:=Bool.eq_false_iff.mpr k
   refine ⟨_,rfl,iteT ?_⟩
   have e:isWordB x=false:=by
    unfold isWordB
    rw [k1,Bool.false_and,Bool.false_and]
   have z:=q H (Same.refl _)
   rw [e] at z
   exact z
theorem scSize:FnScope ["book"] ["book"] (defScope sSize):=⟨rfl,rfl,rfl,by decide +kernel,rfl,by decide +kernel,by decide +kernel⟩
theorem ok_Size (F:Fun K "has_book_size" "has_book_size" sSize f fd) (T:Gb mg):FnOk P w K mg base CX0 1 f fd ["book"] (spSize K):=by
 refine F.ok scSize (fun vs H Q E h=>?_) (fun cdv A outer s H vs Q E hr h=>?_)
 · obtain ⟨p,bs,rfl,_⟩:=h
   rfl
 obtain ⟨p,bs,rfl,hS,q⟩:=h
 obtain ⟨t,ht⟩:=T.c_MOST_WORDS
 have hl:(bs.map V.str).length=bs.length:=List.length_map _
 refine ⟨_,pss_one (ps_ret (pe_chain op_le op_le pe_int (pe_callB (call_lenK rfl) rfl T.b_len PySem.boot_len (pa_cons (pv 0) pa_nil)) (pe_glob (v:=.int 6) rfl ht ⟨_,rfl⟩))),?_⟩
 refine ⟨_,rfl,p,_,rfl,.inl hS,_,_,rfl,rfl,_,rfl,?_⟩
 rw [hl]
 refine ite2 (fun k=>?_) (fun k=>?_)
 · have k1:decide (1≤(bs.length:Int))=true:=k
   rw [k1,Bool.true_and] at q
   exact ⟨_,_,rfl,rfl,q⟩
 · have k1:decide (1≤(bs.length:Int))=false:=Bool.eq_false_iff.mpr k
   rw [k1,Bool.false_and] at q
   exact q
theorem scCheck:FnScope ["book","word"] ["book"] (defScope sCheck):=⟨rfl,rfl,rfl,by decide +kernel,rfl,by decide +kernel,by decide +kernel⟩
theorem ok_Check (F:Fun K "check_book" "check_book" sCheck f fd) (T:Gb mg) (G1:Has P w K mg base "has_book_size" 1 ["book"] (spSize K)) (G2:Has P w K mg base "is_word" 2 ["text"] spIsWord):FnOk P w K mg base CX0 3 f fd ["book"] (spCheck K):=by
 refine F.ok scCheck (fun vs H Q E h=>?_) (fun cdv A outer s H vs Q E hr h=>?_)
 · obtain ⟨p,bs,rfl,_⟩:=h
   rfl
 obtain ⟨p,bs,rfl,hS,hG,q⟩:=h
 have g1:=hG.pos
 have g2:=hG.le
 have hr1:=hr.mono (show 1≤2 by decide)
 refine ⟨_,pss_consN (ps_if (pt_not (pt_val (pe_has G1 hr1 (by rfl) (pa_cons (pv 0) pa_nil)))) pss_never pss_nil)
  (pss_one (ps_for PassesOwn.never rfl (pi_listK rfl (pv 0)) (pg_name (i:=1) scCheck.nd rfl (Or.inl rfl)) (pss_one (ps_if (pt_not (pt_val (pe_has G2 hr (by rfl) (pa_cons (pv 1) pa_nil)))) pss_never pss_nil)))),?_⟩
 intro N hN
 refine ⟨_,rfl,p,bs,rfl,hS,?_⟩
 rw [decide_eq_true (show 1≤(bs.length:Int) by omega),decide_eq_true (show (bs.length:Int)≤6 by omega)]
 refine ⟨_,rfl,iteF ?_⟩
 refine hN _ _ ?_
 refine ⟨_,rfl,p,rfl,⟨_,hS⟩,?_⟩
 refine for_list (xs:=bs.map V.str) (fun i σ H'=>(∃ kk,σ=[some (.ref p),kk])∧Same H H') ⟨⟨_,rfl⟩,Same.refl _⟩ ?_ ?_ ?_
 · rintro i σ H' _ ⟨_,hs⟩
   exact hs.seq hS
 · rintro i v σ H' hv ⟨⟨kk,rfl⟩,hs⟩
   rw [List.getElem?_map] at hv
   cases e:bs[i]? with
   | none=>rw [e] at hv; cases hv
   | some b =>
    rw [e] at hv
    have ev:V.str b=v:=Option.some.inj hv
    subst ev
    have wb:=hG.words b (List.mem_of_getElem? e)
    have wl:=wb.le
    refine ⟨_,rfl,b,rfl,by omega,fun H2 s2=>?_⟩
    refine ⟨_,rfl,?_⟩
    rw [wb.isB]
    exact iteF ⟨⟨_,rfl⟩,hs.trans s2⟩
 · rintro σ H' ⟨_,hs⟩
   exact q H' hs
theorem scLike:FnScope ["book","number"] ["book","number"] (defScope sLike):=⟨rfl,rfl,rfl,by decide +kernel,rfl,by decide +kernel,by decide +kernel⟩
theorem ok_Like (F:Fun K "has_like_ahead" "has_like_ahead" sLike f fd) (T:Gb mg):FnOk P w K mg base CX0 1 f fd ["book","number"] (spAt K likeB):=by
 refine F.ok scLike (fun vs H Q E h=>?_) (fun cdv A outer s H vs Q E hr h=>?_)
 · obtain ⟨p,bs,k,rfl,_⟩:=h
   rfl
 obtain ⟨p,bs,k,rfl,hS,hk,hl,q⟩:=h
 refine ⟨_,pss_one (ps_ret (pe_cmpR op_in_seq (pe_ix ix_list (pv 0) (pv 1) (fun _ _=>rfl)) (pe_slice sl_list (pv 0) po_none (po_some (pv 1))) rfl)),?_⟩
 obtain ⟨b,_,hb,eb⟩:=atI_strs (bs:=bs) (k:=(k:Int)) (by omega) (by omega)
 rw [Int.toNat_natCast] at hb
 refine ⟨_,rfl,_,rfl,p,_,_,_,rfl,rfl,hS,eb,_,rfl,_,rfl,_,rfl,p,_,rfl,hS,fun r hr'=>?_⟩
 refine ⟨r,_,rfl,.inl (SqL.of upd_same),rfl,cut_flat bs _ _,?_⟩
 have e:inV (.str b) (cutV (bs.map V.str) none (some (k:Int)))=likeB bs k:=by unfold likeB; rw [hb] <;> rfl
 have z:=q (upd H r (.lst (cutV (bs.map V.str) none (some (k:Int))))) (same_new hr' _)
 rw [←e] at z
 exact z
theorem scHeld:FnScope ["book","number","word"] ["book","number"] (defScope sHeld):=⟨rfl,rfl,rfl,by decide +kernel,rfl,by decide +kernel,by decide +kernel⟩
theorem ndHeld:(["other","word"]:List Str).Nodup:=by decide +kernel
theorem ok_Held (F:Fun K "is_held" "is_held" sHeld f fd) (T:Gb mg):FnOk P w K mg base CX0 1 f fd ["book","number"] (spAt K heldB):=by
 refine F.ok scHeld (fun vs H Q E h=>?_) (fun cdv A outer s H vs Q E hr h=>?_)
 · obtain ⟨p,bs,k,rfl,_⟩:=h
   rfl
 obtain ⟨p,bs,k,rfl,hS,hk,hl,q⟩:=h
 refine ⟨_,pss_consN (ps_set (i:=2) scHeld.nd rfl (Or.inr rfl) (pe_ix ix_list (pv 0) (pv 1) (fun _ _=>rfl)))
  (pss_one (ps_ret (pe_callB (call_anyB rfl) rfl T.b_any boot_any (pa_cons (pe_comp (oN:=["book","number","word"]) (osc:=defScope sHeld) (N':=["other","word"]) (cap:=[none,some 2]) rfl rfl rfl (by decide +kernel) rfl (by decide +kernel) (by decide +kernel) (by decide +kernel) rfl
   (pi_list (pv 0)) (fun _ _ _ _ _=>pg_name (i:=0) ndHeld rfl (Or.inl rfl)) (fun _ _ _ _ _=>pif_none)
   (fun _ _ _ _ _=>pe_and (pe_cmpR op_ne (pv 1) (pv 0) (nomark _)) (pe_one (pe_cmpR op_in_str (pv 1) (pv 0) rfl)))) pa_nil)))),?_⟩
 obtain ⟨b,_,hb,eb⟩:=atI_strs (bs:=bs) (k:=(k:Int)) (by omega) (by omega)
 rw [Int.toNat_natCast] at hb
 intro N hN
 refine ⟨_,rfl,_,rfl,p,_,_,_,rfl,rfl,hS,eb,?_⟩
 refine hN _ _ ?_
 refine ⟨_,rfl,p,rfl,⟨_,hS⟩,fun D hD=>?_⟩
 refine turns_list (xs:=bs.map V.str) (fun i σ H'=>(∃ kk,σ=[kk,some (.str b)])∧Same H H'∧H' D=some (.lst (((bs.take i).map (holdsB b)).map V.bl))) ⟨⟨_,rfl⟩,same_new hD _,upd_same⟩ ?_ ?_ ?_
 · rintro i σ H' _ ⟨_,hs,_⟩
   exact hs.seq hS
 · rintro i v σ H' hv ⟨⟨kk,rfl⟩,hs,hD'⟩
   rw [List.getElem?_map] at hv
   cases e:bs[i]? with
   | none=>rw [e] at hv; cases hv
   | some o =>
    rw [e] at hv
    have ev:V.str o=v:=Option.some.inj hv
    subst ev
    have fin:∃ ys,H' D=some (.lst ys)∧ys.length < sizeLine∧(∃ kk,([some (.str o),some (.str b)]:L2.St)=[kk,some (.str b)])∧Same H (upd H' D (.lst (ys ++ [.bl (holdsB b o)])))∧upd H' D (.lst (ys ++ [.bl (holdsB b o)])) D=some (.lst (((bs.take (i+1)).map (holdsB b)).map V.bl)):=by
     refine ⟨_,hD',?_,⟨_,rfl⟩,sameUpd hs hD,?_⟩
     · rw [List.length_map,List.length_map,List.length_take]; exact small1000 (by omega)
     · rw [upd_same,take_snoc e,List.map_append,List.map_append] <;> rfl
    refine gYes ?_
    refine ⟨_,rfl,_,rfl,rfl,_,rfl,?_⟩
    refine ite2 (fun c=>?_) (fun c=>?_)
    · refine ⟨_,rfl,_,rfl,_,_,rfl,rfl,?_⟩
      have e1:holdsB b o=inS b o:=by unfold holdsB; rw [show (!decide (V.str b=V.str o))=true from c,Bool.true_and]
      rw [e1] at fin
      exact fin
    · have e1:holdsB b o=false:=by unfold holdsB; rw [show (!decide (V.str b=V.str o))=false from Bool.eq_false_iff.mpr c,Bool.false_and]
      rw [e1] at fin
      exact fin
 · rintro σ H' ⟨_,hs,hD'⟩
   rw [List.length_map,List.take_length] at hD'
   refine ⟨D,_,rfl,SqL.of hD',?_⟩
   have e:((bs.map (holdsB b)).any id)=heldB bs k:=by
    unfold heldB
    rw [hb,List.any_map]
    rfl
   rw [e]
   exact q H' hs
theorem scNeeds:FnScope ["book","number"] ["book","number"] (defScope sNeeds):=⟨rfl,rfl,rfl,by decide +kernel,rfl,by decide +kernel,by decide +kernel⟩
theorem ok_Needs (F:Fun K "needs_place" "needs_place" sNeeds f fd) (T:Gb mg) (G1:Has P w K mg base "has_like_ahead" 1 ["book","number"] (spAt K likeB)) (G2:Has P w K mg base "is_held" 1 ["book","number"] (spAt K heldB)):FnOk P w K mg base CX0 2 f fd ["book","number"] (spAt K needB):=by
 refine F.ok scNeeds (fun vs H Q E h=>?_) (fun cdv A outer s H vs Q E hr h=>?_)
 · obtain ⟨p,bs,k,rfl,_⟩:=h
   rfl
 obtain ⟨p,bs,k,rfl,hS,hk,hl,q⟩:=h
 refine ⟨_,pss_one (ps_ret (pe_and (pe_not (pe_has G1 hr (by rfl) (pa_cons (pv 0) (pa_cons (pv 1) pa_nil)))) (pe_one (pe_not (pe_has G2 hr (by rfl) (pa_cons (pv 0) (pa_cons (pv 1) pa_nil))))))),?_⟩
 refine ⟨_,rfl,_,rfl,p,bs,k,rfl,hS,hk,hl,fun H1 s1=>?_⟩
 refine ⟨_,rfl,_,rfl,?_⟩
 refine ite2 (fun c=>?_) (fun c=>?_)
 · refine ⟨_,rfl,_,rfl,p,bs,k,rfl,s1.seq hS,hk,hl,fun H2 s2=>?_⟩
   refine ⟨_,rfl,?_⟩
   have z:=q H2 (s1.trans s2)
   unfold needB at z
   rw [show (!likeB bs k)=true from c,Bool.true_and] at z
   exact z
 · have z:=q H1 s1
   unfold needB at z
   rw [show (!likeB bs k)=false from Bool.eq_false_iff.mpr c,Bool.false_and] at z
   exact z
theorem scKept:FnScope ["book"] ["book"] (defScope sKept):=⟨rfl,rfl,rfl,by decide +kernel,rfl,by decide +kernel,by decide +kernel⟩
theorem ndKept:(["number","book"]:List Str).Nodup:=by decide +kernel
theorem ok_Kept (F:Fun K "kept" "kept" sKept f fd) (T:Gb mg) (G1:Has P w K mg base "check_book" 3 ["book"] (spCheck K)) (G2:Has P w K mg base "needs_place" 2 ["book","number"] (spAt K needB)):FnOk P w K mg base CX0 4 f fd ["book"] (spNew K Good keptF):=by
 refine F.ok scKept (fun vs H Q E h=>?_) (fun cdv A outer s H vs Q E hr h=>?_)
 · obtain ⟨p,bs,rfl,_⟩:=h
   rfl
 obtain ⟨p,bs,rfl,hS,hG,hl,q⟩:=h
 have hr2:=hr.mono (show 2≤3 by decide)
 refine ⟨_,pss_consN (ps_expr (pe_has G1 hr (by rfl) (pa_cons (pv 0) pa_nil)))
  (pss_one (ps_ret (pe_comp (oN:=["book"]) (osc:=defScope sKept) (N':=["number","book"]) (cap:=[none,some 0]) rfl rfl rfl (by decide +kernel) rfl (by decide +kernel) (by decide +kernel) (by decide +kernel) rfl
   (pi_range1 rfl T.b_range (pa_cons (pe_callB call_len_seq rfl T.b_len PySem.boot_len (pa_cons (pv 0) pa_nil)) pa_nil)) (fun _ _ _ _ _=>pg_name (i:=0) ndKept rfl (Or.inl rfl)) (fun _ _ _ _ _=>pif_one (pt_val (pe_has G2 hr2 (by rfl) (pa_cons (pv 1) (pa_cons (pv 0) pa_nil))))) (fun _ _ _ _ _=>pv 0)))),?_⟩
 have hlm:(bs.map V.str).length=bs.length:=List.length_map _
 intro N hN
 refine ⟨_,rfl,p,bs,rfl,hS,hG,fun H1 s1=>?_⟩
 refine hN _ _ ?_
 refine ⟨_,rfl,p,_,rfl,.inl (s1.seq hS),_,rfl,?_⟩
 rw [hlm]
 refine ⟨by omega,by omega,fun D hD=>?_⟩
 have hHD:=s1.free hD
 rw [Int.toNat_natCast]
 refine turns_range (fun i σ H'=>(∃ kk,σ=[kk,some (.ref p)])∧Same H H'∧H' D=some (.lst ((((List.range i).filter (needB bs)).map fun (k:Nat)=>(k:Int)).map V.int))) ⟨⟨_,rfl⟩,sameUpd s1 hHD,upd_same⟩ ?_ ?_
 · rintro i σ H' hi ⟨⟨kk,rfl⟩,hs,hD'⟩
   have e0:(0:Int)+(i:Int)=((i:Nat):Int):=by omega
   rw [e0]
   refine ⟨_,rfl,_,rfl,p,bs,i,rfl,hs.seq hS,hi,hl,fun H2 s2=>?_⟩
   refine ⟨_,rfl,?_⟩
   have hs2:=hs.trans s2
   have hD2:=s2 _ _ hD'
   refine ite2 (fun c=>?_) (fun c=>?_)
   · refine ⟨_,rfl,_,hD2,?_,⟨_,rfl⟩,sameUpd hs2 hHD,?_⟩
     · rw [List.length_map,List.length_map]
       exact Nat.lt_of_le_of_lt (Nat.le_trans (List.length_filter_le _ _) (by rw [List.length_range]; exact Nat.le_refl _)) (small1000 (by omega:i≤1000))
     · rw [upd_same,range_filter_succ,if_pos c,List.map_append,List.map_append] <;> rfl
   · refine ⟨⟨_,rfl⟩,hs2,?_⟩
     rw [range_filter_succ,if_neg c,List.append_nil]
     exact hD2
 · rintro σ H' ⟨_,hs,hD'⟩
   exact q D H' hHD hs hD'
theorem scPow:FnScope ["word","text"] ["word","text"] (defScope sPow):=⟨rfl,rfl,rfl,by decide +kernel,rfl,by decide +kernel,by decide +kernel⟩
theorem ndPow0:(["place","word","text"]:List Str).Nodup:=by decide +kernel
theorem ok_Pow (F:Fun K "places_of_word" "places_of_word" sPow f fd) (T:Gb mg):FnOk P w K mg base CX0 1 f fd ["word","text"] (spPl K):=by
 refine F.ok scPow (fun vs H Q E h=>?_) (fun cdv A outer s H vs Q E hr h=>?_)
 · obtain ⟨x,t,rfl,_⟩:=h
   rfl
 obtain ⟨x,t,rfl,hx1,hx,ht,q⟩:=h
 refine ⟨_,pss_one (ps_ret (pe_comp (oN:=["word","text"]) (osc:=defScope sPow) (N':=["place","word","text"]) (cap:=[none,some 0,some 1]) rfl rfl rfl (by decide +kernel) rfl (by decide +kernel) (by decide +kernel) (by decide +kernel) rfl
   (pi_range1 rfl T.b_range (pa_cons (pe_callB call_len_str rfl T.b_len PySem.boot_len (pa_cons (pv 1) pa_nil)) pa_nil)) (fun _ _ _ _ _=>pg_name (i:=0) ndPow0 rfl (Or.inl rfl)) (fun _ _ _ _ _=>pif_one (pt_val (pe_bmK (K:=K) rfl PySem.F.plainAttrs_str PySem.F.slot_str_startswith PySem.F.type_str_startswith mt_starts (pv 2) (pa_cons (pv 1) (pa_cons (pv 0) pa_nil)))))
   (fun _ _ _ _ _=>(pv 0)))),?_⟩
 refine ⟨_,rfl,t,rfl,small (by omega),_,rfl,by omega,by omega,fun D hD=>?_⟩
 rw [Int.toNat_natCast]
 refine turns_range (fun i σ H'=>(∃ kk,σ=[kk,some (.str x),some (.str t)])∧Same H H'∧H' D=some (.lst ((((List.range i).filter (startsB t x)).map fun (k:Nat)=>(k:Int)).map V.int))) ⟨⟨_,rfl⟩,same_new hD _,upd_same⟩ ?_ ?_
 · rintro i σ H' hi ⟨⟨kk,rfl⟩,hs,hD'⟩
   have e0:(0:Int)+(i:Int)=((i:Nat):Int):=by omega
   rw [e0]
   refine ⟨_,rfl,rfl,_,rfl,_,rfl,t,x,_,rfl,rfl,_,rfl,?_⟩
   have e1:(decide (fromIndex t.length ((i:Nat):Int)+x.length≤t.length) && Builtin.Str.subAt t x (fromIndex t.length ((i:Nat):Int)))=startsB t x i:=by
    rw [fromIndex_nat]
    rfl
   rw [e1]
   refine ite2 (fun c=>?_) (fun c=>?_)
   · refine ⟨_,rfl,_,hD',?_,⟨_,rfl⟩,sameUpd hs hD,?_⟩
     · rw [List.length_map,List.length_map]
       exact Nat.lt_of_le_of_lt (Nat.le_trans (List.length_filter_le _ _) (by rw [List.length_range]; exact Nat.le_refl _)) (small1000 (by omega:i≤1000))
     · rw [upd_same,range_filter_succ,if_pos c,List.map_append,List.map_append] <;> rfl
   · refine ⟨⟨_,rfl⟩,hs,?_⟩
     rw [range_filter_succ,if_neg c,List.append_nil]
     exact hD'
 · rintro σ H' ⟨_,hs,hD'⟩
   exact q D H' hD hs hD'
theorem scPlaces:FnScope ["book","text"] ["book","text"] (defScope sPlaces):=⟨rfl,rfl,rfl,by decide +kernel,rfl,by decide +kernel,by decide +kernel⟩
theorem ndPlaces0:(["word","text"]:List Str).Nodup:=by decide +kernel
theorem ok_Places (F:Fun K "places" "places" sPlaces f fd) (T:Gb mg) (G1:Has P w K mg base "check_book" 3 ["book"] (spCheck K)) (G2:Has P w K mg base "places_of_word" 1 ["word","text"] (spPl K)):FnOk P w K mg base CX0 4 f fd ["book","text"] (spPlaces K):=by
 refine F.ok scPlaces (fun vs H Q E h=>?_) (fun cdv A outer s H vs Q E hr h=>?_)
 · obtain ⟨p,bs,t,rfl,_⟩:=h
   rfl
 obtain ⟨p,bs,t,rfl,hS,hG,ht,q⟩:=h
 have hr1:=hr.mono (show 1≤3 by decide)
 refine ⟨_,pss_consN (ps_expr (pe_has G1 hr (by rfl) (pa_cons (pv 0) pa_nil)))
  (pss_one (ps_ret (pe_comp (oN:=["book","text"]) (osc:=defScope sPlaces) (N':=["word","text"]) (cap:=[none,some 1]) rfl rfl rfl (by decide +kernel) rfl (by decide +kernel) (by decide +kernel) (by decide +kernel) rfl
   (pi_listK rfl (pv 0)) (fun _ _ _ _ _=>pg_name (i:=0) ndPlaces0 rfl (Or.inl rfl)) (fun _ _ _ _ _=>pif_none)
   (fun _ _ _ _ _=>(pe_has G2 hr1 (by rfl) (pa_cons (pv 0) (pa_cons (pv 1) pa_nil))))))),?_⟩
 have hle:=hG.le
 intro N hN
 refine ⟨_,rfl,p,bs,rfl,hS,hG,fun H1 s1=>?_⟩
 refine hN _ _ ?_
 refine ⟨_,rfl,p,rfl,⟨_,s1.seq hS⟩,fun D hD=>?_⟩
 have hHD:=s1.free hD
 refine turns_list (xs:=bs.map V.str) (fun i σ H'=>(∃ kk,σ=[kk,some (.str t)])∧Same H1 H'∧∃ ls:List Addr,H' D=some (.lst (ls.map V.ref))∧Rows H1 H' D t (bs.take i) ls) ⟨⟨_,rfl⟩,same_new hD _,[],upd_same,⟨rfl,List.nodup_nil,by simp,by simp,by simp⟩⟩ ?_ ?_ ?_
 · rintro i σ H' _ ⟨_,hs,_⟩
   exact (s1.trans hs).seq hS
 · rintro i v σ H' hv ⟨⟨kk,rfl⟩,hs,ls,hD',hR⟩
   obtain ⟨b,eb,rfl⟩:=at_strs hv
   have wb:=hG.words b (List.mem_of_getElem? eb)
   have w1:=wb.pos
   have w2:=wb.le
   have hi:i < bs.length:=(List.getElem?_eq_some_iff.mp eb).1
   have hll:ls.length=i:=by rw [hR.len,List.length_take]; omega
   refine gYes ?_
   refine ⟨_,rfl,_,rfl,b,t,rfl,w1,by omega,ht,fun l H2 hl s2 hl2=>?_⟩
   have hD2:=s2 _ _ hD'
   have hlD:l≠D:=fun z=>by rw [z,hD'] at hl; cases hl
   have hln:l∉ls:=fun z=>by
    obtain ⟨j,hj,ej⟩:=List.getElem_of_mem z
    have ej':ls[j]? = some l:=by rw [List.getElem?_eq_getElem hj,ej]
    have e2:(bs.take i)[j]? = some ((bs.take i)[j]'(by rw [←hR.len]; exact hj)):=List.getElem?_eq_getElem _
    rw [hR.rows j _ l e2 ej'] at hl
    cases hl
   refine ⟨_,hD2,(by rw [List.length_map,hll]; exact small1000 (by omega)),⟨_,rfl⟩,sameUpd (hs.trans s2) hD,ls ++ [l],?_,?_⟩
   · rw [upd_same,List.map_append] <;> rfl
   · refine ⟨?_,?_,?_,?_,?_⟩
     · rw [List.length_append,hll,List.length_take]
       show i+1=_
       omega
     · refine List.nodup_append.mpr ⟨hR.nd,by simp,fun a ha c hc=>?_⟩
       rw [List.mem_singleton.mp hc]
       intro z
       exact hln (z ▸ ha)
     · intro z
       rcases List.mem_append.mp z with z | z
       · exact hR.out z
       · exact hlD (List.mem_singleton.mp z).symm
     · intro a ha
       rcases List.mem_append.mp ha with z | z
       · exact hR.new a z
       · rw [List.mem_singleton.mp z]; exact hs.free hl
     · intro j c a ec ea
       by_cases hj:j < i
       · rw [List.getElem?_append_left (by omega)] at ea
         have ec':(bs.take i)[j]? = some c:=by
          rw [List.getElem?_take_of_lt hj]
          rw [List.getElem?_take_of_lt (by omega)] at ec
          exact ec
         have q1:=hR.rows j c a ec' ea
         have ne:a≠D:=fun z=>hR.out (z ▸ List.mem_of_getElem? ea)
         rw [upd_ne ne]
         exact s2 _ _ q1
       · have hj2:j=i:=by
          have:=(List.getElem?_eq_some_iff.mp ec).1
          rw [List.length_take] at this
          omega
         subst hj2
         rw [List.getElem?_append_right (by omega),hll,Nat.sub_self] at ea
         have ea':l=a:=by simpa using ea
         rw [List.getElem?_take_of_lt (by omega),eb] at ec
         have ec':b=c:=Option.some.inj ec
         rw [←ea',←ec',upd_ne hlD]
         exact hl2
 · rintro σ H' ⟨_,hs,ls,hD',hR⟩
   rw [List.length_map,List.take_length] at hR
   exact q D ls H' hHD (s1.trans hs) hD' ⟨hR.len,hR.nd,hR.out,fun l hl=>s1.free (hR.new l hl),hR.rows⟩
theorem scOv:FnScope ["one","next_one","most","letters"] ["one","next_one"] (defScope sOv):=⟨rfl,rfl,rfl,by decide +kernel,rfl,by decide +kernel,by decide +kernel⟩
theorem ok_Ov (F:Fun K "overlap" "overlap" sOv f fd) (T:Gb mg):FnOk P w K mg base CX0 1 f fd ["one","next_one"] spOv:=by
 refine F.ok scOv (fun vs H Q E h=>?_) (fun cdv A outer s H vs Q E hr h=>?_)
 · obtain ⟨a,b,rfl,_⟩:=h
   rfl
 obtain ⟨a,b,rfl,ha,hb,q⟩:=h
 refine ⟨_,pss_consN (ps_set (i:=2) scOv.nd rfl (Or.inl rfl) (pe_op op_sub (pe_callB (call_min2 rfl) rfl T.b_min boot_min (pa_cons (pe_callB call_len_str rfl T.b_len PySem.boot_len (pa_cons (pv 0) pa_nil)) (pa_cons (pe_callB call_len_str rfl T.b_len PySem.boot_len (pa_cons (pv 1) pa_nil)) pa_nil))) pe_int))
  (pss_consN (ps_for PassesOwn.never rfl (pi_rangeD rfl T.b_range (pa_cons (pv 2) (pa_cons pe_int (pa_cons (pe_un un_neg pe_int) pa_nil)))) (pg_name (i:=3) scOv.nd rfl (Or.inl rfl))
   (pss_one (ps_if (pt_val (pe_bm PySem.F.plainAttrs_str PySem.F.slot_str_endswith PySem.F.type_str_endswith mt_endswith (pv 0) (pa_cons (pe_slice sl_str (pv 1) po_none (po_some (pv 3))) pa_nil))) (pss_one (ps_ret (pv 3))) pss_nil)))
  (pss_one (ps_ret pe_int))),?_⟩
 have hm:(if (b.length:Int) < a.length then (b.length:Int) else a.length)=((min a.length b.length:Nat):Int):=by split <;> omega
 intro Z hZ
 refine ⟨_,rfl,a,rfl,small ha,_,rfl,b,rfl,small hb,_,_,rfl,_,_,rfl,rfl,?_⟩
 rw [hm]
 refine hZ _ _ fun Y hY=>?_
 refine ⟨_,rfl,_,rfl,_,_,rfl,⟨by omega,by omega,by omega,by omega⟩,?_⟩
 have hn:(((min a.length b.length:Nat):Int) - 1 - 0).toNat=min a.length b.length - 1:=by omega
 rw [hn]
 refine for_step (fun i σ H'=>H'=H∧(∃ x,σ=[some (.str a),some (.str b),some (.int (((min a.length b.length:Nat):Int) - 1)),x])∧ovF a b=down (laps a b) (min a.length b.length - 1 - i)) ⟨rfl,⟨_,rfl⟩,rfl⟩ ?_ ?_
 · rintro i σ H' hi ⟨rfl,⟨x,rfl⟩,hd⟩
   have ek:(((min a.length b.length:Nat):Int) - 1)+(i:Int) * (-1)=((min a.length b.length - 1 - i:Nat):Int):=by omega
   obtain ⟨k,hk⟩:∃ k,min a.length b.length - 1 - i=k+1:=⟨min a.length b.length - 1 - i - 1,by omega⟩
   rw [ek,hk]
   rw [hk] at hd
   refine ⟨_,rfl,rfl,_,rfl,_,rfl,_,rfl,b,rfl,small hb,a,_,rfl,rfl,_,rfl,?_⟩
   refine ite2 (fun c=>?_) (fun c=>?_)
   · refine ⟨_,rfl,?_⟩
     have e:=down_hit (p:=laps a b) (n:=k) c
     rw [←e,←hd]
     exact q _ (Same.refl _)
   · refine ⟨rfl,⟨_,rfl⟩,?_⟩
     rw [hd,down_miss (p:=laps a b) (n:=k) c]
     congr 1
     omega
 · rintro σ H' ⟨rfl,_,hd⟩
   rw [Nat.sub_self] at hd
   have e:Q (.int (ovF a b)) H':=q _ (Same.refl _)
   rw [hd] at e
   exact hY _ _ e
theorem scBeyond:FnScope ["last","word"] ["last","word"] (defScope sBeyond):=⟨rfl,rfl,rfl,by decide +kernel,rfl,by decide +kernel,by decide +kernel⟩
theorem ok_Beyond (F:Fun K "beyond" "beyond" sBeyond f fd) (T:Gb mg) (G1:Has P w K mg base "overlap" 1 ["one","next_one"] spOv):FnOk P w K mg base CX0 2 f fd ["last","word"] spBeyond:=by
 refine F.ok scBeyond (fun vs H Q E h=>?_) (fun cdv A outer s H vs Q E hr h=>?_)
 · obtain ⟨a,b,rfl,_⟩:=h
   rfl
 obtain ⟨a,b,rfl,ha,hb,q⟩:=h
 refine ⟨_,pss_one (ps_ret (pe_slice sl_str (pv 1) (po_some (pe_has G1 hr (by rfl) (pa_cons (pv 0) (pa_cons (pv 1) pa_nil)))) po_none)),?_⟩
 refine ⟨_,rfl,_,rfl,_,rfl,a,b,rfl,ha,hb,fun H' s'=>?_⟩
 exact ⟨_,rfl,b,rfl,small hb,q H' s'⟩
theorem scOrd:FnScope ["book","order","number"] ["book","order"] (defScope sOrd):=⟨rfl,rfl,rfl,by decide +kernel,rfl,by decide +kernel,by decide +kernel⟩
theorem ok_Ord (F:Fun K "check_order" "check_order" sOrd f fd) (T:Gb mg):FnOk P w K mg base CX0 1 f fd ["book","order"] (spOrd K):=by
 refine F.ok scOrd (fun vs H Q E h=>?_) (fun cdv A outer s H vs Q E hr h=>?_)
 · obtain ⟨p,r,bs,os,rfl,_⟩:=h
   rfl
 obtain ⟨p,r,bs,os,rfl,hS,hR,hO,q⟩:=h
 refine ⟨_,pss_consN (ps_if (pt_cmpR op_eq (pe_callB call_len_seq rfl T.b_len PySem.boot_len (pa_cons (pv 1) pa_nil)) pe_int (nomark _)) pss_never pss_nil)
  (pss_consN (ps_for PassesOwn.never rfl (pi_list (pv 1)) (pg_name (i:=2) scOrd.nd rfl (Or.inl rfl)) (pss_one (ps_if (pt_not (pt_chain op_le op_lt pe_int (pv 2) (pe_callB call_len_seq rfl T.b_len PySem.boot_len (pa_cons (pv 0) pa_nil)))) pss_never pss_nil)))
  (pss_one (ps_if (pt_cmpR op_ne (pe_callB call_lenSet rfl T.b_len PySem.boot_len (pa_cons (pe_callTy (call_setI rfl) rfl T.b_set PyProof.Rows.boot_set (pa_cons (pv 1) pa_nil)) pa_nil)) (pe_callB call_len_seq rfl T.b_len PySem.boot_len (pa_cons (pv 1) pa_nil)) (nomark _)) pss_never pss_nil))),?_⟩
 have hlo:(os.map V.int).length=os.length:=List.length_map _
 have hlb:(bs.map V.str).length=bs.length:=List.length_map _
 have hle:=hO.le
 intro N hN
 refine ⟨_,rfl,r,_,rfl,.inl hR,rfl,_,rfl,?_⟩
 refine ite2 (fun c=>?_) (fun _=>?_)
 · have c':V.int (((os.map V.int).length:Nat):Int)=V.int 0:=of_decide_eq_true c
   injection c' with c'
   rw [hlo] at c'
   exact absurd (List.length_eq_zero_iff.mp (by omega)) hO.ne
 refine hN _ _ fun N hN=>?_
 refine ⟨_,rfl,r,rfl,⟨_,hR⟩,?_⟩
 refine for_list (xs:=os.map V.int) (fun i σ H'=>H'=H∧∃ kk,σ=[some (.ref p),some (.ref r),kk]) ⟨rfl,_,rfl⟩ ?_ ?_ ?_
 · rintro i σ H' _ ⟨rfl,_⟩
   exact hR
 · rintro i v σ H' hv ⟨rfl,kk,rfl⟩
   obtain ⟨o,eo,rfl⟩:=at_ints hv
   obtain ⟨o0,o1⟩:=hO.rng o (List.mem_of_getElem? eo)
   refine ⟨_,rfl,_,_,rfl,rfl,_,rfl,?_⟩
   refine ite2 (fun _=>?_) (fun c=>absurd (decide_eq_true o0) c)
   refine ⟨_,rfl,p,_,rfl,.inl hS,_,_,rfl,rfl,_,rfl,?_⟩
   exact iteNS (show o < (((bs.map V.str).length:Nat):Int) by rw [hlb]; exact o1) ⟨rfl,_,rfl⟩
 rintro σ H' ⟨rfl,kk,rfl⟩
 refine hN _ _ ?_
 refine ⟨_,rfl,r,os,rfl,hR,by omega,fun t ht=>?_⟩
 have s1:Same H' (upd H' t (.set (fun k'=>(firstMet (fun i=>os.getD i 0) os.length).any (· == k')) (firstMet (fun i=>os.getD i 0) os.length).length)):=same_new ht _
 refine ⟨t,_,_,rfl,upd_same,_,rfl,r,_,rfl,.inl (s1.seq hR),rfl,_,rfl,?_⟩
 refine iteNS ?_ (q _ s1)
 rw [firstMet_len hO.nd,hlo]
theorem scLaid:FnScope ["book","order","last","text","number","word"] ["book","order"] (defScope sLaid):=⟨rfl,rfl,rfl,by decide +kernel,rfl,by decide +kernel,by decide +kernel⟩
theorem ok_Laid (F:Fun K "laid" "laid" sLaid f fd) (T:Gb mg) (G1:Has P w K mg base "check_book" 3 ["book"] (spCheck K)) (G2:Has P w K mg base "check_order" 1 ["book","order"] (spOrd K)) (G3:Has P w K mg base "beyond" 2 ["last","word"] spBeyond):FnOk P w K mg base CX0 4 f fd ["book","order"] (spLaid K Good):=by
 refine F.ok scLaid (fun vs H Q E h=>?_) (fun cdv A outer s H vs Q E hr h=>?_)
 · obtain ⟨p,r,bs,os,rfl,_⟩:=h
   rfl
 obtain ⟨p,r,bs,os,rfl,hS,hR,hG,hW,hO,q⟩:=h
 have hr1:=hr.mono (show 1≤3 by decide)
 have hr2:=hr.mono (show 2≤3 by decide)
 refine ⟨_,pss_consN (ps_expr (pe_has G1 hr (by rfl) (pa_cons (pv 0) pa_nil)))
  (pss_consN (ps_expr (pe_has G2 hr1 (by rfl) (pa_cons (pv 0) (pa_cons (pv 1) pa_nil))))
  (pss_consN (ps_set (i:=2) scLaid.nd rfl (Or.inl rfl) (pe_ix ix_list (pv 0) (pe_ix ix_list (pv 1) pe_int (fun _ _=>rfl)) (fun _ _=>rfl)))
  (pss_consN (ps_set (i:=3) scLaid.nd rfl (Or.inl rfl) (pv 2))
  (pss_consN (ps_for PassesOwn.never rfl (pi_list (pe_slice sl_list (pv 1) (po_some pe_int) po_none)) (pg_name (i:=4) scLaid.nd rfl (Or.inl rfl))
   (pss_consN (ps_set (i:=5) scLaid.nd rfl (Or.inl rfl) (pe_ix ix_list (pv 0) (pv 4) (fun _ _=>rfl)))
   (pss_consN (ps_aug (i:=3) scLaid.nd rfl (Or.inl rfl) (pe_has G3 hr2 (by rfl) (pa_cons (pv 2) (pa_cons (pv 5) pa_nil))) iop_add_str)
   (pss_one (ps_set (i:=2) scLaid.nd rfl (Or.inl rfl) (pv 5))))))
  (pss_one (ps_ret (pv 3))))))),?_⟩
 intro Z hZ
 refine ⟨_,rfl,p,bs,rfl,hS,hG,fun H1 s1=>?_⟩
 refine hZ _ _ fun Z hZ=>?_
 refine ⟨_,rfl,_,rfl,p,r,bs,os,rfl,s1.seq hS,s1.seq hR,hO,fun H2 s2=>?_⟩
 have s12:=s1.trans s2
 have hS2:=s12.seq hS
 have hR2:=s12.seq hR
 obtain ⟨o,ot,eo⟩:∃ o ot,os=o::ot:=by
  cases e:os with
  | nil=>exact absurd e hO.ne
  | cons o ot=>exact ⟨o,ot,rfl⟩
 have hrng:=hO.rng
 have hole:=hO.le
 have olen:ot.length+1=os.length:=by rw [eo,List.length_cons]
 obtain ⟨o0,o1⟩:=hrng o (by rw [eo]; exact List.mem_cons_self)
 obtain ⟨mw,ew⟩:=at_word (bs:=bs) o0 o1
 have e0:atI (os.map V.int) 0=some (.int o):=by rw [eo]; exact atI_nat (j:=0) rfl
 refine hZ _ _ fun Z hZ=>?_
 refine ⟨_,rfl,_,rfl,r,_,_,_,rfl,rfl,hR2,e0,p,_,_,_,rfl,rfl,hS2,ew,?_⟩
 refine hZ _ _ fun Z hZ=>?_
 refine ⟨_,rfl,?_⟩
 refine hZ _ _ fun Z hZ=>?_
 refine ⟨_,rfl,_,rfl,r,_,rfl,hR2,fun t ht=>?_⟩
 rw [cut1]
 have ed:(os.map V.int).drop 1=ot.map V.int:=by rw [eo] <;> rfl
 rw [ed]
 have s3:Same H2 (upd H2 t (.lst (ot.map V.int))):=same_new ht _
 refine ⟨t,rfl,⟨_,SqL.of upd_same⟩,?_⟩
 have ht3:upd H2 t (.lst (ot.map V.int)) t=some (.lst (ot.map V.int)):=upd_same
 generalize upd H2 t (.lst (ot.map V.int))=H3 at s3 ht3 ⊢
 generalize hw0:bs.getD o.toNat ⟨#[]⟩=w0 at mw ew ⊢
 have hl0:=(hW w0 mw).le
 have hot:∀ o∈ot,0≤o∧o < (bs.length:Int):=fun o ho=>hrng o (by rw [eo]; exact List.mem_cons_of_mem _ ho)
 have hwl:=words_len hW hot
 refine for_list (xs:=ot.map V.int) (fun i σ H'=>Same H3 H'∧∃ u v,σ=[some (.ref p),some (.ref r),some (.str (((ordWords bs ot).take i).foldl layStep (w0,w0)).2),some (.str (((ordWords bs ot).take i).foldl layStep (w0,w0)).1),u,v]∧(((ordWords bs ot).take i).foldl layStep (w0,w0)).2∈bs) ⟨Same.refl _,_,_,rfl,mw⟩ ?_ ?_ ?_
 · rintro i σ H' _ ⟨hs,_⟩
   exact SqL.of (hs _ _ ht3)
 · rintro i v σ H' hv ⟨hs,u,v',rfl,hm⟩
   obtain ⟨o,eo',rfl⟩:=at_ints hv
   obtain ⟨q0,q1⟩:=hot o (List.mem_of_getElem? eo')
   obtain ⟨mo,eo2⟩:=at_word (bs:=bs) q0 q1
   have hi:i < ot.length:=(List.getElem?_eq_some_iff.mp eo').1
   have hS':=hs.seq (s3.seq hS2)
   have ex:(ordWords bs ot)[i]? = some (bs.getD o.toNat ⟨#[]⟩):=by unfold ordWords; rw [List.getElem?_map,eo'] <;> rfl
   have hll:=lay_len hwl (w0,w0) i
   have hlast:=lay_last (st:=(w0,w0)) ex
   generalize bs.getD o.toNat ⟨#[]⟩=x at mo eo2 ex hlast
   have hxl:=(hW x mo).le
   have hlw:=(hW _ hm).le
   rw [hlast]
   have hl1:(w0,w0).1.length≤10:=hl0
   generalize ((ordWords bs ot).take i).foldl layStep (w0,w0)=st at hm hll hlw hlast ⊢
   have hsl:=Txt.slice_le x (some ((ovF st.2 x:Nat):Int)) none
   intro Z hZ
   refine ⟨_,rfl,_,rfl,p,_,_,_,rfl,rfl,hS',eo2,?_⟩
   have hbl:(beyS st.2 x).length≤x.length:=hsl
   refine hZ _ _ fun Z hZ=>?_
   refine ⟨_,rfl,_,rfl,_,rfl,st.2,x,rfl,by omega,by omega,fun H4 s4=>?_⟩
   refine ⟨_,_,rfl,rfl,small (by omega),?_⟩
   refine hZ _ _ ?_
   exact ⟨_,rfl,hs.trans s4,_,_,rfl,mo⟩
 · rintro σ H' ⟨hs,u,v,rfl,_⟩
   refine hZ _ _ ?_
   refine ⟨_,rfl,?_⟩
   have e:(((ordWords bs ot).take (ot.map V.int).length).foldl layStep (w0,w0)).1=laidW (ordWords bs os):=by
    rw [List.take_of_length_le (by unfold ordWords; rw [List.length_map,List.length_map]; exact Nat.le_refl _),eo]
    show _=laidW (bs.getD o.toNat ⟨#[]⟩::ordWords bs ot)
    rw [hw0] <;> rfl
   rw [e]
   exact q H' (s12.trans (s3.trans hs))
theorem scChoices:FnScope ["numbers","found","number"] ["numbers"] (defScope sChoices):=⟨rfl,rfl,rfl,by decide +kernel,rfl,by decide +kernel,by decide +kernel⟩
theorem ndChoices0:(["chosen","number"]:List Str).Nodup:=by decide +kernel
theorem ok_Choices (F:Fun K "choices" "choices" sChoices f fd) (T:Gb mg):FnOk P w K mg base CX0 1 f fd ["numbers"] (spChoices K):=by
 refine F.ok scChoices (fun vs H Q E h=>?_) (fun cdv A outer s H vs Q E hr h=>?_)
 · obtain ⟨p,ns,rfl,_⟩:=h
   rfl
 obtain ⟨p,ns,rfl,hS,hn6,q⟩:=h
 refine ⟨_,pss_consN (ps_set (i:=1) scChoices.nd rfl (Or.inl rfl) (pe_lst (pa_cons (pe_tup pa_nil) pa_nil)))
  (pss_consN (ps_for PassesOwn.never rfl (pi_listK rfl (pv 0)) (pg_name (i:=2) scChoices.nd rfl (Or.inr rfl)) (pss_one (ps_set (i:=1) scChoices.nd rfl (Or.inl rfl) (pe_op op_cat (pv 1) (pe_comp (oN:=["numbers","found","number"]) (osc:=defScope sChoices) (N':=["chosen","number"]) (cap:=[none,some 2]) rfl rfl rfl (by decide +kernel) rfl (by decide +kernel) (by decide +kernel) (by decide +kernel) rfl
   (pi_listK rfl (pv 1)) (fun _ _ _ _ _=>pg_name (i:=0) ndChoices0 rfl (Or.inl rfl)) (fun _ _ _ _ _=>pif_none)
   (fun _ _ _ _ _=>(pe_op (op_catUK (K:=K) rfl) (pv 0) (pe_tup (pa_cons (pv 1) pa_nil)))))))))
  (pss_one (ps_ret (pv 1)))),?_⟩
 intro N hN
 refine ⟨(by show 0≤sizeLine; decide),fun e0 he0=>?_⟩
 have g0:=same_new he0 (.tup [])
 have he1:(upd H e0 (.tup [])) e0=some (.tup (([]:List Int).map V.int)):=upd_same
 generalize upd H e0 (.tup [])=H0 at g0 he1 ⊢
 refine ⟨(by show 1≤sizeLine; decide),fun R0 hR0=>?_⟩
 have g1:=g0.trans (same_new hR0 (.lst [.ref e0]))
 have hR0H:H R0=none:=g0.free hR0
 have hT1:Tups (upd H0 R0 (.lst [.ref e0])) [e0] (choF (ns.take 0)):=Tups.one (same_new hR0 _ _ _ he1)
 have hR1:(upd H0 R0 (.lst [.ref e0])) R0=some (.lst ([e0].map V.ref)):=upd_same
 generalize upd H0 R0 (.lst [.ref e0])=H1 at g1 hT1 hR1 ⊢
 refine hN _ _ fun N hN=>?_
 refine ⟨_,rfl,p,rfl,⟨_,g1.seq hS⟩,?_⟩
 refine for_list (xs:=ns.map V.int) (fun i σ H'=>Same H H'∧∃ (R:Addr) (ps:List Addr) (u:Option V),σ=[some (.ref p),some (.ref R),u]∧H R=none∧H' R=some (.lst (ps.map V.ref))∧Tups H' ps (choF (ns.take i))) ⟨g1,R0,[e0],_,rfl,hR0H,hR1,hT1⟩ ?_ ?_ ?_
 · rintro i σ H' _ ⟨hs,_⟩
   exact hs.seq hS
 · rintro i v σ H2 hv ⟨g2,R,ps,u,rfl,hRH,hR2,hT2⟩
   obtain ⟨n,en,rfl⟩:=at_ints hv
   have hi:i < ns.length:=(List.getElem?_eq_some_iff.mp en).1
   have hpl:ps.length=2 ^ i:=by rw [hT2.1,choF_len,List.length_take,Nat.min_eq_left (by omega)]
   have hp32:2 ^ i≤2 ^ 5:=Nat.pow_le_pow_right (by decide) (by omega)
   refine ⟨_,rfl,_,rfl,R,rfl,⟨_,SqL.of hR2⟩,fun D hD=>?_⟩
   have hDR:D≠R:=fun z=>by rw [z,hR2] at hD; cases hD
   refine turns_list (xs:=ps.map V.ref) (fun j σ H'=>(∃ kk,σ=[kk,some (.int n)])∧Same H2 H'∧∃ ts:List Addr,H' D=some (.lst (ts.map V.ref))∧Tups H' ts (((choF (ns.take i)).take j).map fun t=>t ++ [n])) ⟨⟨_,rfl⟩,same_new hD _,[],upd_same,Tups.nil⟩ ?_ ?_ ?_
   · rintro j σ H' _ ⟨_,s,_⟩
     exact SqL.of (s _ _ hR2)
   · rintro j x σ H3 hx ⟨⟨kk,rfl⟩,s3,ts,hD3,hT3⟩
     obtain ⟨c,ec,rfl⟩:=at_refs hx
     have hj:j < ps.length:=(List.getElem?_eq_some_iff.mp ec).1
     have hj2:j < (choF (ns.take i)).length:=by rw [←hT2.1]; exact hj
     have er:(choF (ns.take i))[j]? = some (choF (ns.take i))[j]:=List.getElem?_eq_getElem hj2
     have hct:=s3 _ _ (hT2.2 j c _ ec er)
     have htl:((choF (ns.take i))[j]).length≤6:=by
      have h1:=((mem_choF _ _).mp (List.mem_of_getElem? er)).length_le
      have h2:(ns.take i).length≤ns.length:=List.length_take_le' _ _
      omega
     generalize (choF (ns.take i))[j]=t at er hct htl
     have hml:(t.map V.int).length=t.length:=List.length_map _
     have hfin:∀ (H5:Hp) (c2:Addr),Same H3 H5→H5 c2=some (.tup ((t ++ [n]).map V.int))→∃ ys,H5 D=some (.lst ys)∧ys.length < sizeLine∧((∃ kk,[some (V.ref c),some (.int n)]=[kk,some (.int n)])∧Same H2 (upd H5 D (.lst (ys ++ [.ref c2])))∧∃ ts:List Addr,(upd H5 D (.lst (ys ++ [.ref c2]))) D=some (.lst (ts.map V.ref))∧Tups (upd H5 D (.lst (ys ++ [.ref c2]))) ts (((choF (ns.take i)).take (j+1)).map fun t=>t ++ [n])):=by
      intro H5 c2 s5 hc5
      have hD5:=s5 _ _ hD3
      refine ⟨_,hD5,?_,⟨_,rfl⟩,sameUpd (s3.trans s5) hD,ts ++ [c2],?_,?_⟩
      · rw [List.length_map,hT3.1,List.length_map,List.length_take]
        exact small1000 (by omega)
      · rw [upd_same,List.map_append]
        rfl
      · rw [take_snoc er,List.map_append]
        exact ((hT3.same s5).app (Tups.one hc5)).upd hD5
     refine gYes ?_
     refine ⟨_,rfl,_,rfl,(by show 1≤sizeLine; decide),fun o ho=>?_⟩
     have s4:=same_new ho (.tup [.int n])
     have ho4:(upd H3 o (.tup [.int n])) o=some (.tup [.int n]):=upd_same
     generalize upd H3 o (.tup [.int n])=H4 at s4 ho4 ⊢
     refine ⟨c,o,_,_,rfl,rfl,SqT.of (s4 _ _ hct),SqT.of ho4,(fun z=>nomatch z),(by rw [hml]; exact small (show t.length+1≤1000 by omega)),fun z=>?_,fun _ c2 hc2=>?_⟩
     · have ht0:t=[]:=List.map_eq_nil_iff.mp z
       exact hfin H4 o s4 (by rw [ho4,ht0]; rfl)
     · exact hfin _ c2 (s4.trans (same_new hc2 _)) (by rw [upd_same,List.map_append]; rfl)
   · rintro σ H3 ⟨_,s3,ts,hD3,hT3⟩
     have hR3:=s3 _ _ hR2
     rw [List.length_map,hT2.1,List.take_length] at hT3
     have htl:ts.length=2 ^ i:=by rw [hT3.1,List.length_map,←hT2.1]; exact hpl
     refine ⟨R,D,_,_,rfl,rfl,hR3,hD3,(by rw [List.length_map,List.length_map]; exact small (by omega)),fun R' hR'=>?_⟩
     refine ⟨(g2.trans s3).trans (same_new hR' _),R',ps ++ ts,_,rfl,(g2.trans s3).free hR',?_,?_⟩
     · rw [upd_same,List.map_append]
     · rw [take_snoc en,choF_snoc]
       exact ((hT2.same s3).app hT3).same (same_new hR' _)
 · rintro σ H2 ⟨g2,R,ps,u,rfl,hRH,hR2,hT2⟩
   rw [List.length_map,List.take_length] at hT2
   refine hN _ _ ?_
   exact ⟨_,rfl,q R ps H2 hRH g2 hR2 hT2⟩
theorem scLeft:FnScope ["numbers","standing"] ["numbers","standing"] (defScope sLeft):=⟨rfl,rfl,rfl,by decide +kernel,rfl,by decide +kernel,by decide +kernel⟩
theorem ndLeft0:(["number","standing"]:List Str).Nodup:=by decide +kernel
theorem ok_Left (F:Fun K "still_left" "still_left" sLeft f fd) (T:Gb mg):FnOk P w K mg base CX0 1 f fd ["numbers","standing"] (spLeft K):=by
 refine F.ok scLeft (fun vs H Q E h=>?_) (fun cdv A outer s H vs Q E hr h=>?_)
 · obtain ⟨r,a,ns,t,n,rfl,_⟩:=h
   rfl
 obtain ⟨r,a,ns,t,n,rfl,hN,hle,⟨b,ha,hb⟩,q⟩:=h
 refine ⟨_,pss_one (ps_ret (pe_comp (oN:=["numbers","standing"]) (osc:=defScope sLeft) (N':=["number","standing"]) (cap:=[none,some 1]) rfl rfl rfl (by decide +kernel) rfl (by decide +kernel) (by decide +kernel) (by decide +kernel) rfl
   (pi_listK rfl (pv 0)) (fun _ _ _ _ _=>pg_name (i:=0) ndLeft0 rfl (Or.inl rfl)) (fun _ _ _ _ _=>pif_one (pt_cmpR (op_notInK rfl) (pv 0) (pe_ix (ix_tupK rfl) (pv 1) pe_int (fun _ _=>rfl)) rfl))
   (fun _ _ _ _ _=>(pv 0)))),?_⟩
 refine ⟨_,rfl,r,rfl,⟨_,hN⟩,fun D hD=>?_⟩
 refine turns_list (xs:=ns.map V.int) (fun i σ H'=>(∃ kk,σ=[kk,some (.ref a)])∧Same H H'∧H' D=some (.lst ((leftOf (ns.take i) t).map V.int))) ⟨⟨_,rfl⟩,same_new hD _,upd_same⟩ ?_ ?_ ?_
 · rintro i σ H' _ ⟨_,hs,_⟩
   exact hs.seq hN
 · rintro i v σ H' hv ⟨⟨kk,rfl⟩,hs,hD'⟩
   obtain ⟨o,eo,rfl⟩:=at_ints hv
   have hi:i < ns.length:=(List.getElem?_eq_some_iff.mp eo).1
   refine ⟨_,rfl,_,rfl,a,_,_,_,rfl,rfl,SqT.of (hs _ _ ha),rfl,b,_,rfl,.inr (SqT.of (hs _ _ hb)),rfl,flat_ints t,_,rfl,?_⟩
   rw [inV_int]
   have es:leftOf (ns.take (i+1)) t=leftOf (ns.take i) t ++ (if (!t.contains o)=true then [o] else []):=by
    unfold leftOf
    rw [take_snoc eo,List.filter_append,List.filter_cons]
    rfl
   refine ite2 (fun c=>?_) (fun c=>?_)
   · have c':(!t.contains o)=true:=c
     refine ⟨_,rfl,_,hD',?_,⟨_,rfl⟩,sameUpd hs hD,?_⟩
     · rw [List.length_map]
       exact small1000 (Nat.le_trans (List.length_filter_le _ _) (by rw [List.length_take]; omega))
     · rw [upd_same,es,if_pos c',List.map_append]
       rfl
   · have c':¬ (!t.contains o)=true:=c
     refine ⟨⟨_,rfl⟩,hs,?_⟩
     rw [es,if_neg c',List.append_nil]
     exact hD'
 rintro σ H1 ⟨_,s1,hD1⟩
 rw [List.length_map,List.take_length] at hD1
 exact q D H1 hD s1 hD1
theorem scAlone:FnScope ["number"] ["number"] (defScope sAlone):=⟨rfl,rfl,rfl,by decide +kernel,rfl,by decide +kernel,by decide +kernel⟩
theorem ok_Alone (F:Fun K "standing_alone" "standing_alone" sAlone f fd) (T:Gb mg):FnOk P w K mg base CX0 1 f fd ["number"] spAlone:=by
 refine F.ok scAlone (fun vs H Q E h=>?_) (fun cdv A outer s H vs Q E hr h=>?_)
 · obtain ⟨n,rfl,_⟩:=h
   rfl
 obtain ⟨n,rfl,q⟩:=h
 refine ⟨_,pss_one (ps_ret (pe_tup (pa_cons (pe_tup (pa_cons (pv 0) pa_nil)) (pa_cons (pv 0) pa_nil)))),?_⟩
 refine ⟨_,rfl,(by show 1≤sizeLine; decide),fun b hb=>?_⟩
 have s1:=same_new hb (.tup [.int n])
 have hb1:(upd H b (.tup [.int n])) b=some (.tup [.int n]):=upd_same
 generalize upd H b (.tup [.int n])=H1 at s1 hb1 ⊢
 refine ⟨_,rfl,(by show 2≤sizeLine; decide),fun a ha=>?_⟩
 exact q a _ (s1.trans (same_new ha _)) ⟨b,upd_same,same_new ha _ _ _ hb1⟩
theorem scAfter:FnScope ["standing","number"] ["standing","number"] (defScope sAfter):=⟨rfl,rfl,rfl,by decide +kernel,rfl,by decide +kernel,by decide +kernel⟩
theorem ok_After (F:Fun K "standing_after" "standing_after" sAfter f fd) (T:Gb mg):FnOk P w K mg base CX0 1 f fd ["standing","number"] spAfter:=by
 refine F.ok scAfter (fun vs H Q E h=>?_) (fun cdv A outer s H vs Q E hr h=>?_)
 · obtain ⟨a,t,n,m,rfl,_⟩:=h
   rfl
 obtain ⟨a,t,n,m,rfl,⟨b,ha,hb⟩,hne,hle,q⟩:=h
 refine ⟨_,pss_one (ps_ret (pe_tup (pa_cons (pe_callTy (call_tupleLK (K:=K) rfl) rfl T.b_tuple PyProof.Rows.boot_tuple (pa_cons (pe_callB (call_sortedITK (K:=K) rfl) rfl T.b_sorted boot_sorted (pa_cons (pe_op (op_catUK (K:=K) rfl) (pe_ix (ix_tupK rfl) (pv 0) pe_int (fun _ _=>rfl)) (pe_tup (pa_cons (pv 1) pa_nil))) pa_nil)) pa_nil)) (pa_cons (pv 1) pa_nil)))),?_⟩
 have hml:(t.map V.int).length=t.length:=List.length_map _
 refine ⟨_,rfl,a,_,_,_,rfl,rfl,SqT.of ha,rfl,_,rfl,(by show 1≤sizeLine; decide),fun o ho=>?_⟩
 have s1:=same_new ho (.tup [.int m])
 have ho1:(upd H o (.tup [.int m])) o=some (.tup [.int m]):=upd_same
 generalize upd H o (.tup [.int m])=H1 at s1 ho1 ⊢
 refine ⟨b,o,_,_,rfl,rfl,SqT.of (s1 _ _ hb),SqT.of ho1,(fun z=>nomatch z),(by rw [hml]; exact small (show t.length+1≤1000 by omega)),(fun z=>absurd (List.map_eq_nil_iff.mp z) hne),fun _ p hp=>?_⟩
 have s2:=same_new hp (.tup (t.map V.int ++ [.int m]))
 have hp2:(upd H1 p (.tup (t.map V.int ++ [.int m]))) p=some (.tup ((t ++ [m]).map V.int)):=by rw [upd_same,List.map_append]; rfl
 generalize upd H1 p (.tup (t.map V.int ++ [.int m]))=H2 at s2 hp2 ⊢
 refine ⟨p,t ++ [m],rfl,SqT.of hp2,by rw [List.length_append,List.length_singleton]; omega,fun r u hr' hpm hpw=>?_⟩
 have s3:=same_new hr' (.lst (u.map V.int))
 have hr3:(upd H2 r (.lst (u.map V.int))) r=some (.lst (u.map V.int)):=upd_same
 generalize upd H2 r (.lst (u.map V.int))=H3 at s3 hr3 ⊢
 refine ⟨r,_,rfl,SqL.of hr3,fun c hc=>?_⟩
 have s4:=same_new hc (.tup (u.map V.int))
 have hc4:(upd H3 c (.tup (u.map V.int))) c=some (.tup (u.map V.int)):=upd_same
 generalize upd H3 c (.tup (u.map V.int))=H4 at s4 hc4 ⊢
 refine ⟨_,rfl,(by show 2≤sizeLine; decide),fun d hd=>?_⟩
 exact q d u _ ((((s1.trans s2).trans s3).trans s4).trans (same_new hd _)) hpm hpw ⟨c,upd_same,same_new hd _ _ _ hc4⟩
theorem scBehind:FnScope ["book","standing","number"] ["book","standing","number"] (defScope sBehind):=⟨rfl,rfl,rfl,by decide +kernel,rfl,by decide +kernel,by decide +kernel⟩
theorem ok_Behind (F:Fun K "put_behind" "put_behind" sBehind f fd) (T:Gb mg) (G1:Has P w K mg base "beyond" 2 ["last","word"] spBeyond):FnOk P w K mg base CX0 3 f fd ["book","standing","number"] (spBehind K):=by
 refine F.ok scBehind (fun vs H Q E h=>?_) (fun cdv A outer s H vs Q E hr h=>?_)
 · obtain ⟨p,a,bs,t,n,m,rfl,_⟩:=h
   rfl
 obtain ⟨p,a,bs,t,n,m,rfl,hS,⟨b,ha,hb⟩,hW,⟨n0,n1⟩,⟨m0,m1⟩,q⟩:=h
 refine ⟨_,pss_one (ps_ret (pe_has G1 hr (by rfl) (pa_cons (pe_ix (ix_listK rfl) (pv 0) (pe_ix (ix_tupK rfl) (pv 1) pe_int (fun _ _=>rfl)) (fun _ _=>rfl)) (pa_cons (pe_ix (ix_listK rfl) (pv 0) (pv 2) (fun _ _=>rfl)) pa_nil)))),?_⟩
 obtain ⟨mn,en⟩:=at_word (bs:=bs) n0 n1
 obtain ⟨mm,em⟩:=at_word (bs:=bs) m0 m1
 have l1:=(hW _ mn).le
 have l2:=(hW _ mm).le
 refine ⟨_,rfl,_,rfl,a,_,_,_,rfl,rfl,SqT.of ha,rfl,p,_,_,_,rfl,rfl,hS,en,_,rfl,_,rfl,p,_,_,_,rfl,rfl,hS,em,_,_,rfl,by omega,by omega,fun H' s'=>?_⟩
 exact q H' s'
theorem scHOf:FnScope ["book","numbers","standing","known","ways","number"] ["book","numbers","standing","known"] (defScope sHOf):=⟨rfl,rfl,rfl,by decide +kernel,rfl,by decide +kernel,by decide +kernel⟩
theorem ok_HOf (F:Fun K "height_of" "height_of" sHOf f fd) (T:Gb mg) (G1:Has P w K mg base "still_left" 1 ["numbers","standing"] (spLeft K)) (G2:Has P w K mg base "put_behind" 3 ["book","standing","number"] (spBehind K)) (G3:Has P w K mg base "standing_after" 1 ["standing","number"] spAfter):FnOk P w K mg base CX0 4 f fd ["book","numbers","standing","known"] (spHeightOf P w K):=by
 refine F.ok scHOf (fun vs H Q E h=>?_) (fun cdv A outer s H vs Q E hr h=>?_)
 · obtain ⟨p,r,a,d,bs,ns,t,n,es,ks,rfl,_⟩:=h
   rfl
 obtain ⟨p,r,a,d,bs,ns,t,n,es,ks,rfl,hS,hN,hSt,hKn,hKi,hNo,hsub,hnt,hks,q⟩:=h
 have hr1:=hr.mono (show 1≤3 by decide)
 refine ⟨_,pss_consN (ps_set (i:=4) scHOf.nd rfl (Or.inl rfl) (pe_lst pa_nil))
  (pss_consN (ps_for PassesOwn.never rfl (pi_listK rfl (pe_has G1 hr1 (by rfl) (pa_cons (pv 1) (pa_cons (pv 2) pa_nil)))) (pg_name (i:=5) scHOf.nd rfl (Or.inl rfl)) (pss_one (ps_expr (pe_bmK rfl PySem.F.plainAttrs_list PySem.F.slot_list_append PySem.F.type_list_append mt_append (pv 4) (pa_cons (pe_op op_add (pe_callB call_len_str rfl T.b_len PySem.boot_len (pa_cons (pe_has G2 hr (by rfl) (pa_cons (pv 0) (pa_cons (pv 2) (pa_cons (pv 5) pa_nil)))) pa_nil)) (pe_ix (ix_known (P:=P) (w:=w) rfl rfl (units_of hr)) (pv 3) (pe_has G3 hr1 (by rfl) (pa_cons (pv 2) (pa_cons (pv 5) pa_nil))) (fun _ _=>rfl))) pa_nil)))))
  (pss_one (ps_ret (pe_callBK (call_minD rfl) rfl T.b_min boot_min (pa_cons (pv 4) pa_nil) (pk_cons pe_int pk_nil))))),?_⟩
 have hW:=hNo.good.words
 have hle:=hNo.le
 have hll:(leftOf ns t).length≤6:=Nat.le_trans (leftOf_len ns t) hle
 have htl:=hsub.length_le
 have hnr:=hNo.rng n (hsub.subset hnt)
 -- the next standings,and their heights
 have hnx:∀ m∈leftOf ns t,plusI t m (plusF ns t m)∧Height (gWord bs) (leftOf ns (plusF ns t m)) m ((valS es (plusF ns t m,m)).getD 0).toNat∧valS es (plusF ns t m,m)=some (((valS es (plusF ns t m,m)).getD 0).toNat:Int):=fun m hm=>by
  have h1:=plusF_is hNo.up hsub hm
  obtain ⟨k,e1,e2⟩:=hKi.get (hks m hm _ h1)
  have e3:((valS es (plusF ns t m,m)).getD 0).toNat=k:=by rw [e1]; rfl
  rw [e3]
  exact ⟨h1,e2,e1⟩
 generalize hhh:(fun m:Int=>((valS es (plusF ns t m,m)).getD 0).toNat)=hh at *
 have hnx:∀ m∈leftOf ns t,plusI t m (plusF ns t m)∧Height (gWord bs) (leftOf ns (plusF ns t m)) m (hh m)∧valS es (plusF ns t m,m)=some (hh m:Int):=fun m hm=>by rw [←hhh]; exact hnx m hm
 intro Z hZ
 refine ⟨(by show 0≤sizeLine; decide),fun W hWn=>?_⟩
 have s1:=same_new hWn (.lst [])
 have hW1:(upd H W (.lst [])) W=some (.lst ([]:List V)):=upd_same
 generalize upd H W (.lst [])=H1 at s1 hW1 ⊢
 refine hZ _ _ fun Z hZ=>?_
 refine ⟨_,rfl,_,rfl,r,a,ns,t,n,rfl,s1.seq hN,by omega,hSt.mono fun _ _ e=>s1 _ _ e,fun L H2 hL s2 hL2=>?_⟩
 have g2:=s1.trans s2
 have hW2:=s2 _ _ hW1
 have hLW:L≠W:=fun z=>by rw [z,hW1] at hL; cases hL
 refine ⟨L,rfl,⟨_,SqL.of hL2⟩,?_⟩
 refine for_list (xs:=(leftOf ns t).map V.int) (fun i σ H'=>Same H H'∧H' L=some (.lst ((leftOf ns t).map V.int))∧H' W=some (.lst ((((leftOf ns t).take i).map fun m=>((takes (gWord bs n) (gWord bs m):Nat):Int)+(hh m:Int)).map V.int))∧∃ u,σ=[some (.ref p),some (.ref r),some (.ref a),some (.ref d),some (.ref W),u]) ⟨g2,hL2,hW2,_,rfl⟩ ?_ ?_ ?_
 · rintro i σ H' _ ⟨_,h,_⟩
   exact SqL.of h
 · rintro i v σ H3 hv ⟨g3,hL3,hW3,u,rfl⟩
   obtain ⟨m,em,rfl⟩:=at_ints hv
   have hi:i < (leftOf ns t).length:=(List.getElem?_eq_some_iff.mp em).1
   have hm:=List.mem_of_getElem? em
   obtain ⟨n1,n2,n3⟩:=hnx m hm
   have hmr:=hNo.rng m (mem_leftOf.mp hm).1
   have hbl:(beyS (wordAt bs n.toNat) (wordAt bs m.toNat)).length≤10:=Nat.le_trans (beyS_le _ _) (hW _ (at_word hmr.1 hmr.2).1).le
   have htk:(beyS (wordAt bs n.toNat) (wordAt bs m.toNat)).length=takes (gWord bs n) (gWord bs m):=beyS_len _ _
   refine ⟨_,rfl,.inl ⟨rfl,_,SqL.of hW3⟩,_,rfl,_,rfl,_,rfl,p,a,bs,t,n,m,rfl,g3.seq hS,hSt.mono fun _ _ e=>g3 _ _ e,hW,hnr,hmr,fun H4 s4=>?_⟩
   have g4:=g3.trans s4
   refine ⟨_,rfl,small (by omega),_,rfl,_,rfl,_,rfl,a,t,n,m,rfl,hSt.mono fun _ _ e=>g4 _ _ e,(fun z=>by rw [z] at hnt; cases hnt),by omega,fun b u' H5 s5 hpm hpw hb=>?_⟩
   have hu:u'=plusF ns t m:=(plusI_of (hNo.up.sub hsub) (mem_leftOf.mp hm).2 hpm hpw).unique n1
   subst hu
   have g5:=g4.trans s5
   have s35:=s4.trans s5
   have hW5:=s35 _ _ hW3
   refine ⟨d,b,es,(plusF ns t m,m),_,rfl,rfl,hKn.same g5,hb,n3,_,_,rfl,rfl,W,_,_,rfl,rfl,hW5,?_,sameUpd g5 hWn,?_,?_,_,rfl⟩
   · rw [List.length_map,List.length_map,List.length_take]
     exact small1000 (by omega)
   · rw [upd_ne hLW]
     exact s35 _ _ hL3
   · rw [upd_same,take_snoc em,List.map_append,List.map_append,htk]
     rfl
 · rintro σ H3 ⟨g3,hL3,hW3,u,rfl⟩
   rw [List.length_map,List.take_length] at hW3
   refine hZ _ _ ?_
   refine ⟨_,rfl,W,_,0,rfl,rfl,SqL.of hW3,fun e=>?_,fun x hx hle=>?_⟩
   · have e0:leftOf ns t=[]:=List.map_eq_nil_iff.mp e
     exact q 0 H3 g3 (by rw [e0]; exact Height.nil _ _)
   · obtain ⟨h,rfl,hH⟩:=height_ways hNo.up.nd (plusF ns t) hh (fun m hm=>⟨(hnx m hm).1,(hnx m hm).2.1⟩) hx hle
     exact q h H3 g3 hH
theorem scKnown:FnScope ["book","numbers","known","chosen","last","standing"] ["book","numbers"] (defScope sKnown):=⟨rfl,rfl,rfl,by decide +kernel,rfl,by decide +kernel,by decide +kernel⟩
theorem ok_Known (F:Fun K "known_heights" "known_heights" sKnown f fd) (T:Gb mg) (G1:Has P w K mg base "choices" 1 ["numbers"] (spChoices K)) (G2:Has P w K mg base "height_of" 4 ["book","numbers","standing","known"] (spHeightOf P w K)):FnOk P w K mg base CX0 5 f fd ["book","numbers"] (spKnown P w K):=by
 refine F.ok scKnown (fun vs H Q E h=>?_) (fun cdv A outer s H vs Q E hr h=>?_)
 · obtain ⟨p,r,bs,ns,rfl,_⟩:=h
   rfl
 obtain ⟨p,r,bs,ns,rfl,hS,hN,hNo,q⟩:=h
 have hr1:=hr.mono (show 1≤4 by decide)
 refine ⟨_,pss_consN (ps_set (i:=2) scKnown.nd rfl (Or.inl rfl) (pe_dnewSt (P:=P) (w:=w) rfl rfl))
  (pss_consN (ps_for PassesOwn.never rfl (pi_listK rfl (pe_sortedLen (K:=K) rfl rfl T.b_sorted rfl T.b_len (pe_has G1 hr1 (by rfl) (pa_cons (pv 1) pa_nil)))) (pg_name (i:=3) scKnown.nd rfl (Or.inl rfl)) (pss_one (ps_for PassesOwn.never rfl (pi_tupK rfl (pv 3)) (pg_name (i:=4) scKnown.nd rfl (Or.inl rfl)) (pss_consN (ps_set (i:=5) scKnown.nd rfl (Or.inl rfl) (pe_tup (pa_cons (pv 3) (pa_cons (pv 4) pa_nil))))
    (pss_one (ps_asg (pe_has G2 hr (by rfl) (pa_cons (pv 0) (pa_cons (pv 1) (pa_cons (pv 5) (pa_cons (pv 2) pa_nil))))) (pg_sub (pv 2) (pv 5) (set_known (P:=P) (w:=w) rfl rfl (units_of hr)))))))))
  (pss_one (ps_ret (pv 2)))),?_⟩
 have hle:=hNo.le
 intro Z hZ
 refine fun d hd=>?_
 have s1:=same_new hd (DictO P w d [])
 have hK1:KnownAt P w (upd H d (DictO P w d [])) d []:=KnownAt.new
 generalize upd H d (DictO P w d [])=H1 at s1 hK1 ⊢
 refine hZ _ _ fun Z hZ=>?_
 refine ⟨_,rfl,r,ns,rfl,s1.seq hN,hle,fun l ps H2 hl s2 hl2 hT2=>?_⟩
 have hpl:ps.length≤64:=by
  rw [hT2.1,choF_len]
  exact Nat.pow_le_pow_right (show 0 < 2 by decide) hle
 refine ⟨l,ps,choF ns,rfl,SqL.of hl2,hT2,by omega,fun R qs ms hR hpm hpw hTq=>?_⟩
 have s3:=same_new hR (.lst (qs.map V.ref))
 have hR3:(upd H2 R (.lst (qs.map V.ref))) R=some (.lst (qs.map V.ref)):=upd_same
 have g3:=(s1.trans s2).trans s3
 have hK3:=(hK1.same s2).same s3
 have hT3:=hTq.same s3
 have hRd:R≠d:=fun z=>by
  have:=(hK1.same s2).1
  rw [z] at hR
  rw [hR] at this
  cases this
 generalize upd H2 R (.lst (qs.map V.ref))=H3 at s3 hR3 g3 hK3 hT3 ⊢
 have hms:∀ t∈ms,t.Sublist ns:=fun t ht=>(mem_choF ns t).mp (hpm.mem_iff.mp ht)
 have hmnd:ms.Nodup:=hpm.nodup_iff.mpr (choF_nd hNo.up.nd)
 have hml:ms.length≤64:=by
  rw [hpm.length_eq,choF_len]
  exact Nat.pow_le_pow_right (show 0 < 2 by decide) hle
 have hupT:∀ {H':Hp} {es:List (SKey×Addr×Int)} {o:HO},KnownAt P w H' d es→Tups H' qs ms→Tups (upd H' d o) qs ms:=fun hk hT=>⟨hT.1,fun j p r ep er=>by
  have h:=hT.2 j p r ep er
  rw [upd_ne (ne_of h hk.1 (fun z=>nomatch z))]
  exact h⟩
 refine ⟨R,rfl,⟨_,SqL.of hR3⟩,?_⟩
 refine for_list (xs:=qs.map V.ref) (fun i σ H'=>Same H H'∧H' R=some (.lst (qs.map V.ref))∧Tups H' qs ms∧∃ (es:List (SKey×Addr×Int)) (u3 u4 u5:Option V),KnownAt P w H' d es∧KnownIs bs ns es ((ms.take i).flatMap standsAt)∧σ=[some (.ref p),some (.ref r),some (.ref d),u3,u4,u5]) ⟨g3,hR3,hT3,[],_,_,_,hK3,KnownIs.nil bs ns,rfl⟩ ?_ ?_ ?_
 · rintro i σ H' _ ⟨_,h,_⟩
   exact SqL.of h
 · rintro i v σ H4 hv ⟨g4,hR4,hT4,es0,u3,u4,u5,hK4,hI4,rfl⟩
   obtain ⟨c,ec,rfl⟩:=at_refs hv
   have hi:i < ms.length:=by rw [←hT4.1]; exact (List.getElem?_eq_some_iff.mp ec).1
   have et:ms[i]? = some ms[i]:=List.getElem?_eq_getElem hi
   generalize ms[i]=t at et
   have hct:=hT4.2 i c t ec et
   have htm:=List.mem_of_getElem? et
   have hsub:=hms t htm
   have htl:=hsub.length_le
   have htnd:=(hNo.up.sub hsub).nd
   have htni:t∉ms.take i:=fun z=>by
    obtain ⟨j,hj,e⟩:=List.getElem_of_mem z
    rw [List.length_take] at hj
    rw [List.getElem_take] at e
    have e2:ms[j]? = some t:=by rw [List.getElem?_eq_getElem (by omega),e]
    have:=(List.getElem?_inj (by omega) hmnd).mp (e2.trans et.symm)
    omega
   have hahead:∀ m∈leftOf ns t,∀ u,plusI t m u→(u,m)∈(ms.take i).flatMap standsAt:=fun m hm u hu=>by
    obtain ⟨p1,p2,p3⟩:=plus_sub hNo.up hsub hm hu
    exact mem_stands.mpr ⟨ahead_of hpw et (hpm.mem_iff.mpr ((mem_choF ns u).mpr p1)) (show t.length < u.length by omega),p3⟩
   have hkl:((ms.take i).flatMap standsAt).length≤384:=by
    have h1:=stands_len (cs:=ms.take i) (n:=6) fun u hu=>Nat.le_trans (hms u (List.mem_of_mem_take hu)).length_le hle
    have h2:(ms.take i).length≤64:=by rw [List.length_take]; omega
    have h3:(ms.take i).length * 6≤64 * 6:=Nat.mul_le_mul_right 6 h2
    omega
   refine ⟨_,rfl,c,rfl,⟨_,SqT.of hct⟩,?_⟩
   refine for_tup (xs:=t.map V.int) (fun j σ H'=>Same H H'∧H' R=some (.lst (qs.map V.ref))∧Tups H' qs ms∧∃ (es:List (SKey×Addr×Int)) (u4 u5:Option V),KnownAt P w H' d es∧KnownIs bs ns es ((ms.take i).flatMap standsAt ++ standsAt' t j)∧σ=[some (.ref p),some (.ref r),some (.ref d),some (.ref c),u4,u5]) ⟨g4,hR4,hT4,es0,_,_,hK4,by rw [show standsAt' t 0=[] from rfl,List.append_nil]; exact hI4,rfl⟩ ?_ ?_ ?_
   · rintro j σ H' _ ⟨_,_,hT,_⟩
     exact SqT.of (hT.2 i c t ec et)
   · rintro j v σ H5 hv ⟨g5,hR5,hT5,es,u4,u5,hK5,hI5,rfl⟩
     obtain ⟨n,en,rfl⟩:=at_ints hv
     have hj:j < t.length:=(List.getElem?_eq_some_iff.mp en).1
     have hnt:=List.mem_of_getElem? en
     have hc5:=hT5.2 i c t ec et
     intro Z hZ
     refine ⟨_,rfl,_,rfl,(by show 2≤sizeLine; decide),fun a ha=>?_⟩
     have s6:=same_new ha (.tup [.ref c,.int n])
     have hSt6:Stand (upd H5 a (.tup [.ref c,.int n])) a t n:=⟨c,upd_same,s6 _ _ hc5⟩
     generalize upd H5 a (.tup [.ref c,.int n])=H6 at s6 hSt6 ⊢
     have g6:=g5.trans s6
     refine hZ _ _ ?_
     refine ⟨_,rfl,_,rfl,_,rfl,_,rfl,p,r,a,d,bs,ns,t,n,es,_,rfl,g6.seq hS,g6.seq hN,hSt6,hK5.same s6,hI5,hNo,hsub,hnt,(fun m hm u hu=>List.mem_append_left _ (hahead m hm u hu)),fun h H7 s7 hH=>?_⟩
     have hK7:=(hK5.same s6).same s7
     have hSt7:Stand H7 a t n:=hSt6.mono fun _ _ e=>s7 _ _ e
     have hnew:(t,n)∉(ms.take i).flatMap standsAt ++ standsAt' t j:=fun z=>by
      rcases List.mem_append.mp z with z | z
      · exact htni (mem_stands.mp z).1
      · obtain ⟨x,hx,e⟩:=List.mem_map.mp z
        have ex:x=n:=congrArg Prod.snd e
        rw [ex] at hx
        obtain ⟨k,hk,ek⟩:=List.getElem_of_mem hx
        rw [List.length_take] at hk
        rw [List.getElem_take] at ek
        have e2:t[k]? = some n:=by rw [List.getElem?_eq_getElem (by omega),ek]
        have:=(List.getElem?_inj (by omega) htnd).mp (e2.trans en.symm)
        omega
     have hel:es.length < 1000:=by
      have h1:=congrArg List.length hI5.keys
      rw [List.length_map,List.length_append] at h1
      have h2:(standsAt' t j).length≤t.length:=by
       unfold standsAt'
       rw [List.length_map]
       exact List.length_take_le' _ _
      omega
     refine ⟨_,rfl,_,rfl,d,a,es,(t,n),h,rfl,rfl,rfl,hK7,hSt7,hI5.miss hnew,hel,?_⟩
     have g7:=g6.trans s7
     refine ⟨sameUpd g7 hd,?_,hupT hK7 ((hT5.same s6).same s7),es ++ [((t,n),a,(h:Int))],_,_,hK7.put hSt7,?_,rfl⟩
     · rw [upd_ne hRd]
       exact s7 _ _ (s6 _ _ hR5)
     · have e:standsAt' t (j+1)=standsAt' t j ++ [(t,n)]:=by
        unfold standsAt'
        rw [take_snoc en,List.map_append]
        rfl
       rw [e,←List.append_assoc]
       exact hI5.put hH
   · rintro σ H5 ⟨g5,hR5,hT5,es,u4,u5,hK5,hI5,rfl⟩
     refine ⟨g5,hR5,hT5,es,_,_,_,hK5,?_,rfl⟩
     have e1:standsAt' t (t.map V.int).length=standsAt t:=by
      unfold standsAt' standsAt
      rw [List.length_map,List.take_length]
     rw [e1] at hI5
     have e2:(ms.take (i+1)).flatMap standsAt=(ms.take i).flatMap standsAt ++ standsAt t:=by
      rw [take_snoc et,List.flatMap_append,List.flatMap_cons,List.flatMap_nil,List.append_nil]
     rw [e2]
     exact hI5
 · rintro σ H4 ⟨g4,hR4,hT4,es,u3,u4,u5,hK4,hI4,rfl⟩
   have e:ms.take (qs.map V.ref).length=ms:=by rw [List.length_map,hT4.1,List.take_length]
   rw [e] at hI4
   refine hZ _ _ ?_
   exact ⟨_,rfl,q d es ms H4 hd g4 hK4 hI4 hpm⟩
theorem scTFrom:FnScope ["book","known","text","standing","left","found","number","behind","after"] ["book","known","text","standing","left"] (defScope sTFrom):=⟨rfl,rfl,rfl,by decide +kernel,rfl,by decide +kernel,by decide +kernel⟩
theorem ok_TFrom (F:Fun K "texts_from" "texts_from" sTFrom f fd) (T:Gb mg) (B:Binds K fd ["book","known","text","standing","left"] []) (kp:W.keepIn K (.ref f)=true) (hmg:mg "texts_from"=some (.ref f)) (G1:Has P w K mg base "put_behind" 3 ["book","standing","number"] (spBehind K)) (G2:Has P w K mg base "standing_after" 1 ["standing","number"] spAfter) (G3:Has P w K mg base "still_left" 1 ["numbers","standing"] (spLeft K)):∀ N:Nat,FnOk P w K mg base CX0 (N+4) f fd ["book","known","text","standing","left"] (spTextsFrom P w K N)
 | 0=>by
  refine F.ok scTFrom (fun vs H Q E h=>?_) (fun cdv A outer s H vs Q E hr h=>?_)
  · obtain ⟨p,d,a,l,bs,ns,t,n,es,ks,text,rfl,_⟩:=h
    rfl
  obtain ⟨p,d,a,l,bs,ns,t,n,es,ks,text,rfl,hS,hKn,hKi,hall,hNo,hSt,hsub,hnt,hL,hlN,htx,q⟩:=h
  refine ⟨_,pss_consN (ps_if (pt_cmpR op_eq (pe_callB (call_lenK rfl) rfl T.b_len PySem.boot_len (pa_cons (pv 4) pa_nil)) pe_int (nomark _)) (pss_one (ps_ret (pe_lst (pa_cons (pv 2) pa_nil)))) pss_nil) pss_never,?_⟩
  have e0:leftOf ns t=[]:=List.length_eq_zero_iff.mp (by omega)
  intro Z hZ
  refine ⟨_,rfl,l,_,rfl,.inl hL,rfl,_,rfl,?_⟩
  rw [e0] at q ⊢
  refine ite2 (fun _=>?_) (fun c=>absurd (decide_eq_true rfl) c)
  refine ⟨_,rfl,(by show 1≤sizeLine; decide),fun r hr'=>?_⟩
  exact q r [text] _ hr' (same_new hr' _) upd_same texts_nil
 | N+1=>by
  have G4:Has P w K mg base "texts_from" (N+4) ["book","known","text","standing","left"] (spTextsFrom P w K N):=⟨f,fd,ok_TFrom F T B kp hmg G1 G2 G3 N,B,kp,hmg⟩
  refine F.ok scTFrom (fun vs H Q E h=>?_) (fun cdv A outer s H vs Q E hr h=>?_)
  · obtain ⟨p,d,a,l,bs,ns,t,n,es,ks,text,rfl,_⟩:=h
    rfl
  obtain ⟨p,d,a,l,bs,ns,t,n,es,ks,text,rfl,hS,hKn,hKi,hall,hNo,hSt,hsub,hnt,hL,hlN,htx,q⟩:=h
  have hr1:=hr.mono (show 1≤N+4 by omega)
  have hr3:=hr.mono (show 3≤N+4 by omega)
  refine ⟨_,pss_consN (ps_if (pt_cmpR op_eq (pe_callB (call_lenK rfl) rfl T.b_len PySem.boot_len (pa_cons (pv 4) pa_nil)) pe_int (nomark _)) (pss_one (ps_ret (pe_lst (pa_cons (pv 2) pa_nil)))) pss_nil)
   (pss_consN (ps_set (i:=5) scTFrom.nd rfl (Or.inl rfl) (pe_lst pa_nil))
   (pss_consN (ps_for PassesOwn.never rfl (pi_listK rfl (pv 4)) (pg_name (i:=6) scTFrom.nd rfl (Or.inl rfl)) (pss_consN (ps_set (i:=7) scTFrom.nd rfl (Or.inl rfl) (pe_has G1 hr3 (by rfl) (pa_cons (pv 0) (pa_cons (pv 3) (pa_cons (pv 6) pa_nil)))))
    (pss_consN (ps_set (i:=8) scTFrom.nd rfl (Or.inl rfl) (pe_has G2 hr1 (by rfl) (pa_cons (pv 3) (pa_cons (pv 6) pa_nil))))
    (pss_one (ps_if (pt_cmpR op_eq (pe_op op_add (pe_callB call_len_str rfl T.b_len PySem.boot_len (pa_cons (pv 7) pa_nil)) (pe_ix (ix_known (P:=P) (w:=w) rfl rfl (units_of hr)) (pv 1) (pv 8) (fun _ _=>rfl))) (pe_ix (ix_known (P:=P) (w:=w) rfl rfl (units_of hr)) (pv 1) (pv 3) (fun _ _=>rfl)) (nomark _)) (pss_one (ps_expr (pe_bmK rfl PySem.F.plainAttrs_list PySem.F.slot_list_extend PySem.F.type_list_extend mt_extend (pv 5) (pa_cons (pe_has G4 hr (by rfl) (pa_cons (pv 0) (pa_cons (pv 1) (pa_cons (pe_op op_add_str (pv 2) (pv 7)) (pa_cons (pv 8) (pa_cons (pe_has G3 hr1 (by rfl) (pa_cons (pv 4) (pa_cons (pv 8) pa_nil))) pa_nil)))))) pa_nil)))) pss_nil)))))
   (pss_one (ps_ret (pv 5))))),?_⟩
  have hW:=hNo.good.words
  have hle:=hNo.le
  have hll:(leftOf ns t).length≤6:=Nat.le_trans (leftOf_len ns t) hle
  have htl:=hsub.length_le
  have hnr:=hNo.rng n (hsub.subset hnt)
  obtain ⟨ht,ev,hH⟩:=hKi.get (hall t n hsub hnt)
  have hH':Height (gWord bs) (leftOf ns t) n ht:=hH
  intro Z hZ
  refine ⟨_,rfl,l,_,rfl,.inl hL,rfl,_,rfl,?_⟩
  refine ite2 (fun c=>?_) (fun c=>?_)
  · have c2:V.int (((leftOf ns t).map V.int).length:Nat)=V.int 0:=of_decide_eq_true c
    injection c2 with c2
    rw [List.length_map] at c2
    have e0:leftOf ns t=[]:=List.length_eq_zero_iff.mp (by omega)
    refine ⟨_,rfl,(by show 1≤sizeLine; decide),fun r hr'=>?_⟩
    exact q r [text] _ hr' (same_new hr' _) upd_same (by rw [e0]; exact texts_nil)
  have hne:leftOf ns t≠[]:=fun z=>c (decide_eq_true (by rw [z]; rfl))
  obtain ⟨k,hk⟩:∃ k,(leftOf ns t).length=k+1:=⟨(leftOf ns t).length - 1,by
   have:=List.length_pos_iff.mpr hne
   omega⟩
  have hfk:fac k≤720:=fac_le (by omega)
  refine hZ _ _ fun Z hZ=>?_
  refine ⟨(by show 0≤sizeLine; decide),fun R hR=>?_⟩
  have s1:=same_new hR (.lst [])
  have hR1:(upd H R (.lst [])) R=some (.lst (([]:List Str).map V.str)):=upd_same
  generalize upd H R (.lst [])=H1 at s1 hR1 ⊢
  refine hZ _ _ fun Z hZ=>?_
  refine ⟨_,rfl,l,rfl,⟨_,s1.seq hL⟩,?_⟩
  refine for_list (xs:=(leftOf ns t).map V.int) (fun i σ H'=>Same H H'∧∃ (ts:List Str) (u6 u7 u8:Option V),σ=[some (.ref p),some (.ref d),some (.str text),some (.ref a),some (.ref l),some (.ref R),u6,u7,u8]∧H' R=some (.lst (ts.map V.str))∧(∀ x,x∈ts↔∃ m∈(leftOf ns t).take i,Via bs (leftOf ns t) n text m x)∧ts.length≤i * fac k) ⟨s1,[],_,_,_,rfl,hR1,(fun x=>⟨(fun z=>by cases z),(fun ⟨m,hm,_⟩=>by rw [List.take_zero] at hm; cases hm)⟩),Nat.zero_le _⟩ ?_ ?_ ?_
  · rintro i σ H' _ ⟨hs,_⟩
    exact hs.seq hL
  · rintro i v σ H3 hv ⟨g3,ts,u6,u7,u8,rfl,hR3,hm3,hl3⟩
    obtain ⟨m,em,rfl⟩:=at_ints hv
    have hi:i < (leftOf ns t).length:=(List.getElem?_eq_some_iff.mp em).1
    have hm:=List.mem_of_getElem? em
    have hmr:=hNo.rng m (mem_leftOf.mp hm).1
    have hbl:(beyS (wordAt bs n.toNat) (wordAt bs m.toNat)).length≤10:=Nat.le_trans (beyS_le _ _) (hW _ (at_word hmr.1 hmr.2).1).le
    have htk:(beyS (wordAt bs n.toNat) (wordAt bs m.toNat)).length=takes (gWord bs n) (gWord bs m):=beyS_len _ _
    intro Z hZ
    refine ⟨_,rfl,_,rfl,_,rfl,p,a,bs,t,n,m,rfl,g3.seq hS,hSt.mono fun _ _ e=>g3 _ _ e,hW,hnr,hmr,fun H4 s4=>?_⟩
    have g4:=g3.trans s4
    refine hZ _ _ fun Z hZ=>?_
    refine ⟨_,rfl,_,rfl,a,t,n,m,rfl,hSt.mono fun _ _ e=>g4 _ _ e,(fun z=>by rw [z] at hnt; cases hnt),by omega,fun b u H5 s5 hpm hpw hb=>?_⟩
    have hu:=plusI_of (hNo.up.sub hsub) (mem_leftOf.mp hm).2 hpm hpw
    have g5:=g4.trans s5
    have hR5:=s5 _ _ (s4 _ _ hR3)
    obtain ⟨p1,p2,p3⟩:=plus_sub hNo.up hsub hm hu
    obtain ⟨hmh,emh,hHm⟩:=hKi.get (hall u m p1 p3)
    have hHm':Height (gWord bs) (leftOf ns u) m hmh:=hHm
    have hperm:=left_perm hNo.up.nd hm hu
    have hlu:(leftOf ns u).length=k:=by
     have:=hperm.length_eq
     rw [List.length_cons] at this
     omega
    refine hZ _ _ ?_
    refine ⟨_,rfl,_,rfl,small (by omega),_,rfl,_,rfl,d,b,es,(u,m),_,rfl,rfl,hKn.same g5,hb,emh,_,_,rfl,rfl,_,rfl,_,rfl,d,a,es,(t,n),_,rfl,rfl,hKn.same g5,hSt.mono fun _ _ e=>g5 _ _ e,ev,rfl,_,rfl,?_⟩
    have hex:∀ x:Str,(∃ m'∈(leftOf ns t).take (i+1),Via bs (leftOf ns t) n text m' x)↔(∃ m'∈(leftOf ns t).take i,Via bs (leftOf ns t) n text m' x)∨Via bs (leftOf ns t) n text m x:=fun x=>by
     rw [take_snoc em]
     constructor
     · rintro ⟨m',hm',hv⟩
       rcases List.mem_append.mp hm' with z | z
       · exact .inl ⟨m',z,hv⟩
       · rw [List.mem_singleton.mp z] at hv; exact .inr hv
     · rintro (⟨m',hm',hv⟩ | hv)
       · exact ⟨m',List.mem_append_left _ hm',hv⟩
       · exact ⟨m,List.mem_append_right _ (List.mem_singleton.mpr rfl),hv⟩
    refine ite2 (fun c=>?_) (fun c=>?_)
    · have c2:V.int (((beyS (wordAt bs n.toNat) (wordAt bs m.toNat)).length:Nat)+(hmh:Int))=V.int (ht:Int):=of_decide_eq_true c
      injection c2 with c2
      have c3:takes (gWord bs n) (gWord bs m)+hmh=ht:=by omega
      have hll2:=left_left (ns:=ns) hu
      refine ⟨_,rfl,.inl ⟨rfl,_,SqL.of hR5⟩,_,rfl,_,rfl,_,rfl,_,rfl,_,_,rfl,rfl,small (by omega),_,rfl,_,rfl,_,rfl,l,b,leftOf ns t,u,m,rfl,g5.seq hL,by omega,hb,fun l' H6 hl' s6 hl6=>?_⟩
      rw [hll2] at hl6
      have g6:=g5.trans s6
      have hcat:(text ++ beyS (wordAt bs n.toNat) (wordAt bs m.toNat)).length=text.length+(beyS (wordAt bs n.toNat) (wordAt bs m.toNat)).length:=by
       rw [←cs_len,cs_app,List.length_append,cs_len,cs_len]
      refine ⟨p,d,b,l',bs,ns,u,m,es,ks,text ++ beyS (wordAt bs n.toNat) (wordAt bs m.toNat),rfl,g6.seq hS,hKn.same g6,hKi,hall,hNo,hb.mono (fun _ _ e=>s6 _ _ e),p1,p3,SqL.of hl6,by omega,by rw [hcat,hlu]; omega,fun r' ts' H7 hr' s7 hr7 T'=>?_⟩
      have hR7:=s7 _ _ (s6 _ _ hR5)
      have hlt:=T'.len
      rw [hlu] at hlt
      have h720:i * fac k≤6 * 720:=Nat.mul_le_mul (by omega) hfk
      refine ⟨R,r',_,_,rfl,rfl,hR7,hr7,(by rw [List.length_map,List.length_map,sizeLine_eq]; omega),sameUpd (g6.trans s7) hR,ts ++ ts',_,_,_,rfl,by rw [upd_same,List.map_append],fun x=>?_,?_⟩
      · rw [List.mem_append,hm3,hex,via_yes hH' hperm hHm' c3 T' x]
      · rw [List.length_append,Nat.succ_mul]
        omega
    · have c3:takes (gWord bs n) (gWord bs m)+hmh≠ht:=fun z=>c (decide_eq_true (by
       show V.int (((beyS (wordAt bs n.toNat) (wordAt bs m.toNat)).length:Nat)+(hmh:Int))=V.int (ht:Int)
       rw [htk]
       congr 1
       omega))
      refine ⟨g5,ts,_,_,_,rfl,hR5,fun x=>?_,by rw [Nat.succ_mul]; omega⟩
      rw [hm3,hex]
      constructor
      · exact .inl
      · rintro (z | z)
        · exact z
        · exact absurd z (via_no hH' hperm hHm' c3 x)
  · rintro σ H3 ⟨g3,ts,u6,u7,u8,rfl,hR3,hm3,hl3⟩
    rw [List.length_map] at hm3 hl3
    rw [List.take_length] at hm3
    refine hZ _ _ ?_
    refine ⟨_,rfl,q R ts H3 hR g3 hR3 (texts_of_via hne hm3 ?_)⟩
    rw [hk] at hl3 ⊢
    exact hl3
theorem scAll:FnScope ["book","numbers","known","fewest","found","number","alone"] ["book"] (defScope sAll):=⟨rfl,rfl,rfl,by decide +kernel,rfl,by decide +kernel,by decide +kernel⟩
theorem ndAll0:(["number","known","book"]:List Str).Nodup:=by decide +kernel
theorem ok_All (F:Fun K "all_shortest" "all_shortest" sAll f fd) (T:Gb mg) (G1:Has P w K mg base "kept" 4 ["book"] (spNew K Good keptF)) (G2:Has P w K mg base "known_heights" 5 ["book","numbers"] (spKnown P w K)) (G3:Has P w K mg base "standing_alone" 1 ["number"] spAlone) (G4:Has P w K mg base "still_left" 1 ["numbers","standing"] (spLeft K)) (G5:Has P w K mg base "texts_from" 10 ["book","known","text","standing","left"] (spTextsFrom P w K 6)):FnOk P w K mg base CX0 11 f fd ["book"] (spAllW K):=by
 refine F.ok scAll (fun vs H Q E h=>?_) (fun cdv A outer s H vs Q E hr h=>?_)
 · obtain ⟨p,bs,rfl,_⟩:=h
   rfl
 obtain ⟨p,bs,rfl,hS,hG,q⟩:=h
 have hr1:=hr.mono (show 1≤10 by decide)
 have hr4:=hr.mono (show 4≤10 by decide)
 have hr5:=hr.mono (show 5≤10 by decide)
 refine ⟨_,pss_consN (ps_set (i:=1) scAll.nd rfl (Or.inl rfl) (pe_has G1 hr4 (by rfl) (pa_cons (pv 0) pa_nil)))
  (pss_consN (ps_set (i:=2) scAll.nd rfl (Or.inr rfl) (pe_has G2 hr5 (by rfl) (pa_cons (pv 0) (pa_cons (pv 1) pa_nil))))
  (pss_consN (ps_set (i:=3) scAll.nd rfl (Or.inl rfl) (pe_callB (call_minI rfl) rfl T.b_min boot_min (pa_cons (pe_comp (oN:=["book","numbers","known","fewest","found","number","alone"]) (osc:=defScope sAll) (N':=["number","known","book"]) (cap:=[none,some 2,some 0]) rfl rfl rfl (by decide +kernel) rfl (by decide +kernel) (by decide +kernel) (by decide +kernel) rfl
   (pi_listK rfl (pv 1)) (fun _ _ _ _ _=>pg_name (i:=0) ndAll0 rfl (Or.inl rfl)) (fun _ _ _ _ _=>pif_none)
   (fun _ _ _ _ _=>(pe_op op_add (pe_callB call_len_str rfl T.b_len PySem.boot_len (pa_cons (pe_ix (ix_listK rfl) (pv 2) (pv 0) (fun _ _=>rfl)) pa_nil)) (pe_ix (ix_known (P:=P) (w:=w) rfl rfl (units_of hr)) (pv 1) (pe_has G3 hr1 (by rfl) (pa_cons (pv 0) pa_nil)) (fun _ _=>rfl))))) pa_nil)))
  (pss_consN (ps_set (i:=4) scAll.nd rfl (Or.inl rfl) (pe_lst pa_nil))
  (pss_consN (ps_for PassesOwn.never rfl (pi_listK rfl (pv 1)) (pg_name (i:=5) scAll.nd rfl (Or.inl rfl)) (pss_consN (ps_set (i:=6) scAll.nd rfl (Or.inl rfl) (pe_has G3 hr1 (by rfl) (pa_cons (pv 5) pa_nil)))
   (pss_one (ps_if (pt_cmpR op_eq (pe_op op_add (pe_callB call_len_str rfl T.b_len PySem.boot_len (pa_cons (pe_ix (ix_listK rfl) (pv 0) (pv 5) (fun _ _=>rfl)) pa_nil)) (pe_ix (ix_known (P:=P) (w:=w) rfl rfl (units_of hr)) (pv 2) (pv 6) (fun _ _=>rfl))) (pv 3) (nomark _)) (pss_one (ps_expr (pe_bmK rfl PySem.F.plainAttrs_list PySem.F.slot_list_extend PySem.F.type_list_extend mt_extend (pv 4) (pa_cons (pe_has G5 hr (by rfl) (pa_cons (pv 0) (pa_cons (pv 2) (pa_cons (pe_ix (ix_listK rfl) (pv 0) (pv 5) (fun _ _=>rfl)) (pa_cons (pv 6) (pa_cons (pe_has G4 hr1 (by rfl) (pa_cons (pv 1) (pa_cons (pv 6) pa_nil))) pa_nil)))))) pa_nil)))) pss_nil))))
  (pss_one (ps_ret (pe_callB (call_sortedSetK (P:=P) (w:=w) rfl rfl rfl) rfl T.b_sorted boot_sorted (pa_cons (pe_callTy (call_setSK (P:=P) (w:=w) (K:=K) rfl rfl rfl rfl) rfl T.b_set PyProof.Rows.boot_set (pa_cons (pv 4) pa_nil)) pa_nil)))))))),?_⟩
 have hle6:=hG.le
 have hW:=hG.words
 have hkl:(keptF bs).length≤6:=by rw [keptF_len]; have:=keptN_le bs; omega
 have hNo:NumsOf bs (keptF bs):=⟨hG,keptF_up bs,hkl,fun o ho=>keptF_rng ho⟩
 have hne:keptF bs≠[]:=kept_ne hG.pos fun b hb=>(hW b hb).pos
 -- numbers
 intro Z hZ
 refine ⟨_,rfl,p,bs,rfl,hS,hG,by omega,fun r H1 hr0 s1 hr1'=>?_⟩
 -- known
 refine hZ _ _ fun Z hZ=>?_
 refine ⟨_,rfl,_,rfl,p,r,bs,keptF bs,rfl,s1.seq hS,SqL.of hr1',hNo,fun d es chs H2 hd s2 hK2 hI2 hch=>?_⟩
 have g2:=s1.trans s2
 have hr2:=s2 _ _ hr1'
 have hall:∀ (t:List Int) (n:Int),t.Sublist (keptF bs)→n∈t→(t,n)∈chs.flatMap standsAt:=fun t n ht hn=>mem_stands.mpr ⟨hch.mem_iff.mpr ((mem_choF _ t).mpr ht),hn⟩
 have hone:∀ n∈keptF bs,[n].Sublist (keptF bs):=fun n hn=>List.singleton_sublist.mpr hn
 -- each word alone
 have hnx:∀ n∈keptF bs,(n::leftOf (keptF bs) [n]).Perm (keptF bs)∧Height (gWord bs) (leftOf (keptF bs) [n]) n ((valS es ([n],n)).getD 0).toNat∧valS es ([n],n)=some (((valS es ([n],n)).getD 0).toNat:Int):=fun n hn=>by
  obtain ⟨k,e1,e2⟩:=hI2.get (hall [n] n (hone n hn) (List.mem_singleton.mpr rfl))
  have e3:((valS es ([n],n)).getD 0).toNat=k:=by rw [e1]; rfl
  rw [e3]
  refine ⟨?_,e2,e1⟩
  have hl0:leftOf (keptF bs) []=keptF bs:=by
   unfold leftOf
   exact List.filter_eq_self.mpr fun x _=>rfl
  have:=left_perm (t:=[]) (u:=[n]) (keptF_nd bs) (by rw [hl0]; exact hn) ⟨List.pairwise_singleton _ _,fun x=>by simp⟩
  rw [hl0] at this
  exact this
 generalize hhh:(fun n:Int=>((valS es ([n],n)).getD 0).toNat)=hh at *
 have hnx:∀ n∈keptF bs,(n::leftOf (keptF bs) [n]).Perm (keptF bs)∧Height (gWord bs) (leftOf (keptF bs) [n]) n (hh n)∧valS es ([n],n)=some (hh n:Int):=fun n hn=>by rw [←hhh]; exact hnx n hn
 -- fewest
 refine hZ _ _ fun Z hZ=>?_
 refine ⟨_,rfl,r,rfl,⟨_,SqL.of hr2⟩,fun D hD=>?_⟩
 refine turns_list (xs:=(keptF bs).map V.int) (fun i σ H'=>(∃ kk,σ=[kk,some (.ref d),some (.ref p)])∧Same H2 H'∧H' D=some (.lst ((((keptF bs).take i).map fun n=>(((wordAt bs n.toNat).length:Nat):Int)+(hh n:Int)).map V.int))) ⟨⟨_,rfl⟩,same_new hD _,upd_same⟩ ?_ ?_ ?_
 · rintro i σ H' _ ⟨_,hs,_⟩
   exact SqL.of (hs _ _ hr2)
 · rintro i v σ H3 hv ⟨⟨kk,rfl⟩,s3,hD3⟩
   obtain ⟨n,en,rfl⟩:=at_ints hv
   have hi:i < (keptF bs).length:=(List.getElem?_eq_some_iff.mp en).1
   have hn:=List.mem_of_getElem? en
   obtain ⟨_,_,n3⟩:=hnx n hn
   have hnr:=keptF_rng hn
   obtain ⟨mn,ew⟩:=at_word (bs:=bs) hnr.1 hnr.2
   have hwl:=(hW _ mn).le
   refine gYes ?_
   refine ⟨_,rfl,_,rfl,p,_,_,_,rfl,rfl,(g2.trans s3).seq hS,ew,_,rfl,small (by omega),_,rfl,_,rfl,n,rfl,fun a H4 s4 hSt=>?_⟩
   refine ⟨d,a,es,([n],n),_,rfl,rfl,(hK2.same s3).same s4,hSt,n3,_,_,rfl,rfl,_,s4 _ _ hD3,?_,⟨_,rfl⟩,sameUpd (s3.trans s4) hD,?_⟩
   · rw [List.length_map,List.length_map,List.length_take]
     exact small1000 (by omega)
   · rw [upd_same,take_snoc en,List.map_append,List.map_append]
     rfl
 rintro σ H3 ⟨_,s3,hD3⟩
 rw [List.length_map,List.take_length] at hD3
 refine ⟨D,_,rfl,SqL.of hD3,(fun z=>hne (List.map_eq_nil_iff.mp z)),fun few hfm hfl=>?_⟩
 obtain ⟨n0,hn0,efew⟩:=List.mem_map.mp hfm
 obtain ⟨fw,hfw⟩:∃ fw:Nat,few=(fw:Int):=⟨(wordAt bs n0.toNat).length+hh n0,by rw [←efew]; omega⟩
 subst hfw
 have g3:=g2.trans s3
 have hfl2:∀ n∈keptF bs,fw≤(wordAt bs n.toNat).length+hh n:=fun n hn=>by
  have:=hfl _ (List.mem_map.mpr ⟨n,hn,rfl⟩)
  omega
 -- found
 refine hZ _ _ fun Z hZ=>?_
 refine ⟨(by show 0≤sizeLine; decide),fun R hR=>?_⟩
 have s4:=same_new hR (.lst [])
 have hR4:(upd H3 R (.lst [])) R=some (.lst (([]:List Str).map V.str)):=upd_same
 have hRH:H R=none:=g3.free hR
 generalize upd H3 R (.lst [])=H4 at s4 hR4 ⊢
 have g4:=g3.trans s4
 have hr4':=s4 _ _ (s3 _ _ hr2)
 have hK4:=(hK2.same s3).same s4
 have hrR:r≠R:=fun z=>by
  have:=s3 _ _ hr2
  rw [z,hR] at this
  cases this
 have hdR:d≠R:=fun z=>by
  have:=(hK2.same s3).1
  rw [z,hR] at this
  cases this
 have hupK:∀ {H':Hp} {o:HO} {xs:List V},H' R=some (.lst xs)→KnownAt P w H' d es→KnownAt P w (upd H' R o) d es:=fun hR' hk=>⟨by rw [upd_ne hdR]; exact hk.1,hk.2.upd hR'⟩
 refine hZ _ _ fun Z hZ=>?_
 refine ⟨_,rfl,r,rfl,⟨_,SqL.of hr4'⟩,?_⟩
 refine for_list (xs:=(keptF bs).map V.int) (fun i σ H'=>Same H H'∧H' r=some (.lst ((keptF bs).map V.int))∧KnownAt P w H' d es∧∃ (ts:List Str) (u5 u6:Option V),σ=[some (.ref p),some (.ref r),some (.ref d),some (.int (fw:Int)),some (.ref R),u5,u6]∧H' R=some (.lst (ts.map V.str))∧(∀ x,x∈ts↔∃ n∈(keptF bs).take i,ViaA bs (keptF bs) fw n x)∧ts.length≤i * 120) ⟨g4,hr4',hK4,[],_,_,rfl,hR4,(fun x=>⟨(fun z=>by cases z),(fun ⟨m,hm,_⟩=>by rw [List.take_zero] at hm; cases hm)⟩),Nat.zero_le _⟩ ?_ ?_ ?_
 · rintro i σ H' _ ⟨_,h,_⟩
   exact SqL.of h
 · rintro i v σ H5 hv ⟨g5,hr5',hK5,ts,u5,u6,rfl,hR5,hm5,hl5⟩
   obtain ⟨n,en,rfl⟩:=at_ints hv
   have hi:i < (keptF bs).length:=(List.getElem?_eq_some_iff.mp en).1
   have hn:=List.mem_of_getElem? en
   obtain ⟨hperm,hH,n3⟩:=hnx n hn
   have hnr:=keptF_rng hn
   obtain ⟨mn,ew⟩:=at_word (bs:=bs) hnr.1 hnr.2
   have hwl:=(hW _ mn).le
   have hwl2:(wordAt bs n.toNat).length≤10:=hwl
   have hlu:(leftOf (keptF bs) [n]).length+1=(keptF bs).length:=by
    have:=hperm.length_eq
    rw [List.length_cons] at this
    exact this
   intro Z hZ
   refine ⟨_,rfl,n,rfl,fun a H6 s6 hSt=>?_⟩
   have g6:=g5.trans s6
   have hK6:=hK5.same s6
   have hR6:=s6 _ _ hR5
   refine hZ _ _ ?_
   refine ⟨_,rfl,_,rfl,p,_,_,_,rfl,rfl,g6.seq hS,ew,_,rfl,small (by omega),_,rfl,_,rfl,d,a,es,([n],n),_,rfl,rfl,hK6,hSt,n3,_,_,rfl,rfl,_,rfl,rfl,_,rfl,?_⟩
   have hex:∀ x:Str,(∃ m'∈(keptF bs).take (i+1),ViaA bs (keptF bs) fw m' x)↔(∃ m'∈(keptF bs).take i,ViaA bs (keptF bs) fw m' x)∨ViaA bs (keptF bs) fw n x:=fun x=>by
    rw [take_snoc en]
    constructor
    · rintro ⟨m',hm',hv⟩
      rcases List.mem_append.mp hm' with z | z
      · exact .inl ⟨m',z,hv⟩
      · rw [List.mem_singleton.mp z] at hv; exact .inr hv
    · rintro (⟨m',hm',hv⟩ | hv)
      · exact ⟨m',List.mem_append_left _ hm',hv⟩
      · exact ⟨n,List.mem_append_right _ (List.mem_singleton.mpr rfl),hv⟩
   refine ite2 (fun c=>?_) (fun c=>?_)
   · have c2:V.int (((wordAt bs n.toNat).length:Nat)+(hh n:Int))=V.int (fw:Int):=of_decide_eq_true c
     injection c2 with c2
     have c3:(wordAt bs n.toNat).length+hh n=fw:=by omega
     refine ⟨_,rfl,.inl ⟨rfl,_,SqL.of hR6⟩,_,rfl,_,rfl,_,rfl,_,rfl,p,_,_,_,rfl,rfl,g6.seq hS,ew,_,rfl,_,rfl,_,rfl,r,a,keptF bs,[n],n,rfl,SqL.of (s6 _ _ hr5'),by omega,hSt,fun l' H7 hl' s7 hl7=>?_⟩
     have g7:=g6.trans s7
     refine ⟨p,d,a,l',bs,keptF bs,[n],n,es,_,wordAt bs n.toNat,rfl,g7.seq hS,hK6.same s7,hI2,hall,hNo,hSt.mono (fun _ _ e=>s7 _ _ e),hone n hn,List.mem_singleton.mpr rfl,SqL.of hl7,by omega,by omega,fun r' ts' H8 hr' s8 hr8 T'=>?_⟩
     have hR8:=s8 _ _ (s7 _ _ hR6)
     have hlt:=T'.len
     have hf5:fac (leftOf (keptF bs) [n]).length≤120:=by
      have:(leftOf (keptF bs) [n]).length≤5:=by omega
      match (leftOf (keptF bs) [n]).length,this with
      | 0,_=>decide
      | 1,_=>decide
      | 2,_=>decide
      | 3,_=>decide
      | 4,_=>decide
      | 5,_=>decide
     have hK8:=((hK5.same s6).same s7).same s8
     refine ⟨R,r',_,_,rfl,rfl,hR8,hr8,(by rw [List.length_map,List.length_map,sizeLine_eq]; omega),sameUpd (g7.trans s8) hRH,?_,hupK hR8 hK8,ts ++ ts',_,_,rfl,by rw [upd_same,List.map_append],fun x=>?_,?_⟩
     · rw [upd_ne hrR]
       exact s8 _ _ (s7 _ _ (s6 _ _ hr5'))
     · rw [List.mem_append,hm5,hex,viaA_yes hperm hH c3 T' x]
     · rw [List.length_append,Nat.succ_mul]
       omega
   · have c3:(wordAt bs n.toNat).length+hh n≠fw:=fun z=>c (decide_eq_true (by
      show V.int (((wordAt bs n.toNat).length:Nat)+(hh n:Int))=V.int (fw:Int)
      congr 1
      omega))
     refine ⟨g6,s6 _ _ hr5',hK6,ts,_,_,rfl,hR6,fun x=>?_,by rw [Nat.succ_mul]; omega⟩
     rw [hm5,hex]
     constructor
     · exact .inl
     · rintro (z | z)
       · exact z
       · exact absurd z (viaA_no hperm hH c3 (hfl2 n hn) x)
 · rintro σ H5 ⟨g5,hr5',hK5,ts,u5,u6,rfl,hR5,hm5,hl5⟩
   rw [List.length_map] at hm5 hl5
   rw [List.take_length] at hm5
   have hl1:ts.length≤1000:=by
    have:(keptF bs).length * 120≤6 * 120:=Nat.mul_le_mul_right 120 hkl
    omega
   refine hZ _ _ ?_
   refine ⟨_,rfl,R,ts,rfl,SqL.of hR5,hl1,fun X hX=>?_⟩
   have s6:=same_new hX (SetO P w X (ddS ts))
   refine ⟨X,ddS ts,rfl,upd_same,Nat.le_trans (ddS_len ts) hl1,fun Y us hY hup hus=>?_⟩
   have s7:=same_new hY (.lst (us.map V.str))
   refine q Y us _ ((g5.trans s6).free hY) ((g5.trans s6).trans s7) upd_same ?_
   exact some_via hm5 ⟨n0,leftOf (keptF bs) [n0],hh n0,(hnx n0 hn0).1,(hnx n0 hn0).2.1,by omega⟩ hup
theorem scOne:FnScope ["book"] ["book"] (defScope sOne):=⟨rfl,rfl,rfl,by decide +kernel,rfl,by decide +kernel,by decide +kernel⟩
theorem ok_One (F:Fun K "shortest" "shortest" sOne f fd) (T:Gb mg) (G1:Has P w K mg base "all_shortest" 11 ["book"] (spAllW K)):FnOk P w K mg base CX0 12 f fd ["book"] (spOneW K):=by
 refine F.ok scOne (fun vs H Q E h=>?_) (fun cdv A outer s H vs Q E hr h=>?_)
 · obtain ⟨p,bs,rfl,_⟩:=h
   rfl
 obtain ⟨p,bs,rfl,hS,hG,q⟩:=h
 refine ⟨_,pss_one (ps_ret (pe_ix (ix_listK rfl) (pe_has G1 hr (by rfl) (pa_cons (pv 0) pa_nil)) pe_int (fun _ _=>rfl))),?_⟩
 refine ⟨_,rfl,p,bs,rfl,hS,hG,fun l ts H' hl s' hl' hA=>?_⟩
 cases ts with
 | nil=>exact absurd rfl hA
 | cons t ts=>exact ⟨l,_,_,_,rfl,rfl,SqL.of hl',atI_nat (j:=0) rfl,q t H' s'⟩
theorem scHeights:FnScope ["book"] ["book"] (defScope sHeights):=⟨rfl,rfl,rfl,by decide +kernel,rfl,by decide +kernel,by decide +kernel⟩
theorem ok_Heights (F:Fun K "heights" "heights" sHeights f fd) (T:Gb mg) (G1:Has P w K mg base "kept" 4 ["book"] (spNew K Good keptF)) (G2:Has P w K mg base "known_heights" 5 ["book","numbers"] (spKnown P w K)):FnOk P w K mg base CX0 6 f fd ["book"] (spHeights K):=by
 refine F.ok scHeights (fun vs H Q E h=>?_) (fun cdv A outer s H vs Q E hr h=>?_)
 · obtain ⟨p,bs,rfl,_⟩:=h
   rfl
 obtain ⟨p,bs,rfl,hS,hG,q⟩:=h
 have hr4:=hr.mono (show 4≤5 by decide)
 refine ⟨_,pss_one (ps_ret (pe_callB (call_sortedItems (P:=P) (w:=w) rfl rfl rfl (units_of hr)) rfl T.b_sorted boot_sorted (pa_cons (pe_items (P:=P) (w:=w) rfl rfl (pe_has G2 hr (by rfl) (pa_cons (pv 0) (pa_cons (pe_has G1 hr4 (by rfl) (pa_cons (pv 0) pa_nil)) pa_nil)))) pa_nil))),?_⟩
 have hle6:=hG.le
 have hkl:(keptF bs).length≤6:=by rw [keptF_len]; have:=keptN_le bs; omega
 have hNo:NumsOf bs (keptF bs):=⟨hG,keptF_up bs,hkl,fun o ho=>keptF_rng ho⟩
 refine ⟨_,rfl,_,rfl,p,bs,rfl,hS,hG,by omega,fun r H1 hr0 s1 hr1=>?_⟩
 refine ⟨p,r,bs,keptF bs,rfl,s1.seq hS,SqL.of hr1,hNo,fun d es chs H2 hd s2 hK2 hI2 hch=>?_⟩
 refine ⟨d,es,rfl,hK2,fun v hv=>?_⟩
 have s3:=same_new hv (ViewO v d)
 have hv3:(upd H2 v (ViewO v d)) v=some (ViewO v d):=upd_same
 generalize upd H2 v (ViewO v d)=H3 at s3 hv3 ⊢
 have hK3:=hK2.same s3
 refine ⟨v,d,es,rfl,hv3,hK3,fun R qs ms H4 hR s4 hR4 hpm hpw hql htu=>?_⟩
 have g3:=(s1.trans s2).trans s3
 refine q R qs (ms.map (·.1)) H4 (g3.free hR) (g3.trans s4) hR4 ⟨by rw [List.length_map]; exact hql,fun j a k ea ek=>?_⟩ ?_ (List.pairwise_map.mpr hpw)
 · rw [List.getElem?_map] at ek
   cases hj:ms[j]? with
   | none=>rw [hj] at ek; cases ek
   | some e =>
    rw [hj] at ek
    have z:e.1=k:=Option.some.inj ek
    subst z
    have hme:e∈es:=hpm.mem_iff.mp (List.mem_of_getElem? hj)
    obtain ⟨h,eh,hH⟩:=hI2.val e hme
    have hta:=htu j a e ea hj
    rw [eh] at hta
    obtain ⟨i,hi,ei⟩:=List.getElem_of_mem hme
    have st:=hK3.2.2 i e.2.1 e.1 (by rw [List.getElem?_map,List.getElem?_eq_getElem hi,ei]; rfl) (by rw [List.getElem?_map,List.getElem?_eq_getElem hi,ei]; rfl)
    exact ⟨e.2.1,h,hta,st.mono (fun _ _ x=>s4 _ _ x),hH⟩
 · have h1:=hpm.map (·.1)
   rw [hI2.keys] at h1
   exact h1.trans (stands_perm hch)
theorem scGPair:FnScope ["pieces","best","most","one","other","letters"] ["pieces"] (defScope sGPair):=⟨rfl,rfl,rfl,by decide +kernel,rfl,by decide +kernel,by decide +kernel⟩
theorem ok_GPair (F:Fun K "first_greatest_pair" "first_greatest_pair" sGPair f fd) (T:Gb mg) (G1:Has P w K mg base "overlap" 1 ["one","next_one"] spOv):FnOk P w K mg base CX0 2 f fd ["pieces"] (spGPair K):=by
 refine F.ok scGPair (fun vs H Q E h=>?_) (fun cdv A outer s H vs Q E hr h=>?_)
 · obtain ⟨p,ps,rfl,_⟩:=h
   rfl
 obtain ⟨p,ps,rfl,hS,h2,h6,hl,q⟩:=h
 refine ⟨_,pss_consN (ps_set (i:=1) scGPair.nd rfl (Or.inl rfl) (pe_tup (pa_cons pe_int (pa_cons pe_int pa_nil))))
  (pss_consN (ps_set (i:=2) scGPair.nd rfl (Or.inl rfl) (pe_has G1 hr (by rfl) (pa_cons (pe_ix (ix_listK rfl) (pv 0) pe_int (fun _ _=>rfl)) (pa_cons (pe_ix (ix_listK rfl) (pv 0) pe_int (fun _ _=>rfl)) pa_nil))))
  (pss_consN (ps_for PassesOwn.never rfl (pi_range1 rfl T.b_range (pa_cons (pe_callB (call_lenK rfl) rfl T.b_len PySem.boot_len (pa_cons (pv 0) pa_nil)) pa_nil)) (pg_name (i:=3) scGPair.nd rfl (Or.inl rfl)) (pss_one (ps_for PassesOwn.never rfl (pi_range1 rfl T.b_range (pa_cons (pe_callB (call_lenK rfl) rfl T.b_len PySem.boot_len (pa_cons (pv 0) pa_nil)) pa_nil)) (pg_name (i:=4) scGPair.nd rfl (Or.inl rfl)) (pss_consN (ps_set (i:=5) scGPair.nd rfl (Or.inl rfl) (pe_has G1 hr (by rfl) (pa_cons (pe_ix (ix_listK rfl) (pv 0) (pv 3) (fun _ _=>rfl)) (pa_cons (pe_ix (ix_listK rfl) (pv 0) (pv 4) (fun _ _=>rfl)) pa_nil))))
    (pss_one (ps_if (PW.pt (pw_and (pt_cmpR op_ne (pv 3) (pv 4) (nomark _)) (pw_and1 (pt_cmpR op_gt (pv 5) (pv 2) (nomark _))))) (pss_consN (ps_set (i:=1) scGPair.nd rfl (Or.inl rfl) (pe_tup (pa_cons (pv 3) (pa_cons (pv 4) pa_nil))))
     (pss_one (ps_set (i:=2) scGPair.nd rfl (Or.inl rfl) (pv 5)))) pss_nil))))))
  (pss_one (ps_ret (pv 1))))),?_⟩
 have hml:(ps.map V.str).length=ps.length:=List.length_map _
 intro Z hZ
 refine ⟨(by show 2≤sizeLine; decide),fun b0 hb0=>?_⟩
 have s1:=same_new hb0 (.tup [.int 0,.int 1])
 have hb1:(upd H b0 (.tup [.int 0,.int 1])) b0=some (.tup [.int ((0:Nat):Int),.int ((1:Nat):Int)]):=upd_same
 generalize upd H b0 (.tup [.int 0,.int 1])=H1 at s1 hb1 ⊢
 have l0:=hl 0 (by omega)
 have l1:=hl 1 (by omega)
 refine hZ _ _ fun Z hZ=>?_
 refine ⟨_,rfl,p,_,_,_,rfl,rfl,s1.seq hS,at_piece (k:=0) (by omega),_,rfl,p,_,_,_,rfl,rfl,s1.seq hS,at_piece (k:=1) (by omega),_,_,rfl,by omega,by omega,fun H2 s2=>?_⟩
 refine hZ _ _ fun Z hZ=>?_
 refine ⟨_,rfl,p,_,rfl,.inl ((s1.trans s2).seq hS),_,rfl,?_⟩
 rw [hml]
 refine ⟨by omega,by omega,?_⟩
 rw [Int.toNat_natCast]
 refine for_range (fun a σ H'=>Same H H'∧∃ (b:Addr) (i j:Nat) (u3 u4 u5:Option V),σ=[some (.ref p),some (.ref b),some (.int ((ovAt ps i j:Nat):Int)),u3,u4,u5]∧H' b=some (.tup [.int (i:Int),.int (j:Int)])∧BestTo ps a 0 i j) ⟨s1.trans s2,b0,0,1,_,_,_,rfl,s2 _ _ hb1,BestTo.start h2⟩ ?_ ?_
 · rintro a σ H3 ha ⟨g3,b,i,j,u3,u4,u5,rfl,hb3,hB⟩
   have e0:(0:Int)+(a:Int)=((a:Nat):Int):=by omega
   rw [e0]
   refine ⟨_,rfl,p,_,rfl,.inl (g3.seq hS),_,rfl,?_⟩
   rw [hml]
   refine ⟨by omega,by omega,?_⟩
   rw [Int.toNat_natCast]
   refine for_range (fun c σ H'=>Same H H'∧∃ (b:Addr) (i j:Nat) (u4 u5:Option V),σ=[some (.ref p),some (.ref b),some (.int ((ovAt ps i j:Nat):Int)),some (.int (a:Int)),u4,u5]∧H' b=some (.tup [.int (i:Int),.int (j:Int)])∧BestTo ps a c i j) ⟨g3,b,i,j,_,_,rfl,hb3,hB⟩ ?_ ?_
   · rintro c σ H4 hc ⟨g4,b,i,j,u4,u5,rfl,hb4,hB4⟩
     have e1:(0:Int)+(c:Int)=((c:Nat):Int):=by omega
     rw [e1]
     have la:=hl a ha
     have lc:=hl c hc
     intro Z hZ
     refine ⟨_,rfl,_,rfl,p,_,_,_,rfl,rfl,g4.seq hS,at_piece ha,_,rfl,_,rfl,p,_,_,_,rfl,rfl,g4.seq hS,at_piece hc,_,_,rfl,by omega,by omega,fun H5 s5=>?_⟩
     have g5:=g4.trans s5
     have hb5:=s5 _ _ hb4
     refine hZ _ _ ?_
     refine ⟨_,rfl,_,rfl,rfl,_,rfl,?_⟩
     refine ite2 (fun k=>?_) (fun k=>?_)
     · have hac:a≠c:=fun z=>by
        rw [z] at k
        simp at k
       refine ⟨_,rfl,_,rfl,_,_,rfl,rfl,_,rfl,?_⟩
       refine ite2 (fun k2=>?_) (fun k2=>?_)
       · have k3:((ovF (wordAt ps a) (wordAt ps c):Nat):Int) > ((ovAt ps i j:Nat):Int):=of_decide_eq_true k2
         intro Z hZ
         refine ⟨_,rfl,_,rfl,(by show 2≤sizeLine; decide),fun b2 hb2=>?_⟩
         have hk:ovAt ps i j < ovAt ps a c:=by
          unfold ovAt at k3 ⊢
          omega
         refine hZ _ _ ?_
         exact ⟨_,rfl,g5.trans (same_new hb2 _),b2,a,c,_,_,rfl,upd_same,hB4.take ha hc hac hk⟩
       · have k3:¬ ((ovF (wordAt ps a) (wordAt ps c):Nat):Int) > ((ovAt ps i j:Nat):Int):=fun z=>k2 (decide_eq_true z)
         refine ⟨g5,b,i,j,_,_,rfl,hb5,hB4.keep (.inr ?_)⟩
         unfold ovAt at k3 ⊢
         omega
     · have hac:a=c:=by
        refine Decidable.byContradiction fun z=>k ?_
        have:V.int ((a:Nat):Int)≠V.int ((c:Nat):Int):=fun y=>z (by injection y with y; omega)
        rw [decide_eq_false this]
        rfl
       refine iteF ?_
       exact ⟨g5,b,i,j,_,_,rfl,hb5,hB4.keep (.inl hac)⟩
   · rintro σ H4 ⟨g4,b,i,j,u4,u5,rfl,hb4,hB4⟩
     exact ⟨g4,b,i,j,_,_,_,rfl,hb4,hB4.row⟩
 · rintro σ H3 ⟨g3,b,i,j,u3,u4,u5,rfl,hb3,hB⟩
   refine hZ _ _ ?_
   exact ⟨_,rfl,q b i j H3 g3 hb3 hB.best⟩
theorem scGLaid:FnScope ["pieces","pair","laid_pieces"] ["pieces","pair"] (defScope sGLaid):=⟨rfl,rfl,rfl,by decide +kernel,rfl,by decide +kernel,by decide +kernel⟩
theorem ok_GLaid (F:Fun K "with_pair_laid" "with_pair_laid" sGLaid f fd) (T:Gb mg) (G1:Has P w K mg base "beyond" 2 ["last","word"] spBeyond):FnOk P w K mg base CX0 3 f fd ["pieces","pair"] (spGLaid K):=by
 refine F.ok scGLaid (fun vs H Q E h=>?_) (fun cdv A outer s H vs Q E hr h=>?_)
 · obtain ⟨p,b,ps,i,j,rfl,_⟩:=h
   rfl
 obtain ⟨p,b,ps,i,j,rfl,hS,hb,hi,hj,h6,hl,q⟩:=h
 refine ⟨_,pss_consN (ps_set (i:=2) scGLaid.nd rfl (Or.inl rfl) (pe_callTy call_list_of rfl T.b_list PyProof.Rows.boot_list (pa_cons (pv 0) pa_nil)))
  (pss_consN (ps_asg (pe_op op_add_str (pe_ix (ix_listK rfl) (pv 0) (pe_ix (ix_tupK rfl) (pv 1) pe_int (fun _ _=>rfl)) (fun _ _=>rfl)) (pe_has G1 hr (by rfl) (pa_cons (pe_ix (ix_listK rfl) (pv 0) (pe_ix (ix_tupK rfl) (pv 1) pe_int (fun _ _=>rfl)) (fun _ _=>rfl)) (pa_cons (pe_ix (ix_listK rfl) (pv 0) (pe_ix (ix_tupK rfl) (pv 1) pe_int (fun _ _=>rfl)) (fun _ _=>rfl)) pa_nil)))) (pg_sub (pv 2) (pe_ix (ix_tupK rfl) (pv 1) pe_int (fun _ _=>rfl)) set_list))
  (pss_consN (ps_expr (pe_bmK rfl PySem.F.plainAttrs_list PySem.F.slot_list_pop PySem.F.type_list_pop mt_popAt (pv 2) (pa_cons (pe_ix (ix_tupK rfl) (pv 1) pe_int (fun _ _=>rfl)) pa_nil)))
  (pss_one (ps_ret (pv 2))))),?_⟩
 have hml:(ps.map V.str).length=ps.length:=List.length_map _
 have li:=hl i hi
 have lj:=hl j hj
 intro N hN
 refine ⟨_,rfl,p,_,rfl,.inl hS,fun l hln=>?_⟩
 have s1:=same_new hln (.lst (ps.map V.str))
 have hl1:(upd H l (.lst (ps.map V.str))) l=some (.lst (ps.map V.str)):=upd_same
 generalize upd H l (.lst (ps.map V.str))=H1 at s1 hl1 ⊢
 have a0:atI [V.int (i:Int),.int (j:Int)] 0=some (.int (i:Int)):=rfl
 have a1:atI [V.int (i:Int),.int (j:Int)] 1=some (.int (j:Int)):=rfl
 have hb1:=s1 _ _ hb
 refine hN _ _ fun N hN=>?_
 refine ⟨_,rfl,_,rfl,b,_,_,_,rfl,rfl,SqT.of hb1,a0,p,_,_,_,rfl,rfl,s1.seq hS,at_piece hi,_,rfl,_,rfl,b,_,_,_,rfl,rfl,SqT.of hb1,a0,p,_,_,_,rfl,rfl,s1.seq hS,at_piece hi,_,rfl,_,rfl,b,_,_,_,rfl,rfl,SqT.of hb1,a1,p,_,_,_,rfl,rfl,s1.seq hS,at_piece hj,_,_,rfl,by omega,by omega,fun H2 s2=>?_⟩
 have hbl:=Txt.slice_le (wordAt ps j) (some ((ovF (wordAt ps i) (wordAt ps j):Nat):Int)) none
 have hbl2:(beyS (wordAt ps i) (wordAt ps j)).length≤(wordAt ps j).length:=hbl
 have hb2:=s2 _ _ hb1
 have hl2:=s2 _ _ hl1
 have g2:=s1.trans s2
 refine ⟨_,_,rfl,rfl,small (by omega),_,rfl,_,rfl,b,_,_,_,rfl,rfl,SqT.of hb2,a0,l,_,_,_,rfl,rfl,hl2,ixN_nat (by omega) (by rw [hml]; omega),?_⟩
 rw [Int.toNat_natCast]
 have es:(ps.map V.str).set i (.str (wordAt ps i ++ beyS (wordAt ps i) (wordAt ps j)))=(ps.set i (glue (wordAt ps i) (wordAt ps j))).map V.str:=by
  rw [List.map_set]
  rfl
 rw [es]
 have hbL:b≠l:=fun z=>by rw [z,hl2] at hb2; cases hb2
 have hl3:(upd H2 l (.lst ((ps.set i (glue (wordAt ps i) (wordAt ps j))).map V.str))) l=some (.lst ((ps.set i (glue (wordAt ps i) (wordAt ps j))).map V.str)):=upd_same
 have hb3:(upd H2 l (.lst ((ps.set i (glue (wordAt ps i) (wordAt ps j))).map V.str))) b=some (.tup [.int (i:Int),.int (j:Int)]):=by rw [upd_ne hbL]; exact hb2
 have g3:Same H (upd H2 l (.lst ((ps.set i (glue (wordAt ps i) (wordAt ps j))).map V.str))):=sameUpd g2 hln
 generalize upd H2 l (.lst ((ps.set i (glue (wordAt ps i) (wordAt ps j))).map V.str))=H3 at hl3 hb3 g3 ⊢
 have hsl:((ps.set i (glue (wordAt ps i) (wordAt ps j))).map V.str).length=ps.length:=by rw [List.length_map,List.length_set]
 refine hN _ _ fun N hN=>?_
 refine ⟨_,rfl,.inl ⟨rfl,_,SqL.of hl3⟩,_,rfl,b,_,_,_,rfl,rfl,SqT.of hb3,a1,l,_,_,j,((ps.set i (glue (wordAt ps i) (wordAt ps j))).map V.str)[j]'(by omega),rfl,rfl,hl3,by omega,by omega,?_,List.getElem?_eq_getElem (by omega),?_⟩
 · rw [seqIndex_of (by omega) (by rw [hsl]; omega),Int.toNat_natCast]
 · rw [erase_map]
   refine hN _ _ ?_
   exact ⟨_,rfl,q l _ hln (sameUpd g3 hln) upd_same⟩
theorem scGreedy:FnScope ["book","pieces"] ["book"] (defScope sGreedy):=⟨rfl,rfl,rfl,by decide +kernel,rfl,by decide +kernel,by decide +kernel⟩
theorem ndGreedy0:(["number","book"]:List Str).Nodup:=by decide +kernel
theorem ok_Greedy (F:Fun K "greedy" "greedy" sGreedy f fd) (T:Gb mg) (G1:Has P w K mg base "kept" 4 ["book"] (spNew K Good keptF)) (G2:Has P w K mg base "first_greatest_pair" 2 ["pieces"] (spGPair K)) (G3:Has P w K mg base "with_pair_laid" 3 ["pieces","pair"] (spGLaid K)):FnOk P w K mg base CX0 5 f fd ["book"] (spGreedy K (fun _=>True)):=by
 refine F.ok scGreedy (fun vs H Q E h=>?_) (fun cdv A outer s H vs Q E hr h=>?_)
 · obtain ⟨p,bs,rfl,_⟩:=h
   rfl
 obtain ⟨p,bs,rfl,hS,hG,_,q⟩:=h
 have hr2:=hr.mono (show 2≤4 by decide)
 have hr3:=hr.mono (show 3≤4 by decide)
 refine ⟨_,pss_consN (ps_setComp (i:=1) (oN:=["book","pieces"]) (osc:=defScope sGreedy) (N':=["number","book"]) (cap:=[none,some 0]) scGreedy.nd rfl (Or.inl rfl) rfl rfl rfl (by decide +kernel) rfl (by decide +kernel) (by decide +kernel) (by decide +kernel) rfl
   (pi_listK rfl (pe_has G1 hr (by rfl) (pa_cons (pv 0) pa_nil))) (fun _ _ _ _ _=>pg_name (i:=0) ndGreedy0 rfl (Or.inl rfl)) (fun _ _ _ _ _=>pif_none)
   (fun _ _ _ _ _=>(pe_ix (ix_listK rfl) (pv 1) (pv 0) (fun _ _=>rfl))))
  (pss_consN (ps_while PassesOwn.never (pt_cmpR op_gt (pe_callB (call_lenK rfl) rfl T.b_len PySem.boot_len (pa_cons (pv 1) pa_nil)) pe_int (nomark _)) (pss_one (ps_set (i:=1) scGreedy.nd rfl (Or.inl rfl) (pe_has G3 hr3 (by rfl) (pa_cons (pv 1) (pa_cons (pe_has G2 hr2 (by rfl) (pa_cons (pv 1) pa_nil)) pa_nil))))))
  (pss_one (ps_ret (pe_ix (ix_listK rfl) (pv 1) pe_int (fun _ _=>rfl))))),?_⟩
 have hle:=hG.le
 have hpos:=hG.pos
 have hW:=hG.words
 intro N hN
 refine ⟨_,rfl,p,bs,rfl,hS,hG,by omega,fun kp H1 hkp s1 hkp1=>?_⟩
 refine ⟨kp,rfl,⟨_,SqL.of hkp1⟩,fun D hD=>?_⟩
 have hHD:H D=none:=s1.free hD
 have hS1:=s1.seq hS
 refine turns_list (xs:=(keptF bs).map V.int) (fun i σ H'=>(∃ kk,σ=[kk,some (.ref p)])∧Same H1 H'∧H' D=some (.lst (((keptW bs).take i).map V.str))) ⟨⟨_,rfl⟩,same_new hD _,upd_same⟩ ?_ ?_ ?_
 · rintro i σ H' _ ⟨_,hs,_⟩
   exact SqL.of (hs _ _ hkp1)
 · rintro i v σ H' hv ⟨⟨kk,rfl⟩,hs,hD'⟩
   obtain ⟨o,eo,rfl⟩:=at_ints hv
   rw [keptF_eq,List.getElem?_map] at eo
   obtain ⟨k,ek,rfl⟩:∃ k,(keptN bs)[i]? = some k∧((k:Nat):Int)=o:=by
    cases e:(keptN bs)[i]? with
    | none=>rw [e] at eo; cases eo
    | some k=>rw [e] at eo; exact ⟨k,rfl,Option.some.inj eo⟩
   have hk:=keptN_lt (List.mem_of_getElem? ek)
   have hi:i < (keptN bs).length:=(List.getElem?_eq_some_iff.mp ek).1
   have hkl:=keptN_le bs
   have ew:(keptW bs)[i]? = some (wordAt bs k):=by unfold keptW; rw [List.getElem?_map,ek]; rfl
   refine gYes ?_
   refine ⟨_,rfl,_,rfl,p,_,_,_,rfl,rfl,hs.seq hS1,at_piece hk,?_⟩
   refine ⟨_,hD',?_,⟨_,rfl⟩,sameUpd hs hD,?_⟩
   · rw [List.length_map,List.length_take]
     exact small1000 (by omega)
   · rw [upd_same,take_snoc ew,List.map_append]
     rfl
 rintro σ H2 ⟨_,s2,hD2⟩
 have hwl:(keptW bs).length=(keptF bs).length:=by unfold keptW; rw [List.length_map,keptF_len]
 rw [List.length_map,←hwl,List.take_length] at hD2
 have hkl:=keptN_le bs
 have hkne:=kept_ne hpos fun b hb=>(hW b hb).pos
 have hk1:1≤(keptW bs).length:=by
  rw [hwl]
  exact List.length_pos_iff.mpr hkne
 have hk6:(keptW bs).length≤6:=by unfold keptW; rw [List.length_map]; omega
 have hsum0:lenSum (keptW bs)≤60:=Nat.le_trans (keptW_sum hW) (by omega)
 obtain ⟨Wd,hWd⟩:∃ Wd:Nat→L2.St→Hp→Prop,Wd=fun m σ H'=>∃ (L:Addr) (ps:List Str),σ=[some (.ref p),some (.ref L)]∧Same H H'∧H L=none∧H' L=some (.lst (ps.map V.str))∧ps.length=m∧1≤m∧m≤6∧lenSum ps≤60∧∀ t,Greedy ps t→Greedy (keptW bs) t:=⟨_,rfl⟩
 refine hN _ _ fun N hN=>?_
 refine ⟨Wd,⟨(keptW bs).length,?_⟩,?_⟩
 · rw [hWd]
   exact ⟨D,keptW bs,rfl,s1.trans s2,hHD,hD2,rfl,hk1,hk6,hsum0,fun t h=>h⟩
 intro m σ H3 hw
 rw [hWd] at hw
 obtain ⟨L,ps,rfl,g3,hLH,hL3,hlm,m1,m6,hsum,hgr⟩:=hw
 have hml:(ps.map V.str).length=ps.length:=List.length_map _
 have hwlen:∀ k,k < ps.length→(wordAt ps k).length≤400:=fun k hk=>by
  rw [wordAt_get hk]
  have:=mem_sum (List.getElem_mem hk)
  omega
 refine ⟨_,rfl,L,_,rfl,.inl (SqL.of hL3),_,_,rfl,rfl,_,rfl,?_⟩
 refine ite2 (fun c=>?_) (fun c=>?_)
 · have c2:(((ps.map V.str).length:Nat):Int) > 1:=of_decide_eq_true c
   rw [hml] at c2
   refine ⟨Wd (m - 1),fun σ' H' w'=>⟨m - 1,by omega,w'⟩,?_⟩
   refine ⟨_,rfl,_,rfl,L,ps,rfl,SqL.of hL3,by omega,by omega,hwlen,fun b i j H4 s4 hb4 hB=>?_⟩
   have hL4:=s4 _ _ hL3
   refine ⟨L,b,ps,i,j,rfl,SqL.of hL4,hb4,hB.li,hB.lj,by omega,hwlen,fun N H5 hN s5 hN5=>?_⟩
   have hgl:=gStep_len (i:=i) hB.lj
   rw [hWd]
   have g4:=g3.trans s4
   exact ⟨N,gStep ps i j,rfl,g4.trans s5,g4.free hN,hN5,by omega,by omega,by omega,Nat.le_trans (gStep_sum hB.li hB.lj hB.ne) hsum,fun t ht=>hgr t (Greedy.step (by omega) hB ht)⟩
 · have c2:¬ (((ps.map V.str).length:Nat):Int) > 1:=fun z=>c (decide_eq_true z)
   rw [hml] at c2
   have hp1:ps.length=1:=by omega
   match ps,hp1 with
   | [x],_ =>
    refine hN _ _ ?_
    refine ⟨_,rfl,L,_,_,_,rfl,rfl,SqL.of hL3,atI_nat (j:=0) (v:=.str x) rfl,?_⟩
    exact q x H3 g3 (hgr x (Greedy.one x))
theorem ndIsBook0:(["word"]:List Str).Nodup:=by decide +kernel
theorem scShown:FnScope ["book"] ["book"] (defScope sShown):=⟨rfl,rfl,rfl,by decide +kernel,rfl,by decide +kernel,by decide +kernel⟩
theorem ok_Shown (F:Fun K "shown" "shown" sShown f fd) (T:Gb mg) (G1:Has P w K mg base "check_book" 3 ["book"] (spCheck K)):FnOk P w K mg base CX0 4 f fd ["book"] (spShown K):=by
 refine F.ok scShown (fun vs H Q E h=>?_) (fun cdv A outer s H vs Q E hr h=>?_)
 · obtain ⟨p,bs,rfl,_⟩:=h
   rfl
 obtain ⟨p,bs,rfl,hS,hG,q⟩:=h
 obtain ⟨t,ht⟩:=T.c_LINE_END
 refine ⟨_,pss_consN (ps_expr (pe_has G1 hr (by rfl) (pa_cons (pv 0) pa_nil)))
  (pss_one (ps_ret (pe_bmK rfl PySem.F.plainAttrs_str PySem.F.slot_str_join PySem.F.type_str_join mt_join pe_str (pa_cons (pe_comp (oN:=["book"]) (osc:=defScope sShown) (N':=["word"]) (cap:=[none]) rfl rfl rfl (by decide +kernel) rfl (by decide +kernel) (by decide +kernel) (by decide +kernel) rfl
   (pi_listK rfl (pv 0)) (fun _ _ _ _ _=>pg_name (i:=0) ndIsBook0 rfl (Or.inl rfl)) (fun _ _ _ _ _=>pif_none) (fun _ _ _ _ _=>pe_op op_add_str (pv 0) (pe_glob (v:=.str "\n") rfl ht ⟨_,rfl⟩))) pa_nil)))),?_⟩
 intro N hN
 refine ⟨_,rfl,p,bs,rfl,hS,hG,fun H1 s1=>?_⟩
 have hle:=hG.le
 refine hN _ _ ?_
 refine ⟨rfl,_,rfl,p,rfl,⟨_,s1.seq hS⟩,fun D hD=>?_⟩
 have wl:∀ b∈bs,b.length+nl.length≤11:=fun b hb=>by
  have z:=(hG.words b hb).le
  have e:nl.length=1:=by decide +kernel
  omega
 refine turns_list (xs:=bs.map V.str) (fun i σ H'=>(∃ kk,σ=[kk])∧Same H1 H'∧H' D=some (.lst (((bs.take i).map fun b=>b ++ nl).map V.str))) ⟨⟨_,rfl⟩,same_new hD _,upd_same⟩ ?_ ?_ ?_
 · rintro i σ H' _ ⟨_,hs,_⟩
   exact (s1.trans hs).seq hS
 · rintro i v σ H' hv ⟨⟨kk,rfl⟩,hs,hD'⟩
   obtain ⟨b,eb,rfl⟩:=at_strs hv
   have z:=wl b (List.mem_of_getElem? eb)
   refine gYes ?_
   refine ⟨_,rfl,b,nl,rfl,rfl,small1000 (by omega),_,hD',?_,⟨_,rfl⟩,sameUpd hs hD,?_⟩
   · rw [List.length_map,List.length_map,List.length_take]
     exact small1000 (by omega)
   · rw [upd_same,take_snoc eb,List.map_append,List.map_append] <;> rfl
 · rintro σ H' ⟨_,hs,hD'⟩
   rw [List.length_map,List.take_length] at hD'
   have hz:(Str.ofString "").length=0:=len_nil
   have hsum:((bs.map fun b=>b ++ nl).map (·.length)).sum≤11 * (bs.map fun b=>b ++ nl).length:=sum_len (m:=11) fun y hy=>by
    obtain ⟨b,hb,rfl⟩:=List.mem_map.mp hy
    have e:(b ++ nl).length=b.length+nl.length:=Array.size_append
    rw [e]
    exact wl b hb
   rw [List.length_map] at hsum
   refine ⟨_,D,_,rfl,rfl,SqL.of hD',?_,q H' (s1.trans hs)⟩
   rw [hz,List.length_map]
   omega
theorem scCell:FnScope ["script","k"] ["script","k"] (defScope sCell):=⟨rfl,rfl,rfl,by decide +kernel,rfl,by decide +kernel,by decide +kernel⟩
theorem ok_Cell (F:Fun K "_law_cell_at" "_law_cell_at" sCell f fd) (T:Gb mg):FnOk P w K mg base CX0 1 f fd ["script","k"] (spCell K):=by
 refine F.ok scCell (fun vs H Q E h=>?_) (fun cdv A outer s H vs Q E hr h=>?_)
 · obtain ⟨a,ns,k,rfl,_⟩:=h
   rfl
 obtain ⟨a,ns,k,rfl,hS,h0,q⟩:=h
 refine ⟨_,pss_consN (ps_if (pt_cmpR op_lt (pv 1) (pe_callB call_len_seq rfl T.b_len PySem.boot_len (pa_cons (pv 0) pa_nil)) (nomark _)) (pss_one (ps_ret (pe_ix ix_list (pv 0) (pv 1) (fun _ _=>rfl)))) pss_nil)
  (pss_one (ps_ret pe_int)),?_⟩
 have hl:(ns.map V.int).length=ns.length:=List.length_map _
 intro N hN
 refine ⟨_,rfl,_,rfl,a,_,rfl,.inl hS,_,_,rfl,rfl,_,rfl,?_⟩
 refine ite2 (fun c=>?_) (fun c=>?_)
 · have c':k < (((ns.map V.int).length:Nat):Int):=of_decide_eq_true c
   rw [hl] at c'
   exact ⟨_,rfl,_,rfl,a,_,_,_,rfl,rfl,hS,getD_at h0 c',q⟩
 · have c':¬ k < (((ns.map V.int).length:Nat):Int):=of_decide_eq_false (Bool.eq_false_iff.mpr c)
   rw [hl] at c'
   rw [getD_out c'] at q
   refine hN _ _ ?_
   exact q
theorem scWord:FnScope ["cell","letters","most","size","word","k"] ["cell","letters","most"] (defScope sWord):=⟨rfl,rfl,rfl,by decide +kernel,rfl,by decide +kernel,by decide +kernel⟩
theorem ok_Word (F:Fun K "_law_word" "_law_word" sWord f fd) (T:Gb mg):FnOk P w K mg base CX0 1 f fd ["cell","letters","most"] spWord:=by
 refine F.ok scWord (fun vs H Q E h=>?_) (fun cdv A outer s H vs Q E hr h=>?_)
 · obtain ⟨c,l,m,rfl,_⟩:=h
   rfl
 obtain ⟨c,l,m,rfl,hc,hl1,hl2,hm1,hm2,q⟩:=h
 refine ⟨_,pss_consN (ps_set (i:=3) scWord.nd rfl (Or.inl rfl) (pe_op op_add pe_int (pe_op op_mod (pv 0) (pv 2))))
  (pss_consN (ps_set (i:=0) scWord.nd rfl (Or.inl rfl) (pe_op op_fdiv (pv 0) (pv 2)))
  (pss_consN (ps_set (i:=4) scWord.nd rfl (Or.inl rfl) pe_str)
  (pss_consN (ps_for PassesOwn.never rfl (pi_range1 rfl T.b_range (pa_cons (pv 3) pa_nil)) (pg_name (i:=5) scWord.nd rfl (Or.inl rfl))
   (pss_consN (ps_set (i:=4) scWord.nd rfl (Or.inl rfl) (pe_op op_add_str (pv 4) (pe_ix ix_str pe_str (pe_op op_mod (pv 0) (pv 1)) (fun _ _=>rfl))))
   (pss_consN (ps_set (i:=0) scWord.nd rfl (Or.inl rfl) (pe_op op_fdiv (pv 0) (pv 1)))
   (pss_one (ps_if (pt_cmpR op_gt (pv 1) pe_int (nomark _)) (pss_one (ps_set (i:=0) scWord.nd rfl (Or.inl rfl) (pe_op op_mod (pe_op op_add (pe_op op_add (pe_op op_mulB (pv 0) (pv 0)) (pe_op op_mulB pe_int (pe_op op_add (pv 0) (pv 5)))) pe_int) pe_int))) pss_nil)))))
  (pss_one (ps_ret (pv 4)))))),?_⟩
 have r0:=Int.emod_nonneg c (show (m:Int)≠0 by omega)
 have r1:=Int.emod_lt_of_pos c (show (0:Int) < (m:Int) by omega)
 intro Z hZ
 refine ⟨_,rfl,_,rfl,_,_,rfl,rfl,(by show (0:Int) < (m:Int); omega),_,_,rfl,rfl,?_⟩
 refine hZ _ _ fun Z hZ=>?_
 refine ⟨_,rfl,_,rfl,_,_,rfl,rfl,⟨by show (0:Int) < (m:Int); omega,by show (m:Int) < 1073741824; omega⟩,?_⟩
 refine hZ _ _ fun Z hZ=>?_
 refine hZ _ _ fun Z hZ=>?_
 refine ⟨_,rfl,_,rfl,by omega,by omega,?_⟩
 refine for_range (fun i σ H'=>H'=H∧∃ (c':Int) (x:Str) (kk:Option V),σ=[some (.int c'),some (.int l),some (.int m),some (.int (1+c % (m:Int))),some (.str x),kk]∧intBits c'≤2 ^ 20∧x.length=i∧Low x) ⟨rfl,_,_,_,rfl,bits_ediv hc (by omega),len_nil,Low.nil⟩ ?_ ?_
 · rintro i σ H' hi ⟨rfl,c',x,kk,rfl,hc',hx,lx⟩
   have s0:=Int.emod_nonneg c' (show l≠0 by omega)
   have s1:=Int.emod_lt_of_pos c' (show 0 < l by omega)
   obtain ⟨z,hz,z0,z1⟩:=alpha_at s0 (by omega)
   intro Z hZ
   refine ⟨_,rfl,_,rfl,_,rfl,_,_,rfl,rfl,(by show 0 < l; omega),alpha,_,z,rfl,rfl,alpha_len,hz,_,_,rfl,rfl,(by rw [hx]; show i+1≤sizeLine; exact small (by omega)),?_⟩
   refine hZ _ _ fun Z hZ=>?_
   refine ⟨_,rfl,_,rfl,_,_,rfl,rfl,⟨by show 0 < l; omega,by show l < 1073741824; omega⟩,?_⟩
   have hd:=bits_ediv hc' (show 0 < l by omega)
   have nlen:(x ++ (⟨#[z]⟩:Str)).length=i+1:=by rw [len_app,hx]; rfl
   refine hZ _ _ ?_
   refine ⟨_,rfl,_,_,rfl,rfl,_,rfl,?_⟩
   refine ite2 (fun _=>?_) (fun _=>?_)
   · have m0:=Int.emod_nonneg (c' / l * (c' / l)+48271 * (c' / l+(0+(i:Int)))+69621) (show (2147483647:Int)≠0 by decide)
     have m1:=Int.emod_lt_of_pos (c' / l * (c' / l)+48271 * (c' / l+(0+(i:Int)))+69621) (show (0:Int) < 2147483647 by decide)
     exact ⟨_,rfl,_,rfl,_,_,rfl,rfl,mulOk_sq hd,_,rfl,_,rfl,_,_,rfl,rfl,_,_,rfl,rfl,mulOk_l,_,_,rfl,rfl,_,_,rfl,rfl,_,_,rfl,rfl,(by show (0:Int) < 2147483647; decide),rfl,_,_,_,rfl,bits_small m0 m1,nlen,lx.app (Low.one z0 z1)⟩
   · exact ⟨rfl,_,_,_,rfl,hd,nlen,lx.app (Low.one z0 z1)⟩
 · rintro σ H' ⟨rfl,c',x,kk,rfl,hc',hx,lx⟩
   refine hZ _ _ ?_
   exact ⟨_,rfl,q x ⟨by omega,by omega,lx⟩⟩
theorem scPiece:FnScope ["word","cell","low"] ["word","cell"] (defScope sPiece):=⟨rfl,rfl,rfl,by decide +kernel,rfl,by decide +kernel,by decide +kernel⟩
theorem ok_Piece (F:Fun K "_law_piece" "_law_piece" sPiece f fd) (T:Gb mg):FnOk P w K mg base CX0 1 f fd ["word","cell"] spPiece:=by
 refine F.ok scPiece (fun vs H Q E h=>?_) (fun cdv A outer s H vs Q E hr h=>?_)
 · obtain ⟨x,c,m,rfl,_⟩:=h
   rfl
 obtain ⟨x,c,m,rfl,hx,hm,q⟩:=h
 refine ⟨_,pss_consN (ps_set (i:=2) scPiece.nd rfl (Or.inl rfl) (pe_op op_mod (pv 1) (pe_callB call_len_str rfl T.b_len PySem.boot_len (pa_cons (pv 0) pa_nil))))
  (pss_one (ps_ret (pe_slice sl_str (pv 0) (po_some (pv 2)) (po_some (pe_op op_add (pe_op op_add (pv 2) pe_int) (pe_op op_mod (pe_op op_fdiv (pv 1) pe_int) (pe_op op_sub (pe_callB call_len_str rfl T.b_len PySem.boot_len (pa_cons (pv 0) pa_nil)) (pv 2)))))))),?_⟩
 have h1:=hx.pos
 have h2:=hx.le
 have r0:=Int.emod_nonneg c (show (x.length:Int)≠0 by omega)
 have r1:=Int.emod_lt_of_pos c (show (0:Int) < (x.length:Int) by omega)
 have t0:=Int.emod_nonneg (c / 10) (show (x.length:Int) - c % (x.length:Int)≠0 by omega)
 have t1:=Int.emod_lt_of_pos (c / 10) (show (0:Int) < (x.length:Int) - c % (x.length:Int) by omega)
 have key:∀ lo d:Int,0≤lo→lo < (x.length:Int)→0≤d→d < (x.length:Int) - lo→Word m (Txt.slice x (some lo) (some (lo+1+d))):=fun lo d g0 g1 g2 g3=>by
  have e1:lo=((lo.toNat:Nat):Int):=by omega
  have e2:lo+1+d=(((lo+1+d).toNat:Nat):Int):=by omega
  have hl:=slice_nn_len x lo.toNat (lo+1+d).toNat
  rw [←e1,←e2] at hl
  exact ⟨by rw [hl]; omega,by rw [hl]; omega,hx.low.slice _ _⟩
 intro Z hZ
 refine ⟨_,rfl,_,rfl,x,rfl,small (by omega),_,_,rfl,rfl,(by show (0:Int) < (x.length:Int); omega),?_⟩
 refine hZ _ _ ?_
 exact ⟨_,rfl,_,rfl,_,rfl,_,rfl,_,_,rfl,rfl,_,rfl,_,_,rfl,rfl,⟨by decide,by decide⟩,_,rfl,x,rfl,small (by omega),_,rfl,_,_,rfl,rfl,_,_,rfl,rfl,(by show (0:Int) < (x.length:Int) - c % (x.length:Int); omega),_,_,rfl,rfl,_,rfl,x,rfl,small (by omega),q _ (key _ _ r0 r1 t0 t1)⟩
theorem scJoined:FnScope ["one","other","most"] ["one","other","most"] (defScope sJoined):=⟨rfl,rfl,rfl,by decide +kernel,rfl,by decide +kernel,by decide +kernel⟩
theorem ok_Joined (F:Fun K "_law_joined" "_law_joined" sJoined f fd) (T:Gb mg):FnOk P w K mg base CX0 1 f fd ["one","other","most"] spJoined:=by
 refine F.ok scJoined (fun vs H Q E h=>?_) (fun cdv A outer s H vs Q E hr h=>?_)
 · obtain ⟨x,z,m,rfl,_⟩:=h
   rfl
 obtain ⟨x,z,m,rfl,hx,hz,hm,q⟩:=h
 refine ⟨_,pss_one (ps_ret (pe_slice sl_str (pe_op op_add_str (pe_slice sl_str (pv 0) (po_some (pe_op op_fdiv (pe_callB call_len_str rfl T.b_len PySem.boot_len (pa_cons (pv 0) pa_nil)) pe_int)) po_none) (pv 1)) po_none (po_some (pv 2)))),?_⟩
 have h1:=hx.pos
 have h2:=hx.le
 have h3:=hz.pos
 have h4:=hz.le
 have hs:=Txt.slice_le x (some ((x.length:Int) / 2)) none
 refine ⟨_,rfl,_,rfl,x,rfl,small (by omega),_,_,rfl,rfl,⟨by decide,by decide⟩,_,rfl,x,rfl,small (by omega),_,rfl,_,_,rfl,rfl,small (by omega),_,rfl,_,rfl,_,rfl,small (by rw [len_app]; omega),?_⟩
 have hl:=slice_to_len (Txt.slice x (some ((x.length:Int) / 2)) none ++ z) m
 rw [len_app] at hl
 exact q _ ⟨by rw [hl]; omega,by rw [hl]; omega,((hx.low.slice _ _).app hz.low).slice _ _⟩
theorem scBook:FnScope ["script","start","words","most","way","letters","book","cell"] ["script","start","words","most"] (defScope sBook):=⟨rfl,rfl,rfl,by decide +kernel,rfl,by decide +kernel,by decide +kernel⟩
theorem ndBook:(["k","script","start","letters","most"]:List Str).Nodup:=by decide +kernel
theorem pick6 {i:Int} (h0:0≤i) (h1:i < 6):∃ l:Int,atI [V.int 2,.int 2,.int 3,.int 4,.int 26,.int 1] i=some (.int l)∧1≤l∧l≤26:=by
 have e:i=0∨i=1∨i=2∨i=3∨i=4∨i=5:=by omega
 rcases e with rfl | rfl | rfl | rfl | rfl | rfl
 · exact ⟨2,rfl,by decide,by decide⟩
 · exact ⟨2,rfl,by decide,by decide⟩
 · exact ⟨3,rfl,by decide,by decide⟩
 · exact ⟨4,rfl,by decide,by decide⟩
 · exact ⟨26,rfl,by decide,by decide⟩
 · exact ⟨1,rfl,by decide,by decide⟩
theorem ok_Book (F:Fun K "_law_book" "_law_book" sBook f fd) (T:Gb mg) (G1:Has P w K mg base "_law_cell_at" 1 ["script","k"] (spCell K)) (G2:Has P w K mg base "_law_word" 1 ["cell","letters","most"] spWord)
  (G3:Has P w K mg base "_law_piece" 1 ["word","cell"] spPiece) (G4:Has P w K mg base "_law_joined" 1 ["one","other","most"] spJoined):FnOk P w K mg base CX0 2 f fd ["script","start","words","most"] (spBook K):=by
 refine F.ok scBook (fun vs H Q E h=>?_) (fun cdv A outer s H vs Q E hr h=>?_)
 · obtain ⟨a,ns,st,n,m,rfl,_⟩:=h
   rfl
 obtain ⟨a,ns,st,n,m,rfl,hS,hB,hst,hn1,hn2,hm1,hm2,q⟩:=h
 refine ⟨_,pss_consN (ps_set (i:=4) scBook.nd rfl (Or.inl rfl) (pe_op op_mod (pe_has G1 hr (by rfl) (pa_cons (pv 0) (pa_cons (pv 1) pa_nil))) pe_int))
  (pss_consN (ps_set (i:=5) scBook.nd rfl (Or.inr rfl) (pe_ix ix_list (pe_lst (pa_cons pe_int (pa_cons pe_int (pa_cons pe_int (pa_cons pe_int (pa_cons pe_int (pa_cons pe_int pa_nil))))))) (pv 4) (fun _ _=>rfl)))
  (pss_consN (ps_setComp (i:=6) (oN:=["script","start","words","most","way","letters","book","cell"]) (osc:=defScope sBook) (N':=["k","script","start","letters","most"]) (cap:=[none,some 0,some 1,some 5,some 3]) scBook.nd rfl (Or.inl rfl) rfl rfl rfl (by decide +kernel) rfl (by decide +kernel) (by decide +kernel) (by decide +kernel) rfl
    (pi_range1 rfl T.b_range (pa_cons (pv 2) pa_nil)) (fun _ _ _ _ _=>pg_name (i:=0) ndBook rfl (Or.inl rfl)) (fun _ _ _ _ _=>pif_none)
    (fun _ _ _ _ _=>pe_has G2 hr (by rfl) (pa_cons (pe_has G1 hr (by rfl) (pa_cons (pv 1) (pa_cons (pe_op op_add (pe_op op_add (pv 2) pe_int) (pv 0)) pa_nil))) (pa_cons (pv 3) (pa_cons (pv 4) pa_nil)))))
  (pss_consN (ps_set (i:=7) scBook.nd rfl (Or.inl rfl) (pe_has G1 hr (by rfl) (pa_cons (pv 0) (pa_cons (pe_op op_add (pv 1) pe_int) pa_nil))))
  (pss_cut (ps_if (PW.pt (pw_and (pt_cmpR op_eq (pe_op op_mod (pv 7) pe_int) pe_int (nomark _)) (pw_and1 (pt_cmpR op_gt (pv 2) pe_int (nomark _)))))
    (pss_one (ps_asg (pe_has G3 hr (by rfl) (pa_cons (pe_ix ix_list (pv 6) (pe_op op_mod (pe_op op_fdiv (pv 7) pe_int) (pv 2)) (fun _ _=>rfl)) (pa_cons (pe_op op_fdiv (pv 7) pe_int) pa_nil))) (pg_sub (pv 6) (pe_op op_mod (pe_op op_fdiv (pv 7) pe_int) (pv 2)) set_list))) pss_nil)
  (pss_cut (ps_if (PW.pt (pw_and (pt_cmpR op_eq (pe_op op_mod (pv 7) pe_int) pe_int (nomark _)) (pw_and1 (pt_cmpR op_gt (pv 2) pe_int (nomark _)))))
    (pss_one (ps_asg (pe_has G4 hr (by rfl) (pa_cons (pe_ix ix_list (pv 6) (pe_op op_mod (pe_op op_fdiv (pv 7) pe_int) (pv 2)) (fun _ _=>rfl)) (pa_cons (pe_ix ix_list (pv 6) (pe_op op_mod (pe_op op_fdiv (pv 7) pe_int) (pv 2)) (fun _ _=>rfl)) (pa_cons (pv 3) pa_nil)))) (pg_sub (pv 6) (pe_op op_mod (pe_op op_fdiv (pv 7) pe_int) (pv 2)) set_list))) pss_nil)
  (pss_one (ps_ret (pv 6)))))))),?_⟩
 have r0:=Int.emod_nonneg (ns.getD st.toNat 0) (show (6:Int)≠0 by decide)
 have r1:=Int.emod_lt_of_pos (ns.getD st.toNat 0) (show (0:Int) < 6 by decide)
 obtain ⟨l,hl,l0,l1⟩:=pick6 r0 r1
 intro N hN
 refine ⟨_,rfl,_,rfl,a,ns,st,rfl,hS,hst,_,_,rfl,rfl,(by show (0:Int) < 6; decide),?_⟩
 refine hN _ _ fun N hN=>?_
 refine ⟨(by show 6≤sizeLine; decide),fun p0 n0=>?_⟩
 have g0:Same H (upd H p0 (.lst [.int 2,.int 2,.int 3,.int 4,.int 26,.int 1])):=same_new n0 _
 refine ⟨_,rfl,p0,_,_,_,rfl,rfl,SqL.of upd_same,hl,?_⟩
 generalize upd H p0 (.lst [.int 2,.int 2,.int 3,.int 4,.int 26,.int 1])=H1 at g0 ⊢
 refine hN _ _ fun N hN=>?_
 refine ⟨_,rfl,_,rfl,by omega,by omega,fun D hD=>?_⟩
 have hHD:H D=none:=g0.free hD
 refine turns_range (fun i σ H'=>∃ (kk:Option V) (bs:List Str),σ=[kk,some (.ref a),some (.int st),some (.int l),some (.int m)]∧Same H H'∧H' D=some (.lst (bs.map V.str))∧bs.length=i∧∀ b∈bs,Word m b) ⟨_,[],rfl,sameUpd g0 hHD,upd_same,rfl,fun b hb=>by cases hb⟩ ?_ ?_
 · rintro i σ H' hi ⟨kk,bs,rfl,hs,hD',hlen,hW⟩
   refine gYes ?_
   refine ⟨_,rfl,_,rfl,_,_,rfl,rfl,_,rfl,_,_,rfl,rfl,a,ns,_,rfl,hs.seq hS,by omega,_,rfl,_,rfl,_,l,m,rfl,bits_getD hB _,l0,l1,hm1,hm2,fun x wx=>?_⟩
   refine ⟨_,hD',(by rw [List.length_map,hlen]; exact small1000 (by omega)),_,bs ++ [x],rfl,sameUpd hs hHD,?_,(by rw [List.length_append,hlen] <;> rfl),fun b hb=>?_⟩
   · rw [upd_same,List.map_append] <;> rfl
   · rcases List.mem_append.mp hb with z | z
     · exact hW b z
     · rw [List.mem_singleton.mp z]; exact wx
 rintro σ' H2 ⟨kk,bs,rfl,hs,hD',hlen,hW⟩
 have hlen':bs.length=n:=by omega
 refine hN _ _ fun N hN=>?_
 refine ⟨_,rfl,_,rfl,_,_,rfl,rfl,a,ns,_,rfl,hs.seq hS,by omega,?_⟩
 generalize ns.getD (st+1).toNat 0=c
 have n0:=Int.emod_nonneg (c / 4) (show (n:Int)≠0 by omega)
 have n1:=Int.emod_lt_of_pos (c / 4) (show (0:Int) < (n:Int) by omega)
 have k0:=Int.emod_nonneg (c / 24) (show (n:Int)≠0 by omega)
 have k1:=Int.emod_lt_of_pos (c / 24) (show (0:Int) < (n:Int) by omega)
 have hnp:(0:Int) < (n:Int):=by omega
 refine hN _ _ ?_
 refine ⟨fun σ H'=>∃ bs:List Str,σ=[some (.ref a),some (.int st),some (.int n),some (.int m),some (.int (ns.getD st.toNat 0 % 6)),some (.int l),some (.ref D),some (.int c)]∧Same H H'∧H' D=some (.lst (bs.map V.str))∧bs.length=n∧∀ b∈bs,Word m b,?_,?_⟩
 · have no:∃ bs':List Str,([some (.ref a),some (.int st),some (.int n),some (.int m),some (.int (ns.getD st.toNat 0 % 6)),some (.int l),some (.ref D),some (.int c)]:L2.St)=[some (.ref a),some (.int st),some (.int n),some (.int m),some (.int (ns.getD st.toNat 0 % 6)),some (.int l),some (.ref D),some (.int c)]∧Same H H2∧H2 D=some (.lst (bs'.map V.str))∧bs'.length=n∧∀ b∈bs',Word m b:=⟨bs,rfl,hs,hD',hlen',hW⟩
   refine ⟨_,rfl,_,_,rfl,rfl,(by show (0:Int) < 4; decide),rfl,_,rfl,?_⟩
   refine ite2 (fun _=>?_) (fun _=>iteF no)
   refine ⟨_,rfl,_,_,rfl,rfl,_,rfl,?_⟩
   refine ite2 (fun _=>?_) (fun _=>no)
   obtain ⟨x,hx,_,ex⟩:=atI_strs (bs:=bs) k0 (by omega)
   refine ⟨_,rfl,_,rfl,_,_,rfl,rfl,⟨by decide,by decide⟩,_,rfl,_,_,rfl,rfl,hnp,D,_,_,_,rfl,rfl,SqL.of hD',ex,_,rfl,_,_,rfl,rfl,⟨by decide,by decide⟩,x,_,m,rfl,hW x hx,hm2,fun y wy=>?_⟩
   refine ⟨_,rfl,_,rfl,_,_,rfl,rfl,⟨by decide,by decide⟩,_,rfl,_,_,rfl,rfl,hnp,D,_,_,_,rfl,rfl,hD',ixN_nat n0 (by rw [List.length_map]; omega),bs.set (c / 4 % (n:Int)).toNat y,rfl,sameUpd hs hHD,?_,(by rw [List.length_set]; exact hlen'),words_set hW wy⟩
   rw [upd_same,List.map_set]
 rintro σ' H3 ⟨bs,rfl,hs,hD',hlen',hW⟩
 refine ⟨fun σ H'=>∃ bs:List Str,σ=[some (.ref a),some (.int st),some (.int n),some (.int m),some (.int (ns.getD st.toNat 0 % 6)),some (.int l),some (.ref D),some (.int c)]∧Same H H'∧H' D=some (.lst (bs.map V.str))∧bs.length=n∧∀ b∈bs,Word m b,?_,?_⟩
 · have no:∃ bs':List Str,([some (.ref a),some (.int st),some (.int n),some (.int m),some (.int (ns.getD st.toNat 0 % 6)),some (.int l),some (.ref D),some (.int c)]:L2.St)=[some (.ref a),some (.int st),some (.int n),some (.int m),some (.int (ns.getD st.toNat 0 % 6)),some (.int l),some (.ref D),some (.int c)]∧Same H H3∧H3 D=some (.lst (bs'.map V.str))∧bs'.length=n∧∀ b∈bs',Word m b:=⟨bs,rfl,hs,hD',hlen',hW⟩
   refine ⟨_,rfl,_,_,rfl,rfl,(by show (0:Int) < 4; decide),rfl,_,rfl,?_⟩
   refine ite2 (fun _=>?_) (fun _=>iteF no)
   refine ⟨_,rfl,_,_,rfl,rfl,_,rfl,?_⟩
   refine ite2 (fun _=>?_) (fun _=>no)
   obtain ⟨x,hx,_,ex⟩:=atI_strs (bs:=bs) k0 (by omega)
   obtain ⟨z,hz,_,ez⟩:=atI_strs (bs:=bs) n0 (by omega)
   refine ⟨_,rfl,_,rfl,_,_,rfl,rfl,⟨by decide,by decide⟩,_,rfl,_,_,rfl,rfl,hnp,D,_,_,_,rfl,rfl,SqL.of hD',ex,_,rfl,_,rfl,_,_,rfl,rfl,⟨by decide,by decide⟩,_,rfl,_,_,rfl,rfl,hnp,D,_,_,_,rfl,rfl,SqL.of hD',ez,_,rfl,x,z,m,rfl,hW x hx,hW z hz,hm2,fun y wy=>?_⟩
   refine ⟨_,rfl,_,rfl,_,_,rfl,rfl,⟨by decide,by decide⟩,_,rfl,_,_,rfl,rfl,hnp,D,_,_,_,rfl,rfl,hD',ixN_nat n0 (by rw [List.length_map]; omega),bs.set (c / 4 % (n:Int)).toNat y,rfl,sameUpd hs hHD,?_,(by rw [List.length_set]; exact hlen'),words_set hW wy⟩
   rw [upd_same,List.map_set]
 rintro σ' H4 ⟨bs,rfl,hs,hD',hlen',hW⟩
 exact ⟨_,rfl,q D bs H4 hHD hs hD' hlen' hW⟩
theorem okI_Check {CL CB CW CO CN:Addr} (F:Fun K "check_book" "check_book" sCheck f fd) (T:Gb mg) (R:Ers K mg CL CB CW CO CN) (G1:Has P w K mg base "has_book_size" 1 ["book"] (spSize K)) (G2:Has P w K mg base "is_word" 2 ["text"] spIsWord):FnOk P w K mg base (CXR P w) 3 f fd ["book"] (spIll K 0 CB CW):=by
 refine LW.Fun.okR F scCheck (fun vs H Q E h=>?_) (fun cdv A outer s H vs Q E hr h=>?_)
 · obtain ⟨p,bs,r,rfl,hn,_⟩:=h
   rw [List.length_cons,hn]
   rfl
 obtain ⟨p,bs,r,rfl,hn,hS,hw,hI⟩:=h
 obtain rfl:=List.length_eq_zero_iff.mp hn
 have hr1:=hr.mono (show 1≤2 by decide)
 obtain ⟨t1,ht1⟩:=T.c_MOST_WORDS
 obtain ⟨t2,ht2⟩:=T.c_MOST_LETTERS
 refine ⟨_,pss_consN (ps_if (pt_not (pt_val (pe_has G1 hr1 (by rfl) (pa_cons (pv 0) pa_nil)))) (pss_one (ps_raise R.B.ex rfl R.mB (pa_cons (pe_f3 rfl ht1 (by decide +kernel) (by decide +kernel) (by decide +kernel) (by decide +kernel)) pa_nil))) pss_nil)
  (pss_one (ps_for PassesOwn.leaving rfl (pi_listK rfl (pv 0)) (pg_name (i:=1) scCheck.nd rfl (Or.inl rfl)) (pss_one (ps_if (pt_not (pt_val (pe_has G2 hr (by rfl) (pa_cons (pv 1) pa_nil)))) (pss_one (ps_raise R.W.ex rfl R.mW (pa_cons (pe_f3 rfl ht2 (by decide +kernel) (by decide +kernel) (by decide +kernel) (by decide +kernel)) pa_nil))) pss_nil)))),?_⟩
 intro N hN
 refine ⟨_,rfl,p,bs,rfl,hS,?_⟩
 have e0:(decide (1≤(bs.length:Int)) && decide ((bs.length:Int)≤6))=sizedB bs:=rfl
 rw [e0]
 rcases hI with ⟨h0,hE⟩ | ⟨h1,⟨b0,hb0,hn0⟩,hE⟩
 · rw [h0]
   exact ⟨_,rfl,iteT fun y=>⟨(by show 1≤sizeLine; decide),hE H (Same.refl _)⟩⟩
 rw [h1]
 refine ⟨_,rfl,iteF ?_⟩
 refine hN _ _ ?_
 refine ⟨_,rfl,p,rfl,⟨_,hS⟩,?_⟩
 refine for_list (xs:=bs.map V.str) (fun i σ H'=>(∃ kk,σ=[some (.ref p),kk])∧Same H H'∧∀ b∈bs.take i,isWordB b=true) ⟨⟨_,rfl⟩,Same.refl _,fun b hb=>by cases hb⟩ ?_ ?_ ?_
 · rintro i σ H' _ ⟨_,hs,_⟩
   exact hs.seq hS
 · rintro i v σ H' hv ⟨⟨kk,rfl⟩,hs,ha⟩
   obtain ⟨b,eb,rfl⟩:=at_strs hv
   refine ⟨_,rfl,b,rfl,hw b (List.mem_of_getElem? eb),fun H2 s2=>?_⟩
   refine ⟨_,rfl,?_⟩
   cases e:isWordB b with
   | true =>
    refine iteF ⟨⟨_,rfl⟩,hs.trans s2,?_⟩
    rw [take_snoc eb]
    intro c hc
    rcases List.mem_append.mp hc with hc | hc
    · exact ha c hc
    · rw [List.mem_singleton.mp hc]; exact e
   | false=>exact iteT fun y=>⟨(by show 1≤sizeLine; decide),hE H2 (hs.trans s2)⟩
 · rintro σ H' ⟨_,hs,ha⟩
   rw [List.length_map,List.take_length] at ha
   rw [ha b0 hb0] at hn0
   cases hn0
theorem okI_Kept {CB CW:Addr} (F:Fun K "kept" "kept" sKept f fd) (T:Gb mg) (G1:HasR P w K mg base "check_book" 3 ["book"] (spIll K 0 CB CW)):FnOk P w K mg base (CXR P w) 4 f fd ["book"] (spIll K 0 CB CW):=by
 refine LW.Fun.okR F scKept (fun vs H Q E h=>?_) (fun cdv A outer s H vs Q E hr h=>?_)
 · obtain ⟨p,bs,r,rfl,hn,_⟩:=h
   rw [List.length_cons,hn]
   rfl
 obtain ⟨p,bs,r,rfl,hn,hI⟩:=h
 obtain rfl:=List.length_eq_zero_iff.mp hn
 exact ⟨_,pss_dead (ps_expr (pe_hasR G1 hr (by rfl) passR (pa_cons (pv 0) pa_nil))),⟨_,rfl,p,bs,[],rfl,rfl,hI⟩⟩
theorem okI_Places {CB CW:Addr} (F:Fun K "places" "places" sPlaces f fd) (T:Gb mg) (G1:HasR P w K mg base "check_book" 3 ["book"] (spIll K 0 CB CW)):FnOk P w K mg base (CXR P w) 4 f fd ["book","text"] (spIll K 1 CB CW):=by
 refine LW.Fun.okR F scPlaces (fun vs H Q E h=>?_) (fun cdv A outer s H vs Q E hr h=>?_)
 · obtain ⟨p,bs,r,rfl,hn,_⟩:=h
   rw [List.length_cons,hn]
   rfl
 obtain ⟨p,bs,r,rfl,hn,hI⟩:=h
 obtain ⟨v,rfl⟩:=List.length_eq_one_iff.mp hn
 exact ⟨_,pss_dead (ps_expr (pe_hasR G1 hr (by rfl) passR (pa_cons (pv 0) pa_nil))),⟨_,rfl,p,bs,[],rfl,rfl,hI⟩⟩
theorem okI_Ord {CL CB CW CO CN:Addr} (F:Fun K "check_order" "check_order" sOrd f fd) (T:Gb mg) (R:Ers K mg CL CB CW CO CN):FnOk P w K mg base (CXR P w) 1 f fd ["book","order"] (spOrdIll K CO):=by
 refine LW.Fun.okR F scOrd (fun vs H Q E h=>?_) (fun cdv A outer s H vs Q E hr h=>?_)
 · obtain ⟨p,r,bs,os,rfl,_⟩:=h
   rfl
 obtain ⟨p,r,bs,os,rfl,hS,hR,hle,hO,hE⟩:=h
 refine ⟨_,pss_consN (ps_if (pt_cmpR op_eq (pe_callB call_len_seq rfl T.b_len PySem.boot_len (pa_cons (pv 1) pa_nil)) pe_int (nomark _)) (pss_one (ps_raise R.O.ex rfl R.mO (pa_cons pe_str pa_nil))) pss_nil)
  (pss_consN (ps_for PassesOwn.leaving rfl (pi_list (pv 1)) (pg_name (i:=2) scOrd.nd rfl (Or.inl rfl)) (pss_one (ps_if (pt_not (pt_chain op_le op_lt pe_int (pv 2) (pe_callB call_len_seq rfl T.b_len PySem.boot_len (pa_cons (pv 0) pa_nil)))) (pss_one (ps_raise R.O.ex rfl R.mO (pa_cons pe_str pa_nil))) pss_nil)))
  (pss_one (ps_if (pt_cmpR op_ne (pe_callB call_lenSet rfl T.b_len PySem.boot_len (pa_cons (pe_callTy (call_setI rfl) rfl T.b_set PyProof.Rows.boot_set (pa_cons (pv 1) pa_nil)) pa_nil)) (pe_callB call_len_seq rfl T.b_len PySem.boot_len (pa_cons (pv 1) pa_nil)) (nomark _)) (pss_one (ps_raise R.O.ex rfl R.mO (pa_cons pe_str pa_nil))) pss_nil))),?_⟩
 have hlo:(os.map V.int).length=os.length:=List.length_map _
 have hlb:(bs.map V.str).length=bs.length:=List.length_map _
 intro N hN
 refine ⟨_,rfl,r,_,rfl,.inl hR,rfl,_,rfl,?_⟩
 refine ite2 (fun _=>⟨by decide,hE H (Same.refl _)⟩) (fun c=>?_)
 have hne:os≠[]:=fun z=>c (decide_eq_true (by rw [z]; rfl))
 refine hN _ _ fun N hN=>?_
 refine ⟨_,rfl,r,rfl,⟨_,hR⟩,?_⟩
 refine for_list (xs:=os.map V.int) (fun i σ H'=>H'=H∧(∃ kk,σ=[some (.ref p),some (.ref r),kk])∧∀ o∈os.take i,0≤o∧o < (bs.length:Int)) ⟨rfl,⟨_,rfl⟩,fun o ho=>by cases ho⟩ ?_ ?_ ?_
 · rintro i σ H' _ ⟨rfl,_⟩
   exact hR
 · rintro i v σ H' hv ⟨rfl,⟨kk,rfl⟩,ha⟩
   obtain ⟨o,eo,rfl⟩:=at_ints hv
   refine ⟨_,rfl,_,_,rfl,rfl,_,rfl,?_⟩
   refine ite2 (fun c0=>?_) (fun _=>⟨_,rfl,iteT ⟨by decide,hE H' (Same.refl _)⟩⟩)
   refine ⟨_,rfl,p,_,rfl,.inl hS,_,_,rfl,rfl,_,rfl,?_⟩
   by_cases h1:o < (bs.length:Int)
   · refine iteNS (show o < (((bs.map V.str).length:Nat):Int) by rw [hlb]; exact h1) ⟨rfl,⟨_,rfl⟩,?_⟩
     rw [take_snoc eo]
     intro x hx
     rcases List.mem_append.mp hx with hx | hx
     · exact ha x hx
     · rw [List.mem_singleton.mp hx]; exact ⟨of_decide_eq_true c0,h1⟩
   · exact iteNT (show ¬ o < (((bs.map V.str).length:Nat):Int) by rw [hlb]; exact h1) ⟨by decide,hE H' (Same.refl _)⟩
 rintro σ H' ⟨rfl,⟨kk,rfl⟩,ha⟩
 rw [hlo,List.take_length] at ha
 refine hN _ _ ?_
 refine ⟨_,rfl,r,os,rfl,hR,by omega,fun t ht=>?_⟩
 have s1:Same H' (upd H' t (.set (fun k'=>(firstMet (fun i=>os.getD i 0) os.length).any (· == k')) (firstMet (fun i=>os.getD i 0) os.length).length)):=same_new ht _
 refine ⟨t,_,_,rfl,upd_same,_,rfl,r,_,rfl,.inl (s1.seq hR),rfl,_,rfl,?_⟩
 refine iteNT (fun z=>hO ⟨hne,?_,ha,hle⟩) ⟨by decide,hE _ s1⟩
 rw [hlo] at z
 injection z with z
 exact firstMet_nd (by omega)
theorem okI_Laid {CB CW:Addr} (F:Fun K "laid" "laid" sLaid f fd) (T:Gb mg) (G1:HasR P w K mg base "check_book" 3 ["book"] (spIll K 0 CB CW)):FnOk P w K mg base (CXR P w) 4 f fd ["book","order"] (spIll K 1 CB CW):=by
 refine LW.Fun.okR F scLaid (fun vs H Q E h=>?_) (fun cdv A outer s H vs Q E hr h=>?_)
 · obtain ⟨p,bs,r,rfl,hn,_⟩:=h
   rw [List.length_cons,hn]
   rfl
 obtain ⟨p,bs,r,rfl,hn,hI⟩:=h
 obtain ⟨v,rfl⟩:=List.length_eq_one_iff.mp hn
 exact ⟨_,pss_dead (ps_expr (pe_hasR G1 hr (by rfl) passR (pa_cons (pv 0) pa_nil))),⟨_,rfl,p,bs,[],rfl,rfl,hI⟩⟩
theorem okO_Laid {CO:Addr} (F:Fun K "laid" "laid" sLaid f fd) (T:Gb mg) (G1:Has P w K mg base "check_book" 3 ["book"] (spCheck K)) (G2:HasR P w K mg base "check_order" 1 ["book","order"] (spOrdIll K CO)):FnOk P w K mg base (CXR P w) 4 f fd ["book","order"] (spLaidIll K CO):=by
 refine LW.Fun.okR F scLaid (fun vs H Q E h=>?_) (fun cdv A outer s H vs Q E hr h=>?_)
 · obtain ⟨p,r,bs,os,rfl,_⟩:=h
   rfl
 obtain ⟨p,r,bs,os,rfl,hS,hR,hG,hl,hO,q⟩:=h
 refine ⟨_,pss_consN (ps_expr (pe_has G1 hr (by rfl) (pa_cons (pv 0) pa_nil))) (pss_dead (ps_expr (pe_hasR G2 (hr.mono (by decide)) (by rfl) passR (pa_cons (pv 0) (pa_cons (pv 1) pa_nil))))),?_⟩
 intro N hN
 refine ⟨_,rfl,p,bs,rfl,hS,hG,fun H1 s1=>?_⟩
 refine hN _ _ ?_
 exact ⟨_,rfl,_,rfl,p,r,bs,os,rfl,s1.seq hS,s1.seq hR,hl,hO,fun H' s'=>q H' (s1.trans s')⟩
theorem okI_Heights {CB CW:Addr} (F:Fun K "heights" "heights" sHeights f fd) (T:Gb mg) (G1:HasR P w K mg base "kept" 4 ["book"] (spIll K 0 CB CW)) (G2:Has P w K mg base "known_heights" 5 ["book","numbers"] (spKnown P w K)):FnOk P w K mg base (CXR P w) 6 f fd ["book"] (spIll K 0 CB CW):=by
 refine LW.Fun.okR F scHeights (fun vs H Q E h=>?_) (fun cdv A outer s H vs Q E hr h=>?_)
 · obtain ⟨p,bs,r,rfl,hn,_⟩:=h
   rw [List.length_cons,hn]
   rfl
 obtain ⟨p,bs,r,rfl,hn,hI⟩:=h
 obtain rfl:=List.length_eq_zero_iff.mp hn
 exact ⟨_,pss_one (ps_ret (pe_callB (call_sortedItems (P:=P) (w:=w) rfl rfl rfl (units_of hr)) rfl T.b_sorted boot_sorted (pa_cons (pe_items (P:=P) (w:=w) rfl rfl (pe_has G2 hr (by rfl) (pa_cons (pv 0) (pa_cons (pe_hasR G1 (hr.mono (by decide)) (by rfl) passR (pa_cons (pv 0) pa_nil)) pa_nil)))) pa_nil))),⟨_,rfl,_,rfl,p,bs,[],rfl,rfl,hI⟩⟩
theorem okI_All {CB CW:Addr} (F:Fun K "all_shortest" "all_shortest" sAll f fd) (T:Gb mg) (G1:HasR P w K mg base "kept" 4 ["book"] (spIll K 0 CB CW)):FnOk P w K mg base (CXR P w) 11 f fd ["book"] (spIll K 0 CB CW):=by
 refine LW.Fun.okR F scAll (fun vs H Q E h=>?_) (fun cdv A outer s H vs Q E hr h=>?_)
 · obtain ⟨p,bs,r,rfl,hn,_⟩:=h
   rw [List.length_cons,hn]
   rfl
 obtain ⟨p,bs,r,rfl,hn,hI⟩:=h
 obtain rfl:=List.length_eq_zero_iff.mp hn
 exact ⟨_,pss_dead (ps_set (i:=1) scAll.nd rfl (Or.inl rfl) (pe_hasR G1 (hr.mono (by decide)) (by rfl) passR (pa_cons (pv 0) pa_nil))),⟨_,rfl,p,bs,[],rfl,rfl,hI⟩⟩
theorem okI_One {CB CW:Addr} (F:Fun K "shortest" "shortest" sOne f fd) (T:Gb mg) (G1:HasR P w K mg base "all_shortest" 11 ["book"] (spIll K 0 CB CW)):FnOk P w K mg base (CXR P w) 12 f fd ["book"] (spIll K 0 CB CW):=by
 refine LW.Fun.okR F scOne (fun vs H Q E h=>?_) (fun cdv A outer s H vs Q E hr h=>?_)
 · obtain ⟨p,bs,r,rfl,hn,_⟩:=h
   rw [List.length_cons,hn]
   rfl
 obtain ⟨p,bs,r,rfl,hn,hI⟩:=h
 obtain rfl:=List.length_eq_zero_iff.mp hn
 exact ⟨_,pss_one (ps_ret (pe_ix (ix_listK rfl) (pe_hasR G1 hr (by rfl) passR (pa_cons (pv 0) pa_nil)) pe_int (fun _ _=>rfl))),⟨_,rfl,p,bs,[],rfl,rfl,hI⟩⟩
theorem okI_Greedy {CB CW:Addr} (F:Fun K "greedy" "greedy" sGreedy f fd) (T:Gb mg) (G1:HasR P w K mg base "kept" 4 ["book"] (spIll K 0 CB CW)):FnOk P w K mg base (CXR P w) 5 f fd ["book"] (spIll K 0 CB CW):=by
 refine LW.Fun.okR F scGreedy (fun vs H Q E h=>?_) (fun cdv A outer s H vs Q E hr h=>?_)
 · obtain ⟨p,bs,r,rfl,hn,_⟩:=h
   rw [List.length_cons,hn]
   rfl
 obtain ⟨p,bs,r,rfl,hn,hI⟩:=h
 obtain rfl:=List.length_eq_zero_iff.mp hn
 exact ⟨_,pss_dead (ps_setComp (i:=1) (oN:=["book","pieces"]) (osc:=defScope sGreedy) (N':=["number","book"]) (cap:=[none,some 0]) scGreedy.nd rfl (Or.inl rfl) rfl rfl rfl (by decide +kernel) rfl (by decide +kernel) (by decide +kernel) (by decide +kernel) rfl
   (pi_listK rfl (pe_hasR G1 hr (by rfl) passR (pa_cons (pv 0) pa_nil))) (fun _ _ _ _ _=>pg_name (i:=0) ndGreedy0 rfl (Or.inl rfl)) (fun _ _ _ _ _=>pif_none)
   (fun _ _ _ _ _=>(pe_ix (ix_listK rfl) (pv 1) (pv 0) (fun _ _=>rfl)))),⟨_,rfl,p,bs,[],rfl,rfl,hI⟩⟩
theorem okI_Shown {CB CW:Addr} (F:Fun K "shown" "shown" sShown f fd) (T:Gb mg) (G1:HasR P w K mg base "check_book" 3 ["book"] (spIll K 0 CB CW)):FnOk P w K mg base (CXR P w) 4 f fd ["book"] (spIll K 0 CB CW):=by
 refine LW.Fun.okR F scShown (fun vs H Q E h=>?_) (fun cdv A outer s H vs Q E hr h=>?_)
 · obtain ⟨p,bs,r,rfl,hn,_⟩:=h
   rw [List.length_cons,hn]
   rfl
 obtain ⟨p,bs,r,rfl,hn,hI⟩:=h
 obtain rfl:=List.length_eq_zero_iff.mp hn
 exact ⟨_,pss_dead (ps_expr (pe_hasR G1 hr (by rfl) passR (pa_cons (pv 0) pa_nil))),⟨_,rfl,p,bs,[],rfl,rfl,hI⟩⟩
theorem scAsked:FnScope ["way","book","order"] ["way","book","order"] (defScope sAsked):=⟨rfl,rfl,rfl,by decide +kernel,rfl,by decide +kernel,by decide +kernel⟩
theorem ok_Asked {CB CW CO:Addr} (F:Fun K "_law_asked" "_law_asked" sAsked f fd) (T:Gb mg) (G0:HasR P w K mg base "kept" 4 ["book"] (spUni K CB CW)) (G1:HasR P w K mg base "places" 4 ["book","text"] (spUniP K CB CW)) (G2:HasR P w K mg base "laid" 4 ["book","order"] (spUniL K CB CW CO)) (G3:HasR P w K mg base "heights" 6 ["book"] (spUni K CB CW)) (G4:HasR P w K mg base "shortest" 12 ["book"] (spUni K CB CW)) (G5:HasR P w K mg base "all_shortest" 11 ["book"] (spUni K CB CW)) (G6:HasR P w K mg base "greedy" 5 ["book"] (spUni K CB CW)) (G7:HasR P w K mg base "shown" 4 ["book"] (spUni K CB CW)):FnOk P w K mg base (CXR P w) 13 f fd ["way","book","order"] (spAsked K CB CW CO):=by
 refine LW.Fun.okR F scAsked (fun vs H Q E h=>?_) (fun cdv A outer s H vs Q E hr h=>?_)
 · obtain ⟨way,p,r,bs,os,rfl,_⟩:=h
   rfl
 obtain ⟨way,p,r,bs,os,rfl,hS,hR,hw,hl,hA⟩:=h
 have hr4:=hr.mono (show 4≤12 by decide)
 have hr5:=hr.mono (show 5≤12 by decide)
 have hr6:=hr.mono (show 6≤12 by decide)
 have hr11:=hr.mono (show 11≤12 by decide)
 refine ⟨_,pss_one (ps_if (pt_cmpR op_eq (pv 0) pe_int (nomark _)) (pss_one (ps_expr (pe_hasR G0 hr4 (by rfl) passR (pa_cons (pv 1) pa_nil))))
  (pss_one (ps_if (pt_cmpR op_eq (pv 0) pe_int (nomark _)) (pss_one (ps_expr (pe_hasR G1 hr4 (by rfl) passR (pa_cons (pv 1) (pa_cons pe_str pa_nil)))))
  (pss_one (ps_if (pt_cmpR op_eq (pv 0) pe_int (nomark _)) (pss_one (ps_expr (pe_hasR G2 hr4 (by rfl) passR (pa_cons (pv 1) (pa_cons (pv 2) pa_nil)))))
  (pss_one (ps_if (pt_cmpR op_eq (pv 0) pe_int (nomark _)) (pss_one (ps_expr (pe_hasR G3 hr6 (by rfl) passR (pa_cons (pv 1) pa_nil))))
  (pss_one (ps_if (pt_cmpR op_eq (pv 0) pe_int (nomark _)) (pss_one (ps_expr (pe_hasR G4 hr (by rfl) passR (pa_cons (pv 1) pa_nil))))
  (pss_one (ps_if (pt_cmpR op_eq (pv 0) pe_int (nomark _)) (pss_one (ps_expr (pe_hasR G5 hr11 (by rfl) passR (pa_cons (pv 1) pa_nil))))
  (pss_one (ps_if (pt_cmpR op_eq (pv 0) pe_int (nomark _)) (pss_one (ps_expr (pe_hasR G6 hr5 (by rfl) passR (pa_cons (pv 1) pa_nil))))
  (pss_one (ps_expr (pe_hasR G7 hr4 (by rfl) passR (pa_cons (pv 1) pa_nil))))))))))))))))),?_⟩
 have hU:¬ way=2→Ill CB CW bs H E∨Good bs∧∀ (_:V) (H':Hp),Same H H'→Q .non H':=fun z=>by
  rcases hA with h | ⟨h,_,q⟩ | ⟨_,h,_⟩
  · exact .inl h
  · exact .inr ⟨h,fun _=>q⟩
  · exact absurd h z
 have hN:∀ {n:Int},decide (V.int way=V.int n)=true→¬ n=2→¬ way=2:=fun c h z=>by
  have c':=of_decide_eq_true c
  injection c' with c'
  exact h (c'.symm.trans z)
 refine ⟨_,rfl,rfl,_,rfl,ite2 (fun c=>⟨_,rfl,p,bs,rfl,hS,hw,hU (hN c (by decide))⟩) (fun _=>?_)⟩
 refine ⟨_,rfl,rfl,_,rfl,ite2 (fun c=>⟨_,rfl,p,bs,_,rfl,by decide +kernel,hS,hw,hU (hN c (by decide))⟩) (fun _=>?_)⟩
 refine ⟨_,rfl,rfl,_,rfl,ite2 (fun c=>?_) (fun c2=>?_)⟩
 · refine ⟨_,rfl,_,rfl,p,r,bs,os,rfl,hS,hR,hw,hl,?_⟩
   rcases hA with h | ⟨h,hO,q⟩ | ⟨h,_,hO,q⟩
   · exact .inl h
   · exact .inr (.inl ⟨h,hO,fun _=>q⟩)
   · exact .inr (.inr ⟨h,hO,q⟩)
 have hU':=hU fun z=>c2 (decide_eq_true (by rw [z]))
 refine ⟨_,rfl,rfl,_,rfl,ite2 (fun c=>⟨_,rfl,p,bs,rfl,hS,hw,hU'⟩) (fun _=>?_)⟩
 refine ⟨_,rfl,rfl,_,rfl,ite2 (fun c=>⟨_,rfl,p,bs,rfl,hS,hw,hU'⟩) (fun _=>?_)⟩
 refine ⟨_,rfl,rfl,_,rfl,ite2 (fun c=>⟨_,rfl,p,bs,rfl,hS,hw,hU'⟩) (fun _=>?_)⟩
 refine ⟨_,rfl,rfl,_,rfl,ite2 (fun c=>⟨_,rfl,p,bs,rfl,hS,hw,hU'⟩) (fun _=>?_)⟩
 exact ⟨_,rfl,p,bs,rfl,hS,hw,hU'⟩
theorem scFlags:FnScope ["way","book","order","flags","e"] ["way","book","order"] (defScope sFlags):=⟨rfl,rfl,rfl,by decide +kernel,rfl,by decide +kernel,by decide +kernel⟩
theorem boot_VE:bootBuiltins "ValueError"=some (.type "ValueError"):=by decide +kernel
theorem ok_Flags {CL CB CW CO CN:Addr} (F:Fun K "_law_flags" "_law_flags" sFlags f fd) (T:Gb mg) (R:Ers K mg CL CB CW CO CN) (G1:HasR P w K mg base "_law_asked" 13 ["way","book","order"] (spAsked K CB CW CO)):FnOk P w K mg base CX0 14 f fd ["way","book","order"] (spFlags K):=by
 refine F.ok scFlags (fun vs H Q E h=>?_) (fun cdv A outer s H vs Q E hr h=>?_)
 · obtain ⟨way,p,r,bs,os,fl,rfl,_⟩:=h
   rfl
 obtain ⟨way,p,r,bs,os,fl,rfl,hS,hR,hw,hl,hV,q⟩:=h
 refine ⟨_,pss_consN (ps_set (i:=3) scFlags.nd rfl (Or.inl rfl) (pe_lst pa_nil))
  (pss_consN (ps_try (i:=4) (EW:=fun C _ H'=>Same H H'∧∃ D b1 b2 b3,C=.ref D∧Kind K CL CB CW CO CN D b1 b2 b3∧fl=[b1,b2,b3,false,true]) rfl rfl scFlags.nd rfl rfl rfl R.mL (fun C o H' z=>by obtain ⟨_,D,_,_,_,rfl,k,_⟩:=z; exact k.yL)
   (fun E pn hx=>pss_one (ps_expr (pe_hasR G1 hr (by rfl) hx (pa_cons (pv 0) (pa_cons (pv 1) (pa_cons (pv 2) pa_nil))))))
   (fun e=>pss_consN (ps_set (i:=3) scFlags.nd rfl (Or.inl rfl) (pe_lst (pa_cons (pe_callB (call_isErr rfl) rfl T.b_isinstance boot_isinstance (pa_cons (pv 4) (pa_cons (pe_glob (v:=.ref CB) rfl R.mB rfl) pa_nil)))
    (pa_cons (pe_callB (call_isErr rfl) rfl T.b_isinstance boot_isinstance (pa_cons (pv 4) (pa_cons (pe_glob (v:=.ref CW) rfl R.mW rfl) pa_nil)))
    (pa_cons (pe_callB (call_isErr rfl) rfl T.b_isinstance boot_isinstance (pa_cons (pv 4) (pa_cons (pe_glob (v:=.ref CO) rfl R.mO rfl) pa_nil)))
    (pa_cons (pe_callB (call_isErr rfl) rfl T.b_isinstance boot_isinstance (pa_cons (pv 4) (pa_cons (pe_glob (v:=.ref CN) rfl R.mN rfl) pa_nil))) pa_nil))))))
    (pss_one (ps_set (i:=3) scFlags.nd rfl (Or.inl rfl) (pe_op op_cat (pv 3) (pe_lst (pa_cons (pe_callB (call_isErrT rfl) rfl T.b_isinstance boot_isinstance (pa_cons (pv 4) (pa_cons (pe_bltn (v:=.ty "ValueError") rfl T.b_ValueError boot_VE rfl) pa_nil))) pa_nil)))))))
  (pss_one (ps_ret (pv 3)))),?_⟩
 intro Z hZ
 refine ⟨by decide,fun l0 hl0=>?_⟩
 have s0:=same_new hl0 (.lst [])
 refine hZ _ _ fun Y hY=>?_
 refine ⟨⟨_,rfl,_,rfl,_,rfl,way,p,r,bs,os,rfl,s0.seq hS,s0.seq hR,hw,hl,?_⟩,?_⟩
 · rcases hV with ⟨h0,rfl⟩ | ⟨h1,hb,rfl⟩ | ⟨hG,hO,rfl⟩ | ⟨hG,h2,hO,rfl⟩
   · exact .inl (.inl ⟨h0,fun H' s'=>⟨s0.trans s',CB,_,_,_,rfl,R.B,rfl⟩⟩)
   · exact .inl (.inr ⟨h1,hb,fun H' s'=>⟨s0.trans s',CW,_,_,_,rfl,R.W,rfl⟩⟩)
   · exact .inr (.inl ⟨hG,hO,fun H' s'=>hY _ _ ⟨_,rfl,q l0 H' hl0 (s0.trans s') (s' _ _ upd_same)⟩⟩)
   · exact .inr (.inr ⟨hG,h2,hO,fun H' s'=>⟨s0.trans s',CO,_,_,_,rfl,R.O,rfl⟩⟩)
 rintro σ' H' C e hlen ⟨hs,D,b1,b2,b3,hC,k,rfl⟩ he
 obtain rfl:C=D:=by injection hC
 obtain ⟨a0,a1,a2,a3,a4,rfl⟩:∃ a0 a1 a2 a3 a4,σ'=[a0,a1,a2,a3,a4]:=match σ',hlen with | [a0,a1,a2,a3,a4],_=>⟨a0,a1,a2,a3,a4,rfl⟩
 have h0:upd H' e (.ext fun h=>ErrAt h e C) e=some (.ext fun h=>ErrAt h e C):=upd_same
 have s1:Same H (upd H' e (.ext fun h=>ErrAt h e C)):=sameUpd hs (hs.free he)
 generalize upd H' e (.ext fun h=>ErrAt h e C)=H1 at h0 s1 ⊢
 intro X hX
 refine ⟨_,rfl,e,C,CB,b1,rfl,h0,k.cl,k.kB,_,rfl,e,C,CW,b2,rfl,h0,k.cl,k.kW,_,rfl,e,C,CO,b3,rfl,h0,k.cl,k.kO,_,rfl,e,C,CN,false,rfl,h0,k.cl,k.kN,(by show 4≤sizeLine; decide),fun l1 hl1=>?_⟩
 have s2:=sameUpd (o:=.lst [.bl b1,.bl b2,.bl b3,.bl false]) s1 (s1.free hl1)
 have h1:upd H1 l1 (.lst [.bl b1,.bl b2,.bl b3,.bl false]) e=some (.ext fun h=>ErrAt h e C):=by
  rw [upd_ne (ne_of_none h0 hl1)]
  exact h0
 have h2:upd H1 l1 (.lst [.bl b1,.bl b2,.bl b3,.bl false]) l1=some (.lst [.bl b1,.bl b2,.bl b3,.bl false]):=upd_same
 generalize upd H1 l1 (.lst [.bl b1,.bl b2,.bl b3,.bl false])=H2 at s2 h1 h2 ⊢
 refine hX _ _ ?_
 refine ⟨_,rfl,_,rfl,e,C,"ValueError",true,rfl,h1,k.cl,k.kV,by decide,fun l2 hl2=>?_⟩
 have s3:=sameUpd (o:=.lst [.bl true]) s2 (s2.free hl2)
 have h3:upd H2 l2 (.lst [.bl true]) l1=some (.lst [.bl b1,.bl b2,.bl b3,.bl false]):=by
  rw [upd_ne (ne_of_none h2 hl2)]
  exact h2
 refine ⟨l1,l2,_,_,rfl,rfl,h3,upd_same,(by show 4+1≤sizeLine; decide),fun l3 hl3=>?_⟩
 exact hY _ _ ⟨_,rfl,q l3 _ (s3.free hl3) (sameUpd s3 (s3.free hl3)) upd_same⟩
theorem scIllWord:FnScope ["word","cell","sign","at"] ["word","cell"] (defScope sIllWord):=⟨rfl,rfl,rfl,by decide +kernel,rfl,by decide +kernel,by decide +kernel⟩
theorem ok_IllWord (F:Fun K "_law_ill_word" "_law_ill_word" sIllWord f fd) (T:Gb mg):FnOk P w K mg base CX0 1 f fd ["word","cell"] spIllWord:=by
 refine F.ok scIllWord (fun vs H Q E h=>?_) (fun cdv A outer s H vs Q E hr h=>?_)
 · obtain ⟨x,cell,rfl,_⟩:=h
   rfl
 obtain ⟨x,cell,rfl,hW,q⟩:=h
 refine ⟨_,pss_consN (ps_if (pt_cmpR op_eq (pe_op op_mod (pv 1) pe_int) pe_int (nomark _)) (pss_one (ps_ret pe_str)) pss_nil)
  (pss_consN (ps_if (pt_cmpR op_eq (pe_op op_mod (pv 1) pe_int) pe_int (nomark _)) (pss_one (ps_ret (pe_op op_add_str pe_str (pe_slice sl_str (pv 0) po_none (po_some (pe_op op_mod (pe_op op_fdiv (pv 1) pe_int) pe_int)))))) pss_nil)
  (pss_consN (ps_set (i:=2) scIllWord.nd rfl (Or.inl rfl) (pe_ix ix_str pe_str (pe_op op_mod (pe_op op_fdiv (pv 1) pe_int) pe_int) (fun _ _=>rfl)))
  (pss_consN (ps_set (i:=3) scIllWord.nd rfl (Or.inl rfl) (pe_op op_mod (pe_op op_fdiv (pv 1) pe_int) (pe_callB call_len_str rfl T.b_len PySem.boot_len (pa_cons (pv 0) pa_nil))))
  (pss_one (ps_ret (pe_op op_add_str (pe_op op_add_str (pe_slice sl_str (pv 0) po_none (po_some (pv 3))) (pv 2)) (pe_slice sl_str (pv 0) (po_some (pe_op op_add (pv 3) pe_int)) po_none))))))),?_⟩
 have hpos:=hW.pos
 have hle:=hW.le
 have sx:x.length≤sizeLine:=small (by omega)
 intro N hN
 refine ⟨_,rfl,_,_,rfl,rfl,(by show (0:Int) < 4; decide),rfl,_,rfl,?_⟩
 refine ite2 (fun _=>q _ (by decide +kernel) (by decide +kernel)) (fun _=>?_)
 refine hN _ _ fun N hN=>?_
 refine ⟨_,rfl,_,_,rfl,rfl,(by show (0:Int) < 4; decide),rfl,_,rfl,?_⟩
 refine ite2 (fun _=>?_) (fun _=>?_)
 · have m0:(0:Int)≤cell / 4 % 9:=Int.emod_nonneg _ (by decide)
   have l1:=sl_to x m0
   have l2:=strLen_append (Str.ofString "abcdefghijk") (Txt.slice x none (some (cell / 4 % 9)))
   have e:(Str.ofString "abcdefghijk").length=11:=by decide +kernel
   refine ⟨_,rfl,_,rfl,_,_,rfl,rfl,⟨by decide,by decide⟩,_,_,rfl,rfl,(by show (0:Int) < 9; decide),_,rfl,x,rfl,sx,_,_,rfl,rfl,Nat.le_of_lt (small1000 (by omega)),?_⟩
   exact q _ (by omega) (ill_long (by omega))
 have hz:(Str.ofString "A0_ -.Z9~\n").cps.toList.length=10:=by decide +kernel
 have k1:(0:Int)≤cell / 4 % 10:=Int.emod_nonneg _ (by decide)
 have k2:cell / 4 % 10 < ((10:Nat):Int):=Int.emod_lt_of_pos _ (by decide)
 obtain ⟨ch,hch⟩:=str_at hz k1 k2
 have hlow:lowB ch=false:=by
  have z:∀ c∈(Str.ofString "A0_ -.Z9~\n").cps.toList,lowB c=false:=by decide +kernel
  refine z ch ?_
  obtain ⟨j,_,hj⟩:=Option.bind_eq_some_iff.mp hch
  exact List.mem_of_getElem? hj
 refine hN _ _ fun N hN=>?_
 refine ⟨_,rfl,_,_,rfl,rfl,⟨by decide,by decide⟩,_,_,rfl,rfl,(by show (0:Int) < 10; decide),_,_,ch,rfl,rfl,by decide,hch,?_⟩
 have hl0:(0:Int) < (x.length:Int):=by omega
 have a1:(0:Int)≤cell / 40 % (x.length:Int):=Int.emod_nonneg _ (by omega)
 refine hN _ _ fun N hN=>?_
 refine ⟨_,rfl,_,_,rfl,rfl,⟨by decide,by decide⟩,_,rfl,x,rfl,sx,_,_,rfl,rfl,hl0,?_⟩
 have l1:=sl_to x a1
 have l2:=sl_from x (show (0:Int)≤cell / 40 % (x.length:Int)+1 by omega)
 have c1:(⟨#[ch]⟩:Str).length=1:=rfl
 have l3:=strLen_append (Txt.slice x none (some (cell / 40 % (x.length:Int)))) ⟨#[ch]⟩
 have l4:=strLen_append (Txt.slice x none (some (cell / 40 % (x.length:Int))) ++ ⟨#[ch]⟩) (Txt.slice x (some (cell / 40 % (x.length:Int)+1)) none)
 refine hN _ _ ?_
 refine ⟨_,rfl,_,rfl,_,rfl,x,rfl,sx,_,rfl,_,_,rfl,rfl,Nat.le_of_lt (small1000 (by omega)),_,rfl,_,rfl,_,_,rfl,rfl,_,rfl,x,rfl,sx,_,_,rfl,rfl,Nat.le_of_lt (small1000 (by omega)),?_⟩
 exact q _ (by omega) (ill_sign hlow)
theorem scIllOrder:FnScope ["words","cell","far","order","at","gone"] ["words","cell","far"] (defScope sIllOrder):=⟨rfl,rfl,rfl,by decide +kernel,rfl,by decide +kernel,by decide +kernel⟩
theorem ndIllOrder0:(["number","cell"]:List Str).Nodup:=by decide +kernel
theorem gone4 {n:Nat} {far:Int} (hf:0≤far) {i:Int} (h0:0≤i) (h1:i < 4):∃ g:Int,atI [V.int (n:Int),.int (-1),.int ((n:Int)+far),.int (-1 - far)] i=some (.int g)∧(g < 0∨(n:Int)≤g):=by
 have e:i=0∨i=1∨i=2∨i=3:=by omega
 rcases e with rfl | rfl | rfl | rfl
 · exact ⟨n,rfl,.inr (Int.le_refl _)⟩
 · exact ⟨-1,rfl,.inl (by decide)⟩
 · exact ⟨n+far,rfl,.inr (by omega)⟩
 · exact ⟨-1 - far,rfl,.inl (by omega)⟩
theorem ok_IllOrder (F:Fun K "_law_ill_order" "_law_ill_order" sIllOrder f fd) (T:Gb mg):FnOk P w K mg base CX0 1 f fd ["words","cell","far"] spIllOrder:=by
 refine F.ok scIllOrder (fun vs H Q E h=>?_) (fun cdv A outer s H vs Q E hr h=>?_)
 · obtain ⟨n,cell,far,rfl,_⟩:=h
   rfl
 obtain ⟨n,cell,far,rfl,n1,n6,hf,q⟩:=h
 refine ⟨_,pss_consN (ps_setComp (i:=3) (oN:=["words","cell","far","order","at","gone"]) (osc:=defScope sIllOrder) (N':=["number","cell"]) (cap:=[none,some 1]) scIllOrder.nd rfl (Or.inl rfl) rfl rfl rfl (by decide +kernel) rfl (by decide +kernel) (by decide +kernel) (by decide +kernel) rfl
   (pi_range1 rfl T.b_range (pa_cons (pv 0) pa_nil)) (fun _ _ _ _ _=>pg_name (i:=0) ndIllOrder0 rfl (Or.inl rfl)) (fun _ _ _ _ _=>pif_one (PW.pt (pw_or (pt_cmpR op_eq (pe_op op_mod (pe_op op_fdiv (pv 1) pe_int) pe_int) pe_int (nomark _)) (pw_or1 (pt_cmpR op_gt (pv 0) pe_int (nomark _)))))) (fun _ _ _ _ _=>pv 0))
  (pss_consN (ps_set (i:=4) scIllOrder.nd rfl (Or.inl rfl) (pe_op op_mod (pe_op op_fdiv (pv 1) pe_int) (pe_op op_add (pe_callB (call_lenK rfl) rfl T.b_len PySem.boot_len (pa_cons (pv 3) pa_nil)) pe_int)))
  (pss_consN (ps_if (pt_cmpR op_eq (pe_op op_mod (pv 1) pe_int) pe_int (nomark _)) (pss_one (ps_ret (pe_lst pa_nil))) pss_nil)
  (pss_consN (ps_set (i:=5) scIllOrder.nd rfl (Or.inl rfl) (pe_ix (ix_listK rfl) (pe_lst (pa_cons (pv 0) (pa_cons (pe_un un_neg pe_int) (pa_cons (pe_op op_add (pv 0) (pv 2)) (pa_cons (pe_op op_sub (pe_un un_neg pe_int) (pv 2)) pa_nil))))) (pe_op op_mod (pe_op op_fdiv (pv 1) pe_int) pe_int) (fun _ _=>rfl)))
  (pss_cut (ps_if (PW.pt (pw_and (pt_cmpR op_eq (pe_op op_mod (pv 1) pe_int) pe_int (nomark _)) (pw_and1 (pt_cmpR op_gt (pe_callB (call_lenK rfl) rfl T.b_len PySem.boot_len (pa_cons (pv 3) pa_nil)) pe_int (nomark _))))) (pss_one (ps_set (i:=5) scIllOrder.nd rfl (Or.inl rfl) (pe_ix (ix_listK rfl) (pv 3) (pe_op op_mod (pe_op op_fdiv (pv 1) pe_int) (pe_callB (call_lenK rfl) rfl T.b_len PySem.boot_len (pa_cons (pv 3) pa_nil))) (fun _ _=>rfl)))) pss_nil)
  (pss_one (ps_ret (pe_op op_cat (pe_op op_cat (pe_slice (sl_listK rfl) (pv 3) po_none (po_some (pv 4))) (pe_lst (pa_cons (pv 5) pa_nil))) (pe_slice (sl_listK rfl) (pv 3) (po_some (pv 4)) po_none)))))))),?_⟩
 intro N hN
 refine ⟨_,rfl,_,rfl,by omega,by omega,fun D hD=>?_⟩
 refine turns_range (fun i σ H'=>(∃ kk,σ=[kk,some (.int cell)])∧Same H H'∧∃ xs:List Int,H' D=some (.lst (xs.map V.int))∧xs.length≤i) ⟨⟨_,rfl⟩,same_new hD _,[],upd_same,Nat.le_refl _⟩ ?_ ?_
 · rintro i σ H' hi ⟨⟨kk,rfl⟩,hs,xs,hD',hx⟩
   have hi':i < n:=by omega
   have yes:∀ v:Int,∃ ys,H' D=some (.lst ys)∧ys.length < sizeLine∧(∃ kk,([some (.int v),some (.int cell)]:L2.St)=[kk,some (.int cell)])∧Same H (upd H' D (.lst (ys ++ [V.int v])))∧∃ xs:List Int,upd H' D (.lst (ys ++ [V.int v])) D=some (.lst (xs.map V.int))∧xs.length≤i+1:=fun v =>
    ⟨_,hD',by rw [List.length_map]; exact small1000 (by omega),⟨_,rfl⟩,sameUpd hs hD,xs ++ [v],by rw [upd_same,List.map_append]; rfl,by rw [List.length_append]; exact Nat.succ_le_succ hx⟩
   refine ⟨_,rfl,_,_,rfl,rfl,⟨by decide,by decide⟩,_,_,rfl,rfl,(by show (0:Int) < 2; decide),rfl,_,rfl,?_⟩
   refine ite2 (fun _=>⟨_,rfl,yes _⟩) (fun _=>?_)
   refine ⟨_,rfl,_,_,rfl,rfl,_,rfl,?_⟩
   exact ite2 (fun _=>⟨_,rfl,yes _⟩) (fun _=>⟨⟨_,rfl⟩,hs,xs,hD',Nat.le_succ_of_le hx⟩)
 rintro σ H1 ⟨_,s1,xs,h1,hx⟩
 have hx6:xs.length≤6:=by omega
 have hlm:(xs.map V.int).length=xs.length:=List.length_map _
 obtain ⟨k,hk⟩:∃ k:Nat,cell / 16 % ((xs.length:Int)+1)=(k:Int):=⟨(cell / 16 % ((xs.length:Int)+1)).toNat,by have:=Int.emod_nonneg (cell / 16) (show (xs.length:Int)+1≠0 by omega); omega⟩
 have hk1:k≤xs.length:=by
  have:=Int.emod_lt_of_pos (cell / 16) (show (0:Int) < (xs.length:Int)+1 by omega)
  omega
 refine hN _ _ fun N hN=>?_
 refine ⟨_,rfl,_,_,rfl,rfl,⟨by decide,by decide⟩,_,rfl,D,_,rfl,.inl (SqL.of h1),_,_,rfl,rfl,_,_,rfl,rfl,(by omega),?_⟩
 dsimp only
 rw [hlm,hk]
 refine hN _ _ fun N hN=>?_
 refine ⟨_,rfl,_,_,rfl,rfl,(by show (0:Int) < 4; decide),rfl,_,rfl,?_⟩
 refine ite2 (fun _=>?_) (fun _=>?_)
 · exact ⟨by decide,fun l hl=>q l [] _ (s1.free hl) (sameUpd s1 (s1.free hl)) upd_same (by decide) fun o=>o.ne rfl⟩
 have r0:=Int.emod_nonneg (cell / 128) (show (4:Int)≠0 by decide)
 have r1:=Int.emod_lt_of_pos (cell / 128) (show (0:Int) < 4 by decide)
 obtain ⟨g,hg,hgo⟩:=gone4 (n:=n) hf r0 r1
 refine hN _ _ fun N hN=>?_
 refine ⟨_,rfl,_,rfl,_,rfl,_,rfl,_,_,rfl,rfl,_,rfl,_,rfl,_,_,rfl,rfl,(by show 4≤sizeLine; decide),fun pl hpl=>?_⟩
 have s2:=sameUpd (o:=.lst [V.int (n:Int),.int (-1),.int ((n:Int)+far),.int (-1 - far)]) s1 (s1.free hpl)
 have h2:upd H1 pl (.lst [V.int (n:Int),.int (-1),.int ((n:Int)+far),.int (-1 - far)]) D=some (.lst (xs.map V.int)):=by
  rw [upd_ne (ne_of_none h1 hpl)]
  exact h1
 refine ⟨_,rfl,_,_,rfl,rfl,⟨by decide,by decide⟩,_,_,rfl,rfl,(by show (0:Int) < 4; decide),pl,_,_,_,rfl,rfl,SqL.of upd_same,hg,?_⟩
 generalize upd H1 pl (.lst [V.int (n:Int),.int (-1),.int ((n:Int)+far),.int (-1 - far)])=H2 at s2 h2 ⊢
 refine hN _ _ ?_
 refine ⟨fun σ H'=>H'=H2∧∃ g':Int,σ=[some (.int (n:Int)),some (.int cell),some (.int far),some (.ref D),some (.int (k:Int)),some (.int g')]∧(g' < 0∨(n:Int)≤g'∨g'∈xs),?_,?_⟩
 · have no:g < 0∨(n:Int)≤g∨g∈xs:=hgo.elim .inl fun z=>.inr (.inl z)
   refine ⟨_,rfl,_,_,rfl,rfl,(by show (0:Int) < 4; decide),rfl,_,rfl,?_⟩
   refine ite2 (fun _=>?_) (fun _=>iteF ⟨rfl,g,rfl,no⟩)
   refine ⟨_,rfl,D,_,rfl,.inl (SqL.of h2),_,_,rfl,rfl,_,rfl,?_⟩
   refine ite2 (fun c=>?_) (fun _=>⟨rfl,g,rfl,no⟩)
   have c':(((xs.map V.int).length:Nat):Int) > 0:=of_decide_eq_true c
   have t0:=Int.emod_nonneg (cell / 128) (show (((xs.map V.int).length:Nat):Int)≠0 by omega)
   have t1:=Int.emod_lt_of_pos (cell / 128) c'
   obtain ⟨x,mx,hat⟩:=atI_ints (xs:=xs) t0 (by rw [hlm] at t1 ⊢; exact t1)
   exact ⟨_,rfl,_,rfl,_,_,rfl,rfl,⟨by decide,by decide⟩,_,rfl,D,_,rfl,.inl (SqL.of h2),_,_,rfl,rfl,c',D,_,_,_,rfl,rfl,SqL.of h2,hat,rfl,x,rfl,.inr (.inr mx)⟩
 rintro σ H' ⟨rfl,g',rfl,hg'⟩
 have ct:cutV (xs.map V.int) none (some (k:Int))=(xs.take k).map V.int:=by rw [cut_to (by omega),List.map_take]
 have cf:cutV (xs.map V.int) (some (k:Int)) none=(xs.drop k).map V.int:=by rw [cut_from (by omega),List.map_drop]
 have lt:(xs.take k).length≤6:=by rw [List.length_take]; omega
 have ld:(xs.drop k).length≤6:=by rw [List.length_drop]; omega
 refine ⟨_,rfl,_,rfl,_,rfl,D,_,rfl,SqL.of h2,fun p2 hp2=>?_⟩
 rw [ct]
 refine ⟨_,rfl,(by show 1≤sizeLine; decide),fun b hb=>?_⟩
 have t3:=(same_new hp2 (.lst ((xs.take k).map V.int))).trans (same_new hb (.lst [V.int g']))
 refine ⟨p2,b,_,_,rfl,rfl,same_new hb _ p2 _ upd_same,upd_same,Nat.le_of_lt (small1000 (by rw [List.length_map]; exact Nat.le_trans (Nat.add_le_add_right lt 1) (by decide))),fun c hc=>?_⟩
 have t4:=t3.trans (same_new hc (.lst ((xs.take k).map V.int ++ [V.int g'])))
 refine ⟨_,rfl,_,rfl,_,rfl,D,_,rfl,SqL.of (t4 D _ h2),fun d hd=>?_⟩
 rw [cf]
 have t5:=t4.trans (same_new hd (.lst ((xs.drop k).map V.int)))
 refine ⟨c,d,_,_,rfl,rfl,same_new hd _ c _ upd_same,upd_same,Nat.le_of_lt (small1000 (by rw [List.length_append,List.length_map,List.length_map,List.length_singleton]; omega)),fun e he=>?_⟩
 have s6:=s2.trans (t5.trans (same_new he (.lst ((xs.take k).map V.int ++ [V.int g'] ++ (xs.drop k).map V.int))))
 refine q e (xs.take k ++ [g'] ++ xs.drop k) _ ((s2.trans t5).free he) s6 ?_ ?_ (ill_order hg')
 · rw [upd_same,List.map_append,List.map_append]
   rfl
 · rw [List.length_append,List.length_append,List.length_take,List.length_drop,List.length_singleton]
   omega
theorem scL:FnScope ["script","words","book","at","spoiled","many","wrong","order","way"] ["script"] (defScope sLaw):=⟨rfl,rfl,rfl,by decide +kernel,rfl,by decide +kernel,by decide +kernel⟩
theorem ok_Law (F:Fun K "law" "law" sLaw f fd) (T:Gb mg) (G1:Has P w K mg base "_law_cell_at" 1 ["script","k"] (spCell K)) (G2:Has P w K mg base "_law_book" 2 ["script","start","words","most"] (spBook K)) (G3:Has P w K mg base "_law_ill_word" 1 ["word","cell"] spIllWord)
  (G4:Has P w K mg base "_law_ill_order" 1 ["words","cell","far"] spIllOrder) (G5:Has P w K mg base "_law_flags" 14 ["way","book","order"] (spFlags K)):FnOk P w K mg base CX0 15 f fd ["script"] (spLaw K):=by
 refine F.ok scL (fun vs H Q E h=>?_) (fun cdv A outer s H vs Q E hr h=>?_)
 · obtain ⟨a,ns,rfl,_⟩:=h
   rfl
 obtain ⟨a,ns,rfl,hS,h63,hB,q⟩:=h
 have hr1:=hr.mono (show 1≤14 by decide)
 have hr2:=hr.mono (show 2≤14 by decide)
 refine ⟨_,pss_consN (ps_set (i:=1) scL.nd rfl (Or.inl rfl) (pe_op op_add pe_int (pe_op op_mod (pe_has G1 hr1 (by rfl) (pa_cons (pv 0) (pa_cons pe_int pa_nil))) pe_int)))
  (pss_consN (ps_set (i:=2) scL.nd rfl (Or.inl rfl) (pe_has G2 hr2 (by rfl) (pa_cons (pv 0) (pa_cons pe_int (pa_cons (pv 1) (pa_cons pe_int pa_nil))))))
  (pss_consN (ps_set (i:=3) scL.nd rfl (Or.inl rfl) (pe_op op_mod (pe_has G1 hr1 (by rfl) (pa_cons (pv 0) (pa_cons pe_int pa_nil))) (pv 1)))
  (pss_consN (ps_set (i:=4) scL.nd rfl (Or.inl rfl) (pe_op op_cat (pe_op op_cat (pe_slice (sl_listK rfl) (pv 2) po_none (po_some (pv 3))) (pe_lst (pa_cons (pe_has G3 hr1 (by rfl) (pa_cons (pe_ix (ix_listK rfl) (pv 2) (pv 3) (fun _ _=>rfl)) (pa_cons (pe_has G1 hr1 (by rfl) (pa_cons (pv 0) (pa_cons pe_int pa_nil))) pa_nil))) pa_nil))) (pe_slice (sl_listK rfl) (pv 2) (po_some (pe_op op_add (pv 3) pe_int)) po_none)))
  (pss_consN (ps_set (i:=5) scL.nd rfl (Or.inl rfl) (pe_slice (sl_listK rfl) (pe_op op_rep (pv 4) pe_int) po_none (po_some (pe_op op_add pe_int (pe_op op_mod (pe_has G1 hr1 (by rfl) (pa_cons (pv 0) (pa_cons pe_int pa_nil))) pe_int)))))
  (pss_consN (ps_set (i:=6) scL.nd rfl (Or.inl rfl) (pe_ix (ix_listK rfl) (pe_lst (pa_cons (pe_lst pa_nil) (pa_cons (pe_slice (sl_listK rfl) (pe_op op_rep (pv 2) pe_int) po_none (po_some pe_int)) (pa_cons (pv 5) pa_nil)))) (pe_op op_mod (pe_op op_fdiv (pe_has G1 hr1 (by rfl) (pa_cons (pv 0) (pa_cons pe_int pa_nil))) pe_int) pe_int) (fun _ _=>rfl)))
  (pss_consN (ps_set (i:=7) scL.nd rfl (Or.inl rfl) (pe_has G4 hr1 (by rfl) (pa_cons (pv 1) (pa_cons (pe_has G1 hr1 (by rfl) (pa_cons (pv 0) (pa_cons pe_int pa_nil))) (pa_cons (pe_op op_mod (pe_has G1 hr1 (by rfl) (pa_cons (pv 0) (pa_cons pe_int pa_nil))) (pe_op op_pow pe_int pe_int)) pa_nil)))))
  (pss_consN (ps_for PassesOwn.never rfl (pi_range1 rfl T.b_range (pa_cons pe_int pa_nil)) (pg_name (i:=8) scL.nd rfl (Or.inl rfl))
   (pss_consN (ps_if (pt_cmpR (op_neF rfl (units_of hr)) (pe_has G5 hr (by rfl) (pa_cons (pv 8) (pa_cons (pv 6) (pa_cons (pv 7) pa_nil)))) (pe_lst (pa_cons pe_bl (pa_cons pe_bl (pa_cons pe_bl (pa_cons pe_bl (pa_cons pe_bl pa_nil)))))) (nomark _)) (pss_one (ps_ret pe_bl)) pss_nil)
   (pss_consN (ps_if (pt_cmpR (op_neF rfl (units_of hr)) (pe_has G5 hr (by rfl) (pa_cons (pv 8) (pa_cons (pv 4) (pa_cons (pv 7) pa_nil)))) (pe_lst (pa_cons pe_bl (pa_cons pe_bl (pa_cons pe_bl (pa_cons pe_bl (pa_cons pe_bl pa_nil)))))) (nomark _)) (pss_one (ps_ret pe_bl)) pss_nil)
   (pss_one (ps_if (pt_cmpR (op_neF rfl (units_of hr)) (pe_has G5 hr (by rfl) (pa_cons (pv 8) (pa_cons (pv 2) (pa_cons (pe_lst (pa_cons (pv 3) pa_nil)) pa_nil)))) (pe_lst pa_nil) (nomark _)) (pss_one (ps_ret pe_bl)) pss_nil)))))
  (pss_one (ps_ret (pe_cmpR (op_eqF rfl (units_of hr)) (pe_has G5 hr (by rfl) (pa_cons pe_int (pa_cons (pv 2) (pa_cons (pv 7) pa_nil)))) (pe_lst (pa_cons pe_bl (pa_cons pe_bl (pa_cons pe_bl (pa_cons pe_bl (pa_cons pe_bl pa_nil)))))) (nomark _))))))))))),?_⟩
 have w0:=Int.emod_nonneg (ns.getD 0 0) (show (6:Int)≠0 by decide)
 have w1:=Int.emod_lt_of_pos (ns.getD 0 0) (show (0:Int) < 6 by decide)
 intro Z hZ
 refine ⟨_,rfl,a,ns,0,rfl,hS,Int.le_refl 0,_,_,rfl,rfl,(by show (0:Int) < 6; decide),_,_,rfl,rfl,?_⟩
 obtain ⟨n,hn⟩:∃ n:Nat,1+ns.getD (0:Int).toNat 0 % 6=(n:Int):=⟨(1+ns.getD 0 0 % 6).toNat,by show 1+ns.getD 0 0 % 6=_; omega⟩
 have hn1:1≤n∧n≤6:=by
  have e:1+ns.getD 0 0 % 6=(n:Int):=hn
  omega
 dsimp only
 rw [hn]
 refine hZ _ _ fun Z hZ=>?_
 refine ⟨_,rfl,_,rfl,a,ns,1,n,10,rfl,hS,hB,by decide,hn1.1,by omega,by decide,by decide,fun p bs H1 hp s1 hp1 hlen hW=>?_⟩
 have hG:Good bs:=⟨by omega,by omega,hW⟩
 have hS1:=s1.seq hS
 have hle:=hG.le
 have hpos:=hG.pos
 have hsh:∀ b∈bs,b.length≤1000:=fun b hb=>Nat.le_trans (hW b hb).le (by decide)
 -- at
 obtain ⟨j,hj⟩:∃ j:Nat,ns.getD (9:Int).toNat 0 % (n:Int)=(j:Int):=⟨(ns.getD 9 0 % (n:Int)).toNat,by
  have:=Int.emod_nonneg (ns.getD 9 0) (show (n:Int)≠0 by omega)
  show ns.getD 9 0 % (n:Int)=_
  omega⟩
 have hj1:j < bs.length:=by
  have z:=Int.emod_lt_of_pos (ns.getD 9 0) (show (0:Int) < (n:Int) by omega)
  have e:ns.getD 9 0 % (n:Int)=(j:Int):=hj
  omega
 refine hZ _ _ fun Z hZ=>?_
 refine ⟨_,rfl,a,ns,9,rfl,hS1,by decide,_,rfl,_,_,rfl,rfl,(by show (0:Int) < (n:Int); omega),?_⟩
 dsimp only
 rw [hj]
 -- spoiled
 obtain ⟨x,hx⟩:∃ x,bs[j]? = some x:=⟨_,List.getElem?_eq_getElem hj1⟩
 have mx:=List.mem_of_getElem? hx
 have hat:atI (bs.map V.str) (j:Int)=some (.str x):=atI_nat (by rw [List.getElem?_map,hx]; rfl)
 have ct:cutV (bs.map V.str) none (some (j:Int))=(bs.take j).map V.str:=by rw [cut_to (by rw [List.length_map]; omega),List.map_take]
 have cf:cutV (bs.map V.str) (some ((j:Int)+1)) none=(bs.drop (j+1)).map V.str:=by
  rw [show (j:Int)+1=((j+1:Nat):Int) from rfl,cut_from (by rw [List.length_map]; omega),List.map_drop]
 have lt:(bs.take j).length=j:=by rw [List.length_take]; omega
 have ld:(bs.drop (j+1)).length=bs.length - (j+1):=List.length_drop ..
 refine hZ _ _ fun Z hZ=>?_
 refine ⟨_,rfl,_,rfl,_,rfl,p,_,rfl,SqL.of hp1,fun p2 hp2=>?_⟩
 rw [ct]
 have t2:=same_new hp2 (.lst ((bs.take j).map V.str))
 refine ⟨_,rfl,_,rfl,p,_,_,_,rfl,rfl,SqL.of (t2 _ _ hp1),hat,_,rfl,a,ns,10,rfl,t2.seq hS1,by decide,x,_,rfl,hW x mx,fun y hy hny=>?_⟩
 refine ⟨(by show 1≤sizeLine; decide),fun b hb=>?_⟩
 refine ⟨p2,b,_,_,rfl,rfl,same_new hb _ p2 _ upd_same,upd_same,Nat.le_of_lt (small1000 (by rw [List.length_map,lt]; exact Nat.le_trans (Nat.add_le_add_right (Nat.le_of_lt hj1) 1) (by omega))),fun c hc=>?_⟩
 have t4:=(t2.trans (same_new hb (.lst [V.str y]))).trans (same_new hc (.lst ((bs.take j).map V.str ++ [V.str y])))
 refine ⟨_,rfl,_,rfl,_,_,rfl,rfl,_,rfl,p,_,rfl,SqL.of (t4 _ _ hp1),fun d hd=>?_⟩
 rw [cf]
 have t5:=t4.trans (same_new hd (.lst ((bs.drop (j+1)).map V.str)))
 refine ⟨c,d,_,_,rfl,rfl,same_new hd _ c _ upd_same,upd_same,Nat.le_of_lt (small1000 (by rw [List.length_append,List.length_map,List.length_map,List.length_singleton,lt,ld]; omega)),fun sp hsp=>?_⟩
 have s6:=s1.trans (t5.trans (same_new hsp (.lst ((bs.take j).map V.str ++ [V.str y] ++ (bs.drop (j+1)).map V.str))))
 have hp6:=(t5.trans (same_new hsp (.lst ((bs.take j).map V.str ++ [V.str y] ++ (bs.drop (j+1)).map V.str)))) _ _ hp1
 obtain ⟨ss,hss⟩:∃ ss:List Str,ss=bs.take j ++ [y] ++ bs.drop (j+1):=⟨_,rfl⟩
 have ess:(bs.take j).map V.str ++ [V.str y] ++ (bs.drop (j+1)).map V.str=ss.map V.str:=by rw [hss,List.map_append,List.map_append]; rfl
 have lss:ss.length=bs.length:=by rw [hss,List.length_append,List.length_append,List.length_singleton,lt,ld]; omega
 have hys:y∈ss:=by rw [hss]; exact List.mem_append_left _ (List.mem_append_right _ (List.mem_singleton.mpr rfl))
 have hshs:∀ b∈ss,b.length≤1000:=fun b hb=>by
  rw [hss] at hb
  rcases List.mem_append.mp hb with hb | hb
  · rcases List.mem_append.mp hb with hb | hb
    · exact hsh b (List.mem_of_mem_take hb)
    · rw [List.mem_singleton.mp hb]; omega
  · exact hsh b (List.mem_of_mem_drop hb)
 rw [ess] at s6 hp6 ⊢
 have hsp6:∀ H',upd H' sp (.lst (ss.map V.str)) sp=some (.lst (ss.map V.str)):=fun _=>upd_same
 have hsp6:=hsp6 (upd (upd (upd (upd H1 p2 (.lst ((bs.take j).map V.str))) b (.lst [V.str y])) c (.lst ((bs.take j).map V.str ++ [V.str y]))) d (.lst ((bs.drop (j+1)).map V.str)))
 generalize upd (upd (upd (upd (upd H1 p2 (.lst ((bs.take j).map V.str))) b (.lst [V.str y])) c (.lst ((bs.take j).map V.str ++ [V.str y]))) d (.lst ((bs.drop (j+1)).map V.str))) sp (.lst (ss.map V.str))=H6 at s6 hp6 hsp6 ⊢
 have hS6:=s6.seq hS
 -- many
 obtain ⟨m,hm⟩:∃ m:Nat,7+ns.getD (11:Int).toNat 0 % 3=(m:Int):=⟨(7+ns.getD 11 0 % 3).toNat,by
  have:=Int.emod_nonneg (ns.getD 11 0) (show (3:Int)≠0 by decide)
  show 7+ns.getD 11 0 % 3=_
  omega⟩
 have hm1:7≤m∧m≤9:=by
  have z0:=Int.emod_nonneg (ns.getD 11 0) (show (3:Int)≠0 by decide)
  have z1:=Int.emod_lt_of_pos (ns.getD 11 0) (show (0:Int) < 3 by decide)
  have e:7+ns.getD 11 0 % 3=(m:Int):=hm
  omega
 refine hZ _ _ fun Z hZ=>?_
 refine ⟨_,rfl,sp,9,_,rfl,rfl,hsp6,by decide,by decide,(by rw [List.length_map,lss]; exact Nat.le_of_lt (small1000 (by show bs.length * 9≤1000; omega))),fun p7 hp7=>?_⟩
 have s7:=same_new hp7 (.lst (List.replicate (9:Int).toNat (ss.map V.str)).flatten)
 refine ⟨_,rfl,a,ns,11,rfl,s7.seq hS6,by decide,_,_,rfl,rfl,(by show (0:Int) < 3; decide),_,_,rfl,rfl,_,rfl,p7,_,rfl,SqL.of upd_same,fun mp hmp=>?_⟩
 dsimp only
 rw [hm]
 obtain ⟨e8,l8,m8⟩:=nine (bs:=ss) (m:=m) (by omega) hm1.2
 have e8':cutV (List.replicate (9:Int).toNat (ss.map V.str)).flatten none (some (m:Int))=(((List.replicate 9 ss).flatten).take m).map V.str:=e8
 rw [e8']
 have s8:=s7.trans (same_new hmp (.lst ((((List.replicate 9 ss).flatten).take m).map V.str)))
 have hmp8:upd (upd H6 p7 (.lst (List.replicate (9:Int).toNat (ss.map V.str)).flatten)) mp (.lst ((((List.replicate 9 ss).flatten).take m).map V.str)) mp=some (.lst ((((List.replicate 9 ss).flatten).take m).map V.str)):=upd_same
 generalize upd (upd H6 p7 (.lst (List.replicate (9:Int).toNat (ss.map V.str)).flatten)) mp (.lst ((((List.replicate 9 ss).flatten).take m).map V.str))=H8 at s8 hmp8 ⊢
 have hp8:=s8 _ _ hp6
 have hsp8:=s8 _ _ hsp6
 have hS8:=s8.seq hS6
 -- wrong
 refine hZ _ _ fun Z hZ=>?_
 refine ⟨by decide,fun q1 hq1=>?_⟩
 have u1:=same_new hq1 (.lst [])
 refine ⟨_,rfl,p,9,_,rfl,rfl,u1 _ _ hp8,by decide,by decide,(by rw [List.length_map]; exact Nat.le_of_lt (small1000 (by show bs.length * 9≤1000; omega))),fun q2 hq2=>?_⟩
 have u2:=u1.trans (same_new hq2 (.lst (List.replicate (9:Int).toNat (bs.map V.str)).flatten))
 refine ⟨_,rfl,q2,_,rfl,SqL.of upd_same,fun q3 hq3=>?_⟩
 obtain ⟨e9,l9,m9⟩:=nine (bs:=bs) (m:=7) hpos (by decide)
 have e9':cutV (List.replicate (9:Int).toNat (bs.map V.str)).flatten none (some 7)=(((List.replicate 9 bs).flatten).take 7).map V.str:=e9
 rw [e9']
 have u3:=u2.trans (same_new hq3 (.lst ((((List.replicate 9 bs).flatten).take 7).map V.str)))
 refine ⟨_,rfl,(by show 3≤sizeLine; decide),fun q4 hq4=>?_⟩
 have u4:=u3.trans (same_new hq4 (.lst [V.ref q1,.ref q3,.ref mp]))
 have hq41:=((same_new hq2 (.lst (List.replicate (9:Int).toNat (bs.map V.str)).flatten)).trans (same_new hq3 (.lst ((((List.replicate 9 bs).flatten).take 7).map V.str)))).trans (same_new hq4 (.lst [V.ref q1,.ref q3,.ref mp])) q1 _ upd_same
 have hq43:=same_new hq4 (.lst [V.ref q1,.ref q3,.ref mp]) q3 _ upd_same
 have hq44:upd (upd (upd (upd H8 q1 (.lst [])) q2 (.lst (List.replicate (9:Int).toNat (bs.map V.str)).flatten)) q3 (.lst ((((List.replicate 9 bs).flatten).take 7).map V.str))) q4 (.lst [V.ref q1,.ref q3,.ref mp]) q4=some (.lst [V.ref q1,.ref q3,.ref mp]):=upd_same
 generalize upd (upd (upd (upd H8 q1 (.lst [])) q2 (.lst (List.replicate (9:Int).toNat (bs.map V.str)).flatten)) q3 (.lst ((((List.replicate 9 bs).flatten).take 7).map V.str))) q4 (.lst [V.ref q1,.ref q3,.ref mp])=H9 at u4 hq41 hq43 hq44 ⊢
 have hmp9:=u4 _ _ hmp8
 have hp9:=u4 _ _ hp8
 have hsp9:=u4 _ _ hsp8
 have hS9:=u4.seq hS8
 obtain ⟨wp,ws,hwa,hw9,hwz,hwl⟩:∃ (wp:Addr) (ws:List Str),atI [V.ref q1,.ref q3,.ref mp] (ns.getD (11:Int).toNat 0 / 3 % 3)=some (.ref wp)∧H9 wp=some (.lst (ws.map V.str))∧sizedB ws=false∧∀ b∈ws,b.length≤1000:=by
  have z0:=Int.emod_nonneg (ns.getD (11:Int).toNat 0 / 3) (show (3:Int)≠0 by decide)
  have z1:=Int.emod_lt_of_pos (ns.getD (11:Int).toNat 0 / 3) (show (0:Int) < 3 by decide)
  generalize ns.getD (11:Int).toNat 0 / 3 % 3=i at z0 z1
  have e:i=0∨i=1∨i=2:=by omega
  rcases e with rfl | rfl | rfl
  · exact ⟨q1,[],rfl,hq41,rfl,fun b hb=>by cases hb⟩
  · exact ⟨q3,_,rfl,hq43,sized_not (.inr (by omega)),fun b hb=>hsh b (m9 b hb)⟩
  · exact ⟨mp,_,rfl,hmp9,sized_not (.inr (by omega)),fun b hb=>hshs b (m8 b hb)⟩
 refine ⟨_,rfl,a,ns,11,rfl,hS9,by decide,_,_,rfl,rfl,⟨by decide,by decide⟩,_,_,rfl,rfl,(by show (0:Int) < 3; decide),q4,_,_,_,rfl,rfl,SqL.of hq44,hwa,?_⟩
 -- order
 refine hZ _ _ fun Z hZ=>?_
 refine ⟨_,rfl,_,rfl,a,ns,12,rfl,hS9,by decide,_,rfl,a,ns,13,rfl,hS9,by decide,_,_,rfl,rfl,⟨by decide,by decide,by decide⟩,_,_,rfl,rfl,(by show (0:Int) < 10 ^ 30; decide),n,_,_,rfl,hn1.1,hn1.2,Int.emod_nonneg _ (by decide),fun o os H10 ho s10 ho10 hol hno=>?_⟩
 have hp10:=s10 _ _ hp9
 have hsp10:=s10 _ _ hsp9
 have hw10:=s10 _ _ hw9
 have hnb:¬ Order bs.length os:=by rw [hlen]; exact hno
 refine hZ _ _ fun Z hZ=>?_
 refine ⟨8,rfl,by decide,by decide,?_⟩
 refine for_range (fun i σ H'=>(∃ u,σ=[some (.ref a),some (.int n),some (.ref p),some (.int j),some (.ref sp),some (.ref mp),some (.ref wp),some (.ref o),u])∧H' p=some (.lst (bs.map V.str))∧H' sp=some (.lst (ss.map V.str))∧H' wp=some (.lst (ws.map V.str))∧H' o=some (.lst (os.map V.int))) ⟨⟨_,rfl⟩,hp10,hsp10,hw10,ho10⟩ ?_ ?_
 · rintro i σ H' hi ⟨⟨u,rfl⟩,hp',hsp',hw',ho'⟩
   intro Z hZ
   refine ⟨_,rfl,_,rfl,_,rfl,_,wp,o,ws,os,_,rfl,SqL.of hw',SqL.of ho',hwl,hol,.inl ⟨hwz,rfl⟩,fun l HA hl sA hlA=>?_⟩
   refine ⟨by decide,fun r hr=>?_⟩
   have v1:=sA.trans (same_new hr (.lst [V.bl true,.bl false,.bl false,.bl false,.bl true]))
   refine ⟨l,r,_,rfl,rfl,SqL.of (same_new hr _ _ _ hlA),SqL.of upd_same,flat_bl _,all_bl _,_,rfl,?_⟩
   refine iteF ?_
   refine hZ _ _ fun Z hZ=>?_
   refine ⟨_,rfl,_,rfl,_,rfl,_,sp,o,ss,os,_,rfl,SqL.of (v1 _ _ hsp'),SqL.of (v1 _ _ ho'),hshs,hol,.inr (.inl ⟨sized_yes (by omega) (by omega),⟨y,hys,hny⟩,rfl⟩),fun l2 HB hl2 sB hlB=>?_⟩
   refine ⟨by decide,fun r2 hr2=>?_⟩
   have v2:=(v1.trans sB).trans (same_new hr2 (.lst [V.bl false,.bl true,.bl false,.bl false,.bl true]))
   refine ⟨l2,r2,_,rfl,rfl,SqL.of (same_new hr2 _ _ _ hlB),SqL.of upd_same,flat_bl _,all_bl _,_,rfl,?_⟩
   refine iteF ?_
   refine hZ _ _ ?_
   refine ⟨_,rfl,_,rfl,_,rfl,(by show 1≤sizeLine; decide),fun g hg=>?_⟩
   have v3:=v2.trans (same_new hg (.lst [V.int (j:Int)]))
   have hO:Order bs.length [(j:Int)]:=⟨List.cons_ne_nil _ _,List.nodup_cons.mpr ⟨(fun z=>by cases z),List.nodup_nil⟩,fun z hz=>by rw [List.mem_singleton.mp hz]; omega,(by show 1≤9; decide)⟩
   refine ⟨_,p,g,bs,[(j:Int)],_,rfl,SqL.of (v3 _ _ hp'),SqL.of upd_same,hsh,(by show 1≤9; decide),.inr (.inr (.inl ⟨hG,hO,rfl⟩)),fun l3 HC hl3 sC hlC=>?_⟩
   refine ⟨by decide,fun r3 hr3=>?_⟩
   have v4:=(v3.trans sC).trans (same_new hr3 (.lst []))
   refine ⟨l3,r3,[],rfl,rfl,SqL.of (same_new hr3 _ _ _ hlC),SqL.of upd_same,flat_bl [],all_bl [],_,rfl,?_⟩
   exact iteF ⟨⟨_,rfl⟩,v4 _ _ hp',v4 _ _ hsp',v4 _ _ hw',v4 _ _ ho'⟩
 · rintro σ H' ⟨⟨u,rfl⟩,hp',hsp',hw',ho'⟩
   refine hZ _ _ ?_
   refine ⟨_,rfl,_,rfl,_,p,o,bs,os,_,rfl,SqL.of hp',SqL.of ho',hsh,hol,.inr (.inr (.inr ⟨hG,rfl,hnb,rfl⟩)),fun l HA hl sA hlA=>?_⟩
   refine ⟨by decide,fun r hr=>?_⟩
   exact ⟨l,r,_,rfl,rfl,SqL.of (same_new hr _ _ _ hlA),SqL.of upd_same,flat_bl _,all_bl _,q _⟩
end
theorem all_mk {l:W.OpenLaw} {w:World} {K:W.Frag} {h:Heap} {mg:Str→Option Value} {fa f1 f2 f3 f4 f5 f6 f7 f8 f9 f10 f11 f12 f13 f14 f15 f16 f17 f18 f19 f20 f21 f22 f23 f24 f25 f26 f27 f28 f29 f30 f31 f32 f33 f34 f35 f36 f37 f38 f39:Addr} (X:K.In h) (G:h.Ns mainGlobals mg) (hfa:mg "law"=some (.ref fa))
  {od1 an1 od2 an2 od3 an3 od4 an4 od5 an5 od6 an6 od7 an7 od8 an8 od9 an9 od10 an10 od11 an11 od12 an12 od13 an13 od14 an14 od15 an15 od16 an16 od17 an17 od18 an18 od19 an19 od20 an20 od21 an21 od22 an22 od23 an23 od24 an24 od25 an25 od26 an26 od27 an27 od28 an28 od29 an29 od30 an30 od31 an31 od32 an32 od33 an33 od34 an34 od35 an35 od36 an36 od37 an37 od38 an38 od39 an39:Option Addr} {sl1 sl2 sl3 sl4 sl5 sl6 sl7 sl8 sl9 sl10 sl11 sl12 sl13 sl14 sl15 sl16 sl17 sl18 sl19 sl20 sl21 sl22 sl23 sl24 sl25 sl26 sl27 sl28 sl29 sl30 sl31 sl32 sl33 sl34 sl35 sl36 sl37 sl38 sl39:Array (Option Value)}
  {oc1 kV1 dc1 pm1 cd1 ct1 oc2 kV2 dc2 pm2 cd2 ct2 oc3 kV3 dc3 pm3 cd3 ct3 oc4 kV4 dc4 pm4 cd4 ct4 oc5 kV5 dc5 pm5 cd5 ct5 oc6 kV6 dc6 pm6 cd6 ct6 oc7 kV7 dc7 pm7 cd7 ct7 oc8 kV8 dc8 pm8 cd8 ct8 oc9 kV9 dc9 pm9 cd9 ct9 oc10 kV10 dc10 pm10 cd10 ct10 oc11 kV11 dc11 pm11 cd11 ct11 oc12 kV12 dc12 pm12 cd12 ct12 oc13 kV13 dc13 pm13 cd13 ct13 oc14 kV14 dc14 pm14 cd14 ct14 oc15 kV15 dc15 pm15 cd15 ct15 oc16 kV16 dc16 pm16 cd16 ct16 oc17 kV17 dc17 pm17 cd17 ct17 oc18 kV18 dc18 pm18 cd18 ct18 oc19 kV19 dc19 pm19 cd19 ct19 oc20 kV20 dc20 pm20 cd20 ct20 oc21 kV21 dc21 pm21 cd21 ct21 oc22 kV22 dc22 pm22 cd22 ct22 oc23 kV23 dc23 pm23 cd23 ct23 oc24 kV24 dc24 pm24 cd24 ct24 oc25 kV25 dc25 pm25 cd25 ct25 oc26 kV26 dc26 pm26 cd26 ct26 oc27 kV27 dc27 pm27 cd27 ct27 oc28 kV28 dc28 pm28 cd28 ct28 oc29 kV29 dc29 pm29 cd29 ct29 oc30 kV30 dc30 pm30 cd30 ct30 oc31 kV31 dc31 pm31 cd31 ct31 oc32 kV32 dc32 pm32 cd32 ct32 oc33 kV33 dc33 pm33 cd33 ct33 oc34 kV34 dc34 pm34 cd34 ct34 oc35 kV35 dc35 pm35 cd35 ct35 oc36 kV36 dc36 pm36 cd36 ct36 oc37 kV37 dc37 pm37 cd37 ct37 oc38 kV38 dc38 pm38 cd38 ct38 oc39 kV39 dc39 pm39 cd39 ct39:Value}
  {tc0 tc1 tc2:Tok}
  (a1:W.nsIn K mainGlobals "is_small_letter"=some (some (.ref f1))) (l1:K.lookup f1=some ⟨oc1,od1,.func (W.fnOf "is_small_letter" "is_small_letter" (defArgs sSmall) (defBody sSmall) (defScope sSmall) .none kV1 dc1 pm1 an1 cd1 ct1),sl1⟩) (c1:W.codeIn K cd1 "is_small_letter"=true) (k1:W.keepIn K (.ref f1)=true)
  (a2:W.nsIn K mainGlobals "is_word"=some (some (.ref f2))) (l2:K.lookup f2=some ⟨oc2,od2,.func (W.fnOf "is_word" "is_word" (defArgs sIsWord) (defBody sIsWord) (defScope sIsWord) .none kV2 dc2 pm2 an2 cd2 ct2),sl2⟩) (c2:W.codeIn K cd2 "is_word"=true) (k2:W.keepIn K (.ref f2)=true)
  (a3:W.nsIn K mainGlobals "has_book_size"=some (some (.ref f3))) (l3:K.lookup f3=some ⟨oc3,od3,.func (W.fnOf "has_book_size" "has_book_size" (defArgs sSize) (defBody sSize) (defScope sSize) .none kV3 dc3 pm3 an3 cd3 ct3),sl3⟩) (c3:W.codeIn K cd3 "has_book_size"=true) (k3:W.keepIn K (.ref f3)=true)
  (a4:W.nsIn K mainGlobals "check_book"=some (some (.ref f4))) (l4:K.lookup f4=some ⟨oc4,od4,.func (W.fnOf "check_book" "check_book" (defArgs sCheck) (defBody sCheck) (defScope sCheck) .none kV4 dc4 pm4 an4 cd4 ct4),sl4⟩) (c4:W.codeIn K cd4 "check_book"=true) (k4:W.keepIn K (.ref f4)=true)
  (a5:W.nsIn K mainGlobals "has_like_ahead"=some (some (.ref f5))) (l5:K.lookup f5=some ⟨oc5,od5,.func (W.fnOf "has_like_ahead" "has_like_ahead" (defArgs sLike) (defBody sLike) (defScope sLike) .none kV5 dc5 pm5 an5 cd5 ct5),sl5⟩) (c5:W.codeIn K cd5 "has_like_ahead"=true) (k5:W.keepIn K (.ref f5)=true)
  (a6:W.nsIn K mainGlobals "is_held"=some (some (.ref f6))) (l6:K.lookup f6=some ⟨oc6,od6,.func (W.fnOf "is_held" "is_held" (defArgs sHeld) (defBody sHeld) (defScope sHeld) .none kV6 dc6 pm6 an6 cd6 ct6),sl6⟩) (c6:W.codeIn K cd6 "is_held"=true) (k6:W.keepIn K (.ref f6)=true)
  (a7:W.nsIn K mainGlobals "needs_place"=some (some (.ref f7))) (l7:K.lookup f7=some ⟨oc7,od7,.func (W.fnOf "needs_place" "needs_place" (defArgs sNeeds) (defBody sNeeds) (defScope sNeeds) .none kV7 dc7 pm7 an7 cd7 ct7),sl7⟩) (c7:W.codeIn K cd7 "needs_place"=true) (k7:W.keepIn K (.ref f7)=true)
  (a8:W.nsIn K mainGlobals "kept"=some (some (.ref f8))) (l8:K.lookup f8=some ⟨oc8,od8,.func (W.fnOf "kept" "kept" (defArgs sKept) (defBody sKept) (defScope sKept) .none kV8 dc8 pm8 an8 cd8 ct8),sl8⟩) (c8:W.codeIn K cd8 "kept"=true) (k8:W.keepIn K (.ref f8)=true)
  (a9:W.nsIn K mainGlobals "places_of_word"=some (some (.ref f9))) (l9:K.lookup f9=some ⟨oc9,od9,.func (W.fnOf "places_of_word" "places_of_word" (defArgs sPow) (defBody sPow) (defScope sPow) .none kV9 dc9 pm9 an9 cd9 ct9),sl9⟩) (c9:W.codeIn K cd9 "places_of_word"=true) (k9:W.keepIn K (.ref f9)=true)
  (a10:W.nsIn K mainGlobals "places"=some (some (.ref f10))) (l10:K.lookup f10=some ⟨oc10,od10,.func (W.fnOf "places" "places" (defArgs sPlaces) (defBody sPlaces) (defScope sPlaces) .none kV10 dc10 pm10 an10 cd10 ct10),sl10⟩) (c10:W.codeIn K cd10 "places"=true) (k10:W.keepIn K (.ref f10)=true)
  (a11:W.nsIn K mainGlobals "overlap"=some (some (.ref f11))) (l11:K.lookup f11=some ⟨oc11,od11,.func (W.fnOf "overlap" "overlap" (defArgs sOv) (defBody sOv) (defScope sOv) .none kV11 dc11 pm11 an11 cd11 ct11),sl11⟩) (c11:W.codeIn K cd11 "overlap"=true) (k11:W.keepIn K (.ref f11)=true)
  (a12:W.nsIn K mainGlobals "beyond"=some (some (.ref f12))) (l12:K.lookup f12=some ⟨oc12,od12,.func (W.fnOf "beyond" "beyond" (defArgs sBeyond) (defBody sBeyond) (defScope sBeyond) .none kV12 dc12 pm12 an12 cd12 ct12),sl12⟩) (c12:W.codeIn K cd12 "beyond"=true) (k12:W.keepIn K (.ref f12)=true)
  (a13:W.nsIn K mainGlobals "check_order"=some (some (.ref f13))) (l13:K.lookup f13=some ⟨oc13,od13,.func (W.fnOf "check_order" "check_order" (defArgs sOrd) (defBody sOrd) (defScope sOrd) .none kV13 dc13 pm13 an13 cd13 ct13),sl13⟩) (c13:W.codeIn K cd13 "check_order"=true) (k13:W.keepIn K (.ref f13)=true)
  (a14:W.nsIn K mainGlobals "laid"=some (some (.ref f14))) (l14:K.lookup f14=some ⟨oc14,od14,.func (W.fnOf "laid" "laid" (defArgs sLaid) (defBody sLaid) (defScope sLaid) .none kV14 dc14 pm14 an14 cd14 ct14),sl14⟩) (c14:W.codeIn K cd14 "laid"=true) (k14:W.keepIn K (.ref f14)=true)
  (a15:W.nsIn K mainGlobals "choices"=some (some (.ref f15))) (l15:K.lookup f15=some ⟨oc15,od15,.func (W.fnOf "choices" "choices" (defArgs sChoices) (defBody sChoices) (defScope sChoices) .none kV15 dc15 pm15 an15 cd15 ct15),sl15⟩) (c15:W.codeIn K cd15 "choices"=true) (k15:W.keepIn K (.ref f15)=true)
  (a16:W.nsIn K mainGlobals "still_left"=some (some (.ref f16))) (l16:K.lookup f16=some ⟨oc16,od16,.func (W.fnOf "still_left" "still_left" (defArgs sLeft) (defBody sLeft) (defScope sLeft) .none kV16 dc16 pm16 an16 cd16 ct16),sl16⟩) (c16:W.codeIn K cd16 "still_left"=true) (k16:W.keepIn K (.ref f16)=true)
  (a17:W.nsIn K mainGlobals "standing_alone"=some (some (.ref f17))) (l17:K.lookup f17=some ⟨oc17,od17,.func (W.fnOf "standing_alone" "standing_alone" (defArgs sAlone) (defBody sAlone) (defScope sAlone) .none kV17 dc17 pm17 an17 cd17 ct17),sl17⟩) (c17:W.codeIn K cd17 "standing_alone"=true) (k17:W.keepIn K (.ref f17)=true)
  (a18:W.nsIn K mainGlobals "standing_after"=some (some (.ref f18))) (l18:K.lookup f18=some ⟨oc18,od18,.func (W.fnOf "standing_after" "standing_after" (defArgs sAfter) (defBody sAfter) (defScope sAfter) .none kV18 dc18 pm18 an18 cd18 ct18),sl18⟩) (c18:W.codeIn K cd18 "standing_after"=true) (k18:W.keepIn K (.ref f18)=true)
  (a19:W.nsIn K mainGlobals "put_behind"=some (some (.ref f19))) (l19:K.lookup f19=some ⟨oc19,od19,.func (W.fnOf "put_behind" "put_behind" (defArgs sBehind) (defBody sBehind) (defScope sBehind) .none kV19 dc19 pm19 an19 cd19 ct19),sl19⟩) (c19:W.codeIn K cd19 "put_behind"=true) (k19:W.keepIn K (.ref f19)=true)
  (a20:W.nsIn K mainGlobals "height_of"=some (some (.ref f20))) (l20:K.lookup f20=some ⟨oc20,od20,.func (W.fnOf "height_of" "height_of" (defArgs sHOf) (defBody sHOf) (defScope sHOf) .none kV20 dc20 pm20 an20 cd20 ct20),sl20⟩) (c20:W.codeIn K cd20 "height_of"=true) (k20:W.keepIn K (.ref f20)=true)
  (a21:W.nsIn K mainGlobals "known_heights"=some (some (.ref f21))) (l21:K.lookup f21=some ⟨oc21,od21,.func (W.fnOf "known_heights" "known_heights" (defArgs sKnown) (defBody sKnown) (defScope sKnown) .none kV21 dc21 pm21 an21 cd21 ct21),sl21⟩) (c21:W.codeIn K cd21 "known_heights"=true) (k21:W.keepIn K (.ref f21)=true)
  (a22:W.nsIn K mainGlobals "texts_from"=some (some (.ref f22))) (l22:K.lookup f22=some ⟨oc22,od22,.func (W.fnOf "texts_from" "texts_from" (defArgs sTFrom) (defBody sTFrom) (defScope sTFrom) .none kV22 dc22 pm22 an22 cd22 ct22),sl22⟩) (c22:W.codeIn K cd22 "texts_from"=true) (k22:W.keepIn K (.ref f22)=true)
  (a23:W.nsIn K mainGlobals "all_shortest"=some (some (.ref f23))) (l23:K.lookup f23=some ⟨oc23,od23,.func (W.fnOf "all_shortest" "all_shortest" (defArgs sAll) (defBody sAll) (defScope sAll) .none kV23 dc23 pm23 an23 cd23 ct23),sl23⟩) (c23:W.codeIn K cd23 "all_shortest"=true) (k23:W.keepIn K (.ref f23)=true)
  (a24:W.nsIn K mainGlobals "shortest"=some (some (.ref f24))) (l24:K.lookup f24=some ⟨oc24,od24,.func (W.fnOf "shortest" "shortest" (defArgs sOne) (defBody sOne) (defScope sOne) .none kV24 dc24 pm24 an24 cd24 ct24),sl24⟩) (c24:W.codeIn K cd24 "shortest"=true) (k24:W.keepIn K (.ref f24)=true)
  (a25:W.nsIn K mainGlobals "heights"=some (some (.ref f25))) (l25:K.lookup f25=some ⟨oc25,od25,.func (W.fnOf "heights" "heights" (defArgs sHeights) (defBody sHeights) (defScope sHeights) .none kV25 dc25 pm25 an25 cd25 ct25),sl25⟩) (c25:W.codeIn K cd25 "heights"=true) (k25:W.keepIn K (.ref f25)=true)
  (a26:W.nsIn K mainGlobals "first_greatest_pair"=some (some (.ref f26))) (l26:K.lookup f26=some ⟨oc26,od26,.func (W.fnOf "first_greatest_pair" "first_greatest_pair" (defArgs sGPair) (defBody sGPair) (defScope sGPair) .none kV26 dc26 pm26 an26 cd26 ct26),sl26⟩) (c26:W.codeIn K cd26 "first_greatest_pair"=true) (k26:W.keepIn K (.ref f26)=true)
  (a27:W.nsIn K mainGlobals "with_pair_laid"=some (some (.ref f27))) (l27:K.lookup f27=some ⟨oc27,od27,.func (W.fnOf "with_pair_laid" "with_pair_laid" (defArgs sGLaid) (defBody sGLaid) (defScope sGLaid) .none kV27 dc27 pm27 an27 cd27 ct27),sl27⟩) (c27:W.codeIn K cd27 "with_pair_laid"=true) (k27:W.keepIn K (.ref f27)=true)
  (a28:W.nsIn K mainGlobals "greedy"=some (some (.ref f28))) (l28:K.lookup f28=some ⟨oc28,od28,.func (W.fnOf "greedy" "greedy" (defArgs sGreedy) (defBody sGreedy) (defScope sGreedy) .none kV28 dc28 pm28 an28 cd28 ct28),sl28⟩) (c28:W.codeIn K cd28 "greedy"=true) (k28:W.keepIn K (.ref f28)=true)
  (a29:W.nsIn K mainGlobals "shown"=some (some (.ref f29))) (l29:K.lookup f29=some ⟨oc29,od29,.func (W.fnOf "shown" "shown" (defArgs sShown) (defBody sShown) (defScope sShown) .none kV29 dc29 pm29 an29 cd29 ct29),sl29⟩) (c29:W.codeIn K cd29 "shown"=true) (k29:W.keepIn K (.ref f29)=true)
  (a30:W.nsIn K mainGlobals "_law_cell_at"=some (some (.ref f30))) (l30:K.lookup f30=some ⟨oc30,od30,.func (W.fnOf "_law_cell_at" "_law_cell_at" (defArgs sCell) (defBody sCell) (defScope sCell) .none kV30 dc30 pm30 an30 cd30 ct30),sl30⟩) (c30:W.codeIn K cd30 "_law_cell_at"=true) (k30:W.keepIn K (.ref f30)=true)
  (a31:W.nsIn K mainGlobals "_law_word"=some (some (.ref f31))) (l31:K.lookup f31=some ⟨oc31,od31,.func (W.fnOf "_law_word" "_law_word" (defArgs sWord) (defBody sWord) (defScope sWord) .none kV31 dc31 pm31 an31 cd31 ct31),sl31⟩) (c31:W.codeIn K cd31 "_law_word"=true) (k31:W.keepIn K (.ref f31)=true)
  (a32:W.nsIn K mainGlobals "_law_piece"=some (some (.ref f32))) (l32:K.lookup f32=some ⟨oc32,od32,.func (W.fnOf "_law_piece" "_law_piece" (defArgs sPiece) (defBody sPiece) (defScope sPiece) .none kV32 dc32 pm32 an32 cd32 ct32),sl32⟩) (c32:W.codeIn K cd32 "_law_piece"=true) (k32:W.keepIn K (.ref f32)=true)
  (a33:W.nsIn K mainGlobals "_law_joined"=some (some (.ref f33))) (l33:K.lookup f33=some ⟨oc33,od33,.func (W.fnOf "_law_joined" "_law_joined" (defArgs sJoined) (defBody sJoined) (defScope sJoined) .none kV33 dc33 pm33 an33 cd33 ct33),sl33⟩) (c33:W.codeIn K cd33 "_law_joined"=true) (k33:W.keepIn K (.ref f33)=true)
  (a34:W.nsIn K mainGlobals "_law_book"=some (some (.ref f34))) (l34:K.lookup f34=some ⟨oc34,od34,.func (W.fnOf "_law_book" "_law_book" (defArgs sBook) (defBody sBook) (defScope sBook) .none kV34 dc34 pm34 an34 cd34 ct34),sl34⟩) (c34:W.codeIn K cd34 "_law_book"=true) (k34:W.keepIn K (.ref f34)=true)
  (a35:W.nsIn K mainGlobals "_law_asked"=some (some (.ref f35))) (l35:K.lookup f35=some ⟨oc35,od35,.func (W.fnOf "_law_asked" "_law_asked" (defArgs sAsked) (defBody sAsked) (defScope sAsked) .none kV35 dc35 pm35 an35 cd35 ct35),sl35⟩) (c35:W.codeIn K cd35 "_law_asked"=true) (k35:W.keepIn K (.ref f35)=true)
  (a36:W.nsIn K mainGlobals "_law_flags"=some (some (.ref f36))) (l36:K.lookup f36=some ⟨oc36,od36,.func (W.fnOf "_law_flags" "_law_flags" (defArgs sFlags) (defBody sFlags) (defScope sFlags) .none kV36 dc36 pm36 an36 cd36 ct36),sl36⟩) (c36:W.codeIn K cd36 "_law_flags"=true) (k36:W.keepIn K (.ref f36)=true)
  (a37:W.nsIn K mainGlobals "_law_ill_word"=some (some (.ref f37))) (l37:K.lookup f37=some ⟨oc37,od37,.func (W.fnOf "_law_ill_word" "_law_ill_word" (defArgs sIllWord) (defBody sIllWord) (defScope sIllWord) .none kV37 dc37 pm37 an37 cd37 ct37),sl37⟩) (c37:W.codeIn K cd37 "_law_ill_word"=true) (k37:W.keepIn K (.ref f37)=true)
  (a38:W.nsIn K mainGlobals "_law_ill_order"=some (some (.ref f38))) (l38:K.lookup f38=some ⟨oc38,od38,.func (W.fnOf "_law_ill_order" "_law_ill_order" (defArgs sIllOrder) (defBody sIllOrder) (defScope sIllOrder) .none kV38 dc38 pm38 an38 cd38 ct38),sl38⟩) (c38:W.codeIn K cd38 "_law_ill_order"=true) (k38:W.keepIn K (.ref f38)=true)
  (a39:W.nsIn K mainGlobals "law"=some (some (.ref f39))) (l39:K.lookup f39=some ⟨oc39,od39,.func (W.fnOf "law" "law" (defArgs sLaw) (defBody sLaw) (defScope sLaw) .none kV39 dc39 pm39 an39 cd39 ct39),sl39⟩) (c39:W.codeIn K cd39 "law"=true) (k39:W.keepIn K (.ref f39)=true)
  (v0:W.nsIn K mainGlobals "MOST_WORDS"=some (some (.int 6 tc0)))
  (v1:W.nsIn K mainGlobals "MOST_LETTERS"=some (some (.int 10 tc1)))
  (v2:W.nsIn K mainGlobals "LINE_END"=some (some (.str "\n" tc2)))
  (z0:W.nsIn K mainGlobals "len"=some none)
  (z1:W.nsIn K mainGlobals "range"=some none)
  (z2:W.nsIn K mainGlobals "list"=some none)
  (z3:W.nsIn K mainGlobals "all"=some none)
  (z4:W.nsIn K mainGlobals "any"=some none)
  (z5:W.nsIn K mainGlobals "min"=some none)
  (z6:W.nsIn K mainGlobals "sorted"=some none)
  (z7:W.nsIn K mainGlobals "set"=some none)
  (z8:W.nsIn K mainGlobals "tuple"=some none)
  (z9:W.nsIn K mainGlobals "isinstance"=some none)
  (z10:W.nsIn K mainGlobals "ValueError"=some none)
  {CL CB CW CO CN:Addr}
  (er1:W.nsIn K mainGlobals "LayError"=some (some (.ref CL)))
  (er2:W.nsIn K mainGlobals "BadBook"=some (some (.ref CB)))
  (er3:W.nsIn K mainGlobals "BadWord"=some (some (.ref CW)))
  (er4:W.nsIn K mainGlobals "BadOrder"=some (some (.ref CO)))
  (er5:W.nsIn K mainGlobals "BadNote"=some (some (.ref CN)))
  (er6:W.specialIn K (.builtin "object.__class__") "__get__"=some (some (.builtin "getset_descriptor.__get__")))
  (er7:W.takesIn K (.builtin "object.__class__")=some true)
  (er8:W.subIn K (.ref CL) (.type "BaseException")=some true)
  (cb1:W.excIn K CB vMro "ValueError.__new__"=true)
  (cb2:Nat.beq CB CL=false)
  (cb3:W.findIn K (.ref CB) "__getattribute__"=some (some (.builtin "BaseException.__getattribute__")))
  (cb4:W.findIn K (.ref CB) "__getattr__"=some none)
  (cb5:W.findIn K (.ref CB) "__class__"=some (some (.builtin "object.__class__")))
  (cb6:W.mroIn K CB (.type "object")=some true)
  (cb7:W.mroIn K CB (.type "BaseException")=some true)
  (cb8:W.kitOne K (.ref CB) (.ref CB)=some true)
  (cb9:W.kitOne K (.ref CB) (.ref CW)=some false)
  (cb10:W.kitOne K (.ref CB) (.ref CO)=some false)
  (cb11:W.kitOne K (.ref CB) (.ref CN)=some false)
  (cb12:W.kitOne K (.ref CB) (.type "ValueError")=some true)
  (cb13:W.kitOne K (.ref CB) (.ref CL)=some true)
  (cw1:W.excIn K CW vMro "ValueError.__new__"=true)
  (cw2:Nat.beq CW CL=false)
  (cw3:W.findIn K (.ref CW) "__getattribute__"=some (some (.builtin "BaseException.__getattribute__")))
  (cw4:W.findIn K (.ref CW) "__getattr__"=some none)
  (cw5:W.findIn K (.ref CW) "__class__"=some (some (.builtin "object.__class__")))
  (cw6:W.mroIn K CW (.type "object")=some true)
  (cw7:W.mroIn K CW (.type "BaseException")=some true)
  (cw8:W.kitOne K (.ref CW) (.ref CB)=some false)
  (cw9:W.kitOne K (.ref CW) (.ref CW)=some true)
  (cw10:W.kitOne K (.ref CW) (.ref CO)=some false)
  (cw11:W.kitOne K (.ref CW) (.ref CN)=some false)
  (cw12:W.kitOne K (.ref CW) (.type "ValueError")=some true)
  (cw13:W.kitOne K (.ref CW) (.ref CL)=some true)
  (co1:W.excIn K CO vMro "ValueError.__new__"=true)
  (co2:Nat.beq CO CL=false)
  (co3:W.findIn K (.ref CO) "__getattribute__"=some (some (.builtin "BaseException.__getattribute__")))
  (co4:W.findIn K (.ref CO) "__getattr__"=some none)
  (co5:W.findIn K (.ref CO) "__class__"=some (some (.builtin "object.__class__")))
  (co6:W.mroIn K CO (.type "object")=some true)
  (co7:W.mroIn K CO (.type "BaseException")=some true)
  (co8:W.kitOne K (.ref CO) (.ref CB)=some false)
  (co9:W.kitOne K (.ref CO) (.ref CW)=some false)
  (co10:W.kitOne K (.ref CO) (.ref CO)=some true)
  (co11:W.kitOne K (.ref CO) (.ref CN)=some false)
  (co12:W.kitOne K (.ref CO) (.type "ValueError")=some true)
  (co13:W.kitOne K (.ref CO) (.ref CL)=some true)
  : ∃ fd:FuncData,(∀ (s:Shared) (v:Value),BindsTo s fd ⟨[v],[]⟩ [("script",v)])∧∀ base:Heap,K.In base→base.Ns mainGlobals mg→FnOk l.prog w K mg base CX0 15 fa fd ["script"] (spLaw K):=by
 have e:=hfa.symm.trans (W.mg_of X G a39)
 cases e
 have T:Gb mg:=⟨W.mg_none_of X G z0,W.mg_none_of X G z1,W.mg_none_of X G z2,W.mg_none_of X G z3,W.mg_none_of X G z4,W.mg_none_of X G z5,W.mg_none_of X G z6,W.mg_none_of X G z7,W.mg_none_of X G z8,W.mg_none_of X G z9,W.mg_none_of X G z10,⟨_,W.mg_of X G v0⟩,⟨_,W.mg_of X G v1⟩,⟨_,W.mg_of X G v2⟩⟩
 have E:=Ers.mk (CL:=CL) (CB:=CB) (CW:=CW) (CO:=CO) (CN:=CN) (W.mg_of X G er1) (W.mg_of X G er2) (W.mg_of X G er3) (W.mg_of X G er4) (W.mg_of X G er5) ⟨cb1,⟨exc_is cb1,cb3,cb4,cb5,er6,er7,cb6,cb7⟩,cb8,cb9,cb10,cb11,cb12,exm_of er8 cb13 cb2⟩ ⟨cw1,⟨exc_is cw1,cw3,cw4,cw5,er6,er7,cw6,cw7⟩,cw8,cw9,cw10,cw11,cw12,exm_of er8 cw13 cw2⟩ ⟨co1,⟨exc_is co1,co3,co4,co5,er6,er7,co6,co7⟩,co8,co9,co10,co11,co12,exm_of er8 co13 co2⟩
 have F1:=fun_mk (st:=sSmall) l1 c1 k1
 have b1:=LW.binds1 (p1:="sign") F1 fun _ _ _ _ _ _ _=>rfl
 have F2:=fun_mk (st:=sIsWord) l2 c2 k2
 have b2:=LW.binds1 (p1:="text") F2 fun _ _ _ _ _ _ _=>rfl
 have F3:=fun_mk (st:=sSize) l3 c3 k3
 have b3:=LW.binds1 (p1:="book") F3 fun _ _ _ _ _ _ _=>rfl
 have F4:=fun_mk (st:=sCheck) l4 c4 k4
 have b4:=LW.binds1 (p1:="book") F4 fun _ _ _ _ _ _ _=>rfl
 have F5:=fun_mk (st:=sLike) l5 c5 k5
 have b5:=LW.binds2 (p1:="book") (p2:="number") F5 fun _ _ _ _ _ _ _ _=>rfl
 have F6:=fun_mk (st:=sHeld) l6 c6 k6
 have b6:=LW.binds2 (p1:="book") (p2:="number") F6 fun _ _ _ _ _ _ _ _=>rfl
 have F7:=fun_mk (st:=sNeeds) l7 c7 k7
 have b7:=LW.binds2 (p1:="book") (p2:="number") F7 fun _ _ _ _ _ _ _ _=>rfl
 have F8:=fun_mk (st:=sKept) l8 c8 k8
 have b8:=LW.binds1 (p1:="book") F8 fun _ _ _ _ _ _ _=>rfl
 have F9:=fun_mk (st:=sPow) l9 c9 k9
 have b9:=LW.binds2 (p1:="word") (p2:="text") F9 fun _ _ _ _ _ _ _ _=>rfl
 have F10:=fun_mk (st:=sPlaces) l10 c10 k10
 have b10:=LW.binds2 (p1:="book") (p2:="text") F10 fun _ _ _ _ _ _ _ _=>rfl
 have F11:=fun_mk (st:=sOv) l11 c11 k11
 have b11:=LW.binds2 (p1:="one") (p2:="next_one") F11 fun _ _ _ _ _ _ _ _=>rfl
 have F12:=fun_mk (st:=sBeyond) l12 c12 k12
 have b12:=LW.binds2 (p1:="last") (p2:="word") F12 fun _ _ _ _ _ _ _ _=>rfl
 have F13:=fun_mk (st:=sOrd) l13 c13 k13
 have b13:=LW.binds2 (p1:="book") (p2:="order") F13 fun _ _ _ _ _ _ _ _=>rfl
 have F14:=fun_mk (st:=sLaid) l14 c14 k14
 have b14:=LW.binds2 (p1:="book") (p2:="order") F14 fun _ _ _ _ _ _ _ _=>rfl
 have F15:=fun_mk (st:=sChoices) l15 c15 k15
 have b15:=LW.binds1 (p1:="numbers") F15 fun _ _ _ _ _ _ _=>rfl
 have F16:=fun_mk (st:=sLeft) l16 c16 k16
 have b16:=LW.binds2 (p1:="numbers") (p2:="standing") F16 fun _ _ _ _ _ _ _ _=>rfl
 have F17:=fun_mk (st:=sAlone) l17 c17 k17
 have b17:=LW.binds1 (p1:="number") F17 fun _ _ _ _ _ _ _=>rfl
 have F18:=fun_mk (st:=sAfter) l18 c18 k18
 have b18:=LW.binds2 (p1:="standing") (p2:="number") F18 fun _ _ _ _ _ _ _ _=>rfl
 have F19:=fun_mk (st:=sBehind) l19 c19 k19
 have b19:=LW.binds3 (p1:="book") (p2:="standing") (p3:="number") F19 fun _ _ _ _ _ _ _ _ _=>rfl
 have F20:=fun_mk (st:=sHOf) l20 c20 k20
 have b20:=LW.binds4 (p1:="book") (p2:="numbers") (p3:="standing") (p4:="known") F20 fun _ _ _ _ _ _ _ _ _ _=>rfl
 have F21:=fun_mk (st:=sKnown) l21 c21 k21
 have b21:=LW.binds2 (p1:="book") (p2:="numbers") F21 fun _ _ _ _ _ _ _ _=>rfl
 have F22:=fun_mk (st:=sTFrom) l22 c22 k22
 have b22:=LW.binds5 (p1:="book") (p2:="known") (p3:="text") (p4:="standing") (p5:="left") F22 fun _ _ _ _ _ _ _ _ _ _ _=>rfl
 have F23:=fun_mk (st:=sAll) l23 c23 k23
 have b23:=LW.binds1 (p1:="book") F23 fun _ _ _ _ _ _ _=>rfl
 have F24:=fun_mk (st:=sOne) l24 c24 k24
 have b24:=LW.binds1 (p1:="book") F24 fun _ _ _ _ _ _ _=>rfl
 have F25:=fun_mk (st:=sHeights) l25 c25 k25
 have b25:=LW.binds1 (p1:="book") F25 fun _ _ _ _ _ _ _=>rfl
 have F26:=fun_mk (st:=sGPair) l26 c26 k26
 have b26:=LW.binds1 (p1:="pieces") F26 fun _ _ _ _ _ _ _=>rfl
 have F27:=fun_mk (st:=sGLaid) l27 c27 k27
 have b27:=LW.binds2 (p1:="pieces") (p2:="pair") F27 fun _ _ _ _ _ _ _ _=>rfl
 have F28:=fun_mk (st:=sGreedy) l28 c28 k28
 have b28:=LW.binds1 (p1:="book") F28 fun _ _ _ _ _ _ _=>rfl
 have F29:=fun_mk (st:=sShown) l29 c29 k29
 have b29:=LW.binds1 (p1:="book") F29 fun _ _ _ _ _ _ _=>rfl
 have F30:=fun_mk (st:=sCell) l30 c30 k30
 have b30:=LW.binds2 (p1:="script") (p2:="k") F30 fun _ _ _ _ _ _ _ _=>rfl
 have F31:=fun_mk (st:=sWord) l31 c31 k31
 have b31:=LW.binds3 (p1:="cell") (p2:="letters") (p3:="most") F31 fun _ _ _ _ _ _ _ _ _=>rfl
 have F32:=fun_mk (st:=sPiece) l32 c32 k32
 have b32:=LW.binds2 (p1:="word") (p2:="cell") F32 fun _ _ _ _ _ _ _ _=>rfl
 have F33:=fun_mk (st:=sJoined) l33 c33 k33
 have b33:=LW.binds3 (p1:="one") (p2:="other") (p3:="most") F33 fun _ _ _ _ _ _ _ _ _=>rfl
 have F34:=fun_mk (st:=sBook) l34 c34 k34
 have b34:=LW.binds4 (p1:="script") (p2:="start") (p3:="words") (p4:="most") F34 fun _ _ _ _ _ _ _ _ _ _=>rfl
 have F35:=fun_mk (st:=sAsked) l35 c35 k35
 have b35:=LW.binds3 (p1:="way") (p2:="book") (p3:="order") F35 fun _ _ _ _ _ _ _ _ _=>rfl
 have F36:=fun_mk (st:=sFlags) l36 c36 k36
 have b36:=LW.binds3 (p1:="way") (p2:="book") (p3:="order") F36 fun _ _ _ _ _ _ _ _ _=>rfl
 have F37:=fun_mk (st:=sIllWord) l37 c37 k37
 have b37:=LW.binds2 (p1:="word") (p2:="cell") F37 fun _ _ _ _ _ _ _ _=>rfl
 have F38:=fun_mk (st:=sIllOrder) l38 c38 k38
 have b38:=LW.binds3 (p1:="words") (p2:="cell") (p3:="far") F38 fun _ _ _ _ _ _ _ _ _=>rfl
 have F39:=fun_mk (st:=sLaw) l39 c39 k39
 refine ⟨W.fnOf "law" "law" (defArgs sLaw) (defBody sLaw) (defScope sLaw) .none kV39 dc39 pm39 an39 cd39 ct39,fun s v=>.of_eq rfl,fun base _ _=>?_⟩
 have H1:Has l.prog w K mg base "is_small_letter" 1 ["sign"] spSmall:=⟨_,_,ok_Small F1 T ,b1,k1,W.mg_of X G a1⟩
 have H2:Has l.prog w K mg base "is_word" 2 ["text"] spIsWord:=⟨_,_,ok_IsWord F2 T H1,b2,k2,W.mg_of X G a2⟩
 have H3:Has l.prog w K mg base "has_book_size" 1 ["book"] (spSize K):=⟨_,_,ok_Size F3 T ,b3,k3,W.mg_of X G a3⟩
 have h4:=ok_Check (P:=l.prog) (w:=w) (base:=base) F4 T H3 H2
 have H4:Has l.prog w K mg base "check_book" 3 ["book"] (spCheck K):=⟨_,_,h4,b4,k4,W.mg_of X G a4⟩
 have j4:FnOk l.prog w K mg base (CXR l.prog w) 3 _ _ ["book"] (spIll K 0 CB CW):=okI_Check F4 T E H3 H2
 have I4:HasR l.prog w K mg base "check_book" 3 ["book"] (spIll K 0 CB CW):=⟨_,_,j4,b4,k4,W.mg_of X G a4⟩
 have H5:Has l.prog w K mg base "has_like_ahead" 1 ["book","number"] (spAt K likeB):=⟨_,_,ok_Like F5 T ,b5,k5,W.mg_of X G a5⟩
 have H6:Has l.prog w K mg base "is_held" 1 ["book","number"] (spAt K heldB):=⟨_,_,ok_Held F6 T ,b6,k6,W.mg_of X G a6⟩
 have H7:Has l.prog w K mg base "needs_place" 2 ["book","number"] (spAt K needB):=⟨_,_,ok_Needs F7 T H5 H6,b7,k7,W.mg_of X G a7⟩
 have h8:=ok_Kept (P:=l.prog) (w:=w) (base:=base) F8 T H4 H7
 have H8:Has l.prog w K mg base "kept" 4 ["book"] (spNew K Good keptF):=⟨_,_,h8,b8,k8,W.mg_of X G a8⟩
 have j8:FnOk l.prog w K mg base (CXR l.prog w) 4 _ _ ["book"] (spIll K 0 CB CW):=okI_Kept F8 T I4
 have I8:HasR l.prog w K mg base "kept" 4 ["book"] (spIll K 0 CB CW):=⟨_,_,j8,b8,k8,W.mg_of X G a8⟩
 have U8:HasR l.prog w K mg base "kept" 4 ["book"] (spUni K CB CW):=⟨_,_,FnOk.imp (both h8 j8) (fun _ _ _ _ h=>uni_kept h),b8,k8,W.mg_of X G a8⟩
 have H9:Has l.prog w K mg base "places_of_word" 1 ["word","text"] (spPl K):=⟨_,_,ok_Pow F9 T ,b9,k9,W.mg_of X G a9⟩
 have h10:=ok_Places (P:=l.prog) (w:=w) (base:=base) F10 T H4 H9
 have H10:Has l.prog w K mg base "places" 4 ["book","text"] (spPlaces K):=⟨_,_,h10,b10,k10,W.mg_of X G a10⟩
 have j10:FnOk l.prog w K mg base (CXR l.prog w) 4 _ _ ["book","text"] (spIll K 1 CB CW):=okI_Places F10 T I4
 have U10:HasR l.prog w K mg base "places" 4 ["book","text"] (spUniP K CB CW):=⟨_,_,FnOk.imp (both h10 j10) (fun _ _ _ _ h=>uni_places h),b10,k10,W.mg_of X G a10⟩
 have H11:Has l.prog w K mg base "overlap" 1 ["one","next_one"] spOv:=⟨_,_,ok_Ov F11 T ,b11,k11,W.mg_of X G a11⟩
 have H12:Has l.prog w K mg base "beyond" 2 ["last","word"] spBeyond:=⟨_,_,ok_Beyond F12 T H11,b12,k12,W.mg_of X G a12⟩
 have h13:=ok_Ord (P:=l.prog) (w:=w) (base:=base) F13 T
 have H13:Has l.prog w K mg base "check_order" 1 ["book","order"] (spOrd K):=⟨_,_,h13,b13,k13,W.mg_of X G a13⟩
 have j13:FnOk l.prog w K mg base (CXR l.prog w) 1 _ _ ["book","order"] (spOrdIll K CO):=okI_Ord F13 T E
 have I13:HasR l.prog w K mg base "check_order" 1 ["book","order"] (spOrdIll K CO):=⟨_,_,j13,b13,k13,W.mg_of X G a13⟩
 have h14:=ok_Laid (P:=l.prog) (w:=w) (base:=base) F14 T H4 H13 H12
 have H14:Has l.prog w K mg base "laid" 4 ["book","order"] (spLaid K Good):=⟨_,_,h14,b14,k14,W.mg_of X G a14⟩
 have j14:FnOk l.prog w K mg base (CXR l.prog w) 4 _ _ ["book","order"] (spIll K 1 CB CW):=okI_Laid F14 T I4
 have U14:HasR l.prog w K mg base "laid" 4 ["book","order"] (spUniL K CB CW CO):=⟨_,_,FnOk.imp (ors (both h14 j14) (okO_Laid F14 T H4 I13)) (fun _ _ _ _ h=>uni_laid h),b14,k14,W.mg_of X G a14⟩
 have H15:Has l.prog w K mg base "choices" 1 ["numbers"] (spChoices K):=⟨_,_,ok_Choices F15 T ,b15,k15,W.mg_of X G a15⟩
 have H16:Has l.prog w K mg base "still_left" 1 ["numbers","standing"] (spLeft K):=⟨_,_,ok_Left F16 T ,b16,k16,W.mg_of X G a16⟩
 have H17:Has l.prog w K mg base "standing_alone" 1 ["number"] spAlone:=⟨_,_,ok_Alone F17 T ,b17,k17,W.mg_of X G a17⟩
 have H18:Has l.prog w K mg base "standing_after" 1 ["standing","number"] spAfter:=⟨_,_,ok_After F18 T ,b18,k18,W.mg_of X G a18⟩
 have H19:Has l.prog w K mg base "put_behind" 3 ["book","standing","number"] (spBehind K):=⟨_,_,ok_Behind F19 T H12,b19,k19,W.mg_of X G a19⟩
 have H20:Has l.prog w K mg base "height_of" 4 ["book","numbers","standing","known"] (spHeightOf l.prog w K):=⟨_,_,ok_HOf F20 T H16 H19 H18,b20,k20,W.mg_of X G a20⟩
 have H21:Has l.prog w K mg base "known_heights" 5 ["book","numbers"] (spKnown l.prog w K):=⟨_,_,ok_Known F21 T H15 H20,b21,k21,W.mg_of X G a21⟩
 have H22:Has l.prog w K mg base "texts_from" 10 ["book","known","text","standing","left"] (spTextsFrom l.prog w K 6):=⟨_,_,ok_TFrom F22 T b22 k22 (W.mg_of X G a22) H19 H18 H16 6,b22,k22,W.mg_of X G a22⟩
 have h23:=ok_All (P:=l.prog) (w:=w) (base:=base) F23 T H8 H21 H17 H16 H22
 have H23:Has l.prog w K mg base "all_shortest" 11 ["book"] (spAllW K):=⟨_,_,h23,b23,k23,W.mg_of X G a23⟩
 have j23:FnOk l.prog w K mg base (CXR l.prog w) 11 _ _ ["book"] (spIll K 0 CB CW):=okI_All F23 T I8
 have I23:HasR l.prog w K mg base "all_shortest" 11 ["book"] (spIll K 0 CB CW):=⟨_,_,j23,b23,k23,W.mg_of X G a23⟩
 have U23:HasR l.prog w K mg base "all_shortest" 11 ["book"] (spUni K CB CW):=⟨_,_,FnOk.imp (both h23 j23) (fun _ _ _ _ h=>uni_all h),b23,k23,W.mg_of X G a23⟩
 have h24:=ok_One (P:=l.prog) (w:=w) (base:=base) F24 T H23
 have H24:Has l.prog w K mg base "shortest" 12 ["book"] (spOneW K):=⟨_,_,h24,b24,k24,W.mg_of X G a24⟩
 have j24:FnOk l.prog w K mg base (CXR l.prog w) 12 _ _ ["book"] (spIll K 0 CB CW):=okI_One F24 T I23
 have U24:HasR l.prog w K mg base "shortest" 12 ["book"] (spUni K CB CW):=⟨_,_,FnOk.imp (both h24 j24) (fun _ _ _ _ h=>uni_one h),b24,k24,W.mg_of X G a24⟩
 have h25:=ok_Heights (P:=l.prog) (w:=w) (base:=base) F25 T H8 H21
 have H25:Has l.prog w K mg base "heights" 6 ["book"] (spHeights K):=⟨_,_,h25,b25,k25,W.mg_of X G a25⟩
 have j25:FnOk l.prog w K mg base (CXR l.prog w) 6 _ _ ["book"] (spIll K 0 CB CW):=okI_Heights F25 T I8 H21
 have U25:HasR l.prog w K mg base "heights" 6 ["book"] (spUni K CB CW):=⟨_,_,FnOk.imp (both h25 j25) (fun _ _ _ _ h=>uni_heights h),b25,k25,W.mg_of X G a25⟩
 have H26:Has l.prog w K mg base "first_greatest_pair" 2 ["pieces"] (spGPair K):=⟨_,_,ok_GPair F26 T H11,b26,k26,W.mg_of X G a26⟩
 have H27:Has l.prog w K mg base "with_pair_laid" 3 ["pieces","pair"] (spGLaid K):=⟨_,_,ok_GLaid F27 T H12,b27,k27,W.mg_of X G a27⟩
 have h28:=ok_Greedy (P:=l.prog) (w:=w) (base:=base) F28 T H8 H26 H27
 have H28:Has l.prog w K mg base "greedy" 5 ["book"] (spGreedy K (fun _=>True)):=⟨_,_,h28,b28,k28,W.mg_of X G a28⟩
 have j28:FnOk l.prog w K mg base (CXR l.prog w) 5 _ _ ["book"] (spIll K 0 CB CW):=okI_Greedy F28 T I8
 have U28:HasR l.prog w K mg base "greedy" 5 ["book"] (spUni K CB CW):=⟨_,_,FnOk.imp (both h28 j28) (fun _ _ _ _ h=>uni_greedy h),b28,k28,W.mg_of X G a28⟩
 have h29:=ok_Shown (P:=l.prog) (w:=w) (base:=base) F29 T H4
 have H29:Has l.prog w K mg base "shown" 4 ["book"] (spShown K):=⟨_,_,h29,b29,k29,W.mg_of X G a29⟩
 have j29:FnOk l.prog w K mg base (CXR l.prog w) 4 _ _ ["book"] (spIll K 0 CB CW):=okI_Shown F29 T I4
 have U29:HasR l.prog w K mg base "shown" 4 ["book"] (spUni K CB CW):=⟨_,_,FnOk.imp (both h29 j29) (fun _ _ _ _ h=>uni_shown h),b29,k29,W.mg_of X G a29⟩
 have H30:Has l.prog w K mg base "_law_cell_at" 1 ["script","k"] (spCell K):=⟨_,_,ok_Cell F30 T ,b30,k30,W.mg_of X G a30⟩
 have H31:Has l.prog w K mg base "_law_word" 1 ["cell","letters","most"] spWord:=⟨_,_,ok_Word F31 T ,b31,k31,W.mg_of X G a31⟩
 have H32:Has l.prog w K mg base "_law_piece" 1 ["word","cell"] spPiece:=⟨_,_,ok_Piece F32 T ,b32,k32,W.mg_of X G a32⟩
 have H33:Has l.prog w K mg base "_law_joined" 1 ["one","other","most"] spJoined:=⟨_,_,ok_Joined F33 T ,b33,k33,W.mg_of X G a33⟩
 have H34:Has l.prog w K mg base "_law_book" 2 ["script","start","words","most"] (spBook K):=⟨_,_,ok_Book F34 T H30 H31 H32 H33,b34,k34,W.mg_of X G a34⟩
 have H35:HasR l.prog w K mg base "_law_asked" 13 ["way","book","order"] (spAsked K CB CW CO):=⟨_,_,ok_Asked F35 T U8 U10 U14 U25 U24 U23 U28 U29,b35,k35,W.mg_of X G a35⟩
 have H36:Has l.prog w K mg base "_law_flags" 14 ["way","book","order"] (spFlags K):=⟨_,_,ok_Flags F36 T E H35,b36,k36,W.mg_of X G a36⟩
 have H37:Has l.prog w K mg base "_law_ill_word" 1 ["word","cell"] spIllWord:=⟨_,_,ok_IllWord F37 T ,b37,k37,W.mg_of X G a37⟩
 have H38:Has l.prog w K mg base "_law_ill_order" 1 ["words","cell","far"] spIllOrder:=⟨_,_,ok_IllOrder F38 T ,b38,k38,W.mg_of X G a38⟩
 exact ok_Law F39 T H30 H34 H37 H38 H36
theorem walk {l:W.OpenLaw} {q:Program} {loose:List Str} {XP:(Str→Option Value)→Heap→Prop} {YP:World→Heap→Prop} {d:DefRec} {K:Params→W.Frag} (hn:l.most=some 63) (hdf:d.params.defaults=[])
  (hY:∀ (w:World) (h:Heap),YP w h→(K w.params).In h)
  (F:∀ (w:World) (mg:Str→Option Value) (fa:Addr) (h:Heap),(K w.params).In h→h.Ns mainGlobals mg→mg d.name=some (.ref fa) →
   ∃ fd:FuncData,(∀ (s:Shared) (u:Value),BindsTo s fd ⟨[u],[]⟩ [("script",u)])∧∀ base:Heap,(K w.params).In base→base.Ns mainGlobals mg→FnOk l.prog w (K w.params) mg base CX0 15 fa fd ["script"] (spLaw (K w.params))) :
  W.WalkO q loose XP YP l.row.toRowW d [] (fun f vs=>PySem.call f vs) :=
 walk_ofB (n:=63) (k:=15) (x:="script") (CX:=fun _=>CX0) (sp:=fun w=>spLaw (K w.params)) hn (by decide) hdf ⟨rfl,by decide,by decide⟩ hY F (fun _ _ a ns hl hb _ hS=>⟨a,ns,rfl,hS,hl,hb,fun _=>rfl⟩) fun _ _ _ _ _ z=>z
end My
open PySem PySem.W PyProof.Rows
set_option maxRecDepth 100000 in
set_option maxHeartbeats 0 in
theorem PySem.Challenge.cw_laidwords_k12_refusals_holds : PySem.Challenge.rw_laidwords_k12_refusals.Holds := by
 w_on; refine Tp.head ?_
 k_fill
 refine My.walk (l:=PySem.Challenge.rw_laidwords_k12_refusals) rfl rfl (fun w h Y=>PySem.W.kIn_of Y) ?F
 case F =>
  intro w mg fa h KX G hmg
  refine' My.all_mk KX G hmg ?a1 ?l1 ?c1 ?k1 ?a2 ?l2 ?c2 ?k2 ?a3 ?l3 ?c3 ?k3 ?a4 ?l4 ?c4 ?k4 ?a5 ?l5 ?c5 ?k5 ?a6 ?l6 ?c6 ?k6 ?a7 ?l7 ?c7 ?k7 ?a8 ?l8 ?c8 ?k8 ?a9 ?l9 ?c9 ?k9 ?a10 ?l10 ?c10 ?k10 ?a11 ?l11 ?c11 ?k11 ?a12 ?l12 ?c12 ?k12 ?a13 ?l13 ?c13 ?k13 ?a14 ?l14 ?c14 ?k14 ?a15 ?l15 ?c15 ?k15 ?a16 ?l16 ?c16 ?k16 ?a17 ?l17 ?c17 ?k17 ?a18 ?l18 ?c18 ?k18 ?a19 ?l19 ?c19 ?k19 ?a20 ?l20 ?c20 ?k20 ?a21 ?l21 ?c21 ?k21 ?a22 ?l22 ?c22 ?k22 ?a23 ?l23 ?c23 ?k23 ?a24 ?l24 ?c24 ?k24 ?a25 ?l25 ?c25 ?k25 ?a26 ?l26 ?c26 ?k26 ?a27 ?l27 ?c27 ?k27 ?a28 ?l28 ?c28 ?k28 ?a29 ?l29 ?c29 ?k29 ?a30 ?l30 ?c30 ?k30 ?a31 ?l31 ?c31 ?k31 ?a32 ?l32 ?c32 ?k32 ?a33 ?l33 ?c33 ?k33 ?a34 ?l34 ?c34 ?k34 ?a35 ?l35 ?c35 ?k35 ?a36 ?l36 ?c36 ?k36 ?a37 ?l37 ?c37 ?k37 ?a38 ?l38 ?c38 ?k38 ?a39 ?l39 ?c39 ?k39 ?v0 ?v1 ?v2 ?z0 ?z1 ?z2 ?z3 ?z4 ?z5 ?z6 ?z7 ?z8 ?z9 ?z10 ?er1 ?er2 ?er3 ?er4 ?er5 ?er6 ?er7 ?er8 ?cb1 ?cb2 ?cb3 ?cb4 ?cb5 ?cb6 ?cb7 ?cb8 ?cb9 ?cb10 ?cb11 ?cb12 ?cb13 ?cw1 ?cw2 ?cw3 ?cw4 ?cw5 ?cw6 ?cw7 ?cw8 ?cw9 ?cw10 ?cw11 ?cw12 ?cw13 ?co1 ?co2 ?co3 ?co4 ?co5 ?co6 ?co7 ?co8 ?co9 ?co10 ?co11 ?co12 ?co13
  (case a1=>k_is)
  (case l1=>k_is)
  (case c1=>k_is)
  (case k1=>k_is)
  (case a2=>k_is)
  (case l2=>k_is)
  (case c2=>k_is)
  (case k2=>k_is)
  (case a3=>k_is)
  (case l3=>k_is)
  (case c3=>k_is)
  (case k3=>k_is)
  (case a4=>k_is)
  (case l4=>k_is)
  (case c4=>k_is)
  (case k4=>k_is)
  (case a5=>k_is)
  (case l5=>k_is)
  (case c5=>k_is)
  (case k5=>k_is)
  (case a6=>k_is)
  (case l6=>k_is)
  (case c6=>k_is)
  (case k6=>k_is)
  (case a7=>k_is)
  (case l7=>k_is)
  (case c7=>k_is)
  (case k7=>k_is)
  (case a8=>k_is)
  (case l8=>k_is)
  (case c8=>k_is)
  (case k8=>k_is)
  (case a9=>k_is)
  (case l9=>k_is)
  (case c9=>k_is)
  (case k9=>k_is)
  (case a10=>k_is)
  (case l10=>k_is)
  (case c10=>k_is)
  (case k10=>k_is)
  (case a11=>k_is)
  (case l11=>k_is)
  (case c11=>k_is)
  (case k11=>k_is)
  (case a12=>k_is)
  (case l12=>k_is)
  (case c12=>k_is)
  (case k12=>k_is)
  (case a13=>k_is)
  (case l13=>k_is)
  (case c13=>k_is)
  (case k13=>k_is)
  (case a14=>k_is)
  (case l14=>k_is)
  (case c14=>k_is)
  (case k14=>k_is)
  (case a15=>k_is)
  (case l15=>k_is)
  (case c15=>k_is)
  (case k15=>k_is)
  (case a16=>k_is)
  (case l16=>k_is)
  (case c16=>k_is)
  (case k16=>k_is)
  (case a17=>k_is)
  (case l17=>k_is)
  (case c17=>k_is)
  (case k17=>k_is)
  (case a18=>k_is)
  (case l18=>k_is)
  (case c18=>k_is)
  (case k18=>k_is)
  (case a19=>k_is)
  (case l19=>k_is)
  (case c19=>k_is)
  (case k19=>k_is)
  (case a20=>k_is)
  (case l20=>k_is)
  (case c20=>k_is)
  (case k20=>k_is)
  (case a21=>k_is)
  (case l21=>k_is)
  (case c21=>k_is)
  (case k21=>k_is)
  (case a22=>k_is)
  (case l22=>k_is)
  (case c22=>k_is)
  (case k22=>k_is)
  (case a23=>k_is)
  (case l23=>k_is)
  (case c23=>k_is)
  (case k23=>k_is)
  (case a24=>k_is)
  (case l24=>k_is)
  (case c24=>k_is)
  (case k24=>k_is)
  (case a25=>k_is)
  (case l25=>k_is)
  (case c25=>k_is)
  (case k25=>k_is)
  (case a26=>k_is)
  (case l26=>k_is)
  (case c26=>k_is)
  (case k26=>k_is)
  (case a27=>k_is)
  (case l27=>k_is)
  (case c27=>k_is)
  (case k27=>k_is)
  (case a28=>k_is)
  (case l28=>k_is)
  (case c28=>k_is)
  (case k28=>k_is)
  (case a29=>k_is)
  (case l29=>k_is)
  (case c29=>k_is)
  (case k29=>k_is)
  (case a30=>k_is)
  (case l30=>k_is)
  (case c30=>k_is)
  (case k30=>k_is)
  (case a31=>k_is)
  (case l31=>k_is)
  (case c31=>k_is)
  (case k31=>k_is)
  (case a32=>k_is)
  (case l32=>k_is)
  (case c32=>k_is)
  (case k32=>k_is)
  (case a33=>k_is)
  (case l33=>k_is)
  (case c33=>k_is)
  (case k33=>k_is)
  (case a34=>k_is)
  (case l34=>k_is)
  (case c34=>k_is)
  (case k34=>k_is)
  (case a35=>k_is)
  (case l35=>k_is)
  (case c35=>k_is)
  (case k35=>k_is)
  (case a36=>k_is)
  (case l36=>k_is)
  (case c36=>k_is)
  (case k36=>k_is)
  (case a37=>k_is)
  (case l37=>k_is)
  (case c37=>k_is)
  (case k37=>k_is)
  (case a38=>k_is)
  (case l38=>k_is)
  (case c38=>k_is)
  (case k38=>k_is)
  (case a39=>k_is)
  (case l39=>k_is)
  (case c39=>k_is)
  (case k39=>k_is)
  (case v0=>k_is)
  (case v1=>k_is)
  (case v2=>k_is)
  (case z0=>k_is)
  (case z1=>k_is)
  (case z2=>k_is)
  (case z3=>k_is)
  (case z4=>k_is)
  (case z5=>k_is)
  (case z6=>k_is)
  (case z7=>k_is)
  (case z8=>k_is)
  (case z9=>k_is)
  (case z10=>k_is)
  (case er1=>first | k_is | kit_is | k_exc | rfl)
  (case er2=>first | k_is | kit_is | k_exc | rfl)
  (case er3=>first | k_is | kit_is | k_exc | rfl)
  (case er4=>first | k_is | kit_is | k_exc | rfl)
  (case er5=>first | k_is | kit_is | k_exc | rfl)
  (case er6=>first | k_is | kit_is | k_exc | rfl)
  (case er7=>first | k_is | kit_is | k_exc | rfl)
  (case er8=>first | k_is | kit_is | k_exc | rfl)
  (case cb1=>first | k_is | kit_is | k_exc | rfl)
  (case cb2=>first | k_is | kit_is | k_exc | rfl)
  (case cb3=>first | k_is | kit_is | k_exc | rfl)
  (case cb4=>first | k_is | kit_is | k_exc | rfl)
  (case cb5=>first | k_is | kit_is | k_exc | rfl)
  (case cb6=>first | k_is | kit_is | k_exc | rfl)
  (case cb7=>first | k_is | kit_is | k_exc | rfl)
  (case cb8=>first | k_is | kit_is | k_exc | rfl)
  (case cb9=>first | k_is | kit_is | k_exc | rfl)
  (case cb10=>first | k_is | kit_is | k_exc | rfl)
  (case cb11=>first | k_is | kit_is | k_exc | rfl)
  (case cb12=>first | k_is | kit_is | k_exc | rfl)
  (case cb13=>first | k_is | kit_is | k_exc | rfl)
  (case cw1=>first | k_is | kit_is | k_exc | rfl)
  (case cw2=>first | k_is | kit_is | k_exc | rfl)
  (case cw3=>first | k_is | kit_is | k_exc | rfl)
  (case cw4=>first | k_is | kit_is | k_exc | rfl)
  (case cw5=>first | k_is | kit_is | k_exc | rfl)
  (case cw6=>first | k_is | kit_is | k_exc | rfl)
  (case cw7=>first | k_is | kit_is | k_exc | rfl)
  (case cw8=>first | k_is | kit_is | k_exc | rfl)
  (case cw9=>first | k_is | kit_is | k_exc | rfl)
  (case cw10=>first | k_is | kit_is | k_exc | rfl)
  (case cw11=>first | k_is | kit_is | k_exc | rfl)
  (case cw12=>first | k_is | kit_is | k_exc | rfl)
  (case cw13=>first | k_is | kit_is | k_exc | rfl)
  (case co1=>first | k_is | kit_is | k_exc | rfl)
  (case co2=>first | k_is | kit_is | k_exc | rfl)
  (case co3=>first | k_is | kit_is | k_exc | rfl)
  (case co4=>first | k_is | kit_is | k_exc | rfl)
  (case co5=>first | k_is | kit_is | k_exc | rfl)
  (case co6=>first | k_is | kit_is | k_exc | rfl)
  (case co7=>first | k_is | kit_is | k_exc | rfl)
  (case co8=>first | k_is | kit_is | k_exc | rfl)
  (case co9=>first | k_is | kit_is | k_exc | rfl)
  (case co10=>first | k_is | kit_is | k_exc | rfl)
  (case co11=>first | k_is | kit_is | k_exc | rfl)
  (case co12=>first | k_is | kit_is | k_exc | rfl)
  (case co13=>first | k_is | kit_is | k_exc | rfl)
#print axioms PySem.Challenge.cw_laidwords_k12_refusals_holds
