import PyProof.Rows.All
import Wide.All
import OpenK.AllK
import Wide.FinOn
import PyProof.EqAt
import PyProof.EqKinds
import PyProof.TupleCall
import KE.BitLaws
import Open.SpecLaws
import KE.OsHead
import KE.OsGo
import PyWideLaws
import PySem.Challenge.RW_duelevents_s01_answers
def ZH (p:Prop):Prop:=p
theorem zh0 {p:Prop} (h:ZH p):p:=h
theorem zh1 {p:Prop} (h:p):ZH p=True:=eq_true h
theorem zh2 {p:Prop} (h:p):p:=h
set_option Elab.async false
set_option linter.all false
set_option maxRecDepth 100000
namespace L2
open PySem PySem.Spec PyProof.Rows
abbrev Key:=Sum Int Str
def keyIs:Key→Value→Bool
 | .inl k,v=>Value.isInt k v
 | .inr x,v=>Value.isStrOf x v
def keyH (w:World):Key→Int
 | .inl k=>hashInt k
 | .inr x=>hashStr w x
theorem keyIs_shape:∀ {k:Key} {v:Value},keyIs k v=true→(∃ i t,k=Sum.inl i∧v=Value.int i t)∨(∃ x t,k=Sum.inr x∧v=Value.str x t)
 | .inl i,v,h=>by
  obtain ⟨t,e⟩:=Value.isInt_shape (k:=i) (v:=v) h
  exact .inl ⟨i,t,rfl,e⟩
 | .inr x,v,h=>by
  obtain ⟨t,e⟩:=Value.isStrOf_shape (x:=x) (v:=v) h
  exact .inr ⟨x,t,rfl,e⟩
theorem key_ll (a b:Int):decide ((Sum.inl a:Key)=Sum.inl b)=(a == b):=by
 by_cases e:a=b
 ·subst e;simp
 have h:¬ (Sum.inl a:Key)=Sum.inl b:=fun q=>e (Sum.inl.inj q)
 rw [decide_eq_false h]
 exact (beq_eq_false_iff_ne.mpr e).symm
theorem key_rr (a b:Str):decide ((Sum.inr a:Key)=Sum.inr b)=decide (a=b):=by
 by_cases e:a=b
 ·subst e;simp
 have h:¬ (Sum.inr a:Key)=Sum.inr b:=fun q=>e (Sum.inr.inj q)
 rw [decide_eq_false h,decide_eq_false e]
theorem key_lr (a:Int) (b:Str):decide ((Sum.inl a:Key)=Sum.inr b)=false:=decide_eq_false (fun q=>nomatch q)
theorem key_rl (a:Str) (b:Int):decide ((Sum.inr a:Key)=Sum.inl b)=false:=decide_eq_false (fun q=>nomatch q)
def mixKind (prog:Program) (w:World):PySem.KeyKind prog w Key where
 is:=keyIs
 hash:=keyH w
 inj:=fun v a b ha hb=>by
  rcases keyIs_shape ha with ⟨i,t,rfl,rfl⟩ | ⟨x,t,rfl,rfl⟩
  ·rcases keyIs_shape hb with ⟨j,u,rfl,e⟩ | ⟨y,u,rfl,e⟩
   ·injection e with e1 _;rw [e1]
   exact nomatch e
  rcases keyIs_shape hb with ⟨j,u,rfl,e⟩ | ⟨y,u,rfl,e⟩
  ·exact nomatch e
  injection e with e1 _;rw [e1]
 byValue:=fun k v h=>by
  rcases keyIs_shape h with ⟨i,t,rfl,rfl⟩ | ⟨x,t,rfl,rfl⟩ <;> rfl
 pyHash:=fun hv h=>by
  rcases keyIs_shape hv with ⟨i,t,rfl,rfl⟩ | ⟨x,t,rfl,rfl⟩
  ·exact wpAny_pyHash_int h
  exact wpAny_pyHash_str h
 eqBool:=fun hu hv h=>by
  rcases keyIs_shape hu with ⟨i,t,rfl,rfl⟩ | ⟨x,t,rfl,rfl⟩
  ·rcases keyIs_shape hv with ⟨j,u,rfl,rfl⟩ | ⟨y,u,rfl,rfl⟩
   ·rw [key_ll] at h;exact wpAny_eqBool_int h
   rw [key_lr] at h;exact SeqAt.EqAt.int_str i t y u _ _ _ _ h
  rcases keyIs_shape hv with ⟨j,u,rfl,rfl⟩ | ⟨y,u,rfl,rfl⟩
  ·rw [key_rl] at h;exact SeqAt.EqAt.str_int x t j u _ _ _ _ h
  rw [key_rr] at h;exact wpAny_eqBool_str h
 «strs»:=fun k x t v h=>by
  rcases keyIs_shape h with ⟨i,u,rfl,e⟩ | ⟨y,u,rfl,e⟩
  ·exact nomatch e
  injection e with e1 _
  subst e1
  cases v <;> rfl
end L2
namespace L2
open PySem PySem.Spec PyProof.Rows
inductive V where
 | non | bl (b:Bool) | int (i:Int) | str (x:Str) | byt (b:Array UInt8) | flt (b:UInt64) | ref (a:Addr) | ty (n:String)
 deriving DecidableEq
def RelV:V→Value→Prop
 | .non,u=>u=Value.none
 | .bl b,u=>u=Value.bool b
 | .int i,u=>∃ t,u=Value.int i t
 | .str x,u=>∃ t,u=Value.str x t
 | .byt b,u=>∃ t,u=Value.bytes b t
 | .flt b,u=>∃ t,u=Value.float b t
 | .ref a,u=>u=Value.ref a
 | .ty n,u=>u=Value.type n
abbrev Vals:List V→List Value→Prop:=Paired RelV
theorem Vals.length {xs:List V} {us:List Value} (r:Vals xs us):xs.length=us.length:=Paired.length r
theorem Vals.get:∀ {xs:List V} {us:List Value} {i:Nat} {x:V},Vals xs us→xs[i]?=some x→∃ u,us[i]?=some u∧RelV x u
 | _,_,_,_,.nil,e=>by simp at e
 | _,_,0,_,.cons r _,e=>by simp at e;subst e;exact ⟨_,rfl,r⟩
 | _,_,i + 1,x,.cons _ t,e=>by
  obtain ⟨u,h1,h2⟩:=Vals.get (i:=i) (x:=x) t (by simpa using e)
  exact ⟨u,by simpa using h1,h2⟩
theorem Vals.set {x:V} {u:Value} (r:RelV x u):∀ {xs:List V} {us:List Value} (i:Nat),Vals xs us→Vals (xs.set i x) (us.set i u)
 | _,_,_,.nil=>.nil
 | _,_,0,.cons _ t=>.cons r t
 | _,_,i + 1,.cons q t=>.cons q (Vals.set r i t)
theorem Vals.append:∀ {xs ys:List V} {us ws:List Value},Vals xs us→Vals ys ws→Vals (xs++ys) (us++ws)
 | _,_,_,_,.nil,s=>s
 | _,_,_,_,.cons r t,s=>.cons r (Vals.append t s)
theorem Vals.take:∀ {xs:List V} {us:List Value} (n:Nat),Vals xs us→Vals (xs.take n) (us.take n)
 | _,_,0,_=>.nil
 | _,_,_ + 1,.nil=>.nil
 | _,_,n + 1,.cons r t=>.cons r (Vals.take n t)
theorem Vals.drop:∀ {xs:List V} {us:List Value} (n:Nat),Vals xs us→Vals (xs.drop n) (us.drop n)
 | _,_,0,r=>r
 | _,_,_ + 1,.nil=>.nil
 | _,_,n + 1,.cons _ t=>Vals.drop n t
def RelO:Option V→Option Value→Prop
 | some v,some u=>RelV v u
 | none,none=>True
 | _,_=>False
def KV {κ:Type}:List (κ × V)→List (κ × Value)→Prop:=Paired fun (p:κ × V) (q:κ × Value)=>p.1=q.1∧RelV p.2 q.2
def kV:Key→V
 | .inl i=>.int i
 | .inr x=>.str x
inductive HO where
 | lst (xs:List V)
 | tup (xs:List V)
 | dK (kvs:List (Key × V)) | dT (kvs:List (List Key × V))
 | set (S:Int→Bool) (n:Nat)
 | ins (C dx:Addr) (fs:List (Str × V))
 | own (x:Addr)
 | xd (fs:List (Str × V))
 | met (f x:Addr)
 | rng (lo hi:Int)
 | frz (o:Obj) (u:HO)
 | tbl (ps:Array Value)
 | ext (φ:Heap→Prop)
abbrev Hp:=Addr→Option HO
def upd (H:Hp) (a:Addr) (o:HO):Hp:=fun b=>if b=a then some o else H b
theorem upd_same {H:Hp} {a:Addr} {o:HO}:upd H a o a=some o:=by unfold upd;rw [if_pos rfl]
theorem upd_ne {H:Hp} {a b:Addr} {o:HO} (h:b≠a):upd H a o b=H b:=by unfold upd;rw [if_neg h]
theorem upd_upd {H:Hp} {a:Addr} {o u:HO}:upd (upd H a o) a u=upd H a u:=by
 funext b;unfold upd;split <;> rfl
theorem ne_of {H:Hp} {a b:Addr} {o u:HO} (h:H a=some o) (h':H b=some u) (d:o≠u):a≠b:=by
 intro e;subst e;rw [h] at h';exact d (Option.some.inj h')
theorem ne_of_none {H:Hp} {a b:Addr} {o:HO} (h:H a=some o) (h':H b=none):a≠b:=by
 intro e;subst e;rw [h] at h';cases h'
section
variable (P:Program) (w:World)
def ObjOk (H:Hp) (h:Heap) (a:Addr):HO→Prop
 | .lst xs=>xs.length≤sizeLine∧∃ (its:List Value) (n:Nat),Vals xs its∧h.get? a=some { cls:=.type "list",data:=.seq its.toArray n }
 | .tup xs=>xs.length≤sizeLine∧∃ its:List Value,Vals xs its∧IsTup h a its.toArray
 | .dK kvs=>kvs.length≤sizeLine∧(a == sysModules)=false∧∃ vs,KV kvs vs∧h.DictOf (mixKind P w) a vs
 | .dT kvs=>kvs.length≤sizeLine∧(a == sysModules)=false∧∃ xs:List (List Key × Addr × Value),
   Paired (fun (p:List Key × V) (q:List Key × Addr × Value)=>p.1=q.1∧H q.2.1=some (.tup (p.1.map kV))∧RelV p.2 q.2.2) kvs xs ∧
   ∃ o es ep,h.get? a=some o∧o.ExactDict∧o.data=.dict es ep∧es.toList=xs.map (entryOfKey (tupleKind (mixKind P w)))∧(xs.map (·.1)).Nodup
 | .set S n=>h.SetOf (intKind P w) a S n
 | .ins C dx fs=>H dx=some (.own a)∧fs.length≤1000∧dx≠a∧h.get? a=some (PySem.W.instObj C dx) ∧
   ∃ mA,h.Ns1 dx mA∧(∀ f,RelO (fs.lookup f) (mA f))∧PySem.Within mA (fs.map (·.1))
 | .own _=>∃ o,h.get? a=some o
 | .xd fs=>∃ mA,h.Ns1 a mA∧∀ f,RelO (fs.lookup f) (mA f)
 | .rng lo hi=>∃ t u v,h.get? a=some { cls:=.type "range",data:=.fields #[.int lo t,.int hi u,.int 1 v] }
 | .frz o u=>h.get? a=some o∧ObjOk H h a u
 | .tbl ps=>h.get? a=some { cls:=.none,data:=.fields ps }
 | .met f x=>h.get? a=some (PySem.W.methodObj (.ref f) (.ref x))
 | .ext φ=>φ h∧(∃ o,h.get? a=some o)∧∀ h1 h2:Heap,φ h1→(∀ o,h1.get? a=some o→h2.get? a=some o)→φ h2
def HOk (H:Hp) (h:Heap):Prop:=∀ a o,H a=some o→ObjOk P w H h a o
end
section
variable {P:Program} {w:World} {H H':Hp} {h h':Heap} {a:Addr} {o:HO}
theorem ObjOk.lt (x:ObjOk P w H h a o):a < h.objs.size:=by
 refine zh0 ?_;simp (disch:=k_dflt (
 refine zh2 ?_
 cases o with
 | lst xs=>obtain ⟨_,_,_,_,e⟩:=x;exact Heap.lt_size e
 | tup xs=>obtain ⟨_,_,_,p⟩:=x;exact p.lt
 | dK kvs=>obtain ⟨_,_,_,_,o,_,_,e,_⟩:=x;exact Heap.lt_size e
 | dT kvs=>obtain ⟨_,_,_,_,o,_,_,e,_⟩:=x;exact Heap.lt_size e
 | set S n=>obtain ⟨o,_,_,_,e,_⟩:=x;exact Heap.lt_size e
 | ins C dx fs=>obtain ⟨_,_,_,e,_⟩:=x;exact Heap.lt_size e
 | own y=>obtain ⟨_,e⟩:=x;exact Heap.lt_size e
 | xd fs=>obtain ⟨_,⟨_,_,_,e,_⟩,_⟩:=x;exact Heap.lt_size e
 | rng lo hi=>obtain ⟨_,_,_,e⟩:=x;exact Heap.lt_size e
 | frz ob u=>obtain ⟨e,_⟩:=x;exact Heap.lt_size e
 | tbl ps=>exact Heap.lt_size (show h.get? a=some _ from x)
 | met f y=>exact Heap.lt_size (show h.get? a=some _ from x)
 | ext φ=>obtain ⟨_,⟨_,e⟩,_⟩:=x;exact Heap.lt_size e)) only [↓zh1]
theorem Paired.mapP {α β:Type} {F G:α→β→Prop}:∀ {l₁:List α} {l₂:List β},Paired F l₁ l₂→(∀ a b,F a b→G a b)→Paired G l₁ l₂
 | _,_,.nil,_=>.nil
 | _,_,.cons r t,f=>.cons (f _ _ r) (Paired.mapP t f)
theorem ObjOk.stay (x:ObjOk P w H h a o) (k:∀ b u,(b=a∨H b=some (.own a))→h.get? b=some u→h'.get? b=some u)
  (ho:∀ b,H b=some (.own a)→H' b=some (.own a)) (ht:∀ b xs,H b=some (.tup xs)→H' b=some (.tup xs)):ObjOk P w H' h' a o:=by
 refine zh0 ?_;simp (disch:=k_dflt (
 refine zh2 ?_
 induction o with
 | lst xs=>obtain ⟨z,its,n,r,e⟩:=x;exact ⟨z,its,n,r,k _ _ (.inl rfl) e⟩
 | tup xs=>obtain ⟨z,its,r,ob,e,c⟩:=x;exact ⟨z,its,r,ob,k _ _ (.inl rfl) e,c⟩
 | dK kvs=>obtain ⟨z,y,vs,r,ob,es,ep,e,c⟩:=x;exact ⟨z,y,vs,r,ob,es,ep,k _ _ (.inl rfl) e,c⟩
 | dT kvs =>
  obtain ⟨z,y,xs,r,ob,es,ep,e,c⟩:=x
  exact ⟨z,y,xs,Paired.mapP r fun p q z=>⟨z.1,ht _ _ z.2.1,z.2.2⟩,ob,es,ep,k _ _ (.inl rfl) e,c⟩
 | set S n=>obtain ⟨ob,es,ep,t,e,c⟩:=x;exact ⟨ob,es,ep,t,k _ _ (.inl rfl) e,c⟩
 | ins C dx fs =>
  obtain ⟨d,z,ne,e,mA,⟨od,es,ep,e2,c⟩,r⟩:=x
  exact ⟨ho _ d,z,ne,k _ _ (.inl rfl) e,mA,⟨od,es,ep,k _ _ (.inr d) e2,c⟩,r⟩
 | own y=>obtain ⟨ob,e⟩:=x;exact ⟨ob,k _ _ (.inl rfl) e⟩
 | xd fs=>obtain ⟨mA,⟨od,es,ep,e,c⟩,r⟩:=x;exact ⟨mA,⟨od,es,ep,k _ _ (.inl rfl) e,c⟩,r⟩
 | rng lo hi=>obtain ⟨t,u,v,e⟩:=x;exact ⟨t,u,v,k _ _ (.inl rfl) e⟩
 | frz ob u ih=>obtain ⟨e,q⟩:=x;exact ⟨k _ _ (.inl rfl) e,ih q⟩
 | tbl ps =>
  have e:h.get? a=some { cls:=.none,data:=.fields ps }:=x
  show h'.get? a=some { cls:=.none,data:=.fields ps }
  exact k a _ (.inl rfl) e
 | met f y =>
  have e:h.get? a=some (PySem.W.methodObj (.ref f) (.ref y)):=x
  show h'.get? a=some (PySem.W.methodObj (.ref f) (.ref y))
  exact k a _ (.inl rfl) e
 | ext φ=>obtain ⟨p,⟨o,e⟩,st⟩:=x;exact ⟨st _ _ p fun o q=>k _ _ (.inl rfl) q,⟨o,k _ _ (.inl rfl) e⟩,st⟩)) only [↓zh1]
theorem HOk.lt (x:HOk P w H h) (e:H a=some o):a < h.objs.size:=(x a o e).lt
theorem HOk.fresh (x:HOk P w H h) (e:h.objs.size≤a):H a=none:=by
 cases q:H a with
 | none=>rfl
 | some u=>exact absurd (Nat.lt_of_lt_of_le (x.lt q) e) (Nat.lt_irrefl _)
theorem HOk.kept (x:HOk P w H h) (k:∀ b u,h.get? b=some u→h'.get? b=some u):HOk P w H h':=fun a o e =>
 (x a o e).stay (fun b u _ q=>k b u q) (fun _ q=>q) fun _ _ q=>q
theorem HOk.laid (x:HOk P w H h) (k:∀ b u,h.get? b=some u→h'.get? b=some u) (hp:h.objs.size≤a) (new:ObjOk P w (upd H a o) h' a o):HOk P w (upd H a o) h':=fun b u e=>by
 have hn:=x.fresh hp
 by_cases hb:b=a
 ·subst hb;rw [upd_same] at e;cases e;exact new
 rw [upd_ne hb] at e
 exact (x b u e).stay (fun c v _ q=>k c v q) (fun c q=>by rw [upd_ne (ne_of_none q hn)];exact q) fun c xs q=>by rw [upd_ne (ne_of_none q hn)];exact q
end
def Rd (H:Hp) (a:Addr) (u:HO):Prop:=H a=some u∨∃ o,H a=some (.frz o u)
theorem Rd.ok {P:Program} {w:World} {H:Hp} {h:Heap} {a:Addr} {u:HO} (r:Rd H a u) (x:HOk P w H h):ObjOk P w H h a u:=by
 rcases r with r | ⟨o,r⟩
 ·exact x a u r
 obtain ⟨_,q⟩:=x a _ r
 exact q
def Mut:Option HO→Prop
 | some (.lst _)=>True
 | some (.dK _)=>True
 | some (.dT _)=>True
 | some (.set _ _)=>True
 | some (.ins _ _ _)=>True
 | some (.ext _)=>True
 | _=>False
section
variable {P:Program} {w:World} {H:Hp} {h h':Heap} {x e:Addr} {o':HO}
theorem HOk.write (ok:HOk P w H h) (mu:Mut (H x)) (he:e=x∨H e=some (.own x)) (k:∀ b u,b≠e→h.get? b=some u→h'.get? b=some u) (heo:∃ u,h'.get? e=some u)
  (new:ObjOk P w (upd H x o') h' x o'):HOk P w (upd H x o') h':=fun b u q=>by
 have nown:∀ c y,H c=some (.own y)→c≠x:=fun c y r z=>by subst z;rw [r] at mu;exact mu
 have ntup:∀ c xs,H c=some (.tup xs)→c≠x:=fun c xs r z=>by subst z;rw [r] at mu;exact mu
 by_cases hb:b=x
 ·subst hb;rw [upd_same] at q;cases q;exact new
 rw [upd_ne hb] at q
 by_cases hbe:b=e
 ·have q':H b=some (.own x):=by
   rcases he with z | z
   ·exact absurd (hbe.trans z) hb
   rw [hbe];exact z
  rw [q] at q';cases q'
  obtain ⟨v,hv⟩:=heo
  exact ⟨v,by rw [hbe];exact hv⟩
 refine (ok b u q).stay (fun c v hc r=>k c v ?_ r) (fun c r=>by rw [upd_ne (nown c b r)];exact r) fun c xs r=>by rw [upd_ne (ntup c xs r)];exact r
 rcases hc with rfl | hc
 ·exact hbe
 rintro rfl
 rcases he with z | z
 ·exact nown c b hc z
 rw [hc] at z;cases z;exact hb rfl
end
structure Un (fs ex:List Addr) (H H':Hp) (h h':Heap):Prop where
 keep:∀ b o,h.get? b=some o→H b=none→b ∉ fs→b ∉ ex→h'.get? b=some o
 slot:∀ b o,h.get? b=some o→H b=none→b∈fs→b ∉ ex→∃ sl,h'.get? b=some { o with slots:=sl }
 free:∀ b o,h.get? b=some o→H b=none→b ∉ ex→H' b=none
 there:∀ b o,h.get? b=some o→b ∉ ex→∃ o',h'.get? b=some o'
 tups:∀ b xs,H b=some (.tup xs)→H' b=some (.tup xs)
 frzs:∀ b o u,H b=some (.frz o u)→H' b=some (.frz o u)
 tbls:∀ b ps,H b=some (.tbl ps)→∃ more,H' b=some (.tbl (ps++more))
section
variable {fs fs' ex ex':List Addr} {H H1 H2:Hp} {h h1 h2 h':Heap} {a x e:Addr} {o:HO}
theorem Un.any (u:Un fs ex H H1 h h1) {b:Addr} {ob:Obj} (q:h.get? b=some ob) (n:H b=none) (hx:b ∉ ex):∃ sl,h1.get? b=some { ob with slots:=sl }:=by
 by_cases hb:b∈fs
 ·exact u.slot b ob q n hb hx
 exact ⟨ob.slots,u.keep b ob q n hb hx⟩
theorem Un.kept (k:∀ b u,h.get? b=some u→h'.get? b=some u):Un fs ex H H h h' :=
 ⟨fun b ob q _ _ _=>k b ob q,fun b ob q _ _ _=>⟨ob.slots,k b ob q⟩,fun _ _ _ n _=>n,fun b ob q _=>⟨ob,k b ob q⟩,fun _ _ q=>q,fun _ _ _ q=>q,fun _ ps q=>⟨#[],by rw [q];simp⟩⟩
theorem Un.refl:Un fs ex H H h h:=Un.kept fun _ _ q=>q
theorem Un.laid (k:∀ b u,h.get? b=some u→h'.get? b=some u) (hp:h.objs.size≤a) (hn:H a=none):Un fs ex H (upd H a o) h h' where
 keep:=fun b u q _ _ _=>k b u q
 slot:=fun b u q _ _ _=>⟨u.slots,k b u q⟩
 free:=fun b u q n _=>by rw [upd_ne (Nat.ne_of_lt (Nat.lt_of_lt_of_le (Heap.lt_size q) hp))];exact n
 there:=fun b u q _=>⟨u,k b u q⟩
 tups:=fun b xs q=>by rw [upd_ne (ne_of_none q hn)];exact q
 frzs:=fun b u xs q=>by rw [upd_ne (ne_of_none q hn)];exact q
 tbls:=fun b ps q=>⟨#[],by rw [upd_ne (ne_of_none q hn),q];simp⟩
theorem Un.write (mu:Mut (H x)) (he:e=x∨H e=some (.own x)) (k:∀ b u,b≠e→h.get? b=some u→h'.get? b=some u) (heo:∃ u,h'.get? e=some u):Un fs ex H (upd H x o) h h':=by
 refine zh0 ?_;simp (disch:=k_dflt (
 refine zh2 ?_
 have hx:∀ b,H b=none→b≠x:=fun b n z=>by subst z;rw [n] at mu;exact mu
 have hb:∀ b,H b=none→b≠e:=fun b n z=>by
  subst z
  rcases he with r | r
  ·exact hx b n r
  rw [n] at r;cases r
 have hm:∀ b u,H b=some u→¬ Mut (some u)→b≠x:=fun b u q nm z=>by subst z;rw [q] at mu;exact nm mu
 refine ⟨fun b u q n _ _=>k b u (hb b n) q,fun b u q n _ _=>⟨u.slots,k b u (hb b n) q⟩,fun b u q n _=>by rw [upd_ne (hx b n)];exact n,fun b u q _=>?_,
  fun b xs q=>by rw [upd_ne (hm b _ q fun z=>z)];exact q,fun b u xs q=>by rw [upd_ne (hm b _ q fun z=>z)];exact q,fun b ps q=>⟨#[],by rw [upd_ne (hm b _ q fun z=>z),q];simp⟩⟩
 by_cases hbe:b=e
 ·subst hbe;exact heo
 exact ⟨u,k b u hbe q⟩)) only [↓zh1]
end
def trk (h:Heap) (H:Hp):List Addr:=(List.range h.objs.size).filter fun a=>(H a).isSome
def hidT (h:Heap) (H:Hp):Heap:=PySem.W.hideAll h (trk h H)
theorem hidT_size (h:Heap) (H:Hp):(hidT h H).objs.size=h.objs.size:=PySem.W.hideAll_size _ _
theorem hidT_get {h:Heap} {H:Hp} {b:Addr} {o:Obj} (e:h.get? b=some o) (n:H b=none):(hidT h H).get? b=some o :=
 PySem.W.hideAll_get _ e fun hm=>by
  have q:(H b).isSome=true:=(List.mem_filter.mp hm).2
  rw [n] at q;simp at q
theorem of_hidT {h:Heap} {H:Hp} {b:Addr} {o:Obj} (e:(hidT h H).get? b=some o):h.get? b=some o∧H b=none:=by
 refine zh0 ?_;simp (disch:=k_dflt (
 refine zh2 ?_
 have e':h.get? b=some o:=PySem.W.of_hideAll (trk h H) e
 refine ⟨e',?_⟩
 cases q:H b with
 | none=>rfl
 | some x =>
  have hm:b∈trk h H:=List.mem_filter.mpr ⟨List.mem_range.mpr (Heap.lt_size e'),by simp [q]⟩
  have z:(hidT h H).get? b=none:=PySem.W.hideAll_none (trk h H) hm
  rw [z] at e;cases e)) only [↓zh1]
end L2
namespace L2
open PySem PySem.Spec PyProof.Rows
structure Mod (K:PySem.W.Frag) (mg:Str→Option Value) (base:Heap):Prop where
 kin:K.In base
 glob:base.Ns mainGlobals mg
 blt:∃ mb,base.Ns builtinsNs mb∧∀ x:Str,x≠"__name__"→mb x=bootBuiltins x
 nolimit:base.NoLimit
structure Cx where
 prog:Program
 w:World
 K:PySem.W.Frag
 mg:Str→Option Value
 base:Heap
 A:Around
 N:List Str
 s_0:Shared
 H_0:Hp
 env:Env
 outer:List Env
 stack:List Env
 ex:List Addr
 fn:Str→Bool
 calm:Bool
 pn:List (Addr × Obj)
 xe:Value→Shared→Prop
def frs (l:List Env):List Addr:=l.filterMap (·.frame)
abbrev Cx.fs (X:Cx):List Addr:=frs X.outer
def Vis (sc:Scope) (x:Str):Prop:=sc.names.lookup x=some .local∨sc.names.lookup x=some .cell∨sc.names.lookup x=some .free
def Loc (sc:Scope) (x:Str):Prop:=sc.names.lookup x=some .local∨sc.names.lookup x=some .cell
def Look (env:Env) (h:Heap) (m:Str→Option Value) (x:Str) (u:Value):Prop :=
 (env.kindOf x=some .local∧m x=some u)∨((env.kindOf x=some .cell∨env.kindOf x=some .free)∧∃ c,env.cells.lookup x=some c∧h.IsCell c (some u))
structure Cx.Ok (X:Cx):Prop where
 mod:Mod X.K X.mg X.base
 kind:X.env.scope.kind=.function
 glob:X.env.globals=mainGlobals
 blt:X.env.builtins=builtinsNs
 above:X.s_0.heap.objs.size≤X.env.locals
 inj:∀ x y c,X.env.cells.lookup x=some c→X.env.cells.lookup y=some c→x=y
 has:∀ x,(X.env.kindOf x=some .cell∨X.env.kindOf x=some .free)→∃ c,X.env.cells.lookup x=some c
 cab:∀ x c,X.fn x=true→X.env.cells.lookup x=some c→X.s_0.heap.objs.size≤c
 hd:X.calm=true→X.A.handled=none
 frames:X.A.frames=some X.stack
 stk:X.stack=X.outer∨(X.stack=X.env :: X.outer∧X.env.frame=some X.env.locals)
 exf:∀ b∈X.ex,b≠X.env.locals∧∀ x c,X.env.cells.lookup x=some c→c≠b
 bs:∀ b o,X.base.get? b=some o→X.s_0.heap.get? b=some o∧X.H_0 b=none
 bsz:X.base.objs.size≤X.s_0.heap.objs.size
 noex:∀ b o,X.base.get? b=some o→b ∉ X.ex
 exfs:∀ b∈X.ex,b ∉ X.fs
 funs:X.s_0.heap.FunFrames X.base X.outer
 frf:∀ b∈X.fs,X.H_0 b=none
structure Inv (X:Cx) (pins:List (Addr × Obj)) (σ:List (Option V)) (H:Hp) (s:Shared):Prop where
 ok:X.Ok
 os:s.os=X.s_0.os
 bare:AllBare s.gens
 base:Un X.fs X.ex X.H_0 H X.s_0.heap s.heap
 loc:∃ m,s.heap.Ns X.env.locals m∧∀ (i:Nat) (x:Str) (v:V),X.N[i]?=some x→σ[i]?=some (some v)→Vis X.env.scope x→∃ u,RelV v u∧Look X.env s.heap m x u
 cell:∀ x c,X.env.cells.lookup x=some c→∃ v,s.heap.IsCell c v
 free:H X.env.locals=none
 freeC:∀ x c,X.env.cells.lookup x=some c→H c=none
 pin:∀ p∈X.pn++pins,s.heap.get? p.1=some p.2∧H p.1=none∧p.1≠X.env.locals∧p.1 ∉ X.fs∧∀ v,p.2.data≠.cell v
 hok:HOk X.prog X.w H s.heap
 len:σ.length=X.N.length
section
variable {X:Cx} {pins:List (Addr × Obj)} {σ:List (Option V)} {H H':Hp} {s:Shared} {h':Heap}
theorem Cx.Ok.nofr (ok:X.Ok) {b:Addr} {o:Obj} (e:X.base.get? b=some o):b ∉ X.fs:=fun hb=>by
 have:=(ok.funs.mem hb).1
 rw [e] at this;cases this
theorem Inv.bs (I:Inv X pins σ H s):∀ b o,X.base.get? b=some o→s.heap.get? b=some o∧H b=none:=fun b o e =>
 ⟨I.base.keep b o (I.ok.bs b o e).1 (I.ok.bs b o e).2 (I.ok.nofr e) (I.ok.noex b o e),I.base.free b o (I.ok.bs b o e).1 (I.ok.bs b o e).2 (I.ok.noex b o e)⟩
theorem Inv.bk (I:Inv X pins σ H s):∀ b o,X.base.get? b=some o→s.heap.get? b=some o:=fun b o e=>(I.bs b o e).1
theorem Inv.mod (I:Inv X pins σ H s):Mod X.K X.mg X.base:=I.ok.mod
theorem Inv.kIn (I:Inv X pins σ H s):X.K.In s.heap:=I.ok.mod.kin.keeps I.bk
theorem Inv.lt (I:Inv X pins σ H s):X.env.locals < s.heap.objs.size:=let ⟨_,hn,_⟩:=I.loc;hn.lt
theorem Inv.sz (I:Inv X pins σ H s):X.s_0.heap.objs.size≤s.heap.objs.size:=Nat.le_trans I.ok.above (Nat.le_of_lt I.lt)
theorem Inv.nofs (I:Inv X pins σ H s) {a:Addr} (h:s.heap.objs.size≤a):a ∉ X.fs:=fun hb=>by
 obtain ⟨_,o,ho,_⟩:=I.ok.funs.mem hb
 exact absurd (Nat.lt_of_lt_of_le (Heap.lt_size ho) (Nat.le_trans I.sz h)) (Nat.lt_irrefl _)
theorem Inv.cne (I:Inv X pins σ H s):∀ x c,X.env.cells.lookup x=some c→c≠X.env.locals:=fun x c e z=>by
 obtain ⟨v,o,ho,hd⟩:=I.cell x c e
 obtain ⟨m,⟨o',es,ep,ho',hd',_⟩,_⟩:=I.loc
 rw [z,ho'] at ho;cases ho;rw [hd'] at hd;cases hd
theorem Inv.funs (I:Inv X pins σ H s):s.heap.FunFrames X.base X.outer:=by
 refine zh0 ?_;simp (disch:=k_dflt (
 refine zh2 ?_
 have all:∀ (l:List Env),(∀ b∈frs l,b∈X.fs)→X.s_0.heap.FunFrames X.base l→s.heap.FunFrames X.base l:=by
  intro l
  induction l with
  | nil=>intro _ _;trivial
  | cons env r ih =>
   intro hs hl
   obtain ⟨hk,⟨L,o,hf,hn,ho,hd⟩,hr⟩:=hl
   have hL:L∈X.fs:=hs L (by unfold frs;rw [List.filterMap_cons,hf];exact List.mem_cons_self)
   obtain ⟨sl,e⟩:=I.base.slot L o ho (I.ok.frf L hL) hL fun z=>I.ok.exfs L z hL
   exact ⟨hk,⟨L,_,hf,hn,e,hd⟩,ih (fun b hb=>hs b (by unfold frs;rw [List.filterMap_cons,hf];exact List.mem_cons_of_mem _ hb)) hr⟩
 exact all X.outer (fun _ hb=>hb) I.ok.funs)) only [↓zh1]
theorem Inv.stack (I:Inv X pins σ H s):s.heap.FunFrames X.base X.stack:=by
 rcases I.ok.stk with e | ⟨e,hf⟩
 ·rw [e];exact I.funs
 rw [e]
 obtain ⟨m,hn,_⟩:=I.loc
 refine .cons (by rw [I.ok.kind];decide) hf hn ?_ I.funs
 exact Heap.get?_none_of_le (Nat.le_trans I.ok.bsz I.ok.above)
theorem Inv.stkSub (I:Inv X pins σ H s):∀ b∈frs X.stack,b∈X.env.locals :: X.fs:=fun b hb=>by
 rcases I.ok.stk with e | ⟨e,hf⟩
 ·rw [e] at hb;exact List.mem_cons_of_mem _ hb
 rw [e] at hb
 unfold frs at hb
 rw [List.filterMap_cons,hf] at hb
 exact hb
theorem Inv.stkFree (I:Inv X pins σ H s):∀ b∈frs X.stack,H b=none:=fun b hb=>by
 rcases List.mem_cons.mp (I.stkSub b hb) with e | hb
 ·rw [e];exact I.free
 obtain ⟨_,o,ho,_⟩:=I.ok.funs.mem hb
 exact I.base.free b o ho (I.ok.frf b hb) fun z=>I.ok.exfs b z hb
theorem Inv.step {g':Array GenState} {t':Nat} {d':Drawn} {ch:List Addr} (I:Inv X pins σ H s)
  (hch:∀ b∈ch,(b∈X.ex∨X.s_0.heap.objs.size≤b)∧b≠X.env.locals∧(∀ x c,X.env.cells.lookup x=some c→c≠b)∧∀ p∈X.pn++pins,p.1≠b)
  (keep:∀ b o,b≠X.env.locals→b ∉ X.fs→b ∉ ch→s.heap.get? b=some o→H b=none→h'.get? b=some o)
  (slot:∀ b o,b≠X.env.locals→b∈X.fs→b ∉ ch→s.heap.get? b=some o→H b=none→∃ sl,h'.get? b=some { o with slots:=sl }) (free:∀ b o,b ∉ ch→s.heap.get? b=some o→H b=none→H' b=none)
  (there:∀ b o,b ∉ ch→s.heap.get? b=some o→∃ o',h'.get? b=some o')
  (tups:∀ b xs,H b=some (.tup xs)→H' b=some (.tup xs)) (frzs:∀ b o u,H b=some (.frz o u)→H' b=some (.frz o u)) (tbls:∀ b ps,H b=some (.tbl ps)→∃ more,H' b=some (.tbl (ps++more)))
  (ns:∀ m,s.heap.Ns X.env.locals m→h'.Ns X.env.locals m) (hok:HOk X.prog X.w H' h') (hg:AllBare g') :
  Inv X pins σ H' { s with heap:=h',gens:=g',drawn:=d',toks:=t' }:=by
 refine zh0 ?_;simp (disch:=k_dflt (
 refine zh2 ?_
 have neL:∀ b o,X.s_0.heap.get? b=some o→b≠X.env.locals:=fun b o e=>Nat.ne_of_lt (Nat.lt_of_lt_of_le (Heap.lt_size e) I.ok.above)
 have neC:∀ b o,X.s_0.heap.get? b=some o→b ∉ X.ex→b ∉ ch:=fun b o e hx hb=>by
  rcases (hch b hb).1 with z | z
  ·exact hx z
  exact absurd (Nat.lt_of_lt_of_le (Heap.lt_size e) z) (Nat.lt_irrefl _)
 have cellK:∀ x c,X.env.cells.lookup x=some c→∀ v,s.heap.IsCell c v→h'.IsCell c v:=fun x c e v ⟨o,ho,hd⟩=>by
  have nch:c ∉ ch:=fun z=>(hch c z).2.2.1 x c e rfl
  by_cases hc:c∈X.fs
  ·obtain ⟨sl,q⟩:=slot c o (I.cne x c e) hc nch ho (I.freeC x c e)
   exact ⟨_,q,hd⟩
  exact ⟨o,keep c o (I.cne x c e) hc nch ho (I.freeC x c e),hd⟩
 refine ⟨I.ok,I.os,hg,⟨fun b o e n hb hx=>?_,fun b o e n hb hx=>?_,fun b o e n hx=>?_,fun b o e hx=>?_,fun b xs e=>tups b xs (I.base.tups b xs e),fun b o xs e=>frzs b o xs (I.base.frzs b o xs e),fun b ps e=>?_⟩,?_,fun x c e=>?_,?_,fun x c e=>?_,fun p hp=>?_,hok,I.len⟩
 ·exact keep b o (neL b o e) hb (neC b o e hx) (I.base.keep b o e n hb hx) (I.base.free b o e n hx)
 ·obtain ⟨sl,e1⟩:=I.base.slot b o e n hb hx
  obtain ⟨sl',e2⟩:=slot b _ (neL b o e) hb (neC b o e hx) e1 (I.base.free b o e n hx)
  exact ⟨sl',e2⟩
 ·obtain ⟨o',e1⟩:=I.base.there b o e hx
  exact free b o' (neC b o e hx) e1 (I.base.free b o e n hx)
 ·obtain ⟨o',e1⟩:=I.base.there b o e hx
  exact there b o' (neC b o e hx) e1
 ·obtain ⟨m1,e1⟩:=I.base.tbls b ps e
  obtain ⟨m2,e2⟩:=tbls b _ e1
  exact ⟨m1++m2,by rw [e2,Array.append_assoc]⟩
 ·obtain ⟨m,hn,hl⟩:=I.loc
  refine ⟨m,ns m hn,fun i x v e1 e2 e3=>?_⟩
  obtain ⟨u,r,l⟩:=hl i x v e1 e2 e3
  refine ⟨u,r,?_⟩
  rcases l with l | ⟨k,c,e,z⟩
  ·exact .inl l
  exact .inr ⟨k,c,e,cellK x c e _ z⟩
 ·obtain ⟨v,z⟩:=I.cell x c e
  exact ⟨v,cellK x c e v z⟩
 ·obtain ⟨m,⟨o,_,_,ho,_⟩,_⟩:=I.loc
  exact free _ o (fun z=>(hch _ z).2.1 rfl) ho I.free
 ·obtain ⟨v,o,ho,hd⟩:=I.cell x c e
  exact free c o (fun z=>(hch c z).2.2.1 x c e rfl) ho (I.freeC x c e)
 obtain ⟨e,n,ne,nf,d⟩:=I.pin p hp
 have nch:p.1 ∉ ch:=fun z=>(hch p.1 z).2.2.2 p hp rfl
 exact ⟨keep p.1 p.2 ne nf nch e n,free p.1 p.2 nch e n,ne,nf,d⟩)) only [↓zh1]
theorem Inv.un {t':Nat} (I:Inv X pins σ H s) (u:Un X.fs [] H H' s.heap h') (hok:HOk X.prog X.w H' h'):Inv X pins σ H' { s with heap:=h',toks:=t' }:=by
 refine zh0 ?_;simp (disch:=k_dflt (
 refine zh2 ?_
 obtain ⟨m,⟨o,es,ep,ho,r⟩,_⟩:=id I.loc
 obtain ⟨sl,hL⟩:=u.any ho I.free (by simp)
 exact I.step (g':=s.gens) (d':=s.drawn) (ch:=[]) (fun _ z=>nomatch z) (fun b o _ hb _ e n=>u.keep b o e n hb (by simp)) (fun b o _ hb _ e n=>u.slot b o e n hb (by simp)) (fun b o _ e n=>u.free b o e n (by simp)) (fun b o _ e=>u.there b o e (by simp)) u.tups u.frzs u.tbls (fun m' hm=>by
  obtain ⟨o',es',ep',ho',r'⟩:=hm
  rw [ho] at ho';cases ho'
  exact ⟨_,es',ep',hL,r'⟩) hok I.bare)) only [↓zh1]
theorem Inv.call {g':Array GenState} {t':Nat} {d':Drawn} {ch:List Addr} (I:Inv X pins σ H s) (u:Un (frs X.stack) ch H H' s.heap h') (hok:HOk X.prog X.w H' h') (hg:AllBare g')
  (hch:∀ b∈ch,(b∈X.ex∨X.s_0.heap.objs.size≤b)∧b≠X.env.locals∧(∀ x c,X.env.cells.lookup x=some c→c≠b)∧∀ p∈X.pn++pins,p.1≠b) :
  Inv X pins σ H' { s with heap:=h',gens:=g',drawn:=d',toks:=t' }:=by
 refine zh0 ?_;simp (disch:=k_dflt (
 refine zh2 ?_
 obtain ⟨m,⟨o,es,ep,ho,r⟩,_⟩:=id I.loc
 obtain ⟨sl,hL⟩:=u.any ho I.free fun z=>(hch _ z).2.1 rfl
 exact I.step (ch:=ch) hch (fun b o hL hb hc e n=>u.keep b o e n (fun z=>(List.mem_cons.mp (I.stkSub b z)).elim hL hb) hc) (fun b o _ _ hc e n=>u.any e n hc) (fun b o hc e n=>u.free b o e n hc) (fun b o hc e=>u.there b o e hc) u.tups u.frzs u.tbls (fun m' hm=>by
  obtain ⟨o',es',ep',ho',r'⟩:=hm
  rw [ho] at ho';cases ho'
  exact ⟨_,es',ep',hL,r'⟩) hok hg)) only [↓zh1]
theorem Inv.turned {t':Nat} {it:Addr} (I:Inv X pins σ H s) (k:∀ b o,b≠it→s.heap.get? b=some o→h'.get? b=some o) (hn:H it=none) (hL:it≠X.env.locals)
  (h1:it∈X.ex∨X.s_0.heap.objs.size≤it) (h2:∀ x c,X.env.cells.lookup x=some c→c≠it) (h3:∀ p∈X.pn++pins,p.1≠it):Inv X pins σ H { s with heap:=h',toks:=t' }:=by
 refine zh0 ?_;simp (disch:=k_dflt (
 refine zh2 ?_
 have nit:∀ b u,H b=some u→b≠it:=fun b u e z=>by rw [z,hn] at e;cases e
 refine I.step (g':=s.gens) (d':=s.drawn) (ch:=[it]) (fun b hb=>?_) (fun b o _ _ hc e _=>k b o (fun z=>hc (by simp [z])) e) (fun b o _ _ hc e _=>⟨o.slots,k b o (fun z=>hc (by simp [z])) e⟩) (fun _ _ _ _ n=>n)
  (fun b o hc e=>⟨o,k b o (fun z=>hc (by simp [z])) e⟩) (fun _ _ e=>e) (fun _ _ _ e=>e) (fun b ps e=>⟨#[],by rw [e];simp⟩) (fun m hm=>?_) (fun b u e=>?_) I.bare
 ·have e:b=it:=by simpa using hb
  subst e
  exact ⟨h1,hL,h2,h3⟩
 ·obtain ⟨o,es,ep,ho,r⟩:=hm
  exact ⟨o,es,ep,k _ o (Ne.symm hL) ho,r⟩
 refine (I.hok b u e).stay (fun c v hc q=>k c v ?_ q) (fun _ q=>q) fun _ _ q=>q
 rcases hc with z | z
 ·rw [z];exact nit b u e
 exact nit c _ z)) only [↓zh1]
theorem Inv.tok (I:Inv X pins σ H s) (t:Nat):Inv X pins σ H { s with toks:=t }:=I.un (h':=s.heap) (t':=t) Un.refl I.hok
theorem Inv.kept {t':Nat} (I:Inv X pins σ H s) (k:∀ b u,s.heap.get? b=some u→h'.get? b=some u):Inv X pins σ H { s with heap:=h',toks:=t' }:=I.un (Un.kept k) (I.hok.kept k)
theorem Inv.laid {a:Addr} {o:HO} {t':Nat} (I:Inv X pins σ H s) (k:∀ b u,s.heap.get? b=some u→h'.get? b=some u) (hp:s.heap.objs.size≤a) (new:ObjOk X.prog X.w (upd H a o) h' a o) :
  Inv X pins σ (upd H a o) { s with heap:=h',toks:=t' }:=I.un (Un.laid k hp (I.hok.fresh hp)) (I.hok.laid k hp new)
theorem Inv.write {x e:Addr} {o:HO} {t':Nat} (I:Inv X pins σ H s) (mu:Mut (H x)) (he:e=x∨H e=some (.own x)) (k:∀ b u,b≠e→s.heap.get? b=some u→h'.get? b=some u) (heo:∃ u,h'.get? e=some u)
  (new:ObjOk X.prog X.w (upd H x o) h' x o):Inv X pins σ (upd H x o) { s with heap:=h',toks:=t' }:=I.un (Un.write mu he k heo) (I.hok.write mu he k heo new)
theorem Inv.weak {σ':List (Option V)} (I:Inv X pins σ H s) (hl:σ'.length=σ.length) (w:∀ (i:Nat) v,σ'[i]?=some (some v)→σ[i]?=some (some v)):Inv X pins σ' H s :=
 ⟨I.ok,I.os,I.bare,I.base,let ⟨m,hn,hl'⟩:=I.loc;⟨m,hn,fun i x v e1 e2 e3=>hl' i x v e1 (w i v e2) e3⟩,I.cell,I.free,I.freeC,I.pin,I.hok,hl.trans I.len⟩
theorem Inv.pins_of {pins':List (Addr × Obj)} (I:Inv X pins σ H s) (h:∀ p∈pins',s.heap.get? p.1=some p.2∧H p.1=none∧p.1≠X.env.locals∧p.1 ∉ X.fs∧∀ v,p.2.data≠.cell v):Inv X pins' σ H s :=
 ⟨I.ok,I.os,I.bare,I.base,I.loc,I.cell,I.free,I.freeC,fun p hp=>(List.mem_append.mp hp).elim (fun z=>I.pin p (List.mem_append_left _ z)) (h p),I.hok,I.len⟩
theorem nodup_ix {N:List Str} (hN:N.Nodup) {i j:Nat} {x:Str} (a:N[i]?=some x) (b:N[j]?=some x):i=j:=by
 obtain ⟨h1,e1⟩:=List.getElem?_eq_some_iff.mp a
 obtain ⟨h2,e2⟩:=List.getElem?_eq_some_iff.mp b
 exact (List.getElem_inj hN).mp (e1.trans e2.symm)
theorem store_ok2 {M:Model} {A:Around} {E:Value→Shared→Prop} {i:Nat} {x:Str} {v:V} {u:Value} {Q:Unit→Shared→Prop} (I:Inv X pins σ H s) (hN:X.N.Nodup) (hi:X.N[i]?=some x) (hx:Loc X.env.scope x) (r:RelV v u)
  (h:∀ s',Inv X pins (σ.set i (some v)) H s'→(∃ a,Heap.SameBut a s.heap s'.heap∧(a=X.env.locals∨X.env.cells.lookup x=some a))→Q () s') (hf:X.fn x=true∨X.env.scope.names.lookup x=some .local:=by first | exact .inl rfl | exact .inr rfl | assumption):wpAny M A (storeName X.env x u) Q E s:=by
 refine zh0 ?_;simp (disch:=k_dflt (
 refine zh2 ?_
 obtain ⟨m,hn,hl⟩:=id I.loc
 have hcls:(X.env.scope.kind == .class || (X.env.scope.kind == .module && X.env.locals != X.env.globals))=false:=by rw [I.ok.kind];rfl
 have hiσ:i < σ.length:=by rw [I.len];exact (List.getElem?_eq_some_iff.mp hi).1
 have cne:=I.cne
 have tracked:∀ {a:Addr} {h':Heap},(∃ o,s.heap.get? a=some o∧H a=none)→Heap.SameBut a s.heap h'→HOk X.prog X.w H h':=fun {a h'} ha hs b ob e=>by
  obtain ⟨_,_,hfree⟩:=ha
  refine (I.hok b ob e).stay (fun c w' hc q=>(hs.2 c ?_).trans q) (fun _ q=>q) fun _ _ q=>q
  rintro rfl
  rcases hc with rfl | hc
  ·rw [hfree] at e;cases e
  rw [hfree] at hc;cases hc
 rcases hx with hk | hk
 ·refine wpAny_storeName_local hk hn (fun h' hn' hs=>?_) hcls
  obtain ⟨oL,_,_,hoL,_⟩:=id hn
  refine h _ ⟨I.ok,I.os,I.bare,⟨fun b o e n hb hx=>?_,fun b o e n hb hx=>?_,I.base.free,fun b o e hx=>?_,I.base.tups,I.base.frzs,I.base.tbls⟩,⟨_,hn',fun j y v' e1 e2 e3=>?_⟩,fun y c e=>?_,I.free,I.freeC,fun p hp=>?_,tracked ⟨oL,hoL,I.free⟩ hs,by simpa using I.len⟩ ⟨_,hs,.inl rfl⟩
  ·exact (hs.2 b (Nat.ne_of_lt (Nat.lt_of_lt_of_le (Heap.lt_size e) I.ok.above))).trans (I.base.keep b o e n hb hx)
  ·obtain ⟨sl,e1⟩:=I.base.slot b o e n hb hx
   exact ⟨sl,(hs.2 b (Nat.ne_of_lt (Nat.lt_of_lt_of_le (Heap.lt_size e) I.ok.above))).trans e1⟩
  ·obtain ⟨o',e1⟩:=I.base.there b o e hx
   exact ⟨o',(hs.2 b (Nat.ne_of_lt (Nat.lt_of_lt_of_le (Heap.lt_size e) I.ok.above))).trans e1⟩
  ·by_cases hj:j=i
   ·subst hj
    rw [hi] at e1;cases e1
    rw [List.getElem?_set_self hiσ] at e2
    cases e2
    exact ⟨u,r,.inl ⟨hk,by simp⟩⟩
   rw [List.getElem?_set_ne (Ne.symm hj)] at e2
   obtain ⟨u',r',q⟩:=hl j y v' e1 e2 e3
   refine ⟨u',r',?_⟩
   rcases q with ⟨k,e⟩ | ⟨k,c,e,z⟩
   ·refine .inl ⟨k,?_⟩
    have:y≠x:=fun e=>hj (nodup_ix hN e1 (e ▸ hi))
    simp [this,e]
   exact .inr ⟨k,c,e,z.sameBut hs (cne y c e)⟩
  ·obtain ⟨w',z⟩:=I.cell y c e
   exact ⟨w',z.sameBut hs (cne y c e)⟩
  obtain ⟨e,n,ne,nf,d⟩:=I.pin p hp
  exact ⟨(hs.2 p.1 ne).trans e,n,ne,nf,d⟩
 have hfn:X.fn x=true:=by
  rcases hf with z | z
  ·exact z
  rw [z] at hk;cases hk
 obtain ⟨c,hc⟩:=I.ok.has x (.inl hk)
 obtain ⟨w',z⟩:=I.cell x c hc
 refine wpAny_storeName_cell I.ok.kind hk hc z (fun h' hc' hs=>?_)
 obtain ⟨oc,hoc,hocd⟩:=id z
 refine h { s with heap:=h' } ⟨I.ok,I.os,I.bare,⟨fun b o e n hb hx=>?_,fun b o e n hb hx=>?_,I.base.free,fun b o e hx=>?_,I.base.tups,I.base.frzs,I.base.tbls⟩,⟨m,hn.sameBut hs (Ne.symm (cne x c hc)),fun j y v' e1 e2 e3=>?_⟩,fun y c' e=>?_,I.free,I.freeC,fun p hp=>?_,tracked ⟨oc,hoc,I.freeC x c hc⟩ hs,by simpa using I.len⟩ ⟨c,hs,.inr hc⟩
 ·exact (hs.2 b (Nat.ne_of_lt (Nat.lt_of_lt_of_le (Heap.lt_size e) (I.ok.cab x c hfn hc)))).trans (I.base.keep b o e n hb hx)
 ·obtain ⟨sl,e1⟩:=I.base.slot b o e n hb hx
  exact ⟨sl,(hs.2 b (Nat.ne_of_lt (Nat.lt_of_lt_of_le (Heap.lt_size e) (I.ok.cab x c hfn hc)))).trans e1⟩
 ·obtain ⟨o',e1⟩:=I.base.there b o e hx
  exact ⟨o',(hs.2 b (Nat.ne_of_lt (Nat.lt_of_lt_of_le (Heap.lt_size e) (I.ok.cab x c hfn hc)))).trans e1⟩
 ·by_cases hj:j=i
  ·subst hj
   rw [hi] at e1;cases e1
   rw [List.getElem?_set_self hiσ] at e2
   cases e2
   exact ⟨u,r,.inr ⟨.inl hk,c,hc,hc'⟩⟩
  rw [List.getElem?_set_ne (Ne.symm hj)] at e2
  obtain ⟨u',r',q⟩:=hl j y v' e1 e2 e3
  refine ⟨u',r',?_⟩
  rcases q with q | ⟨k,c',e,z'⟩
  ·exact .inl q
  refine .inr ⟨k,c',e,z'.sameBut hs ?_⟩
  rintro rfl
  exact hj (nodup_ix hN e1 (I.ok.inj _ _ _ e hc ▸ hi))
 ·by_cases hcc:c'=c
  ·subst hcc;exact ⟨_,hc'⟩
  obtain ⟨w2,z2⟩:=I.cell y c' e
  exact ⟨w2,z2.sameBut hs hcc⟩
 obtain ⟨e,n,ne,nf,d⟩:=I.pin p hp
 refine ⟨(hs.2 p.1 ?_).trans e,n,ne,nf,d⟩
 intro q
 rw [q,hoc] at e
 have q':oc=p.2:=Option.some.inj e
 exact d w' (by rw [← q'];exact hocd))) only [↓zh1]
theorem store_ok {M:Model} {A:Around} {E:Value→Shared→Prop} {i:Nat} {x:Str} {v:V} {u:Value} {Q:Unit→Shared→Prop} (I:Inv X pins σ H s) (hN:X.N.Nodup) (hi:X.N[i]?=some x) (hx:Loc X.env.scope x) (r:RelV v u)
  (h:∀ s',Inv X pins (σ.set i (some v)) H s'→Q () s') (hf:X.fn x=true∨X.env.scope.names.lookup x=some .local:=by first | exact .inl rfl | exact .inr rfl | assumption):wpAny M A (storeName X.env x u) Q E s :=
 store_ok2 I hN hi hx r (fun s' I' _=>h s' I') hf
theorem Inv.call' {s':Shared} {ch:List Addr} (I:Inv X pins σ H s) (ho:s'.os=s.os) (u:Un (frs X.stack) ch H H' s.heap s'.heap) (hok:HOk X.prog X.w H' s'.heap) (hg:AllBare s'.gens)
  (hch:∀ b∈ch,(b∈X.ex∨X.s_0.heap.objs.size≤b)∧b≠X.env.locals∧(∀ x c,X.env.cells.lookup x=some c→c≠b)∧∀ p∈X.pn++pins,p.1≠b):Inv X pins σ H' s':=by
 obtain ⟨h',g',d',t',o'⟩:=s'
 have e:o'=s.os:=ho
 subst e
 exact I.call (g':=g') (t':=t') (d':=d') u hok hg hch
end
abbrev XK:=Value→Option Addr→Hp→Prop
abbrev St:=List (Option V)
abbrev VK:=V→Hp→Prop
abbrev TE:=St→Hp→VK→Prop
abbrev TT:=St→Hp→(Bool→Hp→Prop)→Prop
abbrev TA:=St→Hp→(List V→Hp→Prop)→Prop
structure Ends where
 nx:St→Hp→Prop
 rt:VK
 bk:St→Hp→Prop:=fun _ _=>False
 ct:St→Hp→Prop:=fun _ _=>False
abbrev TS:=Ends→St→Hp→Prop
def EP (X:Cx) (pins:List (Addr × Obj)) (σ:St) (Q:VK) (u:Value) (s':Shared):Prop:=∃ v H',Inv X pins σ H' s'∧RelV v u∧Q v H'
def TP (X:Cx) (pins:List (Addr × Obj)) (σ:St) (Q:Bool→Hp→Prop) (b:Bool) (s':Shared):Prop:=∃ H',Inv X pins σ H' s'∧Q b H'
def AP (X:Cx) (pins:List (Addr × Obj)) (σ:St) (Q:List V→Hp→Prop) (us:List Value) (s':Shared):Prop:=∃ vs H',Inv X pins σ H' s'∧Vals vs us∧Q vs H'
def SP (X:Cx) (pins:List (Addr × Obj)) (D:Ends) (f:Flow) (s':Shared):Prop :=
 match f with
 | .next=>∃ σ' H',Inv X pins σ' H' s'∧D.nx σ' H'
 | .brk=>∃ σ' H',Inv X pins σ' H' s'∧D.bk σ' H'
 | .cont=>∃ σ' H',Inv X pins σ' H' s'∧D.ct σ' H'
 | .ret u=>∃ v σ' H',Inv X pins σ' H' s'∧RelV v u∧D.rt v H'
def PE (X:Cx) (e:Expr) (t:TE):Prop :=
 ∀ (pins:List (Addr × Obj)) (s:Shared) (σ:St) (H:Hp) (Q:VK),Inv X pins σ H s→t σ H Q→wpAny (model X.prog X.w) X.A (eval e X.env) (EP X pins σ Q) X.xe s
def PT (X:Cx) (e:Expr) (t:TT):Prop :=
 ∀ (pins:List (Addr × Obj)) (s:Shared) (σ:St) (H:Hp) (Q:Bool→Hp→Prop),Inv X pins σ H s→t σ H Q→wpAny (model X.prog X.w) X.A (isTrue e X.env (eval e X.env)) (TP X pins σ Q) X.xe s
def PW (X:Cx) (e:Expr) (t:TT):Prop :=
 ∀ (whole:Sem Value) (pins:List (Addr × Obj)) (s:Shared) (σ:St) (H:Hp) (Q:Bool→Hp→Prop),Inv X pins σ H s→t σ H Q→wpAny (model X.prog X.w) X.A (isTrue e X.env whole) (TP X pins σ Q) X.xe s
theorem PW.pt {X:Cx} {e:Expr} {t:TT} (h:PW X e t):PT X e t:=h _
def PA (X:Cx) (es:List Expr) (t:TA):Prop :=
 ∀ (pos:Pos) (pins:List (Addr × Obj)) (s:Shared) (σ:St) (H:Hp) (Q:List V→Hp→Prop),Inv X pins σ H s→t σ H Q→wpAny (model X.prog X.w) X.A (spliced (backTo pos (starEach es X.env))) (AP X pins σ Q) X.xe s
def PS (X:Cx) (st:Stmt) (t:TS):Prop :=
 ∀ (pins:List (Addr × Obj)) (s:Shared) (σ:St) (H:Hp) (D:Ends),Inv X pins σ H s→t D σ H→wpAny (model X.prog X.w) X.A (exec st X.env) (SP X pins D) X.xe s
def PSs (X:Cx) (st:List Stmt) (t:TS):Prop :=
 ∀ (pins:List (Addr × Obj)) (s:Shared) (σ:St) (H:Hp) (D:Ends),Inv X pins σ H s→t D σ H→wpAny (model X.prog X.w) X.A (execs st X.env) (SP X pins D) X.xe s
theorem thn {α:Type} {t:Sem α} {Q Q':α→Shared→Prop} {M:Model} {A:Around} {E:Value→Shared→Prop} {s:Shared} (h:wpAny M A t Q E s) (hQ:∀ a s,Q a s→Q' a s):wpAny M A t Q' E s:=wpAny_mono h hQ fun _ _ x=>x
end L2
namespace L2
open PySem PySem.Spec PyProof.Rows
section
variable {X:Cx}
def tVar (i:Nat):TE:=fun σ H Q=>∃ v,σ[i]?=some (some v)∧Q v H
def tC (v:V):TE:=fun _ H Q=>Q v H
theorem pe_var {i:Nat} {x:Str} {pos:Pos} (hN:X.N[i]?=some x) (hv:Vis X.env.scope x) (hd:(x == ("__debug__":Str))=false:=by decide) (hcd:(x == ("__classdict__":Str))=false:=by decide):PE X (.Name x pos) (tVar i):=by
 refine zh0 ?_;simp (disch:=k_dflt (
 refine zh2 ?_
 intro pins s σ H Q I h
 obtain ⟨v,e,h⟩:=h
 obtain ⟨m,hn,hl⟩:=I.loc
 obtain ⟨u,r,l⟩:=hl i x v hN e hv
 have fin:EP X pins σ Q u s:=⟨v,H,I,r,h⟩
 rcases l with ⟨hk,hm⟩ | ⟨hk,c,hc,hcell⟩
 ·exact wpAny_Name (wpAny_loadName_local I.ok.kind hk hn hm fin) hd
 rcases hk with hk | hk
 ·exact wpAny_Name (wpAny_loadName_cell I.ok.kind hk hc hcell fin) hd
 exact wpAny_Name (wpAny_loadName_free I.ok.kind hk hc hcell fin hcd) hd)) only [↓zh1]
theorem pe_int {i j pos}:PE X (.Constant (.int i) j pos) (tC (.int i)):=fun _ _ _ H _ I h=>wpAny_Constant_int ⟨.int i,H,I.tok _,⟨_,rfl⟩,h⟩
theorem pe_bl {b j pos}:PE X (.Constant (.bool b) j pos) (tC (.bl b)):=fun _ _ _ H _ I h=>Constant_bool ⟨.bl b,H,I,rfl,h⟩
theorem pe_non {j pos}:PE X (.Constant .none j pos) (tC .non):=fun _ _ _ H _ I h=>Constant_none ⟨.non,H,I,rfl,h⟩
def Gl (X:Cx) (x:Str):Prop:=X.env.kindOf x=some .globalImplicit
theorem ld_glob {E:Value→Shared→Prop} {pins:List (Addr × Obj)} {s:Shared} {σ:St} {H:Hp} {x:Str} {u:Value} {pos:Pos} {Q:Value→Shared→Prop} (I:Inv X pins σ H s) (hg:Gl X x) (hm:X.mg x=some u) (h:Q u s)
  (hd:(x == ("__debug__":Str))=false:=by decide):wpAny (model X.prog X.w) X.A (eval (.Name x pos) X.env) Q E s :=
 Calls.Name_function_global I.ok.kind hg (Calls.loadGlobal_global (by rw [I.ok.glob];exact I.mod.glob.keeps I.bk) hm h) hd
theorem ld_blt {E:Value→Shared→Prop} {pins:List (Addr × Obj)} {s:Shared} {σ:St} {H:Hp} {x:Str} {u:Value} {pos:Pos} {Q:Value→Shared→Prop} (I:Inv X pins σ H s) (hg:Gl X x) (hm:X.mg x=none) (hv:bootBuiltins x=some u) (h:Q u s)
  (hn:x≠"__name__":=by decide) (hd:(x == ("__debug__":Str))=false:=by decide):wpAny (model X.prog X.w) X.A (eval (.Name x pos) X.env) Q E s:=by
 obtain ⟨mb,h1,h2⟩:=I.mod.blt
 exact Calls.Name_function_global I.ok.kind hg (Calls.loadGlobal_builtin (by rw [I.ok.glob];exact I.mod.glob.keeps I.bk) hm (by rw [I.ok.blt];exact h1.keeps I.bk) ((h2 x hn).trans hv) h) hd
theorem pe_glob {x:Str} {v:V} {u:Value} {pos:Pos} (hg:Gl X x) (hm:X.mg x=some u) (r:RelV v u) (hd:(x == ("__debug__":Str))=false:=by decide):PE X (.Name x pos) (tC v) :=
 fun _ _ _ H _ I h=>ld_glob I hg hm ⟨v,H,I,r,h⟩ hd
variable {a b:Expr} {ta tb:TE} {pos:Pos}
def tB (t:TE):TT:=fun σ H Q=>t σ H fun x H1=>∃ c,x=.bl c∧Q c H1
theorem pt_val {e:Expr} {t:TE} (h:PE X e t) (he:∀ whole,isTrue e X.env whole=(do let v ← whole;standAt e.pos;holding [v] (truthy v)):=by intro _;rfl):PT X e (tB t):=by
 intro pins s σ H Q I hw
 refine isTrue_plain (thn (h pins s σ H _ I hw) fun v s1 ⟨x,H1,I1,r1,q1⟩=>?_) (he _)
 obtain ⟨d,rfl,q⟩:=q1
 cases r1
 exact wpAny_truthy_bool ⟨H1,I1,q⟩
variable {tA tB':TT} {rest:List Expr}
def tAnd (t u:TT):TT:=fun σ H Q=>t σ H fun c H1=>if c=true then u σ H1 Q else Q false H1
def tOr (t u:TT):TT:=fun σ H Q=>t σ H fun c H1=>if c=true then Q true H1 else u σ H1 Q
def tNot (t:TT):TT:=fun σ H Q=>t σ H fun c H1=>Q (!c) H1
theorem pw_and1 (ha:PT X a tA):PW X (.BoolOp .And [a] pos) tA:=by
 intro wh pins s σ H Q I h
 refine isTrue_and (thn (ha pins s σ H Q I h) fun c s1 e=>?_)
 cases c with
 | true=>exact isTrue_and_nil e
 | false=>exact e
theorem pw_or1 (ha:PT X a tA):PW X (.BoolOp .Or [a] pos) tA:=by
 intro wh pins s σ H Q I h
 refine isTrue_or (thn (ha pins s σ H Q I h) fun c s1 e=>?_)
 cases c with
 | false=>exact isTrue_or_nil e
 | true=>exact e
theorem pw_and (ha:PT X a tA) (hb:PW X (.BoolOp .And (b :: rest) pos) tB'):PW X (.BoolOp .And (a :: b :: rest) pos) (tAnd tA tB'):=by
 intro wh pins s σ H Q I h
 refine isTrue_and (thn (ha pins s σ H _ I h) fun c s1 ⟨H1,I1,q1⟩=>?_)
 cases c with
 | true=>exact hb wh pins s1 σ H1 Q I1 q1
 | false=>exact ⟨H1,I1,q1⟩
theorem pw_or (ha:PT X a tA) (hb:PW X (.BoolOp .Or (b :: rest) pos) tB'):PW X (.BoolOp .Or (a :: b :: rest) pos) (tOr tA tB'):=by
 intro wh pins s σ H Q I h
 refine isTrue_or (thn (ha pins s σ H _ I h) fun c s1 ⟨H1,I1,q1⟩=>?_)
 cases c with
 | true=>exact ⟨H1,I1,q1⟩
 | false=>exact hb wh pins s1 σ H1 Q I1 q1
theorem pt_not (ha:PT X a tA):PT X (.UnaryOp .Not a pos) (tNot tA):=by
 intro pins s σ H Q I h
 exact isTrue_not (ha pins s σ H (fun c H1=>Q (!c) H1) I h)
def tAndV (ta tb:TE):TE:=fun σ H Q=>ta σ H fun x H1=>∃ c,x=.bl c∧if c=true then tb σ H1 Q else Q (.bl false) H1
def tOrV (ta tb:TE):TE:=fun σ H Q=>ta σ H fun x H1=>∃ c,x=.bl c∧if c=true then Q (.bl true) H1 else tb σ H1 Q
def tNotV (ta:TE):TE:=fun σ H Q=>ta σ H fun x H1=>∃ c,x=.bl c∧Q (.bl (!c)) H1
theorem pe_one {op} {t:TE} (h:PE X a t):PE X (.BoolOp op [a] pos) t:=fun pins s σ H Q I hw=>BoolOp_one (h pins s σ H Q I hw)
theorem pe_and (ha:PE X a ta) (hb:PE X (.BoolOp .And (b :: rest) pos) tb):PE X (.BoolOp .And (a :: b :: rest) pos) (tAndV ta tb):=by
 refine zh0 ?_;simp (disch:=k_dflt (
 refine zh2 ?_
 intro pins s σ H Q I h
 refine BoolOp_and (thn (ha pins s σ H _ I h) fun v s1 ⟨x,H1,I1,r1,q1⟩=>?_)
 obtain ⟨c,rfl,q1⟩:=q1
 cases r1
 refine wpAny_truthy_bool ?_
 cases c with
 | true=>exact hb pins s1 σ H1 Q I1 q1
 | false=>exact ⟨.bl false,H1,I1,rfl,q1⟩)) only [↓zh1]
theorem pe_or (ha:PE X a ta) (hb:PE X (.BoolOp .Or (b :: rest) pos) tb):PE X (.BoolOp .Or (a :: b :: rest) pos) (tOrV ta tb):=by
 refine zh0 ?_;simp (disch:=k_dflt (
 refine zh2 ?_
 intro pins s σ H Q I h
 refine BoolOp_or (thn (ha pins s σ H _ I h) fun v s1 ⟨x,H1,I1,r1,q1⟩=>?_)
 obtain ⟨c,rfl,q1⟩:=q1
 cases r1
 refine wpAny_truthy_bool ?_
 cases c with
 | false=>exact hb pins s1 σ H1 Q I1 q1
 | true=>exact ⟨.bl true,H1,I1,rfl,q1⟩)) only [↓zh1]
theorem pe_not (ha:PE X a ta):PE X (.UnaryOp .Not a pos) (tNotV ta):=by
 intro pins s σ H Q I h
 refine UnaryOp_ (thn (ha pins s σ H _ I h) fun v s1 ⟨x,H1,I1,r1,q1⟩=>?_)
 obtain ⟨c,rfl,q1⟩:=q1
 cases r1
 exact not_of (wpAny_truthy_bool ⟨.bl (!c),H1,I1,rfl,q1⟩)
end
end L2
namespace L2
open PySem PySem.Spec PyProof.Rows
def SqL (K:PySem.W.Frag) (H:Hp) (a:Addr) (xs:List V):Prop :=
 Rd H a (.lst xs) ∨
  ∃ (o:Obj) (its:Array Value) (n:Nat),K.lookup a=some o∧o.cls=.type "list"∧o.dict=none∧o.data=.seq its n∧its.size≤sizeLine∧Vals xs its.toList
def SqT (K:PySem.W.Frag) (H:Hp) (a:Addr) (xs:List V):Prop :=
 Rd H a (.tup xs) ∨
  ∃ (o:Obj) (its:Array Value) (n:Nat),K.lookup a=some o∧o.cls=.type "tuple"∧o.data=.seq its n∧its.size≤sizeLine∧Vals xs its.toList
def absV:Value→Option V
 | .none=>some .non
 | .bool b=>some (.bl b)
 | .int i _=>some (.int i)
 | .str x _=>some (.str x)
 | .bytes b _=>some (.byt b)
 | .float b _=>some (.flt b)
 | .ref a=>some (.ref a)
 | .type n=>some (.ty n)
 | _=>none
theorem RelV.abs {x:V} {u:Value} (r:RelV x u):absV u=some x:=by
 refine zh0 ?_;simp (disch:=k_dflt (
 refine zh2 ?_
 cases x with
 | non=>cases r;rfl
 | bl _=>cases r;rfl
 | int _=>obtain ⟨t,rfl⟩:=r;rfl
 | str _=>obtain ⟨t,rfl⟩:=r;rfl
 | byt _=>obtain ⟨t,rfl⟩:=r;rfl
 | flt _=>obtain ⟨t,rfl⟩:=r;rfl
 | ref _=>cases r;rfl
 | ty _=>cases r;rfl)) only [↓zh1]
theorem RelV.inj {x y:V} {u:Value} (r:RelV x u) (q:RelV y u):x=y:=Option.some.inj (r.abs.symm.trans q.abs)
theorem Vals.inj:∀ {xs ys:List V} {us:List Value},Vals xs us→Vals ys us→xs=ys
 | _,_,_,.nil,.nil=>rfl
 | _,_,_,.cons r t,.cons r' t'=>by rw [r.inj r',Vals.inj t t']
section
variable {X:Cx} {pins:List (Addr × Obj)} {σ:St} {H:Hp} {s:Shared} {a:Addr} {xs ys:List V}
theorem SqL.of {K:PySem.W.Frag} (h:H a=some (.lst xs)):SqL K H a xs:=.inl (.inl h)
theorem Inv.list (I:Inv X pins σ H s) (h:SqL X.K H a xs):∃ its:List Value,Vals xs its∧PlainL s.heap a its.toArray∧xs.length≤sizeLine:=by
 refine zh0 ?_;simp (disch:=k_dflt (
 refine zh2 ?_
 rcases h with h | ⟨o,its,n,hk,hc,hd,hs,hz,r⟩
 ·obtain ⟨z,its,n,r,e⟩:=h.ok I.hok
  exact ⟨its,r,⟨_,n,e,rfl,rfl,rfl⟩,z⟩
 refine ⟨its.toList,r,⟨o,n,I.kIn a o hk,hc,hd,by simpa using hs⟩,?_⟩
 have e:=r.length
 simp only [Array.length_toList] at e
 omega)) only [↓zh1]
theorem Inv.tuple (I:Inv X pins σ H s) (h:SqT X.K H a xs):∃ its:List Value,Vals xs its∧IsTup s.heap a its.toArray∧xs.length≤sizeLine:=by
 refine zh0 ?_;simp (disch:=k_dflt (
 refine zh2 ?_
 rcases h with h | ⟨o,its,n,hk,hc,hs,hz,r⟩
 ·obtain ⟨z,its,r,p⟩:=h.ok I.hok
  exact ⟨its,r,p,z⟩
 refine ⟨its.toList,r,⟨o,I.kIn a o hk,hc,n,by simpa using hs⟩,?_⟩
 have e:=r.length
 simp only [Array.length_toList] at e
 omega)) only [↓zh1]
theorem Inv.list_inj (I:Inv X pins σ H s) (h:SqL X.K H a xs) (h':SqL X.K H a ys):xs=ys:=by
 refine zh0 ?_;simp (disch:=k_dflt (
 refine zh2 ?_
 obtain ⟨its,r,⟨o,n,e,_,_,d⟩,_⟩:=I.list h
 obtain ⟨its',r',⟨o',n',e',_,_,d'⟩,_⟩:=I.list h'
 rw [e] at e';cases e'
 rw [d] at d'
 injection d' with d1 _
 have:its=its':=by simpa using congrArg Array.toList d1
 subst this
 exact r.inj r')) only [↓zh1]
theorem Inv.tuple_inj (I:Inv X pins σ H s) (h:SqT X.K H a xs) (h':SqT X.K H a ys):xs=ys:=by
 refine zh0 ?_;simp (disch:=k_dflt (
 refine zh2 ?_
 obtain ⟨its,r,⟨o,e,_,n,d⟩,_⟩:=I.tuple h
 obtain ⟨its',r',⟨o',e',_,n',d'⟩,_⟩:=I.tuple h'
 rw [e] at e';cases e'
 rw [d] at d'
 injection d' with d1 _
 have:its=its':=by simpa using congrArg Array.toList d1
 subst this
 exact r.inj r')) only [↓zh1]
end
abbrev Cx.wish (X:Cx) (E:Value→Shared→Prop):Cx:={ X with xe:=E }
abbrev Cx.nox (X:Cx):Cx:=X.wish fun _ _=>False
theorem Cx.Ok.wish {X:Cx} (ok:X.Ok) (E:Value→Shared→Prop):(X.wish E).Ok :=
 ⟨ok.mod,ok.kind,ok.glob,ok.blt,ok.above,ok.inj,ok.has,ok.cab,ok.hd,ok.frames,ok.stk,ok.exf,ok.bs,ok.bsz,ok.noex,ok.exfs,ok.funs,ok.frf⟩
theorem Cx.Ok.unwish {X:Cx} {E:Value→Shared→Prop} (ok:(X.wish E).Ok):X.Ok :=
 ⟨ok.mod,ok.kind,ok.glob,ok.blt,ok.above,ok.inj,ok.has,ok.cab,ok.hd,ok.frames,ok.stk,ok.exf,ok.bs,ok.bsz,ok.noex,ok.exfs,ok.funs,ok.frf⟩
section
variable {X:Cx} {pins:List (Addr × Obj)} {σ:St} {H:Hp} {s:Shared} {E:Value→Shared→Prop}
theorem Inv.wish (I:Inv X pins σ H s) (E:Value→Shared→Prop):Inv (X.wish E) pins σ H s:=⟨I.ok.wish E,I.os,I.bare,I.base,I.loc,I.cell,I.free,I.freeC,I.pin,I.hok,I.len⟩
theorem Inv.unwish (I:Inv (X.wish E) pins σ H s):Inv X pins σ H s:=⟨I.ok.unwish,I.os,I.bare,I.base,I.loc,I.cell,I.free,I.freeC,I.pin,I.hok,I.len⟩
theorem SP.unwish {D:Ends} {f:Flow} {s':Shared} (h:SP (X.wish E) pins D f s'):SP X pins D f s':=by
 refine zh0 ?_;simp (disch:=k_dflt (
 refine zh2 ?_
 cases f with
 | next=>obtain ⟨σ',H',I,q⟩:=h;exact ⟨σ',H',I.unwish,q⟩
 | brk=>obtain ⟨σ',H',I,q⟩:=h;exact ⟨σ',H',I.unwish,q⟩
 | cont=>obtain ⟨σ',H',I,q⟩:=h;exact ⟨σ',H',I.unwish,q⟩
 | ret u=>obtain ⟨v,σ',H',I,r,q⟩:=h;exact ⟨v,σ',H',I.unwish,r,q⟩)) only [↓zh1]
theorem PSs.nox {st:List Stmt} {t:TS} (h:PSs X.nox st t):PSs X st t:=fun pins s σ H D I hw =>
 wpAny_mono (h pins s σ H D (I.wish _) hw) (fun _ _ q=>q.unwish) fun _ _ z=>False.elim z
end
section
variable {X:Cx} {st:Stmt} {rest:List Stmt} {t u:TS} {e:Expr} {te:TE} {pos:Pos}
def tNext:TS:=fun D σ H=>D.nx σ H
def tSeq (t u:TS):TS:=fun D σ H=>t { D with nx:=u D } σ H
theorem pss_nil:PSs X [] tNext:=fun _ _ σ H _ I h=>wpAny_execs_nil ⟨σ,H,I,h⟩
theorem pss_cons (h1:PS X st t) (h2:PSs X rest u):PSs X (st :: rest) (tSeq t u):=by
 refine zh0 ?_;simp (disch:=k_dflt (
 refine zh2 ?_
 intro pins s σ H D I h
 refine wpAny_execs_cons (thn (h1 pins s σ H { D with nx:=u D } I h) fun f s1 q=>?_)
 cases f with
 | next =>
  obtain ⟨σ',H',I',q⟩:=q
  exact h2 pins s1 σ' H' D I' q
 | ret v=>exact q
 | brk=>exact q
 | cont=>exact q)) only [↓zh1]
theorem pss_one (h1:PS X st t):PSs X [st] t:=by
 intro pins s σ H D I h
 refine wpAny_execs_cons (thn (h1 pins s σ H D I h) fun f s1 q=>?_)
 cases f with
 | next=>exact wpAny_execs_nil q
 | ret v=>exact q
 | brk=>exact q
 | cont=>exact q
theorem Inv.quiet {pins:List (Addr × Obj)} {σ:St} {H:Hp} {s:Shared} (I:Inv X pins σ H s):interactive X.env=false:=by simp [interactive,I.ok.kind]
def tDrop (te:TE):TS:=fun D σ H=>te σ H fun _ H1=>D.nx σ H1
theorem ps_expr (he:PE X e te) (hs:swapsWith e none pos.line X.env=pure false:=by rfl):PS X (.Expr e pos) (tDrop te):=by
 intro pins s σ H D I h
 exact wpAny_Expr_any (thn (he pins s σ H _ I h) fun v s1 ⟨x,H1,I1,r1,q1⟩=>⟨σ,H1,I1,q1⟩) I.quiet hs
def tRet (te:TE):TS:=fun D σ H=>te σ H D.rt
theorem ps_ret (he:PE X e te):PS X (.Return (some e) pos) (tRet te):=by
 intro pins s σ H D I h
 exact wpAny_Return_some (thn (he pins s σ H _ I h) fun v s1 ⟨x,H1,I1,r1,q1⟩=>⟨x,σ,H1,I1,r1,q1⟩)
def tRetN:TS:=fun D _ H=>D.rt .non H
theorem ps_retN:PS X (.Return none pos) tRetN:=fun _ _ σ H _ I h=>wpAny_Return_none ⟨.non,σ,H,I,rfl,h⟩
def tIfS (c:TT) (t u:TS):TS:=fun D σ H=>c σ H fun b H1=>if b=true then t D σ H1 else u D σ H1
theorem ps_if {c:Expr} {a b:List Stmt} {tc:TT} (hc:PT X c tc) (ha:PSs X a t) (hb:PSs X b u):PS X (.If c a b pos) (tIfS tc t u):=by
 intro pins s σ H D I h
 refine wpAny_If (thn (hc pins s σ H _ I h) fun d s1 ⟨H1,I1,q1⟩=>?_)
 cases d with
 | true=>exact ha pins s1 σ H1 D I1 q1
 | false=>exact hb pins s1 σ H1 D I1 q1
end
abbrev TG:=V→St→Hp→(St→Hp→Prop)→Prop
abbrev TGs:=List V→St→Hp→(St→Hp→Prop)→Prop
def PG (X:Cx) (target:Expr) (t:TG):Prop :=
 ∀ (pins:List (Addr × Obj)) (s:Shared) (σ:St) (H:Hp) (v:V) (u:Value) (Q:St→Hp→Prop),Inv X pins σ H s→RelV v u→t v σ H Q →
  wpAny (model X.prog X.w) X.A (assign target X.env u) (fun _ s'=>∃ σ' H',Inv X pins σ' H' s'∧Q σ' H') X.xe s
def PGs (X:Cx) (ts:List Expr) (t:TGs):Prop :=
 ∀ (pins:List (Addr × Obj)) (s:Shared) (σ:St) (H:Hp) (vs:List V) (us:List Value) (Q:St→Hp→Prop),Inv X pins σ H s→Vals vs us→t vs σ H Q →
  wpAny (model X.prog X.w) X.A (assignInOrder ((assignEach ts X.env).map (·.2)) us) (fun _ s'=>∃ σ' H',Inv X pins σ' H' s'∧Q σ' H') X.xe s
abbrev TSet:=V→V→V→Hp→(Hp→Prop)→Prop
def PSet (X:Cx) (t:TSet):Prop :=
 ∀ (pins:List (Addr × Obj)) (s:Shared) (σ:St) (H:Hp) (o i v:V) (ov iv u:Value) (Q:Hp→Prop),Inv X pins σ H s→RelV o ov→RelV i iv→RelV v u→t o i v H Q →
  wpAny (model X.prog X.w) X.A (setItem ov iv u) (fun _ s'=>∃ H',Inv X pins σ H' s'∧Q H') X.xe s
abbrev TIp:=V→V→Hp→VK→Prop
def PIp (X:Cx) (op:Operator) (t:TIp):Prop :=
 ∀ (pins:List (Addr × Obj)) (s:Shared) (σ:St) (H:Hp) (x y:V) (v u:Value) (Q:VK),Inv X pins σ H s→RelV x v→RelV y u→t x y H Q →
  wpAny (model X.prog X.w) X.A (inplaceOp op v u) (EP X pins σ Q) X.xe s
section
variable {X:Cx} {pos:Pos}
def gName (i:Nat):TG:=fun v σ H Q=>Q (σ.set i (some v)) H
theorem pg_name {i:Nat} {x:Str} (hN:X.N.Nodup) (hi:X.N[i]?=some x) (hx:Loc X.env.scope x) (hf:X.fn x=true∨X.env.scope.names.lookup x=some .local:=by first | exact .inl rfl | exact .inr rfl | assumption):PG X (.Name x pos) (gName i):=by
 intro pins s σ H v u Q I r h
 exact wpAny_assign_Name (store_ok I hN hi hx r (fun s' I'=>⟨_,H,I',h⟩) hf)
def gNil:TGs:=fun vs σ H Q=>vs=[]∧Q σ H
def gCons (t:TG) (u:TGs):TGs:=fun vs σ H Q=>∃ v r,vs=v :: r∧t v σ H fun σ' H'=>u r σ' H' Q
theorem pgs_nil:PGs X [] gNil:=by
 intro pins s σ H vs us Q I r h
 obtain ⟨e,h⟩:=h
 subst e
 cases r
 exact assignInOrder_nil ⟨σ,H,I,h⟩
theorem pgs_cons {e:Expr} {es:List Expr} {t:TG} {u:TGs} (h1:PG X e t) (h2:PGs X es u)
  (hs:(assignEach (e :: es) X.env).map (·.2)=assign e X.env :: (assignEach es X.env).map (·.2):=by rfl):PGs X (e :: es) (gCons t u):=by
 refine zh0 ?_;simp (disch:=k_dflt (
 refine zh2 ?_
 intro pins s σ H vs us Q I r h
 obtain ⟨v,vr,e1,h⟩:=h
 subst e1
 cases r with
 | cons r rr =>
  rw [hs]
  refine assignInOrder_cons (thn (h1 pins s σ H _ _ _ I r h) fun _ s1 ⟨σ1,H1,I1,q1⟩=>?_)
  exact h2 pins s1 σ1 H1 _ _ Q I1 rr q1)) only [↓zh1]
def gTup (K:PySem.W.Frag) (n:Nat) (t:TGs):TG:=fun v σ H Q=>∃ a xs,v=.ref a∧SqT K H a xs∧xs.length=n∧t xs σ H Q
theorem pg_tup {es:List Expr} {k:Nat} {t:TGs} {n:Nat} (hc:X.calm=true) (h:PGs X es t)
  (hn:(assignEach es X.env).length=n:=by rfl) (hst:(assignEach es X.env).findIdx? (·.1)=none:=by rfl):PG X (.Tuple es k pos) (gTup X.K n t):=by
 refine zh0 ?_;simp (disch:=k_dflt (
 refine zh2 ?_
 intro pins s σ H v u Q I r hw
 obtain ⟨a,xs,e1,hq,hl,hw⟩:=hw
 subst e1
 cases r
 obtain ⟨its,rv,ht,hz⟩:=I.tuple hq
 refine assign_Tuple_tuple (I.ok.hd hc) ht (by simp [hn,← hl,rv.length]) hst fun h' hx=>?_
 have I1:Inv X pins σ H { s with heap:=h' }:=I.kept (t':=s.toks) fun b o e=>hx b o (Nat.ne_of_lt (Heap.lt_size e)) e
 exact h pins _ σ H xs _ Q I1 (by simpa using rv) hw)) only [↓zh1]
def tAsg (te:TE) (g:TG):TS:=fun D σ H=>te σ H fun x H1=>g x σ H1 D.nx
theorem ps_set {i:Nat} {x:Str} {e:Expr} {te:TE} {pos':Pos} (hN:X.N.Nodup) (hi:X.N[i]?=some x) (hx:Loc X.env.scope x) (he:PE X e te) (hs:swapsWith e (some (.Name x pos')) pos.line X.env=pure false:=by rfl) (hf:X.fn x=true∨X.env.scope.names.lookup x=some .local:=by first | exact .inl rfl | exact .inr rfl | assumption) :
  PS X (.Assign [.Name x pos'] e pos) (tAsg te (gName i)):=by
 intro pins s σ H D I h
 refine wpAny_Assign_Name (thn (he pins s σ H _ I h) fun v s1 ⟨y,H1,I1,r1,q1⟩=>?_) hs
 exact store_ok I1 hN hi hx r1 (fun s2 I2=>⟨_,H1,I2,q1⟩) hf
def tAugS (to ti te:TE) (tget:V→V→Hp→VK→Prop) (tip:TIp) (tset:TSet):TS:=fun D σ H=>to σ H fun o H1=>ti σ H1 fun i H2=>tget o i H2 fun x H3=>te σ H3 fun y H4=>tip x y H4 fun z H5=>tset o i z H5 fun H6=>D.nx σ H6
def PGet (X:Cx) (t:V→V→Hp→VK→Prop):Prop :=
 ∀ (pins:List (Addr × Obj)) (s:Shared) (σ:St) (H:Hp) (o i:V) (ov iv:Value) (Q:VK),Inv X pins σ H s→RelV o ov→RelV i iv→t o i H Q →
  wpAny (model X.prog X.w) X.A (getItem ov iv) (EP X pins σ Q) X.xe s
theorem ps_augS {o i e:Expr} {to ti te:TE} {tget:V→V→Hp→VK→Prop} {tip:TIp} {tset:TSet} {op:Operator} {tpos:Pos} (ho:PE X o to) (hi:PE X i ti) (hg:PGet X tget) (he:PE X e te) (hp:PIp X op tip) (hs:PSet X tset)
  (ha:∀ ov iv new,augStore i ov iv new=(do holding [new,ov,iv] (setItem ov iv new);release [new,ov,iv] [];pure .next):=by intros;rfl):PS X (.AugAssign (.Subscript o i tpos) op e pos) (tAugS to ti te tget tip tset):=by
 refine zh0 ?_;simp (disch:=k_dflt (
 refine zh2 ?_
 intro pins s σ H D I h
 refine wpAny_AugAssign_SubscriptAny (thn (ho pins s σ H _ I h) fun ov s1 ⟨x1,H1,I1,r1,q1⟩=>?_) ha
 refine thn (hi pins s1 σ H1 _ I1 q1) fun iv s2 ⟨x2,H2,I2,r2,q2⟩=>?_
 refine thn (hg pins s2 σ H2 x1 x2 ov iv _ I2 r1 r2 q2) fun old s3 ⟨x3,H3,I3,r3,q3⟩=>?_
 refine thn (he pins s3 σ H3 _ I3 q3) fun v s4 ⟨x4,H4,I4,r4,q4⟩=>?_
 refine thn (hp pins s4 σ H4 x3 x4 old v _ I4 r3 r4 q4) fun new s5 ⟨x5,H5,I5,r5,q5⟩=>?_
 exact thn (hs pins s5 σ H5 x1 x2 x5 ov iv new _ I5 r1 r2 r5 q5) fun _ s6 ⟨H6,I6,q6⟩=>⟨σ,H6,I6,q6⟩)) only [↓zh1]
def ipI (f:Int→Int→Int):TIp:=fun x y H Q=>∃ i j,x=.int i∧y=.int j∧Q (.int (f i j)) H
theorem ip_sub:PIp X .Sub (ipI fun i j=>i - j):=by
 intro pins s σ H x y v u Q I r1 r2 h
 obtain ⟨i,j,e1,e2,q⟩:=h
 subst e1;subst e2
 obtain ⟨t,rfl⟩:=r1
 obtain ⟨t',rfl⟩:=r2
 exact isub_int ⟨.int _,H,I.tok _,⟨_,rfl⟩,q⟩
end
section
variable {X:Cx} {pos:Pos}
def tWhile (c:TT) (tb:TS):TS:=fun D σ H=>∃ W:Nat→St→Hp→Prop,(∃ m,W m σ H)∧∀ m σ H,W m σ H →
 c σ H fun b H1=>if b=true then ∃ N:St→Hp→Prop,(∀ σ' H',N σ' H'→∃ m',m' < m∧W m' σ' H')∧tb { D with nx:=N,ct:=N,bk:=D.nx } σ H1 else D.nx σ H1
theorem ps_while {c:Expr} {body:List Stmt} {tc:TT} {tb:TS} (hp:PassesOwn (model X.prog X.w) X.A X.env X.xe) (hc:PT X c tc) (hb:PSs X body tb):PS X (.While c body [] pos) (tWhile tc tb):=by
 refine zh0 ?_;simp (disch:=k_dflt (
 refine zh2 ?_
 intro pins s σ H D I h
 obtain ⟨W,⟨m0,w0⟩,turn⟩:=h
 refine wpAny_While (codeAny_whileLoop (fun n s'=>∃ σ' H',Inv X pins σ' H' s'∧W n σ' H') ?_ m0 ⟨σ,H,I,w0⟩)
 rintro n s1 ⟨σ1,H1,I1,w1⟩
 refine wpAny_passesOwn hp (thn (hc pins s1 σ1 H1 _ I1 (turn n σ1 H1 w1)) fun b s2 ⟨H2,I2,q2⟩=>?_)
 cases b with
 | true =>
  obtain ⟨N,hN,q2⟩:=q2
  rw [if_pos rfl]
  refine wpAny_passesOwn hp (thn (hb pins s2 σ1 H2 _ I2 q2) fun f s3 q3=>?_)
  cases f with
  | next =>
   obtain ⟨σ3,H3,I3,n3⟩:=q3
   obtain ⟨m',hm,w3⟩:=hN σ3 H3 n3
   exact ⟨m',hm,σ3,H3,I3,w3⟩
  | cont =>
   obtain ⟨σ3,H3,I3,n3⟩:=q3
   obtain ⟨m',hm,w3⟩:=hN σ3 H3 n3
   exact ⟨m',hm,σ3,H3,I3,w3⟩
  | brk=>exact q3
  | ret v=>exact q3
 | false =>
  rw [if_neg Bool.false_ne_true]
  exact wpAny_execs_nil ⟨σ1,H2,I2,q2⟩)) only [↓zh1]
end
structure It where
 go:Nat→Hp→Prop
 yld:Nat→Hp→V→Hp→Prop
 stop:Nat→Hp→Prop
def FpOk (X:Cx) (pins:List (Addr × Obj)) (H:Hp) (b:Addr):Prop :=
 H b=none∧b≠X.env.locals∧b ∉ X.fs∧(b∈X.ex∨X.s_0.heap.objs.size≤b)∧(∀ x c,X.env.cells.lookup x=some c→c≠b)∧∀ p∈X.pn++pins,p.1≠b
theorem Inv.fpOk {X:Cx} {pins:List (Addr × Obj)} {σ:St} {H H':Hp} {s:Shared} {b:Addr} (I:Inv X pins σ H s) (hb:s.heap.objs.size≤b) (hn:H' b=none):FpOk X pins H' b:=by
 refine zh0 ?_;simp (disch:=k_dflt (
 refine zh2 ?_
 refine ⟨hn,Nat.ne_of_gt (Nat.lt_of_lt_of_le I.lt hb),I.nofs hb,.inr (Nat.le_trans I.sz hb),fun x c e z=>?_,fun p hp z=>?_⟩
 ·obtain ⟨v,q⟩:=I.cell x c e
  exact absurd (Nat.lt_of_lt_of_le q.lt (by rw [z];exact hb)) (Nat.lt_irrefl _)
 exact absurd (Nat.lt_of_lt_of_le (Heap.lt_size (I.pin p hp).1) (by rw [z];exact hb)) (Nat.lt_irrefl _))) only [↓zh1]
structure Turn (P:Program) (w:World) (K:PySem.W.Frag) (tg:Expr) (J:It) (fp:List Addr) (it:Addr) (tn:Nat→Heap→Prop):Prop where
 mem:it∈fp
 obj:∀ i h,tn i h→∀ b∈fp,∃ o,h.get? b=some o∧∀ v,o.data≠.cell v
 keep:∀ i h h',tn i h→(∀ b∈fp,∀ o,h.get? b=some o→h'.get? b=some o)→tn i h'
 item:∀ (X:Cx),X.prog=P→X.w=w→X.K=K→X.calm=true→∀ (i:Nat) (pins:List (Addr × Obj)) (s:Shared) (σ:St) (H:Hp) (E:Value→Shared→Prop),Inv X pins σ H s→(∀ b∈fp,FpOk X pins H b)→tn i s.heap→J.go i H →
  wpAny (model P w) X.A (pyNext (.ref it)) (fun r s1=>∃ u,r=some u ∧
   wpAny (model P w) X.A (letOwnedTupleGo tg (.ref it) u) (fun _ s2=>∃ x H',Inv X pins σ H' s2∧RelV x u∧J.yld i H x H'∧tn (i + 1) s2.heap∧∀ b∈fp,H' b=none) E s1) E s
 done:∀ (X:Cx),X.prog=P→X.w=w→X.K=K→X.calm=true→∀ (i:Nat) (pins:List (Addr × Obj)) (s:Shared) (σ:St) (H:Hp) (E:Value→Shared→Prop),Inv X pins σ H s→(∀ b∈fp,FpOk X pins H b)→tn i s.heap→J.stop i H →
  wpAny (model P w) X.A (pyNext (.ref it)) (fun r s1=>r=none∧Inv X pins σ H s1) E s
 self:∀ (A:Around) (i:Nat) (s:Shared) (Q:Value→Shared→Prop) (E:Value→Shared→Prop),tn i s.heap→Q (.ref it) s→wpAny (model P w) A (pyIter (.ref it)) Q E s
abbrev TI:=St→Hp→(It→Hp→Prop)→Prop
def PIE (X:Cx) (pins:List (Addr × Obj)) (σ:St) (tg:Expr) (R:It→Hp→Prop) (itv:Value) (s2:Shared):Prop :=
 ∃ (it:Addr) (fp:List Addr) (tn:Nat→Heap→Prop) (J:It) (H':Hp),itv=.ref it∧Inv X pins σ H' s2∧Turn X.prog X.w X.K tg J fp it tn∧tn 0 s2.heap∧(∀ b∈fp,FpOk X pins H' b)∧R J H'
def PI (X:Cx) (tg iter:Expr) (wi:TI):Prop :=
 ∀ (pins:List (Addr × Obj)) (s:Shared) (σ:St) (H:Hp) (R:It→Hp→Prop),Inv X pins σ H s→wi σ H R →
  wpAny (model X.prog X.w) X.A (eval iter X.env) (fun v s1=>wpAny (model X.prog X.w) X.A (pyIter v) (PIE X pins σ tg R) X.xe s1) X.xe s
theorem go_of {M : Model} {A : Around} {E : Value → Shared → Prop} {s : Shared} {tg : Expr} {it : Addr} {u : Value} {o : Obj} {n : String} {vs : Array Value} {Q : Unit → Shared → Prop} (ho : s.heap.get? it = some o) (hc : o.cls = .type n) (hd : o.data = .fields vs)
    (hn : ["enumerate", "zip", "dict_itemiterator", "dict_reverseitemiterator", "odict_iterator", "itertools.zip_longest", "itertools.pairwise"].contains n = false) (hQ : Q () s) : wpAny M A (letOwnedTupleGo tg (.ref it) u) Q E s := by
  refine zh0 ?_; simp (disch := k_dflt (
  refine zh2 ?_
  unfold letOwnedTupleGo
  cases tg <;> first
    | exact wpAny_pure hQ
    | (cases u <;> first
        | exact wpAny_pure hQ
        | (refine wpAny_bind (wpAny_load ho ?_)
           rw [hc, hd]
           show wpAny M A (if (["enumerate", "zip", "dict_itemiterator", "dict_reverseitemiterator", "odict_iterator", "itertools.zip_longest", "itertools.pairwise"].contains n && vs[0]? == some (rawInt _)) = true then _ else _) Q E s
           rw [if_neg (by intro h; rw [hn, Bool.false_and] at h; cases h)]
           exact wpAny_pure hQ)))) only [↓zh1]
def Itl (K:PySem.W.Frag) (a:Addr):It :=
 ⟨fun i H=>∃ xs x,SqL K H a xs∧xs[i]?=some x,fun i H x H'=>H'=H∧∀ xs,SqL K H a xs→xs[i]?=some x,fun i H=>∃ xs,SqL K H a xs∧xs.length≤i⟩
def Itr (lo:Int) (n:Nat):It:=⟨fun i _=>i < n,fun i H x H'=>H'=H∧x=.int (lo + i),fun i _=>n≤i⟩
theorem turn_list {P:Program} {w:World} {K:PySem.W.Frag} {tg:Expr} (a it:Addr):Turn P w K tg (Itl K a) [it] it (fun i h=>h.IsListIter it a i) where
 mem:=by simp
 obj:=fun i h st b hb=>by
  have e:b=it:=by simpa using hb
  subst e
  obtain ⟨o,e,c,d⟩:=st
  exact ⟨o,e,fun v z=>by rw [d] at z;cases z⟩
 keep:=fun i h h' st k=>st.at fun o e=>k it (by simp) o e
 item:=by
  intro X hP hw hK hc i pins s σ H E I hf st hg
  subst hP hw hK
  obtain ⟨xs,x,hq,hx⟩:=hg
  obtain ⟨its,rv,p,hz⟩:=I.list hq
  obtain ⟨u,hu,ru⟩:=rv.get hx
  obtain ⟨f0,f1,f2,f3,f4,f5⟩:=hf it (by simp)
  refine wpAny_pyNext_list_item st p.isList (x:=u) (by simpa using hu) fun h' st' sb=>?_
  have I1:Inv X pins σ H { s with heap:=h' }:=I.turned (t':=s.toks) (fun b o hb e=>(sb.2 b hb).trans e) f0 f1 f3 f4 f5
  obtain ⟨o,e,c,d⟩:=id st'
  exact ⟨u,rfl,go_of (s:={ s with heap:=h' }) e c d (by decide) ⟨x,H,I1,ru,⟨rfl,fun ys hy=>by rw [I.list_inj hy hq];exact hx⟩,st',fun b hb=>(hf b hb).1⟩⟩
 done:=by
  intro X hP hw hK hc i pins s σ H E I hf st hg
  subst hP hw hK
  obtain ⟨xs,hq,hx⟩:=hg
  obtain ⟨its,rv,p,hz⟩:=I.list hq
  obtain ⟨f0,f1,f2,f3,f4,f5⟩:=hf it (by simp)
  have hl:=rv.length
  exact wpAny_pyNext_list_end (I.ok.hd hc) st p.isList (by simp;omega) fun h' eb=>⟨rfl,I.turned (t':=s.toks) (fun b o hb e=>eb b o hb e) f0 f1 f3 f4 f5⟩
 self:=fun _ _ _ _ _ st h=>wpAny_pyIter_listiter st h
theorem turn_range {P:Program} {w:World} {K:PySem.W.Frag} {tg:Expr} (it:Addr) (lo:Int) (n:Nat):Turn P w K tg (Itr lo n) [it] it (fun i h=>IsRangeIter h it (lo + (i:Nat) * 1) ((n:Int) - (i:Nat)) 1) where
 mem:=by simp
 obj:=fun i h st b hb=>by
  have e:b=it:=by simpa using hb
  subst e
  exact ⟨_,st,fun v z=>by
   have z':Data.fields _=Data.cell v:=z
   cases z'⟩
 keep:=fun i h h' st k=>k it (by simp) _ st
 item:=by
  intro X hP hw hK hc i pins s σ H E I hf st hg
  subst hP hw hK
  obtain ⟨f0,f1,f2,f3,f4,f5⟩:=hf it (by simp)
  have W:=Walks.range (prog:=X.prog) (w:=X.w) (I.ok.hd hc) it lo 1 n
  refine W.item i s _ _ hg st fun v h' tk hv st' kk=>?_
  obtain ⟨t,rfl⟩:=hv
  have I1:Inv X pins σ H { s with heap:=h',toks:=tk }:=I.turned (fun b o hb e=>kk b o (by simpa using hb) e) f0 f1 f3 f4 f5
  refine ⟨_,rfl,go_of (s:={ s with heap:=h',toks:=tk }) (n:="range_iterator") st' rfl rfl (by decide) ⟨.int (lo + i),H,I1,⟨t,?_⟩,⟨rfl,rfl⟩,st',fun b hb=>(hf b hb).1⟩⟩
  rw [Int.mul_one]
 done:=by
  intro X hP hw hK hc i pins s σ H E I hf st hg
  subst hP hw hK
  obtain ⟨f0,f1,f2,f3,f4,f5⟩:=hf it (by simp)
  exact wpAny_pyNext_range_end (I.ok.hd hc) st (by have:n≤i:=hg;omega) fun h' eb=>⟨rfl,I.turned (t':=s.toks) (fun b o hb e=>eb b o hb e) f0 f1 f3 f4 f5⟩
 self:=fun _ _ _ _ _ st h=>wpAny_pyIter_rangeiter st h
end L2
namespace L2
open PySem PySem.Spec PyProof.Rows
section
variable {X:Cx} {tg:Expr}
def iList (K:PySem.W.Frag) (tl:TE):TI:=fun σ H R=>tl σ H fun x H1=>∃ a,x=.ref a∧(∃ xs,SqL K H1 a xs)∧R (Itl K a) H1
theorem pi_list {l:Expr} {tl:TE} (hl:PE X l tl):PI X tg l (iList X.K tl):=by
 refine zh0 ?_;simp (disch:=k_dflt (
 refine zh2 ?_
 intro pins s σ H R I h
 refine thn (hl pins s σ H _ I h) fun v s1 ⟨x,H1,I1,r1,q1⟩=>?_
 obtain ⟨a,e,⟨xs,hq⟩,q⟩:=q1
 subst e
 cases r1
 obtain ⟨its,rv,p,hz⟩:=I1.list hq
 refine wpAny_pyIter_list p.isList ?_
 refine ⟨s1.heap.objs.size,[s1.heap.objs.size],_,_,H1,rfl,I1.kept (t':=s1.toks) fun b o e=>Heap.get?_push_of_some _ e,turn_list a _,⟨_,Heap.get?_push_size _ rfl,rfl,rfl⟩,fun b hb=>?_,q⟩
 have e:b=s1.heap.objs.size:=by simpa using hb
 subst e
 exact I1.fpOk (Nat.le_refl _) (I1.hok.fresh (Nat.le_refl _)))) only [↓zh1]
theorem range_it {pins:List (Addr × Obj)} {σ:St} {H:Hp} {s:Shared} {R:It→Hp→Prop} {E:Value→Shared→Prop} {lo hi:Int} {t u v:Tok} {tk:Nat} (I:Inv X pins σ H s) (h1:-(2 ^ 62)≤lo) (h2:lo < 2 ^ 62) (h3:-(2 ^ 62)≤hi) (h4:hi < 2 ^ 62)
  (q:R (Itr lo (hi - lo).toNat) H):wpAny (model X.prog X.w) X.A (pyIter (.ref s.heap.objs.size)) (PIE X pins σ tg R) E { s with heap:=s.heap.push { cls:=.type "range",data:=.fields #[.int lo t,.int hi u,.int 1 v] },toks:=tk }:=by
 refine zh0 ?_;simp (disch:=k_dflt (
 refine zh2 ?_
 refine wpAny_pyIter_range (IsRange.new ..) (small_one h1 h2 h3 h4) ?_
 have I1:Inv X pins σ H { s with heap:=s.heap.push { cls:=.type "range",data:=.fields #[.int lo t,.int hi u,.int 1 v] },toks:=tk }:=I.kept fun b o e=>Heap.get?_push_of_some _ e
 refine ⟨(s.heap.push { cls:=.type "range",data:=.fields #[.int lo t,.int hi u,.int 1 v] }).objs.size,[(s.heap.push { cls:=.type "range",data:=.fields #[.int lo t,.int hi u,.int 1 v] }).objs.size],_,_,H,rfl,
  I1.kept (t':=tk) fun b o e=>Heap.get?_push_of_some _ e,turn_range _ lo (hi - lo).toNat,?_,fun b hb=>?_,q⟩
 ·have e1:lo + ((0:Nat):Int) * 1=lo:=by simp
  have e2:(((hi - lo).toNat:Nat):Int) - ((0:Nat):Int)=Builtin.Range.rangeSize lo hi 1:=by rw [rangeSize_one];split <;> omega
  show IsRangeIter _ _ (lo + ((0:Nat):Int) * 1) ((((hi - lo).toNat:Nat):Int) - ((0:Nat):Int)) 1
  rw [e1,e2]
  exact Heap.get?_push_size _ rfl
 have e:b=(s.heap.push { cls:=.type "range",data:=.fields #[.int lo t,.int hi u,.int 1 v] }).objs.size:=by simpa using hb
 subst e
 exact I1.fpOk (Nat.le_refl _) (I1.hok.fresh (Nat.le_refl _)))) only [↓zh1]
def iRng1 (ta:TA):TI:=fun σ H R=>ta σ H fun vs H1=>∃ j:Int,vs=[.int j]∧-(2 ^ 62)≤j∧j < 2 ^ 62∧R (Itr 0 j.toNat) H1
theorem pi_range1 {a:Expr} {ta:TA} {p pos:Pos} (hg:Gl X "range") (hm:X.mg "range"=none) (ha:PA X [a] ta) (hs:starEach [a] X.env=[(false,eval a X.env)]:=by rfl):PI X tg (.Call (.Name "range" p) [a] [] pos) (iRng1 ta):=by
 refine zh0 ?_;simp (disch:=k_dflt (
 refine zh2 ?_
 intro pins s σ H R I h
 refine Call_ (ld_blt I hg hm boot_range (PyProof.Rows.callWith_type1 (thn (ha pos pins s σ H _ I h) fun us s1 ⟨vs,H1,I1,r1,q1⟩=>?_) hs rfl))
 obtain ⟨j,e,q1,q2,q⟩:=q1
 subst e
 cases r1 with
 | cons r rr =>
  cases rr
  obtain ⟨t,rfl⟩:=r
  exact call_range_1 (range_it I1 (by omega) (by omega) q1 q2 (by simpa using q)))) only [↓zh1]
def tFor (wi:TI) (g:TG) (tb:TS):TS:=fun D σ H=>wi σ H fun J H1=>∃ W:Nat→Nat→St→Hp→Prop,(∃ m,W 0 m σ H1)∧∀ i m σ H,W i m σ H →
 (J.stop i H∧D.nx σ H)∨(J.go i H∧∃ N:St→Hp→Prop,(∀ σ' H',N σ' H'→∃ m',m' < m∧W (i + 1) m' σ' H')∧∀ x H',J.yld i H x H'→g x σ H' fun σ2 H2=>tb { D with nx:=N,ct:=N,bk:=D.nx } σ2 H2)
def pinsAt (fp:List Addr) (h:Heap):List (Addr × Obj):=fp.filterMap fun b=>(h.get? b).map fun o=>(b,o)
theorem mem_pinsAt {fp:List Addr} {h:Heap} {b:Addr} {o:Obj} (hb:b∈fp) (e:h.get? b=some o):(b,o)∈pinsAt fp h:=List.mem_filterMap.mpr ⟨b,hb,by rw [e];rfl⟩
theorem of_pinsAt {fp:List Addr} {h:Heap} {p:Addr × Obj} (hp:p∈pinsAt fp h):p.1∈fp∧h.get? p.1=some p.2:=by
 obtain ⟨b,hb,e⟩:=List.mem_filterMap.mp hp
 cases q:h.get? b with
 | none=>rw [q] at e;cases e
 | some o =>
  rw [q] at e
  have e':(b,o)=p:=Option.some.inj e
  subst e'
  exact ⟨hb,q⟩
theorem Inv.pinned {pins:List (Addr × Obj)} {σ:St} {H:Hp} {s:Shared} {fp:List Addr} (I:Inv X pins σ H s) (hf:∀ b∈fp,FpOk X pins H b) (ho:∀ b∈fp,∃ o,s.heap.get? b=some o∧∀ v,o.data≠.cell v):Inv X (pins++pinsAt fp s.heap) σ H s :=
 I.pins_of fun p hp=>(List.mem_append.mp hp).elim (fun z=>I.pin p (List.mem_append_right _ z)) fun z=>by
  obtain ⟨hb,e⟩:=of_pinsAt z
  obtain ⟨f0,f1,f2,_⟩:=hf p.1 hb
  obtain ⟨o,e',d⟩:=ho p.1 hb
  rw [e] at e';cases e'
  exact ⟨e,f0,f1,f2,d⟩
theorem Inv.unpinned {pins pl:List (Addr × Obj)} {σ:St} {H:Hp} {s:Shared} (I:Inv X (pins++pl) σ H s):Inv X pins σ H s:=I.pins_of fun p hp=>I.pin p (List.mem_append_right _ (List.mem_append_left _ hp))
theorem ps_for {iter:Expr} {body:List Stmt} {wi:TI} {g:TG} {tb:TS} {pos:Pos} (hp:PassesOwn (model X.prog X.w) X.A X.env X.xe) (hc:X.calm=true) (hi:PI X tg iter wi) (hg:PG X tg g) (hb:PSs X body tb)
  (hs:∀ x,foldedSetIterable iter X.env x=pure x:=by intro _;rfl):PS X (.For tg iter body [] pos) (tFor wi g tb):=by
 intro pins s σ H D I h
 refine wpAny_For (thn (hi pins s σ H _ I h) fun v s1 h1=>thn h1 fun itv s2 h2=>?_) hs
 obtain ⟨it,fp,tn,J,H2,e,I2,T,st2,f2,W,⟨m0,w0⟩,turn⟩:=h2
 subst e
 -- what stays true of the iterator's objects through the loop
 have stat:∀ {H':Hp},(∀ b∈fp,H' b=none)→∀ b∈fp,FpOk X pins H' b:=fun hn b hb=>⟨hn b hb,(f2 b hb).2⟩
 refine codeAny_forLoop_any (fun n s'=>∃ i σ' H',Inv X pins σ' H' s'∧tn i s'.heap∧(∀ b∈fp,H' b=none)∧W i n σ' H') ?_ m0 ⟨0,σ,H2,I2,st2,fun b hb=>(f2 b hb).1,w0⟩
 rintro n s3 ⟨i,σ3,H3,I3,st3,fr3,w3⟩
 rcases turn i n σ3 H3 w3 with ⟨stop,qn⟩ | ⟨go,N,hN,step⟩
 ·refine wpAny_passesOwn hp (thn (T.done X rfl rfl rfl hc i pins s3 σ3 H3 X.xe I3 (stat fr3) st3 stop) fun r s4 ⟨hr,I4⟩=>?_)
  subst hr
  exact wpAny_execs_nil ⟨σ3,H3,I4,qn⟩
 refine wpAny_passesOwn hp (thn (T.item X rfl rfl rfl hc i pins s3 σ3 H3 X.xe I3 (stat fr3) st3 go) fun r s4 ⟨u,hr,h4⟩=>?_)
 subst hr
 refine wpAny_passesOwn hp (thn h4 fun _ s5 ⟨x,H5,I5,r5,y5,st5,fr5⟩=>?_)
 have I5':=I5.pinned (stat fr5) (T.obj _ _ st5)
 refine wpAny_passesOwn hp (thn (hg _ s5 σ3 H5 x u _ I5' r5 (step x H5 y5)) fun _ s6 ⟨σ6,H6,I6,q6⟩=>?_)
 refine wpAny_passesOwn hp (thn (hb _ s6 σ6 H6 _ I6 q6) fun f s7 q7=>?_)
 have again:∀ {σ7:St} {H7:Hp},Inv X (pins++pinsAt fp s5.heap) σ7 H7 s7→N σ7 H7→∃ m,m < n∧∃ i σ' H',Inv X pins σ' H' s7∧tn i s7.heap∧(∀ b∈fp,H' b=none)∧W i m σ' H':=fun {σ7 H7} I7 n7=>by
  obtain ⟨m',hm,w7⟩:=hN σ7 H7 n7
  refine ⟨m',hm,i + 1,σ7,H7,I7.unpinned,T.keep _ _ _ st5 fun b hb o e=>(I7.pin (b,o) (List.mem_append_right _ (List.mem_append_right _ (mem_pinsAt hb e)))).1,fun b hb=>?_,w7⟩
  obtain ⟨o,e,d⟩:=T.obj _ _ st5 b hb
  exact (I7.pin (b,o) (List.mem_append_right _ (List.mem_append_right _ (mem_pinsAt hb e)))).2.1
 cases f with
 | next=>obtain ⟨σ7,H7,I7,n7⟩:=q7;exact again I7 n7
 | cont=>obtain ⟨σ7,H7,I7,n7⟩:=q7;exact again I7 n7
 | brk=>obtain ⟨σ7,H7,I7,q7⟩:=q7;exact ⟨σ7,H7,I7.unpinned,q7⟩
 | ret v=>obtain ⟨x7,σ7,H7,I7,r7,q7⟩:=q7;exact ⟨x7,σ7,H7,I7.unpinned,r7,q7⟩
end
theorem for_list {K:PySem.W.Frag} {a:Addr} {xs:List V} {g:TG} {tb:TS} {D:Ends} {σ:St} {H:Hp} (Pv:Nat→St→Hp→Prop) (h0:Pv 0 σ H) (hl:∀ i σ H,i≤xs.length→Pv i σ H→SqL K H a xs)
  (hs:∀ i x σ H,xs[i]?=some x→Pv i σ H→g x σ H fun σ2 H2=>tb { D with nx:=Pv (i + 1),ct:=Pv (i + 1),bk:=D.nx } σ2 H2) (hd:∀ σ H,Pv xs.length σ H→D.nx σ H) :
  ∃ W:Nat→Nat→St→Hp→Prop,(∃ m,W 0 m σ H)∧∀ i m σ H,W i m σ H →
   ((Itl K a).stop i H∧D.nx σ H)∨((Itl K a).go i H∧∃ N:St→Hp→Prop,(∀ σ' H',N σ' H'→∃ m',m' < m∧W (i + 1) m' σ' H')∧∀ x H',(Itl K a).yld i H x H'→g x σ H' fun σ2 H2=>tb { D with nx:=N,ct:=N,bk:=D.nx } σ2 H2):=by
 refine zh0 ?_;simp (disch:=k_dflt (
 refine zh2 ?_
 refine ⟨fun i m σ H=>m=xs.length - i∧i≤xs.length∧Pv i σ H,⟨xs.length,by simp,Nat.zero_le _,h0⟩,?_⟩
 rintro i m σ H ⟨rfl,hi,p⟩
 have q:=hl i σ H hi p
 by_cases hlt:i < xs.length
 ·refine .inr ⟨⟨xs,xs[i],q,by simp [hlt]⟩,Pv (i + 1),fun σ' H' p'=>⟨xs.length - (i + 1),by omega,rfl,hlt,p'⟩,fun x H' y=>?_⟩
  obtain ⟨e,y⟩:=y
  subst e
  exact hs i x σ _ (y xs q) p
 have e:i=xs.length:=by omega
 subst e
 exact .inl ⟨⟨xs,q,Nat.le_refl _⟩,hd σ H p⟩)) only [↓zh1]
theorem for_range {lo:Int} {n:Nat} {g:TG} {tb:TS} {D:Ends} {σ:St} {H:Hp} (Pv:Nat→St→Hp→Prop) (h0:Pv 0 σ H)
  (hs:∀ i σ H,i < n→Pv i σ H→g (.int (lo + i)) σ H fun σ2 H2=>tb { D with nx:=Pv (i + 1),ct:=Pv (i + 1),bk:=D.nx } σ2 H2) (hd:∀ σ H,Pv n σ H→D.nx σ H) :
  ∃ W:Nat→Nat→St→Hp→Prop,(∃ m,W 0 m σ H)∧∀ i m σ H,W i m σ H →
   ((Itr lo n).stop i H∧D.nx σ H)∨((Itr lo n).go i H∧∃ N:St→Hp→Prop,(∀ σ' H',N σ' H'→∃ m',m' < m∧W (i + 1) m' σ' H')∧∀ x H',(Itr lo n).yld i H x H'→g x σ H' fun σ2 H2=>tb { D with nx:=N,ct:=N,bk:=D.nx } σ2 H2):=by
 refine zh0 ?_;simp (disch:=k_dflt (
 refine zh2 ?_
 refine ⟨fun i m σ H=>m=n - i∧i≤n∧Pv i σ H,⟨n,by simp,Nat.zero_le _,h0⟩,?_⟩
 rintro i m σ H ⟨rfl,hi,p⟩
 by_cases hlt:i < n
 ·refine .inr ⟨hlt,Pv (i + 1),fun σ' H' p'=>⟨n - (i + 1),by omega,rfl,hlt,p'⟩,fun x H' y=>?_⟩
  obtain ⟨e,y⟩:=y
  subst e y
  exact hs i σ _ hlt p
 have e:i=n:=by omega
 subst e
 exact .inl ⟨Nat.le_refl _,hd σ H p⟩)) only [↓zh1]
end L2
namespace L2
open PySem PySem.Spec PyProof.Rows
abbrev R2:=V→V→Hp→VK→Prop
def OpR (X:Cx) (f:Value→Value→Sem Value) (r:R2):Prop :=
 ∀ (pins:List (Addr × Obj)) (s:Shared) (σ:St) (H:Hp) (x y:V) (v u:Value) (Q:VK),Inv X pins σ H s→RelV x v→RelV y u→r x y H Q →
  wpAny (model X.prog X.w) X.A (f v u) (EP X pins σ Q) X.xe s
def CallR (X:Cx) (f:Value) (r:List V→Hp→VK→Prop):Prop :=
 ∀ (pins:List (Addr × Obj)) (s:Shared) (σ:St) (H:Hp) (xs:List V) (us:List Value) (Q:VK),Inv X pins σ H s→Vals xs us→r xs H Q →
  wpAny (model X.prog X.w) X.A (call f us) (EP X pins σ Q) X.xe s
def tOp (r:R2) (ta tb:TE):TE:=fun σ H Q=>ta σ H fun x H1=>tb σ H1 fun y H2=>r x y H2 Q
def rI (C:Int→Int→Prop) (g:Int→Int→V):R2:=fun x y H Q=>∃ i j,x=.int i∧y=.int j∧C i j∧Q (g i j) H
def rI0 (g:Int→Int→V):R2:=fun x y H Q=>∃ i j,x=.int i∧y=.int j∧Q (g i j) H
section
variable {X:Cx} {a b c:Expr} {ta tb tc:TE} {pos:Pos}
theorem binT (ha:PE X a ta) (hb:PE X b tb) {pins:List (Addr × Obj)} {s:Shared} {σ:St} {H:Hp} {R:V→V→Hp→Prop} (I:Inv X pins σ H s)
  (h:ta σ H fun x H1=>tb σ H1 fun y H2=>R x y H2) {Q:Value→Shared→Prop} {f:Value→Value→Sem Value}
  (hf:∀ v u s2 x y H2,Inv X pins σ H2 s2→RelV x v→RelV y u→R x y H2→wpAny (model X.prog X.w) X.A (f v u) Q X.xe s2) :
  wpAny (model X.prog X.w) X.A (eval a X.env) (fun v s₁=>wpAny (model X.prog X.w) X.A (eval b X.env) (fun u s₂=>wpAny (model X.prog X.w) X.A (f v u) Q X.xe s₂) X.xe s₁) X.xe s:=by
 refine thn (ha pins s σ H _ I h) fun v s1 ⟨x,H1,I1,r1,q1⟩=>?_
 refine thn (hb pins s1 σ H1 _ I1 q1) fun u s2 ⟨y,H2,I2,r2,q2⟩=>?_
 exact hf v u s2 x y H2 I2 r1 r2 q2
theorem pe_op {op:Operator} {r:R2} (ho:OpR X (binaryOp op) r) (ha:PE X a ta) (hb:PE X b tb):PE X (.BinOp a op b pos) (tOp r ta tb):=by
 intro pins s σ H Q I h
 exact wpAny_BinOp (binT ha hb I h fun v u s2 x y H2 I2 rx ry q=>ho pins s2 σ H2 x y v u Q I2 rx ry q)
theorem opI {f:Value→Value→Sem Value} {C:Int→Int→Prop} {g:Int→Int→Int}
  (rule:∀ (i j:Int) (t u:Tok) (s:Shared) (Q:Value→Shared→Prop) (E:Value→Shared→Prop),C i j→Q (.int (g i j) s.toks) { s with toks:=s.toks + 1 }→wpAny (model X.prog X.w) X.A (f (.int i t) (.int j u)) Q E s) :
  OpR X f (rI C fun i j=>.int (g i j)):=by
 intro pins s σ H x y v u Q I rx ry h
 obtain ⟨i,j,rfl,rfl,hc,q⟩:=h
 obtain ⟨t,rfl⟩:=rx
 obtain ⟨t',rfl⟩:=ry
 exact rule i j t t' s _ _ hc ⟨.int (g i j),H,I.tok _,⟨_,rfl⟩,q⟩
theorem opI0 {f:Value→Value→Sem Value} {g:Int→Int→Int}
  (rule:∀ (i j:Int) (t u:Tok) (s:Shared) (Q:Value→Shared→Prop) (E:Value→Shared→Prop),Q (.int (g i j) s.toks) { s with toks:=s.toks + 1 }→wpAny (model X.prog X.w) X.A (f (.int i t) (.int j u)) Q E s) :
  OpR X f (rI0 fun i j=>.int (g i j)):=by
 intro pins s σ H x y v u Q I rx ry h
 obtain ⟨i,j,rfl,rfl,q⟩:=h
 obtain ⟨t,rfl⟩:=rx
 obtain ⟨t',rfl⟩:=ry
 exact rule i j t t' s _ _ ⟨.int (g i j),H,I.tok _,⟨_,rfl⟩,q⟩
theorem opB0 {f:Value→Value→Sem Value} {g:Int→Int→Bool}
  (rule:∀ (i j:Int) (t u:Tok) (s:Shared) (Q:Value→Shared→Prop) (E:Value→Shared→Prop),Q (.bool (g i j)) s→wpAny (model X.prog X.w) X.A (f (.int i t) (.int j u)) Q E s) :
  OpR X f (rI0 fun i j=>.bl (g i j)):=by
 intro pins s σ H x y v u Q I rx ry h
 obtain ⟨i,j,rfl,rfl,q⟩:=h
 obtain ⟨t,rfl⟩:=rx
 obtain ⟨t',rfl⟩:=ry
 exact rule i j t t' s _ _ ⟨.bl (g i j),H,I,rfl,q⟩
def CDiv (i j:Int):Prop:=0 < j∧j < 1073741824
def CMul (i j:Int):Prop:=(-(2 ^ 64) < i∧i < 2 ^ 64)∨(-(2 ^ 64) < j∧j < 2 ^ 64)
theorem CMul.ok {i j:Int} (h:CMul i j):IntMulOk i j:=by
 rcases h with ⟨h1,h2⟩ | ⟨h1,h2⟩
 ·exact .of_left (intBits_le_64 h1 h2)
 exact .of_right (intBits_le_64 h1 h2)
theorem op_add:OpR X (binaryOp .Add) (rI0 fun i j=>.int (i + j)):=opI0 fun _ _ _ _ _ _ _ q=>add_int q
theorem op_sub:OpR X (binaryOp .Sub) (rI0 fun i j=>.int (i - j)):=opI0 fun _ _ _ _ _ _ _ q=>sub_int q
theorem op_mul:OpR X (binaryOp .Mult) (rI CMul fun i j=>.int (i * j)):=opI fun _ _ _ _ _ _ _ hc q=>mul_int q hc.ok
theorem op_fdiv:OpR X (binaryOp .FloorDiv) (rI CDiv fun i j=>.int (i / j)):=opI fun i j _ _ _ _ _ hc q=>by
 have h1:(0:Int) < j:=hc.1
 have h2:j < 1073741824:=hc.2
 exact floordiv_int (by omega) (by rw [Int.fdiv_eq_ediv_of_nonneg i (by omega)];exact q) (.inl (PyProof.noPylong_small (by omega)))
end
def scal:V→V→Bool
 | .non,.non=>true | .non,.int _=>true | .int _,.non=>true | .non,.bl _=>true | .bl _,.non=>true | .non,.str _=>true | .str _,.non=>true
 | .int _,.int _=>true | .bl _,.bl _=>true | .str _,.str _=>true | .byt _,.byt _=>true
 | .int _,.str _=>true | .str _,.int _=>true | .bl _,.str _=>true | .str _,.bl _=>true
 | _,_=>false
def rEq:R2:=fun x y H Q=>scal x y=true∧Q (.bl (decide (x=y))) H
def rNe:R2:=fun x y H Q=>scal x y=true∧Q (.bl (!decide (x=y))) H
theorem dec_int {i j:Int}:decide (V.int i=V.int j)=(i == j):=by
 rw [Bool.eq_iff_iff]
 simp
theorem dec_bl {i j:Bool}:decide (V.bl i=V.bl j)=(i == j):=by
 rw [Bool.eq_iff_iff]
 simp
theorem dec_str {i j:Str}:decide (V.str i=V.str j)=(i == j):=by
 rw [Bool.eq_iff_iff]
 simp
theorem dec_byt {i j:Array UInt8}:decide (V.byt i=V.byt j)=(i.toList == j.toList):=by
 rw [Bool.eq_iff_iff]
 cases i
 cases j
 simp
section
variable {X:Cx} {a b c:Expr} {ta tb tc:TE} {pos:Pos}
theorem fin_bl {pins:List (Addr × Obj)} {σ:St} {H:Hp} {s:Shared} {Q:VK} {k k':Bool} (I:Inv X pins σ H s) (q:Q (.bl k) H) (e:k=k'):EP X pins σ Q (.bool k') s:=by
 subst e
 exact ⟨.bl k,H,I,rfl,q⟩
theorem op_eq:OpR X (compareOp .Eq) rEq:=by
 refine zh0 ?_;simp (disch:=k_dflt (
 refine zh2 ?_
 intro pins s σ H x y v u Q I rx ry h
 obtain ⟨hs,q⟩:=h
 cases x with
 | non =>
  cases rx
  cases y with
  | non=>cases ry;exact PySem.EqNone.eq_none_none (fin_bl I q (by simp))
  | bl j=>cases ry;exact PySem.EqNone.eq_none_bool (fin_bl I q (by simp))
  | int j=>obtain ⟨t',rfl⟩:=ry;exact PySem.EqNone.eq_none_int (fin_bl I q (by simp))
  | str j=>obtain ⟨t',rfl⟩:=ry;exact PySem.EqNone.eq_none_str (fin_bl I q (by simp))
  | _=>exact absurd (show false=true from hs) Bool.false_ne_true
 | bl i =>
  cases rx
  cases y with
  | non=>cases ry;exact PySem.EqNone.eq_bool_none (fin_bl I q (by simp))
  | bl j=>cases ry;exact eq_bool (fin_bl I q dec_bl)
  | str j=>obtain ⟨t',rfl⟩:=ry;exact PySem.EqMixed.eq_bool_str (fin_bl I q (by simp))
  | _=>exact absurd (show false=true from hs) Bool.false_ne_true
 | int i =>
  obtain ⟨t,rfl⟩:=rx
  cases y with
  | non=>cases ry;exact PySem.EqNone.eq_int_none (fin_bl I q (by simp))
  | int j=>obtain ⟨t',rfl⟩:=ry;exact eq_int (fin_bl I q dec_int)
  | str j=>obtain ⟨t',rfl⟩:=ry;exact PySem.EqMixed.eq_int_str (fin_bl I q (by simp))
  | _=>exact absurd (show false=true from hs) Bool.false_ne_true
 | str i =>
  obtain ⟨t,rfl⟩:=rx
  cases y with
  | non=>cases ry;exact PySem.EqNone.eq_str_none (fin_bl I q (by simp))
  | bl j=>cases ry;exact PySem.EqMixed.eq_str_bool (fin_bl I q (by simp))
  | int j=>obtain ⟨t',rfl⟩:=ry;exact PySem.EqMixed.eq_str_int (fin_bl I q (by simp))
  | str j=>obtain ⟨t',rfl⟩:=ry;exact eq_str (fin_bl I q dec_str)
  | _=>exact absurd (show false=true from hs) Bool.false_ne_true
 | byt i =>
  obtain ⟨t,rfl⟩:=rx
  cases y with
  | byt j=>obtain ⟨t',rfl⟩:=ry;exact PySem.W.eq_bytes (fin_bl I q dec_byt)
  | _=>exact absurd (show false=true from hs) Bool.false_ne_true
 | _=>cases y <;> exact absurd (show false=true from hs) Bool.false_ne_true)) only [↓zh1]
theorem op_ne:OpR X (compareOp .NotEq) rNe:=by
 refine zh0 ?_;simp (disch:=k_dflt (
 refine zh2 ?_
 intro pins s σ H x y v u Q I rx ry h
 obtain ⟨hs,q⟩:=h
 cases x with
 | non =>
  cases rx
  cases y with
  | non=>cases ry;exact PySem.EqNone.ne_none_none (fin_bl I q (by simp))
  | bl j=>cases ry;exact PySem.EqNone.ne_none_bool (fin_bl I q (by simp))
  | int j=>obtain ⟨t',rfl⟩:=ry;exact PySem.EqNone.ne_none_int (fin_bl I q (by simp))
  | str j=>obtain ⟨t',rfl⟩:=ry;exact PySem.EqNone.ne_none_str (fin_bl I q (by simp))
  | _=>exact absurd (show false=true from hs) Bool.false_ne_true
 | bl i =>
  cases rx
  cases y with
  | non=>cases ry;exact PySem.EqNone.ne_bool_none (fin_bl I q (by simp))
  | bl j=>cases ry;exact ne_bool (fin_bl I q (congrArg not dec_bl))
  | str j=>obtain ⟨t',rfl⟩:=ry;exact PySem.EqMixed.ne_bool_str (fin_bl I q (by simp))
  | _=>exact absurd (show false=true from hs) Bool.false_ne_true
 | int i =>
  obtain ⟨t,rfl⟩:=rx
  cases y with
  | non=>cases ry;exact PySem.EqNone.ne_int_none (fin_bl I q (by simp))
  | int j=>obtain ⟨t',rfl⟩:=ry;exact ne_int (fin_bl I q (congrArg not dec_int))
  | str j=>obtain ⟨t',rfl⟩:=ry;exact PySem.EqMixed.ne_int_str (fin_bl I q (by simp))
  | _=>exact absurd (show false=true from hs) Bool.false_ne_true
 | str i =>
  obtain ⟨t,rfl⟩:=rx
  cases y with
  | non=>cases ry;exact PySem.EqNone.ne_str_none (fin_bl I q (by simp))
  | bl j=>cases ry;exact PySem.EqMixed.ne_str_bool (fin_bl I q (by simp))
  | int j=>obtain ⟨t',rfl⟩:=ry;exact PySem.EqMixed.ne_str_int (fin_bl I q (by simp))
  | str j=>obtain ⟨t',rfl⟩:=ry;exact ne_str (fin_bl I q (congrArg not dec_str))
  | _=>exact absurd (show false=true from hs) Bool.false_ne_true
 | byt i =>
  obtain ⟨t,rfl⟩:=rx
  cases y with
  | byt j=>obtain ⟨t',rfl⟩:=ry;exact PySem.W.ne_bytes (fin_bl I q (congrArg not dec_byt))
  | _=>exact absurd (show false=true from hs) Bool.false_ne_true
 | _=>cases y <;> exact absurd (show false=true from hs) Bool.false_ne_true)) only [↓zh1]
theorem op_lt:OpR X (compareOp .Lt) (rI0 fun i j=>.bl (decide (i < j))):=opB0 fun _ _ _ _ _ _ _ q=>lt_int q
theorem op_le:OpR X (compareOp .LtE) (rI0 fun i j=>.bl (decide (i≤j))):=opB0 fun _ _ _ _ _ _ _ q=>le_int q
theorem op_gt:OpR X (compareOp .Gt) (rI0 fun i j=>.bl (decide (j < i))):=opB0 fun _ _ _ _ _ _ _ q=>gt_int q
theorem op_ge:OpR X (compareOp .GtE) (rI0 fun i j=>.bl (decide (j≤i))):=opB0 fun _ _ _ _ _ _ _ q=>ge_int q
theorem op_isN:OpR X (compareOp .Is) (fun x y H Q=>y=.non∧Q (.bl (decide (x=.non))) H):=by
 intro pins s σ H x y v u Q I rx ry h
 obtain ⟨rfl,q⟩:=h
 cases ry
 refine is_none_gen (fin_bl I q ?_)
 cases x <;> first
  | (cases rx;rfl)
  | (obtain ⟨t,rfl⟩:=rx;rfl)
theorem op_notN:OpR X (compareOp .IsNot) (fun x y H Q=>y=.non∧Q (.bl (!decide (x=.non))) H):=by
 intro pins s σ H x y v u Q I rx ry h
 obtain ⟨rfl,q⟩:=h
 cases ry
 refine isnot_none_gen (fin_bl I q ?_)
 cases x <;> first
  | (cases rx;rfl)
  | (obtain ⟨t,rfl⟩:=rx;rfl)
theorem nomark (b:Expr) {op:CmpOp} (h:op≠.In:=by decide) (h2:op≠.NotIn:=by decide):behindInMarks op b=false:=by
 have e1:(op == CmpOp.In)=false:=by cases op <;> first | rfl | exact absurd rfl h
 have e2:(op == CmpOp.NotIn)=false:=by cases op <;> first | rfl | exact absurd rfl h2
 cases b <;> simp [behindInMarks,e1,e2]
theorem pe_cmpR {op:CmpOp} {r:R2} (ho:OpR X (compareOp op) r) (ha:PE X a ta) (hb:PE X b tb) (hm:behindInMarks op b=false):PE X (.Compare a [op] [b] pos) (tOp r ta tb):=by
 intro pins s σ H Q I h
 exact wpAny_Compare1 (binT ha hb I h fun v u s2 x y H2 I2 rx ry q=>ho pins s2 σ H2 x y v u Q I2 rx ry q) hm
def tTest (t:TE):TT:=fun σ H Q=>t σ H fun x H'=>∃ k,x=.bl k∧Q k H'
theorem pt_cmpR {op:CmpOp} {r:R2} (ho:OpR X (compareOp op) r) (ha:PE X a ta) (hb:PE X b tb) (hm:behindInMarks op b=false):PT X (.Compare a [op] [b] pos) (tTest (tOp r ta tb)):=by
 refine zh0 ?_;simp (disch:=k_dflt (
 refine zh2 ?_
 intro pins s σ H Q I h
 refine wpAny_isTrue_Compare1 (thn (ha pins s σ H _ I h) fun v s1 ⟨x,H1,I1,r1,q1⟩=>thn (hb pins s1 σ H1 _ I1 q1) fun u s2 ⟨y,H2,I2,r2,q2⟩ =>
  thn (ho pins s2 σ H2 x y v u _ I2 r1 r2 q2) fun c s3 ⟨z,H3,I3,r3,k,e,q3⟩=>?_) hm
 subst e
 cases r3
 exact wpAny_truthy_bool ⟨H3,I3,q3⟩)) only [↓zh1]
def tChain (r r':R2) (ta tb tc:TE):TE:=fun σ H Q=>ta σ H fun x H1=>tb σ H1 fun y H2=>r x y H2 fun z H3=>∃ k,z=.bl k ∧
 (if k=true then tc σ H3 fun w' H4=>r' y w' H4 Q else Q (.bl false) H3)
theorem pe_chain {op op':CmpOp} {r r':R2} (ho:OpR X (compareOp op) r) (ho':OpR X (compareOp op') r') (ha:PE X a ta) (hb:PE X b tb) (hc:PE X c tc)
  (hm:lastMarks [op,op'] [b,c]=false:=by with_unfolding_all rfl):PE X (.Compare a [op,op'] [b,c] pos) (tChain r r' ta tb tc):=by
 refine zh0 ?_;simp (disch:=k_dflt (
 refine zh2 ?_
 intro pins s σ H Q I h
 refine Compare_chain (thn (ha pins s σ H _ I h) fun v s1 ⟨x,H1,I1,r1,q1⟩=>chain_link (thn (hb pins s1 σ H1 _ I1 q1) fun u s2 ⟨y,H2,I2,r2,q2⟩ =>
  thn (ho pins s2 σ H2 x y v u _ I2 r1 r2 q2) fun d s3 ⟨z,H3,I3,r3,k,e,q3⟩=>?_)) hm
 subst e
 cases r3
 refine wpAny_truthy_bool ?_
 cases k with
 | false=>exact ite_ff ⟨.bl false,H3,I3,rfl,q3⟩
 | true=>exact ite_tt (chain_last (thn (hc pins s3 σ H3 _ I3 q3) fun w' s4 ⟨z',H4,I4,r4,q4⟩=>ho' pins s4 σ H4 y z' u w' Q I4 r2 r4 q4)))) only [↓zh1]
theorem pt_chain {op op':CmpOp} {r r':R2} (ho:OpR X (compareOp op) r) (ho':OpR X (compareOp op') r') (ha:PE X a ta) (hb:PE X b tb) (hc:PE X c tc)
  (hm:lastMarks [op,op'] [b,c]=false:=by with_unfolding_all rfl):PT X (.Compare a [op,op'] [b,c] pos) (tTest (tChain r r' ta tb tc)):=by
 refine zh0 ?_;simp (disch:=k_dflt (
 refine zh2 ?_
 intro pins s σ H Q I h
 refine isTrue_chain (thn (ha pins s σ H _ I h) fun v s1 ⟨x,H1,I1,r1,q1⟩=>test_link (thn (hb pins s1 σ H1 _ I1 q1) fun u s2 ⟨y,H2,I2,r2,q2⟩ =>
  thn (ho pins s2 σ H2 x y v u _ I2 r1 r2 q2) fun d s3 ⟨z,H3,I3,r3,k,e,q3⟩=>?_)) hm
 subst e
 cases r3
 refine wpAny_truthy_bool ?_
 cases k with
 | false =>
  obtain ⟨k',e',q'⟩:=q3
  cases e'
  exact ite_ff ⟨H3,I3,q'⟩
 | true =>
  refine ite_tt (test_last (thn (hc pins s3 σ H3 _ I3 q3) fun w' s4 ⟨z',H4,I4,r4,q4⟩=>thn (ho' pins s4 σ H4 y z' u w' _ I4 r2 r4 q4) fun d' s5 ⟨z2,H5,I5,r5,k2,e2,q5⟩=>?_))
  subst e2
  cases r5
  exact wpAny_truthy_bool ⟨H5,I5,q5⟩)) only [↓zh1]
theorem line63:(sizeLine:Nat) < 2 ^ 63:=by rw [sizeLine_eq];decide
theorem vals1 {x:V} {us:List Value} (r:Vals [x] us):∃ u,us=[u]∧RelV x u:=by
 cases r with
 | cons r1 r2=>cases r2;exact ⟨_,rfl,r1⟩
theorem vals2 {x y:V} {us:List Value} (r:Vals [x,y] us):∃ u w',us=[u,w']∧RelV x u∧RelV y w':=by
 cases r with
 | cons r1 r2 =>
  cases r2 with
  | cons r3 r4=>cases r4;exact ⟨_,_,rfl,r1,r3⟩
theorem call_max2 (hc:X.calm=true):CallR X (.builtin "max") (fun xs H Q=>∃ i j,xs=[.int i,.int j]∧Q (.int (if j > i then j else i)) H):=by
 refine zh0 ?_;simp (disch:=k_dflt (
 refine zh2 ?_
 intro pins s σ H xs us Q I r h
 obtain ⟨i,j,rfl,q⟩:=h
 obtain ⟨u,w',rfl,⟨t,rfl⟩,⟨t',rfl⟩⟩:=vals2 r
 refine max_two_ints (I.ok.hd hc) fun h' tk k=>⟨_,H,I.kept k,?_,q⟩
 by_cases hj:j > i
 ·rw [if_pos hj,if_pos hj];exact ⟨_,rfl⟩
 rw [if_neg hj,if_neg hj];exact ⟨_,rfl⟩)) only [↓zh1]
theorem call_min2 (hc:X.calm=true):CallR X (.builtin "min") (fun xs H Q=>∃ i j,xs=[.int i,.int j]∧Q (.int (if j < i then j else i)) H):=by
 refine zh0 ?_;simp (disch:=k_dflt (
 refine zh2 ?_
 intro pins s σ H xs us Q I r h
 obtain ⟨i,j,rfl,q⟩:=h
 obtain ⟨u,w',rfl,⟨t,rfl⟩,⟨t',rfl⟩⟩:=vals2 r
 refine min_two_ints (I.ok.hd hc) fun h' tk k=>⟨_,H,I.kept k,?_,q⟩
 by_cases hj:j < i
 ·rw [if_pos hj,if_pos hj];exact ⟨_,rfl⟩
 rw [if_neg hj,if_neg hj];exact ⟨_,rfl⟩)) only [↓zh1]
end
end L2
namespace L2
open PySem PySem.Spec PyProof.Rows
structure ObjM (h:Heap) (x dx C:Addr) (mA:Str→Option Value):Prop where
 obj:h.get? x=some (PySem.W.instObj C dx)
 ns:h.Ns1 dx mA
 ne:dx≠x
theorem lookIn_ns {h:Heap} {dx:Addr} {mA:Str→Option Value} (n:h.Ns1 dx mA):∃ od,h.get? dx=some od∧∀ name,PySem.W.lookIn name od=some (mA name):=by
 refine zh0 ?_;simp (disch:=k_dflt (
 refine zh2 ?_
 obtain ⟨o,es,ep,ho,hd,hk,_,hm⟩:=n
 refine ⟨o,ho,fun name=>?_⟩
 have e:=hm name
 unfold nsFind findBy at e
 rw [← Array.find?_toList] at e
 unfold PySem.W.lookIn
 rw [hd]
 dsimp only
 split
 ·rename_i y q
  rw [q] at e
  exact congrArg some e
 rename_i q
 rw [q] at e
 have a:es.toList.any (·.refKey)=false:=by
  rw [List.any_eq_false]
  intro y hy
  obtain ⟨z,t,hkey⟩:=hk y (Array.mem_toList_iff.mp hy)
  simp [DictEntry.refKey,hkey]
 have a':¬ es.toList.any (·.refKey)=true:=by rw [a];exact Bool.false_ne_true
 rw [if_neg a']
 exact congrArg some e)) only [↓zh1]
theorem ObjM.look {h:Heap} {x dx C:Addr} {mA:Str→Option Value} (I:ObjM h x dx C mA):∃ od,PySem.W.InstAt h x (PySem.W.instObj C dx) C (some od)∧∀ name,PySem.W.lookIn name od=some (mA name) :=
 let ⟨od,ho,hl⟩:=lookIn_ns I.ns
 ⟨od,⟨I.obj,rfl,rfl,ho⟩,hl⟩
section
variable {prog:Program} {w:World} {A:Around} {E:Value→Shared→Prop} {s:Shared} {K:PySem.W.Frag} {x dx C f:Addr} {mA:Str→Option Value} {name:Str} {v:Value}
theorem get_map {expr:Bool} {Q:Value→Shared→Prop} (X:K.In s.heap) (I:ObjM s.heap x dx C mA) (hg:PySem.W.plainGet K C name=true) (hh:PySem.W.hasDictIn K C=true)
  (ha:PySem.W.findIn K (.ref C) name=some none) (hv:mA name=some v) (hv':PySem.W.handedIn v=true) (h:Q v { s with toks:=s.toks + 1 }) :
  wpAny (model prog w) A (getAttr (.ref x) name expr) Q E s:=by
 obtain ⟨od,J,hl⟩:=I.look
 exact PySem.W.get_value X J (PySem.W.plainGet_of hg).1 (PySem.W.findObj_own hh ha rfl (by rw [hl,hv])) hv' h
theorem get_meth {pl:Sem Bool} {Q:Value × List Value→Shared→Prop} (X:K.In s.heap) (I:ObjM s.heap x dx C mA) (hg:PySem.W.plainGet K C name=true)
  (hf:PySem.W.findIn K (.ref C) name=some (some (.ref f))) (ht:PySem.W.isFn K (.ref f)=true) (hv:mA name=none) (h:Q (.ref f,[.ref x]) s) :
  wpAny (model prog w) A (getMethod (.ref x) name pl) Q E s:=by
 obtain ⟨od,J,hl⟩:=I.look
 exact PySem.W.method_fn X J (PySem.W.plainGet_of hg).1 (PySem.W.plainGet_of hg).2 hf (beq_iff_eq.mp ht) (by show (PySem.W.lookIn name od).map (·.isSome)=some false;rw [hl,hv];rfl) h
theorem set_map {ns:List Str} {Q:Unit→Shared→Prop} (X:K.In s.heap) (I:ObjM s.heap x dx C mA)
  (hs:PySem.W.findIn K (.ref C) "__setattr__"=some (some (.builtin "object.__setattr__"))) (hp:PySem.W.plainOver K C=true) (ht:PySem.W.takerIn K C name=some none) (hh:PySem.W.hasDictIn K C=true)
  (hw:PySem.Within mA ns) (hsz:ns.length≤sizeLine)
  (h:∀ h',ObjM h' x dx C (fun y=>if y=name then some v else mA y)→Heap.SameBut dx s.heap h'→Q () { s with heap:=h',toks:=s.toks + 2 }) :
  wpAny (model prog w) A (setAttr (.ref x) name v) Q E s:=by
 refine zh0 ?_;simp (disch:=k_dflt (
 refine zh2 ?_
 obtain ⟨od,J,hl⟩:=I.look
 refine PySem.W.set_plain X J hs (PySem.W.osa_open (s:={ s with toks:=s.toks + 1 }) (r:=none) X J hp ht fun b=>?_)
 obtain ⟨cd,hc,hd'⟩:=PySem.W.any_some hh
 have hx:s.heap.get? x=some ⟨.ref C,some dx,.plain,#[]⟩:=I.obj
 refine wpAny_bind (wpAny_pure (wpAny_bind (wpAny_bind (wpAny_loadPart hx (wpAny_bind (PySem.W.Looks.here (s:={ s with toks:=s.toks + 1 }) (PySem.W.looks_clsIn X hc) ?_))))))
 rw [hd']
 refine wpAny_pure (a:=some dx) (wpAny_bind (wpAny_pure (wpAny_bind ?_)))
 refine wpAny_nsSet1 (s:={ s with toks:=s.toks + 1 }) I.ns fun h' hn2 hs2=>?_
 obtain ⟨oD,esD,epD,hoD,hdD,hcD⟩:=hn2.count (PySem.Within.cons name v hw)
 refine wpAny_bind (wpAny_lookBehind hoD (by rw [hdD];exact pastItsLine_dict (Nat.le_trans hcD (by rw [List.length_cons];omega))) ?_)
 exact wpAny_pure (h _ ⟨(hs2.2 _ (Ne.symm I.ne)).trans I.obj,hn2,I.ne⟩ hs2))) only [↓zh1]
theorem make_map {R:Result→Shared→Prop} {vs:List Value} {kw:List (Str × Value)} (X:K.In s.heap) (hm:PySem.W.makesIn K C=true)
  (hi:PySem.W.findIn K (.ref C) "__init__"=some (some (.ref f))) (hf:PySem.W.typeIn K (.ref f)=some (.type "function"))
  (h:codeAny (model prog w) (A.under (.builtin "type.__call__" ⟨.ref C :: vs,kw⟩)) (.call (.ref f) ⟨.ref (s.heap.objs.size + 1) :: vs,kw⟩) (PySem.W.InitBack (s.heap.objs.size + 1) R)
   { s with heap:=(s.heap.push PySem.W.emptyDict).push (PySem.W.instObj C s.heap.objs.size) }) :
  codeAny (model prog w) A (.call (.ref C) ⟨vs,kw⟩) R s:=by
 obtain ⟨hh,g,d,t,os⟩:=s
 exact PySem.W.make_core (PySem.W.makes_of X hm) (PySem.W.looks_findIn X hi) (fun self=>PySem.W.bind_fn X self hf) (.inl rfl) h
end
def putF (f:Str) (v:V):List (Str × V)→List (Str × V)
 | []=>[(f,v)]
 | (g,x) :: r=>if g=f then (g,v) :: r else (g,x) :: putF f v r
theorem lookup_putF (f g:Str) (v:V):∀ fs:List (Str × V),(putF f v fs).lookup g=if g=f then some v else fs.lookup g
 | []=>by
  show List.lookup g [(f,v)]=_
  by_cases h:g=f
  ·have hb:(g == f)=true:=beq_iff_eq.mpr h
   simp only [List.lookup,hb,if_pos h]
  have hb:(g == f)=false:=beq_eq_false_iff_ne.mpr h
  simp only [List.lookup,hb,if_neg h]
 | (k,x) :: r=>by
  have ih:=lookup_putF f g v r
  rw [show putF f v ((k,x) :: r)=(if k=f then (k,v) :: r else (k,x) :: putF f v r) from rfl]
  by_cases hk:k=f
  ·rw [if_pos hk]
   by_cases h:g=k
   ·have hb:(g == k)=true:=beq_iff_eq.mpr h
    simp only [List.lookup,hb,if_pos (h.trans hk)]
   have hb:(g == k)=false:=beq_eq_false_iff_ne.mpr h
   simp only [List.lookup,hb,if_neg (fun e:g=f=>h (e.trans hk.symm))]
  rw [if_neg hk]
  by_cases h:g=k
  ·have hb:(g == k)=true:=beq_iff_eq.mpr h
   simp only [List.lookup,hb,if_neg (fun e:g=f=>hk (h.symm.trans e))]
  have hb:(g == k)=false:=beq_eq_false_iff_ne.mpr h
  simp only [List.lookup,hb]
  exact ih
theorem keys_putF (f:Str) (v:V):∀ fs:List (Str × V),f∈(putF f v fs).map (·.1)∧∀ g,g∈fs.map (·.1)→g∈(putF f v fs).map (·.1)
 | []=>⟨by simp [putF],fun g h=>by simp at h⟩
 | (k,x) :: r=>by
  obtain ⟨i1,i2⟩:=keys_putF f v r
  rw [show putF f v ((k,x) :: r)=(if k=f then (k,v) :: r else (k,x) :: putF f v r) from rfl]
  by_cases hk:k=f
  ·rw [if_pos hk]
   subst hk
   exact ⟨by simp,fun g h=>by simpa using h⟩
  rw [if_neg hk]
  refine ⟨?_,fun g h=>?_⟩
  ·rw [List.map_cons]
   exact List.mem_cons_of_mem _ i1
  rw [List.map_cons] at h ⊢
  rcases List.mem_cons.mp h with e | e
  ·exact List.mem_cons.mpr (.inl e)
  exact List.mem_cons_of_mem _ (i2 g e)
theorem length_putF (f:Str) (v:V):∀ fs:List (Str × V),(putF f v fs).length≤fs.length + 1
 | []=>by simp [putF]
 | (k,x) :: r=>by
  have ih:=length_putF f v r
  rw [show putF f v ((k,x) :: r)=(if k=f then (k,v) :: r else (k,x) :: putF f v r) from rfl]
  by_cases hk:k=f
  ·rw [if_pos hk,List.length_cons,List.length_cons];omega
  rw [if_neg hk,List.length_cons,List.length_cons];omega
theorem RelO.some_of {v:V} {o:Option Value} (r:RelO (some v) o):∃ u,o=some u∧RelV v u:=by
 cases o with
 | none=>exact (show False from r).elim
 | some u=>exact ⟨u,rfl,r⟩
theorem RelO.none_of {o:Option Value} (r:RelO none o):o=none:=by
 cases o with
 | none=>rfl
 | some u=>exact (show False from r).elim
theorem handed_of {v:V} {u:Value} (r:RelV v u):PySem.W.handedIn u=true:=by
 refine zh0 ?_;simp (disch:=k_dflt (
 refine zh2 ?_
 cases v with
 | non=>cases (show u=Value.none from r);rfl
 | bl b=>cases (show u=Value.bool b from r);rfl
 | int i=>obtain ⟨t,e⟩:=(show ∃ t,u=Value.int i t from r);cases e;rfl
 | str x=>obtain ⟨t,e⟩:=(show ∃ t,u=Value.str x t from r);cases e;rfl
 | byt b=>obtain ⟨t,e⟩:=(show ∃ t,u=Value.bytes b t from r);cases e;rfl
 | flt b=>obtain ⟨t,e⟩:=(show ∃ t,u=Value.float b t from r);cases e;rfl
 | ref a=>cases (show u=Value.ref a from r);rfl
 | ty n=>cases (show u=Value.type n from r);rfl)) only [↓zh1]
section
variable {P:Program} {w:World} {H H':Hp} {h h':Heap} {a C dx:Addr} {fs fs':List (Str × V)}
theorem ins_get (hok:HOk P w H h) (e:H a=some (.ins C dx fs)):∃ mA,ObjM h a dx C mA∧(∀ f,RelO (fs.lookup f) (mA f))∧PySem.Within mA (fs.map (·.1))∧fs.length≤1000∧H dx=some (.own a):=by
 obtain ⟨d,z,ne,ob,mA,n,r,q⟩:=(show ObjOk P w H h a (.ins C dx fs) from hok a _ e)
 exact ⟨mA,⟨ob,n,ne⟩,r,q,z,d⟩
end
structure Cls (K:PySem.W.Frag) (C:Addr):Prop where
 pg:PySem.W.plainGet K C Str.empty=true
 hd:PySem.W.hasDictIn K C=true
 po:PySem.W.plainOver K C=true
 sa:PySem.W.findIn K (.ref C) "__setattr__"=some (some (.builtin "object.__setattr__"))
theorem Cls.get {K:PySem.W.Frag} {C:Addr} (c:Cls K C) (f:Str):PySem.W.plainGet K C f=true:=c.pg
def NoAttr (K:PySem.W.Frag) (C:Addr) (f:Str):Prop:=PySem.W.findIn K (.ref C) f=some none
theorem NoAttr.taker {K:PySem.W.Frag} {C:Addr} {f:Str} (n:NoAttr K C f):PySem.W.takerIn K C f=some none:=by
 unfold PySem.W.takerIn
 rw [show PySem.W.findIn K (.ref C) f=some none from n]
 rfl
structure Meth (K:PySem.W.Frag) (C:Addr) (m:Str) (f:Addr):Prop where
 at_:PySem.W.findIn K (.ref C) m=some (some (.ref f))
 fn:PySem.W.isFn K (.ref f)=true
 kp:PySem.W.keepIn K (.ref f)=true
section
variable {X:Cx} {pins:List (Addr × Obj)} {σ:St} {H:Hp} {s:Shared} {a C dx:Addr} {fs:List (Str × V)} {f:Str} {v:V} {A:Around} {E:Value→Shared→Prop}
theorem getattr_ok {b:Bool} {Q:Value→Shared→Prop} (I:Inv X pins σ H s) (e:H a=some (.ins C dx fs)) (c:Cls X.K C) (n:NoAttr X.K C f) (l:fs.lookup f=some v)
  (h:∀ u s',Inv X pins σ H s'→RelV v u→Q u s'):wpAny (model X.prog X.w) A (getAttr (.ref a) f b) Q E s:=by
 obtain ⟨mA,O,r,_,_,_⟩:=ins_get I.hok e
 obtain ⟨u,hu,ru⟩:=RelO.some_of (v:=v) (o:=mA f) (by rw [← l];exact r f)
 exact get_map I.kIn O (c.get f) c.hd n hu (handed_of ru) (h u _ (I.tok _) ru)
theorem getmeth_ok {m:Str} {g:Addr} {pl:Sem Bool} {Q:Value × List Value→Shared→Prop} (I:Inv X pins σ H s) (e:H a=some (.ins C dx fs)) (c:Cls X.K C) (k:Meth X.K C m g) (l:fs.lookup m=none)
  (h:Q (.ref g,[.ref a]) s):wpAny (model X.prog X.w) A (getMethod (.ref a) m pl) Q E s:=by
 obtain ⟨mA,O,r,_,_,_⟩:=ins_get I.hok e
 have hn:mA m=none:=RelO.none_of (by rw [← l];exact r m)
 exact get_meth I.kIn O (c.get m) k.at_ k.fn hn h
theorem setattr_ok {y:V} {u:Value} {Q:Unit→Shared→Prop} (I:Inv X pins σ H s) (e:H a=some (.ins C dx fs)) (c:Cls X.K C) (n:NoAttr X.K C f) (hl:fs.length < 1000) (ry:RelV y u)
  (h:∀ s',Inv X pins σ (upd H a (.ins C dx (putF f y fs))) s'→Q () s'):wpAny (model X.prog X.w) A (setAttr (.ref a) f u) Q E s:=by
 refine zh0 ?_;simp (disch:=k_dflt (
 refine zh2 ?_
 obtain ⟨mA,O,r,wi,_,ho⟩:=ins_get I.hok e
 have hz:(fs.map (·.1)).length≤sizeLine:=by rw [List.length_map,sizeLine_eq];omega
 refine set_map I.kIn O c.sa c.po n.taker c.hd wi hz fun h' O' sb=>h _ ?_
 have hd:∃ o,h'.get? dx=some o:=let ⟨o,_,_,e',_⟩:=O'.ns;⟨o,e'⟩
 refine I.write (x:=a) (e:=dx) (by rw [e];exact True.intro) (.inr ho) (fun b q hb z=>(sb.2 b hb).trans z) hd ?_
 refine ⟨by rw [upd_ne O.ne];exact ho,?_,O.ne,O'.obj,_,O'.ns,fun g=>?_,fun g hg=>?_⟩
 ·have:=length_putF f y fs;omega
 ·show RelO ((putF f y fs).lookup g) (if g=f then some u else mA g)
  rw [lookup_putF]
  by_cases q:g=f
  ·rw [if_pos q,if_pos q];exact ry
  rw [if_neg q,if_neg q];exact r g
 by_cases q:g=f
 ·rw [q];exact (keys_putF f y fs).1
 refine (keys_putF f y fs).2 g (wi g fun z=>hg ?_)
 show (if g=f then some u else mA g)=none
 rw [if_neg q];exact z)) only [↓zh1]
theorem Inv.made (I:Inv X pins σ H s):Inv X pins σ (upd (upd H s.heap.objs.size (.own (s.heap.objs.size + 1))) (s.heap.objs.size + 1) (.ins C s.heap.objs.size []))
  { s with heap:=(s.heap.push PySem.W.emptyDict).push (PySem.W.instObj C s.heap.objs.size) }:=by
 refine zh0 ?_;simp (disch:=k_dflt (
 refine zh2 ?_
 have e1:(s.heap.push PySem.W.emptyDict).get? s.heap.objs.size=some PySem.W.emptyDict:=Heap.get?_push_size s.heap rfl
 have e2:((s.heap.push PySem.W.emptyDict).push (PySem.W.instObj C s.heap.objs.size)).get? (s.heap.objs.size + 1)=some (PySem.W.instObj C s.heap.objs.size):=by
  have:=Heap.get?_push_size (s.heap.push PySem.W.emptyDict) (o:=PySem.W.instObj C s.heap.objs.size) rfl
  rwa [Heap.size_push] at this
 have e3:(s.heap.push PySem.W.emptyDict).Ns s.heap.objs.size (fun _=>none):=⟨PySem.W.emptyDict,#[],_,e1,rfl,(fun e he=>absurd he (by simp)),fun _=>rfl⟩
 have I1:=I.laid (a:=s.heap.objs.size) (o:=.own (s.heap.objs.size + 1)) (h':=s.heap.push PySem.W.emptyDict) (t':=s.toks) (fun b u q=>Heap.get?_push_of_some _ q) (Nat.le_refl _) ⟨_,e1⟩
 refine I1.laid (a:=s.heap.objs.size + 1) (o:=.ins C s.heap.objs.size []) (t':=s.toks) (fun b u q=>Heap.get?_push_of_some _ q) (Nat.le_of_eq (Heap.size_push _ _)) ?_
 have ne:s.heap.objs.size≠s.heap.objs.size + 1:=Nat.ne_of_lt (Nat.lt_succ_self _)
 refine ⟨by rw [upd_ne ne,upd_same],Nat.zero_le _,ne,e2,fun _=>none,(Heap.Ns1.of_empty e3).at fun o q=>Heap.get?_push_of_some _ q,fun _=>True.intro,fun y hy=>absurd rfl hy⟩)) only [↓zh1]
theorem attr_of {prog:Program} {w:World} {env:Env} {e:Expr} {f:Str} {pos:Pos} {s:Shared} {Q:Value→Shared→Prop} (hb:attributeBase e f env (eval e env)=eval e env)
  (h:wpAny (model prog w) A (eval e env) (fun o s₁=>wpAny (model prog w) A (getAttr o f true) Q E s₁) E s):wpAny (model prog w) A (eval (.Attribute e f pos) env) Q E s :=
 Attribute_any_ h (by rw [arm_eval_Attribute,hb])
end
def tFld (K:PySem.W.Frag) (ta:TE) (f:Str):TE:=fun σ H Q=>ta σ H fun x H1=>∃ a C dx fs v,x=.ref a∧H1 a=some (.ins C dx fs)∧Cls K C∧NoAttr K C f∧fs.lookup f=some v∧Q v H1
def sFld (K:PySem.W.Frag) (ta tv:TE) (f:Str):TS:=fun D σ H=>tv σ H fun y H1=>ta σ H1 fun x H2=>∃ a C dx fs,x=.ref a∧H2 a=some (.ins C dx fs)∧Cls K C∧NoAttr K C f∧fs.length < 1000 ∧
 D.nx σ (upd H2 a (.ins C dx (putF f y fs)))
def InOp (X:Cx) (op:Operator) (rd:V→V→Hp→VK→Prop):Prop :=
 ∀ (pins:List (Addr × Obj)) (s:Shared) (σ:St) (H:Hp) (x y:V) (u v:Value) (Q:VK),Inv X pins σ H s→RelV x u→RelV y v→rd x y H Q→wpAny (model X.prog X.w) X.A (inplaceOp op u v) (EP X pins σ Q) X.xe s
def sFldAug (K:PySem.W.Frag) (ta tv:TE) (rd:V→V→Hp→VK→Prop) (f:Str):TS:=fun D σ H=>ta σ H fun x H1=>∃ a C dx fs v,x=.ref a∧H1 a=some (.ins C dx fs)∧Cls K C∧NoAttr K C f∧fs.lookup f=some v ∧
 tv σ H1 fun y H2=>rd v y H2 fun z H3=>∃ dx' fs',H3 a=some (.ins C dx' fs')∧fs'.length < 1000∧D.nx σ (upd H3 a (.ins C dx' (putF f z fs')))
section
variable {X:Cx} {o e value:Expr} {f:Str} {pos pos' tpos:Pos} {ta tv:TE}
theorem pe_fld (he:PE X e ta) (hb:attributeBase e f X.env (eval e X.env)=eval e X.env):PE X (.Attribute e f pos) (tFld X.K ta f):=by
 refine zh0 ?_;simp (disch:=k_dflt (
 refine zh2 ?_
 intro pins s σ H Q I h
 refine attr_of hb (thn (he pins s σ H _ I h) fun u s1 ⟨x,H1,I1,rx,a,C,dx,fs,v,ex,ea,c,n,l,q⟩=>?_)
 subst ex
 obtain rfl:u=Value.ref a:=rx
 exact getattr_ok I1 ea c n l fun u' s2 I2 ru=>⟨v,H1,I2,ru,q⟩)) only [↓zh1]
theorem ps_fld (ha:PE X o ta) (hv:PE X value tv) (hs:swapsWith value (some (.Attribute o f pos')) pos.line X.env=pure false):PS X (.Assign [.Attribute o f pos'] value pos) (sFld X.K ta tv f):=by
 refine zh0 ?_;simp (disch:=k_dflt (
 refine zh2 ?_
 intro pins s σ H D I h
 refine plainObj_wpAny_Assign_Attribute (thn (hv pins s σ H _ I h) fun u s1 ⟨y,H1,I1,ry,q⟩=>thn (ha pins s1 σ H1 _ I1 q) fun ov s2 ⟨x,H2,I2,rx,a,C,dx,fs,ex,ea,c,n,l,q2⟩=>?_) hs
 subst ex
 obtain rfl:ov=Value.ref a:=rx
 exact setattr_ok I2 ea c n l ry fun s3 I3=>⟨σ,_,I3,q2⟩)) only [↓zh1]
theorem ps_fldaug {op:Operator} {rd:V→V→Hp→VK→Prop} (ha:PE X o ta) (hv:PE X value tv) (hop:InOp X op rd):PS X (.AugAssign (.Attribute o f tpos) op value pos) (sFldAug X.K ta tv rd f):=by
 refine zh0 ?_;simp (disch:=k_dflt (
 refine zh2 ?_
 intro pins s σ H D I h
 refine wpAny_AugAssign_AttributeAny (thn (ha pins s σ H _ I h) fun ov s1 ⟨x,H1,I1,rx,a,C,dx,fs,v,ex,ea,c,n,l,q⟩=>?_)
 subst ex
 obtain rfl:ov=Value.ref a:=rx
 refine getattr_ok I1 ea c n l fun u s2 I2 ru=>thn (hv pins s2 σ H1 _ I2 q) fun w3 s3 ⟨y,H2,I3,ry,q3⟩=>thn (hop pins s3 σ H2 v y u w3 _ I3 ru ry q3) fun w4 s4 ⟨z,H3,I4,rz,dx',fs',ea',l',q4⟩=>?_
 exact setattr_ok I4 ea' c n l' rz fun s5 I5=>⟨σ,_,I5,q4⟩)) only [↓zh1]
def rAdd:V→V→Hp→VK→Prop:=fun x y H Q=>∃ i j,x=.int i∧y=.int j∧Q (.int (i + j)) H
def rSub:V→V→Hp→VK→Prop:=fun x y H Q=>∃ i j,x=.int i∧y=.int j∧Q (.int (i - j)) H
theorem in_add:InOp X .Add rAdd:=by
 rintro pins s σ H x y u v Q I rx ry ⟨i,j,rfl,rfl,q⟩
 obtain ⟨t,rfl⟩:=(show ∃ t,u=Value.int i t from rx)
 obtain ⟨t',rfl⟩:=(show ∃ t',v=Value.int j t' from ry)
 exact PyProof.Rows.iadd_int ⟨.int (i + j),H,I.tok _,⟨_,rfl⟩,q⟩
theorem in_sub:InOp X .Sub rSub:=by
 rintro pins s σ H x y u v Q I rx ry ⟨i,j,rfl,rfl,q⟩
 obtain ⟨t,rfl⟩:=(show ∃ t,u=Value.int i t from rx)
 obtain ⟨t',rfl⟩:=(show ∃ t',v=Value.int j t' from ry)
 exact PyProof.Rows.isub_int ⟨.int (i - j),H,I.tok _,⟨_,rfl⟩,q⟩
end
section
variable {X:Cx} {pins:List (Addr × Obj)} {σ:St} {H:Hp} {s:Shared} {A:Around} {E:Value→Shared→Prop} {Q:Value→Shared→Prop} {c:Value} {b:Bool}
end
end L2
namespace L2
open PySem PySem.Spec PyProof.Rows
structure Room (k:Nat) (A:Around):Prop where
 hd:A.handled=none
 dp:A.depth + 3 * k + 5 < recursionLimit
 un:A.units + 16 * k + 200 < cLine
theorem Room.mono {j k:Nat} {A:Around} (r:Room k A) (h:j≤k):Room j A:=⟨r.hd,by have:=r.dp;omega,by have:=r.un;omega⟩
theorem Room.deeper {k:Nat} {A:Around} (r:Room (k + 1) A) (env:Env):Room k (A.deeper env) :=
 ⟨r.hd,by have:=r.dp;show A.depth + 1 + 3 * k + 5 < _;omega,by have:=r.un;show A.units + 3 + 16 * k + 200 < _;omega⟩
theorem make_depth {A:Around} {C:Addr} {us:List Value} {kw:List (Str × Value)}:(A.under (.builtin "type.__call__" ⟨.ref C :: us,kw⟩)).depth=A.depth + 1:=by
 first | rfl | simp [Around.under,Code.weight,Code.isCreation,Code.isGuard,Code.isCaller,Code.frames,Code.isFrame,guardIds]
theorem make_units {A:Around} {C:Addr} {us:List Value} {kw:List (Str × Value)}:(A.under (.builtin "type.__call__" ⟨.ref C :: us,kw⟩)).units=A.units + 1:=by
 first | rfl | simp [Around.under,Code.cUnits,Code.frames,Code.isFrame]
theorem Room.make {k:Nat} {A:Around} (r:Room (k + 1) A) (C:Addr) (us:List Value) (kw:List (Str × Value)):Room k (A.under (.builtin "type.__call__" ⟨.ref C :: us,kw⟩)) :=
 ⟨r.hd,by have:=r.dp;rw [make_depth];omega,by have:=r.un;rw [make_units];omega⟩
theorem Room.depth {k:Nat} {A:Around} (r:Room k A):A.depth < recursionLimit:=by have:=r.dp;omega
def tNil:TA:=fun _ H Q=>Q [] H
def tCons (ta:TE) (tr:TA):TA:=fun σ H Q=>ta σ H fun x H1=>tr σ H1 fun xs H2=>Q (x :: xs) H2
section
variable {X:Cx} {e:Expr} {es:List Expr} {te:TE} {t:TA} {pos:Pos}
theorem pa_nil:PA X [] tNil:=fun _ _ _ _ H Q I h=>Calls.spliced_nil ⟨[],H,I,.nil,h⟩
theorem pa_cons (ha:PE X e te) (hr:PA X es t) (hs:starEach (e :: es) X.env=(false,eval e X.env) :: starEach es X.env:=by rfl):PA X (e :: es) (tCons te t):=by
 refine zh0 ?_;simp (disch:=k_dflt (
 refine zh2 ?_
 intro pos pins s σ H Q I h
 rw [hs]
 show wpAny _ _ (spliced ((false,eval e X.env) :: backTo pos (starEach es X.env))) _ _ s
 refine Calls.spliced_cons (thn (ha pins s σ H _ I h) fun u s1 ⟨x,H1,I1,r1,q1⟩=>?_)
 exact thn (hr pos pins s1 σ H1 _ I1 q1) fun us s2 ⟨xs,H2,I2,r2,q2⟩=>⟨x :: xs,H2,I2,.cons r1 r2,q2⟩)) only [↓zh1]
def tTup (t:TA):TE:=fun σ H Q=>t σ H fun xs H1=>xs.length≤sizeLine∧∀ p,H1 p=none→Q (.ref p) (upd H1 p (.tup xs))
def tLst (t:TA):TE:=fun σ H Q=>t σ H fun xs H1=>xs.length≤sizeLine∧∀ p,H1 p=none→Q (.ref p) (upd H1 p (.lst xs))
theorem pe_tup {x1} (h:PA X es t):PE X (.Tuple es x1 pos) (tTup t):=by
 refine zh0 ?_;simp (disch:=k_dflt (
 refine zh2 ?_
 intro pins s σ H Q I hq
 refine wpAny_Tuple_spliced (thn (h pos pins s σ H _ I hq) fun us s1 ⟨xs,H1,I1,r,z,q⟩=>⟨by rw [← r.length];exact z,?_⟩)
 have hf:H1 s1.heap.objs.size=none:=I1.hok.fresh (Nat.le_refl _)
 refine ⟨.ref s1.heap.objs.size,upd H1 s1.heap.objs.size (.tup xs),I1.laid (t':=s1.toks) (fun b u e=>Heap.get?_push_of_some _ e) (Nat.le_refl _) ?_,rfl,q _ hf⟩
 exact ⟨z,us,r,⟨_,Heap.get?_push_size _ rfl,rfl,_,rfl⟩⟩)) only [↓zh1]
theorem pe_lst (h:PA X es t):PE X (.List es pos) (tLst t):=by
 refine zh0 ?_;simp (disch:=k_dflt (
 refine zh2 ?_
 intro pins s σ H Q I hq
 refine wpAny_List_spliced (thn (h pos pins s σ H _ I hq) fun us s1 ⟨xs,H1,I1,r,z,q⟩=>⟨by rw [← r.length];exact z,?_⟩)
 have hf:H1 s1.heap.objs.size=none:=I1.hok.fresh (Nat.le_refl _)
 refine ⟨.ref s1.heap.objs.size,upd H1 s1.heap.objs.size (.lst xs),I1.laid (t':=s1.toks) (fun b u e=>Heap.get?_push_of_some _ e) (Nat.le_refl _) ?_,rfl,q _ hf⟩
 exact ⟨z,us,0,r,Heap.get?_push_size _ rfl⟩)) only [↓zh1]
end
abbrev Sp:=List V→Hp→VK→XK→Prop
abbrev CXT:=List Env→Hp→Shared→XK→Value→Shared→Prop
structure Env0 (P:Program) (w:World) (K:PySem.W.Frag) (mg:Str→Option Value) (base:Heap) (A:Around) (outer:List Env) (s:Shared) (H:Hp):Prop where
 frames:A.frames=some outer
 mod:Mod K mg base
 bs:∀ b o,base.get? b=some o→s.heap.get? b=some o∧H b=none
 bsz:base.objs.size≤s.heap.objs.size
 funs:s.heap.FunFrames base outer
 frf:∀ b∈frs outer,H b=none
 hok:HOk P w H s.heap
 bare:AllBare s.gens
def CE (outer:List Env) (P:Program) (w:World) (H:Hp) (s:Shared) (Q:VK) (u:Value) (s':Shared):Prop :=
 ∃ v H',s'.os=s.os∧AllBare s'.gens∧Un (frs outer) [] H H' s.heap s'.heap∧HOk P w H' s'.heap∧RelV v u∧Q v H'
def CR (CX:CXT) (outer:List Env) (P:Program) (w:World) (H:Hp) (s:Shared) (Q:VK) (E:XK) (r:Result) (s':Shared):Prop :=
 match r with
 | .ok (.ret u)=>CE outer P w H s Q u s'
 | .ok _=>False
 | .error e=>CX outer H s E e s'
structure FnOk (P:Program) (w:World) (K:PySem.W.Frag) (mg:Str→Option Value) (base:Heap) (CX:CXT) (k:Nat) (f:Addr) (fd:FuncData) (ps:List Str) (sp:Sp):Prop where
 len:∀ vs H Q E,sp vs H Q E→vs.length=ps.length
 run:∀ (A:Around) (outer:List Env) (s:Shared) (H:Hp) (args:Args) (us:List Value) (vs:List V) (Q:VK) (E:XK),Room k A→Env0 P w K mg base A outer s H→BindsTo s fd args (ps.zip us)→Vals vs us→sp vs H Q E →
  codeAny (model P w) A (.call (.ref f) args) (CR CX outer P w H s Q E) s
theorem FnOk.mono {P:Program} {w:World} {K:PySem.W.Frag} {mg:Str→Option Value} {base:Heap} {CX:CXT} {j k:Nat} {f:Addr} {fd:FuncData} {ps:List Str} {sp:Sp} (F:FnOk P w K mg base CX j f fd ps sp) (h:j≤k) :
  FnOk P w K mg base CX k f fd ps sp:=⟨F.len,fun A outer s H args us vs Q E hr=>F.run A outer s H args us vs Q E (hr.mono h)⟩
theorem Env0.make {P:Program} {w:World} {K:PySem.W.Frag} {mg:Str→Option Value} {base:Heap} {A:Around} {outer:List Env} {s:Shared} {H:Hp} (e:Env0 P w K mg base A outer s H) (C:Addr) (us:List Value) (kw:List (Str × Value)) :
  Env0 P w K mg base (A.under (.builtin "type.__call__" ⟨.ref C :: us,kw⟩)) outer s H:=⟨by first | exact e.frames | (simpa [Around.under,Code.envs,Code.isFrame,pushEnvs] using e.frames),e.mod,e.bs,e.bsz,e.funs,e.frf,e.hok,e.bare⟩
section
variable {X:Cx} {pins:List (Addr × Obj)} {σ:St} {H:Hp} {s s':Shared}
theorem Inv.env0 (I:Inv X pins σ H s):Env0 X.prog X.w X.K X.mg X.base X.A X.stack s H :=
 ⟨I.ok.frames,I.ok.mod,I.bs,Nat.le_trans I.ok.bsz I.sz,I.stack,I.stkFree,I.hok,I.bare⟩
theorem Inv.after {Q:VK} {u:Value} (I:Inv X pins σ H s) (h:CE X.stack X.prog X.w H s Q u s'):EP X pins σ Q u s':=by
 obtain ⟨v,H',os,bare,un,hok,r,q⟩:=h
 obtain ⟨hh,g,d,t,os'⟩:=s'
 obtain rfl:os'=s.os:=os
 exact ⟨v,H',I.call (h':=hh) (g':=g) (d':=d) (t':=t) (ch:=[]) un hok bare (fun b z=>absurd z (by simp)),r,q⟩
end
def tCall (sp:Sp) (dvs:List V) (E:XK) (t:TA):TE:=fun σ H Q=>t σ H fun vs H1=>sp (vs++dvs) H1 Q E
def tMeth (C:Addr) (m:Str) (sp:Sp) (dvs:List V) (E:XK) (ta:TE) (t:TA):TE:=fun σ H Q=>ta σ H fun x H1=>∃ a dx fs,x=.ref a∧H1 a=some (.ins C dx fs)∧fs.lookup m=none ∧
 t σ H1 fun vs H2=>sp (x :: (vs++dvs)) H2 Q E
def tMake (C:Addr) (sp:Sp) (dvs:List V) (E:XK) (t:TA):TE:=fun σ H Q=>t σ H fun vs H1=>∀ x dx,H1 x=none→H1 dx=none→dx≠x →
 sp (.ref x :: (vs++dvs)) (upd (upd H1 dx (.own x)) x (.ins C dx [])) (fun v H2=>v=.non∧Q (.ref x) H2) E
def Binds (K:PySem.W.Frag) (fd:FuncData) (ps:List Str) (ds:List Value):Prop :=
 ∀ (s:Shared) (us:List Value),K.In s.heap→(us++ds).length=ps.length→BindsTo s fd ⟨us,[]⟩ (ps.zip (us++ds))
theorem Binds.all {K:PySem.W.Frag} {fd:FuncData} {ps:List Str} (h:∀ us:List Value,us.length=ps.length→bindArgs fd ⟨us,[]⟩=pure (ps.zip us)):Binds K fd ps []:=fun s us _ hl=>by
 rw [List.append_nil] at hl ⊢
 exact .of_eq (h us hl)
def Passes (CX:CXT) (X:Cx) (E:XK):Prop:=∀ (pins:List (Addr × Obj)) (σ:St) (H:Hp) (s:Shared) (e:Value) (s':Shared),Inv X pins σ H s→CX X.stack H s E e s'→X.xe e s'
section
variable {X:Cx} {CX:CXT} {k:Nat} {f C:Addr} {fd:FuncData} {ps:List Str} {sp:Sp} {dvs:List V} {ds:List Value} {E:XK} {x m:Str} {p pos apos:Pos} {e o:Expr} {es:List Expr} {ta:TE} {t:TA}
theorem run_fn {pins:List (Addr × Obj)} {σ:St} {H:Hp} {s:Shared} {Q:VK} {us:List Value} {vs:List V} (F:FnOk X.prog X.w X.K X.mg X.base CX k f fd ps sp) (hr:Room k X.A) (hb:Binds X.K fd ps ds) (hd:Vals dvs ds) (hx:Passes CX X E)
  (I:Inv X pins σ H s) (r:Vals vs us) (h:sp (vs++dvs) H Q E):wpAny (model X.prog X.w) X.A (call (.ref f) us) (EP X pins σ Q) X.xe s:=by
 refine zh0 ?_;simp (disch:=k_dflt (
 refine zh2 ?_
 have r2:Vals (vs++dvs) (us++ds):=r.append hd
 have hl:(us++ds).length=ps.length:=by rw [← r2.length];exact F.len _ _ _ _ h
 refine wpAny_call (codeAny_mono (F.run X.A X.stack s H ⟨us,[]⟩ (us++ds) (vs++dvs) Q E hr I.env0 (hb s us I.kIn hl) r2 h) fun r s' hq=>?_)
 cases r with
 | error e=>exact hx pins σ H s e s' I hq
 | ok fl =>
  cases fl with
  | ret u=>exact I.after hq
  | next=>exact False.elim hq
  | brk=>exact False.elim hq
  | cont=>exact False.elim hq)) only [↓zh1]
theorem pe_call (F:FnOk X.prog X.w X.K X.mg X.base CX k f fd ps sp) (hr:Room k X.A) (hg:Gl X x) (hm:X.mg x=some (.ref f)) (hk:PySem.W.keepIn X.K (.ref f)=true) (hb:Binds X.K fd ps ds) (hd:Vals dvs ds) (hx:Passes CX X E)
  (ha:PA X (e :: es) t) (hdb:(x == ("__debug__":Str))=false:=by decide) (he:starEach (e :: es) X.env=(false,eval e X.env) :: starEach es X.env:=by rfl) (hpl:(backTo pos (starEach es X.env)).any (·.1)=false:=by rfl) :
  PE X (.Call (.Name x p) (e :: es) [] pos) (tCall sp dvs E t):=by
 refine zh0 ?_;simp (disch:=k_dflt (
 refine zh2 ?_
 intro pins s σ H Q I h
 refine wpAny_Call_Name_kw (ld_glob I hg hm ?_ hdb)
 refine PySem.W.callWith_K (h₀:=X.base) I.ok.mod.kin hk (thn (ha pos pins s σ H _ I h) fun us s1 ⟨vs,H1,I1,r,q⟩=>⟨I1.kIn,?_⟩) he hpl
 exact run_fn F hr hb hd hx I1 r q)) only [↓zh1]
theorem pe_meth {pl:Sem Bool} (he:PE X o ta) (c:Cls X.K C) (hm:Meth X.K C m f) (F:FnOk X.prog X.w X.K X.mg X.base CX k f fd ps sp) (hr:Room k X.A) (hb:Binds X.K fd ps ds) (hd:Vals dvs ds) (hx:Passes CX X E) (ha:PA X (e :: es) t)
  (hst:starEach (e :: es) X.env=(false,eval e X.env) :: starEach es X.env:=by rfl) (hpl:(backTo pos (starEach es X.env)).any (·.1)=false:=by rfl)
  (ht:eval (.Call (.Attribute o m apos) (e :: es) [] pos) X.env=(do
   let ov ← eval o X.env
   standAt apos.atName
   let (f,first) ← holding [ov] (getMethod ov m pl)
   callWith pos f first (backTo pos (starEach (e :: es) X.env)) (backToKw pos (keywordEach [] X.env))):=by rfl) :
  PE X (.Call (.Attribute o m apos) (e :: es) [] pos) (tMeth C m sp dvs E ta t):=by
 refine zh0 ?_;simp (disch:=k_dflt (
 refine zh2 ?_
 intro pins s σ H Q I h
 refine PySem.W.methodCall_KW (pl:=pl) (thn (he pins s σ H _ I h) fun u s1 ⟨x,H1,I1,rx,a,dx,fs,ex,ea,l,q⟩=>?_) ht
 subst ex
 obtain rfl:u=Value.ref a:=rx
 refine getmeth_ok I1 ea c hm l ?_
 refine PySem.W.callWith_K (first:=[.ref a]) (h₀:=X.base) I.ok.mod.kin hm.kp (thn (ha pos pins s1 σ H1 _ I1 q) fun us s2 ⟨vs,H2,I2,r,q2⟩=>⟨I2.kIn,?_⟩) hst hpl
 exact run_fn (us:=.ref a :: us) (vs:=.ref a :: vs) F hr hb hd hx I2 (.cons rfl r) q2)) only [↓zh1]
theorem pe_meth0 {pl:Sem Bool} (he:PE X o ta) (c:Cls X.K C) (hm:Meth X.K C m f) (F:FnOk X.prog X.w X.K X.mg X.base CX k f fd ps sp) (hr:Room k X.A) (hb:Binds X.K fd ps ds) (hd:Vals dvs ds) (hx:Passes CX X E)
  (ht:eval (.Call (.Attribute o m apos) [] [] pos) X.env=(do
   let ov ← eval o X.env
   standAt apos.atName
   let (f,first) ← holding [ov] (getMethod ov m pl)
   callWith pos f first (backTo pos (starEach [] X.env)) (backToKw pos (keywordEach [] X.env))):=by rfl) :
  PE X (.Call (.Attribute o m apos) [] [] pos) (tMeth C m sp dvs E ta tNil):=by
 refine zh0 ?_;simp (disch:=k_dflt (
 refine zh2 ?_
 intro pins s σ H Q I h
 refine PySem.W.methodCall_KW (pl:=pl) (thn (he pins s σ H _ I h) fun u s1 ⟨x,H1,I1,rx,a,dx,fs,ex,ea,l,q⟩=>?_) ht
 subst ex
 obtain rfl:u=Value.ref a:=rx
 refine getmeth_ok I1 ea c hm l ?_
 exact PySem.W.callWith_K0 (first:=[.ref a]) I1.kIn hm.kp (run_fn (us:=[.ref a]) (vs:=[.ref a]) F hr hb hd hx I1 (.cons rfl .nil) q))) only [↓zh1]
structure Mk (K:PySem.W.Frag) (C f:Addr):Prop where
 makes:PySem.W.makesIn K C=true
 init:PySem.W.findIn K (.ref C) "__init__"=some (some (.ref f))
 fn:PySem.W.isFn K (.ref f)=true
 kp:PySem.W.keepIn K (.ref C)=true
theorem run_make {pins:List (Addr × Obj)} {σ:St} {H:Hp} {s:Shared} {Q:VK} {us:List Value} {vs:List V} (M:Mk X.K C f) (F:FnOk X.prog X.w X.K X.mg X.base CX k f fd ps sp) (hr:Room (k + 1) X.A) (hb:Binds X.K fd ps ds) (hd:Vals dvs ds)
  (hx:Passes CX X E) (I:Inv X pins σ H s) (r:Vals vs us)
  (h:∀ x dx,H x=none→H dx=none→dx≠x→sp (.ref x :: (vs++dvs)) (upd (upd H dx (.own x)) x (.ins C dx [])) (fun v H2=>v=.non∧Q (.ref x) H2) E) :
  wpAny (model X.prog X.w) X.A (call (.ref C) us) (EP X pins σ Q) X.xe s:=by
 refine zh0 ?_;simp (disch:=k_dflt (
 refine zh2 ?_
 have hq:=h (s.heap.objs.size + 1) s.heap.objs.size (I.hok.fresh (Nat.le_succ _)) (I.hok.fresh (Nat.le_refl _)) (Nat.ne_of_lt (Nat.lt_succ_self _))
 have I2:=Inv.made (C:=C) I
 have r2:Vals (V.ref (s.heap.objs.size + 1) :: (vs++dvs)) (Value.ref (s.heap.objs.size + 1) :: (us++ds)):=.cons rfl (r.append hd)
 have hl:(Value.ref (s.heap.objs.size + 1) :: us++ds).length=ps.length:=by
  have e:=r2.length
  rw [F.len _ _ _ _ hq] at e
  exact e.symm
 refine wpAny_call (make_map (f:=f) I.kIn M.makes M.init (beq_iff_eq.mp M.fn) (codeAny_mono (F.run _ X.stack _ _ ⟨Value.ref (s.heap.objs.size + 1) :: us,[]⟩ (Value.ref (s.heap.objs.size + 1) :: (us++ds)) _ _ E (hr.make C us [])
  (I2.env0.make C us []) (hb _ (Value.ref (s.heap.objs.size + 1) :: us) I2.kIn hl) r2 hq) fun r s' hq'=>?_))
 cases r with
 | error e=>exact hx pins σ _ _ e s' I2 hq'
 | ok fl =>
  cases fl with
  | ret u =>
   obtain ⟨v,H',I3,rv,ev,q3⟩:=I2.after hq'
   subst ev
   exact ⟨rv,⟨V.ref (s.heap.objs.size + 1),H',I3,rfl,q3⟩⟩
  | next=>exact False.elim hq'
  | brk=>exact False.elim hq'
  | cont=>exact False.elim hq')) only [↓zh1]
theorem pe_make (M:Mk X.K C f) (F:FnOk X.prog X.w X.K X.mg X.base CX k f fd ps sp) (hr:Room (k + 1) X.A) (hg:Gl X x) (hm:X.mg x=some (.ref C)) (hb:Binds X.K fd ps ds) (hd:Vals dvs ds) (hx:Passes CX X E)
  (ha:PA X (e :: es) t) (hdb:(x == ("__debug__":Str))=false:=by decide) (he:starEach (e :: es) X.env=(false,eval e X.env) :: starEach es X.env:=by rfl) (hpl:(backTo pos (starEach es X.env)).any (·.1)=false:=by rfl) :
  PE X (.Call (.Name x p) (e :: es) [] pos) (tMake C sp dvs E t):=by
 refine zh0 ?_;simp (disch:=k_dflt (
 refine zh2 ?_
 intro pins s σ H Q I h
 refine wpAny_Call_Name_kw (ld_glob I hg hm ?_ hdb)
 refine PySem.W.callWith_K (h₀:=X.base) I.ok.mod.kin M.kp (thn (ha pos pins s σ H _ I h) fun us s1 ⟨vs,H1,I1,r,q⟩=>⟨I1.kIn,?_⟩) he hpl
 exact run_make M F hr hb hd hx I1 r q)) only [↓zh1]
theorem pe_make0 (M:Mk X.K C f) (F:FnOk X.prog X.w X.K X.mg X.base CX k f fd ps sp) (hr:Room (k + 1) X.A) (hg:Gl X x) (hm:X.mg x=some (.ref C)) (hb:Binds X.K fd ps ds) (hd:Vals dvs ds) (hx:Passes CX X E)
  (hdb:(x == ("__debug__":Str))=false:=by decide):PE X (.Call (.Name x p) [] [] pos) (tMake C sp dvs E tNil):=by
 intro pins s σ H Q I h
 refine wpAny_Call_Name_kw (ld_glob I hg hm ?_ hdb)
 exact PySem.W.callWith_K0 I.kIn M.kp (run_make (us:=[]) M F hr hb hd hx I .nil h)
end
section
variable {X:Cx} {CX:CXT} {k:Nat} {f C:Addr} {fd:FuncData} {ps ks:List Str} {sp:Sp} {E:XK} {x m:Str} {p pos apos kpos:Pos} {e o:Expr} {es:List Expr} {kws:List Keyword} {te ta:TE} {t tk:TA} {nm:Option Str}
variable {g:List Value→List Value→List Value} {gV:List V→List V→List V}
end
structure FnScope (N P:List Str) (sc:Scope):Prop where
 kind:sc.kind=.function
 co:sc.isCoroutine=false
 gen:sc.isGenerator=false
 nd:N.Nodup
 pre:N.take P.length=P
 par:∀ x∈P,sc.names.lookup x=some .local∨sc.names.lookup x=some .cell
 nofree:∀ y∈sc.names,y.2≠.free
theorem bindL_out {kindOf:Str→Option NameKind} {x:Str}:∀ {binds:List (Str × Value)} {m:Str→Option Value},(∀ v,(x,v) ∉ binds)→bindL kindOf binds m x=m x
 | [],_,_=>rfl
 | (n,v) :: r,m,h=>by
  unfold bindL
  rw [bindL_out fun w hw=>h w (List.mem_cons_of_mem _ hw)]
  split
  ·have:x≠n:=by rintro rfl;exact h v List.mem_cons_self
   simp [this]
  rfl
theorem bindC_out {kindOf:Str→Option NameKind} {x:Str}:∀ {binds:List (Str × Value)} {m:Str→Option Value},(∀ v,(x,v) ∉ binds)→bindC kindOf binds m x=m x
 | [],_,_=>rfl
 | (n,v) :: r,m,h=>by
  unfold bindC
  rw [bindC_out fun w hw=>h w (List.mem_cons_of_mem _ hw)]
  split
  ·rfl
  have:x≠n:=by rintro rfl;exact h v List.mem_cons_self
  simp [this]
theorem bindL_get {kindOf:Str→Option NameKind} {x:Str} {v:Value}:∀ {P:List Str} {vs:List Value} {i:Nat} {m:Str→Option Value},P.Nodup→P[i]?=some x→vs[i]?=some v→kindOf x=some .local →
  bindL kindOf (P.zip vs) m x=some v
 | [],_,_,_,_,h,_,_=>by simp at h
 | _ :: _,[],_,_,_,_,h,_=>by simp at h
 | p :: P,w :: vs,0,m,nd,h1,h2,hk=>by
  simp at h1 h2;subst h1;subst h2
  show bindL kindOf ((p,w) :: P.zip vs) m p=_
  unfold bindL
  rw [bindL_out fun v hv=>(List.nodup_cons.mp nd).1 (List.of_mem_zip hv).1,if_pos hk]
  simp
 | p :: P,w :: vs,i + 1,m,nd,h1,h2,hk=>by
  show bindL kindOf ((p,w) :: P.zip vs) m x=_
  unfold bindL
  exact bindL_get (i:=i) (List.nodup_cons.mp nd).2 (by simpa using h1) (by simpa using h2) hk
theorem bindC_get {kindOf:Str→Option NameKind} {x:Str} {v:Value}:∀ {P:List Str} {vs:List Value} {i:Nat} {m:Str→Option Value},P.Nodup→P[i]?=some x→vs[i]?=some v→kindOf x≠some .local →
  bindC kindOf (P.zip vs) m x=some v
 | [],_,_,_,_,h,_,_=>by simp at h
 | _ :: _,[],_,_,_,_,h,_=>by simp at h
 | p :: P,w :: vs,0,m,nd,h1,h2,hk=>by
  simp at h1 h2;subst h1;subst h2
  show bindC kindOf ((p,w) :: P.zip vs) m p=_
  unfold bindC
  rw [bindC_out fun v hv=>(List.nodup_cons.mp nd).1 (List.of_mem_zip hv).1,if_neg hk]
  simp
 | p :: P,w :: vs,i + 1,m,nd,h1,h2,hk=>by
  show bindC kindOf ((p,w) :: P.zip vs) m x=_
  unfold bindC
  exact bindC_get (i:=i) (List.nodup_cons.mp nd).2 (by simpa using h1) (by simpa using h2) hk
def start (N:List Str) (vs:List V):St:=vs.map some++List.replicate (N.length - vs.length) none
def cxOf (CX:CXT) (P:Program) (w:World) (K:PySem.W.Frag) (mg:Str→Option Value) (base:Heap) (N:List Str) (qual:Str) (scope:Scope) (f:Addr) (cd:Value) (A:Around) (outer:List Env) (s:Shared) (H:Hp) (E:XK):Cx where
 prog:=P
 w:=w
 K:=K
 mg:=mg
 base:=base
 A:=A.deeper (envOfC qual scope s.heap.objs.size f cd)
 N:=N
 s_0:=s
 H_0:=H
 env:=envOfC qual scope s.heap.objs.size f cd
 outer:=outer
 stack:=envOfC qual scope s.heap.objs.size f cd :: outer
 ex:=[]
 calm:=true
 fn:=fun _=>true
 pn:=[]
 xe:=fun e s'=>wpAny (model P w) (A.deeper (envOfC qual scope s.heap.objs.size f cd)) (leaving (envOfC qual scope s.heap.objs.size f cd) e) (fun _ s''=>CX outer H s E e s'') (fun e' s''=>CX outer H s E e' s'') s'
theorem cell_has {sc:Scope} {n:Nat} {x:Str} (h:sc.names.lookup x=some .cell):∃ c,(cellsFrom n sc.names []).lookup x=some c:=by
 have q:=PySem.W.cellsFrom_some sc.names n [] (.inl h)
 exact Option.isSome_iff_exists.mp q
theorem inv_start {CX:CXT} {P:Program} {w:World} {K:PySem.W.Frag} {mg:Str→Option Value} {base:Heap} {N ps:List Str} {qual:Str} {scope:Scope} {f:Addr} {cd:Value} {A:Around} {outer:List Env} {s s1:Shared} {H:Hp} {E:XK} {us:List Value} {vs:List V}
  (S:FnScope N ps scope) (hd:A.handled=none) (e0:Env0 P w K mg base A outer s H) (hl:vs.length=ps.length) (r:Vals vs us)
  (x:InCallC s s.heap.objs.size (bindL (envOfC qual scope s.heap.objs.size f cd).kindOf (ps.zip us) fun _=>none) (cellsFrom (s.heap.objs.size + 1) scope.names []) (bindC (envOfC qual scope s.heap.objs.size f cd).kindOf (ps.zip us) fun _=>none) s1) :
  Inv (cxOf CX P w K mg base N qual scope f cd A outer s H E) [] (start N vs) H s1:=by
 refine zh0 ?_;simp (disch:=k_dflt (
 refine zh2 ?_
 have hpl:ps.length≤N.length:=by have:=congrArg List.length S.pre;rw [List.length_take] at this;omega
 obtain ⟨h1,tk,rfl,hk⟩:=x.done
 have noA:∀ b:Addr,b ∉ (cxOf CX P w K mg base N qual scope f cd A outer s H E).ex:=fun b z=>absurd (show b∈([]:List Addr) from z) (by simp)
 refine ⟨⟨e0.mod,S.kind,rfl,rfl,Nat.le_refl _,fun y z c h1 h2=>?_,fun y hy=>?_,fun y c _ h=>?_,fun _=>hd,Around.frames_deeper e0.frames,.inr ⟨rfl,rfl⟩,fun b z=>absurd z (noA b),e0.bs,e0.bsz,fun b _ _=>noA b,fun b z=>absurd z (noA b),e0.funs,e0.frf⟩,
  rfl,e0.bare,Un.kept hk,⟨_,x.toInCall.ns,fun i y v h1 h2 h3=>?_⟩,fun y c h=>⟨_,x.cell y c h⟩,e0.hok.fresh (Nat.le_refl _),fun y c h=>?_,fun p hp=>absurd (show p∈([]:List (Addr × Obj)) from hp) (by simp),e0.hok.kept hk,?_⟩
 ·exact name_of_addr x.apart (PySem.mem_of_lookup h1) (PySem.mem_of_lookup h2)
 ·have hy:scope.names.lookup y=some .cell∨scope.names.lookup y=some .free:=hy
  rcases hy with hy | hy
  ·exact cell_has hy
  exact absurd rfl (S.nofree _ (PySem.mem_of_lookup hy))
 ·exact Nat.le_of_lt (x.above y c (PySem.mem_of_lookup h))
 ·have hi:i < vs.length:=by
   unfold start at h2
   by_cases hi:i < vs.length
   ·exact hi
   rw [List.getElem?_append_right (by simpa using hi)] at h2
   rw [List.getElem?_replicate] at h2
   split at h2 <;> cases h2
  have ha:vs[i]?=some v:=by
   unfold start at h2
   rw [List.getElem?_append_left (by simpa using hi),List.getElem?_map] at h2
   cases e:vs[i]? with
   | none=>rw [e] at h2;cases h2
   | some a=>rw [e] at h2;cases h2;rfl
  obtain ⟨u,hu,rv⟩:=r.get ha
  have hp:ps[i]?=some y:=by
   rw [← S.pre,List.getElem?_take_of_lt (by omega)];exact h1
  have ndP:ps.Nodup:=by rw [← S.pre];exact S.nd.sublist (List.take_sublist _ _)
  refine ⟨u,rv,?_⟩
  rcases S.par y (List.mem_of_getElem? hp) with k | k
  ·exact .inl ⟨k,bindL_get ndP hp hu k⟩
  obtain ⟨c,e⟩:=cell_has (n:=s.heap.objs.size + 1) k
  refine .inr ⟨.inl k,c,e,?_⟩
  have q:=x.cell y c e
  rw [bindC_get ndP hp hu (by show scope.names.lookup y≠_;rw [k];decide)] at q
  exact q
 ·exact e0.hok.fresh (Nat.le_of_lt (x.above y c (PySem.mem_of_lookup h)))
 unfold start
 show _=N.length
 rw [List.length_append,List.length_map,List.length_replicate]
 omega)) only [↓zh1]
theorem fn_of {CX:CXT} {P:Program} {w:World} {K:PySem.W.Frag} {mg:Str→Option Value} {base:Heap} {k:Nat} {f:Addr} {name qual:Str} {params:Arguments} {body:List Stmt} {scope:Scope} {dV kV doc pm cdv ct oc:Value} {an od:Option Addr}
  {osl:Array (Option Value)} {N ps:List Str} {sp:Sp} (lk:K.lookup f=some ⟨oc,od,.func (PySem.W.fnOf name qual params body scope dV kV doc pm an cdv ct),osl⟩) (hcd:PySem.W.codeIn K cdv qual=true) (S:FnScope N ps scope)
  (len:∀ vs H Q E,sp vs H Q E→vs.length=ps.length)
  (hbody:∀ (A:Around) (outer:List Env) (s:Shared) (H:Hp) (vs:List V) (Q:VK) (E:XK),Room k (A.deeper (envOfC qual scope s.heap.objs.size f cdv))→sp vs H Q E →
   ∃ t,PSs (cxOf CX P w K mg base N qual scope f cdv A outer s H E) body t∧t { nx:=fun _ H'=>Q .non H',rt:=Q } (start N vs) H) :
  FnOk P w K mg base CX (k + 1) f (PySem.W.fnOf name qual params body scope dV kV doc pm an cdv ct) ps sp:=by
 refine zh0 ?_;simp (disch:=k_dflt (
 refine zh2 ?_
 refine ⟨len,fun A outer s H args us vs Q E hr e0 hb r hsp=>?_⟩
 have hl:=len _ _ _ _ hsp
 have KX:K.In s.heap:=e0.mod.kin.keeps fun b o e=>(e0.bs b o e).1
 have lim:s.heap.NoLimit:=e0.mod.nolimit.keeps fun b o e=>(e0.bs b o e).1
 have hkind:∀ y∈ps.zip us,scope.names.lookup y.1=some .local∨(scope.names.lookup y.1=some .cell∧((cellsFrom (s.heap.objs.size + 1) scope.names []).lookup y.1).isSome=true):=fun ⟨n,v⟩ hy=>by
  rcases S.par n (List.of_mem_zip hy).1 with q | q
  ·exact .inl q
  exact .inr ⟨q,PySem.W.cellsFrom_some _ _ _ (.inl q)⟩
 refine codeAny_call_function hr.depth (KX _ _ lk) rfl S.co S.gen rfl (PySem.W.codeRec_of KX hcd) (hb _ _ _ _ ?_)
 refine wpAny_newFunctionEnv_cells S.kind hkind fun env he s1 x=>?_
 subst he
 refine ⟨lim.keeps x.toInCall.keep,codeAny_func ?_⟩
 obtain ⟨t,ht,hq⟩:=hbody A outer s H vs Q E (hr.deeper _) hsp
 have I:Inv (cxOf CX P w K mg base N qual scope f cdv A outer s H E) [] (start N vs) H s1:=inv_start S hr.hd e0 hl r x
 refine wpAny_mono (ht [] s1 (start N vs) H _ I hq) (fun fl s' hs=>?_) fun e s' hs=>hs
 have fin:∀ {σ':St} {H':Hp} {v:V} {u:Value},Inv (cxOf CX P w K mg base N qual scope f cdv A outer s H E) [] σ' H' s'→RelV v u→Q v H'→CE outer P w H s Q u s' :=
  fun {σ' H' v u} J rv q=>⟨v,H',J.os,J.bare,J.base,J.hok,rv,q⟩
 cases fl with
 | ret u =>
  obtain ⟨v,σ',H',J,rv,q⟩:=hs
  exact fin J rv q
 | next =>
  obtain ⟨σ',H',J,q⟩:=hs
  exact fin (v:=V.non) (u:=Value.none) J rfl q
 | brk =>
  obtain ⟨_,_,_,q⟩:=hs
  exact False.elim q
 | cont =>
  obtain ⟨_,_,_,q⟩:=hs
  exact False.elim q)) only [↓zh1]
end L2
namespace L2
open PySem PySem.Spec PyProof.Rows
section
variable {X:Cx} {x:Str} {p pos:Pos} {e:Expr} {es:List Expr} {t:TA} {id T:String} {r:List V→Hp→VK→Prop}
def tCB (r:List V→Hp→VK→Prop) (t:TA):TE:=fun σ H Q=>t σ H fun vs H1=>r vs H1 Q
theorem pe_callB (hc:CallR X (.builtin id) r) (hg:Gl X x) (hm:X.mg x=none) (hv:bootBuiltins x=some (.builtin id)) (ha:PA X (e :: es) t) (hn:x≠"__name__":=by decide) (hdb:(x == ("__debug__":Str))=false:=by decide)
  (he:starEach (e :: es) X.env=(false,eval e X.env) :: starEach es X.env:=by rfl) (hpl:(backTo pos (starEach es X.env)).any (·.1)=false:=by rfl):PE X (.Call (.Name x p) (e :: es) [] pos) (tCB r t):=by
 intro pins s σ H Q I h
 refine wpAny_Call_Name_kw (ld_blt I hg hm hv ?_ hn hdb)
 exact PyProof.Rows.callWith_builtin1 (thn (ha pos pins s σ H _ I h) fun us s1 ⟨vs,H1,I1,r1,q1⟩=>hc pins s1 σ H1 vs us Q I1 r1 q1) he hpl
theorem pe_callTy (hc:CallR X (.type T) r) (hg:Gl X x) (hm:X.mg x=none) (hv:bootBuiltins x=some (.type T)) (ha:PA X (e :: es) t) (hn:x≠"__name__":=by decide) (hdb:(x == ("__debug__":Str))=false:=by decide)
  (he:starEach (e :: es) X.env=(false,eval e X.env) :: starEach es X.env:=by rfl) (hpl:(backTo pos (starEach es X.env)).any (·.1)=false:=by rfl):PE X (.Call (.Name x p) (e :: es) [] pos) (tCB r t):=by
 intro pins s σ H Q I h
 refine wpAny_Call_Name_kw (ld_blt I hg hm hv ?_ hn hdb)
 exact PyProof.Rows.callWith_type1 (thn (ha pos pins s σ H _ I h) fun us s1 ⟨vs,H1,I1,r1,q1⟩=>hc pins s1 σ H1 vs us Q I1 r1 q1) he hpl
end
end L2
namespace HT
open PySem PyProof.Rows
section
open PySem.SeqAt
open PySem.AutoSeq1 (wpAny_loadPart')
open PySem.MeetsSeq PySem.MeetsSeq2 PySem.MeetsSeq3
end
section
variable {prog:Program} {w:World} {A:Around} {E:Value→Shared→Prop} {s:Shared}
def sIx (n d:Nat):Option Int→Nat
 | none=>d
 | some v=>if v < 0 then (v + (n:Int)).toNat else min v.toNat n
theorem sIx_nat (n d k:Nat):sIx n d (some (k:Int))=min k n:=by
 show (if (k:Int) < 0 then ((k:Int) + (n:Int)).toNat else min (k:Int).toNat n)=min k n
 rw [if_neg (by omega),Int.toNat_natCast]
end
end HT
namespace L2
open PySem PySem.Spec PyProof.Rows
abbrev TO:=St→Hp→(Option Int→Hp→Prop)→Prop
def PO (X:Cx) (e:Option Expr) (t:TO):Prop :=
 ∀ (pins:List (Addr × Obj)) (s:Shared) (σ:St) (H:Hp) (Q:Option Int→Hp→Prop),Inv X pins σ H s→t σ H Q →
  wpAny (model X.prog X.w) X.A (evalPart e X.env) (fun u s'=>∃ o H',Inv X pins σ H' s'∧IsPart u o∧Q o H') X.xe s
def tNoPart:TO:=fun _ H Q=>Q none H
def tPart (t:TE):TO:=fun σ H Q=>t σ H fun x H1=>∃ i,x=.int i∧Q (some i) H1
section
variable {X:Cx} {e:Expr} {te:TE} {lo hi:Option Expr} {tl th:TO} {pos p2:Pos}
theorem po_none:PO X none tNoPart:=by
 intro pins s σ H Q I h
 rw [evalPart_none]
 exact wpAny_pure ⟨none,H,I,.none,h⟩
theorem po_some (h:PE X e te):PO X (some e) (tPart te):=by
 intro pins s σ H Q I hw
 rw [evalPart_some]
 refine thn (h pins s σ H _ I hw) fun u s1 ⟨x,H1,I1,r1,q1⟩=>?_
 obtain ⟨i,rfl,q⟩:=q1
 obtain ⟨t,rfl⟩:=r1
 exact ⟨some i,H1,I1,.int i t,q⟩
def SlR (X:Cx) (r:V→Option Int→Option Int→Hp→VK→Prop):Prop :=
 ∀ (pins:List (Addr × Obj)) (s:Shared) (σ:St) (H:Hp) (x:V) (v vl vu:Value) (lo hi:Option Int) (sl:Addr) (Q:VK),Inv X pins σ H s→RelV x v→s.heap.IsSliceOf sl vl vu .none→IsPart vl lo→IsPart vu hi→r x lo hi H Q →
  ∃ T id,typeLookup (.type T) "__getitem__"=pure (some (.builtin id))∧s.TypeIs v T∧wpAny (model X.prog X.w) X.A (getItem v (.ref sl)) (EP X pins σ Q) X.xe s
def tSl (r:V→Option Int→Option Int→Hp→VK→Prop) (te:TE) (tl th:TO):TE:=fun σ H Q=>te σ H fun x H1=>tl σ H1 fun l H2=>th σ H2 fun u H3=>r x l u H3 Q
theorem pe_slice {r:V→Option Int→Option Int→Hp→VK→Prop} (hr:SlR X r) (he:PE X e te) (hl:PO X lo tl) (hu:PO X hi th):PE X (.Subscript e (.Slice lo hi none p2) pos) (tSl r te tl th):=by
 refine zh0 ?_;simp (disch:=k_dflt (
 refine zh2 ?_
 intro pins s σ H Q I h
 refine Subscript_ (thn (he pins s σ H _ I h) fun v s1 ⟨x,H1,I1,r1,q1⟩=>?_)
 refine wpAny_Slice (thn (hl pins s1 σ H1 _ I1 q1) fun vl s2 ⟨l,H2,I2,pl,q2⟩=>thn (hu pins s2 σ H2 _ I2 q2) fun vu s3 ⟨u,H3,I3,pu,q3⟩=>?_)
 rw [evalPart_none]
 refine wpAny_pure ?_
 have I4:Inv X pins σ H3 { s3 with heap:=s3.heap.push { cls:=.type "slice",data:=.fields #[vl,vu,.none] } }:=I3.kept (t':=s3.toks) fun b ob q=>Heap.get?_push_of_some _ q
 obtain ⟨T,id,hT,ht,hg⟩:=hr pins { s3 with heap:=s3.heap.push { cls:=.type "slice",data:=.fields #[vl,vu,.none] } } σ H3 x v vl vu l u s3.heap.objs.size Q I4 r1 (Heap.IsSliceOf.new ..) pl pu q3
 show wpAny (model X.prog X.w) X.A (subscriptTail e (.Slice lo hi none p2) v (.ref s3.heap.objs.size)) (EP X pins σ Q) X.xe { s3 with heap:=s3.heap.push { cls:=.type "slice",data:=.fields #[vl,vu,.none] } }
 exact tail_any (ops:=[.ref s3.heap.objs.size,v]) ht hT hg (by with_unfolding_all rfl))) only [↓zh1]
def cutV (xs:List V) (lo hi:Option Int):List V:=(xs.drop (HT.sIx xs.length 0 lo)).take (HT.sIx xs.length xs.length hi - HT.sIx xs.length 0 lo)
theorem cutV_length (xs:List V) (lo hi:Option Int):(cutV xs lo hi).length≤xs.length:=by
 unfold cutV
 rw [List.length_take,List.length_drop]
 omega
end
end L2
namespace L2
open PySem PySem.Spec PyProof.Rows
def ixN (n:Nat) (i:Int):Option Nat:=if 0≤i then (if i < n then some i.toNat else none) else if -(n:Int)≤i then some (i + n).toNat else none
def atI {α:Type} (xs:List α) (i:Int):Option α:=(ixN xs.length i).bind fun j=>xs[j]?
theorem ixN_seq {n:Nat} {i:Int} {j:Nat} (h:ixN n i=some j):seqIndex? i n=some j∧j < n∧-(n:Int)≤i∧i < n:=by
 refine zh0 ?_;simp (disch:=k_dflt (
 refine zh2 ?_
 unfold ixN at h
 by_cases h0:0≤i
 ·rw [if_pos h0] at h
  by_cases h1:i < n
  ·rw [if_pos h1] at h
   have e:i.toNat=j:=Option.some.inj h
   exact ⟨by rw [seqIndex_of h0 h1,e],by omega,by omega,h1⟩
  rw [if_neg h1] at h;cases h
 rw [if_neg h0] at h
 by_cases h1:-(n:Int)≤i
 ·rw [if_pos h1] at h
  have e:(i + n).toNat=j:=Option.some.inj h
  exact ⟨by rw [seqIndex_neg (by omega) h1,e],by omega,h1,by omega⟩
 rw [if_neg h1] at h;cases h)) only [↓zh1]
theorem atI_get {α:Type} {xs:List α} {i:Int} {v:α} (h:atI xs i=some v):∃ j,seqIndex? i xs.length=some j∧xs[j]?=some v∧j < xs.length∧-(xs.length:Int)≤i∧i < xs.length:=by
 unfold atI at h
 cases e:ixN xs.length i with
 | none=>rw [e] at h;cases h
 | some j =>
  rw [e] at h
  obtain ⟨h1,h2,h3,h4⟩:=ixN_seq e
  exact ⟨j,h1,h,h2,h3,h4⟩
theorem atI_nat {α:Type} {xs:List α} {j:Nat} {v:α} (h:xs[j]?=some v):atI xs (j:Int)=some v:=by
 have hj:j < xs.length:=(List.getElem?_eq_some_iff.mp h).1
 have e:ixN xs.length (j:Int)=some j:=by
  unfold ixN
  rw [if_pos (by omega),if_pos (by omega)];simp
 unfold atI;rw [e];exact h
def PlainIx (b:Expr):Prop:=∀ o i,subscripted b false o i=operate [o,i] (getItem o i)
def IxR (X:Cx) (r:R2):Prop :=
 ∀ (value slice:Expr) (pins:List (Addr × Obj)) (s:Shared) (σ:St) (H:Hp) (x y:V) (v u:Value) (Q:VK),Inv X pins σ H s→RelV x v→RelV y u→r x y H Q →
  subscripted slice false v u=operate [v,u] (getItem v u)→wpAny (model X.prog X.w) X.A (subscriptTail value slice v u) (EP X pins σ Q) X.xe s
def MtR (X:Cx) (id:String) (r:V→List V→Hp→VK→Prop):Prop :=
 ∀ (pins:List (Addr × Obj)) (s:Shared) (σ:St) (H:Hp) (x:V) (xs:List V) (v:Value) (us:List Value) (Q:VK),Inv X pins σ H s→RelV x v→Vals xs us→r x xs H Q →
  wpAny (model X.prog X.w) X.A (call (.builtin id) (v :: us)) (EP X pins σ Q) X.xe s
section
variable {X:Cx} {a b:Expr} {ta tb:TE} {pos:Pos}
theorem pe_ix {r:R2} (hr:IxR X r) (ha:PE X a ta) (hb:PE X b tb) (hs:PlainIx b):PE X (.Subscript a b pos) (tOp r ta tb):=by
 intro pins s σ H Q I h
 exact Subscript_ (binT ha hb I h fun v u s2 x y H2 I2 rx ry q=>hr a b pins s2 σ H2 x y v u Q I2 rx ry q (hs _ _))
def rIxL (K:PySem.W.Frag):R2:=fun x y H Q=>∃ p xs i v,x=.ref p∧y=.int i∧SqL K H p xs∧atI xs i=some v∧Q v H
def rIxT (K:PySem.W.Frag):R2:=fun x y H Q=>∃ p xs i v,x=.ref p∧y=.int i∧SqT K H p xs∧atI xs i=some v∧Q v H
theorem ix_list:IxR X (rIxL X.K):=by
 refine zh0 ?_;simp (disch:=k_dflt (
 refine zh2 ?_
 intro value slice pins s σ H x y v u Q I rx ry h hs
 obtain ⟨p,xs,i,z,rfl,rfl,hq,he,q⟩:=h
 cases rx
 obtain ⟨t,rfl⟩:=ry
 obtain ⟨its,r,pl,hz⟩:=I.list hq
 obtain ⟨j,h1,h2,h3,h4,h5⟩:=atI_get he
 obtain ⟨w,ew,rw'⟩:=r.get h2
 have hl:=r.length
 have hn:=line63
 have fin:EP X pins σ Q w s:=⟨z,H,I,rw',q⟩
 by_cases h0:0≤i
 ·have hj:i.toNat=j:=by
   rw [seqIndex_of h0 h5] at h1
   exact Option.some.inj h1
  exact item_listR pl.isList h0 (by omega) (by rw [hj];simpa using ew) fin hs
 have hj:(i + (its.toArray.size:Int)).toNat=j:=by
  rw [seqIndex_neg (by omega) h4] at h1
  rw [List.size_toArray,← hl]
  exact Option.some.inj h1
 exact subscriptTail_builtinR (x:=w) pl.isList.typeIs slot_list_getitem.lookup
  (wpAny_getItem_list_neg (Q:=fun r s'=>r=w∧EP X pins σ Q r s') pl.isList (by omega) (by rw [List.size_toArray] <;> omega) (by omega) (by rw [hj];simpa using ew) ⟨rfl,fin⟩) hs)) only [↓zh1]
theorem ix_tup:IxR X (rIxT X.K):=by
 refine zh0 ?_;simp (disch:=k_dflt (
 refine zh2 ?_
 intro value slice pins s σ H x y v u Q I rx ry h hs
 obtain ⟨p,xs,i,z,rfl,rfl,hq,he,q⟩:=h
 cases rx
 obtain ⟨t,rfl⟩:=ry
 obtain ⟨its,r,pl,hz⟩:=I.tuple hq
 obtain ⟨j,h1,h2,h3,h4,h5⟩:=atI_get he
 obtain ⟨w,ew,rw'⟩:=r.get h2
 have hl:=r.length
 have hn:=line63
 have fin:EP X pins σ Q w s:=⟨z,H,I,rw',q⟩
 exact subscriptTail_builtinR (x:=w) pl.typeIs slot_tuple_getitem.lookup
  (getItem_tuple (j:=j) (Q:=fun r s'=>r=w∧EP X pins σ Q r s') pl (by omega) (by omega) (by rw [List.size_toArray,← hl];exact h1) (by simpa using ew) ⟨rfl,fin⟩) hs)) only [↓zh1]
theorem mapSeq_set (its:List Value) (n j:Nat) (u:Value):Obj.mapSeq (·.setIfInBounds j u) { cls:=.type "list",data:=.seq its.toArray n }={ cls:=.type "list",data:=.seq (its.set j u).toArray n }:=by
 simp [Obj.mapSeq]
theorem Inv.lst {pins:List (Addr × Obj)} {σ:St} {H:Hp} {s:Shared} {p:Addr} {xs:List V} (I:Inv X pins σ H s) (h:H p=some (.lst xs)) :
  ∃ (its:List Value) (n:Nat),Vals xs its∧s.heap.get? p=some { cls:=.type "list",data:=.seq its.toArray n }∧xs.length≤sizeLine:=by
 obtain ⟨z,its,n,r,e⟩:=I.hok p _ h
 exact ⟨its,n,r,e,z⟩
theorem Inv.lstUpd {pins:List (Addr × Obj)} {σ:St} {H:Hp} {s:Shared} {p:Addr} {xs ys:List V} {its its':List Value} {n n':Nat} {f:Obj→Obj} (I:Inv X pins σ H s) (h:H p=some (.lst xs))
  (ho:s.heap.get? p=some { cls:=.type "list",data:=.seq its.toArray n }) (hf:f { cls:=.type "list",data:=.seq its.toArray n }={ cls:=.type "list",data:=.seq its'.toArray n' }) (r:Vals ys its') (hz:ys.length≤sizeLine) (t:Nat) :
  Inv X pins σ (upd H p (.lst ys)) { s with heap:=s.heap.update p f,toks:=t }:=by
 refine zh0 ?_;simp (disch:=k_dflt (
 refine zh2 ?_
 have e:(s.heap.update p f).get? p=some { cls:=.type "list",data:=.seq its'.toArray n' }:=by
  rw [Heap.get?_update_self f ho (by rw [hf] <;> rfl),hf]
 refine I.write (x:=p) (e:=p) (by rw [h];trivial) (.inl rfl) (fun b u hb q=>(Heap.get?_update_other _ _ (Ne.symm hb)).trans q) ⟨_,e⟩ ?_
 exact ⟨hz,its',n',r,e⟩)) only [↓zh1]
def rSetL:V→V→V→Hp→(Hp→Prop)→Prop:=fun o i v H Q=>∃ p xs k j,o=.ref p∧i=.int k∧H p=some (.lst xs)∧ixN xs.length k=some j∧Q (upd H p (.lst (xs.set j v)))
theorem set_list:PSet X rSetL:=by
 refine zh0 ?_;simp (disch:=k_dflt (
 refine zh2 ?_
 intro pins s σ H o i v ov iv u Q I ro ri rv h
 obtain ⟨p,xs,k,j,rfl,rfl,hp,hj,q⟩:=h
 cases ro
 obtain ⟨t,rfl⟩:=ri
 obtain ⟨its,n,r,ho,hz⟩:=I.lst hp
 obtain ⟨h1,h2,h3,h4⟩:=ixN_seq hj
 have hl:=r.length
 have hn:=line63
 have I':Inv X pins σ (upd H p (.lst (xs.set j v))) { s with heap:=s.heap.update p (Obj.mapSeq (·.setIfInBounds j u)) } :=
  I.lstUpd hp ho (mapSeq_set its n j u) (r.set rv j) (by rw [List.length_set];exact hz) s.toks
 by_cases h0:0≤k
 ·have hk:k.toNat=j:=by
   rw [seqIndex_of h0 h4] at h1
   exact Option.some.inj h1
  exact PySem.W.ki_setAt ho h0 (by omega) (by rw [List.size_toArray,← hl];exact h4) (by rw [hk];exact ⟨_,I',q⟩)
 have hk:(k + (its.toArray.size:Int)).toNat=j:=by
  rw [seqIndex_neg (by omega) h3] at h1
  rw [List.size_toArray,← hl]
  exact Option.some.inj h1
 exact PySem.W.ki_setBack ho (by omega) (by rw [List.size_toArray,← hl];exact h3) (by omega) (by rw [hk];exact ⟨_,I',q⟩))) only [↓zh1]
theorem slice_bounds (lo hi:Option Int) (n:Nat):(sliceBounds lo hi none n).1=((HT.sIx n 0 lo:Nat):Int)∧(sliceBounds lo hi none n).2.1=((HT.sIx n n hi:Nat):Int)∧(sliceBounds lo hi none n).2.2=1:=by
 refine zh0 ?_;simp (disch:=k_dflt (
 refine zh2 ?_
 refine ⟨?_,?_,rfl⟩
 ·cases lo with
  | none=>simp [sliceBounds,HT.sIx]
  | some i =>
   simp only [sliceBounds,HT.sIx,Option.getD_none,show (1:Int) > 0 by decide,if_true]
   by_cases h:i < 0
   ·simp only [h,if_true] <;> omega
   simp only [h,if_false] <;> omega
 cases hi with
 | none=>simp [sliceBounds,HT.sIx]
 | some i =>
  simp only [sliceBounds,HT.sIx,Option.getD_none,show (1:Int) > 0 by decide,if_true]
  by_cases h:i < 0
  ·simp only [h,if_true] <;> omega
  simp only [h,if_false] <;> omega)) only [↓zh1]
theorem slicePick_cut (its:List Value) (lo hi:Option Int):slicePick its.toArray lo hi none=((its.drop (HT.sIx its.length 0 lo)).take (HT.sIx its.length its.length hi - HT.sIx its.length 0 lo)).toArray:=by
 obtain ⟨h1,h2,h3⟩:=slice_bounds lo hi its.toArray.size
 unfold slicePick
 rw [h1,h2,h3]
 simp only [sliceRange_one,pick_run,List.size_toArray] <;> rfl
def rSlL (K:PySem.W.Frag):V→Option Int→Option Int→Hp→VK→Prop:=fun x lo hi H Q=>∃ a xs,x=.ref a∧SqL K H a xs∧∀ p,H p=none→Q (.ref p) (upd H p (.lst (cutV xs lo hi)))
theorem sl_list:SlR X (rSlL X.K):=by
 refine zh0 ?_;simp (disch:=k_dflt (
 refine zh2 ?_
 intro pins s σ H x v vl vu lo hi sl Q I rx hs pl pu h
 obtain ⟨a,xs,rfl,hx,q⟩:=h
 cases rx
 obtain ⟨its,r,ht,hz⟩:=I.list hx
 have hlen:=r.length
 refine ⟨"list",_,slot_list_getitem.lookup,ht.isList.typeIs,?_⟩
 refine wpAny_getItem_list_slice ht.isList hs pl pu .none (by simp) ?_ (by rw [List.size_toArray] <;> omega)
 rw [slicePick_cut,← hlen]
 refine ⟨.ref s.heap.objs.size,_,I.laid (t':=s.toks) (o:=.lst (cutV xs lo hi)) (fun b ob q=>Heap.get?_push_of_some _ q) (Nat.le_refl _) ?_,rfl,q _ (I.hok.fresh (Nat.le_refl _))⟩
 exact ⟨Nat.le_trans (cutV_length xs lo hi) hz,_,0,(r.drop (HT.sIx xs.length 0 lo)).take (HT.sIx xs.length xs.length hi - HT.sIx xs.length 0 lo),Heap.get?_push_size _ rfl⟩)) only [↓zh1]
def flatV:V→Bool
 | .non=>true
 | .bl _=>true
 | .int _=>true
 | .str _=>true
 | _=>false
def eqV:V→V→Bool
 | .non,.non=>true
 | .bl a,.bl b=>a == b
 | .bl a,.int b=>(if a then 1 else 0) == b
 | .int a,.bl b=>a == (if b then 1 else 0)
 | .int a,.int b=>a == b
 | .str a,.str b=>a == b
 | _,_=>false
theorem eqAt_V {A:Around} {s:Shared} {y x:V} {u v:Value} (ry:RelV y u) (rx:RelV x v) (fy:flatV y=true) (fx:flatV x=true):SeqAt.EqAt A s u v (eqV y x):=by
 refine zh0 ?_;simp (disch:=k_dflt (
 refine zh2 ?_
 cases y with
 | non =>
  cases ry
  cases x with
  | non=>cases rx;exact SeqAt.EqAt.same _
  | bl b=>cases rx;exact SeqAt.EqAt.none_bool b
  | int b=>obtain ⟨t,rfl⟩:=rx;exact SeqAt.EqAt.none_int b t
  | str b=>obtain ⟨t,rfl⟩:=rx;exact SeqAt.EqAt.none_str b t
  | _=>exact absurd (show false=true from fx) Bool.false_ne_true
 | bl a =>
  cases ry
  cases x with
  | non=>cases rx;exact SeqAt.EqAt.bool_none a
  | bl b=>cases rx;exact SeqAt.EqAt.bool_bool a b
  | int b=>obtain ⟨t,rfl⟩:=rx;exact SeqAt.EqAt.bool_int a b t
  | str b=>obtain ⟨t,rfl⟩:=rx;exact SeqAt.EqAt.bool_str a b t
  | _=>exact absurd (show false=true from fx) Bool.false_ne_true
 | int a =>
  obtain ⟨t',rfl⟩:=ry
  cases x with
  | non=>cases rx;exact SeqAt.EqAt.int_none a t'
  | bl b=>cases rx;exact SeqAt.EqAt.int_bool a t' b
  | int b=>obtain ⟨t,rfl⟩:=rx;exact SeqAt.EqAt.int_int a t' b t
  | str b=>obtain ⟨t,rfl⟩:=rx;exact SeqAt.EqAt.int_str a t' b t
  | _=>exact absurd (show false=true from fx) Bool.false_ne_true
 | str a =>
  obtain ⟨t',rfl⟩:=ry
  cases x with
  | non=>cases rx;exact SeqAt.EqAt.str_none a t'
  | bl b=>cases rx;exact SeqAt.EqAt.str_bool a t' b
  | int b=>obtain ⟨t,rfl⟩:=rx;exact SeqAt.EqAt.str_int a t' b t
  | str b=>obtain ⟨t,rfl⟩:=rx;exact SeqAt.EqAt.str_str a t' b t
  | _=>exact absurd (show false=true from fx) Bool.false_ne_true
 | _=>exact absurd (show false=true from fy) Bool.false_ne_true)) only [↓zh1]
def eqU (x:V) (u:Value):Bool:=match u with
 | .none=>eqV .non x
 | .bool b=>eqV (.bl b) x
 | .int i _=>eqV (.int i) x
 | .str z _=>eqV (.str z) x
 | _=>false
theorem eqU_of {x y:V} {u:Value} (r:RelV y u) (f:flatV y=true):eqU x u=eqV y x:=by
 cases y with
 | non=>cases r;rfl
 | bl b=>cases r;rfl
 | int i=>obtain ⟨t,rfl⟩:=r;rfl
 | str z=>obtain ⟨t,rfl⟩:=r;rfl
 | _=>exact absurd (show false=true from f) Bool.false_ne_true
theorem any_eqU {x:V}:∀ {xs:List V} {us:List Value},Vals xs us→xs.all flatV=true→us.any (eqU x)=xs.any fun y=>eqV y x
 | _,_,.nil,_=>rfl
 | y :: xs,u :: us,.cons r t,f=>by
  rw [List.all_cons,Bool.and_eq_true] at f
  rw [List.any_cons,List.any_cons,eqU_of r f.1,any_eqU t f.2]
theorem mem_eqAt {A:Around} {s:Shared} {x:V} {v:Value} (rx:RelV x v) (fx:flatV x=true):∀ {xs:List V} {us:List Value},Vals xs us→xs.all flatV=true→∀ u∈us,SeqAt.EqAt A s u v (eqU x u)
 | _,_,.nil,_=>fun u hu=>by cases hu
 | y :: xs,u :: us,.cons r t,f=>fun u' hu=>by
  rw [List.all_cons,Bool.and_eq_true] at f
  rcases List.mem_cons.mp hu with rfl | hu
  ·rw [eqU_of r f.1];exact eqAt_V r rx f.1 fx
  exact mem_eqAt rx fx t f.2 u' hu
def inV (x:V) (xs:List V):Bool:=xs.any fun y=>eqV y x
def rIn (K:PySem.W.Frag) (neg:Bool):R2:=fun x y H Q=>∃ p xs,y=.ref p∧(SqL K H p xs∨SqT K H p xs)∧flatV x=true∧xs.all flatV=true∧Q (.bl (if neg then !inV x xs else inV x xs)) H
theorem op_in_seq:OpR X (compareOp .In) (rIn X.K false):=by
 refine zh0 ?_;simp (disch:=k_dflt (
 refine zh2 ?_
 intro pins s σ H x y v u Q I rx ry h
 obtain ⟨p,xs,rfl,hq,fx,fs,q⟩:=h
 cases ry
 rcases hq with hq | hq
 ·obtain ⟨its,r,pl,hz⟩:=I.list hq
  refine SeqAt.in_listAt (eqU x) pl.isList (fun w hw=>mem_eqAt rx fx r fs w (by simpa using hw)) ⟨.bl _,H,I,rfl,?_⟩
  rw [show its.toArray.any (eqU x)=its.any (eqU x) by simp,any_eqU r fs]
  exact q
 obtain ⟨its,r,pl,hz⟩:=I.tuple hq
 refine SeqAt.in_tupleAt (eqU x) pl (fun w hw=>mem_eqAt rx fx r fs w (by simpa using hw)) ⟨.bl _,H,I,rfl,?_⟩
 rw [show its.toArray.any (eqU x)=its.any (eqU x) by simp,any_eqU r fs]
 exact q)) only [↓zh1]
theorem op_notIn_seq:OpR X (compareOp .NotIn) (rIn X.K true):=by
 refine zh0 ?_;simp (disch:=k_dflt (
 refine zh2 ?_
 intro pins s σ H x y v u Q I rx ry h
 obtain ⟨p,xs,rfl,hq,fx,fs,q⟩:=h
 cases ry
 rcases hq with hq | hq
 ·obtain ⟨its,r,pl,hz⟩:=I.list hq
  refine SeqAt.notIn_listAt (eqU x) pl.isList (fun w hw=>mem_eqAt rx fx r fs w (by simpa using hw)) ⟨.bl _,H,I,rfl,?_⟩
  rw [show its.toArray.any (eqU x)=its.any (eqU x) by simp,any_eqU r fs]
  exact q
 obtain ⟨its,r,pl,hz⟩:=I.tuple hq
 refine SeqAt.notIn_tupleAt (eqU x) pl (fun w hw=>mem_eqAt rx fx r fs w (by simpa using hw)) ⟨.bl _,H,I,rfl,?_⟩
 rw [show its.toArray.any (eqU x)=its.any (eqU x) by simp,any_eqU r fs]
 exact q)) only [↓zh1]
theorem call_len_seq:CallR X (.builtin "len") (fun xs H Q=>∃ p ys,xs=[.ref p]∧(SqL X.K H p ys∨SqT X.K H p ys)∧Q (.int ys.length) H):=by
 refine zh0 ?_;simp (disch:=k_dflt (
 refine zh2 ?_
 intro pins s σ H xs us Q I r h
 obtain ⟨p,ys,rfl,hq,q⟩:=h
 obtain ⟨u,rfl,rx⟩:=vals1 r
 cases rx
 have hn:=line63
 rcases hq with hq | hq
 ·obtain ⟨its,r',pl,hz⟩:=I.list hq
  have hlen:=r'.length
  exact Calls.call_len_list pl.isList (by simp only [List.size_toArray] <;> omega) ⟨.int ys.length,H,I.tok _,⟨s.toks + 1,by rw [List.size_toArray,hlen]⟩,q⟩
 obtain ⟨its,r',pl,hz⟩:=I.tuple hq
 have hlen:=r'.length
 exact len_tuple pl (by simp only [List.size_toArray] <;> omega) ⟨.int ys.length,H,I.tok _,⟨s.toks + 1,by rw [List.size_toArray,hlen]⟩,q⟩)) only [↓zh1]
theorem call_list_of:CallR X (.type "list") (fun xs H Q=>∃ p ys,xs=[.ref p]∧(SqL X.K H p ys∨SqT X.K H p ys)∧∀ l,H l=none→Q (.ref l) (upd H l (.lst ys))):=by
 refine zh0 ?_;simp (disch:=k_dflt (
 refine zh2 ?_
 intro pins s σ H xs us Q I r h
 obtain ⟨p,ys,rfl,hq,q⟩:=h
 obtain ⟨u,rfl,rx⟩:=vals1 r
 cases rx
 have fin:∀ (its:List Value),Vals ys its→ys.length≤sizeLine→∀ (h':Heap) (c':Nat),(∀ b o',s.heap.get? b=some o'→h'.get? b=some o') →
   h'.get? s.heap.objs.size=some { cls:=.type "list",dict:=none,data:=.seq its.toArray c',slots:=#[] }→EP X pins σ Q (.ref s.heap.objs.size) { s with heap:=h' }:=fun its r' hz h' c' kp e =>
  ⟨.ref s.heap.objs.size,_,I.laid (t':=s.toks) kp (Nat.le_refl _) (show ObjOk X.prog X.w _ h' _ (.lst ys) from ⟨hz,its,c',r',e⟩),rfl,q _ (I.hok.fresh (Nat.le_refl _))⟩
 rcases hq with hq | hq
 ·obtain ⟨its,r',pl,hz⟩:=I.list hq
  have hlen:=r'.length
  obtain ⟨o,ho,hc,n,hd⟩:=pl.isList
  exact call_list_seq p (.inl rfl) ho hc hd (fun h' c' kp e=>fin its r' hz h' c' kp e) (by simp only [List.size_toArray] <;> omega)
 obtain ⟨its,r',pl,hz⟩:=I.tuple hq
 have hlen:=r'.length
 obtain ⟨o,ho,hc,n,hd⟩:=pl
 exact call_list_seq p (.inr rfl) ho hc hd (fun h' c' kp e=>fin its r' hz h' c' kp e) (by simp only [List.size_toArray] <;> omega))) only [↓zh1]
def tyV (K:PySem.W.Frag) (T:String) (x:V) (H:Hp):Prop:=match x with
 | .str _=>T="str"
 | .int _=>T="int"
 | .ref p=>(T="list"∧∃ xs,SqL K H p xs)∨(T="tuple"∧∃ o,K.lookup p=some o∧o.cls=.type "tuple"∧o.dict=none) ∨
   (T="dict"∧((∃ kvs,H p=some (.dK kvs))∨∃ kvs,H p=some (.dT kvs)))∨(T="set"∧∃ S n,H p=some (.set S n))
 | _=>False
theorem tyV_is {pins:List (Addr × Obj)} {σ:St} {H:Hp} {s:Shared} {T:String} {x:V} {v:Value} (I:Inv X pins σ H s) (r:RelV x v) (ty:tyV X.K T x H) :
  s.TypeIs v T∧∀ a,v=.ref a→∃ ob,s.heap.get? a=some ob∧ob.dict=none:=by
 refine zh0 ?_;simp (disch:=k_dflt (
 refine zh2 ?_
 cases x with
 | str z =>
  obtain ⟨t,rfl⟩:=r
  cases (show T="str" from ty)
  exact ⟨typeIs_str s z t,fun _ e=>nomatch e⟩
 | int i =>
  obtain ⟨t,rfl⟩:=r
  cases (show T="int" from ty)
  exact ⟨typeIs_int s i t,fun _ e=>nomatch e⟩
 | ref p =>
  cases r
  rcases ty with ⟨rfl,xs,hq⟩ | ⟨rfl,o,hk,hc,hd⟩ | ⟨rfl,hk⟩ | ⟨rfl,S,n,hk⟩
  ·obtain ⟨its,_,pl,_⟩:=I.list hq
   refine ⟨pl.isList.typeIs,fun a e=>?_⟩
   cases e
   obtain ⟨o,n,e,c,hd,_⟩:=pl
   exact ⟨o,e,hd⟩
  ·refine ⟨⟨o,I.kIn p o hk,hc⟩,fun a e=>?_⟩
   cases e
   exact ⟨o,I.kIn _ o hk,hd⟩
  ·have z:∃ o,s.heap.get? p=some o∧o.ExactDict:=by
    rcases hk with ⟨kvs,hk⟩ | ⟨kvs,hk⟩
    ·obtain ⟨_,_,_,_,o,_,_,e,ex,_⟩:=I.hok p _ hk
     exact ⟨o,e,ex⟩
    obtain ⟨_,_,_,_,o,_,_,e,ex,_⟩:=I.hok p _ hk
    exact ⟨o,e,ex⟩
   obtain ⟨o,e,ex⟩:=z
   refine ⟨⟨o,e,ex.1⟩,fun a e2=>?_⟩
   cases e2
   exact ⟨o,e,ex.2.1⟩
  obtain ⟨o,_,_,_,e,ex,_⟩:=I.hok p _ hk
  refine ⟨⟨o,e,ex.1⟩,fun a e2=>?_⟩
  cases e2
  exact ⟨o,e,ex.2.1⟩
 | _=>exact False.elim ty)) only [↓zh1]
def tBM (K:PySem.W.Frag) (T:String) (r:V→List V→Hp→VK→Prop) (to:TE) (t:TA):TE:=fun σ H Q=>to σ H fun x H1=>tyV K T x H1∧t σ H1 fun xs H2=>r x xs H2 Q
variable {o e:Expr} {es:List Expr} {to:TE} {t:TA} {name:Str} {apos cpos:Pos} {T id:String} {r:V→List V→Hp→VK→Prop}
theorem pe_bm (pa:PlainAttrs T) (slot:Slot T name id) (hty:typeOf (.builtin id)=pure (.type "method_descriptor")) (hm:MtR X id r) (ho:PE X o to) (ha:PA X (e :: es) t)
  (hbase:attributeBase o name X.env (eval o X.env)=eval o X.env:=by rfl)
  (hfew:((backTo cpos (starEach (e :: es) X.env)).all (fun x=>!x.1) && (backToKw cpos (keywordEach [] X.env)).all (fun x=>x.1.isSome)
   && decide ((e :: es).length + ([]:List Keyword).length + (if ([]:List Keyword).isEmpty then 0 else 1) < 30))=true:=by rfl)
  (hline:(apos.endLine == cpos.line)=true:=by rfl) (hs:starEach (e :: es) X.env=(false,eval e X.env) :: starEach es X.env:=by rfl) (hplain:(backTo cpos (starEach es X.env)).any (·.1)=false:=by rfl) :
  PE X (.Call (.Attribute o name apos) (e :: es) [] cpos) (tBM X.K T r to t):=by
 refine zh0 ?_;simp (disch:=k_dflt (
 refine zh2 ?_
 intro pins s σ H Q I h
 refine wpAny_Call_method_late hbase hfew hline rfl (thn (ho pins s σ H _ I h) fun v s1 ⟨x,H1,I1,r1,ty,q1⟩=>?_)
 obtain ⟨h1,h2⟩:=tyV_is I1 r1 ty
 refine ⟨T,id,pa,slot,hty,h1,h2,?_⟩
 have hA:=ha cpos pins s1 σ H1 _ I1 q1
 rw [hs] at hA ⊢
 refine Calls.callWith_builtin (by show (false || (backTo cpos (starEach es X.env)).any (·.1))=false;rw [hplain] <;> rfl) (Calls.evalArgs_plain ?_)
 exact thn hA fun us s2 ⟨vs,H2,I2,r2,q2⟩=>hm pins s2 σ H2 x vs v us Q I2 r1 r2 q2)) only [↓zh1]
end
end L2
namespace L2
open PySem PySem.Spec PyProof.Rows
def MtM (X:Cx) (id:String) (r:V→List V→Hp→VK→Prop):Prop :=
 ∀ (pins:List (Addr × Obj)) (s:Shared) (σ:St) (H:Hp) (x:V) (xs:List V) (v:Value) (us:List Value) (Q:VK),Inv X pins σ H s→RelV x v→Vals xs us→r x xs H Q →
  wpAny (model X.prog X.w) X.A (call (.builtin id) (v :: us)) (EP X pins σ Q) X.xe s
theorem Vals.one:∀ {x:V} {us:List Value},Vals [x] us→∃ u,us=[u]∧RelV x u
 | _,_,.cons r .nil=>⟨_,rfl,r⟩
theorem Vals.eraseIdx:∀ {xs:List V} {us:List Value} (i:Nat),Vals xs us→Vals (xs.eraseIdx i) (us.eraseIdx i)
 | _,_,_,.nil=>.nil
 | _,_,0,.cons _ t=>t
 | _,_,i + 1,.cons r t=>.cons r (Vals.eraseIdx i t)
theorem len_erase {α:Type}:∀ (l:List α) (i:Nat),(l.eraseIdx i).length≤l.length
 | [],_=>Nat.le_refl _
 | _ :: _,0=>Nat.le_succ _
 | _ :: r,i + 1=>Nat.succ_le_succ (len_erase r i)
section
variable {X:Cx} {pins:List (Addr × Obj)} {σ:St} {H:Hp} {s:Shared} {l b:Addr} {xs ys zs:List V}
theorem Inv.lset {its its':List Value} {n:Nat} {f:Array Value→Array Value} {t':Nat} (I:Inv X pins σ H s) (hH:H l=some (.lst xs))
  (e:s.heap.get? l=some { cls:=.type "list",data:=.seq its.toArray n }) (hf:f its.toArray=its'.toArray) (hv:Vals ys its') (hz:ys.length≤sizeLine) :
  Inv X pins σ (upd H l (.lst ys)) { s with heap:=s.heap.update l (Obj.mapSeq f),toks:=t' }:=by
 have q:=PySem.IsL.update e f
 rw [hf] at q
 refine I.write (x:=l) (e:=l) (by rw [hH];exact trivial) (.inl rfl) (fun b' u hb hu=>(Heap.get?_update_other s.heap (Obj.mapSeq f) (Ne.symm hb)).trans hu) ⟨_,q⟩ ?_
 exact ⟨hz,its',_,hv,q⟩
theorem Inv.lnew {its:List Value} {t':Nat} (I:Inv X pins σ H s) (hv:Vals ys its) (hz:ys.length≤sizeLine) :
  Inv X pins σ (upd H s.heap.objs.size (.lst ys)) { s with heap:=s.heap.push { cls:=.type "list",data:=.seq its.toArray },toks:=t' } :=
 I.laid (fun _ _ q=>Heap.get?_push_of_some _ q) (Nat.le_refl _) ⟨hz,its,0,hv,Heap.get?_push_size _ rfl⟩
theorem Inv.fresh (I:Inv X pins σ H s):H s.heap.objs.size=none:=I.hok.fresh (Nat.le_refl _)
theorem Inv.lstM (I:Inv X pins σ H s) (hH:H l=some (.lst xs)):xs.length≤sizeLine∧∃ (its:List Value) (n:Nat),Vals xs its∧xs.length=its.length∧s.heap.get? l=some { cls:=.type "list",data:=.seq its.toArray n }:=by
 obtain ⟨z,its,n,r,e⟩:=I.hok l _ hH
 exact ⟨z,its,n,r,r.length,e⟩
theorem notLongL {n:Nat} (h:n≤sizeLine):Builtin.List.listTooLong n=false:=by
 unfold Builtin.List.listTooLong
 exact decide_eq_false (by omega)
end
section
variable {X:Cx}
def rAppend:V→List V→Hp→VK→Prop:=fun x vs H Q=>∃ l xs y,x=.ref l∧vs=[y]∧H l=some (.lst xs)∧xs.length < sizeLine∧Q .non (upd H l (.lst (xs++[y])))
theorem mt_append:MtM X "list.append" rAppend:=by
 refine zh0 ?_;simp (disch:=k_dflt (
 refine zh2 ?_
 intro pins s σ H x vs v us Q I rx rv h
 obtain ⟨l,xs,y,rfl,rfl,hH,hz,q⟩:=h
 cases rx
 obtain ⟨u,rfl,ru⟩:=rv.one
 obtain ⟨z,its,n,r,hl,e⟩:=I.lstM hH
 refine call_meets F.slot_list_append ⟨_,e,rfl⟩ F.entry_list_append (F.args_list_append_2 _ _) (PySem.list_append l its.toArray n u (by rw [List.size_toArray];omega)) ⟨e,?_⟩
 refine ⟨.non,_,I.lset (its':=its++[u]) hH e (by simp) (r.append (.cons ru .nil)) ?_,rfl,q⟩
 rw [List.length_append,List.length_singleton]
 omega)) only [↓zh1]
def rExtend:V→List V→Hp→VK→Prop:=fun x vs H Q=>∃ l b xs zs,x=.ref l∧vs=[.ref b]∧H l=some (.lst xs)∧H b=some (.lst zs)∧xs.length + zs.length≤sizeLine∧Q .non (upd H l (.lst (xs++zs)))
theorem mt_extend:MtM X "list.extend" rExtend:=by
 refine zh0 ?_;simp (disch:=k_dflt (
 refine zh2 ?_
 intro pins s σ H x vs v us Q I rx rv h
 obtain ⟨l,b,xs,zs,rfl,rfl,hH,hB,hz,q⟩:=h
 cases rx
 obtain ⟨u,rfl,ru⟩:=rv.one
 cases ru
 obtain ⟨z,its,n,r,hl,e⟩:=I.lstM hH
 obtain ⟨z2,its2,n2,r2,hl2,e2⟩:=I.lstM hB
 have hsz:its.toArray.size + its2.toArray.size≤sizeLine:=by rw [List.size_toArray,List.size_toArray];omega
 have hlong:¬ (!its.toArray.isEmpty && Builtin.List.listTooLong (its.toArray.size + its2.toArray.size))=true:=by
  rw [notLongL hsz,Bool.and_false]
  exact Bool.false_ne_true
 refine call_meets F.slot_list_extend ⟨_,e,rfl⟩ F.entry_list_extend (F.args_list_extend_2 _ _)
  (AutoSeq1.list_extend_list_list_0 l its.toArray n b its2.toArray n2 hlong (by rw [List.size_toArray];omega) (by omega)) ⟨e,e2,?_⟩
 refine ⟨.non,_,I.lset (its':=its++its2) hH e (by simp) (r.append r2) ?_,rfl,q⟩
 rw [List.length_append]
 omega)) only [↓zh1]
def rPopAt:V→List V→Hp→VK→Prop:=fun x vs H Q=>∃ l xs i k y,x=.ref l∧vs=[.int i]∧H l=some (.lst xs)∧-(2 ^ 63)≤i∧i < 2 ^ 63∧seqIndex? i xs.length=some k∧xs[k]?=some y∧Q y (upd H l (.lst (xs.eraseIdx k)))
theorem mt_popAt:MtM X "list.pop" rPopAt:=by
 refine zh0 ?_;simp (disch:=k_dflt (
 refine zh2 ?_
 intro pins s σ H x vs v us Q I rx rv h
 obtain ⟨l,xs,i,k,y,rfl,rfl,hH,h1,h2,hk,hy,q⟩:=h
 cases rx
 obtain ⟨u,rfl,ru⟩:=rv.one
 obtain ⟨t,rfl⟩:=ru
 obtain ⟨z,its,n,r,hl,e⟩:=I.lstM hH
 obtain ⟨w,hw,rw'⟩:=r.get hy
 refine call_meets F.slot_list_pop ⟨_,e,rfl⟩ F.entry_list_pop (F.args_list_pop_2 _ _)
  (MeetsSeq.list_pop_at l its.toArray n i t k w (fitsIndex_both h1 h2) (by rw [List.size_toArray,← hl];exact hk) (by rw [← Array.getElem?_toList];exact hw) (by rw [List.size_toArray];omega)) ⟨e,?_⟩
 refine ⟨y,_,I.lset (its':=its.eraseIdx k) hH e ?_ (r.eraseIdx k) ?_,rw',q⟩
 ·show its.toArray.eraseIdxIfInBounds k=(its.eraseIdx k).toArray
  rw [List.eraseIdxIfInBounds_toArray]
 have:=len_erase xs k
 omega)) only [↓zh1]
def rCat:R2:=fun x y H Q=>∃ l b xs zs,x=.ref l∧y=.ref b∧H l=some (.lst xs)∧H b=some (.lst zs)∧xs.length + zs.length≤sizeLine∧∀ p,H p=none→Q (.ref p) (upd H p (.lst (xs++zs)))
theorem op_cat:OpR X (binaryOp .Add) rCat:=by
 refine zh0 ?_;simp (disch:=k_dflt (
 refine zh2 ?_
 intro pins s σ H x y v u Q I rx ry h
 obtain ⟨l,b,xs,zs,rfl,rfl,hH,hB,hz,q⟩:=h
 cases rx
 cases ry
 obtain ⟨z,its,n,r,hl,e⟩:=I.lstM hH
 obtain ⟨z2,its2,n2,r2,hl2,e2⟩:=I.lstM hB
 refine PySem.P.add_list e e2 ?_ (by rw [List.size_toArray,List.size_toArray];omega)
 have ea:its.toArray++its2.toArray=(its++its2).toArray:=by simp
 rw [ea]
 exact ⟨.ref _,_,I.lnew (t':=s.toks) (r.append r2) (by rw [List.length_append];omega),rfl,q _ I.fresh⟩)) only [↓zh1]
end
section
variable {prog:Program} {w:World} {A:Around} {E:Value→Shared→Prop} {s:Shared}
theorem bounds_run {a c n:Nat} (hac:a≤c) (hc:c≤n):sliceBounds (some (a:Int)) (some (c:Int)) none n=((a:Int),(c:Int),1):=by
 simp only [sliceBounds,Option.getD_none]
 have h1:¬ ((a:Int) < 0):=by omega
 have h2:¬ ((c:Int) < 0):=by omega
 simp only [h1,h2,if_false,show (1:Int) > 0 by decide,if_true]
 congr 1
 ·omega
 congr 1;omega
set_option maxRecDepth 100000 in
theorem setItem_slice {l b sl : Addr} {items new : Array Value} {n n2 : Nat} {vl vu : Value} {a c : Nat} {Q : Unit → Shared → Prop}
    (e : s.heap.get? l = some { cls := .type "list", data := .seq items n }) (e2 : s.heap.get? b = some { cls := .type "list", data := .seq new n2 }) (hne : l ≠ b)
    (hs : s.heap.IsSliceOf sl vl vu .none) (pl : IsPart vl (some (a : Int))) (pu : IsPart vu (some (c : Int))) (hac : a ≤ c) (hc : c ≤ items.size)
    (hsz : items.size + new.size ≤ sizeLine) (h : Q () { s with heap := s.heap.update l (Obj.mapSeq fun xs => xs.extract 0 a ++ new ++ xs.extract c xs.size) }) :
    wpAny (model prog w) A (setItem (.ref l) (.ref sl) (.ref b)) Q E s := by
  refine zh0 ?_; simp (disch := k_dflt (
  refine zh2 ?_
  have hl : s.heap.IsList l items := PySem.IsL.isList e
  have hb : s.heap.IsList b new := PySem.IsL.isList e2
  obtain ⟨os, hos, hcs, hds⟩ := id hs
  have hTs : s.TypeIs (.ref sl) "slice" := ⟨os, hos, hcs⟩
  have hstep : ¬ ((rawPart none == rawInt 0) = true) := Bool.false_ne_true
  have hsame : Builtin.List.listSameRef (.ref l) (.ref b) = false := by
    unfold Builtin.List.listSameRef
    exact beq_eq_false_iff_ne.mpr hne
  have hmax : (max (a : Int) (c : Int)).toNat = c := by omega
  have hz' : ((fun xs : Array Value => xs.extract 0 a ++ new ++ xs.extract c xs.size) items).size ≤ sizeLine + 1 := by
    simp only [Array.size_append, Array.size_extract]
    omega
  unfold setItem
  try with_reducible refine wpAny_holding ?_
  first | refine wpAny_bind (wpAny_pure ?_) | skip
  refine wpAny_bind (wpAny_sequenceKey hl.typeIs (by decide) ?_)
  refine wpAny_bind (wpAny_callSpecial?_slot (name := Str.ofString "__setitem__") hl.typeIs slot_list_setitem
    (wpAny_call_entry slot_list_setitem hl.typeIs entry_list_setitem ?_ (args_list_setitem _ _ _)))
  show wpAny _ _ (Builtin.List.listSubscript? (.ref sl) >>= _) _ _ s
  refine wpAny_bind ?_
  unfold Builtin.List.listSubscript?
  refine wpAny_bind (wpAny_specialOf hTs slice_no_index ?_)
  simp only [Option.isNone_none, if_true]
  refine wpAny_pure ?_
  show wpAny _ _ (typeOf (.ref sl) >>= _) _ _ s
  refine wpAny_bind (wpAny_typeOf hTs ?_)
  first
    | rw [if_neg (by decide)]
    | refine PySem.W.KFB.if_not (by decide) ?_
  rw [listSliceParts_eq]
  refine wpAny_bind (wpAny_bind (wpAny_field hos hds (x := .none) rfl (wpAny_bind (wpAny_listPart .none ?_))))
  rw [if_neg hstep]
  refine wpAny_bind (wpAny_field hos hds (x := vl) rfl (wpAny_bind (wpAny_listPart pl ?_)))
  refine wpAny_bind (wpAny_field hos hds (x := vu) rfl (wpAny_bind (wpAny_listPart pu (wpAny_pure ?_))))
  first
    | simp only [hsame, Bool.false_eq_true, if_false]
    | refine PySem.W.KFB.if_not hsame ?_
    | (dsimp only
       rw [if_neg (by rw [hsame]; exact Bool.false_ne_true)])
  refine wpAny_bind (m := Builtin.List.listAllItems (.ref b) "must assign iterable to extended slice") ?_
  unfold Builtin.List.listAllItems
  refine wpAny_bind (wpAny_typeOf hb.typeIs ?_)
  first
    | refine PySem.W.KFB.if_so (by decide) ?_
    | rw [if_pos (by decide)]
    | simp only [beq_self_eq_true, Bool.true_or, if_true]
  unfold Builtin.List.listItems
  refine wpAny_bind (wpAny_seqItems e2 rfl (wpAny_pure ?_))
  refine wpAny_bind (wpAny_bind (wpAny_seqItems e rfl (wpAny_pure ?_)))
  refine wpAny_bind (wpAny_of_eq ((sliceIndices_raw (some (a : Int)) (some (c : Int)) none items.size (by simp)).trans (congrArg (pure : Int × Int × Int → Sem (Int × Int × Int)) (bounds_run hac hc))) ?_)
  show wpAny _ _ (if ((1 : Int) == 1) = true then _ else _) _ _ s
  rw [if_pos (by decide)]
  refine wpAny_bind (wpAny_rule ?_)
  first
    | simp only [notLongL hsz, Bool.false_eq_true, if_false]
    | refine PySem.W.KFB.if_not (notLongL hsz) ?_
  first | refine wpAny_bind (wpAny_pure ?_) | skip
  show wpAny _ _ (updateSeq l (fun xs => xs.extract 0 ((a : Int)).toNat ++ new ++ xs.extract (max (a : Int) (c : Int)).toNat xs.size) >>= _) _ _ s
  rw [hmax, Int.toNat_natCast]
  refine wpAny_bind (wpAny_updateSeq (hz := Nat.le_trans (Nat.le_add_right _ _) hsz) (_hz' := hz') e rfl ?_)
  refine wpAny_bind (wpAny_letGo ?_)
  first
    | exact wpAny_bind (wpAny_pure (wpAny_pure ⟨.none, rfl, wpAny_pure h⟩))
    | exact wpAny_pure ⟨.none, rfl, wpAny_pure h⟩)) only [↓zh1]
end
section
variable {X:Cx}
end
end L2
namespace L2
open PySem PySem.Spec PyProof.Rows
theorem Vals.bls:∀ {bs:List Bool} {us:List Value},Vals (bs.map V.bl) us→us=bs.map Value.bool
 | [],us,h=>by
  rw [List.map_nil] at h
  cases h
  rfl
 | b :: bs,us,h=>by
  rw [List.map_cons] at h
  cases h with
  | cons r t =>
   cases r
   rw [Vals.bls t,List.map_cons]
theorem Vals.ref1 {a:Addr} {us:List Value} (r:Vals [V.ref a] us):us=[Value.ref a]:=by
 cases r with
 | cons r t =>
  cases t
  cases r
  rfl
section
variable {prog:Program} {w:World} {A:Around} {E:Value→Shared→Prop} {s:Shared} {l:Addr} {its:List Value} {ns:List Int} {Q:Value→Shared→Prop}
end
section
variable {X:Cx}
end
section
variable {X:Cx}
end
section
variable {X:Cx}
end
theorem iter_any {prog:Program} {w:World} {A:Around} {E:Value→Shared→Prop} {s:Shared} {l:Addr} {items:Array Value} {Q:Value→Shared→Prop} (hl:s.heap.IsList l items)
  (h:∀ s₂:Shared,s₂={ s with heap:=s.heap.push { cls:=.type "list_iterator",data:=.fields #[.ref l,.int 0 0] } } →
   (s₂.heap.IsListIter s.heap.objs.size l 0∧s₂.heap.IsList l items)→l≠s.heap.objs.size→Q (.ref s.heap.objs.size) s₂):wpAny (model prog w) A (pyIter (.ref l)) Q E s:=by
 have hlt:l < s.heap.objs.size:=by obtain ⟨_,e,_⟩:=hl;exact Heap.lt_size e
 exact wpAny_pyIter_list hl (h _ rfl ⟨⟨_,Heap.get?_push_size _ rfl,rfl,rfl⟩,hl.push _⟩ (Nat.ne_of_lt hlt))
theorem truth_bools {prog:Program} {w:World} {A:Around} {bs:List Bool} {its:List Value} (e:its=bs.map Value.bool) :
  TruthOf prog w A (fun i v=>its.toArray[i]?=some v) (fun i=>bs.getD i false):=fun i v s Q E hv hq=>by
 have hv':its[i]?=some v:=by simpa using hv
 rw [e,List.getElem?_map] at hv'
 obtain ⟨b,hb,rfl⟩:=Option.map_eq_some_iff.mp hv'
 have hg:bs.getD i false=b:=by rw [List.getD_eq_getElem?_getD,hb] <;> rfl
 have hq':Q (bs.getD i false) s:=hq
 rw [hg] at hq'
 exact wpAny_truthy_bool hq'
theorem all_range:∀ bs:List Bool,(List.range bs.length).all (fun i=>bs.getD i false)=bs.all id
 | []=>rfl
 | b :: bs=>by
  rw [List.length_cons,List.range_succ_eq_map,List.all_cons,List.all_map,List.all_cons,← all_range bs]
  all_goals rfl
section
variable {X:Cx}
def rAll (K:PySem.W.Frag):List V→Hp→VK→Prop:=fun vs H Q=>∃ (a:Addr) (bs:List Bool),vs=[V.ref a]∧SqL K H a (bs.map V.bl)∧Q (.bl (bs.all id)) H
theorem cr_all (hc:X.calm=true):CallR X (.builtin "all") (rAll X.K):=by
 refine zh0 ?_;simp (disch:=k_dflt (
 refine zh2 ?_
 intro pins s σ H vs us Q I r h
 obtain ⟨a,bs,rfl,hs,q⟩:=h
 obtain ⟨its,rv,hl,_⟩:=I.list hs
 rw [Vals.ref1 r]
 have hb:=rv.bls
 refine call_all_walk (iter_any hl.isList fun s₂ e2 st hne=>?_)
 subst e2
 refine ⟨_,_,_,_,_,_,_,rfl,Walks.list (A:=X.A.in1) (I.ok.hd hc) _ a hne its.toArray,st,truth_bools hb,fun h' tk hk=>?_⟩
 refine ⟨.bl _,H,I.kept fun b o eo=>hk b o (fun hmem=>?_) (Heap.get?_push_of_some _ eo),?_,q⟩
 ·rcases List.mem_cons.mp hmem with e1 | hmem
  ·exact absurd (e1 ▸ Heap.lt_size eo) (Nat.lt_irrefl _)
  cases hmem
 show Value.bool _=Value.bool _
 rw [← all_range,hb,List.size_toArray,List.length_map])) only [↓zh1]
end
section
variable {X:Cx} {pins:List (Addr × Obj)} {σ:St} {H:Hp} {s:Shared}
end
section
variable {X:Cx}
end
end L2
namespace L2
open PySem PySem.Spec PyProof.Rows
abbrev CellAt (h:Heap) (c:Addr) (v:Option Value):Prop:=h.IsCell c v
def relS (scope sc:Scope):Scope :=
 { scope with names:=scope.names.map fun (n,k)=>if (k == .free && sc.kind == .function && sc.names.lookup n == some .cell) then (n,.cell) else (n,k) }
def cloFrom (cells:List (Str × Addr)):List (Str × NameKind)→List (Str × Addr)→List (Str × Addr)
 | [],acc=>acc
 | (n,k) :: r,acc=>if k == .free then cloFrom cells r ((n,(cells.lookup n).getD 0) :: acc) else cloFrom cells r acc
theorem closure_loop (env:Env) (f:Str × NameKind→List (Str × Addr)→Sem (ForInStep (List (Str × Addr))))
  (hf:∀ n k c,f (n,k) c=if k == .free then (do let a ← cellOf env n;pure (.yield ((n,a) :: c))) else pure (.yield c)) :
  ∀ (names:List (Str × NameKind)) (acc:List (Str × Addr)),(∀ y∈names,y.2=.free→∃ c,env.cells.lookup y.1=some c)→forIn names acc f=pure (cloFrom env.cells names acc)
 | [],acc,_=>by rw [List.forIn_nil];rfl
 | (n,k) :: r,acc,h=>by
  rw [List.forIn_cons,hf]
  have ih:=fun acc=>closure_loop env f hf r acc fun y hy=>h y (List.mem_cons_of_mem _ hy)
  unfold cloFrom
  by_cases hk:(k == NameKind.free)=true
  ·rw [if_pos hk,if_pos hk]
   obtain ⟨c,hc⟩:=h (n,k) List.mem_cons_self (by simpa using hk)
   have e:cellOf env n=pure c:=by unfold cellOf;rw [hc]
   rw [e]
   have e2:(env.cells.lookup n).getD 0=c:=by rw [hc];rfl
   rw [e2]
   exact ih _
  rw [if_neg hk,if_neg hk]
  exact ih _
theorem closure_ok {scope:Scope} {env:Env} (h:∀ y∈scope.names,y.2=.free→∃ c,env.cells.lookup y.1=some c):closureFor scope env=pure (cloFrom env.cells scope.names []):=by
 simp only [closureFor]
 rw [closure_loop env _ (fun n k c=>rfl) scope.names [] h]
 rfl
theorem mem_lookup {α:Type}:∀ {l:List (Str × α)} {n:Str} {c:α},(n,c)∈l→∃ c',l.lookup n=some c'
 | (k,v) :: r,n,c,h=>by
  rw [List.lookup_cons]
  cases hb:n == k with
  | true=>exact ⟨_,rfl⟩
  | false =>
   rcases List.mem_cons.mp h with e | h
   ·cases e;simp at hb
   exact mem_lookup h
theorem cloFrom_mem {cells:List (Str × Addr)}:∀ {names:List (Str × NameKind)} {acc:List (Str × Addr)} {n:Str} {c:Addr},(n,c)∈cloFrom cells names acc→(n,c)∈acc∨((n,.free)∈names∧c=(cells.lookup n).getD 0)
 | [],_,_,_,h=>.inl h
 | (m,k) :: r,acc,n,c,h=>by
  unfold cloFrom at h
  split at h
  ·rename_i hk
   have hk:k=.free:=by simpa using hk
   rcases cloFrom_mem h with h | ⟨h1,h2⟩
   ·rcases List.mem_cons.mp h with e | h
    ·cases e;exact .inr ⟨hk ▸ List.mem_cons_self,rfl⟩
    exact .inl h
   exact .inr ⟨List.mem_cons_of_mem _ h1,h2⟩
  rcases cloFrom_mem h with h | ⟨h1,h2⟩
  ·exact .inl h
  exact .inr ⟨List.mem_cons_of_mem _ h1,h2⟩
theorem cloFrom_acc {cells:List (Str × Addr)}:∀ {names:List (Str × NameKind)} {acc:List (Str × Addr)} {p:Str × Addr},p∈acc→p∈cloFrom cells names acc
 | [],_,_,h=>h
 | (m,k) :: r,acc,p,h=>by
  unfold cloFrom
  split
  ·exact cloFrom_acc (List.mem_cons_of_mem _ h)
  exact cloFrom_acc h
theorem cloFrom_has {cells:List (Str × Addr)}:∀ {names:List (Str × NameKind)} {acc:List (Str × Addr)} {n:Str},(n,.free)∈names→(n,(cells.lookup n).getD 0)∈cloFrom cells names acc
 | (m,k) :: r,acc,n,h=>by
  unfold cloFrom
  rcases List.mem_cons.mp h with e | h
  ·cases e
   exact cloFrom_acc List.mem_cons_self
  split
  ·exact cloFrom_has h
  exact cloFrom_has h
theorem cells_mem:∀ {names:List (Str × NameKind)} {h:Heap} {acc:List (Str × Addr)} {x:Str} {c:Addr},(x,c)∈cellsFrom h.objs.size names acc →
  (x,c)∈acc∨((x,.cell)∈names∧h.objs.size≤c∧CellAt (pushCells h names) c none)
 | [],_,_,_,_,h=>.inl h
 | (n,k) :: r,h,acc,x,c,hm=>by
  unfold cellsFrom at hm
  unfold pushCells
  split at hm
  ·rename_i hk
   rw [if_pos hk]
   have hk:k=.cell:=by simpa using hk
   rw [← Heap.size_push h { cls:=.type "cell",data:=.cell none }] at hm
   rcases cells_mem hm with hm | ⟨h1,h2,h3⟩
   ·rcases List.mem_cons.mp hm with e | hm
    ·cases e
     exact .inr ⟨hk ▸ List.mem_cons_self,Nat.le_refl _,_,pushCells_keeps r _ _ _ (Heap.get?_push_size _ rfl),rfl⟩
    exact .inl hm
   rw [Heap.size_push] at h2
   exact .inr ⟨List.mem_cons_of_mem _ h1,Nat.le_of_succ_le h2,h3⟩
  rename_i hk
  rw [if_neg hk]
  rcases cells_mem hm with hm | ⟨h1,h2,h3⟩
  ·exact .inl hm
  exact .inr ⟨List.mem_cons_of_mem _ h1,h2,h3⟩
theorem cells_acc:∀ {names:List (Str × NameKind)} {n:Nat} {acc:List (Str × Addr)} {p:Str × Addr},p∈acc→p∈cellsFrom n names acc
 | [],_,_,_,h=>h
 | (m,k) :: r,n,acc,p,h=>by
  unfold cellsFrom
  split
  ·exact cells_acc (List.mem_cons_of_mem _ h)
  exact cells_acc h
theorem cells_has:∀ {names:List (Str × NameKind)} {n:Nat} {acc:List (Str × Addr)} {x:Str},(x,.cell)∈names→∃ c,(x,c)∈cellsFrom n names acc
 | (m,k) :: r,n,acc,x,h=>by
  unfold cellsFrom
  rcases List.mem_cons.mp h with e | h
  ·cases e
   exact ⟨n,cells_acc List.mem_cons_self⟩
  split
  ·exact cells_has h
  exact cells_has h
theorem cells_inj:∀ {names:List (Str × NameKind)} {h:Heap} {acc:List (Str × Addr)} {x y:Str} {c:Addr},(∀ p∈acc,p.2 < h.objs.size)→(∀ x y c,(x,c)∈acc→(y,c)∈acc→x=y) →
  (x,c)∈cellsFrom h.objs.size names acc→(y,c)∈cellsFrom h.objs.size names acc→x=y
 | [],_,_,_,_,_,_,hi,h1,h2=>hi _ _ _ h1 h2
 | (n,k) :: r,h,acc,x,y,c,hl,hi,h1,h2=>by
  unfold cellsFrom at h1 h2
  split at h1
  ·rename_i hk
   rw [if_pos hk] at h2
   rw [← Heap.size_push h { cls:=.type "cell",data:=.cell none }] at h1 h2
   refine cells_inj (h:=h.push _) (fun p hp=>?_) (fun x y c a b=>?_) h1 h2
   ·rw [Heap.size_push]
    rcases List.mem_cons.mp hp with rfl | hp
    ·exact Nat.lt_succ_self _
    exact Nat.lt_succ_of_lt (hl p hp)
   rcases List.mem_cons.mp a with e | a <;> rcases List.mem_cons.mp b with e' | b
   ·cases e;cases e';rfl
   ·cases e;exact absurd (hl _ b) (Nat.lt_irrefl _)
   ·cases e';exact absurd (hl _ a) (Nat.lt_irrefl _)
   exact hi _ _ _ a b
  rename_i hk
  rw [if_neg hk] at h2
  exact cells_inj hl hi h1 h2
theorem newEnv_comp {M:Model} {A:Around} {E:Value→Shared→Prop} {s:Shared} {scope:Scope} {globals:Addr} {closure:List (Str × Addr)} {qual:Str} {func:Option Addr} {code:Value} {around:Env} {builtins:Addr} {Q:Env→Shared→Prop}
  (h:Q (newEnv scope s.heap.objs.size globals (cellsFrom (s.heap.objs.size + 1) scope.names closure) qual func code (some around) builtins)
   { s with heap:=pushCells (s.heap.push { cls:=.type "dict",data:=.dict #[] }) scope.names }) :
  wpAny M A (newFunctionEnv scope globals closure [] qual func code (some around) builtins) Q E s:=by
 refine zh0 ?_;simp (disch:=k_dflt (
 refine zh2 ?_
 simp only [newFunctionEnv,Option.isSome_some,if_true]
 refine wpAny_bind (wpAny_alloc ?_)
 refine wpAny_bind (wpAny_layCells _ (fun n k c=>rfl) scope.names closure _ _ ?_)
 rw [show ({ s with heap:=s.heap.push { cls:=.type "dict",data:=.dict #[] } }:Shared).heap.objs.size=s.heap.objs.size + 1 from Heap.size_push ..]
 rw [List.forIn_nil]
 exact wpAny_bind (wpAny_pure (wpAny_pure h)))) only [↓zh1]
theorem lookup_relS {sc:Scope}:∀ {names:List (Str × NameKind)} {x:Str} {k:NameKind},
  (names.map fun (n,k)=>if (k == NameKind.free && sc.kind == .function && sc.names.lookup n == some .cell) then (n,NameKind.cell) else (n,k)).lookup x=some k →
  ∃ k',names.lookup x=some k'∧(k=k'∨(k'=.free∧k=.cell))
 | [],_,_,h=>by simp at h
 | (n,k₀) :: r,x,k,h=>by
  have ih:=@lookup_relS sc r x k
  have h':List.lookup x ((if (k₀ == NameKind.free && sc.kind == .function && sc.names.lookup n == some .cell)=true then (n,NameKind.cell) else (n,k₀)) :: (r.map _))=some k:=h
  cases hx:x == n with
  | true =>
   simp only [List.lookup_cons,hx]
   by_cases hc:(k₀ == NameKind.free && sc.kind == .function && sc.names.lookup n == some .cell)=true
   ·rw [if_pos hc] at h'
    simp only [List.lookup_cons,hx] at h'
    cases h'
    simp only [Bool.and_eq_true,beq_iff_eq] at hc
    exact ⟨k₀,rfl,.inr ⟨hc.1.1,rfl⟩⟩
   rw [if_neg hc] at h'
   simp only [List.lookup_cons,hx] at h'
   cases h'
   exact ⟨_,rfl,.inl rfl⟩
  | false =>
   simp only [List.lookup_cons,hx]
   by_cases hc:(k₀ == NameKind.free && sc.kind == .function && sc.names.lookup n == some .cell)=true
   ·rw [if_pos hc] at h'
    simp only [List.lookup_cons,hx] at h'
    exact ih h'
   rw [if_neg hc] at h'
   simp only [List.lookup_cons,hx] at h'
   exact ih h'
structure BlkOk (N:List Str) (sc scope:Scope) (own:List (Str × Nat)):Prop where
 kind:scope.kind=.function
 uniq:∀ y∈scope.names,scope.names.lookup y.1=some y.2
 ix:∀ p∈own,N[p.2]?=some p.1
 free:∀ y∈scope.names,y.2=.free→sc.names.lookup y.1=some .cell∨sc.names.lookup y.1=some .free
 own:∀ y∈scope.names,y.2=.local∨y.2=.cell→y.1∈own.map (·.1)∨y.1 ∉ N
def wipe (σ:St):List Nat→St
 | []=>σ
 | v :: vs=>(wipe σ vs).set v none
theorem wipe_length (σ:St):∀ vs:List Nat,(wipe σ vs).length=σ.length
 | []=>rfl
 | v :: vs=>by unfold wipe;rw [List.length_set,wipe_length σ vs]
theorem wipe_some {σ:St} {i:Nat} {x:V}:∀ {vs:List Nat},(wipe σ vs)[i]?=some (some x)→σ[i]?=some (some x)∧i ∉ vs
 | [],h=>⟨h,by simp⟩
 | v :: vs,h=>by
  unfold wipe at h
  by_cases hi:v=i
  ·subst hi
   by_cases hv:v < (wipe σ vs).length
   ·rw [List.getElem?_set_self hv] at h;cases h
   rw [List.getElem?_eq_none (by simpa using hv)] at h;cases h
  rw [List.getElem?_set_ne hi] at h
  obtain ⟨h1,h2⟩:=wipe_some h
  exact ⟨h1,by simp only [List.mem_cons,not_or];exact ⟨fun e=>hi e.symm,h2⟩⟩
abbrev Cx.blk (X:Cx) (s:Shared) (H:Hp) (scope:Scope) (cenv:Env) (fp:List Addr):Cx:={ X with s_0:=s,H_0:=H,env:=cenv,outer:=X.stack,ex:=fp,fn:=fun x=>scope.names.lookup x == some .cell,pn:=[],xe:=fun _ _=>False }
section
variable {X:Cx} {pins:List (Addr × Obj)} {σ:St} {H:Hp} {s:Shared}
theorem block_start {scope:Scope} {own:List (Str × Nat)} {fp:List Addr} (I:Inv X pins σ H s) (ok:BlkOk X.N X.env.scope scope own) (hN:X.N.Nodup) (hfp:∀ b∈fp,FpOk X pins H b∧b < s.heap.objs.size) :
  Inv (X.blk s H scope (compEnvC scope (cellsFrom (s.heap.objs.size + 1) scope.names (cloFrom X.env.cells scope.names [])) s.heap.objs.size X.env) fp) [] (wipe σ (own.map (·.2))) H { s with heap:=pushCells (s.heap.push { cls:=.type "dict",data:=.dict #[] }) scope.names }:=by
 refine zh0 ?_;simp (disch:=k_dflt (
 refine zh2 ?_
 have hfree:∀ y∈scope.names,y.2=.free→∃ c,X.env.cells.lookup y.1=some c:=fun y hy e=>by
  rcases ok.free y hy e with k | k
  ·exact I.ok.has _ (.inl k)
  exact I.ok.has _ (.inr k)
 generalize hcenv:compEnvC scope (cellsFrom (s.heap.objs.size + 1) scope.names (cloFrom X.env.cells scope.names [])) s.heap.objs.size X.env=cenv
 have kp:∀ b o,s.heap.get? b=some o→(pushCells (s.heap.push { cls:=.type "dict",data:=.dict #[] }) scope.names).get? b=some o:=fun b o e=>pushCells_keeps _ _ _ _ (Heap.get?_push_of_some _ e)
 have hL:cenv.locals=s.heap.objs.size:=by rw [← hcenv];rfl
 have hcl:cenv.cells=cellsFrom (s.heap.objs.size + 1) scope.names (cloFrom X.env.cells scope.names []):=by rw [← hcenv];rfl
 have hsc:cenv.scope=relS scope X.env.scope:=by rw [← hcenv];rfl
 rw [← Heap.size_push s.heap { cls:=.type "dict",data:=.dict #[] }] at hcl
 have cm:∀ {y c},(y,c)∈cloFrom X.env.cells scope.names []→X.env.cells.lookup y=some c∧c < s.heap.objs.size:=fun {y c} hm=>by
  rcases cloFrom_mem hm with hm | ⟨h1,rfl⟩
  ·cases hm
  obtain ⟨c,hc⟩:=hfree _ h1 rfl
  rw [hc]
  obtain ⟨w,z⟩:=I.cell _ _ hc
  exact ⟨rfl,z.lt⟩
 have mem:∀ {y c},cenv.cells.lookup y=some c→(X.env.cells.lookup y=some c∧c < s.heap.objs.size)∨(s.heap.objs.size + 1≤c∧CellAt (pushCells (s.heap.push { cls:=.type "dict",data:=.dict #[] }) scope.names) c none):=fun {y c} e=>by
  rw [hcl] at e
  rcases cells_mem (PySem.mem_of_lookup e) with hm | ⟨_,h2,h3⟩
  ·exact .inl (cm hm)
  rw [Heap.size_push] at h2;exact .inr ⟨h2,h3⟩
 have look:∀ {y},scope.names.lookup y=some .free→∃ c,cenv.cells.lookup y=some c∧X.env.cells.lookup y=some c:=fun {y} hl=>by
  have hy:(y,NameKind.free)∈scope.names:=PySem.mem_of_lookup hl
  obtain ⟨c',e'⟩:=mem_lookup (cells_acc (names:=scope.names) (n:=(s.heap.push { cls:=.type "dict",data:=.dict #[] }).objs.size) (cloFrom_has (cells:=X.env.cells) (acc:=[]) hy))
  rw [← hcl] at e'
  refine ⟨c',e',?_⟩
  rw [hcl] at e'
  rcases cells_mem (PySem.mem_of_lookup e') with hm | ⟨h1,_,_⟩
  ·exact (cm hm).1
  have:=ok.uniq _ h1
  rw [hl] at this;cases this
 have okB:(X.blk s H scope cenv fp).Ok:=by
  refine ⟨I.ok.mod,by show cenv.scope.kind=_;rw [hsc];exact ok.kind,by show cenv.globals=_;rw [← hcenv];exact I.ok.glob,by show cenv.builtins=_;rw [← hcenv];exact I.ok.blt,by show s.heap.objs.size≤cenv.locals;rw [hL];exact Nat.le_refl _,
   fun y z c e1 e2=>?_,fun y hy=>?_,fun y c z e=>?_,I.ok.hd,I.ok.frames,.inl rfl,fun b hb=>⟨?_,fun y c e z=>?_⟩,I.bs,Nat.le_trans I.ok.bsz I.sz,fun b o e hb=>?_,fun b hb z=>?_,I.stack,I.stkFree⟩
  ·have e1:cenv.cells.lookup y=some c:=e1
   have e2:cenv.cells.lookup z=some c:=e2
   rw [hcl] at e1 e2
   refine cells_inj (fun p hp=>?_) (fun y z c a b=>I.ok.inj y z c (cm a).1 (cm b).1) (PySem.mem_of_lookup e1) (PySem.mem_of_lookup e2)
   rw [Heap.size_push]
   exact Nat.lt_succ_of_lt (cm (y:=p.1) (c:=p.2) hp).2
  ·show ∃ c,cenv.cells.lookup y=some c
   have key:∀ k,cenv.kindOf y=some k→(k=.cell∨k=.free)→∃ c,cenv.cells.lookup y=some c:=fun k hk hk'=>by
    unfold Env.kindOf at hk
    rw [hsc] at hk
    obtain ⟨k',e,r⟩:=lookup_relS hk
    have:k'=.cell∨k'=.free:=by
     rcases r with rfl | ⟨rfl,_⟩
     ·exact hk'
     exact .inr rfl
    rcases this with rfl | rfl
    ·obtain ⟨c,hm⟩:=cells_has (n:=(s.heap.push { cls:=.type "dict",data:=.dict #[] }).objs.size) (acc:=cloFrom X.env.cells scope.names []) (PySem.mem_of_lookup e)
     obtain ⟨c',e'⟩:=mem_lookup hm
     exact ⟨c',by rw [hcl];exact e'⟩
    obtain ⟨c,h1,_⟩:=look e
    exact ⟨c,h1⟩
   rcases hy with hy | hy
   ·exact key _ hy (.inl rfl)
   exact key _ hy (.inr rfl)
  ·have z:(scope.names.lookup y == some NameKind.cell)=true:=z
   have z:scope.names.lookup y=some .cell:=by simpa using z
   have e:cenv.cells.lookup y=some c:=e
   rw [hcl] at e
   rcases cells_mem (PySem.mem_of_lookup e) with hm | ⟨_,h2,_⟩
   ·rcases cloFrom_mem hm with hm | ⟨h1,_⟩
    ·cases hm
    have q:=ok.uniq _ h1
    rw [z] at q;cases q
   rw [Heap.size_push] at h2
   exact Nat.le_of_succ_le h2
  ·show b≠cenv.locals
   rw [hL];exact Nat.ne_of_lt (hfp b hb).2
  ·have e:cenv.cells.lookup y=some c:=e
   rcases mem e with ⟨h1,_⟩ | ⟨h1,_⟩
   ·exact (hfp b hb).1.2.2.2.2.1 y c h1 z
   have h2:s.heap.objs.size + 1≤b:=by rw [← z];exact h1
   exact absurd (Nat.lt_of_lt_of_le (hfp b hb).2 (Nat.le_of_succ_le h2)) (Nat.lt_irrefl _)
  ·rcases (hfp b hb).1.2.2.2.1 with z | z
   ·exact I.ok.noex b o e z
   exact absurd (Nat.lt_of_lt_of_le (Heap.lt_size e) (Nat.le_trans I.ok.bsz z)) (Nat.lt_irrefl _)
  rcases List.mem_cons.mp (I.stkSub b z) with z | z
  ·exact (hfp b hb).1.2.1 z
  exact (hfp b hb).1.2.2.1 z
 refine ⟨okB,rfl,I.bare,Un.kept kp,⟨fun _=>none,?_,fun i y av e1 e2 e3=>?_⟩,fun y c e=>?_,?_,fun y c e=>?_,fun p hp=>?_,I.hok.kept kp,by rw [wipe_length];exact I.len⟩
 ·show Heap.Ns _ cenv.locals _
  rw [hL]
  exact Heap.Ns.keeps (Heap.Ns.new ..) fun b o e=>pushCells_keeps _ _ _ _ e
 ·obtain ⟨e2,hne⟩:=wipe_some e2
  have hfr:scope.names.lookup y=some .free∧(cenv.kindOf y=some .cell∨cenv.kindOf y=some .free):=by
   have key:∀ k,cenv.scope.names.lookup y=some k→k=.local∨k=.cell∨k=.free→scope.names.lookup y=some .free∧(cenv.kindOf y=some .cell∨cenv.kindOf y=some .free):=fun k hk hk'=>by
    have hk0:=hk
    rw [hsc] at hk
    obtain ⟨k',e,r⟩:=lookup_relS hk
    have no:¬ (k'=.local∨k'=.cell):=fun hh=>by
     rcases ok.own _ (PySem.mem_of_lookup e) hh with e' | e'
     ·obtain ⟨p,hp,hpy⟩:=List.mem_map.mp e'
      have e3:=ok.ix p hp
      have:p.1=y:=hpy
      rw [this] at e3
      exact hne (List.mem_map.mpr ⟨p,hp,nodup_ix hN e3 e1⟩)
     exact e' (List.mem_of_getElem? e1)
    rcases r with rfl | ⟨rfl,rfl⟩
    ·rcases hk' with rfl | rfl | rfl
     ·exact absurd (.inl rfl) no
     ·exact absurd (.inr rfl) no
     exact ⟨e,.inr hk0⟩
    exact ⟨e,.inl hk0⟩
   have e3:Vis cenv.scope y:=e3
   rcases e3 with e3 | e3 | e3
   ·exact key _ e3 (.inl rfl)
   ·exact key _ e3 (.inr (.inl rfl))
   exact key _ e3 (.inr (.inr rfl))
  obtain ⟨m,hn,hl⟩:=I.loc
  have hvis:Vis X.env.scope y:=(ok.free _ (PySem.mem_of_lookup hfr.1) rfl).elim (fun k=>.inr (.inl k)) (fun k=>.inr (.inr k))
  obtain ⟨w,r,q⟩:=hl i y av e1 e2 hvis
  refine ⟨w,r,.inr ⟨hfr.2,?_⟩⟩
  obtain ⟨c,h1,h2⟩:=look hfr.1
  rcases q with ⟨k,_⟩ | ⟨_,c',e',z⟩
  ·have k:X.env.scope.names.lookup y=some .local:=k
   rcases ok.free _ (PySem.mem_of_lookup hfr.1) rfl with k' | k' <;> rw [show X.env.scope.names.lookup y=_ from k'] at k <;> cases k
  rw [h2] at e';cases e'
  exact ⟨c,h1,z.keeps kp⟩
 ·have e:cenv.cells.lookup y=some c:=e
  rcases mem e with ⟨h1,_⟩ | ⟨_,z⟩
  ·obtain ⟨w,z⟩:=I.cell y c h1
   exact ⟨w,z.keeps kp⟩
  exact ⟨_,z⟩
 ·show H cenv.locals=none
  rw [hL];exact I.hok.fresh (Nat.le_refl _)
 ·have e:cenv.cells.lookup y=some c:=e
  rcases mem e with ⟨h1,_⟩ | ⟨h1,_⟩
  ·exact I.freeC y c h1
  exact I.hok.fresh (Nat.le_of_succ_le h1)
 exact absurd (show p∈([]:List (Addr × Obj))++[] from hp) (by simp))) only [↓zh1]
theorem app_ok {E:Value→Shared→Prop} {D:Addr} {xs:List V} {y:V} {v:Value} {Q:Value→Shared→Prop} (I:Inv X pins σ H s) (hD:H D=some (.lst xs)) (hz:xs.length < sizeLine) (r:RelV y v)
  (h:∀ s',Inv X pins σ (upd H D (.lst (xs++[y]))) s'→Q .none s'):wpAny (model X.prog X.w) X.A (call (.builtin "list.append") [.ref D,v]) Q E s:=by
 refine zh0 ?_;simp (disch:=k_dflt (
 refine zh2 ?_
 obtain ⟨hz',its,n,ri,e⟩:=I.hok D _ hD
 have hl:=ri.length
 refine append_at (hsz:=by rw [List.size_toArray];omega) e fun h' sb ho'=>?_
 refine h { s with heap:=h' } (I.write (t':=s.toks) (by rw [hD];trivial) (.inl rfl) (fun b u hb q=>(sb.2 b hb).trans q) ⟨_,ho'⟩ ⟨by rw [List.length_append];exact hz,its++[v],n + 1,ri.append (.cons r .nil),?_⟩)
 rw [ho']
 simp)) only [↓zh1]
def PTs (X:Cx) (ifs:List Expr) (t:TT):Prop :=
 ∀ (pins:List (Addr × Obj)) (s:Shared) (σ:St) (H:Hp) (Q:Bool→Hp→Prop),Inv X pins σ H s→t σ H Q →
  wpAny (model X.prog X.w) X.A (forIn ifs true fun c r=>if r=true then do let ok ← isTrue c X.env (eval c X.env);pure (ForInStep.yield ok) else pure (ForInStep.yield r)) (TP X pins σ Q) X.xe s
def tYes:TT:=fun _ H Q=>Q true H
theorem pts_nil:PTs X [] tYes:=fun _ _ _ H _ I h=>wpAny_tests_nil ⟨H,I,h⟩
theorem pts_one {c:Expr} {t:TT} (h:PT X c t):PTs X [c] t:=fun pins s σ H Q I hw=>wpAny_tests_one (h pins s σ H Q I hw)
end
theorem thnF {α:Type} {t:Sem α} {Q Q':α→Shared→Prop} {M:Model} {A:Around} {E:Value→Shared→Prop} {s:Shared} (h:wpAny M A t Q (fun _ _=>False) s) (hQ:∀ a s,Q a s→Q' a s):wpAny M A t Q' E s:=wpAny_mono h hQ fun _ _ z=>False.elim z
theorem compLoop_any {prog:Program} {w:World} {A:Around} {R:Result→Shared→Prop} {s:Shared} {elt target iter:Expr} {ifs:List Expr} {scope:Scope} {pos:Pos} {it acc:Value} {env:Env} (I:Nat→Shared→Prop)
  (turn:∀ n s,I n s→wpAny (model prog w) A (pyNext it) (fun r s₁=>match r with
   | none=>R (.ok .next) s₁
   | some v=>wpAny (model prog w) A (letOwnedTupleGo target it v) (fun _ s₁'=>wpAny (model prog w) A (assign target env v) (fun _ s₂ =>
     wpAny (model prog w) A (forIn ifs true fun c r=>if r=true then do let ok ← isTrue c env (eval c env);pure (ForInStep.yield ok) else pure (ForInStep.yield r)) (fun ok s₃ =>
      if ok=true then wpAny (model prog w) A (eval elt env) (fun x s₄ =>
       wpAny (model prog w) A (call (.builtin "list.append") [acc,x]) (fun _ s₅=>∃ m,m < n∧I m s₅) (notedBy (model prog w) A env fun e s'=>R (.error e) s') s₄) (notedBy (model prog w) A env fun e s'=>R (.error e) s') s₃
      else ∃ m,m < n∧I m s₃) (notedBy (model prog w) A env fun e s'=>R (.error e) s') s₂) (notedBy (model prog w) A env fun e s'=>R (.error e) s') s₁') (notedBy (model prog w) A env fun e s'=>R (.error e) s') s₁) (notedBy (model prog w) A env fun e s'=>R (.error e) s') s)
  (n:Nat) (h:I n s) :
  codeAny (model prog w) A (.compLoop (.ListComp elt [⟨target,iter,ifs,0⟩] scope pos) 0 it acc env) R s:=by
 refine zh0 ?_;simp (disch:=k_dflt (
 refine zh2 ?_
 refine codeAny_loop rfl I (fun n s hI=>?_) n h
 show wpAny _ A ((compTurn (.ListComp elt [⟨target,iter,ifs,0⟩] scope pos) 0 it acc env).onRaise (fun x=>do noteFrame x env;theTreesLotGoes x)) _ _ s
 refine wpAny_noted ?_
 rw [compTurn_list]
 refine wpAny_bind (wpAny_standAt (wpAny_bind (wpAny_mono (turn n s hI) (fun r s₁ h₁=>?_) fun _ _ h'=>h')))
 cases r with
 | none=>exact wpAny_pure h₁
 | some v =>
  refine wpAny_bind (wpAny_mono h₁ (fun _ s₁' h₁'=>?_) fun _ _ h'=>h')
  refine wpAny_bind (wpAny_mono h₁' (fun _ s₂ h₂=>wpAny_bind (wpAny_mono h₂ (fun ok s₃ h₃=>?_) fun _ _ h'=>h')) fun _ _ h'=>h')
  cases ok with
  | false=>exact wpAny_pure ⟨rfl,h₃⟩
  | true =>
   exact wpAny_bind (wpAny_bind (wpAny_mono h₃ (fun x s₄ h₄=>wpAny_bind (wpAny_mono h₄ (fun _ s₅ h₅=>wpAny_pure (wpAny_pure ⟨rfl,h₅⟩)) fun _ _ h'=>h')) fun _ _ h'=>h')))) only [↓zh1]
section
variable {X:Cx}
def tLc (wi:TI) (g:TG) (tt:TT) (te:TE) (vs:List Nat):TE:=fun σ H Q=>wi σ H fun J H1=>∀ D,H1 D=none→∃ W:Nat→Nat→Hp→Prop,(∃ m,W 0 m (upd H1 D (.lst [])))∧∀ i m H,W i m H →
 (J.stop i H∧Q (.ref D) H)∨(J.go i H∧∃ Nx:Hp→Prop,(∀ H',Nx H'→∃ m',m' < m∧W (i + 1) m' H')∧∀ x H',J.yld i H x H'→g x (wipe σ vs) H' fun σ2 H2=>wipe σ2 vs=wipe σ vs∧tt σ2 H2 fun b H3 =>
  if b=true then te σ2 H3 fun y H4=>∃ acc,H4 D=some (.lst acc)∧acc.length < sizeLine∧Nx (upd H4 D (.lst (acc++[y]))) else Nx H3)
theorem lc_core {pins:List (Addr × Obj)} {s:Shared} {σ:St} {H:Hp} {Q:VK} {elt tg iter:Expr} {ifs:List Expr} {scope:Scope} {own:List (Str × Nat)} {pos pos':Pos} {wi:TI} {g:TG} {tt:TT} {te:TE} {use:Option (Value→Sem Unit)} {Qf:Value→Shared→Prop}
  (hc:X.calm=true) (hN:X.N.Nodup) (I:Inv X pins σ H s) (hi:PI X tg iter wi) (ok:BlkOk X.N X.env.scope scope own)
  (hg:∀ (s:Shared) (H:Hp) (C:Addr) (cl:List (Str × Addr)) (fp:List Addr),PG (X.blk s H scope (compEnvC scope cl C X.env) fp) tg g) (ht:∀ (s:Shared) (H:Hp) (C:Addr) (cl:List (Str × Addr)) (fp:List Addr),PTs (X.blk s H scope (compEnvC scope cl C X.env) fp) ifs tt)
  (he:∀ (s:Shared) (H:Hp) (C:Addr) (cl:List (Str × Addr)) (fp:List Addr),PE (X.blk s H scope (compEnvC scope cl C X.env) fp) elt te) (hs:∀ x,foldedSetIterable iter X.env x=pure x)
  (h:tLc wi g tt te (own.map (·.2)) σ H Q)
  (hRR:∀ D C s' m H',Inv X pins σ H' s'→Q (.ref D) H'→s'.heap.Ns C m→FpOk X pins H' C→compPost (model X.prog X.w) X.A X.xe use Qf (.ref D) C (.ok .next) s') :
  wpAny (model X.prog X.w) X.A (comprehension (.ListComp elt [⟨tg,iter,ifs,0⟩] scope pos) scope X.env pos' (newList []) false (eval iter X.env) use) Qf X.xe s:=by
 have hfree:∀ y∈scope.names,y.2=.free→∃ c,X.env.cells.lookup y.1=some c:=fun y hy e=>by
  rcases ok.free y hy e with k | k
  ·exact I.ok.has _ (.inl k)
  exact I.ok.has _ (.inr k)
 refine wpAny_comprehension_free (use:=use) rfl hs (closure_ok hfree) ok.kind (fun y hy e=>by rw [ok.uniq y hy,e])
  (thn (hi pins s σ H _ I h) fun xv s1 hx=>thn hx fun itv s2 h2=>?_)
 obtain ⟨it,fp,tn,J,H2,e,I2,T,st2,f2,q⟩:=h2
 subst e
 refine wpAny_newObj_type (newEnv_comp ?_) (by show 0≤sizeLine;decide)
 generalize hD:s2.heap.objs.size=D
 have hDn:H2 D=none:=I2.hok.fresh (Nat.le_of_eq hD)
 obtain ⟨W,⟨m0,w0⟩,turn⟩:=q D hDn
 -- the new list
 generalize hs3:({ s2 with heap:=s2.heap.push { cls:=.type "list",data:=.seq ([]:List Value).toArray } }:Shared)=s3
 have I3:Inv X pins σ (upd H2 D (.lst [])) s3:=by
  rw [← hs3]
  refine I2.laid (t':=s2.toks) (fun b o e=>Heap.get?_push_of_some _ e) (Nat.le_of_eq hD) ⟨Nat.zero_le _,[],0,.nil,?_⟩
  rw [← hD]
  exact Heap.get?_push_size _ rfl
 have h3:s3.heap=s2.heap.push { cls:=.type "list",data:=.seq ([]:List Value).toArray }:=by rw [← hs3]
 have sz:∀ b∈fp,b < s2.heap.objs.size:=fun b hb=>by
  obtain ⟨o,e,_⟩:=T.obj _ _ st2 b hb
  exact Heap.lt_size e
 have f3:∀ b∈fp,FpOk X pins (upd H2 D (.lst [])) b∧b < s3.heap.objs.size:=fun b hb=>by
  have hlt:=sz b hb
  refine ⟨⟨?_,(f2 b hb).2⟩,by rw [h3,Heap.size_push];exact Nat.lt_succ_of_lt hlt⟩
  rw [upd_ne (by rw [← hD];exact Nat.ne_of_lt hlt)]
  exact (f2 b hb).1
 have st3:tn 0 s3.heap:=T.keep _ _ _ st2 fun b _ o e=>by rw [h3];exact Heap.get?_push_of_some _ e
 have I4:=block_start I3 ok hN f3
 have pg:=hg s3 (upd H2 D (.lst [])) s3.heap.objs.size (cellsFrom (s3.heap.objs.size + 1) scope.names (cloFrom X.env.cells scope.names [])) fp
 have pt:=ht s3 (upd H2 D (.lst [])) s3.heap.objs.size (cellsFrom (s3.heap.objs.size + 1) scope.names (cloFrom X.env.cells scope.names [])) fp
 have pe:=he s3 (upd H2 D (.lst [])) s3.heap.objs.size (cellsFrom (s3.heap.objs.size + 1) scope.names (cloFrom X.env.cells scope.names [])) fp
 show codeAny _ _ (.compStart (.ListComp elt [⟨tg,iter,ifs,0⟩] scope pos) 0 (.ref it) (.ref D) (compEnvC scope (cellsFrom (s3.heap.objs.size + 1) scope.names (cloFrom X.env.cells scope.names [])) s3.heap.objs.size X.env)) (compPost (model X.prog X.w) X.A X.xe use Qf (.ref D) s3.heap.objs.size) { s3 with heap:=pushCells (s3.heap.push { cls:=.type "dict",data:=.dict #[] }) scope.names }
 have nfp:∀ b∈fp,(upd H2 D (.lst [])) b=none:=fun b hb=>(f3 b hb).1.1
 generalize hce:compEnvC scope (cellsFrom (s3.heap.objs.size + 1) scope.names (cloFrom X.env.cells scope.names [])) s3.heap.objs.size X.env=ce at I4 pg pt pe ⊢
 have cL:ce.locals=s3.heap.objs.size:=by subst hce;rfl
 generalize hH3:upd H2 D (.lst [])=H3 at I3 I4 pg pt pe w0 nfp f3
 generalize hs4:({ s3 with heap:=pushCells (s3.heap.push { cls:=.type "dict",data:=.dict #[] }) scope.names }:Shared)=s4 at I4 ⊢
 have st4:tn 0 s4.heap:=T.keep _ _ _ st3 fun b _ o e=>by rw [← hs4];exact pushCells_keeps _ _ _ _ (Heap.get?_push_of_some _ e)
 have stat:∀ {σ':St} {H':Hp} {s':Shared},Inv (X.blk s3 H3 scope ce fp) [] σ' H' s'→(∀ b∈fp,H' b=none)→∀ b∈fp,FpOk (X.blk s3 H3 scope ce fp) [] H' b:=fun {σ' H' s'} I' hn b hb =>
  ⟨hn b hb,(I'.ok.exf b hb).1,I'.ok.exfs b hb,.inl hb,fun x c e=>(I'.ok.exf b hb).2 x c e,fun p hp=>absurd (show p∈([]:List (Addr × Obj))++[] from hp) (by simp)⟩
 have loop:codeAny (model X.prog X.w) X.A (.compLoop (.ListComp elt [⟨tg,iter,ifs,0⟩] scope pos) 0 (.ref it) (.ref D) ce) (compPost (model X.prog X.w) X.A X.xe use Qf (.ref D) s3.heap.objs.size) s4:=by
  refine compLoop_any (fun n s'=>∃ i H',Inv (X.blk s3 H3 scope ce fp) [] (wipe σ (own.map (·.2))) H' s'∧tn i s'.heap∧(∀ b∈fp,H' b=none)∧W i n H') ?_ m0 ⟨0,H3,I4,st4,nfp,w0⟩
  rintro n s5 ⟨i,H5,I5,st5,n5,w5⟩
  rcases turn i n H5 w5 with ⟨stop,qq⟩ | ⟨go,Nx,hNx,step⟩
  ·have td:=T.done (X.blk s3 H3 scope ce fp) rfl rfl rfl hc i [] s5 _ H5 (fun _ _=>False) I5 (stat I5 n5) st5 stop
   refine thnF td fun r s6 ⟨hr,I6⟩=>?_
   subst hr
   -- back in the def's context
   have I7:Inv X pins σ H5 s6:=I3.call' (ch:=fp) I6.os I6.base I6.hok I6.bare fun b hb=>⟨(f3 b hb).1.2.2.2.1,(f3 b hb).1.2.1,(f3 b hb).1.2.2.2.2.1,(f3 b hb).1.2.2.2.2.2⟩
   have nC:H5 s3.heap.objs.size=none:=by
    have z:H5 ce.locals=none:=I6.free
    rw [cL] at z
    exact z
   obtain ⟨m,hn,_⟩:=I6.loc
   have hn:s6.heap.Ns ce.locals m:=hn
   rw [cL] at hn
   exact hRR D s3.heap.objs.size s6 m H5 I7 qq hn (I3.fpOk (Nat.le_refl _) nC)
  have ti:=T.item (X.blk s3 H3 scope ce fp) rfl rfl rfl hc i [] s5 _ H5 (fun _ _=>False) I5 (stat I5 n5) st5 go
  refine thnF ti fun r s6 ⟨u,hr,h6⟩=>?_
  subst hr
  refine thnF h6 fun _ s7 ⟨x,H7,I7,r7,y7,st7,n7⟩=>?_
  have I7':=I7.pinned (stat I7 n7) (T.obj _ _ st7)
  refine thnF (pg _ s7 _ H7 x u _ I7' r7 (step x H7 y7)) fun _ s8 ⟨σ8,H8,I8,hw8,q8⟩=>?_
  refine thnF (pt _ s8 σ8 H8 _ I8 q8) fun b s9 ⟨H9,I9,q9⟩=>?_
  -- the turn's end
  have fin:∀ {s':Shared} {H':Hp},Inv (X.blk s3 H3 scope ce fp) ([]++pinsAt fp s7.heap) σ8 H' s'→Nx H'→∃ m,m < n∧∃ i H',Inv (X.blk s3 H3 scope ce fp) [] (wipe σ (own.map (·.2))) H' s'∧tn i s'.heap∧(∀ b∈fp,H' b=none)∧W i m H':=fun {s' H'} I' nx=>by
   obtain ⟨m',hm,w'⟩:=hNx H' nx
   have pin':∀ b∈fp,∀ o,s7.heap.get? b=some o→s'.heap.get? b=some o∧H' b=none:=fun b hb o e =>
    let z:=I'.pin (b,o) (List.mem_append_right _ (List.mem_append_right _ (mem_pinsAt hb e)))
    ⟨z.1,z.2.1⟩
   have hl:(wipe σ (own.map (·.2))).length=σ8.length:=by rw [← hw8,wipe_length]
   refine ⟨m',hm,i + 1,H',(I'.unpinned (pins:=[])).weak hl (fun j v e=>?_),T.keep _ _ _ st7 fun b hb o e=>(pin' b hb o e).1,fun b hb=>?_,w'⟩
   ·rw [← hw8] at e
    exact (wipe_some e).1
   obtain ⟨o,e,_⟩:=T.obj _ _ st7 b hb
   exact (pin' b hb o e).2
  cases b with
  | false =>
   simp only [Bool.false_eq_true,if_false] at q9 ⊢
   exact fin I9 q9
  | true =>
   simp only [if_true] at q9 ⊢
   refine thnF (pe _ s9 σ8 H9 _ I9 q9) fun z s10 ⟨yv,H10,I10,r10,acc,hD10,hz10,nx⟩=>?_
   exact app_ok (X:=X.blk s3 H3 scope ce fp) I10 hD10 hz10 r10 fun s11 I11=>fin I11 nx
 exact codeAny_compStart_list loop (T.self X.A 0 _ _ _ st4 loop)
theorem pe_lc {elt tg iter:Expr} {ifs:List Expr} {scope:Scope} {own:List (Str × Nat)} {pos:Pos} {wi:TI} {g:TG} {tt:TT} {te:TE} (hc:X.calm=true) (hN:X.N.Nodup) (hi:PI X tg iter wi) (ok:BlkOk X.N X.env.scope scope own)
  (hg:∀ (s:Shared) (H:Hp) (C:Addr) (cl:List (Str × Addr)) (fp:List Addr),PG (X.blk s H scope (compEnvC scope cl C X.env) fp) tg g) (ht:∀ (s:Shared) (H:Hp) (C:Addr) (cl:List (Str × Addr)) (fp:List Addr),PTs (X.blk s H scope (compEnvC scope cl C X.env) fp) ifs tt)
  (he:∀ (s:Shared) (H:Hp) (C:Addr) (cl:List (Str × Addr)) (fp:List Addr),PE (X.blk s H scope (compEnvC scope cl C X.env) fp) elt te) (hs:∀ x,foldedSetIterable iter X.env x=pure x:=by intro _;rfl) :
  PE X (.ListComp elt [⟨tg,iter,ifs,0⟩] scope pos) (tLc wi g tt te (own.map (·.2))):=by
 refine zh0 ?_;simp (disch:=k_dflt (
 refine zh2 ?_
 intro pins s σ H Q I h
 rw [eval_ListComp]
 refine lc_core hc hN I hi ok hg ht he hs h fun D C s' m H' I' q hn f=>⟨m,hn,fun h'' sb=>?_⟩
 obtain ⟨f0,f1,f2,f3,f4,f5⟩:=f
 exact ⟨.ref D,H',I'.turned (t':=s'.toks) (fun b o hb e=>(sb.2 b hb).trans e) f0 f1 f3 f4 f5,rfl,q⟩)) only [↓zh1]
theorem ps_setLc {i:Nat} {y:Str} {py:Pos} {elt tg iter:Expr} {ifs:List Expr} {scope:Scope} {own:List (Str × Nat)} {pos spos:Pos} {wi:TI} {g:TG} {tt:TT} {te:TE} (hc:X.calm=true) (hN:X.N.Nodup) (hy:X.N[i]?=some y) (hyl:X.env.scope.names.lookup y=some .local)
  (hsw:swapsWith (.ListComp elt [⟨tg,iter,ifs,0⟩] scope pos) (some (.Name y py)) spos.line X.env=pure true) (hi:PI X tg iter wi) (ok:BlkOk X.N X.env.scope scope own)
  (hg:∀ (s:Shared) (H:Hp) (C:Addr) (cl:List (Str × Addr)) (fp:List Addr),PG (X.blk s H scope (compEnvC scope cl C X.env) fp) tg g) (ht:∀ (s:Shared) (H:Hp) (C:Addr) (cl:List (Str × Addr)) (fp:List Addr),PTs (X.blk s H scope (compEnvC scope cl C X.env) fp) ifs tt)
  (he:∀ (s:Shared) (H:Hp) (C:Addr) (cl:List (Str × Addr)) (fp:List Addr),PE (X.blk s H scope (compEnvC scope cl C X.env) fp) elt te) (hs:∀ x,foldedSetIterable iter X.env x=pure x:=by intro _;rfl) :
  PS X (.Assign [.Name y py] (.ListComp elt [⟨tg,iter,ifs,0⟩] scope pos) spos) (tAsg (tLc wi g tt te (own.map (·.2))) (gName i)):=by
 refine zh0 ?_;simp (disch:=k_dflt (
 refine zh2 ?_
 intro pins s σ H D I h
 rw [exec_Assign_Name_used _ _ _ _ hsw]
 refine wpAny_bind (wpAny_standAt (wpAny_bind ?_))
 show wpAny _ X.A (do let _ ← comprehension (.ListComp elt [⟨tg,iter,ifs,0⟩] scope pos) scope X.env (firstIterPos [⟨tg,iter,ifs,0⟩] pos) (newList []) false (eval iter X.env) (some (assign (.Name y py) X.env))) _ _ s
 have h:tLc wi g tt te (own.map (·.2)) σ H (fun x H1=>gName i x σ H1 D.nx):=h
 refine wpAny_bind (thn (lc_core (Qf:=fun _ s'=>SP X pins D .next s') hc hN I hi ok hg ht he hs h fun L C s' m H' I' q hn f=>?_) fun _ s' hq=>wpAny_pure (wpAny_pure hq))
 show wpAny _ _ (assign (.Name y py) X.env (.ref L)) _ _ _
 refine wpAny_assign_Name (store_ok2 (v:=V.ref L) I' hN hy (.inl hyl) rfl (fun s2 I2 ⟨a,sb,ha⟩=>?_) (.inr hyl))
 obtain ⟨f0,f1,f2,f3,f4,f5⟩:=f
 have haC:C≠a:=by
  rcases ha with z | z
  ·rw [z];exact f1
  exact fun e=>f4 y a z e.symm
 refine ⟨m,hn.sameBut sb haC,fun h3 sb3=>?_⟩
 exact ⟨_,H',I2.turned (t':=s2.toks) (fun b o hb e=>(sb3.2 b hb).trans e) f0 f1 f3 f4 f5,q⟩)) only [↓zh1]
theorem sw_true {elt:Expr} {gs:List Comprehension} {scope:Scope} {pos py:Pos} {y:Str} {l:Nat} {env:Env} (hk:env.scope.kind=.function) (hy:env.scope.names.lookup y=some .local) (hl:(py.line == pos.line)=true)
  (ha:(scope.names.any fun (n,k)=>n == y && (k == .local || k == .cell))=false):swapsWith (.ListComp elt gs scope pos) (some (.Name y py)) l env=pure true:=by
 have ky:env.kindOf y=some .local:=hy
 have hb:env.blockKind=.function:=by unfold Env.blockKind;rw [hk];rfl
 unfold swapsWith
 simp only [hb,ky,ha,Expr.pos,hl]
 rfl
end
theorem lc_range {lo:Int} {n:Nat} {g:TG} {tt:TT} {te:TE} {vs:List Nat} {σ:St} {H1:Hp} {D:Addr} {Qd:Hp→Prop} (Pv:Nat→Hp→Prop) (h0:Pv 0 (upd H1 D (.lst [])))
  (hs:∀ i H,i < n→Pv i H→g (.int (lo + i)) (wipe σ vs) H fun σ2 H2=>wipe σ2 vs=wipe σ vs∧tt σ2 H2 fun b H3 =>
   if b=true then te σ2 H3 fun y H4=>∃ acc,H4 D=some (.lst acc)∧acc.length < sizeLine∧Pv (i + 1) (upd H4 D (.lst (acc++[y]))) else Pv (i + 1) H3) (hd:∀ H,Pv n H→Qd H) :
  ∃ W:Nat→Nat→Hp→Prop,(∃ m,W 0 m (upd H1 D (.lst [])))∧∀ i m H,W i m H →
   ((Itr lo n).stop i H∧Qd H)∨((Itr lo n).go i H∧∃ Nx:Hp→Prop,(∀ H',Nx H'→∃ m',m' < m∧W (i + 1) m' H')∧∀ x H',(Itr lo n).yld i H x H'→g x (wipe σ vs) H' fun σ2 H2=>wipe σ2 vs=wipe σ vs∧tt σ2 H2 fun b H3 =>
    if b=true then te σ2 H3 fun y H4=>∃ acc,H4 D=some (.lst acc)∧acc.length < sizeLine∧Nx (upd H4 D (.lst (acc++[y]))) else Nx H3):=by
 refine zh0 ?_;simp (disch:=k_dflt (
 refine zh2 ?_
 refine ⟨fun i m H=>m=n - i∧i≤n∧Pv i H,⟨n,by simp,Nat.zero_le _,h0⟩,?_⟩
 rintro i m H ⟨rfl,hi,p⟩
 by_cases hlt:i < n
 ·refine .inr ⟨hlt,Pv (i + 1),fun H' p'=>⟨n - (i + 1),by omega,rfl,hlt,p'⟩,fun x H' y=>?_⟩
  obtain ⟨e,y⟩:=y
  subst e y
  exact hs i _ hlt p
 have e:i=n:=by omega
 subst e
 exact .inl ⟨Nat.le_refl _,hd H p⟩)) only [↓zh1]
theorem lc_list {K:PySem.W.Frag} {a:Addr} {xs:List V} {g:TG} {tt:TT} {te:TE} {vs:List Nat} {σ:St} {H1:Hp} {D:Addr} {Qd:Hp→Prop} (Pv:Nat→Hp→Prop) (h0:Pv 0 (upd H1 D (.lst []))) (hl:∀ i H,i≤xs.length→Pv i H→SqL K H a xs)
  (hs:∀ i x H,xs[i]?=some x→Pv i H→g x (wipe σ vs) H fun σ2 H2=>wipe σ2 vs=wipe σ vs∧tt σ2 H2 fun b H3 =>
   if b=true then te σ2 H3 fun y H4=>∃ acc,H4 D=some (.lst acc)∧acc.length < sizeLine∧Pv (i + 1) (upd H4 D (.lst (acc++[y]))) else Pv (i + 1) H3) (hd:∀ H,Pv xs.length H→Qd H) :
  ∃ W:Nat→Nat→Hp→Prop,(∃ m,W 0 m (upd H1 D (.lst [])))∧∀ i m H,W i m H →
   ((Itl K a).stop i H∧Qd H)∨((Itl K a).go i H∧∃ Nx:Hp→Prop,(∀ H',Nx H'→∃ m',m' < m∧W (i + 1) m' H')∧∀ x H',(Itl K a).yld i H x H'→g x (wipe σ vs) H' fun σ2 H2=>wipe σ2 vs=wipe σ vs∧tt σ2 H2 fun b H3 =>
    if b=true then te σ2 H3 fun y H4=>∃ acc,H4 D=some (.lst acc)∧acc.length < sizeLine∧Nx (upd H4 D (.lst (acc++[y]))) else Nx H3):=by
 refine zh0 ?_;simp (disch:=k_dflt (
 refine zh2 ?_
 refine ⟨fun i m H=>m=xs.length - i∧i≤xs.length∧Pv i H,⟨xs.length,by simp,Nat.zero_le _,h0⟩,?_⟩
 rintro i m H ⟨rfl,hi,p⟩
 have q:=hl i H hi p
 by_cases hlt:i < xs.length
 ·refine .inr ⟨⟨xs,xs[i],q,by simp [hlt]⟩,Pv (i + 1),fun H' p'=>⟨xs.length - (i + 1),by omega,rfl,hlt,p'⟩,fun x H' y=>?_⟩
  obtain ⟨e,y⟩:=y
  subst e
  exact hs i x _ (y xs q) p
 have e:i=xs.length:=by omega
 subst e
 exact .inl ⟨⟨xs,q,Nat.le_refl _⟩,hd H p⟩)) only [↓zh1]
def blkC (N:List Str) (sc scope:Scope) (own:List (Str × Nat)):Bool :=
 (match scope.kind with | .function=>true | _=>false) && (scope.names.all fun y=>decide (scope.names.lookup y.1=some y.2)) && (own.all fun p=>decide (N[p.2]?=some p.1)) &&
  (scope.names.all fun y=>match y.2 with
   | .free=>(match sc.names.lookup y.1 with | some .cell=>true | some .free=>true | _=>false)
   | .local=>decide (y.1∈own.map (·.1)) || decide (y.1 ∉ N)
   | .cell=>decide (y.1∈own.map (·.1)) || decide (y.1 ∉ N)
   | _=>true)
theorem blkOk_by {N:List Str} {sc scope:Scope} {own:List (Str × Nat)} (h:blkC N sc scope own=true):BlkOk N sc scope own:=by
 refine zh0 ?_;simp (disch:=k_dflt (
 refine zh2 ?_
 unfold blkC at h
 simp only [Bool.and_eq_true,List.all_eq_true,decide_eq_true_eq] at h
 obtain ⟨⟨⟨h1,h2⟩,h3⟩,h4⟩:=h
 refine ⟨?_,h2,h3,fun y hy e=>?_,fun y hy e=>?_⟩
 ·split at h1
  ·assumption
  cases h1
 ·have q:=h4 y hy
  simp only [e] at q
  split at q <;> first | exact .inl (by assumption) | exact .inr (by assumption) | cases q
 have q:=h4 y hy
 rcases e with e | e <;> (simp only [e,Bool.or_eq_true,decide_eq_true_eq] at q;exact q))) only [↓zh1]
end L2
namespace L2
open PySem PySem.Spec PyProof.Rows
section
variable {prog:Program} {w:World} {A:Around} {R:Result→Shared→Prop} {s:Shared} {elt t0 i0 t1 i1:Expr} {ifs0 ifs1:List Expr} {scope:Scope} {pos:Pos} {it acc:Value} {env:Env}
end
section
variable {X:Cx}
end
end L2
namespace L2
open PySem PySem.Spec PyProof.Rows
section
variable {κ:Type} [DecidableEq κ]
end
section
variable {P:Program} {w:World} {H:Hp} {h:Heap} {a:Addr}
end
section
variable {X:Cx} {pins:List (Addr × Obj)} {σ:St} {H:Hp} {s:Shared} {a:Addr} {y v:V} {u r:Value} {o:Option V} {A:Around} {E:Value→Shared→Prop}
end
section
variable {X:Cx} {pins:List (Addr × Obj)} {σ:St} {H:Hp} {s:Shared} {a:Addr} {kvs:List (Key × V)} {k:Key} {u:Value} {A:Around} {E:Value→Shared→Prop}
end
section
variable {X:Cx} {o i e value:Expr} {pos pos' tpos:Pos} {td ty tv:TE}
end
section
variable {X:Cx} {pos:Pos}
end
section
variable {X:Cx} {pins:List (Addr × Obj)} {σ:St} {H:Hp} {s:Shared} {a:Addr} {y d:V} {u r:Value} {o:Option V} {A:Around} {E:Value→Shared→Prop}
end
section
variable {X:Cx} {o e f:Expr} {apos cpos:Pos} {td ty tx:TE}
end
section
variable {X:Cx} {pins:List (Addr × Obj)} {σ:St} {H:Hp} {s:Shared} {a:Addr} {kvs:List (Key × V)} {A:Around} {E:Value→Shared→Prop}
end
section
variable {X:Cx} {pins:List (Addr × Obj)} {σ:St} {H:Hp} {s:Shared} {a:Addr} {y:V} {u:Value} {A:Around} {E:Value→Shared→Prop}
end
end L2
namespace L2
open PySem PySem.Spec PyProof.Rows
section
variable {prog:Program} {w:World} {A:Around} {E:Value→Shared→Prop}
end
section
variable {X:Cx}
end
end L2
namespace L2
open PySem PySem.Spec PyProof.Rows
section
variable {X:Cx} {pins:List (Addr × Obj)} {σ:St} {H:Hp} {s:Shared} {h':Heap}
theorem Inv.turnedL {t':Nat} {ch:List Addr} (I:Inv X pins σ H s) (k:∀ b o,b ∉ ch→s.heap.get? b=some o→h'.get? b=some o) (hf:∀ b∈ch,FpOk X pins H b):Inv X pins σ H { s with heap:=h',toks:=t' }:=by
 refine zh0 ?_;simp (disch:=k_dflt (
 refine zh2 ?_
 have nit:∀ b u,H b=some u→b ∉ ch:=fun b u e z=>by
  have q:=(hf b z).1
  rw [q] at e;cases e
 refine I.step (g':=s.gens) (d':=s.drawn) (ch:=ch) (fun b hb=>⟨(hf b hb).2.2.2.1,(hf b hb).2.1,(hf b hb).2.2.2.2.1,(hf b hb).2.2.2.2.2⟩) (fun b o _ _ hc e _=>k b o hc e) (fun b o _ _ hc e _=>⟨o.slots,k b o hc e⟩)
  (fun _ _ _ _ n=>n) (fun b o hc e=>⟨o,k b o hc e⟩) (fun _ _ e=>e) (fun _ _ _ e=>e) (fun b ps e=>⟨#[],by rw [e];simp⟩) (fun m hm=>?_) (fun b u e=>?_) I.bare
 ·obtain ⟨o,es,ep,ho,r⟩:=hm
  exact ⟨o,es,ep,k _ o (fun z=>(hf _ z).2.1 rfl) ho,r⟩
 refine (I.hok b u e).stay (fun c v hc q=>k c v ?_ q) (fun _ q=>q) fun _ _ q=>q
 rcases hc with z | z
 ·rw [z];exact nit b u e
 exact nit c _ z)) only [↓zh1]
theorem Inv.turnedNew {t':Nat} {ch:List Addr} {T:Addr} {ob:HO} (I:Inv X pins σ H s) (k:∀ b o,b ∉ ch→s.heap.get? b=some o→h'.get? b=some o) (hf:∀ b∈ch,FpOk X pins H b) (hT:s.heap.objs.size≤T)
  (new:ObjOk X.prog X.w (upd H T ob) h' T ob):Inv X pins σ (upd H T ob) { s with heap:=h',toks:=t' }:=by
 refine zh0 ?_;simp (disch:=k_dflt (
 refine zh2 ?_
 have hn:H T=none:=I.hok.fresh hT
 have nit:∀ b u,H b=some u→b ∉ ch:=fun b u e z=>by
  have q:=(hf b z).1
  rw [q] at e;cases e
 refine I.step (g':=s.gens) (d':=s.drawn) (ch:=ch) (fun b hb=>⟨(hf b hb).2.2.2.1,(hf b hb).2.1,(hf b hb).2.2.2.2.1,(hf b hb).2.2.2.2.2⟩) (fun b o _ _ hc e _=>k b o hc e) (fun b o _ _ hc e _=>⟨o.slots,k b o hc e⟩)
  (fun b o _ e n=>?_) (fun b o hc e=>⟨o,k b o hc e⟩) (fun b xs e=>?_) (fun b o u e=>?_) (fun b ps e=>⟨#[],?_⟩) (fun m hm=>?_) (fun b u e=>?_) I.bare
 ·rw [upd_ne (Nat.ne_of_lt (Nat.lt_of_lt_of_le (Heap.lt_size e) hT))];exact n
 ·rw [upd_ne (ne_of_none e hn)];exact e
 ·rw [upd_ne (ne_of_none e hn)];exact e
 ·rw [upd_ne (ne_of_none e hn),e];simp
 ·obtain ⟨o,es,ep,ho,r⟩:=hm
  exact ⟨o,es,ep,k _ o (fun z=>(hf _ z).2.1 rfl) ho,r⟩
 by_cases hb:b=T
 ·subst hb
  rw [upd_same] at e
  cases e
  exact new
 rw [upd_ne hb] at e
 refine (I.hok b u e).stay (fun c v hc q=>k c v ?_ q) (fun c q=>by rw [upd_ne (ne_of_none q hn)];exact q) fun c xs q=>by rw [upd_ne (ne_of_none q hn)];exact q
 rcases hc with z | z
 ·rw [z];exact nit b u e
 exact nit c _ z)) only [↓zh1]
end
section
variable {X:Cx}
end
section
variable {X:Cx} {tg:Expr}
end
section
variable {X:Cx} {tg:Expr}
end
section
variable {prog:Program} {w:World} {A:Around} {E:Value→Shared→Prop} {s:Shared}
end
section
variable {X:Cx} {pins:List (Addr × Obj)} {σ:St} {H:Hp} {s:Shared} {d:Addr} {o:Obj}
end
section
variable {P:Program} {w:World} {K:PySem.W.Frag} {tg:Expr} {d:Addr} {o:Obj} {es:Array DictEntry} {ep:Nat}
end
section
variable {X:Cx} {tg e:Expr} {td:TE} {apos cpos:Pos}
end
theorem boot_zip5:bootBuiltins "zip"=some (.type "zip"):=by decide +kernel
end L2
section
namespace Bits
open PySem PyProof.Rows
end Bits
end
section
namespace TL
open PySem PySem.Builtin PySem.Builtin.Str PySem.StrLaws
end TL
end
namespace L2
open PySem PySem.Spec PyProof.Rows
section
variable {X:Cx} {pins:List (Addr × Obj)} {σ:St} {H:Hp} {s:Shared} {Q:VK}
end
section
variable {X:Cx}
end
section
variable {X:Cx} {o e:Expr} {to te:TE}
end
end L2
namespace L2
open PySem PySem.Spec PyProof.Rows
section
variable {X:Cx}
end
end L2
namespace Att
open PySem PySem.W PySem.Calls PyProof.Rows
section
variable {prog:Program} {w:World} {A:Around} {E:Value→Shared→Prop} {s:Shared} {K:Frag}
end
end Att
namespace L2
open PySem PySem.Spec PyProof.Rows
theorem vals_ints:∀ {vs:List Value} {ns:List Int},IntsAre vs ns→Vals (ns.map V.int) vs
 | _,_,.nil=>.nil
 | _,_,.cons n t h=>.cons ⟨t,rfl⟩ (vals_ints h)
def Only (H:Hp):Prop:=∀ b,H b=none∨∃ o xs,H b=some (.frz o (.lst xs))
theorem law_call {P:Program} {w:World} {K:PySem.W.Frag} {mg mb:Str→Option Value} {CX:CXT} {k:Nat} {fa a:Addr} {fd:FuncData} {x:Str} {sp:Sp} {s₁:Shared} {vs:List Value} {ns:List Int}
  (KX:K.In s₁.heap) (hns:s₁.heap.Ns mainGlobals mg) (hb:s₁.heap.Ns builtinsNs mb) (hbb:∀ x:Str,x≠"__name__"→mb x=bootBuiltins x) (hlim:s₁.heap.NoLimit) (hg:s₁.gens=#[])
  (ha:s₁.heap.get? a=some { cls:=.type "list",data:=.seq vs.toArray }) (hi:IntsAre vs ns) (hl:ns.length≤sizeLine) (hr:Room k callerA)
  (F:∀ base:Heap,K.In base→base.Ns mainGlobals mg→FnOk P w K mg base CX k fa fd [x] sp) (hbind:∀ (s:Shared) (u:Value),BindsTo s fd ⟨[u],[]⟩ [(x,u)])
  (hsp:∀ H:Hp,Only H→SqL K H a (ns.map V.int)→sp [.ref a] H (fun v _=>v=.bl true) fun _ _ _=>False)
  (hCX:∀ H e s',CX [] H s₁ (fun _ _ _=>False) e s'→False) :
  codeAny (model P w) callerA (.call (.ref fa) ⟨[.ref a],[]⟩) (fun r s'=>r=.ok (.ret (.bool true))∧OldK s₁.heap s'.heap∧s'.os=s₁.os∧AllBare s'.gens) s₁:=by
 have rv:=vals_ints hi
 have lenV:=hi.length
 -- from an abstract heap in which nothing but the script may be tracked
 have core:∀ H:Hp,Only H→SqL K H a (ns.map V.int)→HOk P w H s₁.heap→(∀ b,H b≠none→b=a)→(H a≠none→K.lookup a=none) →
   codeAny (model P w) callerA (.call (.ref fa) ⟨[.ref a],[]⟩) (fun r s'=>r=.ok (.ret (.bool true))∧OldK s₁.heap s'.heap∧s'.os=s₁.os∧AllBare s'.gens) s₁:=by
  intro H hO hS hok hA hK
  have base_of:∀ {b:Addr} {o:Obj},s₁.heap.get? b=some o→H b=none→(hidT s₁.heap H).get? b=some o:=fun e n=>hidT_get e n
  have noA:∀ {b:Addr} {o:Obj} {es:Array DictEntry} {ep:Nat},s₁.heap.get? b=some o→o.data=.dict es ep→H b=none:=fun {b o es ep} e d=>by
   cases q:H b with
   | none=>rfl
   | some u =>
    have e':b=a:=hA b (by rw [q];simp)
    subst e'
    rw [ha] at e;cases e
    have d':Data.seq vs.toArray _=Data.dict es ep:=d
    cases d'
  have nsK:∀ {b:Addr} {m:Str→Option Value},s₁.heap.Ns b m→(hidT s₁.heap H).Ns b m:=fun {b m} ⟨o,es,ep,e,d,r⟩=>⟨o,es,ep,base_of e (noA e d),d,r⟩
  have hKb:K.In (hidT s₁.heap H):=fun b o e=>base_of (KX b o e) (by
   cases q:H b with
   | none=>rfl
   | some u =>
    have e':b=a:=hA b (by rw [q];simp)
    subst e'
    rw [hK (by rw [q];simp)] at e;cases e)
  have hM:Mod K mg (hidT s₁.heap H):=⟨hKb,nsK hns,⟨mb,nsK hb,hbb⟩,let ⟨mc,h1,h2⟩:=hlim;⟨mc,nsK h1,h2⟩⟩
  have e0:Env0 P w K mg (hidT s₁.heap H) callerA [] s₁ H:=⟨rfl,hM,fun b o e=>of_hidT e,Nat.le_of_eq (hidT_size _ _),trivial,fun b hb=>absurd (show b∈([]:List Addr) from hb) (by simp),hok,.of_eq hg⟩
  refine codeAny_mono ((F _ hKb (nsK hns)).run callerA [] s₁ H ⟨[.ref a],[]⟩ [.ref a] [.ref a] _ _ hr e0 (hbind s₁ (.ref a)) (.cons rfl .nil) (hsp H hO hS)) fun r s' h=>?_
  cases r with
  | error e=>exact (hCX H e s' h).elim
  | ok fl =>
   cases fl with
   | next=>exact False.elim h
   | brk=>exact False.elim h
   | cont=>exact False.elim h
   | ret u =>
    obtain ⟨v,H',os,bare,un,hok',r',q⟩:=h
    have q':v=.bl true:=q
    subst q'
    obtain rfl:u=Value.bool true:=r'
    refine ⟨rfl,OldK.of_keep fun b o e=>?_,os,bare⟩
    cases q:H b with
    | none=>exact un.keep b o e q (by intro z;exact absurd (show b∈([]:List Addr) from z) (by simp)) (by simp)
    | some u =>
     rcases hO b with z | ⟨ob,xs,z⟩
     ·rw [q] at z;cases z
     have z2:=un.frzs b ob _ z
     obtain ⟨e1,_⟩:=hok b _ z
     obtain ⟨e2,_⟩:=hok' b _ z2
     rw [e] at e1;cases e1
     exact e2
 cases hk:K.lookup a with
 | some o =>
  -- the script is one of the module's own objects
  have e:=KX a o hk
  rw [ha] at e
  cases e
  refine core (fun _=>none) (fun _=>.inl rfl) (.inr ⟨_,vs.toArray,_,hk,rfl,rfl,rfl,by rw [List.size_toArray,lenV];exact hl,by simpa using rv⟩) (fun b u z=>by have z':(none:Option HO)=some u:=z;cases z') (fun b z=>absurd rfl z) fun z=>absurd rfl z
 | none =>
  refine core (fun b=>if b=a then some (.frz { cls:=.type "list",data:=.seq vs.toArray } (.lst (ns.map V.int))) else none) (fun b=>?_) (.inl (.inr ⟨{ cls:=.type "list",data:=.seq vs.toArray },if_pos rfl⟩)) (fun b u z=>?_) (fun b z=>?_) fun _=>hk
  ·by_cases hb:b=a
   ·exact .inr ⟨_,_,if_pos hb⟩
   exact .inl (if_neg hb)
  ·by_cases hb:b=a
   ·have z':=(if_pos hb).symm.trans z
    cases z'
    subst hb
    exact ⟨ha,by rw [List.length_map];exact hl,vs,_,rv,ha⟩
   have z':=(if_neg hb).symm.trans z
   cases z'
  by_cases hb:b=a
  ·exact hb
  exact absurd (if_neg hb) z
end L2
namespace L2
open PySem PySem.Spec PyProof.Rows
end L2
namespace L2
open PySem PySem.Spec PyProof.Rows
def inClass (s:Stmt) (j:Nat):Stmt:=match s with
 | .ClassDef _ _ _ body _ _ _ _ _ _ _=>body.getD j (.Pass ⟨0,0,0,0⟩)
 | _=>.Pass ⟨0,0,0,0⟩
def defArgs (s:Stmt):Arguments:=match s with
 | .FunctionDef _ a _ _ _ _ _ _ _ _=>a
 | _=>{ posonlyargs:=[],args:=[],vararg:=none,kwonlyargs:=[],kw_defaults:=[],kwarg:=none,defaults:=[] }
def defBody (s:Stmt):List Stmt:=match s with
 | .FunctionDef _ _ b _ _ _ _ _ _ _=>b
 | _=>[]
def defScope (s:Stmt):Scope:=match s with
 | .FunctionDef _ _ _ _ _ _ sc _ _ _=>sc
 | _=>{ kind:=.function,names:=[],isGenerator:=false,isCoroutine:=false }
abbrev CX0:CXT:=fun _ _ _ _ _ _=>False
abbrev E0:XK:=fun _ _ _=>False
theorem pass0 {X:Cx}:Passes CX0 X E0:=fun _ _ _ _ _ _ _ h=>h.elim
structure Fun (K:PySem.W.Frag) (x qual:Str) (st:Stmt) (f:Addr) (fd:FuncData):Prop where
 ex:∃ (oc:Value) (od:Option Addr) (kV doc pm:Value) (an:Option Addr) (cdv ct:Value) (osl:Array (Option Value)),
  fd=PySem.W.fnOf x qual (defArgs st) (defBody st) (defScope st) .none kV doc pm an cdv ct∧K.lookup f=some ⟨oc,od,.func fd,osl⟩∧PySem.W.codeIn K cdv qual=true
 kp:PySem.W.keepIn K (.ref f)=true
section
variable {P:Program} {w:World} {K:PySem.W.Frag} {mg:Str→Option Value} {base:Heap}
theorem Fun.ok {x qual:Str} {st:Stmt} {f:Addr} {fd:FuncData} {N ps:List Str} {k:Nat} {sp:Sp} (F:Fun K x qual st f fd) (S:FnScope N ps (defScope st)) (len:∀ vs H Q E,sp vs H Q E→vs.length=ps.length)
  (hbody:∀ (cdv:Value) (A:Around) (outer:List Env) (s:Shared) (H:Hp) (vs:List V) (Q:VK) (E:XK),Room k (A.deeper (envOfC qual (defScope st) s.heap.objs.size f cdv))→sp vs H Q E →
   ∃ t,PSs (cxOf CX0 P w K mg base N qual (defScope st) f cdv A outer s H E).nox (defBody st) t∧t { nx:=fun _ H'=>Q .non H',rt:=Q } (start N vs) H):FnOk P w K mg base CX0 (k + 1) f fd ps sp:=by
 obtain ⟨oc,od,kV,doc,pm,an,cdv,ct,osl,rfl,lk,hcd⟩:=F.ex
 refine fn_of lk hcd S len fun A outer s H vs Q E hr hsp=>?_
 obtain ⟨t,h,q⟩:=hbody cdv A outer s H vs Q E hr hsp
 exact ⟨t,h.nox,q⟩
theorem Fun.binds {x qual:Str} {st:Stmt} {f:Addr} {fd:FuncData} {ps:List Str} (F:Fun K x qual st f fd)
  (h:∀ (kV doc pm:Value) (an:Option Addr) (cdv ct:Value) (us:List Value),us.length=ps.length→bindArgs (PySem.W.fnOf x qual (defArgs st) (defBody st) (defScope st) .none kV doc pm an cdv ct) ⟨us,[]⟩=pure (ps.zip us)):Binds K fd ps []:=by
 obtain ⟨oc,od,kV,doc,pm,an,cdv,ct,osl,rfl,lk,hcd⟩:=F.ex
 exact .all (h kV doc pm an cdv ct)
theorem fun_mk {x qual:Str} {st:Stmt} {f:Addr} {oc:Value} {od an:Option Addr} {osl:Array (Option Value)} {kV doc pm cdv ct:Value} (l:K.lookup f=some ⟨oc,od,.func (PySem.W.fnOf x qual (defArgs st) (defBody st) (defScope st) .none kV doc pm an cdv ct),osl⟩)
  (c:PySem.W.codeIn K cdv qual=true) (k:PySem.W.keepIn K (.ref f)=true):Fun K x qual st f (PySem.W.fnOf x qual (defArgs st) (defBody st) (defScope st) .none kV doc pm an cdv ct):=⟨⟨oc,od,kV,doc,pm,an,cdv,ct,osl,rfl,l,c⟩,k⟩
end
section
variable {X:Cx}
theorem pv (i:Nat) {x:Str} {pos:Pos} (hN:X.N[i]?=some x:=by rfl) (hv:Vis X.env.scope x:=by first | exact Or.inl rfl | exact Or.inr (Or.inl rfl) | exact Or.inr (Or.inr rfl)) (hd:(x == ("__debug__":Str))=false:=by decide)
  (hcd:(x == ("__classdict__":Str))=false:=by decide):PE X (.Name x pos) (tVar i):=pe_var hN hv hd hcd
end
theorem iteF {A B:Prop} (h:B):if false=true then A else B:=by
 rw [if_neg Bool.false_ne_true]
 exact h
theorem iteT {A B:Prop} (h:A):if true=true then A else B:=by
 rw [if_pos rfl]
 exact h
def Same (H H':Hp):Prop:=∀ b o,H b=some o→H' b=some o
theorem Same.trans {H H1 H2:Hp} (a:Same H H1) (b:Same H1 H2):Same H H2:=fun c o h=>b c o (a c o h)
section
variable {κ:Type} [DecidableEq κ]
end
theorem nd_ix {α:Type} {l:List α} (hN:l.Nodup) {i j:Nat} {x:α} (a:l[i]?=some x) (b:l[j]?=some x):i=j:=by
 obtain ⟨h1,e1⟩:=List.getElem?_eq_some_iff.mp a
 obtain ⟨h2,e2⟩:=List.getElem?_eq_some_iff.mp b
 exact (List.getElem_inj hN).mp (e1.trans e2.symm)
end L2
set_option Elab.async false
set_option linter.all false
section
set_option Elab.async false
set_option linter.all false
set_option maxRecDepth 100000
set_option maxHeartbeats 2000000
namespace L2
open PySem PySem.Spec PyProof.Rows
open PySem.W (WData Codec OpenSpec Well WellAll ReadsW ReadsAllW)
mutual
inductive Dw (K:PySem.W.Frag) (H:Hp):V→WData→Prop
 | non:Dw K H .non .none
 | bl (b:Bool):Dw K H (.bl b) (.bool b)
 | int (i:Int):Dw K H (.int i) (.int i)
 | str (x:Str):Dw K H (.str x) (.str x)
 | byt (b:Array UInt8):Dw K H (.byt b) (.bytes b.toList)
 | lst {a:Addr} {xs:List V} {ds:List WData}:SqL K H a xs→DwAll K H xs ds→Dw K H (.ref a) (.list ds)
 | tup {a:Addr} {xs:List V} {ds:List WData}:SqT K H a xs→DwAll K H xs ds→Dw K H (.ref a) (.tuple ds)
inductive DwAll (K:PySem.W.Frag) (H:Hp):List V→List WData→Prop
 | nil:DwAll K H [] []
 | cons {v:V} {vs:List V} {d:WData} {ds:List WData}:Dw K H v d→DwAll K H vs ds→DwAll K H (v :: vs) (d :: ds)
end
theorem dw_ints {K:PySem.W.Frag} {H:Hp}:∀ ns:List Int,DwAll K H (ns.map V.int) (ns.map WData.int)
 | []=>.nil
 | n :: r=>.cons (.int n) (dw_ints r)
theorem ints_dw {K:PySem.W.Frag} {H:Hp}:∀ (ns:List Int) (xs:List V),DwAll K H xs (ns.map WData.int)→xs=ns.map V.int
 | [],xs,h=>by
  cases h
  rfl
 | n :: r,xs,h=>by
  cases h with
  | cons h1 h2 =>
   cases h1
   rw [ints_dw r _ h2] <;> rfl
section
variable {P:Program} {w:World} {K:PySem.W.Frag} {H:Hp} {h:Heap} {R:PySem.W.WRecords} {cl:Str→Option Addr}
theorem sqL_at {a:Addr} {xs:List V} (hok:HOk P w H h) (KX:K.In h) (q:SqL K H a xs):∃ (its:List Value) (o:Obj) (n:Nat),Vals xs its∧h.get? a=some o∧o.cls=.type "list"∧o.data=.seq its.toArray n:=by
 rcases q with q | ⟨o,its,n,e,hc,_,hd,_,hv⟩
 ·obtain ⟨_,its,n,hv,e⟩:=(show ObjOk P w H h a (.lst xs) from q.ok hok)
  exact ⟨its,_,n,hv,e,rfl,rfl⟩
 exact ⟨its.toList,o,n,hv,KX _ _ e,hc,by simp [hd]⟩
theorem sqT_at {a:Addr} {xs:List V} (hok:HOk P w H h) (KX:K.In h) (q:SqT K H a xs):∃ (its:List Value) (o:Obj) (n:Nat),Vals xs its∧h.get? a=some o∧o.cls=.type "tuple"∧o.data=.seq its.toArray n:=by
 rcases q with q | ⟨o,its,n,e,hc,hd,_,hv⟩
 ·obtain ⟨_,its,hv,o,e,hc,n,hd⟩:=(show ObjOk P w H h a (.tup xs) from q.ok hok)
  exact ⟨its,o,n,hv,e,hc,hd⟩
 exact ⟨its.toList,o,n,hv,KX _ _ e,hc,by simp [hd]⟩
mutual
theorem Dw.reads (hok:HOk P w H h) (KX:K.In h):∀ (d:WData) (v:V) (u:Value),Dw K H v d→RelV v u→∃ as,ReadsW R cl h u d as
 | .none,_,_,x,r=>by
  cases x
  cases r
  exact ⟨_,ReadsW.none⟩
 | .bool b,_,_,x,r=>by
  cases x
  cases r
  exact ⟨_,ReadsW.bool b⟩
 | .int i,_,_,x,r=>by
  cases x
  obtain ⟨t,rfl⟩:=r
  exact ⟨_,ReadsW.int i t⟩
 | .str s,_,_,x,r=>by
  cases x
  obtain ⟨t,rfl⟩:=r
  exact ⟨_,ReadsW.str s t⟩
 | .bytes b,_,_,x,r=>by
  cases x
  obtain ⟨t,rfl⟩:=r
  exact ⟨_,ReadsW.bytes _ t⟩
 | .list ds,_,_,x,r=>by
  cases x with
  | lst hs ha =>
   cases r
   obtain ⟨its,o,n,rv,ho,hc,hd⟩:=sqL_at hok KX hs
   obtain ⟨as,hr⟩:=Dw.readsAll hok KX ds _ its ha rv
   exact ⟨_,ReadsW.list ho hc hd hr⟩
 | .tuple ds,_,_,x,r=>by
  cases x with
  | tup hs ha =>
   cases r
   obtain ⟨its,o,n,rv,ho,hc,hd⟩:=sqT_at hok KX hs
   obtain ⟨as,hr⟩:=Dw.readsAll hok KX ds _ its ha rv
   exact ⟨_,ReadsW.tuple ho hc hd hr⟩
 | .float _,_,_,x,_=>by cases x
 | .dict _,_,_,x,_=>by cases x
 | .bytearray _,_,_,x,_=>by cases x
 | .set _,_,_,x,_=>by cases x
 | .frozenset _,_,_,x,_=>by cases x
 | .obj _ _,_,_,x,_=>by cases x
theorem Dw.readsAll (hok:HOk P w H h) (KX:K.In h):∀ (ds:List WData) (vs:List V) (us:List Value),DwAll K H vs ds→Vals vs us→∃ as,ReadsAllW R cl h us ds as
 | [],_,_,x,r=>by
  cases x
  cases r
  exact ⟨_,ReadsAllW.nil⟩
 | d :: ds,_,_,x,r=>by
  cases x with
  | cons h1 h2 =>
   cases r with
   | cons r1 r2 =>
    obtain ⟨as,q1⟩:=Dw.reads hok KX d _ _ h1 r1
    obtain ⟨bs,q2⟩:=Dw.readsAll hok KX ds _ _ h2 r2
    exact ⟨_,ReadsAllW.cons q1 q2⟩
end
end
mutual
def plW:WData→Bool
 | .none=>true
 | .bool _=>true
 | .int _=>true
 | .str _=>true
 | .bytes _=>true
 | .list xs=>plWs xs
 | .tuple xs=>plWs xs
 | _=>false
def plWs:List WData→Bool
 | []=>true
 | x :: r=>plW x && plWs r
end
theorem plWs_map {α:Type} {f:α→WData} (h:∀ a,plW (f a)=true):∀ l:List α,plWs (l.map f)=true
 | []=>rfl
 | x :: r=>by
  show (plW (f x) && plWs (r.map f))=true
  rw [h x,plWs_map h r] <;> rfl
theorem pl_enc:∀ (c:Codec) (a:c.denote),plW (c.enc a)=true
 | .unit,_=>rfl
 | .bool,_=>rfl
 | .int _ _,_=>rfl
 | .nat _ _,_=>rfl
 | .u8,_=>rfl
 | .bytes _ _,_=>rfl
 | .text _ _ _ _,_=>rfl
 | .list _ _ c,a=>plWs_map (fun x=>pl_enc c x) a
 | .pair c d,a=>by
  show (plW (c.enc a.1) && (plW (d.enc a.2) && true))=true
  rw [pl_enc c a.1,pl_enc d a.2] <;> rfl
 | .triple c d e,a=>by
  show (plW (c.enc a.1) && (plW (d.enc a.2.1) && (plW (e.enc a.2.2) && true)))=true
  rw [pl_enc c a.1,pl_enc d a.2.1,pl_enc e a.2.2] <;> rfl
 | .option c,none=>rfl
 | .option c,some x=>pl_enc c x
theorem pl_encAll:∀ (cs:List Codec) (a:Codec.denoteAll cs),plWs (Codec.encAll cs a)=true
 | [],_=>rfl
 | c :: cs,a=>by
  show (plW (c.enc a.1) && plWs (Codec.encAll cs a.2))=true
  rw [pl_enc c a.1,pl_encAll cs a.2] <;> rfl
theorem weight_mem:∀ {xs:List WData} {d:WData},d∈xs→d.weight≤WData.weightAll xs
 | [],d,h=>absurd h (by simp)
 | x :: r,d,h=>by
  show d.weight≤x.weight + 1 + WData.weightAll r
  rcases List.mem_cons.mp h with e | m
  ·rw [e]
   omega
  have z:=weight_mem m
  omega
def toV:Value→V
 | .none=>.non
 | .bool b=>.bl b
 | .int i _=>.int i
 | .str x _=>.str x
 | .bytes b _=>.byt b
 | .ref a=>.ref a
 | _=>.non
def OkU (A:List Addr):Value→Prop
 | .none=>True
 | .bool _=>True
 | .int _ _=>True
 | .str _ _=>True
 | .bytes _ _=>True
 | .ref a=>a∈A
 | _=>False
theorem OkU.mono {A B:List Addr} (h:∀ a∈A,a∈B):∀ {u:Value},OkU A u→OkU B u:=fun {u} x=>by
 cases u with
 | ref a=>exact h a x
 | none=>trivial
 | bool b=>trivial
 | int i t=>trivial
 | str s t=>trivial
 | bytes b t=>trivial
 | _=>exact False.elim x
theorem relV_toV {A:List Addr} {u:Value} (x:OkU A u):RelV (toV u) u:=by
 cases u with
 | ref a=>rfl
 | none=>rfl
 | bool b=>rfl
 | int i t=>exact ⟨t,rfl⟩
 | str s t=>exact ⟨t,rfl⟩
 | bytes b t=>exact ⟨t,rfl⟩
 | _=>exact False.elim x
theorem vals_toV {A:List Addr}:∀ {vs:List Value},(∀ u∈vs,OkU A u)→Vals (vs.map toV) vs
 | [],_=>.nil
 | u :: r,h=>.cons (relV_toV (h u (List.mem_cons_self ..))) (vals_toV fun x hx=>h x (List.mem_cons_of_mem _ hx))
def ArgOb (h:Heap) (A:List Addr) (a:Addr):Prop:=∃ vs:List Value,vs.length≤sizeLine∧(∀ u∈vs,OkU A u) ∧
 (h.get? a=some { cls:=.type "list",data:=.seq vs.toArray }∨h.get? a=some { cls:=.type "tuple",data:=.seq vs.toArray })
theorem ArgOb.mono {h:Heap} {A B:List Addr} {a:Addr} (k:∀ a∈A,a∈B) (x:ArgOb h A a):ArgOb h B a:=by
 obtain ⟨vs,h1,h2,h3⟩:=x
 exact ⟨vs,h1,fun u hu=>(h2 u hu).mono k,h3⟩
theorem wellAll_len {P:Params} {h:Heap}:∀ {vs:List Value} {ds:List WData},WellAll P h vs ds→vs.length=ds.length
 | _,_,.nil=>rfl
 | _,_,.cons _ b=>by
  show _ + 1=_ + 1
  rw [wellAll_len b]
theorem well_list {P:Params} {h:Heap} {v:Value} {ds:List WData} (x:Well P h v (.list ds)):∃ (a:Addr) (vs:List Value),v=.ref a∧h.get? a=some { cls:=.type "list",data:=.seq vs.toArray }∧WellAll P h vs ds:=by
 cases x with
 | list ho hall=>exact ⟨_,_,rfl,ho,hall⟩
theorem well_tuple {P:Params} {h:Heap} {v:Value} {ds:List WData} (x:Well P h v (.tuple ds)):∃ (a:Addr) (vs:List Value),v=.ref a∧h.get? a=some { cls:=.type "tuple",data:=.seq vs.toArray }∧WellAll P h vs ds:=by
 cases x with
 | tuple ho hall=>exact ⟨_,_,rfl,ho,hall⟩
theorem well_cons {P:Params} {h:Heap} {us:List Value} {d:WData} {ds:List WData} (x:WellAll P h us (d :: ds)):∃ (v:Value) (vs:List Value),us=v :: vs∧Well P h v d∧WellAll P h vs ds:=by
 cases x with
 | cons a b=>exact ⟨_,_,rfl,a,b⟩
theorem line_of {n:Nat} (h:n≤1048576):n≤sizeLine:=Nat.le_trans h (by decide)
section
variable {P:Params} {h:Heap}
mutual
theorem area_one:∀ (d:WData) (v:Value),Well P h v d→plW d=true→d.weight≤1048576→∃ A:List Addr,OkU A v∧∀ a∈A,ArgOb h A a
 | .none,_,x,_,_=>by
  cases x
  exact ⟨[],trivial,fun a m=>absurd m (by simp)⟩
 | .bool b,_,x,_,_=>by
  cases x
  exact ⟨[],trivial,fun a m=>absurd m (by simp)⟩
 | .int i,_,x,_,_=>by
  cases x
  exact ⟨[],trivial,fun a m=>absurd m (by simp)⟩
 | .str s,_,x,_,_=>by
  cases x
  exact ⟨[],trivial,fun a m=>absurd m (by simp)⟩
 | .bytes b,_,x,_,_=>by
  cases x
  exact ⟨[],trivial,fun a m=>absurd m (by simp)⟩
 | .list ds,_,x,p,z=>by
  obtain ⟨a,vs,rfl,ho,hall⟩:=well_list x
  have z2:WData.weightAll ds≤1048576:=z
  obtain ⟨A,h1,h2⟩:=area_all ds _ hall p fun d hd=>Nat.le_trans (weight_mem hd) z2
  have k:∀ b∈A,b∈a :: A:=fun b hb=>List.mem_cons_of_mem _ hb
  refine ⟨a :: A,List.mem_cons_self ..,fun b hb=>?_⟩
  rcases List.mem_cons.mp hb with e | m
  ·rw [e]
   exact ⟨vs,line_of (by rw [wellAll_len hall];exact Nat.le_trans (PySem.W.length_le_weightAllW ds) z2),fun u hu=>(h1 u hu).mono k,.inl ho⟩
  exact (h2 b m).mono k
 | .tuple ds,_,x,p,z=>by
  obtain ⟨a,vs,rfl,ho,hall⟩:=well_tuple x
  have z2:WData.weightAll ds≤1048576:=z
  obtain ⟨A,h1,h2⟩:=area_all ds _ hall p fun d hd=>Nat.le_trans (weight_mem hd) z2
  have k:∀ b∈A,b∈a :: A:=fun b hb=>List.mem_cons_of_mem _ hb
  refine ⟨a :: A,List.mem_cons_self ..,fun b hb=>?_⟩
  rcases List.mem_cons.mp hb with e | m
  ·rw [e]
   exact ⟨vs,line_of (by rw [wellAll_len hall];exact Nat.le_trans (PySem.W.length_le_weightAllW ds) z2),fun u hu=>(h1 u hu).mono k,.inr ho⟩
  exact (h2 b m).mono k
 | .float _,_,_,p,_=>Bool.noConfusion (show false=true from p)
 | .dict _,_,_,p,_=>Bool.noConfusion (show false=true from p)
 | .bytearray _,_,_,p,_=>Bool.noConfusion (show false=true from p)
 | .set _,_,_,p,_=>Bool.noConfusion (show false=true from p)
 | .frozenset _,_,_,p,_=>Bool.noConfusion (show false=true from p)
 | .obj _ _,_,_,p,_=>Bool.noConfusion (show false=true from p)
theorem area_all:∀ (ds:List WData) (vs:List Value),WellAll P h vs ds→plWs ds=true→(∀ d∈ds,d.weight≤1048576)→∃ A:List Addr,(∀ u∈vs,OkU A u)∧∀ a∈A,ArgOb h A a
 | [],_,x,_,_=>by
  cases x
  exact ⟨[],fun u m=>absurd m (by simp),fun a m=>absurd m (by simp)⟩
 | d :: ds,_,x,p,z=>by
  obtain ⟨v,vs,rfl,x1,x2⟩:=well_cons x
  have q:plW d=true∧plWs ds=true:=Bool.and_eq_true_iff.mp p
  obtain ⟨A,a1,a2⟩:=area_one d v x1 q.1 (z d (List.mem_cons_self ..))
  obtain ⟨B,b1,b2⟩:=area_all ds vs x2 q.2 fun e he=>z e (List.mem_cons_of_mem _ he)
  have kA:∀ b∈A,b∈A++B:=fun b hb=>List.mem_append.mpr (.inl hb)
  have kB:∀ b∈B,b∈A++B:=fun b hb=>List.mem_append.mpr (.inr hb)
  refine ⟨A++B,fun u hu=>?_,fun b hb=>?_⟩
  ·rcases List.mem_cons.mp hu with e | m
   ·rw [e]
    exact a1.mono kA
   exact (b1 u m).mono kB
  rcases List.mem_append.mp hb with m | m
  ·exact (a2 b m).mono kA
  exact (b2 b m).mono kB
end
end
def hoOf (o:Obj):Option HO:=match o.data with
 | .seq vs _=>if (o.cls == Value.type "list")=true then some (.frz o (.lst (vs.toList.map toV))) else some (.frz o (.tup (vs.toList.map toV)))
 | _=>none
def argH (K:PySem.W.Frag) (h:Heap) (A:List Addr):Hp:=fun b=>if b∈A then (if (K.lookup b).isNone=true then (h.get? b).bind hoOf else none) else none
def OnlyF (H:Hp):Prop:=∀ b,H b=none∨∃ o u,H b=some (.frz o u)
theorem hoOf_lst (vs:List Value):hoOf { cls:=.type "list",data:=.seq vs.toArray }=some (.frz { cls:=.type "list",data:=.seq vs.toArray } (.lst (vs.map toV))):=by
 refine zh0 ?_;simp (disch:=k_dflt (
 refine zh2 ?_
 show (if (Value.type "list" == Value.type "list")=true then some (HO.frz { cls:=.type "list",data:=.seq vs.toArray } (.lst (vs.toArray.toList.map toV))) else some (HO.frz { cls:=.type "list",data:=.seq vs.toArray } (.tup (vs.toArray.toList.map toV))))=_
 rw [if_pos (beq_self_eq_true _)])) only [↓zh1]
theorem hoOf_tup (vs:List Value):hoOf { cls:=.type "tuple",data:=.seq vs.toArray }=some (.frz { cls:=.type "tuple",data:=.seq vs.toArray } (.tup (vs.map toV))):=by
 refine zh0 ?_;simp (disch:=k_dflt (
 refine zh2 ?_
 show (if (Value.type "tuple" == Value.type "list")=true then some (HO.frz { cls:=.type "tuple",data:=.seq vs.toArray } (.lst (vs.toArray.toList.map toV))) else some (HO.frz { cls:=.type "tuple",data:=.seq vs.toArray } (.tup (vs.toArray.toList.map toV))))=_
 rw [if_neg (by decide)])) only [↓zh1]
section
variable {P:Program} {w:World} {K:PySem.W.Frag} {h:Heap} {A:List Addr}
theorem argH_at {b:Addr} {o:Obj} (hb:b∈A) (hk:K.lookup b=none) (e:h.get? b=some o):argH K h A b=hoOf o:=by
 unfold argH
 rw [if_pos hb,hk,if_pos (show (none:Option Obj).isNone=true from rfl),e] <;> rfl
theorem of_argH {b:Addr} {u:HO} (q:argH K h A b=some u):b∈A∧K.lookup b=none:=by
 unfold argH at q
 by_cases hb:b∈A
 ·rw [if_pos hb] at q
  cases hk:K.lookup b with
  | none=>exact ⟨hb,rfl⟩
  | some o =>
   rw [hk,if_neg (by simp)] at q
   cases q
 rw [if_neg hb] at q
 cases q
theorem argH_is (ar : ∀ a ∈ A, ArgOb h A a) {b : Addr} {u : HO} (q : argH K h A b = some u) : K.lookup b = none ∧ ∃ vs : List Value, vs.length ≤ sizeLine ∧ (∀ u ∈ vs, OkU A u) ∧
    ((h.get? b = some { cls := .type "list", data := .seq vs.toArray } ∧ u = .frz { cls := .type "list", data := .seq vs.toArray } (.lst (vs.map toV))) ∨
     (h.get? b = some { cls := .type "tuple", data := .seq vs.toArray } ∧ u = .frz { cls := .type "tuple", data := .seq vs.toArray } (.tup (vs.map toV)))) := by
  refine zh0 ?_; simp (disch := k_dflt (
  refine zh2 ?_
  obtain ⟨hb, hk⟩ := of_argH q
  obtain ⟨vs, h1, h2, h3⟩ := ar b hb
  refine ⟨hk, vs, h1, h2, ?_⟩
  rcases h3 with e | e
  · rw [argH_at hb hk e, hoOf_lst] at q
    exact .inl ⟨e, (Option.some.inj q).symm⟩
  rw [argH_at hb hk e, hoOf_tup] at q
  exact .inr ⟨e, (Option.some.inj q).symm⟩)) only [↓zh1]
theorem argH_only (ar:∀ a∈A,ArgOb h A a):OnlyF (argH K h A):=fun b=>by
 cases q:argH K h A b with
 | none=>exact .inl rfl
 | some u =>
  obtain ⟨_,vs,_,_,⟨_,e⟩ | ⟨_,e⟩⟩:=argH_is ar q
  ·exact .inr ⟨_,_,by rw [e]⟩
  exact .inr ⟨_,_,by rw [e]⟩
theorem argH_ok (ar:∀ a∈A,ArgOb h A a):HOk P w (argH K h A) h:=fun b u q=>by
 obtain ⟨_,vs,h1,h2,⟨e,rfl⟩ | ⟨e,rfl⟩⟩:=argH_is ar q
 ·exact ⟨e,by rw [List.length_map];exact h1,vs,_,vals_toV h2,e⟩
 exact ⟨e,by rw [List.length_map];exact h1,vs,vals_toV h2,_,e,rfl,_,rfl⟩
theorem seq_inj {c c':Value} {vs us:List Value} (e:(some { cls:=c,data:=.seq vs.toArray }:Option Obj)=some { cls:=c',data:=.seq us.toArray }):c=c'∧vs=us:=by
 have e1:=Option.some.inj e
 have e2:c=c':=congrArg Obj.cls e1
 have e3:Data.seq vs.toArray=Data.seq us.toArray:=congrArg Obj.data e1
 injection e3 with e4
 refine ⟨e2,?_⟩
 have e5:=congrArg Array.toList e4
 simpa using e5
theorem argL (KX:K.In h) (ar:∀ a∈A,ArgOb h A a) {a:Addr} {vs:List Value} (ha:a∈A) (e:h.get? a=some { cls:=.type "list",data:=.seq vs.toArray }):(∀ u∈vs,OkU A u)∧SqL K (argH K h A) a (vs.map toV):=by
 refine zh0 ?_;simp (disch:=k_dflt (
 refine zh2 ?_
 obtain ⟨us,h1,h2,h3⟩:=ar a ha
 have hu:us=vs:=by
  rcases h3 with q | q
  ·rw [e] at q
   exact (seq_inj q).2.symm
  rw [e] at q
  exact absurd (Value.type.inj (seq_inj q).1) (by decide)
 subst hu
 refine ⟨h2,?_⟩
 cases hk:K.lookup a with
 | none=>exact .inl (.inr ⟨_,by rw [argH_at ha hk e,hoOf_lst]⟩)
 | some o =>
  have e2:=KX a o hk
  rw [e] at e2
  obtain rfl:=Option.some.inj e2
  exact .inr ⟨_,us.toArray,_,hk,rfl,rfl,rfl,by rw [List.size_toArray];exact h1,by simpa using vals_toV h2⟩)) only [↓zh1]
theorem argT (KX:K.In h) (ar:∀ a∈A,ArgOb h A a) {a:Addr} {vs:List Value} (ha:a∈A) (e:h.get? a=some { cls:=.type "tuple",data:=.seq vs.toArray }):(∀ u∈vs,OkU A u)∧SqT K (argH K h A) a (vs.map toV):=by
 refine zh0 ?_;simp (disch:=k_dflt (
 refine zh2 ?_
 obtain ⟨us,h1,h2,h3⟩:=ar a ha
 have hu:us=vs:=by
  rcases h3 with q | q
  ·rw [e] at q
   exact absurd (Value.type.inj (seq_inj q).1) (by decide)
  rw [e] at q
  exact (seq_inj q).2.symm
 subst hu
 refine ⟨h2,?_⟩
 cases hk:K.lookup a with
 | none=>exact .inl (.inr ⟨_,by rw [argH_at ha hk e,hoOf_tup]⟩)
 | some o =>
  have e2:=KX a o hk
  rw [e] at e2
  obtain rfl:=Option.some.inj e2
  exact .inr ⟨_,us.toArray,_,hk,rfl,rfl,by rw [List.size_toArray];exact h1,by simpa using vals_toV h2⟩)) only [↓zh1]
mutual
theorem dw_one {Pm:Params} (KX:K.In h) (ar:∀ a∈A,ArgOb h A a):∀ (d:WData) (v:Value),Well Pm h v d→plW d=true→OkU A v→Dw K (argH K h A) (toV v) d
 | .none,_,x,_,_=>by
  cases x
  exact .non
 | .bool b,_,x,_,_=>by
  cases x
  exact .bl b
 | .int i,_,x,_,_=>by
  cases x
  exact .int i
 | .str s,_,x,_,_=>by
  cases x
  exact .str s
 | .bytes b,_,x,_,_=>by
  cases x
  have z:=Dw.byt (K:=K) (H:=argH K h A) b.toArray
  exact z
 | .list ds,_,x,p,hu=>by
  obtain ⟨a,vs,rfl,ho,hall⟩:=well_list x
  obtain ⟨h2,hs⟩:=argL KX ar hu ho
  exact .lst hs (dw_all KX ar ds _ hall p h2)
 | .tuple ds,_,x,p,hu=>by
  obtain ⟨a,vs,rfl,ho,hall⟩:=well_tuple x
  obtain ⟨h2,hs⟩:=argT KX ar hu ho
  exact .tup hs (dw_all KX ar ds _ hall p h2)
 | .float _,_,_,p,_=>Bool.noConfusion (show false=true from p)
 | .dict _,_,_,p,_=>Bool.noConfusion (show false=true from p)
 | .bytearray _,_,_,p,_=>Bool.noConfusion (show false=true from p)
 | .set _,_,_,p,_=>Bool.noConfusion (show false=true from p)
 | .frozenset _,_,_,p,_=>Bool.noConfusion (show false=true from p)
 | .obj _ _,_,_,p,_=>Bool.noConfusion (show false=true from p)
theorem dw_all {Pm:Params} (KX:K.In h) (ar:∀ a∈A,ArgOb h A a):∀ (ds:List WData) (vs:List Value),WellAll Pm h vs ds→plWs ds=true→(∀ u∈vs,OkU A u)→DwAll K (argH K h A) (vs.map toV) ds
 | [],_,x,_,_=>by
  cases x
  exact .nil
 | d :: ds,_,x,p,hu=>by
  obtain ⟨v,vs,rfl,x1,x2⟩:=well_cons x
  have q:plW d=true∧plWs ds=true:=Bool.and_eq_true_iff.mp p
  exact .cons (dw_one KX ar d v x1 q.1 (hu _ (List.mem_cons_self ..))) (dw_all KX ar ds vs x2 q.2 fun u m=>hu u (List.mem_cons_of_mem _ m))
end
end
theorem spec_call {P:Program} {w:World} {K:PySem.W.Frag} {mg mb:Str→Option Value} {CX:CXT} {k:Nat} {fa:Addr} {fd:FuncData} {ps:List Str} {sp:Sp} {s₁:Shared} {vals:List Value} {ds:List WData} {R:PySem.W.WRecords} {cl:Str→Option Addr} {d0:WData}
  (KX:K.In s₁.heap) (hns:s₁.heap.Ns mainGlobals mg) (hb:s₁.heap.Ns builtinsNs mb) (hbb:∀ x:Str,x≠"__name__"→mb x=bootBuiltins x) (hlim:s₁.heap.NoLimit) (hg:s₁.gens=#[])
  (hwl:WellAll w.params s₁.heap vals ds) (hpl:plWs ds=true) (hwt:∀ d∈ds,d.weight≤1048576) (hr:Room k callerA)
  (F:∀ base:Heap,K.In base→base.Ns mainGlobals mg→FnOk P w K mg base CX k fa fd ps sp) (hbind:∀ (s:Shared) (us:List Value),us.length=ps.length→BindsTo s fd ⟨us,[]⟩ (ps.zip us)) (hlen:ds.length=ps.length)
  (hsp:∀ (H:Hp) (xs:List V),OnlyF H→DwAll K H xs ds→sp xs H (fun v H'=>Dw K H' v d0) fun _ _ _=>False)
  (hCX:∀ H e s',CX [] H s₁ (fun _ _ _=>False) e s'→False) :
  codeAny (model P w) callerA (.call (.ref fa) ⟨vals,[]⟩) (fun r s'=>∃ u as,r=.ok (.ret u)∧ReadsW R cl s'.heap u d0 as∧OldK s₁.heap s'.heap∧s'.os=s₁.os∧AllBare s'.gens) s₁:=by
 refine zh0 ?_;simp (disch:=k_dflt (
 refine zh2 ?_
 obtain ⟨A,ho,ar⟩:=area_all ds vals hwl hpl hwt
 have hO:OnlyF (argH K s₁.heap A):=argH_only ar
 have hok:HOk P w (argH K s₁.heap A) s₁.heap:=argH_ok ar
 have hS:=dw_all KX ar ds vals hwl hpl ho
 have hV:=vals_toV ho
 have hK:∀ b u,argH K s₁.heap A b=some u→K.lookup b=none:=fun b u q=>(argH_is ar q).1
 have noA:∀ {b:Addr} {o:Obj} {es:Array DictEntry} {ep:Nat},s₁.heap.get? b=some o→o.data=.dict es ep→argH K s₁.heap A b=none:=fun {b o es ep} e d=>by
  cases q:argH K s₁.heap A b with
  | none=>rfl
  | some u =>
   obtain ⟨_,vs,_,_,⟨e2,_⟩ | ⟨e2,_⟩⟩:=argH_is ar q
   ·rw [e2] at e
    cases e
    have d':Data.seq vs.toArray _=Data.dict es ep:=d
    cases d'
   rw [e2] at e
   cases e
   have d':Data.seq vs.toArray _=Data.dict es ep:=d
   cases d'
 generalize argH K s₁.heap A=H at hO hok hS hK noA
 have base_of:∀ {b:Addr} {o:Obj},s₁.heap.get? b=some o→H b=none→(hidT s₁.heap H).get? b=some o:=fun e n=>hidT_get e n
 have nsK:∀ {b:Addr} {m:Str→Option Value},s₁.heap.Ns b m→(hidT s₁.heap H).Ns b m:=fun {b m} ⟨o,es,ep,e,d,r⟩=>⟨o,es,ep,base_of e (noA e d),d,r⟩
 have nK:∀ b o,K.lookup b=some o→H b=none:=fun b o e=>by
  cases q:H b with
  | none=>rfl
  | some u =>
   rw [hK b u q] at e
   cases e
 have hKb:K.In (hidT s₁.heap H):=fun b o e=>base_of (KX b o e) (nK b o e)
 have hM:Mod K mg (hidT s₁.heap H):=⟨hKb,nsK hns,⟨mb,nsK hb,hbb⟩,let ⟨mc,h1,h2⟩:=hlim;⟨mc,nsK h1,h2⟩⟩
 have e0:Env0 P w K mg (hidT s₁.heap H) callerA [] s₁ H:=⟨rfl,hM,fun b o e=>of_hidT e,Nat.le_of_eq (hidT_size _ _),trivial,fun b hb=>absurd (show b∈([]:List Addr) from hb) (by simp),hok,.of_eq hg⟩
 have hl:vals.length=ps.length:=by rw [wellAll_len hwl];exact hlen
 refine codeAny_mono ((F _ hKb (nsK hns)).run callerA [] s₁ H ⟨vals,[]⟩ vals (vals.map toV) _ _ hr e0 (hbind s₁ vals hl) hV (hsp H _ hO hS)) fun r s' x=>?_
 cases r with
 | error e=>exact (hCX H e s' x).elim
 | ok fl =>
  cases fl with
  | next=>exact False.elim x
  | brk=>exact False.elim x
  | cont=>exact False.elim x
  | ret u =>
   obtain ⟨v,H',os,bare,un,hok',r',q⟩:=x
   have kept:∀ b o,s₁.heap.get? b=some o→s'.heap.get? b=some o:=fun b o e=>by
    cases q2:H b with
    | none=>exact un.keep b o e q2 (by intro z;exact absurd (show b∈([]:List Addr) from z) (by simp)) (by simp)
    | some u2 =>
     rcases hO b with z | ⟨ob,u3,z⟩
     ·rw [q2] at z
      cases z
     have z2:=un.frzs b ob _ z
     obtain ⟨e1,_⟩:=hok b _ z
     obtain ⟨e2,_⟩:=hok' b _ z2
     rw [e] at e1
     cases e1
     exact e2
   have KX':K.In s'.heap:=fun b o e=>kept b o (KX b o e)
   obtain ⟨as,hrd⟩:=Dw.reads (R:=R) (cl:=cl) hok' KX' d0 v u q r'
   exact ⟨u,as,rfl,hrd,OldK.of_keep kept,os,bare⟩)) only [↓zh1]
theorem layable_weight {ds:List WData} (h:WData.layableAll ds=true):∀ d∈ds,d.weight≤1048576:=fun d hd =>
 (PySem.W.layableW_iff.mp (List.all_eq_true.mp h d hd)).2.2
theorem encAll_len:∀ (cs:List Codec) (a:Codec.denoteAll cs),(Codec.encAll cs a).length=cs.length
 | [],_=>rfl
 | c :: cs,a=>by
  show (Codec.encAll cs a.2).length + 1=cs.length + 1
  rw [encAll_len cs a.2]
theorem walk_spec {r:OpenSpec} {k:Nat} {q:Program} {loose:List Str} {XP:(Str→Option Value)→Heap→Prop} {YP:World→Heap→Prop} {d:DefRec} {K:Params→PySem.W.Frag} {CX:World→CXT} {ps:List Str} {sp:World→Sp}
  (hwell:r.wellSaid=true) (hdf:d.params.defaults=[]) (hlen:r.args.length=ps.length) (hr:Room k callerA)
  (hY:∀ (w:World) (h:Heap),YP w h→(K w.params).In h)
  (F:∀ (w:World) (mg:Str→Option Value) (fa:Addr) (h:Heap),YP w h→(K w.params).In h→h.Ns mainGlobals mg→mg d.name=some (.ref fa) →
   ∃ fd:FuncData,(∀ (s:Shared) (us:List Value),us.length=ps.length→BindsTo s fd ⟨us,[]⟩ (ps.zip us)) ∧
    ∀ base:Heap,(K w.params).In base→base.Ns mainGlobals mg→FnOk r.prog w (K w.params) mg base (CX w) k fa fd ps (sp w))
  (hsp:∀ (w:World) (H:Hp) (xs:List V) (a:Codec.denoteAll r.args),OnlyF H→Codec.withinAll r.args a=true→Codec.app r.args r.asked a=true→DwAll (K w.params) H xs (Codec.encAll r.args a) →
   sp w xs H (fun v H'=>Dw (K w.params) H' v (r.ret.enc (Codec.app r.args r.f a))) fun _ _ _=>False)
  (hCX:∀ (w:World) (H:Hp) (s:Shared) (e:Value) (s':Shared),CX w [] H s (fun _ _ _=>False) e s'→False) :
  PySem.W.WalkOS q loose XP YP r d [] (fun f vs=>PySem.call f vs):=by
 refine zh0 ?_;simp (disch:=k_dflt (
 refine zh2 ?_
 intro w s_0 s₁ mg mb G Y fa o pm cd doc dV kV ho hd hcd hD hmg hg args vals as hpre hlay hrd hwl hlo
 obtain ⟨a,e1,e2⟩:=PySem.W.os_pre_some hpre
 obtain ⟨e3,hwi⟩:=Codec.encAll_of_decAll r.args args a e1
 subst e3
 have KX:=hY w _ Y
 obtain ⟨fd,hb,hF⟩:=F w mg fa _ Y KX G.T.g hmg
 refine PySem.W.enter_call (codeAny_mono (spec_call (R:=[]) (cl:=classAt s_0.heap) (d0:=r.ret.enc (Codec.app r.args r.f a)) KX G.T.g G.T.b G.T.builtins G.T.nolimit hg hwl (pl_encAll _ _) (layable_weight hlay) hr hF hb (by rw [encAll_len];exact hlen)
  (fun H xs hO hS=>hsp w H xs a hO hwi e2 hS) fun H e s'=>hCX w H s₁ e s') fun r' s' hq=>?_)
 obtain ⟨u,as',rfl,h1,h2,h3,h4⟩:=hq
 exact ⟨.inl ⟨u,_,as',rfl,fun _=>rfl,h1,(OpenSpec.post_iff hwell hwi _ _).mpr rfl,fun z=>Bool.noConfusion (show false=true from z)⟩,h2,h3,h4⟩)) only [↓zh1]
theorem walk_specK {r:OpenSpec} {k:Nat} {q:Program} {loose:List Str} {XP:(Str→Option Value)→Heap→Prop} {YP:World→Heap→Prop} {d:DefRec} {K:Params→PySem.W.Frag} {CX:CXT} {ps:List Str} {sp:PySem.W.Frag→Sp}
  (hwell:r.wellSaid=true) (hdf:d.params.defaults=[]) (hlen:r.args.length=ps.length) (hr:Room k callerA)
  (hY:∀ (w:World) (h:Heap),YP w h→(K w.params).In h)
  (F:∀ (w:World) (mg:Str→Option Value) (fa:Addr) (h:Heap),YP w h→(K w.params).In h→h.Ns mainGlobals mg→mg d.name=some (.ref fa) →
   ∃ fd:FuncData,(∀ (s:Shared) (us:List Value),us.length=ps.length→BindsTo s fd ⟨us,[]⟩ (ps.zip us)) ∧
    ∀ base:Heap,(K w.params).In base→base.Ns mainGlobals mg→FnOk r.prog w (K w.params) mg base CX k fa fd ps (sp (K w.params)))
  (hsp:∀ (K:PySem.W.Frag) (H:Hp) (xs:List V) (a:Codec.denoteAll r.args),OnlyF H→Codec.withinAll r.args a=true→Codec.app r.args r.asked a=true→DwAll K H xs (Codec.encAll r.args a) →
   sp K xs H (fun v H'=>Dw K H' v (r.ret.enc (Codec.app r.args r.f a))) fun _ _ _=>False)
  (hCX:∀ (H:Hp) (s:Shared) (e:Value) (s':Shared),CX [] H s (fun _ _ _=>False) e s'→False) :
  PySem.W.WalkOS q loose XP YP r d [] (fun f vs=>PySem.call f vs) :=
 walk_spec (K:=K) (CX:=fun _=>CX) (sp:=fun w=>sp (K w.params)) hwell hdf hlen hr hY F (fun w H xs a h1 h2 h3 h4=>hsp (K w.params) H xs a h1 h2 h3 h4) fun _ H s e s'=>hCX H s e s'
end L2
end
namespace Dm
open Vbdcai
def cnt (p:Effect→Bool) (es:List Effect) (u:List Nat):Nat:=(es.filter fun e=>p e && !u.contains e.id).length
theorem cnt_cons (p:Effect→Bool) (e:Effect) (es:List Effect) (u:List Nat):cnt p (e :: es) u=(if (p e && !u.contains e.id)=true then 1 else 0) + cnt p es u:=by
 unfold cnt
 rw [List.filter_cons]
 split
 ·rw [List.length_cons];omega
 omega
theorem cnt_le_len (p:Effect→Bool) (es:List Effect) (u:List Nat):cnt p es u≤(es.filter p).length:=by
 refine zh0 ?_;simp (disch:=k_dflt (
 refine zh2 ?_
 induction es with
 | nil=>exact Nat.le_refl _
 | cons e es ih =>
  rw [cnt_cons,List.filter_cons]
  cases hp:p e with
  | true =>
   simp only [Bool.true_and,if_true,List.length_cons]
   split <;> omega
  | false=>simpa using ih)) only [↓zh1]
theorem cnt_more (p:Effect→Bool) (es:List Effect) (i:Nat) (u:List Nat):cnt p es (i :: u)≤cnt p es u:=by
 refine zh0 ?_;simp (disch:=k_dflt (
 refine zh2 ?_
 induction es with
 | nil=>exact Nat.le_refl _
 | cons e es ih =>
  rw [cnt_cons,cnt_cons]
  have:(if (p e && !(i :: u).contains e.id)=true then 1 else 0)≤(if (p e && !u.contains e.id)=true then 1 else 0):=by
   by_cases h:(p e && !(i :: u).contains e.id)=true
   ·have h2:(p e && !u.contains e.id)=true:=by
     simp only [List.contains_cons,Bool.and_eq_true,Bool.not_eq_true',Bool.or_eq_false_iff] at h ⊢
     exact ⟨h.1,h.2.2⟩
    rw [if_pos h,if_pos h2];exact Nat.le_refl _
   rw [if_neg h];omega
  omega)) only [↓zh1]
theorem cnt_use (p:Effect→Bool) (es:List Effect) (e:Effect) (u:List Nat) (he:e∈es) (hp:p e=true) (hu:u.contains e.id=false):cnt p es (e.id :: u) + 1≤cnt p es u:=by
 refine zh0 ?_;simp (disch:=k_dflt (
 refine zh2 ?_
 induction es with
 | nil=>cases he
 | cons x es ih =>
  rw [cnt_cons,cnt_cons]
  rcases List.mem_cons.mp he with rfl | he
  ·have h1:(p e && !(e.id :: u).contains e.id)=false:=by simp
   have h2:(p e && !u.contains e.id)=true:=by rw [hp,hu];rfl
   rw [h1,h2]
   have:=cnt_more p es e.id u
   simp only [if_true,Bool.false_eq_true,if_false]
   omega
  have ih:=ih he
  have:(if (p x && !(e.id :: u).contains x.id)=true then 1 else 0)≤(if (p x && !u.contains x.id)=true then 1 else 0):=by
   by_cases h:(p x && !(e.id :: u).contains x.id)=true
   ·have h2:(p x && !u.contains x.id)=true:=by
     simp only [List.contains_cons,Bool.and_eq_true,Bool.not_eq_true',Bool.or_eq_false_iff] at h ⊢
     exact ⟨h.1,h.2.2⟩
    rw [if_pos h,if_pos h2];exact Nat.le_refl _
   rw [if_neg h];omega
  omega)) only [↓zh1]
theorem cnt_map (p:Effect→Bool) (f:Effect→Option Effect) (hf:∀ x y,f x=some y→y.id=x.id∧p y=p x) (es:List Effect) (u:List Nat):cnt p (es.filterMap f) u≤cnt p es u:=by
 refine zh0 ?_;simp (disch:=k_dflt (
 refine zh2 ?_
 induction es with
 | nil=>exact Nat.le_refl _
 | cons x es ih =>
  rw [cnt_cons,List.filterMap_cons]
  cases h:f x with
  | none=>show cnt p (es.filterMap f) u≤_;omega
  | some y =>
   show cnt p (y :: es.filterMap f) u≤_
   rw [cnt_cons,(hf x y h).1,(hf x y h).2];omega)) only [↓zh1]
def nd (e:Effect):Bool:=!doubling e
def tt (_:Effect):Bool:=true
theorem cnt_all (es:List Effect) (u:List Nat):cnt tt es u=cnt doubling es u + cnt nd es u:=by
 induction es with
 | nil=>rfl
 | cons x es ih =>
  rw [cnt_cons,cnt_cons,cnt_cons,ih]
  unfold tt nd
  cases doubling x <;> cases (!u.contains x.id) <;> simp <;> omega
def fw (d n:Nat):Nat:=2 ^ d * (2 * n + 2) - 1
theorem pow_pos2 (d:Nat):1≤2 ^ d:=Nat.one_le_two_pow
theorem fw_pos (d n:Nat):1≤fw d n:=by
 unfold fw
 have h:=pow_pos2 d
 have:2 ^ d * 2≤2 ^ d * (2 * n + 2):=Nat.mul_le_mul_left _ (by omega)
 omega
theorem fw_le {d d' n n':Nat} (hd:d≤d') (hn:n≤n'):fw d n≤fw d' n':=by
 unfold fw
 have h1:2 ^ d≤2 ^ d':=Nat.pow_le_pow_right (by omega) hd
 have h2:2 ^ d * (2 * n + 2)≤2 ^ d' * (2 * n' + 2):=Nat.mul_le_mul h1 (by omega)
 omega
theorem fw_d (d n:Nat):1 + 2 * fw d n≤fw (d + 1) n:=by
 refine zh0 ?_;simp (disch:=k_dflt (
 refine zh2 ?_
 unfold fw
 have h:=pow_pos2 d
 have h2:2 ^ d * 2≤2 ^ d * (2 * n + 2):=Nat.mul_le_mul_left _ (by omega)
 have e:2 ^ (d + 1) * (2 * n + 2)=2 * (2 ^ d * (2 * n + 2)):=by rw [Nat.pow_succ,Nat.mul_comm (2 ^ d) 2,Nat.mul_assoc]
 omega)) only [↓zh1]
theorem fw_n (d n:Nat):2 + fw d n≤fw d (n + 1):=by
 refine zh0 ?_;simp (disch:=k_dflt (
 refine zh2 ?_
 unfold fw
 have h:=pow_pos2 d
 have h2:2 ^ d * 2≤2 ^ d * (2 * n + 2):=Nat.mul_le_mul_left _ (by omega)
 have e:2 ^ d * (2 * (n + 1) + 2)=2 ^ d * (2 * n + 2) + 2 ^ d * 2:=by rw [← Nat.mul_add,show 2 * (n + 1) + 2=2 * n + 2 + 2 by omega]
 omega)) only [↓zh1]
def fe (es:List Effect) (u:List Nat):Nat:=fw (cnt doubling es u) (cnt nd es u)
def wt (es:List Effect) (v:Event):Nat:=if v.amount=0 then 1 else fe es v.used
def mus (es:List Effect) (vs:List Event):Nat:=(vs.map (wt es)).sum
def mu (w:World):Nat:=mus w.effects w.todo
theorem wt_pos (es:List Effect) (v:Event):1≤wt es v:=by
 unfold wt
 split
 ·exact Nat.le_refl _
 exact fw_pos _ _
theorem wt_le (es:List Effect) (v:Event):wt es v≤fe es v.used:=by
 unfold wt
 split
 ·exact fw_pos _ _
 exact Nat.le_refl _
theorem mus_nil (es:List Effect):mus es []=0:=rfl
theorem mus_cons (es:List Effect) (v:Event) (r:List Event):mus es (v :: r)=wt es v + mus es r:=by
 unfold mus
 rw [List.map_cons,List.sum_cons]
theorem mus_append (es:List Effect) (a b:List Event):mus es (a++b)=mus es a + mus es b:=by
 induction a with
 | nil=>simp [mus_nil]
 | cons v r ih=>rw [List.cons_append,mus_cons,mus_cons,ih];omega
theorem mus_len (es:List Effect) (vs:List Event):vs.length≤mus es vs:=by
 induction vs with
 | nil=>exact Nat.le_refl _
 | cons v r ih=>rw [mus_cons,List.length_cons];have:=wt_pos es v;omega
def Shr (es es':List Effect):Prop:=∀ u,cnt doubling es' u≤cnt doubling es u∧cnt nd es' u≤cnt nd es u
theorem Shr.refl (es:List Effect):Shr es es:=fun _=>⟨Nat.le_refl _,Nat.le_refl _⟩
theorem Shr.fe {es es':List Effect} (h:Shr es es') (u:List Nat):fe es' u≤fe es u:=fw_le (h u).1 (h u).2
theorem Shr.wt {es es':List Effect} (h:Shr es es') (v:Event):wt es' v≤wt es v:=by
 unfold Dm.wt
 split
 ·exact Nat.le_refl _
 exact h.fe _
theorem Shr.mus {es es':List Effect} (h:Shr es es') (vs:List Event):mus es' vs≤mus es vs:=by
 induction vs with
 | nil=>exact Nat.le_refl _
 | cons v r ih=>rw [mus_cons,mus_cons];have:=h.wt v;omega
theorem Shr.map {es:List Effect} (f:Effect→Option Effect) (hf:∀ x y,f x=some y→y.id=x.id∧doubling y=doubling x):Shr es (es.filterMap f):=fun u =>
 ⟨cnt_map doubling f hf es u,cnt_map nd f (fun x y h=>⟨(hf x y h).1,by unfold nd;rw [(hf x y h).2]⟩) es u⟩
theorem worn_doubling {e y:Effect} {r:Option Nat} (h:worn e r=some y):y.id=e.id∧doubling y=doubling e:=by
 refine zh0 ?_;simp (disch:=k_dflt (
 refine zh2 ?_
 have fin:∀ (a:Act),doubling { e with act:=a }=doubling e→(if a=.shield 0∨e.uses=1 then none else some { e with act:=a,uses:=e.uses - 1 })=some y→y.id=e.id∧doubling y=doubling e:=fun a ha h=>by
  split at h
  ·cases h
  cases h
  exact ⟨rfl,ha⟩
 unfold worn at h
 cases hA:e.act with
 | shield n =>
  cases r with
  | none=>simp only [hA] at h;exact fin _ (by simp [doubling,hA]) h
  | some k=>simp only [hA] at h;exact fin _ (by simp [doubling,hA]) h
 | _=>simp only [hA] at h;exact fin _ (by simp [doubling,hA]) h)) only [↓zh1]
theorem wear_shr (es:List Effect) (i:Nat) (r:Option Nat):Shr es (es.filterMap fun x=>if x.id=i then worn x r else some x):=by
 refine Shr.map _ fun x y h=>?_
 split at h
 ·exact worn_doubling h
 cases h;exact ⟨rfl,rfl⟩
theorem fe_use {es:List Effect} {e:Effect} {u:List Nat} (he:e∈es) (hu:u.contains e.id=false) (hd:doubling e=true):1 + 2 * fe es (e.id :: u)≤fe es u:=by
 refine zh0 ?_;simp (disch:=k_dflt (
 refine zh2 ?_
 have h1:=cnt_use doubling es e u he hd hu
 have h2:=cnt_more nd es e.id u
 have h3:=fw_d (cnt doubling es (e.id :: u)) (cnt nd es (e.id :: u))
 have h4:fw (cnt doubling es (e.id :: u) + 1) (cnt nd es (e.id :: u))≤fw (cnt doubling es u) (cnt nd es u):=fw_le h1 h2
 unfold fe
 omega)) only [↓zh1]
theorem fe_use1 {es:List Effect} {e:Effect} {u:List Nat} (he:e∈es) (hu:u.contains e.id=false):2 + fe es (e.id :: u)≤fe es u:=by
 refine zh0 ?_;simp (disch:=k_dflt (
 refine zh2 ?_
 cases hd:doubling e with
 | true =>
  have:=fe_use he hu hd
  have:=fw_pos (cnt doubling es (e.id :: u)) (cnt nd es (e.id :: u))
  have h:1≤fe es (e.id :: u):=this
  omega
 | false =>
  have h1:=cnt_use nd es e u he (by unfold nd;rw [hd];rfl) hu
  have h2:=cnt_more doubling es e.id u
  have h3:=fw_n (cnt doubling es (e.id :: u)) (cnt nd es (e.id :: u))
  have h4:fw (cnt doubling es (e.id :: u)) (cnt nd es (e.id :: u) + 1)≤fw (cnt doubling es u) (cnt nd es u):=fw_le h2 h1
  unfold fe
  omega)) only [↓zh1]
theorem offered_mem {c:Nat→Nat} {es:List Effect} {v:Event} {e:Effect} (h:e∈offered c es v):e∈es∧matches_ c e v=true:=by
 unfold offered at h
 simp only at h
 split at h
 ·have:=(List.mem_filter.mp h).1
  exact List.mem_filter.mp this
 exact List.mem_filter.mp h
theorem matches_used {c:Nat→Nat} {e:Effect} {v:Event} (h:matches_ c e v=true):e.kind=v.kind∧v.used.contains e.id=false:=by
 unfold matches_ at h
 rw [Bool.and_eq_true,Bool.and_eq_true] at h
 exact ⟨eq_of_beq h.1,by have:=h.2.1;revert this;cases v.used.contains e.id <;> simp⟩
theorem made_used (e:Effect) (v:Event):(made e v).event.used=e.id :: v.used∧∀ o∈(made e v).others,o.used=e.id :: v.used:=by
 unfold made
 cases e.act <;> simp
theorem made_mus (es:List Effect) (e:Effect) (v:Event) (he:e∈es) (hu:v.used.contains e.id=false) (ha:v.amount≠0) :
  1 + mus es ((made e v).event :: (made e v).others)≤wt es v:=by
 refine zh0 ?_;simp (disch:=k_dflt (
 refine zh2 ?_
 have h0:wt es v=fe es v.used:=by unfold wt;rw [if_neg ha]
 have h1:=fe_use1 he hu
 have hp:1≤fe es (e.id :: v.used):=fw_pos _ _
 have hone:∀ x:Event,x.used=e.id :: v.used→1 + mus es [x]≤wt es v:=fun x hx=>by
  rw [mus_cons,mus_nil]
  have:=wt_le es x
  rw [hx] at this
  omega
 have htwo:∀ x y:Event,doubling e=true→x.used=e.id :: v.used→y.used=e.id :: v.used→1 + mus es [x,y]≤wt es v:=fun x y hd hx hy=>by
  rw [mus_cons,mus_cons,mus_nil]
  have a:=wt_le es x
  have b:=wt_le es y
  rw [hx] at a
  rw [hy] at b
  have c:=fe_use he hu hd
  omega
 cases hA:e.act with
 | less n=>simp only [made,hA];exact hone _ rfl
 | more n=>simp only [made,hA];exact hone _ rfl
 | twice=>simp only [made,hA];exact hone _ rfl
 | half=>simp only [made,hA];exact hone _ rfl
 | none=>simp only [made,hA];exact hone _ rfl
 | shield r=>simp only [made,hA];exact hone _ rfl
 | aim x=>simp only [made,hA];exact hone _ rfl
 | place z=>simp only [made,hA];exact hone _ rfl
 | split x =>
  simp only [made,hA]
  split
  ·exact hone _ rfl
  exact htwo _ _ (by unfold doubling;rw [hA]) rfl rfl
 | also k x n z=>simp only [made,hA];exact htwo _ _ (by unfold doubling;rw [hA]) rfl rfl
 | become k x n z =>
  simp only [made,hA]
  rw [mus_cons,mus_cons,mus_nil]
  have a:∀ y:Event,y.used=e.id :: v.used→wt es y≤fe es (e.id :: v.used):=fun y hy=>by have:=wt_le es y;rw [hy] at this;exact this
  have b:∀ y:Event,y.amount=0→wt es y=1:=fun y hy=>by unfold wt;rw [if_pos hy]
  rw [b _ rfl]
  have:=a { kind:=k,source:=v.source,target:=x,amount:=amountOf k n v.amount,place:=z,used:=e.id :: v.used } rfl
  omega)) only [↓zh1]
end Dm
namespace Dm
open Vbdcai
theorem okTarget_mono {w w':World} {k x:Nat} (h:w.things.length≤w'.things.length) (t:okTarget w k x=true):okTarget w' k x=true:=by
 unfold okTarget at t ⊢
 split
 ·next hx=>rw [if_pos hx] at t;exact t
 next hx =>
 rw [if_neg hx] at t
 rw [Bool.and_eq_true,Bool.and_eq_true] at t ⊢
 exact ⟨t.1,decide_eq_true (Nat.le_trans (of_decide_eq_true t.2.1) h),t.2.2⟩
theorem okAct_mono {w w':World} {k:Nat} {a:Act} (h:w.things.length≤w'.things.length) (t:okAct w k a=true):okAct w' k a=true:=by
 refine zh0 ?_;simp (disch:=k_dflt (
 refine zh2 ?_
 cases a with
 | aim x =>
  simp only [okAct,Bool.and_eq_true] at t ⊢
  exact ⟨t.1,okTarget_mono h t.2⟩
 | split x =>
  simp only [okAct,Bool.and_eq_true] at t ⊢
  exact ⟨t.1,okTarget_mono h t.2⟩
 | become j x n z=>exact okTarget_mono h t
 | also j x n z=>exact okTarget_mono h t
 | _=>exact t)) only [↓zh1]
def actK:Act→Prop
 | .become k _ _ _=>k≤5
 | .also k _ _ _=>k≤5
 | _=>True
structure EfOk (w:World) (e:Effect):Prop where
 kind:e.kind≤5
 aim:e.aim≤2
 whose:e.whose≤2
 src:e.source≤w.things.length
 act:okAct w e.kind e.act=true
 actk:actK e.act
 id:e.id≤w.last
theorem EfOk.mono {w w':World} {e:Effect} (h:EfOk w e) (ht:w.things.length≤w'.things.length) (hl:w.last≤w'.last):EfOk w' e :=
 ⟨h.kind,h.aim,h.whose,Nat.le_trans h.src ht,okAct_mono ht h.act,h.actk,Nat.le_trans h.id hl⟩
structure EvOk (w:World) (v:Event):Prop where
 kind:v.kind≤5
 tgt:okTarget w v.kind v.target=true
theorem EvOk.mono {w w':World} {v:Event} (h:EvOk w v) (ht:w.things.length≤w'.things.length):EvOk w' v:=⟨h.kind,okTarget_mono ht h.tgt⟩
def UOk (es:List Effect) (v:Event):Prop:=v.used.length + cnt tt es v.used≤12
theorem Shr.all {es es':List Effect} (h:Shr es es') (u:List Nat):cnt tt es' u≤cnt tt es u:=by
 have:=h u
 rw [cnt_all,cnt_all];omega
theorem UOk.shr {es es':List Effect} {v:Event} (h:UOk es v) (s:Shr es es'):UOk es' v:=by
 have:=s.all v.used
 unfold UOk at *
 omega
theorem UOk.use {es es':List Effect} {v v':Event} {e:Effect} (h:UOk es v) (s:Shr es es') (he:e∈es) (hu:v.used.contains e.id=false) (h':v'.used=e.id :: v.used):UOk es' v':=by
 have a:=s.all v'.used
 have b:=cnt_use tt es e v.used he rfl hu
 unfold UOk at *
 rw [h'] at a ⊢
 rw [List.length_cons]
 omega
structure WOk (w:World):Prop where
 bks:w.books.length=6
 ths:w.things.length≤16
 eff:∀ e∈w.effects,EfOk w e
 ids:(w.effects.map (·.id)).Nodup
 len:w.effects.length≤12
 dbl:(w.effects.filter doubling).length≤5
structure BOk (w:World):Prop where
 todo:∀ v∈w.todo,EvOk w v∧UOk w.effects v
 settled:∀ v∈w.settled,EvOk w v
 room:mu w + w.settled.length≤2044
theorem use_parts (w:World) (e:Effect) (v:Event) (r:List Event) :
  (useOn w e v r).things=w.things∧(useOn w e v r).last=w.last∧(useOn w e v r).sides=w.sides∧(useOn w e v r).settled=w.settled ∧
  (useOn w e v r).effects=w.effects.filterMap (fun x=>if x.id=e.id then worn x (made e v).rest else some x)∧(useOn w e v r).todo=(made e v).event :: ((made e v).others++r)∧(useOn w e v r).books.length=w.books.length:=by
 cases hA:e.act with
 | split x=>simp [useOn,made,hA,note]
 | become k x n z=>simp [useOn,made,hA,note]
 | also k x n z=>simp [useOn,made,hA,note]
 | _=>simp [useOn,made,hA,note]
theorem worn_form {e y:Effect} {r:Option Nat} (h:worn e r=some y):∃ a,y={ e with act:=a,uses:=e.uses - 1 }∧a≠.shield 0∧(a=e.act∨∃ n k,e.act=.shield n∧a=.shield k):=by
 refine zh0 ?_;simp (disch:=k_dflt (
 refine zh2 ?_
 have fin:∀ (a:Act),(a=e.act∨∃ n k,e.act=.shield n∧a=.shield k)→(if a=.shield 0∨e.uses=1 then none else some { e with act:=a,uses:=e.uses - 1 })=some y→∃ a,y={ e with act:=a,uses:=e.uses - 1 }∧a≠.shield 0∧(a=e.act∨∃ n k,e.act=.shield n∧a=.shield k):=fun a ha h=>by
  by_cases hc:a=.shield 0∨e.uses=1
  ·rw [if_pos hc] at h;cases h
  rw [if_neg hc] at h
  exact ⟨a,(Option.some.inj h).symm,fun q=>hc (.inl q),ha⟩
 unfold worn at h
 cases hA:e.act with
 | shield n =>
  cases r with
  | none=>simp only [hA] at h;rw [← hA];exact fin _ (.inr ⟨n,n,hA,rfl⟩) h
  | some k=>simp only [hA] at h;rw [← hA];exact fin _ (.inr ⟨n,k,hA,rfl⟩) h
 | _=>simp only [hA] at h;rw [← hA];exact fin _ (.inl hA.symm) h)) only [↓zh1]
theorem worn_keeps {e y:Effect} {r:Option Nat} (h:worn e r=some y):y.id=e.id∧y.side=e.side∧y.source=e.source∧y.kind=e.kind∧y.aim=e.aim∧y.whose=e.whose∧y.things=e.things∧y.sources=e.sources∧y.own=e.own∧y.may=e.may:=by
 obtain ⟨a,rfl,_,_⟩:=worn_form h
 exact ⟨rfl,rfl,rfl,rfl,rfl,rfl,rfl,rfl,rfl,rfl⟩
theorem worn_act {w:World} {e y:Effect} {r:Option Nat} (h:worn e r=some y) (ok:okAct w e.kind e.act=true) (hk:actK e.act):okAct w y.kind y.act=true∧actK y.act:=by
 refine zh0 ?_;simp (disch:=k_dflt (
 refine zh2 ?_
 obtain ⟨a,rfl,hne,ha⟩:=worn_form h
 rcases ha with rfl | ⟨n,k,hA,rfl⟩
 ·exact ⟨ok,hk⟩
 rw [hA] at ok
 refine ⟨?_,trivial⟩
 simp only [okAct,Bool.and_eq_true] at ok ⊢
 refine ⟨ok.1,?_⟩
 rw [bne_iff_ne]
 intro q
 exact hne (by rw [q]))) only [↓zh1]
theorem wear_some {i:Nat} {r:Option Nat} {x y:Effect} (h:(if x.id=i then worn x r else some x)=some y):y.id=x.id∧(∀ w,EfOk w x→EfOk w y):=by
 refine zh0 ?_;simp (disch:=k_dflt (
 refine zh2 ?_
 split at h
 ·have k:=worn_keeps h
  refine ⟨k.1,fun w o=>?_⟩
  have a:=worn_act h o.act o.actk
  exact ⟨by rw [k.2.2.2.1];exact o.kind,by rw [k.2.2.2.2.1];exact o.aim,by rw [k.2.2.2.2.2.1];exact o.whose,by rw [k.2.2.1];exact o.src,a.1,a.2,by rw [k.1];exact o.id⟩
 have h:=Option.some.inj h
 subst h
 exact ⟨rfl,fun _ o=>o⟩)) only [↓zh1]
theorem filterMap_ids {f:Effect→Option Effect} (hf:∀ x y,f x=some y→y.id=x.id):∀ (es:List Effect),((es.filterMap f).map (·.id)).Sublist (es.map (·.id))
 | []=>List.Sublist.refl _
 | x :: es=>by
  rw [List.filterMap_cons,List.map_cons]
  cases h:f x with
  | none=>exact (filterMap_ids hf es).cons _
  | some y =>
   show (y.id :: (es.filterMap f).map (·.id)).Sublist _
   rw [hf x y h]
   exact (filterMap_ids hf es).cons_cons _
theorem made_ev (w:World) (e:Effect) (v:Event) (he:EfOk w e) (hv:EvOk w v) (hk:e.kind=v.kind):EvOk w (made e v).event∧∀ o∈(made e v).others,EvOk w o:=by
 refine zh0 ?_;simp (disch:=k_dflt (
 refine zh2 ?_
 have hact:=he.act
 have hak:=he.actk
 cases hA:e.act with
 | aim x =>
  rw [hA] at hact
  simp only [okAct,Bool.and_eq_true] at hact
  simp only [made,hA]
  exact ⟨⟨hv.kind,by rw [← hk];exact hact.2⟩,fun o h=>by cases h⟩
 | split x =>
  rw [hA] at hact
  simp only [okAct,Bool.and_eq_true] at hact
  simp only [made,hA]
  refine ⟨⟨hv.kind,hv.tgt⟩,fun o h=>?_⟩
  split at h
  ·cases h
  rw [List.mem_singleton] at h
  subst h
  exact ⟨hv.kind,by rw [← hk];exact hact.2⟩
 | become k x n z =>
  rw [hA] at hact hak
  simp only [made,hA]
  refine ⟨⟨hv.kind,hv.tgt⟩,fun o h=>?_⟩
  rw [List.mem_singleton] at h
  subst h
  exact ⟨hak,hact⟩
 | also k x n z =>
  rw [hA] at hact hak
  simp only [made,hA]
  refine ⟨⟨hv.kind,hv.tgt⟩,fun o h=>?_⟩
  rw [List.mem_singleton] at h
  subst h
  exact ⟨hak,hact⟩
 | _=>simp only [made,hA];exact ⟨⟨hv.kind,hv.tgt⟩,fun o h=>by cases h⟩)) only [↓zh1]
theorem filter_len_map (p:Effect→Bool) (f:Effect→Option Effect) (hf:∀ x y,f x=some y→p y=p x) (es:List Effect):((es.filterMap f).filter p).length≤(es.filter p).length:=by
 refine zh0 ?_;simp (disch:=k_dflt (
 refine zh2 ?_
 induction es with
 | nil=>exact Nat.le_refl _
 | cons x es ih =>
  rw [List.filterMap_cons,List.filter_cons]
  cases h:f x with
  | none =>
   show ((es.filterMap f).filter p).length≤_
   cases p x with
   | true=>rw [if_pos rfl,List.length_cons];omega
   | false=>exact ih
  | some y =>
   show ((y :: es.filterMap f).filter p).length≤_
   rw [List.filter_cons,hf x y h]
   cases p x with
   | true=>rw [if_pos rfl,if_pos rfl,List.length_cons,List.length_cons];omega
   | false=>exact ih)) only [↓zh1]
theorem use_ok {w:World} {e:Effect} {v:Event} {r:List Event} (W:WOk w) (B:BOk w) (ht:w.todo=v :: r) (ha:v.amount≠0) (he:e∈offered (ctrl w) w.effects v) :
  WOk (useOn w e v r)∧BOk (useOn w e v r)∧mu (useOn w e v r) < mu w:=by
 refine zh0 ?_;simp (disch:=k_dflt (
 refine zh2 ?_
 obtain ⟨hm,hmt⟩:=offered_mem he
 obtain ⟨hkd,hus⟩:=matches_used hmt
 obtain ⟨p1,p2,p3,p4,p5,p6,p7⟩:=use_parts w e v r
 have shr:Shr w.effects (useOn w e v r).effects:=by rw [p5];exact wear_shr _ _ _
 have hv:v∈w.todo:=by rw [ht];exact List.mem_cons_self
 obtain ⟨ev,uv⟩:=B.todo v hv
 have mlt:mu (useOn w e v r) < mu w:=by
  have e1:mu w=wt w.effects v + mus w.effects r:=by unfold mu;rw [ht,mus_cons]
  have e2:mu (useOn w e v r)≤mus w.effects ((made e v).event :: ((made e v).others++r)):=by unfold mu;rw [p6];exact shr.mus _
  rw [← List.cons_append,mus_append] at e2
  have:=made_mus w.effects e v hm hus ha
  omega
 refine ⟨⟨by rw [p7];exact W.bks,by rw [p1];exact W.ths,?_,?_,?_,?_⟩,⟨?_,?_,?_⟩,mlt⟩
 ·intro x hx
  rw [p5] at hx
  obtain ⟨y,hy,hxy⟩:=List.mem_filterMap.mp hx
  exact ((wear_some hxy).2 w (W.eff y hy)).mono (by rw [p1];exact Nat.le_refl _) (by rw [p2];exact Nat.le_refl _)
 ·rw [p5]
  exact List.Sublist.nodup (filterMap_ids (fun x y h=>(wear_some h).1) _) W.ids
 ·rw [p5]
  exact Nat.le_trans (List.length_filterMap_le _ _) W.len
 ·rw [p5]
  refine Nat.le_trans (filter_len_map doubling _ (fun x y h=>?_) _) W.dbl
  split at h
  ·exact (worn_doubling h).2
  cases h;rfl
 ·intro x hx
  rw [p6] at hx
  have hme:=made_ev w e v (W.eff e hm) ev hkd
  have hmu:=made_used e v
  have keep:∀ x,EvOk w x→EvOk (useOn w e v r) x:=fun x h=>h.mono (by rw [p1];exact Nat.le_refl _)
  rcases List.mem_cons.mp hx with rfl | hx
  ·exact ⟨keep _ hme.1,uv.use shr hm hus hmu.1⟩
  rcases List.mem_append.mp hx with hx | hx
  ·exact ⟨keep _ (hme.2 x hx),uv.use shr hm hus (hmu.2 x hx)⟩
  have:=B.todo x (by rw [ht];exact List.mem_cons_of_mem _ hx)
  exact ⟨keep _ this.1,this.2.shr shr⟩
 ·intro x hx
  rw [p4] at hx
  exact (B.settled x hx).mono (by rw [p1];exact Nat.le_refl _)
 rw [p4]
 have:=B.room
 omega)) only [↓zh1]
def look1 (w:World):Option World:=match w.todo with
 | []=>none
 | v :: r=>if v.amount=0 then some { w with todo:=r } else match offered (ctrl w) w.effects v with
  | []=>some { w with todo:=r,settled:=w.settled++[v] }
  | [e]=>if e.may=true then none else some (useOn w e v r)
  | _=>none
theorem look_ok {w w':World} (W:WOk w) (B:BOk w) (h:look1 w=some w'):WOk w'∧BOk w'∧mu w' < mu w:=by
 refine zh0 ?_;simp (disch:=k_dflt (
 refine zh2 ?_
 unfold look1 at h
 cases ht:w.todo with
 | nil=>rw [ht] at h;cases h
 | cons v r =>
  rw [ht] at h
  simp only at h
  have e1:mu w=wt w.effects v + mus w.effects r:=by unfold mu;rw [ht,mus_cons]
  have hp:=wt_pos w.effects v
  have hr:∀ x∈r,EvOk w x∧UOk w.effects x:=fun x hx=>B.todo x (by rw [ht];exact List.mem_cons_of_mem _ hx)
  have hv:=B.todo v (by rw [ht];exact List.mem_cons_self)
  have hroom:=B.room
  split at h
  ·cases h
   refine ⟨⟨W.bks,W.ths,fun e he=>?_,W.ids,W.len,W.dbl⟩,⟨fun x hx=>?_,fun x hx=>?_,?_⟩,?_⟩
   ·have q:=W.eff e he;exact ⟨q.kind,q.aim,q.whose,q.src,q.act,q.actk,q.id⟩
   ·have q:=hr x hx;exact ⟨⟨q.1.kind,q.1.tgt⟩,q.2⟩
   ·have q:=B.settled x hx;exact ⟨q.kind,q.tgt⟩
   ·show mus w.effects r + w.settled.length≤2044;omega
   show mus w.effects r < mu w;omega
  next ha =>
  split at h
  ·cases h
   refine ⟨⟨W.bks,W.ths,fun e he=>?_,W.ids,W.len,W.dbl⟩,⟨fun x hx=>?_,fun x hx=>?_,?_⟩,?_⟩
   ·have q:=W.eff e he;exact ⟨q.kind,q.aim,q.whose,q.src,q.act,q.actk,q.id⟩
   ·have q:=hr x hx;exact ⟨⟨q.1.kind,q.1.tgt⟩,q.2⟩
   ·rcases List.mem_append.mp hx with hx | hx
    ·have q:=B.settled x hx;exact ⟨q.kind,q.tgt⟩
    rw [List.mem_singleton] at hx;subst hx;exact ⟨hv.1.kind,hv.1.tgt⟩
   ·show mus w.effects r + (w.settled++[v]).length≤2044
    rw [List.length_append,List.length_singleton];omega
   show mus w.effects r < mu w;omega
  ·next e ho =>
   split at h
   ·cases h
   cases h
   exact use_ok W B ht ha (by rw [ho];exact List.mem_singleton.mpr rfl)
  cases h)) only [↓zh1]
theorem goOn_succ (k:Nat) (w:World):goOn (k + 1) w=(match w.todo with
  | []=>finish w
  | v :: r=>if v.amount=0 then goOn k { w with todo:=r } else match offered (ctrl w) w.effects v with
   | []=>goOn k { w with todo:=r,settled:=w.settled++[v] }
   | [e]=>if e.may=true then w else goOn k (useOn w e v r)
   | _=>w):=rfl
theorem goOn_step {w w':World} (k:Nat) (h:look1 w=some w'):goOn (k + 1) w=goOn k w':=by
 refine zh0 ?_;simp (disch:=k_dflt (
 refine zh2 ?_
 unfold look1 at h
 rw [goOn_succ]
 cases ht:w.todo with
 | nil=>rw [ht] at h;cases h
 | cons v r =>
  rw [ht] at h
  simp only at h ⊢
  split
  ·next ha=>rw [if_pos ha] at h;cases h;rfl
  next ha =>
  rw [if_neg ha] at h
  split at h
  ·cases h;rfl
  ·next e ho =>
   split at h
   ·cases h
   next hm=>cases h;simp only [if_neg hm]
  cases h)) only [↓zh1]
theorem goOn_end {w:World} (k:Nat) (h:w.todo=[]):goOn (k + 1) w=finish w:=by
 rw [goOn_succ]
 rw [h]
theorem goOn_ask {w:World} (k:Nat) (h:look1 w=none) (hn:w.todo≠[]):goOn (k + 1) w=w:=by
 refine zh0 ?_;simp (disch:=k_dflt (
 refine zh2 ?_
 unfold look1 at h
 rw [goOn_succ]
 cases ht:w.todo with
 | nil=>exact absurd ht hn
 | cons v r =>
  rw [ht] at h
  simp only at h ⊢
  split
  ·next ha=>rw [if_pos ha] at h;cases h
  next ha =>
  rw [if_neg ha] at h
  split at h
  ·cases h
  ·next e ho =>
   split at h
   ·next hm=>simp only [if_pos hm]
   cases h
  rfl)) only [↓zh1]
theorem goOn_fuel:∀ (n m:Nat) {w:World},WOk w→BOk w→mu w < n→mu w < m→goOn n w=goOn m w
 | 0,_,_,_,_,h,_=>by omega
 | _,0,_,_,_,_,h=>by omega
 | n + 1,m + 1,w,W,B,hn,hm=>by
  by_cases ht:w.todo=[]
  ·rw [goOn_end n ht,goOn_end m ht]
  cases hl:look1 w with
  | none=>rw [goOn_ask n hl ht,goOn_ask m hl ht]
  | some w' =>
   obtain ⟨W',B',hlt⟩:=look_ok W B hl
   rw [goOn_step n hl,goOn_step m hl]
   exact goOn_fuel n m W' B' (by omega) (by omega)
end Dm
namespace Dm
open Vbdcai
def nz (n:Nat):Int:=n
def actRow:Act→List Int
 | .less n=>[0,n,0,0,0]
 | .more n=>[1,n,0,0,0]
 | .twice=>[2,0,0,0,0]
 | .half=>[3,0,0,0,0]
 | .none=>[4,0,0,0,0]
 | .shield n=>[5,n,0,0,0]
 | .aim x=>[6,x,0,0,0]
 | .split x=>[7,x,0,0,0]
 | .become k x n z=>[8,k,x,n,z]
 | .also k x n z=>[9,k,x,n,z]
 | .place z=>[10,z,0,0,0]
def withinB (n lo hi:Int):Bool:=decide (lo≤n) && decide (n≤hi)
def isSideB (x:Int):Bool:=decide (x=0) || decide (x=1)
def isTargetB (x:Int):Bool:=isSideB x || withinB x 11 26
def zerosB (l:List Int):Bool:=l.all fun x=>decide (x=0)
def madeEvB (k x n z:Int):Bool:=if (!withinB k 0 5 || !isTargetB x)=true then false else if k=5 then decide (n=0) && withinB z 0 3 else withinB n 0 1000000 && decide (z=0)
def does5 (f n x y z:Int):Bool :=
 if f=8∨f=9 then madeEvB n x y z else if f=2∨f=3∨f=4 then zerosB [n,x,y,z] else if f=0∨f=1∨f=5 then withinB n 0 1000000 && zerosB [x,y,z]
 else if f=6∨f=7 then isTargetB n && zerosB [x,y,z] else decide (f=10) && (withinB n 0 3 && zerosB [x,y,z])
def doesB:List Int→Bool
 | [f,n,x,y,z]=>does5 f n x y z
 | _=>false
theorem withinB_iff {n lo hi:Int}:withinB n lo hi=true↔lo≤n∧n≤hi:=by unfold withinB;rw [Bool.and_eq_true,decide_eq_true_iff,decide_eq_true_iff]
theorem isTargetB_iff {x:Int}:isTargetB x=true↔(x=0∨x=1∨(11≤x∧x≤26)):=by
 unfold isTargetB isSideB
 rw [Bool.or_eq_true,Bool.or_eq_true,withinB_iff,decide_eq_true_iff,decide_eq_true_iff,or_assoc]
theorem zeros3_iff {x y z:Int}:zerosB [x,y,z]=true↔(x=0∧y=0∧z=0):=by simp [zerosB]
theorem zeros4_iff {n x y z:Int}:zerosB [n,x,y,z]=true↔(n=0∧x=0∧y=0∧z=0):=by simp [zerosB]
theorem big_eq:big=1000000:=rfl
theorem nat?_some {n lo hi:Int} (h:lo≤n∧n≤hi):nat? n lo hi=some n.toNat:=if_pos h
theorem nat?_none {n lo hi:Int} (h:¬ (lo≤n∧n≤hi)):nat? n lo hi=none:=if_neg h
theorem targetOf_some {x:Int} (h:x=0∨x=1∨(11≤x∧x≤26)):targetOf x=some x.toNat:=if_pos h
theorem targetOf_none {x:Int} (h:¬ (x=0∨x=1∨(11≤x∧x≤26))):targetOf x=none:=if_neg h
theorem dite_same {α:Type} {c:Prop} [Decidable c] {a:α} {x:c→α} {y:¬ c→α} (h1:∀ h,x h=a) (h2:∀ h,y h=a):dite c x y=a:=by
 by_cases h:c
 ·rw [dif_pos h];exact h1 h
 rw [dif_neg h];exact h2 h
theorem actOf5 (f n x y z:Int):actOf [f,n,x,y,z] =
  if f=8 then ((nat? n 0 5).bind fun k=>(targetOf x).bind fun x=>(nat? y 0 big).bind fun n=>(nat? z 0 3).bind fun z=>if (k=5∧n≠0)∨(k≠5∧z≠0) then none else some (.become k x n z))
  else if f=9 then ((nat? n 0 5).bind fun k=>(targetOf x).bind fun x=>(nat? y 0 big).bind fun n=>(nat? z 0 3).bind fun z=>if (k=5∧n≠0)∨(k≠5∧z≠0) then none else some (.also k x n z))
  else if x=0∧y=0∧z=0 then
   (if f=0 then (nat? n 0 big).map fun n=>.less n else if f=1 then (nat? n 0 big).map fun n=>.more n
   else if f=2 then (if n=0 then some .twice else none) else if f=3 then (if n=0 then some .half else none) else if f=4 then (if n=0 then some .none else none)
   else if f=5 then (nat? n 0 big).map fun n=>.shield n else if f=6 then (targetOf n).map fun x=>.aim x else if f=7 then (targetOf n).map fun x=>.split x
   else if f=10 then (nat? n 0 3).map fun z=>.place z else none) else none:=by
 refine zh0 ?_;simp (disch:=k_dflt (
 refine zh2 ?_
 by_cases e8:f=8
 ·subst e8;rfl
 by_cases e9:f=9
 ·subst e9;rfl
 rw [if_neg e8,if_neg e9]
 by_cases e0:x=0∧y=0∧z=0
 ·obtain ⟨rfl,rfl,rfl⟩:=e0
  rw [if_pos ⟨rfl,rfl,rfl⟩]
  by_cases q0:f=0
  ·subst q0;rfl
  by_cases q1:f=1
  ·subst q1;rfl
  by_cases q5:f=5
  ·subst q5;rfl
  by_cases q6:f=6
  ·subst q6;rfl
  by_cases q7:f=7
  ·subst q7;rfl
  by_cases q10:f=10
  ·subst q10;rfl
  by_cases q2:f=2
  ·subst q2
   by_cases m:n=0
   ·subst m;rfl
   show _=ite (n=0) _ _
   rw [if_neg m]
   delta actOf actOf.match_1
   exact dite_same (fun h=>absurd h (by decide)) fun _=>dite_same (fun h=>absurd h (by decide)) fun _=>dite_same (fun _=>dite_same (fun h=>absurd h m) fun _=>rfl) fun h=>absurd rfl h
  by_cases q3:f=3
  ·subst q3
   by_cases m:n=0
   ·subst m;rfl
   show _=ite (n=0) _ _
   rw [if_neg m]
   delta actOf actOf.match_1
   exact dite_same (fun h=>absurd h (by decide)) fun _=>dite_same (fun h=>absurd h (by decide)) fun _=>dite_same (fun h=>absurd h (by decide)) fun _=>dite_same (fun _=>dite_same (fun h=>absurd h m) fun _=>rfl) fun h=>absurd rfl h
  by_cases q4:f=4
  ·subst q4
   by_cases m:n=0
   ·subst m;rfl
   show _=ite (n=0) _ _
   rw [if_neg m]
   delta actOf actOf.match_1
   exact dite_same (fun h=>absurd h (by decide)) fun _=>dite_same (fun h=>absurd h (by decide)) fun _=>dite_same (fun h=>absurd h (by decide)) fun _=>dite_same (fun h=>absurd h (by decide)) fun _=>dite_same (fun _=>dite_same (fun h=>absurd h m) fun _=>rfl) fun h=>absurd rfl h
  rw [if_neg q0,if_neg q1,if_neg q2,if_neg q3,if_neg q4,if_neg q5,if_neg q6,if_neg q7,if_neg q10]
  delta actOf actOf.match_1
  refine dite_same (fun h=>absurd h q0) fun _=>?_
  refine dite_same (fun h=>absurd h q1) fun _=>?_
  refine dite_same (fun h=>absurd h q2) fun _=>?_
  refine dite_same (fun h=>absurd h q3) fun _=>?_
  refine dite_same (fun h=>absurd h q4) fun _=>?_
  refine dite_same (fun h=>absurd h q5) fun _=>?_
  refine dite_same (fun h=>absurd h q6) fun _=>?_
  refine dite_same (fun h=>absurd h q7) fun _=>?_
  refine dite_same (fun h=>absurd h e8) fun _=>?_
  refine dite_same (fun h=>absurd h e9) fun _=>?_
  exact dite_same (fun h=>absurd h q10) fun _=>rfl
 rw [if_neg e0]
 delta actOf actOf.match_1
 refine dite_same (fun h=>?_) fun _=>?_
 ·subst h
  repeat (refine dite_same (fun h1=>?_) fun _=>rfl;subst h1)
  exact absurd ⟨rfl,rfl,rfl⟩ e0
 refine dite_same (fun h=>?_) fun _=>?_
 ·subst h
  repeat (refine dite_same (fun h1=>?_) fun _=>rfl;subst h1)
  exact absurd ⟨rfl,rfl,rfl⟩ e0
 refine dite_same (fun h=>?_) fun _=>?_
 ·subst h
  repeat (refine dite_same (fun h1=>?_) fun _=>rfl;subst h1)
  exact absurd ⟨rfl,rfl,rfl⟩ e0
 refine dite_same (fun h=>?_) fun _=>?_
 ·subst h
  repeat (refine dite_same (fun h1=>?_) fun _=>rfl;subst h1)
  exact absurd ⟨rfl,rfl,rfl⟩ e0
 refine dite_same (fun h=>?_) fun _=>?_
 ·subst h
  repeat (refine dite_same (fun h1=>?_) fun _=>rfl;subst h1)
  exact absurd ⟨rfl,rfl,rfl⟩ e0
 refine dite_same (fun h=>?_) fun _=>?_
 ·subst h
  repeat (refine dite_same (fun h1=>?_) fun _=>rfl;subst h1)
  exact absurd ⟨rfl,rfl,rfl⟩ e0
 refine dite_same (fun h=>?_) fun _=>?_
 ·subst h
  repeat (refine dite_same (fun h1=>?_) fun _=>rfl;subst h1)
  exact absurd ⟨rfl,rfl,rfl⟩ e0
 refine dite_same (fun h=>?_) fun _=>?_
 ·subst h
  repeat (refine dite_same (fun h1=>?_) fun _=>rfl;subst h1)
  exact absurd ⟨rfl,rfl,rfl⟩ e0
 refine dite_same (fun h=>absurd h e8) fun _=>?_
 refine dite_same (fun h=>absurd h e9) fun _=>?_
 refine dite_same (fun h=>?_) fun _=>?_
 ·subst h
  repeat (refine dite_same (fun h1=>?_) fun _=>rfl;subst h1)
  exact absurd ⟨rfl,rfl,rfl⟩ e0
 rfl)) only [↓zh1]
end Dm
namespace Dm
open Vbdcai
theorem cast_toNat {n:Int} (h:0≤n):((n.toNat:Nat):Int)=n:=Int.toNat_of_nonneg h
def Tgt (x:Nat):Prop:=x=0∨x=1∨(11≤x∧x≤26)
def actT:Act→Prop
 | .aim x=>Tgt x
 | .split x=>Tgt x
 | .become _ x _ _=>Tgt x
 | .also _ x _ _=>Tgt x
 | _=>True
theorem madeEv_iff {k x n z:Int}:madeEvB k x n z=true↔(0≤k∧k≤5)∧(x=0∨x=1∨(11≤x∧x≤26))∧(0≤n∧n≤1000000)∧(0≤z∧z≤3)∧¬ ((k=5∧n≠0)∨(k≠5∧z≠0)):=by
 refine zh0 ?_;simp (disch:=k_dflt (
 refine zh2 ?_
 unfold madeEvB
 by_cases hc:(!withinB k 0 5 || !isTargetB x)=true
 ·rw [if_pos hc]
  constructor
  ·intro h;cases h
  rintro ⟨h1,h2,_⟩
  rw [withinB_iff.mpr h1,isTargetB_iff.mpr h2] at hc
  cases hc
 rw [if_neg hc]
 have hc':withinB k 0 5=true∧isTargetB x=true:=by
  revert hc;cases withinB k 0 5 <;> cases isTargetB x <;> simp
 rw [withinB_iff,isTargetB_iff] at hc'
 by_cases h5:k=5
 ·rw [if_pos h5,Bool.and_eq_true,withinB_iff,decide_eq_true_iff]
  constructor
  ·rintro ⟨a,b⟩;refine ⟨hc'.1,hc'.2,?_,b,?_⟩ <;> omega
  rintro ⟨_,_,_,b,c⟩;refine ⟨?_,b⟩;omega
 rw [if_neg h5,Bool.and_eq_true,withinB_iff,decide_eq_true_iff]
 constructor
 ·rintro ⟨a,b⟩;refine ⟨hc'.1,hc'.2,a,?_,?_⟩ <;> omega
 rintro ⟨_,_,a,b,c⟩;refine ⟨a,?_⟩;omega)) only [↓zh1]
theorem mk_chain {α:Type} (g:Nat→Nat→Nat→Nat→α) (k x n z:Int) :
  ((nat? k 0 5).bind fun k=>(targetOf x).bind fun x=>(nat? n 0 big).bind fun n=>(nat? z 0 3).bind fun z=>if (k=5∧n≠0)∨(k≠5∧z≠0) then none else some (g k x n z)) =
   if madeEvB k x n z=true then some (g k.toNat x.toNat n.toNat z.toNat) else none:=by
 refine zh0 ?_;simp (disch:=k_dflt (
 refine zh2 ?_
 by_cases h:madeEvB k x n z=true
 ·rw [if_pos h]
  rw [madeEv_iff] at h
  obtain ⟨h1,h2,h3,h4,h5⟩:=h
  rw [nat?_some h1,targetOf_some h2,big_eq,nat?_some h3,nat?_some h4]
  show (if (k.toNat=5∧n.toNat≠0)∨(k.toNat≠5∧z.toNat≠0) then none else some (g k.toNat x.toNat n.toNat z.toNat))=_
  rw [if_neg (by omega)]
 rw [if_neg h]
 rw [madeEv_iff] at h
 by_cases h1:0≤k∧k≤5
 ·rw [nat?_some h1]
  by_cases h2:x=0∨x=1∨(11≤x∧x≤26)
  ·rw [targetOf_some h2,big_eq]
   by_cases h3:0≤n∧n≤1000000
   ·rw [nat?_some h3]
    by_cases h4:0≤z∧z≤3
    ·rw [nat?_some h4]
     show (if (k.toNat=5∧n.toNat≠0)∨(k.toNat≠5∧z.toNat≠0) then none else some (g k.toNat x.toNat n.toNat z.toNat))=_
     have h5:(k=5∧n≠0)∨(k≠5∧z≠0):=Classical.byContradiction fun q=>h ⟨h1,h2,h3,h4,q⟩
     rw [if_pos (by omega)]
    rw [nat?_none h4];rfl
   rw [nat?_none h3];rfl
  rw [targetOf_none h2];rfl
 rw [nat?_none h1];rfl)) only [↓zh1]
structure ActRow (r:List Int) (a:Act):Prop where
 row:r=actRow a
 kinds:actK a
 tgts:actT a
theorem toNat_tgt {x:Int} (h:x=0∨x=1∨(11≤x∧x≤26)):Tgt x.toNat∧0≤x:=by unfold Tgt;omega
theorem act_cases (f n x y z:Int):(does5 f n x y z=true∧∃ a,actOf [f,n,x,y,z]=some a∧ActRow [f,n,x,y,z] a)∨(does5 f n x y z=false∧actOf [f,n,x,y,z]=none):=by
 refine zh0 ?_;simp (disch:=k_dflt (
 refine zh2 ?_
 rw [actOf5]
 unfold does5
 by_cases e8:f=8
 ·subst e8
  rw [if_pos rfl,if_pos (.inl rfl),mk_chain]
  cases h:madeEvB n x y z with
  | false=>exact .inr ⟨rfl,rfl⟩
  | true =>
   obtain ⟨h1,h2,h3,h4,_⟩:=madeEv_iff.mp h
   refine .inl ⟨rfl,_,rfl,?_,by show n.toNat≤5;omega,(toNat_tgt h2).1⟩
   show [8,n,x,y,z]=[8,(n.toNat:Int),(x.toNat:Int),(y.toNat:Int),(z.toNat:Int)]
   rw [cast_toNat h1.1,cast_toNat (toNat_tgt h2).2,cast_toNat h3.1,cast_toNat h4.1]
 by_cases e9:f=9
 ·subst e9
  rw [if_neg e8,if_pos rfl,if_pos (.inr rfl),mk_chain]
  cases h:madeEvB n x y z with
  | false=>exact .inr ⟨rfl,rfl⟩
  | true =>
   obtain ⟨h1,h2,h3,h4,_⟩:=madeEv_iff.mp h
   refine .inl ⟨rfl,_,rfl,?_,by show n.toNat≤5;omega,(toNat_tgt h2).1⟩
   show [9,n,x,y,z]=[9,(n.toNat:Int),(x.toNat:Int),(y.toNat:Int),(z.toNat:Int)]
   rw [cast_toNat h1.1,cast_toNat (toNat_tgt h2).2,cast_toNat h3.1,cast_toNat h4.1]
 rw [if_neg e8,if_neg e9,if_neg (show ¬ (f=8∨f=9) by omega)]
 by_cases z3:x=0∧y=0∧z=0
 ·rw [if_pos z3]
  obtain ⟨rfl,rfl,rfl⟩:=z3
  have hz:zerosB [(0:Int),0,0]=true:=rfl
  have num:∀ (g:Nat→Act) (c:Int),(∀ m,actRow (g m)=[c,(m:Int),0,0,0])→(∀ m,actK (g m))→(∀ m,actT (g m))→∀ (lo hi:Int),0≤lo →
    (withinB n lo hi=true∧∃ a,(nat? n lo hi).map g=some a∧ActRow [c,n,0,0,0] a)∨(withinB n lo hi=false∧(nat? n lo hi).map g=none):=fun g c h1 h2 h3 lo hi hlo=>by
   by_cases h:lo≤n∧n≤hi
   ·refine .inl ⟨withinB_iff.mpr h,_,by rw [nat?_some h];rfl,?_,h2 _,h3 _⟩
    rw [h1,cast_toNat (by omega)]
   refine .inr ⟨?_,by rw [nat?_none h];rfl⟩
   cases q:withinB n lo hi with
   | false=>rfl
   | true=>exact absurd (withinB_iff.mp q) h
  have tgt:∀ (g:Nat→Act) (c:Int),(∀ m,actRow (g m)=[c,(m:Int),0,0,0])→(∀ m,actK (g m))→(∀ m,Tgt m→actT (g m)) →
    (isTargetB n=true∧∃ a,(targetOf n).map g=some a∧ActRow [c,n,0,0,0] a)∨(isTargetB n=false∧(targetOf n).map g=none):=fun g c h1 h2 h3=>by
   by_cases h:n=0∨n=1∨(11≤n∧n≤26)
   ·refine .inl ⟨isTargetB_iff.mpr h,_,by rw [targetOf_some h];rfl,?_,h2 _,h3 _ (toNat_tgt h).1⟩
    rw [h1,cast_toNat (toNat_tgt h).2]
   refine .inr ⟨?_,by rw [targetOf_none h];rfl⟩
   cases q:isTargetB n with
   | false=>rfl
   | true=>exact absurd (isTargetB_iff.mp q) h
  have nul:∀ (a:Act) (c:Int),actRow a=[c,0,0,0,0]→actK a→actT a →
    (zerosB [n,0,0,0]=true∧∃ b,(if n=0 then some a else none)=some b∧ActRow [c,n,0,0,0] b)∨(zerosB [n,0,0,0]=false∧(if n=0 then some a else none)=none):=fun a c h1 h2 h3=>by
   by_cases h:n=0
   ·subst h;exact .inl ⟨rfl,a,rfl,h1.symm,h2,h3⟩
   refine .inr ⟨?_,if_neg h⟩
   cases q:zerosB [n,0,0,0] with
   | false=>rfl
   | true=>exact absurd (zeros4_iff.mp q).1 h
  have and1:∀ b:Bool,(b && zerosB [(0:Int),0,0])=b:=fun b=>by rw [hz,Bool.and_true]
  by_cases q:f=0
  ·subst q;simp only [and1];exact num .less 0 (fun _=>rfl) (fun _=>trivial) (fun _=>trivial) 0 big (by decide)
  by_cases q1:f=1
  ·subst q1;simp only [and1];exact num .more 1 (fun _=>rfl) (fun _=>trivial) (fun _=>trivial) 0 big (by decide)
  by_cases q2:f=2
  ·subst q2;exact nul .twice 2 rfl trivial trivial
  by_cases q3:f=3
  ·subst q3;exact nul .half 3 rfl trivial trivial
  by_cases q4:f=4
  ·subst q4;exact nul .none 4 rfl trivial trivial
  by_cases q5:f=5
  ·subst q5;simp only [and1];exact num .shield 5 (fun _=>rfl) (fun _=>trivial) (fun _=>trivial) 0 big (by decide)
  by_cases q6:f=6
  ·subst q6;simp only [and1];exact tgt .aim 6 (fun _=>rfl) (fun _=>trivial) (fun _ h=>h)
  by_cases q7:f=7
  ·subst q7;simp only [and1];exact tgt .split 7 (fun _=>rfl) (fun _=>trivial) (fun _ h=>h)
  rw [if_neg (show ¬ (f=2∨f=3∨f=4) by omega),if_neg (show ¬ (f=0∨f=1∨f=5) by omega),if_neg (show ¬ (f=6∨f=7) by omega),if_neg q,if_neg q1,if_neg q2,if_neg q3,if_neg q4,if_neg q5,if_neg q6,if_neg q7]
  by_cases q10:f=10
  ·subst q10;simp only [and1];exact num .place 10 (fun _=>rfl) (fun _=>trivial) (fun _=>trivial) 0 3 (by decide)
  rw [if_neg q10,decide_eq_false q10];exact .inr ⟨rfl,rfl⟩
 rw [if_neg z3]
 refine .inr ⟨?_,rfl⟩
 have h3:zerosB [x,y,z]=false:=by
  cases q:zerosB [x,y,z] with
  | false=>rfl
  | true=>exact absurd (zeros3_iff.mp q) z3
 have h4:zerosB [n,x,y,z]=false:=by
  cases q:zerosB [n,x,y,z] with
  | false=>rfl
  | true=>exact absurd (zeros4_iff.mp q).2 z3
 simp [h3,h4])) only [↓zh1]
theorem act_true {r:List Int} (h:doesB r=true):∃ a,actOf r=some a∧ActRow r a:=by
 unfold doesB at h
 split at h
 ·next f n x y z =>
  rcases act_cases f n x y z with ⟨_,q⟩ | ⟨q,_⟩
  ·exact q
  rw [q] at h;cases h
 cases h
theorem act_false {r:List Int} (h:doesB r=false):actOf r=none:=by
 refine zh0 ?_;simp (disch:=k_dflt (
 refine zh2 ?_
 unfold doesB at h
 split at h
 ·next f n x y z =>
  rcases act_cases f n x y z with ⟨q,_⟩ | ⟨_,q⟩
  ·rw [q] at h;cases h
  exact q
 next hne =>
 rcases r with _ | ⟨f,t⟩
 ·rfl
 delta actOf actOf.match_1
 refine dite_same (fun h=>?_) fun _=>?_
 ·subst h;rcases t with _ | ⟨a,_ | ⟨b,_ | ⟨c,_ | ⟨d,_ | ⟨e,t⟩⟩⟩⟩⟩ <;> first | exact absurd rfl (hne _ _ _ _ _) | rfl | ((repeat (refine dite_same (fun h1=>?_) fun _=>rfl;subst h1));rfl)
 refine dite_same (fun h=>?_) fun _=>?_
 ·subst h;rcases t with _ | ⟨a,_ | ⟨b,_ | ⟨c,_ | ⟨d,_ | ⟨e,t⟩⟩⟩⟩⟩ <;> first | exact absurd rfl (hne _ _ _ _ _) | rfl | ((repeat (refine dite_same (fun h1=>?_) fun _=>rfl;subst h1));rfl)
 refine dite_same (fun h=>?_) fun _=>?_
 ·subst h;rcases t with _ | ⟨a,_ | ⟨b,_ | ⟨c,_ | ⟨d,_ | ⟨e,t⟩⟩⟩⟩⟩ <;> first | exact absurd rfl (hne _ _ _ _ _) | rfl | ((repeat (refine dite_same (fun h1=>?_) fun _=>rfl;subst h1));rfl)
 refine dite_same (fun h=>?_) fun _=>?_
 ·subst h;rcases t with _ | ⟨a,_ | ⟨b,_ | ⟨c,_ | ⟨d,_ | ⟨e,t⟩⟩⟩⟩⟩ <;> first | exact absurd rfl (hne _ _ _ _ _) | rfl | ((repeat (refine dite_same (fun h1=>?_) fun _=>rfl;subst h1));rfl)
 refine dite_same (fun h=>?_) fun _=>?_
 ·subst h;rcases t with _ | ⟨a,_ | ⟨b,_ | ⟨c,_ | ⟨d,_ | ⟨e,t⟩⟩⟩⟩⟩ <;> first | exact absurd rfl (hne _ _ _ _ _) | rfl | ((repeat (refine dite_same (fun h1=>?_) fun _=>rfl;subst h1));rfl)
 refine dite_same (fun h=>?_) fun _=>?_
 ·subst h;rcases t with _ | ⟨a,_ | ⟨b,_ | ⟨c,_ | ⟨d,_ | ⟨e,t⟩⟩⟩⟩⟩ <;> first | exact absurd rfl (hne _ _ _ _ _) | rfl | ((repeat (refine dite_same (fun h1=>?_) fun _=>rfl;subst h1));rfl)
 refine dite_same (fun h=>?_) fun _=>?_
 ·subst h;rcases t with _ | ⟨a,_ | ⟨b,_ | ⟨c,_ | ⟨d,_ | ⟨e,t⟩⟩⟩⟩⟩ <;> first | exact absurd rfl (hne _ _ _ _ _) | rfl | ((repeat (refine dite_same (fun h1=>?_) fun _=>rfl;subst h1));rfl)
 refine dite_same (fun h=>?_) fun _=>?_
 ·subst h;rcases t with _ | ⟨a,_ | ⟨b,_ | ⟨c,_ | ⟨d,_ | ⟨e,t⟩⟩⟩⟩⟩ <;> first | exact absurd rfl (hne _ _ _ _ _) | rfl | ((repeat (refine dite_same (fun h1=>?_) fun _=>rfl;subst h1));rfl)
 refine dite_same (fun h=>?_) fun _=>?_
 ·subst h;rcases t with _ | ⟨a,_ | ⟨b,_ | ⟨c,_ | ⟨d,_ | ⟨e,t⟩⟩⟩⟩⟩ <;> first | exact absurd rfl (hne _ _ _ _ _) | rfl | ((repeat (refine dite_same (fun h1=>?_) fun _=>rfl;subst h1));rfl)
 refine dite_same (fun h=>?_) fun _=>?_
 ·subst h;rcases t with _ | ⟨a,_ | ⟨b,_ | ⟨c,_ | ⟨d,_ | ⟨e,t⟩⟩⟩⟩⟩ <;> first | exact absurd rfl (hne _ _ _ _ _) | rfl | ((repeat (refine dite_same (fun h1=>?_) fun _=>rfl;subst h1));rfl)
 refine dite_same (fun h=>?_) fun _=>?_
 ·subst h;rcases t with _ | ⟨a,_ | ⟨b,_ | ⟨c,_ | ⟨d,_ | ⟨e,t⟩⟩⟩⟩⟩ <;> first | exact absurd rfl (hne _ _ _ _ _) | rfl | ((repeat (refine dite_same (fun h1=>?_) fun _=>rfl;subst h1));rfl)
 rfl)) only [↓zh1]
def evB5 (k s x n z:Int):Bool:=if (!withinB k 0 5)=true then false else if (!withinB s 0 16 || !isTargetB x)=true then false else if k=5 then decide (n=1) && withinB z 0 3 else withinB n 0 1000000 && decide (z=0)
def evB:List Int→Bool
 | [k,s,x,n,z]=>evB5 k s x n z
 | _=>false
structure EvRow (r:List Int) (v:Event):Prop where
 row:r=[(v.kind:Int),(v.source:Int),(v.target:Int),(v.amount:Int),(v.place:Int)]
 used:v.used=[]
 kind:v.kind≤5
 tgt:Tgt v.target
 src:v.source≤16
theorem ev_iff {k s x n z:Int}:evB5 k s x n z=true↔(0≤k∧k≤5)∧(0≤s∧s≤16)∧(x=0∨x=1∨(11≤x∧x≤26))∧(0≤n∧n≤1000000)∧(0≤z∧z≤3)∧¬ ((k=5∧n≠1)∨(k≠5∧z≠0)):=by
 refine zh0 ?_;simp (disch:=k_dflt (
 refine zh2 ?_
 unfold evB5
 cases h1:withinB k 0 5 with
 | false =>
  simp only [Bool.not_false,if_true,Bool.false_eq_true,false_iff]
  rintro ⟨q,_⟩
  rw [withinB_iff.mpr q] at h1;cases h1
 | true =>
  have h1':=withinB_iff.mp h1
  simp only [Bool.not_true,Bool.false_eq_true,if_false]
  by_cases hc:(!withinB s 0 16 || !isTargetB x)=true
  ·rw [if_pos hc]
   constructor
   ·intro h;cases h
   rintro ⟨_,h1,h2,_⟩
   rw [withinB_iff.mpr h1,isTargetB_iff.mpr h2] at hc
   cases hc
  rw [if_neg hc]
  have hc':withinB s 0 16=true∧isTargetB x=true:=by
   revert hc;cases withinB s 0 16 <;> cases isTargetB x <;> simp
  rw [withinB_iff,isTargetB_iff] at hc'
  by_cases h5:k=5
  ·rw [if_pos h5,Bool.and_eq_true,withinB_iff,decide_eq_true_iff]
   constructor
   ·rintro ⟨a,b⟩;refine ⟨h1',hc'.1,hc'.2,?_,b,?_⟩ <;> omega
   rintro ⟨_,_,_,_,b,c⟩;refine ⟨?_,b⟩;omega
  rw [if_neg h5,Bool.and_eq_true,withinB_iff,decide_eq_true_iff]
  constructor
  ·rintro ⟨a,b⟩;refine ⟨h1',hc'.1,hc'.2,a,?_,?_⟩ <;> omega
  rintro ⟨_,_,_,a,b,c⟩;refine ⟨a,?_⟩;omega)) only [↓zh1]
theorem ev_true {r:List Int} (h:evB r=true):∃ v,eventOf r=some v∧EvRow r v:=by
 refine zh0 ?_;simp (disch:=k_dflt (
 refine zh2 ?_
 unfold evB at h
 split at h
 ·next k s x n z =>
  obtain ⟨h1,h2,h3,h4,h5,h6⟩:=ev_iff.mp h
  refine ⟨{ kind:=k.toNat,source:=s.toNat,target:=x.toNat,amount:=n.toNat,place:=z.toNat },?_,?_,rfl,by show k.toNat≤5;omega,(toNat_tgt h3).1,by show s.toNat≤16;omega⟩
  ·show ((nat? k 0 5).bind fun k=>(nat? s 0 16).bind fun s=>(targetOf x).bind fun x=>(nat? n 0 big).bind fun n=>(nat? z 0 3).bind fun z=>if (k=5∧n≠1)∨(k≠5∧z≠0) then none else some ({ kind:=k,source:=s,target:=x,amount:=n,place:=z }:Event))=_
   rw [nat?_some h1,nat?_some h2,targetOf_some h3,big_eq,nat?_some h4,nat?_some h5]
   show (if (k.toNat=5∧n.toNat≠1)∨(k.toNat≠5∧z.toNat≠0) then none else some ({ kind:=k.toNat,source:=s.toNat,target:=x.toNat,amount:=n.toNat,place:=z.toNat }:Event))=_
   rw [if_neg (by omega)]
  show [k,s,x,n,z]=[(k.toNat:Int),(s.toNat:Int),(x.toNat:Int),(n.toNat:Int),(z.toNat:Int)]
  rw [cast_toNat h1.1,cast_toNat h2.1,cast_toNat (toNat_tgt h3).2,cast_toNat h4.1,cast_toNat h5.1]
 cases h)) only [↓zh1]
theorem ev_false {r:List Int} (h:evB r=false):eventOf r=none:=by
 refine zh0 ?_;simp (disch:=k_dflt (
 refine zh2 ?_
 unfold evB at h
 split at h
 ·next k s x n z =>
  have hn:¬ evB5 k s x n z=true:=by rw [h];exact Bool.false_ne_true
  rw [ev_iff] at hn
  show ((nat? k 0 5).bind fun k=>(nat? s 0 16).bind fun s=>(targetOf x).bind fun x=>(nat? n 0 big).bind fun n=>(nat? z 0 3).bind fun z=>if (k=5∧n≠1)∨(k≠5∧z≠0) then none else some ({ kind:=k,source:=s,target:=x,amount:=n,place:=z }:Event))=_
  by_cases h1:0≤k∧k≤5
  ·rw [nat?_some h1]
   by_cases h2:0≤s∧s≤16
   ·rw [nat?_some h2]
    by_cases h3:x=0∨x=1∨(11≤x∧x≤26)
    ·rw [targetOf_some h3,big_eq]
     by_cases h4:0≤n∧n≤1000000
     ·rw [nat?_some h4]
      by_cases h5:0≤z∧z≤3
      ·rw [nat?_some h5]
       show (if (k.toNat=5∧n.toNat≠1)∨(k.toNat≠5∧z.toNat≠0) then none else some ({ kind:=k.toNat,source:=s.toNat,target:=x.toNat,amount:=n.toNat,place:=z.toNat }:Event))=_
       have h6:(k=5∧n≠1)∨(k≠5∧z≠0):=Classical.byContradiction fun q=>hn ⟨h1,h2,h3,h4,h5,q⟩
       rw [if_pos (by omega)]
      rw [nat?_none h5];rfl
     rw [nat?_none h4];rfl
    rw [targetOf_none h3];rfl
   rw [nat?_none h2];rfl
  rw [nat?_none h1];rfl
 next hne =>
 unfold eventOf
 split <;> first | rfl | exact absurd rfl (hne _ _ _ _ _))) only [↓zh1]
end Dm
namespace Dm
open Vbdcai
def rngB (ns:List Int) (rs:List (Int × Int)):Bool:=decide (ns.length=rs.length) && (ns.zip rs).all fun p=>withinB p.1 p.2.1 p.2.2
def thingsB (r:List Int):Bool:=decide (r.length≤16) && r.all fun n=>withinB n 1 16
def thRs:List (Int × Int):=[(0,1),(0,3)]
def effRs:List (Int × Int):=[(0,1),(0,16),(0,5),(0,2),(0,2),(0,1),(0,1),(0,1000000)]
def castL (l:List Nat):List Int:=l.map fun (n:Nat)=>(n:Int)
theorem mapM_nat:∀ (l:List Int) (lo hi:Int),0≤lo→((l.all fun n=>withinB n lo hi)=true∧∃ ns,l.mapM (fun n=>nat? n lo hi)=some ns∧l=castL ns∧∀ n∈ns,lo≤(n:Int)∧(n:Int)≤hi)∨((l.all fun n=>withinB n lo hi)=false∧l.mapM (fun n=>nat? n lo hi)=none)
 | [],lo,hi,_=>.inl ⟨rfl,[],rfl,rfl,fun _ h=>by cases h⟩
 | x :: l,lo,hi,h0=>by
  rw [List.mapM_cons,List.all_cons]
  by_cases hx:lo≤x∧x≤hi
  ·rw [nat?_some hx,withinB_iff.mpr hx]
   rcases mapM_nat l lo hi h0 with ⟨h1,ns,h2,h3,h4⟩ | ⟨h1,h2⟩
   ·refine .inl ⟨by rw [h1];rfl,x.toNat :: ns,by rw [h2];rfl,?_,fun n hn=>?_⟩
    ·show x :: l=((x.toNat:Nat):Int) :: castL ns
     rw [cast_toNat (by omega),h3]
    rcases List.mem_cons.mp hn with rfl | hn
    ·omega
    exact h4 n hn
   exact .inr ⟨by rw [h1];rfl,by rw [h2];rfl⟩
  have hw:withinB x lo hi=false:=by
   cases q:withinB x lo hi with
   | false=>rfl
   | true=>exact absurd (withinB_iff.mp q) hx
  exact .inr ⟨by rw [hw];rfl,by rw [nat?_none hx];rfl⟩
theorem nats_cases (r:List Int):(thingsB r=true∧∃ ns,nats r 1 16 16=some ns∧r=castL ns∧∀ n∈ns,1≤n∧n≤16)∨(thingsB r=false∧nats r 1 16 16=none):=by
 refine zh0 ?_;simp (disch:=k_dflt (
 refine zh2 ?_
 unfold thingsB nats
 by_cases h:r.length≤16
 ·rw [if_pos h,decide_eq_true h,Bool.true_and]
  rcases mapM_nat r 1 16 (by decide) with ⟨h1,ns,h2,h3,h4⟩ | ⟨h1,h2⟩
  ·exact .inl ⟨h1,ns,h2,h3,fun n hn=>by have:=h4 n hn;omega⟩
  exact .inr ⟨h1,h2⟩
 rw [if_neg h,decide_eq_false h]
 exact .inr ⟨rfl,rfl⟩)) only [↓zh1]
def b2z (b:Bool):Int:=if b=true then 1 else 0
structure EffRow (l ts ss a:List Int) (e:Effect):Prop where
 id:e.id=0
 row:l=[(e.side:Int),(e.source:Int),(e.kind:Int),(e.aim:Int),(e.whose:Int),b2z e.own,b2z e.may,(e.uses:Int)]
 ts:ts=castL e.things
 ss:ss=castL e.sources
 act:ActRow a e.act
 side:e.side≤1
 src:e.source≤16
 kind:e.kind≤5
 aim:e.aim≤2
 whose:e.whose≤2
def effB (l:List Int) (rows:List (List Int)):Bool:=rngB l effRs && match rows with
 | [ts,ss,a]=>thingsB ts && (thingsB ss && doesB a)
 | _=>false
theorem rng8_iff {l:List Int}:rngB l effRs=true↔∃ p s k a w o m u,l=[p,s,k,a,w,o,m,u]∧(0≤p∧p≤1)∧(0≤s∧s≤16)∧(0≤k∧k≤5)∧(0≤a∧a≤2)∧(0≤w∧w≤2)∧(0≤o∧o≤1)∧(0≤m∧m≤1)∧(0≤u∧u≤1000000):=by
 refine zh0 ?_;simp (disch:=k_dflt (
 refine zh2 ?_
 constructor
 ·intro h
  unfold rngB at h
  rw [Bool.and_eq_true,decide_eq_true_iff] at h
  obtain ⟨hl,h⟩:=h
  match l,hl with
  | [p,s,k,a,w,o,m,u],_ =>
   simp only [effRs,List.zip_cons_cons,List.zip_nil_right,List.all_cons,List.all_nil,Bool.and_true,Bool.and_eq_true,withinB_iff] at h
   exact ⟨p,s,k,a,w,o,m,u,rfl,h.1,h.2.1,h.2.2.1,h.2.2.2.1,h.2.2.2.2.1,h.2.2.2.2.2.1,h.2.2.2.2.2.2.1,h.2.2.2.2.2.2.2⟩
 rintro ⟨p,s,k,a,w,o,m,u,rfl,h1,h2,h3,h4,h5,h6,h7,h8⟩
 unfold rngB
 simp only [effRs,List.zip_cons_cons,List.zip_nil_right,List.all_cons,List.all_nil,Bool.and_true,Bool.and_eq_true,withinB_iff]
 exact ⟨rfl,h1,h2,h3,h4,h5,h6,h7,h8⟩)) only [↓zh1]
theorem rng2_iff {l:List Int}:rngB l thRs=true↔∃ p z,l=[p,z]∧(0≤p∧p≤1)∧(0≤z∧z≤3):=by
 refine zh0 ?_;simp (disch:=k_dflt (
 refine zh2 ?_
 constructor
 ·intro h
  unfold rngB at h
  rw [Bool.and_eq_true,decide_eq_true_iff] at h
  obtain ⟨hl,h⟩:=h
  match l,hl with
  | [p,s],_ =>
   simp only [thRs,List.zip_cons_cons,List.zip_nil_right,List.all_cons,List.all_nil,Bool.and_true,Bool.and_eq_true,withinB_iff] at h
   exact ⟨p,s,rfl,h.1,h.2⟩
 rintro ⟨p,s,rfl,h1,h2⟩
 unfold rngB
 simp only [thRs,List.zip_cons_cons,List.zip_nil_right,List.all_cons,List.all_nil,Bool.and_true,Bool.and_eq_true,withinB_iff]
 exact ⟨rfl,h1,h2⟩)) only [↓zh1]
theorem b2z_of {o:Int} (h:0≤o∧o≤1):b2z (o.toNat == 1)=o:=by
 rcases (show o=0∨o=1 by omega) with rfl | rfl <;> rfl
theorem eff_true {l ts ss a:List Int} (h:effB l [ts,ss,a]=true):∃ e,effectOf l ts ss a=some e∧EffRow l ts ss a e:=by
 refine zh0 ?_;simp (disch:=k_dflt (
 refine zh2 ?_
 unfold effB at h
 simp only [Bool.and_eq_true] at h
 obtain ⟨h1,h2,h3,h4⟩:=h
 obtain ⟨p,s,k,ai,w,o,m,u,rfl,hp,hs,hk,ha,hw,ho,hm,hu⟩:=rng8_iff.mp h1
 rcases nats_cases ts with ⟨_,ns,n1,n2,n3⟩ | ⟨q,_⟩
 ·rcases nats_cases ss with ⟨_,ms,m1,m2,m3⟩ | ⟨q,_⟩
  ·obtain ⟨act,a1,a2⟩:=act_true h4
   refine ⟨{ side:=p.toNat,source:=s.toNat,kind:=k.toNat,aim:=ai.toNat,whose:=w.toNat,things:=ns,sources:=ms,own:=o.toNat == 1,may:=m.toNat == 1,uses:=u.toNat,act:=act },?_,?_⟩
   ·show ((nat? p 0 1).bind fun p=>(nat? s 0 16).bind fun src=>(nat? k 0 5).bind fun k=>(nat? ai 0 2).bind fun aim=>(nat? w 0 2).bind fun wh=>(nat? o 0 1).bind fun own=>(nat? m 0 1).bind fun may=>(nat? u 0 big).bind fun uses =>
     (nats ts 1 16 16).bind fun ts=>(nats ss 1 16 16).bind fun ss=>(actOf a).map fun a=>({ side:=p,source:=src,kind:=k,aim:=aim,whose:=wh,things:=ts,sources:=ss,own:=own == 1,may:=may == 1,uses:=uses,act:=a }:Effect))=_
    rw [nat?_some hp,nat?_some hs,nat?_some hk,nat?_some ha,nat?_some hw,nat?_some ho,nat?_some hm,big_eq,nat?_some hu,n1,m1,a1]
    rfl
   refine ⟨rfl,?_,n2,m2,a2,by show p.toNat≤1;omega,by show s.toNat≤16;omega,by show k.toNat≤5;omega,by show ai.toNat≤2;omega,by show w.toNat≤2;omega⟩
   show [p,s,k,ai,w,o,m,u]=[(p.toNat:Int),(s.toNat:Int),(k.toNat:Int),(ai.toNat:Int),(w.toNat:Int),b2z (o.toNat == 1),b2z (m.toNat == 1),(u.toNat:Int)]
   rw [cast_toNat hp.1,cast_toNat hs.1,cast_toNat hk.1,cast_toNat ha.1,cast_toNat hw.1,b2z_of ho,b2z_of hm,cast_toNat hu.1]
  rw [q] at h3;cases h3
 rw [q] at h2;cases h2)) only [↓zh1]
theorem eff_false {l ts ss a:List Int} (h:effB l [ts,ss,a]=false):effectOf l ts ss a=none:=by
 refine zh0 ?_;simp (disch:=k_dflt (
 refine zh2 ?_
 unfold effectOf
 split
 ·next p s k ai w o m u =>
  have hn:¬ effB [p,s,k,ai,w,o,m,u] [ts,ss,a]=true:=by rw [h];exact Bool.false_ne_true
  unfold effB at hn
  simp only [Bool.and_eq_true] at hn
  by_cases hp:0≤p∧p≤1
  ·rw [nat?_some hp]
   by_cases hs:0≤s∧s≤16
   ·rw [nat?_some hs]
    by_cases hk:0≤k∧k≤5
    ·rw [nat?_some hk]
     by_cases ha:0≤ai∧ai≤2
     ·rw [nat?_some ha]
      by_cases hw:0≤w∧w≤2
      ·rw [nat?_some hw]
       by_cases ho:0≤o∧o≤1
       ·rw [nat?_some ho]
        by_cases hm:0≤m∧m≤1
        ·rw [nat?_some hm,big_eq]
         by_cases hu:0≤u∧u≤1000000
         ·rw [nat?_some hu]
          have h1:rngB [p,s,k,ai,w,o,m,u] effRs=true:=rng8_iff.mpr ⟨p,s,k,ai,w,o,m,u,rfl,hp,hs,hk,ha,hw,ho,hm,hu⟩
          rcases nats_cases ts with ⟨t1,ns,n1,_⟩ | ⟨_,n1⟩
          ·rcases nats_cases ss with ⟨t2,ms,m1,_⟩ | ⟨_,m1⟩
           ·have h4:doesB a=false:=by
             cases q:doesB a with
             | false=>rfl
             | true=>exact absurd ⟨h1,t1,t2,q⟩ hn
            rw [n1,m1,act_false h4];rfl
           rw [n1,m1];rfl
          rw [n1];rfl
         rw [nat?_none hu];rfl
        rw [nat?_none hm];rfl
       rw [nat?_none ho];rfl
      rw [nat?_none hw];rfl
     rw [nat?_none ha];rfl
    rw [nat?_none hk];rfl
   rw [nat?_none hs];rfl
  rw [nat?_none hp];rfl
 rfl)) only [↓zh1]
theorem evs_cases:∀ (rows:List (List Int)),((rows.all evB)=true∧∃ vs,rows.mapM eventOf=some vs∧rows.length=vs.length∧∀ (i:Nat) (r:List Int) (v:Event),rows[i]?=some r→vs[i]?=some v→EvRow r v)∨((rows.all evB)=false∧rows.mapM eventOf=none)
 | []=>.inl ⟨rfl,[],rfl,rfl,fun i r v h=>by simp at h⟩
 | r :: rows=>by
  rw [List.mapM_cons,List.all_cons]
  cases hb:evB r with
  | true =>
   obtain ⟨v,e1,e2⟩:=ev_true hb
   rw [e1]
   rcases evs_cases rows with ⟨h1,vs,h2,h3,h4⟩ | ⟨h1,h2⟩
   ·refine .inl ⟨by rw [h1];rfl,v :: vs,by rw [h2];rfl,by rw [List.length_cons,List.length_cons,h3],fun i r' v' hr hv=>?_⟩
    cases i with
    | zero =>
     simp at hr hv
     subst hr hv
     exact e2
    | succ i=>exact h4 i r' v' (by simpa using hr) (by simpa using hv)
   exact .inr ⟨by rw [h1];rfl,by rw [h2];rfl⟩
  | false=>exact .inr ⟨rfl,by rw [ev_false hb];rfl⟩
def at0 (args:List Int) (rows:List (List Int)):Call:=(match args,rows with
  | [p,z],[]=>orBad ((nat? p 0 1).bind fun p=>(nat? z 0 3).map fun z=>.thing p z)
  | _,_=>.bad)
def at1 (args:List Int) (rows:List (List Int)):Call:=(match rows with
  | [ts,ss,a]=>orBad ((effectOf args ts ss a).map .effect)
  | _=>.bad)
def at2 (args:List Int) (rows:List (List Int)):Call:=(match args,rows with
  | [n],[]=>.halt_ n
  | _,_=>.bad)
def at3 (args:List Int) (rows:List (List Int)):Call:=(match args with
  | []=>orBad ((rows.mapM eventOf).map .batch)
  | _=>.bad)
def at4 (args:List Int) (rows:List (List Int)):Call:=(match args,rows with
  | [p,n],[]=>.choose p n
  | _,_=>.bad)
def at5 (args:List Int) (rows:List (List Int)):Call:=(match args,rows with
  | [p,n],[]=>.decline p n
  | _,_=>.bad)
def at6 (args:List Int) (rows:List (List Int)):Call:=(match args,rows with
  | [],[]=>.rest
  | _,_=>.bad)
def at7 (args:List Int) (rows:List (List Int)):Call:=(match args,rows with
  | [],[]=>.undo
  | _,_=>.bad)
def at8 (args:List Int) (rows:List (List Int)):Call:=(match args,rows with
  | [],[]=>.ask
  | _,_=>.bad)
def at9 (args:List Int) (rows:List (List Int)):Call:=(match args,rows with
  | [p],[]=>.side p
  | _,_=>.bad)
def at10 (args:List Int) (rows:List (List Int)):Call:=(match args,rows with
  | [t],[]=>.look t
  | _,_=>.bad)
def at11 (args:List Int) (rows:List (List Int)):Call:=(match args,rows with
  | [],[]=>.effects
  | _,_=>.bad)
def at12 (args:List Int) (rows:List (List Int)):Call:=(match args,rows with
  | [k],[]=>.book k
  | _,_=>.bad)
def at13 (args:List Int) (rows:List (List Int)):Call:=(match args,rows with
  | [],[]=>.left
  | _,_=>.bad)
def at14 (args:List Int) (rows:List (List Int)):Call:=(match args,rows with
  | [t,p],[]=>.own t p
  | _,_=>.bad)
def callAt (num:Int) (args:List Int) (rows:List (List Int)):Call :=
 if num=0 then at0 args rows
 else if num=1 then at1 args rows
 else if num=2 then at2 args rows
 else if num=3 then at3 args rows
 else if num=4 then at4 args rows
 else if num=5 then at5 args rows
 else if num=6 then at6 args rows
 else if num=7 then at7 args rows
 else if num=8 then at8 args rows
 else if num=9 then at9 args rows
 else if num=10 then at10 args rows
 else if num=11 then at11 args rows
 else if num=12 then at12 args rows
 else if num=13 then at13 args rows
 else if num=14 then at14 args rows
 else .bad
theorem call_at (num:Int) (args:List Int) (rows:List (List Int)):orBad (shaped ((num :: args) :: rows))=callAt num args rows:=by
 refine zh0 ?_;simp (disch:=k_dflt (
 refine zh2 ?_
 by_cases q0:num=0
 ·subst q0;rcases args with _ | ⟨a,_ | ⟨b,_ | ⟨c,t⟩⟩⟩ <;> rcases rows with _ | ⟨r,s⟩ <;> rfl
 by_cases q1:num=1
 ·subst q1;rcases rows with _ | ⟨a,_ | ⟨b,_ | ⟨c,_ | ⟨d,t⟩⟩⟩⟩ <;> rfl
 by_cases q2:num=2
 ·subst q2;rcases args with _ | ⟨a,_ | ⟨b,t⟩⟩ <;> rcases rows with _ | ⟨r,s⟩ <;> rfl
 by_cases q3:num=3
 ·subst q3;rcases args with _ | ⟨a,t⟩ <;> rfl
 by_cases q4:num=4
 ·subst q4;rcases args with _ | ⟨a,_ | ⟨b,_ | ⟨c,t⟩⟩⟩ <;> rcases rows with _ | ⟨r,s⟩ <;> rfl
 by_cases q5:num=5
 ·subst q5;rcases args with _ | ⟨a,_ | ⟨b,_ | ⟨c,t⟩⟩⟩ <;> rcases rows with _ | ⟨r,s⟩ <;> rfl
 by_cases q6:num=6
 ·subst q6;rcases args with _ | ⟨a,t⟩ <;> rcases rows with _ | ⟨r,s⟩ <;> rfl
 by_cases q7:num=7
 ·subst q7;rcases args with _ | ⟨a,t⟩ <;> rcases rows with _ | ⟨r,s⟩ <;> rfl
 by_cases q8:num=8
 ·subst q8;rcases args with _ | ⟨a,t⟩ <;> rcases rows with _ | ⟨r,s⟩ <;> rfl
 by_cases q9:num=9
 ·subst q9;rcases args with _ | ⟨a,_ | ⟨b,t⟩⟩ <;> rcases rows with _ | ⟨r,s⟩ <;> rfl
 by_cases q10:num=10
 ·subst q10;rcases args with _ | ⟨a,_ | ⟨b,t⟩⟩ <;> rcases rows with _ | ⟨r,s⟩ <;> rfl
 by_cases q11:num=11
 ·subst q11;rcases args with _ | ⟨a,t⟩ <;> rcases rows with _ | ⟨r,s⟩ <;> rfl
 by_cases q12:num=12
 ·subst q12;rcases args with _ | ⟨a,_ | ⟨b,t⟩⟩ <;> rcases rows with _ | ⟨r,s⟩ <;> rfl
 by_cases q13:num=13
 ·subst q13;rcases args with _ | ⟨a,t⟩ <;> rcases rows with _ | ⟨r,s⟩ <;> rfl
 by_cases q14:num=14
 ·subst q14;rcases args with _ | ⟨a,_ | ⟨b,_ | ⟨c,t⟩⟩⟩ <;> rcases rows with _ | ⟨r,s⟩ <;> rfl
 have e:shaped ((num :: args) :: rows)=none:=by
  delta shaped shaped.match_1
  refine dite_same (fun h=>absurd h q0) fun _=>?_
  refine dite_same (fun h=>absurd h q1) fun _=>?_
  refine dite_same (fun h=>absurd h q2) fun _=>?_
  refine dite_same (fun h=>absurd h q3) fun _=>?_
  refine dite_same (fun h=>absurd h q4) fun _=>?_
  refine dite_same (fun h=>absurd h q5) fun _=>?_
  refine dite_same (fun h=>absurd h q6) fun _=>?_
  refine dite_same (fun h=>absurd h q7) fun _=>?_
  refine dite_same (fun h=>absurd h q8) fun _=>?_
  refine dite_same (fun h=>absurd h q9) fun _=>?_
  refine dite_same (fun h=>absurd h q10) fun _=>?_
  refine dite_same (fun h=>absurd h q11) fun _=>?_
  refine dite_same (fun h=>absurd h q12) fun _=>?_
  refine dite_same (fun h=>absurd h q13) fun _=>?_
  exact dite_same (fun h=>absurd h q14) fun _=>rfl
 rw [e]
 unfold callAt
 rw [if_neg q0,if_neg q1,if_neg q2,if_neg q3,if_neg q4,if_neg q5,if_neg q6,if_neg q7,if_neg q8,if_neg q9,if_neg q10,if_neg q11,if_neg q12,if_neg q13,if_neg q14]
 rfl)) only [↓zh1]
end Dm
namespace Dm
open Vbdcai
def setAmt (w:World) (v:Event) (r:List Event) (n:Nat):World :=
 { note w v.kind (fun b=>if n < v.amount then { b with cut:=b.cut + (v.amount - n) } else { b with added:=b.added + (n - v.amount) }) with todo:={ v with amount:=n } :: r }
def restOf (e:Effect) (a:Nat):Act:=match e.act with
 | .shield r=>.shield (r - a)
 | x=>x
def setAct (es:List Effect) (i:Nat) (a:Act):List Effect:=es.map fun x=>if x.id=i then { x with act:=a } else x
def marked (e:Effect) (v:Event):Event:={ v with used:=e.id :: v.used }
def deedW (w:World) (e:Effect) (v:Event) (r:List Event):World:={ useOn w e v r with effects:=setAct w.effects e.id (restOf e v.amount) }
def wearW (w:World) (e:Effect):World:={ w with effects:=if e.act=.shield 0∨e.uses=1 then w.effects.filter (fun x=>x.id != e.id) else w.effects.map fun x=>if x.id=e.id then { x with uses:=x.uses - 1 } else x }
theorem eq_of_id {es:List Effect} (h:(es.map (·.id)).Nodup) {x y:Effect} (hx:x∈es) (hy:y∈es) (e:x.id=y.id):x=y:=by
 refine zh0 ?_;simp (disch:=k_dflt (
 refine zh2 ?_
 induction es with
 | nil=>cases hx
 | cons z es ih =>
  rw [List.map_cons,List.nodup_cons] at h
  rcases List.mem_cons.mp hx with h1 | h1
  ·rcases List.mem_cons.mp hy with h2 | h2
   ·rw [h1,h2]
   exact absurd (List.mem_map.mpr ⟨y,h2,by rw [← e,h1]⟩) h.1
  rcases List.mem_cons.mp hy with h2 | h2
  ·exact absurd (List.mem_map.mpr ⟨x,h1,by rw [e,h2]⟩) h.1
  exact ih h.2 h1 h2)) only [↓zh1]
theorem worn_eq (e:Effect) (v:Event):worn e (made e v).rest=if restOf e v.amount=.shield 0∨e.uses=1 then none else some { e with act:=restOf e v.amount,uses:=e.uses - 1 }:=by
 unfold worn restOf
 cases hA:e.act <;> simp only [made,hA]
theorem use_split {w:World} {e:Effect} {v:Event} {r:List Event} (h:(w.effects.map (·.id)).Nodup) (he:e∈w.effects):wearW (deedW w e v r) { e with act:=restOf e v.amount }=useOn w e v r:=by
 refine zh0 ?_;simp (disch:=k_dflt (
 refine zh2 ?_
 have p5:=(use_parts w e v r).2.2.2.2.1
 have key:(if restOf e v.amount=.shield 0∨e.uses=1 then (setAct w.effects e.id (restOf e v.amount)).filter (fun x=>x.id != e.id) else (setAct w.effects e.id (restOf e v.amount)).map fun x=>if x.id=e.id then { x with uses:=x.uses - 1 } else x)=w.effects.filterMap (fun x=>if x.id=e.id then worn x (made e v).rest else some x):=by
  have hid:∀ x∈w.effects,x.id=e.id→x=e:=fun x hx q=>eq_of_id h hx he q
  clear p5 h he
  generalize hes:w.effects=es at hid
  clear hes
  induction es with
  | nil=>split <;> rfl
  | cons x es ih =>
   have ih:=ih fun y hy=>hid y (List.mem_cons_of_mem _ hy)
   rw [List.filterMap_cons]
   unfold setAct at ih ⊢
   rw [List.map_cons]
   by_cases q:x.id=e.id
   ·have qe:=hid x List.mem_cons_self q
    subst qe
    rw [if_pos rfl,if_pos rfl,worn_eq]
    by_cases hc:restOf x v.amount=.shield 0∨x.uses=1
    ·rw [if_pos hc] at ih ⊢
     rw [if_pos hc,List.filter_cons_of_neg (by simp)]
     exact ih
    rw [if_neg hc] at ih ⊢
    rw [if_neg hc,List.map_cons]
    show _ :: _=_ :: _
    rw [ih]
    simp
   rw [if_neg q,if_neg q]
   by_cases hc:restOf e v.amount=.shield 0∨e.uses=1
   ·rw [if_pos hc] at ih ⊢
    rw [List.filter_cons_of_pos (by simp [q])]
    show _ :: _=_ :: _
    rw [ih]
   rw [if_neg hc] at ih ⊢
   rw [List.map_cons,if_neg q]
   show _ :: _=_ :: _
   rw [ih]
 unfold wearW deedW
 show ({ useOn w e v r with effects:=_ }:World)=useOn w e v r
 have e2:({ useOn w e v r with effects:=w.effects.filterMap (fun x=>if x.id=e.id then worn x (made e v).rest else some x) }:World)=useOn w e v r:=by rw [← p5]
 rw [← e2]
 exact congrArg (fun z=>({ useOn w e v r with effects:=z }:World)) key)) only [↓zh1]
theorem setAct_id {es:List Effect} {e:Effect} (h:(es.map (·.id)).Nodup) (he:e∈es):setAct es e.id e.act=es:=by
 refine zh0 ?_;simp (disch:=k_dflt (
 refine zh2 ?_
 unfold setAct
 have:∀ x∈es,(if x.id=e.id then { x with act:=e.act } else x)=x:=fun x hx=>by
  by_cases q:x.id=e.id
  ·have:=eq_of_id h hx he q
   subst this
   rw [if_pos rfl]
  rw [if_neg q]
 exact (List.map_congr_left this).trans (List.map_id' es))) only [↓zh1]
def atW (w:World) (e:Effect) (v:Event) (r:List Event):World:={ w with todo:=marked e v :: r }
theorem note_nop (w:World) (k:Nat) (f:Book→Book) (hf:f (w.books.getD k {})=w.books.getD k {}):note w k f=w:=by
 refine zh0 ?_;simp (disch:=k_dflt (
 refine zh2 ?_
 unfold note
 rw [hf]
 have:w.books.set k (w.books.getD k {})=w.books:=by
  by_cases h:k < w.books.length
  ·rw [List.getD_eq_getElem?_getD,List.getElem?_eq_getElem h,Option.getD_some,List.set_getElem_self]
  exact List.set_eq_of_length_le (by omega)
 rw [this])) only [↓zh1]
theorem deed_amount {w:World} {e:Effect} {v:Event} {r:List Event} {n:Nat} (h:(w.effects.map (·.id)).Nodup) (he:e∈w.effects) (hr:restOf e v.amount=e.act)
  (hm:(made e v).event={ v with used:=e.id :: v.used,amount:=n }∧(made e v).others=[]∧(made e v).turned=0∧(made e v).added=n - v.amount∧(made e v).cut=v.amount - n):setAmt (atW w e v r) (marked e v) r n=deedW w e v r:=by
 refine zh0 ?_;simp (disch:=k_dflt (
 refine zh2 ?_
 obtain ⟨h1,h2,h3,h4,h5⟩:=hm
 unfold deedW
 rw [hr,setAct_id h he]
 have hu:useOn w e v r={ note w v.kind (fun b=>{ b with added:=b.added + (n - v.amount),cut:=b.cut + (v.amount - n),turned:=b.turned }) with effects:=w.effects.filterMap (fun x=>if x.id=e.id then worn x (made e v).rest else some x),todo:={ v with used:=e.id :: v.used,amount:=n } :: r }:=by
  unfold useOn
  simp only [h1,h2,h3,h4,h5]
  cases e.act <;> rfl
 rw [hu]
 unfold setAmt atW marked note
 simp only
 congr 1
 congr 1
 split
 ·next hlt=>rw [show n - v.amount=0 by omega];rfl
 next hlt=>rw [show v.amount - n=0 by omega];rfl)) only [↓zh1]
theorem deed_less {w:World} {e:Effect} {v:Event} {r:List Event} {n:Nat} (h:(w.effects.map (·.id)).Nodup) (he:e∈w.effects) (hA:e.act=.less n):setAmt (atW w e v r) (marked e v) r (v.amount - n)=deedW w e v r :=
 deed_amount h he (by unfold restOf;rw [hA]) ⟨by simp [made,hA],by simp [made,hA],by simp [made,hA],by simp [made,hA];try omega,by simp [made,hA]⟩
theorem deed_more {w:World} {e:Effect} {v:Event} {r:List Event} {n:Nat} (h:(w.effects.map (·.id)).Nodup) (he:e∈w.effects) (hA:e.act=.more n):setAmt (atW w e v r) (marked e v) r (v.amount + n)=deedW w e v r :=
 deed_amount h he (by unfold restOf;rw [hA]) ⟨by simp [made,hA],by simp [made,hA],by simp [made,hA],by simp [made,hA],by simp [made,hA];try omega⟩
theorem deed_twice {w:World} {e:Effect} {v:Event} {r:List Event} (h:(w.effects.map (·.id)).Nodup) (he:e∈w.effects) (hA:e.act=.twice):setAmt (atW w e v r) (marked e v) r (2 * v.amount)=deedW w e v r :=
 deed_amount h he (by unfold restOf;rw [hA]) ⟨by simp [made,hA],by simp [made,hA],by simp [made,hA],by simp [made,hA];try omega,by simp [made,hA];try omega⟩
theorem deed_half {w:World} {e:Effect} {v:Event} {r:List Event} (h:(w.effects.map (·.id)).Nodup) (he:e∈w.effects) (hA:e.act=.half):setAmt (atW w e v r) (marked e v) r (v.amount / 2)=deedW w e v r :=
 deed_amount h he (by unfold restOf;rw [hA]) ⟨by simp [made,hA],by simp [made,hA],by simp [made,hA],by simp [made,hA];try omega,by simp [made,hA]⟩
theorem deed_none {w:World} {e:Effect} {v:Event} {r:List Event} (h:(w.effects.map (·.id)).Nodup) (he:e∈w.effects) (hA:e.act=.none):setAmt (atW w e v r) (marked e v) r 0=deedW w e v r :=
 deed_amount h he (by unfold restOf;rw [hA]) ⟨by simp [made,hA],by simp [made,hA],by simp [made,hA],by simp [made,hA],by simp [made,hA]⟩
theorem deed_shield {w:World} {e:Effect} {v:Event} {r:List Event} {n:Nat} (hA:e.act=.shield n) :
  setAmt { atW w e v r with effects:=setAct w.effects e.id (.shield (n - v.amount)) } (marked e v) r (v.amount - n)=deedW w e v r:=by
 refine zh0 ?_;simp (disch:=k_dflt (
 refine zh2 ?_
 unfold deedW restOf setAmt atW marked note
 simp only [useOn,made,hA,note,List.foldl_nil,List.nil_append]
 congr 1
 congr 1
 split
 ·rfl
 next hlt =>
 have:v.amount - (v.amount - n)=0:=by omega
 have h2:v.amount - n - v.amount=0:=by omega
 rw [this,h2]
 rfl)) only [↓zh1]
theorem note_id (w:World) (k:Nat):note w k (fun b=>{ b with added:=b.added + 0,cut:=b.cut + 0,turned:=b.turned + 0 })=w:=note_nop w k _ rfl
theorem deed_aim {w:World} {e:Effect} {v:Event} {r:List Event} {x:Nat} (h:(w.effects.map (·.id)).Nodup) (he:e∈w.effects) (hA:e.act=.aim x):{ w with todo:={ marked e v with target:=x } :: r }=deedW w e v r:=by
 unfold deedW
 rw [show restOf e v.amount=e.act by unfold restOf;rw [hA],setAct_id h he]
 simp only [useOn,made,hA,List.foldl_nil,List.nil_append,note_id]
 rfl
theorem deed_place {w:World} {e:Effect} {v:Event} {r:List Event} {z:Nat} (h:(w.effects.map (·.id)).Nodup) (he:e∈w.effects) (hA:e.act=.place z):{ w with todo:={ marked e v with place:=z } :: r }=deedW w e v r:=by
 unfold deedW
 rw [show restOf e v.amount=e.act by unfold restOf;rw [hA],setAct_id h he]
 simp only [useOn,made,hA,List.foldl_nil,List.nil_append,note_id]
 rfl
theorem deed_split0 {w:World} {e:Effect} {v:Event} {r:List Event} {x:Nat} (h:(w.effects.map (·.id)).Nodup) (he:e∈w.effects) (hA:e.act=.split x) (h0:v.amount / 2=0):atW w e v r=deedW w e v r:=by
 unfold deedW
 rw [show restOf e v.amount=e.act by unfold restOf;rw [hA],setAct_id h he]
 simp only [useOn,made,hA,note_id,h0,if_true,List.nil_append,Nat.sub_zero]
 rfl
theorem deed_split {w:World} {e:Effect} {v:Event} {r:List Event} {x:Nat} (h:(w.effects.map (·.id)).Nodup) (he:e∈w.effects) (hA:e.act=.split x) (h0:v.amount / 2≠0) :
  { w with todo:={ marked e v with amount:=v.amount - v.amount / 2 } :: { marked e v with target:=x,amount:=v.amount / 2 } :: r }=deedW w e v r:=by
 unfold deedW
 rw [show restOf e v.amount=e.act by unfold restOf;rw [hA],setAct_id h he]
 simp only [useOn,made,hA,note_id,if_neg h0,List.cons_append,List.nil_append]
 rfl
def madeEv (e:Effect) (v:Event) (k x n z:Nat):Event:={ kind:=k,source:=v.source,target:=x,amount:=amountOf k n v.amount,place:=z,used:=e.id :: v.used }
def noteMade (w:World) (k a:Nat):World:=note w k fun b=>{ b with made:=b.made + a }
theorem deed_also {w:World} {e:Effect} {v:Event} {r:List Event} {k x n z:Nat} (h:(w.effects.map (·.id)).Nodup) (he:e∈w.effects) (hA:e.act=.also k x n z) :
  { noteMade w k (amountOf k n v.amount) with todo:=marked e v :: madeEv e v k x n z :: r }=deedW w e v r:=by
 unfold deedW
 rw [show restOf e v.amount=e.act by unfold restOf;rw [hA],setAct_id h he]
 simp only [useOn,made,hA,List.foldl_cons,List.foldl_nil,List.cons_append,List.nil_append,note_id]
 rfl
theorem deed_become {w:World} {e:Effect} {v:Event} {r:List Event} {k x n z:Nat} (h:(w.effects.map (·.id)).Nodup) (he:e∈w.effects) (hA:e.act=.become k x n z) :
  { note (noteMade w k (amountOf k n v.amount)) v.kind (fun b=>{ b with turned:=b.turned + v.amount }) with todo:={ marked e v with amount:=0 } :: madeEv e v k x n z :: r }=deedW w e v r:=by
 unfold deedW
 rw [show restOf e v.amount=e.act by unfold restOf;rw [hA],setAct_id h he]
 simp only [useOn,made,hA,List.foldl_cons,List.foldl_nil,List.cons_append,List.nil_append,Nat.add_zero]
 rfl
end Dm
namespace Dm
open Vbdcai
def hasZ (l:List Int) (x:Int):Bool:=l.any fun y=>y == x
def aimB (a x:Int):Bool:=if a=1 then isSideB x else if a=2 then !isSideB x else true
def whoseB (wh side bef:Int):Bool:=if wh=1 then decide (bef=side) else if wh=2 then !decide (bef=side) else true
def thsB (l:List Int) (x:Int):Bool:=if l.length=0 then true else !isSideB x && hasZ l (x - 11 + 1)
def srcB (l:List Int) (s:Int):Bool:=decide (l.length=0) || hasZ l s
def ownB (own src s:Int):Bool:=decide (own=0) || (!decide (src=0) && decide (src=s))
def fitsB (e:Effect) (v:Event) (bef:Nat):Bool :=
 decide ((e.kind:Int)=v.kind) && (!hasZ (castL v.used) e.id && (aimB e.aim v.target && (whoseB e.whose e.side bef && (thsB (castL e.things) v.target && (srcB (castL e.sources) v.source && ownB (b2z e.own) e.source v.source)))))
theorem hasZ_cast (l:List Nat) (n:Nat):hasZ (castL l) n=l.contains n:=by
 induction l with
 | nil=>rfl
 | cons x l ih =>
  show (((x:Int) == (n:Int)) || hasZ (castL l) n)=_
  rw [ih,List.contains_cons]
  congr 1
  rw [Bool.eq_iff_iff,beq_iff_eq,beq_iff_eq]
  omega
theorem side_thing {x:Nat} (h:x < 2∨10 < x):isSideB (x:Int)=!isThing x:=by
 unfold isSideB isThing
 rw [Bool.eq_iff_iff]
 simp
 omega
theorem okTarget_lt {w:World} {k x:Nat} (h:okTarget w k x=true):(x < 2∧(k=0∨k=1∨k=2∨k=4))∨(10 < x∧x - 10≤w.things.length∧(k=0∨k=3∨k=5)):=by
 unfold okTarget at h
 split at h
 ·next q=>exact .inl ⟨q,by simpa using h⟩
 simp only [Bool.and_eq_true,decide_eq_true_eq,Bool.or_eq_true,beq_iff_eq] at h
 exact .inr h
theorem fits_eq {w:World} {c:Nat→Nat} {e:Effect} {v:Event} (he:EfOk w e) (hv:EvOk w v):fitsB e v (sideOf c v.target)=matches_ c e v:=by
 refine zh0 ?_;simp (disch:=k_dflt (
 refine zh2 ?_
 have ht:v.target < 2∨10 < v.target:=by
  rcases okTarget_lt hv.tgt with h | h
  ·exact .inl h.1
  exact .inr h.1
 unfold fitsB matches_
 have h1:decide ((e.kind:Int)=v.kind)=(e.kind == v.kind):=by rw [Bool.eq_iff_iff,decide_eq_true_iff,beq_iff_eq];omega
 have h3:aimB e.aim v.target=(e.aim == 0 || (e.aim == 2) == isThing v.target):=by
  unfold aimB
  rw [side_thing ht]
  have:=he.aim
  rcases (show e.aim=0∨e.aim=1∨e.aim=2 by omega) with q | q | q <;> rw [q] <;> cases isThing v.target <;> rfl
 have h4:whoseB e.whose e.side (sideOf c v.target)=(e.whose == 0 || (e.whose == 1) == (sideOf c v.target == e.side)):=by
  unfold whoseB
  have hd:decide (((sideOf c v.target:Nat):Int)=(e.side:Int))=(sideOf c v.target == e.side):=by rw [Bool.eq_iff_iff,decide_eq_true_iff,beq_iff_eq];omega
  rw [hd]
  have:=he.whose
  rcases (show e.whose=0∨e.whose=1∨e.whose=2 by omega) with q | q | q <;> rw [q] <;> cases (sideOf c v.target == e.side) <;> rfl
 have h5:thsB (castL e.things) v.target=(e.things.isEmpty || (isThing v.target && e.things.contains (v.target - 10))):=by
  unfold thsB
  rw [side_thing ht]
  cases hl:e.things with
  | nil=>rfl
  | cons x l =>
   rw [if_neg (by simp [castL])]
   simp only [Bool.not_not,List.isEmpty_cons,Bool.false_or]
   cases hi:isThing v.target with
   | false=>rfl
   | true =>
    have h10:10≤v.target:=by unfold isThing at hi;exact of_decide_eq_true hi
    have hc:((v.target:Int) - 11 + 1)=((v.target - 10:Nat):Int):=by omega
    rw [hc,← hl,hasZ_cast]
 have h6:srcB (castL e.sources) v.source=(e.sources.isEmpty || e.sources.contains v.source):=by
  unfold srcB
  rw [hasZ_cast]
  cases e.sources <;> rfl
 have h7:ownB (b2z e.own) e.source v.source=(!e.own || (e.source != 0 && e.source == v.source)):=by
  unfold ownB
  have a1:decide (b2z e.own=0)=!e.own:=by cases e.own <;> rfl
  have a2:(!decide ((e.source:Int)=0))=(e.source != 0):=by
   rw [Bool.eq_iff_iff];simp
  have a3:decide ((e.source:Int)=(v.source:Int))=(e.source == v.source):=by rw [Bool.eq_iff_iff,decide_eq_true_iff,beq_iff_eq];omega
  rw [a1,a2,a3]
 rw [h1,hasZ_cast,h3,h4,h5,h6,h7])) only [↓zh1]
def hapSide (k n:Nat) (s:Side):Side:=if k=0 then { s with life:=s.life - n } else if k=1 then { s with cards:=s.cards + n } else if k=2 then { s with life:=s.life + n } else { s with tokens:=s.tokens + n }
def hapThing (v:Event) (x:Thing):Thing:=if v.kind=5 then { x with place:=v.place,damage:=0,plus:=0 } else if x.place=0 then (if v.kind=3 then { x with plus:=x.plus + v.amount } else { x with damage:=x.damage + v.amount }) else x
def noteDone (w:World) (k n:Nat):World:=note w k fun b=>{ b with done:=b.done + n }
theorem happens_side {w:World} {v:Event} (hv:EvOk w v) (ht:v.target < 2):happens w v=side (noteDone w v.kind v.amount) v.target (hapSide v.kind v.amount):=by
 have hi:isThing v.target=false:=decide_eq_false (by omega)
 rcases okTarget_lt hv.tgt with ⟨_,h⟩ | ⟨h,_⟩
 ·unfold happens noteDone hapSide
  rcases h with h | h | h | h <;> simp [h,hi,side]
 omega
theorem happens_thing {w:World} {v:Event} {x:Thing} (hv:EvOk w v) (ht:10 < v.target) (hx:w.things[v.target - 10 - 1]?=some x) :
  happens w v={ noteDone w v.kind v.amount with things:=w.things.set (v.target - 10 - 1) (hapThing v x) }:=by
 refine zh0 ?_;simp (disch:=k_dflt (
 refine zh2 ?_
 have hi:isThing v.target=true:=decide_eq_true (by omega)
 have hx':∀ f,(note w v.kind f).things[v.target - 10 - 1]?=some x:=fun f=>hx
 rcases okTarget_lt hv.tgt with ⟨h,_⟩ | ⟨_,_,h⟩
 ·omega
 unfold happens noteDone hapThing
 rcases h with h | h | h
 ·simp only [h,hi,if_true,thing]
  rw [show (note w 0 fun b=>{ b with done:=b.done + v.amount }).things[v.target - 10 - 1]?=some x from hx]
  simp [note]
 ·simp only [h,thing]
  rw [show (note w 3 fun b=>{ b with done:=b.done + v.amount }).things[v.target - 10 - 1]?=some x from hx]
  simp [note]
 simp only [h,thing]
 rw [show (note w 5 fun b=>{ b with done:=b.done + v.amount }).things[v.target - 10 - 1]?=some x from hx]
 simp [note])) only [↓zh1]
theorem happens_parts {w:World} {v:Event} (hv:EvOk w v):(happens w v).things.length=w.things.length∧(happens w v).effects=w.effects∧(happens w v).last=w.last∧(happens w v).todo=w.todo∧(happens w v).settled=w.settled∧(happens w v).books.length=w.books.length:=by
 refine zh0 ?_;simp (disch:=k_dflt (
 refine zh2 ?_
 rcases okTarget_lt hv.tgt with ⟨h,_⟩ | ⟨h,hle,_⟩
 ·rw [happens_side hv h]
  simp [side,noteDone,note]
 have hlt:v.target - 10 - 1 < w.things.length:=by omega
 rw [happens_thing hv h (List.getElem?_eq_getElem hlt)]
 simp [noteDone,note])) only [↓zh1]
end Dm
namespace Dm
open Vbdcai
theorem WOk.of {w w':World} (W:WOk w) (h1:w'.books.length=w.books.length) (h2:w'.things.length=w.things.length) (h3:w'.effects.Sublist w.effects) (h4:w'.last=w.last):WOk w' :=
 ⟨by rw [h1];exact W.bks,by rw [h2];exact W.ths,fun e he=>(W.eff e (h3.subset he)).mono (by rw [h2];exact Nat.le_refl _) (by rw [h4];exact Nat.le_refl _),(h3.map _).nodup W.ids,Nat.le_trans h3.length_le W.len,Nat.le_trans (h3.filter _).length_le W.dbl⟩
theorem EvOk.of {w w':World} {v:Event} (h:EvOk w v) (h2:w'.things.length=w.things.length):EvOk w' v:=h.mono (by rw [h2];exact Nat.le_refl _)
theorem fold_parts:∀ (vs:List Event) (w:World),(∀ v∈vs,EvOk w v)→(vs.foldl happens w).things.length=w.things.length∧(vs.foldl happens w).effects=w.effects∧(vs.foldl happens w).last=w.last∧(vs.foldl happens w).todo=w.todo∧(vs.foldl happens w).settled=w.settled∧(vs.foldl happens w).books.length=w.books.length
 | [],w,_=>⟨rfl,rfl,rfl,rfl,rfl,rfl⟩
 | v :: vs,w,h=>by
  obtain ⟨a1,a2,a3,a4,a5,a6⟩:=happens_parts (h v List.mem_cons_self)
  obtain ⟨b1,b2,b3,b4,b5,b6⟩:=fold_parts vs (happens w v) fun x hx=>(h x (List.mem_cons_of_mem _ hx)).of a1
  rw [List.foldl_cons]
  exact ⟨b1.trans a1,b2.trans a2,b3.trans a3,b4.trans a4,b5.trans a5,b6.trans a6⟩
theorem finish_ok {w:World} (W:WOk w) (B:BOk w) (ht:w.todo=[]):WOk (finish w)∧(finish w).todo=[]∧(finish w).settled=[]:=by
 refine zh0 ?_;simp (disch:=k_dflt (
 refine zh2 ?_
 have hp:=fold_parts w.settled { w with settled:=[] } fun v hv=>(B.settled v hv).of rfl
 unfold finish
 exact ⟨W.of hp.2.2.2.2.2 hp.1 (by show ((w.settled.foldl happens { w with settled:=[] }).effects.filter _).Sublist w.effects;rw [hp.2.1];exact List.filter_sublist) hp.2.2.1,hp.2.2.2.1.trans ht,hp.2.2.2.2.1⟩)) only [↓zh1]
structure Rest (w:World):Prop where
 ok:WOk w
 todo:w.todo=[]
 settled:w.settled=[]
structure Asks (w:World):Prop where
 ok:WOk w
 bok:BOk w
 look:look1 w=none
 todo:w.todo≠[]
structure Like (w w':World):Prop where
 sides:w'.sides=w.sides
 things:w'.things=w.things
 last:w'.last=w.last
theorem Like.refl (w:World):Like w w:=⟨rfl,rfl,rfl⟩
theorem Like.trans {a b c:World} (h:Like a b) (g:Like b c):Like a c:=⟨g.sides.trans h.sides,g.things.trans h.things,g.last.trans h.last⟩
theorem look_like {w w':World} (h:look1 w=some w'):Like w w':=by
 refine zh0 ?_;simp (disch:=k_dflt (
 refine zh2 ?_
 unfold look1 at h
 cases ht:w.todo with
 | nil=>rw [ht] at h;cases h
 | cons v r =>
  rw [ht] at h
  simp only at h
  split at h
  ·cases h;exact ⟨rfl,rfl,rfl⟩
  split at h
  ·cases h;exact ⟨rfl,rfl,rfl⟩
  ·split at h
   ·cases h
   cases h
   obtain ⟨p1,p2,p3,_⟩:=use_parts w ‹_› v r
   exact ⟨p3,p1,p2⟩
  cases h)) only [↓zh1]
theorem run_ends:∀ (n:Nat) {w:World},WOk w→BOk w→mu w < n→Rest (goOn n w)∨(Asks (goOn n w)∧mu (goOn n w)≤mu w∧Like w (goOn n w))
 | 0,_,_,_,h=>by omega
 | n + 1,w,W,B,h=>by
  by_cases ht:w.todo=[]
  ·rw [goOn_end n ht]
   obtain ⟨a,b,c⟩:=finish_ok W B ht
   exact .inl ⟨a,b,c⟩
  cases hl:look1 w with
  | none =>
   rw [goOn_ask n hl ht]
   exact .inr ⟨⟨W,B,hl,ht⟩,Nat.le_refl _,Like.refl w⟩
  | some w' =>
   obtain ⟨W',B',hlt⟩:=look_ok W B hl
   rw [goOn_step n hl]
   rcases run_ends n W' B' (by omega) with q | ⟨q1,q2,q3⟩
   ·exact .inl q
   exact .inr ⟨q1,by omega,(look_like hl).trans q3⟩
theorem mu_rest {w:World} (h:w.todo=[]):mu w=0:=by unfold mu;rw [h];rfl
theorem mu_pos {w:World} (h:w.todo≠[]):1≤mu w:=by
 have:=mus_len w.effects w.todo
 cases ht:w.todo with
 | nil=>exact absurd ht h
 | cons v r=>unfold mu;rw [ht] at this ⊢;simp at this;omega
theorem Asks.head {w:World} (A:Asks w):∃ v r,w.todo=v :: r∧v.amount≠0∧(∃ e l,offered (ctrl w) w.effects v=e :: l∧(l=[]→e.may=true)):=by
 refine zh0 ?_;simp (disch:=k_dflt (
 refine zh2 ?_
 have h:=A.look
 unfold look1 at h
 cases ht:w.todo with
 | nil=>exact absurd ht A.todo
 | cons v r =>
  rw [ht] at h
  simp only at h
  by_cases ha:v.amount=0
  ·rw [if_pos ha] at h;cases h
  rw [if_neg ha] at h
  refine ⟨v,r,rfl,ha,?_⟩
  cases ho:offered (ctrl w) w.effects v with
  | nil=>rw [ho] at h;cases h
  | cons e l =>
   refine ⟨e,l,rfl,fun hl=>?_⟩
   subst hl
   rw [ho] at h
   simp only at h
   by_cases hm:e.may=true
   ·exact hm
   rw [if_neg hm] at h;cases h)) only [↓zh1]
theorem choose_ends {w:World} (A:Asks w) {v:Event} {r:List Event} {e:Effect} (ht:w.todo=v :: r) (he:e∈offered (ctrl w) w.effects v) :
  (WOk (useOn w e v r)∧BOk (useOn w e v r)∧mu (useOn w e v r) < ENOUGH)∧(Rest (choose w e)∨(Asks (choose w e)∧mu (choose w e) < mu w∧Like w (choose w e))):=by
 refine zh0 ?_;simp (disch:=k_dflt (
 refine zh2 ?_
 obtain ⟨v',r',ht',ha,_⟩:=A.head
 rw [ht] at ht'
 cases ht'
 obtain ⟨W',B',hlt⟩:=use_ok A.ok A.bok ht ha he
 have hr:=A.bok.room
 have hE:mu (useOn w e v r) < ENOUGH:=by unfold ENOUGH;omega
 have hc:choose w e=goOn ENOUGH (useOn w e v r):=by unfold choose;rw [ht]
 refine ⟨⟨W',B',hE⟩,?_⟩
 rw [hc]
 rcases run_ends ENOUGH W' B' hE with q | ⟨q1,q2,q3⟩
 ·exact .inl q
 obtain ⟨p1,p2,p3,_⟩:=use_parts w e v r
 exact .inr ⟨q1,by omega,(⟨p3,p1,p2⟩:Like w (useOn w e v r)).trans q3⟩)) only [↓zh1]
def declW (w:World) (e:Effect) (v:Event) (r:List Event):World:={ w with todo:=marked e v :: r }
theorem decl_ok {w:World} (A:Asks w) {v:Event} {r:List Event} {e:Effect} (ht:w.todo=v :: r) (he:e∈offered (ctrl w) w.effects v):WOk (declW w e v r)∧BOk (declW w e v r)∧mu (declW w e v r) < mu w:=by
 refine zh0 ?_;simp (disch:=k_dflt (
 refine zh2 ?_
 obtain ⟨v',r',ht',ha,_⟩:=A.head
 rw [ht] at ht'
 cases ht'
 obtain ⟨hm,hmt⟩:=offered_mem he
 obtain ⟨_,hus⟩:=matches_used hmt
 have W:=A.ok
 have B:=A.bok
 obtain ⟨ev,uv⟩:=B.todo v (by rw [ht];exact List.mem_cons_self)
 have hlt:mu (declW w e v r) < mu w:=by
  have e1:mu w=wt w.effects v + mus w.effects r:=by unfold mu;rw [ht,mus_cons]
  have e2:mu (declW w e v r)=wt w.effects (marked e v) + mus w.effects r:=mus_cons _ _ _
  have h1:=fe_use1 hm hus
  have h2:=wt_le w.effects (marked e v)
  have h3:wt w.effects v=fe w.effects v.used:=by unfold wt;rw [if_neg ha]
  have h4:fe w.effects (marked e v).used=fe w.effects (e.id :: v.used):=rfl
  omega
 refine ⟨W.of rfl rfl (List.Sublist.refl _) rfl,⟨fun x hx=>?_,fun x hx=>(B.settled x hx).of rfl,?_⟩,hlt⟩
 ·rcases List.mem_cons.mp hx with rfl | hx
  ·exact ⟨⟨ev.kind,ev.tgt⟩,uv.use (Shr.refl _) hm hus rfl⟩
  have q:=B.todo x (by rw [ht];exact List.mem_cons_of_mem _ hx)
  exact ⟨q.1.of rfl,q.2⟩
 have:=B.room
 show mu (declW w e v r) + w.settled.length≤2044
 omega)) only [↓zh1]
theorem decl_ends {w:World} (A:Asks w) {v:Event} {r:List Event} {e:Effect} (ht:w.todo=v :: r) (he:e∈offered (ctrl w) w.effects v) :
  decline w e=goOn ENOUGH (declW w e v r)∧mu (declW w e v r) < ENOUGH∧(Rest (decline w e)∨(Asks (decline w e)∧mu (decline w e) < mu w∧Like w (decline w e))):=by
 refine zh0 ?_;simp (disch:=k_dflt (
 refine zh2 ?_
 obtain ⟨W',B',hlt⟩:=decl_ok A ht he
 have hr:=A.bok.room
 have hE:mu (declW w e v r) < ENOUGH:=by unfold ENOUGH;omega
 have hc:decline w e=goOn ENOUGH (declW w e v r):=by unfold decline;rw [ht];rfl
 refine ⟨hc,hE,?_⟩
 rw [hc]
 rcases run_ends ENOUGH W' B' hE with q | ⟨q1,q2,q3⟩
 ·exact .inl q
 exact .inr ⟨q1,by omega,(⟨rfl,rfl,rfl⟩:Like w (declW w e v r)).trans q3⟩)) only [↓zh1]
theorem rest_succ {w:World} (k:Nat) (A:Asks w) {v:Event} {r:List Event} {e:Effect} {l:List Effect} (ht:w.todo=v :: r) (ho:offered (ctrl w) w.effects v=e :: l):rest (k + 1) w=rest k (choose w e):=by
 show (match asked w with | some (_,e :: _)=>rest k (choose w e) | _=>w)=_
 unfold asked
 rw [ht]
 simp only
 rw [ho]
theorem rest_done {w:World} (k:Nat) (h:w.todo=[]):rest k w=w:=by
 cases k with
 | zero=>rfl
 | succ k =>
  show (match asked w with | some (_,e :: _)=>rest k (choose w e) | _=>w)=_
  unfold asked
  rw [h]
theorem rest_fuel:∀ (n m:Nat) {w:World},Rest w∨Asks w→mu w≤n→mu w≤m→rest n w=rest m w∧Rest (rest n w)
 | n,m,w,.inl R,_,_=>by rw [rest_done n R.todo,rest_done m R.todo];exact ⟨rfl,R⟩
 | 0,_,w,.inr A,h,_=>by have:=mu_pos A.todo;omega
 | _,0,w,.inr A,_,h=>by have:=mu_pos A.todo;omega
 | n + 1,m + 1,w,.inr A,hn,hm=>by
  obtain ⟨v,r,ht,_,e,l,ho,_⟩:=A.head
  rw [rest_succ n A ht ho,rest_succ m A ht ho]
  rcases (choose_ends A ht (e:=e) (by rw [ho];exact List.mem_cons_self)).2 with q | ⟨q,hlt,_⟩
  ·have h0:=mu_rest q.todo
   exact rest_fuel n m (.inl q) (by omega) (by omega)
  exact rest_fuel n m (.inr q) (by omega) (by omega)
def toldW (w:World) (vs:List Event):World:=vs.foldl (fun w v=>note w v.kind fun b=>{ b with told:=b.told + v.amount }) w
theorem told_parts:∀ (vs:List Event) (w:World),(toldW w vs).things=w.things∧(toldW w vs).effects=w.effects∧(toldW w vs).last=w.last∧(toldW w vs).todo=w.todo∧(toldW w vs).settled=w.settled∧(toldW w vs).books.length=w.books.length∧(toldW w vs).sides=w.sides
 | [],w=>⟨rfl,rfl,rfl,rfl,rfl,rfl,rfl⟩
 | v :: vs,w=>by
  obtain ⟨a1,a2,a3,a4,a5,a6,a7⟩:=told_parts vs (note w v.kind fun b=>{ b with told:=b.told + v.amount })
  unfold toldW at *
  rw [List.foldl_cons]
  exact ⟨a1,a2,a3,a4,a5,a6.trans (by simp [note]),a7⟩
theorem fe_max {es:List Effect} (h1:es.length≤12) (h2:(es.filter doubling).length≤5):fe es []≤511:=by
 refine zh0 ?_;simp (disch:=k_dflt (
 refine zh2 ?_
 have d:=cnt_le_len doubling es []
 have a:=cnt_all es []
 have t:cnt tt es []≤es.length:=Nat.le_trans (cnt_le_len tt es []) (List.length_filter_le _ _)
 unfold fe
 have hd:cnt doubling es []≤5:=Nat.le_trans d h2
 have hn:cnt doubling es [] + cnt nd es []≤12:=by omega
 revert hd hn
 generalize cnt doubling es []=x
 generalize cnt nd es []=y
 intro hd hn
 have:x=0∨x=1∨x=2∨x=3∨x=4∨x=5:=by omega
 unfold fw
 rcases this with rfl | rfl | rfl | rfl | rfl | rfl <;> simp <;> omega)) only [↓zh1]
theorem begin_ok {w:World} (R:Rest w) {vs:List Event} (h1:vs.length≤4) (h2:∀ v∈vs,EvOk w v∧v.used=[]):WOk { toldW w vs with todo:=vs }∧BOk { toldW w vs with todo:=vs }∧mu { toldW w vs with todo:=vs } < ENOUGH:=by
 refine zh0 ?_;simp (disch:=k_dflt (
 refine zh2 ?_
 obtain ⟨a1,a2,a3,a4,a5,a6,a7⟩:=told_parts vs w
 have hmu:mu { toldW w vs with todo:=vs }≤511 * vs.length:=by
  show mus (toldW w vs).effects vs≤_
  rw [a2]
  have hf:=fe_max R.ok.len R.ok.dbl
  clear h1 a1 a2 a3 a4 a5 a6 a7
  induction vs with
  | nil=>exact Nat.le_refl _
  | cons v r ih =>
   have ih:=ih fun x hx=>h2 x (List.mem_cons_of_mem _ hx)
   rw [mus_cons,List.length_cons]
   have:=wt_le w.effects v
   rw [(h2 v List.mem_cons_self).2] at this
   omega
 refine ⟨R.ok.of (by show (toldW w vs).books.length=_;exact a6) (by show (toldW w vs).things.length=_;rw [a1]) (by show ((toldW w vs).effects).Sublist _;rw [a2];exact List.Sublist.refl _) a3,⟨fun v hv=>⟨(h2 v hv).1.of (by show (toldW w vs).things.length=_;rw [a1]),?_⟩,fun v hv=>?_,?_⟩,?_⟩
 ·show UOk (toldW w vs).effects v
  rw [a2]
  unfold UOk
  rw [(h2 v hv).2]
  have:cnt tt w.effects []≤w.effects.length:=Nat.le_trans (cnt_le_len tt _ []) (List.length_filter_le _ _)
  have:=R.ok.len
  simp
  omega
 ·have hv':v∈(toldW w vs).settled:=hv
  rw [a5,R.settled] at hv'
  cases hv'
 ·show mu { toldW w vs with todo:=vs } + (toldW w vs).settled.length≤2044
  rw [a5,R.settled]
  exact Nat.le_trans (Nat.add_le_add_right hmu _) (by show 511 * vs.length + 0≤2044;omega)
 exact Nat.lt_of_le_of_lt hmu (by unfold ENOUGH;omega))) only [↓zh1]
end Dm
set_option Elab.async false
set_option linter.all false
set_option maxRecDepth 100000
set_option maxHeartbeats 2000000
namespace L2
open PySem PySem.Spec PyProof.Rows
def CI (mg:Str→Option Value) (x:Str) (i:Int):Prop:=∃ t,mg x=some (.int i t)
def GR (mg:Str→Option Value) (x:Str) (a:Addr):Prop:=mg x=some (.ref a)
section
variable {X:Cx} {x m:Str} {p pos apos:Pos} {e o:Expr} {es:List Expr} {t:TA} {k:Nat} {ps:List Str} {sp:Sp} {C:Addr} {ta tn:TE}
theorem pe_ci {i:Int} (h:CI X.mg x i) (hg:Gl X x) (hd:(x == ("__debug__":Str))=false:=by decide):PE X (.Name x pos) (tC (.int i)):=by
 obtain ⟨t,h⟩:=h
 exact pe_glob hg h ⟨t,rfl⟩ hd
theorem pe_gr {a:Addr} (h:GR X.mg x a) (hg:Gl X x) (hd:(x == ("__debug__":Str))=false:=by decide):PE X (.Name x pos) (tC (.ref a)):=pe_glob hg h rfl hd
def KnF (P:Program) (w:World) (K:PySem.W.Frag) (mg:Str→Option Value) (base:Heap) (f:Addr) (k:Nat) (sp:Sp):Prop :=
 ∃ (fd:FuncData) (ps:List Str),PySem.W.keepIn K (.ref f)=true∧Binds K fd ps []∧FnOk P w K mg base CX0 k f fd ps sp
def Kn (P:Program) (w:World) (K:PySem.W.Frag) (mg:Str→Option Value) (base:Heap) (x:Str) (k:Nat) (sp:Sp):Prop :=
 ∃ f,mg x=some (.ref f)∧KnF P w K mg base f k sp
def KnM (P:Program) (w:World) (K:PySem.W.Frag) (mg:Str→Option Value) (base:Heap) (C:Addr) (m:Str) (k:Nat) (sp:Sp):Prop :=
 ∃ f,Meth K C m f∧Cls K C∧KnF P w K mg base f k sp
def KnC (P:Program) (w:World) (K:PySem.W.Frag) (mg:Str→Option Value) (base:Heap) (x:Str) (C:Addr) (k:Nat) (sp:Sp):Prop :=
 ∃ f,mg x=some (.ref C)∧Mk K C f∧KnF P w K mg base f k sp
theorem pe_callX (h:Kn X.prog X.w X.K X.mg X.base x k sp) (hr:Room k X.A) (hg:Gl X x) (ha:PA X (e :: es) t) (hdb:(x == ("__debug__":Str))=false:=by decide)
  (he:starEach (e :: es) X.env=(false,eval e X.env) :: starEach es X.env:=by rfl) (hpl:(backTo pos (starEach es X.env)).any (·.1)=false:=by rfl) :
  PE X (.Call (.Name x p) (e :: es) [] pos) (tCall sp [] E0 t):=by
 obtain ⟨f,hm,fd,ps,hk,hb,F⟩:=h
 exact pe_call F hr hg hm hk hb .nil pass0 ha hdb he hpl
theorem pe_makeX (h:KnC X.prog X.w X.K X.mg X.base x C k sp) (hr:Room (k + 1) X.A) (hg:Gl X x) (ha:PA X (e :: es) t) (hdb:(x == ("__debug__":Str))=false:=by decide)
  (he:starEach (e :: es) X.env=(false,eval e X.env) :: starEach es X.env:=by rfl) (hpl:(backTo pos (starEach es X.env)).any (·.1)=false:=by rfl) :
  PE X (.Call (.Name x p) (e :: es) [] pos) (tMake C sp [] E0 t):=by
 obtain ⟨f,hm,M,fd,ps,hk,hb,F⟩:=h
 exact pe_make M F hr hg hm hb .nil pass0 ha hdb he hpl
theorem pe_makeX0 (h:KnC X.prog X.w X.K X.mg X.base x C k sp) (hr:Room (k + 1) X.A) (hg:Gl X x) (hdb:(x == ("__debug__":Str))=false:=by decide):PE X (.Call (.Name x p) [] [] pos) (tMake C sp [] E0 tNil):=by
 obtain ⟨f,hm,M,fd,ps,hk,hb,F⟩:=h
 exact pe_make0 M F hr hg hm hb .nil pass0 hdb
theorem pe_methX {pl:Sem Bool} (ho:PE X o ta) (h:KnM X.prog X.w X.K X.mg X.base C m k sp) (hr:Room k X.A) (ha:PA X (e :: es) t)
  (hst:starEach (e :: es) X.env=(false,eval e X.env) :: starEach es X.env:=by rfl) (hpl:(backTo pos (starEach es X.env)).any (·.1)=false:=by rfl)
  (ht:eval (.Call (.Attribute o m apos) (e :: es) [] pos) X.env=(do
   let ov ← eval o X.env
   standAt apos.atName
   let (f,first) ← holding [ov] (getMethod ov m pl)
   callWith pos f first (backTo pos (starEach (e :: es) X.env)) (backToKw pos (keywordEach [] X.env))):=by rfl) :
  PE X (.Call (.Attribute o m apos) (e :: es) [] pos) (tMeth C m sp [] E0 ta t):=by
 obtain ⟨f,hm,c,fd,ps,hk,hb,F⟩:=h
 exact pe_meth ho c hm F hr hb .nil pass0 ha hst hpl ht
theorem pe_methX0 {pl:Sem Bool} (ho:PE X o ta) (h:KnM X.prog X.w X.K X.mg X.base C m k sp) (hr:Room k X.A)
  (ht:eval (.Call (.Attribute o m apos) [] [] pos) X.env=(do
   let ov ← eval o X.env
   standAt apos.atName
   let (f,first) ← holding [ov] (getMethod ov m pl)
   callWith pos f first (backTo pos (starEach [] X.env)) (backToKw pos (keywordEach [] X.env))):=by rfl) :
  PE X (.Call (.Attribute o m apos) [] [] pos) (tMeth C m sp [] E0 ta tNil):=by
 obtain ⟨f,hm,c,fd,ps,hk,hb,F⟩:=h
 exact pe_meth0 ho c hm F hr hb .nil pass0 ht
def tCallL (P:Program) (w:World) (K:PySem.W.Frag) (mg:Str→Option Value) (base:Heap) (k:Nat) (tn:TE) (t:TA):TE:=fun σ H Q=>tn σ H fun v H1=>∃ f sp,v=.ref f∧KnF P w K mg base f k sp∧t σ H1 fun vs H2=>sp vs H2 Q E0
theorem pe_callL (k:Nat) (hr:Room k X.A) (hn:PE X (.Name x p) tn) (ha:PA X (e :: es) t)
  (he:starEach (e :: es) X.env=(false,eval e X.env) :: starEach es X.env:=by rfl) (hpl:(backTo pos (starEach es X.env)).any (·.1)=false:=by rfl) :
  PE X (.Call (.Name x p) (e :: es) [] pos) (tCallL X.prog X.w X.K X.mg X.base k tn t):=by
 refine zh0 ?_;simp (disch:=k_dflt (
 refine zh2 ?_
 intro pins s σ H Q I h
 refine wpAny_Call_Name_kw (thn (hn pins s σ H _ I h) fun u s1 ⟨v,H1,I1,r1,f,sp,ev,kn,q⟩=>?_)
 subst ev
 obtain rfl:u=Value.ref f:=r1
 obtain ⟨fd,ps,hk,hb,F⟩:=kn
 refine PySem.W.callWith_K (h₀:=X.base) I.ok.mod.kin hk (thn (ha pos pins s1 σ H1 _ I1 q) fun us s2 ⟨vs,H2,I2,r,q2⟩=>⟨I2.kIn,?_⟩) he hpl
 exact run_fn (dvs:=[]) (E:=E0) F hr hb .nil pass0 I2 r (by rw [List.append_nil];exact q2))) only [↓zh1]
theorem call_all (hc:X.calm=true):CallR X (.builtin "all") (rAll X.K):=cr_all hc
def rInsert:V→List V→Hp→VK→Prop:=fun x vs H Q=>∃ (l:Addr) (xs:List V) (i:Int) (y:V),x=.ref l∧vs=[.int i,y]∧H l=some (.lst xs)∧Builtin.List.listFitsIndex i=true∧0≤i∧xs.length < sizeLine∧Q .non (upd H l (.lst (xs.take i.toNat++y :: xs.drop i.toNat)))
theorem ins_form (its:List Value) (u:Value) (k:Nat):((its.toArray.extract 0 (min k its.toArray.size)).push u++its.toArray.extract (min k its.toArray.size))=(its.take k++u :: its.drop k).toArray:=by
 refine zh0 ?_;simp (disch:=k_dflt (
 refine zh2 ?_
 apply Array.toList_inj.mp
 rw [List.size_toArray]
 by_cases hle:k≤its.length
 ·rw [Nat.min_eq_left hle];simp;exact List.take_of_length_le (by rw [List.length_drop];omega)
 rw [Nat.min_eq_right (by omega),List.take_of_length_le (by omega),List.drop_eq_nil_of_le (by omega)];simp)) only [↓zh1]
theorem mt_insert:MtM X "list.insert" rInsert:=by
 refine zh0 ?_;simp (disch:=k_dflt (
 refine zh2 ?_
 intro pins s σ H x vs v us Q I rx rv h
 obtain ⟨l,xs,i,y,rfl,rfl,hH,hi,h0,hz,q⟩:=h
 cases rx
 obtain ⟨u1,u2,rfl,ru1,ru2⟩:=vals2 rv
 obtain ⟨tk,rfl⟩:=ru1
 obtain ⟨z,its,n,r,hl,e⟩:=I.lstM hH
 have hN:∀ b:Bool,b=true→¬ (!b)=true:=fun b hb=>by rw [hb];decide
 refine call_meets F.slot_list_insert ⟨_,e,rfl⟩ F.entry_list_insert (F.args_list_insert_3 _ _ _) (AutoSeq1.list_insert_list_int_val_1 l its.toArray n i tk u2 (hN _ hi) (by rw [List.size_toArray];omega)) ⟨e,?_⟩
 refine ⟨.non,_,I.lset (its':=its.take i.toNat++u2 :: its.drop i.toNat) hH e ?_ ((r.take i.toNat).append (.cons ru2 (r.drop i.toNat))) ?_,rfl,q⟩
 ·simp only [if_neg (show ¬ i < 0 by omega)]
  exact ins_form its u2 i.toNat
 rw [List.length_append,List.length_cons,List.length_take,List.length_drop];omega)) only [↓zh1]
def rGetL (K:PySem.W.Frag):V→V→Hp→VK→Prop:=fun x y H Q=>∃ (p:Addr) (xs:List V) (i:Nat) (v:V),x=.ref p∧y=.int i∧SqL K H p xs∧xs[i]?=some v∧Q v H
theorem get_list:PGet X (rGetL X.K):=by
 refine zh0 ?_;simp (disch:=k_dflt (
 refine zh2 ?_
 intro pins s σ H o i ov iv Q I ro ri h
 obtain ⟨p,xs,j,v,rfl,rfl,hs,ha,q⟩:=h
 cases ro
 obtain ⟨t,rfl⟩:=ri
 obtain ⟨its,rv,pl,hz⟩:=I.list hs
 obtain ⟨u,hu,ru⟩:=rv.get ha
 have hn:=line63
 have hlt:j < xs.length:=(List.getElem?_eq_some_iff.mp ha).1
 have fin:EP X pins σ Q u s:=⟨v,H,I,ru,q⟩
 exact wpAny_getItem_list pl.isList (by omega) (by omega) (by simpa using hu) fin)) only [↓zh1]
end
end L2
set_option linter.all false
set_option maxRecDepth 100000
namespace Du
open PySem L2 Dm
abbrev W:=Vbdcai.World
abbrev Ef:=Vbdcai.Effect
abbrev Ev:=Vbdcai.Event
abbrev Bk:=Vbdcai.Book
abbrev Th:=Vbdcai.Thing
abbrev Sd:=Vbdcai.Side
structure Cl where
 side:Addr
 thing:Addr
 book:Addr
 table:Addr
 effect:Addr
 event:Addr
 batch:Addr
 reader:Addr
abbrev iv (n:Nat):V:=.int (n:Int)
def ivs (l:List Int):List V:=l.map V.int
def rfs (l:List Addr):List V:=l.map V.ref
def sdFs (s:Sd):List (Str × V):=[("life",.int s.life),("drawn",iv s.cards),("tokens",iv s.tokens)]
def thFs (t:Th):List (Str × V):=[("side",iv t.ctrl),("place",iv t.place),("damage",iv t.damage),("counters",iv t.plus)]
def bkFs (b:Bk):List (Str × V):=[("told",iv b.told),("made",iv b.made),("added",iv b.added),("cut",iv b.cut),("turned",iv b.turned),("happened",iv b.done)]
def efFs (e:Ef) (lt ls ld:Addr):List (Str × V):=[("number",iv e.id),("side",iv e.side),("source",iv e.source),("kind",iv e.kind),("aim",iv e.aim),("whose",iv e.whose),("own",.int (b2z e.own)),("may",.int (b2z e.may)),("uses",iv e.uses),
 ("things",.ref lt),("sources",.ref ls),("does",.ref ld)]
def evFs (v:Ev) (lu:Addr):List (Str × V):=[("kind",iv v.kind),("source",iv v.source),("target",iv v.target),("amount",iv v.amount),("place",iv v.place),("used",.ref lu)]
def btFs (rL sL oL ebL bbL:Addr):List (Str × V):=[("row",.ref rL),("settled",.ref sL),("offered",.ref oL),("effects_before",.ref ebL),("books_before",.ref bbL)]
def tbFs (sL tL eL:Addr) (n:Nat) (bL:Addr) (bV:V):List (Str × V):=[("sides",.ref sL),("things",.ref tL),("effects",.ref eL),("effects_numbered",iv n),("books",.ref bL),("batch",bV)]
abbrev Rho:=Addr→Nat × Nat
def upR (ρ:Rho) (a:Addr) (r:Nat × Nat):Rho:=fun b=>if b=a then r else ρ b
theorem upR_same {ρ:Rho} {a:Addr} {r:Nat × Nat}:upR ρ a r a=r:=by unfold upR;rw [if_pos rfl]
theorem upR_ne {ρ:Rho} {a b:Addr} {r:Nat × Nat} (h:b≠a):upR ρ a r b=ρ b:=by unfold upR;rw [if_neg h]
def Kp (T:Nat→Prop) (ρ:Rho) (H:Hp) (ρ':Rho) (H':Hp):Prop:=∀ b o,T (ρ b).1→H b=some o→ρ' b=ρ b∧H' b=some o
theorem Kp.refl {T:Nat→Prop} {ρ:Rho} {H:Hp}:Kp T ρ H ρ H:=fun _ _ _ h=>⟨rfl,h⟩
theorem Kp.trans {T:Nat→Prop} {ρ ρ1 ρ2:Rho} {H H1 H2:Hp} (a:Kp T ρ H ρ1 H1) (b:Kp T ρ1 H1 ρ2 H2):Kp T ρ H ρ2 H2:=fun c o t h=>by
 obtain ⟨e1,h1⟩:=a c o t h
 obtain ⟨e2,h2⟩:=b c o (by rw [e1];exact t) h1
 exact ⟨e2.trans e1,h2⟩
theorem Kp.mono {T T':Nat→Prop} {ρ ρ':Rho} {H H':Hp} (a:Kp T ρ H ρ' H') (h:∀ n,T' n→T n):Kp T' ρ H ρ' H':=fun b o t e=>a b o (h _ t) e
theorem Kp.same {T:Nat→Prop} {ρ:Rho} {H H':Hp} (s:Same H H'):Kp T ρ H ρ H':=fun b o _ h=>⟨rfl,s b o h⟩
theorem Kp.upd {T:Nat→Prop} {ρ:Rho} {H:Hp} {a:Addr} {o:HO} (h:¬ T (ρ a).1):Kp T ρ H ρ (upd H a o):=fun b u t e=>⟨rfl,by
 rw [upd_ne (fun q=>h (by rw [← q];exact t))];exact e⟩
theorem Kp.adopt {T:Nat→Prop} {ρ:Rho} {H:Hp} {a:Addr} {o:HO} {r:Nat × Nat} (h:H a=none):Kp T ρ H (upR ρ a r) (L2.upd H a o):=fun b u t e=>by
 have n:=ne_of_none e h
 exact ⟨upR_ne n,by rw [upd_ne n];exact e⟩
theorem Kp.role {T:Nat→Prop} {ρ:Rho} {H:Hp} {a:Addr} {r:Nat × Nat} (h:¬ T (ρ a).1):Kp T ρ H (upR ρ a r) H:=fun b u t e =>
 ⟨upR_ne (fun q=>h (by rw [← q];exact t)),e⟩
section
variable (C:Cl) (ρ:Rho) (H:Hp)
def EfAt (τ:Nat) (a:Addr) (e:Ef):Prop:=ρ a=(τ,e.id)∧∃ dx lt ls ld,H a=some (.ins C.effect dx (efFs e lt ls ld))∧(ρ lt=(τ + 1,e.id)∧H lt=some (.lst (ivs (castL e.things)))) ∧
 (ρ ls=(τ + 2,e.id)∧H ls=some (.lst (ivs (castL e.sources))))∧(ρ ld=(τ + 3,e.id)∧H ld=some (.lst (ivs (actRow e.act))))
def EfsAt (τ:Nat) (l:Addr) (as:List Addr) (es:List Ef):Prop:=(ρ l=(τ + 4,0)∧H l=some (.lst (rfs as)))∧Paired (EfAt C ρ H τ) as es
def BksAt (τ:Nat) (l:Addr) (as:List Addr) (bs:List Bk):Prop:=(ρ l=(τ,0)∧H l=some (.lst (rfs as)))∧as.length=bs.length∧∀ (k:Nat) a b,as[k]?=some a→bs[k]?=some b→ρ a=(τ + 1,k)∧∃ dx,H a=some (.ins C.book dx (bkFs b))
def ThsAt (l:Addr) (as:List Addr) (ts:List Th):Prop:=(ρ l=(4,0)∧H l=some (.lst (rfs as)))∧as.length=ts.length∧∀ (k:Nat) a b,as[k]?=some a→ts[k]?=some b→ρ a=(5,k)∧∃ dx,H a=some (.ins C.thing dx (thFs b))
def SdsAt (l a0 a1:Addr) (s:Sd × Sd):Prop:=(ρ l=(2,0)∧H l=some (.lst [.ref a0,.ref a1]))∧(ρ a0=(3,0)∧∃ dx,H a0=some (.ins C.side dx (sdFs s.1)))∧(ρ a1=(3,1)∧∃ dx,H a1=some (.ins C.side dx (sdFs s.2)))
def EvAt (a:Addr) (v:Ev):Prop:=ρ a=(50,0)∧∃ dx lu,H a=some (.ins C.event dx (evFs v lu))∧ρ lu=(51,0)∧H lu=some (.lst (ivs (castL v.used)))
end
structure Lo where
 sL:Addr
 s0:Addr
 s1:Addr
 tL:Addr
 ta:List Addr
 eL:Addr
 ea:List Addr
 bL:Addr
 ba:List Addr
structure Lb where
 rL:Addr
 ra:List Addr
 sL:Addr
 sa:List Addr
 oL:Addr
 oa:List Addr
 ebL:Addr
 eba:List Addr
 bbL:Addr
 bba:List Addr
structure Rep (C:Cl) (ρ:Rho) (H:Hp) (t:Addr) (lo:Lo) (bV:V) (w:W):Prop where
 dom:∀ b,H b=none→ρ b=(0,0)
 tb:ρ t=(1,0)∧∃ dx,H t=some (.ins C.table dx (tbFs lo.sL lo.tL lo.eL w.last lo.bL bV))
 sd:SdsAt C ρ H lo.sL lo.s0 lo.s1 w.sides
 th:ThsAt C ρ H lo.tL lo.ta w.things
 ef:EfsAt C ρ H 10 lo.eL lo.ea w.effects
 bk:BksAt C ρ H 30 lo.bL lo.ba w.books
structure Bat (C:Cl) (ρ:Rho) (H:Hp) (b:Addr) (lb:Lb) (w bf:W):Prop where
 bt:ρ b=(6,0)∧∃ dx,H b=some (.ins C.batch dx (btFs lb.rL lb.sL lb.oL lb.ebL lb.bbL))
 row:(ρ lb.rL=(7,0)∧H lb.rL=some (.lst (rfs lb.ra)))∧Paired (EvAt C ρ H) lb.ra w.todo
 set:(ρ lb.sL=(8,0)∧H lb.sL=some (.lst (rfs lb.sa)))∧Paired (EvAt C ρ H) lb.sa w.settled
 nd:(lb.ra++lb.sa).Nodup
 off:ρ lb.oL=(9,0)∧H lb.oL=some (.lst (rfs lb.oa))
 ebf:EfsAt C ρ H 20 lb.ebL lb.eba bf.effects
 bbf:BksAt C ρ H 40 lb.bbL lb.bba bf.books
section
variable {C:Cl} {ρ ρ':Rho} {H H':Hp}
theorem kp1 {T:Nat→Prop} (k:Kp T ρ H ρ' H') {a:Addr} {o:HO} {r:Nat × Nat} (e:ρ a=r∧H a=some o) (t:T r.1):ρ' a=r∧H' a=some o:=by
 obtain ⟨e1,e2⟩:=k a o (by rw [e.1];exact t) e.2
 exact ⟨e1.trans e.1,e2⟩
theorem kpE {T:Nat→Prop} (k:Kp T ρ H ρ' H') {a:Addr} {r:Nat × Nat} {α:Type} {f:α→HO} (e:ρ a=r∧∃ x,H a=some (f x)) (t:T r.1):ρ' a=r∧∃ x,H' a=some (f x):=by
 obtain ⟨e0,x,e⟩:=e
 obtain ⟨h1,h2⟩:=kp1 k ⟨e0,e⟩ t
 exact ⟨h1,x,h2⟩
theorem EfAt.keep {τ:Nat} {a:Addr} {e:Ef} (h:EfAt C ρ H τ a e) (k:Kp (fun n=>τ≤n∧n≤τ + 4) ρ H ρ' H'):EfAt C ρ' H' τ a e:=by
 refine zh0 ?_;simp (disch:=k_dflt (
 refine zh2 ?_
 obtain ⟨h0,dx,lt,ls,ld,h1,h2,h3,h4⟩:=h
 obtain ⟨g0,g1⟩:=kp1 k ⟨h0,h1⟩ ⟨Nat.le_refl _,by show τ≤τ + 4;omega⟩
 exact ⟨g0,dx,lt,ls,ld,g1,kp1 k h2 ⟨by show τ≤τ + 1;omega,by show τ + 1≤τ + 4;omega⟩,kp1 k h3 ⟨by show τ≤τ + 2;omega,by show τ + 2≤τ + 4;omega⟩,kp1 k h4 ⟨by show τ≤τ + 3;omega,by show τ + 3≤τ + 4;omega⟩⟩)) only [↓zh1]
theorem pMap {α β:Type} {F G:α→β→Prop} (f:∀ a b,F a b→G a b):∀ {l:List α} {m:List β},Paired F l m→Paired G l m
 | _,_,.nil=>.nil
 | _,_,.cons r t=>.cons (f _ _ r) (pMap f t)
theorem EfsAt.keep {τ:Nat} {l:Addr} {as:List Addr} {es:List Ef} (h:EfsAt C ρ H τ l as es) (k:Kp (fun n=>τ≤n∧n≤τ + 4) ρ H ρ' H'):EfsAt C ρ' H' τ l as es :=
 ⟨kp1 k h.1 ⟨by show τ≤τ + 4;omega,Nat.le_refl _⟩,pMap (fun _ _ q=>q.keep k) h.2⟩
theorem BksAt.keep {τ:Nat} {l:Addr} {as:List Addr} {bs:List Bk} (h:BksAt C ρ H τ l as bs) (k:Kp (fun n=>τ≤n∧n≤τ + 1) ρ H ρ' H'):BksAt C ρ' H' τ l as bs :=
 ⟨kp1 k h.1 ⟨Nat.le_refl _,Nat.le_succ _⟩,h.2.1,fun i a b ha hb=>kpE k (h.2.2 i a b ha hb) ⟨Nat.le_succ _,Nat.le_refl _⟩⟩
theorem ThsAt.keep {l:Addr} {as:List Addr} {ts:List Th} (h:ThsAt C ρ H l as ts) (k:Kp (fun n=>4≤n∧n≤5) ρ H ρ' H'):ThsAt C ρ' H' l as ts :=
 ⟨kp1 k h.1 ⟨Nat.le_refl _,by decide⟩,h.2.1,fun i a b ha hb=>kpE k (h.2.2 i a b ha hb) ⟨by show 4≤5;decide,Nat.le_refl _⟩⟩
theorem SdsAt.keep {l a0 a1:Addr} {s:Sd × Sd} (h:SdsAt C ρ H l a0 a1 s) (k:Kp (fun n=>2≤n∧n≤3) ρ H ρ' H'):SdsAt C ρ' H' l a0 a1 s :=
 ⟨kp1 k h.1 ⟨Nat.le_refl _,by show 2≤3;decide⟩,kpE k h.2.1 ⟨by show 2≤3;decide,Nat.le_refl _⟩,kpE k h.2.2 ⟨by show 2≤3;decide,Nat.le_refl _⟩⟩
theorem EvAt.keep {a:Addr} {v:Ev} (h:EvAt C ρ H a v) (k:Kp (fun n=>50≤n∧n≤51) ρ H ρ' H'):EvAt C ρ' H' a v:=by
 obtain ⟨h0,dx,lu,h1,h2,h3⟩:=h
 obtain ⟨g0,g1⟩:=kp1 k ⟨h0,h1⟩ ⟨Nat.le_refl _,by show 50≤51;decide⟩
 obtain ⟨g2,g3⟩:=kp1 k ⟨h2,h3⟩ ⟨by show 50≤51;decide,Nat.le_refl _⟩
 exact ⟨g0,dx,lu,g1,g2,g3⟩
def inTab (n:Nat):Prop:=n=1∨n=2∨n=3∨n=4∨n=5∨(10≤n∧n≤14)∨n=30∨n=31
def inBat (n:Nat):Prop:=n=6∨n=7∨n=8∨n=9∨(20≤n∧n≤24)∨n=40∨n=41∨n=50∨n=51
theorem Rep.keep {t:Addr} {lo:Lo} {bV:V} {w:W} (R:Rep C ρ H t lo bV w) (k:Kp inTab ρ H ρ' H') (d:∀ b,H' b=none→ρ' b=(0,0)):Rep C ρ' H' t lo bV w :=
 ⟨d,kpE k R.tb (.inl rfl),R.sd.keep (k.mono fun n h=>by unfold inTab;omega),R.th.keep (k.mono fun n h=>by unfold inTab;omega),R.ef.keep (k.mono fun n h=>by unfold inTab;omega),R.bk.keep (k.mono fun n h=>by unfold inTab;omega)⟩
theorem Bat.keep {b:Addr} {lb:Lb} {w bf:W} (B:Bat C ρ H b lb w bf) (k:Kp inBat ρ H ρ' H'):Bat C ρ' H' b lb w bf:=by
 refine zh0 ?_;simp (disch:=k_dflt (
 refine zh2 ?_
 have ke:Kp (fun n=>50≤n∧n≤51) ρ H ρ' H':=k.mono fun n h=>by unfold inBat;omega
 exact ⟨kpE k B.bt (.inl rfl),⟨kp1 k B.row.1 (.inr (.inl rfl)),pMap (fun _ _ q=>q.keep ke) B.row.2⟩,⟨kp1 k B.set.1 (.inr (.inr (.inl rfl))),pMap (fun _ _ q=>q.keep ke) B.set.2⟩,B.nd,
  kp1 k B.off (.inr (.inr (.inr (.inl rfl)))),B.ebf.keep (k.mono fun n h=>by unfold inBat;omega),B.bbf.keep (k.mono fun n h=>by unfold inBat;omega)⟩)) only [↓zh1]
theorem dom_same {ρ:Rho} {H H':Hp} (d:∀ b,H b=none→ρ b=(0,0)) (s:Same H H'):∀ b,H' b=none→ρ b=(0,0):=fun b h=>d b (by
 cases q:H b with
 | none=>rfl
 | some o=>rw [s b o q] at h;cases h)
theorem dom_upd {ρ:Rho} {H:Hp} (d:∀ b,H b=none→ρ b=(0,0)) {a:Addr} {o:HO}:∀ b,upd H a o b=none→ρ b=(0,0):=fun b h=>by
 by_cases q:b=a
 ·rw [q,upd_same] at h;cases h
 rw [upd_ne q] at h;exact d b h
theorem dom_role {ρ:Rho} {H:Hp} (d:∀ b,H b=none→ρ b=(0,0)) {a:Addr} {o:HO} {r:Nat × Nat} (e:H a=some o):∀ b,H b=none→upR ρ a r b=(0,0):=fun b h=>by
 rw [upR_ne (fun q=>by rw [q,e] at h;cases h)];exact d b h
theorem Rep.same {t:Addr} {lo:Lo} {bV:V} {w:W} (R:Rep C ρ H t lo bV w) (s:Same H H'):Rep C ρ H' t lo bV w:=R.keep (Kp.same s) (dom_same R.dom s)
theorem Bat.same {b:Addr} {lb:Lb} {w bf:W} (B:Bat C ρ H b lb w bf) (s:Same H H'):Bat C ρ H' b lb w bf:=B.keep (Kp.same s)
end
end Du
set_option linter.all false
set_option maxRecDepth 100000
namespace Du
open PySem L2 Dm
section
variable {C:Cl} {ρ:Rho} {H:Hp} {t b:Addr} {lo:Lo} {lb:Lb} {bV:V} {w bf:W}
theorem ins_inj {P:Addr} {dx dx':Addr} {fs fs':List (Str × V)} {C C':Addr} (h:H P=some (.ins C dx fs)) (h':H P=some (.ins C' dx' fs')):dx=dx'∧fs=fs':=by
 rw [h] at h'
 cases h'
 exact ⟨rfl,rfl⟩
theorem Rep.adopt {l:Addr} {o:HO} {r:Nat × Nat} (R:Rep C ρ H t lo bV w) (h:H l=none):Rep C (upR ρ l r) (upd H l o) t lo bV w :=
 R.keep (Kp.adopt h) fun b hb=>by
  by_cases q:b=l
  ·rw [q,upd_same] at hb;cases hb
  rw [upd_ne q] at hb;rw [upR_ne q];exact R.dom b hb
theorem Bat.adopt {l:Addr} {o:HO} {r:Nat × Nat} (B:Bat C ρ H b lb w bf) (h:H l=none):Bat C (upR ρ l r) (upd H l o) b lb w bf:=B.keep (Kp.adopt h)
theorem Rep.role {l:Addr} {o:HO} {r:Nat × Nat} (R:Rep C ρ H t lo bV w) (e:H l=some o) (h:¬ inTab (ρ l).1):Rep C (upR ρ l r) H t lo bV w:=R.keep (Kp.role h) (dom_role R.dom e)
theorem Bat.role {l:Addr} {r:Nat × Nat} (B:Bat C ρ H b lb w bf) (h:¬ inBat (ρ l).1):Bat C (upR ρ l r) H b lb w bf:=B.keep (Kp.role h)
theorem Rep.upd0 {a:Addr} {o:HO} (R:Rep C ρ H t lo bV w) (h:¬ inTab (ρ a).1):Rep C ρ (upd H a o) t lo bV w:=R.keep (Kp.upd h) (dom_upd R.dom)
theorem Bat.upd0 {a:Addr} {o:HO} (B:Bat C ρ H b lb w bf) (h:¬ inBat (ρ a).1):Bat C ρ (upd H a o) b lb w bf:=B.keep (Kp.upd h)
theorem BksAt.set {τ:Nat} {l:Addr} {as:List Addr} {bs:List Bk} (h:BksAt C ρ H τ l as bs) {k:Nat} {a:Addr} {x y:Bk} {dx:Addr} (ha:as[k]?=some a) (hx:bs[k]?=some x):BksAt C ρ (upd H a (.ins C.book dx (bkFs y))) τ l as (bs.set k y):=by
 refine zh0 ?_;simp (disch:=k_dflt (
 refine zh2 ?_
 obtain ⟨h0,hl,hi⟩:=h
 obtain ⟨ra,_⟩:=hi k a x ha hx
 refine ⟨⟨h0.1,?_⟩,by rw [List.length_set];exact hl,fun j c z hc hz=>?_⟩
 ·rw [upd_ne (fun q=>by rw [q,ra] at h0;exact absurd (congrArg Prod.fst h0.1) (by simp))];exact h0.2
 by_cases q:j=k
 ·subst q
  have e1:a=c:=Option.some.inj (ha.symm.trans hc)
  subst e1
  rw [List.getElem?_set_self (List.getElem?_eq_some_iff.mp hx).1] at hz
  have e2:=Option.some.inj hz
  subst e2
  exact ⟨ra,dx,upd_same⟩
 rw [List.getElem?_set_ne (fun z=>q z.symm)] at hz
 obtain ⟨rc,d,hc'⟩:=hi j c z hc hz
 refine ⟨rc,d,?_⟩
 rw [upd_ne (fun z=>by rw [z,ra] at rc;exact q (congrArg Prod.snd rc).symm)]
 exact hc')) only [↓zh1]
theorem Rep.book (R:Rep C ρ H t lo bV w) {k:Nat} {a:Addr} {x y:Bk} {dx:Addr} (ha:lo.ba[k]?=some a) (hx:w.books[k]?=some x):Rep C ρ (upd H a (.ins C.book dx (bkFs y))) t lo bV { w with books:=w.books.set k y }:=by
 refine zh0 ?_;simp (disch:=k_dflt (
 refine zh2 ?_
 have ra:=(R.bk.2.2 k a x ha hx).1
 have kp:Kp (fun n=>n≠31) ρ H ρ (upd H a (.ins C.book dx (bkFs y))):=Kp.upd (by rw [ra];simp)
 exact ⟨dom_upd R.dom,kpE kp R.tb (by decide),R.sd.keep (kp.mono fun n h=>by omega),R.th.keep (kp.mono fun n h=>by omega),R.ef.keep (kp.mono fun n h=>by omega),R.bk.set ha hx⟩)) only [↓zh1]
theorem Bat.book (R:Rep C ρ H t lo bV w) (B:Bat C ρ H b lb w bf) {k:Nat} {a:Addr} {x:Bk} {o:HO} (ha:lo.ba[k]?=some a) (hx:w.books[k]?=some x) {bs:List Bk}:Bat C ρ (upd H a o) b lb { w with books:=bs } bf:=by
 have ra:=(R.bk.2.2 k a x ha hx).1
 have B':=B.upd0 (a:=a) (o:=o) (by rw [ra];show ¬ inBat 31;unfold inBat;decide)
 exact ⟨B'.bt,B'.row,B'.set,B'.nd,B'.off,B'.ebf,B'.bbf⟩
theorem EvAt.upd_ne {a c:Addr} {v:Ev} {o:HO} (h:EvAt C ρ H c v) (ra:ρ a=(50,0)) (n:c≠a):EvAt C ρ (upd H a o) c v:=by
 obtain ⟨h0,dx,lu,h1,h2,h3⟩:=h
 refine ⟨h0,dx,lu,by rw [L2.upd_ne n];exact h1,h2,?_⟩
 rw [L2.upd_ne (fun q=>by rw [q,ra] at h2;cases h2)]
 exact h3
theorem pMem {α β:Type} {F G:α→β→Prop}:∀ {l:List α} {m:List β},Paired F l m→(∀ a b,a∈l→F a b→G a b)→Paired G l m
 | _,_,.nil,_=>.nil
 | _,_,.cons r t,f=>.cons (f _ _ List.mem_cons_self r) (pMem t fun a b h=>f a b (List.mem_cons_of_mem _ h))
theorem Bat.ev0 (B:Bat C ρ H b lb w bf) {a:Addr} {ra:List Addr} {v v':Ev} {r:List Ev} {dx lu:Addr} (hra:lb.ra=a :: ra) (ht:w.todo=v :: r) (hl:ρ lu=(51,0)) (hu:H lu=some (.lst (ivs (castL v'.used)))) :
  Bat C ρ (upd H a (.ins C.event dx (evFs v' lu))) b lb { w with todo:=v' :: r } bf:=by
 refine zh0 ?_;simp (disch:=k_dflt (
 refine zh2 ?_
 have hrow:=B.row.2
 rw [hra,ht] at hrow
 cases hrow with
 | cons h1 h2 =>
  have ra0:ρ a=(50,0):=h1.1
  have nd:=B.nd
  rw [hra,List.cons_append,List.nodup_cons] at nd
  have kp:Kp (fun n=>n≠50) ρ H ρ (upd H a (.ins C.event dx (evFs v' lu))):=Kp.upd (by rw [ra0];simp)
  refine ⟨kpE kp B.bt (by decide),⟨kp1 kp B.row.1 (by decide),?_⟩,⟨kp1 kp B.set.1 (by decide),?_⟩,B.nd,kp1 kp B.off (by decide),B.ebf.keep (kp.mono fun n h=>by omega),B.bbf.keep (kp.mono fun n h=>by omega)⟩
  ·rw [hra]
   refine .cons ⟨ra0,dx,lu,upd_same,hl,?_⟩ (pMem h2 fun c x hc q=>q.upd_ne ra0 fun z=>nd.1 (List.mem_append_left _ (by rw [← z];exact hc)))
   rw [L2.upd_ne (fun q=>by rw [q,ra0] at hl;cases hl)]
   exact hu
  exact pMem B.set.2 fun c x hc q=>q.upd_ne ra0 fun z=>nd.1 (List.mem_append_right _ (by rw [← z];exact hc)))) only [↓zh1]
theorem Bat.first (B:Bat C ρ H b lb w bf) {v:Ev} {r:List Ev} (ht:w.todo=v :: r):∃ a ra,lb.ra=a :: ra∧EvAt C ρ H a v:=by
 have h:=B.row.2
 rw [ht] at h
 cases h':lb.ra with
 | nil=>rw [h'] at h;cases h
 | cons a ra =>
  rw [h'] at h
  cases h with
  | cons h1 h2=>exact ⟨a,ra,rfl,h1⟩
theorem Rep.ev (R:Rep C ρ H t lo bV w) {a:Addr} {o:HO} {vs:List Ev} (ra:ρ a=(50,0)):Rep C ρ (upd H a o) t lo bV { w with todo:=vs }:=by
 have R':=R.upd0 (a:=a) (o:=o) (by rw [ra];unfold inTab;decide)
 exact ⟨R'.dom,R'.tb,R'.sd,R'.th,R'.ef,R'.bk⟩
theorem Bat.behind (B:Bat C ρ H b lb w bf) {a n:Addr} {ra:List Addr} {v x:Ev} {r:List Ev} (hra:lb.ra=a :: ra) (ht:w.todo=v :: r) (hn:EvAt C ρ H n x) (hnew:n ∉ lb.ra++lb.sa) :
  Bat C ρ (upd H lb.rL (.lst (rfs (a :: n :: ra)))) b { lb with ra:=a :: n :: ra } { w with todo:=v :: x :: r } bf:=by
 refine zh0 ?_;simp (disch:=k_dflt (
 refine zh2 ?_
 have rr:ρ lb.rL=(7,0):=B.row.1.1
 have kp:Kp (fun k=>k≠7) ρ H ρ (upd H lb.rL (.lst (rfs (a :: n :: ra)))):=Kp.upd (by rw [rr];simp)
 have ke:Kp (fun n=>50≤n∧n≤51) ρ H ρ (upd H lb.rL (.lst (rfs (a :: n :: ra)))):=kp.mono fun n h=>by omega
 have hrow:=B.row.2
 rw [hra,ht] at hrow
 have nd:=B.nd
 rw [hra,List.cons_append] at nd hnew
 cases hrow with
 | cons h1 h2 =>
  refine ⟨kpE kp B.bt (by decide),⟨⟨rr,upd_same⟩,.cons (h1.keep ke) (.cons (hn.keep ke) (pMap (fun _ _ q=>q.keep ke) h2))⟩,⟨kp1 kp B.set.1 (by decide),pMap (fun _ _ q=>q.keep ke) B.set.2⟩,?_,kp1 kp B.off (by decide),B.ebf.keep (kp.mono fun n h=>by omega),B.bbf.keep (kp.mono fun n h=>by omega)⟩
  show (a :: n :: (ra++lb.sa)).Nodup
  rw [List.nodup_cons] at nd
  rw [List.mem_cons,not_or] at hnew
  exact List.nodup_cons.mpr ⟨fun h=>by
   rcases List.mem_cons.mp h with q | q
   ·exact hnew.1 q.symm
   exact nd.1 q,List.nodup_cons.mpr ⟨hnew.2,nd.2⟩⟩)) only [↓zh1]
theorem Bat.drop (B:Bat C ρ H b lb w bf) {a:Addr} {ra:List Addr} {v:Ev} {r:List Ev} (hra:lb.ra=a :: ra) (ht:w.todo=v :: r) :
  Bat C ρ (upd H lb.rL (.lst (rfs ra))) b { lb with ra:=ra } { w with todo:=r } bf:=by
 refine zh0 ?_;simp (disch:=k_dflt (
 refine zh2 ?_
 have rr:ρ lb.rL=(7,0):=B.row.1.1
 have kp:Kp (fun k=>k≠7) ρ H ρ (upd H lb.rL (.lst (rfs ra))):=Kp.upd (by rw [rr];simp)
 have ke:Kp (fun n=>50≤n∧n≤51) ρ H ρ (upd H lb.rL (.lst (rfs ra))):=kp.mono fun n h=>by omega
 have hrow:=B.row.2
 rw [hra,ht] at hrow
 have nd:=B.nd
 rw [hra,List.cons_append,List.nodup_cons] at nd
 cases hrow with
 | cons h1 h2 =>
  exact ⟨kpE kp B.bt (by decide),⟨⟨rr,upd_same⟩,pMap (fun _ _ q=>q.keep ke) h2⟩,⟨kp1 kp B.set.1 (by decide),pMap (fun _ _ q=>q.keep ke) B.set.2⟩,nd.2,kp1 kp B.off (by decide),B.ebf.keep (kp.mono fun n h=>by omega),B.bbf.keep (kp.mono fun n h=>by omega)⟩)) only [↓zh1]
theorem Bat.settle (B:Bat C ρ H b lb w bf) {a:Addr} {ra:List Addr} {v:Ev} {r:List Ev} (hra:lb.ra=a :: ra) (ht:w.todo=v :: r) :
  Bat C ρ (upd (upd H lb.rL (.lst (rfs ra))) lb.sL (.lst (rfs (lb.sa++[a])))) b { lb with ra:=ra,sa:=lb.sa++[a] } { w with todo:=r,settled:=w.settled++[v] } bf:=by
 refine zh0 ?_;simp (disch:=k_dflt (
 refine zh2 ?_
 have hrow:=B.row.2
 rw [hra,ht] at hrow
 have nd0:=B.nd
 rw [hra] at nd0
 cases hrow with
 | cons h1 h2 =>
  have D:=B.drop hra ht
  have ke0:Kp (fun n=>50≤n∧n≤51) ρ H ρ (upd H lb.rL (.lst (rfs ra))):=Kp.upd (by rw [B.row.1.1];simp)
  have h1':=h1.keep ke0
  have rr:ρ lb.sL=(8,0):=B.set.1.1
  have kp:Kp (fun k=>k≠8) ρ (upd H lb.rL (.lst (rfs ra))) ρ (upd (upd H lb.rL (.lst (rfs ra))) lb.sL (.lst (rfs (lb.sa++[a])))):=Kp.upd (by rw [rr];simp)
  have ke:Kp (fun n=>50≤n∧n≤51) ρ (upd H lb.rL (.lst (rfs ra))) ρ (upd (upd H lb.rL (.lst (rfs ra))) lb.sL (.lst (rfs (lb.sa++[a])))):=kp.mono fun n h=>by omega
  refine ⟨kpE kp D.bt (by decide),⟨kp1 kp D.row.1 (by decide),pMap (fun _ _ q=>q.keep ke) D.row.2⟩,⟨⟨rr,upd_same⟩,Paired.snoc (pMap (fun _ _ q=>q.keep ke) D.set.2) (h1'.keep ke)⟩,?_,kp1 kp D.off (by decide),D.ebf.keep (kp.mono fun n h=>by omega),D.bbf.keep (kp.mono fun n h=>by omega)⟩
  show (ra++(lb.sa++[a])).Nodup
  rw [← List.append_assoc]
  refine (List.Perm.nodup_iff ?_).mpr nd0
  exact List.perm_append_comm.trans (List.Perm.refl _))) only [↓zh1]
theorem EfAt.apart {τ:Nat} {c:Addr} {x:Ef} {H':Hp} {i:Nat} (h:EfAt C ρ H τ c x) (hi:x.id≠i) (k:∀ b o,(ρ b).2≠i→H b=some o→H' b=some o):EfAt C ρ H' τ c x:=by
 refine zh0 ?_;simp (disch:=k_dflt (
 refine zh2 ?_
 obtain ⟨h0,dx,lt,ls,ld,h1,h2,h3,h4⟩:=h
 exact ⟨h0,dx,lt,ls,ld,k c _ (by rw [h0];exact hi) h1,⟨h2.1,k lt _ (by rw [h2.1];exact hi) h2.2⟩,⟨h3.1,k ls _ (by rw [h3.1];exact hi) h3.2⟩,⟨h4.1,k ld _ (by rw [h4.1];exact hi) h4.2⟩⟩)) only [↓zh1]
def pick (p:Ef→Bool):List Addr→List Ef→List Addr
 | a :: as,e :: es=>if p e=true then a :: pick p as es else pick p as es
 | _,_=>[]
theorem pick_paired {F:Addr→Ef→Prop} (p:Ef→Bool):∀ {as:List Addr} {es:List Ef},Paired F as es→Paired F (pick p as es) (es.filter p)
 | _,_,.nil=>.nil
 | a :: as,e :: es,.cons r t=>by
  unfold pick
  rw [List.filter_cons]
  by_cases q:p e=true
  ·rw [if_pos q,if_pos q];exact .cons r (pick_paired p t)
  rw [if_neg q,if_neg q];exact pick_paired p t
theorem Rep.effs (R:Rep C ρ H t lo bV w) {l:Addr} {dx:Addr} {as:List Addr} {es:List Ef} (hl:H l=none) (hp:Paired (EfAt C ρ H 10) as es) :
  Rep C (upR ρ l (14,0)) (upd (upd H l (.lst (rfs as))) t (.ins C.table dx (tbFs lo.sL lo.tL l w.last lo.bL bV))) t { lo with eL:=l,ea:=as } bV { w with effects:=es }:=by
 refine zh0 ?_;simp (disch:=k_dflt (
 refine zh2 ?_
 have ntl:t≠l:=let ⟨_,_,h⟩:=R.tb;ne_of_none h hl
 have A:=R.adopt (l:=l) (o:=.lst (rfs as)) (r:=(14,0)) hl
 have rt:upR ρ l (14,0) t=(1,0):=A.tb.1
 have kp:Kp (fun k=>k≠1) (upR ρ l (14,0)) (upd H l (.lst (rfs as))) (upR ρ l (14,0)) (upd (upd H l (.lst (rfs as))) t (.ins C.table dx (tbFs lo.sL lo.tL l w.last lo.bL bV))):=Kp.upd (by rw [rt];simp)
 have k0:Kp (fun n=>10≤n∧n≤14) ρ H (upR ρ l (14,0)) (upd H l (.lst (rfs as))):=Kp.adopt hl
 have kp':Kp (fun n=>10≤n∧n≤14) (upR ρ l (14,0)) (upd H l (.lst (rfs as))) (upR ρ l (14,0)) (upd (upd H l (.lst (rfs as))) t (.ins C.table dx (tbFs lo.sL lo.tL l w.last lo.bL bV))):=kp.mono fun n h=>by omega
 refine ⟨dom_upd A.dom,⟨rt,dx,upd_same⟩,A.sd.keep (kp.mono fun n h=>by omega),A.th.keep (kp.mono fun n h=>by omega),⟨⟨upR_same,?_⟩,pMap (fun _ _ q=>(q.keep k0).keep kp') hp⟩,A.bk.keep (kp.mono fun n h=>by omega)⟩
 rw [upd_ne (fun z=>ntl z.symm),upd_same])) only [↓zh1]
theorem Bat.effs (R:Rep C ρ H t lo bV w) (B:Bat C ρ H b lb w bf) {l:Addr} {o o':HO} {r:Nat × Nat} {es:List Ef} (hl:H l=none):Bat C (upR ρ l r) (upd (upd H l o) t o') b lb { w with effects:=es } bf:=by
 refine zh0 ?_;simp (disch:=k_dflt (
 refine zh2 ?_
 have A:=B.adopt (l:=l) (o:=o) (r:=r) hl
 have rt:upR ρ l r t=(1,0):=by rw [upR_ne (let ⟨_,_,h⟩:=R.tb;ne_of_none h hl)];exact R.tb.1
 have B':=A.upd0 (a:=t) (o:=o') (by rw [rt];unfold inBat;decide)
 exact ⟨B'.bt,B'.row,B'.set,B'.nd,B'.off,B'.ebf,B'.bbf⟩)) only [↓zh1]
theorem Bat.offer (B:Bat C ρ H b lb w bf) {l dx:Addr} {oa:List Addr} (h0:ρ l=(0,0)) (hl:H l=some (.lst (rfs oa))) :
  Bat C (upR ρ l (9,0)) (upd H b (.ins C.batch dx (btFs lb.rL lb.sL l lb.ebL lb.bbL))) b { lb with oL:=l,oa:=oa } w bf:=by
 refine zh0 ?_;simp (disch:=k_dflt (
 refine zh2 ?_
 have A:=B.role (l:=l) (r:=(9,0)) (by rw [h0];unfold inBat;decide)
 have nlb:l≠b:=fun q=>by rw [q,B.bt.1] at h0;cases h0
 have rb:upR ρ l (9,0) b=(6,0):=A.bt.1
 have kp:Kp (fun k=>k≠6) (upR ρ l (9,0)) H (upR ρ l (9,0)) (upd H b (.ins C.batch dx (btFs lb.rL lb.sL l lb.ebL lb.bbL))):=Kp.upd (by rw [rb];simp)
 have ke:Kp (fun n=>50≤n∧n≤51) (upR ρ l (9,0)) H (upR ρ l (9,0)) (upd H b (.ins C.batch dx (btFs lb.rL lb.sL l lb.ebL lb.bbL))):=kp.mono fun n h=>by omega
 exact ⟨⟨rb,dx,upd_same⟩,⟨kp1 kp A.row.1 (by decide),pMap (fun _ _ q=>q.keep ke) A.row.2⟩,⟨kp1 kp A.set.1 (by decide),pMap (fun _ _ q=>q.keep ke) A.set.2⟩,A.nd,⟨upR_same,by rw [upd_ne nlb];exact hl⟩,A.ebf.keep (kp.mono fun n h=>by omega),A.bbf.keep (kp.mono fun n h=>by omega)⟩)) only [↓zh1]
theorem Rep.offer (R:Rep C ρ H t lo bV w) {l:Addr} {o o':HO} {r:Nat × Nat} (h0:ρ l=(0,0)) (hl:H l=some o) (hb:ρ b=(6,0)):Rep C (upR ρ l r) (upd H b o') t lo bV w:=by
 have A:=R.role (l:=l) (r:=r) hl (by rw [h0];unfold inTab;decide)
 have nlb:b≠l:=fun q=>by rw [← q,hb] at h0;cases h0
 exact A.upd0 (by rw [upR_ne nlb,hb];unfold inTab;decide)
theorem Rep.batch (R:Rep C ρ H t lo bV w) {dx:Addr} {bV':V}:Rep C ρ (upd H t (.ins C.table dx (tbFs lo.sL lo.tL lo.eL w.last lo.bL bV'))) t lo bV' w:=by
 refine zh0 ?_;simp (disch:=k_dflt (
 refine zh2 ?_
 have kp:Kp (fun k=>k≠1) ρ H ρ (upd H t (.ins C.table dx (tbFs lo.sL lo.tL lo.eL w.last lo.bL bV'))):=Kp.upd (by rw [R.tb.1];simp)
 exact ⟨dom_upd R.dom,⟨R.tb.1,dx,upd_same⟩,R.sd.keep (kp.mono fun n h=>by omega),R.th.keep (kp.mono fun n h=>by omega),R.ef.keep (kp.mono fun n h=>by omega),R.bk.keep (kp.mono fun n h=>by omega)⟩)) only [↓zh1]
theorem Rep.side0 (R:Rep C ρ H t lo bV w) {dx:Addr} {s:Sd}:Rep C ρ (upd H lo.s0 (.ins C.side dx (sdFs s))) t lo bV { w with sides:=(s,w.sides.2) }:=by
 refine zh0 ?_;simp (disch:=k_dflt (
 refine zh2 ?_
 obtain ⟨h0,h1,h2⟩:=R.sd
 have kp:Kp (fun k=>k≠3) ρ H ρ (upd H lo.s0 (.ins C.side dx (sdFs s))):=Kp.upd (by rw [h1.1];simp)
 refine ⟨dom_upd R.dom,kpE kp R.tb (by decide),⟨kp1 kp h0 (by decide),⟨h1.1,dx,upd_same⟩,h2.1,?_⟩,R.th.keep (kp.mono fun n h=>by omega),R.ef.keep (kp.mono fun n h=>by omega),R.bk.keep (kp.mono fun n h=>by omega)⟩
 obtain ⟨r,d,q⟩:=h2
 exact ⟨d,by rw [upd_ne (fun z=>by rw [z,h1.1] at r;cases r)];exact q⟩)) only [↓zh1]
theorem Rep.side1 (R:Rep C ρ H t lo bV w) {dx:Addr} {s:Sd}:Rep C ρ (upd H lo.s1 (.ins C.side dx (sdFs s))) t lo bV { w with sides:=(w.sides.1,s) }:=by
 refine zh0 ?_;simp (disch:=k_dflt (
 refine zh2 ?_
 obtain ⟨h0,h1,h2⟩:=R.sd
 have kp:Kp (fun k=>k≠3) ρ H ρ (upd H lo.s1 (.ins C.side dx (sdFs s))):=Kp.upd (by rw [h2.1];simp)
 refine ⟨dom_upd R.dom,kpE kp R.tb (by decide),⟨kp1 kp h0 (by decide),⟨h1.1,?_⟩,⟨h2.1,dx,upd_same⟩⟩,R.th.keep (kp.mono fun n h=>by omega),R.ef.keep (kp.mono fun n h=>by omega),R.bk.keep (kp.mono fun n h=>by omega)⟩
 obtain ⟨r,d,q⟩:=h1
 exact ⟨d,by rw [upd_ne (fun z=>by rw [z,h2.1] at r;cases r)];exact q⟩)) only [↓zh1]
theorem Rep.thing (R:Rep C ρ H t lo bV w) {k:Nat} {a:Addr} {x y:Th} {dx:Addr} (ha:lo.ta[k]?=some a) (hx:w.things[k]?=some x):Rep C ρ (upd H a (.ins C.thing dx (thFs y))) t lo bV { w with things:=w.things.set k y }:=by
 refine zh0 ?_;simp (disch:=k_dflt (
 refine zh2 ?_
 have ra:=(R.th.2.2 k a x ha hx).1
 have kp:Kp (fun n=>n≠5) ρ H ρ (upd H a (.ins C.thing dx (thFs y))):=Kp.upd (by rw [ra];simp)
 obtain ⟨h0,hl,hi⟩:=R.th
 refine ⟨dom_upd R.dom,kpE kp R.tb (by decide),R.sd.keep (kp.mono fun n h=>by omega),⟨kp1 kp h0 (by decide),by rw [List.length_set];exact hl,fun j c z hc hz=>?_⟩,R.ef.keep (kp.mono fun n h=>by omega),R.bk.keep (kp.mono fun n h=>by omega)⟩
 by_cases q:j=k
 ·subst q
  have e1:a=c:=Option.some.inj (ha.symm.trans hc)
  subst e1
  rw [List.getElem?_set_self (List.getElem?_eq_some_iff.mp hx).1] at hz
  have e2:=Option.some.inj hz
  subst e2
  exact ⟨ra,dx,upd_same⟩
 rw [List.getElem?_set_ne (fun z=>q z.symm)] at hz
 obtain ⟨rc,d,hc'⟩:=hi j c z hc hz
 refine ⟨rc,d,?_⟩
 rw [upd_ne (fun z=>by rw [z,ra] at rc;exact q (congrArg Prod.snd rc).symm)]
 exact hc')) only [↓zh1]
theorem Rep.thingNew (R:Rep C ρ H t lo bV w) {a:Addr} {x:Th} {dx:Addr} (h0:ρ a=(0,0)) (ha:H a=some (.ins C.thing dx (thFs x))) :
  Rep C (upR ρ a (5,w.things.length)) (upd H lo.tL (.lst (rfs (lo.ta++[a])))) t { lo with ta:=lo.ta++[a] } bV { w with things:=w.things++[x] }:=by
 refine zh0 ?_;simp (disch:=k_dflt (
 refine zh2 ?_
 have A:=R.role (l:=a) (r:=(5,w.things.length)) ha (by rw [h0];unfold inTab;decide)
 have rl:upR ρ a (5,w.things.length) lo.tL=(4,0):=A.th.1.1
 have kp:Kp (fun n=>n≠4) (upR ρ a (5,w.things.length)) H (upR ρ a (5,w.things.length)) (upd H lo.tL (.lst (rfs (lo.ta++[a])))):=Kp.upd (by rw [rl];simp)
 obtain ⟨_,hl,hi⟩:=A.th
 refine ⟨dom_upd A.dom,kpE kp A.tb (by decide),A.sd.keep (kp.mono fun n h=>by omega),⟨⟨rl,upd_same⟩,by rw [List.length_append,List.length_append,hl];rfl,fun j c z hc hz=>?_⟩,A.ef.keep (kp.mono fun n h=>by omega),A.bk.keep (kp.mono fun n h=>by omega)⟩
 by_cases q:j < w.things.length
 ·rw [List.getElem?_append_left (by rw [hl];exact q)] at hc
  rw [List.getElem?_append_left q] at hz
  exact kpE kp (hi j c z hc hz) (by show 5≠4;decide)
 have hj:j=w.things.length:=by
  have:=(List.getElem?_eq_some_iff.mp hz).1
  rw [List.length_append,List.length_singleton] at this
  omega
 subst hj
 rw [List.getElem?_append_right (Nat.le_refl _),Nat.sub_self] at hz
 rw [List.getElem?_append_right (by rw [hl];exact Nat.le_refl _),hl,Nat.sub_self] at hc
 have e1:a=c:=Option.some.inj hc
 have e2:x=z:=Option.some.inj hz
 subst e1 e2
 exact kpE kp (r:=(5,w.things.length)) ⟨upR_same,dx,ha⟩ (by show 5≠4;decide))) only [↓zh1]
theorem Rep.number (R:Rep C ρ H t lo bV w) {dx:Addr} {n:Nat}:Rep C ρ (upd H t (.ins C.table dx (tbFs lo.sL lo.tL lo.eL n lo.bL bV))) t lo bV { w with last:=n }:=by
 refine zh0 ?_;simp (disch:=k_dflt (
 refine zh2 ?_
 have kp:Kp (fun k=>k≠1) ρ H ρ (upd H t (.ins C.table dx (tbFs lo.sL lo.tL lo.eL n lo.bL bV))):=Kp.upd (by rw [R.tb.1];simp)
 exact ⟨dom_upd R.dom,⟨R.tb.1,dx,upd_same⟩,R.sd.keep (kp.mono fun n h=>by omega),R.th.keep (kp.mono fun n h=>by omega),R.ef.keep (kp.mono fun n h=>by omega),R.bk.keep (kp.mono fun n h=>by omega)⟩)) only [↓zh1]
structure NewEf (C:Cl) (ρ:Rho) (H:Hp) (a lt ls ld:Addr) (e:Ef):Prop where
 dx:∃ dx,H a=some (.ins C.effect dx (efFs e lt ls ld))
 ht:H lt=some (.lst (ivs (castL e.things)))
 hs:H ls=some (.lst (ivs (castL e.sources)))
 hd:H ld=some (.lst (ivs (actRow e.act)))
 ra:ρ a=(0,0)
 rt:ρ lt=(0,0)
 rs:ρ ls=(0,0)
 rd:ρ ld=(0,0)
 ts:lt≠ls
 td:lt≠ld
 sd:ls≠ld
def efR (ρ:Rho) (τ i:Nat) (a lt ls ld:Addr):Rho:=upR (upR (upR (upR ρ a (τ,i)) lt (τ + 1,i)) ls (τ + 2,i)) ld (τ + 3,i)
theorem NewEf.apart {a lt ls ld:Addr} {e:Ef} (N:NewEf C ρ H a lt ls ld e):a≠lt∧a≠ls∧a≠ld:=by
 obtain ⟨dx,h⟩:=N.dx
 exact ⟨ne_of h N.ht (by intro z;cases z),ne_of h N.hs (by intro z;cases z),ne_of h N.hd (by intro z;cases z)⟩
theorem efR_out {τ i:Nat} {a lt ls ld x:Addr} (h1:x≠a) (h2:x≠lt) (h3:x≠ls) (h4:x≠ld):efR ρ τ i a lt ls ld x=ρ x:=by
 unfold efR;rw [upR_ne h4,upR_ne h3,upR_ne h2,upR_ne h1]
theorem NewEf.kp {a lt ls ld:Addr} {e:Ef} (N:NewEf C ρ H a lt ls ld e) (τ:Nat):Kp (fun n=>n≠0) ρ H (efR ρ τ e.id a lt ls ld) H:=fun b o tb hb=>by
 have h:∀ x,ρ x=(0,0)→b≠x:=fun x hx q=>by rw [q,hx] at tb;exact tb rfl
 exact ⟨efR_out (h a N.ra) (h lt N.rt) (h ls N.rs) (h ld N.rd),hb⟩
theorem NewEf.at_ {a lt ls ld:Addr} {e:Ef} (N:NewEf C ρ H a lt ls ld e) (τ:Nat):EfAt C (efR ρ τ e.id a lt ls ld) H τ a e:=by
 refine zh0 ?_;simp (disch:=k_dflt (
 refine zh2 ?_
 obtain ⟨n1,n2,n3⟩:=N.apart
 obtain ⟨dx,h⟩:=N.dx
 refine ⟨?_,dx,lt,ls,ld,h,⟨?_,N.ht⟩,⟨?_,N.hs⟩,⟨?_,N.hd⟩⟩
 ·unfold efR;rw [upR_ne n3,upR_ne n2,upR_ne n1,upR_same]
 ·unfold efR;rw [upR_ne N.td,upR_ne N.ts,upR_same]
 ·unfold efR;rw [upR_ne N.sd,upR_same]
 unfold efR;rw [upR_same])) only [↓zh1]
theorem NewEf.dom {a lt ls ld:Addr} {e:Ef} (N:NewEf C ρ H a lt ls ld e) (τ:Nat) (d:∀ b,H b=none→ρ b=(0,0)):∀ b,H b=none→efR ρ τ e.id a lt ls ld b=(0,0):=fun b hb=>by
 obtain ⟨dx,h⟩:=N.dx
 have n:∀ x o,H x=some o→b≠x:=fun x o hx q=>by rw [q,hx] at hb;cases hb
 rw [efR_out (n _ _ h) (n _ _ N.ht) (n _ _ N.hs) (n _ _ N.hd)]
 exact d b hb
theorem Rep.newEf (R:Rep C ρ H t lo bV w) {a lt ls ld:Addr} {e:Ef} (N:NewEf C ρ H a lt ls ld e) (τ:Nat):Rep C (efR ρ τ e.id a lt ls ld) H t lo bV w :=
 R.keep ((N.kp τ).mono fun n h=>by unfold inTab at h;omega) (N.dom τ R.dom)
theorem Rep.effNew (R:Rep C ρ H t lo bV w) {a lt ls ld:Addr} {e:Ef} (N:NewEf C ρ H a lt ls ld e) :
  Rep C (efR ρ 10 e.id a lt ls ld) (upd H lo.eL (.lst (rfs (lo.ea++[a])))) t { lo with ea:=lo.ea++[a] } bV { w with effects:=w.effects++[e] }:=by
 refine zh0 ?_;simp (disch:=k_dflt (
 refine zh2 ?_
 have A:=R.newEf N 10
 have rl:efR ρ 10 e.id a lt ls ld lo.eL=(14,0):=A.ef.1.1
 have kp:Kp (fun n=>n≠14) (efR ρ 10 e.id a lt ls ld) H (efR ρ 10 e.id a lt ls ld) (upd H lo.eL (.lst (rfs (lo.ea++[a])))):=Kp.upd (by rw [rl];simp)
 have keep1:∀ c x,EfAt C (efR ρ 10 e.id a lt ls ld) H 10 c x→EfAt C (efR ρ 10 e.id a lt ls ld) (upd H lo.eL (.lst (rfs (lo.ea++[a])))) 10 c x:=fun c x h=>by
  obtain ⟨h0,dx,l1,l2,l3,g1,g2,g3,g4⟩:=h
  obtain ⟨k0,k1⟩:=kp1 kp ⟨h0,g1⟩ (by show 10≠14;decide)
  exact ⟨k0,dx,l1,l2,l3,k1,kp1 kp g2 (by show 11≠14;decide),kp1 kp g3 (by show 12≠14;decide),kp1 kp g4 (by show 13≠14;decide)⟩
 exact ⟨dom_upd A.dom,kpE kp A.tb (by decide),A.sd.keep (kp.mono fun n h=>by omega),A.th.keep (kp.mono fun n h=>by omega),⟨⟨rl,upd_same⟩,Paired.snoc (pMap keep1 A.ef.2) (keep1 _ _ (N.at_ 10))⟩,A.bk.keep (kp.mono fun n h=>by omega)⟩)) only [↓zh1]
def backF (n:Nat):Nat:=if 20≤n∧n≤24 then n - 10 else if n=40∨n=41 then n - 10 else if n≤5 then n else 99
def backR (ρ:Rho):Rho:=fun b=>(backF (ρ b).1,(ρ b).2)
theorem backR_of {a:Addr} {n i m:Nat} (h:ρ a=(n,i)) (e:backF n=m):backR ρ a=(m,i):=by unfold backR;rw [h];subst e;rfl
theorem back_ef {a:Addr} {e:Ef} (h:EfAt C ρ H 20 a e):EfAt C (backR ρ) H 10 a e:=by
 obtain ⟨h0,dx,lt,ls,ld,h1,h2,h3,h4⟩:=h
 exact ⟨backR_of h0 rfl,dx,lt,ls,ld,h1,⟨backR_of h2.1 rfl,h2.2⟩,⟨backR_of h3.1 rfl,h3.2⟩,⟨backR_of h4.1 rfl,h4.2⟩⟩
theorem back_keep {T:Nat→Prop} (h:∀ n,T n→n≤5):Kp T ρ H (backR ρ) H:=fun b o tb hb=>⟨by
 have hb':=h _ tb
 show (backF (ρ b).1,(ρ b).2)=ρ b
 have e:backF (ρ b).1=(ρ b).1:=by unfold backF;rw [if_neg (by omega),if_neg (by omega),if_pos hb']
 rw [e],hb⟩
theorem Rep.back (R:Rep C ρ H t lo bV w) (B:Bat C ρ H b lb w bf) (e1:bf.sides=w.sides) (e2:bf.things=w.things) (e3:bf.last=w.last) {dx:Addr} :
  Rep C (backR ρ) (upd H t (.ins C.table dx (tbFs lo.sL lo.tL lb.ebL w.last lb.bbL .non))) t { lo with eL:=lb.ebL,ea:=lb.eba,bL:=lb.bbL,ba:=lb.bba } .non bf:=by
 refine zh0 ?_;simp (disch:=k_dflt (
 refine zh2 ?_
 have rt:backR ρ t=(1,0):=backR_of R.tb.1 rfl
 have kp:Kp (fun k=>k≠1) (backR ρ) H (backR ρ) (upd H t (.ins C.table dx (tbFs lo.sL lo.tL lb.ebL w.last lb.bbL .non))):=Kp.upd (by rw [rt];simp)
 have sd:=(R.sd.keep (back_keep fun n h=>by omega)).keep (ρ':=backR ρ) (kp.mono fun n h=>by omega)
 have th:=(R.th.keep (back_keep fun n h=>by omega)).keep (ρ':=backR ρ) (kp.mono fun n h=>by omega)
 refine ⟨fun b hb=>?_,⟨rt,dx,by rw [e3];exact upd_same⟩,by rw [e1];exact sd,by rw [e2];exact th,?_,?_⟩
 ·have h0:ρ b=(0,0):=dom_upd R.dom b hb
  exact backR_of h0 rfl
 ·have q:EfsAt C (backR ρ) H 10 lb.ebL lb.eba bf.effects:=⟨⟨backR_of B.ebf.1.1 rfl,B.ebf.1.2⟩,pMap (fun _ _ q=>back_ef q) B.ebf.2⟩
  exact q.keep (kp.mono fun n h=>by omega)
 have q:BksAt C (backR ρ) H 30 lb.bbL lb.bba bf.books:=⟨⟨backR_of B.bbf.1.1 rfl,B.bbf.1.2⟩,B.bbf.2.1,fun k a x ha hx=>by
  obtain ⟨r,d,h⟩:=B.bbf.2.2 k a x ha hx
  exact ⟨backR_of r rfl,d,h⟩⟩
 exact q.keep (kp.mono fun n h=>by omega))) only [↓zh1]
end
end Du
local macro_rules | `(tactic| walk_at "sc")=>`(tactic| exact ⟨rfl,rfl,rfl,by decide +kernel,rfl,by decide +kernel,by decide +kernel⟩)
set_option Elab.async false
set_option linter.all false
set_option maxRecDepth 100000
set_option maxHeartbeats 4000000
namespace Du
open PySem PySem.Spec PyProof.Rows L2
def top (i:Nat):Stmt:=PySem.Challenge.pw_duelevents_s01_answers.main.body.getD i (.Pass ⟨0,0,0,0⟩)
abbrev s_is_side:Stmt:=top 23
theorem sc_is_side:FnScope ["target"] ["target"] (defScope s_is_side):=by walk_at "sc"
abbrev s_is_target:Stmt:=top 24
theorem sc_is_target:FnScope ["number"] ["number"] (defScope s_is_target):=by walk_at "sc"
abbrev s_thing_of:Stmt:=top 25
theorem sc_thing_of:FnScope ["target"] ["target"] (defScope s_thing_of):=by walk_at "sc"
abbrev s_suits:Stmt:=top 26
theorem sc_suits:FnScope ["target","kind"] ["target","kind"] (defScope s_suits):=by walk_at "sc"
abbrev s_Effect_init:Stmt:=inClass (top 32) 0
theorem sc_Effect_init:FnScope ["self","number","traits","things","sources","does"] ["self","number","traits","things","sources","does"] (defScope s_Effect_init):=by walk_at "sc"
abbrev s_Effect_duplicate:Stmt:=inClass (top 32) 1
theorem sc_Effect_duplicate:FnScope ["self","traits"] ["self"] (defScope s_Effect_duplicate):=by walk_at "sc"
abbrev s_Effect_as_row:Stmt:=inClass (top 32) 2
theorem sc_Effect_as_row:FnScope ["self"] ["self"] (defScope s_Effect_as_row):=by walk_at "sc"
abbrev s_fits:Stmt:=top 33
theorem sc_fits:FnScope ["effect","event","befallen"] ["effect","event","befallen"] (defScope s_fits):=by walk_at "sc"
abbrev s_fits_aim:Stmt:=top 34
theorem sc_fits_aim:FnScope ["aim","target"] ["aim","target"] (defScope s_fits_aim):=by walk_at "sc"
abbrev s_fits_whose:Stmt:=top 35
theorem sc_fits_whose:FnScope ["effect","befallen"] ["effect","befallen"] (defScope s_fits_whose):=by walk_at "sc"
abbrev s_fits_things:Stmt:=top 36
theorem sc_fits_things:FnScope ["things","target"] ["things","target"] (defScope s_fits_things):=by walk_at "sc"
abbrev s_fits_sources:Stmt:=top 37
theorem sc_fits_sources:FnScope ["sources","source"] ["sources","source"] (defScope s_fits_sources):=by walk_at "sc"
abbrev s_fits_own:Stmt:=top 38
theorem sc_fits_own:FnScope ["effect","source"] ["effect","source"] (defScope s_fits_own):=by walk_at "sc"
abbrev s_offered_effects:Stmt:=top 39
theorem sc_offered_effects:FnScope ["table","event","befallen","fitting","own","effect"] ["table","event"] (defScope s_offered_effects):=by walk_at "sc"
abbrev s_Event_init:Stmt:=inClass (top 41) 0
theorem sc_Event_init:FnScope ["self","kind","source","target","amount","place","used"] ["self","kind","source","target","amount","place","used"] (defScope s_Event_init):=by walk_at "sc"
abbrev s_Event_as_row:Stmt:=inClass (top 41) 1
theorem sc_Event_as_row:FnScope ["self"] ["self"] (defScope s_Event_as_row):=by walk_at "sc"
abbrev s_Event_mark:Stmt:=inClass (top 41) 2
theorem sc_Event_mark:FnScope ["self","number"] ["self","number"] (defScope s_Event_mark):=by walk_at "sc"
abbrev s_set_amount:Stmt:=top 43
theorem sc_set_amount:FnScope ["table","event","amount","book"] ["table","event","amount"] (defScope s_set_amount):=by walk_at "sc"
abbrev s_put_behind:Stmt:=top 44
theorem sc_put_behind:FnScope ["table","event"] ["table","event"] (defScope s_put_behind):=by walk_at "sc"
abbrev s_use_less:Stmt:=top 45
theorem sc_use_less:FnScope ["table","effect","event"] ["table","effect","event"] (defScope s_use_less):=by walk_at "sc"
abbrev s_use_more:Stmt:=top 46
theorem sc_use_more:FnScope ["table","effect","event"] ["table","effect","event"] (defScope s_use_more):=by walk_at "sc"
abbrev s_use_twice:Stmt:=top 47
theorem sc_use_twice:FnScope ["table","effect","event"] ["table","effect","event"] (defScope s_use_twice):=by walk_at "sc"
abbrev s_use_half:Stmt:=top 48
theorem sc_use_half:FnScope ["table","effect","event"] ["table","effect","event"] (defScope s_use_half):=by walk_at "sc"
abbrev s_use_nothing:Stmt:=top 49
theorem sc_use_nothing:FnScope ["table","effect","event"] ["table","effect","event"] (defScope s_use_nothing):=by walk_at "sc"
abbrev s_use_shield:Stmt:=top 50
theorem sc_use_shield:FnScope ["table","effect","event","taken"] ["table","effect","event"] (defScope s_use_shield):=by walk_at "sc"
abbrev s_use_turn:Stmt:=top 51
theorem sc_use_turn:FnScope ["table","effect","event"] ["table","effect","event"] (defScope s_use_turn):=by walk_at "sc"
abbrev s_use_split:Stmt:=top 52
theorem sc_use_split:FnScope ["table","effect","event","half"] ["table","effect","event"] (defScope s_use_split):=by walk_at "sc"
abbrev s_make_event:Stmt:=top 53
theorem sc_make_event:FnScope ["table","effect","event","kind","amount","book"] ["table","effect","event"] (defScope s_make_event):=by walk_at "sc"
abbrev s_use_instead:Stmt:=top 54
theorem sc_use_instead:FnScope ["table","effect","event","book"] ["table","effect","event"] (defScope s_use_instead):=by walk_at "sc"
abbrev s_use_besides:Stmt:=top 55
theorem sc_use_besides:FnScope ["table","effect","event"] ["table","effect","event"] (defScope s_use_besides):=by walk_at "sc"
abbrev s_use_elsewhere:Stmt:=top 56
theorem sc_use_elsewhere:FnScope ["table","effect","event"] ["table","effect","event"] (defScope s_use_elsewhere):=by walk_at "sc"
abbrev s_use:Stmt:=top 58
theorem sc_use:FnScope ["table","effect","event","deed"] ["table","effect"] (defScope s_use):=by walk_at "sc"
abbrev s_wear:Stmt:=top 59
theorem sc_wear:FnScope ["table","effect"] ["table","effect"] (defScope s_wear):=by walk_at "sc"
abbrev s_Batch_init:Stmt:=inClass (top 61) 0
theorem sc_Batch_init:FnScope ["self","row","effects_before","books_before"] ["self","row","effects_before","books_before"] (defScope s_Batch_init):=by walk_at "sc"
abbrev s_begin:Stmt:=top 62
theorem sc_begin:FnScope ["table","row","effects_before","books_before","event","book","effect"] ["table","row"] (defScope s_begin):=by walk_at "sc"
abbrev s_go_on:Stmt:=top 63
theorem sc_go_on:FnScope ["table","batch"] ["table"] (defScope s_go_on):=by walk_at "sc"
abbrev s_look_at_first:Stmt:=top 64
theorem sc_look_at_first:FnScope ["table","batch","event","offered"] ["table","batch"] (defScope s_look_at_first):=by walk_at "sc"
abbrev s_asked_side:Stmt:=top 65
theorem sc_asked_side:FnScope ["table"] ["table"] (defScope s_asked_side):=by walk_at "sc"
abbrev s_offered_effect:Stmt:=top 66
theorem sc_offered_effect:FnScope ["table","number","effect"] ["table","number"] (defScope s_offered_effect):=by walk_at "sc"
abbrev s_events_left:Stmt:=top 67
theorem sc_events_left:FnScope ["table"] ["table"] (defScope s_events_left):=by walk_at "sc"
abbrev s_choose:Stmt:=top 68
theorem sc_choose:FnScope ["table","effect"] ["table","effect"] (defScope s_choose):=by walk_at "sc"
abbrev s_decline:Stmt:=top 69
theorem sc_decline:FnScope ["table","effect"] ["table","effect"] (defScope s_decline):=by walk_at "sc"
abbrev s_choose_to_the_end:Stmt:=top 70
theorem sc_choose_to_the_end:FnScope ["table"] ["table"] (defScope s_choose_to_the_end):=by walk_at "sc"
abbrev s_take_back:Stmt:=top 71
theorem sc_take_back:FnScope ["table"] ["table"] (defScope s_take_back):=by walk_at "sc"
abbrev s_finish:Stmt:=top 72
theorem sc_finish:FnScope ["table","event","book","effect"] ["table"] (defScope s_finish):=by walk_at "sc"
abbrev s_happen_to_side:Stmt:=top 73
theorem sc_happen_to_side:FnScope ["side","event"] ["side","event"] (defScope s_happen_to_side):=by walk_at "sc"
abbrev s_happen_to_thing:Stmt:=top 74
theorem sc_happen_to_thing:FnScope ["thing","event"] ["thing","event"] (defScope s_happen_to_thing):=by walk_at "sc"
abbrev s_is_within:Stmt:=top 81
theorem sc_is_within:FnScope ["number","least","most"] ["number","least","most"] (defScope s_is_within):=by walk_at "sc"
abbrev s_are_in_ranges:Stmt:=top 82
theorem sc_are_in_ranges:FnScope ["numbers","ranges","number","ends"] ["numbers","ranges"] (defScope s_are_in_ranges):=by walk_at "sc"
abbrev s_are_zero:Stmt:=top 83
theorem sc_are_zero:FnScope ["numbers","number"] ["numbers"] (defScope s_are_zero):=by walk_at "sc"
abbrev s_is_thing_call:Stmt:=top 84
theorem sc_is_thing_call:FnScope ["arguments","rows"] ["arguments","rows"] (defScope s_is_thing_call):=by walk_at "sc"
abbrev s_is_effect_call:Stmt:=top 85
theorem sc_is_effect_call:FnScope ["arguments","rows"] ["arguments","rows"] (defScope s_is_effect_call):=by walk_at "sc"
abbrev s_is_batch_call:Stmt:=top 86
theorem sc_is_batch_call:FnScope ["arguments","rows","row"] ["arguments","rows"] (defScope s_is_batch_call):=by walk_at "sc"
abbrev s_has_no_number:Stmt:=top 87
theorem sc_has_no_number:FnScope ["arguments","rows"] ["arguments","rows"] (defScope s_has_no_number):=by walk_at "sc"
abbrev s_has_one_number:Stmt:=top 88
theorem sc_has_one_number:FnScope ["arguments","rows"] ["arguments","rows"] (defScope s_has_one_number):=by walk_at "sc"
abbrev s_has_two_numbers:Stmt:=top 89
theorem sc_has_two_numbers:FnScope ["arguments","rows"] ["arguments","rows"] (defScope s_has_two_numbers):=by walk_at "sc"
abbrev s_is_row_of_things:Stmt:=top 90
theorem sc_is_row_of_things:FnScope ["row","number"] ["row"] (defScope s_is_row_of_things):=by walk_at "sc"
abbrev s_is_event_row:Stmt:=top 91
theorem sc_is_event_row:FnScope ["row"] ["row"] (defScope s_is_event_row):=by walk_at "sc"
abbrev s_is_does_row:Stmt:=top 92
theorem sc_is_does_row:FnScope ["row","form"] ["row"] (defScope s_is_does_row):=by walk_at "sc"
abbrev s_is_made_event:Stmt:=top 93
theorem sc_is_made_event:FnScope ["kind","target","amount","place"] ["kind","target","amount","place"] (defScope s_is_made_event):=by walk_at "sc"
abbrev s_is_of_its_form:Stmt:=top 95
theorem sc_is_of_its_form:FnScope ["number","arguments","rows","form"] ["number","arguments","rows"] (defScope s_is_of_its_form):=by walk_at "sc"
abbrev s_Side_init:Stmt:=inClass (top 98) 0
theorem sc_Side_init:FnScope ["self"] ["self"] (defScope s_Side_init):=by walk_at "sc"
abbrev s_Side_as_row:Stmt:=inClass (top 98) 1
theorem sc_Side_as_row:FnScope ["self"] ["self"] (defScope s_Side_as_row):=by walk_at "sc"
abbrev s_Thing_init:Stmt:=inClass (top 99) 0
theorem sc_Thing_init:FnScope ["self","side","place"] ["self","side","place"] (defScope s_Thing_init):=by walk_at "sc"
abbrev s_Thing_as_row:Stmt:=inClass (top 99) 1
theorem sc_Thing_as_row:FnScope ["self"] ["self"] (defScope s_Thing_as_row):=by walk_at "sc"
abbrev s_Book_init:Stmt:=inClass (top 100) 0
theorem sc_Book_init:FnScope ["self"] ["self"] (defScope s_Book_init):=by walk_at "sc"
abbrev s_Book_duplicate:Stmt:=inClass (top 100) 1
theorem sc_Book_duplicate:FnScope ["self","twin"] ["self"] (defScope s_Book_duplicate):=by walk_at "sc"
abbrev s_Book_as_row:Stmt:=inClass (top 100) 2
theorem sc_Book_as_row:FnScope ["self"] ["self"] (defScope s_Book_as_row):=by walk_at "sc"
abbrev s_Table_init:Stmt:=inClass (top 101) 0
theorem sc_Table_init:FnScope ["self","kind"] ["self"] (defScope s_Table_init):=by walk_at "sc"
abbrev s_Table_has_thing:Stmt:=inClass (top 101) 1
theorem sc_Table_has_thing:FnScope ["self","number"] ["self","number"] (defScope s_Table_has_thing):=by walk_at "sc"
abbrev s_Table_has_target:Stmt:=inClass (top 101) 2
theorem sc_Table_has_target:FnScope ["self","target"] ["self","target"] (defScope s_Table_has_target):=by walk_at "sc"
abbrev s_Table_has_source:Stmt:=inClass (top 101) 3
theorem sc_Table_has_source:FnScope ["self","source"] ["self","source"] (defScope s_Table_has_source):=by walk_at "sc"
abbrev s_Table_on_field:Stmt:=inClass (top 101) 4
theorem sc_Table_on_field:FnScope ["self","source"] ["self","source"] (defScope s_Table_on_field):=by walk_at "sc"
abbrev s_Table_befallen_side:Stmt:=inClass (top 101) 5
theorem sc_Table_befallen_side:FnScope ["self","target"] ["self","target"] (defScope s_Table_befallen_side):=by walk_at "sc"
abbrev s_Table_thing_numbered:Stmt:=inClass (top 101) 6
theorem sc_Table_thing_numbered:FnScope ["self","number"] ["self","number"] (defScope s_Table_thing_numbered):=by walk_at "sc"
abbrev s_Table_effect_numbered:Stmt:=inClass (top 101) 7
theorem sc_Table_effect_numbered:FnScope ["self","number","effect"] ["self","number"] (defScope s_Table_effect_numbered):=by walk_at "sc"
abbrev s_Table_end_effect:Stmt:=inClass (top 101) 8
theorem sc_Table_end_effect:FnScope ["self","number","effect"] ["self","number"] (defScope s_Table_end_effect):=by walk_at "sc"
abbrev s_how_it_stands:Stmt:=top 115
theorem sc_how_it_stands:FnScope ["table"] ["table"] (defScope s_how_it_stands):=by walk_at "sc"
abbrev s_offered_numbers:Stmt:=top 116
theorem sc_offered_numbers:FnScope ["table","effect"] ["table"] (defScope s_offered_numbers):=by walk_at "sc"
abbrev s_answer_thing:Stmt:=top 117
theorem sc_answer_thing:FnScope ["table","arguments","rows"] ["table","arguments","rows"] (defScope s_answer_thing):=by walk_at "sc"
abbrev s_answer_effect:Stmt:=top 118
theorem sc_answer_effect:FnScope ["table","arguments","rows","source","number"] ["table","arguments","rows"] (defScope s_answer_effect):=by walk_at "sc"
abbrev s_has_room_for_effect:Stmt:=top 119
theorem sc_has_room_for_effect:FnScope ["table","form","multiplying","effect"] ["table","form"] (defScope s_has_room_for_effect):=by walk_at "sc"
abbrev s_is_multiplying:Stmt:=top 120
theorem sc_is_multiplying:FnScope ["form"] ["form"] (defScope s_is_multiplying):=by walk_at "sc"
abbrev s_is_for_kind:Stmt:=top 121
theorem sc_is_for_kind:FnScope ["table","kind","does","form"] ["table","kind","does"] (defScope s_is_for_kind):=by walk_at "sc"
abbrev s_is_possible_target:Stmt:=top 122
theorem sc_is_possible_target:FnScope ["table","target","kind"] ["table","target","kind"] (defScope s_is_possible_target):=by walk_at "sc"
abbrev s_answer_stop:Stmt:=top 123
theorem sc_answer_stop:FnScope ["table","arguments","rows"] ["table","arguments","rows"] (defScope s_answer_stop):=by walk_at "sc"
abbrev s_answer_batch:Stmt:=top 124
theorem sc_answer_batch:FnScope ["table","arguments","rows","row"] ["table","arguments","rows"] (defScope s_answer_batch):=by walk_at "sc"
abbrev s_choice_refusal:Stmt:=top 125
theorem sc_choice_refusal:FnScope ["table","side","number"] ["table","side","number"] (defScope s_choice_refusal):=by walk_at "sc"
abbrev s_answer_choose:Stmt:=top 126
theorem sc_answer_choose:FnScope ["table","arguments","rows","refusal"] ["table","arguments","rows"] (defScope s_answer_choose):=by walk_at "sc"
abbrev s_answer_decline:Stmt:=top 127
theorem sc_answer_decline:FnScope ["table","arguments","rows","refusal","effect"] ["table","arguments","rows"] (defScope s_answer_decline):=by walk_at "sc"
abbrev s_answer_rest:Stmt:=top 128
theorem sc_answer_rest:FnScope ["table","arguments","rows"] ["table","arguments","rows"] (defScope s_answer_rest):=by walk_at "sc"
abbrev s_answer_undo:Stmt:=top 129
theorem sc_answer_undo:FnScope ["table","arguments","rows"] ["table","arguments","rows"] (defScope s_answer_undo):=by walk_at "sc"
abbrev s_answer_ask:Stmt:=top 130
theorem sc_answer_ask:FnScope ["table","arguments","rows","numbers","event"] ["table","arguments","rows"] (defScope s_answer_ask):=by walk_at "sc"
abbrev s_answer_side:Stmt:=top 131
theorem sc_answer_side:FnScope ["table","arguments","rows"] ["table","arguments","rows"] (defScope s_answer_side):=by walk_at "sc"
abbrev s_answer_look:Stmt:=top 132
theorem sc_answer_look:FnScope ["table","arguments","rows"] ["table","arguments","rows"] (defScope s_answer_look):=by walk_at "sc"
abbrev s_answer_effects:Stmt:=top 133
theorem sc_answer_effects:FnScope ["table","arguments","rows"] ["table","arguments","rows"] (defScope s_answer_effects):=by walk_at "sc"
abbrev s_answer_book:Stmt:=top 134
theorem sc_answer_book:FnScope ["table","arguments","rows"] ["table","arguments","rows"] (defScope s_answer_book):=by walk_at "sc"
abbrev s_answer_left:Stmt:=top 135
theorem sc_answer_left:FnScope ["table","arguments","rows"] ["table","arguments","rows"] (defScope s_answer_left):=by walk_at "sc"
abbrev s_one_behind_another:Stmt:=top 136
theorem sc_one_behind_another:FnScope ["shown","answer","each"] ["shown"] (defScope s_one_behind_another):=by walk_at "sc"
abbrev s_answer_own:Stmt:=top 137
theorem sc_answer_own:FnScope ["table","arguments","rows","thing"] ["table","arguments","rows"] (defScope s_answer_own):=by walk_at "sc"
abbrev s_answer_call:Stmt:=top 139
theorem sc_answer_call:FnScope ["table","number","arguments","rows","answerer"] ["table","number","arguments","rows"] (defScope s_answer_call):=by walk_at "sc"
abbrev s_Reader_init:Stmt:=inClass (top 141) 0
theorem sc_Reader_init:FnScope ["self","calls"] ["self","calls"] (defScope s_Reader_init):=by walk_at "sc"
abbrev s_Reader_at_end:Stmt:=inClass (top 141) 1
theorem sc_Reader_at_end:FnScope ["self"] ["self"] (defScope s_Reader_at_end):=by walk_at "sc"
abbrev s_Reader_read_number:Stmt:=inClass (top 141) 2
theorem sc_Reader_read_number:FnScope ["self","number"] ["self"] (defScope s_Reader_read_number):=by walk_at "sc"
abbrev s_Reader_read_row:Stmt:=inClass (top 141) 3
theorem sc_Reader_read_row:FnScope ["self","length","row"] ["self"] (defScope s_Reader_read_row):=by walk_at "sc"
abbrev s_Reader_read_rows:Stmt:=inClass (top 141) 4
theorem sc_Reader_read_rows:FnScope ["self","rows","turn"] ["self"] (defScope s_Reader_read_rows):=by walk_at "sc"
abbrev s_answers:Stmt:=top 142
theorem sc_answers:FnScope ["calls","table","reader","told","number","arguments","rows","answer"] ["calls"] (defScope s_answers):=by walk_at "sc"
end Du
set_option Elab.async false
set_option linter.all false
set_option maxRecDepth 100000
namespace L2
open PySem PySem.Spec PyProof.Rows
section
variable {X:Cx} {K:PySem.W.Frag} {σ:St} {H:Hp} {Q:VK} {D:Ends} {t u:TS} {ta tb te:TE} {tc tc':TT} {tA tA':TA} {B:Bool→Hp→Prop} {LQ:List V→Hp→Prop} {r r':R2} {v:V} {i j:Int} {n:Nat} {f:Str} {a C dx:Addr} {fs:List (Str × V)}
theorem rd_next (h:D.nx σ H):tNext D σ H:=h
theorem rd_seq (h:t { D with nx:=u D } σ H):tSeq t u D σ H:=h
theorem rd_ret (h:te σ H D.rt):tRet te D σ H:=h
theorem rd_retN (h:D.rt .non H):tRetN D σ H:=h
theorem rd_drop (h:te σ H fun _ H1=>D.nx σ H1):tDrop te D σ H:=h
theorem rd_set (h:te σ H fun v H1=>D.nx (σ.set n (some v)) H1):tAsg te (gName n) D σ H:=h
theorem rd_ifS (h:tc σ H fun b H1=>if b=true then t D σ H1 else u D σ H1):tIfS tc t u D σ H:=h
theorem rd_var (e:σ[n]?=some (some v)) (h:Q v H):tVar n σ H Q:=⟨v,e,h⟩
theorem rd_c (h:Q v H):tC v σ H Q:=h
theorem rd_op (h:ta σ H fun x H1=>tb σ H1 fun y H2=>r x y H2 Q):tOp r ta tb σ H Q:=h
theorem rd_test (h:te σ H fun x H'=>∃ k,x=.bl k∧B k H'):tTest te σ H B:=h
theorem rd_tB (h:te σ H fun x H'=>∃ k,x=.bl k∧B k H'):tB te σ H B:=h
theorem rd_eqI (h:Q (.bl (decide (i=j))) H):rEq (.int i) (.int j) H Q:=⟨rfl,by
 have e:decide (V.int i=V.int j)=decide (i=j):=by rw [dec_int,Bool.eq_iff_iff,beq_iff_eq,decide_eq_true_iff]
 rw [e];exact h⟩
theorem rd_neI (h:Q (.bl (!decide (i=j))) H):rNe (.int i) (.int j) H Q:=⟨rfl,by
 have e:decide (V.int i=V.int j)=decide (i=j):=by rw [dec_int,Bool.eq_iff_iff,beq_iff_eq,decide_eq_true_iff]
 rw [e];exact h⟩
theorem rd_i0 {g:Int→Int→V} (h:Q (g i j) H):rI0 g (.int i) (.int j) H Q:=⟨i,j,rfl,rfl,h⟩
theorem rd_iC {g:Int→Int→V} {P:Int→Int→Prop} (c:P i j) (h:Q (g i j) H):rI P g (.int i) (.int j) H Q:=⟨i,j,rfl,rfl,c,h⟩
theorem rd_and (h:tc σ H fun c H1=>if c=true then tc' σ H1 B else B false H1):tAnd tc tc' σ H B:=h
theorem rd_or (h:tc σ H fun c H1=>if c=true then B true H1 else tc' σ H1 B):tOr tc tc' σ H B:=h
theorem rd_not (h:tc σ H fun c H1=>B (!c) H1):tNot tc σ H B:=h
theorem rd_andV (h:ta σ H fun x H1=>∃ c,x=.bl c∧if c=true then tb σ H1 Q else Q (.bl false) H1):tAndV ta tb σ H Q:=h
theorem rd_orV (h:ta σ H fun x H1=>∃ c,x=.bl c∧if c=true then Q (.bl true) H1 else tb σ H1 Q):tOrV ta tb σ H Q:=h
theorem rd_notV (h:ta σ H fun x H1=>∃ c,x=.bl c∧Q (.bl (!c)) H1):tNotV ta σ H Q:=h
theorem rd_blV {c:Bool} {G:Bool→Prop} (h:G c):∃ k,V.bl c=.bl k∧G k:=⟨c,rfl,h⟩
theorem rd_fld (h:ta σ H fun x H1=>∃ a C dx fs v,x=.ref a∧H1 a=some (.ins C dx fs)∧Cls K C∧NoAttr K C f∧fs.lookup f=some v∧Q v H1):tFld K ta f σ H Q:=h
theorem rd_fldE {G:V→Prop} (e:H a=some (.ins C dx fs)) (c:Cls K C) (m:NoAttr K C f) (l:fs.lookup f=some v) (h:G v):∃ a' C dx fs v,V.ref a=.ref a'∧H a'=some (.ins C dx fs)∧Cls K C∧NoAttr K C f∧fs.lookup f=some v∧G v :=
 ⟨a,C,dx,fs,v,rfl,e,c,m,l,h⟩
theorem rd_sfld {tv:TE} (h:tv σ H fun y H1=>ta σ H1 fun x H2=>∃ a C dx fs,x=.ref a∧H2 a=some (.ins C dx fs)∧Cls K C∧NoAttr K C f∧fs.length < 1000∧D.nx σ (upd H2 a (.ins C dx (putF f y fs)))):sFld K ta tv f D σ H:=h
theorem rd_sfldE {y:V} {gs:List (Str × V)} {G:Hp→Prop} (e:H a=some (.ins C dx fs)) (c:Cls K C) (m:NoAttr K C f) (l:fs.length < 1000) (p:putF f y fs=gs) (h:G (upd H a (.ins C dx gs))) :
  ∃ a' C dx fs,V.ref a=.ref a'∧H a'=some (.ins C dx fs)∧Cls K C∧NoAttr K C f∧fs.length < 1000∧G (upd H a' (.ins C dx (putF f y fs))):=⟨a,C,dx,fs,rfl,e,c,m,l,by rw [p];exact h⟩
theorem rd_nil (h:LQ [] H):tNil σ H LQ:=h
theorem rd_cons (h:te σ H fun v H1=>tA σ H1 fun vs H2=>LQ (v :: vs) H2):tCons te tA σ H LQ:=h
theorem rd_call {sp:Sp} {dvs:List V} {E:XK} (h:tA σ H fun vs H1=>sp (vs++dvs) H1 Q E):tCall sp dvs E tA σ H Q:=h
theorem rd_meth {m:Str} {sp:Sp} {dvs:List V} {E:XK} (h:ta σ H fun x H1=>∃ a dx fs,x=.ref a∧H1 a=some (.ins C dx fs)∧fs.lookup m=none∧tA σ H1 fun vs H2=>sp (x :: (vs++dvs)) H2 Q E):tMeth C m sp dvs E ta tA σ H Q:=h
theorem rd_methE {m:Str} {G:Prop} (e:H a=some (.ins C dx fs)) (l:fs.lookup m=none) (h:G):∃ a' dx fs,V.ref a=.ref a'∧H a'=some (.ins C dx fs)∧fs.lookup m=none∧G:=⟨a,dx,fs,rfl,e,l,h⟩
theorem rd_cb {g:List V→Hp→VK→Prop} (h:tA σ H fun vs H1=>g vs H1 Q):tCB g tA σ H Q:=h
theorem rd_ite {c A B:Prop} [Decidable c] (h1:c→A) (h2:¬ c→B):if decide c=true then A else B:=by
 by_cases h:c
 ·rw [if_pos (decide_eq_true h)];exact h1 h
 rw [if_neg (by rw [decide_eq_false h];exact Bool.false_ne_true)];exact h2 h
theorem rd_iteN {c A B:Prop} [Decidable c] (h1:¬ c→A) (h2:c→B):if (!decide c)=true then A else B:=by
 by_cases h:c
 ·rw [if_neg (by rw [decide_eq_true h];exact Bool.false_ne_true)];exact h2 h
 rw [if_pos (by rw [decide_eq_false h];rfl)];exact h1 h
theorem rd_iteB {b:Bool} {A B:Prop} (h1:b=true→A) (h2:b=false→B):if b=true then A else B:=by
 cases b with
 | true=>exact iteT (h1 rfl)
 | false=>exact iteF (h2 rfl)
end
end L2
set_option Elab.async false
set_option linter.all false
set_option maxRecDepth 100000
namespace L2
open PySem PySem.Spec PyProof.Rows
section
variable {K:PySem.W.Frag} {σ:St} {H:Hp} {Q:VK} {te:TE} {v:V} {p:Addr} {xs:List V} {i:Int}
def LenAt (K:PySem.W.Frag) (v:V) (H:Hp) (Q:VK):Prop:=∃ p ys,[v]=[.ref p]∧(SqL K H p ys∨SqT K H p ys)∧Q (.int ys.length) H
theorem rd_chain {r r':R2} {ta tb tc:TE} (h:ta σ H fun x H1=>tb σ H1 fun y H2=>r x y H2 fun z H3=>∃ k,z=.bl k∧(if k=true then tc σ H3 fun w' H4=>r' y w' H4 Q else Q (.bl false) H3)):tChain r r' ta tb tc σ H Q:=h
theorem rd_iteT {A B:Prop} (h:A):if true=true then A else B:=iteT h
theorem rd_iteF {A B:Prop} (h:B):if false=true then A else B:=iteF h
theorem rd_augS {to ti te:TE} {tg:V→V→Hp→VK→Prop} {tip:TIp} {ts:TSet} {D:Ends} (h:to σ H fun o H1=>ti σ H1 fun i H2=>tg o i H2 fun x H3=>te σ H3 fun y H4=>tip x y H4 fun z H5=>ts o i z H5 fun H6=>D.nx σ H6):tAugS to ti te tg tip ts D σ H:=h
theorem rd_bm {tA:TA} {Tn:String} {to:TE} {rr:V→List V→Hp→VK→Prop} (h:to σ H fun x H1=>tyV K Tn x H1∧tA σ H1 fun xs H2=>rr x xs H2 Q):tBM K Tn rr to tA σ H Q:=h
theorem rd_make {tA:TA} {C:Addr} {sp:Sp} {dvs:List V} {E:XK} (h:tA σ H fun vs H1=>∀ x dx,H1 x=none→H1 dx=none→dx≠x→sp (.ref x :: (vs++dvs)) (upd (upd H1 dx (.own x)) x (.ins C dx [])) (fun v H2=>v=.non∧Q (.ref x) H2) E):tMake C sp dvs E tA σ H Q:=h
theorem rd_lst {tA:TA} (h:tA σ H fun xs H1=>xs.length≤sizeLine∧∀ p,H1 p=none→Q (.ref p) (upd H1 p (.lst xs))):tLst tA σ H Q:=h
def AugK (K:PySem.W.Frag) (f:Str) (tv:TE) (rd:V→V→Hp→VK→Prop) (D:Ends) (σ:St) (C a:Addr) (v:V) (H1:Hp):Prop:=tv σ H1 fun y H2=>rd v y H2 fun z H3=>∃ dx' fs',H3 a=some (.ins C dx' fs')∧fs'.length < 1000∧D.nx σ (upd H3 a (.ins C dx' (putF f z fs')))
theorem rd_aug {ta tv:TE} {rd:V→V→Hp→VK→Prop} {f:Str} {D:Ends} (h:ta σ H fun x H1=>∃ a C dx fs v,x=.ref a∧H1 a=some (.ins C dx fs)∧Cls K C∧NoAttr K C f∧fs.lookup f=some v∧AugK K f tv rd D σ C a v H1):sFldAug K ta tv rd f D σ H:=h
theorem rd_augE {a C dx:Addr} {fs:List (Str × V)} {tv:TE} {rd:V→V→Hp→VK→Prop} {f:Str} {D:Ends} (e:H a=some (.ins C dx fs)) (c:Cls K C) (m:NoAttr K C f) (l:fs.lookup f=some v) (h:AugK K f tv rd D σ C a v H) :
  ∃ a' C dx fs v,V.ref a=.ref a'∧H a'=some (.ins C dx fs)∧Cls K C∧NoAttr K C f∧fs.lookup f=some v∧AugK K f tv rd D σ C a' v H:=⟨a,C,dx,fs,v,rfl,e,c,m,l,h⟩
theorem rd_augI {a C:Addr} {tv:TE} {f:Str} {D:Ends} {rd:V→V→Hp→VK→Prop} (h:tv σ H fun y H2=>rd v y H2 fun z H3=>∃ dx' fs',H3 a=some (.ins C dx' fs')∧fs'.length < 1000∧D.nx σ (upd H3 a (.ins C dx' (putF f z fs')))):AugK K f tv rd D σ C a v H:=h
theorem rd_add {i j:Int} (h:Q (.int (i + j)) H):rAdd (.int i) (.int j) H Q:=⟨i,j,rfl,rfl,h⟩
theorem rd_sub {i j:Int} (h:Q (.int (i - j)) H):rSub (.int i) (.int j) H Q:=⟨i,j,rfl,rfl,h⟩
theorem rd_put {a C dx:Addr} {fs gs:List (Str × V)} {f:Str} {z:V} {G:Hp→Prop} (e:H a=some (.ins C dx fs)) (l:fs.length < 1000) (p:putF f z fs=gs) (h:G (upd H a (.ins C dx gs))) :
  ∃ dx' fs',H a=some (.ins C dx' fs')∧fs'.length < 1000∧G (upd H a (.ins C dx' (putF f z fs'))):=⟨dx,fs,e,l,by rw [p];exact h⟩
theorem rd_len (h:te σ H fun v H1=>LenAt K v H1 Q):tCB (fun xs H Q=>∃ p ys,xs=[.ref p]∧(SqL K H p ys∨SqT K H p ys)∧Q (.int ys.length) H) (tCons te tNil) σ H Q:=h
theorem rd_lenE (h:H p=some (.lst xs)) (q:Q (.int xs.length) H):LenAt K (.ref p) H Q:=⟨p,xs,rfl,.inl (SqL.of h),q⟩
theorem rd_lenS (h:SqL K H p xs) (q:Q (.int xs.length) H):LenAt K (.ref p) H Q:=⟨p,xs,rfl,.inl h,q⟩
theorem rd_ix (h:H p=some (.lst xs)) (e:atI xs i=some v) (q:Q v H):rIxL K (.ref p) (.int i) H Q:=⟨p,xs,i,v,rfl,rfl,SqL.of h,e,q⟩
theorem rd_ixS (h:SqL K H p xs) (e:atI xs i=some v) (q:Q v H):rIxL K (.ref p) (.int i) H Q:=⟨p,xs,i,v,rfl,rfl,h,e,q⟩
theorem at0 {x:V} {l:List V}:atI (x :: l) 0=some x:=atI_nat (j:=0) rfl
theorem at1 {x y:V} {l:List V}:atI (x :: y :: l) 1=some y:=atI_nat (j:=1) rfl
theorem at2 {x y z:V} {l:List V}:atI (x :: y :: z :: l) 2=some z:=atI_nat (j:=2) rfl
theorem at3 {x y z u:V} {l:List V}:atI (x :: y :: z :: u :: l) 3=some u:=atI_nat (j:=3) rfl
theorem at4 {x y z u r:V} {l:List V}:atI (x :: y :: z :: u :: r :: l) 4=some r:=atI_nat (j:=4) rfl
end
end L2
namespace Du
open PySem PySem.Spec PyProof.Rows L2 Dm
section
variable {K:PySem.W.Frag} {H:Hp} {Q:VK} {p:Addr} {l:List Int} {x:Int}
theorem ivs_flat:∀ l:List Int,(ivs l).all flatV=true
 | []=>rfl
 | _ :: l=>ivs_flat l
theorem inV_ivs (x:Int):∀ l:List Int,inV (.int x) (ivs l)=hasZ l x
 | []=>rfl
 | y :: l=>by
  show (eqV (.int y) (.int x) || inV (.int x) (ivs l))=((y == x) || hasZ l x)
  rw [inV_ivs x l]
  rfl
theorem rd_in (h:SqL K H p (ivs l)) (q:Q (.bl (hasZ l x)) H):rIn K false (.int x) (.ref p) H Q:=⟨p,_,rfl,.inl h,rfl,ivs_flat l,by rw [inV_ivs];exact q⟩
theorem rd_notIn (h:SqL K H p (ivs l)) (q:Q (.bl (!hasZ l x)) H):rIn K true (.int x) (.ref p) H Q:=⟨p,_,rfl,.inl h,rfl,ivs_flat l,by rw [inV_ivs];exact q⟩
end
def ClOk (K:PySem.W.Frag) (C:Addr) (l:List Str):Prop:=Cls K C∧∀ f∈l,NoAttr K C f
structure Tx (K:PySem.W.Frag) (C:Cl):Prop where
 side:ClOk K C.side ["life","drawn","tokens"]
 thing:ClOk K C.thing ["side","place","damage","counters"]
 book:ClOk K C.book ["told","made","added","cut","turned","happened"]
 table:ClOk K C.table ["sides","things","effects","effects_numbered","books","batch"]
 effect:ClOk K C.effect ["number","side","source","kind","aim","whose","own","may","uses","things","sources","does"]
 event:ClOk K C.event ["kind","source","target","amount","place","used"]
 batch:ClOk K C.batch ["row","settled","offered","effects_before","books_before"]
 reader:ClOk K C.reader ["calls","position"]
end Du
set_option Elab.async false
set_option linter.all false
set_option maxRecDepth 100000
set_option maxHeartbeats 4000000
namespace L2
open PySem PySem.Spec PyProof.Rows
section
variable {K:PySem.W.Frag} {σ:St} {H:Hp} {Q:VK} {tl te:TE} {tt:TT} {g:TG} {vs:List Nat} {a:Addr} {xs:List V}
def LcAt (K:PySem.W.Frag) (g:TG) (tt:TT) (te:TE) (vs:List Nat) (σ:St) (x:V) (H1:Hp) (Q:VK):Prop :=
 ∃ a,x=.ref a∧(∃ xs,SqL K H1 a xs)∧∀ D,H1 D=none→∃ W:Nat→Nat→Hp→Prop,(∃ m,W 0 m (upd H1 D (.lst [])))∧∀ i m H,W i m H →
 ((Itl K a).stop i H∧Q (.ref D) H)∨((Itl K a).go i H∧∃ Nx:Hp→Prop,(∀ H',Nx H'→∃ m',m' < m∧W (i + 1) m' H')∧∀ x H',(Itl K a).yld i H x H'→g x (wipe σ vs) H' fun σ2 H2=>wipe σ2 vs=wipe σ vs∧tt σ2 H2 fun b H3 =>
  if b=true then te σ2 H3 fun y H4=>∃ acc,H4 D=some (.lst acc)∧acc.length < sizeLine∧Nx (upd H4 D (.lst (acc++[y]))) else Nx H3)
theorem rd_lc (h:tl σ H fun x H1=>LcAt K g tt te vs σ x H1 Q):tLc (iList K tl) g tt te vs σ H Q:=h
theorem lcAt_of (hs:SqL K H a xs) (hp:∀ D,H D=none→∃ Pv:Nat→Hp→Prop,Pv 0 (upd H D (.lst []))∧(∀ i H,i≤xs.length→Pv i H→SqL K H a xs) ∧
  (∀ i x H,xs[i]?=some x→Pv i H→g x (wipe σ vs) H fun σ2 H2=>wipe σ2 vs=wipe σ vs∧tt σ2 H2 fun b H3=>if b=true then te σ2 H3 fun y H4=>∃ acc,H4 D=some (.lst acc)∧acc.length < sizeLine∧Pv (i + 1) (upd H4 D (.lst (acc++[y]))) else Pv (i + 1) H3) ∧
  (∀ H',Pv xs.length H'→Q (.ref D) H')):LcAt K g tt te vs σ (.ref a) H Q:=by
 refine ⟨a,rfl,⟨xs,hs⟩,fun D hD=>?_⟩
 obtain ⟨Pv,h0,h1,h2,h3⟩:=hp D hD
 exact lc_list Pv h0 h1 h2 h3
theorem wipe1_len (σ:St) (n:Nat):(wipe σ [n]).length=σ.length:=wipe_length σ [n]
theorem wipe1_set (σ:St) (n:Nat) (v:V):wipe ((wipe σ [n]).set n (some v)) [n]=wipe σ [n]:=by
 show ((σ.set n none).set n (some v)).set n none=σ.set n none
 rw [List.set_set,List.set_set]
theorem wipe1_get {σ:St} {n:Nat} (h:n < σ.length) (v:V):((wipe σ [n]).set n (some v))[n]?=some (some v):=List.getElem?_set_self (by rw [wipe1_len];exact h)
theorem seq_keep {D:Addr} {l:List V} (hs:SqL K H a xs) (hD:H D=none):SqL K (upd H D (.lst l)) a xs:=by
 rcases hs with (h | ⟨o,h⟩) | h
 ·exact .inl (.inl (by rw [upd_ne (ne_of_none h hD)];exact h))
 ·exact .inl (.inr ⟨o,by rw [upd_ne (ne_of_none h hD)];exact h⟩)
 exact .inr h
theorem take_one {α:Type}:∀ {l:List α} {i:Nat} {x:α},l[i]?=some x→l.take (i + 1)=l.take i++[x]
 | [],i,x,h=>by simp at h
 | a :: l,0,x,h=>by
  have e:a=x:=Option.some.inj h
  subst e
  rfl
 | a :: l,i + 1,x,h=>by
  have ih:=take_one (l:=l) (i:=i) (x:=x) h
  show a :: l.take (i + 1)=a :: l.take i++[x]
  rw [ih]
  rfl
theorem lc_pure {n:Nat} {ys:List V} (hs:SqL K H a xs) (hn:n < σ.length) (hl:ys.length=xs.length) (hz:xs.length≤sizeLine)
  (step:∀ (i:Nat) x y D l (R:VK),xs[i]?=some x→ys[i]?=some y→H D=none→R y (upd H D (.lst l))→te ((wipe σ [n]).set n (some x)) (upd H D (.lst l)) R)
  (fin:∀ D,H D=none→Q (.ref D) (upd H D (.lst ys))):LcAt K (gName n) tYes te [n] σ (.ref a) H Q:=by
 refine zh0 ?_;simp (disch:=k_dflt (
 refine zh2 ?_
 refine lcAt_of hs fun D hD=>⟨fun i H'=>H'=upd H D (.lst (ys.take i)),rfl,fun i H' _ e=>by rw [e];exact seq_keep hs hD,fun i x H' hx e=>?_,fun H' e=>?_⟩
 ·subst e
  obtain ⟨hi,_⟩:=List.getElem?_eq_some_iff.mp hx
  have hy:ys[i]?=some ys[i]:=List.getElem?_eq_getElem (by omega)
  refine ⟨wipe1_set σ n x,?_⟩
  unfold tYes
  dsimp only
  rw [if_pos rfl]
  refine step i x _ D _ _ hx hy hD ⟨ys.take i,upd_same,?_,?_⟩
  ·rw [List.length_take];omega
  show upd (upd H D (.lst (ys.take i))) D (.lst (ys.take i++[ys[i]]))=upd H D (.lst (ys.take (i + 1)))
  rw [upd_upd,← take_one hy]
 rw [e,← hl,List.take_length]
 exact fin D hD)) only [↓zh1]
end
end L2
namespace Du
open PySem PySem.Spec PyProof.Rows L2 Dm
section
variable {K:PySem.W.Frag} {σ:L2.St} {H:Hp} {Q:VK} {tt:TT} {a:Addr}
theorem pick_take (p:Ef→Bool):∀ {as:List Addr} {es:List Ef} {i:Nat} {x:Addr} {e:Ef},as[i]?=some x→es[i]?=some e→pick p (as.take (i + 1)) (es.take (i + 1))=pick p (as.take i) (es.take i)++(if p e=true then [x] else [])
 | [],_,i,x,e,h,_=>by simp at h
 | _ :: _,[],i,x,e,_,h=>by simp at h
 | a :: as,b :: es,0,x,e,h1,h2=>by
  simp at h1 h2
  subst h1 h2
  simp only [List.take_succ_cons,List.take_zero]
  unfold pick
  split <;> rfl
 | a :: as,b :: es,i + 1,x,e,h1,h2=>by
  have ih:=pick_take p (as:=as) (es:=es) (i:=i) (x:=x) (e:=e) (by simpa using h1) (by simpa using h2)
  rw [List.take_succ_cons,List.take_succ_cons,List.take_succ_cons,List.take_succ_cons]
  show (if p b=true then a :: pick p (as.take (i + 1)) (es.take (i + 1)) else pick p (as.take (i + 1)) (es.take (i + 1)))=(if p b=true then a :: pick p (as.take i) (es.take i) else pick p (as.take i) (es.take i))++_
  rw [ih]
  split <;> rfl
theorem pick_len (p:Ef→Bool):∀ (as:List Addr) (es:List Ef),(pick p as es).length≤as.length
 | [],_=>by unfold pick;exact Nat.le_refl _
 | _ :: _,[]=>by unfold pick;exact Nat.zero_le _
 | a :: as,e :: es=>by
  unfold pick
  have:=pick_len p as es
  split <;> simp only [List.length_cons] <;> omega
theorem lc_filt {n:Nat} {as:List Addr} {es:List Ef} (p:Ef→Bool) (hs:H a=some (.lst (rfs as))) (hn:n < σ.length) (hl:as.length=es.length) (hz:as.length < sizeLine)
  (step:∀ (i:Nat) x e D l (B:Bool→Hp→Prop),as[i]?=some x→es[i]?=some e→H D=none→B (p e) (upd H D (.lst l))→tt ((wipe σ [n]).set n (some (.ref x))) (upd H D (.lst l)) B)
  (fin:∀ D,H D=none→Q (.ref D) (upd H D (.lst (rfs (pick p as es))))):LcAt K (gName n) tt (tVar n) [n] σ (.ref a) H Q:=by
 refine zh0 ?_;simp (disch:=k_dflt (
 refine zh2 ?_
 refine lcAt_of (SqL.of hs) fun D hD=>⟨fun i H'=>H'=upd H D (.lst (rfs (pick p (as.take i) (es.take i)))),by cases as <;> cases es <;> rfl,fun i H' _ e=>by rw [e];exact seq_keep (SqL.of hs) hD,fun i x H' hx e=>?_,fun H' e=>?_⟩
 ·subst e
  unfold rfs at hx
  rw [List.getElem?_map] at hx
  cases hx':as[i]? with
  | none=>rw [hx'] at hx;cases hx
  | some y =>
   rw [hx'] at hx
   have ex:V.ref y=x:=Option.some.inj hx
   subst ex
   obtain ⟨hi,_⟩:=List.getElem?_eq_some_iff.mp hx'
   have he:es[i]?=some es[i]:=List.getElem?_eq_getElem (by omega)
   refine ⟨wipe1_set σ n (.ref y),step i y _ D _ _ hx' he hD ?_⟩
   cases q:p es[i] with
   | true =>
    refine iteT ⟨.ref y,wipe1_get hn _,_,upd_same,?_,?_⟩
    ·unfold rfs
     rw [List.length_map]
     have:=pick_len p (as.take i) (es.take i)
     rw [List.length_take] at this
     omega
    show upd (upd H D _) D _=upd H D (.lst (rfs (pick p (as.take (i + 1)) (es.take (i + 1)))))
    rw [upd_upd,pick_take p hx' he,q,if_pos rfl]
    unfold rfs
    rw [List.map_append]
    rfl
   | false =>
    refine iteF ?_
    show upd H D (.lst (rfs (pick p (as.take i) (es.take i))))=upd H D (.lst (rfs (pick p (as.take (i + 1)) (es.take (i + 1)))))
    rw [pick_take p hx' he,q,if_neg Bool.false_ne_true,List.append_nil]
 have e2:(rfs as).length=as.length:=by unfold rfs;rw [List.length_map]
 rw [e,e2,List.take_length,hl,List.take_length]
 exact fin D hD)) only [↓zh1]
end
end Du
set_option Elab.async false
set_option linter.all false
set_option maxRecDepth 100000
namespace L2
open PySem PySem.Spec PyProof.Rows
section
variable {X:Cx} {K:PySem.W.Frag} {e:Expr} {f:Str} {pos:Pos} {ta:TE}
theorem pe_fldK (hK:X.K=K) (he:PE X e ta) (hb:attributeBase e f X.env (eval e X.env)=eval e X.env):PE X (.Attribute e f pos) (tFld K ta f):=by
 subst hK
 exact pe_fld he hb
theorem ix_listK (hK:X.K=K):IxR X (rIxL K):=by
 subst hK
 exact ix_list
end
end L2
set_option Elab.async false
set_option linter.all false
set_option maxRecDepth 100000
namespace L2
open PySem PySem.Spec PyProof.Rows
section
variable {K:PySem.W.Frag} {σ:St} {H:Hp} {tl:TE} {g:TG} {tb:TS} {D:Ends} {a:Addr} {xs:List V}
def ForAt (K:PySem.W.Frag) (g:TG) (tb:TS) (D:Ends) (σ:St) (x:V) (H1:Hp):Prop:=∃ a,x=.ref a∧(∃ xs,SqL K H1 a xs)∧∃ W:Nat→Nat→St→Hp→Prop,(∃ m,W 0 m σ H1)∧∀ i m σ H,W i m σ H →
 ((Itl K a).stop i H∧D.nx σ H)∨((Itl K a).go i H∧∃ N:St→Hp→Prop,(∀ σ' H',N σ' H'→∃ m',m' < m∧W (i + 1) m' σ' H')∧∀ x H',(Itl K a).yld i H x H'→g x σ H' fun σ2 H2=>tb { D with nx:=N,ct:=N,bk:=D.nx } σ2 H2)
theorem rd_for (h:tl σ H fun x H1=>ForAt K g tb D σ x H1):tFor (iList K tl) g tb D σ H:=h
theorem forAt_of (hs:SqL K H a xs) (Pv:Nat→St→Hp→Prop) (h0:Pv 0 σ H) (hl:∀ i σ H,i≤xs.length→Pv i σ H→SqL K H a xs)
  (ht:∀ i x σ H,xs[i]?=some x→Pv i σ H→g x σ H fun σ2 H2=>tb { D with nx:=Pv (i + 1),ct:=Pv (i + 1),bk:=D.nx } σ2 H2) (hd:∀ σ H,Pv xs.length σ H→D.nx σ H):ForAt K g tb D σ (.ref a) H :=
 ⟨a,rfl,⟨xs,hs⟩,for_list Pv h0 hl ht hd⟩
end
end L2
set_option Elab.async false
set_option linter.all false
set_option maxRecDepth 100000
set_option maxHeartbeats 4000000
namespace L2
open PySem PySem.Spec PyProof.Rows
section
variable {prog:Program} {w:World} {A:Around} {E:Value→Shared→Prop} {s:Shared}
theorem zt_draw {it t:Addr} {i:Nat} {its:Array Value} {x:Value} {Q:Value→Shared→Prop} (hI:s.heap.IsTupleIter it t i) (hT:s.heap.IsTuple t its) (hx:its[i]?=some x)
  (k:∀ g,g.IsTupleIter it t (i + 1)→Heap.SameBut it s.heap g→Q x { s with heap:=g }):wpAny (model prog w) A (Builtin.SmallTypes.nextOf (.ref it)) Q E s:=by
 refine zh0 ?_;simp (disch:=k_dflt (
 refine zh2 ?_
 obtain ⟨ob,eo,ec,ed⟩:=id hI
 obtain ⟨ot,et,_,nt,edt⟩:=hT
 unfold Builtin.SmallTypes.nextOf
 refine wpAny_bind (wpAny_callSpecial?_slot (name:=Str.ofString "__next__") hI.typeIs F.slot_tuple_iterator_next (wpAny_call_entry F.slot_tuple_iterator_next hI.typeIs F.entry_tuple_iterator_next ?_ (F.args_tuple_iterator_next_1 _)))
 refine (show wpAny (model prog w) _ (field (.ref it) 0 >>= _) _ _ s from wpAny_bind (wpAny_field eo ed (x:=.ref t) rfl ?_))
 show wpAny (model prog w) _ (if (Value.ref t == Value.none)=true then _ else _) _ _ s
 rw [if_neg (show ¬ ((Value.ref t == Value.none)=true) by exact Bool.false_ne_true)]
 refine (show wpAny (model prog w) _ (field (.ref it) 1 >>= _) _ _ s from wpAny_bind (wpAny_field eo ed (x:=.int i 0) rfl ?_))
 refine (show wpAny (model prog w) _ (seqItems? (.ref t) >>= _) _ _ s from wpAny_bind (wpAny_seqItems et edt ?_))
 simp only [hx,Int.toNat_natCast]
 refine wpAny_bind (wpAny_setField eo ed (by simp) (wpAny_pure ⟨x,rfl,wpAny_pure (k _ ⟨_,Heap.get?_update_self _ eo (Obj.isFreed_of_fields (Obj.data_mapFields ed _)),?_,?_⟩ (Heap.SameBut.update ..))⟩))
 ·rw [Obj.cls_mapFields];exact ec
 rw [Obj.data_mapFields ed]
 simp [rawInt])) only [↓zh1]
theorem zt_step {z TI TO i1 i2 l t:Addr} {m:Nat} {xs ys:Array Value} {x y a b:Value} {Q:Value→Shared→Prop} (D:ZipApart z TI TO i1 i2 l t)
  (z0:IsZip s.heap z TI TO .none) (pI:IsPair s.heap TI (.ref i1) (.ref i2)) (pO:IsPair s.heap TO a b) (d1:s.heap.IsListIter i1 l m) (d2:s.heap.IsTupleIter i2 t m) (hl:s.heap.IsList l xs) (ht:s.heap.IsTuple t ys) (hx:xs[m]?=some x) (hy:ys[m]?=some y)
  (k:∀ g,IsZip g z TI TO (rawInt s.heap.objs.size)→IsPair g TO x y→g.IsListIter i1 l (m + 1)→g.IsTupleIter i2 t (m + 1)→IsPair g s.heap.objs.size x y→g.objs.size=s.heap.objs.size + 1 →
   (∀ c o,c≠z→c≠TO→c≠i1→c≠i2→s.heap.get? c=some o→g.get? c=some o)→Q (.ref s.heap.objs.size) { s with heap:=g }) :
  wpAny (model prog w) A (Builtin.«zip.__next__» ⟨[.ref z],[]⟩) (fun fin s'=>∃ v,fin=.done (.ret v)∧Q v s') E s:=by
 refine zh0 ?_;simp (disch:=k_dflt (
 refine zh2 ?_
 refine (show wpAny (model prog w) _ (field (.ref z) 2 >>= _) _ _ s from wpAny_bind (wpAny_field z0 rfl (x:=.bool false) rfl ?_))
 refine (show wpAny (model prog w) _ (field (.ref z) 3 >>= _) _ _ s from wpAny_bind (wpAny_field z0 rfl (x:=.ref TI) rfl (wpAny_bind (wpAny_seqItems pI rfl ?_))))
 refine (show wpAny (model prog w) _ (Builtin.SmallTypes.ownedTupleIsFree (.ref z) >>= _) _ _ s from wpAny_bind ?_)
 unfold Builtin.SmallTypes.ownedTupleIsFree
 refine wpAny_bind (wpAny_field z0 rfl (x:=.none) rfl (wpAny_pure ?_));simp only [if_true]
 refine wpAny_bind (wpAny_rule (wpAny_bind (wpAny_field z0 rfl (x:=.ref TO) rfl (wpAny_bind (wpAny_setField_rec z0 (by simp) fun g1 z1 b1=>wpAny_bind ?_)))))
 replace z1:IsZip g1 z TI TO .ellipsis:=z1
 simp only [List.forIn_nil,List.forIn_cons,List.zipIdx_nil,List.zipIdx_cons]
 refine wpAny_bind (wpAny_bind (wpAny_onRaise (show wpAny (model prog w) _ (Builtin.SmallTypes.nextOf (.ref i1) >>= _) _ _ _ from wpAny_bind ?_)))
 refine wpAny_nextOf_list_item (d1.extBut b1.extBut D.i1z) (hl.extBut b1.extBut D.l1z) hx fun g2 d1' b2=>wpAny_pure ?_
 have pO2:IsPair g2 TO a b:=b2.extBut _ _ D.TOi1 (b1.extBut _ _ D.TOz pO)
 refine wpAny_bind (wpAny_seqItems pO2 rfl (wpAny_bind (wpAny_updateSeq_pair pO2 fun g3 pO3 b3=>wpAny_bind (wpAny_letGo (wpAny_pure ?_)))))
 replace pO3:IsPair g3 TO x b:=pO3
 refine wpAny_bind (wpAny_bind (wpAny_onRaise (show wpAny (model prog w) _ (Builtin.SmallTypes.nextOf (.ref i2) >>= _) _ _ _ from wpAny_bind ?_)))
 have d23:g3.IsTupleIter i2 t m:=d2.at fun o e=>b3.extBut _ _ D.TOi2.symm (b2.extBut _ _ D.i12.symm (b1.extBut _ _ D.i2z e))
 have ht3:g3.IsTuple t ys:=let ⟨o,e,q⟩:=ht;⟨o,b3.extBut _ _ D.l2TO (b2.extBut _ _ D.l2i1 (b1.extBut _ _ D.l2z e)),q⟩
 refine zt_draw d23 ht3 hy fun g4 d2' b4=>wpAny_pure ?_
 have pO4:IsPair g4 TO x b:=b4.extBut _ _ D.TOi2 pO3
 refine wpAny_bind (wpAny_seqItems pO4 rfl (wpAny_bind (wpAny_updateSeq_pair pO4 fun g5 pO5 b5=>wpAny_bind (wpAny_letGo (wpAny_pure (wpAny_pure ?_))))))
 replace pO5:IsPair g5 TO x y:=pO5
 refine wpAny_bind (wpAny_seqItems pO5 rfl (wpAny_bind (wpAny_newTuple ?_)))
 have sz:g5.objs.size=s.heap.objs.size:=by rw [b5.1,b4.1,b3.1,b2.1,b1.1]
 have z5:IsZip g5 z TI TO .ellipsis:=b5.extBut _ _ D.TOz.symm (b4.extBut _ _ D.i2z.symm (b3.extBut _ _ D.TOz.symm (b2.extBut _ _ D.i1z.symm z1)))
 have kp5:∀ c o,c≠z→c≠TO→c≠i1→c≠i2→s.heap.get? c=some o→g5.get? c=some o:=fun c o n1 n2 n3 n4 e=>b5.extBut _ _ n2 (b4.extBut _ _ n4 (b3.extBut _ _ n2 (b2.extBut _ _ n3 (b1.extBut _ _ n1 e))))
 have d15:g5.IsListIter i1 l (m + 1):=d1'.at fun o e=>b5.extBut _ _ D.TOi1.symm (b4.extBut _ _ D.i12 (b3.extBut _ _ D.TOi1.symm e))
 have d25:g5.IsTupleIter i2 t (m + 1):=d2'.at fun o e=>b5.extBut _ _ D.TOi2.symm e
 have ltz:z < g5.objs.size:=Heap.lt_size z5
 refine (show wpAny (model prog w) _ (Builtin.SmallTypes.ownedTupleHandOut (.ref z) (.ref g5.objs.size) >>= _) _ _ _ from wpAny_bind ?_)
 unfold Builtin.SmallTypes.ownedTupleHandOut
 have z6:IsZip (g5.push { cls:=.type "tuple",data:=.seq #[x,y] }) z TI TO .ellipsis:=Heap.get?_push_of_some _ z5
 refine wpAny_bind (wpAny_setField_rec z6 (by simp) fun g7 z7 b7=>?_)
 replace z7:IsZip g7 z TI TO (rawInt g5.objs.size):=z7
 refine wpAny_setField_rec z7 (by simp) fun g8 z8 b8=>?_
 replace z8:IsZip g8 z TI TO (rawInt g5.objs.size):=z8
 have up:∀ c o,c≠z→g5.get? c=some o→g8.get? c=some o:=fun c o n1 e=>b8.extBut _ _ n1 (b7.extBut _ _ n1 (Heap.get?_push_of_some _ e))
 have pT:IsPair g8 g5.objs.size x y:=b8.extBut _ _ (Nat.ne_of_gt ltz) (b7.extBut _ _ (Nat.ne_of_gt ltz) (Heap.get?_push_size _ rfl))
 have s8:g8.objs.size=g5.objs.size + 1:=by rw [b8.1,b7.1,Heap.size_push]
 rw [sz] at z8 pT s8
 refine wpAny_pure ⟨_,rfl,(?_:Q (.ref g5.objs.size) _)⟩
 rw [sz]
 exact k g8 z8 (up _ _ D.TOz pO5) (d15.at fun o e=>up _ o D.i1z e) (d25.at fun o e=>up _ o D.i2z e) pT s8 fun c o n1 n2 n3 n4 e=>up c o n1 (kp5 c o n1 n2 n3 n4 e))) only [↓zh1]
theorem zt_stop {z TI TO i1 i2 l t:Addr} {m:Nat} {xs:Array Value} {a b:Value} {Q:Fin→Shared→Prop} (hh:A.handled=none) (D:ZipApart z TI TO i1 i2 l t)
  (z0:IsZip s.heap z TI TO .none) (pI:IsPair s.heap TI (.ref i1) (.ref i2)) (pO:IsPair s.heap TO a b) (d1:s.heap.IsListIter i1 l m) (hl:s.heap.IsList l xs) (hx:xs[m]?=none)
  (k:∀ g e,(∀ c o,c≠z→c≠TO→c≠i1→c≠i2→s.heap.get? c=some o→g.get? c=some o)→(∃ o,g.get? e=some o∧o.cls=.type "StopIteration")→E (.ref e) { s with heap:=g }) :
  wpAny (model prog w) A (Builtin.«zip.__next__» ⟨[.ref z],[]⟩) Q E s:=by
 refine zh0 ?_;simp (disch:=k_dflt (
 refine zh2 ?_
 refine (show wpAny (model prog w) _ (field (.ref z) 2 >>= _) _ _ s from wpAny_bind (wpAny_field z0 rfl (x:=.bool false) rfl ?_))
 refine (show wpAny (model prog w) _ (field (.ref z) 3 >>= _) _ _ s from wpAny_bind (wpAny_field z0 rfl (x:=.ref TI) rfl (wpAny_bind (wpAny_seqItems pI rfl ?_))))
 refine (show wpAny (model prog w) _ (Builtin.SmallTypes.ownedTupleIsFree (.ref z) >>= _) _ _ s from wpAny_bind ?_)
 unfold Builtin.SmallTypes.ownedTupleIsFree
 refine wpAny_bind (wpAny_field z0 rfl (x:=.none) rfl (wpAny_pure ?_));simp only [if_true]
 refine wpAny_bind (wpAny_rule (wpAny_bind (wpAny_field z0 rfl (x:=.ref TO) rfl (wpAny_bind (wpAny_setField_rec z0 (by simp) fun g1 z1 b1=>wpAny_bind ?_)))))
 replace z1:IsZip g1 z TI TO .ellipsis:=z1
 simp only [List.forIn_nil,List.forIn_cons,List.zipIdx_nil,List.zipIdx_cons]
 refine wpAny_bind (wpAny_bind (wpAny_onRaise (show wpAny (model prog w) _ (Builtin.SmallTypes.nextOf (.ref i1) >>= _) _ _ _ from wpAny_bind ?_)))
 refine wpAny_nextOf_list_end hh (d1.extBut b1.extBut D.i1z) (hl.extBut b1.extBut D.l1z) hx fun g2 e b2 he=>?_
 obtain ⟨oe,e1,e2⟩:=he
 have z2:IsZip g2 z TI TO .ellipsis:=b2 _ _ D.i1z.symm z1
 have nez:e≠z:=fun q=>by subst q;rw [z2] at e1;cases e1;simp at e2
 exact wpAny_setField_rec z2 (by simp) fun g3 _ b3=>k g3 e (fun c o n1 _ n3 _ q=>b3.extBut _ _ n1 (b2 _ _ n3 (b1.extBut _ _ n1 q))) ⟨oe,b3.extBut _ _ nez e1,e2⟩)) only [↓zh1]
abbrev ztH (h:Heap) (l t:Addr):Heap:=((((h.push { cls:=.type "list_iterator",data:=.fields #[.ref l,.int 0 0] }).push { cls:=.type "tuple_iterator",data:=.fields #[.ref t,.int 0 0] }).push
 { cls:=.type "tuple",data:=.seq #[.ref h.objs.size,.ref (h.push { cls:=.type "list_iterator",data:=.fields #[.ref l,.int 0 0] }).objs.size] }).push { cls:=.type "tuple",data:=.seq #[.none,.none] })
abbrev ztA (h:Heap) (l t:Addr):Heap:=(h.push { cls:=.type "list_iterator",data:=.fields #[.ref l,.int 0 0] }).push { cls:=.type "tuple_iterator",data:=.fields #[.ref t,.int 0 0] }
abbrev ztB (h:Heap) (l t:Addr):Heap:=(ztA h l t).push { cls:=.type "tuple",data:=.seq #[.ref h.objs.size,.ref (h.push { cls:=.type "list_iterator",data:=.fields #[.ref l,.int 0 0] }).objs.size] }
abbrev ztZ (h:Heap) (l t:Addr):Heap:=(ztH h l t).push { cls:=.type "zip",data:=.fields #[.none,.bool false,.bool false,.ref (ztA h l t).objs.size,.ref (ztB h l t).objs.size] }
theorem zt_new (l t:Addr) (xs ys:Array Value):Meets (Builtin.«zip.__new__» ⟨[.type "zip",.ref l,.ref t],[]⟩) (fun _ R s=>s.heap.IsList l xs∧s.heap.IsTuple t ys∧R (.ok (.ret (.ref (ztH s.heap l t).objs.size))) { s with heap:=ztZ s.heap l t }) :=
 .of_wp fun prog w A R s h=>by
  obtain ⟨hp,gl,dd,tk,os⟩:=s
  obtain ⟨hl,ht,h⟩:=h
  have hsub:=sub_zip
  have L1:Heap.IsList (Shared.heap ⟨hp,gl,dd,tk,os⟩) l xs:=hl
  have L2':Heap.IsTuple (Shared.heap ⟨hp.push { cls:=.type "list_iterator",data:=.fields #[.ref l,.int 0 0] },gl,dd,tk,os⟩) t ys:=let ⟨o,e,q⟩:=ht;⟨o,Heap.get?_push_of_some _ e,q⟩
  wp_walk using wpAny_pyIter_list L1,wpAny_pyIter_tuple L2'
  exact ⟨_,rfl,h⟩
theorem zt_call {l t:Addr} {xs ys:Array Value} {Q:Value→Shared→Prop} (hl:s.heap.IsList l xs) (ht:s.heap.IsTuple t ys)
  (k:∀ g,IsZip g (s.heap.objs.size + 4) (s.heap.objs.size + 2) (s.heap.objs.size + 3) .none→IsPair g (s.heap.objs.size + 2) (.ref s.heap.objs.size) (.ref (s.heap.objs.size + 1))→IsPair g (s.heap.objs.size + 3) .none .none →
   g.IsListIter s.heap.objs.size l 0→g.IsTupleIter (s.heap.objs.size + 1) t 0→(∀ c o,s.heap.get? c=some o→g.get? c=some o)→Q (.ref (s.heap.objs.size + 4)) { s with heap:=g }) :
  wpAny (model prog w) A (call (.type "zip") [.ref l,.ref t]) Q E s:=by
 refine zh0 ?_;simp (disch:=k_dflt (
 refine zh2 ?_
 refine callType_new F.called_zip (by decide) (F.typeCall_zip_2 _ _) (F.newCall_zip_2 _ _) (fun obj=>F.args_object_init_3 obj _ _) F.entry_zip_new (zt_new l t xs ys) ⟨hl,ht,?_⟩
 have n1:(s.heap.push { cls:=.type "list_iterator",data:=.fields #[.ref l,.int 0 0] }).objs.size=s.heap.objs.size + 1:=Heap.size_push ..
 have n2:(ztA s.heap l t).objs.size=s.heap.objs.size + 2:=by rw [Heap.size_push,n1]
 have n3:(ztB s.heap l t).objs.size=s.heap.objs.size + 3:=by rw [Heap.size_push,n2]
 have n4:(ztH s.heap l t).objs.size=s.heap.objs.size + 4:=by rw [Heap.size_push,show _=s.heap.objs.size + 3 from n3]
 have e5:(ztZ s.heap l t).get? (ztH s.heap l t).objs.size=some _:=Heap.get?_push_size _ rfl
 have e4:(ztZ s.heap l t).get? (ztB s.heap l t).objs.size=some _:=Heap.get?_push_of_some _ (Heap.get?_push_size _ rfl)
 have e3:(ztZ s.heap l t).get? (ztA s.heap l t).objs.size=some _:=Heap.get?_push_of_some _ (Heap.get?_push_of_some _ (Heap.get?_push_size _ rfl))
 have e2:(ztZ s.heap l t).get? (s.heap.push { cls:=.type "list_iterator",data:=.fields #[.ref l,.int 0 0] }).objs.size=some _:=Heap.get?_push_of_some _ (Heap.get?_push_of_some _ (Heap.get?_push_of_some _ (Heap.get?_push_size _ rfl)))
 have e1:(ztZ s.heap l t).get? s.heap.objs.size=some _:=Heap.get?_push_of_some _ (Heap.get?_push_of_some _ (Heap.get?_push_of_some _ (Heap.get?_push_of_some _ (Heap.get?_push_size _ rfl))))
 refine (show _∧_ from ?_)
 rw [n2,n3,n4] at e5
 rw [n1,n2] at e3
 rw [n3] at e4
 rw [n1] at e2
 rw [n4]
 exact ⟨⟨_,e5,rfl⟩,k _ e5 e3 e4 ⟨_,e1,rfl,rfl⟩ ⟨_,e2,rfl,rfl⟩ fun c o q=>Heap.get?_push_of_some _ (Heap.get?_push_of_some _ (Heap.get?_push_of_some _ (Heap.get?_push_of_some _ (Heap.get?_push_of_some _ q))))⟩)) only [↓zh1]
end
def Izt (K:PySem.W.Frag) (a b:Addr):It :=
 ⟨fun i H=>∃ (xs ys:List V) (x y:V),SqL K H a xs∧SqT K H b ys∧xs[i]?=some x∧ys[i]?=some y,
  fun i H v H'=>∃ T x y,v=.ref T∧H T=none∧H'=upd H T (.tup [x,y])∧(∀ xs,SqL K H a xs→xs[i]?=some x)∧∀ ys,SqT K H b ys→ys[i]?=some y,
  fun i H=>∃ xs:List V,SqL K H a xs∧xs.length≤i⟩
theorem turn_zt {P:Program} {w:World} {K:PySem.W.Frag} {elts:List Expr} {kk:Nat} {tpos:Pos} {a b z TI TO i1 i2:Addr} (D:ZipApart z TI TO i1 i2 a b) :
  Turn P w K (.Tuple elts kk tpos) (Izt K a b) [z,TI,TO,i1,i2] z (fun i h=>IsZip h z TI TO .none∧IsPair h TI (.ref i1) (.ref i2)∧(∃ x y,IsPair h TO x y)∧h.IsListIter i1 a i∧h.IsTupleIter i2 b i) where
 mem:=by simp
 obj:=fun i h st c hc=>by
  obtain ⟨z0,pI,⟨x,y,pO⟩,⟨o1,e1,_,d1⟩,⟨o2,e2,_,d2⟩⟩:=st
  have hm:c=z∨c=TI∨c=TO∨c=i1∨c=i2:=by simpa using hc
  rcases hm with rfl | rfl | rfl | rfl | rfl
  ·exact ⟨_,z0,fun v q=>nomatch q⟩
  ·exact ⟨_,pI,fun v q=>nomatch q⟩
  ·exact ⟨_,pO,fun v q=>nomatch q⟩
  ·exact ⟨o1,e1,fun v q=>by rw [d1] at q;cases q⟩
  exact ⟨o2,e2,fun v q=>by rw [d2] at q;cases q⟩
 keep:=fun i h h' st k=>by
  obtain ⟨z0,pI,⟨x,y,pO⟩,d1,d2⟩:=st
  exact ⟨k z (by simp) _ z0,k TI (by simp) _ pI,⟨x,y,k TO (by simp) _ pO⟩,d1.at fun o q=>k i1 (by simp) o q,d2.at fun o q=>k i2 (by simp) o q⟩
 item:=by
  intro X hP hw hK hc i pins s σ H E I hf st hg
  subst hP hw hK
  obtain ⟨z0,pI,⟨x0,y0,pO⟩,d1,d2⟩:=st
  obtain ⟨xs,ys,x,y,hqx,hqy,hx,hy⟩:=hg
  obtain ⟨its,rv,p,_⟩:=I.list hqx
  obtain ⟨its2,rv2,p2,_⟩:=I.tuple hqy
  obtain ⟨u,hu,ru⟩:=rv.get hx
  obtain ⟨u2,hu2,ru2⟩:=rv2.get hy
  have zl:z < s.heap.objs.size:=Heap.lt_size z0
  have tz:s.TypeIs (.ref z) "zip":=⟨_,z0,rfl⟩
  unfold pyNext
  refine wpAny_bind (wpAny_attempt (wpAny_callSpecial?_slot (name:=Str.ofString "__next__") tz F.slot_zip_next (wpAny_call_entry F.slot_zip_next tz F.entry_zip_next ?_ (F.args_zip_next_1 _))))
  refine zt_step D z0 pI pO d1 d2 p.isList (show s.heap.IsTuple b its2.toArray from p2) (x:=u) (y:=u2) (by simpa using hu) (by simpa using hu2) fun g z' pO' d1' d2' pT sz hk=>wpAny_pure ?_
  refine ⟨_,rfl,wpAny_letOwnedTupleGo_zip (s:={ s with heap:=g }) z' fun g' z'' sb=>?_⟩
  have pT2:g'.get? s.heap.objs.size=some { cls:=.type "tuple",data:=.seq #[u,u2] }:=(sb.2 _ (Nat.ne_of_gt zl)).trans pT
  have new:ObjOk X.prog X.w (upd H s.heap.objs.size (.tup [x,y])) g' s.heap.objs.size (.tup [x,y]):=⟨by show 2≤sizeLine;decide,[u,u2],.cons ru (.cons ru2 .nil),⟨_,pT2,rfl,_,rfl⟩⟩
  have I1:Inv X pins σ (upd H s.heap.objs.size (.tup [x,y])) { s with heap:=g' } :=
   I.turnedNew (t':=s.toks) (ch:=[z,TI,TO,i1,i2]) (fun c o hb q=>(sb.2 c (fun e=>hb (by simp [e]))).trans (hk c o (fun e=>hb (by simp [e])) (fun e=>hb (by simp [e])) (fun e=>hb (by simp [e])) (fun e=>hb (by simp [e])) q)) hf (Nat.le_refl _) new
  refine ⟨.ref s.heap.objs.size,_,I1,rfl,⟨_,x,y,rfl,I.hok.fresh (Nat.le_refl _),rfl,fun l hl=>by rw [I.list_inj hl hqx];exact hx,fun l hl=>by rw [I.tuple_inj hl hqy];exact hy⟩,
   ⟨z'',(sb.2 _ D.TIz).trans (hk _ _ D.TIz D.TITO D.TIi1 D.TIi2 pI),⟨u,u2,(sb.2 _ D.TOz).trans pO'⟩,d1'.at fun o q=>(sb.2 _ D.i1z).trans q,d2'.at fun o q=>(sb.2 _ D.i2z).trans q⟩,fun c hcm=>?_⟩
  have cl:c < s.heap.objs.size:=by
   have hm:c=z∨c=TI∨c=TO∨c=i1∨c=i2:=by simpa using hcm
   rcases hm with rfl | rfl | rfl | rfl | rfl
   ·exact zl
   ·exact Heap.lt_size pI
   ·exact Heap.lt_size pO
   ·obtain ⟨_,e1,_⟩:=d1;exact Heap.lt_size e1
   obtain ⟨_,e2,_⟩:=d2;exact Heap.lt_size e2
  rw [upd_ne (Nat.ne_of_lt cl)]
  exact (hf c hcm).1
 done:=by
  intro X hP hw hK hc i pins s σ H E I hf st hg
  subst hP hw hK
  obtain ⟨z0,pI,⟨x0,y0,pO⟩,d1,d2⟩:=st
  obtain ⟨xs,hqx,hend⟩:=hg
  obtain ⟨its,rv,p,_⟩:=I.list hqx
  have ll:=rv.length
  have tz:s.TypeIs (.ref z) "zip":=⟨_,z0,rfl⟩
  unfold pyNext
  refine wpAny_bind (wpAny_attempt (wpAny_callSpecial?_slot (name:=Str.ofString "__next__") tz F.slot_zip_next (wpAny_call_entry F.slot_zip_next tz F.entry_zip_next ?_ (F.args_zip_next_1 _))))
  refine zt_stop (I.ok.hd hc) D z0 pI pO d1 p.isList (by simp;omega) fun g e hk he=>?_
  obtain ⟨o,ho,hoc⟩:=he
  refine wpAny_bind (wpAny_isInstance (T:="StopIteration") (b:=true) ⟨o,ho,hoc⟩ isSubtype_stop (wpAny_pure ⟨rfl,?_⟩))
  exact I.turnedL (t':=s.toks) (ch:=[z,TI,TO,i1,i2]) (fun c o hb q=>hk c o (fun e=>hb (by simp [e])) (fun e=>hb (by simp [e])) (fun e=>hb (by simp [e])) (fun e=>hb (by simp [e])) q) hf
 self:=fun A i s Q E st h=>wpAny_pyIter_zip st.1 h
def iZt (K:PySem.W.Frag) (ta:TA):TI:=fun σ H R=>ta σ H fun vs H1=>∃ a b xs ys,vs=[.ref a,.ref b]∧SqL K H1 a xs∧SqT K H1 b ys∧R (Izt K a b) H1
theorem pi_zt {X:Cx} {e e2:Expr} {ta:TA} {p pos tpos:Pos} {elts:List Expr} {kk:Nat} (hg:Gl X "zip") (hm:X.mg "zip"=none) (ha:PA X [e,e2] ta)
  (hs:starEach [e,e2] X.env=(false,eval e X.env) :: starEach [e2] X.env:=by rfl) (hpl:(backTo pos (starEach [e2] X.env)).any (·.1)=false:=by rfl):PI X (.Tuple elts kk tpos) (.Call (.Name "zip" p) [e,e2] [] pos) (iZt X.K ta):=by
 refine zh0 ?_;simp (disch:=k_dflt (
 refine zh2 ?_
 intro pins s σ H R I h
 refine Call_ (ld_blt I hg hm boot_zip5 (PyProof.Rows.callWith_type1 (thn (ha pos pins s σ H _ I h) fun us s1 ⟨vs,H1,I1,r1,a,b,xs,ys,ex,hqx,hqy,q⟩=>?_) hs hpl))
 subst ex
 obtain ⟨u1,u2,rfl,ru1,ru2⟩:=vals2 r1
 cases ru1
 cases ru2
 obtain ⟨its,rv,p1,_⟩:=I1.list hqx
 obtain ⟨its2,rv2,p2,_⟩:=I1.tuple hqy
 have la:a < s1.heap.objs.size:=p1.lt
 have lb:b < s1.heap.objs.size:=let ⟨_,e,_⟩:=p2;Heap.lt_size e
 refine zt_call p1.isList (show s1.heap.IsTuple b its2.toArray from p2) fun g z0 pI pO d1 d2 hk=>wpAny_pyIter_zip z0 ?_
 refine ⟨s1.heap.objs.size + 4,[s1.heap.objs.size + 4,s1.heap.objs.size + 2,s1.heap.objs.size + 3,s1.heap.objs.size,s1.heap.objs.size + 1],_,_,H1,rfl,I1.kept (t':=s1.toks) hk,turn_zt (PySem.W.ktu_apart s1.heap.objs.size a b la lb),⟨z0,pI,⟨_,_,pO⟩,d1,d2⟩,fun c hcm=>?_,q⟩
 have hle:s1.heap.objs.size≤c:=by
  have hm:c=s1.heap.objs.size + 4∨c=s1.heap.objs.size + 2∨c=s1.heap.objs.size + 3∨c=s1.heap.objs.size∨c=s1.heap.objs.size + 1:=by simpa using hcm
  rcases hm with q | q | q | q | q <;> rw [q] <;> first | exact Nat.le_refl _ | exact Nat.le_add_right _ _
 exact I1.fpOk hle (I1.hok.fresh hle))) only [↓zh1]
end L2
set_option Elab.async false
set_option linter.all false
set_option maxRecDepth 100000
namespace L2
open PySem PySem.Spec PyProof.Rows
section
variable {X:Cx} {K:PySem.W.Frag} {σ:St} {H:Hp} {Q:VK} {ta tb te:TE} {tA:TA} {p:Addr} {xs ys:List V} {v:V} {n:Nat}
def tMeth2 (C1 C2:Addr) (m:Str) (sp1 sp2:Sp) (n:Nat):TE:=fun σ H Q=>∃ a dx fs,σ[n]?=some (some (.ref a))∧fs.lookup m=none∧((H a=some (.ins C1 dx fs)∧sp1 [.ref a] H Q E0)∨(H a=some (.ins C2 dx fs)∧sp2 [.ref a] H Q E0))
theorem pe_methV2 {o:Expr} {m:Str} {pos apos:Pos} {C1 C2:Addr} {k1 k2:Nat} {sp1 sp2:Sp} {pl:Sem Bool} (ho:PE X o (tVar n)) (h1:KnM X.prog X.w X.K X.mg X.base C1 m k1 sp1) (h2:KnM X.prog X.w X.K X.mg X.base C2 m k2 sp2) (r1:Room k1 X.A) (r2:Room k2 X.A)
  (ht:eval (.Call (.Attribute o m apos) [] [] pos) X.env=(do
   let ov ← eval o X.env
   standAt apos.atName
   let (f,first) ← holding [ov] (getMethod ov m pl)
   callWith pos f first (backTo pos (starEach [] X.env)) (backToKw pos (keywordEach [] X.env))):=by rfl) :
  PE X (.Call (.Attribute o m apos) [] [] pos) (tMeth2 C1 C2 m sp1 sp2 n):=by
 intro pins s σ H Q I h
 obtain ⟨a,dx,fs,e,l,q | q⟩:=h
 ·exact pe_methX0 ho h1 r1 ht pins s σ H Q I ⟨.ref a,e,a,dx,fs,rfl,q.1,l,q.2⟩
 exact pe_methX0 ho h2 r2 ht pins s σ H Q I ⟨.ref a,e,a,dx,fs,rfl,q.1,l,q.2⟩
theorem rd_sl {r:V→Option Int→Option Int→Hp→VK→Prop} {tl th:TO} (h:te σ H fun x H1=>tl σ H1 fun l H2=>th σ H2 fun u H3=>r x l u H3 Q):tSl r te tl th σ H Q:=h
theorem rd_noP {R:Option Int→Hp→Prop} (h:R none H):tNoPart σ H R:=h
theorem rd_part {R:Option Int→Hp→Prop} (h:te σ H fun x H1=>∃ i,x=.int i∧R (some i) H1):tPart te σ H R:=h
theorem rd_iV {i:Int} {G:Int→Prop} (h:G i):∃ j,V.int i=.int j∧G j:=⟨i,rfl,h⟩
theorem rd_slE {lo hi:Option Int} (h:H p=some (.lst xs)) (q:∀ l,H l=none→Q (.ref l) (upd H l (.lst (cutV xs lo hi)))):rSlL K (.ref p) lo hi H Q:=⟨p,xs,rfl,SqL.of h,q⟩
theorem rd_slS {lo hi:Option Int} (h:SqL K H p xs) (q:∀ l,H l=none→Q (.ref l) (upd H l (.lst (cutV xs lo hi)))):rSlL K (.ref p) lo hi H Q:=⟨p,xs,rfl,h,q⟩
theorem rd_tup (h:tA σ H fun xs H1=>xs.length≤sizeLine∧∀ p,H1 p=none→Q (.ref p) (upd H1 p (.tup xs))):tTup tA σ H Q:=h
theorem rd_cat {a b:Addr} (h1:H a=some (.lst xs)) (h2:H b=some (.lst ys)) (hz:xs.length + ys.length≤sizeLine) (q:∀ p,H p=none→Q (.ref p) (upd H p (.lst (xs++ys)))):rCat (.ref a) (.ref b) H Q:=⟨a,b,xs,ys,rfl,rfl,h1,h2,hz,q⟩
def ListAt (K:PySem.W.Frag) (v:V) (H:Hp) (Q:VK):Prop:=∃ p ys,[v]=[.ref p]∧(SqL K H p ys∨SqT K H p ys)∧∀ l,H l=none→Q (.ref l) (upd H l (.lst ys))
theorem rd_list (h:te σ H fun v H1=>ListAt K v H1 Q):tCB (fun xs H Q=>∃ p ys,xs=[.ref p]∧(SqL K H p ys∨SqT K H p ys)∧∀ l,H l=none→Q (.ref l) (upd H l (.lst ys))) (tCons te tNil) σ H Q:=h
theorem rd_listOf {a:Addr} (h:H a=some (.lst xs)) (q:∀ l,H l=none→Q (.ref l) (upd H l (.lst xs))):ListAt K (.ref a) H Q:=⟨a,xs,rfl,.inl (SqL.of h),q⟩
theorem rd_append {a:Addr} (h:H a=some (.lst xs)) (hz:xs.length < sizeLine) (q:Q .non (upd H a (.lst (xs++[v])))):rAppend (.ref a) [v] H Q:=⟨a,xs,v,rfl,rfl,h,hz,q⟩
theorem rd_extend {a b:Addr} (h1:H a=some (.lst xs)) (h2:H b=some (.lst ys)) (hz:xs.length + ys.length≤sizeLine) (q:Q .non (upd H a (.lst (xs++ys)))):rExtend (.ref a) [.ref b] H Q:=⟨a,b,xs,ys,rfl,rfl,h1,h2,hz,q⟩
theorem rd_ty {a:Addr} {G:Prop} (h:H a=some (.lst xs)) (g:G):tyV K "list" (.ref a) H∧G:=⟨.inl ⟨rfl,_,SqL.of h⟩,g⟩
theorem rd_all {a:Addr} {bs:List Bool} (h:H a=some (.lst (bs.map V.bl))) (q:Q (.bl (bs.all id)) H):rAll K [.ref a] H Q:=⟨a,bs,rfl,SqL.of h,q⟩
theorem at5 {x y z u r t:V} {l:List V}:atI (x :: y :: z :: u :: r :: t :: l) 5=some t:=atI_nat (j:=5) rfl
theorem at6 {x y z u r t s:V} {l:List V}:atI (x :: y :: z :: u :: r :: t :: s :: l) 6=some s:=atI_nat (j:=6) rfl
theorem at7 {x y z u r t s q:V} {l:List V}:atI (x :: y :: z :: u :: r :: t :: s :: q :: l) 7=some q:=atI_nat (j:=7) rfl
theorem upd_keep {b:Addr} {o o':HO} (h:H b=some o) (hp:H p=none):upd H p o' b=some o:=by rw [upd_ne (ne_of_none h hp)];exact h
end
end L2
set_option Elab.async false
set_option linter.all false
set_option maxRecDepth 100000
set_option maxHeartbeats 4000000
set_option hygiene false
open PySem PySem.Spec PyProof.Rows L2 Dm
local macro_rules | `(tactic| walk_at "ln")=>`(tactic| (intro vs H Q E h;repeat (obtain ⟨x,h⟩:=h;try (subst x;rfl))))
local macro_rules | `(tactic| walk_at "go")=>`(tactic| repeat (first
 | with_reducible refine rd_seq ?_
 | with_reducible refine rd_set ?_
 | with_reducible refine rd_ret ?_
 | with_reducible refine rd_drop ?_
 | with_reducible refine rd_ifS ?_
 | with_reducible refine rd_next ?_
 | with_reducible refine rd_retN ?_
 | ((with_reducible show tVar _ _ _ _);refine rd_var rfl ?_)
 | with_reducible refine rd_c ?_
 | with_reducible refine rd_op ?_
 | with_reducible refine rd_test ?_
 | with_reducible refine rd_tB ?_
 | with_reducible refine rd_blV ?_
 | with_reducible refine rd_eqI ?_
 | with_reducible refine rd_neI ?_
 | with_reducible refine rd_i0 ?_
 | with_reducible refine rd_chain ?_
 | with_reducible refine rd_iteT ?_
 | with_reducible refine rd_iteF ?_
 | with_reducible refine rd_and ?_
 | with_reducible refine rd_or ?_
 | with_reducible refine rd_not ?_
 | with_reducible refine rd_andV ?_
 | with_reducible refine rd_orV ?_
 | with_reducible refine rd_notV ?_
 | with_reducible refine rd_fld ?_
 | ((with_reducible refine' rd_fldE ?zez ?zcz ?zmz ?zlz ?_);(case zez=>first | assumption | exact upd_same);(case zcz=>first | exact T.side.1 | exact T.thing.1 | exact T.book.1 | exact T.table.1 | exact T.effect.1 | exact T.event.1 | exact T.batch.1 | exact T.reader.1);(case zmz=>first | exact T.side.2 _ (by decide) | exact T.thing.2 _ (by decide) | exact T.book.2 _ (by decide) | exact T.table.2 _ (by decide) | exact T.effect.2 _ (by decide) | exact T.event.2 _ (by decide) | exact T.batch.2 _ (by decide) | exact T.reader.2 _ (by decide));(case zlz=>exact rfl))
 | with_reducible refine rd_sfld ?_
 | ((with_reducible refine' rd_sfldE ?zez ?zcz ?zmz ?zlz ?zpz ?_);(case zez=>first | assumption | exact upd_same);(case zcz=>first | exact T.side.1 | exact T.thing.1 | exact T.book.1 | exact T.table.1 | exact T.effect.1 | exact T.event.1 | exact T.batch.1 | exact T.reader.1);(case zmz=>first | exact T.side.2 _ (by decide) | exact T.thing.2 _ (by decide) | exact T.book.2 _ (by decide) | exact T.table.2 _ (by decide) | exact T.effect.2 _ (by decide) | exact T.event.2 _ (by decide) | exact T.batch.2 _ (by decide) | exact T.reader.2 _ (by decide));(case zlz=>exact Nat.le_of_ble_eq_true rfl);(case zpz=>exact rfl))
 | with_reducible refine rd_cons ?_
 | with_reducible refine rd_nil ?_
 | with_reducible refine rd_call ?_
 | with_reducible refine rd_meth ?_
 | ((with_reducible refine' rd_methE ?zez ?zlz ?_);(case zez=>first | assumption | exact upd_same);(case zlz=>exact rfl))
 | with_reducible refine rd_augS ?_
 | with_reducible refine rd_bm ?_
 | with_reducible refine rd_make ?_
 | with_reducible refine rd_lc ?_
 | with_reducible refine rd_add ?_
 | with_reducible refine rd_sub ?_
 | with_reducible refine rd_augI ?_
 | with_reducible refine rd_lst ?_
 | with_reducible refine rd_aug ?_
 | ((with_reducible refine' rd_augE ?zez ?zcz ?zmz ?zlz ?_);(case zez=>first | assumption | exact upd_same);(case zcz=>first | exact T.side.1 | exact T.thing.1 | exact T.book.1 | exact T.table.1 | exact T.effect.1 | exact T.event.1 | exact T.batch.1 | exact T.reader.1);(case zmz=>first | exact T.side.2 _ (by decide) | exact T.thing.2 _ (by decide) | exact T.book.2 _ (by decide) | exact T.table.2 _ (by decide) | exact T.effect.2 _ (by decide) | exact T.event.2 _ (by decide) | exact T.batch.2 _ (by decide) | exact T.reader.2 _ (by decide));(case zlz=>exact rfl))
 | with_reducible refine rd_len ?_
 | ((with_reducible refine' rd_lenE ?zez ?_);(case zez=>assumption))
 | ((with_reducible refine' rd_lenS ?zez ?_);(case zez=>assumption))
 | ((with_reducible refine' rd_in ?zez ?_);(case zez=>first | assumption | (exact SqL.of (by assumption))))
 | ((with_reducible refine' rd_notIn ?zez ?_);(case zez=>first | assumption | (exact SqL.of (by assumption))))
 | with_reducible refine rd_cb ?_))
local macro_rules | `(tactic| walk_at "ifk")=>`(tactic| (walk_at "go";refine rd_iteB (fun hb=>?_) (fun hb=>?_) <;> (try rw [hb] at k) <;> walk_at "go"))
local macro_rules | `(tactic| walk_at "go2")=>`(tactic| repeat (first
 | with_reducible refine rd_list ?_
 | with_reducible refine rd_seq ?_
 | with_reducible refine rd_set ?_
 | with_reducible refine rd_ret ?_
 | with_reducible refine rd_drop ?_
 | with_reducible refine rd_ifS ?_
 | with_reducible refine rd_next ?_
 | with_reducible refine rd_retN ?_
 | ((with_reducible show tVar _ _ _ _);refine rd_var rfl ?_)
 | with_reducible refine rd_c ?_
 | with_reducible refine rd_op ?_
 | with_reducible refine rd_test ?_
 | with_reducible refine rd_tB ?_
 | with_reducible refine rd_blV ?_
 | with_reducible refine rd_eqI ?_
 | with_reducible refine rd_neI ?_
 | with_reducible refine rd_i0 ?_
 | with_reducible refine rd_chain ?_
 | with_reducible refine rd_iteT ?_
 | with_reducible refine rd_iteF ?_
 | with_reducible refine rd_and ?_
 | with_reducible refine rd_or ?_
 | with_reducible refine rd_not ?_
 | with_reducible refine rd_andV ?_
 | with_reducible refine rd_orV ?_
 | with_reducible refine rd_notV ?_
 | with_reducible refine rd_fld ?_
 | ((with_reducible refine' rd_fldE ?zez ?zcz ?zmz ?zlz ?_);(case zez=>first | assumption | exact upd_same);(case zcz=>first | exact T.side.1 | exact T.thing.1 | exact T.book.1 | exact T.table.1 | exact T.effect.1 | exact T.event.1 | exact T.batch.1 | exact T.reader.1);(case zmz=>first | exact T.side.2 _ (by decide) | exact T.thing.2 _ (by decide) | exact T.book.2 _ (by decide) | exact T.table.2 _ (by decide) | exact T.effect.2 _ (by decide) | exact T.event.2 _ (by decide) | exact T.batch.2 _ (by decide) | exact T.reader.2 _ (by decide));(case zlz=>exact rfl))
 | with_reducible refine rd_sfld ?_
 | ((with_reducible refine' rd_sfldE ?zez ?zcz ?zmz ?zlz ?zpz ?_);(case zez=>first | assumption | exact upd_same);(case zcz=>first | exact T.side.1 | exact T.thing.1 | exact T.book.1 | exact T.table.1 | exact T.effect.1 | exact T.event.1 | exact T.batch.1 | exact T.reader.1);(case zmz=>first | exact T.side.2 _ (by decide) | exact T.thing.2 _ (by decide) | exact T.book.2 _ (by decide) | exact T.table.2 _ (by decide) | exact T.effect.2 _ (by decide) | exact T.event.2 _ (by decide) | exact T.batch.2 _ (by decide) | exact T.reader.2 _ (by decide));(case zlz=>exact Nat.le_of_ble_eq_true rfl);(case zpz=>exact rfl))
 | with_reducible refine rd_cons ?_
 | with_reducible refine rd_nil ?_
 | with_reducible refine rd_call ?_
 | with_reducible refine rd_meth ?_
 | ((with_reducible refine' rd_methE ?zez ?zlz ?_);(case zez=>first | assumption | exact upd_same);(case zlz=>exact rfl))
 | with_reducible refine rd_augS ?_
 | with_reducible refine rd_bm ?_
 | with_reducible refine rd_make ?_
 | with_reducible refine rd_lc ?_
 | with_reducible refine rd_add ?_
 | with_reducible refine rd_sub ?_
 | with_reducible refine rd_augI ?_
 | with_reducible refine rd_lst ?_
 | with_reducible refine rd_aug ?_
 | ((with_reducible refine' rd_augE ?zez ?zcz ?zmz ?zlz ?_);(case zez=>first | assumption | exact upd_same);(case zcz=>first | exact T.side.1 | exact T.thing.1 | exact T.book.1 | exact T.table.1 | exact T.effect.1 | exact T.event.1 | exact T.batch.1 | exact T.reader.1);(case zmz=>first | exact T.side.2 _ (by decide) | exact T.thing.2 _ (by decide) | exact T.book.2 _ (by decide) | exact T.table.2 _ (by decide) | exact T.effect.2 _ (by decide) | exact T.event.2 _ (by decide) | exact T.batch.2 _ (by decide) | exact T.reader.2 _ (by decide));(case zlz=>exact rfl))
 | with_reducible refine rd_len ?_
 | ((with_reducible refine' rd_lenE ?zez ?_);(case zez=>assumption))
 | ((with_reducible refine' rd_lenS ?zez ?_);(case zez=>assumption))
 | ((with_reducible refine' rd_in ?zez ?_);(case zez=>first | assumption | (exact SqL.of (by assumption))))
 | ((with_reducible refine' rd_notIn ?zez ?_);(case zez=>first | assumption | (exact SqL.of (by assumption))))
 | with_reducible refine rd_cb ?_
 | with_reducible refine rd_sl ?_
 | with_reducible refine rd_noP ?_
 | with_reducible refine rd_part ?_
 | with_reducible refine rd_iV ?_
 | with_reducible refine rd_tup ?_
 | with_reducible refine rd_for ?_
 | with_reducible refine rd_g ?_))
local macro_rules | `(tactic| walk_at "ifk2")=>`(tactic| (walk_at "go2";refine rd_iteB (fun hb=>?_) (fun hb=>?_) <;> (try rw [hb] at k) <;> walk_at "go2"))
local macro_rules | `(tactic| walk_at "b1")=>`(tactic| exact Du.bA1 fun _ _ _ _ _ _ _=>by kernel_rfl)
local macro_rules | `(tactic| walk_at "b2")=>`(tactic| exact Du.bA2 fun _ _ _ _ _ _ _ _=>by kernel_rfl)
local macro_rules | `(tactic| walk_at "b3")=>`(tactic| exact Du.bA3 fun _ _ _ _ _ _ _ _ _=>by kernel_rfl)
local macro_rules | `(tactic| walk_at "b4")=>`(tactic| exact Du.bA4 fun _ _ _ _ _ _ _ _ _ _=>by kernel_rfl)
local macro_rules | `(tactic| walk_at "b5")=>`(tactic| exact Du.bA5 fun _ _ _ _ _ _ _ _ _ _ _=>by kernel_rfl)
local macro_rules | `(tactic| walk_at "b6")=>`(tactic| exact Du.bA6 fun _ _ _ _ _ _ _ _ _ _ _ _=>by kernel_rfl)
local macro_rules | `(tactic| walk_at "b7")=>`(tactic| exact Du.bA7 fun _ _ _ _ _ _ _ _ _ _ _ _ _=>by kernel_rfl)
namespace Du
section
variable {P:Program} {w:World} {K:PySem.W.Frag} {mg:Str→Option Value} {base:Heap} {C:Cl} {f:Addr} {fd:FuncData}
def sp_is_side (K:PySem.W.Frag) (C:Cl):Sp:=fun vs H Q _=>∃ x:Int,vs=[.int x]∧Q (.bl (isSideB x)) H
theorem ok_is_side (T:Tx K C) (F:Fun K "is_side" "is_side" s_is_side f fd)  :FnOk P w K mg base CX0 1 f fd ["target"] (sp_is_side K C):=by
 refine zh0 ?_;simp (disch:=k_dflt (
 refine F.ok sc_is_side (by walk_at "ln") (fun cdv A outer s H vs Q E hr h=>?_)
 obtain ⟨x,rfl,k⟩:=h
 refine ⟨_,(pss_one (ps_ret (pe_or (pe_cmpR op_eq (pv 0) pe_int (nomark _)) (pe_one (pe_cmpR op_eq (pv 0) pe_int (nomark _)))))),?_⟩
 unfold isSideB at k
 walk_at "ifk"
 ·exact k
 exact k)) only [↓zh1]
def sp_is_target (K:PySem.W.Frag) (C:Cl):Sp:=fun vs H Q _=>∃ x:Int,vs=[.int x]∧Q (.bl (isTargetB x)) H
theorem ok_is_target (T:Tx K C) (F:Fun K "is_target" "is_target" s_is_target f fd) (c_FIRST_THING_TARGET:CI mg "FIRST_THING_TARGET" (11)) (c_LAST_THING_TARGET:CI mg "LAST_THING_TARGET" (26)) (k_is_side:Kn P w K mg base "is_side" 1 (sp_is_side K C)) :FnOk P w K mg base CX0 2 f fd ["number"] (sp_is_target K C):=by
 refine zh0 ?_;simp (disch:=k_dflt (
 refine F.ok sc_is_target (by walk_at "ln") (fun cdv A outer s H vs Q E hr h=>?_)
 obtain ⟨x,rfl,k⟩:=h
 refine ⟨_,(pss_one (ps_ret (pe_or (pe_callX k_is_side (hr.mono (by decide)) rfl (pa_cons (pv 0) pa_nil)) (pe_one (pe_chain op_le op_le (pe_ci c_FIRST_THING_TARGET rfl) (pv 0) (pe_ci c_LAST_THING_TARGET rfl)))))),?_⟩
 unfold isTargetB withinB at k
 walk_at "go"
 refine ⟨x,rfl,?_⟩
 walk_at "ifk"
 ·exact k
 walk_at "ifk"
 ·exact k
 exact k)) only [↓zh1]
def sp_thing_of (K:PySem.W.Frag) (C:Cl):Sp:=fun vs H Q _=>∃ x:Int,vs=[.int x]∧Q (.int (x - 11 + 1)) H
theorem ok_thing_of (T:Tx K C) (F:Fun K "thing_of" "thing_of" s_thing_of f fd) (c_FIRST_THING_TARGET:CI mg "FIRST_THING_TARGET" (11)) :FnOk P w K mg base CX0 1 f fd ["target"] (sp_thing_of K C):=by
 refine F.ok sc_thing_of (by walk_at "ln") (fun cdv A outer s H vs Q E hr h=>?_)
 obtain ⟨x,rfl,k⟩:=h
 refine ⟨_,(pss_one (ps_ret (pe_op op_add (pe_op op_sub (pv 0) (pe_ci c_FIRST_THING_TARGET rfl)) pe_int))),?_⟩
 walk_at "go"
 exact k
def suitsB (x k:Int):Bool:=if decide (k=0)=true then true else if (decide (k=3) || decide (k=5))=true then !isSideB x else isSideB x
def sp_suits (K:PySem.W.Frag) (C:Cl):Sp:=fun vs H Q _=>∃ x k:Int,vs=[.int x,.int k]∧Q (.bl (suitsB x k)) H
theorem ok_suits (T:Tx K C) (F:Fun K "suits" "suits" s_suits f fd) (c_DAMAGE:CI mg "DAMAGE" (0)) (c_MOVE:CI mg "MOVE" (5)) (c_COUNTERS:CI mg "COUNTERS" (3)) (k_is_side:Kn P w K mg base "is_side" 1 (sp_is_side K C)) :FnOk P w K mg base CX0 2 f fd ["target","kind"] (sp_suits K C):=by
 refine zh0 ?_;simp (disch:=k_dflt (
 refine F.ok sc_suits (by walk_at "ln") (fun cdv A outer s H vs Q E hr h=>?_)
 obtain ⟨x,z,rfl,k⟩:=h
 refine ⟨_,(pss_cons (ps_if (pt_cmpR op_eq (pv 1) (pe_ci c_DAMAGE rfl) (nomark _)) (pss_one (ps_ret pe_bl)) pss_nil) (pss_cons (ps_if (PW.pt (pw_or (pt_cmpR op_eq (pv 1) (pe_ci c_COUNTERS rfl) (nomark _)) (pw_or1 (pt_cmpR op_eq (pv 1) (pe_ci c_MOVE rfl) (nomark _))))) (pss_one (ps_ret (pe_not (pe_callX k_is_side (hr.mono (by decide)) rfl (pa_cons (pv 0) pa_nil))))) pss_nil) (pss_one (ps_ret (pe_callX k_is_side (hr.mono (by decide)) rfl (pa_cons (pv 0) pa_nil)))))),?_⟩
 unfold suitsB at k
 walk_at "ifk"
 ·exact k
 walk_at "ifk"
 ·exact ⟨x,rfl,rd_blV k⟩
 walk_at "ifk"
 ·exact ⟨x,rfl,rd_blV k⟩
 exact ⟨x,rfl,k⟩)) only [↓zh1]
def sp_fits_aim (K:PySem.W.Frag) (C:Cl):Sp:=fun vs H Q _=>∃ a x:Int,vs=[.int a,.int x]∧Q (.bl (aimB a x)) H
theorem ok_fits_aim (T:Tx K C) (F:Fun K "fits_aim" "fits_aim" s_fits_aim f fd) (c_AIM_SIDE:CI mg "AIM_SIDE" (1)) (k_is_side:Kn P w K mg base "is_side" 1 (sp_is_side K C)) (c_AIM_THING:CI mg "AIM_THING" (2)) :FnOk P w K mg base CX0 2 f fd ["aim","target"] (sp_fits_aim K C):=by
 refine zh0 ?_;simp (disch:=k_dflt (
 refine F.ok sc_fits_aim (by walk_at "ln") (fun cdv A outer s H vs Q E hr h=>?_)
 obtain ⟨a,x,rfl,k⟩:=h
 refine ⟨_,(pss_cons (ps_if (pt_cmpR op_eq (pv 0) (pe_ci c_AIM_SIDE rfl) (nomark _)) (pss_one (ps_ret (pe_callX k_is_side (hr.mono (by decide)) rfl (pa_cons (pv 1) pa_nil)))) pss_nil) (pss_cons (ps_if (pt_cmpR op_eq (pv 0) (pe_ci c_AIM_THING rfl) (nomark _)) (pss_one (ps_ret (pe_not (pe_callX k_is_side (hr.mono (by decide)) rfl (pa_cons (pv 1) pa_nil))))) pss_nil) (pss_one (ps_ret pe_bl)))),?_⟩
 unfold aimB at k
 walk_at "go"
 refine rd_ite (fun h1=>?_) fun h1=>?_
 ·rw [if_pos h1] at k
  walk_at "go"
  exact ⟨x,rfl,k⟩
 rw [if_neg h1] at k
 walk_at "go"
 refine rd_ite (fun h2=>?_) fun h2=>?_
 ·rw [if_pos h2] at k
  walk_at "go"
  exact ⟨x,rfl,rd_blV k⟩
 rw [if_neg h2] at k
 walk_at "go"
 exact k)) only [↓zh1]
def sp_fits_whose (K:PySem.W.Frag) (C:Cl):Sp:=fun vs H Q _=>∃ (a dx lt ls ld:Addr) (e:Ef) (x:Int),vs=[.ref a,.int x]∧H a=some (.ins C.effect dx (efFs e lt ls ld))∧Q (.bl (whoseB e.whose e.side x)) H
theorem ok_fits_whose (T:Tx K C) (F:Fun K "fits_whose" "fits_whose" s_fits_whose f fd) (c_WHOSE_OWN_SIDE:CI mg "WHOSE_OWN_SIDE" (1)) (c_WHOSE_OTHER_SIDE:CI mg "WHOSE_OTHER_SIDE" (2)) :FnOk P w K mg base CX0 1 f fd ["effect","befallen"] (sp_fits_whose K C):=by
 refine zh0 ?_;simp (disch:=k_dflt (
 refine F.ok sc_fits_whose (by walk_at "ln") (fun cdv A outer s H vs Q E hr h=>?_)
 obtain ⟨a,dx,lt,ls,ld,e,x,rfl,ha,k⟩:=h
 refine ⟨_,(pss_cons (ps_if (pt_cmpR op_eq (pe_fld (pv 0) rfl) (pe_ci c_WHOSE_OWN_SIDE rfl) (nomark _)) (pss_one (ps_ret (pe_cmpR op_eq (pv 1) (pe_fld (pv 0) rfl) (nomark _)))) pss_nil) (pss_cons (ps_if (pt_cmpR op_eq (pe_fld (pv 0) rfl) (pe_ci c_WHOSE_OTHER_SIDE rfl) (nomark _)) (pss_one (ps_ret (pe_cmpR op_ne (pv 1) (pe_fld (pv 0) rfl) (nomark _)))) pss_nil) (pss_one (ps_ret pe_bl)))),?_⟩
 unfold whoseB at k
 walk_at "go"
 refine rd_ite (fun h1=>?_) fun h1=>?_
 ·rw [if_pos h1] at k
  walk_at "go"
  exact k
 rw [if_neg h1] at k
 walk_at "go"
 refine rd_ite (fun h2=>?_) fun h2=>?_
 ·rw [if_pos h2] at k
  walk_at "go"
  exact k
 rw [if_neg h2] at k
 walk_at "go"
 exact k)) only [↓zh1]
def sp_fits_things (K:PySem.W.Frag) (C:Cl):Sp:=fun vs H Q _=>∃ (l:Addr) (ns:List Int) (x:Int),vs=[.ref l,.int x]∧SqL K H l (ivs ns)∧Q (.bl (thsB ns x)) H
theorem ok_fits_things (T:Tx K C) (F:Fun K "fits_things" "fits_things" s_fits_things f fd) (b_len:mg "len"=none) (k_thing_of:Kn P w K mg base "thing_of" 1 (sp_thing_of K C)) (k_is_side:Kn P w K mg base "is_side" 1 (sp_is_side K C)) :FnOk P w K mg base CX0 2 f fd ["things","target"] (sp_fits_things K C):=by
 refine zh0 ?_;simp (disch:=k_dflt (
 refine F.ok sc_fits_things (by walk_at "ln") (fun cdv A outer s H vs Q E hr h=>?_)
 obtain ⟨l,ns,x,rfl,hl,k⟩:=h
 refine ⟨_,(pss_cons (ps_if (pt_cmpR op_eq (pe_callB call_len_seq rfl b_len PySem.boot_len (pa_cons (pv 0) pa_nil)) pe_int (nomark _)) (pss_one (ps_ret pe_bl)) pss_nil) (pss_one (ps_ret (pe_and (pe_not (pe_callX k_is_side (hr.mono (by decide)) rfl (pa_cons (pv 1) pa_nil))) (pe_one (pe_cmpR op_in_seq (pe_callX k_thing_of (hr.mono (by decide)) rfl (pa_cons (pv 1) pa_nil)) (pv 0) rfl)))))),?_⟩
 unfold thsB at k
 have e0:((ivs ns).length:Int)=(ns.length:Int):=by unfold ivs;rw [List.length_map]
 walk_at "go"
 rw [e0]
 refine rd_ite (fun h1=>?_) fun h1=>?_
 ·rw [if_pos (by omega)] at k
  walk_at "go"
  exact k
 rw [if_neg (by omega)] at k
 walk_at "go"
 refine ⟨x,rfl,?_⟩
 walk_at "ifk"
 ·refine ⟨x,rfl,?_⟩
  walk_at "go"
  exact k
 exact k)) only [↓zh1]
def sp_fits_sources (K:PySem.W.Frag) (C:Cl):Sp:=fun vs H Q _=>∃ (l:Addr) (ns:List Int) (x:Int),vs=[.ref l,.int x]∧SqL K H l (ivs ns)∧Q (.bl (srcB ns x)) H
theorem ok_fits_sources (T:Tx K C) (F:Fun K "fits_sources" "fits_sources" s_fits_sources f fd) (b_len:mg "len"=none) :FnOk P w K mg base CX0 1 f fd ["sources","source"] (sp_fits_sources K C):=by
 refine zh0 ?_;simp (disch:=k_dflt (
 refine F.ok sc_fits_sources (by walk_at "ln") (fun cdv A outer s H vs Q E hr h=>?_)
 obtain ⟨l,ns,x,rfl,hl,k⟩:=h
 refine ⟨_,(pss_one (ps_ret (pe_or (pe_cmpR op_eq (pe_callB call_len_seq rfl b_len PySem.boot_len (pa_cons (pv 0) pa_nil)) pe_int (nomark _)) (pe_one (pe_cmpR op_in_seq (pv 1) (pv 0) rfl))))),?_⟩
 unfold srcB at k
 have e0:((ivs ns).length:Int)=(ns.length:Int):=by unfold ivs;rw [List.length_map]
 walk_at "go"
 rw [e0]
 refine rd_ite (fun h1=>?_) fun h1=>?_
 ·rw [decide_eq_true (by omega)] at k
  walk_at "go"
  exact k
 rw [decide_eq_false (by omega)] at k
 walk_at "go"
 exact k)) only [↓zh1]
def sp_fits_own (K:PySem.W.Frag) (C:Cl):Sp:=fun vs H Q _=>∃ (a dx lt ls ld:Addr) (e:Ef) (x:Int),vs=[.ref a,.int x]∧H a=some (.ins C.effect dx (efFs e lt ls ld))∧Q (.bl (ownB (b2z e.own) e.source x)) H
theorem ok_fits_own (T:Tx K C) (F:Fun K "fits_own" "fits_own" s_fits_own f fd)  :FnOk P w K mg base CX0 1 f fd ["effect","source"] (sp_fits_own K C):=by
 refine zh0 ?_;simp (disch:=k_dflt (
 refine F.ok sc_fits_own (by walk_at "ln") (fun cdv A outer s H vs Q E hr h=>?_)
 obtain ⟨a,dx,lt,ls,ld,e,x,rfl,ha,k⟩:=h
 refine ⟨_,(pss_one (ps_ret (pe_or (pe_cmpR op_eq (pe_fld (pv 0) rfl) pe_int (nomark _)) (pe_one (pe_and (pe_cmpR op_ne (pe_fld (pv 0) rfl) pe_int (nomark _)) (pe_one (pe_cmpR op_eq (pe_fld (pv 0) rfl) (pv 1) (nomark _)))))))),?_⟩
 unfold ownB at k
 walk_at "ifk"
 ·exact k
 walk_at "ifk"
 ·exact k
 exact k)) only [↓zh1]
def sp_fits (K:PySem.W.Frag) (C:Cl):Sp:=fun vs H Q _=>∃ (a dx lt ls ld:Addr) (e:Ef) (c dy lu:Addr) (v:Ev) (b:Nat),vs=[.ref a,.ref c,iv b]∧H a=some (.ins C.effect dx (efFs e lt ls ld))∧H lt=some (.lst (ivs (castL e.things)))∧H ls=some (.lst (ivs (castL e.sources))) ∧
 H c=some (.ins C.event dy (evFs v lu))∧H lu=some (.lst (ivs (castL v.used)))∧Q (.bl (fitsB e v b)) H
theorem ok_fits (T:Tx K C) (F:Fun K "fits" "fits" s_fits f fd) (k_fits_own:Kn P w K mg base "fits_own" 1 (sp_fits_own K C)) (k_fits_sources:Kn P w K mg base "fits_sources" 1 (sp_fits_sources K C)) (k_fits_things:Kn P w K mg base "fits_things" 2 (sp_fits_things K C)) (k_fits_whose:Kn P w K mg base "fits_whose" 1 (sp_fits_whose K C)) (k_fits_aim:Kn P w K mg base "fits_aim" 2 (sp_fits_aim K C)) :FnOk P w K mg base CX0 3 f fd ["effect","event","befallen"] (sp_fits K C):=by
 refine zh0 ?_;simp (disch:=k_dflt (
 refine F.ok sc_fits (by walk_at "ln") (fun cdv A outer s H vs Q E hr h=>?_)
 obtain ⟨a,dx,lt,ls,ld,e,c,dy,lu,v,b,rfl,ha,ht,hs,hc,hu,k⟩:=h
 refine ⟨_,(pss_one (ps_ret (pe_and (pe_cmpR op_eq (pe_fld (pv 0) rfl) (pe_fld (pv 1) rfl) (nomark _)) (pe_and (pe_cmpR op_notIn_seq (pe_fld (pv 0) rfl) (pe_fld (pv 1) rfl) rfl) (pe_and (pe_callX k_fits_aim (hr.mono (by decide)) rfl (pa_cons (pe_fld (pv 0) rfl) (pa_cons (pe_fld (pv 1) rfl) pa_nil))) (pe_and (pe_callX k_fits_whose (hr.mono (by decide)) rfl (pa_cons (pv 0) (pa_cons (pv 2) pa_nil))) (pe_and (pe_callX k_fits_things (hr.mono (by decide)) rfl (pa_cons (pe_fld (pv 0) rfl) (pa_cons (pe_fld (pv 1) rfl) pa_nil))) (pe_and (pe_callX k_fits_sources (hr.mono (by decide)) rfl (pa_cons (pe_fld (pv 0) rfl) (pa_cons (pe_fld (pv 1) rfl) pa_nil))) (pe_one (pe_callX k_fits_own (hr.mono (by decide)) rfl (pa_cons (pv 0) (pa_cons (pe_fld (pv 1) rfl) pa_nil)))))))))))),?_⟩
 unfold fitsB at k
 walk_at "ifk"
 ·walk_at "ifk"
  ·refine ⟨_,_,rfl,?_⟩
   walk_at "ifk"
   ·refine ⟨_,_,_,_,_,_,_,rfl,ha,?_⟩
    walk_at "ifk"
    ·refine ⟨_,_,_,rfl,SqL.of ht,?_⟩
     walk_at "ifk"
     ·refine ⟨_,_,_,rfl,SqL.of hs,?_⟩
      walk_at "ifk"
      ·exact ⟨_,_,_,_,_,_,_,rfl,ha,k⟩
      exact k
     exact k
    exact k
   exact k
  exact k
 exact k)) only [↓zh1]
theorem Rep.tbl {ρ:Rho} {H:Hp} {t:Addr} {lo:Lo} {bV:V} {W:W} (R:Rep C ρ H t lo bV W):∃ dx,H t=some (.ins C.table dx (tbFs lo.sL lo.tL lo.eL W.last lo.bL bV)):=R.tb.2
theorem rfs_len (l:List Addr):(rfs l).length=l.length:=by unfold rfs;rw [List.length_map]
def hasB (n:Int) (W:W):Bool:=withinB n 1 W.things.length
def sp_Table_has_thing (K:PySem.W.Frag) (C:Cl):Sp:=fun vs H Q _=>∃ (t:Addr) (n:Int) (ρ:Rho) (lo:Lo) (bV:V) (W:W),vs=[.ref t,.int n]∧Rep C ρ H t lo bV W∧Q (.bl (hasB n W)) H
theorem ok_Table_has_thing (T:Tx K C) (F:Fun K "has_thing" "Table.has_thing" s_Table_has_thing f fd) (b_len:mg "len"=none) :FnOk P w K mg base CX0 1 f fd ["self","number"] (sp_Table_has_thing K C):=by
 refine zh0 ?_;simp (disch:=k_dflt (
 refine F.ok sc_Table_has_thing (by walk_at "ln") (fun cdv A outer s H vs Q E hr h=>?_)
 obtain ⟨t,n,ρ,lo,bV,W,rfl,R,k⟩:=h
 refine ⟨_,(pss_one (ps_ret (pe_chain op_le op_le pe_int (pv 1) (pe_callB call_len_seq rfl b_len PySem.boot_len (pa_cons (pe_fld (pv 0) rfl) pa_nil))))),?_⟩
 obtain ⟨dx,ht⟩:=R.tbl
 have hl:=R.th.1.2
 have e0:((rfs lo.ta).length:Int)=(W.things.length:Int):=by rw [rfs_len,R.th.2.1]
 unfold hasB withinB at k
 walk_at "ifk"
 ·rw [e0]
  exact k
 exact k)) only [↓zh1]
def sp_Table_has_target (K:PySem.W.Frag) (C:Cl):Sp:=fun vs H Q _=>∃ (t:Addr) (n:Int) (ρ:Rho) (lo:Lo) (bV:V) (W:W),vs=[.ref t,.int n]∧Rep C ρ H t lo bV W∧Q (.bl (isSideB n || hasB (n - 11 + 1) W)) H
theorem ok_Table_has_target (T:Tx K C) (F:Fun K "has_target" "Table.has_target" s_Table_has_target f fd) (q_Table_has_thing:KnM P w K mg base C.table "has_thing" 1 (sp_Table_has_thing K C)) (k_thing_of:Kn P w K mg base "thing_of" 1 (sp_thing_of K C)) (k_is_side:Kn P w K mg base "is_side" 1 (sp_is_side K C)) :FnOk P w K mg base CX0 2 f fd ["self","target"] (sp_Table_has_target K C):=by
 refine zh0 ?_;simp (disch:=k_dflt (
 refine F.ok sc_Table_has_target (by walk_at "ln") (fun cdv A outer s H vs Q E hr h=>?_)
 obtain ⟨t,n,ρ,lo,bV,W,rfl,R,k⟩:=h
 refine ⟨_,(pss_one (ps_ret (pe_or (pe_callX k_is_side (hr.mono (by decide)) rfl (pa_cons (pv 1) pa_nil)) (pe_one (pe_methX (pv 0) q_Table_has_thing (hr.mono (by decide)) (pa_cons (pe_callX k_thing_of (hr.mono (by decide)) rfl (pa_cons (pv 1) pa_nil)) pa_nil)))))),?_⟩
 obtain ⟨dx,ht⟩:=R.tbl
 walk_at "go"
 refine ⟨n,rfl,?_⟩
 walk_at "ifk"
 ·exact k
 refine ⟨n,rfl,?_⟩
 walk_at "go"
 exact ⟨t,_,ρ,lo,bV,W,rfl,R,k⟩)) only [↓zh1]
def sp_Table_has_source (K:PySem.W.Frag) (C:Cl):Sp:=fun vs H Q _=>∃ (t:Addr) (n:Int) (ρ:Rho) (lo:Lo) (bV:V) (W:W),vs=[.ref t,.int n]∧Rep C ρ H t lo bV W∧Q (.bl (decide (n=0) || hasB n W)) H
theorem ok_Table_has_source (T:Tx K C) (F:Fun K "has_source" "Table.has_source" s_Table_has_source f fd) (q_Table_has_thing:KnM P w K mg base C.table "has_thing" 1 (sp_Table_has_thing K C)) :FnOk P w K mg base CX0 2 f fd ["self","source"] (sp_Table_has_source K C):=by
 refine zh0 ?_;simp (disch:=k_dflt (
 refine F.ok sc_Table_has_source (by walk_at "ln") (fun cdv A outer s H vs Q E hr h=>?_)
 obtain ⟨t,n,ρ,lo,bV,W,rfl,R,k⟩:=h
 refine ⟨_,(pss_one (ps_ret (pe_or (pe_cmpR op_eq (pv 1) pe_int (nomark _)) (pe_one (pe_methX (pv 0) q_Table_has_thing (hr.mono (by decide)) (pa_cons (pv 1) pa_nil)))))),?_⟩
 obtain ⟨dx,ht⟩:=R.tbl
 walk_at "ifk"
 ·exact k
 exact ⟨t,_,ρ,lo,bV,W,rfl,R,k⟩)) only [↓zh1]
def onF (W:W) (s:Nat):Bool:=s == 0 || (W.things[s - 1]?).any fun x=>x.place == 0
theorem thing_at {ρ:Rho} {H:Hp} {t:Addr} {lo:Lo} {bV:V} {W:W} (R:Rep C ρ H t lo bV W) {n:Nat} (h:n < W.things.length):∃ a x dx,lo.ta[n]?=some a∧W.things[n]?=some x∧H a=some (.ins C.thing dx (thFs x))∧ρ a=(5,n):=by
 refine zh0 ?_;simp (disch:=k_dflt (
 refine zh2 ?_
 have hlt:n < lo.ta.length:=by rw [R.th.2.1];exact h
 have h1:lo.ta[n]?=some lo.ta[n]:=List.getElem?_eq_getElem hlt
 have h2:W.things[n]?=some W.things[n]:=List.getElem?_eq_getElem h
 obtain ⟨r,dx,e⟩:=R.th.2.2 n _ _ h1 h2
 exact ⟨_,_,dx,h1,h2,e,r⟩)) only [↓zh1]
theorem rfs_at {l:List Addr} {n:Nat} {a:Addr} {i:Int} (h:l[n]?=some a) (e:i=(n:Int)):atI (rfs l) i=some (.ref a):=by
 subst e
 refine atI_nat ?_
 unfold rfs
 rw [List.getElem?_map,h]
 rfl
def sp_Table_thing_numbered (K:PySem.W.Frag) (C:Cl):Sp:=fun vs H Q _=>∃ (t:Addr) (i:Int) (n:Nat) (ρ:Rho) (lo:Lo) (bV:V) (W:W) (a:Addr),vs=[.ref t,.int i]∧Rep C ρ H t lo bV W∧lo.ta[n]?=some a∧i - 1=(n:Int)∧Q (.ref a) H
theorem ok_Table_thing_numbered (T:Tx K C) (F:Fun K "thing_numbered" "Table.thing_numbered" s_Table_thing_numbered f fd)  :FnOk P w K mg base CX0 1 f fd ["self","number"] (sp_Table_thing_numbered K C):=by
 refine zh0 ?_;simp (disch:=k_dflt (
 refine F.ok sc_Table_thing_numbered (by walk_at "ln") (fun cdv A outer s H vs Q E hr h=>?_)
 obtain ⟨t,i,n,ρ,lo,bV,W,a,rfl,R,ha,hi,k⟩:=h
 refine ⟨_,(pss_one (ps_ret (pe_ix ix_list (pe_fld (pv 0) rfl) (pe_op op_sub (pv 1) pe_int) (fun _ _=>rfl)))),?_⟩
 obtain ⟨dx,ht⟩:=R.tbl
 have hl:=R.th.1.2
 walk_at "go"
 exact rd_ix hl (rfs_at ha hi) k)) only [↓zh1]
def sp_Table_on_field (K:PySem.W.Frag) (C:Cl):Sp:=fun vs H Q _=>∃ (t:Addr) (n:Nat) (ρ:Rho) (lo:Lo) (bV:V) (W:W),vs=[.ref t,iv n]∧Rep C ρ H t lo bV W∧n≤W.things.length∧Q (.bl (onF W n)) H
theorem ok_Table_on_field (T:Tx K C) (F:Fun K "on_field" "Table.on_field" s_Table_on_field f fd) (q_Table_thing_numbered:KnM P w K mg base C.table "thing_numbered" 1 (sp_Table_thing_numbered K C)) (c_FIELD:CI mg "FIELD" (0)) :FnOk P w K mg base CX0 2 f fd ["self","source"] (sp_Table_on_field K C):=by
 refine zh0 ?_;simp (disch:=k_dflt (
 refine F.ok sc_Table_on_field (by walk_at "ln") (fun cdv A outer s H vs Q E hr h=>?_)
 obtain ⟨t,n,ρ,lo,bV,W,rfl,R,hn,k⟩:=h
 refine ⟨_,(pss_one (ps_ret (pe_or (pe_cmpR op_eq (pv 1) pe_int (nomark _)) (pe_one (pe_cmpR op_eq (pe_fld (pe_methX (pv 0) q_Table_thing_numbered (hr.mono (by decide)) (pa_cons (pv 1) pa_nil)) rfl) (pe_ci c_FIELD rfl) (nomark _)))))),?_⟩
 obtain ⟨dx,ht⟩:=R.tbl
 have hl:=R.th.1.2
 walk_at "go"
 refine rd_ite (fun h0=>?_) fun h0=>?_
 ·have e:n=0:=by omega
  subst e
  exact k
 obtain ⟨a,x,dy,h1,h2,h3,_⟩:=thing_at R (n:=n - 1) (by omega)
 walk_at "go"
 refine ⟨t,_,_,ρ,lo,bV,W,a,rfl,R,h1,by omega,?_⟩
 walk_at "go"
 have e:onF W n=decide ((x.place:Int)=0):=by
  unfold onF
  rw [h2,Option.any_some,show (n == 0)=false from beq_eq_false_iff_ne.mpr (by omega),Bool.false_or,Bool.eq_iff_iff,beq_iff_eq,decide_eq_true_iff]
  omega
 rw [← e]
 exact k)) only [↓zh1]
def sp_Table_befallen_side (K:PySem.W.Frag) (C:Cl):Sp:=fun vs H Q _=>∃ (t:Addr) (n:Nat) (ρ:Rho) (lo:Lo) (bV:V) (W:W),vs=[.ref t,iv n]∧Rep C ρ H t lo bV W∧(n < 2∨(10 < n∧n - 10≤W.things.length))∧Q (iv (Vbdcai.sideOf (Vbdcai.ctrl W) n)) H
theorem ok_Table_befallen_side (T:Tx K C) (F:Fun K "befallen_side" "Table.befallen_side" s_Table_befallen_side f fd) (k_is_side:Kn P w K mg base "is_side" 1 (sp_is_side K C)) (q_Table_thing_numbered:KnM P w K mg base C.table "thing_numbered" 1 (sp_Table_thing_numbered K C)) (k_thing_of:Kn P w K mg base "thing_of" 1 (sp_thing_of K C)) :FnOk P w K mg base CX0 2 f fd ["self","target"] (sp_Table_befallen_side K C):=by
 refine zh0 ?_;simp (disch:=k_dflt (
 refine F.ok sc_Table_befallen_side (by walk_at "ln") (fun cdv A outer s H vs Q E hr h=>?_)
 obtain ⟨t,n,ρ,lo,bV,W,rfl,R,hn,k⟩:=h
 refine ⟨_,(pss_cons (ps_if (pt_val (pe_callX k_is_side (hr.mono (by decide)) rfl (pa_cons (pv 1) pa_nil))) (pss_one (ps_ret (pv 1))) pss_nil) (pss_one (ps_ret (pe_fld (pe_methX (pv 0) q_Table_thing_numbered (hr.mono (by decide)) (pa_cons (pe_callX k_thing_of (hr.mono (by decide)) rfl (pa_cons (pv 1) pa_nil)) pa_nil)) rfl)))),?_⟩
 obtain ⟨dx,ht⟩:=R.tbl
 have hl:=R.th.1.2
 walk_at "go"
 refine ⟨_,rfl,?_⟩
 walk_at "go"
 refine rd_iteB (fun h0=>?_) fun h0=>?_
 ·have hs:n < 2:=by
   unfold isSideB at h0
   simp at h0
   omega
  have e:Vbdcai.sideOf (Vbdcai.ctrl W) n=n:=by
   unfold Vbdcai.sideOf Vbdcai.isThing
   rw [if_neg (by simp;omega)]
  rw [e] at k
  walk_at "go"
  exact k
 have hs:10 < n∧n - 10≤W.things.length:=by
  unfold isSideB at h0
  simp at h0
  omega
 obtain ⟨a,x,dy,h1,h2,h3,_⟩:=thing_at R (n:=n - 11) (by omega)
 walk_at "go"
 refine ⟨_,rfl,?_⟩
 walk_at "go"
 refine ⟨t,_,_,ρ,lo,bV,W,a,rfl,R,h1,by omega,?_⟩
 walk_at "go"
 have e:Vbdcai.sideOf (Vbdcai.ctrl W) n=x.ctrl:=by
  unfold Vbdcai.sideOf Vbdcai.isThing Vbdcai.ctrl
  rw [if_pos (by simp;omega),show n - 10 - 1=n - 11 by omega,h2]
  rfl
 rw [e] at k
 exact k)) only [↓zh1]
def sp_Event_init (K:PySem.W.Frag) (C:Cl):Sp:=fun vs H Q _=>∃ (p dx lu:Addr) (v:Ev),vs=[.ref p,iv v.kind,iv v.source,iv v.target,iv v.amount,iv v.place,.ref lu]∧H p=some (.ins C.event dx [])∧Q .non (upd H p (.ins C.event dx (evFs v lu)))
theorem ok_Event_init (T:Tx K C) (F:Fun K "__init__" "Event.__init__" s_Event_init f fd)  :FnOk P w K mg base CX0 1 f fd ["self","kind","source","target","amount","place","used"] (sp_Event_init K C):=by
 refine zh0 ?_;simp (disch:=k_dflt (
 refine F.ok sc_Event_init (by walk_at "ln") (fun cdv A outer s H vs Q E hr h=>?_)
 obtain ⟨p,dx,lu,v,rfl,hp,k⟩:=h
 refine ⟨_,(pss_cons (ps_fld (pv 0) (pv 1) rfl) (pss_cons (ps_fld (pv 0) (pv 2) rfl) (pss_cons (ps_fld (pv 0) (pv 3) rfl) (pss_cons (ps_fld (pv 0) (pv 4) rfl) (pss_cons (ps_fld (pv 0) (pv 5) rfl) (pss_one (ps_fld (pv 0) (pv 6) rfl))))))),?_⟩
 walk_at "go"
 simp only [upd_upd]
 exact k)) only [↓zh1]
def sp_Side_init (K:PySem.W.Frag) (C:Cl):Sp:=fun vs H Q _=>∃ (p dx:Addr),vs=[.ref p]∧H p=some (.ins C.side dx [])∧Q .non (upd H p (.ins C.side dx (sdFs {})))
theorem ok_Side_init (T:Tx K C) (F:Fun K "__init__" "Side.__init__" s_Side_init f fd) (c_FIRST_LIFE:CI mg "FIRST_LIFE" (20)) :FnOk P w K mg base CX0 1 f fd ["self"] (sp_Side_init K C):=by
 refine zh0 ?_;simp (disch:=k_dflt (
 refine F.ok sc_Side_init (by walk_at "ln") (fun cdv A outer s H vs Q E hr h=>?_)
 obtain ⟨p,dx,rfl,hp,k⟩:=h
 refine ⟨_,(pss_cons (ps_fld (pv 0) (pe_ci c_FIRST_LIFE rfl) rfl) (pss_cons (ps_fld (pv 0) pe_int rfl) (pss_one (ps_fld (pv 0) pe_int rfl)))),?_⟩
 walk_at "go"
 simp only [upd_upd]
 exact k)) only [↓zh1]
def sp_Thing_init (K:PySem.W.Frag) (C:Cl):Sp:=fun vs H Q _=>∃ (p dx:Addr) (s z:Nat),vs=[.ref p,iv s,iv z]∧H p=some (.ins C.thing dx [])∧Q .non (upd H p (.ins C.thing dx (thFs { ctrl:=s,place:=z })))
theorem ok_Thing_init (T:Tx K C) (F:Fun K "__init__" "Thing.__init__" s_Thing_init f fd)  :FnOk P w K mg base CX0 1 f fd ["self","side","place"] (sp_Thing_init K C):=by
 refine zh0 ?_;simp (disch:=k_dflt (
 refine F.ok sc_Thing_init (by walk_at "ln") (fun cdv A outer s H vs Q E hr h=>?_)
 obtain ⟨p,dx,s,z,rfl,hp,k⟩:=h
 refine ⟨_,(pss_cons (ps_fld (pv 0) (pv 1) rfl) (pss_cons (ps_fld (pv 0) (pv 2) rfl) (pss_cons (ps_fld (pv 0) pe_int rfl) (pss_one (ps_fld (pv 0) pe_int rfl))))),?_⟩
 walk_at "go"
 simp only [upd_upd]
 exact k)) only [↓zh1]
def sp_Book_init (K:PySem.W.Frag) (C:Cl):Sp:=fun vs H Q _=>∃ (p dx:Addr),vs=[.ref p]∧H p=some (.ins C.book dx [])∧Q .non (upd H p (.ins C.book dx (bkFs {})))
theorem ok_Book_init (T:Tx K C) (F:Fun K "__init__" "Book.__init__" s_Book_init f fd)  :FnOk P w K mg base CX0 1 f fd ["self"] (sp_Book_init K C):=by
 refine zh0 ?_;simp (disch:=k_dflt (
 refine F.ok sc_Book_init (by walk_at "ln") (fun cdv A outer s H vs Q E hr h=>?_)
 obtain ⟨p,dx,rfl,hp,k⟩:=h
 refine ⟨_,(pss_cons (ps_fld (pv 0) pe_int rfl) (pss_cons (ps_fld (pv 0) pe_int rfl) (pss_cons (ps_fld (pv 0) pe_int rfl) (pss_cons (ps_fld (pv 0) pe_int rfl) (pss_cons (ps_fld (pv 0) pe_int rfl) (pss_one (ps_fld (pv 0) pe_int rfl))))))),?_⟩
 walk_at "go"
 simp only [upd_upd]
 exact k)) only [↓zh1]
def sp_Event_mark (K:PySem.W.Frag) (C:Cl):Sp:=fun vs H Q _=>∃ (a dx lu:Addr) (v:Ev) (i:Nat),vs=[.ref a,iv i]∧H a=some (.ins C.event dx (evFs v lu))∧H lu=some (.lst (ivs (castL v.used)))∧v.used.length < 1000 ∧
 ∀ l1 l2,H l1=none→H l2=none→l2≠l1→Q .non (upd (upd (upd H l1 (.lst [iv i])) l2 (.lst (ivs (castL (i :: v.used))))) a (.ins C.event dx (evFs { v with used:=i :: v.used } l2)))
theorem ok_Event_mark (T:Tx K C) (F:Fun K "mark" "Event.mark" s_Event_mark f fd)  :FnOk P w K mg base CX0 1 f fd ["self","number"] (sp_Event_mark K C):=by
 refine zh0 ?_;simp (disch:=k_dflt (
 refine F.ok sc_Event_mark (by walk_at "ln") (fun cdv A outer s H vs Q E hr h=>?_)
 obtain ⟨a,dx,lu,v,i,rfl,ha,hu,hz,k⟩:=h
 refine ⟨_,(pss_one (ps_fld (pv 0) (pe_op op_cat (pe_lst (pa_cons (pv 1) pa_nil)) (pe_fld (pv 0) rfl)) rfl)),?_⟩
 walk_at "go"
 refine ⟨by show 1≤sizeLine;decide,fun l1 hl1=>?_⟩
 have ha1:upd H l1 (.lst [iv i]) a=some (.ins C.event dx (evFs v lu)):=by rw [upd_ne (ne_of_none ha hl1)];exact ha
 have hu1:upd H l1 (.lst [iv i]) lu=some (.lst (ivs (castL v.used))):=by rw [upd_ne (ne_of_none hu hl1)];exact hu
 walk_at "go"
 refine ⟨_,_,_,_,rfl,rfl,upd_same,hu1,?_,fun l2 hl2=>?_⟩
 ·have e:(ivs (castL v.used)).length=v.used.length:=by unfold ivs castL;rw [List.length_map,List.length_map]
  rw [e]
  show 1 + v.used.length≤sizeLine
  rw [sizeLine_eq]
  omega
 have n21:l2≠l1:=fun q=>by rw [q,upd_same] at hl2;cases hl2
 have hl2':H l2=none:=by rw [upd_ne n21] at hl2;exact hl2
 have ha2:upd (upd H l1 (.lst [iv i])) l2 (.lst ([iv i]++ivs (castL v.used))) a=some (.ins C.event dx (evFs v lu)):=by rw [upd_ne (ne_of_none ha1 hl2)];exact ha1
 walk_at "go"
 exact k l1 l2 hl1 hl2' n21)) only [↓zh1]
structure SB (C:Cl) (ρ:Rho) (H:Hp) (t:Addr) (lo:Lo) (b:Addr) (lb:Lb) (W bf:Du.W):Prop where
 rep:Rep C ρ H t lo (.ref b) W
 bat:Bat C ρ H b lb W bf
abbrev Out (ρ:Rho) (H:Hp) (ρ':Rho) (H':Hp):Prop:=Kp (fun n=>n=0) ρ H ρ' H'
theorem book_at {ρ:Rho} {H:Hp} {t:Addr} {lo:Lo} {bV:V} {W:W} (R:Rep C ρ H t lo bV W) {n:Nat} (h:n < W.books.length):∃ a x dx,lo.ba[n]?=some a∧W.books[n]?=some x∧H a=some (.ins C.book dx (bkFs x))∧ρ a=(31,n):=by
 refine zh0 ?_;simp (disch:=k_dflt (
 refine zh2 ?_
 have hlt:n < lo.ba.length:=by rw [R.bk.2.1];exact h
 have h1:lo.ba[n]?=some lo.ba[n]:=List.getElem?_eq_getElem hlt
 have h2:W.books[n]?=some W.books[n]:=List.getElem?_eq_getElem h
 obtain ⟨r,dx,e⟩:=R.bk.2.2 n _ _ h1 h2
 exact ⟨_,_,dx,h1,h2,e,r⟩)) only [↓zh1]
theorem getD_at {l:List Bk} {n:Nat} {x d:Bk} (h:l[n]?=some x):l.getD n d=x:=by rw [List.getD_eq_getElem?_getD,h];rfl
def sp_set_amount (K:PySem.W.Frag) (C:Cl):Sp:=fun vs H Q _=>∃ (t a:Addr) (n:Nat) (ρ:Rho) (lo:Lo) (b:Addr) (lb:Lb) (W bf:Du.W) (v:Ev) (r:List Ev) (ra:List Addr),vs=[.ref t,.ref a,iv n]∧SB C ρ H t lo b lb W bf ∧
 W.todo=v :: r∧lb.ra=a :: ra∧v.kind < W.books.length∧∀ H',SB C ρ H' t lo b lb (setAmt W v r n) bf→Kp (fun n=>n≠31∧n≠50) ρ H ρ H'→Q .non H'
theorem ok_set_amount (T:Tx K C) (F:Fun K "set_amount" "set_amount" s_set_amount f fd)  :FnOk P w K mg base CX0 1 f fd ["table","event","amount"] (sp_set_amount K C):=by
 refine zh0 ?_;simp (disch:=k_dflt (
 refine F.ok sc_set_amount (by walk_at "ln") (fun cdv A outer s H vs Q E hr h=>?_)
 obtain ⟨t,a,n,ρ,lo,b,lb,W,bf,v,r,ra,rfl,S,ht,hra,hk,k⟩:=h
 refine ⟨_,(pss_cons (ps_set (i:=3) sc_set_amount.nd rfl (Or.inl rfl) (pe_ix ix_list (pe_fld (pv 0) rfl) (pe_fld (pv 1) rfl) (fun _ _=>rfl))) (pss_cons (ps_if (pt_cmpR op_lt (pv 2) (pe_fld (pv 1) rfl) (nomark _)) (pss_one (ps_fldaug (pv 3) (pe_op op_sub (pe_fld (pv 1) rfl) (pv 2)) in_add)) (pss_one (ps_fldaug (pv 3) (pe_op op_sub (pv 2) (pe_fld (pv 1) rfl)) in_add))) (pss_one (ps_fld (pv 1) (pv 2) rfl)))),?_⟩
 obtain ⟨R,B⟩:=S
 obtain ⟨dx,htb⟩:=R.tbl
 have hbl:=R.bk.1.2
 obtain ⟨a',ra',e1,h0,dv,lu,hv,hlu,hus⟩:=B.first ht
 rw [hra] at e1
 cases e1
 obtain ⟨ab,x,db,hab,hx,hbk,rab⟩:=book_at R hk
 have nab:a≠ab:=fun q=>by rw [q,rab] at h0;cases h0
 walk_at "go"
 refine rd_ix hbl (rfs_at hab rfl) ?_
 walk_at "go"
 have fin:∀ (y:Bk),setAmt W v r n={ W with books:=W.books.set v.kind y,todo:={ v with amount:=n } :: r }→Q .non (upd (upd H ab (.ins C.book db (bkFs y))) a (.ins C.event dv (evFs { v with amount:=n } lu))):=fun y ey=>by
  have R1:=R.book (y:=y) (dx:=db) hab hx
  have B1:=B.book R (o:=.ins C.book db (bkFs y)) hab hx (bs:=W.books.set v.kind y)
  have B2:=B1.ev0 (v':={ v with amount:=n }) (dx:=dv) hra (show ({ W with books:=W.books.set v.kind y }:Du.W).todo=v :: r from ht) hlu (by rw [upd_ne (fun q=>by rw [q,rab] at hlu;cases hlu)];exact hus)
  have R2:=R1.ev (a:=a) (o:=.ins C.event dv (evFs { v with amount:=n } lu)) (vs:={ v with amount:=n } :: r) h0
  refine k _ ?_ ?_
  ·rw [ey]
   exact ⟨R2,B2⟩
  exact (Kp.upd (by rw [rab];simp)).trans (Kp.upd (by rw [h0];simp))
 have hv1:∀ y:Bk,upd H ab (.ins C.book db (bkFs y)) a=some (.ins C.event dv (evFs v lu)):=fun y=>by rw [upd_ne nab];exact hv
 refine rd_ite (fun h1=>?_) fun h1=>?_
 ·have hv1:=hv1 { x with cut:=x.cut + (v.amount - n) }
  walk_at "go"
  walk_at "go"
  refine rd_put hbk (Nat.le_of_ble_eq_true rfl) (gs:=bkFs { x with cut:=x.cut + (v.amount - n) }) ?_ ?_
  ·rw [show ((x.cut:Int) + ((v.amount:Int) - (n:Int)))=((x.cut + (v.amount - n):Nat):Int) by omega]
   rfl
  walk_at "go"
  refine fin _ ?_
  unfold setAmt Vbdcai.note
  rw [getD_at hx]
  dsimp only
  rw [if_pos (by omega)]
 have hv1:=hv1 { x with added:=x.added + (n - v.amount) }
 walk_at "go"
 walk_at "go"
 refine rd_put hbk (Nat.le_of_ble_eq_true rfl) (gs:=bkFs { x with added:=x.added + (n - v.amount) }) ?_ ?_
 ·rw [show ((x.added:Int) + ((n:Int) - (v.amount:Int)))=((x.added + (n - v.amount):Nat):Int) by omega]
  rfl
 walk_at "go"
 refine fin _ ?_
 unfold setAmt Vbdcai.note
 rw [getD_at hx]
 dsimp only
 rw [if_neg (by omega)])) only [↓zh1]
def PairIn (a:Addr) (e:Ef) (as:List Addr) (es:List Ef):Prop:=∃ i:Nat,as[i]?=some a∧es[i]?=some e
theorem PairIn.mem {a:Addr} {e:Ef} {as:List Addr} {es:List Ef} (h:PairIn a e as es):e∈es:=let ⟨_,_,h⟩:=h;List.mem_of_getElem? h
theorem paired_at {F:Addr→Ef→Prop}:∀ {as:List Addr} {es:List Ef},Paired F as es→∀ {i:Nat} {a:Addr} {e:Ef},as[i]?=some a→es[i]?=some e→F a e
 | _,_,.nil,i,a,e,h,_=>by simp at h
 | _,_,.cons r t,0,a,e,h1,h2=>by
  simp at h1 h2
  subst h1 h2
  exact r
 | _,_,.cons r t,i + 1,a,e,h1,h2=>paired_at t (i:=i) (by simpa using h1) (by simpa using h2)
theorem paired_of {F:Addr→Ef→Prop}:∀ {as:List Addr} {es:List Ef},as.length=es.length→(∀ (i:Nat) a e,as[i]?=some a→es[i]?=some e→F a e)→Paired F as es
 | [],[],_,_=>.nil
 | a :: as,e :: es,h,f=>.cons (f 0 a e rfl rfl) (paired_of (by simpa using h) fun i a' e' h1 h2=>f (i + 1) a' e' (by simpa using h1) (by simpa using h2))
theorem id_ix {es:List Ef} (h:(es.map (·.id)).Nodup) {i j:Nat} {x y:Ef} (hx:es[i]?=some x) (hy:es[j]?=some y) (e:x.id=y.id):i=j:=by
 refine nd_ix h (x:=x.id) ?_ ?_
 ·rw [List.getElem?_map,hx];rfl
 rw [List.getElem?_map,hy,e];rfl
structure Deed (C:Cl) (ρ:Rho) (H:Hp) (t:Addr) (lo:Lo) (b:Addr) (lb:Lb) (W bf:Du.W) (ae av:Addr) (e:Ef) (v:Ev) (r:List Ev) (ra:List Addr):Prop where
 sb:SB C ρ H t lo b lb (atW W e v r) bf
 hra:lb.ra=av :: ra
 pair:PairIn ae e lo.ea W.effects
 ids:(W.effects.map (·.id)).Nodup
 bks:W.books.length=6
 kind:v.kind≤5
 act:actK e.act
 room:r.length≤3000
def actIx:Vbdcai.Act→Nat
 | .less _=>0
 | .more _=>1
 | .twice=>2
 | .half=>3
 | .none=>4
 | .shield _=>5
 | .aim _=>6
 | .split _=>7
 | .become _ _ _ _=>8
 | .also _ _ _ _=>9
 | .place _=>10
def sp_deed (k:Nat) (C:Cl):Sp:=fun vs H Q _=>∃ (t ae av:Addr) (ρ:Rho) (lo:Lo) (b:Addr) (lb:Lb) (W bf:Du.W) (e:Ef) (v:Ev) (r:List Ev) (ra:List Addr),vs=[.ref t,.ref ae,.ref av]∧Deed C ρ H t lo b lb W bf ae av e v r ra∧actIx e.act=k ∧
 ∀ ρ' H' lb',SB C ρ' H' t lo b lb' (deedW W e v r) bf→lb'.oa=lb.oa→Out ρ H ρ' H'→Q .non H'
structure DeedAt (C:Cl) (ρ:Rho) (H:Hp) (ae av:Addr) (e:Ef) (v:Ev) (dx lt ls ld dv lu:Addr):Prop where
 ef:H ae=some (.ins C.effect dx (efFs e lt ls ld))
 does:H ld=some (.lst (ivs (actRow e.act)))
 rd:ρ ld=(13,e.id)
 ev:H av=some (.ins C.event dv (evFs (marked e v) lu))
 rv:ρ av=(50,0)
 us:H lu=some (.lst (ivs (castL (marked e v).used)))
 ru:ρ lu=(51,0)
theorem Deed.at_ {ρ:Rho} {H:Hp} {t:Addr} {lo:Lo} {b:Addr} {lb:Lb} {W bf:Du.W} {ae av:Addr} {e:Ef} {v:Ev} {r:List Ev} {ra:List Addr} (D:Deed C ρ H t lo b lb W bf ae av e v r ra):∃ dx lt ls ld dv lu,DeedAt C ρ H ae av e v dx lt ls ld dv lu:=by
 refine zh0 ?_;simp (disch:=k_dflt (
 refine zh2 ?_
 obtain ⟨i,h1,h2⟩:=D.pair
 obtain ⟨_,dx,lt,ls,ld,h3,_,_,h4,h5⟩:=paired_at D.sb.rep.ef.2 h1 h2
 obtain ⟨a',ra',e1,h0,dv,lu,hv,hlu,hus⟩:=D.sb.bat.first (v:=marked e v) (r:=r) rfl
 rw [D.hra] at e1
 cases e1
 exact ⟨dx,lt,ls,ld,dv,lu,h3,h5,h4,hv,h0,hus,hlu⟩)) only [↓zh1]
def sp_use_less (K:PySem.W.Frag) (C:Cl):Sp:=sp_deed 0 C
theorem ok_use_less (T:Tx K C) (F:Fun K "use_less" "use_less" s_use_less f fd) (k_set_amount:Kn P w K mg base "set_amount" 1 (sp_set_amount K C)) (b_max:mg "max"=none) :FnOk P w K mg base CX0 2 f fd ["table","effect","event"] (sp_use_less K C):=by
 refine zh0 ?_;simp (disch:=k_dflt (
 refine F.ok sc_use_less (by walk_at "ln") (fun cdv A outer s H vs Q E hr h=>?_)
 obtain ⟨t,ae,av,ρ,lo,b,lb,W,bf,e,v,r,ra,rfl,D,hA,k⟩:=h
 refine ⟨_,(pss_one (ps_expr (pe_callX k_set_amount (hr.mono (by decide)) rfl (pa_cons (pv 0) (pa_cons (pv 2) (pa_cons (pe_callB (call_max2 rfl) rfl b_max boot_max (pa_cons (pe_op op_sub (pe_fld (pv 2) rfl) (pe_ix ix_list (pe_fld (pv 1) rfl) pe_int (fun _ _=>rfl))) (pa_cons pe_int pa_nil))) pa_nil)))))),?_⟩
 obtain ⟨dx,lt,ls,ld,dv,lu,⟨hef,hdo,_,hev,_,_,_⟩⟩:=D.at_
 obtain ⟨n,hA⟩:∃ n,e.act=.less n:=by revert hA;cases e.act <;> simp [actIx]
 rw [hA] at hdo
 walk_at "go"
 refine rd_ix hdo at1 ?_
 walk_at "go"
 refine ⟨_,_,rfl,?_⟩
 walk_at "go"
 refine ⟨t,av,v.amount - n,ρ,lo,b,lb,_,bf,marked e v,r,ra,?_,D.sb,rfl,D.hra,by show v.kind < W.books.length;rw [D.bks];have:=D.kind;omega,fun H' S kp=>?_⟩
 ·have e1:(if (0:Int) > (v.amount:Int) - (n:Int) then 0 else (v.amount:Int) - (n:Int))=((v.amount - n:Nat):Int):=by split <;> omega
  show [V.ref t,V.ref av,V.int (if (0:Int) > (v.amount:Int) - (n:Int) then 0 else (v.amount:Int) - (n:Int))]=_
  rw [e1]
 rw [deed_less D.ids D.pair.mem hA] at S
 exact k ρ H' lb S rfl (kp.mono fun n h=>by omega))) only [↓zh1]
def sp_use_more (K:PySem.W.Frag) (C:Cl):Sp:=sp_deed 1 C
theorem ok_use_more (T:Tx K C) (F:Fun K "use_more" "use_more" s_use_more f fd) (k_set_amount:Kn P w K mg base "set_amount" 1 (sp_set_amount K C)) :FnOk P w K mg base CX0 2 f fd ["table","effect","event"] (sp_use_more K C):=by
 refine zh0 ?_;simp (disch:=k_dflt (
 refine F.ok sc_use_more (by walk_at "ln") (fun cdv A outer s H vs Q E hr h=>?_)
 obtain ⟨t,ae,av,ρ,lo,b,lb,W,bf,e,v,r,ra,rfl,D,hA,k⟩:=h
 refine ⟨_,(pss_one (ps_expr (pe_callX k_set_amount (hr.mono (by decide)) rfl (pa_cons (pv 0) (pa_cons (pv 2) (pa_cons (pe_op op_add (pe_fld (pv 2) rfl) (pe_ix ix_list (pe_fld (pv 1) rfl) pe_int (fun _ _=>rfl))) pa_nil)))))),?_⟩
 obtain ⟨dx,lt,ls,ld,dv,lu,⟨hef,hdo,_,hev,_,_,_⟩⟩:=D.at_
 obtain ⟨n,hA⟩:∃ n,e.act=.more n:=by revert hA;cases e.act <;> simp [actIx]
 rw [hA] at hdo
 walk_at "go"
 refine rd_ix hdo at1 ?_
 walk_at "go"
 refine ⟨t,av,v.amount + n,ρ,lo,b,lb,_,bf,marked e v,r,ra,?_,D.sb,rfl,D.hra,by show v.kind < W.books.length;rw [D.bks];have:=D.kind;omega,fun H' S kp=>?_⟩
 ·show [V.ref t,V.ref av,V.int ((v.amount:Int) + (n:Int))]=[V.ref t,V.ref av,V.int ((v.amount + n:Nat):Int)]
  rw [Int.natCast_add]
 rw [deed_more D.ids D.pair.mem hA] at S
 exact k ρ H' lb S rfl (kp.mono fun n h=>by omega))) only [↓zh1]
def sp_use_twice (K:PySem.W.Frag) (C:Cl):Sp:=sp_deed 2 C
theorem ok_use_twice (T:Tx K C) (F:Fun K "use_twice" "use_twice" s_use_twice f fd) (k_set_amount:Kn P w K mg base "set_amount" 1 (sp_set_amount K C)) :FnOk P w K mg base CX0 2 f fd ["table","effect","event"] (sp_use_twice K C):=by
 refine zh0 ?_;simp (disch:=k_dflt (
 refine F.ok sc_use_twice (by walk_at "ln") (fun cdv A outer s H vs Q E hr h=>?_)
 obtain ⟨t,ae,av,ρ,lo,b,lb,W,bf,e,v,r,ra,rfl,D,hA,k⟩:=h
 refine ⟨_,(pss_one (ps_expr (pe_callX k_set_amount (hr.mono (by decide)) rfl (pa_cons (pv 0) (pa_cons (pv 2) (pa_cons (pe_op op_mul pe_int (pe_fld (pv 2) rfl)) pa_nil)))))),?_⟩
 obtain ⟨dx,lt,ls,ld,dv,lu,⟨hef,hdo,_,hev,_,_,_⟩⟩:=D.at_
 have hA:e.act=.twice:=by revert hA;cases e.act <;> simp [actIx]
 walk_at "go"
 refine rd_iC (.inl ⟨by decide,by decide⟩) ?_
 walk_at "go"
 refine ⟨t,av,2 * v.amount,ρ,lo,b,lb,_,bf,marked e v,r,ra,?_,D.sb,rfl,D.hra,by show v.kind < W.books.length;rw [D.bks];have:=D.kind;omega,fun H' S kp=>?_⟩
 ·show [V.ref t,V.ref av,V.int (2 * (v.amount:Int))]=[V.ref t,V.ref av,V.int ((2 * v.amount:Nat):Int)]
  rw [Int.natCast_mul]
  rfl
 rw [deed_twice D.ids D.pair.mem hA] at S
 exact k ρ H' lb S rfl (kp.mono fun n h=>by omega))) only [↓zh1]
def sp_use_half (K:PySem.W.Frag) (C:Cl):Sp:=sp_deed 3 C
theorem ok_use_half (T:Tx K C) (F:Fun K "use_half" "use_half" s_use_half f fd) (k_set_amount:Kn P w K mg base "set_amount" 1 (sp_set_amount K C)) :FnOk P w K mg base CX0 2 f fd ["table","effect","event"] (sp_use_half K C):=by
 refine zh0 ?_;simp (disch:=k_dflt (
 refine F.ok sc_use_half (by walk_at "ln") (fun cdv A outer s H vs Q E hr h=>?_)
 obtain ⟨t,ae,av,ρ,lo,b,lb,W,bf,e,v,r,ra,rfl,D,hA,k⟩:=h
 refine ⟨_,(pss_one (ps_expr (pe_callX k_set_amount (hr.mono (by decide)) rfl (pa_cons (pv 0) (pa_cons (pv 2) (pa_cons (pe_op op_fdiv (pe_fld (pv 2) rfl) pe_int) pa_nil)))))),?_⟩
 obtain ⟨dx,lt,ls,ld,dv,lu,⟨hef,hdo,_,hev,_,_,_⟩⟩:=D.at_
 have hA:e.act=.half:=by revert hA;cases e.act <;> simp [actIx]
 walk_at "go"
 refine rd_iC ⟨by decide,by decide⟩ ?_
 walk_at "go"
 refine ⟨t,av,v.amount / 2,ρ,lo,b,lb,_,bf,marked e v,r,ra,?_,D.sb,rfl,D.hra,by show v.kind < W.books.length;rw [D.bks];have:=D.kind;omega,fun H' S kp=>?_⟩
 ·show [V.ref t,V.ref av,V.int ((v.amount:Int) / 2)]=[V.ref t,V.ref av,V.int ((v.amount / 2:Nat):Int)]
  rw [Int.natCast_ediv]
  rfl
 rw [deed_half D.ids D.pair.mem hA] at S
 exact k ρ H' lb S rfl (kp.mono fun n h=>by omega))) only [↓zh1]
def sp_use_nothing (K:PySem.W.Frag) (C:Cl):Sp:=sp_deed 4 C
theorem ok_use_nothing (T:Tx K C) (F:Fun K "use_nothing" "use_nothing" s_use_nothing f fd) (k_set_amount:Kn P w K mg base "set_amount" 1 (sp_set_amount K C)) :FnOk P w K mg base CX0 2 f fd ["table","effect","event"] (sp_use_nothing K C):=by
 refine zh0 ?_;simp (disch:=k_dflt (
 refine F.ok sc_use_nothing (by walk_at "ln") (fun cdv A outer s H vs Q E hr h=>?_)
 obtain ⟨t,ae,av,ρ,lo,b,lb,W,bf,e,v,r,ra,rfl,D,hA,k⟩:=h
 refine ⟨_,(pss_one (ps_expr (pe_callX k_set_amount (hr.mono (by decide)) rfl (pa_cons (pv 0) (pa_cons (pv 2) (pa_cons pe_int pa_nil)))))),?_⟩
 have hA:e.act=.none:=by revert hA;cases e.act <;> simp [actIx]
 walk_at "go"
 refine ⟨t,av,0,ρ,lo,b,lb,_,bf,marked e v,r,ra,rfl,D.sb,rfl,D.hra,by show v.kind < W.books.length;rw [D.bks];have:=D.kind;omega,fun H' S kp=>?_⟩
 rw [deed_none D.ids D.pair.mem hA] at S
 exact k ρ H' lb S rfl (kp.mono fun n h=>by omega))) only [↓zh1]
def sp_use_turn (K:PySem.W.Frag) (C:Cl):Sp:=sp_deed 6 C
theorem ok_use_turn (T:Tx K C) (F:Fun K "use_turn" "use_turn" s_use_turn f fd)  :FnOk P w K mg base CX0 1 f fd ["table","effect","event"] (sp_use_turn K C):=by
 refine zh0 ?_;simp (disch:=k_dflt (
 refine F.ok sc_use_turn (by walk_at "ln") (fun cdv A outer s H vs Q E hr h=>?_)
 obtain ⟨t,ae,av,ρ,lo,b,lb,W,bf,e,v,r,ra,rfl,D,hA,k⟩:=h
 refine ⟨_,(pss_one (ps_fld (pv 2) (pe_ix ix_list (pe_fld (pv 1) rfl) pe_int (fun _ _=>rfl)) rfl)),?_⟩
 obtain ⟨dx,lt,ls,ld,dv,lu,⟨hef,hdo,_,hev,hrv,hus,hru⟩⟩:=D.at_
 obtain ⟨x,hA⟩:∃ x,e.act=.aim x:=by revert hA;cases e.act <;> simp [actIx]
 rw [hA] at hdo
 walk_at "go"
 refine rd_ix hdo at1 ?_
 walk_at "go"
 have B2:=D.sb.bat.ev0 (v':={ marked e v with target:=x }) (dx:=dv) D.hra rfl hru hus
 have R2:=D.sb.rep.ev (a:=av) (o:=.ins C.event dv (evFs { marked e v with target:=x } lu)) (vs:={ marked e v with target:=x } :: r) hrv
 refine k ρ _ lb ?_ rfl (Kp.upd (by rw [hrv];simp))
 rw [← deed_aim D.ids D.pair.mem hA]
 exact ⟨R2,B2⟩)) only [↓zh1]
def sp_use_elsewhere (K:PySem.W.Frag) (C:Cl):Sp:=sp_deed 10 C
theorem ok_use_elsewhere (T:Tx K C) (F:Fun K "use_elsewhere" "use_elsewhere" s_use_elsewhere f fd)  :FnOk P w K mg base CX0 1 f fd ["table","effect","event"] (sp_use_elsewhere K C):=by
 refine zh0 ?_;simp (disch:=k_dflt (
 refine F.ok sc_use_elsewhere (by walk_at "ln") (fun cdv A outer s H vs Q E hr h=>?_)
 obtain ⟨t,ae,av,ρ,lo,b,lb,W,bf,e,v,r,ra,rfl,D,hA,k⟩:=h
 refine ⟨_,(pss_one (ps_fld (pv 2) (pe_ix ix_list (pe_fld (pv 1) rfl) pe_int (fun _ _=>rfl)) rfl)),?_⟩
 obtain ⟨dx,lt,ls,ld,dv,lu,⟨hef,hdo,_,hev,hrv,hus,hru⟩⟩:=D.at_
 obtain ⟨x,hA⟩:∃ x,e.act=.place x:=by revert hA;cases e.act <;> simp [actIx]
 rw [hA] at hdo
 walk_at "go"
 refine rd_ix hdo at1 ?_
 walk_at "go"
 have B2:=D.sb.bat.ev0 (v':={ marked e v with place:=x }) (dx:=dv) D.hra rfl hru hus
 have R2:=D.sb.rep.ev (a:=av) (o:=.ins C.event dv (evFs { marked e v with place:=x } lu)) (vs:={ marked e v with place:=x } :: r) hrv
 refine k ρ _ lb ?_ rfl (Kp.upd (by rw [hrv];simp))
 rw [← deed_place D.ids D.pair.mem hA]
 exact ⟨R2,B2⟩)) only [↓zh1]
theorem ev_mem {ρ:Rho} {H:Hp}:∀ {as:List Addr} {vs:List Ev},Paired (EvAt C ρ H) as vs→∀ a∈as,∃ o,H a=some o
 | _,_,.cons r t,a,h=>by
  rcases List.mem_cons.mp h with rfl | h
  ·obtain ⟨_,dx,lu,q,_⟩:=r
   exact ⟨_,q⟩
  exact ev_mem t a h
theorem Same.upd_new {H:Hp} {a:Addr} {o:HO} (h:H a=none):Same H (upd H a o):=fun b u e=>by rw [upd_ne (ne_of_none e h)];exact e
theorem SB.newEvent {ρ:Rho} {H:Hp} {t:Addr} {lo:Lo} {b:Addr} {lb:Lb} {W bf:Du.W} (S:SB C ρ H t lo b lb W bf) {x dx lu:Addr} {v:Ev} (hx:H x=none) (hdx:H dx=none) (ne:dx≠x) (hlu:H lu=some (.lst (ivs (castL v.used)))) (hr:ρ lu=(51,0)) :
  SB C (upR ρ x (50,0)) (upd (upd H dx (.own x)) x (.ins C.event dx (evFs v lu))) t lo b lb W bf∧EvAt C (upR ρ x (50,0)) (upd (upd H dx (.own x)) x (.ins C.event dx (evFs v lu))) x v∧x ∉ lb.ra++lb.sa∧Out ρ H (upR ρ x (50,0)) (upd (upd H dx (.own x)) x (.ins C.event dx (evFs v lu))):=by
 refine zh0 ?_;simp (disch:=k_dflt (
 refine zh2 ?_
 have s1:Same H (upd H dx (.own x)):=Same.upd_new hdx
 have hx1:upd H dx (.own x) x=none:=by rw [upd_ne (fun q=>ne q.symm)];exact hx
 have nlu:lu≠x:=ne_of_none hlu hx
 refine ⟨⟨(S.rep.same s1).adopt hx1,(S.bat.same s1).adopt hx1⟩,⟨upR_same,dx,lu,upd_same,by rw [upR_ne nlu];exact hr,by rw [upd_ne nlu];exact s1 _ _ hlu⟩,fun h=>?_,(Kp.same s1).trans (Kp.adopt hx1)⟩
 rcases List.mem_append.mp h with q | q
 ·obtain ⟨o,e⟩:=ev_mem S.bat.row.2 x q
  rw [hx] at e;cases e
 obtain ⟨o,e⟩:=ev_mem S.bat.set.2 x q
 rw [hx] at e;cases e)) only [↓zh1]
theorem SB.behind {ρ:Rho} {H:Hp} {t:Addr} {lo:Lo} {b:Addr} {lb:Lb} {W bf:Du.W} (S:SB C ρ H t lo b lb W bf) {a n:Addr} {ra:List Addr} {v x:Ev} {r:List Ev} (hra:lb.ra=a :: ra) (ht:W.todo=v :: r) (hn:EvAt C ρ H n x) (hnew:n ∉ lb.ra++lb.sa) :
  SB C ρ (upd H lb.rL (.lst (rfs (a :: n :: ra)))) t lo b { lb with ra:=a :: n :: ra } { W with todo:=v :: x :: r } bf∧Out ρ H ρ (upd H lb.rL (.lst (rfs (a :: n :: ra)))):=by
 have rr:=S.bat.row.1.1
 have R:=S.rep.upd0 (a:=lb.rL) (o:=.lst (rfs (a :: n :: ra))) (by rw [rr];unfold inTab;decide)
 exact ⟨⟨⟨R.dom,R.tb,R.sd,R.th,R.ef,R.bk⟩,S.bat.behind hra ht hn hnew⟩,Kp.upd (by rw [rr];simp)⟩
theorem ev_len {ρ:Rho} {H:Hp}:∀ {as:List Addr} {vs:List Ev},Paired (EvAt C ρ H) as vs→as.length=vs.length
 | _,_,.nil=>rfl
 | _,_,.cons _ t=>by rw [List.length_cons,List.length_cons,ev_len t]
def sp_put_behind (K:PySem.W.Frag) (C:Cl):Sp:=fun vs H Q _=>∃ (t n:Addr) (ρ:Rho) (lo:Lo) (b:Addr) (lb:Lb) (W bf:Du.W) (a:Addr) (ra:List Addr),vs=[.ref t,.ref n]∧SB C ρ H t lo b lb W bf∧lb.ra=a :: ra∧W.todo.length≤5000∧Q .non (upd H lb.rL (.lst (rfs (a :: n :: ra))))
theorem ok_put_behind (T:Tx K C) (F:Fun K "put_behind" "put_behind" s_put_behind f fd)  :FnOk P w K mg base CX0 1 f fd ["table","event"] (sp_put_behind K C):=by
 refine zh0 ?_;simp (disch:=k_dflt (
 refine F.ok sc_put_behind (by walk_at "ln") (fun cdv A outer s H vs Q E hr h=>?_)
 obtain ⟨t,n,ρ,lo,b,lb,W,bf,a,ra,rfl,S,hra,hz,k⟩:=h
 refine ⟨_,(pss_one (ps_expr (pe_bm PySem.F.plainAttrs_list PySem.F.slot_list_insert PySem.F.type_list_insert mt_insert (pe_fld (pe_fld (pv 0) rfl) rfl) (pa_cons pe_int (pa_cons (pv 1) pa_nil))))),?_⟩
 obtain ⟨dt,ht⟩:=S.rep.tbl
 obtain ⟨_,db,hb⟩:=S.bat.bt
 have hr:=S.bat.row.1.2
 have hl:=ev_len S.bat.row.2
 rw [hra] at hr hl
 walk_at "go"
 refine ⟨.inl ⟨rfl,_,SqL.of hr⟩,?_⟩
 walk_at "go"
 refine ⟨_,_,1,_,rfl,rfl,hr,by decide,by decide,?_,k⟩
 rw [rfs_len,hl,sizeLine_eq]
 omega)) only [↓zh1]
def sp_use_split (K:PySem.W.Frag) (C:Cl):Sp:=sp_deed 7 C
theorem ok_use_split (T:Tx K C) (F:Fun K "use_split" "use_split" s_use_split f fd) (k_put_behind:Kn P w K mg base "put_behind" 1 (sp_put_behind K C)) (m_Event:KnC P w K mg base "Event" C.event 1 (sp_Event_init K C)) :FnOk P w K mg base CX0 3 f fd ["table","effect","event"] (sp_use_split K C):=by
 refine zh0 ?_;simp (disch:=k_dflt (
 refine F.ok sc_use_split (by walk_at "ln") (fun cdv A outer s H vs Q E hr h=>?_)
 obtain ⟨t,ae,av,ρ,lo,b,lb,W,bf,e,v,r,ra,rfl,D,hA,k⟩:=h
 refine ⟨_,(pss_cons (ps_set (i:=3) sc_use_split.nd rfl (Or.inl rfl) (pe_op op_fdiv (pe_fld (pv 2) rfl) pe_int)) (pss_cons (ps_if (pt_cmpR op_eq (pv 3) pe_int (nomark _)) (pss_one ps_retN) pss_nil) (pss_cons (ps_fldaug (pv 2) (pv 3) in_sub) (pss_one (ps_expr (pe_callX k_put_behind (hr.mono (by decide)) rfl (pa_cons (pv 0) (pa_cons (pe_makeX m_Event (hr.mono (by decide)) rfl (pa_cons (pe_fld (pv 2) rfl) (pa_cons (pe_fld (pv 2) rfl) (pa_cons (pe_ix ix_list (pe_fld (pv 1) rfl) pe_int (fun _ _=>rfl)) (pa_cons (pv 3) (pa_cons (pe_fld (pv 2) rfl) (pa_cons (pe_fld (pv 2) rfl) pa_nil))))))) pa_nil)))))))),?_⟩
 obtain ⟨dx,lt,ls,ld,dv,lu,⟨hef,hdo,hrd,hev,hrv,hus,hru⟩⟩:=D.at_
 obtain ⟨x,hA⟩:∃ x,e.act=.split x:=by revert hA;cases e.act <;> simp [actIx]
 rw [hA] at hdo
 walk_at "go"
 refine rd_iC ⟨by decide,by decide⟩ ?_
 walk_at "go"
 refine rd_ite (fun h0=>?_) fun h0=>?_
 ·have h0:((v.amount:Int) / 2)=0:=h0
  walk_at "go"
  refine k ρ _ lb ?_ rfl Kp.refl
  rw [← deed_split0 D.ids D.pair.mem hA (by omega)]
  exact D.sb
 have h0:¬ ((v.amount:Int) / 2)=0:=h0
 have hq:((v.amount:Int) / 2)=((v.amount / 2:Nat):Int):=by rw [Int.natCast_ediv];rfl
 walk_at "go"
 refine rd_put hev (Nat.le_of_ble_eq_true rfl) (gs:=evFs { marked e v with amount:=v.amount - v.amount / 2 } lu) ?_ ?_
 ·show putF "amount" (V.int ((v.amount:Int) - (v.amount:Int) / 2)) (evFs (marked e v) lu)=_
  rw [show ((v.amount:Int) - (v.amount:Int) / 2)=((v.amount - v.amount / 2:Nat):Int) by omega]
  rfl
 have B2:=D.sb.bat.ev0 (v':={ marked e v with amount:=v.amount - v.amount / 2 }) (dx:=dv) D.hra rfl hru hus
 have R2:=D.sb.rep.ev (a:=av) (o:=.ins C.event dv (evFs { marked e v with amount:=v.amount - v.amount / 2 } lu)) (vs:={ marked e v with amount:=v.amount - v.amount / 2 } :: r) hrv
 have o2:Out ρ H ρ (upd H av (.ins C.event dv (evFs { marked e v with amount:=v.amount - v.amount / 2 } lu))):=Kp.upd (by rw [hrv];simp)
 have nae:ae≠av:=ne_of hef hev (by intro q;injection q with q1 q2 q3;cases q3)
 have hef2:upd H av (.ins C.event dv (evFs { marked e v with amount:=v.amount - v.amount / 2 } lu)) ae=some (.ins C.effect dx (efFs e lt ls ld)):=by rw [upd_ne nae];exact hef
 have hdo2:upd H av (.ins C.event dv (evFs { marked e v with amount:=v.amount - v.amount / 2 } lu)) ld=some (.lst (ivs (actRow (.split x)))):=by rw [upd_ne (fun q=>by rw [q,hrv] at hrd;cases hrd)];exact hdo
 have hus2:upd H av (.ins C.event dv (evFs { marked e v with amount:=v.amount - v.amount / 2 } lu)) lu=some (.lst (ivs (castL (marked e v).used))):=by rw [upd_ne (fun q=>by rw [q,hrv] at hru;cases hru)];exact hus
 have hev2:upd H av (.ins C.event dv (evFs { marked e v with amount:=v.amount - v.amount / 2 } lu)) av=some (.ins C.event dv (evFs { marked e v with amount:=v.amount - v.amount / 2 } lu)):=upd_same
 generalize upd H av (.ins C.event dv (evFs { marked e v with amount:=v.amount - v.amount / 2 } lu))=H2 at *
 walk_at "go"
 refine rd_ix hdo2 at1 ?_
 walk_at "go"
 intro xn dn hx hdn ne
 refine ⟨xn,dn,lu,{ marked e v with target:=x,amount:=v.amount / 2 },?_,upd_same,rfl,?_⟩
 ·show [V.ref xn,iv v.kind,iv v.source,V.int (x:Int),V.int ((v.amount:Int) / 2),iv v.place,V.ref lu]=_
  rw [hq]
  rfl
 rw [upd_upd]
 have S2:SB C ρ H2 t lo b lb _ bf:=⟨R2,B2⟩
 obtain ⟨S3,he3,hn3,o3⟩:=S2.newEvent (v:={ marked e v with target:=x,amount:=v.amount / 2 }) hx hdn ne hus2 hru
 walk_at "go"
 refine ⟨t,xn,_,lo,b,lb,_,bf,av,ra,rfl,S3,D.hra,by show r.length + 1≤5000;have:=D.room;omega,?_⟩
 obtain ⟨S4,o4⟩:=S3.behind D.hra rfl he3 hn3
 refine k _ _ { lb with ra:=av :: xn :: ra } ?_ rfl ((o2.trans o3).trans o4)
 rw [← deed_split D.ids D.pair.mem hA (by omega)]
 exact S4)) only [↓zh1]
def sp_make_event (K:PySem.W.Frag) (C:Cl):Sp:=fun vs H Q _=>∃ (t ae av:Addr) (ρ:Rho) (lo:Lo) (b:Addr) (lb:Lb) (W bf:Du.W) (e:Ef) (v:Ev) (r:List Ev) (ra:List Addr) (k x n z i:Nat),vs=[.ref t,.ref ae,.ref av]∧Deed C ρ H t lo b lb W bf ae av e v r ra∧actRow e.act=[(i:Int),k,x,n,z]∧k≤5 ∧
 ∀ ρ' H' xn,SB C ρ' H' t lo b { lb with ra:=av :: xn :: ra } { noteMade W k (Vbdcai.amountOf k n v.amount) with todo:=marked e v :: madeEv e v k x n z :: r } bf→Out ρ H ρ' H'→Q .non H'
theorem ok_make_event (T:Tx K C) (F:Fun K "make_event" "make_event" s_make_event f fd) (c_MOVE:CI mg "MOVE" (5)) (k_put_behind:Kn P w K mg base "put_behind" 1 (sp_put_behind K C)) (m_Event:KnC P w K mg base "Event" C.event 1 (sp_Event_init K C)) :FnOk P w K mg base CX0 3 f fd ["table","effect","event"] (sp_make_event K C):=by
 refine zh0 ?_;simp (disch:=k_dflt (
 refine F.ok sc_make_event (by walk_at "ln") (fun cdv A outer s H vs Q E hr h=>?_)
 obtain ⟨t,ae,av,ρ,lo,b,lb,W,bf,e,v,r,ra,kk,x,n,z,i,rfl,D,hA,hk,k⟩:=h
 refine ⟨_,(pss_cons (ps_set (i:=3) sc_make_event.nd rfl (Or.inl rfl) (pe_ix ix_list (pe_fld (pv 1) rfl) pe_int (fun _ _=>rfl))) (pss_cons (ps_set (i:=4) sc_make_event.nd rfl (Or.inl rfl) (pe_ix ix_list (pe_fld (pv 1) rfl) pe_int (fun _ _=>rfl))) (pss_cons (ps_if (pt_cmpR op_eq (pv 3) (pe_ci c_MOVE rfl) (nomark _)) (pss_one (ps_set (i:=4) sc_make_event.nd rfl (Or.inl rfl) pe_int)) (pss_one (ps_if (pt_cmpR op_eq (pv 4) pe_int (nomark _)) (pss_one (ps_set (i:=4) sc_make_event.nd rfl (Or.inl rfl) (pe_fld (pv 2) rfl))) pss_nil))) (pss_cons (ps_set (i:=5) sc_make_event.nd rfl (Or.inl rfl) (pe_ix ix_list (pe_fld (pv 0) rfl) (pv 3) (fun _ _=>rfl))) (pss_cons (ps_fldaug (pv 5) (pv 4) in_add) (pss_one (ps_expr (pe_callX k_put_behind (hr.mono (by decide)) rfl (pa_cons (pv 0) (pa_cons (pe_makeX m_Event (hr.mono (by decide)) rfl (pa_cons (pv 3) (pa_cons (pe_fld (pv 2) rfl) (pa_cons (pe_ix ix_list (pe_fld (pv 1) rfl) pe_int (fun _ _=>rfl)) (pa_cons (pv 4) (pa_cons (pe_ix ix_list (pe_fld (pv 1) rfl) pe_int (fun _ _=>rfl)) (pa_cons (pe_fld (pv 2) rfl) pa_nil))))))) pa_nil)))))))))),?_⟩
 obtain ⟨dx,lt,ls,ld,dv,lu,⟨hef,hdo,hrd,hev,hrv,hus,hru⟩⟩:=D.at_
 rw [hA] at hdo
 have R:=D.sb.rep
 obtain ⟨dt,htb⟩:=R.tbl
 have hbl:=R.bk.1.2
 have hkl:kk < (atW W e v r).books.length:=by show kk < W.books.length;rw [D.bks];omega
 obtain ⟨ab,y,db,hab,hy,hbk,rab⟩:=book_at R hkl
 have key:∀ X:Int,X=((Vbdcai.amountOf kk n v.amount:Nat):Int)→putF "made" (.int ((y.made:Int) + X)) (bkFs y)=bkFs { y with made:=y.made + Vbdcai.amountOf kk n v.amount }:=by
  rintro _ rfl
  rw [← Int.natCast_add]
  rfl
 have vals:∀ (X:Int) (xn:Addr),X=((Vbdcai.amountOf kk n v.amount:Nat):Int)→[V.ref xn,iv kk,iv v.source,V.int (x:Int),V.int X,V.int (z:Int),V.ref lu]=[V.ref xn,iv (madeEv e v kk x n z).kind,iv (madeEv e v kk x n z).source,iv (madeEv e v kk x n z).target,iv (madeEv e v kk x n z).amount,iv (madeEv e v kk x n z).place,V.ref lu]:=by
  rintro _ xn rfl
  rfl
 have R2:=R.book (y:={ y with made:=y.made + Vbdcai.amountOf kk n v.amount }) (dx:=db) hab hy
 have B2:=D.sb.bat.book R (o:=.ins C.book db (bkFs { y with made:=y.made + Vbdcai.amountOf kk n v.amount })) hab hy (bs:=(atW W e v r).books.set kk { y with made:=y.made + Vbdcai.amountOf kk n v.amount })
 have eW:({ atW W e v r with books:=(atW W e v r).books.set kk { y with made:=y.made + Vbdcai.amountOf kk n v.amount } }:Du.W)={ noteMade W kk (Vbdcai.amountOf kk n v.amount) with todo:=marked e v :: r }:=by
  have hy':W.books[kk]?=some y:=hy
  unfold noteMade Vbdcai.note
  rw [getD_at hy']
  rfl
 have S2:SB C ρ (upd H ab (.ins C.book db (bkFs { y with made:=y.made + Vbdcai.amountOf kk n v.amount }))) t lo b lb { noteMade W kk (Vbdcai.amountOf kk n v.amount) with todo:=marked e v :: r } bf:=by
  rw [← eW]
  exact ⟨R2,B2⟩
 have o2:Out ρ H ρ (upd H ab (.ins C.book db (bkFs { y with made:=y.made + Vbdcai.amountOf kk n v.amount }))):=Kp.upd (by rw [rab];simp)
 have hef2:upd H ab (.ins C.book db (bkFs { y with made:=y.made + Vbdcai.amountOf kk n v.amount })) ae=some (.ins C.effect dx (efFs e lt ls ld)):=by
  rw [upd_ne (ne_of hef hbk (by intro q;injection q with q1 q2 q3;cases q3))];exact hef
 have hev2:upd H ab (.ins C.book db (bkFs { y with made:=y.made + Vbdcai.amountOf kk n v.amount })) av=some (.ins C.event dv (evFs (marked e v) lu)):=by
  rw [upd_ne (fun q=>by rw [q,rab] at hrv;cases hrv)];exact hev
 have hdo2:upd H ab (.ins C.book db (bkFs { y with made:=y.made + Vbdcai.amountOf kk n v.amount })) ld=some (.lst (ivs [(i:Int),kk,x,n,z])):=by
  rw [upd_ne (fun q=>by rw [q,rab] at hrd;cases hrd)];exact hdo
 have hus2:upd H ab (.ins C.book db (bkFs { y with made:=y.made + Vbdcai.amountOf kk n v.amount })) lu=some (.lst (ivs (castL (marked e v).used))):=by
  rw [upd_ne (fun q=>by rw [q,rab] at hru;cases hru)];exact hus
 walk_at "go"
 refine rd_ix hdo at1 ?_
 walk_at "go"
 refine rd_ix hdo at3 ?_
 walk_at "go"
 refine rd_ite (fun h5=>?_) fun h5=>?_
 ·have ham:(1:Int)=((Vbdcai.amountOf kk n v.amount:Nat):Int):=by unfold Vbdcai.amountOf;rw [if_pos (by omega)];rfl
  walk_at "go"
  refine rd_ix hbl (rfs_at hab rfl) ?_
  walk_at "go"
  refine rd_put hbk (Nat.le_of_ble_eq_true rfl) (gs:=bkFs { y with made:=y.made + Vbdcai.amountOf kk n v.amount }) (key _ ham) ?_
  walk_at "go"
  refine rd_ix hdo2 at2 ?_
  walk_at "go"
  refine rd_ix hdo2 at4 ?_
  walk_at "go"
  intro xn dn hx hdn ne
  refine ⟨xn,dn,lu,madeEv e v kk x n z,vals _ xn ham,upd_same,rfl,?_⟩
  rw [upd_upd]
  obtain ⟨S3,he3,hn3,o3⟩:=S2.newEvent (v:=madeEv e v kk x n z) hx hdn ne hus2 hru
  walk_at "go"
  refine ⟨t,xn,_,lo,b,lb,_,bf,av,ra,rfl,S3,D.hra,by show r.length + 1≤5000;have:=D.room;omega,?_⟩
  obtain ⟨S4,o4⟩:=S3.behind D.hra rfl he3 hn3
  exact k _ _ _ S4 ((o2.trans o3).trans o4)
 walk_at "go"
 refine rd_ite (fun h6=>?_) fun h6=>?_
 ·have ham:(((marked e v).amount:Nat):Int)=((Vbdcai.amountOf kk n v.amount:Nat):Int):=by unfold Vbdcai.amountOf;rw [if_neg (by omega),if_pos (by omega)];rfl
  walk_at "go"
  refine rd_ix hbl (rfs_at hab rfl) ?_
  walk_at "go"
  refine rd_put hbk (Nat.le_of_ble_eq_true rfl) (gs:=bkFs { y with made:=y.made + Vbdcai.amountOf kk n v.amount }) (key _ ham) ?_
  walk_at "go"
  refine rd_ix hdo2 at2 ?_
  walk_at "go"
  refine rd_ix hdo2 at4 ?_
  walk_at "go"
  intro xn dn hx hdn ne
  refine ⟨xn,dn,lu,madeEv e v kk x n z,vals _ xn ham,upd_same,rfl,?_⟩
  rw [upd_upd]
  obtain ⟨S3,he3,hn3,o3⟩:=S2.newEvent (v:=madeEv e v kk x n z) hx hdn ne hus2 hru
  walk_at "go"
  refine ⟨t,xn,_,lo,b,lb,_,bf,av,ra,rfl,S3,D.hra,by show r.length + 1≤5000;have:=D.room;omega,?_⟩
  obtain ⟨S4,o4⟩:=S3.behind D.hra rfl he3 hn3
  exact k _ _ _ S4 ((o2.trans o3).trans o4)
 have ham:(n:Int)=((Vbdcai.amountOf kk n v.amount:Nat):Int):=by unfold Vbdcai.amountOf;rw [if_neg (by omega),if_neg (by omega)]
 walk_at "go"
 refine rd_ix hbl (rfs_at hab rfl) ?_
 walk_at "go"
 refine rd_put hbk (Nat.le_of_ble_eq_true rfl) (gs:=bkFs { y with made:=y.made + Vbdcai.amountOf kk n v.amount }) (key _ ham) ?_
 walk_at "go"
 refine rd_ix hdo2 at2 ?_
 walk_at "go"
 refine rd_ix hdo2 at4 ?_
 walk_at "go"
 intro xn dn hx hdn ne
 refine ⟨xn,dn,lu,madeEv e v kk x n z,vals _ xn ham,upd_same,rfl,?_⟩
 rw [upd_upd]
 obtain ⟨S3,he3,hn3,o3⟩:=S2.newEvent (v:=madeEv e v kk x n z) hx hdn ne hus2 hru
 walk_at "go"
 refine ⟨t,xn,_,lo,b,lb,_,bf,av,ra,rfl,S3,D.hra,by show r.length + 1≤5000;have:=D.room;omega,?_⟩
 obtain ⟨S4,o4⟩:=S3.behind D.hra rfl he3 hn3
 exact k _ _ _ S4 ((o2.trans o3).trans o4))) only [↓zh1]
def sp_use_besides (K:PySem.W.Frag) (C:Cl):Sp:=sp_deed 9 C
theorem ok_use_besides (T:Tx K C) (F:Fun K "use_besides" "use_besides" s_use_besides f fd) (k_make_event:Kn P w K mg base "make_event" 3 (sp_make_event K C)) :FnOk P w K mg base CX0 4 f fd ["table","effect","event"] (sp_use_besides K C):=by
 refine zh0 ?_;simp (disch:=k_dflt (
 refine F.ok sc_use_besides (by walk_at "ln") (fun cdv A outer s H vs Q E hr h=>?_)
 obtain ⟨t,ae,av,ρ,lo,b,lb,W,bf,e,v,r,ra,rfl,D,hA,k⟩:=h
 refine ⟨_,(pss_one (ps_expr (pe_callX k_make_event (hr.mono (by decide)) rfl (pa_cons (pv 0) (pa_cons (pv 1) (pa_cons (pv 2) pa_nil)))))),?_⟩
 obtain ⟨kk,x,n,z,hA⟩:∃ kk x n z,e.act=.also kk x n z:=by revert hA;cases e.act <;> simp [actIx]
 have hk:=D.act
 rw [hA] at hk
 walk_at "go"
 refine ⟨t,ae,av,ρ,lo,b,lb,W,bf,e,v,r,ra,kk,x,n,z,9,rfl,D,by rw [hA];rfl,hk,fun ρ' H' xn S o=>?_⟩
 rw [deed_also D.ids D.pair.mem hA] at S
 exact k _ _ _ S rfl o)) only [↓zh1]
def sp_use_instead (K:PySem.W.Frag) (C:Cl):Sp:=sp_deed 8 C
theorem ok_use_instead (T:Tx K C) (F:Fun K "use_instead" "use_instead" s_use_instead f fd) (k_make_event:Kn P w K mg base "make_event" 3 (sp_make_event K C)) :FnOk P w K mg base CX0 4 f fd ["table","effect","event"] (sp_use_instead K C):=by
 refine zh0 ?_;simp (disch:=k_dflt (
 refine F.ok sc_use_instead (by walk_at "ln") (fun cdv A outer s H vs Q E hr h=>?_)
 obtain ⟨t,ae,av,ρ,lo,b,lb,W,bf,e,v,r,ra,rfl,D,hA,k⟩:=h
 refine ⟨_,(pss_cons (ps_expr (pe_callX k_make_event (hr.mono (by decide)) rfl (pa_cons (pv 0) (pa_cons (pv 1) (pa_cons (pv 2) pa_nil))))) (pss_cons (ps_set (i:=3) sc_use_instead.nd rfl (Or.inl rfl) (pe_ix ix_list (pe_fld (pv 0) rfl) (pe_fld (pv 2) rfl) (fun _ _=>rfl))) (pss_cons (ps_fldaug (pv 3) (pe_fld (pv 2) rfl) in_add) (pss_one (ps_fld (pv 2) pe_int rfl))))),?_⟩
 obtain ⟨kk,x,n,z,hA⟩:∃ kk x n z,e.act=.become kk x n z:=by revert hA;cases e.act <;> simp [actIx]
 have hk:=D.act
 rw [hA] at hk
 walk_at "go"
 refine ⟨t,ae,av,ρ,lo,b,lb,W,bf,e,v,r,ra,kk,x,n,z,8,rfl,D,by rw [hA];rfl,hk,fun ρ' H' xn S o=>?_⟩
 obtain ⟨dt,htb⟩:=S.rep.tbl
 have hbl:=S.rep.bk.1.2
 obtain ⟨a',ra',e1,hrv,dv,lu,hev,hru,hus⟩:=S.bat.first (v:=marked e v) (r:=madeEv e v kk x n z :: r) rfl
 cases e1
 have hkl:v.kind < ({ noteMade W kk (Vbdcai.amountOf kk n v.amount) with todo:=marked e v :: madeEv e v kk x n z :: r }:Du.W).books.length:=by
  show v.kind < (W.books.set kk _).length
  rw [List.length_set,D.bks]
  have:=D.kind
  omega
 obtain ⟨ab,y,db,hab,hy,hbk,rab⟩:=book_at S.rep hkl
 walk_at "go"
 refine rd_ix hbl (rfs_at hab rfl) ?_
 walk_at "go"
 refine rd_put hbk (Nat.le_of_ble_eq_true rfl) (gs:=bkFs { y with turned:=y.turned + v.amount }) ?_ ?_
 ·show putF "turned" (.int ((y.turned:Int) + (v.amount:Int))) (bkFs y)=_
  rw [← Int.natCast_add]
  rfl
 have hev2:upd H' ab (.ins C.book db (bkFs { y with turned:=y.turned + v.amount })) av=some (.ins C.event dv (evFs (marked e v) lu)):=by
  rw [upd_ne (fun q=>by rw [q,rab] at hrv;cases hrv)];exact hev
 have R2:=S.rep.book (y:={ y with turned:=y.turned + v.amount }) (dx:=db) hab hy
 have B2:=S.bat.book S.rep (o:=.ins C.book db (bkFs { y with turned:=y.turned + v.amount })) hab hy (bs:=({ noteMade W kk (Vbdcai.amountOf kk n v.amount) with todo:=marked e v :: madeEv e v kk x n z :: r }:Du.W).books.set v.kind { y with turned:=y.turned + v.amount })
 have B3:=B2.ev0 (v':={ marked e v with amount:=0 }) (dx:=dv) rfl rfl hru (by rw [upd_ne (fun q=>by rw [q,rab] at hru;cases hru)];exact hus)
 have R3:=R2.ev (a:=av) (o:=.ins C.event dv (evFs { marked e v with amount:=0 } lu)) (vs:={ marked e v with amount:=0 } :: madeEv e v kk x n z :: r) hrv
 walk_at "go"
 refine k _ _ _ (?_:SB C ρ' _ t lo b { lb with ra:=av :: xn :: ra } _ bf) rfl (o.trans ((Kp.upd (by rw [rab];simp)).trans (Kp.upd (by rw [hrv];simp))))
 rw [← deed_become D.ids D.pair.mem hA]
 have eW:Vbdcai.note (noteMade W kk (Vbdcai.amountOf kk n v.amount)) v.kind (fun b=>{ b with turned:=b.turned + v.amount })={ noteMade W kk (Vbdcai.amountOf kk n v.amount) with books:=(noteMade W kk (Vbdcai.amountOf kk n v.amount)).books.set v.kind { y with turned:=y.turned + v.amount } }:=by
  have hy':(noteMade W kk (Vbdcai.amountOf kk n v.amount)).books[v.kind]?=some y:=hy
  unfold Vbdcai.note
  rw [getD_at hy']
 rw [eW]
 exact ⟨R3,B3⟩)) only [↓zh1]
theorem Rep.efOne {ρ:Rho} {H:Hp} {t:Addr} {lo:Lo} {bV:V} {W:Du.W} (R:Rep C ρ H t lo bV W) {x ae:Addr} {o:HO} {e y:Ef} (ids:(W.effects.map (·.id)).Nodup) (hp:PairIn ae e lo.ea W.effects) (rx:ρ x=(10,e.id)∨ρ x=(13,e.id))
  (hy:EfAt C ρ (upd H x o) 10 ae y) (g:Ef→Ef) (hg:g e=y) (hgo:∀ z∈W.effects,z.id≠e.id→g z=z):Rep C ρ (upd H x o) t lo bV { W with effects:=W.effects.map g }:=by
 refine zh0 ?_;simp (disch:=k_dflt (
 refine zh2 ?_
 have kp:Kp (fun n=>n≠10∧n≠13) ρ H ρ (upd H x o):=Kp.upd (by rcases rx with q | q <;> rw [q] <;> simp)
 refine ⟨dom_upd R.dom,kpE kp R.tb (by decide),R.sd.keep (kp.mono fun n h=>by omega),R.th.keep (kp.mono fun n h=>by omega),⟨kp1 kp R.ef.1 (by decide),?_⟩,R.bk.keep (kp.mono fun n h=>by omega)⟩
 have hl:lo.ea.length=W.effects.length:=Paired.length R.ef.2
 refine paired_of (by rw [List.length_map];exact hl) fun j a z' ha hz'=>?_
 rw [List.getElem?_map] at hz'
 cases hz:W.effects[j]? with
 | none=>rw [hz] at hz';cases hz'
 | some z =>
  rw [hz] at hz'
  have ez:g z=z':=Option.some.inj hz'
  subst ez
  obtain ⟨i,h1,h2⟩:=hp
  by_cases q:z.id=e.id
  ·have e1:=id_ix ids hz h2 q
   subst e1
   have e2:z=e:=Option.some.inj (hz.symm.trans h2)
   have e3:a=ae:=Option.some.inj (ha.symm.trans h1)
   subst e2 e3
   rw [hg]
   exact hy
  rw [hgo z (List.mem_of_getElem? hz) q]
  refine (paired_at R.ef.2 ha hz).apart (i:=e.id) q fun b u hb hu=>?_
  rw [upd_ne (fun q2=>hb (by rw [q2];rcases rx with r | r <;> rw [r]))]
  exact hu)) only [↓zh1]
def sp_use_shield (K:PySem.W.Frag) (C:Cl):Sp:=sp_deed 5 C
theorem ok_use_shield (T:Tx K C) (F:Fun K "use_shield" "use_shield" s_use_shield f fd) (b_min:mg "min"=none) (k_set_amount:Kn P w K mg base "set_amount" 1 (sp_set_amount K C)) :FnOk P w K mg base CX0 2 f fd ["table","effect","event"] (sp_use_shield K C):=by
 refine zh0 ?_;simp (disch:=k_dflt (
 refine F.ok sc_use_shield (by walk_at "ln") (fun cdv A outer s H vs Q E hr h=>?_)
 obtain ⟨t,ae,av,ρ,lo,b,lb,W,bf,e,v,r,ra,rfl,D,hA,k⟩:=h
 refine ⟨_,(pss_cons (ps_set (i:=3) sc_use_shield.nd rfl (Or.inl rfl) (pe_callB (call_min2 rfl) rfl b_min boot_min (pa_cons (pe_fld (pv 2) rfl) (pa_cons (pe_ix ix_list (pe_fld (pv 1) rfl) pe_int (fun _ _=>rfl)) pa_nil)))) (pss_cons (ps_augS (pe_fld (pv 1) rfl) pe_int get_list (pv 3) ip_sub set_list) (pss_one (ps_expr (pe_callX k_set_amount (hr.mono (by decide)) rfl (pa_cons (pv 0) (pa_cons (pv 2) (pa_cons (pe_op op_sub (pe_fld (pv 2) rfl) (pv 3)) pa_nil)))))))),?_⟩
 obtain ⟨n,hA⟩:∃ n,e.act=.shield n:=by revert hA;cases e.act <;> simp [actIx]
 obtain ⟨i,h1,h2⟩:=D.pair
 obtain ⟨hr0,dx,lt,ls,ld,hef,hlt,hls,hrd,hdo⟩:=paired_at D.sb.rep.ef.2 h1 h2
 obtain ⟨a',ra',e1,hrv,dv,lu,hev,hru,hus⟩:=D.sb.bat.first (v:=marked e v) (r:=r) rfl
 rw [D.hra] at e1
 cases e1
 rw [hA] at hdo
 walk_at "go"
 refine rd_ix hdo at1 ?_
 walk_at "go"
 refine ⟨_,_,rfl,?_⟩
 have et:(if (n:Int) < (v.amount:Int) then (n:Int) else (v.amount:Int))=((min v.amount n:Nat):Int):=by split <;> omega
 walk_at "go"
 refine ⟨ld,_,1,_,rfl,rfl,SqL.of hdo,rfl,?_⟩
 walk_at "go"
 refine ⟨_,_,rfl,rfl,ld,_,1,1,rfl,rfl,hdo,rfl,?_⟩
 have el:((ivs (actRow (.shield n))).set 1 (V.int ((n:Int) - (if (n:Int) < ((marked e v).amount:Int) then (n:Int) else ((marked e v).amount:Int)))))=ivs (actRow (.shield (n - v.amount))):=by
  rw [show ((n:Int) - (if (n:Int) < ((marked e v).amount:Int) then (n:Int) else ((marked e v).amount:Int)))=((n - v.amount:Nat):Int) by
   show ((n:Int) - (if (n:Int) < (v.amount:Int) then (n:Int) else (v.amount:Int)))=_
   split <;> omega]
  rfl
 dsimp only
 rw [el]
 have hy:EfAt C ρ (upd H ld (.lst (ivs (actRow (.shield (n - v.amount)))))) 10 ae { e with act:=.shield (n - v.amount) } :=
  ⟨hr0,dx,lt,ls,ld,by rw [upd_ne (fun q=>by rw [q,hrd] at hr0;cases hr0)];exact hef,⟨hlt.1,by rw [upd_ne (fun q=>by rw [q,hrd] at hlt;cases hlt.1)];exact hlt.2⟩,⟨hls.1,by rw [upd_ne (fun q=>by rw [q,hrd] at hls;cases hls.1)];exact hls.2⟩,⟨hrd,upd_same⟩⟩
 have R1:=D.sb.rep.efOne (o:=.lst (ivs (actRow (.shield (n - v.amount))))) D.ids D.pair (.inr hrd) hy (fun x=>if x.id=e.id then { x with act:=.shield (n - v.amount) } else x) (if_pos rfl) (fun z _ hz=>if_neg hz)
 have B0:=D.sb.bat.upd0 (a:=ld) (o:=.lst (ivs (actRow (.shield (n - v.amount))))) (by rw [hrd];show ¬ inBat 13;unfold inBat;decide)
 have S1:SB C ρ (upd H ld (.lst (ivs (actRow (.shield (n - v.amount)))))) t lo b lb { atW W e v r with effects:=setAct W.effects e.id (.shield (n - v.amount)) } bf:=⟨R1,⟨B0.bt,B0.row,B0.set,B0.nd,B0.off,B0.ebf,B0.bbf⟩⟩
 have hev1:upd H ld (.lst (ivs (actRow (.shield (n - v.amount))))) av=some (.ins C.event dv (evFs (marked e v) lu)):=by rw [upd_ne (fun q=>by rw [q,hrd] at hrv;cases hrv)];exact hev
 walk_at "go"
 refine ⟨t,av,v.amount - n,ρ,lo,b,lb,_,bf,marked e v,r,ra,?_,S1,rfl,D.hra,by show v.kind < W.books.length;rw [D.bks];have:=D.kind;omega,fun H' S kp=>?_⟩
 ·show [V.ref t,V.ref av,V.int ((v.amount:Int) - (if (n:Int) < (v.amount:Int) then (n:Int) else (v.amount:Int)))]=[V.ref t,V.ref av,V.int ((v.amount - n:Nat):Int)]
  rw [show ((v.amount:Int) - (if (n:Int) < (v.amount:Int) then (n:Int) else (v.amount:Int)))=((v.amount - n:Nat):Int) by split <;> omega]
 rw [deed_shield hA] at S
 exact k ρ H' lb S rfl ((Kp.upd (by rw [hrd];simp)).trans (kp.mono fun n h=>by omega)))) only [↓zh1]
def sp_Table_end_effect (K:PySem.W.Frag) (C:Cl):Sp:=fun vs H Q _=>∃ (t:Addr) (n:Int) (ρ:Rho) (lo:Lo) (bV:V) (W:Du.W),vs=[.ref t,.int n]∧Rep C ρ H t lo bV W∧W.effects.length≤100 ∧
 ∀ ρ' H' lo',Rep C ρ' H' t lo' bV { W with effects:=W.effects.filter fun x=>(x.id:Int) != n }→(∀ b lb bf,Bat C ρ H b lb W bf→Bat C ρ' H' b lb { W with effects:=W.effects.filter fun x=>(x.id:Int) != n } bf)→Out ρ H ρ' H'→Q .non H'
theorem ok_Table_end_effect (T:Tx K C) (F:Fun K "end_effect" "Table.end_effect" s_Table_end_effect f fd)  :FnOk P w K mg base CX0 1 f fd ["self","number"] (sp_Table_end_effect K C):=by
 refine zh0 ?_;simp (disch:=k_dflt (
 refine F.ok sc_Table_end_effect (by walk_at "ln") (fun cdv A outer s H vs Q E hr h=>?_)
 obtain ⟨t,n,ρ,lo,bV,W,rfl,R,hz,k⟩:=h
 refine ⟨_,(pss_one (ps_fld (pv 0) (pe_lc rfl sc_Table_end_effect.nd (pi_list (pe_fld (pv 0) rfl)) (blkOk_by (own:=[("effect",2)]) rfl) (fun _ _ _ _ _=>(pg_name (i:=2) sc_Table_end_effect.nd rfl (Or.inl rfl))) (fun _ _ _ _ _=>(pts_one (pt_cmpR op_ne (pe_fldK (K:=K) rfl (pv 2) rfl) (pv 1) (nomark _)))) (fun _ _ _ _ _=>(pv 2))) rfl)),?_⟩
 obtain ⟨dt,htb⟩:=R.tbl
 have hl:=R.ef.1.2
 have hlen:=Paired.length R.ef.2
 walk_at "go"
 refine lc_filt (n:=2) (fun x=>(x.id:Int) != n) hl (by show 2 < 3;decide) hlen (by rw [hlen,sizeLine_eq];omega) (fun i x e D l B hx he hD hB=>?_) fun D hD=>?_
 ·obtain ⟨_,dx,lt,ls,ld,hef,_⟩:=paired_at R.ef.2 hx he
  have hef1:upd H D (.lst l) x=some (.ins C.effect dx (efFs e lt ls ld)):=by rw [upd_ne (ne_of_none hef hD)];exact hef
  walk_at "go"
  have e1:((e.id:Int) != n)=!decide ((e.id:Int)=n):=by rw [bne,Bool.beq_eq_decide_eq]
  rw [← e1]
  exact hB
 have ht1:upd H D (.lst (rfs (pick (fun x=>(x.id:Int) != n) lo.ea W.effects))) t=some (.ins C.table dt (tbFs lo.sL lo.tL lo.eL W.last lo.bL bV)):=by rw [upd_ne (ne_of_none htb hD)];exact htb
 walk_at "go"
 refine k _ _ _ (R.effs (dx:=dt) hD (pick_paired _ R.ef.2)) (fun b lb bf B=>B.effs R hD) ?_
 refine (Kp.adopt hD).trans (Kp.upd ?_)
 rw [upR_ne (ne_of_none htb hD),R.tb.1]
 simp)) only [↓zh1]
def sp_wear (K:PySem.W.Frag) (C:Cl):Sp:=fun vs H Q _=>∃ (t ae:Addr) (ρ:Rho) (lo:Lo) (b:Addr) (lb:Lb) (W bf:Du.W) (e:Ef),vs=[.ref t,.ref ae]∧SB C ρ H t lo b lb W bf∧PairIn ae e lo.ea W.effects∧(W.effects.map (·.id)).Nodup∧W.effects.length≤100 ∧
 ∀ ρ' H' lo',SB C ρ' H' t lo' b lb (wearW W e) bf→Out ρ H ρ' H'→Q .non H'
theorem ok_wear (T:Tx K C) (F:Fun K "wear" "wear" s_wear f fd) (c_SHIELD:CI mg "SHIELD" (5)) (q_Table_end_effect:KnM P w K mg base C.table "end_effect" 1 (sp_Table_end_effect K C)) :FnOk P w K mg base CX0 2 f fd ["table","effect"] (sp_wear K C):=by
 refine zh0 ?_;simp (disch:=k_dflt (
 refine F.ok sc_wear (by walk_at "ln") (fun cdv A outer s H vs Q E hr h=>?_)
 obtain ⟨t,ae,ρ,lo,b,lb,W,bf,e,rfl,S,hp,ids,hz,k⟩:=h
 refine ⟨_,(pss_one (ps_if (PW.pt (pw_or (pt_cmpR op_eq (pe_fld (pv 1) rfl) pe_int (nomark _)) (pw_or1 (PW.pt (pw_and (pt_cmpR op_eq (pe_ix ix_list (pe_fld (pv 1) rfl) pe_int (fun _ _=>rfl)) (pe_ci c_SHIELD rfl) (nomark _)) (pw_and1 (pt_cmpR op_eq (pe_ix ix_list (pe_fld (pv 1) rfl) pe_int (fun _ _=>rfl)) pe_int (nomark _)))))))) (pss_one (ps_expr (pe_methX (pv 0) q_Table_end_effect (hr.mono (by decide)) (pa_cons (pe_fld (pv 1) rfl) pa_nil)))) (pss_one (ps_if (pt_cmpR op_gt (pe_fld (pv 1) rfl) pe_int (nomark _)) (pss_one (ps_fldaug (pv 1) pe_int in_sub)) pss_nil)))),?_⟩
 obtain ⟨i,h1,h2⟩:=hp
 obtain ⟨hr0,dx,lt,ls,ld,hef,hlt,hls,hrd,hdo⟩:=paired_at S.rep.ef.2 h1 h2
 obtain ⟨dt,htb⟩:=S.rep.tbl
 have hend:(e.act=.shield 0∨e.uses=1)→sp_Table_end_effect K C [.ref t,iv e.id] H (fun v H'=>Q .non H') E0:=fun hc=>by
  refine ⟨t,e.id,ρ,lo,.ref b,W,rfl,S.rep,hz,fun ρ' H' lo' R' B' o=>k ρ' H' lo' ?_ o⟩
  have ew:wearW W e={ W with effects:=W.effects.filter fun x=>(x.id:Int) != (e.id:Int) }:=by
   unfold wearW
   rw [if_pos hc]
   congr 1
   refine List.filter_congr fun x _=>?_
   rw [Bool.eq_iff_iff,bne_iff_ne,bne_iff_ne]
   omega
  rw [ew]
  exact ⟨R',B' b lb bf S.bat⟩
 have hrow:∃ x y l,actRow e.act=x :: y :: l∧(x=5∧y=0↔e.act=.shield 0):=by
  cases hA:e.act with
  | shield n =>
   refine ⟨_,_,_,rfl,?_⟩
   constructor
   ·rintro ⟨_,h⟩
    have:n=0:=by omega
    rw [this]
   intro h
   cases h
   exact ⟨rfl,rfl⟩
  | _=>exact ⟨_,_,_,rfl,⟨fun h=>by simp at h,fun h=>by cases h⟩⟩
 obtain ⟨x,y,l,hrw,hsh⟩:=hrow
 have hdo0:=hdo
 rw [hrw] at hdo
 have h1':=h1
 clear h1
 have batE:∀ {H':Hp} (es:List Ef),Bat C ρ H' b lb W bf→Bat C ρ H' b lb { W with effects:=es } bf:=fun es B=>⟨B.bt,B.row,B.set,B.nd,B.off,B.ebf,B.bbf⟩
 walk_at "go"
 refine rd_ite (fun hu=>?_) fun hu=>?_
 ·walk_at "go"
  exact hend (.inr (by omega))
 walk_at "go"
 refine rd_ix hdo at0 ?_
 walk_at "go"
 refine rd_ite (fun h5=>?_) fun h5=>?_
 ·walk_at "go"
  refine rd_ix hdo at1 ?_
  walk_at "go"
  refine rd_ite (fun h0=>?_) fun h0=>?_
  ·walk_at "go"
   exact hend (.inl (hsh.mp ⟨h5,h0⟩))
  have hn:¬ (e.act=.shield 0∨e.uses=1):=by
   rintro (q | q)
   ·exact h0 (hsh.mpr q).2
   omega
  walk_at "go"
  refine rd_ite (fun h1=>?_) fun h1=>?_
  ·have ew:wearW W e={ W with effects:=W.effects.map fun x=>if x.id=e.id then { x with uses:=x.uses - 1 } else x }:=by unfold wearW;rw [if_neg hn]
   walk_at "go"
   refine rd_put hef (Nat.le_of_ble_eq_true rfl) (gs:=efFs { e with uses:=e.uses - 1 } lt ls ld) ?_ ?_
   ·rw [show ((e.uses:Int) - 1)=((e.uses - 1:Nat):Int) by omega]
    rfl
   refine k ρ _ lo ?_ (Kp.upd (by rw [hr0];simp))
   rw [ew]
   exact ⟨S.rep.efOne (o:=.ins C.effect dx (efFs { e with uses:=e.uses - 1 } lt ls ld)) ids ⟨i,h1',h2⟩ (.inl hr0) (y:={ e with uses:=e.uses - 1 }) ⟨hr0,dx,lt,ls,ld,upd_same,⟨hlt.1,by rw [upd_ne (fun q=>by rw [q,hr0] at hlt;cases hlt.1)];exact hlt.2⟩,⟨hls.1,by rw [upd_ne (fun q=>by rw [q,hr0] at hls;cases hls.1)];exact hls.2⟩,⟨hrd,by rw [upd_ne (fun q=>by rw [q,hr0] at hrd;cases hrd)];exact hdo0⟩⟩ _ (if_pos rfl) (fun z _ hz=>if_neg hz),batE _ (S.bat.upd0 (by rw [hr0];show ¬ inBat 10;unfold inBat;decide))⟩
  have hu0:e.uses=0:=by
   have:¬ e.uses=1:=fun q=>hn (.inr q)
   omega
  have ew:wearW W e=W:=by
   unfold wearW
   rw [if_neg hn]
   have:(W.effects.map fun x=>if x.id=e.id then { x with uses:=x.uses - 1 } else x)=W.effects:=by
    refine (List.map_congr_left fun x hx=>?_).trans (List.map_id' W.effects)
    by_cases q:x.id=e.id
    ·have:=eq_of_id ids hx (List.mem_of_getElem? h2) q
     subst this
     rw [if_pos rfl,show x.uses - 1=x.uses by omega]
    rw [if_neg q]
   rw [this]
  walk_at "go"
  refine k ρ H lo ?_ Kp.refl
  rw [ew]
  exact S
 have hn:¬ (e.act=.shield 0∨e.uses=1):=by
  rintro (q | q)
  ·exact h5 (hsh.mpr q).1
  omega
 walk_at "go"
 refine rd_ite (fun h1=>?_) fun h1=>?_
 ·have ew:wearW W e={ W with effects:=W.effects.map fun x=>if x.id=e.id then { x with uses:=x.uses - 1 } else x }:=by unfold wearW;rw [if_neg hn]
  walk_at "go"
  refine rd_put hef (Nat.le_of_ble_eq_true rfl) (gs:=efFs { e with uses:=e.uses - 1 } lt ls ld) ?_ ?_
  ·rw [show ((e.uses:Int) - 1)=((e.uses - 1:Nat):Int) by omega]
   rfl
  refine k ρ _ lo ?_ (Kp.upd (by rw [hr0];simp))
  rw [ew]
  exact ⟨S.rep.efOne (o:=.ins C.effect dx (efFs { e with uses:=e.uses - 1 } lt ls ld)) ids ⟨i,h1',h2⟩ (.inl hr0) (y:={ e with uses:=e.uses - 1 }) ⟨hr0,dx,lt,ls,ld,upd_same,⟨hlt.1,by rw [upd_ne (fun q=>by rw [q,hr0] at hlt;cases hlt.1)];exact hlt.2⟩,⟨hls.1,by rw [upd_ne (fun q=>by rw [q,hr0] at hls;cases hls.1)];exact hls.2⟩,⟨hrd,by rw [upd_ne (fun q=>by rw [q,hr0] at hrd;cases hrd)];exact hdo0⟩⟩ _ (if_pos rfl) (fun z _ hz=>if_neg hz),batE _ (S.bat.upd0 (by rw [hr0];show ¬ inBat 10;unfold inBat;decide))⟩
 have hu0:e.uses=0:=by
  have:¬ e.uses=1:=fun q=>hn (.inr q)
  omega
 have ew:wearW W e=W:=by
  unfold wearW
  rw [if_neg hn]
  have:(W.effects.map fun x=>if x.id=e.id then { x with uses:=x.uses - 1 } else x)=W.effects:=by
   refine (List.map_congr_left fun x hx=>?_).trans (List.map_id' W.effects)
   by_cases q:x.id=e.id
   ·have:=eq_of_id ids hx (List.mem_of_getElem? h2) q
    subst this
    rw [if_pos rfl,show x.uses - 1=x.uses by omega]
   rw [if_neg q]
  rw [this]
 walk_at "go"
 refine k ρ H lo ?_ Kp.refl
 rw [ew]
 exact S)) only [↓zh1]
theorem act_head (a:Vbdcai.Act):∃ l,actRow a=(actIx a:Int) :: l:=by cases a <;> exact ⟨_,rfl⟩
theorem actIx_lt (a:Vbdcai.Act):actIx a < 11:=by cases a <;> simp [actIx]
theorem rd_ixT {H:Hp} {Q:VK} {p:Addr} {xs:List V} {i:Int} {v:V} (h:SqT K H p xs) (e:atI xs i=some v) (q:Q v H):rIxT K (.ref p) (.int i) H Q:=⟨p,xs,i,v,rfl,rfl,h,e,q⟩
theorem rd_callL {σ:L2.St} {H:Hp} {Q:VK} {k:Nat} {tn:TE} {tA:TA} (h:tn σ H fun v H1=>∃ f sp,v=.ref f∧KnF P w K mg base f k sp∧tA σ H1 fun vs H2=>sp vs H2 Q E0):tCallL P w K mg base k tn tA σ H Q:=h
theorem SB.mark {ρ:Rho} {H:Hp} {t:Addr} {lo:Lo} {b:Addr} {lb:Lb} {W bf:Du.W} (S:SB C ρ H t lo b lb W bf) {av:Addr} {ra:List Addr} {v:Ev} {r:List Ev} {i:Nat} {dv lu l1 l2:Addr} (hra:lb.ra=av :: ra) (ht:W.todo=v :: r) (hev:H av=some (.ins C.event dv (evFs v lu)))
  (hrv:ρ av=(50,0)) (h1:H l1=none) (h2:H l2=none) (ne:l2≠l1) :
  SB C (upR ρ l2 (51,0)) (upd (upd (upd H l1 (.lst [iv i])) l2 (.lst (ivs (castL (i :: v.used))))) av (.ins C.event dv (evFs { v with used:=i :: v.used } l2))) t lo b lb { W with todo:={ v with used:=i :: v.used } :: r } bf ∧
   Out ρ H (upR ρ l2 (51,0)) (upd (upd (upd H l1 (.lst [iv i])) l2 (.lst (ivs (castL (i :: v.used))))) av (.ins C.event dv (evFs { v with used:=i :: v.used } l2))) ∧
   Kp (fun n=>n≠50∧n≠0) ρ H (upR ρ l2 (51,0)) (upd (upd (upd H l1 (.lst [iv i])) l2 (.lst (ivs (castL (i :: v.used))))) av (.ins C.event dv (evFs { v with used:=i :: v.used } l2))):=by
 refine zh0 ?_;simp (disch:=k_dflt (
 refine zh2 ?_
 have s1:Same H (upd H l1 (.lst [iv i])):=Same.upd_new h1
 have h2':upd H l1 (.lst [iv i]) l2=none:=by rw [upd_ne ne];exact h2
 have nav:av≠l2:=ne_of_none hev h2
 have hrv':upR ρ l2 (51,0) av=(50,0):=by rw [upR_ne nav];exact hrv
 have R:=(S.rep.same s1).adopt (o:=.lst (ivs (castL (i :: v.used)))) (r:=(51,0)) h2'
 have B:=(S.bat.same s1).adopt (o:=.lst (ivs (castL (i :: v.used)))) (r:=(51,0)) h2'
 refine ⟨⟨R.ev hrv',B.ev0 hra ht upR_same upd_same⟩,?_,?_⟩
 ·exact ((Kp.same s1).trans (Kp.adopt h2')).trans (Kp.upd (by rw [hrv'];simp))
 exact ((Kp.same s1).trans (Kp.adopt h2')).trans (Kp.upd (by rw [hrv'];simp)))) only [↓zh1]
def sp_use (K:PySem.W.Frag) (C:Cl):Sp:=fun vs H Q _=>∃ (t ae:Addr) (ρ:Rho) (lo:Lo) (b:Addr) (lb:Lb) (W bf:Du.W) (e:Ef) (v:Ev) (r:List Ev),vs=[.ref t,.ref ae]∧SB C ρ H t lo b lb W bf∧W.todo=v :: r∧PairIn ae e lo.ea W.effects∧WOk W∧BOk W ∧
 ∀ ρ' H' lo' lb',SB C ρ' H' t lo' b lb' (Vbdcai.useOn W e v r) bf→lb'.oa=lb.oa→Out ρ H ρ' H'→Q .non H'
theorem ok_use (T:Tx K C) (F:Fun K "use" "use" s_use f fd) (q_Event_mark:KnM P w K mg base C.event "mark" 1 (sp_Event_mark K C)) {a_DEEDS:Addr} (g_DEEDS:GR mg "DEEDS" a_DEEDS) (k_wear:Kn P w K mg base "wear" 2 (sp_wear K C)) {fs:List Addr} (hT:∀ H,SqT K H a_DEEDS (rfs fs)) (hl:fs.length=11) (hF:∀ (i:Nat) fa,fs[i]?=some fa→KnF P w K mg base fa 4 (sp_deed i C)):FnOk P w K mg base CX0 5 f fd ["table","effect"] (sp_use K C):=by
 refine zh0 ?_;simp (disch:=k_dflt (
 refine F.ok sc_use (by walk_at "ln") (fun cdv A outer s H vs Q E hr h=>?_)
 obtain ⟨t,ae,ρ,lo,b,lb,W,bf,e,v,r,rfl,S,ht,hp,hW,hB,k⟩:=h
 refine ⟨_,(pss_cons (ps_set (i:=2) sc_use.nd rfl (Or.inl rfl) (pe_ix ix_list (pe_fld (pe_fld (pv 0) rfl) rfl) pe_int (fun _ _=>rfl))) (pss_cons (ps_expr (pe_methX (pv 2) q_Event_mark (hr.mono (by decide)) (pa_cons (pe_fld (pv 1) rfl) pa_nil))) (pss_cons (ps_set (i:=3) sc_use.nd rfl (Or.inl rfl) (pe_ix ix_tup (pe_gr g_DEEDS rfl) (pe_ix ix_list (pe_fld (pv 1) rfl) pe_int (fun _ _=>rfl)) (fun _ _=>rfl))) (pss_cons (ps_expr (pe_callL 4 (hr.mono (by decide)) (pv 3) (pa_cons (pv 0) (pa_cons (pv 1) (pa_cons (pv 2) pa_nil))))) (pss_one (ps_expr (pe_callX k_wear (hr.mono (by decide)) rfl (pa_cons (pv 0) (pa_cons (pv 1) pa_nil))))))))),?_⟩
 obtain ⟨i,h1,h2⟩:=id hp
 obtain ⟨hr0,dx,lt,ls,ld,hef,hlt,hls,hrd,hdo⟩:=paired_at S.rep.ef.2 h1 h2
 obtain ⟨dt,htb⟩:=S.rep.tbl
 obtain ⟨hrb,db,hbt⟩:=S.bat.bt
 obtain ⟨av,ra,hra,hrv,dv,lu,hev,hru,hus⟩:=S.bat.first ht
 have hrow:=S.bat.row.1.2
 rw [hra] at hrow
 obtain ⟨evk,uv⟩:=hB.todo v (by rw [ht];exact List.mem_cons_self)
 have hul:v.used.length < 1000:=by unfold UOk at uv;omega
 have hem:=hp.mem
 have hlen:=mus_len W.effects W.todo
 have hroom:=hB.room
 have hrl:r.length≤3000:=by
  have e1:W.todo.length=r.length + 1:=by rw [ht];rfl
  unfold mu at hroom
  omega
 walk_at "go"
 refine rd_ix hrow at0 ?_
 walk_at "go"
 refine ⟨av,dv,lu,v,e.id,rfl,hev,hus,hul,fun l1 l2 hl1 hl2 ne=>?_⟩
 obtain ⟨S1,o1,kp⟩:=S.mark (i:=e.id) hra ht hev hrv hl1 hl2 ne
 have hef1:=(kp1 kp ⟨hr0,hef⟩ (by show 10≠50∧10≠0;decide)).2
 have hdo1:=(kp1 kp ⟨hrd,hdo⟩ (by show 13≠50∧13≠0;decide)).2
 obtain ⟨l,hal⟩:=act_head e.act
 rw [hal] at hdo1
 walk_at "go"
 refine rd_ix hdo1 at0 ?_
 have hlt11:actIx e.act < fs.length:=by rw [hl];exact actIx_lt _
 have hfa:fs[actIx e.act]?=some fs[actIx e.act]:=List.getElem?_eq_getElem hlt11
 refine rd_ixT (hT _) (rfs_at hfa rfl) ?_
 walk_at "go"
 refine rd_callL ?_
 walk_at "go"
 refine ⟨_,_,rfl,hF _ _ hfa,?_⟩
 walk_at "go"
 refine ⟨t,ae,av,_,lo,b,lb,W,bf,e,v,r,ra,rfl,⟨S1,hra,hp,hW.ids,hW.bks,evk.kind,(hW.eff e hem).actk,hrl⟩,rfl,fun ρ2 H2 lb2 S2 e2 o2=>?_⟩
 walk_at "go"
 have hp2:PairIn ae { e with act:=restOf e v.amount } lo.ea (deedW W e v r).effects:=by
  refine ⟨i,h1,?_⟩
  show (setAct W.effects e.id (restOf e v.amount))[i]?=_
  unfold setAct
  rw [List.getElem?_map,h2]
  show some (if e.id=e.id then _ else _)=_
  rw [if_pos rfl]
 have hids2:((deedW W e v r).effects.map (·.id))=W.effects.map (·.id):=by
  show ((setAct W.effects e.id (restOf e v.amount)).map (·.id))=_
  unfold setAct
  rw [List.map_map]
  refine List.map_congr_left fun x _=>?_
  show (if x.id=e.id then _ else x).id=x.id
  split <;> rfl
 refine ⟨t,ae,ρ2,lo,b,lb2,_,bf,{ e with act:=restOf e v.amount },rfl,S2,hp2,by rw [hids2];exact hW.ids,?_,fun ρ3 H3 lo3 S3 o3=>?_⟩
 ·show (setAct W.effects e.id (restOf e v.amount)).length≤100
  unfold setAct
  rw [List.length_map]
  have:=hW.len
  omega
 rw [use_split hW.ids hem] at S3
 exact k _ _ _ _ S3 e2 ((o1.trans o2).trans o3))) only [↓zh1]
def offA (W:Du.W) (ea:List Addr) (v:Ev):List Addr :=
 let p:=pick (fun e=>Vbdcai.matches_ (Vbdcai.ctrl W) e v) ea W.effects
 if (W.effects.filter fun e=>Vbdcai.matches_ (Vbdcai.ctrl W) e v).any (fun e=>e.own)=true then pick (fun e=>e.own) p (W.effects.filter fun e=>Vbdcai.matches_ (Vbdcai.ctrl W) e v) else p
theorem offA_paired {F:Addr→Ef→Prop} {W:Du.W} {ea:List Addr} {v:Ev} (h:Paired F ea W.effects):Paired F (offA W ea v) (Vbdcai.offered (Vbdcai.ctrl W) W.effects v):=by
 unfold offA Vbdcai.offered
 dsimp only
 split
 ·exact pick_paired _ (pick_paired _ h)
 exact pick_paired _ h
def sp_offered_effects (K:PySem.W.Frag) (C:Cl):Sp:=fun vs H Q _=>∃ (t a:Addr) (ρ:Rho) (lo:Lo) (bV:V) (W:Du.W) (v:Ev) (dv lu:Addr),vs=[.ref t,.ref a]∧Rep C ρ H t lo bV W∧WOk W∧EvOk W v∧H a=some (.ins C.event dv (evFs v lu))∧H lu=some (.lst (ivs (castL v.used))) ∧
 ∀ l H',Same H H'→H l=none→H' l=some (.lst (rfs (offA W lo.ea v)))→Q (.ref l) H'
theorem ok_offered_effects (T:Tx K C) (F:Fun K "offered_effects" "offered_effects" s_offered_effects f fd) (q_Table_befallen_side:KnM P w K mg base C.table "befallen_side" 2 (sp_Table_befallen_side K C)) (k_fits:Kn P w K mg base "fits" 3 (sp_fits K C)) (b_len:mg "len"=none) :FnOk P w K mg base CX0 4 f fd ["table","event"] (sp_offered_effects K C):=by
 refine zh0 ?_;simp (disch:=k_dflt (
 refine F.ok sc_offered_effects (by walk_at "ln") (fun cdv A outer s H vs Q E hr h=>?_)
 obtain ⟨t,a,ρ,lo,bV,W,v,dv,lu,rfl,R,hW,hv,ha,hu,k⟩:=h
 refine ⟨_,(pss_cons (ps_set (i:=2) sc_offered_effects.nd rfl (Or.inr rfl) (pe_methX (pv 0) q_Table_befallen_side (hr.mono (by decide)) (pa_cons (pe_fld (pv 1) rfl) pa_nil))) (pss_cons (ps_setLc (i:=3) rfl sc_offered_effects.nd rfl rfl (sw_true rfl rfl rfl rfl) (pi_list (pe_fld (pv 0) rfl)) (blkOk_by (own:=[("effect",5)]) rfl) (fun _ _ _ _ _=>(pg_name (i:=5) sc_offered_effects.nd rfl (Or.inl rfl))) (fun _ _ _ _ _=>(pts_one (pt_val (pe_callX k_fits (hr.mono (by decide)) rfl (pa_cons (pv 5) (pa_cons (pv 1) (pa_cons (pv 2) pa_nil))))))) (fun _ _ _ _ _=>(pv 5))) (pss_cons (ps_setLc (i:=4) rfl sc_offered_effects.nd rfl rfl (sw_true rfl rfl rfl rfl) (pi_list (pv 3)) (blkOk_by (own:=[("effect",5)]) rfl) (fun _ _ _ _ _=>(pg_name (i:=5) sc_offered_effects.nd rfl (Or.inl rfl))) (fun _ _ _ _ _=>(pts_one (pt_cmpR op_eq (pe_fldK (K:=K) rfl (pv 5) rfl) pe_int (nomark _)))) (fun _ _ _ _ _=>(pv 5))) (pss_cons (ps_if (pt_cmpR op_gt (pe_callB call_len_seq rfl b_len PySem.boot_len (pa_cons (pv 4) pa_nil)) pe_int (nomark _)) (pss_one (ps_ret (pv 4))) pss_nil) (pss_one (ps_ret (pv 3))))))),?_⟩
 obtain ⟨dt,htb⟩:=R.tbl
 have hl:=R.ef.1.2
 have hlen:=Paired.length R.ef.2
 walk_at "go"
 refine ⟨t,v.target,ρ,lo,bV,W,rfl,R,?_,?_⟩
 ·rcases okTarget_lt hv.tgt with q | q
  ·exact .inl q.1
  exact .inr ⟨q.1,q.2.1⟩
 walk_at "go"
 refine lc_filt (n:=5) (fun e=>Vbdcai.matches_ (Vbdcai.ctrl W) e v) hl (by show 5 < 6;decide) hlen (by rw [hlen,sizeLine_eq];have:=hW.len;omega) (fun i x e D l B hx he hD hB=>?_) fun D hD=>?_
 ·obtain ⟨_,dx,lt,ls,ld,hef,ht,hs,_⟩:=paired_at R.ef.2 hx he
  have up:∀ b o,H b=some o→upd H D (.lst l) b=some o:=fun b o h=>by rw [upd_ne (ne_of_none h hD)];exact h
  walk_at "go"
  refine ⟨x,dx,lt,ls,ld,e,a,dv,lu,v,_,rfl,up _ _ hef,up _ _ ht.2,up _ _ hs.2,up _ _ ha,up _ _ hu,?_⟩
  refine rd_blV ?_
  rw [fits_eq (hW.eff e (List.mem_of_getElem? he)) hv]
  exact hB
 walk_at "go"
 have s1:Same H (upd H D (.lst (rfs (pick (fun e=>Vbdcai.matches_ (Vbdcai.ctrl W) e v) lo.ea W.effects)))):=Same.upd_new hD
 have hD1:upd H D (.lst (rfs (pick (fun e=>Vbdcai.matches_ (Vbdcai.ctrl W) e v) lo.ea W.effects))) D=some (.lst (rfs (pick (fun e=>Vbdcai.matches_ (Vbdcai.ctrl W) e v) lo.ea W.effects))):=upd_same
 have R1:=R.same s1
 generalize upd H D (.lst (rfs (pick (fun e=>Vbdcai.matches_ (Vbdcai.ctrl W) e v) lo.ea W.effects)))=H1 at *
 have hpp:=pick_paired (fun e=>Vbdcai.matches_ (Vbdcai.ctrl W) e v) R1.ef.2
 have hlen2:=Paired.length hpp
 have hle:(W.effects.filter fun e=>Vbdcai.matches_ (Vbdcai.ctrl W) e v).length≤12:=Nat.le_trans (List.length_filter_le _ _) hW.len
 refine lc_filt (n:=5) (fun e=>e.own) hD1 (by show 5 < 6;decide) hlen2 (by rw [hlen2];exact Nat.lt_of_le_of_lt hle (by rw [sizeLine_eq];decide)) (fun i x e D2 l B hx he hD2 hB=>?_) fun D2 hD2=>?_
 ·obtain ⟨_,dx,lt,ls,ld,hef,_⟩:=paired_at hpp hx he
  have hef1:upd H1 D2 (.lst l) x=some (.ins C.effect dx (efFs e lt ls ld)):=by rw [upd_ne (ne_of_none hef hD2)];exact hef
  walk_at "go"
  have e1:decide (b2z e.own=1)=e.own:=by cases e.own <;> rfl
  rw [e1]
  exact hB
 have s2:Same H1 (upd H1 D2 (.lst (rfs (pick (fun e=>e.own) (pick (fun e=>Vbdcai.matches_ (Vbdcai.ctrl W) e v) lo.ea W.effects) (W.effects.filter fun e=>Vbdcai.matches_ (Vbdcai.ctrl W) e v))))):=Same.upd_new hD2
 have hD3:upd H1 D2 (.lst (rfs (pick (fun e=>e.own) (pick (fun e=>Vbdcai.matches_ (Vbdcai.ctrl W) e v) lo.ea W.effects) (W.effects.filter fun e=>Vbdcai.matches_ (Vbdcai.ctrl W) e v)))) D2=some (.lst (rfs (pick (fun e=>e.own) (pick (fun e=>Vbdcai.matches_ (Vbdcai.ctrl W) e v) lo.ea W.effects) (W.effects.filter fun e=>Vbdcai.matches_ (Vbdcai.ctrl W) e v)))):=upd_same
 have hD4:=s2 _ _ hD1
 have hne:∀ {l:List Ef},(l.filter fun e=>e.own).length=0↔¬ l.any (fun e=>e.own)=true:=fun {l}=>by
  rw [List.length_eq_zero_iff,List.filter_eq_nil_iff,List.any_eq_true]
  constructor
  ·rintro h ⟨x,hx,hx2⟩
   exact h x hx hx2
  intro h x hx hx2
  exact h ⟨x,hx,hx2⟩
 have hlen3:=Paired.length (pick_paired (fun e=>e.own) hpp)
 have hfree:H D2=none:=by
  cases q:H D2 with
  | none=>rfl
  | some o=>rw [s1 _ _ q] at hD2;cases hD2
 walk_at "go"
 refine rd_ite (fun h0=>?_) fun h0=>?_
 ·walk_at "go"
  refine k _ _ (s1.trans s2) hfree ?_
  rw [hD3]
  unfold offA
  rw [if_pos (Classical.byContradiction fun q=>by rw [rfs_len,hlen3,hne.mpr q] at h0;simp at h0)]
 walk_at "go"
 refine k _ _ (s1.trans s2) hD ?_
 rw [hD4]
 unfold offA
 rw [if_neg (fun q=>h0 (by
  rw [rfs_len,hlen3]
  exact Int.natCast_pos.mpr (Nat.pos_of_ne_zero fun z=>(hne.mp z) q)))])) only [↓zh1]
theorem offA_mem {W:Du.W} {ea:List Addr} {v:Ev} {F:Addr→Ef→Prop} (h:Paired F ea W.effects):∀ {a:Addr} {e:Ef} {i:Nat},(offA W ea v)[i]?=some a→(Vbdcai.offered (Vbdcai.ctrl W) W.effects v)[i]?=some e→PairIn a e ea W.effects:=fun {a e i} ha he=>by
 have hp:=offA_paired (v:=v) (F:=fun a e=>PairIn a e ea W.effects) (paired_of (Paired.length h) fun i a e h1 h2=>⟨i,h1,h2⟩)
 exact paired_at hp ha he
theorem seq0 {a:Addr} {l:List Addr}:seqIndex? 0 (rfs (a :: l)).length=some 0:=seqIndex_of (k:=0) (by decide) (by show (0:Int) < ((rfs (a :: l)).length:Int);rw [rfs_len,List.length_cons];omega)
structure RunOk (W:Du.W):Prop where
 ok:WOk W
 bok:BOk W
def sp_look_at_first (K : PySem.W.Frag) (C : Cl) : Sp := fun vs H Q _ => ∃ (t b : Addr) (ρ : Rho) (lo : Lo) (lb : Lb) (W bf : Du.W), vs = [.ref t, .ref b] ∧ SB C ρ H t lo b lb W bf ∧ RunOk W ∧ W.todo ≠ [] ∧ lb.oa = [] ∧
  ((∀ W' ρ' H' lo' lb', look1 W = some W' → SB C ρ' H' t lo' b lb' W' bf → lb'.oa = [] → Out ρ H ρ' H' → Q .non H') ∧
   (∀ v r ρ' H' lo' lb', look1 W = none → W.todo = v :: r → SB C ρ' H' t lo' b lb' W bf → lb'.oa = offA W lo'.ea v → Out ρ H ρ' H' → Q .non H'))
theorem ok_look_at_first (T:Tx K C) (F:Fun K "look_at_first" "look_at_first" s_look_at_first f fd) (k_offered_effects:Kn P w K mg base "offered_effects" 4 (sp_offered_effects K C)) (b_len:mg "len"=none) (k_use:Kn P w K mg base "use" 5 (sp_use K C)) :FnOk P w K mg base CX0 6 f fd ["table","batch"] (sp_look_at_first K C):=by
 refine zh0 ?_;simp (disch:=k_dflt (
 refine F.ok sc_look_at_first (by walk_at "ln") (fun cdv A outer s H vs Q E hr h=>?_)
 obtain ⟨t,b,ρ,lo,lb,W,bf,rfl,S,hR,hne,hoa,k⟩:=h
 refine ⟨_,(pss_cons (ps_set (i:=2) sc_look_at_first.nd rfl (Or.inl rfl) (pe_ix ix_list (pe_fld (pv 1) rfl) pe_int (fun _ _=>rfl))) (pss_cons (ps_if (pt_cmpR op_eq (pe_fld (pv 2) rfl) pe_int (nomark _)) (pss_cons (ps_expr (pe_bm PySem.F.plainAttrs_list PySem.F.slot_list_pop PySem.F.type_list_pop mt_popAt (pe_fld (pv 1) rfl) (pa_cons pe_int pa_nil))) (pss_one ps_retN)) pss_nil) (pss_cons (ps_set (i:=3) sc_look_at_first.nd rfl (Or.inl rfl) (pe_callX k_offered_effects (hr.mono (by decide)) rfl (pa_cons (pv 0) (pa_cons (pv 2) pa_nil)))) (pss_one (ps_if (pt_cmpR op_eq (pe_callB call_len_seq rfl b_len PySem.boot_len (pa_cons (pv 3) pa_nil)) pe_int (nomark _)) (pss_one (ps_expr (pe_bm PySem.F.plainAttrs_list PySem.F.slot_list_append PySem.F.type_list_append mt_append (pe_fld (pv 1) rfl) (pa_cons (pe_bm PySem.F.plainAttrs_list PySem.F.slot_list_pop PySem.F.type_list_pop mt_popAt (pe_fld (pv 1) rfl) (pa_cons pe_int pa_nil)) pa_nil)))) (pss_one (ps_if (PW.pt (pw_and (pt_cmpR op_eq (pe_callB call_len_seq rfl b_len PySem.boot_len (pa_cons (pv 3) pa_nil)) pe_int (nomark _)) (pw_and1 (pt_cmpR op_eq (pe_fld (pe_ix ix_list (pv 3) pe_int (fun _ _=>rfl)) rfl) pe_int (nomark _))))) (pss_one (ps_expr (pe_callX k_use (hr.mono (by decide)) rfl (pa_cons (pv 0) (pa_cons (pe_ix ix_list (pv 3) pe_int (fun _ _=>rfl)) pa_nil))))) (pss_one (ps_fld (pv 1) (pv 3) rfl))))))))),?_⟩
 obtain ⟨v,r,ht⟩:∃ v r,W.todo=v :: r:=by
  cases q:W.todo with
  | nil=>exact absurd q hne
  | cons v r=>exact ⟨v,r,rfl⟩
 obtain ⟨hrb,db,hbt⟩:=S.bat.bt
 obtain ⟨av,ra,hra,hrv,dv,lu,hev,hru,hus⟩:=S.bat.first ht
 have hrow:=S.bat.row.1.2
 rw [hra] at hrow
 have hset:=S.bat.set.1.2
 obtain ⟨evk,uv⟩:=hR.bok.todo v (by rw [ht];exact List.mem_cons_self)
 obtain ⟨k1,k2⟩:=k
 have hlook:look1 W=if v.amount=0 then some { W with todo:=r } else match Vbdcai.offered (Vbdcai.ctrl W) W.effects v with
   | []=>some { W with todo:=r,settled:=W.settled++[v] }
   | [e]=>if e.may=true then none else some (Vbdcai.useOn W e v r)
   | _=>none:=by
  unfold look1
  rw [ht]
  try rfl
 walk_at "go"
 refine rd_ix hrow at0 ?_
 walk_at "go"
 refine rd_ite (fun h0=>?_) fun h0=>?_
 ·walk_at "go"
  refine ⟨.inl ⟨rfl,_,SqL.of hrow⟩,?_⟩
  walk_at "go"
  refine ⟨_,_,0,0,_,rfl,rfl,hrow,by decide,by decide,seq0,rfl,?_⟩
  walk_at "go"
  have R1:=S.rep.upd0 (a:=lb.rL) (o:=.lst (rfs ra)) (by rw [S.bat.row.1.1];unfold inTab;decide)
  exact k1 { W with todo:=r } ρ _ lo { lb with ra:=ra } (by rw [hlook,if_pos (by omega)]) ⟨⟨R1.dom,R1.tb,R1.sd,R1.th,R1.ef,R1.bk⟩,S.bat.drop hra ht⟩ hoa (Kp.upd (by rw [S.bat.row.1.1];simp))
 rw [if_neg (by omega)] at hlook
 walk_at "go"
 refine ⟨t,av,ρ,lo,_,W,v,dv,lu,rfl,S.rep,hR.ok,evk,hev,hus,fun l H1 s1 hl0 hl1=>?_⟩
 have S1:SB C ρ H1 t lo b lb W bf:=⟨S.rep.same s1,S.bat.same s1⟩
 have o1:Out ρ H ρ H1:=Kp.same s1
 have hrow1:=s1 _ _ hrow
 have hset1:=s1 _ _ hset
 have hbt1:=s1 _ _ hbt
 have hop:=offA_paired (v:=v) S1.rep.ef.2
 have hol:=Paired.length hop
 have hrl:ρ l=(0,0):=S.rep.dom l hl0
 walk_at "go"
 refine rd_ite (fun hz=>?_) fun hz=>?_
 ·have ho:Vbdcai.offered (Vbdcai.ctrl W) W.effects v=[]:=by
   rw [rfs_len,hol] at hz
   exact List.length_eq_zero_iff.mp (by omega)
  rw [ho] at hlook
  walk_at "go"
  refine ⟨.inl ⟨rfl,_,SqL.of hset1⟩,?_⟩
  walk_at "go"
  refine ⟨.inl ⟨rfl,_,SqL.of hrow1⟩,?_⟩
  walk_at "go"
  refine ⟨_,_,0,0,_,rfl,rfl,hrow1,by decide,by decide,seq0,rfl,?_⟩
  have hset2:upd H1 lb.rL (.lst (rfs ra)) lb.sL=some (.lst (rfs lb.sa)):=by
   rw [upd_ne (fun q=>by have r8:=S.bat.set.1.1;rw [q,S.bat.row.1.1] at r8;cases r8)];exact hset1
  walk_at "go"
  refine ⟨_,_,_,rfl,rfl,hset2,?_,?_⟩
  ·rw [rfs_len,ev_len S.bat.set.2,sizeLine_eq]
   have:=hR.bok.room
   omega
  walk_at "go"
  have R1:=(S1.rep.upd0 (a:=lb.rL) (o:=.lst (rfs ra)) (by rw [S.bat.row.1.1];unfold inTab;decide)).upd0 (a:=lb.sL) (o:=.lst (rfs (lb.sa++[av]))) (by rw [S.bat.set.1.1];unfold inTab;decide)
  have el:rfs lb.sa++[V.ref av]=rfs (lb.sa++[av]):=by unfold rfs;rw [List.map_append];rfl
  rw [el]
  exact k1 { W with todo:=r,settled:=W.settled++[v] } ρ _ lo { lb with ra:=ra,sa:=lb.sa++[av] } hlook ⟨⟨R1.dom,R1.tb,R1.sd,R1.th,R1.ef,R1.bk⟩,S1.bat.settle hra ht⟩ hoa
   (o1.trans ((Kp.upd (by rw [S.bat.row.1.1];simp)).trans (Kp.upd (by rw [S.bat.set.1.1];simp))))
 have fin:look1 W=none→Q .non (upd H1 b (.ins C.batch db (btFs lb.rL lb.sL l lb.ebL lb.bbL))):=fun hno=>by
  refine k2 v r _ _ lo { lb with oL:=l,oa:=offA W lo.ea v } hno ht ⟨S1.rep.offer hrl hl1 hrb,S1.bat.offer hrl hl1⟩ rfl ?_
  intro c u hc hcu
  have ncl:c≠l:=fun q=>by rw [q,hl0] at hcu;cases hcu
  exact ⟨upR_ne ncl,by rw [upd_ne (fun q=>by rw [q,hrb] at hc;cases hc)];exact s1 _ _ hcu⟩
 walk_at "go"
 refine rd_ite (fun h1=>?_) fun h1=>?_
 ·rw [rfs_len,hol] at h1
  obtain ⟨e,ho⟩:∃ e,Vbdcai.offered (Vbdcai.ctrl W) W.effects v=[e]:=List.length_eq_one_iff.mp (by omega)
  rw [ho] at hol hlook
  obtain ⟨ae,hae⟩:∃ ae,offA W lo.ea v=[ae]:=List.length_eq_one_iff.mp hol
  have hpi:PairIn ae e lo.ea W.effects:=offA_mem (i:=0) S1.rep.ef.2 (v:=v) (by rw [hae];rfl) (by rw [ho];rfl)
  obtain ⟨_,dx,lt,ls,ld,hef,_⟩:EfAt C ρ H1 10 ae e:=by
   rw [hae,ho] at hop
   cases hop with
   | cons h _=>exact h
  rw [hae] at hl1
  walk_at "go"
  refine rd_ix hl1 at0 ?_
  walk_at "go"
  refine rd_ite (fun hm=>?_) fun hm=>?_
  ·have hmay:¬ e.may=true:=fun q=>by rw [q] at hm;cases hm
   simp only [if_neg hmay] at hlook
   walk_at "go"
   refine rd_ix hl1 at0 ?_
   walk_at "go"
   refine ⟨t,ae,ρ,lo,b,lb,W,bf,e,v,r,rfl,S1,ht,hpi,hR.ok,hR.bok,fun ρ' H' lo' lb' S2 e2 o2=>?_⟩
   exact k1 _ ρ' H' lo' lb' hlook S2 (e2.trans hoa) (o1.trans o2)
  have hmay:e.may=true:=by cases q:e.may with
   | true=>rfl
   | false=>rw [q] at hm;exact absurd rfl hm
  simp only [if_pos hmay] at hlook
  rw [← hae] at hl1
  walk_at "go"
  exact fin hlook
 have hno:look1 W=none:=by
  rw [hlook]
  rw [rfs_len,hol] at hz h1
  split
  ·next q=>rw [q] at hz;simp at hz
  ·next q=>rw [q] at h1;simp at h1
  rfl
 walk_at "go"
 exact fin hno)) only [↓zh1]
theorem upd_self {H:Hp} {a:Addr} {o:HO} (h:H a=some o):upd H a o=H:=by
 funext b
 by_cases q:b=a
 ·rw [q,upd_same,h]
 rw [upd_ne q]
def sp_happen_to_side (K:PySem.W.Frag) (C:Cl):Sp:=fun vs H Q _=>∃ (a c dx dv lu:Addr) (s:Sd) (v:Ev),vs=[.ref a,.ref c]∧H a=some (.ins C.side dx (sdFs s))∧H c=some (.ins C.event dv (evFs v lu))∧Q .non (upd H a (.ins C.side dx (sdFs (hapSide v.kind v.amount s))))
theorem ok_happen_to_side (T:Tx K C) (F:Fun K "happen_to_side" "happen_to_side" s_happen_to_side f fd) (c_DAMAGE:CI mg "DAMAGE" (0)) (c_DRAW:CI mg "DRAW" (1)) (c_GAIN:CI mg "GAIN" (2)) :FnOk P w K mg base CX0 1 f fd ["side","event"] (sp_happen_to_side K C):=by
 refine zh0 ?_;simp (disch:=k_dflt (
 refine F.ok sc_happen_to_side (by walk_at "ln") (fun cdv A outer s H vs Q E hr h=>?_)
 obtain ⟨a,c,dx,dv,lu,s0,v,rfl,ha,hc,k⟩:=h
 refine ⟨_,(pss_one (ps_if (pt_cmpR op_eq (pe_fld (pv 1) rfl) (pe_ci c_DAMAGE rfl) (nomark _)) (pss_one (ps_fldaug (pv 0) (pe_fld (pv 1) rfl) in_sub)) (pss_one (ps_if (pt_cmpR op_eq (pe_fld (pv 1) rfl) (pe_ci c_DRAW rfl) (nomark _)) (pss_one (ps_fldaug (pv 0) (pe_fld (pv 1) rfl) in_add)) (pss_one (ps_if (pt_cmpR op_eq (pe_fld (pv 1) rfl) (pe_ci c_GAIN rfl) (nomark _)) (pss_one (ps_fldaug (pv 0) (pe_fld (pv 1) rfl) in_add)) (pss_one (ps_fldaug (pv 0) (pe_fld (pv 1) rfl) in_add)))))))),?_⟩
 unfold hapSide at k
 walk_at "go"
 refine rd_ite (fun h0=>?_) fun h0=>?_
 ·rw [if_pos (by omega)] at k
  walk_at "go"
  exact rd_put ha (Nat.le_of_ble_eq_true rfl) rfl k
 rw [if_neg (by omega)] at k
 walk_at "go"
 refine rd_ite (fun h1=>?_) fun h1=>?_
 ·rw [if_pos (by omega)] at k
  walk_at "go"
  refine rd_put ha (Nat.le_of_ble_eq_true rfl) (gs:=sdFs { s0 with cards:=s0.cards + v.amount }) ?_ k
  rw [← Int.natCast_add]
  rfl
 rw [if_neg (by omega)] at k
 walk_at "go"
 refine rd_ite (fun h2=>?_) fun h2=>?_
 ·rw [if_pos (by omega)] at k
  walk_at "go"
  exact rd_put ha (Nat.le_of_ble_eq_true rfl) rfl k
 rw [if_neg (by omega)] at k
 walk_at "go"
 refine rd_put ha (Nat.le_of_ble_eq_true rfl) (gs:=sdFs { s0 with tokens:=s0.tokens + v.amount }) ?_ k
 rw [← Int.natCast_add]
 rfl)) only [↓zh1]
def sp_happen_to_thing (K:PySem.W.Frag) (C:Cl):Sp:=fun vs H Q _=>∃ (a c dx dv lu:Addr) (x:Th) (v:Ev),vs=[.ref a,.ref c]∧H a=some (.ins C.thing dx (thFs x))∧H c=some (.ins C.event dv (evFs v lu))∧a≠c∧Q .non (upd H a (.ins C.thing dx (thFs (hapThing v x))))
theorem ok_happen_to_thing (T:Tx K C) (F:Fun K "happen_to_thing" "happen_to_thing" s_happen_to_thing f fd) (c_MOVE:CI mg "MOVE" (5)) (c_FIELD:CI mg "FIELD" (0)) (c_COUNTERS:CI mg "COUNTERS" (3)) :FnOk P w K mg base CX0 1 f fd ["thing","event"] (sp_happen_to_thing K C):=by
 refine zh0 ?_;simp (disch:=k_dflt (
 refine F.ok sc_happen_to_thing (by walk_at "ln") (fun cdv A outer s H vs Q E hr h=>?_)
 obtain ⟨a,c,dx,dv,lu,x,v,rfl,ha,hc,nac,k⟩:=h
 refine ⟨_,(pss_one (ps_if (pt_cmpR op_eq (pe_fld (pv 1) rfl) (pe_ci c_MOVE rfl) (nomark _)) (pss_cons (ps_fld (pv 0) (pe_fld (pv 1) rfl) rfl) (pss_cons (ps_fld (pv 0) pe_int rfl) (pss_one (ps_fld (pv 0) pe_int rfl)))) (pss_one (ps_if (pt_cmpR op_ne (pe_fld (pv 0) rfl) (pe_ci c_FIELD rfl) (nomark _)) (pss_one ps_retN) (pss_one (ps_if (pt_cmpR op_eq (pe_fld (pv 1) rfl) (pe_ci c_COUNTERS rfl) (nomark _)) (pss_one (ps_fldaug (pv 0) (pe_fld (pv 1) rfl) in_add)) (pss_one (ps_fldaug (pv 0) (pe_fld (pv 1) rfl) in_add)))))))),?_⟩
 unfold hapThing at k
 walk_at "go"
 refine rd_ite (fun h0=>?_) fun h0=>?_
 ·rw [if_pos (by omega)] at k
  walk_at "go"
  simp only [upd_upd]
  exact k
 rw [if_neg (by omega)] at k
 walk_at "go"
 refine rd_iteN (fun h1=>?_) fun h1=>?_
 ·rw [if_neg (by omega),upd_self ha] at k
  walk_at "go"
  exact k
 rw [if_pos (by omega)] at k
 walk_at "go"
 refine rd_ite (fun h2=>?_) fun h2=>?_
 ·rw [if_pos (by omega)] at k
  walk_at "go"
  refine rd_put ha (Nat.le_of_ble_eq_true rfl) (gs:=thFs { x with plus:=x.plus + v.amount }) ?_ k
  rw [← Int.natCast_add]
  rfl
 rw [if_neg (by omega)] at k
 walk_at "go"
 refine rd_put ha (Nat.le_of_ble_eq_true rfl) (gs:=thFs { x with damage:=x.damage + v.amount }) ?_ k
 rw [← Int.natCast_add]
 rfl)) only [↓zh1]
theorem rd_g {n:Nat} {v:V} {σ:L2.St} {H:Hp} {Q:L2.St→Hp→Prop} (h:Q (σ.set n (some v)) H):gName n v σ H Q:=h
def hapW (W:Du.W) (i:Nat):Du.W:=(W.settled.take i).foldl Vbdcai.happens { W with settled:=[] }
theorem hapW_next {W:Du.W} {i:Nat} {v:Ev} (h:W.settled[i]?=some v):hapW W (i + 1)=Vbdcai.happens (hapW W i) v:=by
 unfold hapW
 rw [take_one h,List.foldl_append]
 rfl
theorem hapW_parts {W:Du.W} (hB:∀ v∈W.settled,EvOk W v) (i:Nat):(hapW W i).things.length=W.things.length∧(hapW W i).effects=W.effects∧(hapW W i).last=W.last∧(hapW W i).books.length=W.books.length:=by
 have h:=fold_parts (W.settled.take i) { W with settled:=[] } fun v hv=>(hB v (List.mem_of_mem_take hv)).of rfl
 exact ⟨h.1,h.2.1,h.2.2.1,h.2.2.2.2.2⟩
theorem ev_at {ρ:Rho} {H:Hp}:∀ {as:List Addr} {vs:List Ev},Paired (EvAt C ρ H) as vs→∀ {i:Nat} {a:Addr},as[i]?=some a→∃ v,vs[i]?=some v∧EvAt C ρ H a v
 | _,_,.nil,i,a,h=>by simp at h
 | _,_,.cons r t,0,a,h=>by
  simp at h
  subst h
  exact ⟨_,rfl,r⟩
 | _,_,.cons r t,i + 1,a,h=>by
  obtain ⟨v,h1,h2⟩:=ev_at t (i:=i) (by simpa using h)
  exact ⟨v,by simpa using h1,h2⟩
def sp_finish (K:PySem.W.Frag) (C:Cl):Sp:=fun vs H Q _=>∃ (t b:Addr) (ρ:Rho) (lo:Lo) (lb:Lb) (W bf:Du.W),vs=[.ref t]∧SB C ρ H t lo b lb W bf∧RunOk W∧W.todo=[] ∧
 ∀ ρ' H' lo',Rep C ρ' H' t lo' .non (Vbdcai.finish W)→Out ρ H ρ' H'→Q .non H'
theorem ok_finish (T:Tx K C) (F:Fun K "finish" "finish" s_finish f fd) (k_is_side:Kn P w K mg base "is_side" 1 (sp_is_side K C)) (k_happen_to_side:Kn P w K mg base "happen_to_side" 1 (sp_happen_to_side K C)) (k_happen_to_thing:Kn P w K mg base "happen_to_thing" 1 (sp_happen_to_thing K C)) (q_Table_thing_numbered:KnM P w K mg base C.table "thing_numbered" 1 (sp_Table_thing_numbered K C)) (k_thing_of:Kn P w K mg base "thing_of" 1 (sp_thing_of K C)) (q_Table_on_field:KnM P w K mg base C.table "on_field" 2 (sp_Table_on_field K C)) :FnOk P w K mg base CX0 3 f fd ["table"] (sp_finish K C):=by
 refine zh0 ?_;simp (disch:=k_dflt (
 refine F.ok sc_finish (by walk_at "ln") (fun cdv A outer s H vs Q E hr h=>?_)
 obtain ⟨t,b,ρ,lo,lb,W,bf,rfl,S,hR,htd,k⟩:=h
 refine ⟨_,(pss_cons (ps_for PassesOwn.never rfl (pi_list (pe_fld (pe_fld (pv 0) rfl) rfl)) (pg_name (i:=1) sc_finish.nd rfl (Or.inl rfl)) (pss_cons (ps_set (i:=2) sc_finish.nd rfl (Or.inl rfl) (pe_ix ix_list (pe_fld (pv 0) rfl) (pe_fld (pv 1) rfl) (fun _ _=>rfl))) (pss_cons (ps_fldaug (pv 2) (pe_fld (pv 1) rfl) in_add) (pss_one (ps_if (pt_val (pe_callX k_is_side (hr.mono (by decide)) rfl (pa_cons (pe_fld (pv 1) rfl) pa_nil))) (pss_one (ps_expr (pe_callX k_happen_to_side (hr.mono (by decide)) rfl (pa_cons (pe_ix ix_list (pe_fld (pv 0) rfl) (pe_fld (pv 1) rfl) (fun _ _=>rfl)) (pa_cons (pv 1) pa_nil))))) (pss_one (ps_expr (pe_callX k_happen_to_thing (hr.mono (by decide)) rfl (pa_cons (pe_methX (pv 0) q_Table_thing_numbered (hr.mono (by decide)) (pa_cons (pe_callX k_thing_of (hr.mono (by decide)) rfl (pa_cons (pe_fld (pv 1) rfl) pa_nil)) pa_nil)) (pa_cons (pv 1) pa_nil)))))))))) (pss_cons (ps_fld (pv 0) (pe_lc rfl sc_finish.nd (pi_list (pe_fld (pv 0) rfl)) (blkOk_by (own:=[("effect",3)]) rfl) (fun _ _ _ _ _=>(pg_name (i:=3) sc_finish.nd rfl (Or.inl rfl))) (fun _ _ _ _ _=>(pts_one (pt_val (pe_methX (pv 0) q_Table_on_field (hr.mono (by decide)) (pa_cons (pe_fldK (K:=K) rfl (pv 3) rfl) pa_nil))))) (fun _ _ _ _ _=>(pv 3))) rfl) (pss_one (ps_fld (pv 0) pe_non rfl)))),?_⟩
 obtain ⟨dt,htb⟩:=S.rep.tbl
 obtain ⟨hrb,db,hbt⟩:=S.bat.bt
 have hset:=S.bat.set.1.2
 have hB:=hR.bok.settled
 walk_at "go"
 with_reducible refine rd_for ?_
 walk_at "go"
 refine forAt_of (SqL.of hset) (fun i σ H'=>∃ u1 u2:Option V,σ=[some (.ref t),u1,u2,none]∧Rep C ρ H' t lo (.ref b) (hapW W i)∧Bat C ρ H' b lb W bf∧Out ρ H ρ H') ⟨none,none,rfl,?_,S.bat,Kp.refl⟩ (fun i σ H' _ ⟨_,_,_,_,B,_⟩=>SqL.of B.set.1.2) ?_ ?_
 ·have R:=S.rep
  exact ⟨R.dom,R.tb,R.sd,R.th,R.ef,R.bk⟩
 ·rintro i x σ H1 hx ⟨u1,u2,rfl,R,B,o⟩
  obtain ⟨ea,hea,rfl⟩:∃ ea,lb.sa[i]?=some ea∧x=V.ref ea:=by
   unfold rfs at hx
   rw [List.getElem?_map] at hx
   cases q:lb.sa[i]? with
   | none=>rw [q] at hx;cases hx
   | some y=>rw [q] at hx;exact ⟨y,rfl,(Option.some.inj hx).symm⟩
  obtain ⟨v,hv,hrv,dv,lu,hev,hru,hus⟩:=ev_at B.set.2 hea
  have hvo:=hB v (List.mem_of_getElem? hv)
  obtain ⟨p1,p2,p3,p4⟩:=hapW_parts hB i
  obtain ⟨dt1,htb1⟩:=R.tbl
  have hbl:=R.bk.1.2
  have hsl:=R.sd.1.2
  have htl:=R.th.1.2
  obtain ⟨ab,y,dbk,hab,hy,hbk,rab⟩:=book_at R (n:=v.kind) (by rw [p4,hR.ok.bks];have:=hvo.kind;omega)
  have evi:EvOk (hapW W i) v:=hvo.of p1
  have ndn:noteDone (hapW W i) v.kind v.amount={ hapW W i with books:=(hapW W i).books.set v.kind { y with done:=y.done + v.amount } }:=by
   unfold noteDone Vbdcai.note
   rw [getD_at hy]
  have R2:=R.book (y:={ y with done:=y.done + v.amount }) (dx:=dbk) hab hy
  rw [← ndn] at R2
  have B2:=B.upd0 (a:=ab) (o:=.ins C.book dbk (bkFs { y with done:=y.done + v.amount })) (by rw [rab];show ¬ inBat 31;unfold inBat;decide)
  have o2:Out ρ H ρ (upd H1 ab (.ins C.book dbk (bkFs { y with done:=y.done + v.amount }))):=o.trans (Kp.upd (by rw [rab];simp))
  have hev2:upd H1 ab (.ins C.book dbk (bkFs { y with done:=y.done + v.amount })) ea=some (.ins C.event dv (evFs v lu)):=by
   rw [upd_ne (fun q=>by rw [q,rab] at hrv;cases hrv)];exact hev
  refine rd_g ?_
  walk_at "go"
  refine rd_ix hbl (rfs_at hab rfl) ?_
  walk_at "go"
  refine rd_put hbk (Nat.le_of_ble_eq_true rfl) (gs:=bkFs { y with done:=y.done + v.amount }) ?_ ?_
  ·rw [← Int.natCast_add]
   rfl
  generalize upd H1 ab (.ins C.book dbk (bkFs { y with done:=y.done + v.amount }))=H2 at *
  obtain ⟨dt2,htb2⟩:=R2.tbl
  have hsl2:=R2.sd.1.2
  have htl2:=R2.th.1.2
  walk_at "go"
  refine ⟨_,rfl,?_⟩
  walk_at "go"
  refine rd_iteB (fun hs=>?_) fun hs=>?_
  ·have hlt:v.target < 2:=by
    unfold isSideB at hs
    simp at hs
    omega
   have hh:=happens_side evi hlt
   rcases (show v.target=0∨v.target=1 by omega) with h0 | h0
   ·obtain ⟨r0,d0,hs0⟩:=R2.sd.2.1
    walk_at "go"
    refine rd_ix hsl2 (v:=.ref lo.s0) (by rw [h0];exact at0) ?_
    walk_at "go"
    refine ⟨_,_,_,_,_,_,v,rfl,hs0,hev2,?_⟩
    refine ⟨_,_,rfl,?_,B2.upd0 (by rw [r0];unfold inBat;decide),o2.trans (Kp.upd (by rw [r0];simp))⟩
    rw [hapW_next hv,hh,h0]
    exact R2.side0
   obtain ⟨r0,d0,hs0⟩:=R2.sd.2.2
   walk_at "go"
   refine rd_ix hsl2 (v:=.ref lo.s1) (by rw [h0];exact at1) ?_
   walk_at "go"
   refine ⟨_,_,_,_,_,_,v,rfl,hs0,hev2,?_⟩
   refine ⟨_,_,rfl,?_,B2.upd0 (by rw [r0];unfold inBat;decide),o2.trans (Kp.upd (by rw [r0];simp))⟩
   rw [hapW_next hv,hh,h0]
   exact R2.side1
  have hgt:10 < v.target∧v.target - 10≤(hapW W i).things.length:=by
   rcases okTarget_lt evi.tgt with q | q
   ·unfold isSideB at hs
    simp at hs
    omega
   exact ⟨q.1,q.2.1⟩
  obtain ⟨ath,x,dth,h1,h2,h3,rth⟩:=thing_at R2 (n:=v.target - 10 - 1) (by show v.target - 10 - 1 < (hapW W i).things.length;omega)
  have hh:=happens_thing evi hgt.1 (x:=x) h2
  walk_at "go"
  refine ⟨_,rfl,?_⟩
  walk_at "go"
  refine ⟨t,_,_,ρ,lo,_,_,ath,rfl,R2,h1,by omega,?_⟩
  walk_at "go"
  refine ⟨_,_,_,_,_,_,v,rfl,h3,hev2,(fun q=>(by rw [q,hrv] at rth;cases rth)),?_⟩
  refine ⟨_,_,rfl,?_,B2.upd0 (by rw [rth];show ¬ inBat 5;unfold inBat;decide),o2.trans (Kp.upd (by rw [rth];simp))⟩
  rw [hapW_next hv,hh]
  exact R2.thing h1 h2
 rintro σ H1 ⟨u1,u2,rfl,R,B,o⟩
 have el:(rfs lb.sa).length=W.settled.length:=by rw [rfs_len,ev_len S.bat.set.2]
 rw [el] at R
 obtain ⟨p1,p2,p3,p4⟩:=hapW_parts hB W.settled.length
 have eW:hapW W W.settled.length=W.settled.foldl Vbdcai.happens { W with settled:=[] }:=by unfold hapW;rw [List.take_length]
 obtain ⟨dt1,htb1⟩:=R.tbl
 have hl:=R.ef.1.2
 have hlen:=Paired.length R.ef.2
 walk_at "go"
 refine lc_filt (n:=3) (fun e=>onF (hapW W W.settled.length) e.source) hl (by show 3 < 4;decide) hlen (by rw [hlen,p2,sizeLine_eq];have:=hR.ok.len;omega) (fun i x e D l Bq hx he hD hB2=>?_) fun D hD=>?_
 ·obtain ⟨_,dx,lt,ls,ld,hef,_⟩:=paired_at R.ef.2 hx he
  have hef1:upd H1 D (.lst l) x=some (.ins C.effect dx (efFs e lt ls ld)):=by rw [upd_ne (ne_of_none hef hD)];exact hef
  have htb3:upd H1 D (.lst l) t=some (.ins C.table dt1 (tbFs lo.sL lo.tL lo.eL (hapW W W.settled.length).last lo.bL (.ref b))):=by rw [upd_ne (ne_of_none htb1 hD)];exact htb1
  have hem:e∈W.effects:=by rw [← p2];exact List.mem_of_getElem? he
  walk_at "go"
  refine ⟨t,e.source,ρ,lo,.ref b,hapW W W.settled.length,rfl,R.same (Same.upd_new hD),by rw [p1];exact (hR.ok.eff e hem).src,?_⟩
  exact rd_blV hB2
 have htb3:upd H1 D (.lst (rfs (pick (fun e=>onF (hapW W W.settled.length) e.source) lo.ea (hapW W W.settled.length).effects))) t=some (.ins C.table dt1 (tbFs lo.sL lo.tL lo.eL (hapW W W.settled.length).last lo.bL (.ref b))):=by rw [upd_ne (ne_of_none htb1 hD)];exact htb1
 have R3:=R.effs (dx:=dt1) hD (pick_paired (fun e=>onF (hapW W W.settled.length) e.source) R.ef.2)
 walk_at "go"
 have R4:=R3.batch (dx:=dt1) (bV':=.non)
 refine k _ _ _ (?_:Rep C (upR ρ D (14,0)) _ t { lo with eL:=D,ea:=pick (fun e=>onF (hapW W W.settled.length) e.source) lo.ea (hapW W W.settled.length).effects } .non (Vbdcai.finish W)) ?_
 ·have ef:Vbdcai.finish W={ hapW W W.settled.length with effects:=(hapW W W.settled.length).effects.filter fun e=>onF (hapW W W.settled.length) e.source }:=by
   unfold Vbdcai.finish
   rw [eW]
   rfl
  rw [ef]
  exact R4
 refine o.trans ((Kp.adopt hD).trans ((Kp.upd ?_).trans (Kp.upd ?_)))
 ·rw [upR_ne (ne_of_none htb1 hD),R.tb.1];simp
 rw [upR_ne (ne_of_none htb1 hD),R.tb.1];simp)) only [↓zh1]
theorem offA_ne {W:Du.W} {ea:List Addr} {v:Ev} {r:List Ev} {F:Addr→Ef→Prop} (h:Paired F ea W.effects) (hl:look1 W=none) (ht:W.todo=v :: r) (hW:WOk W) (hB:BOk W):(offA W ea v).length≠0:=by
 obtain ⟨v',r',ht',_,e,l,ho,_⟩:=Asks.head (w:=W) ⟨hW,hB,hl,by rw [ht];exact List.cons_ne_nil _ _⟩
 rw [ht] at ht'
 cases ht'
 have hp:=Paired.length (offA_paired (v:=v) h)
 rw [ho] at hp
 rw [hp]
 simp
def Ended (C:Cl) (t b:Addr) (bf Y:Du.W) (ρ:Rho) (H:Hp) (Q:VK):Prop :=
 (∀ ρ' H' lo',Y.todo=[]→Rep C ρ' H' t lo' .non Y→Out ρ H ρ' H'→Q .non H') ∧
 (∀ ρ' H' lo' lb' v r,Y.todo=v :: r→SB C ρ' H' t lo' b lb' Y bf→lb'.oa=offA Y lo'.ea v→Out ρ H ρ' H'→Q .non H')
def sp_go_on (K:PySem.W.Frag) (C:Cl):Sp:=fun vs H Q _=>∃ (t b:Addr) (ρ:Rho) (lo:Lo) (lb:Lb) (W bf:Du.W),vs=[.ref t]∧SB C ρ H t lo b lb W bf∧RunOk W∧mu W < Vbdcai.ENOUGH∧Ended C t b bf (Vbdcai.goOn Vbdcai.ENOUGH W) ρ H Q
structure GoInv (C:Cl) (t b:Addr) (bf Y:Du.W) (ρ0:Rho) (H0:Hp) (m:Nat) (H:Hp) (ρ:Rho) (lo:Lo) (lb:Lb) (W:Du.W):Prop where
 sb:SB C ρ H t lo b lb W bf
 run:RunOk W
 same:∀ n,mu W < n→Vbdcai.goOn n W=Y
 out:Out ρ0 H0 ρ H
 off:(lb.oa=[]∧m=mu W + 1)∨(∃ v r,look1 W=none∧W.todo=v :: r∧lb.oa=offA W lo.ea v∧m=0)
theorem ok_go_on (T:Tx K C) (F:Fun K "go_on" "go_on" s_go_on f fd) (b_len:mg "len"=none) (k_look_at_first:Kn P w K mg base "look_at_first" 6 (sp_look_at_first K C)) (k_finish:Kn P w K mg base "finish" 3 (sp_finish K C)) :FnOk P w K mg base CX0 7 f fd ["table"] (sp_go_on K C):=by
 refine zh0 ?_;simp (disch:=k_dflt (
 refine F.ok sc_go_on (by walk_at "ln") (fun cdv A outer s H vs Q E hr h=>?_)
 obtain ⟨t,b,ρ,lo,lb,W,bf,rfl,S,hR,hmu,k⟩:=h
 refine ⟨_,(pss_cons (ps_set (i:=1) sc_go_on.nd rfl (Or.inl rfl) (pe_fld (pv 0) rfl)) (pss_cons (ps_fld (pv 1) (pe_lst pa_nil) rfl) (pss_cons (ps_while PassesOwn.never (PW.pt (pw_and (pt_cmpR op_gt (pe_callB call_len_seq rfl b_len PySem.boot_len (pa_cons (pe_fld (pv 1) rfl) pa_nil)) pe_int (nomark _)) (pw_and1 (pt_cmpR op_eq (pe_callB call_len_seq rfl b_len PySem.boot_len (pa_cons (pe_fld (pv 1) rfl) pa_nil)) pe_int (nomark _))))) (pss_one (ps_expr (pe_callX k_look_at_first (hr.mono (by decide)) rfl (pa_cons (pv 0) (pa_cons (pv 1) pa_nil)))))) (pss_one (ps_if (pt_cmpR op_eq (pe_callB call_len_seq rfl b_len PySem.boot_len (pa_cons (pe_fld (pv 1) rfl) pa_nil)) pe_int (nomark _)) (pss_one (ps_expr (pe_callX k_finish (hr.mono (by decide)) rfl (pa_cons (pv 0) pa_nil)))) pss_nil))))),?_⟩
 obtain ⟨dt,htb⟩:=S.rep.tbl
 obtain ⟨hrb,db,hbt⟩:=S.bat.bt
 walk_at "go"
 refine ⟨Nat.zero_le _,fun l hl=>?_⟩
 have hbt1:upd H l (.lst []) b=some (.ins C.batch db (btFs lb.rL lb.sL lb.oL lb.ebL lb.bbL)):=by rw [upd_ne (ne_of_none hbt hl)];exact hbt
 have s1:Same H (upd H l (.lst [])):=Same.upd_new hl
 have S1:SB C ρ (upd H l (.lst [])) t lo b lb W bf:=⟨S.rep.same s1,S.bat.same s1⟩
 have hl1:upd H l (.lst []) l=some (.lst (rfs [])):=upd_same
 have hrl:ρ l=(0,0):=S.rep.dom l hl
 have S2:SB C (upR ρ l (9,0)) (upd (upd H l (.lst [])) b (.ins C.batch db (btFs lb.rL lb.sL l lb.ebL lb.bbL))) t lo b { lb with oL:=l,oa:=[] } W bf:=⟨S1.rep.offer hrl hl1 hrb,S1.bat.offer hrl hl1⟩
 have o2:Out ρ H (upR ρ l (9,0)) (upd (upd H l (.lst [])) b (.ins C.batch db (btFs lb.rL lb.sL l lb.ebL lb.bbL))):=fun c u hc hcu=>by
  have ncl:c≠l:=fun q=>by rw [q,hl] at hcu;cases hcu
  exact ⟨upR_ne ncl,by rw [upd_ne (fun q=>by rw [q,hrb] at hc;cases hc)];exact s1 _ _ hcu⟩
 walk_at "go"
 refine ⟨fun m σ H'=>σ=[some (.ref t),some (.ref b)]∧∃ ρ' lo' lb' W',GoInv C t b bf (Vbdcai.goOn Vbdcai.ENOUGH W) ρ H m H' ρ' lo' lb' W',⟨_,rfl,_,lo,{ lb with oL:=l,oa:=[] },W,S2,hR,fun n hn=>goOn_fuel _ _ hR.ok hR.bok hn hmu,o2,.inl ⟨rfl,rfl⟩⟩,?_⟩
 rintro m σ H' ⟨rfl,ρ',lo',lb',W',G⟩
 obtain ⟨hrb',db',hbt'⟩:=G.sb.bat.bt
 have hrow:=G.sb.bat.row.1.2
 have hoff:=G.sb.bat.off.2
 have hrl':=ev_len G.sb.bat.row.2
 have fin:lb'.oa≠[]→(∃ v r,look1 W'=none∧W'.todo=v :: r∧lb'.oa=offA W' lo'.ea v∧m=0):=fun hne=>by
  rcases G.off with q | q
  ·exact absurd q.1 hne
  exact q
 walk_at "go"
 have hoal:((rfs lb'.oa).length:Int)=0↔lb'.oa=[]:=by
  rw [rfs_len]
  constructor
  ·intro q
   exact List.length_eq_zero_iff.mp (by omega)
  intro q
  rw [q]
  rfl
 refine rd_ite (fun h0=>?_) fun h0=>?_
 ·have hne:W'.todo≠[]:=fun q=>by
   rw [rfs_len,hrl',q] at h0
   simp at h0
  walk_at "go"
  refine rd_ite (fun h1=>?_) fun h1=>?_
  ·have hoa:=hoal.mp h1
   have hm:m=mu W' + 1:=by
    rcases G.off with q | ⟨v,r,q1,q2,q3,_⟩
    ·exact q.2
    rw [hoa] at q3
    exact absurd (by rw [← q3];rfl) (offA_ne G.sb.rep.ef.2 q1 q2 G.run.ok G.run.bok)
   refine ⟨fun σ' H''=>∃ m',m' < m∧σ'=[some (.ref t),some (.ref b)]∧∃ ρ'' lo'' lb'' W'',GoInv C t b bf (Vbdcai.goOn Vbdcai.ENOUGH W) ρ H m' H'' ρ'' lo'' lb'' W'',fun σ' H'' ⟨m',hm',e,q⟩=>⟨m',hm',e,q⟩,?_⟩
   walk_at "go"
   refine ⟨t,b,ρ',lo',lb',W',bf,rfl,G.sb,G.run,hne,hoa,?_,?_⟩
   ·intro W2 ρ2 H2 lo2 lb2 hlk S2 hoa2 o2
    obtain ⟨W2ok,B2ok,hlt⟩:=look_ok G.run.ok G.run.bok hlk
    refine ⟨mu W2 + 1,by omega,rfl,ρ2,lo2,lb2,W2,S2,⟨W2ok,B2ok⟩,fun n hn=>?_,G.out.trans o2,.inl ⟨hoa2,rfl⟩⟩
    by_cases q:mu W' < n + 1
    ·have:=G.same (n + 1) q
     rw [goOn_step n hlk] at this
     exact this
    have:=G.same (mu W' + 1) (by omega)
    rw [goOn_step (mu W') hlk] at this
    rw [goOn_fuel n (mu W') W2ok B2ok hn (by omega)]
    exact this
   intro v r ρ2 H2 lo2 lb2 hlk ht S2 hoa2 o2
   exact ⟨0,by omega,rfl,ρ2,lo2,lb2,W',S2,G.run,G.same,G.out.trans o2,.inr ⟨v,r,hlk,ht,hoa2,rfl⟩⟩
  obtain ⟨v,r,q1,q2,q3,_⟩:=fin fun q=>h1 (hoal.mpr q)
  have hY:Vbdcai.goOn Vbdcai.ENOUGH W=W':=by
   rw [← G.same (mu W' + 1) (by omega)]
   exact goOn_ask _ q1 hne
  walk_at "go"
  refine rd_ite (fun h2=>absurd h2 h1) fun _=>?_
  walk_at "go"
  rw [hY] at k
  exact k.2 ρ' H' lo' lb' v r q2 G.sb q3 G.out
 have hem:W'.todo=[]:=by
  cases q:W'.todo with
  | nil=>rfl
  | cons v r =>
   rw [rfs_len,hrl',q,List.length_cons] at h0
   omega
 have hoa:lb'.oa=[]:=by
  rcases G.off with q | ⟨v,r,_,q2,_⟩
  ·exact q.1
  rw [hem] at q2;cases q2
 have hY:Vbdcai.goOn Vbdcai.ENOUGH W=Vbdcai.finish W':=by
  rw [← G.same (mu W' + 1) (by omega)]
  exact goOn_end _ hem
 rw [hY] at k
 walk_at "go"
 refine rd_ite (fun _=>?_) fun h2=>absurd (hoal.mpr hoa) h2
 walk_at "go"
 exact ⟨t,b,ρ',lo',lb',W',bf,rfl,G.sb,G.run,hem,fun ρ2 H2 lo2 R2 o2=>k.1 ρ2 H2 lo2 (finish_ok G.run.ok G.run.bok hem).2.1 R2 (G.out.trans o2)⟩)) only [↓zh1]
structure AskSt (C:Cl) (ρ:Rho) (H:Hp) (t:Addr) (lo:Lo) (b:Addr) (lb:Lb) (W bf:Du.W) (v:Ev) (r:List Ev):Prop where
 sb:SB C ρ H t lo b lb W bf
 asks:Asks W
 todo:W.todo=v :: r
 off:lb.oa=offA W lo.ea v
theorem Ended.from {t b:Addr} {bf Y:Du.W} {ρ ρ1:Rho} {H H1:Hp} {Q:VK} (k:Ended C t b bf Y ρ H Q) (o:Out ρ H ρ1 H1):Ended C t b bf Y ρ1 H1 Q :=
 ⟨fun ρ' H' lo' h R o'=>k.1 ρ' H' lo' h R (o.trans o'),fun ρ' H' lo' lb' v r h S e o'=>k.2 ρ' H' lo' lb' v r h S e (o.trans o')⟩
def sp_asked_side (K:PySem.W.Frag) (C:Cl):Sp:=fun vs H Q _=>∃ (t b:Addr) (ρ:Rho) (lo:Lo) (lb:Lb) (W bf:Du.W) (v:Ev) (r:List Ev),vs=[.ref t]∧SB C ρ H t lo b lb W bf∧W.todo=v :: r∧EvOk W v∧Q (iv (Vbdcai.sideOf (Vbdcai.ctrl W) v.target)) H
theorem ok_asked_side (T:Tx K C) (F:Fun K "asked_side" "asked_side" s_asked_side f fd) (q_Table_befallen_side:KnM P w K mg base C.table "befallen_side" 2 (sp_Table_befallen_side K C)) :FnOk P w K mg base CX0 3 f fd ["table"] (sp_asked_side K C):=by
 refine zh0 ?_;simp (disch:=k_dflt (
 refine F.ok sc_asked_side (by walk_at "ln") (fun cdv A outer s H vs Q E hr h=>?_)
 obtain ⟨t,b,ρ,lo,lb,W,bf,v,r,rfl,S,ht,hv,k⟩:=h
 refine ⟨_,(pss_one (ps_ret (pe_methX (pv 0) q_Table_befallen_side (hr.mono (by decide)) (pa_cons (pe_fld (pe_ix ix_list (pe_fld (pe_fld (pv 0) rfl) rfl) pe_int (fun _ _=>rfl)) rfl) pa_nil)))),?_⟩
 obtain ⟨dt,htb⟩:=S.rep.tbl
 obtain ⟨hrb,db,hbt⟩:=S.bat.bt
 obtain ⟨av,ra,hra,hrv,dv,lu,hev,hru,hus⟩:=S.bat.first ht
 have hrow:=S.bat.row.1.2
 rw [hra] at hrow
 walk_at "go"
 refine rd_ix hrow at0 ?_
 walk_at "go"
 refine ⟨t,v.target,ρ,lo,.ref b,W,rfl,S.rep,?_,k⟩
 rcases okTarget_lt hv.tgt with q | q
 ·exact .inl q.1
 exact .inr ⟨q.1,q.2.1⟩)) only [↓zh1]
def sp_choose (K:PySem.W.Frag) (C:Cl):Sp:=fun vs H Q _=>∃ (t ae b:Addr) (ρ:Rho) (lo:Lo) (lb:Lb) (W bf:Du.W) (v:Ev) (r:List Ev) (e:Ef),vs=[.ref t,.ref ae]∧AskSt C ρ H t lo b lb W bf v r∧PairIn ae e lo.ea W.effects∧e∈Vbdcai.offered (Vbdcai.ctrl W) W.effects v∧Ended C t b bf (Vbdcai.choose W e) ρ H Q
theorem ok_choose (T:Tx K C) (F:Fun K "choose" "choose" s_choose f fd) (k_use:Kn P w K mg base "use" 5 (sp_use K C)) (k_go_on:Kn P w K mg base "go_on" 7 (sp_go_on K C)) :FnOk P w K mg base CX0 8 f fd ["table","effect"] (sp_choose K C):=by
 refine zh0 ?_;simp (disch:=k_dflt (
 refine F.ok sc_choose (by walk_at "ln") (fun cdv A outer s H vs Q E hr h=>?_)
 obtain ⟨t,ae,b,ρ,lo,lb,W,bf,v,r,e,rfl,S,hp,he,k⟩:=h
 refine ⟨_,(pss_cons (ps_expr (pe_callX k_use (hr.mono (by decide)) rfl (pa_cons (pv 0) (pa_cons (pv 1) pa_nil)))) (pss_one (ps_expr (pe_callX k_go_on (hr.mono (by decide)) rfl (pa_cons (pv 0) pa_nil))))),?_⟩
 obtain ⟨⟨W1,B1,hmu⟩,_⟩:=choose_ends S.asks S.todo he
 have hc:Vbdcai.choose W e=Vbdcai.goOn Vbdcai.ENOUGH (Vbdcai.useOn W e v r):=by unfold Vbdcai.choose;rw [S.todo]
 rw [hc] at k
 walk_at "go"
 refine ⟨t,ae,ρ,lo,b,lb,W,bf,e,v,r,rfl,S.sb,S.todo,hp,S.asks.ok,S.asks.bok,fun ρ1 H1 lo1 lb1 S1 _ o1=>?_⟩
 walk_at "go"
 exact ⟨t,b,ρ1,lo1,lb1,_,bf,rfl,S1,⟨W1,B1⟩,hmu,k.from o1⟩)) only [↓zh1]
def sp_decline (K:PySem.W.Frag) (C:Cl):Sp:=fun vs H Q _=>∃ (t ae b:Addr) (ρ:Rho) (lo:Lo) (lb:Lb) (W bf:Du.W) (v:Ev) (r:List Ev) (e:Ef),vs=[.ref t,.ref ae]∧AskSt C ρ H t lo b lb W bf v r∧PairIn ae e lo.ea W.effects∧e∈Vbdcai.offered (Vbdcai.ctrl W) W.effects v∧Ended C t b bf (Vbdcai.decline W e) ρ H Q
theorem ok_decline (T:Tx K C) (F:Fun K "decline" "decline" s_decline f fd) (q_Event_mark:KnM P w K mg base C.event "mark" 1 (sp_Event_mark K C)) (k_go_on:Kn P w K mg base "go_on" 7 (sp_go_on K C)) :FnOk P w K mg base CX0 8 f fd ["table","effect"] (sp_decline K C):=by
 refine zh0 ?_;simp (disch:=k_dflt (
 refine F.ok sc_decline (by walk_at "ln") (fun cdv A outer s H vs Q E hr h=>?_)
 obtain ⟨t,ae,b,ρ,lo,lb,W,bf,v,r,e,rfl,S,hp,he,k⟩:=h
 refine ⟨_,(pss_cons (ps_expr (pe_methX (pe_ix ix_list (pe_fld (pe_fld (pv 0) rfl) rfl) pe_int (fun _ _=>rfl)) q_Event_mark (hr.mono (by decide)) (pa_cons (pe_fld (pv 1) rfl) pa_nil))) (pss_one (ps_expr (pe_callX k_go_on (hr.mono (by decide)) rfl (pa_cons (pv 0) pa_nil))))),?_⟩
 obtain ⟨hc,hmu,_⟩:=decl_ends S.asks S.todo he
 obtain ⟨W1,B1,_⟩:=decl_ok S.asks S.todo he
 rw [hc] at k
 obtain ⟨i,h1,h2⟩:=hp
 obtain ⟨hr0,dx,lt,ls,ld,hef,_⟩:=paired_at S.sb.rep.ef.2 h1 h2
 obtain ⟨dt,htb⟩:=S.sb.rep.tbl
 obtain ⟨hrb,db,hbt⟩:=S.sb.bat.bt
 obtain ⟨av,ra,hra,hrv,dv,lu,hev,hru,hus⟩:=S.sb.bat.first S.todo
 have hrow:=S.sb.bat.row.1.2
 rw [hra] at hrow
 obtain ⟨_,uv⟩:=S.asks.bok.todo v (by rw [S.todo];exact List.mem_cons_self)
 walk_at "go"
 refine rd_ix hrow at0 ?_
 walk_at "go"
 refine ⟨av,dv,lu,v,e.id,rfl,hev,hus,by unfold UOk at uv;omega,fun l1 l2 hl1 hl2 ne=>?_⟩
 obtain ⟨S1,o1,_⟩:=S.sb.mark (i:=e.id) hra S.todo hev hrv hl1 hl2 ne
 walk_at "go"
 exact ⟨t,b,_,lo,lb,_,bf,rfl,S1,⟨W1,B1⟩,hmu,k.from o1⟩)) only [↓zh1]
def sp_take_back (K:PySem.W.Frag) (C:Cl):Sp:=fun vs H Q _=>∃ (t b:Addr) (ρ:Rho) (lo:Lo) (lb:Lb) (W bf:Du.W),vs=[.ref t]∧SB C ρ H t lo b lb W bf∧Like bf W∧∀ ρ' H' lo',Rep C ρ' H' t lo' .non bf→Out ρ H ρ' H'→Q .non H'
theorem ok_take_back (T:Tx K C) (F:Fun K "take_back" "take_back" s_take_back f fd)  :FnOk P w K mg base CX0 1 f fd ["table"] (sp_take_back K C):=by
 refine zh0 ?_;simp (disch:=k_dflt (
 refine F.ok sc_take_back (by walk_at "ln") (fun cdv A outer s H vs Q E hr h=>?_)
 obtain ⟨t,b,ρ,lo,lb,W,bf,rfl,S,hL,k⟩:=h
 refine ⟨_,(pss_cons (ps_fld (pv 0) (pe_fld (pe_fld (pv 0) rfl) rfl) rfl) (pss_cons (ps_fld (pv 0) (pe_fld (pe_fld (pv 0) rfl) rfl) rfl) (pss_one (ps_fld (pv 0) pe_non rfl)))),?_⟩
 obtain ⟨dt,htb⟩:=S.rep.tbl
 obtain ⟨hrb,db,hbt⟩:=S.bat.bt
 have nbt:b≠t:=fun q=>by rw [q,S.rep.tb.1] at hrb;cases hrb
 have hbt1:∀ o,upd H t o b=some (.ins C.batch db (btFs lb.rL lb.sL lb.oL lb.ebL lb.bbL)):=fun o=>by rw [upd_ne nbt];exact hbt
 walk_at "go"
 have hbt2:=hbt1 (.ins C.table dt (putF "effects" (.ref lb.ebL) (tbFs lo.sL lo.tL lo.eL W.last lo.bL (.ref b))))
 walk_at "go"
 simp only [upd_upd]
 refine k _ _ _ (S.rep.back (dx:=dt) S.bat hL.sides.symm hL.things.symm hL.last.symm) ?_
 exact (back_keep fun n h=>by omega).trans (Kp.upd (by rw [backR_of (m:=1) S.rep.tb.1 rfl];simp)))) only [↓zh1]
theorem AskSt.pair0 {ρ:Rho} {H:Hp} {t:Addr} {lo:Lo} {b:Addr} {lb:Lb} {W bf:Du.W} {v:Ev} {r:List Ev} (S:AskSt C ρ H t lo b lb W bf v r):∃ ae e l as,Vbdcai.offered (Vbdcai.ctrl W) W.effects v=e :: l∧lb.oa=ae :: as∧PairIn ae e lo.ea W.effects:=by
 refine zh0 ?_;simp (disch:=k_dflt (
 refine zh2 ?_
 obtain ⟨v',r',ht',_,e,l,ho,_⟩:=S.asks.head
 rw [S.todo] at ht'
 cases ht'
 have hp:=Paired.length (offA_paired (v:=v) S.sb.rep.ef.2)
 rw [ho] at hp
 cases q:offA W lo.ea v with
 | nil=>rw [q] at hp;cases hp
 | cons ae as=>exact ⟨ae,e,l,as,ho,by rw [S.off,q],offA_mem (i:=0) S.sb.rep.ef.2 (v:=v) (by rw [q];rfl) (by rw [ho];rfl)⟩)) only [↓zh1]
def sp_choose_to_the_end (K:PySem.W.Frag) (C:Cl):Sp:=fun vs H Q _=>∃ (t b:Addr) (ρ:Rho) (lo:Lo) (lb:Lb) (W bf:Du.W) (v:Ev) (r:List Ev),vs=[.ref t]∧AskSt C ρ H t lo b lb W bf v r∧∀ ρ' H' lo',Rep C ρ' H' t lo' .non (Vbdcai.rest Vbdcai.ENOUGH W)→Out ρ H ρ' H'→Q .non H'
theorem ok_choose_to_the_end (T:Tx K C) (F:Fun K "choose_to_the_end" "choose_to_the_end" s_choose_to_the_end f fd) (k_choose:Kn P w K mg base "choose" 8 (sp_choose K C)) :FnOk P w K mg base CX0 9 f fd ["table"] (sp_choose_to_the_end K C):=by
 refine zh0 ?_;simp (disch:=k_dflt (
 refine F.ok sc_choose_to_the_end (by walk_at "ln") (fun cdv A outer s H vs Q E hr h=>?_)
 obtain ⟨t,b,ρ,lo,lb,W,bf,v,r,rfl,S,k⟩:=h
 refine ⟨_,(pss_one (ps_while PassesOwn.never (pt_cmpR op_notN (pe_fld (pv 0) rfl) pe_non (nomark _)) (pss_one (ps_expr (pe_callX k_choose (hr.mono (by decide)) rfl (pa_cons (pv 0) (pa_cons (pe_ix ix_list (pe_fld (pe_fld (pv 0) rfl) rfl) pe_int (fun _ _=>rfl)) pa_nil))))))),?_⟩
 have hE:mu W≤Vbdcai.ENOUGH:=by have:=S.asks.bok.room;unfold Vbdcai.ENOUGH;omega
 refine ⟨fun m σ H'=>σ=[some (.ref t)]∧∃ ρ',Out ρ H ρ' H'∧((m=0∧∃ lo',Rep C ρ' H' t lo' .non (Vbdcai.rest Vbdcai.ENOUGH W))∨(∃ lo' lb' W' v' r',AskSt C ρ' H' t lo' b lb' W' bf v' r'∧m=mu W'∧Vbdcai.rest (mu W') W'=Vbdcai.rest Vbdcai.ENOUGH W)),
  ⟨_,rfl,ρ,Kp.refl,.inr ⟨lo,lb,W,v,r,S,rfl,(rest_fuel _ _ (.inr S.asks) (Nat.le_refl _) hE).1⟩⟩,?_⟩
 rintro m σ H' ⟨rfl,ρ',o,h⟩
 rcases h with ⟨rfl,lo',R⟩ | ⟨lo',lb',W',v',r',S',rfl,hr⟩
 ·obtain ⟨dt,htb⟩:=R.tbl
  walk_at "go"
  refine ⟨rfl,rd_blV ?_⟩
  exact rd_iteF (k ρ' H' lo' R o)
 obtain ⟨dt,htb⟩:=S'.sb.rep.tbl
 obtain ⟨hrb,db,hbt⟩:=S'.sb.bat.bt
 obtain ⟨ae,e,l,as,ho,hoa,hp⟩:=S'.pair0
 have hoff:=S'.sb.bat.off.2
 rw [hoa] at hoff
 have he:e∈Vbdcai.offered (Vbdcai.ctrl W') W'.effects v':=by rw [ho];exact List.mem_cons_self
 obtain ⟨_,hends⟩:=choose_ends S'.asks S'.todo he
 have hpos:=mu_pos S'.asks.todo
 walk_at "go"
 refine ⟨rfl,rd_blV ?_⟩
 refine rd_iteT ⟨fun σ' H''=>∃ m',m' < mu W'∧σ'=[some (.ref t)]∧∃ ρ',Out ρ H ρ' H''∧((m'=0∧∃ lo',Rep C ρ' H'' t lo' .non (Vbdcai.rest Vbdcai.ENOUGH W))∨(∃ lo' lb' W' v' r',AskSt C ρ' H'' t lo' b lb' W' bf v' r'∧m'=mu W'∧Vbdcai.rest (mu W') W'=Vbdcai.rest Vbdcai.ENOUGH W)),
  fun σ' H'' ⟨m',hm',e',q⟩=>⟨m',hm',e',q⟩,?_⟩
 walk_at "go"
 refine rd_ix hoff at0 ?_
 walk_at "go"
 refine ⟨t,ae,b,ρ',lo',lb',W',bf,v',r',e,rfl,S',hp,he,?_,?_⟩
 ·intro ρ2 H2 lo2 ht2 R2 o2
  refine ⟨0,hpos,rfl,ρ2,o.trans o2,.inl ⟨rfl,lo2,?_⟩⟩
  have e1:Vbdcai.rest (mu W') W'=Vbdcai.choose W' e:=by
   obtain ⟨n,hn⟩:∃ n,mu W'=n + 1:=⟨mu W' - 1,by omega⟩
   rw [hn,rest_succ n S'.asks S'.todo ho,rest_done n ht2]
  rw [← hr,e1]
  exact R2
 intro ρ2 H2 lo2 lb2 v2 r2 ht2 S2 hoa2 o2
 rcases hends with q | ⟨q,hlt,_⟩
 ·have:=q.todo
  rw [ht2] at this
  cases this
 refine ⟨mu (Vbdcai.choose W' e),hlt,rfl,ρ2,o.trans o2,.inr ⟨lo2,lb2,_,v2,r2,⟨S2,q,ht2,hoa2⟩,rfl,?_⟩⟩
 obtain ⟨n,hn⟩:∃ n,mu W'=n + 1:=⟨mu W' - 1,by omega⟩
 rw [← hr,hn,rest_succ n S'.asks S'.todo ho]
 exact (rest_fuel _ _ (.inr q) (Nat.le_refl _) (by omega)).1)) only [↓zh1]
def NewRow (H:Hp) (r:List Int) (Q:VK):Prop:=∀ H' l,Same H H'→H l=none→H' l=some (.lst (ivs r))→Q (.ref l) H'
theorem NewRow.one {H:Hp} {r:List Int} {Q:VK} (k:NewRow H r Q) {l:Addr} (h:H l=none):Q (.ref l) (upd H l (.lst (ivs r))):=k _ l (Same.upd_new h) h upd_same
theorem Same.free {H H':Hp} (s:Same H H') {l:Addr} (h:H' l=none):H l=none:=by
 cases q:H l with
 | none=>rfl
 | some o=>rw [s _ _ q] at h;cases h
theorem ivs_len (l:List Int):(ivs l).length=l.length:=by unfold ivs;rw [List.length_map]
theorem castL_len (l:List Nat):(castL l).length=l.length:=by unfold castL;rw [List.length_map]
theorem ivs_app (a b:List Int):ivs a++ivs b=ivs (a++b):=by unfold ivs;rw [List.map_append]
def sdRow (s:Sd):List Int:=[s.life,s.cards,s.tokens]
def thRow (x:Th):List Int:=castL [x.ctrl,x.place,x.damage,x.plus]
def bkRow (b:Bk):List Int:=castL [b.told,b.made,b.added,b.cut,b.turned,b.done]
def evRow (v:Ev):List Int:=castL [v.kind,v.source,v.target,v.amount,v.place]
def efRow (e:Ef):List Int:=castL ([e.id,e.side,e.source,e.kind,e.uses]++Vbdcai.actNumbers e.act)
def sp_Side_as_row (K:PySem.W.Frag) (C:Cl):Sp:=fun vs H Q _=>∃ (a dx:Addr) (s:Sd),vs=[.ref a]∧H a=some (.ins C.side dx (sdFs s))∧NewRow H (sdRow s) Q
theorem ok_Side_as_row (T:Tx K C) (F:Fun K "as_row" "Side.as_row" s_Side_as_row f fd)  :FnOk P w K mg base CX0 1 f fd ["self"] (sp_Side_as_row K C):=by
 refine zh0 ?_;simp (disch:=k_dflt (
 refine F.ok sc_Side_as_row (by walk_at "ln") (fun cdv A outer s H vs Q E hr h=>?_)
 obtain ⟨a,dx,x,rfl,ha,k⟩:=h
 refine ⟨_,(pss_one (ps_ret (pe_lst (pa_cons (pe_fld (pv 0) rfl) (pa_cons (pe_fld (pv 0) rfl) (pa_cons (pe_fld (pv 0) rfl) pa_nil)))))),?_⟩
 walk_at "go2"
 exact ⟨by show 3≤sizeLine;decide,fun l hl=>k.one hl⟩)) only [↓zh1]
def sp_Thing_as_row (K:PySem.W.Frag) (C:Cl):Sp:=fun vs H Q _=>∃ (a dx:Addr) (s:Th),vs=[.ref a]∧H a=some (.ins C.thing dx (thFs s))∧NewRow H (thRow s) Q
theorem ok_Thing_as_row (T:Tx K C) (F:Fun K "as_row" "Thing.as_row" s_Thing_as_row f fd)  :FnOk P w K mg base CX0 1 f fd ["self"] (sp_Thing_as_row K C):=by
 refine zh0 ?_;simp (disch:=k_dflt (
 refine F.ok sc_Thing_as_row (by walk_at "ln") (fun cdv A outer s H vs Q E hr h=>?_)
 obtain ⟨a,dx,x,rfl,ha,k⟩:=h
 refine ⟨_,(pss_one (ps_ret (pe_lst (pa_cons (pe_fld (pv 0) rfl) (pa_cons (pe_fld (pv 0) rfl) (pa_cons (pe_fld (pv 0) rfl) (pa_cons (pe_fld (pv 0) rfl) pa_nil))))))),?_⟩
 walk_at "go2"
 exact ⟨by show 4≤sizeLine;decide,fun l hl=>k.one hl⟩)) only [↓zh1]
def sp_Book_as_row (K:PySem.W.Frag) (C:Cl):Sp:=fun vs H Q _=>∃ (a dx:Addr) (s:Bk),vs=[.ref a]∧H a=some (.ins C.book dx (bkFs s))∧NewRow H (bkRow s) Q
theorem ok_Book_as_row (T:Tx K C) (F:Fun K "as_row" "Book.as_row" s_Book_as_row f fd)  :FnOk P w K mg base CX0 1 f fd ["self"] (sp_Book_as_row K C):=by
 refine zh0 ?_;simp (disch:=k_dflt (
 refine F.ok sc_Book_as_row (by walk_at "ln") (fun cdv A outer s H vs Q E hr h=>?_)
 obtain ⟨a,dx,x,rfl,ha,k⟩:=h
 refine ⟨_,(pss_one (ps_ret (pe_lst (pa_cons (pe_fld (pv 0) rfl) (pa_cons (pe_fld (pv 0) rfl) (pa_cons (pe_fld (pv 0) rfl) (pa_cons (pe_fld (pv 0) rfl) (pa_cons (pe_fld (pv 0) rfl) (pa_cons (pe_fld (pv 0) rfl) pa_nil))))))))),?_⟩
 walk_at "go2"
 exact ⟨by show 6≤sizeLine;decide,fun l hl=>k.one hl⟩)) only [↓zh1]
def sp_Event_as_row (K:PySem.W.Frag) (C:Cl):Sp:=fun vs H Q _=>∃ (a dx lu:Addr) (s:Ev),vs=[.ref a]∧H a=some (.ins C.event dx (evFs s lu))∧NewRow H (evRow s) Q
theorem ok_Event_as_row (T:Tx K C) (F:Fun K "as_row" "Event.as_row" s_Event_as_row f fd)  :FnOk P w K mg base CX0 1 f fd ["self"] (sp_Event_as_row K C):=by
 refine zh0 ?_;simp (disch:=k_dflt (
 refine F.ok sc_Event_as_row (by walk_at "ln") (fun cdv A outer s H vs Q E hr h=>?_)
 obtain ⟨a,dx,lu,x,rfl,ha,k⟩:=h
 refine ⟨_,(pss_one (ps_ret (pe_lst (pa_cons (pe_fld (pv 0) rfl) (pa_cons (pe_fld (pv 0) rfl) (pa_cons (pe_fld (pv 0) rfl) (pa_cons (pe_fld (pv 0) rfl) (pa_cons (pe_fld (pv 0) rfl) pa_nil)))))))),?_⟩
 walk_at "go2"
 exact ⟨by show 5≤sizeLine;decide,fun l hl=>k.one hl⟩)) only [↓zh1]
theorem act_two (a:Vbdcai.Act):cutV (ivs (actRow a)) none (some 2)=ivs (castL (Vbdcai.actNumbers a)):=by cases a <;> rfl
def sp_Effect_as_row (K:PySem.W.Frag) (C:Cl):Sp:=fun vs H Q _=>∃ (a dx lt ls ld:Addr) (e:Ef),vs=[.ref a]∧H a=some (.ins C.effect dx (efFs e lt ls ld))∧H ld=some (.lst (ivs (actRow e.act)))∧NewRow H (efRow e) Q
theorem ok_Effect_as_row (T:Tx K C) (F:Fun K "as_row" "Effect.as_row" s_Effect_as_row f fd)  :FnOk P w K mg base CX0 1 f fd ["self"] (sp_Effect_as_row K C):=by
 refine zh0 ?_;simp (disch:=k_dflt (
 refine F.ok sc_Effect_as_row (by walk_at "ln") (fun cdv A outer s H vs Q E hr h=>?_)
 obtain ⟨a,dx,lt,ls,ld,e,rfl,ha,hd,k⟩:=h
 refine ⟨_,(pss_one (ps_ret (pe_op op_cat (pe_lst (pa_cons (pe_fld (pv 0) rfl) (pa_cons (pe_fld (pv 0) rfl) (pa_cons (pe_fld (pv 0) rfl) (pa_cons (pe_fld (pv 0) rfl) (pa_cons (pe_fld (pv 0) rfl) pa_nil)))))) (pe_slice sl_list (pe_fld (pv 0) rfl) po_none (po_some pe_int))))),?_⟩
 walk_at "go2"
 refine ⟨by show 5≤sizeLine;decide,fun l1 hl1=>?_⟩
 have ha1:=upd_keep (o':=.lst [iv e.id,iv e.side,iv e.source,iv e.kind,iv e.uses]) ha hl1
 have hd1:=upd_keep (o':=.lst [iv e.id,iv e.side,iv e.source,iv e.kind,iv e.uses]) hd hl1
 have s1:Same H (upd H l1 (.lst [iv e.id,iv e.side,iv e.source,iv e.kind,iv e.uses])):=Same.upd_new hl1
 have h1:upd H l1 (.lst [iv e.id,iv e.side,iv e.source,iv e.kind,iv e.uses]) l1=some (.lst [iv e.id,iv e.side,iv e.source,iv e.kind,iv e.uses]):=upd_same
 generalize upd H l1 (.lst [iv e.id,iv e.side,iv e.source,iv e.kind,iv e.uses])=H1 at *
 walk_at "go2"
 refine rd_slE hd1 fun l2 hl2=>?_
 rw [act_two]
 refine rd_cat (upd_keep h1 hl2) upd_same ?_ fun l3 hl3=>?_
 ·rw [ivs_len,castL_len,sizeLine_eq,show (Vbdcai.actNumbers e.act).length=2 by cases e.act <;> rfl]
  exact Nat.le_of_ble_eq_true rfl
 have s2:Same H (upd H1 l2 (.lst (ivs (castL (Vbdcai.actNumbers e.act))))):=s1.trans (Same.upd_new hl2)
 refine k _ l3 (s2.trans (Same.upd_new hl3)) (Same.free s2 hl3) ?_
 rw [upd_same]
 rfl)) only [↓zh1]
def sp_Book_duplicate (K:PySem.W.Frag) (C:Cl):Sp:=fun vs H Q _=>∃ (a dx:Addr) (b:Bk),vs=[.ref a]∧H a=some (.ins C.book dx (bkFs b))∧∀ H' x dy,Same H H'→H x=none→H' x=some (.ins C.book dy (bkFs b))→Q (.ref x) H'
theorem ok_Book_duplicate (T:Tx K C) (F:Fun K "duplicate" "Book.duplicate" s_Book_duplicate f fd) (m_Book:KnC P w K mg base "Book" C.book 1 (sp_Book_init K C)) :FnOk P w K mg base CX0 3 f fd ["self"] (sp_Book_duplicate K C):=by
 refine zh0 ?_;simp (disch:=k_dflt (
 refine F.ok sc_Book_duplicate (by walk_at "ln") (fun cdv A outer s H vs Q E hr h=>?_)
 obtain ⟨a,dx,b,rfl,ha,k⟩:=h
 refine ⟨_,(pss_cons (ps_set (i:=1) sc_Book_duplicate.nd rfl (Or.inl rfl) (pe_makeX0 m_Book (hr.mono (by decide)) rfl)) (pss_cons (ps_fld (pv 1) (pe_fld (pv 0) rfl) rfl) (pss_cons (ps_fld (pv 1) (pe_fld (pv 0) rfl) rfl) (pss_cons (ps_fld (pv 1) (pe_fld (pv 0) rfl) rfl) (pss_cons (ps_fld (pv 1) (pe_fld (pv 0) rfl) rfl) (pss_cons (ps_fld (pv 1) (pe_fld (pv 0) rfl) rfl) (pss_cons (ps_fld (pv 1) (pe_fld (pv 0) rfl) rfl) (pss_one (ps_ret (pv 1)))))))))),?_⟩
 walk_at "go2"
 intro x dy hx hdy ne
 have nax:=ne_of_none ha hx
 have ha1:∀ o,upd (upd H dy (.own x)) x o a=some (.ins C.book dx (bkFs b)):=fun o=>by rw [upd_ne nax,upd_ne (ne_of_none ha hdy)];exact ha
 refine ⟨x,dy,rfl,upd_same,rfl,?_⟩
 rw [upd_upd]
 have a1:=ha1 (.ins C.book dy (bkFs {}))
 have a2:=ha1 (.ins C.book dy (bkFs { told:=b.told }))
 have a3:=ha1 (.ins C.book dy (bkFs { told:=b.told,made:=b.made }))
 have a4:=ha1 (.ins C.book dy (bkFs { told:=b.told,made:=b.made,added:=b.added }))
 have a5:=ha1 (.ins C.book dy (bkFs { told:=b.told,made:=b.made,added:=b.added,cut:=b.cut }))
 have a6:=ha1 (.ins C.book dy (bkFs { told:=b.told,made:=b.made,added:=b.added,cut:=b.cut,turned:=b.turned }))
 walk_at "go2"
 rw [upd_upd]
 walk_at "go2"
 rw [upd_upd]
 walk_at "go2"
 rw [upd_upd]
 walk_at "go2"
 rw [upd_upd]
 walk_at "go2"
 rw [upd_upd]
 walk_at "go2"
 rw [upd_upd]
 have hx1:upd H dy (.own x) x=none:=by rw [upd_ne (fun q=>ne q.symm)];exact hx
 exact k _ x dy ((Same.upd_new hdy).trans (Same.upd_new hx1)) hx upd_same)) only [↓zh1]
def Keep1 (p:Addr) (H H':Hp):Prop:=∀ b o,b≠p→H b=some o→H' b=some o
theorem Keep1.refl {p:Addr} {H:Hp}:Keep1 p H H:=fun _ _ _ h=>h
theorem Keep1.at_ {p:Addr} {H H':Hp} {o:HO} (k:Keep1 p H H'):Keep1 p H (upd H' p o):=fun b u n h=>by rw [upd_ne n];exact k b u n h
theorem Keep1.new {p l:Addr} {H H':Hp} {o:HO} (k:Keep1 p H H') (h:H' l=none):Keep1 p H (upd H' l o):=fun b u n e=>upd_keep (k b u n e) h
theorem Keep1.free {p l:Addr} {H H':Hp} {o o':HO} (k:Keep1 p H H') (hp:H' p=some o) (h:H' l=none):H l=none:=by
 cases q:H l with
 | none=>rfl
 | some u =>
  by_cases e:l=p
  ·subst e;rw [hp] at h;cases h
  rw [k l u e q] at h;cases h
def efTr (e:Ef):List V:=[iv e.side,iv e.source,iv e.kind,iv e.aim,iv e.whose,.int (b2z e.own),.int (b2z e.may),iv e.uses]
structure EfMade (C:Cl) (H H':Hp) (p dx lt ls ld:Addr) (e:Ef):Prop where
 ft:H lt=none
 fs:H ls=none
 fd:H ld=none
 ts:lt≠ls
 td:lt≠ld
 sd:ls≠ld
 hp:H' p=some (.ins C.effect dx (efFs e lt ls ld))
 ht:H' lt=some (.lst (ivs (castL e.things)))
 hs:H' ls=some (.lst (ivs (castL e.sources)))
 hd:H' ld=some (.lst (ivs (actRow e.act)))
 keep:Keep1 p H H'
def sp_Effect_init (K:PySem.W.Frag) (C:Cl):Sp:=fun vs H Q _=>∃ (p dx tr a1 a2 a3:Addr) (e:Ef),vs=[.ref p,iv e.id,.ref tr,.ref a1,.ref a2,.ref a3]∧H p=some (.ins C.effect dx [])∧H tr=some (.lst (efTr e))∧H a1=some (.lst (ivs (castL e.things))) ∧
 H a2=some (.lst (ivs (castL e.sources)))∧H a3=some (.lst (ivs (actRow e.act)))∧∀ H' lt ls ld,EfMade C H H' p dx lt ls ld e→Q .non H'
theorem ok_Effect_init (T:Tx K C) (F:Fun K "__init__" "Effect.__init__" s_Effect_init f fd) (b_list:mg "list"=none) :FnOk P w K mg base CX0 1 f fd ["self","number","traits","things","sources","does"] (sp_Effect_init K C):=by
 refine zh0 ?_;simp (disch:=k_dflt (
 refine F.ok sc_Effect_init (by walk_at "ln") (fun cdv A outer s H vs Q E hr h=>?_)
 obtain ⟨p,dx,tr,a1,a2,a3,e,rfl,hp,htr,h1,h2,h3,k⟩:=h
 refine ⟨_,(pss_cons (ps_fld (pv 0) (pv 1) rfl) (pss_cons (ps_fld (pv 0) (pe_ix ix_list (pv 2) pe_int (fun _ _=>rfl)) rfl) (pss_cons (ps_fld (pv 0) (pe_ix ix_list (pv 2) pe_int (fun _ _=>rfl)) rfl) (pss_cons (ps_fld (pv 0) (pe_ix ix_list (pv 2) pe_int (fun _ _=>rfl)) rfl) (pss_cons (ps_fld (pv 0) (pe_ix ix_list (pv 2) pe_int (fun _ _=>rfl)) rfl) (pss_cons (ps_fld (pv 0) (pe_ix ix_list (pv 2) pe_int (fun _ _=>rfl)) rfl) (pss_cons (ps_fld (pv 0) (pe_ix ix_list (pv 2) pe_int (fun _ _=>rfl)) rfl) (pss_cons (ps_fld (pv 0) (pe_ix ix_list (pv 2) pe_int (fun _ _=>rfl)) rfl) (pss_cons (ps_fld (pv 0) (pe_ix ix_list (pv 2) pe_int (fun _ _=>rfl)) rfl) (pss_cons (ps_fld (pv 0) (pe_callTy call_list_of rfl b_list boot_list (pa_cons (pv 3) pa_nil)) rfl) (pss_cons (ps_fld (pv 0) (pe_callTy call_list_of rfl b_list boot_list (pa_cons (pv 4) pa_nil)) rfl) (pss_one (ps_fld (pv 0) (pe_callTy call_list_of rfl b_list boot_list (pa_cons (pv 5) pa_nil)) rfl))))))))))))),?_⟩
 have nt:tr≠p:=ne_of htr hp (by intro z;cases z)
 have n1:a1≠p:=ne_of h1 hp (by intro z;cases z)
 have n2:a2≠p:=ne_of h2 hp (by intro z;cases z)
 have n3:a3≠p:=ne_of h3 hp (by intro z;cases z)
 have tr1:∀ o,upd H p o tr=some (.lst (efTr e)):=fun o=>by rw [upd_ne nt];exact htr
 walk_at "go2"
 refine rd_ix (tr1 _) at0 ?_
 walk_at "go2"
 rw [upd_upd]
 refine rd_ix (tr1 _) at1 ?_
 walk_at "go2"
 rw [upd_upd]
 refine rd_ix (tr1 _) at2 ?_
 walk_at "go2"
 rw [upd_upd]
 refine rd_ix (tr1 _) at3 ?_
 walk_at "go2"
 rw [upd_upd]
 refine rd_ix (tr1 _) at4 ?_
 walk_at "go2"
 rw [upd_upd]
 refine rd_ix (tr1 _) L2.at5 ?_
 walk_at "go2"
 rw [upd_upd]
 refine rd_ix (tr1 _) L2.at6 ?_
 walk_at "go2"
 rw [upd_upd]
 refine rd_ix (tr1 _) L2.at7 ?_
 walk_at "go2"
 rw [upd_upd]
 have k1:∀ o,Keep1 p H (upd H p o):=fun o=>Keep1.refl.at_
 refine rd_listOf (k1 _ _ _ n1 h1) fun lt hlt=>?_
 have npt:p≠lt:=ne_of_none upd_same hlt
 have p2:=upd_keep (o':=.lst (ivs (castL e.things))) upd_same hlt
 have k2:=(k1 _).new (o:=.lst (ivs (castL e.things))) hlt
 have ft:H lt=none:=(k1 _).free (o':=.own p) upd_same hlt
 walk_at "go2"
 have k3:=fun o=>k2.at_ (o:=o)
 have t3:∀ (G:Hp) (o:HO),upd (upd G lt (.lst (ivs (castL e.things)))) p o lt=some (.lst (ivs (castL e.things))):=fun G o=>by rw [upd_ne (fun q=>npt q.symm)];exact upd_same
 refine rd_listOf (k3 _ _ _ n2 h2) fun ls hls=>?_
 have nps:p≠ls:=ne_of_none upd_same hls
 have nts:lt≠ls:=ne_of_none (t3 _ _) hls
 have fs:H ls=none:=(k3 _).free (o':=.own p) upd_same hls
 have p4:=upd_keep (o':=.lst (ivs (castL e.sources))) upd_same hls
 walk_at "go2"
 refine rd_listOf (xs:=ivs (actRow e.act)) (by rw [upd_ne n3,upd_ne (ne_of_none (k3 _ _ _ n3 h3) hls)];exact k3 _ _ _ n3 h3) fun ld hld=>?_
 have npd:p≠ld:=ne_of_none upd_same hld
 have hld2:=hld
 rw [upd_ne (fun q=>npd q.symm)] at hld2
 have nsd:ls≠ld:=fun q=>by rw [← q,upd_same] at hld2;cases hld2
 rw [upd_ne (fun q=>nsd q.symm)] at hld2
 have ntd:lt≠ld:=ne_of_none (t3 _ _) hld2
 have fd:H ld=none:=(k3 _).free (o':=.own p) upd_same hld2
 have p6:=upd_keep (o':=.lst (ivs (actRow e.act))) upd_same hld
 walk_at "go2"
 refine k _ lt ls ld ⟨ft,fs,fd,nts,ntd,nsd,upd_same,?_,?_,?_,?_⟩
 ·rw [upd_ne (fun q=>npt q.symm),upd_ne ntd,upd_ne (fun q=>npt q.symm),upd_ne nts];exact t3 _ _
 ·rw [upd_ne (fun q=>nps q.symm),upd_ne nsd,upd_ne (fun q=>nps q.symm),upd_same]
 ·rw [upd_ne (fun q=>npd q.symm),upd_same]
 exact ((((k3 _).new hls).at_).new hld).at_)) only [↓zh1]
def sp_Effect_duplicate (K:PySem.W.Frag) (C:Cl):Sp:=fun vs H Q _=>∃ (a dx lt ls ld:Addr) (e:Ef),vs=[.ref a]∧H a=some (.ins C.effect dx (efFs e lt ls ld))∧H lt=some (.lst (ivs (castL e.things)))∧H ls=some (.lst (ivs (castL e.sources)))∧H ld=some (.lst (ivs (actRow e.act))) ∧
 ∀ H' x dy lt' ls' ld',Same H H'→H x=none→H lt'=none→H ls'=none→H ld'=none→lt'≠ls'→lt'≠ld'→ls'≠ld'→H' x=some (.ins C.effect dy (efFs e lt' ls' ld'))→H' lt'=some (.lst (ivs (castL e.things)))→H' ls'=some (.lst (ivs (castL e.sources)))→H' ld'=some (.lst (ivs (actRow e.act)))→Q (.ref x) H'
theorem ok_Effect_duplicate (T:Tx K C) (F:Fun K "duplicate" "Effect.duplicate" s_Effect_duplicate f fd) (m_Effect:KnC P w K mg base "Effect" C.effect 1 (sp_Effect_init K C)) :FnOk P w K mg base CX0 3 f fd ["self"] (sp_Effect_duplicate K C):=by
 refine zh0 ?_;simp (disch:=k_dflt (
 refine F.ok sc_Effect_duplicate (by walk_at "ln") (fun cdv A outer s H vs Q E hr h=>?_)
 obtain ⟨a,dx,lt,ls,ld,e,rfl,ha,h1,h2,h3,k⟩:=h
 refine ⟨_,(pss_cons (ps_set (i:=1) sc_Effect_duplicate.nd rfl (Or.inl rfl) (pe_lst (pa_cons (pe_fld (pv 0) rfl) (pa_cons (pe_fld (pv 0) rfl) (pa_cons (pe_fld (pv 0) rfl) (pa_cons (pe_fld (pv 0) rfl) (pa_cons (pe_fld (pv 0) rfl) (pa_cons (pe_fld (pv 0) rfl) (pa_cons (pe_fld (pv 0) rfl) (pa_cons (pe_fld (pv 0) rfl) pa_nil)))))))))) (pss_one (ps_ret (pe_makeX m_Effect (hr.mono (by decide)) rfl (pa_cons (pe_fld (pv 0) rfl) (pa_cons (pv 1) (pa_cons (pe_fld (pv 0) rfl) (pa_cons (pe_fld (pv 0) rfl) (pa_cons (pe_fld (pv 0) rfl) pa_nil))))))))),?_⟩
 walk_at "go2"
 refine ⟨by show 8≤sizeLine;decide,fun tr htr=>?_⟩
 have a1:=upd_keep (o':=.lst (efTr e)) ha htr
 have b1:=upd_keep (o':=.lst (efTr e)) h1 htr
 have b2:=upd_keep (o':=.lst (efTr e)) h2 htr
 have b3:=upd_keep (o':=.lst (efTr e)) h3 htr
 have t1:upd H tr (.lst (efTr e)) tr=some (.lst (efTr e)):=upd_same
 have s1:Same H (upd H tr (.lst (efTr e))):=Same.upd_new htr
 show _
 change (_:Prop)
 have eq:upd H tr (.lst [iv e.side,iv e.source,iv e.kind,iv e.aim,iv e.whose,.int (b2z e.own),.int (b2z e.may),iv e.uses])=upd H tr (.lst (efTr e)):=rfl
 rw [eq]
 generalize upd H tr (.lst (efTr e))=H1 at *
 walk_at "go2"
 intro x dy hx hdy ne
 have hx1:upd H1 dy (.own x) x=none:=by rw [upd_ne (fun q=>ne q.symm)];exact hx
 have s2:Same H1 (upd (upd H1 dy (.own x)) x (.ins C.effect dy [])):=(Same.upd_new hdy).trans (Same.upd_new hx1)
 refine ⟨x,dy,tr,lt,ls,ld,e,rfl,upd_same,s2 _ _ t1,s2 _ _ b1,s2 _ _ b2,s2 _ _ b3,fun H' lt' ls' ld' M=>⟨rfl,?_⟩⟩
 have s3:Same H H':=fun b o hb=>M.keep b o (ne_of_none (s1 _ _ hb) hx) (s2 _ _ (s1 _ _ hb))
 exact k H' x dy lt' ls' ld' s3 (Same.free s1 hx) (Same.free (s1.trans s2) M.ft) (Same.free (s1.trans s2) M.fs) (Same.free (s1.trans s2) M.fd) M.ts M.td M.sd M.hp M.ht M.hs M.hd)) only [↓zh1]
def sp_Batch_init (K:PySem.W.Frag) (C:Cl):Sp:=fun vs H Q _=>∃ (p dx rL eL bL:Addr),vs=[.ref p,.ref rL,.ref eL,.ref bL]∧H p=some (.ins C.batch dx [])∧∀ H' sL oL,H sL=none→H oL=none→sL≠oL→H' p=some (.ins C.batch dx (btFs rL sL oL eL bL))→H' sL=some (.lst [])→H' oL=some (.lst [])→Keep1 p H H'→Q .non H'
theorem ok_Batch_init (T:Tx K C) (F:Fun K "__init__" "Batch.__init__" s_Batch_init f fd)  :FnOk P w K mg base CX0 1 f fd ["self","row","effects_before","books_before"] (sp_Batch_init K C):=by
 refine zh0 ?_;simp (disch:=k_dflt (
 refine F.ok sc_Batch_init (by walk_at "ln") (fun cdv A outer s H vs Q E hr h=>?_)
 obtain ⟨p,dx,rL,eL,bL,rfl,hp,k⟩:=h
 refine ⟨_,(pss_cons (ps_fld (pv 0) (pv 1) rfl) (pss_cons (ps_fld (pv 0) (pe_lst pa_nil) rfl) (pss_cons (ps_fld (pv 0) (pe_lst pa_nil) rfl) (pss_cons (ps_fld (pv 0) (pv 2) rfl) (pss_one (ps_fld (pv 0) (pv 3) rfl)))))),?_⟩
 walk_at "go2"
 refine ⟨Nat.zero_le _,fun sL hsL=>?_⟩
 have nps:p≠sL:=ne_of_none upd_same hsL
 have p1:=upd_keep (o':=.lst []) upd_same hsL
 walk_at "go2"
 refine ⟨Nat.zero_le _,fun oL hoL=>?_⟩
 have npo:p≠oL:=ne_of_none upd_same hoL
 have p2:=upd_keep (o':=.lst []) upd_same hoL
 have hoL2:=hoL
 rw [upd_ne (fun q=>npo q.symm)] at hoL2
 have nso:sL≠oL:=fun q=>by rw [← q,upd_same] at hoL2;cases hoL2
 rw [upd_ne (fun q=>nso q.symm)] at hoL2
 walk_at "go2"
 refine k _ sL oL (Keep1.refl.at_.free (o':=.own p) upd_same hsL) (Keep1.refl.at_.free (o':=.own p) upd_same hoL2) nso ?_ ?_ ?_ ?_
 ·simp only [upd_upd]
  exact upd_same
 ·simp only [upd_upd]
  rw [upd_ne (fun q=>nps q.symm),upd_ne nso,upd_ne (fun q=>nps q.symm),upd_same]
 ·simp only [upd_upd]
  rw [upd_ne (fun q=>npo q.symm),upd_same]
 exact (((((Keep1.refl.at_).new hsL).at_).new hoL).at_).at_.at_)) only [↓zh1]
def LcR (lo:Int) (n:Nat) (g:TG) (tt:TT) (te:TE) (vs:List Nat) (σ:L2.St) (H1:Hp) (Q:VK):Prop :=
 ∀ D,H1 D=none→∃ W:Nat→Nat→Hp→Prop,(∃ m,W 0 m (upd H1 D (.lst [])))∧∀ i m H,W i m H →
   ((Itr lo n).stop i H∧Q (.ref D) H)∨((Itr lo n).go i H∧∃ Nx:Hp→Prop,(∀ H',Nx H'→∃ m',m' < m∧W (i + 1) m' H')∧∀ x H',(Itr lo n).yld i H x H'→g x (wipe σ vs) H' fun σ2 H2=>wipe σ2 vs=wipe σ vs∧tt σ2 H2 fun b H3 =>
    if b=true then te σ2 H3 fun y H4=>∃ acc,H4 D=some (.lst acc)∧acc.length < sizeLine∧Nx (upd H4 D (.lst (acc++[y]))) else Nx H3)
theorem rd_lcR {ta:TA} {g:TG} {tt:TT} {te:TE} {vs:List Nat} {σ:L2.St} {H:Hp} {Q:VK} (h:ta σ H fun xs H1=>∃ j:Int,xs=[.int j]∧-(2 ^ 62)≤j∧j < 2 ^ 62∧LcR 0 j.toNat g tt te vs σ H1 Q):tLc (iRng1 ta) g tt te vs σ H Q:=h
theorem lcR_of {lo:Int} {n:Nat} {g:TG} {tt:TT} {te:TE} {vs:List Nat} {σ:L2.St} {H:Hp} {Q:VK} (hp:∀ D,H D=none→∃ Pv:Nat→Hp→Prop,Pv 0 (upd H D (.lst [])) ∧
  (∀ i H,i < n→Pv i H→g (.int (lo + i)) (wipe σ vs) H fun σ2 H2=>wipe σ2 vs=wipe σ vs∧tt σ2 H2 fun b H3=>if b=true then te σ2 H3 fun y H4=>∃ acc,H4 D=some (.lst acc)∧acc.length < sizeLine∧Pv (i + 1) (upd H4 D (.lst (acc++[y]))) else Pv (i + 1) H3) ∧
  (∀ H',Pv n H'→Q (.ref D) H')):LcR lo n g tt te vs σ H Q:=fun D hD=>by
 obtain ⟨Pv,h0,h1,h2⟩:=hp D hD
 exact lc_range Pv h0 h1 h2
def tabR (p sL s0 s1 tL eL bL:Addr) (ba:List Addr):Rho:=fun b=>if b=p then (1,0) else if b=sL then (2,0) else if b=s0 then (3,0) else if b=s1 then (3,1) else if b=tL then (4,0) else if b=eL then (14,0) else if b=bL then (30,0) else
 if b∈ba then (31,ba.idxOf b) else (0,0)
structure TabAt (C:Cl) (H:Hp) (p dx sL s0 d0 s1 d1 tL eL bL:Addr) (ba:List Addr):Prop where
 hp:H p=some (.ins C.table dx (tbFs sL tL eL 0 bL .non))
 hs:H sL=some (.lst [.ref s0,.ref s1])
 h0:H s0=some (.ins C.side d0 (sdFs {}))
 h1:H s1=some (.ins C.side d1 (sdFs {}))
 ht:H tL=some (.lst [])
 he:H eL=some (.lst [])
 hb:H bL=some (.lst (rfs ba))
 hl:ba.length=6
 hbs:∀ b∈ba,∃ d,H b=some (.ins C.book d (bkFs {}))
 nd:ba.Nodup
 n01:s0≠s1
 nte:tL≠eL
theorem ins_ne {H:Hp} {a b C C' d d':Addr} {fs fs':List (Str × V)} (h:H a=some (.ins C d fs)) (h':H b=some (.ins C' d' fs')) (n:fs≠fs'):a≠b:=fun q=>by
 subst q
 exact n (ins_inj h h').2
theorem lst_ne {H:Hp} {a b:Addr} {xs ys:List V} (h:H a=some (.lst xs)) (h':H b=some (.lst ys)) (n:xs.length≠ys.length):a≠b:=fun q=>by
 subst q
 rw [h] at h'
 cases h'
 exact n rfl
theorem ins_lst {H:Hp} {a b C d:Addr} {fs:List (Str × V)} {xs:List V} (h:H a=some (.ins C d fs)) (h':H b=some (.lst xs)):a≠b:=ne_of h h' (by intro z;cases z)
theorem TabAt.rep {H:Hp} {p dx sL s0 d0 s1 d1 tL eL bL:Addr} {ba:List Addr} (T:TabAt C H p dx sL s0 d0 s1 d1 tL eL bL ba):Rep C (tabR p sL s0 s1 tL eL bL ba) H p ⟨sL,s0,s1,tL,[],eL,[],bL,ba⟩ .non {}:=by
 refine zh0 ?_;simp (disch:=k_dflt (
 refine zh2 ?_
 have a1:sL≠p:=(ins_lst T.hp T.hs).symm
 have a2:s0≠p:=ins_ne T.h0 T.hp (by unfold sdFs tbFs;intro z;cases z)
 have a3:s1≠p:=ins_ne T.h1 T.hp (by unfold sdFs tbFs;intro z;cases z)
 have a4:tL≠p:=(ins_lst T.hp T.ht).symm
 have a5:eL≠p:=(ins_lst T.hp T.he).symm
 have a6:bL≠p:=(ins_lst T.hp T.hb).symm
 have b2:s0≠sL:=ins_lst T.h0 T.hs
 have b3:s1≠sL:=ins_lst T.h1 T.hs
 have b4:tL≠sL:=lst_ne T.ht T.hs (by simp)
 have b5:eL≠sL:=lst_ne T.he T.hs (by simp)
 have b6:bL≠sL:=lst_ne T.hb T.hs (by rw [rfs_len,T.hl];simp)
 have c4:tL≠s0:=(ins_lst T.h0 T.ht).symm
 have c5:eL≠s0:=(ins_lst T.h0 T.he).symm
 have c6:bL≠s0:=(ins_lst T.h0 T.hb).symm
 have d4:tL≠s1:=(ins_lst T.h1 T.ht).symm
 have d5:eL≠s1:=(ins_lst T.h1 T.he).symm
 have d6:bL≠s1:=(ins_lst T.h1 T.hb).symm
 have e6:bL≠tL:=lst_ne T.hb T.ht (by rw [rfs_len,T.hl];simp)
 have f6:bL≠eL:=lst_ne T.hb T.he (by rw [rfs_len,T.hl];simp)
 have hn:∀ b,H b=none→tabR p sL s0 s1 tL eL bL ba b=(0,0):=fun b hb=>by
  have n:∀ x o,H x=some o→b≠x:=fun x o hx q=>by rw [q,hx] at hb;cases hb
  unfold tabR
  rw [if_neg (n _ _ T.hp),if_neg (n _ _ T.hs),if_neg (n _ _ T.h0),if_neg (n _ _ T.h1),if_neg (n _ _ T.ht),if_neg (n _ _ T.he),if_neg (n _ _ T.hb),if_neg (fun q=>by obtain ⟨d,e⟩:=T.hbs b q;exact n _ _ e rfl)]
 refine ⟨hn,⟨?_,dx,T.hp⟩,⟨⟨?_,T.hs⟩,⟨?_,d0,T.h0⟩,⟨?_,d1,T.h1⟩⟩,⟨⟨?_,T.ht⟩,rfl,fun k a b h=>by simp at h⟩,⟨⟨?_,T.he⟩,.nil⟩,⟨⟨?_,T.hb⟩,?_,fun k a b ha hb=>?_⟩⟩
 ·unfold tabR;rw [if_pos rfl]
 ·unfold tabR;rw [if_neg a1,if_pos rfl]
 ·unfold tabR;rw [if_neg a2,if_neg b2,if_pos rfl]
 ·unfold tabR;rw [if_neg a3,if_neg b3,if_neg (fun q=>T.n01 q.symm),if_pos rfl]
 ·unfold tabR;rw [if_neg a4,if_neg b4,if_neg c4,if_neg d4,if_pos rfl]
 ·unfold tabR;rw [if_neg a5,if_neg b5,if_neg c5,if_neg d5,if_neg (fun q=>T.nte q.symm),if_pos rfl]
 ·unfold tabR;rw [if_neg a6,if_neg b6,if_neg c6,if_neg d6,if_neg e6,if_neg f6,if_pos rfl]
 ·rw [T.hl];rfl
 have hm:a∈ba:=List.mem_of_getElem? ha
 obtain ⟨d,hd⟩:=T.hbs a hm
 have hbe:b={}:=by
  have:b∈List.replicate 6 ({}:Bk):=List.mem_of_getElem? hb
  exact (List.mem_replicate.mp this).2
 refine ⟨?_,d,by rw [hbe];exact hd⟩
 unfold tabR
 rw [if_neg (ins_ne hd T.hp (by unfold bkFs tbFs;intro z;cases z)),if_neg (ins_lst hd T.hs),if_neg (ins_ne hd T.h0 (by unfold bkFs sdFs;intro z;cases z)),if_neg (ins_ne hd T.h1 (by unfold bkFs sdFs;intro z;cases z)),if_neg (ins_lst hd T.ht),if_neg (ins_lst hd T.he),if_neg (ins_lst hd T.hb),if_pos hm]
 have e:ba.idxOf a=k:=by
  obtain ⟨hk,e⟩:=List.getElem?_eq_some_iff.mp ha
  rw [← e]
  exact T.nd.idxOf_getElem k hk
 rw [e])) only [↓zh1]
def sp_Table_init (K:PySem.W.Frag) (C:Cl):Sp:=fun vs H Q _=>∃ (p dx:Addr),vs=[.ref p]∧H p=some (.ins C.table dx [])∧∀ H' sL s0 d0 s1 d1 tL eL bL ba,TabAt C H' p dx sL s0 d0 s1 d1 tL eL bL ba→Keep1 p H H'→(∀ b o,b≠p→H b=some o→b ∉ [sL,s0,s1,tL,eL,bL]++ba)→Q .non H'
theorem ok_Table_init (T:Tx K C) (F:Fun K "__init__" "Table.__init__" s_Table_init f fd) (m_Side:KnC P w K mg base "Side" C.side 1 (sp_Side_init K C)) (b_range:mg "range"=none) (c_LAST_KIND:CI mg "LAST_KIND" (5)) (m_Book:KnC P w K mg base "Book" C.book 1 (sp_Book_init K C)) :FnOk P w K mg base CX0 3 f fd ["self"] (sp_Table_init K C):=by
 refine zh0 ?_;simp (disch:=k_dflt (
 refine F.ok sc_Table_init (by walk_at "ln") (fun cdv A outer s H vs Q E hr h=>?_)
 obtain ⟨p,dx,rfl,hp,k⟩:=h
 refine ⟨_,(pss_cons (ps_fld (pv 0) (pe_lst (pa_cons (pe_makeX0 m_Side (hr.mono (by decide)) rfl) (pa_cons (pe_makeX0 m_Side (hr.mono (by decide)) rfl) pa_nil))) rfl) (pss_cons (ps_fld (pv 0) (pe_lst pa_nil) rfl) (pss_cons (ps_fld (pv 0) (pe_lst pa_nil) rfl) (pss_cons (ps_fld (pv 0) pe_int rfl) (pss_cons (ps_fld (pv 0) (pe_lc rfl sc_Table_init.nd (pi_range1 rfl b_range (pa_cons (pe_op op_add (pe_ci c_LAST_KIND rfl) pe_int) pa_nil)) (blkOk_by (own:=[("kind",1)]) rfl) (fun _ _ _ _ _=>(pg_name (i:=1) sc_Table_init.nd rfl (Or.inl rfl))) (fun _ _ _ _ _=>pts_nil) (fun _ _ _ _ _=>(pe_makeX0 m_Book (hr.mono (by decide)) rfl))) rfl) (pss_one (ps_fld (pv 0) pe_non rfl))))))),?_⟩
 walk_at "go2"
 intro s0 d0 hs0 hd0 ne0
 refine ⟨s0,d0,rfl,upd_same,rfl,?_⟩
 rw [upd_upd]
 have hs0':upd H d0 (.own s0) s0=none:=by rw [upd_ne (fun q=>ne0 q.symm)];exact hs0
 have k1:Keep1 p H (upd (upd H d0 (.own s0)) s0 (.ins C.side d0 (sdFs {}))):=(Keep1.refl.new hd0).new hs0'
 have p1:=upd_keep (o':=.ins C.side d0 (sdFs {})) (upd_keep (o':=.own s0) hp hd0) hs0'
 have e1:upd (upd H d0 (.own s0)) s0 (.ins C.side d0 (sdFs {})) s0=some (.ins C.side d0 (sdFs {})):=upd_same
 generalize upd (upd H d0 (.own s0)) s0 (.ins C.side d0 (sdFs {}))=H1 at *
 walk_at "go2"
 intro s1 d1 hs1 hd1 ne1
 refine ⟨s1,d1,rfl,upd_same,rfl,?_⟩
 rw [upd_upd]
 have n01:s0≠s1:=ne_of_none e1 hs1
 have fs1:H s1=none:=k1.free (o':=.own p) p1 hs1
 have hs1':upd H1 d1 (.own s1) s1=none:=by rw [upd_ne (fun q=>ne1 q.symm)];exact hs1
 have k2:Keep1 p H (upd (upd H1 d1 (.own s1)) s1 (.ins C.side d1 (sdFs {}))):=(k1.new hd1).new hs1'
 have p2:=upd_keep (o':=.ins C.side d1 (sdFs {})) (upd_keep (o':=.own s1) p1 hd1) hs1'
 have e2:=upd_keep (o':=.ins C.side d1 (sdFs {})) (upd_keep (o':=.own s1) e1 hd1) hs1'
 have e2':upd (upd H1 d1 (.own s1)) s1 (.ins C.side d1 (sdFs {})) s1=some (.ins C.side d1 (sdFs {})):=upd_same
 generalize upd (upd H1 d1 (.own s1)) s1 (.ins C.side d1 (sdFs {}))=H2 at *
 walk_at "go2"
 refine ⟨by show 2≤sizeLine;decide,fun sL hsL=>?_⟩
 have fsL:H sL=none:=k2.free (o':=.own p) p2 hsL
 have k3:Keep1 p H (upd H2 sL (.lst [.ref s0,.ref s1])):=k2.new hsL
 have p3:=upd_keep (o':=.lst [.ref s0,.ref s1]) p2 hsL
 have e3:=upd_keep (o':=.lst [.ref s0,.ref s1]) e2 hsL
 have e3':=upd_keep (o':=.lst [.ref s0,.ref s1]) e2' hsL
 have e3s:upd H2 sL (.lst [.ref s0,.ref s1]) sL=some (.lst [.ref s0,.ref s1]):=upd_same
 generalize upd H2 sL (.lst [.ref s0,.ref s1])=H3 at *
 have q0:s0≠p:=ins_ne e3 p3 (by unfold sdFs;intro z;cases z)
 have q1:s1≠p:=ins_ne e3' p3 (by unfold sdFs;intro z;cases z)
 have qs:sL≠p:=(ins_lst p3 e3s).symm
 walk_at "go2"
 refine ⟨Nat.zero_le _,fun tL htL=>?_⟩
 have k4:∀ o,Keep1 p H (upd H3 p o):=fun o=>k3.at_
 have ftL:H tL=none:=(k4 _).free (o':=.own p) upd_same htL
 have qt:p≠tL:=ne_of_none upd_same htL
 have htL3:=htL
 rw [upd_ne (fun q=>qt q.symm)] at htL3
 have p5:=upd_keep (o':=.lst []) upd_same htL
 walk_at "go2"
 refine ⟨Nat.zero_le _,fun eL heL=>?_⟩
 have qe:p≠eL:=ne_of_none upd_same heL
 have heL3:=heL
 rw [upd_ne (fun q=>qe q.symm)] at heL3
 have nte:tL≠eL:=fun q=>by rw [← q,upd_same] at heL3;cases heL3
 rw [upd_ne (fun q=>nte q.symm)] at heL3
 have feL:H eL=none:=(k4 _).free (o':=.own p) upd_same heL3
 rw [upd_ne (fun q=>qe q.symm)] at heL3
 have p6:=upd_keep (o':=.lst []) upd_same heL
 walk_at "go2"
 refine rd_lcR ?_
 walk_at "go2"
 refine ⟨_,rfl,by decide,by decide,?_⟩
 simp only [upd_upd]
 change LcR _ _ _ _ _ _ _ (upd (upd (upd (upd (upd H3 p (.ins C.table dx [("sides",.ref sL)])) tL (.lst [])) p (.ins C.table dx [("sides",.ref sL),("things",.ref tL)])) eL (.lst [])) p (.ins C.table dx [("sides",.ref sL),("things",.ref tL),("effects",.ref eL),("effects_numbered",iv 0)])) _
 have k6:Keep1 p H (upd (upd (upd (upd (upd H3 p (.ins C.table dx [("sides",.ref sL)])) tL (.lst [])) p (.ins C.table dx [("sides",.ref sL),("things",.ref tL)])) eL (.lst [])) p (.ins C.table dx [("sides",.ref sL),("things",.ref tL),("effects",.ref eL),("effects_numbered",iv 0)])):=(((k3.at_.new htL).at_).new heL).at_
 have nst:sL≠tL:=ne_of_none e3s htL3
 have nse:sL≠eL:=ne_of_none e3s heL3
 have n0t:s0≠tL:=ne_of_none e3 htL3
 have n0e:s0≠eL:=ne_of_none e3 heL3
 have n1t:s1≠tL:=ne_of_none e3' htL3
 have n1e:s1≠eL:=ne_of_none e3' heL3
 have f6:∀ b,b≠p→b≠tL→b≠eL→(upd (upd (upd (upd (upd H3 p (.ins C.table dx [("sides",.ref sL)])) tL (.lst [])) p (.ins C.table dx [("sides",.ref sL),("things",.ref tL)])) eL (.lst [])) p (.ins C.table dx [("sides",.ref sL),("things",.ref tL),("effects",.ref eL),("effects_numbered",iv 0)])) b=H3 b:=fun b n1 n2 n3=>by rw [upd_ne n1,upd_ne n3,upd_ne n1,upd_ne n2,upd_ne n1]
 have g6:(upd (upd (upd (upd (upd H3 p (.ins C.table dx [("sides",.ref sL)])) tL (.lst [])) p (.ins C.table dx [("sides",.ref sL),("things",.ref tL)])) eL (.lst [])) p (.ins C.table dx [("sides",.ref sL),("things",.ref tL),("effects",.ref eL),("effects_numbered",iv 0)])) p=some (.ins C.table dx [("sides",.ref sL),("things",.ref tL),("effects",.ref eL),("effects_numbered",iv 0)]):=upd_same
 have t6:(upd (upd (upd (upd (upd H3 p (.ins C.table dx [("sides",.ref sL)])) tL (.lst [])) p (.ins C.table dx [("sides",.ref sL),("things",.ref tL)])) eL (.lst [])) p (.ins C.table dx [("sides",.ref sL),("things",.ref tL),("effects",.ref eL),("effects_numbered",iv 0)])) tL=some (.lst []):=by rw [upd_ne (fun q=>qt q.symm),upd_ne nte,upd_ne (fun q=>qt q.symm),upd_same]
 have l6:(upd (upd (upd (upd (upd H3 p (.ins C.table dx [("sides",.ref sL)])) tL (.lst [])) p (.ins C.table dx [("sides",.ref sL),("things",.ref tL)])) eL (.lst [])) p (.ins C.table dx [("sides",.ref sL),("things",.ref tL),("effects",.ref eL),("effects_numbered",iv 0)])) eL=some (.lst []):=by rw [upd_ne (fun q=>qe q.symm),upd_same]
 generalize (upd (upd (upd (upd (upd H3 p (.ins C.table dx [("sides",.ref sL)])) tL (.lst [])) p (.ins C.table dx [("sides",.ref sL),("things",.ref tL)])) eL (.lst [])) p (.ins C.table dx [("sides",.ref sL),("things",.ref tL),("effects",.ref eL),("effects_numbered",iv 0)]))=H6 at *
 have s6:H6 sL=some (.lst [.ref s0,.ref s1]):=by rw [f6 _ qs nst nse];exact e3s
 have a6:H6 s0=some (.ins C.side d0 (sdFs {})):=by rw [f6 _ q0 n0t n0e];exact e3
 have b6:H6 s1=some (.ins C.side d1 (sdFs {})):=by rw [f6 _ q1 n1t n1e];exact e3'
 refine lcR_of fun D hD=>⟨fun i H'=>∃ ba:List Addr,ba.length=i∧ba.Nodup∧(∀ b∈ba,H6 b=none∧∃ d,H' b=some (.ins C.book d (bkFs {})))∧H' D=some (.lst (rfs ba))∧Same H6 H' ,⟨[],rfl,.nil,fun b hb=>(by cases hb),upd_same,Same.upd_new hD⟩,?_,?_⟩
 ·rintro i H7 hi ⟨ba,hbl,hnd,hba,hbD,sm⟩
  refine ⟨wipe1_set _ _ _,?_⟩
  unfold tYes
  dsimp only
  rw [if_pos rfl]
  walk_at "go2"
  intro x d hx hd ne
  have hx':upd H7 d (.own x) x=none:=by rw [upd_ne (fun q=>ne q.symm)];exact hx
  refine ⟨x,d,rfl,upd_same,rfl,?_⟩
  rw [upd_upd]
  have nDx:D≠x:=ne_of_none hbD hx
  refine ⟨rfs ba,by rw [upd_ne nDx,upd_ne (ne_of_none hbD hd)];exact hbD,by rw [rfs_len,hbl,sizeLine_eq];omega,ba++[x],by rw [List.length_append,hbl];rfl,?_,?_,?_,?_⟩
  ·refine List.nodup_append.mpr ⟨hnd,by simp,fun a ha b hb=>?_⟩
   obtain ⟨_,d',e'⟩:=hba a ha
   have hb':b=x:=by simpa using hb
   subst hb'
   exact ne_of_none e' hx
  ·intro b hb
   rcases List.mem_append.mp hb with q | q
   ·obtain ⟨f',d',e'⟩:=hba b q
    have nbD:b≠D:=ins_lst e' hbD
    exact ⟨f',d',by rw [upd_ne nbD,upd_ne (ne_of_none e' hx),upd_ne (ne_of_none e' hd)];exact e'⟩
   have hb':b=x:=by simpa using q
   subst hb'
   exact ⟨Same.free sm hx,d,by rw [upd_ne (fun q=>nDx q.symm)];exact upd_same⟩
  ·rw [upd_same]
   unfold rfs
   rw [List.map_append]
   rfl
  intro b o hb
  rw [upd_ne (ne_of_none hb hD)]
  have h7:=sm b o hb
  rw [upd_ne (ne_of_none h7 hx),upd_ne (ne_of_none h7 hd)]
  exact h7
 rintro H7 ⟨ba,hbl,hnd,hba,hbD,sm⟩
 have g7:=sm _ _ g6
 walk_at "go2"
 simp only [upd_upd]
 have nDp:D≠p:=(ins_lst g7 hbD).symm
 have up:∀ (o:HO) b u,b≠p→H7 b=some u→upd H7 p o b=some u:=fun o b u n h=>by rw [upd_ne n];exact h
 refine k _ sL s0 d0 s1 d1 tL eL D ba ⟨upd_same,up _ _ _ qs (sm _ _ s6),up _ _ _ q0 (sm _ _ a6),up _ _ _ q1 (sm _ _ b6),up _ _ _ (fun q=>qt q.symm) (sm _ _ t6),up _ _ _ (fun q=>qe q.symm) (sm _ _ l6),up _ _ _ nDp hbD,hbl,?_,hnd,n01,nte⟩ ?_ ?_
 ·intro b hb
  obtain ⟨f',d',e'⟩:=hba b hb
  exact ⟨d',up _ _ _ (fun q=>by rw [q,g6] at f';cases f') e'⟩
 ·intro b o n h
  exact up _ _ _ n (sm _ _ (k6 b o n h))
 intro b o n h hm
 rcases List.mem_append.mp hm with q | q
 ·have hm':b=sL∨b=s0∨b=s1∨b=tL∨b=eL∨b=D:=by simpa using q
  rcases hm' with rfl | rfl | rfl | rfl | rfl | rfl
  ·rw [fsL] at h;cases h
  ·rw [hs0] at h;cases h
  ·rw [fs1] at h;cases h
  ·rw [ftL] at h;cases h
  ·rw [feL] at h;cases h
  rw [k6 b o n h] at hD;cases hD
 obtain ⟨f',_⟩:=hba b q
 rw [k6 b o n h] at f';cases f')) only [↓zh1]
def isN (n:Int) (e:Ef):Bool:=(e.id:Int) == n
theorem find_at {p:Ef→Bool} {es:List Ef} {i:Nat} {e:Ef} (h:(es.take i).find? p=none) (he:es[i]?=some e) (hp:p e=true):es.find? p=some e:=by
 have hd:es.take (i + 1)++es.drop (i + 1)=es:=List.take_append_drop ..
 rw [← hd,List.find?_append,take_one he,List.find?_append,h]
 simp [hp]
theorem find_next {p:Ef→Bool} {es:List Ef} {i:Nat} {e:Ef} (h:(es.take i).find? p=none) (he:es[i]?=some e) (hp:p e=false):(es.take (i + 1)).find? p=none:=by
 rw [take_one he,List.find?_append,h]
 simp [hp]
theorem rfs_inv {l:List Addr} {i:Nat} {x:V} (h:(rfs l)[i]?=some x):∃ a,l[i]?=some a∧x=.ref a:=by
 unfold rfs at h
 rw [List.getElem?_map] at h
 cases q:l[i]? with
 | none=>rw [q] at h;cases h
 | some y=>rw [q] at h;exact ⟨y,rfl,(Option.some.inj h).symm⟩
theorem paired_some {F:Addr→Ef→Prop} {as:List Addr} {es:List Ef} (h:Paired F as es) {i:Nat} {a:Addr} (ha:as[i]?=some a):∃ e,es[i]?=some e∧F a e:=by
 have hl:=Paired.length h
 have hi:=(List.getElem?_eq_some_iff.mp ha).1
 have he:es[i]?=some es[i]:=List.getElem?_eq_getElem (by omega)
 exact ⟨_,he,paired_at h ha he⟩
def sp_Table_effect_numbered (K:PySem.W.Frag) (C:Cl):Sp:=fun vs H Q _=>∃ (t:Addr) (n:Int) (ρ:Rho) (lo:Lo) (bV:V) (W:Du.W),vs=[.ref t,.int n]∧Rep C ρ H t lo bV W∧(∀ a,W.effects.any (isN n)=true→Q (.ref a) H)∧(W.effects.any (isN n)=false→Q .non H)
theorem ok_Table_effect_numbered (T:Tx K C) (F:Fun K "effect_numbered" "Table.effect_numbered" s_Table_effect_numbered f fd)  :FnOk P w K mg base CX0 1 f fd ["self","number"] (sp_Table_effect_numbered K C):=by
 refine zh0 ?_;simp (disch:=k_dflt (
 refine F.ok sc_Table_effect_numbered (by walk_at "ln") (fun cdv A outer s H vs Q E hr h=>?_)
 obtain ⟨t,n,ρ,lo,bV,W,rfl,R,k⟩:=h
 refine ⟨_,(pss_cons (ps_for PassesOwn.never rfl (pi_list (pe_fld (pv 0) rfl)) (pg_name (i:=2) sc_Table_effect_numbered.nd rfl (Or.inl rfl)) (pss_one (ps_if (pt_cmpR op_eq (pe_fld (pv 2) rfl) (pv 1) (nomark _)) (pss_one (ps_ret (pv 2))) pss_nil))) (pss_one (ps_ret pe_non))),?_⟩
 obtain ⟨dx,ht⟩:=R.tbl
 have hl:=R.ef.1.2
 walk_at "go2"
 refine forAt_of (SqL.of hl) (fun i σ H'=>∃ u,σ=[some (.ref t),some (.int n),u]∧H'=H∧(W.effects.take i).find? (isN n)=none) ⟨none,rfl,rfl,rfl⟩ (fun i σ H' _ ⟨_,_,e,_⟩=>by rw [e];exact SqL.of hl) ?_ ?_
 ·rintro i x σ H1 hx ⟨u,rfl,rfl,hf⟩
  obtain ⟨a,ha,rfl⟩:=rfs_inv hx
  obtain ⟨e,he,_,dy,lt,ls,ld,hef,_⟩:=paired_some R.ef.2 ha
  walk_at "go2"
  refine rd_ite (fun h0=>?_) fun h0=>?_
  ·walk_at "go2"
   refine k.1 a (List.any_eq_true.mpr ⟨e,List.mem_of_getElem? he,?_⟩)
   unfold isN
   exact beq_iff_eq.mpr h0
  walk_at "go2"
  exact ⟨_,rfl,rfl,find_next hf he (by unfold isN;exact beq_eq_false_iff_ne.mpr h0)⟩
 rintro σ H1 ⟨u,rfl,rfl,hf⟩
 walk_at "go2"
 rw [rfs_len,Paired.length R.ef.2,List.take_length] at hf
 refine k.2 ?_
 rw [List.any_eq_false]
 intro e he
 exact List.find?_eq_none.mp hf e he)) only [↓zh1]
theorem EfsIn {C:Cl} {ρ:Rho} {H:Hp} {t:Addr} {lo:Lo} {b:Addr} {lb:Lb} {W bf:Du.W} {v:Ev} {r:List Ev} (S:AskSt C ρ H t lo b lb W bf v r):Paired (EfAt C ρ H 10) lb.oa (Vbdcai.offered (Vbdcai.ctrl W) W.effects v):=by
 rw [S.off]
 exact offA_paired S.sb.rep.ef.2
def sp_offered_effect (K:PySem.W.Frag) (C:Cl):Sp:=fun vs H Q _=>∃ (t:Addr) (n:Int) (b:Addr) (ρ:Rho) (lo:Lo) (lb:Lb) (W bf:Du.W) (v:Ev) (r:List Ev),vs=[.ref t,.int n]∧AskSt C ρ H t lo b lb W bf v r ∧
 (∀ a e,(Vbdcai.offered (Vbdcai.ctrl W) W.effects v).find? (isN n)=some e→PairIn a e lo.ea W.effects→EfAt C ρ H 10 a e→Q (.ref a) H)∧((Vbdcai.offered (Vbdcai.ctrl W) W.effects v).find? (isN n)=none→Q .non H)
theorem ok_offered_effect (T:Tx K C) (F:Fun K "offered_effect" "offered_effect" s_offered_effect f fd)  :FnOk P w K mg base CX0 1 f fd ["table","number"] (sp_offered_effect K C):=by
 refine zh0 ?_;simp (disch:=k_dflt (
 refine F.ok sc_offered_effect (by walk_at "ln") (fun cdv A outer s H vs Q E hr h=>?_)
 obtain ⟨t,n,b,ρ,lo,lb,W,bf,v,r,rfl,S,k⟩:=h
 refine ⟨_,(pss_cons (ps_for PassesOwn.never rfl (pi_list (pe_fld (pe_fld (pv 0) rfl) rfl)) (pg_name (i:=2) sc_offered_effect.nd rfl (Or.inl rfl)) (pss_one (ps_if (pt_cmpR op_eq (pe_fld (pv 2) rfl) (pv 1) (nomark _)) (pss_one (ps_ret (pv 2))) pss_nil))) (pss_one (ps_ret pe_non))),?_⟩
 obtain ⟨dx,ht⟩:=S.sb.rep.tbl
 obtain ⟨hrb,db,hbt⟩:=S.sb.bat.bt
 have hl:=S.sb.bat.off.2
 have hE:=EfsIn S
 walk_at "go2"
 refine forAt_of (SqL.of hl) (fun i σ H'=>∃ u,σ=[some (.ref t),some (.int n),u]∧H'=H∧((Vbdcai.offered (Vbdcai.ctrl W) W.effects v).take i).find? (isN n)=none) ⟨none,rfl,rfl,rfl⟩ (fun i σ H' _ ⟨_,_,e,_⟩=>by rw [e];exact SqL.of hl) ?_ ?_
 ·rintro i x σ H1 hx ⟨u,rfl,rfl,hf⟩
  obtain ⟨a,ha,rfl⟩:=rfs_inv hx
  obtain ⟨e,he,hat⟩:=paired_some hE ha
  obtain ⟨_,dy,lt,ls,ld,hef,_⟩:=id hat
  walk_at "go2"
  refine rd_ite (fun h0=>?_) fun h0=>?_
  ·walk_at "go2"
   refine k.1 a e (find_at hf he ?_) (offA_mem (i:=i) S.sb.rep.ef.2 (v:=v) (by rw [← S.off];exact ha) he) hat
   unfold isN
   exact beq_iff_eq.mpr h0
  walk_at "go2"
  exact ⟨_,rfl,rfl,find_next hf he (by unfold isN;exact beq_eq_false_iff_ne.mpr h0)⟩
 rintro σ H1 ⟨u,rfl,rfl,hf⟩
 walk_at "go2"
 rw [rfs_len,Paired.length hE,List.take_length] at hf
 exact k.2 hf)) only [↓zh1]
def sp_events_left (K : PySem.W.Frag) (C : Cl) : Sp := fun vs H Q _ => ∃ (t : Addr) (ρ : Rho) (lo : Lo) (W : Du.W), vs = [.ref t] ∧
  ((Rep C ρ H t lo .non W ∧ ∀ l, H l = none → Q (.ref l) (upd H l (.lst []))) ∨
   (∃ b lb bf, SB C ρ H t lo b lb W bf ∧ W.todo.length + W.settled.length ≤ 5000 ∧ ∀ l, H l = none → Q (.ref l) (upd H l (.lst (rfs (lb.ra ++ lb.sa))))))
theorem ok_events_left (T:Tx K C) (F:Fun K "events_left" "events_left" s_events_left f fd)  :FnOk P w K mg base CX0 1 f fd ["table"] (sp_events_left K C):=by
 refine zh0 ?_;simp (disch:=k_dflt (
 refine F.ok sc_events_left (by walk_at "ln") (fun cdv A outer s H vs Q E hr h=>?_)
 obtain ⟨t,ρ,lo,W,rfl,k⟩:=h
 refine ⟨_,(pss_cons (ps_if (pt_cmpR op_isN (pe_fld (pv 0) rfl) pe_non (nomark _)) (pss_one (ps_ret (pe_lst pa_nil))) pss_nil) (pss_one (ps_ret (pe_op op_cat (pe_fld (pe_fld (pv 0) rfl) rfl) (pe_fld (pe_fld (pv 0) rfl) rfl))))),?_⟩
 rcases k with ⟨R,k⟩ | ⟨b,lb,bf,S,hz,k⟩
 ·obtain ⟨dx,ht⟩:=R.tbl
  walk_at "go2"
  refine ⟨rfl,rd_blV ?_⟩
  refine rd_iteT ?_
  walk_at "go2"
  exact ⟨Nat.zero_le _,k⟩
 obtain ⟨dx,ht⟩:=S.rep.tbl
 obtain ⟨hrb,db,hbt⟩:=S.bat.bt
 walk_at "go2"
 refine ⟨rfl,rd_blV ?_⟩
 refine rd_iteF ?_
 walk_at "go2"
 refine rd_cat S.bat.row.1.2 S.bat.set.1.2 (by rw [rfs_len,rfs_len,ev_len S.bat.row.2,ev_len S.bat.set.2,sizeLine_eq];omega) fun l hl=>?_
 have e:rfs lb.ra++rfs lb.sa=rfs (lb.ra++lb.sa):=by unfold rfs;rw [List.map_append]
 rw [e]
 exact k l hl)) only [↓zh1]
def offIds (W:Du.W) (v:Ev):List Nat:=(Vbdcai.offered (Vbdcai.ctrl W) W.effects v).map fun e=>e.id
theorem off_len {W:Du.W} (hW:WOk W) (v:Ev):(Vbdcai.offered (Vbdcai.ctrl W) W.effects v).length≤12:=by
 have h:(W.effects.filter fun e=>Vbdcai.matches_ (Vbdcai.ctrl W) e v).length≤12:=Nat.le_trans (List.length_filter_le _ _) hW.len
 unfold Vbdcai.offered
 dsimp only
 split
 ·exact Nat.le_trans (List.length_filter_le _ _) h
 exact h
def sp_offered_numbers (K:PySem.W.Frag) (C:Cl):Sp:=fun vs H Q _=>∃ (t b:Addr) (ρ:Rho) (lo:Lo) (lb:Lb) (W bf:Du.W) (v:Ev) (r:List Ev),vs=[.ref t]∧AskSt C ρ H t lo b lb W bf v r∧NewRow H (castL (offIds W v)) Q
theorem ok_offered_numbers (T:Tx K C) (F:Fun K "offered_numbers" "offered_numbers" s_offered_numbers f fd)  :FnOk P w K mg base CX0 1 f fd ["table"] (sp_offered_numbers K C):=by
 refine zh0 ?_;simp (disch:=k_dflt (
 refine F.ok sc_offered_numbers (by walk_at "ln") (fun cdv A outer s H vs Q E hr h=>?_)
 obtain ⟨t,b,ρ,lo,lb,W,bf,v,r,rfl,S,k⟩:=h
 refine ⟨_,(pss_one (ps_ret (pe_lc rfl sc_offered_numbers.nd (pi_list (pe_fld (pe_fld (pv 0) rfl) rfl)) (blkOk_by (own:=[("effect",1)]) rfl) (fun _ _ _ _ _=>(pg_name (i:=1) sc_offered_numbers.nd rfl (Or.inl rfl))) (fun _ _ _ _ _=>pts_nil) (fun _ _ _ _ _=>(pe_fldK (K:=K) rfl (pv 1) rfl))))),?_⟩
 obtain ⟨dx,ht⟩:=S.sb.rep.tbl
 obtain ⟨hrb,db,hbt⟩:=S.sb.bat.bt
 have hl:=S.sb.bat.off.2
 have hE:=EfsIn S
 have hlen:=Paired.length hE
 walk_at "go2"
 refine lc_pure (n:=1) (ys:=ivs (castL (offIds W v))) (SqL.of hl) (by show 1 < 2;decide) (by rw [ivs_len,castL_len,rfs_len,hlen];unfold offIds;rw [List.length_map]) (by rw [rfs_len,hlen,sizeLine_eq];have:=off_len S.asks.ok v;omega) (fun i x y D l R hx hy hD hR=>?_) fun D hD=>k.one hD
 obtain ⟨a,ha,rfl⟩:=rfs_inv hx
 obtain ⟨e,he,_,dy,lt,ls,ld,hef,_⟩:=paired_some hE ha
 have hef1:=upd_keep (o':=.lst l) hef hD
 have ey:y=iv e.id:=by
  unfold ivs castL offIds at hy
  rw [List.getElem?_map,List.getElem?_map,List.getElem?_map,he] at hy
  exact (Option.some.inj hy).symm
 subst ey
 walk_at "go2"
 exact hR)) only [↓zh1]
abbrev Dom (ρ:Rho) (H:Hp):Prop:=∀ b,H b=none→ρ b=(0,0)
abbrev All (ρ:Rho) (H:Hp) (ρ':Rho) (H':Hp):Prop:=Kp (fun _=>True) ρ H ρ' H'
theorem allOut {ρ ρ':Rho} {H H':Hp} (a:All ρ H ρ' H') {T:Nat→Prop}:Kp T ρ H ρ' H':=a.mono fun _ _=>trivial
theorem All.free {ρ ρ':Rho} {H H':Hp} (a:All ρ H ρ' H') {l:Addr} (h:H' l=none):H l=none:=by
 cases q:H l with
 | none=>rfl
 | some o=>rw [(a _ _ trivial q).2] at h;cases h
theorem allRole {ρ ρ':Rho} {H H':Hp} (a:All ρ H ρ' H') {l:Addr} {r:Nat × Nat} (h:H l=none):All ρ H (upR ρ' l r) H':=fun b o _ hb=>by
 have:=a b o trivial hb
 exact ⟨by rw [upR_ne (ne_of_none hb h)];exact this.1,this.2⟩
theorem All.put {ρ ρ':Rho} {H H':Hp} (a:All ρ H ρ' H') {l:Addr} {o:HO} (h:H l=none):All ρ H ρ' (upd H' l o):=fun b u _ hb=>by
 have:=a b u trivial hb
 exact ⟨this.1,by rw [upd_ne (ne_of_none hb h)];exact this.2⟩
theorem All.rep {ρ ρ':Rho} {H H':Hp} (a:All ρ H ρ' H') (d:Dom ρ' H') {t:Addr} {lo:Lo} {bV:V} {W:Du.W} (R:Rep C ρ H t lo bV W):Rep C ρ' H' t lo bV W:=R.keep (allOut a) d
theorem dom_roleE {ρ:Rho} {H:Hp} (d:Dom ρ H) {a:Addr} {o:HO} {r:Nat × Nat} (e:H a=some o):Dom (upR ρ a r) H:=dom_role d e
structure DupE (C:Cl) (ρ:Rho) (H:Hp) (es:List Ef) (D:Addr) (ρ':Rho) (H':Hp) (as:List Addr):Prop where
 ps:Paired (EfAt C ρ' H' 20) as es
 dom:Dom ρ' H'
 rD:ρ' D=(0,0)
 hD:H' D=some (.lst (rfs as))
 all:All ρ H ρ' H'
structure DupB (C:Cl) (ρ:Rho) (H:Hp) (bs:List Bk) (D:Addr) (ρ':Rho) (H':Hp) (as:List Addr):Prop where
 len:as.length=bs.length
 ps:∀ (k:Nat) a b,as[k]?=some a→bs[k]?=some b→ρ' a=(41,k)∧∃ dx,H' a=some (.ins C.book dx (bkFs b))
 dom:Dom ρ' H'
 rD:ρ' D=(0,0)
 hD:H' D=some (.lst (rfs as))
 all:All ρ H ρ' H'
theorem rfs_snoc (as:List Addr) (x:Addr):rfs as++[V.ref x]=rfs (as++[x]):=by unfold rfs;rw [List.map_append];rfl
theorem DupE.next {ρ:Rho} {H:Hp} {es:List Ef} {D:Addr} {ρ1:Rho} {H1:Hp} {as:List Addr} (I:DupE C ρ H es D ρ1 H1 as) (hD0:H D=none) {e:Ef} {H2:Hp} {x dy lt ls ld:Addr} (s:Same H1 H2) (fx:H1 x=none) (ft:H1 lt=none) (fs:H1 ls=none) (fd:H1 ld=none) (ts:lt≠ls) (td:lt≠ld) (sd:ls≠ld)
  (hx:H2 x=some (.ins C.effect dy (efFs e lt ls ld))) (ht:H2 lt=some (.lst (ivs (castL e.things)))) (hs:H2 ls=some (.lst (ivs (castL e.sources)))) (hd:H2 ld=some (.lst (ivs (actRow e.act)))) :
  DupE C ρ H (es++[e]) D (efR ρ1 20 e.id x lt ls ld) (upd H2 D (.lst (rfs as++[V.ref x]))) (as++[x]):=by
 refine zh0 ?_;simp (disch:=k_dflt (
 refine zh2 ?_
 have N:NewEf C ρ1 H2 x lt ls ld e:=⟨⟨dy,hx⟩,ht,hs,hd,I.dom _ fx,I.dom _ ft,I.dom _ fs,I.dom _ fd,ts,td,sd⟩
 have nD:∀ y,H1 y=none→D≠y:=fun y hy=>ne_of_none I.hD hy
 have rD:efR ρ1 20 e.id x lt ls ld D=(0,0):=by rw [efR_out (nD _ fx) (nD _ ft) (nD _ fs) (nD _ fd)];exact I.rD
 have k1:Kp (fun n=>20≤n∧n≤20 + 4) ρ1 H1 (efR ρ1 20 e.id x lt ls ld) (upd H2 D (.lst (rfs as++[V.ref x]))):=((Kp.same s).trans ((N.kp 20).mono fun n h=>by omega)).trans (Kp.upd (by rw [rD];simp))
 have k2:Kp (fun n=>20≤n∧n≤20 + 4) (efR ρ1 20 e.id x lt ls ld) H2 (efR ρ1 20 e.id x lt ls ld) (upd H2 D (.lst (rfs as++[V.ref x]))):=Kp.upd (by rw [rD];simp)
 refine ⟨Paired.snoc (pMap (fun _ _ q=>q.keep k1) I.ps) ((N.at_ 20).keep k2),dom_upd (N.dom 20 (dom_same I.dom s)),rD,by rw [upd_same,rfs_snoc],fun b o _ hb=>?_⟩
 obtain ⟨a1,a2⟩:=I.all b o trivial hb
 have n:∀ y,H1 y=none→b≠y:=fun y hy=>ne_of_none a2 hy
 exact ⟨by rw [efR_out (n _ fx) (n _ ft) (n _ fs) (n _ fd)];exact a1,by rw [upd_ne (ne_of_none hb hD0)];exact s _ _ a2⟩)) only [↓zh1]
theorem DupB.next {ρ:Rho} {H:Hp} {bs:List Bk} {D:Addr} {ρ1:Rho} {H1:Hp} {as:List Addr} (I:DupB C ρ H bs D ρ1 H1 as) (hD0:H D=none) {e:Bk} {H2:Hp} {x dy:Addr} (s:Same H1 H2) (fx:H1 x=none) (hx:H2 x=some (.ins C.book dy (bkFs e))) :
  DupB C ρ H (bs++[e]) D (upR ρ1 x (41,bs.length)) (upd H2 D (.lst (rfs as++[V.ref x]))) (as++[x]):=by
 refine zh0 ?_;simp (disch:=k_dflt (
 refine zh2 ?_
 have nDx:D≠x:=ne_of_none I.hD fx
 refine ⟨by rw [List.length_append,List.length_append,I.len];rfl,fun k a b ha hb=>?_,dom_upd (dom_role (dom_same I.dom s) hx),by rw [upR_ne nDx];exact I.rD,by rw [upd_same,rfs_snoc],fun b o _ hb=>?_⟩
 ·by_cases q:k < bs.length
  ·rw [List.getElem?_append_left (by rw [I.len];exact q)] at ha
   rw [List.getElem?_append_left q] at hb
   obtain ⟨r,d,h⟩:=I.ps k a b ha hb
   have nax:a≠x:=ne_of_none h fx
   have naD:a≠D:=ins_lst h I.hD
   exact ⟨by rw [upR_ne nax];exact r,d,by rw [upd_ne naD];exact s _ _ h⟩
  have hk:k=bs.length:=by
   have:=(List.getElem?_eq_some_iff.mp hb).1
   rw [List.length_append,List.length_singleton] at this
   omega
  subst hk
  rw [List.getElem?_append_right (Nat.le_refl _),Nat.sub_self] at hb
  rw [List.getElem?_append_right (by rw [I.len];exact Nat.le_refl _),I.len,Nat.sub_self] at ha
  have e1:x=a:=Option.some.inj ha
  have e2:e=b:=Option.some.inj hb
  subst e1 e2
  exact ⟨upR_same,dy,by rw [upd_ne (fun z=>nDx z.symm)];exact hx⟩
 obtain ⟨a1,a2⟩:=I.all b o trivial hb
 exact ⟨by rw [upR_ne (ne_of_none a2 fx)];exact a1,by rw [upd_ne (ne_of_none hb hD0)];exact s _ _ a2⟩)) only [↓zh1]
theorem toldW_next {W:Du.W} {vs:List Ev} {i:Nat} {v:Ev} (h:vs[i]?=some v):toldW W (vs.take (i + 1))=Vbdcai.note (toldW W (vs.take i)) v.kind fun b=>{ b with told:=b.told + v.amount }:=by
 unfold toldW
 rw [take_one h,List.foldl_append]
 rfl
def sp_begin (K:PySem.W.Frag) (C:Cl):Sp:=fun vs H Q _=>∃ (t rL:Addr) (ρ:Rho) (lo:Lo) (W:Du.W) (ev:List Ev) (ra:List Addr),vs=[.ref t,.ref rL]∧Rep C ρ H t lo .non W∧Rest W∧ρ rL=(7,0)∧H rL=some (.lst (rfs ra))∧Paired (EvAt C ρ H) ra ev∧ra.Nodup∧ev.length≤4 ∧
 (∀ v∈ev,EvOk W v∧v.used=[])∧∀ b,Ended C t b W (Vbdcai.goOn Vbdcai.ENOUGH { toldW W ev with todo:=ev }) ρ H Q
theorem ok_begin (T:Tx K C) (F:Fun K "begin" "begin" s_begin f fd) (q_Effect_duplicate:KnM P w K mg base C.effect "duplicate" 3 (sp_Effect_duplicate K C)) (q_Book_duplicate:KnM P w K mg base C.book "duplicate" 3 (sp_Book_duplicate K C)) (m_Batch:KnC P w K mg base "Batch" C.batch 1 (sp_Batch_init K C)) (k_go_on:Kn P w K mg base "go_on" 7 (sp_go_on K C)) :FnOk P w K mg base CX0 8 f fd ["table","row"] (sp_begin K C):=by
 refine F.ok sc_begin (by walk_at "ln") (fun cdv A outer s H vs Q E hr h=>?_)
 obtain ⟨t,rL,ρ,lo,W,ev,ra,rfl,R,hR,rrL,hrL,hev,hnd,hle,hok,k⟩:=h
 refine ⟨_,(pss_cons (ps_setLc (i:=2) rfl sc_begin.nd rfl rfl (sw_true rfl rfl rfl rfl) (pi_list (pe_fld (pv 0) rfl)) (blkOk_by (own:=[("effect",6)]) rfl) (fun _ _ _ _ _=>(pg_name (i:=6) sc_begin.nd rfl (Or.inl rfl))) (fun _ _ _ _ _=>pts_nil) (fun _ _ _ _ _=>(pe_methX0 (pv 6) q_Effect_duplicate (hr.mono (by decide))))) (pss_cons (ps_setLc (i:=3) rfl sc_begin.nd rfl rfl (sw_true rfl rfl rfl rfl) (pi_list (pe_fld (pv 0) rfl)) (blkOk_by (own:=[("book",5)]) rfl) (fun _ _ _ _ _=>(pg_name (i:=5) sc_begin.nd rfl (Or.inl rfl))) (fun _ _ _ _ _=>pts_nil) (fun _ _ _ _ _=>(pe_methX0 (pv 5) q_Book_duplicate (hr.mono (by decide))))) (pss_cons (ps_fld (pv 0) (pe_makeX m_Batch (hr.mono (by decide)) rfl (pa_cons (pv 1) (pa_cons (pv 2) (pa_cons (pv 3) pa_nil)))) rfl) (pss_cons (ps_for PassesOwn.never rfl (pi_list (pv 1)) (pg_name (i:=4) sc_begin.nd rfl (Or.inl rfl)) (pss_cons (ps_set (i:=5) sc_begin.nd rfl (Or.inl rfl) (pe_ix ix_list (pe_fld (pv 0) rfl) (pe_fld (pv 4) rfl) (fun _ _=>rfl))) (pss_one (ps_fldaug (pv 5) (pe_fld (pv 4) rfl) in_add)))) (pss_one (ps_expr (pe_callX k_go_on (hr.mono (by decide)) rfl (pa_cons (pv 0) pa_nil)))))))),?_⟩
 obtain ⟨dt,htb⟩:=R.tbl
 have hl:=R.ef.1.2
 walk_at "go2"
 refine lcAt_of (SqL.of hl) fun D1 hD1=>⟨fun i H'=>∃ ρ' as,DupE C ρ H (W.effects.take i) D1 ρ' H' as,⟨ρ,[],⟨.nil,dom_upd R.dom,R.dom _ hD1,upd_same,Kp.same (Same.upd_new hD1)⟩⟩,fun i H' _ ⟨ρ',as,I⟩=>SqL.of (I.all _ _ trivial hl).2,?_,?_⟩
 ·rintro i x H1 hx ⟨ρ1,as,I⟩
  obtain ⟨a,ha,rfl⟩:=rfs_inv hx
  obtain ⟨e,he,hat⟩:=paired_some R.ef.2 ha
  obtain ⟨_,dy,lt,ls,ld,hef,ht,hs,hd⟩:=hat.keep (allOut I.all)
  have hlen:as.length < sizeLine:=by
   rw [Paired.length I.ps,List.length_take,sizeLine_eq]
   have:=hR.ok.len
   omega
  refine ⟨wipe1_set _ _ _,?_⟩
  unfold tYes
  dsimp only
  rw [if_pos rfl]
  walk_at "go2"
  refine ⟨a,dy,lt,ls,ld,e,rfl,hef,ht.2,hs.2,hd.2,fun H2 x dz lt' ls' ld' s fx ft fs fd ts td sd hx2 ht2 hs2 hd2=>?_⟩
  refine ⟨rfs as,s _ _ I.hD,by rw [rfs_len];exact hlen,efR ρ1 20 e.id x lt' ls' ld',as++[x],?_⟩
  rw [take_one he]
  exact I.next hD1 s fx ft fs fd ts td sd hx2 ht2 hs2 hd2
 rintro H1 ⟨ρ1,as,I⟩
 rw [rfs_len,Paired.length R.ef.2,List.take_length] at I
 have R1:=I.all.rep I.dom R
 have rl1:=R1.bk.1.2
 obtain ⟨dt1,htb1⟩:=R1.tbl
 walk_at "go2"
 refine lcAt_of (SqL.of rl1) fun D2 hD2=>⟨fun i H'=>∃ ρ' bs,DupB C ρ1 H1 (W.books.take i) D2 ρ' H' bs,⟨ρ1,[],⟨rfl,fun k a b h=>(by simp at h),dom_upd I.dom,I.dom _ hD2,upd_same,Kp.same (Same.upd_new hD2)⟩⟩,fun i H' _ ⟨ρ',as,J⟩=>SqL.of (J.all _ _ trivial rl1).2,?_,?_⟩
 ·rintro i x H2 hx ⟨ρ2,bs,J⟩
  obtain ⟨a,ha,rfl⟩:=rfs_inv hx
  have hi:i < W.books.length:=by rw [← R1.bk.2.1];exact (List.getElem?_eq_some_iff.mp ha).1
  have hb:W.books[i]?=some W.books[i]:=List.getElem?_eq_getElem hi
  obtain ⟨_,dy,hbk⟩:=R1.bk.2.2 i a _ ha hb
  have hbk2:=(J.all _ _ trivial hbk).2
  have hlt:(W.books.take i).length=i:=by rw [List.length_take];omega
  have hlen:bs.length < sizeLine:=by
   rw [J.len,hlt,sizeLine_eq]
   have:=hR.ok.bks
   omega
  refine ⟨wipe1_set _ _ _,?_⟩
  unfold tYes
  dsimp only
  rw [if_pos rfl]
  walk_at "go2"
  refine ⟨a,dy,_,rfl,hbk2,fun H3 x dz s fx hx3=>?_⟩
  refine ⟨rfs bs,s _ _ J.hD,by rw [rfs_len];exact hlen,upR ρ2 x (41,(W.books.take i).length),bs++[x],?_⟩
  rw [take_one hb]
  exact J.next hD2 s fx hx3
 rintro H2 ⟨ρ2,bs,J⟩
 rw [rfs_len,R1.bk.2.1,List.take_length] at J
 -- roles of the two lists
 have hD1':H1 D1=some (.lst (rfs as)):=I.hD
 have n12:D1≠D2:=ne_of_none hD1' hD2
 have aJ:All ρ H (upR (upR ρ2 D1 (24,0)) D2 (40,0)) H2:=allRole (allRole (Kp.trans I.all J.all) hD1) (I.all.free hD2)
 have dJ:Dom (upR (upR ρ2 D1 (24,0)) D2 (40,0)) H2:=dom_role (dom_role J.dom (J.all _ _ trivial hD1').2) J.hD
 have kE:Kp (fun n=>20≤n∧n≤23) ρ1 H1 (upR (upR ρ2 D1 (24,0)) D2 (40,0)) H2:=fun b o hb he=>by
  obtain ⟨a1,a2⟩:=J.all b o trivial he
  have q1:b≠D1:=fun q=>by rw [q,I.rD] at hb;omega
  have q2:b≠D2:=ne_of_none he hD2
  exact ⟨by rw [upR_ne q2,upR_ne q1];exact a1,a2⟩
 have eF:EfsAt C (upR (upR ρ2 D1 (24,0)) D2 (40,0)) H2 20 D1 as W.effects:=⟨⟨by rw [upR_ne n12,upR_same],(J.all _ _ trivial hD1').2⟩,pMap (fun c x q=>by
  obtain ⟨h0,dx,lt,ls,ld,g1,g2,g3,g4⟩:=q
  obtain ⟨k0,k1⟩:=kp1 kE ⟨h0,g1⟩ (by show 20≤20∧20≤23;decide)
  exact ⟨k0,dx,lt,ls,ld,k1,kp1 kE g2 (by show 20≤21∧21≤23;decide),kp1 kE g3 (by show 20≤22∧22≤23;decide),kp1 kE g4 (by show 20≤23∧23≤23;decide)⟩) I.ps⟩
 have bF:BksAt C (upR (upR ρ2 D1 (24,0)) D2 (40,0)) H2 40 D2 bs W.books:=⟨⟨upR_same,J.hD⟩,J.len,fun i a b ha hb=>by
  obtain ⟨r,d,h⟩:=J.ps i a b ha hb
  have q1:a≠D1:=ins_lst h (J.all _ _ trivial hD1').2
  have q2:a≠D2:=ins_lst h J.hD
  exact ⟨by rw [upR_ne q2,upR_ne q1];exact r,d,h⟩⟩
 generalize upR (upR ρ2 D1 (24,0)) D2 (40,0)=ρ3 at *
 have R3:=aJ.rep dJ R
 obtain ⟨dt3,htb3⟩:=R3.tbl
 walk_at "go2"
 intro x dx hx hdx ne
 have hx':upd H2 dx (.own x) x=none:=by rw [upd_ne (fun q=>ne q.symm)];exact hx
 refine ⟨x,dx,rL,D1,D2,rfl,upd_same,fun H4 sL oL fsL foL nso hx4 hs4 ho4 kp4=>⟨rfl,?_⟩⟩
 have s4:Same H2 H4:=fun b o hb=>kp4 b o (ne_of_none hb hx) (by rw [upd_ne (ne_of_none hb hx),upd_ne (ne_of_none hb hdx)];exact hb)
 have hsL2:H2 sL=none:=Same.free ((Same.upd_new hdx).trans (Same.upd_new (o:=.ins C.batch dx []) hx')) fsL
 have hoL2:H2 oL=none:=Same.free ((Same.upd_new hdx).trans (Same.upd_new (o:=.ins C.batch dx []) hx')) foL
 have nxs:x≠sL:=ins_lst hx4 hs4
 have nxo:x≠oL:=ins_lst hx4 ho4
 have a4:All ρ3 H2 (upR (upR (upR ρ3 x (6,0)) sL (8,0)) oL (9,0)) H4:=allRole (allRole (allRole (Kp.same s4) hx) hsL2) hoL2
 have d4:Dom (upR (upR (upR ρ3 x (6,0)) sL (8,0)) oL (9,0)) H4:=dom_role (dom_role (dom_role (dom_same dJ s4) hx4) hs4) ho4
 have r4x:upR (upR (upR ρ3 x (6,0)) sL (8,0)) oL (9,0) x=(6,0):=by rw [upR_ne nxo,upR_ne nxs,upR_same]
 have r4s:upR (upR (upR ρ3 x (6,0)) sL (8,0)) oL (9,0) sL=(8,0):=by rw [upR_ne nso,upR_same]
 have r4o:upR (upR (upR ρ3 x (6,0)) sL (8,0)) oL (9,0) oL=(9,0):=upR_same
 generalize upR (upR (upR ρ3 x (6,0)) sL (8,0)) oL (9,0)=ρ4 at *
 have R4:=a4.rep d4 R3
 have a04:All ρ H ρ4 H4:=Kp.trans aJ a4
 have hrL4:=a04 _ _ trivial hrL
 have rt4:=R4.tb.1
 obtain ⟨dt4,htb4⟩:=R4.tbl
 have lb:Lb:=⟨rL,ra,sL,[],oL,[],D1,as,D2,bs⟩
 walk_at "go2"
 have R5:=R4.batch (dx:=dt4) (bV':=.ref x)
 have kb:Kp inBat ρ4 H4 ρ4 (upd H4 t (.ins C.table dt4 (tbFs lo.sL lo.tL lo.eL W.last lo.bL (.ref x)))):=Kp.upd (by rw [rt4];unfold inBat;decide)
 have B4:Bat C ρ4 H4 x ⟨rL,ra,sL,[],oL,[],D1,as,D2,bs⟩ { W with todo:=ev } W:=by
  refine ⟨⟨r4x,dx,hx4⟩,⟨⟨hrL4.1.trans rrL,hrL4.2⟩,pMap (fun _ _ q=>q.keep (allOut a04)) hev⟩,⟨⟨r4s,hs4⟩,?_⟩,by rw [List.append_nil];exact hnd,⟨r4o,ho4⟩,eF.keep (allOut a4),bF.keep (allOut a4)⟩
  show Paired _ [] W.settled
  rw [hR.settled]
  exact .nil
 have S5:SB C ρ4 (upd H4 t (.ins C.table dt4 (tbFs lo.sL lo.tL lo.eL W.last lo.bL (.ref x)))) t lo x ⟨rL,ra,sL,[],oL,[],D1,as,D2,bs⟩ { toldW W (ev.take 0) with todo:=ev } W:=⟨⟨R5.dom,R5.tb,R5.sd,R5.th,R5.ef,R5.bk⟩,B4.keep kb⟩
 have o5:Out ρ H ρ4 (upd H4 t (.ins C.table dt4 (tbFs lo.sL lo.tL lo.eL W.last lo.bL (.ref x)))):=(allOut a04).trans (Kp.upd (by rw [rt4];simp))
 refine forAt_of (SqL.of S5.bat.row.1.2) (fun i σ H'=>∃ u1 u2 u3,σ=[some (.ref t),some (.ref rL),some (.ref D1),some (.ref D2),u1,u2,u3]∧SB C ρ4 H' t lo x ⟨rL,ra,sL,[],oL,[],D1,as,D2,bs⟩ { toldW W (ev.take i) with todo:=ev } W∧Out ρ H ρ4 H')
  ⟨_,_,_,rfl,S5,o5⟩ (fun i σ H' _ ⟨_,_,_,_,S,_⟩=>SqL.of S.bat.row.1.2) ?_ ?_
 ·rintro i z σ H6 hz ⟨u1,u2,u3,rfl,S,o⟩
  obtain ⟨a,ha,rfl⟩:=rfs_inv hz
  obtain ⟨v,hv,hrv,dv,lu,hvv,hru,hus⟩:=ev_at S.bat.row.2 ha
  have hv':ev[i]?=some v:=hv
  obtain ⟨evk,_⟩:=hok v (List.mem_of_getElem? hv')
  have pt:=told_parts (ev.take i) W
  obtain ⟨ab,y,dbk,hab,hy,hbk,rab⟩:=book_at S.rep (n:=v.kind) (by show v.kind < (toldW W (ev.take i)).books.length;rw [pt.2.2.2.2.2.1,hR.ok.bks];have:=evk.kind;omega)
  obtain ⟨dt6,htb6⟩:=S.rep.tbl
  have hbl:=S.rep.bk.1.2
  walk_at "go2"
  refine rd_ix hbl (rfs_at hab rfl) ?_
  walk_at "go2"
  refine rd_put hbk (Nat.le_of_ble_eq_true rfl) (gs:=bkFs { y with told:=y.told + v.amount }) ?_ ?_
  ·rw [← Int.natCast_add]
   rfl
  have e1:({ toldW W (ev.take (i + 1)) with todo:=ev }:Du.W)={ ({ toldW W (ev.take i) with todo:=ev }:Du.W) with books:=({ toldW W (ev.take i) with todo:=ev }:Du.W).books.set v.kind { y with told:=y.told + v.amount } }:=by
   have hy':(toldW W (ev.take i)).books[v.kind]?=some y:=hy
   rw [toldW_next hv']
   unfold Vbdcai.note
   rw [getD_at hy']
  refine ⟨_,_,_,rfl,?_,o.trans (Kp.upd (by rw [rab];simp))⟩
  rw [e1]
  exact ⟨S.rep.book hab hy,S.bat.book S.rep hab hy⟩
 rintro σ H6 ⟨u1,u2,u3,rfl,S,o⟩
 have el:(rfs ra).length=ev.length:=by rw [rfs_len,ev_len hev]
 rw [show (rfs (Lb.ra ⟨rL,ra,sL,[],oL,[],D1,as,D2,bs⟩)).length=ev.length from el,List.take_length] at S
 obtain ⟨w1,b1,m1⟩:=begin_ok hR hle hok
 walk_at "go2"
 exact ⟨t,x,ρ4,lo,_,_,W,rfl,S,⟨w1,b1⟩,m1,(k x).from o⟩
def Grow (H:Hp) (v:V) (Q:VK):Prop:=∀ H',Same H H'→Q v H'
theorem Grow.now {H:Hp} {v:V} {Q:VK} (k:Grow H v Q):Q v H:=k H (fun _ _ h=>h)
theorem Grow.on {H H':Hp} {v:V} {Q:VK} (k:Grow H v Q) (s:Same H H'):Grow H' v Q:=fun H2 s2=>k H2 (s.trans s2)
def sp_is_within (K:PySem.W.Frag) (C:Cl):Sp:=fun vs H Q _=>∃ n lo hi:Int,vs=[.int n,.int lo,.int hi]∧Q (.bl (withinB n lo hi)) H
theorem ok_is_within (T:Tx K C) (F:Fun K "is_within" "is_within" s_is_within f fd)  :FnOk P w K mg base CX0 1 f fd ["number","least","most"] (sp_is_within K C):=by
 refine zh0 ?_;simp (disch:=k_dflt (
 refine F.ok sc_is_within (by walk_at "ln") (fun cdv A outer s H vs Q E hr h=>?_)
 obtain ⟨n,lo,hi,rfl,k⟩:=h
 refine ⟨_,(pss_one (ps_ret (pe_chain op_le op_le (pv 1) (pv 0) (pv 2)))),?_⟩
 unfold withinB at k
 walk_at "ifk2"
 ·exact k
 exact k)) only [↓zh1]
def ForZ (K:PySem.W.Frag) (a b:Addr) (g:TG) (tb:TS) (D:Ends) (σ:L2.St) (H1:Hp):Prop:=∃ W:Nat→Nat→L2.St→Hp→Prop,(∃ m,W 0 m σ H1)∧∀ i m σ H,W i m σ H →
 ((Izt K a b).stop i H∧D.nx σ H)∨((Izt K a b).go i H∧∃ N:L2.St→Hp→Prop,(∀ σ' H',N σ' H'→∃ m',m' < m∧W (i + 1) m' σ' H')∧∀ x H',(Izt K a b).yld i H x H'→g x σ H' fun σ2 H2=>tb { D with nx:=N,ct:=N,bk:=D.nx } σ2 H2)
theorem rd_forZ {ta:TA} {g:TG} {tb:TS} {D:Ends} {σ:L2.St} {H:Hp} (h:ta σ H fun vs H1=>∃ a b xs ys,vs=[.ref a,.ref b]∧SqL K H1 a xs∧SqT K H1 b ys∧ForZ K a b g tb D σ H1):tFor (iZt K ta) g tb D σ H:=h
theorem forZ_of {a b:Addr} {g:TG} {tb:TS} {D:Ends} {σ:L2.St} {H:Hp} {xs ys:List V} (hlen:xs.length≤ys.length) (Pv:Nat→L2.St→Hp→Prop) (h0:Pv 0 σ H) (hl:∀ i σ H,Pv i σ H→SqL K H a xs∧SqT K H b ys)
  (ht:∀ i x y T σ H,xs[i]?=some x→ys[i]?=some y→Pv i σ H→H T=none→g (.ref T) σ (upd H T (.tup [x,y])) fun σ2 H2=>tb { D with nx:=Pv (i + 1),ct:=Pv (i + 1),bk:=D.nx } σ2 H2) (hd:∀ σ H,Pv xs.length σ H→D.nx σ H):ForZ K a b g tb D σ H:=by
 refine zh0 ?_;simp (disch:=k_dflt (
 refine zh2 ?_
 refine ⟨fun i m σ H=>m=xs.length - i∧i≤xs.length∧Pv i σ H,⟨_,rfl,Nat.zero_le _,h0⟩,?_⟩
 rintro i m σ H ⟨rfl,hi,p⟩
 obtain ⟨hs,hty⟩:=hl i σ H p
 by_cases q:i=xs.length
 ·subst q
  exact .inl ⟨⟨xs,hs,Nat.le_refl _⟩,hd σ H p⟩
 have hx:xs[i]?=some xs[i]:=List.getElem?_eq_getElem (by omega)
 have hy:ys[i]?=some ys[i]:=List.getElem?_eq_getElem (by omega)
 refine .inr ⟨⟨xs,ys,_,_,hs,hty,hx,hy⟩,Pv (i + 1),fun σ' H' p'=>⟨xs.length - (i + 1),by omega,rfl,by omega,p'⟩,fun v H' ⟨T,x,y,ev,hT,eH,ex,ey⟩=>?_⟩
 subst ev eH
 exact ht i x y T σ H (ex _ hs) (ey _ hty) p hT)) only [↓zh1]
theorem rd_gT {H:Hp} {n:Nat} {t:TGs} {a:Addr} {xs:List V} {σ:L2.St} {Q:L2.St→Hp→Prop} (h:H a=some (.tup xs)) (hl:xs.length=n) (k:t xs σ H Q):gTup K n t (.ref a) σ H Q:=⟨a,xs,rfl,.inl (.inl h),hl,k⟩
theorem rd_gC {H:Hp} {t:TG} {u:TGs} {v:V} {r:List V} {σ:L2.St} {Q:L2.St→Hp→Prop} (k:t v σ H fun σ' H'=>u r σ' H' Q):gCons t u (v :: r) σ H Q:=⟨v,r,rfl,k⟩
theorem rd_gN {H:Hp} {σ:L2.St} {Q:L2.St→Hp→Prop} (k:Q σ H):gNil [] σ H Q:=⟨rfl,k⟩
theorem rd_lenT {H:Hp} {p:Addr} {xs:List V} {Q:VK} (h:SqT K H p xs) (q:Q (.int xs.length) H):LenAt K (.ref p) H Q:=⟨p,xs,rfl,.inr h,q⟩
structure Rng (K:PySem.W.Frag) (g:Addr) (rs:List (Int × Int)):Prop where
 ex:∃ as:List Addr,(∀ H,SqT K H g (rfs as))∧as.length=rs.length∧∀ (i:Nat) a r,as[i]?=some a→rs[i]?=some r→∀ H,SqT K H a [.int r.1,.int r.2]
theorem ivs_inv {l:List Int} {i:Nat} {x:V} (h:(ivs l)[i]?=some x):∃ n,l[i]?=some n∧x=.int n:=by
 unfold ivs at h
 rw [List.getElem?_map] at h
 cases q:l[i]? with
 | none=>rw [q] at h;cases h
 | some y=>rw [q] at h;exact ⟨y,rfl,(Option.some.inj h).symm⟩
theorem take_zip_next {ns:List Int} {rs:List (Int × Int)} {i:Nat} {n:Int} {r:Int × Int} (hn:ns[i]?=some n) (hr:rs[i]?=some r):(ns.zip rs).take (i + 1)=(ns.zip rs).take i++[(n,r)]:=take_one (by rw [List.getElem?_zip_eq_some];exact ⟨hn,hr⟩)
def rngF (p:Int × (Int × Int)):Bool:=withinB p.1 p.2.1 p.2.2
def sp_are_in_ranges (K:PySem.W.Frag) (C:Cl):Sp:=fun vs H Q _=>∃ (l g:Addr) (ns:List Int) (rs:List (Int × Int)),vs=[.ref l,.ref g]∧H l=some (.lst (ivs ns))∧Rng K g rs∧Grow H (.bl (rngB ns rs)) Q
theorem ok_are_in_ranges (T:Tx K C) (F:Fun K "are_in_ranges" "are_in_ranges" s_are_in_ranges f fd) (b_len:mg "len"=none) (b_zip:mg "zip"=none) (k_is_within:Kn P w K mg base "is_within" 1 (sp_is_within K C)) :FnOk P w K mg base CX0 2 f fd ["numbers","ranges"] (sp_are_in_ranges K C):=by
 refine zh0 ?_;simp (disch:=k_dflt (
 refine F.ok sc_are_in_ranges (by walk_at "ln") (fun cdv A outer s H vs Q E hr h=>?_)
 obtain ⟨l,g,ns,rs,rfl,hl,hg,k⟩:=h
 refine ⟨_,(pss_cons (ps_if (pt_cmpR op_ne (pe_callB call_len_seq rfl b_len PySem.boot_len (pa_cons (pv 0) pa_nil)) (pe_callB call_len_seq rfl b_len PySem.boot_len (pa_cons (pv 1) pa_nil)) (nomark _)) (pss_one (ps_ret pe_bl)) pss_nil) (pss_cons (ps_for PassesOwn.never rfl (pi_zt rfl b_zip (pa_cons (pv 0) (pa_cons (pv 1) pa_nil))) (pg_tup rfl (pgs_cons (pg_name (i:=2) sc_are_in_ranges.nd rfl (Or.inl rfl)) (pgs_cons (pg_name (i:=3) sc_are_in_ranges.nd rfl (Or.inl rfl)) pgs_nil))) (pss_one (ps_if (pt_not (pt_val (pe_callX k_is_within (hr.mono (by decide)) rfl (pa_cons (pv 2) (pa_cons (pe_ix ix_tup (pv 3) pe_int (fun _ _=>rfl)) (pa_cons (pe_ix ix_tup (pv 3) pe_int (fun _ _=>rfl)) pa_nil)))))) (pss_one (ps_ret pe_bl)) pss_nil))) (pss_one (ps_ret pe_bl)))),?_⟩
 obtain ⟨as,hT,hal,hA⟩:=hg.ex
 unfold rngB at k
 walk_at "go2"
 refine rd_lenT (hT _) ?_
 walk_at "go2"
 refine rd_iteN (fun h0=>?_) fun h0=>?_
 ·rw [decide_eq_false (by rw [ivs_len,rfs_len,hal] at h0;omega),Bool.false_and] at k
  walk_at "go2"
  exact k.now
 rw [ivs_len,rfs_len,hal] at h0
 rw [decide_eq_true (by omega),Bool.true_and] at k
 walk_at "go2"
 refine rd_forZ ?_
 walk_at "go2"
 refine ⟨l,g,_,_,rfl,SqL.of hl,hT _,?_⟩
 refine forZ_of (by rw [ivs_len,rfs_len,hal];omega) (fun i σ H'=>∃ u1 u2,σ=[some (.ref l),some (.ref g),u1,u2]∧Same H H'∧((ns.zip rs).take i).all rngF=true) ⟨none,none,rfl,fun _ _ h=>h,rfl⟩ (fun i σ H' ⟨_,_,_,s,_⟩=>⟨SqL.of (s _ _ hl),hT _⟩) ?_ ?_
 ·rintro i x y T σ H1 hx hy ⟨u1,u2,rfl,s,hall⟩ hTn
  obtain ⟨n,hn,rfl⟩:=ivs_inv hx
  obtain ⟨a,ha,rfl⟩:=rfs_inv hy
  have hi:i < rs.length:=by rw [← hal];exact (List.getElem?_eq_some_iff.mp ha).1
  have hr:rs[i]?=some rs[i]:=List.getElem?_eq_getElem hi
  have hat:=hA i a _ ha hr
  have s2:Same H (upd H1 T (.tup [.int n,.ref a])):=s.trans (Same.upd_new hTn)
  refine rd_gT upd_same rfl (rd_gC ?_)
  refine rd_g (rd_gC ?_)
  refine rd_g (rd_gN ?_)
  walk_at "go2"
  refine rd_ixT (hat _) at0 ?_
  walk_at "go2"
  refine rd_ixT (hat _) at1 ?_
  walk_at "go2"
  refine ⟨n,_,_,rfl,?_⟩
  walk_at "go2"
  refine rd_iteB (fun h1=>?_) fun h1=>?_
  ·walk_at "go2"
   have e:((ns.zip rs).all fun p=>withinB p.1 p.2.1 p.2.2)=false:=by
    rw [List.all_eq_false]
    refine ⟨(n,rs[i]),List.mem_of_getElem? (List.getElem?_zip_eq_some.mpr ⟨hn,hr⟩),?_⟩
    simpa using h1
   rw [e] at k
   exact k _ s2
  walk_at "go2"
  refine ⟨_,_,rfl,s2,?_⟩
  rw [take_zip_next hn hr,List.all_append,hall]
  have:withinB n rs[i].1 rs[i].2=true:=by simpa using h1
  simp [rngF,this]
 rintro σ H1 ⟨u1,u2,rfl,s,hall⟩
 walk_at "go2"
 have hz:(ns.zip rs).length=(ivs ns).length:=by rw [List.length_zip,ivs_len];omega
 rw [← hz,List.take_length] at hall
 have e:((ns.zip rs).all fun p=>withinB p.1 p.2.1 p.2.2)=true:=hall
 rw [e] at k
 exact k _ s)) only [↓zh1]
def sp_are_zero (K:PySem.W.Frag) (C:Cl):Sp:=fun vs H Q _=>∃ (l:Addr) (ns:List Int),vs=[.ref l]∧H l=some (.lst (ivs ns))∧ns.length≤1000∧Grow H (.bl (zerosB ns)) Q
theorem ok_are_zero (T:Tx K C) (F:Fun K "are_zero" "are_zero" s_are_zero f fd) (b_all:mg "all"=none) :FnOk P w K mg base CX0 1 f fd ["numbers"] (sp_are_zero K C):=by
 refine zh0 ?_;simp (disch:=k_dflt (
 refine F.ok sc_are_zero (by walk_at "ln") (fun cdv A outer s H vs Q E hr h=>?_)
 obtain ⟨l,ns,rfl,hl,hz,k⟩:=h
 refine ⟨_,(pss_one (ps_ret (pe_callB (call_all rfl) rfl b_all PyProof.Rows.boot_all (pa_cons (pe_lc rfl sc_are_zero.nd (pi_list (pv 0)) (blkOk_by (own:=[("number",1)]) rfl) (fun _ _ _ _ _=>(pg_name (i:=1) sc_are_zero.nd rfl (Or.inl rfl))) (fun _ _ _ _ _=>pts_nil) (fun _ _ _ _ _=>(pe_cmpR op_eq (pv 1) pe_int (nomark _)))) pa_nil)))),?_⟩
 walk_at "go2"
 refine lc_pure (n:=1) (ys:=(ns.map fun x=>decide (x=0)).map V.bl) (SqL.of hl) (by show 1 < 2;decide) (by rw [List.length_map,List.length_map,ivs_len]) (by rw [ivs_len,sizeLine_eq];omega) (fun i x y D l R hx hy hD hR=>?_) fun D hD=>?_
 ·obtain ⟨n,hn,rfl⟩:=ivs_inv hx
  have ey:y=V.bl (decide (n=0)):=by
   rw [List.getElem?_map,List.getElem?_map,hn] at hy
   exact (Option.some.inj hy).symm
  subst ey
  walk_at "go2"
  exact hR
 walk_at "go2"
 refine rd_all upd_same ?_
 have e:(ns.map fun x=>decide (x=0)).all id=zerosB ns:=by
  unfold zerosB
  rw [List.all_map]
  rfl
 rw [e]
 exact k _ (Same.upd_new hD))) only [↓zh1]
def sp_is_row_of_things (K:PySem.W.Frag) (C:Cl):Sp:=fun vs H Q _=>∃ (l:Addr) (ns:List Int),vs=[.ref l]∧H l=some (.lst (ivs ns))∧ns.length≤1000∧Grow H (.bl (thingsB ns)) Q
theorem ok_is_row_of_things (T:Tx K C) (F:Fun K "is_row_of_things" "is_row_of_things" s_is_row_of_things f fd) (b_all:mg "all"=none) (k_is_within:Kn P w K mg base "is_within" 1 (sp_is_within K C)) (c_MOST_THINGS:CI mg "MOST_THINGS" (16)) (b_len:mg "len"=none) :FnOk P w K mg base CX0 2 f fd ["row"] (sp_is_row_of_things K C):=by
 refine zh0 ?_;simp (disch:=k_dflt (
 refine F.ok sc_is_row_of_things (by walk_at "ln") (fun cdv A outer s H vs Q E hr h=>?_)
 obtain ⟨l,ns,rfl,hl,hz,k⟩:=h
 refine ⟨_,(pss_one (ps_ret (pe_and (pe_cmpR op_le (pe_callB call_len_seq rfl b_len PySem.boot_len (pa_cons (pv 0) pa_nil)) (pe_ci c_MOST_THINGS rfl) (nomark _)) (pe_one (pe_callB (call_all rfl) rfl b_all PyProof.Rows.boot_all (pa_cons (pe_lc rfl sc_is_row_of_things.nd (pi_list (pv 0)) (blkOk_by (own:=[("number",1)]) rfl) (fun _ _ _ _ _=>(pg_name (i:=1) sc_is_row_of_things.nd rfl (Or.inl rfl))) (fun _ _ _ _ _=>pts_nil) (fun _ _ _ _ _=>(pe_callX k_is_within (hr.mono (by decide)) rfl (pa_cons (pv 1) (pa_cons pe_int (pa_cons (pe_ci c_MOST_THINGS rfl) pa_nil)))))) pa_nil)))))),?_⟩
 unfold thingsB at k
 walk_at "go2"
 rw [ivs_len]
 refine rd_ite (fun h0=>?_) fun h0=>?_
 ·rw [decide_eq_true (by omega),Bool.true_and] at k
  walk_at "go2"
  refine lc_pure (n:=1) (ys:=(ns.map fun x=>withinB x 1 16).map V.bl) (SqL.of hl) (by show 1 < 2;decide) (by rw [List.length_map,List.length_map,ivs_len]) (by rw [ivs_len,sizeLine_eq];omega) (fun i x y D l R hx hy hD hR=>?_) fun D hD=>?_
  ·obtain ⟨n,hn,rfl⟩:=ivs_inv hx
   have ey:y=V.bl (withinB n 1 16):=by
    rw [List.getElem?_map,List.getElem?_map,hn] at hy
    exact (Option.some.inj hy).symm
   subst ey
   walk_at "go2"
   exact ⟨n,1,16,rfl,hR⟩
  walk_at "go2"
  refine rd_all upd_same ?_
  have e:(ns.map fun x=>withinB x 1 16).all id=ns.all fun n=>withinB n 1 16:=by
   rw [List.all_map]
   rfl
  rw [e]
  exact k _ (Same.upd_new hD)
 rw [decide_eq_false (by omega),Bool.false_and] at k
 exact k.now)) only [↓zh1]
theorem row5 {r:List Int} (h:r.length=5):∃ a b c d e,r=[a,b,c,d,e]:=by
 match r,h with
 | [a,b,c,d,e],_=>exact ⟨a,b,c,d,e,rfl⟩
theorem evB_len {r:List Int} (h:r.length≠5):evB r=false:=by
 unfold evB
 split
 ·exact absurd rfl h
 rfl
theorem doesB_len {r:List Int} (h:r.length≠5):doesB r=false:=by
 unfold doesB
 split
 ·exact absurd rfl h
 rfl
def sp_is_event_row (K:PySem.W.Frag) (C:Cl):Sp:=fun vs H Q _=>∃ (l:Addr) (r:List Int),vs=[.ref l]∧H l=some (.lst (ivs r))∧Q (.bl (evB r)) H
theorem ok_is_event_row (T:Tx K C) (F:Fun K "is_event_row" "is_event_row" s_is_event_row f fd) (k_is_within:Kn P w K mg base "is_within" 1 (sp_is_within K C)) (c_LAST_KIND:CI mg "LAST_KIND" (5)) (b_len:mg "len"=none) (c_EVENT_NUMBERS:CI mg "EVENT_NUMBERS" (5)) (k_is_target:Kn P w K mg base "is_target" 2 (sp_is_target K C)) (c_MOST_THINGS:CI mg "MOST_THINGS" (16)) (c_MOVE:CI mg "MOVE" (5)) (c_LAST_PLACE:CI mg "LAST_PLACE" (3)) (c_MOST_AMOUNT:CI mg "MOST_AMOUNT" (1000000)) :FnOk P w K mg base CX0 3 f fd ["row"] (sp_is_event_row K C):=by
 refine zh0 ?_;simp (disch:=k_dflt (
 refine F.ok sc_is_event_row (by walk_at "ln") (fun cdv A outer s H vs Q E hr h=>?_)
 obtain ⟨l,r,rfl,hl,k⟩:=h
 refine ⟨_,(pss_cons (ps_if (PW.pt (pw_or (pt_cmpR op_ne (pe_callB call_len_seq rfl b_len PySem.boot_len (pa_cons (pv 0) pa_nil)) (pe_ci c_EVENT_NUMBERS rfl) (nomark _)) (pw_or1 (pt_not (pt_val (pe_callX k_is_within (hr.mono (by decide)) rfl (pa_cons (pe_ix ix_list (pv 0) pe_int (fun _ _=>rfl)) (pa_cons pe_int (pa_cons (pe_ci c_LAST_KIND rfl) pa_nil))))))))) (pss_one (ps_ret pe_bl)) pss_nil) (pss_cons (ps_if (PW.pt (pw_or (pt_not (pt_val (pe_callX k_is_within (hr.mono (by decide)) rfl (pa_cons (pe_ix ix_list (pv 0) pe_int (fun _ _=>rfl)) (pa_cons pe_int (pa_cons (pe_ci c_MOST_THINGS rfl) pa_nil)))))) (pw_or1 (pt_not (pt_val (pe_callX k_is_target (hr.mono (by decide)) rfl (pa_cons (pe_ix ix_list (pv 0) pe_int (fun _ _=>rfl)) pa_nil))))))) (pss_one (ps_ret pe_bl)) pss_nil) (pss_cons (ps_if (pt_cmpR op_eq (pe_ix ix_list (pv 0) pe_int (fun _ _=>rfl)) (pe_ci c_MOVE rfl) (nomark _)) (pss_one (ps_ret (pe_and (pe_cmpR op_eq (pe_ix ix_list (pv 0) pe_int (fun _ _=>rfl)) pe_int (nomark _)) (pe_one (pe_callX k_is_within (hr.mono (by decide)) rfl (pa_cons (pe_ix ix_list (pv 0) pe_int (fun _ _=>rfl)) (pa_cons pe_int (pa_cons (pe_ci c_LAST_PLACE rfl) pa_nil)))))))) pss_nil) (pss_one (ps_ret (pe_and (pe_callX k_is_within (hr.mono (by decide)) rfl (pa_cons (pe_ix ix_list (pv 0) pe_int (fun _ _=>rfl)) (pa_cons pe_int (pa_cons (pe_ci c_MOST_AMOUNT rfl) pa_nil)))) (pe_one (pe_cmpR op_eq (pe_ix ix_list (pv 0) pe_int (fun _ _=>rfl)) pe_int (nomark _))))))))),?_⟩
 walk_at "go2"
 rw [ivs_len]
 refine rd_iteN (fun h0=>?_) fun h0=>?_
 ·walk_at "go2"
  rw [evB_len (by omega)] at k
  exact k
 obtain ⟨a,b,c,d,e,rfl⟩:=row5 (r:=r) (by omega)
 have k:Q (.bl (evB5 a b c d e)) H:=k
 unfold evB5 at k
 walk_at "go2"
 refine rd_ix hl at0 ?_
 walk_at "go2"
 refine ⟨a,0,5,rfl,?_⟩
 walk_at "go2"
 refine rd_iteB (fun h1=>?_) fun h1=>?_
 ·rw [if_pos h1] at k
  walk_at "go2"
  exact k
 rw [if_neg (by rw [h1];decide)] at k
 walk_at "go2"
 refine rd_ix hl at1 ?_
 walk_at "go2"
 refine ⟨b,0,16,rfl,?_⟩
 walk_at "go2"
 refine rd_iteB (fun h2=>?_) fun h2=>?_
 ·rw [if_pos (by rw [h2];rfl)] at k
  walk_at "go2"
  exact k
 walk_at "go2"
 refine rd_ix hl at2 ?_
 walk_at "go2"
 refine ⟨c,rfl,?_⟩
 walk_at "go2"
 refine rd_iteB (fun h3=>?_) fun h3=>?_
 ·rw [if_pos (by rw [h2,h3];rfl)] at k
  walk_at "go2"
  exact k
 rw [if_neg (by rw [h2,h3];decide)] at k
 walk_at "go2"
 refine rd_ix hl at0 ?_
 walk_at "go2"
 refine rd_ite (fun h4=>?_) fun h4=>?_
 ·rw [if_pos h4] at k
  walk_at "go2"
  refine rd_ix hl at3 ?_
  walk_at "go2"
  refine rd_ite (fun h5=>?_) fun h5=>?_
  ·rw [decide_eq_true h5,Bool.true_and] at k
   walk_at "go2"
   refine rd_ix hl at4 ?_
   walk_at "go2"
   exact ⟨e,0,3,rfl,k⟩
  rw [decide_eq_false h5,Bool.false_and] at k
  exact k
 rw [if_neg h4] at k
 walk_at "go2"
 refine rd_ix hl at3 ?_
 walk_at "go2"
 refine ⟨d,0,1000000,rfl,?_⟩
 walk_at "go2"
 refine rd_iteB (fun h5=>?_) fun h5=>?_
 ·rw [h5,Bool.true_and] at k
  walk_at "go2"
  refine rd_ix hl at4 ?_
  walk_at "go2"
  exact k
 rw [h5,Bool.false_and] at k
 exact k)) only [↓zh1]
def sp_is_made_event (K:PySem.W.Frag) (C:Cl):Sp:=fun vs H Q _=>∃ a x n z:Int,vs=[.int a,.int x,.int n,.int z]∧Q (.bl (madeEvB a x n z)) H
theorem ok_is_made_event (T:Tx K C) (F:Fun K "is_made_event" "is_made_event" s_is_made_event f fd) (k_is_target:Kn P w K mg base "is_target" 2 (sp_is_target K C)) (k_is_within:Kn P w K mg base "is_within" 1 (sp_is_within K C)) (c_LAST_KIND:CI mg "LAST_KIND" (5)) (c_MOVE:CI mg "MOVE" (5)) (c_LAST_PLACE:CI mg "LAST_PLACE" (3)) (c_MOST_AMOUNT:CI mg "MOST_AMOUNT" (1000000)) :FnOk P w K mg base CX0 3 f fd ["kind","target","amount","place"] (sp_is_made_event K C):=by
 refine zh0 ?_;simp (disch:=k_dflt (
 refine F.ok sc_is_made_event (by walk_at "ln") (fun cdv A outer s H vs Q E hr h=>?_)
 obtain ⟨a,x,n,z,rfl,k⟩:=h
 refine ⟨_,(pss_cons (ps_if (PW.pt (pw_or (pt_not (pt_val (pe_callX k_is_within (hr.mono (by decide)) rfl (pa_cons (pv 0) (pa_cons pe_int (pa_cons (pe_ci c_LAST_KIND rfl) pa_nil)))))) (pw_or1 (pt_not (pt_val (pe_callX k_is_target (hr.mono (by decide)) rfl (pa_cons (pv 1) pa_nil))))))) (pss_one (ps_ret pe_bl)) pss_nil) (pss_cons (ps_if (pt_cmpR op_eq (pv 0) (pe_ci c_MOVE rfl) (nomark _)) (pss_one (ps_ret (pe_and (pe_cmpR op_eq (pv 2) pe_int (nomark _)) (pe_one (pe_callX k_is_within (hr.mono (by decide)) rfl (pa_cons (pv 3) (pa_cons pe_int (pa_cons (pe_ci c_LAST_PLACE rfl) pa_nil)))))))) pss_nil) (pss_one (ps_ret (pe_and (pe_callX k_is_within (hr.mono (by decide)) rfl (pa_cons (pv 2) (pa_cons pe_int (pa_cons (pe_ci c_MOST_AMOUNT rfl) pa_nil)))) (pe_one (pe_cmpR op_eq (pv 3) pe_int (nomark _)))))))),?_⟩
 unfold madeEvB at k
 walk_at "go2"
 refine ⟨a,0,5,rfl,?_⟩
 walk_at "go2"
 refine rd_iteB (fun h1=>?_) fun h1=>?_
 ·rw [if_pos (by rw [h1];rfl)] at k
  walk_at "go2"
  exact k
 walk_at "go2"
 refine ⟨x,rfl,?_⟩
 walk_at "go2"
 refine rd_iteB (fun h2=>?_) fun h2=>?_
 ·rw [if_pos (by rw [h1,h2];rfl)] at k
  walk_at "go2"
  exact k
 rw [if_neg (by rw [h1,h2];decide)] at k
 walk_at "go2"
 refine rd_ite (fun h3=>?_) fun h3=>?_
 ·rw [if_pos h3] at k
  walk_at "go2"
  refine rd_ite (fun h5=>?_) fun h5=>?_
  ·rw [decide_eq_true h5,Bool.true_and] at k
   walk_at "go2"
   exact ⟨z,0,3,rfl,k⟩
  rw [decide_eq_false h5,Bool.false_and] at k
  exact k
 rw [if_neg h3] at k
 walk_at "go2"
 refine ⟨n,0,1000000,rfl,?_⟩
 walk_at "go2"
 refine rd_iteB (fun h5=>?_) fun h5=>?_
 ·rw [h5,Bool.true_and] at k
  walk_at "go2"
  exact k
 rw [h5,Bool.false_and] at k
 exact k)) only [↓zh1]
theorem rd_inT {H:Hp} {p:Addr} {l:List Int} {x:Int} {Q:VK} (h:H p=some (.tup (ivs l))) (q:Q (.bl (hasZ l x)) H):rIn K false (.int x) (.ref p) H Q:=⟨p,_,rfl,.inr (.inl (.inl h)),rfl,ivs_flat l,by rw [inV_ivs];exact q⟩
theorem has3 {a b c x:Int}:hasZ [a,b,c] x=true↔(x=a∨x=b∨x=c):=by
 unfold hasZ
 simp
 constructor
 ·rintro (q | q | q)
  ·exact .inl q.symm
  ·exact .inr (.inl q.symm)
  exact .inr (.inr q.symm)
 rintro (q | q | q)
 ·exact .inl q.symm
 ·exact .inr (.inl q.symm)
 exact .inr (.inr q.symm)
theorem cut1 {a b c d e:Int}:cutV (ivs [a,b,c,d,e]) (some 1) none=ivs [b,c,d,e]:=rfl
theorem cut2 {a b c d e:Int}:cutV (ivs [a,b,c,d,e]) (some 2) none=ivs [c,d,e]:=rfl
def sp_is_does_row (K:PySem.W.Frag) (C:Cl):Sp:=fun vs H Q _=>∃ (l:Addr) (r:List Int),vs=[.ref l]∧H l=some (.lst (ivs r))∧Grow H (.bl (doesB r)) Q
theorem ok_is_does_row (T:Tx K C) (F:Fun K "is_does_row" "is_does_row" s_is_does_row f fd) (b_len:mg "len"=none) (c_DOES_NUMBERS:CI mg "DOES_NUMBERS" (5)) (c_BESIDES:CI mg "BESIDES" (9)) (c_INSTEAD:CI mg "INSTEAD" (8)) (k_is_made_event:Kn P w K mg base "is_made_event" 3 (sp_is_made_event K C)) (c_NOTHING:CI mg "NOTHING" (4)) (c_HALF:CI mg "HALF" (3)) (c_TWICE:CI mg "TWICE" (2)) (k_are_zero:Kn P w K mg base "are_zero" 1 (sp_are_zero K C)) (c_SHIELD:CI mg "SHIELD" (5)) (c_MORE:CI mg "MORE" (1)) (c_LESS:CI mg "LESS" (0)) (k_is_within:Kn P w K mg base "is_within" 1 (sp_is_within K C)) (c_MOST_AMOUNT:CI mg "MOST_AMOUNT" (1000000)) (c_SPLIT:CI mg "SPLIT" (7)) (c_TURN:CI mg "TURN" (6)) (k_is_target:Kn P w K mg base "is_target" 2 (sp_is_target K C)) (c_LAST_PLACE:CI mg "LAST_PLACE" (3)) (c_ELSEWHERE:CI mg "ELSEWHERE" (10)) :FnOk P w K mg base CX0 4 f fd ["row"] (sp_is_does_row K C):=by
 refine zh0 ?_;simp (disch:=k_dflt (
 refine F.ok sc_is_does_row (by walk_at "ln") (fun cdv A outer s H vs Q E hr h=>?_)
 obtain ⟨l,r,rfl,hl,k⟩:=h
 refine ⟨_,(pss_cons (ps_if (pt_cmpR op_ne (pe_callB call_len_seq rfl b_len PySem.boot_len (pa_cons (pv 0) pa_nil)) (pe_ci c_DOES_NUMBERS rfl) (nomark _)) (pss_one (ps_ret pe_bl)) pss_nil) (pss_cons (ps_set (i:=1) sc_is_does_row.nd rfl (Or.inl rfl) (pe_ix ix_list (pv 0) pe_int (fun _ _=>rfl))) (pss_cons (ps_if (PW.pt (pw_or (pt_cmpR op_eq (pv 1) (pe_ci c_INSTEAD rfl) (nomark _)) (pw_or1 (pt_cmpR op_eq (pv 1) (pe_ci c_BESIDES rfl) (nomark _))))) (pss_one (ps_ret (pe_callX k_is_made_event (hr.mono (by decide)) rfl (pa_cons (pe_ix ix_list (pv 0) pe_int (fun _ _=>rfl)) (pa_cons (pe_ix ix_list (pv 0) pe_int (fun _ _=>rfl)) (pa_cons (pe_ix ix_list (pv 0) pe_int (fun _ _=>rfl)) (pa_cons (pe_ix ix_list (pv 0) pe_int (fun _ _=>rfl)) pa_nil))))))) pss_nil) (pss_cons (ps_if (pt_cmpR op_in_seq (pv 1) (pe_tup (pa_cons (pe_ci c_TWICE rfl) (pa_cons (pe_ci c_HALF rfl) (pa_cons (pe_ci c_NOTHING rfl) pa_nil)))) rfl) (pss_one (ps_ret (pe_callX k_are_zero (hr.mono (by decide)) rfl (pa_cons (pe_slice sl_list (pv 0) (po_some pe_int) po_none) pa_nil)))) pss_nil) (pss_cons (ps_if (pt_cmpR op_in_seq (pv 1) (pe_tup (pa_cons (pe_ci c_LESS rfl) (pa_cons (pe_ci c_MORE rfl) (pa_cons (pe_ci c_SHIELD rfl) pa_nil)))) rfl) (pss_one (ps_ret (pe_and (pe_callX k_is_within (hr.mono (by decide)) rfl (pa_cons (pe_ix ix_list (pv 0) pe_int (fun _ _=>rfl)) (pa_cons pe_int (pa_cons (pe_ci c_MOST_AMOUNT rfl) pa_nil)))) (pe_one (pe_callX k_are_zero (hr.mono (by decide)) rfl (pa_cons (pe_slice sl_list (pv 0) (po_some pe_int) po_none) pa_nil)))))) pss_nil) (pss_cons (ps_if (PW.pt (pw_or (pt_cmpR op_eq (pv 1) (pe_ci c_TURN rfl) (nomark _)) (pw_or1 (pt_cmpR op_eq (pv 1) (pe_ci c_SPLIT rfl) (nomark _))))) (pss_one (ps_ret (pe_and (pe_callX k_is_target (hr.mono (by decide)) rfl (pa_cons (pe_ix ix_list (pv 0) pe_int (fun _ _=>rfl)) pa_nil)) (pe_one (pe_callX k_are_zero (hr.mono (by decide)) rfl (pa_cons (pe_slice sl_list (pv 0) (po_some pe_int) po_none) pa_nil)))))) pss_nil) (pss_one (ps_ret (pe_and (pe_cmpR op_eq (pv 1) (pe_ci c_ELSEWHERE rfl) (nomark _)) (pe_and (pe_callX k_is_within (hr.mono (by decide)) rfl (pa_cons (pe_ix ix_list (pv 0) pe_int (fun _ _=>rfl)) (pa_cons pe_int (pa_cons (pe_ci c_LAST_PLACE rfl) pa_nil)))) (pe_one (pe_callX k_are_zero (hr.mono (by decide)) rfl (pa_cons (pe_slice sl_list (pv 0) (po_some pe_int) po_none) pa_nil))))))))))))),?_⟩
 walk_at "go2"
 rw [ivs_len]
 refine rd_iteN (fun h0=>?_) fun h0=>?_
 ·walk_at "go2"
  rw [doesB_len (by omega)] at k
  exact k.now
 obtain ⟨a,b,c,d,e,rfl⟩:=row5 (r:=r) (by omega)
 have k:Grow H (.bl (does5 a b c d e)) Q:=k
 unfold does5 at k
 walk_at "go2"
 refine rd_ix hl at0 ?_
 have made:(a=8∨a=9)→Grow H (.bl (madeEvB b c d e)) Q:=fun h=>by rw [if_pos h] at k;exact k
 walk_at "go2"
 refine rd_ite (fun h1=>?_) fun h1=>?_
 ·walk_at "go2"
  refine rd_ix hl at1 ?_
  walk_at "go2"
  refine rd_ix hl at2 ?_
  walk_at "go2"
  refine rd_ix hl at3 ?_
  walk_at "go2"
  refine rd_ix hl at4 ?_
  walk_at "go2"
  exact ⟨b,c,d,e,rfl,(made (.inl h1)).now⟩
 walk_at "go2"
 refine rd_ite (fun h2=>?_) fun h2=>?_
 ·walk_at "go2"
  refine rd_ix hl at1 ?_
  walk_at "go2"
  refine rd_ix hl at2 ?_
  walk_at "go2"
  refine rd_ix hl at3 ?_
  walk_at "go2"
  refine rd_ix hl at4 ?_
  walk_at "go2"
  exact ⟨b,c,d,e,rfl,(made (.inr h2)).now⟩
 rw [if_neg (fun q=>q.elim h1 h2)] at k
 clear made
 walk_at "go2"
 refine ⟨by show 3≤sizeLine;decide,fun p1 hp1=>?_⟩
 have s1:Same H (upd H p1 (.tup [.int 2,.int 3,.int 4])):=Same.upd_new hp1
 have l1:=s1 _ _ hl
 refine rd_inT (l:=[2,3,4]) upd_same ?_
 have k:=k.on s1
 generalize upd H p1 (.tup [.int 2,.int 3,.int 4])=H1 at *
 walk_at "go2"
 refine rd_iteB (fun h3=>?_) fun h3=>?_
 ·rw [if_pos (has3.mp h3)] at k
  walk_at "go2"
  refine rd_slE l1 fun p2 hp2=>?_
  rw [cut1]
  refine ⟨p2,_,rfl,upd_same,Nat.le_of_ble_eq_true rfl,k.on (Same.upd_new hp2)⟩
 rw [if_neg (fun q=>by rw [has3.mpr q] at h3;cases h3)] at k
 walk_at "go2"
 refine ⟨by show 3≤sizeLine;decide,fun p2 hp2=>?_⟩
 have s2:Same H1 (upd H1 p2 (.tup [.int 0,.int 1,.int 5])):=Same.upd_new hp2
 have l2:=s2 _ _ l1
 refine rd_inT (l:=[0,1,5]) upd_same ?_
 have k:=k.on s2
 generalize upd H1 p2 (.tup [.int 0,.int 1,.int 5])=H2 at *
 walk_at "go2"
 refine rd_iteB (fun h4=>?_) fun h4=>?_
 ·rw [if_pos (has3.mp h4)] at k
  walk_at "go2"
  refine rd_ix l2 at1 ?_
  walk_at "go2"
  refine ⟨b,0,1000000,rfl,?_⟩
  walk_at "go2"
  refine rd_iteB (fun h5=>?_) fun h5=>?_
  ·rw [h5,Bool.true_and] at k
   walk_at "go2"
   refine rd_slE l2 fun p3 hp3=>?_
   rw [cut2]
   exact ⟨p3,_,rfl,upd_same,Nat.le_of_ble_eq_true rfl,k.on (Same.upd_new hp3)⟩
  rw [h5,Bool.false_and] at k
  exact k.now
 rw [if_neg (fun q=>by rw [has3.mpr q] at h4;cases h4)] at k
 have turn:(a=6∨a=7)→Grow H2 (.bl (isTargetB b && zerosB [c,d,e])) Q:=fun h=>by rw [if_pos h] at k;exact k
 walk_at "go2"
 refine rd_ite (fun h5=>?_) fun h5=>?_
 ·have k:=turn (.inl h5)
  walk_at "go2"
  refine rd_ix l2 at1 ?_
  walk_at "go2"
  refine ⟨b,rfl,?_⟩
  walk_at "go2"
  refine rd_iteB (fun h6=>?_) fun h6=>?_
  ·rw [h6,Bool.true_and] at k
   walk_at "go2"
   refine rd_slE l2 fun p3 hp3=>?_
   rw [cut2]
   exact ⟨p3,_,rfl,upd_same,Nat.le_of_ble_eq_true rfl,k.on (Same.upd_new hp3)⟩
  rw [h6,Bool.false_and] at k
  exact k.now
 walk_at "go2"
 refine rd_ite (fun h6=>?_) fun h6=>?_
 ·have k:=turn (.inr h6)
  walk_at "go2"
  refine rd_ix l2 at1 ?_
  walk_at "go2"
  refine ⟨b,rfl,?_⟩
  walk_at "go2"
  refine rd_iteB (fun h6=>?_) fun h6=>?_
  ·rw [h6,Bool.true_and] at k
   walk_at "go2"
   refine rd_slE l2 fun p3 hp3=>?_
   rw [cut2]
   exact ⟨p3,_,rfl,upd_same,Nat.le_of_ble_eq_true rfl,k.on (Same.upd_new hp3)⟩
  rw [h6,Bool.false_and] at k
  exact k.now
 rw [if_neg (fun q=>q.elim h5 h6)] at k
 clear turn
 walk_at "go2"
 refine rd_ite (fun h7=>?_) fun h7=>?_
 ·rw [decide_eq_true h7,Bool.true_and] at k
  walk_at "go2"
  refine rd_ix l2 at1 ?_
  walk_at "go2"
  refine ⟨b,0,3,rfl,?_⟩
  walk_at "go2"
  refine rd_iteB (fun h8=>?_) fun h8=>?_
  ·rw [h8,Bool.true_and] at k
   walk_at "go2"
   refine rd_slE l2 fun p3 hp3=>?_
   rw [cut2]
   exact ⟨p3,_,rfl,upd_same,Nat.le_of_ble_eq_true rfl,k.on (Same.upd_new hp3)⟩
  rw [h8,Bool.false_and] at k
  exact k.now
 rw [decide_eq_false h7,Bool.false_and] at k
 exact k.now)) only [↓zh1]
structure Args (H:Hp) (la lr:Addr) (args:List Int) (rows:List (List Int)) (ras:List Addr):Prop where
 ha:H la=some (.lst (ivs args))
 hr:H lr=some (.lst (rfs ras))
 len:ras.length=rows.length
 row:∀ (i:Nat) a r,ras[i]?=some a→rows[i]?=some r→H a=some (.lst (ivs r))∧r.length≤1000
 alen:args.length≤1000
 rlen:rows.length≤1000
theorem Args.on {H H':Hp} {la lr:Addr} {args:List Int} {rows:List (List Int)} {ras:List Addr} (A:Args H la lr args rows ras) (s:Same H H'):Args H' la lr args rows ras :=
 ⟨s _ _ A.ha,s _ _ A.hr,A.len,fun i a r h1 h2=>let ⟨q1,q2⟩:=A.row i a r h1 h2;⟨s _ _ q1,q2⟩,A.alen,A.rlen⟩
def noB (n:Nat) (args:List Int) (rows:List (List Int)):Bool:=decide (args.length=n) && decide (rows.length=0)
def formB:Nat→List Int→List (List Int)→Bool
 | 0=>fun a r=>rngB a thRs && decide (r.length=0)
 | 1=>effB
 | 2=>noB 1
 | 3=>fun a r=>decide (a.length=0) && r.all evB
 | 4=>noB 2
 | 5=>noB 2
 | 6=>noB 0
 | 7=>noB 0
 | 8=>noB 0
 | 9=>noB 1
 | 10=>noB 1
 | 11=>noB 0
 | 12=>noB 1
 | 13=>noB 0
 | 14=>noB 2
 | _=>fun _ _=>false
def sp_formOf (F:List Int→List (List Int)→Bool):Sp:=fun vs H Q _=>∃ (la lr:Addr) (args:List Int) (rows:List (List Int)) (ras:List Addr),vs=[.ref la,.ref lr]∧Args H la lr args rows ras∧Grow H (.bl (F args rows)) Q
def sp_has_no_number (K:PySem.W.Frag) (C:Cl):Sp:=sp_formOf (noB 0)
theorem ok_has_no_number (T:Tx K C) (F:Fun K "has_no_number" "has_no_number" s_has_no_number f fd) (b_len:mg "len"=none) :FnOk P w K mg base CX0 1 f fd ["arguments","rows"] (sp_has_no_number K C):=by
 refine zh0 ?_;simp (disch:=k_dflt (
 refine F.ok sc_has_no_number (by walk_at "ln") (fun cdv A outer s H vs Q E hr h=>?_)
 obtain ⟨la,lr,args,rows,ras,rfl,A,k⟩:=h
 refine ⟨_,(pss_one (ps_ret (pe_and (pe_cmpR op_eq (pe_callB call_len_seq rfl b_len PySem.boot_len (pa_cons (pv 0) pa_nil)) pe_int (nomark _)) (pe_one (pe_cmpR op_eq (pe_callB call_len_seq rfl b_len PySem.boot_len (pa_cons (pv 1) pa_nil)) pe_int (nomark _)))))),?_⟩
 have ha:=A.ha
 have hr:=A.hr
 unfold noB at k
 walk_at "go2"
 rw [ivs_len]
 refine rd_ite (fun h0=>?_) fun h0=>?_
 ·rw [decide_eq_true (by omega),Bool.true_and] at k
  walk_at "go2"
  have e:decide (((rfs ras).length:Int)=0)=decide (rows.length=0):=by rw [rfs_len,A.len];exact decide_eq_decide.mpr (by omega)
  rw [e]
  exact k.now
 rw [decide_eq_false (by omega),Bool.false_and] at k
 exact k.now)) only [↓zh1]
def sp_has_one_number (K:PySem.W.Frag) (C:Cl):Sp:=sp_formOf (noB 1)
theorem ok_has_one_number (T:Tx K C) (F:Fun K "has_one_number" "has_one_number" s_has_one_number f fd) (b_len:mg "len"=none) :FnOk P w K mg base CX0 1 f fd ["arguments","rows"] (sp_has_one_number K C):=by
 refine zh0 ?_;simp (disch:=k_dflt (
 refine F.ok sc_has_one_number (by walk_at "ln") (fun cdv A outer s H vs Q E hr h=>?_)
 obtain ⟨la,lr,args,rows,ras,rfl,A,k⟩:=h
 refine ⟨_,(pss_one (ps_ret (pe_and (pe_cmpR op_eq (pe_callB call_len_seq rfl b_len PySem.boot_len (pa_cons (pv 0) pa_nil)) pe_int (nomark _)) (pe_one (pe_cmpR op_eq (pe_callB call_len_seq rfl b_len PySem.boot_len (pa_cons (pv 1) pa_nil)) pe_int (nomark _)))))),?_⟩
 have ha:=A.ha
 have hr:=A.hr
 unfold noB at k
 walk_at "go2"
 rw [ivs_len]
 refine rd_ite (fun h0=>?_) fun h0=>?_
 ·rw [decide_eq_true (by omega),Bool.true_and] at k
  walk_at "go2"
  have e:decide (((rfs ras).length:Int)=0)=decide (rows.length=0):=by rw [rfs_len,A.len];exact decide_eq_decide.mpr (by omega)
  rw [e]
  exact k.now
 rw [decide_eq_false (by omega),Bool.false_and] at k
 exact k.now)) only [↓zh1]
def sp_has_two_numbers (K:PySem.W.Frag) (C:Cl):Sp:=sp_formOf (noB 2)
theorem ok_has_two_numbers (T:Tx K C) (F:Fun K "has_two_numbers" "has_two_numbers" s_has_two_numbers f fd) (b_len:mg "len"=none) :FnOk P w K mg base CX0 1 f fd ["arguments","rows"] (sp_has_two_numbers K C):=by
 refine zh0 ?_;simp (disch:=k_dflt (
 refine F.ok sc_has_two_numbers (by walk_at "ln") (fun cdv A outer s H vs Q E hr h=>?_)
 obtain ⟨la,lr,args,rows,ras,rfl,A,k⟩:=h
 refine ⟨_,(pss_one (ps_ret (pe_and (pe_cmpR op_eq (pe_callB call_len_seq rfl b_len PySem.boot_len (pa_cons (pv 0) pa_nil)) pe_int (nomark _)) (pe_one (pe_cmpR op_eq (pe_callB call_len_seq rfl b_len PySem.boot_len (pa_cons (pv 1) pa_nil)) pe_int (nomark _)))))),?_⟩
 have ha:=A.ha
 have hr:=A.hr
 unfold noB at k
 walk_at "go2"
 rw [ivs_len]
 refine rd_ite (fun h0=>?_) fun h0=>?_
 ·rw [decide_eq_true (by omega),Bool.true_and] at k
  walk_at "go2"
  have e:decide (((rfs ras).length:Int)=0)=decide (rows.length=0):=by rw [rfs_len,A.len];exact decide_eq_decide.mpr (by omega)
  rw [e]
  exact k.now
 rw [decide_eq_false (by omega),Bool.false_and] at k
 exact k.now)) only [↓zh1]
def sp_is_thing_call (K:PySem.W.Frag) (C:Cl):Sp:=sp_formOf fun a r=>rngB a thRs && decide (r.length=0)
theorem ok_is_thing_call (T:Tx K C) (F:Fun K "is_thing_call" "is_thing_call" s_is_thing_call f fd) (b_len:mg "len"=none) (k_are_in_ranges:Kn P w K mg base "are_in_ranges" 2 (sp_are_in_ranges K C)) {a_THING_RANGES:Addr} (g_THING_RANGES:GR mg "THING_RANGES" a_THING_RANGES) (hT:Rng K a_THING_RANGES thRs):FnOk P w K mg base CX0 3 f fd ["arguments","rows"] (sp_is_thing_call K C):=by
 refine zh0 ?_;simp (disch:=k_dflt (
 refine F.ok sc_is_thing_call (by walk_at "ln") (fun cdv A outer s H vs Q E hr h=>?_)
 obtain ⟨la,lr,args,rows,ras,rfl,A,k⟩:=h
 refine ⟨_,(pss_one (ps_ret (pe_and (pe_callX k_are_in_ranges (hr.mono (by decide)) rfl (pa_cons (pv 0) (pa_cons (pe_gr g_THING_RANGES rfl) pa_nil))) (pe_one (pe_cmpR op_eq (pe_callB call_len_seq rfl b_len PySem.boot_len (pa_cons (pv 1) pa_nil)) pe_int (nomark _)))))),?_⟩
 walk_at "go2"
 refine ⟨la,_,args,thRs,rfl,A.ha,hT,fun H1 s1=>?_⟩
 have k:Grow H1 (.bl (rngB args thRs && decide (rows.length=0))) Q:=k.on s1
 have hr:=(A.on s1).hr
 walk_at "go2"
 refine rd_iteB (fun h0=>?_) fun h0=>?_
 ·rw [h0,Bool.true_and] at k
  walk_at "go2"
  have e:decide (((rfs ras).length:Int)=0)=decide (rows.length=0):=by rw [rfs_len,A.len];exact decide_eq_decide.mpr (by omega)
  rw [e]
  exact k.now
 rw [h0,Bool.false_and] at k
 exact k.now)) only [↓zh1]
theorem rows3 {rows:List (List Int)} (h:rows.length=3):∃ a b c,rows=[a,b,c]:=by
 match rows,h with
 | [a,b,c],_=>exact ⟨a,b,c,rfl⟩
theorem adr3 {l:List Addr} (h:l.length=3):∃ a b c,l=[a,b,c]:=by
 match l,h with
 | [a,b,c],_=>exact ⟨a,b,c,rfl⟩
theorem effB_len {l:List Int} {rows:List (List Int)} (h:rows.length≠3):effB l rows=false:=by
 unfold effB
 split
 ·exact absurd rfl h
 rw [Bool.and_false]
def sp_is_effect_call (K:PySem.W.Frag) (C:Cl):Sp:=sp_formOf effB
theorem ok_is_effect_call (T:Tx K C) (F:Fun K "is_effect_call" "is_effect_call" s_is_effect_call f fd) (k_is_does_row:Kn P w K mg base "is_does_row" 4 (sp_is_does_row K C)) (k_is_row_of_things:Kn P w K mg base "is_row_of_things" 2 (sp_is_row_of_things K C)) (b_len:mg "len"=none) (k_are_in_ranges:Kn P w K mg base "are_in_ranges" 2 (sp_are_in_ranges K C)) {a_EFFECT_RANGES:Addr} (g_EFFECT_RANGES:GR mg "EFFECT_RANGES" a_EFFECT_RANGES) (hT:Rng K a_EFFECT_RANGES effRs):FnOk P w K mg base CX0 5 f fd ["arguments","rows"] (sp_is_effect_call K C):=by
 refine zh0 ?_;simp (disch:=k_dflt (
 refine F.ok sc_is_effect_call (by walk_at "ln") (fun cdv A outer s H vs Q E hr h=>?_)
 obtain ⟨la,lr,args,rows,ras,rfl,A,k⟩:=h
 refine ⟨_,(pss_one (ps_ret (pe_and (pe_callX k_are_in_ranges (hr.mono (by decide)) rfl (pa_cons (pv 0) (pa_cons (pe_gr g_EFFECT_RANGES rfl) pa_nil))) (pe_and (pe_cmpR op_eq (pe_callB call_len_seq rfl b_len PySem.boot_len (pa_cons (pv 1) pa_nil)) pe_int (nomark _)) (pe_and (pe_callX k_is_row_of_things (hr.mono (by decide)) rfl (pa_cons (pe_ix ix_list (pv 1) pe_int (fun _ _=>rfl)) pa_nil)) (pe_and (pe_callX k_is_row_of_things (hr.mono (by decide)) rfl (pa_cons (pe_ix ix_list (pv 1) pe_int (fun _ _=>rfl)) pa_nil)) (pe_one (pe_callX k_is_does_row (hr.mono (by decide)) rfl (pa_cons (pe_ix ix_list (pv 1) pe_int (fun _ _=>rfl)) pa_nil))))))))),?_⟩
 walk_at "go2"
 refine ⟨la,_,args,effRs,rfl,A.ha,hT,fun H1 s1=>?_⟩
 have k:=k.on s1
 have A:=A.on s1
 have hr:=A.hr
 walk_at "go2"
 refine rd_iteB (fun h0=>?_) fun h0=>?_
 ·walk_at "go2"
  rw [rfs_len,A.len]
  refine rd_ite (fun h1=>?_) fun h1=>?_
  ·obtain ⟨x,y,z,rfl⟩:=rows3 (rows:=rows) (by omega)
   obtain ⟨ax,ay,az,rfl⟩:=adr3 (l:=ras) A.len
   obtain ⟨hx,lx⟩:=A.row 0 ax x rfl rfl
   obtain ⟨hy,ly⟩:=A.row 1 ay y rfl rfl
   obtain ⟨hz,lz⟩:=A.row 2 az z rfl rfl
   have k:Grow H1 (.bl (rngB args effRs && (thingsB x && (thingsB y && doesB z)))) Q:=k
   rw [h0,Bool.true_and] at k
   walk_at "go2"
   refine rd_ix hr at0 ?_
   walk_at "go2"
   refine ⟨ax,x,rfl,hx,lx,fun H2 s2=>?_⟩
   have k:=k.on s2
   have hr2:=s2 _ _ hr
   walk_at "go2"
   refine rd_iteB (fun h2=>?_) fun h2=>?_
   ·rw [h2,Bool.true_and] at k
    walk_at "go2"
    refine rd_ix hr2 at1 ?_
    walk_at "go2"
    refine ⟨ay,y,rfl,s2 _ _ hy,ly,fun H3 s3=>?_⟩
    have k:=k.on s3
    have hr3:=s3 _ _ hr2
    walk_at "go2"
    refine rd_iteB (fun h3=>?_) fun h3=>?_
    ·rw [h3,Bool.true_and] at k
     walk_at "go2"
     refine rd_ix hr3 at2 ?_
     walk_at "go2"
     exact ⟨az,z,rfl,s3 _ _ (s2 _ _ hz),k⟩
    rw [h3,Bool.false_and] at k
    exact k.now
   rw [h2,Bool.false_and] at k
   exact k.now
  rw [effB_len (by omega)] at k
  exact k.now
 have e:effB args rows=false:=by
  unfold effB
  rw [h0,Bool.false_and]
 rw [e] at k
 exact k.now)) only [↓zh1]
def sp_is_batch_call (K:PySem.W.Frag) (C:Cl):Sp:=sp_formOf fun a r=>decide (a.length=0) && r.all evB
theorem ok_is_batch_call (T:Tx K C) (F:Fun K "is_batch_call" "is_batch_call" s_is_batch_call f fd) (b_all:mg "all"=none) (k_is_event_row:Kn P w K mg base "is_event_row" 3 (sp_is_event_row K C)) (b_len:mg "len"=none) :FnOk P w K mg base CX0 4 f fd ["arguments","rows"] (sp_is_batch_call K C):=by
 refine zh0 ?_;simp (disch:=k_dflt (
 refine F.ok sc_is_batch_call (by walk_at "ln") (fun cdv A outer s H vs Q E hr h=>?_)
 obtain ⟨la,lr,args,rows,ras,rfl,A,k⟩:=h
 refine ⟨_,(pss_one (ps_ret (pe_and (pe_cmpR op_eq (pe_callB call_len_seq rfl b_len PySem.boot_len (pa_cons (pv 0) pa_nil)) pe_int (nomark _)) (pe_one (pe_callB (call_all rfl) rfl b_all PyProof.Rows.boot_all (pa_cons (pe_lc rfl sc_is_batch_call.nd (pi_list (pv 1)) (blkOk_by (own:=[("row",2)]) rfl) (fun _ _ _ _ _=>(pg_name (i:=2) sc_is_batch_call.nd rfl (Or.inl rfl))) (fun _ _ _ _ _=>pts_nil) (fun _ _ _ _ _=>(pe_callX k_is_event_row (hr.mono (by decide)) rfl (pa_cons (pv 2) pa_nil)))) pa_nil)))))),?_⟩
 have ha:=A.ha
 walk_at "go2"
 rw [ivs_len]
 refine rd_ite (fun h0=>?_) fun h0=>?_
 ·have k:Grow H (.bl (decide (args.length=0) && rows.all evB)) Q:=k
  rw [decide_eq_true (by omega),Bool.true_and] at k
  walk_at "go2"
  refine lc_pure (n:=2) (ys:=(rows.map evB).map V.bl) (SqL.of A.hr) (by show 2 < 3;decide) (by rw [List.length_map,List.length_map,rfs_len,A.len]) (by rw [rfs_len,A.len,sizeLine_eq];have:=A.rlen;omega) (fun i x y D l R hx hy hD hR=>?_) fun D hD=>?_
  ·obtain ⟨a,ha,rfl⟩:=rfs_inv hx
   have hi:i < rows.length:=by rw [← A.len];exact (List.getElem?_eq_some_iff.mp ha).1
   have hr:rows[i]?=some rows[i]:=List.getElem?_eq_getElem hi
   have ey:y=V.bl (evB rows[i]):=by
    rw [List.getElem?_map,List.getElem?_map,hr] at hy
    exact (Option.some.inj hy).symm
   subst ey
   walk_at "go2"
   exact ⟨a,_,rfl,upd_keep (A.row i a _ ha hr).1 hD,hR⟩
  walk_at "go2"
  refine rd_all upd_same ?_
  have e:(rows.map evB).all id=rows.all evB:=by
   rw [List.all_map]
   rfl
  rw [e]
  exact k _ (Same.upd_new hD)
 have k:Grow H (.bl (decide (args.length=0) && rows.all evB)) Q:=k
 rw [decide_eq_false (by omega),Bool.false_and] at k
 exact k.now)) only [↓zh1]
def ofFormB (n:Int) (args:List Int) (rows:List (List Int)):Bool:=decide (0≤n∧n < 15) && formB n.toNat args rows
def sp_is_of_its_form (K:PySem.W.Frag) (C:Cl):Sp:=fun vs H Q _=>∃ (n:Int) (la lr:Addr) (args:List Int) (rows:List (List Int)) (ras:List Addr),vs=[.int n,.ref la,.ref lr]∧Args H la lr args rows ras∧Grow H (.bl (ofFormB n args rows)) Q
theorem ok_is_of_its_form (T:Tx K C) (F:Fun K "is_of_its_form" "is_of_its_form" s_is_of_its_form f fd) (b_len:mg "len"=none) {a_FORMS:Addr} (g_FORMS:GR mg "FORMS" a_FORMS) {fs:List Addr} (hT:∀ H,SqT K H a_FORMS (rfs fs)) (hl:fs.length=15) (hF:∀ (i:Nat) fa,fs[i]?=some fa→KnF P w K mg base fa 5 (sp_formOf (formB i))):FnOk P w K mg base CX0 6 f fd ["number","arguments","rows"] (sp_is_of_its_form K C):=by
 refine zh0 ?_;simp (disch:=k_dflt (
 refine F.ok sc_is_of_its_form (by walk_at "ln") (fun cdv A outer s H vs Q E hr h=>?_)
 obtain ⟨n,la,lr,args,rows,ras,rfl,A,k⟩:=h
 refine ⟨_,(pss_cons (ps_if (pt_not (pt_chain op_le op_lt pe_int (pv 0) (pe_callB call_len_seq rfl b_len PySem.boot_len (pa_cons (pe_gr g_FORMS rfl) pa_nil)))) (pss_one (ps_ret pe_bl)) pss_nil) (pss_cons (ps_set (i:=3) sc_is_of_its_form.nd rfl (Or.inl rfl) (pe_ix ix_tup (pe_gr g_FORMS rfl) (pv 0) (fun _ _=>rfl))) (pss_one (ps_ret (pe_callL 5 (hr.mono (by decide)) (pv 3) (pa_cons (pv 1) (pa_cons (pv 2) pa_nil))))))),?_⟩
 unfold ofFormB at k
 walk_at "go2"
 refine rd_ite (fun h0=>?_) fun h0=>?_
 ·walk_at "go2"
  refine rd_lenT (hT _) ?_
  rw [rfs_len,hl]
  walk_at "go2"
  refine rd_iteN (fun h1=>?_) fun h1=>?_
  ·rw [decide_eq_false (by omega),Bool.false_and] at k
   walk_at "go2"
   exact k.now
  have h1:n < 15:=h1
  rw [decide_eq_true (by omega),Bool.true_and] at k
  have hfa:fs[n.toNat]?=some (fs[n.toNat]'(by omega)):=List.getElem?_eq_getElem (by omega)
  walk_at "go2"
  refine rd_ixT (hT _) (rfs_at hfa (by omega)) ?_
  walk_at "go2"
  refine rd_callL ?_
  walk_at "go2"
  refine ⟨_,_,rfl,hF _ _ hfa,?_⟩
  walk_at "go2"
  exact ⟨la,lr,args,rows,ras,rfl,A,k⟩
 rw [decide_eq_false (by omega),Bool.false_and] at k
 walk_at "go2"
 exact k.now)) only [↓zh1]
abbrev Se:=Vbdcai.State
def Idle (C:Cl) (ρ:Rho) (H:Hp) (t:Addr) (s:Se):Prop:=∃ lo,Rep C ρ H t lo .non s.world∧Rest s.world
def Busy (C:Cl) (ρ:Rho) (H:Hp) (t:Addr) (s:Se):Prop:=∃ lo b lb v r,AskSt C ρ H t lo b lb s.world s.before v r∧Rest s.before∧Like s.before s.world
def St (C:Cl) (ρ:Rho) (H:Hp) (t:Addr) (s:Se):Prop:=Idle C ρ H t s∨Busy C ρ H t s
theorem AskSt.same {ρ:Rho} {H H':Hp} {t:Addr} {lo:Lo} {b:Addr} {lb:Lb} {W bf:Du.W} {v:Ev} {r:List Ev} (S:AskSt C ρ H t lo b lb W bf v r) (s:Same H H'):AskSt C ρ H' t lo b lb W bf v r :=
 ⟨⟨S.sb.rep.same s,S.sb.bat.same s⟩,S.asks,S.todo,S.off⟩
theorem St.same {ρ:Rho} {H H':Hp} {t:Addr} {s:Se} (S:St C ρ H t s) (h:Same H H'):St C ρ H' t s:=by
 rcases S with ⟨lo,R,q⟩ | ⟨lo,b,lb,v,r,A,q⟩
 ·exact .inl ⟨lo,R.same h,q⟩
 exact .inr ⟨lo,b,lb,v,r,A.same h,q⟩
theorem St.dom {ρ:Rho} {H:Hp} {t:Addr} {s:Se} (S:St C ρ H t s):Dom ρ H:=by
 rcases S with ⟨lo,R,q⟩ | ⟨lo,b,lb,v,r,A,q⟩
 ·exact R.dom
 exact A.sb.rep.dom
theorem St.rep {ρ:Rho} {H:Hp} {t:Addr} {s:Se} (S:St C ρ H t s):∃ lo bV,Rep C ρ H t lo bV s.world:=by
 rcases S with ⟨lo,R,q⟩ | ⟨lo,b,lb,v,r,A,q⟩
 ·exact ⟨lo,_,R⟩
 exact ⟨lo,_,A.sb.rep⟩
theorem St.ok {ρ:Rho} {H:Hp} {t:Addr} {s:Se} (S:St C ρ H t s):WOk s.world:=by
 rcases S with ⟨lo,R,q⟩ | ⟨lo,b,lb,v,r,A,q⟩
 ·exact q.ok
 exact A.asks.ok
def AnsK (C:Cl) (ρ:Rho) (H:Hp) (t:Addr) (r:Se × List Int) (Q:VK):Prop:=∀ ρ' H' l,St C ρ' H' t r.1→ρ' l=(0,0)→H' l=some (.lst (ivs r.2))→Out ρ H ρ' H'→(∀ b o,H b=some o→(ρ b).1=0→l≠b)→Q (.ref l) H'
theorem AnsK.row {ρ:Rho} {H:Hp} {t:Addr} {r:Se × List Int} {Q:VK} (k:AnsK C ρ H t r Q) (S:St C ρ H t r.1):NewRow H r.2 Q:=fun H' l s hl h=>k ρ H' l (S.same s) (S.dom l hl) h (Kp.same s) fun b o hb _ q=>by rw [← q,hl] at hb;cases hb
theorem AnsK.ret {ρ:Rho} {H:Hp} {t:Addr} {r:Se × List Int} {Q:VK} (k:AnsK C ρ H t r Q) (S:St C ρ H t r.1) {xs:List V} (e:ivs r.2=xs) (hz:xs.length≤100):xs.length≤sizeLine∧∀ p,H p=none→Q (.ref p) (upd H p (.lst xs)):=by
 subst e
 exact ⟨Nat.le_trans hz (by rw [sizeLine_eq];decide),fun p hp=>(k.row S).one hp⟩
theorem AnsK.from {ρ ρ1:Rho} {H H1:Hp} {t:Addr} {r:Se × List Int} {Q:VK} (k:AnsK C ρ H t r Q) (o:Out ρ H ρ1 H1):AnsK C ρ1 H1 t r Q:=fun ρ' H' l S h0 h o' n=>k ρ' H' l S h0 h (o.trans o') fun b u hb hz=>by
 obtain ⟨e1,e2⟩:=o b u hz hb
 exact n b u e2 (by rw [e1];exact hz)
theorem AnsK.on {ρ:Rho} {H H1:Hp} {t:Addr} {r:Se × List Int} {Q:VK} (k:AnsK C ρ H t r Q) (s:Same H H1):AnsK C ρ H1 t r Q:=k.from (Kp.same s)
theorem ended_of {ρ:Rho} {H:Hp} {t b:Addr} {bf Y:Du.W} {Q:VK} (hY:Rest Y∨(Asks Y∧Like bf Y)) (hbf:Rest bf) (k:∀ ρ' H',St C ρ' H' t ⟨Y,bf⟩→Out ρ H ρ' H'→Q .non H'):Ended C t b bf Y ρ H Q:=by
 refine zh0 ?_;simp (disch:=k_dflt (
 refine zh2 ?_
 refine ⟨fun ρ' H' lo' ht R o=>?_,fun ρ' H' lo' lb' v r ht S e o=>?_⟩
 ·rcases hY with q | q
  ·exact k ρ' H' (.inl ⟨lo',R,q⟩) o
  exact absurd ht q.1.todo
 rcases hY with q | q
 ·have:=q.todo
  rw [ht] at this
  cases this
 exact k ρ' H' (.inr ⟨lo',b,lb',v,r,⟨S,q.1,ht,e⟩,hbf,q.2⟩) o)) only [↓zh1]
theorem ask_stands {W:Du.W} {v:Ev} {r:List Ev} (h:W.todo=v :: r):Vbdcai.stands W=0 :: 1 :: (Vbdcai.sideOf (Vbdcai.ctrl W) v.target:Int) :: castL (offIds W v):=by
 unfold Vbdcai.stands Vbdcai.asked
 rw [h]
 rfl
theorem rest_stands {W:Du.W} (h:W.todo=[]):Vbdcai.stands W=[0,0]:=by
 unfold Vbdcai.stands Vbdcai.asked
 rw [h]
def sp_how_it_stands (K:PySem.W.Frag) (C:Cl):Sp:=fun vs H Q _=>∃ (t:Addr) (ρ:Rho) (s:Se),vs=[.ref t]∧St C ρ H t s∧NewRow H (Vbdcai.stands s.world) Q
theorem ok_how_it_stands (T:Tx K C) (F:Fun K "how_it_stands" "how_it_stands" s_how_it_stands f fd) (k_asked_side:Kn P w K mg base "asked_side" 3 (sp_asked_side K C)) (k_offered_numbers:Kn P w K mg base "offered_numbers" 1 (sp_offered_numbers K C)) :FnOk P w K mg base CX0 4 f fd ["table"] (sp_how_it_stands K C):=by
 refine zh0 ?_;simp (disch:=k_dflt (
 refine F.ok sc_how_it_stands (by walk_at "ln") (fun cdv A outer s H vs Q E hr h=>?_)
 obtain ⟨t,ρ,se,rfl,S,k⟩:=h
 refine ⟨_,(pss_cons (ps_if (pt_cmpR op_isN (pe_fld (pv 0) rfl) pe_non (nomark _)) (pss_one (ps_ret (pe_lst (pa_cons pe_int (pa_cons pe_int pa_nil))))) pss_nil) (pss_one (ps_ret (pe_op op_cat (pe_lst (pa_cons pe_int (pa_cons pe_int (pa_cons (pe_callX k_asked_side (hr.mono (by decide)) rfl (pa_cons (pv 0) pa_nil)) pa_nil)))) (pe_callX k_offered_numbers (hr.mono (by decide)) rfl (pa_cons (pv 0) pa_nil)))))),?_⟩
 rcases S with ⟨lo,R,hR⟩ | ⟨lo,b,lb,v,r,A,_⟩
 ·obtain ⟨dx,ht⟩:=R.tbl
  rw [rest_stands hR.todo] at k
  walk_at "go2"
  refine ⟨rfl,rd_blV (rd_iteT ?_)⟩
  walk_at "go2"
  exact ⟨by show 2≤sizeLine;decide,fun l hl=>k.one hl⟩
 obtain ⟨dx,ht⟩:=A.sb.rep.tbl
 rw [ask_stands A.todo] at k
 walk_at "go2"
 refine ⟨rfl,rd_blV (rd_iteF ?_)⟩
 walk_at "go2"
 refine ⟨t,b,ρ,lo,lb,_,_,v,r,rfl,A.sb,A.todo,(A.asks.bok.todo v (by rw [A.todo];exact List.mem_cons_self)).1,?_⟩
 walk_at "go2"
 refine ⟨by show 3≤sizeLine;decide,fun l1 hl1=>?_⟩
 have s1:Same H (upd H l1 (.lst [iv 0,iv 1,iv (Vbdcai.sideOf (Vbdcai.ctrl se.world) v.target)])):=Same.upd_new hl1
 have e1:upd H l1 (.lst [iv 0,iv 1,iv (Vbdcai.sideOf (Vbdcai.ctrl se.world) v.target)]) l1=some (.lst [iv 0,iv 1,iv (Vbdcai.sideOf (Vbdcai.ctrl se.world) v.target)]):=upd_same
 have A1:=A.same s1
 change tCall _ _ _ _ _ (upd H l1 (.lst [iv 0,iv 1,iv (Vbdcai.sideOf (Vbdcai.ctrl se.world) v.target)])) _
 generalize upd H l1 (.lst [iv 0,iv 1,iv (Vbdcai.sideOf (Vbdcai.ctrl se.world) v.target)])=H1 at *
 walk_at "go2"
 refine ⟨t,b,ρ,lo,lb,_,_,v,r,rfl,A1,fun H2 l2 s2 hl2 e2=>?_⟩
 refine rd_cat (s2 _ _ e1) e2 ?_ fun l3 hl3=>?_
 ·rw [ivs_len,castL_len,sizeLine_eq]
  unfold offIds
  rw [List.length_map]
  have:=off_len A.asks.ok v
  show 3 + _≤_
  omega
 exact k _ l3 ((s1.trans s2).trans (Same.upd_new hl3)) (Same.free (s1.trans s2) hl3) upd_same)) only [↓zh1]
def mulB (n:Int):Bool:=decide (n=7) || decide (n=9)
def sp_is_multiplying (K:PySem.W.Frag) (C:Cl):Sp:=fun vs H Q _=>∃ n:Int,vs=[.int n]∧Q (.bl (mulB n)) H
theorem ok_is_multiplying (T:Tx K C) (F:Fun K "is_multiplying" "is_multiplying" s_is_multiplying f fd) (c_BESIDES:CI mg "BESIDES" (9)) (c_SPLIT:CI mg "SPLIT" (7)) :FnOk P w K mg base CX0 1 f fd ["form"] (sp_is_multiplying K C):=by
 refine zh0 ?_;simp (disch:=k_dflt (
 refine F.ok sc_is_multiplying (by walk_at "ln") (fun cdv A outer s H vs Q E hr h=>?_)
 obtain ⟨n,rfl,k⟩:=h
 refine ⟨_,(pss_one (ps_ret (pe_or (pe_cmpR op_eq (pv 0) (pe_ci c_SPLIT rfl) (nomark _)) (pe_one (pe_cmpR op_eq (pv 0) (pe_ci c_BESIDES rfl) (nomark _)))))),?_⟩
 unfold mulB at k
 walk_at "ifk2"
 ·exact k
 exact k)) only [↓zh1]
theorem mul_act (a:Vbdcai.Act) (e:Ef) (h:e.act=a):mulB (actIx a)=Vbdcai.doubling e:=by
 unfold Vbdcai.doubling
 rw [h]
 cases a <;> rfl
def roomB (W:Du.W) (n:Int):Bool:=if 12≤W.effects.length then false else if mulB n=true then decide ((W.effects.filter Vbdcai.doubling).length < 5) else true
def sp_has_room_for_effect (K:PySem.W.Frag) (C:Cl):Sp:=fun vs H Q _=>∃ (t:Addr) (n:Int) (ρ:Rho) (lo:Lo) (bV:V) (W:Du.W),vs=[.ref t,.int n]∧Rep C ρ H t lo bV W∧WOk W∧Grow H (.bl (roomB W n)) Q
theorem ok_has_room_for_effect (T:Tx K C) (F:Fun K "has_room_for_effect" "has_room_for_effect" s_has_room_for_effect f fd) (b_len:mg "len"=none) (c_MOST_EFFECTS:CI mg "MOST_EFFECTS" (12)) (k_is_multiplying:Kn P w K mg base "is_multiplying" 1 (sp_is_multiplying K C)) (c_MOST_MULTIPLYING_EFFECTS:CI mg "MOST_MULTIPLYING_EFFECTS" (5)) :FnOk P w K mg base CX0 2 f fd ["table","form"] (sp_has_room_for_effect K C):=by
 refine zh0 ?_;simp (disch:=k_dflt (
 refine F.ok sc_has_room_for_effect (by walk_at "ln") (fun cdv A outer s H vs Q E hr h=>?_)
 obtain ⟨t,n,ρ,lo,bV,W,rfl,R,hW,k⟩:=h
 refine ⟨_,(pss_cons (ps_if (pt_cmpR op_ge (pe_callB call_len_seq rfl b_len PySem.boot_len (pa_cons (pe_fld (pv 0) rfl) pa_nil)) (pe_ci c_MOST_EFFECTS rfl) (nomark _)) (pss_one (ps_ret pe_bl)) pss_nil) (pss_cons (ps_if (pt_not (pt_val (pe_callX k_is_multiplying (hr.mono (by decide)) rfl (pa_cons (pv 1) pa_nil)))) (pss_one (ps_ret pe_bl)) pss_nil) (pss_cons (ps_setLc (i:=2) rfl sc_has_room_for_effect.nd rfl rfl (sw_true rfl rfl rfl rfl) (pi_list (pe_fld (pv 0) rfl)) (blkOk_by (own:=[("effect",3)]) rfl) (fun _ _ _ _ _=>(pg_name (i:=3) sc_has_room_for_effect.nd rfl (Or.inl rfl))) (fun _ _ _ _ _=>(pts_one (pt_val (pe_callX k_is_multiplying (hr.mono (by decide)) rfl (pa_cons (pe_ix (ix_listK (K:=K) rfl) (pe_fldK (K:=K) rfl (pv 3) rfl) pe_int (fun _ _=>rfl)) pa_nil))))) (fun _ _ _ _ _=>(pv 3))) (pss_one (ps_ret (pe_cmpR op_lt (pe_callB call_len_seq rfl b_len PySem.boot_len (pa_cons (pv 2) pa_nil)) (pe_ci c_MOST_MULTIPLYING_EFFECTS rfl) (nomark _))))))),?_⟩
 obtain ⟨dx,ht⟩:=R.tbl
 have hl:=R.ef.1.2
 have hlen:=Paired.length R.ef.2
 unfold roomB at k
 walk_at "go2"
 rw [rfs_len,hlen]
 refine rd_ite (fun h0=>?_) fun h0=>?_
 ·rw [if_pos (by omega)] at k
  walk_at "go2"
  exact k.now
 rw [if_neg (by omega)] at k
 walk_at "go2"
 refine ⟨n,rfl,?_⟩
 walk_at "go2"
 refine rd_iteB (fun h1=>?_) fun h1=>?_
 ·rw [if_neg (fun q=>by rw [q] at h1;cases h1)] at k
  walk_at "go2"
  exact k.now
 rw [if_pos (by simpa using h1)] at k
 walk_at "go2"
 refine lc_filt (n:=3) Vbdcai.doubling hl (by show 3 < 4;decide) hlen (by rw [hlen,sizeLine_eq];have:=hW.len;omega) (fun i x e D l B hx he hD hB=>?_) fun D hD=>?_
 ·obtain ⟨_,dy,lt,ls,ld,hef,_,_,hd⟩:=paired_at R.ef.2 hx he
  have hef1:=upd_keep (o':=.lst l) hef hD
  obtain ⟨tl,hal⟩:=act_head e.act
  have hd1:=upd_keep (o':=.lst l) hd.2 hD
  rw [hal] at hd1
  walk_at "go2"
  refine rd_ix hd1 at0 ?_
  walk_at "go2"
  refine ⟨_,rfl,rd_blV ?_⟩
  rw [mul_act e.act e rfl]
  exact hB
 have hD1:upd H D (.lst (rfs (pick Vbdcai.doubling lo.ea W.effects))) D=some (.lst (rfs (pick Vbdcai.doubling lo.ea W.effects))):=upd_same
 walk_at "go2"
 have e:decide (((rfs (pick Vbdcai.doubling lo.ea W.effects)).length:Int) < 5)=decide ((W.effects.filter Vbdcai.doubling).length < 5):=by
  rw [rfs_len,Paired.length (pick_paired Vbdcai.doubling R.ef.2)]
  exact decide_eq_decide.mpr (by omega)
 rw [e]
 exact k _ (Same.upd_new hD))) only [↓zh1]
def posB (W:Du.W) (x n:Int):Bool:=(isSideB x || hasB (x - 11 + 1) W) && suitsB x n
def sp_is_possible_target (K:PySem.W.Frag) (C:Cl):Sp:=fun vs H Q _=>∃ (t:Addr) (x n:Int) (ρ:Rho) (lo:Lo) (bV:V) (W:Du.W),vs=[.ref t,.int x,.int n]∧Rep C ρ H t lo bV W∧Q (.bl (posB W x n)) H
theorem ok_is_possible_target (T:Tx K C) (F:Fun K "is_possible_target" "is_possible_target" s_is_possible_target f fd) (k_suits:Kn P w K mg base "suits" 2 (sp_suits K C)) (q_Table_has_target:KnM P w K mg base C.table "has_target" 2 (sp_Table_has_target K C)) :FnOk P w K mg base CX0 3 f fd ["table","target","kind"] (sp_is_possible_target K C):=by
 refine zh0 ?_;simp (disch:=k_dflt (
 refine F.ok sc_is_possible_target (by walk_at "ln") (fun cdv A outer s H vs Q E hr h=>?_)
 obtain ⟨t,x,n,ρ,lo,bV,W,rfl,R,k⟩:=h
 refine ⟨_,(pss_one (ps_ret (pe_and (pe_methX (pv 0) q_Table_has_target (hr.mono (by decide)) (pa_cons (pv 1) pa_nil)) (pe_one (pe_callX k_suits (hr.mono (by decide)) rfl (pa_cons (pv 1) (pa_cons (pv 2) pa_nil))))))),?_⟩
 obtain ⟨dx,ht⟩:=R.tbl
 unfold posB at k
 walk_at "go2"
 refine ⟨t,x,ρ,lo,bV,W,rfl,R,?_⟩
 walk_at "go2"
 refine rd_iteB (fun h1=>?_) fun h1=>?_
 ·rw [h1,Bool.true_and] at k
  walk_at "go2"
  exact ⟨x,n,rfl,k⟩
 rw [h1,Bool.false_and] at k
 exact k)) only [↓zh1]
theorem pos_ok {W:Du.W} {x n:Nat} (hx:Tgt x) (hn:n≤5):posB W (x:Int) (n:Int)=Vbdcai.okTarget W n x:=by
 refine zh0 ?_;simp (disch:=k_dflt (
 refine zh2 ?_
 unfold posB suitsB isSideB hasB withinB Vbdcai.okTarget
 unfold Tgt at hx
 have hn6:n=0∨n=1∨n=2∨n=3∨n=4∨n=5:=by omega
 by_cases h2:x < 2
 ·rw [if_pos h2]
  have hx2:x=0∨x=1:=by omega
  rcases hx2 with rfl | rfl <;> rcases hn6 with rfl | rfl | rfl | rfl | rfl | rfl <;> rfl
 rw [if_neg h2]
 have e0:decide ((x:Int)=0)=false:=decide_eq_false (by omega)
 have e1:decide ((x:Int)=1)=false:=decide_eq_false (by omega)
 have e2:decide ((1:Int)≤(x:Int) - 11 + 1)=true:=decide_eq_true (by omega)
 have e3:decide ((x:Int) - 11 + 1≤(W.things.length:Int))=decide (x - 10≤W.things.length):=decide_eq_decide.mpr (by omega)
 have e4:decide (10 < x)=true:=decide_eq_true (by omega)
 rw [e0,e1,e2,e3,e4]
 rcases hn6 with rfl | rfl | rfl | rfl | rfl | rfl <;> simp)) only [↓zh1]
def kindB (W:Du.W) (n:Int) (r:List Int):Bool:=match r with
 | [a,b,c,_,_]=>if a=4 then true else if a=8∨a=9 then posB W c b else if a=10∨n=5 then decide (a=10) && decide (n=5) else if a=6∨a=7 then posB W b n else (!decide (a=5)) || decide (0 < b)
 | _=>false
def sp_is_for_kind (K:PySem.W.Frag) (C:Cl):Sp:=fun vs H Q _=>∃ (t l:Addr) (n a b c d e:Int) (ρ:Rho) (lo:Lo) (bV:V) (W:Du.W),vs=[.ref t,.int n,.ref l]∧Rep C ρ H t lo bV W∧H l=some (.lst (ivs [a,b,c,d,e]))∧Q (.bl (kindB W n [a,b,c,d,e])) H
theorem ok_is_for_kind (T:Tx K C) (F:Fun K "is_for_kind" "is_for_kind" s_is_for_kind f fd) (c_NOTHING:CI mg "NOTHING" (4)) (c_BESIDES:CI mg "BESIDES" (9)) (c_INSTEAD:CI mg "INSTEAD" (8)) (k_is_possible_target:Kn P w K mg base "is_possible_target" 3 (sp_is_possible_target K C)) (c_MOVE:CI mg "MOVE" (5)) (c_ELSEWHERE:CI mg "ELSEWHERE" (10)) (c_SPLIT:CI mg "SPLIT" (7)) (c_TURN:CI mg "TURN" (6)) (c_SHIELD:CI mg "SHIELD" (5)) :FnOk P w K mg base CX0 4 f fd ["table","kind","does"] (sp_is_for_kind K C):=by
 refine zh0 ?_;simp (disch:=k_dflt (
 refine F.ok sc_is_for_kind (by walk_at "ln") (fun cdv A outer s H vs Q E hr h=>?_)
 obtain ⟨t,l,n,a,b,c,d,e,ρ,lo,bV,W,rfl,R,hl,k⟩:=h
 refine ⟨_,(pss_cons (ps_set (i:=3) sc_is_for_kind.nd rfl (Or.inl rfl) (pe_ix ix_list (pv 2) pe_int (fun _ _=>rfl))) (pss_cons (ps_if (pt_cmpR op_eq (pv 3) (pe_ci c_NOTHING rfl) (nomark _)) (pss_one (ps_ret pe_bl)) pss_nil) (pss_cons (ps_if (PW.pt (pw_or (pt_cmpR op_eq (pv 3) (pe_ci c_INSTEAD rfl) (nomark _)) (pw_or1 (pt_cmpR op_eq (pv 3) (pe_ci c_BESIDES rfl) (nomark _))))) (pss_one (ps_ret (pe_callX k_is_possible_target (hr.mono (by decide)) rfl (pa_cons (pv 0) (pa_cons (pe_ix ix_list (pv 2) pe_int (fun _ _=>rfl)) (pa_cons (pe_ix ix_list (pv 2) pe_int (fun _ _=>rfl)) pa_nil)))))) pss_nil) (pss_cons (ps_if (PW.pt (pw_or (pt_cmpR op_eq (pv 3) (pe_ci c_ELSEWHERE rfl) (nomark _)) (pw_or1 (pt_cmpR op_eq (pv 1) (pe_ci c_MOVE rfl) (nomark _))))) (pss_one (ps_ret (pe_and (pe_cmpR op_eq (pv 3) (pe_ci c_ELSEWHERE rfl) (nomark _)) (pe_one (pe_cmpR op_eq (pv 1) (pe_ci c_MOVE rfl) (nomark _)))))) pss_nil) (pss_cons (ps_if (PW.pt (pw_or (pt_cmpR op_eq (pv 3) (pe_ci c_TURN rfl) (nomark _)) (pw_or1 (pt_cmpR op_eq (pv 3) (pe_ci c_SPLIT rfl) (nomark _))))) (pss_one (ps_ret (pe_callX k_is_possible_target (hr.mono (by decide)) rfl (pa_cons (pv 0) (pa_cons (pe_ix ix_list (pv 2) pe_int (fun _ _=>rfl)) (pa_cons (pv 1) pa_nil)))))) pss_nil) (pss_one (ps_ret (pe_or (pe_cmpR op_ne (pv 3) (pe_ci c_SHIELD rfl) (nomark _)) (pe_one (pe_cmpR op_gt (pe_ix ix_list (pv 2) pe_int (fun _ _=>rfl)) pe_int (nomark _))))))))))),?_⟩
 have k:Q (.bl (if a=4 then true else if a=8∨a=9 then posB W c b else if a=10∨n=5 then decide (a=10) && decide (n=5) else if a=6∨a=7 then posB W b n else (!decide (a=5)) || decide (0 < b))) H:=k
 walk_at "go2"
 refine rd_ix hl at0 ?_
 walk_at "go2"
 refine rd_ite (fun h0=>?_) fun h0=>?_
 ·rw [if_pos h0] at k
  walk_at "go2"
  exact k
 rw [if_neg h0] at k
 have m:(a=8∨a=9)→Q (.bl (posB W c b)) H:=fun h=>by rw [if_pos h] at k;exact k
 walk_at "go2"
 refine rd_ite (fun h1=>?_) fun h1=>?_
 ·walk_at "go2"
  refine rd_ix hl at2 ?_
  walk_at "go2"
  refine rd_ix hl at1 ?_
  walk_at "go2"
  exact ⟨t,_,_,ρ,lo,bV,W,rfl,R,m (.inl h1)⟩
 walk_at "go2"
 refine rd_ite (fun h2=>?_) fun h2=>?_
 ·walk_at "go2"
  refine rd_ix hl at2 ?_
  walk_at "go2"
  refine rd_ix hl at1 ?_
  walk_at "go2"
  exact ⟨t,_,_,ρ,lo,bV,W,rfl,R,m (.inr h2)⟩
 rw [if_neg (fun q=>q.elim h1 h2)] at k
 clear m
 have m:(a=10∨n=5)→Q (.bl (decide (a=10) && decide (n=5))) H:=fun h=>by rw [if_pos h] at k;exact k
 walk_at "go2"
 refine rd_ite (fun h3=>?_) fun h3=>?_
 ·have k:=m (.inl h3)
  rw [decide_eq_true h3,Bool.true_and] at k
  walk_at "go2"
  refine rd_ite (fun h5=>?_) fun h5=>absurd h3 h5
  walk_at "go2"
  exact k
 walk_at "go2"
 refine rd_ite (fun h4=>?_) fun h4=>?_
 ·have k:=m (.inr h4)
  rw [decide_eq_false h3,Bool.false_and] at k
  walk_at "go2"
  refine rd_ite (fun h5=>absurd h5 h3) fun h5=>?_
  exact k
 rw [if_neg (fun q=>q.elim h3 h4)] at k
 clear m
 have m:(a=6∨a=7)→Q (.bl (posB W b n)) H:=fun h=>by rw [if_pos h] at k;exact k
 walk_at "go2"
 refine rd_ite (fun h5=>?_) fun h5=>?_
 ·walk_at "go2"
  refine rd_ix hl at1 ?_
  walk_at "go2"
  exact ⟨t,_,_,ρ,lo,bV,W,rfl,R,m (.inl h5)⟩
 walk_at "go2"
 refine rd_ite (fun h6=>?_) fun h6=>?_
 ·walk_at "go2"
  refine rd_ix hl at1 ?_
  walk_at "go2"
  exact ⟨t,_,_,ρ,lo,bV,W,rfl,R,m (.inr h6)⟩
 rw [if_neg (fun q=>q.elim h5 h6)] at k
 walk_at "go2"
 refine rd_iteN (fun h7=>?_) fun h7=>?_
 ·rw [decide_eq_false h7] at k
  walk_at "go2"
  exact k
 rw [decide_eq_true h7] at k
 walk_at "go2"
 refine rd_ix hl at1 ?_
 walk_at "go2"
 exact k)) only [↓zh1]
def busyB (s:Se):Bool:=!s.world.todo.isEmpty
theorem busy_no {s:Se} (h:Rest s.world):¬ (!s.world.todo.isEmpty)=true:=by rw [h.todo];decide
theorem busy_yes {s:Se} {v:Ev} {r:List Ev} (h:s.world.todo=v :: r):(!s.world.todo.isEmpty)=true:=by rw [h];rfl
theorem offer_eq {W:Du.W} {v:Ev} {r:List Ev} (h:W.todo=v :: r) (n:Int):Vbdcai.offer W n=((Vbdcai.offered (Vbdcai.ctrl W) W.effects v).find? (isN n)).map fun e=>(Vbdcai.sideOf (Vbdcai.ctrl W) v.target,e):=by
 unfold Vbdcai.offer Vbdcai.asked
 rw [h]
 rfl
def chRef (s:Se) (p n:Int):Int:=if (!s.world.todo.isEmpty)=true then (match Vbdcai.offer s.world n with
 | none=>-6
 | some (q,_)=>if (q:Int)≠p then -8 else 0) else -7
def sp_choice_refusal (K:PySem.W.Frag) (C:Cl):Sp:=fun vs H Q _=>∃ (t:Addr) (p n:Int) (ρ:Rho) (s:Se),vs=[.ref t,.int p,.int n]∧St C ρ H t s∧Q (.int (chRef s p n)) H
theorem ok_choice_refusal (T:Tx K C) (F:Fun K "choice_refusal" "choice_refusal" s_choice_refusal f fd) (c_NOBODY_IS_ASKED:CI mg "NOBODY_IS_ASKED" (-7)) (k_offered_effect:Kn P w K mg base "offered_effect" 1 (sp_offered_effect K C)) (c_NO_SUCH_EFFECT:CI mg "NO_SUCH_EFFECT" (-6)) (k_asked_side:Kn P w K mg base "asked_side" 3 (sp_asked_side K C)) (c_OTHER_SIDE_IS_ASKED:CI mg "OTHER_SIDE_IS_ASKED" (-8)) :FnOk P w K mg base CX0 4 f fd ["table","side","number"] (sp_choice_refusal K C):=by
 refine zh0 ?_;simp (disch:=k_dflt (
 refine F.ok sc_choice_refusal (by walk_at "ln") (fun cdv A outer s H vs Q E hr h=>?_)
 obtain ⟨t,p,n,ρ,se,rfl,S,k⟩:=h
 refine ⟨_,(pss_cons (ps_if (pt_cmpR op_isN (pe_fld (pv 0) rfl) pe_non (nomark _)) (pss_one (ps_ret (pe_ci c_NOBODY_IS_ASKED rfl))) pss_nil) (pss_cons (ps_if (pt_cmpR op_isN (pe_callX k_offered_effect (hr.mono (by decide)) rfl (pa_cons (pv 0) (pa_cons (pv 2) pa_nil))) pe_non (nomark _)) (pss_one (ps_ret (pe_ci c_NO_SUCH_EFFECT rfl))) pss_nil) (pss_cons (ps_if (pt_cmpR op_ne (pv 1) (pe_callX k_asked_side (hr.mono (by decide)) rfl (pa_cons (pv 0) pa_nil)) (nomark _)) (pss_one (ps_ret (pe_ci c_OTHER_SIDE_IS_ASKED rfl))) pss_nil) (pss_one (ps_ret pe_int))))),?_⟩
 unfold chRef at k
 rcases S with ⟨lo,R,hR⟩ | ⟨lo,b,lb,v,r,A,_⟩
 ·obtain ⟨dx,ht⟩:=R.tbl
  rw [if_neg (busy_no hR)] at k
  walk_at "go2"
  refine ⟨rfl,rd_blV (rd_iteT ?_)⟩
  walk_at "go2"
  exact k
 obtain ⟨dx,ht⟩:=A.sb.rep.tbl
 rw [if_pos (busy_yes A.todo),offer_eq A.todo] at k
 walk_at "go2"
 refine ⟨rfl,rd_blV (rd_iteF ?_)⟩
 walk_at "go2"
 refine ⟨t,n,b,ρ,lo,lb,_,_,v,r,rfl,A,fun a e he _ _=>?_,fun he=>?_⟩
 ·rw [he] at k
  have k:Q (.int (if (Vbdcai.sideOf (Vbdcai.ctrl se.world) v.target:Int)≠p then -8 else 0)) H:=k
  walk_at "go2"
  refine ⟨rfl,rd_blV (rd_iteF ?_)⟩
  walk_at "go2"
  refine ⟨t,b,ρ,lo,lb,_,_,v,r,rfl,A.sb,A.todo,(A.asks.bok.todo v (by rw [A.todo];exact List.mem_cons_self)).1,?_⟩
  walk_at "go2"
  refine rd_iteN (fun h0=>?_) fun h0=>?_
  ·rw [if_pos (fun q=>h0 q.symm)] at k
   walk_at "go2"
   exact k
  rw [if_neg (fun q=>q h0.symm)] at k
  walk_at "go2"
  exact k
 rw [he] at k
 walk_at "go2"
 refine ⟨rfl,rd_blV (rd_iteT ?_)⟩
 walk_at "go2"
 exact k)) only [↓zh1]
def Shows (C:Cl) (H:Hp) (a:Addr) (r:List Int):Prop:=(∃ dx lt ls ld e,H a=some (.ins C.effect dx (efFs e lt ls ld))∧H ld=some (.lst (ivs (actRow e.act)))∧r=efRow e)∨(∃ dx lu v,H a=some (.ins C.event dx (evFs v lu))∧r=evRow v)
theorem Shows.len {H:Hp} {a:Addr} {r:List Int} (h:Shows C H a r):r.length≤7:=by
 rcases h with ⟨dx,lt,ls,ld,e,_,_,rfl⟩ | ⟨dx,lu,v,_,rfl⟩
 ·unfold efRow
  rw [castL_len,List.length_append,show (Vbdcai.actNumbers e.act).length=2 by cases e.act <;> rfl]
  exact Nat.le_refl _
 exact Nat.le_of_ble_eq_true rfl
theorem flat_len:∀ (l:List (List Int)),(∀ r∈l,r.length≤7)→l.flatten.length≤7 * l.length
 | [],_=>Nat.le_refl _
 | a :: l,h=>by
  have h1:=h a List.mem_cons_self
  have h2:=flat_len l fun r hr=>h r (List.mem_cons_of_mem _ hr)
  rw [List.flatten_cons,List.length_append,List.length_cons]
  omega
def sp_one_behind_another (K:PySem.W.Frag) (C:Cl):Sp:=fun vs H Q _=>∃ (l:Addr) (as:List Addr) (rws:List (List Int)),vs=[.ref l]∧H l=some (.lst (rfs as))∧as.length=rws.length∧as.length≤6000∧(∀ (i:Nat) a r,as[i]?=some a→rws[i]?=some r→Shows C H a r)∧NewRow H (0 :: rws.flatten) Q
theorem ok_one_behind_another (T:Tx K C) (F:Fun K "one_behind_another" "one_behind_another" s_one_behind_another f fd) (q_Effect_as_row:KnM P w K mg base C.effect "as_row" 1 (sp_Effect_as_row K C)) (q_Event_as_row:KnM P w K mg base C.event "as_row" 1 (sp_Event_as_row K C)) :FnOk P w K mg base CX0 2 f fd ["shown"] (sp_one_behind_another K C):=by
 refine zh0 ?_;simp (disch:=k_dflt (
 refine F.ok sc_one_behind_another (by walk_at "ln") (fun cdv A outer s H vs Q E hr h=>?_)
 obtain ⟨l,as,rws,rfl,hl,hlen,hz,hsh,k⟩:=h
 refine ⟨_,(pss_cons (ps_set (i:=1) sc_one_behind_another.nd rfl (Or.inl rfl) (pe_lst (pa_cons pe_int pa_nil))) (pss_cons (ps_for PassesOwn.never rfl (pi_list (pv 0)) (pg_name (i:=2) sc_one_behind_another.nd rfl (Or.inl rfl)) (pss_one (ps_expr (pe_bm PySem.F.plainAttrs_list PySem.F.slot_list_extend PySem.F.type_list_extend mt_extend (pv 1) (pa_cons (pe_methV2 (pv 2) q_Effect_as_row q_Event_as_row (hr.mono (by decide)) (hr.mono (by decide))) pa_nil))))) (pss_one (ps_ret (pv 1))))),?_⟩
 walk_at "go2"
 refine ⟨by show 1≤sizeLine;decide,fun l0 hl0=>?_⟩
 have s0:Same H (upd H l0 (.lst [iv 0])):=Same.upd_new hl0
 walk_at "go2"
 refine forAt_of (SqL.of (s0 _ _ hl)) (fun i σ H'=>∃ u,σ=[some (.ref l),some (.ref l0),u]∧H' l0=some (.lst (ivs (0 :: (rws.take i).flatten)))∧Same H H') ⟨none,rfl,upd_same,s0⟩ (fun i σ H' _ ⟨_,_,_,s⟩=>SqL.of (s _ _ hl)) ?_ ?_
 ·rintro i x σ H1 hx ⟨u,rfl,e0,s⟩
  obtain ⟨a,ha,rfl⟩:=rfs_inv hx
  have hi:i < rws.length:=by rw [← hlen];exact (List.getElem?_eq_some_iff.mp ha).1
  have hr:rws[i]?=some rws[i]:=List.getElem?_eq_getElem hi
  have sh:=hsh i a _ ha hr
  have hrl:=sh.len
  have hb:(0 :: (rws.take i).flatten).length≤50000:=by
   have hall:∀ r∈rws.take i,r.length≤7:=fun r hr=>by
    obtain ⟨j,hj,e⟩:=List.getElem_of_mem (List.mem_of_mem_take hr)
    have hj':rws[j]?=some r:=by rw [List.getElem?_eq_getElem hj,e]
    have ha':as[j]?=some (as[j]'(by omega)):=List.getElem?_eq_getElem (by omega)
    exact (hsh j _ _ ha' hj').len
   have:=flat_len _ hall
   rw [List.length_cons]
   rw [List.length_take] at this
   omega
  have fin:∀ H2 l2,Same H1 H2→H2 l2=some (.lst (ivs rws[i]))→∃ u,([some (.ref l),some (.ref l0),some (.ref a)]:L2.St)=[some (.ref l),some (.ref l0),u]∧upd H2 l0 (.lst (ivs (0 :: (rws.take i).flatten)++ivs rws[i])) l0=some (.lst (ivs (0 :: (rws.take (i + 1)).flatten)))∧Same H (upd H2 l0 (.lst (ivs (0 :: (rws.take i).flatten)++ivs rws[i]))):=fun H2 l2 s2 e2=>by
   refine ⟨_,rfl,?_,fun b o hbb=>?_⟩
   ·rw [upd_same,ivs_app,take_one hr,List.flatten_append]
    simp
   rw [upd_ne (ne_of_none hbb hl0)]
   exact s2 _ _ (s _ _ hbb)
  walk_at "go2"
  refine rd_ty e0 ?_
  walk_at "go2"
  rcases sh with ⟨dx,lt,ls,ld,e,h1,h2,h3⟩ | ⟨dx,lu,v,h1,h3⟩
  ·refine ⟨a,dx,_,rfl,rfl,.inl ⟨s _ _ h1,a,dx,lt,ls,ld,e,rfl,s _ _ h1,s _ _ h2,fun H2 l2 s2 hl2 e2=>?_⟩⟩
   rw [← h3] at e2
   walk_at "go2"
   exact rd_extend (s2 _ _ e0) e2 (by rw [ivs_len,ivs_len,sizeLine_eq];omega) (fin H2 l2 s2 e2)
  refine ⟨a,dx,_,rfl,rfl,.inr ⟨s _ _ h1,a,dx,lu,v,rfl,s _ _ h1,fun H2 l2 s2 hl2 e2=>?_⟩⟩
  rw [← h3] at e2
  walk_at "go2"
  exact rd_extend (s2 _ _ e0) e2 (by rw [ivs_len,ivs_len,sizeLine_eq];omega) (fin H2 l2 s2 e2)
 rintro σ H1 ⟨u,rfl,e0,s⟩
 walk_at "go2"
 rw [rfs_len,hlen,List.take_length] at e0
 exact k H1 l0 s hl0 e0)) only [↓zh1]
def sp_ans (C:Cl) (B:List Int→List (List Int)→Bool) (F:List Int→List (List Int)→Vbdcai.Call):Sp:=fun vs H Q _=>∃ (t la lr:Addr) (args:List Int) (rows:List (List Int)) (ras:List Addr) (ρ:Rho) (s:Se),vs=[.ref t,.ref la,.ref lr]∧St C ρ H t s∧Args H la lr args rows ras∧B args rows=true∧AnsK C ρ H t (Vbdcai.step s (F args rows)) Q
theorem no0 {args:List Int} {rows:List (List Int)} (h:noB 0 args rows=true):args=[]∧rows=[]:=by
 unfold noB at h
 rw [Bool.and_eq_true,decide_eq_true_iff,decide_eq_true_iff] at h
 exact ⟨List.length_eq_zero_iff.mp h.1,List.length_eq_zero_iff.mp h.2⟩
theorem no1 {args:List Int} {rows:List (List Int)} (h:noB 1 args rows=true):(∃ a,args=[a])∧rows=[]:=by
 unfold noB at h
 rw [Bool.and_eq_true,decide_eq_true_iff,decide_eq_true_iff] at h
 exact ⟨List.length_eq_one_iff.mp h.1,List.length_eq_zero_iff.mp h.2⟩
theorem no2 {args:List Int} {rows:List (List Int)} (h:noB 2 args rows=true):(∃ a b,args=[a,b])∧rows=[]:=by
 unfold noB at h
 rw [Bool.and_eq_true,decide_eq_true_iff,decide_eq_true_iff] at h
 obtain ⟨h1,h2⟩:=h
 refine ⟨?_,List.length_eq_zero_iff.mp h2⟩
 match args,h1 with
 | [a,b],_=>exact ⟨a,b,rfl⟩
theorem set_eq (s:Se) (W:Du.W):Vbdcai.set s W=⟨W,s.before⟩:=rfl
theorem addThing {W:Du.W} (h:WOk W) (x:Th) (hl:W.things.length < 16):WOk { W with things:=W.things++[x] }:=by
 refine zh0 ?_;simp (disch:=k_dflt (
 refine zh2 ?_
 have e:({ W with things:=W.things++[x] }:Du.W).things.length=W.things.length + 1:=by
  show (W.things++[x]).length=_
  rw [List.length_append]
  rfl
 exact ⟨h.bks,by rw [e];omega,fun e' he=>(h.eff e' he).mono (by rw [e];omega) (Nat.le_refl _),h.ids,h.len,h.dbl⟩)) only [↓zh1]
def sp_answer_thing (K:PySem.W.Frag) (C:Cl):Sp:=sp_ans C (formB 0) Dm.at0
theorem ok_answer_thing (T:Tx K C) (F:Fun K "answer_thing" "answer_thing" s_answer_thing f fd) (c_SOMEBODY_IS_ASKED:CI mg "SOMEBODY_IS_ASKED" (-2)) (b_len:mg "len"=none) (c_MOST_THINGS:CI mg "MOST_THINGS" (16)) (c_TOO_MANY_OR_NONE:CI mg "TOO_MANY_OR_NONE" (-3)) (m_Thing:KnC P w K mg base "Thing" C.thing 1 (sp_Thing_init K C)) :FnOk P w K mg base CX0 3 f fd ["table","arguments","rows"] (sp_answer_thing K C):=by
 refine zh0 ?_;simp (disch:=k_dflt (
 refine F.ok sc_answer_thing (by walk_at "ln") (fun cdv A outer s H vs Q E hr h=>?_)
 obtain ⟨t,la,lr,args,rows,ras,ρ,se,rfl,S,A,hB,k⟩:=h
 refine ⟨_,(pss_cons (ps_if (pt_cmpR op_notN (pe_fld (pv 0) rfl) pe_non (nomark _)) (pss_one (ps_ret (pe_lst (pa_cons (pe_ci c_SOMEBODY_IS_ASKED rfl) pa_nil)))) pss_nil) (pss_cons (ps_if (pt_cmpR op_ge (pe_callB call_len_seq rfl b_len PySem.boot_len (pa_cons (pe_fld (pv 0) rfl) pa_nil)) (pe_ci c_MOST_THINGS rfl) (nomark _)) (pss_one (ps_ret (pe_lst (pa_cons (pe_ci c_TOO_MANY_OR_NONE rfl) pa_nil)))) pss_nil) (pss_cons (ps_expr (pe_bm PySem.F.plainAttrs_list PySem.F.slot_list_append PySem.F.type_list_append mt_append (pe_fld (pv 0) rfl) (pa_cons (pe_makeX m_Thing (hr.mono (by decide)) rfl (pa_cons (pe_ix ix_list (pv 1) pe_int (fun _ _=>rfl)) (pa_cons (pe_ix ix_list (pv 1) pe_int (fun _ _=>rfl)) pa_nil))) pa_nil))) (pss_one (ps_ret (pe_lst (pa_cons pe_int (pa_cons (pe_callB call_len_seq rfl b_len PySem.boot_len (pa_cons (pe_fld (pv 0) rfl) pa_nil)) pa_nil)))))))),?_⟩
 have hB:(rngB args thRs && decide (rows.length=0))=true:=hB
 rw [Bool.and_eq_true,decide_eq_true_iff] at hB
 obtain ⟨p,z,rfl,hp,hz⟩:=rng2_iff.mp hB.1
 obtain rfl:rows=[]:=List.length_eq_zero_iff.mp hB.2
 have e:Dm.at0 [p,z] []=.thing p.toNat z.toNat:=by
  show Vbdcai.orBad ((Vbdcai.nat? p 0 1).bind fun p=>(Vbdcai.nat? z 0 3).map fun z=>.thing p z)=_
  rw [nat?_some hp,nat?_some hz]
  rfl
 have es:Vbdcai.step se (.thing p.toNat z.toNat)=if (!se.world.todo.isEmpty)=true then (se,[-2]) else if 16≤se.world.things.length then (se,[-3]) else (Vbdcai.set se { se.world with things:=se.world.things++[{ ctrl:=p.toNat,place:=z.toNat }] },[0,(se.world.things.length:Int) + 1]):=rfl
 rw [e,es] at k
 rcases S with ⟨lo,R,hR⟩ | ⟨lo,b,lb,v,r,AS,h1,h2⟩
 ·rw [if_neg (busy_no hR)] at k
  obtain ⟨dx,ht⟩:=R.tbl
  have hl:=R.th.1.2
  have hlen:=R.th.2.1
  walk_at "go2"
  refine ⟨rfl,rd_blV (rd_iteF ?_)⟩
  walk_at "go2"
  rw [rfs_len,hlen]
  refine rd_ite (fun h0=>?_) fun h0=>?_
  ·rw [if_pos (by omega)] at k
   walk_at "go2"
   exact k.ret (.inl ⟨lo,R,hR⟩) rfl (by show 1≤100;decide)
  rw [if_neg (by omega)] at k
  walk_at "go2"
  refine rd_ty hl ?_
  walk_at "go2"
  refine rd_ix A.ha at0 ?_
  walk_at "go2"
  refine rd_ix A.ha at1 ?_
  walk_at "go2"
  intro x dy hx hdy ne
  refine ⟨x,dy,p.toNat,z.toNat,?_,upd_same,rfl,?_⟩
  ·show [V.ref x,V.int p,V.int z]=[V.ref x,V.int ((p.toNat:Nat):Int),V.int ((z.toNat:Nat):Int)]
   rw [cast_toNat hp.1,cast_toNat hz.1]
  rw [upd_upd]
  have hx':upd H dy (.own x) x=none:=by rw [upd_ne (fun q=>ne q.symm)];exact hx
  have s1:Same H (upd (upd H dy (.own x)) x (.ins C.thing dy (thFs { ctrl:=p.toNat,place:=z.toNat }))):=(Same.upd_new hdy).trans (Same.upd_new hx')
  have e1:upd (upd H dy (.own x)) x (.ins C.thing dy (thFs { ctrl:=p.toNat,place:=z.toNat })) x=some (.ins C.thing dy (thFs { ctrl:=p.toNat,place:=z.toNat })):=upd_same
  generalize upd (upd H dy (.own x)) x (.ins C.thing dy (thFs { ctrl:=p.toNat,place:=z.toNat }))=H1 at *
  have R2:=(R.same s1).thingNew (R.dom _ hx) e1
  have o2:Out ρ H (upR ρ x (5,se.world.things.length)) (upd H1 lo.tL (.lst (rfs (lo.ta++[x])))):=fun c u hc hcu=>by
   have ncx:c≠x:=fun q=>by rw [q,hx] at hcu;cases hcu
   exact ⟨upR_ne ncx,by rw [upd_ne (fun q=>by rw [q,R.th.1.1] at hc;cases hc)];exact s1 _ _ hcu⟩
  walk_at "go2"
  refine rd_append (s1 _ _ hl) (by rw [rfs_len,hlen,sizeLine_eq];omega) ?_
  rw [rfs_snoc]
  obtain ⟨dx2,ht2⟩:=R2.tbl
  have hl2:=R2.th.1.2
  have S2:St C (upR ρ x (5,se.world.things.length)) (upd H1 lo.tL (.lst (rfs (lo.ta++[x])))) t (Vbdcai.set se { se.world with things:=se.world.things++[{ ctrl:=p.toNat,place:=z.toNat }] }):=.inl ⟨_,R2,addThing hR.ok _ (by omega),hR.todo,hR.settled⟩
  walk_at "go2"
  refine (k.from o2).ret S2 ?_ (by show 2≤100;decide)
  show [V.int 0,V.int ((se.world.things.length:Int) + 1)]=[V.int 0,V.int ((rfs (lo.ta++[x])).length:Int)]
  rw [rfs_len,List.length_append,hlen]
  rfl
 rw [if_pos (busy_yes AS.todo)] at k
 obtain ⟨dx,ht⟩:=AS.sb.rep.tbl
 walk_at "go2"
 refine ⟨rfl,rd_blV (rd_iteT ?_)⟩
 walk_at "go2"
 exact k.ret (.inr ⟨lo,b,lb,v,r,AS,h1,h2⟩) rfl (by show 1≤100;decide))) only [↓zh1]
theorem any_isN {W:Du.W} {n:Int}:(W.effects.any fun e=>(e.id:Int) == n)=W.effects.any (isN n):=rfl
def sp_answer_stop (K:PySem.W.Frag) (C:Cl):Sp:=sp_ans C (formB 2) Dm.at2
theorem ok_answer_stop (T:Tx K C) (F:Fun K "answer_stop" "answer_stop" s_answer_stop f fd) (c_SOMEBODY_IS_ASKED:CI mg "SOMEBODY_IS_ASKED" (-2)) (q_Table_effect_numbered:KnM P w K mg base C.table "effect_numbered" 1 (sp_Table_effect_numbered K C)) (c_NO_SUCH_EFFECT:CI mg "NO_SUCH_EFFECT" (-6)) (q_Table_end_effect:KnM P w K mg base C.table "end_effect" 1 (sp_Table_end_effect K C)) :FnOk P w K mg base CX0 2 f fd ["table","arguments","rows"] (sp_answer_stop K C):=by
 refine zh0 ?_;simp (disch:=k_dflt (
 refine F.ok sc_answer_stop (by walk_at "ln") (fun cdv A outer s H vs Q E hr h=>?_)
 obtain ⟨t,la,lr,args,rows,ras,ρ,se,rfl,S,A,hB,k⟩:=h
 refine ⟨_,(pss_cons (ps_if (pt_cmpR op_notN (pe_fld (pv 0) rfl) pe_non (nomark _)) (pss_one (ps_ret (pe_lst (pa_cons (pe_ci c_SOMEBODY_IS_ASKED rfl) pa_nil)))) pss_nil) (pss_cons (ps_if (pt_cmpR op_isN (pe_methX (pv 0) q_Table_effect_numbered (hr.mono (by decide)) (pa_cons (pe_ix ix_list (pv 1) pe_int (fun _ _=>rfl)) pa_nil)) pe_non (nomark _)) (pss_one (ps_ret (pe_lst (pa_cons (pe_ci c_NO_SUCH_EFFECT rfl) pa_nil)))) pss_nil) (pss_cons (ps_expr (pe_methX (pv 0) q_Table_end_effect (hr.mono (by decide)) (pa_cons (pe_ix ix_list (pv 1) pe_int (fun _ _=>rfl)) pa_nil))) (pss_one (ps_ret (pe_lst (pa_cons pe_int pa_nil))))))),?_⟩
 obtain ⟨⟨n,rfl⟩,rfl⟩:=no1 hB
 have es:Vbdcai.step se (Dm.at2 [n] [])=if (!se.world.todo.isEmpty)=true then (se,[-2]) else if se.world.effects.any (isN n)=false then (se,[-6]) else (Vbdcai.set se { se.world with effects:=se.world.effects.filter fun e=>(e.id:Int) != n },[0]):=rfl
 rw [es] at k
 rcases S with ⟨lo,R,hR⟩ | ⟨lo,b,lb,v,r,AS,h1,h2⟩
 ·rw [if_neg (busy_no hR)] at k
  obtain ⟨dx,ht⟩:=R.tbl
  walk_at "go2"
  refine ⟨rfl,rd_blV (rd_iteF ?_)⟩
  walk_at "go2"
  refine rd_ix A.ha at0 ?_
  walk_at "go2"
  refine ⟨t,n,ρ,lo,_,_,rfl,R,fun a h=>?_,fun h=>?_⟩
  ·rw [if_neg (by rw [h];decide)] at k
   walk_at "go2"
   refine ⟨rfl,rd_blV (rd_iteF ?_)⟩
   walk_at "go2"
   refine rd_ix A.ha at0 ?_
   walk_at "go2"
   refine ⟨t,n,ρ,lo,_,_,rfl,R,(by have:=hR.ok.len;omega),fun ρ' H' lo' R' _ o=>?_⟩
   walk_at "go2"
   refine (k.from o).ret (.inl ⟨lo',R',?_,hR.todo,hR.settled⟩) rfl (by show 1≤100;decide)
   exact hR.ok.of rfl rfl List.filter_sublist rfl
  rw [if_pos h] at k
  walk_at "go2"
  refine ⟨rfl,rd_blV (rd_iteT ?_)⟩
  walk_at "go2"
  exact k.ret (.inl ⟨lo,R,hR⟩) rfl (by show 1≤100;decide)
 rw [if_pos (busy_yes AS.todo)] at k
 obtain ⟨dx,ht⟩:=AS.sb.rep.tbl
 walk_at "go2"
 refine ⟨rfl,rd_blV (rd_iteT ?_)⟩
 walk_at "go2"
 exact k.ret (.inr ⟨lo,b,lb,v,r,AS,h1,h2⟩) rfl (by show 1≤100;decide))) only [↓zh1]
theorem step_choose (s:Se) (p n:Int):Vbdcai.step s (.choose p n)=if (!s.world.todo.isEmpty)=false then (s,[-7]) else match Vbdcai.offer s.world n with
  | none=>(s,[-6])
  | some (q,e)=>if (q:Int)≠p then (s,[-8]) else (Vbdcai.set s (Vbdcai.choose s.world e),Vbdcai.stands (Vbdcai.choose s.world e)):=rfl
theorem step_decline (s:Se) (p n:Int):Vbdcai.step s (.decline p n)=if (!s.world.todo.isEmpty)=false then (s,[-7]) else match Vbdcai.offer s.world n with
  | none=>(s,[-6])
  | some (q,e)=>if (q:Int)≠p then (s,[-8]) else if e.may=false then (s,[-9]) else (Vbdcai.set s (Vbdcai.decline s.world e),Vbdcai.stands (Vbdcai.decline s.world e)):=rfl
theorem ch_zero {s:Se} {p n:Int} (h:chRef s p n=0):∃ q e,(!s.world.todo.isEmpty)=true∧Vbdcai.offer s.world n=some (q,e)∧(q:Int)=p:=by
 refine zh0 ?_;simp (disch:=k_dflt (
 refine zh2 ?_
 unfold chRef at h
 by_cases hb:(!s.world.todo.isEmpty)=true
 ·rw [if_pos hb] at h
  cases ho:Vbdcai.offer s.world n with
  | none=>rw [ho] at h;exact absurd (show (-6:Int)=0 from h) (by decide)
  | some x =>
   obtain ⟨q,e⟩:=x
   rw [ho] at h
   by_cases hq:(q:Int)=p
   ·exact ⟨q,e,hb,rfl,hq⟩
   have h:(if (q:Int)≠p then (-8:Int) else 0)=0:=h
   rw [if_pos hq] at h
   exact absurd h (by decide)
 rw [if_neg hb] at h
 exact absurd h (by decide))) only [↓zh1]
theorem choose_no {s:Se} {p n:Int} (h:chRef s p n≠0):Vbdcai.step s (.choose p n)=(s,[chRef s p n])∧Vbdcai.step s (.decline p n)=(s,[chRef s p n]):=by
 refine zh0 ?_;simp (disch:=k_dflt (
 refine zh2 ?_
 rw [step_choose,step_decline]
 unfold chRef at *
 by_cases hb:(!s.world.todo.isEmpty)=true
 ·rw [if_pos hb] at h ⊢
  rw [if_neg (by rw [hb];decide),if_neg (by rw [hb];decide)]
  cases ho:Vbdcai.offer s.world n with
  | none=>exact ⟨rfl,rfl⟩
  | some x =>
   obtain ⟨q,e⟩:=x
   rw [ho] at h
   have h:(if (q:Int)≠p then (-8:Int) else 0)≠0:=h
   have hq:(q:Int)≠p:=fun z=>h (if_neg (fun y=>y z))
   show (if (q:Int)≠p then (s,([-8]:List Int)) else _)=(s,[if (q:Int)≠p then (-8:Int) else 0])∧(if (q:Int)≠p then (s,([-8]:List Int)) else _)=(s,[if (q:Int)≠p then (-8:Int) else 0])
   rw [if_pos hq,if_pos hq,if_pos hq]
   exact ⟨rfl,rfl⟩
 rw [if_neg hb]
 have hb':(!s.world.todo.isEmpty)=false:=by simpa using hb
 rw [if_pos hb',if_pos hb']
 exact ⟨rfl,rfl⟩)) only [↓zh1]
theorem St.asked {ρ:Rho} {H:Hp} {t:Addr} {s:Se} (S:St C ρ H t s) (h:(!s.world.todo.isEmpty)=true):Busy C ρ H t s:=by
 rcases S with ⟨lo,R,hR⟩ | q
 ·exact absurd h (busy_no hR)
 exact q
def sp_answer_choose (K:PySem.W.Frag) (C:Cl):Sp:=sp_ans C (formB 4) Dm.at4
theorem ok_answer_choose (T:Tx K C) (F:Fun K "answer_choose" "answer_choose" s_answer_choose f fd) (k_choice_refusal:Kn P w K mg base "choice_refusal" 4 (sp_choice_refusal K C)) (k_choose:Kn P w K mg base "choose" 8 (sp_choose K C)) (k_offered_effect:Kn P w K mg base "offered_effect" 1 (sp_offered_effect K C)) (k_how_it_stands:Kn P w K mg base "how_it_stands" 4 (sp_how_it_stands K C)) :FnOk P w K mg base CX0 9 f fd ["table","arguments","rows"] (sp_answer_choose K C):=by
 refine zh0 ?_;simp (disch:=k_dflt (
 refine F.ok sc_answer_choose (by walk_at "ln") (fun cdv A outer s H vs Q E hr h=>?_)
 obtain ⟨t,la,lr,args,rows,ras,ρ,se,rfl,S,A,hB,k⟩:=h
 refine ⟨_,(pss_cons (ps_set (i:=3) sc_answer_choose.nd rfl (Or.inl rfl) (pe_callX k_choice_refusal (hr.mono (by decide)) rfl (pa_cons (pv 0) (pa_cons (pe_ix ix_list (pv 1) pe_int (fun _ _=>rfl)) (pa_cons (pe_ix ix_list (pv 1) pe_int (fun _ _=>rfl)) pa_nil))))) (pss_cons (ps_if (pt_cmpR op_ne (pv 3) pe_int (nomark _)) (pss_one (ps_ret (pe_lst (pa_cons (pv 3) pa_nil)))) pss_nil) (pss_cons (ps_expr (pe_callX k_choose (hr.mono (by decide)) rfl (pa_cons (pv 0) (pa_cons (pe_callX k_offered_effect (hr.mono (by decide)) rfl (pa_cons (pv 0) (pa_cons (pe_ix ix_list (pv 1) pe_int (fun _ _=>rfl)) pa_nil))) pa_nil)))) (pss_one (ps_ret (pe_callX k_how_it_stands (hr.mono (by decide)) rfl (pa_cons (pv 0) pa_nil))))))),?_⟩
 obtain ⟨⟨p,n,rfl⟩,rfl⟩:=no2 hB
 have k:AnsK C ρ H t (Vbdcai.step se (.choose p n)) Q:=k
 obtain ⟨lo0,bV0,R0⟩:=S.rep
 obtain ⟨dx,ht⟩:=R0.tbl
 walk_at "go2"
 refine rd_ix A.ha at0 ?_
 walk_at "go2"
 refine rd_ix A.ha at1 ?_
 walk_at "go2"
 refine ⟨t,p,n,ρ,se,rfl,S,?_⟩
 walk_at "go2"
 refine rd_iteN (fun h0=>?_) fun h0=>?_
 ·rw [(choose_no h0).1] at k
  walk_at "go2"
  exact k.ret S rfl (by show 1≤100;decide)
 obtain ⟨q,e,hb,ho,hq⟩:=ch_zero h0
 obtain ⟨lo,b,lb,v,r,AS,h1,h2⟩:=S.asked hb
 rw [step_choose,if_neg (by rw [hb];decide),ho] at k
 have k:AnsK C ρ H t (if (q:Int)≠p then (se,[-8]) else (Vbdcai.set se (Vbdcai.choose se.world e),Vbdcai.stands (Vbdcai.choose se.world e))) Q:=k
 rw [if_neg (fun y=>y hq)] at k
 rw [offer_eq AS.todo] at ho
 walk_at "go2"
 refine rd_ix A.ha at1 ?_
 walk_at "go2"
 refine ⟨t,n,b,ρ,lo,lb,_,_,v,r,rfl,AS,fun a e' he hp hat=>?_,fun he=>(by rw [he] at ho;cases ho)⟩
 rw [he] at ho
 obtain rfl:e'=e:=congrArg Prod.snd (Option.some.inj ho)
 have hmem:=List.mem_of_find?_eq_some he
 obtain ⟨_,hends⟩:=choose_ends AS.asks AS.todo hmem
 walk_at "go2"
 refine ⟨t,a,b,ρ,lo,lb,_,_,v,r,e',rfl,AS,hp,hmem,ended_of (hends.imp id fun z=>⟨z.1,h2.trans z.2.2⟩) h1 fun ρ' H' S' o'=>?_⟩
 walk_at "go2"
 exact ⟨t,ρ',_,rfl,S',(k.from o').row S'⟩)) only [↓zh1]
def sp_answer_decline (K:PySem.W.Frag) (C:Cl):Sp:=sp_ans C (formB 5) Dm.at5
theorem ok_answer_decline (T:Tx K C) (F:Fun K "answer_decline" "answer_decline" s_answer_decline f fd) (k_choice_refusal:Kn P w K mg base "choice_refusal" 4 (sp_choice_refusal K C)) (k_offered_effect:Kn P w K mg base "offered_effect" 1 (sp_offered_effect K C)) (c_NO_MAY_EFFECT:CI mg "NO_MAY_EFFECT" (-9)) (k_decline:Kn P w K mg base "decline" 8 (sp_decline K C)) (k_how_it_stands:Kn P w K mg base "how_it_stands" 4 (sp_how_it_stands K C)) :FnOk P w K mg base CX0 9 f fd ["table","arguments","rows"] (sp_answer_decline K C):=by
 refine zh0 ?_;simp (disch:=k_dflt (
 refine F.ok sc_answer_decline (by walk_at "ln") (fun cdv A outer s H vs Q E hr h=>?_)
 obtain ⟨t,la,lr,args,rows,ras,ρ,se,rfl,S,A,hB,k⟩:=h
 refine ⟨_,(pss_cons (ps_set (i:=3) sc_answer_decline.nd rfl (Or.inl rfl) (pe_callX k_choice_refusal (hr.mono (by decide)) rfl (pa_cons (pv 0) (pa_cons (pe_ix ix_list (pv 1) pe_int (fun _ _=>rfl)) (pa_cons (pe_ix ix_list (pv 1) pe_int (fun _ _=>rfl)) pa_nil))))) (pss_cons (ps_if (pt_cmpR op_ne (pv 3) pe_int (nomark _)) (pss_one (ps_ret (pe_lst (pa_cons (pv 3) pa_nil)))) pss_nil) (pss_cons (ps_set (i:=4) sc_answer_decline.nd rfl (Or.inl rfl) (pe_callX k_offered_effect (hr.mono (by decide)) rfl (pa_cons (pv 0) (pa_cons (pe_ix ix_list (pv 1) pe_int (fun _ _=>rfl)) pa_nil)))) (pss_cons (ps_if (pt_cmpR op_eq (pe_fld (pv 4) rfl) pe_int (nomark _)) (pss_one (ps_ret (pe_lst (pa_cons (pe_ci c_NO_MAY_EFFECT rfl) pa_nil)))) pss_nil) (pss_cons (ps_expr (pe_callX k_decline (hr.mono (by decide)) rfl (pa_cons (pv 0) (pa_cons (pv 4) pa_nil)))) (pss_one (ps_ret (pe_callX k_how_it_stands (hr.mono (by decide)) rfl (pa_cons (pv 0) pa_nil))))))))),?_⟩
 obtain ⟨⟨p,n,rfl⟩,rfl⟩:=no2 hB
 have k:AnsK C ρ H t (Vbdcai.step se (.decline p n)) Q:=k
 obtain ⟨lo0,bV0,R0⟩:=S.rep
 obtain ⟨dx,ht⟩:=R0.tbl
 walk_at "go2"
 refine rd_ix A.ha at0 ?_
 walk_at "go2"
 refine rd_ix A.ha at1 ?_
 walk_at "go2"
 refine ⟨t,p,n,ρ,se,rfl,S,?_⟩
 walk_at "go2"
 refine rd_iteN (fun h0=>?_) fun h0=>?_
 ·rw [(choose_no h0).2] at k
  walk_at "go2"
  exact k.ret S rfl (by show 1≤100;decide)
 obtain ⟨q,e,hb,ho,hq⟩:=ch_zero h0
 obtain ⟨lo,b,lb,v,r,AS,h1,h2⟩:=S.asked hb
 rw [step_decline,if_neg (by rw [hb];decide),ho] at k
 have k:AnsK C ρ H t (if (q:Int)≠p then (se,[-8]) else if e.may=false then (se,[-9]) else (Vbdcai.set se (Vbdcai.decline se.world e),Vbdcai.stands (Vbdcai.decline se.world e))) Q:=k
 rw [if_neg (fun y=>y hq)] at k
 rw [offer_eq AS.todo] at ho
 walk_at "go2"
 refine rd_ix A.ha at1 ?_
 walk_at "go2"
 refine ⟨t,n,b,ρ,lo,lb,_,_,v,r,rfl,AS,fun a e' he hp hat=>?_,fun he=>(by rw [he] at ho;cases ho)⟩
 rw [he] at ho
 obtain rfl:e'=e:=congrArg Prod.snd (Option.some.inj ho)
 have hmem:=List.mem_of_find?_eq_some he
 obtain ⟨_,dy,lt,ls,ld,hef,_⟩:=hat
 walk_at "go2"
 refine rd_ite (fun hm=>?_) fun hm=>?_
 ·have hmay:e'.may=false:=by cases q:e'.may with
   | false=>rfl
   | true=>rw [q] at hm;cases hm
  rw [if_pos hmay] at k
  walk_at "go2"
  exact k.ret (.inr ⟨lo,b,lb,v,r,AS,h1,h2⟩) rfl (by show 1≤100;decide)
 have hmay:¬ e'.may=false:=fun q=>by rw [q] at hm;exact absurd rfl hm
 rw [if_neg hmay] at k
 obtain ⟨_,_,hends⟩:=decl_ends AS.asks AS.todo hmem
 walk_at "go2"
 refine ⟨t,a,b,ρ,lo,lb,_,_,v,r,e',rfl,AS,hp,hmem,ended_of (hends.imp id fun z=>⟨z.1,h2.trans z.2.2⟩) h1 fun ρ' H' S' o'=>?_⟩
 walk_at "go2"
 exact ⟨t,ρ',_,rfl,S',(k.from o').row S'⟩)) only [↓zh1]
def sp_answer_rest (K:PySem.W.Frag) (C:Cl):Sp:=sp_ans C (formB 6) Dm.at6
theorem ok_answer_rest (T:Tx K C) (F:Fun K "answer_rest" "answer_rest" s_answer_rest f fd) (c_NOBODY_IS_ASKED:CI mg "NOBODY_IS_ASKED" (-7)) (k_choose_to_the_end:Kn P w K mg base "choose_to_the_end" 9 (sp_choose_to_the_end K C)) (k_how_it_stands:Kn P w K mg base "how_it_stands" 4 (sp_how_it_stands K C)) :FnOk P w K mg base CX0 10 f fd ["table","arguments","rows"] (sp_answer_rest K C):=by
 refine zh0 ?_;simp (disch:=k_dflt (
 refine F.ok sc_answer_rest (by walk_at "ln") (fun cdv A outer s H vs Q E hr h=>?_)
 obtain ⟨t,la,lr,args,rows,ras,ρ,se,rfl,S,A,hB,k⟩:=h
 refine ⟨_,(pss_cons (ps_if (pt_cmpR op_isN (pe_fld (pv 0) rfl) pe_non (nomark _)) (pss_one (ps_ret (pe_lst (pa_cons (pe_ci c_NOBODY_IS_ASKED rfl) pa_nil)))) pss_nil) (pss_cons (ps_expr (pe_callX k_choose_to_the_end (hr.mono (by decide)) rfl (pa_cons (pv 0) pa_nil))) (pss_one (ps_ret (pe_callX k_how_it_stands (hr.mono (by decide)) rfl (pa_cons (pv 0) pa_nil)))))),?_⟩
 obtain ⟨rfl,rfl⟩:=no0 hB
 have es:Vbdcai.step se (Dm.at6 [] [])=if (!se.world.todo.isEmpty)=false then (se,[-7]) else (Vbdcai.set se (Vbdcai.rest Vbdcai.ENOUGH se.world),Vbdcai.stands (Vbdcai.rest Vbdcai.ENOUGH se.world)):=rfl
 rw [es] at k
 rcases S with ⟨lo,R,hR⟩ | ⟨lo,b,lb,v,r,AS,h1,h2⟩
 ·rw [if_pos (by have:=busy_no hR;simpa using this)] at k
  obtain ⟨dx,ht⟩:=R.tbl
  walk_at "go2"
  refine ⟨rfl,rd_blV (rd_iteT ?_)⟩
  walk_at "go2"
  exact k.ret (.inl ⟨lo,R,hR⟩) rfl (by show 1≤100;decide)
 rw [if_neg (by rw [busy_yes AS.todo];decide)] at k
 obtain ⟨dx,ht⟩:=AS.sb.rep.tbl
 have hE:mu se.world≤Vbdcai.ENOUGH:=by have:=AS.asks.bok.room;unfold Vbdcai.ENOUGH;omega
 have hY:=(rest_fuel Vbdcai.ENOUGH Vbdcai.ENOUGH (.inr AS.asks) hE hE).2
 walk_at "go2"
 refine ⟨rfl,rd_blV (rd_iteF ?_)⟩
 walk_at "go2"
 refine ⟨t,b,ρ,lo,lb,_,_,v,r,rfl,AS,fun ρ' H' lo' R' o'=>?_⟩
 have S':St C ρ' H' t (Vbdcai.set se (Vbdcai.rest Vbdcai.ENOUGH se.world)):=.inl ⟨lo',R',hY⟩
 walk_at "go2"
 exact ⟨t,ρ',_,rfl,S',(k.from o').row S'⟩)) only [↓zh1]
def sp_answer_undo (K:PySem.W.Frag) (C:Cl):Sp:=sp_ans C (formB 7) Dm.at7
theorem ok_answer_undo (T:Tx K C) (F:Fun K "answer_undo" "answer_undo" s_answer_undo f fd) (c_NOBODY_IS_ASKED:CI mg "NOBODY_IS_ASKED" (-7)) (k_take_back:Kn P w K mg base "take_back" 1 (sp_take_back K C)) :FnOk P w K mg base CX0 2 f fd ["table","arguments","rows"] (sp_answer_undo K C):=by
 refine zh0 ?_;simp (disch:=k_dflt (
 refine F.ok sc_answer_undo (by walk_at "ln") (fun cdv A outer s H vs Q E hr h=>?_)
 obtain ⟨t,la,lr,args,rows,ras,ρ,se,rfl,S,A,hB,k⟩:=h
 refine ⟨_,(pss_cons (ps_if (pt_cmpR op_isN (pe_fld (pv 0) rfl) pe_non (nomark _)) (pss_one (ps_ret (pe_lst (pa_cons (pe_ci c_NOBODY_IS_ASKED rfl) pa_nil)))) pss_nil) (pss_cons (ps_expr (pe_callX k_take_back (hr.mono (by decide)) rfl (pa_cons (pv 0) pa_nil))) (pss_one (ps_ret (pe_lst (pa_cons pe_int pa_nil)))))),?_⟩
 obtain ⟨rfl,rfl⟩:=no0 hB
 have es:Vbdcai.step se (Dm.at7 [] [])=if (!se.world.todo.isEmpty)=false then (se,[-7]) else (Vbdcai.set se se.before,[0]):=rfl
 rw [es] at k
 rcases S with ⟨lo,R,hR⟩ | ⟨lo,b,lb,v,r,AS,h1,h2⟩
 ·rw [if_pos (by have:=busy_no hR;simpa using this)] at k
  obtain ⟨dx,ht⟩:=R.tbl
  walk_at "go2"
  refine ⟨rfl,rd_blV (rd_iteT ?_)⟩
  walk_at "go2"
  exact k.ret (.inl ⟨lo,R,hR⟩) rfl (by show 1≤100;decide)
 rw [if_neg (by rw [busy_yes AS.todo];decide)] at k
 obtain ⟨dx,ht⟩:=AS.sb.rep.tbl
 walk_at "go2"
 refine ⟨rfl,rd_blV (rd_iteF ?_)⟩
 walk_at "go2"
 refine ⟨t,b,ρ,lo,lb,_,_,rfl,AS.sb,h2,fun ρ' H' lo' R' o'=>?_⟩
 walk_at "go2"
 exact (k.from o').ret (.inl ⟨lo',R',h1⟩) rfl (by show 1≤100;decide))) only [↓zh1]
theorem notT {b:Bool} (h:(!b)=true):b=false:=by cases b <;> simp_all
theorem notF {b:Bool} (h:(!b)=false):b=true:=by cases b <;> simp_all
theorem hasB_nat (W:Du.W) (n:Nat):hasB (n:Int) W=Vbdcai.okThing W n:=by
 refine zh0 ?_;simp (disch:=k_dflt (
 refine zh2 ?_
 unfold hasB withinB Vbdcai.okThing
 rw [show decide ((1:Int)≤(n:Int))=decide (1≤n) from decide_eq_decide.mpr (by omega),show decide ((n:Int)≤(W.things.length:Int))=decide (n≤W.things.length) from decide_eq_decide.mpr (by omega)])) only [↓zh1]
theorem kind_ok {W:Du.W} {k:Nat} {a:Vbdcai.Act} (hk:k≤5) (h1:actK a) (h2:actT a):kindB W (k:Int) (actRow a)=Vbdcai.okAct W k a:=by
 refine zh0 ?_;simp (disch:=k_dflt (
 refine zh2 ?_
 have e5:decide ((k:Int)=5)=(k == 5):=by rw [Bool.eq_iff_iff,decide_eq_true_iff,beq_iff_eq];omega
 have n5:(k != 5)=!(k == 5):=rfl
 cases a with
 | less n =>
  unfold kindB actRow Vbdcai.okAct
  by_cases q:k=5
  ·subst q;rfl
  have q':¬ (k:Int)=5:=by omega
  simp [q,q',nz]
 | more n =>
  unfold kindB actRow Vbdcai.okAct
  by_cases q:k=5
  ·subst q;rfl
  have q':¬ (k:Int)=5:=by omega
  simp [q,q',nz]
 | twice =>
  unfold kindB actRow Vbdcai.okAct
  by_cases q:k=5
  ·subst q;rfl
  have q':¬ (k:Int)=5:=by omega
  simp [q,q',nz]
 | half =>
  unfold kindB actRow Vbdcai.okAct
  by_cases q:k=5
  ·subst q;rfl
  have q':¬ (k:Int)=5:=by omega
  simp [q,q',nz]
 | none=>rfl
 | shield n =>
  unfold kindB actRow Vbdcai.okAct
  by_cases q:k=5
  ·subst q;rfl
  have q':¬ (k:Int)=5:=by omega
  have e1:decide ((0:Int) < (n:Int))=(n != 0):=by rw [Bool.eq_iff_iff,decide_eq_true_iff,bne_iff_ne];omega
  show (if (5:Int)=4 then true else if (5:Int)=8∨(5:Int)=9 then _ else if (5:Int)=10∨(k:Int)=5 then _ else if (5:Int)=6∨(5:Int)=7 then _ else (!decide ((5:Int)=5)) || decide ((0:Int) < (n:Int)))=((k != 5) && (n != 0))
  rw [if_neg (by decide),if_neg (by decide),if_neg (fun z=>z.elim (by decide) q'),if_neg (by decide),e1,show (k != 5)=true from bne_iff_ne.mpr q]
  rfl
 | aim x =>
  unfold kindB actRow Vbdcai.okAct
  by_cases q:k=5
  ·subst q;rfl
  have q':¬ (k:Int)=5:=by omega
  have:=pos_ok (W:=W) (x:=x) (n:=k) h2 hk
  simp [q,q',nz,this]
 | split x =>
  unfold kindB actRow Vbdcai.okAct
  by_cases q:k=5
  ·subst q;rfl
  have q':¬ (k:Int)=5:=by omega
  have:=pos_ok (W:=W) (x:=x) (n:=k) h2 hk
  simp [q,q',nz,this]
 | become j x n z =>
  have:=pos_ok (W:=W) (x:=x) (n:=j) h2 h1
  unfold kindB actRow Vbdcai.okAct
  simp [nz,this]
 | also j x n z =>
  have:=pos_ok (W:=W) (x:=x) (n:=j) h2 h1
  unfold kindB actRow Vbdcai.okAct
  simp [nz,this]
 | place z =>
  unfold kindB actRow Vbdcai.okAct
  simp [e5])) only [↓zh1]
theorem room_ok {W:Du.W} {e:Ef}:roomB W (actIx e.act)=false↔(12≤W.effects.length∨(Vbdcai.doubling e=true∧5≤(W.effects.filter Vbdcai.doubling).length)):=by
 refine zh0 ?_;simp (disch:=k_dflt (
 refine zh2 ?_
 unfold roomB
 rw [mul_act e.act e rfl]
 by_cases h1:12≤W.effects.length
 ·simp [h1]
 rw [if_neg h1]
 by_cases h2:Vbdcai.doubling e=true
 ·rw [if_pos h2,decide_eq_false_iff_not]
  constructor
  ·intro q;exact .inr ⟨h2,by omega⟩
  rintro (q | q)
  ·exact absurd q h1
  omega
 rw [if_neg h2]
 constructor
 ·intro q;cases q
 rintro (q | q)
 ·exact absurd q h1
 exact absurd q.1 h2)) only [↓zh1]
theorem addEffect {W:Du.W} (h:WOk W) {e:Ef} (he:EfOk { W with last:=W.last + 1 } { e with id:=W.last + 1 }) (h12:¬ 12≤W.effects.length) (hd:¬ (Vbdcai.doubling e=true∧5≤(W.effects.filter Vbdcai.doubling).length)):WOk { W with effects:=W.effects++[{ e with id:=W.last + 1 }],last:=W.last + 1 }:=by
 refine zh0 ?_;simp (disch:=k_dflt (
 refine zh2 ?_
 refine ⟨h.bks,h.ths,fun x hx=>?_,?_,?_,?_⟩
 ·rcases List.mem_append.mp hx with q | q
  ·exact (h.eff x q).mono (Nat.le_refl _) (Nat.le_succ _)
  have q:x={ e with id:=W.last + 1 }:=by simpa using q
  subst q
  exact ⟨he.kind,he.aim,he.whose,he.src,he.act,he.actk,he.id⟩
 ·show ((W.effects++[{ e with id:=W.last + 1 }]).map (fun x:Ef=>x.id)).Nodup
  rw [List.map_append]
  refine List.nodup_append.mpr ⟨h.ids,by simp,fun a ha b hb=>?_⟩
  obtain ⟨x,hx,rfl⟩:=List.mem_map.mp ha
  have hb:b=W.last + 1:=by simpa using hb
  have:=(h.eff x hx).id
  omega
 ·show (W.effects++[{ e with id:=W.last + 1 }]).length≤12
  rw [List.length_append]
  show W.effects.length + 1≤12
  omega
 show ((W.effects++[{ e with id:=W.last + 1 }]).filter Vbdcai.doubling).length≤5
 rw [List.filter_append,List.length_append]
 have hdd:=h.dbl
 have e1:Vbdcai.doubling { e with id:=W.last + 1 }=Vbdcai.doubling e:=rfl
 by_cases q:Vbdcai.doubling e=true
 ·have:([{ e with id:=W.last + 1 }]:List Ef).filter Vbdcai.doubling=[{ e with id:=W.last + 1 }]:=by rw [List.filter_cons,e1,if_pos q];rfl
  rw [this]
  show _ + 1≤5
  have:¬ 5≤(W.effects.filter Vbdcai.doubling).length:=fun z=>hd ⟨q,z⟩
  omega
 have:([{ e with id:=W.last + 1 }]:List Ef).filter Vbdcai.doubling=[]:=by rw [List.filter_cons,e1,if_neg q];rfl
 rw [this]
 exact hdd)) only [↓zh1]
theorem all_split {W:Du.W} {ts ss:List Nat} {src:Nat}:(ts++ss++(if src=0 then [] else [src])).all (Vbdcai.okThing W)=((decide ((src:Int)=0) || hasB (src:Int) W) && ((castL ts++castL ss).all fun n=>hasB n W)):=by
 refine zh0 ?_;simp (disch:=k_dflt (
 refine zh2 ?_
 have e1:∀ l:List Nat,((castL l).all fun n=>hasB n W)=l.all (Vbdcai.okThing W):=fun l=>by
  unfold castL
  rw [List.all_map]
  congr 1
  funext n
  exact hasB_nat W n
 rw [List.all_append,List.all_append,List.all_append,e1,e1]
 by_cases h:src=0
 ·subst h
  simp
 rw [if_neg h,decide_eq_false (by omega),hasB_nat]
 simp only [List.all_cons,List.all_nil,Bool.and_true,Bool.false_or]
 rw [Bool.and_comm])) only [↓zh1]
theorem onF_iff {W:Du.W} {n:Nat}:onF W n=false↔(n≠0∧((W.things[n - 1]?).any fun t=>t.place == 0)=false):=by
 unfold onF
 rw [Bool.or_eq_false_iff,beq_eq_false_iff_ne]
theorem step_effect (s:Se) (e:Ef):Vbdcai.step s (.effect e)=if (!s.world.todo.isEmpty)=true then (s,[-2]) else if 12≤s.world.effects.length∨(Vbdcai.doubling e=true∧5≤(s.world.effects.filter Vbdcai.doubling).length) then (s,[-3])
  else if ((e.things++e.sources++(if e.source=0 then [] else [e.source])).all (Vbdcai.okThing s.world) && Vbdcai.okAct s.world e.kind e.act)=false then (s,[-4])
  else if e.source≠0∧((s.world.things[e.source - 1]?).any fun t=>t.place == 0)=false then (s,[-5])
  else (Vbdcai.set s { s.world with effects:=s.world.effects++[{ e with id:=s.world.last + 1 }],last:=s.world.last + 1 },[0,(s.world.last:Int) + 1]):=rfl
def sp_answer_effect (K:PySem.W.Frag) (C:Cl):Sp:=sp_ans C (formB 1) Dm.at1
theorem ok_answer_effect (T:Tx K C) (F:Fun K "answer_effect" "answer_effect" s_answer_effect f fd) (c_SOMEBODY_IS_ASKED:CI mg "SOMEBODY_IS_ASKED" (-2)) (k_has_room_for_effect:Kn P w K mg base "has_room_for_effect" 2 (sp_has_room_for_effect K C)) (c_TOO_MANY_OR_NONE:CI mg "TOO_MANY_OR_NONE" (-3)) (b_all:mg "all"=none) (q_Table_has_thing:KnM P w K mg base C.table "has_thing" 1 (sp_Table_has_thing K C)) (q_Table_has_source:KnM P w K mg base C.table "has_source" 2 (sp_Table_has_source K C)) (c_NOT_THERE_OR_UNSUITED:CI mg "NOT_THERE_OR_UNSUITED" (-4)) (k_is_for_kind:Kn P w K mg base "is_for_kind" 4 (sp_is_for_kind K C)) (q_Table_on_field:KnM P w K mg base C.table "on_field" 2 (sp_Table_on_field K C)) (c_SOURCE_OFF_FIELD:CI mg "SOURCE_OFF_FIELD" (-5)) (m_Effect:KnC P w K mg base "Effect" C.effect 1 (sp_Effect_init K C)) :FnOk P w K mg base CX0 5 f fd ["table","arguments","rows"] (sp_answer_effect K C):=by
 refine zh0 ?_;simp (disch:=k_dflt (
 refine F.ok sc_answer_effect (by walk_at "ln") (fun cdv A outer s H vs Q E hr h=>?_)
 obtain ⟨t,la,lr,args,rows,ras,ρ,se,rfl,S,A,hB,k⟩:=h
 refine ⟨_,(pss_cons (ps_set (i:=3) sc_answer_effect.nd rfl (Or.inl rfl) (pe_ix ix_list (pv 1) pe_int (fun _ _=>rfl))) (pss_cons (ps_if (pt_cmpR op_notN (pe_fld (pv 0) rfl) pe_non (nomark _)) (pss_one (ps_ret (pe_lst (pa_cons (pe_ci c_SOMEBODY_IS_ASKED rfl) pa_nil)))) pss_nil) (pss_cons (ps_if (pt_not (pt_val (pe_callX k_has_room_for_effect (hr.mono (by decide)) rfl (pa_cons (pv 0) (pa_cons (pe_ix ix_list (pe_ix ix_list (pv 2) pe_int (fun _ _=>rfl)) pe_int (fun _ _=>rfl)) pa_nil))))) (pss_one (ps_ret (pe_lst (pa_cons (pe_ci c_TOO_MANY_OR_NONE rfl) pa_nil)))) pss_nil) (pss_cons (ps_if (PW.pt (pw_or (pt_not (pt_val (pe_methX (pv 0) q_Table_has_source (hr.mono (by decide)) (pa_cons (pv 3) pa_nil)))) (pw_or1 (pt_not (pt_val (pe_callB (call_all rfl) rfl b_all PyProof.Rows.boot_all (pa_cons (pe_lc rfl sc_answer_effect.nd (pi_list (pe_op op_cat (pe_ix ix_list (pv 2) pe_int (fun _ _=>rfl)) (pe_ix ix_list (pv 2) pe_int (fun _ _=>rfl)))) (blkOk_by (own:=[("number",4)]) rfl) (fun _ _ _ _ _=>(pg_name (i:=4) sc_answer_effect.nd rfl (Or.inl rfl))) (fun _ _ _ _ _=>pts_nil) (fun _ _ _ _ _=>(pe_methX (pv 0) q_Table_has_thing (hr.mono (by decide)) (pa_cons (pv 4) pa_nil)))) pa_nil))))))) (pss_one (ps_ret (pe_lst (pa_cons (pe_ci c_NOT_THERE_OR_UNSUITED rfl) pa_nil)))) pss_nil) (pss_cons (ps_if (pt_not (pt_val (pe_callX k_is_for_kind (hr.mono (by decide)) rfl (pa_cons (pv 0) (pa_cons (pe_ix ix_list (pv 1) pe_int (fun _ _=>rfl)) (pa_cons (pe_ix ix_list (pv 2) pe_int (fun _ _=>rfl)) pa_nil)))))) (pss_one (ps_ret (pe_lst (pa_cons (pe_ci c_NOT_THERE_OR_UNSUITED rfl) pa_nil)))) pss_nil) (pss_cons (ps_if (pt_not (pt_val (pe_methX (pv 0) q_Table_on_field (hr.mono (by decide)) (pa_cons (pv 3) pa_nil)))) (pss_one (ps_ret (pe_lst (pa_cons (pe_ci c_SOURCE_OFF_FIELD rfl) pa_nil)))) pss_nil) (pss_cons (ps_fldaug (pv 0) pe_int in_add) (pss_cons (ps_expr (pe_bm PySem.F.plainAttrs_list PySem.F.slot_list_append PySem.F.type_list_append mt_append (pe_fld (pv 0) rfl) (pa_cons (pe_makeX m_Effect (hr.mono (by decide)) rfl (pa_cons (pe_fld (pv 0) rfl) (pa_cons (pv 1) (pa_cons (pe_ix ix_list (pv 2) pe_int (fun _ _=>rfl)) (pa_cons (pe_ix ix_list (pv 2) pe_int (fun _ _=>rfl)) (pa_cons (pe_ix ix_list (pv 2) pe_int (fun _ _=>rfl)) pa_nil)))))) pa_nil))) (pss_one (ps_ret (pe_lst (pa_cons pe_int (pa_cons (pe_fld (pv 0) rfl) pa_nil))))))))))))),?_⟩
 have hB:effB args rows=true:=hB
 have h3:rows.length=3:=Classical.byContradiction fun q=>by rw [effB_len q] at hB;cases hB
 obtain ⟨ts,ss,ac,rfl⟩:=rows3 h3
 obtain ⟨ax,ay,az,rfl⟩:=adr3 (l:=ras) A.len
 obtain ⟨e,he,E1⟩:=eff_true hB
 obtain ⟨hx,lx⟩:=A.row 0 ax ts rfl rfl
 obtain ⟨hy,ly⟩:=A.row 1 ay ss rfl rfl
 obtain ⟨hz,lz⟩:=A.row 2 az ac rfl rfl
 have ha:=A.ha
 have hrr:=A.hr
 have eC:Dm.at1 args [ts,ss,ac]=.effect e:=by
  show Vbdcai.orBad ((Vbdcai.effectOf args ts ss ac).map .effect)=_
  rw [he]
  rfl
 rw [eC,step_effect] at k
 obtain ⟨tl,hal⟩:=act_head e.act
 have hz5:(actRow e.act).length=5:=by cases e.act <;> rfl
 obtain ⟨c0,c1,c2,c3,c4,hrow5⟩:=row5 hz5
 rw [E1.row] at ha
 rw [E1.act.row] at hz
 rw [E1.ts] at hx
 rw [E1.ss] at hy
 walk_at "go2"
 refine rd_ix ha at1 ?_
 rcases S with ⟨lo,R,hR⟩ | ⟨lo,b,lb,v,r,AS,h1,h2⟩
 ·rw [if_neg (busy_no hR)] at k
  obtain ⟨dx,ht⟩:=R.tbl
  walk_at "go2"
  refine ⟨rfl,rd_blV (rd_iteF ?_)⟩
  walk_at "go2"
  refine rd_ix hrr at2 ?_
  walk_at "go2"
  refine rd_ix (xs:=V.int (actIx e.act:Int) :: ivs tl) (by rw [hz,hal];rfl) at0 ?_
  walk_at "go2"
  refine ⟨t,_,ρ,lo,_,_,rfl,R,hR.ok,fun H1 s1=>?_⟩
  have R1:=R.same s1
  have k:=k.on s1
  have ha1:=s1 _ _ ha
  have hr1:=s1 _ _ hrr
  have hx1:=s1 _ _ hx
  have hy1:=s1 _ _ hy
  have hz1:=s1 _ _ hz
  have ht1:=s1 _ _ ht
  clear ht ha hrr hx hy hz
  walk_at "go2"
  refine rd_iteB (fun h0=>?_) fun h0=>?_
  ·rw [if_pos (room_ok.mp (notT h0))] at k
   walk_at "go2"
   exact k.ret (.inl ⟨lo,R1,hR⟩) rfl (by show 1≤100;decide)
  have hroom:¬ (12≤se.world.effects.length∨(Vbdcai.doubling e=true∧5≤(se.world.effects.filter Vbdcai.doubling).length)):=fun q=>by
   rw [room_ok.mpr q] at h0
   cases h0
  rw [if_neg hroom,all_split,← E1.ts,← E1.ss] at k
  walk_at "go2"
  refine ⟨t,_,ρ,lo,_,_,rfl,R1,?_⟩
  walk_at "go2"
  refine rd_iteB (fun h4=>?_) fun h4=>?_
  ·have h4:(decide ((e.source:Int)=0) || hasB (e.source:Int) se.world)=false:=notT h4
   rw [h4,Bool.false_and,Bool.false_and,if_pos rfl] at k
   walk_at "go2"
   exact k.ret (.inl ⟨lo,R1,hR⟩) rfl (by show 1≤100;decide)
  have h4:(decide ((e.source:Int)=0) || hasB (e.source:Int) se.world)=true:=notF h4
  rw [h4,Bool.true_and] at k
  rw [← E1.ts] at hx1
  rw [← E1.ss] at hy1
  walk_at "go2"
  refine rd_ix hr1 at0 ?_
  walk_at "go2"
  refine rd_ix hr1 at1 ?_
  refine rd_cat hx1 hy1 (by rw [ivs_len,ivs_len,sizeLine_eq];omega) fun l1 hl1=>?_
  rw [ivs_app]
  have s2:Same H1 (upd H1 l1 (.lst (ivs (ts++ss)))):=Same.upd_new hl1
  have e2:upd H1 l1 (.lst (ivs (ts++ss))) l1=some (.lst (ivs (ts++ss))):=upd_same
  generalize upd H1 l1 (.lst (ivs (ts++ss)))=H2 at *
  refine lc_pure (n:=4) (ys:=((ts++ss).map fun n=>hasB n se.world).map V.bl) (SqL.of e2) (by show 4 < 5;decide) (by rw [List.length_map,List.length_map,ivs_len]) (by rw [ivs_len,List.length_append,sizeLine_eq];omega) (fun i x y D l Rk hxx hyy hD hRk=>?_) fun D hD=>?_
  ·obtain ⟨n,hn,rfl⟩:=ivs_inv hxx
   have ey:y=V.bl (hasB n se.world):=by
    rw [List.getElem?_map,List.getElem?_map,hn] at hyy
    exact (Option.some.inj hyy).symm
   subst ey
   have ht3:=upd_keep (o':=.lst l) (s2 _ _ ht1) hD
   walk_at "go2"
   exact ⟨t,n,ρ,lo,_,_,rfl,(R1.same s2).same (Same.upd_new hD),hRk⟩
  have s3:Same H1 (upd H2 D (.lst (((ts++ss).map fun n=>hasB n se.world).map V.bl))):=s2.trans (Same.upd_new hD)
  walk_at "go2"
  refine rd_all upd_same ?_
  have ea:((ts++ss).map fun n=>hasB n se.world).all id=(ts++ss).all fun n=>hasB n se.world:=by
   rw [List.all_map]
   rfl
  rw [ea]
  have R3:=R1.same s3
  have k:=k.on s3
  have ha3:=s3 _ _ ha1
  have hr3:=s3 _ _ hr1
  have hx3:=s3 _ _ hx1
  have hy3:=s3 _ _ hy1
  have hz3:=s3 _ _ hz1
  have ht3:=s3 _ _ ht1
  clear ht1 ha1 hr1 hx1 hy1 hz1
  generalize upd H2 D (.lst (((ts++ss).map fun n=>hasB n se.world).map V.bl))=H3 at *
  walk_at "go2"
  refine rd_iteB (fun h5=>?_) fun h5=>?_
  ·have h5:((ts++ss).all fun n=>hasB n se.world)=false:=notT h5
   rw [h5,Bool.false_and,if_pos rfl] at k
   walk_at "go2"
   exact k.ret (.inl ⟨lo,R3,hR⟩) rfl (by show 1≤100;decide)
  have h5:((ts++ss).all fun n=>hasB n se.world)=true:=notF h5
  rw [h5,Bool.true_and] at k
  walk_at "go2"
  refine rd_ix ha3 at2 ?_
  walk_at "go2"
  refine rd_ix hr3 at2 ?_
  walk_at "go2"
  refine ⟨t,az,_,c0,c1,c2,c3,c4,ρ,lo,_,_,rfl,R3,by rw [← hrow5];exact hz3,?_⟩
  rw [← hrow5,kind_ok E1.kind E1.act.kinds E1.act.tgts]
  walk_at "go2"
  refine rd_iteB (fun h6=>?_) fun h6=>?_
  ·have h6:Vbdcai.okAct se.world e.kind e.act=false:=notT h6
   rw [if_pos h6] at k
   walk_at "go2"
   exact k.ret (.inl ⟨lo,R3,hR⟩) rfl (by show 1≤100;decide)
  have h6:Vbdcai.okAct se.world e.kind e.act=true:=notF h6
  rw [if_neg (by rw [h6];decide)] at k
  have hsrc:e.source≤se.world.things.length:=by
   rw [Bool.or_eq_true,decide_eq_true_iff,hasB_nat] at h4
   rcases h4 with q | q
   ·omega
   unfold Vbdcai.okThing at q
   rw [Bool.and_eq_true,decide_eq_true_iff,decide_eq_true_iff] at q
   exact q.2
  walk_at "go2"
  refine ⟨t,e.source,ρ,lo,_,_,rfl,R3,hsrc,?_⟩
  walk_at "go2"
  refine rd_iteB (fun h7=>?_) fun h7=>?_
  ·rw [if_pos (onF_iff.mp (notT h7))] at k
   walk_at "go2"
   exact k.ret (.inl ⟨lo,R3,hR⟩) rfl (by show 1≤100;decide)
  rw [if_neg (fun q=>by rw [onF_iff.mpr q] at h7;cases h7)] at k
  have R4:=R3.number (dx:=dx) (n:=se.world.last + 1)
  have nla:la≠t:=(ins_lst ht3 ha3).symm
  have nlr:lr≠t:=(ins_lst ht3 hr3).symm
  have nax:ax≠t:=(ins_lst ht3 hx3).symm
  have nay:ay≠t:=(ins_lst ht3 hy3).symm
  have naz:az≠t:=(ins_lst ht3 hz3).symm
  have o4:Out ρ H3 ρ (upd H3 t (.ins C.table dx (tbFs lo.sL lo.tL lo.eL (se.world.last + 1) lo.bL .non))):=Kp.upd (by rw [R3.tb.1];simp)
  walk_at "go2"
  refine rd_put ht3 (Nat.le_of_ble_eq_true rfl) (gs:=tbFs lo.sL lo.tL lo.eL (se.world.last + 1) lo.bL .non) ?_ ?_
  ·show putF "effects_numbered" (V.int ((se.world.last:Int) + 1)) _=_
   rw [show ((se.world.last:Int) + 1)=((se.world.last + 1:Nat):Int) by omega]
   rfl
  have ha4:upd H3 t (.ins C.table dx (tbFs lo.sL lo.tL lo.eL (se.world.last + 1) lo.bL .non)) la=_:=(upd_ne nla).trans ha3
  have hr4:upd H3 t (.ins C.table dx (tbFs lo.sL lo.tL lo.eL (se.world.last + 1) lo.bL .non)) lr=_:=(upd_ne nlr).trans hr3
  have hx4:upd H3 t (.ins C.table dx (tbFs lo.sL lo.tL lo.eL (se.world.last + 1) lo.bL .non)) ax=_:=(upd_ne nax).trans hx3
  have hy4:upd H3 t (.ins C.table dx (tbFs lo.sL lo.tL lo.eL (se.world.last + 1) lo.bL .non)) ay=_:=(upd_ne nay).trans hy3
  have hz4:upd H3 t (.ins C.table dx (tbFs lo.sL lo.tL lo.eL (se.world.last + 1) lo.bL .non)) az=_:=(upd_ne naz).trans hz3
  have ht4:upd H3 t (.ins C.table dx (tbFs lo.sL lo.tL lo.eL (se.world.last + 1) lo.bL .non)) t=some (.ins C.table dx (tbFs lo.sL lo.tL lo.eL (se.world.last + 1) lo.bL .non)):=upd_same
  generalize upd H3 t (.ins C.table dx (tbFs lo.sL lo.tL lo.eL (se.world.last + 1) lo.bL .non))=H4 at *
  have hl4:=R4.ef.1.2
  have hlen4:=Paired.length R4.ef.2
  walk_at "go2"
  refine rd_ty hl4 ?_
  walk_at "go2"
  refine rd_ix hr4 at0 ?_
  walk_at "go2"
  refine rd_ix hr4 at1 ?_
  walk_at "go2"
  refine rd_ix hr4 at2 ?_
  walk_at "go2"
  intro x dy hxx hdy ne
  have hxx':upd H4 dy (.own x) x=none:=by rw [upd_ne (fun q=>ne q.symm)];exact hxx
  have s5:Same H4 (upd (upd H4 dy (.own x)) x (.ins C.effect dy [])):=(Same.upd_new hdy).trans (Same.upd_new hxx')
  rw [E1.ts] at hx4
  rw [E1.ss] at hy4
  refine ⟨x,dy,la,ax,ay,az,{ e with id:=se.world.last + 1 },rfl,upd_same,s5 _ _ ha4,s5 _ _ hx4,s5 _ _ hy4,s5 _ _ hz4,fun H5 lt ls ld M=>⟨rfl,?_⟩⟩
  have s6:Same H4 H5:=fun b o hb=>M.keep b o (ne_of_none hb hxx) (s5 _ _ hb)
  have R5:=R4.same s6
  have N:NewEf C ρ H5 x lt ls ld { e with id:=se.world.last + 1 }:=⟨⟨dy,M.hp⟩,M.ht,M.hs,M.hd,R4.dom _ hxx,R4.dom _ (Same.free s5 M.ft),R4.dom _ (Same.free s5 M.fs),R4.dom _ (Same.free s5 M.fd),M.ts,M.td,M.sd⟩
  have R6:=R5.effNew N
  have hroom1:¬ 12≤se.world.effects.length:=fun q=>hroom (.inl q)
  have o6:Out ρ H4 (efR ρ 10 (se.world.last + 1) x lt ls ld) (upd H5 lo.eL (.lst (rfs (lo.ea++[x])))):=fun c u hc hcu=>by
   have n:∀ y,H4 y=none→c≠y:=fun y hy=>ne_of_none hcu hy
   exact ⟨efR_out (n _ hxx) (n _ (Same.free s5 M.ft)) (n _ (Same.free s5 M.fs)) (n _ (Same.free s5 M.fd)),by rw [upd_ne (fun q=>by rw [q,R4.ef.1.1] at hc;cases hc)];exact s6 _ _ hcu⟩
  have S6:St C (efR ρ 10 (se.world.last + 1) x lt ls ld) (upd H5 lo.eL (.lst (rfs (lo.ea++[x])))) t (Vbdcai.set se { se.world with effects:=se.world.effects++[{ e with id:=se.world.last + 1 }],last:=se.world.last + 1 }) :=
   .inl ⟨_,R6,addEffect hR.ok ⟨E1.kind,E1.aim,E1.whose,hsrc,h6,E1.act.kinds,Nat.le_refl _⟩ hroom1 (fun q=>hroom (.inr q)),hR.todo,hR.settled⟩
  walk_at "go2"
  refine rd_append (s6 _ _ hl4) (by rw [rfs_len,hlen4,sizeLine_eq];show se.world.effects.length < _;omega) ?_
  rw [rfs_snoc]
  obtain ⟨dx6,ht6⟩:=R6.tbl
  walk_at "go2"
  refine (k.from (o4.trans o6)).ret S6 ?_ (by show 2≤100;decide)
  show [V.int 0,V.int ((se.world.last:Int) + 1)]=[V.int 0,V.int ((se.world.last + 1:Nat):Int)]
  rw [show ((se.world.last:Int) + 1)=((se.world.last + 1:Nat):Int) by omega]
 rw [if_pos (busy_yes AS.todo)] at k
 obtain ⟨dx,ht⟩:=AS.sb.rep.tbl
 walk_at "go2"
 refine ⟨rfl,rd_blV (rd_iteT ?_)⟩
 walk_at "go2"
 exact k.ret (.inr ⟨lo,b,lb,v,r,AS,h1,h2⟩) rfl (by show 1≤100;decide))) only [↓zh1]
theorem step_batch (s:Se) (vs:List Ev):Vbdcai.step s (.batch vs)=if (!s.world.todo.isEmpty)=true then (s,[-2]) else if vs.length < 1∨4 < vs.length then (s,[-3]) else if vs.all (Vbdcai.okEvent s.world)=false then (s,[-4]) else
  ((⟨Vbdcai.goOn Vbdcai.ENOUGH { toldW s.world vs with todo:=vs },s.world⟩:Se),Vbdcai.stands (Vbdcai.goOn Vbdcai.ENOUGH { toldW s.world vs with todo:=vs })):=rfl
structure MadeEv (C:Cl) (ρ:Rho) (H:Hp) (vs:List Ev) (D:Addr) (ρ':Rho) (H':Hp) (as:List Addr):Prop where
 ps:Paired (EvAt C ρ' H') as vs
 nd:as.Nodup
 dom:Dom ρ' H'
 rD:ρ' D=(0,0)
 hD:H' D=some (.lst (rfs as))
 all:All ρ H ρ' H'
theorem snocEv {F:Addr→Ev→Prop}:∀ {as:List Addr} {vs:List Ev} {a:Addr} {v:Ev},Paired F as vs→F a v→Paired F (as++[a]) (vs++[v])
 | _,_,_,_,.nil,h=>.cons h .nil
 | _,_,_,_,.cons r t,h=>.cons r (snocEv t h)
theorem MadeEv.next {ρ:Rho} {H:Hp} {vs:List Ev} {D:Addr} {ρ1:Rho} {H1:Hp} {as:List Addr} (I:MadeEv C ρ H vs D ρ1 H1 as) (hD0:H D=none) {v:Ev} {x dx lu:Addr} (hlu:H1 lu=none) (hx:upd H1 lu (.lst []) x=none) (hdx:upd H1 lu (.lst []) dx=none) (ne:dx≠x) (hu:v.used=[]) :
  MadeEv C ρ H (vs++[v]) D (upR (upR ρ1 lu (51,0)) x (50,0)) (upd (upd (upd (upd H1 lu (.lst [])) dx (.own x)) x (.ins C.event dx (evFs v lu))) D (.lst (rfs as++[V.ref x]))) (as++[x]):=by
 refine zh0 ?_;simp (disch:=k_dflt (
 refine zh2 ?_
 have nxl:lu≠x:=ne_of_none upd_same hx
 have ndl:lu≠dx:=ne_of_none upd_same hdx
 have fx:H1 x=none:=by rw [upd_ne (fun q=>nxl q.symm)] at hx;exact hx
 have fdx:H1 dx=none:=by rw [upd_ne (fun q=>ndl q.symm)] at hdx;exact hdx
 have nDx:D≠x:=ne_of_none I.hD fx
 have nDl:D≠lu:=ne_of_none I.hD hlu
 have nDd:D≠dx:=ne_of_none I.hD fdx
 have up:∀ b o,b≠D→H1 b=some o→upd (upd (upd (upd H1 lu (.lst [])) dx (.own x)) x (.ins C.event dx (evFs v lu))) D (.lst (rfs as++[V.ref x])) b=some o:=fun b o n h=>by
  rw [upd_ne n,upd_ne (ne_of_none h fx),upd_ne (ne_of_none h fdx),upd_ne (ne_of_none h hlu)];exact h
 have rl:∀ b o,H1 b=some o→upR (upR ρ1 lu (51,0)) x (50,0) b=ρ1 b:=fun b o h=>by rw [upR_ne (ne_of_none h fx),upR_ne (ne_of_none h hlu)]
 have kE:Kp (fun n=>50≤n∧n≤51) ρ1 H1 (upR (upR ρ1 lu (51,0)) x (50,0)) (upd (upd (upd (upd H1 lu (.lst [])) dx (.own x)) x (.ins C.event dx (evFs v lu))) D (.lst (rfs as++[V.ref x]))):=fun b o hb h=>by
  have n:b≠D:=fun q=>by rw [q,I.rD] at hb;omega
  exact ⟨rl b o h,up b o n h⟩
 refine ⟨snocEv (pMap (fun _ _ q=>q.keep kE) I.ps) ⟨upR_same,dx,lu,?_,?_,?_⟩,?_,?_,?_,by rw [upd_same,rfs_snoc],?_⟩
 ·rw [upd_ne (fun q=>nDx q.symm),upd_same]
 ·rw [upR_ne nxl,upR_same]
 ·rw [upd_ne (fun q=>nDl q.symm),upd_ne nxl,upd_ne ndl,upd_same,hu]
  rfl
 ·refine List.nodup_append.mpr ⟨I.nd,by simp,fun a ha b hb=>?_⟩
  obtain ⟨o,e⟩:=ev_mem I.ps a ha
  have hb:b=x:=by simpa using hb
  subst hb
  exact ne_of_none e fx
 ·intro b hb
  have n1:b≠D:=fun q=>by rw [q,upd_same] at hb;cases hb
  rw [upd_ne n1] at hb
  have n2:b≠x:=fun q=>by rw [q,upd_same] at hb;cases hb
  rw [upd_ne n2] at hb
  have n3:b≠dx:=fun q=>by rw [q,upd_same] at hb;cases hb
  rw [upd_ne n3] at hb
  have n4:b≠lu:=fun q=>by rw [q,upd_same] at hb;cases hb
  rw [upd_ne n4] at hb
  rw [upR_ne n2,upR_ne n4]
  exact I.dom b hb
 ·rw [upR_ne nDx,upR_ne nDl];exact I.rD
 intro b o _ hb
 obtain ⟨a1,a2⟩:=I.all b o trivial hb
 exact ⟨(rl b o a2).trans a1,up b o (ne_of_none hb hD0) a2⟩)) only [↓zh1]
theorem okEv_eq {W:Du.W} {v:Ev} (h1:Tgt v.target) (h2:v.kind≤5):Vbdcai.okEvent W v=((decide ((v.source:Int)=0) || hasB (v.source:Int) W) && posB W (v.target:Int) (v.kind:Int)):=by
 unfold Vbdcai.okEvent
 rw [pos_ok h1 h2,hasB_nat,show decide ((v.source:Int)=0)=(v.source == 0) by rw [Bool.eq_iff_iff,decide_eq_true_iff,beq_iff_eq];omega,Bool.and_comm]
def sp_answer_batch (K:PySem.W.Frag) (C:Cl):Sp:=sp_ans C (formB 3) Dm.at3
theorem ok_answer_batch (T:Tx K C) (F:Fun K "answer_batch" "answer_batch" s_answer_batch f fd) (c_SOMEBODY_IS_ASKED:CI mg "SOMEBODY_IS_ASKED" (-2)) (b_len:mg "len"=none) (c_MOST_EVENTS:CI mg "MOST_EVENTS" (4)) (c_TOO_MANY_OR_NONE:CI mg "TOO_MANY_OR_NONE" (-3)) (k_is_possible_target:Kn P w K mg base "is_possible_target" 3 (sp_is_possible_target K C)) (q_Table_has_source:KnM P w K mg base C.table "has_source" 2 (sp_Table_has_source K C)) (c_NOT_THERE_OR_UNSUITED:CI mg "NOT_THERE_OR_UNSUITED" (-4)) (k_begin:Kn P w K mg base "begin" 8 (sp_begin K C)) (m_Event:KnC P w K mg base "Event" C.event 1 (sp_Event_init K C)) (k_how_it_stands:Kn P w K mg base "how_it_stands" 4 (sp_how_it_stands K C)) :FnOk P w K mg base CX0 9 f fd ["table","arguments","rows"] (sp_answer_batch K C):=by
 refine zh0 ?_;simp (disch:=k_dflt (
 refine F.ok sc_answer_batch (by walk_at "ln") (fun cdv A outer s H vs Q E hr h=>?_)
 obtain ⟨t,la,lr,args,rows,ras,ρ,se,rfl,S,A,hB,k⟩:=h
 refine ⟨_,(pss_cons (ps_if (pt_cmpR op_notN (pe_fld (pv 0) rfl) pe_non (nomark _)) (pss_one (ps_ret (pe_lst (pa_cons (pe_ci c_SOMEBODY_IS_ASKED rfl) pa_nil)))) pss_nil) (pss_cons (ps_if (pt_not (pt_chain op_le op_le pe_int (pe_callB call_len_seq rfl b_len PySem.boot_len (pa_cons (pv 2) pa_nil)) (pe_ci c_MOST_EVENTS rfl))) (pss_one (ps_ret (pe_lst (pa_cons (pe_ci c_TOO_MANY_OR_NONE rfl) pa_nil)))) pss_nil) (pss_cons (ps_for PassesOwn.never rfl (pi_list (pv 2)) (pg_name (i:=3) sc_answer_batch.nd rfl (Or.inl rfl)) (pss_one (ps_if (PW.pt (pw_or (pt_not (pt_val (pe_methX (pv 0) q_Table_has_source (hr.mono (by decide)) (pa_cons (pe_ix ix_list (pv 3) pe_int (fun _ _=>rfl)) pa_nil)))) (pw_or1 (pt_not (pt_val (pe_callX k_is_possible_target (hr.mono (by decide)) rfl (pa_cons (pv 0) (pa_cons (pe_ix ix_list (pv 3) pe_int (fun _ _=>rfl)) (pa_cons (pe_ix ix_list (pv 3) pe_int (fun _ _=>rfl)) pa_nil))))))))) (pss_one (ps_ret (pe_lst (pa_cons (pe_ci c_NOT_THERE_OR_UNSUITED rfl) pa_nil)))) pss_nil))) (pss_cons (ps_expr (pe_callX k_begin (hr.mono (by decide)) rfl (pa_cons (pv 0) (pa_cons (pe_lc rfl sc_answer_batch.nd (pi_list (pv 2)) (blkOk_by (own:=[("row",3)]) rfl) (fun _ _ _ _ _=>(pg_name (i:=3) sc_answer_batch.nd rfl (Or.inl rfl))) (fun _ _ _ _ _=>pts_nil) (fun _ _ _ _ _=>(pe_makeX m_Event (hr.mono (by decide)) rfl (pa_cons (pe_ix (ix_listK (K:=K) rfl) (pv 3) pe_int (fun _ _=>rfl)) (pa_cons (pe_ix (ix_listK (K:=K) rfl) (pv 3) pe_int (fun _ _=>rfl)) (pa_cons (pe_ix (ix_listK (K:=K) rfl) (pv 3) pe_int (fun _ _=>rfl)) (pa_cons (pe_ix (ix_listK (K:=K) rfl) (pv 3) pe_int (fun _ _=>rfl)) (pa_cons (pe_ix (ix_listK (K:=K) rfl) (pv 3) pe_int (fun _ _=>rfl)) (pa_cons (pe_lst pa_nil) pa_nil))))))))) pa_nil)))) (pss_one (ps_ret (pe_callX k_how_it_stands (hr.mono (by decide)) rfl (pa_cons (pv 0) pa_nil)))))))),?_⟩
 have hB:(decide (args.length=0) && rows.all evB)=true:=hB
 rw [Bool.and_eq_true,decide_eq_true_iff] at hB
 obtain rfl:args=[]:=List.length_eq_zero_iff.mp hB.1
 rcases evs_cases rows with ⟨_,vs,hvs,hvl,hE⟩ | ⟨q,_⟩
 case inr=>rw [hB.2] at q;cases q
 have eC:Dm.at3 [] rows=.batch vs:=by
  show Vbdcai.orBad ((rows.mapM Vbdcai.eventOf).map .batch)=_
  rw [hvs]
  rfl
 rw [eC,step_batch] at k
 have hrr:=A.hr
 rcases S with ⟨lo,R,hR⟩ | ⟨lo,b,lb,v,r,AS,h1,h2⟩
 ·rw [if_neg (busy_no hR)] at k
  obtain ⟨dx,ht⟩:=R.tbl
  have hrlen:((rfs ras).length:Int)=(vs.length:Int):=by rw [rfs_len,A.len,hvl]
  have few:(vs.length < 1∨4 < vs.length)→AnsK C ρ H t (se,[-3]) Q:=fun h=>by rw [if_pos h] at k;exact k
  walk_at "go2"
  refine ⟨rfl,rd_blV (rd_iteF ?_)⟩
  walk_at "go2"
  rw [hrlen]
  refine rd_ite (fun h0=>?_) fun h0=>?_
  ·walk_at "go2"
   refine rd_iteN (fun h1=>?_) fun h1=>?_
   ·walk_at "go2"
    exact (few (.inr (by omega))).ret (.inl ⟨lo,R,hR⟩) rfl (by show 1≤100;decide)
   rw [if_neg (by omega)] at k
   clear few
   walk_at "go2"
   refine forAt_of (SqL.of hrr) (fun i σ H'=>∃ u,σ=[some (.ref t),some (.ref la),some (.ref lr),u]∧H'=H∧(vs.take i).all (Vbdcai.okEvent se.world)=true) ⟨none,rfl,rfl,rfl⟩ (fun i σ H' _ ⟨_,_,e,_⟩=>by rw [e];exact SqL.of hrr) ?_ ?_
   ·rintro i x σ H1 hx ⟨u,rfl,rfl,hall⟩
    obtain ⟨a,ha,rfl⟩:=rfs_inv hx
    have hi:i < rows.length:=by rw [← A.len];exact (List.getElem?_eq_some_iff.mp ha).1
    have hr:rows[i]?=some rows[i]:=List.getElem?_eq_getElem hi
    have hv:vs[i]?=some (vs[i]'(by omega)):=List.getElem?_eq_getElem (by omega)
    have EV:=hE i _ _ hr hv
    have hrow:=(A.row i a _ ha hr).1
    rw [EV.row] at hrow
    have oke:=okEv_eq (W:=se.world) EV.tgt EV.kind
    generalize (vs[i]'(by omega))=v at *
    have bad:Vbdcai.okEvent se.world v=false→AnsK C ρ H1 t (se,[-4]) Q:=fun h=>by
     rw [if_pos (List.all_eq_false.mpr ⟨v,List.mem_of_getElem? hv,by rw [h];decide⟩)] at k
     exact k
    walk_at "go2"
    refine rd_ix hrow at1 ?_
    walk_at "go2"
    refine ⟨t,_,ρ,lo,_,_,rfl,R,?_⟩
    walk_at "go2"
    refine rd_iteB (fun h4=>?_) fun h4=>?_
    ·rw [notT h4,Bool.false_and] at oke
     walk_at "go2"
     exact (bad oke).ret (.inl ⟨lo,R,hR⟩) rfl (by show 1≤100;decide)
    rw [notF h4,Bool.true_and] at oke
    walk_at "go2"
    refine rd_ix hrow at2 ?_
    walk_at "go2"
    refine rd_ix hrow at0 ?_
    walk_at "go2"
    refine ⟨t,_,_,ρ,lo,_,_,rfl,R,?_⟩
    walk_at "go2"
    refine rd_iteB (fun h5=>?_) fun h5=>?_
    ·rw [notT h5] at oke
     walk_at "go2"
     exact (bad oke).ret (.inl ⟨lo,R,hR⟩) rfl (by show 1≤100;decide)
    rw [notF h5] at oke
    walk_at "go2"
    refine ⟨_,rfl,rfl,?_⟩
    rw [take_one hv,List.all_append,hall]
    simp [oke]
   rintro σ H1 ⟨u,rfl,rfl,hall⟩
   rw [rfs_len,A.len,hvl,List.take_length] at hall
   rw [if_neg (by rw [hall];decide)] at k
   have hok:∀ v∈vs,EvOk se.world v∧v.used=[]:=fun v hv=>by
    obtain ⟨i,hi,e⟩:=List.getElem_of_mem hv
    have hv':vs[i]?=some v:=by rw [List.getElem?_eq_getElem hi,e]
    have hr:rows[i]?=some (rows[i]'(by omega)):=List.getElem?_eq_getElem (by omega)
    have EV:=hE i _ _ hr hv'
    have:=List.all_eq_true.mp hall v hv
    unfold Vbdcai.okEvent at this
    rw [Bool.and_eq_true] at this
    exact ⟨⟨EV.kind,this.1⟩,EV.used⟩
   walk_at "go2"
   refine lcAt_of (SqL.of hrr) fun D hD=>⟨fun i H'=>∃ ρ' as,MadeEv C ρ H1 (vs.take i) D ρ' H' as,⟨ρ,[],⟨.nil,.nil,dom_upd R.dom,R.dom _ hD,upd_same,Kp.same (Same.upd_new hD)⟩⟩,fun i H' _ ⟨ρ',as,J⟩=>SqL.of (J.all _ _ trivial hrr).2,?_,?_⟩
   ·rintro i x H2 hx ⟨ρ2,as,J⟩
    obtain ⟨a,ha,rfl⟩:=rfs_inv hx
    have hi:i < rows.length:=by rw [← A.len];exact (List.getElem?_eq_some_iff.mp ha).1
    have hr:rows[i]?=some rows[i]:=List.getElem?_eq_getElem hi
    have hv:vs[i]?=some (vs[i]'(by omega)):=List.getElem?_eq_getElem (by omega)
    have EV:=hE i _ _ hr hv
    have hrow:=(J.all _ _ trivial (A.row i a _ ha hr).1).2
    rw [EV.row] at hrow
    generalize (vs[i]'(by omega))=v at *
    have hlen:as.length < sizeLine:=by
     rw [ev_len J.ps,List.length_take,sizeLine_eq]
     omega
    refine ⟨wipe1_set _ _ _,?_⟩
    unfold tYes
    dsimp only
    rw [if_pos rfl]
    walk_at "go2"
    refine rd_ix hrow at0 ?_
    walk_at "go2"
    refine rd_ix hrow at1 ?_
    walk_at "go2"
    refine rd_ix hrow at2 ?_
    walk_at "go2"
    refine rd_ix hrow at3 ?_
    walk_at "go2"
    refine rd_ix hrow at4 ?_
    walk_at "go2"
    refine ⟨Nat.zero_le _,fun lu hlu=>?_⟩
    walk_at "go2"
    intro x dy hx hdy ne
    refine ⟨x,dy,lu,v,rfl,upd_same,rfl,?_⟩
    rw [upd_upd]
    have nxl:lu≠x:=ne_of_none upd_same hx
    have ndl:lu≠dy:=ne_of_none upd_same hdy
    have fx:H2 x=none:=by rw [upd_ne (fun q=>nxl q.symm)] at hx;exact hx
    have fdy:H2 dy=none:=by rw [upd_ne (fun q=>ndl q.symm)] at hdy;exact hdy
    refine ⟨rfs as,by rw [upd_ne (ne_of_none J.hD fx),upd_ne (ne_of_none J.hD fdy),upd_ne (ne_of_none J.hD hlu)];exact J.hD,by rw [rfs_len];exact hlen,upR (upR ρ2 lu (51,0)) x (50,0),as++[x],?_⟩
    rw [take_one hv]
    exact J.next hD hlu hx hdy ne EV.used
   rintro H2 ⟨ρ2,as,J⟩
   rw [rfs_len,A.len,hvl,List.take_length] at J
   have aD:All ρ H1 (upR ρ2 D (7,0)) H2:=allRole J.all hD
   have dD:Dom (upR ρ2 D (7,0)) H2:=dom_role J.dom J.hD
   have kE:Kp (fun n=>50≤n∧n≤51) ρ2 H2 (upR ρ2 D (7,0)) H2:=Kp.role (by rw [J.rD];decide)
   obtain ⟨w1,b1,m1⟩:=begin_ok hR (by omega) hok
   have hY:=run_ends Vbdcai.ENOUGH w1 b1 m1
   have pt:=told_parts vs se.world
   have hL:Like se.world { toldW se.world vs with todo:=vs }:=⟨pt.2.2.2.2.2.2,pt.1,pt.2.2.1⟩
   walk_at "go2"
   refine ⟨t,D,upR ρ2 D (7,0),lo,_,vs,as,rfl,aD.rep dD R,hR,upR_same,J.hD,pMap (fun _ _ q=>q.keep kE) J.ps,J.nd,by omega,hok,fun b=>ended_of (hY.imp id fun z=>⟨z.1,hL.trans z.2.2⟩) hR fun ρ' H' S' o'=>?_⟩
   walk_at "go2"
   exact ⟨t,ρ',_,rfl,S',(k.from (Kp.trans (allOut aD) o')).row S'⟩
  walk_at "go2"
  exact (few (.inl (by omega))).ret (.inl ⟨lo,R,hR⟩) rfl (by show 1≤100;decide)
 rw [if_pos (busy_yes AS.todo)] at k
 obtain ⟨dx,ht⟩:=AS.sb.rep.tbl
 walk_at "go2"
 refine ⟨rfl,rd_blV (rd_iteT ?_)⟩
 walk_at "go2"
 exact k.ret (.inr ⟨lo,b,lb,v,r,AS,h1,h2⟩) rfl (by show 1≤100;decide))) only [↓zh1]
theorem ret_cat {ρ:Rho} {H:Hp} {t:Addr} {r:Se × List Int} {Q:VK} (k:AnsK C ρ H t r Q) (S:St C ρ H t r.1) {a b:Addr} {x y:List Int} (h1:H a=some (.lst (ivs x))) (h2:H b=some (.lst (ivs y))) (hz:x.length + y.length≤100000) (e:r.2=x++y):rCat (.ref a) (.ref b) H Q :=
 rd_cat h1 h2 (by rw [ivs_len,ivs_len,sizeLine_eq];omega) fun l hl=>by
  rw [ivs_app,← e]
  exact (k.row S).one hl
theorem St.on {ρ:Rho} {H H':Hp} {t:Addr} {s:Se} (S:St C ρ H t s) (h:Same H H'):St C ρ H' t s:=S.same h
def sp_answer_side (K:PySem.W.Frag) (C:Cl):Sp:=sp_ans C (formB 9) Dm.at9
theorem ok_answer_side (T:Tx K C) (F:Fun K "answer_side" "answer_side" s_answer_side f fd) (k_is_side:Kn P w K mg base "is_side" 1 (sp_is_side K C)) (c_NOT_THERE_OR_UNSUITED:CI mg "NOT_THERE_OR_UNSUITED" (-4)) (q_Side_as_row:KnM P w K mg base C.side "as_row" 1 (sp_Side_as_row K C)) :FnOk P w K mg base CX0 2 f fd ["table","arguments","rows"] (sp_answer_side K C):=by
 refine zh0 ?_;simp (disch:=k_dflt (
 refine F.ok sc_answer_side (by walk_at "ln") (fun cdv A outer s H vs Q E hr h=>?_)
 obtain ⟨t,la,lr,args,rows,ras,ρ,se,rfl,S,A,hB,k⟩:=h
 refine ⟨_,(pss_cons (ps_if (pt_not (pt_val (pe_callX k_is_side (hr.mono (by decide)) rfl (pa_cons (pe_ix ix_list (pv 1) pe_int (fun _ _=>rfl)) pa_nil)))) (pss_one (ps_ret (pe_lst (pa_cons (pe_ci c_NOT_THERE_OR_UNSUITED rfl) pa_nil)))) pss_nil) (pss_one (ps_ret (pe_op op_cat (pe_lst (pa_cons pe_int pa_nil)) (pe_methX0 (pe_ix ix_list (pe_fld (pv 0) rfl) (pe_ix ix_list (pv 1) pe_int (fun _ _=>rfl)) (fun _ _=>rfl)) q_Side_as_row (hr.mono (by decide))))))),?_⟩
 obtain ⟨⟨p,rfl⟩,rfl⟩:=no1 hB
 have es:Vbdcai.step se (Dm.at9 [p] [])=if p=0 then (se,0 :: sdRow se.world.sides.1) else if p=1 then (se,0 :: sdRow se.world.sides.2) else (se,[-4]):=rfl
 rw [es] at k
 obtain ⟨lo,bV,R⟩:=S.rep
 obtain ⟨dx,ht⟩:=R.tbl
 obtain ⟨⟨_,hsl⟩,⟨_,d0,hs0⟩,⟨_,d1,hs1⟩⟩:=R.sd
 have ha:=A.ha
 walk_at "go2"
 refine rd_ix ha at0 ?_
 walk_at "go2"
 refine ⟨p,rfl,?_⟩
 walk_at "go2"
 refine rd_iteB (fun h0=>?_) fun h0=>?_
 ·have h0:=notT h0
  unfold isSideB at h0
  rw [Bool.or_eq_false_iff,decide_eq_false_iff_not,decide_eq_false_iff_not] at h0
  rw [if_neg h0.1,if_neg h0.2] at k
  walk_at "go2"
  exact k.ret S rfl (by show 1≤100;decide)
 have h0:=notF h0
 unfold isSideB at h0
 rw [Bool.or_eq_true,decide_eq_true_iff,decide_eq_true_iff] at h0
 walk_at "go2"
 refine ⟨by show 1≤sizeLine;decide,fun l1 hl1=>?_⟩
 have s1:Same H (upd H l1 (.lst [iv 0])):=Same.upd_new hl1
 have e1:upd H l1 (.lst [iv 0]) l1=some (.lst (ivs [0])):=upd_same
 change tMeth _ _ _ _ _ _ _ _ (upd H l1 (.lst [iv 0])) _
 have S1:=S.same s1
 have k:=k.on s1
 have ha1:=s1 _ _ ha
 have ht1:=s1 _ _ ht
 have hsl1:=s1 _ _ hsl
 have hs01:=s1 _ _ hs0
 have hs11:=s1 _ _ hs1
 generalize upd H l1 (.lst [iv 0])=H1 at *
 clear ha ht hsl hs0 hs1
 walk_at "go2"
 refine rd_ix ha1 at0 ?_
 rcases h0 with rfl | rfl
 ·rw [if_pos rfl] at k
  refine rd_ix hsl1 at0 ?_
  walk_at "go2"
  refine ⟨_,d0,_,rfl,hs01,fun H2 l2 s2 hl2 e2=>?_⟩
  exact ret_cat (k.on s2) (S1.same s2) (s2 _ _ e1) e2 (by show 1 + 3≤_;decide) rfl
 rw [if_neg (by decide),if_pos rfl] at k
 refine rd_ix hsl1 at1 ?_
 walk_at "go2"
 refine ⟨_,d1,_,rfl,hs11,fun H2 l2 s2 hl2 e2=>?_⟩
 exact ret_cat (k.on s2) (S1.same s2) (s2 _ _ e1) e2 (by show 1 + 3≤_;decide) rfl)) only [↓zh1]
def sp_answer_look (K:PySem.W.Frag) (C:Cl):Sp:=sp_ans C (formB 10) Dm.at10
theorem ok_answer_look (T:Tx K C) (F:Fun K "answer_look" "answer_look" s_answer_look f fd) (q_Table_has_thing:KnM P w K mg base C.table "has_thing" 1 (sp_Table_has_thing K C)) (c_NOT_THERE_OR_UNSUITED:CI mg "NOT_THERE_OR_UNSUITED" (-4)) (q_Thing_as_row:KnM P w K mg base C.thing "as_row" 1 (sp_Thing_as_row K C)) (q_Table_thing_numbered:KnM P w K mg base C.table "thing_numbered" 1 (sp_Table_thing_numbered K C)) :FnOk P w K mg base CX0 2 f fd ["table","arguments","rows"] (sp_answer_look K C):=by
 refine zh0 ?_;simp (disch:=k_dflt (
 refine F.ok sc_answer_look (by walk_at "ln") (fun cdv A outer s H vs Q E hr h=>?_)
 obtain ⟨t,la,lr,args,rows,ras,ρ,se,rfl,S,A,hB,k⟩:=h
 refine ⟨_,(pss_cons (ps_if (pt_not (pt_val (pe_methX (pv 0) q_Table_has_thing (hr.mono (by decide)) (pa_cons (pe_ix ix_list (pv 1) pe_int (fun _ _=>rfl)) pa_nil)))) (pss_one (ps_ret (pe_lst (pa_cons (pe_ci c_NOT_THERE_OR_UNSUITED rfl) pa_nil)))) pss_nil) (pss_one (ps_ret (pe_op op_cat (pe_lst (pa_cons pe_int pa_nil)) (pe_methX0 (pe_methX (pv 0) q_Table_thing_numbered (hr.mono (by decide)) (pa_cons (pe_ix ix_list (pv 1) pe_int (fun _ _=>rfl)) pa_nil)) q_Thing_as_row (hr.mono (by decide))))))),?_⟩
 obtain ⟨⟨n,rfl⟩,rfl⟩:=no1 hB
 have es:Vbdcai.step se (Dm.at10 [n] [])=if n < 1 then (se,[-4]) else match se.world.things[n.toNat - 1]? with
  | none=>(se,[-4])
  | some x=>(se,0 :: thRow x):=rfl
 rw [es] at k
 obtain ⟨lo,bV,R⟩:=S.rep
 obtain ⟨dx,ht⟩:=R.tbl
 have ha:=A.ha
 walk_at "go2"
 refine rd_ix ha at0 ?_
 walk_at "go2"
 refine ⟨t,n,ρ,lo,bV,_,rfl,R,?_⟩
 walk_at "go2"
 refine rd_iteB (fun h0=>?_) fun h0=>?_
 ·have h0:=notT h0
  unfold hasB withinB at h0
  have k:AnsK C ρ H t (se,[-4]) Q:=by
   by_cases h1:n < 1
   ·rw [if_pos h1] at k;exact k
   rw [if_neg h1] at k
   rw [decide_eq_true (by omega),Bool.true_and,decide_eq_false_iff_not] at h0
   rw [List.getElem?_eq_none (by omega)] at k
   exact k
  walk_at "go2"
  exact k.ret S rfl (by show 1≤100;decide)
 have h0:=notF h0
 unfold hasB at h0
 have h0:=withinB_iff.mp h0
 obtain ⟨a,x,dy,h1,h2,h3,_⟩:=thing_at R (n:=n.toNat - 1) (by omega)
 rw [if_neg (by omega),h2] at k
 have k:AnsK C ρ H t (se,0 :: thRow x) Q:=k
 walk_at "go2"
 refine ⟨by show 1≤sizeLine;decide,fun l1 hl1=>?_⟩
 have s1:Same H (upd H l1 (.lst [iv 0])):=Same.upd_new hl1
 have e1:upd H l1 (.lst [iv 0]) l1=some (.lst (ivs [0])):=upd_same
 change tMeth _ _ _ _ _ _ _ _ (upd H l1 (.lst [iv 0])) _
 have S1:=S.same s1
 have k:=k.on s1
 have ha1:=s1 _ _ ha
 have ht1:=s1 _ _ ht
 have h31:=s1 _ _ h3
 have R1:=R.same s1
 generalize upd H l1 (.lst [iv 0])=H1 at *
 clear ha ht h3
 walk_at "go2"
 refine rd_ix ha1 at0 ?_
 walk_at "go2"
 refine ⟨t,_,_,ρ,lo,_,_,a,rfl,R1,h1,by omega,?_⟩
 walk_at "go2"
 refine ⟨a,dy,x,rfl,h31,fun H2 l2 s2 hl2 e2=>?_⟩
 exact ret_cat (k.on s2) (S1.same s2) (s2 _ _ e1) e2 (by show 1 + 4≤_;decide) rfl)) only [↓zh1]
def sp_answer_book (K:PySem.W.Frag) (C:Cl):Sp:=sp_ans C (formB 12) Dm.at12
theorem ok_answer_book (T:Tx K C) (F:Fun K "answer_book" "answer_book" s_answer_book f fd) (c_LAST_KIND:CI mg "LAST_KIND" (5)) (c_NOT_THERE_OR_UNSUITED:CI mg "NOT_THERE_OR_UNSUITED" (-4)) (q_Book_as_row:KnM P w K mg base C.book "as_row" 1 (sp_Book_as_row K C)) :FnOk P w K mg base CX0 2 f fd ["table","arguments","rows"] (sp_answer_book K C):=by
 refine zh0 ?_;simp (disch:=k_dflt (
 refine F.ok sc_answer_book (by walk_at "ln") (fun cdv A outer s H vs Q E hr h=>?_)
 obtain ⟨t,la,lr,args,rows,ras,ρ,se,rfl,S,A,hB,k⟩:=h
 refine ⟨_,(pss_cons (ps_if (pt_not (pt_chain op_le op_le pe_int (pe_ix ix_list (pv 1) pe_int (fun _ _=>rfl)) (pe_ci c_LAST_KIND rfl))) (pss_one (ps_ret (pe_lst (pa_cons (pe_ci c_NOT_THERE_OR_UNSUITED rfl) pa_nil)))) pss_nil) (pss_one (ps_ret (pe_op op_cat (pe_lst (pa_cons pe_int pa_nil)) (pe_methX0 (pe_ix ix_list (pe_fld (pv 0) rfl) (pe_ix ix_list (pv 1) pe_int (fun _ _=>rfl)) (fun _ _=>rfl)) q_Book_as_row (hr.mono (by decide))))))),?_⟩
 obtain ⟨⟨n,rfl⟩,rfl⟩:=no1 hB
 have es:Vbdcai.step se (Dm.at12 [n] [])=if n < 0∨5 < n then (se,[-4]) else (se,0 :: bkRow (se.world.books.getD n.toNat {})):=rfl
 rw [es] at k
 obtain ⟨lo,bV,R⟩:=S.rep
 obtain ⟨dx,ht⟩:=R.tbl
 have ha:=A.ha
 have bad:(n < 0∨5 < n)→AnsK C ρ H t (se,[-4]) Q:=fun h=>by rw [if_pos h] at k;exact k
 walk_at "go2"
 refine rd_ix ha at0 ?_
 walk_at "go2"
 refine rd_ite (fun h0=>?_) fun h0=>?_
 ·walk_at "go2"
  refine rd_iteN (fun h1=>?_) fun h1=>?_
  ·walk_at "go2"
   exact (bad (.inr (by omega))).ret S rfl (by show 1≤100;decide)
  rw [if_neg (by omega)] at k
  have hbk:=S.ok.bks
  obtain ⟨a,x,dy,h2,h3,h4,_⟩:=book_at R (n:=n.toNat) (by omega)
  rw [getD_at h3] at k
  have hbl:=R.bk.1.2
  clear bad
  walk_at "go2"
  refine ⟨by show 1≤sizeLine;decide,fun l1 hl1=>?_⟩
  have s1:Same H (upd H l1 (.lst [iv 0])):=Same.upd_new hl1
  have e1:upd H l1 (.lst [iv 0]) l1=some (.lst (ivs [0])):=upd_same
  change tMeth _ _ _ _ _ _ _ _ (upd H l1 (.lst [iv 0])) _
  have S1:=S.same s1
  have k:=k.on s1
  have ha1:=s1 _ _ ha
  have ht1:=s1 _ _ ht
  have h41:=s1 _ _ h4
  have hbl1:=s1 _ _ hbl
  generalize upd H l1 (.lst [iv 0])=H1 at *
  clear ha ht h4 hbl
  walk_at "go2"
  refine rd_ix ha1 at0 ?_
  refine rd_ix hbl1 (rfs_at h2 (by omega)) ?_
  walk_at "go2"
  refine ⟨a,dy,x,rfl,h41,fun H2 l2 s2 hl2 e2=>?_⟩
  exact ret_cat (k.on s2) (S1.same s2) (s2 _ _ e1) e2 (by show 1 + 6≤_;decide) rfl
 walk_at "go2"
 exact (bad (.inl (by omega))).ret S rfl (by show 1≤100;decide))) only [↓zh1]
def sp_answer_effects (K:PySem.W.Frag) (C:Cl):Sp:=sp_ans C (formB 11) Dm.at11
theorem ok_answer_effects (T:Tx K C) (F:Fun K "answer_effects" "answer_effects" s_answer_effects f fd) (k_one_behind_another:Kn P w K mg base "one_behind_another" 2 (sp_one_behind_another K C)) :FnOk P w K mg base CX0 3 f fd ["table","arguments","rows"] (sp_answer_effects K C):=by
 refine zh0 ?_;simp (disch:=k_dflt (
 refine F.ok sc_answer_effects (by walk_at "ln") (fun cdv A outer s H vs Q E hr h=>?_)
 obtain ⟨t,la,lr,args,rows,ras,ρ,se,rfl,S,A,hB,k⟩:=h
 refine ⟨_,(pss_one (ps_ret (pe_callX k_one_behind_another (hr.mono (by decide)) rfl (pa_cons (pe_fld (pv 0) rfl) pa_nil)))),?_⟩
 obtain ⟨rfl,rfl⟩:=no0 hB
 have es:Vbdcai.step se (Dm.at11 [] [])=(se,0 :: (se.world.effects.map efRow).flatten):=rfl
 rw [es] at k
 obtain ⟨lo,bV,R⟩:=S.rep
 obtain ⟨dx,ht⟩:=R.tbl
 have hl:=R.ef.1.2
 have hlen:=Paired.length R.ef.2
 walk_at "go2"
 refine ⟨_,lo.ea,se.world.effects.map efRow,rfl,hl,by rw [List.length_map];exact hlen,by rw [hlen];have:=S.ok.len;omega,fun i a r h1 h2=>?_,k.row S⟩
 obtain ⟨e,he,_,dy,lt,ls,ld,hef,_,_,hd⟩:=paired_some R.ef.2 h1
 rw [List.getElem?_map,he] at h2
 exact .inl ⟨dy,lt,ls,ld,e,hef,hd.2,(Option.some.inj h2).symm⟩)) only [↓zh1]
def sp_answer_left (K:PySem.W.Frag) (C:Cl):Sp:=sp_ans C (formB 13) Dm.at13
theorem ok_answer_left (T:Tx K C) (F:Fun K "answer_left" "answer_left" s_answer_left f fd) (k_one_behind_another:Kn P w K mg base "one_behind_another" 2 (sp_one_behind_another K C)) (k_events_left:Kn P w K mg base "events_left" 1 (sp_events_left K C)) :FnOk P w K mg base CX0 3 f fd ["table","arguments","rows"] (sp_answer_left K C):=by
 refine zh0 ?_;simp (disch:=k_dflt (
 refine F.ok sc_answer_left (by walk_at "ln") (fun cdv A outer s H vs Q E hr h=>?_)
 obtain ⟨t,la,lr,args,rows,ras,ρ,se,rfl,S,A,hB,k⟩:=h
 refine ⟨_,(pss_one (ps_ret (pe_callX k_one_behind_another (hr.mono (by decide)) rfl (pa_cons (pe_callX k_events_left (hr.mono (by decide)) rfl (pa_cons (pv 0) pa_nil)) pa_nil)))),?_⟩
 obtain ⟨rfl,rfl⟩:=no0 hB
 have es:Vbdcai.step se (Dm.at13 [] [])=(se,0 :: ((se.world.todo++se.world.settled).map evRow).flatten):=rfl
 rw [es] at k
 have S0:=S
 rcases S with ⟨lo,R,hR⟩ | ⟨lo,b,lb,v,r,AS,h1,h2⟩
 ·rw [hR.todo,hR.settled] at k
  obtain ⟨dx,ht⟩:=R.tbl
  walk_at "go2"
  refine ⟨t,ρ,lo,_,rfl,.inl ⟨R,fun l hl=>?_⟩⟩
  have s1:Same H (upd H l (.lst [])):=Same.upd_new hl
  walk_at "go2"
  exact ⟨l,[],[],rfl,upd_same,rfl,by decide,fun i a r h=>by simp at h,(k.on s1).row (S0.same s1)⟩
 obtain ⟨dx,ht⟩:=AS.sb.rep.tbl
 have hroom:=AS.asks.bok.room
 have hml:=mus_len se.world.effects se.world.todo
 have hle:se.world.todo.length + se.world.settled.length≤5000:=by
  unfold mu at hroom
  omega
 have l1:=ev_len AS.sb.bat.row.2
 have l2:=ev_len AS.sb.bat.set.2
 walk_at "go2"
 refine ⟨t,ρ,lo,_,rfl,.inr ⟨b,lb,_,AS.sb,hle,fun l hl=>?_⟩⟩
 have s1:Same H (upd H l (.lst (rfs (lb.ra++lb.sa)))):=Same.upd_new hl
 walk_at "go2"
 refine ⟨l,lb.ra++lb.sa,(se.world.todo++se.world.settled).map evRow,rfl,upd_same,by rw [List.length_map,List.length_append,List.length_append,l1,l2],by rw [List.length_append,l1,l2];omega,fun i a r ha hr=>?_,(k.on s1).row (S0.same s1)⟩
 have key:∃ v,(se.world.todo++se.world.settled)[i]?=some v∧EvAt C ρ H a v:=by
  by_cases q:i < lb.ra.length
  ·rw [List.getElem?_append_left q] at ha
   obtain ⟨v,hv,hat⟩:=ev_at AS.sb.bat.row.2 ha
   exact ⟨v,by rw [List.getElem?_append_left (by omega)];exact hv,hat⟩
  rw [List.getElem?_append_right (by omega)] at ha
  obtain ⟨v,hv,hat⟩:=ev_at AS.sb.bat.set.2 ha
  exact ⟨v,by rw [List.getElem?_append_right (by omega),← l1];exact hv,hat⟩
 obtain ⟨v,hv,_,dv,lu,hev,_⟩:=key
 rw [List.getElem?_map,hv] at hr
 exact .inr ⟨dv,lu,v,s1 _ _ hev,(Option.some.inj hr).symm⟩)) only [↓zh1]
theorem step_own (s:Se) (n p:Int):Vbdcai.step s (.own n p)=if (!s.world.todo.isEmpty)=true then (s,[-2]) else if n < 1∨(s.world.things.length:Int) < n∨p < 0∨1 < p then (s,[-4]) else (Vbdcai.set s (Vbdcai.thing s.world n.toNat fun x=>{ x with ctrl:=p.toNat }),[0]):=rfl
def sp_answer_own (K:PySem.W.Frag) (C:Cl):Sp:=sp_ans C (formB 14) Dm.at14
theorem ok_answer_own (T:Tx K C) (F:Fun K "answer_own" "answer_own" s_answer_own f fd) (c_SOMEBODY_IS_ASKED:CI mg "SOMEBODY_IS_ASKED" (-2)) (k_is_side:Kn P w K mg base "is_side" 1 (sp_is_side K C)) (q_Table_has_thing:KnM P w K mg base C.table "has_thing" 1 (sp_Table_has_thing K C)) (c_NOT_THERE_OR_UNSUITED:CI mg "NOT_THERE_OR_UNSUITED" (-4)) (q_Table_thing_numbered:KnM P w K mg base C.table "thing_numbered" 1 (sp_Table_thing_numbered K C)) :FnOk P w K mg base CX0 2 f fd ["table","arguments","rows"] (sp_answer_own K C):=by
 refine zh0 ?_;simp (disch:=k_dflt (
 refine F.ok sc_answer_own (by walk_at "ln") (fun cdv A outer s H vs Q E hr h=>?_)
 obtain ⟨t,la,lr,args,rows,ras,ρ,se,rfl,S,A,hB,k⟩:=h
 refine ⟨_,(pss_cons (ps_if (pt_cmpR op_notN (pe_fld (pv 0) rfl) pe_non (nomark _)) (pss_one (ps_ret (pe_lst (pa_cons (pe_ci c_SOMEBODY_IS_ASKED rfl) pa_nil)))) pss_nil) (pss_cons (ps_if (PW.pt (pw_or (pt_not (pt_val (pe_methX (pv 0) q_Table_has_thing (hr.mono (by decide)) (pa_cons (pe_ix ix_list (pv 1) pe_int (fun _ _=>rfl)) pa_nil)))) (pw_or1 (pt_not (pt_val (pe_callX k_is_side (hr.mono (by decide)) rfl (pa_cons (pe_ix ix_list (pv 1) pe_int (fun _ _=>rfl)) pa_nil))))))) (pss_one (ps_ret (pe_lst (pa_cons (pe_ci c_NOT_THERE_OR_UNSUITED rfl) pa_nil)))) pss_nil) (pss_cons (ps_set (i:=3) sc_answer_own.nd rfl (Or.inl rfl) (pe_methX (pv 0) q_Table_thing_numbered (hr.mono (by decide)) (pa_cons (pe_ix ix_list (pv 1) pe_int (fun _ _=>rfl)) pa_nil))) (pss_cons (ps_fld (pv 3) (pe_ix ix_list (pv 1) pe_int (fun _ _=>rfl)) rfl) (pss_one (ps_ret (pe_lst (pa_cons pe_int pa_nil)))))))),?_⟩
 obtain ⟨⟨n,p,rfl⟩,rfl⟩:=no2 hB
 have k:AnsK C ρ H t (Vbdcai.step se (.own n p)) Q:=k
 rw [step_own] at k
 have ha:=A.ha
 rcases S with ⟨lo,R,hR⟩ | ⟨lo,b,lb,v,r,AS,h1,h2⟩
 ·rw [if_neg (busy_no hR)] at k
  obtain ⟨dx,ht⟩:=R.tbl
  have bad:(n < 1∨(se.world.things.length:Int) < n∨p < 0∨1 < p)→AnsK C ρ H t (se,[-4]) Q:=fun h=>by rw [if_pos h] at k;exact k
  walk_at "go2"
  refine ⟨rfl,rd_blV (rd_iteF ?_)⟩
  walk_at "go2"
  refine rd_ix ha at0 ?_
  walk_at "go2"
  refine ⟨t,n,ρ,lo,_,_,rfl,R,?_⟩
  walk_at "go2"
  refine rd_iteB (fun h0=>?_) fun h0=>?_
  ·have h0:=notT h0
   have h3:n < 1∨(se.world.things.length:Int) < n∨p < 0∨1 < p:=by
    by_cases q:1≤n∧n≤(se.world.things.length:Int)
    ·unfold hasB at h0
     rw [withinB_iff.mpr q] at h0
     cases h0
    omega
   walk_at "go2"
   exact (bad h3).ret (.inl ⟨lo,R,hR⟩) rfl (by show 1≤100;decide)
  have h0:=notF h0
  unfold hasB at h0
  have h0:=withinB_iff.mp h0
  walk_at "go2"
  refine rd_ix ha at1 ?_
  walk_at "go2"
  refine ⟨p,rfl,?_⟩
  walk_at "go2"
  refine rd_iteB (fun h4=>?_) fun h4=>?_
  ·have h4:=notT h4
   unfold isSideB at h4
   rw [Bool.or_eq_false_iff,decide_eq_false_iff_not,decide_eq_false_iff_not] at h4
   walk_at "go2"
   exact (bad (by omega)).ret (.inl ⟨lo,R,hR⟩) rfl (by show 1≤100;decide)
  have h4:=notF h4
  unfold isSideB at h4
  rw [Bool.or_eq_true,decide_eq_true_iff,decide_eq_true_iff] at h4
  rw [if_neg (by omega)] at k
  obtain ⟨a,x,dy,h5,h6,h7,h8⟩:=thing_at R (n:=n.toNat - 1) (by omega)
  have eT:Vbdcai.thing se.world n.toNat (fun x=>{ x with ctrl:=p.toNat })={ se.world with things:=se.world.things.set (n.toNat - 1) { x with ctrl:=p.toNat } }:=by
   unfold Vbdcai.thing
   rw [h6]
  rw [eT] at k
  clear bad
  walk_at "go2"
  refine rd_ix ha at0 ?_
  walk_at "go2"
  refine ⟨t,_,_,ρ,lo,_,_,a,rfl,R,h5,by omega,?_⟩
  walk_at "go2"
  refine rd_ix ha at1 ?_
  walk_at "go2"
  have eP:putF "side" (V.int p) (thFs x)=thFs { x with ctrl:=p.toNat }:=by
   rw [← cast_toNat (n:=p) (by omega)]
   rfl
  rw [eP]
  have R2:=R.thing (y:={ x with ctrl:=p.toNat }) (dx:=dy) h5 h6
  have o2:Out ρ H ρ (upd H a (.ins C.thing dy (thFs { x with ctrl:=p.toNat }))):=Kp.upd (by rw [h8];simp)
  walk_at "go2"
  refine (k.from o2).ret (.inl ⟨lo,R2,?_,hR.todo,hR.settled⟩) rfl (by show 1≤100;decide)
  exact hR.ok.of rfl (by show (se.world.things.set _ _).length=_;rw [List.length_set]) (List.Sublist.refl _) rfl
 rw [if_pos (busy_yes AS.todo)] at k
 obtain ⟨dx,ht⟩:=AS.sb.rep.tbl
 walk_at "go2"
 refine ⟨rfl,rd_blV (rd_iteT ?_)⟩
 walk_at "go2"
 exact k.ret (.inr ⟨lo,b,lb,v,r,AS,h1,h2⟩) rfl (by show 1≤100;decide))) only [↓zh1]
theorem step_ask {s:Se} {v:Ev} {r:List Ev} (h:s.world.todo=v :: r):Vbdcai.step s .ask=(s,[0,1,(Vbdcai.sideOf (Vbdcai.ctrl s.world) v.target:Int),((Vbdcai.offered (Vbdcai.ctrl s.world) s.world.effects v).length:Int)]++castL (offIds s.world v)++evRow v++castL v.used):=by
 refine zh0 ?_;simp (disch:=k_dflt (
 refine zh2 ?_
 have e:Vbdcai.asked s.world=some (Vbdcai.sideOf (Vbdcai.ctrl s.world) v.target,Vbdcai.offered (Vbdcai.ctrl s.world) s.world.effects v):=by
  unfold Vbdcai.asked
  rw [h]
 show (s,match s.world.todo,Vbdcai.asked s.world with
  | v :: _,some (p,l)=>[0,1,(p:Int),(l.length:Int)]++Vbdcai.ints (l.map (fun (e:Vbdcai.Effect)=>e.id)++[v.kind,v.source,v.target,v.amount,v.place]++v.used)
  | _,_=>[0,0])=_
 rw [h,e]
 show (s,[0,1,_,_]++Vbdcai.ints (offIds s.world v++[v.kind,v.source,v.target,v.amount,v.place]++v.used))=_
 have e2:Vbdcai.ints (offIds s.world v++[v.kind,v.source,v.target,v.amount,v.place]++v.used)=castL (offIds s.world v)++(evRow v++castL v.used):=by
  unfold Vbdcai.ints evRow castL
  rw [List.map_append,List.map_append,List.append_assoc]
 rw [e2,List.append_assoc,List.append_assoc])) only [↓zh1]
theorem step_ask0 {s:Se} (h:s.world.todo=[]):Vbdcai.step s .ask=(s,[0,0]):=by
 refine zh0 ?_;simp (disch:=k_dflt (
 refine zh2 ?_
 show (s,match s.world.todo,Vbdcai.asked s.world with
  | v :: _,some (p,l)=>[0,1,(p:Int),(l.length:Int)]++Vbdcai.ints (l.map (fun (e:Vbdcai.Effect)=>e.id)++[v.kind,v.source,v.target,v.amount,v.place]++v.used)
  | _,_=>[0,0])=_
 rw [h])) only [↓zh1]
def sp_answer_ask (K:PySem.W.Frag) (C:Cl):Sp:=sp_ans C (formB 8) Dm.at8
theorem ok_answer_ask (T:Tx K C) (F:Fun K "answer_ask" "answer_ask" s_answer_ask f fd) (k_offered_numbers:Kn P w K mg base "offered_numbers" 1 (sp_offered_numbers K C)) (b_len:mg "len"=none) (k_asked_side:Kn P w K mg base "asked_side" 3 (sp_asked_side K C)) (q_Event_as_row:KnM P w K mg base C.event "as_row" 1 (sp_Event_as_row K C)) :FnOk P w K mg base CX0 4 f fd ["table","arguments","rows"] (sp_answer_ask K C):=by
 refine zh0 ?_;simp (disch:=k_dflt (
 refine F.ok sc_answer_ask (by walk_at "ln") (fun cdv A outer s H vs Q E hr h=>?_)
 obtain ⟨t,la,lr,args,rows,ras,ρ,se,rfl,S,A,hB,k⟩:=h
 refine ⟨_,(pss_cons (ps_if (pt_cmpR op_isN (pe_fld (pv 0) rfl) pe_non (nomark _)) (pss_one (ps_ret (pe_lst (pa_cons pe_int (pa_cons pe_int pa_nil))))) pss_nil) (pss_cons (ps_set (i:=3) sc_answer_ask.nd rfl (Or.inl rfl) (pe_callX k_offered_numbers (hr.mono (by decide)) rfl (pa_cons (pv 0) pa_nil))) (pss_cons (ps_set (i:=4) sc_answer_ask.nd rfl (Or.inl rfl) (pe_ix ix_list (pe_fld (pe_fld (pv 0) rfl) rfl) pe_int (fun _ _=>rfl))) (pss_one (ps_ret (pe_op op_cat (pe_op op_cat (pe_op op_cat (pe_lst (pa_cons pe_int (pa_cons pe_int (pa_cons (pe_callX k_asked_side (hr.mono (by decide)) rfl (pa_cons (pv 0) pa_nil)) (pa_cons (pe_callB call_len_seq rfl b_len PySem.boot_len (pa_cons (pv 3) pa_nil)) pa_nil))))) (pv 3)) (pe_methX0 (pv 4) q_Event_as_row (hr.mono (by decide)))) (pe_fld (pv 4) rfl))))))),?_⟩
 obtain ⟨rfl,rfl⟩:=no0 hB
 have k:AnsK C ρ H t (Vbdcai.step se .ask) Q:=k
 have S0:=S
 rcases S with ⟨lo,R,hR⟩ | ⟨lo,b,lb,v,r,AS,h1,h2⟩
 ·rw [step_ask0 hR.todo] at k
  obtain ⟨dx,ht⟩:=R.tbl
  walk_at "go2"
  refine ⟨rfl,rd_blV (rd_iteT ?_)⟩
  walk_at "go2"
  exact k.ret S0 rfl (by show 2≤100;decide)
 rw [step_ask AS.todo] at k
 obtain ⟨dx,ht⟩:=AS.sb.rep.tbl
 obtain ⟨evk,uv⟩:=AS.asks.bok.todo v (by rw [AS.todo];exact List.mem_cons_self)
 have hul:v.used.length≤12:=by unfold UOk at uv;omega
 have hoff:=off_len AS.asks.ok v
 have hidl:(castL (offIds se.world v)).length=(Vbdcai.offered (Vbdcai.ctrl se.world) se.world.effects v).length:=by rw [castL_len];unfold offIds;rw [List.length_map]
 walk_at "go2"
 refine ⟨rfl,rd_blV (rd_iteF ?_)⟩
 walk_at "go2"
 refine ⟨t,b,ρ,lo,lb,_,_,v,r,rfl,AS,fun H1 l1 s1 hl1 e1=>?_⟩
 have AS1:=AS.same s1
 obtain ⟨hrb,db,hbt1⟩:=AS1.sb.bat.bt
 obtain ⟨av,ra,hra,hrv,dv,lu,hev1,hru,hus1⟩:=AS1.sb.bat.first AS.todo
 have hrow1:=AS1.sb.bat.row.1.2
 rw [hra] at hrow1
 obtain ⟨dx1,ht1⟩:=AS1.sb.rep.tbl
 walk_at "go2"
 refine rd_ix hrow1 at0 ?_
 walk_at "go2"
 refine ⟨t,b,ρ,lo,lb,_,_,v,r,rfl,AS1.sb,AS.todo,evk,?_⟩
 walk_at "go2"
 rw [ivs_len,hidl]
 refine ⟨by show 4≤sizeLine;decide,fun l2 hl2=>?_⟩
 have s2:Same H1 (upd H1 l2 (.lst (ivs [0,1,(Vbdcai.sideOf (Vbdcai.ctrl se.world) v.target:Int),((Vbdcai.offered (Vbdcai.ctrl se.world) se.world.effects v).length:Int)]))):=Same.upd_new hl2
 have e2:upd H1 l2 (.lst (ivs [0,1,(Vbdcai.sideOf (Vbdcai.ctrl se.world) v.target:Int),((Vbdcai.offered (Vbdcai.ctrl se.world) se.world.effects v).length:Int)])) l2=some (.lst (ivs [0,1,(Vbdcai.sideOf (Vbdcai.ctrl se.world) v.target:Int),((Vbdcai.offered (Vbdcai.ctrl se.world) se.world.effects v).length:Int)])):=upd_same
 change tVar _ _ (upd H1 l2 (.lst (ivs [0,1,(Vbdcai.sideOf (Vbdcai.ctrl se.world) v.target:Int),((Vbdcai.offered (Vbdcai.ctrl se.world) se.world.effects v).length:Int)]))) _
 generalize upd H1 l2 (.lst (ivs [0,1,(Vbdcai.sideOf (Vbdcai.ctrl se.world) v.target:Int),((Vbdcai.offered (Vbdcai.ctrl se.world) se.world.effects v).length:Int)]))=H2 at *
 walk_at "go2"
 refine rd_cat e2 (s2 _ _ e1) (by rw [ivs_len,ivs_len,hidl,sizeLine_eq];show 4 + _≤_;omega) fun l3 hl3=>?_
 rw [ivs_app]
 have s3:=s2.trans (Same.upd_new (o:=.lst (ivs ([0,1,(Vbdcai.sideOf (Vbdcai.ctrl se.world) v.target:Int),((Vbdcai.offered (Vbdcai.ctrl se.world) se.world.effects v).length:Int)]++castL (offIds se.world v)))) hl3)
 have e3:upd H2 l3 (.lst (ivs ([0,1,(Vbdcai.sideOf (Vbdcai.ctrl se.world) v.target:Int),((Vbdcai.offered (Vbdcai.ctrl se.world) se.world.effects v).length:Int)]++castL (offIds se.world v)))) l3=some _:=upd_same
 generalize upd H2 l3 (.lst (ivs ([0,1,(Vbdcai.sideOf (Vbdcai.ctrl se.world) v.target:Int),((Vbdcai.offered (Vbdcai.ctrl se.world) se.world.effects v).length:Int)]++castL (offIds se.world v))))=H3 at *
 have hev3:=s3 _ _ hev1
 walk_at "go2"
 refine ⟨av,dv,lu,v,rfl,hev3,fun H4 l4 s4 hl4 e4=>?_⟩
 refine rd_cat (s4 _ _ e3) e4 (by rw [ivs_len,ivs_len,List.length_append,hidl,sizeLine_eq];show 4 + _ + 5≤_;omega) fun l5 hl5=>?_
 rw [ivs_app]
 have s5:=s4.trans (Same.upd_new (o:=.lst (ivs ([0,1,(Vbdcai.sideOf (Vbdcai.ctrl se.world) v.target:Int),((Vbdcai.offered (Vbdcai.ctrl se.world) se.world.effects v).length:Int)]++castL (offIds se.world v)++evRow v))) hl5)
 have e5:upd H4 l5 (.lst (ivs ([0,1,(Vbdcai.sideOf (Vbdcai.ctrl se.world) v.target:Int),((Vbdcai.offered (Vbdcai.ctrl se.world) se.world.effects v).length:Int)]++castL (offIds se.world v)++evRow v))) l5=some _:=upd_same
 generalize upd H4 l5 (.lst (ivs ([0,1,(Vbdcai.sideOf (Vbdcai.ctrl se.world) v.target:Int),((Vbdcai.offered (Vbdcai.ctrl se.world) se.world.effects v).length:Int)]++castL (offIds se.world v)++evRow v)))=H5 at *
 have hev5:=s5 _ _ hev3
 walk_at "go2"
 have s05:=(s1.trans s3).trans s5
 refine ret_cat (k.on s05) (S0.same s05) e5 (s5 _ _ (s3 _ _ hus1)) ?_ rfl
 rw [List.length_append,List.length_append,hidl,castL_len]
 show 4 + _ + 5 + _≤_
 omega)) only [↓zh1]
def callF:Nat→List Int→List (List Int)→Vbdcai.Call
 | 0=>Dm.at0
 | 1=>Dm.at1
 | 2=>Dm.at2
 | 3=>Dm.at3
 | 4=>Dm.at4
 | 5=>Dm.at5
 | 6=>Dm.at6
 | 7=>Dm.at7
 | 8=>Dm.at8
 | 9=>Dm.at9
 | 10=>Dm.at10
 | 11=>Dm.at11
 | 12=>Dm.at12
 | 13=>Dm.at13
 | 14=>Dm.at14
 | _=>fun _ _=>.bad
theorem callAt_in {n:Int} (h:0≤n∧n < 15) (args:List Int) (rows:List (List Int)):callAt n args rows=callF n.toNat args rows:=by
 refine zh0 ?_;simp (disch:=k_dflt (
 refine zh2 ?_
 obtain ⟨m,rfl⟩:∃ m:Nat,n=(m:Int):=⟨n.toNat,(Int.toNat_of_nonneg h.1).symm⟩
 have hm:m < 15:=by omega
 match m,hm with
 | 0,_=>rfl
 | 1,_=>rfl
 | 2,_=>rfl
 | 3,_=>rfl
 | 4,_=>rfl
 | 5,_=>rfl
 | 6,_=>rfl
 | 7,_=>rfl
 | 8,_=>rfl
 | 9,_=>rfl
 | 10,_=>rfl
 | 11,_=>rfl
 | 12,_=>rfl
 | 13,_=>rfl
 | 14,_=>rfl
 | m + 15,h=>omega)) only [↓zh1]
theorem callAt_out {n:Int} (h:¬ (0≤n∧n < 15)) (args:List Int) (rows:List (List Int)):callAt n args rows=.bad:=by
 unfold callAt
 repeat rw [if_neg (by omega)]
theorem bad_no0 {F:List Int→List (List Int)→Vbdcai.Call} (h0:∀ a r,¬ (a=[]∧r=[])→F a r=.bad) {args:List Int} {rows:List (List Int)} (h:noB 0 args rows=false):F args rows=.bad:=h0 _ _ fun q=>by
 rw [q.1,q.2] at h
 cases h
theorem bad_no1 {F:List Int→List (List Int)→Vbdcai.Call} (h0:∀ a r,¬ ((∃ x,a=[x])∧r=[])→F a r=.bad) {args:List Int} {rows:List (List Int)} (h:noB 1 args rows=false):F args rows=.bad:=h0 _ _ fun ⟨⟨x,q1⟩,q2⟩=>by
 rw [q1,q2] at h
 cases h
theorem bad_no2 {F:List Int→List (List Int)→Vbdcai.Call} (h0:∀ a r,¬ ((∃ x y,a=[x,y])∧r=[])→F a r=.bad) {args:List Int} {rows:List (List Int)} (h:noB 2 args rows=false):F args rows=.bad:=h0 _ _ fun ⟨⟨x,y,q1⟩,q2⟩=>by
 rw [q1,q2] at h
 cases h
theorem bad0 (args:List Int) (rows:List (List Int)) (h:formB 0 args rows=false):Dm.at0 args rows=.bad:=by
 refine zh0 ?_;simp (disch:=k_dflt (
 refine zh2 ?_
 have h:(rngB args thRs && decide (rows.length=0))=false:=h
 unfold Dm.at0
 split
 ·next p z _ =>
  have h:(rngB [p,z] thRs && true)=false:=h
  rw [Bool.and_true] at h
  by_cases h1:0≤p∧p≤1
  ·by_cases h2:0≤z∧z≤3
   ·rw [rng2_iff.mpr ⟨p,z,rfl,h1,h2⟩] at h
    cases h
   rw [nat?_none h2,nat?_some h1]
   rfl
  rw [nat?_none h1]
  rfl
 rfl)) only [↓zh1]
theorem bad1 (args:List Int) (rows:List (List Int)) (h:formB 1 args rows=false):Dm.at1 args rows=.bad:=by
 unfold Dm.at1
 split
 ·rw [eff_false h]
  rfl
 rfl
theorem bad3 (args:List Int) (rows:List (List Int)) (h:formB 3 args rows=false):Dm.at3 args rows=.bad:=by
 refine zh0 ?_;simp (disch:=k_dflt (
 refine zh2 ?_
 have h:(decide (args.length=0) && rows.all evB)=false:=h
 unfold Dm.at3
 split
 ·have h:(true && rows.all evB)=false:=h
  rw [Bool.true_and] at h
  rcases evs_cases rows with ⟨q,_⟩ | ⟨_,q⟩
  ·rw [h] at q;cases q
  rw [q]
  rfl
 rfl)) only [↓zh1]
theorem form_bad {n:Nat} {args:List Int} {rows:List (List Int)} (h:formB n args rows=false):callF n args rows=.bad:=by
 refine zh0 ?_;simp (disch:=k_dflt (
 refine zh2 ?_
 match n,h with
 | 0,h=>exact bad0 _ _ h
 | 1,h=>exact bad1 _ _ h
 | 2,h=>exact bad_no1 (fun a r q=>by show Dm.at2 a r=.bad;unfold Dm.at2;split;exact absurd ⟨⟨_,rfl⟩,rfl⟩ q;rfl) h
 | 3,h=>exact bad3 _ _ h
 | 4,h=>exact bad_no2 (fun a r q=>by show Dm.at4 a r=.bad;unfold Dm.at4;split;exact absurd ⟨⟨_,_,rfl⟩,rfl⟩ q;rfl) h
 | 5,h=>exact bad_no2 (fun a r q=>by show Dm.at5 a r=.bad;unfold Dm.at5;split;exact absurd ⟨⟨_,_,rfl⟩,rfl⟩ q;rfl) h
 | 6,h=>exact bad_no0 (fun a r q=>by show Dm.at6 a r=.bad;unfold Dm.at6;split;exact absurd ⟨rfl,rfl⟩ q;rfl) h
 | 7,h=>exact bad_no0 (fun a r q=>by show Dm.at7 a r=.bad;unfold Dm.at7;split;exact absurd ⟨rfl,rfl⟩ q;rfl) h
 | 8,h=>exact bad_no0 (fun a r q=>by show Dm.at8 a r=.bad;unfold Dm.at8;split;exact absurd ⟨rfl,rfl⟩ q;rfl) h
 | 9,h=>exact bad_no1 (fun a r q=>by show Dm.at9 a r=.bad;unfold Dm.at9;split;exact absurd ⟨⟨_,rfl⟩,rfl⟩ q;rfl) h
 | 10,h=>exact bad_no1 (fun a r q=>by show Dm.at10 a r=.bad;unfold Dm.at10;split;exact absurd ⟨⟨_,rfl⟩,rfl⟩ q;rfl) h
 | 11,h=>exact bad_no0 (fun a r q=>by show Dm.at11 a r=.bad;unfold Dm.at11;split;exact absurd ⟨rfl,rfl⟩ q;rfl) h
 | 12,h=>exact bad_no1 (fun a r q=>by show Dm.at12 a r=.bad;unfold Dm.at12;split;exact absurd ⟨⟨_,rfl⟩,rfl⟩ q;rfl) h
 | 13,h=>exact bad_no0 (fun a r q=>by show Dm.at13 a r=.bad;unfold Dm.at13;split;exact absurd ⟨rfl,rfl⟩ q;rfl) h
 | 14,h=>exact bad_no2 (fun a r q=>by show Dm.at14 a r=.bad;unfold Dm.at14;split;exact absurd ⟨⟨_,_,rfl⟩,rfl⟩ q;rfl) h
 | n + 15,h=>rfl)) only [↓zh1]
theorem call_bad {n:Int} {args:List Int} {rows:List (List Int)} (h:ofFormB n args rows=false):callAt n args rows=.bad:=by
 by_cases hn:0≤n∧n < 15
 ·unfold ofFormB at h
  rw [decide_eq_true hn,Bool.true_and] at h
  rw [callAt_in hn]
  exact form_bad h
 exact callAt_out hn args rows
def sp_answer_call (K:PySem.W.Frag) (C:Cl):Sp:=fun vs H Q _=>∃ (t:Addr) (n:Int) (la lr:Addr) (args:List Int) (rows:List (List Int)) (ras:List Addr) (ρ:Rho) (s:Se),vs=[.ref t,.int n,.ref la,.ref lr]∧St C ρ H t s∧Args H la lr args rows ras∧AnsK C ρ H t (Vbdcai.step s (callAt n args rows)) Q
theorem ok_answer_call (T:Tx K C) (F:Fun K "answer_call" "answer_call" s_answer_call f fd) (k_is_of_its_form:Kn P w K mg base "is_of_its_form" 6 (sp_is_of_its_form K C)) (c_NOT_OF_ITS_FORM:CI mg "NOT_OF_ITS_FORM" (-1)) {a_ANSWERERS:Addr} (g_ANSWERERS:GR mg "ANSWERERS" a_ANSWERERS) {fs:List Addr} (hT:∀ H,SqT K H a_ANSWERERS (rfs fs)) (hl:fs.length=15) (hF:∀ (i:Nat) fa,fs[i]?=some fa→KnF P w K mg base fa 10 (sp_ans C (formB i) (callF i))):FnOk P w K mg base CX0 11 f fd ["table","number","arguments","rows"] (sp_answer_call K C):=by
 refine zh0 ?_;simp (disch:=k_dflt (
 refine F.ok sc_answer_call (by walk_at "ln") (fun cdv A outer s H vs Q E hr h=>?_)
 obtain ⟨t,n,la,lr,args,rows,ras,ρ,se,rfl,S,A,k⟩:=h
 refine ⟨_,(pss_cons (ps_if (pt_not (pt_val (pe_callX k_is_of_its_form (hr.mono (by decide)) rfl (pa_cons (pv 1) (pa_cons (pv 2) (pa_cons (pv 3) pa_nil)))))) (pss_one (ps_ret (pe_lst (pa_cons (pe_ci c_NOT_OF_ITS_FORM rfl) pa_nil)))) pss_nil) (pss_cons (ps_set (i:=4) sc_answer_call.nd rfl (Or.inl rfl) (pe_ix ix_tup (pe_gr g_ANSWERERS rfl) (pv 1) (fun _ _=>rfl))) (pss_one (ps_ret (pe_callL 10 (hr.mono (by decide)) (pv 4) (pa_cons (pv 0) (pa_cons (pv 2) (pa_cons (pv 3) pa_nil)))))))),?_⟩
 obtain ⟨lo,bV,R⟩:=S.rep
 walk_at "go2"
 refine ⟨n,la,lr,args,rows,ras,rfl,A,fun H1 s1=>?_⟩
 have k:=k.on s1
 have S1:=S.same s1
 walk_at "go2"
 refine rd_iteB (fun h0=>?_) fun h0=>?_
 ·rw [call_bad (notT h0)] at k
  have k:AnsK C ρ H1 t (se,[-1]) Q:=k
  walk_at "go2"
  exact k.ret S1 rfl (by show 1≤100;decide)
 have h0:=notF h0
 unfold ofFormB at h0
 rw [Bool.and_eq_true,decide_eq_true_iff] at h0
 obtain ⟨hn,hf⟩:=h0
 rw [callAt_in hn] at k
 have hfa:fs[n.toNat]?=some (fs[n.toNat]'(by omega)):=List.getElem?_eq_getElem (by omega)
 walk_at "go2"
 refine rd_ixT (hT _) (rfs_at hfa (by omega)) ?_
 walk_at "go2"
 refine rd_callL ?_
 walk_at "go2"
 refine ⟨_,_,rfl,hF _ _ hfa,?_⟩
 walk_at "go2"
 exact ⟨t,la,lr,args,rows,ras,ρ,se,rfl,S1,A.on s1,hf,k⟩)) only [↓zh1]
def rdFs (a:Addr) (n:Nat):List (Str × V):=[("calls",.ref a),("position",iv n)]
theorem Keep1.trans {p:Addr} {H H1 H2:Hp} (k:Keep1 p H H1) (k':Keep1 p H1 H2):Keep1 p H H2:=fun b o n h=>k' b o n (k b o n h)
theorem Keep1.same {p:Addr} {H H1:Hp} (s:Same H H1):Keep1 p H H1:=fun b o _ h=>s b o h
def RdL (K:PySem.W.Frag) (r:Addr) (H:Hp) (a:Addr) (l:List Int):Prop:=∀ H',Keep1 r H H'→SqL K H' a (ivs l)
theorem RdL.now {r:Addr} {H:Hp} {a:Addr} {l:List Int} (h:RdL K r H a l):SqL K H a (ivs l):=h H Keep1.refl
theorem RdL.on {r:Addr} {H H':Hp} {a:Addr} {l:List Int} (h:RdL K r H a l) (k:Keep1 r H H'):RdL K r H' a l:=fun H2 k2=>h H2 (k.trans k2)
def sp_Reader_init (K:PySem.W.Frag) (C:Cl):Sp:=fun vs H Q _=>∃ (p dx a:Addr),vs=[.ref p,.ref a]∧H p=some (.ins C.reader dx [])∧Q .non (upd H p (.ins C.reader dx (rdFs a 0)))
theorem ok_Reader_init (T:Tx K C) (F:Fun K "__init__" "Reader.__init__" s_Reader_init f fd)  :FnOk P w K mg base CX0 1 f fd ["self","calls"] (sp_Reader_init K C):=by
 refine zh0 ?_;simp (disch:=k_dflt (
 refine F.ok sc_Reader_init (by walk_at "ln") (fun cdv A outer s H vs Q E hr h=>?_)
 obtain ⟨p,dx,a,rfl,hp,k⟩:=h
 refine ⟨_,(pss_cons (ps_fld (pv 0) (pv 1) rfl) (pss_one (ps_fld (pv 0) pe_int rfl))),?_⟩
 walk_at "go2"
 simp only [upd_upd]
 exact k)) only [↓zh1]
def sp_Reader_at_end (K:PySem.W.Frag) (C:Cl):Sp:=fun vs H Q _=>∃ (r dx a:Addr) (n:Nat) (l:List Int),vs=[.ref r]∧H r=some (.ins C.reader dx (rdFs a n))∧SqL K H a (ivs l)∧Q (.bl (decide (l.length≤n))) H
theorem ok_Reader_at_end (T:Tx K C) (F:Fun K "at_end" "Reader.at_end" s_Reader_at_end f fd) (b_len:mg "len"=none) :FnOk P w K mg base CX0 1 f fd ["self"] (sp_Reader_at_end K C):=by
 refine zh0 ?_;simp (disch:=k_dflt (
 refine F.ok sc_Reader_at_end (by walk_at "ln") (fun cdv A outer s H vs Q E hr h=>?_)
 obtain ⟨r,dx,a,n,l,rfl,hr,hl,k⟩:=h
 refine ⟨_,(pss_one (ps_ret (pe_cmpR op_ge (pe_fld (pv 0) rfl) (pe_callB call_len_seq rfl b_len PySem.boot_len (pa_cons (pe_fld (pv 0) rfl) pa_nil)) (nomark _)))),?_⟩
 walk_at "go2"
 have e:decide (((ivs l).length:Int)≤(n:Int))=decide (l.length≤n):=by rw [ivs_len];exact decide_eq_decide.mpr (by omega)
 have e2:decide ((n:Int) ≥ ((ivs l).length:Int))=decide (l.length≤n):=e
 rw [← e2] at k
 exact k)) only [↓zh1]
def sp_Reader_read_number (K:PySem.W.Frag) (C:Cl):Sp:=fun vs H Q _=>∃ (r dx a:Addr) (n:Nat) (l:List Int) (x:Int),vs=[.ref r]∧H r=some (.ins C.reader dx (rdFs a n))∧SqL K H a (ivs l)∧l[n]?=some x∧∀ H',H' r=some (.ins C.reader dx (rdFs a (n + 1)))→Keep1 r H H'→Q (.int x) H'
theorem ok_Reader_read_number (T:Tx K C) (F:Fun K "read_number" "Reader.read_number" s_Reader_read_number f fd)  :FnOk P w K mg base CX0 1 f fd ["self"] (sp_Reader_read_number K C):=by
 refine zh0 ?_;simp (disch:=k_dflt (
 refine F.ok sc_Reader_read_number (by walk_at "ln") (fun cdv A outer s H vs Q E hr h=>?_)
 obtain ⟨r,dx,a,n,l,x,rfl,hr,hl,hx,k⟩:=h
 refine ⟨_,(pss_cons (ps_set (i:=1) sc_Reader_read_number.nd rfl (Or.inl rfl) (pe_ix ix_list (pe_fld (pv 0) rfl) (pe_fld (pv 0) rfl) (fun _ _=>rfl))) (pss_cons (ps_fldaug (pv 0) pe_int in_add) (pss_one (ps_ret (pv 1))))),?_⟩
 walk_at "go2"
 refine rd_ixS hl (atI_nat (j:=n) (v:=.int x) ?_) ?_
 ·unfold ivs
  rw [List.getElem?_map,hx]
  rfl
 walk_at "go2"
 refine rd_put hr (Nat.le_of_ble_eq_true rfl) (gs:=rdFs a (n + 1)) ?_ ?_
 ·show putF "position" (V.int ((n:Int) + 1)) _=_
  rw [show ((n:Int) + 1)=((n + 1:Nat):Int) by omega]
  rfl
 walk_at "go2"
 exact k _ upd_same Keep1.refl.at_)) only [↓zh1]
theorem cut_mid {l:List Int} {n:Nat} {x s:List Int} (h:l.drop n=x++s):cutV (ivs l) (some (n:Int)) (some ((n:Int) + (x.length:Int)))=ivs x:=by
 refine zh0 ?_;simp (disch:=k_dflt (
 refine zh2 ?_
 have hl:n≤l.length∨x=[]:=by
  by_cases q:n≤l.length
  ·exact .inl q
  rw [List.drop_eq_nil_of_le (by omega)] at h
  exact .inr (List.append_eq_nil_iff.mp h.symm).1
 have hlen:(l.drop n).length=x.length + s.length:=by rw [h,List.length_append]
 rw [List.length_drop] at hlen
 unfold cutV
 rw [show ((n:Int) + (x.length:Int))=((n + x.length:Nat):Int) by omega,HT.sIx_nat,HT.sIx_nat,ivs_len]
 unfold ivs
 by_cases hx:x=[]
 ·subst hx
  rw [List.length_nil,Nat.add_zero,Nat.sub_self]
  rfl
 have hn:n≤l.length:=hl.resolve_right hx
 rw [Nat.min_eq_left hn,Nat.min_eq_left (by omega),← List.map_drop,h,show n + x.length - n=x.length by omega,← List.map_take,List.take_append_of_le_length (Nat.le_refl _),List.take_length])) only [↓zh1]
def sp_Reader_read_row (K:PySem.W.Frag) (C:Cl):Sp:=fun vs H Q _=>∃ (r dx a:Addr) (n:Nat) (l x s:List Int),vs=[.ref r]∧H r=some (.ins C.reader dx (rdFs a n))∧RdL K r H a l∧l.drop n=PyFlat.putRow x++s∧∀ H' p,H' r=some (.ins C.reader dx (rdFs a (n + (1 + x.length))))→H' p=some (.lst (ivs x))→H p=none→Keep1 r H H'→Q (.ref p) H'
theorem ok_Reader_read_row (T:Tx K C) (F:Fun K "read_row" "Reader.read_row" s_Reader_read_row f fd) (q_Reader_read_number:KnM P w K mg base C.reader "read_number" 1 (sp_Reader_read_number K C)) :FnOk P w K mg base CX0 2 f fd ["self"] (sp_Reader_read_row K C):=by
 refine zh0 ?_;simp (disch:=k_dflt (
 refine F.ok sc_Reader_read_row (by walk_at "ln") (fun cdv A outer s H vs Q E hr h=>?_)
 obtain ⟨r,dx,a,n,l,x,s',rfl,hrd,hl,hd,k⟩:=h
 refine ⟨_,(pss_cons (ps_set (i:=1) sc_Reader_read_row.nd rfl (Or.inl rfl) (pe_methX0 (pv 0) q_Reader_read_number (hr.mono (by decide)))) (pss_cons (ps_set (i:=2) sc_Reader_read_row.nd rfl (Or.inl rfl) (pe_slice sl_list (pe_fld (pv 0) rfl) (po_some (pe_fld (pv 0) rfl)) (po_some (pe_op op_add (pe_fld (pv 0) rfl) (pv 1))))) (pss_cons (ps_fldaug (pv 0) (pv 1) in_add) (pss_one (ps_ret (pv 2)))))),?_⟩
 have hr:=hrd
 have hd:l.drop n=(x.length:Int) :: (x++s'):=hd
 have h0:l[n]?=some (x.length:Int):=by
  rw [← List.head?_drop,hd]
  rfl
 have h1:l.drop (n + 1)=x++s':=by
  rw [← List.drop_drop,hd]
  rfl
 walk_at "go2"
 refine ⟨r,dx,a,n,l,_,rfl,hr,hl.now,h0,fun H1 hr1 k1=>?_⟩
 have hl1:=hl.on k1
 walk_at "go2"
 refine rd_slS hl1.now fun p hp=>?_
 have ec:=cut_mid h1
 have ec2:cutV (ivs l) (some ((n + 1:Nat):Int)) (some (((n + 1:Nat):Int) + (x.length:Int)))=ivs x:=ec
 rw [ec2]
 have nrp:r≠p:=ne_of_none hr1 hp
 have hr2:=upd_keep (o':=.lst (ivs x)) hr1 hp
 walk_at "go2"
 refine rd_put hr2 (Nat.le_of_ble_eq_true rfl) (gs:=rdFs a (n + (1 + x.length))) ?_ ?_
 ·show putF "position" (V.int (((n + 1:Nat):Int) + (x.length:Int))) _=_
  rw [show (((n + 1:Nat):Int) + (x.length:Int))=((n + (1 + x.length):Nat):Int) by omega]
  rfl
 walk_at "go2"
 refine k _ p upd_same (by rw [upd_ne (fun q=>nrp q.symm),upd_same]) (k1.free (o':=.own r) hr1 hp) ?_
 exact (k1.new hp).at_)) only [↓zh1]
def ForR (lo:Int) (n:Nat) (g:TG) (tb:TS) (D:Ends) (σ:L2.St) (H:Hp):Prop:=∃ W:Nat→Nat→L2.St→Hp→Prop,(∃ m,W 0 m σ H)∧∀ i m σ H,W i m σ H →
   ((Itr lo n).stop i H∧D.nx σ H)∨((Itr lo n).go i H∧∃ N:L2.St→Hp→Prop,(∀ σ' H',N σ' H'→∃ m',m' < m∧W (i + 1) m' σ' H')∧∀ x H',(Itr lo n).yld i H x H'→g x σ H' fun σ2 H2=>tb { D with nx:=N,ct:=N,bk:=D.nx } σ2 H2)
theorem rd_forR {ta:TA} {g:TG} {tb:TS} {D:Ends} {σ:L2.St} {H:Hp} (h:ta σ H fun xs H1=>∃ j:Int,xs=[.int j]∧-(2 ^ 62)≤j∧j < 2 ^ 62∧ForR 0 j.toNat g tb D σ H1):tFor (iRng1 ta) g tb D σ H:=h
theorem forR_of {lo:Int} {n:Nat} {g:TG} {tb:TS} {D:Ends} {σ:L2.St} {H:Hp} (Pv:Nat→L2.St→Hp→Prop) (h0:Pv 0 σ H)
  (hs:∀ i σ H,i < n→Pv i σ H→g (.int (lo + i)) σ H fun σ2 H2=>tb { D with nx:=Pv (i + 1),ct:=Pv (i + 1),bk:=D.nx } σ2 H2) (hd:∀ σ H,Pv n σ H→D.nx σ H):ForR lo n g tb D σ H:=for_range Pv h0 hs hd
theorem putRows_app:∀ (a b:List (List Int)),PyFlat.putRows (a++b)=PyFlat.putRows a++PyFlat.putRows b
 | [],_=>rfl
 | x :: a,b=>by
  show PyFlat.putRow x++PyFlat.putRows (a++b)=(PyFlat.putRow x++PyFlat.putRows a)++PyFlat.putRows b
  rw [putRows_app a b,List.append_assoc]
structure RowsAt (H0 H:Hp) (r lr:Addr) (rows:List (List Int)) (ras:List Addr):Prop where
 hr:H lr=some (.lst (rfs ras))
 len:ras.length=rows.length
 row:∀ (i:Nat) a x,ras[i]?=some a→rows[i]?=some x→H a=some (.lst (ivs x))∧a≠lr
 fr:H0 lr=none
 keep:Keep1 r H0 H
def sp_Reader_read_rows (K:PySem.W.Frag) (C:Cl):Sp:=fun vs H Q _=>∃ (r dx a:Addr) (n:Nat) (l:List Int) (xs:List (List Int)) (s:List Int),vs=[.ref r]∧H r=some (.ins C.reader dx (rdFs a n))∧RdL K r H a l∧l.drop n=(xs.length:Int) :: (PyFlat.putRows xs++s)∧xs.length≤1000 ∧
 ∀ H' lr ras,H' r=some (.ins C.reader dx (rdFs a (n + (1 + (PyFlat.putRows xs).length))))→RowsAt H H' r lr xs ras→Q (.ref lr) H'
theorem ok_Reader_read_rows (T:Tx K C) (F:Fun K "read_rows" "Reader.read_rows" s_Reader_read_rows f fd) (b_range:mg "range"=none) (q_Reader_read_number:KnM P w K mg base C.reader "read_number" 1 (sp_Reader_read_number K C)) (q_Reader_read_row:KnM P w K mg base C.reader "read_row" 2 (sp_Reader_read_row K C)) :FnOk P w K mg base CX0 3 f fd ["self"] (sp_Reader_read_rows K C):=by
 refine zh0 ?_;simp (disch:=k_dflt (
 refine F.ok sc_Reader_read_rows (by walk_at "ln") (fun cdv A outer s H vs Q E hr h=>?_)
 obtain ⟨r,dx,a,n,l,xs,s',rfl,hrd,hl,hd,hz,k⟩:=h
 refine ⟨_,(pss_cons (ps_set (i:=1) sc_Reader_read_rows.nd rfl (Or.inl rfl) (pe_lst pa_nil)) (pss_cons (ps_for PassesOwn.never rfl (pi_range1 rfl b_range (pa_cons (pe_methX0 (pv 0) q_Reader_read_number (hr.mono (by decide))) pa_nil)) (pg_name (i:=2) sc_Reader_read_rows.nd rfl (Or.inl rfl)) (pss_one (ps_expr (pe_bm PySem.F.plainAttrs_list PySem.F.slot_list_append PySem.F.type_list_append mt_append (pv 1) (pa_cons (pe_methX0 (pv 0) q_Reader_read_row (hr.mono (by decide))) pa_nil))))) (pss_one (ps_ret (pv 1))))),?_⟩
 have hr:=hrd
 have h0:l[n]?=some (xs.length:Int):=by
  rw [← List.head?_drop,hd]
  rfl
 have h1:l.drop (n + 1)=PyFlat.putRows xs++s':=by
  rw [← List.drop_drop,hd]
  rfl
 walk_at "go2"
 refine ⟨Nat.zero_le _,fun lr hlr=>?_⟩
 have nrl:r≠lr:=ne_of_none hr hlr
 have hr0:=upd_keep (o':=.lst []) hr hlr
 have k0:Keep1 r H (upd H lr (.lst [])):=Keep1.refl.new hlr
 have e0:upd H lr (.lst []) lr=some (.lst []):=upd_same
 walk_at "go2"
 refine rd_forR ?_
 walk_at "go2"
 refine ⟨r,dx,a,n,l,_,rfl,hr0,(hl.on k0).now,h0,fun H1 hr1 k1=>?_⟩
 walk_at "go2"
 refine ⟨_,rfl,by omega,by omega,?_⟩
 rw [Int.toNat_natCast]
 refine forR_of (fun i σ H'=>∃ u ras,σ=[some (.ref r),some (.ref lr),u]∧H' r=some (.ins C.reader dx (rdFs a (n + (1 + (PyFlat.putRows (xs.take i)).length))))∧RowsAt H H' r lr (xs.take i) ras)
  ⟨none,[],rfl,hr1,⟨k1 _ _ (fun q=>nrl q.symm) e0,rfl,fun i a x h=>by simp at h,hlr,k0.trans k1⟩⟩ ?_ ?_
 ·rintro i σ H2 hi ⟨u,ras,rfl,hr2,RA⟩
  have hx:xs[i]?=some xs[i]:=List.getElem?_eq_getElem hi
  have hd2:l.drop (n + (1 + (PyFlat.putRows (xs.take i)).length))=PyFlat.putRow xs[i]++(PyFlat.putRows (xs.drop (i + 1))++s'):=by
   have e1:xs=xs.take i++(xs[i] :: xs.drop (i + 1)):=by rw [← List.drop_eq_getElem_cons hi,List.take_append_drop]
   have e2:l.drop (n + 1)=PyFlat.putRows (xs.take i)++(PyFlat.putRow xs[i]++(PyFlat.putRows (xs.drop (i + 1))++s')):=by
    have e3:PyFlat.putRows xs=PyFlat.putRows (xs.take i)++(PyFlat.putRow xs[i]++PyFlat.putRows (xs.drop (i + 1))):=by
     have:=congrArg PyFlat.putRows e1
     rw [putRows_app] at this
     exact this
    rw [h1,e3]
    simp only [List.append_assoc]
   rw [← Nat.add_assoc,← List.drop_drop,e2,List.drop_append_of_le_length (Nat.le_refl _),List.drop_length,List.nil_append]
  walk_at "go2"
  refine rd_ty RA.hr ?_
  walk_at "go2"
  refine ⟨r,dx,a,_,l,xs[i],_,rfl,hr2,hl.on RA.keep,hd2,fun H3 p hr3 hp3 fp k3=>?_⟩
  walk_at "go2"
  have hlr3:=k3 _ _ (fun q=>nrl q.symm) RA.hr
  have npl:p≠lr:=fun q=>by rw [q,RA.hr] at fp;cases fp
  refine rd_append hlr3 (by rw [rfs_len,RA.len,List.length_take,sizeLine_eq];omega) ?_
  rw [rfs_snoc]
  refine ⟨_,ras++[p],rfl,?_,⟨upd_same,by rw [List.length_append,RA.len,take_one hx,List.length_append];rfl,fun j b x hb hxx=>?_,hlr,?_⟩⟩
  ·rw [upd_ne nrl,hr3,take_one hx,putRows_app,List.length_append]
   show some (HO.ins C.reader dx (rdFs a _))=some (HO.ins C.reader dx (rdFs a _))
   have:(PyFlat.putRows [xs[i]]).length=1 + (xs[i]).length:=by
    show (PyFlat.putRow xs[i]++[]).length=_
    rw [List.append_nil]
    show (xs[i]).length + 1=_
    omega
   rw [this,show n + (1 + (PyFlat.putRows (xs.take i)).length) + (1 + (xs[i]).length)=n + (1 + ((PyFlat.putRows (xs.take i)).length + (1 + (xs[i]).length))) by omega]
  ·rw [take_one hx] at hxx
   have hlt:(xs.take i).length=i:=by rw [List.length_take];omega
   by_cases q:j < i
   ·rw [List.getElem?_append_left (by rw [RA.len,hlt];exact q)] at hb
    rw [List.getElem?_append_left (by rw [hlt];exact q)] at hxx
    obtain ⟨q1,q2⟩:=RA.row j b x hb hxx
    have nbr:b≠r:=fun z=>by rw [z,hr2] at q1;cases q1
    exact ⟨by rw [upd_ne q2];exact k3 _ _ nbr q1,q2⟩
   have hj:j=i:=by
    have:=(List.getElem?_eq_some_iff.mp hxx).1
    rw [List.length_append,hlt,List.length_singleton] at this
    omega
   subst hj
   rw [List.getElem?_append_right (by rw [hlt];exact Nat.le_refl _),hlt,Nat.sub_self] at hxx
   rw [List.getElem?_append_right (by rw [RA.len,hlt];exact Nat.le_refl _),RA.len,hlt,Nat.sub_self] at hb
   have e1:p=b:=Option.some.inj hb
   have e2:xs[j]=x:=Option.some.inj hxx
   subst e1 e2
   exact ⟨by rw [upd_ne npl];exact hp3,npl⟩
  exact fun b o nb hbo=>by rw [upd_ne (ne_of_none hbo hlr)];exact k3 _ _ nb (RA.keep _ _ nb hbo)
 rintro σ H2 ⟨u,ras,rfl,hr2,RA⟩
 rw [List.take_length] at hr2 RA
 walk_at "go2"
 exact k H2 lr ras hr2 RA)) only [↓zh1]
theorem St.keepR {ρ:Rho} {H H':Hp} {t r:Addr} {s:Se} {o:HO} (S:St C ρ H t s) (k:Keep1 r H H') (hr:ρ r=(0,0)) (hr':H' r=some o):St C ρ H' t s:=by
 refine zh0 ?_;simp (disch:=k_dflt (
 refine zh2 ?_
 have kp:Kp (fun n=>n≠0) ρ H ρ H':=fun b u tb hb=>⟨rfl,k b u (fun q=>tb (by rw [q,hr])) hb⟩
 have hd:=S.dom
 have dom:Dom ρ H':=fun b hb=>by
  by_cases q:b=r
  ·rw [q];exact hr
  refine hd b ?_
  cases z:H b with
  | none=>rfl
  | some u=>rw [k b u q z] at hb;cases hb
 rcases S with ⟨lo,R,q⟩ | ⟨lo,b,lb,v,rr,A,q⟩
 ·exact .inl ⟨lo,R.keep (kp.mono fun n h=>by unfold inTab at h;omega) dom,q⟩
 exact .inr ⟨lo,b,lb,v,rr,⟨⟨A.sb.rep.keep (kp.mono fun n h=>by unfold inTab at h;omega) dom,A.sb.bat.keep (kp.mono fun n h=>by unfold inBat at h;omega)⟩,A.asks,A.todo,A.off⟩,q⟩)) only [↓zh1]
def InL (K:PySem.W.Frag) (ρ:Rho) (H:Hp) (a:Addr) (l:List Int) (av:List Addr):Prop:=(∃ o,H a=some o∧ρ a=(0,0)∧a ∉ av∧∀ H':Hp,H' a=some o→SqL K H' a (ivs l))∨∀ H':Hp,SqL K H' a (ivs l)
theorem InL.sq {ρ:Rho} {H:Hp} {a:Addr} {l:List Int} {av:List Addr} (h:InL K ρ H a l av):SqL K H a (ivs l):=by
 rcases h with ⟨o,h,_,_,q⟩ | q
 ·exact q H h
 exact q H
theorem InL.out {ρ ρ':Rho} {H H':Hp} {a:Addr} {l:List Int} {av:List Addr} (h:InL K ρ H a l av) (o:Out ρ H ρ' H'):InL K ρ' H' a l av:=by
 rcases h with ⟨u,h,r,n,q⟩ | q
 ·obtain ⟨e1,e2⟩:=o a u (by rw [r]) h
  exact .inl ⟨u,e2,e1.trans r,n,q⟩
 exact .inr q
theorem InL.keep {ρ:Rho} {H H':Hp} {a r:Addr} {l:List Int} {av:List Addr} (h:InL K ρ H a l av) (k:Keep1 r H H') (hr:r∈av):InL K ρ H' a l av:=by
 rcases h with ⟨u,h,z,n,q⟩ | q
 ·exact .inl ⟨u,k a u (fun e=>n (by rw [e];exact hr)) h,z,n,q⟩
 exact .inr q
theorem InL.rd {ρ:Rho} {H:Hp} {a r:Addr} {l:List Int} {av:List Addr} (h:InL K ρ H a l av) (hr:r∈av):RdL K r H a l:=fun H' k=>(h.keep k hr).sq
theorem dite_imp {P c:Prop} [Decidable c] {x:c→Bool} {y:¬ c→Bool} (h1:∀ h,x h=true→P) (h2:∀ h,y h=true→P):dite c x y=true→P:=by
 by_cases h:c
 ·rw [dif_pos h];exact h1 h
 rw [dif_neg h];exact h2 h
def Len100 (c:List (List Int)):Prop:=c.length≤100∧∀ r∈c,r.length≤100
theorem len_row {r:List Int} (hr:VbdcaiNeutral.row r 50=true):r.length≤100:=by
 unfold VbdcaiNeutral.row at hr
 rw [Bool.and_eq_true,decide_eq_true_iff] at hr
 omega
theorem len_all {c:List (List Int)} (h:(decide (c.length≤50) && c.all fun r=>VbdcaiNeutral.row r 50)=true):Len100 c:=by
 rw [Bool.and_eq_true,decide_eq_true_iff,List.all_eq_true] at h
 exact ⟨by omega,fun r hr=>len_row (h.2 r hr)⟩
theorem len_one {r:List Int} (h:Nat.ble r.length 100=true):Len100 [r]:=⟨Nat.le_of_ble_eq_true rfl,fun q hq=>by rw [List.mem_singleton.mp hq];exact Nat.le_of_ble_eq_true h⟩
theorem asked_len {c:List (List Int)} (h:VbdcaiNeutral.asked1 c=true):Len100 c:=by
 refine zh0 ?_;simp (disch:=k_dflt (
 refine zh2 ?_
 rcases c with _ | ⟨_ | ⟨k,t⟩,s⟩
 ·exact len_all rfl
 ·exact len_all h
 revert h
 delta VbdcaiNeutral.asked1 VbdcaiNeutral.asked1.match_1
 refine dite_imp (fun e=>?_) fun _=>?_
 ·subst e
  intro h
  rcases t with _ | ⟨a,_ | ⟨b,_ | ⟨c,t⟩⟩⟩ <;> rcases s with _ | ⟨x,s⟩ <;> first | exact len_one rfl | exact len_all h
 refine dite_imp (fun e=>?_) fun _=>?_
 ·subst e
  intro h
  rcases t with _ | ⟨a,_ | ⟨a,_ | ⟨a,_ | ⟨a,_ | ⟨a,_ | ⟨a,_ | ⟨a,_ | ⟨a,_ | ⟨b,t⟩⟩⟩⟩⟩⟩⟩⟩⟩ <;> try exact len_all h
  rcases s with _ | ⟨x,_ | ⟨y,_ | ⟨z,_ | ⟨u,v⟩⟩⟩⟩ <;> try exact len_all h
  have h:=(Bool.and_eq_true_iff.mp (Bool.and_eq_true_iff.mp (Bool.and_eq_true_iff.mp (Bool.and_eq_true_iff.mp (Bool.and_eq_true_iff.mp (Bool.and_eq_true_iff.mp (Bool.and_eq_true_iff.mp (Bool.and_eq_true_iff.mp h).2).2).2).2).2).2).2).2
  have h2:=(Bool.and_eq_true_iff.mp h).2
  have h3:=Bool.and_eq_true_iff.mp h2
  refine ⟨Nat.le_of_ble_eq_true rfl,fun r hr=>?_⟩
  rcases List.mem_cons.mp hr with rfl | hr
  ·exact Nat.le_of_ble_eq_true rfl
  rcases List.mem_cons.mp hr with rfl | hr
  ·exact len_row (Bool.and_eq_true_iff.mp h).1
  rcases List.mem_cons.mp hr with rfl | hr
  ·exact len_row h3.1
  rw [List.mem_singleton.mp hr]
  exact len_row h3.2
 refine dite_imp (fun e=>?_) fun _=>?_
 ·subst e
  intro h
  rcases t with _ | ⟨a,_ | ⟨b,t⟩⟩ <;> rcases s with _ | ⟨x,s⟩ <;> first | exact len_one rfl | exact len_all h
 refine dite_imp (fun e=>?_) fun _=>?_
 ·subst e
  intro h
  rcases t with _ | ⟨a,t⟩ <;> try exact len_all h
  have h:(decide (s.length≤49) && s.all fun v=>VbdcaiNeutral.row v 50)=true:=h
  rw [Bool.and_eq_true,decide_eq_true_iff,List.all_eq_true] at h
  refine ⟨by rw [List.length_cons];omega,fun r hr=>?_⟩
  rcases List.mem_cons.mp hr with rfl | hr
  ·exact Nat.le_of_ble_eq_true rfl
  exact len_row (h.2 r hr)
 refine dite_imp (fun e=>?_) fun _=>?_
 ·subst e
  intro h
  rcases t with _ | ⟨a,_ | ⟨b,_ | ⟨c,t⟩⟩⟩ <;> rcases s with _ | ⟨x,s⟩ <;> first | exact len_one rfl | exact len_all h
 refine dite_imp (fun e=>?_) fun _=>?_
 ·subst e
  intro h
  rcases t with _ | ⟨a,_ | ⟨b,_ | ⟨c,t⟩⟩⟩ <;> rcases s with _ | ⟨x,s⟩ <;> first | exact len_one rfl | exact len_all h
 refine dite_imp (fun e=>?_) fun _=>?_
 ·subst e
  intro h
  rcases t with _ | ⟨a,t⟩ <;> rcases s with _ | ⟨x,s⟩ <;> first | exact len_one rfl | exact len_all h
 refine dite_imp (fun e=>?_) fun _=>?_
 ·subst e
  intro h
  rcases t with _ | ⟨a,t⟩ <;> rcases s with _ | ⟨x,s⟩ <;> first | exact len_one rfl | exact len_all h
 refine dite_imp (fun e=>?_) fun _=>?_
 ·subst e
  intro h
  rcases t with _ | ⟨a,t⟩ <;> rcases s with _ | ⟨x,s⟩ <;> first | exact len_one rfl | exact len_all h
 refine dite_imp (fun e=>?_) fun _=>?_
 ·subst e
  intro h
  rcases t with _ | ⟨a,_ | ⟨b,t⟩⟩ <;> rcases s with _ | ⟨x,s⟩ <;> first | exact len_one rfl | exact len_all h
 refine dite_imp (fun e=>?_) fun _=>?_
 ·subst e
  intro h
  rcases t with _ | ⟨a,_ | ⟨b,t⟩⟩ <;> rcases s with _ | ⟨x,s⟩ <;> first | exact len_one rfl | exact len_all h
 refine dite_imp (fun e=>?_) fun _=>?_
 ·subst e
  intro h
  rcases t with _ | ⟨a,t⟩ <;> rcases s with _ | ⟨x,s⟩ <;> first | exact len_one rfl | exact len_all h
 refine dite_imp (fun e=>?_) fun _=>?_
 ·subst e
  intro h
  rcases t with _ | ⟨a,_ | ⟨b,t⟩⟩ <;> rcases s with _ | ⟨x,s⟩ <;> first | exact len_one rfl | exact len_all h
 refine dite_imp (fun e=>?_) fun _=>?_
 ·subst e
  intro h
  rcases t with _ | ⟨a,t⟩ <;> rcases s with _ | ⟨x,s⟩ <;> first | exact len_one rfl | exact len_all h
 refine dite_imp (fun e=>?_) fun _=>?_
 ·subst e
  intro h
  rcases t with _ | ⟨a,_ | ⟨b,_ | ⟨c,t⟩⟩⟩ <;> rcases s with _ | ⟨x,s⟩ <;> first | exact len_one rfl | exact len_all h
 exact len_all)) only [↓zh1]
theorem neutral_step (s:Se) (n:Int) (args:List Int) (rows:List (List Int)):VbdcaiNeutral.step s ((n :: args) :: rows)=Vbdcai.step s (callAt n args rows):=by
 rw [← call_at]
 rfl
theorem tabR_out {p sL s0 s1 tL eL bL b:Addr} {ba:List Addr} (h:b≠p) (n:b ∉ [sL,s0,s1,tL,eL,bL]++ba):tabR p sL s0 s1 tL eL bL ba b=(0,0):=by
 refine zh0 ?_;simp (disch:=k_dflt (
 refine zh2 ?_
 have m:∀ x,x∈[sL,s0,s1,tL,eL,bL]→b≠x:=fun x hx q=>n (by rw [q];exact List.mem_append_left _ hx)
 unfold tabR
 rw [if_neg h,if_neg (m _ (by simp)),if_neg (m _ (by simp)),if_neg (m _ (by simp)),if_neg (m _ (by simp)),if_neg (m _ (by simp)),if_neg (m _ (by simp)),if_neg (fun q=>n (List.mem_append_right _ q))])) only [↓zh1]
theorem start_ok:Rest ({}:Du.W):=by
 refine ⟨⟨rfl,by decide,fun e he=>(by cases he),.nil,by decide,by decide⟩,rfl,rfl⟩
structure Desk (K:PySem.W.Frag) (C:Cl) (l:List Int) (a t r tl:Addr) (m:Nat) (H:Hp) (ρ:Rho) (s:Se) (cs:List (List (List Int))) (done:List Int) (n:Nat) (dr:Addr):Prop where
 m:m=cs.length
 st:St C ρ H t s
 rd:H r=some (.ins C.reader dr (rdFs a n))
 rr:ρ r=(0,0)
 told:H tl=some (.lst (ivs done))
 rt:ρ tl=(0,0)
 inl:InL K ρ H a l [r,tl]
 cut:l.drop n=PyWide.put cs
 ok:∀ c∈cs,PyWide.okCall c∧c.length≤100∧∀ r∈c,r.length≤100
 sum:done++PyFlat.told (PyFlat.played VbdcaiNeutral.step s cs)=PyVbdcai.answers l
def sp_answers (K:PySem.W.Frag) (C:Cl):Sp:=fun vs H Q _=>∃ (a:Addr) (l:List Int),vs=[.ref a]∧SqL K H a (ivs l)∧PyVbdcai.answers_asked l=true∧∀ H' p,H' p=some (.lst (ivs (PyVbdcai.answers l)))→Q (.ref p) H'
theorem ok_answers (T:Tx K C) (F:Fun K "answers" "answers" s_answers f fd) (m_Table:KnC P w K mg base "Table" C.table 3 (sp_Table_init K C)) (m_Reader:KnC P w K mg base "Reader" C.reader 1 (sp_Reader_init K C)) (q_Reader_at_end:KnM P w K mg base C.reader "at_end" 1 (sp_Reader_at_end K C)) (q_Reader_read_number:KnM P w K mg base C.reader "read_number" 1 (sp_Reader_read_number K C)) (q_Reader_read_row:KnM P w K mg base C.reader "read_row" 2 (sp_Reader_read_row K C)) (q_Reader_read_rows:KnM P w K mg base C.reader "read_rows" 3 (sp_Reader_read_rows K C)) (k_answer_call:Kn P w K mg base "answer_call" 11 (sp_answer_call K C)) (b_len:mg "len"=none) :FnOk P w K mg base CX0 12 f fd ["calls"] (sp_answers K C):=by
 refine zh0 ?_;simp (disch:=k_dflt (
 refine F.ok sc_answers (by walk_at "ln") (fun cdv A outer s H vs Q E hr h=>?_)
 obtain ⟨a,l,rfl,hl,hask,k⟩:=h
 refine ⟨_,(pss_cons (ps_set (i:=1) sc_answers.nd rfl (Or.inl rfl) (pe_makeX0 m_Table (hr.mono (by decide)) rfl)) (pss_cons (ps_set (i:=2) sc_answers.nd rfl (Or.inl rfl) (pe_makeX m_Reader (hr.mono (by decide)) rfl (pa_cons (pv 0) pa_nil))) (pss_cons (ps_set (i:=3) sc_answers.nd rfl (Or.inl rfl) (pe_lst pa_nil)) (pss_cons (ps_while PassesOwn.never (pt_not (pt_val (pe_methX0 (pv 2) q_Reader_at_end (hr.mono (by decide))))) (pss_cons (ps_set (i:=4) sc_answers.nd rfl (Or.inl rfl) (pe_methX0 (pv 2) q_Reader_read_number (hr.mono (by decide)))) (pss_cons (ps_set (i:=5) sc_answers.nd rfl (Or.inl rfl) (pe_methX0 (pv 2) q_Reader_read_row (hr.mono (by decide)))) (pss_cons (ps_set (i:=6) sc_answers.nd rfl (Or.inl rfl) (pe_methX0 (pv 2) q_Reader_read_rows (hr.mono (by decide)))) (pss_cons (ps_set (i:=7) sc_answers.nd rfl (Or.inl rfl) (pe_callX k_answer_call (hr.mono (by decide)) rfl (pa_cons (pv 1) (pa_cons (pv 4) (pa_cons (pv 5) (pa_cons (pv 6) pa_nil)))))) (pss_cons (ps_expr (pe_bm PySem.F.plainAttrs_list PySem.F.slot_list_append PySem.F.type_list_append mt_append (pv 3) (pa_cons (pe_callB call_len_seq rfl b_len PySem.boot_len (pa_cons (pv 7) pa_nil)) pa_nil))) (pss_one (ps_expr (pe_bm PySem.F.plainAttrs_list PySem.F.slot_list_extend PySem.F.type_list_extend mt_extend (pv 3) (pa_cons (pv 7) pa_nil)))))))))) (pss_one (ps_ret (pv 3))))))),?_⟩
 obtain ⟨cs,hcs,hok,hshort⟩:∃ cs,PyVbdcai.calls l=some cs∧(∀ c∈cs,VbdcaiNeutral.asked1 c=true)∧(PyVbdcai.answers l).length≤10000000:=by
  unfold PyVbdcai.answers_asked at hask
  cases q:PyVbdcai.calls l with
  | none=>rw [q] at hask;cases hask
  | some cs =>
   rw [q] at hask
   have hask:(PyFlat.atMost 400 cs && VbdcaiNeutral.asked cs && PyFlat.short 10000000 (PyVbdcai.answers l))=true:=hask
   rw [Bool.and_eq_true,Bool.and_eq_true] at hask
   refine ⟨cs,rfl,?_,?_⟩
   ·have:=hask.1.2
    unfold VbdcaiNeutral.asked at this
    rw [Bool.and_eq_true] at this
    exact List.all_eq_true.mp this.1
   have:=hask.2
   unfold PyFlat.short at this
   exact of_decide_eq_true this
 have hans:PyVbdcai.answers l=PyFlat.told (PyFlat.played VbdcaiNeutral.step VbdcaiNeutral.start cs):=by
  unfold PyVbdcai.answers
  rw [hcs]
 obtain ⟨hput,hcall⟩:=PyWide.put_calls _ _ _ hcs
 walk_at "go2"
 intro t dt ht hdt net
 have ht':upd H dt (.own t) t=none:=by rw [upd_ne (fun q=>net q.symm)];exact ht
 refine ⟨t,dt,rfl,upd_same,fun H1 sL s0 d0 s1 d1 tL eL bL ba TA k1 nin=>⟨rfl,?_⟩⟩
 have s1':Same H H1:=fun b o hb=>k1 b o (ne_of_none hb ht) (by rw [upd_ne (ne_of_none hb ht),upd_ne (ne_of_none hb hdt)];exact hb)
 have R1:=TA.rep
 have S1:St C (tabR t sL s0 s1 tL eL bL ba) H1 t Vbdcai.start:=.inl ⟨_,R1,start_ok⟩
 have z1:∀ b o,H b=some o→tabR t sL s0 s1 tL eL bL ba b=(0,0):=fun b o hb=>tabR_out (ne_of_none hb ht) (nin b o (ne_of_none hb ht) (by rw [upd_ne (ne_of_none hb ht),upd_ne (ne_of_none hb hdt)];exact hb))
 generalize tabR t sL s0 s1 tL eL bL ba=ρ at *
 walk_at "go2"
 intro r dr hr1 hdr ner
 have hr1':upd H1 dr (.own r) r=none:=by rw [upd_ne (fun q=>ner q.symm)];exact hr1
 refine ⟨r,dr,a,rfl,upd_same,rfl,?_⟩
 rw [upd_upd]
 have s2:Same H1 (upd (upd H1 dr (.own r)) r (.ins C.reader dr (rdFs a 0))):=(Same.upd_new hdr).trans (Same.upd_new hr1')
 have e2:upd (upd H1 dr (.own r)) r (.ins C.reader dr (rdFs a 0)) r=some (.ins C.reader dr (rdFs a 0)):=upd_same
 generalize upd (upd H1 dr (.own r)) r (.ins C.reader dr (rdFs a 0))=H2 at *
 walk_at "go2"
 refine ⟨Nat.zero_le _,fun tl htl=>?_⟩
 have s3:Same H2 (upd H2 tl (.lst [])):=Same.upd_new htl
 have e3:upd H2 tl (.lst []) tl=some (.lst (ivs [])):=upd_same
 generalize upd H2 tl (.lst [])=H3 at *
 have dom1:=S1.dom
 have I3:InL K ρ H3 a l [r,tl]:=by
  have s13:=(s1'.trans s2).trans s3
  have fr:∀ o,H a=some o→a ∉ [r,tl]:=fun o ho hm=>by
   have hm:a=r∨a=tl:=by simpa using hm
   rcases hm with q | q
   ·rw [q] at ho;rw [s1' _ _ ho] at hr1;cases hr1
   rw [q] at ho;rw [s2 _ _ (s1' _ _ ho)] at htl;cases htl
  rcases hl with (h | ⟨o,h⟩) | h
  ·exact .inl ⟨_,s13 _ _ h,z1 _ _ h,fr _ h,fun H' h'=>.inl (.inl h')⟩
  ·exact .inl ⟨_,s13 _ _ h,z1 _ _ h,fr _ h,fun H' h'=>.inl (.inr ⟨o,h'⟩)⟩
  exact .inr fun H'=>.inr h
 walk_at "go2"
 refine ⟨fun m σ H'=>∃ u4 u5 u6 u7 ρ s cs done n dr,σ=[some (.ref a),some (.ref t),some (.ref r),some (.ref tl),u4,u5,u6,u7]∧Desk K C l a t r tl m H' ρ s cs done n dr,
  ⟨_,_,_,_,_,ρ,Vbdcai.start,cs,[],0,dr,rfl,rfl,S1.same (s2.trans s3),s3 _ _ e2,dom1 _ hr1,e3,dom1 _ (Same.free s2 htl),I3,hput,fun c hc=>⟨hcall c hc,asked_len (hok c hc)⟩,hans.symm⟩,?_⟩
 rintro m σ H4 ⟨u4,u5,u6,u7,ρ,se,cs,done,n,dr,rfl,D⟩
 have nrt:r≠tl:=ins_lst D.rd D.told
 have hrd:=D.rd
 walk_at "go2"
 refine ⟨r,dr,a,n,l,rfl,D.rd,D.inl.sq,?_⟩
 walk_at "go2"
 cases cs with
 | nil =>
  have hend:l.length≤n:=by
   have:=D.cut
   exact List.drop_eq_nil_iff.mp this
  rw [decide_eq_true hend]
  refine rd_iteF ?_
  walk_at "go2"
  refine k H4 tl ?_
  have:=D.sum
  rw [← this]
  show H4 tl=some (HO.lst (ivs (done++[])))
  rw [List.append_nil]
  exact D.told
 | cons c cs' =>
  obtain ⟨⟨num,args,rows,rfl⟩,hclen,hrlen⟩:=D.ok c List.mem_cons_self
  have hcut:l.drop n=num :: (PyFlat.putRow args++((rows.length:Int) :: (PyFlat.putRows rows++PyWide.put cs'))):=by
   rw [D.cut]
   exact PyWide.put1_append num args rows _
  have h0:l[n]?=some num:=by
   rw [← List.head?_drop,hcut]
   rfl
  have h1:l.drop (n + 1)=PyFlat.putRow args++((rows.length:Int) :: (PyFlat.putRows rows++PyWide.put cs')):=by
   rw [← List.drop_drop,hcut]
   rfl
  have hlt:¬ l.length≤n:=fun q=>by
   rw [List.getElem?_eq_none q] at h0
   cases h0
  rw [decide_eq_false hlt]
  refine rd_iteT ⟨fun σ' H'=>∃ m',m' < m∧∃ u4 u5 u6 u7 ρ s cs done n dr,σ'=[some (.ref a),some (.ref t),some (.ref r),some (.ref tl),u4,u5,u6,u7]∧Desk K C l a t r tl m' H' ρ s cs done n dr,fun σ' H' q=>q,?_⟩
  walk_at "go2"
  refine ⟨r,dr,a,n,l,num,rfl,D.rd,D.inl.sq,h0,fun H5 hr5 k5=>?_⟩
  have I5:=D.inl.keep k5 (by simp)
  walk_at "go2"
  refine ⟨r,dr,a,n + 1,l,args,_,rfl,hr5,I5.rd (by simp),h1,fun H6 la hr6 hla6 fla k6=>?_⟩
  have I6:=I5.keep k6 (by simp)
  have h2:l.drop (n + 1 + (1 + args.length))=(rows.length:Int) :: (PyFlat.putRows rows++PyWide.put cs'):=by
   have e:(PyFlat.putRow args).length=1 + args.length:=by
    show args.length + 1=_
    omega
   rw [← List.drop_drop,h1,← e,List.drop_append_of_le_length (Nat.le_refl _),List.drop_length,List.nil_append]
  have hrows:rows.length≤100:=by
   rw [List.length_cons] at hclen
   omega
  walk_at "go2"
  refine ⟨r,dr,a,_,l,rows,_,rfl,hr6,I6.rd (by simp),h2,by omega,fun H7 lr ras hr7 RA=>?_⟩
  have I7:=I6.keep RA.keep (by simp)
  have k7:Keep1 r H4 H7:=(k5.trans k6).trans RA.keep
  have S7:=D.st.keepR k7 D.rr hr7
  have htl7:=k7 _ _ (fun q=>nrt q.symm) D.told
  have nla:la≠r:=(ins_lst hr6 hla6).symm
  have A7:Args H7 la lr args rows ras:=by
   refine ⟨RA.keep _ _ nla hla6,RA.hr,RA.len,fun i b x hb hx=>⟨(RA.row i b x hb hx).1,?_⟩,?_,by omega⟩
   ·have:=hrlen x (List.mem_cons_of_mem _ (List.mem_of_getElem? hx))
    omega
   have:=hrlen (num :: args) List.mem_cons_self
   rw [List.length_cons] at this
   omega
  walk_at "go2"
  refine ⟨t,num,la,lr,args,rows,ras,ρ,se,rfl,S7,A7,fun ρ8 H8 l8 S8 r8 h8 o8 n8=>?_⟩
  obtain ⟨rt8,htl8⟩:=o8 tl _ (by rw [D.rt]) htl7
  obtain ⟨rr8,hr8⟩:=o8 r _ (by rw [D.rr]) hr7
  have I8:=I7.out o8
  have nlt:l8≠tl:=n8 tl _ htl7 (by rw [D.rt])
  have hsum:=D.sum
  have hplay:PyFlat.told (PyFlat.played VbdcaiNeutral.step se (((num :: args) :: rows) :: cs'))=(((Vbdcai.step se (callAt num args rows)).2.length:Int) :: (Vbdcai.step se (callAt num args rows)).2)++PyFlat.told (PyFlat.played VbdcaiNeutral.step (Vbdcai.step se (callAt num args rows)).1 cs'):=by
   show PyFlat.told ((VbdcaiNeutral.step se ((num :: args) :: rows)).2 :: PyFlat.played VbdcaiNeutral.step (VbdcaiNeutral.step se ((num :: args) :: rows)).1 cs')=_
   rw [neutral_step]
   rfl
  rw [hplay] at hsum
  have hlen:=congrArg List.length hsum
  rw [List.length_append,List.length_append,List.length_cons] at hlen
  generalize Vbdcai.step se (callAt num args rows)=res at *
  walk_at "go2"
  refine rd_ty htl8 ?_
  walk_at "go2"
  rw [ivs_len]
  refine rd_append htl8 (by rw [ivs_len,sizeLine_eq];omega) ?_
  have e9:ivs done++[V.int (res.2.length:Int)]=ivs (done++[(res.2.length:Int)]):=by
   unfold ivs
   rw [List.map_append]
   rfl
  rw [e9]
  have h8':upd H8 tl (.lst (ivs (done++[(res.2.length:Int)]))) l8=some (.lst (ivs res.2)):=by rw [upd_ne nlt];exact h8
  walk_at "go2"
  refine rd_ty upd_same ?_
  walk_at "go2"
  refine rd_extend upd_same h8' (by rw [ivs_len,ivs_len,List.length_append,List.length_singleton,sizeLine_eq];omega) ?_
  rw [ivs_app,upd_upd]
  have k9:Keep1 tl H8 (upd H8 tl (.lst (ivs (done++[(res.2.length:Int)]++res.2)))):=Keep1.refl.at_
  refine ⟨cs'.length,by rw [D.m,List.length_cons];omega,_,_,_,_,ρ8,res.1,cs',done++[(res.2.length:Int)]++res.2,_,dr,rfl,rfl,S8.keepR k9 (rt8.trans D.rt) upd_same,by rw [upd_ne nrt];exact hr8,rr8.trans D.rr,upd_same,rt8.trans D.rt,I8.keep k9 (by simp),?_,fun c hc=>D.ok c (List.mem_cons_of_mem _ hc),?_⟩
  ·have e:(1:Nat) + (PyFlat.putRows rows).length=((rows.length:Int) :: PyFlat.putRows rows).length:=by rw [List.length_cons];omega
   rw [← List.drop_drop,h2,e]
   show (((rows.length:Int) :: PyFlat.putRows rows)++PyWide.put cs').drop _=_
   rw [List.drop_append_of_le_length (Nat.le_refl _),List.drop_length,List.nil_append]
  rw [← hsum]
  simp only [List.append_assoc,List.cons_append,List.nil_append])) only [↓zh1]
end
end Du
set_option Elab.async false
set_option linter.all false
set_option maxRecDepth 100000
set_option maxHeartbeats 4000000
namespace Du
open PySem PySem.Spec PyProof.Rows L2 Dm
abbrev BindAll (x qual:Str) (st:Stmt) (ps:List Str):Prop:=∀ (kV doc pm:Value) (an:Option Addr) (cdv ct:Value) (us:List Value),us.length=ps.length→bindArgs (PySem.W.fnOf x qual (defArgs st) (defBody st) (defScope st) .none kV doc pm an cdv ct) ⟨us,[]⟩=pure (ps.zip us)
def FnAt (K:PySem.W.Frag) (mg:Str→Option Value) (x qual:Str) (st:Stmt):Prop:=∃ f fd,mg x=some (.ref f)∧Fun K x qual st f fd
def InitAt (K:PySem.W.Frag) (c:Addr) (qual:Str) (st:Stmt):Prop:=∃ f fd,Mk K c f∧Fun K "__init__" qual st f fd
def MethAt (K:PySem.W.Frag) (c:Addr) (x qual:Str) (st:Stmt):Prop:=∃ f fd,Meth K c x f∧Fun K x qual st f fd
def TupAt (K:PySem.W.Frag) (mg:Str→Option Value) (x:Str) (names:List Str):Prop:=∃ a fs,GR mg x a∧(∀ H,SqT K H a (rfs fs))∧fs.length=names.length∧∀ (i:Nat) y fa,names[i]?=some y→fs[i]?=some fa→mg y=some (.ref fa)
def RngAt (K:PySem.W.Frag) (mg:Str→Option Value) (x:Str) (rs:List (Int × Int)):Prop:=∃ a,GR mg x a∧Rng K a rs
section
variable {P:Program} {w:World} {K:PySem.W.Frag} {mg:Str→Option Value} {base h:Heap} {x qual:Str} {st:Stmt} {ps:List Str} {lvl:Nat} {sp:Sp} {c f:Addr}
theorem fnAt_mk {oc:Value} {od an:Option Addr} {osl:Array (Option Value)} {kV doc pm cdv ct:Value} (X:K.In h) (G:h.Ns mainGlobals mg) (a:PySem.W.nsIn K mainGlobals x=some (some (.ref f)))
  (l:K.lookup f=some ⟨oc,od,.func (PySem.W.fnOf x qual (defArgs st) (defBody st) (defScope st) .none kV doc pm an cdv ct),osl⟩) (cd:PySem.W.codeIn K cdv qual=true) (k:PySem.W.keepIn K (.ref f)=true):FnAt K mg x qual st:=⟨f,_,PySem.W.mg_of X G a,fun_mk l cd k⟩
theorem initAt_mk {oc:Value} {od an:Option Addr} {osl:Array (Option Value)} {kV doc pm cdv ct:Value} (mk:PySem.W.makesIn K c=true) (a:PySem.W.findIn K (.ref c) "__init__"=some (some (.ref f))) (i:PySem.W.isFn K (.ref f)=true) (kc:PySem.W.keepIn K (.ref c)=true)
  (l:K.lookup f=some ⟨oc,od,.func (PySem.W.fnOf "__init__" qual (defArgs st) (defBody st) (defScope st) .none kV doc pm an cdv ct),osl⟩) (cd:PySem.W.codeIn K cdv qual=true) (k:PySem.W.keepIn K (.ref f)=true):InitAt K c qual st:=⟨f,_,⟨mk,a,i,kc⟩,fun_mk l cd k⟩
theorem methAt_mk {oc:Value} {od an:Option Addr} {osl:Array (Option Value)} {kV doc pm cdv ct:Value} (a:PySem.W.findIn K (.ref c) x=some (some (.ref f))) (i:PySem.W.isFn K (.ref f)=true)
  (l:K.lookup f=some ⟨oc,od,.func (PySem.W.fnOf x qual (defArgs st) (defBody st) (defScope st) .none kV doc pm an cdv ct),osl⟩) (cd:PySem.W.codeIn K cdv qual=true) (k:PySem.W.keepIn K (.ref f)=true):MethAt K c x qual st:=⟨f,_,⟨a,i,k⟩,fun_mk l cd k⟩
theorem ci_mk {i:Int} {t:Tok} (X:K.In h) (G:h.Ns mainGlobals mg) (a:PySem.W.nsIn K mainGlobals x=some (some (.int i t))):CI mg x i:=⟨t,PySem.W.mg_of X G a⟩
theorem na_nil:∀ g∈([]:List Str),NoAttr K c g:=fun _ h=>nomatch h
theorem na_cons {y:Str} {l:List Str} (h:PySem.W.findIn K (.ref c) y=some none) (t:∀ g∈l,NoAttr K c g):∀ g∈y :: l,NoAttr K c g:=fun g hg=>(List.mem_cons.mp hg).elim (fun e=>e ▸ h) (t g)
theorem FnAt.kn (P:Program) (w:World) (base:Heap) (F:FnAt K mg x qual st) (b:BindAll x qual st ps) (o:∀ f fd,Fun K x qual st f fd→FnOk P w K mg base CX0 lvl f fd ps sp):Kn P w K mg base x lvl sp:=let ⟨f,fd,g,F⟩:=F;⟨f,g,fd,ps,F.kp,F.binds b,o f fd F⟩
theorem InitAt.kn (P:Program) (w:World) (base:Heap) {y:Str} (F:InitAt K c qual st) (g:mg y=some (.ref c)) (b:BindAll "__init__" qual st ps) (o:∀ f fd,Fun K "__init__" qual st f fd→FnOk P w K mg base CX0 lvl f fd ps sp):KnC P w K mg base y c lvl sp:=let ⟨f,fd,M,F⟩:=F;⟨f,g,M,fd,ps,F.kp,F.binds b,o f fd F⟩
theorem MethAt.kn (P:Program) (w:World) (base:Heap) (mg:Str→Option Value) {fs:List Str} (F:MethAt K c x qual st) (T:ClOk K c fs) (b:BindAll x qual st ps) (o:∀ f fd,Fun K x qual st f fd→FnOk P w K mg base CX0 lvl f fd ps sp):KnM P w K mg base c x lvl sp:=let ⟨f,fd,M,F⟩:=F;⟨f,M,T.1,fd,ps,F.kp,F.binds b,o f fd F⟩
theorem Kn.at_ {k:Nat} (h:Kn P w K mg base x lvl sp) (e:mg x=some (.ref f)) (hk:lvl≤k):KnF P w K mg base f k sp:=by
 obtain ⟨f',g,fd,ps,kp,b,F⟩:=h
 rw [g] at e
 cases e
 exact ⟨fd,ps,kp,b,F.mono hk⟩
theorem sqT_of {a:Addr} {od:Option Addr} {its:Array Value} {n:Nat} {sl:Array (Option Value)} {xs:List V} (l:K.lookup a=some ⟨.type "tuple",od,.seq its n,sl⟩) (hz:its.size≤sizeLine) (v:Vals xs its.toList):∀ H,SqT K H a xs:=fun H=>.inr ⟨_,its,n,l,rfl,rfl,hz,v⟩
theorem tupAt_mk {a:Addr} {od:Option Addr} {its:Array Value} {n:Nat} {sl:Array (Option Value)} {names:List Str} {fs:List Addr} (X:K.In h) (G:h.Ns mainGlobals mg) (g:PySem.W.nsIn K mainGlobals x=some (some (.ref a))) (l:K.lookup a=some ⟨.type "tuple",od,.seq its n,sl⟩)
  (hz:its.size≤sizeLine) (v:Vals (rfs fs) its.toList) (p:Paired (fun y fa=>PySem.W.nsIn K mainGlobals y=some (some (.ref fa))) names fs):TupAt K mg x names:=by
 refine zh0 ?_;simp (disch:=k_dflt (
 refine zh2 ?_
 refine ⟨a,fs,PySem.W.mg_of X G g,sqT_of l hz v,?_,?_⟩
 ·clear v
  induction p with
  | nil=>rfl
  | cons _ _ ih=>rw [List.length_cons,List.length_cons,ih]
 clear v
 induction p with
 | nil=>intro i y fa h;simp at h
 | cons r _ ih =>
  intro i y fa h1 h2
  cases i with
  | zero =>
   simp at h1 h2
   subst h1 h2
   exact PySem.W.mg_of X G r
  | succ i=>exact ih i y fa (by simpa using h1) (by simpa using h2))) only [↓zh1]
theorem rngAt_mk {a:Addr} {od:Option Addr} {its:Array Value} {n:Nat} {sl:Array (Option Value)} {rs:List (Int × Int)} {as:List Addr} (X:K.In h) (G:h.Ns mainGlobals mg) (g:PySem.W.nsIn K mainGlobals x=some (some (.ref a))) (l:K.lookup a=some ⟨.type "tuple",od,.seq its n,sl⟩)
  (hz:its.size≤sizeLine) (v:Vals (rfs as) its.toList) (p:Paired (fun b (r:Int × Int)=>∀ H,SqT K H b [.int r.1,.int r.2]) as rs):RngAt K mg x rs:=by
 refine zh0 ?_;simp (disch:=k_dflt (
 refine zh2 ?_
 refine ⟨a,PySem.W.mg_of X G g,⟨as,sqT_of l hz v,?_,?_⟩⟩
 ·clear v
  induction p with
  | nil=>rfl
  | cons _ _ ih=>rw [List.length_cons,List.length_cons,ih]
 clear v
 induction p with
 | nil=>intro i y fa h;simp at h
 | cons r _ ih =>
  intro i y fa h1 h2
  cases i with
  | zero =>
   simp at h1 h2
   subst h1 h2
   exact r
  | succ i=>exact ih i y fa (by simpa using h1) (by simpa using h2))) only [↓zh1]
theorem bA1 {x qual:Str} {st:Stmt} {p0:Str} (h:∀ kV doc pm an cdv ct a0,bindArgs (PySem.W.fnOf x qual (defArgs st) (defBody st) (defScope st) .none kV doc pm an cdv ct) ⟨[a0],[]⟩=pure (([p0]:List Str).zip [a0])):BindAll x qual st [p0]:=fun kV doc pm an cdv ct us hl=>match us,hl with | [a0],_=>h kV doc pm an cdv ct a0
theorem bA2 {x qual:Str} {st:Stmt} {p0 p1:Str} (h:∀ kV doc pm an cdv ct a0 a1,bindArgs (PySem.W.fnOf x qual (defArgs st) (defBody st) (defScope st) .none kV doc pm an cdv ct) ⟨[a0,a1],[]⟩=pure (([p0,p1]:List Str).zip [a0,a1])):BindAll x qual st [p0,p1]:=fun kV doc pm an cdv ct us hl=>match us,hl with | [a0,a1],_=>h kV doc pm an cdv ct a0 a1
theorem bA3 {x qual:Str} {st:Stmt} {p0 p1 p2:Str} (h:∀ kV doc pm an cdv ct a0 a1 a2,bindArgs (PySem.W.fnOf x qual (defArgs st) (defBody st) (defScope st) .none kV doc pm an cdv ct) ⟨[a0,a1,a2],[]⟩=pure (([p0,p1,p2]:List Str).zip [a0,a1,a2])):BindAll x qual st [p0,p1,p2]:=fun kV doc pm an cdv ct us hl=>match us,hl with | [a0,a1,a2],_=>h kV doc pm an cdv ct a0 a1 a2
theorem bA4 {x qual:Str} {st:Stmt} {p0 p1 p2 p3:Str} (h:∀ kV doc pm an cdv ct a0 a1 a2 a3,bindArgs (PySem.W.fnOf x qual (defArgs st) (defBody st) (defScope st) .none kV doc pm an cdv ct) ⟨[a0,a1,a2,a3],[]⟩=pure (([p0,p1,p2,p3]:List Str).zip [a0,a1,a2,a3])):BindAll x qual st [p0,p1,p2,p3]:=fun kV doc pm an cdv ct us hl=>match us,hl with | [a0,a1,a2,a3],_=>h kV doc pm an cdv ct a0 a1 a2 a3
theorem bA5 {x qual:Str} {st:Stmt} {p0 p1 p2 p3 p4:Str} (h:∀ kV doc pm an cdv ct a0 a1 a2 a3 a4,bindArgs (PySem.W.fnOf x qual (defArgs st) (defBody st) (defScope st) .none kV doc pm an cdv ct) ⟨[a0,a1,a2,a3,a4],[]⟩=pure (([p0,p1,p2,p3,p4]:List Str).zip [a0,a1,a2,a3,a4])):BindAll x qual st [p0,p1,p2,p3,p4]:=fun kV doc pm an cdv ct us hl=>match us,hl with | [a0,a1,a2,a3,a4],_=>h kV doc pm an cdv ct a0 a1 a2 a3 a4
theorem bA6 {x qual:Str} {st:Stmt} {p0 p1 p2 p3 p4 p5:Str} (h:∀ kV doc pm an cdv ct a0 a1 a2 a3 a4 a5,bindArgs (PySem.W.fnOf x qual (defArgs st) (defBody st) (defScope st) .none kV doc pm an cdv ct) ⟨[a0,a1,a2,a3,a4,a5],[]⟩=pure (([p0,p1,p2,p3,p4,p5]:List Str).zip [a0,a1,a2,a3,a4,a5])):BindAll x qual st [p0,p1,p2,p3,p4,p5]:=fun kV doc pm an cdv ct us hl=>match us,hl with | [a0,a1,a2,a3,a4,a5],_=>h kV doc pm an cdv ct a0 a1 a2 a3 a4 a5
theorem bA7 {x qual:Str} {st:Stmt} {p0 p1 p2 p3 p4 p5 p6:Str} (h:∀ kV doc pm an cdv ct a0 a1 a2 a3 a4 a5 a6,bindArgs (PySem.W.fnOf x qual (defArgs st) (defBody st) (defScope st) .none kV doc pm an cdv ct) ⟨[a0,a1,a2,a3,a4,a5,a6],[]⟩=pure (([p0,p1,p2,p3,p4,p5,p6]:List Str).zip [a0,a1,a2,a3,a4,a5,a6])):BindAll x qual st [p0,p1,p2,p3,p4,p5,p6]:=fun kV doc pm an cdv ct us hl=>match us,hl with | [a0,a1,a2,a3,a4,a5,a6],_=>h kV doc pm an cdv ct a0 a1 a2 a3 a4 a5 a6
def spA (K:PySem.W.Frag):Sp:=fun vs H Q _=>∃ (a:Addr) (l:List Int),vs=[.ref a]∧SqL K H a (ivs l)∧PyVbdcai.answers_asked l=true∧∀ H' p,H' p=some (.lst (ivs (PyVbdcai.answers l)))→Q (.ref p) H'
theorem all_ok {fa:Addr} (hfa:mg "answers"=some (.ref fa))
  (hSide:∃ c,mg "Side"=some (.ref c)∧ClOk K c ["life","drawn","tokens"]∧InitAt K c "Side.__init__" s_Side_init∧MethAt K c "as_row" "Side.as_row" s_Side_as_row)
  (hThing:∃ c,mg "Thing"=some (.ref c)∧ClOk K c ["side","place","damage","counters"]∧InitAt K c "Thing.__init__" s_Thing_init∧MethAt K c "as_row" "Thing.as_row" s_Thing_as_row)
  (hBook:∃ c,mg "Book"=some (.ref c)∧ClOk K c ["told","made","added","cut","turned","happened"]∧InitAt K c "Book.__init__" s_Book_init∧MethAt K c "as_row" "Book.as_row" s_Book_as_row∧MethAt K c "duplicate" "Book.duplicate" s_Book_duplicate)
  (hTable:∃ c,mg "Table"=some (.ref c)∧ClOk K c ["sides","things","effects","effects_numbered","books","batch"]∧InitAt K c "Table.__init__" s_Table_init∧MethAt K c "has_thing" "Table.has_thing" s_Table_has_thing∧MethAt K c "thing_numbered" "Table.thing_numbered" s_Table_thing_numbered∧MethAt K c "effect_numbered" "Table.effect_numbered" s_Table_effect_numbered∧MethAt K c "end_effect" "Table.end_effect" s_Table_end_effect∧MethAt K c "has_target" "Table.has_target" s_Table_has_target∧MethAt K c "has_source" "Table.has_source" s_Table_has_source∧MethAt K c "on_field" "Table.on_field" s_Table_on_field∧MethAt K c "befallen_side" "Table.befallen_side" s_Table_befallen_side)
  (hEffect:∃ c,mg "Effect"=some (.ref c)∧ClOk K c ["number","side","source","kind","aim","whose","own","may","uses","things","sources","does"]∧InitAt K c "Effect.__init__" s_Effect_init∧MethAt K c "as_row" "Effect.as_row" s_Effect_as_row∧MethAt K c "duplicate" "Effect.duplicate" s_Effect_duplicate)
  (hEvent:∃ c,mg "Event"=some (.ref c)∧ClOk K c ["kind","source","target","amount","place","used"]∧InitAt K c "Event.__init__" s_Event_init∧MethAt K c "as_row" "Event.as_row" s_Event_as_row∧MethAt K c "mark" "Event.mark" s_Event_mark)
  (hBatch:∃ c,mg "Batch"=some (.ref c)∧ClOk K c ["row","settled","offered","effects_before","books_before"]∧InitAt K c "Batch.__init__" s_Batch_init)
  (hReader:∃ c,mg "Reader"=some (.ref c)∧ClOk K c ["calls","position"]∧InitAt K c "Reader.__init__" s_Reader_init∧MethAt K c "at_end" "Reader.at_end" s_Reader_at_end∧MethAt K c "read_number" "Reader.read_number" s_Reader_read_number∧MethAt K c "read_row" "Reader.read_row" s_Reader_read_row∧MethAt K c "read_rows" "Reader.read_rows" s_Reader_read_rows)
  (f_is_side:FnAt K mg "is_side" "is_side" s_is_side)
  (f_thing_of:FnAt K mg "thing_of" "thing_of" s_thing_of)
  (f_fits_whose:FnAt K mg "fits_whose" "fits_whose" s_fits_whose)
  (f_fits_sources:FnAt K mg "fits_sources" "fits_sources" s_fits_sources)
  (f_fits_own:FnAt K mg "fits_own" "fits_own" s_fits_own)
  (f_set_amount:FnAt K mg "set_amount" "set_amount" s_set_amount)
  (f_put_behind:FnAt K mg "put_behind" "put_behind" s_put_behind)
  (f_use_turn:FnAt K mg "use_turn" "use_turn" s_use_turn)
  (f_use_elsewhere:FnAt K mg "use_elsewhere" "use_elsewhere" s_use_elsewhere)
  (f_offered_effect:FnAt K mg "offered_effect" "offered_effect" s_offered_effect)
  (f_events_left:FnAt K mg "events_left" "events_left" s_events_left)
  (f_take_back:FnAt K mg "take_back" "take_back" s_take_back)
  (f_happen_to_side:FnAt K mg "happen_to_side" "happen_to_side" s_happen_to_side)
  (f_happen_to_thing:FnAt K mg "happen_to_thing" "happen_to_thing" s_happen_to_thing)
  (f_is_within:FnAt K mg "is_within" "is_within" s_is_within)
  (f_are_zero:FnAt K mg "are_zero" "are_zero" s_are_zero)
  (f_has_no_number:FnAt K mg "has_no_number" "has_no_number" s_has_no_number)
  (f_has_one_number:FnAt K mg "has_one_number" "has_one_number" s_has_one_number)
  (f_has_two_numbers:FnAt K mg "has_two_numbers" "has_two_numbers" s_has_two_numbers)
  (f_offered_numbers:FnAt K mg "offered_numbers" "offered_numbers" s_offered_numbers)
  (f_is_multiplying:FnAt K mg "is_multiplying" "is_multiplying" s_is_multiplying)
  (f_is_target:FnAt K mg "is_target" "is_target" s_is_target)
  (f_suits:FnAt K mg "suits" "suits" s_suits)
  (f_fits_aim:FnAt K mg "fits_aim" "fits_aim" s_fits_aim)
  (f_fits_things:FnAt K mg "fits_things" "fits_things" s_fits_things)
  (f_use_less:FnAt K mg "use_less" "use_less" s_use_less)
  (f_use_more:FnAt K mg "use_more" "use_more" s_use_more)
  (f_use_twice:FnAt K mg "use_twice" "use_twice" s_use_twice)
  (f_use_half:FnAt K mg "use_half" "use_half" s_use_half)
  (f_use_nothing:FnAt K mg "use_nothing" "use_nothing" s_use_nothing)
  (f_use_shield:FnAt K mg "use_shield" "use_shield" s_use_shield)
  (f_wear:FnAt K mg "wear" "wear" s_wear)
  (f_are_in_ranges:FnAt K mg "are_in_ranges" "are_in_ranges" s_are_in_ranges)
  (f_is_row_of_things:FnAt K mg "is_row_of_things" "is_row_of_things" s_is_row_of_things)
  (f_has_room_for_effect:FnAt K mg "has_room_for_effect" "has_room_for_effect" s_has_room_for_effect)
  (f_answer_stop:FnAt K mg "answer_stop" "answer_stop" s_answer_stop)
  (f_answer_undo:FnAt K mg "answer_undo" "answer_undo" s_answer_undo)
  (f_answer_side:FnAt K mg "answer_side" "answer_side" s_answer_side)
  (f_answer_look:FnAt K mg "answer_look" "answer_look" s_answer_look)
  (f_answer_book:FnAt K mg "answer_book" "answer_book" s_answer_book)
  (f_one_behind_another:FnAt K mg "one_behind_another" "one_behind_another" s_one_behind_another)
  (f_answer_own:FnAt K mg "answer_own" "answer_own" s_answer_own)
  (f_fits:FnAt K mg "fits" "fits" s_fits)
  (f_use_split:FnAt K mg "use_split" "use_split" s_use_split)
  (f_make_event:FnAt K mg "make_event" "make_event" s_make_event)
  (f_asked_side:FnAt K mg "asked_side" "asked_side" s_asked_side)
  (f_finish:FnAt K mg "finish" "finish" s_finish)
  (f_is_thing_call:FnAt K mg "is_thing_call" "is_thing_call" s_is_thing_call)
  (f_is_event_row:FnAt K mg "is_event_row" "is_event_row" s_is_event_row)
  (f_is_made_event:FnAt K mg "is_made_event" "is_made_event" s_is_made_event)
  (f_answer_thing:FnAt K mg "answer_thing" "answer_thing" s_answer_thing)
  (f_is_possible_target:FnAt K mg "is_possible_target" "is_possible_target" s_is_possible_target)
  (f_answer_effects:FnAt K mg "answer_effects" "answer_effects" s_answer_effects)
  (f_answer_left:FnAt K mg "answer_left" "answer_left" s_answer_left)
  (f_offered_effects:FnAt K mg "offered_effects" "offered_effects" s_offered_effects)
  (f_use_instead:FnAt K mg "use_instead" "use_instead" s_use_instead)
  (f_use_besides:FnAt K mg "use_besides" "use_besides" s_use_besides)
  (f_is_batch_call:FnAt K mg "is_batch_call" "is_batch_call" s_is_batch_call)
  (f_is_does_row:FnAt K mg "is_does_row" "is_does_row" s_is_does_row)
  (f_how_it_stands:FnAt K mg "how_it_stands" "how_it_stands" s_how_it_stands)
  (f_is_for_kind:FnAt K mg "is_for_kind" "is_for_kind" s_is_for_kind)
  (f_choice_refusal:FnAt K mg "choice_refusal" "choice_refusal" s_choice_refusal)
  (f_answer_ask:FnAt K mg "answer_ask" "answer_ask" s_answer_ask)
  (f_use:FnAt K mg "use" "use" s_use)
  (f_is_effect_call:FnAt K mg "is_effect_call" "is_effect_call" s_is_effect_call)
  (f_answer_effect:FnAt K mg "answer_effect" "answer_effect" s_answer_effect)
  (f_look_at_first:FnAt K mg "look_at_first" "look_at_first" s_look_at_first)
  (f_is_of_its_form:FnAt K mg "is_of_its_form" "is_of_its_form" s_is_of_its_form)
  (f_go_on:FnAt K mg "go_on" "go_on" s_go_on)
  (f_begin:FnAt K mg "begin" "begin" s_begin)
  (f_choose:FnAt K mg "choose" "choose" s_choose)
  (f_decline:FnAt K mg "decline" "decline" s_decline)
  (f_choose_to_the_end:FnAt K mg "choose_to_the_end" "choose_to_the_end" s_choose_to_the_end)
  (f_answer_batch:FnAt K mg "answer_batch" "answer_batch" s_answer_batch)
  (f_answer_choose:FnAt K mg "answer_choose" "answer_choose" s_answer_choose)
  (f_answer_decline:FnAt K mg "answer_decline" "answer_decline" s_answer_decline)
  (f_answer_rest:FnAt K mg "answer_rest" "answer_rest" s_answer_rest)
  (f_answer_call:FnAt K mg "answer_call" "answer_call" s_answer_call)
  (f_answers:FnAt K mg "answers" "answers" s_answers)
  (c_AIM_SIDE:CI mg "AIM_SIDE" (1))
  (c_AIM_THING:CI mg "AIM_THING" (2))
  (c_BESIDES:CI mg "BESIDES" (9))
  (c_COUNTERS:CI mg "COUNTERS" (3))
  (c_DAMAGE:CI mg "DAMAGE" (0))
  (c_DOES_NUMBERS:CI mg "DOES_NUMBERS" (5))
  (c_DRAW:CI mg "DRAW" (1))
  (c_ELSEWHERE:CI mg "ELSEWHERE" (10))
  (c_EVENT_NUMBERS:CI mg "EVENT_NUMBERS" (5))
  (c_FIELD:CI mg "FIELD" (0))
  (c_FIRST_LIFE:CI mg "FIRST_LIFE" (20))
  (c_FIRST_THING_TARGET:CI mg "FIRST_THING_TARGET" (11))
  (c_GAIN:CI mg "GAIN" (2))
  (c_HALF:CI mg "HALF" (3))
  (c_INSTEAD:CI mg "INSTEAD" (8))
  (c_LAST_KIND:CI mg "LAST_KIND" (5))
  (c_LAST_PLACE:CI mg "LAST_PLACE" (3))
  (c_LAST_THING_TARGET:CI mg "LAST_THING_TARGET" (26))
  (c_LESS:CI mg "LESS" (0))
  (c_MORE:CI mg "MORE" (1))
  (c_MOST_AMOUNT:CI mg "MOST_AMOUNT" (1000000))
  (c_MOST_EFFECTS:CI mg "MOST_EFFECTS" (12))
  (c_MOST_EVENTS:CI mg "MOST_EVENTS" (4))
  (c_MOST_MULTIPLYING_EFFECTS:CI mg "MOST_MULTIPLYING_EFFECTS" (5))
  (c_MOST_THINGS:CI mg "MOST_THINGS" (16))
  (c_MOVE:CI mg "MOVE" (5))
  (c_NOBODY_IS_ASKED:CI mg "NOBODY_IS_ASKED" (-7))
  (c_NOTHING:CI mg "NOTHING" (4))
  (c_NOT_OF_ITS_FORM:CI mg "NOT_OF_ITS_FORM" (-1))
  (c_NOT_THERE_OR_UNSUITED:CI mg "NOT_THERE_OR_UNSUITED" (-4))
  (c_NO_MAY_EFFECT:CI mg "NO_MAY_EFFECT" (-9))
  (c_NO_SUCH_EFFECT:CI mg "NO_SUCH_EFFECT" (-6))
  (c_OTHER_SIDE_IS_ASKED:CI mg "OTHER_SIDE_IS_ASKED" (-8))
  (c_SHIELD:CI mg "SHIELD" (5))
  (c_SOMEBODY_IS_ASKED:CI mg "SOMEBODY_IS_ASKED" (-2))
  (c_SOURCE_OFF_FIELD:CI mg "SOURCE_OFF_FIELD" (-5))
  (c_SPLIT:CI mg "SPLIT" (7))
  (c_TOO_MANY_OR_NONE:CI mg "TOO_MANY_OR_NONE" (-3))
  (c_TURN:CI mg "TURN" (6))
  (c_TWICE:CI mg "TWICE" (2))
  (c_WHOSE_OTHER_SIDE:CI mg "WHOSE_OTHER_SIDE" (2))
  (c_WHOSE_OWN_SIDE:CI mg "WHOSE_OWN_SIDE" (1))
  (b_all:mg "all"=none)
  (b_len:mg "len"=none)
  (b_list:mg "list"=none)
  (b_max:mg "max"=none)
  (b_min:mg "min"=none)
  (b_range:mg "range"=none)
  (b_zip:mg "zip"=none)
  (t_DEEDS:TupAt K mg "DEEDS" ["use_less","use_more","use_twice","use_half","use_nothing","use_shield","use_turn","use_split","use_instead","use_besides","use_elsewhere"])
  (t_FORMS:TupAt K mg "FORMS" ["is_thing_call","is_effect_call","has_one_number","is_batch_call","has_two_numbers","has_two_numbers","has_no_number","has_no_number","has_no_number","has_one_number","has_one_number","has_no_number","has_one_number","has_no_number","has_two_numbers"])
  (t_ANSWERERS:TupAt K mg "ANSWERERS" ["answer_thing","answer_effect","answer_stop","answer_batch","answer_choose","answer_decline","answer_rest","answer_undo","answer_ask","answer_side","answer_look","answer_effects","answer_book","answer_left","answer_own"])
  (t_THING_RANGES:RngAt K mg "THING_RANGES" thRs)
  (t_EFFECT_RANGES:RngAt K mg "EFFECT_RANGES" effRs) :
  ∃ fd:FuncData,(∀ (s:Shared) (us:List Value),us.length=(["calls"]:List Str).length→BindsTo s fd ⟨us,[]⟩ ((["calls"]:List Str).zip us))∧∀ base:Heap,K.In base→base.Ns mainGlobals mg→FnOk P w K mg base CX0 12 fa fd ["calls"] (spA K):=by
 refine zh0 ?_;simp (disch:=k_dflt (
 refine zh2 ?_
 obtain ⟨cSide,gSide,oSide,iSide,nSide_as_row⟩:=hSide
 obtain ⟨cThing,gThing,oThing,iThing,nThing_as_row⟩:=hThing
 obtain ⟨cBook,gBook,oBook,iBook,nBook_as_row,nBook_duplicate⟩:=hBook
 obtain ⟨cTable,gTable,oTable,iTable,nTable_has_thing,nTable_thing_numbered,nTable_effect_numbered,nTable_end_effect,nTable_has_target,nTable_has_source,nTable_on_field,nTable_befallen_side⟩:=hTable
 obtain ⟨cEffect,gEffect,oEffect,iEffect,nEffect_as_row,nEffect_duplicate⟩:=hEffect
 obtain ⟨cEvent,gEvent,oEvent,iEvent,nEvent_as_row,nEvent_mark⟩:=hEvent
 obtain ⟨cBatch,gBatch,oBatch,iBatch⟩:=hBatch
 obtain ⟨cReader,gReader,oReader,iReader,nReader_at_end,nReader_read_number,nReader_read_row,nReader_read_rows⟩:=hReader
 have T:Tx K (⟨cSide,cThing,cBook,cTable,cEffect,cEvent,cBatch,cReader⟩:Cl):=⟨oSide,oThing,oBook,oTable,oEffect,oEvent,oBatch,oReader⟩
 obtain ⟨a_DEEDS,dfs,g_DEEDS,dT,dl,dn⟩:=t_DEEDS
 obtain ⟨a_FORMS,ofs,g_FORMS,oT,ol,on⟩:=t_FORMS
 obtain ⟨a_ANSWERERS,wfs,g_ANSWERERS,wT,wl,wn⟩:=t_ANSWERERS
 obtain ⟨a_THING_RANGES,g_THING_RANGES,r_THING_RANGES⟩:=t_THING_RANGES
 obtain ⟨a_EFFECT_RANGES,g_EFFECT_RANGES,r_EFFECT_RANGES⟩:=t_EFFECT_RANGES
 obtain ⟨fA,fdA,gA,FA⟩:=f_answers
 have eA:fA=fa:=by
  rw [gA] at hfa
  cases hfa
  rfl
 subst eA
 obtain ⟨oc,od,kV,doc,pm,an,cdv,ct,osl,rfl,_,_⟩:=FA.ex
 refine ⟨PySem.W.fnOf "answers" "answers" (defArgs s_answers) (defBody s_answers) (defScope s_answers) .none kV doc pm an cdv ct,fun s us hu=>match us,hu with | [_],_=>.of_eq rfl,fun base _ _=>?_⟩
 have k_is_side:=FnAt.kn P w base f_is_side (by walk_at "b1") fun f fd F=>ok_is_side T F
 have k_thing_of:=FnAt.kn P w base f_thing_of (by walk_at "b1") fun f fd F=>ok_thing_of T F c_FIRST_THING_TARGET
 have m_Effect:=InitAt.kn P w base iEffect gEffect (by walk_at "b6") fun f fd F=>ok_Effect_init T F b_list
 have q_Effect_as_row:=MethAt.kn P w base mg nEffect_as_row oEffect (by walk_at "b1") fun f fd F=>ok_Effect_as_row T F
 have k_fits_whose:=FnAt.kn P w base f_fits_whose (by walk_at "b2") fun f fd F=>ok_fits_whose T F c_WHOSE_OWN_SIDE c_WHOSE_OTHER_SIDE
 have k_fits_sources:=FnAt.kn P w base f_fits_sources (by walk_at "b2") fun f fd F=>ok_fits_sources T F b_len
 have k_fits_own:=FnAt.kn P w base f_fits_own (by walk_at "b2") fun f fd F=>ok_fits_own T F
 have m_Event:=InitAt.kn P w base iEvent gEvent (by walk_at "b7") fun f fd F=>ok_Event_init T F
 have q_Event_as_row:=MethAt.kn P w base mg nEvent_as_row oEvent (by walk_at "b1") fun f fd F=>ok_Event_as_row T F
 have q_Event_mark:=MethAt.kn P w base mg nEvent_mark oEvent (by walk_at "b2") fun f fd F=>ok_Event_mark T F
 have k_set_amount:=FnAt.kn P w base f_set_amount (by walk_at "b3") fun f fd F=>ok_set_amount T F
 have k_put_behind:=FnAt.kn P w base f_put_behind (by walk_at "b2") fun f fd F=>ok_put_behind T F
 have k_use_turn:=FnAt.kn P w base f_use_turn (by walk_at "b3") fun f fd F=>ok_use_turn T F
 have k_use_elsewhere:=FnAt.kn P w base f_use_elsewhere (by walk_at "b3") fun f fd F=>ok_use_elsewhere T F
 have m_Batch:=InitAt.kn P w base iBatch gBatch (by walk_at "b4") fun f fd F=>ok_Batch_init T F
 have k_offered_effect:=FnAt.kn P w base f_offered_effect (by walk_at "b2") fun f fd F=>ok_offered_effect T F
 have k_events_left:=FnAt.kn P w base f_events_left (by walk_at "b1") fun f fd F=>ok_events_left T F
 have k_take_back:=FnAt.kn P w base f_take_back (by walk_at "b1") fun f fd F=>ok_take_back T F
 have k_happen_to_side:=FnAt.kn P w base f_happen_to_side (by walk_at "b2") fun f fd F=>ok_happen_to_side T F c_DAMAGE c_DRAW c_GAIN
 have k_happen_to_thing:=FnAt.kn P w base f_happen_to_thing (by walk_at "b2") fun f fd F=>ok_happen_to_thing T F c_MOVE c_FIELD c_COUNTERS
 have k_is_within:=FnAt.kn P w base f_is_within (by walk_at "b3") fun f fd F=>ok_is_within T F
 have k_are_zero:=FnAt.kn P w base f_are_zero (by walk_at "b1") fun f fd F=>ok_are_zero T F b_all
 have k_has_no_number:=FnAt.kn P w base f_has_no_number (by walk_at "b2") fun f fd F=>ok_has_no_number T F b_len
 have k_has_one_number:=FnAt.kn P w base f_has_one_number (by walk_at "b2") fun f fd F=>ok_has_one_number T F b_len
 have k_has_two_numbers:=FnAt.kn P w base f_has_two_numbers (by walk_at "b2") fun f fd F=>ok_has_two_numbers T F b_len
 have m_Side:=InitAt.kn P w base iSide gSide (by walk_at "b1") fun f fd F=>ok_Side_init T F c_FIRST_LIFE
 have q_Side_as_row:=MethAt.kn P w base mg nSide_as_row oSide (by walk_at "b1") fun f fd F=>ok_Side_as_row T F
 have m_Thing:=InitAt.kn P w base iThing gThing (by walk_at "b3") fun f fd F=>ok_Thing_init T F
 have q_Thing_as_row:=MethAt.kn P w base mg nThing_as_row oThing (by walk_at "b1") fun f fd F=>ok_Thing_as_row T F
 have m_Book:=InitAt.kn P w base iBook gBook (by walk_at "b1") fun f fd F=>ok_Book_init T F
 have q_Book_as_row:=MethAt.kn P w base mg nBook_as_row oBook (by walk_at "b1") fun f fd F=>ok_Book_as_row T F
 have q_Table_has_thing:=MethAt.kn P w base mg nTable_has_thing oTable (by walk_at "b2") fun f fd F=>ok_Table_has_thing T F b_len
 have q_Table_thing_numbered:=MethAt.kn P w base mg nTable_thing_numbered oTable (by walk_at "b2") fun f fd F=>ok_Table_thing_numbered T F
 have q_Table_effect_numbered:=MethAt.kn P w base mg nTable_effect_numbered oTable (by walk_at "b2") fun f fd F=>ok_Table_effect_numbered T F
 have q_Table_end_effect:=MethAt.kn P w base mg nTable_end_effect oTable (by walk_at "b2") fun f fd F=>ok_Table_end_effect T F
 have k_offered_numbers:=FnAt.kn P w base f_offered_numbers (by walk_at "b1") fun f fd F=>ok_offered_numbers T F
 have k_is_multiplying:=FnAt.kn P w base f_is_multiplying (by walk_at "b1") fun f fd F=>ok_is_multiplying T F c_BESIDES c_SPLIT
 have m_Reader:=InitAt.kn P w base iReader gReader (by walk_at "b2") fun f fd F=>ok_Reader_init T F
 have q_Reader_at_end:=MethAt.kn P w base mg nReader_at_end oReader (by walk_at "b1") fun f fd F=>ok_Reader_at_end T F b_len
 have q_Reader_read_number:=MethAt.kn P w base mg nReader_read_number oReader (by walk_at "b1") fun f fd F=>ok_Reader_read_number T F
 have k_is_target:=FnAt.kn P w base f_is_target (by walk_at "b1") fun f fd F=>ok_is_target T F c_FIRST_THING_TARGET c_LAST_THING_TARGET k_is_side
 have k_suits:=FnAt.kn P w base f_suits (by walk_at "b2") fun f fd F=>ok_suits T F c_DAMAGE c_MOVE c_COUNTERS k_is_side
 have k_fits_aim:=FnAt.kn P w base f_fits_aim (by walk_at "b2") fun f fd F=>ok_fits_aim T F c_AIM_SIDE k_is_side c_AIM_THING
 have k_fits_things:=FnAt.kn P w base f_fits_things (by walk_at "b2") fun f fd F=>ok_fits_things T F b_len k_thing_of k_is_side
 have k_use_less:=FnAt.kn P w base f_use_less (by walk_at "b3") fun f fd F=>ok_use_less T F k_set_amount b_max
 have k_use_more:=FnAt.kn P w base f_use_more (by walk_at "b3") fun f fd F=>ok_use_more T F k_set_amount
 have k_use_twice:=FnAt.kn P w base f_use_twice (by walk_at "b3") fun f fd F=>ok_use_twice T F k_set_amount
 have k_use_half:=FnAt.kn P w base f_use_half (by walk_at "b3") fun f fd F=>ok_use_half T F k_set_amount
 have k_use_nothing:=FnAt.kn P w base f_use_nothing (by walk_at "b3") fun f fd F=>ok_use_nothing T F k_set_amount
 have k_use_shield:=FnAt.kn P w base f_use_shield (by walk_at "b3") fun f fd F=>ok_use_shield T F b_min k_set_amount
 have k_wear:=FnAt.kn P w base f_wear (by walk_at "b2") fun f fd F=>ok_wear T F c_SHIELD q_Table_end_effect
 have k_are_in_ranges:=FnAt.kn P w base f_are_in_ranges (by walk_at "b2") fun f fd F=>ok_are_in_ranges T F b_len b_zip k_is_within
 have k_is_row_of_things:=FnAt.kn P w base f_is_row_of_things (by walk_at "b1") fun f fd F=>ok_is_row_of_things T F b_all k_is_within c_MOST_THINGS b_len
 have q_Table_has_target:=MethAt.kn P w base mg nTable_has_target oTable (by walk_at "b2") fun f fd F=>ok_Table_has_target T F q_Table_has_thing k_thing_of k_is_side
 have q_Table_has_source:=MethAt.kn P w base mg nTable_has_source oTable (by walk_at "b2") fun f fd F=>ok_Table_has_source T F q_Table_has_thing
 have q_Table_on_field:=MethAt.kn P w base mg nTable_on_field oTable (by walk_at "b2") fun f fd F=>ok_Table_on_field T F q_Table_thing_numbered c_FIELD
 have q_Table_befallen_side:=MethAt.kn P w base mg nTable_befallen_side oTable (by walk_at "b2") fun f fd F=>ok_Table_befallen_side T F k_is_side q_Table_thing_numbered k_thing_of
 have k_has_room_for_effect:=FnAt.kn P w base f_has_room_for_effect (by walk_at "b2") fun f fd F=>ok_has_room_for_effect T F b_len c_MOST_EFFECTS k_is_multiplying c_MOST_MULTIPLYING_EFFECTS
 have k_answer_stop:=FnAt.kn P w base f_answer_stop (by walk_at "b3") fun f fd F=>ok_answer_stop T F c_SOMEBODY_IS_ASKED q_Table_effect_numbered c_NO_SUCH_EFFECT q_Table_end_effect
 have k_answer_undo:=FnAt.kn P w base f_answer_undo (by walk_at "b3") fun f fd F=>ok_answer_undo T F c_NOBODY_IS_ASKED k_take_back
 have k_answer_side:=FnAt.kn P w base f_answer_side (by walk_at "b3") fun f fd F=>ok_answer_side T F k_is_side c_NOT_THERE_OR_UNSUITED q_Side_as_row
 have k_answer_look:=FnAt.kn P w base f_answer_look (by walk_at "b3") fun f fd F=>ok_answer_look T F q_Table_has_thing c_NOT_THERE_OR_UNSUITED q_Thing_as_row q_Table_thing_numbered
 have k_answer_book:=FnAt.kn P w base f_answer_book (by walk_at "b3") fun f fd F=>ok_answer_book T F c_LAST_KIND c_NOT_THERE_OR_UNSUITED q_Book_as_row
 have k_one_behind_another:=FnAt.kn P w base f_one_behind_another (by walk_at "b1") fun f fd F=>ok_one_behind_another T F q_Effect_as_row q_Event_as_row
 have k_answer_own:=FnAt.kn P w base f_answer_own (by walk_at "b3") fun f fd F=>ok_answer_own T F c_SOMEBODY_IS_ASKED k_is_side q_Table_has_thing c_NOT_THERE_OR_UNSUITED q_Table_thing_numbered
 have q_Reader_read_row:=MethAt.kn P w base mg nReader_read_row oReader (by walk_at "b1") fun f fd F=>ok_Reader_read_row T F q_Reader_read_number
 have q_Effect_duplicate:=MethAt.kn P w base mg nEffect_duplicate oEffect (by walk_at "b1") fun f fd F=>ok_Effect_duplicate T F m_Effect
 have k_fits:=FnAt.kn P w base f_fits (by walk_at "b3") fun f fd F=>ok_fits T F k_fits_own k_fits_sources k_fits_things k_fits_whose k_fits_aim
 have k_use_split:=FnAt.kn P w base f_use_split (by walk_at "b3") fun f fd F=>ok_use_split T F k_put_behind m_Event
 have k_make_event:=FnAt.kn P w base f_make_event (by walk_at "b3") fun f fd F=>ok_make_event T F c_MOVE k_put_behind m_Event
 have k_asked_side:=FnAt.kn P w base f_asked_side (by walk_at "b1") fun f fd F=>ok_asked_side T F q_Table_befallen_side
 have k_finish:=FnAt.kn P w base f_finish (by walk_at "b1") fun f fd F=>ok_finish T F k_is_side k_happen_to_side k_happen_to_thing q_Table_thing_numbered k_thing_of q_Table_on_field
 have k_is_thing_call:=FnAt.kn P w base f_is_thing_call (by walk_at "b2") fun f fd F=>ok_is_thing_call T F b_len k_are_in_ranges g_THING_RANGES r_THING_RANGES
 have k_is_event_row:=FnAt.kn P w base f_is_event_row (by walk_at "b1") fun f fd F=>ok_is_event_row T F k_is_within c_LAST_KIND b_len c_EVENT_NUMBERS k_is_target c_MOST_THINGS c_MOVE c_LAST_PLACE c_MOST_AMOUNT
 have k_is_made_event:=FnAt.kn P w base f_is_made_event (by walk_at "b4") fun f fd F=>ok_is_made_event T F k_is_target k_is_within c_LAST_KIND c_MOVE c_LAST_PLACE c_MOST_AMOUNT
 have q_Book_duplicate:=MethAt.kn P w base mg nBook_duplicate oBook (by walk_at "b1") fun f fd F=>ok_Book_duplicate T F m_Book
 have m_Table:=InitAt.kn P w base iTable gTable (by walk_at "b1") fun f fd F=>ok_Table_init T F m_Side b_range c_LAST_KIND m_Book
 have k_answer_thing:=FnAt.kn P w base f_answer_thing (by walk_at "b3") fun f fd F=>ok_answer_thing T F c_SOMEBODY_IS_ASKED b_len c_MOST_THINGS c_TOO_MANY_OR_NONE m_Thing
 have k_is_possible_target:=FnAt.kn P w base f_is_possible_target (by walk_at "b3") fun f fd F=>ok_is_possible_target T F k_suits q_Table_has_target
 have k_answer_effects:=FnAt.kn P w base f_answer_effects (by walk_at "b3") fun f fd F=>ok_answer_effects T F k_one_behind_another
 have k_answer_left:=FnAt.kn P w base f_answer_left (by walk_at "b3") fun f fd F=>ok_answer_left T F k_one_behind_another k_events_left
 have q_Reader_read_rows:=MethAt.kn P w base mg nReader_read_rows oReader (by walk_at "b1") fun f fd F=>ok_Reader_read_rows T F b_range q_Reader_read_number q_Reader_read_row
 have k_offered_effects:=FnAt.kn P w base f_offered_effects (by walk_at "b2") fun f fd F=>ok_offered_effects T F q_Table_befallen_side k_fits b_len
 have k_use_instead:=FnAt.kn P w base f_use_instead (by walk_at "b3") fun f fd F=>ok_use_instead T F k_make_event
 have k_use_besides:=FnAt.kn P w base f_use_besides (by walk_at "b3") fun f fd F=>ok_use_besides T F k_make_event
 have k_is_batch_call:=FnAt.kn P w base f_is_batch_call (by walk_at "b2") fun f fd F=>ok_is_batch_call T F b_all k_is_event_row b_len
 have k_is_does_row:=FnAt.kn P w base f_is_does_row (by walk_at "b1") fun f fd F=>ok_is_does_row T F b_len c_DOES_NUMBERS c_BESIDES c_INSTEAD k_is_made_event c_NOTHING c_HALF c_TWICE k_are_zero c_SHIELD c_MORE c_LESS k_is_within c_MOST_AMOUNT c_SPLIT c_TURN k_is_target c_LAST_PLACE c_ELSEWHERE
 have k_how_it_stands:=FnAt.kn P w base f_how_it_stands (by walk_at "b1") fun f fd F=>ok_how_it_stands T F k_asked_side k_offered_numbers
 have k_is_for_kind:=FnAt.kn P w base f_is_for_kind (by walk_at "b3") fun f fd F=>ok_is_for_kind T F c_NOTHING c_BESIDES c_INSTEAD k_is_possible_target c_MOVE c_ELSEWHERE c_SPLIT c_TURN c_SHIELD
 have k_choice_refusal:=FnAt.kn P w base f_choice_refusal (by walk_at "b3") fun f fd F=>ok_choice_refusal T F c_NOBODY_IS_ASKED k_offered_effect c_NO_SUCH_EFFECT k_asked_side c_OTHER_SIDE_IS_ASKED
 have k_answer_ask:=FnAt.kn P w base f_answer_ask (by walk_at "b3") fun f fd F=>ok_answer_ask T F k_offered_numbers b_len k_asked_side q_Event_as_row
 have dF:∀ (i:Nat) fa,dfs[i]?=some fa→KnF P w K mg base fa 4 (sp_deed i (⟨cSide,cThing,cBook,cTable,cEffect,cEvent,cBatch,cReader⟩:Cl)):=by
  intro i fa hi
  have hlt:i < 11:=by
   have:=(List.getElem?_eq_some_iff.mp hi).1
   rw [dl] at this
   exact this
  match i,hlt,hi with
  | 0,_,hi=>exact Kn.at_ k_use_less (dn 0 _ _ rfl hi) (by decide)
  | 1,_,hi=>exact Kn.at_ k_use_more (dn 1 _ _ rfl hi) (by decide)
  | 2,_,hi=>exact Kn.at_ k_use_twice (dn 2 _ _ rfl hi) (by decide)
  | 3,_,hi=>exact Kn.at_ k_use_half (dn 3 _ _ rfl hi) (by decide)
  | 4,_,hi=>exact Kn.at_ k_use_nothing (dn 4 _ _ rfl hi) (by decide)
  | 5,_,hi=>exact Kn.at_ k_use_shield (dn 5 _ _ rfl hi) (by decide)
  | 6,_,hi=>exact Kn.at_ k_use_turn (dn 6 _ _ rfl hi) (by decide)
  | 7,_,hi=>exact Kn.at_ k_use_split (dn 7 _ _ rfl hi) (by decide)
  | 8,_,hi=>exact Kn.at_ k_use_instead (dn 8 _ _ rfl hi) (by decide)
  | 9,_,hi=>exact Kn.at_ k_use_besides (dn 9 _ _ rfl hi) (by decide)
  | 10,_,hi=>exact Kn.at_ k_use_elsewhere (dn 10 _ _ rfl hi) (by decide)
  | i + 11,hlt,_=>exact absurd hlt (by omega)
 have k_use:=FnAt.kn P w base f_use (by walk_at "b2") fun f fd F=>ok_use T F q_Event_mark g_DEEDS k_wear dT dl dF
 have k_is_effect_call:=FnAt.kn P w base f_is_effect_call (by walk_at "b2") fun f fd F=>ok_is_effect_call T F k_is_does_row k_is_row_of_things b_len k_are_in_ranges g_EFFECT_RANGES r_EFFECT_RANGES
 have k_answer_effect:=FnAt.kn P w base f_answer_effect (by walk_at "b3") fun f fd F=>ok_answer_effect T F c_SOMEBODY_IS_ASKED k_has_room_for_effect c_TOO_MANY_OR_NONE b_all q_Table_has_thing q_Table_has_source c_NOT_THERE_OR_UNSUITED k_is_for_kind q_Table_on_field c_SOURCE_OFF_FIELD m_Effect
 have k_look_at_first:=FnAt.kn P w base f_look_at_first (by walk_at "b2") fun f fd F=>ok_look_at_first T F k_offered_effects b_len k_use
 have oF:∀ (i:Nat) fa,ofs[i]?=some fa→KnF P w K mg base fa 5 (sp_formOf (formB i)):=by
  intro i fa hi
  have hlt:i < 15:=by
   have:=(List.getElem?_eq_some_iff.mp hi).1
   rw [ol] at this
   exact this
  match i,hlt,hi with
  | 0,_,hi=>exact Kn.at_ k_is_thing_call (on 0 _ _ rfl hi) (by decide)
  | 1,_,hi=>exact Kn.at_ k_is_effect_call (on 1 _ _ rfl hi) (by decide)
  | 2,_,hi=>exact Kn.at_ k_has_one_number (on 2 _ _ rfl hi) (by decide)
  | 3,_,hi=>exact Kn.at_ k_is_batch_call (on 3 _ _ rfl hi) (by decide)
  | 4,_,hi=>exact Kn.at_ k_has_two_numbers (on 4 _ _ rfl hi) (by decide)
  | 5,_,hi=>exact Kn.at_ k_has_two_numbers (on 5 _ _ rfl hi) (by decide)
  | 6,_,hi=>exact Kn.at_ k_has_no_number (on 6 _ _ rfl hi) (by decide)
  | 7,_,hi=>exact Kn.at_ k_has_no_number (on 7 _ _ rfl hi) (by decide)
  | 8,_,hi=>exact Kn.at_ k_has_no_number (on 8 _ _ rfl hi) (by decide)
  | 9,_,hi=>exact Kn.at_ k_has_one_number (on 9 _ _ rfl hi) (by decide)
  | 10,_,hi=>exact Kn.at_ k_has_one_number (on 10 _ _ rfl hi) (by decide)
  | 11,_,hi=>exact Kn.at_ k_has_no_number (on 11 _ _ rfl hi) (by decide)
  | 12,_,hi=>exact Kn.at_ k_has_one_number (on 12 _ _ rfl hi) (by decide)
  | 13,_,hi=>exact Kn.at_ k_has_no_number (on 13 _ _ rfl hi) (by decide)
  | 14,_,hi=>exact Kn.at_ k_has_two_numbers (on 14 _ _ rfl hi) (by decide)
  | i + 15,hlt,_=>exact absurd hlt (by omega)
 have k_is_of_its_form:=FnAt.kn P w base f_is_of_its_form (by walk_at "b3") fun f fd F=>ok_is_of_its_form T F b_len g_FORMS oT ol oF
 have k_go_on:=FnAt.kn P w base f_go_on (by walk_at "b1") fun f fd F=>ok_go_on T F b_len k_look_at_first k_finish
 have k_begin:=FnAt.kn P w base f_begin (by walk_at "b2") fun f fd F=>ok_begin T F q_Effect_duplicate q_Book_duplicate m_Batch k_go_on
 have k_choose:=FnAt.kn P w base f_choose (by walk_at "b2") fun f fd F=>ok_choose T F k_use k_go_on
 have k_decline:=FnAt.kn P w base f_decline (by walk_at "b2") fun f fd F=>ok_decline T F q_Event_mark k_go_on
 have k_choose_to_the_end:=FnAt.kn P w base f_choose_to_the_end (by walk_at "b1") fun f fd F=>ok_choose_to_the_end T F k_choose
 have k_answer_batch:=FnAt.kn P w base f_answer_batch (by walk_at "b3") fun f fd F=>ok_answer_batch T F c_SOMEBODY_IS_ASKED b_len c_MOST_EVENTS c_TOO_MANY_OR_NONE k_is_possible_target q_Table_has_source c_NOT_THERE_OR_UNSUITED k_begin m_Event k_how_it_stands
 have k_answer_choose:=FnAt.kn P w base f_answer_choose (by walk_at "b3") fun f fd F=>ok_answer_choose T F k_choice_refusal k_choose k_offered_effect k_how_it_stands
 have k_answer_decline:=FnAt.kn P w base f_answer_decline (by walk_at "b3") fun f fd F=>ok_answer_decline T F k_choice_refusal k_offered_effect c_NO_MAY_EFFECT k_decline k_how_it_stands
 have k_answer_rest:=FnAt.kn P w base f_answer_rest (by walk_at "b3") fun f fd F=>ok_answer_rest T F c_NOBODY_IS_ASKED k_choose_to_the_end k_how_it_stands
 have wF:∀ (i:Nat) fa,wfs[i]?=some fa→KnF P w K mg base fa 10 (sp_ans (⟨cSide,cThing,cBook,cTable,cEffect,cEvent,cBatch,cReader⟩:Cl) (formB i) (callF i)):=by
  intro i fa hi
  have hlt:i < 15:=by
   have:=(List.getElem?_eq_some_iff.mp hi).1
   rw [wl] at this
   exact this
  match i,hlt,hi with
  | 0,_,hi=>exact Kn.at_ k_answer_thing (wn 0 _ _ rfl hi) (by decide)
  | 1,_,hi=>exact Kn.at_ k_answer_effect (wn 1 _ _ rfl hi) (by decide)
  | 2,_,hi=>exact Kn.at_ k_answer_stop (wn 2 _ _ rfl hi) (by decide)
  | 3,_,hi=>exact Kn.at_ k_answer_batch (wn 3 _ _ rfl hi) (by decide)
  | 4,_,hi=>exact Kn.at_ k_answer_choose (wn 4 _ _ rfl hi) (by decide)
  | 5,_,hi=>exact Kn.at_ k_answer_decline (wn 5 _ _ rfl hi) (by decide)
  | 6,_,hi=>exact Kn.at_ k_answer_rest (wn 6 _ _ rfl hi) (by decide)
  | 7,_,hi=>exact Kn.at_ k_answer_undo (wn 7 _ _ rfl hi) (by decide)
  | 8,_,hi=>exact Kn.at_ k_answer_ask (wn 8 _ _ rfl hi) (by decide)
  | 9,_,hi=>exact Kn.at_ k_answer_side (wn 9 _ _ rfl hi) (by decide)
  | 10,_,hi=>exact Kn.at_ k_answer_look (wn 10 _ _ rfl hi) (by decide)
  | 11,_,hi=>exact Kn.at_ k_answer_effects (wn 11 _ _ rfl hi) (by decide)
  | 12,_,hi=>exact Kn.at_ k_answer_book (wn 12 _ _ rfl hi) (by decide)
  | 13,_,hi=>exact Kn.at_ k_answer_left (wn 13 _ _ rfl hi) (by decide)
  | 14,_,hi=>exact Kn.at_ k_answer_own (wn 14 _ _ rfl hi) (by decide)
  | i + 15,hlt,_=>exact absurd hlt (by omega)
 have k_answer_call:=FnAt.kn P w base f_answer_call (by walk_at "b4") fun f fd F=>ok_answer_call T F k_is_of_its_form c_NOT_OF_ITS_FORM g_ANSWERERS wT wl wF
 exact ok_answers T FA m_Table m_Reader q_Reader_at_end q_Reader_read_number q_Reader_read_row q_Reader_read_rows k_answer_call b_len)) only [↓zh1]
end
end Du
open PySem PySem.W PyProof.Rows
local macro_rules | `(tactic| walk_at "fn")=>`(tactic| (refine' Du.fnAt_mk KX G ?zaz ?zlz ?zcz ?zkz;(case zaz=>k_is);(case zlz=>k_is);(case zcz=>k_is);(case zkz=>k_is)))
local macro_rules | `(tactic| walk_at "ci")=>`(tactic| (refine' Du.ci_mk KX G ?zaz;(case zaz=>k_is)))
local macro_rules | `(tactic| walk_at "bi")=>`(tactic| (refine' PySem.W.mg_none_of KX G ?zaz;(case zaz=>k_is)))
namespace PySem.W.Fast
def tw8892079837717812491:=True
def tw3309448300967570531:=True
def tw12507832513725679630:=True
def tw4154087896245809187:=True
def tw14649648644247438507:=True
def tw10651357670341197451:=True
def tw18038498165708327052:=True
def tw9015932921113021668:=True
def tw11763019665773269813:=True
def tw13548694196682618020:=True
def tw1579989525723334977:=True
def tw6261743140321508423:=True
def tw7468139817498565947:=True
def tw11755035306072253413:=True
def tw11891822008175763846:=True
def tw1684290056962165081:=True
def tw15779846883008512478:=True
def tw12971949231041063463:=True
def tw1314231882864780270:=True
def tw160387356681421741:=True
def tw18381840587932711240:=True
def tw6310611459303377678:=True
def tw16657051844346770217:=True
def tw6510786131280757973:=True
def tw3358883230839129133:=True
def tw12676732021694093125:=True
def tw2524854103843049830:=True
def tw10347320732456827782:=True
def tw5972544310635290772:=True
def tw12541139705728564949:=True
def tw7910610515332494503:=True
def tw15715799777587309443:=True
def tw7410943215360726400:=True
def tw17428352371110093102:=True
def tw14069087510094495727:=True
def tw13316634959210860983:=True
def tw17941146518611377768:=True
def tw15696767741652536895:=True
def tw13868418049887376832:=True
def tw11857381289388399942:=True
def tw16089696666930815298:=True
def tw7440474426282937021:=True
def tw18354912150083894047:=True
def tw1227205562887940294:=True
def tw8798837667221188593:=True
def tw3812689585153863456:=True
def tw8379669762418493741:=True
def tw1081179267958113209:=True
def tw13203654848250210744:=True
def tw4064867878918651583:=True
def tw10927761215631586995:=True
def tw4559217854770823955:=True
def tw6593368470975794971:=True
def tw10156133038663587466:=True
def tw7335677608168437094:=True
def tw10967662175328948335:=True
def tw8036833650704624096:=True
def tw11218848058247596936:=True
def tw13145967391894810554:=True
def tw1756793553408972324:=True
def tw7222773127661594821:=True
def tw11214887307270861072:=True
def tw18346929757951279156:=True
def tw5549182671221993506:=True
def tw6904037100952665642:=True
def tw12618171485033508069:=True
def tw4382554498749241011:=True
def tw14208617343272442593:=True
def tw6975400113491796742:=True
def tw16048691116796719089:=True
def tw1276625856219920048:=True
def tw14902853701434843694:=True
def tw7810553437244314209:=True
def tw4372996437109038684:=True
def tw12653897056630588023:=True
def tw16975233588322152275:=True
def tw12123951613888709327:=True
def tw14264448678831861914:=True
def tw5728750589557745144:=True
def tw3730939624713737449:=True
def tw3418498383946912784:=True
def tw14961429830264203263:=True
def tw11555064225083749466:=True
def tw18300839821030497069:=True
def tw14510502172905050941:=True
def tw10892383520431090595:=True
def tw13335207760316974764:=True
def tw12106104022477512402:=True
def tw8927966302099669262:=True
def tw10139167596906270689:=True
def tw7319810476629184157:=True
def tw9547988907485658828:=True
def tw18793078497302498:=True
def tw7407576782158926525:=True
def tw13181318056941483661:=True
def tw11521491602124456490:=True
def tw6712967230227859281:=True
def tw12708983169596176544:=True
def tw16753792691572234782:=True
def tw11377541068796781245:=True
def tw9879076067724929301:=True
def tw8343331174128794233:=True
def tw4652769930391590443:=True
def tw16275118760537112679:=True
def tw4133616112833056913:=True
def tw2117603415203298282:=True
def tw13129777950825023506:=True
def tw15912496516708792011:=True
def tw6123048609964438396:=True
def tw16203369029662625202:=True
def tw5072727112232978757:=True
def tw2426590488477274866:=True
def tw7013338984599654973:=True
def tw11448796756716348120:=True
def tw2136061857869710270:=True
def tw13022118326046040869:=True
def tw292672589949146032:=True
def tw1742991881969227416:=True
def tw16778628106228111218:=True
def tw3368017240148174013:=True
def tw3528125236518173007:=True
def tw4684726618605954631:=True
def tw16869962208799905549:=True
def tw14763246738837915586:=True
def tw18051272107025433115:=True
def tw2184388312520276057:=True
def tw3446797869592196472:=True
def tw636429658654016948:=True
def tw17438662458966427009:=True
def tw16810810075027390369:=True
def tw11594353685364915039:=True
def tw4786661446593944679:=True
def tw8640466992560825281:=True
def tw6662515602024347229:=True
def tw10121841900326257361:=True
def tw1950348597033128320:=True
def tw11889490677530957107:=True
def tw16063980483883425315:=True
def tw9179996347166585328:=True
def tw1896810690809740163:=True
def tw1219172709488695366:=True
def tw4300741817231195783:=True
def tw7613348548303765410:=True
def tw3771867829564297467:=True
def tw11674239196140349678:=True
def tw1372151953229178422:=True
def tw8689147435800425848:=True
def tw5721735379087538958:=True
def tw18029266858192732928:=True
def tw4758346035527778471:=True
def tw14008258974448993152:=True
def tw390016633437847265:=True
def tw5575490524571074225:=True
def tw7513713681033271415:=True
def tw6701861992971814270:=True
def tw16679681409118304092:=True
def tw11749954006284323582:=True
def tw2943632811747898994:=True
def tw17913983525693046446:=True
def tw12296794643582102649:=True
def tw2319332378541697394:=True
def tw18391214224082291283:=True
def tw14602181589797450516:=True
def tw6430541930781559401:=True
def tw2377646547995259856:=True
def tw10377448825848547838:=True
def tw12964633389594467931:=True
def tw17436127517667014523:=True
def tw2434108157986475538:=True
def tw12320831319613168279:=True
def tw9563622571723742612:=True
def tw5079060600495743298:=True
def tw17774776500952592661:=True
def tw2005360546925952890:=True
def tw12338949943496468152:=True
def tw11258308243192275466:=True
def tw13005420575912752650:=True
def tw14199838600960300881:=True
def tw6458825179244013041:=True
def tw7042247489604978699:=True
def tw7003147147225478766:=True
def tw890621212985363345:=True
def tw6929675753133745523:=True
def tw2999750474054547509:=True
def tw18297115192407091703:=True
def tw6076581371334693451:=True
def tw17867284800854820129:=True
def tw13394649269898008447:=True
def tw7610041677143599166:=True
def tw6286786168750713618:=True
def tw5852273713166971167:=True
def tw8660853501099322844:=True
def tw9630166045698250785:=True
def tw6501208868355878380:=True
def tw12428144230675478380:=True
def tw12008693857647623072:=True
def tw5579238049288994139:=True
def tw11207157548676785105:=True
def tw12071217401988646012:=True
def tw9071912083808749725:=True
def tw17027679724181240885:=True
def tw11536219804454495396:=True
def tw5442798249988216812:=True
def tw11515333434181243082:=True
def tw5701688997876453348:=True
def tw2117153509951856963:=True
def tw2490701838937937930:=True
def tw4662308688303680140:=True
def tw10929380048298031194:=True
def tw13598700141479304806:=True
def tw11820465573774363410:=True
def tw11465548784884084616:=True
def tw6022633865110854914:=True
def tw11927038439672523877:=True
def tw16877595236409423820:=True
def tw1049952490712926247:=True
def tw16996189138200642991:=True
def tw5931984670939862788:=True
def tw1332091317446135751:=True
def tw14911456648501784114:=True
def tw17369219831117814798:=True
def tw6674515947807919183:=True
def tw5219496555857125505:=True
def tw2018750193979743415:=True
def tw14358353557745860743:=True
def tw2491298563284163772:=True
def tw13608365132386100369:=True
def tw13358661584938766575:=True
def tw1906899965927489538:=True
def tw15244122104779823537:=True
def tw7425165932096840886:=True
def tw11378862170965361599:=True
def tw2846031894275344520:=True
def tw13908585047544602442:=True
def tw7733883572285205159:=True
def tw8137610021555633349:=True
def tw13312447314744750981:=True
def tw12744219844930560460:=True
def tw15318777429871204277:=True
def tw2091818354431712991:=True
def tw15742542032202507548:=True
def tw8470146464780863717:=True
def tw1386474716144675286:=True
def tw12613724044939741945:=True
def tw3409289849399922610:=True
def tw10699307825569820073:=True
def tw16305064827618954863:=True
def tw18086188291986536638:=True
def tw17521394454696885865:=True
def tw563865206562658017:=True
def tw9192921643004808368:=True
def tw1627776623186380351:=True
def tw8646820067641489849:=True
def tw17700093380225005383:=True
def tw16947737591713569340:=True
def tw1142802801370022937:=True
def tw18348007884943321473:=True
def tw4555234659785451323:=True
def tw9348021645094632176:=True
def tw4276239375804009601:=True
def tw15917449097198836270:=True
def tw5104575278966496670:=True
def tw7337137411122329119:=True
def tw2813196824528895185:=True
def tw8328197437752666506:=True
def tw4987096654385327538:=True
def tw5619268228324164515:=True
def tw13395416257057208207:=True
def tw7490318391538809189:=True
def tw16739682519875182492:=True
def tw7332453198150548025:=True
def tw14700283078171646774:=True
def tw18192936493934161758:=True
def tw16376203768276217505:=True
def tw9056453160602933810:=True
def tw14789967181762640818:=True
def tw6963272632040177536:=True
def tw11064044192712167657:=True
def tw6189365525630214854:=True
def tw15132417637499591402:=True
def tw17129081601850878055:=True
def tw17878560853793980243:=True
def tw7327693508397982256:=True
def tw7261615559541624407:=True
def tw1720372710544227360:=True
def tw3746155378605831671:=True
def tw9370995925142375891:=True
def tw14336331774337638567:=True
def tw10682927736834109605:=True
def tw5433659609625044304:=True
def tw4972320559955074818:=True
def tw7897842783836442408:=True
def tw3896245562209089149:=True
def tw29061591692110245:=True
def tw2817385916846341877:=True
def tw14892215337178143541:=True
def tw293897643291089153:=True
def tw14647738906562202229:=True
def tw3133334755150935738:=True
def tw8699941283462607251:=True
def tw13152259303266033398:=True
def tw1064873106757371534:=True
def tw3336961720042161862:=True
def tw2781842825727695775:=True
def tw11880493141666097444:=True
def tw6893077613350364835:=True
def tw15115524109552656266:=True
def tw2226400187479058322:=True
def tw657728511083176233:=True
def tw9011620011939447605:=True
def tw8928207113709602986:=True
def tw11470322391309882388:=True
def tw5439119121620773125:=True
def tw5788231171624326221:=True
def tw3774852021217135392:=True
def tw9883323077562737571:=True
def tw4272864688029704068:=True
def tw10487116314640138558:=True
def tw11580288179647230780:=True
def tw17683717934142538269:=True
def tw13438308226775582435:=True
def tw14224323960784646477:=True
def tw13990211398185087418:=True
def tw17433094801042627526:=True
def tw420507069564308795:=True
def tw18258359667269824544:=True
def tw9970890367517239134:=True
def tw18123372788038521801:=True
def tw2259048866931539223:=True
def tw12375784756270001593:=True
def tw12564626518403018556:=True
def tw13295251175147390027:=True
def tw4379889553538723411:=True
def tw1558722164613518784:=True
def tw2082942606251158843:=True
def tw7102116490099991624:=True
def tw13636784098996764867:=True
def tw14490162413875397719:=True
def tw6111052566385056457:=True
def tw4202295784897503950:=True
def tw14514286503223020623:=True
def tw11711761648175094830:=True
def tw3737003202421786169:=True
def tw11918535435176210973:=True
def tw4953088857245439166:=True
def tw3809853227280768768:=True
def tw434349630043378831:=True
def tw17015856069136506304:=True
def tw13255000220756996304:=True
def tw1608680448472418090:=True
def tw14913287576481144853:=True
def tw3393589300809827461:=True
def tw17035397535201708578:=True
def tw9299927909142326758:=True
def tw13307751297991141210:=True
def tw18254199827581552535:=True
def tw6168232674080246055:=True
def tw5508056408213240260:=True
def tw14351347719317752053:=True
def tw4477199009457912325:=True
def tw10284918928396178476:=True
def tw5748602330130361048:=True
def tw13654467350761690251:=True
def tw473077033576811874:=True
def tw14138736953571504516:=True
def tw3580265105192774403:=True
def tw14503415408115868592:=True
def tw14014740225053816943:=True
def tw9121711684989136130:=True
def tw3592465797574062082:=True
def tw5979259291107169150:=True
def tw16783993116723556315:=True
def tw14809185843479272563:=True
def tw15927790282826657735:=True
def tw3014998966701073276:=True
def tw8749314791541096487:=True
def tw10352830822635656080:=True
def tw18215198599082752793:=True
def tw16684047402169058690:=True
def tw1823698406561582178:=True
def tw16725507901985741925:=True
def tw12053462409433235630:=True
def tw15270153781807267846:=True
def tw10667477639533762597:=True
def tw6203543508962185784:=True
def tw10277594218890640815:=True
def tw1579681338870868549:=True
def tw9180304819817624775:=True
def tw3009029575629619341:=True
def tw3770356677886651220:=True
def tw4819727988579607926:=True
def tw2519760194217529022:=True
def tw5723617979621497596:=True
def tw5234877669815882028:=True
def tw13959262965047704906:=True
def tw9372704170015672249:=True
def tw12358586453975531312:=True
def tw6865529793361503241:=True
def tw7525925431113690135:=True
def tw4541935984903631311:=True
def tw12878367923184576628:=True
def tw2882022365866230635:=True
def tw12781785962619887280:=True
def tw15758452645286477825:=True
def tw17410955463131129784:=True
def tw2977538035704590888:=True
def tw4352623467020539724:=True
def tw12077659952832511355:=True
def tw10819520225350921806:=True
def tw9822484730332232399:=True
def tw13340376027553422249:=True
def tw14887448449061362519:=True
def tw15299467377161136108:=True
def tw9822320292317655836:=True
def tw14689281194481120718:=True
def tw16349164456966216229:=True
def tw12233857242337909341:=True
def tw15204361402125284607:=True
def tw5493518540871912187:=True
def tw9678653323953830507:=True
def tw11570878800121303376:=True
def tw4578569285421967534:=True
def tw9421206797058772503:=True
def tw6422674119889887317:=True
def tw5336500618119689600:=True
def tw3148039036129940313:=True
def tw7867496367645839279:=True
def tw9374725771497924964:=True
def tw13666063207432174157:=True
def tw11807779049268213744:=True
def tw820444535736420080:=True
def tw13733681810042645770:=True
def tw13101217738158232435:=True
def tw14521044908255962321:=True
def tw12386842771795836025:=True
def tw5261307722481126454:=True
def tw3977454040884693700:=True
def tw7728484457803730552:=True
def tw9252327767038161207:=True
def tw3240054602278851956:=True
def tw13946660978415696355:=True
def tw7568783410162182092:=True
def tw5761019377224016981:=True
def tw12080230488753467070:=True
def tw12354369128126459439:=True
def tw17382577256389965958:=True
def tw12993070747020096126:=True
def tw4213642052301284714:=True
def tw12001254232952735474:=True
def tw7630251292944246385:=True
def tw10708832381726546525:=True
def tw14604073543586615712:=True
def tw15099690820445226737:=True
def tw4672284920124283602:=True
def tw3284359701856990192:=True
def tw13393757755322285023:=True
def tw10857333368983074148:=True
def tw13001103317033268422:=True
def tw16104201346300439307:=True
def tw14233163580373758769:=True
def tw17951206563037684336:=True
def tw5683586625622878986:=True
def tw1045523011655721423:=True
def tw10037595464100593042:=True
def tw12103677233437736495:=True
def tw17219261490523821017:=True
def tw18387670397438697256:=True
def tw1377405775477726642:=True
def tw818188613871422043:=True
def tw8703708275412913787:=True
def tw6854392754741651152:=True
def tw12599047287319120256:=True
def tw1504284824563305452:=True
def tw9318957998571224644:=True
def tw18286967819204774110:=True
def tw821849800058284295:=True
def tw12041436484931972345:=True
def tw1457386937088956671:=True
def tw9262407318212035510:=True
def tw17267870479224257683:=True
def tw4196403700156792563:=True
def tw17590503672048904111:=True
def tw8760673602087320466:=True
def tw16153893333477785304:=True
def tw6756450241085752464:=True
def tw9421872891730137466:=True
def tw8401875948547384241:=True
def tw14058283404355019764:=True
def tw13190886550254519990:=True
def tw8142043873491178192:=True
def tw16452675358695062284:=True
def tw11124448909525397203:=True
def tw8254411521395616191:=True
def tw13659080522988510624:=True
def tw1508860103046286978:=True
def tw13276199264224717814:=True
def tw7340564619824905581:=True
def tw4278665060314625461:=True
def tw13511549829032628814:=True
def tw17166466638044075721:=True
def tw2314558528405431723:=True
def tw15433081460599967652:=True
def tw17033429735221885689:=True
def tw2569396457179995687:=True
def tw6026622839935905519:=True
def tw8075863990748416014:=True
def tw5241739378714376614:=True
def tw5195697109909834212:=True
def tw16114625389223920228:=True
def tw14670502682681348222:=True
def tw15652644622796852598:=True
def tw7077589397895871318:=True
def tw696538261808578401:=True
def tw984012975656543983:=True
def tw5946714706765541172:=True
def tw10823823441220901279:=True
def tw17873051968850816674:=True
def tw13424459749201849618:=True
def tw10834260755690398730:=True
def tw2964247278802478433:=True
def tw12754660084020918603:=True
def tw15711138618776418026:=True
def tw7592733055432478061:=True
def tw7011802658973612829:=True
def tw9174290288371557430:=True
def tw10701055257813677751:=True
def tw11618693579202903826:=True
def tw12109226775227295430:=True
def tw18092796248477855830:=True
def tw202707452107762824:=True
def tw7889271140948412145:=True
def tw1967120572106968803:=True
def tw2757590294897796037:=True
def tw1660858158348558033:=True
def tw5230828471027129090:=True
def tw17846511259278069879:=True
def tw1016354378179977336:=True
def tw5568360723116293122:=True
def tw18144541619726926793:=True
def tw10096459062300667603:=True
def tw10058571866649189992:=True
def tw8883166453419097607:=True
def tw4050127417161784562:=True
def tw5663313637408284216:=True
def tw2075514245849775291:=True
def tw16667134934801505598:=True
def tw8203381136057677792:=True
def tw16071451120650442774:=True
def tw6842833281569166060:=True
def tw13266819129663207299:=True
def tw13796359582304916908:=True
def tw10479839664485453485:=True
def tw8070408563158453696:=True
def tw16498957547456433199:=True
def tw2157748997548043596:=True
def tw12731529378162110950:=True
def tw12909289982642347542:=True
def tw6477246337931533392:=True
def tw18036930068220711667:=True
def tw5544254365226057298:=True
def tw1991788597152826323:=True
def tw3987299829725985953:=True
def tw1041534425046626505:=True
def tw16173320783034691418:=True
def tw10241851083072579771:=True
def tw9523426656953468614:=True
def tw17009536698776092312:=True
def tw18217440921892955635:=True
def tw5220690092804412040:=True
def tw9998943724137260952:=True
def tw1481252346056962296:=True
def tw12833322851446402507:=True
def tw4043851495009671878:=True
def tw4724235976591378024:=True
def tw13954658689881132017:=True
def tw3343262519540784248:=True
def tw8632395839348116497:=True
def tw3105844319304816685:=True
def tw745394677870990488:=True
def tw10624354316265124001:=True
def tw8076542887294410051:=True
def tw11096610006619549201:=True
def tw3328443224365777545:=True
def tw13185619661483888693:=True
def tw10096775209086040536:=True
def tw7216109383705145429:=True
def tw2793638840508615293:=True
def tw13830525925633539740:=True
def tw6477072867633235597:=True
def tw3363914749788554452:=True
def tw13584783110827102454:=True
def tw13678913710547685532:=True
def tw7584273411885327264:=True
def tw1604142370926667484:=True
def tw6377425401327695363:=True
def tw13940695572761319298:=True
def tw1050879782680081923:=True
def tw9167375170890790051:=True
def tw7158155613454293922:=True
def tw9964359690259375585:=True
def tw2931434029668952273:=True
def tw15148799680328005924:=True
def tw10222923112034353345:=True
def tw825035310098486571:=True
def tw16419647195071859039:=True
def tw6755939122553529239:=True
def tw4588653147717344059:=True
def tw11543365134182224420:=True
def tw16999566935598800528:=True
def tw10476989106060787919:=True
def tw6760002735407414034:=True
def tw17822442065311742468:=True
def tw3702879701429713847:=True
def tw18020562344909835577:=True
def tw13874717290241559392:=True
def tw9205896525193804258:=True
def tw928907712773523051:=True
def tw6027653814134954236:=True
def tw11183550148063995822:=True
def tw7562639905250531734:=True
def tw4471337396333712158:=True
def tw7203732062689011322:=True
def tw7612331092755892326:=True
def tw2102502897211860196:=True
def tw5924554905893415373:=True
def tw17954699920804341660:=True
def tw16379629563157798987:=True
def tw5033564924110818116:=True
def tw3590821761406886706:=True
def tw12840216686646134276:=True
def tw16221082092202693823:=True
def tw3991526892024450748:=True
def tw18083176538564175530:=True
def tw3487019388849745539:=True
def tw11635882108139413392:=True
def tw3523372933102628265:=True
def tw3009975209651551843:=True
def tw9068566058941486983:=True
def tw14696764645966979308:=True
def tw13626510863373297554:=True
def tw13233064026641251209:=True
def tw605508549160187715:=True
def tw8349306868021833221:=True
def tw6327033907319656376:=True
def tw12818980397089546214:=True
def tw13919058881813847805:=True
def tw10948834535731013495:=True
def tw16465166992293194802:=True
def tw13335954525272509649:=True
def tw3575130943989154084:=True
end PySem.W.Fast
set_option maxRecDepth 100000 in
set_option maxHeartbeats 0 in
theorem PySem.Challenge.cw_duelevents_s01_answers_holds : PySem.Challenge.rw_duelevents_s01_answers.Holds := by
 refine zh0 ?_;simp (disch:=k_dflt (
 refine zh2 ?_
 w_on;k_headS;(case hw=>exact ⟨[.list [.int 6,.int 0,.int 0]],by decide +kernel,by decide +kernel⟩)
 k_fillS
 refine L2.walk_specK (r:=PySem.Challenge.rw_duelevents_s01_answers) (k:=12) (CX:=L2.CX0) (ps:=["calls"]) (sp:=Du.spA) (by decide +kernel) rfl rfl ⟨rfl,by decide,by decide⟩ (fun w h Y=>PySem.W.kIn_of Y) ?F ?S (fun _ _ _ _ z=>z)
 case F =>
  intro w mg fa h Y KX G hmg
  clear Y
  refine' Du.all_ok hmg ?hSide ?hThing ?hBook ?hTable ?hEffect ?hEvent ?hBatch ?hReader ?f_is_side ?f_thing_of ?f_fits_whose ?f_fits_sources ?f_fits_own ?f_set_amount ?f_put_behind ?f_use_turn ?f_use_elsewhere ?f_offered_effect ?f_events_left ?f_take_back ?f_happen_to_side ?f_happen_to_thing ?f_is_within ?f_are_zero ?f_has_no_number ?f_has_one_number ?f_has_two_numbers ?f_offered_numbers ?f_is_multiplying ?f_is_target ?f_suits ?f_fits_aim ?f_fits_things ?f_use_less ?f_use_more ?f_use_twice ?f_use_half ?f_use_nothing ?f_use_shield ?f_wear ?f_are_in_ranges ?f_is_row_of_things ?f_has_room_for_effect ?f_answer_stop ?f_answer_undo ?f_answer_side ?f_answer_look ?f_answer_book ?f_one_behind_another ?f_answer_own ?f_fits ?f_use_split ?f_make_event ?f_asked_side ?f_finish ?f_is_thing_call ?f_is_event_row ?f_is_made_event ?f_answer_thing ?f_is_possible_target ?f_answer_effects ?f_answer_left ?f_offered_effects ?f_use_instead ?f_use_besides ?f_is_batch_call ?f_is_does_row ?f_how_it_stands ?f_is_for_kind ?f_choice_refusal ?f_answer_ask ?f_use ?f_is_effect_call ?f_answer_effect ?f_look_at_first ?f_is_of_its_form ?f_go_on ?f_begin ?f_choose ?f_decline ?f_choose_to_the_end ?f_answer_batch ?f_answer_choose ?f_answer_decline ?f_answer_rest ?f_answer_call ?f_answers ?c_AIM_SIDE ?c_AIM_THING ?c_BESIDES ?c_COUNTERS ?c_DAMAGE ?c_DOES_NUMBERS ?c_DRAW ?c_ELSEWHERE ?c_EVENT_NUMBERS ?c_FIELD ?c_FIRST_LIFE ?c_FIRST_THING_TARGET ?c_GAIN ?c_HALF ?c_INSTEAD ?c_LAST_KIND ?c_LAST_PLACE ?c_LAST_THING_TARGET ?c_LESS ?c_MORE ?c_MOST_AMOUNT ?c_MOST_EFFECTS ?c_MOST_EVENTS ?c_MOST_MULTIPLYING_EFFECTS ?c_MOST_THINGS ?c_MOVE ?c_NOBODY_IS_ASKED ?c_NOTHING ?c_NOT_OF_ITS_FORM ?c_NOT_THERE_OR_UNSUITED ?c_NO_MAY_EFFECT ?c_NO_SUCH_EFFECT ?c_OTHER_SIDE_IS_ASKED ?c_SHIELD ?c_SOMEBODY_IS_ASKED ?c_SOURCE_OFF_FIELD ?c_SPLIT ?c_TOO_MANY_OR_NONE ?c_TURN ?c_TWICE ?c_WHOSE_OTHER_SIDE ?c_WHOSE_OWN_SIDE ?b_all ?b_len ?b_list ?b_max ?b_min ?b_range ?b_zip ?t_DEEDS ?t_FORMS ?t_ANSWERERS ?t_THING_RANGES ?t_EFFECT_RANGES
  case hSide =>
   refine' ⟨_,PySem.W.mg_of KX G ?a,⟨⟨?pg,?hd,?po,?sa⟩,(Du.na_cons ?n0 (Du.na_cons ?n1 (Du.na_cons ?n2 Du.na_nil)))⟩,Du.initAt_mk ?mk ?ia ?ii ?kc ?il ?icd ?ik,Du.methAt_mk ?ma0 ?mi0 ?ml0 ?mc0 ?mk0⟩
   (case a=>k_is);(case pg=>k_is);(case hd=>k_is);(case po=>k_is);(case sa=>k_is);(case n0=>k_is);(case n1=>k_is);(case n2=>k_is);(case mk=>k_is);(case ia=>k_is);(case ii=>k_is);(case kc=>k_is);(case il=>k_is);(case icd=>k_is);(case ik=>k_is);(case ma0=>k_is);(case mi0=>k_is);(case ml0=>k_is);(case mc0=>k_is);(case mk0=>k_is)
  case hThing =>
   refine' ⟨_,PySem.W.mg_of KX G ?a,⟨⟨?pg,?hd,?po,?sa⟩,(Du.na_cons ?n0 (Du.na_cons ?n1 (Du.na_cons ?n2 (Du.na_cons ?n3 Du.na_nil))))⟩,Du.initAt_mk ?mk ?ia ?ii ?kc ?il ?icd ?ik,Du.methAt_mk ?ma0 ?mi0 ?ml0 ?mc0 ?mk0⟩
   (case a=>k_is);(case pg=>k_is);(case hd=>k_is);(case po=>k_is);(case sa=>k_is);(case n0=>k_is);(case n1=>k_is);(case n2=>k_is);(case n3=>k_is);(case mk=>k_is);(case ia=>k_is);(case ii=>k_is);(case kc=>k_is);(case il=>k_is);(case icd=>k_is);(case ik=>k_is);(case ma0=>k_is);(case mi0=>k_is);(case ml0=>k_is);(case mc0=>k_is);(case mk0=>k_is)
  case hBook =>
   refine' ⟨_,PySem.W.mg_of KX G ?a,⟨⟨?pg,?hd,?po,?sa⟩,(Du.na_cons ?n0 (Du.na_cons ?n1 (Du.na_cons ?n2 (Du.na_cons ?n3 (Du.na_cons ?n4 (Du.na_cons ?n5 Du.na_nil))))))⟩,Du.initAt_mk ?mk ?ia ?ii ?kc ?il ?icd ?ik,Du.methAt_mk ?ma0 ?mi0 ?ml0 ?mc0 ?mk0,Du.methAt_mk ?ma1 ?mi1 ?ml1 ?mc1 ?mk1⟩
   (case a=>k_is);(case pg=>k_is);(case hd=>k_is);(case po=>k_is);(case sa=>k_is);(case n0=>k_is);(case n1=>k_is);(case n2=>k_is);(case n3=>k_is);(case n4=>k_is);(case n5=>k_is);(case mk=>k_is);(case ia=>k_is);(case ii=>k_is);(case kc=>k_is);(case il=>k_is);(case icd=>k_is);(case ik=>k_is);(case ma0=>k_is);(case mi0=>k_is);(case ml0=>k_is);(case mc0=>k_is);(case mk0=>k_is);(case ma1=>k_is);(case mi1=>k_is);(case ml1=>k_is);(case mc1=>k_is);(case mk1=>k_is)
  case hTable =>
   refine' ⟨_,PySem.W.mg_of KX G ?a,⟨⟨?pg,?hd,?po,?sa⟩,(Du.na_cons ?n0 (Du.na_cons ?n1 (Du.na_cons ?n2 (Du.na_cons ?n3 (Du.na_cons ?n4 (Du.na_cons ?n5 Du.na_nil))))))⟩,Du.initAt_mk ?mk ?ia ?ii ?kc ?il ?icd ?ik,Du.methAt_mk ?ma0 ?mi0 ?ml0 ?mc0 ?mk0,Du.methAt_mk ?ma1 ?mi1 ?ml1 ?mc1 ?mk1,Du.methAt_mk ?ma2 ?mi2 ?ml2 ?mc2 ?mk2,Du.methAt_mk ?ma3 ?mi3 ?ml3 ?mc3 ?mk3,Du.methAt_mk ?ma4 ?mi4 ?ml4 ?mc4 ?mk4,Du.methAt_mk ?ma5 ?mi5 ?ml5 ?mc5 ?mk5,Du.methAt_mk ?ma6 ?mi6 ?ml6 ?mc6 ?mk6,Du.methAt_mk ?ma7 ?mi7 ?ml7 ?mc7 ?mk7⟩
   (case a=>k_is);(case pg=>k_is);(case hd=>k_is);(case po=>k_is);(case sa=>k_is);(case n0=>k_is);(case n1=>k_is);(case n2=>k_is);(case n3=>k_is);(case n4=>k_is);(case n5=>k_is);(case mk=>k_is);(case ia=>k_is);(case ii=>k_is);(case kc=>k_is);(case il=>k_is);(case icd=>k_is);(case ik=>k_is);(case ma0=>k_is);(case mi0=>k_is);(case ml0=>k_is);(case mc0=>k_is);(case mk0=>k_is);(case ma1=>k_is);(case mi1=>k_is);(case ml1=>k_is);(case mc1=>k_is);(case mk1=>k_is);(case ma2=>k_is);(case mi2=>k_is);(case ml2=>k_is);(case mc2=>k_is);(case mk2=>k_is);(case ma3=>k_is);(case mi3=>k_is);(case ml3=>k_is);(case mc3=>k_is);(case mk3=>k_is);(case ma4=>k_is);(case mi4=>k_is);(case ml4=>k_is);(case mc4=>k_is);(case mk4=>k_is);(case ma5=>k_is);(case mi5=>k_is);(case ml5=>k_is);(case mc5=>k_is);(case mk5=>k_is);(case ma6=>k_is);(case mi6=>k_is);(case ml6=>k_is);(case mc6=>k_is);(case mk6=>k_is);(case ma7=>k_is);(case mi7=>k_is);(case ml7=>k_is);(case mc7=>k_is);(case mk7=>k_is)
  case hEffect =>
   refine' ⟨_,PySem.W.mg_of KX G ?a,⟨⟨?pg,?hd,?po,?sa⟩,(Du.na_cons ?n0 (Du.na_cons ?n1 (Du.na_cons ?n2 (Du.na_cons ?n3 (Du.na_cons ?n4 (Du.na_cons ?n5 (Du.na_cons ?n6 (Du.na_cons ?n7 (Du.na_cons ?n8 (Du.na_cons ?n9 (Du.na_cons ?n10 (Du.na_cons ?n11 Du.na_nil))))))))))))⟩,Du.initAt_mk ?mk ?ia ?ii ?kc ?il ?icd ?ik,Du.methAt_mk ?ma0 ?mi0 ?ml0 ?mc0 ?mk0,Du.methAt_mk ?ma1 ?mi1 ?ml1 ?mc1 ?mk1⟩
   (case a=>k_is);(case pg=>k_is);(case hd=>k_is);(case po=>k_is);(case sa=>k_is);(case n0=>k_is);(case n1=>k_is);(case n2=>k_is);(case n3=>k_is);(case n4=>k_is);(case n5=>k_is);(case n6=>k_is);(case n7=>k_is);(case n8=>k_is);(case n9=>k_is);(case n10=>k_is);(case n11=>k_is);(case mk=>k_is);(case ia=>k_is);(case ii=>k_is);(case kc=>k_is);(case il=>k_is);(case icd=>k_is);(case ik=>k_is);(case ma0=>k_is);(case mi0=>k_is);(case ml0=>k_is);(case mc0=>k_is);(case mk0=>k_is);(case ma1=>k_is);(case mi1=>k_is);(case ml1=>k_is);(case mc1=>k_is);(case mk1=>k_is)
  case hEvent =>
   refine' ⟨_,PySem.W.mg_of KX G ?a,⟨⟨?pg,?hd,?po,?sa⟩,(Du.na_cons ?n0 (Du.na_cons ?n1 (Du.na_cons ?n2 (Du.na_cons ?n3 (Du.na_cons ?n4 (Du.na_cons ?n5 Du.na_nil))))))⟩,Du.initAt_mk ?mk ?ia ?ii ?kc ?il ?icd ?ik,Du.methAt_mk ?ma0 ?mi0 ?ml0 ?mc0 ?mk0,Du.methAt_mk ?ma1 ?mi1 ?ml1 ?mc1 ?mk1⟩
   (case a=>k_is);(case pg=>k_is);(case hd=>k_is);(case po=>k_is);(case sa=>k_is);(case n0=>k_is);(case n1=>k_is);(case n2=>k_is);(case n3=>k_is);(case n4=>k_is);(case n5=>k_is);(case mk=>k_is);(case ia=>k_is);(case ii=>k_is);(case kc=>k_is);(case il=>k_is);(case icd=>k_is);(case ik=>k_is);(case ma0=>k_is);(case mi0=>k_is);(case ml0=>k_is);(case mc0=>k_is);(case mk0=>k_is);(case ma1=>k_is);(case mi1=>k_is);(case ml1=>k_is);(case mc1=>k_is);(case mk1=>k_is)
  case hBatch =>
   refine' ⟨_,PySem.W.mg_of KX G ?a,⟨⟨?pg,?hd,?po,?sa⟩,(Du.na_cons ?n0 (Du.na_cons ?n1 (Du.na_cons ?n2 (Du.na_cons ?n3 (Du.na_cons ?n4 Du.na_nil)))))⟩,Du.initAt_mk ?mk ?ia ?ii ?kc ?il ?icd ?ik⟩
   (case a=>k_is);(case pg=>k_is);(case hd=>k_is);(case po=>k_is);(case sa=>k_is);(case n0=>k_is);(case n1=>k_is);(case n2=>k_is);(case n3=>k_is);(case n4=>k_is);(case mk=>k_is);(case ia=>k_is);(case ii=>k_is);(case kc=>k_is);(case il=>k_is);(case icd=>k_is);(case ik=>k_is)
  case hReader =>
   refine' ⟨_,PySem.W.mg_of KX G ?a,⟨⟨?pg,?hd,?po,?sa⟩,(Du.na_cons ?n0 (Du.na_cons ?n1 Du.na_nil))⟩,Du.initAt_mk ?mk ?ia ?ii ?kc ?il ?icd ?ik,Du.methAt_mk ?ma0 ?mi0 ?ml0 ?mc0 ?mk0,Du.methAt_mk ?ma1 ?mi1 ?ml1 ?mc1 ?mk1,Du.methAt_mk ?ma2 ?mi2 ?ml2 ?mc2 ?mk2,Du.methAt_mk ?ma3 ?mi3 ?ml3 ?mc3 ?mk3⟩
   (case a=>k_is);(case pg=>k_is);(case hd=>k_is);(case po=>k_is);(case sa=>k_is);(case n0=>k_is);(case n1=>k_is);(case mk=>k_is);(case ia=>k_is);(case ii=>k_is);(case kc=>k_is);(case il=>k_is);(case icd=>k_is);(case ik=>k_is);(case ma0=>k_is);(case mi0=>k_is);(case ml0=>k_is);(case mc0=>k_is);(case mk0=>k_is);(case ma1=>k_is);(case mi1=>k_is);(case ml1=>k_is);(case mc1=>k_is);(case mk1=>k_is);(case ma2=>k_is);(case mi2=>k_is);(case ml2=>k_is);(case mc2=>k_is);(case mk2=>k_is);(case ma3=>k_is);(case mi3=>k_is);(case ml3=>k_is);(case mc3=>k_is);(case mk3=>k_is)
  case f_is_side=>walk_at "fn"
  case f_thing_of=>walk_at "fn"
  case f_fits_whose=>walk_at "fn"
  case f_fits_sources=>walk_at "fn"
  case f_fits_own=>walk_at "fn"
  case f_set_amount=>walk_at "fn"
  case f_put_behind=>walk_at "fn"
  case f_use_turn=>walk_at "fn"
  case f_use_elsewhere=>walk_at "fn"
  case f_offered_effect=>walk_at "fn"
  case f_events_left=>walk_at "fn"
  case f_take_back=>walk_at "fn"
  case f_happen_to_side=>walk_at "fn"
  case f_happen_to_thing=>walk_at "fn"
  case f_is_within=>walk_at "fn"
  case f_are_zero=>walk_at "fn"
  case f_has_no_number=>walk_at "fn"
  case f_has_one_number=>walk_at "fn"
  case f_has_two_numbers=>walk_at "fn"
  case f_offered_numbers=>walk_at "fn"
  case f_is_multiplying=>walk_at "fn"
  case f_is_target=>walk_at "fn"
  case f_suits=>walk_at "fn"
  case f_fits_aim=>walk_at "fn"
  case f_fits_things=>walk_at "fn"
  case f_use_less=>walk_at "fn"
  case f_use_more=>walk_at "fn"
  case f_use_twice=>walk_at "fn"
  case f_use_half=>walk_at "fn"
  case f_use_nothing=>walk_at "fn"
  case f_use_shield=>walk_at "fn"
  case f_wear=>walk_at "fn"
  case f_are_in_ranges=>walk_at "fn"
  case f_is_row_of_things=>walk_at "fn"
  case f_has_room_for_effect=>walk_at "fn"
  case f_answer_stop=>walk_at "fn"
  case f_answer_undo=>walk_at "fn"
  case f_answer_side=>walk_at "fn"
  case f_answer_look=>walk_at "fn"
  case f_answer_book=>walk_at "fn"
  case f_one_behind_another=>walk_at "fn"
  case f_answer_own=>walk_at "fn"
  case f_fits=>walk_at "fn"
  case f_use_split=>walk_at "fn"
  case f_make_event=>walk_at "fn"
  case f_asked_side=>walk_at "fn"
  case f_finish=>walk_at "fn"
  case f_is_thing_call=>walk_at "fn"
  case f_is_event_row=>walk_at "fn"
  case f_is_made_event=>walk_at "fn"
  case f_answer_thing=>walk_at "fn"
  case f_is_possible_target=>walk_at "fn"
  case f_answer_effects=>walk_at "fn"
  case f_answer_left=>walk_at "fn"
  case f_offered_effects=>walk_at "fn"
  case f_use_instead=>walk_at "fn"
  case f_use_besides=>walk_at "fn"
  case f_is_batch_call=>walk_at "fn"
  case f_is_does_row=>walk_at "fn"
  case f_how_it_stands=>walk_at "fn"
  case f_is_for_kind=>walk_at "fn"
  case f_choice_refusal=>walk_at "fn"
  case f_answer_ask=>walk_at "fn"
  case f_use=>walk_at "fn"
  case f_is_effect_call=>walk_at "fn"
  case f_answer_effect=>walk_at "fn"
  case f_look_at_first=>walk_at "fn"
  case f_is_of_its_form=>walk_at "fn"
  case f_go_on=>walk_at "fn"
  case f_begin=>walk_at "fn"
  case f_choose=>walk_at "fn"
  case f_decline=>walk_at "fn"
  case f_choose_to_the_end=>walk_at "fn"
  case f_answer_batch=>walk_at "fn"
  case f_answer_choose=>walk_at "fn"
  case f_answer_decline=>walk_at "fn"
  case f_answer_rest=>walk_at "fn"
  case f_answer_call=>walk_at "fn"
  case f_answers=>walk_at "fn"
  case c_AIM_SIDE=>walk_at "ci"
  case c_AIM_THING=>walk_at "ci"
  case c_BESIDES=>walk_at "ci"
  case c_COUNTERS=>walk_at "ci"
  case c_DAMAGE=>walk_at "ci"
  case c_DOES_NUMBERS=>walk_at "ci"
  case c_DRAW=>walk_at "ci"
  case c_ELSEWHERE=>walk_at "ci"
  case c_EVENT_NUMBERS=>walk_at "ci"
  case c_FIELD=>walk_at "ci"
  case c_FIRST_LIFE=>walk_at "ci"
  case c_FIRST_THING_TARGET=>walk_at "ci"
  case c_GAIN=>walk_at "ci"
  case c_HALF=>walk_at "ci"
  case c_INSTEAD=>walk_at "ci"
  case c_LAST_KIND=>walk_at "ci"
  case c_LAST_PLACE=>walk_at "ci"
  case c_LAST_THING_TARGET=>walk_at "ci"
  case c_LESS=>walk_at "ci"
  case c_MORE=>walk_at "ci"
  case c_MOST_AMOUNT=>walk_at "ci"
  case c_MOST_EFFECTS=>walk_at "ci"
  case c_MOST_EVENTS=>walk_at "ci"
  case c_MOST_MULTIPLYING_EFFECTS=>walk_at "ci"
  case c_MOST_THINGS=>walk_at "ci"
  case c_MOVE=>walk_at "ci"
  case c_NOBODY_IS_ASKED=>walk_at "ci"
  case c_NOTHING=>walk_at "ci"
  case c_NOT_OF_ITS_FORM=>walk_at "ci"
  case c_NOT_THERE_OR_UNSUITED=>walk_at "ci"
  case c_NO_MAY_EFFECT=>walk_at "ci"
  case c_NO_SUCH_EFFECT=>walk_at "ci"
  case c_OTHER_SIDE_IS_ASKED=>walk_at "ci"
  case c_SHIELD=>walk_at "ci"
  case c_SOMEBODY_IS_ASKED=>walk_at "ci"
  case c_SOURCE_OFF_FIELD=>walk_at "ci"
  case c_SPLIT=>walk_at "ci"
  case c_TOO_MANY_OR_NONE=>walk_at "ci"
  case c_TURN=>walk_at "ci"
  case c_TWICE=>walk_at "ci"
  case c_WHOSE_OTHER_SIDE=>walk_at "ci"
  case c_WHOSE_OWN_SIDE=>walk_at "ci"
  case b_all=>walk_at "bi"
  case b_len=>walk_at "bi"
  case b_list=>walk_at "bi"
  case b_max=>walk_at "bi"
  case b_min=>walk_at "bi"
  case b_range=>walk_at "bi"
  case b_zip=>walk_at "bi"
  case t_DEEDS =>
   refine' Du.tupAt_mk KX G ?g ?l ?hz ?v (.cons ?p0 (.cons ?p1 (.cons ?p2 (.cons ?p3 (.cons ?p4 (.cons ?p5 (.cons ?p6 (.cons ?p7 (.cons ?p8 (.cons ?p9 (.cons ?p10 .nil)))))))))))
   (case g=>k_is)
   (case l=>k_is)
   (case hz=>decide)
   (case p0=>k_is)
   (case p1=>k_is)
   (case p2=>k_is)
   (case p3=>k_is)
   (case p4=>k_is)
   (case p5=>k_is)
   (case p6=>k_is)
   (case p7=>k_is)
   (case p8=>k_is)
   (case p9=>k_is)
   (case p10=>k_is)
   (case v=>exact (.cons rfl (.cons rfl (.cons rfl (.cons rfl (.cons rfl (.cons rfl (.cons rfl (.cons rfl (.cons rfl (.cons rfl (.cons rfl .nil))))))))))))
  case t_FORMS =>
   refine' Du.tupAt_mk KX G ?g ?l ?hz ?v (.cons ?p0 (.cons ?p1 (.cons ?p2 (.cons ?p3 (.cons ?p4 (.cons ?p5 (.cons ?p6 (.cons ?p7 (.cons ?p8 (.cons ?p9 (.cons ?p10 (.cons ?p11 (.cons ?p12 (.cons ?p13 (.cons ?p14 .nil)))))))))))))))
   (case g=>k_is)
   (case l=>k_is)
   (case hz=>decide)
   (case p0=>k_is)
   (case p1=>k_is)
   (case p2=>k_is)
   (case p3=>k_is)
   (case p4=>k_is)
   (case p5=>k_is)
   (case p6=>k_is)
   (case p7=>k_is)
   (case p8=>k_is)
   (case p9=>k_is)
   (case p10=>k_is)
   (case p11=>k_is)
   (case p12=>k_is)
   (case p13=>k_is)
   (case p14=>k_is)
   (case v=>exact (.cons rfl (.cons rfl (.cons rfl (.cons rfl (.cons rfl (.cons rfl (.cons rfl (.cons rfl (.cons rfl (.cons rfl (.cons rfl (.cons rfl (.cons rfl (.cons rfl (.cons rfl .nil))))))))))))))))
  case t_ANSWERERS =>
   refine' Du.tupAt_mk KX G ?g ?l ?hz ?v (.cons ?p0 (.cons ?p1 (.cons ?p2 (.cons ?p3 (.cons ?p4 (.cons ?p5 (.cons ?p6 (.cons ?p7 (.cons ?p8 (.cons ?p9 (.cons ?p10 (.cons ?p11 (.cons ?p12 (.cons ?p13 (.cons ?p14 .nil)))))))))))))))
   (case g=>k_is)
   (case l=>k_is)
   (case hz=>decide)
   (case p0=>k_is)
   (case p1=>k_is)
   (case p2=>k_is)
   (case p3=>k_is)
   (case p4=>k_is)
   (case p5=>k_is)
   (case p6=>k_is)
   (case p7=>k_is)
   (case p8=>k_is)
   (case p9=>k_is)
   (case p10=>k_is)
   (case p11=>k_is)
   (case p12=>k_is)
   (case p13=>k_is)
   (case p14=>k_is)
   (case v=>exact (.cons rfl (.cons rfl (.cons rfl (.cons rfl (.cons rfl (.cons rfl (.cons rfl (.cons rfl (.cons rfl (.cons rfl (.cons rfl (.cons rfl (.cons rfl (.cons rfl (.cons rfl .nil))))))))))))))))
  case t_THING_RANGES =>
   refine' Du.rngAt_mk KX G ?g ?l ?hz ?v (.cons (Du.sqT_of ?l0 ?z0 ?v0) (.cons (Du.sqT_of ?l1 ?z1 ?v1) .nil))
   (case g=>k_is)
   (case l=>k_is)
   (case hz=>decide)
   (case v=>exact (.cons rfl (.cons rfl .nil)))
   (case l0=>k_is);(case z0=>decide);(case v0=>exact .cons ⟨_,rfl⟩ (.cons ⟨_,rfl⟩ .nil))
   (case l1=>k_is);(case z1=>decide);(case v1=>exact .cons ⟨_,rfl⟩ (.cons ⟨_,rfl⟩ .nil))
  case t_EFFECT_RANGES =>
   refine' Du.rngAt_mk KX G ?g ?l ?hz ?v (.cons (Du.sqT_of ?l0 ?z0 ?v0) (.cons (Du.sqT_of ?l1 ?z1 ?v1) (.cons (Du.sqT_of ?l2 ?z2 ?v2) (.cons (Du.sqT_of ?l3 ?z3 ?v3) (.cons (Du.sqT_of ?l4 ?z4 ?v4) (.cons (Du.sqT_of ?l5 ?z5 ?v5) (.cons (Du.sqT_of ?l6 ?z6 ?v6) (.cons (Du.sqT_of ?l7 ?z7 ?v7) .nil))))))))
   (case g=>k_is)
   (case l=>k_is)
   (case hz=>decide)
   (case v=>exact (.cons rfl (.cons rfl (.cons rfl (.cons rfl (.cons rfl (.cons rfl (.cons rfl (.cons rfl .nil)))))))))
   (case l0=>k_is);(case z0=>decide);(case v0=>exact .cons ⟨_,rfl⟩ (.cons ⟨_,rfl⟩ .nil))
   (case l1=>k_is);(case z1=>decide);(case v1=>exact .cons ⟨_,rfl⟩ (.cons ⟨_,rfl⟩ .nil))
   (case l2=>k_is);(case z2=>decide);(case v2=>exact .cons ⟨_,rfl⟩ (.cons ⟨_,rfl⟩ .nil))
   (case l3=>k_is);(case z3=>decide);(case v3=>exact .cons ⟨_,rfl⟩ (.cons ⟨_,rfl⟩ .nil))
   (case l4=>k_is);(case z4=>decide);(case v4=>exact .cons ⟨_,rfl⟩ (.cons ⟨_,rfl⟩ .nil))
   (case l5=>k_is);(case z5=>decide);(case v5=>exact .cons ⟨_,rfl⟩ (.cons ⟨_,rfl⟩ .nil))
   (case l6=>k_is);(case z6=>decide);(case v6=>exact .cons ⟨_,rfl⟩ (.cons ⟨_,rfl⟩ .nil))
   (case l7=>k_is);(case z7=>decide);(case v7=>exact .cons ⟨_,rfl⟩ (.cons ⟨_,rfl⟩ .nil))
 case S =>
  intro K H xs a hO hwi hask hx
  cases hx with
  | cons h1 h2 =>
   cases h2
   cases h1 with
   | lst hs ha =>
    have e:=L2.ints_dw a.1 _ ha
    subst e
    exact ⟨_,a.1,rfl,hs,hask,fun H' p hp=>.lst (L2.SqL.of hp) (L2.dw_ints _)⟩)) only [↓zh1]
