import PyProof.Rows.All
import Wide.All
import OpenK.AllK
import Wide.FinOn
import Lean
import PyProof.EqAt
import PyProof.EqKinds
import PyProof.TupleCall
import PySem.Challenge.RW_powerrests_k45_whole_evens_less_odds_are
set_option Elab.async false
set_option linter.all false
set_option maxRecDepth 100000
namespace L2
open PySem PySem.Spec PyProof.Rows
noncomputable abbrev Key:=Sum Int Str
noncomputable def zap:Key→Value→Bool
 | .inl k,v=>Value.isInt k v
 | .inr x,v=>Value.isStrOf x v
noncomputable def ztz (w:World):Key→Int
 | .inl k=>hashInt k
 | .inr x=>hashStr w x
theorem z1i:∀{k:Key}{v:Value},zap k v=true→(∃i t,k=Sum.inl i∧v=Value.int i t)∨(∃x t,k=Sum.inr x∧v=Value.str x t)
 | .inl i,v,h=>by
  obtain ⟨t,e⟩:=Value.isInt_shape (k:=i) (v:=v) h
  exact .inl ⟨i,t,rfl,e⟩
 | .inr x,v,h=>by
  obtain ⟨t,e⟩:=Value.isStrOf_shape (x:=x) (v:=v) h
  exact .inr ⟨x,t,rfl,e⟩
theorem zex (i:Int)(t:Tok):zap (.inl i) (.int i t)=true:=by simp[zap,Value.isInt]
theorem zew (x:Str)(t:Tok):zap (.inr x) (.str x t)=true:=by simp[zap,Value.isStrOf]
theorem zp0 (a b:Int):decide ((Sum.inl a:Key)=Sum.inl b)=(a == b):=by
 by_cases e:a=b
 ·subst e;simp
 ·have h:¬(Sum.inl a:Key)=Sum.inl b:=fun q=>e (Sum.inl.inj q)
  rw[decide_eq_false h]
  exact (beq_eq_false_iff_ne.mpr e).symm
theorem zox (a b:Str):decide ((Sum.inr a:Key)=Sum.inr b)=decide (a=b):=by
 by_cases e:a=b
 ·subst e;simp
 ·have h:¬(Sum.inr a:Key)=Sum.inr b:=fun q=>e (Sum.inr.inj q)
  rw[decide_eq_false h,decide_eq_false e]
theorem zoz (a:Int)(b:Str):decide ((Sum.inl a:Key)=Sum.inr b)=false:=decide_eq_false (fun q=>nomatch q)
theorem zoy (a:Str)(b:Int):decide ((Sum.inr a:Key)=Sum.inl b)=false:=decide_eq_false (fun q=>nomatch q)
noncomputable def z1y (prog:Program)(w:World):PySem.KeyKind prog w Key where
 is:=zap
 hash:=ztz w
 inj:=fun v a b ha hb=>by
  rcases z1i ha with ⟨i,t,rfl,rfl⟩|⟨x,t,rfl,rfl⟩
  ·rcases z1i hb with ⟨j,u,rfl,e⟩|⟨y,u,rfl,e⟩
   ·injection e with e1 _;rw[e1]
   ·exact nomatch e
  ·rcases z1i hb with ⟨j,u,rfl,e⟩|⟨y,u,rfl,e⟩
   ·exact nomatch e
   ·injection e with e1 _;rw[e1]
 byValue:=fun k v h=>by
  rcases z1i h with ⟨i,t,rfl,rfl⟩|⟨x,t,rfl,rfl⟩<;>rfl
 pyHash:=fun hv h=>by
  rcases z1i hv with ⟨i,t,rfl,rfl⟩|⟨x,t,rfl,rfl⟩
  ·exact wpAny_pyHash_int h
  ·exact wpAny_pyHash_str h
 eqBool:=fun hu hv h=>by
  rcases z1i hu with ⟨i,t,rfl,rfl⟩|⟨x,t,rfl,rfl⟩
  ·rcases z1i hv with ⟨j,u,rfl,rfl⟩|⟨y,u,rfl,rfl⟩
   ·rw[zp0]at h;exact wpAny_eqBool_int h
   ·rw[zoz]at h;exact SeqAt.EqAt.int_str i t y u _ _ _ _ h
  ·rcases z1i hv with ⟨j,u,rfl,rfl⟩|⟨y,u,rfl,rfl⟩
   ·rw[zoy]at h;exact SeqAt.EqAt.str_int x t j u _ _ _ _ h
   ·rw[zox]at h;exact wpAny_eqBool_str h
 «strs»:=fun k x t v h=>by
  rcases z1i h with ⟨i,u,rfl,e⟩|⟨y,u,rfl,e⟩
  ·exact nomatch e
  ·injection e with e1 _
   subst e1
   cases v<;>rfl
theorem zaj (prog:Program)(w:World)(i:Int)(t:Tok):(z1y prog w).is (.inl i) (.int i t)=true:=zex i t
theorem zai (prog:Program)(w:World)(x:Str)(t:Tok):(z1y prog w).is (.inr x) (.str x t)=true:=zew x t
end L2
namespace L2
open PySem PySem.Spec PyProof.Rows
section
inductive V where
 | non|bl (b:Bool)|int (i:Int)|str (x:Str)|byt (b:Array UInt8)|flt (b:UInt64)|ref (a:Addr)|ty (n:String)
 deriving DecidableEq
noncomputable def RelV:V→Value→Prop
 | .non,u=>u=Value.none
 | .bl b,u=>u=Value.bool b
 | .int i,u=>∃t,u=Value.int i t
 | .str x,u=>∃t,u=Value.str x t
 | .byt b,u=>∃t,u=Value.bytes b t
 | .flt b,u=>∃t,u=Value.float b t
 | .ref a,u=>u=Value.ref a
 | .ty n,u=>u=Value.type n
noncomputable abbrev Vals:List V→List Value→Prop:=Paired RelV
theorem Vals.length {xs:List V}{us:List Value}(r:Vals xs us):xs.length=us.length:=Paired.length r
theorem Vals.get:∀{xs:List V}{us:List Value}{i:Nat}{x:V},Vals xs us→xs[i]?=some x→∃u,us[i]?=some u∧RelV x u
 | _,_,_,_,.nil,e=>by simp at e
 | _,_,0,_,.cons r _,e=>by simp at e;subst e;exact ⟨_,rfl,r⟩
 | _,_,i+1,x,.cons _ t,e=>by
  obtain ⟨u,h1,h2⟩:=Vals.get (i:=i) (x:=x) t (by simpa using e)
  exact ⟨u,by simpa using h1,h2⟩
theorem Vals.set {x:V}{u:Value}(r:RelV x u):∀{xs:List V}{us:List Value}(i:Nat),Vals xs us→Vals (xs.set i x) (us.set i u)
 | _,_,_,.nil=>.nil
 | _,_,0,.cons _ t=>.cons r t
 | _,_,i+1,.cons q t=>.cons q (Vals.set r i t)
theorem Vals.append:∀{xs ys:List V}{us ws:List Value},Vals xs us→Vals ys ws→Vals (xs++ys) (us++ws)
 | _,_,_,_,.nil,s=>s
 | _,_,_,_,.cons r t,s=>.cons r (Vals.append t s)
theorem Vals.take:∀{xs:List V}{us:List Value}(n:Nat),Vals xs us→Vals (xs.take n) (us.take n)
 | _,_,0,_=>.nil
 | _,_,_+1,.nil=>.nil
 | _,_,n+1,.cons r t=>.cons r (Vals.take n t)
theorem Vals.drop:∀{xs:List V}{us:List Value}(n:Nat),Vals xs us→Vals (xs.drop n) (us.drop n)
 | _,_,0,r=>r
 | _,_,_+1,.nil=>.nil
 | _,_,n+1,.cons _ t=>Vals.drop n t
noncomputable def RelO:Option V→Option Value→Prop
 | some v,some u=>RelV v u
 | none,none=>True
 | _,_=>False
noncomputable def KV {κ:Type}:List (κ×V)→List (κ×Value)→Prop:=Paired fun (p:κ×V) (q:κ×Value)=>p.1=q.1∧RelV p.2 q.2
noncomputable def kV:Key→V
 | .inl i=>.int i
 | .inr x=>.str x
inductive HO where
 | lst (xs:List V)
 | tup (xs:List V)
 | dK (kvs:List (Key×V))|dT (kvs:List (List Key×V))
 | set (S:Int→Bool) (n:Nat)
 | ins (C dx:Addr) (fs:List (Str×V))
 | own (x:Addr)
 | xd (fs:List (Str×V))
 | met (f x:Addr)
 | rng (lo hi:Int)
 | frz (o:Obj) (u:HO)
 | tbl (ps:Array Value)
 | ext (φ:Heap→Prop)
noncomputable abbrev Hp:=Addr→Option HO
noncomputable def upd (H:Hp)(a:Addr)(o:HO):Hp:=fun b=>if b=a then some o else H b
theorem z06 {H:Hp}{a:Addr}{o:HO}:upd H a o a=some o:=by unfold upd;rw[if_pos rfl]
theorem z0f {H:Hp}{a b:Addr}{o:HO}(h:b≠a):upd H a o b=H b:=by unfold upd;rw[if_neg h]
theorem zji {H:Hp}{a:Addr}{o u:HO}:upd (upd H a o) a u=upd H a u:=by
 funext b;unfold upd;split<;>rfl
theorem zrr {H:Hp}{a b:Addr}{o u:HO}(h:H a=some o)(h':H b=some u)(d:o≠u):a≠b:=by
 intro e;subst e;rw[h]at h';exact d (Option.some.inj h')
theorem z0m {H:Hp}{a b:Addr}{o:HO}(h:H a=some o)(h':H b=none):a≠b:=by
 intro e;subst e;rw[h]at h';cases h'
section
variable (P:Program)(w:World)
noncomputable def ObjOk (H:Hp)(h:Heap)(a:Addr):HO→Prop
 | .lst xs=>xs.length≤sizeLine∧∃(its:List Value) (n:Nat),Vals xs its∧h.get? a=some {cls:=.type "list",data:=.seq its.toArray n}
 | .tup xs=>xs.length≤sizeLine∧∃its:List Value,Vals xs its∧IsTup h a its.toArray
 | .dK kvs=>kvs.length≤sizeLine∧(a == sysModules)=false∧∃vs,KV kvs vs∧h.DictOf (z1y P w) a vs
 | .dT kvs => kvs.length ≤ sizeLine ∧ (a == sysModules) = false ∧ ∃ xs : List (List Key × Addr × Value),
   Paired (fun (p:List Key×V) (q:List Key×Addr×Value)=>p.1=q.1∧H q.2.1=some (.tup (p.1.map kV))∧RelV p.2 q.2.2) kvs xs∧
   ∃o es ep,h.get? a=some o∧o.ExactDict∧o.data=.dict es ep∧es.toList=xs.map (entryOfKey (tupleKind (z1y P w)))∧(xs.map (·.1)).Nodup
 | .set S n=>h.SetOf (intKind P w) a S n
 | .ins C dx fs => H dx = some (.own a) ∧ fs.length ≤ 1000 ∧ dx ≠ a ∧ h.get? a = some (PySem.W.instObj C dx) ∧
   ∃mA,h.Ns1 dx mA∧(∀f,RelO (fs.lookup f) (mA f))∧PySem.Within mA (fs.map (·.1))
 | .own _=>∃o,h.get? a=some o
 | .xd fs=>∃mA,h.Ns1 a mA∧∀f,RelO (fs.lookup f) (mA f)
 | .rng lo hi=>∃t u v,h.get? a=some {cls:=.type "range",data:=.fields #[.int lo t,.int hi u,.int 1 v]}
 | .frz o u=>h.get? a=some o∧ObjOk H h a u
 | .tbl ps=>h.get? a=some {cls:=.none,data:=.fields ps}
 | .met f x=>h.get? a=some (PySem.W.methodObj (.ref f) (.ref x))
 | .ext φ=>φ h∧(∃o,h.get? a=some o)∧∀h1 h2:Heap,φ h1→(∀o,h1.get? a=some o→h2.get? a=some o)→φ h2
noncomputable def HOk (H:Hp)(h:Heap):Prop:=∀a o,H a=some o→ObjOk P w H h a o
end
section
variable {P:Program}{w:World}{H H':Hp}{h h':Heap}{a:Addr}{o:HO}
theorem ObjOk.lt (x:ObjOk P w H h a o):a<h.objs.size:=by
 cases o with
 | lst xs=>obtain ⟨_,_,_,_,e⟩:=x;exact Heap.lt_size e
 | tup xs=>obtain ⟨_,_,_,p⟩:=x;exact p.lt
 | dK kvs=>obtain ⟨_,_,_,_,o,_,_,e,_⟩:=x;exact Heap.lt_size e
 | dT kvs=>obtain ⟨_,_,_,_,o,_,_,e,_⟩:=x;exact Heap.lt_size e
 | set S n=>obtain ⟨o,_,_,_,e,_⟩:=x;exact Heap.lt_size e
 | ins C dx fs=>obtain ⟨_,_,_,e,_⟩:=x;exact Heap.lt_size e
 | own y=>obtain ⟨_,e⟩:=x;exact Heap.lt_size e
 | xd fs=>obtain ⟨_,⟨_,_,_,e,_⟩,_⟩:=x;exact Heap.lt_size e
 | rng lo hi=>obtain ⟨_,_,_,e⟩:=x;exact Heap.lt_size e
 | frz ob u=>obtain ⟨e,_⟩:=x;exact Heap.lt_size e
 | tbl ps=>exact Heap.lt_size (show h.get? a=some _ from x)
 | met f y=>exact Heap.lt_size (show h.get? a=some _ from x)
 | ext φ=>obtain ⟨_,⟨_,e⟩,_⟩:=x;exact Heap.lt_size e
theorem Paired.mapP {α β:Type}{F G:α→β→Prop}:∀{l₁:List α}{l₂:List β},Paired F l₁ l₂→(∀a b,F a b→G a b)→Paired G l₁ l₂
 | _,_,.nil,_=>.nil
 | _,_,.cons r t,f=>.cons (f _ _ r) (Paired.mapP t f)
theorem ObjOk.stay (x : ObjOk P w H h a o)(k : ∀ b u, (b = a ∨ H b = some (.own a)) → h.get? b = some u → h'.get? b = some u)
  (ho:∀b,H b=some (.own a)→H' b=some (.own a))(ht:∀b xs,H b=some (.tup xs)→H' b=some (.tup xs)):ObjOk P w H' h' a o:=by
 induction o with
 | lst xs=>obtain ⟨z,its,n,r,e⟩:=x;exact ⟨z,its,n,r,k _ _ (.inl rfl) e⟩
 | tup xs=>obtain ⟨z,its,r,ob,e,c⟩:=x;exact ⟨z,its,r,ob,k _ _ (.inl rfl) e,c⟩
 | dK kvs=>obtain ⟨z,y,vs,r,ob,es,ep,e,c⟩:=x;exact ⟨z,y,vs,r,ob,es,ep,k _ _ (.inl rfl) e,c⟩
 | dT kvs=>
  obtain ⟨z,y,xs,r,ob,es,ep,e,c⟩:=x
  exact ⟨z,y,xs,Paired.mapP r fun p q z=>⟨z.1,ht _ _ z.2.1,z.2.2⟩,ob,es,ep,k _ _ (.inl rfl) e,c⟩
 | set S n=>obtain ⟨ob,es,ep,t,e,c⟩:=x;exact ⟨ob,es,ep,t,k _ _ (.inl rfl) e,c⟩
 | ins C dx fs=>
  obtain ⟨d,z,ne,e,mA,⟨od,es,ep,e2,c⟩,r⟩:=x
  exact ⟨ho _ d,z,ne,k _ _ (.inl rfl) e,mA,⟨od,es,ep,k _ _ (.inr d) e2,c⟩,r⟩
 | own y=>obtain ⟨ob,e⟩:=x;exact ⟨ob,k _ _ (.inl rfl) e⟩
 | xd fs=>obtain ⟨mA,⟨od,es,ep,e,c⟩,r⟩:=x;exact ⟨mA,⟨od,es,ep,k _ _ (.inl rfl) e,c⟩,r⟩
 | rng lo hi=>obtain ⟨t,u,v,e⟩:=x;exact ⟨t,u,v,k _ _ (.inl rfl) e⟩
 | frz ob u ih=>obtain ⟨e,q⟩:=x;exact ⟨k _ _ (.inl rfl) e,ih q⟩
 | tbl ps=>
  have e:h.get? a=some {cls:=.none,data:=.fields ps}:=x
  show h'.get? a=some {cls:=.none,data:=.fields ps}
  exact k a _ (.inl rfl) e
 | met f y=>
  have e:h.get? a=some (PySem.W.methodObj (.ref f) (.ref y)):=x
  show h'.get? a=some (PySem.W.methodObj (.ref f) (.ref y))
  exact k a _ (.inl rfl) e
 | ext φ=>obtain ⟨p,⟨o,e⟩,st⟩:=x;exact ⟨st _ _ p fun o q=>k _ _ (.inl rfl) q,⟨o,k _ _ (.inl rfl) e⟩,st⟩
theorem HOk.lt (x:HOk P w H h)(e:H a=some o):a<h.objs.size:=(x a o e).lt
theorem HOk.fresh (x:HOk P w H h)(e:h.objs.size≤a):H a=none:=by
 cases q:H a with
 | none=>rfl
 | some u=>exact absurd (Nat.lt_of_lt_of_le (x.lt q) e) (Nat.lt_irrefl _)
theorem HOk.kept (x:HOk P w H h)(k:∀b u,h.get? b=some u→h'.get? b=some u):HOk P w H h':=fun a o e=>
 (x a o e).stay (fun b u _ q=>k b u q) (fun _ q=>q) fun _ _ q=>q
theorem HOk.laid (x:HOk P w H h)(k:∀b u,h.get? b=some u→h'.get? b=some u)(hp:h.objs.size≤a)(new:ObjOk P w (upd H a o) h' a o):HOk P w (upd H a o) h':=fun b u e=>by
 have hn:=x.fresh hp
 by_cases hb:b=a
 ·subst hb;rw[z06]at e;cases e;exact new
 ·rw[z0f hb]at e
  exact (x b u e).stay (fun c v _ q=>k c v q) (fun c q=>by rw[z0f (z0m q hn)];exact q) fun c xs q=>by rw[z0f (z0m q hn)];exact q
end
noncomputable def Rd (H:Hp)(a:Addr)(u:HO):Prop:=H a=some u∨∃o,H a=some (.frz o u)
theorem Rd.ok {P:Program}{w:World}{H:Hp}{h:Heap}{a:Addr}{u:HO}(r:Rd H a u)(x:HOk P w H h):ObjOk P w H h a u:=by
 rcases r with r|⟨o,r⟩
 ·exact x a u r
 ·obtain ⟨_,q⟩:=x a _ r
  exact q
noncomputable def Mut:Option HO→Prop
 | some (.lst _)=>True
 | some (.dK _)=>True
 | some (.dT _)=>True
 | some (.set _ _)=>True
 | some (.ins _ _ _)=>True
 | some (.ext _)=>True
 | _=>False
section
variable {P:Program}{w:World}{H:Hp}{h h':Heap}{x e:Addr}{o':HO}
theorem HOk.write (ok : HOk P w H h)(mu : Mut (H x))(he : e = x ∨ H e = some (.own x))(k : ∀ b u, b ≠ e → h.get? b = some u → h'.get? b = some u)(heo : ∃ u, h'.get? e = some u)
  (new:ObjOk P w (upd H x o') h' x o'):HOk P w (upd H x o') h':=fun b u q=>by
 have nown:∀c y,H c=some (.own y)→c≠x:=fun c y r z=>by subst z;rw[r]at mu;exact mu
 have ntup:∀c xs,H c=some (.tup xs)→c≠x:=fun c xs r z=>by subst z;rw[r]at mu;exact mu
 by_cases hb:b=x
 ·subst hb;rw[z06]at q;cases q;exact new
 ·rw[z0f hb]at q
  by_cases hbe:b=e
  ·have q' : H b = some (.own x) := by
    rcases he with z|z
    ·exact absurd (hbe.trans z) hb
    ·rw[hbe];exact z
   rw[q]at q';cases q'
   obtain ⟨v,hv⟩:=heo
   exact ⟨v,by rw[hbe];exact hv⟩
  ·refine (ok b u q).stay (fun c v hc r=>k c v ?_ r) (fun c r=>by rw[z0f (nown c b r)];exact r) fun c xs r=>by rw[z0f (ntup c xs r)];exact r
   rcases hc with rfl|hc
   ·exact hbe
   ·rintro rfl
    rcases he with z|z
    ·exact nown c b hc z
    ·rw[hc]at z;cases z;exact hb rfl
end
structure Un (fs ex:List Addr)(H H':Hp)(h h':Heap):Prop where
 keep:∀b o,h.get? b=some o→H b=none→b∉fs→b∉ex→h'.get? b=some o
 slot:∀b o,h.get? b=some o→H b=none→b∈fs→b∉ex→∃sl,h'.get? b=some {o with slots:=sl}
 free:∀b o,h.get? b=some o→H b=none→b∉ex→H' b=none
 there:∀b o,h.get? b=some o→b∉ex→∃o',h'.get? b=some o'
 tups:∀b xs,H b=some (.tup xs)→H' b=some (.tup xs)
 frzs:∀b o u,H b=some (.frz o u)→H' b=some (.frz o u)
 tbls:∀b ps,H b=some (.tbl ps)→∃more,H' b=some (.tbl (ps++more))
section
variable {fs fs' ex ex':List Addr}{H H1 H2:Hp}{h h1 h2 h':Heap}{a x e:Addr}{o:HO}
theorem Un.any (u:Un fs ex H H1 h h1){b:Addr}{ob:Obj}(q:h.get? b=some ob)(n:H b=none)(hx:b∉ex):∃sl,h1.get? b=some {ob with slots:=sl}:=by
 by_cases hb:b∈fs
 ·exact u.slot b ob q n hb hx
 ·exact ⟨ob.slots,u.keep b ob q n hb hx⟩
theorem Un.trans (a:Un fs ex H H1 h h1)(b:Un fs ex H1 H2 h1 h2):Un fs ex H H2 h h2 where
 keep:=fun c ob q n hc hx=>b.keep c ob (a.keep c ob q n hc hx) (a.free c ob q n hx) hc hx
 slot:=fun c ob q n hc hx=>by
  obtain ⟨sl,e1⟩:=a.slot c ob q n hc hx
  obtain ⟨sl',e2⟩:=b.slot c _ e1 (a.free c ob q n hx) hc hx
  exact ⟨sl',e2⟩
 free:=fun c ob q n hx=>by
  obtain ⟨o',e1⟩:=a.there c ob q hx
  exact b.free c o' e1 (a.free c ob q n hx) hx
 there:=fun c ob q hx=>by
  obtain ⟨o',e1⟩:=a.there c ob q hx
  exact b.there c o' e1 hx
 tups:=fun c xs q=>b.tups c xs (a.tups c xs q)
 frzs:=fun c ob xs q=>b.frzs c ob xs (a.frzs c ob xs q)
 tbls:=fun c ps q=>by
  obtain ⟨m1,e1⟩:=a.tbls c ps q
  obtain ⟨m2,e2⟩:=b.tbls c _ e1
  exact ⟨m1++m2,by rw[e2,Array.append_assoc]⟩
theorem Un.kept (k:∀b u,h.get? b=some u→h'.get? b=some u):Un fs ex H H h h':=
 ⟨fun b ob q _ _ _=>k b ob q,fun b ob q _ _ _=>⟨ob.slots,k b ob q⟩,fun _ _ _ n _=>n,fun b ob q _=>⟨ob,k b ob q⟩,fun _ _ q=>q,fun _ _ _ q=>q,fun _ ps q=>⟨#[],by rw[q];simp⟩⟩
theorem Un.refl:Un fs ex H H h h:=Un.kept fun _ _ q=>q
theorem Un.laid (k:∀b u,h.get? b=some u→h'.get? b=some u)(hp:h.objs.size≤a)(hn:H a=none):Un fs ex H (upd H a o) h h' where
 keep:=fun b u q _ _ _=>k b u q
 slot:=fun b u q _ _ _=>⟨u.slots,k b u q⟩
 free:=fun b u q n _=>by rw[z0f (Nat.ne_of_lt (Nat.lt_of_lt_of_le (Heap.lt_size q) hp))];exact n
 there:=fun b u q _=>⟨u,k b u q⟩
 tups:=fun b xs q=>by rw[z0f (z0m q hn)];exact q
 frzs:=fun b u xs q=>by rw[z0f (z0m q hn)];exact q
 tbls:=fun b ps q=>⟨#[],by rw[z0f (z0m q hn),q];simp⟩
theorem Un.write (mu:Mut (H x))(he:e=x∨H e=some (.own x))(k:∀b u,b≠e→h.get? b=some u→h'.get? b=some u)(heo:∃u,h'.get? e=some u):Un fs ex H (upd H x o) h h':=by
 have hx:∀b,H b=none→b≠x:=fun b n z=>by subst z;rw[n]at mu;exact mu
 have hb:∀b,H b=none→b≠e:=fun b n z=>by
  subst z
  rcases he with r|r
  ·exact hx b n r
  ·rw[n]at r;cases r
 have hm:∀b u,H b=some u→¬Mut (some u)→b≠x:=fun b u q nm z=>by subst z;rw[q]at mu;exact nm mu
 refine ⟨fun b u q n _ _=>k b u (hb b n) q,fun b u q n _ _=>⟨u.slots,k b u (hb b n) q⟩,fun b u q n _=>by rw[z0f (hx b n)];exact n,fun b u q _=>?_,
  fun b xs q=>by rw[z0f (hm b _ q fun z=>z)];exact q,fun b u xs q=>by rw[z0f (hm b _ q fun z=>z)];exact q,fun b ps q=>⟨#[],by rw[z0f (hm b _ q fun z=>z),q];simp⟩⟩
 by_cases hbe:b=e
 ·subst hbe;exact heo
 ·exact ⟨u,k b u hbe q⟩
theorem Un.mono (u:Un fs ex H H1 h h1)(hs:∀b∈fs,b∈fs')(hx:∀b∈ex,b∈ex'):Un fs' ex' H H1 h h1:=
 ⟨fun b ob q n hb he=>u.keep b ob q n (fun z=>hb (hs b z)) fun z=>he (hx b z),fun _ _ q n _ he=>u.any q n fun z=>he (hx _ z),fun b ob q n he=>u.free b ob q n fun z=>he (hx b z),fun b ob q he=>u.there b ob q fun z=>he (hx b z),u.tups,u.frzs,u.tbls⟩
end
noncomputable def trk (h:Heap)(H:Hp):List Addr:=(List.range h.objs.size).filter fun a=>(H a).isSome
noncomputable def zhk (h:Heap)(H:Hp):Heap:=PySem.W.hideAll h (trk h H)
theorem zf2 (h:Heap)(H:Hp):(zhk h H).objs.size=h.objs.size:=PySem.W.hideAll_size _ _
theorem zhj {h:Heap}{H:Hp}{b:Addr}{o:Obj}(e:h.get? b=some o)(n:H b=none):(zhk h H).get? b=some o:=
 PySem.W.hideAll_get _ e fun hm=>by
  have q:(H b).isSome=true:=(List.mem_filter.mp hm).2
  rw[n]at q;simp at q
theorem zle {h:Heap}{H:Hp}{b:Addr}{o:Obj}(e:(zhk h H).get? b=some o):h.get? b=some o∧H b=none:=by
 have e':h.get? b=some o:=PySem.W.of_hideAll (trk h H) e
 refine ⟨e',?_⟩
 cases q:H b with
 | none=>rfl
 | some x=>
  have hm:b∈trk h H:=List.mem_filter.mpr ⟨List.mem_range.mpr (Heap.lt_size e'),by simp[q]⟩
  have z:(zhk h H).get? b=none:=PySem.W.hideAll_none (trk h H) hm
  rw[z]at e;cases e
noncomputable def z3f (g h:Heap)(L:Addr):List (Addr×Obj):=(List.range h.objs.size).filterMap fun a=>if a=L∨(g.get? a).isSome=true then none else (h.get? a).map fun o=>(a,o)
theorem zak {g h:Heap}{L a:Addr}{o:Obj}(h1:a≠L)(h2:g.get? a=none)(h3:h.get? a=some o):(a,o)∈z3f g h L:=
 List.mem_filterMap.mpr ⟨a,List.mem_range.mpr (Heap.lt_size h3),by simp[h1,h2,h3]⟩
theorem z6z {g h:Heap}{L:Addr}{p:Addr×Obj}(hp:p∈z3f g h L):p.1≠L∧g.get? p.1=none∧h.get? p.1=some p.2:=by
 obtain ⟨b,_,e⟩:=List.mem_filterMap.mp hp
 split at e
 ·cases e
 ·rename_i hn
  cases q:h.get? b with
  | none=>rw[q]at e;simp at e
  | some u=>
   rw[q]at e
   simp only[Option.map_some,Option.some.injEq]at e
   subst e
   refine ⟨fun z=>hn (.inl z),?_,q⟩
   show g.get? b=none
   cases r:g.get? b with
   | none=>rfl
   | some v=>exact (hn (.inr (by simp[r]))).elim
noncomputable def rest (g h:Heap)(L d:Addr):List (Addr×Obj):=(z3f g h L).filter fun p=>decide (p.1≠d)
theorem zh5 {g h:Heap}{L:Addr}:News g L h (z3f g h L):=fun p hp=>let ⟨a,b,c⟩:=z6z hp;⟨c,a,b⟩
end
section
structure Mod (K:W.Frag)(mg:Str→Option Value)(base:Heap):Prop where
 kin:K.In base
 glob:base.Ns mainGlobals mg
 blt:∃mb,base.Ns builtinsNs mb∧∀x:Str,x≠"__name__"→mb x=bootBuiltins x
 nolimit:base.NoLimit
 nodigits:base.NoDigits
structure Cx where
 prog:Program
 w:World
 K:PySem.W.Frag
 mg:Str→Option Value
 base:Heap
 A:Around
 N:List Str
 s₀:Shared
 H₀:Hp
 env:Env
 outer:List Env
 stack:List Env
 ex:List Addr
 fn:Str→Bool
 calm:Bool
 pn:List (Addr×Obj)
 xe:Value→Shared→Prop
noncomputable def frs (l:List Env):List Addr:=l.filterMap (·.frame)
noncomputable abbrev Cx.fs (X:Cx):List Addr:=frs X.outer
noncomputable def Vis (sc:Scope)(x:Str):Prop:=sc.names.lookup x=some .local∨sc.names.lookup x=some .cell∨sc.names.lookup x=some .free
noncomputable def Loc (sc:Scope)(x:Str):Prop:=sc.names.lookup x=some .local∨sc.names.lookup x=some .cell
noncomputable def zu9 (env:Env)(h:Heap)(m:Str→Option Value)(x:Str)(u:Value):Prop:=
 (env.kindOf x=some .local∧m x=some u)∨((env.kindOf x=some .cell∨env.kindOf x=some .free)∧∃c,env.cells.lookup x=some c∧h.IsCell c (some u))
structure Cx.Ok (X:Cx):Prop where
 mod:Mod X.K X.mg X.base
 kind:X.env.scope.kind=.function
 glob:X.env.globals=mainGlobals
 blt:X.env.builtins=builtinsNs
 above:X.s₀.heap.objs.size≤X.env.locals
 inj:∀x y c,X.env.cells.lookup x=some c→X.env.cells.lookup y=some c→x=y
 has:∀x,(X.env.kindOf x=some .cell∨X.env.kindOf x=some .free)→∃c,X.env.cells.lookup x=some c
 cab:∀x c,X.fn x=true→X.env.cells.lookup x=some c→X.s₀.heap.objs.size≤c
 hd:X.calm=true→X.A.handled=none
 frames:X.A.frames=some X.stack
 stk:X.stack=X.outer∨(X.stack=X.env::X.outer∧X.env.frame=some X.env.locals)
 exf:∀b∈X.ex,b≠X.env.locals∧∀x c,X.env.cells.lookup x=some c→c≠b
 bs:∀b o,X.base.get? b=some o→X.s₀.heap.get? b=some o∧X.H₀ b=none
 bsz:X.base.objs.size≤X.s₀.heap.objs.size
 noex:∀b o,X.base.get? b=some o→b∉X.ex
 exfs:∀b∈X.ex,b∉X.fs
 funs:X.s₀.heap.FunFrames X.base X.outer
 frf:∀b∈X.fs,X.H₀ b=none
structure Inv (X:Cx)(pins:List (Addr×Obj))(σ:List (Option V))(H:Hp)(s:Shared):Prop where
 ok:X.Ok
 os:s.os=X.s₀.os
 bare:AllBare s.gens
 base:Un X.fs X.ex X.H₀ H X.s₀.heap s.heap
 loc:∃m,s.heap.Ns X.env.locals m∧∀(i:Nat)(x:Str)(v:V),X.N[i]?=some x→σ[i]?=some (some v)→Vis X.env.scope x→∃u,RelV v u∧zu9 X.env s.heap m x u
 cell:∀x c,X.env.cells.lookup x=some c→∃v,s.heap.IsCell c v
 free:H X.env.locals=none
 freeC:∀x c,X.env.cells.lookup x=some c→H c=none
 pin:∀p∈X.pn++pins,s.heap.get? p.1=some p.2∧H p.1=none∧p.1≠X.env.locals∧p.1∉X.fs∧∀v,p.2.data≠.cell v
 hok:HOk X.prog X.w H s.heap
 len:σ.length=X.N.length
section
variable {X:Cx}{pins:List (Addr×Obj)}{σ:List (Option V)}{H H':Hp}{s:Shared}{h':Heap}
theorem Cx.Ok.nofr (ok:X.Ok){b:Addr}{o:Obj}(e:X.base.get? b=some o):b∉X.fs:=fun hb=>by
 have:=(ok.funs.mem hb).1
 rw[e]at this;cases this
theorem Inv.bs (I:Inv X pins σ H s):∀b o,X.base.get? b=some o→s.heap.get? b=some o∧H b=none:=fun b o e=>
 ⟨I.base.keep b o (I.ok.bs b o e).1 (I.ok.bs b o e).2 (I.ok.nofr e) (I.ok.noex b o e),I.base.free b o (I.ok.bs b o e).1 (I.ok.bs b o e).2 (I.ok.noex b o e)⟩
theorem Inv.bk (I:Inv X pins σ H s):∀b o,X.base.get? b=some o→s.heap.get? b=some o:=fun b o e=>(I.bs b o e).1
theorem Inv.mod (I:Inv X pins σ H s):Mod X.K X.mg X.base:=I.ok.mod
theorem Inv.kIn (I:Inv X pins σ H s):X.K.In s.heap:=I.ok.mod.kin.keeps I.bk
theorem Inv.fr (I:Inv X pins σ H s):∃m,Fr X.base X.env.locals s.heap m:=
 let ⟨m,hn,_⟩:=I.loc
 ⟨m,hn,I.bk,Nat.le_trans I.ok.bsz I.ok.above⟩
theorem Inv.lt (I:Inv X pins σ H s):X.env.locals<s.heap.objs.size:=let ⟨_,hn,_⟩:=I.loc;hn.lt
theorem Inv.sz (I:Inv X pins σ H s):X.s₀.heap.objs.size≤s.heap.objs.size:=Nat.le_trans I.ok.above (Nat.le_of_lt I.lt)
theorem Inv.nofs (I:Inv X pins σ H s){a:Addr}(h:s.heap.objs.size≤a):a∉X.fs:=fun hb=>by
 obtain ⟨_,o,ho,_⟩:=I.ok.funs.mem hb
 exact absurd (Nat.lt_of_lt_of_le (Heap.lt_size ho) (Nat.le_trans I.sz h)) (Nat.lt_irrefl _)
theorem Inv.cne (I:Inv X pins σ H s):∀x c,X.env.cells.lookup x=some c→c≠X.env.locals:=fun x c e z=>by
 obtain ⟨v,o,ho,hd⟩:=I.cell x c e
 obtain ⟨m,⟨o',es,ep,ho',hd',_⟩,_⟩:=I.loc
 rw[z,ho']at ho;cases ho;rw[hd']at hd;cases hd
theorem Inv.funs (I:Inv X pins σ H s):s.heap.FunFrames X.base X.outer:=by
 have all:∀(l:List Env),(∀b∈frs l,b∈X.fs)→X.s₀.heap.FunFrames X.base l→s.heap.FunFrames X.base l:=by
  intro l
  induction l with
  | nil=>intro _ _;trivial
  | cons env r ih=>
   intro hs hl
   obtain ⟨hk,⟨L,o,hf,hn,ho,hd⟩,hr⟩:=hl
   have hL:L∈X.fs:=hs L (by unfold frs;rw[List.filterMap_cons,hf];exact List.mem_cons_self)
   obtain ⟨sl,e⟩:=I.base.slot L o ho (I.ok.frf L hL) hL fun z=>I.ok.exfs L z hL
   exact ⟨hk,⟨L,_,hf,hn,e,hd⟩,ih (fun b hb=>hs b (by unfold frs;rw[List.filterMap_cons,hf];exact List.mem_cons_of_mem _ hb)) hr⟩
 exact all X.outer (fun _ hb=>hb) I.ok.funs
theorem Inv.stack (I:Inv X pins σ H s):s.heap.FunFrames X.base X.stack:=by
 rcases I.ok.stk with e|⟨e,hf⟩
 ·rw[e];exact I.funs
 ·rw[e]
  obtain ⟨m,hn,_⟩:=I.loc
  refine .cons (by rw[I.ok.kind];decide) hf hn ?_ I.funs
  exact Heap.get?_none_of_le (Nat.le_trans I.ok.bsz I.ok.above)
theorem Inv.stkSub (I:Inv X pins σ H s):∀b∈frs X.stack,b∈X.env.locals::X.fs:=fun b hb=>by
 rcases I.ok.stk with e|⟨e,hf⟩
 ·rw[e]at hb;exact List.mem_cons_of_mem _ hb
 ·rw[e]at hb
  unfold frs at hb
  rw[List.filterMap_cons,hf]at hb
  exact hb
theorem Inv.stkFree (I:Inv X pins σ H s):∀b∈frs X.stack,H b=none:=fun b hb=>by
 rcases List.mem_cons.mp (I.stkSub b hb) with e|hb
 ·rw[e];exact I.free
 ·obtain ⟨_,o,ho,_⟩:=I.ok.funs.mem hb
  exact I.base.free b o ho (I.ok.frf b hb) fun z=>I.ok.exfs b z hb
theorem Inv.step {g' : Array GenState}{t' : Nat}{d' : Drawn}{ch : List Addr}(I : Inv X pins σ H s)
  (hch:∀b∈ch,(b∈X.ex∨X.s₀.heap.objs.size≤b)∧b≠X.env.locals∧(∀x c,X.env.cells.lookup x=some c→c≠b)∧∀p∈X.pn++pins,p.1≠b)
  (keep:∀b o,b≠X.env.locals→b∉X.fs→b∉ch→s.heap.get? b=some o→H b=none→h'.get? b=some o)
  (slot:∀b o,b≠X.env.locals→b∈X.fs→b∉ch→s.heap.get? b=some o→H b=none→∃sl,h'.get? b=some {o with slots:=sl})(free:∀b o,b∉ch→s.heap.get? b=some o→H b=none→H' b=none)
  (there:∀b o,b∉ch→s.heap.get? b=some o→∃o',h'.get? b=some o')
  (tups:∀b xs,H b=some (.tup xs)→H' b=some (.tup xs))(frzs:∀b o u,H b=some (.frz o u)→H' b=some (.frz o u))(tbls:∀b ps,H b=some (.tbl ps)→∃more,H' b=some (.tbl (ps++more)))
  (ns:∀m,s.heap.Ns X.env.locals m→h'.Ns X.env.locals m)(hok:HOk X.prog X.w H' h')(hg:AllBare g') :
  Inv X pins σ H' {s with heap:=h',gens:=g',drawn:=d',toks:=t'}:=by
 have neL:∀b o,X.s₀.heap.get? b=some o→b≠X.env.locals:=fun b o e=>Nat.ne_of_lt (Nat.lt_of_lt_of_le (Heap.lt_size e) I.ok.above)
 have neC:∀b o,X.s₀.heap.get? b=some o→b∉X.ex→b∉ch:=fun b o e hx hb=>by
  rcases (hch b hb).1 with z|z
  ·exact hx z
  ·exact absurd (Nat.lt_of_lt_of_le (Heap.lt_size e) z) (Nat.lt_irrefl _)
 have cellK:∀x c,X.env.cells.lookup x=some c→∀v,s.heap.IsCell c v→h'.IsCell c v:=fun x c e v ⟨o,ho,hd⟩=>by
  have nch:c∉ch:=fun z=>(hch c z).2.2.1 x c e rfl
  by_cases hc:c∈X.fs
  ·obtain ⟨sl,q⟩:=slot c o (I.cne x c e) hc nch ho (I.freeC x c e)
   exact ⟨_,q,hd⟩
  ·exact ⟨o,keep c o (I.cne x c e) hc nch ho (I.freeC x c e),hd⟩
 refine ⟨I.ok,I.os,hg,⟨fun b o e n hb hx=>?_,fun b o e n hb hx=>?_,fun b o e n hx=>?_,fun b o e hx=>?_,fun b xs e=>tups b xs (I.base.tups b xs e),fun b o xs e=>frzs b o xs (I.base.frzs b o xs e),fun b ps e=>?_⟩,?_,fun x c e=>?_,?_,fun x c e=>?_,fun p hp=>?_,hok,I.len⟩
 ·exact keep b o (neL b o e) hb (neC b o e hx) (I.base.keep b o e n hb hx) (I.base.free b o e n hx)
 ·obtain ⟨sl,e1⟩:=I.base.slot b o e n hb hx
  obtain ⟨sl',e2⟩:=slot b _ (neL b o e) hb (neC b o e hx) e1 (I.base.free b o e n hx)
  exact ⟨sl',e2⟩
 ·obtain ⟨o',e1⟩:=I.base.there b o e hx
  exact free b o' (neC b o e hx) e1 (I.base.free b o e n hx)
 ·obtain ⟨o',e1⟩:=I.base.there b o e hx
  exact there b o' (neC b o e hx) e1
 ·obtain ⟨m1,e1⟩:=I.base.tbls b ps e
  obtain ⟨m2,e2⟩:=tbls b _ e1
  exact ⟨m1++m2,by rw[e2,Array.append_assoc]⟩
 ·obtain ⟨m,hn,hl⟩:=I.loc
  refine ⟨m,ns m hn,fun i x v e1 e2 e3=>?_⟩
  obtain ⟨u,r,l⟩:=hl i x v e1 e2 e3
  refine ⟨u,r,?_⟩
  rcases l with l|⟨k,c,e,z⟩
  ·exact .inl l
  ·exact .inr ⟨k,c,e,cellK x c e _ z⟩
 ·obtain ⟨v,z⟩:=I.cell x c e
  exact ⟨v,cellK x c e v z⟩
 ·obtain ⟨m,⟨o,_,_,ho,_⟩,_⟩:=I.loc
  exact free _ o (fun z=>(hch _ z).2.1 rfl) ho I.free
 ·obtain ⟨v,o,ho,hd⟩:=I.cell x c e
  exact free c o (fun z=>(hch c z).2.2.1 x c e rfl) ho (I.freeC x c e)
 ·obtain ⟨e,n,ne,nf,d⟩:=I.pin p hp
  have nch:p.1∉ch:=fun z=>(hch p.1 z).2.2.2 p hp rfl
  exact ⟨keep p.1 p.2 ne nf nch e n,free p.1 p.2 nch e n,ne,nf,d⟩
theorem Inv.un {t':Nat}(I:Inv X pins σ H s)(u:Un X.fs [] H H' s.heap h')(hok:HOk X.prog X.w H' h'):Inv X pins σ H' {s with heap:=h',toks:=t'}:=by
 obtain ⟨m,⟨o,es,ep,ho,r⟩,_⟩:=id I.loc
 obtain ⟨sl,hL⟩:=u.any ho I.free (by simp)
 exact I.step (g':=s.gens) (d':=s.drawn) (ch:=[]) (fun _ z=>nomatch z) (fun b o _ hb _ e n=>u.keep b o e n hb (by simp)) (fun b o _ hb _ e n=>u.slot b o e n hb (by simp)) (fun b o _ e n=>u.free b o e n (by simp)) (fun b o _ e=>u.there b o e (by simp)) u.tups u.frzs u.tbls (fun m' hm=>by
  obtain ⟨o',es',ep',ho',r'⟩:=hm
  rw[ho]at ho';cases ho'
  exact ⟨_,es',ep',hL,r'⟩) hok I.bare
theorem Inv.call {g' : Array GenState}{t' : Nat}{d' : Drawn}{ch : List Addr}(I : Inv X pins σ H s)(u : Un (frs X.stack) ch H H' s.heap h')(hok : HOk X.prog X.w H' h')(hg : AllBare g')
  (hch:∀b∈ch,(b∈X.ex∨X.s₀.heap.objs.size≤b)∧b≠X.env.locals∧(∀x c,X.env.cells.lookup x=some c→c≠b)∧∀p∈X.pn++pins,p.1≠b) :
  Inv X pins σ H' {s with heap:=h',gens:=g',drawn:=d',toks:=t'}:=by
 obtain ⟨m,⟨o,es,ep,ho,r⟩,_⟩:=id I.loc
 obtain ⟨sl,hL⟩:=u.any ho I.free fun z=>(hch _ z).2.1 rfl
 exact I.step (ch:=ch) hch (fun b o hL hb hc e n=>u.keep b o e n (fun z=>(List.mem_cons.mp (I.stkSub b z)).elim hL hb) hc) (fun b o _ _ hc e n=>u.any e n hc) (fun b o hc e n=>u.free b o e n hc) (fun b o hc e=>u.there b o e hc) u.tups u.frzs u.tbls (fun m' hm=>by
  obtain ⟨o',es',ep',ho',r'⟩:=hm
  rw[ho]at ho';cases ho'
  exact ⟨_,es',ep',hL,r'⟩) hok hg
theorem Inv.turned {t' : Nat}{it : Addr}(I : Inv X pins σ H s)(k : ∀ b o, b ≠ it → s.heap.get? b = some o → h'.get? b = some o)(hn : H it = none)(hL : it ≠ X.env.locals)
  (h1:it∈X.ex∨X.s₀.heap.objs.size≤it)(h2:∀x c,X.env.cells.lookup x=some c→c≠it)(h3:∀p∈X.pn++pins,p.1≠it):Inv X pins σ H {s with heap:=h',toks:=t'}:=by
 have nit:∀b u,H b=some u→b≠it:=fun b u e z=>by rw[z,hn]at e;cases e
 refine I.step (g':=s.gens) (d':=s.drawn) (ch:=[it]) (fun b hb=>?_) (fun b o _ _ hc e _=>k b o (fun z=>hc (by simp[z])) e) (fun b o _ _ hc e _=>⟨o.slots,k b o (fun z=>hc (by simp[z])) e⟩) (fun _ _ _ _ n=>n)
  (fun b o hc e=>⟨o,k b o (fun z=>hc (by simp[z])) e⟩) (fun _ _ e=>e) (fun _ _ _ e=>e) (fun b ps e=>⟨#[],by rw[e];simp⟩) (fun m hm=>?_) (fun b u e=>?_) I.bare
 ·have e:b=it:=by simpa using hb
  subst e
  exact ⟨h1,hL,h2,h3⟩
 ·obtain ⟨o,es,ep,ho,r⟩:=hm
  exact ⟨o,es,ep,k _ o (Ne.symm hL) ho,r⟩
 ·refine (I.hok b u e).stay (fun c v hc q=>k c v ?_ q) (fun _ q=>q) fun _ _ q=>q
  rcases hc with z|z
  ·rw[z];exact nit b u e
  ·exact nit c _ z
theorem Inv.tok (I:Inv X pins σ H s)(t:Nat):Inv X pins σ H {s with toks:=t}:=I.un (h':=s.heap) (t':=t) Un.refl I.hok
theorem Inv.kept {t':Nat}(I:Inv X pins σ H s)(k:∀b u,s.heap.get? b=some u→h'.get? b=some u):Inv X pins σ H {s with heap:=h',toks:=t'}:=I.un (Un.kept k) (I.hok.kept k)
theorem Inv.laid {a : Addr}{o : HO}{t' : Nat}(I : Inv X pins σ H s)(k : ∀ b u, s.heap.get? b = some u → h'.get? b = some u)(hp : s.heap.objs.size ≤ a)(new : ObjOk X.prog X.w (upd H a o) h' a o) :
  Inv X pins σ (upd H a o) {s with heap:=h',toks:=t'}:=I.un (Un.laid k hp (I.hok.fresh hp)) (I.hok.laid k hp new)
theorem Inv.write {x e : Addr}{o : HO}{t' : Nat}(I : Inv X pins σ H s)(mu : Mut (H x))(he : e = x ∨ H e = some (.own x))(k : ∀ b u, b ≠ e → s.heap.get? b = some u → h'.get? b = some u)(heo : ∃ u, h'.get? e = some u)
  (new:ObjOk X.prog X.w (upd H x o) h' x o):Inv X pins σ (upd H x o) {s with heap:=h',toks:=t'}:=I.un (Un.write mu he k heo) (I.hok.write mu he k heo new)
theorem Inv.pins_of {pins':List (Addr×Obj)}(I:Inv X pins σ H s)(h:∀p∈pins',s.heap.get? p.1=some p.2∧H p.1=none∧p.1≠X.env.locals∧p.1∉X.fs∧∀v,p.2.data≠.cell v):Inv X pins' σ H s:=
 ⟨I.ok,I.os,I.bare,I.base,I.loc,I.cell,I.free,I.freeC,fun p hp=>(List.mem_append.mp hp).elim (fun z=>I.pin p (List.mem_append_left _ z)) (h p),I.hok,I.len⟩
theorem zc0 {N:List Str}(hN:N.Nodup){i j:Nat}{x:Str}(a:N[i]?=some x)(b:N[j]?=some x):i=j:=by
 obtain ⟨h1,e1⟩:=List.getElem?_eq_some_iff.mp a
 obtain ⟨h2,e2⟩:=List.getElem?_eq_some_iff.mp b
 exact (List.getElem_inj hN).mp (e1.trans e2.symm)
theorem z8v {M : Model}{A : Around}{E : Value → Shared → Prop}{i : Nat}{x : Str}{v : V}{u : Value}{Q : Unit → Shared → Prop}(I : Inv X pins σ H s)(hN : X.N.Nodup)(hi : X.N[i]? = some x)(hx : Loc X.env.scope x)(r : RelV v u)
  (h:∀s',Inv X pins (σ.set i (some v)) H s'→(∃a,Heap.SameBut a s.heap s'.heap∧(a=X.env.locals∨X.env.cells.lookup x=some a))→Q () s')(hf:X.fn x=true∨X.env.scope.names.lookup x=some .local:=by first|exact .inl rfl|exact .inr rfl|assumption):wpAny M A (storeName X.env x u) Q E s:=by
 obtain ⟨m,hn,hl⟩:=id I.loc
 have hcls:(X.env.scope.kind == .class || (X.env.scope.kind == .module&&X.env.locals != X.env.globals))=false:=by rw[I.ok.kind];rfl
 have hiσ:i<σ.length:=by rw[I.len];exact (List.getElem?_eq_some_iff.mp hi).1
 have cne:=I.cne
 have tracked:∀{a:Addr}{h':Heap},(∃o,s.heap.get? a=some o∧H a=none)→Heap.SameBut a s.heap h'→HOk X.prog X.w H h':=fun {a h'} ha hs b ob e=>by
  obtain ⟨_,_,hfree⟩:=ha
  refine (I.hok b ob e).stay (fun c w' hc q=>(hs.2 c ?_).trans q) (fun _ q=>q) fun _ _ q=>q
  rintro rfl
  rcases hc with rfl|hc
  ·rw[hfree]at e;cases e
  ·rw[hfree]at hc;cases hc
 rcases hx with hk|hk
 ·refine wpAny_storeName_local hk hn (fun h' hn' hs=>?_) hcls
  obtain ⟨oL,_,_,hoL,_⟩:=id hn
  refine h _ ⟨I.ok,I.os,I.bare,⟨fun b o e n hb hx=>?_,fun b o e n hb hx=>?_,I.base.free,fun b o e hx=>?_,I.base.tups,I.base.frzs,I.base.tbls⟩,⟨_,hn',fun j y v' e1 e2 e3=>?_⟩,fun y c e=>?_,I.free,I.freeC,fun p hp=>?_,tracked ⟨oL,hoL,I.free⟩ hs,by simpa using I.len⟩ ⟨_,hs,.inl rfl⟩
  ·exact (hs.2 b (Nat.ne_of_lt (Nat.lt_of_lt_of_le (Heap.lt_size e) I.ok.above))).trans (I.base.keep b o e n hb hx)
  ·obtain ⟨sl,e1⟩:=I.base.slot b o e n hb hx
   exact ⟨sl,(hs.2 b (Nat.ne_of_lt (Nat.lt_of_lt_of_le (Heap.lt_size e) I.ok.above))).trans e1⟩
  ·obtain ⟨o',e1⟩:=I.base.there b o e hx
   exact ⟨o',(hs.2 b (Nat.ne_of_lt (Nat.lt_of_lt_of_le (Heap.lt_size e) I.ok.above))).trans e1⟩
  ·by_cases hj:j=i
   ·subst hj
    rw[hi]at e1;cases e1
    rw[List.getElem?_set_self hiσ]at e2
    cases e2
    exact ⟨u,r,.inl ⟨hk,by simp⟩⟩
   ·rw[List.getElem?_set_ne (Ne.symm hj)]at e2
    obtain ⟨u',r',q⟩:=hl j y v' e1 e2 e3
    refine ⟨u',r',?_⟩
    rcases q with ⟨k,e⟩|⟨k,c,e,z⟩
    ·refine .inl ⟨k,?_⟩
     have:y≠x:=fun e=>hj (zc0 hN e1 (e▸hi))
     simp[this,e]
    ·exact .inr ⟨k,c,e,z.sameBut hs (cne y c e)⟩
  ·obtain ⟨w',z⟩:=I.cell y c e
   exact ⟨w',z.sameBut hs (cne y c e)⟩
  ·obtain ⟨e,n,ne,nf,d⟩:=I.pin p hp
   exact ⟨(hs.2 p.1 ne).trans e,n,ne,nf,d⟩
 ·have hfn : X.fn x = true := by
   rcases hf with z|z
   ·exact z
   ·rw[z]at hk;cases hk
  obtain ⟨c,hc⟩:=I.ok.has x (.inl hk)
  obtain ⟨w',z⟩:=I.cell x c hc
  refine wpAny_storeName_cell I.ok.kind hk hc z (fun h' hc' hs=>?_)
  obtain ⟨oc,hoc,hocd⟩:=id z
  refine h {s with heap:=h'} ⟨I.ok,I.os,I.bare,⟨fun b o e n hb hx=>?_,fun b o e n hb hx=>?_,I.base.free,fun b o e hx=>?_,I.base.tups,I.base.frzs,I.base.tbls⟩,⟨m,hn.sameBut hs (Ne.symm (cne x c hc)),fun j y v' e1 e2 e3=>?_⟩,fun y c' e=>?_,I.free,I.freeC,fun p hp=>?_,tracked ⟨oc,hoc,I.freeC x c hc⟩ hs,by simpa using I.len⟩ ⟨c,hs,.inr hc⟩
  ·exact (hs.2 b (Nat.ne_of_lt (Nat.lt_of_lt_of_le (Heap.lt_size e) (I.ok.cab x c hfn hc)))).trans (I.base.keep b o e n hb hx)
  ·obtain ⟨sl,e1⟩:=I.base.slot b o e n hb hx
   exact ⟨sl,(hs.2 b (Nat.ne_of_lt (Nat.lt_of_lt_of_le (Heap.lt_size e) (I.ok.cab x c hfn hc)))).trans e1⟩
  ·obtain ⟨o',e1⟩:=I.base.there b o e hx
   exact ⟨o',(hs.2 b (Nat.ne_of_lt (Nat.lt_of_lt_of_le (Heap.lt_size e) (I.ok.cab x c hfn hc)))).trans e1⟩
  ·by_cases hj:j=i
   ·subst hj
    rw[hi]at e1;cases e1
    rw[List.getElem?_set_self hiσ]at e2
    cases e2
    exact ⟨u,r,.inr ⟨.inl hk,c,hc,hc'⟩⟩
   ·rw[List.getElem?_set_ne (Ne.symm hj)]at e2
    obtain ⟨u',r',q⟩:=hl j y v' e1 e2 e3
    refine ⟨u',r',?_⟩
    rcases q with q|⟨k,c',e,z'⟩
    ·exact .inl q
    ·refine .inr ⟨k,c',e,z'.sameBut hs ?_⟩
     rintro rfl
     exact hj (zc0 hN e1 (I.ok.inj _ _ _ e hc▸hi))
  ·by_cases hcc:c'=c
   ·subst hcc;exact ⟨_,hc'⟩
   ·obtain ⟨w2,z2⟩:=I.cell y c' e
    exact ⟨w2,z2.sameBut hs hcc⟩
  ·obtain ⟨e,n,ne,nf,d⟩:=I.pin p hp
   refine ⟨(hs.2 p.1 ?_).trans e,n,ne,nf,d⟩
   intro q
   rw[q,hoc]at e
   have q':oc=p.2:=Option.some.inj e
   exact d w' (by rw[←q'];exact hocd)
theorem z4g {M : Model}{A : Around}{E : Value → Shared → Prop}{i : Nat}{x : Str}{v : V}{u : Value}{Q : Unit → Shared → Prop}(I : Inv X pins σ H s)(hN : X.N.Nodup)(hi : X.N[i]? = some x)(hx : Loc X.env.scope x)(r : RelV v u)
  (h:∀s',Inv X pins (σ.set i (some v)) H s'→Q () s')(hf:X.fn x=true∨X.env.scope.names.lookup x=some .local:=by first|exact .inl rfl|exact .inr rfl|assumption):wpAny M A (storeName X.env x u) Q E s:=
 z8v I hN hi hx r (fun s' I' _=>h s' I') hf
theorem Inv.call' {s' : Shared}{ch : List Addr}(I : Inv X pins σ H s)(ho : s'.os = s.os)(u : Un (frs X.stack) ch H H' s.heap s'.heap)(hok : HOk X.prog X.w H' s'.heap)(hg : AllBare s'.gens)
  (hch:∀b∈ch,(b∈X.ex∨X.s₀.heap.objs.size≤b)∧b≠X.env.locals∧(∀x c,X.env.cells.lookup x=some c→c≠b)∧∀p∈X.pn++pins,p.1≠b):Inv X pins σ H' s':=by
 obtain ⟨h',g',d',t',o'⟩:=s'
 have e:o'=s.os:=ho
 subst e
 exact I.call (g':=g') (t':=t') (d':=d') u hok hg hch
end
noncomputable abbrev XK:=Value→Option Addr→Hp→Prop
noncomputable abbrev St:=List (Option V)
noncomputable abbrev VK:=V→Hp→Prop
noncomputable abbrev TE:=St→Hp→VK→Prop
noncomputable abbrev TT:=St→Hp→(Bool→Hp→Prop)→Prop
noncomputable abbrev TA:=St→Hp→(List V→Hp→Prop)→Prop
structure Ends where
 nx:St→Hp→Prop
 rt:VK
 bk:St→Hp→Prop:=fun _ _=>False
 ct:St→Hp→Prop:=fun _ _=>False
noncomputable abbrev TS:=Ends→St→Hp→Prop
noncomputable def EP (X:Cx)(pins:List (Addr×Obj))(σ:St)(Q:VK)(u:Value)(s':Shared):Prop:=∃v H',Inv X pins σ H' s'∧RelV v u∧Q v H'
noncomputable def TP (X:Cx)(pins:List (Addr×Obj))(σ:St)(Q:Bool→Hp→Prop)(b:Bool)(s':Shared):Prop:=∃H',Inv X pins σ H' s'∧Q b H'
noncomputable def AP (X:Cx)(pins:List (Addr×Obj))(σ:St)(Q:List V→Hp→Prop)(us:List Value)(s':Shared):Prop:=∃vs H',Inv X pins σ H' s'∧Vals vs us∧Q vs H'
noncomputable def SP (X:Cx)(pins:List (Addr×Obj))(D:Ends)(f:Flow)(s':Shared):Prop:=
 match f with
 | .next=>∃σ' H',Inv X pins σ' H' s'∧D.nx σ' H'
 | .brk=>∃σ' H',Inv X pins σ' H' s'∧D.bk σ' H'
 | .cont=>∃σ' H',Inv X pins σ' H' s'∧D.ct σ' H'
 | .ret u=>∃v σ' H',Inv X pins σ' H' s'∧RelV v u∧D.rt v H'
noncomputable def PE (X:Cx)(e:Expr)(t:TE):Prop:=
 ∀(pins:List (Addr×Obj))(s:Shared)(σ:St)(H:Hp)(Q:VK),Inv X pins σ H s→t σ H Q→wpAny (model X.prog X.w) X.A (eval e X.env) (EP X pins σ Q) X.xe s
noncomputable def PT (X:Cx)(e:Expr)(t:TT):Prop:=
 ∀(pins:List (Addr×Obj))(s:Shared)(σ:St)(H:Hp)(Q:Bool→Hp→Prop),Inv X pins σ H s→t σ H Q→wpAny (model X.prog X.w) X.A (isTrue e X.env (eval e X.env)) (TP X pins σ Q) X.xe s
noncomputable def PW (X:Cx)(e:Expr)(t:TT):Prop:=
 ∀(whole:Sem Value)(pins:List (Addr×Obj))(s:Shared)(σ:St)(H:Hp)(Q:Bool→Hp→Prop),Inv X pins σ H s→t σ H Q→wpAny (model X.prog X.w) X.A (isTrue e X.env whole) (TP X pins σ Q) X.xe s
theorem PW.pt {X:Cx}{e:Expr}{t:TT}(h:PW X e t):PT X e t:=h _
noncomputable def PA (X:Cx)(es:List Expr)(t:TA):Prop:=
 ∀(pos:Pos)(pins:List (Addr×Obj))(s:Shared)(σ:St)(H:Hp)(Q:List V→Hp→Prop),Inv X pins σ H s→t σ H Q→wpAny (model X.prog X.w) X.A (spliced (backTo pos (starEach es X.env))) (AP X pins σ Q) X.xe s
noncomputable def PS (X:Cx)(st:Stmt)(t:TS):Prop:=
 ∀(pins:List (Addr×Obj))(s:Shared)(σ:St)(H:Hp)(D:Ends),Inv X pins σ H s→t D σ H→wpAny (model X.prog X.w) X.A (exec st X.env) (SP X pins D) X.xe s
noncomputable def PSs (X:Cx)(st:List Stmt)(t:TS):Prop:=
 ∀(pins:List (Addr×Obj))(s:Shared)(σ:St)(H:Hp)(D:Ends),Inv X pins σ H s→t D σ H→wpAny (model X.prog X.w) X.A (execs st X.env) (SP X pins D) X.xe s
theorem thn {α:Type}{t:Sem α}{Q Q':α→Shared→Prop}{M:Model}{A:Around}{E:Value→Shared→Prop}{s:Shared}(h:wpAny M A t Q E s)(hQ:∀a s,Q a s→Q' a s):wpAny M A t Q' E s:=wpAny_mono h hQ fun _ _ x=>x
end
section
section
variable {X:Cx}
theorem bin {a b : Expr}{ta tb : TE}(ha : PE X a ta)(hb : PE X b tb){pins : List (Addr × Obj)}{s : Shared}{σ : St}{H : Hp}{R : V → V → Hp → Prop}(I : Inv X pins σ H s)(h : ta σ H fun x H1 => tb σ H1 fun y H2 => R x y H2)
  {α:Type}{Q:α→Shared→Prop}{f:Value→Value→Sem α}
  (hf:∀v u s2 x y H2,Inv X pins σ H2 s2→RelV x v→RelV y u→R x y H2→wpAny (model X.prog X.w) X.A (f v u) Q X.xe s2) :
  wpAny (model X.prog X.w) X.A (eval a X.env) (fun v s₁=>wpAny (model X.prog X.w) X.A (eval b X.env) (fun u s₂=>wpAny (model X.prog X.w) X.A (f v u) Q X.xe s₂) X.xe s₁) X.xe s:=by
 refine thn (ha pins s σ H _ I h) fun v s1 ⟨x,H1,I1,r1,q1⟩=>?_
 refine thn (hb pins s1 σ H1 _ I1 q1) fun u s2 ⟨y,H2,I2,r2,q2⟩=>?_
 exact hf v u s2 x y H2 I2 r1 r2 q2
noncomputable def zm9 (i:Nat):TE:=fun σ H Q=>∃v,σ[i]?=some (some v)∧Q v H
noncomputable def tC (v:V):TE:=fun _ H Q=>Q v H
theorem zit {i:Nat}{x:Str}{pos:Pos}(hN:X.N[i]?=some x)(hv:Vis X.env.scope x)(hd:(x == ("__debug__":Str))=false:=by decide)(hcd:(x == ("__classdict__":Str))=false:=by decide):PE X (.Name x pos) (zm9 i):=by
 intro pins s σ H Q I h
 obtain ⟨v,e,h⟩:=h
 obtain ⟨m,hn,hl⟩:=I.loc
 obtain ⟨u,r,l⟩:=hl i x v hN e hv
 have fin:EP X pins σ Q u s:=⟨v,H,I,r,h⟩
 rcases l with ⟨hk,hm⟩|⟨hk,c,hc,hcell⟩
 ·exact wpAny_Name (wpAny_loadName_local I.ok.kind hk hn hm fin) hd
 ·rcases hk with hk|hk
  ·exact wpAny_Name (wpAny_loadName_cell I.ok.kind hk hc hcell fin) hd
  ·exact wpAny_Name (wpAny_loadName_free I.ok.kind hk hc hcell fin hcd) hd
theorem zoe {i j pos}:PE X (.Constant (.int i) j pos) (tC (.int i)):=fun _ _ _ H _ I h=>wpAny_Constant_int ⟨.int i,H,I.tok _,⟨_,rfl⟩,h⟩
theorem zrl {b j pos}:PE X (.Constant (.bool b) j pos) (tC (.bl b)):=fun _ _ _ H _ I h=>Constant_bool ⟨.bl b,H,I,rfl,h⟩
theorem zoc {j pos}:PE X (.Constant .none j pos) (tC .non):=fun _ _ _ H _ I h=>Constant_none ⟨.non,H,I,rfl,h⟩
theorem zo9 {x j pos}:PE X (.Constant (.str x) j pos) (tC (.str x)):=fun _ _ _ H _ I h=>Calls.Constant_str ⟨.str x,H,I.tok _,⟨_,rfl⟩,h⟩
noncomputable def Gl (X:Cx)(x:Str):Prop:=X.env.kindOf x=some .globalImplicit
theorem z6i {E : Value → Shared → Prop}{pins : List (Addr × Obj)}{s : Shared}{σ : St}{H : Hp}{x : Str}{u : Value}{pos : Pos}{Q : Value → Shared → Prop}(I : Inv X pins σ H s)(hg : Gl X x)(hm : X.mg x = some u)(h : Q u s)
  (hd:(x == ("__debug__":Str))=false:=by decide):wpAny (model X.prog X.w) X.A (eval (.Name x pos) X.env) Q E s:=
 Calls.Name_function_global I.ok.kind hg (Calls.loadGlobal_global (by rw[I.ok.glob];exact I.mod.glob.keeps I.bk) hm h) hd
theorem z44 {E : Value → Shared → Prop}{pins : List (Addr × Obj)}{s : Shared}{σ : St}{H : Hp}{x : Str}{u : Value}{pos : Pos}{Q : Value → Shared → Prop}(I : Inv X pins σ H s)(hg : Gl X x)(hm : X.mg x = none)(hv : bootBuiltins x = some u)(h : Q u s)
  (hn:x≠"__name__":=by decide)(hd:(x == ("__debug__":Str))=false:=by decide):wpAny (model X.prog X.w) X.A (eval (.Name x pos) X.env) Q E s:=by
 obtain ⟨mb,h1,h2⟩:=I.mod.blt
 exact Calls.Name_function_global I.ok.kind hg (Calls.loadGlobal_builtin (by rw[I.ok.glob];exact I.mod.glob.keeps I.bk) hm (by rw[I.ok.blt];exact h1.keeps I.bk) ((h2 x hn).trans hv) h) hd
theorem zl2 {x:Str}{v:V}{u:Value}{pos:Pos}(hg:Gl X x)(hm:X.mg x=some u)(r:RelV v u)(hd:(x == ("__debug__":Str))=false:=by decide):PE X (.Name x pos) (tC v):=
 fun _ _ _ H _ I h=>z6i I hg hm ⟨v,H,I,r,h⟩ hd
theorem zl8 {x:Str}{v:V}{u:Value}{pos:Pos}(hg:Gl X x)(hm:X.mg x=none)(hv:bootBuiltins x=some u)(r:RelV v u)(hn:x≠"__name__":=by decide)(hd:(x == ("__debug__":Str))=false:=by decide):PE X (.Name x pos) (tC v):=
 fun _ _ _ H _ I h=>z44 I hg hm hv ⟨v,H,I,r,h⟩ hn hd
variable {a b:Expr}{ta tb:TE}{pos:Pos}
noncomputable def PC (X:Cx)(op:CmpOp)(a b:Expr)(t:TE):Prop:=
 ∀(pins:List (Addr×Obj))(s:Shared)(σ:St)(H:Hp)(Q:VK),Inv X pins σ H s→t σ H Q→
  wpAny (model X.prog X.w) X.A (eval a X.env) (fun v s₁=>wpAny (model X.prog X.w) X.A (eval b X.env) (fun u s₂=>wpAny (model X.prog X.w) X.A (compareOp op v u) (EP X pins σ Q) X.xe s₂) X.xe s₁) X.xe s
theorem RelV.none_iff {x:V}{v:Value}(r:RelV x v):(v == Value.none)=decide (x=.non):=by
 cases x with
 | non=>cases r;rfl
 | bl _=>cases r;rfl
 | int _=>obtain ⟨t,rfl⟩:=r;rfl
 | str _=>obtain ⟨t,rfl⟩:=r;rfl
 | byt _=>obtain ⟨t,rfl⟩:=r;rfl
 | flt _=>obtain ⟨t,rfl⟩:=r;rfl
 | ref _=>cases r;rfl
 | ty _=>cases r;rfl
noncomputable def tB (t:TE):TT:=fun σ H Q=>t σ H fun x H1=>∃c,x=.bl c∧Q c H1
theorem zsr {op:CmpOp}{t:TE}(h:PC X op a b t)(h1:behindInMarks op b=false:=by first|exact nobehind _ (by decide) (by decide)|rfl):PT X (.Compare a [op] [b] pos) (tB t):=by
 intro pins s σ H Q I hw
 refine wpAny_isTrue_Compare1 (thn (h pins s σ H _ I hw) fun v s1 h1=>thn h1 fun u s2 h2=>thn h2 fun c s3 ⟨x,H1,I1,r1,q1⟩=>?_) h1
 obtain ⟨d,rfl,q⟩:=q1
 cases r1
 exact wpAny_truthy_bool ⟨H1,I1,q⟩
theorem znt {e:Expr}{t:TE}(h:PE X e t)(he:∀whole,isTrue e X.env whole=(do let v ←whole;standAt e.pos;holding [v] (truthy v)):=by intro _;rfl):PT X e (tB t):=by
 intro pins s σ H Q I hw
 refine isTrue_plain (thn (h pins s σ H _ I hw) fun v s1 ⟨x,H1,I1,r1,q1⟩=>?_) (he _)
 obtain ⟨d,rfl,q⟩:=q1
 cases r1
 exact wpAny_truthy_bool ⟨H1,I1,q⟩
variable {tA tB':TT}{rest:List Expr}
noncomputable def zqw (t u:TT):TT:=fun σ H Q=>t σ H fun c H1=>if c=true then u σ H1 Q else Q false H1
noncomputable def tOr (t u:TT):TT:=fun σ H Q=>t σ H fun c H1=>if c=true then Q true H1 else u σ H1 Q
noncomputable def zqu (t:TT):TT:=fun σ H Q=>t σ H fun c H1=>Q (!c) H1
theorem zkn (ha:PT X a tA):PW X (.BoolOp .And [a] pos) tA:=by
 intro wh pins s σ H Q I h
 refine isTrue_and (thn (ha pins s σ H Q I h) fun c s1 e=>?_)
 cases c with
 | true=>exact isTrue_and_nil e
 | false=>exact e
theorem znr (ha:PT X a tA):PW X (.BoolOp .Or [a] pos) tA:=by
 intro wh pins s σ H Q I h
 refine isTrue_or (thn (ha pins s σ H Q I h) fun c s1 e=>?_)
 cases c with
 | false=>exact isTrue_or_nil e
 | true=>exact e
theorem zns (ha:PT X a tA)(hb:PW X (.BoolOp .And (b::rest) pos) tB'):PW X (.BoolOp .And (a::b::rest) pos) (zqw tA tB'):=by
 intro wh pins s σ H Q I h
 refine isTrue_and (thn (ha pins s σ H _ I h) fun c s1 ⟨H1,I1,q1⟩=>?_)
 cases c with
 | true=>exact hb wh pins s1 σ H1 Q I1 q1
 | false=>exact ⟨H1,I1,q1⟩
theorem zrc (ha:PT X a tA)(hb:PW X (.BoolOp .Or (b::rest) pos) tB'):PW X (.BoolOp .Or (a::b::rest) pos) (tOr tA tB'):=by
 intro wh pins s σ H Q I h
 refine isTrue_or (thn (ha pins s σ H _ I h) fun c s1 ⟨H1,I1,q1⟩=>?_)
 cases c with
 | true=>exact ⟨H1,I1,q1⟩
 | false=>exact hb wh pins s1 σ H1 Q I1 q1
theorem znu (ha:PT X a tA):PT X (.UnaryOp .Not a pos) (zqu tA):=by
 intro pins s σ H Q I h
 exact isTrue_not (ha pins s σ H (fun c H1=>Q (!c) H1) I h)
noncomputable def zjr (ta tb:TE):TE:=fun σ H Q=>ta σ H fun x H1=>∃c,x=.bl c∧if c=true then tb σ H1 Q else Q (.bl false) H1
noncomputable def zsj (ta tb:TE):TE:=fun σ H Q=>ta σ H fun x H1=>∃c,x=.bl c∧if c=true then Q (.bl true) H1 else tb σ H1 Q
noncomputable def zmn (ta:TE):TE:=fun σ H Q=>ta σ H fun x H1=>∃c,x=.bl c∧Q (.bl (!c)) H1
theorem zoa {op}{t:TE}(h:PE X a t):PE X (.BoolOp op [a] pos) t:=fun pins s σ H Q I hw=>BoolOp_one (h pins s σ H Q I hw)
theorem zoh (ha:PE X a ta)(hb:PE X (.BoolOp .And (b::rest) pos) tb):PE X (.BoolOp .And (a::b::rest) pos) (zjr ta tb):=by
 intro pins s σ H Q I h
 refine BoolOp_and (thn (ha pins s σ H _ I h) fun v s1 ⟨x,H1,I1,r1,q1⟩=>?_)
 obtain ⟨c,rfl,q1⟩:=q1
 cases r1
 refine wpAny_truthy_bool ?_
 cases c with
 | true=>exact hb pins s1 σ H1 Q I1 q1
 | false=>exact ⟨.bl false,H1,I1,rfl,q1⟩
theorem zrg (ha:PE X a ta)(hb:PE X (.BoolOp .Or (b::rest) pos) tb):PE X (.BoolOp .Or (a::b::rest) pos) (zsj ta tb):=by
 intro pins s σ H Q I h
 refine BoolOp_or (thn (ha pins s σ H _ I h) fun v s1 ⟨x,H1,I1,r1,q1⟩=>?_)
 obtain ⟨c,rfl,q1⟩:=q1
 cases r1
 refine wpAny_truthy_bool ?_
 cases c with
 | false=>exact hb pins s1 σ H1 Q I1 q1
 | true=>exact ⟨.bl true,H1,I1,rfl,q1⟩
theorem zob (ha:PE X a ta):PE X (.UnaryOp .Not a pos) (zmn ta):=by
 intro pins s σ H Q I h
 refine UnaryOp_ (thn (ha pins s σ H _ I h) fun v s1 ⟨x,H1,I1,r1,q1⟩=>?_)
 obtain ⟨c,rfl,q1⟩:=q1
 cases r1
 exact not_of (wpAny_truthy_bool ⟨.bl (!c),H1,I1,rfl,q1⟩)
noncomputable def tIf (t:TT)(ta tb:TE):TE:=fun σ H Q=>t σ H fun c H1=>if c=true then ta σ H1 Q else tb σ H1 Q
theorem zh0 {c:Expr}(hc:PT X c tA)(ha:PE X a ta)(hb:PE X b tb):PE X (.IfExp c a b pos) (tIf tA ta tb):=by
 intro pins s σ H Q I h
 refine wpAny_IfExp (thn (hc pins s σ H _ I h) fun d s1 ⟨H1,I1,q1⟩=>?_)
 cases d with
 | true=>exact ha pins s1 σ H1 Q I1 q1
 | false=>exact hb pins s1 σ H1 Q I1 q1
end
end
section
noncomputable def SqL (K:W.Frag)(H:Hp)(a:Addr)(xs:List V):Prop:=
 Rd H a (.lst xs)∨
  ∃(o:Obj) (its:Array Value) (n:Nat),K.lookup a=some o∧o.cls=.type "list"∧o.dict=none∧o.data=.seq its n∧its.size≤sizeLine∧Vals xs its.toList
noncomputable def SqT (K:W.Frag)(H:Hp)(a:Addr)(xs:List V):Prop:=
 Rd H a (.tup xs)∨
  ∃(o:Obj) (its:Array Value) (n:Nat),K.lookup a=some o∧o.cls=.type "tuple"∧o.data=.seq its n∧its.size≤sizeLine∧Vals xs its.toList
noncomputable def zu8:Value→Option V
 | .none=>some .non
 | .bool b=>some (.bl b)
 | .int i _=>some (.int i)
 | .str x _=>some (.str x)
 | .bytes b _=>some (.byt b)
 | .float b _=>some (.flt b)
 | .ref a=>some (.ref a)
 | .type n=>some (.ty n)
 | _=>none
theorem RelV.abs {x:V}{u:Value}(r:RelV x u):zu8 u=some x:=by
 cases x with
 | non=>cases r;rfl
 | bl _=>cases r;rfl
 | int _=>obtain ⟨t,rfl⟩:=r;rfl
 | str _=>obtain ⟨t,rfl⟩:=r;rfl
 | byt _=>obtain ⟨t,rfl⟩:=r;rfl
 | flt _=>obtain ⟨t,rfl⟩:=r;rfl
 | ref _=>cases r;rfl
 | ty _=>cases r;rfl
theorem RelV.inj {x y:V}{u:Value}(r:RelV x u)(q:RelV y u):x=y:=Option.some.inj (r.abs.symm.trans q.abs)
theorem Vals.inj:∀{xs ys:List V}{us:List Value},Vals xs us→Vals ys us→xs=ys
 | _,_,_,.nil,.nil=>rfl
 | _,_,_,.cons r t,.cons r' t'=>by rw[r.inj r',Vals.inj t t']
section
variable {X:Cx}{pins:List (Addr×Obj)}{σ:St}{H:Hp}{s:Shared}{a:Addr}{xs ys:List V}
theorem SqL.of {K:W.Frag}(h:H a=some (.lst xs)):SqL K H a xs:=.inl (.inl h)
theorem SqT.of {K:W.Frag}(h:H a=some (.tup xs)):SqT K H a xs:=.inl (.inl h)
theorem Inv.list (I:Inv X pins σ H s)(h:SqL X.K H a xs):∃its:List Value,Vals xs its∧PlainL s.heap a its.toArray∧xs.length≤sizeLine:=by
 rcases h with h|⟨o,its,n,hk,hc,hd,hs,hz,r⟩
 ·obtain ⟨z,its,n,r,e⟩:=h.ok I.hok
  exact ⟨its,r,⟨_,n,e,rfl,rfl,rfl⟩,z⟩
 ·refine ⟨its.toList,r,⟨o,n,I.kIn a o hk,hc,hd,by simpa using hs⟩,?_⟩
  have e:=r.length
  simp only[Array.length_toList]at e
  omega
theorem Inv.tuple (I:Inv X pins σ H s)(h:SqT X.K H a xs):∃its:List Value,Vals xs its∧IsTup s.heap a its.toArray∧xs.length≤sizeLine:=by
 rcases h with h|⟨o,its,n,hk,hc,hs,hz,r⟩
 ·obtain ⟨z,its,r,p⟩:=h.ok I.hok
  exact ⟨its,r,p,z⟩
 ·refine ⟨its.toList,r,⟨o,I.kIn a o hk,hc,n,by simpa using hs⟩,?_⟩
  have e:=r.length
  simp only[Array.length_toList]at e
  omega
theorem Inv.list_inj (I:Inv X pins σ H s)(h:SqL X.K H a xs)(h':SqL X.K H a ys):xs=ys:=by
 obtain ⟨its,r,⟨o,n,e,_,_,d⟩,_⟩:=I.list h
 obtain ⟨its',r',⟨o',n',e',_,_,d'⟩,_⟩:=I.list h'
 rw[e]at e';cases e'
 rw[d]at d'
 injection d' with d1 _
 have:its=its':=by simpa using congrArg Array.toList d1
 subst this
 exact r.inj r'
theorem Inv.tuple_inj (I:Inv X pins σ H s)(h:SqT X.K H a xs)(h':SqT X.K H a ys):xs=ys:=by
 obtain ⟨its,r,⟨o,e,_,n,d⟩,_⟩:=I.tuple h
 obtain ⟨its',r',⟨o',e',_,n',d'⟩,_⟩:=I.tuple h'
 rw[e]at e';cases e'
 rw[d]at d'
 injection d' with d1 _
 have:its=its':=by simpa using congrArg Array.toList d1
 subst this
 exact r.inj r'
end
noncomputable abbrev Cx.wish (X:Cx)(E:Value→Shared→Prop):Cx:={X with xe:=E}
noncomputable abbrev Cx.nox (X:Cx):Cx:=X.wish fun _ _=>False
theorem Cx.Ok.wish {X:Cx}(ok:X.Ok)(E:Value→Shared→Prop):(X.wish E).Ok:=
 ⟨ok.mod,ok.kind,ok.glob,ok.blt,ok.above,ok.inj,ok.has,ok.cab,ok.hd,ok.frames,ok.stk,ok.exf,ok.bs,ok.bsz,ok.noex,ok.exfs,ok.funs,ok.frf⟩
theorem Cx.Ok.unwish {X:Cx}{E:Value→Shared→Prop}(ok:(X.wish E).Ok):X.Ok:=
 ⟨ok.mod,ok.kind,ok.glob,ok.blt,ok.above,ok.inj,ok.has,ok.cab,ok.hd,ok.frames,ok.stk,ok.exf,ok.bs,ok.bsz,ok.noex,ok.exfs,ok.funs,ok.frf⟩
section
variable {X:Cx}{pins:List (Addr×Obj)}{σ:St}{H:Hp}{s:Shared}{E:Value→Shared→Prop}
theorem Inv.wish (I:Inv X pins σ H s)(E:Value→Shared→Prop):Inv (X.wish E) pins σ H s:=⟨I.ok.wish E,I.os,I.bare,I.base,I.loc,I.cell,I.free,I.freeC,I.pin,I.hok,I.len⟩
theorem Inv.unwish (I:Inv (X.wish E) pins σ H s):Inv X pins σ H s:=⟨I.ok.unwish,I.os,I.bare,I.base,I.loc,I.cell,I.free,I.freeC,I.pin,I.hok,I.len⟩
theorem SP.unwish {D:Ends}{f:Flow}{s':Shared}(h:SP (X.wish E) pins D f s'):SP X pins D f s':=by
 cases f with
 | next=>obtain ⟨σ',H',I,q⟩:=h;exact ⟨σ',H',I.unwish,q⟩
 | brk=>obtain ⟨σ',H',I,q⟩:=h;exact ⟨σ',H',I.unwish,q⟩
 | cont=>obtain ⟨σ',H',I,q⟩:=h;exact ⟨σ',H',I.unwish,q⟩
 | ret u=>obtain ⟨v,σ',H',I,r,q⟩:=h;exact ⟨v,σ',H',I.unwish,r,q⟩
theorem PSs.nox {st:List Stmt}{t:TS}(h:PSs X.nox st t):PSs X st t:=fun pins s σ H D I hw=>
 wpAny_mono (h pins s σ H D (I.wish _) hw) (fun _ _ q=>q.unwish) fun _ _ z=>False.elim z
end
section
variable {X:Cx}{st:Stmt}{rest:List Stmt}{t u:TS}{e:Expr}{te:TE}{pos:Pos}
noncomputable def zgd:TS:=fun D σ H=>D.nx σ H
noncomputable def zpz (t u:TS):TS:=fun D σ H=>t {D with nx:=u D} σ H
theorem zkr:PSs X [] zgd:=fun _ _ σ H _ I h=>wpAny_execs_nil ⟨σ,H,I,h⟩
theorem zgs (h1:PS X st t)(h2:PSs X rest u):PSs X (st::rest) (zpz t u):=by
 intro pins s σ H D I h
 refine wpAny_execs_cons (thn (h1 pins s σ H {D with nx:=u D} I h) fun f s1 q=>?_)
 cases f with
 | next=>
  obtain ⟨σ',H',I',q⟩:=q
  exact h2 pins s1 σ' H' D I' q
 | ret v=>exact q
 | brk=>exact q
 | cont=>exact q
theorem zkq (h1:PS X st t):PSs X [st] t:=by
 intro pins s σ H D I h
 refine wpAny_execs_cons (thn (h1 pins s σ H D I h) fun f s1 q=>?_)
 cases f with
 | next=>exact wpAny_execs_nil q
 | ret v=>exact q
 | brk=>exact q
 | cont=>exact q
theorem Inv.quiet {pins:List (Addr×Obj)}{σ:St}{H:Hp}{s:Shared}(I:Inv X pins σ H s):interactive X.env=false:=by simp[interactive,I.ok.kind]
noncomputable def zmo (te:TE):TS:=fun D σ H=>te σ H fun _ H1=>D.nx σ H1
theorem zks (he:PE X e te)(hs:swapsWith e none pos.line X.env=pure false:=by rfl):PS X (.Expr e pos) (zmo te):=by
 intro pins s σ H D I h
 exact wpAny_Expr_any (thn (he pins s σ H _ I h) fun v s1 ⟨x,H1,I1,r1,q1⟩=>⟨σ,H1,I1,q1⟩) I.quiet hs
noncomputable def zq0 (te:TE):TS:=fun D σ H=>te σ H D.rt
theorem znw (he:PE X e te):PS X (.Return (some e) pos) (zq0 te):=by
 intro pins s σ H D I h
 exact wpAny_Return_some (thn (he pins s σ H _ I h) fun v s1 ⟨x,H1,I1,r1,q1⟩=>⟨x,σ,H1,I1,r1,q1⟩)
noncomputable def zq2 (c:TT)(t u:TS):TS:=fun D σ H=>c σ H fun b H1=>if b=true then t D σ H1 else u D σ H1
theorem zrd {c:Expr}{a b:List Stmt}{tc:TT}(hc:PT X c tc)(ha:PSs X a t)(hb:PSs X b u):PS X (.If c a b pos) (zq2 tc t u):=by
 intro pins s σ H D I h
 refine wpAny_If (thn (hc pins s σ H _ I h) fun d s1 ⟨H1,I1,q1⟩=>?_)
 cases d with
 | true=>exact ha pins s1 σ H1 D I1 q1
 | false=>exact hb pins s1 σ H1 D I1 q1
noncomputable def zi3:TS:=fun _ _ _=>False
theorem zgu:PS X st zi3:=fun _ _ _ _ _ _ h=>h.elim
end
noncomputable abbrev TG:=V→St→Hp→(St→Hp→Prop)→Prop
noncomputable abbrev TGs:=List V→St→Hp→(St→Hp→Prop)→Prop
noncomputable def PG (X:Cx)(target:Expr)(t:TG):Prop:=
 ∀(pins:List (Addr×Obj))(s:Shared)(σ:St)(H:Hp)(v:V)(u:Value)(Q:St→Hp→Prop),Inv X pins σ H s→RelV v u→t v σ H Q→
  wpAny (model X.prog X.w) X.A (assign target X.env u) (fun _ s'=>∃σ' H',Inv X pins σ' H' s'∧Q σ' H') X.xe s
noncomputable def PGs (X:Cx)(ts:List Expr)(t:TGs):Prop:=
 ∀(pins:List (Addr×Obj))(s:Shared)(σ:St)(H:Hp)(vs:List V)(us:List Value)(Q:St→Hp→Prop),Inv X pins σ H s→Vals vs us→t vs σ H Q→
  wpAny (model X.prog X.w) X.A (assignInOrder ((assignEach ts X.env).map (·.2)) us) (fun _ s'=>∃σ' H',Inv X pins σ' H' s'∧Q σ' H') X.xe s
noncomputable abbrev zqb:=V→V→V→Hp→(Hp→Prop)→Prop
noncomputable def zsd (X:Cx)(t:zqb):Prop:=
 ∀(pins:List (Addr×Obj))(s:Shared)(σ:St)(H:Hp)(o i v:V)(ov iv u:Value)(Q:Hp→Prop),Inv X pins σ H s→RelV o ov→RelV i iv→RelV v u→t o i v H Q→
  wpAny (model X.prog X.w) X.A (setItem ov iv u) (fun _ s'=>∃H',Inv X pins σ H' s'∧Q H') X.xe s
noncomputable abbrev TIp:=V→V→Hp→VK→Prop
noncomputable def PIp (X:Cx)(op:Operator)(t:TIp):Prop:=
 ∀(pins:List (Addr×Obj))(s:Shared)(σ:St)(H:Hp)(x y:V)(v u:Value)(Q:VK),Inv X pins σ H s→RelV x v→RelV y u→t x y H Q→
  wpAny (model X.prog X.w) X.A (inplaceOp op v u) (EP X pins σ Q) X.xe s
section
variable {X:Cx}{pos:Pos}
noncomputable def z54 (i:Nat):TG:=fun v σ H Q=>Q (σ.set i (some v)) H
theorem zl0 {i:Nat}{x:Str}(hN:X.N.Nodup)(hi:X.N[i]?=some x)(hx:Loc X.env.scope x)(hf:X.fn x=true∨X.env.scope.names.lookup x=some .local:=by first|exact .inl rfl|exact .inr rfl|assumption):PG X (.Name x pos) (z54 i):=by
 intro pins s σ H v u Q I r h
 exact wpAny_assign_Name (z4g I hN hi hx r (fun s' I'=>⟨_,H,I',h⟩) hf)
noncomputable def zqa:TGs:=fun vs σ H Q=>vs=[]∧Q σ H
noncomputable def zf5 (t:TG)(u:TGs):TGs:=fun vs σ H Q=>∃v r,vs=v::r∧t v σ H fun σ' H'=>u r σ' H' Q
theorem zkz:PGs X [] zqa:=by
 intro pins s σ H vs us Q I r h
 obtain ⟨e,h⟩:=h
 subst e
 cases r
 exact assignInOrder_nil ⟨σ,H,I,h⟩
theorem zgy {e : Expr}{es : List Expr}{t : TG}{u : TGs}(h1 : PG X e t)(h2 : PGs X es u)
  (hs:(assignEach (e::es) X.env).map (·.2)=assign e X.env::(assignEach es X.env).map (·.2):=by rfl):PGs X (e::es) (zf5 t u):=by
 intro pins s σ H vs us Q I r h
 obtain ⟨v,vr,e1,h⟩:=h
 subst e1
 cases r with
 | cons r rr=>
  rw[hs]
  refine assignInOrder_cons (thn (h1 pins s σ H _ _ _ I r h) fun _ s1 ⟨σ1,H1,I1,q1⟩=>?_)
  exact h2 pins s1 σ1 H1 _ _ Q I1 rr q1
noncomputable def zpi (K:W.Frag)(n:Nat)(t:TGs):TG:=fun v σ H Q=>∃a xs,v=.ref a∧SqT K H a xs∧xs.length=n∧t xs σ H Q
theorem zis {es : List Expr}{k : Nat}{t : TGs}{n : Nat}(hc : X.calm = true)(h : PGs X es t)
  (hn:(assignEach es X.env).length=n:=by rfl)(hst:(assignEach es X.env).findIdx? (·.1)=none:=by rfl):PG X (.Tuple es k pos) (zpi X.K n t):=by
 intro pins s σ H v u Q I r hw
 obtain ⟨a,xs,e1,hq,hl,hw⟩:=hw
 subst e1
 cases r
 obtain ⟨its,rv,ht,hz⟩:=I.tuple hq
 refine assign_Tuple_tuple (I.ok.hd hc) ht (by simp[hn,←hl,rv.length]) hst fun h' hx=>?_
 have I1:Inv X pins σ H {s with heap:=h'}:=I.kept (t':=s.toks) fun b o e=>hx b o (Nat.ne_of_lt (Heap.lt_size e)) e
 exact h pins _ σ H xs _ Q I1 (by simpa using rv) hw
noncomputable def zs2 (to ti:TE)(t:zqb):TG:=fun v σ H Q=>to σ H fun o H1=>ti σ H1 fun i H2=>t o i v H2 fun H3=>Q σ H3
theorem zo5 {o i : Expr}{to ti : TE}{t : zqb}(ho : PE X o to)(hi : PE X i ti)(hs : zsd X t)
  (ha:∀v,assign (.Subscript o i pos) X.env v=(do
   let ov ←holding [v] (eval o X.env)
   let iv ←holding [v,ov] (eval i X.env)
   standAt pos
   holding [v,ov,iv] (setItem ov iv v)
   release [v,ov,iv] []):=by intro _;rfl):PG X (.Subscript o i pos) (zs2 to ti t):=by
 intro pins s σ H v u Q I r h
 rw[ha]
 refine wpAny_bind (wpAny_holding (thn (ho pins s σ H _ I h) fun ov s1 ⟨x,H1,I1,r1,q1⟩=>?_))
 refine wpAny_bind (wpAny_holding (thn (hi pins s1 σ H1 _ I1 q1) fun iv s2 ⟨y,H2,I2,r2,q2⟩=>?_))
 refine wpAny_bind (wpAny_standAt (wpAny_bind (wpAny_holding (thn (hs pins s2 σ H2 x y v ov iv u _ I2 r1 r2 r q2) fun _ s3 ⟨H3,I3,q3⟩=>?_))))
 exact wpAny_release ⟨σ,H3,I3,q3⟩
noncomputable def zdi (te:TE)(g:TG):TS:=fun D σ H=>te σ H fun x H1=>g x σ H1 D.nx
theorem zo1 {tg e : Expr}{te : TE}{g : TG}(he : PE X e te)(hg : PG X tg g)(hs : swapsWithSole [tg] e pos.line X.env = pure false := by rfl)(hw : swappedStores [tg] e X.env = pure none := by rfl)
  (h1:(assignEach [tg] X.env).map (·.2)=[assign tg X.env]:=by rfl):PS X (.Assign [tg] e pos) (zdi te g):=by
 intro pins s σ H D I h
 refine wpAny_Assign_stores (thn (he pins s σ H _ I h) fun v s1 ⟨x,H1,I1,r1,q1⟩=>?_) hs hw
 rw[h1]
 exact thn (hg pins s1 σ H1 x v _ I1 r1 q1) fun _ s2 q=>q
theorem znv {i : Nat}{x : Str}{e : Expr}{te : TE}{pos' : Pos}(hN : X.N.Nodup)(hi : X.N[i]? = some x)(hx : Loc X.env.scope x)(he : PE X e te)(hs : swapsWith e (some (.Name x pos')) pos.line X.env = pure false := by rfl)(hf : X.fn x = true ∨ X.env.scope.names.lookup x = some .local := by first|exact .inl rfl|exact .inr rfl|assumption) :
  PS X (.Assign [.Name x pos'] e pos) (zdi te (z54 i)):=by
 intro pins s σ H D I h
 refine wpAny_Assign_Name (thn (he pins s σ H _ I h) fun v s1 ⟨y,H1,I1,r1,q1⟩=>?_) hs
 exact z4g I1 hN hi hx r1 (fun s2 I2=>⟨_,H1,I2,q1⟩) hf
noncomputable def zqt (i j:Nat)(ta:TA):TS:=fun D σ H=>ta σ H fun vs H1=>∃v w,vs=[v,w]∧D.nx ((σ.set i (some v)).set j (some w)) H1
theorem znx {i j : Nat}{x y : Str}{a b : Expr}{ta : TA}{px py pt : Pos}{kt k2 pt2}(hc : X.calm = true)(hN : X.N.Nodup)(hi : X.N[i]? = some x)(hj : X.N[j]? = some y)(hij : i ≠ j)
  (hx:X.env.scope.names.lookup x=some .local)(hy:X.env.scope.names.lookup y=some .local)(ha:PA X [a,b] ta)
  (hw:swappedStores [.Tuple [.Name x px,.Name y py] kt pt] (.Tuple [a,b] k2 pt2) X.env=pure (some [x,y]))
  (hs:swapsWithSole [.Tuple [.Name x px,.Name y py] kt pt] (.Tuple [a,b] k2 pt2) pos.line X.env=pure false:=by rfl) :
  PS X (.Assign [.Tuple [.Name x px,.Name y py] kt pt] (.Tuple [a,b] k2 pt2) pos) (zqt i j ta):=by
 intro pins s σ H D I h
 rw[exec_Assign_arm]
 refine wpAny_bind (wpAny_standAt ?_)
 rw[hs]
 refine wpAny_bind (wpAny_pure ?_)
 rw[if_neg (by decide)]
 refine wpAny_bind (Tuple_ (thn (ha _ pins s σ H _ I h) fun us s1 ⟨vs,H1,I1,r1,q1⟩=>?_))
 obtain ⟨v,w,e1,q1⟩:=q1
 subst e1
 obtain ⟨u1,u2,rfl,rv,rw'⟩:∃u1 u2,us=[u1,u2]∧RelV v u1∧RelV w u2:=by
  cases r1 with
  | cons p q=>
   cases q with
   | cons p' q'=>
    cases q'
    exact ⟨_,_,rfl,p,p'⟩
 refine wpAny_newObj_type ?_ (by show 2≤sizeLine;decide)
 have I2:Inv X pins σ H1 {s1 with heap:=s1.heap.push {cls:=.type "tuple",data:=.seq [u1,u2].toArray}}:=I1.kept (t':=s1.toks) fun b o e=>Heap.get?_push_of_some _ e
 rw[hw]
 refine wpAny_bind (wpAny_pure ?_)
 show wpAny (model X.prog X.w) X.A (do rule "assign.swapped-stores";let items ←unpackItems (.ref s1.heap.objs.size) 2 none;assignInOrder [fun v=>bindName X.env y v,fun v=>bindName X.env x v] items.reverse;pure Flow.next) _ _ _
 refine wpAny_bind (wpAny_rule (wpAny_bind (unpackItems_tuple (items:=#[u1,u2]) (I.ok.hd hc) (IsTup.new s1.heap _) fun h' hx'=>?_)))
 have I3:=I2.kept (h':=h') (t':=s1.toks) fun b o e=>hx' b o (Nat.ne_of_lt (Heap.lt_size e)) e
 show wpAny _ _ (assignInOrder [fun v=>bindName X.env y v,fun v=>bindName X.env x v] [u2,u1] >>= fun _=>pure Flow.next) _ _ _
 refine wpAny_bind (assignInOrder_cons (wpAny_bindName (z4g I3 hN hj (.inl hy) rw' (fun s2 I4=>?_) (.inr hy))))
 refine assignInOrder_cons (wpAny_bindName (z4g I4 hN hi (.inl hx) rv (fun s3 I5=>assignInOrder_nil (wpAny_pure ?_)) (.inr hx)))
 rw[List.set_comm _ _ (Ne.symm hij)]at I5
 exact ⟨_,H1,I5,q1⟩
noncomputable def zsl (i:Nat)(te:TE)(ti:TIp):TS:=fun D σ H=>∃x,σ[i]?=some (some x)∧te σ H fun y H1=>ti x y H1 fun z H2=>D.nx (σ.set i (some z)) H2
theorem zo0 {i : Nat}{x : Str}{e : Expr}{te : TE}{op : Operator}{ti : TIp}{pos' : Pos}(hN : X.N.Nodup)(hi : X.N[i]? = some x)(hx : Loc X.env.scope x)(he : PE X e te)(ho : PIp X op ti)(hf : X.fn x = true ∨ X.env.scope.names.lookup x = some .local := by first|exact .inl rfl|exact .inr rfl|assumption) :
  PS X (.AugAssign (.Name x pos') op e pos) (zsl i te ti):=by
 intro pins s σ H D I h
 obtain ⟨v,e1,h⟩:=h
 obtain ⟨m,hn,hl⟩:=I.loc
 have vis:Vis X.env.scope x:=by rcases hx with k|k;exact .inl k;exact .inr (.inl k)
 obtain ⟨u,r,l⟩:=hl i x v hi e1 vis
 refine wpAny_AugAssign_Name ?_
 have go:wpAny (model X.prog X.w) X.A (eval e X.env) (fun w s₂=>wpAny (model X.prog X.w) X.A (inplaceOp op u w) (fun r s₃=>wpAny (model X.prog X.w) X.A (storeName X.env x r) (fun _=>SP X pins D .next) X.xe s₃) X.xe s₂) X.xe s:=by
  refine thn (he pins s σ H _ I h) fun w s1 ⟨y,H1,I1,r1,q1⟩=>?_
  refine thn (ho pins s1 σ H1 v y u w _ I1 r r1 q1) fun z s2 ⟨zv,H2,I2,r2,q2⟩=>?_
  exact z4g I2 hN hi hx r2 (fun s3 I3=>⟨_,H2,I3,q2⟩) hf
 rcases l with ⟨hk,hm⟩|⟨hk,c,hc,hcell⟩
 ·exact wpAny_loadName_local I.ok.kind hk hn hm go
 ·rcases hk with hk|hk
  ·exact wpAny_loadName_cell I.ok.kind hk hc hcell go
  ·rcases hx with k|k
   ·have:X.env.scope.names.lookup x=some .free:=hk
    rw[k]at this;cases this
   ·have:X.env.scope.names.lookup x=some .free:=hk
    rw[k]at this;cases this
noncomputable def ipI (f:Int→Int→Int):TIp:=fun x y H Q=>∃i j,x=.int i∧y=.int j∧Q (.int (f i j)) H
theorem zpc:PIp X .Sub (ipI fun i j=>i-j):=by
 intro pins s σ H x y v u Q I r1 r2 h
 obtain ⟨i,j,e1,e2,q⟩:=h
 subst e1;subst e2
 obtain ⟨t,rfl⟩:=r1
 obtain ⟨t',rfl⟩:=r2
 exact isub_int ⟨.int _,H,I.tok _,⟨_,rfl⟩,q⟩
end
section
variable {X:Cx}{pos:Pos}
noncomputable def zb8 (c:TT)(tb:TS):TS:=fun D σ H=>∃W:Nat→St→Hp→Prop,(∃m,W m σ H)∧∀m σ H,W m σ H→
 c σ H fun b H1=>if b=true then ∃N:St→Hp→Prop,(∀σ' H',N σ' H'→∃m',m'<m∧W m' σ' H')∧tb {D with nx:=N,ct:=N,bk:=D.nx} σ H1 else D.nx σ H1
theorem zgt {c:Expr}{body:List Stmt}{tc:TT}{tb:TS}(hp:PassesOwn (model X.prog X.w) X.A X.env X.xe)(hc:PT X c tc)(hb:PSs X body tb):PS X (.While c body [] pos) (zb8 tc tb):=by
 intro pins s σ H D I h
 obtain ⟨W,⟨m0,w0⟩,turn⟩:=h
 refine wpAny_While (codeAny_whileLoop (fun n s'=>∃σ' H',Inv X pins σ' H' s'∧W n σ' H') ?_ m0 ⟨σ,H,I,w0⟩)
 rintro n s1 ⟨σ1,H1,I1,w1⟩
 refine wpAny_passesOwn hp (thn (hc pins s1 σ1 H1 _ I1 (turn n σ1 H1 w1)) fun b s2 ⟨H2,I2,q2⟩=>?_)
 cases b with
 | true=>
  obtain ⟨N,hN,q2⟩:=q2
  rw[if_pos rfl]
  refine wpAny_passesOwn hp (thn (hb pins s2 σ1 H2 _ I2 q2) fun f s3 q3=>?_)
  cases f with
  | next=>
   obtain ⟨σ3,H3,I3,n3⟩:=q3
   obtain ⟨m',hm,w3⟩:=hN σ3 H3 n3
   exact ⟨m',hm,σ3,H3,I3,w3⟩
  | cont=>
   obtain ⟨σ3,H3,I3,n3⟩:=q3
   obtain ⟨m',hm,w3⟩:=hN σ3 H3 n3
   exact ⟨m',hm,σ3,H3,I3,w3⟩
  | brk=>exact q3
  | ret v=>exact q3
 | false=>
  rw[if_neg Bool.false_ne_true]
  exact wpAny_execs_nil ⟨σ1,H2,I2,q2⟩
end
structure It where
 go:Nat→Hp→Prop
 yld:Nat→Hp→V→Hp→Prop
 stop:Nat→Hp→Prop
noncomputable def zg5 (X:Cx)(pins:List (Addr×Obj))(H:Hp)(b:Addr):Prop:=
 H b=none∧b≠X.env.locals∧b∉X.fs∧(b∈X.ex∨X.s₀.heap.objs.size≤b)∧(∀x c,X.env.cells.lookup x=some c→c≠b)∧∀p∈X.pn++pins,p.1≠b
theorem Inv.fpOk {X:Cx}{pins:List (Addr×Obj)}{σ:St}{H H':Hp}{s:Shared}{b:Addr}(I:Inv X pins σ H s)(hb:s.heap.objs.size≤b)(hn:H' b=none):zg5 X pins H' b:=by
 refine ⟨hn,Nat.ne_of_gt (Nat.lt_of_lt_of_le I.lt hb),I.nofs hb,.inr (Nat.le_trans I.sz hb),fun x c e z=>?_,fun p hp z=>?_⟩
 ·obtain ⟨v,q⟩:=I.cell x c e
  exact absurd (Nat.lt_of_lt_of_le q.lt (by rw[z];exact hb)) (Nat.lt_irrefl _)
 ·exact absurd (Nat.lt_of_lt_of_le (Heap.lt_size (I.pin p hp).1) (by rw[z];exact hb)) (Nat.lt_irrefl _)
structure Turn (P:Program)(w:World)(K:W.Frag)(tg:Expr)(J:It)(fp:List Addr)(it:Addr)(tn:Nat→Heap→Prop):Prop where
 mem:it∈fp
 obj:∀i h,tn i h→∀b∈fp,∃o,h.get? b=some o∧∀v,o.data≠.cell v
 keep:∀i h h',tn i h→(∀b∈fp,∀o,h.get? b=some o→h'.get? b=some o)→tn i h'
 item:∀(X:Cx),X.prog=P→X.w=w→X.K=K→X.calm=true→∀(i:Nat)(pins:List (Addr×Obj))(s:Shared)(σ:St)(H:Hp)(E:Value→Shared→Prop),Inv X pins σ H s→(∀b∈fp,zg5 X pins H b)→tn i s.heap→J.go i H→
  wpAny (model P w) X.A (pyNext (.ref it)) (fun r s1=>∃u,r=some u∧
   wpAny (model P w) X.A (letOwnedTupleGo tg (.ref it) u) (fun _ s2=>∃x H',Inv X pins σ H' s2∧RelV x u∧J.yld i H x H'∧tn (i+1) s2.heap∧∀b∈fp,H' b=none) E s1) E s
 done:∀(X:Cx),X.prog=P→X.w=w→X.K=K→X.calm=true→∀(i:Nat)(pins:List (Addr×Obj))(s:Shared)(σ:St)(H:Hp)(E:Value→Shared→Prop),Inv X pins σ H s→(∀b∈fp,zg5 X pins H b)→tn i s.heap→J.stop i H→
  wpAny (model P w) X.A (pyNext (.ref it)) (fun r s1=>r=none∧Inv X pins σ H s1) E s
 self:∀(A:Around)(i:Nat)(s:Shared)(Q:Value→Shared→Prop)(E:Value→Shared→Prop),tn i s.heap→Q (.ref it) s→wpAny (model P w) A (pyIter (.ref it)) Q E s
noncomputable abbrev TI:=St→Hp→(It→Hp→Prop)→Prop
noncomputable def PIE (X:Cx)(pins:List (Addr×Obj))(σ:St)(tg:Expr)(R:It→Hp→Prop)(itv:Value)(s2:Shared):Prop:=
 ∃(it:Addr) (fp:List Addr) (tn:Nat→Heap→Prop) (J:It) (H':Hp),itv=.ref it∧Inv X pins σ H' s2∧Turn X.prog X.w X.K tg J fp it tn∧tn 0 s2.heap∧(∀b∈fp,zg5 X pins H' b)∧R J H'
noncomputable def PI (X:Cx)(tg iter:Expr)(wi:TI):Prop:=
 ∀(pins:List (Addr×Obj))(s:Shared)(σ:St)(H:Hp)(R:It→Hp→Prop),Inv X pins σ H s→wi σ H R→
  wpAny (model X.prog X.w) X.A (eval iter X.env) (fun v s1=>wpAny (model X.prog X.w) X.A (pyIter v) (PIE X pins σ tg R) X.xe s1) X.xe s
theorem zf4 {M : Model}{A : Around}{E : Value → Shared → Prop}{s : Shared}{tg : Expr}{it : Addr}{u : Value}{o : Obj}{n : String}{vs : Array Value}{Q : Unit → Shared → Prop}(ho : s.heap.get? it = some o)(hc : o.cls = .type n)(hd : o.data = .fields vs)
    (hn:["enumerate","zip","dict_itemiterator","dict_reverseitemiterator","odict_iterator","itertools.zip_longest","itertools.pairwise"].contains n=false)(hQ:Q () s):wpAny M A (letOwnedTupleGo tg (.ref it) u) Q E s:=by
  unfold letOwnedTupleGo
  cases tg<;>first
    | exact wpAny_pure hQ
    | (cases u<;>first
        | exact wpAny_pure hQ
        | (refine wpAny_bind (wpAny_load ho ?_)
           rw[hc,hd]
           show wpAny M A (if (["enumerate","zip","dict_itemiterator","dict_reverseitemiterator","odict_iterator","itertools.zip_longest","itertools.pairwise"].contains n&&vs[0]? == some (rawInt _))=true then _ else _) Q E s
           rw[if_neg (by intro h;rw[hn,Bool.false_and]at h;cases h)]
           exact wpAny_pure hQ))
noncomputable def Itl (K:W.Frag)(a:Addr):It:=
 ⟨fun i H=>∃xs x,SqL K H a xs∧xs[i]?=some x,fun i H x H'=>H'=H∧∀xs,SqL K H a xs→xs[i]?=some x,fun i H=>∃xs,SqL K H a xs∧xs.length≤i⟩
noncomputable def Itt (K:W.Frag)(a:Addr):It:=
 ⟨fun i H=>∃xs x,SqT K H a xs∧xs[i]?=some x,fun i H x H'=>H'=H∧∀xs,SqT K H a xs→xs[i]?=some x,fun i H=>∃xs,SqT K H a xs∧xs.length≤i⟩
noncomputable def Itr (lo:Int)(n:Nat):It:=⟨fun i _=>i<n,fun i H x H'=>H'=H∧x=.int (lo+i),fun i _=>n≤i⟩
theorem zdc {P:Program}{w:World}{K:W.Frag}{tg:Expr}(a it:Addr):Turn P w K tg (Itl K a) [it] it (fun i h=>h.IsListIter it a i) where
 mem:=by simp
 obj:=fun i h st b hb=>by
  have e:b=it:=by simpa using hb
  subst e
  obtain ⟨o,e,c,d⟩:=st
  exact ⟨o,e,fun v z=>by rw[d]at z;cases z⟩
 keep:=fun i h h' st k=>st.at fun o e=>k it (by simp) o e
 item:=by
  intro X hP hw hK hc i pins s σ H E I hf st hg
  subst hP hw hK
  obtain ⟨xs,x,hq,hx⟩:=hg
  obtain ⟨its,rv,p,hz⟩:=I.list hq
  obtain ⟨u,hu,ru⟩:=rv.get hx
  obtain ⟨f0,f1,f2,f3,f4,f5⟩:=hf it (by simp)
  refine wpAny_pyNext_list_item st p.isList (x:=u) (by simpa using hu) fun h' st' sb=>?_
  have I1:Inv X pins σ H {s with heap:=h'}:=I.turned (t':=s.toks) (fun b o hb e=>(sb.2 b hb).trans e) f0 f1 f3 f4 f5
  obtain ⟨o,e,c,d⟩:=id st'
  exact ⟨u,rfl,zf4 (s:={s with heap:=h'}) e c d (by decide) ⟨x,H,I1,ru,⟨rfl,fun ys hy=>by rw[I.list_inj hy hq];exact hx⟩,st',fun b hb=>(hf b hb).1⟩⟩
 done:=by
  intro X hP hw hK hc i pins s σ H E I hf st hg
  subst hP hw hK
  obtain ⟨xs,hq,hx⟩:=hg
  obtain ⟨its,rv,p,hz⟩:=I.list hq
  obtain ⟨f0,f1,f2,f3,f4,f5⟩:=hf it (by simp)
  have hl:=rv.length
  exact wpAny_pyNext_list_end (I.ok.hd hc) st p.isList (by simp;omega) fun h' eb=>⟨rfl,I.turned (t':=s.toks) (fun b o hb e=>eb b o hb e) f0 f1 f3 f4 f5⟩
 self:=fun _ _ _ _ _ st h=>wpAny_pyIter_listiter st h
theorem z74 {P:Program}{w:World}{K:W.Frag}{tg:Expr}(a it:Addr):Turn P w K tg (Itt K a) [it] it (fun i h=>h.IsTupleIter it a i) where
 mem:=by simp
 obj:=fun i h st b hb=>by
  have e:b=it:=by simpa using hb
  subst e
  obtain ⟨o,e,c,d⟩:=st
  exact ⟨o,e,fun v z=>by rw[d]at z;cases z⟩
 keep:=fun i h h' st k=>st.at fun o e=>k it (by simp) o e
 item:=by
  intro X hP hw hK hc i pins s σ H E I hf st hg
  subst hP hw hK
  obtain ⟨xs,x,hq,hx⟩:=hg
  obtain ⟨its,rv,p,hz⟩:=I.tuple hq
  obtain ⟨u,hu,ru⟩:=rv.get hx
  obtain ⟨f0,f1,f2,f3,f4,f5⟩:=hf it (by simp)
  refine wpAny_pyNext_tuple_item st (show s.heap.IsTuple a its.toArray from p) (x:=u) (by simpa using hu) fun h' st' sb=>?_
  have I1:Inv X pins σ H {s with heap:=h'}:=I.turned (t':=s.toks) (fun b o hb e=>(sb.2 b hb).trans e) f0 f1 f3 f4 f5
  obtain ⟨o,e,c,d⟩:=id st'
  exact ⟨u,rfl,zf4 (s:={s with heap:=h'}) e c d (by decide) ⟨x,H,I1,ru,⟨rfl,fun ys hy=>by rw[I.tuple_inj hy hq];exact hx⟩,st',fun b hb=>(hf b hb).1⟩⟩
 done:=by
  intro X hP hw hK hc i pins s σ H E I hf st hg
  subst hP hw hK
  obtain ⟨xs,hq,hx⟩:=hg
  obtain ⟨its,rv,p,hz⟩:=I.tuple hq
  obtain ⟨f0,f1,f2,f3,f4,f5⟩:=hf it (by simp)
  have hl:=rv.length
  exact wpAny_pyNext_tuple_end (I.ok.hd hc) st (show s.heap.IsTuple a its.toArray from p) (by simp;omega) fun h' eb=>⟨rfl,I.turned (t':=s.toks) (fun b o hb e=>eb b o hb e) f0 f1 f3 f4 f5⟩
 self:=fun _ _ _ _ _ st h=>wpAny_pyIter_tupleiter st h
theorem zco {P:Program}{w:World}{K:W.Frag}{tg:Expr}(it:Addr)(lo:Int)(n:Nat):Turn P w K tg (Itr lo n) [it] it (fun i h=>IsRangeIter h it (lo+(i:Nat)*1) ((n:Int)-(i:Nat)) 1) where
 mem:=by simp
 obj:=fun i h st b hb=>by
  have e:b=it:=by simpa using hb
  subst e
  exact ⟨_,st,fun v z=>by
   have z':Data.fields _=Data.cell v:=z
   cases z'⟩
 keep:=fun i h h' st k=>k it (by simp) _ st
 item:=by
  intro X hP hw hK hc i pins s σ H E I hf st hg
  subst hP hw hK
  obtain ⟨f0,f1,f2,f3,f4,f5⟩:=hf it (by simp)
  have W:=Walks.range (prog:=X.prog) (w:=X.w) (I.ok.hd hc) it lo 1 n
  refine W.item i s _ _ hg st fun v h' tk hv st' kk=>?_
  obtain ⟨t,rfl⟩:=hv
  have I1:Inv X pins σ H {s with heap:=h',toks:=tk}:=I.turned (fun b o hb e=>kk b o (by simpa using hb) e) f0 f1 f3 f4 f5
  refine ⟨_,rfl,zf4 (s:={s with heap:=h',toks:=tk}) (n:="range_iterator") st' rfl rfl (by decide) ⟨.int (lo+i),H,I1,⟨t,?_⟩,⟨rfl,rfl⟩,st',fun b hb=>(hf b hb).1⟩⟩
  rw[Int.mul_one]
 done:=by
  intro X hP hw hK hc i pins s σ H E I hf st hg
  subst hP hw hK
  obtain ⟨f0,f1,f2,f3,f4,f5⟩:=hf it (by simp)
  exact wpAny_pyNext_range_end (I.ok.hd hc) st (by have:n≤i:=hg;omega) fun h' eb=>⟨rfl,I.turned (t':=s.toks) (fun b o hb e=>eb b o hb e) f0 f1 f3 f4 f5⟩
 self:=fun _ _ _ _ _ st h=>wpAny_pyIter_rangeiter st h
end
section
section
variable {X:Cx}{tg:Expr}
noncomputable def zsu (K:W.Frag)(tl:TE):TI:=fun σ H R=>tl σ H fun x H1=>∃a,x=.ref a∧(∃xs,SqT K H1 a xs)∧R (Itt K a) H1
theorem zo2 {l:Expr}{tl:TE}(hl:PE X l tl):PI X tg l (zsu X.K tl):=by
 intro pins s σ H R I h
 refine thn (hl pins s σ H _ I h) fun v s1 ⟨x,H1,I1,r1,q1⟩=>?_
 obtain ⟨a,e,⟨xs,hq⟩,q⟩:=q1
 subst e
 cases r1
 obtain ⟨its,rv,p,hz⟩:=I1.tuple hq
 refine wpAny_pyIter_tuple (show s1.heap.IsTuple a its.toArray from p) ?_
 refine ⟨s1.heap.objs.size,[s1.heap.objs.size],_,_,H1,rfl,I1.kept (t':=s1.toks) fun b o e=>Heap.get?_push_of_some _ e,z74 a _,⟨_,Heap.get?_push_size _ rfl,rfl,rfl⟩,fun b hb=>?_,q⟩
 have e:b=s1.heap.objs.size:=by simpa using hb
 subst e
 exact I1.fpOk (Nat.le_refl _) (I1.hok.fresh (Nat.le_refl _))
theorem zbo {pins : List (Addr × Obj)}{σ : St}{H : Hp}{s : Shared}{R : It → Hp → Prop}{E : Value → Shared → Prop}{lo hi : Int}{t u v : Tok}{tk : Nat}(I : Inv X pins σ H s)(h1 : -(2^62) ≤ lo)(h2 : lo<2^62)(h3 : -(2^62) ≤ hi)(h4 : hi<2^62)
  (q:R (Itr lo (hi-lo).toNat) H):wpAny (model X.prog X.w) X.A (pyIter (.ref s.heap.objs.size)) (PIE X pins σ tg R) E {s with heap:=s.heap.push {cls:=.type "range",data:=.fields #[.int lo t,.int hi u,.int 1 v]},toks:=tk}:=by
 refine wpAny_pyIter_range (IsRange.new ..) (small_one h1 h2 h3 h4) ?_
 have I1:Inv X pins σ H {s with heap:=s.heap.push {cls:=.type "range",data:=.fields #[.int lo t,.int hi u,.int 1 v]},toks:=tk}:=I.kept fun b o e=>Heap.get?_push_of_some _ e
 refine ⟨(s.heap.push {cls:=.type "range",data:=.fields #[.int lo t,.int hi u,.int 1 v]}).objs.size,[(s.heap.push {cls:=.type "range",data:=.fields #[.int lo t,.int hi u,.int 1 v]}).objs.size],_,_,H,rfl,
  I1.kept (t':=tk) fun b o e=>Heap.get?_push_of_some _ e,zco _ lo (hi-lo).toNat,?_,fun b hb=>?_,q⟩
 ·have e1:lo+((0:Nat):Int)*1=lo:=by simp
  have e2:(((hi-lo).toNat:Nat):Int)-((0:Nat):Int)=Builtin.Range.rangeSize lo hi 1:=by rw[rangeSize_one];split<;>omega
  show IsRangeIter _ _ (lo+((0:Nat):Int)*1) ((((hi-lo).toNat:Nat):Int)-((0:Nat):Int)) 1
  rw[e1,e2]
  exact Heap.get?_push_size _ rfl
 ·have e:b=(s.heap.push {cls:=.type "range",data:=.fields #[.int lo t,.int hi u,.int 1 v]}).objs.size:=by simpa using hb
  subst e
  exact I1.fpOk (Nat.le_refl _) (I1.hok.fresh (Nat.le_refl _))
noncomputable def zlp (ta:TA):TI:=fun σ H R=>ta σ H fun vs H1=>∃j:Int,vs=[.int j]∧-(2^62)≤j∧j<2^62∧R (Itr 0 j.toNat) H1
noncomputable def zpg (ta:TA):TI:=fun σ H R=>ta σ H fun vs H1=>∃i j:Int,vs=[.int i,.int j]∧(-(2^62)≤i∧i<2^62∧-(2^62)≤j∧j<2^62)∧R (Itr i (j-i).toNat) H1
theorem ze9 {a:Expr}{ta:TA}{p pos:Pos}(hg:Gl X "range")(hm:X.mg "range"=none)(ha:PA X [a] ta)(hs:starEach [a] X.env=[(false,eval a X.env)]:=by rfl):PI X tg (.Call (.Name "range" p) [a] [] pos) (zlp ta):=by
 intro pins s σ H R I h
 refine Call_ (z44 I hg hm boot_range (PyProof.Rows.callWith_type1 (thn (ha pos pins s σ H _ I h) fun us s1 ⟨vs,H1,I1,r1,q1⟩=>?_) hs rfl))
 obtain ⟨j,e,q1,q2,q⟩:=q1
 subst e
 cases r1 with
 | cons r rr=>
  cases rr
  obtain ⟨t,rfl⟩:=r
  exact call_range_1 (zbo I1 (by omega) (by omega) q1 q2 (by simpa using q))
theorem ze8 {a b : Expr}{ta : TA}{p pos : Pos}(hg : Gl X "range")(hm : X.mg "range" = none)(ha : PA X [a, b] ta)(hs : starEach [a, b] X.env = [(false, eval a X.env), (false, eval b X.env)] := by rfl)(hs2 : starEach [b] X.env = [(false, eval b X.env)] := by rfl) :
  PI X tg (.Call (.Name "range" p) [a,b] [] pos) (zpg ta):=by
 intro pins s σ H R I h
 refine Call_ (z44 I hg hm boot_range (PyProof.Rows.callWith_type1 (thn (ha pos pins s σ H _ I h) fun us s1 ⟨vs,H1,I1,r1,q1⟩=>?_) (by rw[hs,hs2]) (by rw[hs2];rfl)))
 obtain ⟨i,j,e,⟨q1,q2,q3,q4⟩,q⟩:=q1
 subst e
 cases r1 with
 | cons r rr=>
  cases rr with
  | cons r' rr=>
   cases rr
   obtain ⟨t,rfl⟩:=r
   obtain ⟨t',rfl⟩:=r'
   exact call_range_2 (zbo I1 q1 q2 q3 q4 q)
noncomputable def zq3 (wi:TI)(g:TG)(tb:TS):TS:=fun D σ H=>wi σ H fun J H1=>∃W:Nat→Nat→St→Hp→Prop,(∃m,W 0 m σ H1)∧∀i m σ H,W i m σ H→
 (J.stop i H∧D.nx σ H)∨(J.go i H∧∃N:St→Hp→Prop,(∀σ' H',N σ' H'→∃m',m'<m∧W (i+1) m' σ' H')∧∀x H',J.yld i H x H'→g x σ H' fun σ2 H2=>tb {D with nx:=N,ct:=N,bk:=D.nx} σ2 H2)
noncomputable def z97 (fp:List Addr)(h:Heap):List (Addr×Obj):=fp.filterMap fun b=>(h.get? b).map fun o=>(b,o)
theorem z3y {fp:List Addr}{h:Heap}{b:Addr}{o:Obj}(hb:b∈fp)(e:h.get? b=some o):(b,o)∈z97 fp h:=List.mem_filterMap.mpr ⟨b,hb,by rw[e];rfl⟩
theorem zek {fp:List Addr}{h:Heap}{p:Addr×Obj}(hp:p∈z97 fp h):p.1∈fp∧h.get? p.1=some p.2:=by
 obtain ⟨b,hb,e⟩:=List.mem_filterMap.mp hp
 cases q:h.get? b with
 | none=>rw[q]at e;cases e
 | some o=>
  rw[q]at e
  have e':(b,o)=p:=Option.some.inj e
  subst e'
  exact ⟨hb,q⟩
theorem Inv.pinned {pins:List (Addr×Obj)}{σ:St}{H:Hp}{s:Shared}{fp:List Addr}(I:Inv X pins σ H s)(hf:∀b∈fp,zg5 X pins H b)(ho:∀b∈fp,∃o,s.heap.get? b=some o∧∀v,o.data≠.cell v):Inv X (pins++z97 fp s.heap) σ H s:=
 I.pins_of fun p hp=>(List.mem_append.mp hp).elim (fun z=>I.pin p (List.mem_append_right _ z)) fun z=>by
  obtain ⟨hb,e⟩:=zek z
  obtain ⟨f0,f1,f2,_⟩:=hf p.1 hb
  obtain ⟨o,e',d⟩:=ho p.1 hb
  rw[e]at e';cases e'
  exact ⟨e,f0,f1,f2,d⟩
theorem Inv.unpinned {pins pl:List (Addr×Obj)}{σ:St}{H:Hp}{s:Shared}(I:Inv X (pins++pl) σ H s):Inv X pins σ H s:=I.pins_of fun p hp=>I.pin p (List.mem_append_right _ (List.mem_append_left _ hp))
theorem zny {iter : Expr}{body : List Stmt}{wi : TI}{g : TG}{tb : TS}{pos : Pos}(hp : PassesOwn (model X.prog X.w) X.A X.env X.xe)(hc : X.calm = true)(hi : PI X tg iter wi)(hg : PG X tg g)(hb : PSs X body tb)
  (hs:∀x,foldedSetIterable iter X.env x=pure x:=by intro _;rfl):PS X (.For tg iter body [] pos) (zq3 wi g tb):=by
 intro pins s σ H D I h
 refine wpAny_For (thn (hi pins s σ H _ I h) fun v s1 h1=>thn h1 fun itv s2 h2=>?_) hs
 obtain ⟨it,fp,tn,J,H2,e,I2,T,st2,f2,W,⟨m0,w0⟩,turn⟩:=h2
 subst e
 have stat:∀{H':Hp},(∀b∈fp,H' b=none)→∀b∈fp,zg5 X pins H' b:=fun hn b hb=>⟨hn b hb,(f2 b hb).2⟩
 refine codeAny_forLoop_any (fun n s'=>∃i σ' H',Inv X pins σ' H' s'∧tn i s'.heap∧(∀b∈fp,H' b=none)∧W i n σ' H') ?_ m0 ⟨0,σ,H2,I2,st2,fun b hb=>(f2 b hb).1,w0⟩
 rintro n s3 ⟨i,σ3,H3,I3,st3,fr3,w3⟩
 rcases turn i n σ3 H3 w3 with ⟨stop,qn⟩|⟨go,N,hN,step⟩
 ·refine wpAny_passesOwn hp (thn (T.done X rfl rfl rfl hc i pins s3 σ3 H3 X.xe I3 (stat fr3) st3 stop) fun r s4 ⟨hr,I4⟩=>?_)
  subst hr
  exact wpAny_execs_nil ⟨σ3,H3,I4,qn⟩
 ·refine wpAny_passesOwn hp (thn (T.item X rfl rfl rfl hc i pins s3 σ3 H3 X.xe I3 (stat fr3) st3 go) fun r s4 ⟨u,hr,h4⟩=>?_)
  subst hr
  refine wpAny_passesOwn hp (thn h4 fun _ s5 ⟨x,H5,I5,r5,y5,st5,fr5⟩=>?_)
  have I5':=I5.pinned (stat fr5) (T.obj _ _ st5)
  refine wpAny_passesOwn hp (thn (hg _ s5 σ3 H5 x u _ I5' r5 (step x H5 y5)) fun _ s6 ⟨σ6,H6,I6,q6⟩=>?_)
  refine wpAny_passesOwn hp (thn (hb _ s6 σ6 H6 _ I6 q6) fun f s7 q7=>?_)
  have again:∀{σ7:St}{H7:Hp},Inv X (pins++z97 fp s5.heap) σ7 H7 s7→N σ7 H7→∃m,m<n∧∃i σ' H',Inv X pins σ' H' s7∧tn i s7.heap∧(∀b∈fp,H' b=none)∧W i m σ' H':=fun {σ7 H7} I7 n7=>by
   obtain ⟨m',hm,w7⟩:=hN σ7 H7 n7
   refine ⟨m',hm,i+1,σ7,H7,I7.unpinned,T.keep _ _ _ st5 fun b hb o e=>(I7.pin (b,o) (List.mem_append_right _ (List.mem_append_right _ (z3y hb e)))).1,fun b hb=>?_,w7⟩
   obtain ⟨o,e,d⟩:=T.obj _ _ st5 b hb
   exact (I7.pin (b,o) (List.mem_append_right _ (List.mem_append_right _ (z3y hb e)))).2.1
  cases f with
  | next=>obtain ⟨σ7,H7,I7,n7⟩:=q7;exact again I7 n7
  | cont=>obtain ⟨σ7,H7,I7,n7⟩:=q7;exact again I7 n7
  | brk=>obtain ⟨σ7,H7,I7,q7⟩:=q7;exact ⟨σ7,H7,I7.unpinned,q7⟩
  | ret v=>obtain ⟨x7,σ7,H7,I7,r7,q7⟩:=q7;exact ⟨x7,σ7,H7,I7.unpinned,r7,q7⟩
end
theorem z8c {K : W.Frag}{a : Addr}{xs : List V}{g : TG}{tb : TS}{D : Ends}{σ : St}{H : Hp}(Pv : Nat → St → Hp → Prop)(h0 : Pv 0 σ H)(hl : ∀ i σ H, i ≤ xs.length → Pv i σ H → SqT K H a xs)
  (hs:∀i x σ H,xs[i]?=some x→Pv i σ H→g x σ H fun σ2 H2=>tb {D with nx:=Pv (i+1),ct:=Pv (i+1),bk:=D.nx} σ2 H2)(hd:∀σ H,Pv xs.length σ H→D.nx σ H) :
  ∃W:Nat→Nat→St→Hp→Prop,(∃m,W 0 m σ H)∧∀i m σ H,W i m σ H→
   ((Itt K a).stop i H∧D.nx σ H)∨((Itt K a).go i H∧∃N:St→Hp→Prop,(∀σ' H',N σ' H'→∃m',m'<m∧W (i+1) m' σ' H')∧∀x H',(Itt K a).yld i H x H'→g x σ H' fun σ2 H2=>tb {D with nx:=N,ct:=N,bk:=D.nx} σ2 H2):=by
 refine ⟨fun i m σ H=>m=xs.length-i∧i≤xs.length∧Pv i σ H,⟨xs.length,by simp,Nat.zero_le _,h0⟩,?_⟩
 rintro i m σ H ⟨rfl,hi,p⟩
 have q:=hl i σ H hi p
 by_cases hlt:i<xs.length
 ·refine .inr ⟨⟨xs,xs[i],q,by simp[hlt]⟩,Pv (i+1),fun σ' H' p'=>⟨xs.length-(i+1),by omega,rfl,hlt,p'⟩,fun x H' y=>?_⟩
  obtain ⟨e,y⟩:=y
  subst e
  exact hs i x σ _ (y xs q) p
 ·have e:i=xs.length:=by omega
  subst e
  exact .inl ⟨⟨xs,q,Nat.le_refl _⟩,hd σ H p⟩
theorem z6q {lo : Int}{n : Nat}{g : TG}{tb : TS}{D : Ends}{σ : St}{H : Hp}(Pv : Nat → St → Hp → Prop)(h0 : Pv 0 σ H)
  (hs:∀i σ H,i<n→Pv i σ H→g (.int (lo+i)) σ H fun σ2 H2=>tb {D with nx:=Pv (i+1),ct:=Pv (i+1),bk:=D.nx} σ2 H2)(hd:∀σ H,Pv n σ H→D.nx σ H) :
  ∃W:Nat→Nat→St→Hp→Prop,(∃m,W 0 m σ H)∧∀i m σ H,W i m σ H→
   ((Itr lo n).stop i H∧D.nx σ H)∨((Itr lo n).go i H∧∃N:St→Hp→Prop,(∀σ' H',N σ' H'→∃m',m'<m∧W (i+1) m' σ' H')∧∀x H',(Itr lo n).yld i H x H'→g x σ H' fun σ2 H2=>tb {D with nx:=N,ct:=N,bk:=D.nx} σ2 H2):=by
 refine ⟨fun i m σ H=>m=n-i∧i≤n∧Pv i σ H,⟨n,by simp,Nat.zero_le _,h0⟩,?_⟩
 rintro i m σ H ⟨rfl,hi,p⟩
 by_cases hlt:i<n
 ·refine .inr ⟨hlt,Pv (i+1),fun σ' H' p'=>⟨n-(i+1),by omega,rfl,hlt,p'⟩,fun x H' y=>?_⟩
  obtain ⟨e,y⟩:=y
  subst e y
  exact hs i σ _ hlt p
 ·have e:i=n:=by omega
  subst e
  exact .inl ⟨Nat.le_refl _,hd σ H p⟩
theorem z4e {c : TT}{tb : TS}{D : Ends}{σ : St}{H : Hp}(Pv : St → Hp → Prop)(μ : St → Hp → Nat)(h0 : Pv σ H)
  (hs:∀σ H,Pv σ H→c σ H fun b H1=>if b=true then tb {D with nx:=fun σ' H'=>Pv σ' H'∧μ σ' H'<μ σ H,ct:=fun σ' H'=>Pv σ' H'∧μ σ' H'<μ σ H,bk:=D.nx} σ H1 else D.nx σ H1)
  (mono:∀σ H Q Q',(∀b H1,Q b H1→Q' b H1)→c σ H Q→c σ H Q'):zb8 c tb D σ H:=by
 refine ⟨fun m σ H=>m=μ σ H∧Pv σ H,⟨_,rfl,h0⟩,?_⟩
 rintro m σ H ⟨rfl,p⟩
 refine mono σ H _ _ (fun b H1 q=>?_) (hs σ H p)
 cases b with
 | true=>exact ⟨_,fun σ' H' ⟨p',l⟩=>⟨_,l,rfl,p'⟩,q⟩
 | false=>exact q
end
section
noncomputable abbrev R2:=V→V→Hp→VK→Prop
noncomputable def OpR (X:Cx)(f:Value→Value→Sem Value)(r:R2):Prop:=
 ∀(pins:List (Addr×Obj))(s:Shared)(σ:St)(H:Hp)(x y:V)(v u:Value)(Q:VK),Inv X pins σ H s→RelV x v→RelV y u→r x y H Q→
  wpAny (model X.prog X.w) X.A (f v u) (EP X pins σ Q) X.xe s
noncomputable def UnR (X:Cx)(f:Value→Sem Value)(r:V→Hp→VK→Prop):Prop:=
 ∀(pins:List (Addr×Obj))(s:Shared)(σ:St)(H:Hp)(x:V)(v:Value)(Q:VK),Inv X pins σ H s→RelV x v→r x H Q→
  wpAny (model X.prog X.w) X.A (f v) (EP X pins σ Q) X.xe s
noncomputable def z3w (X:Cx)(f:Value)(r:List V→Hp→VK→Prop):Prop:=
 ∀(pins:List (Addr×Obj))(s:Shared)(σ:St)(H:Hp)(xs:List V)(us:List Value)(Q:VK),Inv X pins σ H s→Vals xs us→r xs H Q→
  wpAny (model X.prog X.w) X.A (call f us) (EP X pins σ Q) X.xe s
noncomputable def tOp (r:R2)(ta tb:TE):TE:=fun σ H Q=>ta σ H fun x H1=>tb σ H1 fun y H2=>r x y H2 Q
noncomputable def tUn (r:V→Hp→VK→Prop)(ta:TE):TE:=fun σ H Q=>ta σ H fun x H1=>r x H1 Q
noncomputable def rI (C:Int→Int→Prop)(g:Int→Int→V):R2:=fun x y H Q=>∃i j,x=.int i∧y=.int j∧C i j∧Q (g i j) H
noncomputable def rI0 (g:Int→Int→V):R2:=fun x y H Q=>∃i j,x=.int i∧y=.int j∧Q (g i j) H
noncomputable def rU (g:Int→V):V→Hp→VK→Prop:=fun x H Q=>∃i,x=.int i∧Q (g i) H
section
variable {X:Cx}{a b c:Expr}{ta tb tc:TE}{pos:Pos}
theorem zsc (ha : PE X a ta)(hb : PE X b tb){pins : List (Addr × Obj)}{s : Shared}{σ : St}{H : Hp}{R : V → V → Hp → Prop}(I : Inv X pins σ H s)
  (h:ta σ H fun x H1=>tb σ H1 fun y H2=>R x y H2){Q:Value→Shared→Prop}{f:Value→Value→Sem Value}
  (hf:∀v u s2 x y H2,Inv X pins σ H2 s2→RelV x v→RelV y u→R x y H2→wpAny (model X.prog X.w) X.A (f v u) Q X.xe s2) :
  wpAny (model X.prog X.w) X.A (eval a X.env) (fun v s₁=>wpAny (model X.prog X.w) X.A (eval b X.env) (fun u s₂=>wpAny (model X.prog X.w) X.A (f v u) Q X.xe s₂) X.xe s₁) X.xe s:=by
 refine thn (ha pins s σ H _ I h) fun v s1 ⟨x,H1,I1,r1,q1⟩=>?_
 refine thn (hb pins s1 σ H1 _ I1 q1) fun u s2 ⟨y,H2,I2,r2,q2⟩=>?_
 exact hf v u s2 x y H2 I2 r1 r2 q2
theorem zrh {op:Operator}{r:R2}(ho:OpR X (binaryOp op) r)(ha:PE X a ta)(hb:PE X b tb):PE X (.BinOp a op b pos) (tOp r ta tb):=by
 intro pins s σ H Q I h
 exact wpAny_BinOp (zsc ha hb I h fun v u s2 x y H2 I2 rx ry q=>ho pins s2 σ H2 x y v u Q I2 rx ry q)
theorem zrf {op:UnaryOp}{r:V→Hp→VK→Prop}(ho:UnR X (unaryOp op) r)(ha:PE X a ta):PE X (.UnaryOp op a pos) (tUn r ta):=by
 intro pins s σ H Q I h
 exact UnaryOp_ (thn (ha pins s σ H _ I h) fun v s1 ⟨x,H1,I1,r1,q1⟩=>ho pins s1 σ H1 x v Q I1 r1 q1)
theorem opI {f : Value → Value → Sem Value}{C : Int → Int → Prop}{g : Int → Int → Int}
  (rule:∀(i j:Int)(t u:Tok)(s:Shared)(Q:Value→Shared→Prop)(E:Value→Shared→Prop),C i j→Q (.int (g i j) s.toks) {s with toks:=s.toks+1}→wpAny (model X.prog X.w) X.A (f (.int i t) (.int j u)) Q E s) :
  OpR X f (rI C fun i j=>.int (g i j)):=by
 intro pins s σ H x y v u Q I rx ry h
 obtain ⟨i,j,rfl,rfl,hc,q⟩:=h
 obtain ⟨t,rfl⟩:=rx
 obtain ⟨t',rfl⟩:=ry
 exact rule i j t t' s _ _ hc ⟨.int (g i j),H,I.tok _,⟨_,rfl⟩,q⟩
theorem zss {f : Value → Value → Sem Value}{g : Int → Int → Int}
  (rule:∀(i j:Int)(t u:Tok)(s:Shared)(Q:Value→Shared→Prop)(E:Value→Shared→Prop),Q (.int (g i j) s.toks) {s with toks:=s.toks+1}→wpAny (model X.prog X.w) X.A (f (.int i t) (.int j u)) Q E s) :
  OpR X f (rI0 fun i j=>.int (g i j)):=by
 intro pins s σ H x y v u Q I rx ry h
 obtain ⟨i,j,rfl,rfl,q⟩:=h
 obtain ⟨t,rfl⟩:=rx
 obtain ⟨t',rfl⟩:=ry
 exact rule i j t t' s _ _ ⟨.int (g i j),H,I.tok _,⟨_,rfl⟩,q⟩
theorem zq8 {f : Value → Value → Sem Value}{g : Int → Int → Bool}
  (rule:∀(i j:Int)(t u:Tok)(s:Shared)(Q:Value→Shared→Prop)(E:Value→Shared→Prop),Q (.bool (g i j)) s→wpAny (model X.prog X.w) X.A (f (.int i t) (.int j u)) Q E s) :
  OpR X f (rI0 fun i j=>.bl (g i j)):=by
 intro pins s σ H x y v u Q I rx ry h
 obtain ⟨i,j,rfl,rfl,q⟩:=h
 obtain ⟨t,rfl⟩:=rx
 obtain ⟨t',rfl⟩:=ry
 exact rule i j t t' s _ _ ⟨.bl (g i j),H,I,rfl,q⟩
noncomputable def zua (i j:Int):Prop:=0<j∧j<1073741824
noncomputable def zqc (i j:Int):Prop:=0≤j∧j≤1000000∧i.natAbs<2^64
noncomputable def CMul (i j:Int):Prop:=(-(2^64)<i∧i<2^64)∨(-(2^64)<j∧j<2^64)
theorem CMul.ok {i j:Int}(h:CMul i j):IntMulOk i j:=by
 rcases h with ⟨h1,h2⟩|⟨h1,h2⟩
 ·exact .of_left (intBits_le_64 h1 h2)
 ·exact .of_right (intBits_le_64 h1 h2)
theorem z27:OpR X (binaryOp .Add) (rI0 fun i j=>.int (i+j)):=zss fun _ _ _ _ _ _ _ q=>add_int q
theorem z20:OpR X (binaryOp .Sub) (rI0 fun i j=>.int (i-j)):=zss fun _ _ _ _ _ _ _ q=>sub_int q
theorem z5a:OpR X (binaryOp .Mult) (rI CMul fun i j=>.int (i*j)):=opI fun _ _ _ _ _ _ _ hc q=>mul_int q hc.ok
theorem z6c:OpR X (binaryOp .FloorDiv) (rI zua fun i j=>.int (i/j)):=opI fun i j _ _ _ _ _ hc q=>by
 have h1:(0:Int)<j:=hc.1
 have h2:j<1073741824:=hc.2
 exact floordiv_int (by omega) (by rw[Int.fdiv_eq_ediv_of_nonneg i (by omega)];exact q) (.inl (PyProof.noPylong_small (by omega)))
theorem z3s:OpR X (binaryOp .Mod) (rI (fun _ j=>0<j) fun i j=>.int (i%j)):=opI fun i j _ _ _ _ _ hc q=>by
 have h1:(0:Int)<j:=hc
 exact mod_int' (by omega) (by rw[Int.fmod_eq_emod_of_nonneg i (by omega)];exact q)
theorem z43:OpR X (binaryOp .Pow) (rI zqc fun i j=>.int (i^j.toNat)):=opI fun _ _ _ _ _ _ _ hc q=>pow_int_small hc.1 hc.2.1 hc.2.2 q
theorem unI {f : Value → Sem Value}{g : Int → Int}
  (rule:∀(i:Int)(t:Tok)(s:Shared)(Q:Value→Shared→Prop)(E:Value→Shared→Prop),Q (.int (g i) s.toks) {s with toks:=s.toks+1}→wpAny (model X.prog X.w) X.A (f (.int i t)) Q E s) :
  UnR X f (rU fun i=>.int (g i)):=by
 intro pins s σ H x v Q I rx h
 obtain ⟨i,rfl,q⟩:=h
 obtain ⟨t,rfl⟩:=rx
 exact rule i t s _ _ ⟨.int (g i),H,I.tok _,⟨_,rfl⟩,q⟩
theorem z3g:UnR X (unaryOp .USub) (rU fun i=>.int (-i)):=unI fun _ _ _ _ _ q=>neg_int q
end
noncomputable def zr2:V→V→Bool
 | .non,.non=>true|.non,.int _=>true|.int _,.non=>true|.non,.bl _=>true|.bl _,.non=>true|.non,.str _=>true|.str _,.non=>true
 | .int _,.int _=>true|.bl _,.bl _=>true|.str _,.str _=>true|.byt _,.byt _=>true
 | .int _,.str _=>true|.str _,.int _=>true|.bl _,.str _=>true|.str _,.bl _=>true
 | _,_=>false
noncomputable def rEq:R2:=fun x y H Q=>zr2 x y=true∧Q (.bl (decide (x=y))) H
noncomputable def rNe:R2:=fun x y H Q=>zr2 x y=true∧Q (.bl (!decide (x=y))) H
theorem zfh {i j:Int}:decide (V.int i=V.int j)=(i == j):=by
 rw[Bool.eq_iff_iff]
 simp
theorem zj6 {i j:Bool}:decide (V.bl i=V.bl j)=(i == j):=by
 rw[Bool.eq_iff_iff]
 simp
theorem zfg {i j:Str}:decide (V.str i=V.str j)=(i == j):=by
 rw[Bool.eq_iff_iff]
 simp
theorem zfi {i j:Array UInt8}:decide (V.byt i=V.byt j)=(i.toList == j.toList):=by
 rw[Bool.eq_iff_iff]
 cases i
 cases j
 simp
section
variable {X:Cx}{a b c:Expr}{ta tb tc:TE}{pos:Pos}
theorem z0y {pins:List (Addr×Obj)}{σ:St}{H:Hp}{s:Shared}{Q:VK}{k k':Bool}(I:Inv X pins σ H s)(q:Q (.bl k) H)(e:k=k'):EP X pins σ Q (.bool k') s:=by
 subst e
 exact ⟨.bl k,H,I,rfl,q⟩
theorem z6d:OpR X (compareOp .Eq) rEq:=by
 intro pins s σ H x y v u Q I rx ry h
 obtain ⟨hs,q⟩:=h
 cases x with
 | non=>
  cases rx
  cases y with
  | non=>cases ry;exact PySem.EqNone.eq_none_none (z0y I q (by simp))
  | bl j=>cases ry;exact PySem.EqNone.eq_none_bool (z0y I q (by simp))
  | int j=>obtain ⟨t',rfl⟩:=ry;exact PySem.EqNone.eq_none_int (z0y I q (by simp))
  | str j=>obtain ⟨t',rfl⟩:=ry;exact PySem.EqNone.eq_none_str (z0y I q (by simp))
  | _=>exact absurd (show false=true from hs) Bool.false_ne_true
 | bl i=>
  cases rx
  cases y with
  | non=>cases ry;exact PySem.EqNone.eq_bool_none (z0y I q (by simp))
  | bl j=>cases ry;exact eq_bool (z0y I q zj6)
  | str j=>obtain ⟨t',rfl⟩:=ry;exact PySem.EqMixed.eq_bool_str (z0y I q (by simp))
  | _=>exact absurd (show false=true from hs) Bool.false_ne_true
 | int i=>
  obtain ⟨t,rfl⟩:=rx
  cases y with
  | non=>cases ry;exact PySem.EqNone.eq_int_none (z0y I q (by simp))
  | int j=>obtain ⟨t',rfl⟩:=ry;exact eq_int (z0y I q zfh)
  | str j=>obtain ⟨t',rfl⟩:=ry;exact PySem.EqMixed.eq_int_str (z0y I q (by simp))
  | _=>exact absurd (show false=true from hs) Bool.false_ne_true
 | str i=>
  obtain ⟨t,rfl⟩:=rx
  cases y with
  | non=>cases ry;exact PySem.EqNone.eq_str_none (z0y I q (by simp))
  | bl j=>cases ry;exact PySem.EqMixed.eq_str_bool (z0y I q (by simp))
  | int j=>obtain ⟨t',rfl⟩:=ry;exact PySem.EqMixed.eq_str_int (z0y I q (by simp))
  | str j=>obtain ⟨t',rfl⟩:=ry;exact eq_str (z0y I q zfg)
  | _=>exact absurd (show false=true from hs) Bool.false_ne_true
 | byt i=>
  obtain ⟨t,rfl⟩:=rx
  cases y with
  | byt j=>obtain ⟨t',rfl⟩:=ry;exact PySem.W.eq_bytes (z0y I q zfi)
  | _=>exact absurd (show false=true from hs) Bool.false_ne_true
 | _=>cases y<;>exact absurd (show false=true from hs) Bool.false_ne_true
theorem zlb:OpR X (compareOp .NotEq) rNe:=by
 intro pins s σ H x y v u Q I rx ry h
 obtain ⟨hs,q⟩:=h
 cases x with
 | non=>
  cases rx
  cases y with
  | non=>cases ry;exact PySem.EqNone.ne_none_none (z0y I q (by simp))
  | bl j=>cases ry;exact PySem.EqNone.ne_none_bool (z0y I q (by simp))
  | int j=>obtain ⟨t',rfl⟩:=ry;exact PySem.EqNone.ne_none_int (z0y I q (by simp))
  | str j=>obtain ⟨t',rfl⟩:=ry;exact PySem.EqNone.ne_none_str (z0y I q (by simp))
  | _=>exact absurd (show false=true from hs) Bool.false_ne_true
 | bl i=>
  cases rx
  cases y with
  | non=>cases ry;exact PySem.EqNone.ne_bool_none (z0y I q (by simp))
  | bl j=>cases ry;exact ne_bool (z0y I q (congrArg not zj6))
  | str j=>obtain ⟨t',rfl⟩:=ry;exact PySem.EqMixed.ne_bool_str (z0y I q (by simp))
  | _=>exact absurd (show false=true from hs) Bool.false_ne_true
 | int i=>
  obtain ⟨t,rfl⟩:=rx
  cases y with
  | non=>cases ry;exact PySem.EqNone.ne_int_none (z0y I q (by simp))
  | int j=>obtain ⟨t',rfl⟩:=ry;exact ne_int (z0y I q (congrArg not zfh))
  | str j=>obtain ⟨t',rfl⟩:=ry;exact PySem.EqMixed.ne_int_str (z0y I q (by simp))
  | _=>exact absurd (show false=true from hs) Bool.false_ne_true
 | str i=>
  obtain ⟨t,rfl⟩:=rx
  cases y with
  | non=>cases ry;exact PySem.EqNone.ne_str_none (z0y I q (by simp))
  | bl j=>cases ry;exact PySem.EqMixed.ne_str_bool (z0y I q (by simp))
  | int j=>obtain ⟨t',rfl⟩:=ry;exact PySem.EqMixed.ne_str_int (z0y I q (by simp))
  | str j=>obtain ⟨t',rfl⟩:=ry;exact ne_str (z0y I q (congrArg not zfg))
  | _=>exact absurd (show false=true from hs) Bool.false_ne_true
 | byt i=>
  obtain ⟨t,rfl⟩:=rx
  cases y with
  | byt j=>obtain ⟨t',rfl⟩:=ry;exact PySem.W.ne_bytes (z0y I q (congrArg not zfi))
  | _=>exact absurd (show false=true from hs) Bool.false_ne_true
 | _=>cases y<;>exact absurd (show false=true from hs) Bool.false_ne_true
theorem z83:OpR X (compareOp .Lt) (rI0 fun i j=>.bl (decide (i<j))):=zq8 fun _ _ _ _ _ _ _ q=>lt_int q
theorem zok:OpR X (compareOp .LtE) (rI0 fun i j=>.bl (decide (i≤j))):=zq8 fun _ _ _ _ _ _ _ q=>le_int q
theorem zcv:OpR X (compareOp .Gt) (rI0 fun i j=>.bl (decide (j<i))):=zq8 fun _ _ _ _ _ _ _ q=>gt_int q
theorem zrn:OpR X (compareOp .GtE) (rI0 fun i j=>.bl (decide (j≤i))):=zq8 fun _ _ _ _ _ _ _ q=>ge_int q
theorem z0s (b:Expr){op:CmpOp}(h:op≠.In:=by decide)(h2:op≠.NotIn:=by decide):behindInMarks op b=false:=by
 have e1:(op == CmpOp.In)=false:=by cases op<;>first|rfl|exact absurd rfl h
 have e2:(op == CmpOp.NotIn)=false:=by cases op<;>first|rfl|exact absurd rfl h2
 cases b<;>simp[behindInMarks,e1,e2]
theorem zl6 {op:CmpOp}{r:R2}(ho:OpR X (compareOp op) r)(ha:PE X a ta)(hb:PE X b tb)(hm:behindInMarks op b=false):PE X (.Compare a [op] [b] pos) (tOp r ta tb):=by
 intro pins s σ H Q I h
 exact wpAny_Compare1 (zsc ha hb I h fun v u s2 x y H2 I2 rx ry q=>ho pins s2 σ H2 x y v u Q I2 rx ry q) hm
noncomputable def zjm (t:TE):TT:=fun σ H Q=>t σ H fun x H'=>∃k,x=.bl k∧Q k H'
theorem zkp {op:CmpOp}{r:R2}(ho:OpR X (compareOp op) r)(ha:PE X a ta)(hb:PE X b tb)(hm:behindInMarks op b=false):PT X (.Compare a [op] [b] pos) (zjm (tOp r ta tb)):=by
 intro pins s σ H Q I h
 refine wpAny_isTrue_Compare1 (thn (ha pins s σ H _ I h) fun v s1 ⟨x,H1,I1,r1,q1⟩=>thn (hb pins s1 σ H1 _ I1 q1) fun u s2 ⟨y,H2,I2,r2,q2⟩=>
  thn (ho pins s2 σ H2 x y v u _ I2 r1 r2 q2) fun c s3 ⟨z,H3,I3,r3,k,e,q3⟩=>?_) hm
 subst e
 cases r3
 exact wpAny_truthy_bool ⟨H3,I3,q3⟩
theorem z9g:(sizeLine:Nat)<2^63:=by rw[sizeLine_eq];decide
theorem zcw:OpR X (binaryOp .Add) (fun x y H Q=>∃i j,x=.str i∧y=.str j∧i.length+j.length≤sizeLine∧Q (.str (i++j)) H):=by
 intro pins s σ H x y v u Q I rx ry h
 obtain ⟨i,j,rfl,rfl,hz,q⟩:=h
 obtain ⟨t,rfl⟩:=rx
 obtain ⟨t',rfl⟩:=ry
 exact add_str (fun t' tk=>⟨.str (i++j),H,I.tok _,⟨_,rfl⟩,q⟩) hz
theorem z6x {x:V}{us:List Value}(r:Vals [x] us):∃u,us=[u]∧RelV x u:=by
 cases r with
 | cons r1 r2=>cases r2;exact ⟨_,rfl,r1⟩
theorem zjh {x y:V}{us:List Value}(r:Vals [x,y] us):∃u w',us=[u,w']∧RelV x u∧RelV y w':=by
 cases r with
 | cons r1 r2=>
  cases r2 with
  | cons r3 r4=>cases r4;exact ⟨_,_,rfl,r1,r3⟩
theorem z8j:z3w X (.builtin "abs") (fun xs H Q=>∃i,xs=[.int i]∧Q (.int (if i<0 then -i else i)) H):=by
 intro pins s σ H xs us Q I r h
 obtain ⟨i,rfl,q⟩:=h
 obtain ⟨u,rfl,t,rfl⟩:=z6x r
 exact call_abs_int fun u tk=>⟨.int (if i<0 then -i else i),H,I.tok _,⟨_,rfl⟩,q⟩
theorem z6v (hc:X.calm=true):z3w X (.builtin "max") (fun xs H Q=>∃i j,xs=[.int i,.int j]∧Q (.int (if j>i then j else i)) H):=by
 intro pins s σ H xs us Q I r h
 obtain ⟨i,j,rfl,q⟩:=h
 obtain ⟨u,w',rfl,⟨t,rfl⟩,⟨t',rfl⟩⟩:=zjh r
 refine max_two_ints (I.ok.hd hc) fun h' tk k=>⟨_,H,I.kept k,?_,q⟩
 by_cases hj:j>i
 ·rw[if_pos hj,if_pos hj];exact ⟨_,rfl⟩
 ·rw[if_neg hj,if_neg hj];exact ⟨_,rfl⟩
theorem zfs (hc:X.calm=true):z3w X (.builtin "min") (fun xs H Q=>∃i j,xs=[.int i,.int j]∧Q (.int (if j<i then j else i)) H):=by
 intro pins s σ H xs us Q I r h
 obtain ⟨i,j,rfl,q⟩:=h
 obtain ⟨u,w',rfl,⟨t,rfl⟩,⟨t',rfl⟩⟩:=zjh r
 refine min_two_ints (I.ok.hd hc) fun h' tk k=>⟨_,H,I.kept k,?_,q⟩
 by_cases hj:j<i
 ·rw[if_pos hj,if_pos hj];exact ⟨_,rfl⟩
 ·rw[if_neg hj,if_neg hj];exact ⟨_,rfl⟩
theorem z9p:z3w X (.type "int") (fun xs H Q=>(∃i,xs=[.int i]∧Q (.int i) H)∨∃k,xs=[.bl k]∧Q (.int (if k then 1 else 0)) H):=by
 intro pins s σ H xs us Q I r h
 rcases h with ⟨i,rfl,q⟩|⟨k,rfl,q⟩
 ·obtain ⟨u,rfl,t,rfl⟩:=z6x r
  exact call_int_int ⟨.int i,H,I,⟨_,rfl⟩,q⟩
 ·obtain ⟨u,rfl,r1⟩:=z6x r
  cases r1
  exact call_int_bool ⟨.int (if k then 1 else 0),H,I.tok _,⟨_,rfl⟩,q⟩
end
end
section
structure ObjM (h:Heap)(x dx C:Addr)(mA:Str→Option Value):Prop where
 obj:h.get? x=some (PySem.W.instObj C dx)
 ns:h.Ns1 dx mA
 ne:dx≠x
theorem zeq {h:Heap}{dx:Addr}{mA:Str→Option Value}(n:h.Ns1 dx mA):∃od,h.get? dx=some od∧∀name,PySem.W.lookIn name od=some (mA name):=by
 obtain ⟨o,es,ep,ho,hd,hk,_,hm⟩:=n
 refine ⟨o,ho,fun name=>?_⟩
 have e:=hm name
 unfold nsFind findBy at e
 rw[←Array.find?_toList]at e
 unfold PySem.W.lookIn
 rw[hd]
 dsimp only
 split
 ·rename_i y q
  rw[q]at e
  exact congrArg some e
 ·rename_i q
  rw[q]at e
  have a:es.toList.any (·.refKey)=false:=by
   rw[List.any_eq_false]
   intro y hy
   obtain ⟨z,t,hkey⟩:=hk y (Array.mem_toList_iff.mp hy)
   simp[DictEntry.refKey,hkey]
  have a':¬es.toList.any (·.refKey)=true:=by rw[a];exact Bool.false_ne_true
  rw[if_neg a']
  exact congrArg some e
theorem ObjM.look {h:Heap}{x dx C:Addr}{mA:Str→Option Value}(I:ObjM h x dx C mA):∃od,PySem.W.InstAt h x (PySem.W.instObj C dx) C (some od)∧∀name,PySem.W.lookIn name od=some (mA name):=
 let ⟨od,ho,hl⟩:=zeq I.ns
 ⟨od,⟨I.obj,rfl,rfl,ho⟩,hl⟩
section
variable {prog:Program}{w:World}{A:Around}{E:Value→Shared→Prop}{s:Shared}{K:W.Frag}{x dx C f:Addr}{mA:Str→Option Value}{name:Str}{v:Value}
end
noncomputable def z7d (f:Str)(v:V):List (Str×V)→List (Str×V)
 | []=>[(f,v)]
 | (g,x)::r=>if g=f then (g,v)::r else (g,x)::z7d f v r
theorem z4b (f g:Str)(v:V):∀fs:List (Str×V),(z7d f v fs).lookup g=if g=f then some v else fs.lookup g
 | []=>by
  show List.lookup g [(f,v)]=_
  by_cases h:g=f
  ·have hb:(g == f)=true:=beq_iff_eq.mpr h
   simp only[List.lookup,hb,if_pos h]
  ·have hb:(g == f)=false:=beq_eq_false_iff_ne.mpr h
   simp only[List.lookup,hb,if_neg h]
 | (k,x)::r=>by
  have ih:=z4b f g v r
  rw[show z7d f v ((k,x)::r)=(if k=f then (k,v)::r else (k,x)::z7d f v r) from rfl]
  by_cases hk:k=f
  ·rw[if_pos hk]
   by_cases h:g=k
   ·have hb:(g == k)=true:=beq_iff_eq.mpr h
    simp only[List.lookup,hb,if_pos (h.trans hk)]
   ·have hb:(g == k)=false:=beq_eq_false_iff_ne.mpr h
    simp only[List.lookup,hb,if_neg (fun e:g=f=>h (e.trans hk.symm))]
  ·rw[if_neg hk]
   by_cases h:g=k
   ·have hb:(g == k)=true:=beq_iff_eq.mpr h
    simp only[List.lookup,hb,if_neg (fun e:g=f=>hk (h.symm.trans e))]
   ·have hb:(g == k)=false:=beq_eq_false_iff_ne.mpr h
    simp only[List.lookup,hb]
    exact ih
theorem z6k (f:Str)(v:V):∀fs:List (Str×V),f∈(z7d f v fs).map (·.1)∧∀g,g∈fs.map (·.1)→g∈(z7d f v fs).map (·.1)
 | []=>⟨by simp[z7d],fun g h=>by simp at h⟩
 | (k,x)::r=>by
  obtain ⟨i1,i2⟩:=z6k f v r
  rw[show z7d f v ((k,x)::r)=(if k=f then (k,v)::r else (k,x)::z7d f v r) from rfl]
  by_cases hk:k=f
  ·rw[if_pos hk]
   subst hk
   exact ⟨by simp,fun g h=>by simpa using h⟩
  ·rw[if_neg hk]
   refine ⟨?_,fun g h=>?_⟩
   ·rw[List.map_cons]
    exact List.mem_cons_of_mem _ i1
   ·rw[List.map_cons]at h ⊢
    rcases List.mem_cons.mp h with e|e
    ·exact List.mem_cons.mpr (.inl e)
    ·exact List.mem_cons_of_mem _ (i2 g e)
theorem z6h (f:Str)(v:V):∀fs:List (Str×V),(z7d f v fs).length≤fs.length+1
 | []=>by simp[z7d]
 | (k,x)::r=>by
  have ih:=z6h f v r
  rw[show z7d f v ((k,x)::r)=(if k=f then (k,v)::r else (k,x)::z7d f v r) from rfl]
  by_cases hk:k=f
  ·rw[if_pos hk,List.length_cons,List.length_cons];omega
  ·rw[if_neg hk,List.length_cons,List.length_cons];omega
theorem RelO.some_of {v:V}{o:Option Value}(r:RelO (some v) o):∃u,o=some u∧RelV v u:=by
 cases o with
 | none=>exact (show False from r).elim
 | some u=>exact ⟨u,rfl,r⟩
theorem RelO.none_of {o:Option Value}(r:RelO none o):o=none:=by
 cases o with
 | none=>rfl
 | some u=>exact (show False from r).elim
section
variable {P:Program}{w:World}{H H':Hp}{h h':Heap}{a C dx:Addr}{fs fs':List (Str×V)}
theorem zlo (hok:HOk P w H h)(e:H a=some (.ins C dx fs)):∃mA,ObjM h a dx C mA∧(∀f,RelO (fs.lookup f) (mA f))∧PySem.Within mA (fs.map (·.1))∧fs.length≤1000∧H dx=some (.own a):=by
 obtain ⟨d,z,ne,ob,mA,n,r,q⟩:=(show ObjOk P w H h a (.ins C dx fs) from hok a _ e)
 exact ⟨mA,⟨ob,n,ne⟩,r,q,z,d⟩
end
structure Cls (K:W.Frag)(C:Addr):Prop where
 pg:PySem.W.plainGet K C Str.empty=true
 hd:PySem.W.hasDictIn K C=true
 po:PySem.W.plainOver K C=true
 sa:PySem.W.findIn K (.ref C) "__setattr__"=some (some (.builtin "object.__setattr__"))
theorem Cls.get {K:W.Frag}{C:Addr}(c:Cls K C)(f:Str):PySem.W.plainGet K C f=true:=c.pg
section
variable {X:Cx}{pins:List (Addr×Obj)}{σ:St}{H:Hp}{s:Shared}{a C dx:Addr}{fs:List (Str×V)}{f:Str}{v:V}{A:Around}{E:Value→Shared→Prop}
end
section
variable {X:Cx}{o e value:Expr}{f:Str}{pos pos' tpos:Pos}{ta tv:TE}
end
section
variable {X:Cx}{pins:List (Addr×Obj)}{σ:St}{H:Hp}{s:Shared}{A:Around}{E:Value→Shared→Prop}{Q:Value→Shared→Prop}{c:Value}{b:Bool}
inductive TyOf (K:W.Frag)(H:Hp):V→Value→Prop where
 | non:TyOf K H .non (.type "NoneType")
 | bl (x:Bool):TyOf K H (.bl x) (.type "bool")
 | int (i:Int):TyOf K H (.int i) (.type "int")
 | str (x:Str):TyOf K H (.str x) (.type "str")
 | flt (x:UInt64):TyOf K H (.flt x) (.type "float")
 | lst {a:Addr} {xs:List V} (e:H a=some (.lst xs)):TyOf K H (.ref a) (.type "list")
 | frz {a:Addr} {o:Obj} {xs:List V} (e:H a=some (.frz o (.lst xs))):TyOf K H (.ref a) (.type "list")
 | tup {a:Addr} {xs:List V} (e:H a=some (.tup xs)):TyOf K H (.ref a) (.type "tuple")
 | dK {a:Addr} {kvs:List (Key×V)} (e:H a=some (.dK kvs)):TyOf K H (.ref a) (.type "dict")
 | dT {a:Addr} {kvs:List (List Key×V)} (e:H a=some (.dT kvs)):TyOf K H (.ref a) (.type "dict")
 | ins {a C dx : Addr} {fs : List (Str × V)} (e : H a = some (.ins C dx fs)) (cl : Cls K C) (ha : PySem.W.findIn K (.ref C) "__class__" = some (some (.builtin "object.__class__")))
   (hn:PySem.W.specialIn K (.builtin "object.__class__") "__get__"=some (some (.builtin "getset_descriptor.__get__"))) (htk:PySem.W.takesIn K (.builtin "object.__class__")=some true)
   (hm:PySem.W.mroIn K C (.type "object")=some true):TyOf K H (.ref a) (.ref C)
theorem z3t {x : V}{u t : Value}(I : Inv X pins σ H s)(rx : RelV x u)(ty : TyOf X.K H x t)(e : PySem.W.kitOne X.K t c = some b)(h : ∀ tk, Q (.bool b) { s with toks := tk }) :
  wpAny (model X.prog X.w) A (call (.builtin "isinstance") [u,c]) Q E s:=by
 cases ty with
 | non=>cases (show u=Value.none from rx);exact PySem.W.kia_one PySem.W.kitx_none I.kIn True.intro e (fun z=>nomatch z) h
 | bl y=>cases (show u=Value.bool y from rx);exact PySem.W.kia_one PySem.W.kitx_bool I.kIn True.intro e (fun z=>nomatch z) h
 | int i=>obtain ⟨t,q⟩:=(show ∃t,u=Value.int i t from rx);cases q;exact PySem.W.kia_one PySem.W.kitx_int I.kIn True.intro e (fun z=>nomatch z) h
 | str y=>obtain ⟨t,q⟩:=(show ∃t,u=Value.str y t from rx);cases q;exact PySem.W.kia_one PySem.W.kitx_str I.kIn True.intro e (fun z=>nomatch z) h
 | flt y=>obtain ⟨t,q⟩:=(show ∃t,u=Value.float y t from rx);cases q;exact PySem.W.kia_one PySem.W.kitx_float I.kIn True.intro e (fun z=>nomatch z) h
 | @lst a xs ea=>
  cases (show u=Value.ref a from rx)
  obtain ⟨_,_,n,_,h1⟩:=(show ObjOk X.prog X.w H s.heap a (.lst xs) from I.hok a _ ea)
  exact PySem.W.kia_one PySem.W.kitx_list I.kIn ⟨_,h1,rfl⟩ e (fun z=>nomatch z) h
 | @frz a ob xs ea=>
  cases (show u=Value.ref a from rx)
  obtain ⟨_,_,_,n,_,h1⟩:=(show ObjOk X.prog X.w H s.heap a (.frz ob (.lst xs)) from I.hok a _ ea)
  exact PySem.W.kia_one PySem.W.kitx_list I.kIn ⟨_,h1,rfl⟩ e (fun z=>nomatch z) h
 | @tup a xs ea=>
  cases (show u=Value.ref a from rx)
  obtain ⟨_,_,_,p⟩:=(show ObjOk X.prog X.w H s.heap a (.tup xs) from I.hok a _ ea)
  obtain ⟨o,h1,h2,_⟩:=p
  exact PySem.W.kia_one PySem.W.kitx_tuple I.kIn ⟨o,h1,h2⟩ e (fun z=>nomatch z) h
 | @dK a kvs ea=>
  cases (show u=Value.ref a from rx)
  obtain ⟨_,_,vs,_,p⟩:=(show ObjOk X.prog X.w H s.heap a (.dK kvs) from I.hok a _ ea)
  obtain ⟨o,es,ep,h1,h2,_⟩:=p
  exact PySem.W.kia_one PySem.W.kitx_dict I.kIn ⟨o,h1,h2.1⟩ e (fun z=>nomatch z) h
 | @dT a kvs ea=>
  cases (show u=Value.ref a from rx)
  obtain ⟨_,_,xs,_,o,es,ep,h1,h2,_⟩:=(show ObjOk X.prog X.w H s.heap a (.dT kvs) from I.hok a _ ea)
  exact PySem.W.kia_one PySem.W.kitx_dict I.kIn ⟨o,h1,h2.1⟩ e (fun z=>nomatch z) h
 | @ins a C dx fs ea cl ha hn htk hm=>
  cases (show u=Value.ref a from rx)
  obtain ⟨mA,O,_⟩:=zlo I.hok ea
  obtain ⟨od,J,_⟩:=O.look
  exact PySem.W.kia_one (PySem.W.kitx_own (cl.get _) cl.hd ha hn htk hm) I.kIn J e (fun z=>nomatch z) h
end
end
section
structure Room (k:Nat)(A:Around):Prop where
 hd:A.handled=none
 dp:A.depth+3*k+5<recursionLimit
 un:A.units+16*k+200<cLine
 gd:A.guards=some []
theorem Room.mono {j k:Nat}{A:Around}(r:Room k A)(h:j≤k):Room j A:=⟨r.hd,by have:=r.dp;omega,by have:=r.un;omega,r.gd⟩
theorem Room.deeper {k:Nat}{A:Around}(r:Room (k+1) A)(env:Env):Room k (A.deeper env):=
 ⟨r.hd,by have:=r.dp;show A.depth+1+3*k+5<_;omega,by have:=r.un;show A.units+3+16*k+200<_;omega,r.gd⟩
theorem zd0 {A:Around}{C:Addr}{us:List Value}{kw:List (Str×Value)}:(A.under (.builtin "type.__call__" ⟨.ref C::us,kw⟩)).depth=A.depth+1:=by
 first|rfl|simp[Around.under,Code.weight,Code.isCreation,Code.isGuard,Code.isCaller,Code.frames,Code.isFrame,guardIds]
theorem zcz {A:Around}{C:Addr}{us:List Value}{kw:List (Str×Value)}:(A.under (.builtin "type.__call__" ⟨.ref C::us,kw⟩)).units=A.units+1:=by
 first|rfl|simp[Around.under,Code.cUnits,Code.frames,Code.isFrame]
theorem Room.make {k:Nat}{A:Around}(r:Room (k+1) A)(C:Addr)(us:List Value)(kw:List (Str×Value)):Room k (A.under (.builtin "type.__call__" ⟨.ref C::us,kw⟩)):=
 ⟨r.hd,by have:=r.dp;rw[zd0];omega,by have:=r.un;rw[zcz];omega,by have:=r.gd;first|exact this|(simpa [Around.under,Code.isGuard,guardIds] using this)⟩
theorem Room.depth {k:Nat}{A:Around}(r:Room k A):A.depth<recursionLimit:=by have:=r.dp;omega
theorem Room.units {k:Nat}{A:Around}(r:Room k A):A.units+64<cLine:=by have:=r.un;omega
noncomputable def zqv:TA:=fun _ H Q=>Q [] H
noncomputable def zjq (ta:TE)(tr:TA):TA:=fun σ H Q=>ta σ H fun x H1=>tr σ H1 fun xs H2=>Q (x::xs) H2
section
variable {X:Cx}{e:Expr}{es:List Expr}{te:TE}{t:TA}{pos:Pos}
theorem zoi:PA X [] zqv:=fun _ _ _ _ H Q I h=>Calls.spliced_nil ⟨[],H,I,.nil,h⟩
theorem zla (ha:PE X e te)(hr:PA X es t)(hs:starEach (e::es) X.env=(false,eval e X.env)::starEach es X.env:=by rfl):PA X (e::es) (zjq te t):=by
 intro pos pins s σ H Q I h
 rw[hs]
 show wpAny _ _ (spliced ((false,eval e X.env)::backTo pos (starEach es X.env))) _ _ s
 refine Calls.spliced_cons (thn (ha pins s σ H _ I h) fun u s1 ⟨x,H1,I1,r1,q1⟩=>?_)
 exact thn (hr pos pins s1 σ H1 _ I1 q1) fun us s2 ⟨xs,H2,I2,r2,q2⟩=>⟨x::xs,H2,I2,.cons r1 r2,q2⟩
noncomputable def zqs (t:TA):TE:=fun σ H Q=>t σ H fun xs H1=>xs.length≤sizeLine∧∀p,H1 p=none→Q (.ref p) (upd H1 p (.tup xs))
noncomputable def zq1 (t:TA):TE:=fun σ H Q=>t σ H fun xs H1=>xs.length≤sizeLine∧∀p,H1 p=none→Q (.ref p) (upd H1 p (.lst xs))
theorem zo8 {x1}(h:PA X es t):PE X (.Tuple es x1 pos) (zqs t):=by
 intro pins s σ H Q I hq
 refine wpAny_Tuple_spliced (thn (h pos pins s σ H _ I hq) fun us s1 ⟨xs,H1,I1,r,z,q⟩=>⟨by rw[←r.length];exact z,?_⟩)
 have hf:H1 s1.heap.objs.size=none:=I1.hok.fresh (Nat.le_refl _)
 refine ⟨.ref s1.heap.objs.size,upd H1 s1.heap.objs.size (.tup xs),I1.laid (t':=s1.toks) (fun b u e=>Heap.get?_push_of_some _ e) (Nat.le_refl _) ?_,rfl,q _ hf⟩
 exact ⟨z,us,r,⟨_,Heap.get?_push_size _ rfl,rfl,_,rfl⟩⟩
theorem zod (h:PA X es t):PE X (.List es pos) (zq1 t):=by
 intro pins s σ H Q I hq
 refine wpAny_List_spliced (thn (h pos pins s σ H _ I hq) fun us s1 ⟨xs,H1,I1,r,z,q⟩=>⟨by rw[←r.length];exact z,?_⟩)
 have hf:H1 s1.heap.objs.size=none:=I1.hok.fresh (Nat.le_refl _)
 refine ⟨.ref s1.heap.objs.size,upd H1 s1.heap.objs.size (.lst xs),I1.laid (t':=s1.toks) (fun b u e=>Heap.get?_push_of_some _ e) (Nat.le_refl _) ?_,rfl,q _ hf⟩
 exact ⟨z,us,0,r,Heap.get?_push_size _ rfl⟩
end
noncomputable abbrev Sp:=List V→Hp→VK→XK→Prop
noncomputable abbrev CXT:=List Env→Hp→Shared→XK→Value→Shared→Prop
structure Env0 (P:Program)(w:World)(K:W.Frag)(mg:Str→Option Value)(base:Heap)(A:Around)(outer:List Env)(s:Shared)(H:Hp):Prop where
 frames:A.frames=some outer
 mod:Mod K mg base
 bs:∀b o,base.get? b=some o→s.heap.get? b=some o∧H b=none
 bsz:base.objs.size≤s.heap.objs.size
 funs:s.heap.FunFrames base outer
 frf:∀b∈frs outer,H b=none
 hok:HOk P w H s.heap
 bare:AllBare s.gens
noncomputable def CE (outer:List Env)(P:Program)(w:World)(H:Hp)(s:Shared)(Q:VK)(u:Value)(s':Shared):Prop:=
 ∃v H',s'.os=s.os∧AllBare s'.gens∧Un (frs outer) [] H H' s.heap s'.heap∧HOk P w H' s'.heap∧RelV v u∧Q v H'
noncomputable def CR (CX:CXT)(outer:List Env)(P:Program)(w:World)(H:Hp)(s:Shared)(Q:VK)(E:XK)(r:Result)(s':Shared):Prop:=
 match r with
 | .ok (.ret u)=>CE outer P w H s Q u s'
 | .ok _=>False
 | .error e=>CX outer H s E e s'
structure FnOk (P:Program)(w:World)(K:W.Frag)(mg:Str→Option Value)(base:Heap)(CX:CXT)(k:Nat)(f:Addr)(fd:FuncData)(ps:List Str)(sp:Sp):Prop where
 len:∀vs H Q E,sp vs H Q E→vs.length=ps.length
 run:∀(A:Around)(outer:List Env)(s:Shared)(H:Hp)(args:Args)(us:List Value)(vs:List V)(Q:VK)(E:XK),Room k A→Env0 P w K mg base A outer s H→BindsTo s fd args (ps.zip us)→Vals vs us→sp vs H Q E→
  codeAny (model P w) A (.call (.ref f) args) (CR CX outer P w H s Q E) s
theorem FnOk.mono {P : Program}{w : World}{K : W.Frag}{mg : Str → Option Value}{base : Heap}{CX : CXT}{j k : Nat}{f : Addr}{fd : FuncData}{ps : List Str}{sp : Sp}(F : FnOk P w K mg base CX j f fd ps sp)(h : j ≤ k) :
  FnOk P w K mg base CX k f fd ps sp:=⟨F.len,fun A outer s H args us vs Q E hr=>F.run A outer s H args us vs Q E (hr.mono h)⟩
theorem Env0.make {P : Program}{w : World}{K : W.Frag}{mg : Str → Option Value}{base : Heap}{A : Around}{outer : List Env}{s : Shared}{H : Hp}(e : Env0 P w K mg base A outer s H)(C : Addr)(us : List Value)(kw : List (Str × Value)) :
  Env0 P w K mg base (A.under (.builtin "type.__call__" ⟨.ref C::us,kw⟩)) outer s H:=⟨by first|exact e.frames|(simpa [Around.under,Code.envs,Code.isFrame,pushEnvs] using e.frames),e.mod,e.bs,e.bsz,e.funs,e.frf,e.hok,e.bare⟩
section
variable {X:Cx}{pins:List (Addr×Obj)}{σ:St}{H:Hp}{s s':Shared}
theorem Inv.env0 (I:Inv X pins σ H s):Env0 X.prog X.w X.K X.mg X.base X.A X.stack s H:=
 ⟨I.ok.frames,I.ok.mod,I.bs,Nat.le_trans I.ok.bsz I.sz,I.stack,I.stkFree,I.hok,I.bare⟩
theorem Inv.after {Q:VK}{u:Value}(I:Inv X pins σ H s)(h:CE X.stack X.prog X.w H s Q u s'):EP X pins σ Q u s':=by
 obtain ⟨v,H',os,bare,un,hok,r,q⟩:=h
 obtain ⟨hh,g,d,t,os'⟩:=s'
 obtain rfl:os'=s.os:=os
 exact ⟨v,H',I.call (h':=hh) (g':=g) (d':=d) (t':=t) (ch:=[]) un hok bare (fun b z=>absurd z (by simp)),r,q⟩
end
noncomputable def zge (sp:Sp)(dvs:List V)(E:XK)(t:TA):TE:=fun σ H Q=>t σ H fun vs H1=>sp (vs++dvs) H1 Q E
noncomputable def Binds (K:W.Frag)(fd:FuncData)(ps:List Str)(ds:List Value):Prop:=
 ∀(s:Shared)(us:List Value),K.In s.heap→(us++ds).length=ps.length→BindsTo s fd ⟨us,[]⟩ (ps.zip (us++ds))
theorem Binds.all {K:W.Frag}{fd:FuncData}{ps:List Str}(h:∀us:List Value,us.length=ps.length→bindArgs fd ⟨us,[]⟩=pure (ps.zip us)):Binds K fd ps []:=fun s us _ hl=>by
 rw[List.append_nil]at hl ⊢
 exact .of_eq (h us hl)
noncomputable def zg3 (CX:CXT)(X:Cx)(E:XK):Prop:=∀(pins:List (Addr×Obj))(σ:St)(H:Hp)(s:Shared)(e:Value)(s':Shared),Inv X pins σ H s→CX X.stack H s E e s'→X.xe e s'
section
variable {X:Cx}{CX:CXT}{k:Nat}{f C:Addr}{fd:FuncData}{ps:List Str}{sp:Sp}{dvs:List V}{ds:List Value}{E:XK}{x m:Str}{p pos apos:Pos}{e o:Expr}{es:List Expr}{ta:TE}{t:TA}
theorem znd {pins : List (Addr × Obj)}{σ : St}{H : Hp}{s : Shared}{Q : VK}{us : List Value}{vs : List V}(F : FnOk X.prog X.w X.K X.mg X.base CX k f fd ps sp)(hr : Room k X.A)(hb : Binds X.K fd ps ds)(hd : Vals dvs ds)(hx : zg3 CX X E)
  (I:Inv X pins σ H s)(r:Vals vs us)(h:sp (vs++dvs) H Q E):wpAny (model X.prog X.w) X.A (call (.ref f) us) (EP X pins σ Q) X.xe s:=by
 have r2:Vals (vs++dvs) (us++ds):=r.append hd
 have hl:(us++ds).length=ps.length:=by rw[←r2.length];exact F.len _ _ _ _ h
 refine wpAny_call (codeAny_mono (F.run X.A X.stack s H ⟨us,[]⟩ (us++ds) (vs++dvs) Q E hr I.env0 (hb s us I.kIn hl) r2 h) fun r s' hq=>?_)
 cases r with
 | error e=>exact hx pins σ H s e s' I hq
 | ok fl=>
  cases fl with
  | ret u=>exact I.after hq
  | next=>exact False.elim hq
  | brk=>exact False.elim hq
  | cont=>exact False.elim hq
theorem zl7 (F : FnOk X.prog X.w X.K X.mg X.base CX k f fd ps sp)(hr : Room k X.A)(hg : Gl X x)(hm : X.mg x = some (.ref f))(hk : PySem.W.keepIn X.K (.ref f) = true)(hb : Binds X.K fd ps ds)(hd : Vals dvs ds)(hx : zg3 CX X E)
  (ha:PA X (e::es) t)(hdb:(x == ("__debug__":Str))=false:=by decide)(he:starEach (e::es) X.env=(false,eval e X.env)::starEach es X.env:=by rfl)(hpl:(backTo pos (starEach es X.env)).any (·.1)=false:=by rfl) :
  PE X (.Call (.Name x p) (e::es) [] pos) (zge sp dvs E t):=by
 intro pins s σ H Q I h
 refine wpAny_Call_Name_kw (z6i I hg hm ?_ hdb)
 refine PySem.W.callWith_K (h₀:=X.base) I.ok.mod.kin hk (thn (ha pos pins s σ H _ I h) fun us s1 ⟨vs,H1,I1,r,q⟩=>⟨I1.kIn,?_⟩) he hpl
 exact znd F hr hb hd hx I1 r q
end
section
variable {X:Cx}{CX:CXT}{k:Nat}{f C:Addr}{fd:FuncData}{ps ks:List Str}{sp:Sp}{E:XK}{x m:Str}{p pos apos kpos:Pos}{e o:Expr}{es:List Expr}{kws:List Keyword}{te ta:TE}{t tk:TA}{nm:Option Str}
variable {g:List Value→List Value→List Value}{gV:List V→List V→List V}
end
structure FnScope (N P:List Str)(sc:Scope):Prop where
 kind:sc.kind=.function
 co:sc.isCoroutine=false
 gen:sc.isGenerator=false
 nd:N.Nodup
 pre:N.take P.length=P
 par:∀x∈P,sc.names.lookup x=some .local∨sc.names.lookup x=some .cell
 nofree:∀y∈sc.names,y.2≠.free
theorem z9s {kindOf:Str→Option NameKind}{x:Str}:∀{binds:List (Str×Value)}{m:Str→Option Value},(∀v,(x,v)∉binds)→bindL kindOf binds m x=m x
 | [],_,_=>rfl
 | (n,v)::r,m,h=>by
  unfold bindL
  rw[z9s fun w hw=>h w (List.mem_cons_of_mem _ hw)]
  split
  ·have:x≠n:=by rintro rfl;exact h v List.mem_cons_self
   simp[this]
  ·rfl
theorem z9u {kindOf:Str→Option NameKind}{x:Str}:∀{binds:List (Str×Value)}{m:Str→Option Value},(∀v,(x,v)∉binds)→bindC kindOf binds m x=m x
 | [],_,_=>rfl
 | (n,v)::r,m,h=>by
  unfold bindC
  rw[z9u fun w hw=>h w (List.mem_cons_of_mem _ hw)]
  split
  ·rfl
  ·have:x≠n:=by rintro rfl;exact h v List.mem_cons_self
   simp[this]
theorem z9t {kindOf : Str → Option NameKind}{x : Str}{v : Value} : ∀ {P : List Str} {vs : List Value} {i : Nat} {m : Str → Option Value}, P.Nodup → P[i]? = some x → vs[i]? = some v → kindOf x = some .local →
  bindL kindOf (P.zip vs) m x=some v
 | [],_,_,_,_,h,_,_=>by simp at h
 | _::_,[],_,_,_,_,h,_=>by simp at h
 | p::P,w::vs,0,m,nd,h1,h2,hk=>by
  simp at h1 h2;subst h1;subst h2
  show bindL kindOf ((p,w)::P.zip vs) m p=_
  unfold bindL
  rw[z9s fun v hv=>(List.nodup_cons.mp nd).1 (List.of_mem_zip hv).1,if_pos hk]
  simp
 | p::P,w::vs,i+1,m,nd,h1,h2,hk=>by
  show bindL kindOf ((p,w)::P.zip vs) m x=_
  unfold bindL
  exact z9t (i:=i) (List.nodup_cons.mp nd).2 (by simpa using h1) (by simpa using h2) hk
theorem z9v {kindOf : Str → Option NameKind}{x : Str}{v : Value} : ∀ {P : List Str} {vs : List Value} {i : Nat} {m : Str → Option Value}, P.Nodup → P[i]? = some x → vs[i]? = some v → kindOf x ≠ some .local →
  bindC kindOf (P.zip vs) m x=some v
 | [],_,_,_,_,h,_,_=>by simp at h
 | _::_,[],_,_,_,_,h,_=>by simp at h
 | p::P,w::vs,0,m,nd,h1,h2,hk=>by
  simp at h1 h2;subst h1;subst h2
  show bindC kindOf ((p,w)::P.zip vs) m p=_
  unfold bindC
  rw[z9u fun v hv=>(List.nodup_cons.mp nd).1 (List.of_mem_zip hv).1,if_neg hk]
  simp
 | p::P,w::vs,i+1,m,nd,h1,h2,hk=>by
  show bindC kindOf ((p,w)::P.zip vs) m x=_
  unfold bindC
  exact z9v (i:=i) (List.nodup_cons.mp nd).2 (by simpa using h1) (by simpa using h2) hk
noncomputable def start (N:List Str)(vs:List V):St:=vs.map some++List.replicate (N.length-vs.length) none
noncomputable def zch (CX:CXT)(P:Program)(w:World)(K:W.Frag)(mg:Str→Option Value)(base:Heap)(N:List Str)(qual:Str)(scope:Scope)(f:Addr)(cd:Value)(A:Around)(outer:List Env)(s:Shared)(H:Hp)(E:XK):Cx where
 prog:=P
 w:=w
 K:=K
 mg:=mg
 base:=base
 A:=A.deeper (envOfC qual scope s.heap.objs.size f cd)
 N:=N
 s₀:=s
 H₀:=H
 env:=envOfC qual scope s.heap.objs.size f cd
 outer:=outer
 stack:=envOfC qual scope s.heap.objs.size f cd::outer
 ex:=[]
 calm:=true
 fn:=fun _=>true
 pn:=[]
 xe:=fun e s'=>wpAny (model P w) (A.deeper (envOfC qual scope s.heap.objs.size f cd)) (leaving (envOfC qual scope s.heap.objs.size f cd) e) (fun _ s''=>CX outer H s E e s'') (fun e' s''=>CX outer H s E e' s'') s'
theorem zck {sc:Scope}{n:Nat}{x:Str}(h:sc.names.lookup x=some .cell):∃c,(cellsFrom n sc.names []).lookup x=some c:=by
 have q:=PySem.W.cellsFrom_some sc.names n [] (.inl h)
 exact Option.isSome_iff_exists.mp q
theorem zf0 {CX : CXT}{P : Program}{w : World}{K : W.Frag}{mg : Str → Option Value}{base : Heap}{N ps : List Str}{qual : Str}{scope : Scope}{f : Addr}{cd : Value}{A : Around}{outer : List Env}{s s1 : Shared}{H : Hp}{E : XK}{us : List Value}{vs : List V}
  (S:FnScope N ps scope)(hd:A.handled=none)(e0:Env0 P w K mg base A outer s H)(hl:vs.length=ps.length)(r:Vals vs us)
  (x:InCallC s s.heap.objs.size (bindL (envOfC qual scope s.heap.objs.size f cd).kindOf (ps.zip us) fun _=>none) (cellsFrom (s.heap.objs.size+1) scope.names []) (bindC (envOfC qual scope s.heap.objs.size f cd).kindOf (ps.zip us) fun _=>none) s1) :
  Inv (zch CX P w K mg base N qual scope f cd A outer s H E) [] (start N vs) H s1:=by
 have hpl:ps.length≤N.length:=by have:=congrArg List.length S.pre;rw[List.length_take]at this;omega
 obtain ⟨h1,tk,rfl,hk⟩:=x.done
 have noA:∀b:Addr,b∉(zch CX P w K mg base N qual scope f cd A outer s H E).ex:=fun b z=>absurd (show b∈([]:List Addr) from z) (by simp)
 refine ⟨⟨e0.mod,S.kind,rfl,rfl,Nat.le_refl _,fun y z c h1 h2=>?_,fun y hy=>?_,fun y c _ h=>?_,fun _=>hd,Around.frames_deeper e0.frames,.inr ⟨rfl,rfl⟩,fun b z=>absurd z (noA b),e0.bs,e0.bsz,fun b _ _=>noA b,fun b z=>absurd z (noA b),e0.funs,e0.frf⟩,
  rfl,e0.bare,Un.kept hk,⟨_,x.toInCall.ns,fun i y v h1 h2 h3=>?_⟩,fun y c h=>⟨_,x.cell y c h⟩,e0.hok.fresh (Nat.le_refl _),fun y c h=>?_,fun p hp=>absurd (show p∈([]:List (Addr×Obj)) from hp) (by simp),e0.hok.kept hk,?_⟩
 ·exact name_of_addr x.apart (PySem.mem_of_lookup h1) (PySem.mem_of_lookup h2)
 ·have hy:scope.names.lookup y=some .cell∨scope.names.lookup y=some .free:=hy
  rcases hy with hy|hy
  ·exact zck hy
  ·exact absurd rfl (S.nofree _ (PySem.mem_of_lookup hy))
 ·exact Nat.le_of_lt (x.above y c (PySem.mem_of_lookup h))
 ·have hi : i<vs.length := by
   unfold start at h2
   by_cases hi:i<vs.length
   ·exact hi
   ·rw[List.getElem?_append_right (by simpa using hi)]at h2
    rw[List.getElem?_replicate]at h2
    split at h2<;>cases h2
  have ha:vs[i]?=some v:=by
   unfold start at h2
   rw[List.getElem?_append_left (by simpa using hi),List.getElem?_map]at h2
   cases e:vs[i]? with
   | none=>rw[e]at h2;cases h2
   | some a=>rw[e]at h2;cases h2;rfl
  obtain ⟨u,hu,rv⟩:=r.get ha
  have hp:ps[i]?=some y:=by
   rw[←S.pre,List.getElem?_take_of_lt (by omega)];exact h1
  have ndP:ps.Nodup:=by rw[←S.pre];exact S.nd.sublist (List.take_sublist _ _)
  refine ⟨u,rv,?_⟩
  rcases S.par y (List.mem_of_getElem? hp) with k|k
  ·exact .inl ⟨k,z9t ndP hp hu k⟩
  ·obtain ⟨c,e⟩:=zck (n:=s.heap.objs.size+1) k
   refine .inr ⟨.inl k,c,e,?_⟩
   have q:=x.cell y c e
   rw[z9v ndP hp hu (by show scope.names.lookup y≠_;rw[k];decide)]at q
   exact q
 ·exact e0.hok.fresh (Nat.le_of_lt (x.above y c (PySem.mem_of_lookup h)))
 ·unfold start
  show _=N.length
  rw[List.length_append,List.length_map,List.length_replicate]
  omega
theorem zpj {CX : CXT}{P : Program}{w : World}{K : W.Frag}{mg : Str → Option Value}{base : Heap}{k : Nat}{f : Addr}{name qual : Str}{params : Arguments}{body : List Stmt}{scope : Scope}{dV kV doc pm cdv ct oc : Value}{an od : Option Addr}
  {osl:Array (Option Value)}{N ps:List Str}{sp:Sp}(lk:K.lookup f=some ⟨oc,od,.func (PySem.W.fnOf name qual params body scope dV kV doc pm an cdv ct),osl⟩)(hcd:PySem.W.codeIn K cdv qual=true)(S:FnScope N ps scope)
  (len:∀vs H Q E,sp vs H Q E→vs.length=ps.length)
  (hbody:∀(A:Around)(outer:List Env)(s:Shared)(H:Hp)(vs:List V)(Q:VK)(E:XK),Room k (A.deeper (envOfC qual scope s.heap.objs.size f cdv))→sp vs H Q E→
   ∃t,PSs (zch CX P w K mg base N qual scope f cdv A outer s H E) body t∧t {nx:=fun _ H'=>Q .non H',rt:=Q} (start N vs) H) :
  FnOk P w K mg base CX (k+1) f (PySem.W.fnOf name qual params body scope dV kV doc pm an cdv ct) ps sp:=by
 refine ⟨len,fun A outer s H args us vs Q E hr e0 hb r hsp=>?_⟩
 have hl:=len _ _ _ _ hsp
 have KX:K.In s.heap:=e0.mod.kin.keeps fun b o e=>(e0.bs b o e).1
 have lim:s.heap.NoLimit:=e0.mod.nolimit.keeps fun b o e=>(e0.bs b o e).1
 have hkind:∀y∈ps.zip us,scope.names.lookup y.1=some .local∨(scope.names.lookup y.1=some .cell∧((cellsFrom (s.heap.objs.size+1) scope.names []).lookup y.1).isSome=true):=fun ⟨n,v⟩ hy=>by
  rcases S.par n (List.of_mem_zip hy).1 with q|q
  ·exact .inl q
  ·exact .inr ⟨q,PySem.W.cellsFrom_some _ _ _ (.inl q)⟩
 refine codeAny_call_function hr.depth (KX _ _ lk) rfl S.co S.gen rfl (PySem.W.codeRec_of KX hcd) (hb _ _ _ _ ?_)
 refine wpAny_newFunctionEnv_cells S.kind hkind fun env he s1 x=>?_
 subst he
 refine ⟨lim.keeps x.toInCall.keep,codeAny_func ?_⟩
 obtain ⟨t,ht,hq⟩:=hbody A outer s H vs Q E (hr.deeper _) hsp
 have I:Inv (zch CX P w K mg base N qual scope f cdv A outer s H E) [] (start N vs) H s1:=zf0 S hr.hd e0 hl r x
 refine wpAny_mono (ht [] s1 (start N vs) H _ I hq) (fun fl s' hs=>?_) fun e s' hs=>hs
 have fin:∀{σ':St}{H':Hp}{v:V}{u:Value},Inv (zch CX P w K mg base N qual scope f cdv A outer s H E) [] σ' H' s'→RelV v u→Q v H'→CE outer P w H s Q u s':=
  fun {σ' H' v u} J rv q=>⟨v,H',J.os,J.bare,J.base,J.hok,rv,q⟩
 cases fl with
 | ret u=>
  obtain ⟨v,σ',H',J,rv,q⟩:=hs
  exact fin J rv q
 | next=>
  obtain ⟨σ',H',J,q⟩:=hs
  exact fin (v:=V.non) (u:=Value.none) J rfl q
 | brk=>
  obtain ⟨_,_,_,q⟩:=hs
  exact False.elim q
 | cont=>
  obtain ⟨_,_,_,q⟩:=hs
  exact False.elim q
end
end L2
namespace L2
open PySem PySem.Spec PyProof.Rows
section
variable {X:Cx}{x:Str}{p pos:Pos}{e:Expr}{es:List Expr}{t:TA}{id T:String}{r:List V→Hp→VK→Prop}
noncomputable def tCB (r:List V→Hp→VK→Prop)(t:TA):TE:=fun σ H Q=>t σ H fun vs H1=>r vs H1 Q
theorem zh1 (hc : z3w X (.builtin id) r)(hg : Gl X x)(hm : X.mg x = none)(hv : bootBuiltins x = some (.builtin id))(ha : PA X (e :: es) t)(hn : x ≠ "__name__" := by decide)(hdb : (x == ("__debug__" : Str)) = false := by decide)
  (he:starEach (e::es) X.env=(false,eval e X.env)::starEach es X.env:=by rfl)(hpl:(backTo pos (starEach es X.env)).any (·.1)=false:=by rfl):PE X (.Call (.Name x p) (e::es) [] pos) (tCB r t):=by
 intro pins s σ H Q I h
 refine wpAny_Call_Name_kw (z44 I hg hm hv ?_ hn hdb)
 exact PyProof.Rows.callWith_builtin1 (thn (ha pos pins s σ H _ I h) fun us s1 ⟨vs,H1,I1,r1,q1⟩=>hc pins s1 σ H1 vs us Q I1 r1 q1) he hpl
theorem zea (hc : z3w X (.type T) r)(hg : Gl X x)(hm : X.mg x = none)(hv : bootBuiltins x = some (.type T))(ha : PA X (e :: es) t)(hn : x ≠ "__name__" := by decide)(hdb : (x == ("__debug__" : Str)) = false := by decide)
  (he:starEach (e::es) X.env=(false,eval e X.env)::starEach es X.env:=by rfl)(hpl:(backTo pos (starEach es X.env)).any (·.1)=false:=by rfl):PE X (.Call (.Name x p) (e::es) [] pos) (tCB r t):=by
 intro pins s σ H Q I h
 refine wpAny_Call_Name_kw (z44 I hg hm hv ?_ hn hdb)
 exact PyProof.Rows.callWith_type1 (thn (ha pos pins s σ H _ I h) fun us s1 ⟨vs,H1,I1,r1,q1⟩=>hc pins s1 σ H1 vs us Q I1 r1 q1) he hpl
end
end L2
namespace HT
open PySem PyProof.Rows
section
open PySem.SeqAt
open PySem.AutoSeq1 (wpAny_loadPart')
open PySem.MeetsSeq PySem.MeetsSeq2 PySem.MeetsSeq3
end
section
variable {prog:Program}{w:World}{A:Around}{E:Value→Shared→Prop}{s:Shared}
theorem cat_tup {t b : Addr}{vs ws : List Value}{Q : Value → Shared → Prop}(ht : IsTup s.heap t vs.toArray)(hb : IsTup s.heap b ws.toArray)(hv : vs ≠ [])
  (h1:ws=[]→Q (.ref t) s)(h2:ws≠[]→Q (.ref s.heap.objs.size) {s with heap:=s.heap.push {cls:=.type "tuple",data:=.seq (vs++ws).toArray}})
  (hsz:vs.length+ws.length≤sizeLine):wpAny (model prog w) A (binaryOp .Add (.ref t) (.ref b)) Q E s:=by
 obtain ⟨⟨cls,dd,data,sl⟩,ho,hc,n,hd⟩:=id ht
 obtain ⟨⟨cls2,dd2,data2,sl2⟩,ho2,hc2,n2,hd2⟩:=id hb
 simp only at hc hd hc2 hd2
 subst hc hd hc2 hd2
 have e:vs.toArray++ws.toArray=(vs++ws).toArray:=by simp
 by_cases hw:ws=[]
 ·exact concat_meets ⟨_, ho, rfl⟩ ⟨_, ho2, rfl⟩ noFill_tuple_add seq_tuple_add PySem.F.slot_tuple_add PySem.F.entry_tuple_add (PySem.F.args_tuple_add_2 _ _)
   (tuple_addW1 t b vs.toArray ws.toArray n n2 dd dd2 sl sl2 (by simpa using hv) (by simp[hw])) ⟨ho,ho2,h1 hw⟩
 ·refine concat_meets ⟨_, ho, rfl⟩ ⟨_, ho2, rfl⟩ noFill_tuple_add seq_tuple_add PySem.F.slot_tuple_add PySem.F.entry_tuple_add (PySem.F.args_tuple_add_2 _ _)
   (tuple_addW2 t b vs.toArray ws.toArray n n2 dd dd2 sl sl2 (by simpa using hv) (by simpa using hw) (by rw[List.size_toArray,List.size_toArray];exact hsz)) ⟨ho,ho2,?_⟩
  rw[e]
  exact h2 hw
noncomputable def sIx (n d:Nat):Option Int→Nat
 | none=>d
 | some v=>if v<0 then (v+(n:Int)).toNat else min v.toNat n
theorem sIx_none (n d:Nat):sIx n d none=d:=rfl
theorem sIx_nat (n d k:Nat):sIx n d (some (k:Int))=min k n:=by
 show (if (k:Int)<0 then ((k:Int)+(n:Int)).toNat else min (k:Int).toNat n)=min k n
 rw[if_neg (by omega),Int.toNat_natCast]
theorem znb (n d:Nat)(hd:d≤n)(o:Option Int):sIx n d o≤n:=by
 cases o with
 | none=>exact hd
 | some v=>
  show (if v<0 then (v+(n:Int)).toNat else min v.toNat n)≤n
  by_cases hv:v<0
  ·rw[if_pos hv];omega
  ·rw[if_neg hv];exact Nat.min_le_right _ _
theorem zfm (v:Int)(n d:Nat):(if v<0 then max (v+(n:Int)) 0 else min v (n:Int))=((sIx n d (some v):Nat):Int):=by
 show (if v<0 then max (v+(n:Int)) 0 else min v (n:Int))=(((if v<0 then (v+(n:Int)).toNat else min v.toNat n):Nat):Int)
 by_cases hv:v<0
 ·simp only[if_pos hv];omega
 ·simp only[if_neg hv];omega
theorem zd7 (lo hi:Option Int)(n:Nat):Builtin.Slice.sliceAdjust lo hi 1 (n:Int)=(((sIx n 0 lo:Nat):Int),((sIx n n hi:Nat):Int)):=by
 have h1:¬((1:Int)<0):=by omega
 unfold Builtin.Slice.sliceAdjust
 simp only[h1,if_false]
 refine Prod.ext ?_ ?_
 ·cases lo with
  | none=>rfl
  | some v=>exact zfm v n 0
 ·cases hi with
  | none=>rfl
  | some v=>exact zfm v n n
theorem zct (i j:Nat):Builtin.Slice.slicePlaces (i:Int) (j:Int) 1=j-i:=by
 unfold Builtin.Slice.slicePlaces
 have h1:(1:Int)>0:=by omega
 simp only[h1,if_true,Int.ediv_one]
 split<;>omega
theorem z78 {v:Value}{o:Option Int}{Q:Option Int→Shared→Prop}(p:IsPart v o)(h:Q o s):wpAny (model prog w) A (Builtin.Slice.slicePartIndex v) Q E s:=by
 cases p with
 | none=>exact slicePart_none h
 | int i t=>exact slicePart_int h
theorem z3h {sl : Addr}{vl vu : Value}{lo hi : Option Int}{n : Nat}{Q : Int × Int × Nat → Shared → Prop}(hs : s.heap.IsSliceOf sl vl vu .none)(pl : IsPart vl lo)(pu : IsPart vu hi)
  (h:Q (((sIx n 0 lo:Nat):Int),1,sIx n n hi-sIx n 0 lo) s):wpAny (model prog w) A (Builtin.Slice.sliceApplied (.ref sl) (pure (n:Int))) Q E s:=by
 obtain ⟨os,hos,hcs,hds⟩:=id hs
 unfold Builtin.Slice.sliceApplied Builtin.Slice.sliceFields
 refine wpAny_bind (wpAny_bind (wpAny_field hos hds (x:=vl) rfl (wpAny_bind (wpAny_field hos hds (x:=vu) rfl (wpAny_bind (wpAny_field hos hds (x:=.none) rfl (wpAny_pure ?_)))))))
 refine wpAny_bind (slicePart_none ?_)
 show wpAny _ _ (if ((1:Int) == 0)=true then _ else _) _ _ s
 rw[if_neg (by decide)]
 refine wpAny_bind (z78 pl (wpAny_bind (z78 pu (wpAny_bind (wpAny_pure ?_)))))
 show wpAny _ _ (match Builtin.Slice.sliceAdjust lo hi 1 (n:Int) with|(lo,hi)=>pure (lo,(1:Int),Builtin.Slice.slicePlaces lo hi 1)) _ _ s
 rw[zd7 lo hi n]
 show wpAny _ _ (pure (((sIx n 0 lo:Nat):Int),(1:Int),Builtin.Slice.slicePlaces ((sIx n 0 lo:Nat):Int) ((sIx n n hi:Nat):Int) 1)) _ _ s
 rw[zct]
 exact wpAny_pure h
theorem zgx (xs:Array Value)(i k:Nat):((List.range k).filterMap fun (m:Nat)=>xs[((i:Int)+(m:Int)*1).toNat]?).toArray=((xs.toList.drop i).take k).toArray:=by
 have e:(fun (m:Nat)=>xs[((i:Int)+(m:Int)*1).toNat]?)=fun m=>xs[i+m]?:=by
  funext m
  have:((i:Int)+(m:Int)*1).toNat=i+m:=by omega
  rw[this]
 rw[e]
 have:=pick_run xs i k
 rw[List.filterMap_map]at this
 have e2:((fun x=>xs[x]?)∘fun x=>i+x)=fun m=>xs[i+m]?:=rfl
 rw[e2]at this
 rw[this]
theorem getItem_tuple_cut {t sl : Addr}{items : Array Value}{vl vu : Value}{lo hi : Option Int}{Q : Value → Shared → Prop}(ht : IsTup s.heap t items)(hs : s.heap.IsSliceOf sl vl vu .none)(pl : IsPart vl lo)(pu : IsPart vu hi)
  (hw:¬(sIx items.size 0 lo=0∧sIx items.size items.size hi=items.size))
  (h:Q (.ref s.heap.objs.size) {s with heap:=s.heap.push {cls:=.type "tuple",data:=.seq ((items.toList.drop (sIx items.size 0 lo)).take (sIx items.size items.size hi-sIx items.size 0 lo)).toArray}})
  (hsz:items.size≤sizeLine):wpAny (model prog w) A (getItem (.ref t) (.ref sl)) Q E s:=by
 have htake:sizeOk (.seq ((items.toList.drop (sIx items.size 0 lo)).take (sIx items.size items.size hi-sIx items.size 0 lo)).toArray):=by
  show ((items.toList.drop (sIx items.size 0 lo)).take (sIx items.size items.size hi-sIx items.size 0 lo)).toArray.size≤sizeLine
  rw[List.size_toArray,List.length_take,List.length_drop,Array.length_toList]
  omega
 have hj:sIx items.size items.size hi≤items.size:=znb _ _ (Nat.le_refl _) hi
 obtain ⟨os,hos,hcs,hds⟩:=id hs
 have hTs:s.TypeIs (.ref sl) "slice":=⟨os,hos,hcs⟩
 unfold getItem
 try with_reducible refine wpAny_holding ?_
 first|refine wpAny_bind (wpAny_pure ?_)|skip
 refine wpAny_bind (wpAny_sequenceKey ht.typeIs (by decide) ?_)
 refine wpAny_bind (wpAny_callSpecial?_slot (name:=Str.ofString "__getitem__") ht.typeIs PyProof.Rows.slot_tuple_getitem
  (wpAny_call_entry PyProof.Rows.slot_tuple_getitem ht.typeIs entry_tuple_getitem ?_ (args_tuple_getitem _ _)))
 show wpAny _ _ (Builtin.Tuple.tupleItemsOf (.ref t) >>= _) _ _ s
 refine wpAny_bind (tupleItemsOf_ ht ?_)
 refine wpAny_bind (wpAny_typeOf hTs ?_)
 rw[if_pos (by decide)]
 refine wpAny_bind (z3h hs pl pu ?_)
 have hno:¬((((sIx items.size 0 lo:Nat):Int) == 0&&(1:Int) == 1&&(sIx items.size items.size hi-sIx items.size 0 lo) == items.size)=true):=by
  intro q
  rw[Bool.and_eq_true,Bool.and_eq_true]at q
  have q1:((sIx items.size 0 lo:Nat):Int)=0:=eq_of_beq q.1.1
  have q2:sIx items.size items.size hi-sIx items.size 0 lo=items.size:=eq_of_beq q.2
  exact hw ⟨by omega,by omega⟩
 show wpAny _ _ (if (((sIx items.size 0 lo:Nat):Int) == 0&&(1:Int) == 1&&(sIx items.size items.size hi-sIx items.size 0 lo) == items.size)=true then _ else _) _ _ s
 rw[if_neg hno,zgx]
 first
  |exact wpAny_bind (m:=Builtin.Tuple.tupleExact _) (wpAny_newObj_type (wpAny_pure ⟨_,rfl,wpAny_pure h⟩) htake)
  |exact wpAny_bind (m:=Builtin.Tuple.tupleExact _) (wpAny_newObj_type (wpAny_bind (wpAny_pure (wpAny_pure ⟨_,rfl,wpAny_pure h⟩))) htake)
  |exact wpAny_bind (wpAny_bind (m:=Builtin.Tuple.tupleExact _) (wpAny_newObj_type (wpAny_pure (wpAny_pure ⟨_,rfl,wpAny_pure h⟩)) htake))
  |exact wpAny_bind (wpAny_bind (m:=Builtin.Tuple.tupleExact _) (wpAny_newObj_type (wpAny_pure ⟨_,rfl,wpAny_pure h⟩) htake))
end
end HT
namespace L2
open PySem PySem.Spec PyProof.Rows
noncomputable abbrev TO:=St→Hp→(Option Int→Hp→Prop)→Prop
noncomputable def PO (X:Cx)(e:Option Expr)(t:TO):Prop:=
 ∀(pins:List (Addr×Obj))(s:Shared)(σ:St)(H:Hp)(Q:Option Int→Hp→Prop),Inv X pins σ H s→t σ H Q→
  wpAny (model X.prog X.w) X.A (evalPart e X.env) (fun u s'=>∃o H',Inv X pins σ H' s'∧IsPart u o∧Q o H') X.xe s
noncomputable def za1:TO:=fun _ H Q=>Q none H
noncomputable def zjn (t:TE):TO:=fun σ H Q=>t σ H fun x H1=>∃i,x=.int i∧Q (some i) H1
section
variable {X:Cx}{e:Expr}{te:TE}{lo hi:Option Expr}{tl th:TO}{pos p2:Pos}
theorem zkx:PO X none za1:=by
 intro pins s σ H Q I h
 rw[evalPart_none]
 exact wpAny_pure ⟨none,H,I,.none,h⟩
theorem zkw (h:PE X e te):PO X (some e) (zjn te):=by
 intro pins s σ H Q I hw
 rw[evalPart_some]
 refine thn (h pins s σ H _ I hw) fun u s1 ⟨x,H1,I1,r1,q1⟩=>?_
 obtain ⟨i,rfl,q⟩:=q1
 obtain ⟨t,rfl⟩:=r1
 exact ⟨some i,H1,I1,.int i t,q⟩
noncomputable def SlR (X:Cx)(r:V→Option Int→Option Int→Hp→VK→Prop):Prop:=
 ∀(pins:List (Addr×Obj))(s:Shared)(σ:St)(H:Hp)(x:V)(v vl vu:Value)(lo hi:Option Int)(sl:Addr)(Q:VK),Inv X pins σ H s→RelV x v→s.heap.IsSliceOf sl vl vu .none→IsPart vl lo→IsPart vu hi→r x lo hi H Q→
  ∃T id,typeLookup (.type T) "__getitem__"=pure (some (.builtin id))∧s.TypeIs v T∧wpAny (model X.prog X.w) X.A (getItem v (.ref sl)) (EP X pins σ Q) X.xe s
noncomputable def tSl (r:V→Option Int→Option Int→Hp→VK→Prop)(te:TE)(tl th:TO):TE:=fun σ H Q=>te σ H fun x H1=>tl σ H1 fun l H2=>th σ H2 fun u H3=>r x l u H3 Q
theorem zgz {r:V→Option Int→Option Int→Hp→VK→Prop}(hr:SlR X r)(he:PE X e te)(hl:PO X lo tl)(hu:PO X hi th):PE X (.Subscript e (.Slice lo hi none p2) pos) (tSl r te tl th):=by
 intro pins s σ H Q I h
 refine Subscript_ (thn (he pins s σ H _ I h) fun v s1 ⟨x,H1,I1,r1,q1⟩=>?_)
 refine wpAny_Slice (thn (hl pins s1 σ H1 _ I1 q1) fun vl s2 ⟨l,H2,I2,pl,q2⟩=>thn (hu pins s2 σ H2 _ I2 q2) fun vu s3 ⟨u,H3,I3,pu,q3⟩=>?_)
 rw[evalPart_none]
 refine wpAny_pure ?_
 have I4:Inv X pins σ H3 {s3 with heap:=s3.heap.push {cls:=.type "slice",data:=.fields #[vl,vu,.none]}}:=I3.kept (t':=s3.toks) fun b ob q=>Heap.get?_push_of_some _ q
 obtain ⟨T,id,hT,ht,hg⟩:=hr pins {s3 with heap:=s3.heap.push {cls:=.type "slice",data:=.fields #[vl,vu,.none]}} σ H3 x v vl vu l u s3.heap.objs.size Q I4 r1 (Heap.IsSliceOf.new ..) pl pu q3
 show wpAny (model X.prog X.w) X.A (subscriptTail e (.Slice lo hi none p2) v (.ref s3.heap.objs.size)) (EP X pins σ Q) X.xe {s3 with heap:=s3.heap.push {cls:=.type "slice",data:=.fields #[vl,vu,.none]}}
 exact tail_any (ops:=[.ref s3.heap.objs.size,v]) ht hT hg (by with_unfolding_all rfl)
noncomputable def z8f (xs:List V)(lo hi:Option Int):List V:=(xs.drop (HT.sIx xs.length 0 lo)).take (HT.sIx xs.length xs.length hi-HT.sIx xs.length 0 lo)
theorem z6s (xs:List V)(lo hi:Option Int):(z8f xs lo hi).length≤xs.length:=by
 unfold z8f
 rw[List.length_take,List.length_drop]
 omega
noncomputable def ztm (K:W.Frag):V→Option Int→Option Int→Hp→VK→Prop:=fun x lo hi H Q=>∃a xs,x=.ref a∧SqT K H a xs∧
 ¬(HT.sIx xs.length 0 lo=0∧HT.sIx xs.length xs.length hi=xs.length)∧∀p,H p=none→Q (.ref p) (upd H p (.tup (z8f xs lo hi)))
theorem zn6:SlR X (ztm X.K):=by
 intro pins s σ H x v vl vu lo hi sl Q I rx hs pl pu h
 obtain ⟨a,xs,rfl,hx,hw,q⟩:=h
 cases rx
 obtain ⟨its,r,ht,hz⟩:=I.tuple hx
 have hlen:its.toArray.size=xs.length:=by rw[List.size_toArray];exact r.length.symm
 refine ⟨"tuple",_,PyProof.Rows.slot_tuple_getitem.lookup,ht.typeIs,?_⟩
 refine HT.getItem_tuple_cut ht hs pl pu (by rw[hlen];exact hw) ?_ (by rw[hlen];exact hz)
 rw[hlen]
 refine ⟨.ref s.heap.objs.size,_,I.laid (t':=s.toks) (o:=.tup (z8f xs lo hi)) (fun b ob q=>Heap.get?_push_of_some _ q) (Nat.le_refl _) ?_,rfl,q _ (I.hok.fresh (Nat.le_refl _))⟩
 exact ⟨Nat.le_trans (z6s xs lo hi) hz,_,(r.drop (HT.sIx xs.length 0 lo)).take (HT.sIx xs.length xs.length hi-HT.sIx xs.length 0 lo),IsTup.new _ _⟩
noncomputable def zrb (K:W.Frag):R2:=fun x y H Q=>∃a b xs ys,x=.ref a∧y=.ref b∧SqT K H a xs∧SqT K H b ys∧xs≠[]∧xs.length+ys.length≤sizeLine∧
 (ys=[]→Q (.ref a) H)∧(ys≠[]→∀p,H p=none→Q (.ref p) (upd H p (.tup (xs++ys))))
theorem Vals.nil_iff {xs:List V}{us:List Value}(r:Vals xs us):us=[] ↔ xs=[]:=by
 cases r with
 | nil=>simp
 | cons _ _=>simp
theorem zlc:OpR X (binaryOp .Add) (zrb X.K):=by
 intro pins s σ H x y v u Q I rx ry h
 obtain ⟨a,b,xs,ys,rfl,rfl,ha,hb,hx,hz,q1,q2⟩:=h
 cases rx
 cases ry
 obtain ⟨its,r1,p1,_⟩:=I.tuple ha
 obtain ⟨its2,r2,p2,_⟩:=I.tuple hb
 refine HT.cat_tup p1 p2 (fun z=>hx (r1.nil_iff.mp z)) (fun z=>⟨.ref a,H,I,rfl,q1 (r2.nil_iff.mp z)⟩) (fun z=>?_) (by rw[←r1.length,←r2.length];exact hz)
 refine ⟨.ref s.heap.objs.size,_,I.laid (t':=s.toks) (o:=.tup (xs++ys)) (fun b ob q=>Heap.get?_push_of_some _ q) (Nat.le_refl _) ?_,rfl,q2 (fun w=>z (r2.nil_iff.mpr w)) _ (I.hok.fresh (Nat.le_refl _))⟩
 exact ⟨by rw[List.length_append];exact hz,_,r1.append r2,IsTup.new _ _⟩
end
end L2
namespace L2
open PySem PySem.Spec PyProof.Rows
section
noncomputable def ixN (n:Nat)(i:Int):Option Nat:=if 0≤i then (if i<n then some i.toNat else none) else if -(n:Int)≤i then some (i+n).toNat else none
noncomputable def atI {α:Type}(xs:List α)(i:Int):Option α:=(ixN xs.length i).bind fun j=>xs[j]?
theorem zez {n:Nat}{i:Int}{j:Nat}(h:ixN n i=some j):seqIndex? i n=some j∧j<n∧-(n:Int)≤i∧i<n:=by
 unfold ixN at h
 by_cases h0:0≤i
 ·rw[if_pos h0]at h
  by_cases h1:i<n
  ·rw[if_pos h1]at h
   have e:i.toNat=j:=Option.some.inj h
   exact ⟨by rw[seqIndex_of h0 h1,e],by omega,by omega,h1⟩
  ·rw[if_neg h1]at h;cases h
 ·rw[if_neg h0]at h
  by_cases h1:-(n:Int)≤i
  ·rw[if_pos h1]at h
   have e:(i+n).toNat=j:=Option.some.inj h
   exact ⟨by rw[seqIndex_neg (by omega) h1,e],by omega,h1,by omega⟩
  ·rw[if_neg h1]at h;cases h
theorem zb0 {α:Type}{xs:List α}{i:Int}{v:α}(h:atI xs i=some v):∃j,seqIndex? i xs.length=some j∧xs[j]?=some v∧j<xs.length∧-(xs.length:Int)≤i∧i<xs.length:=by
 unfold atI at h
 cases e:ixN xs.length i with
 | none=>rw[e]at h;cases h
 | some j=>
  rw[e]at h
  obtain ⟨h1,h2,h3,h4⟩:=zez e
  exact ⟨j,h1,h,h2,h3,h4⟩
theorem z2c {α:Type}{xs:List α}{j:Nat}{v:α}(h:xs[j]?=some v):atI xs (j:Int)=some v:=by
 have hj:j<xs.length:=(List.getElem?_eq_some_iff.mp h).1
 have e:ixN xs.length (j:Int)=some j:=by
  unfold ixN
  rw[if_pos (by omega),if_pos (by omega)];simp
 unfold atI;rw[e];exact h
noncomputable def zg2 (b:Expr):Prop:=∀o i,subscripted b false o i=operate [o,i] (getItem o i)
noncomputable def IxR (X:Cx)(r:R2):Prop:=
 ∀(value slice:Expr)(pins:List (Addr×Obj))(s:Shared)(σ:St)(H:Hp)(x y:V)(v u:Value)(Q:VK),Inv X pins σ H s→RelV x v→RelV y u→r x y H Q→
  subscripted slice false v u=operate [v,u] (getItem v u)→wpAny (model X.prog X.w) X.A (subscriptTail value slice v u) (EP X pins σ Q) X.xe s
noncomputable def MtR (X:Cx)(id:String)(r:V→List V→Hp→VK→Prop):Prop:=
 ∀(pins:List (Addr×Obj))(s:Shared)(σ:St)(H:Hp)(x:V)(xs:List V)(v:Value)(us:List Value)(Q:VK),Inv X pins σ H s→RelV x v→Vals xs us→r x xs H Q→
  wpAny (model X.prog X.w) X.A (call (.builtin id) (v::us)) (EP X pins σ Q) X.xe s
section
variable {X:Cx}{a b:Expr}{ta tb:TE}{pos:Pos}
theorem IxR.or {r r':R2}(h:IxR X r)(h':IxR X r'):IxR X (fun x y H Q=>r x y H Q∨r' x y H Q):=by
 intro value slice pins s σ H x y v u Q I rx ry q hs
 rcases q with q|q
 ·exact h value slice pins s σ H x y v u Q I rx ry q hs
 ·exact h' value slice pins s σ H x y v u Q I rx ry q hs
theorem zri {r:R2}(hr:IxR X r)(ha:PE X a ta)(hb:PE X b tb)(hs:zg2 b):PE X (.Subscript a b pos) (tOp r ta tb):=by
 intro pins s σ H Q I h
 exact Subscript_ (zsc ha hb I h fun v u s2 x y H2 I2 rx ry q=>hr a b pins s2 σ H2 x y v u Q I2 rx ry q (hs _ _))
noncomputable def zsp (K:W.Frag):R2:=fun x y H Q=>∃p xs i v,x=.ref p∧y=.int i∧SqL K H p xs∧atI xs i=some v∧Q v H
noncomputable def zsn (K:W.Frag):R2:=fun x y H Q=>∃p xs i v,x=.ref p∧y=.int i∧SqT K H p xs∧atI xs i=some v∧Q v H
noncomputable def zso:R2:=fun x y H Q=>∃z i c,x=.str z∧y=.int i∧z.length≤sizeLine∧atI z.cps.toList i=some c∧Q (.str ⟨#[c]⟩) H
theorem ix_list:IxR X (zsp X.K):=by
 intro value slice pins s σ H x y v u Q I rx ry h hs
 obtain ⟨p,xs,i,z,rfl,rfl,hq,he,q⟩:=h
 cases rx
 obtain ⟨t,rfl⟩:=ry
 obtain ⟨its,r,pl,hz⟩:=I.list hq
 obtain ⟨j,h1,h2,h3,h4,h5⟩:=zb0 he
 obtain ⟨w,ew,rw'⟩:=r.get h2
 have hl:=r.length
 have hn:=z9g
 have fin:EP X pins σ Q w s:=⟨z,H,I,rw',q⟩
 by_cases h0:0≤i
 ·have hj : i.toNat = j := by
   rw[seqIndex_of h0 h5]at h1
   exact Option.some.inj h1
  exact item_listR pl.isList h0 (by omega) (by rw[hj];simpa using ew) fin hs
 ·have hj : (i+(its.toArray.size : Int)).toNat = j := by
   rw[seqIndex_neg (by omega) h4]at h1
   rw[List.size_toArray,←hl]
   exact Option.some.inj h1
  exact subscriptTail_builtinR (x:=w) pl.isList.typeIs slot_list_getitem.lookup
   (wpAny_getItem_list_neg (Q:=fun r s'=>r=w∧EP X pins σ Q r s') pl.isList (by omega) (by rw[List.size_toArray]<;>omega) (by omega) (by rw[hj];simpa using ew) ⟨rfl,fin⟩) hs
theorem ix_tup:IxR X (zsn X.K):=by
 intro value slice pins s σ H x y v u Q I rx ry h hs
 obtain ⟨p,xs,i,z,rfl,rfl,hq,he,q⟩:=h
 cases rx
 obtain ⟨t,rfl⟩:=ry
 obtain ⟨its,r,pl,hz⟩:=I.tuple hq
 obtain ⟨j,h1,h2,h3,h4,h5⟩:=zb0 he
 obtain ⟨w,ew,rw'⟩:=r.get h2
 have hl:=r.length
 have hn:=z9g
 have fin:EP X pins σ Q w s:=⟨z,H,I,rw',q⟩
 exact subscriptTail_builtinR (x:=w) pl.typeIs slot_tuple_getitem.lookup
  (getItem_tuple (j:=j) (Q:=fun r s'=>r=w∧EP X pins σ Q r s') pl (by omega) (by omega) (by rw[List.size_toArray,←hl];exact h1) (by simpa using ew) ⟨rfl,fin⟩) hs
theorem zp4:IxR X zso:=by
 intro value slice pins s σ H x y v u Q I rx ry h hs
 obtain ⟨z,i,c,rfl,rfl,hz,he,q⟩:=h
 obtain ⟨t,rfl⟩:=rx
 obtain ⟨t',rfl⟩:=ry
 obtain ⟨j,h1,h2,h3,h4,h5⟩:=zb0 he
 have hl:z.cps.toList.length=z.length:=by simp[Str.length]
 rw[hl]at h1 h4 h5
 have hn:=z9g
 exact tail_any (typeIs_str s z t) slot_str_getitem.lookup (getItem_str (c:=c) (by
  have e1:decide (i < -(2^63:Int))=false:=decide_eq_false (by omega)
  have e2:decide (i≥2^63)=false:=decide_eq_false (by omega)
  rw[e1,e2,Bool.or_false]) (by rw[h1];simpa using h2) ⟨.str ⟨#[c]⟩,H,I.tok _,⟨_,rfl⟩,q⟩) hs
noncomputable def rIx (K:W.Frag):R2:=fun x y H Q=>zsp K x y H Q∨zsn K x y H Q∨zso x y H Q
theorem zp5:IxR X (rIx X.K):=ix_list.or (ix_tup.or zp4)
theorem zcy (its:List Value)(n j:Nat)(u:Value):Obj.mapSeq (·.setIfInBounds j u) {cls:=.type "list",data:=.seq its.toArray n}={cls:=.type "list",data:=.seq (its.set j u).toArray n}:=by
 simp[Obj.mapSeq]
theorem Inv.lst {pins : List (Addr × Obj)}{σ : St}{H : Hp}{s : Shared}{p : Addr}{xs : List V}(I : Inv X pins σ H s)(h : H p = some (.lst xs)) :
  ∃(its:List Value) (n:Nat),Vals xs its∧s.heap.get? p=some {cls:=.type "list",data:=.seq its.toArray n}∧xs.length≤sizeLine:=by
 obtain ⟨z,its,n,r,e⟩:=I.hok p _ h
 exact ⟨its,n,r,e,z⟩
theorem Inv.lstUpd {pins : List (Addr × Obj)}{σ : St}{H : Hp}{s : Shared}{p : Addr}{xs ys : List V}{its its' : List Value}{n n' : Nat}{f : Obj → Obj}(I : Inv X pins σ H s)(h : H p = some (.lst xs))
  (ho:s.heap.get? p=some {cls:=.type "list",data:=.seq its.toArray n})(hf:f {cls:=.type "list",data:=.seq its.toArray n}={cls:=.type "list",data:=.seq its'.toArray n'})(r:Vals ys its')(hz:ys.length≤sizeLine)(t:Nat) :
  Inv X pins σ (upd H p (.lst ys)) {s with heap:=s.heap.update p f,toks:=t}:=by
 have e:(s.heap.update p f).get? p=some {cls:=.type "list",data:=.seq its'.toArray n'}:=by
  rw[Heap.get?_update_self f ho (by rw[hf]<;>rfl),hf]
 refine I.write (x:=p) (e:=p) (by rw[h];trivial) (.inl rfl) (fun b u hb q=>(Heap.get?_update_other _ _ (Ne.symm hb)).trans q) ⟨_,e⟩ ?_
 exact ⟨hz,its',n',r,e⟩
noncomputable def znm:V→V→V→Hp→(Hp→Prop)→Prop:=fun o i v H Q=>∃p xs k j,o=.ref p∧i=.int k∧H p=some (.lst xs)∧ixN xs.length k=some j∧Q (upd H p (.lst (xs.set j v)))
theorem z3b:zsd X znm:=by
 intro pins s σ H o i v ov iv u Q I ro ri rv h
 obtain ⟨p,xs,k,j,rfl,rfl,hp,hj,q⟩:=h
 cases ro
 obtain ⟨t,rfl⟩:=ri
 obtain ⟨its,n,r,ho,hz⟩:=I.lst hp
 obtain ⟨h1,h2,h3,h4⟩:=zez hj
 have hl:=r.length
 have hn:=z9g
 have I':Inv X pins σ (upd H p (.lst (xs.set j v))) {s with heap:=s.heap.update p (Obj.mapSeq (·.setIfInBounds j u))}:=
  I.lstUpd hp ho (zcy its n j u) (r.set rv j) (by rw[List.length_set];exact hz) s.toks
 by_cases h0:0≤k
 ·have hk : k.toNat = j := by
   rw[seqIndex_of h0 h4]at h1
   exact Option.some.inj h1
  exact PySem.W.ki_setAt ho h0 (by omega) (by rw[List.size_toArray,←hl];exact h4) (by rw[hk];exact ⟨_,I',q⟩)
 ·have hk : (k+(its.toArray.size : Int)).toNat = j := by
   rw[seqIndex_neg (by omega) h3]at h1
   rw[List.size_toArray,←hl]
   exact Option.some.inj h1
  exact PySem.W.ki_setBack ho (by omega) (by rw[List.size_toArray,←hl];exact h3) (by omega) (by rw[hk];exact ⟨_,I',q⟩)
theorem z91 (lo hi:Option Int)(n:Nat):(sliceBounds lo hi none n).1=((HT.sIx n 0 lo:Nat):Int)∧(sliceBounds lo hi none n).2.1=((HT.sIx n n hi:Nat):Int)∧(sliceBounds lo hi none n).2.2=1:=by
 refine ⟨?_,?_,rfl⟩
 ·cases lo with
  | none=>simp[sliceBounds,HT.sIx]
  | some i=>
   simp only[sliceBounds,HT.sIx,Option.getD_none,show (1:Int)>0 by decide,if_true]
   by_cases h:i<0
   ·simp only[h,if_true]<;>omega
   ·simp only[h,if_false]<;>omega
 ·cases hi with
  | none=>simp[sliceBounds,HT.sIx]
  | some i=>
   simp only[sliceBounds,HT.sIx,Option.getD_none,show (1:Int)>0 by decide,if_true]
   by_cases h:i<0
   ·simp only[h,if_true]<;>omega
   ·simp only[h,if_false]<;>omega
theorem z7t (its:List Value)(lo hi:Option Int):slicePick its.toArray lo hi none=((its.drop (HT.sIx its.length 0 lo)).take (HT.sIx its.length its.length hi-HT.sIx its.length 0 lo)).toArray:=by
 obtain ⟨h1,h2,h3⟩:=z91 lo hi its.toArray.size
 unfold slicePick
 rw[h1,h2,h3]
 simp only[sliceRange_one,pick_run,List.size_toArray]<;>rfl
noncomputable def zr9 (K:W.Frag):V→Option Int→Option Int→Hp→VK→Prop:=fun x lo hi H Q=>∃a xs,x=.ref a∧SqL K H a xs∧∀p,H p=none→Q (.ref p) (upd H p (.lst (z8f xs lo hi)))
theorem za7:SlR X (zr9 X.K):=by
 intro pins s σ H x v vl vu lo hi sl Q I rx hs pl pu h
 obtain ⟨a,xs,rfl,hx,q⟩:=h
 cases rx
 obtain ⟨its,r,ht,hz⟩:=I.list hx
 have hlen:=r.length
 refine ⟨"list",_,slot_list_getitem.lookup,ht.isList.typeIs,?_⟩
 refine wpAny_getItem_list_slice ht.isList hs pl pu .none (by simp) ?_ (by rw[List.size_toArray]<;>omega)
 rw[z7t,←hlen]
 refine ⟨.ref s.heap.objs.size,_,I.laid (t':=s.toks) (o:=.lst (z8f xs lo hi)) (fun b ob q=>Heap.get?_push_of_some _ q) (Nat.le_refl _) ?_,rfl,q _ (I.hok.fresh (Nat.le_refl _))⟩
 exact ⟨Nat.le_trans (z6s xs lo hi) hz,_,0,(r.drop (HT.sIx xs.length 0 lo)).take (HT.sIx xs.length xs.length hi-HT.sIx xs.length 0 lo),Heap.get?_push_size _ rfl⟩
theorem z0p:z3w X (.builtin "len") (fun xs H Q=>∃p ys,xs=[.ref p]∧(SqL X.K H p ys∨SqT X.K H p ys)∧Q (.int ys.length) H):=by
 intro pins s σ H xs us Q I r h
 obtain ⟨p,ys,rfl,hq,q⟩:=h
 obtain ⟨u,rfl,rx⟩:=z6x r
 cases rx
 have hn:=z9g
 rcases hq with hq|hq
 ·obtain ⟨its,r',pl,hz⟩:=I.list hq
  have hlen:=r'.length
  exact Calls.call_len_list pl.isList (by simp only[List.size_toArray]<;>omega) ⟨.int ys.length,H,I.tok _,⟨s.toks+1,by rw[List.size_toArray,hlen]⟩,q⟩
 ·obtain ⟨its,r',pl,hz⟩:=I.tuple hq
  have hlen:=r'.length
  exact len_tuple pl (by simp only[List.size_toArray]<;>omega) ⟨.int ys.length,H,I.tok _,⟨s.toks+1,by rw[List.size_toArray,hlen]⟩,q⟩
theorem z3v:z3w X (.type "list") (fun xs H Q=>∃p ys,xs=[.ref p]∧(SqL X.K H p ys∨SqT X.K H p ys)∧∀l,H l=none→Q (.ref l) (upd H l (.lst ys))):=by
 intro pins s σ H xs us Q I r h
 obtain ⟨p,ys,rfl,hq,q⟩:=h
 obtain ⟨u,rfl,rx⟩:=z6x r
 cases rx
 have fin : ∀ (its : List Value), Vals ys its → ys.length ≤ sizeLine → ∀ (h' : Heap) (c' : Nat), (∀ b o', s.heap.get? b = some o' → h'.get? b = some o') →
   h'.get? s.heap.objs.size=some {cls:=.type "list",dict:=none,data:=.seq its.toArray c',slots:=#[]}→EP X pins σ Q (.ref s.heap.objs.size) {s with heap:=h'}:=fun its r' hz h' c' kp e=>
  ⟨.ref s.heap.objs.size,_,I.laid (t':=s.toks) kp (Nat.le_refl _) (show ObjOk X.prog X.w _ h' _ (.lst ys) from ⟨hz,its,c',r',e⟩),rfl,q _ (I.hok.fresh (Nat.le_refl _))⟩
 rcases hq with hq|hq
 ·obtain ⟨its,r',pl,hz⟩:=I.list hq
  have hlen:=r'.length
  obtain ⟨o,ho,hc,n,hd⟩:=pl.isList
  exact call_list_seq p (.inl rfl) ho hc hd (fun h' c' kp e=>fin its r' hz h' c' kp e) (by simp only[List.size_toArray]<;>omega)
 ·obtain ⟨its,r',pl,hz⟩:=I.tuple hq
  have hlen:=r'.length
  obtain ⟨o,ho,hc,n,hd⟩:=pl
  exact call_list_seq p (.inr rfl) ho hc hd (fun h' c' kp e=>fin its r' hz h' c' kp e) (by simp only[List.size_toArray]<;>omega)
theorem z1o:z3w X (.type "tuple") (fun xs H Q=>∃p ys,xs=[.ref p]∧((SqL X.K H p ys∧∀l,H l=none→Q (.ref l) (upd H l (.tup ys)))∨(SqT X.K H p ys∧Q (.ref p) H))):=by
 intro pins s σ H xs us Q I r h
 obtain ⟨p,ys,rfl,h⟩:=h
 obtain ⟨u,rfl,rx⟩:=z6x r
 cases rx
 rcases h with ⟨hq,q⟩|⟨hq,q⟩
 ·obtain ⟨its,r',pl,hz⟩:=I.list hq
  have hlen:=r'.length
  refine call_tuple_list pl.isList (fun h' kp=>?_) (by simp only[List.size_toArray]<;>omega)
  have I1:Inv X pins σ H {s with heap:=h'}:=I.kept (t':=s.toks) kp
  have I2:Inv X pins σ (upd H h'.objs.size (.tup ys)) {s with heap:=h'.push {cls:=.type "tuple",data:=.seq its.toArray}}:=
   I1.laid (t':=s.toks) (fun b o e=>Heap.get?_push_of_some _ e) (Nat.le_refl _) (show ObjOk X.prog X.w _ _ _ (.tup ys) from ⟨hz,its,r',IsTup.new _ _⟩)
  exact ⟨.ref h'.objs.size,_,I2,rfl,q _ (I1.hok.fresh (Nat.le_refl _))⟩
 ·obtain ⟨its,r',pl,hz⟩:=I.tuple hq
  exact call_tuple_same pl ⟨.ref p,H,I,rfl,q⟩
noncomputable def tyV (K:W.Frag)(T:String)(x:V)(H:Hp):Prop:=match x with
 | .str _=>T="str"
 | .int _=>T="int"
 | .ref p => (T = "list" ∧ ∃ xs, SqL K H p xs) ∨ (T = "tuple" ∧ ∃ o, K.lookup p = some o ∧ o.cls = .type "tuple" ∧ o.dict = none) ∨
   (T="dict"∧((∃kvs,H p=some (.dK kvs))∨∃kvs,H p=some (.dT kvs)))∨(T="set"∧∃S n,H p=some (.set S n))
 | _=>False
theorem zi1 {pins : List (Addr × Obj)}{σ : St}{H : Hp}{s : Shared}{T : String}{x : V}{v : Value}(I : Inv X pins σ H s)(r : RelV x v)(ty : tyV X.K T x H) :
  s.TypeIs v T∧∀a,v=.ref a→∃ob,s.heap.get? a=some ob∧ob.dict=none:=by
 cases x with
 | str z=>
  obtain ⟨t,rfl⟩:=r
  cases (show T="str" from ty)
  exact ⟨typeIs_str s z t,fun _ e=>nomatch e⟩
 | int i=>
  obtain ⟨t,rfl⟩:=r
  cases (show T="int" from ty)
  exact ⟨typeIs_int s i t,fun _ e=>nomatch e⟩
 | ref p=>
  cases r
  rcases ty with ⟨rfl,xs,hq⟩|⟨rfl,o,hk,hc,hd⟩|⟨rfl,hk⟩|⟨rfl,S,n,hk⟩
  ·obtain ⟨its,_,pl,_⟩:=I.list hq
   refine ⟨pl.isList.typeIs,fun a e=>?_⟩
   cases e
   obtain ⟨o,n,e,c,hd,_⟩:=pl
   exact ⟨o,e,hd⟩
  ·refine ⟨⟨o,I.kIn p o hk,hc⟩,fun a e=>?_⟩
   cases e
   exact ⟨o,I.kIn _ o hk,hd⟩
  ·have z : ∃ o, s.heap.get? p = some o ∧ o.ExactDict := by
    rcases hk with ⟨kvs,hk⟩|⟨kvs,hk⟩
    ·obtain ⟨_,_,_,_,o,_,_,e,ex,_⟩:=I.hok p _ hk
     exact ⟨o,e,ex⟩
    ·obtain ⟨_,_,_,_,o,_,_,e,ex,_⟩:=I.hok p _ hk
     exact ⟨o,e,ex⟩
   obtain ⟨o,e,ex⟩:=z
   refine ⟨⟨o,e,ex.1⟩,fun a e2=>?_⟩
   cases e2
   exact ⟨o,e,ex.2.1⟩
  ·obtain ⟨o,_,_,_,e,ex,_⟩:=I.hok p _ hk
   refine ⟨⟨o,e,ex.1⟩,fun a e2=>?_⟩
   cases e2
   exact ⟨o,e,ex.2.1⟩
 | _=>exact False.elim ty
noncomputable def zsk (K:W.Frag)(T:String)(r:V→List V→Hp→VK→Prop)(to:TE):TE:=fun σ H Q=>to σ H fun x H1=>tyV K T x H1∧r x [] H1 Q
noncomputable def tBM (K:W.Frag)(T:String)(r:V→List V→Hp→VK→Prop)(to:TE)(t:TA):TE:=fun σ H Q=>to σ H fun x H1=>tyV K T x H1∧t σ H1 fun xs H2=>r x xs H2 Q
variable {o e:Expr}{es:List Expr}{to:TE}{t:TA}{name:Str}{apos cpos:Pos}{T id:String}{r:V→List V→Hp→VK→Prop}
theorem zog (pa : PlainAttrs T)(slot : Slot T name id)(hty : typeOf (.builtin id) = pure (.type "method_descriptor"))(hm : MtR X id r)(ho : PE X o to)
  (hbase:attributeBase o name X.env (eval o X.env)=eval o X.env:=by rfl)(hline:(apos.endLine == cpos.line)=true:=by rfl):PE X (.Call (.Attribute o name apos) [] [] cpos) (zsk X.K T r to):=by
 intro pins s σ H Q I h
 refine wpAny_Call_method0_late hbase hline (thn (ho pins s σ H _ I h) fun v s1 ⟨x,H1,I1,r1,ty,q1⟩=>?_)
 obtain ⟨h1,h2⟩:=zi1 I1 r1 ty
 exact ⟨T,id,pa,slot,hty,h1,h2,Calls.callWith_builtin rfl (PySem.evalArgs_none (hm pins s1 σ H1 x [] v [] Q I1 r1 .nil q1))⟩
theorem zrk (pa : PlainAttrs T)(slot : Slot T name id)(hty : typeOf (.builtin id) = pure (.type "method_descriptor"))(hm : MtR X id r)(ho : PE X o to)(ha : PA X (e :: es) t)
  (hbase:attributeBase o name X.env (eval o X.env)=eval o X.env:=by rfl)
  (hfew:((backTo cpos (starEach (e::es) X.env)).all (fun x=>!x.1)&&(backToKw cpos (keywordEach [] X.env)).all (fun x=>x.1.isSome)
   && decide ((e::es).length+([]:List Keyword).length+(if ([]:List Keyword).isEmpty then 0 else 1)<30))=true:=by rfl)
  (hline:(apos.endLine == cpos.line)=true:=by rfl)(hs:starEach (e::es) X.env=(false,eval e X.env)::starEach es X.env:=by rfl)(hplain:(backTo cpos (starEach es X.env)).any (·.1)=false:=by rfl) :
  PE X (.Call (.Attribute o name apos) (e::es) [] cpos) (tBM X.K T r to t):=by
 intro pins s σ H Q I h
 refine wpAny_Call_method_late hbase hfew hline rfl (thn (ho pins s σ H _ I h) fun v s1 ⟨x,H1,I1,r1,ty,q1⟩=>?_)
 obtain ⟨h1,h2⟩:=zi1 I1 r1 ty
 refine ⟨T,id,pa,slot,hty,h1,h2,?_⟩
 have hA:=ha cpos pins s1 σ H1 _ I1 q1
 rw[hs]at hA ⊢
 refine Calls.callWith_builtin (by show (false || (backTo cpos (starEach es X.env)).any (·.1))=false;rw[hplain]<;>rfl) (Calls.evalArgs_plain ?_)
 exact thn hA fun us s2 ⟨vs,H2,I2,r2,q2⟩=>hm pins s2 σ H2 x vs v us Q I2 r1 r2 q2
end
end
end L2
namespace L2
open PySem PySem.Spec PyProof.Rows
noncomputable def MtM (X:Cx)(id:String)(r:V→List V→Hp→VK→Prop):Prop:=
 ∀(pins:List (Addr×Obj))(s:Shared)(σ:St)(H:Hp)(x:V)(xs:List V)(v:Value)(us:List Value)(Q:VK),Inv X pins σ H s→RelV x v→Vals xs us→r x xs H Q→
  wpAny (model X.prog X.w) X.A (call (.builtin id) (v::us)) (EP X pins σ Q) X.xe s
theorem Vals.one:∀{x:V}{us:List Value},Vals [x] us→∃u,us=[u]∧RelV x u
 | _,_,.cons r .nil=>⟨_,rfl,r⟩
theorem Vals.zero:∀{us:List Value},Vals [] us→us=[]
 | _,.nil=>rfl
theorem Vals.dropLast {xs:List V}{us:List Value}(h:Vals xs us):Vals xs.dropLast us.dropLast:=by
 induction h with
 | nil=>exact .nil
 | cons r t ih=>
  cases t with
  | nil=>exact .nil
  | cons q t'=>exact .cons r ih
theorem Vals.rep {xs:List V}{us:List Value}(h:Vals xs us):∀k:Nat,Vals (List.replicate k xs).flatten (List.replicate k us).flatten
 | 0=>.nil
 | k+1=>by
  rw[List.replicate_succ,List.replicate_succ,List.flatten_cons,List.flatten_cons]
  exact Vals.append h (Vals.rep h k)
theorem zd3 {α:Type}(l:List α):l.eraseIdx (l.length-1)=l.dropLast:=by
 induction l with
 | nil=>rfl
 | cons a r ih=>
  cases r with
  | nil=>rfl
  | cons b r=>
   have e:(a::b::r).length-1=((b::r).length-1)+1:=by
    have h1:(a::b::r).length=r.length+2:=rfl
    have h2:(b::r).length=r.length+1:=rfl
    omega
   rw[e,List.eraseIdx_cons_succ,ih]
   all_goals rfl
theorem z6r (its : List Value) : ∀ (k : Nat) (acc : List Value),
  List.foldl (fun x1 x2=>x1++x2) acc.toArray (List.replicate k its.toArray)=(acc++(List.replicate k its).flatten).toArray
 | 0,acc=>by simp
 | k+1,acc=>by
  have e:acc.toArray++its.toArray=(acc++its).toArray:=by simp
  have e2:(acc++its)++(List.replicate k its).flatten=acc++(List.replicate (k+1) its).flatten:=by
   rw[List.replicate_succ,List.flatten_cons,List.append_assoc]
  rw[←e2,←z6r its k (acc++its),←e,List.replicate_succ,List.foldl_cons]
section
variable {X:Cx}{pins:List (Addr×Obj)}{σ:St}{H:Hp}{s:Shared}{l b:Addr}{xs ys zs:List V}
theorem Inv.lset {its its' : List Value}{n : Nat}{f : Array Value → Array Value}{t' : Nat}(I : Inv X pins σ H s)(hH : H l = some (.lst xs))
  (e:s.heap.get? l=some {cls:=.type "list",data:=.seq its.toArray n})(hf:f its.toArray=its'.toArray)(hv:Vals ys its')(hz:ys.length≤sizeLine) :
  Inv X pins σ (upd H l (.lst ys)) {s with heap:=s.heap.update l (Obj.mapSeq f),toks:=t'}:=by
 have q:=PySem.IsL.update e f
 rw[hf]at q
 refine I.write (x:=l) (e:=l) (by rw[hH];exact trivial) (.inl rfl) (fun b' u hb hu=>(Heap.get?_update_other s.heap (Obj.mapSeq f) (Ne.symm hb)).trans hu) ⟨_,q⟩ ?_
 exact ⟨hz,its',_,hv,q⟩
theorem Inv.lnew {its : List Value}{t' : Nat}(I : Inv X pins σ H s)(hv : Vals ys its)(hz : ys.length ≤ sizeLine) :
  Inv X pins σ (upd H s.heap.objs.size (.lst ys)) {s with heap:=s.heap.push {cls:=.type "list",data:=.seq its.toArray},toks:=t'}:=
 I.laid (fun _ _ q=>Heap.get?_push_of_some _ q) (Nat.le_refl _) ⟨hz,its,0,hv,Heap.get?_push_size _ rfl⟩
theorem Inv.fresh (I:Inv X pins σ H s):H s.heap.objs.size=none:=I.hok.fresh (Nat.le_refl _)
theorem Inv.lstM (I:Inv X pins σ H s)(hH:H l=some (.lst xs)):xs.length≤sizeLine∧∃(its:List Value) (n:Nat),Vals xs its∧xs.length=its.length∧s.heap.get? l=some {cls:=.type "list",data:=.seq its.toArray n}:=by
 obtain ⟨z,its,n,r,e⟩:=I.hok l _ hH
 exact ⟨z,its,n,r,r.length,e⟩
theorem zh4 {n:Nat}(h:n≤sizeLine):Builtin.List.listTooLong n=false:=by
 unfold Builtin.List.listTooLong
 exact decide_eq_false (by omega)
end
section
variable {X:Cx}
noncomputable def zkg:V→List V→Hp→VK→Prop:=fun x vs H Q=>∃l xs y,x=.ref l∧vs=[y]∧H l=some (.lst xs)∧xs.length<sizeLine∧Q .non (upd H l (.lst (xs++[y])))
theorem z4p:MtM X "list.append" zkg:=by
 intro pins s σ H x vs v us Q I rx rv h
 obtain ⟨l,xs,y,rfl,rfl,hH,hz,q⟩:=h
 cases rx
 obtain ⟨u,rfl,ru⟩:=rv.one
 obtain ⟨z,its,n,r,hl,e⟩:=I.lstM hH
 refine call_meets F.slot_list_append ⟨_,e,rfl⟩ F.entry_list_append (F.args_list_append_2 _ _) (PySem.list_append l its.toArray n u (by rw[List.size_toArray];omega)) ⟨e,?_⟩
 refine ⟨.non,_,I.lset (its':=its++[u]) hH e (by simp) (r.append (.cons ru .nil)) ?_,rfl,q⟩
 rw[List.length_append,List.length_singleton]
 omega
noncomputable def ztn:V→List V→Hp→VK→Prop:=fun x vs H Q=>∃l xs y,x=.ref l∧vs=[]∧H l=some (.lst xs)∧xs[xs.length-1]?=some y∧Q y (upd H l (.lst xs.dropLast))
theorem zot:MtM X "list.pop" ztn:=by
 intro pins s σ H x vs v us Q I rx rv h
 obtain ⟨l,xs,y,rfl,rfl,hH,hy,q⟩:=h
 cases rx
 have hus:=rv.zero
 subst hus
 obtain ⟨z,its,n,r,hl,e⟩:=I.lstM hH
 obtain ⟨u,hu,ru⟩:=r.get hy
 have hy':its.toArray[its.toArray.size-1]?=some u:=by
  show its.toArray[its.length-1]?=some u
  rw[←Array.getElem?_toList,←hl]
  exact hu
 refine call_meets F.slot_list_pop ⟨_,e,rfl⟩ F.entry_list_pop (F.args_list_pop_1 _) (MeetsSeq.list_pop_last l its.toArray n u hy' (by rw[List.size_toArray];omega)) ⟨e,?_⟩
 refine ⟨y,_,I.lset (its':=its.dropLast) hH e ?_ r.dropLast ?_,ru,q⟩
 ·show its.toArray.eraseIdxIfInBounds (its.toArray.size-1)=its.dropLast.toArray
  rw[List.size_toArray,List.eraseIdxIfInBounds_toArray,zd3]
 ·rw[List.length_dropLast]
  omega
noncomputable def zto:R2:=fun x y H Q=>∃l b xs zs,x=.ref l∧y=.ref b∧H l=some (.lst xs)∧H b=some (.lst zs)∧xs.length+zs.length≤sizeLine∧∀p,H p=none→Q (.ref p) (upd H p (.lst (xs++zs)))
theorem zoo:OpR X (binaryOp .Add) zto:=by
 intro pins s σ H x y v u Q I rx ry h
 obtain ⟨l,b,xs,zs,rfl,rfl,hH,hB,hz,q⟩:=h
 cases rx
 cases ry
 obtain ⟨z,its,n,r,hl,e⟩:=I.lstM hH
 obtain ⟨z2,its2,n2,r2,hl2,e2⟩:=I.lstM hB
 refine PySem.P.add_list e e2 ?_ (by rw[List.size_toArray,List.size_toArray];omega)
 have ea:its.toArray++its2.toArray=(its++its2).toArray:=by simp
 rw[ea]
 exact ⟨.ref _,_,I.lnew (t':=s.toks) (r.append r2) (by rw[List.length_append];omega),rfl,q _ I.fresh⟩
noncomputable def zra:R2:=fun x y H Q=>∃l k xs,x=.ref l∧y=.int k∧H l=some (.lst xs)∧-(2^63)≤k∧k<2^63∧xs.length*k.toNat≤sizeLine∧
 ∀p,H p=none→Q (.ref p) (upd H p (.lst (List.replicate k.toNat xs).flatten))
theorem zan {α:Type}(xs:List α)(k:Nat):(List.replicate k xs).flatten.length=k*xs.length:=by
 induction k with
 | zero=>simp
 | succ k ih=>rw[List.replicate_succ,List.flatten_cons,List.length_append,ih,Nat.succ_mul,Nat.add_comm]
theorem zeg:OpR X (binaryOp .Mult) zra:=by
 intro pins s σ H x y v u Q I rx ry h
 obtain ⟨l,k,xs,rfl,rfl,hH,h1,h2,hz,q⟩:=h
 cases rx
 obtain ⟨t,rfl⟩:=ry
 obtain ⟨z,its,n,r,hl,e⟩:=I.lstM hH
 have hlen:its.toArray.size*k.toNat≤sizeLine:=by rw[List.size_toArray,←hl];exact hz
 have hcap:¬its.toArray.size*k.toNat>(2^63-1)/8:=by
  have:(sizeLine:Nat)≤(2^63-1)/8:=by decide
  omega
 have hfit:¬(!Builtin.List.listFitsIndex k)=true:=by
  rw[fitsIndex_both h1 h2]
  exact Bool.false_ne_true
 have hlong:¬Builtin.List.listTooLong (its.toArray.size*k.toNat)=true:=by
  rw[zh4 hlen]
  exact Bool.false_ne_true
 have hnew:List.foldl (fun x1 x2=>x1++x2) #[] (List.replicate (if its.toArray.isEmpty=true then 0 else k.toNat) its.toArray)=(List.replicate k.toNat its).flatten.toArray:=by
  have f0:∀m:Nat,List.foldl (fun x1 x2=>x1++x2) #[] (List.replicate m its.toArray)=(List.replicate m its).flatten.toArray:=fun m=>by
   have:=z6r its m []
   rw[List.nil_append]at this
   exact this
  rw[f0]
  cases its with
  | nil=>simp
  | cons a r'=>rw[if_neg (by simp)]
 refine wpAny_binaryOp_repeat_ref (T:="list") (U:="int") (by decide) ⟨_,e,rfl⟩ (fun s'=>typeIs_int s' k t) noFill_list_mul F.fills_int_mul F.slot_int_rmul repeat_list F.slot_int_index.lookup
  (call_meets F.slot_int_rmul (typeIs_int s k t) F.entry_int_rmul (F.args_int_rmul_2 _ _) (int___rmul___int_list k t l its.toArray n)
   ⟨e,rfl,⟨_,e,rfl⟩,call_meets F.slot_list_mul ⟨_,e,rfl⟩ F.entry_list_mul (F.args_list_mul_2 _ _) (AutoListH.list___mul___list_int_3 l its.toArray n k t hfit hcap hlong) ⟨e,?_⟩⟩)
 rw[hnew]
 exact ⟨.ref _,_,I.lnew (t':=s.toks) (r.rep k.toNat) (by rw[zan,Nat.mul_comm];exact hz),rfl,q _ I.fresh⟩
end
section
variable {prog:Program}{w:World}{A:Around}{E:Value→Shared→Prop}{s:Shared}
end
section
variable {X:Cx}
end
end L2
namespace Att
open PySem PySem.W PySem.Calls PyProof.Rows
theorem z6m {P:Params}{h:Heap}:∀(ns:List Int)(vs:List Value),WellAll P h vs (ns.map WData.int)→IntsAre vs ns:=by
 intro ns
 induction ns with
 | nil=>
  intro vs w
  rw[List.map_nil]at w
  cases w
  exact .nil
 | cons n ns ih=>
  intro vs w
  rw[List.map_cons]at w
  cases w with
  | cons a b=>
   cases a
   exact .cons _ _ (ih _ b)
theorem zdu {l : OpenLaw}{n : Nat}(hn : l.most = some n){P : Params}{h : Heap}{args : List WData}{vals : List Value}
  (hpre:l.row.toRowW.claim.pre args=true)(hwl:WellAll P h vals args) :
  ∃a vs ns,vals=[Value.ref a]∧args=[WData.list (ns.map WData.int)]∧h.get? a=some {cls:=.type "list",data:=.seq vs.toArray}∧IntsAre vs ns∧ns.length≤n:=by
 have hsh:WShape.hasAll [] args [.list .int]=true:=(pre_splitW hpre).1
 have hc:l.pre.holds [] {args:=args}=true:=(pre_splitW hpre).2
 obtain ⟨d,r,rfl,h1,h2⟩:=hasAllW_cons hsh
 obtain rfl:=hasAllW_nil h2
 obtain ⟨xs,rfl,h3⟩:=hasW_list h1
 obtain ⟨ns,rfl⟩:=items_int h3
 have hlen:ns.length≤n:=by
  unfold OpenLaw.pre at hc
  have h4:(WTm.not (.lt (.lit (.int (n:Int))) (.len (.arg 0)))).holds [] {args:=[.list (ns.map .int)]}=true:=by
   have h4:=(holds_andW hc).1
   rw[hn]at h4
   exact h4
  have h5:=condW_of h4 (w_not (w_lt w_lit (w_len_list (w_arg rfl))))
  rw[List.length_map]at h5
  refine Nat.le_of_not_lt fun q=>?_
  have q':(n:Int)<((ns.length:Nat):Int):=by omega
  first
   | (rw[decide_eq_true q']at h5;exact absurd h5 (by decide))
   | (simp at h5;omega)
 cases hwl with
 | cons w1 w2=>
  cases w2
  cases w1 with
  | list ho hall=>exact ⟨_,_,ns,rfl,rfl,ho,z6m ns _ hall,hlen⟩
theorem ze5 (l:OpenLaw)(args:List WData):l.row.toRowW.claim.post args (.bool true) args=true:=
 postW_of (r:=l.row.toRowW) (X:=(true == true))
  (show WShape.has [] (.bool true) .bool=true by first|rfl|decide|simp[WShape.has,WShape.arms,WShape.armsAll])
  (show (WTm.eq .res (.lit (.bool true))).value [] {args:=args,res:=some (.bool true),after:=args}=some (.bool (true == true)) from w_eq_bool (w_res rfl) w_lit) rfl
theorem attach_call {l : OpenLaw}{n : Nat}{q : Program}{loose : List Str}{XP : (Str → Option Value) → Heap → Prop}{YP : World → Heap → Prop}{d : DefRec}
  (hn:l.most=some n)(hdf:d.params.defaults=[])
  (call:∀(w:World)(s₀ s₁:Shared)(mg mb:Str→Option Value)(fa:Addr)(o:Obj)(pm cd doc:Value)(a:Addr)(vs:List Value)(ns:List Int),
   Ground q loose [] XP w s₀ mg mb s₁.heap→YP w s₁.heap→
   s₁.heap.get? fa=some o→o.data=.func (docDef d.name d.params d.body d.scope pm cd doc)→s₁.heap.CodeRec cd d.name→mg d.name=some (.ref fa)→
   s₁.heap.get? a=some {cls:=.type "list",data:=.seq vs.toArray}→IntsAre vs ns→ns.length≤n→s₁.gens=#[]→
   codeAny (model l.prog w) callerA (.call (.ref fa) ⟨[.ref a],[]⟩) (fun r s'=>r=.ok (.ret (.bool true))∧OldK s₁.heap s'.heap∧s'.os=s₁.os∧AllBare s'.gens) s₁) :
  WalkO q loose XP YP l.row.toRowW d [] (fun f vs=>PySem.call f vs):=by
 intro w s₀ s₁ mg mb G Y fa o pm cd doc dV kV ho hd hcd hD hmg hg args vals as hpre hlay hrd hwl hlo
 obtain rfl:dV=.none:=Dflts.none hD hdf
 obtain rfl:kV=.none:=Dflts.noKw hD
 obtain ⟨a,vs,ns,rfl,rfl,hobj,hints,hlen⟩:=zdu hn hpre hwl
 refine enter_call (codeAny_mono (call w s₀ s₁ mg mb fa o pm cd doc a vs ns G Y ho (fd_plain hd) hcd hmg hobj hints hlen hg) fun r s' hq=>?_)
 obtain ⟨rfl,h2,h3,h4⟩:=hq
 exact ⟨.inl ⟨.bool true,.bool true,[],rfl,fun _=>rfl,.bool true,ze5 l _,fun _=>⟨List.Pairwise.nil,fun _ hm=>(nomatch hm)⟩⟩,h2,h3,h4⟩
section
variable {prog:Program}{w:World}{A:Around}{E:Value→Shared→Prop}{s:Shared}{K:Frag}
noncomputable def zst (h:Heap)(L d:Addr):List (Addr×Obj):=(List.range h.objs.size).filterMap fun a=>if a=L∨a=d then none else (h.get? a).map fun o=>(a,o)
end
end Att
namespace L2
open PySem PySem.Spec PyProof.Rows
theorem z8r:∀{vs:List Value}{ns:List Int},IntsAre vs ns→Vals (ns.map V.int) vs
 | _,_,.nil=>.nil
 | _,_,.cons n t h=>.cons ⟨t,rfl⟩ (z8r h)
noncomputable def zse (H:Hp):Prop:=∀b,H b=none∨∃o xs,H b=some (.frz o (.lst xs))
theorem zhc {P : Program}{w : World}{K : W.Frag}{mg mb : Str → Option Value}{CX : CXT}{k : Nat}{fa a : Addr}{fd : FuncData}{x : Str}{sp : Sp}{s₁ : Shared}{vs : List Value}{ns : List Int}
  (KX:K.In s₁.heap)(hns:s₁.heap.Ns mainGlobals mg)(hb:s₁.heap.Ns builtinsNs mb)(hbb:∀x:Str,x≠"__name__"→mb x=bootBuiltins x)(hlim:s₁.heap.NoLimit)(hdig:s₁.heap.NoDigits)(hg:s₁.gens=#[])
  (ha:s₁.heap.get? a=some {cls:=.type "list",data:=.seq vs.toArray})(hi:IntsAre vs ns)(hl:ns.length≤sizeLine)(hr:Room k callerA)
  (F:∀base:Heap,K.In base→base.Ns mainGlobals mg→FnOk P w K mg base CX k fa fd [x] sp)(hbind:∀(s:Shared)(u:Value),BindsTo s fd ⟨[u],[]⟩ [(x,u)])
  (hsp:∀H:Hp,zse H→SqL K H a (ns.map V.int)→sp [.ref a] H (fun v _=>v=.bl true) fun _ _ _=>False)
  (hCX:∀H e s',CX [] H s₁ (fun _ _ _=>False) e s'→False) :
  codeAny (model P w) callerA (.call (.ref fa) ⟨[.ref a],[]⟩) (fun r s'=>r=.ok (.ret (.bool true))∧OldK s₁.heap s'.heap∧s'.os=s₁.os∧AllBare s'.gens) s₁:=by
 have rv:=z8r hi
 have lenV:=hi.length
 have core : ∀ H : Hp, zse H → SqL K H a (ns.map V.int) → HOk P w H s₁.heap → (∀ b, H b ≠ none → b = a) → (H a ≠ none → K.lookup a = none) →
   codeAny (model P w) callerA (.call (.ref fa) ⟨[.ref a],[]⟩) (fun r s'=>r=.ok (.ret (.bool true))∧OldK s₁.heap s'.heap∧s'.os=s₁.os∧AllBare s'.gens) s₁:=by
  intro H hO hS hok hA hK
  have base_of:∀{b:Addr}{o:Obj},s₁.heap.get? b=some o→H b=none→(zhk s₁.heap H).get? b=some o:=fun e n=>zhj e n
  have noA:∀{b:Addr}{o:Obj}{es:Array DictEntry}{ep:Nat},s₁.heap.get? b=some o→o.data=.dict es ep→H b=none:=fun {b o es ep} e d=>by
   cases q:H b with
   | none=>rfl
   | some u=>
    have e':b=a:=hA b (by rw[q];simp)
    subst e'
    rw[ha]at e;cases e
    have d':Data.seq vs.toArray _=Data.dict es ep:=d
    cases d'
  have nsK:∀{b:Addr}{m:Str→Option Value},s₁.heap.Ns b m→(zhk s₁.heap H).Ns b m:=fun {b m} ⟨o,es,ep,e,d,r⟩=>⟨o,es,ep,base_of e (noA e d),d,r⟩
  have hKb:K.In (zhk s₁.heap H):=fun b o e=>base_of (KX b o e) (by
   cases q:H b with
   | none=>rfl
   | some u=>
    have e':b=a:=hA b (by rw[q];simp)
    subst e'
    rw[hK (by rw[q];simp)]at e;cases e)
  have hM:Mod K mg (zhk s₁.heap H):=⟨hKb,nsK hns,⟨mb,nsK hb,hbb⟩,let ⟨mc,h1,h2⟩:=hlim;⟨mc,nsK h1,h2⟩,let ⟨mc,h1,h2⟩:=hdig;⟨mc,nsK h1,h2⟩⟩
  have e0:Env0 P w K mg (zhk s₁.heap H) callerA [] s₁ H:=⟨rfl,hM,fun b o e=>zle e,Nat.le_of_eq (zf2 _ _),trivial,fun b hb=>absurd (show b∈([]:List Addr) from hb) (by simp),hok,.of_eq hg⟩
  refine codeAny_mono ((F _ hKb (nsK hns)).run callerA [] s₁ H ⟨[.ref a],[]⟩ [.ref a] [.ref a] _ _ hr e0 (hbind s₁ (.ref a)) (.cons rfl .nil) (hsp H hO hS)) fun r s' h=>?_
  cases r with
  | error e=>exact (hCX H e s' h).elim
  | ok fl=>
   cases fl with
   | next=>exact False.elim h
   | brk=>exact False.elim h
   | cont=>exact False.elim h
   | ret u=>
    obtain ⟨v,H',os,bare,un,hok',r',q⟩:=h
    have q':v=.bl true:=q
    subst q'
    obtain rfl:u=Value.bool true:=r'
    refine ⟨rfl,OldK.of_keep fun b o e=>?_,os,bare⟩
    cases q:H b with
    | none=>exact un.keep b o e q (by intro z;exact absurd (show b∈([]:List Addr) from z) (by simp)) (by simp)
    | some u=>
     rcases hO b with z|⟨ob,xs,z⟩
     ·rw[q]at z;cases z
     ·have z2:=un.frzs b ob _ z
      obtain ⟨e1,_⟩:=hok b _ z
      obtain ⟨e2,_⟩:=hok' b _ z2
      rw[e]at e1;cases e1
      exact e2
 cases hk:K.lookup a with
 | some o=>
  have e:=KX a o hk
  rw[ha]at e
  cases e
  refine core (fun _=>none) (fun _=>.inl rfl) (.inr ⟨_,vs.toArray,_,hk,rfl,rfl,rfl,by rw[List.size_toArray,lenV];exact hl,by simpa using rv⟩) (fun b u z=>by have z':(none:Option HO)=some u:=z;cases z') (fun b z=>absurd rfl z) fun z=>absurd rfl z
 | none=>
  refine core (fun b=>if b=a then some (.frz {cls:=.type "list",data:=.seq vs.toArray} (.lst (ns.map V.int))) else none) (fun b=>?_) (.inl (.inr ⟨{cls:=.type "list",data:=.seq vs.toArray},if_pos rfl⟩)) (fun b u z=>?_) (fun b z=>?_) fun _=>hk
  ·by_cases hb:b=a
   ·exact .inr ⟨_,_,if_pos hb⟩
   ·exact .inl (if_neg hb)
  ·by_cases hb:b=a
   ·have z':=(if_pos hb).symm.trans z
    cases z'
    subst hb
    exact ⟨ha,by rw[List.length_map];exact hl,vs,_,rv,ha⟩
   ·have z':=(if_neg hb).symm.trans z
    cases z'
  ·by_cases hb:b=a
   ·exact hb
   ·exact absurd (if_neg hb) z
end L2
namespace L2
open PySem PySem.Spec PyProof.Rows
theorem walk_of {l : PySem.W.OpenLaw}{n k : Nat}{q : Program}{loose : List Str}{XP : (Str → Option Value) → Heap → Prop}{YP : World → Heap → Prop}{d : DefRec}{K : Params → PySem.W.Frag}{CX : World → CXT}{sp : World → Sp}{x : Str}
  (hn:l.most=some n)(hn2:n≤sizeLine)(hdf:d.params.defaults=[])(hr:Room k callerA)
  (hY:∀(w:World)(h:Heap),YP w h→(K w.params).In h)
  (F:∀(w:World)(mg:Str→Option Value)(fa:Addr)(h:Heap),(K w.params).In h→h.Ns mainGlobals mg→mg d.name=some (.ref fa)→
   ∃fd:FuncData,(∀(s:Shared)(u:Value),BindsTo s fd ⟨[u],[]⟩ [(x,u)])∧
    ∀base:Heap,(K w.params).In base→base.Ns mainGlobals mg→FnOk l.prog w (K w.params) mg base (CX w) k fa fd [x] (sp w))
  (hsp:∀(w:World)(H:Hp)(a:Addr)(ns:List Int),ns.length≤n→zse H→SqL (K w.params) H a (ns.map V.int)→sp w [.ref a] H (fun v _=>v=.bl true) fun _ _ _=>False)
  (hCX:∀(w:World)(H:Hp)(s:Shared)(e:Value)(s':Shared),CX w [] H s (fun _ _ _=>False) e s'→False) :
  PySem.W.WalkO q loose XP YP l.row.toRowW d [] (fun f vs=>PySem.call f vs):=by
 refine Att.attach_call hn hdf fun w s₀ s₁ mg mb fa o pm cd doc a vs ns G Y ho hd hcd hmg hobj hints hlen hg=>?_
 have KX:=hY w _ Y
 obtain ⟨fd,hb,hF⟩:=F w mg fa _ KX G.T.g hmg
 exact zhc KX G.T.g G.T.b G.T.builtins G.T.nolimit G.T.nodigits hg hobj hints (Nat.le_trans hlen hn2) hr hF hb (fun H hO hS=>hsp w H a ns hlen hO hS) fun H e s'=>hCX w H s₁ e s'
section
noncomputable def z6n (s:Stmt)(j:Nat):Stmt:=match s with
 | .ClassDef _ _ _ body _ _ _ _ _ _ _=>body.getD j (.Pass ⟨0,0,0,0⟩)
 | _=>.Pass ⟨0,0,0,0⟩
noncomputable def z1z (s:Stmt):Arguments:=match s with
 | .FunctionDef _ a _ _ _ _ _ _ _ _=>a
 | _=>{posonlyargs:=[],args:=[],vararg:=none,kwonlyargs:=[],kw_defaults:=[],kwarg:=none,defaults:=[]}
noncomputable def z15 (s:Stmt):List Stmt:=match s with
 | .FunctionDef _ _ b _ _ _ _ _ _ _=>b
 | _=>[]
noncomputable def z08 (s:Stmt):Scope:=match s with
 | .FunctionDef _ _ _ _ _ _ sc _ _ _=>sc
 | _=>{kind:=.function,names:=[],isGenerator:=false,isCoroutine:=false}
noncomputable abbrev CX0:CXT:=fun _ _ _ _ _ _=>False
noncomputable abbrev E0:XK:=fun _ _ _=>False
theorem zrm {X:Cx}:zg3 CX0 X E0:=fun _ _ _ _ _ _ _ h=>h.elim
structure Fun (K:W.Frag)(x qual:Str)(st:Stmt)(f:Addr)(fd:FuncData):Prop where
 ex:∃(oc:Value) (od:Option Addr) (kV doc pm:Value) (an:Option Addr) (cdv ct:Value) (osl:Array (Option Value)),
  fd=PySem.W.fnOf x qual (z1z st) (z15 st) (z08 st) .none kV doc pm an cdv ct∧K.lookup f=some ⟨oc,od,.func fd,osl⟩∧PySem.W.codeIn K cdv qual=true
 kp:PySem.W.keepIn K (.ref f)=true
section
variable {P:Program}{w:World}{K:W.Frag}{mg:Str→Option Value}{base:Heap}
theorem Fun.ok {x qual : Str}{st : Stmt}{f : Addr}{fd : FuncData}{N ps : List Str}{k : Nat}{sp : Sp}(F : Fun K x qual st f fd)(S : FnScope N ps (z08 st))(len : ∀ vs H Q E, sp vs H Q E → vs.length = ps.length)
  (hbody:∀(cdv:Value)(A:Around)(outer:List Env)(s:Shared)(H:Hp)(vs:List V)(Q:VK)(E:XK),Room k (A.deeper (envOfC qual (z08 st) s.heap.objs.size f cdv))→sp vs H Q E→
   ∃t,PSs (zch CX0 P w K mg base N qual (z08 st) f cdv A outer s H E).nox (z15 st) t∧t {nx:=fun _ H'=>Q .non H',rt:=Q} (start N vs) H):FnOk P w K mg base CX0 (k+1) f fd ps sp:=by
 obtain ⟨oc,od,kV,doc,pm,an,cdv,ct,osl,rfl,lk,hcd⟩:=F.ex
 refine zpj lk hcd S len fun A outer s H vs Q E hr hsp=>?_
 obtain ⟨t,h,q⟩:=hbody cdv A outer s H vs Q E hr hsp
 exact ⟨t,h.nox,q⟩
theorem Fun.binds {x qual : Str}{st : Stmt}{f : Addr}{fd : FuncData}{ps : List Str}(F : Fun K x qual st f fd)
  (h:∀(kV doc pm:Value)(an:Option Addr)(cdv ct:Value)(us:List Value),us.length=ps.length→bindArgs (PySem.W.fnOf x qual (z1z st) (z15 st) (z08 st) .none kV doc pm an cdv ct) ⟨us,[]⟩=pure (ps.zip us)):Binds K fd ps []:=by
 obtain ⟨oc,od,kV,doc,pm,an,cdv,ct,osl,rfl,lk,hcd⟩:=F.ex
 exact .all (h kV doc pm an cdv ct)
theorem z9l {x qual : Str}{st : Stmt}{f : Addr}{oc : Value}{od an : Option Addr}{osl : Array (Option Value)}{kV doc pm cdv ct : Value}(l : K.lookup f = some ⟨oc, od, .func (PySem.W.fnOf x qual (z1z st) (z15 st) (z08 st) .none kV doc pm an cdv ct), osl⟩)
  (c:PySem.W.codeIn K cdv qual=true)(k:PySem.W.keepIn K (.ref f)=true):Fun K x qual st f (PySem.W.fnOf x qual (z1z st) (z15 st) (z08 st) .none kV doc pm an cdv ct):=⟨⟨oc,od,kV,doc,pm,an,cdv,ct,osl,rfl,l,c⟩,k⟩
end
theorem z4r {A:Around}{k:Nat}(hr:Room k A):A.units+1<cLine:=Nat.lt_of_le_of_lt (Nat.add_le_add_left (by decide:1≤64) _) hr.units
theorem zdl {n:Nat}(h:n≤1000):n<sizeLine:=Nat.lt_of_le_of_lt h (by decide)
section
variable {X:Cx}
theorem pv (i : Nat){x : Str}{pos : Pos}(hN : X.N[i]? = some x := by rfl)(hv : Vis X.env.scope x := by first|exact Or.inl rfl|exact Or.inr (Or.inl rfl)|exact Or.inr (Or.inr rfl))(hd : (x == ("__debug__" : Str)) = false := by decide)
  (hcd:(x == ("__classdict__":Str))=false:=by decide):PE X (.Name x pos) (zm9 i):=zit hN hv hd hcd
end
theorem z8o {A B:Prop}(h:B):if false=true then A else B:=by
 rw[if_neg Bool.false_ne_true]
 exact h
theorem z9z {A B:Prop}(h:A):if true=true then A else B:=by
 rw[if_pos rfl]
 exact h
theorem z7g {c A B:Prop}[Decidable c](h1:c→A)(h2:¬c→B):if c then A else B:=by
 by_cases h:c
 ·rw[if_pos h]
  exact h1 h
 ·rw[if_neg h]
  exact h2 h
noncomputable def Same (H H':Hp):Prop:=∀b o,H b=some o→H' b=some o
theorem Same.refl (H:Hp):Same H H:=fun _ _ h=>h
theorem Same.trans {H H1 H2:Hp}(a:Same H H1)(b:Same H1 H2):Same H H2:=fun c o h=>b c o (a c o h)
theorem Same.free {H H':Hp}(e:Same H H'){l:Addr}(h:H' l=Option.none):H l=Option.none:=by
 cases q:H l with
 | none=>rfl
 | some o=>
  rw[e l o q]at h
  cases h
theorem Same.seq {K:W.Frag}{H H':Hp}{a:Addr}{xs:List V}(e:Same H H')(h:SqL K H a xs):SqL K H' a xs:=by
 rcases h with (h|⟨o,h⟩)|h
 ·exact .inl (.inl (e _ _ h))
 ·exact .inl (.inr ⟨o,e _ _ h⟩)
 ·exact .inr h
end
section
mutual
inductive Dv (K:W.Frag)(H:Hp):V→PyData→Prop
 | non:Dv K H .non .none
 | bl (b:Bool):Dv K H (.bl b) (.bool b)
 | int (i:Int):Dv K H (.int i) (.int i)
 | str (x:Str):Dv K H (.str x) (.str x)
 | lst {a:Addr} {xs:List V} {ds:List PyData}:SqL K H a xs→DvAll K H xs ds→Dv K H (.ref a) (.list ds)
 | tup {a:Addr} {xs:List V} {ds:List PyData}:SqT K H a xs→DvAll K H xs ds→Dv K H (.ref a) (.tuple ds)
 | dct {a:Addr} {kvs:List (Key×V)} {kds:List (PyData×PyData)}:H a=some (.dK kvs)→DvAll K H (kvs.map fun p=>kV p.1) (kds.map (·.1))→DvAll K H (kvs.map (·.2)) (kds.map (·.2))→Dv K H (.ref a) (.dict kds)
inductive DvAll (K:W.Frag)(H:Hp):List V→List PyData→Prop
 | nil:DvAll K H [] []
 | cons {x:V} {xs:List V} {d:PyData} {ds:List PyData}:Dv K H x d→DvAll K H xs ds→DvAll K H (x::xs) (d::ds)
end
section
variable {K:W.Frag}{H H':Hp}
theorem Same.seqT {a:Addr}{xs:List V}(e:Same H H')(h:SqT K H a xs):SqT K H' a xs:=by
 rcases h with (h|⟨o,h⟩)|h
 ·exact .inl (.inl (e _ _ h))
 ·exact .inl (.inr ⟨o,e _ _ h⟩)
 ·exact .inr h
theorem z0a {p:Addr}(h:H p=none)(o:HO):Same H (upd H p o):=fun b u q=>by rw[z0f (z0m q h)];exact q
mutual
theorem Dv.mono (e:Same H H'):∀{v:V}{d:PyData},Dv K H v d→Dv K H' v d
 | _,_,.non=>.non
 | _,_,.bl b=>.bl b
 | _,_,.int i=>.int i
 | _,_,.str x=>.str x
 | _,_,.lst h t=>.lst (e.seq h) (DvAll.mono e t)
 | _,_,.tup h t=>.tup (e.seqT h) (DvAll.mono e t)
 | _,_,.dct h k t=>.dct (e _ _ h) (DvAll.mono e k) (DvAll.mono e t)
theorem DvAll.mono (e:Same H H'):∀{vs:List V}{ds:List PyData},DvAll K H vs ds→DvAll K H' vs ds
 | _,_,.nil=>.nil
 | _,_,.cons h t=>.cons (Dv.mono e h) (DvAll.mono e t)
end
theorem DvAll.length:∀{vs:List V}{ds:List PyData},DvAll K H vs ds→vs.length=ds.length
 | _,_,.nil=>rfl
 | _,_,.cons _ t=>by rw[List.length_cons,List.length_cons,DvAll.length t]
theorem DvAll.append:∀{vs ws:List V}{ds es:List PyData},DvAll K H vs ds→DvAll K H ws es→DvAll K H (vs++ws) (ds++es)
 | _,_,_,_,.nil,t=>t
 | _,_,_,_,.cons h t,u=>.cons h (DvAll.append t u)
theorem DvAll.take:∀{vs:List V}{ds:List PyData}(n:Nat),DvAll K H vs ds→DvAll K H (vs.take n) (ds.take n)
 | _,_,0,_=>.nil
 | _,_,_+1,.nil=>.nil
 | _,_,n+1,.cons h t=>.cons h (DvAll.take n t)
end
theorem z3x {P:Program}{w:World}:∀{kvs:List (Key×V)}{vs:List (Key×Value)}{es:List DictEntry},KV kvs vs→Pairs (z1y P w) es vs→Vals (kvs.map fun p=>kV p.1) (es.map (·.key))∧Vals (kvs.map (·.2)) (es.map (·.val))
 | _,_,_,.nil,.nil=>⟨.nil,.nil⟩
 | _,_,_,.cons (a:=p) (b:=q) h t,.cons (e:=e) hk hv ps=>by
  obtain ⟨a,b⟩:=z3x t ps
  refine ⟨.cons ?_ a,.cons ?_ b⟩
  ·have hk':zap q.1 e.key=true:=hk
   show RelV (kV p.1) e.key
   rw[h.1]
   rcases z1i hk' with ⟨i,t,e1,e2⟩|⟨x,t,e1,e2⟩
   ·rw[e1,e2];exact ⟨t,rfl⟩
   ·rw[e1,e2];exact ⟨t,rfl⟩
  ·show RelV p.2 e.val
   rw[hv];exact h.2
section
variable {X:Cx}{pins:List (Addr×Obj)}{σ:St}{H:Hp}{s:Shared}
mutual
theorem Inv.reads (I:Inv X pins σ H s):∀{v:V}{d:PyData}{u:Value},Dv X.K H v d→RelV v u→∃as,Reads s.heap u d as
 | _,_,_,.non,r=>by cases r;exact ⟨_,.none⟩
 | _,_,_,.bl b,r=>by cases r;exact ⟨_,.bool b⟩
 | _,_,_,.int i,r=>by obtain ⟨t,rfl⟩:=r;exact ⟨_,.int i t⟩
 | _,_,_,.str x,r=>by obtain ⟨t,rfl⟩:=r;exact ⟨_,.str x t⟩
 | _,_,_,.lst h t,r=>by
  cases r
  obtain ⟨its,rv,⟨o,n,e,c,_,d⟩,_⟩:=I.list h
  obtain ⟨as,q⟩:=Inv.readsAll I t rv
  exact ⟨_,.list e c d q⟩
 | _,_,_,.tup h t,r=>by
  cases r
  obtain ⟨its,rv,⟨o,e,c,n,d⟩,_⟩:=I.tuple h
  obtain ⟨as,q⟩:=Inv.readsAll I t rv
  exact ⟨_,.tuple e c d q⟩
 | _,_,_,.dct (a:=a) (kvs:=kvs) h k t,r=>by
  cases r
  obtain ⟨_,_,vs,kv,o,es,ep,e,x,dt,_,ps,_⟩:=(show ObjOk X.prog X.w H s.heap a (.dK kvs) from I.hok a _ h)
  obtain ⟨rk,rv⟩:=z3x kv ps
  obtain ⟨as,q⟩:=Inv.readsAll I k rk
  obtain ⟨bs,q'⟩:=Inv.readsAll I t rv
  exact ⟨_,.dict e x.1 dt q q'⟩
theorem Inv.readsAll (I:Inv X pins σ H s):∀{vs:List V}{ds:List PyData}{us:List Value},DvAll X.K H vs ds→Vals vs us→∃as,ReadsAll s.heap us ds as
 | _,_,_,.nil,r=>by cases r;exact ⟨_,.nil⟩
 | _,_,_,.cons h t,r=>by
  cases r with
  | cons r1 r2=>
   obtain ⟨a1,q1⟩:=Inv.reads I h r1
   obtain ⟨a2,q2⟩:=Inv.readsAll I t r2
   exact ⟨_,.cons q1 q2⟩
end
end
section
variable {X:Cx}
theorem Inv.nodigits {pins:List (Addr×Obj)}{σ:St}{H:Hp}{s:Shared}(I:Inv X pins σ H s):s.heap.NoDigits:=I.ok.mod.nodigits.keeps I.bk
end
mutual
noncomputable def ShB:PyData→Prop
 | .none=>True
 | .bool _=>True
 | .str _=>True
 | .int i=>i.natAbs<2^14000
 | .list xs=>z8p xs
 | .tuple xs=>z8p xs
 | .dict kvs=>ShBp kvs
noncomputable def z8p:List PyData→Prop
 | []=>True
 | x::xs=>ShB x∧z8p xs
noncomputable def ShBp:List (PyData×PyData)→Prop
 | []=>True
 | (k,v)::r=>ShB k∧ShB v∧ShBp r
end
theorem ShBp.split:∀{kvs:List (PyData×PyData)},ShBp kvs→z8p (kvs.map (·.1))∧z8p (kvs.map (·.2))
 | [],_=>⟨by simp only[List.map_nil,z8p],by simp only[List.map_nil,z8p]⟩
 | (k,v)::r,h=>by
  have h':ShB k∧ShB v∧ShBp r:=by simpa only[ShBp] using h
  obtain ⟨a,b⟩:=ShBp.split h'.2.2
  exact ⟨by simp only[List.map_cons,z8p];exact ⟨h'.1,a⟩,by simp only[List.map_cons,z8p];exact ⟨h'.2.1,b⟩⟩
theorem zj5 {i:Int}(h:i.natAbs<2^14000):i.natAbs<10^4300:=Nat.lt_of_lt_of_le h (by decide +kernel)
section
variable {prog:Program}{w:World}{A:Around}{E:Value→Shared→Prop}{s:Shared}{h₀:Heap}
theorem z5b {a : Int}{t : Tok}{Q : Value → Shared → Prop}(hn : s.heap.NoDigits)(hlt : a.natAbs<10^4300)(h1 : Q (.str (toString a) s.toks) { s with toks := s.toks+1 }) :
  wpAny (model prog w) A (call (.builtin "int.__repr__") [.int a t]) Q E s:=by
 refine wpAny_call_entry F.slot_int_repr (typeIs_int s a t) F.entry_int_repr ?_ (F.args_int_repr_1 _)
 unfold Builtin.«int.__repr__»
 show wpAny _ _ (do let r ←Builtin.overDigitLimit? a;_) _ _ s
 refine wpAny_bind (overDigitLimit_any hn (fun _=>?_) (fun hge=>absurd hlt (Nat.not_lt.mpr hge)))
 exact wpAny_bind (wpAny_mkStr (wpAny_pure ⟨_,rfl,h1⟩) (int_text_fits10 hlt))
theorem zdx {a:Int}(t:Tok)(hn:h₀.NoDigits)(hlt:a.natAbs<10^4300)(d:Nat):ReprK prog w [] h₀ d (.int a t) (toString a):=fun base hb A g E s Q hg hcl hu hk0 hQ=>by
 have hn':base≤sizeLine:=by omega
 rw[pyReprUnder_leaf (v:=.int a t) hn' (fun _ e=>nomatch e)]
 unfold pyRepr
 exact wpAny_bind (wpAny_pyReprObj_slot (by omega) (typeIs_int s a t) F.slot_int_repr.toG (z5b (hn.keeps hk0) hlt ⟨_,_,rfl,wpAny_pure (hQ s.heap _ fun _ _ e=>e)⟩))
end
section
variable {X:Cx}{pins:List (Addr×Obj)}{σ:St}{H:Hp}{s:Shared}
mutual
theorem Inv.reprB (I:Inv X pins σ H s):∀{v:V}{d:PyData}{u:Value},Dv X.K H v d→RelV v u→ShB d→d.shown.length≤sizeLine→∃bs,ReadAtMost s.heap d.depth bs∧ReprK X.prog X.w bs s.heap d.depth u d.shown
 | _,_,_,.non,r,_,_=>by cases r;exact ⟨[],(fun _ h=>nomatch h),by simp only[PyData.shown];exact .of_is ReprIs.none _ _ _⟩
 | _,_,_,.bl b,r,_,_=>by cases r;exact ⟨[],(fun _ h=>nomatch h),by simp only[PyData.shown];exact .of_is (ReprIs.bool b) _ _ _⟩
 | _,_,_,.int i,r,hs,_=>by obtain ⟨t,rfl⟩:=r;exact ⟨[],(fun _ h=>nomatch h),by simp only[PyData.shown];exact zdx t I.nodigits (zj5 (by simpa only[ShB] using hs)) _⟩
 | _,_,_,.str x,r,_,hz=>by obtain ⟨t,rfl⟩:=r;exact ⟨[],(fun _ h=>nomatch h),by simp only[PyData.shown];exact .of_is (ReprIs.str x t (by simpa only[PyData.shown] using hz)) _ _ _⟩
 | _,_,_,.lst (a:=a) (xs:=xs) (ds:=ds) h t,r,hs,hz=>by
  cases r
  have hz':(listText (PyData.shownAll ds)).length≤sizeLine:=by simpa only[PyData.shown] using hz
  obtain ⟨its,rv,⟨o,n,e,c,_,d⟩,_⟩:=I.list h
  obtain ⟨as,q⟩:=I.readsAll t rv
  obtain ⟨bs,hb,hk⟩:=Inv.reprAllB I t rv (by simpa only[ShB] using hs) (fun t ht=>Nat.le_trans (listText_mem_le ht) hz')
  have r:Reads s.heap (.ref a) (.list ds) _:=.list e c d q
  have hna:a∉bs:=not_mem_of_deeper r (by simp only[PyData.depth];omega) hb
  refine ⟨a::bs,ReadAtMost.cons r (by simp only[PyData.depth];omega) hb,?_⟩
  simp only[PyData.depth,PyData.shown]
  cases its with
  | nil=>
   cases q
   simp only[PyData.shownAll,listText_nil]
   exact ReprK.listEmpty e c d
  | cons x l=>exact ReprK.list e c d hna (by simpa using hk.length_eq) (fun i y e=>hk.item i y (by simpa using e))
 | _,_,_,.tup (a:=a) (ds:=ds) h t,r,hs,hz=>by
  cases r
  have hz':(tupleText (PyData.shownAll ds)).length≤sizeLine:=by simpa only[PyData.shown] using hz
  obtain ⟨its,rv,⟨o,e,c,n,d⟩,_⟩:=I.tuple h
  obtain ⟨as,q⟩:=I.readsAll t rv
  obtain ⟨bs,hb,hk⟩:=Inv.reprAllB I t rv (by simpa only[ShB] using hs) (fun t ht=>Nat.le_trans (tupleText_mem_le ht) hz')
  have r:Reads s.heap (.ref a) (.tuple ds) _:=.tuple e c d q
  have hna:a∉bs:=not_mem_of_deeper r (by simp only[PyData.depth];omega) hb
  refine ⟨a::bs,ReadAtMost.cons r (by simp only[PyData.depth];omega) hb,?_⟩
  simp only[PyData.depth,PyData.shown]
  exact ReprK.tuple e c d hna hk
 | _,_,_,.dct (a:=a) (kvs:=kvs) (kds:=kds) h k t,r,hs,hz=>by
  cases r
  have hz':(dictText (PyData.shownKv kds)).length≤sizeLine:=by simpa only[PyData.shown] using hz
  obtain ⟨hs1,hs2⟩:=ShBp.split (by simpa only[ShB] using hs)
  obtain ⟨_,hsys,vs,kv,o,es,ep,e,x,dt,_,ps,_⟩:=(show ObjOk X.prog X.w H s.heap a (.dK kvs) from I.hok a _ h)
  obtain ⟨rk,rv⟩:=z3x kv ps
  obtain ⟨as,q⟩:=I.readsAll k rk
  obtain ⟨bs,q'⟩:=I.readsAll t rv
  obtain ⟨b1,hb1,k1⟩:=Inv.reprAllB I k rk hs1 (fun t ht=>let ⟨p,hp,hl⟩:=PyData.shownKv_key_le kds t ht;Nat.le_trans hl (Nat.le_trans (dictText_mem_le hp) hz'))
  obtain ⟨b2,hb2,k2⟩:=Inv.reprAllB I t rv hs2 (fun t ht=>let ⟨p,hp,hl⟩:=PyData.shownKv_val_le kds t ht;Nat.le_trans hl (Nat.le_trans (dictText_mem_le hp) hz'))
  have r:Reads s.heap (.ref a) (.dict kds) _:=.dict e x.1 dt q q'
  have hb:ReadAtMost s.heap (PyData.depthKv kds) (b1++b2):=(hb1.mono (PyData.depthAll_keys_le kds)).append (hb2.mono (PyData.depthAll_vals_le kds))
  have hna:a∉b1++b2:=not_mem_of_deeper r (by simp only[PyData.depth];omega) hb
  refine ⟨a::(b1++b2),ReadAtMost.cons r (by simp only[PyData.depth];omega) hb,?_⟩
  simp only[PyData.depth,PyData.shown,PyData.shownKv_eq]
  exact ReprK.dict e x.1 dt hsys hna (ReprEntriesK.of_two es.toList _ _ (k1.more_le (fun b hb=>List.mem_append_left _ hb) (PyData.depthAll_keys_le kds)) (k2.more_le (fun b hb=>List.mem_append_right _ hb) (PyData.depthAll_vals_le kds)))
theorem Inv.reprAllB (I : Inv X pins σ H s) : ∀ {vs : List V} {ds : List PyData} {us : List Value}, DvAll X.K H vs ds → Vals vs us → z8p ds → (∀ t ∈ PyData.shownAll ds, t.length ≤ sizeLine) →
  ∃bs,ReadAtMost s.heap (PyData.depthAll ds) bs∧ReprAllK X.prog X.w bs s.heap (PyData.depthAll ds) us (PyData.shownAll ds)
 | _,_,_,.nil,r,_,_=>by cases r;exact ⟨[],(fun _ h=>nomatch h),by simp only[PyData.shownAll];exact .nil⟩
 | _,_,_,.cons (d:=d) (ds:=ds) h t,r,hs,hz=>by
  cases r with
  | cons r1 r2=>
   have hs':ShB d∧z8p ds:=by simpa only[z8p] using hs
   obtain ⟨b1,hb1,k1⟩:=Inv.reprB I h r1 hs'.1 (hz _ (by simp only[PyData.shownAll];exact List.mem_cons_self ..))
   obtain ⟨b2,hb2,k2⟩:=Inv.reprAllB I t r2 hs'.2 (fun t ht=>hz t (by simp only[PyData.shownAll];exact List.mem_cons_of_mem _ ht))
   refine ⟨b1++b2,?_,?_⟩
   ·intro b hm
    simp only[PyData.depthAll]
    rcases List.mem_append.mp hm with hm|hm
    ·obtain ⟨d',as',r',hd'⟩:=hb1 b hm
     exact ⟨d',as',r',Nat.le_trans hd' (Nat.le_max_left _ _)⟩
    ·obtain ⟨d',as',r',hd'⟩:=hb2 b hm
     exact ⟨d',as',r',Nat.le_trans hd' (Nat.le_max_right _ _)⟩
   ·simp only[PyData.depthAll,PyData.shownAll]
    exact .cons ((k1.more fun b hb=>List.mem_append_left _ hb).level_le (Nat.le_max_left _ _)) (k2.more_le (fun b hb=>List.mem_append_right _ hb) (Nat.le_max_right _ _))
end
end
section
variable {X:Cx}
structure Shw (d:PyData):Prop where
 sh:ShB d
 dp:d.depth≤60
 sz:d.shown.length≤sizeLine
theorem zfr {k:Nat}(hr:Room k X.A):z3w X (.builtin "repr") (fun xs H Q=>∃x d k,xs=[x]∧Dv X.K H x d∧Shw d∧k=d.shown∧Q (.str k) H):=by
 intro pins s σ H xs us Q I r h
 obtain ⟨x,d,k,rfl,hd,S,rfl,q⟩:=h
 obtain ⟨u,rfl,rx⟩:=z6x r
 have hu:=hr.units
 have hnd:=I.nodigits
 have fin:∀h' t tk,(∀b o,s.heap.get? b=some o→h'.get? b=some o)→EP X pins σ Q (.str d.shown t) {s with heap:=h',toks:=tk}:=fun h' t tk hk=>⟨.str d.shown,H,I.kept hk,⟨t,rfl⟩,q⟩
 cases hd with
 | non=>cases rx;exact PySem.P.repr_of_none (fin s.heap _ _ fun _ _ e=>e)
 | bl b=>cases rx;exact PySem.P.repr_of_bool (fin s.heap _ _ fun _ _ e=>e)
 | int i=>
  obtain ⟨t,rfl⟩:=rx
  exact call_repr_slot (by omega) (typeIs_int s i t) F.slot_int_repr.toG (z5b hnd (zj5 (by simpa only[ShB] using S.sh)) ⟨_,_,rfl,fin s.heap _ _ fun _ _ e=>e⟩)
 | str y=>obtain ⟨t,rfl⟩:=rx;exact PySem.P.repr_of_str (fin s.heap _ _ fun _ _ e=>e) S.sz
 | lst h t=>
  rename_i a xs ds
  cases rx
  have hz':(listText (PyData.shownAll ds)).length≤sizeLine:=by simpa only[PyData.shown] using S.sz
  obtain ⟨its,rv,⟨o,n,e,c,_,dd⟩,_⟩:=I.list h
  obtain ⟨as,rd⟩:=I.readsAll t rv
  obtain ⟨bs,hb,hk⟩:=I.reprAllB t rv (by simpa only[ShB] using S.sh) (fun t ht=>Nat.le_trans (listText_mem_le ht) hz')
  have hna:a∉bs:=not_mem_of_deeper (.list e c dd rd) (by simp only[PyData.depth];omega) hb
  have hdp:=S.dp
  simp only[PyData.depth]at hdp
  simp only[PyData.shown]at fin
  cases its with
  | nil=>
   cases rd
   simp only[PyData.shownAll,listText_nil]at fin
   exact call_repr_slot (by omega) ⟨o,e,c⟩ F.slot_list_repr.toG (call_list_repr_empty ⟨o,e,c⟩ e dd ⟨_,_,rfl,fin s.heap _ _ fun _ _ e=>e⟩)
  | cons y l=>
   exact call_repr_slot (by omega) ⟨o,e,c⟩ F.slot_list_repr.toG (call_list_reprK e c dd hna (by simpa using hk.length_eq) (fun i y e=>hk.item i y (by simpa using e)) hr.gd (fun b _=>Clear.nil b) (by show X.A.units+1+_<cLine;omega) (fun _ _ e=>e) (fun h' u tk hk'=>⟨_,_,rfl,fin h' u tk hk'⟩) hz')
 | tup h t=>
  rename_i a xs ds
  cases rx
  have hz':(tupleText (PyData.shownAll ds)).length≤sizeLine:=by simpa only[PyData.shown] using S.sz
  obtain ⟨its,rv,⟨o,e,c,n,dd⟩,_⟩:=I.tuple h
  obtain ⟨as,rd⟩:=I.readsAll t rv
  obtain ⟨bs,hb,hk⟩:=I.reprAllB t rv (by simpa only[ShB] using S.sh) (fun t ht=>Nat.le_trans (tupleText_mem_le ht) hz')
  have hna:a∉bs:=not_mem_of_deeper (.tuple e c dd rd) (by simp only[PyData.depth];omega) hb
  have hdp:=S.dp
  simp only[PyData.depth]at hdp
  simp only[PyData.shown]at fin
  exact call_repr_slot (by omega) ⟨o,e,c⟩ F.slot_tuple_repr (call_tuple_reprK e c dd hna hk hr.gd (fun b _=>Clear.nil b) (by show X.A.units+1+_<cLine;omega) (fun _ _ e=>e) (fun h' u tk hk'=>⟨_,_,rfl,fin h' u tk hk'⟩) hz')
 | dct h kk t=>
  rename_i a kvs kds
  cases rx
  have hz':(dictText (PyData.shownKv kds)).length≤sizeLine:=by simpa only[PyData.shown] using S.sz
  obtain ⟨hs1,hs2⟩:=ShBp.split (by simpa only[ShB] using S.sh)
  obtain ⟨_,hsys,vs,kv,o,es,ep,e,x,dt,_,ps,_⟩:=(show ObjOk X.prog X.w H s.heap a (.dK kvs) from I.hok a _ h)
  obtain ⟨rk,rv⟩:=z3x kv ps
  obtain ⟨as,q1⟩:=I.readsAll kk rk
  obtain ⟨bs,q2⟩:=I.readsAll t rv
  obtain ⟨b1,hb1,k1⟩:=I.reprAllB kk rk hs1 (fun t ht=>let ⟨p,hp,hl⟩:=PyData.shownKv_key_le kds t ht;Nat.le_trans hl (Nat.le_trans (dictText_mem_le hp) hz'))
  obtain ⟨b2,hb2,k2⟩:=I.reprAllB t rv hs2 (fun t ht=>let ⟨p,hp,hl⟩:=PyData.shownKv_val_le kds t ht;Nat.le_trans hl (Nat.le_trans (dictText_mem_le hp) hz'))
  have r:Reads s.heap (.ref a) (.dict kds) _:=.dict e x.1 dt q1 q2
  have hb:ReadAtMost s.heap (PyData.depthKv kds) (b1++b2):=(hb1.mono (PyData.depthAll_keys_le kds)).append (hb2.mono (PyData.depthAll_vals_le kds))
  have hna:a∉b1++b2:=not_mem_of_deeper r (by simp only[PyData.depth];omega) hb
  have hdp:=S.dp
  simp only[PyData.depth]at hdp
  simp only[PyData.shown,PyData.shownKv_eq]at fin
  exact call_repr_slot (by omega) ⟨o,e,x.1⟩ F.slot_dict_repr (call_dict_reprK e x.1 dt hsys hna (ReprEntriesK.of_two es.toList _ _ (k1.more_le (fun b hb=>List.mem_append_left _ hb) (PyData.depthAll_keys_le kds)) (k2.more_le (fun b hb=>List.mem_append_right _ hb) (PyData.depthAll_vals_le kds))) hr.gd (fun b _=>Clear.nil b) (by show X.A.units+1+_<cLine;omega) (fun _ _ e=>e) (fun h' u tk hk'=>⟨_,_,rfl,fin h' u tk hk'⟩) (by rw[←PyData.shownKv_eq];exact hz'))
theorem zei {k:Nat}(hr:Room k X.A):OpR X (compareOp .Eq) (fun x y H Q=>∃d e,Dv X.K H x d∧Dv X.K H y e∧d.canLay0=true∧e.canLay0=true∧d.depth≤60∧Q (.bl (PyData.eqv d e)) H):=by
 intro pins s σ H x y v u Q I rx ry h
 obtain ⟨d,e,hd,he,cd,ce,dp,q⟩:=h
 obtain ⟨as,r1⟩:=I.reads hd rx
 obtain ⟨bs,r2⟩:=I.reads he ry
 have hu:=hr.units
 refine PySem.SeqAt.compareEq_reads r1 r2 cd ce ?_ ⟨.bl (PyData.eqv d e),H,I,rfl,q⟩
 have:=Nat.min_le_left d.depth e.depth
 omega
theorem zbw {k:Nat}(hr:Room k X.A):OpR X (compareOp .NotEq) (fun x y H Q=>∃d e,Dv X.K H x d∧Dv X.K H y e∧d.canLay0=true∧e.canLay0=true∧d.depth≤60∧Q (.bl (!PyData.eqv d e)) H):=by
 intro pins s σ H x y v u Q I rx ry h
 obtain ⟨d,e,hd,he,cd,ce,dp,q⟩:=h
 obtain ⟨as,r1⟩:=I.reads hd rx
 obtain ⟨bs,r2⟩:=I.reads he ry
 have hu:=hr.units
 refine PySem.SeqAt.compareNe_reads r1 r2 cd ce ?_ ⟨.bl (!PyData.eqv d e),H,I,rfl,q⟩
 have:=Nat.min_le_left d.depth e.depth
 omega
noncomputable def zsg (i j:Int):Prop:=j≠0∧j.natAbs.log2<9000
theorem z5p:OpR X (binaryOp .FloorDiv) (rI zsg fun i j=>.int (i.fdiv j)):=opI fun i j _ _ _ _ _ hc q=>
 floordiv_int hc.1 q (.inl (PyProof.noPylong_of_log2 hc.2))
noncomputable def zg4 (i j:Int):Prop:=Builtin.Int.intBits i≤2^20∧Builtin.Int.intBits j≤2^20
theorem z26:OpR X (binaryOp .Mult) (rI zg4 fun i j=>.int (i*j)):=opI fun _ _ _ _ _ _ _ hc q=>mul_int q (IntMulOk.of_bits hc.1 hc.2)
end
end
section
noncomputable def Src (K:W.Frag)(mg:Str→Option Value)(x:Str)(st:Stmt):Prop:=∃f fd,Fun K x x st f fd∧mg x=some (.ref f)
structure Def (P:Program)(w:World)(K:W.Frag)(mg:Str→Option Value)(base:Heap)(x:Str)(ps:List Str)(n:Nat)(sp:Sp):Prop where
 ex:∃f fd,FnOk P w K mg base CX0 n f fd ps sp∧PySem.W.keepIn K (.ref f)=true∧mg x=some (.ref f)∧Binds K fd ps []∧∃oc od osl,K.lookup f=some ⟨oc,od,.func fd,osl⟩
section
variable {P:Program}{w:World}{K:W.Frag}{mg:Str→Option Value}{base:Heap}
theorem Src.mk {X : K.In base}{h : Heap}{x : Str}{st : Stmt}{f : Addr}{oc : Value}{od an : Option Addr}{osl : Array (Option Value)}{kV doc pm cdv ct : Value}(m : mg x = some (.ref f))(l : K.lookup f = some ⟨oc, od, .func (PySem.W.fnOf x x (z1z st) (z15 st) (z08 st) .none kV doc pm an cdv ct), osl⟩)
  (c:PySem.W.codeIn K cdv x=true)(k:PySem.W.keepIn K (.ref f)=true):Src K mg x st:=⟨f,_,z9l l c k,m⟩
theorem Def.mk' {x : Str}{st : Stmt}{N ps : List Str}{n : Nat}{sp : Sp}(T : Src K mg x st)(S : FnScope N ps (z08 st))(len : ∀ vs H Q E, sp vs H Q E → vs.length = ps.length)
  (hb:∀(kV doc pm:Value)(an:Option Addr)(cdv ct:Value)(us:List Value),us.length=ps.length→bindArgs (PySem.W.fnOf x x (z1z st) (z15 st) (z08 st) .none kV doc pm an cdv ct) ⟨us,[]⟩=pure (ps.zip us))
  (hbody:∀(f:Addr)(cdv:Value)(A:Around)(outer:List Env)(s:Shared)(H:Hp)(vs:List V)(Q:VK)(E:XK),Room n (A.deeper (envOfC x (z08 st) s.heap.objs.size f cdv))→sp vs H Q E→
   ∃t,PSs (zch CX0 P w K mg base N x (z08 st) f cdv A outer s H E).nox (z15 st) t∧t {nx:=fun _ H'=>Q .non H',rt:=Q} (start N vs) H):Def P w K mg base x ps (n+1) sp:=by
 obtain ⟨f,fd,F,m⟩:=T
 exact ⟨f,fd,F.ok S len fun cdv A outer s H vs Q E hr h=>hbody f cdv A outer s H vs Q E hr h,F.kp,m,F.binds hb,by
  obtain ⟨oc,od,kV,doc,pm,an,cdv,ct,osl,rfl,lk,hcd⟩:=F.ex
  exact ⟨_,_,_,lk⟩⟩
theorem Def.fn {x:Str}{st:Stmt}{ps:List Str}{n:Nat}{sp:Sp}{f:Addr}{fd:FuncData}(D:Def P w K mg base x ps n sp)(F:Fun K x x st f fd)(m:mg x=some (.ref f)):FnOk P w K mg base CX0 n f fd ps sp:=by
 obtain ⟨f2,fd2,G,k,m2,b,oc,od,osl,lk⟩:=D.ex
 rw[m]at m2
 cases m2
 obtain ⟨oc',od',kV,doc,pm,an,cdv,ct,osl',rfl,lk',hcd⟩:=F.ex
 rw[lk]at lk'
 cases lk'
 exact G
end
section
variable {X:Cx}{x:Str}{ps:List Str}{n k:Nat}{sp:Sp}{p pos:Pos}{e:Expr}{es:List Expr}{t:TA}
theorem zrj (D : Def X.prog X.w X.K X.mg X.base x ps n sp)(hr : Room k X.A)(ha : PA X (e :: es) t)(hk : n ≤ k := by decide)(hg : Gl X x := by rfl)(hdb : (x == ("__debug__" : Str)) = false := by decide)
  (he:starEach (e::es) X.env=(false,eval e X.env)::starEach es X.env:=by rfl)(hpl:(backTo pos (starEach es X.env)).any (·.1)=false:=by rfl) :
  PE X (.Call (.Name x p) (e::es) [] pos) (zge sp [] E0 t):=by
 intro pins s σ H Q I h
 obtain ⟨f,fd,F,kp,m,b,_⟩:=D.ex
 exact zl7 F (hr.mono hk) hg m kp b .nil zrm ha hdb he hpl pins s σ H Q I h
end
end
section
inductive TyD (K:W.Frag)(H:Hp):V→String→Prop where
 | non:TyD K H .non "NoneType"
 | bl (x:Bool):TyD K H (.bl x) "bool"
 | int (i:Int):TyD K H (.int i) "int"
 | str (x:Str):TyD K H (.str x) "str"
 | lst {a:Addr} {xs:List V} (e:SqL K H a xs):TyD K H (.ref a) "list"
 | tup {a:Addr} {xs:List V} (e:SqT K H a xs):TyD K H (.ref a) "tuple"
 | dK {a:Addr} {kvs:List (Key×V)} (e:H a=some (.dK kvs)):TyD K H (.ref a) "dict"
section
variable {X:Cx}
theorem z4t:z3w X (.builtin "isinstance") (fun xs H Q=>∃x t c b,xs=[x,.ty c]∧TyD X.K H x t∧PySem.W.kitOne X.K (.type t) (.type c)=some b∧Q (.bl b) H):=by
 intro pins s σ H xs us Q I r h
 obtain ⟨x,t,c,b,rfl,ht,hk,q⟩:=h
 obtain ⟨u,w',rfl,rx,ry⟩:=zjh r
 cases ry
 have fin:∀tk,EP X pins σ Q (.bool b) {s with toks:=tk}:=fun tk=>⟨.bl b,H,I.tok tk,rfl,q⟩
 cases ht with
 | non=>exact z3t I rx .non hk fin
 | bl y=>exact z3t I rx (.bl y) hk fin
 | int i=>exact z3t I rx (.int i) hk fin
 | str y=>exact z3t I rx (.str y) hk fin
 | dK e=>exact z3t I rx (.dK e) hk fin
 | lst e=>
  cases rx
  obtain ⟨its,rv,⟨o,n,e1,c1,_,_⟩,_⟩:=I.list e
  exact PySem.W.kia_one PySem.W.kitx_list I.kIn ⟨o,e1,c1⟩ hk (fun z=>nomatch z) fin
 | tup e=>
  cases rx
  obtain ⟨its,rv,⟨o,e1,c1,_⟩,_⟩:=I.tuple e
  exact PySem.W.kia_one PySem.W.kitx_tuple I.kIn ⟨o,e1,c1⟩ hk (fun z=>nomatch z) fin
end
end
section
theorem z1v:bootBuiltins "len"=some (.builtin "len"):=by decide +kernel
theorem zfx:bootBuiltins "abs"=some (.builtin "abs"):=by decide +kernel
theorem zfv:bootBuiltins "max"=some (.builtin "max"):=by decide +kernel
theorem zpt:bootBuiltins "min"=some (.builtin "min"):=by decide +kernel
theorem zfu:bootBuiltins "repr"=some (.builtin "repr"):=by decide +kernel
theorem z2a:bootBuiltins "isinstance"=some (.builtin "isinstance"):=by decide +kernel
theorem zhu:bootBuiltins "range"=some (.type "range"):=by decide +kernel
theorem zfw:bootBuiltins "int"=some (.type "int"):=by decide +kernel
theorem zm3:bootBuiltins "bool"=some (.type "bool"):=by decide +kernel
theorem z2i:bootBuiltins "tuple"=some (.type "tuple"):=by decide +kernel
theorem zay:bootBuiltins "list"=some (.type "list"):=by decide +kernel
theorem zmc:([]:List V).length≤sizeLine:=by show 0≤sizeLine;decide
theorem len1 {a:V}:[a].length≤sizeLine:=by show 1≤sizeLine;decide
theorem len2 {a b:V}:[a,b].length≤sizeLine:=by show 2≤sizeLine;decide
theorem zcc {x y:Int}(hx:0≤x)(hy:0≤y):Int.gcd y (x%y)=Int.gcd x y:=by
 obtain ⟨m,rfl⟩:=Int.eq_ofNat_of_zero_le hx
 obtain ⟨n,rfl⟩:=Int.eq_ofNat_of_zero_le hy
 rw[←Int.natCast_emod]
 show Nat.gcd n (m%n)=Nat.gcd m n
 rw[Nat.gcd_comm m n,Nat.gcd_rec n m,Nat.gcd_comm]
theorem zpu (z:Int):(if z<0 then -z else z)=(z.natAbs:Int):=by split<;>omega
noncomputable abbrev Bt (m:Nat)(x:Int):Prop:=x.natAbs<2^m
theorem Bt.bits {m:Nat}{x:Int}(h:Bt m x):Builtin.Int.intBits x≤m:=by
 unfold Builtin.Int.intBits
 split
 ·exact Nat.zero_le _
 ·rename_i hx
  have hx':x.natAbs≠0:=by intro z;apply hx;simp;omega
  exact (Nat.log2_lt hx').mpr h
theorem Bt.mono {m n:Nat}{x:Int}(h:Bt m x)(hm:m≤n):Bt n x:=Nat.lt_of_lt_of_le h (Nat.pow_le_pow_right (by decide) hm)
theorem Bt.log2 {m:Nat}{x:Int}(h:Bt m x)(hm:0<m):x.natAbs.log2<m:=by
 by_cases hx:x.natAbs=0
 ·rw[hx];simpa using hm
 ·exact (Nat.log2_lt hx).mpr h
theorem Bt.mul {m n:Nat}{x y:Int}(h:Bt m x)(k:Bt n y):Bt (m+n) (x*y):=by
 show (x*y).natAbs<2^(m+n)
 rw[Int.natAbs_mul,Nat.pow_add]
 exact Nat.mul_lt_mul'' h k
theorem Bt.add {m:Nat}{x y:Int}(h:Bt m x)(k:Bt m y):Bt (m+1) (x+y):=by
 show (x+y).natAbs<2^(m+1)
 have h:x.natAbs<2^m:=h
 have k:y.natAbs<2^m:=k
 rw[Nat.pow_succ];omega
theorem Bt.sub {m:Nat}{x y:Int}(h:Bt m x)(k:Bt m y):Bt (m+1) (x-y):=by
 show (x-y).natAbs<2^(m+1)
 have h:x.natAbs<2^m:=h
 have k:y.natAbs<2^m:=k
 rw[Nat.pow_succ];omega
theorem Bt.neg {m:Nat}{x:Int}(h:Bt m x):Bt m (-x):=by
 show (-x).natAbs<2^m
 rw[Int.natAbs_neg];exact h
theorem Bt.cmul {m n:Nat}{x y:Int}(h:Bt m x)(k:Bt n y)(hm:m≤2^20:=by decide)(hn:n≤2^20:=by decide):zg4 x y:=⟨Nat.le_trans h.bits hm,Nat.le_trans k.bits hn⟩
theorem Bt.of_lt {m:Nat}{x:Int}(b:Int)(h0:-b<x)(h1:x<b)(hb:b≤2^m):Bt m x:=by
 show x.natAbs<2^m
 have:((x.natAbs:Nat):Int)<((2^m:Nat):Int):=by push_cast;omega
 exact Int.ofNat_lt.mp this
noncomputable def sh (q:Rat):PyData:=.tuple [.int q.num,.int (q.den:Int)]
structure Bs (m:Nat)(q:Rat):Prop where
 n:Bt m q.num
 d:Bt m (q.den:Int)
theorem Bs.mono {m n:Nat}{q:Rat}(h:Bs m q)(hm:m≤n):Bs n q:=⟨h.n.mono hm,h.d.mono hm⟩
theorem den_pos (q:Rat):(0:Int)<(q.den:Int):=Int.ofNat_lt.mpr q.den_pos
theorem z2l (q:Rat):Rat.divInt q.num q.den=q:=Rat.num_divInt_den q
theorem zc2 {a b : Int}(hb : b ≠ 0)(g : Int)(hg : g = if b<0 then -(Int.gcd a b : Int) else (Int.gcd a b : Int)) :
  a.fdiv g=(Rat.divInt a b).num∧b.fdiv g=((Rat.divInt a b).den:Int)∧g≠0:=by
 have hg0:(0:Int)<(Int.gcd a b:Int):=by
  have:0<Int.gcd a b:=Int.gcd_pos_of_ne_zero_right a hb
  exact Int.ofNat_lt.mpr this
 have hga:(Int.gcd a b:Int)∣a:=Int.gcd_dvd_left ..
 have hgb:(Int.gcd a b:Int)∣b:=Int.gcd_dvd_right ..
 obtain ⟨x,hx⟩:=hga
 obtain ⟨y,hy⟩:=hgb
 have hgg:(b.gcd a:Int)=(Int.gcd a b:Int):=by rw[Int.gcd_comm]
 have hgn:b.gcd a=Int.gcd a b:=Int.gcd_comm ..
 generalize hG:(Int.gcd a b:Int)=G at *
 rw[Rat.num_divInt,Rat.den_divInt,if_neg hb]
 by_cases hneg:b<0
 ·rw[if_pos hneg]at hg
  subst hg
  refine ⟨?_,?_,by omega⟩
  ·rw[Int.sign_eq_neg_one_of_neg hneg,hgg]
   have e1:a=(-x)*(-G):=by rw[hx];grind
   have e2:-1*a=(-x)*G:=by rw[hx];grind
   rw[e2,Int.mul_ediv_cancel _ (by omega)]
   conv=>lhs;rw[e1]
   exact Int.mul_fdiv_cancel _ (by omega)
  ·have e1:b=(-y)*(-G):=by rw[hy];grind
   have hy0:y<0:=by
    rcases Int.lt_or_le y 0 with h|h
    ·exact h
    ·have:=Int.mul_nonneg (Int.le_of_lt hg0) h;omega
   conv=>lhs;rw[e1]
   rw[Int.mul_fdiv_cancel _ (by omega),hgn]
   have e3:b.natAbs=y.natAbs*Int.gcd a b:=by
    rw[←Int.natAbs_natCast (Int.gcd a b),hG,←Int.natAbs_mul,Int.mul_comm,←hy]
   have hpos:0<Int.gcd a b:=by omega
   rw[e3,Nat.mul_div_cancel _ hpos]
   omega
 ·rw[if_neg hneg]at hg
  subst hg
  have hbp:0<b:=by omega
  refine ⟨?_,?_,by omega⟩
  ·rw[Int.sign_eq_one_of_pos hbp,hgg,Int.one_mul]
   have e1:a=x*g:=by rw[hx];grind
   conv=>lhs;rw[e1]
   conv=>rhs;rw[e1]
   rw[Int.mul_fdiv_cancel _ (by omega),Int.mul_ediv_cancel _ (by omega)]
  ·have e1:b=y*g:=by rw[hy];grind
   have hy0:0<y:=by
    rcases Int.lt_or_le 0 y with h|h
    ·exact h
    ·have:=Int.mul_nonneg (Int.le_of_lt hg0) (show 0≤-y by omega)
     have e:g * -y=-(g*y):=by grind
     omega
   conv=>lhs;rw[e1]
   rw[Int.mul_fdiv_cancel _ (by omega),hgn]
   have e3:b.natAbs=y.natAbs*Int.gcd a b:=by
    rw[←Int.natAbs_natCast (Int.gcd a b),hG,←Int.natAbs_mul,Int.mul_comm,←hy]
   have hpos:0<Int.gcd a b:=by omega
   rw[e3,Nat.mul_div_cancel _ hpos]
   omega
theorem Bs.divInt {m:Nat}{a b:Int}(ha:Bt m a)(hb:Bt m b)(h0:b≠0):Bs m (Rat.divInt a b):=by
 constructor
 ·show (Rat.divInt a b).num.natAbs<2^m
  rw[Rat.num_divInt]
  refine Nat.lt_of_le_of_lt (Int.natAbs_ediv_le_natAbs _ _) ?_
  rw[Int.natAbs_mul]
  have:b.sign.natAbs=1:=Int.natAbs_sign_of_ne_zero h0
  rw[this,Nat.one_mul]
  exact ha
 ·show ((Rat.divInt a b).den:Int).natAbs<2^m
  rw[Int.natAbs_natCast,Rat.den_divInt,if_neg h0]
  exact Nat.lt_of_le_of_lt (Nat.div_le_self _ _) hb
theorem zg0 (q r:Rat):q+r=Rat.divInt (q.num*r.den+r.num*q.den) (q.den*r.den):=by
 have hq:=den_pos q
 have hr:=den_pos r
 conv=>lhs;rw[←z2l q,←z2l r]
 exact Rat.divInt_add_divInt _ _ (by omega) (by omega)
theorem zmt (q r:Rat):q-r=Rat.divInt (q.num*r.den-r.num*q.den) (q.den*r.den):=by
 have hq:=den_pos q
 have hr:=den_pos r
 conv=>lhs;rw[←z2l q,←z2l r]
 exact Rat.divInt_sub_divInt _ _ (by omega) (by omega)
theorem zen (q r:Rat):q*r=Rat.divInt (q.num*r.num) (q.den*r.den):=by
 conv=>lhs;rw[←z2l q,←z2l r]
 exact Rat.divInt_mul_divInt _ _
theorem Bs.add {m n:Nat}{q r:Rat}(h:Bs m q)(k:Bs n r):Bs (m+n+1) (q+r):=by
 rw[zg0]
 have hq:=den_pos q
 have hr:=den_pos r
 have h3:=Int.mul_pos hq hr
 exact Bs.divInt ((h.n.mul k.d).add ((k.n.mul h.d).mono (by omega))) ((h.d.mul k.d).mono (by omega)) (by omega)
theorem Bs.mul {m n:Nat}{q r:Rat}(h:Bs m q)(k:Bs n r):Bs (m+n) (q*r):=by
 rw[zen]
 have hq:=den_pos q
 have hr:=den_pos r
 have h3:=Int.mul_pos hq hr
 exact Bs.divInt (h.n.mul k.n) (h.d.mul k.d) (by omega)
theorem zor {r:Rat}(h:r≠0):r.num≠0:=fun z=>h (Rat.num_eq_zero.mp z)
section
variable {K:W.Frag}{H H':Hp}{v:V}{q:Rat}
theorem Dv.sh_inv (h:Dv K H v (sh q)):∃a,v=.ref a∧SqT K H a [.int q.num,.int (q.den:Int)]:=by
 cases h with
 | tup hs t=>
  cases t with
  | cons h1 t1=>
   cases t1 with
   | cons h2 t2=>
    cases t2
    cases h1
    cases h2
    exact ⟨_,rfl,hs⟩
theorem Dv.sh_mk {a:Addr}(h:SqT K H a [.int q.num,.int (q.den:Int)]):Dv K H (.ref a) (sh q):=.tup h (.cons (.int _) (.cons (.int _) .nil))
theorem Dv.sh_of {p:Addr}{a b:Int}(e:H p=some (.tup [.int a,.int b]))(h1:a=q.num)(h2:b=(q.den:Int)):Dv K H (.ref p) (sh q):=by
 subst h1 h2
 exact Dv.sh_mk (SqT.of e)
end
theorem at0 {α:Type}{x:α}{xs:List α}:atI (x::xs) 0=some x:=z2c (j:=0) rfl
theorem at1 {α:Type}{x y:α}{xs:List α}:atI (x::y::xs) 1=some y:=z2c (j:=1) rfl
end
section
noncomputable def Keep (H H':Hp):Prop:=∀b xs,Rd H b (.tup xs)→Rd H' b (.tup xs)
theorem Keep.trans {H H1 H2:Hp}(a:Keep H H1)(b:Keep H1 H2):Keep H H2:=fun c xs h=>b c xs (a c xs h)
theorem Same.keep {H H':Hp}(e:Same H H'):Keep H H':=fun b xs h=>by
 rcases h with h|⟨o,h⟩
 ·exact .inl (e _ _ h)
 ·exact .inr ⟨o,e _ _ h⟩
mutual
noncomputable def tpd:PyData→Bool
 | .list _=>false
 | .dict _=>false
 | .tuple xs=>z76 xs
 | .none=>true
 | .bool _=>true
 | .int _=>true
 | .str _=>true
noncomputable def z76:List PyData→Bool
 | []=>true
 | x::xs=>tpd x&&z76 xs
end
section
variable {K:W.Frag}{H H':Hp}
mutual
theorem Dv.keep (e:Keep H H'):∀{v:V}{d:PyData},Dv K H v d→tpd d=true→Dv K H' v d
 | _,_,.non,_=>.non
 | _,_,.bl b,_=>.bl b
 | _,_,.int i,_=>.int i
 | _,_,.str x,_=>.str x
 | _,_,.lst h t,z=>by exact absurd z (by simp[tpd])
 | _,_,.dct h k t,z=>by exact absurd z (by simp[tpd])
 | _,_,.tup (ds:=ds) h t,z=>by
  have z':z76 ds=true:=by simpa [tpd] using z
  refine .tup ?_ (DvAll.keep e t z')
  rcases h with h|h
  ·exact .inl (e _ _ h)
  ·exact .inr h
theorem DvAll.keep (e:Keep H H'):∀{vs:List V}{ds:List PyData},DvAll K H vs ds→z76 ds=true→DvAll K H' vs ds
 | _,_,.nil,_=>.nil
 | _,_,.cons (d:=d) (ds:=ds) h t,z=>by
  have z':(tpd d&&z76 ds)=true:=by simpa only[z76] using z
  obtain ⟨z1,z2⟩:=Bool.and_eq_true_iff.mp z'
  exact .cons (Dv.keep e h z1) (DvAll.keep e t z2)
end
theorem Dv.ksh {v:V}{q:Rat}(h:Dv K H v (sh q))(e:Keep H H'):Dv K H' v (sh q):=h.keep e (by simp[sh,tpd,z76])
noncomputable def Tp (H:Hp)(t:V)(n:Nat):Prop:=∃(a c:Addr) (cells:List Int) (at' left:Int),t=.ref a∧H a=some (.lst [.ref c,.int at',.int left])∧H c=some (.lst (cells.map V.int))∧0≤at'∧at'≤(n:Int)∧cells.length≤63
noncomputable def zja (H:Hp)(t:V)(c:Addr):Prop:=∃a r,t=.ref a∧H a=some (.lst (.ref c::r))
structure SB (t:V)(H H':Hp):Prop where
 old:∀b o,H b=some o→V.ref b≠t→H' b=some o
 cell:∀c,zja H t c→zja H' t c
noncomputable instance {t:V} {H H':Hp}:CoeFun (SB t H H') (fun _=>∀b o,H b=some o→V.ref b≠t→H' b=some o):=⟨SB.old⟩
theorem SB.trans {t:V}{H H1 H2:Hp}(a:SB t H H1)(b:SB t H1 H2):SB t H H2:=⟨fun c o h n=>b.old c o (a.old c o h n) n,fun c h=>b.cell c (a.cell c h)⟩
theorem SB.keep {t:V}{H H':Hp}{n:Nat}(e:SB t H H')(T:Tp H t n):Keep H H':=fun b xs h=>by
 obtain ⟨a,c,cells,at',left,rfl,h1,_⟩:=T
 rcases h with h|⟨o,h⟩
 ·exact .inl (e.old b _ h fun z=>by cases z;rw[h]at h1;cases h1)
 ·exact .inr ⟨o,e.old b _ h fun z=>by cases z;rw[h]at h1;cases h1⟩
theorem Tp.same {t:V}{H H':Hp}{n:Nat}(T:Tp H t n)(e:Same H H'):Tp H' t n:=by
 obtain ⟨a,c,cells,at',left,rfl,h1,h2,h3⟩:=T
 exact ⟨a,c,cells,at',left,rfl,e _ _ h1,e _ _ h2,h3⟩
theorem Tp.mono {t:V}{H:Hp}{m n:Nat}(T:Tp H t m)(h:m≤n):Tp H t n:=by
 obtain ⟨a,c,cells,at',left,rfl,h1,h2,h3,h4,h5⟩:=T
 exact ⟨a,c,cells,at',left,rfl,h1,h2,h3,by omega,h5⟩
end
theorem zrt (x:Int){m:Int}(h0:0<m)(h1:m<2^64):-(2^64)<x%m∧x%m<2^64:=by
 have a:=Int.emod_nonneg x (show m≠0 by omega)
 have b:=Int.emod_lt_of_pos x h0
 omega
theorem zlx (ns:List Int)(h:ns.length≤63):z8f (ns.map V.int) none (some 63)=ns.map V.int:=by
 unfold z8f
 have e:HT.sIx (ns.map V.int).length (ns.map V.int).length (some 63)=ns.length:=by
  rw[List.length_map]
  have:=HT.sIx_nat ns.length ns.length 63
  have e2:((63:Nat):Int)=63:=rfl
  rw[e2]at this
  rw[this];omega
 rw[e,HT.sIx_none,List.drop_zero,Nat.sub_zero]
 exact List.take_of_length_le (by rw[List.length_map];exact Nat.le_refl _)
theorem small {n:Nat}(h:n≤1000):n≤sizeLine:=Nat.le_of_lt (zdl h)
end
theorem z8l {α:Type}{P:α→Prop}{xs:List α}{r:Int}(h0:0≤r)(h1:r<(xs.length:Int))(hP:∀x∈xs,P x):∃v,atI xs r=some v∧P v:=by
 obtain ⟨k,rfl⟩:∃k:Nat,r=(k:Int):=⟨r.toNat,by omega⟩
 have hr:k<xs.length:=by omega
 exact ⟨xs[k],z2c (List.getElem?_eq_getElem hr),hP _ (List.getElem_mem hr)⟩
theorem zre (x:Int){m:Int}(h0:0<m)(h1:m<2^64):(x%m).natAbs<2^64:=by
 have a:=zrt x h0 h1
 omega
end L2
namespace L2
open PySem
theorem z1r {H:Hp}{D:Addr}{xs:List V}{o:HO}(h:H D=some (.lst xs)):Keep H (upd H D o):=fun b ys q=>by
 rcases q with q|⟨u,q⟩
 ·refine .inl ?_
  rw[z0f (by intro z;subst z;rw[h]at q;cases q)];exact q
 ·refine .inr ⟨u,?_⟩
  rw[z0f (by intro z;subst z;rw[h]at q;cases q)];exact q
theorem zde:∀rs:List Rat,z76 (rs.map sh)=true
 | []=>by simp[z76]
 | r::rs=>by simp[z76,tpd,sh,zde rs]
theorem DvAll.kshs {K:W.Frag}{H H':Hp}{ws:List V}{rs:List Rat}(h:DvAll K H ws (rs.map sh))(e:Keep H H'):DvAll K H' ws (rs.map sh):=h.keep e (zde rs)
end L2
set_option Elab.async false
set_option linter.all false
set_option maxRecDepth 100000
namespace L2
open PySem PySem.Spec PyProof.Rows
structure QE (X:Cx)(e:Expr)(t:TE):Prop where
 o:PE X e t
structure QT (X:Cx)(e:Expr)(t:TT):Prop where
 o:PT X e t
structure QW (X:Cx)(e:Expr)(t:TT):Prop where
 o:PW X e t
structure QA (X:Cx)(es:List Expr)(t:TA):Prop where
 o:PA X es t
structure QS (X:Cx)(s:Stmt)(t:TS):Prop where
 o:PS X s t
structure QSs (X:Cx)(s:List Stmt)(t:TS):Prop where
 o:PSs X s t
structure QG (X:Cx)(e:Expr)(t:TG):Prop where
 o:PG X e t
structure QGs (X:Cx)(es:List Expr)(t:TGs):Prop where
 o:PGs X es t
structure QI (X:Cx)(tg it:Expr)(t:TI):Prop where
 o:PI X tg it t
structure QO (X:Cx)(e:Option Expr)(t:TO):Prop where
 o:PO X e t
theorem QW.pt {X:Cx}{e:Expr}{t:TT}(h:QW X e t):QT X e t:=⟨PW.pt h.o⟩
section
theorem z7z {X:Cx}{i:Nat}{x:Str}{pos:Pos}(hN:X.N[i]?=some x)(hv:Vis X.env.scope x)(hd:(x == ("__debug__":Str))=false:=by decide)(hcd:(x == ("__classdict__":Str))=false:=by decide):QE X (.Name x pos) (zm9 i):=⟨zit (hN:=hN) (hv:=hv) (hd:=hd) (hcd:=hcd)⟩
theorem z02 {X:Cx}{i j pos}:QE X (.Constant (.int i) j pos) (tC (.int i)):=⟨zoe⟩
theorem z1x {X:Cx}{b j pos}:QE X (.Constant (.bool b) j pos) (tC (.bl b)):=⟨zrl⟩
theorem zae {X:Cx}{j pos}:QE X (.Constant .none j pos) (tC .non):=⟨zoc⟩
theorem z1l {X:Cx}{x j pos}:QE X (.Constant (.str x) j pos) (tC (.str x)):=⟨zo9⟩
theorem z1g {X:Cx}{x:Str}{v:V}{u:Value}{pos:Pos}(hg:Gl X x)(hm:X.mg x=some u)(r:RelV v u)(hd:(x == ("__debug__":Str))=false:=by decide):QE X (.Name x pos) (tC v):=⟨zl2 (hg:=hg) (hm:=hm) (r:=r) (hd:=hd)⟩
theorem z4n {X:Cx}{x:Str}{v:V}{u:Value}{pos:Pos}(hg:Gl X x)(hm:X.mg x=none)(hv:bootBuiltins x=some u)(r:RelV v u)(hn:x≠"__name__":=by decide)(hd:(x == ("__debug__":Str))=false:=by decide):QE X (.Name x pos) (tC v):=⟨zl8 (hg:=hg) (hm:=hm) (hv:=hv) (r:=r) (hn:=hn) (hd:=hd)⟩
theorem z25 {X:Cx}{e:Expr}{t:TE}(h:QE X e t)(he:∀whole,isTrue e X.env whole=(do let v ←whole;standAt e.pos;holding [v] (truthy v)):=by intro _;rfl):QT X e (tB t):=⟨znt (h:=h.o) (he:=he)⟩
theorem z3d {X:Cx}{a:Expr}{tA:TT}{pos:Pos}(ha:QT X a tA):QW X (.BoolOp .And [a] pos) tA:=⟨zkn (ha:=ha.o)⟩
theorem z64 {X:Cx}{a:Expr}{tA:TT}{pos:Pos}(ha:QT X a tA):QW X (.BoolOp .Or [a] pos) tA:=⟨znr (ha:=ha.o)⟩
theorem z48 {X:Cx}{a:Expr}{tA:TT}{b:Expr}{rest:List Expr}{pos:Pos}{tB':TT}(ha:QT X a tA)(hb:QW X (.BoolOp .And (b::rest) pos) tB'):QW X (.BoolOp .And (a::b::rest) pos) (zqw tA tB'):=⟨zns (ha:=ha.o) (hb:=hb.o)⟩
theorem z7a {X:Cx}{a:Expr}{tA:TT}{b:Expr}{rest:List Expr}{pos:Pos}{tB':TT}(ha:QT X a tA)(hb:QW X (.BoolOp .Or (b::rest) pos) tB'):QW X (.BoolOp .Or (a::b::rest) pos) (tOr tA tB'):=⟨zrc (ha:=ha.o) (hb:=hb.o)⟩
theorem z2y {X:Cx}{a:Expr}{tA:TT}{pos:Pos}(ha:QT X a tA):QT X (.UnaryOp .Not a pos) (zqu tA):=⟨znu (ha:=ha.o)⟩
theorem z67 {X:Cx}{a:Expr}{pos:Pos}{op}{t:TE}(h:QE X a t):QE X (.BoolOp op [a] pos) t:=⟨zoa (h:=h.o)⟩
theorem z68 {X:Cx}{a:Expr}{ta:TE}{b:Expr}{rest:List Expr}{pos:Pos}{tb:TE}(ha:QE X a ta)(hb:QE X (.BoolOp .And (b::rest) pos) tb):QE X (.BoolOp .And (a::b::rest) pos) (zjr ta tb):=⟨zoh (ha:=ha.o) (hb:=hb.o)⟩
theorem znp {X:Cx}{a:Expr}{ta:TE}{b:Expr}{rest:List Expr}{pos:Pos}{tb:TE}(ha:QE X a ta)(hb:QE X (.BoolOp .Or (b::rest) pos) tb):QE X (.BoolOp .Or (a::b::rest) pos) (zsj ta tb):=⟨zrg (ha:=ha.o) (hb:=hb.o)⟩
theorem zkj {X:Cx}{a:Expr}{ta:TE}{pos:Pos}(ha:QE X a ta):QE X (.UnaryOp .Not a pos) (zmn ta):=⟨zob (ha:=ha.o)⟩
theorem z2t {X:Cx}{tA:TT}{a:Expr}{ta:TE}{b:Expr}{tb:TE}{pos:Pos}{c:Expr}(hc:QT X c tA)(ha:QE X a ta)(hb:QE X b tb):QE X (.IfExp c a b pos) (tIf tA ta tb):=⟨zh0 (hc:=hc.o) (ha:=ha.o) (hb:=hb.o)⟩
theorem z0r {X:Cx}:QSs X [] zgd:=⟨zkr⟩
theorem z04 {X:Cx}{st:Stmt}{t:TS}{rest:List Stmt}{u:TS}(h1:QS X st t)(h2:QSs X rest u):QSs X (st::rest) (zpz t u):=⟨zgs (h1:=h1.o) (h2:=h2.o)⟩
theorem z05 {X:Cx}{st:Stmt}{t:TS}(h1:QS X st t):QSs X [st] t:=⟨zkq (h1:=h1.o)⟩
theorem z5n {X:Cx}{e:Expr}{te:TE}{pos:Pos}(he:QE X e te)(hs:swapsWith e none pos.line X.env=pure false:=by rfl):QS X (.Expr e pos) (zmo te):=⟨zks (he:=he.o) (hs:=hs)⟩
theorem z0d {X:Cx}{e:Expr}{te:TE}{pos:Pos}(he:QE X e te):QS X (.Return (some e) pos) (zq0 te):=⟨znw (he:=he.o)⟩
theorem z1a {X:Cx}{t:TS}{u:TS}{pos:Pos}{c:Expr}{a b:List Stmt}{tc:TT}(hc:QT X c tc)(ha:QSs X a t)(hb:QSs X b u):QS X (.If c a b pos) (zq2 tc t u):=⟨zrd (hc:=hc.o) (ha:=ha.o) (hb:=hb.o)⟩
theorem ze0 {X:Cx}{st:Stmt}:QS X st zi3:=⟨zgu⟩
theorem z0l {X:Cx}{pos:Pos}{i:Nat}{x:Str}(hN:X.N.Nodup)(hi:X.N[i]?=some x)(hx:Loc X.env.scope x)(hf:X.fn x=true∨X.env.scope.names.lookup x=some .local:=by first|exact .inl rfl|exact .inr rfl|assumption):QG X (.Name x pos) (z54 i):=⟨zl0 (hN:=hN) (hi:=hi) (hx:=hx) (hf:=hf)⟩
theorem z2m {X:Cx}:QGs X [] zqa:=⟨zkz⟩
theorem z0w {X:Cx}{e:Expr}{es:List Expr}{t:TG}{u:TGs}(h1:QG X e t)(h2:QGs X es u)(hs:(assignEach (e::es) X.env).map (·.2)=assign e X.env::(assignEach es X.env).map (·.2):=by rfl):QGs X (e::es) (zf5 t u):=⟨zgy (h1:=h1.o) (h2:=h2.o) (hs:=hs)⟩
theorem z50 {X:Cx}{pos:Pos}{es:List Expr}{k:Nat}{t:TGs}{n:Nat}(hc:X.calm=true)(h:QGs X es t)(hn:(assignEach es X.env).length=n:=by rfl)(hst:(assignEach es X.env).findIdx? (·.1)=none:=by rfl):QG X (.Tuple es k pos) (zpi X.K n t):=⟨zis (hc:=hc) (h:=h.o) (hn:=hn) (hst:=hst)⟩
theorem z49 {X : Cx}{pos : Pos}{o i : Expr}{to ti : TE}{t : zqb}(ho : QE X o to)(hi : QE X i ti)(hs : zsd X t)(ha : ∀ v, assign (.Subscript o i pos) X.env v = (do
   let ov ←holding [v] (eval o X.env)
   let iv ←holding [v,ov] (eval i X.env)
   standAt pos
   holding [v,ov,iv] (setItem ov iv v)
   release [v,ov,iv] []):=by intro _;rfl):QG X (.Subscript o i pos) (zs2 to ti t):=⟨zo5 (ho:=ho.o) (hi:=hi.o) (hs:=hs) (ha:=ha)⟩
theorem z2s {X:Cx}{pos:Pos}{tg e:Expr}{te:TE}{g:TG}(he:QE X e te)(hg:QG X tg g)(hs:swapsWithSole [tg] e pos.line X.env=pure false:=by rfl)(hw:swappedStores [tg] e X.env=pure none:=by rfl)(h1:(assignEach [tg] X.env).map (·.2)=[assign tg X.env]:=by rfl):QS X (.Assign [tg] e pos) (zdi te g):=⟨zo1 (he:=he.o) (hg:=hg.o) (hs:=hs) (hw:=hw) (h1:=h1)⟩
theorem z0g {X:Cx}{pos:Pos}{i:Nat}{x:Str}{e:Expr}{te:TE}{pos':Pos}(hN:X.N.Nodup)(hi:X.N[i]?=some x)(hx:Loc X.env.scope x)(he:QE X e te)(hs:swapsWith e (some (.Name x pos')) pos.line X.env=pure false:=by rfl)(hf:X.fn x=true∨X.env.scope.names.lookup x=some .local:=by first|exact .inl rfl|exact .inr rfl|assumption):QS X (.Assign [.Name x pos'] e pos) (zdi te (z54 i)):=⟨znv (hN:=hN) (hi:=hi) (hx:=hx) (he:=he.o) (hs:=hs) (hf:=hf)⟩
theorem z4y {X:Cx}{pos:Pos}{i j:Nat}{x y:Str}{a b:Expr}{ta:TA}{px py pt:Pos}{kt k2 pt2}(hc:X.calm=true)(hN:X.N.Nodup)(hi:X.N[i]?=some x)(hj:X.N[j]?=some y)(hij:i≠j)(hx:X.env.scope.names.lookup x=some .local)(hy:X.env.scope.names.lookup y=some .local)(ha:QA X [a,b] ta)(hw:swappedStores [.Tuple [.Name x px,.Name y py] kt pt] (.Tuple [a,b] k2 pt2) X.env=pure (some [x,y]))(hs:swapsWithSole [.Tuple [.Name x px,.Name y py] kt pt] (.Tuple [a,b] k2 pt2) pos.line X.env=pure false:=by rfl):QS X (.Assign [.Tuple [.Name x px,.Name y py] kt pt] (.Tuple [a,b] k2 pt2) pos) (zqt i j ta):=⟨znx (hc:=hc) (hN:=hN) (hi:=hi) (hj:=hj) (hij:=hij) (hx:=hx) (hy:=hy) (ha:=ha.o) (hw:=hw) (hs:=hs)⟩
theorem zkh {X:Cx}{pos:Pos}{i:Nat}{x:Str}{e:Expr}{te:TE}{op:Operator}{ti:TIp}{pos':Pos}(hN:X.N.Nodup)(hi:X.N[i]?=some x)(hx:Loc X.env.scope x)(he:QE X e te)(ho:PIp X op ti)(hf:X.fn x=true∨X.env.scope.names.lookup x=some .local:=by first|exact .inl rfl|exact .inr rfl|assumption):QS X (.AugAssign (.Name x pos') op e pos) (zsl i te ti):=⟨zo0 (hN:=hN) (hi:=hi) (hx:=hx) (he:=he.o) (ho:=ho) (hf:=hf)⟩
theorem z3r {X:Cx}{pos:Pos}{c:Expr}{body:List Stmt}{tc:TT}{tb:TS}(hp:PassesOwn (model X.prog X.w) X.A X.env X.xe)(hc:QT X c tc)(hb:QSs X body tb):QS X (.While c body [] pos) (zb8 tc tb):=⟨zgt (hp:=hp) (hc:=hc.o) (hb:=hb.o)⟩
theorem z65 {X:Cx}{tg:Expr}{l:Expr}{tl:TE}(hl:QE X l tl):QI X tg l (zsu X.K tl):=⟨zo2 (hl:=hl.o)⟩
theorem z22 {X:Cx}{tg:Expr}{a:Expr}{ta:TA}{p pos:Pos}(hg:Gl X "range")(hm:X.mg "range"=none)(ha:QA X [a] ta)(hs:starEach [a] X.env=[(false,eval a X.env)]:=by rfl):QI X tg (.Call (.Name "range" p) [a] [] pos) (zlp ta):=⟨ze9 (hg:=hg) (hm:=hm) (ha:=ha.o) (hs:=hs)⟩
theorem zcr {X:Cx}{tg:Expr}{a b:Expr}{ta:TA}{p pos:Pos}(hg:Gl X "range")(hm:X.mg "range"=none)(ha:QA X [a,b] ta)(hs:starEach [a,b] X.env=[(false,eval a X.env),(false,eval b X.env)]:=by rfl)(hs2:starEach [b] X.env=[(false,eval b X.env)]:=by rfl):QI X tg (.Call (.Name "range" p) [a,b] [] pos) (zpg ta):=⟨ze8 (hg:=hg) (hm:=hm) (ha:=ha.o) (hs:=hs) (hs2:=hs2)⟩
theorem z1b {X:Cx}{tg:Expr}{iter:Expr}{body:List Stmt}{wi:TI}{g:TG}{tb:TS}{pos:Pos}(hp:PassesOwn (model X.prog X.w) X.A X.env X.xe)(hc:X.calm=true)(hi:QI X tg iter wi)(hg:QG X tg g)(hb:QSs X body tb)(hs:∀x,foldedSetIterable iter X.env x=pure x:=by intro _;rfl):QS X (.For tg iter body [] pos) (zq3 wi g tb):=⟨zny (hp:=hp) (hc:=hc) (hi:=hi.o) (hg:=hg.o) (hb:=hb.o) (hs:=hs)⟩
theorem z0c {X:Cx}{a:Expr}{ta:TE}{b:Expr}{tb:TE}{pos:Pos}{op:Operator}{r:R2}(ho:OpR X (binaryOp op) r)(ha:QE X a ta)(hb:QE X b tb):QE X (.BinOp a op b pos) (tOp r ta tb):=⟨zrh (ho:=ho) (ha:=ha.o) (hb:=hb.o)⟩
theorem z3i {X:Cx}{a:Expr}{ta:TE}{pos:Pos}{op:UnaryOp}{r:V→Hp→VK→Prop}(ho:UnR X (unaryOp op) r)(ha:QE X a ta):QE X (.UnaryOp op a pos) (tUn r ta):=⟨zrf (ho:=ho) (ha:=ha.o)⟩
theorem z2n {X:Cx}{a:Expr}{ta:TE}{b:Expr}{tb:TE}{pos:Pos}{op:CmpOp}{r:R2}(ho:OpR X (compareOp op) r)(ha:QE X a ta)(hb:QE X b tb)(hm:behindInMarks op b=false):QE X (.Compare a [op] [b] pos) (tOp r ta tb):=⟨zl6 (ho:=ho) (ha:=ha.o) (hb:=hb.o) (hm:=hm)⟩
theorem z0k {X:Cx}{a:Expr}{ta:TE}{b:Expr}{tb:TE}{pos:Pos}{op:CmpOp}{r:R2}(ho:OpR X (compareOp op) r)(ha:QE X a ta)(hb:QE X b tb)(hm:behindInMarks op b=false):QT X (.Compare a [op] [b] pos) (zjm (tOp r ta tb)):=⟨zkp (ho:=ho) (ha:=ha.o) (hb:=hb.o) (hm:=hm)⟩
theorem z01 {X:Cx}:QA X [] zqv:=⟨zoi⟩
theorem z00 {X:Cx}{e:Expr}{te:TE}{es:List Expr}{t:TA}(ha:QE X e te)(hr:QA X es t)(hs:starEach (e::es) X.env=(false,eval e X.env)::starEach es X.env:=by rfl):QA X (e::es) (zjq te t):=⟨zla (ha:=ha.o) (hr:=hr.o) (hs:=hs)⟩
theorem z0n {X:Cx}{es:List Expr}{t:TA}{pos:Pos}{x1}(h:QA X es t):QE X (.Tuple es x1 pos) (zqs t):=⟨zo8 (h:=h.o)⟩
theorem z1c {X:Cx}{es:List Expr}{t:TA}{pos:Pos}(h:QA X es t):QE X (.List es pos) (zq1 t):=⟨zod (h:=h.o)⟩
theorem z09 {X:Cx}{x:Str}{ps:List Str}{n:Nat}{sp:Sp}{k:Nat}{e:Expr}{es:List Expr}{t:TA}{pos:Pos}{p:Pos}(D:Def X.prog X.w X.K X.mg X.base x ps n sp)(hr:Room k X.A)(ha:QA X (e::es) t)(hk:n≤k:=by decide)(hg:Gl X x:=by rfl)(hdb:(x == ("__debug__":Str))=false:=by decide)(he:starEach (e::es) X.env=(false,eval e X.env)::starEach es X.env:=by rfl)(hpl:(backTo pos (starEach es X.env)).any (·.1)=false:=by rfl):QE X (.Call (.Name x p) (e::es) [] pos) (zge sp [] E0 t):=⟨zrj (D:=D) (hr:=hr) (ha:=ha.o) (hk:=hk) (hg:=hg) (hdb:=hdb) (he:=he) (hpl:=hpl)⟩
theorem z0i {X:Cx}{id:String}{r:List V→Hp→VK→Prop}{x:Str}{e:Expr}{es:List Expr}{t:TA}{pos:Pos}{p:Pos}(hc:z3w X (.builtin id) r)(hg:Gl X x)(hm:X.mg x=none)(hv:bootBuiltins x=some (.builtin id))(ha:QA X (e::es) t)(hn:x≠"__name__":=by decide)(hdb:(x == ("__debug__":Str))=false:=by decide)(he:starEach (e::es) X.env=(false,eval e X.env)::starEach es X.env:=by rfl)(hpl:(backTo pos (starEach es X.env)).any (·.1)=false:=by rfl):QE X (.Call (.Name x p) (e::es) [] pos) (tCB r t):=⟨zh1 (hc:=hc) (hg:=hg) (hm:=hm) (hv:=hv) (ha:=ha.o) (hn:=hn) (hdb:=hdb) (he:=he) (hpl:=hpl)⟩
theorem z1e {X:Cx}{T:String}{r:List V→Hp→VK→Prop}{x:Str}{e:Expr}{es:List Expr}{t:TA}{pos:Pos}{p:Pos}(hc:z3w X (.type T) r)(hg:Gl X x)(hm:X.mg x=none)(hv:bootBuiltins x=some (.type T))(ha:QA X (e::es) t)(hn:x≠"__name__":=by decide)(hdb:(x == ("__debug__":Str))=false:=by decide)(he:starEach (e::es) X.env=(false,eval e X.env)::starEach es X.env:=by rfl)(hpl:(backTo pos (starEach es X.env)).any (·.1)=false:=by rfl):QE X (.Call (.Name x p) (e::es) [] pos) (tCB r t):=⟨zea (hc:=hc) (hg:=hg) (hm:=hm) (hv:=hv) (ha:=ha.o) (hn:=hn) (hdb:=hdb) (he:=he) (hpl:=hpl)⟩
theorem z1u {X:Cx}:QO X none za1:=⟨zkx⟩
theorem z19 {X:Cx}{e:Expr}{te:TE}(h:QE X e te):QO X (some e) (zjn te):=⟨zkw (h:=h.o)⟩
theorem z17 {X:Cx}{e:Expr}{te:TE}{lo:Option Expr}{tl:TO}{hi:Option Expr}{th:TO}{p2:Pos}{pos:Pos}{r:V→Option Int→Option Int→Hp→VK→Prop}(hr:SlR X r)(he:QE X e te)(hl:QO X lo tl)(hu:QO X hi th):QE X (.Subscript e (.Slice lo hi none p2) pos) (tSl r te tl th):=⟨zgz (hr:=hr) (he:=he.o) (hl:=hl.o) (hu:=hu.o)⟩
theorem z0o {X:Cx}{a:Expr}{ta:TE}{b:Expr}{tb:TE}{pos:Pos}{r:R2}(hr:IxR X r)(ha:QE X a ta)(hb:QE X b tb)(hs:zg2 b):QE X (.Subscript a b pos) (tOp r ta tb):=⟨zri (hr:=hr) (ha:=ha.o) (hb:=hb.o) (hs:=hs)⟩
theorem zkm {T:String}{name:Str}{id:String}{X:Cx}{r:V→List V→Hp→VK→Prop}{o:Expr}{to:TE}{apos:Pos}{cpos:Pos}(pa:PlainAttrs T)(slot:Slot T name id)(hty:typeOf (.builtin id)=pure (.type "method_descriptor"))(hm:MtR X id r)(ho:QE X o to)(hbase:attributeBase o name X.env (eval o X.env)=eval o X.env:=by rfl)(hline:(apos.endLine == cpos.line)=true:=by rfl):QE X (.Call (.Attribute o name apos) [] [] cpos) (zsk X.K T r to):=⟨zog (pa:=pa) (slot:=slot) (hty:=hty) (hm:=hm) (ho:=ho.o) (hbase:=hbase) (hline:=hline)⟩
theorem ze2 {T : String}{name : Str}{id : String}{X : Cx}{r : V → List V → Hp → VK → Prop}{o : Expr}{to : TE}{e : Expr}{es : List Expr}{t : TA}{cpos : Pos}{apos : Pos}(pa : PlainAttrs T)(slot : Slot T name id)(hty : typeOf (.builtin id) = pure (.type "method_descriptor"))(hm : MtR X id r)(ho : QE X o to)(ha : QA X (e :: es) t)(hbase : attributeBase o name X.env (eval o X.env) = eval o X.env := by rfl)(hfew : ((backTo cpos (starEach (e :: es) X.env)).all (fun x => !x.1)&&(backToKw cpos (keywordEach [] X.env)).all (fun x => x.1.isSome)
   && decide ((e::es).length+([]:List Keyword).length+(if ([]:List Keyword).isEmpty then 0 else 1)<30))=true:=by rfl)(hline:(apos.endLine == cpos.line)=true:=by rfl)(hs:starEach (e::es) X.env=(false,eval e X.env)::starEach es X.env:=by rfl)(hplain:(backTo cpos (starEach es X.env)).any (·.1)=false:=by rfl):QE X (.Call (.Attribute o name apos) (e::es) [] cpos) (tBM X.K T r to t):=⟨zrk (pa:=pa) (slot:=slot) (hty:=hty) (hm:=hm) (ho:=ho.o) (ha:=ha.o) (hbase:=hbase) (hfew:=hfew) (hline:=hline) (hs:=hs) (hplain:=hplain)⟩
theorem qpv {X:Cx}(i:Nat){x:Str}{pos:Pos}(hN:X.N[i]?=some x:=by rfl)(hv:Vis X.env.scope x:=by first|exact Or.inl rfl|exact Or.inr (Or.inl rfl)|exact Or.inr (Or.inr rfl))(hd:(x == ("__debug__":Str))=false:=by decide)(hcd:(x == ("__classdict__":Str))=false:=by decide):QE X (.Name x pos) (zm9 i):=⟨pv (i:=i) (hN:=hN) (hv:=hv) (hd:=hd) (hcd:=hcd)⟩
end
theorem Def.mkq {P : Program}{w : World}{K : W.Frag}{mg : Str → Option Value}{base : Heap}{x : Str}{st : Stmt}{N ps : List Str}{n : Nat}{sp : Sp}(T : Src K mg x st)(S : FnScope N ps (z08 st))(len : ∀ vs H Q E, sp vs H Q E → vs.length = ps.length)
  (hb:∀(kV doc pm:Value)(an:Option Addr)(cdv ct:Value)(us:List Value),us.length=ps.length→bindArgs (PySem.W.fnOf x x (z1z st) (z15 st) (z08 st) .none kV doc pm an cdv ct) ⟨us,[]⟩=pure (ps.zip us))
  (hbody:∀(f:Addr)(cdv:Value)(A:Around)(outer:List Env)(s:Shared)(H:Hp)(vs:List V)(Q:VK)(E:XK),Room n (A.deeper (envOfC x (z08 st) s.heap.objs.size f cdv))→sp vs H Q E→
   ∃t,QSs (zch CX0 P w K mg base N x (z08 st) f cdv A outer s H E).nox (z15 st) t∧t {nx:=fun _ H'=>Q .non H',rt:=Q} (start N vs) H):Def P w K mg base x ps (n+1) sp:=
 Def.mk' T S len hb fun f cdv A outer s H vs Q E hr h=>let ⟨t,q,r⟩:=hbody f cdv A outer s H vs Q E hr h;⟨t,q.o,r⟩
structure Sw (n v:Nat)(d:PyData):Prop where
 sh:ShB d
 dp:d.depth≤n
 sz:d.shown.length≤v
theorem Sw.shw {n v:Nat}{d:PyData}(h:Sw n v d)(hn:n≤60:=by decide)(hv:v≤16777216:=by decide):Shw d:=⟨h.sh,Nat.le_trans h.dp hn,Nat.le_trans h.sz (by rw[sizeLine_eq];exact hv)⟩
theorem Sw.mono {n v m w:Nat}{d:PyData}(h:Sw n v d)(hn:n≤m)(hv:v≤w):Sw m w d:=⟨h.sh,Nat.le_trans h.dp hn,Nat.le_trans h.sz hv⟩
theorem Sw.intB {i:Int}{m:Nat}(h:Bt m i)(h0:0<m)(hm:m≤14000):Sw 0 (m+1) (.int i):=by
 have hl:i.natAbs.log2<m:=h.log2 h0
 refine ⟨by simp only[ShB];exact h.mono hm,by simp only[PyData.depth];exact Nat.le_refl _,?_⟩
 simp only[PyData.shown]
 have e:=int_text_length_le (k:=m) h0 hl
 rw[PySem.ofString_length]
 omega
theorem Sw.int {i:Int}(h:Bt 1919 i):Sw 0 2000 (.int i):=(Sw.intB h (by decide) (by decide)).mono (Nat.le_refl _) (by decide)
theorem Sw.non:Sw 0 2000 .none:=by
 refine ⟨by simp only[ShB],by simp only[PyData.depth];exact Nat.le_refl _,?_⟩
 simp only[PyData.shown]
 decide
theorem zdj {n v:Nat}:∀{ds:List PyData},(∀d∈ds,Sw n v d)→z8p ds∧PyData.depthAll ds≤n∧piled (PyData.shownAll ds)≤ds.length*(v+2)
 | [],_=>⟨by simp only[z8p],by simp only[PyData.depthAll];omega,by simp[PyData.shownAll,piled]⟩
 | d::ds,h=>by
  obtain ⟨h1,h3,h4⟩:=zdj (ds:=ds) fun x hx=>h x (List.mem_cons_of_mem _ hx)
  have hd:=h d (List.mem_cons_self ..)
  refine ⟨by simp only[z8p];exact ⟨hd.sh,h1⟩,by simp only[PyData.depthAll];have:=hd.dp;omega,?_⟩
  have e:piled (PyData.shownAll (d::ds))=d.shown.length+2+piled (PyData.shownAll ds):=by simp[PyData.shownAll,piled]
  have:=hd.sz
  rw[e,List.length_cons,Nat.succ_mul]
  omega
theorem z59 (ts:List Str):(tupleText ts).length≤piled ts+4:=by
 unfold tupleText
 have e1:("(":Str).length=1:=by decide
 have e2:∀b:Bool,((if b=true then ",)" else ")":String):Str).length≤2:=fun b=>by cases b<;>decide
 have e3:=e2 (ts.length == 1)
 have e4:(Str.join ", " ts).length≤piled ts+1:=by
  cases ts with
  | nil=>decide
  | cons x r=>have:=join_length_add (x::r) (by simp);omega
 rw[Str.length_append,Str.length_append]
 omega
theorem Sw.tup {n v:Nat}{ds:List PyData}(h:∀d∈ds,Sw n v d):Sw (n+1) (ds.length*(v+2)+4) (.tuple ds):=by
 obtain ⟨h1,h3,h4⟩:=zdj h
 refine ⟨by simp only[ShB];exact h1,by simp only[PyData.depth];omega,?_⟩
 simp only[PyData.shown]
 exact Nat.le_trans (z59 _) (by omega)
theorem Sw.pair {n v:Nat}{a b:PyData}(h1:Sw n v a)(h2:Sw n v b):Sw (n+1) (2*(v+2)+4) (.tuple [a,b]):=Sw.tup (ds:=[a,b]) fun d hd=>by
 simp only[List.mem_cons,List.not_mem_nil,or_false]at hd
 rcases hd with rfl|rfl
 ·exact h1
 ·exact h2
end L2
namespace L2
open PySem
end L2
namespace L2
open PySem PySem.Spec PyProof.Rows
theorem Sw.lst {n v:Nat}{ds:List PyData}(h:∀d∈ds,Sw n v d):Sw (n+1) (ds.length*(v+2)+4) (.list ds):=by
 obtain ⟨h1,h3,h4⟩:=zdj h
 refine ⟨by simp only[ShB];exact h1,by simp only[PyData.depth];omega,?_⟩
 simp only[PyData.shown]
 have e:=listText_len_le (PyData.shownAll ds)
 have e2:∀ts:List Str,piled ts=(ts.map (·.length)).sum+2*ts.length:=by
  intro ts
  induction ts with
  | nil=>rfl
  | cons x r ih=>
   have:piled (x::r)=x.length+2+piled r:=by simp[piled]
   rw[this,ih,List.map_cons,List.sum_cons,List.length_cons];omega
 rw[e2]at h4
 omega
theorem Sw.str {x:Str}{v:Nat}(h:(PyData.str x).shown.length≤v):Sw 0 v (.str x):=⟨by simp only[ShB],by simp only[PyData.depth];exact Nat.le_refl _,h⟩
theorem zmr {n v:Nat}:∀{kds:List (PyData×PyData)},(∀p∈kds,Sw n v p.1∧Sw n v p.2)→ShBp kds∧PyData.depthKv kds≤n∧((PyData.shownKv kds).map (·.length)).sum≤kds.length*(2*v+2)∧(PyData.shownKv kds).length=kds.length
 | [],_=>⟨by simp only[ShBp],by simp only[PyData.depthKv];omega,by simp[PyData.shownKv],by simp[PyData.shownKv]⟩
 | (a,b)::r,h=>by
  obtain ⟨h1,h2,h3,h4⟩:=zmr (kds:=r) fun x hx=>h x (List.mem_cons_of_mem _ hx)
  obtain ⟨ha,hb⟩:=h (a,b) (List.mem_cons_self ..)
  have za:a.shown.length≤v:=ha.sz
  have zb:b.shown.length≤v:=hb.sz
  have da:=ha.dp
  have db:=hb.dp
  refine ⟨by simp only[ShBp];exact ⟨ha.sh,hb.sh,h1⟩,by simp only[PyData.depthKv];exact Nat.max_le.mpr ⟨Nat.max_le.mpr ⟨da,db⟩,h2⟩,?_,by simp[PyData.shownKv,h4]⟩
  simp only[PyData.shownKv,List.map_cons,List.sum_cons,List.length_cons]
  have e1:(": ":Str).length=2:=by decide
  rw[Str.length_append,Str.length_append,Nat.succ_mul]
  omega
theorem Sw.dct {n v:Nat}{kds:List (PyData×PyData)}(h:∀p∈kds,Sw n v p.1∧Sw n v p.2):Sw (n+1) (kds.length*(2*v+2)+2*kds.length+3) (.dict kds):=by
 obtain ⟨h1,h2,h3,h4⟩:=zmr h
 refine ⟨by simp only[ShB];exact h1,by simp only[PyData.depth];omega,?_⟩
 simp only[PyData.shown]
 have:=dictText_len_le (PyData.shownKv kds)
 rw[h4]at this
 omega
section
noncomputable abbrev Cx.comp (X:Cx)(N:List Str)(scope:Scope)(cl:List (Str×Addr))(C:Addr)(s₀:Shared)(H₀:Hp)(ex:List Addr)(E:Value→Shared→Prop):Cx:=
 {X with N:=N,s₀:=s₀,H₀:=H₀,env:=compEnvC scope cl C X.env,outer:=X.stack,ex:=ex,fn:=fun _=>false,pn:=[],xe:=E}
noncomputable def SubC (cells:List (Str×Addr)):List (Str×Addr)→Prop
 | []=>True
 | p::r=>cells.lookup p.1=some p.2∧SubC cells r
noncomputable def CapOk (X:Cx)(scope:Scope):List Str→List (Option Nat)→Prop
 | [],[]=>True
 | _::N,none::is=>CapOk X scope N is
 | x::N,some i::is=>(X.N[i]?=some x∧X.env.scope.names.lookup x=some .cell∧(relabel scope X.env).names.lookup x=some .cell)∧CapOk X scope N is
 | _,_=>False
structure CompOk (X:Cx)(N:List Str)(is:List (Option Nat))(scope:Scope)(cl:List (Str×Addr)):Prop where
 kind:scope.kind=.function
 clos:closureFor scope X.env=pure cl
 cell:∀y∈scope.names,y.2≠.cell
 names:∀y∈scope.names,y.2=.local→scope.names.lookup y.1=some .local
 sub:SubC X.env.cells cl
 has:((relabel scope X.env).names.all fun y=>if y.2 == .cell || y.2 == .free then (cl.lookup y.1).isSome else true)=true
 cap:CapOk X scope N is
theorem SubC.look {cells:List (Str×Addr)}:∀{cl:List (Str×Addr)}{x:Str}{c:Addr},SubC cells cl→cl.lookup x=some c→cells.lookup x=some c
 | [],_,_,_,h=>by simp at h
 | p::r,x,c,h,e=>by
  obtain ⟨h1,h2⟩:=h
  rw[List.lookup_cons]at e
  cases hx:x == p.1 with
  | true=>
   rw[hx]at e
   have ex:x=p.1:=eq_of_beq hx
   cases e
   rw[ex];exact h1
  | false=>
   rw[hx]at e
   exact SubC.look h2 e
theorem z51 {α:Type}:∀{l:List (Str×α)}{x:Str}{k:α},l.lookup x=some k→(x,k)∈l
 | [],_,_,h=>by simp at h
 | p::r,x,k,e=>by
  rw[List.lookup_cons]at e
  cases hx:x == p.1 with
  | true=>
   rw[hx]at e
   have ex:x=p.1:=eq_of_beq hx
   cases e
   rw[ex];exact List.mem_cons_self ..
  | false=>
   rw[hx]at e
   exact List.mem_cons_of_mem _ (z51 e)
noncomputable def caps (is:List (Option Nat))(σ:St):St:=is.map fun o=>match o with
 | none=>none
 | some i=>match σ[i]? with
  | some v=>v
  | none=>none
theorem CapOk.len {X:Cx}{scope:Scope}:∀{N:List Str}{is:List (Option Nat)},CapOk X scope N is→N.length=is.length
 | [],[],_=>rfl
 | _::N,none::is,h=>by have h':CapOk X scope N is:=h;simp[CapOk.len h']
 | _::N,some i::is,h=>by have h':=h.2;simp[CapOk.len h']
 | [],_::_,h=>h.elim
 | _::_,[],h=>h.elim
theorem CapOk.get {X : Cx}{scope : Scope}{σ : St} : ∀ {N : List Str} {is : List (Option Nat)} {j : Nat} {x : Str} {v : V}, CapOk X scope N is → N[j]? = some x → (caps is σ)[j]? = some (some v) →
  ∃i:Nat,X.N[i]?=some x∧σ[i]?=some (some v)∧X.env.scope.names.lookup x=some .cell∧(relabel scope X.env).names.lookup x=some .cell
 | [],[],_,_,_,_,e,_=>by simp at e
 | [],_::_,_,_,_,h,_,_=>h.elim
 | _::_,[],_,_,_,h,_,_=>h.elim
 | y::N,none::is,0,x,v,h,e,q=>by
  have q':some (none:Option V)=some (some v):=q
  cases q'
 | y::N,none::is,j+1,x,v,h,e,q=>CapOk.get (N:=N) (is:=is) (j:=j) h e q
 | y::N,some i::is,0,x,v,h,e,q=>by
  cases e
  obtain ⟨⟨h1,h2,h3⟩,_⟩:=h
  refine ⟨i,h1,?_,h2,h3⟩
  have q':some (match σ[i]? with|some v=>v|none=>none)=some (some v):=q
  cases hs:σ[i]? with
  | none=>rw[hs]at q';cases q'
  | some w=>rw[hs]at q';injection q' with q'';exact congrArg some q''
 | y::N,some i::is,j+1,x,v,h,e,q=>CapOk.get (N:=N) (is:=is) (j:=j) h.2 e q
noncomputable def PF (X:Cx)(ifs:List Expr)(t:TT):Prop:=
 ∀(pins:List (Addr×Obj))(s:Shared)(σ:St)(H:Hp)(Q:Bool→Hp→Prop),Inv X pins σ H s→t σ H Q→
  wpAny (model X.prog X.w) X.A (forIn ifs true fun c r=>if r=true then do let ok ←isTrue c X.env (eval c X.env);pure (ForInStep.yield ok) else pure (ForInStep.yield r)) (TP X pins σ Q) X.xe s
noncomputable def zqr:TT:=fun _ H Q=>Q true H
theorem zo7 {X:Cx}:PF X [] zqr:=fun pins s σ H Q I h=>wpAny_tests_nil ⟨H,I,h⟩
noncomputable def zhx (J:It)(g:TG)(tt:TT)(te:TE)(D:Addr)(σ0:St)(H0:Hp)(Q:VK):Prop:=
 ∃W:Nat→Nat→St→Hp→Prop,(∃m,W 0 m σ0 H0)∧∀i m σ' H',W i m σ' H'→
  (J.stop i H'∧(∃ys,H' D=some (.lst ys))∧Q (.ref D) H')∨(J.go i H'∧∃N:St→Hp→Prop,(∀σ2 H2,N σ2 H2→∃m',m'<m∧W (i+1) m' σ2 H2)∧
   ∀x H2,J.yld i H' x H2→g x σ' H2 fun σ2 H3=>tt σ2 H3 fun b H4=>if b=true then te σ2 H4 fun y H5=>∃xs,H5 D=some (.lst xs)∧xs.length<sizeLine∧N σ2 (upd H5 D (.lst (xs++[y]))) else N σ2 H4)
noncomputable def za2 (wi:TI)(g:TG)(tt:TT)(te:TE)(is:List (Option Nat)):TE:=fun σ H Q=>wi σ H fun J H1=>∀D,H1 D=none→zhx J g tt te D (caps is σ) (upd H1 D (.lst [])) Q
theorem z40 {prog : Program}{w : World}{A : Around}{R : Result → Shared → Prop}{s : Shared}{elt target iter : Expr}{ifs : List Expr}{scope : Scope}{pos : Pos}{it acc : Value}{env : Env}(I : Nat → Shared → Prop)
  (turn:∀n s,I n s→wpAny (model prog w) A (pyNext it) (fun r s₁=>match r with
   | none=>R (.ok .next) s₁
   | some v => wpAny (model prog w) A (letOwnedTupleGo target it v) (fun _ s₁' => wpAny (model prog w) A (assign target env v) (fun _ s₂ =>
     wpAny (model prog w) A (forIn ifs true fun c r=>if r=true then do let ok ←isTrue c env (eval c env);pure (ForInStep.yield ok) else pure (ForInStep.yield r)) (fun ok s₃=>
      if ok=true then wpAny (model prog w) A (eval elt env) (fun x s₄=>
       wpAny (model prog w) A (call (.builtin "list.append") [acc,x]) (fun _ s₅=>∃m,m<n∧I m s₅) (notedBy (model prog w) A env fun e s'=>R (.error e) s') s₄) (notedBy (model prog w) A env fun e s'=>R (.error e) s') s₃
      else ∃m,m<n∧I m s₃) (notedBy (model prog w) A env fun e s'=>R (.error e) s') s₂) (notedBy (model prog w) A env fun e s'=>R (.error e) s') s₁') (notedBy (model prog w) A env fun e s'=>R (.error e) s') s₁) (notedBy (model prog w) A env fun e s'=>R (.error e) s') s)
  (n:Nat)(h:I n s) :
  codeAny (model prog w) A (.compLoop (.ListComp elt [⟨target,iter,ifs,0⟩] scope pos) 0 it acc env) R s:=by
 refine codeAny_loop rfl I (fun n s hI=>?_) n h
 show wpAny _ A ((compTurn (.ListComp elt [⟨target,iter,ifs,0⟩] scope pos) 0 it acc env).onRaise (fun x=>do noteFrame x env;theTreesLotGoes x)) _ _ s
 refine wpAny_noted ?_
 rw[compTurn_list]
 refine wpAny_bind (wpAny_standAt (wpAny_bind (wpAny_mono (turn n s hI) (fun r s₁ h₁=>?_) fun _ _ h'=>h')))
 cases r with
 | none=>exact wpAny_pure h₁
 | some v=>
  refine wpAny_bind (wpAny_mono h₁ (fun _ s₁' h₁'=>?_) fun _ _ h'=>h')
  refine wpAny_bind (wpAny_mono h₁' (fun _ s₂ h₂=>wpAny_bind (wpAny_mono h₂ (fun ok s₃ h₃=>?_) fun _ _ h'=>h')) fun _ _ h'=>h')
  cases ok with
  | false=>exact wpAny_pure ⟨rfl,h₃⟩
  | true=>
   exact wpAny_bind (wpAny_bind (wpAny_mono h₃ (fun x s₄ h₄=>wpAny_bind (wpAny_mono h₄ (fun _ s₅ h₅=>wpAny_pure (wpAny_pure ⟨rfl,h₅⟩)) fun _ _ h'=>h')) fun _ _ h'=>h'))
section
variable {X:Cx}
theorem zci {pins : List (Addr × Obj)}{s : Shared}{σ : St}{H : Hp}{Q : VK}{use : Option (Value → Sem Unit)}{Qr : Value → Shared → Prop}{pos' : Pos}{elt iter tg : Expr}{ifs : List Expr}{scope : Scope}{pos : Pos}{cl : List (Str × Addr)}{N : List Str}{is : List (Option Nat)}{wi : TI}{g : TG}{tt : TT}{te : TE}(hc : X.calm = true)(k : CompOk X N is scope cl)(hi : PI X tg iter wi)
  (hg:∀C s₀ H₀ ex E,PG (X.comp N scope cl C s₀ H₀ ex E) tg g)(hf:∀C s₀ H₀ ex E,PF (X.comp N scope cl C s₀ H₀ ex E) ifs tt)(he:∀C s₀ H₀ ex E,PE (X.comp N scope cl C s₀ H₀ ex E) elt te)
  (hs:∀x,foldedSetIterable iter X.env x=pure x)(I:Inv X pins σ H s)(h:za2 wi g tt te is σ H Q)
  (hend:∀(D C:Addr)(H4:Hp)(s5:Shared)(m:Str→Option Value),s5.heap.Ns C m→zg5 X pins H4 C→(∀h',Heap.SameBut C s5.heap h'→Inv X pins σ H4 {s5 with heap:=h'})→Q (.ref D) H4→compPost (model X.prog X.w) X.A X.xe use Qr (.ref D) C (.ok .next) s5) :
  wpAny (model X.prog X.w) X.A (comprehension (.ListComp elt [⟨tg,iter,ifs,0⟩] scope pos) scope X.env pos' (newList []) false (eval iter X.env) use) Qr X.xe s:=by
 refine wpAny_comprehension_free (use:=use) rfl hs k.clos k.kind k.names (thn (hi pins s σ H _ I h) fun xv s1 h1=>thn h1 fun itv s2 h2=>?_)
 obtain ⟨it,fp,tn,J,H2,e,I2,T,st2,f2,h2⟩:=h2
 subst e
 refine wpAny_newObj_type (wpAny_newFunctionEnv k.cell (by intro y hy;simp at hy) (fun h₁ hns₁ hsb₁=>?_) k.kind)
 dsimp only at hns₁ hsb₁ ⊢
 generalize hG2:s2.heap.push {cls:=.type "list",dict:=none,data:=.seq ([]:List Value).toArray}=G2 at hns₁ hsb₁ ⊢
 have hC:G2.objs.size=s2.heap.objs.size+1:=by rw[←hG2,Heap.size_push]
 have hDC:s2.heap.objs.size≠G2.objs.size:=by rw[hC];exact Nat.ne_of_lt (Nat.lt_succ_self _)
 have hCle:s2.heap.objs.size≤G2.objs.size:=by rw[hC];exact Nat.le_succ _
 have neC:∀b,b<s2.heap.objs.size→b≠G2.objs.size:=fun b hb=>Nat.ne_of_lt (Nat.lt_of_lt_of_le hb hCle)
 have old:∀b o,s2.heap.get? b=some o→h₁.get? b=some o:=fun b o e=>hsb₁.extBut b o (neC b (Heap.lt_size e)) (Heap.get?_push_of_some _ (hG2▸Heap.get?_push_of_some _ e))
 have hacc:h₁.get? s2.heap.objs.size=some {cls:=.type "list",dict:=none,data:=.seq ([]:List Value).toArray}:=hsb₁.extBut _ _ hDC (Heap.get?_push_of_some _ (hG2▸Heap.get?_push_size _ rfl))
 have fD:H2 s2.heap.objs.size=none:=I2.hok.fresh (Nat.le_refl _)
 have fC:H2 G2.objs.size=none:=I2.hok.fresh hCle
 obtain ⟨W,⟨m0,w0⟩,turn⟩:=h2 _ fD
 have cellLt:∀x c,cl.lookup x=some c→c<s2.heap.objs.size:=fun x c e=>by
  obtain ⟨v,q⟩:=I2.cell x c (k.sub.look e)
  exact q.lt
 have fpLt:∀b∈fp,b<s2.heap.objs.size:=fun b hb=>by
  obtain ⟨o,q,_⟩:=T.obj 0 _ st2 b hb
  exact Heap.lt_size q
 have hasC:∀x,((relabel scope X.env).names.lookup x=some .cell∨(relabel scope X.env).names.lookup x=some .free)→∃c,cl.lookup x=some c:=fun x hx=>by
  have all:=List.all_eq_true.mp k.has
  rcases hx with hx|hx
  ·have q:=all _ (z51 hx)
   simpa [Option.isSome_iff_exists] using q
  ·have q:=all _ (z51 hx)
   simpa [Option.isSome_iff_exists] using q
 generalize hE:(notedBy (model X.prog X.w) X.A (compEnvC scope cl G2.objs.size X.env) fun e s'=>compPost (model X.prog X.w) X.A X.xe use Qr (.ref s2.heap.objs.size) G2.objs.size (.error e) s')=E'
 have ok':(X.comp N scope cl G2.objs.size s2 H2 fp E').Ok:={
  mod:=I2.ok.mod
  kind:=k.kind
  glob:=I2.ok.glob
  blt:=I2.ok.blt
  above:=hCle
  inj:=fun x y c e1 e2=>I2.ok.inj x y c (k.sub.look e1) (k.sub.look e2)
  has:=fun x hx=>hasC x hx
  cab:=fun x c z=>by cases z
  hd:=I2.ok.hd
  frames:=I2.ok.frames
  stk:=.inl rfl
  exf:=fun b hb=>⟨neC b (fpLt b hb),fun x c e=>(f2 b hb).2.2.2.2.1 x c (k.sub.look e)⟩
  bs:=I2.bs
  bsz:=Nat.le_trans I2.ok.bsz I2.sz
  noex:=fun b o e hb=>by
   rcases (f2 b hb).2.2.2.1 with z|z
   ·exact I2.ok.noex b o e z
   ·exact absurd (Nat.lt_of_lt_of_le (Heap.lt_size e) I2.ok.bsz) (Nat.not_lt.mpr z)
  exfs:=fun b hb z=>by
   rcases List.mem_cons.mp (I2.stkSub b z) with q|q
   ·exact (f2 b hb).2.1 q
   ·exact (f2 b hb).2.2.1 q
  funs:=I2.stack
  frf:=I2.stkFree}
 have I3:Inv (X.comp N scope cl G2.objs.size s2 H2 fp E') [] (caps is σ) (upd H2 s2.heap.objs.size (.lst [])) {s2 with heap:=h₁,toks:=s2.toks+([]:List (Str×Value)).length}:={
  ok:=ok'
  os:=rfl
  bare:=I2.bare
  base:=Un.laid old (Nat.le_refl _) fD
  loc:=by
   refine ⟨_,hns₁,fun j x v e1 e2 e3=>?_⟩
   obtain ⟨i,q1,q2,q3,q4⟩:=CapOk.get k.cap e1 e2
   obtain ⟨m,hn,hl⟩:=I2.loc
   obtain ⟨u,r,l⟩:=hl i x v q1 q2 (.inr (.inl q3))
   refine ⟨u,r,.inr ⟨.inl q4,?_⟩⟩
   obtain ⟨c,hcl⟩:=hasC x (.inl q4)
   refine ⟨c,hcl,?_⟩
   rcases l with ⟨z,_⟩|⟨_,c',e',o,ho,hd⟩
   ·have z':X.env.scope.names.lookup x=some .local:=z
    rw[q3]at z';cases z'
   ·have:=k.sub.look hcl
    rw[e']at this;cases this
    exact ⟨o,old _ _ ho,hd⟩
  cell:=fun x c e=>by
   obtain ⟨v,o,ho,hd⟩:=I2.cell x c (k.sub.look e)
   exact ⟨v,o,old _ _ ho,hd⟩
  free:=by
   show upd H2 s2.heap.objs.size (.lst []) G2.objs.size=none
   rw[z0f (Ne.symm hDC)];exact fC
  freeC:=fun x c e=>by
   rw[z0f (Nat.ne_of_lt (cellLt x c e))]
   exact I2.freeC x c (k.sub.look e)
  pin:=fun p hp=>by simp at hp
  hok:=I2.hok.laid old (Nat.le_refl _) ⟨Nat.zero_le _,[],_,.nil,hacc⟩
  len:=by
   show (caps is σ).length=N.length
   rw[k.cap.len];simp[caps]}
 have stat:∀{H':Hp},(∀b∈fp,H' b=none)→∀b∈fp,zg5 (X.comp N scope cl G2.objs.size s2 H2 fp E') [] H' b:=fun hn b hb=>
  ⟨hn b hb,neC b (fpLt b hb),ok'.exfs b hb,.inl hb,fun x c e=>(f2 b hb).2.2.2.2.1 x c (k.sub.look e),fun p hp=>by simp at hp⟩
 have loop : ∀ s₃ : Shared, s₃ = { s2 with heap := h₁, toks := s2.toks+([] : List (Str × Value)).length } →
   codeAny (model X.prog X.w) X.A (.compLoop (.ListComp elt [⟨tg,iter,ifs,0⟩] scope pos) 0 (.ref it) (.ref s2.heap.objs.size) (compEnvC scope cl G2.objs.size X.env))
    (compPost (model X.prog X.w) X.A X.xe use Qr (.ref s2.heap.objs.size) G2.objs.size) s₃:=by
  rintro s₃ rfl
  refine z40 (fun n s'=>∃i σ' H',Inv (X.comp N scope cl G2.objs.size s2 H2 fp E') [] σ' H' s'∧tn i s'.heap∧(∀b∈fp,H' b=none)∧W i n σ' H') ?_ m0
   ⟨0,_,_,I3,T.keep _ _ _ st2 fun b hb o e=>old b o e,fun b hb=>by rw[z0f (Nat.ne_of_lt (fpLt b hb))];exact (f2 b hb).1,w0⟩
  rintro n s4 ⟨i,σ4,H4,I4,st4,fr4,w4⟩
  rw[hE]
  rcases turn i n σ4 H4 w4 with ⟨stop,⟨ys,hD⟩,q⟩|⟨go,Nx,hN,step⟩
  ·refine thn (T.done (X.comp N scope cl G2.objs.size s2 H2 fp E') rfl rfl rfl hc i [] s4 σ4 H4 E' I4 (stat fr4) st4 stop) fun r s5 ⟨hr,I5⟩=>?_
   subst hr
   obtain ⟨m,hn,_⟩:=I5.loc
   refine hend s2.heap.objs.size G2.objs.size H4 s5 m hn (I2.fpOk hCle I5.free) (fun h' hsb=>?_) q
   have B:=I5.base
   have stay:∀b o,b≠G2.objs.size→s5.heap.get? b=some o→h'.get? b=some o:=fun b o hb e=>hsb.extBut b o hb e
   have u:Un (frs X.stack) fp H2 H4 s2.heap h':={
    keep:=fun b o e n1 n2 n3=>stay b o (neC b (Heap.lt_size e)) (B.keep b o e n1 n2 n3)
    slot:=fun b o e n1 n2 n3=>by
     obtain ⟨sl,z⟩:=B.slot b o e n1 n2 n3
     exact ⟨sl,stay b _ (neC b (Heap.lt_size e)) z⟩
    free:=fun b o e n1 n2=>B.free b o e n1 n2
    there:=fun b o e n1=>by
     obtain ⟨o',z⟩:=B.there b o e n1
     exact ⟨o',stay b _ (neC b (Heap.lt_size e)) z⟩
    tups:=B.tups
    frzs:=B.frzs
    tbls:=B.tbls}
   have hok:HOk X.prog X.w H4 h':=fun b o e=>by
    have nC:∀c v,H4 c=some v→c≠G2.objs.size:=fun c v z y=>by
     have:=I5.free
     rw[y]at z
     have z2:H4 G2.objs.size=none:=this
     rw[z2]at z;cases z
    refine (I5.hok b o e).stay (fun c v hc' z=>stay c v ?_ z) (fun _ z=>z) fun _ _ z=>z
    rcases hc' with z|z
    ·rw[z];exact nC b o e
    ·exact nC c _ z
   have hos:s5.os=s2.os:=I5.os
   have hbr:=I5.bare
   obtain ⟨hh,g5,d5,t5,os5⟩:=s5
   obtain rfl:os5=s2.os:=hos
   have z:=I2.call (h':=h') (g':=g5) (d':=d5) (t':=t5) (ch:=fp) u hok hbr fun b hb=>⟨(f2 b hb).2.2.2.1,(f2 b hb).2.1,(f2 b hb).2.2.2.2.1,(f2 b hb).2.2.2.2.2⟩
   exact z
  ·refine thn (T.item (X.comp N scope cl G2.objs.size s2 H2 fp E') rfl rfl rfl hc i [] s4 σ4 H4 E' I4 (stat fr4) st4 go) fun r s5 ⟨u,hr,h5⟩=>?_
   subst hr
   refine thn h5 fun _ s6 ⟨x,H6,I6,r6,y6,st6,fr6⟩=>?_
   have I6':=I6.pinned (stat fr6) (T.obj _ _ st6)
   have again:∀{σ7:St}{H7:Hp}{s7:Shared},Inv (X.comp N scope cl G2.objs.size s2 H2 fp E') ([]++z97 fp s6.heap) σ7 H7 s7→Nx σ7 H7→∃m,m<n∧∃i σ' H',Inv (X.comp N scope cl G2.objs.size s2 H2 fp E') [] σ' H' s7∧tn i s7.heap∧(∀b∈fp,H' b=none)∧W i m σ' H':=fun {σ7 H7 s7} I7 n7=>by
    obtain ⟨m',hm,w7⟩:=hN σ7 H7 n7
    refine ⟨m',hm,i+1,σ7,H7,I7.unpinned,T.keep _ _ _ st6 fun b hb o e=>(I7.pin (b,o) (List.mem_append_right _ (List.mem_append_right _ (z3y hb e)))).1,fun b hb=>?_,w7⟩
    obtain ⟨o,e,d⟩:=T.obj _ _ st6 b hb
    exact (I7.pin (b,o) (List.mem_append_right _ (List.mem_append_right _ (z3y hb e)))).2.1
   refine thn (hg G2.objs.size s2 H2 fp E' _ s6 σ4 H6 x u _ I6' r6 (step x H6 y6)) fun _ s7 ⟨σ7,H7,I7,q7⟩=>?_
   refine thn (hf G2.objs.size s2 H2 fp E' _ s7 σ7 H7 _ I7 q7) fun b s8 ⟨H8,I8,q8⟩=>?_
   cases b with
   | false=>exact again I8 q8
   | true=>
    refine thn (he G2.objs.size s2 H2 fp E' _ s8 σ7 H8 _ I8 q8) fun y s9 ⟨v,H9,I9,r9,xs,hD9,hsz,q9⟩=>?_
    refine thn (z4p _ s9 σ7 H9 (.ref s2.heap.objs.size) [v] (.ref s2.heap.objs.size) [y] (fun _ H10=>Nx σ7 H10) I9 rfl (.cons r9 .nil) ⟨_,xs,v,rfl,rfl,hD9,hsz,q9⟩) fun _ s10 ⟨_,H10,I10,_,q10⟩=>?_
    exact again I10 q10
 exact codeAny_compStart_list (loop _ rfl) (T.self _ 0 _ _ _ (T.keep _ _ _ st2 fun b hb o e=>old b o e) (loop _ rfl))
theorem zl5 {elt iter tg : Expr}{ifs : List Expr}{scope : Scope}{pos : Pos}{cl : List (Str × Addr)}{N : List Str}{is : List (Option Nat)}{wi : TI}{g : TG}{tt : TT}{te : TE}(hc : X.calm = true)(k : CompOk X N is scope cl)(hi : PI X tg iter wi)
  (hg:∀C s₀ H₀ ex E,PG (X.comp N scope cl C s₀ H₀ ex E) tg g)(hf:∀C s₀ H₀ ex E,PF (X.comp N scope cl C s₀ H₀ ex E) ifs tt)(he:∀C s₀ H₀ ex E,PE (X.comp N scope cl C s₀ H₀ ex E) elt te)
  (hs:∀x,foldedSetIterable iter X.env x=pure x:=by intro _;rfl):PE X (.ListComp elt [⟨tg,iter,ifs,0⟩] scope pos) (za2 wi g tt te is):=by
 intro pins s σ H Q I h
 rw[eval_ListComp]
 exact zci (use:=none) hc k hi hg hf he hs I h fun D C H4 s5 m hn _ hI q=>⟨m,hn,fun h' hsb=>⟨.ref D,H4,hI h' hsb,rfl,q⟩⟩
theorem zku {i : Nat}{x : Str}{pos'' spos : Pos}{elt iter tg : Expr}{ifs : List Expr}{scope : Scope}{pos : Pos}{cl : List (Str × Addr)}{N : List Str}{is : List (Option Nat)}{wi : TI}{g : TG}{tt : TT}{te : TE}(hN : X.N.Nodup)(hix : X.N[i]? = some x)(hx : X.env.scope.names.lookup x = some .local)(hc : X.calm = true)(k : CompOk X N is scope cl)(hi : PI X tg iter wi)
  (hg:∀C s₀ H₀ ex E,PG (X.comp N scope cl C s₀ H₀ ex E) tg g)(hf:∀C s₀ H₀ ex E,PF (X.comp N scope cl C s₀ H₀ ex E) ifs tt)(he:∀C s₀ H₀ ex E,PE (X.comp N scope cl C s₀ H₀ ex E) elt te)
  (hsw:swapsWith (.ListComp elt [⟨tg,iter,ifs,0⟩] scope pos) (some (.Name x pos'')) spos.line X.env=pure true)
  (hs:∀x,foldedSetIterable iter X.env x=pure x:=by intro _;rfl):PS X (.Assign [.Name x pos''] (.ListComp elt [⟨tg,iter,ifs,0⟩] scope pos) spos) (zdi (za2 wi g tt te is) (z54 i)):=by
 intro pins s σ H D I h
 rw[exec_Assign_Name_used _ _ _ _ hsw]
 refine wpAny_bind (wpAny_standAt (wpAny_bind ?_))
 show wpAny _ X.A (do let _ ←comprehension (.ListComp elt [⟨tg,iter,ifs,0⟩] scope pos) scope X.env _ (newList []) false (eval iter X.env) (some (assign (.Name x pos'') X.env))) _ _ s
 refine wpAny_bind (wpAny_mono (zci (use:=some (assign (.Name x pos'') X.env)) (Qr:=fun _ s'=>SP X pins D .next s') hc k hi hg hf he hs I h fun A C H4 s5 m hn hF hI q=>?_) (fun _ s' hq=>wpAny_pure (wpAny_pure hq)) fun _ _ e=>e)
 have I5:Inv X pins σ H4 s5:=hI s5.heap (Heap.SameBut.refl _ _)
 obtain ⟨f0,f1,f2,f3,f4,f5⟩:=hF
 show wpAny _ X.A (assign (.Name x pos'') X.env (.ref A)) _ _ _
 refine wpAny_assign_Name (z8v I5 hN hix (.inl hx) (v:=.ref A) rfl (fun s' I' hsb=>?_) (.inr hx))
 obtain ⟨a,sb,ha⟩:=hsb
 have hCa:C≠a:=by
  rcases ha with z|z
  ·rw[z];exact f1
  ·exact fun q=>f4 x a z q.symm
 refine ⟨m,hn.sameBut sb hCa,fun h' hs'=>⟨_,H4,?_,q⟩⟩
 exact I'.turned (t':=s'.toks) (fun b o hb e=>hs'.extBut b o hb e) f0 f1 f3 f4 f5
end
end
section
structure QF (X:Cx)(es:List Expr)(t:TT):Prop where
 o:PF X es t
theorem z66 {X:Cx}:QF X [] zqr:=⟨zo7⟩
theorem zbs {X : Cx}{elt iter tg : Expr}{ifs : List Expr}{scope : Scope}{pos : Pos}{cl : List (Str × Addr)}{N : List Str}{is : List (Option Nat)}{wi : TI}{g : TG}{tt : TT}{te : TE}(hc : X.calm = true)(k : CompOk X N is scope cl)(hi : QI X tg iter wi)
  (hg:∀C s₀ H₀ ex E,QG (X.comp N scope cl C s₀ H₀ ex E) tg g)(hf:∀C s₀ H₀ ex E,QF (X.comp N scope cl C s₀ H₀ ex E) ifs tt)(he:∀C s₀ H₀ ex E,QE (X.comp N scope cl C s₀ H₀ ex E) elt te)
  (hs:∀x,foldedSetIterable iter X.env x=pure x:=by intro _;rfl):QE X (.ListComp elt [⟨tg,iter,ifs,0⟩] scope pos) (za2 wi g tt te is):=
 ⟨zl5 hc k hi.o (fun C s₀ H₀ ex E=>(hg C s₀ H₀ ex E).o) (fun C s₀ H₀ ex E=>(hf C s₀ H₀ ex E).o) (fun C s₀ H₀ ex E=>(he C s₀ H₀ ex E).o) hs⟩
theorem z7x {X : Cx}{i : Nat}{x : Str}{pos'' spos : Pos}{elt iter tg : Expr}{ifs : List Expr}{scope : Scope}{pos : Pos}{cl : List (Str × Addr)}{N : List Str}{is : List (Option Nat)}{wi : TI}{g : TG}{tt : TT}{te : TE}(hN : X.N.Nodup)(hix : X.N[i]? = some x)(hx : X.env.scope.names.lookup x = some .local)(hc : X.calm = true)(k : CompOk X N is scope cl)(hi : QI X tg iter wi)
  (hg:∀C s₀ H₀ ex E,QG (X.comp N scope cl C s₀ H₀ ex E) tg g)(hf:∀C s₀ H₀ ex E,QF (X.comp N scope cl C s₀ H₀ ex E) ifs tt)(he:∀C s₀ H₀ ex E,QE (X.comp N scope cl C s₀ H₀ ex E) elt te)
  (hsw:swapsWith (.ListComp elt [⟨tg,iter,ifs,0⟩] scope pos) (some (.Name x pos'')) spos.line X.env=pure true:=by rfl)
  (hs:∀x,foldedSetIterable iter X.env x=pure x:=by intro _;rfl):QS X (.Assign [.Name x pos''] (.ListComp elt [⟨tg,iter,ifs,0⟩] scope pos) spos) (zdi (za2 wi g tt te is) (z54 i)):=
 ⟨zku hN hix hx hc k hi.o (fun C s₀ H₀ ex E=>(hg C s₀ H₀ ex E).o) (fun C s₀ H₀ ex E=>(hf C s₀ H₀ ex E).o) (fun C s₀ H₀ ex E=>(he C s₀ H₀ ex E).o) hsw hs⟩
theorem z7j {lo : Int}{n : Nat}{g : TG}{tt : TT}{te : TE}{D : Addr}{σ : St}{H : Hp}{Q : VK}(Pv : Nat → St → Hp → Prop)(h0 : Pv 0 σ H)
  (hs:∀i σ H,i<n→Pv i σ H→g (.int (lo+i)) σ H fun σ2 H3=>tt σ2 H3 fun b H4=>if b=true then te σ2 H4 fun y H5=>∃xs,H5 D=some (.lst xs)∧xs.length<sizeLine∧Pv (i+1) σ2 (upd H5 D (.lst (xs++[y]))) else Pv (i+1) σ2 H4)
  (hd:∀σ H,Pv n σ H→(∃ys,H D=some (.lst ys))∧Q (.ref D) H):zhx (Itr lo n) g tt te D σ H Q:=by
 refine ⟨fun i m σ H=>m=n-i∧i≤n∧Pv i σ H,⟨n,by simp,Nat.zero_le _,h0⟩,?_⟩
 rintro i m σ H ⟨rfl,hi,p⟩
 by_cases hlt:i<n
 ·refine .inr ⟨hlt,Pv (i+1),fun σ' H' p'=>⟨n-(i+1),by omega,rfl,hlt,p'⟩,fun x H' y=>?_⟩
  obtain ⟨e,y⟩:=y
  subst e y
  exact hs i σ _ hlt p
 ·have e:i=n:=by omega
  subst e
  exact .inl ⟨Nat.le_refl _,hd σ H p⟩
theorem zhp {K : W.Frag}{a : Addr}{xs : List V}{g : TG}{tt : TT}{te : TE}{D : Addr}{σ : St}{H : Hp}{Q : VK}(Pv : Nat → St → Hp → Prop)(h0 : Pv 0 σ H)(hl : ∀ i σ H, i ≤ xs.length → Pv i σ H → SqT K H a xs)
  (hs:∀i x σ H,xs[i]?=some x→Pv i σ H→g x σ H fun σ2 H3=>tt σ2 H3 fun b H4=>if b=true then te σ2 H4 fun y H5=>∃xs,H5 D=some (.lst xs)∧xs.length<sizeLine∧Pv (i+1) σ2 (upd H5 D (.lst (xs++[y]))) else Pv (i+1) σ2 H4)
  (hd:∀σ H,Pv xs.length σ H→(∃ys,H D=some (.lst ys))∧Q (.ref D) H):zhx (Itt K a) g tt te D σ H Q:=by
 refine ⟨fun i m σ H=>m=xs.length-i∧i≤xs.length∧Pv i σ H,⟨xs.length,by simp,Nat.zero_le _,h0⟩,?_⟩
 rintro i m σ H ⟨rfl,hi,p⟩
 have q:=hl i σ H hi p
 by_cases hlt:i<xs.length
 ·refine .inr ⟨⟨xs,xs[i],q,by simp[hlt]⟩,Pv (i+1),fun σ' H' p'=>⟨xs.length-(i+1),by omega,rfl,hlt,p'⟩,fun x H' y=>?_⟩
  obtain ⟨e,y⟩:=y
  subst e
  exact hs i x σ _ (y xs q) p
 ·have e:i=xs.length:=by omega
  subst e
  exact .inl ⟨⟨xs,q,Nat.le_refl _⟩,hd σ H p⟩
section
variable {X:Cx}
end
end
end L2
set_option Elab.async false
set_option linter.all false
set_option maxRecDepth 100000
namespace L2
open PySem
structure Pr (p:Int):Prop where
 two:2≤p
 no:∀d:Int,2≤d→d*d≤p→p%d≠0
noncomputable def zow (ps:List (Int×Int)):Int:=match ps.getLast? with
 | none=>1
 | some p=>p.1
structure Good (ps:List (Int×Int)):Prop where
 each:∀(i:Nat)(p:Int×Int),ps[i]?=some p→zow (ps.take i)<p.1∧0<p.2∧Pr p.1
theorem Good.nil:Good []:=⟨fun i p h=>by simp at h⟩
theorem zdg {α:Type}{ps:List α}{i:Nat}{p:α}(h:ps[i]?=some p):ps.take (i+1)=ps.take i++[p]:=by
 rw[List.take_add_one,h];rfl
end L2
set_option Elab.async false
set_option linter.all false
set_option maxRecDepth 100000
namespace L2
open PySem PySem.Spec PyProof.Rows
section
section
variable {X:Cx}
end
noncomputable def ch:Nat→Nat→Nat
 | _,0=>1
 | 0,_+1=>0
 | n+1,k+1=>ch n k+ch n (k+1)
theorem z2u (n:Nat):ch n 0=1:=by cases n<;>rfl
theorem z6u:∀(n k:Nat),n<k→ch n k=0
 | 0,k+1,_=>rfl
 | n+1,k+1,h=>by
  show ch n k+ch n (k+1)=0
  rw[z6u n k (by omega),z6u n (k+1) (by omega)]
theorem z8g:∀n:Nat,ch n n=1
 | 0=>rfl
 | n+1=>by
  show ch n n+ch n (n+1)=1
  rw[z8g n,z6u n (n+1) (by omega)]
theorem z6t:∀(n k:Nat),ch n (k+1)*(k+1)+ch n k*k=ch n k*n
 | 0,0=>rfl
 | 0,k+1=>by show 0*(k+2)+0*(k+1)=0*0;omega
 | n+1,0=>by
  have h:ch n 1*1+ch n 0*0=ch n 0*n:=z6t n 0
  rw[z2u]at h
  show (ch n 0+ch n 1)*1+ch (n+1) 0*0=ch (n+1) 0*(n+1)
  rw[z2u,z2u]
  omega
 | n+1,k+1=>by
  have h1:=z6t n k
  have h2:=z6t n (k+1)
  show (ch n (k+1)+ch n (k+2))*(k+2)+(ch n k+ch n (k+1))*(k+1)=(ch n k+ch n (k+1))*(n+1)
  generalize ch n k=a at *
  generalize ch n (k+1)=b at *
  generalize ch n (k+2)=c at *
  grind
theorem zfo:∀(n k:Nat),k≤n→ch n k=ch n (n-k)
 | 0,0,_=>rfl
 | n+1,0,_=>by rw[z2u,Nat.sub_zero,z8g]
 | n+1,k+1,h=>by
  have e1:n+1-(k+1)=n-k:=by omega
  rw[e1]
  by_cases hk:k=n
  ·subst hk
   rw[Nat.sub_self,z2u,z8g]
  ·obtain ⟨m,hm⟩:∃m,n-k=m+1:=⟨n-k-1,by omega⟩
   rw[hm]
   show ch n k+ch n (k+1)=ch n m+ch n (m+1)
   rw[zfo n k (by omega),zfo n (k+1) (by omega),hm]
   have:n-(k+1)=m:=by omega
   rw[this];omega
theorem zm2:∀(n k:Nat),ch n k≤2^n
 | n,0=>by rw[z2u];exact Nat.one_le_two_pow
 | 0,k+1=>Nat.zero_le _
 | n+1,k+1=>by
  have a:=zm2 n k
  have b:=zm2 n (k+1)
  show ch n k+ch n (k+1)≤2^(n+1)
  rw[Nat.pow_succ];omega
theorem zm0 {n t:Nat}(h:t<n):((ch n t:Nat):Int)*((n:Int)-t)/((t:Int)+1)=((ch n (t+1):Nat):Int):=by
 have e:=z6t n t
 have e':((ch n t:Nat):Int)*((n:Int)-t)=((ch n (t+1):Nat):Int)*((t:Int)+1):=by
  have:=congrArg (Nat.cast (R:=Int)) e
  push_cast at this
  grind
 rw[e',Int.mul_ediv_cancel _ (by omega)]
end
section
section
variable {X:Cx}
end
end
section
section
variable {X:Cx}
end
end
end L2
namespace L2
open PySem
noncomputable def chI (n k:Int):Int:=if 0≤k then ((ch n.toNat k.toNat:Nat):Int) else 0
theorem zhq (n k:Nat)(h:n≤60):Bt 61 ((ch n k:Nat):Int):=by
 show (((ch n k:Nat):Int)).natAbs<2^61
 rw[Int.natAbs_natCast]
 have a:=zm2 n k
 have b:2^n≤2^60:=Nat.pow_le_pow_right (by decide) h
 have c:(2:Nat)^60<2^61:=by decide
 omega
end L2
namespace L2
open PySem PySem.Spec PyProof.Rows
section
theorem zbq {X:Cx}{K:W.Frag}(hK:X.K=K){pos:Pos}{es:List Expr}{k:Nat}{t:TGs}{n:Nat}(hc:X.calm=true)(h:QGs X es t)(hn:(assignEach es X.env).length=n:=by rfl)(hst:(assignEach es X.env).findIdx? (·.1)=none:=by rfl):QG X (.Tuple es k pos) (zpi K n t):=by
 subst hK
 exact ⟨zis (hc:=hc) (h:=h.o) (hn:=hn) (hst:=hst)⟩
section
variable {X:Cx}{K:W.Frag}
end
end
end L2
namespace L2
open PySem
theorem zc6 {K:W.Frag}{H:Hp}:∀{vs:List V}{ns:List Int},DvAll K H vs (ns.map PyData.int)→vs=ns.map V.int
 | [],[],_=>rfl
 | v::vs,[],h=>by cases h
 | [],n::ns,h=>by cases h
 | v::vs,n::ns,h=>by
  cases h with
  | cons h1 t=>cases h1;rw[List.map_cons,zc6 t]
theorem Dv.ints {K:W.Frag}{H:Hp}{v:V}{ns:List Int}(h:Dv K H v (.tuple (ns.map PyData.int))):∃a,v=.ref a∧SqT K H a (ns.map V.int):=by
 cases h with
 | tup hs t=>rw[zc6 t]at hs;exact ⟨_,rfl,hs⟩
end L2
set_option Elab.async false
set_option linter.all false
set_option maxRecDepth 100000
namespace L2
open PySem PySem.Spec PyProof.Rows
section
variable {prog:Program}{w:World}{A:Around}{E:Value→Shared→Prop}{s:Shared}
theorem zcx {it t : Addr}{i : Nat}{its : Array Value}{x : Value}{Q : Value → Shared → Prop}(hit : s.heap.IsTupleIter it t i)(ht : s.heap.IsTuple t its)(hx : its[i]? = some x)
  (hQ:∀h',h'.IsTupleIter it t (i+1)→Heap.SameBut it s.heap h'→Q x {s with heap:=h'}):wpAny (model prog w) A (Builtin.SmallTypes.nextOf (.ref it)) Q E s:=by
 obtain ⟨o,ho,hc,hd⟩:=id hit;obtain ⟨ol,hol,_,nl,hdl⟩:=ht
 unfold Builtin.SmallTypes.nextOf
 refine wpAny_bind (wpAny_callSpecial?_slot (name:=Str.ofString "__next__") hit.typeIs F.slot_tuple_iterator_next (wpAny_call_entry F.slot_tuple_iterator_next hit.typeIs F.entry_tuple_iterator_next ?_ (F.args_tuple_iterator_next_1 _)))
 show wpAny _ _ (field (.ref it) 0 >>= _) _ _ s;refine wpAny_bind (wpAny_field ho hd (x:=.ref t) rfl ?_)
 show wpAny _ _ (if (Value.ref t == Value.none)=true then _ else _) _ _ s;rw[if_neg (show ¬((Value.ref t == Value.none)=true) from Bool.false_ne_true)]
 show wpAny _ _ (field (.ref it) 1 >>= _) _ _ s;refine wpAny_bind (wpAny_field ho hd (x:=.int i 0) rfl ?_)
 show wpAny _ _ (seqItems? (.ref t) >>= _) _ _ s;refine wpAny_bind (wpAny_seqItems hol hdl ?_)
 simp only[Int.toNat_natCast,hx]
 refine wpAny_bind (wpAny_setField ho hd (by simp) (wpAny_pure ⟨x,rfl,wpAny_pure (hQ _ ⟨_,Heap.get?_update_self _ ho (Obj.isFreed_of_fields (Obj.data_mapFields hd _)),(Obj.cls_mapFields ..).trans hc,by rw[Obj.data_mapFields hd];simp[rawInt]⟩ (Heap.SameBut.update ..))⟩))
theorem z70 {it t : Addr}{i : Nat}{its : Array Value}{Q : Value → Shared → Prop}(hh : A.handled = none)(hit : s.heap.IsTupleIter it t i)(ht : s.heap.IsTuple t its)(hx : its[i]? = none)
  (hE:∀h' e,Heap.ExtBut it s.heap h'→(∃o,h'.get? e=some o∧o.cls=.type "StopIteration")→E (.ref e) {s with heap:=h'}):wpAny (model prog w) A (Builtin.SmallTypes.nextOf (.ref it)) Q E s:=by
 obtain ⟨o,ho,hc,hd⟩:=id hit;obtain ⟨ol,hol,_,nl,hdl⟩:=ht
 unfold Builtin.SmallTypes.nextOf
 refine wpAny_bind (wpAny_callSpecial?_slot (name:=Str.ofString "__next__") hit.typeIs F.slot_tuple_iterator_next (wpAny_call_entry F.slot_tuple_iterator_next hit.typeIs F.entry_tuple_iterator_next ?_ (F.args_tuple_iterator_next_1 _)))
 show wpAny _ _ (field (.ref it) 0 >>= _) _ _ s;refine wpAny_bind (wpAny_field ho hd (x:=.ref t) rfl ?_)
 show wpAny _ _ (if (Value.ref t == Value.none)=true then _ else _) _ _ s;rw[if_neg (show ¬((Value.ref t == Value.none)=true) from Bool.false_ne_true)]
 show wpAny _ _ (field (.ref it) 1 >>= _) _ _ s;refine wpAny_bind (wpAny_field ho hd (x:=.int i 0) rfl ?_)
 show wpAny _ _ (seqItems? (.ref t) >>= _) _ _ s;refine wpAny_bind (wpAny_seqItems hol hdl ?_)
 simp only[Int.toNat_natCast,hx]
 refine wpAny_bind (wpAny_rule (wpAny_bind (wpAny_setField ho hd (by simp) ?_)));show wpAny _ _ (newExc (.type "StopIteration") [] >>= _) _ _ _
 refine wpAny_bind ?_;simp only[newExc,newTuple]
 refine wpAny_bind (wpAny_newObj_type ?_ (by size_fits));refine wpAny_bind (m:=firstArgMember _ _) (wpAny_of_eq (a:=Value.none) (by first|rfl|(simp only[firstArgMember];rfl)) ?_)
 refine wpAny_newObj_type ?_ (by size_fits);simp only[raiseNew]
 refine wpAny_bind (wpAny_handled ?_);first|rw[show A.in1.handled=none from hh]|rw[hh]
 refine wpAny_bind (wpAny_pure (wpAny_throw ?_));exact hE _ _ (((Heap.SameBut.update ..).extBut.push _).push _) ⟨_,Heap.get?_push_size _ rfl,rfl⟩
end
theorem zfd {prog:Program}{w:World}{A:Around}(hh:A.handled=none)(it t:Addr)(hne:t≠it)(its:Array Value):Draws prog w A it [it,t] its.size (fun i v=>its[i]?=some v) (fun i h=>h.IsTupleIter it t i∧h.IsTuple t its) where
 live:=fun _ _ st=>let ⟨o,ho,_⟩:=st.1;⟨o,ho⟩
 frame:=fun _ _ _ ⟨st1,st2⟩ hk=>⟨st1.at fun o e=>hk it (by simp) o e,let ⟨o,e,r⟩:=st2;⟨o,hk t (by simp) o e,r⟩⟩
 item:=fun i s Q E hi st hQ=>zcx st.1 st.2 (x:=its[i]) (by simp[hi]) fun h' hit' hs'=>hQ _ h' s.toks (by simp[hi]) ⟨hit',let ⟨o,e,r⟩:=st.2;⟨o,hs'.extBut _ _ hne e,r⟩⟩ hs'
 done:=fun s Q E st hE=>z70 hh st.1 st.2 (by simp) hE
noncomputable def SqB (b:Bool)(K:W.Frag)(H:Hp)(a:Addr)(xs:List V):Prop:=match b with
 | false=>SqL K H a xs
 | true=>SqT K H a xs
noncomputable def ItB (b:Bool)(h:Heap)(it a:Addr)(i:Nat):Prop:=match b with
 | false=>h.IsListIter it a i
 | true=>h.IsTupleIter it a i
noncomputable def AtB (b:Bool)(h:Heap)(a:Addr)(its:Array Value):Prop:=match b with
 | false=>h.IsList a its
 | true=>h.IsTuple a its
theorem zfe {prog:Program}{w:World}{A:Around}(b:Bool)(hh:A.handled=none)(it t:Addr)(hne:t≠it)(its:Array Value):Draws prog w A it [it,t] its.size (fun i v=>its[i]?=some v) (fun i h=>ItB b h it t i∧AtB b h t its):=by
 cases b
 ·exact Draws.list hh it t hne its
 ·exact zfd hh it t hne its
theorem ItB.obj {b:Bool}{h:Heap}{it a:Addr}{i:Nat}(x:ItB b h it a i):∃o,h.get? it=some o∧∀v,o.data≠.cell v:=by
 cases b
 ·obtain ⟨o,e,c,d⟩:=x
  exact ⟨o,e,fun v z=>by rw[d]at z;cases z⟩
 ·obtain ⟨o,e,c,d⟩:=x
  exact ⟨o,e,fun v z=>by rw[d]at z;cases z⟩
theorem ItB.at {b:Bool}{h h':Heap}{it a:Addr}{i:Nat}(x:ItB b h it a i)(k:∀o,h.get? it=some o→h'.get? it=some o):ItB b h' it a i:=by
 cases b
 ·obtain ⟨o,e,r⟩:=x;exact ⟨o,k o e,r⟩
 ·obtain ⟨o,e,r⟩:=x;exact ⟨o,k o e,r⟩
section
variable {X:Cx}{pins:List (Addr×Obj)}{σ:St}{H:Hp}{s:Shared}
theorem Inv.seqB (I:Inv X pins σ H s){b:Bool}{a:Addr}{xs:List V}(h:SqB b X.K H a xs):∃its,Vals xs its∧AtB b s.heap a its.toArray:=by
 cases b
 ·obtain ⟨its,r,p,_⟩:=I.list h
  exact ⟨its,r,p.isList⟩
 ·obtain ⟨its,r,p,_⟩:=I.tuple h
  exact ⟨its,r,p⟩
theorem Inv.seqB_inj (I:Inv X pins σ H s){b:Bool}{a:Addr}{xs ys:List V}(h:SqB b X.K H a xs)(h':SqB b X.K H a ys):xs=ys:=by
 cases b
 ·exact I.list_inj h h'
 ·exact I.tuple_inj h h'
theorem zec (I : Inv X pins σ H s){E : Value → Shared → Prop}{it : Addr}{fp fq wr : List Addr}{n i : Nat}{Pt : Nat → Array Value → Prop}{St' : Nat → Heap → Prop}{Mid : Nat → Addr → Heap → Prop}(W : WalksT X.prog X.w X.A it fq wr n Pt St' Mid)(wsub : ∀ c ∈ wr, c ∈ fp)
  (live:∀c∈fp,∃o,s.heap.get? c=some o)(hi:i<n)(st:St' i s.heap)(fk:∀b∈fp,zg5 X pins H b)(x y:V)(hv:∀vals,Pt i vals→∃ux uy,vals=#[ux,uy]∧RelV x ux∧RelV y uy){elts:List Expr}{kk:Nat}{pos:Pos} :
  wpAny (model X.prog X.w) X.A (pyNext (.ref it)) (fun r s1=>∃u,r=some u∧wpAny (model X.prog X.w) X.A (letOwnedTupleGo (.Tuple elts kk pos) (.ref it) u) (fun _ s2=>∃T,u=.ref T∧H T=none∧Inv X pins σ (upd H T (.tup [x,y])) s2∧St' (i+1) s2.heap∧∀b∈fp,upd H T (.tup [x,y]) b=none) E s1) E s:=by
 refine W.item i s _ E hi st fun T vals h' tk hPt hT hTup hMid hk=>⟨_,rfl,?_⟩
 refine W.go elts kk pos i T _ _ E hMid fun h'' hSt hk'=>?_
 obtain ⟨ux,uy,rfl,rx,ry⟩:=hv vals hPt
 have hTn:H T=none:=I.hok.fresh hT
 have kept:∀c o,c∉wr→s.heap.get? c=some o→h''.get? c=some o:=fun c o hn e=>hk' c o hn (hk c o hn e)
 have neT:∀c o,s.heap.get? c=some o→c≠T:=fun c o e q=>by subst q;exact absurd (Heap.lt_size e) (Nat.not_lt.mpr hT)
 have notw:∀c o,H c=some o→c∉wr:=fun c o e hm=>by
  have:=(fk c (wsub c hm)).1
  rw[this]at e;cases e
 have tupT:∃o,h''.get? T=some o∧o.cls=.type "tuple"∧∃n,o.data=.seq #[ux,uy] n:=by
  obtain ⟨o,ho,hc',n,hd⟩:=hTup
  exact ⟨o,hk' _ _ (W.apart i T _ hMid) ho,hc',n,hd⟩
 have I2:Inv X pins σ (upd H T (.tup [x,y])) {s with heap:=h'',gens:=s.gens,drawn:=s.drawn,toks:=tk}:=by
  refine I.step (ch:=wr) (fun c hm=>?_) (fun c o _ _ hn e _=>kept c o hn e) (fun c o _ _ hn e _=>⟨o.slots,kept c o hn e⟩) (fun c o hn e n=>?_) (fun c o hn e=>⟨o,kept c o hn e⟩) (fun c zs e=>?_) (fun c o u e=>?_) (fun c ps e=>⟨#[],?_⟩) (fun m hm=>?_) ?_ I.bare
  ·obtain ⟨f0,f1,f2,f3,f4,f5⟩:=fk c (wsub c hm)
   exact ⟨f3,f1,f4,f5⟩
  ·rw[z0f (neT c o e)];exact n
  ·rw[z0f (z0m e hTn)];exact e
  ·rw[z0f (z0m e hTn)];exact e
  ·rw[z0f (z0m e hTn)];simpa using e
  ·obtain ⟨o,es,ep,ho,r⟩:=hm
   exact ⟨o,es,ep,kept _ o (fun hm=>(fk _ (wsub _ hm)).2.1 rfl) ho,r⟩
  ·intro c o e
   by_cases hcT:c=T
   ·subst hcT
    rw[z06]at e
    cases e
    obtain ⟨o,ho,hc',n,hd⟩:=tupT
    exact ⟨by show 2≤sizeLine;decide,[ux,uy],.cons rx (.cons ry .nil),o,ho,hc',n,hd⟩
   ·rw[z0f hcT]at e
    refine (I.hok c o e).stay (fun c' v hc' q=>kept c' v ?_ q) (fun d q=>?_) fun d u q=>?_
    ·rcases hc' with q'|q'
     ·rw[q'];exact notw c o e
     ·exact notw c' _ q'
    ·rw[z0f (z0m q hTn)];exact q
    ·rw[z0f (z0m q hTn)];exact q
 refine ⟨T,rfl,hTn,I2,hSt,fun c hm=>?_⟩
 obtain ⟨o,e⟩:=live c hm
 rw[z0f (neT c o e)]
 exact (fk c hm).1
theorem zed (I : Inv X pins σ H s){E : Value → Shared → Prop}{it : Addr}{fp fq wr : List Addr}{n : Nat}{Pt : Nat → Array Value → Prop}{St' : Nat → Heap → Prop}{Mid : Nat → Addr → Heap → Prop}(W : WalksT X.prog X.w X.A it fq wr n Pt St' Mid)(wsub : ∀ c ∈ wr, c ∈ fp)
  (st:St' n s.heap)(fk:∀b∈fp,zg5 X pins H b):wpAny (model X.prog X.w) X.A (pyNext (.ref it)) (fun r s1=>r=none∧Inv X pins σ H s1) E s:=by
 refine W.done s _ E st fun h' tk hk=>⟨rfl,?_⟩
 have notw:∀c o,H c=some o→c∉wr:=fun c o e hm=>by
  have:=(fk c (wsub c hm)).1
  rw[this]at e;cases e
 refine I.step (g':=s.gens) (d':=s.drawn) (ch:=wr) (fun c hm=>?_) (fun c o _ _ hn e _=>hk c o hn e) (fun c o _ _ hn e _=>⟨o.slots,hk c o hn e⟩) (fun c o hn e n=>n) (fun c o hn e=>⟨o,hk c o hn e⟩) (fun c zs e=>e) (fun c o u e=>e) (fun c ps e=>⟨#[],by simpa using e⟩) (fun m hm=>?_) ?_ I.bare
 ·obtain ⟨f0,f1,f2,f3,f4,f5⟩:=fk c (wsub c hm)
  exact ⟨f3,f1,f4,f5⟩
 ·obtain ⟨o,es,ep,ho,r⟩:=hm
  exact ⟨o,es,ep,hk _ o (fun hm=>(fk _ (wsub _ hm)).2.1 rfl) ho,r⟩
 ·intro c o e
  refine (I.hok c o e).stay (fun c' v hc' q=>hk c' v ?_ q) (fun d q=>q) fun d u q=>q
  rcases hc' with q'|q'
  ·rw[q'];exact notw c o e
  ·exact notw c' _ q'
end
noncomputable def Ite (b : Bool)(K : W.Frag)(a : Addr) : It :=
  ⟨fun i H=>∃xs x,SqB b K H a xs∧xs[i]?=some x,
   fun i H v H'=>∃T x,v=.ref T∧H T=none∧H'=upd H T (.tup [.int (i:Int),x])∧∀xs,SqB b K H a xs→xs[i]?=some x,
   fun i H=>∃xs,SqB b K H a xs∧i=xs.length⟩
theorem zdd {P : Program}{w : World}{K : W.Frag}{elts : List Expr}{kk : Nat}{pos : Pos}{b : Bool}{e it a : Addr}(hei : e ≠ it)(hea : e ≠ a)(hai : a ≠ it) :
  Turn P w K (.Tuple elts kk pos) (Ite b K a) [e,it] e (fun i h=>(∃old,IsEnum h e it i old)∧ItB b h it a i) where
 mem:=List.mem_cons_self ..
 obj:=by
  rintro i h ⟨⟨old,h1⟩,h2⟩ c hc
  simp only[List.mem_cons,List.not_mem_nil,or_false]at hc
  rcases hc with rfl|rfl
  ·exact ⟨_,h1,fun v z=>by cases z⟩
  ·exact h2.obj
 keep:=by
  rintro i h h' ⟨⟨old,h1⟩,h2⟩ hk
  exact ⟨⟨old,hk _ (by simp) _ h1⟩,h2.at fun o z=>hk _ (by simp) o z⟩
 item:=by
  intro X hP hw hK hc i pins s σ H E I fp tn go
  subst hP hw hK
  obtain ⟨xs,x,sa,ex⟩:=go
  obtain ⟨us,ru,pu⟩:=I.seqB sa
  obtain ⟨⟨old,h1⟩,h2⟩:=tn
  have hh:=I.ok.hd hc
  have D:=zfe (prog:=X.prog) (w:=X.w) (A:=X.A.in1) b (show X.A.in1.handled=none from hh) it a hai us.toArray
  have W:=WalksT.enumerateD (A:=X.A) D e hei (by simp[hei,hea]) (by simp)
  obtain ⟨ux,e1,rx⟩:=ru.get ex
  have hi:i<us.toArray.size:=by
   have l1:=(List.getElem?_eq_some_iff.mp e1).1
   simpa using l1
  have key := zec (E := E) (fp := [e, it]) I W (fun c hc => by simpa using hc) (fun c hc => by
    simp only[List.mem_cons,List.not_mem_nil,or_false]at hc
    rcases hc with rfl|rfl
    ·exact ⟨_,h1⟩
    ·obtain ⟨o,z,_⟩:=h2.obj;exact ⟨o,z⟩) hi ⟨⟨old,h1⟩,h2,pu⟩ fp (.int (i:Int)) x (fun vals hp=>by
    obtain ⟨t,u,q,rfl⟩:=hp
    refine ⟨_,_,rfl,⟨t,rfl⟩,?_⟩
    have:us[i]?=some u:=by simpa using q
    rw[e1]at this;cases this;exact rx) (elts:=elts) (kk:=kk) (pos:=pos)
  refine thn key fun r s1 ⟨u,hr,h⟩=>⟨u,hr,thn h fun _ s2 ⟨T,hu,hT,I2,st,fr⟩=>?_⟩
  subst hu
  exact ⟨.ref T,_,I2,rfl,⟨T,x,rfl,hT,rfl,fun ys hy=>by rw[I.seqB_inj hy sa];exact ex⟩,⟨st.1,st.2.1⟩,fr⟩
 done:=by
  intro X hP hw hK hc i pins s σ H E I fp tn stop
  subst hP hw hK
  obtain ⟨xs,sa,hi⟩:=stop
  obtain ⟨us,ru,pu⟩:=I.seqB sa
  have hh:=I.ok.hd hc
  have D:=zfe (prog:=X.prog) (w:=X.w) (A:=X.A.in1) b (show X.A.in1.handled=none from hh) it a hai us.toArray
  have W:=WalksT.enumerateD (A:=X.A) D e hei (by simp[hei,hea]) (by simp)
  have e1:=ru.length
  have hn:i=us.toArray.size:=by simp only[List.size_toArray];omega
  subst hn
  exact zed (E:=E) (fp:=[e,it]) I W (fun c hc=>by simpa using hc) ⟨tn.1,tn.2,pu⟩ fp
 self:=fun A i s Q E tn h=>let ⟨old,z⟩:=tn.1;wpAny_pyIter_enum z h
theorem z71 (l : Addr)(items : Array Value) :
  Meets (Builtin.«enumerate.__new__» ⟨[.type "enumerate",.ref l],[]⟩) (fun _ R s=>s.heap.IsTuple l items∧
   R (.ok (.ret (.ref (s.heap.push {cls:=.type "tuple_iterator",data:=.fields #[.ref l,.int 0 0]}).objs.size)))
    {s with heap:=(s.heap.push {cls:=.type "tuple_iterator",data:=.fields #[.ref l,.int 0 0]}).push {cls:=.type "enumerate",data:=.fields #[.none,.bool false,.ref s.heap.objs.size,rawInt 0,.none,.none]}}):=
 .of_wp fun prog w A R s h=>by
  obtain ⟨hp,g,d,tk,os⟩:=s;obtain ⟨hL',h⟩:=h;have hsub:=sub_enumerate
  have hL:Heap.IsTuple (Shared.heap ⟨hp,g,d,tk,os⟩) l items:=hL'
  obtain ⟨o,hl,hcl,n,hdt⟩:=hL'
  wp_walk using wpAny_loadPart' hl
  refine wpAny_stack_any fun st=>wpAny_pure ?_
  split
  ·rename_i c _ _ _ _ _
   cases (c == Value.type "enumerate")<;>(wp_walk using wpAny_loadPart' hl,wpAny_pyIter_tuple hL;exact ⟨_,rfl,h⟩)
  ·wp_walk using wpAny_loadPart' hl,wpAny_pyIter_tuple hL
   exact ⟨_,rfl,h⟩
theorem z72 (l : Addr)(items : Array Value) :
  Meets (Builtin.«enumerate.__new__» ⟨[.type "enumerate",.ref l],[]⟩) (fun _ R s=>s.heap.IsList l items∧
   R (.ok (.ret (.ref (s.heap.push {cls:=.type "list_iterator",data:=.fields #[.ref l,.int 0 0]}).objs.size)))
    {s with heap:=(s.heap.push {cls:=.type "list_iterator",data:=.fields #[.ref l,.int 0 0]}).push {cls:=.type "enumerate",data:=.fields #[.none,.bool false,.ref s.heap.objs.size,rawInt 0,.none,.none]}}):=
 .of_wp fun prog w A R s h=>by
  obtain ⟨hp,g,d,tk,os⟩:=s;obtain ⟨hL',h⟩:=h;have hsub:=sub_enumerate
  have hL:Heap.IsList (Shared.heap ⟨hp,g,d,tk,os⟩) l items:=hL'
  obtain ⟨o,hl,hcl,n,hdt⟩:=hL'
  wp_walk using wpAny_loadPart' hl
  refine wpAny_stack_any fun st=>wpAny_pure ?_
  split
  ·rename_i c _ _ _ _ _
   cases (c == Value.type "enumerate")<;>(wp_walk using wpAny_loadPart' hl,wpAny_pyIter_list hL;exact ⟨_,rfl,h⟩)
  ·wp_walk using wpAny_loadPart' hl,wpAny_pyIter_list hL
   exact ⟨_,rfl,h⟩
section
variable {prog:Program}{w:World}{A:Around}{E:Value→Shared→Prop}{s:Shared}
theorem z8h {l : Addr}{items : Array Value}{Q : Value → Shared → Prop}(hl : s.heap.IsTuple l items)
  (h:∀h',IsEnum h' (s.heap.objs.size+1) s.heap.objs.size 0 .none→h'.IsTupleIter s.heap.objs.size l 0→h'.objs.size=s.heap.objs.size+2→(∀b o,s.heap.get? b=some o→h'.get? b=some o)→Q (.ref (s.heap.objs.size+1)) {s with heap:=h'}) :
  wpAny (model prog w) A (call (.type "enumerate") [.ref l]) Q E s:=by
 refine callType_new F.called_enumerate (by decide) (F.typeCall_enumerate_1 _) (F.newCall_enumerate_1 _) (fun obj=>F.args_object_init_2 obj _) F.entry_enumerate_new (z71 l items) ⟨hl,?_⟩
 have hz:(s.heap.push {cls:=.type "tuple_iterator",data:=.fields #[.ref l,.int 0 0]}).objs.size=s.heap.objs.size+1:=Heap.size_push ..
 show _∧_;rw[hz]
 have he:IsEnum ((s.heap.push {cls:=.type "tuple_iterator",data:=.fields #[.ref l,.int 0 0]}).push {cls:=.type "enumerate",data:=.fields #[.none,.bool false,.ref s.heap.objs.size,rawInt 0,.none,.none]}) (s.heap.objs.size+1) s.heap.objs.size 0 .none:=by
  have:=Heap.get?_push_size (s.heap.push {cls:=.type "tuple_iterator",data:=.fields #[.ref l,.int 0 0]}) (o:={cls:=.type "enumerate",data:=.fields #[.none,.bool false,.ref s.heap.objs.size,rawInt 0,.none,.none]}) rfl
  rw[hz]at this;exact this
 refine ⟨⟨_,he,rfl⟩,h _ he ⟨_,Heap.get?_push_of_some _ (Heap.get?_push_size _ rfl),rfl,rfl⟩ (by rw[Heap.size_push,hz]) fun b o x=>Heap.get?_push_of_some _ (Heap.get?_push_of_some _ x)⟩
end
section
variable {prog:Program}{w:World}{A:Around}{E:Value→Shared→Prop}{s:Shared}
theorem z8i {l : Addr}{items : Array Value}{Q : Value → Shared → Prop}(hl : s.heap.IsList l items)
  (h:∀h',IsEnum h' (s.heap.objs.size+1) s.heap.objs.size 0 .none→h'.IsListIter s.heap.objs.size l 0→h'.objs.size=s.heap.objs.size+2→(∀b o,s.heap.get? b=some o→h'.get? b=some o)→Q (.ref (s.heap.objs.size+1)) {s with heap:=h'}) :
  wpAny (model prog w) A (call (.type "enumerate") [.ref l]) Q E s:=by
 refine callType_new F.called_enumerate (by decide) (F.typeCall_enumerate_1 _) (F.newCall_enumerate_1 _) (fun obj=>F.args_object_init_2 obj _) F.entry_enumerate_new (z72 l items) ⟨hl,?_⟩
 have hz:(s.heap.push {cls:=.type "list_iterator",data:=.fields #[.ref l,.int 0 0]}).objs.size=s.heap.objs.size+1:=Heap.size_push ..
 show _∧_;rw[hz]
 have he:IsEnum ((s.heap.push {cls:=.type "list_iterator",data:=.fields #[.ref l,.int 0 0]}).push {cls:=.type "enumerate",data:=.fields #[.none,.bool false,.ref s.heap.objs.size,rawInt 0,.none,.none]}) (s.heap.objs.size+1) s.heap.objs.size 0 .none:=by
  have:=Heap.get?_push_size (s.heap.push {cls:=.type "list_iterator",data:=.fields #[.ref l,.int 0 0]}) (o:={cls:=.type "enumerate",data:=.fields #[.none,.bool false,.ref s.heap.objs.size,rawInt 0,.none,.none]}) rfl
  rw[hz]at this;exact this
 refine ⟨⟨_,he,rfl⟩,h _ he ⟨_,Heap.get?_push_of_some _ (Heap.get?_push_size _ rfl),rfl,rfl⟩ (by rw[Heap.size_push,hz]) fun b o x=>Heap.get?_push_of_some _ (Heap.get?_push_of_some _ x)⟩
end
theorem z9r:bootBuiltins "enumerate"=some (.type "enumerate"):=by decide +kernel
noncomputable def zph (b:Bool)(K:W.Frag)(ta:TA):TI:=fun σ H R=>ta σ H fun vs H1=>∃a xs,vs=[.ref a]∧SqB b K H1 a xs∧R (Ite b K a) H1
section
variable {X:Cx}
theorem zky (b : Bool){elts : List Expr}{kk : Nat}{tpos : Pos}{e1 : Expr}{ta : TA}{p pos : Pos}(hg : Gl X "enumerate")(hm : X.mg "enumerate" = none)(ha : PA X [e1] ta)(he : starEach [e1] X.env = (false, eval e1 X.env) :: starEach [] X.env := by rfl)(hpl : (backTo pos (starEach [] X.env)).any (·.1) = false := by rfl) :
  PI X (.Tuple elts kk tpos) (.Call (.Name "enumerate" p) [e1] [] pos) (zph b X.K ta):=by
 intro pins s σ H R I h
 refine wpAny_Call_Name_kw (z44 I hg hm z9r ?_ (by decide) (by decide))
 refine PyProof.Rows.callWith_type1 (thn (ha pos pins s σ H _ I h) fun us s1 ⟨vs,H1,I1,r1,q1⟩=>?_) he hpl
 obtain ⟨a,xs,rfl,sa,q⟩:=q1
 obtain ⟨u,rfl,ru⟩:=z6x r1
 cases ru
 have fin : ∀ h', IsEnum h' (s1.heap.objs.size+1) s1.heap.objs.size 0 .none → ItB b h' s1.heap.objs.size a 0 → (∀ c o, s1.heap.get? c = some o → h'.get? c = some o) → a<s1.heap.objs.size →
   wpAny (model X.prog X.w) X.A (pyIter (.ref (s1.heap.objs.size+1))) (PIE X pins σ (.Tuple elts kk tpos) R) X.xe {s1 with heap:=h'}:=by
  intro h' he' hi' hk la
  refine wpAny_pyIter_enum he' ?_
  refine ⟨_,[s1.heap.objs.size+1,s1.heap.objs.size],_,Ite b X.K a,H1,rfl,I1.kept hk,zdd (Nat.succ_ne_self _) (Nat.ne_of_gt (Nat.lt_succ_of_lt la)) (Nat.ne_of_lt la),⟨⟨_,he'⟩,hi'⟩,fun c hc=>?_,q⟩
  have hle:s1.heap.objs.size≤c:=by
   simp only[List.mem_cons,List.not_mem_nil,or_false]at hc
   rcases hc with rfl|rfl
   ·exact Nat.le_succ _
   ·exact Nat.le_refl _
  exact I1.fpOk hle (I1.hok.fresh hle)
 cases b
 ·obtain ⟨its,rv,p,_⟩:=I1.list sa
  obtain ⟨o,n,e,_⟩:=id p
  exact z8i p.isList fun h' he' hi' _ hk=>fin h' he' hi' hk (Heap.lt_size e)
 ·obtain ⟨its,rv,p,_⟩:=I1.tuple sa
  obtain ⟨o,e,_⟩:=id p
  exact z8h (show s1.heap.IsTuple a its.toArray from p) fun h' he' hi' _ hk=>fin h' he' hi' hk (Heap.lt_size e)
end
theorem z4m (b : Bool){X : Cx}{elts : List Expr}{kk : Nat}{tpos : Pos}{e1 : Expr}{ta : TA}{p pos : Pos}(hg : Gl X "enumerate")(hm : X.mg "enumerate" = none)(ha : QA X [e1] ta)(he : starEach [e1] X.env = (false, eval e1 X.env) :: starEach [] X.env := by rfl)(hpl : (backTo pos (starEach [] X.env)).any (·.1) = false := by rfl) :
  QI X (.Tuple elts kk tpos) (.Call (.Name "enumerate" p) [e1] [] pos) (zph b X.K ta):=⟨zky b hg hm ha.o he hpl⟩
theorem g2 {K:W.Frag}{i j:Nat}{T:Addr}{x y:V}{σ:St}{H:Hp}{Q:St→Hp→Prop}(h:Q ((σ.set i (some x)).set j (some y)) (upd H T (.tup [x,y]))):zpi K 2 (zf5 (z54 i) (zf5 (z54 j) zqa)) (.ref T) σ (upd H T (.tup [x,y])) Q:=
 ⟨T,[x,y],rfl,SqT.of z06,rfl,x,[y],rfl,y,[],rfl,rfl,h⟩
theorem z4s {b : Bool}{K : W.Frag}{a : Addr}{xs : List V}{g : TG}{tb : TS}{D : Ends}{σ : St}{H : Hp}(Pv : Nat → St → Hp → Prop)(h0 : Pv 0 σ H)(hl : ∀ i σ H, i ≤ xs.length → Pv i σ H → SqB b K H a xs)
  (hs:∀i x T σ H,xs[i]?=some x→H T=none→Pv i σ H→g (.ref T) σ (upd H T (.tup [.int (i:Int),x])) fun σ2 H2=>tb {D with nx:=Pv (i+1),ct:=Pv (i+1),bk:=D.nx} σ2 H2)(hd:∀σ H,Pv xs.length σ H→D.nx σ H) :
  ∃W:Nat→Nat→St→Hp→Prop,(∃m,W 0 m σ H)∧∀i m σ H,W i m σ H→
   ((Ite b K a).stop i H∧D.nx σ H)∨((Ite b K a).go i H∧∃N:St→Hp→Prop,(∀σ' H',N σ' H'→∃m',m'<m∧W (i+1) m' σ' H')∧∀x H',(Ite b K a).yld i H x H'→g x σ H' fun σ2 H2=>tb {D with nx:=N,ct:=N,bk:=D.nx} σ2 H2):=by
 refine ⟨fun i m σ H=>m=xs.length-i∧i≤xs.length∧Pv i σ H,⟨xs.length,by simp,Nat.zero_le _,h0⟩,?_⟩
 rintro i m σ H ⟨rfl,hi,p⟩
 have q1:=hl i σ H hi p
 by_cases hlt:i<xs.length
 ·refine .inr ⟨⟨xs,xs[i],q1,by simp[hlt]⟩,Pv (i+1),fun σ' H' p'=>⟨xs.length-(i+1),by omega,rfl,hlt,p'⟩,fun v H' y=>?_⟩
  obtain ⟨T,x,rfl,hT,rfl,y1⟩:=y
  exact hs i x T σ _ (y1 xs q1) hT p
 ·have e:i=xs.length:=by omega
  subst e
  exact .inl ⟨⟨xs,q1,rfl⟩,hd σ H p⟩
section
variable {prog:Program}{w:World}{A:Around}{E:Value→Shared→Prop}{s:Shared}
theorem AtB.at {b:Bool}{h h':Heap}{a:Addr}{its:Array Value}(x:AtB b h a its)(k:∀o,h.get? a=some o→h'.get? a=some o):AtB b h' a its:=by
 cases b
 ·obtain ⟨o,e,r⟩:=x;exact ⟨o,k o e,r⟩
 ·obtain ⟨o,e,r⟩:=x;exact ⟨o,k o e,r⟩
end
end L2
set_option Elab.async false
set_option linter.all false
set_option maxRecDepth 100000
namespace HT
open PySem PySem.Spec PyProof.Rows
section
variable {prog:Program}{w:World}{A:Around}{E:Value→Shared→Prop}{s:Shared}
theorem getItem_tuple_whole {t sl : Addr}{items : Array Value}{vl vu : Value}{lo hi : Option Int}{Q : Value → Shared → Prop}(ht : IsTup s.heap t items)(hs : s.heap.IsSliceOf sl vl vu .none)(pl : IsPart vl lo)(pu : IsPart vu hi)
  (hw:sIx items.size 0 lo=0∧sIx items.size items.size hi=items.size)(h:Q (.ref t) s):wpAny (model prog w) A (getItem (.ref t) (.ref sl)) Q E s:=by
 obtain ⟨os,hos,hcs,hds⟩:=id hs
 have hTs:s.TypeIs (.ref sl) "slice":=⟨os,hos,hcs⟩
 unfold getItem;try with_reducible refine wpAny_holding ?_
 first|refine wpAny_bind (wpAny_pure ?_)|skip
 refine wpAny_bind (wpAny_sequenceKey ht.typeIs (by decide) ?_);refine wpAny_bind (wpAny_callSpecial?_slot (name:=Str.ofString "__getitem__") ht.typeIs PyProof.Rows.slot_tuple_getitem (wpAny_call_entry PyProof.Rows.slot_tuple_getitem ht.typeIs entry_tuple_getitem ?_ (args_tuple_getitem _ _)))
 show wpAny _ _ (Builtin.Tuple.tupleItemsOf (.ref t) >>= _) _ _ s;refine wpAny_bind (tupleItemsOf_ ht ?_)
 refine wpAny_bind (wpAny_typeOf hTs ?_);rw[if_pos (by decide)]
 refine wpAny_bind (z3h hs pl pu ?_)
 have hyes:(((sIx items.size 0 lo:Nat):Int) == 0&&(1:Int) == 1&&(sIx items.size items.size hi-sIx items.size 0 lo) == items.size)=true:=by rw[hw.1,hw.2];simp
 show wpAny _ _ (if (((sIx items.size 0 lo:Nat):Int) == 0&&(1:Int) == 1&&(sIx items.size items.size hi-sIx items.size 0 lo) == items.size)=true then _ else _) _ _ s
 rw[if_pos hyes]
 unfold Builtin.Tuple.tupleIsExact
 refine wpAny_bind (wpAny_bind (wpAny_typeOf ht.typeIs (wpAny_pure ?_)))
 rw[if_pos (by decide)]
 refine wpAny_bind (wpAny_rule ?_)
 exact wpAny_pure ⟨_,rfl,wpAny_pure h⟩
theorem noFill_tup_mul:fillsNumberSlot (.type "tuple") "mul"=pure false:=PySem.fillsNumberSlot_seq (id:="tuple.__mul__") (r:=some (.builtin "tuple.__rmul__")) F.slot_tuple_mul.lookup (by decide +kernel) F.slot_tuple_rmul.lookup (by decide +kernel)
theorem repeat_tup:seqRepeat? (.type "tuple")=pure (some (.builtin "tuple.__mul__")):=by
 unfold seqRepeat?;rw[PySem.seqSlot_of (T:="tuple") (name:="__mul__") (id:="tuple.__mul__") F.slot_tuple_mul.lookup (by decide +kernel),PySem.seqSlot_of (T:="tuple") (name:="__rmul__") (id:="tuple.__rmul__") F.slot_tuple_rmul.lookup (by decide +kernel)];rfl
theorem int_rmul_tup (a : Int)(t : Tok)(l : Addr)(items : Array Value)(n : Nat)(dd : Option Addr)(sl : Array (Option Value)) :
  Meets (Builtin.«int.__rmul__» ⟨[.int a t,.ref l],[]⟩) (fun _ R s=>s.heap.get? l=some {cls:=.type "tuple",dict:=dd,data:=.seq items n,slots:=sl}∧R (.ok (.ret Value.notImplemented)) s):=
 .of_wp fun prog w A R s h=>by obtain ⟨hp,g,d,tk,os⟩:=s;obtain ⟨hl,h⟩:=h;wp_walk;exact ⟨_,rfl,h⟩
theorem tup_mul1 (l : Addr)(items : Array Value)(n : Nat)(dd : Option Addr)(sl : Array (Option Value))(k : Int)(u : Tok)(h1 : (decide (k < -(2^63)) || decide (k≥2^63)) = false)(hk : (items.isEmpty || k == 1) = true) :
  Meets (Builtin.«tuple.__mul__» ⟨[.ref l,.int k u],[]⟩) (fun _ R s=>s.heap.get? l=some {cls:=.type "tuple",dict:=dd,data:=.seq items n,slots:=sl}∧R (.ok (.ret (.ref l))) s):=
 .of_wp fun prog w A R s h=>by obtain ⟨hp,g,d,tk,os⟩:=s;obtain ⟨hl,h⟩:=h;have f1:=AutoSeq1.idx_int;have f2:=AutoSeq1.sub_tuple_tuple;wp_walk using wpAny_loadPart' hl;refine wpAny_ite_false (decide_eq_false (by rw[h1];exact Bool.false_ne_true)) ?_;wp_walk using wpAny_loadPart' hl;exact ⟨_,rfl,h⟩
theorem tup_mul0 (l : Addr)(items : Array Value)(n : Nat)(dd : Option Addr)(sl : Array (Option Value))(k : Int)(u : Tok)(h1 : (decide (k < -(2^63)) || decide (k≥2^63)) = false)(hk : (items.isEmpty || k == 1) = false)(hk0 : (decide (k ≤ 0) || items.isEmpty) = true) :
  Meets (Builtin.«tuple.__mul__» ⟨[.ref l,.int k u],[]⟩) (fun _ R s=>s.heap.get? l=some {cls:=.type "tuple",dict:=dd,data:=.seq items n,slots:=sl}∧R (.ok (.ret (.ref s.heap.objs.size))) {s with heap:=s.heap.push {cls:=.type "tuple",data:=.seq #[]}}):=
 .of_wp fun prog w A R s h=>by obtain ⟨hp,g,d,tk,os⟩:=s;obtain ⟨hl,h⟩:=h;have f1:=AutoSeq1.idx_int;have f2:=AutoSeq1.sub_tuple_tuple;wp_walk using wpAny_loadPart' hl;refine wpAny_ite_false (decide_eq_false (by rw[h1];exact Bool.false_ne_true)) ?_;wp_walk using wpAny_loadPart' hl;exact ⟨_,rfl,h⟩
theorem tup_mul2 (l : Addr)(items : Array Value)(n : Nat)(dd : Option Addr)(sl : Array (Option Value))(k : Int)(u : Tok)(h1 : (decide (k < -(2^63)) || decide (k≥2^63)) = false)(hk : (items.isEmpty || k == 1) = false)(hk0 : (decide (k ≤ 0) || items.isEmpty) = false)(hk1 : ¬ ((items.size : Int)*k>(2^63-1)/8))(hk2 : Builtin.Tuple.tupleTooMany ((items.size : Int)*k) = false)
  (hz:(List.foldl (fun x1 x2=>x1++x2) #[] (List.replicate k.toNat items)).size≤sizeLine) :
  Meets (Builtin.«tuple.__mul__» ⟨[.ref l,.int k u],[]⟩) (fun _ R s=>s.heap.get? l=some {cls:=.type "tuple",dict:=dd,data:=.seq items n,slots:=sl}∧R (.ok (.ret (.ref s.heap.objs.size))) {s with heap:=s.heap.push {cls:=.type "tuple",data:=.seq (List.foldl (fun x1 x2=>x1++x2) #[] (List.replicate k.toNat items))}}):=
 .of_wp fun prog w A R s h=>by obtain ⟨hp,g,d,tk,os⟩:=s;obtain ⟨hl,h⟩:=h;have f1:=AutoSeq1.idx_int;have f2:=AutoSeq1.sub_tuple_tuple;wp_walk using wpAny_loadPart' hl;refine wpAny_ite_false (decide_eq_false (by rw[h1];exact Bool.false_ne_true)) ?_;wp_walk using wpAny_loadPart' hl;refine wpAny_ite_false (decide_eq_false hk1) ?_;wp_walk using wpAny_loadPart' hl;exact ⟨_,rfl,h⟩
end
end HT
namespace L2
open PySem PySem.Spec PyProof.Rows
section
variable {X:Cx}
noncomputable def zr8 (K:W.Frag):V→Option Int→Option Int→Hp→VK→Prop:=fun x lo hi H Q=>∃a xs,x=.ref a∧SqT K H a xs∧∀p H',Same H H'→SqT K H' p (z8f xs lo hi)→Q (.ref p) H'
theorem zd4 {xs:List V}{lo hi:Option Int}(h:HT.sIx xs.length 0 lo=0∧HT.sIx xs.length xs.length hi=xs.length):z8f xs lo hi=xs:=by
 unfold z8f;rw[h.1,h.2];simp
theorem zk2:SlR X (zr8 X.K):=by
 intro pins s σ H x v vl vu lo hi sl Q I rx hs pl pu h
 obtain ⟨a,xs,rfl,hx,q⟩:=h
 by_cases hw:HT.sIx xs.length 0 lo=0∧HT.sIx xs.length xs.length hi=xs.length
 ·cases rx
  obtain ⟨its,r,ht,hz⟩:=I.tuple hx
  have hlen:its.toArray.size=xs.length:=by rw[List.size_toArray];exact r.length.symm
  refine ⟨"tuple",_,PyProof.Rows.slot_tuple_getitem.lookup,ht.typeIs,?_⟩
  refine HT.getItem_tuple_whole ht hs pl pu (by rw[hlen];exact hw) ?_
  exact ⟨.ref a,H,I,rfl,q a H (Same.refl _) (by rw[zd4 hw];exact hx)⟩
 ·exact zn6 pins s σ H _ v vl vu lo hi sl Q I rx hs pl pu ⟨a,xs,rfl,hx,hw,fun p hp=>q p _ (z0a hp _) (SqT.of z06)⟩
noncomputable def zgn (K:W.Frag):R2:=fun x y H Q=>∃a b xs ys,x=.ref a∧y=.ref b∧SqT K H a xs∧SqT K H b ys∧xs.length+ys.length≤sizeLine∧∀p H',Same H H'→SqT K H' p (xs++ys)→Q (.ref p) H'
theorem zej:OpR X (binaryOp .Add) (zgn X.K):=by
 intro pins s σ H x y v u Q I rx ry h
 obtain ⟨a,b,xs,ys,rfl,rfl,ha,hb,hz,q⟩:=h
 by_cases hx:xs=[]
 ·cases rx
  cases ry
  obtain ⟨its,r1,p1,_⟩:=I.tuple ha
  obtain ⟨its2,r2,p2,_⟩:=I.tuple hb
  obtain ⟨⟨cls,dd,data,sl⟩,ho,hc,n,hd⟩:=id p1
  obtain ⟨⟨cls2,dd2,data2,sl2⟩,ho2,hc2,n2,hd2⟩:=id p2
  simp only at hc hd hc2 hd2
  subst hc hd hc2 hd2
  have e0:its.toArray.isEmpty=true:=by rw[r1.nil_iff.mpr hx];rfl
  exact concat_meets ⟨_,ho,rfl⟩ ⟨_,ho2,rfl⟩ noFill_tuple_add seq_tuple_add PySem.F.slot_tuple_add PySem.F.entry_tuple_add (PySem.F.args_tuple_add_2 _ _) (tuple_addW0 a b its.toArray its2.toArray n n2 dd dd2 sl sl2 e0) ⟨ho,ho2,⟨.ref b,H,I,rfl,q b H (Same.refl _) (by rw[hx,List.nil_append];exact hb)⟩⟩
 ·exact zlc pins s σ H _ _ v u Q I rx ry ⟨a,b,xs,ys,rfl,rfl,ha,hb,hx,hz,fun e=>q a H (Same.refl _) (by rw[e,List.append_nil];exact ha),fun _ p hp=>q p _ (z0a hp _) (SqT.of z06)⟩
noncomputable def zkf (K:W.Frag):R2:=fun x y H Q=>∃a k xs,x=.ref a∧y=.int k∧SqT K H a xs∧-(2^62)≤k∧k<2^62∧xs.length*k.toNat≤100000∧∀p H',Same H H'→SqT K H' p (List.replicate k.toNat xs).flatten→Q (.ref p) H'
theorem zef:OpR X (binaryOp .Mult) (zkf X.K):=by
 intro pins s σ H x y v u Q I rx ry h
 obtain ⟨a,k,xs,rfl,rfl,ha,k1,k2,hz,q⟩:=h
 cases rx
 obtain ⟨t,rfl⟩:=ry
 obtain ⟨its,r1,p1,_⟩:=I.tuple ha
 obtain ⟨⟨cls,dd,data,sl⟩,ho,hc,n,hd⟩:=id p1
 simp only at hc hd
 subst hc hd
 have hl:=r1.length
 have b1:(decide (k < -(2^63)) || decide (k≥2^63))=false:=by
  rw[Bool.or_eq_false_iff];exact ⟨decide_eq_false (by omega),decide_eq_false (by omega)⟩
 refine wpAny_binaryOp_repeat_ref (T:="tuple") (U:="int") (by decide) ⟨_,ho,rfl⟩ (fun s'=>typeIs_int s' k t) HT.noFill_tup_mul F.fills_int_mul F.slot_int_rmul HT.repeat_tup F.slot_int_index.lookup
  (call_meets F.slot_int_rmul (typeIs_int s k t) F.entry_int_rmul (F.args_int_rmul_2 _ _) (HT.int_rmul_tup k t a its.toArray n dd sl) ⟨ho,rfl,⟨_,ho,rfl⟩,?_⟩)
 by_cases c1:(its.toArray.isEmpty || k == 1)=true
 ·refine call_meets F.slot_tuple_mul ⟨_,ho,rfl⟩ F.entry_tuple_mul (F.args_tuple_mul_2 _ _) (HT.tup_mul1 a its.toArray n dd sl k t b1 c1) ⟨ho,?_⟩
  refine ⟨.ref a,H,I,rfl,q a H (Same.refl _) ?_⟩
  rw[Bool.or_eq_true]at c1
  rcases c1 with c|c
  ·have e:its=[]:=by simpa using c
   have ex:xs=[]:=r1.nil_iff.mp e
   rw[ex]at ha ⊢
   have:(List.replicate k.toNat ([]:List V)).flatten=[]:=by simp
   rw[this];exact ha
  ·have e:k=1:=by simpa using c
   rw[e];simpa using ha
 ·have c1':(its.toArray.isEmpty || k == 1)=false:=by simpa using c1
  by_cases c2:(decide (k≤0) || its.toArray.isEmpty)=true
  ·refine call_meets F.slot_tuple_mul ⟨_,ho,rfl⟩ F.entry_tuple_mul (F.args_tuple_mul_2 _ _) (HT.tup_mul0 a its.toArray n dd sl k t b1 c1' c2) ⟨ho,?_⟩
   have hk0:k≤0:=by
    rw[Bool.or_eq_true]at c2
    rcases c2 with c|c
    ·exact of_decide_eq_true c
    ·rw[c]at c1';simp at c1'
   have e:(List.replicate k.toNat xs).flatten=[]:=by rw[show k.toNat=0 by omega];rfl
   rw[e]at q
   exact ⟨.ref s.heap.objs.size,_,I.laid (t':=s.toks) (o:=.tup []) (fun b ob q=>Heap.get?_push_of_some _ q) (Nat.le_refl _) ⟨Nat.zero_le _,[],.nil,IsTup.new _ _⟩,rfl,q _ _ (z0a (I.hok.fresh (Nat.le_refl _)) _) (SqT.of z06)⟩
  ·have c2':(decide (k≤0) || its.toArray.isEmpty)=false:=by simpa using c2
   have hk0:0<k:=by
    rw[Bool.or_eq_false_iff]at c2'
    have:=of_decide_eq_false c2'.1;omega
   have en:(its.toArray.size:Int)*k=((xs.length*k.toNat:Nat):Int):=by rw[List.size_toArray,←hl];push_cast;rw[show ((k.toNat:Nat):Int)=k by omega]
   have fe:List.foldl (fun x1 x2=>x1++x2) #[] (List.replicate k.toNat its.toArray)=(List.replicate k.toNat its).flatten.toArray:=by
    have:=z6r its k.toNat []
    rw[List.nil_append]at this
    exact this
   have fl:(List.replicate k.toNat its).flatten.length≤sizeLine:=by rw[zan,←hl,sizeLine_eq,Nat.mul_comm];omega
   refine call_meets F.slot_tuple_mul ⟨_,ho,rfl⟩ F.entry_tuple_mul (F.args_tuple_mul_2 _ _) (HT.tup_mul2 a its.toArray n dd sl k t b1 c1' c2' (by rw[en];omega) (by rw[en];unfold Builtin.Tuple.tupleTooMany;rw[sizeLine_eq];exact decide_eq_false (by omega)) (by rw[fe,List.size_toArray];exact fl)) ⟨ho,?_⟩
   rw[fe]
   exact ⟨.ref s.heap.objs.size,_,I.laid (t':=s.toks) (o:=.tup (List.replicate k.toNat xs).flatten) (fun b ob q=>Heap.get?_push_of_some _ q) (Nat.le_refl _) ⟨by rw[zan,Nat.mul_comm,sizeLine_eq];omega,_,r1.rep k.toNat,IsTup.new _ _⟩,rfl,q _ _ (z0a (I.hok.fresh (Nat.le_refl _)) _) (SqT.of z06)⟩
noncomputable def zjo (t:TS):TS:=fun D σ H=>∃N:St→Hp→Prop,t {D with nx:=N} σ H∧∀σ' H',N σ' H'→D.nx σ' H'
theorem znz {st:Stmt}{t:TS}(h:PS X st t):PS X st (zjo t):=by
 intro pins s σ H D I ⟨N,ht,hN⟩
 refine thn (h pins s σ H _ I ht) fun f s' q=>?_
 cases f with
 | next=>obtain ⟨σ',H',I',n⟩:=q;exact ⟨σ',H',I',hN _ _ n⟩
 | brk=>exact q
 | cont=>exact q
 | ret u=>exact q
noncomputable def zjp (t:TE):TE:=fun σ H Q=>∃N:VK,t σ H N∧∀v H',N v H'→Q v H'
theorem zof {e:Expr}{t:TE}(h:PE X e t):PE X e (zjp t):=by
 intro pins s σ H Q I ⟨N,ht,hN⟩
 exact thn (h pins s σ H _ I ht) fun u s' ⟨v,H',I',r,n⟩=>⟨v,H',I',r,hN _ _ n⟩
theorem z4z {st:Stmt}{t:TS}(h:QS X st t):QS X st (zjo t):=⟨znz h.o⟩
theorem zkk {e:Expr}{t:TE}(h:QE X e t):QE X e (zjp t):=⟨zof h.o⟩
end
end L2
namespace L2
open PySem PySem.Spec PyProof.Rows
noncomputable def ConT (K:W.Frag)(mg:Str→Option Value)(x:Str)(ns:List Int):Prop:=∃a,mg x=some (.ref a)∧∀H,SqT K H a (ns.map V.int)
theorem ConT.mk {K:W.Frag}{mg:Str→Option Value}{x:Str}{ns:List Int}{a:Addr}{d:Option Addr}{sl:Array (Option Value)}{its:Array Value}{n:Nat}(m:mg x=some (.ref a))(l:K.lookup a=some ⟨.type "tuple",d,.seq its n,sl⟩)(hz:its.size≤sizeLine)(r:Vals (ns.map V.int) its.toList):ConT K mg x ns:=
 ⟨a,m,fun _=>.inr ⟨_,its,n,l,rfl,rfl,hz,r⟩⟩
section
section
variable {K:W.Frag}{H H':Hp}
theorem SqB.same {b:Bool}{a:Addr}{xs:List V}(h:SqB b K H a xs)(e:Same H H'):SqB b K H' a xs:=by
 cases b
 ·exact e.seq h
 ·exact e.seqT h
theorem SqB.or {b:Bool}{a:Addr}{xs:List V}(h:SqB b K H a xs):SqL K H a xs∨SqT K H a xs:=by
 cases b
 ·exact .inl h
 ·exact .inr h
theorem DvAll.at:∀{vs:List V}{ds:List PyData}{i:Nat}{v:V},DvAll K H vs ds→vs[i]?=some v→∃d,ds[i]?=some d∧Dv K H v d
 | _,_,i,_,.nil,h=>by simp at h
 | _,_,0,_,.cons h _,e=>by cases e;exact ⟨_,rfl,h⟩
 | _,_,i+1,_,.cons _ t,e=>by
  obtain ⟨d,q,r⟩:=DvAll.at t (i:=i) e
  exact ⟨d,q,r⟩
theorem DvAll.share {vs:List V}{rs:List Rat}{i:Nat}{v:V}(h:DvAll K H vs (rs.map sh))(e:vs[i]?=some v):i<rs.length∧Dv K H v (sh (rs.getD i 0)):=by
 obtain ⟨d,q,r⟩:=h.at e
 rw[List.getElem?_map]at q
 cases hi:rs[i]? with
 | none=>rw[hi]at q;cases q
 | some x=>
  rw[hi]at q
  cases q
  have:=(List.getElem?_eq_some_iff.mp hi).1
  rw[List.getD_eq_getElem?_getD,hi]
  exact ⟨this,r⟩
theorem Dv.sh_int {p:Addr}{c:Int}(e:H p=some (.tup [.int c,.int 1])):Dv K H (.ref p) (sh (c:Rat)):=Dv.sh_of e (by simp) (by simp)
theorem Dv.con {a:Addr}{c d:Int}{q:Rat}(h:∀H,SqT K H a ([c,d].map V.int))(h1:c=q.num)(h2:d=(q.den:Int))(H:Hp):Dv K H (.ref a) (sh q):=by
 subst h1 h2
 exact Dv.sh_mk (h H)
theorem DvAll.rep {v:V}{d:PyData}(h:Dv K H v d):∀n:Nat,DvAll K H (List.replicate n v) (List.replicate n d)
 | 0=>.nil
 | n+1=>.cons h (DvAll.rep h n)
end
theorem Bs.int {m:Nat}{c:Int}(h:Bt m c)(hm:0<m):Bs m (c:Rat):=⟨by simpa using h,by
 show (((c:Rat).den:Nat):Int).natAbs<2^m
 simp
 omega⟩
theorem Bs.zero:Bs 1 (0:Rat):=⟨by decide,by decide⟩
noncomputable def z7e (n:Nat)(rs:List Rat):Nat→Rat
 | 0=>0
 | k+1=>z7e n rs k+(((ch n k:Nat):Int):Rat)*rs.getD k 0
noncomputable def zcp (rs:List Rat):Rat:=z7e (rs.length+1) rs rs.length*Rat.divInt (-1) ((rs.length:Int)+1)
theorem z8b (rs:List Rat)(x:Rat):(rs++[x]).getD rs.length 0=x:=by
 rw[List.getD_eq_getElem?_getD,List.getElem?_append_right (Nat.le_refl _)];simp
end
theorem zq6 {α:Type}(x:α):∀k:Nat,(List.replicate k [x]).flatten=List.replicate k x
 | 0=>rfl
 | k+1=>by rw[List.replicate_succ,List.flatten_cons,zq6 x k];rfl
theorem zj7 (xs:List V)(k:Nat):z8f xs none (some (k:Int))=xs.take k:=by
 unfold z8f
 rw[HT.sIx_nat,HT.sIx_none,List.drop_zero,Nat.sub_zero,←List.take_take]
 simp
theorem zam {α β:Type}(f:α→β)(x:α)(k:Nat):(List.replicate k x).map f=List.replicate k (f x):=by simp
noncomputable def bsB (x:Rat):Bool:=Nat.blt x.num.natAbs (2^1000)&&Nat.blt x.den (2^1000)
theorem zfy {x:Rat}(h:bsB x=true):Bs 1000 x:=by
 unfold bsB at h
 rw[Bool.and_eq_true]at h
 have h1:x.num.natAbs<2^1000:=by have:=h.1;rw[Nat.blt_eq]at this;exact this
 have h2:x.den<2^1000:=by have:=h.2;rw[Nat.blt_eq]at this;exact this
 exact ⟨h1,by show ((x.den:Nat):Int).natAbs<_;rw[Int.natAbs_natCast];exact h2⟩
noncomputable def z5e (n:Nat):List Rat→Nat→Nat→Rat→Bool×Rat
 | [],_,_,acc=>(bsB acc,acc)
 | r::rs,k,c,acc=>let q:=z5e n rs (k+1) (c*(n-k)/(k+1)) (acc+((c:Int):Rat)*r);(bsB acc&&q.1,q.2)
noncomputable def zdw:Nat→Bool×List Rat
 | 0=>(true,[1])
 | k+1=>let p:=zdw k;let q:=z5e (p.2.length+1) p.2 0 1 0;let x:=q.2*Rat.divInt (-1) ((p.2.length:Int)+1);(p.1&&q.1&&bsB x,p.2++[x])
noncomputable def z3k:Nat→List Rat
 | 0=>[1]
 | k+1=>z3k k++[zcp (z3k k)]
theorem z3c:∀k,(z3k k).length=k+1
 | 0=>rfl
 | k+1=>by show (z3k k++[_]).length=_;rw[List.length_append,z3c k];rfl
theorem zm1 {n k:Nat}:ch n k*(n-k)/(k+1)=ch n (k+1):=by
 by_cases h:k<n
 ·have e:=z6t n k
  have:ch n k*(n-k)=ch n (k+1)*(k+1):=by
   rw[Nat.mul_sub];omega
  rw[this,Nat.mul_div_cancel _ (by omega)]
 ·rw[show n-k=0 by omega,Nat.mul_zero,Nat.zero_div,z6u n (k+1) (by omega)]
theorem zbv (n : Nat)(rs : List Rat) : ∀ (m k : Nat), k+m = rs.length → (z5e n (rs.drop k) k (ch n k) (z7e n rs k)).2 = z7e n rs rs.length ∧
  ((z5e n (rs.drop k) k (ch n k) (z7e n rs k)).1=true→∀j,k≤j→j≤rs.length→Bs 1000 (z7e n rs j))
 | 0,k,h=>by
  have hk:k=rs.length:=by omega
  subst hk
  rw[List.drop_length]
  refine ⟨rfl,fun hb j h1 h2=>?_⟩
  have:j=rs.length:=by omega
  subst this
  exact zfy hb
 | m+1,k,h=>by
  have hk:k<rs.length:=by omega
  obtain ⟨i1,i2⟩:=zbv n rs m (k+1) (by omega)
  have e:rs.drop k=rs[k]::rs.drop (k+1):=List.drop_eq_getElem_cons hk
  have g:rs.getD k 0=rs[k]:=by rw[List.getD_eq_getElem?_getD,List.getElem?_eq_getElem hk];rfl
  rw[e]
  have step:z5e n (rs[k]::rs.drop (k+1)) k (ch n k) (z7e n rs k)=(bsB (z7e n rs k)&&(z5e n (rs.drop (k+1)) (k+1) (ch n (k+1)) (z7e n rs (k+1))).1,(z5e n (rs.drop (k+1)) (k+1) (ch n (k+1)) (z7e n rs (k+1))).2):=by
   show (_,_)=_
   rw[zm1]
   have:z7e n rs (k+1)=z7e n rs k+(((ch n k:Nat):Int):Rat)*rs[k]:=by rw[←g];rfl
   rw[this]
  rw[step]
  refine ⟨i1,fun hb j h1 h2=>?_⟩
  have hb':(bsB (z7e n rs k)&&(z5e n (rs.drop (k+1)) (k+1) (ch n (k+1)) (z7e n rs (k+1))).1)=true:=hb
  rw[Bool.and_eq_true]at hb'
  by_cases hj:j=k
  ·subst hj;exact zfy hb'.1
  ·exact i2 hb'.2 j (by omega) h2
theorem z99 (n:Nat)(rs:List Rat):(z5e n rs 0 1 0).2=z7e n rs rs.length∧((z5e n rs 0 1 0).1=true→∀j,j≤rs.length→Bs 1000 (z7e n rs j)):=by
 have:=zbv n rs rs.length 0 (by omega)
 rw[List.drop_zero,z2u]at this
 exact ⟨this.1,fun h j hj=>this.2 h j (Nat.zero_le _) hj⟩
theorem z7w:∀k,(zdw k).2=z3k k∧((zdw k).1=true→(∀r∈z3k k,Bs 1000 r)∧∀i,i<k→∀j,j≤(z3k i).length→Bs 1000 (z7e ((z3k i).length+1) (z3k i) j))
 | 0 => ⟨rfl, fun _ => ⟨fun r hr => by
   have:r=1:=by simpa [z3k] using hr
   subst this;exact ⟨by decide,by decide⟩,fun i hi=>by omega⟩⟩
 | k+1=>by
  obtain ⟨i1,i2⟩:=z7w k
  have e:zdw (k+1)=((zdw k).1&&(z5e ((z3k k).length+1) (z3k k) 0 1 0).1&&bsB (zcp (z3k k)),z3k k++[zcp (z3k k)]):=by
   show (_,_)=_
   rw[i1,(z99 _ _).1]
   rfl
  rw[e]
  refine ⟨rfl,fun hb=>?_⟩
  have hb':((zdw k).1&&(z5e ((z3k k).length+1) (z3k k) 0 1 0).1&&bsB (zcp (z3k k)))=true:=hb
  rw[Bool.and_eq_true,Bool.and_eq_true]at hb'
  obtain ⟨⟨b1,b2⟩,b3⟩:=hb'
  obtain ⟨j1,j2⟩:=i2 b1
  refine ⟨fun r hr=>?_,fun i hi j hj=>?_⟩
  ·rcases List.mem_append.mp hr with h|h
   ·exact j1 r h
   ·rw[List.mem_singleton.mp h];exact zfy b3
  ·by_cases h:i=k
   ·subst h;exact (z99 _ _).2 b2 j hj
   ·exact j2 i (by omega) j hj
noncomputable def ztp (rs:List Rat):Bool:=(List.range 19).all fun j=>decide (rs.getD (2*j+3) 1=0)
set_option maxRecDepth 1000000 in
theorem zkb:((zdw 40).1&&ztp (zdw 40).2)=true:=by decide +kernel
section
noncomputable def zpw (lo c:Int)(n:Nat):It:=⟨fun i _=>i<n,fun i H x H'=>H'=H∧x=.int (lo+i*c),fun i _=>n≤i⟩
theorem za0 {P:Program}{w:World}{K:W.Frag}{tg:Expr}(it:Addr)(lo c:Int)(n:Nat):Turn P w K tg (zpw lo c n) [it] it (fun i h=>IsRangeIter h it (lo+(i:Nat)*c) ((n:Int)-(i:Nat)) c) where
 mem:=by simp
 obj:=fun i h st b hb=>by
  have e:b=it:=by simpa using hb
  subst e;exact ⟨_,st,fun v z=>by have z':Data.fields _=Data.cell v:=z;cases z'⟩
 keep:=fun i h h' st k=>k it (by simp) _ st
 item:=by
  intro X hP hw hK hc i pins s σ H E I hf st hg
  subst hP hw hK
  obtain ⟨f0,f1,f2,f3,f4,f5⟩:=hf it (by simp)
  have W:=Walks.range (prog:=X.prog) (w:=X.w) (I.ok.hd hc) it lo c n
  refine W.item i s _ _ hg st fun v h' tk hv st' kk=>?_
  obtain ⟨t,rfl⟩:=hv
  have I1:Inv X pins σ H {s with heap:=h',toks:=tk}:=I.turned (fun b o hb e=>kk b o (by simpa using hb) e) f0 f1 f3 f4 f5
  exact ⟨_,rfl,zf4 (s:={s with heap:=h',toks:=tk}) (n:="range_iterator") st' rfl rfl (by decide) ⟨.int (lo+i*c),H,I1,⟨t,rfl⟩,⟨rfl,rfl⟩,st',fun b hb=>(hf b hb).1⟩⟩
 done:=by
  intro X hP hw hK hc i pins s σ H E I hf st hg
  subst hP hw hK
  obtain ⟨f0,f1,f2,f3,f4,f5⟩:=hf it (by simp)
  exact wpAny_pyNext_range_end (I.ok.hd hc) st (by have:n≤i:=hg;omega) fun h' eb=>⟨rfl,I.turned (t':=s.toks) (fun b o hb e=>eb b o hb e) f0 f1 f3 f4 f5⟩
 self:=fun _ _ _ _ _ st h=>wpAny_pyIter_rangeiter st h
theorem zbm {i j c:Int}(hc:c≠0)(h1:-1000000≤i)(h2:i≤1000000)(h3:-1000000≤j)(h4:j≤1000000):0≤Builtin.Range.rangeSize i j c∧Builtin.Range.rangeSize i j c≤2000001:=by
 unfold Builtin.Range.rangeSize
 have key:∀d e:Int,0<e→0≤d→d≤2000000→0≤d/e∧d/e≤2000000:=fun d e he h0 h1=>⟨Int.ediv_nonneg h0 (by omega),Int.le_trans (Int.ediv_le_self _ h0) h1⟩
 split
 ·split
  ·have:=key (j-i-1) c (by omega) (by omega) (by omega);omega
  ·omega
 ·split
  ·have:=key (i-j-1) (-c) (by omega) (by omega) (by omega);omega
  ·omega
theorem zn2 {i j c:Int}(hc:c≠0)(c1:-1000≤c)(c2:c≤1000)(h1:-1000000≤i)(h2:i≤1000000)(h3:-1000000≤j)(h4:j≤1000000):Builtin.Range.small i j c=true:=by
 have:=zbm hc h1 h2 h3 h4
 unfold Builtin.Range.small
 simp only[Builtin.Range.rangeFitsLong,Bool.and_eq_true,Bool.or_eq_true,decide_eq_true_eq,beq_iff_eq]
 generalize Builtin.Range.rangeSize i j c=n at this
 refine ⟨⟨⟨⟨⟨by omega,by omega⟩,by omega,by omega⟩,by omega,by omega⟩,by omega,by omega⟩,.inr ?_⟩
 split
 ·rw[Bool.and_eq_true];exact ⟨decide_eq_true (by omega),decide_eq_true (by omega)⟩
 ·rw[Bool.and_eq_true];exact ⟨decide_eq_true (by omega),decide_eq_true (by omega)⟩
noncomputable def zpf (ta:TA):TI:=fun σ H R=>ta σ H fun vs H1=>∃i j c:Int,vs=[.int i,.int j,.int c]∧c≠0∧(-1000≤c∧c≤1000)∧(-1000000≤i∧i≤1000000∧-1000000≤j∧j≤1000000)∧R (zpw i c (Builtin.Range.rangeSize i j c).toNat) H1
section
variable {X:Cx}{tg:Expr}
theorem ze7 {a b d : Expr}{ta : TA}{p pos : Pos}(hg : Gl X "range")(hm : X.mg "range" = none)(ha : PA X [a, b, d] ta)(hs : starEach [a, b, d] X.env = (false, eval a X.env) :: starEach [b, d] X.env := by rfl)(hpl : (backTo pos (starEach [b, d] X.env)).any (·.1) = false := by rfl) :
  PI X tg (.Call (.Name "range" p) [a,b,d] [] pos) (zpf ta):=by
 intro pins s σ H R I h
 refine wpAny_Call_Name_kw (z44 I hg hm zhu ?_ (by decide) (by decide))
 refine PyProof.Rows.callWith_type1 (thn (ha pos pins s σ H _ I h) fun us s1 ⟨vs,H1,I1,r1,q1⟩=>?_) hs hpl
 obtain ⟨i,j,c,rfl,hc,⟨c1,c2⟩,⟨q1,q2,q3,q4⟩,q⟩:=q1
 cases r1 with
 | cons r rr=>
  cases rr with
  | cons r' rr=>
   cases rr with
   | cons r'' rr=>
    cases rr
    obtain ⟨t,rfl⟩:=r
    obtain ⟨t',rfl⟩:=r'
    obtain ⟨t'',rfl⟩:=r''
    refine call_range_3 hc ?_ (.inl (PyProof.noPylong_small (by omega)))
    refine wpAny_pyIter_range (IsRange.new ..) (zn2 hc c1 c2 q1 q2 q3 q4) ?_
    have I2:Inv X pins σ H1 {s1 with heap:=s1.heap.push {cls:=.type "range",data:=.fields #[.int i t,.int j t',.int c t'']},toks:=s1.toks}:=I1.kept fun b o e=>Heap.get?_push_of_some _ e
    refine ⟨(s1.heap.push {cls:=.type "range",data:=.fields #[.int i t,.int j t',.int c t'']}).objs.size,[(s1.heap.push {cls:=.type "range",data:=.fields #[.int i t,.int j t',.int c t'']}).objs.size],_,_,H1,rfl,I2.kept (t':=s1.toks) fun b o e=>Heap.get?_push_of_some _ e,za0 _ i c (Builtin.Range.rangeSize i j c).toNat,?_,fun b hb=>?_,q⟩
    ·have e1:i+((0:Nat):Int)*c=i:=by simp
     have e2:(((Builtin.Range.rangeSize i j c).toNat:Nat):Int)-((0:Nat):Int)=Builtin.Range.rangeSize i j c:=by have:=zbm hc q1 q2 q3 q4;omega
     show IsRangeIter _ _ (i+((0:Nat):Int)*c) ((((Builtin.Range.rangeSize i j c).toNat:Nat):Int)-((0:Nat):Int)) c
     rw[e1,e2]
     exact Heap.get?_push_size _ rfl
    ·have e:b=(s1.heap.push {cls:=.type "range",data:=.fields #[.int i t,.int j t',.int c t'']}).objs.size:=by simpa using hb
     subst e
     exact I2.fpOk (Nat.le_refl _) (I2.hok.fresh (Nat.le_refl _))
theorem z7b {a b d : Expr}{ta : TA}{p pos : Pos}(hg : Gl X "range")(hm : X.mg "range" = none)(ha : QA X [a, b, d] ta)(hs : starEach [a, b, d] X.env = (false, eval a X.env) :: starEach [b, d] X.env := by rfl)(hpl : (backTo pos (starEach [b, d] X.env)).any (·.1) = false := by rfl) :
  QI X tg (.Call (.Name "range" p) [a,b,d] [] pos) (zpf ta):=⟨ze7 hg hm ha.o hs hpl⟩
end
theorem z7i {lo c : Int}{n : Nat}{g : TG}{tb : TS}{D : Ends}{σ : St}{H : Hp}(Pv : Nat → St → Hp → Prop)(h0 : Pv 0 σ H)
  (hs:∀i σ H,i<n→Pv i σ H→g (.int (lo+i*c)) σ H fun σ2 H2=>tb {D with nx:=Pv (i+1),ct:=Pv (i+1),bk:=D.nx} σ2 H2)(hd:∀σ H,Pv n σ H→D.nx σ H) :
  ∃W:Nat→Nat→St→Hp→Prop,(∃m,W 0 m σ H)∧∀i m σ H,W i m σ H→
   ((zpw lo c n).stop i H∧D.nx σ H)∨((zpw lo c n).go i H∧∃N:St→Hp→Prop,(∀σ' H',N σ' H'→∃m',m'<m∧W (i+1) m' σ' H')∧∀x H',(zpw lo c n).yld i H x H'→g x σ H' fun σ2 H2=>tb {D with nx:=N,ct:=N,bk:=D.nx} σ2 H2):=by
 refine ⟨fun i m σ H=>m=n-i∧i≤n∧Pv i σ H,⟨n,by simp,Nat.zero_le _,h0⟩,?_⟩
 rintro i m σ H ⟨rfl,hi,p⟩
 by_cases hlt:i<n
 ·refine .inr ⟨hlt,Pv (i+1),fun σ' H' p'=>⟨n-(i+1),by omega,rfl,hlt,p'⟩,fun x H' y=>?_⟩
  obtain ⟨rfl,rfl⟩:=y
  exact hs i σ _ hlt p
 ·have e:i=n:=by omega
  subst e
  exact .inl ⟨Nat.le_refl _,hd σ H p⟩
theorem z5l:∀{k m j:Nat},k≤m→j≤k→(z3k m).getD j 0=(z3k k).getD j 0
 | k,0,j,h,hj=>by rw[show k=0 by omega]
 | k,m+1,j,h,hj=>by
  by_cases e:k=m+1
  ·rw[e]
  ·rw[←z5l (k:=k) (m:=m) (by omega) hj]
   show (z3k m++[_]).getD j 0=_
   rw[List.getD_eq_getElem?_getD,List.getD_eq_getElem?_getD,List.getElem?_append_left (by rw[z3c];omega)]
theorem zbn:(zdw 40).1=true:=by have:=zkb;rw[Bool.and_eq_true]at this;exact this.1
theorem z8a {rs:List Rat}{j:Nat}(h:j<rs.length):rs.getD j 0∈rs:=by
 rw[List.getD_eq_getElem?_getD,List.getElem?_eq_getElem h];exact List.getElem_mem _
theorem zha {rs:List Rat}{r:Rat}(h:r∈rs):∃j,j<rs.length∧rs.getD j 0=r:=by
 obtain ⟨j,hj,e⟩:=List.mem_iff_getElem.mp h
 exact ⟨j,hj,by rw[List.getD_eq_getElem?_getD,List.getElem?_eq_getElem hj];exact e⟩
theorem znf {k:Nat}(h:k≤40):∀r∈z3k k,Bs 1000 r:=fun r hr=>by
 obtain ⟨j,hj,e⟩:=zha hr
 rw[z3c]at hj
 rw[←z5l h (by omega)]at e
 rw[←e]
 exact ((z7w 40).2 zbn).1 _ (z8a (by rw[z3c];omega))
theorem zr5 {i:Nat}(h:i<40):∀j,j≤(z3k i).length→Bs 1000 (z7e ((z3k i).length+1) (z3k i) j):=((z7w 40).2 zbn).2 i h
end
section
section
variable {X:Cx}{K:W.Frag}
end
end
section
section
variable {κ:Type}[DecidableEq κ]
noncomputable def z8s (kvs:List (κ×V))(k:κ):Option V:=(kvs.find? fun kv=>decide (kv.1=k)).map (·.2)
noncomputable def z7c (kvs:List (κ×V))(k:κ)(v:V):List (κ×V):=
 if (kvs.any fun kv=>decide (kv.1=k))=true then kvs.map (fun kv=>if kv.1=k then (kv.1,v) else kv) else kvs++[(k,v)]
theorem z7m {p:κ×V}{r:List (κ×V)}{k:κ}(e:p.1=k):z8s (p::r) k=some p.2:=by simp[z8s,List.find?_cons,e]
theorem z7n {p:κ×V}{r:List (κ×V)}{k:κ}(e:¬p.1=k):z8s (p::r) k=z8s r k:=by simp[z8s,List.find?_cons,e]
theorem zb3 (k:κ):∀kvs:List (κ×V),(kvs.any fun kv=>decide (kv.1=k))=(z8s kvs k).isSome
 | []=>rfl
 | p::r=>by
  rw[List.any_cons]
  by_cases e:p.1=k
  ·simp only[z7m e,decide_eq_true e,Bool.true_or,Option.isSome_some]
  ·rw[z7n e,decide_eq_false e,Bool.false_or];exact zb3 k r
theorem z4c (kvs:List (κ×V))(k:κ)(v:V):(z7c kvs k v).length≤kvs.length+1:=by
 unfold z7c
 split
 ·rw[List.length_map];omega
 ·rw[List.length_append,List.length_cons,List.length_nil];omega
theorem RelO.isSome_eq {o:Option V}{u:Option Value}(r:RelO o u):o.isSome=u.isSome:=by
 cases o with
 | none=>cases u with
  | none=>rfl
  | some _=>exact (show False from r).elim
 | some _=>cases u with
  | none=>exact (show False from r).elim
  | some _=>rfl
theorem RelO.getD {o:Option V}{u:Option Value}{d:V}{d':Value}(r:RelO o u)(rd:RelV d d'):RelV (o.getD d) (u.getD d'):=by
 cases o with
 | none=>cases u with
  | none=>exact rd
  | some _=>exact (show False from r).elim
 | some _=>cases u with
  | none=>exact (show False from r).elim
  | some _=>exact r
theorem KV.val {kvs:List (κ×V)}{vs:List (κ×Value)}(r:KV kvs vs)(k:κ):RelO (z8s kvs k) (valueAt vs k):=by
 unfold KV at r
 induction r with
 | nil=>exact True.intro
 | @cons p q ps qs h t ih=>
  obtain ⟨h1,h2⟩:=h
  by_cases e:p.1=k
  ·have e':q.1=k:=h1.symm.trans e
   have b:valueAt (q::qs) k=some q.2:=by simp[valueAt,List.find?_cons,e']
   rw[z7m e,b];exact h2
  ·have e':¬q.1=k:=fun z=>e (h1.trans z)
   have b:valueAt (q::qs) k=valueAt qs k:=by simp[valueAt,List.find?_cons,e']
   rw[z7n e,b];exact ih
theorem KV.any {kvs:List (κ×V)}{vs:List (κ×Value)}(r:KV kvs vs)(k:κ):(kvs.any fun kv=>decide (kv.1=k))=vs.any fun kv=>decide (kv.1=k):=by
 unfold KV at r
 induction r with
 | nil=>rfl
 | cons h t ih=>rw[List.any_cons,List.any_cons,ih,h.1]
theorem KV.repl {kvs : List (κ × V)}{vs : List (κ × Value)}(r : KV kvs vs)(k : κ){y : V}{u : Value}(ry : RelV y u) :
  KV (kvs.map fun kv=>if kv.1=k then (kv.1,y) else kv) (vs.map fun kv=>if kv.1=k then (kv.1,u) else kv):=by
 unfold KV at r ⊢
 induction r with
 | nil=>exact .nil
 | @cons p q ps qs h t ih=>
  rw[List.map_cons,List.map_cons]
  refine .cons ?_ ih
  obtain ⟨h1,h2⟩:=h
  by_cases e:p.1=k
  ·rw[if_pos e,if_pos (h1.symm.trans e)];exact ⟨h1,ry⟩
  ·rw[if_neg e,if_neg (fun z=>e (h1.trans z))];exact ⟨h1,h2⟩
theorem KV.put {kvs:List (κ×V)}{vs:List (κ×Value)}(r:KV kvs vs)(k:κ){y:V}{u:Value}(ry:RelV y u):KV (z7c kvs k y) (stored vs k u):=by
 unfold z7c stored
 rw[r.any k]
 by_cases e:(vs.any fun kv=>decide (kv.1=k))=true
 ·rw[if_pos e,if_pos e];exact r.repl k ry
 ·rw[if_neg e,if_neg e];exact Paired.snoc r ⟨rfl,ry⟩
theorem KV.length {kvs:List (κ×V)}{vs:List (κ×Value)}(r:KV kvs vs):kvs.length=vs.length:=Paired.length r
end
theorem zhf {P:Program}{w:World}{k:Key}{u:Value}(r:RelV (kV k) u):(z1y P w).is k u=true:=by
 cases k with
 | inl i=>obtain ⟨t,e⟩:=(show ∃t,u=Value.int i t from r);subst e;exact zaj P w i t
 | inr x=>obtain ⟨t,e⟩:=(show ∃t,u=Value.str x t from r);subst e;exact zai P w x t
theorem z9i {P:Program}{w:World}:∀{ks:List Key}{us:List Value},Vals (ks.map kV) us→ItemsAre (z1y P w) ks us
 | [],_,r=>by rw[List.map_nil]at r;cases r;exact .nil
 | k::ks,_,r=>by
  rw[List.map_cons]at r
  cases r with
  | cons h t=>exact .cons (zhf h) (z9i t)
noncomputable abbrev KT (H:Hp):List (List Key×V)→List (List Key×Addr×Value)→Prop:=Paired fun p q=>p.1=q.1∧H q.2.1=some (.tup (p.1.map kV))∧RelV p.2 q.2.2
theorem KT.val {H:Hp}{kvs:List (List Key×V)}{xs:List (List Key×Addr×Value)}(r:KT H kvs xs)(k:List Key):RelO (z8s kvs k) ((atKey xs k).map (·.2)):=by
 induction r with
 | nil=>exact True.intro
 | @cons p q ps qs h t ih=>
  obtain ⟨h1,_,h2⟩:=h
  by_cases e:p.1=k
  ·have e':q.1=k:=h1.symm.trans e
   have b:atKey (q::qs) k=some q.2:=by simp[atKey,List.find?_cons,e']
   rw[z7m e,b];exact h2
  ·have e':¬q.1=k:=fun z=>e (h1.trans z)
   have b:atKey (q::qs) k=atKey qs k:=by simp[atKey,List.find?_cons,e']
   rw[z7n e,b];exact ih
theorem KT.repl {H : Hp}{kvs : List (List Key × V)}{xs : List (List Key × Addr × Value)}(r : KT H kvs xs)(k : List Key){y : V}{u : Value}(ry : RelV y u) :
  KT H (kvs.map fun kv=>if kv.1=k then (kv.1,y) else kv) (xs.map (putAt k u)):=by
 induction r with
 | nil=>exact .nil
 | @cons p q ps qs h t ih=>
  rw[List.map_cons,List.map_cons]
  refine .cons ?_ ih
  obtain ⟨h1,h2,h3⟩:=h
  unfold putAt
  by_cases e:p.1=k
  ·rw[if_pos e,if_pos (h1.symm.trans e)];exact ⟨h1,h2,ry⟩
  ·rw[if_neg e,if_neg (fun z=>e (h1.trans z))];exact ⟨h1,h2,h3⟩
theorem KT.put {H : Hp}{kvs : List (List Key × V)}{xs : List (List Key × Addr × Value)}(r : KT H kvs xs)(k : List Key){b : Addr}{y : V}{u : Value}(hb : H b = some (.tup (k.map kV)))(ry : RelV y u) :
  KT H (z7c kvs k y) (storedH xs k b u):=by
 have e:(kvs.any fun kv=>decide (kv.1=k))=(atKey xs k).isSome:=by
  rw[zb3,(r.val k).isSome_eq,Option.isSome_map]
 unfold z7c storedH
 rw[e]
 by_cases q:(atKey xs k).isSome=true
 ·rw[if_pos q,if_pos q];exact r.repl k ry
 ·rw[if_neg q,if_neg q];exact Paired.snoc r ⟨rfl,hb,ry⟩
theorem KT.keeps {H H':Hp}{kvs:List (List Key×V)}{xs:List (List Key×Addr×Value)}(r:KT H kvs xs)(ht:∀b ys,H b=some (.tup ys)→H' b=some (.tup ys)):KT H' kvs xs:=
 Paired.mapP r fun _ _ z=>⟨z.1,ht _ _ z.2.1,z.2.2⟩
section
variable {P:Program}{w:World}{H:Hp}{h:Heap}{a:Addr}
theorem zng {u:HO}(ok:HOk P w H h)(e:Rd H a u):ObjOk P w H h a u:=e.ok ok
theorem zlu {kvs:List (Key×V)}(ok:HOk P w H h)(e:Rd H a (.dK kvs)):kvs.length≤sizeLine∧(a == sysModules)=false∧∃vs,KV kvs vs∧h.DictOf (z1y P w) a vs:=
 show ObjOk P w H h a (.dK kvs) from zng ok e
theorem zps {kvs:List (Key×V)}(ok:HOk P w H h)(e:H a=some (.dK kvs)):kvs.length≤sizeLine∧(a == sysModules)=false∧∃vs,KV kvs vs∧h.DictOf (z1y P w) a vs:=zlu ok (.inl e)
theorem zev {ks:List Key}(ok:HOk P w H h)(e:H a=some (.tup (ks.map kV))):(tupleKind (z1y P w)).is h ks a:=by
 obtain ⟨_,its,r,o,h1,h2,n,h3⟩:=(show ObjOk P w H h a (.tup (ks.map kV)) from ok a _ e)
 exact ⟨o,its.toArray,n,h1,h2,h3,by simpa using z9i r⟩
theorem zlt {kvs : List (List Key × V)}(ok : HOk P w H h)(e : Rd H a (.dT kvs)) : kvs.length ≤ sizeLine ∧ (a == sysModules) = false ∧
  ∃xs,KT H kvs xs∧h.DictOfH (tupleKind (z1y P w)) a xs:=by
 obtain ⟨z,y,xs,r,o,es,ep,h1,h2,h3,h4,h5⟩:=(show ObjOk P w H h a (.dT kvs) from zng ok e)
 refine ⟨z,y,xs,r,o,es,ep,h1,h2,h3,h4,fun x hx=>?_,h5⟩
 have all:∀{l:List (List Key×V)}{m:List (List Key×Addr×Value)},KT H l m→∀x∈m,(tupleKind (z1y P w)).is h x.1 x.2.1:=by
  intro l m q
  induction q with
  | nil=>intro x hx;exact nomatch hx
  | @cons p q ps qs hq t ih=>
   intro x hx
   rcases List.mem_cons.mp hx with e|hx
   ·subst e
    exact zev ok (by rw[←hq.1];exact hq.2.1)
   ·exact ih x hx
 exact all r x hx
theorem zs8 {kvs : List (List Key × V)}(ok : HOk P w H h)(e : H a = some (.dT kvs)) : kvs.length ≤ sizeLine ∧ (a == sysModules) = false ∧
  ∃xs,KT H kvs xs∧h.DictOfH (tupleKind (z1y P w)) a xs:=zlt ok (.inl e)
end
noncomputable def DGet (H:Hp)(a:Addr)(y:V)(r:Option V):Prop:=
 (∃kvs k,Rd H a (.dK kvs)∧y=kV k∧r=z8s kvs k)∨∃kvs k b,Rd H a (.dT kvs)∧y=.ref b∧H b=some (.tup (k.map kV))∧r=z8s kvs k
noncomputable def DPut (H:Hp)(a:Addr)(y v:V)(H':Hp):Prop:=
 (∃kvs k,H a=some (.dK kvs)∧y=kV k∧kvs.length<sizeLine∧H'=upd H a (.dK (z7c kvs k v)))∨
 ∃kvs k b,H a=some (.dT kvs)∧y=.ref b∧H b=some (.tup (k.map kV))∧kvs.length<sizeLine∧H'=upd H a (.dT (z7c kvs k v))
theorem DGet.k {H:Hp}{a:Addr}{kvs:List (Key×V)}{k:Key}(e:H a=some (.dK kvs)):DGet H a (kV k) (z8s kvs k):=.inl ⟨kvs,k,.inl e,rfl,rfl⟩
theorem DGet.t {H:Hp}{a b:Addr}{kvs:List (List Key×V)}{k:List Key}(e:H a=some (.dT kvs))(eb:H b=some (.tup (k.map kV))):DGet H a (.ref b) (z8s kvs k):=.inr ⟨kvs,k,b,.inl e,rfl,eb,rfl⟩
theorem DPut.k {H:Hp}{a:Addr}{kvs:List (Key×V)}{k:Key}{v:V}(e:H a=some (.dK kvs))(hl:kvs.length<sizeLine):DPut H a (kV k) v (upd H a (.dK (z7c kvs k v))):=.inl ⟨kvs,k,e,rfl,hl,rfl⟩
theorem DPut.t {H : Hp}{a b : Addr}{kvs : List (List Key × V)}{k : List Key}{v : V}(e : H a = some (.dT kvs))(eb : H b = some (.tup (k.map kV)))(hl : kvs.length<sizeLine) :
  DPut H a (.ref b) v (upd H a (.dT (z7c kvs k v))):=.inr ⟨kvs,k,b,e,rfl,eb,hl,rfl⟩
section
variable {X:Cx}{pins:List (Addr×Obj)}{σ:St}{H:Hp}{s:Shared}{a:Addr}{y v:V}{u r:Value}{o:Option V}{A:Around}{E:Value→Shared→Prop}
theorem Inv.big (I:Inv X pins σ H s):sysModules<s.heap.objs.size:=by
 have h:mainGlobals<s.heap.objs.size:=(I.mod.glob.keeps I.bk).lt
 exact Nat.lt_trans (by decide) h
theorem zfk {Q : Value → Shared → Prop}(hu : A.units+1<cLine)(I : Inv X pins σ H s)(g : DGet H a y (some v))(ry : RelV y u)(h : ∀ w' s', Inv X pins σ H s' → RelV v w' → Q w' s') :
  wpAny (model X.prog X.w) A (getItem (.ref a) u) Q E s:=by
 rcases g with ⟨kvs,k,e,ey,l⟩|⟨kvs,k,b,e,ey,eb,l⟩
 ·subst ey
  obtain ⟨z,hd,vs,rel,dd⟩:=zlu I.hok e
  obtain ⟨w',hw,rw'⟩:=RelO.some_of (v:=v) (o:=valueAt vs k) (by rw[l];exact rel.val k)
  exact wpAny_getItem_of (zhf ry) dd.mapOf hw (h w' _ (I.tok _) rw')
 ·subst ey
  cases (show u=Value.ref b from ry)
  obtain ⟨z,hd,xs,rel,dd⟩:=zlt I.hok e
  obtain ⟨w',hw,rw'⟩:=RelO.some_of (v:=v) (o:=(atKey xs k).map (·.2)) (by rw[l];exact rel.val k)
  obtain ⟨p,hp,hp2⟩:=Option.map_eq_some_iff.mp hw
  refine wpAny_getItem_heap (tupleKind_room_in1 hu) (zev I.hok eb) dd hp ?_
  rw[hp2]
  exact h w' _ (I.tok _) rw'
theorem zaw {h' : Heap}{t' : Nat}{ob : HO}(I : Inv X pins σ H s)(mu : Mut (H a))(hs : Heap.SameBut a s.heap h')(he : ∃ q, h'.get? a = some q)(new : ObjOk X.prog X.w (upd H a ob) h' a ob) :
  Inv X pins σ (upd H a ob) {s with heap:=h',toks:=t'}:=
 I.write (x:=a) (e:=a) mu (.inl rfl) (fun b q hb z=>(hs.2 b hb).trans z) he new
theorem zj4 {P : Program}{w : World}{H' : Hp}{h' : Heap}{kvs : List (Key × V)}{vs : List (Key × Value)}(z : kvs.length ≤ sizeLine)(hd : (a == sysModules) = false)(rel : KV kvs vs)(dd : h'.DictOf (z1y P w) a vs) :
  ObjOk P w H' h' a (.dK kvs):=⟨z,hd,vs,rel,dd⟩
theorem zfj {H' : Hp}{Q : Unit → Shared → Prop}(hu : A.units+1<cLine)(I : Inv X pins σ H s)(g : DPut H a y v H')(ry : RelV y u)(rv : RelV v r)(h : ∀ s', Inv X pins σ H' s' → Q () s') :
  wpAny (model X.prog X.w) A (setItem (.ref a) u r) Q E s:=by
 rcases g with ⟨kvs,k,e,ey,l,eH⟩|⟨kvs,k,b,e,ey,eb,l,eH⟩
 ·subst ey eH
  obtain ⟨z,hd,vs,rel,dd⟩:=zps I.hok e
  have hz:vs.length≤sizeLine:=by rw[←rel.length];exact z
  have hl:(z7c kvs k v).length≤sizeLine:=by have:=z4c kvs k v;omega
  refine wpAny_setItem_pairs (hsz:=hz) (zhf ry) dd fun h' dd' hs=>h _ ?_
  have he:∃q,h'.get? a=some q:=let ⟨q,_,_,hq,_⟩:=dd';⟨q,hq⟩
  exact zaw I (by rw[e];exact True.intro) hs he (zj4 hl hd (rel.put k rv) dd')
 ·subst ey eH
  cases (show u=Value.ref b from ry)
  obtain ⟨z,hd,xs,rel,dd⟩:=zs8 I.hok e
  have hz:xs.length≤sizeLine:=by rw[←Paired.length rel];exact z
  have hl:(z7c kvs k v).length≤sizeLine:=by have:=z4c kvs k v;omega
  refine wpAny_setItem_heap (hsz:=hz) (tupleKind_room_in1 hu) (zev I.hok eb) dd fun h' dd' hs=>h _ ?_
  obtain ⟨q,es,ep,hq,h2,h3,h4,_,h5⟩:=dd'
  refine zaw I (by rw[e];exact True.intro) hs ⟨q,hq⟩ ⟨hl,hd,_,(rel.put k eb rv).keeps fun c ys ec=>?_,q,es,ep,hq,h2,h3,h4,h5⟩
  rw[z0f (zrr ec e (fun z=>nomatch z))]
  exact ec
end
section
variable {X:Cx}{pins:List (Addr×Obj)}{σ:St}{H:Hp}{s:Shared}{a:Addr}{kvs:List (Key×V)}{k:Key}{u:Value}{A:Around}{E:Value→Shared→Prop}
end
noncomputable def zsf (i:Expr):Prop:=∀ov iv,subscripted i false ov iv=operate [ov,iv] (getItem ov iv)
theorem zjs {prog : Program}{w : World}{A : Around}{E : Value → Shared → Prop}{s : Shared}{env : Env}{value slice : Expr}{pos : Pos}{T id : String}{Q : Value → Shared → Prop}
  (hl:typeLookup (.type T) "__getitem__"=pure (some (.builtin id)))(hs:zsf slice)
  (h:wpAny (model prog w) A (eval value env) (fun o s₁=>wpAny (model prog w) A (eval slice env) (fun i s₂=>s₂.TypeIs o T∧wpAny (model prog w) A (getItem o i) Q E s₂) E s₁) E s) :
  wpAny (model prog w) A (eval (.Subscript value slice pos) env) Q E s:=by
 refine Subscript_ (wpAny_mono h (fun o s₁ h₁=>wpAny_mono h₁ (fun i s₂ h₂=>?_) fun _ _ x=>x) fun _ _ x=>x)
 obtain ⟨hT,h₂⟩:=h₂
 unfold subscriptTail
 refine wpAny_bind ?_
 rw[getitemInPython_of_ne hT.not_modules]
 refine wpAny_bind (wpAny_specialOf hT hl ?_)
 have fin:wpAny (model prog w) A (subscripted slice false o i) (fun r s₃=>wpAny (model prog w) A (letTemporaryGo value o r >>= fun _=>pure r) Q E s₃) E s₂:=by
  rw[hs o i]
  exact wpAny_operating (wpAny_mono h₂ (fun r s₃ h₃=>wpAny_bind (wpAny_letTemporaryGo (wpAny_pure h₃))) fun _ _ x=>x)
 first
  |exact wpAny_pure (wpAny_bind fin)
  |exact wpAny_bind (wpAny_pure (wpAny_bind fin))
  |exact wpAny_bind fin
theorem zat {X:Cx}{pins:List (Addr×Obj)}{σ:St}{H:Hp}{s:Shared}{a:Addr}{y:V}{o:Option V}(I:Inv X pins σ H s)(g:DGet H a y o):s.TypeIs (.ref a) "dict":=by
 rcases g with ⟨kvs,k,e,_,_⟩|⟨kvs,k,b,e,_,_,_⟩
 ·obtain ⟨_,_,vs,_,dd⟩:=zlu I.hok e
  exact dd.typeIs
 ·obtain ⟨_,_,xs,_,dd⟩:=zlt I.hok e
  exact dd.typeIs
noncomputable def zmq (td ty:TE):TE:=fun σ H Q=>td σ H fun x H1=>ty σ H1 fun y H2=>∃a v,x=.ref a∧DGet H2 a y (some v)∧Q v H2
noncomputable def znc (td ty tv:TE):TS:=fun D σ H=>tv σ H fun v H1=>td σ H1 fun x H2=>ty σ H2 fun y H3=>∃a H4,x=.ref a∧DPut H3 a y v H4∧D.nx σ H4
section
variable {X:Cx}{o i e value:Expr}{pos pos' tpos:Pos}{td ty tv:TE}
theorem zl4 (hu:X.A.units+1<cLine)(ho:PE X o td)(hi:PE X i ty)(hs:zsf i):PE X (.Subscript o i pos) (zmq td ty):=by
 intro pins s σ H Q I h
 refine zjs PySem.F.slot_dict_getitem.lookup hs (thn (ho pins s σ H _ I h) fun u s1 ⟨x,H1,I1,rx,q1⟩=>thn (hi pins s1 σ H1 _ I1 q1) fun iv s2 ⟨y,H2,I2,ry,a,v,ex,g,q2⟩=>?_)
 subst ex
 obtain rfl:u=Value.ref a:=rx
 exact ⟨zat I2 g,zfk hu I2 g ry fun w' s3 I3 rw'=>⟨v,H2,I3,rw',q2⟩⟩
theorem zkt (hu : X.A.units+1<cLine)(ho : PE X o td)(hi : PE X i ty)(hv : PE X value tv)(hs : swapsWith value (some (.Subscript o i pos')) pos.line X.env = pure false) :
  PS X (.Assign [.Subscript o i pos'] value pos) (znc td ty tv):=by
 intro pins s σ H D I h
 refine wpAny_Assign_Subscript (thn (hv pins s σ H _ I h) fun r s1 ⟨v,H1,I1,rv,q1⟩=>thn (ho pins s1 σ H1 _ I1 q1) fun u s2 ⟨x,H2,I2,rx,q2⟩=>thn (hi pins s2 σ H2 _ I2 q2) fun iv s3 ⟨y,H3,I3,ry,a,H4,ex,g,q3⟩=>?_) hs
 subst ex
 obtain rfl:u=Value.ref a:=rx
 exact zfj hu I3 g ry rv fun s4 I4=>⟨σ,H4,I4,q3⟩
end
theorem zhn {P:Program}{w:World}{H:Hp}(h:Heap)(hb:sysModules<h.objs.size):ObjOk P w H (h.push {cls:=.type "dict",data:=.dict #[]}) h.objs.size (.dK []):=
 ⟨Nat.zero_le _,beq_eq_false_iff_ne.mpr (Ne.symm (Nat.ne_of_lt hb)),[],.nil,Heap.DictOf.new h⟩
section
variable {X:Cx}{pos:Pos}
end
noncomputable def zdh:List (TE×TE)→St→Hp→(List (V×V)→Hp→Prop)→Prop
 | [],_,H,Q=>Q [] H
 | (tk,tv)::r,σ,H,Q=>tk σ H fun x H1=>tv σ H1 fun y H2=>zdh r σ H2 fun ps H3=>Q ((x,y)::ps) H3
noncomputable abbrev VV:List (V×V)→List (Value×Value)→Prop:=Paired fun p q=>RelV p.1 q.1∧RelV p.2 q.2
noncomputable def PPs (X:Cx)(pos:Pos)(keys:List (Option Expr))(values:List Expr)(trs:List (TE×TE)):Prop:=
 ∀(pins:List (Addr×Obj))(s:Shared)(σ:St)(H:Hp)(Q:List (V×V)→Hp→Prop),Inv X pins σ H s→zdh trs σ H Q→
  wpAny (model X.prog X.w) X.A (evalPairs (pairTrees keys values X.env pos)) (fun vs s'=>∃ps H',Inv X pins σ H' s'∧VV ps vs∧Q ps H') X.xe s
theorem zkv {X:Cx}{pos:Pos}:PPs X pos [] [] []:=fun pins s σ H Q I h=>pairTrees_nil_walk ⟨[],H,I,.nil,h⟩
theorem zgv {X : Cx}{pos : Pos}{k v : Expr}{ks : List (Option Expr)}{vs : List Expr}{tk tv : TE}{trs : List (TE × TE)}(hk : PE X k tk)(hv : PE X v tv)(hr : PPs X pos ks vs trs) :
  PPs X pos (some k::ks) (v::vs) ((tk,tv)::trs):=fun pins s σ H Q I h=>
 pairTrees_cons_walk (thn (hk pins s σ H _ I h) fun u s1 ⟨x,H1,I1,rx,q1⟩=>thn (hv pins s1 σ H1 _ I1 q1) fun w2 s2 ⟨y,H2,I2,ry,q2⟩=>
  thn (hr pins s2 σ H2 _ I2 q2) fun ws s3 ⟨ps,H3,I3,rel,q3⟩=>⟨(x,y)::ps,H3,I3,.cons ⟨rx,ry⟩ rel,q3⟩)
noncomputable def z9f (kvs more:List (Key×V)):List (Key×V):=more.foldl (fun acc kv=>z7c acc kv.1 kv.2) kvs
theorem KV.merge:∀{more:List (Key×V)}{rs:List (Key×Value)}{kvs:List (Key×V)}{vs:List (Key×Value)},KV more rs→KV kvs vs→KV (z9f kvs more) (merged vs rs):=by
 intro more rs kvs vs r
 unfold KV at r
 induction r generalizing kvs vs with
 | nil=>intro q;exact q
 | @cons p q ps qs h t ih=>
  intro r0
  have e:KV (z7c kvs p.1 p.2) (stored vs q.1 q.2):=by
   have:=r0.put p.1 h.2
   rw[←h.1];exact this
  exact ih e
theorem z4q:∀(more kvs:List (Key×V)),(z9f kvs more).length≤kvs.length+more.length
 | [],kvs=>by show kvs.length≤kvs.length+0;omega
 | p::r,kvs=>by
  have h1:=z4q r (z7c kvs p.1 p.2)
  have h2:=z4c kvs p.1 p.2
  show (z9f (z7c kvs p.1 p.2) r).length≤_
  rw[List.length_cons];omega
theorem z7k {P:Program}{w:World}:∀{kvs:List (Key×V)}{ws:List (Value×Value)},VV (kvs.map fun kv=>(kV kv.1,kv.2)) ws→∃rs,Carries (z1y P w) ws rs∧KV kvs rs
 | [],_,r=>by rw[List.map_nil]at r;cases r;exact ⟨[],True.intro,.nil⟩
 | p::kvs,_,r=>by
  rw[List.map_cons]at r
  cases r with
  | @cons a b as bs h t=>
   obtain ⟨rs,c,q⟩:=z7k (P:=P) (w:=w) t
   obtain ⟨b1,b2⟩:=b
   exact ⟨(p.1,b2)::rs,⟨zhf h.1,rfl,c⟩,.cons ⟨rfl,h.2⟩ q⟩
noncomputable def zmp (trs:List (TE×TE)):TE:=fun σ H Q=>∀p,H p=none→zdh trs σ (upd H p (.dK [])) fun ps H2=>H2 p=some (.dK [])∧∃kvs:List (Key×V),ps=kvs.map (fun kv=>(kV kv.1,kv.2))∧kvs.length≤15∧Q (.ref p) (upd H2 p (.dK (z9f [] kvs)))
theorem zl3 {X : Cx}{pos : Pos}{keys : List (Option Expr)}{values : List Expr}{trs : List (TE × TE)}(h : PPs X pos keys values trs)(hall : keys.all (·.isSome) = true)(hl : keys.length = values.length)(h0 : keys ≠ [])
  (h15:keys.length≤15):PE X (.Dict keys values pos) (zmp trs):=by
 intro pins s σ H Q I q
 have hn:=I.hok.fresh (Nat.le_refl s.heap.objs.size)
 have I1:=I.laid (a:=s.heap.objs.size) (o:=.dK []) (h':=s.heap.push {cls:=.type "dict",data:=.dict #[]}) (t':=s.toks) (fun _ _ q=>Heap.get?_push_of_some _ q) (Nat.le_refl _) (zhn s.heap I.big)
 refine wpAny_Dict_walk (knd:=z1y X.prog X.w) hall hl h0 h15 (thn (h pins _ σ _ _ I1 (q _ hn)) fun ws s2 ⟨ps,H2,I2,rel,e,kvs,ep,lk,q2⟩=>?_)
 subst ep
 obtain ⟨rs,c,rk⟩:=z7k (P:=X.prog) (w:=X.w) rel
 obtain ⟨z,hd,vs0,r0,dd⟩:=zps I2.hok e
 cases r0
 refine ⟨rs,c,dd,fun h' dd' hs=>⟨.ref s.heap.objs.size,_,?_,rfl,q2⟩⟩
 have hz:(z9f [] kvs).length≤sizeLine:=by
  have h1:=z4q kvs []
  rw[List.length_nil]at h1
  rw[sizeLine_eq];omega
 have he:∃q,h'.get? s.heap.objs.size=some q:=let ⟨q,_,_,hq,_⟩:=dd';⟨q,hq⟩
 exact zaw I2 (by rw[e];exact True.intro) hs he (zj4 hz hd (rk.merge .nil) dd')
end
section
section
variable {X:Cx}
theorem zgq {pos:Pos}:PPs X pos [] [] []:=zkv
theorem z4l {pos:Pos}{k v:Expr}{ks:List (Option Expr)}{vs:List Expr}{tk tv:TE}{trs:List (TE×TE)}(hk:QE X k tk)(hv:QE X v tv)(hr:PPs X pos ks vs trs):PPs X pos (some k::ks) (v::vs) ((tk,tv)::trs):=zgv hk.o hv.o hr
theorem zgr {pos:Pos}{keys:List (Option Expr)}{values:List Expr}{trs:List (TE×TE)}(h:PPs X pos keys values trs)(hall:keys.all (·.isSome)=true:=by rfl)(hl:keys.length=values.length:=by rfl)(h0:keys≠[]:=by simp)(h15:keys.length≤15:=by decide):QE X (.Dict keys values pos) (zmp trs):=
 ⟨zl3 h hall hl h0 h15⟩
end
end
end L2
namespace L2
open PySem PySem.Spec PyProof.Rows
noncomputable def z4f:PyData→String
 | .none=>"NoneType"
 | .bool _=>"bool"
 | .int _=>"int"
 | .str _=>"str"
 | .list _=>"list"
 | .tuple _=>"tuple"
 | .dict _=>"dict"
theorem Dv.ty {K:W.Frag}{H:Hp}{v:V}{d:PyData}(h:Dv K H v d):TyD K H v (z4f d):=by
 cases h with
 | non=>exact .non
 | bl b=>exact .bl b
 | int i=>exact .int i
 | str x=>exact .str x
 | lst h _=>exact .lst h
 | tup h _=>exact .tup h
 | dct h _ _=>exact .dK h
noncomputable def z9j:PyData→Bool
 | .bool _=>true
 | .int _=>true
 | _=>false
noncomputable def z88:PyData→Bool
 | .bool _=>true
 | _=>false
noncomputable def z2x:PyData→Bool
 | .tuple _=>true
 | _=>false
noncomputable def zpa:PyData→Bool
 | .list _=>true
 | _=>false
noncomputable def isW:PyData→Bool
 | .int _=>true
 | _=>false
section
variable {K:W.Frag}
theorem zli (d:PyData):PySem.W.kitOne K (.type (z4f d)) (.type "int")=some (z9j d):=by cases d<;>rfl
theorem zhd (d:PyData):PySem.W.kitOne K (.type (z4f d)) (.type "bool")=some (z88 d):=by cases d<;>rfl
theorem zeu (d:PyData):PySem.W.kitOne K (.type (z4f d)) (.type "tuple")=some (z2x d):=by cases d<;>rfl
end
theorem zp9 (d:PyData):isW d=(z9j d&&!z88 d):=by cases d<;>rfl
theorem Dv.whole {K:W.Frag}{H:Hp}{v:V}{d:PyData}(h:Dv K H v d):(∃z,d=.int z∧v=.int z)∨isW d=false:=by
 cases h with
 | int i=>exact .inl ⟨i,rfl,rfl⟩
 | non=>exact .inr rfl
 | bl b=>exact .inr rfl
 | str x=>exact .inr rfl
 | lst h _=>exact .inr rfl
 | tup h _=>exact .inr rfl
 | dct h _ _=>exact .inr rfl
end L2
set_option Elab.async false
set_option linter.all false
set_option maxRecDepth 100000
namespace HT
open PySem PySem.Spec PyProof.Rows
section
variable {prog:Program}{w:World}{A:Around}{E:Value→Shared→Prop}{s:Shared}
theorem zcs (n:Nat):Builtin.Slice.slicePlaces ((n:Int)-1) (-1) (-1)=n:=by
 unfold Builtin.Slice.slicePlaces
 rw[if_neg (by decide)]
 split
 ·have e:((n:Int)-1 - -1-1) / -(-1)=(n:Int)-1:=by rw[show -(-1:Int)=1 from rfl,Int.ediv_one];omega
  rw[e];omega
 ·have:n=0:=by omega
  subst this;rfl
theorem z5d {sl:Addr}{n:Nat}{t:Tok}{Q:Int×Int×Nat→Shared→Prop}(hs:s.heap.IsSliceOf sl .none .none (.int (-1) t))(h:Q ((n:Int)-1,-1,n) s):wpAny (model prog w) A (Builtin.Slice.sliceApplied (.ref sl) (pure (n:Int))) Q E s:=by
 obtain ⟨os,hos,hcs,hds⟩:=id hs
 unfold Builtin.Slice.sliceApplied Builtin.Slice.sliceFields
 refine wpAny_bind (wpAny_bind (wpAny_field hos hds (x:=.none) rfl (wpAny_bind (wpAny_field hos hds (x:=.none) rfl (wpAny_bind (wpAny_field hos hds (x:=.int (-1) t) rfl (wpAny_pure ?_)))))))
 refine wpAny_bind (slicePart_int ?_)
 show wpAny _ _ (if ((-1:Int) == 0)=true then _ else _) _ _ s
 rw[if_neg (by decide)]
 refine wpAny_bind (slicePart_none (wpAny_bind (slicePart_none (wpAny_bind (wpAny_pure ?_)))))
 show wpAny _ _ (pure ((n:Int)-1,(-1:Int),Builtin.Slice.slicePlaces ((n:Int)-1) (-1) (-1))) _ _ s
 rw[zcs]
 exact wpAny_pure h
theorem z98 {α:Type}(l:List α)(f:Nat→Option α):∀n,n≤l.length→(∀k,k<n→f k=l[k]?)→(List.range n).filterMap f=l.take n
 | 0,_,_=>rfl
 | n+1,h,hf=>by
  rw[List.range_succ,List.filterMap_append,z98 l f n (by omega) (fun k hk=>hf k (by omega))]
  have e:f n=some (l[n]'(by omega)):=by rw[hf n (by omega),List.getElem?_eq_getElem (by omega)]
  rw[List.take_succ_eq_append_getElem (by omega)]
  simp[e]
theorem zgw (xs:Array Value):((List.range xs.size).filterMap fun (k:Nat)=>xs[((xs.size:Int)-1+(k:Int)*(-1)).toNat]?).toArray=xs.toList.reverse.toArray:=by
 congr 1
 rw[z98 xs.toList.reverse _ xs.size (by simp) (fun k hk=>?_),List.take_of_length_le (by simp)]
 have e1:((xs.size:Int)-1+(k:Int)*(-1)).toNat=xs.size-1-k:=by omega
 rw[e1,List.getElem?_reverse (by simpa using hk),Array.length_toList,Array.getElem?_toList]
theorem getItem_tuple_rev {t sl : Addr}{items : Array Value}{tk : Tok}{Q : Value → Shared → Prop}(ht : IsTup s.heap t items)(hs : s.heap.IsSliceOf sl .none .none (.int (-1) tk))
  (h:Q (.ref s.heap.objs.size) {s with heap:=s.heap.push {cls:=.type "tuple",data:=.seq items.toList.reverse.toArray}})(hsz:items.size≤sizeLine):wpAny (model prog w) A (getItem (.ref t) (.ref sl)) Q E s:=by
 have htake:sizeOk (.seq items.toList.reverse.toArray):=by
  show items.toList.reverse.toArray.size≤sizeLine
  simpa using hsz
 obtain ⟨os,hos,hcs,hds⟩:=id hs
 have hTs:s.TypeIs (.ref sl) "slice":=⟨os,hos,hcs⟩
 unfold getItem;try with_reducible refine wpAny_holding ?_
 first|refine wpAny_bind (wpAny_pure ?_)|skip
 refine wpAny_bind (wpAny_sequenceKey ht.typeIs (by decide) ?_);refine wpAny_bind (wpAny_callSpecial?_slot (name:=Str.ofString "__getitem__") ht.typeIs PyProof.Rows.slot_tuple_getitem (wpAny_call_entry PyProof.Rows.slot_tuple_getitem ht.typeIs entry_tuple_getitem ?_ (args_tuple_getitem _ _)))
 show wpAny _ _ (Builtin.Tuple.tupleItemsOf (.ref t) >>= _) _ _ s;refine wpAny_bind (tupleItemsOf_ ht ?_)
 refine wpAny_bind (wpAny_typeOf hTs ?_);rw[if_pos (by decide)]
 refine wpAny_bind (z5d hs ?_)
 show wpAny _ _ (if (((items.size:Int)-1) == 0&&(-1:Int) == 1&&items.size == items.size)=true then _ else _) _ _ s
 rw[if_neg (by simp),zgw]
 first
  |exact wpAny_bind (m:=Builtin.Tuple.tupleExact _) (wpAny_newObj_type (wpAny_pure ⟨_,rfl,wpAny_pure h⟩) htake)
  |exact wpAny_bind (m:=Builtin.Tuple.tupleExact _) (wpAny_newObj_type (wpAny_bind (wpAny_pure (wpAny_pure ⟨_,rfl,wpAny_pure h⟩))) htake)
  |exact wpAny_bind (wpAny_bind (m:=Builtin.Tuple.tupleExact _) (wpAny_newObj_type (wpAny_pure (wpAny_pure ⟨_,rfl,wpAny_pure h⟩)) htake))
end
end HT
namespace L2
open PySem PySem.Spec PyProof.Rows
theorem Vals.rev {xs:List V}{us:List Value}(h:Vals xs us):Vals xs.reverse us.reverse:=by
 induction h with
 | nil=>exact .nil
 | cons h t ih=>rw[List.reverse_cons,List.reverse_cons];exact ih.append (.cons h .nil)
section
variable {X:Cx}
noncomputable def zmm (K:W.Frag)(te:TE)(ts:TO):TE:=fun σ H Q=>te σ H fun x H1=>ts σ H1 fun o H2=>o=some (-1)∧∃a xs,x=.ref a∧SqT K H2 a xs∧∀p,H2 p=none→Q (.ref p) (upd H2 p (.tup xs.reverse))
theorem zl1 {e st:Expr}{te:TE}{ts:TO}{p3 pos:Pos}(he:PE X e te)(hs:PO X (some st) ts):PE X (.Subscript e (.Slice none none (some st) p3) pos) (zmm X.K te ts):=by
 intro pins s σ H Q I h
 refine Subscript_ (thn (he pins s σ H _ I h) fun v s1 ⟨x,H1,I1,r1,q1⟩=>?_)
 refine wpAny_Slice ?_
 rw[evalPart_none]
 refine wpAny_pure (wpAny_pure (thn (hs pins s1 σ H1 _ I1 q1) fun vs s2 ⟨o,H2,I2,ps,q2⟩=>?_))
 obtain ⟨rfl,a,xs,rfl,hx,q⟩:=q2
 cases r1
 have I3:Inv X pins σ H2 {s2 with heap:=s2.heap.push {cls:=.type "slice",data:=.fields #[.none,.none,vs]}}:=I2.kept (t':=s2.toks) fun b ob q=>Heap.get?_push_of_some _ q
 cases ps with
 | int _ t=>
  obtain ⟨its,r,ht,hz⟩:=I3.tuple hx
  have hlen:its.toArray.size=xs.length:=by rw[List.size_toArray];exact r.length.symm
  show wpAny (model X.prog X.w) X.A (subscriptTail e (.Slice none none (some st) p3) (.ref a) (.ref s2.heap.objs.size)) (EP X pins σ Q) X.xe {s2 with heap:=s2.heap.push {cls:=.type "slice",data:=.fields #[.none,.none,.int (-1) t]}}
  refine tail_any (ops:=[.ref a,.ref s2.heap.objs.size]) ht.typeIs PyProof.Rows.slot_tuple_getitem.lookup ?_ (by with_unfolding_all rfl)
  refine HT.getItem_tuple_rev ht (Heap.IsSliceOf.new ..) ?_ (by rw[hlen];exact hz)
  refine ⟨.ref _,_,I3.laid (t':=s2.toks) (o:=.tup xs.reverse) (fun b ob q=>Heap.get?_push_of_some _ q) (Nat.le_refl _) ?_,rfl,q _ (I3.hok.fresh (Nat.le_refl _))⟩
  exact ⟨by rw[List.length_reverse];exact hz,_,r.rev,IsTup.new _ _⟩
theorem zbr {K:W.Frag}(hK:X.K=K){e st:Expr}{te:TE}{ts:TO}{p3 pos:Pos}(he:QE X e te)(hs:QO X (some st) ts):QE X (.Subscript e (.Slice none none (some st) p3) pos) (zmm K te ts):=hK▸⟨zl1 he.o hs.o⟩
end
end L2
namespace L2
open PySem PySem.Spec PyProof.Rows
noncomputable def shB:PyData→Bool
 | .tuple [.int a,.int b]=>decide (1≤b)&&decide (Int.gcd a b=1)
 | _=>false
theorem zk3 {d:PyData}(h:z2x d=false):shB d=false:=by cases d<;>first|rfl|cases h
theorem zk4 {ds:List PyData}(h:ds.length≠2):shB (.tuple ds)=false:=by
 match ds,h with
 | [],_=>rfl
 | [x],_=>cases x<;>rfl
 | [x,y],h=>exact absurd rfl h
 | x::y::z::r,_=>cases x<;>cases y<;>rfl
theorem zds {x y:PyData}(h:isW x=false∨isW y=false):shB (.tuple [x,y])=false:=by
 rcases h with h|h
 ·cases x<;>cases y<;>first|rfl|cases h
 ·cases x<;>cases y<;>first|rfl|cases h
theorem Dv.tup_inv {K:W.Frag}{H:Hp}{v:V}{ds:List PyData}(h:Dv K H v (.tuple ds)):∃a xs,v=.ref a∧SqT K H a xs∧DvAll K H xs ds:=by
 cases h with
 | tup hs t=>exact ⟨_,_,rfl,hs,t⟩
theorem zc5 {d:PyData}(h:z2x d=true):∃ds,d=.tuple ds:=by cases d<;>first|exact ⟨_,rfl⟩|cases h
theorem SqT.kp {K:W.Frag}{H H':Hp}{a:Addr}{xs:List V}(h:SqT K H a xs)(e:Keep H H'):SqT K H' a xs:=by
 rcases h with h|h
 ·exact .inl (e _ _ h)
 ·exact .inr h
theorem z92 (x y:Rat):PyData.eqv (sh x) (sh y)=decide (x=y):=by
 have key:PyData.eqv (sh x) (sh y)=(decide (x.num=y.num)&&decide ((x.den:Int)=(y.den:Int))):=by
  unfold sh
  simp[PyData.eqv,PyData.eqvAll]
  rfl
 rw[key]
 by_cases h:x=y
 ·subst h;simp
 ·rw[decide_eq_false h]
  by_cases h1:x.num=y.num
  ·have h2 : ¬ (x.den : Int) = (y.den : Int) := fun e => h (by
    refine Rat.ext h1 ?_
    exact Int.ofNat_inj.mp e)
   rw[decide_eq_false h2,Bool.and_false]
  ·rw[decide_eq_false h1,Bool.false_and]
theorem za8:∀rs ts:List Rat,PyData.eqvAll (rs.map sh) (ts.map sh)=decide (rs=ts)
 | [],[]=>by simp[PyData.eqvAll]
 | [],_::_=>by simp[PyData.eqvAll]
 | _::_,[]=>by simp[PyData.eqvAll]
 | x::rs,y::ts=>by
  rw[List.map_cons,List.map_cons]
  show (PyData.eqv (sh x) (sh y)&&PyData.eqvAll (rs.map sh) (ts.map sh))=_
  rw[z92,za8 rs ts]
  by_cases h:x=y
  ·subst h
   by_cases h2:rs=ts
   ·subst h2;simp
   ·simp[h2]
  ·simp[h]
theorem zao:∀rs:List Rat,PyData.canLayAll0 (rs.map sh)=true
 | []=>rfl
 | x::rs=>by
  rw[List.map_cons]
  show (PyData.canLay0 (sh x)&&PyData.canLayAll0 (rs.map sh))=true
  rw[zao rs];rfl
theorem zav:∀rs:List Rat,PyData.depthAll (rs.map sh)≤1
 | []=>by simp[PyData.depthAll]
 | x::rs=>by
  rw[List.map_cons]
  show max (PyData.depth (sh x)) (PyData.depthAll (rs.map sh))≤1
  exact Nat.max_le.mpr ⟨by show 1≤1;decide,zav rs⟩
noncomputable def pl (rs:List Rat):PyData:=.tuple (rs.map sh)
theorem z6j (rs:List Rat):(pl rs).canLay0=true:=by unfold pl;simp only[PyData.canLay0];exact zao rs
theorem zet (rs:List Rat):(PyData.list (rs.map sh)).canLay0=true:=by simp only[PyData.canLay0];exact zao rs
theorem zcg (rs:List Rat):(pl rs).depth≤60:=by unfold pl;simp only[PyData.depth];have:=zav rs;omega
theorem zlw (rs:List Rat):(PyData.list (rs.map sh)).depth≤60:=by simp only[PyData.depth];have:=zav rs;omega
theorem ze6 (rs ts:List Rat):PyData.eqv (pl rs) (pl ts)=decide (rs=ts):=by unfold pl;simp only[PyData.eqv];exact za8 rs ts
theorem zlh (rs ts:List Rat):PyData.eqv (.list (rs.map sh)) (.list (ts.map sh))=decide (rs=ts):=by simp only[PyData.eqv];exact za8 rs ts
theorem zaz {α:Type}{xs:List α}{v:α}(h:xs[xs.length-1]?=some v):atI xs (-1)=some v:=by
 have hl:=(List.getElem?_eq_some_iff.mp h).1
 unfold atI ixN
 rw[if_neg (by decide),if_pos (by omega)]
 have e:(-1+(xs.length:Int)).toNat=xs.length-1:=by omega
 rw[e]
 exact h
theorem zlm {n:Nat}(h:0<n):ixN n (-1)=some (n-1):=by
 unfold ixN
 rw[if_neg (by decide),if_pos (by omega)]
 congr 1;omega
theorem zk5 {d:PyData}(h:shB d=true):∃q:Rat,d=sh q:=by
 unfold shB at h
 split at h
 ·rename_i a b
  rw[Bool.and_eq_true]at h
  have h1:=of_decide_eq_true h.1
  have h2:=of_decide_eq_true h.2
  refine ⟨Rat.divInt a b,?_⟩
  obtain ⟨e1,e2,e3⟩:=zc2 (a:=a) (b:=b) (by omega) (Int.gcd a b:Int) (by rw[if_neg (by omega)])
  rw[h2]at e1 e2
  unfold sh
  rw[←e1,←e2]
  simp
 ·cases h
theorem zn7 (q:Rat):shB (sh q)=true:=by
 have h1:=den_pos q
 show (decide (1≤(q.den:Int))&&decide (Int.gcd q.num (q.den:Int)=1))=true
 rw[decide_eq_true (show 1≤(q.den:Int) by omega),Bool.true_and]
 exact decide_eq_true (by have:=q.reduced;simpa [Int.gcd] using this)
noncomputable def aSh:PyData→Bool
 | .tuple ds=>ds.all shB
 | _=>false
theorem zm5 {d:PyData}(h:z2x d=false):aSh d=false:=by cases d<;>first|rfl|cases h
theorem z8m {d:PyData}(h:aSh d=true):∃rs,d=pl rs:=by
 unfold aSh at h
 split at h
 ·rename_i ds
  have key:∀l:List PyData,l.all shB=true→∃rs:List Rat,l=rs.map sh:=by
   intro l
   induction l with
   | nil=>exact fun _=>⟨[],rfl⟩
   | cons x r ih=>
    intro h
    rw[List.all_cons,Bool.and_eq_true]at h
    obtain ⟨q,rfl⟩:=zk5 h.1
    obtain ⟨rs,rfl⟩:=ih h.2
    exact ⟨q::rs,rfl⟩
  obtain ⟨rs,rfl⟩:=key ds h
  exact ⟨rs,rfl⟩
 ·cases h
theorem zjb (rs:List Rat):aSh (pl rs)=true:=by
 show (rs.map sh).all shB=true
 rw[List.all_eq_true]
 intro d hd
 obtain ⟨q,_,rfl⟩:=List.mem_map.mp hd
 exact zn7 q
noncomputable def z0x (rs:List Rat):Bool:=decide (rs=[]) || !decide (rs.getD (rs.length-1) 0=0)
open Classical in
noncomputable def z6y (d:PyData):Bool:=if h:aSh d=true then z0x (Classical.choose (z8m h)) else false
theorem z96 {rs ts:List Rat}(h:pl rs=pl ts):rs=ts:=by
 have:=ze6 rs ts
 rw[h]at this
 have e:PyData.eqv (pl ts) (pl ts)=true:=PySem.SeqAt.eqv_refl _ (z6j ts)
 rw[e]at this
 exact of_decide_eq_true this.symm
theorem z80 (rs:List Rat):z6y (pl rs)=z0x rs:=by
 unfold z6y
 rw[dif_pos (zjb rs)]
 rw[←z96 (Classical.choose_spec (z8m (zjb rs)))]
theorem zbu {d:PyData}(h:aSh d=false):z6y d=false:=by
 unfold z6y
 rw[dif_neg (by rw[h];exact Bool.false_ne_true)]
theorem DvAll.set {K:W.Frag}{H:Hp}:∀{vs:List V}{ds:List PyData}(i:Nat){v:V}{d:PyData},DvAll K H vs ds→Dv K H v d→DvAll K H (vs.set i v) (ds.set i d)
 | _,_,_,_,_,.nil,_=>.nil
 | _,_,0,_,_,.cons _ t,h=>.cons h t
 | _,_,i+1,_,_,.cons h t,k=>.cons h (DvAll.set i t k)
structure El (e:PyData):Prop where
 sw:Sw 3 2000 e
 bt:∀a b,e=.tuple [.int a,.int b]→Bt 8999 b
noncomputable def GoodR (d:PyData):Prop:=∀ds,d=.tuple ds→ds.length≤5000∧∀e∈ds,∀a b,e=.tuple [.int a,.int b]→Bt 8999 b
theorem GoodR.no {d:PyData}(h:z2x d=false):GoodR d:=fun ds e=>by rw[e]at h;cases h
theorem El.int {z:Int}(h:Bt 200 z):El (.int z):=⟨(Sw.intB h (by decide) (by decide)).mono (by decide) (by decide),fun a b e=>by cases e⟩
theorem El.pair {x y:Int}(h1:Bt 200 x)(h2:Bt 200 y):El (.tuple [.int x,.int y]):=
 ⟨(Sw.pair (Sw.intB h1 (by decide) (by decide)) (Sw.intB h2 (by decide) (by decide))).mono (by decide) (by decide),fun a b e=>by
  injection e with e;injection e with e1 e;injection e with e2 e;injection e2 with e2
  rw[←e2];exact h2.mono (by decide)⟩
theorem El.sh {r:Rat}(h:Bs 50 r):El (L2.sh r):=El.pair (h.n.mono (by decide)) (h.d.mono (by decide))
noncomputable def Cd (D:Int)(m:Nat)(q:Rat):Prop:=∃t:Int,q=Rat.divInt t D∧Bt m t
theorem Cd.mono {D:Int}{m n:Nat}{q:Rat}(h:Cd D m q)(hm:m≤n):Cd D n q:=by
 obtain ⟨t,e,b⟩:=h
 exact ⟨t,e,b.mono hm⟩
theorem z3p {D:Int}(h0:D≠0)(s t:Int):Rat.divInt s D+Rat.divInt t D=Rat.divInt (s+t) D:=by
 rw[Rat.divInt_add_divInt _ _ h0 h0,←Int.add_mul,Rat.divInt_mul_right h0]
theorem z63 {D:Int}(h0:D≠0)(s t:Int):Rat.divInt s D-Rat.divInt t D=Rat.divInt (s-t) D:=by
 rw[Rat.divInt_sub_divInt _ _ h0 h0,←Int.sub_mul,Rat.divInt_mul_right h0]
theorem Cd.add {D:Int}{m:Nat}{q r:Rat}(h0:D≠0)(h:Cd D m q)(k:Cd D m r):Cd D (m+1) (q+r):=by
 obtain ⟨s,rfl,bs⟩:=h
 obtain ⟨t,rfl,bt⟩:=k
 exact ⟨s+t,z3p h0 s t,bs.add bt⟩
theorem Cd.sub {D:Int}{m:Nat}{q r:Rat}(h0:D≠0)(h:Cd D m q)(k:Cd D m r):Cd D (m+1) (q-r):=by
 obtain ⟨s,rfl,bs⟩:=h
 obtain ⟨t,rfl,bt⟩:=k
 exact ⟨s-t,z63 h0 s t,bs.sub bt⟩
theorem Cd.zero {D:Int}:Cd D 0 0:=⟨0,by simp,by decide⟩
theorem Cd.bs {D:Int}{m n:Nat}{q:Rat}(h0:D≠0)(h:Cd D m q)(hD:Bt n D)(hm:m≤n):Bs n q:=by
 obtain ⟨t,rfl,bt⟩:=h
 exact Bs.divInt (bt.mono hm) hD h0
theorem z29 {m:Nat}:∀{rs:List Rat},(∀r∈rs,Bs m r)→∃D:Int,D≠0∧Bt (m*rs.length+1) D∧∀r∈rs,Cd D (m*rs.length+1) r
 | [],_=>⟨1,by decide,Bt.mono (m:=1) (by decide) (by simp),fun r hr=>by simp at hr⟩
 | x::rs,h=>by
  obtain ⟨D,D0,bD,hD⟩:=z29 (m:=m) (rs:=rs) fun r hr=>h r (List.mem_cons_of_mem _ hr)
  have bx:=h x (List.mem_cons_self ..)
  have dx:=den_pos x
  have e:m*(x::rs).length+1=m*rs.length+1+m:=by simp[Nat.mul_add];omega
  rw[e]
  refine ⟨D*x.den,Int.mul_ne_zero D0 (by omega),bD.mul bx.d,fun r hr=>?_⟩
  rcases List.mem_cons.mp hr with rfl|hr
  ·refine ⟨D*r.num,?_,bD.mul bx.n⟩
   rw[Rat.divInt_mul_left D0,z2l]
  ·obtain ⟨t,et,bt⟩:=hD r hr
   refine ⟨t*x.den,?_,bt.mul bx.d⟩
   rw[Rat.divInt_mul_right (by omega)];exact et
theorem z18 {rs:List Rat}{i:Nat}(h:i<rs.length):rs.getD i 0∈rs:=by
 rw[List.getD_eq_getElem?_getD,List.getElem?_eq_getElem h]
 exact List.getElem_mem _
noncomputable def hor (x:Rat):List Rat→Rat
 | []=>0
 | a::r=>hor x r*x+a
noncomputable def dl:Nat→(Int→Rat)→Int→Rat
 | 0,f=>f
 | k+1,f=>fun x=>dl k f (x+1)-dl k f x
noncomputable def Pd:Nat→(Int→Rat)→Prop
 | 0,f=>∀x,f x=0
 | d+1,f=>Pd d fun x=>f (x+1)-f x
theorem Pd.congr {d:Nat}{f g:Int→Rat}(h:Pd d f)(e:∀x,f x=g x):Pd d g:=by
 have:f=g:=funext e
 exact this▸h
theorem Pd.add:∀{d:Nat}{f g:Int→Rat},Pd d f→Pd d g→Pd d fun x=>f x+g x
 | 0,f,g,h,k=>fun x=>by show f x+g x=0;rw[h x,k x];grind
 | d+1,f,g,h,k=>(Pd.add (d:=d) h k).congr fun x=>by grind
theorem Pd.succ:∀{d:Nat}{f:Int→Rat},Pd d f→Pd (d+1) f
 | 0,f,h=>fun x=>by show f (x+1)-f x=0;rw[h,h];grind
 | d+1,f,h=>Pd.succ (d:=d) h
theorem Pd.le {d e:Nat}{f:Int→Rat}(h:Pd d f)(hl:d≤e):Pd e f:=by
 induction e with
 | zero=>
  have:d=0:=by omega
  exact this▸h
 | succ e ih=>
  by_cases hd:d=e+1
  ·exact hd▸h
  ·exact (ih (by omega)).succ
theorem Bs.neg {m:Nat}{y:Rat}(h:Bs m y):Bs m (-y):=⟨by rw[Rat.neg_num];exact h.n.neg,by rw[Rat.neg_den];exact h.d⟩
end L2
set_option Elab.async false
set_option linter.all false
set_option maxRecDepth 100000
namespace L2
open PySem PySem.Spec PyProof.Rows
theorem ObjOk.there {P:Program}{w:World}{H:Hp}{h:Heap}{a:Addr}{o:HO}(x:ObjOk P w H h a o):∃u,h.get? a=some u:=by
 cases o with
 | lst xs=>obtain ⟨_,_,_,_,e⟩:=x;exact ⟨_,e⟩
 | tup xs=>obtain ⟨_,_,_,_,e,_⟩:=x;exact ⟨_,e⟩
 | dK kvs=>obtain ⟨_,_,_,_,o,_,_,e,_⟩:=x;exact ⟨_,e⟩
 | dT kvs=>obtain ⟨_,_,_,_,o,_,_,e,_⟩:=x;exact ⟨_,e⟩
 | set S n=>obtain ⟨o,_,_,_,e,_⟩:=x;exact ⟨_,e⟩
 | ins C dx fs=>obtain ⟨_,_,_,e,_⟩:=x;exact ⟨_,e⟩
 | own y=>obtain ⟨_,e⟩:=x;exact ⟨_,e⟩
 | xd fs=>obtain ⟨_,⟨_,_,_,e,_⟩,_⟩:=x;exact ⟨_,e⟩
 | rng lo hi=>obtain ⟨_,_,_,e⟩:=x;exact ⟨_,e⟩
 | frz ob u=>obtain ⟨e,_⟩:=x;exact ⟨_,e⟩
 | tbl ps=>exact ⟨_,(show h.get? a=some _ from x)⟩
 | met f y=>exact ⟨_,(show h.get? a=some _ from x)⟩
 | ext φ=>obtain ⟨_,⟨_,e⟩,_⟩:=x;exact ⟨_,e⟩
section
variable {X:Cx}{pins:List (Addr×Obj)}{σ:St}{H:Hp}{s:Shared}
noncomputable def noHeap:Heap:={}
theorem z7f (b:Addr):noHeap.get? b=none:=by
 show (match (#[]:Array Obj)[b]? with|some ⟨_,_,.freed,_⟩=>none|x=>x)=none
 simp
theorem Inv.frN (I:Inv X pins σ H s){m:Str→Option Value}(hn:s.heap.Ns X.env.locals m):Fr noHeap X.env.locals s.heap m:=
 ⟨hn,fun b o e=>absurd ((z7f b).symm.trans e) (by simp),Nat.zero_le _⟩
theorem zal {h:Heap}{L a:Addr}{o:Obj}(h1:a≠L)(h3:h.get? a=some o):(a,o)∈z3f noHeap h L:=zak h1 (z7f a) h3
theorem Inv.newList {m : Str → Option Value}{h' : Heap}{tk : Nat}{D : Addr}{xs : List V}{its : List Value}{c : Nat}(I : Inv X pins σ H s)(hn : s.heap.Ns X.env.locals m)(F : Fr noHeap X.env.locals h' m)
  (N:News noHeap X.env.locals h' ((D,PySem.W.listOf its.toArray c)::z3f noHeap s.heap X.env.locals))(hlt:∀q∈z3f noHeap s.heap X.env.locals,q.1<D)(hz:xs.length≤sizeLine)(r:Vals xs its) :
  H D=none∧Inv X pins σ (upd H D (.lst xs)) {s with heap:=h',toks:=tk}:=by
 have hD:=N _ (List.mem_cons_self ..)
 have DL:D≠X.env.locals:=hD.2.1
 have kp:∀b o,b≠X.env.locals→s.heap.get? b=some o→h'.get? b=some o:=fun b o hb e=>(N _ (List.mem_cons_of_mem _ (zal hb e))).1
 have neD:∀b o,s.heap.get? b=some o→b≠D:=fun b o e z=>by
  subst z
  exact absurd (hlt _ (zal DL e)) (Nat.lt_irrefl _)
 have at_:∀b u,H b=some u→∃o,s.heap.get? b=some o:=fun b u e=>by
  by_cases hb:b=X.env.locals
  ·subst hb;rw[I.free]at e;cases e
  ·have:=(I.hok b u e)
   exact ObjOk.there this
 have fD:H D=none:=by
  cases e:H D with
  | none=>rfl
  | some u=>
   obtain ⟨o,q⟩:=at_ D u e
   exact absurd rfl (neD D o q)
 refine ⟨fD,?_⟩
 have up:∀b u,H b=some u→upd H D (.lst xs) b=some u:=fun b u e=>by rw[z0f (z0m e fD)];exact e
 refine I.step (ch:=[]) (g':=s.gens) (t':=tk) (d':=s.drawn) (fun b hb=>by cases hb) (fun b o h1 _ _ e _=>kp b o h1 e) (fun b o h1 _ _ e _=>⟨o.slots,kp b o h1 e⟩) (fun b o _ e h0=>?_) (fun b o _ e=>?_)
  (fun b xs e=>up b _ e) (fun b o u e=>up b _ e) (fun b ps e=>⟨#[],by rw[up b _ e,Array.append_empty]⟩) (fun m' hm'=>?_) (fun b u e=>?_) I.bare
 ·rw[z0f (neD b o e)];exact h0
 ·by_cases hb:b=X.env.locals
  ·subst hb
   obtain ⟨o,es,ep,e',_⟩:=F.ns
   exact ⟨o,e'⟩
  ·exact ⟨o,kp b o hb e⟩
 ·rw[hm'.eq_nsMap,←hn.eq_nsMap];exact F.ns
 ·by_cases hb:b=D
  ·subst hb
   rw[z06]at e;cases e
   exact ⟨hz,its,c,r,hD.1⟩
  ·rw[z0f hb]at e
   refine (I.hok b u e).stay (fun b' v hc q=>kp b' v (fun z=>?_) q) (fun b' q=>up b' _ q) fun b' ys q=>up b' _ q
   subst z
   have fr:=I.free
   rcases hc with hc|hc
   ·rw[hc,e]at fr;cases fr
   ·rw[fr]at hc;cases hc
end
section
variable {X:Cx}
noncomputable def zi2 (K:W.Frag)(t:TA):TE:=fun σ H Q=>t σ H fun vs H1=>∃(l p1 p2:Addr) (xs ys:List V),vs=[.ref l]∧SqL K H1 l [.ref p1,.ref p2]∧SqT K H1 p1 xs∧SqT K H1 p2 ys∧
 (xs.length≤ys.length→∀D,H1 D=none→Q (.ref D) (upd H1 D (.lst [.ref p1,.ref p2])))∧(ys.length≤xs.length→∀D,H1 D=none→Q (.ref D) (upd H1 D (.lst [.ref p2,.ref p1])))
theorem zhg {h h':Heap}{a:Addr}{its:Array Value}(x:IsTup h a its)(k:∀o,h.get? a=some o→h'.get? a=some o):IsTup h' a its:=by
 obtain ⟨o,e,c⟩:=x
 exact ⟨o,k o e,c⟩
theorem zcu {e : Expr}{t : TA}{p p2 kpos pos : Pos}(hg : Gl X "sorted")(hm : X.mg "sorted" = none)(hgl : Gl X "len")(hml : X.mg "len" = none)(ha : PA X [e] t)
  (he:backTo pos (starEach [e] X.env)=(false,eval e X.env)::backTo pos (starEach [] X.env):=by rfl)(hpl:(backTo pos (starEach [e] X.env)).any (·.1)=false:=by rfl) :
  PE X (.Call (.Name "sorted" p) [e] [⟨some "key",.Name "len" p2,kpos⟩] pos) (zi2 X.K t):=by
 intro pins s σ H Q I h
 refine wpAny_Call_Name_kw (z44 I hg hm (u:=.builtin "sorted") rfl ?_ (by decide) (by decide))
 refine callWith_kw (thn (ha pos pins s σ H _ I h) fun us s1 ⟨vs,H1,I1,r,q⟩=>?_) he hpl rfl rfl
 obtain ⟨l,p1,p2',xs,ys,rfl,hL,h1,h2,q1,q2⟩:=q
 obtain ⟨u,rfl,ru⟩:=z6x r
 cases ru
 show wpAny _ _ (evalAll [(do let v ←eval (.Name "len" p2) X.env;standAt pos;pure v)]) _ _ s1
 refine wpAny_evalAll_cons (wpAny_bind (z44 I1 hgl hml (u:=.builtin "len") rfl ?_ (by decide) (by decide)))
 refine wpAny_bind (wpAny_standAt (wpAny_pure ?_))
 refine wpAny_evalAll_nil ?_
 show wpAny (model X.prog X.w) X.A (call (.builtin "sorted") [.ref l] [(Str.ofString "key",.builtin "len")]) (EP X pins σ Q) X.xe s1
 obtain ⟨m,hn,_⟩:=I1.loc
 obtain ⟨its,rv,pl,_⟩:=I1.list hL
 obtain ⟨a1,a2,rfl⟩:∃a b,its=[a,b]:=by
  have:=rv.length
  match its,this with
  | [a,b],_=>exact ⟨a,b,rfl⟩
 cases rv with
 | cons ra rv'=>
 cases rv' with
 | cons rb _=>
 cases ra
 cases rb
 obtain ⟨i1,r1,t1,z1⟩:=I1.tuple h1
 obtain ⟨i2,r2,t2,z2⟩:=I1.tuple h2
 have l1:=r1.length
 have l2:=r2.length
 have hs:sizeLine=16777216:=sizeLine_eq
 have neL:∀a its,IsTup s1.heap a its→a≠X.env.locals:=fun a its' t' z=>by
  subst z
  obtain ⟨o,e1,c1,n1,d1⟩:=t'
  obtain ⟨o',es,ep,e2,d2,_⟩:=hn
  rw[e1]at e2;cases e2
  rw[d1]at d2;cases d2
 have turn : ∀ (a : Addr) (it : List Value) (n : Nat), IsTup s1.heap a it.toArray → it.length = n → n ≤ sizeLine → ∀ (h : Heap) (tk : Nat) (own : List (Addr × Obj)), Fr noHeap X.env.locals h m → News noHeap X.env.locals h (z3f noHeap s1.heap X.env.locals++own) →
   wpAny (model X.prog X.w) X.A.in1.in1 (call (.builtin "len") [.ref a]) (KskEnd noHeap X.env.locals m (z3f noHeap s1.heap X.env.locals++own) (n:Int) {s1 with heap:=h,toks:=tk}) (fun _ _=>False) {s1 with heap:=h,toks:=tk}:=by
  intro a it n ht hl hz h tk own F N
  have ht':IsTup h a it.toArray:=zhg ht fun o e=>(N _ (List.mem_append_left _ (zal (neL a _ ht) e))).1
  refine len_tuple (s:={s1 with heap:=h,toks:=tk}) ht' (by simp only[List.size_toArray];omega) ?_
  rw[List.size_toArray,hl]
  exact KskEnd.intro (s₁:={s1 with heap:=h,toks:=tk}) F N fun p hp=>hp
 refine ksk_two (b:=false) (f:=.builtin "len") (xs.length:Int) (ys.length:Int) (I1.frN hn) zh5 pl.isList (ksk_s1 _ _) (fun x=>ksk_l1 _ _) (fun x=>ksk_t4 "len" x)
  (fun h tk own F N=>turn p1 i1 xs.length t1 l1.symm z1 h tk own F N) (fun h tk own F N=>turn p2' i2 ys.length t2 l2.symm z2 h tk own F N)
  (fun hle D c h' tk F N hlt=>?_) (fun hle D c h' tk F N hlt=>?_)
 ·obtain ⟨fD,J⟩:=I1.newList (xs:=[.ref p1,.ref p2']) (its:=[.ref p1,.ref p2']) (tk:=tk) hn F N hlt (by rw[hs];show 2≤_;decide) (.cons rfl (.cons rfl .nil))
  exact ⟨.ref D,_,J,rfl,q1 (by have:(xs.length:Int)≤(ys.length:Int):=hle;omega) D fD⟩
 ·obtain ⟨fD,J⟩:=I1.newList (xs:=[.ref p2',.ref p1]) (its:=[.ref p2',.ref p1]) (tk:=tk) hn F N hlt (by rw[hs];show 2≤_;decide) (.cons rfl (.cons rfl .nil))
  exact ⟨.ref D,_,J,rfl,q2 (by have:(ys.length:Int)≤(xs.length:Int):=hle;omega) D fD⟩
theorem zad {e : Expr}{t : TA}{p p2 kpos pos : Pos}(hg : Gl X "sorted")(hm : X.mg "sorted" = none)(hgl : Gl X "len")(hml : X.mg "len" = none)(ha : QA X [e] t)
  (he:backTo pos (starEach [e] X.env)=(false,eval e X.env)::backTo pos (starEach [] X.env):=by rfl)(hpl:(backTo pos (starEach [e] X.env)).any (·.1)=false:=by rfl) :
  QE X (.Call (.Name "sorted" p) [e] [⟨some "key",.Name "len" p2,kpos⟩] pos) (zi2 X.K t):=⟨zcu hg hm hgl hml ha.o he hpl⟩
end
section
variable {prog:Program}{w:World}{A:Around}{E:Value→Shared→Prop}{s:Shared}
theorem z6l {h h':Heap}{a:Addr}{its:Array Value}(x:h.IsList a its)(k:∀o,h.get? a=some o→h'.get? a=some o):h'.IsList a its:=by
 obtain ⟨o,e,c⟩:=x
 exact ⟨o,k o e,c⟩
theorem z9o {it t : Addr}{items : Array Value}(hne : t ≠ it) : ∀ (n i : Nat) (s : Shared) (Q : List Value → Shared → Prop), s.heap.IsListIter it t i → s.heap.IsList t items → i+n ≤ items.size →
  (∀h',h'.IsListIter it t (i+n)→Heap.SameBut it s.heap h'→Q ((items.toList.drop i).take n) {s with heap:=h'})→wpAny (model prog w) A (draw (.ref it) n) Q E s
 | 0,i,s,Q,hit,_,_,hQ=>by
  show wpAny _ _ (pure []) Q E s
  exact wpAny_pure (by simpa using hQ s.heap hit (Heap.SameBut.refl ..))
 | n+1,i,s,Q,hit,ht,hle,hQ=>by
  have hlt:i<items.size:=by omega
  show wpAny _ _ (pyNext (.ref it) >>= _) Q E s
  refine wpAny_bind (wpAny_pyNext_list_item hit ht (x:=items[i]) (by simp[hlt]) fun h₁ hit₁ hs₁=>?_)
  refine wpAny_bind (wpAny_holding (z9o hne n (i+1) _ _ hit₁ (z6l ht fun o e=>(hs₁.2 t hne).trans e) (by omega) fun h₂ hit₂ hs₂=>wpAny_pure ?_))
  have hd:items.toList.drop i=items[i]::items.toList.drop (i+1):=by simp[List.drop_eq_getElem_cons,hlt]
  have:=hQ h₂ (by rw[show i+(n+1)=i+1+n by omega];exact hit₂) (hs₁.trans hs₂)
  rw[hd,List.take_succ_cons]at this
  exact this
theorem z5c {t : Addr}{items : Array Value}{Q : List Value → Shared → Prop}(hh : A.handled = none)(ht : s.heap.IsList t items)
  (hQ:∀h',Heap.ExtBut s.heap.objs.size s.heap h'→Q items.toList {s with heap:=h'}):wpAny (model prog w) A (unpackItems (.ref t) items.size none) Q E s:=by
 have hlt:t≠s.heap.objs.size:=by obtain ⟨o,ho,_⟩:=ht;exact Nat.ne_of_lt (Heap.lt_size ho)
 unfold unpackItems
 refine wpAny_bind ?_
 ·unfold notIterableAtAll
  refine wpAny_bind (wpAny_specialOf ht.typeIs slot_list_iter.lookup ?_)
  refine wpAny_pure ?_
  simp only[Bool.false_eq_true,if_false]
  refine wpAny_bind (wpAny_holding (wpAny_pyIter_list ht ?_))
  refine wpAny_bind (wpAny_holding (z9o hlt items.size 0 _ _ ⟨_,Heap.get?_push_size _ rfl,rfl,rfl⟩ (z6l ht fun o e=>Heap.get?_push_of_some _ e) (by omega) fun h₁ hit₁ hs₁=>?_))
  have hall:List.take items.size (List.drop 0 items.toList)=items.toList:=by
   rw[List.drop_zero];exact List.take_of_length_le (by simp)
  rw[hall]
  rw[if_neg (by simp)]
  have ht₁:h₁.IsList t items:=z6l ht fun o e=>(hs₁.2 t hlt).trans (Heap.get?_push_of_some _ e)
  refine wpAny_bind (wpAny_holding (wpAny_pyNext_list_end hh hit₁ ht₁ (by simp) fun h₂ he₂=>?_))
  simp only[Option.isSome_none,Bool.false_eq_true,if_false]
  refine wpAny_pure (hQ h₂ fun b o hb e=>he₂ b o hb (hs₁.extBut b o hb (Heap.get?_push_of_some _ e)))
theorem z57 {env : Env}{elts : List Expr}{x1}{pos : Pos}{t : Addr}{items : Array Value}{Q : Unit → Shared → Prop}(hh : A.handled = none)(ht : s.heap.IsList t items)
  (hn:(assignEach elts env).length=items.size)(hstar:(assignEach elts env).findIdx? (·.1)=none)
  (h:∀h',Heap.ExtBut s.heap.objs.size s.heap h'→wpAny (model prog w) A (assignInOrder ((assignEach elts env).map (·.2)) items.toList) Q E {s with heap:=h'}) :
  wpAny (model prog w) A (assign (.Tuple elts x1 pos) env (.ref t)) Q E s:=by
 rw[assign_Tuple]
 refine wpAny_bind (wpAny_standAt ?_)
 unfold unpack
 rw[hn,hstar]
 exact wpAny_bind (wpAny_holding (z5c hh ht h))
end
section
variable {X:Cx}
noncomputable def zsw (K:W.Frag)(n:Nat)(t:TGs):TG:=fun v σ H Q=>∃a xs,v=.ref a∧SqL K H a xs∧xs.length=n∧t xs σ H Q
theorem zo6 {pos : Pos}{es : List Expr}{k : Nat}{t : TGs}{n : Nat}(hc : X.calm = true)(h : PGs X es t)
  (hn:(assignEach es X.env).length=n:=by rfl)(hst:(assignEach es X.env).findIdx? (·.1)=none:=by rfl):PG X (.Tuple es k pos) (zsw X.K n t):=by
 intro pins s σ H v u Q I r hw
 obtain ⟨a,xs,e1,hq,hl,hw⟩:=hw
 subst e1
 cases r
 obtain ⟨its,rv,ht,hz⟩:=I.list hq
 refine z57 (I.ok.hd hc) ht.isList (by simp[hn,←hl,rv.length]) hst fun h' hx=>?_
 have I1:Inv X pins σ H {s with heap:=h'}:=I.kept (t':=s.toks) fun b o e=>hx b o (Nat.ne_of_lt (Heap.lt_size e)) e
 exact h pins _ σ H xs _ Q I1 (by simpa using rv) hw
theorem zki {pos : Pos}{es : List Expr}{k : Nat}{t : TGs}{n : Nat}(hc : X.calm = true)(h : QGs X es t)
  (hn:(assignEach es X.env).length=n:=by rfl)(hst:(assignEach es X.env).findIdx? (·.1)=none:=by rfl):QG X (.Tuple es k pos) (zsw X.K n t):=⟨zo6 (hc:=hc) (h:=h.o) (hn:=hn) (hst:=hst)⟩
end
end L2
set_option Elab.async false
set_option linter.all false
set_option maxRecDepth 100000
namespace PySem.F
theorem z9a:Manifest.owners.lookup (String.ofList ['d','e','s','r','e','v','e','r'].reverse)=some Manifest.sig_reversed:=by kernel_rfl
theorem slot_rvt_next:Slot "reversed" "__next__" "reversed.__next__":=
 .of (owner:="reversed") (n:="__next__") (by rw[typeLookup_type,builtinLookup_eq_fast];kernel_rfl) (by decide +kernel) (by decide +kernel) (by decide +kernel)
  (by first|exact .inl (by decide +kernel)|exact .inr (by decide +kernel)) (by rw[isSubtype_type];kernel_rfl)
theorem entry_rvt_next:entryFor table "reversed.__next__"=some Builtin.«reversed.__next__»:=entryFor_of_tree (by kernel_rfl)
theorem args_rvt_next_1 (a:Value):argsOk "reversed.__next__" ⟨[a],[]⟩:=by
 unfold argsOk;rw[signature?_of (id:="reversed.__next__") (n:=['_','_','t','x','e','n','_','_']) (o:=['d','e','s','r','e','v','e','r']) (by kernel_rfl) z9a];kernel_rfl
theorem slot_rvt_iter:Slot "reversed" "__iter__" "reversed.__iter__":=
 .of (owner:="reversed") (n:="__iter__") (by rw[typeLookup_type,builtinLookup_eq_fast];kernel_rfl) (by decide +kernel) (by decide +kernel) (by decide +kernel)
  (by first|exact .inl (by decide +kernel)|exact .inr (by decide +kernel)) (by rw[isSubtype_type];kernel_rfl)
theorem args_rvt_iter_1 (a:Value):argsOk "reversed.__iter__" ⟨[a],[]⟩:=by
 unfold argsOk;rw[signature?_of (id:="reversed.__iter__") (n:=['_','_','r','e','t','i','_','_']) (o:=['d','e','s','r','e','v','e','r']) (by kernel_rfl) z9a];kernel_rfl
theorem entry_rvt_iter:entryFor table "reversed.__iter__"=some Builtin.«dict_keyiterator.__iter__»:=
 entryFor_alias (id':="dict_keyiterator.__iter__") (by kernel_rfl) (by first|rfl|decide +kernel|(unfold String.splitOn;simp +decide [String.splitOnAux])) (by decide +kernel) (by kernel_rfl)
theorem z7s:Slot "reversed" "__init__" "object.__init__":=
 .of (owner:="object") (n:="__init__") (by rw[typeLookup_type,builtinLookup_eq_fast];kernel_rfl) (by decide +kernel) (by decide +kernel) (by decide +kernel)
  (by first|exact .inl (by decide +kernel)|exact .inr (by decide +kernel)) (by rw[isSubtype_type];kernel_rfl)
theorem called_reversed:TypeCalled "reversed" "reversed.__new__" "object.__init__":=
 ⟨by decide +kernel,by decide +kernel,⟨_,_,mro_reversed⟩,made_reversed,by decide +kernel,by rw[isSubtype_type];kernel_rfl,z7s⟩
theorem tuple_no_reversed:typeLookup (.type "tuple") "__reversed__"=pure none:=by rw[typeLookup_type,builtinLookup_eq_fast];kernel_rfl
theorem tuple_no_dict:isSubtype (.type "tuple") (.type "dict")=pure false:=by rw[isSubtype_type];kernel_rfl
end PySem.F
namespace L2
open PySem PySem.Spec PyProof.Rows
section
variable {prog:Program}{w:World}{A:Around}{E:Value→Shared→Prop}{s:Shared}
noncomputable def zbk (t:Addr)(i:Int):Obj:={cls:=.type "reversed",data:=.fields #[.ref t,rawInt i]}
noncomputable def IsRvt (h:Heap)(a t:Addr)(i:Int):Prop:=∃o,h.get? a=some o∧o.cls=.type "reversed"∧o.data=.fields #[.ref t,rawInt i]
theorem IsRvt.typeIs {a l:Addr}{i:Int}(x:IsRvt s.heap a l i):s.TypeIs (.ref a) "reversed":=let ⟨o,ho,hc,_⟩:=x;⟨o,ho,hc⟩
theorem IsRvt.at {h h':Heap}{a l:Addr}{i:Int}(x:IsRvt h a l i)(e:∀o,h.get? a=some o→h'.get? a=some o):IsRvt h' a l i:=let ⟨o,ho,r⟩:=x;⟨o,e _ ho,r⟩
theorem zeo (t:Addr)(items:Array Value):Meets (Builtin.«reversed.__new__» ⟨[.type "reversed",.ref t],[]⟩) (fun _ R s=>IsTup s.heap t items∧¬((items.size:Int)≥2^63)∧R (.ok (.ret (.ref s.heap.objs.size))) {s with heap:=s.heap.push (zbk t ((items.size:Int)-1)),toks:=s.toks+1+1}):=
 .of_wp fun prog w A R s h=>by
  obtain ⟨ht,hf,h⟩:=h
  unfold Builtin.«reversed.__new__»
  refine wpAny_bind (wpAny_of_eq (newClass_reversed _) ?_)
  try dsimp only
  refine wpAny_bind (wpAny_of_eq (a:=()) (by first|rfl|kernel_rfl) ?_)
  refine wpAny_bind (wpAny_of_eq (a:=()) (by first|rfl|kernel_rfl) ?_)
  try dsimp only
  refine wpAny_bind (wpAny_specialOf ht.typeIs F.tuple_no_reversed ?_)
  try dsimp only
  refine wpAny_bind ?_
  show wpAny _ _ (isInstance (.ref t) (.type "dict") >>= _) _ _ _
  refine wpAny_bind (wpAny_isInstance ht.typeIs F.tuple_no_dict ?_)
  show wpAny _ _ (specialOf (.ref t) "__getitem__" >>= _) _ _ _
  refine wpAny_bind (wpAny_specialOf ht.typeIs F.slot_tuple_getitem.lookup ?_)
  refine wpAny_of_eq (a:=true) (by first|rfl|kernel_rfl) ?_
  show wpAny _ _ (call (.builtin "len") [.ref t] >>= _) _ _ _
  refine wpAny_bind (len_tuple ht (by omega) ?_)
  refine wpAny_bind (m:=asInt? _) (wpAny_of_eq (a:=some (items.size:Int)) rfl ?_)
  show wpAny _ _ (newObj (.type "reversed") (.fields #[.ref t,rawInt ((items.size:Int)-1)]) >>= _) _ _ _
  exact wpAny_bind (wpAny_newObj_type (wpAny_pure ⟨_,rfl,h⟩))
theorem zhr {t : Addr}{items : Array Value}{Q : Value → Shared → Prop}(ht : IsTup s.heap t items)(hf : ¬ ((items.size : Int)≥2^63))
  (h:Q (.ref s.heap.objs.size) {s with heap:=s.heap.push (zbk t ((items.size:Int)-1)),toks:=s.toks+1+1}):wpAny (model prog w) A (call (.type "reversed") [.ref t]) Q E s:=
 callType_new F.called_reversed (by decide) (F.typeCall_reversed_1 _) (F.newCall_reversed_1 _) (fun obj=>F.args_object_init_2 obj _) F.entry_reversed_new (zeo t items) ⟨ht,hf,⟨_,Heap.get?_push_size _ rfl,rfl⟩,h⟩
theorem z85 {it t : Addr}{i : Nat}{items : Array Value}{x : Value}{Q : Option Value → Shared → Prop}(hit : IsRvt s.heap it t (i : Int))(ht : IsTup s.heap t items)(hx : items[i]? = some x)(hi : i<2^62)
  (hQ:∀h',IsRvt h' it t ((i:Int)-1)→Heap.SameBut it s.heap h'→Q (some x) {s with heap:=h',toks:=s.toks+1}):wpAny (model prog w) A (pyNext (.ref it)) Q E s:=by
 obtain ⟨o,ho,hc,hd⟩:=id hit
 have hsz:i<items.size:=by
  rcases Nat.lt_or_ge i items.size with h|h
  ·exact h
  ·rw[Array.getElem?_eq_none h]at hx;cases hx
 unfold pyNext
 refine wpAny_bind (wpAny_attempt (wpAny_callSpecial?_slot (name:=Str.ofString "__next__") hit.typeIs F.slot_rvt_next
  (wpAny_call_entry F.slot_rvt_next hit.typeIs F.entry_rvt_next ?_ (F.args_rvt_next_1 _))))
 unfold Builtin.«reversed.__next__»
 refine wpAny_bind (wpAny_of_eq (a:=(Value.ref it,[])) rfl ?_)
 try dsimp only
 refine wpAny_bind (wpAny_field ho hd (x:=.ref t) rfl ?_)
 refine wpAny_bind (wpAny_field ho hd (x:=rawInt (i:Int)) rfl ?_)
 show wpAny _ _ (if (i:Int)<0 then _ else _) _ _ s
 rw[if_neg (by omega)]
 show wpAny _ _ (specialOf (.ref t) "__getitem__" >>= _) _ _ _
 refine wpAny_bind (wpAny_specialOf ht.typeIs F.slot_tuple_getitem.lookup ?_)
 show wpAny _ _ (mkInt (i:Int) >>= _) _ _ _
 refine wpAny_bind (wpAny_mkInt ?_)
 refine wpAny_bind (wpAny_attempt (PyProof.Rows.getItem_tuple (s:={s with toks:=s.toks+1}) ht (by omega) (by omega) (j:=i) (by unfold seqIndex?;dsimp only;rw[if_neg (show ¬(i:Int)<0 by omega)];simp[hsz]) hx ?_))
 try dsimp only
 refine wpAny_bind (wpAny_field (s:={s with toks:=s.toks+1}) ho hd (x:=rawInt (i:Int)) rfl ?_)
 refine wpAny_bind (wpAny_setField (s:={s with toks:=s.toks+1}) ho hd (by simp) ?_)
 first
 |refine wpAny_pure ⟨x,rfl,wpAny_pure (hQ _ ?_ (Heap.SameBut.update ..))⟩
 |refine wpAny_bind (wpAny_pure (wpAny_pure ⟨x,rfl,wpAny_pure (hQ _ ?_ (Heap.SameBut.update ..))⟩))
 exact ⟨_,Heap.get?_update_self _ ho (Obj.isFreed_of_fields (Obj.data_mapFields hd _)),(Obj.cls_mapFields ..).trans hc,by
  rw[Obj.data_mapFields hd];simp⟩
theorem z9e {it t : Addr}{Q : Option Value → Shared → Prop}(hh : A.handled = none)(hit : IsRvt s.heap it t (-1))
  (hQ:∀h',Heap.ExtBut it s.heap h'→Q none {s with heap:=h'}):wpAny (model prog w) A (pyNext (.ref it)) Q E s:=by
 obtain ⟨o,ho,hc,hd⟩:=id hit
 unfold pyNext
 refine wpAny_bind (wpAny_attempt (wpAny_callSpecial?_slot (name:=Str.ofString "__next__") hit.typeIs F.slot_rvt_next
  (wpAny_call_entry F.slot_rvt_next hit.typeIs F.entry_rvt_next ?_ (F.args_rvt_next_1 _))))
 unfold Builtin.«reversed.__next__»
 refine wpAny_bind (wpAny_of_eq (a:=(Value.ref it,[])) rfl ?_)
 try dsimp only
 refine wpAny_bind (wpAny_field ho hd (x:=.ref t) rfl ?_)
 refine wpAny_bind (wpAny_field ho hd (x:=rawInt (-1)) rfl ?_)
 show wpAny _ _ (if (-1:Int)<0 then _ else _) _ _ s
 rw[if_pos (by decide)]
 refine wpAny_bind (wpAny_rule ?_)
 refine wpAny_bind ?_
 show wpAny _ _ (setField (.ref it) 1 (rawInt (-1)) >>= _) _ _ _
 refine wpAny_bind (wpAny_setField ho hd (by simp) ?_)
 have ho1:=Heap.get?_update_self (Obj.mapFields fun x=>x.setIfInBounds 1 (rawInt (-1))) ho (Obj.isFreed_of_fields (Obj.data_mapFields hd _))
 have hd1:=Obj.data_mapFields hd fun x=>x.setIfInBounds 1 (rawInt (-1))
 refine wpAny_setField (s:={s with heap:=s.heap.update it (Obj.mapFields fun x=>x.setIfInBounds 1 (rawInt (-1)))}) ho1 hd1 (by simp) ?_
 refine wpAny_bind ?_
 show wpAny _ _ (newExc (.type "StopIteration") [] >>= _) _ _ _
 refine wpAny_bind ?_
 simp only[newExc,newTuple]
 refine wpAny_bind (wpAny_newObj_type ?_ (by size_fits))
 refine wpAny_bind (m:=firstArgMember _ _) (wpAny_of_eq (a:=Value.none) (by first|rfl|(simp only[firstArgMember];rfl)) ?_)
 refine wpAny_newObj_type ?_ (by size_fits)
 simp only[raiseNew]
 refine wpAny_bind (wpAny_handled ?_)
 first|rw[show A.in1.handled=none from hh]|rw[hh]
 refine wpAny_bind (wpAny_pure (wpAny_throw ?_))
 refine wpAny_bind (wpAny_isInstance (T:="StopIteration") (b:=true) ⟨_,Heap.get?_push_size _ rfl,rfl⟩ isSubtype_stop ?_)
 exact wpAny_pure (hQ _ ((((Heap.SameBut.update ..).trans (Heap.SameBut.update ..)).extBut.push _).push _))
theorem zc4 {it t:Addr}{i:Int}{Q:Value→Shared→Prop}(hit:IsRvt s.heap it t i)(h:Q (.ref it) s):wpAny (model prog w) A (pyIter (.ref it)) Q E s:=by
 refine wpAny_pyIter_slot hit.typeIs F.slot_rvt_iter (wpAny_call_entry F.slot_rvt_iter hit.typeIs F.entry_rvt_iter ?_ (F.args_rvt_iter_1 _))
 show wpAny _ _ (ret (.ref it)) _ _ s
 exact wpAny_pure ⟨_,rfl,"reversed",_,hit.typeIs,F.slot_rvt_next.lookup,h⟩
end
noncomputable def zpv (K:W.Frag)(a:Addr)(n:Nat):It:=
 ⟨fun i H=>∃xs x,SqT K H a xs∧xs.length=n∧i<n∧xs[n-1-i]?=some x,fun i H x H'=>H'=H∧∀xs,SqT K H a xs→xs[n-1-i]?=some x,fun i H=>(∃xs,SqT K H a xs∧xs.length=n)∧i=n⟩
theorem zgb {P:Program}{w:World}{K:W.Frag}{tg:Expr}(a it:Addr)(n:Nat)(hn:n<2^62):Turn P w K tg (zpv K a n) [it] it (fun i h=>IsRvt h it a ((n:Int)-1-(i:Int))) where
 mem:=by simp
 obj:=fun i h st b hb=>by
  have e:b=it:=by simpa using hb
  subst e
  obtain ⟨o,e,c,d⟩:=st
  exact ⟨o,e,fun v z=>by rw[d]at z;cases z⟩
 keep:=fun i h h' st k=>st.at fun o e=>k it (by simp) o e
 item:=by
  intro X hP hw hK hc i pins s σ H E I hf st hg
  subst hP hw hK
  obtain ⟨xs,x,hq,hl,hi,hx⟩:=hg
  obtain ⟨its,rv,p,hz⟩:=I.tuple hq
  obtain ⟨u,hu,ru⟩:=rv.get hx
  obtain ⟨f0,f1,f2,f3,f4,f5⟩:=hf it (by simp)
  have e:(n:Int)-1-(i:Int)=((n-1-i:Nat):Int):=by omega
  rw[e]at st
  refine z85 st p (x:=u) (by simpa using hu) (by omega) fun h' st' sb=>?_
  have e2:((n-1-i:Nat):Int)-1=(n:Int)-1-((i+1:Nat):Int):=by omega
  rw[e2]at st'
  have I1:Inv X pins σ H {s with heap:=h',toks:=s.toks+1}:=I.turned (t':=s.toks+1) (fun b o hb e=>(sb.2 b hb).trans e) f0 f1 f3 f4 f5
  obtain ⟨o,e,c,d⟩:=id st'
  exact ⟨u,rfl,zf4 (s:={s with heap:=h',toks:=s.toks+1}) e c d (by decide) ⟨x,H,I1,ru,⟨rfl,fun ys hy=>by rw[I.tuple_inj hy hq];exact hx⟩,st',fun b hb=>(hf b hb).1⟩⟩
 done:=by
  intro X hP hw hK hc i pins s σ H E I hf st hg
  subst hP hw hK
  obtain ⟨⟨xs,hq,hl⟩,rfl⟩:=hg
  obtain ⟨f0,f1,f2,f3,f4,f5⟩:=hf it (by simp)
  have e:(i:Int)-1-(i:Int)=-1:=by omega
  rw[e]at st
  exact z9e (I.ok.hd hc) st fun h' eb=>⟨rfl,I.turned (t':=s.toks) (fun b o hb e=>eb b o hb e) f0 f1 f3 f4 f5⟩
 self:=fun _ _ _ _ _ st h=>zc4 st h
theorem zax:bootBuiltins "reversed"=some (.type "reversed"):=by decide +kernel
noncomputable def zsv (K:W.Frag)(ta:TA):TI:=fun σ H R=>ta σ H fun vs H1=>∃a xs,vs=[.ref a]∧SqT K H1 a xs∧R (zpv K a xs.length) H1
section
variable {X:Cx}
theorem zo3 {tg : Expr}{e1 : Expr}{ta : TA}{p pos : Pos}(hg : Gl X "reversed")(hm : X.mg "reversed" = none)(ha : PA X [e1] ta)(he : starEach [e1] X.env = (false, eval e1 X.env) :: starEach [] X.env := by rfl)(hpl : (backTo pos (starEach [] X.env)).any (·.1) = false := by rfl) :
  PI X tg (.Call (.Name "reversed" p) [e1] [] pos) (zsv X.K ta):=by
 intro pins s σ H R I h
 refine wpAny_Call_Name_kw (z44 I hg hm zax ?_ (by decide) (by decide))
 refine PyProof.Rows.callWith_type1 (thn (ha pos pins s σ H _ I h) fun us s1 ⟨vs,H1,I1,r1,q1⟩=>?_) he hpl
 obtain ⟨a,xs,rfl,sa,q⟩:=q1
 obtain ⟨u,rfl,ru⟩:=z6x r1
 cases ru
 obtain ⟨its,rv,p,hz⟩:=I1.tuple sa
 have hl:=rv.length
 have hs:sizeLine=16777216:=sizeLine_eq
 refine zhr p (by simp only[List.size_toArray];omega) ?_
 have hit:IsRvt (s1.heap.push (zbk a ((its.toArray.size:Int)-1))) s1.heap.objs.size a ((xs.length:Int)-1-((0:Nat):Int)):=by
  refine ⟨_,Heap.get?_push_size _ rfl,rfl,?_⟩
  rw[List.size_toArray,←hl]
  show Data.fields #[.ref a,rawInt ((xs.length:Int)-1)]=_
  rw[show (xs.length:Int)-1-((0:Nat):Int)=(xs.length:Int)-1 by omega]
 refine zc4 (s:={s1 with heap:=s1.heap.push (zbk a ((its.toArray.size:Int)-1)),toks:=s1.toks+1+1}) hit ?_
 refine ⟨s1.heap.objs.size,[s1.heap.objs.size],_,_,H1,rfl,I1.kept (t':=s1.toks+1+1) fun b o e=>Heap.get?_push_of_some _ e,zgb a _ xs.length (by omega),hit,fun b hb=>?_,q⟩
 have e:b=s1.heap.objs.size:=by simpa using hb
 subst e
 exact I1.fpOk (Nat.le_refl _) (I1.hok.fresh (Nat.le_refl _))
end
theorem ze1 {X : Cx}{tg : Expr}{e1 : Expr}{ta : TA}{p pos : Pos}(hg : Gl X "reversed")(hm : X.mg "reversed" = none)(ha : QA X [e1] ta)(he : starEach [e1] X.env = (false, eval e1 X.env) :: starEach [] X.env := by rfl)(hpl : (backTo pos (starEach [] X.env)).any (·.1) = false := by rfl) :
  QI X tg (.Call (.Name "reversed" p) [e1] [] pos) (zsv X.K ta):=⟨zo3 hg hm ha.o he hpl⟩
theorem zf7 {K : W.Frag}{a : Addr}{xs : List V}{g : TG}{tb : TS}{D : Ends}{σ : St}{H : Hp}(Pv : Nat → St → Hp → Prop)(h0 : Pv 0 σ H)(hl : ∀ i σ H, i ≤ xs.length → Pv i σ H → SqT K H a xs)
  (hs:∀i x σ H,i<xs.length→xs[xs.length-1-i]?=some x→Pv i σ H→g x σ H fun σ2 H2=>tb {D with nx:=Pv (i+1),ct:=Pv (i+1),bk:=D.nx} σ2 H2)(hd:∀σ H,Pv xs.length σ H→D.nx σ H) :
  ∃W:Nat→Nat→St→Hp→Prop,(∃m,W 0 m σ H)∧∀i m σ H,W i m σ H→
   ((zpv K a xs.length).stop i H∧D.nx σ H)∨((zpv K a xs.length).go i H∧∃N:St→Hp→Prop,(∀σ' H',N σ' H'→∃m',m'<m∧W (i+1) m' σ' H')∧∀x H',(zpv K a xs.length).yld i H x H'→g x σ H' fun σ2 H2=>tb {D with nx:=N,ct:=N,bk:=D.nx} σ2 H2):=by
 refine ⟨fun i m σ H=>m=xs.length-i∧i≤xs.length∧Pv i σ H,⟨xs.length,by simp,Nat.zero_le _,h0⟩,?_⟩
 rintro i m σ H ⟨rfl,hi,p⟩
 have hq:=hl i σ H hi p
 by_cases hlt:i<xs.length
 ·have hx:xs[xs.length-1-i]?=some (xs[xs.length-1-i]'(by omega)):=List.getElem?_eq_getElem (by omega)
  refine .inr ⟨⟨xs,_,hq,rfl,hlt,hx⟩,Pv (i+1),fun σ' H' p'=>⟨xs.length-(i+1),by omega,rfl,hlt,p'⟩,fun v H' y=>?_⟩
  obtain ⟨rfl,y1⟩:=y
  exact hs i v σ _ hlt (y1 xs hq) p
 ·have e:i=xs.length:=by omega
  subst e
  exact .inl ⟨⟨⟨xs,hq,rfl⟩,rfl⟩,hd σ H p⟩
end L2
set_option Elab.async false
set_option linter.all false
set_option maxRecDepth 100000
namespace L2
open PySem PySem.Spec PyProof.Rows
noncomputable def z1n (rs:List Rat):List Rat:=(rs.reverse.dropWhile (fun q=>decide (q=0))).reverse
theorem z5g:z1n []=[]:=rfl
theorem z3l (l:List Rat):z1n (l++[0])=z1n l:=by
 unfold z1n
 rw[List.reverse_append]
 show (List.dropWhile _ (0::l.reverse)).reverse=_
 rw[List.dropWhile_cons,if_pos (by decide)]
theorem z5y {l:List Rat}{x:Rat}(h:x≠0):z1n (l++[x])=l++[x]:=by
 unfold z1n
 rw[List.reverse_append]
 show (List.dropWhile _ (x::l.reverse)).reverse=_
 rw[List.dropWhile_cons,if_neg (by simpa using h)]
 simp
theorem z1w {rs:List Rat}{k:Nat}(h:k<rs.length):rs.take (k+1)=rs.take k++[rs.getD k 0]:=by
 rw[List.take_succ_eq_append_getElem h,List.getD_eq_getElem?_getD,List.getElem?_eq_getElem h];rfl
theorem zb5 {rs:List Rat}:∃k,k≤rs.length∧z1n rs=rs.take k:=by
 have key:∀k,k≤rs.length→∃j,j≤k∧z1n (rs.take k)=rs.take j:=by
  intro k
  induction k with
  | zero=>intro _;exact ⟨0,Nat.le_refl _,by simp[z1n]⟩
  | succ k ih=>
   intro hk
   rw[z1w (by omega)]
   by_cases h:rs.getD k 0=0
   ·rw[h,z3l]
    obtain ⟨j,hj,e⟩:=ih (by omega)
    exact ⟨j,by omega,e⟩
   ·rw[z5y h,←z1w (by omega)]
    exact ⟨k+1,Nat.le_refl _,rfl⟩
 obtain ⟨j,hj,e⟩:=key rs.length (Nat.le_refl _)
 rw[List.take_length]at e
 exact ⟨j,hj,e⟩
theorem z7o {rs:List Rat}{r:Rat}(h:r∈z1n rs):r∈rs:=by
 obtain ⟨k,_,e⟩:=zb5 (rs:=rs)
 rw[e]at h
 exact List.mem_of_mem_take h
theorem z38 (rs:List Rat):(z1n rs).length≤rs.length:=by
 obtain ⟨k,hk,e⟩:=zb5 (rs:=rs)
 rw[e,List.length_take];omega
noncomputable def tab (n:Nat)(f:Nat→Rat):List Rat:=(List.range n).map f
theorem z0v (n:Nat)(f:Nat→Rat):(tab n f).length=n:=by simp[tab]
theorem z23 {n i:Nat}{f:Nat→Rat}(h:i<n):(tab n f).getD i 0=f i:=by
 rw[List.getD_eq_getElem?_getD,tab,List.getElem?_map,List.getElem?_range h];rfl
theorem z1f {n:Nat}{f g:Nat→Rat}(h:∀i,i<n→f i=g i):tab n f=tab n g:=by
 unfold tab
 refine List.map_congr_left fun i hi=>h i (List.mem_range.mp hi)
theorem z5z (rs:List Rat):tab rs.length (fun i=>rs.getD i 0)=rs:=by
 refine List.ext_getElem? fun i=>?_
 by_cases h:i<rs.length
 ·rw[tab,List.getElem?_map,List.getElem?_range h,List.getElem?_eq_getElem h,Option.map_some,List.getD_eq_getElem?_getD,List.getElem?_eq_getElem h];rfl
 ·rw[List.getElem?_eq_none (by rw[z0v];omega),List.getElem?_eq_none (by omega)]
theorem z4u {n i:Nat}{f:Nat→Rat}{v:Rat}:(tab n f).set i v=tab n (fun k=>if k=i then v else f k):=by
 refine List.ext_getElem? fun k=>?_
 rw[List.getElem?_set]
 by_cases hk:k<n
 ·rw[z0v]
  by_cases e:i=k
  ·subst e
   rw[if_pos rfl,if_pos hk]
   rw[tab,List.getElem?_map,List.getElem?_range hk]
   simp
  ·rw[if_neg e,tab,tab,List.getElem?_map,List.getElem?_map,List.getElem?_range hk]
   simp[Ne.symm e]
 ·by_cases e:i=k
  ·subst e
   rw[if_pos rfl,z0v,if_neg hk,List.getElem?_eq_none (by rw[z0v];omega)]
  ·rw[if_neg e,List.getElem?_eq_none (by rw[z0v];omega),List.getElem?_eq_none (by rw[z0v];omega)]
theorem zjl {n:Nat}{f:Nat→Rat}{r:Rat}(h:r∈tab n f):∃i,i<n∧r=f i:=by
 obtain ⟨i,hi,rfl⟩:=List.mem_map.mp h
 exact ⟨i,List.mem_range.mp hi,rfl⟩
theorem z0e {rs:List Rat}{i:Nat}(h:rs.length≤i):rs.getD i 0=0:=by
 rw[List.getD_eq_getElem?_getD,List.getElem?_eq_none h];rfl
noncomputable def z5f (xs ys:List Rat):List Rat:=tab (max xs.length ys.length) fun k=>xs.getD k 0+ys.getD k 0
theorem zg1 (xs ys:List Rat):z5f xs ys=z5f ys xs:=by
 unfold z5f
 rw[Nat.max_comm]
 exact z1f fun i _=>Rat.add_comm _ _
theorem z2b {m:Nat}{rs:List Rat}(h:∀r∈rs,Bs m r)(h0:0<m)(i:Nat):Bs m (rs.getD i 0):=by
 by_cases hi:i<rs.length
 ·exact h _ (z18 hi)
 ·rw[z0e (by omega)];exact Bs.zero.mono h0
noncomputable def z2q (f:Nat→Rat):Nat→Rat
 | 0=>0
 | n+1=>z2q f n+f n
theorem z1s {f g:Nat→Rat}:∀{n:Nat},(∀i,i<n→f i=g i)→z2q f n=z2q g n
 | 0,_=>rfl
 | n+1,h=>by show z2q f n+f n=z2q g n+g n;rw[z1s fun i hi=>h i (by omega),h n (by omega)]
theorem z2j {f:Nat→Rat}:∀{n:Nat},(∀i,i<n→f i=0)→z2q f n=0
 | 0,_=>rfl
 | n+1,h=>by show z2q f n+f n=0;rw[z2j fun i hi=>h i (by omega),h n (by omega)];grind
theorem z33 (f:Nat→Rat)(n:Nat):∀m,z2q f (n+m)=z2q f n+z2q (fun i=>f (n+i)) m
 | 0=>by show z2q f n=z2q f n+0;grind
 | m+1=>by
  show z2q f (n+m)+f (n+m)=z2q f n+(z2q (fun i=>f (n+i)) m+f (n+m))
  rw[z33 f n m];grind
theorem z34 (f:Nat→Rat)(n:Nat):z2q f (n+1)=f 0+z2q (fun i=>f (i+1)) n:=by
 have:=z33 f 1 n
 rw[Nat.add_comm 1 n]at this
 rw[this]
 have e:z2q f 1=f 0:=by show 0+f 0=f 0;grind
 rw[e]
 congr 1
 exact z1s fun i _=>by rw[Nat.add_comm]
theorem zb9 (f:Nat→Rat):∀n,z2q f n=z2q (fun i=>f (n-1-i)) n
 | 0=>rfl
 | n+1=>by
  rw[z34 (fun i=>f (n+1-1-i)) n]
  show z2q f n+f n=f (n+1-1-0)+_
  rw[zb9 f n,show n+1-1-0=n by omega,Rat.add_comm]
  congr 1
  exact z1s fun i hi=>by rw[show n+1-1-(i+1)=n-1-i by omega]
noncomputable def inn (f:Nat→Rat)(c:Rat)(ys:List Rat)(k:Nat):Nat→Nat→Rat
 | 0=>f
 | j+1=>fun t=>if t=k+j then inn f c ys k j t+c*ys.getD j 0 else inn f c ys k j t
noncomputable def out (xs ys:List Rat):Nat→Nat→Rat
 | 0=>fun _=>0
 | k+1=>inn (out xs ys k) (xs.getD k 0) ys k ys.length
theorem zf1 (f:Nat→Rat)(c:Rat)(ys:List Rat)(k:Nat):∀j t,inn f c ys k j t=f t+(if k≤t∧t<k+j then c*ys.getD (t-k) 0 else 0)
 | 0,t=>by rw[if_neg (by omega)];show f t=f t+0;grind
 | j+1,t=>by
  show (if t=k+j then inn f c ys k j t+c*ys.getD j 0 else inn f c ys k j t)=_
  rw[zf1 f c ys k j t]
  by_cases h:t=k+j
  ·subst h
   rw[if_pos rfl,if_neg (by omega),if_pos (by omega),Nat.add_sub_cancel_left];grind
  ·rw[if_neg h]
   by_cases h2:k≤t∧t<k+j
   ·rw[if_pos h2,if_pos (by omega)]
   ·rw[if_neg h2,if_neg (by omega)]
theorem z9b (xs ys:List Rat):∀k t,out xs ys k t=z2q (fun a=>if a≤t then xs.getD a 0*ys.getD (t-a) 0 else 0) k
 | 0,t=>rfl
 | k+1,t=>by
  show inn (out xs ys k) (xs.getD k 0) ys k ys.length t=z2q _ k+_
  rw[zf1,z9b xs ys k t]
  congr 1
  show _=if k≤t then xs.getD k 0*ys.getD (t-k) 0 else 0
  by_cases h:k≤t
  ·rw[if_pos h]
   by_cases h2:t<k+ys.length
   ·rw[if_pos ⟨h,h2⟩]
   ·rw[if_neg (by omega),z0e (show ys.length≤t-k by omega)];grind
  ·rw[if_neg (by omega),if_neg h]
noncomputable def cnv (xs ys:List Rat)(t:Nat):Rat:=z2q (fun a=>xs.getD a 0*ys.getD (t-a) 0) (t+1)
theorem zag (xs ys:List Rat)(t:Nat):out xs ys xs.length t=cnv xs ys t:=by
 rw[z9b]
 have key:∀n,(∀a,n≤a→xs.getD a 0=0)→z2q (fun a=>if a≤t then xs.getD a 0*ys.getD (t-a) 0 else 0) n=cnv xs ys t:=by
  intro n hn
  unfold cnv
  rcases Nat.lt_or_ge (t+1) n with h|h
  ·obtain ⟨d,rfl⟩:=Nat.exists_eq_add_of_le (Nat.le_of_lt h)
   rw[z33,z2j (f:=fun i=>_) (n:=d) fun i _=>by (try dsimp only);rw[if_neg (by omega)]]
   rw[z1s (g:=fun a=>xs.getD a 0*ys.getD (t-a) 0) fun i hi=>by (try dsimp only);rw[if_pos (by omega)]]
   grind
  ·obtain ⟨d,hd⟩:=Nat.exists_eq_add_of_le h
   rw[hd,z33,z2j (f:=fun i=>_) (n:=d) fun i _=>by (try dsimp only);rw[hn (n+i) (by omega)];grind]
   rw[z1s (g:=fun a=>xs.getD a 0*ys.getD (t-a) 0) fun i hi=>by (try dsimp only);rw[if_pos (by omega)]]
   grind
 exact key xs.length fun a ha=>z0e ha
theorem zcj (xs ys:List Rat)(t:Nat):cnv xs ys t=cnv ys xs t:=by
 unfold cnv
 rw[zb9]
 refine z1s fun i hi=>?_
 rw[show t+1-1-i=t-i by omega,show t-(t-i)=i by omega,Rat.mul_comm]
noncomputable def z86 (xs ys:List Rat):List Rat:=tab (xs.length+ys.length) (out xs ys xs.length)
theorem z5h (n:Nat)(f:Nat→Rat):tab (n+1) f=tab n f++[f n]:=by simp[tab,List.range_succ]
noncomputable def mvS (x:Rat)(l:List Rat)(a:Rat):List Rat:=z1n (z5f (z1n (z86 l [x,1])) [a])
noncomputable def mvL (x:Rat):List Rat→List Rat
 | []=>[]
 | a::r=>mvS x (mvL x r) a
theorem zh9 (l:List Rat)(x y:Rat):(z1n (z86 l [x,y])).length≤l.length+1:=by
 have e:z86 l [x,y]=tab (l.length+1) (out l [x,y] l.length)++[0]:=by
  have z:out l [x,y] l.length (l.length+1)=0:=by
   rw[z9b]
   refine z2j fun a ha=>?_
   show (if a≤l.length+1 then _ else _)=_
   rw[if_pos (by omega),z0e (rs:=[x,y]) (show 2≤l.length+1-a by omega)];grind
  show tab (l.length+1+1) _=_
  rw[z5h,z]
 rw[e,z3l]
 have:=z38 (tab (l.length+1) (out l [x,y] l.length))
 rwa [z0v]at this
section
theorem z31 (y:Rat):∀{a b:List Rat},(∀i,a.getD i 0=b.getD i 0)→hor y a=hor y b
 | [],[],_=>rfl
 | x::a,[],h=>by
  have h0:=h 0
  have e:hor y a=hor y []:=z31 y fun i=>by have:=h (i+1);simpa using this
  show hor y a*y+x=0
  rw[e]
  have:x=0:=by simpa using h0
  rw[this];show 0*y+0=0;grind
 | [],x::b,h=>by
  have h0:=h 0
  have e:hor y []=hor y b:=z31 y fun i=>by have:=h (i+1);simpa using this
  show 0=hor y b*y+x
  rw[←e]
  have:x=0:=by have:=h0;simp at this;exact this.symm
  rw[this];show 0=0*y+0;grind
 | x::a,z::b,h=>by
  have h0:x=z:=by simpa using h 0
  have e:hor y a=hor y b:=z31 y fun i=>by have:=h (i+1);simpa using this
  show hor y a*y+x=hor y b*y+z
  rw[e,h0]
theorem zd1 (l:List Rat)(i:Nat):(l++[0]).getD i 0=l.getD i 0:=by
 by_cases h:i<l.length
 ·rw[List.getD_eq_getElem?_getD,List.getD_eq_getElem?_getD,List.getElem?_append_left h]
 ·rw[z0e (rs:=l) (by omega)]
  by_cases h2:i=l.length
  ·subst h2;exact z8b l 0
  ·rw[z0e (by rw[List.length_append];show l.length+1≤i;omega)]
theorem z5x (l:List Rat):∀k,k≤l.length→(∀i,(z1n (l.take k)).getD i 0=(l.take k).getD i 0)∧(z1n (l.take k)=[]∨∃a x,x≠0∧z1n (l.take k)=a++[x])
 | 0,_=>⟨fun i=>by rw[List.take_zero,z5g],.inl (by rw[List.take_zero,z5g])⟩
 | k+1,hk=>by
  rw[z1w (by omega)]
  obtain ⟨i1,i2⟩:=z5x l k (by omega)
  by_cases h:l.getD k 0=0
  ·rw[h,z3l]
   exact ⟨fun i=>by rw[i1,zd1],i2⟩
  ·rw[z5y h]
   exact ⟨fun i=>rfl,.inr ⟨_,_,h,rfl⟩⟩
theorem z0u (l:List Rat)(i:Nat):(z1n l).getD i 0=l.getD i 0:=by
 have:=(z5x l l.length (Nat.le_refl _)).1 i
 rwa [List.take_length]at this
theorem z8u (l:List Rat):z1n l=[]∨∃a x,x≠0∧z1n l=a++[x]:=by
 have:=(z5x l l.length (Nat.le_refl _)).2
 rwa [List.take_length]at this
theorem z39 (l:List Rat):z0x (z1n l)=true:=by
 unfold z0x
 rcases z8u l with h|⟨a,x,hx,h⟩
 ·rw[h];rfl
 ·rw[h,List.length_append]
  show (_ || !decide ((a++[x]).getD (a.length+1-1) 0=0))=true
  rw[Nat.add_sub_cancel,z8b,decide_eq_false hx];simp
theorem z2e {l:List Rat}{k:Nat}(h:∀i,k≤i→l.getD i 0=0):(z1n l).length≤k:=by
 rcases z8u l with e|⟨a,x,hx,e⟩
 ·rw[e];exact Nat.zero_le _
 ·rcases Nat.lt_or_ge a.length k with g|g
  ·rw[e,List.length_append];show a.length+1≤k;omega
  ·exfalso
   have:=z0u l a.length
   rw[e,z8b,h _ g]at this
   exact hx this
theorem z3z (y:Rat)(l:List Rat):hor y (z1n l)=hor y l:=z31 y (z0u l)
noncomputable def z6w:List Rat→List Rat→List Rat
 | [],b=>b
 | x::a,[]=>x::a
 | x::a,z::b=>(x+z)::z6w a b
theorem z2f:∀(a b:List Rat)(i:Nat),(z6w a b).getD i 0=a.getD i 0+b.getD i 0
 | [],b,i=>by show b.getD i 0=([]:List Rat).getD i 0+b.getD i 0;rw[z0e (rs:=[]) (Nat.zero_le _)];grind
 | x::a,[],i=>by show (x::a).getD i 0=(x::a).getD i 0+([]:List Rat).getD i 0;rw[z0e (rs:=[]) (Nat.zero_le _)];grind
 | x::a,z::b,0=>rfl
 | x::a,z::b,i+1=>by simpa [z6w] using z2f a b i
theorem z5r (y:Rat):∀a b:List Rat,hor y (z6w a b)=hor y a+hor y b
 | [],b=>by show hor y b=0+hor y b;grind
 | x::a,[]=>by show hor y (x::a)=hor y (x::a)+0;grind
 | x::a,z::b=>by show hor y (z6w a b)*y+(x+z)=(hor y a*y+x)+(hor y b*y+z);rw[z5r y a b];grind
theorem z2p (a b:List Rat)(i:Nat):(z5f a b).getD i 0=a.getD i 0+b.getD i 0:=by
 by_cases h:i<max a.length b.length
 ·exact z23 h
 ·rw[z0e (by unfold z5f;rw[z0v];omega),z0e (rs:=a) (by omega),z0e (rs:=b) (by omega)];grind
theorem z5s (y:Rat)(a b:List Rat):hor y (z5f a b)=hor y a+hor y b:=by
 rw[←z5r]
 exact z31 y fun i=>by rw[z2p,z2f]
theorem zar (y c:Rat):∀a:List Rat,hor y (a.map (·*c))=hor y a*c
 | []=>by show 0=0*c;grind
 | x::a=>by show hor y (a.map (·*c))*y+x*c=(hor y a*y+x)*c;rw[zar y c a];grind
theorem z2z (c:Rat)(a:List Rat)(i:Nat):(a.map (·*c)).getD i 0=a.getD i 0*c:=by
 by_cases h:i<a.length
 ·rw[List.getD_eq_getElem?_getD,List.getElem?_map,List.getD_eq_getElem?_getD,List.getElem?_eq_getElem h];rfl
 ·rw[z0e (by rw[List.length_map];omega),z0e (rs:=a) (by omega)];grind
noncomputable def m2 (x p:Rat):List Rat→List Rat
 | []=>[p]
 | a::l=>(p+a*x)::m2 x a l
theorem ziy (y x:Rat):∀(l:List Rat)(p:Rat),hor y (m2 x p l)=p+hor y l*(x+y)
 | [],p=>by show 0*y+p=p+0*(x+y);grind
 | a::l,p=>by show hor y (m2 x a l)*y+(p+a*x)=p+(hor y l*y+a)*(x+y);rw[ziy y x l a];grind
theorem zc1 (x:Rat):∀(l:List Rat)(p:Rat)(t:Nat),(m2 x p l).getD t 0=(if t=0 then p else l.getD (t-1) 0)+l.getD t 0*x
 | [],p,0=>by show p=p+([]:List Rat).getD 0 0*x;rw[z0e (rs:=[]) (Nat.zero_le _)];grind
 | [],p,t+1=>by
  rw[if_neg (by omega),z0e (rs:=[]) (Nat.zero_le _),z0e (rs:=m2 x p []) (show 1≤t+1 by omega),z0e (rs:=[]) (Nat.zero_le _)];grind
 | a::l,p,0=>rfl
 | a::l,p,t+1=>by
  show (m2 x a l).getD t 0=(if t+1=0 then p else (a::l).getD t 0)+l.getD t 0*x
  rw[zc1 x l a t]
  cases t with
  | zero=>rfl
  | succ t=>rfl
theorem z87 (l:List Rat)(x:Rat)(t:Nat):(z86 l [x,1]).getD t 0=l.getD t 0*x+(if t=0 then 0 else l.getD (t-1) 0):=by
 have key:out l [x,1] l.length t=l.getD t 0*x+(if t=0 then 0 else l.getD (t-1) 0):=by
  rw[zag,zcj,←zag,z9b]
  show 0+(if 0≤t then x*l.getD (t-0) 0 else 0)+(if 1≤t then 1*l.getD (t-1) 0 else 0)=_
  rw[if_pos (Nat.zero_le _)]
  by_cases h:t=0
  ·subst h;rw[if_neg (by omega),if_pos rfl];grind
  ·rw[if_pos (by omega),if_neg h];show 0+x*l.getD t 0+_=_;grind
 by_cases h:t<l.length+2
 ·exact (z23 h).trans key
 ·have hl:(z86 l [x,1]).length=l.length+2:=z0v _ _
  rw[z0e (by omega),z0e (rs:=l) (i:=t) (by omega),if_neg (by omega),z0e (rs:=l) (by omega)];grind
theorem zhi (y x:Rat)(l:List Rat):hor y (z86 l [x,1])=hor y l*(x+y):=by
 have:=ziy y x l 0
 rw[Rat.zero_add]at this
 rw[←this]
 exact z31 y fun t=>by
  rw[z87,zc1];grind
theorem z6f (x a:Rat)(l:List Rat)(t:Nat):(mvS x l a).getD t 0=l.getD t 0*x+(if t=0 then a else l.getD (t-1) 0):=by
 unfold mvS
 rw[z0u,z2p,z0u,z87]
 cases t with
 | zero=>show l.getD 0 0*x+0+a=l.getD 0 0*x+a;grind
 | succ t=>rw[if_neg (by omega),if_neg (by omega),z0e (rs:=[a]) (show 1≤t+1 by omega)];grind
theorem z52 (y x:Rat):∀rs:List Rat,hor y (mvL x rs)=hor (y+x) rs
 | []=>rfl
 | a::r=>by
  show hor y (mvS x (mvL x r) a)=hor (y+x) r*(y+x)+a
  unfold mvS
  rw[z3z,z5s,z3z,zhi,z52 y x r]
  show _+(0*y+a)=_
  grind
theorem z3e (x:Rat):∀rs:List Rat,(mvL x rs).length≤rs.length
 | []=>Nat.le_refl _
 | a::r=>by
  have i:=z3e x r
  have m:=zh9 (mvL x r) x 1
  show (z1n (z5f (z1n (z86 (mvL x r) [x,1])) [a])).length≤r.length+1
  refine Nat.le_trans (z38 _) ?_
  unfold z5f
  rw[z0v]
  have:[a].length=1:=rfl
  omega
theorem zem (x:Rat):∀rs:List Rat,(mvL x rs).getD (rs.length-1) 0=rs.getD (rs.length-1) 0
 | []=>rfl
 | [a]=>by
  show (mvS x [] a).getD 0 0=a
  rw[z6f,if_pos rfl];show 0*x+a=a;grind
 | a::b::r=>by
  have i:=zem x (b::r)
  have l:=z3e x (b::r)
  show (mvS x (mvL x (b::r)) a).getD (r.length+1) 0=(b::r).getD r.length 0
  rw[z6f,if_neg (by omega),z0e (show (mvL x (b::r)).length≤r.length+1 from l),Nat.add_sub_cancel]
  have i':(mvL x (b::r)).getD r.length 0=(b::r).getD r.length 0:=i
  rw[i'];grind
theorem z1k {D:Int}{m:Nat}{l:List Rat}(h:∀r∈l,Cd D m r)(i:Nat):Cd D m (l.getD i 0):=by
 by_cases hi:i<l.length
 ·exact h _ (z18 hi)
 ·rw[z0e (by omega)];exact Cd.zero.mono (Nat.zero_le _)
theorem Cd.neg {D:Int}{m:Nat}{q:Rat}(h:Cd D m q):Cd D m (q * -1):=by
 obtain ⟨t,rfl,b⟩:=h
 refine ⟨-t,?_,b.neg⟩
 rw[←Rat.neg_divInt];grind
theorem z2o {l:List Rat}{r:Rat}(h:r∈l):∃i,i<l.length∧r=l.getD i 0:=by
 obtain ⟨i,hi,rfl⟩:=List.mem_iff_getElem.mp h
 exact ⟨i,hi,by rw[List.getD_eq_getElem?_getD,List.getElem?_eq_getElem hi];rfl⟩
noncomputable def z69 (rs:List Rat):List Rat:=z1n (z5f (mvL 1 rs) rs)
theorem z81 (z:Rat)(rs:List Rat):hor z (z69 rs)=hor (z+1) rs+hor z rs:=by
 unfold z69
 rw[z3z,z5s,z52]
theorem z82 (rs:List Rat):(z69 rs).length≤rs.length:=by
 refine Nat.le_trans (z38 _) ?_
 have:=z3e 1 rs
 unfold z5f
 rw[z0v];omega
section
variable {D:Int}{m:Nat}{rs:List Rat}
end
end
section
noncomputable def z16 (x o:Rat):List Rat→Nat→Rat
 | []=>fun _=>0
 | a::r=>fun t=>z16 x o r t*x+(if t=0 then a else z16 x o r (t-1)*o)
theorem z4a (x:Rat):∀(rs:List Rat)(t:Nat),(mvL x rs).getD t 0=z16 x 1 rs t
 | [],t=>z0e (Nat.zero_le _)
 | a::r,t=>by
  show (mvS x (mvL x r) a).getD t 0=z16 x 1 r t*x+(if t=0 then a else z16 x 1 r (t-1)*1)
  rw[z6f,z4a x r t,z4a x r (t-1),Rat.mul_one]
theorem z7p {a b:List Rat}(h:∀i,a.getD i 0=b.getD i 0):z1n a=z1n b:=by
 have hl:∀{a b:List Rat},(∀i,a.getD i 0=b.getD i 0)→(z1n a).length≤(z1n b).length:=fun {a b} h=>by
  refine z2e fun i hi=>?_
  rw[h,←z0u b]
  exact z0e hi
 have e:(z1n a).length=(z1n b).length:=Nat.le_antisymm (hl h) (hl fun i=>(h i).symm)
 rw[←z5z (z1n a),←z5z (z1n b),e]
 exact z1f fun i _=>by rw[z0u,z0u,h i]
theorem z8t (l:List Rat):z1n (z1n l)=z1n l:=z7p (z0u l)
theorem z75 {l:List Rat}(h:z0x l=true):z1n l=l:=by
 by_cases e:l=[]
 ·rw[e];rfl
 ·unfold z0x at h
  rw[decide_eq_false e]at h
  have hp:0<l.length:=List.length_pos_iff.mpr e
  have nz:¬l.getD (l.length-1) 0=0:=fun z=>by rw[decide_eq_true z]at h;cases h
  have sp:l=l.take (l.length-1)++[l.getD (l.length-1) 0]:=by
   rw[←z1w (by omega),show l.length-1+1=l.length by omega,List.take_length]
  rw[sp]at nz ⊢
  conv=>lhs;rw[z5y (by rw[←sp]at nz;exact nz)]
noncomputable def shf (f:Nat→Rat)(t:Nat):Rat:=if t=0 then 0 else f (t-1)
theorem zif (x y:Rat):∀(l:List Rat)(p:Rat)(t:Nat),z16 y 1 (m2 x p l) t=shf (z16 y 1 l) t+z16 y 1 l t*(x+y)+(if t=0 then p else 0)
 | [],p,t=>by
  show 0*y+(if t=0 then p else 0*1)=shf (fun _=>0) t+0*(x+y)+(if t=0 then p else 0)
  unfold shf
  cases t with
  | zero=>rw[if_pos rfl,if_pos rfl,if_pos rfl];grind
  | succ t=>rw[if_neg (by omega),if_neg (by omega),if_neg (by omega)];grind
 | a::l,p,t=>by
  show z16 y 1 (m2 x a l) t*y+(if t=0 then p+a*x else z16 y 1 (m2 x a l) (t-1)*1)=shf (fun t=>z16 y 1 l t*y+(if t=0 then a else z16 y 1 l (t-1)*1)) t+(z16 y 1 l t*y+(if t=0 then a else z16 y 1 l (t-1)*1))*(x+y)+(if t=0 then p else 0)
  rw[zif x y l a t,zif x y l a (t-1)]
  unfold shf
  cases t with
  | zero=>simp only[if_pos];grind
  | succ t=>
   simp only[Nat.add_sub_cancel,if_neg (Nat.succ_ne_zero t)]
   cases t with
   | zero=>simp only[if_pos];grind
   | succ t=>simp only[Nat.add_sub_cancel,if_neg (Nat.succ_ne_zero t)];grind
noncomputable def m2g (o x p:Rat):List Rat→List Rat
 | []=>[p]
 | a::l=>(p+a*x)::m2g o x (a*o) l
theorem zep (o x:Rat):∀(l:List Rat)(p:Rat)(t:Nat),(m2g o x p l).getD t 0=(if t=0 then p else l.getD (t-1) 0*o)+l.getD t 0*x
 | [],p,0=>by show p=p+([]:List Rat).getD 0 0*x;rw[z0e (rs:=[]) (Nat.zero_le _)];grind
 | [],p,t+1=>by
  rw[if_neg (by omega),z0e (rs:=[]) (Nat.zero_le _),z0e (rs:=m2g o x p []) (show 1≤t+1 by omega),z0e (rs:=[]) (Nat.zero_le _)];grind
 | a::l,p,0=>rfl
 | a::l,p,t+1=>by
  show (m2g o x (a*o) l).getD t 0=(if t+1=0 then p else (a::l).getD t 0*o)+l.getD t 0*x
  rw[zep o x l (a*o) t]
  cases t with
  | zero=>rfl
  | succ t=>rfl
theorem zaa (o x c y:Rat):∀(l:List Rat)(p:Rat)(t:Nat),z16 y c (m2g o x p l) t=o*c*shf (z16 y c l) t+z16 y c l t*(x+o*y)+(if t=0 then p else 0)
 | [],p,t=>by
  show 0*y+(if t=0 then p else 0*c)=o*c*shf (fun _=>0) t+0*(x+o*y)+(if t=0 then p else 0)
  unfold shf
  cases t with
  | zero=>rw[if_pos rfl,if_pos rfl,if_pos rfl];grind
  | succ t=>rw[if_neg (by omega),if_neg (by omega),if_neg (by omega)];grind
 | a::l,p,t=>by
  show z16 y c (m2g o x (a*o) l) t*y+(if t=0 then p+a*x else z16 y c (m2g o x (a*o) l) (t-1)*c)=o*c*shf (fun t=>z16 y c l t*y+(if t=0 then a else z16 y c l (t-1)*c)) t+(z16 y c l t*y+(if t=0 then a else z16 y c l (t-1)*c))*(x+o*y)+(if t=0 then p else 0)
  rw[zaa o x c y l (a*o) t,zaa o x c y l (a*o) (t-1)]
  unfold shf
  cases t with
  | zero=>simp only[if_pos];grind
  | succ t=>
   simp only[Nat.add_sub_cancel,if_neg (Nat.succ_ne_zero t)]
   cases t with
   | zero=>simp only[if_pos];grind
   | succ t=>simp only[Nat.add_sub_cancel,if_neg (Nat.succ_ne_zero t)];grind
theorem z47 (x o:Rat):∀{a b:List Rat},(∀i,a.getD i 0=b.getD i 0)→∀t,z16 x o a t=z16 x o b t
 | [],[],_,t=>rfl
 | u::a,[],h,t=>by
  have h0:u=0:=by simpa using h 0
  have e:∀t,z16 x o a t=z16 x o [] t:=z47 x o fun i=>by have:=h (i+1);simpa using this
  show z16 x o a t*x+(if t=0 then u else z16 x o a (t-1)*o)=0
  rw[e,e,h0];show 0*x+(if t=0 then 0 else 0*o)=(0:Rat);split<;>grind
 | [],u::b,h,t=>by
  have h0:u=0:=by have:=h 0;simp at this;exact this.symm
  have e:∀t,z16 x o [] t=z16 x o b t:=z47 x o fun i=>by have:=h (i+1);simpa using this
  show 0=z16 x o b t*x+(if t=0 then u else z16 x o b (t-1)*o)
  rw[←e,←e,h0];show (0:Rat)=0*x+(if t=0 then 0 else 0*o);split<;>grind
 | u::a,v::b,h,t=>by
  have h0:u=v:=by simpa using h 0
  have e:∀t,z16 x o a t=z16 x o b t:=z47 x o fun i=>by have:=h (i+1);simpa using this
  show z16 x o a t*x+(if t=0 then u else z16 x o a (t-1)*o)=z16 x o b t*x+(if t=0 then v else z16 x o b (t-1)*o)
  rw[e,e,h0]
theorem z62 (x o:Rat):∀(rs:List Rat)(i:Nat),rs.length≤i→z16 x o rs i=0
 | [],i,_=>rfl
 | a::r,i,h=>by
  have h':r.length+1≤i:=h
  show z16 x o r i*x+(if i=0 then a else z16 x o r (i-1)*o)=0
  rw[if_neg (by omega),z62 x o r i (by omega),z62 x o r (i-1) (by omega)];grind
noncomputable def zd8 (x o:Rat)(rs:List Rat):List Rat:=tab rs.length (z16 x o rs)
theorem z5j (x o:Rat)(rs:List Rat)(i:Nat):(zd8 x o rs).getD i 0=z16 x o rs i:=by
 by_cases h:i<rs.length
 ·exact z23 h
 ·rw[z62 x o rs i (by omega)]
  exact z0e (by unfold zd8;rw[z0v];omega)
theorem zbi {o c x y:Rat}(h1:o*c=1)(h2:x+o*y=0):∀(rs l:List Rat),(∀i,l.getD i 0=z16 x o rs i)→∀t,z16 y c l t=rs.getD t 0
 | [],l,h,t=>by
  rw[z47 y c (b:=[]) (fun i=>by rw[h,z0e (rs:=[]) (Nat.zero_le _)];rfl) t,z0e (rs:=[]) (Nat.zero_le _)];rfl
 | a::r,l,h,t=>by
  have e:∀i,l.getD i 0=(m2g o x a (zd8 x o r)).getD i 0:=fun i=>by
   rw[h,zep,z5j,z5j]
   show z16 x o r i*x+(if i=0 then a else z16 x o r (i-1)*o)=_
   grind
  rw[z47 y c e t,zaa,h1,h2]
  have ih:=zbi h1 h2 r (zd8 x o r) (z5j x o r)
  unfold shf
  cases t with
  | zero=>rw[if_pos rfl,if_pos rfl];show 1*0+_*0+a=a;grind
  | succ t=>
   rw[if_neg (by omega),if_neg (by omega),Nat.add_sub_cancel,ih t]
   show 1*r.getD t 0+_*0+0=r.getD t 0
   grind
theorem zmj {l : List Rat}{x : Rat}(h : ∀ r ∈ l, Bs 2000 r)(hy : ∀ r ∈ [x, 1], Bs 2000 r)(k j : Nat)(hk : k<l.length)(hj : j<[x, 1].length) :
  Bs 4400 (inn (out l [x,1] k) (l.getD k 0) [x,1] k j (k+j))∧Bs 4400 (l.getD k 0*[x,1].getD j 0):=by
 constructor
 ·rw[zf1,if_neg (by omega),Rat.add_zero,z9b]
  cases k with
  | zero=>exact Bs.zero.mono (by decide)
  | succ k=>
   show Bs 4400 (z2q _ k+(if k≤k+1+j then l.getD k 0*[x,1].getD (k+1+j-k) 0 else 0))
   rw[z2j fun a ha=>by
    show (if a≤k+1+j then l.getD a 0*[x,1].getD (k+1+j-a) 0 else 0)=0
    rw[if_pos (by omega),z0e (rs:=[x,1]) (show 2≤k+1+j-a by omega)];grind]
   rw[Rat.zero_add,if_pos (by omega)]
   exact ((z2b h (by decide) k).mul (z2b hy (by decide) _)).mono (by decide)
 ·exact ((z2b h (by decide) k).mul (z2b hy (by decide) j)).mono (by decide)
theorem zjk {l:List Rat}{x a:Rat}(h:∀r∈l,Bs 2000 r)(hx:Bs 2000 x)(hs:∀r∈mvS x l a,Bs 2000 r):∀r∈z1n (z86 l [x,1]),Bs 4400 r:=fun r hr=>by
 obtain ⟨t,_,rfl⟩:=z2o (z7o hr)
 rw[z87]
 cases t with
 | zero=>rw[if_pos rfl,Rat.add_zero];exact ((z2b h (by decide) 0).mul hx).mono (by decide)
 | succ t=>
  have:=z2b hs (by decide) (t+1)
  rw[z6f]at this
  rw[if_neg (by omega)]at this ⊢
  exact this.mono (by decide)
section
variable {D u d:Int}{m n:Nat}{q:Rat}
theorem Cd.up (d0:d≠0)(bd:Bt n d)(h:Cd D m q):Cd (D*d) (m+n) q:=by
 obtain ⟨t,rfl,b⟩:=h
 exact ⟨t*d,(Rat.divInt_mul_right d0).symm,b.mul bd⟩
theorem Cd.mulx (bu:Bt n u)(h:Cd D m q):Cd (D*d) (m+n) (q*Rat.divInt u d):=by
 obtain ⟨t,rfl,b⟩:=h
 exact ⟨t*u,Rat.divInt_mul_divInt _ _,b.mul bu⟩
theorem Cd.ups (d0:d≠0)(bd:Bt n d)(h:Cd D m q):∀k:Nat,Cd (D*d^k) (m+k*n) q
 | 0=>by rw[Int.pow_zero,Int.mul_one,Nat.zero_mul];exact h
 | k+1=>by
  have:=(Cd.ups d0 bd h k).up d0 bd
  rw[Int.pow_succ,←Int.mul_assoc,Nat.succ_mul,←Nat.add_assoc];exact this
theorem ze4 {n:Nat}{d:Int}(bd:Bt n d):∀k:Nat,Bt (k*n+1) (d^k)
 | 0=>by rw[Int.pow_zero];exact Bt.mono (m:=1) (by decide) (by omega)
 | k+1=>by
  rw[Int.pow_succ]
  exact ((ze4 bd k).mul bd).mono (by rw[Nat.succ_mul];omega)
theorem zah (h0:D≠0)(d0:d≠0)(bu:Bt n u)(bd:Bt n d):∀{rs:List Rat},(∀r∈rs,Cd D m r)→∀r∈mvL (Rat.divInt u d) rs,Cd (D*d^rs.length) (m+rs.length*(n+1)) r
 | [],_,r,hr=>by cases hr
 | a::l,h,r,hr=>by
  have i:=zah h0 d0 bu bd (rs:=l) fun r hr=>h r (List.mem_cons_of_mem _ hr)
  have dl0:D*d^(l.length+1)≠0:=Int.mul_ne_zero h0 (Int.pow_ne_zero d0)
  obtain ⟨t,_,rfl⟩:=z2o hr
  show Cd (D*d^(l.length+1)) (m+(l.length+1)*(n+1)) ((mvS (Rat.divInt u d) (mvL (Rat.divInt u d) l) a).getD t 0)
  rw[z6f]
  have e:m+(l.length+1)*(n+1)=m+l.length*(n+1)+n+1:=by rw[Nat.succ_mul];omega
  have e2:D*d^(l.length+1)=D*d^l.length*d:=by rw[Int.pow_succ,Int.mul_assoc]
  rw[e]
  refine Cd.add dl0 ?_ ?_
  ·rw[e2];exact (z1k i t).mulx bu
  ·split
   ·refine ((h a (List.mem_cons_self ..)).ups d0 bd (l.length+1)).mono ?_
    rw[Nat.mul_add,Nat.succ_mul];omega
   ·rw[e2];exact (z1k i _).up d0 bd
end
theorem zir {n:Nat}{x:Rat}(h:Bs n x):∀k:Nat,Bs (k*n+1) (x^k)
 | 0=>by rw[Rat.pow_zero];exact Bs.mono (m:=1) ⟨by decide,by decide⟩ (by omega)
 | k+1=>by
  rw[Rat.pow_succ]
  exact ((zir h k).mul h).mono (by rw[Nat.succ_mul];omega)
noncomputable def zjt (x:Rat)(rs:List Rat):List Rat:=z1n (tab rs.length fun k=>rs.getD k 0*x^k)
end
section
noncomputable def Upx (e:Addr)(c:Value)(dx:Option Addr)(fl:Value)(T:Addr)(h:Heap):Prop:=
 ∃oe vs oT ts,h.get? e=some oe∧oe.cls=c∧oe.dict=dx∧oe.data=.fields vs∧vs[1]?=some (.ref T)∧T≠e∧h.get? T=some oT∧oT.data=.fields ts∧ts[3]?=some fl
noncomputable def Nte (fr no:List Addr)(h h':Heap):Prop:=
 ∀b o,h.get? b=some o→b∉no→(b∉fr→h'.get? b=some o)∧∃sl,h'.get? b=some {o with slots:=sl}
theorem Nte.mono {fr no no':List Addr}{h h':Heap}(x:Nte fr no h h')(k:∀b∈no,b∈no'):Nte fr no' h h':=fun b o e n=>x b o e fun z=>n (k b z)
theorem Nte.trans {fr no:List Addr}{h1 h2 h3:Heap}(x:Nte fr no h1 h2)(y:Nte fr no h2 h3):Nte fr no h1 h3:=fun b o e n=>by
 obtain ⟨a1,sl,a2⟩:=x b o e n
 obtain ⟨c1,sl',c2⟩:=y b _ a2 n
 exact ⟨fun f=>(y b o (a1 f) n).1 f,sl',c2⟩
theorem zlv (f:Array Value→Array Value)(o:Obj):(Obj.mapFields f o).dict=o.dict:=by
 obtain ⟨_,_,dd,_⟩:=o
 cases dd<;>rfl
section
variable {M:Model}{A:Around}{E:Value→Shared→Prop}{s:Shared}
theorem zj2 {base : Heap}{env : Env}{outer : List Env}{L e : Addr}{ob : Obj}{vs : Array Value}{hd0 : Value}{nx : Bool}{Q : Unit → Shared → Prop}
  (fr:A.frames=some (env::outer))(fl:s.heap.FunFrames base (env::outer))(ef:env.frame=some L)(he:s.heap.get? e=some ob)(dt:ob.data=.fields vs)(sz:1<vs.size)
  (k:∀h' T,s.heap.objs.size≤T→Nte (frs (env::outer)) [e] s.heap h'→Upx e ob.cls ob.dict (rawInt L) T h'→Q () {s with heap:=h'}) :
  wpAny M A (do let a ←frameOf env;let pl ←entryPlaceOf L nx;let b ←EntryCells.newEntry hd0 a .none (rawInt L) .none pl;setField (.ref e) 1 b) Q E s:=by
 have eno:e∉(env::outer).filterMap (·.frame):=fun z=>by
  obtain ⟨_,o,ho,nf⟩:=fl.mem z
  rw[he]at ho;injection ho with ho;subst ho;exact nf vs dt
 refine wpAny_bind (wpAny_frameOf_fun fr fl ef fun g1 so=>?_)
 refine wpAny_bind (wpAny_entryPlaceOf fun pl ip=>?_)
 unfold EntryCells.newEntry newFields
 refine wpAny_bind (wpAny_newObj_type ?_ (ip.sizeOk5 _ _ _ _ _))
 have e1:g1.get? e=some ob:=(so.2.1 e eno).trans he
 generalize hT:({cls:=.type "traceback",dict:=none,data:=.fields ([hd0,.ref L,.none,rawInt L,.none]++(if pl.isEmpty then List.replicate 6 Value.none else pl)).toArray}:Obj)=oT
 have e2:(g1.push oT).get? e=some ob:=Heap.get?_push_of_some oT e1
 have ne:g1.objs.size≠e:=Nat.ne_of_gt (Heap.lt_size e1)
 have d3:=Obj.data_mapFields dt (·.setIfInBounds 1 (Value.ref g1.objs.size))
 have e3:=Heap.get?_update_self (Obj.mapFields (·.setIfInBounds 1 (Value.ref g1.objs.size))) e2 (Obj.isFreed_of_fields d3)
 have isf:oT.isFreed=false:=by subst hT;rfl
 have t3:((g1.push oT).update e (Obj.mapFields (·.setIfInBounds 1 (Value.ref g1.objs.size)))).get? g1.objs.size=some oT:=
  (Heap.get?_update_other (g1.push oT) (Obj.mapFields (·.setIfInBounds 1 (Value.ref g1.objs.size))) (Ne.symm ne)).trans (Heap.get?_push_size g1 isf)
 have fresh:s.heap.objs.size≤g1.objs.size:=Nat.le_of_eq so.1.symm
 refine wpAny_setField e2 dt sz (k _ g1.objs.size fresh (fun b o q n=>?_) ?_)
 ·have nb:e≠b:=fun z=>n (by rw[z];exact List.mem_singleton.mpr rfl)
  refine ⟨fun f=>?_,?_⟩
  ·rw[Heap.get?_update_other _ _ nb]
   exact Heap.get?_push_of_some _ ((so.2.1 b f).trans q)
  ·obtain ⟨sl,z⟩:=so.2.2 b o q
   exact ⟨sl,by rw[Heap.get?_update_other _ _ nb];exact Heap.get?_push_of_some _ z⟩
 ·refine ⟨_,_,oT,_,e3,Obj.cls_mapFields _ _,?_,d3,by simp[sz],ne,t3,by rw[←hT],?_⟩
  ·exact zlv _ _
  ·first|(simp;done)|(rcases ip with rfl|⟨_,_,_,_,_,_,_,rfl⟩<;>simp)
theorem zbz {base : Heap}{env : Env}{outer : List Env}{L e : Addr}{ob : Obj}{vs : Array Value}{Q : Unit → Shared → Prop}
  (fr:A.frames=some (env::outer))(fl:s.heap.FunFrames base (env::outer))(ef:env.frame=some L)(he:s.heap.get? e=some ob)(dt:ob.data=.fields vs)(h1:vs[1]?=some .none)
  (k:∀h' T,s.heap.objs.size≤T→Nte (frs (env::outer)) [e] s.heap h'→Upx e ob.cls ob.dict (rawInt L) T h'→Q () {s with heap:=h'}):wpAny M A (noteFrame (.ref e) env) Q E s:=by
 unfold noteFrame
 simp only[ef]
 refine wpAny_bind (wpAny_field he dt h1 ?_)
 rw[if_neg (by decide)]
 exact zj2 fr fl ef he dt (Array.getElem?_eq_some_iff.mp h1).1 k
theorem zlg {base : Heap}{env : Env}{outer : List Env}{L e T : Addr}{c : Value}{dx : Option Addr}{Q : Unit → Shared → Prop}
  (fr:A.frames=some (env::outer))(fl:s.heap.FunFrames base (env::outer))(ef:env.frame=some L)(u:Upx e c dx .none T s.heap)
  (k:∀h' T',s.heap.objs.size≤T'→Nte (frs (env::outer)) [e,T] s.heap h'→Upx e c dx (rawInt L) T' h'→Q () {s with heap:=h'}):wpAny M A (noteFrame (.ref e) env) Q E s:=by
 obtain ⟨oe,vs,oT,ts,he,rfl,rfl,dt,h1,ne,gT,dT,h3⟩:=u
 unfold noteFrame
 simp only[ef]
 refine wpAny_bind (wpAny_field he dt h1 ?_)
 rw[if_pos (show (Value.ref T != Value.none)=true from by simp)]
 refine wpAny_bind (wpAny_field gT dT h3 ?_)
 rw[if_neg (show ¬((Value.none == rawInt L)=true) from by simp[rawInt])]
 refine wpAny_bind (wpAny_setField gT dT (Array.getElem?_eq_some_iff.mp h3).1 ?_)
 have oth:∀b,b≠T→(s.heap.update T (Obj.mapFields (·.setIfInBounds 3 Value.none))).get? b=s.heap.get? b:=fun b hb=>Heap.get?_update_other _ _ (Ne.symm hb)
 have nrc:∀b o,s.heap.get? b=some o→(∀vs,o.data≠.fields vs)→b≠T:=fun b o hb nf q=>by
  rw[q,gT]at hb;injection hb with hb;subst hb;exact nf ts dT
 refine zj2 fr (fl.of_keeps fun b o hb nf=>⟨o,(oth b (nrc b o hb nf)).trans hb,rfl⟩) ef ((oth e (Ne.symm ne)).trans he) dt (Array.getElem?_eq_some_iff.mp h1).1 fun h' T' f x u'=>k h' T' ?_ (fun b o q n=>?_) u'
 ·rw[Heap.size_after_update]at f;exact f
 ·have n1:b≠e:=fun z=>n (by rw[z];exact List.mem_cons_self ..)
  have n2:b≠T:=fun z=>n (by rw[z];exact List.mem_cons_of_mem _ (List.mem_singleton.mpr rfl))
  exact x b o ((oth b n2).trans q) fun z=>n1 (List.mem_singleton.mp z)
theorem z55 {e T : Addr}{c fl : Value}{dx : Option Addr}{Q : Unit → Shared → Prop}(u : Upx e c dx fl T s.heap)
  (k:∀h',Nte [] [T] s.heap h'→Upx e c dx .none T h'→Q () {s with heap:=h'}):wpAny M A (setFlight (.ref e) none) Q E s:=by
 obtain ⟨oe,vs,oT,ts,he,c1,c2,dt,h1,ne,gT,dT,h3⟩:=u
 have z3:3<ts.size:=(Array.getElem?_eq_some_iff.mp h3).1
 unfold setFlight
 refine wpAny_bind (wpAny_field he dt h1 ?_)
 rw[if_pos (show (Value.ref T != Value.none)=true from by simp)]
 refine wpAny_setField gT dT z3 (k _ (fun b o q n=>?_) ?_)
 ·have nb:T≠b:=fun z=>n (by rw[z];exact List.mem_singleton.mpr rfl)
  have q':=(Heap.get?_update_other s.heap (Obj.mapFields (·.setIfInBounds 3 ((none:Option Addr).elim Value.none fun f=>rawInt f))) nb).trans q
  exact ⟨fun _=>q',o.slots,q'⟩
 ·exact ⟨oe,vs,_,_,(Heap.get?_update_other _ _ ne).trans he,c1,c2,dt,h1,ne,Heap.get?_update_self _ gT (Obj.isFreed_of_fields (Obj.data_mapFields dT _)),Obj.data_mapFields dT _,by simp[z3]⟩
theorem zes {base : Heap}{env : Env}{outer : List Env}{L e : Addr}{ob : Obj}{vs : Array Value}{Q : Unit → Shared → Prop}
  (fr:A.frames=some (env::outer))(fl:s.heap.FunFrames base (env::outer))(ef:env.frame=some L)(he:s.heap.get? e=some ob)(dt:ob.data=.fields vs)(h1:vs[1]?=some .none)
  (k:∀h' T,s.heap.objs.size≤T→Nte (frs (env::outer)) [e] s.heap h'→Upx e ob.cls ob.dict .none T h'→Q () {s with heap:=h'}):wpAny M A (leaving env (.ref e)) Q E s:=by
 unfold leaving
 refine wpAny_bind (zbz fr fl ef he dt h1 fun h1 T f x u=>?_)
 refine z55 (s:={s with heap:=h1}) u fun h2 y u2=>k h2 T f (fun b o q n=>?_) u2
 obtain ⟨a1,sl,a2⟩:=x b o q n
 have nT:b∉[T]:=fun z=>by rw[List.mem_singleton.mp z]at q;exact absurd (Nat.lt_of_lt_of_le (Heap.lt_size q) f) (Nat.lt_irrefl _)
 exact ⟨fun g=>(y b o (a1 g) nT).1 (by simp),sl,(y b _ a2 nT).1 (by simp)⟩
end
end
end L2
set_option Elab.async false
set_option linter.all false
set_option maxRecDepth 100000
namespace L2
open PySem PySem.Spec PyProof.Rows PySem.W Builtin Builtin.ObjectAttr
section
section
variable {prog:Program}{w:World}{A:Around}{E:Value→Shared→Prop}{s:Shared}{K:Frag}{x C:Addr}{ox:Obj}{od:Option Obj}{name:Str}{expr:Bool}{Q:Value→Shared→Prop}
end
end
end L2
set_option Elab.async false
set_option linter.all false
set_option maxRecDepth 100000
namespace L2
open PySem PySem.Spec PyProof.Rows Builtin Builtin.ObjectAttr
section
noncomputable def XO (fresh:Bool)(ea C:Addr)(dx:Option Addr):HO:=.ext fun h=>∃oe vs,h.get? ea=some oe∧oe.cls=.ref C∧oe.dict=dx∧oe.data=.fields vs∧1<vs.size∧(fresh=true→vs[1]?=some .none)
noncomputable def XD (dx:Addr)(fs:List (Str×V)):HO:=.ext fun h=>∃mA,h.Ns1 dx mA∧(∀f,RelO (fs.lookup f) (mA f))∧PySem.Within mA (fs.map (·.1))∧fs.length≤100
theorem zje {P : Program}{w : World}{H : Hp}{h : Heap}{fresh : Bool}{ea C : Addr}{dx : Option Addr}{oe : Obj}{vs : Array Value}(e : h.get? ea = some oe)(h1 : oe.cls = .ref C)(h2 : oe.dict = dx)(h3 : oe.data = .fields vs)(h4 : 1<vs.size)
  (h5:fresh=true→vs[1]?=some .none):ObjOk P w H h ea (XO fresh ea C dx):=
 ⟨⟨oe,vs,e,h1,h2,h3,h4,h5⟩,⟨oe,e⟩,fun _ _ ⟨o,u,q,r⟩ k=>⟨o,u,k o q,r⟩⟩
theorem z73 {P:Program}{w:World}{H:Hp}{h:Heap}{fresh:Bool}{ea C:Addr}{dx:Option Addr}(x:ObjOk P w H h ea (XO fresh ea C dx)):∃oe vs,h.get? ea=some oe∧oe.cls=.ref C∧oe.dict=dx∧oe.data=.fields vs∧1<vs.size∧(fresh=true→vs[1]?=some .none):=x.1
theorem zjf {P:Program}{w:World}{H:Hp}{h:Heap}{dx:Addr}{fs:List (Str×V)}{mA:Str→Option Value}(n:h.Ns1 dx mA)(r:∀f,RelO (fs.lookup f) (mA f))(wi:PySem.Within mA (fs.map (·.1)))(l:fs.length≤100):ObjOk P w H h dx (XD dx fs):=
 ⟨⟨mA,n,r,wi,l⟩,let ⟨o,_,_,e,_⟩:=n;⟨o,e⟩,fun _ _ ⟨m,n,r⟩ k=>⟨m,n.at k,r⟩⟩
theorem zhz {P:Program}{w:World}{H:Hp}{h:Heap}{dx:Addr}{fs:List (Str×V)}(x:ObjOk P w H h dx (XD dx fs)):∃mA,h.Ns1 dx mA∧(∀f,RelO (fs.lookup f) (mA f))∧PySem.Within mA (fs.map (·.1))∧fs.length≤100:=x.1
noncomputable abbrev vmB:List Value:=[.type "ValueError",.type "Exception",.type "BaseException",.type "object"]
structure XCls (K:W.Frag)(C B:Addr):Prop where
 cd:∃cd,PySem.W.clsIn K C=some cd∧cd.hasDict=true∧cd.mro=.ref C::.ref B::vmB
 sa:PySem.W.findIn K (.ref C) "__setattr__"=some (some (.builtin "object.__setattr__"))
 ga:PySem.W.findIn K (.ref C) "__getattribute__"=some (some (.builtin "BaseException.__getattribute__"))
 gh:PySem.W.findIn K (.ref C) "__getattr__"=some none
 ca:PySem.W.findIn K (.ref C) "__class__"=some (some (.builtin "object.__class__"))
 cg:PySem.W.specialIn K (.builtin "object.__class__") "__get__"=some (some (.builtin "getset_descriptor.__get__"))
 ct:PySem.W.takesIn K (.builtin "object.__class__")=some true
theorem XCls.mro {K:W.Frag}{C B:Addr}(c:XCls K C B)(v:Value):PySem.W.mroIn K C v=some ((Value.ref C::Value.ref B::vmB).contains v):=by
 obtain ⟨cd,h1,h2,h3⟩:=c.cd
 unfold PySem.W.mroIn
 rw[h1,Option.bind_some,h3]
 rfl
theorem XCls.base {K:W.Frag}{C B:Addr}(c:XCls K C B):PySem.W.mroIn K C (.type "BaseException")=some true:=(c.mro _).trans (by simp[vmB])
theorem XCls.obj {K:W.Frag}{C B:Addr}(c:XCls K C B):PySem.W.mroIn K C (.type "object")=some true:=(c.mro _).trans (by simp[vmB])
theorem XCls.hd {K:W.Frag}{C B:Addr}(c:XCls K C B):PySem.W.hasDictIn K C=true:=by
 obtain ⟨cd,h1,h2,h3⟩:=c.cd
 unfold PySem.W.hasDictIn
 rw[h1]
 exact h2
theorem zgl (self:Value)(C B:Addr):refuseLoop self "__setattr__" (.ref C::.ref B::vmB)=pure ():=by
 rw[refuseLoop_ref,refuseLoop_ref]
 kernel_rfl
section
variable {prog:Program}{w:World}{A:Around}{E:Value→Shared→Prop}{s:Shared}{K:W.Frag}{x C B:Addr}{ox:Obj}{od:Option Obj}{name:Str}{v:Value}{Q:Unit→Shared→Prop}
theorem z8q (X : K.In s.heap)(I : PySem.W.InstAt s.heap x ox C od)(c : XCls K C B)(ht : PySem.W.findIn K (.ref C) name = some none)
  (k:wpAny (model prog w) A.in1 (storeInOwnDict (.ref x) (.ref C) (.str name s.toks) name v false) (fun fin s'=>match fin with|.done (.ret _)=>Q () s'|_=>False) (fun _ _=>False) {s with toks:=s.toks+1}) :
  wpAny (model prog w) A (setAttr (.ref x) name v) Q E s:=by
 have SF:=PySem.F.store_object
 obtain ⟨cd,hc,_,hm⟩:=c.cd
 have sub:PySem.W.Looks (model prog w) s.heap (isInstance (.ref x) (.type "object")) true:=I.type.andThen (PySem.W.looks_mroIn X c.obj)
 have lm:PySem.W.Looks (model prog w) s.heap (mroOf (.ref C)) (.ref C::.ref B::vmB):=hm▸(PySem.W.looks_clsIn X hc).andThen .now
 have l3:PySem.W.Looks (model prog w) s.heap (storeTaker? none) none:=.now
 refine PySem.W.set_plain X I c.sa ?_
 refine codeAny_call_builtin SF.slot.plain SF.entry (@PySem.W.check_slot (model prog w) _ _ {s with toks:=s.toks+1} "object.__setattr__" "object" "__setattr__" (.ref x) [.str name s.toks,v] [] _ SF.kind SF.split sub (SF.args (.ref x) (.str name s.toks) v) ?_)
 rw[PySem.W.osa_eq,refuse_eq]
 refine wpAny_bind (wpAny_bind (PySem.W.Looks.here (s:={s with toks:=s.toks+1}) I.type (wpAny_bind (PySem.W.Looks.here (s:={s with toks:=s.toks+1}) lm ?_))))
 rw[zgl]
 refine wpAny_pure (wpAny_bind (PySem.W.Looks.here (s:={s with toks:=s.toks+1}) I.type (wpAny_bind (PySem.W.Looks.here (s:={s with toks:=s.toks+1}) (PySem.W.looks_findIn X ht) (wpAny_bind (PySem.W.Looks.here (s:={s with toks:=s.toks+1}) l3 ?_))))))
 refine wpAny_mono k (fun fin s' z=>?_) fun _ _ z=>z.elim
 rcases fin with (_|_|_|_)|_<;>first|exact z|exact z.elim
end
section
variable {X:Cx}{pins:List (Addr×Obj)}{σ:St}{H:Hp}{s:Shared}{a C B:Addr}{fs:List (Str×V)}{f:Str}{v:V}{A:Around}{E:Value→Shared→Prop}{fr:Bool}
theorem zpe {h:Heap}{oe:Obj}{vs:Array Value}(e:h.get? a=some oe)(h1:oe.cls=.ref C)(h2:oe.dict=none)(h3:oe.data=.fields vs):PySem.W.InstAt h a oe C none:=⟨e,h1,by unfold PySem.W.notCls;rw[h3],by rw[h2];exact True.intro⟩
theorem zpd {h:Heap}{oe o:Obj}{vs:Array Value}{d:Addr}(e:h.get? a=some oe)(h1:oe.cls=.ref C)(h2:oe.dict=some d)(h3:oe.data=.fields vs)(h4:h.get? d=some o):PySem.W.InstAt h a oe C (some o):=⟨e,h1,by unfold PySem.W.notCls;rw[h3],by rw[h2];exact h4⟩
theorem zcn {y : V}{u : Value}{Q : Unit → Shared → Prop}(I : Inv X pins σ H s)(e : H a = some (XO fr a C none))(c : XCls X.K C B)(n : PySem.W.findIn X.K (.ref C) f = some none)(ry : RelV y u)
  (k:∀s' d,H d=none→Inv X pins σ (upd (upd H d (XD d [(f,y)])) a (XO fr a C (some d))) s'→Q () s'):wpAny (model X.prog X.w) A (setAttr (.ref a) f u) Q E s:=by
 obtain ⟨oe,vs,g,e1,e2,e3,e4,e5⟩:=z73 (I.hok a _ e)
 refine z8q I.kIn (zpe g e1 e2 e3) c n ?_
 obtain ⟨cd,hc,hh,hm⟩:=c.cd
 obtain ⟨oc,odi,oda,osl⟩:=oe
 cases e1;cases e2;cases e3
 unfold storeInOwnDict
 refine wpAny_bind (wpAny_pure (wpAny_bind ?_))
 show wpAny _ _ (instanceDict a true) _ _ _
 unfold instanceDict
 refine wpAny_bind (wpAny_loadPart g (wpAny_bind (PySem.W.Looks.here (s:={s with toks:=s.toks+1}) (PySem.W.looks_clsIn I.kIn hc) ?_)))
 rw[hh]
 show wpAny _ _ (do let d ←alloc {cls:=.type "dict",data:=.dict #[]};update a fun o=>{o with dict:=some d};pure (some d)) _ _ _
 refine wpAny_bind (wpAny_alloc ?_)
 have nd:s.heap.objs.size≠a:=fun z=>absurd (Heap.lt_size g) (by rw[z];exact Nat.lt_irrefl _)
 have g1:=Heap.get?_push_of_some PySem.W.emptyDict g
 have p1:(s.heap.push PySem.W.emptyDict).get? s.heap.objs.size=some PySem.W.emptyDict:=Heap.get?_push_size s.heap rfl
 refine wpAny_bind (wpAny_update g1 (wpAny_pure ?_))
 have w1:(s.heap.push PySem.W.emptyDict).Ns s.heap.objs.size (fun _=>none):=⟨PySem.W.emptyDict,#[],_,p1,rfl,(fun e he=>absurd he (by simp)),fun _=>rfl⟩
 have I1:=I.laid (a:=s.heap.objs.size) (o:=XD s.heap.objs.size []) (h':=s.heap.push PySem.W.emptyDict) (t':=s.toks+1) (fun b u q=>Heap.get?_push_of_some _ q) (Nat.le_refl _) (zjf (Heap.Ns1.of_empty w1) (fun _=>True.intro) (fun y hy=>absurd rfl hy) (by simp))
 have g2:=Heap.get?_update_self (fun o:Obj=>{o with dict:=some s.heap.objs.size}) g1 rfl
 have I2:=I1.write (x:=a) (e:=a) (o:=XO fr a C (some s.heap.objs.size)) (t':=s.toks+1) (h':=(s.heap.push PySem.W.emptyDict).update a fun o:Obj=>{o with dict:=some s.heap.objs.size}) (by rw[z0f (Ne.symm nd),e];exact True.intro) (.inl rfl) (fun b u hb q=>(Heap.get?_update_other _ _ (Ne.symm hb)).trans q) ⟨_,g2⟩ (zje g2 rfl rfl rfl e4 e5)
 have hD:upd (upd H s.heap.objs.size (XD s.heap.objs.size [])) a (XO fr a C (some s.heap.objs.size)) s.heap.objs.size=some (XD s.heap.objs.size []):=by rw[z0f nd,z06]
 obtain ⟨mA,n2,r2,wi2,_⟩:=zhz (I2.hok _ _ hD)
 show wpAny _ _ (storeInDict s.heap.objs.size (.str f s.toks) f u) _ _ _
 unfold storeInDict
 refine wpAny_bind (wpAny_pure (wpAny_bind ?_))
 refine wpAny_nsSet1 (s:={s with heap:=(s.heap.push PySem.W.emptyDict).update a fun o:Obj=>{o with dict:=some s.heap.objs.size},toks:=s.toks+1}) n2 fun h' n3 sb=>?_
 obtain ⟨oD,esD,epD,hoD,hdD,hcD⟩:=n3.count (PySem.Within.cons f u wi2)
 refine wpAny_bind (wpAny_lookBehind hoD (by rw[hdD];exact pastItsLine_dict (Nat.le_trans hcD (by rw[sizeLine_eq];show 1≤_;omega))) ?_)
 refine wpAny_pure (k _ _ (I.hok.fresh (Nat.le_refl _)) ?_)
 have I3:=I2.write (x:=s.heap.objs.size) (e:=s.heap.objs.size) (o:=XD s.heap.objs.size [(f,y)]) (t':=s.toks+2) (h':=h') (by rw[hD];exact True.intro) (.inl rfl) (fun b u hb q=>(sb.2 b hb).trans q) ⟨_,hoD⟩ (zjf n3 (fun g=>?_) (fun g hg=>?_) (by simp))
 ·have eH : upd (upd (upd H s.heap.objs.size (XD s.heap.objs.size [])) a (XO fr a C (some s.heap.objs.size))) s.heap.objs.size (XD s.heap.objs.size [(f, y)]) = upd (upd H s.heap.objs.size (XD s.heap.objs.size [(f, y)])) a (XO fr a C (some s.heap.objs.size)) := by
   funext b
   unfold upd
   by_cases h1:b=s.heap.objs.size
   ·rw[if_pos h1,if_neg (fun z=>nd (h1.symm.trans z)),if_pos h1]
   ·rw[if_neg h1]
    by_cases h2:b=a
    ·rw[if_pos h2,if_pos h2]
    ·rw[if_neg h2,if_neg h2,if_neg h1,if_neg h1]
  rw[←eH]
  exact I3
 ·show RelO (List.lookup g [(f,y)]) (if g=f then some u else mA g)
  have l0:List.lookup g [(f,y)]=if g=f then some y else List.lookup g []:=z4b f g y []
  rw[l0]
  by_cases q:g=f
  ·rw[if_pos q,if_pos q];exact ry
  ·rw[if_neg q,if_neg q];exact r2 g
 ·by_cases q:g=f
  ·rw[q];simp
  ·exfalso
   have r0:=RelO.none_of (r2 g)
   rw[if_neg q,r0]at hg
   exact hg rfl
theorem zda {y : V}{u : Value}{d : Addr}{Q : Unit → Shared → Prop}(I : Inv X pins σ H s)(e : H a = some (XO fr a C (some d)))(ed : H d = some (XD d fs))(hl : fs.length<100)(c : XCls X.K C B)(n : PySem.W.findIn X.K (.ref C) f = some none)(ry : RelV y u)
  (k:∀s',Inv X pins σ (upd H d (XD d (z7d f y fs))) s'→Q () s'):wpAny (model X.prog X.w) A (setAttr (.ref a) f u) Q E s:=by
 obtain ⟨oe,vs,g,e1,e2,e3,e4,e5⟩:=z73 (I.hok a _ e)
 obtain ⟨mA,n2,r2,wi2,l2⟩:=zhz (I.hok d _ ed)
 obtain ⟨o2,es2,ep2,g2,dt2,_⟩:=id n2
 refine z8q I.kIn (zpd g e1 e2 e3 g2) c n ?_
 obtain ⟨cd,hc,hh,hm⟩:=c.cd
 obtain ⟨oc,odi,oda,osl⟩:=oe
 cases e1;cases e2;cases e3
 unfold storeInOwnDict
 refine wpAny_bind (wpAny_pure (wpAny_bind ?_))
 show wpAny _ _ (instanceDict a true) _ _ _
 unfold instanceDict
 refine wpAny_bind (wpAny_loadPart g (wpAny_bind (PySem.W.Looks.here (s:={s with toks:=s.toks+1}) (PySem.W.looks_clsIn I.kIn hc) ?_)))
 rw[hh]
 refine wpAny_pure (a:=some d) ?_
 show wpAny _ _ (storeInDict d (.str f s.toks) f u) _ _ _
 unfold storeInDict
 refine wpAny_bind (wpAny_pure (wpAny_bind ?_))
 refine wpAny_nsSet1 (s:={s with toks:=s.toks+1}) n2 fun h' n3 sb=>?_
 obtain ⟨oD,esD,epD,hoD,hdD,hcD⟩:=n3.count (PySem.Within.cons f u wi2)
 refine wpAny_bind (wpAny_lookBehind hoD (by rw[hdD];exact pastItsLine_dict (Nat.le_trans hcD (by rw[List.length_cons,List.length_map,sizeLine_eq];omega))) ?_)
 refine wpAny_pure (k _ (I.write (x:=d) (e:=d) (o:=XD d (z7d f y fs)) (t':=s.toks+2) (h':=h') (by rw[ed];exact True.intro) (.inl rfl) (fun b u hb q=>(sb.2 b hb).trans q) ⟨_,hoD⟩ (zjf n3 (fun g=>?_) (fun g hg=>?_) (by have:=z6h f y fs;omega))))
 ·show RelO (List.lookup g (z7d f y fs)) (if g=f then some u else mA g)
  rw[z4b]
  by_cases q:g=f
  ·rw[if_pos q,if_pos q];exact ry
  ·rw[if_neg q,if_neg q];exact r2 g
 ·by_cases q:g=f
  ·rw[q];exact (z6k f y fs).1
  ·refine (z6k f y fs).2 g (wi2 g fun z=>hg ?_)
   show (if g=f then some u else mA g)=none
   rw[if_neg q];exact z
end
end
end L2
set_option Elab.async false
set_option linter.all false
set_option maxRecDepth 100000
namespace L2
open PySem PySem.Spec PyProof.Rows
section
section
variable {prog:Program}{w:World}{A:Around}{E:Value→Shared→Prop}{h:Heap}{g:Array GenState}{d:Drawn}{t:Nat}{os:OsState}{K:W.Frag}
variable {nm q:Str}{C N:Addr}{bs bm:List Value}{hdct:Bool}{sn:List Str}{sub:List Value}{ab:Bool}{col:Option Bool}{dd:Option Addr}{k0 k1 k2 k3 k5:Option Value}
theorem zfp {rest : List Value}{fI : Addr}{Q : Value → Shared → Prop}(X : K.In h)(lk : K.lookup C = some (excClassObj nm q C N bs bm hdct sn sub ab col dd k0 k1 k2 k3 k5 "ValueError.__new__"))(tl : PySem.W.tailIn K vmB bm = true)
  (hi:PySem.W.findIn K (.ref C) "__init__"=some (some (.ref fI)))(hf:PySem.W.isFn K (.ref fI)=true)(len:rest.length≤sizeLine)
  (k:wpAny (model prog w) (A.under (.builtin "type.__call__" ⟨.ref C::rest,[]⟩)) (call (.ref fI) (.ref (h.objs.size+1)::rest)) (fun r s'=>r=.none∧Q (.ref (h.objs.size+1)) s') E
   ⟨(h.push {cls:=.type "tuple",data:=.seq rest.toArray}).push {cls:=.ref C,data:=.fields #[.ref h.objs.size,.none,.none,.none,.bool false,.none]},g,d,t,os⟩) :
  wpAny (model prog w) A (call (.ref C) rest) Q E ⟨h,g,d,t,os⟩:=by
 have F:=PySem.F.excBase_ValueError
 have gC:=X _ _ lk
 have T:OwnTail h vmB bm:=PySem.W.tail_of_in X tl
 have f1:=tc_lookup
 have f2:=tc_bind (.ref C)
 have tC:(⟨h,g,d,t,os⟩:Shared).TypeIs (.ref C) "type":=⟨_,gC,rfl⟩
 refine wpAny_call (codeAny_of_tree ?_)
 show wpAny _ _ (callAny (.ref C) _) _ _ _
 repeat (any_goals (first|with_reducible refine wpAny_loadPart_at gC ?_|assumption|wp_step))
 refine ⟨rfl,codeAny_call_builtin_at (Code.quiet_builtin _ (by decide +kernel)) entry_typeCall (wpAny_check_type_call_sub gC ?_)⟩
 repeat (first|with_reducible refine wpAny_madeBy_exc gC ?_|with_reducible refine wpAny_loadPart_at gC ?_|wp_step)
 refine codeAny_call_builtin_code (Code.quiet_builtin _ F.quiet) (wpAny_check_new_subT F T gC (codeAny_exc_new_subT F T gC ?_ len))
 show wpAny _ _ _ _ _ (⟨(h.push {cls:=.type "tuple",data:=.seq rest.toArray}).push {cls:=.ref C,data:=.fields #[.ref h.objs.size,.none,.none,.none,.bool false,.none]},g,d,t,os⟩:Shared)
 generalize hh:(h.push {cls:=.type "tuple",data:=.seq rest.toArray}).push {cls:=.ref C,data:=.fields #[.ref h.objs.size,.none,.none,.none,.bool false,.none]}=h2 at k ⊢
 have ks:∀b o,h.get? b=some o→h2.get? b=some o:=fun b o e=>by rw[←hh];exact Heap.get?_push_of_some _ (Heap.get?_push_of_some _ e)
 have gC2:=ks _ _ gC
 have X2:K.In h2:=X.keeps ks
 have ge:h2.get? (h.objs.size+1)=some {cls:=.ref C,data:=.fields #[.ref h.objs.size,.none,.none,.none,.bool false,.none]}:=by rw[←hh];heap_get
 have cC:(Value.ref C::bm).contains (.ref C)=true:=by simp
 unfold isInstance
 repeat (first|with_reducible refine wpAny_loadPart_at ge ?_|wp_step)
 show wpAny _ _ (isSubtype (.ref C) (.ref C)) _ _ _
 refine wpAny_isSubtype_exc gC2 ?_
 rw[cC]
 repeat (first|with_reducible refine wpAny_loadPart_at ge ?_|wp_step)
 show wpAny _ _ (typeLookup (.ref C) _) _ _ _
 refine (PySem.W.looks_findIn X2 hi).at ?_
 refine wpAny_holding (wpAny_bind ((PySem.W.bind_fn X2 _ (beq_iff_eq.mp hf)).at ?_))
 refine wpAny_bind (wpAny_mono k (fun r s' z=>?_) fun _ _ z=>z)
 obtain ⟨rfl,z⟩:=z
 wp_walk
 exact z
end
end
section
section
variable {M:Model}{A:Around}{E:Value→Shared→Prop}{env:Env}{K:W.Frag}
variable {nm q:Str}{C N:Addr}{bs bm:List Value}{hdct:Bool}{sn:List Str}{sub:List Value}{ab:Bool}{col:Option Bool}{dd:Option Addr}{k0 k1 k2 k3 k5:Option Value}{newId:String}
theorem zkc {s : Shared}{x : Sem Value}{Q : Flow → Shared → Prop}(hb : bm.contains (.type "BaseException") = true)(hh : A.handled = none)
  (k:wpAny M A x (fun v s1=>∃e dx vs sl,v=.ref e∧s1.heap.get? C=some (excClassObj nm q C N bs bm hdct sn sub ab col dd k0 k1 k2 k3 k5 newId)∧
   s1.heap.get? e=some ⟨.ref C,dx,.fields vs,sl⟩∧vs[1]?=some .none∧E (.ref e) s1) E s):wpAny M A (raiseStmt env (some x) none) Q E s:=by
 have cB:(Value.ref C::bm).contains (.type "BaseException")=true:=by rw[List.contains_cons,hb,Bool.or_true]
 unfold raiseStmt
 refine wpAny_bind (wpAny_mono k (fun v s1 z=>?_) fun _ _ z=>z)
 obtain ⟨e,dx,vs,sl,rfl,gC,ge,h1,z⟩:=z
 obtain ⟨hp,g,d,tk,os⟩:=s1
 repeat (first|with_reducible refine wpAny_loadPart_at ge ?_|with_reducible refine wpAny_loadPart_at gC ?_|(with_reducible refine wpAny_isSubtype_exc gC ?_;rw[cB])|with_reducible refine wpAny_field ge rfl h1 ?_|wp_step)
 exact wpAny_raiseNew_none hh z
end
end
section
noncomputable def CXo (P:Program)(w:World):CXT:=fun outer H s E e s'=>∃(ea C dx T:Addr) (H':Hp),e=.ref ea∧s'.os=s.os∧AllBare s'.gens∧Un (frs outer) [] H H' s.heap s'.heap∧HOk P w H' s'.heap∧
 s.heap.objs.size≤ea∧s.heap.objs.size≤T∧H' ea=some (XO false ea C (some dx))∧H' T=none∧Upx ea (.ref C) (some dx) .none T s'.heap∧E (.ref C) (some ea) H'
theorem zi0 {P:Program}{w:World}{H:Hp}{h:Heap}{ea C T:Addr}{dx:Option Addr}{fl:Value}(u:Upx ea (.ref C) dx fl T h):ObjOk P w H h ea (XO false ea C dx):=by
 obtain ⟨oe,vs,oT,ts,he,c1,c2,dt,h1,_⟩:=u
 exact zje he c1 c2 dt (Array.getElem?_eq_some_iff.mp h1).1 fun z=>by cases z
noncomputable abbrev XS:=St→XK
noncomputable def zhw (X:Cx)(EE:XS):Prop:=∀(pins:List (Addr×Obj))(σ:St)(H:Hp)(s:Shared)(e:Value)(s':Shared),Inv X pins σ H s→CXo X.prog X.w X.stack H s (EE σ) e s'→X.xe e s'
noncomputable def z9x (X:Cx)(EE:XS):Prop:=∀(pins:List (Addr×Obj))(σ:St)(H H1:Hp)(s s1:Shared)(ea C dx:Addr),Inv X pins σ H s→s.heap.objs.size≤ea→Inv X pins σ H1 s1→H1 ea=some (XO true ea C (some dx))→
 EE σ (.ref C) (some ea) (upd H1 ea (XO false ea C (some dx)))→X.xe (.ref ea) s1
theorem zb4 {H:Hp}{a:Addr}{o:HO}(h:H a=some o):upd H a o=H:=by
 funext b
 unfold upd
 by_cases e:b=a
 ·rw[if_pos e,e,h]
 ·rw[if_neg e]
section
variable {P:Program}{w:World}{K:W.Frag}{mg:Str→Option Value}{base:Heap}{N:List Str}{qual:Str}{scope:Scope}{f:Addr}{cd:Value}{A:Around}{outer:List Env}{s:Shared}{H:Hp}{E:XK}
theorem Inv.old {X:Cx}{pins:List (Addr×Obj)}{σ:St}{H:Hp}{s:Shared}(I:Inv X pins σ H s){b:Addr}(h:s.heap.objs.size≤b):X.s₀.heap.objs.size≤b:=Nat.le_trans I.sz h
theorem zou {pins : List (Addr × Obj)}{σ : St}{H1 : Hp}{s1 : Shared}{h' : Heap}{no : List Addr}{ea C dx T : Addr}(I : Inv (zch (CXo P w) P w K mg base N qual scope f cd A outer s H E) pins σ H1 s1)
  (x:Nte (frs (envOfC qual scope s.heap.objs.size f cd::outer)) no s1.heap h')(hno:∀b∈no,s.heap.objs.size≤b∧(b=ea∨H1 b=none))(u:Upx ea (.ref C) (some dx) .none T h')(h1:s.heap.objs.size≤ea)(hT:s1.heap.objs.size≤T)
  (e:∃b,H1 ea=some (XO b ea C (some dx)))(k:E (.ref C) (some ea) (upd H1 ea (XO false ea C (some dx)))):CXo P w outer H s E (.ref ea) {s1 with heap:=h'}:=by
 obtain ⟨fb,e⟩:=e
 have lL:∀b o,s.heap.get? b=some o→b≠s.heap.objs.size:=fun b o q z=>by rw[z]at q;exact absurd (Heap.lt_size q) (Nat.lt_irrefl _)
 have nno:∀b o,s.heap.get? b=some o→b∉no:=fun b o q z=>absurd (Nat.lt_of_lt_of_le (Heap.lt_size q) (hno b z).1) (Nat.lt_irrefl _)
 have nea:∀b o,s.heap.get? b=some o→b≠ea:=fun b o q z=>by rw[z]at q;exact absurd (Nat.lt_of_lt_of_le (Heap.lt_size q) h1) (Nat.lt_irrefl _)
 have B:Un (frs outer) [] H H1 s.heap s1.heap:=I.base
 have T0:H1 T=none:=I.hok.fresh hT
 have nT:T≠ea:=fun z=>by rw[z,e]at T0;cases T0
 have sub:∀b o,s.heap.get? b=some o→b∉frs outer→b∉frs (envOfC qual scope s.heap.objs.size f cd::outer):=fun b o q n z=>by
  have z':b∈s.heap.objs.size::frs outer:=z
  rcases List.mem_cons.mp z' with r|r
  ·exact lL b o q r
  ·exact n r
 refine ⟨ea,C,dx,T,upd H1 ea (XO false ea C (some dx)),rfl,I.os,I.bare,⟨fun b o q n hb hx=>?_,fun b o q n hb hx=>?_,fun b o q n hx=>?_,fun b o q hx=>?_,fun b xs q=>?_,fun b o xs q=>?_,fun b ps q=>?_⟩,?_,h1,Nat.le_trans (I.old (Nat.le_refl _)) hT,z06,by rw[z0f nT];exact T0,u,k⟩
 ·exact (x b o (B.keep b o q n hb hx) (nno b o q)).1 (sub b o q hb)
 ·obtain ⟨sl,q1⟩:=B.slot b o q n hb hx
  obtain ⟨sl',q2⟩:=(x b _ q1 (nno b o q)).2
  exact ⟨sl',q2⟩
 ·rw[z0f (nea b o q)];exact B.free b o q n hx
 ·obtain ⟨o',q1⟩:=B.there b o q hx
  obtain ⟨sl',q2⟩:=(x b _ q1 (nno b o q)).2
  exact ⟨_,q2⟩
 ·have q1:=B.tups b xs q
  rw[z0f (fun z=>by rw[z,e]at q1;cases q1)];exact q1
 ·have q1:=B.frzs b o xs q
  rw[z0f (fun z=>by rw[z,e]at q1;cases q1)];exact q1
 ·obtain ⟨m,q1⟩:=B.tbls b ps q
  exact ⟨m,by rw[z0f (fun z=>by rw[z,e]at q1;cases q1)];exact q1⟩
 ·refine fun b o q=>?_
  by_cases z:b=ea
  ·subst z
   rw[z06]at q;cases q
   exact zi0 u
  ·rw[z0f z]at q
   have nfr:∀c v,H1 c=some v→c∉frs (envOfC qual scope s.heap.objs.size f cd::outer):=fun c v q m=>by
    have:=I.stkFree c m
    rw[q]at this;cases this
   have nn:∀c v,H1 c=some v→c≠ea→c∉no:=fun c v q n m=>by
    rcases (hno c m).2 with r|r
    ·exact n r
    ·rw[r]at q;cases q
   refine (I.hok b o q).stay (fun c v hc r=>?_) (fun c r=>?_) fun c xs r=>?_
   ·rcases hc with rfl|hc
    ·exact (x c v r (nn c o q z)).1 (nfr c o q)
    ·exact (x c v r (nn c _ hc fun y=>by rw[y,e]at hc;cases hc)).1 (nfr c _ hc)
   ·rw[z0f (fun y=>by rw[y,e]at r;cases r)];exact r
   ·rw[z0f (fun y=>by rw[y,e]at r;cases r)];exact r
theorem z94:z9x (zch (CXo P w) P w K mg base N qual scope f cd A outer s H E) (fun _=>E):=fun pins σ H0 H1 s0 s1 ea C dx I0 hs I1 e k=>by
 obtain ⟨oe,vs,g,e1,e2,e3,e4,e5⟩:=z73 (I1.hok ea _ e)
 refine zes (base:=base) I1.ok.frames I1.stack rfl g e3 (e5 rfl) fun h' T hT x u=>?_
 rw[e1,e2]at u
 have ls:s.heap.objs.size≤ea:=I0.old hs
 exact zou I1 x (fun b z=>by rw[List.mem_singleton.mp z];exact ⟨ls,.inl rfl⟩) u ls hT ⟨true,e⟩ k
end
structure DefX (P:Program)(w:World)(K:W.Frag)(mg:Str→Option Value)(base:Heap)(x:Str)(ps:List Str)(n:Nat)(sp:Sp):Prop where
 ex:∃f fd,FnOk P w K mg base (CXo P w) n f fd ps sp∧PySem.W.keepIn K (.ref f)=true∧mg x=some (.ref f)∧Binds K fd ps []∧∃oc od osl,K.lookup f=some ⟨oc,od,.func fd,osl⟩
theorem DefX.mkq {P : Program}{w : World}{K : W.Frag}{mg : Str → Option Value}{base : Heap}{x : Str}{st : Stmt}{N ps : List Str}{n : Nat}{sp : Sp}(T : Src K mg x st)(S : FnScope N ps (z08 st))(len : ∀ vs H Q E, sp vs H Q E → vs.length = ps.length)
  (hb:∀(kV doc pm:Value)(an:Option Addr)(cdv ct:Value)(us:List Value),us.length=ps.length→bindArgs (PySem.W.fnOf x x (z1z st) (z15 st) (z08 st) .none kV doc pm an cdv ct) ⟨us,[]⟩=pure (ps.zip us))
  (hbody:∀(f:Addr)(cdv:Value)(A:Around)(outer:List Env)(s:Shared)(H:Hp)(vs:List V)(Q:VK)(E:XK),Room n (A.deeper (envOfC x (z08 st) s.heap.objs.size f cdv))→sp vs H Q E→
   ∃t,QSs (zch (CXo P w) P w K mg base N x (z08 st) f cdv A outer s H E) (z15 st) t∧t {nx:=fun _ H'=>Q .non H',rt:=Q} (start N vs) H):DefX P w K mg base x ps (n+1) sp:=by
 obtain ⟨f,fd,F,m⟩:=T
 have B:=F.binds hb
 have kp:=F.kp
 obtain ⟨oc,od,kV,doc,pm,an,cdv,ct,osl,rfl,lk,hcd⟩:=F.ex
 exact ⟨f,_,zpj lk hcd S len fun A outer s H vs Q E hr h=>let ⟨t,q,r⟩:=hbody f cdv A outer s H vs Q E hr h;⟨t,q.o,r⟩,kp,m,B,_,_,_,lk⟩
noncomputable def zi4 (sp:Sp)(EE:XS)(t:TA):TE:=fun σ H Q=>t σ H fun vs H1=>sp vs H1 Q (EE σ)
theorem zkl {X : Cx}{x : Str}{ps : List Str}{n k : Nat}{sp : Sp}{EE : XS}{p pos : Pos}{e : Expr}{es : List Expr}{t : TA}(D : DefX X.prog X.w X.K X.mg X.base x ps n sp)(hr : Room k X.A)(hp : zhw X EE)(ha : QA X (e :: es) t)
  (hk:n≤k:=by decide)(hg:Gl X x:=by rfl)(hdb:(x == ("__debug__":Str))=false:=by decide)(he:starEach (e::es) X.env=(false,eval e X.env)::starEach es X.env:=by rfl)(hpl:(backTo pos (starEach es X.env)).any (·.1)=false:=by rfl) :
  QE X (.Call (.Name x p) (e::es) [] pos) (zi4 sp EE t):=⟨by
 intro pins s σ H Q I h
 obtain ⟨f,fd,F,kp,m,B,_⟩:=D.ex
 refine wpAny_Call_Name_kw (z6i I hg m ?_ hdb)
 refine PySem.W.callWith_K (h₀:=X.base) I.ok.mod.kin kp (thn (ha.o pos pins s σ H _ I h) fun us s1 ⟨vs,H1,I1,r,q⟩=>⟨I1.kIn,?_⟩) he hpl
 have hl:(us++[]).length=ps.length:=by rw[List.append_nil,←r.length];exact F.len _ _ _ _ q
 have bt:=B s1 us I1.kIn hl
 rw[List.append_nil]at bt
 refine wpAny_call (codeAny_mono (F.run X.A X.stack s1 H1 ⟨us,[]⟩ us vs Q (EE σ) (hr.mono hk) I1.env0 bt r q) fun r s' hq=>?_)
 cases r with
 | error e=>exact hp pins σ H1 s1 e s' I1 hq
 | ok fl=>
  cases fl with
  | ret u=>exact I1.after hq
  | next=>exact False.elim hq
  | brk=>exact False.elim hq
  | cont=>exact False.elim hq⟩
end
section
noncomputable def zr3 (K : W.Frag)(ta tv : TE)(f : Str) : TS := fun D σ H => tv σ H fun y H1 => ta σ H1 fun x H2 => ∃ a C B fr, x = .ref a ∧ XCls K C B ∧ PySem.W.findIn K (.ref C) f = some none ∧
  ((H2 a=some (XO fr a C none)∧∀d,H2 d=none→D.nx σ (upd (upd H2 d (XD d [(f,y)])) a (XO fr a C (some d))))∨
   ∃d fs,H2 a=some (XO fr a C (some d))∧H2 d=some (XD d fs)∧fs.length<100∧D.nx σ (upd H2 d (XD d (z7d f y fs))))
section
variable {X:Cx}{o e value:Expr}{f:Str}{pos pos':Pos}{ta tv:TE}
theorem zbp {K:W.Frag}(hK:X.K=K)(ha:QE X o ta)(hv:QE X value tv)(hs:swapsWith value (some (.Attribute o f pos')) pos.line X.env=pure false):QS X (.Assign [.Attribute o f pos'] value pos) (zr3 K ta tv f):=by
 subst hK
 exact ⟨by
  intro pins s σ H D I h
  refine plainObj_wpAny_Assign_Attribute (thn (hv.o pins s σ H _ I h) fun u s1 ⟨y,H1,I1,ry,q⟩=>thn (ha.o pins s1 σ H1 _ I1 q) fun ov s2 ⟨x,H2,I2,rx,a,C,B,fr,ex,c,n,q2⟩=>?_) hs
  subst ex
  obtain rfl:ov=Value.ref a:=rx
  rcases q2 with ⟨ea,q3⟩|⟨d,fs,ea,ed,hl,q3⟩
  ·exact zcn I2 ea c n ry fun s3 d hd I3=>⟨σ,_,I3,q3 d hd⟩
  ·exact zda I2 ea ed hl c n ry fun s3 I3=>⟨σ,_,I3,q3⟩⟩
end
structure XSrc (K:W.Frag)(mg:Str→Option Value)(x qual:Str)(st:Stmt)(C B fI:Addr)(fd:FuncData):Prop where
 mg:mg x=some (.ref C)
 cls:∃nm q N bs hdct sn sub ab col dd k0 k1 k2 k3 k5,K.lookup C=some (excClassObj nm q C N bs (.ref B::vmB) hdct sn sub ab col dd k0 k1 k2 k3 k5 "ValueError.__new__")
 tl:PySem.W.tailIn K vmB (.ref B::vmB)=true
 ini:PySem.W.findIn K (.ref C) "__init__"=some (some (.ref fI))
 fn:PySem.W.isFn K (.ref fI)=true
 kp:PySem.W.keepIn K (.ref C)=true
 f:Fun K "__init__" qual st fI fd
 xc:XCls K C B
noncomputable def zth (C:Addr)(sp:Sp)(t:TA):TE:=fun σ H Q=>t σ H fun vs H1=>vs.length≤100∧∀ea,H1 ea=none→sp (.ref ea::vs) (upd H1 ea (XO true ea C none)) (fun v H2=>v=.non∧Q (.ref ea) H2) E0
section
variable {X:Cx}{x qual:Str}{st:Stmt}{C B fI:Addr}{fd:FuncData}{ps:List Str}{k:Nat}{sp:Sp}{e:Expr}{es:List Expr}{t:TA}{p pos:Pos}
theorem zty {pins : List (Addr × Obj)}{σ : St}{H : Hp}{s : Shared}{Q : VK}{us : List Value}{vs : List V}{E : Value → Shared → Prop}(S : XSrc X.K X.mg x qual st C B fI fd)(F : FnOk X.prog X.w X.K X.mg X.base CX0 k fI fd ps sp)(hr : Room (k+1) X.A)(hb : Binds X.K fd ps [])
  (I:Inv X pins σ H s)(r:Vals vs us)(hl:vs.length≤100)(h:∀ea,H ea=none→sp (.ref ea::vs) (upd H ea (XO true ea C none)) (fun v H2=>v=.non∧Q (.ref ea) H2) E0) :
  wpAny (model X.prog X.w) X.A (call (.ref C) us) (fun u s'=>∃ea H',s.heap.objs.size≤ea∧u=.ref ea∧Inv X pins σ H' s'∧Q (.ref ea) H') E s:=by
 obtain ⟨nm,q,N,bs,hdct,sn,sub,ab,col,dd,k0,k1,k2,k3,k5,lk⟩:=S.cls
 have len:us.length≤sizeLine:=by rw[←r.length,sizeLine_eq];omega
 obtain ⟨hp,g,d,tk,os⟩:=s
 refine zfp I.kIn lk S.tl S.ini S.fn len ?_
 have z1:Heap.get? (hp.push {cls:=.type "tuple",data:=.seq us.toArray}) hp.objs.size=some {cls:=.type "tuple",data:=.seq us.toArray}:=Heap.get?_push_size hp rfl
 have I1:=I.kept (h':=hp.push {cls:=.type "tuple",data:=.seq us.toArray}) (t':=tk) (fun b u q=>Heap.get?_push_of_some _ q)
 have ge:Heap.get? ((hp.push {cls:=.type "tuple",data:=.seq us.toArray}).push {cls:=.ref C,data:=.fields #[.ref hp.objs.size,.none,.none,.none,.bool false,.none]}) (hp.objs.size+1)=some {cls:=.ref C,data:=.fields #[.ref hp.objs.size,.none,.none,.none,.bool false,.none]}:=by heap_get
 have I2:=I1.laid (a:=hp.objs.size+1) (o:=XO true (hp.objs.size+1) C none) (h':=(hp.push {cls:=.type "tuple",data:=.seq us.toArray}).push {cls:=.ref C,data:=.fields #[.ref hp.objs.size,.none,.none,.none,.bool false,.none]}) (t':=tk) (fun b u q=>Heap.get?_push_of_some _ q) (Nat.le_of_eq (Heap.size_push _ _)) (zje ge rfl rfl rfl (by show 1<6;decide) (fun _=>rfl))
 have hq:=h (hp.objs.size+1) (I.hok.fresh (Nat.le_succ _))
 have r2:Vals (V.ref (hp.objs.size+1)::vs) (Value.ref (hp.objs.size+1)::us):=.cons rfl r
 have hl2:(Value.ref (hp.objs.size+1)::us++[]).length=ps.length:=by
  have z:=r2.length
  rw[F.len _ _ _ _ hq]at z
  rw[List.append_nil];exact z.symm
 have bt:=hb _ (Value.ref (hp.objs.size+1)::us) I2.kIn hl2
 rw[List.append_nil]at bt
 refine wpAny_call (codeAny_mono (F.run _ X.stack _ _ ⟨Value.ref (hp.objs.size+1)::us,[]⟩ (Value.ref (hp.objs.size+1)::us) _ _ E0 (hr.make C us []) (I2.env0.make C us []) bt r2 hq) fun r s' hq'=>?_)
 cases r with
 | error e=>exact False.elim hq'
 | ok fl=>
  cases fl with
  | ret u=>
   obtain ⟨v,H',I3,rv,ev,q3⟩:=I2.after hq'
   subst ev
   exact ⟨rv,hp.objs.size+1,H',Nat.le_succ _,rfl,I3,q3⟩
  | next=>exact False.elim hq'
  | brk=>exact False.elim hq'
  | cont=>exact False.elim hq'
noncomputable def zig (C:Addr)(sp:Sp)(EE:XS)(t:TA):TS:=fun _ σ H=>zth C sp t σ H fun v H2=>∃ea dx,v=.ref ea∧H2 ea=some (XO true ea C (some dx))∧EE σ (.ref C) (some ea) (upd H2 ea (XO false ea C (some dx)))
theorem z95 {EE : XS}{np cpos : Pos}(S : XSrc X.K X.mg x qual st C B fI fd)(F : FnOk X.prog X.w X.K X.mg X.base CX0 k fI fd ps sp)(hr : Room (k+1) X.A)(hb : Binds X.K fd ps [])(hx : z9x X EE)(ha : QA X (e :: es) t)
  (hg:Gl X x:=by rfl)(hdb:(x == ("__debug__":Str))=false:=by decide)(he:starEach (e::es) X.env=(false,eval e X.env)::starEach es X.env:=by rfl)(hpl:(backTo cpos (starEach es X.env)).any (·.1)=false:=by rfl) :
  QS X (.Raise (some (.Call (.Name x np) (e::es) [] cpos)) none pos) (zig C sp EE t):=⟨by
 intro pins s σ H D I h
 obtain ⟨nm,q,N,bs,hdct,sn,sub,ab,col,dd,k0,k1,k2,k3,k5,lk⟩:=S.cls
 rw[arm_exec_Raise]
 refine wpAny_bind (wpAny_standAt (zkc (C:=C) (nm:=nm) (q:=q) (N:=N) (bs:=bs) (bm:=.ref B::vmB) (hdct:=hdct) (sn:=sn) (sub:=sub) (ab:=ab) (col:=col) (dd:=dd) (k0:=k0) (k1:=k1) (k2:=k2) (k3:=k3) (k5:=k5) (newId:="ValueError.__new__") (by simp[vmB]) hr.hd ?_))
 refine wpAny_bind (wpAny_Call_Name_kw (z6i I hg S.mg ?_ hdb))
 refine PySem.W.callWith_K (h₀:=X.base) I.ok.mod.kin S.kp (thn (ha.o cpos pins s σ H _ I h) fun us s1 ⟨vs,H1,I1,r,hl,q1⟩=>⟨I1.kIn,?_⟩) he hpl
 refine thn (zty (E:=X.xe) (Q:=fun v H2=>∃ea dx,v=.ref ea∧H2 ea=some (XO true ea C (some dx))∧EE σ (.ref C) (some ea) (upd H2 ea (XO false ea C (some dx)))) S F hr hb I1 r hl q1) fun u s2 z=>?_
 obtain ⟨ea,H2,l1,rfl,I2,ea',dx,ev,e2,ke⟩:=z
 cases ev
 refine wpAny_bind (wpAny_standAt (wpAny_pure ?_))
 obtain ⟨oe,vs',g,e1,e3,e4,e5,e6⟩:=z73 (I2.hok ea _ e2)
 obtain ⟨oc,odi,oda,osl⟩:=oe
 cases e1;cases e3;cases e4
 exact ⟨ea,_,_,_,rfl,I2.kIn _ _ lk,g,e6 rfl,hx pins σ H1 H2 s1 s2 ea C dx I1 l1 I2 e2 ke⟩⟩
end
end
section
section
variable {M:Model}{A:Around}{E:Value→Shared→Prop}{K:W.Frag}
variable {nm q:Str}{D N:Addr}{bs bm:List Value}{hdct:Bool}{sn:List Str}{sub:List Value}{ab:Bool}{col:Option Bool}{dd:Option Addr}{k0 k1 k2 k3 k5:Option Value}{newId:String}
theorem zmi {s : Shared}{e C : Addr}{oe : Obj}{Q : Bool → Shared → Prop}(X : K.In s.heap)(lk : K.lookup D = some (excClassObj nm q D N bs bm hdct sn sub ab col dd k0 k1 k2 k3 k5 newId))(hb : bm.contains (.type "BaseException") = true)
  (he:s.heap.get? e=some oe)(hc:oe.cls=.ref C)(hm:PySem.W.mroIn K C (.ref D)=some true)(k:Q true s):wpAny M A (excMatches (.ref e) (.ref D)) Q E s:=by
 have gD:=X _ _ lk
 have cB:(Value.ref D::bm).contains (.type "BaseException")=true:=by rw[List.contains_cons,hb,Bool.or_true]
 have nt:=tc_notTuple
 have lm:=PySem.W.looks_mroIn (M:=M) X hm
 obtain ⟨hp,g,d,tk,os⟩:=s
 unfold excMatches
 repeat (first|(with_reducible refine wpAny_loadPart_at he ?_;rw[hc])|with_reducible refine wpAny_loadPart_at gD ?_|(with_reducible refine wpAny_isSubtype_exc gD ?_;rw[cB])|(with_reducible refine lm.at ?_)|wp_step)
 exact k
end
section
variable {X:Cx}{pins:List (Addr×Obj)}{σ:St}{H:Hp}{s:Shared}
noncomputable abbrev Cx.suite (X:Cx)(ea:Addr):Cx:={X with A:=X.A.mark (some (.ref ea)),calm:=false,xe:=fun _ _=>False}
theorem Cx.Ok.suite (ok:X.Ok)(ea:Addr):(X.suite ea).Ok:=⟨ok.mod,ok.kind,ok.glob,ok.blt,ok.above,ok.inj,ok.has,ok.cab,(fun z=>by cases z),ok.frames,ok.stk,ok.exf,ok.bs,ok.bsz,ok.noex,ok.exfs,ok.funs,ok.frf⟩
theorem Inv.suite (I:Inv X pins σ H s)(ea:Addr):Inv (X.suite ea) pins σ H s:=⟨I.ok.suite ea,I.os,I.bare,I.base,I.loc,I.cell,I.free,I.freeC,I.pin,I.hok,I.len⟩
theorem Inv.unsuite {ea:Addr}(ok:X.Ok)(I:Inv (X.suite ea) pins σ H s):Inv X pins σ H s:=⟨ok,I.os,I.bare,I.base,I.loc,I.cell,I.free,I.freeC,I.pin,I.hok,I.len⟩
end
noncomputable abbrev Cx.tryx (X:Cx)(F:Value→Shared→Prop)(pn:List (Addr×Obj)):Cx:={X with xe:=F,pn:=pn}
section
variable {X:Cx}{pins:List (Addr×Obj)}{σ:St}{H:Hp}{s:Shared}{F:Value→Shared→Prop}
theorem Cx.Ok.tryx {pn:List (Addr×Obj)}(ok:X.Ok):(X.tryx F pn).Ok:=⟨ok.mod,ok.kind,ok.glob,ok.blt,ok.above,ok.inj,ok.has,ok.cab,ok.hd,ok.frames,ok.stk,ok.exf,ok.bs,ok.bsz,ok.noex,ok.exfs,ok.funs,ok.frf⟩
theorem Inv.tryx (I:Inv X pins σ H s):Inv (X.tryx F (X.pn++pins)) [] σ H s:=⟨I.ok.tryx,I.os,I.bare,I.base,I.loc,I.cell,I.free,I.freeC,fun p hp=>I.pin p (by rw[List.append_nil]at hp;exact hp),I.hok,I.len⟩
theorem Inv.untry {pn:List (Addr×Obj)}(ok:X.Ok)(I:Inv (X.tryx F (X.pn++pins)) pn σ H s):Inv X pins σ H s:=⟨ok,I.os,I.bare,I.base,I.loc,I.cell,I.free,I.freeC,fun p hp=>I.pin p (List.mem_append_left _ hp),I.hok,I.len⟩
theorem Inv.far {pn:List (Addr×Obj)}{b:Addr}{s':Shared}(I:Inv X pn σ H s')(h:s'.heap.objs.size≤b):(b∈X.ex∨X.s₀.heap.objs.size≤b)∧b≠X.env.locals∧(∀x c,X.env.cells.lookup x=some c→c≠b)∧∀p∈X.pn++pn,p.1≠b:=
 ⟨.inr (I.old h),fun z=>absurd (Nat.lt_of_lt_of_le I.lt h) (by rw[z];exact Nat.lt_irrefl _),fun x c e z=>by
  obtain ⟨v,o,ho,_⟩:=I.cell x c e
  rw[z]at ho;exact absurd (Nat.lt_of_lt_of_le (Heap.lt_size ho) h) (Nat.lt_irrefl _),fun p hp z=>by
  have:=(I.pin p hp).1
  rw[z]at this;exact absurd (Nat.lt_of_lt_of_le (Heap.lt_size this) h) (Nat.lt_irrefl _)⟩
theorem z9d {pn : List (Addr × Obj)}{H1 : Hp}{s1 : Shared}{h2 : Heap}{no : List Addr}{ea C dx T : Addr}{fl : Value}{b : Bool}(I : Inv X pn σ H1 s1)(x : Nte (frs X.stack) no s1.heap h2)
  (hno:∀b∈no,(b=ea∨H1 b=none)∧(b∈X.ex∨X.s₀.heap.objs.size≤b)∧b≠X.env.locals∧(∀x c,X.env.cells.lookup x=some c→c≠b)∧∀p∈X.pn++pn,p.1≠b)
  (u:Upx ea (.ref C) (some dx) fl T h2)(e:H1 ea=some (XO b ea C (some dx))):Inv X pn σ (upd H1 ea (XO false ea C (some dx))) {s1 with heap:=h2}:=by
 have ne:∀c v,H1 c=some v→(∀b',v≠XO b' ea C (some dx))→c≠ea:=fun c v q n z=>by rw[z,e]at q;cases q;exact n b rfl
 refine I.call' (ch:=no) rfl ⟨fun c o q n hb hx=>(x c o q hx).1 hb,fun c o q n hb hx=>(x c o q hx).2,fun c o q n hx=>?_,fun c o q hx=>let ⟨_,z⟩:=(x c o q hx).2;⟨_,z⟩,fun c xs q=>?_,fun c o xs q=>?_,fun c ps q=>⟨#[],?_⟩⟩ (fun c o q=>?_) I.bare fun c hc=>(hno c hc).2
 ·rw[z0f (fun z=>by rw[z,e]at n;cases n)];exact n
 ·rw[z0f (ne c _ q fun _ z=>by cases z)];exact q
 ·rw[z0f (ne c _ q fun _ z=>by cases z)];exact q
 ·rw[z0f (ne c _ q fun _ z=>by cases z),q];simp
 ·by_cases z:c=ea
  ·subst z
   rw[z06]at q;cases q
   exact zi0 u
  ·rw[z0f z]at q
   have nfr:∀c v,H1 c=some v→c∉frs X.stack:=fun c v q m=>by
    have:=I.stkFree c m
    rw[q]at this;cases this
   have nn:∀c v,H1 c=some v→c≠ea→c∉no:=fun c v q n m=>by
    rcases (hno c m).1 with r|r
    ·exact n r
    ·rw[r]at q;cases q
   refine (I.hok c o q).stay (fun c' v hc r=>?_) (fun c' r=>?_) fun c' xs r=>?_
   ·rcases hc with rfl|hc
    ·exact (x c' v r (nn c' o q z)).1 (nfr c' o q)
    ·exact (x c' v r (nn c' _ hc (ne c' _ hc fun _ z=>by cases z))).1 (nfr c' _ hc)
   ·rw[z0f (ne c' _ r fun _ z=>by cases z)];exact r
   ·rw[z0f (ne c' _ r fun _ z=>by cases z)];exact r
end
section
variable {X:Cx}{nm q:Str}{D N:Addr}{bs bm:List Value}{hdct:Bool}{sn:List Str}{sub:List Value}{ab:Bool}{col:Option Bool}{dd:Option Addr}{k0 k1 k2 k3 k5:Option Value}{newId:String}
theorem zfn {pins : List (Addr × Obj)}{σ : St}{H : Hp}{s : Shared}{x : Str}{np hpos : Pos}{b0 : Stmt}{suite : List Stmt}{rest : List ExceptHandler}{ts : TS}{W : Ends}{ea C dx T : Addr}
  (hg:Gl X x)(hm:X.mg x=some (.ref D))(lk:X.K.lookup D=some (excClassObj nm q D N bs bm hdct sn sub ab col dd k0 k1 k2 k3 k5 newId))(hb:bm.contains (.type "BaseException")=true)
  (hs:QSs (X.suite ea) (b0::suite) ts)(I:Inv X pins σ H s)(e:H ea=some (XO false ea C (some dx)))(hT:(T∈X.ex∨X.s₀.heap.objs.size≤T)∧T≠X.env.locals∧(∀x c,X.env.cells.lookup x=some c→c≠T)∧∀p∈X.pn++pins,p.1≠T)
  (T0:H T=none)(u:Upx ea (.ref C) (some dx) .none T s.heap)(mr:PySem.W.mroIn X.K C (.ref D)=some true)
  (h:ts {nx:=W.nx,rt:=W.rt,bk:=fun _ _=>False,ct:=fun _ _=>False} σ H)(hdb:(x == ("__debug__":Str))=false) :
  wpAny (model X.prog X.w) X.A (handleBy (.ref ea) X.env (.ExceptHandler (some (.Name x np)) none (b0::suite) hpos::rest)) (SP X pins W) X.xe s:=by
 obtain ⟨oe,vs,g,e1,e2,e3,e4,e5⟩:=z73 (I.hok ea _ e)
 refine wpAny_handleBy_cons (codeAny_handlers_test (z6i (I.suite ea) hg hm (zmi I.kIn lk hb g e1 mr (codeAny_handlers_suite ?_)) hdb)) (by intro z;cases z)
 refine z55 u fun h2 y u2=>?_
 have y':Nte (frs X.stack) [T] s.heap h2:=fun b o q' z=>⟨fun _=>(y b o q' z).1 (by simp),(y b o q' z).2⟩
 have I2:=z9d I y' (fun b z=>by rw[List.mem_singleton.mp z];exact ⟨.inr T0,hT⟩) u2 e
 rw[zb4 e]at I2
 refine wpAny_mono (hs.o pins _ _ H _ (I2.suite ea) h) (fun f s4 z=>?_) fun _ _ z=>z.elim
 cases f with
 | next=>
  obtain ⟨σ',H',J,z⟩:=z
  exact ⟨_,H',Inv.unsuite I.ok J,z⟩
 | ret v=>
  obtain ⟨v',σ',H',J,rv,z⟩:=z
  exact ⟨v',_,H',Inv.unsuite I.ok J,rv,z⟩
 | brk=>
  obtain ⟨_,_,_,z⟩:=z
  exact z.elim
 | cont=>
  obtain ⟨_,_,_,z⟩:=z
  exact z.elim
theorem zqq {body : List Stmt}{h0 : ExceptHandler}{pos : Pos}{tb : XS → TS}{EE : Ends → XS}(st : X.stack = X.env :: X.outer ∧ X.env.frame = some X.env.locals)
  (hb:∀F pn EE,zhw (X.tryx F pn) EE→z9x (X.tryx F pn) EE→QSs (X.tryx F pn) body (tb EE))
  (hc:∀(pins:List (Addr×Obj))(σ:St)(H:Hp)(s:Shared)(W:Ends)(ea C dx T:Addr),Inv X pins σ H s→H ea=some (XO false ea C (some dx))→H T=none→
   ((T∈X.ex∨X.s₀.heap.objs.size≤T)∧T≠X.env.locals∧(∀x c,X.env.cells.lookup x=some c→c≠T)∧∀p∈X.pn++pins,p.1≠T)→Upx ea (.ref C) (some dx) .none T s.heap→EE W σ (.ref C) (some ea) H→
   wpAny (model X.prog X.w) X.A (handleBy (.ref ea) X.env [h0]) (SP X pins W) X.xe s):QS X (.Try body [h0] [] [] pos) (fun W σ H=>tb (EE W) W σ H):=⟨by
 intro pins s σ H W I h
 obtain ⟨st1,st2⟩:=st
 refine wpAny_Try_except ?_
 let F:Value→Shared→Prop:=fun e s1=>wpAny (model X.prog X.w) X.A (noteFrame e X.env) (fun _ s2=>wpAny (model X.prog X.w) X.A (setFlight e none) (fun _ s3=>wpAny (model X.prog X.w) X.A (handleBy e X.env [h0]) (SP X pins W) X.xe s3) X.xe s2) X.xe s1
 have land : ∀ {pn : List (Addr × Obj)} {σ' : St} {H1 : Hp} {s1 : Shared} {h' : Heap} {no : List Addr} {ea C dx T : Addr} {b : Bool}, Inv (X.tryx F (X.pn++pins)) pn σ' H1 s1 → Nte (frs X.stack) no s1.heap h' →
   (∀b∈no,(b=ea∨H1 b=none)∧(b∈X.ex∨X.s₀.heap.objs.size≤b)∧b≠X.env.locals∧(∀x c,X.env.cells.lookup x=some c→c≠b)∧∀p∈(X.pn++pins)++pn,p.1≠b)→s1.heap.objs.size≤T→
   Upx ea (.ref C) (some dx) (rawInt X.env.locals) T h'→H1 ea=some (XO b ea C (some dx))→EE W σ' (.ref C) (some ea) (upd H1 ea (XO false ea C (some dx)))→
   wpAny (model X.prog X.w) X.A (setFlight (.ref ea) none) (fun _ s3=>wpAny (model X.prog X.w) X.A (handleBy (.ref ea) X.env [h0]) (SP X pins W) X.xe s3) X.xe {s1 with heap:=h'}:=by
  intro pn σ' H1 s1 h' no ea C dx T b I1 x hno hT u e ke
  refine z55 (s:={s1 with heap:=h'}) u fun h2 y u2=>?_
  have fT:=I1.far hT
  have T0:H1 T=none:=I1.hok.fresh hT
  have nT:T≠ea:=fun z=>by rw[z,e]at T0;cases T0
  have x2:Nte (frs X.stack) (T::no) s1.heap h2:=fun c o q' n=>by
   obtain ⟨a1,sl,a2⟩:=x c o q' fun z=>n (List.mem_cons_of_mem _ z)
   have n2:c∉[T]:=fun z=>n (by rw[List.mem_singleton.mp z];exact List.mem_cons_self ..)
   exact ⟨fun m=>(y c o (a1 m) n2).1 (by simp),sl,(y c _ a2 n2).1 (by simp)⟩
  have I2:=z9d I1 x2 (fun c hc=>by
   rcases List.mem_cons.mp hc with rfl|hc
   ·exact ⟨.inr T0,fT⟩
   ·exact hno c hc) u2 e
  exact hc pins σ' _ _ W ea C dx T (Inv.untry I.ok I2) z06 (by rw[z0f nT];exact T0) ⟨fT.1,fT.2.1,fT.2.2.1,fun p hp=>fT.2.2.2 p (List.mem_append_left _ hp)⟩ u2 ke
 have hp:zhw (X.tryx F (X.pn++pins)) (EE W):=fun pn σ' H0 s0 e s1 I0 hx=>by
  obtain ⟨ea,C,dx,T,H1,rfl,o1,o2,un,ok,l1,l2,t1,t2,u,k⟩:=hx
  have I1:Inv (X.tryx F (X.pn++pins)) pn σ' H1 s1:=I0.call' o1 un ok o2 (fun b z=>absurd z (by simp))
  have fr:X.A.frames=some (X.env::X.outer):=by rw[←st1];exact I1.ok.frames
  have fl:s1.heap.FunFrames X.base (X.env::X.outer):=by rw[←st1];exact I1.stack
  refine zlg fr fl st2 u fun h' T' hT x u'=>?_
  rw[←st1]at x
  have f1:=I0.far l1
  have f2:=I0.far l2
  refine land I1 x (fun b z=>?_) hT u' t1 (by rw[zb4 t1];exact k)
  rcases List.mem_cons.mp z with rfl|z
  ·exact ⟨.inl rfl,f1⟩
  ·rw[List.mem_singleton.mp z];exact ⟨.inr t2,f2⟩
 have hr:z9x (X.tryx F (X.pn++pins)) (EE W):=fun pn σ' H0 H1 s0 s1 ea C dx I0 hs I1 e k=>by
  have fr:X.A.frames=some (X.env::X.outer):=by rw[←st1];exact I1.ok.frames
  have fl:s1.heap.FunFrames X.base (X.env::X.outer):=by rw[←st1];exact I1.stack
  obtain ⟨oe,vs,g,e1,e2,e3,e4,e5⟩:=z73 (I1.hok ea _ e)
  refine zbz fr fl st2 g e3 (e5 rfl) fun h' T' hT x u'=>?_
  rw[←st1]at x
  rw[e1,e2]at u'
  have f1:=I0.far hs
  exact land I1 x (fun b z=>by rw[List.mem_singleton.mp z];exact ⟨.inl rfl,f1⟩) hT u' e k
 refine wpAny_mono ((hb F _ _ hp hr).o [] s σ H W I.tryx h) (fun f s4 z=>?_) fun _ _ z=>z
 cases f with
 | next=>
  obtain ⟨σ',H',J,z⟩:=z
  exact wpAny_execs_nil ⟨σ',H',Inv.untry I.ok J,z⟩
 | ret v=>
  obtain ⟨v',σ',H',J,rv,z⟩:=z
  exact ⟨v',σ',H',Inv.untry I.ok J,rv,z⟩
 | brk=>
  obtain ⟨σ',H',J,z⟩:=z
  exact ⟨σ',H',Inv.untry I.ok J,z⟩
 | cont=>
  obtain ⟨σ',H',J,z⟩:=z
  exact ⟨σ',H',Inv.untry I.ok J,z⟩⟩
noncomputable def zj3 (K:W.Frag)(D:Addr)(ts:TS)(W:Ends):XS:=fun σ' c xa H'=>∃C ea,c=.ref C∧xa=some ea∧PySem.W.mroIn K C (.ref D)=some true∧ts {nx:=W.nx,rt:=W.rt,bk:=fun _ _=>False,ct:=fun _ _=>False} σ' H'
structure tTry0 (K:W.Frag)(D:Addr)(tb:XS→TS)(ts:TS)(W:Ends)(σ:St)(H:Hp):Prop where
 o:tb (zj3 K D ts W) W σ H
theorem zgp {body suite : List Stmt}{b0 : Stmt}{x : Str}{np hpos pos : Pos}{tb : XS → TS}{ts : TS}(st : X.stack = X.env :: X.outer ∧ X.env.frame = some X.env.locals)
  (hg:Gl X x)(hm:X.mg x=some (.ref D))(lk:X.K.lookup D=some (excClassObj nm q D N bs bm hdct sn sub ab col dd k0 k1 k2 k3 k5 newId))(hbm:bm.contains (.type "BaseException")=true)
  (hb:∀F pn EE,zhw (X.tryx F pn) EE→z9x (X.tryx F pn) EE→QSs (X.tryx F pn) body (tb EE))(hs:∀ea,QSs (X.suite ea) (b0::suite) ts)(hdb:(x == ("__debug__":Str))=false:=by decide) :
  QS X (.Try body [.ExceptHandler (some (.Name x np)) none (b0::suite) hpos] [] [] pos) (tTry0 X.K D tb ts):=
 have z:=zqq (h0:=.ExceptHandler (some (.Name x np)) none (b0::suite) hpos) (pos:=pos) (EE:=zj3 X.K D ts) st hb fun pins σ H s W ea C dx T I e T0 hT u k=>by
  obtain ⟨C',ea',c1,c2,mr,h⟩:=k
  cases c1;cases c2
  exact zfn hg hm lk hbm (hs ea) I e hT T0 u mr h hdb
 ⟨fun pins s σ H W I h=>z.o pins s σ H W I h.o⟩
end
end
section
noncomputable abbrev ClsK (K:W.Frag)(x:Str)(C:Addr):Prop:=PySem.W.nsIn K mainGlobals x=some (some (.ref C))
theorem ClsK.inj {K:W.Frag}{x:Str}{C D:Addr}(h:ClsK K x C)(k:ClsK K x D):C=D:=by
 have z:=h.symm.trans k
 injection z with z;injection z with z;injection z
noncomputable def RaisesW (K:W.Frag)(x:Str)(fs:List (Str×V))(H:Hp)(E:XK):Prop:=∀C ea dx H',ClsK K x C→H ea=none→H dx=none→Same H H'→H' ea=some (XO false ea C (some dx))→H' dx=some (XD dx fs)→E (.ref C) (some ea) H'
theorem Same.none {A B:Hp}{b:Addr}(s:Same A B)(h:B b=none):A b=none:=by
 cases e:A b with
 | none=>rfl
 | some o=>rw[s b o e]at h;cases h
theorem RaisesW.mono {K:W.Frag}{x:Str}{fs:List (Str×V)}{H H1:Hp}{E:XK}(h:RaisesW K x fs H E)(s:Same H H1):RaisesW K x fs H1 E:=fun C ea dx H' c n1 n2 s'=>h C ea dx H' c (s.none n1) (s.none n2) (s.trans s')
noncomputable def zq4 (K:W.Frag)(f g:Str):Sp:=fun vs H Q _=>∃ea C B v u,vs=[.ref ea,v,u]∧H ea=some (XO true ea C none)∧XCls K C B∧PySem.W.findIn K (.ref C) f=some none∧PySem.W.findIn K (.ref C) g=some none∧
 ∀d,H d=none→Q .non (upd (upd (upd H d (XD d [(f,v)])) ea (XO true ea C (some d))) d (XD d (z7d g u [(f,v)])))
structure XTop (K:W.Frag)(mg:Str→Option Value)(x qual:Str)(st:Stmt)(fs:List Str)(C B fI:Addr)(fd:FuncData):Prop where
 s:XSrc K mg x qual st C B fI fd
 ns:ClsK K x C
 nb:ClsK K "PowerError" B
 free:∀f∈fs,PySem.W.findIn K (.ref C) f=some none
theorem zjg {K : W.Frag}{C B : Addr}{nm q : Str}{N : Addr}{bs : List Value}{sn : List Str}{sub : List Value}{ab : Bool}{col : Option Bool}{dd : Option Addr}{k0 k1 k2 k3 k5 : Option Value}
  (l:K.lookup C=some (excClassObj nm q C N bs (.ref B::vmB) true sn sub ab col dd k0 k1 k2 k3 k5 "ValueError.__new__"))
  (sa:PySem.W.findIn K (.ref C) "__setattr__"=some (some (.builtin "object.__setattr__")))(ga:PySem.W.findIn K (.ref C) "__getattribute__"=some (some (.builtin "BaseException.__getattribute__")))
  (gh:PySem.W.findIn K (.ref C) "__getattr__"=some none)(ca:PySem.W.findIn K (.ref C) "__class__"=some (some (.builtin "object.__class__")))
  (cg:PySem.W.specialIn K (.builtin "object.__class__") "__get__"=some (some (.builtin "getset_descriptor.__get__")))(ct:PySem.W.takesIn K (.builtin "object.__class__")=some true):XCls K C B:=
 ⟨⟨_,by unfold PySem.W.clsIn;rw[l],rfl,rfl⟩,sa,ga,gh,ca,cg,ct⟩
section
variable {K:W.Frag}{mg:Str→Option Value}{x qual f g:Str}{st:Stmt}{C B fI:Addr}{fd:FuncData}{H:Hp}{E:XK}{u v:V}{fs:List Str}
theorem zdy (S : XTop K mg x qual st fs C B fI fd)(hf : f ∈ fs)(hg : g ∈ fs)(k : RaisesW K x (z7d g u [(f, v)]) H E) : [v, u].length ≤ 100 ∧ ∀ ea, H ea = none → zq4 K f g (.ref ea :: [v, u]) (upd H ea (XO true ea C none))
  (fun w H2=>w=.non∧∃ea' dx,V.ref ea=.ref ea'∧H2 ea'=some (XO true ea' C (some dx))∧E (.ref C) (some ea') (upd H2 ea' (XO false ea' C (some dx)))) E0:=by
 refine ⟨by show 2≤100;decide,fun ea h0=>⟨ea,C,B,v,u,rfl,z06,S.s.xc,S.free f hf,S.free g hg,fun d hd=>?_⟩⟩
 have nd:d≠ea:=fun z=>by rw[z,z06]at hd;cases hd
 have hd0:H d=none:=by rw[z0f nd]at hd;exact hd
 refine ⟨rfl,ea,d,rfl,by rw[z0f (Ne.symm nd),z06],?_⟩
 refine k C ea d _ S.ns h0 hd0 (fun b o q=>?_) z06 (by rw[z0f nd,z06])
 have n1:b≠ea:=z0m q h0
 have n2:b≠d:=z0m q hd0
 rw[z0f n1,z0f n2,z0f n1,z0f n2,z0f n1];exact q
end
theorem zu2 {P : Program}{w : World}{K : W.Frag}{mg : Str → Option Value}{base : Heap}{qual f g : Str}{st : Stmt}{fI : Addr}{fd : FuncData}{p1 p2 p3 p4 p5 p6 p7 p8 : Pos}(F : Fun K "__init__" qual st fI fd)
  (S:FnScope ["self",f,g] ["self",f,g] (z08 st))(hb:z15 st=[.Assign [.Attribute (.Name "self" p1) f p2] (.Name f p3) p4,.Assign [.Attribute (.Name "self" p5) g p6] (.Name g p7) p8])
  (v0:Vis (z08 st) "self")(v1:Vis (z08 st) f)(v2:Vis (z08 st) g)(d1:(f == ("__debug__":Str))=false)(d2:(f == ("__classdict__":Str))=false)(d3:(g == ("__debug__":Str))=false)(d4:(g == ("__classdict__":Str))=false)
  (s1:∀env,swapsWith (.Name f p3) (some (.Attribute (.Name "self" p1) f p2)) p4.line env=pure false)(s2:∀env,swapsWith (.Name g p7) (some (.Attribute (.Name "self" p5) g p6)) p8.line env=pure false) :
  FnOk P w K mg base CX0 1 fI fd ["self",f,g] (zq4 K f g):=by
 refine F.ok S (fun vs H Q E h=>?_) fun cdv A outer s H vs Q E hr h=>?_
 ·obtain ⟨ea,C,B,v,u,rfl,_⟩:=h
  rfl
 obtain ⟨ea,C,B,v,u,rfl,h1,h2,h3,h4,k⟩:=h
 rw[hb]
 refine ⟨_,(z04 (zbp (K:=K) rfl (z7z (i:=0) rfl v0 (by decide) (by decide)) (z7z (i:=1) rfl v1 d1 d2) (s1 _)) (z05 (zbp (K:=K) rfl (z7z (i:=0) rfl v0 (by decide) (by decide)) (z7z (i:=2) rfl v2 d3 d4) (s2 _)))).o,?_⟩
 refine ⟨v,rfl,.ref ea,rfl,ea,C,B,true,rfl,h2,h3,.inl ⟨h1,fun d hd=>?_⟩⟩
 have nd:d≠ea:=fun z=>by rw[z,h1]at hd;cases hd
 exact ⟨u,rfl,.ref ea,rfl,ea,C,B,true,rfl,h2,h4,.inr ⟨d,[(f,v)],z06,by rw[z0f nd,z06],by show 1<100;decide,k d hd⟩⟩
theorem zub {K:W.Frag}{mg:Str→Option Value}{x qual:Str}{st:Stmt}{fs:List Str}{C B fI C' D:Addr}{fd:FuncData}(S:XTop K mg x qual st fs C B fI fd)(hC:ClsK K x C')(hD:ClsK K "PowerError" D):PySem.W.mroIn K C' (.ref D)=some true:=by
 have e1:=ClsK.inj hC S.ns
 have e2:=ClsK.inj hD S.nb
 subst e1 e2
 rw[S.s.xc.mro]
 simp
theorem zqm {K:W.Frag}{mg:Str→Option Value}{x qual:Str}{st:Stmt}{fs:List Str}{C B fI C' D:Addr}{fd:FuncData}(S:XTop K mg x qual st fs C B fI fd)(hC:ClsK K x C')(hD:ClsK K x D):PySem.W.mroIn K C' (.ref D)=some true:=by
 have e1:=ClsK.inj hC S.ns
 have e2:=ClsK.inj hD S.ns
 subst e1 e2
 rw[S.s.xc.mro]
 simp
theorem xxc {K:W.Frag}{mg:Str→Option Value}{x qual:Str}{st:Stmt}{fs:List Str}{C B fI C':Addr}{fd:FuncData}(S:XTop K mg x qual st fs C B fI fd)(hC:ClsK K x C'):XCls K C' B:=by
 have e1:=ClsK.inj hC S.ns
 subst e1
 exact S.s.xc
theorem zqn {K:W.Frag}{mg:Str→Option Value}{x qual f:Str}{st:Stmt}{fs:List Str}{C B fI C':Addr}{fd:FuncData}(S:XTop K mg x qual st fs C B fI fd)(hC:ClsK K x C')(hf:f∈fs):PySem.W.findIn K (.ref C') f=some none:=by
 have e1:=ClsK.inj hC S.ns
 subst e1
 exact S.free f hf
theorem zs9 (z:Int):Rat.divInt z 1=(z:Rat):=by
 rw[Rat.divInt_eq_div];show (z:Rat)/1=z;grind
end
section
section
variable {X:Cx}
end
theorem mm' (x y p:Int):(x*(y%p))%p=(x*y)%p:=by rw[Int.mul_emod,Int.emod_emod,←Int.mul_emod]
theorem pm (x p:Int):∀k:Nat,(x%p)^k%p=x^k%p
 | 0=>by rw[Int.pow_zero,Int.pow_zero]
 | k+1=>by rw[Int.pow_succ,Int.pow_succ,mm',Int.mul_comm,←mm',pm x p k,mm',Int.mul_comm]
noncomputable def pr46:List Int:=[2,3,5,7,11,13,17,19,23,29,31,37,41,43,47,53,59,61,67,71,73,79,83,89,97,101,103,107,109,113,127,131,137,139,149,151,157,163,167,173,179,181,191,193,197,199]
end
section
section
variable {X:Cx}{o i value:Expr}{pos pos':Pos}{td ty tv:TE}
theorem z2g (hu:X.A.units+1<cLine)(ho:QE X o td)(hi:QE X i ty)(hs:zsf i):QE X (.Subscript o i pos) (zmq td ty):=⟨zl4 hu ho.o hi.o hs⟩
theorem z5o (hu:X.A.units+1<cLine)(ho:QE X o td)(hi:QE X i ty)(hv:QE X value tv)(hs:swapsWith value (some (.Subscript o i pos')) pos.line X.env=pure false):QS X (.Assign [.Subscript o i pos'] value pos) (znc td ty tv):=⟨zkt hu ho.o hi.o hv.o hs⟩
end
noncomputable abbrev fdK (c:Addr)(a l t:Int):List (Key×V):=[(.inr "cells",.ref c),(.inr "at",.int a),(.inr "left",.int l),(.inr "turn",.int t)]
section
variable {c:Addr}{a l t:Int}{v:V}
theorem z5v:z8s (fdK c a l t) (.inr "cells")=some (.ref c):=rfl
theorem zs4:z8s (fdK c a l t) (.inr "at")=some (.int a):=rfl
theorem zas:z8s (fdK c a l t) (.inr "left")=some (.int l):=rfl
theorem zf9:z8s (fdK c a l t) (.inr "turn")=some (.int t):=rfl
theorem zs3 (z:Int):z7c (fdK c a l t) (.inr "at") (.int z)=fdK c z l t:=rfl
theorem zf6 (z:Int):z7c (fdK c a l t) (.inr "left") (.int z)=fdK c a z t:=rfl
theorem zlr (z:Int):z7c (fdK c a l t) (.inr "turn") (.int z)=fdK c a l z:=rfl
end
theorem z45 {H:Hp}{a:Addr}{kvs:List (Key×V)}{x:Str}{v:V}(h:H a=some (.dK kvs))(e:z8s kvs (.inr x)=some v):DGet H a (.str x) (some v):=by
 have:=DGet.k (k:=Sum.inr x) h
 rwa [e]at this
theorem zcd {H:Hp}{a:Addr}{kvs kvs':List (Key×V)}{x:Str}{v:V}(h:H a=some (.dK kvs))(hl:kvs.length<sizeLine)(e:z7c kvs (.inr x) v=kvs'):DPut H a (.str x) v (upd H a (.dK kvs')):=by
 have:=DPut.k (k:=Sum.inr x) (v:=v) h hl
 rwa [e]at this
noncomputable def Fd (H:Hp)(t:V)(n:Nat):Prop:=∃(a c:Addr) (cells:List Int) (at' left turn:Int),t=.ref a∧H a=some (.dK (fdK c at' left turn))∧H c=some (.lst (cells.map V.int))∧0≤at'∧at'≤(n:Int)∧0≤turn∧turn≤(n:Int)∧cells.length≤63
noncomputable def zls (H:Hp)(t:V)(c:Addr):Prop:=∃a r,t=.ref a∧H a=some (.dK ((.inr "cells",.ref c)::r))
structure SF (t:V)(H H':Hp):Prop where
 old:∀b o,H b=some o→V.ref b≠t→H' b=some o
 cell:∀c,zls H t c→zls H' t c
noncomputable instance {t:V} {H H':Hp}:CoeFun (SF t H H') (fun _=>∀b o,H b=some o→V.ref b≠t→H' b=some o):=⟨SF.old⟩
section
variable {t:V}{H H' H1 H2:Hp}{n m:Nat}
theorem SF.refl (t:V)(H:Hp):SF t H H:=⟨fun _ _ h _=>h,fun _ h=>h⟩
theorem SF.trans (a:SF t H H1)(b:SF t H1 H2):SF t H H2:=⟨fun c o h n=>b.old c o (a.old c o h n) n,fun c h=>b.cell c (a.cell c h)⟩
theorem Same.sf (e:Same H H'):SF t H H':=⟨fun b o h _=>e b o h,fun c ⟨a,r,h1,h2⟩=>⟨a,r,h1,e _ _ h2⟩⟩
theorem SF.keep (e:SF t H H')(T:Fd H t n):Keep H H':=fun b xs h=>by
 obtain ⟨a,c,cells,at',left,turn,rfl,h1,_⟩:=T
 rcases h with h|⟨o,h⟩
 ·exact .inl (e.old b _ h fun z=>by cases z;rw[h]at h1;cases h1)
 ·exact .inr ⟨o,e.old b _ h fun z=>by cases z;rw[h]at h1;cases h1⟩
theorem Fd.same (T:Fd H t n)(e:Same H H'):Fd H' t n:=by
 obtain ⟨a,c,cells,at',left,turn,rfl,h1,h2,h3⟩:=T
 exact ⟨a,c,cells,at',left,turn,rfl,e _ _ h1,e _ _ h2,h3⟩
theorem Fd.mono (T:Fd H t m)(h:m≤n):Fd H t n:=by
 obtain ⟨a,c,cells,at',left,turn,rfl,h1,h2,h3,h4,h5,h6,h7⟩:=T
 exact ⟨a,c,cells,at',left,turn,rfl,h1,h2,h3,by omega,h5,by omega,h7⟩
theorem Fd.ne (T:Fd H t n){l:Addr}(hl:H l=none):V.ref l≠t:=by
 obtain ⟨a,c,cells,at',left,turn,rfl,h1,_⟩:=T
 intro z;cases z;rw[hl]at h1;cases h1
theorem Fd.cellNe (T:Fd H t n):∃c,zls H t c∧∀D,H D=none→c≠D:=by
 obtain ⟨a,c,cells,at',left,turn,rfl,h1,h2,_⟩:=T
 exact ⟨c,⟨a,_,rfl,h1⟩,fun D hD z=>by subst z;rw[h2]at hD;cases hD⟩
theorem Fd.updD {H5:Hp}{n1:Nat}{D:Addr}{o:HO}(T1:Fd H1 t n1)(S:SF t H1 H5)(T5:Fd H5 t n)(hD:H1 D=none):Fd (upd H5 D o) t n:=by
 obtain ⟨c1,hc,hne⟩:=T1.cellNe
 have ht:=T1.ne hD
 obtain ⟨a',r',e',z'⟩:=S.cell c1 hc
 obtain ⟨a,c,cells,at',left,turn,rfl,h1,h2,h3⟩:=T5
 cases e'
 rw[h1]at z'
 cases z'
 refine ⟨a',c1,cells,at',left,turn,rfl,?_,?_,h3⟩
 ·rw[z0f (fun z=>ht (by rw[z]))];exact h1
 ·rw[z0f (hne D hD)];exact h2
theorem SF.updD {H5:Hp}{n1:Nat}{D:Addr}{o:HO}(S:SF t H1 H5)(T1:Fd H1 t n1)(hD:H1 D=none):SF t H1 (upd H5 D o):=by
 have ht:=T1.ne hD
 refine ⟨fun b u h n=>?_,fun c h=>?_⟩
 ·rw[z0f (z0m h hD)];exact S.old b u h n
 ·obtain ⟨a,r,e,z⟩:=S.cell c h
  subst e
  exact ⟨a,r,rfl,by rw[z0f (fun z=>ht (by rw[z]))];exact z⟩
end
theorem z5q:∀ns:List Int,PyData.canLayAll0 (ns.map PyData.int)=true
 | []=>rfl
 | x::ns=>by
  rw[List.map_cons]
  show (PyData.canLay0 (.int x)&&PyData.canLayAll0 (ns.map PyData.int))=true
  rw[z5q ns];rfl
theorem z8e:∀ns:List Int,PyData.depthAll (ns.map PyData.int)=0
 | []=>by simp[PyData.depthAll]
 | x::ns=>by
  rw[List.map_cons]
  show max (PyData.depth (.int x)) (PyData.depthAll (ns.map PyData.int))=0
  rw[z8e ns];simp[PyData.depth]
theorem zfc {K:W.Frag}{H:Hp}:∀ns:List Int,DvAll K H (ns.map V.int) (ns.map PyData.int)
 | []=>.nil
 | x::ns=>.cons (.int x) (zfc ns)
end
noncomputable def zms (f:Nat→Int):Nat→Int
 | 0=>0
 | n+1=>zms f n+f n
noncomputable def zu7 (n p a:Int)(j:Nat):Int:=(j:Int)^(n-1).toNat%p*((j:Int)*a/p)
noncomputable def zu5 (n p a:Int):Int:=zms (zu7 n p a) p.toNat%p
theorem zm4 {ns:List Int}{r:Int}(h0:0≤r)(h1:r<(ns.length:Int)):∃z:Int,atI (ns.map V.int) r=some (V.int z)∧z∈ns:=by
 obtain ⟨v,e,z,rfl,hz⟩:=z8l (P:=fun x=>∃z:Int,x=V.int z∧z∈ns) (xs:=ns.map V.int) (r:=r) h0 (by rw[List.length_map];exact h1) (by
  intro x hx
  obtain ⟨z,hz,rfl⟩:=List.mem_map.mp hx
  exact ⟨z,rfl,hz⟩)
 exact ⟨z,e,hz⟩
section
section
variable {X:Cx}
end
end
section
theorem zh7 (y:Rat)(l:List Rat):z1n (mvL y l)=mvL y l:=by
 cases l with
 | nil=>rfl
 | cons a r=>exact z8t _
theorem zbc (x:Rat)(l:List Rat)(t:Nat):(zjt x l).getD t 0=l.getD t 0*x^t:=by
 unfold zjt
 rw[z0u]
 by_cases h:t<l.length
 ·exact z23 h
 ·rw[z0e (by rw[z0v];omega),z0e (by omega),Rat.zero_mul]
theorem zgf (x:Rat)(l:List Rat):(zjt x l).length≤l.length:=by
 refine z2e fun i hi=>?_
 exact z0e (by rw[z0v];omega)
theorem zel (x:Rat)(rs:List Rat):mvL x rs=z1n (zd8 x 1 rs):=by
 rw[←zh7]
 exact z7p fun i=>by rw[z4a,z5j]
section
variable {D:Int}{m n N:Nat}{x:Rat}{rs:List Rat}
theorem zh6 (h0:D≠0)(bD:Bt m D)(bx:Bs n x)(h:∀r∈rs,Cd D m r)(hN:m+rs.length*(n+1)+1≤N)(i:Nat):∀r∈mvL x (rs.drop i),Bs N r:=fun r hr=>by
 have hd:((x.den:Nat):Int)≠0:=by have:=den_pos x;omega
 have ex:x=Rat.divInt x.num (x.den:Int):=(z2l x).symm
 rw[ex]at hr
 have l1:(rs.drop i).length≤rs.length:=by rw[List.length_drop];omega
 have c:=zah h0 hd bx.n bx.d (rs:=rs.drop i) (fun r hr=>h r (List.mem_of_mem_drop hr)) r hr
 have l2:=Nat.mul_le_mul_right (n+1) l1
 have l3:(rs.drop i).length*(n+1)=(rs.drop i).length*n+(rs.drop i).length:=by rw[Nat.mul_add,Nat.mul_one]
 refine c.bs (Int.mul_ne_zero h0 (Int.pow_ne_zero hd)) ((bD.mul (ze4 bx.d (rs.drop i).length)).mono ?_) (by omega)
 omega
theorem zrs (h0:D≠0)(bx:Bs n x)(h:∀r∈rs,Cd D m r):∀r∈mvL x rs,Cd (D*(x.den:Int)^rs.length) (m+rs.length*(n+1)) r:=fun r hr=>by
 have hd:((x.den:Nat):Int)≠0:=by have:=den_pos x;omega
 have ex:x=Rat.divInt x.num (x.den:Int):=(z2l x).symm
 rw[ex]at hr
 exact zah h0 hd bx.n bx.d h r hr
theorem zka (h0:D≠0)(bD:Bt m D)(bx:Bs n x)(h:∀r∈rs,Cd D m r)(hN:m+rs.length*(n+1)+1≤N)(i t:Nat):Bs N (z16 x 1 (rs.drop i) t):=by
 rw[←z4a]
 exact z2b (zh6 h0 bD bx h hN i) (by omega) t
end
end
noncomputable def spG (row:List Rat)(n j:Nat):Rat:=if j=0 then 0 else Rat.divInt ((ch (n+1) (n+1-j):Nat):Int) ((n:Int)+1)*row.getD (n+1-j) 0
noncomputable def spL (n:Nat):List Rat:=tab (n+2) (spG (z3k n) n)
theorem za4 (n:Nat):(spL n).length=n+2:=z0v _ _
noncomputable def mvQ:List Rat→List Rat
 | []=>[]
 | a::r=>m2 1 a (mvQ r)
theorem z6g:∀(rs:List Rat)(t:Nat),(mvQ rs).getD t 0=z16 1 1 rs t
 | [],t=>z0e (Nat.zero_le _)
 | a::r,t=>by
  show (m2 1 a (mvQ r)).getD t 0=z16 1 1 r t*1+(if t=0 then a else z16 1 1 r (t-1)*1)
  rw[zc1,z6g r,z6g r]
  split<;>grind
noncomputable def rnE:Int:=5354228880
noncomputable def cdB (c:Nat)(x:Rat):Bool:=decide (rnE%(x.den:Int)=0)&&Nat.blt (x.num*(rnE/(x.den:Int))).natAbs (2^c)
noncomputable def spC (n:Nat):List Rat:=tab (n+2) (spG (zdw 22).2 n)
noncomputable def spB (n:Nat):Bool:=decide (z6w (mvQ (spC n)) ((spC n).map (· * -1))=List.replicate n 0++[1,0])&&(spC n).all (cdB 49)
set_option maxRecDepth 1000000 in
theorem zmw:((List.range 23).all spB)=true:=by decide +kernel
theorem zmy {n:Nat}(h:n≤22):spC n=spL n:=by
 unfold spC spL
 rw[(z7w 22).1]
 refine z1f fun j hj=>?_
 unfold spG
 by_cases h0:j=0
 ·rw[if_pos h0,if_pos h0]
 ·rw[if_neg h0,if_neg h0,z5l h (by omega)]
theorem zqy {n:Nat}(h:n≤22):z6w (mvQ (spL n)) ((spL n).map (· * -1))=List.replicate n 0++[1,0]∧∀r∈spL n,Cd rnE 49 r:=by
 have c:=List.all_eq_true.mp zmw n (List.mem_range.mpr (by omega))
 unfold spB at c
 rw[zmy h,Bool.and_eq_true]at c
 refine ⟨of_decide_eq_true c.1,fun r hr=>?_⟩
 have b:=List.all_eq_true.mp c.2 r hr
 unfold cdB at b
 rw[Bool.and_eq_true]at b
 have b1:=of_decide_eq_true b.1
 have b2:=Nat.blt_eq.mp b.2
 refine ⟨r.num*(rnE/(r.den:Int)),?_,b2⟩
 have hd:(r.den:Int)≠0:=by have:=den_pos r;omega
 have e:rnE=(r.den:Int)*(rnE/(r.den:Int)):=by
  have:=Int.mul_ediv_add_emod rnE (r.den:Int)
  omega
 have hq:rnE/(r.den:Int)≠0:=fun z=>by rw[z,Int.mul_zero]at e;exact absurd e (by decide)
 generalize rnE/(r.den:Int)=g at e hq
 rw[e,Rat.divInt_mul_right hq,z2l]
theorem zjv {n:Nat}(h:n≤22)(t:Nat):z16 1 1 (spL n) t=(spL n).getD t 0+if t=n then 1 else 0:=by
 have e:(z6w (mvQ (spL n)) ((spL n).map (· * -1))).getD t 0=(List.replicate n (0:Rat)++[1,0]).getD t 0:=by rw[(zqy h).1]
 rw[z2f,z6g,z2z]at e
 have e2:(List.replicate n (0:Rat)++[1,0]).getD t 0=if t=n then 1 else 0:=by
  rw[List.getD_eq_getElem?_getD]
  by_cases h1:t<n
  ·rw[List.getElem?_append_left (by rw[List.length_replicate];exact h1),List.getElem?_replicate,if_pos h1,if_neg (by omega)];rfl
  ·rw[List.getElem?_append_right (by rw[List.length_replicate];omega),List.length_replicate]
   by_cases h2:t=n
   ·subst h2;rw[Nat.sub_self,if_pos rfl];rfl
   ·rw[if_neg h2]
    obtain ⟨k,hk⟩:∃k,t-n=k+1:=⟨t-n-1,by omega⟩
    rw[hk]
    cases k with
    | zero=>rfl
    | succ k=>rfl
 rw[e2]at e
 grind
theorem zju (n:Nat):(spL n).getD 0 0=0:=by
 unfold spL
 rw[z23 (by omega)];rfl
theorem z5i (x o:Rat):∀(a b:List Rat)(t:Nat),z16 x o (z6w a b) t=z16 x o a t+z16 x o b t
 | [],b,t=>by show z16 x o b t=0+z16 x o b t;grind
 | u::a,[],t=>by show z16 x o (u::a) t=z16 x o (u::a) t+0;grind
 | u::a,v::b,t=>by
  show z16 x o (z6w a b) t*x+(if t=0 then u+v else z16 x o (z6w a b) (t-1)*o)=z16 x o a t*x+(if t=0 then u else z16 x o a (t-1)*o)+(z16 x o b t*x+(if t=0 then v else z16 x o b (t-1)*o))
  rw[z5i x o a b,z5i x o a b]
  split<;>grind
theorem z5k (x o c:Rat):∀(a:List Rat)(t:Nat),z16 x o (a.map (·*c)) t=z16 x o a t*c
 | [],t=>by show (0:Rat)=0*c;grind
 | u::a,t=>by
  show z16 x o (a.map (·*c)) t*x+(if t=0 then u*c else z16 x o (a.map (·*c)) (t-1)*o)=(z16 x o a t*x+(if t=0 then u else z16 x o a (t-1)*o))*c
  rw[z5k x o c a,z5k x o c a]
  split<;>grind
noncomputable def smL (rs:List Rat):Nat→List Rat
 | 0=>[]
 | i+1=>z1n (z5f (smL rs i) (z1n ((spL i).map (·*rs.getD i 0))))
theorem zdq (rs:List Rat)(t:Nat):∀i,(smL rs i).getD t 0=z2q (fun n=>(spL n).getD t 0*rs.getD n 0) i
 | 0=>z0e (Nat.zero_le _)
 | i+1=>by
  show (z1n (z5f (smL rs i) (z1n ((spL i).map (·*rs.getD i 0))))).getD t 0=z2q _ i+_
  rw[z0u,z2p,z0u,z2z,zdq rs t i]
theorem zdp (rs:List Rat)(t:Nat):∀i,i≤23→z16 1 1 (smL rs i) t=(smL rs i).getD t 0+if t<i then rs.getD t 0 else 0
 | 0,_=>by show (0:Rat)=_;rw[if_neg (by omega),show (smL rs 0).getD t 0=0 from z0e (Nat.zero_le _)];grind
 | i+1,h=>by
  have e:∀j,(smL rs (i+1)).getD j 0=(z6w (smL rs i) ((spL i).map (·*rs.getD i 0))).getD j 0:=fun j=>by
   show (z1n (z5f (smL rs i) (z1n ((spL i).map (·*rs.getD i 0))))).getD j 0=_
   rw[z0u,z2p,z0u,z2f]
  rw[z47 1 1 e,z5i,z5k,zdp rs t i (by omega),zjv (by omega),e t,z2f,z2z]
  by_cases h1:t=i
  ·subst h1
   rw[if_pos rfl,if_neg (by omega),if_pos (by omega)];grind
  ·rw[if_neg h1]
   by_cases h2:t<i
   ·rw[if_pos h2,if_pos (by omega)];grind
   ·rw[if_neg h2,if_neg (by omega)];grind
theorem za6 (rs:List Rat):∀i,(smL rs i).length≤i+1
 | 0=>Nat.zero_le _
 | i+1=>by
  refine z2e fun j hj=>?_
  rw[z2p,z0u,z2z,z0e (by have:=za6 rs i;omega),z0e (by rw[za4];omega)];grind
noncomputable def smP (rs:List Rat):List Rat:=smL rs rs.length
theorem zk1 (rs:List Rat):(smP rs).length≤rs.length+1:=za6 rs _
theorem zgi {rs:List Rat}(h:rs.length≤23)(t:Nat):z16 1 1 (smP rs) t=(smP rs).getD t 0+rs.getD t 0:=by
 unfold smP
 rw[zdp rs t _ h]
 by_cases h1:t<rs.length
 ·rw[if_pos h1]
 ·rw[if_neg h1,z0e (rs:=rs) (by omega)]
theorem zk0 {rs:List Rat}(h:rs.length≤23)(y:Rat):hor (y+1) (smP rs)=hor y (smP rs)+hor y rs:=by
 rw[←z52,←z5s]
 exact z31 y fun i=>by rw[z4a,zgi h,z2p]
theorem zc7:∀l:List Rat,hor 0 l=l.getD 0 0
 | []=>rfl
 | a::l=>by show hor 0 l*0+a=a;grind
theorem zgh (rs:List Rat):(smP rs).getD 0 0=0:=by
 unfold smP
 rw[zdq]
 exact z2j fun i _=>by rw[zju];grind
theorem zdo {rs:List Rat}(h:rs.length≤23):∀k:Nat,hor (k:Rat) (smP rs)=z2q (fun j=>hor (j:Rat) rs) k
 | 0=>by show hor ((0:Nat):Rat) (smP rs)=0;rw[show ((0:Nat):Rat)=0 from rfl,zc7,zgh]
 | k+1=>by
  show _=z2q _ k+hor (k:Rat) rs
  rw[←zdo h k,←zk0 h,show ((k+1:Nat):Rat)=(k:Rat)+1 by push_cast;rfl]
theorem zdr {D:Int}{m:Nat}{rs:List Rat}(h0:D≠0)(h:∀r∈rs,Cd D m r):∀i,i≤23→∀r∈smL rs i,Cd (rnE*D) (49+m+i) r
 | 0,_,r,hr=>by cases hr
 | i+1,hi,r,hr=>by
  obtain ⟨t,_,rfl⟩:=z2o hr
  show Cd _ _ ((z1n (z5f (smL rs i) (z1n ((spL i).map (·*rs.getD i 0))))).getD t 0)
  rw[z0u,z2p,z0u,z2z]
  have hE:rnE*D≠0:=Int.mul_ne_zero (by decide) h0
  have a1:=z1k (zdr h0 h i (by omega)) t
  have a2:Cd (rnE*D) (49+m) ((spL i).getD t 0*rs.getD i 0):=by
   obtain ⟨u,eu,bu⟩:=z1k h i
   rw[eu]
   exact (z1k (zqy (n:=i) (by omega)).2 t).mulx bu
  exact Cd.add hE a1 (a2.mono (show 49+m≤49+m+i by omega))
theorem zqx {n:Nat}(h:n≤22):∀r∈spL n,Bs 49 r:=fun r hr=>((zqy h).2 r hr).bs (by decide) (by decide) (Nat.le_refl _)
theorem zia {D:Int}{m:Nat}{rs:List Rat}(h0:D≠0)(bD:Bt m D)(h:∀r∈rs,Cd D m r)(i:Nat)(hi:i≤23):∀r∈smL rs i,Bs (49+m+23) r:=fun r hr=>
 (zdr h0 h i hi r hr).bs (Int.mul_ne_zero (by decide) h0) (((show Bt 49 rnE by decide).mul bD).mono (by omega)) (by omega)
theorem zc9 {D:Int}{m b:Nat}{z:Int}(h0:D≠0)(bz:Bt b z):∀{l:List Rat},(∀r∈l,Cd D m r)→Cd D (m+l.length*(b+1)) (hor (z:Rat) l)
 | [],_=>Cd.zero.mono (by omega)
 | a::l,h=>by
  have i:=zc9 h0 bz (l:=l) fun r hr=>h r (List.mem_cons_of_mem _ hr)
  show Cd D (m+(l.length+1)*(b+1)) (hor (z:Rat) l*(z:Rat)+a)
  have e:m+(l.length+1)*(b+1)=m+l.length*(b+1)+b+1:=by rw[Nat.succ_mul];omega
  rw[e]
  refine Cd.add h0 ?_ ((h a (List.mem_cons_self ..)).mono (by omega))
  have:=i.mulx (u:=z) (d:=1) bz
  rw[Int.mul_one,zs9]at this
  exact this
noncomputable def zmu (x:Rat):Rat→List Rat→List Rat
 | _,[]=>[]
 | c,a::l=>a*c::zmu x (c*x) l
theorem zbd (x:Rat):∀(l:List Rat)(c:Rat)(t:Nat),(zmu x c l).getD t 0=l.getD t 0*(c*x^t)
 | [],c,t=>by
  show ([]:List Rat).getD t 0=([]:List Rat).getD t 0*_
  rw[z0e (rs:=[]) (Nat.zero_le _)];grind
 | a::l,c,0=>by show a*c=a*(c*x^0);grind
 | a::l,c,t+1=>by
  show (zmu x (c*x) l).getD t 0=l.getD t 0*(c*x^(t+1))
  rw[zbd x l,Rat.pow_succ];grind
theorem zc8 (x y:Rat):∀(l:List Rat)(c:Rat),hor y (zmu x c l)=c*hor (x*y) l
 | [],c=>by show (0:Rat)=c*0;grind
 | a::l,c=>by
  show hor y (zmu x (c*x) l)*y+a*c=c*(hor (x*y) l*(x*y)+a)
  rw[zc8 x y l];grind
theorem zhh (x y:Rat)(l:List Rat):hor y (zjt x l)=hor (x*y) l:=by
 have:=zc8 x y l 1
 rw[show (1:Rat)*hor (x*y) l=hor (x*y) l by grind]at this
 rw[←this]
 exact z31 y fun i=>by rw[zbc,zbd];grind
theorem z9k (y:Rat):∀n:Nat,hor y (List.replicate n 0++[1])=y^n
 | 0=>by show 0*y+1=y^0;rw[Rat.pow_zero];grind
 | n+1=>by
  show hor y (List.replicate n 0++[1])*y+0=y^(n+1)
  rw[z9k y n,Rat.pow_succ];grind
noncomputable def spP (n:Nat)(first step:Int):List Rat:=zjt (step:Rat) (mvL (first:Rat) (List.replicate n 0++[1]))
noncomputable def pS (n:Nat)(first step:Int):Nat→Int:=zms fun j=>(first+step*(j:Int))^n
theorem zjw (n:Nat)(first step:Int)(j:Nat):hor (j:Rat) (spP n first step)=(((first+step*(j:Int))^n:Int):Rat):=by
 unfold spP
 rw[zhh,z52,z9k,Rat.intCast_pow]
 congr 1
 push_cast
 rw[Rat.add_comm]
theorem zba (f:Nat→Int):∀k,z2q (fun j=>((f j:Int):Rat)) k=((zms f k:Int):Rat)
 | 0=>rfl
 | k+1=>by
  show z2q _ k+_=((zms f k+f k:Int):Rat)
  rw[zba f k];push_cast;rfl
theorem za3 (n:Nat)(first step:Int):(spP n first step).length≤n+1:=by
 have h1:=zgf (step:Rat) (mvL (first:Rat) (List.replicate n 0++[1]))
 have h2:=z3e (first:Rat) (List.replicate n 0++[1])
 have h3:(List.replicate n (0:Rat)++[1]).length=n+1:=by rw[List.length_append,List.length_replicate];rfl
 unfold spP
 omega
theorem zjx {n:Nat}(h:n≤20)(first step:Int)(k:Nat):hor (k:Rat) (smP (spP n first step))=((pS n first step k:Int):Rat):=by
 have:=za3 n first step
 rw[zdo (by omega)]
 rw[show (fun j:Nat=>hor (j:Rat) (spP n first step))=fun (j:Nat)=>(((first+step*(j:Int))^n:Int):Rat) from funext fun j=>zjw n first step j]
 exact zba _ k
theorem ze3 (n:Nat):∀r∈List.replicate n (0:Rat)++[1],Cd 1 1 r:=fun r hr=>by
 rcases List.mem_append.mp hr with h|h
 ·rw[(List.mem_replicate.mp h).2];exact ⟨0,by simp,by decide⟩
 ·rw[List.mem_singleton.mp h];exact ⟨1,by decide,by decide⟩
theorem zos {n b:Nat}{first:Int}(hb:Bt b first)(b0:0<b):∀r∈mvL (first:Rat) (List.replicate n 0++[1]),Cd 1 (1+(n+1)*(b+1)) r:=fun r hr=>by
 have h3:(List.replicate n (0:Rat)++[1]).length=n+1:=by rw[List.length_append,List.length_replicate];rfl
 have:=zrs (by decide) (Bs.int hb b0) (ze3 n) r hr
 rw[h3]at this
 have e:(1:Int)*(((first:Rat).den:Nat):Int)^(n+1)=1:=by rw[Rat.den_intCast,Int.one_mul];exact Int.one_pow
 rw[e]at this
 exact this
theorem zmx {n b:Nat}{first step:Int}(hn:n≤20)(hb:Bt b first)(hs:Bt b step)(b0:0<b)(h40:b≤41):∀r∈spP n first step,Cd 1 1800 r:=fun r hr=>by
 have hl:r∈spP n first step:=hr
 obtain ⟨t,ht,rfl⟩:=z2o hr
 have l1:=za3 n first step
 unfold spP
 rw[zbc]
 have c:=z1k (zos (n:=n) hb b0) t
 have h1:=Nat.mul_le_mul (show n+1≤21 by omega) (show b+1≤42 by omega)
 have h2:=Nat.mul_le_mul (show t≤20 by omega) h40
 have:=c.mulx (u:=step^t) (d:=1) (n:=t*b+1) (ze4 hs t)
 rw[Int.mul_one,zs9,Rat.intCast_pow]at this
 exact this.mono (by omega)
theorem zee (n:Nat)(first step:Int)(k:Nat):pS n first step (k+1)=pS n first step k+(first+step*(k:Int))^n:=rfl
section
section
variable {X:Cx}{K:W.Frag}
end
theorem zd6 {K : W.Frag}{t : V}{n m B : Nat}{g : TG}{tt : TT}{te : TE}{D : Addr}{lo : Int}{σ : St}{H1 : Hp}{Q : VK}(T1 : Fd H1 t m)(fD : H1 D = none)(hn : n ≤ 5000)(Sg : St → Prop)(hσ : Sg σ)
  (hg:∀i σ H Q,Sg σ→(∀σ2,Sg σ2→Q σ2 H)→g (.int i) σ H Q)(ht:∀σ H Q,Sg σ→Q true H→tt σ H Q)
  (he:∀σ H k Q,Sg σ→Fd H t k→k≤m+100*n→(∀v x H',Bs B x→Dv K H' v (sh x)→Fd H' t (k+100)→SF t H H'→Q v H')→te σ H Q)
  (hd:∀(ws:List V)(rs:List Rat) H',H' D=some (.lst ws)→DvAll K H' ws (rs.map sh)→rs.length=n→(∀r∈rs,Bs B r)→Fd H' t (m+100*n)→SF t H1 H'→Q (.ref D) H'):zhx (Itr lo n) g tt te D σ (upd H1 D (.lst [])) Q:=by
 refine z7j (fun i σ' H'=>Sg σ'∧SF t H1 H'∧Fd H' t (m+100*i)∧∃(ws:List V) (rs:List Rat),H' D=some (.lst ws)∧DvAll K H' ws (rs.map sh)∧rs.length=i∧∀r∈rs,Bs B r)
  ⟨hσ,(SF.refl _ _).updD T1 fD,T1.updD (SF.refl _ _) (T1.mono (by omega)) fD,[],[],z06,.nil,rfl,fun r h=>by simp at h⟩ ?_ ?_
 ·rintro i σ' H' hi ⟨hs,S,T,ws,rs,hD,hA,hl,hb⟩
  refine hg _ _ _ _ hs fun σ2 hs2=>ht _ _ _ hs2 ?_
  show te σ2 H' _
  refine he σ2 H' _ _ hs2 T (by have:=Nat.mul_le_mul_left 100 (Nat.le_of_lt hi);omega) fun v x H5 bx dx T5 S5=>?_
  have hD5:=S5.old D _ hD (T1.ne fD)
  have S15:=S.trans S5
  have wl:ws.length=rs.length:=by have:=hA.length;simpa using this
  have kp:Keep H5 (upd H5 D (.lst (ws++[v]))):=z1r hD5
  refine ⟨ws,hD5,by rw[wl,hl,sizeLine_eq];omega,hs2,S15.updD T1 fD,T1.updD S15 (T5.mono (by omega)) fD,ws++[v],rs++[x],z06,?_,by rw[List.length_append];simp[hl],fun r hr=>?_⟩
  ·rw[List.map_append]
   exact ((hA.kshs (S5.keep T)).kshs kp).append (.cons (dx.ksh kp) .nil)
  ·rcases List.mem_append.mp hr with h|h
   ·exact hb r h
   ·rw[List.mem_singleton.mp h];exact bx
 ·rintro σ' H' ⟨hs,S,T,ws,rs,hD,hA,hl,hb⟩
  exact ⟨⟨ws,hD⟩,hd ws rs H' hD hA hl hb T S⟩
end
theorem zh8 (l:List Rat)(x y:Rat)(t:Nat):(z86 l [x,y]).getD t 0=l.getD t 0*x+(if t=0 then 0 else l.getD (t-1) 0*y):=by
 unfold z86
 by_cases h:t<l.length+[x,y].length
 ·rw[z23 h,zag,zcj]
  unfold cnv
  cases t with
  | zero=>rw[if_pos rfl];show 0+x*l.getD 0 0=_;grind
  | succ t=>
   rw[if_neg (by omega),Nat.add_sub_cancel,z34,z34,z2j fun i _=>?_]
   ·show x*l.getD (t+1) 0+(y*l.getD (t+1-1) 0+0)=_
    rw[Nat.add_sub_cancel];grind
   ·show ([x,y]:List Rat).getD (i+1+1) 0*_=0
    rw[z0e (rs:=[x,y]) (by show 2≤i+1+1;omega)];grind
 ·rw[z0e (by rw[z0v];omega),z0e (rs:=l) (by simp at h;omega)]
  have h2:2≤t-l.length:=by simp at h;omega
  rw[if_neg (by omega),z0e (rs:=l) (by omega)];grind
noncomputable def zpx (sg:Int):Nat→List Rat
 | 0=>[1]
 | k+1=>z1n (z86 (zpx sg k) [Rat.divInt (sg*(k:Int)) ((k:Int)+1),Rat.divInt 1 ((k:Int)+1)])
theorem zg7 (sg:Int):∀k,(zpx sg k).length≤k+1
 | 0=>Nat.le_refl _
 | k+1=>z2e fun i hi=>by
  have:=zg7 sg k
  rw[zh8,if_neg (by omega),z0e (rs:=zpx sg k) (by omega),z0e (rs:=zpx sg k) (by omega)];grind
theorem zbb (f g:Nat→Rat):∀n,z2q (fun i=>f i+g i) n=z2q f n+z2q g n
 | 0=>by show (0:Rat)=0+0;grind
 | n+1=>by
  show z2q (fun i=>f i+g i) n+(f n+g n)=z2q f n+f n+(z2q g n+g n)
  rw[zbb f g n];grind
theorem zcm:∀(n:Nat)(l:List Rat),l.length≤n→(∀j:Nat,j<n→hor (j:Rat) l=0)→∀t,l.getD t 0=0
 | _,[],_,_,t=>z0e (Nat.zero_le _)
 | 0,a::r,h,_,t=>by simp at h
 | n+1,a::r,h,z,t=>by
  have h0:a=0:=by
   have:=z 0 (by omega)
   rw[show ((0:Nat):Rat)=0 from rfl,zc7]at this
   exact this
  have zr:∀j:Nat,j<n→hor (j:Rat) (mvL 1 r)=0:=fun j hj=>by
   have:=z (j+1) (by omega)
   rw[z52]
   have e:((j+1:Nat):Rat)=(j:Rat)+1:=by push_cast;rfl
   rw[e]at this
   have e2:hor ((j:Rat)+1) (a::r)=hor ((j:Rat)+1) r*((j:Rat)+1)+a:=rfl
   rw[e2,h0]at this
   have nz:(j:Rat)+1≠0:=fun w=>by
    rw[←e]at w
    have:=Rat.natCast_inj.mp (show ((j+1:Nat):Rat)=((0:Nat):Rat) from w)
    omega
   have m0:hor ((j:Rat)+1) r*((j:Rat)+1)=0:=by grind
   rcases Rat.mul_eq_zero.mp m0 with q|q
   ·exact q
   ·exact absurd q nz
  have ih:=zcm n (mvL 1 r) (by have:=z3e 1 r;simp at h;omega) zr
  have back:=zbi (o:=1) (c:=1) (x:=1) (y:=-1) (by grind) (by grind) r (mvL 1 r) (z4a 1 r)
  have rz:∀t,r.getD t 0=0:=fun t=>by
   rw[←back t,z47 (-1) 1 (b:=[]) fun i=>by rw[ih i,z0e (rs:=[]) (Nat.zero_le _)]];rfl
  cases t with
  | zero=>exact h0
  | succ t=>exact rz t
theorem z4j {p q:List Rat}{n:Nat}(hp:p.length≤n)(hq:q.length≤n)(okp:z0x p=true)(okq:z0x q=true)(h:∀j:Nat,j<n→hor (j:Rat) p=hor (j:Rat) q):p=q:=by
 have z:=zcm n (z5f p (q.map (· * -1))) (by unfold z5f;rw[z0v,List.length_map];omega) fun j hj=>by
  rw[z5s,zar,h j hj];grind
 rw[←z75 okp,←z75 okq]
 refine z7p fun i=>?_
 have:=z i
 rw[z2p,z2z]at this
 grind
theorem zk9 (rs:List Rat):∀t,z16 1 1 rs t=z2q (fun j=>(((ch j t:Nat):Int):Rat)*rs.getD j 0) rs.length:=by
 induction rs with
 | nil=>intro t;rfl
 | cons a r ih=>
  intro t
  show z16 1 1 r t*1+(if t=0 then a else z16 1 1 r (t-1)*1)=z2q _ (r.length+1)
  rw[z34,ih t]
  cases t with
  | zero=>
   rw[if_pos rfl,z2u]
   have e:z2q (fun i=>(((ch (i+1) 0:Nat):Int):Rat)*(a::r).getD (i+1) 0) r.length=z2q (fun j=>(((ch j 0:Nat):Int):Rat)*r.getD j 0) r.length:=z1s fun i _=>by
    rw[z2u,z2u];rfl
   rw[e]
   show _=((1:Int):Rat)*a+_
   grind
  | succ t=>
   rw[if_neg (by omega),Nat.add_sub_cancel,ih t]
   have e:z2q (fun i=>(((ch (i+1) (t+1):Nat):Int):Rat)*(a::r).getD (i+1) 0) r.length=z2q (fun j=>(((ch j t:Nat):Int):Rat)*r.getD j 0+(((ch j (t+1):Nat):Int):Rat)*r.getD j 0) r.length:=z1s fun i _=>by
    have:ch (i+1) (t+1)=ch i t+ch i (t+1):=rfl
    rw[this]
    show _*r.getD i 0=_
    push_cast;grind
   rw[e,zbb,z6u 0 (t+1) (by omega)]
   show _=((0:Int):Rat)*a+_
   grind
noncomputable def above (G:List Rat)(k i:Nat):Rat:=z2q (fun j=>(((ch (k+1+j) k:Nat):Int):Rat)*G.getD (k+1+j) 0) i
theorem z93 (G:List Rat){k:Nat}(h:k<G.length):z16 1 1 G k=G.getD k 0+above G k (G.length-1-k):=by
 rw[zk9]
 have e:G.length=k+(1+(G.length-1-k)):=by omega
 conv=>lhs;rw[e]
 rw[z33,z2j fun i hi=>by rw[z6u i k hi];show ((0:Int):Rat)*_=0;grind]
 rw[show 1+(G.length-1-k)=(G.length-1-k)+1 by omega,z34]
 unfold above
 show 0+((((ch k k:Nat):Int):Rat)*G.getD (k+0) 0+_)=_
 rw[z8g]
 have e2:z2q (fun i=>(((ch (k+(i+1)) k:Nat):Int):Rat)*G.getD (k+(i+1)) 0) (G.length-1-k)=z2q (fun j=>(((ch (k+1+j) k:Nat):Int):Rat)*G.getD (k+1+j) 0) (G.length-1-k):=z1s fun i _=>by
  rw[show k+(i+1)=k+1+i by omega]
 rw[e2]
 show 0+(((1:Int):Rat)*G.getD k 0+_)=_
 grind
theorem z5w {E:Int}{c:Nat}{G:List Rat}(h0:E≠0)(h:∀r∈G,Cd E c r){k:Nat}:∀i,k+1+i≤60→Cd E (61+c+i) (above G k i)
 | 0,_=>Cd.zero.mono (by omega)
 | i+1,hi=>by
  have a:=z5w h0 h (k:=k) i (by omega)
  show Cd E (61+c+(i+1)) (above G k i+(((ch (k+1+i) k:Nat):Int):Rat)*G.getD (k+1+i) 0)
  refine Cd.add h0 a ?_
  have m:=(z1k h (k+1+i)).mulx (u:=((ch (k+1+i) k:Nat):Int)) (d:=1) (zhq _ _ (by omega))
  rw[Int.mul_one,zs9]at m
  rw[Rat.mul_comm]
  exact m.mono (show c+61≤61+c+i by omega)
noncomputable def trE:List (Int×Int):=[(1,1),(-1,2),(0,1),(1,4),(0,1),(-1,2),(0,1),(17,8),(0,1),(-31,2),(0,1),(691,4),(0,1),(-5461,2),(0,1),(929569,16),(0,1),(-3202291,2),(0,1),(221930581,4),(0,1)]
noncomputable def zsb:Nat→List Nat
 | 0=>[1]
 | n+1=>List.zipWith (·+·) (0::zsb n) (zsb n++[0])
noncomputable def tpC (n:Nat):List Rat:=List.zipWith (fun (b:Nat) (e:Int×Int)=>((b:Int):Rat)*Rat.divInt e.1 e.2) (zsb n) (trE.take (n+1)).reverse
noncomputable def sgR (t:Nat):Rat:=if t%2=0 then 1 else -1
noncomputable def trB (n:Nat):Bool:=
 decide (z6w (mvQ (tpC n)) (tpC n)=List.replicate n 0++[2])&&decide ((tpC n).length=n+1)&&decide ((tpC n).getD n 0=1)
 && (tpC n).all (fun x=>decide ((2097152:Int)%(x.den:Int)=0)&&Nat.blt (x.num*(2097152/(x.den:Int))).natAbs (2^90))
 && decide (n=0∨(List.range n).map (fun k=>((((k+1:Nat)):Int):Rat)*(tpC n).getD (k+1) 0)=(tpC (n-1)).map fun x=>((n:Int):Rat)*x)
 && decide ((hor (Rat.divInt 1 2) (tpC n)*((((2^n:Nat)):Int):Rat)).den=1)
 && (List.range (n+1)).all (fun t=>decide ((mvQ (tpC n)).getD t 0*sgR t=sgR n*(tpC n).getD t 0))
set_option maxRecDepth 1000000 in
theorem zml:((List.range 21).all trB)=true:=by decide +kernel
theorem zb6 {n : Nat}(h : n ≤ 20) : (∀ t, z16 1 1 (tpC n) t+(tpC n).getD t 0 = (List.replicate n (0 : Rat)++[2]).getD t 0) ∧ (tpC n).length = n+1 ∧ (tpC n).getD n 0 = 1 ∧ (∀ r ∈ tpC n, Cd 2097152 90 r)
  ∧(n=0∨(List.range n).map (fun k=>((((k+1:Nat)):Int):Rat)*(tpC n).getD (k+1) 0)=(tpC (n-1)).map fun x=>((n:Int):Rat)*x)
  ∧(hor (Rat.divInt 1 2) (tpC n)*((((2^n:Nat)):Int):Rat)).den=1∧∀t,z16 1 1 (tpC n) t*sgR t=sgR n*(tpC n).getD t 0:=by
 have c:=List.all_eq_true.mp zml n (List.mem_range.mpr (by omega))
 unfold trB at c
 simp only[Bool.and_eq_true,decide_eq_true_eq]at c
 obtain ⟨⟨⟨⟨⟨⟨c1,c2⟩,c3⟩,c4⟩,c5⟩,c6⟩,c7⟩:=c
 refine ⟨fun t=>?_,c2,c3,fun r hr=>?_,c5,c6,fun t=>?_⟩
 ·rw[←z6g,←z2f,c1]
 ·have b:=List.all_eq_true.mp c4 r hr
  rw[Bool.and_eq_true]at b
  have b1:=of_decide_eq_true b.1
  have b2:=Nat.blt_eq.mp b.2
  refine ⟨r.num*(2097152/(r.den:Int)),?_,b2⟩
  have hd:(r.den:Int)≠0:=by have:=den_pos r;omega
  have e:(2097152:Int)=(r.den:Int)*(2097152/(r.den:Int)):=by
   have:=Int.mul_ediv_add_emod 2097152 (r.den:Int)
   omega
  have hq:(2097152:Int)/(r.den:Int)≠0:=fun z=>by rw[z,Int.mul_zero]at e;exact absurd e (by decide)
  generalize (2097152:Int)/(r.den:Int)=g at e hq
  rw[e,Rat.divInt_mul_right hq,z2l]
 ·by_cases ht:t<n+1
  ·have b:=List.all_eq_true.mp c7 t (List.mem_range.mpr ht)
   have b:=of_decide_eq_true b
   rw[z6g]at b
   exact b
  ·rw[z0e (by omega),z62 1 1 _ _ (by omega)];grind
section
section
variable {X:Cx}
theorem zol:OpR X (compareOp .Is) (fun x y H Q=>∃b,y=.bl b∧((∃c,x=.bl c∧Q (.bl (decide (c=b))) H)∨(∃a,x=.ref a∧Q (.bl false) H))):=by
 intro pins s σ H x y v u Q I rx ry h
 obtain ⟨b,rfl,h⟩:=h
 cases ry
 rcases h with ⟨c,rfl,q⟩|⟨a,rfl,q⟩
 ·cases rx
  refine wpAny_is_plain rfl (z0y I q ?_)
  cases b<;>cases c<;>rfl
 ·cases rx
  exact wpAny_is_plain rfl (z0y I q rfl)
theorem zeh:OpR X (compareOp .IsNot) (fun x y H Q=>∃b,y=.bl b∧((∃c,x=.bl c∧Q (.bl (!decide (c=b))) H)∨(∃a,x=.ref a∧Q (.bl true) H))):=by
 intro pins s σ H x y v u Q I rx ry h
 obtain ⟨b,rfl,h⟩:=h
 cases ry
 rcases h with ⟨c,rfl,q⟩|⟨a,rfl,q⟩
 ·cases rx
  refine wpAny_isNot_plain rfl (z0y I q ?_)
  cases b<;>cases c<;>rfl
 ·cases rx
  exact wpAny_isNot_plain rfl (z0y I q rfl)
end
end
noncomputable def zu6 (n p a:Nat):Nat:=(List.range p).foldl (fun s j=>s+j^(n-1)%p*(j*a/p)) 0
noncomputable def zmb (n p:Nat):Nat:=((List.range p).find? fun a=>decide (2≤a)&&(a^n%p != 1)).getD 2
noncomputable def frC (n p:Nat):Nat:=zmb n p^(n-1)%p*(zu6 n p (zmb n p)%p)%p*(((zmb n p^n%p)+p-1)%p)^(p-2)%p
noncomputable def rnN (n:Nat):Rat:=(zdw 40).2.getD n 0
noncomputable def quo (n:Nat):Rat:=Rat.divInt (rnN n).num ((rnN n).den*(n:Int))
noncomputable def frB (n:Nat)(u w:Int)(p:Nat):Bool:=n%(p-1) == 0 || (decide (2≤zmb n p)&&decide (zmb n p<p)&&(zmb n p^n%p != 1)&&decide (((frC n p:Int)*w-u)%(p:Int)=0)&&decide (w%(p:Int)≠0))
noncomputable def frN (k:Nat):Bool:=let q:=quo (2*k+2);(pr46.drop 2).all fun p=>frB (2*k+2) q.num q.den p.toNat
noncomputable def fT (n p a:Int):Int:=a^(n-1).toNat%p*zu5 n p a%p
section
section
variable {X:Cx}
end
theorem zb7:∀{ds:List PyData},(∀d∈ds,tpd d=true)→z76 ds=true
 | [],_=>by simp[z76]
 | d::ds,h=>by
  simp only[z76,Bool.and_eq_true]
  exact ⟨h d List.mem_cons_self,zb7 fun x hx=>h x (List.mem_cons_of_mem _ hx)⟩
end
section
section
variable {X:Cx}
end
end
section
section
variable {X:Cx}
end
end
noncomputable def zti (rs:List Rat)(m:Int):Nat→List Rat
 | 0=>[]
 | j+1=>z1n (z5f (zti rs m j) (mvL (Rat.divInt (j:Int) m) rs))
theorem zb1:∀a b:List Rat,(z6w a b).length=max a.length b.length
 | [],b=>by show b.length=max 0 b.length;omega
 | x::a,[]=>by show (a.length+1)=max (a.length+1) 0;omega
 | x::a,z::b=>by
  show (z6w a b).length+1=max (a.length+1) (b.length+1)
  rw[zb1 a b];omega
noncomputable def sgL (rs:List Rat):Nat→List Rat
 | 0=>[]
 | i+1=>z6w (sgL rs i) ((tpC i).map (·*(rs.getD i 0*Rat.divInt 1 2)))
theorem z2r (rs:List Rat):∀i,i≤21→(sgL rs i).length=i
 | 0,_=>rfl
 | i+1,h=>by
  show (z6w (sgL rs i) _).length=_
  rw[zb1,z2r rs i (by omega),List.length_map,(zb6 (n:=i) (by omega)).2.1];omega
theorem zgk (i t:Nat):(List.replicate i (0:Rat)++[2]).getD t 0=if t=i then 2 else 0:=by
 rw[List.getD_eq_getElem?_getD]
 by_cases h:t<i
 ·rw[List.getElem?_append_left (by rw[List.length_replicate];exact h),List.getElem?_replicate,if_pos h,if_neg (by omega)];rfl
 ·rw[List.getElem?_append_right (by rw[List.length_replicate];omega),List.length_replicate]
  by_cases e:t=i
  ·subst e;rw[Nat.sub_self,if_pos rfl];rfl
  ·rw[if_neg e,List.getElem?_eq_none (by show 1≤t-i;omega)];rfl
theorem zbg (rs:List Rat)(t:Nat):∀i,i≤21→z16 1 1 (sgL rs i) t+(sgL rs i).getD t 0=if t<i then rs.getD t 0 else 0
 | 0,_=>by
  rw[if_neg (by omega)]
  show z16 1 1 [] t+([]:List Rat).getD t 0=0
  rw[z0e (Nat.zero_le _)]
  show (0:Rat)+0=0
  grind
 | i+1,h=>by
  have ih:=zbg rs t i (by omega)
  have c:=(zb6 (n:=i) (by omega)).1 t
  rw[zgk]at c
  show z16 1 1 (z6w (sgL rs i) _) t+(z6w (sgL rs i) _).getD t 0=_
  rw[z5i,z5k,z2f,z2z]
  have hh:Rat.divInt 1 2*2=1:=by decide +kernel
  by_cases e:t=i
  ·subst e
   rw[if_pos rfl]at c
   rw[if_neg (by omega)]at ih
   rw[if_pos (by omega)]
   generalize z16 1 1 (tpC t) t=A at c
   generalize (tpC t).getD t 0=B at c
   generalize z16 1 1 (sgL rs t) t=U at ih ⊢
   generalize (sgL rs t).getD t 0=W at ih ⊢
   generalize Rat.divInt 1 2=q at hh ⊢
   grind
  ·rw[if_neg e]at c
   have e2:(if t<i+1 then rs.getD t 0 else 0)=if t<i then rs.getD t 0 else 0:=by
    by_cases l:t<i
    ·rw[if_pos l,if_pos (by omega)]
    ·rw[if_neg l,if_neg (by omega)]
   rw[e2,←ih]
   generalize z16 1 1 (tpC i) t=A at c
   generalize (tpC i).getD t 0=B at c
   grind
theorem zdt {rs:List Rat}(h:rs.length≤21)(t:Nat):z16 1 1 (sgL rs rs.length) t+(sgL rs rs.length).getD t 0=rs.getD t 0:=by
 rw[zbg rs t _ h]
 by_cases l:t<rs.length
 ·rw[if_pos l]
 ·rw[if_neg l,z0e (by omega)]
theorem zie {D:Int}{c:Nat}{rs:List Rat}(h0:D≠0)(h:∀r∈rs,Cd D c r):∀i,i≤21→∀r∈sgL rs i,Cd (2097152*(D*2)) (90+c+i) r
 | 0,_,r,hr=>by cases hr
 | i+1,hi,r,hr=>by
  obtain ⟨t,_,rfl⟩:=z2o hr
  show Cd _ _ ((z6w (sgL rs i) _).getD t 0)
  rw[z2f,z2z]
  have hE:2097152*(D*2)≠0:=Int.mul_ne_zero (by decide) (Int.mul_ne_zero h0 (by decide))
  have a1:=z1k (zie h0 h i (by omega)) t
  have a2:Cd (2097152*(D*2)) (90+c) ((tpC i).getD t 0*(rs.getD i 0*Rat.divInt 1 2)):=by
   obtain ⟨u,eu,bu⟩:=z1k h i
   have e:rs.getD i 0*Rat.divInt 1 2=Rat.divInt u (D*2):=by
    rw[eu,Rat.divInt_mul_divInt,Int.mul_one]
   rw[e]
   exact (z1k (zb6 (n:=i) (by omega)).2.2.2.1 t).mulx bu
  exact Cd.add hE a1 (a2.mono (show 90+c≤90+c+i by omega))
theorem zk7 (rs:List Rat){i:Nat}(h:i≤20):(sgL rs (i+1)).getD i 0=rs.getD i 0*Rat.divInt 1 2:=by
 show (z6w (sgL rs i) _).getD i 0=_
 rw[z2f,z2z,z0e (by rw[z2r rs i (by omega)];exact Nat.le_refl _),(zb6 (n:=i) h).2.2.1]
 grind
theorem zbh {rs:List Rat}(hl:rs.length≤21)(h:z0x rs=true):z0x (sgL rs rs.length)=true:=by
 cases e:rs.length with
 | zero=>rfl
 | succ n=>
  unfold z0x at h ⊢
  rw[z2r rs (n+1) (by omega)]
  rw[e]at h
  rw[Nat.add_sub_cancel]at h ⊢
  rw[zk7 rs (by omega)]
  have hne:¬rs=[]:=fun z=>by rw[z]at e;cases e
  rw[decide_eq_false hne,Bool.false_or]at h
  have hz:¬rs.getD n 0=0:=fun z=>by rw[decide_eq_true z]at h;cases h
  have hz2:¬rs.getD n 0*Rat.divInt 1 2=0:=fun z=>hz (by
   have hh:Rat.divInt 1 2*2=1:=by decide +kernel
   generalize Rat.divInt 1 2=q at hh z
   grind)
  rw[decide_eq_false hz2]
  simp
theorem SF.tup {K:W.Frag}{t:V}{H H':Hp}{n:Nat}{a:Addr}{xs:List V}(S:SF t H H')(T:Fd H t n)(h:SqT K H a xs):SqT K H' a xs:=by
 have kp:=S.keep T
 rcases h with h|h
 ·exact .inl (kp a xs h)
 ·exact .inr h
theorem Sw.shM {x:Rat}{m:Nat}(h:Bs m x)(h0:0<m)(hm:m≤14000):Shw (L2.sh x):=by
 have:=Sw.tup (n:=0) (v:=m+1) (ds:=[.int x.num,.int (x.den:Int)]) (fun d hd=>by
  simp only[List.mem_cons,List.not_mem_nil,or_false]at hd
  rcases hd with rfl|rfl
  ·exact Sw.intB h.n h0 hm
  ·exact Sw.intB h.d h0 hm)
 exact this.shw (hv:=by show 2*(m+1+2)+4≤16777216;omega)
theorem zb2 {D:Int}{c b:Nat}{rs:List Rat}{z:Int}(h0:D≠0)(bD:Bt c D)(h:∀r∈rs,Cd D c r)(hl:rs.length≤22)(bz:Bt b z)(i:Nat):Bs (c+22*(b+1)) (hor (z:Rat) (rs.drop i)):=by
 have l1:(rs.drop i).length≤22:=by rw[List.length_drop];omega
 have:=Nat.mul_le_mul_right (b+1) l1
 exact (zc9 h0 bz (l:=rs.drop i) fun r hr=>h r (List.mem_of_mem_drop hr)).bs h0 (bD.mono (by omega)) (by omega)
section
theorem zbf {rs:List Rat}(h:rs.length≤21)(y:Rat):hor (y+1) (sgL rs rs.length)+hor y (sgL rs rs.length)=hor y rs:=by
 rw[←z52 y 1,←z5r]
 refine z31 y fun i=>?_
 rw[z2f,z4a]
 exact zdt h i
noncomputable def sdV (G:List Rat)(z:Int):Rat:=if z%2=0 then hor 0 G-hor (z:Rat) G else hor 0 G+hor (z:Rat) G
theorem zgj (G:List Rat):sdV G 0=0:=by
 unfold sdV
 rw[if_pos (by decide),show ((0:Int):Rat)=0 from rfl];grind
theorem zbj {rs:List Rat}(h:rs.length≤21)(z:Int):sdV (sgL rs rs.length) (z+1)=sdV (sgL rs rs.length) z+((1-2*(z%2):Int):Rat)*hor (z:Rat) rs:=by
 have v:=zbf h (z:Rat)
 have e:((z+1:Int):Rat)=(z:Rat)+1:=by push_cast;rfl
 unfold sdV
 rw[e]
 by_cases hz:z%2=0
 ·rw[if_neg (by omega),if_pos hz,hz,show ((1-2*0:Int):Rat)=1 by decide,←v];grind
 ·have hz1:z%2=1:=by omega
  rw[if_pos (by omega),if_neg hz,hz1,show ((1-2*1:Int):Rat)=-1 by decide,←v];grind
section
variable {D:Int}{c b:Nat}{rs:List Rat}{z:Int}
theorem z36 (h0:D≠0):2097152*(D*2)≠0:=Int.mul_ne_zero (by decide) (Int.mul_ne_zero h0 (by decide))
theorem z4i (bD:Bt c D):Bt (c+111) (2097152*(D*2)):=((show Bt 22 (2097152:Int) by decide).mul (bD.mul (show Bt 2 (2:Int) by decide))).mono (by omega)
theorem z7v (h0:D≠0)(h:∀r∈rs,Cd D c r)(hl:rs.length≤21):∀r∈sgL rs rs.length,Cd (2097152*(D*2)) (c+111) r:=fun r hr=>(zie h0 h _ hl r hr).mono (by omega)
theorem zr0 (h0:D≠0)(bD:Bt c D)(h:∀r∈rs,Cd D c r)(hl:rs.length≤21):∀r∈sgL rs rs.length,Bs (c+111) r:=fun r hr=>(z7v h0 h hl r hr).bs (z36 h0) (z4i bD) (Nat.le_refl _)
theorem zib (h0:D≠0)(bD:Bt c D)(h:∀r∈rs,Cd D c r)(hl:rs.length≤21)(bz:Bt b z)(i:Nat):Bs (c+111+22*(b+1)) (hor (z:Rat) ((sgL rs rs.length).drop i)):=
 zb2 (z36 h0) (z4i bD) (z7v h0 h hl) (by rw[z2r rs _ hl];omega) bz i
theorem zr1 (h0:D≠0)(bD:Bt c D)(h:∀r∈rs,Cd D c r)(hl:rs.length≤21)(bz:Bt b z):Bs (c+111+22*(b+1)+1) (sdV (sgL rs rs.length) z):=by
 have l1:(sgL rs rs.length).length≤22:=by rw[z2r rs _ hl];omega
 have hc:∀{y:Int},Bt b y→Cd (2097152*(D*2)) (c+111+22*(b+1)) (hor (y:Rat) (sgL rs rs.length)):=fun hy=>by
  have:=Nat.mul_le_mul_right (b+1) l1
  exact (zc9 (z36 h0) hy (z7v h0 h hl)).mono (by omega)
 have h1:=hc bz
 have h2:Cd (2097152*(D*2)) (c+111+22*(b+1)) (hor 0 (sgL rs rs.length)):=by
  have:Bt b 0:=by show (0:Int).natAbs<2^b;exact Nat.pow_pos (by decide)
  exact hc this
 have bE:=(z4i bD).mono (show c+111≤c+111+22*(b+1)+1 by omega)
 unfold sdV
 split
 ·exact (Cd.sub (z36 h0) h2 h1).bs (z36 h0) bE (Nat.le_refl _)
 ·exact (Cd.add (z36 h0) h2 h1).bs (z36 h0) bE (Nat.le_refl _)
end
end
section
theorem Cd.wide {D e:Int}{m b:Nat}{q:Rat}(h:Cd D m q)(e0:e≠0)(be:Bt b e):Cd (D*e) (m+b) q:=by
 obtain ⟨t,et,bt⟩:=h
 exact ⟨t*e,by rw[et,Rat.divInt_mul_right e0],bt.mul be⟩
section
variable {x y:Rat}(bx:Bs 5 x)(by5:Bs 5 y)
include bx by5
end
end
noncomputable def rwD (ns:List Int):PyData:=.tuple (ns.map PyData.int)
theorem Dv.rw {K:W.Frag}{H:Hp}{v:V}{ns:List Int}(h:Dv K H v (rwD ns)):∃a,v=.ref a∧SqT K H a (ns.map V.int):=Dv.ints h
structure TbOk (c:Nat)(nss:List (List Int)):Prop where
 rows:nss.length≤42+c
 row:∀r∈nss,r.length≤42+c∧∀x∈r,Bt (300+10*c) x
theorem TbOk.up {c:Nat}{nss:List (List Int)}(h:TbOk c nss):TbOk (c+1) nss:=⟨by have:=h.rows;omega,fun r hr=>⟨by have:=(h.row r hr).1;omega,fun x hx=>((h.row r hr).2 x hx).mono (by omega)⟩⟩
structure PlR (d:PyData):Prop where
 sw:Shw d
 tp:∀ds,d=.tuple ds→ds.length≤60∧∀e∈ds,∀a b,e=.tuple [.int a,.int b]→Bt 8999 b
theorem PlR.no {d:PyData}(h:Shw d)(ht:z2x d=false):PlR d:=⟨h,fun ds e=>by rw[e]at ht;cases ht⟩
section
noncomputable def hid (D:Addr)(A:Hp):Hp:=fun b=>if b=D then none else A b
theorem z1m {D b:Addr}{A:Hp}(h:b≠D):hid D A b=A b:=by unfold hid;rw[if_neg h]
theorem z21 {D:Addr}{A:Hp}:hid D A D=none:=by unfold hid;rw[if_pos rfl]
theorem z1h {D b:Addr}{A:Hp}{o:HO}(h:hid D A b=some o):b≠D∧A b=some o:=by
 by_cases e:b=D
 ·subst e;rw[z21]at h;cases h
 ·rw[z1m e]at h;exact ⟨e,h⟩
theorem z2h {D:Addr}{A:Hp}(h:A D=none):hid D A=A:=by
 funext b
 by_cases e:b=D
 ·subst e;rw[z21,h]
 ·exact z1m e
theorem z3u {D:Addr}{A:Hp}{o:HO}:hid D (upd A D o)=hid D A:=by
 funext b
 by_cases e:b=D
 ·subst e;rw[z21,z21]
 ·rw[z1m e,z1m e,z0f e]
theorem z7h {D p:Addr}{A:Hp}{o:HO}(h:p≠D):hid D (upd A p o)=upd (hid D A) p o:=by
 funext b
 by_cases e:b=D
 ·subst e;rw[z21,z0f (Ne.symm h),z21]
 ·rw[z1m e]
  by_cases e2:b=p
  ·subst e2;rw[z06,z06]
  ·rw[z0f e2,z0f e2,z1m e]
theorem z5t {D:Addr}{A:Hp}:Same (hid D A) A:=fun b o h=>(z1h h).2
theorem Same.hid {D:Addr}{A B:Hp}(s:Same A B):Same (hid D A) (hid D B):=fun b o h=>by
 obtain ⟨e,h⟩:=z1h h
 rw[z1m e];exact s b o h
open Classical in
noncomputable def hidS (S:Addr→Prop)(A:Hp):Hp:=fun b=>if S b then none else A b
section
variable {S S':Addr→Prop}{A B:Hp}{b D:Addr}{o:HO}
theorem z0q (h:¬S b):hidS S A b=A b:=by unfold hidS;rw[if_neg h]
theorem z1t (h:S b):hidS S A b=none:=by unfold hidS;rw[if_pos h]
theorem z0z (h:hidS S A b=some o):¬S b∧A b=some o:=by
 by_cases e:S b
 ·rw[z1t e]at h;cases h
 ·rw[z0q e]at h;exact ⟨e,h⟩
theorem zca (h:S D):hidS S (upd A D o)=hidS S A:=by
 funext b
 by_cases e:S b
 ·rw[z1t e,z1t e]
 ·rw[z0q e,z0q e,z0f (show b≠D from fun z=>e (by rw[z];exact h))]
theorem z6o (h:¬S D):hidS S (upd A D o)=upd (hidS S A) D o:=by
 funext b
 by_cases e:S b
 ·rw[z1t e,z0f (show b≠D from fun z=>h (by rw[←z];exact e)),z1t e]
 ·rw[z0q e]
  by_cases e2:b=D
  ·subst e2;rw[z06,z06]
  ·rw[z0f e2,z0f e2,z0q e]
theorem z53:hidS S (hidS S' A)=hidS (fun b=>S b∨S' b) A:=by
 funext b
 by_cases e:S b
 ·rw[z1t e,z1t (Or.inl e)]
 ·by_cases e':S' b
  ·rw[z0q e,z1t e',z1t (Or.inr e')]
  ·rw[z0q e,z0q e',z0q (fun z=>z.elim e e')]
theorem zf3:hidS S (hidS S A)=hidS S A:=by
 rw[z53];congr 1;funext b;exact propext ⟨fun z=>z.elim id id,.inl⟩
theorem z5u:hidS (fun b=>b=D) A=hid D A:=by
 funext b
 by_cases e:b=D
 ·rw[z1t (S:=fun b=>b=D) e,e,z21]
 ·rw[z0q (S:=fun b=>b=D) e,z1m e]
theorem zcb:hidS S (hid D A)=hid D (hidS S A):=by
 rw[←z5u,z53,←z5u,z53];congr 1;funext b;exact propext ⟨fun z=>z.symm,fun z=>z.symm⟩
theorem z28:Same (hidS S A) A:=fun b o h=>(z0z h).2
theorem Same.hidS (s:Same A B):Same (hidS S A) (hidS S B):=fun b o h=>by
 obtain ⟨e,h⟩:=z0z h
 rw[z0q e];exact s b o h
theorem z89 (h:∀b,S b→S' b):Same (hidS S' A) (hidS S A):=fun b o e=>by
 obtain ⟨n,e⟩:=z0z e
 rw[z0q (fun z=>n (h b z))];exact e
theorem z6p (h:∀b,S b→A b=none):hidS S A=A:=by
 funext b
 by_cases e:S b
 ·rw[z1t e,h b e]
 ·rw[z0q e]
end
structure TM (K:W.Frag) where
 val:V
 ok:Hp→Nat→Prop
 ke:Hp→Hp→Prop
 st:Hp→Hp→Prop
 sk:∀{A B},st A B→ke A B
 refw:∀H,ke H H
 transw:∀{A B C},ke A B→ke B C→ke A C
 refl:∀H,st H H
 trans:∀{A B C},st A B→st B C→st A C
 same:∀{H H'},Same H H'→st H H'
 oks:∀{H H' n},ok H n→Same H H'→ok H' n
 newD:∀{H n D H5 o H6},ok H n→H D=none→ke H H5→H5 D=some o→ke H5 H6→H6 D=some o
 updK:∀{H n D H5}(o:HO),ok H n→H D=none→st H H5→st H (upd H5 D o)
 updO:∀{H n D H5 m}(o:HO),ok H n→H D=none→st H H5→ok H5 m→ok (upd H5 D o) m
 kp:∀{H H' n},ok H n→ke H H'→Keep H H'
 hidZ:∀{H n S A B},ok H n→(∀b,S b→H b=none)→ke H A→ke A B→ke (hidS S A) (hidS S B)
 dom:∀{A B n b},ok A n→st A B→B b=none→A b=none
 tk:Nat
 tp1:tk=1→∀{H n},ok H n→Tp H val n
 rs1:tk=1→∀{H H' n n'},ok H n→SB val H H'→Tp H' val n'→st H H'∧ok H' n'
 tp2:tk=2→∀{H n},ok H n→Fd H val n
 rs2:tk=2→∀{H H' n n'},ok H n→SF val H H'→Fd H' val n'→st H H'∧ok H' n'
theorem TM.hidK {K:W.Frag}(M:TM K){H:Hp}{n:Nat}{D:Addr}{A B:Hp}(o:M.ok H n)(h:H D=none)(k:M.ke H A)(k':M.ke A B):M.ke (hid D A) (hid D B):=by
 have z:=M.hidZ (S:=fun b=>b=D) o (fun b e=>e▸h) k k'
 rw[z5u,z5u]at z;exact z
structure ExOk (K:W.Frag)(x:Str)(ns:List Str):Prop where
 c:∀C,ClsK K x C→(∃B,XCls K C B)∧∀f∈ns,PySem.W.findIn K (.ref C) f=some none
noncomputable def mkF:List Str→List V→List (Str×V)
 | [f],[v]=>[(f,v)]
 | [f,g],[v,u]=>z7d g u [(f,v)]
 | _,_=>[]
inductive Tk where
 | int|bool|tuple|list|dict|str
noncomputable def Tk.nm:Tk→String
 | .int=>"int" | .bool=>"bool" | .tuple=>"tuple" | .list=>"list" | .dict=>"dict" | .str=>"str"
inductive Zw where
 | d (x:PyData)
 | t (k:Nat)
 | ty (c:Tk)
 | o (ds:List PyData)
 | x (c:Str) (ns:List Str) (ds:List PyData)
noncomputable abbrev Ze:=List (Option Zw)
noncomputable def lk:Ze→Nat→Option Zw
 | [],_=>none
 | a::_,0=>a
 | _::l,i+1=>lk l i
noncomputable def zs:Ze→Nat→Zw→Ze
 | [],_,_=>[]
 | _::l,0,w=>some w::l
 | a::l,i+1,w=>a::zs l i w
noncomputable abbrev ZK:=Zw→Nat→Prop
noncomputable abbrev ZE:=Ze→Nat→ZK→Prop
noncomputable abbrev ZT:=Ze→Nat→(Bool→Nat→Prop)→Prop
noncomputable abbrev ZA:=Ze→Nat→(List Zw→Nat→Prop)→Prop
noncomputable abbrev ZG:=PyData→Ze→Nat→(Ze→Nat→Prop)→Prop
noncomputable abbrev ZGs:=List PyData→Ze→Nat→(Ze→Nat→Prop)→Prop
noncomputable abbrev ZI:=Ze→Nat→(List PyData→Nat→Prop)→Prop
noncomputable abbrev ZO:=Ze→Nat→(Option Int→Nat→Prop)→Prop
structure ZEnds where
 nx:Ze→Nat→Prop
 rt:ZK
 bk:Ze→Nat→Prop:=fun _ _=>False
 ct:Ze→Nat→Prop:=fun _ _=>False
 xr:Str→List Str→List PyData→Nat→Prop:=fun _ _ _ _=>False
noncomputable abbrev ZS:=ZEnds→Ze→Nat→Prop
section
variable {K:W.Frag}(M:TM K)
mutual
inductive Dt (H:Hp):V→PyData→Prop
 | non:Dt H .non .none
 | bl (b:Bool):Dt H (.bl b) (.bool b)
 | int (i:Int):Dt H (.int i) (.int i)
 | str (x:Str):Dt H (.str x) (.str x)
 | lst {a:Addr} {xs:List V} {ds:List PyData}:(∀H',M.ke H H'→H' a=some (.lst xs))→Dts H xs ds→Dt H (.ref a) (.list ds)
 | tup {a:Addr} {xs:List V} {ds:List PyData}:(∀H',M.ke H H'→SqT K H' a xs)→Dts H xs ds→Dt H (.ref a) (.tuple ds)
 | dct {a:Addr} {kvs:List (Key×V)} {kds:List (PyData×PyData)}:(∀H',M.ke H H'→H' a=some (.dK kvs))→Dts H (kvs.map fun p=>kV p.1) (kds.map (·.1))→Dts H (kvs.map (·.2)) (kds.map (·.2))→Dt H (.ref a) (.dict kds)
inductive Dts (H:Hp):List V→List PyData→Prop
 | nil:Dts H [] []
 | cons {x:V} {xs:List V} {d:PyData} {ds:List PyData}:Dt H x d→Dts H xs ds→Dts H (x::xs) (d::ds)
end
noncomputable def RW (H:Hp)(v:V):Zw→Prop
 | .d x=>Dt M H v x
 | .t k=>v=M.val∧M.tk=k
 | .ty c=>v=.ty c.nm
 | .o _=>False
 | .x c ns ds=>∃C ea dx vs,v=.ref ea∧ClsK K c C∧ExOk K c ns∧(∀H',M.ke H H'→H' ea=some (XO false ea C (some dx))∧H' dx=some (XD dx (mkF ns vs)))∧Dts M H vs ds
noncomputable def RS (H:Hp)(o:Option V):Option Zw→Prop
 | none=>True
 | some w=>∃v,o=some v∧RW M H v w
inductive RE (H:Hp):St→Ze→Prop
 | nil:RE H [] []
 | cons {o:Option V} {w:Option Zw} {σ:St} {δ:Ze}:RS M H o w→RE H σ δ→RE H (o::σ) (w::δ)
inductive RWs (H:Hp):List V→List Zw→Prop
 | nil:RWs H [] []
 | cons {v:V} {w:Zw} {vs:List V} {ws:List Zw}:RW M H v w→RWs H vs ws→RWs H (v::vs) (w::ws)
noncomputable def Ok1 (H:Hp)(Qd:ZK)(Q:VK):Prop:=∀v H' w n',M.st H H'→M.ok H' n'→RW M H' v w→Qd w n'→Q v H'
noncomputable def OkX (H:Hp)(Xd:Str→List Str→List PyData→Nat→Prop)(E:XK):Prop:=∀x ns vs ds H' n',M.st H H'→M.ok H' n'→Dts M H' vs ds→Xd x ns ds n'→RaisesW K x (mkF ns vs) H' E
structure OkD (EE:XS)(H:Hp)(Dd:ZEnds)(D:Ends):Prop where
 nx:∀σ H' δ n',M.st H H'→M.ok H' n'→RE M H' σ δ→Dd.nx δ n'→D.nx σ H'
 rt:Ok1 M H Dd.rt D.rt
 bk:∀σ H' δ n',M.st H H'→M.ok H' n'→RE M H' σ δ→Dd.bk δ n'→D.bk σ H'
 ct:∀σ H' δ n',M.st H H'→M.ok H' n'→RE M H' σ δ→Dd.ct δ n'→D.ct σ H'
 xr:∀σ,OkX M H Dd.xr (EE σ)
end
section
variable {K:W.Frag}{M:TM K}{H H' H1:Hp}{n:Nat}
mutual
theorem Dt.dv:∀{v:V}{d:PyData},Dt M H v d→Dv K H v d
 | _,_,.non=>.non
 | _,_,.bl b=>.bl b
 | _,_,.int i=>.int i
 | _,_,.str x=>.str x
 | _,_,.lst h t=>.lst (SqL.of (h _ (M.refw _))) (Dts.dv t)
 | _,_,.tup h t=>.tup (h _ (M.refw _)) (Dts.dv t)
 | _,_,.dct h k t=>.dct (h _ (M.refw _)) (Dts.dv k) (Dts.dv t)
theorem Dts.dv:∀{vs:List V}{ds:List PyData},Dts M H vs ds→DvAll K H vs ds
 | _,_,.nil=>.nil
 | _,_,.cons h t=>.cons (Dt.dv h) (Dts.dv t)
end
mutual
theorem Dt.ke (e:M.st H H'):∀{v:V}{d:PyData},Dt M H v d→Dt M H' v d
 | _,_,.non=>.non
 | _,_,.bl b=>.bl b
 | _,_,.int i=>.int i
 | _,_,.str x=>.str x
 | _,_,.lst h t=>.lst (fun _ e'=>h _ (M.transw (M.sk e) e')) (Dts.ke e t)
 | _,_,.tup h t=>.tup (fun _ e'=>h _ (M.transw (M.sk e) e')) (Dts.ke e t)
 | _,_,.dct h k t=>.dct (fun _ e'=>h _ (M.transw (M.sk e) e')) (Dts.ke e k) (Dts.ke e t)
theorem Dts.ke (e:M.st H H'):∀{vs:List V}{ds:List PyData},Dts M H vs ds→Dts M H' vs ds
 | _,_,.nil=>.nil
 | _,_,.cons h t=>.cons (Dt.ke e h) (Dts.ke e t)
end
mutual
theorem Dt.kw (e:M.ke H H'):∀{v:V}{d:PyData},Dt M H v d→Dt M H' v d
 | _,_,.non=>.non
 | _,_,.bl b=>.bl b
 | _,_,.int i=>.int i
 | _,_,.str x=>.str x
 | _,_,.lst h t=>.lst (fun _ e'=>h _ (M.transw e e')) (Dts.kw e t)
 | _,_,.tup h t=>.tup (fun _ e'=>h _ (M.transw e e')) (Dts.kw e t)
 | _,_,.dct h k t=>.dct (fun _ e'=>h _ (M.transw e e')) (Dts.kw e k) (Dts.kw e t)
theorem Dts.kw (e:M.ke H H'):∀{vs:List V}{ds:List PyData},Dts M H vs ds→Dts M H' vs ds
 | _,_,.nil=>.nil
 | _,_,.cons h t=>.cons (Dt.kw e h) (Dts.kw e t)
end
theorem SqT.kpM {a:Addr}{xs:List V}(ok:M.ok H n)(h:SqT K H a xs)(e:M.ke H H'):SqT K H' a xs:=h.imp (fun z=>M.kp ok e _ _ z) id
mutual
theorem Dv.dt (ok:M.ok H n):∀{v:V}{d:PyData},Dv K H v d→tpd d=true→Dt M H v d
 | _,_,.non,_=>.non
 | _,_,.bl b,_=>.bl b
 | _,_,.int i,_=>.int i
 | _,_,.str x,_=>.str x
 | _,_,.lst h t,z=>by exact absurd z (by simp[tpd])
 | _,_,.dct h k t,z=>by exact absurd z (by simp[tpd])
 | _,_,.tup (ds:=ds) h t,z=>by
  have z':z76 ds=true:=by simpa [tpd] using z
  exact .tup (fun _ e=>h.kpM ok e) (DvAll.dt ok t z')
theorem DvAll.dt (ok:M.ok H n):∀{vs:List V}{ds:List PyData},DvAll K H vs ds→z76 ds=true→Dts M H vs ds
 | _,_,.nil,_=>.nil
 | _,_,.cons (d:=d) (ds:=ds) h t,z=>by
  have z':(tpd d&&z76 ds)=true:=by simpa only[z76] using z
  obtain ⟨z1,z2⟩:=Bool.and_eq_true_iff.mp z'
  exact .cons (Dv.dt ok h z1) (DvAll.dt ok t z2)
end
theorem Dts.length {vs:List V}{ds:List PyData}(h:Dts M H vs ds):vs.length=ds.length:=h.dv.length
theorem Dts.get:∀{vs:List V}{ds:List PyData}{i:Nat}{d:PyData},Dts M H vs ds→ds[i]?=some d→∃v,vs[i]?=some v∧Dt M H v d
 | _,_,i,_,.nil,h=>by simp at h
 | _,_,0,_,.cons h _,e=>by cases e;exact ⟨_,rfl,h⟩
 | _,_,i+1,_,.cons _ t,e=>by
  obtain ⟨v,q,r⟩:=Dts.get t (i:=i) e
  exact ⟨v,q,r⟩
theorem Dts.append:∀{vs ws:List V}{ds es:List PyData},Dts M H vs ds→Dts M H ws es→Dts M H (vs++ws) (ds++es)
 | _,_,_,_,.nil,t=>t
 | _,_,_,_,.cons h t,u=>.cons h (Dts.append t u)
theorem Dts.take:∀{vs:List V}{ds:List PyData}(n:Nat),Dts M H vs ds→Dts M H (vs.take n) (ds.take n)
 | _,_,0,_=>.nil
 | _,_,_+1,.nil=>.nil
 | _,_,n+1,.cons h t=>.cons h (Dts.take n t)
theorem Dts.drop:∀{vs:List V}{ds:List PyData}(n:Nat),Dts M H vs ds→Dts M H (vs.drop n) (ds.drop n)
 | _,_,0,t=>t
 | _,_,_+1,.nil=>.nil
 | _,_,n+1,.cons _ t=>Dts.drop n t
theorem Dts.rep {vs:List V}{ds:List PyData}(h:Dts M H vs ds):∀k:Nat,Dts M H (List.replicate k vs).flatten (List.replicate k ds).flatten
 | 0=>.nil
 | k+1=>by rw[List.replicate_succ,List.replicate_succ,List.flatten_cons,List.flatten_cons];exact h.append (Dts.rep h k)
theorem Dt.newT {p:Addr}{vs:List V}{ds:List PyData}(ok:M.ok H n)(hp:H p=none)(t:Dts M H vs ds):Dt M (upd H p (.tup vs)) (.ref p) (.tuple ds):=
 .tup (fun _ e=>SqT.of (M.newD ok hp (M.sk (M.same (z0a hp _))) z06 e)) (t.ke (M.same (z0a hp _)))
theorem Dt.newL {p:Addr}{vs:List V}{ds:List PyData}(ok:M.ok H n)(hp:H p=none)(t:Dts M H vs ds):Dt M (upd H p (.lst vs)) (.ref p) (.list ds):=
 .lst (fun _ e=>M.newD ok hp (M.sk (M.same (z0a hp _))) z06 e) (t.ke (M.same (z0a hp _)))
theorem RW.kw {v:V}{w:Zw}(h:RW M H v w)(e:M.ke H H'):RW M H' v w:=by
 cases w with
 | d x=>exact Dt.kw e h
 | t k=>exact h
 | ty c=>exact h
 | o ds=>exact h
 | x c ns ds=>
  obtain ⟨C,ea,dx,vs,rfl,hc,hk,hx,hd⟩:=h
  exact ⟨C,ea,dx,vs,rfl,hc,hk,fun H2 e2=>hx H2 (M.transw e e2),hd.kw e⟩
theorem RW.ke {v:V}{w:Zw}(h:RW M H v w)(e:M.st H H'):RW M H' v w:=h.kw (M.sk e)
theorem RE.kw {σ:St}{δ:Ze}(h:RE M H σ δ)(e:M.ke H H'):RE M H' σ δ:=by
 induction h with
 | nil=>exact .nil
 | @cons o w σ δ h _ ih=>
  refine .cons ?_ ih
  cases w with
  | none=>trivial
  | some w=>obtain ⟨v,e1,r⟩:=h;exact ⟨v,e1,r.kw e⟩
theorem RWs.ke {vs:List V}{ws:List Zw}(h:RWs M H vs ws)(e:M.st H H'):RWs M H' vs ws:=by
 induction h with
 | nil=>exact .nil
 | cons h _ ih=>exact .cons (h.ke e) ih
theorem RE.ke {σ:St}{δ:Ze}(h:RE M H σ δ)(e:M.st H H'):RE M H' σ δ:=by
 induction h with
 | nil=>exact .nil
 | @cons o w σ δ h _ ih=>
  refine .cons ?_ ih
  cases w with
  | none=>trivial
  | some w=>obtain ⟨v,e1,r⟩:=h;exact ⟨v,e1,r.ke e⟩
theorem RE.get {σ:St}{δ:Ze}(h:RE M H σ δ):∀{i:Nat}{w:Zw},lk δ i=some w→∃v,σ[i]?=some (some v)∧RW M H v w:=by
 induction h with
 | nil=>intro i w e;cases e
 | @cons o w0 σ δ h t ih=>
  intro i w e
  cases i with
  | zero=>
   have e':w0=some w:=e
   subst e'
   obtain ⟨v,e1,r⟩:=h
   exact ⟨v,by rw[e1];rfl,r⟩
  | succ i=>
   obtain ⟨v,e1,r⟩:=ih (i:=i) e
   exact ⟨v,by simpa using e1,r⟩
theorem RE.set {σ:St}{δ:Ze}(h:RE M H σ δ){v:V}{w:Zw}(r:RW M H v w):∀i:Nat,RE M H (σ.set i (some v)) (zs δ i w):=by
 induction h with
 | nil=>intro i;exact .nil
 | @cons o w0 σ δ h t ih=>
  intro i
  cases i with
  | zero=>exact .cons ⟨v,rfl,r⟩ t
  | succ i=>exact .cons h (ih i)
theorem Ok1.ke {Qd:ZK}{Q:VK}(h:Ok1 M H Qd Q)(e:M.st H H'):Ok1 M H' Qd Q:=fun v H2 w n' k o r q=>h v H2 w n' (M.trans e k) o r q
theorem OkX.ke {Xd:Str→List Str→List PyData→Nat→Prop}{E:XK}(h:OkX M H Xd E)(e:M.st H H'):OkX M H' Xd E:=fun x ns vs ds H2 n' k o r q=>h x ns vs ds H2 n' (M.trans e k) o r q
theorem OkD.ke {EE:XS}{Dd:ZEnds}{D:Ends}(h:OkD M EE H Dd D)(e:M.st H H'):OkD M EE H' Dd D:=
 ⟨fun σ H2 δ n' k o r q=>h.nx σ H2 δ n' (M.trans e k) o r q,h.rt.ke e,fun σ H2 δ n' k o r q=>h.bk σ H2 δ n' (M.trans e k) o r q,fun σ H2 δ n' k o r q=>h.ct σ H2 δ n' (M.trans e k) o r q,fun σ=>(h.xr σ).ke e⟩
end
section
variable {K:W.Frag}
theorem zgc {D:Addr}{A B:Hp}{t:V}{n m:Nat}(T:Tp (hid D A) t n)(s:SB t A B)(T':Tp B t m):SB t (hid D A) (hid D B)∧Tp (hid D B) t m∧V.ref D≠t:=by
 obtain ⟨a,c,cells,at',left,rfl,h1,h2,h3⟩:=T
 obtain ⟨na,ha⟩:=z1h h1
 obtain ⟨nc,hc⟩:=z1h h2
 have hv:V.ref D≠V.ref a:=fun z=>by cases z;exact na rfl
 obtain ⟨a0,r0,e0,q0⟩:=s.cell c ⟨a,_,rfl,ha⟩
 cases e0
 refine ⟨⟨fun b o h nb=>?_,fun c' h=>?_⟩,?_,hv⟩
 ·obtain ⟨nb',h⟩:=z1h h
  rw[z1m nb'];exact s.old b o h nb
 ·obtain ⟨a1,r1,e1,q1⟩:=h
  cases e1
  obtain ⟨_,q1⟩:=z1h q1
  obtain ⟨a2,r2,e2,q2⟩:=s.cell c' ⟨a,r1,rfl,q1⟩
  cases e2
  exact ⟨a,r2,rfl,by rw[z1m na];exact q2⟩
 ·obtain ⟨a3,c3,cells3,at3,left3,e3,q1,q2,q3⟩:=T'
  cases e3
  rw[q0]at q1
  cases q1
  exact ⟨a,c,cells3,at3,left3,rfl,by rw[z1m na];exact q0,by rw[z1m nc];exact q2,q3⟩
theorem zhl {D:Addr}{A B:Hp}{t:V}{n m:Nat}(T:Fd (hid D A) t n)(s:SF t A B)(T':Fd B t m):SF t (hid D A) (hid D B)∧Fd (hid D B) t m∧V.ref D≠t:=by
 obtain ⟨a,c,cells,at',left,turn,rfl,h1,h2,h3⟩:=T
 obtain ⟨na,ha⟩:=z1h h1
 obtain ⟨nc,hc⟩:=z1h h2
 have hv:V.ref D≠V.ref a:=fun z=>by cases z;exact na rfl
 obtain ⟨a0,r0,e0,q0⟩:=s.cell c ⟨a,_,rfl,ha⟩
 cases e0
 refine ⟨⟨fun b o h nb=>?_,fun c' h=>?_⟩,?_,hv⟩
 ·obtain ⟨nb',h⟩:=z1h h
  rw[z1m nb'];exact s.old b o h nb
 ·obtain ⟨a1,r1,e1,q1⟩:=h
  cases e1
  obtain ⟨_,q1⟩:=z1h q1
  obtain ⟨a2,r2,e2,q2⟩:=s.cell c' ⟨a,r1,rfl,q1⟩
  cases e2
  exact ⟨a,r2,rfl,by rw[z1m na];exact q2⟩
 ·obtain ⟨a3,c3,cells3,at3,left3,turn3,e3,q1,q2,q3⟩:=T'
  cases e3
  rw[q0]at q1
  cases q1
  exact ⟨a,c,cells3,at3,left3,turn3,rfl,by rw[z1m na];exact q0,by rw[z1m nc];exact q2,q3⟩
noncomputable def TM.own (M:TM K)(D:Addr):TM K where
 val:=M.val
 ok A n:=M.ok (hid D A) n∧∃xs,A D=some (.lst xs)
 ke A B:=M.ke (hid D A) (hid D B)
 st A B:=M.st (hid D A) (hid D B)∧∀o,A D=some o→B D=some o
 sk h:=M.sk h.1
 refw _:=M.refw _
 transw a b:=M.transw a b
 refl _:=⟨M.refl _,fun _ h=>h⟩
 trans a b:=⟨M.trans a.1 b.1,fun o h=>b.2 o (a.2 o h)⟩
 same s:=⟨M.same s.hid,fun o h=>s _ _ h⟩
 oks:=fun ⟨o,xs,h⟩ s=>⟨M.oks o s.hid,xs,s _ _ h⟩
 newD:=fun {H n E H5 o H6} ⟨ok,xs,h⟩ hE k1 e k2=>by
  have hne:E≠D:=fun z=>by rw[z]at hE;rw[hE]at h;cases h
  have:=M.newD ok (by rw[z1m hne];exact hE) k1 (by rw[z1m hne];exact e) k2
  exact (z1h this).2
 updK:=fun {H n E H5} o ⟨ok,xs,h⟩ hE k1=>by
  have hne:E≠D:=fun z=>by rw[z]at hE;rw[hE]at h;cases h
  refine ⟨?_,fun u hu=>by rw[z0f (Ne.symm hne)];exact k1.2 u hu⟩
  rw[z7h hne]
  exact M.updK o ok (by rw[z1m hne];exact hE) k1.1
 updO:=fun {H n E H5 m} o ⟨ok,xs,h⟩ hE k1 ⟨o5,ys,h5⟩=>by
  have hne:E≠D:=fun z=>by rw[z]at hE;rw[hE]at h;cases h
  refine ⟨?_,ys,by rw[z0f (Ne.symm hne)];exact h5⟩
  rw[z7h hne]
  exact M.updO o ok (by rw[z1m hne];exact hE) k1.1 o5
 kp:=fun {H H' n} ⟨ok,xs,h⟩ k b ys r=>by
  have hne:b≠D:=fun z=>by
   subst z
   rcases r with r|⟨o,r⟩<;>rw[h]at r<;>cases r
  have:=M.kp ok k b ys (r.imp (fun z=>by rw[z1m hne];exact z) (fun ⟨o,z⟩=>⟨o,by rw[z1m hne];exact z⟩))
  exact this.imp (fun z=>(z1h z).2) (fun ⟨o,z⟩=>⟨o,(z1h z).2⟩)
 hidZ:=fun {H n S A B} ⟨ok,xs,h⟩ hE k1 k2=>by
  have k2':=M.hidZ (S:=S) ok (fun b e=>by
   by_cases z:b=D
   ·rw[z,z21]
   ·rw[z1m z];exact hE b e) k1 k2
  show M.ke (hid D (hidS S A)) (hid D (hidS S B))
  rw[←zcb,←zcb];exact k2'
 dom:=fun {A B n b} ⟨ok,xs,h⟩ k e=>by
  by_cases z:b=D
  ·subst z
   rw[k.2 _ h]at e;cases e
  ·have:=M.dom ok k.1 (b:=b) (by rw[z1m z];exact e)
   rw[z1m z]at this;exact this
 tk:=M.tk
 tp1:=fun h {H n} ⟨ok,_⟩=>(M.tp1 h ok).same z5t
 rs1:=fun h {H H' n n'} ⟨ok,xs,hx⟩ s t'=>by
  obtain ⟨hs,ht,hv⟩:=zgc (M.tp1 h ok) s t'
  obtain ⟨a,b⟩:=M.rs1 h ok hs ht
  exact ⟨⟨a,fun o ho=>s.old _ _ ho hv⟩,b,xs,s.old _ _ hx hv⟩
 tp2:=fun h {H n} ⟨ok,_⟩=>(M.tp2 h ok).same z5t
 rs2:=fun h {H H' n n'} ⟨ok,xs,hx⟩ s t'=>by
  obtain ⟨hs,ht,hv⟩:=zhl (M.tp2 h ok) s t'
  obtain ⟨a,b⟩:=M.rs2 h ok hs ht
  exact ⟨⟨a,fun o ho=>s.old _ _ ho hv⟩,b,xs,s.old _ _ hx hv⟩
variable {M:TM K}{H1:Hp}{D:Addr}
mutual
theorem Dt.own (hD:H1 D=none)(o:HO):∀{v:V}{d:PyData},Dt M H1 v d→Dt (M.own D) (upd H1 D o) v d
 | _,_,.non=>.non
 | _,_,.bl b=>.bl b
 | _,_,.int i=>.int i
 | _,_,.str x=>.str x
 | _,_,.lst h t=>.lst (fun H' e=>(z1h (h (hid D H') (by have e':M.ke (hid D (upd H1 D o)) (hid D H'):=e;rw[z3u,z2h hD]at e';exact e'))).2) (Dts.own hD o t)
 | _,_,.tup h t=>.tup (fun H' e=>(z5t (D:=D)).seqT (h (hid D H') (by have e':M.ke (hid D (upd H1 D o)) (hid D H'):=e;rw[z3u,z2h hD]at e';exact e'))) (Dts.own hD o t)
 | _,_,.dct h k t=>.dct (fun H' e=>(z1h (h (hid D H') (by have e':M.ke (hid D (upd H1 D o)) (hid D H'):=e;rw[z3u,z2h hD]at e';exact e'))).2) (Dts.own hD o k) (Dts.own hD o t)
theorem Dts.own (hD:H1 D=none)(o:HO):∀{vs:List V}{ds:List PyData},Dts M H1 vs ds→Dts (M.own D) (upd H1 D o) vs ds
 | _,_,.nil=>.nil
 | _,_,.cons h t=>.cons (Dt.own hD o h) (Dts.own hD o t)
end
mutual
theorem Dt.bare {n:Nat}{H:Hp}(ok:M.ok H1 n)(hD:H1 D=none)(k:M.ke H1 (hid D H)):∀{v:V}{d:PyData},Dt (M.own D) H v d→Dt M (hid D H) v d
 | _,_,.non=>.non
 | _,_,.bl b=>.bl b
 | _,_,.int i=>.int i
 | _,_,.str x=>.str x
 | _,_,.lst h t=>.lst (fun H' e=>h H' (by have z:=M.hidK ok hD k e;rw[z2h z21]at z;exact z)) (Dts.bare ok hD k t)
 | _,_,.tup h t=>.tup (fun H' e=>h H' (by have z:=M.hidK ok hD k e;rw[z2h z21]at z;exact z)) (Dts.bare ok hD k t)
 | _,_,.dct h k' t=>.dct (fun H' e=>h H' (by have z:=M.hidK ok hD k e;rw[z2h z21]at z;exact z)) (Dts.bare ok hD k k') (Dts.bare ok hD k t)
theorem Dts.bare {n:Nat}{H:Hp}(ok:M.ok H1 n)(hD:H1 D=none)(k:M.ke H1 (hid D H)):∀{vs:List V}{ds:List PyData},Dts (M.own D) H vs ds→Dts M (hid D H) vs ds
 | _,_,.nil=>.nil
 | _,_,.cons h t=>.cons (Dt.bare ok hD k h) (Dts.bare ok hD k t)
end
theorem zjj {A:Hp}{o:HO}(h:A D=some o):upd (hid D A) D o=A:=by
 funext b
 by_cases e:b=D
 ·subst e;rw[z06,h]
 ·rw[z0f e,z1m e]
theorem RW.own (hD:H1 D=none)(o:HO){v:V}{w:Zw}(h:RW M H1 v w):RW (M.own D) (upd H1 D o) v w:=by
 cases w with
 | d x=>exact Dt.own hD o h
 | t k=>exact h
 | ty c=>exact h
 | o ds=>exact h
 | x c ns ds=>
  obtain ⟨C,ea,dx,vs,rfl,hc,hk,hx,hd⟩:=h
  refine ⟨C,ea,dx,vs,rfl,hc,hk,fun H2 e2=>?_,Dts.own hD o hd⟩
  have e':M.ke (hid D (upd H1 D o)) (hid D H2):=e2
  rw[z3u,z2h hD]at e'
  exact ⟨(z1h (hx _ e').1).2,(z1h (hx _ e').2).2⟩
theorem RE.own (hD:H1 D=none)(o:HO){σ:St}{δ:Ze}(h:RE M H1 σ δ):RE (M.own D) (upd H1 D o) σ δ:=by
 induction h with
 | nil=>exact .nil
 | @cons a w σ δ h _ ih=>
  refine .cons ?_ ih
  cases w with
  | none=>trivial
  | some w=>obtain ⟨v,e1,r⟩:=h;exact ⟨v,e1,r.own hD o⟩
end
end
section
section
variable {X:Cx}{K:W.Frag}
noncomputable def zgo:R2:=fun x y H Q=>∃l b xs zs,x=.ref l∧y=.ref b∧Rd H l (.lst xs)∧Rd H b (.lst zs)∧xs.length+zs.length≤sizeLine∧∀p,H p=none→Q (.ref p) (upd H p (.lst (xs++zs)))
theorem zld:OpR X (binaryOp .Add) zgo:=by
 intro pins s σ H x y v u Q I rx ry h
 obtain ⟨l,b,xs,zs,rfl,rfl,hH,hB,hz,q⟩:=h
 cases rx
 cases ry
 obtain ⟨z,its,n,r,e⟩:=hH.ok I.hok
 obtain ⟨z2,its2,n2,r2,e2⟩:=hB.ok I.hok
 have hl:=r.length
 have hl2:=r2.length
 refine PySem.P.add_list e e2 ?_ (by rw[List.size_toArray,List.size_toArray];omega)
 have ea:its.toArray++its2.toArray=(its++its2).toArray:=by simp
 rw[ea]
 exact ⟨.ref _,_,I.lnew (t':=s.toks) (r.append r2) (by rw[List.length_append];omega),rfl,q _ I.fresh⟩
noncomputable def zac:R2:=fun x y H Q=>∃i j,x=.str i∧y=.str j∧i.length+j.length≤sizeLine∧Q (.str (i++j)) H
noncomputable abbrev rOr (r r':R2):R2:=fun x y H Q=>r x y H Q∨r' x y H Q
theorem z1d (hK:X.K=K):OpR X (binaryOp .Add) (rOr (rI0 fun i j=>V.int (i+j)) (rOr (zgn K) (rOr zgo zac))):=by
 subst hK
 intro pins s σ H x y v u Q I rx ry h
 rcases h with h|h|h|h
 ·exact z27 pins s σ H x y v u Q I rx ry h
 ·exact zej pins s σ H x y v u Q I rx ry h
 ·exact zld pins s σ H x y v u Q I rx ry h
 ·exact zcw pins s σ H x y v u Q I rx ry h
theorem z6b (hK:X.K=K):OpR X (binaryOp .Mult) (rOr (rI CMul fun i j=>V.int (i*j)) (rOr (rI zg4 fun i j=>V.int (i*j)) (rOr (zkf K) zra))):=by
 subst hK
 intro pins s σ H x y v u Q I rx ry h
 rcases h with h|h|h|h
 ·exact z5a pins s σ H x y v u Q I rx ry h
 ·exact z26 pins s σ H x y v u Q I rx ry h
 ·exact zef pins s σ H x y v u Q I rx ry h
 ·exact zeg pins s σ H x y v u Q I rx ry h
noncomputable def z79 (K:W.Frag)(c:Bool):R2:=fun x y H Q=>∃a b xs ys,x=.ref a∧y=.ref b∧((SqL K H a xs∧SqL K H b ys∧xs.length≠ys.length)∨(SqT K H a xs∧SqT K H b ys∧ys=[]))∧((xs.length=ys.length∧Q (.bl (!c)) H)∨(xs.length≠ys.length∧Q (.bl c) H))
theorem zon {k:Nat}(hr:Room k X.A):OpR X (compareOp .Eq) (z79 X.K false):=by
 intro pins s σ H x y v u Q I rx ry h
 obtain ⟨a,b,xs,ys,rfl,rfl,h,q⟩:=h
 cases rx;cases ry
 have hu:=hr.units
 rcases h with ⟨h1,h2,hl⟩|⟨h1,h2,rfl⟩
 ·obtain ⟨its,rv,p,_⟩:=I.list h1
  obtain ⟨its2,rv2,p2,_⟩:=I.list h2
  have q2:=(q.resolve_left fun z=>hl z.1).2
  refine PySem.SeqAt.eq_list_lengthsAt p.isList p2.isList ?_ (by omega) ⟨.bl false,H,I,rfl,q2⟩
  rw[List.size_toArray,List.size_toArray,←rv.length,←rv2.length,bne_iff_ne];exact hl
 ·obtain ⟨its,rv,p,_⟩:=I.tuple h1
  obtain ⟨its2,rv2,p2,_⟩:=I.tuple h2
  cases rv2
  refine PySem.SeqAt.eq_tupleAt (e:=fun _=>true) (show s.heap.IsTuple a its.toArray from p) (show s.heap.IsTuple b (#[]:Array Value) from p2) (by omega) (fun j h1 h2=>absurd h2 (Nat.not_lt_zero _)) ⟨.bl (its.toArray.size == 0),H,I,?_,?_⟩
  ·show RelV _ (Value.bool ((List.range (min its.toArray.size 0)).all _&&its.toArray.size == 0))
   rw[Nat.min_zero];rfl
  ·rw[List.size_toArray,←rv.length]
   rcases q with ⟨e,q⟩|⟨e,q⟩
   ·rw[e];exact q
   ·have:(xs.length == 0)=false:=beq_eq_false_iff_ne.mpr e
    rw[this];exact q
theorem zoj {k:Nat}(hr:Room k X.A):OpR X (compareOp .NotEq) (z79 X.K true):=by
 intro pins s σ H x y v u Q I rx ry h
 obtain ⟨a,b,xs,ys,rfl,rfl,h,q⟩:=h
 cases rx;cases ry
 have hu:=hr.units
 rcases h with ⟨h1,h2,hl⟩|⟨h1,h2,rfl⟩
 ·obtain ⟨its,rv,p,_⟩:=I.list h1
  obtain ⟨its2,rv2,p2,_⟩:=I.list h2
  have q2:=(q.resolve_left fun z=>hl z.1).2
  refine PySem.SeqAt.RcNeAt.lists_lengths p.isList p2.isList ?_ (by omega) _ _ _ _ ⟨.bl true,H,I,rfl,q2⟩
  rw[List.size_toArray,List.size_toArray,←rv.length,←rv2.length,bne_iff_ne];exact hl
 ·obtain ⟨its,rv,p,_⟩:=I.tuple h1
  obtain ⟨its2,rv2,p2,_⟩:=I.tuple h2
  cases rv2
  refine PySem.SeqAt.RcNeAt.tuples (e:=fun _=>true) (show s.heap.IsTuple a its.toArray from p) (show s.heap.IsTuple b (#[]:Array Value) from p2) (by omega) (fun j h1 h2=>absurd h2 (Nat.not_lt_zero _)) _ _ _ _ ⟨.bl (!(its.toArray.size == 0)),H,I,?_,?_⟩
  ·show RelV _ (Value.bool (!((List.range (min its.toArray.size 0)).all _&&its.toArray.size == 0)))
   rw[Nat.min_zero];rfl
  ·rw[List.size_toArray,←rv.length]
   rcases q with ⟨e,q⟩|⟨e,q⟩
   ·rw[e];exact q
   ·have:(xs.length == 0)=false:=beq_eq_false_iff_ne.mpr e
    rw[this];exact q
theorem z4o (hK:X.K=K){k:Nat}(hr:Room k X.A):OpR X (compareOp .Eq) (rOr rEq (rOr (fun x y H Q=>∃d e,Dv K H x d∧Dv K H y e∧d.canLay0=true∧e.canLay0=true∧d.depth≤60∧Q (V.bl (d.eqv e)) H) (z79 K false))):=by
 subst hK
 intro pins s σ H x y v u Q I rx ry h
 rcases h with h|h|h
 ·exact z6d pins s σ H x y v u Q I rx ry h
 ·exact zei hr pins s σ H x y v u Q I rx ry h
 ·exact zon hr pins s σ H x y v u Q I rx ry h
theorem zbx (hK:X.K=K){k:Nat}(hr:Room k X.A):OpR X (compareOp .NotEq) (rOr rNe (rOr (fun x y H Q=>∃d e,Dv K H x d∧Dv K H y e∧d.canLay0=true∧e.canLay0=true∧d.depth≤60∧Q (V.bl (!d.eqv e)) H) (z79 K true))):=by
 subst hK
 intro pins s σ H x y v u Q I rx ry h
 rcases h with h|h|h
 ·exact zlb pins s σ H x y v u Q I rx ry h
 ·exact zbw hr pins s σ H x y v u Q I rx ry h
 ·exact zoj hr pins s σ H x y v u Q I rx ry h
theorem z3j (hK:X.K=K):IxR X (rIx K):=by subst hK;exact zp5
theorem z35 (hK:X.K=K):SlR X (fun x lo hi H Q=>zr8 K x lo hi H Q∨zr9 K x lo hi H Q):=by
 subst hK
 intro pins s σ H x v vl vu lo hi sl Q I rx hs pl pu h
 rcases h with h|h
 ·exact zk2 pins s σ H x v vl vu lo hi sl Q I rx hs pl pu h
 ·exact za7 pins s σ H x v vl vu lo hi sl Q I rx hs pl pu h
noncomputable def znn (K:W.Frag):List V→Hp→VK→Prop:=fun xs H Q=>∃p ys,xs=[.ref p]∧(SqL K H p ys∨SqT K H p ys)∧Q (.int ys.length) H
theorem z2v (hK:X.K=K):z3w X (.builtin "len") (znn K):=by subst hK;exact z0p
noncomputable def znl (K:W.Frag):List V→Hp→VK→Prop:=fun xs H Q=>∃p ys,xs=[.ref p]∧((SqL K H p ys∧∀l,H l=none→Q (.ref l) (upd H l (.tup ys)))∨SqT K H p ys∧Q (.ref p) H)
theorem zfq (hK:X.K=K):z3w X (.type "tuple") (znl K):=by subst hK;exact z1o
noncomputable def zil (K:W.Frag):List V→Hp→VK→Prop:=fun xs H Q=>∃x d k,xs=[x]∧Dv K H x d∧Shw d∧k=d.shown∧Q (.str k) H
theorem z7l (hK:X.K=K){k:Nat}(hr:Room k X.A):z3w X (.builtin "repr") (zil K):=by subst hK;exact zfr hr
noncomputable def zno (K:W.Frag):List V→Hp→VK→Prop:=fun xs H Q=>∃x t c b,xs=[x,.ty c]∧TyD K H x t∧PySem.W.kitOne K (.type t) (.type c)=some b∧Q (.bl b) H
theorem zft (hK:X.K=K):z3w X (.builtin "isinstance") (zno K):=by subst hK;exact z4t
noncomputable def zs1 (K:W.Frag)(tl:TE):TI:=fun σ H R=>tl σ H fun x H1=>∃a,x=.ref a∧(((∃xs,SqL K H1 a xs)∧R (Itl K a) H1)∨((∃xs,SqT K H1 a xs)∧R (Itt K a) H1))
theorem zo4 (hK:X.K=K){tg l:Expr}{tl:TE}(hl:PE X l tl):PI X tg l (zs1 K tl):=by
 subst hK
 intro pins s σ H R I h
 refine thn (hl pins s σ H _ I h) fun v s1 ⟨x,H1,I1,r1,q1⟩=>?_
 obtain ⟨a,e,⟨⟨xs,hq⟩,q⟩|⟨⟨xs,hq⟩,q⟩⟩:=q1
 ·subst e
  cases r1
  obtain ⟨its,rv,p,hz⟩:=I1.list hq
  refine wpAny_pyIter_list p.isList ?_
  refine ⟨s1.heap.objs.size,[s1.heap.objs.size],_,_,H1,rfl,I1.kept (t':=s1.toks) fun b o e=>Heap.get?_push_of_some _ e,zdc a _,⟨_,Heap.get?_push_size _ rfl,rfl,rfl⟩,fun b hb=>?_,q⟩
  have e:b=s1.heap.objs.size:=by simpa using hb
  subst e
  exact I1.fpOk (Nat.le_refl _) (I1.hok.fresh (Nat.le_refl _))
 ·subst e
  cases r1
  obtain ⟨its,rv,p,hz⟩:=I1.tuple hq
  refine wpAny_pyIter_tuple (show s1.heap.IsTuple a its.toArray from p) ?_
  refine ⟨s1.heap.objs.size,[s1.heap.objs.size],_,_,H1,rfl,I1.kept (t':=s1.toks) fun b o e=>Heap.get?_push_of_some _ e,z74 a _,⟨_,Heap.get?_push_size _ rfl,rfl,rfl⟩,fun b hb=>?_,q⟩
  have e:b=s1.heap.objs.size:=by simpa using hb
  subst e
  exact I1.fpOk (Nat.le_refl _) (I1.hok.fresh (Nat.le_refl _))
theorem z7y (hK:X.K=K){tg l:Expr}{tl:TE}(hl:QE X l tl):QI X tg l (zs1 K tl):=⟨zo4 hK hl.o⟩
end
end
section
structure SmE (K:W.Frag)(te:TE)(de:ZE):Prop where
 o:∀(M:TM K){σ:St}{δ:Ze}{H:Hp}{n:Nat}{Q:VK}{Qd:ZK},M.ok H n→RE M H σ δ→de δ n Qd→Ok1 M H Qd Q→te σ H Q
structure SmF (K:W.Frag)(te:TE)(de:ZE):Prop where
 o:∀(M:TM K){σ:St}{δ:Ze}{H:Hp}{n:Nat}{Q:VK}{Qd:ZK},M.ok H n→RE M H σ δ→de δ n Qd→(∀D H1 vs ds n1,M.st H H1→M.ok H1 n1→H1 D=none→Dts M H1 vs ds→Qd (.d (.list ds)) n1→Q (.ref D) (upd H1 D (.lst vs)))→te σ H Q
theorem SmF.e {K:W.Frag}{te:TE}{de:ZE}(h:SmF K te de):SmE K te de:=⟨fun M {σ δ H n Q Qd} ok re hs k=>h.o M ok re hs fun D H1 vs ds n1 st o hD d q=>k _ _ _ n1 (M.trans st (M.same (z0a hD _))) (M.oks o (z0a hD _)) (show RW M _ _ (.d (.list ds)) from Dt.newL o hD d) q⟩
structure SmT (K:W.Frag)(te:TT)(de:ZT):Prop where
 o:∀(M:TM K){σ:St}{δ:Ze}{H:Hp}{n:Nat}{Q:Bool→Hp→Prop}{Qd:Bool→Nat→Prop},M.ok H n→RE M H σ δ→de δ n Qd→(∀b H' n',M.st H H'→M.ok H' n'→Qd b n'→Q b H')→te σ H Q
structure SmA (K:W.Frag)(k:Nat)(te:TA)(de:ZA):Prop where
 o:∀(M:TM K){σ:St}{δ:Ze}{H:Hp}{n:Nat}{Q:List V→Hp→Prop}{Qd:List Zw→Nat→Prop},M.ok H n→RE M H σ δ→de δ n Qd→(∀vs H' ws n',M.st H H'→M.ok H' n'→RWs M H' vs ws→ws.length=k→Qd ws n'→Q vs H')→te σ H Q
structure SmG (K:W.Frag)(g:TG)(zg:ZG):Prop where
 o:∀(M:TM K){σ:St}{δ:Ze}{H:Hp}{n:Nat}{v:V}{d:PyData}{Q:St→Hp→Prop}{Qd:Ze→Nat→Prop},M.ok H n→RE M H σ δ→Dt M H v d→zg d δ n Qd→(∀σ' H' δ' n',M.st H H'→M.ok H' n'→RE M H' σ' δ'→Qd δ' n'→Q σ' H')→g v σ H Q
structure SmGs (K:W.Frag)(g:TGs)(zg:ZGs):Prop where
 o:∀(M:TM K){σ:St}{δ:Ze}{H:Hp}{n:Nat}{vs:List V}{ds:List PyData}{Q:St→Hp→Prop}{Qd:Ze→Nat→Prop},M.ok H n→RE M H σ δ→Dts M H vs ds→zg ds δ n Qd→(∀σ' H' δ' n',M.st H H'→M.ok H' n'→RE M H' σ' δ'→Qd δ' n'→Q σ' H')→g vs σ H Q
noncomputable def YOk {K:W.Frag}(M:TM K)(H1 H':Hp)(x:V)(H'':Hp)(d:PyData):Prop:=
 (H''=H'∧Dt M H1 x d)∨∃T vs es,x=.ref T∧H' T=none∧H''=upd H' T (.tup vs)∧d=.tuple es∧Dts M H1 vs es
noncomputable def ItOk {K:W.Frag}(M:TM K)(H1:Hp)(J:It)(ds:List PyData):Prop:=
 ∀H',M.ke H1 H'→(∀i d,ds[i]?=some d→J.go i H'∧∀x H'',J.yld i H' x H''→YOk M H1 H' x H'' d)∧J.stop ds.length H'
theorem YOk.get {K:W.Frag}{M:TM K}{H1 H' H'':Hp}{x:V}{d:PyData}{n:Nat}(y:YOk M H1 H' x H'' d)(k:M.ke H1 H')(o:M.ok H' n):M.st H' H''∧Same H' H''∧Dt M H'' x d:=by
 rcases y with ⟨rfl,h⟩|⟨T,vs,es,rfl,hT,rfl,rfl,h⟩
 ·exact ⟨M.refl _,Same.refl _,h.kw k⟩
 ·exact ⟨M.same (z0a hT _),z0a hT _,.newT o hT (h.kw k)⟩
theorem ItOk.ownAt {K : W.Frag}{M : TM K}{H1 : Hp}{D : Addr}{J : It}{ds : List PyData}(h : ItOk M H1 J ds)(hD : H1 D = none){u : HO}{H' : Hp}{n : Nat}(k' : M.st (hid D (upd H1 D u)) (hid D H'))(o : (M.own D).ok H' n) :
  (∀i d,ds[i]?=some d→J.go i H'∧∀x H'',J.yld i H' x H''→(M.own D).st H' H''∧Same H' H''∧Dt (M.own D) H'' x d)∧J.stop ds.length H':=by
 have k0:=k'
 rw[z3u,z2h hD]at k'
 have k2:=M.trans k' (M.same z5t)
 obtain ⟨g,s⟩:=h H' (M.sk k2)
 have kw:(M.own D).ke (upd H1 D u) H':=M.sk k0
 refine ⟨fun i d e=>?_,s⟩
 obtain ⟨g1,g2⟩:=g i d e
 refine ⟨g1,fun x H'' y=>?_⟩
 rcases g2 x H'' y with ⟨rfl,h⟩|⟨T,vs,es,rfl,hT,rfl,rfl,h⟩
 ·exact ⟨(M.own D).refl _,Same.refl _,(h.own hD u).kw kw⟩
 ·exact ⟨(M.own D).same (z0a hT _),z0a hT _,.newT o hT ((h.own hD u).kw kw)⟩
structure SmI (K:W.Frag)(wi:TI)(zi:ZI):Prop where
 o:∀(M:TM K){σ:St}{δ:Ze}{H:Hp}{n:Nat}{R:It→Hp→Prop}{Rd:List PyData→Nat→Prop},M.ok H n→RE M H σ δ→zi δ n Rd→(∀J H' ds n',M.st H H'→M.ok H' n'→ItOk M H' J ds→Rd ds n'→R J H')→wi σ H R
structure SmO (K:W.Frag)(te:TO)(de:ZO):Prop where
 o:∀(M:TM K){σ:St}{δ:Ze}{H:Hp}{n:Nat}{Q:Option Int→Hp→Prop}{Qd:Option Int→Nat→Prop},M.ok H n→RE M H σ δ→de δ n Qd→(∀b H' n',M.st H H'→M.ok H' n'→Qd b n'→Q b H')→te σ H Q
structure SmS (K:W.Frag)(EE:XS)(ts:TS)(ds:ZS):Prop where
 o:∀(M:TM K){σ:St}{δ:Ze}{H:Hp}{n:Nat}{D:Ends}{Dd:ZEnds},M.ok H n→RE M H σ δ→ds Dd δ n→OkD M EE H Dd D→ts D σ H
noncomputable def R2k (K:W.Frag)(r:R2)(f:Zw→Zw→Nat→ZK→Prop):Prop:=∀(M:TM K){H:Hp}{n:Nat}{x y:V}{w z:Zw}{Q:VK}{Qd:ZK},M.ok H n→RW M H x w→RW M H y z→f w z n Qd→Ok1 M H Qd Q→r x y H Q
noncomputable def RLk (K:W.Frag)(r:List V→Hp→VK→Prop)(f:List Zw→Nat→ZK→Prop):Prop:=∀(M:TM K){H:Hp}{n:Nat}{xs:List V}{ws:List Zw}{Q:VK}{Qd:ZK},M.ok H n→RWs M H xs ws→f ws n Qd→Ok1 M H Qd Q→r xs H Q
theorem Dt.rw {K:W.Frag}{M:TM K}{H:Hp}{v:V}{d:PyData}(h:Dt M H v d):RW M H v (.d d):=h
section
variable {K:W.Frag}
noncomputable def vr1:Option Zw→(Zw→Prop)→Prop
 | some w,Q=>Q w
 | none,_=>False
noncomputable def vr:Ze→Nat→(Zw→Prop)→Prop
 | [],_,_=>False
 | o::_,0,Q=>vr1 o Q
 | _::l,i+1,Q=>vr l i Q
theorem zg8:∀{δ:Ze}{i:Nat}{Q:Zw→Prop},vr δ i Q→∃w,lk δ i=some w∧Q w
 | some w::_,0,Q,h=>⟨w,rfl,h⟩
 | none::_,0,_,h=>h.elim
 | _::l,i+1,Q,h=>zg8 (δ:=l) (i:=i) h
 | [],_,_,h=>h.elim
noncomputable def zt5 (i:Nat):ZE:=fun δ n Q=>vr δ i fun w=>Q w n
noncomputable def cnd:Bool→Prop→Prop→Prop
 | true,p,_=>p
 | false,_,q=>q
noncomputable def zC (d:PyData):ZE:=fun _ n Q=>Q (.d d) n
noncomputable def zTy (c:Tk):ZE:=fun _ n Q=>Q (.ty c) n
theorem z07 {i:Nat}:SmE K (zm9 i) (zt5 i):=⟨fun M {σ δ H n Q Qd} ok re h k=>by
 obtain ⟨w,e,h⟩:=zg8 h
 obtain ⟨v,e1,r⟩:=re.get e
 exact ⟨v,e1,k v H w n (M.refl _) ok r h⟩⟩
theorem zn5 {v:V}{d:PyData}(hv:∀(M:TM K) H,Dt M H v d):SmE K (tC v) (zC d):=⟨fun M {σ δ H n Q Qd} ok re h k=>k v H _ n (M.refl _) ok (show RW M H v (.d d) from hv M H) h⟩
theorem z0j {i:Int}:SmE K (tC (.int i)) (zC (.int i)):=zn5 fun _ _=>.int i
theorem z3o {i:Bool}:SmE K (tC (.bl i)) (zC (.bool i)):=zn5 fun _ _=>.bl i
theorem zi7 {i:Str}:SmE K (tC (.str i)) (zC (.str i)):=zn5 fun _ _=>.str i
theorem zi8:SmE K (tC .non) (zC .none):=zn5 fun _ _=>.non
theorem zqz (c:Tk):SmE K (tC (.ty c.nm)) (zTy c):=⟨fun M {σ δ H n Q Qd} ok re h k=>k _ H _ n (M.refl _) ok (show RW M H _ (.ty c) from rfl) h⟩
noncomputable def zOp (f:Zw→Zw→Nat→ZK→Prop)(a b:ZE):ZE:=fun δ n Q=>a δ n fun x n1=>b δ n1 fun y n2=>f x y n2 Q
theorem z0t {r:R2}{f:Zw→Zw→Nat→ZK→Prop}{ta tb:TE}{a b:ZE}(hr:R2k K r f)(ha:SmE K ta a)(hb:SmE K tb b):SmE K (tOp r ta tb) (zOp f a b):=⟨fun M {σ δ H n Q Qd} ok re h k=>by
 refine ha.o M ok re h fun x H1 w n1 k1 o1 r1 h1=>?_
 refine hb.o M o1 (re.ke k1) h1 fun y H2 z n2 k2 o2 r2 h2=>?_
 exact hr M o2 (r1.ke k2) r2 h2 (k.ke (M.trans k1 k2))⟩
noncomputable def zUn (f:Int→PyData)(a:ZE):ZE:=fun δ n Q=>a δ n fun x n1=>match x with|.d (.int i)=>Q (.d (f i)) n1|_=>False
noncomputable def zB (a:ZE):ZT:=fun δ n Q=>a δ n fun x n1=>match x with|.d (.bool b)=>Q b n1|_=>False
theorem z9y {ta:TE}{a:ZE}(ha:SmE K ta a):SmT K (zjm ta) (zB a):=⟨fun M {σ δ H n Q Qd} ok re h k=>by
 refine ha.o M ok re h fun x H1 w n1 k1 o1 r1 h1=>?_
 match w,r1,h1 with
 | .d (.bool b),r1,h1=>cases r1;exact ⟨b,rfl,k b H1 n1 k1 o1 h1⟩⟩
theorem z90 {ta:TE}{a:ZE}(ha:SmE K ta a):SmT K (tB ta) (zB a):=z9y ha
noncomputable def zql (a b:ZE):ZE:=fun δ n Q=>a δ n fun x n1=>match x with|.d (.bool c)=>cnd c (b δ n1 Q) (Q (.d (.bool false)) n1)|_=>False
theorem za5 {ta tb:TE}{a b:ZE}(ha:SmE K ta a)(hb:SmE K tb b):SmE K (zjr ta tb) (zql a b):=⟨fun M {σ δ H n Q Qd} ok re h k=>by
 refine ha.o M ok re h fun x H1 w n1 k1 o1 r1 h1=>?_
 match w,r1,h1 with
 | .d (.bool c),r1,h1=>
  cases r1
  refine ⟨c,rfl,?_⟩
  cases c with
  | true=>exact hb.o M o1 (re.ke k1) h1 (k.ke k1)
  | false=>exact k _ H1 _ n1 k1 o1 (Dt.rw (.bl _)) h1⟩
noncomputable def ztg (a b:ZT):ZT:=fun δ n Q=>a δ n fun c n1=>cnd c (b δ n1 Q) (Q false n1)
noncomputable def zOr (a b:ZT):ZT:=fun δ n Q=>a δ n fun c n1=>cnd c (Q true n1) (b δ n1 Q)
noncomputable def zta (a:ZT):ZT:=fun δ n Q=>a δ n fun c n1=>Q (!c) n1
theorem zdn {ta tb:TT}{a b:ZT}(ha:SmT K ta a)(hb:SmT K tb b):SmT K (zqw ta tb) (ztg a b):=⟨fun M {σ δ H n Q Qd} ok re h k=>by
 refine ha.o M ok re h fun c H1 n1 k1 o1 h1=>?_
 cases c with
 | true=>exact hb.o M o1 (re.ke k1) h1 fun b H2 n2 k2 o2 h2=>k b H2 n2 (M.trans k1 k2) o2 h2
 | false=>exact k _ H1 n1 k1 o1 h1⟩
theorem zn3 {ta tb:TT}{a b:ZT}(ha:SmT K ta a)(hb:SmT K tb b):SmT K (tOr ta tb) (zOr a b):=⟨fun M {σ δ H n Q Qd} ok re h k=>by
 refine ha.o M ok re h fun c H1 n1 k1 o1 h1=>?_
 cases c with
 | false=>exact hb.o M o1 (re.ke k1) h1 fun b H2 n2 k2 o2 h2=>k b H2 n2 (M.trans k1 k2) o2 h2
 | true=>exact k _ H1 n1 k1 o1 h1⟩
theorem z8z {ta:TT}{a:ZT}(ha:SmT K ta a):SmT K (zqu ta) (zta a):=⟨fun M {σ δ H n Q Qd} ok re h k=>
 ha.o M ok re h fun c H1 n1 k1 o1 h1=>k _ H1 n1 k1 o1 h1⟩
noncomputable def zIf (t:ZT)(a b:ZE):ZE:=fun δ n Q=>t δ n fun c n1=>cnd c (a δ n1 Q) (b δ n1 Q)
theorem zjz {tt:TT}{ta tb:TE}{t:ZT}{a b:ZE}(ht:SmT K tt t)(ha:SmE K ta a)(hb:SmE K tb b):SmE K (tIf tt ta tb) (zIf t a b):=⟨fun M {σ δ H n Q Qd} ok re h k=>by
 refine ht.o M ok re h fun c H1 n1 k1 o1 h1=>?_
 cases c with
 | true=>exact ha.o M o1 (re.ke k1) h1 (k.ke k1)
 | false=>exact hb.o M o1 (re.ke k1) h1 (k.ke k1)⟩
noncomputable def ztb:ZA:=fun _ n Q=>Q [] n
noncomputable def zqj (a:ZE)(r:ZA):ZA:=fun δ n Q=>a δ n fun x n1=>r δ n1 fun xs n2=>Q (x::xs) n2
theorem z0b:SmA K 0 zqv ztb:=⟨fun M {σ δ H n Q Qd} ok re h k=>k [] H [] n (M.refl _) ok .nil rfl h⟩
theorem z03 {m:Nat}{ta:TE}{tr:TA}{a:ZE}{r:ZA}(ha:SmE K ta a)(hr:SmA K m tr r):SmA K (m+1) (zjq ta tr) (zqj a r):=⟨fun M {σ δ H n Q Qd} ok re h k=>by
 refine ha.o M ok re h fun x H1 w n1 k1 o1 r1 h1=>?_
 refine hr.o M o1 (re.ke k1) h1 fun xs H2 ws n2 k2 o2 r2 hl h2=>?_
 exact k _ H2 _ n2 (M.trans k1 k2) o2 (.cons (r1.ke k2) r2) (by rw[List.length_cons,hl]) h2⟩
noncomputable def asD:List Zw→Option (List PyData)
 | []=>some []
 | .d x::r=>match asD r with|some l=>some (x::l)|none=>none
 | _::_=>none
theorem RWs.dts {M:TM K}{H:Hp}:∀{vs:List V}{ws:List Zw}{ds:List PyData},RWs M H vs ws→asD ws=some ds→Dts M H vs ds
 | _,_,_,.nil,e=>by cases e;exact .nil
 | _,.d x::ws,ds,.cons h t,e=>by
  unfold asD at e
  cases e1:asD ws with
  | none=>rw[e1]at e;cases e
  | some l=>rw[e1]at e;cases e;exact .cons h (RWs.dts t e1)
 | _,.t _::ws,ds,.cons h t,e=>by cases e
 | _,.ty _::ws,ds,.cons h t,e=>by cases e
 | _,.o _::ws,ds,.cons h t,e=>by cases e
 | _,.x _ _ _::ws,ds,.cons h t,e=>by cases e
noncomputable def asK:List Zw→(List PyData→Prop)→Prop
 | [],k=>k []
 | .d x::r,k=>asK r fun l=>k (x::l)
 | _::_,_=>False
theorem zhv:∀{ws:List Zw}{k:List PyData→Prop},asK ws k→∃ds,asD ws=some ds∧k ds
 | [],k,h=>⟨[],rfl,h⟩
 | .d x::r,k,h=>by
  obtain ⟨ds,e,q⟩:=zhv (ws:=r) h
  exact ⟨x::ds,by unfold asD;rw[e],q⟩
 | .t _::_,_,h=>h.elim
 | .ty _::_,_,h=>h.elim
 | .o _::_,_,h=>h.elim
 | .x _ _ _::_,_,h=>h.elim
noncomputable def zt6 (a:ZA):ZE:=fun δ n Q=>a δ n fun ws n1=>asK ws fun ds=>Q (.d (.tuple ds)) n1
noncomputable def zsi (a:ZA):ZE:=fun δ n Q=>a δ n fun ws n1=>asK ws fun ds=>Q (.d (.list ds)) n1
theorem RWs.length {M:TM K}{H:Hp}{vs:List V}{ws:List Zw}(h:RWs M H vs ws):vs.length=ws.length:=by
 induction h with
 | nil=>rfl
 | cons _ _ ih=>rw[List.length_cons,List.length_cons,ih]
theorem z77 {k:Nat}(h:k≤1000):k≤sizeLine:=small h
theorem z1j {m:Nat}{t:TA}{a:ZA}(ha:SmA K m t a)(hm:m≤1000:=by decide):SmE K (zqs t) (zt6 a):=⟨fun M {σ δ H n Q Qd} ok re h k=>by
 refine ha.o M ok re h fun vs H1 ws n1 k1 o1 r1 hl h1=>?_
 refine ⟨by rw[r1.length,hl];exact z77 hm,fun p hp=>?_⟩
 obtain ⟨ds,e,h1⟩:=zhv h1
 exact k _ _ _ n1 (M.trans k1 (M.same (z0a hp _))) (M.oks o1 (z0a hp _)) (Dt.rw (.newT o1 hp (r1.dts e))) h1⟩
theorem zn8 {m:Nat}{t:TA}{a:ZA}(ha:SmA K m t a)(hm:m≤1000:=by decide):SmF K (zq1 t) (zsi a):=⟨fun M {σ δ H n Q Qd} ok re h k=>by
 refine ha.o M ok re h fun vs H1 ws n1 k1 o1 r1 hl h1=>?_
 refine ⟨by rw[r1.length,hl];exact z77 hm,fun p hp=>?_⟩
 obtain ⟨ds,e,h1⟩:=zhv h1
 exact k p H1 vs ds n1 k1 o1 hp (r1.dts e) h1⟩
theorem z3n {m:Nat}{t:TA}{a:ZA}(ha:SmA K m t a)(hm:m≤1000:=by decide):SmE K (zq1 t) (zsi a):=(zn8 ha hm).e
noncomputable abbrev ZSp:=List Zw→Nat→ZK→Prop
noncomputable def zc3 (K:W.Frag)(z:ZSp):Sp:=fun vs H Q _=>∃(M:TM K) (ws:List Zw) (n:Nat) (Qd:ZK),M.ok H n∧RWs M H vs ws∧z ws n Qd∧Ok1 M H Qd Q
noncomputable def zqk (z:ZSp)(a:ZA):ZE:=fun δ n Q=>a δ n fun ws n1=>z ws n1 Q
noncomputable def CallOk (K:W.Frag)(sp:Sp)(z:ZSp):Prop:=∀vs H Q,zc3 K z vs H Q E0→sp vs H Q E0
theorem CallOk.refl {z:ZSp}:CallOk K (zc3 K z) z:=fun _ _ _ h=>h
theorem z0h {m:Nat}{sp:Sp}{z:ZSp}{t:TA}{a:ZA}(hc:CallOk K sp z)(ha:SmA K m t a):SmE K (zge sp [] E0 t) (zqk z a):=⟨fun M {σ δ H n Q Qd} ok re h k=>by
 refine ha.o M ok re h fun vs H1 ws n1 k1 o1 r1 hl h1=>?_
 rw[List.append_nil]
 exact hc vs H1 _ ⟨M,ws,n1,Qd,o1,r1,h1,k.ke k1⟩⟩
noncomputable def zCB (f:List Zw→Nat→ZK→Prop)(a:ZA):ZE:=fun δ n Q=>a δ n fun ws n1=>f ws n1 Q
theorem z4h {m:Nat}{r:List V→Hp→VK→Prop}{f:List Zw→Nat→ZK→Prop}{t:TA}{a:ZA}(hr:RLk K r f)(ha:SmA K m t a):SmE K (tCB r t) (zCB f a):=⟨fun M {σ δ H n Q Qd} ok re h k=>by
 refine ha.o M ok re h fun vs H1 ws n1 k1 o1 r1 hl h1=>?_
 exact hr M o1 r1 h1 (k.ke k1)⟩
noncomputable def zjc:ZO:=fun _ n Q=>Q none n
noncomputable def zqg (a:ZE):ZO:=fun δ n Q=>a δ n fun x n1=>match x with|.d (.int i)=>Q (some i) n1|_=>False
theorem z1q:SmO K za1 zjc:=⟨fun M {σ δ H n Q Qd} ok re h k=>k none H n (M.refl _) ok h⟩
theorem z24 {ta:TE}{a:ZE}(ha:SmE K ta a):SmO K (zjn ta) (zqg a):=⟨fun M {σ δ H n Q Qd} ok re h k=>by
 refine ha.o M ok re h fun x H1 w n1 k1 o1 r1 h1=>?_
 match w,r1,h1 with
 | .d (.int i),r1,h1=>cases r1;exact ⟨i,rfl,k _ H1 n1 k1 o1 h1⟩⟩
noncomputable def zd5 {α:Type}(xs:List α)(lo hi:Option Int):List α:=(xs.drop (HT.sIx xs.length 0 lo)).take (HT.sIx xs.length xs.length hi-HT.sIx xs.length 0 lo)
theorem Dts.cut {M:TM K}{H:Hp}{vs:List V}{ds:List PyData}(h:Dts M H vs ds)(lo hi:Option Int):Dts M H (z8f vs lo hi) (zd5 ds lo hi):=by
 unfold z8f zd5
 rw[h.length]
 exact (h.drop _).take _
noncomputable def zsy (x:Zw)(l u:Option Int)(n3:Nat)(Q:ZK):Prop:=(∃ds,x=.d (.tuple ds)∧Q (.d (.tuple (zd5 ds l u))) n3)∨(∃ds,x=.d (.list ds)∧Q (.d (.list (zd5 ds l u))) n3)
structure fSl (x:Zw)(l u:Option Int)(n3:Nat)(Q:ZK):Prop where
 o:zsy x l u n3 Q
noncomputable def zSl (a:ZE)(lo hi:ZO):ZE:=fun δ n Q=>a δ n fun x n1=>lo δ n1 fun l n2=>hi δ n2 fun u n3=>fSl x l u n3 Q
theorem z4w {ta:TE}{tl th:TO}{a:ZE}{lo hi:ZO}(ha:SmE K ta a)(hl:SmO K tl lo)(hh:SmO K th hi):SmE K (tSl (fun x lo hi H Q=>zr8 K x lo hi H Q∨zr9 K x lo hi H Q) ta tl th) (zSl a lo hi):=⟨fun M {σ δ H n Q Qd} ok re h k=>by
 refine ha.o M ok re h fun x H1 w n1 k1 o1 r1 h1=>?_
 refine hl.o M o1 (re.ke k1) h1 fun l H2 n2 k2 o2 h2=>?_
 refine hh.o M o2 (re.ke (M.trans k1 k2)) h2 fun u H3 n3 k3 o3 h3=>?_
 have r3:=r1.ke (M.trans k2 k3)
 have k13:=M.trans k1 (M.trans k2 k3)
 replace h3:=h3.o;unfold zsy at h3
 rcases h3 with ⟨ds,rfl,h3⟩|⟨ds,rfl,h3⟩
 ·cases r3 with
  | @tup a xs _ hs hd=>
   refine .inl ⟨a,xs,rfl,hs _ (M.refw _),fun p H4 s4 t4=>?_⟩
   have o4:=M.oks o3 s4
   exact k _ H4 _ n3 (M.trans k13 (M.same s4)) o4 (Dt.rw (.tup (fun _ e=>t4.kpM o4 e) ((hd.ke (M.same s4)).cut l u))) h3
 ·cases r3 with
  | @lst a xs _ hs hd=>
   refine .inr ⟨a,xs,rfl,SqL.of (hs _ (M.refw _)),fun p hp=>?_⟩
   exact k _ _ _ n3 (M.trans k13 (M.same (z0a hp _))) (M.oks o3 (z0a hp _)) (Dt.rw (.newL o3 hp (hd.cut l u))) h3⟩
end
end
section
section
variable {K:W.Frag}
section
variable {M:TM K}{H:Hp}{vs:List V}{w1 w2 w3:Zw}
theorem RWs.inv1 (r:RWs M H vs [w1]):∃v,vs=[v]∧RW M H v w1:=by
 cases r with
 | cons a t=>cases t;exact ⟨_,rfl,a⟩
theorem RWs.inv2 (r:RWs M H vs [w1,w2]):∃v v2,vs=[v,v2]∧RW M H v w1∧RW M H v2 w2:=by
 cases r with
 | cons a t=>obtain ⟨v,rfl,b⟩:=t.inv1;exact ⟨_,_,rfl,a,b⟩
theorem RWs.inv3 (r:RWs M H vs [w1,w2,w3]):∃v v2 v3,vs=[v,v2,v3]∧RW M H v w1∧RW M H v2 w2∧RW M H v3 w3:=by
 cases r with
 | cons a t=>obtain ⟨v,v2,rfl,b,c⟩:=t.inv2;exact ⟨_,_,_,rfl,a,b,c⟩
end
theorem RW.int_inv {M:TM K}{H:Hp}{x:V}{i:Int}(r:RW M H x (.d (.int i))):x=.int i:=by
 have r':Dt M H x (.int i):=r
 cases r';rfl
theorem RW.bl_inv {M:TM K}{H:Hp}{x:V}{i:Bool}(r:RW M H x (.d (.bool i))):x=.bl i:=by
 have r':Dt M H x (.bool i):=r
 cases r';rfl
theorem RW.str_inv {M:TM K}{H:Hp}{x:V}{i:Str}(r:RW M H x (.d (.str i))):x=.str i:=by
 have r':Dt M H x (.str i):=r
 cases r';rfl
theorem RW.tup_inv {M:TM K}{H:Hp}{x:V}{ds:List PyData}(r:RW M H x (.d (.tuple ds))):∃a xs,x=.ref a∧(∀H',M.ke H H'→SqT K H' a xs)∧Dts M H xs ds:=by
 have r':Dt M H x (.tuple ds):=r
 cases r' with
 | tup h t=>exact ⟨_,_,rfl,h,t⟩
theorem RW.lst_inv {M:TM K}{H:Hp}{x:V}{ds:List PyData}(r:RW M H x (.d (.list ds))):∃a xs,x=.ref a∧(∀H',M.ke H H'→H' a=some (.lst xs))∧Dts M H xs ds:=by
 have r':Dt M H x (.list ds):=r
 cases r' with
 | lst h t=>exact ⟨_,_,rfl,h,t⟩
theorem Ok1.now {M:TM K}{H:Hp}{n:Nat}{Qd:ZK}{Q:VK}(k:Ok1 M H Qd Q)(ok:M.ok H n){v:V}{d:PyData}(h:Dt M H v d)(q:Qd (.d d) n):Q v H:=k v H _ n (M.refl _) ok h.rw q
theorem Ok1.sam {M:TM K}{H H':Hp}{n:Nat}{Qd:ZK}{Q:VK}(k:Ok1 M H Qd Q)(ok:M.ok H n)(s:Same H H'){v:V}{d:PyData}(h:Dt M H' v d)(q:Qd (.d d) n):Q v H':=k v H' _ n (M.same s) (M.oks ok s) h.rw q
noncomputable def zt3 (g:Int→Int→PyData):Zw→Zw→Nat→ZK→Prop:=fun w z n Q=>(∃i j,w=.d (.int i)∧z=.d (.int j)∧Q (.d (g i j)) n)
structure f2I (g:Int→Int→PyData)(w:Zw)(z:Zw)(n:Nat)(Q:ZK):Prop where
 o:zt3 g w z n Q
theorem k2I {gV:Int→Int→V}{g:Int→Int→PyData}(hg:∀(M:TM K) H i j,Dt M H (gV i j) (g i j)):R2k K (rI0 gV) (f2I g):=fun M {H n x y w z Q Qd} ok rx ry h k=>by
 replace h:=h.o;unfold zt3 at h
 obtain ⟨i,j,rfl,rfl,h⟩:=h
 rw[rx.int_inv,ry.int_inv];exact ⟨i,j,rfl,rfl,k.now ok (hg M H i j) h⟩
noncomputable abbrev zsx:=f2I fun i j=>.int (i-j)
theorem z9h:R2k K (rI0 fun i j=>.int (i-j)) zsx:=k2I fun _ _ _ _=>.int _
noncomputable abbrev fLt:=f2I fun i j=>.bool (decide (i<j))
theorem zrz:R2k K (rI0 fun i j=>.bl (decide (i<j))) fLt:=k2I fun _ _ _ _=>.bl _
noncomputable abbrev fLe:=f2I fun i j=>.bool (decide (i≤j))
theorem zu0:R2k K (rI0 fun i j=>.bl (decide (i≤j))) fLe:=k2I fun _ _ _ _=>.bl _
noncomputable abbrev fGt:=f2I fun i j=>.bool (decide (j<i))
theorem zu1:R2k K (rI0 fun i j=>.bl (decide (j<i))) fGt:=k2I fun _ _ _ _=>.bl _
noncomputable def zt4 (C:Int→Int→Prop)(g:Int→Int→PyData):Zw→Zw→Nat→ZK→Prop:=fun w z n Q=>(∃i j,w=.d (.int i)∧z=.d (.int j)∧C i j∧Q (.d (g i j)) n)
structure f2C (C:Int→Int→Prop)(g:Int→Int→PyData)(w:Zw)(z:Zw)(n:Nat)(Q:ZK):Prop where
 o:zt4 C g w z n Q
theorem k2C {C:Int→Int→Prop}{gV:Int→Int→V}{g:Int→Int→PyData}(hg:∀(M:TM K) H i j,Dt M H (gV i j) (g i j)):R2k K (rI C gV) (f2C C g):=fun M {H n x y w z Q Qd} ok rx ry h k=>by
 replace h:=h.o;unfold zt4 at h
 obtain ⟨i,j,rfl,rfl,h⟩:=h
 rw[rx.int_inv,ry.int_inv];exact ⟨i,j,rfl,rfl,h.1,k.now ok (hg M H i j) h.2⟩
noncomputable abbrev zt1:=f2C (fun _ j=>0<j) fun i j=>.int (i%j)
theorem zry:R2k K (rI (fun _ j=>0<j) fun i j=>.int (i%j)) zt1:=k2C fun _ _ _ _=>.int _
noncomputable abbrev zsz:=f2C zqc fun i j=>.int (i^j.toNat)
theorem zlk:R2k K (rI zqc fun i j=>.int (i^j.toNat)) zsz:=k2C fun _ _ _ _=>.int _
noncomputable def zpr:Zw→Zw→Nat→ZK→Prop:=fun w z n Q=>(∃i j,w=.d (.int i)∧z=.d (.int j)∧Q (.d (.int (i+j))) n)∨(∃a b,w=.d (.tuple a)∧z=.d (.tuple b)∧a.length+b.length≤1000000∧Q (.d (.tuple (a++b))) n)∨(∃a b,w=.d (.list a)∧z=.d (.list b)∧a.length+b.length≤1000000∧Q (.d (.list (a++b))) n)∨(∃a b,w=.d (.str a)∧z=.d (.str b)∧a.length+b.length≤1000000∧Q (.d (.str (a++b))) n)
structure fAdd (w:Zw)(z:Zw)(n:Nat)(Q:ZK):Prop where
 o:zpr w z n Q
theorem zer {k:Nat}(h:k≤1000000):k≤sizeLine:=by rw[sizeLine_eq];omega
theorem z30:R2k K (rOr (rI0 fun i j=>V.int (i+j)) (rOr (zgn K) (rOr zgo zac))) fAdd:=fun M {H n x y w z Q Qd} ok rx ry h k=>by
 replace h:=h.o;unfold zpr at h
 rcases h with ⟨i,j,rfl,rfl,h⟩|⟨a,b,rfl,rfl,h⟩|⟨a,b,rfl,rfl,h⟩|⟨a,b,rfl,rfl,h⟩
 ·rw[rx.int_inv,ry.int_inv];exact .inl ⟨i,j,rfl,rfl,k.now ok (.int _) h⟩
 ·obtain ⟨p,xs,rfl,hx,dx⟩:=rx.tup_inv
  obtain ⟨q,ys,rfl,hy,dy⟩:=ry.tup_inv
  refine .inr (.inl ⟨p,q,xs,ys,rfl,rfl,hx _ (M.refw _),hy _ (M.refw _),by rw[dx.length,dy.length];exact zer h.1,fun p' H' s t=>?_⟩)
  exact k.sam ok s (.tup (fun _ e=>t.kpM (M.oks ok s) e) ((dx.append dy).ke (M.same s))) h.2
 ·obtain ⟨p,xs,rfl,hx,dx⟩:=rx.lst_inv
  obtain ⟨q,ys,rfl,hy,dy⟩:=ry.lst_inv
  refine .inr (.inr (.inl ⟨p,q,xs,ys,rfl,rfl,.inl (hx _ (M.refw _)),.inl (hy _ (M.refw _)),by rw[dx.length,dy.length];exact zer h.1,fun p' hp=>?_⟩))
  exact k.sam ok (z0a hp _) (.newL ok hp (dx.append dy)) h.2
 ·rw[rx.str_inv,ry.str_inv]
  exact .inr (.inr (.inr ⟨a,b,rfl,rfl,zer h.1,k.now ok (.str _) h.2⟩))
noncomputable def zpl:Zw→Zw→Nat→ZK→Prop:=fun w z n Q=>(∃i j,w=.d (.int i)∧z=.d (.int j)∧((CMul i j∨zg4 i j)∧Q (.d (.int (i*j))) n))∨(∃a j,w=.d (.tuple a)∧z=.d (.int j)∧(-(2^62)≤j∧j<2^62∧a.length*j.toNat≤100000)∧Q (.d (.tuple (List.replicate j.toNat a).flatten)) n)∨(∃a j,w=.d (.list a)∧z=.d (.int j)∧(-(2^62)≤j∧j<2^62∧a.length*j.toNat≤100000)∧Q (.d (.list (List.replicate j.toNat a).flatten)) n)
structure fMul (w:Zw)(z:Zw)(n:Nat)(Q:ZK):Prop where
 o:zpl w z n Q
theorem zey:R2k K (rOr (rI CMul fun i j=>V.int (i*j)) (rOr (rI zg4 fun i j=>V.int (i*j)) (rOr (zkf K) zra))) fMul:=fun M {H n x y w z Q Qd} ok rx ry h k=>by
 replace h:=h.o;unfold zpl at h
 rcases h with ⟨i,j,rfl,rfl,h⟩|⟨a,j,rfl,rfl,h⟩|⟨a,j,rfl,rfl,h⟩
 ·rw[rx.int_inv,ry.int_inv]
  rcases h.1 with c|c
  ·exact .inl ⟨i,j,rfl,rfl,c,k.now ok (.int _) h.2⟩
  ·exact .inr (.inl ⟨i,j,rfl,rfl,c,k.now ok (.int _) h.2⟩)
 ·obtain ⟨p,xs,rfl,hx,dx⟩:=rx.tup_inv
  rw[ry.int_inv]
  refine .inr (.inr (.inl ⟨p,j,xs,rfl,rfl,hx _ (M.refw _),h.1.1,h.1.2.1,by rw[dx.length];exact h.1.2.2,fun p' H' s t=>?_⟩))
  exact k.sam ok s (.tup (fun _ e=>t.kpM (M.oks ok s) e) ((dx.rep _).ke (M.same s))) h.2
 ·obtain ⟨p,xs,rfl,hx,dx⟩:=rx.lst_inv
  rw[ry.int_inv]
  refine .inr (.inr (.inr ⟨p,j,xs,rfl,rfl,hx _ (M.refw _),by have:=h.1.1;omega,by have:=h.1.2.1;omega,by rw[dx.length];exact zer (Nat.le_trans h.1.2.2 (by decide)),fun p' hp=>?_⟩))
  exact k.sam ok (z0a hp _) (.newL ok hp (dx.rep _)) h.2
noncomputable def scD:PyData→PyData→Bool
 | .none,.none=>true|.none,.int _=>true|.int _,.none=>true|.none,.bool _=>true|.bool _,.none=>true|.none,.str _=>true|.str _,.none=>true
 | .int _,.int _=>true|.bool _,.bool _=>true|.str _,.str _=>true
 | .int _,.str _=>true|.str _,.int _=>true|.bool _,.str _=>true|.str _,.bool _=>true
 | _,_=>false
noncomputable def eqS:PyData→PyData→Bool
 | .none,.none=>true
 | .int i,.int j=>decide (i=j)
 | .bool i,.bool j=>decide (i=j)
 | .str i,.str j=>decide (i=j)
 | _,_=>false
theorem zna {M:TM K}{H:Hp}{x y:V}{a b:PyData}(hx:Dt M H x a)(hy:Dt M H y b)(h:scD a b=true):zr2 x y=true∧decide (x=y)=eqS a b:=by
 cases hx<;>cases hy<;>first
  | (cases h;done)
  |exact ⟨rfl,by simp[eqS]⟩
noncomputable def EqvOk (a b:PyData):Prop:=a.canLay0=true∧b.canLay0=true∧a.depth≤60
noncomputable def zru:PyData→PyData→Option Bool
 | .list a,.list b=>if a.length=b.length then none else some false
 | .tuple a,.tuple []=>some (decide (a.length=0))
 | _,_=>none
noncomputable def zt2:Zw→Zw→Nat→ZK→Prop:=fun w z n Q=>(∃a b,w=.d a∧z=.d b∧((scD a b=true∧Q (.d (.bool (eqS a b))) n)∨(EqvOk a b∧Q (.d (.bool (a.eqv b))) n)∨(∃c,zru a b=some c∧Q (.d (.bool c)) n)))
structure fEq (w:Zw)(z:Zw)(n:Nat)(Q:ZK):Prop where
 o:zt2 w z n Q
noncomputable def zt0:Zw→Zw→Nat→ZK→Prop:=fun w z n Q=>(∃a b,w=.d a∧z=.d b∧((scD a b=true∧Q (.d (.bool (!eqS a b))) n)∨(EqvOk a b∧Q (.d (.bool (!a.eqv b))) n)∨(∃c,zru a b=some c∧Q (.d (.bool !c)) n)))
structure fNe (w:Zw)(z:Zw)(n:Nat)(Q:ZK):Prop where
 o:zt0 w z n Q
theorem ziw {M:TM K}{H:Hp}{x y:V}{a b:PyData}{c:Bool}(hx:Dt M H x a)(hy:Dt M H y b)(h:zru a b=some c){P:Bool→Prop}(q:P c):∃a b xs ys,x=.ref a∧y=.ref b∧((SqL K H a xs∧SqL K H b ys∧xs.length≠ys.length)∨(SqT K H a xs∧SqT K H b ys∧ys=[]))∧((xs.length=ys.length∧P true)∨(xs.length≠ys.length∧P false)):=by
 match a,b,hx,hy,h with
 | .list a,.list b,hx,hy,h=>
  obtain ⟨p,xs,rfl,hx,dx⟩:=hx.rw.lst_inv
  obtain ⟨p2,ys,rfl,hy,dy⟩:=hy.rw.lst_inv
  have h':(if a.length=b.length then none else some false)=some c:=h
  by_cases e:a.length=b.length
  ·rw[if_pos e]at h';cases h'
  ·rw[if_neg e]at h';cases h'
   have ne:xs.length≠ys.length:=by rw[dx.length,dy.length];exact e
   exact ⟨p,p2,xs,ys,rfl,rfl,.inl ⟨SqL.of (hx _ (M.refw _)),SqL.of (hy _ (M.refw _)),ne⟩,.inr ⟨ne,q⟩⟩
 | .tuple a,.tuple [],hx,hy,h=>
  obtain ⟨p,xs,rfl,hx,dx⟩:=hx.rw.tup_inv
  obtain ⟨p2,ys,rfl,hy,dy⟩:=hy.rw.tup_inv
  cases dy
  have h':some (decide (a.length=0))=some c:=h
  cases h'
  refine ⟨p,p2,xs,[],rfl,rfl,.inr ⟨hx _ (M.refw _),hy _ (M.refw _),rfl⟩,?_⟩
  by_cases e:a.length=0
  ·rw[decide_eq_true e]at q;exact .inl ⟨by rw[dx.length];exact e,q⟩
  ·rw[decide_eq_false e]at q;exact .inr ⟨by rw[dx.length];exact e,q⟩
theorem zhe:R2k K (rOr rEq (rOr (fun x y H Q=>∃d e,Dv K H x d∧Dv K H y e∧d.canLay0=true∧e.canLay0=true∧d.depth≤60∧Q (V.bl (d.eqv e)) H) (z79 K false))) fEq:=fun M {H n x y w z Q Qd} ok rx ry h k=>by
 replace h:=h.o;unfold zt2 at h
 obtain ⟨a,b,rfl,rfl,h⟩:=h
 have rx':Dt M H x a:=rx
 have ry':Dt M H y b:=ry
 rcases h with ⟨s,h⟩|⟨⟨c1,c2,c3⟩,h⟩|⟨c,e,h⟩
 ·obtain ⟨s1,s2⟩:=zna rx' ry' s
  refine .inl ⟨s1,?_⟩
  rw[s2]
  exact k.now ok (.bl _) h
 ·exact .inr (.inl ⟨a,b,rx'.dv,ry'.dv,c1,c2,c3,k.now ok (.bl _) h⟩)
 ·exact .inr (.inr (ziw rx' ry' e (P:=fun c=>Q (.bl c) H) (k.now ok (.bl _) h)))
theorem zq9:R2k K (rOr rNe (rOr (fun x y H Q=>∃d e,Dv K H x d∧Dv K H y e∧d.canLay0=true∧e.canLay0=true∧d.depth≤60∧Q (V.bl (!d.eqv e)) H) (z79 K true))) fNe:=fun M {H n x y w z Q Qd} ok rx ry h k=>by
 replace h:=h.o;unfold zt0 at h
 obtain ⟨a,b,rfl,rfl,h⟩:=h
 have rx':Dt M H x a:=rx
 have ry':Dt M H y b:=ry
 rcases h with ⟨s,h⟩|⟨⟨c1,c2,c3⟩,h⟩|⟨c,e,h⟩
 ·obtain ⟨s1,s2⟩:=zna rx' ry' s
  refine .inl ⟨s1,?_⟩
  rw[s2]
  exact k.now ok (.bl _) h
 ·exact .inr (.inl ⟨a,b,rx'.dv,ry'.dv,c1,c2,c3,k.now ok (.bl _) h⟩)
 ·exact .inr (.inr (ziw rx' ry' e (P:=fun c=>Q (.bl (!c)) H) (k.now ok (.bl _) h)))
noncomputable def isD:PyData→PyData→Option Bool
 | .bool c,.bool b=>some (decide (c=b))
 | .tuple _,.bool _=>some false
 | .list _,.bool _=>some false
 | .dict _,.bool _=>some false
 | .none,.none=>some true
 | _,.none=>some false
 | _,_=>none
noncomputable def zu4:Zw→Zw→Nat→ZK→Prop:=fun w z n Q=>∃a b c,w=.d a∧z=.d b∧isD a b=some c∧Q (.d (.bool c)) n
structure fIs (w:Zw)(z:Zw)(n:Nat)(Q:ZK):Prop where
 o:zu4 w z n Q
noncomputable def zpo:Zw→Zw→Nat→ZK→Prop:=fun w z n Q=>∃a b c,w=.d a∧z=.d b∧isD a b=some c∧Q (.d (.bool !c)) n
structure fIsnt (w:Zw)(z:Zw)(n:Nat)(Q:ZK):Prop where
 o:zpo w z n Q
noncomputable def zsq:R2:=fun x y H Q=>(∃b,y=.bl b∧((∃c,x=.bl c∧Q (.bl (decide (c=b))) H)∨∃a,x=.ref a∧Q (.bl false) H))∨(y=.non∧Q (.bl (decide (x=.non))) H)
noncomputable def zim:R2:=fun x y H Q=>(∃b,y=.bl b∧((∃c,x=.bl c∧Q (.bl (!decide (c=b))) H)∨∃a,x=.ref a∧Q (.bl true) H))∨(y=.non∧Q (.bl (!decide (x=.non))) H)
theorem zom {X:Cx}:OpR X (compareOp .Is) zsq:=by
 intro pins s σ H x y v u Q I rx ry h
 rcases h with h|⟨rfl,q⟩
 ·exact zol pins s σ H x y v u Q I rx ry h
 ·cases ry
  exact is_none_gen ⟨.bl _,H,I,by rw[rx.none_iff];rfl,q⟩
theorem zh2 {X:Cx}:OpR X (compareOp .IsNot) zim:=by
 intro pins s σ H x y v u Q I rx ry h
 rcases h with h|⟨rfl,q⟩
 ·exact zeh pins s σ H x y v u Q I rx ry h
 ·cases ry
  exact isnot_none_gen ⟨.bl _,H,I,by rw[rx.none_iff];rfl,q⟩
theorem zpb {M:TM K}{H:Hp}{x y:V}{a b:PyData}{c:Bool}(hx:Dt M H x a)(hy:Dt M H y b)(h:isD a b=some c){P:Bool→Prop}(q:P c):(∃b,y=.bl b∧((∃c,x=.bl c∧P (decide (c=b)))∨∃a,x=.ref a∧P false))∨(y=.non∧P (decide (x=.non))):=by
 cases hx<;>cases hy<;>first
  | (cases h;done)
  | (cases h;exact .inl ⟨_,rfl,.inl ⟨_,rfl,q⟩⟩)
  | (cases h;exact .inl ⟨_,rfl,.inr ⟨_,rfl,q⟩⟩)
  | (cases h;exact .inr ⟨rfl,q⟩)
theorem k_is:R2k K zsq fIs:=fun M {H n x y w z Q Qd} ok rx ry h k=>by
 obtain ⟨a,b,c,rfl,rfl,e,h⟩:=h.o
 exact zpb rx ry e (P:=fun c=>Q (.bl c) H) (k.now ok (.bl _) h)
theorem zp2:R2k K zim fIsnt:=fun M {H n x y w z Q Qd} ok rx ry h k=>by
 obtain ⟨a,b,c,rfl,rfl,e,h⟩:=h.o
 exact zpb rx ry e (P:=fun c=>Q (.bl (!c)) H) (k.now ok (.bl _) h)
noncomputable def zu3:Zw→Zw→Nat→ZK→Prop:=fun w z n Q=>(∃ds i d,w=.d (.tuple ds)∧z=.d (.int i)∧atI ds i=some d∧Q (.d d) n)∨(∃ds i d,w=.d (.list ds)∧z=.d (.int i)∧atI ds i=some d∧Q (.d d) n)
structure fIx (w:Zw)(z:Zw)(n:Nat)(Q:ZK):Prop where
 o:zu3 w z n Q
theorem zfz {M:TM K}{H:Hp}{vs:List V}{ds:List PyData}{i:Int}{d:PyData}(h:Dts M H vs ds)(e:atI ds i=some d):∃v,atI vs i=some v∧Dt M H v d:=by
 unfold atI at e ⊢
 rw[h.length]
 cases e1:ixN ds.length i with
 | none=>rw[e1]at e;cases e
 | some j=>
  rw[e1]at e
  obtain ⟨v,h1,h2⟩:=h.get (show ds[j]?=some d from e)
  exact ⟨v,h1,h2⟩
theorem zd9:R2k K (rIx K) fIx:=fun M {H n x y w z Q Qd} ok rx ry h k=>by
 rcases h.o with ⟨ds,i,d,rfl,rfl,e,h⟩|⟨ds,i,d,rfl,rfl,e,h⟩
 ·obtain ⟨p,xs,rfl,hx,dx⟩:=rx.tup_inv
  rw[ry.int_inv]
  obtain ⟨v,e1,dv⟩:=zfz dx e
  exact .inr (.inl ⟨p,xs,i,v,rfl,rfl,hx _ (M.refw _),e1,k.now ok dv h⟩)
 ·obtain ⟨p,xs,rfl,hx,dx⟩:=rx.lst_inv
  rw[ry.int_inv]
  obtain ⟨v,e1,dv⟩:=zfz dx e
  exact .inl ⟨p,xs,i,v,rfl,rfl,SqL.of (hx _ (M.refw _)),e1,k.now ok dv h⟩
theorem zs6 {ds:List PyData}{i:Int}{d:PyData}{n:Nat}{Q:ZK}(e:atI ds i=some d)(q:Q (.d d) n):fIx (.d (.tuple ds)) (.d (.int i)) n Q:=⟨.inl ⟨ds,i,d,rfl,rfl,e,q⟩⟩
theorem zs7 {ds:List PyData}{i:Int}{d:PyData}{n:Nat}{Q:ZK}(e:atI ds i=some d)(q:Q (.d d) n):fIx (.d (.list ds)) (.d (.int i)) n Q:=⟨.inr ⟨ds,i,d,rfl,rfl,e,q⟩⟩
noncomputable def zpn:List Zw→Nat→ZK→Prop:=fun ws n Q=>(∃ds,ws=[.d (.tuple ds)]∧Q (.d (.int (ds.length:Int))) n)∨(∃ds,ws=[.d (.list ds)]∧Q (.d (.int (ds.length:Int))) n)
structure fLen (ws:List Zw)(n:Nat)(Q:ZK):Prop where
 o:zpn ws n Q
theorem zaq:RLk K (znn K) fLen:=fun M {H n xs ws Q Qd} ok r h k=>by
 replace h:=h.o;unfold zpn at h
 rcases h with ⟨ds,rfl,h⟩|⟨ds,rfl,h⟩
 ·replace r:=r.inv1;obtain ⟨v1,rfl,r⟩:=r
  obtain ⟨p,xs,rfl,hx,dx⟩:=r.tup_inv
  refine ⟨p,xs,rfl,.inr (hx _ (M.refw _)),?_⟩
  rw[dx.length];exact k.now ok (.int _) h
 ·replace r:=r.inv1;obtain ⟨v1,rfl,r⟩:=r
  obtain ⟨p,xs,rfl,hx,dx⟩:=r.lst_inv
  refine ⟨p,xs,rfl,.inl (SqL.of (hx _ (M.refw _))),?_⟩
  rw[dx.length];exact k.now ok (.int _) h
noncomputable def zpm:List Zw→Nat→ZK→Prop:=fun ws n Q=>(∃i j,ws=[.d (.int i),.d (.int j)]∧Q (.d (.int (if j>i then j else i))) n)
structure fMax (ws:List Zw)(n:Nat)(Q:ZK):Prop where
 o:zpm ws n Q
theorem zp1:RLk K (fun xs H Q=>∃i j,xs=[V.int i,V.int j]∧Q (V.int (if j>i then j else i)) H) fMax:=fun M {H n xs ws Q Qd} ok r h k=>by
 replace h:=h.o;unfold zpm at h
 obtain ⟨i,j,rfl,h⟩:=h
 replace r:=r.inv2;obtain ⟨v1,v2,rfl,r,r2⟩:=r
 rw[r.int_inv,r2.int_inv];exact ⟨i,j,rfl,k.now ok (.int _) h⟩
noncomputable def zj0:List Zw→Nat→ZK→Prop:=fun ws n Q=>(∃x,ws=[.d x]∧(Shw x∧∀k,k=x.shown→Q (.d (.str k)) n))
structure fRepr (ws:List Zw)(n:Nat)(Q:ZK):Prop where
 o:zj0 ws n Q
theorem zix:RLk K (zil K) fRepr:=fun M {H n xs ws Q Qd} ok r h k=>by
 replace h:=h.o;unfold zj0 at h
 obtain ⟨x,rfl,h⟩:=h
 replace r:=r.inv1;obtain ⟨v1,rfl,r⟩:=r
 have r':Dt M H _ x:=r
 exact ⟨_,x,x.shown,rfl,r'.dv,h.1,rfl,k.now ok (.str _) (h.2 _ rfl)⟩
noncomputable def isC (d:PyData):Tk→Bool
 | .int=>z9j d
 | .bool=>z88 d
 | .tuple=>z2x d
 | .list=>zpa d
 | .dict=>match d with|.dict _=>true|_=>false
 | .str=>match d with|.str _=>true|_=>false
theorem zrx (d:PyData)(c:Tk):PySem.W.kitOne K (.type (z4f d)) (.type c.nm)=some (isC d c):=by cases c<;>cases d<;>rfl
noncomputable def zpp:List Zw→Nat→ZK→Prop:=fun ws n Q=>(∃x c,ws=[.d x,.ty c]∧Q (.d (.bool (isC x c))) n)
structure fIsi (ws:List Zw)(n:Nat)(Q:ZK):Prop where
 o:zpp ws n Q
theorem zs0:RLk K (zno K) fIsi:=fun M {H n xs ws Q Qd} ok r h k=>by
 replace h:=h.o;unfold zpp at h
 obtain ⟨x,c,rfl,h⟩:=h
 replace r:=r.inv2;obtain ⟨v1,v2,rfl,r,r2⟩:=r
 have r':Dt M H _ x:=r
 have r2':_=V.ty c.nm:=r2
 subst r2'
 exact ⟨_,_,_,_,rfl,r'.dv.ty,zrx x c,k.now ok (.bl _) h⟩
noncomputable def zfa:List Zw→Nat→ZK→Prop:=fun ws n Q=>(∃ds,ws=[.d (.tuple ds)]∧Q (.d (.tuple ds)) n)∨(∃ds,ws=[.d (.list ds)]∧Q (.d (.tuple ds)) n)
structure fTupOf (ws:List Zw)(n:Nat)(Q:ZK):Prop where
 o:zfa ws n Q
theorem zlj:RLk K (znl K) fTupOf:=fun M {H n xs ws Q Qd} ok r h k=>by
 replace h:=h.o;unfold zfa at h
 rcases h with ⟨ds,rfl,h⟩|⟨ds,rfl,h⟩
 ·replace r:=r.inv1;obtain ⟨v1,rfl,r⟩:=r
  obtain ⟨p,xs,rfl,hx,dx⟩:=r.tup_inv
  exact ⟨p,xs,rfl,.inr ⟨hx _ (M.refw _),k.now ok (.tup hx dx) h⟩⟩
 ·replace r:=r.inv1;obtain ⟨v1,rfl,r⟩:=r
  obtain ⟨p,xs,rfl,hx,dx⟩:=r.lst_inv
  exact ⟨p,xs,rfl,.inl ⟨SqL.of (hx _ (M.refw _)),fun l hl=>k.sam ok (z0a hl _) (.newT ok hl dx) h⟩⟩
theorem Dts.ints {M:TM K}{H:Hp}:∀{vs:List V}{ns:List Int},Dts M H vs (ns.map PyData.int)→vs=ns.map V.int
 | _,[],h=>by cases h;rfl
 | _,n::ns,h=>by
  cases h with
  | cons h t=>cases h;rw[Dts.ints t];rfl
noncomputable def zfb:List Zw→Nat→ZK→Prop:=fun ws n Q=>(∃i,ws=[.d (.int i)]∧Q (.d (.int i)) n)∨(∃b,ws=[.d (.bool b)]∧Q (.d (.int (if b=true then 1 else 0))) n)
structure fIntOf (ws:List Zw)(n:Nat)(Q:ZK):Prop where
 o:zfb ws n Q
theorem zll:RLk K (fun xs H Q=>(∃i,xs=[V.int i]∧Q (V.int i) H)∨∃k,xs=[V.bl k]∧Q (V.int (if k=true then 1 else 0)) H) fIntOf:=fun M {H n xs ws Q Qd} ok r h k=>by
 replace h:=h.o;unfold zfb at h
 rcases h with ⟨i,rfl,h⟩|⟨i,rfl,h⟩
 ·replace r:=r.inv1;obtain ⟨v1,rfl,r⟩:=r
  rw[r.int_inv];exact .inl ⟨i,rfl,k.now ok (.int _) h⟩
 ·replace r:=r.inv1;obtain ⟨v1,rfl,r⟩:=r
  rw[r.bl_inv];exact .inr ⟨i,rfl,k.now ok (.int _) h⟩
end
end
section
section
variable {K:W.Frag}
theorem zp8 {M:TM K}{H:Hp}{a:Addr}{xs:List V}{ds:List PyData}(h:∀H',M.ke H H'→H' a=some (.lst xs))(d:Dts M H xs ds):ItOk M H (Itl K a) ds:=fun H' k=>by
 have e:=h H' k
 refine ⟨fun i x hx=>?_,⟨xs,SqL.of e,by rw[d.length];exact Nat.le_refl _⟩⟩
 obtain ⟨v,e1,dv⟩:=d.get hx
 refine ⟨⟨xs,v,SqL.of e,e1⟩,fun y H'' hy=>?_⟩
 obtain ⟨rfl,hy⟩:=hy
 have:=hy xs (SqL.of e)
 rw[e1]at this
 cases this
 exact .inl ⟨rfl,dv⟩
theorem zp6 {M:TM K}{H:Hp}{a:Addr}{xs:List V}{ds:List PyData}(h:∀H',M.ke H H'→SqT K H' a xs)(d:Dts M H xs ds):ItOk M H (Itt K a) ds:=fun H' k=>by
 have e:=h H' k
 refine ⟨fun i x hx=>?_,⟨xs,e,by rw[d.length];exact Nat.le_refl _⟩⟩
 obtain ⟨v,e1,dv⟩:=d.get hx
 refine ⟨⟨xs,v,e,e1⟩,fun y H'' hy=>?_⟩
 obtain ⟨rfl,hy⟩:=hy
 have:=hy xs e
 rw[e1]at this
 cases this
 exact .inl ⟨rfl,dv⟩
noncomputable def zma (lo:Int)(k:Nat):List PyData:=(List.range k).map fun (i:Nat)=>.int (lo+(i:Int))
theorem z5m (lo:Int)(k:Nat):(zma lo k).length=k:=by unfold zma;rw[List.length_map,List.length_range]
theorem z4k {lo:Int}{k i:Nat}{d:PyData}(h:(zma lo k)[i]?=some d):i<k∧d=.int (lo+(i:Int)):=by
 unfold zma at h
 rw[List.getElem?_map]at h
 by_cases hi:i<k
 ·rw[List.getElem?_range hi]at h;cases h;exact ⟨hi,rfl⟩
 ·rw[List.getElem?_eq_none (by rw[List.length_range];omega)]at h;cases h
theorem zp7 {M:TM K}{H:Hp}(lo:Int)(k:Nat):ItOk M H (Itr lo k) (zma lo k):=fun H' _=>by
 refine ⟨fun i x hx=>?_,by rw[z5m];exact Nat.le_refl k⟩
 obtain ⟨hi,rfl⟩:=z4k hx
 refine ⟨hi,fun y H'' hy=>?_⟩
 obtain ⟨rfl,rfl⟩:=hy
 exact .inl ⟨rfl,.int _⟩
noncomputable def zpq (x:Zw)(n1:Nat)(R:List PyData→Nat→Prop):Prop:=(∃ds,x=.d (.tuple ds)∧R ds n1)∨(∃ds,x=.d (.list ds)∧R ds n1)
structure fAny (x:Zw)(n1:Nat)(R:List PyData→Nat→Prop):Prop where
 o:zpq x n1 R
noncomputable def ztf (a:ZE):ZI:=fun δ n R=>a δ n fun x n1=>fAny x n1 R
theorem zbe {ta:TE}{a:ZE}(ha:SmE K ta a):SmI K (zs1 K ta) (ztf a):=⟨fun M {σ δ H n R Rd} ok re h k=>by
 refine ha.o M ok re h fun x H1 w n1 k1 o1 r1 h1=>?_
 replace h1:=h1.o;unfold zpq at h1
 rcases h1 with ⟨ds,rfl,h1⟩|⟨ds,rfl,h1⟩
 ·obtain ⟨p,xs,rfl,hx,dx⟩:=r1.tup_inv
  exact ⟨p,rfl,.inr ⟨⟨xs,hx _ (M.refw _)⟩,k _ H1 ds n1 k1 o1 (zp6 hx dx) h1⟩⟩
 ·obtain ⟨p,xs,rfl,hx,dx⟩:=r1.lst_inv
  exact ⟨p,rfl,.inl ⟨⟨xs,SqL.of (hx _ (M.refw _))⟩,k _ H1 ds n1 k1 o1 (zp8 hx dx) h1⟩⟩⟩
noncomputable def zqf (a:ZA):ZI:=fun δ n R=>a δ n fun ws n1=>match ws with|[.d (.int j)]=>(-(2^62)≤j∧j<2^62)∧R (zma 0 j.toNat) n1|_=>False
theorem z7r {m:Nat}{ta:TA}{a:ZA}(ha:SmA K m ta a):SmI K (zlp ta) (zqf a):=⟨fun M {σ δ H n R Rd} ok re h k=>by
 refine ha.o M ok re h fun vs H1 ws n1 k1 o1 r1 _ h1=>?_
 match ws,r1,h1 with
 | [.d (.int j)],.cons r .nil,h1=>rw[r.int_inv];exact ⟨j,rfl,h1.1.1,h1.1.2,k _ H1 _ n1 k1 o1 (zp7 0 _) h1.2⟩⟩
noncomputable def zmf (i:Nat):ZG:=fun d δ n Q=>Q (zs δ i (.d d)) n
theorem z46 {i:Nat}:SmG K (z54 i) (zmf i):=⟨fun M {σ δ H n v d Q Qd} ok re dv h k=>k _ H _ n (M.refl _) ok (re.set dv.rw i) h⟩
noncomputable def zqe:ZGs:=fun ds δ n Q=>match ds with|[]=>Q δ n|_=>False
noncomputable def zmd (g:ZG)(r:ZGs):ZGs:=fun ds δ n Q=>match ds with|d::t=>g d δ n fun δ' n'=>r t δ' n' Q|[]=>False
theorem zid:SmGs K zqa zqe:=⟨fun M {σ δ H n vs ds Q Qd} ok re dv h k=>by
 cases dv with
 | nil=>exact ⟨rfl,k _ H _ n (M.refl _) ok re h⟩
 | cons _ _=>exact h.elim⟩
theorem z7u {g:TG}{r:TGs}{zg:ZG}{zr:ZGs}(hg:SmG K g zg)(hr:SmGs K r zr):SmGs K (zf5 g r) (zmd zg zr):=⟨fun M {σ δ H n vs ds Q Qd} ok re dv h k=>by
 cases dv with
 | nil=>exact h.elim
 | cons d t=>
  refine ⟨_,_,rfl,hg.o M ok re d h fun σ' H' δ' n' k1 o1 re1 h1=>?_⟩
  exact hr.o M o1 re1 (t.ke k1) h1 fun σ2 H2 δ2 n2 k2 o2 re2 h2=>k σ2 H2 δ2 n2 (M.trans k1 k2) o2 re2 h2⟩
noncomputable def zpk (m:Nat)(d:PyData)(R:List PyData→Prop):Prop:=(∃ds,d=.tuple ds∧ds.length=m∧R ds)
structure fUnp (m:Nat)(d:PyData)(R:List PyData→Prop):Prop where
 o:zpk m d R
noncomputable def zqd (m:Nat)(g:ZGs):ZG:=fun d δ n Q=>fUnp m d fun ds=>g ds δ n Q
theorem zic {m:Nat}{g:TGs}{zg:ZGs}(hg:SmGs K g zg):SmG K (zpi K m g) (zqd m zg):=⟨fun M {σ δ H n v d Q Qd} ok re dv h k=>by
 replace h:fUnp m d (fun ds=>zg ds δ n Qd):=h
 replace h:=h.o;unfold zpk at h
 obtain ⟨ds,rfl,h⟩:=h
 obtain ⟨p,xs,rfl,hx,dx⟩:=dv.rw.tup_inv
 exact ⟨p,xs,rfl,hx _ (M.refw _),by rw[dx.length];exact h.1,hg.o M ok re dx h.2 k⟩⟩
variable {EE:XS}
noncomputable def zqh:ZS:=fun D δ n=>D.nx δ n
noncomputable def zt8 (s t:ZS):ZS:=fun D δ n=>s {D with nx:=t D} δ n
theorem z3a:SmS K EE zgd zqh:=⟨fun M {σ δ H n D Dd} ok re h k=>k.nx _ H _ n (M.refl _) ok re h⟩
theorem z2d {s t:TS}{zs' zt:ZS}(hs:SmS K EE s zs')(ht:SmS K EE t zt):SmS K EE (zpz s t) (zt8 zs' zt):=⟨fun M {σ δ H n D Dd} ok re h k=>by
 refine hs.o M ok re h ⟨fun σ1 H1 δ1 n1 k1 o1 re1 h1=>?_,k.rt,k.bk,k.ct,k.xr⟩
 exact ht.o M o1 re1 h1 (k.ke k1)⟩
noncomputable def zt9 (a:ZE):ZS:=fun D δ n=>a δ n D.rt
theorem z2w {ta:TE}{a:ZE}(ha:SmE K ta a):SmS K EE (zq0 ta) (zt9 a):=⟨fun M {σ δ H n D Dd} ok re h k=>ha.o M ok re h k.rt⟩
noncomputable def ztc (t:ZT)(a b:ZS):ZS:=fun D δ n=>t δ n fun c n1=>cnd c (a D δ n1) (b D δ n1)
theorem z7q {tt:TT}{t u:TS}{zt:ZT}{a b:ZS}(ht:SmT K tt zt)(ha:SmS K EE t a)(hb:SmS K EE u b):SmS K EE (zq2 tt t u) (ztc zt a b):=⟨fun M {σ δ H n D Dd} ok re h k=>by
 refine ht.o M ok re h fun c H1 n1 k1 o1 h1=>?_
 cases c with
 | true=>exact ha.o M o1 (re.ke k1) h1 (k.ke k1)
 | false=>exact hb.o M o1 (re.ke k1) h1 (k.ke k1)⟩
noncomputable def zt7 (i:Nat)(a:ZE):ZS:=fun D δ n=>a δ n fun w n1=>D.nx (zs δ i w) n1
theorem z61 {i:Nat}{ta:TE}{a:ZE}(ha:SmE K ta a):SmS K EE (zdi ta (z54 i)) (zt7 i a):=⟨fun M {σ δ H n D Dd} ok re h k=>by
 refine ha.o M ok re h fun v H1 w n1 k1 o1 r1 h1=>?_
 exact k.nx _ H1 _ n1 k1 o1 ((re.ke k1).set r1 i) h1⟩
noncomputable def zte (a:ZE)(g:ZG):ZS:=fun D δ n=>a δ n fun w n1=>match w with|.d d=>g d δ n1 D.nx|_=>False
theorem zi6 {ta:TE}{g:TG}{a:ZE}{zg:ZG}(ha:SmE K ta a)(hg:SmG K g zg):SmS K EE (zdi ta g) (zte a zg):=⟨fun M {σ δ H n D Dd} ok re h k=>by
 refine ha.o M ok re h fun v H1 w n1 k1 o1 r1 h1=>?_
 match w,r1,h1 with
 | .d d,r1,h1=>exact hg.o M o1 (re.ke k1) r1 h1 fun σ2 H2 δ2 n2 k2 o2 re2 h2=>k.nx σ2 H2 δ2 n2 (M.trans k1 k2) o2 re2 h2⟩
noncomputable def zhm (g:ZG)(b:ZS)(D:ZEnds):List PyData→Ze→Nat→Prop
 | [],δ,n=>D.nx δ n
 | x::xs,δ,n=>g x δ n fun δ2 n2=>b {D with nx:=zhm g b D xs,ct:=zhm g b D xs,bk:=D.nx} δ2 n2
noncomputable def zs5 (g:ZG)(b:ZS)(D:ZEnds)(ds:List PyData)(δ:Ze)(n:Nat):Prop:=zhm g b D ds δ n
structure fRun (g:ZG)(b:ZS)(D:ZEnds)(ds:List PyData)(δ:Ze)(n:Nat):Prop where
 o:zs5 g b D ds δ n
theorem zce {g:ZG}{b:ZS}{D:ZEnds}{δ:Ze}{n:Nat}:fRun g b D [] δ n=D.nx δ n:=propext ⟨fun h=>h.o,fun h=>⟨h⟩⟩
theorem z8d {g:ZG}{b:ZS}{D:ZEnds}{xs:List PyData}:zhm g b D xs=fRun g b D xs:=by funext δ n;exact propext ⟨fun h=>⟨h⟩,fun h=>h.o⟩
theorem z9n {g:ZG}{b:ZS}{D:ZEnds}{x:PyData}{xs:List PyData}{δ:Ze}{n:Nat}:fRun g b D (x::xs) δ n=g x δ n fun δ2 n2=>b {D with nx:=fRun g b D xs,ct:=fRun g b D xs,bk:=D.nx} δ2 n2:=by
 first|(rw[←z8d,←z8d];rfl)|(rw[←z8d];rfl)
noncomputable def ztd (i:ZI)(g:ZG)(b:ZS):ZS:=fun D δ n=>i δ n fun ds n1=>fRun g b D ds δ n1
theorem zmv {wi:TI}{g:TG}{tb:TS}{i:ZI}{zg:ZG}{b:ZS}(hi:SmI K wi i)(hg:SmG K g zg)(hb:SmS K EE tb b):SmS K EE (zq3 wi g tb) (ztd i zg b):=⟨fun M {σ δ H n D Dd} ok re h k=>by
 refine hi.o M ok re h fun J H1 ds n1 k1 o1 it h1=>?_
 refine ⟨fun i m σ' H'=>m=ds.length-i∧i≤ds.length∧∃δ' n',M.st H1 H'∧M.ok H' n'∧RE M H' σ' δ'∧fRun zg b Dd (ds.drop i) δ' n',⟨ds.length,by simp,Nat.zero_le _,δ,n1,M.refl _,o1,re.ke k1,h1⟩,?_⟩
 rintro i m σ' H' ⟨rfl,hle,δ',n',ke,o',re',h'⟩
 obtain ⟨ig,is⟩:=it H' (M.sk ke)
 by_cases hlt:i<ds.length
 ·refine .inr ?_
  have e:ds[i]?=some ds[i]:=List.getElem?_eq_getElem hlt
  rw[List.drop_eq_getElem_cons hlt,z9n]at h'
  obtain ⟨g1,g2⟩:=ig i _ e
  refine ⟨g1,fun σ2 H2=>∃δ2 n2,M.st H1 H2∧M.ok H2 n2∧RE M H2 σ2 δ2∧fRun zg b Dd (ds.drop (i+1)) δ2 n2,fun σ2 H2 q=>⟨ds.length-(i+1),by omega,rfl,hlt,q⟩,fun x H2 hy=>?_⟩
  obtain ⟨y1,y2,y3⟩:=(g2 x H2 hy).get (M.sk ke) o'
  refine hg.o M (M.oks o' y2) (re'.ke y1) y3 h' fun σ3 H3 δ3 n3 k3 o3 re3 h3=>?_
  have k13:=M.trans ke (M.trans y1 k3)
  refine hb.o M o3 re3 h3 ⟨fun σ4 H4 δ4 n4 k4 o4 re4 h4=>⟨δ4,n4,M.trans k13 k4,o4,re4,h4⟩,k.rt.ke (M.trans k1 k13),fun σ4 H4 δ4 n4 k4 o4 re4 h4=>k.nx σ4 H4 δ4 n4 (M.trans k1 (M.trans k13 k4)) o4 re4 h4,fun σ4 H4 δ4 n4 k4 o4 re4 h4=>⟨δ4,n4,M.trans k13 k4,o4,re4,h4⟩,fun σ=>(k.xr σ).ke (M.trans k1 k13)⟩
 ·have e:i=ds.length:=by omega
  subst e
  rw[List.drop_length,zce]at h'
  exact .inl ⟨is,k.nx σ' H' δ' n' (M.trans k1 ke) o' re' h'⟩⟩
noncomputable def zht (g:ZG)(t:ZT)(e:ZE):List PyData→Ze→List PyData→Nat→(List PyData→Nat→Prop)→Prop
 | [],_,acc,n,Q=>Q acc n
 | x::xs,δ,acc,n,Q=>g x δ n fun δ2 n2=>t δ2 n2 fun b n3=>cnd b (e δ2 n3 fun w n4=>match w with|.d y=>zht g t e xs δ2 (acc++[y]) n4 Q|_=>False) (zht g t e xs δ2 acc n3 Q)
noncomputable def zsa (g:ZG)(t:ZT)(e:ZE)(ds:List PyData)(δ:Ze)(acc:List PyData)(n:Nat)(Q:List PyData→Nat→Prop):Prop:=zht g t e ds δ acc n Q
structure cRun (g:ZG)(t:ZT)(e:ZE)(ds:List PyData)(δ:Ze)(acc:List PyData)(n:Nat)(Q:List PyData→Nat→Prop):Prop where
 o:zsa g t e ds δ acc n Q
theorem zcl {g:ZG}{t:ZT}{e:ZE}{δ:Ze}{acc:List PyData}{n:Nat}{Q:List PyData→Nat→Prop}:cRun g t e [] δ acc n Q=Q acc n:=propext ⟨fun h=>h.o,fun h=>⟨h⟩⟩
theorem z8k {g:ZG}{t:ZT}{e:ZE}{xs:List PyData}:zht g t e xs=cRun g t e xs:=by funext δ acc n Q;exact propext ⟨fun h=>⟨h⟩,fun h=>h.o⟩
theorem z9q {g:ZG}{t:ZT}{e:ZE}{x:PyData}{xs:List PyData}{δ:Ze}{acc:List PyData}{n:Nat}{Q:List PyData→Nat→Prop}:cRun g t e (x::xs) δ acc n Q=g x δ n fun δ2 n2=>t δ2 n2 fun b n3=>cnd b (e δ2 n3 fun w n4=>match w with|.d y=>cRun g t e xs δ2 (acc++[y]) n4 Q|_=>False) (cRun g t e xs δ2 acc n3 Q):=by
 first|(rw[←z8k,←z8k];rfl)|(rw[←z8k];rfl)
noncomputable def zjd (is:List (Option Nat))(δ:Ze):Ze:=is.map fun o=>match o with|none=>none|some i=>lk δ i
noncomputable def zmg (i:ZI)(g:ZG)(t:ZT)(e:ZE)(is:List (Option Nat)):ZE:=fun δ n Q=>i δ n fun ds n1=>ds.length≤1000000∧cRun g t e ds (zjd is δ) [] n1 fun acc n2=>Q (.d (.list acc)) n2
theorem RE.caps {M:TM K}{H:Hp}{σ:St}{δ:Ze}(h:RE M H σ δ):∀is:List (Option Nat),RE M H (caps is σ) (zjd is δ)
 | []=>.nil
 | none::is=>.cons trivial (RE.caps h is)
 | some i::is=>by
  refine .cons ?_ (RE.caps h is)
  show RS M H _ (lk δ i)
  cases e:lk δ i with
  | none=>trivial
  | some w=>
   obtain ⟨v,e1,r⟩:=h.get e
   refine ⟨v,?_,r⟩
   show (match σ[i]? with|some v=>v|none=>none)=some v
   rw[e1]
noncomputable def zsh:ZT:=fun _ n Q=>Q true n
theorem zi5:SmT K zqr zsh:=⟨fun M {σ δ H n Q Qd} ok re h k=>k true H n (M.refl _) ok h⟩
theorem zk8 {wi:TI}{g:TG}{tt:TT}{te:TE}{is:List (Option Nat)}{i:ZI}{zg:ZG}{t:ZT}{e:ZE}(hi:SmI K wi i)(hg:SmG K g zg)(ht:SmT K tt t)(he:SmE K te e):SmF K (za2 wi g tt te is) (zmg i zg t e is):=⟨fun M {σ δ H n Q Qd} ok re h k=>by
 refine hi.o M ok re h fun J H1 ds n1 k1 o1 it h1=>?_
 intro D hD
 obtain ⟨hl,h1⟩:=h1
 have o2:(M.own D).ok (upd H1 D (.lst [])) n1:=⟨by rw[z3u,z2h hD];exact o1,[],z06⟩
 refine ⟨fun i m σ' H'=>m=ds.length-i∧i≤ds.length∧∃δ' n' acc xs,M.st (hid D (upd H1 D (.lst []))) (hid D H')∧(M.own D).ok H' n'∧RE (M.own D) H' σ' δ'∧H' D=some (.lst xs)∧Dts (M.own D) H' xs acc∧xs.length≤i∧cRun zg t e (ds.drop i) δ' acc n' (fun acc n2=>Qd (.d (.list acc)) n2),
  ⟨ds.length,by simp,Nat.zero_le _,zjd is δ,n1,[],[],M.refl _,o2,((re.ke k1).caps is).own hD _,z06,.nil,Nat.le_refl _,h1⟩,?_⟩
 rintro i m σ' H' ⟨rfl,hle,δ',n',acc,xs,ke,o',re',hx,dx,hxl,h'⟩
 obtain ⟨ig,is'⟩:=ItOk.ownAt it hD ke o'
 by_cases hlt:i<ds.length
 ·refine .inr ?_
  have e1:ds[i]?=some ds[i]:=List.getElem?_eq_getElem hlt
  rw[List.drop_eq_getElem_cons hlt,z9q]at h'
  obtain ⟨g1,g2⟩:=ig i _ e1
  refine ⟨g1,fun σ2 H2=>∃δ' n' acc xs,M.st (hid D (upd H1 D (.lst []))) (hid D H2)∧(M.own D).ok H2 n'∧RE (M.own D) H2 σ2 δ'∧H2 D=some (.lst xs)∧Dts (M.own D) H2 xs acc∧xs.length≤i+1∧cRun zg t e (ds.drop (i+1)) δ' acc n' (fun acc n2=>Qd (.d (.list acc)) n2),fun σ2 H2 q=>⟨ds.length-(i+1),by omega,rfl,hlt,q⟩,fun x H2 hy=>?_⟩
  obtain ⟨y1,y2,y3⟩:=g2 x H2 hy
  refine hg.o (M.own D) ((M.own D).oks o' y2) (re'.ke y1) y3 h' fun σ3 H3 δ3 n3 k3 o3 re3 h3=>?_
  refine ht.o (M.own D) o3 re3 h3 fun b H4 n4 k4 o4 h4=>?_
  have k14:=(M.own D).trans y1 ((M.own D).trans k3 k4)
  have hx4:=k14.2 _ hx
  cases b with
  | true=>
   rw[if_pos rfl]
   refine he.o (M.own D) o4 (re3.ke k4) h4 fun y H5 w n5 k5 o5 r5 h5=>?_
   match w,r5,h5 with
   | .d y',r5,h5=>
    have k15:=(M.own D).trans k14 k5
    have hx5:=k15.2 _ hx
    refine ⟨xs,hx5,Nat.lt_of_le_of_lt (Nat.le_trans hxl (Nat.le_of_lt hlt)) (by rw[sizeLine_eq];omega),?_⟩
    have eh:hid D (upd H5 D (.lst (xs++[y])))=hid D H5:=z3u
    have kw:(M.own D).ke H5 (upd H5 D (.lst (xs++[y]))):=by show M.ke (hid D H5) (hid D (upd H5 D (.lst (xs++[y]))));rw[eh];exact M.refw _
    refine ⟨δ3,n5,acc++[y'],xs++[y],?_,⟨by rw[eh];exact o5.1,_,z06⟩,((re3.ke k4).ke k5).kw kw,z06,((dx.ke k15).append (.cons r5 .nil)).kw kw,by rw[List.length_append];show xs.length+1≤_;omega,h5⟩
    rw[eh]
    exact M.trans ke k15.1
  | false=>
   rw[if_neg Bool.false_ne_true]
   exact ⟨δ3,n4,acc,xs,M.trans ke k14.1,o4,re3.ke k4,hx4,dx.ke k14,by omega,h4⟩
 ·have e1:i=ds.length:=by omega
  subst e1
  rw[List.drop_length,zcl]at h'
  rw[z3u,z2h hD]at ke
  refine .inl ⟨is',⟨xs,hx⟩,?_⟩
  have z:=k D (hid D H') xs acc n' (M.trans k1 ke) o'.1 z21 (dx.bare o1 hD (M.sk ke)) h'
  rw[zjj hx]at z;exact z⟩
theorem zdm {wi:TI}{g:TG}{tt:TT}{te:TE}{is:List (Option Nat)}{i:ZI}{zg:ZG}{t:ZT}{e:ZE}(hi:SmI K wi i)(hg:SmG K g zg)(ht:SmT K tt t)(he:SmE K te e):SmE K (za2 wi g tt te is) (zmg i zg t e is):=(zk8 hi hg ht he).e
end
end
section
section
variable {K:W.Frag}
theorem SB.hid {t:V}{H A B:Hp}{n:Nat}{S:Addr→Prop}(T:Tp H t n)(hD:∀b,S b→H b=none)(k:SB t A B):SB t (hidS S A) (hidS S B):=by
 refine ⟨fun b o h nb=>?_,fun c h=>?_⟩
 ·obtain ⟨e,h⟩:=z0z h
  rw[z0q e];exact k.old b o h nb
 ·obtain ⟨a,r,e,h⟩:=h
  obtain ⟨ea,h⟩:=z0z h
  obtain ⟨a',r',e',h'⟩:=k.cell c ⟨a,r,e,h⟩
  subst e
  cases e'
  exact ⟨a,r',rfl,by rw[z0q ea];exact h'⟩
theorem SF.hid {t:V}{H A B:Hp}{n:Nat}{S:Addr→Prop}(T:Fd H t n)(hD:∀b,S b→H b=none)(k:SF t A B):SF t (hidS S A) (hidS S B):=by
 refine ⟨fun b o h nb=>?_,fun c h=>?_⟩
 ·obtain ⟨e,h⟩:=z0z h
  rw[z0q e];exact k.old b o h nb
 ·obtain ⟨a,r,e,h⟩:=h
  obtain ⟨ea,h⟩:=z0z h
  obtain ⟨a',r',e',h'⟩:=k.cell c ⟨a,r,e,h⟩
  subst e
  cases e'
  exact ⟨a,r',rfl,by rw[z0q ea];exact h'⟩
theorem SF.dom {t:V}{A B:Hp}{n:Nat}{b:Addr}(T:Fd A t n)(k:SF t A B)(e:B b=none):A b=none:=by
 cases h:A b with
 | none=>rfl
 | some o=>
  by_cases z:V.ref b=t
  ·obtain ⟨a,c,cells,at',left,turn,rfl,h1,h2,h3⟩:=T
   cases z
   obtain ⟨a',r',e',h'⟩:=k.cell c ⟨_,_,rfl,h1⟩
   cases e'
   rw[h']at e;cases e
  ·rw[k.old b o h z]at e;cases e
noncomputable def tmF (K:W.Frag)(t:V):TM K where
 val:=t
 ok H n:=Fd H t n
 ke:=SF t
 st:=SF t
 sk h:=h
 refw:=SF.refl t
 transw:=SF.trans
 refl:=SF.refl t
 trans:=SF.trans
 same h:=h.sf
 oks T s:=T.same s
 newD:=fun T hD _ e k=>k.old _ _ e (T.ne hD)
 updK:=fun o T hD k=>k.updD T hD
 updO:=fun o T hD k T5=>T.updD k T5 hD
 kp:=fun T k=>k.keep T
 hidZ:=fun T hD _ k=>k.hid T hD
 dom:=fun T k e=>k.dom T e
 tk:=2
 tp1:=fun h=>by cases h
 rs1:=fun h=>by cases h
 tp2:=fun _ {H n} T=>T
 rs2:=fun _ {H H' n n'} _ s T=>⟨s,T⟩
noncomputable def z60:Nat→List Zw→Ze
 | k,[]=>List.replicate k none
 | k,w::ws=>some w::z60 (k-1) ws
theorem z8w:∀(k:Nat)(ws:List Zw),z60 k ws=ws.map some++List.replicate (k-ws.length) none
 | k,[]=>rfl
 | k,w::ws=>by
  show some w::z60 (k-1) ws=some w::(ws.map some++List.replicate (k-(ws.length+1)) none)
  rw[z8w (k-1) ws,show k-1-ws.length=k-(ws.length+1) by omega]
theorem RE.none_rep {M:TM K}{H:Hp}:∀k:Nat,RE M H (List.replicate k none) (List.replicate k none)
 | 0=>.nil
 | k+1=>by rw[List.replicate_succ,List.replicate_succ];exact .cons trivial (RE.none_rep k)
theorem RE.app {M:TM K}{H:Hp}{σ σ':St}{δ δ':Ze}(h:RE M H σ δ)(h':RE M H σ' δ'):RE M H (σ++σ') (δ++δ'):=by
 induction h with
 | nil=>exact h'
 | cons r _ ih=>exact .cons r ih
theorem RWs.re {M:TM K}{H:Hp}{vs:List V}{ws:List Zw}(h:RWs M H vs ws):RE M H (vs.map some) (ws.map some):=by
 induction h with
 | nil=>exact .nil
 | cons r _ ih=>exact .cons ⟨_,rfl,r⟩ ih
theorem RWs.start {M:TM K}{H:Hp}{vs:List V}{ws:List Zw}{N:List Str}(h:RWs M H vs ws):RE M H (start N vs) (z60 N.length ws):=by
 unfold L2.start
 rw[z8w,h.length]
 exact h.re.app (RE.none_rep _)
theorem Def.mkz {P : Program}{w : World}{mg : Str → Option Value}{base : Heap}{x : Str}{st : Stmt}{N ps : List Str}{n : Nat}{z : ZSp}(T : Src K mg x st)(S : FnScope N ps (z08 st))(len : ∀ ws n Q, z ws n Q → ws.length = ps.length)
  (hb:∀(kV doc pm:Value)(an:Option Addr)(cdv ct:Value)(us:List Value),us.length=ps.length→bindArgs (PySem.W.fnOf x x (z1z st) (z15 st) (z08 st) .none kV doc pm an cdv ct) ⟨us,[]⟩=pure (ps.zip us))
  (hbody:∀(f:Addr)(cdv:Value)(A:Around)(outer:List Env)(s:Shared)(H:Hp)(E:XK),Room n (A.deeper (envOfC x (z08 st) s.heap.objs.size f cdv))→
   ∃t zt,QSs (zch CX0 P w K mg base N x (z08 st) f cdv A outer s H E).nox (z15 st) t∧SmS K (fun _=>E0) t zt∧∀ws n Q,z ws n Q→zt {nx:=fun _ n'=>Q (.d .none) n',rt:=Q} (z60 N.length ws) n):Def P w K mg base x ps (n+1) (zc3 K z):=
 Def.mkq T S (fun vs H Q E ⟨M,ws,m,Qd,ok,r,h,k⟩=>r.length.trans (len ws m Qd h)) hb fun f cdv A outer s H vs Q E hr ⟨M,ws,m,Qd,ok,r,h,k⟩=>by
  obtain ⟨t,zt,q,sm,rd⟩:=hbody f cdv A outer s H E hr
  refine ⟨t,q,sm.o M ok r.start (rd ws m Qd h) ⟨fun σ H' δ n' k1 o1 re1 h1=>k.ke k1 |>.now o1 .non h1,k,fun _ _ _ _ _ _ _ h=>h.elim,fun _ _ _ _ _ _ _ h=>h.elim,fun _ _ _ _ _ _ _ _ _ _ h=>h.elim⟩⟩
noncomputable abbrev zm6:=List Zw→Nat→ZK→(Str→List Str→List PyData→Nat→Prop)→Prop
noncomputable def zhb (K:W.Frag)(z:zm6):Sp:=fun vs H Q E=>∃(M:TM K) (ws:List Zw) (n:Nat) (Qd:ZK) (Xd:Str→List Str→List PyData→Nat→Prop),M.ok H n∧RWs M H vs ws∧z ws n Qd Xd∧Ok1 M H Qd Q∧OkX M H Xd E
theorem DefX.mkz {P : Program}{w : World}{mg : Str → Option Value}{base : Heap}{x : Str}{st : Stmt}{N ps : List Str}{n : Nat}{z : zm6}(T : Src K mg x st)(S : FnScope N ps (z08 st))(len : ∀ ws n Q X, z ws n Q X → ws.length = ps.length)
  (hb:∀(kV doc pm:Value)(an:Option Addr)(cdv ct:Value)(us:List Value),us.length=ps.length→bindArgs (PySem.W.fnOf x x (z1z st) (z15 st) (z08 st) .none kV doc pm an cdv ct) ⟨us,[]⟩=pure (ps.zip us))
  (hbody:∀(f:Addr)(cdv:Value)(A:Around)(outer:List Env)(s:Shared)(H:Hp)(E:XK),Room n (A.deeper (envOfC x (z08 st) s.heap.objs.size f cdv))→
   ∃t zt,QSs (zch (CXo P w) P w K mg base N x (z08 st) f cdv A outer s H E) (z15 st) t∧SmS K (fun _=>E) t zt∧∀ws n Q X,z ws n Q X→zt {nx:=fun _ n'=>Q (.d .none) n',rt:=Q,xr:=X} (z60 N.length ws) n):DefX P w K mg base x ps (n+1) (zhb K z):=
 DefX.mkq T S (fun vs H Q E ⟨M,ws,m,Qd,Xd,ok,r,h,k,kx⟩=>r.length.trans (len ws m Qd Xd h)) hb fun f cdv A outer s H vs Q E hr ⟨M,ws,m,Qd,Xd,ok,r,h,k,kx⟩=>by
  obtain ⟨t,zt,q,sm,rd⟩:=hbody f cdv A outer s H E hr
  refine ⟨t,q,sm.o M ok r.start (rd ws m Qd Xd h) ⟨fun σ H' δ n' k1 o1 re1 h1=>k.ke k1 |>.now o1 .non h1,k,fun _ _ _ _ _ _ _ h=>h.elim,fun _ _ _ _ _ _ _ h=>h.elim,fun _=>kx⟩⟩
noncomputable def zme (x:Str)(ns:List Str)(a:ZA):ZS:=fun D δ n=>a δ n fun ws n1=>asK ws fun ds=>D.xr x ns ds n1
theorem z8x {EE:XS}{mg:Str→Option Value}{x qual f g:Str}{st:Stmt}{C B fI:Addr}{fd:FuncData}{m:Nat}{t:TA}{a:ZA}(S:XTop K mg x qual st [f,g] C B fI fd)(ha:SmA K m t a)(hm:m=2:=by rfl):SmS K EE (zig C (zq4 K f g) EE t) (zme x [f,g] a):=⟨fun M {σ δ H n D Dd} ok re h k=>by
 refine ha.o M ok re h fun vs H1 ws n1 k1 o1 r1 hl h1=>?_
 obtain ⟨ds,e,h1⟩:=zhv h1
 have d1:=r1.dts e
 subst hm
 match ws,hl,r1,d1,e,h1 with
 | [w,w'],_,.cons ra (.cons rb .nil),d1,e,h1=>exact zdy S (by simp) (by simp) (k.xr σ x [f,g] _ ds H1 n1 k1 o1 d1 h1)⟩
theorem zi9 {a:Addr}{ns:List Int}(h:∀H,SqT K H a (ns.map V.int)):SmE K (tC (.ref a)) (zC (.tuple (ns.map PyData.int))):=zn5 fun M H=>.tup (fun H' _=>h H') (by
 induction ns with
 | nil=>exact .nil
 | cons i ns ih => exact .cons (.int i) (by
   have:∀ns:List Int,Dts M H (ns.map V.int) (ns.map PyData.int):=fun ns=>by
    induction ns with
    | nil=>exact .nil
    | cons j ns ih=>exact .cons (.int j) ih
   exact this ns))
noncomputable def zhy (k:Nat):ZSp:=fun ws n Q=>∃m:Int,ws=[.t k,.d (.int m)]∧n<2^30∧0<m∧m<2^30∧∀r,0≤r→r<m→Q (.d (.int r)) (n+1)
structure zDraw (k:Nat)(ws:List Zw)(n:Nat)(Q:ZK):Prop where
 o:zhy k ws n Q
theorem zhs {sp:Sp}(h:∀vs H Q E,(∃(t:V) (n:Nat) (m:Int),vs=[t,.int m]∧Fd H t n∧n<2^40∧0<m∧m<2^30∧∀r H',0≤r→r<m→Fd H' t (n+1)→SF t H H'→Q (.int r) H')→sp vs H Q E):CallOk K sp (zDraw 2):=fun vs H Q ⟨M,ws,n,Qd,ok,r,z,k⟩=>by
 have z:=z.o;unfold zhy at z
 obtain ⟨m,rfl,hn,h0,h1,q⟩:=z
 cases r with
 | cons r1 r2=>
  cases r2 with
  | cons r2 r3=>
   cases r3
   obtain ⟨rfl,hk⟩:=r1
   rw[r2.int_inv]
   refine h _ _ _ _ ⟨M.val,n,m,rfl,M.tp2 hk ok,by omega,h0,h1,fun r H' r0 r1 T S=>?_⟩
   obtain ⟨a,b⟩:=M.rs2 hk ok S T
   exact k _ H' _ (n+1) a b (Dt.rw (.int r)) (q r r0 r1)
theorem z41 (q:Rat):tpd (sh q)=true:=by simp[sh,tpd,z76]
theorem z32 (rs:List Rat):tpd (pl rs)=true:=by unfold pl;simp only[tpd];exact zde rs
theorem Dt.pl_inv {M:TM K}{H:Hp}{v:V}{rs:List Rat}(h:Dt M H v (pl rs)):∃a xs,v=.ref a∧SqT K H a xs∧DvAll K H xs (rs.map sh):=by
 obtain ⟨a,xs,rfl,hx,dx⟩:=RW.tup_inv (show RW M H v (.d (.tuple (rs.map sh))) from h)
 exact ⟨a,xs,rfl,hx _ (M.refw _),dx.dv⟩
end
end
section
section
variable {n:Nat}{Q:ZK}{i j:Int}{a b:List PyData}
theorem r_add (h:Q (.d (.int (i+j))) n):fAdd (.d (.int i)) (.d (.int j)) n Q:=⟨.inl ⟨i,j,rfl,rfl,h⟩⟩
theorem z42 (h1:a.length+b.length≤1000000)(h:Q (.d (.tuple (a++b))) n):fAdd (.d (.tuple a)) (.d (.tuple b)) n Q:=⟨.inr (.inl ⟨a,b,rfl,rfl,h1,h⟩)⟩
theorem zik (h1:a.length+b.length≤1000000)(h:Q (.d (.list (a++b))) n):fAdd (.d (.list a)) (.d (.list b)) n Q:=⟨.inr (.inr (.inl ⟨a,b,rfl,rfl,h1,h⟩))⟩
theorem zq7 {g:Int→Int→PyData}(h:Q (.d (g i j)) n):f2I g (.d (.int i)) (.d (.int j)) n Q:=⟨⟨i,j,rfl,rfl,h⟩⟩
theorem r_sub (h:Q (.d (.int (i-j))) n):zsx (.d (.int i)) (.d (.int j)) n Q:=zq7 h
theorem zr7 (t:i<j→Q (.d (.bool true)) n)(f:j≤i→Q (.d (.bool false)) n):fLt (.d (.int i)) (.d (.int j)) n Q:=zq7 (by
 by_cases c:i<j
 ·rw[decide_eq_true c];exact t c
 ·rw[decide_eq_false c];exact f (Int.not_lt.mp c))
theorem ztj (t:i≤j→Q (.d (.bool true)) n)(f:j<i→Q (.d (.bool false)) n):fLe (.d (.int i)) (.d (.int j)) n Q:=zq7 (by
 by_cases c:i≤j
 ·rw[decide_eq_true c];exact t c
 ·rw[decide_eq_false c];exact f (Int.not_le.mp c))
theorem ztl (t:j<i→Q (.d (.bool true)) n)(f:i≤j→Q (.d (.bool false)) n):fGt (.d (.int i)) (.d (.int j)) n Q:=zq7 (by
 by_cases c:j<i
 ·rw[decide_eq_true c];exact t c
 ·rw[decide_eq_false c];exact f (Int.not_lt.mp c))
theorem zsm {C:Int→Int→Prop}{g:Int→Int→PyData}(c:C i j)(h:Q (.d (g i j)) n):f2C C g (.d (.int i)) (.d (.int j)) n Q:=⟨⟨i,j,rfl,rfl,c,h⟩⟩
theorem r_mod (c:0<j)(h:Q (.d (.int (i%j))) n):zt1 (.d (.int i)) (.d (.int j)) n Q:=zsm c h
theorem zkd (c:zqc i j)(h:Q (.d (.int (i^j.toNat))) n):zsz (.d (.int i)) (.d (.int j)) n Q:=zsm c h
theorem zdz (c:CMul i j)(h:Q (.d (.int (i*j))) n):fMul (.d (.int i)) (.d (.int j)) n Q:=⟨.inl ⟨i,j,rfl,rfl,.inl c,h⟩⟩
theorem znj (t:i=j→Q (.d (.bool true)) n)(f:i≠j→Q (.d (.bool false)) n):fEq (.d (.int i)) (.d (.int j)) n Q:=⟨⟨_,_,rfl,rfl,.inl ⟨rfl,by
 show Q (.d (.bool (decide (i=j)))) n
 by_cases c:i=j
 ·rw[decide_eq_true c];exact t c
 ·rw[decide_eq_false c];exact f c⟩⟩⟩
theorem zr6 {x y:Str}(t:x≠y→Q (.d (.bool true)) n)(f:x=y→Q (.d (.bool false)) n):fNe (.d (.str x)) (.d (.str y)) n Q:=⟨⟨_,_,rfl,rfl,.inl ⟨rfl,by
 show Q (.d (.bool !(decide (x=y)))) n
 by_cases c:x=y
 ·rw[decide_eq_true c];exact f c
 ·rw[decide_eq_false c];exact t c⟩⟩⟩
theorem zgm {x y:PyData}(s:EqvOk x y)(h:Q (.d (.bool (x.eqv y))) n):fEq (.d x) (.d y) n Q:=⟨⟨x,y,rfl,rfl,.inr (.inl ⟨s,h⟩)⟩⟩
theorem zke {x y:PyData}(s:EqvOk x y)(h:Q (.d (.bool (!x.eqv y))) n):fNe (.d x) (.d y) n Q:=⟨⟨x,y,rfl,rfl,.inr (.inl ⟨s,h⟩)⟩⟩
theorem ztk {x y:PyData}{c:Bool}(e:isD x y=some c)(h:Q (.d (.bool c)) n):fIs (.d x) (.d y) n Q:=⟨⟨x,y,c,rfl,rfl,e,h⟩⟩
theorem zii {x y:PyData}{c:Bool}(e:isD x y=some c)(h:Q (.d (.bool (!c))) n):fIsnt (.d x) (.d y) n Q:=⟨⟨x,y,c,rfl,rfl,e,h⟩⟩
theorem r_ixT {d:PyData}(e:atI a i=some d)(q:Q (.d d) n):fIx (.d (.tuple a)) (.d (.int i)) n Q:=zs6 e q
theorem r_ixL {d:PyData}(e:atI a i=some d)(q:Q (.d d) n):fIx (.d (.list a)) (.d (.int i)) n Q:=zs7 e q
theorem r_lenT (h:Q (.d (.int (a.length:Int))) n):fLen [.d (.tuple a)] n Q:=⟨.inl ⟨a,rfl,h⟩⟩
theorem r_lenL (h:Q (.d (.int (a.length:Int))) n):fLen [.d (.list a)] n Q:=⟨.inr ⟨a,rfl,h⟩⟩
theorem zni (h:∀m,m=max i j→Q (.d (.int m)) n):fMax [.d (.int i),.d (.int j)] n Q:=by
 refine ⟨⟨i,j,rfl,?_⟩⟩
 refine h _ ?_
 rw[Int.max_def];split<;>split<;>omega
theorem zih {x:PyData}(s:Shw x)(h:∀k,k=x.shown→Q (.d (.str k)) n):fRepr [.d x] n Q:=⟨⟨x,rfl,s,h⟩⟩
theorem r_isi {x:PyData}{c:Tk}(h:Q (.d (.bool (isC x c))) n):fIsi [.d x,.ty c] n Q:=⟨⟨x,c,rfl,h⟩⟩
theorem r_tupL (h:Q (.d (.tuple a)) n):fTupOf [.d (.list a)] n Q:=⟨.inr ⟨a,rfl,h⟩⟩
theorem zij {b:Bool}(h:Q (.d (.int (if b=true then 1 else 0))) n):fIntOf [.d (.bool b)] n Q:=⟨.inr ⟨b,rfl,h⟩⟩
end
section
variable {n:Nat}{Q:ZK}{a b:List PyData}{l u:Option Int}{R:List PyData→Nat→Prop}
theorem r_slT (h:Q (.d (.tuple (zd5 a l u))) n):fSl (.d (.tuple a)) l u n Q:=⟨.inl ⟨a,rfl,h⟩⟩
theorem r_anyT (h:R a n):fAny (.d (.tuple a)) n R:=⟨.inl ⟨a,rfl,h⟩⟩
theorem r_anyL (h:R a n):fAny (.d (.list a)) n R:=⟨.inr ⟨a,rfl,h⟩⟩
theorem znh {m:Nat}{S:List PyData→Prop}(e:a.length=m)(h:S a):fUnp m (.tuple a) S:=⟨⟨a,rfl,e,h⟩⟩
end
theorem zly {α:Type}(xs:List α)(k:Nat):zd5 xs none (some (k:Int))=xs.take k:=by
 unfold zd5
 rw[HT.sIx_none,HT.sIx_nat,List.drop_zero,Nat.sub_zero]
 by_cases h:k≤xs.length
 ·rw[Nat.min_eq_left h]
 ·rw[Nat.min_eq_right (by omega),List.take_of_length_le (Nat.le_refl _),List.take_of_length_le (by omega)]
theorem zfl {α:Type}(xs:List α)(k:Nat):zd5 xs (some (k:Int)) none=xs.drop k:=by
 unfold zd5
 rw[HT.sIx_none,HT.sIx_nat]
 by_cases h:k≤xs.length
 ·rw[Nat.min_eq_left h];exact List.take_of_length_le (by rw[List.length_drop];exact Nat.le_refl _)
 ·rw[Nat.min_eq_right (by omega),List.drop_length,List.drop_of_length_le (by omega),List.take_nil]
theorem ziz {g : ZG}{b : ZS}{D : ZEnds}(P : Nat → Ze → Nat → Prop) : ∀ {ds : List PyData} {δ : Ze} {n k : Nat}, P k δ n →
  (∀(i:Nat)(d:PyData)(δ:Ze)(n:Nat)(R:Ze→Nat→Prop),ds[i]?=some d→P (k+i) δ n→(∀δ' n',P (k+i+1) δ' n'→R δ' n')→g d δ n fun δ2 n2=>b {D with nx:=R,ct:=R,bk:=D.nx} δ2 n2)→
  (∀(δ:Ze)(n:Nat),P (k+ds.length) δ n→D.nx δ n)→fRun g b D ds δ n
 | [],δ,n,k,h,_,e=>by rw[zce];exact e δ n h
 | d::ds,δ,n,k,h,s,e=>by
  rw[z9n]
  refine s 0 d δ n _ rfl h fun δ' n' p=>?_
  refine ziz P (k:=k+1) p (fun i d δ n R hd hp hR=>?_) (fun δ n hp=>e δ n ?_)
  ·refine s (i+1) d δ n R hd (by rw[show k+(i+1)=k+1+i by omega];exact hp) fun δ' n' q=>hR δ' n' ?_
   rw[show k+1+i+1=k+(i+1)+1 by omega];exact q
  ·rw[List.length_cons,show k+(ds.length+1)=k+1+ds.length by omega];exact hp
theorem zlq {g : ZG}{b : ZS}{D : ZEnds}(P : Nat → Ze → Nat → Prop){ds : List PyData}{δ : Ze}{n : Nat}(h : P 0 δ n)
  (s:∀(i:Nat)(d:PyData)(δ:Ze)(n:Nat)(R:Ze→Nat→Prop),ds[i]?=some d→P i δ n→(∀δ' n',P (i+1) δ' n'→R δ' n')→g d δ n fun δ2 n2=>b {D with nx:=R,ct:=R,bk:=D.nx} δ2 n2)
  (e:∀(δ:Ze)(n:Nat),P ds.length δ n→D.nx δ n):fRun g b D ds δ n:=
 ziz P (k:=0) h (fun i d δ n R hd hp hR=>s i d δ n R hd (by rwa [Nat.zero_add]at hp) fun δ' n' q=>hR δ' n' (by rwa [Nat.zero_add])) (fun δ n hp=>e δ n (by rwa [Nat.zero_add]at hp))
theorem zj9 {g : ZG}{t : ZT}{e : ZE}{Q : List PyData → Nat → Prop}(P : Nat → Ze → List PyData → Nat → Prop) : ∀ {ds : List PyData} {δ : Ze} {acc : List PyData} {n k : Nat}, P k δ acc n →
  (∀(i:Nat)(d:PyData)(δ:Ze)(acc:List PyData)(n:Nat)(R:Ze→List PyData→Nat→Prop),ds[i]?=some d→P (k+i) δ acc n→(∀δ' acc' n',P (k+i+1) δ' acc' n'→R δ' acc' n')→g d δ n fun δ2 n2=>t δ2 n2 fun b n3=>cnd b (e δ2 n3 fun w n4=>match w with|.d y=>R δ2 (acc++[y]) n4|_=>False) (R δ2 acc n3))→
  (∀(δ:Ze)(acc:List PyData)(n:Nat),P (k+ds.length) δ acc n→Q acc n)→cRun g t e ds δ acc n Q
 | [],δ,acc,n,k,h,_,f=>by rw[zcl];exact f δ acc n h
 | d::ds,δ,acc,n,k,h,s,f=>by
  rw[z9q]
  refine s 0 d δ acc n (fun δ2 acc2 n2=>cRun g t e ds δ2 acc2 n2 Q) rfl h fun δ' acc' n' p=>?_
  refine zj9 P (k:=k+1) p (fun i d δ acc n R hd hp hR=>?_) (fun δ acc n hp=>f δ acc n ?_)
  ·refine s (i+1) d δ acc n R hd (by rw[show k+(i+1)=k+1+i by omega];exact hp) fun δ' acc' n' q=>hR δ' acc' n' ?_
   rw[show k+1+i+1=k+(i+1)+1 by omega];exact q
  ·rw[List.length_cons,show k+(ds.length+1)=k+1+ds.length by omega];exact hp
theorem zlz {g : ZG}{t : ZT}{e : ZE}{Q : List PyData → Nat → Prop}(P : Nat → Ze → List PyData → Nat → Prop){ds : List PyData}{δ : Ze}{acc : List PyData}{n : Nat}(h : P 0 δ acc n)
  (s:∀(i:Nat)(d:PyData)(δ:Ze)(acc:List PyData)(n:Nat)(R:Ze→List PyData→Nat→Prop),ds[i]?=some d→P i δ acc n→(∀δ' acc' n',P (i+1) δ' acc' n'→R δ' acc' n')→g d δ n fun δ2 n2=>t δ2 n2 fun b n3=>cnd b (e δ2 n3 fun w n4=>match w with|.d y=>R δ2 (acc++[y]) n4|_=>False) (R δ2 acc n3))
  (f:∀(δ:Ze)(acc:List PyData)(n:Nat),P ds.length δ acc n→Q acc n):cRun g t e ds δ acc n Q:=
 zj9 P (k:=0) h (fun i d δ acc n R hd hp hR=>s i d δ acc n R hd (by rwa [Nat.zero_add]at hp) fun δ' acc' n' q=>hR δ' acc' n' (by rwa [Nat.zero_add])) (fun δ acc n hp=>f δ acc n (by rwa [Nat.zero_add]at hp))
theorem zj8 {g : ZG}{e : ZE}{Q : List PyData → Nat → Prop}{ds : List PyData}{δ : Ze}{n : Nat}(f : PyData → PyData)(J : Ze → Prop)(h : J δ)
  (s:∀(d:PyData)(δ:Ze)(R:Ze→PyData→Nat→Prop),d∈ds→J δ→(∀δ',J δ'→R δ' (f d) n)→g d δ n fun δ2 n2=>e δ2 n2 fun w n4=>match w with|.d y=>R δ2 y n4|_=>False)
  (q:Q (ds.map f) n):cRun g zsh e ds δ [] n Q:=
 zlz (fun i δ acc m=>m=n∧J δ∧acc=(ds.take i).map f) ⟨rfl,h,rfl⟩ (fun i d δ acc m R hd hp hR=>by
  obtain ⟨rfl,hj,rfl⟩:=hp
  refine s d δ (fun δ2 y n4=>R δ2 (List.map f (List.take i ds)++[y]) n4) (List.mem_of_getElem? hd) hj fun δ' hj'=>hR _ _ _ ⟨rfl,hj',?_⟩
  rw[←List.map_singleton,←List.map_append]
  congr 1
  have hi:=(List.getElem?_eq_some_iff.mp hd)
  obtain ⟨hl,hg⟩:=hi
  rw[List.take_succ,hd];rfl) (fun δ acc m hp=>by
  obtain ⟨rfl,_,rfl⟩:=hp
  rw[List.take_length];exact q)
section
variable {K:W.Frag}
noncomputable def zqi (s:ZE):ZE:=fun δ n Q=>∃J:ZK,s δ n J∧∀w n',J w n'→Q w n'
theorem zn4 {t:TE}{s:ZE}(h:SmE K t s):SmE K (zjp t) (zqi s):=⟨fun M {σ δ H n Q Qd} ok re hs k=>by
 obtain ⟨J,h1,h2⟩:=hs
 exact ⟨fun v H'=>∃w n',M.st H H'∧M.ok H' n'∧RW M H' v w∧J w n',h.o M ok re h1 (fun v H' w n' a b c d=>⟨w,n',a,b,c,d⟩),fun v H' ⟨w,n',a,b,c,d⟩=>k v H' w n' a b c (h2 w n' d)⟩⟩
theorem RE.forget {M:TM K}{H:Hp}:∀(σ:St),RE M H σ (σ.map fun _=>none)
 | []=>.nil
 | _::σ=>.cons trivial (RE.forget σ)
end
theorem z3q {k n:Nat}{Q:ZK}{m:Int}(hn:n<2^30)(h0:0<m)(h1:m<2^30)(q:∀r,0≤r→r<m→Q (.d (.int r)) (n+1)):zDraw k [.t k,.d (.int m)] n Q:=⟨⟨m,rfl,hn,h0,h1,q⟩⟩
section
variable {K:W.Frag}{M:TM K}{H H':Hp}{vs:List V}{w1 w2 w3 w4 w5:Zw}{n n':Nat}{Qd:ZK}{Q:VK}
theorem Ok1.dvS (k:Ok1 M H Qd Q)(ok:M.ok H n)(s:Same H H'){v:V}{d:PyData}(dv:Dv K H' v d)(tp:tpd d=true)(q:Qd (.d d) n):Q v H':=k.sam ok s (dv.dt (M.oks ok s) tp) q
theorem Ok1.dvF (k:Ok1 M H Qd Q)(hk:M.tk=2)(ok:M.ok H n)(s:SF M.val H H')(T:Fd H' M.val n'){v:V}{d:PyData}(dv:Dv K H' v d)(tp:tpd d=true)(q:Qd (.d d) n'):Q v H':=by
 obtain ⟨a,b⟩:=M.rs2 hk ok s T
 exact k v H' _ n' a b (Dt.rw (dv.dt b tp)) q
theorem RW.dv {v:V}{d:PyData}(r:RW M H v (.d d)):Dv K H v d:=Dt.dv r
theorem RW.pl_inv {v:V}{rs:List Rat}(r:RW M H v (.d (pl rs))):∃a xs,v=.ref a∧SqT K H a xs∧DvAll K H xs (rs.map sh):=Dt.pl_inv r
theorem Dv.pl {p:Addr}{ws:List V}{rs:List Rat}(t:SqT K H p ws)(d:DvAll K H ws (rs.map sh)):Dv K H (.ref p) (pl rs):=.tup t d
end
end
noncomputable def pwB (m:Int):PyData→Bool
 | .tuple ds=>decide ((ds.length:Int)≤m)&&z6y (.tuple ds)
 | _=>false
noncomputable def unl (xs ys:List Rat):Option Nat:=(List.range (max xs.length ys.length)).find? fun k=>!decide (xs.getD k 0=ys.getD k 0)
noncomputable def unD:Option Nat→PyData
 | none=>.none
 | some k=>.int (k:Int)
theorem zd2 {p:Nat→Bool}:∀{W k:Nat},k<W→p k=true→(∀j,j<k→p j=false)→(List.range W).find? p=some k
 | W,k,hk,h,hj=>by
  rw[List.find?_eq_some_iff_getElem]
  refine ⟨h,k,by rw[List.length_range];exact hk,List.getElem_range _,fun j hj'=>?_⟩
  rw[List.getElem_range,hj j hj'];rfl
theorem z9m {p:Nat→Bool}{W:Nat}(h:∀j,j<W→p j=false):(List.range W).find? p=none:=by
 rw[List.find?_eq_none]
 intro x hx
 rw[h x (List.mem_range.mp hx)];exact Bool.false_ne_true
noncomputable def JS (qs:List Rat)(d:PyData)(an:Option (Str×Int)):Prop:=(pwB 24 d=false∧an=some (("shape":Str),(0:Int)))∨∃rs,d=pl rs∧rs.length≤24∧pwB 24 d=true∧an=(unl (z69 rs) qs).map fun (k:Nat)=>(("pair":Str),(k:Int))
theorem zio {m:Int}{rs:List Rat}:pwB m (pl rs)=(decide ((rs.length:Int)≤m)&&z0x rs):=by
 show (decide (((rs.map sh).length:Int)≤m)&&z6y (pl rs))=_
 rw[z80,List.length_map]
theorem zko {m:Int}{d:PyData}(h:pwB m d=true):∃rs:List Rat,d=pl rs∧(rs.length:Int)≤m∧z0x rs=true:=by
 cases d with
 | tuple ds=>
  have h':(decide ((ds.length:Int)≤m)&&z6y (.tuple ds))=true:=h
  rw[Bool.and_eq_true]at h'
  have ha:aSh (.tuple ds)=true:=by
   cases ha:aSh (.tuple ds) with
   | true=>rfl
   | false=>rw[zbu ha]at h';cases h'.2
  obtain ⟨rs,e⟩:=z8m ha
  rw[e,z80]at h'
  have e2:ds=rs.map sh:=by injection e
  have:=of_decide_eq_true h'.1
  rw[e2,List.length_map]at this
  exact ⟨rs,e,this,h'.2⟩
 | _=>cases h
theorem EqvOk.sh (x y:Rat):EqvOk (sh x) (sh y):=⟨rfl,rfl,by simp[L2.sh,PyData.depth,PyData.depthAll]⟩
theorem z4d {rs:List Rat}{k:Nat}(h:rs.length≤k):rs.getD k 0=0:=by rw[List.getD_eq_getElem?_getD,List.getElem?_eq_none h];rfl
theorem z9w {rs:List Rat}{k:Nat}(h:k<rs.length):atI (rs.map sh) (k:Int)=some (sh (rs.getD k 0)):=z2c (by
 rw[List.getElem?_map,List.getD_eq_getElem?_getD,List.getElem?_eq_getElem h];rfl)
theorem z56 (rs:List Rat)(k:Nat):zd5 (rs.map sh) none (some (k:Int))=(rs.take k).map sh:=by rw[zly,List.map_take]
theorem z37 (rs:List Rat)(k:Nat):zd5 (rs.map sh) (some (k:Int)) none=(rs.drop k).map sh:=by rw[zfl,List.map_drop]
theorem zho (rs:List Rat)(k m:Nat):zd5 (rs.map sh) (some (k:Int)) (some (m:Int))=((rs.drop (min k rs.length)).take (min m rs.length-min k rs.length)).map sh:=by
 unfold zd5
 rw[HT.sIx_nat,HT.sIx_nat,List.length_map,List.map_take,List.map_drop]
theorem zcf (rs:List Rat):PyData.eqv (pl rs) (.tuple [])=decide (rs=[]):=by
 cases rs with
 | nil=>rfl
 | cons r rs=>rfl
noncomputable def EB (d:PyData):Prop:=∀ds,d=.tuple ds→ds.length≤5000∧∀e∈ds,∀a b,e=.tuple [.int a,.int b]→Bt 8999 b
theorem zm8 (qs:List Rat)(d:PyData):∃an,JS qs d an:=by
 cases h:pwB 24 d with
 | false=>exact ⟨_,.inl ⟨h,rfl⟩⟩
 | true=>
  obtain ⟨rs,rfl,hl,_⟩:=zko h
  exact ⟨_,.inr ⟨rs,rfl,by omega,h,rfl⟩⟩
theorem zg9 (xs:List Rat):unl xs xs=none:=z9m fun j _=>by rw[decide_eq_true rfl];rfl
section
section
variable {X:Cx}{pins:List (Addr×Obj)}{σ:St}{H:Hp}{s:Shared}
end
section
variable {X:Cx}{K:W.Frag}
end
end
section
section
variable {K:W.Frag}
end
noncomputable def Tb:Nat→Nat→Nat→PyData→Prop
 | 0,v,_,d=>Sw 20 v d
 | k+1,v,m,d=>Sw 20 v d∧∀ds,d=.tuple ds→ds.length≤m∧∀e∈ds,Tb k v m e
theorem Tb.mono:∀{k v m v' m':Nat}{d:PyData},Tb k v m d→v≤v'→m≤m'→Tb k v' m' d
 | 0,_,_,_,_,_,h,hv,_=>Sw.mono h (Nat.le_refl _) hv
 | k+1,_,_,_,_,_,h,hv,hm=>⟨Sw.mono h.1 (Nat.le_refl _) hv,fun ds e=>⟨Nat.le_trans (h.2 ds e).1 hm,fun x hx=>Tb.mono ((h.2 ds e).2 x hx) hv hm⟩⟩
end
section
inductive Ge (nd m:Nat):PyData→Prop
 | leaf {d:PyData}:z2x d=false→ShB d→d.depth≤nd→(∀i,d=.int i→Bt 135 i)→Ge nd m d
 | tup {ds:List PyData}:ds.length≤m→(PyData.tuple ds).depth≤nd→(∀e∈ds,Ge nd m e)→Ge nd m (.tuple ds)
theorem Ge.dp {nd m:Nat}{d:PyData}(h:Ge nd m d):d.depth≤nd:=by
 cases h with
 | leaf _ _ a _=>exact a
 | tup _ a _=>exact a
theorem za9:∀{ds:List PyData},(∀e∈ds,ShB e)→z8p ds
 | [],_=>by simp only[z8p]
 | d::ds,h=>by simp only[z8p];exact ⟨h d (List.mem_cons_self ..),za9 fun e he=>h e (List.mem_cons_of_mem _ he)⟩
theorem zff {n:Nat}:∀{ds:List PyData},(∀e∈ds,e.depth≤n)→PyData.depthAll ds≤n
 | [],_=>by simp only[PyData.depthAll];omega
 | d::ds,h=>by
  simp only[PyData.depthAll]
  have:=h d (List.mem_cons_self ..)
  have:=zff fun e he=>h e (List.mem_cons_of_mem _ he)
  omega
theorem Ge.shb {nd m:Nat}{d:PyData}(h:Ge nd m d):ShB d:=by
 induction h with
 | leaf _ a _ _=>exact a
 | tup _ _ _ ih=>simp only[ShB];exact za9 ih
theorem Ge.mono {nd m nd' m':Nat}(h1:nd≤nd')(h3:m≤m'){d:PyData}(h:Ge nd m d):Ge nd' m' d:=by
 induction h with
 | leaf a b c e=>exact .leaf a b (Nat.le_trans c h1) e
 | tup a b c ih=>exact .tup (Nat.le_trans a h3) (Nat.le_trans b h1) ih
theorem Ge.tup_inv {nd m:Nat}{ds:List PyData}(h:Ge nd m (.tuple ds)):ds.length≤m∧∀e∈ds,Ge nd m e:=by
 cases h with
 | leaf a _ _ _=>cases a
 | tup a _ c=>exact ⟨a,c⟩
theorem Ge.mk {nd m:Nat}{ds:List PyData}(hl:ds.length≤m)(h:∀e∈ds,Ge nd m e):Ge (nd+1) m (.tuple ds):=
 .tup hl (by simp only[PyData.depth];have:=zff fun e he=>(h e he).dp;omega) fun e he=>(h e he).mono (by omega) (Nat.le_refl _)
theorem Ge.mkL {nd m:Nat}{ds:List PyData}(h:∀e∈ds,Ge nd m e):Ge (nd+1) m (.list ds):=
 .leaf rfl (by simp only[ShB];exact za9 fun e he=>(h e he).shb) (by simp only[PyData.depth];have:=zff fun e he=>(h e he).dp;omega) fun i e=>by cases e
theorem Ge.int_bt {nd m:Nat}{i:Int}(h:Ge nd m (.int i)):Bt 135 i:=by
 cases h with
 | leaf _ _ _ c=>exact c i rfl
theorem Ge.eb {nd m:Nat}{d:PyData}(h:Ge nd m d)(hm:m≤5000):EB d:=fun ds e=>by
 subst e
 obtain ⟨hl,hG⟩:=h.tup_inv
 refine ⟨by omega,fun e he a b ee=>?_⟩
 have:=hG e he
 rw[ee]at this
 exact (this.tup_inv.2 (.int b) (by simp)).int_bt.mono (by decide)
noncomputable def pz (ds:List PyData):Nat:=piled (PyData.shownAll ds)
theorem zaf (d:PyData)(ds:List PyData):pz (d::ds)=d.shown.length+2+pz ds:=by simp only[pz,PyData.shownAll,piled_cons]
theorem zin:∀(a b:List PyData),pz (a++b)=pz a+pz b
 | [],b=>by show pz b=piled _+_;simp only[PyData.shownAll,piled_nil];omega
 | x::a,b=>by rw[List.cons_append,zaf,zaf,zin a b];omega
theorem znq (ds:List PyData):pz ds≤(PyData.tuple ds).shown.length:=by simp only[PyData.shown];exact piled_le_tupleText _
theorem zrv (ds:List PyData):(PyData.tuple ds).shown.length≤pz ds+4:=by simp only[PyData.shown];exact z59 _
theorem zov (ds:List PyData):(PyData.list ds).shown.length≤pz ds+4:=by
 simp only[PyData.shown]
 have e:=listText_len_le (PyData.shownAll ds)
 have e2:∀ts:List Str,piled ts=(ts.map (·.length)).sum+2*ts.length:=by
  intro ts
  induction ts with
  | nil=>rfl
  | cons x r ih=>rw[piled_cons,ih,List.map_cons,List.sum_cons,List.length_cons];omega
 have e3:=e2 (PyData.shownAll ds)
 unfold pz
 omega
structure Gz (nd m v:Nat)(d:PyData):Prop where
 g:Ge nd m d
 z:d.shown.length≤v
theorem Gz.mono {nd m v nd' m' v':Nat}{d:PyData}(h:Gz nd m v d)(h1:nd≤nd')(h2:m≤m')(h3:v≤v'):Gz nd' m' v' d:=⟨h.g.mono h1 h2,Nat.le_trans h.z h3⟩
section
variable {nd m v w:Nat}{ds:List PyData}{x:PyData}{k:Nat}
theorem Gz.lst (h:Gz nd m v (.tuple ds)):Gz (nd+1) m (v+10) (.list ds):=⟨.mkL h.g.tup_inv.2,by have:=zov ds;have:=znq ds;have:=h.z;omega⟩
theorem Gz.add (h:Gz nd m v (.tuple ds))(hx:Gz nd (m+1) w x):Gz (nd+1) (m+1) (v+w+10) (.tuple (ds++[x])):=by
 refine ⟨.mk (by rw[List.length_append];have:=h.g.tup_inv.1;show _+1≤_;omega) (fun e he=>?_),?_⟩
 ·rcases List.mem_append.mp he with he|he
  ·exact (h.g.tup_inv.2 e he).mono (Nat.le_refl _) (by omega)
  ·rw[List.mem_singleton.mp he];exact hx.g
 ·have c:=zrv (ds++[x])
  rw[zin,zaf]at c
  have e0:pz []=0:=rfl
  have:=znq ds;have:=h.z;have:=hx.z;omega
end
end
section
noncomputable def smS (d:PyData):Prop:=∃r:Rat,d=sh r∧Bs 40 r
open Classical in
noncomputable def wz (d:PyData):Nat:=if smS d then 40 else 135
theorem zqp (d:PyData):wz d≤135:=by unfold wz;split<;>omega
noncomputable def wsm:List PyData→Nat
 | []=>0
 | d::ds=>wz d+wsm ds
theorem zdb:∀(a b:List PyData),wsm (a++b)=wsm a+wsm b
 | [],b=>by show wsm b=0+_;omega
 | x::a,b=>by show wz x+wsm (a++b)=wz x+wsm a+_;rw[zdb a b];omega
structure Hz (nd m v c:Nat)(d:PyData):Prop where
 g:Gz nd m v d
 w:∀ds,d=.tuple ds→wsm ds≤c
theorem Hz.mono {nd m v c nd' m' v' c':Nat}{d:PyData}(h:Hz nd m v c d)(h1:nd≤nd')(h2:m≤m')(h3:v≤v')(h4:c≤c'):Hz nd' m' v' c' d:=⟨h.g.mono h1 h2 h3,fun ds e=>Nat.le_trans (h.w ds e) h4⟩
section
variable {nd m v w c:Nat}{ds:List PyData}{x:PyData}{k:Nat}
theorem Hz.lst (h:Hz nd m v c (.tuple ds)):Hz (nd+1) m (v+10) c (.list ds):=⟨h.g.lst,fun ds e=>by cases e⟩
theorem Hz.add (h:Hz nd m v c (.tuple ds))(hx:Gz nd (m+1) w x):Hz (nd+1) (m+1) (v+w+10) (c+135) (.tuple (ds++[x])):=⟨h.g.add hx,fun ds' e=>by
 injection e with e
 subst e
 rw[zdb]
 have:=h.w ds rfl;have:=zqp x
 show _+(wz x+0)≤_;omega⟩
end
end
section
section
variable {K:W.Frag}
theorem zdf {S:Addr→Prop}{A B:Hp}{t:V}{n m:Nat}(T:Tp (hidS S A) t n)(s:SB t A B)(T':Tp B t m):SB t (hidS S A) (hidS S B)∧Tp (hidS S B) t m∧∀b,S b→V.ref b≠t:=by
 have hS:=T
 obtain ⟨a,c,cells,at',left,rfl,h1,h2,h3⟩:=T
 obtain ⟨na,ha⟩:=z0z h1
 obtain ⟨nc,hc⟩:=z0z h2
 obtain ⟨a0,r0,e0,q0⟩:=s.cell c ⟨a,_,rfl,ha⟩
 cases e0
 refine ⟨s.hid (H:=hidS S A) hS fun b e=>z1t e,?_,fun b e z=>by cases z;exact na e⟩
 obtain ⟨a3,c3,cells3,at3,left3,e3,q1,q2,q3⟩:=T'
 cases e3
 rw[q0]at q1
 cases q1
 exact ⟨a,c,cells3,at3,left3,rfl,by rw[z0q na];exact q0,by rw[z0q nc];exact q2,q3⟩
theorem zf8 {S:Addr→Prop}{A B:Hp}{t:V}{n m:Nat}(T:Fd (hidS S A) t n)(s:SF t A B)(T':Fd B t m):SF t (hidS S A) (hidS S B)∧Fd (hidS S B) t m∧∀b,S b→V.ref b≠t:=by
 have hS:=T
 obtain ⟨a,c,cells,at',left,turn,rfl,h1,h2,h3⟩:=T
 obtain ⟨na,ha⟩:=z0z h1
 obtain ⟨nc,hc⟩:=z0z h2
 obtain ⟨a0,r0,e0,q0⟩:=s.cell c ⟨a,_,rfl,ha⟩
 cases e0
 refine ⟨s.hid (H:=hidS S A) hS fun b e=>z1t e,?_,fun b e z=>by cases z;exact na e⟩
 obtain ⟨a3,c3,cells3,at3,left3,turn3,e3,q1,q2,q3⟩:=T'
 cases e3
 rw[q0]at q1
 cases q1
 exact ⟨a,c,cells3,at3,left3,turn3,rfl,by rw[z0q na];exact q0,by rw[z0q nc];exact q2,q3⟩
noncomputable def TM.ownS (M:TM K)(S:Addr→Prop)(fz:Bool):TM K where
 val:=M.val
 ok A n:=M.ok (hidS S A) n∧∀b,S b→∃xs,A b=some (.lst xs)
 ke A B:=M.ke (hidS S A) (hidS S B)∧(fz=true→∀b,S b→∀o,A b=some o→B b=some o)
 st A B:=M.st (hidS S A) (hidS S B)∧∀b,S b→∀o,A b=some o→B b=some o
 sk h:=⟨M.sk h.1,fun _=>h.2⟩
 refw _:=⟨M.refw _,fun _ _ _ _ h=>h⟩
 transw a b:=⟨M.transw a.1 b.1,fun z c h o e=>b.2 z c h o (a.2 z c h o e)⟩
 refl _:=⟨M.refl _,fun _ _ _ h=>h⟩
 trans a b:=⟨M.trans a.1 b.1,fun c h o e=>b.2 c h o (a.2 c h o e)⟩
 same s:=⟨M.same s.hidS,fun _ _ _ h=>s _ _ h⟩
 oks:=fun ⟨o,h⟩ s=>⟨M.oks o s.hidS,fun b e=>let ⟨xs,q⟩:=h b e;⟨xs,s _ _ q⟩⟩
 newD:=fun {H n E H5 o H6} ⟨ok,h⟩ hE k1 e k2=>by
  have hne:¬S E:=fun z=>by obtain ⟨xs,q⟩:=h E z;rw[hE]at q;cases q
  exact (z0z (M.newD ok (by rw[z0q hne];exact hE) k1.1 (by rw[z0q hne];exact e) k2.1)).2
 updK:=fun {H n E H5} o ⟨ok,h⟩ hE k1=>by
  have hne:¬S E:=fun z=>by obtain ⟨xs,q⟩:=h E z;rw[hE]at q;cases q
  refine ⟨?_,fun b hb u hu=>by rw[z0f (show b≠E from fun z=>hne (z▸hb))];exact k1.2 b hb u hu⟩
  rw[z6o hne]
  exact M.updK o ok (by rw[z0q hne];exact hE) k1.1
 updO:=fun {H n E H5 m} o ⟨ok,h⟩ hE k1 ⟨o5,h5⟩=>by
  have hne:¬S E:=fun z=>by obtain ⟨xs,q⟩:=h E z;rw[hE]at q;cases q
  refine ⟨?_,fun b hb=>by rw[z0f (show b≠E from fun z=>hne (z▸hb))];exact h5 b hb⟩
  rw[z6o hne]
  exact M.updO o ok (by rw[z0q hne];exact hE) k1.1 o5
 kp:=fun {H H' n} ⟨ok,h⟩ k b ys r=>by
  have hne:¬S b:=fun z=>by
   obtain ⟨xs,q⟩:=h b z
   rcases r with r|⟨o,r⟩<;>rw[q]at r<;>cases r
  have:=M.kp ok k.1 b ys (r.imp (fun z=>by rw[z0q hne];exact z) (fun ⟨o,z⟩=>⟨o,by rw[z0q hne];exact z⟩))
  exact this.imp (fun z=>(z0z z).2) (fun ⟨o,z⟩=>⟨o,(z0z z).2⟩)
 hidZ:=fun {H n S' A B} ⟨ok,h⟩ hE k1 k2=>by
  have k2':=M.hidZ (S:=S') ok (fun b e=>by
   by_cases z:S b
   ·rw[z1t z]
   ·rw[z0q z];exact hE b e) k1.1 k2.1
  refine ⟨?_,fun z b hb o q=>?_⟩
  ·have cm : ∀ C : Hp, hidS S (hidS S' C) = hidS S' (hidS S C) := fun C => by
    rw[z53,z53];congr 1;funext b;exact propext ⟨fun z=>z.symm,fun z=>z.symm⟩
   rw[cm,cm];exact k2'
  ·obtain ⟨n1,q⟩:=z0z q
   rw[z0q n1];exact k2.2 z b hb o q
 dom:=fun {A B n b} ⟨ok,h⟩ k e=>by
  by_cases z:S b
  ·obtain ⟨xs,q⟩:=h b z
   rw[k.2 b z _ q]at e;cases e
  ·have:=M.dom ok k.1 (b:=b) (by rw[z0q z];exact e)
   rw[z0q z]at this;exact this
 tk:=M.tk
 tp1:=fun h {H n} ⟨ok,_⟩=>(M.tp1 h ok).same z28
 rs1:=fun h {H H' n n'} ⟨ok,hx⟩ s t'=>by
  obtain ⟨hs,ht,hv⟩:=zdf (M.tp1 h ok) s t'
  obtain ⟨a,b⟩:=M.rs1 h ok hs ht
  exact ⟨⟨a,fun c hc o ho=>s.old _ _ ho (hv c hc)⟩,b,fun c hc=>let ⟨xs,q⟩:=hx c hc;⟨xs,s.old _ _ q (hv c hc)⟩⟩
 tp2:=fun h {H n} ⟨ok,_⟩=>(M.tp2 h ok).same z28
 rs2:=fun h {H H' n n'} ⟨ok,hx⟩ s t'=>by
  obtain ⟨hs,ht,hv⟩:=zf8 (M.tp2 h ok) s t'
  obtain ⟨a,b⟩:=M.rs2 h ok hs ht
  exact ⟨⟨a,fun c hc o ho=>s.old _ _ ho (hv c hc)⟩,b,fun c hc=>let ⟨xs,q⟩:=hx c hc;⟨xs,s.old _ _ q (hv c hc)⟩⟩
section
variable {N N':TM K}{H H':Hp}
mutual
theorem Dt.imp (k:∀H2,N'.ke H' H2→N.ke H H2):∀{v:V}{d:PyData},Dt N H v d→Dt N' H' v d
 | _,_,.non=>.non
 | _,_,.bl b=>.bl b
 | _,_,.int i=>.int i
 | _,_,.str x=>.str x
 | _,_,.lst h t=>.lst (fun H2 e=>h H2 (k H2 e)) (Dts.imp k t)
 | _,_,.tup h t=>.tup (fun H2 e=>h H2 (k H2 e)) (Dts.imp k t)
 | _,_,.dct h a t=>.dct (fun H2 e=>h H2 (k H2 e)) (Dts.imp k a) (Dts.imp k t)
theorem Dts.imp (k:∀H2,N'.ke H' H2→N.ke H H2):∀{vs:List V}{ds:List PyData},Dts N H vs ds→Dts N' H' vs ds
 | _,_,.nil=>.nil
 | _,_,.cons h t=>.cons (Dt.imp k h) (Dts.imp k t)
end
theorem RW.imp (k:∀H2,N'.ke H' H2→N.ke H H2)(hv:N'.val=N.val)(ht:N'.tk=N.tk){v:V}{w:Zw}(h:RW N H v w):RW N' H' v w:=by
 cases w with
 | d x=>exact Dt.imp k h
 | t j=>exact ⟨h.1.trans hv.symm,ht.trans h.2⟩
 | ty c=>exact h
 | o ds=>exact h
 | x c ns ds=>
  obtain ⟨C,ea,dx,vs,rfl,hc,hk,hx,hd⟩:=h
  exact ⟨C,ea,dx,vs,rfl,hc,hk,fun H2 e=>hx H2 (k H2 e),hd.imp k⟩
end
variable {M:TM K}{S S' S2:Addr→Prop}{H H' H1 H2 H0:Hp}{n n':Nat}{σ:St}{δ:Ze}
structure Tr (M:TM K)(S:Addr→Prop)(H:Hp)(S':Addr→Prop)(H':Hp):Prop where
 st:M.st (hidS S H) (hidS S' H')
 nw:∀b,S' b→¬S b→H b=none
theorem Tr.refl:Tr M S H S H:=⟨M.refl _,fun _ a b=>(b a).elim⟩
theorem Tr.trans (a:Tr M S H S' H')(b:Tr M S' H' S2 H2)(ok:M.ok (hidS S H) n):Tr M S H S2 H2:=⟨M.trans a.st b.st,fun c h2 h0=>by
 by_cases z:S' c
 ·exact a.nw c z h0
 ·have e:=M.dom ok a.st (b:=c) (by rw[z0q z];exact b.nw c h2 z)
  rw[z0q h0]at e;exact e⟩
theorem Tr.ke (a:Tr M S H S' H')(ok:M.ok (hidS S H) n):∀H2,(M.ownS S' false).ke H' H2→(M.ownS S false).ke H H2:=fun H2 e=>by
 refine ⟨?_,fun z=>by cases z⟩
 have z:=M.hidZ (S:=S) ok (fun b e=>z1t e) (M.refw _) (M.transw (M.sk a.st) e.1)
 rw[zf3,z53]at z
 exact M.transw z (M.sk (M.same (z89 fun b e=>.inl e)))
structure OB (M:TM K)(H0:Hp)(S:Addr→Prop)(H:Hp)(n:Nat):Prop where
 o0:∃n0,M.ok H0 n0
 fr:∀b,S b→H0 b=none
 st:M.st H0 (hidS S H)
 ok:M.ok (hidS S H) n
 ls:∀b,S b→∃xs,H b=some (.lst xs)
theorem OB.okS (h:OB M H0 S H n)(b:Bool):(M.ownS S b).ok H n:=⟨h.ok,h.ls⟩
theorem OB.out (h:OB M H0 S H n):∀H2,M.ke H H2→(M.ownS S false).ke H H2:=fun H2 e=>by
 obtain ⟨n0,o0⟩:=h.o0
 exact ⟨M.hidZ o0 h.fr (M.sk (M.trans h.st (M.same z28))) e,fun z=>by cases z⟩
theorem OB.step {b:Bool}(h:OB M H0 S H n)(k:(M.ownS S b).st H H')(o:(M.ownS S b).ok H' n'):OB M H0 S H' n':=⟨h.o0,h.fr,M.trans h.st k.1,o.1,o.2⟩
inductive RO (M:TM K)(S:Addr→Prop)(H:Hp):St→Ze→List Addr→Prop
 | nil:RO M S H [] [] []
 | cons {o:Option V} {w:Option Zw} {σ:St} {δ:Ze} {l:List Addr}:RS (M.ownS S false) H o w→RO M S H σ δ l→RO M S H (o::σ) (w::δ) l
 | own {b:Addr} {xs:List V} {ds:List PyData} {σ:St} {δ:Ze} {l:List Addr}:S b→b∉l→H b=some (.lst xs)→Dts (M.ownS S false) H xs ds→RO M S H σ δ l→RO M S H (some (.ref b)::σ) (some (.o ds)::δ) (b::l)
theorem RS.imp {N N':TM K}(k:∀H2,N'.ke H' H2→N.ke H H2)(hv:N'.val=N.val)(ht:N'.tk=N.tk){o:Option V}{w:Option Zw}(h:RS N H o w):RS N' H' o w:=by
 cases w with
 | none=>trivial
 | some w=>obtain ⟨v,e,r⟩:=h;exact ⟨v,e,r.imp k hv ht⟩
theorem RO.imp {l:List Addr}(h:RO M S H σ δ l)(k:∀H2,(M.ownS S' false).ke H' H2→(M.ownS S false).ke H H2)(kp:∀b∈l,S' b∧H' b=H b):RO M S' H' σ δ l:=by
 induction h with
 | nil=>exact .nil
 | cons r _ ih=>exact .cons (r.imp k rfl rfl) (ih kp)
 | own hS hl hx hd _ ih=>
  obtain ⟨k1,k2⟩:=kp _ (List.mem_cons_self ..)
  exact .own k1 hl (k2.trans hx) (hd.imp k) (ih fun b hb=>kp b (List.mem_cons_of_mem _ hb))
theorem RO.mem {l:List Addr}(h:RO M S H σ δ l):∀b∈l,S b∧∃o,H b=some o:=by
 induction h with
 | nil=>intro b hb;cases hb
 | cons _ _ ih=>exact ih
 | own hS _ hx _ _ ih=>
  intro b hb
  rcases List.mem_cons.mp hb with rfl|hb
  ·exact ⟨hS,_,hx⟩
  ·exact ih b hb
noncomputable def vw1:Bool→Option Zw→Option Zw
 | false,some (.o _)=>none
 | true,some (.o ds)=>some (.d (.list ds))
 | _,w=>w
noncomputable def vw (b:Bool):Ze→Ze
 | []=>[]
 | w::δ=>vw1 b w::vw b δ
theorem RO.re {l:List Addr}(h:RO M S H σ δ l)(b:Bool):RE (M.ownS S b) H σ (vw b δ):=by
 have k:∀H2,(M.ownS S b).ke H H2→(M.ownS S false).ke H H2:=fun H2 e=>⟨e.1,fun z=>by cases z⟩
 induction h with
 | nil=>exact .nil
 | @cons o w σ δ l r _ ih=>
  refine .cons ?_ ih
  have r':RS (M.ownS S b) H o w:=r.imp k rfl rfl
  cases b with
  | false=>
   cases w with
   | none=>exact r'
   | some w=>cases w<;>first|exact r'|trivial
  | true=>
   cases w with
   | none=>exact r'
   | some w=>cases w<;>first|exact r'|(obtain ⟨_,_,z⟩:=r';exact z.elim)
 | own hS hl hx hd _ ih=>
  refine .cons ?_ ih
  cases b with
  | false=>trivial
  | true=>exact ⟨_,rfl,.lst (fun H2 e=>e.2 rfl _ hS _ hx) (hd.imp k)⟩
theorem RO.set {l:List Addr}(h:RO M S H σ δ l){v:V}{w:Zw}(r:RW (M.ownS S false) H v w):∀i:Nat,∃l',(∀b∈l',b∈l)∧RO M S H (σ.set i (some v)) (zs δ i w) l':=by
 induction h with
 | nil=>intro i;exact ⟨[],fun _ h=>h,.nil⟩
 | @cons o w0 σ δ l r0 t ih=>
  intro i
  cases i with
  | zero=>exact ⟨l,fun _ h=>h,.cons ⟨v,rfl,r⟩ t⟩
  | succ i=>obtain ⟨l',hs,t'⟩:=ih i;exact ⟨l',hs,.cons r0 t'⟩
 | own hS hl hx hd t ih=>
  intro i
  cases i with
  | zero=>exact ⟨_,fun b hb=>List.mem_cons_of_mem _ hb,.cons ⟨v,rfl,r⟩ t⟩
  | succ i=>
   obtain ⟨l',hs,t'⟩:=ih i
   refine ⟨_,fun c hc=>?_,.own hS (fun z=>hl (hs _ z)) hx hd t'⟩
   rcases List.mem_cons.mp hc with rfl|hc
   ·exact List.mem_cons_self ..
   ·exact List.mem_cons_of_mem _ (hs c hc)
theorem RO.put {l:List Addr}{b:Addr}{xs:List V}{ds:List PyData}(h:RO M S H σ δ l)(hS:S b)(hl:b∉l)(hx:H b=some (.lst xs))(hd:Dts (M.ownS S false) H xs ds):∀i:Nat,i<σ.length→∃l',(∀c∈l',c∈b::l)∧RO M S H (σ.set i (some (.ref b))) (zs δ i (.o ds)) l':=by
 induction h with
 | nil=>intro i hi;exact absurd hi (Nat.not_lt_zero _)
 | @cons o w0 σ δ l r0 t ih=>
  intro i hi
  cases i with
  | zero=>exact ⟨b::l,fun _ h=>h,.own hS hl hx hd t⟩
  | succ i=>obtain ⟨l',hs,t'⟩:=ih hl i (Nat.lt_of_succ_lt_succ hi);exact ⟨l',hs,.cons r0 t'⟩
 | @own b' xs' ds' σ δ l hS' hl' hx' hd' t ih=>
  intro i hi
  have n1:b≠b':=fun z=>hl (z▸List.mem_cons_self ..)
  have n2:b∉l:=fun z=>hl (List.mem_cons_of_mem _ z)
  cases i with
  | zero=>exact ⟨b::l,fun c hc=>(List.mem_cons.mp hc).elim (fun z=>z▸List.mem_cons_self ..) fun z=>List.mem_cons_of_mem _ (List.mem_cons_of_mem _ z),.own hS n2 hx hd t⟩
  | succ i=>
   obtain ⟨l',hs,t'⟩:=ih n2 i (Nat.lt_of_succ_lt_succ hi)
   refine ⟨b'::l',fun c hc=>?_,.own hS' (fun z=>?_) hx' hd' t'⟩
   ·rcases List.mem_cons.mp hc with rfl|hc
    ·exact List.mem_cons_of_mem _ (List.mem_cons_self ..)
    ·rcases List.mem_cons.mp (hs c hc) with rfl|hc
     ·exact List.mem_cons_self ..
     ·exact List.mem_cons_of_mem _ (List.mem_cons_of_mem _ hc)
   ·rcases List.mem_cons.mp (hs _ z) with z|z
    ·exact n1 z.symm
    ·exact hl' z
theorem RO.getO {l : List Addr}(h : RO M S H σ δ l) : ∀ {i : Nat} {ds : List PyData}, lk δ i = some (.o ds) → ∃ b xs, σ[i]? = some (some (.ref b)) ∧ b ∈ l ∧ S b ∧ H b = some (.lst xs) ∧ Dts (M.ownS S false) H xs ds ∧
  ∀xs' ds',Dts (M.ownS S false) H xs' ds'→RO M S (upd H b (.lst xs')) σ (zs δ i (.o ds')) l:=by
 have ku:∀{b:Addr}(o:HO),S b→∀H2,(M.ownS S false).ke (upd H b o) H2→(M.ownS S false).ke H H2:=fun {b} o hS H2 e=>by
  refine ⟨?_,fun z=>by cases z⟩
  have:=e.1
  rw[zca hS]at this;exact this
 induction h with
 | nil=>intro i ds e;cases e
 | @cons o w σ δ l r t ih=>
  intro i ds e
  cases i with
  | zero=>
   have e':w=some (.o ds):=e
   subst e'
   obtain ⟨_,_,z⟩:=r
   exact z.elim
  | succ i=>
   obtain ⟨b,xs,h1,h2,h3,h4,h5,h6⟩:=ih (i:=i) e
   exact ⟨b,xs,by simpa using h1,h2,h3,h4,h5,fun xs' ds' d'=>.cons (r.imp (ku _ h3) rfl rfl) (h6 xs' ds' d')⟩
 | @own b xs ds0 σ δ l hS hl hx hd t ih=>
  intro i ds e
  cases i with
  | zero=>
   cases e
   refine ⟨b,xs,rfl,List.mem_cons_self ..,hS,hx,hd,fun xs' ds' d'=>.own hS hl z06 (d'.imp (ku _ hS)) (t.imp (ku _ hS) fun c hc=>⟨(t.mem c hc).1,?_⟩)⟩
   rw[z0f (show c≠b from fun z=>hl (z▸hc))]
  | succ i=>
   obtain ⟨b',xs',h1,h2,h3,h4,h5,h6⟩:=ih (i:=i) e
   have ne:b≠b':=fun z=>hl (z▸h2)
   exact ⟨b',xs',by simpa using h1,List.mem_cons_of_mem _ h2,h3,h4,h5,fun ys es d'=>.own hS hl (by rw[z0f ne];exact hx) (hd.imp (ku _ h3)) (h6 ys es d')⟩
theorem RO.rel {l : List Addr}(B : OB M H0 S H n)(h : RO M S H σ δ l){b : Addr}(hb : S b) : ∀ {i : Nat} {ds : List PyData}, lk δ i = some (.o ds) → σ[i]? = some (some (.ref b)) →
  ∃l',(∀c∈l',c∈l∧c≠b)∧RO M (fun c=>S c∧c≠b) H σ (zs δ i (.d (.list ds))) l':=by
 obtain ⟨n0,o0⟩:=B.o0
 have sub:Same (hidS S H) (hidS (fun c=>S c∧c≠b) H):=z89 fun c z=>z.1
 have kk:∀H2,(M.ownS (fun c=>S c∧c≠b) false).ke H H2→(M.ownS S false).ke H H2:=(Tr.mk (M.same sub) fun c z nz=>(nz z.1).elim:Tr M S H (fun c=>S c∧c≠b) H).ke B.ok
 have pers:∀{xs:List V},H b=some (.lst xs)→∀H2,(M.ownS (fun c=>S c∧c≠b) false).ke H H2→H2 b=some (.lst xs):=fun {xs} e H2 k=>by
  have nb:¬(S b∧b≠b):=fun z=>z.2 rfl
  exact (z0z (M.newD o0 (B.fr b hb) (M.sk (M.trans B.st (M.same sub))) (by rw[z0q nb];exact e) k.1)).2
 have rest:∀{σ:St}{δ:Ze}{l:List Addr},RO M S H σ δ l→b∉l→RO M (fun c=>S c∧c≠b) H σ δ l:=fun t nl=>t.imp kk fun c hc=>⟨⟨(t.mem c hc).1,fun z=>nl (z▸hc)⟩,rfl⟩
 induction h with
 | nil=>intro i ds e;cases e
 | @cons o w σ δ l r t ih=>
  intro i ds e e2
  cases i with
  | zero=>
   have e':w=some (.o ds):=e
   subst e'
   obtain ⟨_,_,z⟩:=r
   exact z.elim
  | succ i=>
   obtain ⟨l',hs,t'⟩:=ih (i:=i) e (by simpa using e2)
   exact ⟨l',hs,.cons (r.imp kk rfl rfl) t'⟩
 | @own b0 xs ds0 σ δ l hS hl hx hd t ih=>
  intro i ds e e2
  cases i with
  | zero=>
   cases e
   have eb:b0=b:=by
    have e2':some (some (V.ref b0))=some (some (.ref b)):=e2
    injection e2' with z;injection z with z;injection z
   subst eb
   exact ⟨l,fun c hc=>⟨List.mem_cons_of_mem _ hc,fun z=>hl (z▸hc)⟩,.cons ⟨_,rfl,.lst (pers hx) (hd.imp kk)⟩ (rest t hl)⟩
  | succ i=>
   have e2':σ[i]?=some (some (V.ref b)):=by simpa using e2
   obtain ⟨b',_,q1,q2,_⟩:=t.getO (i:=i) e
   rw[e2']at q1
   cases q1
   obtain ⟨l',hs,t'⟩:=ih (i:=i) e e2'
   have ne:b0≠b:=fun z=>hl (z▸q2)
   refine ⟨b0::l',fun c hc=>?_,.own ⟨hS,ne⟩ (fun z=>hl (hs _ z).1) hx (hd.imp kk) t'⟩
   rcases List.mem_cons.mp hc with rfl|hc
   ·exact ⟨List.mem_cons_self ..,ne⟩
   ·exact ⟨List.mem_cons_of_mem _ (hs c hc).1,(hs c hc).2⟩
structure OSt (M:TM K)(H0:Hp)(S:Addr→Prop)(H:Hp)(σ:St)(δ:Ze)(n:Nat):Prop where
 b:OB M H0 S H n
 r:∃l,RO M S H σ δ l
theorem OSt.step {b:Bool}(h:OSt M H0 S H σ δ n)(k:(M.ownS S b).st H H')(o:(M.ownS S b).ok H' n'):Tr M S H S H'∧OSt M H0 S H' σ δ n':=by
 have t:Tr M S H S H':=⟨k.1,fun c a z=>(z a).elim⟩
 obtain ⟨l,r⟩:=h.r
 refine ⟨t,h.b.step k o,l,r.imp (t.ke h.b.ok) fun c hc=>?_⟩
 obtain ⟨s,o,e⟩:=r.mem c hc
 exact ⟨s,(k.2 c s o e).trans e.symm⟩
theorem OSt.set (h:OSt M H0 S H σ δ n){v:V}{w:Zw}(r:RW (M.ownS S false) H v w)(i:Nat):OSt M H0 S H (σ.set i (some v)) (zs δ i w) n:=by
 obtain ⟨l,t⟩:=h.r
 obtain ⟨l',_,t'⟩:=t.set r i
 exact ⟨h.b,l',t'⟩
end
end
section
section
variable {K:W.Frag}{EE:XS}
noncomputable abbrev XR:=Str→List Str→List PyData→Nat→Prop
structure XE (K:W.Frag)(EE:XS)(te:TE)(de:XR→ZE):Prop where
 o:∀(M:TM K){σ:St}{δ:Ze}{H:Hp}{n:Nat}{Q:VK}{Qd:ZK}{xr:XR},M.ok H n→RE M H σ δ→de xr δ n Qd→Ok1 M H Qd Q→OkX M H xr (EE σ)→te σ H Q
structure XT (K:W.Frag)(EE:XS)(te:TT)(de:XR→ZT):Prop where
 o:∀(M:TM K){σ:St}{δ:Ze}{H:Hp}{n:Nat}{Q:Bool→Hp→Prop}{Qd:Bool→Nat→Prop}{xr:XR},M.ok H n→RE M H σ δ→de xr δ n Qd→(∀b H' n',M.st H H'→M.ok H' n'→Qd b n'→Q b H')→OkX M H xr (EE σ)→te σ H Q
structure XA (K:W.Frag)(EE:XS)(k:Nat)(te:TA)(de:XR→ZA):Prop where
 o:∀(M:TM K){σ:St}{δ:Ze}{H:Hp}{n:Nat}{Q:List V→Hp→Prop}{Qd:List Zw→Nat→Prop}{xr:XR},M.ok H n→RE M H σ δ→de xr δ n Qd→(∀vs H' ws n',M.st H H'→M.ok H' n'→RWs M H' vs ws→ws.length=k→Qd ws n'→Q vs H')→OkX M H xr (EE σ)→te σ H Q
theorem SmE.x {te:TE}{de:ZE}(h:SmE K te de):XE K EE te (fun _=>de):=⟨fun M {σ δ H n Q Qd xr} ok re hd k _=>h.o M ok re hd k⟩
theorem SmT.x {te:TT}{de:ZT}(h:SmT K te de):XT K EE te (fun _=>de):=⟨fun M {σ δ H n Q Qd xr} ok re hd k _=>h.o M ok re hd k⟩
theorem SmA.x {m:Nat}{te:TA}{de:ZA}(h:SmA K m te de):XA K EE m te (fun _=>de):=⟨fun M {σ δ H n Q Qd xr} ok re hd k _=>h.o M ok re hd k⟩
noncomputable def zmh (z:zm6)(a:XR→ZA):XR→ZE:=fun xr δ n Q=>a xr δ n fun ws n1=>z ws n1 Q xr
noncomputable def CallOkX (K:W.Frag)(sp:Sp)(z:zm6):Prop:=∀vs H Q E,zhb K z vs H Q E→sp vs H Q E
theorem CallOkX.refl {z:zm6}:CallOkX K (zhb K z) z:=fun _ _ _ _ h=>h
theorem zg6 {m:Nat}{sp:Sp}{z:zm6}{t:TA}{a:XR→ZA}(hc:CallOkX K sp z)(ha:XA K EE m t a):XE K EE (zi4 sp EE t) (zmh z a):=⟨fun M {σ δ H n Q Qd xr} ok re h k kx=>by
 refine ha.o M ok re h (fun vs H1 ws n1 k1 o1 r1 hl h1=>?_) kx
 exact hc vs H1 _ _ ⟨M,ws,n1,Qd,xr,o1,r1,h1,k.ke k1,kx.ke k1⟩⟩
theorem zqo {r:R2}{f:Zw→Zw→Nat→ZK→Prop}{ta tb:TE}{a b:XR→ZE}(hr:R2k K r f)(ha:XE K EE ta a)(hb:XE K EE tb b):XE K EE (tOp r ta tb) (fun xr=>zOp f (a xr) (b xr)):=⟨fun M {σ δ H n Q Qd xr} ok re h k kx=>by
 refine ha.o M ok re h (fun x H1 w n1 k1 o1 r1 h1=>?_) kx
 refine hb.o M o1 (re.ke k1) h1 (fun y H2 z n2 k2 o2 r2 h2=>?_) (kx.ke k1)
 exact hr M o2 (r1.ke k2) r2 h2 (k.ke (M.trans k1 k2))⟩
structure Zn where
 nx:Ze→Nat→Prop
 rt:ZK
 bk:Ze→Nat→Prop:=fun _ _=>False
 ct:Ze→Nat→Prop:=fun _ _=>False
 xr:Ze→XR:=fun _ _ _ _ _=>False
noncomputable abbrev ZN:=Zn→Ze→Nat→Prop
noncomputable def pur:Bool→Zw→Prop→Prop
 | false,_,P=>P
 | true,.d d,P=>tpd d=true∧P
 | true,.t _,P=>P
 | true,.ty _,P=>P
 | true,_,_=>False
noncomputable def purs:Bool→List PyData→Prop→Prop
 | false,_,P=>P
 | true,ds,P=>z76 ds=true∧P
noncomputable def ziq:Bool→XR→XR
 | false,xr=>xr
 | true,xr=>fun x ns ds n=>z76 ds=true∧xr x ns ds n
variable {M:TM K}{S S' S2:Addr→Prop}{H H' H1 H2 H0:Hp}{n n':Nat}{σ:St}{δ:Ze}{D:Ends}{Dd:Zn}{b:Bool}
theorem RW.pur {v:V}{w:Zw}{P:Prop}(ok:(M.ownS S false).ok H n)(r:RW (M.ownS S b) H v w)(h:L2.pur b w P):RW (M.ownS S false) H v w∧P:=by
 cases b with
 | false=>exact ⟨r,h⟩
 | true=>
  cases w with
  | d d=>exact ⟨(RW.dv r).dt ok h.1,h.2⟩
  | t k=>exact ⟨r,h⟩
  | ty c=>exact ⟨r,h⟩
  | o ds=>exact r.elim
  | x c ns ds=>exact h.elim
theorem Dts.purs {vs:List V}{ds:List PyData}{P:Prop}(ok:(M.ownS S false).ok H n)(r:Dts (M.ownS S b) H vs ds)(h:L2.purs b ds P):Dts (M.ownS S false) H vs ds∧P:=by
 cases b with
 | false=>exact ⟨r,h⟩
 | true=>exact ⟨r.dv.dt ok h.1,h.2⟩
structure OkO (M:TM K)(EE:XS)(H0:Hp)(S:Addr→Prop)(H:Hp)(Dd:Zn)(D:Ends):Prop where
 nx:∀S' H' σ δ n',Tr M S H S' H'→OSt M H0 S' H' σ δ n'→Dd.nx δ n'→D.nx σ H'
 rt:∀S' H' v w n',Tr M S H S' H'→OB M H0 S' H' n'→RW (M.ownS S' false) H' v w→Dd.rt w n'→D.rt v H'
 bk:∀S' H' σ δ n',Tr M S H S' H'→OSt M H0 S' H' σ δ n'→Dd.bk δ n'→D.bk σ H'
 ct:∀S' H' σ δ n',Tr M S H S' H'→OSt M H0 S' H' σ δ n'→Dd.ct δ n'→D.ct σ H'
 xr:∀S' H' σ δ n' x ns vs ds,Tr M S H S' H'→OSt M H0 S' H' σ δ n'→Dts (M.ownS S' false) H' vs ds→Dd.xr δ x ns ds n'→RaisesW K x (mkF ns vs) H' (EE σ)
theorem OkO.tr (k:OkO M EE H0 S H Dd D)(t:Tr M S H S' H')(ok:M.ok (hidS S H) n):OkO M EE H0 S' H' Dd D:=
 ⟨fun S2 H2 σ δ n' t'=>k.nx S2 H2 σ δ n' (t.trans t' ok),fun S2 H2 v w n' t'=>k.rt S2 H2 v w n' (t.trans t' ok),fun S2 H2 σ δ n' t'=>k.bk S2 H2 σ δ n' (t.trans t' ok),fun S2 H2 σ δ n' t'=>k.ct S2 H2 σ δ n' (t.trans t' ok),fun S2 H2 σ δ n' x ns vs ds t'=>k.xr S2 H2 σ δ n' x ns vs ds (t.trans t' ok)⟩
theorem OkO.okX (k:OkO M EE H0 S H Dd D)(s:OSt M H0 S H σ δ n):OkX (M.ownS S b) H (ziq b (Dd.xr δ)) (EE σ):=fun x ns vs ds H' n' k1 o1 r h=>by
 obtain ⟨t,s'⟩:=s.step k1 o1
 cases b with
 | false=>exact k.xr S H' σ δ n' x ns vs ds t s' r h
 | true=>exact k.xr S H' σ δ n' x ns vs ds t s' (r.dv.dt (s'.b.okS false) h.1) h.2
theorem XE.at {ta : TE}{a : XR → ZE}{Q : VK}{Qd : ZK}(ha : XE K EE ta a)(s : OSt M H0 S H σ δ n)(h : a (ziq b (Dd.xr δ)) (vw b δ) n Qd)(k : OkO M EE H0 S H Dd D)
  (q:∀v H1 w n1,Tr M S H S H1→OSt M H0 S H1 σ δ n1→RW (M.ownS S b) H1 v w→Qd w n1→Q v H1):ta σ H Q:=by
 obtain ⟨l,r⟩:=s.r
 refine ha.o (M.ownS S b) (s.b.okS b) (r.re b) h (fun v H1 w n1 k1 o1 r1 h1=>?_) (k.okX s)
 obtain ⟨t,s'⟩:=s.step k1 o1
 exact q v H1 w n1 t s' r1 h1
theorem XT.at {ta : TT}{a : XR → ZT}{Q : Bool → Hp → Prop}{Qd : Bool → Nat → Prop}(ha : XT K EE ta a)(s : OSt M H0 S H σ δ n)(h : a (ziq b (Dd.xr δ)) (vw b δ) n Qd)(k : OkO M EE H0 S H Dd D)
  (q:∀v H1 n1,Tr M S H S H1→OSt M H0 S H1 σ δ n1→Qd v n1→Q v H1):ta σ H Q:=by
 obtain ⟨l,r⟩:=s.r
 refine ha.o (M.ownS S b) (s.b.okS b) (r.re b) h (fun v H1 n1 k1 o1 h1=>?_) (k.okX s)
 obtain ⟨t,s'⟩:=s.step k1 o1
 exact q v H1 n1 t s' h1
structure SoS (K:W.Frag)(EE:XS)(ts:TS)(ds:ZN):Prop where
 o:∀(M:TM K){H0:Hp}{S:Addr→Prop}{H:Hp}{σ:St}{δ:Ze}{n:Nat}{D:Ends}{Dd:Zn},OSt M H0 S H σ δ n→ds Dd δ n→OkO M EE H0 S H Dd D→ts D σ H
noncomputable def zrq:ZN:=fun D δ n=>D.nx δ n
noncomputable def ztr (s t:ZN):ZN:=fun D δ n=>s {D with nx:=t D} δ n
theorem z4v:SoS K EE zgd zrq:=⟨fun M {H0 S H σ δ n D Dd} s h k=>k.nx _ _ _ _ n .refl s h⟩
theorem z1p {t u:TS}{a b:ZN}(ha:SoS K EE t a)(hb:SoS K EE u b):SoS K EE (zpz t u) (ztr a b):=⟨fun M {H0 S H σ δ n D Dd} s h k=>by
 refine ha.o M s h ⟨fun S1 H1 σ1 δ1 n1 t1 s1 h1=>?_,k.rt,k.bk,k.ct,k.xr⟩
 exact hb.o M s1 h1 (k.tr t1 s.b.ok)⟩
noncomputable def zts (b:Bool)(a:XR→ZE):ZN:=fun D δ n=>a (ziq b (D.xr δ)) (vw b δ) n fun w n1=>pur b w (D.rt w n1)
theorem z3m {ta:TE}{a:XR→ZE}(ha:XE K EE ta a):SoS K EE (zq0 ta) (zts b a):=⟨fun M {H0 S H σ δ n D Dd} s h k=>by
 refine ha.at s h k fun v H1 w n1 t s1 r1 h1=>?_
 obtain ⟨r2,h2⟩:=r1.pur (s1.b.okS false) h1
 exact k.rt _ _ _ _ n1 t s1.b r2 h2⟩
noncomputable def oIf (b:Bool)(t:XR→ZT)(p q:ZN):ZN:=fun D δ n=>t (ziq b (D.xr δ)) (vw b δ) n fun c n1=>cnd c (p D δ n1) (q D δ n1)
theorem zcq {tt:TT}{t u:TS}{zt:XR→ZT}{p q:ZN}(ht:XT K EE tt zt)(ha:SoS K EE t p)(hb:SoS K EE u q):SoS K EE (zq2 tt t u) (oIf b zt p q):=⟨fun M {H0 S H σ δ n D Dd} s h k=>by
 refine ht.at s h k fun c H1 n1 t1 s1 h1=>?_
 cases c with
 | true=>exact ha.o M s1 h1 (k.tr t1 s.b.ok)
 | false=>exact hb.o M s1 h1 (k.tr t1 s.b.ok)⟩
noncomputable def ztq (b:Bool)(i:Nat)(a:XR→ZE):ZN:=fun D δ n=>a (ziq b (D.xr δ)) (vw b δ) n fun w n1=>pur b w (D.nx (zs δ i w) n1)
theorem z2k {i:Nat}{ta:TE}{a:XR→ZE}(ha:XE K EE ta a):SoS K EE (zdi ta (z54 i)) (ztq b i a):=⟨fun M {H0 S H σ δ n D Dd} s h k=>by
 refine ha.at s h k fun v H1 w n1 t s1 r1 h1=>?_
 obtain ⟨r2,h2⟩:=r1.pur (s1.b.okS false) h1
 exact k.nx _ _ _ _ n1 t (s1.set r2 i) h2⟩
structure SoG (K:W.Frag)(g:TG)(zg:ZG):Prop where
 o:∀(M:TM K){H0:Hp}{S:Addr→Prop}{H:Hp}{σ:St}{δ:Ze}{n:Nat}{v:V}{d:PyData}{Q:St→Hp→Prop}{Qd:Ze→Nat→Prop},OSt M H0 S H σ δ n→Dt (M.ownS S false) H v d→zg d δ n Qd→(∀σ' δ',OSt M H0 S H σ' δ' n→Qd δ' n→Q σ' H)→g v σ H Q
theorem z6e {i:Nat}:SoG K (z54 i) (zmf i):=⟨fun M {H0 S H σ δ n v d Q Qd} s dv h k=>k _ _ (s.set dv.rw i) h⟩
noncomputable def ztu (b:Bool)(i j:Nat)(a:ZA):ZN:=fun D δ n=>a (vw b δ) n fun ws n1=>match ws with|[v,w]=>pur b v (pur b w (D.nx (zs (zs δ i v) j w) n1))|_=>False
theorem zn0 {m i j:Nat}{ta:TA}{a:ZA}(ha:SmA K m ta a):SoS K EE (zqt i j ta) (ztu b i j a):=⟨fun M {H0 S H σ δ n D Dd} s h k=>by
 obtain ⟨l,r⟩:=s.r
 refine ha.o (M.ownS S b) (s.b.okS b) (r.re b) h fun vs H1 ws n1 k1 o1 r1 _ h1=>?_
 obtain ⟨t,s1⟩:=s.step k1 o1
 match ws,r1,h1 with
 | [v,w],.cons ra (.cons rb .nil),h1=>
  obtain ⟨r2,h2⟩:=ra.pur (s1.b.okS false) h1
  obtain ⟨r3,h3⟩:=rb.pur (s1.b.okS false) h2
  exact ⟨_,_,rfl,k.nx _ _ _ _ n1 t ((s1.set r2 i).set r3 j) h3⟩⟩
end
end
section
section
variable {K:W.Frag}{EE:XS}{M:TM K}{S S' S2:Addr→Prop}{H H' H1 H2 H0:Hp}{n n':Nat}{σ:St}{δ:Ze}{D:Ends}{Dd:Zn}{b:Bool}
noncomputable def zh3 (g:ZG)(b:ZN)(D:Zn):List PyData→Ze→Nat→Prop
 | [],δ,n=>D.nx δ n
 | x::xs,δ,n=>g x δ n fun δ2 n2=>b {D with nx:=zh3 g b D xs,ct:=zh3 g b D xs,bk:=D.nx} δ2 n2
noncomputable def zrp (g:ZG)(b:ZN)(D:Zn)(ds:List PyData)(δ:Ze)(n:Nat):Prop:=zh3 g b D ds δ n
structure oRun (g:ZG)(b:ZN)(D:Zn)(ds:List PyData)(δ:Ze)(n:Nat):Prop where
 o:zrp g b D ds δ n
theorem zby {g:ZG}{b:ZN}{D:Zn}{δ:Ze}{n:Nat}:oRun g b D [] δ n=D.nx δ n:=propext ⟨fun h=>h.o,fun h=>⟨h⟩⟩
theorem z84 {g:ZG}{b:ZN}{D:Zn}{xs:List PyData}:zh3 g b D xs=oRun g b D xs:=by funext δ n;exact propext ⟨fun h=>⟨h⟩,fun h=>h.o⟩
theorem z9c {g:ZG}{b:ZN}{D:Zn}{x:PyData}{xs:List PyData}{δ:Ze}{n:Nat}:oRun g b D (x::xs) δ n=g x δ n fun δ2 n2=>b {D with nx:=oRun g b D xs,ct:=oRun g b D xs,bk:=D.nx} δ2 n2:=by
 first|(rw[←z84,←z84];rfl)|(rw[←z84];rfl)
theorem zlf {g : TG}{tb : TS}{zg : ZG}{z : ZN}{J : It}{ds : List PyData}(hg : SoG K g zg)(hb : SoS K EE tb z)(s : OSt M H0 S H σ δ n)(it : ItOk (M.ownS S false) H J ds)(h : oRun zg z Dd ds δ n)(k : OkO M EE H0 S H Dd D) :
  ∃W:Nat→Nat→St→Hp→Prop,(∃m,W 0 m σ H)∧∀i m σ H,W i m σ H→(J.stop i H∧D.nx σ H)∨(J.go i H∧∃N:St→Hp→Prop,(∀σ' H',N σ' H'→∃m',m'<m∧W (i+1) m' σ' H')∧∀x H',J.yld i H x H'→g x σ H' fun σ2 H2=>tb {D with nx:=N,ct:=N,bk:=D.nx} σ2 H2):=by
 refine ⟨fun i m σ' H'=>m=ds.length-i∧i≤ds.length∧∃S' δ' n',Tr M S H S' H'∧OSt M H0 S' H' σ' δ' n'∧oRun zg z Dd (ds.drop i) δ' n',⟨ds.length,by simp,Nat.zero_le _,S,δ,n,.refl,s,h⟩,?_⟩
 rintro i m σ' H' ⟨rfl,hle,S',δ',n',t',s',h'⟩
 have kk:=t'.ke s.b.ok
 obtain ⟨ig,is⟩:=it H' (kk H' ((M.ownS S' false).refw _))
 by_cases hlt:i<ds.length
 ·refine .inr ?_
  have e:ds[i]?=some ds[i]:=List.getElem?_eq_getElem hlt
  rw[List.drop_eq_getElem_cons hlt,z9c]at h'
  obtain ⟨g1,g2⟩:=ig i _ e
  refine ⟨g1,fun σ2 H2=>∃S2 δ2 n2,Tr M S H S2 H2∧OSt M H0 S2 H2 σ2 δ2 n2∧oRun zg z Dd (ds.drop (i+1)) δ2 n2,fun σ2 H2 q=>⟨ds.length-(i+1),by omega,rfl,hlt,q⟩,fun x H2 hy=>?_⟩
  have key:∃(ke:(M.ownS S' false).st H' H2),(M.ownS S' false).ok H2 n'∧Dt (M.ownS S' false) H2 x ds[i]:=by
   rcases g2 x H2 hy with ⟨rfl,dv⟩|⟨T,vs,es,rfl,hT,rfl,ed,dv⟩
   ·exact ⟨(M.ownS S' false).refl _,s'.b.okS _,dv.imp kk⟩
   ·have sm:=z0a hT (.tup vs)
    rw[ed]
    exact ⟨(M.ownS S' false).same sm,(M.ownS S' false).oks (s'.b.okS _) sm,.newT (s'.b.okS _) hT (dv.imp kk)⟩
  obtain ⟨ke,ok2,dv⟩:=key
  obtain ⟨t2,s2⟩:=s'.step ke ok2
  have t02:=t'.trans t2 s.b.ok
  refine hg.o M s2 dv h' fun σ3 δ3 s3 h3=>?_
  exact hb.o M s3 h3 ⟨fun S4 H4 σ4 δ4 n4 t4 s4 h4=>⟨S4,δ4,n4,t02.trans t4 s.b.ok,s4,h4⟩,(k.tr t02 s.b.ok).rt,fun S4 H4 σ4 δ4 n4 t4 s4 h4=>k.nx S4 H4 σ4 δ4 n4 (t02.trans t4 s.b.ok) s4 h4,fun S4 H4 σ4 δ4 n4 t4 s4 h4=>⟨S4,δ4,n4,t02.trans t4 s.b.ok,s4,h4⟩,(k.tr t02 s.b.ok).xr⟩
 ·have e:i=ds.length:=by omega
  subst e
  rw[List.drop_length,zby]at h'
  exact .inl ⟨is,k.nx S' H' σ' δ' n' t' s' h'⟩
noncomputable def ztw (i:ZI)(g:ZG)(b:ZN):ZN:=fun D δ n=>i (vw false δ) n fun ds n1=>oRun g b D ds δ n1
theorem z8y {wi:TI}{g:TG}{tb:TS}{i:ZI}{zg:ZG}{z:ZN}(hi:SmI K wi i)(hg:SoG K g zg)(hb:SoS K EE tb z):SoS K EE (zq3 wi g tb) (ztw i zg z):=⟨fun M {H0 S H σ δ n D Dd} s h k=>by
 obtain ⟨l,r⟩:=s.r
 refine hi.o (M.ownS S false) (s.b.okS _) (r.re false) h fun J H1 ds n1 k1 o1 it h1=>?_
 obtain ⟨t1,s1⟩:=s.step k1 o1
 exact zlf hg hb s1 it h1 (k.tr t1 s.b.ok)⟩
noncomputable def zop (b:Bool)(c:ZT)(z:ZN):ZN:=fun D δ n=>∃W:Nat→Ze→Nat→Prop,(∃m,W m δ n)∧∀m δ n,W m δ n→
 c (vw b δ) n fun k n1=>cnd k (∃N:Ze→Nat→Prop,(∀δ' n',N δ' n'→∃m',m'<m∧W m' δ' n')∧z {D with nx:=N,ct:=N,bk:=D.nx} δ n1) (D.nx δ n1)
theorem zq5 {tc:TT}{tb:TS}{c:ZT}{z:ZN}(hc:SmT K tc c)(hb:SoS K EE tb z):SoS K EE (zb8 tc tb) (zop b c z):=⟨fun M {H0 S H σ δ n D Dd} s h k=>by
 obtain ⟨W,⟨m0,w0⟩,turn⟩:=h
 refine ⟨fun m σ' H'=>∃S' δ' n',Tr M S H S' H'∧OSt M H0 S' H' σ' δ' n'∧W m δ' n',⟨m0,S,δ,n,.refl,s,w0⟩,?_⟩
 rintro m σ' H' ⟨S',δ',n',t',s',w'⟩
 obtain ⟨l,r⟩:=s'.r
 refine hc.o (M.ownS S' b) (s'.b.okS _) (r.re b) (turn m δ' n' w') fun b' H1 n1 k1 o1 h1=>?_
 obtain ⟨t1,s1⟩:=s'.step k1 o1
 have t01:=t'.trans t1 s.b.ok
 cases b' with
 | true=>
  obtain ⟨N,hN,h1⟩:=h1
  rw[if_pos rfl]
  refine ⟨fun σ2 H2=>∃S2 δ2 n2,Tr M S H S2 H2∧OSt M H0 S2 H2 σ2 δ2 n2∧N δ2 n2,fun σ2 H2 ⟨S2,δ2,n2,a1,a2,a3⟩=>?_,?_⟩
  ·obtain ⟨m',hm,w2⟩:=hN δ2 n2 a3
   exact ⟨m',hm,S2,δ2,n2,a1,a2,w2⟩
  ·exact hb.o M s1 h1 ⟨fun S4 H4 σ4 δ4 n4 t4 s4 h4=>⟨S4,δ4,n4,t01.trans t4 s.b.ok,s4,h4⟩,(k.tr t01 s.b.ok).rt,fun S4 H4 σ4 δ4 n4 t4 s4 h4=>k.nx S4 H4 σ4 δ4 n4 (t01.trans t4 s.b.ok) s4 h4,fun S4 H4 σ4 δ4 n4 t4 s4 h4=>⟨S4,δ4,n4,t01.trans t4 s.b.ok,s4,h4⟩,(k.tr t01 s.b.ok).xr⟩
 | false=>
  rw[if_neg Bool.false_ne_true]
  exact k.nx S' H1 σ' δ' n1 t01 s1 h1⟩
noncomputable def ztx (z:ZN):ZN:=fun D δ n=>∃J:Ze→Nat→Prop,z {D with nx:=J} δ n∧∀δ' n',J δ' n'→D.nx δ' n'
theorem zdk {t:TS}{z:ZN}(h:SoS K EE t z):SoS K EE (zjo t) (ztx z):=⟨fun M {H0 S H σ δ n D Dd} s hs k=>by
 obtain ⟨J,h1,h2⟩:=hs
 exact ⟨fun σ' H'=>∃S' δ' n',Tr M S H S' H'∧OSt M H0 S' H' σ' δ' n'∧J δ' n',h.o M s h1 ⟨fun S' H' σ' δ' n' a b c=>⟨S',δ',n',a,b,c⟩,k.rt,k.bk,k.ct,k.xr⟩,fun σ' H' ⟨S',δ',n',a,b,c⟩=>k.nx S' H' σ' δ' n' a b (h2 δ' n' c)⟩⟩
noncomputable def ztv (b:Bool)(i:Nat)(a:ZE):ZN:=fun D δ n=>a (vw b δ) n fun w n1=>match w with|.d (.list ds)=>purs b ds (i<δ.length∧D.nx (zs δ i (.o ds)) n1)|_=>False
theorem RO.len {l:List Addr}(h:RO M S H σ δ l):σ.length=δ.length:=by
 induction h with
 | nil=>rfl
 | cons _ _ ih=>simp[ih]
 | own _ _ _ _ _ ih=>simp[ih]
theorem OSt.new (s : OSt M H0 S H σ δ n){D : Addr}{vs : List V}{ds : List PyData}(hD : H D = none)(d : Dts (M.ownS S false) H vs ds){i : Nat}(hi : i<δ.length) :
  Tr M S H (fun c=>S c∨c=D) (upd H D (.lst vs))∧OSt M H0 (fun c=>S c∨c=D) (upd H D (.lst vs)) (σ.set i (some (.ref D))) (zs δ i (.o ds)) n:=by
 have nS:¬S D:=fun z=>by obtain ⟨xs,q⟩:=s.b.ls D z;rw[hD]at q;cases q
 have eh:hidS (fun c=>S c∨c=D) (upd H D (.lst vs))=hidS S H:=by
  funext c
  by_cases z:S c
  ·rw[z1t (S:=fun c=>S c∨c=D) (.inl z),z1t z]
  ·by_cases z2:c=D
   ·subst z2;rw[z1t (S:=fun d=>S d∨d=c) (.inr rfl),z0q z,hD]
   ·rw[z0q (S:=fun c=>S c∨c=D) (fun q=>q.elim z z2),z0f z2,z0q z]
 have t:Tr M S H (fun c=>S c∨c=D) (upd H D (.lst vs)):=⟨by rw[eh];exact M.refl _,fun c h1 h2=>by
  rcases h1 with h1|rfl
  ·exact (h2 h1).elim
  ·exact hD⟩
 obtain ⟨l,r⟩:=s.r
 have nl:D∉l:=fun z=>nS (r.mem D z).1
 have kk:=t.ke s.b.ok
 have r':RO M (fun c=>S c∨c=D) (upd H D (.lst vs)) σ δ l:=r.imp kk fun c hc=>⟨.inl (r.mem c hc).1,z0f (show c≠D from fun z=>nl (z▸hc))⟩
 obtain ⟨l',_,r2⟩:=r'.put (b:=D) (.inr rfl) nl z06 (d.imp kk) i (by rw[r.len];exact hi)
 refine ⟨t,⟨s.b.o0,fun c hc=>?_,by rw[eh];exact s.b.st,by rw[eh];exact s.b.ok,fun c hc=>?_⟩,l',r2⟩
 ·rcases hc with hc|rfl
  ·exact s.b.fr c hc
  ·obtain ⟨n0,o0⟩:=s.b.o0
   exact M.dom o0 s.b.st (by rw[z0q nS];exact hD)
 ·by_cases z:c=D
  ·subst z;exact ⟨vs,z06⟩
  ·obtain ⟨xs,q⟩:=s.b.ls c (hc.resolve_right z)
   exact ⟨xs,by rw[z0f z];exact q⟩
theorem zn1 {i:Nat}{ta:TE}{a:ZE}(ha:SmF K ta a):SoS K EE (zdi ta (z54 i)) (ztv b i a):=⟨fun M {H0 S H σ δ n D Dd} s h k=>by
 obtain ⟨l,r⟩:=s.r
 refine ha.o (M.ownS S b) (s.b.okS _) (r.re b) h fun A H1 vs ds n1 k1 o1 hA d h1=>?_
 obtain ⟨t1,s1⟩:=s.step k1 o1
 obtain ⟨d',hi,h2⟩:=Dts.purs (s1.b.okS false) d h1
 obtain ⟨t2,s2⟩:=s1.new hA d' hi
 exact k.nx _ _ _ _ n1 (t1.trans t2 s.b.ok) s2 h2⟩
theorem OSt.write (s : OSt M H0 S H σ δ n){i : Nat}{ds : List PyData}(e : lk δ i = some (.o ds)) : ∃ b xs, σ[i]? = some (some (.ref b)) ∧ H b = some (.lst xs) ∧ Dts (M.ownS S false) H xs ds ∧
  ∀xs' ds',Dts (M.ownS S false) H xs' ds'→Tr M S H S (upd H b (.lst xs'))∧OSt M H0 S (upd H b (.lst xs')) σ (zs δ i (.o ds')) n:=by
 obtain ⟨l,r⟩:=s.r
 obtain ⟨b,xs,h1,h2,h3,h4,h5,h6⟩:=r.getO e
 refine ⟨b,xs,h1,h4,h5,fun xs' ds' d=>?_⟩
 have eh:hidS S (upd H b (.lst xs'))=hidS S H:=zca h3
 refine ⟨⟨by rw[eh];exact M.refl _,fun c a z=>(z a).elim⟩,⟨s.b.o0,s.b.fr,by rw[eh];exact s.b.st,by rw[eh];exact s.b.ok,fun c hc=>?_⟩,l,h6 xs' ds' d⟩
 by_cases z:c=b
 ·subst z;exact ⟨xs',z06⟩
 ·obtain ⟨ys,q⟩:=s.b.ls c hc
  exact ⟨ys,by rw[z0f z];exact q⟩
noncomputable def zuc (b:Bool)(i:Nat)(a:XR→ZE):ZN:=fun D δ n=>vr δ i fun w=>match w with
 | .o ds=>a (ziq b (D.xr δ)) (vw b δ) n fun y n1=>match y with
  | .d d=>ds.length<1000000∧pur b (.d d) (D.nx (zs δ i (.o (ds++[d]))) n1)
  | _=>False
 | _=>False
noncomputable def zoq (b:Bool)(i:Nat)(a:XR→ZE)(j:ZE):ZN:=fun D δ n=>a (ziq b (D.xr δ)) (vw b δ) n fun y n1=>match y with
 | .d d=>pur b (.d d) (vr δ i fun w=>match w with
  | .o ds=>j (vw true δ) n1 fun z n2=>match z with
   | .d (.int k)=>∃m,ixN ds.length k=some m∧D.nx (zs δ i (.o (ds.set m d))) n2
   | _=>False
  | _=>False)
 | _=>False
theorem Dts.set {N:TM K}:∀{vs:List V}{ds:List PyData}(m:Nat){v:V}{d:PyData},Dts N H vs ds→Dt N H v d→Dts N H (vs.set m v) (ds.set m d)
 | _,_,_,_,_,.nil,_=>.nil
 | _,_,0,_,_,.cons _ t,h=>.cons h t
 | _,_,m+1,_,_,.cons a t,h=>.cons a (Dts.set m t h)
theorem zgg {i:Nat}{ta tj:TE}{a:XR→ZE}{j:ZE}(ha:XE K EE ta a)(hj:SmE K tj j):SoS K EE (zdi ta (zs2 (zm9 i) tj znm)) (zoq b i a j):=⟨fun M {H0 S H σ δ n D Dd} s h k=>by
 refine ha.at s h k fun v H1 w n1 t1 s1 r1 h1=>?_
 match w,r1,h1 with
 | .d d,r1,h1=>
  obtain ⟨r2,h2⟩:=r1.pur (s1.b.okS false) h1
  obtain ⟨w0,e,h3⟩:=zg8 h2
  match w0,e,h3 with
  | .o ds,e,h3=>
   obtain ⟨p,xs,q1,q2,q3,_⟩:=s1.write e
   refine ⟨_,q1,?_⟩
   refine (hj.x (EE:=EE)).at (b:=true) (Dd:=Dd) s1 h3 (k.tr t1 s.b.ok) fun z H2 wz n2 t2 s2 rz hz=>?_
   match wz,rz,hz with
   | .d (.int kk),rz,hz=>
    obtain ⟨m,hm,hz⟩:=hz
    obtain ⟨p',xs',q1',q2',q3',q4'⟩:=s2.write e
    rw[q1]at q1'
    cases q1'
    rw[rz.int_inv]
    obtain ⟨t3,s3⟩:=q4' (xs'.set m v) (ds.set m d) (q3'.set m (Dt.imp (t2.ke s1.b.ok) r2))
    exact ⟨p,xs',kk,m,rfl,rfl,q2',by rw[q3'.length];exact hm,k.nx _ _ _ _ n2 ((t1.trans t2 s.b.ok).trans t3 s.b.ok) s3 hz⟩⟩
noncomputable def ztt (i:Nat)(z:ZN):ZN:=fun D δ n=>vr δ i fun w=>match w with
 | .o ds=>z D (zs δ i (.d (.list ds))) n
 | _=>False
theorem zmz {i:Nat}{t:TS}{z:ZN}(h:SoS K EE t z):SoS K EE t (ztt i z):=⟨fun M {H0 S H σ δ n D Dd} s hs k=>by
 obtain ⟨w0,e,hs⟩:=zg8 hs
 match w0,e,hs with
 | .o ds,e,hs=>
  obtain ⟨l,r⟩:=s.r
  obtain ⟨p,xs,q1,q2,q3,q4,_⟩:=r.getO e
  obtain ⟨l',_,r'⟩:=r.rel s.b q3 e q1
  have sub:Same (hidS S H) (hidS (fun c=>S c∧c≠p) H):=z89 fun c z=>z.1
  have t:Tr M S H (fun c=>S c∧c≠p) H:=⟨M.same sub,fun c z nz=>(nz z.1).elim⟩
  exact h.o M ⟨⟨s.b.o0,fun c hc=>s.b.fr c hc.1,M.trans s.b.st (M.same sub),M.oks s.b.ok sub,fun c hc=>s.b.ls c hc.1⟩,l',r'⟩ hs (k.tr t s.b.ok)⟩
end
end
section
section
variable {K:W.Frag}{EE:XS}{M:TM K}{S S' S2:Addr→Prop}{H H' H1 H2 H0:Hp}{n n':Nat}{σ:St}{δ:Ze}{D:Ends}{Dd:Zn}{b:Bool}
noncomputable def zro (L:List (Str×List Str))(z h:ZN):ZN:=fun D δ n=>z {D with xr:=fun δ' x ns ds n'=>(x,ns)∈L∧h {nx:=D.nx,rt:=D.rt} δ' n'} δ n
theorem zjy {L : List (Str × List Str)}{C0 : Addr}{tb : XS → TS}{ts : TS}{z h : ZN}(hL : ∀ x ns C, (x, ns) ∈ L → ClsK K x C → PySem.W.mroIn K C (.ref C0) = some true)
  (hb:∀EE,SoS K EE (tb EE) z)(hh:SoS K (fun _=>E0) ts h):SoS K EE (tTry0 K C0 tb ts) (zro L z h):=⟨fun M {H0 S H σ δ n D Dd} s hs k=>by
 refine ⟨(hb _).o M s hs ⟨k.nx,k.rt,k.bk,k.ct,fun S' H' σ' δ' n' x ns vs ds t' s' d hx C ea dx H2 hC n1 n2 sm e1 e2=>?_⟩⟩
 refine ⟨C,ea,rfl,rfl,hL x ns C hx.1 hC,?_⟩
 obtain ⟨t2,s2⟩:=s'.step ((M.ownS S' false).same sm) ((M.ownS S' false).oks (s'.b.okS _) sm)
 have t02:=t'.trans t2 s.b.ok
 exact hh.o M s2 hx.2 ⟨fun S4 H4 σ4 δ4 n4 t4 s4 h4=>k.nx S4 H4 _ _ n4 (t02.trans t4 s.b.ok) s4 h4,(k.tr t02 s.b.ok).rt,fun _ _ _ _ _ _ _ z=>z.elim,fun _ _ _ _ _ _ _ z=>z.elim,fun _ _ _ _ _ _ _ _ _ _ _ _ z=>z.elim⟩⟩
theorem RE.ro {l:Unit}(h:RE M H σ δ):RO M (fun _=>False) H σ δ []:=by
 have k:∀H2,(M.ownS (fun _=>False) false).ke H H2→M.ke H H2:=fun H2 e=>by
  have:=e.1
  rw[z6p (S:=fun _=>False) (fun _ z=>z.elim),z6p (S:=fun _=>False) (fun _ z=>z.elim)]at this;exact this
 induction h with
 | nil=>exact .nil
 | cons r _ ih=>exact .cons (r.imp k rfl rfl) ih
theorem OSt.start (ok:M.ok H n)(re:RE M H σ δ):OSt M H (fun _=>False) H σ δ n:=by
 have e:hidS (fun _=>False) H=H:=z6p fun _ z=>z.elim
 exact ⟨⟨⟨n,ok⟩,fun _ z=>z.elim,by rw[e];exact M.refl _,by rw[e];exact ok,fun _ z=>z.elim⟩,[],re.ro (l:=())⟩
theorem OkO.start {Qd : ZK}{Q : VK}{Xd : XR}{E : XK}(k : Ok1 M H Qd Q)(kx : OkX M H Xd E) : OkO M (fun _ => E) H (fun _ => False) H { nx := fun _ n' => Qd (.d .none) n', rt := Qd, xr := fun _ => Xd } { nx := fun _ H' => Q .non H', rt := Q } :=
  ⟨fun S' H' σ δ n' t s h=>k _ H' _ n' (M.trans s.b.st (M.same z28)) (M.oks s.b.ok z28) (Dt.rw .non) h,
   fun S' H' v w n' t s r h=>k v H' w n' (M.trans s.st (M.same z28)) (M.oks s.ok z28) (r.imp s.out rfl rfl) h,
   fun _ _ _ _ _ _ _ h=>h.elim,fun _ _ _ _ _ _ _ h=>h.elim,
   fun S' H' σ δ n' x ns vs ds t s d h=>kx x ns vs ds H' n' (M.trans s.b.st (M.same z28)) (M.oks s.b.ok z28) (d.imp s.b.out) h⟩
noncomputable abbrev XF:XR:=fun _ _ _ _=>False
theorem Def.mkn {P : Program}{w : World}{mg : Str → Option Value}{base : Heap}{x : Str}{st : Stmt}{N ps : List Str}{n : Nat}{z : ZSp}(T : Src K mg x st)(S : FnScope N ps (z08 st))(len : ∀ ws n Q, z ws n Q → ws.length = ps.length)
  (hb:∀(kV doc pm:Value)(an:Option Addr)(cdv ct:Value)(us:List Value),us.length=ps.length→bindArgs (PySem.W.fnOf x x (z1z st) (z15 st) (z08 st) .none kV doc pm an cdv ct) ⟨us,[]⟩=pure (ps.zip us))
  (hbody:∀(f:Addr)(cdv:Value)(A:Around)(outer:List Env)(s:Shared)(H:Hp)(E:XK),Room n (A.deeper (envOfC x (z08 st) s.heap.objs.size f cdv))→
   ∃t zt,QSs (zch CX0 P w K mg base N x (z08 st) f cdv A outer s H E).nox (z15 st) t∧SoS K (fun _=>E0) t zt∧∀ws n Q,z ws n Q→zt {nx:=fun _ n'=>Q (.d .none) n',rt:=Q,xr:=fun _=>XF} (z60 N.length ws) n):Def P w K mg base x ps (n+1) (zc3 K z):=
 Def.mkq T S (fun vs H Q E ⟨M,ws,m,Qd,ok,r,h,k⟩=>r.length.trans (len ws m Qd h)) hb fun f cdv A outer s H vs Q E hr ⟨M,ws,m,Qd,ok,r,h,k⟩=>by
  obtain ⟨t,zt,q,sm,rd⟩:=hbody f cdv A outer s H E hr
  exact ⟨t,q,sm.o M (.start ok r.start) (rd ws m Qd h) (.start k fun _ _ _ _ _ _ _ _ _ z=>z.elim)⟩
theorem zrw {ts:TS}{s:ZN}(sm:SoS K (fun _=>E0) ts s){t:V}{H1:Hp}{σ:St}{v:Option V}{D:Ends}{m:Nat}(T1:Fd H1 t m)(hD:∀H',D.rt (.bl true) H')(rd:s {nx:=fun _ _=>False,rt:=fun w _=>w=.d (.bool true),xr:=fun _=>XF} (none::some (.t 2)::σ.map fun _=>none) m):ts D (v::some t::σ) H1:=
 sm.o (tmF K t) (.start (M:=tmF K t) T1 (.cons (w:=none) trivial (.cons (w:=some (.t 2)) ⟨_,rfl,rfl,rfl⟩ (RE.forget σ)))) rd ⟨fun _ _ _ _ _ _ _ h=>h.elim,fun S' H' v w n' k o r h=>by subst h;rw[r.bl_inv];exact hD H',fun _ _ _ _ _ _ _ h=>h.elim,fun _ _ _ _ _ _ _ h=>h.elim,fun _ _ _ _ _ _ _ _ _ _ _ _ h=>h.elim⟩
theorem ziu {g : ZG}{b : ZN}{D : Zn}(P : Nat → Ze → Nat → Prop) : ∀ {ds : List PyData} {δ : Ze} {n k : Nat}, P k δ n →
  (∀(i:Nat)(d:PyData)(δ:Ze)(n:Nat)(R:Ze→Nat→Prop),ds[i]?=some d→P (k+i) δ n→(∀δ' n',P (k+i+1) δ' n'→R δ' n')→g d δ n fun δ2 n2=>b {D with nx:=R,ct:=R,bk:=D.nx} δ2 n2)→
  (∀(δ:Ze)(n:Nat),P (k+ds.length) δ n→D.nx δ n)→oRun g b D ds δ n
 | [],δ,n,k,h,_,e=>by rw[zby];exact e δ n h
 | d::ds,δ,n,k,h,s,e=>by
  rw[z9c]
  refine s 0 d δ n _ rfl h fun δ' n' p=>?_
  refine ziu P (k:=k+1) p (fun i d δ n R hd hp hR=>?_) (fun δ n hp=>e δ n ?_)
  ·refine s (i+1) d δ n R hd (by rw[show k+(i+1)=k+1+i by omega];exact hp) fun δ' n' q=>hR δ' n' ?_
   rw[show k+1+i+1=k+(i+1)+1 by omega];exact q
  ·rw[List.length_cons,show k+(ds.length+1)=k+1+ds.length by omega];exact hp
theorem z6a {g : ZG}{b : ZN}{D : Zn}(P : Nat → Ze → Nat → Prop){ds : List PyData}{δ : Ze}{n : Nat}(h : P 0 δ n)
  (s:∀(i:Nat)(d:PyData)(δ:Ze)(n:Nat)(R:Ze→Nat→Prop),ds[i]?=some d→P i δ n→(∀δ' n',P (i+1) δ' n'→R δ' n')→g d δ n fun δ2 n2=>b {D with nx:=R,ct:=R,bk:=D.nx} δ2 n2)
  (e:∀(δ:Ze)(n:Nat),P ds.length δ n→D.nx δ n):oRun g b D ds δ n:=
 ziu P (k:=0) h (fun i d δ n R hd hp hR=>s i d δ n R hd (by rwa [Nat.zero_add]at hp) fun δ' n' q=>hR δ' n' (by rwa [Nat.zero_add])) (fun δ n hp=>e δ n (by rwa [Nat.zero_add]at hp))
end
end
section
section
variable {K:W.Frag}{EE:XS}
noncomputable def zj1:Zw→Zw→Nat→ZK→Prop:=fun w z n Q=>(∃a b,w=.d (.list a)∧z=.d (.list b)∧a.length+b.length≤1000000∧Q (.d (.list (a++b))) n)
structure fAddF (w z:Zw)(n:Nat)(Q:ZK):Prop where
 o:zj1 w z n Q
theorem znk {a b:List PyData}{n:Nat}{Q:ZK}(h1:a.length+b.length≤1000000)(h:Q (.d (.list (a++b))) n):fAddF (.d (.list a)) (.d (.list b)) n Q:=⟨⟨a,b,rfl,rfl,h1,h⟩⟩
theorem zn9 {ta tb:TE}{a b:ZE}(ha:SmE K ta a)(hb:SmE K tb b):SmF K (tOp (rOr (rI0 fun i j=>V.int (i+j)) (rOr (zgn K) (rOr zgo zac))) ta tb) (zOp fAddF a b):=⟨fun M {σ δ H n Q Qd} ok re h k=>by
 refine ha.o M ok re h fun x H1 w n1 k1 o1 r1 h1=>?_
 refine hb.o M o1 (re.ke k1) h1 fun y H2 z n2 k2 o2 r2 h2=>?_
 replace r1:=r1.ke k2
 replace h2:=h2.o;unfold zj1 at h2
 obtain ⟨a,b,rfl,rfl,h⟩:=h2
 obtain ⟨p,xs,rfl,hx,dx⟩:=r1.lst_inv
 obtain ⟨q,ys,rfl,hy,dy⟩:=r2.lst_inv
 refine .inr (.inr (.inl ⟨p,q,xs,ys,rfl,rfl,.inl (hx _ (M.refw _)),.inl (hy _ (M.refw _)),by rw[dx.length,dy.length];exact zer h.1,fun p' hp=>?_⟩))
 exact k p' H2 _ _ n2 (M.trans k1 k2) o2 hp (dx.append dy) h.2⟩
end
end
theorem zpy (ps:List Int):tpd (.tuple (ps.map PyData.int))=true:=by
 simp only[tpd]
 exact zb7 fun d hd=>by obtain ⟨i,_,rfl⟩:=List.mem_map.mp hd;rfl
theorem Bt.bs1 {m:Nat}{w:Int}(h:Bt m w)(h0:1≤m:=by decide):Bs m (w:Rat):=⟨h,by show (1:Nat)<2^m;exact Nat.one_lt_two_pow (by omega)⟩
theorem EqvOk.ints (a b:List Int):EqvOk (.tuple (a.map PyData.int)) (.tuple (b.map PyData.int)):=⟨by simp only[PyData.canLay0];exact z5q a,by simp only[PyData.canLay0];exact z5q b,by simp only[PyData.depth];have:=z8e a;omega⟩
section
section
variable {X:Cx}
end
section
variable {K:W.Frag}
end
theorem Pr.nd {q d:Int}(h:Pr q)(h2:2≤d)(hl:d<q):¬d∣q:=fun ⟨e,he⟩=>by
 have e2:2≤e:=by
  rcases Int.lt_or_le e 2 with c|c
  ·have:e≤1:=by omega
   have:=Int.mul_le_mul_of_nonneg_left this (show 0≤d by omega)
   omega
  ·exact c
 rcases Int.lt_or_le d e with c|c
 ·exact h.no d h2 (by rw[he];exact Int.mul_le_mul_of_nonneg_left (by omega) (by omega)) (by rw[he];exact Int.mul_emod_right ..)
 ·exact h.no e e2 (by rw[he];exact Int.mul_le_mul_of_nonneg_right c (by omega)) (by rw[he];exact Int.mul_emod_left ..)
end
section
section
variable {K:W.Frag}{EE:XS}{b:Bool}
end
noncomputable def unN:PyData→Int
 | .int i=>i
 | _=>0
end
section
section
variable {X:Cx}
end
end
section
section
variable {prog:Program}{w:World}{A:Around}{R:Result→Shared→Prop}{s:Shared}{elt target iter target2 iter2:Expr}{ifs ifs2:List Expr}{scope:Scope}{pos:Pos}{it acc:Value}{env:Env}
end
section
variable {X:Cx}
end
end
section
section
variable {K:W.Frag}
end
end
noncomputable def Cm (D:Int)(M:Nat)(r:Rat):Prop:=∃a:Int,r=Rat.divInt a D∧a.natAbs≤M*D.natAbs
theorem Cm.mono {D:Int}{M N:Nat}{r:Rat}(h:Cm D M r)(hm:M≤N):Cm D N r:=by
 obtain ⟨a,e,b⟩:=h
 exact ⟨a,e,Nat.le_trans b (Nat.mul_le_mul_right _ hm)⟩
theorem Cm.zero {D:Int}{M:Nat}:Cm D M 0:=⟨0,by simp,by simp⟩
theorem Cm.add {D:Int}{M N:Nat}{q r:Rat}(h0:D≠0)(h:Cm D M q)(k:Cm D N r):Cm D (M+N) (q+r):=by
 obtain ⟨s,rfl,bs⟩:=h
 obtain ⟨t,rfl,bt⟩:=k
 refine ⟨s+t,z3p h0 s t,?_⟩
 rw[Nat.add_mul]
 have:=Int.natAbs_add_le s t
 omega
theorem Cm.neg {D:Int}{M:Nat}{q:Rat}(h:Cm D M q):Cm D M (q * -1):=by
 obtain ⟨s,rfl,bs⟩:=h
 refine ⟨-s,?_,by rw[Int.natAbs_neg];exact bs⟩
 rw[Rat.mul_neg,Rat.mul_one,Rat.neg_divInt]
theorem Cm.up {D c:Int}{M:Nat}{q:Rat}(c0:c≠0)(h:Cm D M q):Cm (D*c) M q:=by
 obtain ⟨s,rfl,bs⟩:=h
 refine ⟨s*c,(Rat.divInt_mul_right c0).symm,?_⟩
 rw[Int.natAbs_mul,Int.natAbs_mul,←Nat.mul_assoc]
 exact Nat.mul_le_mul_right _ bs
theorem Cm.to {D E:Int}{M:Nat}{q:Rat}(E0:E≠0)(d:D∣E)(h:Cm D M q):Cm E M q:=by
 obtain ⟨c,rfl⟩:=d
 exact h.up (fun z=>E0 (by rw[z,Int.mul_zero]))
theorem Cm.int {D:Int}(D0:D≠0)(n:Nat):Cm D n (n:Rat):=by
 have:Cm 1 n (n:Rat):=⟨(n:Int),by
  have:((n:Int):Rat)=Rat.divInt (n:Int) 1:=by rw[Rat.divInt_eq_div];show _=((n:Int):Rat)/((1:Int):Rat);rw[show ((1:Int):Rat)=1 from rfl,Rat.div_def,show (1:Rat)⁻¹=1 by decide +kernel,Rat.mul_one]
  rw[←this];rfl,by simp⟩
 exact this.to D0 (Int.one_dvd _)
theorem Cm.bs {D:Int}{M B m:Nat}{q:Rat}(D0:D≠0)(h:Cm D M q)(bD:Bt B D)(hM:M<2^m):Bs (B+m) q:=by
 obtain ⟨s,rfl,bs⟩:=h
 refine Bs.divInt ?_ (bD.mono (by omega)) D0
 show s.natAbs<2^(B+m)
 have b':D.natAbs<2^B:=bD
 have hp:0<D.natAbs:=Int.natAbs_pos.mpr D0
 refine Nat.lt_of_le_of_lt bs ?_
 rw[Nat.pow_add,Nat.mul_comm]
 exact Nat.mul_lt_mul'' b' hM
noncomputable def sgI (i:Nat):Rat:=if i%2=1 then 1 else -1
theorem Cm.sg {D:Int}{M:Nat}{q:Rat}(h:Cm D M q)(i:Nat):Cm D M (q*sgI i):=by
 unfold sgI;split
 ·rw[Rat.mul_one];exact h
 ·exact h.neg
noncomputable def tsF (e p:Nat→Rat)(k:Nat):Nat→Rat
 | 0=>0
 | i+1=>tsF e p k i+e (k-(i+1))*p (i+1)*sgI (i+1)
structure Sys (e p:Nat→Rat)(N:Nat):Prop where
 le:N≤12
 be:∀j,j≤N→Bs 4300 (e j)
 bp:∀j,1≤j→j≤N→Bs 4400 (p j)
 co:∀k,k≤N→∃(D:Int) (B m:Nat),D≠0∧Bt B D∧B+m≤4354∧∀i,1≤i→i≤k→Cm D (2^m) (e (k-i)*p i)
theorem Sys.congr {e p e' p':Nat→Rat}{N:Nat}(h:Sys e p N)(he:∀j,j≤N→e j=e' j)(hp:∀j,1≤j→j≤N→p j=p' j):Sys e' p' N:=
 ⟨h.le,fun j hj=>he j hj▸h.be j hj,fun j h1 hj=>hp j h1 hj▸h.bp j h1 hj,fun k hk=>by
  obtain ⟨D,B,m,D0,bD,hm,hD⟩:=h.co k hk
  exact ⟨D,B,m,D0,bD,hm,fun i h1 h2=>by rw[←he _ (by omega),←hp i h1 (by omega)];exact hD i h1 h2⟩⟩
theorem Sys.mono {e p:Nat→Rat}{N M:Nat}(h:Sys e p N)(hm:M≤N):Sys e p M:=
 ⟨Nat.le_trans hm h.le,fun j hj=>h.be j (by omega),fun j h1 hj=>h.bp j h1 (by omega),fun k hk=>h.co k (by omega)⟩
theorem zmk {e p:Nat→Rat}{k:Nat}{D:Int}{M:Nat}(D0:D≠0):∀{l:Nat},(∀i,1≤i→i≤l→Cm D M (e (k-i)*p i))→Cm D (M*l) (tsF e p k l)
 | 0,_=>Cm.zero
 | l+1,h=>by
  have h1:=zmk D0 (l:=l) fun i h1 h2=>h i h1 (by omega)
  exact (h1.add D0 ((h (l+1) (by omega) (Nat.le_refl _)).sg (l+1))).mono (by rw[Nat.mul_add,Nat.mul_one];exact Nat.le_refl _)
theorem Sys.sum {e p:Nat→Rat}{N k l:Nat}(h:Sys e p N)(hk:k≤N)(hl:l≤k):Bs 4400 (tsF e p k l):=by
 obtain ⟨D,B,m,D0,bD,hm,hD⟩:=h.co k hk
 refine (((zmk D0 fun i h1 h2=>hD i h1 (by omega)).mono (N:=2^m*12) (Nat.mul_le_mul_left _ (by have:=h.le;omega))).bs (m:=m+4) D0 bD (by rw[Nat.pow_add];exact Nat.mul_lt_mul_of_pos_left (by decide) (Nat.pow_pos (by decide)))).mono (by omega)
noncomputable def sA:Nat→Nat
 | 0=>0
 | k+1=>sA k+((k+1)*2^40+2^40*sA k)
noncomputable def mA:Nat→Nat
 | 0=>0
 | k+1=>(k+1)*2^40+2^40*sA k
theorem Bs.sgI {m:Nat}{q:Rat}(h:Bs m q)(i:Nat)(h0:0<m):Bs m (q*L2.sgI i):=by
 unfold L2.sgI;split
 ·rw[Rat.mul_one];exact h
 ·rw[Rat.mul_neg,Rat.mul_one];exact h.neg
section
section
variable {K:W.Frag}{EE:XS}{b:Bool}
theorem zln {t len:Nat}(h:t<len):ixN len (t:Int)=some t:=by
 unfold ixN
 rw[if_pos (by omega)]
 simp[h]
end
end
noncomputable def dfL (p q:List Rat):List Rat:=z6w p (q.map (· * -1))
theorem zau (y:Rat)(p q:List Rat):hor y (dfL p q)=hor y p-hor y q:=by
 unfold dfL;rw[z5r,zar];grind
theorem zeb {p:List Rat}(h:∀j:Nat,hor ((j:Rat)+1) p+hor (j:Rat) p=0)(y:Rat):hor y p=0:=by
 rw[←z3z]
 have h':∀j:Nat,hor ((j:Rat)+1) (z1n p)+hor (j:Rat) (z1n p)=0:=fun j=>by rw[z3z,z3z];exact h j
 have ok:=z39 p
 generalize z1n p=q at h' ok
 by_cases e:q=[]
 ·rw[e];rfl
 have e0:z69 q=[]:=z4j (n:=q.length) (z82 q) (Nat.zero_le _) (z39 _) rfl fun j _=>by
  rw[z81];exact h' j
 have ht:(mvL 1 q).getD (q.length-1) 0+q.getD (q.length-1) 0=0:=by
  rw[←z2p,←z0u]
  show (z69 q).getD _ 0=0
  rw[e0];rfl
 rw[zem]at ht
 have hz:q.getD (q.length-1) 0=0:=by grind
 unfold z0x at ok
 rw[decide_eq_false e,decide_eq_true hz]at ok
 cases ok
theorem zk6 {p q:List Rat}(okp:z0x p=true)(okq:z0x q=true)(h:∀j:Nat,hor ((j:Rat)+1) p+hor (j:Rat) p=hor ((j:Rat)+1) q+hor (j:Rat) q):p=q:=by
 have z:=zeb (p:=dfL p q) fun j=>by rw[zau,zau];have:=h j;grind
 refine z4j (n:=max p.length q.length) (by omega) (by omega) okp okq fun j _=>?_
 have:=z (j:Rat)
 rw[zau]at this
 grind
theorem zl9 {rs:List Rat}(h:rs.length≤21)(ok:z0x rs=true):z69 (sgL rs rs.length)=rs:=by
 have l1:=z82 (sgL rs rs.length)
 have l2:=z2r rs rs.length h
 refine z4j (n:=rs.length) (by omega) (Nat.le_refl _) (z39 _) ok fun j _=>?_
 rw[z81,zbf h]
noncomputable def PGd (d:PyData):Prop:=∀rs,d=L2.pl rs→rs.length≤24→(∀r∈rs,Bs 1900 r)∧∀i,∀r∈mvL 1 (rs.drop i),Bs 1990 r
theorem PGd.of_cd {rs:List Rat}{D:Int}{m:Nat}(D0:D≠0)(bD:Bt m D)(hc:∀r∈rs,Cd D m r)(hm:m≤1900):PGd (L2.pl rs):=fun rs' e hl=>by
 rw[←z96 e]at hl ⊢
 exact ⟨fun r hr=>(Cd.bs D0 (hc r hr) bD (Nat.le_refl _)).mono hm,fun i=>zh6 D0 bD (show Bs 1 (1:Rat) from ⟨by decide,by decide⟩) hc (by omega) i⟩
theorem z8n {rs:List Rat}(h:rs.length≤21)(ok:z0x rs=true):JS rs (L2.pl (sgL rs rs.length)) none:=by
 have l2:=z2r rs rs.length h
 refine .inr ⟨sgL rs rs.length,rfl,by omega,?_,?_⟩
 ·rw[zio,decide_eq_true (by omega),zbh h ok];rfl
 ·rw[zl9 h ok,zg9];rfl
end L2
set_option Elab.async false
set_option linter.all false
set_option maxRecDepth 100000
namespace L2
open PySem PySem.Spec PyProof.Rows
theorem zga {xs ys:List Rat}(h:unl xs ys=none)(k:Nat):xs.getD k 0=ys.getD k 0:=by
 by_cases hk:k<max xs.length ys.length
 ·have:=List.find?_eq_none.mp h k (List.mem_range.mpr hk)
  simpa using this
 ·rw[z4d (show xs.length≤k by omega),z4d (show ys.length≤k by omega)]
theorem zm7 {qs:List Rat}{d:PyData}{a b:Option (Str×Int)}(ha:JS qs d a)(hb:JS qs d b):a=b:=by
 rcases ha with ⟨e,ea⟩|⟨rs,rfl,_,e,ea⟩
 ·rcases hb with ⟨_,eb⟩|⟨rs,rfl,_,e',_⟩
  ·rw[ea,eb]
  ·rw[e]at e';cases e'
 ·rcases hb with ⟨e',_⟩|⟨rs',e2,_,e',eb⟩
  ·rw[e]at e';cases e'
  ·rw[z96 e2]at ea;rw[ea,eb]
theorem z58 {qs rs:List Rat}(h:JS qs (pl rs) none):z0x rs=true∧∀y,hor (y+1) rs+hor y rs=hor y qs:=by
 rcases h with ⟨_,e⟩|⟨rs',e2,_,e,ea⟩
 ·cases e
 ·rw[←z96 e2]at ea
  rw[zio,Bool.and_eq_true]at e
  have hu:unl (z69 rs) qs=none:=by
   cases hu:unl (z69 rs) qs with
   | none=>rfl
   | some k=>rw[hu]at ea;cases ea
  refine ⟨e.2,fun y=>?_⟩
  have:=z31 y (zga hu)
  rw[z81]at this
  exact this
theorem zbt {p q:List Rat}(okp:z0x p=true)(okq:z0x q=true)(h:∀y,hor y p=hor y q):p=q:=
 z4j (n:=max p.length q.length) (by omega) (by omega) okp okq fun j _=>h _
open Classical in
noncomputable def jsD (d0 d:PyData):Bool:=decide (∃qs,d0=L2.pl qs∧JS qs d none)
theorem jsD_iff {qs:List Rat}{d:PyData}:jsD (L2.pl qs) d=true ↔ JS qs d none:=by
 unfold jsD
 refine Iff.trans (@decide_eq_true_iff _ (Classical.propDecidable _)) ?_
 exact ⟨fun ⟨q,e,h⟩=>z96 e▸h,fun h=>⟨qs,rfl,h⟩⟩
theorem zp3 {qs:List Rat}{d:PyData}{an:Option (Str×Int)}(h:JS qs d an):jsD (L2.pl qs) d=an.isNone:=by
 cases an with
 | none=>exact jsD_iff.mpr h
 | some w=>
  cases hb:jsD (L2.pl qs) d with
  | false=>rfl
  | true=>cases zm7 (jsD_iff.mp hb) h
noncomputable def rtL:Nat→List Rat
 | 0=>[1]
 | k+1=>m2 ((((0-(k:Int)):Int)):Rat) 0 (rtL k)
theorem ziv (x:Rat):∀(l:List Rat)(p:Rat),(m2 x p l).length=l.length+1
 | [],p=>rfl
 | a::r,p=>by show (m2 x a r).length+1=_;rw[ziv x r a];rfl
theorem z4x:∀k,(rtL k).length=k+1
 | 0=>rfl
 | k+1=>by show (m2 _ 0 (rtL k)).length=_;rw[ziv,z4x k]
theorem zab (k t:Nat):(rtL (k+1)).getD t 0=(if t=0 then 0 else (rtL k).getD (t-1) 0)+(rtL k).getD t 0*((((0-(k:Int)):Int)):Rat):=zc1 _ _ _ _
theorem zdv:∀k,(rtL k).getD k 0=1
 | 0=>rfl
 | k+1=>by
  rw[zab,if_neg (by omega),Nat.add_sub_cancel,zdv k,z4d (show (rtL k).length≤k+1 by rw[z4x];omega)];grind
theorem zbl:∀k,k≤23→∀t,Cd 1 (7*k+1) ((rtL k).getD t 0)
 | 0,_,t=>by
  cases t with
  | zero=>exact ⟨1,by decide +kernel,by decide⟩
  | succ t=>exact (Cd.zero (D:=1)).mono (by omega)
 | k+1,h,t=>by
  rw[zab]
  obtain ⟨z,ez,bz⟩:=zbl k (by omega) t
  have b0:Bt 6 (0-(k:Int)):=Bt.of_lt 64 (by omega) (by omega) (by decide)
  have m:Cd 1 (7*k+1+6) ((rtL k).getD t 0*((((0-(k:Int)):Int)):Rat)):=by
   refine ⟨z*(0-(k:Int)),?_,bz.mul b0⟩
   rw[ez,show ((((0-(k:Int)):Int)):Rat)=Rat.divInt (0-(k:Int)) 1 from (z2l _).symm,Rat.divInt_mul_divInt,Int.mul_one]
  have f:Cd 1 (7*k+1+6) (if t=0 then 0 else (rtL k).getD (t-1) 0):=by
   split
   ·exact (Cd.zero (D:=1)).mono (by omega)
   ·exact (zbl k (by omega) _).mono (by omega)
  exact (Cd.add (by decide) f m).mono (by omega)
theorem zr4 {k:Nat}(h:k≤23):∀r∈rtL k,Cd 1 (7*k+1) r:=fun r hr=>by
 obtain ⟨i,_,rfl⟩:=z2o hr
 exact zbl k h i
theorem zne {k:Nat}:tab (k+2) (fun t=>if t<k+1 then ([0]++rtL k).getD t 0+(rtL k).getD t 0*((((0-(k:Int)):Int)):Rat) else ([0]++rtL k).getD t 0)=rtL (k+1):=by
 have e:tab (rtL (k+1)).length (fun i=>(rtL (k+1)).getD i 0)=rtL (k+1):=z5z _
 rw[←e,z4x]
 refine z1f fun i hi=>?_
 have g:([0]++rtL k).getD i 0=if i=0 then 0 else (rtL k).getD (i-1) 0:=by
  cases i with
  | zero=>rfl
  | succ i=>rw[if_neg (by omega),Nat.add_sub_cancel];rfl
 rw[zab,g]
 by_cases h:i<k+1
 ·rw[if_pos h]
 ·rw[if_neg h,z4d (show (rtL k).length≤i by rw[z4x];omega)];grind
end L2
local macro_rules | `(tactic| walk_at "rd") => `(tactic| first | refine ⟨_, rfl, ?_⟩ | refine ⟨_, _, rfl, rfl, ?_⟩ | refine ⟨rfl, ?_⟩ | refine ⟨_, _, _, _, rfl, rfl, (by assumption), L2.at0, ?_⟩ | refine ⟨_, _, _, _, rfl, rfl, (by assumption), L2.at1, ?_⟩ | refine ⟨(show (0 : Int) < _ by first | decide | omega), ?_⟩ | refine ⟨⟨by decide, by decide⟩, ?_⟩ | refine ⟨⟨by decide, by decide, by decide⟩, ?_⟩ | refine ⟨.inl ⟨by decide, by decide⟩, ?_⟩ | refine ⟨.inr ⟨by decide, by decide⟩, ?_⟩ | refine ⟨L2.len1, ?_⟩ | refine ⟨L2.len2, ?_⟩)
local macro_rules | `(tactic| walk_at "zz") => `(tactic| first | refine L2.r_add ?_ | refine L2.r_sub ?_ | refine L2.r_lenT ?_ | refine L2.r_lenL ?_ | refine L2.r_slT ?_ | refine L2.r_slL ?_ | refine L2.r_anyT ?_ | refine L2.r_anyL ?_ | refine L2.r_tupL ?_ | refine L2.r_tupT ?_ | refine L2.r_lstT ?_ | refine L2.r_lstL ?_ | refine L2.r_isi ?_ | refine L2.r_enumT ?_ | refine L2.r_enumL ?_ | refine L2.r_zipTT ?_ | refine L2.r_zipLL ?_ | refine L2.r_zipLT ?_ | refine L2.r_rvt ?_ | refine L2.r_rev ?_ | refine L2.r_revL ?_ | refine L2.r_abs ?_ | refine L2.r_mod (by first | decide | omega) ?_ | refine L2.r_ixT rfl ?_ | refine L2.r_ixL rfl ?_)
local macro_rules | `(tactic| walk_at "lc") => `(tactic| first | exact Or.inl rfl | exact Or.inr rfl)
namespace My
open PySem.W (nsIn mg_of fnOf keepIn codeIn kitOne mg_none_of findIn)
set_option maxHeartbeats 4000000
open PySem L2
noncomputable def top (i:Nat):Stmt:=PySem.Challenge.pw_powerrests_k45_whole_evens_less_odds_are.main.body.getD i (.Pass ⟨0,0,0,0⟩)
noncomputable abbrev s_A3:Stmt:=top 1
noncomputable abbrev s_Ap:Stmt:=top 7
noncomputable abbrev s_Az:Stmt:=top 11
noncomputable abbrev s_As:Stmt:=top 12
noncomputable abbrev s_Aq:Stmt:=top 13
noncomputable abbrev s_Ay:Stmt:=top 14
noncomputable abbrev s_AE:Stmt:=top 15
noncomputable abbrev s_A6:Stmt:=top 16
noncomputable abbrev s_AD:Stmt:=top 17
noncomputable abbrev s_A4:Stmt:=top 18
noncomputable abbrev s_AT:Stmt:=top 20
noncomputable abbrev s_Ad:Stmt:=top 21
noncomputable abbrev s_Ac:Stmt:=top 22
noncomputable abbrev s_Ai:Stmt:=top 23
noncomputable abbrev s_Av:Stmt:=top 24
noncomputable abbrev s_AM:Stmt:=top 25
noncomputable abbrev s_Af:Stmt:=top 26
noncomputable abbrev s_AO:Stmt:=top 27
noncomputable abbrev s_Ab:Stmt:=top 28
noncomputable abbrev s_Aa:Stmt:=top 29
noncomputable abbrev s_AP:Stmt:=top 30
noncomputable abbrev s_AF:Stmt:=top 31
noncomputable abbrev s_A0:Stmt:=top 32
noncomputable abbrev s_AC:Stmt:=top 34
noncomputable abbrev s_AJ:Stmt:=top 35
noncomputable abbrev s_AS:Stmt:=top 36
noncomputable abbrev s_Al:Stmt:=top 37
noncomputable abbrev s_Am:Stmt:=top 40
noncomputable abbrev s_Ax:Stmt:=top 42
noncomputable abbrev s_A2:Stmt:=top 43
noncomputable abbrev s_AQ:Stmt:=top 45
noncomputable abbrev s_Ae:Stmt:=top 46
noncomputable abbrev s_Aj:Stmt:=top 47
noncomputable abbrev s_A5:Stmt:=top 48
noncomputable abbrev s_Ao:Stmt:=top 49
noncomputable abbrev s_Au:Stmt:=top 50
noncomputable abbrev s_An:Stmt:=top 51
noncomputable abbrev s_A1:Stmt:=top 53
noncomputable abbrev s_AB:Stmt:=top 54
noncomputable abbrev s_AR:Stmt:=top 55
noncomputable abbrev s_AL:Stmt:=top 56
noncomputable abbrev s_AH:Stmt:=top 57
noncomputable abbrev s_AK:Stmt:=top 58
noncomputable abbrev s_Ar:Stmt:=top 59
noncomputable abbrev s_AW:Stmt:=top 60
noncomputable abbrev s_AI:Stmt:=top 61
noncomputable abbrev s_AU:Stmt:=top 62
noncomputable abbrev s_AN:Stmt:=top 63
noncomputable abbrev s_Aw:Stmt:=top 64
noncomputable abbrev s_AZ:Stmt:=top 65
noncomputable abbrev s_AV:Stmt:=top 66
noncomputable abbrev s_Ag:Stmt:=top 67
noncomputable abbrev s_Ak:Stmt:=top 68
noncomputable abbrev s_Ah:Stmt:=top 69
noncomputable abbrev s_AX:Stmt:=top 70
noncomputable abbrev s_AY:Stmt:=top 71
noncomputable abbrev s_AG:Stmt:=top 72
noncomputable abbrev s_law:Stmt:=top 73
structure Txt (K:W.Frag)(mg:Str→Option Value):Prop where
 f_A3:Src K mg "choose" s_A3
 f_Ap:Src K mg "is_whole" s_Ap
 f_Az:Src K mg "is_share" s_Az
 f_As:Src K mg "are_shares" s_As
 f_Aq:Src K mg "common_of" s_Aq
 f_Ay:Src K mg "lowest" s_Ay
 f_AE:Src K mg "plus" s_AE
 f_A6:Src K mg "minus" s_A6
 f_AD:Src K mg "times" s_AD
 f_A4:Src K mg "whole_of" s_A4
 f_AT:Src K mg "is_poly" s_AT
 f_Ad:Src K mg "is_poly_within" s_Ad
 f_Ac:Src K mg "number_within" s_Ac
 f_Ai:Src K mg "first_unlike" s_Ai
 f_Av:Src K mg "trimmed" s_Av
 f_AM:Src K mg "power_poly" s_AM
 f_Af:Src K mg "value_at" s_Af
 f_AO:Src K mg "poly_plus" s_AO
 f_Ab:Src K mg "poly_times" s_Ab
 f_Aa:Src K mg "poly_scaled" s_Aa
 f_AP:Src K mg "poly_moved" s_AP
 f_AF:Src K mg "poly_stretched" s_AF
 f_A0:Src K mg "poly_pair" s_A0
 f_AC:Src K mg "signed" s_AC
 f_AJ:Src K mg "moved_from_above" s_AJ
 f_AS:Src K mg "signed_below" s_AS
 f_Al:Src K mg "signed_told" s_Al
 f_Am:Src K mg "lets_signed" s_Am
 f_Ax:Src K mg "step_of" s_Ax
 f_A2:Src K mg "row_to" s_A2
 f_AQ:Src K mg "summed" s_AQ
 f_Ae:Src K mg "summed_power" s_Ae
 f_Aj:Src K mg "sum_below" s_Aj
 f_A5:Src K mg "sum_told" s_A5
 f_Ao:Src K mg "even_sum" s_Ao
 f_Au:Src K mg "odd_sum" s_Au
 f_An:Src K mg "spaced_sum" s_An
 f_A1:Src K mg "_law_feed" s_A1
 f_AB:Src K mg "_law_draw" s_AB
 f_AR:Src K mg "_law_low" s_AR
 f_AL:Src K mg "_law_plus" s_AL
 f_AH:Src K mg "_law_times" s_AH
 f_AK:Src K mg "_law_small" s_AK
 f_Ar:Src K mg "_law_share" s_Ar
 f_AW:Src K mg "_law_poly" s_AW
 f_AI:Src K mg "_law_value" s_AI
 f_AU:Src K mg "_law_trim" s_AU
 f_AN:Src K mg "_law_moved" s_AN
 f_Aw:Src K mg "_law_at" s_Aw
 f_AZ:Src K mg "_law_with" s_AZ
 f_AV:Src K mg "_law_spoilt" s_AV
 f_Ag:Src K mg "_law_other" s_Ag
 f_Ak:Src K mg "_law_far" s_Ak
 f_Ah:Src K mg "_law_let" s_Ah
 f_AX:Src K mg "_law_rooted" s_AX
 f_AY:Src K mg "_law_tells" s_AY
 f_AG:Src K mg "_law_powers_right" s_AG
 f_law:Src K mg "law" s_law
 b_abs:mg "abs"=none
 b_bool:mg "bool"=none
 b_enumerate:mg "enumerate"=none
 b_int:mg "int"=none
 b_isinstance:mg "isinstance"=none
 b_len:mg "len"=none
 b_list:mg "list"=none
 b_max:mg "max"=none
 b_min:mg "min"=none
 b_range:mg "range"=none
 b_repr:mg "repr"=none
 b_reversed:mg "reversed"=none
 b_sorted:mg "sorted"=none
 b_tuple:mg "tuple"=none
 c_AA:ConT K mg "NOUGHT" [0,1]
 c_At:ConT K mg "ONE" [1,1]
 c_A7:∃t,mg "MOST"=some (.int (24) t)
 x_NoPaper:∃C B fI fd,XTop K mg "NoPaper" "NoPaper.__init__" (z6n (top 5) 0) ["word","place"] C B fI fd
 h_NoPaper:∃(C:Addr) (nm q:Str) (N:Addr) (bs bm:List Value) (hdct:Bool) (sn:List Str) (sub:List Value) (ab:Bool) (col:Option Bool) (dd:Option Addr) (k0 k1 k2 k3 k5:Option Value) (ni:String),mg "NoPaper"=some (.ref C)∧ClsK K "NoPaper" C∧K.lookup C=some (excClassObj nm q C N bs bm hdct sn sub ab col dd k0 k1 k2 k3 k5 ni)∧bm.contains (.type "BaseException")=true
noncomputable abbrev LN:List Str:=["NoPaper"]
noncomputable abbrev LNoPaper:List (Str×List Str):=[("NoPaper",["word","place"])]
theorem lx_NoPaper {K:W.Frag}{mg:Str→Option Value}(T:Txt K mg):∀x ns C D,(x,ns)∈LNoPaper→ClsK K x C→ClsK K "NoPaper" D→PySem.W.mroIn K C (.ref D)=some true:=by
 intro x ns C D h hC hD
 simp only[LNoPaper,List.mem_cons,List.not_mem_nil,or_false,Prod.mk.injEq]at h
 rcases h with ⟨rfl,rfl⟩
 (obtain ⟨_,_,_,_,S⟩:=T.x_NoPaper;exact zqm S hC hD)
theorem ex_NoPaper {K:W.Frag}{mg:Str→Option Value}(T:Txt K mg):∀x ns,(x,ns)∈LNoPaper→ExOk K x ns:=by
 intro x ns h
 simp only[LNoPaper,List.mem_cons,List.not_mem_nil,or_false,Prod.mk.injEq]at h
 rcases h with ⟨rfl,rfl⟩
 (obtain ⟨_,_,_,_,S⟩:=T.x_NoPaper;exact ⟨fun C hC=>⟨⟨_,xxc S hC⟩,fun f hf=>zqn S hC hf⟩⟩)
section
variable {P:Program}{w:World}{K:W.Frag}{mg:Str→Option Value}{base:Heap}
theorem i_NoPaper {C B fI:Addr}{fd:FuncData}(S:XTop K mg "NoPaper" "NoPaper.__init__" (z6n (top 5) 0) ["word","place"] C B fI fd):FnOk P w K mg base CX0 1 fI fd ["self","word","place"] (zq4 K "word" "place"):=zu2 S.s.f ⟨rfl,rfl,rfl,by decide +kernel,rfl,by decide +kernel,by decide +kernel⟩ rfl (Or.inl rfl) (Or.inl rfl) (Or.inl rfl) (by decide) (by decide) (by decide) (by decide) (fun _=>rfl) (fun _=>rfl)
noncomputable def sp_A3 (K:W.Frag):Sp:=fun vs H Q _=>∃n k:Int,vs=[.int n,.int k]∧0≤n∧n≤60∧Q (.int (chI n k)) H
theorem sc_A3:FnScope ["n","k","ways","taken"] ["n","k"] (z08 s_A3):=⟨rfl,rfl,rfl,by decide +kernel,rfl,by decide +kernel,by decide +kernel⟩
theorem d_A3 (T:Txt K mg):Def P w K mg base "choose" ["n","k"] 1 (sp_A3 K):=by
 refine Def.mkq T.f_A3 sc_A3 (fun vs H Q E h=>?_) (fun _ _ _ _ _ _ us hl=>match us,hl with|[_,_],_=>rfl) (fun f cdv A outer s H vs Q E hr h=>?_)
 ·obtain ⟨n,k,rfl,_⟩:=h
  rfl
 obtain ⟨n,k,rfl,n0,n1,q⟩:=h
 refine ⟨_, (z04 (z1a (QW.pt (z7a (z0k z83 (qpv 1) z02 (z0s _)) (z64 (z0k zcv (qpv 1) (qpv 0) (z0s _))))) (z05 (z0d z02)) z0r)
   (z04 (z0g (i:=2) sc_A3.nd rfl (by walk_at "lc") z02)
   (z04 (z1b PassesOwn.never rfl (z22 rfl T.b_range (z00 (z0i (zfs rfl) rfl T.b_min zpt (z00 (qpv 1) (z00 (z0c z20 (qpv 0) (qpv 1)) z01))) z01)) (z0l (i:=3) sc_A3.nd rfl (by walk_at "lc")) (z05 (z0g (i:=2) sc_A3.nd rfl (by walk_at "lc") (z0c z6c (z0c z5a (qpv 2) (z0c z20 (qpv 0) (qpv 3))) (z0c z27 (qpv 3) z02)))))
   (z05 (z0d (qpv 2)))))),?_⟩
 refine ⟨_,rfl,_,_,rfl,rfl,_,rfl,?_⟩
 refine z7g (fun c=>?_) (fun c=>?_)
 ·have c':k<0:=of_decide_eq_true c
  refine z9z ?_
  have e:chI n k=0:=by unfold chI;rw[if_neg (by omega)]
  rw[e]at q;exact q
 have c':0≤k:=by have:¬k<0:=fun z=>c (decide_eq_true z);omega
 refine ⟨_,rfl,_,rfl,_,_,rfl,rfl,_,rfl,?_⟩
 have ek:chI n k=((ch n.toNat k.toNat:Nat):Int):=by unfold chI;rw[if_pos c']
 rw[ek]at q
 refine z7g (fun g=>?_) (fun g=>?_)
 ·have g':n<k:=of_decide_eq_true g
  rw[z6u _ _ (by omega)]at q
  exact q
 have g':k≤n:=by have:¬n<k:=fun z=>g (decide_eq_true z);omega
 refine ⟨_,rfl,_,rfl,_,rfl,_,_,rfl,rfl,_,_,rfl,?_⟩
 generalize hm:(if n-k<k then n-k else k)=m
 have m0:0≤m∧m≤k∧m≤n-k:=by subst hm;split<;>omega
 refine ⟨m,rfl,by omega,by omega,?_⟩
 refine z6q (lo:=0) (n:=m.toNat) (fun i σ H2=>H2=H∧∃z,σ=[some (.int n),some (.int k),some (.int ((ch n.toNat i:Nat):Int)),z]) ⟨rfl,none,by rw[z2u];rfl⟩ ?_ ?_
 ·rintro i σ H2 hi ⟨rfl,z,rfl⟩
  refine ⟨_,rfl,_,rfl,_,rfl,_,_,rfl,rfl,_,_,rfl,rfl,.inr ⟨by omega,by omega⟩,_,rfl,_,_,rfl,rfl,_,_,rfl,rfl,⟨by omega,by omega⟩,?_⟩
  refine ⟨rfl,some (.int (0+(i:Int))),?_⟩
  have e:=zm0 (n:=n.toNat) (t:=i) (by omega)
  have en:((n.toNat:Nat):Int)=n:=by omega
  rw[en]at e
  have e2:((ch n.toNat i:Nat):Int)*(n-(0+(i:Int)))/(0+(i:Int)+1)=((ch n.toNat (i+1):Nat):Int):=by rw[Int.zero_add];exact e
  rw[←e2];rfl
 ·rintro σ H2 ⟨rfl,z,rfl⟩
  refine ⟨_,rfl,?_⟩
  have e:ch n.toNat m.toNat=ch n.toNat k.toNat:=by
   by_cases h:m=k
   ·rw[h]
   ·have:m=n-k:=by subst hm;split at h<;>split<;>omega
    rw[zfo n.toNat k.toNat (by omega)]
    congr 1;omega
  rw[e];exact q
noncomputable def sp_Ap (K:W.Frag):Sp:=fun vs H Q _=>∃(v:V) (d:PyData),vs=[v]∧Dv K H v d∧Q (.bl (isW d)) H
theorem sc_Ap:FnScope ["thing"] ["thing"] (z08 s_Ap):=⟨rfl,rfl,rfl,by decide +kernel,rfl,by decide +kernel,by decide +kernel⟩
theorem d_Ap (T:Txt K mg):Def P w K mg base "is_whole" ["thing"] 1 (sp_Ap K):=by
 refine Def.mkq T.f_Ap sc_Ap (fun vs H Q E h=>?_) (fun _ _ _ _ _ _ us hl=>match us,hl with|[_],_=>rfl) (fun f cdv A outer s H vs Q E hr h=>?_)
 ·obtain ⟨v,d,rfl,_⟩:=h
  rfl
 obtain ⟨v,d,rfl,hd,q⟩:=h
 refine ⟨_,(z05 (z0d (z68 (z0i z4t rfl T.b_isinstance z2a (z00 (qpv 0) (z00 (z4n (v:=.ty "int") rfl T.b_int zfw rfl) z01))) (z67 (zkj (z0i z4t rfl T.b_isinstance z2a (z00 (qpv 0) (z00 (z4n (v:=.ty "bool") rfl T.b_bool zm3 rfl) z01)))))))),?_⟩
 rw[zp9]at q
 refine ⟨_,rfl,_,z4f d,"int",z9j d,rfl,hd.ty,zli d,_,rfl,?_⟩
 refine z7g (fun c=>?_) (fun c=>?_)
 ·refine ⟨_,rfl,_,z4f d,"bool",z88 d,rfl,hd.ty,zhd d,_,rfl,?_⟩
  rw[c]at q;exact q
 ·have c':z9j d=false:=by simpa using c
  rw[c']at q;exact q
noncomputable def zp_Ap:ZSp:=fun ws n Q=>∃d,ws=[.d d]∧Q (.d (.bool (isW d))) n
theorem ca_Ap:CallOk K (sp_Ap K) zp_Ap:=fun vs H Q ⟨M,ws,n,Qd,ok,r,⟨d,e,q⟩,k⟩=>by
 subst e
 obtain ⟨v1,rfl,r1⟩:=r.inv1
 exact ⟨v1,d,rfl,r1.dv,k.now ok (.bl _) q⟩
noncomputable def sp_Aq (K:W.Frag):Sp:=fun vs H Q _=>∃a b:Int,vs=[.int a,.int b]∧Q (.int (Int.gcd a b:Int)) H
theorem sc_Aq:FnScope ["top","bottom","one","other"] ["top","bottom"] (z08 s_Aq):=⟨rfl,rfl,rfl,by decide +kernel,rfl,by decide +kernel,by decide +kernel⟩
theorem d_Aq (T:Txt K mg):Def P w K mg base "common_of" ["top","bottom"] 1 (sp_Aq K):=by
 refine Def.mkq T.f_Aq sc_Aq (fun vs H Q E h=>?_) (fun _ _ _ _ _ _ us hl=>match us,hl with|[_,_],_=>rfl) (fun f cdv A outer s H vs Q E hr h=>?_)
 ·obtain ⟨a,b,rfl,_⟩:=h
  rfl
 obtain ⟨a,b,rfl,q⟩:=h
 refine ⟨_, (z04 (z4y (i := 2) (j := 3) rfl sc_Aq.nd rfl rfl (by decide) rfl rfl (z00 (z0i z8j rfl T.b_abs zfx (z00 (qpv 0) z01)) (z00 (z0i z8j rfl T.b_abs zfx (z00 (qpv 1) z01)) z01)) rfl)
   (z04 (z3r PassesOwn.never (z0k zlb (qpv 3) z02 (z0s _)) (z05 (z4y (i:=2) (j:=3) rfl sc_Aq.nd rfl rfl (by decide) rfl rfl (z00 (qpv 3) (z00 (z0c z3s (qpv 2) (qpv 3)) z01)) rfl)))
   (z05 (z0d (qpv 2))))),?_⟩
 refine ⟨_,rfl,a,rfl,_,rfl,b,rfl,_,_,rfl,?_⟩
 refine z4e (fun σ H2=>H2=H∧∃x y:Int,σ=[some (.int a),some (.int b),some (.int x),some (.int y)]∧0≤x∧0≤y∧Int.gcd x y=Int.gcd a b) (fun σ _=>match σ with|[_,_,_,some (.int y)]=>y.toNat|_=>0) ⟨rfl,_,_,rfl,?_,?_,?_⟩ ?_ ?_
 ·show 0≤(if a<0 then -a else a);split<;>omega
 ·show 0≤(if b<0 then -b else b);split<;>omega
 ·have e1:∀z:Int,(if z<0 then -z else z)=(z.natAbs:Int):=fun z=>by split<;>omega
  rw[e1,e1];simp[Int.gcd]
 ·rintro σ H2 ⟨rfl,x,y,rfl,hx,hy,e⟩
  refine ⟨_,rfl,rfl,_,rfl,?_⟩
  refine z7g (fun c=>?_) (fun c=>?_)
  ·have c':y≠0:=by intro z;subst z;simp at c
   refine ⟨_,rfl,_,rfl,_,rfl,_,_,rfl,rfl,(by omega:0<y),_,_,rfl,?_⟩
   have h1:=Int.emod_nonneg x c'
   have h2:=Int.emod_lt_of_pos x (show 0<y by omega)
   refine ⟨⟨rfl,y,x%y,rfl,hy,h1,?_⟩,?_⟩
   ·rw[←e]
    exact zcc hx hy
   ·show (x%y).toNat<y.toNat;omega
  ·have c' : y = 0 := by
    by_cases hz:y=0
    ·exact hz
    ·exact absurd (by simp[hz]) c
   subst c'
   refine ⟨_,rfl,?_⟩
   have e2:x=(Int.gcd a b:Int):=by rw[←e,Int.gcd_zero_right];omega
   rw[e2];exact q
 ·rintro σ H2 Q1 Q2 hq ⟨v,e1,h1,k,e2,h2⟩
  exact ⟨v,e1,h1,k,e2,hq _ _ h2⟩
noncomputable def sp_A4 (K:W.Frag):Sp:=fun vs H Q _=>∃(v:V) (x:Rat),vs=[v]∧Dv K H v (sh x)∧Q (if (x.den:Int)=1 then .int x.num else .non) H
theorem sc_A4:FnScope ["one"] ["one"] (z08 s_A4):=⟨rfl,rfl,rfl,by decide +kernel,rfl,by decide +kernel,by decide +kernel⟩
theorem d_A4 (T:Txt K mg):Def P w K mg base "whole_of" ["one"] 1 (sp_A4 K):=by
 refine Def.mkq T.f_A4 sc_A4 (fun vs H Q E h=>?_) (fun _ _ _ _ _ _ us hl=>match us,hl with|[_],_=>rfl) (fun f cdv A outer s H vs Q E hr h=>?_)
 ·obtain ⟨v,x,rfl,_⟩:=h
  rfl
 obtain ⟨v,x,rfl,h1,q⟩:=h
 refine ⟨_,(z05 (z0d (z2t (z0k z6d (z0o ix_tup (qpv 0) z02 (fun _ _=>rfl)) z02 (z0s _)) (z0o ix_tup (qpv 0) z02 (fun _ _=>rfl)) zae))),?_⟩
 obtain ⟨p1,rfl,t1⟩:=h1.sh_inv
 refine ⟨_,rfl,p1,_,_,_,rfl,rfl,t1,at1,rfl,_,rfl,?_⟩
 refine z7g (fun c=>?_) (fun c=>?_)
 ·have c':(x.den:Int)=1:=by have:=of_decide_eq_true c;injection this
  rw[if_pos c']at q
  exact ⟨_,rfl,p1,_,_,_,rfl,rfl,t1,at0,q⟩
 ·have c':¬(x.den:Int)=1:=fun z=>c (decide_eq_true (by rw[z]))
  rw[if_neg c']at q
  exact q
noncomputable def zp_Ac:ZSp:=fun ws n Q=>∃(rs:List Rat) (k:Nat),ws=[.d (pl rs),.d (.int (k:Int))]∧Q (.d (sh (rs.getD k 0))) n
theorem sc_Ac:FnScope ["poly","k"] ["poly","k"] (z08 s_Ac):=⟨rfl,rfl,rfl,by decide +kernel,rfl,by decide +kernel,by decide +kernel⟩
theorem d_Ac (T:Txt K mg):Def P w K mg base "number_within" ["poly","k"] 1 (zc3 K zp_Ac):=by
 obtain ⟨a_AA,m_AA,t_AA⟩:=T.c_AA
 refine Def.mkz T.f_Ac sc_Ac (fun ws n Q h=>?_) (fun _ _ _ _ _ _ us hl=>match us,hl with|[_,_],_=>rfl) (fun f cdv A outer s H E hr=>⟨_,_,(z05 (z0d (z2t (z0k z83 (qpv 1) (z0i (z2v (K:=K) rfl) rfl T.b_len z1v (z00 (qpv 0) z01)) (z0s _)) (z0o (z3j (K:=K) rfl) (qpv 0) (qpv 1) (fun _ _=>rfl)) (z1g (v:=.ref a_AA) rfl m_AA rfl)))),(z2w (zjz (z9y (z0t zrz z07 (z4h zaq (z03 z07 z0b)))) (z0t zd9 z07 z07) (zi9 t_AA))),fun ws n Q h=>?_⟩)
 ·obtain ⟨rs,k,rfl,_⟩:=h
  rfl
 obtain ⟨rs,k,rfl,q⟩:=h
 repeat (walk_at "zz")
 refine zr7 (fun c=>?_) (fun c=>?_)
 ·rw[List.length_map]at c
  exact r_ixT (z9w (by omega)) q
 ·rw[List.length_map]at c
  rw[z4d (by omega)]at q
  exact q
noncomputable def sp_Av (K:W.Frag):Sp:=fun vs H Q _=>∃(l:Addr) (ws:List V) (rs:List Rat),vs=[.ref l]∧SqL K H l ws∧DvAll K H ws (rs.map sh)∧rs.length≤5000∧∀p ws' H',Same H H'→SqT K H' p ws'→DvAll K H' ws' ((z1n rs).map sh)→Q (.ref p) H'
theorem sc_Av:FnScope ["shares","end"] ["shares"] (z08 s_Av):=⟨rfl,rfl,rfl,by decide +kernel,rfl,by decide +kernel,by decide +kernel⟩
theorem d_Av (T:Txt K mg):Def P w K mg base "trimmed" ["shares"] 1 (sp_Av K):=by
 refine Def.mkq T.f_Av sc_Av (fun vs H Q E h=>?_) (fun _ _ _ _ _ _ us hl=>match us,hl with|[_],_=>rfl) (fun f cdv A outer s H vs Q E hr h=>?_)
 ·obtain ⟨l,ws,rs,rfl,_⟩:=h
  rfl
 obtain ⟨l,ws,rs,rfl,hL,hA,hlen,q⟩:=h
 obtain ⟨a_AA,m_AA,t_AA⟩:=T.c_AA
 refine ⟨_, (z04 (z0g (i := 1) sc_Av.nd rfl (by walk_at "lc") (z0i z0p rfl T.b_len z1v (z00 (qpv 0) z01)))
   (z04 (z3r PassesOwn.never (QW.pt (z48 (z0k zcv (qpv 1) z02 (z0s _)) (z3d (z0k (zei hr) (z0o ix_list (qpv 0) (z0c z20 (qpv 1) z02) (fun _ _=>rfl)) (z1g (v:=.ref a_AA) rfl m_AA rfl) (z0s _))))) (z05 (zkh (i:=1) sc_Av.nd rfl (by walk_at "lc") z02 zpc)))
   (z05 (z0d (z1e z1o rfl T.b_tuple z2i (z00 (z17 za7 (qpv 0) z1u (z19 (qpv 1))) z01)))))),?_⟩
 have wl:ws.length=rs.length:=by have:=hA.length;simpa using this
 refine ⟨_,rfl,l,ws,rfl,.inl hL,?_⟩
 rw[wl]
 refine z4e (fun σ H2=>H2=H∧∃e:Nat,σ=[some (.ref l),some (.int (e:Int))]∧e≤rs.length∧z1n (rs.take e)=z1n rs) (fun σ _=>match σ with|[_,some (.int e)]=>e.toNat|_=>0) ⟨rfl,rs.length,rfl,Nat.le_refl _,by rw[List.take_length]⟩ ?_ ?_
 ·rintro σ H2 ⟨rfl,e,rfl,he,ht⟩
  refine ⟨_,rfl,_,_,rfl,rfl,_,rfl,?_⟩
  have fin:z1n (rs.take e)=rs.take e→∀p H',Same H2 H'→H' p=some (.tup (ws.take e))→Q (.ref p) H':=fun hz p H' s' hp=>by
   refine q p (ws.take e) H' s' (SqT.of hp) ?_
   rw[←ht,hz,List.map_take]
   exact (hA.mono s').take e
  refine z7g (fun c=>?_) (fun c=>?_)
  ·have c':0<(e:Int):=of_decide_eq_true c
   obtain ⟨e',rfl⟩:∃e',e=e'+1:=⟨e-1,by omega⟩
   have hx:ws[e']?=some (ws[e']'(by omega)):=List.getElem?_eq_getElem (by omega)
   have ea:=z2c (xs:=ws) (j:=e') hx
   rw[show ((e':Nat):Int)=((e'+1:Nat):Int)-1 by omega]at ea
   have dx:=(hA.share hx).2
   refine ⟨_,rfl,_,rfl,_,_,rfl,rfl,l,ws,_,_,rfl,rfl,hL,ea,sh (rs.getD e' 0),sh 0,dx,Dv.con t_AA rfl rfl _,rfl,rfl,by simp[sh,PyData.depth,PyData.depthAll],_,rfl,?_⟩
   rw[z92]
   by_cases hz:rs.getD e' 0=0
   ·rw[decide_eq_true hz]
    refine z9z ?_
    refine ⟨_,rfl,_,_,rfl,rfl,⟨⟨rfl,e',by show [_,some (V.int (((e'+1:Nat):Int)-1))]=_;rw[show ((e'+1:Nat):Int)-1=(e':Int) by omega],by omega,?_⟩,?_⟩⟩
    ·rw[z1w (by omega),hz,z3l]at ht;exact ht
    ·show (((e'+1:Nat):Int)-1).toNat<((e'+1:Nat):Int).toNat;omega
   ·rw[decide_eq_false hz]
    refine z8o ?_
    refine ⟨_,rfl,_,rfl,_,rfl,l,ws,rfl,hL,fun p1 f1=>?_⟩
    have s1:=z0a f1 (.lst (z8f ws none (some ((e'+1:Nat):Int))))
    refine ⟨p1,_,rfl,.inl ⟨SqL.of z06,fun p2 f2=>?_⟩⟩
    refine fin (by rw[z1w (by omega),z5y hz]) p2 _ (s1.trans (z0a f2 _)) ?_
    rw[z06,zj7]
  ·refine z8o ?_
   have c':e=0:=by
    have:¬0<(e:Int):=fun z=>c (decide_eq_true z)
    omega
   subst c'
   refine ⟨_,rfl,_,rfl,_,rfl,l,ws,rfl,hL,fun p1 f1=>?_⟩
   have s1:=z0a f1 (.lst (z8f ws none (some ((0:Nat):Int))))
   refine ⟨p1,_,rfl,.inl ⟨SqL.of z06,fun p2 f2=>?_⟩⟩
   refine fin (by rw[List.take_zero,z5g]) p2 _ (s1.trans (z0a f2 _)) ?_
   rw[z06,zj7]
 ·rintro σ H2 Q1 Q2 hq ⟨v,e1,i,j,h1,h2,k,e2,h⟩
  refine ⟨v,e1,i,j,h1,h2,k,e2,?_⟩
  cases k
  ·exact hq _ _ h
  ·obtain ⟨v1,e3,v2,e4,i2,j2,h3,h4,a,xs,n,x,e5,e6,e7,e8,d,e,d1,d2,l1,l2,dp,k,ek,h⟩:=h
   exact ⟨v1,e3,v2,e4,i2,j2,h3,h4,a,xs,n,x,e5,e6,e7,e8,d,e,d1,d2,l1,l2,dp,k,ek,hq _ _ h⟩
noncomputable def sp_AM (K:W.Frag):Sp:=fun vs H Q _=>∃(n:Int),vs=[.int n]∧0≤n∧n≤40∧∀v H',Same H H'→Dv K H' v (pl (List.replicate n.toNat 0++[1]))→Q v H'
theorem sc_AM:FnScope ["n"] ["n"] (z08 s_AM):=⟨rfl,rfl,rfl,by decide +kernel,rfl,by decide +kernel,by decide +kernel⟩
theorem d_AM (T:Txt K mg):Def P w K mg base "power_poly" ["n"] 1 (sp_AM K):=by
 refine Def.mkq T.f_AM sc_AM (fun vs H Q E h=>?_) (fun _ _ _ _ _ _ us hl=>match us,hl with|[_],_=>rfl) (fun f cdv A outer s H vs Q E hr h=>?_)
 ·obtain ⟨n,rfl,_⟩:=h
  rfl
 obtain ⟨n,rfl,n0,n1,q⟩:=h
 obtain ⟨a_At,m_At,t_At⟩:=T.c_At
 obtain ⟨a_AA,m_AA,t_AA⟩:=T.c_AA
 refine ⟨_,(z05 (z0d (z0c zej (z0c zef (z0n (z00 (z1g (v:=.ref a_AA) rfl m_AA rfl) z01)) (qpv 0)) (z0n (z00 (z1g (v:=.ref a_At) rfl m_At rfl) z01))))),?_⟩
 have hz:sizeLine=16777216:=sizeLine_eq
 refine ⟨len1,fun p1 f1=>?_⟩
 have s1:=z0a f1 (.tup [.ref a_AA])
 refine ⟨_,rfl,p1,n,_,rfl,rfl,SqT.of z06,by omega,by omega,by show 1*n.toNat≤100000;omega,fun p2 H2 s2 t2=>?_⟩
 rw[zq6]at t2
 refine ⟨len1,fun p3 f3=>?_⟩
 have s3:=z0a f3 (.tup [.ref a_At])
 refine ⟨p2,p3,_,_,rfl,rfl,s3.seqT t2,SqT.of z06,by rw[List.length_replicate];show _+1≤_;omega,fun p4 H4 s4 t4=>?_⟩
 refine q _ H4 (s1.trans (s2.trans (s3.trans s4))) (.tup t4 ?_)
 rw[List.map_append,zam]
 exact (DvAll.rep (Dv.con t_AA rfl rfl _) _).append (.cons (Dv.con t_At rfl rfl _) .nil)
noncomputable def zp_AM:ZSp:=fun ws n Q=>∃m:Int,ws=[.d (.int m)]∧0≤m∧m≤40∧Q (.d (pl (List.replicate m.toNat 0++[1]))) n
theorem ca_AM:CallOk K (sp_AM K) zp_AM:=fun vs H Q ⟨M,ws,n,Qd,ok,r,⟨m,e,h0,h1,q⟩,k⟩=>by
 subst e
 obtain ⟨v1,rfl,r1⟩:=r.inv1
 rw[r1.int_inv]
 exact ⟨m,rfl,h0,h1,fun v H' s d=>k.dvS ok s d (z32 _) q⟩
noncomputable def sp_A1 (K:W.Frag):Sp:=fun vs H Q _=>∃(a:Addr) (ns:List Int),vs=[.ref a]∧SqL K H a (ns.map V.int)∧ns.length≤63∧∀t H',Same H H'→Fd H' t 0→Q t H'
theorem sc_A1:FnScope ["_law_script"] ["_law_script"] (z08 s_A1):=⟨rfl,rfl,rfl,by decide +kernel,rfl,by decide +kernel,by decide +kernel⟩
theorem d_A1 (T:Txt K mg):Def P w K mg base "_law_feed" ["_law_script"] 1 (sp_A1 K):=by
 refine Def.mkq T.f_A1 sc_A1 (fun vs H Q E h=>?_) (fun _ _ _ _ _ _ us hl=>match us,hl with|[_],_=>rfl) (fun f cdv A outer s H vs Q E hr h=>?_)
 ·obtain ⟨a,ns,rfl,_⟩:=h
  rfl
 obtain ⟨a,ns,rfl,hS,hl,q⟩:=h
 refine ⟨_,(z05 (z0d (zgr (z4l z1l (z1e z3v rfl T.b_list zay (z00 (z17 za7 (qpv 0) z1u (z19 z02)) z01)) (z4l z1l z02 (z4l z1l z02 (z4l z1l z02 zgq))))))),?_⟩
 intro d hd
 have u1:=z0a hd (.dK [])
 refine ⟨_,rfl,63,rfl,a,_,rfl,u1.seq hS,fun c hc=>?_⟩
 have u2:=z0a hc (.lst (z8f (ns.map V.int) none (some 63)))
 refine ⟨c,_,rfl,.inl (SqL.of z06),fun c2 hc2=>?_⟩
 have u3:=z0a hc2 (.lst (z8f (ns.map V.int) none (some 63)))
 refine ⟨u3 _ _ (u2 _ _ z06),fdK c2 0 0 0,rfl,by show 4≤15;decide,?_⟩
 have nd:d≠c2:=z0m (u2 _ _ (show upd H d (.dK []) d=some (.dK []) from z06)) hc2
 refine q _ _ (fun b o e=>?_) ⟨d,c2,ns,0,0,0,rfl,z06,?_,by decide,by decide,by decide,by decide,hl⟩
 ·rw[z0f (z0m e hd)];exact u3 _ _ (u2 _ _ (u1 _ _ e))
 ·rw[z0f (Ne.symm nd),z06,zlx ns hl]
noncomputable def sp_AB (K:W.Frag):Sp:=fun vs H Q _=>∃(t:V) (n:Nat) (m:Int),vs=[t,.int m]∧Fd H t n∧n<2^40∧0<m∧m<2^30∧∀r H',0≤r→r<m→Fd H' t (n+1)→SF t H H'→Q (.int r) H'
theorem sc_AB:FnScope ["_law_feed_here","_law_many","_law_found","_law_spot","_law_cell","_law_mixed"] ["_law_feed_here","_law_many"] (z08 s_AB):=⟨rfl,rfl,rfl,by decide +kernel,rfl,by decide +kernel,by decide +kernel⟩
theorem d_AB (T:Txt K mg):Def P w K mg base "_law_draw" ["_law_feed_here","_law_many"] 1 (sp_AB K):=by
 refine Def.mkq T.f_AB sc_AB (fun vs H Q E h=>?_) (fun _ _ _ _ _ _ us hl=>match us,hl with|[_,_],_=>rfl) (fun f cdv A outer s H vs Q E hr h=>?_)
 ·obtain ⟨t,n,m,rfl,_⟩:=h
  rfl
 obtain ⟨t,n,m,rfl,T0,hn,hm,hm2,q⟩:=h
 refine ⟨_, (z04 (z5o (z4r hr) (qpv 0) z1l (z0c z27 (z2g (z4r hr) (qpv 0) z1l (fun _ _ => rfl)) z02) rfl)
   (z04 (z0g (i:=2) sc_AB.nd rfl (by walk_at "lc") (z0c z3s (z2g (z4r hr) (qpv 0) z1l (fun _ _=>rfl)) (qpv 1)))
   (z04 (z1a (z0k zcv (z2g (z4r hr) (qpv 0) z1l (fun _ _=>rfl)) z02 (z0s _)) (z04 (z5o (z4r hr) (qpv 0) z1l (z0c z6c (z2g (z4r hr) (qpv 0) z1l (fun _ _=>rfl)) (qpv 1)) rfl)
   (z05 (z0d (qpv 2)))) z0r)
   (z04 (z0g (i:=3) sc_AB.nd rfl (by walk_at "lc") (z2g (z4r hr) (qpv 0) z1l (fun _ _=>rfl)))
   (z04 (z5o (z4r hr) (qpv 0) z1l (z0c z27 (qpv 3) z02) rfl)
   (z04 (z0g (i:=4) sc_AB.nd rfl (by walk_at "lc") z02)
   (z04 (z4z (z1a (z0k (zbw hr) (z2g (z4r hr) (qpv 0) z1l (fun _ _=>rfl)) (z1c z01) (z0s _)) (z05 (z0g (i:=4) sc_AB.nd rfl (by walk_at "lc") (z0o ix_list (z2g (z4r hr) (qpv 0) z1l (fun _ _=>rfl)) (z0c z3s (qpv 3) (z0i z0p rfl T.b_len z1v (z00 (z2g (z4r hr) (qpv 0) z1l (fun _ _=>rfl)) z01))) (fun _ _=>rfl)))) z0r))
   (z04 (z4z (z1a (QW.pt (z48 (z0k zrn (qpv 4) (z0c z43 z02 z02) (z0s _)) (z3d (z0k z83 (qpv 3) (z0i z0p rfl T.b_len z1v (z00 (z2g (z4r hr) (qpv 0) z1l (fun _ _=>rfl)) z01)) (z0s _))))) (z04 (z5o (z4r hr) (qpv 0) z1l (z0c z6c (qpv 4) (qpv 1)) rfl)
   (z05 (z0d (z0c z3s (qpv 4) (qpv 1))))) z0r))
   (z04 (z0g (i:=5) sc_AB.nd rfl (by walk_at "lc") (z0c z3s (z0c z27 (z0c z5a (z0c z27 (z0c z3s (qpv 4) z02) z02) (z0c z27 (z0c z5a z02 (z2g (z4r hr) (qpv 0) z1l (fun _ _=>rfl))) z02)) (z0c z5a z02 (qpv 3))) z02))
   (z05 (z0d (z0c z3s (z0c z6c (z0c z3s (z0c z43 (qpv 5) z02) z02) z02) (qpv 1))))))))))))),?_⟩
 obtain ⟨a,c,cells,at',left,turn,rfl,h1,h2,h3,h4,h5,h6,h7⟩:=T0
 have hac:c≠a:=by intro z;subst z;rw[h1]at h2;cases h2
 have l4:∀{x y z:Int},(fdK c x y z).length<sizeLine:=fun {x y z}=>by show 4<sizeLine;decide
 have fin:∀(x at2 left2:Int)(H':Hp),0≤at2→at2≤(n:Int)+1→H' a=some (.dK (fdK c at2 left2 (turn+1)))→(∀b u,H b=some u→b≠a→H' b=some u)→Q (.int (x%m)) H':=by
  intro x at2 left2 H' ha0 ha1 e1 e2
  refine q _ _ (Int.emod_nonneg _ (by omega)) (Int.emod_lt_of_pos _ hm) ⟨a,c,cells,at2,left2,turn+1,rfl,e1,e2 _ _ h2 hac,ha0,by omega,by omega,by omega,h7⟩ ⟨fun b u hb hne=>e2 b u hb fun z=>hne (by rw[z]),fun c' ⟨a',r',e',z'⟩=>by
   cases e'
   rw[h1]at z'
   cases z'
   exact ⟨a,_,rfl,e1⟩⟩
 refine ⟨_,rfl,a,_,rfl,z45 h1 zf9,_,_,rfl,rfl,_,rfl,a,_,rfl,zcd h1 l4 (zlr _),?_⟩
 have g1:upd H a (.dK (fdK c at' left (turn+1))) a=some (.dK (fdK c at' left (turn+1))):=z06
 refine ⟨_,rfl,a,_,rfl,z45 g1 zas,_,rfl,_,_,rfl,rfl,hm,?_⟩
 refine ⟨_,rfl,a,_,rfl,z45 g1 zas,_,_,rfl,rfl,_,rfl,?_⟩
 refine z7g (fun _=>?_) (fun _=>?_)
 ·refine ⟨_,rfl,a,_,rfl,z45 g1 zas,_,rfl,_,_,rfl,rfl,⟨hm,by omega⟩,_,rfl,a,_,rfl,zcd g1 l4 (zf6 _),?_⟩
  refine ⟨_,rfl,?_⟩
  exact fin left at' (left/m) _ h3 (by omega) z06 fun b u hb hne=>by rw[z0f hne,z0f hne];exact hb
 refine ⟨_,rfl,a,_,rfl,z45 g1 zs4,?_⟩
 refine ⟨_,rfl,_,_,rfl,rfl,_,rfl,a,_,rfl,zcd g1 l4 (zs3 _),?_⟩
 rw[zji]
 have g2:upd H a (.dK (fdK c (at'+1) left (turn+1))) a=some (.dK (fdK c (at'+1) left (turn+1))):=z06
 have g3:upd H a (.dK (fdK c (at'+1) left (turn+1))) c=some (.lst (cells.map V.int)):=by rw[z0f hac];exact h2
 have g4:∀b u,H b=some u→b≠a→upd H a (.dK (fdK c (at'+1) left (turn+1))) b=some u:=fun b u hb hne=>by rw[z0f hne];exact hb
 generalize upd H a (.dK (fdK c (at'+1) left (turn+1)))=H1 at g2 g3 g4 ⊢
 refine ⟨fun σ' H'=>∃z:Int,σ'=[some (.ref a),some (.int m),some (.int (left%m)),some (.int at'),some (.int z),none]∧Same H1 H',?_,?_⟩
 ·have dc:Dv K H1 (.ref c) (.list (cells.map PyData.int)):=.lst (SqL.of g3) (zfc cells)
  refine ⟨_,rfl,a,_,rfl,z45 g2 z5v,zmc,fun l0 f0=>?_⟩
  have u0:=z0a f0 (.lst [])
  refine ⟨_,.list [],dc.mono u0,.lst (SqL.of z06) .nil,?_,rfl,by simp only[PyData.depth];rw[z8e];decide,_,rfl,?_⟩
  ·simp only[PyData.canLay0];exact z5q cells
  rw[show PyData.eqv (.list (cells.map PyData.int)) (.list [])=decide (cells=[]) by cases cells<;>simp[PyData.eqv,PyData.eqvAll]]
  by_cases hc0:cells=[]
  ·rw[decide_eq_true hc0]
   exact z8o ⟨_,rfl,u0⟩
  ·rw[decide_eq_false hc0]
   have hp:0<cells.length:=List.length_pos_iff.mpr hc0
   have hp':(0:Int)<(((cells.map V.int).length:Nat):Int):=by rw[List.length_map];omega
   obtain ⟨v,e1,z,e2⟩:=z8l (P:=fun x=>∃z:Int,x=V.int z) (xs:=cells.map V.int) (Int.emod_nonneg at' (by omega)) (Int.emod_lt_of_pos at' hp') (fun x hx=>by
    obtain ⟨z,_,e⟩:=List.mem_map.mp hx
    exact ⟨z,e.symm⟩)
   subst e2
   exact z9z ⟨_,rfl,a,_,rfl,z45 (u0 _ _ g2) z5v,_,rfl,_,rfl,a,_,rfl,z45 (u0 _ _ g2) z5v,c,_,rfl,.inl (SqL.of (u0 _ _ g3)),_,_,rfl,rfl,hp',c,_,_,_,rfl,rfl,SqL.of (u0 _ _ g3),e1,z,rfl,u0⟩
 rintro σ' H2 ⟨cell,rfl,s2⟩
 have k2:=s2 _ _ g2
 have k3:=s2 _ _ g3
 have k4:∀b u,H b=some u→b≠a→H2 b=some u:=fun b u hb hne=>s2 _ _ (g4 b u hb hne)
 have e40:((2^40:Nat):Int)=1099511627776:=by decide
 have e64:(2:Int)^64=18446744073709551616:=by decide
 refine ⟨fun σ' H'=>σ'=[some (.ref a),some (.int m),some (.int (left%m)),some (.int at'),some (.int cell),none]∧H'=H2,?_,?_⟩
 ·refine ⟨_,rfl,_,_,rfl,rfl,⟨by decide,by decide,by decide⟩,_,_,rfl,rfl,_,rfl,?_⟩
  refine z7g (fun _=>?_) (fun _=>z8o ⟨rfl,rfl⟩)
  refine ⟨_,rfl,_,rfl,a,_,rfl,z45 k2 z5v,c,_,rfl,.inl (SqL.of k3),_,_,rfl,rfl,_,rfl,?_⟩
  refine z7g (fun _=>?_) (fun _=>⟨rfl,rfl⟩)
  refine ⟨_,rfl,_,rfl,_,_,rfl,rfl,⟨hm,by omega⟩,_,rfl,a,_,rfl,zcd k2 l4 (zf6 _),?_⟩
  refine ⟨_,rfl,_,rfl,_,_,rfl,rfl,hm,?_⟩
  exact fin cell (at'+1) (cell/m) _ (by omega) (by omega) z06 fun b u hb hne=>by rw[z0f hne];exact k4 b u hb hne
 rintro σ' H' ⟨rfl,rfl⟩
 have cm0:=Int.emod_nonneg cell (show (1000003:Int)≠0 by decide)
 have cm2:=Int.emod_lt_of_pos cell (show (0:Int)<1000003 by decide)
 refine ⟨_,rfl,_,_,rfl,rfl,(show (0:Int)<1000003 by decide),_,_,rfl,rfl,_,rfl,a,_,rfl,z45 k2 zf9,_,_,rfl,rfl,.inl ⟨by decide,by decide⟩,_,_,rfl,rfl,_,_,rfl,rfl,.inl ⟨by omega,by omega⟩,_,rfl,_,_,rfl,rfl,.inl ⟨by decide,by decide⟩,_,_,rfl,rfl,_,_,rfl,rfl,(show (0:Int)<2147483629 by decide),?_⟩
 refine ⟨_,rfl,_,_,rfl,rfl,⟨by decide,by decide,zre _ (by decide) (by decide)⟩,_,_,rfl,rfl,(show (0:Int)<2147483647 by decide),_,_,rfl,rfl,⟨by decide,by decide⟩,_,rfl,_,_,rfl,rfl,hm,?_⟩
 exact fin _ (at'+1) left _ (by omega) (by omega) k2 k4
theorem ca_AB:CallOk K (sp_AB K) (zDraw 2):=zhs fun _ _ _ _ h=>h
noncomputable def sp_AR (K:W.Frag):Sp:=fun vs H Q _=>∃a b:Int,vs=[.int a,.int b]∧0<b∧Bt 8999 b∧∀v H',Same H H'→Dv K H' v (sh (Rat.divInt a b))→Q v H'
theorem sc_AR:FnScope ["_law_top","_law_bottom","_law_one","_law_other_here"] ["_law_top","_law_bottom"] (z08 s_AR):=⟨rfl,rfl,rfl,by decide +kernel,rfl,by decide +kernel,by decide +kernel⟩
theorem d_AR (T:Txt K mg):Def P w K mg base "_law_low" ["_law_top","_law_bottom"] 1 (sp_AR K):=by
 refine Def.mkq T.f_AR sc_AR (fun vs H Q E h=>?_) (fun _ _ _ _ _ _ us hl=>match us,hl with|[_,_],_=>rfl) (fun f cdv A outer s H vs Q E hr h=>?_)
 ·obtain ⟨a,b,rfl,_⟩:=h
  rfl
 obtain ⟨a,b,rfl,hb,hz,q⟩:=h
 refine ⟨_, (z04 (z4y (i := 2) (j := 3) rfl sc_AR.nd rfl rfl (by decide) rfl rfl (z00 (z0i z8j rfl T.b_abs zfx (z00 (qpv 0) z01)) (z00 (qpv 1) z01)) rfl)
   (z04 (z3r PassesOwn.never (z0k zcv (qpv 3) z02 (z0s _)) (z05 (z4y (i:=2) (j:=3) rfl sc_AR.nd rfl rfl (by decide) rfl rfl (z00 (qpv 3) (z00 (z0c z3s (qpv 2) (qpv 3)) z01)) rfl)))
   (z05 (z0d (z0n (z00 (z0c z5p (qpv 0) (qpv 2)) (z00 (z0c z5p (qpv 1) (qpv 2)) z01))))))),?_⟩
 refine ⟨_,rfl,a,rfl,_,rfl,_,_,rfl,?_⟩
 refine z4e (fun σ H2=>H2=H∧∃x y:Int,σ=[some (.int a),some (.int b),some (.int x),some (.int y)]∧0≤x∧0≤y∧Int.gcd x y=Int.gcd a b) (fun σ _=>match σ with|[_,_,_,some (.int y)]=>y.toNat|_=>0) ⟨rfl,_,_,rfl,?_,?_,?_⟩ ?_ ?_
 ·show 0≤(if a<0 then -a else a);split<;>omega
 ·exact Int.le_of_lt hb
 ·rw[zpu];simp[Int.gcd]
 ·rintro σ H2 ⟨rfl,x,y,rfl,hx,hy,e⟩
  refine ⟨_,rfl,_,_,rfl,rfl,_,rfl,?_⟩
  refine z7g (fun c=>?_) (fun c=>?_)
  ·have c':0<y:=of_decide_eq_true c
   refine ⟨_,rfl,_,rfl,_,rfl,_,_,rfl,rfl,c',_,_,rfl,?_⟩
   have h1:=Int.emod_nonneg x (show y≠0 by omega)
   have h2:=Int.emod_lt_of_pos x c'
   refine ⟨⟨rfl,y,x%y,rfl,hy,h1,?_⟩,?_⟩
   ·rw[←e]
    exact zcc hx hy
   ·show (x%y).toNat<y.toNat;omega
  ·have c' : y = 0 := by
    have:¬0<y:=fun z=>c (decide_eq_true z)
    omega
   subst c'
   have e2:x=(Int.gcd a b:Int):=by rw[←e,Int.gcd_zero_right];omega
   have hlog:x.natAbs.log2<9000:=by
    have h1:x.natAbs≤b.natAbs:=by rw[e2];simpa using Nat.le_of_dvd (by omega) (Int.natAbs_dvd_natAbs.mpr (Int.gcd_dvd_right a b))
    have h2:Bt 8999 x:=Nat.lt_of_le_of_lt h1 hz
    exact Nat.lt_succ_of_lt (h2.log2 (by decide))
   obtain ⟨e4,e5,e3⟩:=zc2 (a:=a) (b:=b) (by omega) x (by rw[if_neg (by omega)];exact e2)
   refine ⟨_,rfl,_,rfl,_,_,rfl,rfl,⟨e3,hlog⟩,_,rfl,_,rfl,_,_,rfl,rfl,⟨e3,hlog⟩,len2,fun p hp=>?_⟩
   exact q _ _ (z0a hp _) (Dv.sh_of z06 e4 e5)
 ·rintro σ H2 Q1 Q2 hq ⟨v,e1,i,j,h1,h2,k,e2,h3⟩
  exact ⟨v,e1,i,j,h1,h2,k,e2,hq _ _ h3⟩
noncomputable def zp_AR:ZSp:=fun ws n Q=>∃a b:Int,ws=[.d (.int a),.d (.int b)]∧0<b∧Bt 8999 b∧Q (.d (sh (Rat.divInt a b))) n
theorem ca_AR:CallOk K (sp_AR K) zp_AR:=fun vs H Q ⟨M,ws,n,Qd,ok,r,⟨a,b,e,h1,h2,q⟩,k⟩=>by
 subst e
 obtain ⟨v1,v2,rfl,r1,r2⟩:=r.inv2
 rw[r1.int_inv,r2.int_inv]
 exact ⟨a,b,rfl,h1,h2,fun v H' s dv=>k.dvS ok s dv (z41 _) q⟩
noncomputable def sp_AU (K:W.Frag):Sp:=fun vs H Q _=>∃(l:Addr) (ws:List V) (rs:List Rat),vs=[.ref l]∧(SqL K H l ws∨SqT K H l ws)∧DvAll K H ws (rs.map sh)∧rs.length≤5000∧∀p ws' H',Same H H'→SqT K H' p ws'→DvAll K H' ws' ((z1n rs).map sh)→Q (.ref p) H'
theorem sc_AU:FnScope ["_law_numbers","_law_found"] ["_law_numbers"] (z08 s_AU):=⟨rfl,rfl,rfl,by decide +kernel,rfl,by decide +kernel,by decide +kernel⟩
theorem d_AU (T:Txt K mg):Def P w K mg base "_law_trim" ["_law_numbers"] 1 (sp_AU K):=by
 refine Def.mkq T.f_AU sc_AU (fun vs H Q E h=>?_) (fun _ _ _ _ _ _ us hl=>match us,hl with|[_],_=>rfl) (fun f cdv A outer s H vs Q E hr h=>?_)
 ·obtain ⟨l,ws,rs,rfl,_⟩:=h
  rfl
 obtain ⟨l,ws,rs,rfl,hL,hA,hlen,q⟩:=h
 refine ⟨_, (z04 (z0g (i := 1) sc_AU.nd rfl (by walk_at "lc") (z1e z3v rfl T.b_list zay (z00 (qpv 0) z01)))
   (z04 (z3r PassesOwn.never (QW.pt (z48 (z0k (zbw hr) (qpv 1) (z1c z01) (z0s _)) (z3d (z0k z6d (z0o ix_tup (z0o ix_list (qpv 1) (z3i z3g z02) (fun _ _=>rfl)) z02 (fun _ _=>rfl)) z02 (z0s _))))) (z05 (z5n (zkm PySem.F.plainAttrs_list PySem.F.slot_list_pop PySem.F.type_list_pop zot (qpv 1)))))
   (z05 (z0d (z1e z1o rfl T.b_tuple z2i (z00 (qpv 1) z01)))))),?_⟩
 have wl:ws.length=rs.length:=by have:=hA.length;simpa using this
 refine ⟨_,rfl,l,ws,rfl,hL,fun D fD=>?_⟩
 have sD:=z0a fD (.lst ws)
 refine z4e (fun σ H2=>∃e:Nat,σ=[some (.ref l),some (.ref D)]∧(∀b o,H b=some o→H2 b=some o)∧H2 D=some (.lst (ws.take e))∧e≤rs.length∧z1n (rs.take e)=z1n rs) (fun σ H2=>match H2 D with|some (.lst us)=>us.length|_=>0) ⟨rs.length,rfl,fun b o e=>sD b o e,by rw[z06,List.take_of_length_le (by omega)],Nat.le_refl _,by rw[List.take_length]⟩ ?_ ?_
 ·rintro σ H2 ⟨e,rfl,s2,h2,he,ht⟩
  have s2':Same H H2:=s2
  have fin:z1n (rs.take e)=rs.take e→∀p H',Same H2 H'→H' p=some (.tup (ws.take e))→Q (.ref p) H':=fun hz p H' s' hp=>by
   refine q p (ws.take e) H' (s2'.trans s') (SqT.of hp) ?_
   rw[←ht,hz,List.map_take]
   exact ((hA.mono s2').mono s').take e
  have dT:DvAll K H2 (ws.take e) ((rs.take e).map sh):=by
   rw[List.map_take]
   exact (hA.mono s2').take e
  refine ⟨_,rfl,zmc,fun l0 f0=>?_⟩
  have s0:=z0a f0 (.lst [])
  refine ⟨.list ((rs.take e).map sh),.list ([].map sh),.lst (SqL.of (s0 _ _ h2)) (dT.mono s0),.lst (SqL.of z06) .nil,zet _,zet [],zlw _,_,rfl,?_⟩
  rw[zlh]
  have h3:=s0 _ _ h2
  have d3:=dT.mono s0
  have k3:∀b o,H b=some o→upd H2 l0 (.lst []) b=some o:=fun b o e=>s0 _ _ (s2 _ _ e)
  generalize upd H2 l0 (.lst [])=H3 at s0 h3 d3 k3
  rcases Nat.eq_zero_or_pos e with c'|c'
  ·subst c'
   rw[List.take_zero,decide_eq_true rfl]
   refine z8o (z8o ?_)
   refine ⟨_,rfl,D,_,rfl,.inl ⟨SqL.of h3,fun p2 f2=>?_⟩⟩
   exact fin (by rw[List.take_zero,z5g]) p2 _ (s0.trans (z0a f2 _)) z06
  ·obtain ⟨e',rfl⟩:∃e',e=e'+1:=⟨e-1,by omega⟩
   have nz:¬rs.take (e'+1)=[]:=fun z=>by
    have:=congrArg List.length z
    rw[List.length_take]at this
    have l0:([]:List Rat).length=0:=rfl
    omega
   rw[decide_eq_false nz]
   refine z9z ?_
   have tl:(ws.take (e'+1)).length=e'+1:=by rw[List.length_take];omega
   obtain ⟨vx,hx⟩:∃v,(ws.take (e'+1))[(ws.take (e'+1)).length-1]?=some v:=⟨_,List.getElem?_eq_getElem (by omega)⟩
   have dx:=(d3.share hx).2
   rw[tl,Nat.add_sub_cancel]at dx
   have eg:(rs.take (e'+1)).getD e' 0=rs.getD e' 0:=by
    rw[List.getD_eq_getElem?_getD,List.getD_eq_getElem?_getD,List.getElem?_take_of_lt (by omega)]
   rw[eg]at dx
   obtain ⟨px,rfl,tx⟩:=dx.sh_inv
   refine ⟨_,rfl,_,rfl,D,_,_,_,rfl,rfl,SqL.of h3,zaz hx,px,_,_,_,rfl,rfl,tx,at0,rfl,_,rfl,?_⟩
   by_cases hz:rs.getD e' 0=0
   ·have e1:decide (V.int (rs.getD e' 0).num=V.int 0)=true:=decide_eq_true (by rw[hz];rfl)
    rw[e1]
    refine z9z ?_
    refine ⟨_,rfl,.inl ⟨rfl,_,SqL.of h3⟩,D,_,_,rfl,rfl,h3,hx,?_⟩
    have dl:(ws.take (e'+1)).dropLast=ws.take e':=by
     rw[List.dropLast_eq_take,tl,List.take_take];congr 1;omega
    rw[dl]
    refine ⟨⟨e',rfl,fun b o eb=>?_,z06,by omega,?_⟩,?_⟩
    ·rw[z0f (z0m eb fD)];exact k3 b o eb
    ·rw[z1w (by omega),hz,z3l]at ht;exact ht
    ·show (match upd H3 D (.lst (ws.take e')) D with|some (.lst us)=>us.length|_=>0)<(match H2 D with|some (.lst us)=>us.length|_=>0)
     rw[z06,h2]
     show (ws.take e').length<(ws.take (e'+1)).length
     rw[tl,List.length_take];omega
   ·have e1:decide (V.int (rs.getD e' 0).num=V.int 0)=false:=decide_eq_false fun z=>zor hz (by injection z)
    rw[e1]
    refine z8o ?_
    refine ⟨_,rfl,D,_,rfl,.inl ⟨SqL.of h3,fun p2 f2=>?_⟩⟩
    exact fin (by rw[z1w (by omega),z5y hz]) p2 _ (s0.trans (z0a f2 _)) z06
 ·rintro σ H2 Q1 Q2 hq ⟨v,e1,hl0,hn⟩
  refine ⟨v,e1,hl0,fun p hp=>?_⟩
  obtain ⟨d,e,d1,d2,l1,l2,dp,k,ek,h⟩:=hn p hp
  refine ⟨d,e,d1,d2,l1,l2,dp,k,ek,?_⟩
  cases k
  ·exact hq _ _ h
  ·obtain ⟨v1,e3,i1,e4,a,xs,n,x,e5,e6,e7,e8,a2,xs2,n2,x2,e9,e10,e11,e12,e13,k,ek,h⟩:=h
   exact ⟨v1,e3,i1,e4,a,xs,n,x,e5,e6,e7,e8,a2,xs2,n2,x2,e9,e10,e11,e12,e13,k,ek,hq _ _ h⟩
noncomputable def zp_AU:ZSp:=fun ws n Q=>∃rs:List Rat,(ws=[.d (.tuple (rs.map sh))]∨ws=[.d (.list (rs.map sh))])∧rs.length≤5000∧Q (.d (pl (z1n rs))) n
theorem ca_AU:CallOk K (sp_AU K) zp_AU:=fun vs H Q ⟨M,ws,n,Qd,ok,r,⟨rs,e,hn,q⟩,k⟩=>by
 rcases e with rfl|rfl
 ·obtain ⟨v1,rfl,r1⟩:=r.inv1
  obtain ⟨p,ws1,rfl,tp,da⟩:=r1.pl_inv
  exact ⟨p,ws1,rs,rfl,.inr tp,da,hn,fun p' ws' H' s t d=>k.dvS ok s (Dv.pl t d) (z32 _) q⟩
 ·obtain ⟨v1,rfl,r1⟩:=r.inv1
  obtain ⟨p,ws1,rfl,tp,da⟩:=r1.lst_inv
  exact ⟨p,ws1,rs,rfl,.inl (SqL.of (tp _ (M.refw _))),da.dv,hn,fun p' ws' H' s t d=>k.dvS ok s (Dv.pl t d) (z32 _) q⟩
noncomputable def sp_Aw (K:W.Frag):Sp:=fun vs H Q _=>∃(p:Addr) (ws:List V) (rs:List Rat) (k:Int),vs=[.ref p,.int k]∧SqT K H p ws∧DvAll K H ws (rs.map sh)∧0≤k∧∀v H',Same H H'→Dv K H' v (sh (rs.getD k.toNat 0))→Q v H'
theorem sc_Aw:FnScope ["_law_poly_here","_law_k"] ["_law_poly_here","_law_k"] (z08 s_Aw):=⟨rfl,rfl,rfl,by decide +kernel,rfl,by decide +kernel,by decide +kernel⟩
theorem d_Aw (T:Txt K mg):Def P w K mg base "_law_at" ["_law_poly_here","_law_k"] 1 (sp_Aw K):=by
 refine Def.mkq T.f_Aw sc_Aw (fun vs H Q E h=>?_) (fun _ _ _ _ _ _ us hl=>match us,hl with|[_,_],_=>rfl) (fun f cdv A outer s H vs Q E hr h=>?_)
 ·obtain ⟨p,ws,rs,k,rfl,_⟩:=h
  rfl
 obtain ⟨p,ws,rs,k,rfl,hT,hA,k0,q⟩:=h
 refine ⟨_,(z05 (z0d (z2t (z0k z83 (qpv 1) (z0i z0p rfl T.b_len z1v (z00 (qpv 0) z01)) (z0s _)) (z0o ix_tup (qpv 0) (qpv 1) (fun _ _=>rfl)) (z0n (z00 z02 (z00 z02 z01)))))),?_⟩
 have wl:ws.length=rs.length:=by have:=hA.length;simpa using this
 refine ⟨_,rfl,_,rfl,p,ws,rfl,.inr hT,_,_,rfl,rfl,_,rfl,?_⟩
 refine z7g (fun c=>?_) (fun c=>?_)
 ·have c':k<((ws.length:Nat):Int):=of_decide_eq_true c
  have hw:ws[k.toNat]?=some (ws[k.toNat]'(by omega)):=List.getElem?_eq_getElem (by omega)
  have ea:=z2c hw
  rw[show ((k.toNat:Nat):Int)=k by omega]at ea
  exact ⟨_,rfl,_,rfl,p,ws,_,_,rfl,rfl,hT,ea,q _ H (Same.refl _) (hA.share hw).2⟩
 ·have c':¬k<((ws.length:Nat):Int):=fun z=>c (decide_eq_true z)
  refine ⟨len2,fun p1 f1=>?_⟩
  rw[z0e (by omega)]at q
  exact q _ _ (z0a f1 _) (Dv.sh_of z06 rfl rfl)
noncomputable def zp_Aw:ZSp:=fun ws n Q=>∃(rs:List Rat) (i:Int),ws=[.d (pl rs),.d (.int i)]∧0≤i∧Q (.d (sh (rs.getD i.toNat 0))) n
theorem ca_Aw:CallOk K (sp_Aw K) zp_Aw:=fun vs H Q ⟨M,ws,n,Qd,ok,r,⟨rs,i,e,h1,q⟩,k⟩=>by
 subst e
 obtain ⟨v1,v2,rfl,r1,r2⟩:=r.inv2
 obtain ⟨p,ws1,rfl,tp,da⟩:=r1.pl_inv
 rw[r2.int_inv]
 exact ⟨p,ws1,rs,i,rfl,tp,da,h1,fun v H' s dv=>k.dvS ok s dv (z41 _) q⟩
noncomputable def sp_Az (K:W.Frag):Sp:=fun vs H Q _=>∃(v:V) (d:PyData),vs=[v]∧Dv K H v d∧Q (.bl (shB d)) H
theorem sc_Az:FnScope ["thing","top","bottom"] ["thing"] (z08 s_Az):=⟨rfl,rfl,rfl,by decide +kernel,rfl,by decide +kernel,by decide +kernel⟩
theorem d_Az (T:Txt K mg):Def P w K mg base "is_share" ["thing"] 2 (sp_Az K):=by
 refine Def.mkq T.f_Az sc_Az (fun vs H Q E h=>?_) (fun _ _ _ _ _ _ us hl=>match us,hl with|[_],_=>rfl) (fun f cdv A outer s H vs Q E hr h=>?_)
 ·obtain ⟨v,d,rfl,_⟩:=h
  rfl
 obtain ⟨v,d,rfl,hd,q⟩:=h
 refine ⟨_, (z04 (z1a (QW.pt (z7a (z2y (z25 (z0i z4t rfl T.b_isinstance z2a (z00 (qpv 0) (z00 (z4n (v := .ty "tuple") rfl T.b_tuple z2i rfl) z01))))) (z64 (z0k zlb (z0i z0p rfl T.b_len z1v (z00 (qpv 0) z01)) z02 (z0s _))))) (z05 (z0d z1x)) z0r)
   (z04 (z2s (qpv 0) (z50 rfl (z0w (z0l (i:=1) sc_Az.nd rfl (by walk_at "lc")) (z0w (z0l (i:=2) sc_Az.nd rfl (by walk_at "lc")) z2m))))
   (z04 (z1a (QW.pt (z7a (z2y (z25 (z09 (d_Ap T) hr (z00 (qpv 1) z01)))) (z7a (z2y (z25 (z09 (d_Ap T) hr (z00 (qpv 2) z01)))) (z64 (z0k z83 (qpv 2) z02 (z0s _)))))) (z05 (z0d z1x)) z0r)
   (z05 (z0d (z2n z6d (z09 (d_Aq T) hr (z00 (qpv 1) (z00 (qpv 2) z01))) z02 (z0s _))))))),?_⟩
 refine ⟨_,rfl,_,z4f d,"tuple",z2x d,rfl,hd.ty,zeu d,_,rfl,?_⟩
 by_cases ht:z2x d=true
 case neg=>
  have ht':z2x d=false:=by simpa using ht
  rw[ht']
  refine z9z ?_
  rw[zk3 ht']at q;exact q
 rw[ht]
 refine z8o ?_
 obtain ⟨ds,rfl⟩:=zc5 ht
 obtain ⟨p,xs,rfl,tp,da⟩:=hd.tup_inv
 have hlen:=da.length
 refine ⟨_,rfl,p,xs,rfl,.inr tp,rfl,_,rfl,?_⟩
 by_cases h2:xs.length=2
 case neg=>
  have e:decide (V.int ((xs.length:Nat):Int)=V.int 2)=false:=decide_eq_false fun h=>by injection h;omega
  rw[e]
  refine z9z ?_
  rw[zk4 (by omega)]at q;exact q
 have e:decide (V.int ((xs.length:Nat):Int)=V.int 2)=true:=decide_eq_true (by rw[h2];rfl)
 rw[e]
 refine z8o ?_
 cases da with
 | nil=>cases h2
 | cons d1 t1=>
 cases t1 with
 | nil=>cases h2
 | cons d2 t2=>
 cases t2 with
 | cons _ _=>simp at h2
 | nil=>
 refine ⟨_,rfl,p,_,rfl,tp,rfl,_,_,rfl,_,_,rfl,rfl,?_⟩
 refine ⟨_,rfl,_,_,rfl,d1,_,rfl,?_⟩
 rcases d1.whole with ⟨a,rfl,rfl⟩|hw
 case inr=>
  rw[hw]
  refine z9z ?_
  rw[zds (.inl hw)]at q;exact q
 refine z8o ?_
 refine ⟨_,rfl,_,_,rfl,d2,_,rfl,?_⟩
 rcases d2.whole with ⟨b,rfl,rfl⟩|hw
 case inr=>
  rw[hw]
  refine z9z ?_
  rw[zds (.inr hw)]at q;exact q
 refine z8o ?_
 refine ⟨_,rfl,_,_,rfl,rfl,_,rfl,?_⟩
 have q':Q (.bl (decide (1≤b)&&decide (Int.gcd a b=1))) H:=q
 refine z7g (fun c=>?_) (fun c=>?_)
 ·have c':b<1:=of_decide_eq_true c
  rw[decide_eq_false (show ¬1≤b by omega)]at q';exact q'
 have c':1≤b:=by have:¬b<1:=fun h=>c (decide_eq_true h);omega
 rw[decide_eq_true c',Bool.true_and]at q'
 refine ⟨_,rfl,_,rfl,a,b,rfl,rfl,?_⟩
 have e3:decide (V.int (Int.gcd a b:Int)=V.int 1)=decide (Int.gcd a b=1):=by
  by_cases h:Int.gcd a b=1
  ·rw[h];rfl
  ·rw[decide_eq_false h];exact decide_eq_false fun z=>by injection z;omega
 show Q (.bl (decide (V.int (Int.gcd a b:Int)=V.int 1))) H
 rw[e3];exact q'
noncomputable def sp_Ay (K:W.Frag):Sp:=fun vs H Q _=>∃a b:Int,vs=[.int a,.int b]∧b≠0∧Bt 8999 b∧∀v H',Same H H'→Dv K H' v (sh (Rat.divInt a b))→Q v H'
theorem sc_Ay:FnScope ["top","bottom","common"] ["top","bottom"] (z08 s_Ay):=⟨rfl,rfl,rfl,by decide +kernel,rfl,by decide +kernel,by decide +kernel⟩
theorem d_Ay (T:Txt K mg):Def P w K mg base "lowest" ["top","bottom"] 2 (sp_Ay K):=by
 refine Def.mkq T.f_Ay sc_Ay (fun vs H Q E h=>?_) (fun _ _ _ _ _ _ us hl=>match us,hl with|[_,_],_=>rfl) (fun f cdv A outer s H vs Q E hr h=>?_)
 ·obtain ⟨a,b,rfl,_⟩:=h
  rfl
 obtain ⟨a,b,rfl,hb,hz,q⟩:=h
 refine ⟨_, (z04 (z1a (z0k z6d (qpv 1) z02 (z0s _)) (z05 ze0) z0r)
   (z04 (z0g (i:=2) sc_Ay.nd rfl (by walk_at "lc") (z09 (d_Aq T) hr (z00 (qpv 0) (z00 (qpv 1) z01))))
   (z04 (z1a (z0k z83 (qpv 1) z02 (z0s _)) (z05 (z0g (i:=2) sc_Ay.nd rfl (by walk_at "lc") (z3i z3g (qpv 2)))) z0r)
   (z05 (z0d (z0n (z00 (z0c z5p (qpv 0) (qpv 2)) (z00 (z0c z5p (qpv 1) (qpv 2)) z01)))))))),?_⟩
 have hlog:∀g:Int,g.natAbs=Int.gcd a b→g.natAbs.log2<9000:=fun g hg=>by
  have h1:g.natAbs≤b.natAbs:=by rw[hg];exact Nat.le_of_dvd (by omega) (Int.natAbs_dvd_natAbs.mpr (Int.gcd_dvd_right a b))
  have h2:Bt 8999 g:=Nat.lt_of_le_of_lt h1 hz
  exact Nat.lt_succ_of_lt (h2.log2 (by decide))
 refine ⟨_,rfl,rfl,_,rfl,?_⟩
 refine z7g (fun c=>?_) (fun _=>?_)
 ·exact absurd (by simpa using c) hb
 refine ⟨_,rfl,_,rfl,a,b,rfl,?_⟩
 refine ⟨_,rfl,_,_,rfl,rfl,_,rfl,?_⟩
 refine z7g (fun c=>?_) (fun c=>?_)
 ·have c':b<0:=by simpa using c
  obtain ⟨e1,e2,e3⟩:=zc2 (a:=a) hb (-(Int.gcd a b:Int)) (by rw[if_pos c'])
  refine ⟨_,rfl,_,rfl,_,rfl,_,rfl,_,_,rfl,rfl,⟨e3,hlog _ (by simp)⟩,_,rfl,_,rfl,_,_,rfl,rfl,⟨e3,hlog _ (by simp)⟩,len2,fun p hp=>?_⟩
  exact q _ _ (z0a hp _) (Dv.sh_of z06 e1 e2)
 ·have c':¬b<0:=by simpa using c
  obtain ⟨e1,e2,e3⟩:=zc2 (a:=a) hb (Int.gcd a b:Int) (by rw[if_neg c'])
  refine ⟨_,rfl,_,rfl,_,_,rfl,rfl,⟨e3,hlog _ (by simp)⟩,_,rfl,_,rfl,_,_,rfl,rfl,⟨e3,hlog _ (by simp)⟩,len2,fun p hp=>?_⟩
  exact q _ _ (z0a hp _) (Dv.sh_of z06 e1 e2)
noncomputable def zp_Ai:ZSp:=fun ws n Q=>∃(xs ys:List Rat),ws=[.d (pl xs),.d (pl ys)]∧xs.length≤1000∧ys.length≤1000∧Q (.d (unD (unl xs ys))) n
theorem sc_Ai:FnScope ["one","other","k"] ["one","other"] (z08 s_Ai):=⟨rfl,rfl,rfl,by decide +kernel,rfl,by decide +kernel,by decide +kernel⟩
theorem d_Ai (T:Txt K mg):Def P w K mg base "first_unlike" ["one","other"] 2 (zc3 K zp_Ai):=by
 refine Def.mkz T.f_Ai sc_Ai (fun ws n Q h => ?_) (fun _ _ _ _ _ _ us hl => match us, hl with|[_, _], _ => rfl) (fun f cdv A outer s H E hr => ⟨_, _, (z04 (z1b PassesOwn.never rfl (z22 rfl T.b_range (z00 (z0i (z6v rfl) rfl T.b_max zfv (z00 (z0i (z2v (K := K) rfl) rfl T.b_len z1v (z00 (qpv 0) z01)) (z00 (z0i (z2v (K := K) rfl) rfl T.b_len z1v (z00 (qpv 1) z01)) z01))) z01)) (z0l (i := 2) sc_Ai.nd rfl (by walk_at "lc")) (z05 (z1a (z0k (zbx (K := K) rfl hr) (z09 (d_Ac T) hr (z00 (qpv 0) (z00 (qpv 2) z01))) (z09 (d_Ac T) hr (z00 (qpv 1) (z00 (qpv 2) z01))) (z0s _)) (z05 (z0d (qpv 2))) z0r)))
   (z05 (z0d zae))),(z2d (zmv (z7r (z03 (z4h zp1 (z03 (z4h zaq (z03 z07 z0b)) (z03 (z4h zaq (z03 z07 z0b)) z0b))) z0b)) z46 (z7q (z9y (z0t zq9 (z0h CallOk.refl (z03 z07 (z03 z07 z0b))) (z0h CallOk.refl (z03 z07 (z03 z07 z0b))))) (z2w z07) z3a))
   (z2w zi8)),fun ws n Q h=>?_⟩)
 ·obtain ⟨xs,ys,rfl,_⟩:=h
  rfl
 obtain ⟨xs,ys,rfl,hx,hy,q⟩:=h
 have lx:(xs.map sh).length=xs.length:=List.length_map ..
 have ly:(ys.map sh).length=ys.length:=List.length_map ..
 refine r_lenT ?_
 refine r_lenT ?_
 refine zni fun m hm=>?_
 have hm':m=((max xs.length ys.length:Nat):Int):=by rw[hm,lx,ly];omega
 refine ⟨⟨by omega,by omega⟩,?_⟩
 rw[hm',Int.toNat_natCast]
 refine zlq (fun i δ m=>m=n∧(∃x,δ=[some (.d (pl xs)),some (.d (pl ys)),x])∧∀j,j<i→xs.getD j 0=ys.getD j 0) ⟨rfl,⟨_,rfl⟩,fun j hj=>absurd hj (Nat.not_lt_zero _)⟩ (fun i d δ m R hd hp hR=>?_) (fun δ m hp=>?_)
 ·obtain ⟨rfl,⟨x,rfl⟩,hj⟩:=hp
  obtain ⟨hi,rfl⟩:=z4k hd
  rw[Int.zero_add]
  refine ⟨xs,i,rfl,?_⟩
  refine ⟨ys,i,rfl,?_⟩
  refine zke (.sh _ _) ?_
  rw[z92]
  by_cases c:xs.getD i 0=ys.getD i 0
  ·rw[decide_eq_true c]
   refine hR _ _ ⟨rfl,⟨_,rfl⟩,fun j h=>?_⟩
   by_cases e:j=i
   ·rw[e];exact c
   ·exact hj j (by omega)
  ·rw[decide_eq_false c]
   have e:unl xs ys=some i:=zd2 hi (by rw[decide_eq_false c];rfl) fun j h=>by rw[decide_eq_true (hj j h)];rfl
   rw[e]at q
   exact q
 ·obtain ⟨rfl,⟨x,rfl⟩,hj⟩:=hp
  rw[z5m]at hj
  have e:unl xs ys=none:=z9m fun j h=>by rw[decide_eq_true (hj j h)];rfl
  rw[e]at q
  exact q
noncomputable def sp_AL (K:W.Frag):Sp:=fun vs H Q _=>∃(v1 v2:V) (x y:Rat),vs=[v1,v2]∧Dv K H v1 (sh x)∧Dv K H v2 (sh y)∧Bs 4400 x∧Bs 4400 y∧∀v H',Same H H'→Dv K H' v (sh (x+y))→Q v H'
theorem sc_AL:FnScope ["_law_one","_law_other_here"] ["_law_one","_law_other_here"] (z08 s_AL):=⟨rfl,rfl,rfl,by decide +kernel,rfl,by decide +kernel,by decide +kernel⟩
theorem d_AL (T:Txt K mg):Def P w K mg base "_law_plus" ["_law_one","_law_other_here"] 2 (sp_AL K):=by
 refine Def.mkq T.f_AL sc_AL (fun vs H Q E h=>?_) (fun _ _ _ _ _ _ us hl=>match us,hl with|[_,_],_=>rfl) (fun f cdv A outer s H vs Q E hr h=>?_)
 ·obtain ⟨v1,v2,x,y,rfl,_⟩:=h
  rfl
 obtain ⟨v1,v2,x,y,rfl,h1,h2,b1,b2,q⟩:=h
 refine ⟨_,(z05 (z0d (z09 (d_AR T) hr (z00 (z0c z27 (z0c z26 (z0o ix_tup (qpv 0) z02 (fun _ _=>rfl)) (z0o ix_tup (qpv 1) z02 (fun _ _=>rfl))) (z0c z26 (z0o ix_tup (qpv 1) z02 (fun _ _=>rfl)) (z0o ix_tup (qpv 0) z02 (fun _ _=>rfl)))) (z00 (z0c z26 (z0o ix_tup (qpv 0) z02 (fun _ _=>rfl)) (z0o ix_tup (qpv 1) z02 (fun _ _=>rfl))) z01))))),?_⟩
 obtain ⟨p1,rfl,t1⟩:=h1.sh_inv
 obtain ⟨p2,rfl,t2⟩:=h2.sh_inv
 have hx:=den_pos x
 have hy:=den_pos y
 have hxy:=Int.mul_pos hx hy
 refine ⟨_,rfl,p1,_,_,_,rfl,rfl,t1,at0,_,rfl,p2,_,_,_,rfl,rfl,t2,at1,_,_,rfl,rfl,b1.n.cmul b2.d,?_⟩
 refine ⟨_,rfl,p2,_,_,_,rfl,rfl,t2,at0,_,rfl,p1,_,_,_,rfl,rfl,t1,at1,_,_,rfl,rfl,b2.n.cmul b1.d,_,_,rfl,rfl,?_⟩
 refine ⟨_,rfl,p1,_,_,_,rfl,rfl,t1,at1,_,rfl,p2,_,_,_,rfl,rfl,t2,at1,_,_,rfl,rfl,b1.d.cmul b2.d,?_⟩
 refine ⟨_,_,rfl,hxy,(b1.d.mul b2.d).mono (by decide),fun v H' s e=>q v H' s ?_⟩
 rw[zg0];exact e
noncomputable def zp_AL:ZSp:=fun ws n Q=>∃x y:Rat,ws=[.d (sh x),.d (sh y)]∧Bs 4400 x∧Bs 4400 y∧Q (.d (sh (x+y))) n
theorem ca_AL:CallOk K (sp_AL K) zp_AL:=fun vs H Q ⟨M,ws,n,Qd,ok,r,⟨x,y,e,h1,h2,q⟩,k⟩=>by
 subst e
 obtain ⟨v1,v2,rfl,r1,r2⟩:=r.inv2
 exact ⟨v1,v2,x,y,rfl,r1.dv,r2.dv,h1,h2,fun v H' s dv=>k.dvS ok s dv (z41 _) q⟩
noncomputable def sp_AH (K:W.Frag):Sp:=fun vs H Q _=>∃(v1 v2:V) (x y:Rat),vs=[v1,v2]∧Dv K H v1 (sh x)∧Dv K H v2 (sh y)∧Bs 4400 x∧Bs 4400 y∧∀v H',Same H H'→Dv K H' v (sh (x*y))→Q v H'
theorem sc_AH:FnScope ["_law_one","_law_other_here"] ["_law_one","_law_other_here"] (z08 s_AH):=⟨rfl,rfl,rfl,by decide +kernel,rfl,by decide +kernel,by decide +kernel⟩
theorem d_AH (T:Txt K mg):Def P w K mg base "_law_times" ["_law_one","_law_other_here"] 2 (sp_AH K):=by
 refine Def.mkq T.f_AH sc_AH (fun vs H Q E h=>?_) (fun _ _ _ _ _ _ us hl=>match us,hl with|[_,_],_=>rfl) (fun f cdv A outer s H vs Q E hr h=>?_)
 ·obtain ⟨v1,v2,x,y,rfl,_⟩:=h
  rfl
 obtain ⟨v1,v2,x,y,rfl,h1,h2,b1,b2,q⟩:=h
 refine ⟨_,(z05 (z0d (z09 (d_AR T) hr (z00 (z0c z26 (z0o ix_tup (qpv 0) z02 (fun _ _=>rfl)) (z0o ix_tup (qpv 1) z02 (fun _ _=>rfl))) (z00 (z0c z26 (z0o ix_tup (qpv 0) z02 (fun _ _=>rfl)) (z0o ix_tup (qpv 1) z02 (fun _ _=>rfl))) z01))))),?_⟩
 obtain ⟨p1,rfl,t1⟩:=h1.sh_inv
 obtain ⟨p2,rfl,t2⟩:=h2.sh_inv
 have hx:=den_pos x
 have hy:=den_pos y
 have hxy:=Int.mul_pos hx hy
 refine ⟨_,rfl,p1,_,_,_,rfl,rfl,t1,at0,_,rfl,p2,_,_,_,rfl,rfl,t2,at0,_,_,rfl,rfl,b1.n.cmul b2.n,?_⟩
 refine ⟨_,rfl,p1,_,_,_,rfl,rfl,t1,at1,_,rfl,p2,_,_,_,rfl,rfl,t2,at1,_,_,rfl,rfl,b1.d.cmul b2.d,?_⟩
 refine ⟨_,_,rfl,hxy,(b1.d.mul b2.d).mono (by decide),fun v H' s e=>q v H' s ?_⟩
 rw[zen];exact e
noncomputable def zp_AH:ZSp:=fun ws n Q=>∃x y:Rat,ws=[.d (sh x),.d (sh y)]∧Bs 4400 x∧Bs 4400 y∧Q (.d (sh (x*y))) n
theorem ca_AH:CallOk K (sp_AH K) zp_AH:=fun vs H Q ⟨M,ws,n,Qd,ok,r,⟨x,y,e,h1,h2,q⟩,k⟩=>by
 subst e
 obtain ⟨v1,v2,rfl,r1,r2⟩:=r.inv2
 exact ⟨v1,v2,x,y,rfl,r1.dv,r2.dv,h1,h2,fun v H' s dv=>k.dvS ok s dv (z41 _) q⟩
noncomputable def sp_AK (K:W.Frag):Sp:=fun vs H Q _=>∃(t:V) (n:Nat),vs=[t]∧Fd H t n∧n<2^30∧∀v x H',Bs 5 x→Dv K H' v (sh x)→Fd H' t (n+2)→SF t H H'→Q v H'
theorem sc_AK:FnScope ["_law_feed_here","_law_top","_law_bottom"] ["_law_feed_here"] (z08 s_AK):=⟨rfl,rfl,rfl,by decide +kernel,rfl,by decide +kernel,by decide +kernel⟩
theorem d_AK (T:Txt K mg):Def P w K mg base "_law_small" ["_law_feed_here"] 2 (sp_AK K):=by
 refine Def.mkq T.f_AK sc_AK (fun vs H Q E h=>?_) (fun _ _ _ _ _ _ us hl=>match us,hl with|[_],_=>rfl) (fun f cdv A outer s H vs Q E hr h=>?_)
 ·obtain ⟨t,n,rfl,_⟩:=h
  rfl
 obtain ⟨t,n,rfl,T0,hn,q⟩:=h
 refine ⟨_, (z04 (z0g (i := 1) sc_AK.nd rfl (by walk_at "lc") (z0c z20 (z09 (d_AB T) hr (z00 (qpv 0) (z00 z02 z01))) z02))
   (z04 (z0g (i:=2) sc_AK.nd rfl (by walk_at "lc") (z0o ix_list (z1c (z00 z02 (z00 z02 (z00 z02 (z00 z02 (z00 z02 (z00 z02 (z00 z02 (z00 z02 (z00 z02 (z00 z02 (z00 z02 (z00 z02 (z00 z02 (z00 z02 (z00 z02 z01)))))))))))))))) (z09 (d_AB T) hr (z00 (qpv 0) (z00 z02 z01))) (fun _ _=>rfl)))
   (z05 (z0d (z09 (d_AR T) hr (z00 (z0c z5a (qpv 1) (z1e z9p rfl T.b_int zfw (z00 (z2n z83 (qpv 1) z02 (z0s _)) z01))) (z00 (qpv 2) z01))))))),?_⟩
 refine ⟨_,rfl,t,n,48,rfl,T0,by omega,by decide,by decide,fun d H1 d0 d1 T1 S1=>⟨_,_,rfl,rfl,?_⟩⟩
 refine ⟨by show 15≤sizeLine;decide,fun l fl=>?_⟩
 have u1:=z0a fl (.lst ([1,1,1,1,2,3,4,5,6,7,8,9,10,11,12].map V.int))
 refine ⟨_,rfl,t,_,15,rfl,T1.same u1,by omega,by decide,by decide,fun e H2 e0 e1 T2 S2=>?_⟩
 obtain ⟨b,eb,hb⟩:=zm4 (ns:=[1,1,1,1,2,3,4,5,6,7,8,9,10,11,12]) e0 e1
 have hb':1≤b∧b≤12:=(by decide:∀b∈[(1:Int),1,1,1,2,3,4,5,6,7,8,9,10,11,12],1≤b∧b≤12) b hb
 refine ⟨l,_,_,_,rfl,rfl,SqL.of (S2 _ _ z06 (T1.ne fl)),eb,?_⟩
 refine ⟨_,rfl,_,rfl,_,_,rfl,rfl,.inr ⟨_,rfl,?_⟩⟩
 obtain ⟨c,hc,hc2⟩:∃c:Int,(if decide (d-20<21)=true then (1:Int) else 0)=c∧((d-20<21∧c=1)∨c=0):=by
  by_cases h:d-20<21
  ·exact ⟨1,by rw[decide_eq_true h];rfl,.inl ⟨h,rfl⟩⟩
  ·exact ⟨0,by rw[decide_eq_false h];rfl,.inr rfl⟩
 rw[hc]
 have ht:Bt 5 ((d-20)*c):=by
  rcases hc2 with ⟨h,rfl⟩|rfl
  ·exact Bt.of_lt 32 (by omega) (by omega) (by decide)
  ·rw[Int.mul_zero];decide
 have hbb:Bt 5 b:=Bt.of_lt 32 (by omega) (by omega) (by decide)
 refine ⟨_,_,rfl,rfl,.inl ⟨by omega,by omega⟩,_,rfl,_,b,rfl,by omega,hbb.mono (by decide),fun v H3 s3 d3=>?_⟩
 exact q v _ H3 (Bs.divInt ht hbb (by omega)) d3 (T2.same s3) (S1.trans (u1.sf.trans (S2.trans s3.sf)))
noncomputable def zp_AK:ZSp:=fun ws n Q=>ws=[.t 2]∧n<2^30∧∀x,Bs 5 x→Q (.d (sh x)) (n+2)
theorem ca_AK:CallOk K (sp_AK K) zp_AK:=fun vs H Q ⟨M,ws,n,Qd,ok,r,⟨e,hn,q⟩,k⟩=>by
 subst e
 obtain ⟨v1,rfl,r1⟩:=r.inv1
 obtain ⟨rfl,hk⟩:=r1
 exact ⟨M.val,n,rfl,M.tp2 hk ok,hn,fun v x H' bx dv T S=>k.dvF hk ok S T dv (z41 x) (q x bx)⟩
noncomputable def zp_Ag:ZSp:=fun ws n Q=>∃(rs:List Rat) (B:Nat),ws=[.t 2,.d (pl rs)]∧n≤2^28∧rs.length≤50∧(∀r∈rs,Bs B r)∧5≤B∧B≤4000∧∀(rs':List Rat)(n':Nat),n'≤n+10→rs'.length≤rs.length+1→(∀r∈rs',Bs (B+2) r)→z0x rs'=true→Q (.d (pl rs')) n'
theorem sc_Ag:FnScope ["_law_feed_here","_law_kq","_law_at_here","_law_top","_law_bottom","_law_more"] ["_law_feed_here","_law_kq"] (z08 s_Ag):=⟨rfl,rfl,rfl,by decide +kernel,rfl,by decide +kernel,by decide +kernel⟩
theorem d_Ag (T:Txt K mg):Def P w K mg base "_law_other" ["_law_feed_here","_law_kq"] 2 (zc3 K zp_Ag):=by
 refine Def.mkz T.f_Ag sc_Ag (fun ws n Q h => ?_) (fun _ _ _ _ _ _ us hl => match us, hl with|[_, _], _ => rfl) (fun f cdv A outer s H E hr => ⟨_, _, (z04 (z1a (z0k (z4o (K := K) rfl hr) (qpv 1) (z0n z01) (z0s _)) (z05 (z0d (z0n (z00 (z0n (z00 z02 (z00 z02 z01))) z01)))) z0r)
   (z04 (z0g (i:=2) sc_Ag.nd rfl (by walk_at "lc") (z09 (d_AB T) hr (z00 (qpv 0) (z00 (z0i (z2v (K:=K) rfl) rfl T.b_len z1v (z00 (qpv 1) z01)) z01))))
   (z04 (z2s (z0o (z3j (K:=K) rfl) (qpv 1) (qpv 2) (fun _ _=>rfl)) (zbq (K:=K) (n:=2) rfl rfl (z0w (z0l (i:=3) sc_Ag.nd rfl (by walk_at "lc")) (z0w (z0l (i:=4) sc_Ag.nd rfl (by walk_at "lc")) z2m))))
   (z04 (z0g (i:=5) sc_Ag.nd rfl (by walk_at "lc") (z0o (z3j (K:=K) rfl) (z1c (z00 (qpv 4) (z00 (z0c z20 z02 (qpv 4)) z01))) (z09 (d_AB T) hr (z00 (qpv 0) (z00 z02 z01))) (fun _ _=>rfl)))
   (z05 (z0d (z09 (d_AU T) hr (z00 (z0c (z1d (K:=K) rfl) (z0c (z1d (K:=K) rfl) (z17 (z35 (K:=K) rfl) (qpv 1) z1u (z19 (qpv 2))) (z0n (z00 (z09 (d_AR T) hr (z00 (z0c (z1d (K:=K) rfl) (qpv 3) (qpv 5)) (z00 (qpv 4) z01))) z01))) (z17 (z35 (K:=K) rfl) (qpv 1) (z19 (z0c (z1d (K:=K) rfl) (qpv 2) z02)) z1u)) z01)))))))),(z2d (z7q (z9y (z0t zhe z07 (z1j z0b))) (z2w (z1j (z03 (z1j (z03 z0j (z03 z0j z0b))) z0b))) z3a)
   (z2d (z61 (z0h ca_AB (z03 z07 (z03 (z4h zaq (z03 z07 z0b)) z0b))))
   (z2d (zi6 (z0t zd9 z07 z07) (zic (z7u z46 (z7u z46 zid))))
   (z2d (z61 (z0t zd9 (z3n (z03 z07 (z03 (z0t z9h z0j z07) z0b))) (z0h ca_AB (z03 z07 (z03 z0j z0b)))))
   (z2w (z0h ca_AU (z03 (z0t z30 (z0t z30 (z4w z07 z1q (z24 z07)) (z1j (z03 (z0h ca_AR (z03 (z0t z30 z07 z07) (z03 z07 z0b))) z0b))) (z4w z07 (z24 (z0t z30 z07 z0j)) z1q)) z0b))))))),fun ws n Q h=>?_⟩)
 ·obtain ⟨rs,B,rfl,_⟩:=h
  rfl
 obtain ⟨rs,B,rfl,hn,hl,hb,hB5,hB,q⟩:=h
 have ml:(rs.map sh).length=rs.length:=List.length_map ..
 refine zgm ⟨z6j _,rfl,zcg rs⟩ ?_
 rw[zcf]
 by_cases h0:rs=[]
 ·rw[decide_eq_true h0]
  exact q [1] _ (by omega) (by simp) (fun r h=>by rw[List.mem_singleton.mp h];exact (show Bs 5 (1:Rat) from ⟨by decide,by decide⟩).mono (by omega)) (by decide +kernel)
 rw[decide_eq_false h0]
 have hpos:0<rs.length:=List.length_pos_iff.mpr h0
 refine r_lenT ?_
 rw[ml]
 refine z3q (by first|decide|omega) (by first|decide|omega) (by first|decide|omega) fun a a0 a1=>?_
 obtain ⟨k,rfl⟩:∃k:Nat,a=(k:Int):=⟨a.toNat,by omega⟩
 have hk:k<rs.length:=by omega
 refine r_ixT (z9w hk) ?_
 have bx:=hb _ (z8a hk)
 have dx:=den_pos (rs.getD k 0)
 refine znh rfl ?_
 repeat (walk_at "zz")
 refine z3q (by first|decide|omega) (by first|decide|omega) (by first|decide|omega) fun b b0 b1=>?_
 obtain ⟨v,ev,m,rfl,hm⟩:=z8l (P:=fun d=>∃m,d=PyData.int m∧Bt B m) (xs:=[PyData.int ((rs.getD k 0).den:Int),.int (0-((rs.getD k 0).den:Int))]) b0 (by show b<2;omega) (by
  intro d hd
  simp only[List.mem_cons,List.not_mem_nil,or_false]at hd
  rcases hd with rfl|rfl
  ·exact ⟨_,rfl,bx.d⟩
  ·exact ⟨_,rfl,by rw[Int.zero_sub];exact bx.d.neg⟩)
 refine r_ixL ev ?_
 repeat (walk_at "zz")
 refine ⟨_,_,rfl,dx,bx.d.mono (by omega),?_⟩
 rw[z56]
 refine z42 (by rw[List.length_map,List.length_take];show _+1≤_;omega) ?_
 repeat (walk_at "zz")
 rw[show ((k:Int)+1)=((k+1:Nat):Int) by omega,z37]
 refine z42 (by rw[List.length_append,List.length_map,List.length_map,List.length_take,List.length_drop];show _+1+_≤_;omega) ?_
 refine ⟨rs.take k++[Rat.divInt ((rs.getD k 0).num+m) ((rs.getD k 0).den:Int)]++rs.drop (k+1),.inl ?_,?_,?_⟩
 ·rw[List.map_append,List.map_append];rfl
 ·rw[List.length_append,List.length_append,List.length_take,List.length_drop];show _+1+_≤_;omega
 refine q _ _ (by omega) ?_ (fun r h=>?_) (z39 _)
 ·refine Nat.le_trans (z38 _) ?_
  rw[List.length_append,List.length_append,List.length_take,List.length_drop];show _+1+_≤_;omega
 ·have h:=z7o h
  rcases List.mem_append.mp h with h|h
  ·rcases List.mem_append.mp h with h|h
   ·exact (hb r (List.mem_of_mem_take h)).mono (by omega)
   ·rw[List.mem_singleton.mp h];exact Bs.divInt ((bx.n.add hm).mono (by omega)) (bx.d.mono (by omega)) (by omega)
  ·exact (hb r (List.mem_of_mem_drop h)).mono (by omega)
noncomputable def sp_Ak (K:W.Frag):Sp:=fun vs H Q _=>∃(t:V) (n:Nat) (m:Int),vs=[t,.int m]∧Fd H t n∧n<2^20∧10^6≤m∧m≤10^30∧∀r H',0≤r→r<m+10^6→Fd H' t (n+10)→SF t H H'→Q (.int r) H'
theorem sc_Ak:FnScope ["_law_feed_here","_law_most","_law_way"] ["_law_feed_here","_law_most"] (z08 s_Ak):=⟨rfl,rfl,rfl,by decide +kernel,rfl,by decide +kernel,by decide +kernel⟩
theorem d_Ak (T:Txt K mg):Def P w K mg base "_law_far" ["_law_feed_here","_law_most"] 2 (sp_Ak K):=by
 refine Def.mkq T.f_Ak sc_Ak (fun vs H Q E h=>?_) (fun _ _ _ _ _ _ us hl=>match us,hl with|[_,_],_=>rfl) (fun f cdv A outer s H vs Q E hr h=>?_)
 ·obtain ⟨t,n,m,rfl,_⟩:=h
  rfl
 obtain ⟨t,n,m,rfl,T0,hn,m0,m1,q⟩:=h
 refine ⟨_, (z04 (z0g (i := 2) sc_Ak.nd rfl (by walk_at "lc") (z09 (d_AB T) hr (z00 (qpv 0) (z00 z02 z01))))
   (z04 (z1a (z0k z6d (qpv 2) z02 (z0s _)) (z05 (z0d (z0c z20 (z0c z20 (qpv 1) z02) (z0c z5a (z09 (d_AB T) hr (z00 (qpv 0) (z00 z02 z01))) (z09 (d_AB T) hr (z00 (qpv 0) (z00 z02 z01))))))) z0r)
   (z04 (z1a (z0k z6d (qpv 2) z02 (z0s _)) (z05 (z0d (z0c z27 (z0c z5a (z09 (d_AB T) hr (z00 (qpv 0) (z00 (z0c z43 z02 z02) z01))) (z0c z6c (qpv 1) (z0c z43 z02 z02))) (z09 (d_AB T) hr (z00 (qpv 0) (z00 (z0c z43 z02 z02) z01)))))) z0r)
   (z05 (z0d (z09 (d_AB T) hr (z00 (qpv 0) (z00 z02 z01)))))))),?_⟩
 refine ⟨_,rfl,t,n,3,rfl,T0,by omega,by decide,by decide,fun way H1 w0 w1 T1 S1=>?_⟩
 refine ⟨_,rfl,rfl,_,rfl,?_⟩
 refine z7g (fun _=>?_) (fun _=>?_)
 ·refine ⟨_,rfl,_,_,rfl,rfl,_,rfl,t,_,1000,rfl,T1,by omega,by decide,by decide,fun d H2 d0 d1 T2 S2=>?_⟩
  refine ⟨_,rfl,t,_,2,rfl,T2,by omega,by decide,by decide,fun e H3 e0 e1 T3 S3=>⟨_,_,rfl,rfl,.inl ⟨by omega,by omega⟩,_,_,rfl,rfl,?_⟩⟩
  have h1:0≤d*e∧d*e≤d:=by
   rcases (show e=0∨e=1 by omega) with rfl|rfl<;>omega
  exact q (m-1-d*e) _ (by omega) (by omega) (T3.mono (by omega)) (S1.trans (S2.trans S3))
 refine ⟨_,rfl,rfl,_,rfl,?_⟩
 refine z7g (fun _=>?_) (fun _=>?_)
 ·refine ⟨_,rfl,_,_,rfl,rfl,⟨by decide,by decide,by decide⟩,t,_,10^6,rfl,T1,by omega,by decide,by decide,fun d H2 d0 d1 T2 S2=>?_⟩
  refine ⟨_,rfl,_,_,rfl,rfl,⟨by decide,by decide,by decide⟩,_,_,rfl,rfl,⟨by decide,by decide⟩,_,_,rfl,rfl,.inl ⟨by omega,by omega⟩,?_⟩
  refine ⟨_,rfl,_,_,rfl,rfl,⟨by decide,by decide,by decide⟩,t,_,10^6,rfl,T2,by omega,by decide,by decide,fun e H3 e0 e1 T3 S3=>⟨_,_,rfl,rfl,?_⟩⟩
  have h0:0≤m/10^6:=by omega
  have h1:0≤d*(m/10^6):=Int.mul_nonneg d0 h0
  have h2:d*(m/10^6)≤10^6*(m/10^6):=Int.mul_le_mul_of_nonneg_right (by omega) h0
  exact q (d*(m/10^6)+e) _ (by omega) (by omega) (T3.mono (by omega)) (S1.trans (S2.trans S3))
 refine ⟨_,rfl,t,_,1000,rfl,T1,by omega,by decide,by decide,fun d H2 d0 d1 T2 S2=>?_⟩
 exact q d _ d0 (by omega) (T2.mono (by omega)) (S1.trans S2)
noncomputable def zp_Ak:ZSp:=fun ws n Q=>∃m:Int,ws=[.t 2,.d (.int m)]∧n<2^20∧10^6≤m∧m≤10^30∧∀r,0≤r→r<m+10^6→Q (.d (.int r)) (n+10)
theorem ca_Ak:CallOk K (sp_Ak K) zp_Ak:=fun vs H Q ⟨M,ws,n,Qd,ok,r,⟨m,e,h1,h2,h3,q⟩,k⟩=>by
 subst e
 obtain ⟨v1,v2,rfl,r1,r2⟩:=r.inv2
 obtain ⟨rfl,hk⟩:=r1
 rw[r2.int_inv]
 exact ⟨M.val,n,m,rfl,M.tp2 hk ok,h1,h2,h3,fun r H' a b T S=>k.dvF hk ok S T (.int r) rfl (q r a b)⟩
noncomputable def sp_As (K:W.Frag):Sp:=fun vs H Q _=>∃(v:V) (d:PyData),vs=[v]∧Dv K H v d∧Q (.bl (aSh d)) H
theorem sc_As:FnScope ["thing","part"] ["thing"] (z08 s_As):=⟨rfl,rfl,rfl,by decide +kernel,rfl,by decide +kernel,by decide +kernel⟩
theorem d_As (T:Txt K mg):Def P w K mg base "are_shares" ["thing"] 3 (sp_As K):=by
 refine Def.mkq T.f_As sc_As (fun vs H Q E h=>?_) (fun _ _ _ _ _ _ us hl=>match us,hl with|[_],_=>rfl) (fun f cdv A outer s H vs Q E hr h=>?_)
 ·obtain ⟨v,d,rfl,_⟩:=h
  rfl
 obtain ⟨v,d,rfl,hd,q⟩:=h
 refine ⟨_, (z04 (z1a (z2y (z25 (z0i z4t rfl T.b_isinstance z2a (z00 (qpv 0) (z00 (z4n (v := .ty "tuple") rfl T.b_tuple z2i rfl) z01))))) (z05 (z0d z1x)) z0r)
   (z04 (z1b PassesOwn.never rfl (z65 (qpv 0)) (z0l (i:=1) sc_As.nd rfl (by walk_at "lc")) (z05 (z1a (z2y (z25 (z09 (d_Az T) hr (z00 (qpv 1) z01)))) (z05 (z0d z1x)) z0r)))
   (z05 (z0d z1x)))),?_⟩
 refine ⟨_,rfl,_,z4f d,"tuple",z2x d,rfl,hd.ty,zeu d,_,rfl,?_⟩
 by_cases ht:z2x d=true
 case neg=>
  have ht':z2x d=false:=by simpa using ht
  rw[ht']
  refine z9z ?_
  rw[zm5 ht']at q;exact q
 rw[ht]
 refine z8o ?_
 obtain ⟨ds,rfl⟩:=zc5 ht
 obtain ⟨p,xs,rfl,tp,da⟩:=hd.tup_inv
 have hlen:=da.length
 have q':Q (.bl (ds.all shB)) H:=q
 refine ⟨_,rfl,p,rfl,⟨_,tp⟩,?_⟩
 refine z8c (K:=K) (a:=p) (xs:=xs) (fun i σ H2=>H2=H∧∃z,σ=[some (.ref p),z]∧(ds.take i).all shB=true) ⟨rfl,none,rfl,rfl⟩ (fun i σ H2 _ ⟨e,_⟩=>e▸tp) ?_ ?_
 ·rintro i x σ H2 hx ⟨rfl,z,rfl,ha⟩
  obtain ⟨e,he,de⟩:=da.at hx
  refine ⟨_,rfl,x,e,rfl,de,_,rfl,?_⟩
  by_cases hs:shB e=true
  ·rw[hs]
   refine z8o ?_
   refine ⟨rfl,_,rfl,?_⟩
   rw[zdg he,List.all_append,ha]
   simp[hs]
  ·have hs':shB e=false:=by simpa using hs
   rw[hs']
   refine z9z ?_
   have:ds.all shB=false:=by
    rw[Bool.eq_false_iff]
    intro h
    rw[List.all_eq_true]at h
    have:=h e (List.mem_of_getElem? he)
    rw[hs']at this;cases this
   rw[this]at q';exact q'
 ·rintro σ H2 ⟨rfl,z,rfl,ha⟩
  rw[hlen,List.take_length]at ha
  rw[ha]at q';exact q'
noncomputable def sp_AE (K:W.Frag):Sp:=fun vs H Q _=>∃(v1 v2:V) (x y:Rat),vs=[v1,v2]∧Dv K H v1 (sh x)∧Dv K H v2 (sh y)∧Bs 4400 x∧Bs 4400 y∧∀v H',Same H H'→Dv K H' v (sh (x+y))→Q v H'
theorem sc_AE:FnScope ["one","other"] ["one","other"] (z08 s_AE):=⟨rfl,rfl,rfl,by decide +kernel,rfl,by decide +kernel,by decide +kernel⟩
theorem d_AE (T:Txt K mg):Def P w K mg base "plus" ["one","other"] 3 (sp_AE K):=by
 refine Def.mkq T.f_AE sc_AE (fun vs H Q E h=>?_) (fun _ _ _ _ _ _ us hl=>match us,hl with|[_,_],_=>rfl) (fun f cdv A outer s H vs Q E hr h=>?_)
 ·obtain ⟨v1,v2,x,y,rfl,_⟩:=h
  rfl
 obtain ⟨v1,v2,x,y,rfl,h1,h2,b1,b2,q⟩:=h
 refine ⟨_,(z05 (z0d (z09 (d_Ay T) hr (z00 (z0c z27 (z0c z26 (z0o ix_tup (qpv 0) z02 (fun _ _=>rfl)) (z0o ix_tup (qpv 1) z02 (fun _ _=>rfl))) (z0c z26 (z0o ix_tup (qpv 1) z02 (fun _ _=>rfl)) (z0o ix_tup (qpv 0) z02 (fun _ _=>rfl)))) (z00 (z0c z26 (z0o ix_tup (qpv 0) z02 (fun _ _=>rfl)) (z0o ix_tup (qpv 1) z02 (fun _ _=>rfl))) z01))))),?_⟩
 obtain ⟨p1,rfl,t1⟩:=h1.sh_inv
 obtain ⟨p2,rfl,t2⟩:=h2.sh_inv
 have hx:=den_pos x
 have hy:=den_pos y
 have hxy:=Int.mul_pos hx hy
 refine ⟨_,rfl,p1,_,_,_,rfl,rfl,t1,at0,_,rfl,p2,_,_,_,rfl,rfl,t2,at1,_,_,rfl,rfl,b1.n.cmul b2.d,?_⟩
 refine ⟨_,rfl,p2,_,_,_,rfl,rfl,t2,at0,_,rfl,p1,_,_,_,rfl,rfl,t1,at1,_,_,rfl,rfl,b2.n.cmul b1.d,_,_,rfl,rfl,?_⟩
 refine ⟨_,rfl,p1,_,_,_,rfl,rfl,t1,at1,_,rfl,p2,_,_,_,rfl,rfl,t2,at1,_,_,rfl,rfl,b1.d.cmul b2.d,?_⟩
 refine ⟨_,_,rfl,by omega,(b1.d.mul b2.d).mono (by decide),fun v H' s e=>q v H' s ?_⟩
 rw[zg0];exact e
noncomputable def sp_A6 (K:W.Frag):Sp:=fun vs H Q _=>∃(v1 v2:V) (x y:Rat),vs=[v1,v2]∧Dv K H v1 (sh x)∧Dv K H v2 (sh y)∧Bs 4400 x∧Bs 4400 y∧∀v H',Same H H'→Dv K H' v (sh (x-y))→Q v H'
theorem sc_A6:FnScope ["one","other"] ["one","other"] (z08 s_A6):=⟨rfl,rfl,rfl,by decide +kernel,rfl,by decide +kernel,by decide +kernel⟩
theorem d_A6 (T:Txt K mg):Def P w K mg base "minus" ["one","other"] 3 (sp_A6 K):=by
 refine Def.mkq T.f_A6 sc_A6 (fun vs H Q E h=>?_) (fun _ _ _ _ _ _ us hl=>match us,hl with|[_,_],_=>rfl) (fun f cdv A outer s H vs Q E hr h=>?_)
 ·obtain ⟨v1,v2,x,y,rfl,_⟩:=h
  rfl
 obtain ⟨v1,v2,x,y,rfl,h1,h2,b1,b2,q⟩:=h
 refine ⟨_,(z05 (z0d (z09 (d_Ay T) hr (z00 (z0c z20 (z0c z26 (z0o ix_tup (qpv 0) z02 (fun _ _=>rfl)) (z0o ix_tup (qpv 1) z02 (fun _ _=>rfl))) (z0c z26 (z0o ix_tup (qpv 1) z02 (fun _ _=>rfl)) (z0o ix_tup (qpv 0) z02 (fun _ _=>rfl)))) (z00 (z0c z26 (z0o ix_tup (qpv 0) z02 (fun _ _=>rfl)) (z0o ix_tup (qpv 1) z02 (fun _ _=>rfl))) z01))))),?_⟩
 obtain ⟨p1,rfl,t1⟩:=h1.sh_inv
 obtain ⟨p2,rfl,t2⟩:=h2.sh_inv
 have hx:=den_pos x
 have hy:=den_pos y
 have hxy:=Int.mul_pos hx hy
 refine ⟨_,rfl,p1,_,_,_,rfl,rfl,t1,at0,_,rfl,p2,_,_,_,rfl,rfl,t2,at1,_,_,rfl,rfl,b1.n.cmul b2.d,?_⟩
 refine ⟨_,rfl,p2,_,_,_,rfl,rfl,t2,at0,_,rfl,p1,_,_,_,rfl,rfl,t1,at1,_,_,rfl,rfl,b2.n.cmul b1.d,_,_,rfl,rfl,?_⟩
 refine ⟨_,rfl,p1,_,_,_,rfl,rfl,t1,at1,_,rfl,p2,_,_,_,rfl,rfl,t2,at1,_,_,rfl,rfl,b1.d.cmul b2.d,?_⟩
 refine ⟨_,_,rfl,by omega,(b1.d.mul b2.d).mono (by decide),fun v H' s e=>q v H' s ?_⟩
 rw[zmt];exact e
noncomputable def sp_AD (K:W.Frag):Sp:=fun vs H Q _=>∃(v1 v2:V) (x y:Rat),vs=[v1,v2]∧Dv K H v1 (sh x)∧Dv K H v2 (sh y)∧Bs 4400 x∧Bs 4400 y∧∀v H',Same H H'→Dv K H' v (sh (x*y))→Q v H'
theorem sc_AD:FnScope ["one","other"] ["one","other"] (z08 s_AD):=⟨rfl,rfl,rfl,by decide +kernel,rfl,by decide +kernel,by decide +kernel⟩
theorem d_AD (T:Txt K mg):Def P w K mg base "times" ["one","other"] 3 (sp_AD K):=by
 refine Def.mkq T.f_AD sc_AD (fun vs H Q E h=>?_) (fun _ _ _ _ _ _ us hl=>match us,hl with|[_,_],_=>rfl) (fun f cdv A outer s H vs Q E hr h=>?_)
 ·obtain ⟨v1,v2,x,y,rfl,_⟩:=h
  rfl
 obtain ⟨v1,v2,x,y,rfl,h1,h2,b1,b2,q⟩:=h
 refine ⟨_,(z05 (z0d (z09 (d_Ay T) hr (z00 (z0c z26 (z0o ix_tup (qpv 0) z02 (fun _ _=>rfl)) (z0o ix_tup (qpv 1) z02 (fun _ _=>rfl))) (z00 (z0c z26 (z0o ix_tup (qpv 0) z02 (fun _ _=>rfl)) (z0o ix_tup (qpv 1) z02 (fun _ _=>rfl))) z01))))),?_⟩
 obtain ⟨p1,rfl,t1⟩:=h1.sh_inv
 obtain ⟨p2,rfl,t2⟩:=h2.sh_inv
 have hx:=den_pos x
 have hy:=den_pos y
 have hxy:=Int.mul_pos hx hy
 refine ⟨_,rfl,p1,_,_,_,rfl,rfl,t1,at0,_,rfl,p2,_,_,_,rfl,rfl,t2,at0,_,_,rfl,rfl,b1.n.cmul b2.n,?_⟩
 refine ⟨_,rfl,p1,_,_,_,rfl,rfl,t1,at1,_,rfl,p2,_,_,_,rfl,rfl,t2,at1,_,_,rfl,rfl,b1.d.cmul b2.d,?_⟩
 refine ⟨_,_,rfl,by omega,(b1.d.mul b2.d).mono (by decide),fun v H' s e=>q v H' s ?_⟩
 rw[zen];exact e
noncomputable def sp_Ar (K:W.Frag):Sp:=fun vs H Q _=>∃(t:V) (n:Nat),vs=[t]∧Fd H t n∧n<2^29∧∀v x H',Bs 40 x→Dv K H' v (sh x)→Fd H' t (n+3)→SF t H H'→Q v H'
theorem sc_Ar:FnScope ["_law_feed_here","_law_way"] ["_law_feed_here"] (z08 s_Ar):=⟨rfl,rfl,rfl,by decide +kernel,rfl,by decide +kernel,by decide +kernel⟩
theorem d_Ar (T:Txt K mg):Def P w K mg base "_law_share" ["_law_feed_here"] 3 (sp_Ar K):=by
 refine Def.mkq T.f_Ar sc_Ar (fun vs H Q E h=>?_) (fun _ _ _ _ _ _ us hl=>match us,hl with|[_],_=>rfl) (fun f cdv A outer s H vs Q E hr h=>?_)
 ·obtain ⟨t,n,rfl,_⟩:=h
  rfl
 obtain ⟨t,n,rfl,T0,hn,q⟩:=h
 refine ⟨_, (z04 (z0g (i := 1) sc_Ar.nd rfl (by walk_at "lc") (z09 (d_AB T) hr (z00 (qpv 0) (z00 z02 z01))))
   (z04 (z1a (z0k z6d (qpv 1) z02 (z0s _)) (z05 (z0d (z09 (d_AR T) hr (z00 (z0c z20 (z0c z20 (z0c z43 z02 z02) z02) (z09 (d_AB T) hr (z00 (qpv 0) (z00 z02 z01)))) (z00 (z0c z27 z02 (z09 (d_AB T) hr (z00 (qpv 0) (z00 z02 z01)))) z01))))) z0r)
   (z04 (z1a (z0k z6d (qpv 1) z02 (z0s _)) (z05 (z0d (z09 (d_AR T) hr (z00 (z0c z20 (z09 (d_AB T) hr (z00 (qpv 0) (z00 z02 z01))) z02) (z00 (z0c z20 (z0c z20 (z0c z43 z02 z02) z02) (z09 (d_AB T) hr (z00 (qpv 0) (z00 z02 z01)))) z01))))) z0r)
   (z05 (z0d (z09 (d_AK T) hr (z00 (qpv 0) z01))))))),?_⟩
 have e12:(10:Int)^Int.toNat 12=1000000000000:=by decide
 refine ⟨_,rfl,t,n,4,rfl,T0,by omega,by decide,by decide,fun way H1 w0 w1 T1 S1=>?_⟩
 refine ⟨_,rfl,rfl,_,rfl,?_⟩
 refine z7g (fun _=>?_) (fun _=>?_)
 ·refine ⟨_,_,rfl,rfl,⟨by decide,by decide,by decide⟩,_,_,rfl,rfl,_,rfl,t,_,9,rfl,T1,by omega,by decide,by decide,fun d H2 d0 d1 T2 S2=>⟨_,_,rfl,rfl,?_⟩⟩
  refine ⟨_,rfl,t,_,12,rfl,T2,by omega,by decide,by decide,fun e H3 e0 e1 T3 S3=>⟨_,_,rfl,rfl,?_⟩⟩
  have b1:Bt 40 (10^12-1-d):=Bt.of_lt (10^12) (by omega) (by omega) (by decide)
  have b2:Bt 40 (1+e):=Bt.of_lt 32 (by omega) (by omega) (by decide)
  exact ⟨_,_,rfl,by omega,b2.mono (by decide),fun v H4 s4 d4=>q v _ H4 (Bs.divInt b1 b2 (by omega)) d4 (T3.same s4) (S1.trans (S2.trans (S3.trans s4.sf)))⟩
 refine ⟨_,rfl,rfl,_,rfl,?_⟩
 refine z7g (fun _=>?_) (fun _=>?_)
 ·refine ⟨_,rfl,t,_,199,rfl,T1,by omega,by decide,by decide,fun d H2 d0 d1 T2 S2=>⟨_,_,rfl,rfl,?_⟩⟩
  refine ⟨_,_,rfl,rfl,⟨by decide,by decide,by decide⟩,_,_,rfl,rfl,_,rfl,t,_,9,rfl,T2,by omega,by decide,by decide,fun e H3 e0 e1 T3 S3=>⟨_,_,rfl,rfl,?_⟩⟩
  have b1:Bt 40 (d-99):=Bt.of_lt 256 (by omega) (by omega) (by decide)
  have b2:Bt 40 (10^12-1-e):=Bt.of_lt (10^12) (by omega) (by omega) (by decide)
  exact ⟨_,_,rfl,by omega,b2.mono (by decide),fun v H4 s4 d4=>q v _ H4 (Bs.divInt b1 b2 (by omega)) d4 (T3.same s4) (S1.trans (S2.trans (S3.trans s4.sf)))⟩
 refine ⟨_,rfl,t,_,rfl,T1,by omega,fun v x H2 bx dx T2 S2=>?_⟩
 exact q v x H2 (bx.mono (by decide)) dx T2 (S1.trans S2)
noncomputable def sp_AI (K:W.Frag):Sp:=fun vs H Q _=>∃(p:Addr) (ws:List V) (rs:List Rat) (v:V) (x:Rat) (N n:Nat),vs=[.ref p,v]∧SqT K H p ws∧DvAll K H ws (rs.map sh)∧Dv K H v (sh x)∧Bs n x∧(∀r∈rs,Bs 4400 r)∧(∀i,Bs N (hor x (rs.drop i)))∧N+n≤4400∧∀v' H',Same H H'→Dv K H' v' (sh (hor x rs))→Q v' H'
theorem sc_AI:FnScope ["_law_poly_here","_law_share_here","_law_found","_law_one"] ["_law_poly_here","_law_share_here"] (z08 s_AI):=⟨rfl,rfl,rfl,by decide +kernel,rfl,by decide +kernel,by decide +kernel⟩
theorem d_AI (T:Txt K mg):Def P w K mg base "_law_value" ["_law_poly_here","_law_share_here"] 3 (sp_AI K):=by
 refine Def.mkq T.f_AI sc_AI (fun vs H Q E h=>?_) (fun _ _ _ _ _ _ us hl=>match us,hl with|[_,_],_=>rfl) (fun f cdv A outer s H vs Q E hr h=>?_)
 ·obtain ⟨p,ws,rs,v,x,N,n,rfl,_⟩:=h
  rfl
 obtain ⟨p,ws,rs,v,x,N,n,rfl,hT,hA,hx,bx,hb,bh,hNn,q⟩:=h
 refine ⟨_, (z04 (z0g (i := 2) sc_AI.nd rfl (by walk_at "lc") (z0n (z00 z02 (z00 z02 z01))))
   (z04 (z1b PassesOwn.never rfl (z65 (zbr (K:=K) rfl (qpv 0) (z19 (z3i z3g z02)))) (z0l (i:=3) sc_AI.nd rfl (by walk_at "lc")) (z05 (z0g (i:=2) sc_AI.nd rfl (by walk_at "lc") (z09 (d_AL T) hr (z00 (z09 (d_AH T) hr (z00 (qpv 2) (z00 (qpv 1) z01))) (z00 (qpv 3) z01))))))
   (z05 (z0d (qpv 2))))),?_⟩
 have wl:ws.length=rs.length:=by have:=hA.length;simpa using this
 refine ⟨len2,fun p0 f0=>?_⟩
 have q0:=z0a f0 (.tup [.int 0,.int 1])
 have z0:=Dv.sh_of (K:=K) (q:=0) (H:=upd H p0 (.tup [.int 0,.int 1])) (p:=p0) z06 rfl rfl
 refine ⟨_,rfl,_,rfl,_,rfl,rfl,p,ws,rfl,q0.seqT hT,fun p1 f1=>?_⟩
 have q1:=z0a f1 (.tup ws.reverse)
 refine ⟨p1,rfl,⟨_,SqT.of z06⟩,?_⟩
 have s1:=q0.trans q1
 have hA1:=hA.mono s1
 have hx1:=hx.mono s1
 have z1:=z0.mono q1
 have t1:SqT K (upd (upd H p0 (.tup [.int 0,.int 1])) p1 (.tup ws.reverse)) p1 ws.reverse:=SqT.of z06
 generalize upd (upd H p0 (.tup [.int 0,.int 1])) p1 (.tup ws.reverse)=G at q1 s1 hA1 hx1 z1 t1
 refine z8c (K:=K) (a:=p1) (xs:=ws.reverse) (fun i σ H2=>∃(t:V) (z:Option V),σ=[some (.ref p),some v,some t,z]∧Same G H2∧Dv K H2 t (sh (hor x (rs.drop (rs.length-i))))) ⟨_,none,rfl,Same.refl _,by rw[Nat.sub_zero,List.drop_length];exact z1⟩ (fun i σ H2 _ ⟨_,_,_,s,_⟩=>s.seqT t1) ?_ ?_
 ·rintro i w σ H2 hw ⟨t,z,rfl,s2,d2⟩
  have hi:i<ws.length:=by
   have:=(List.getElem?_eq_some_iff.mp hw).1
   rwa [List.length_reverse]at this
  rw[List.getElem?_reverse hi]at hw
  obtain ⟨hj,dw⟩:=hA1.share hw
  have eh:hor x (rs.drop (rs.length-(i+1)))=hor x (rs.drop (rs.length-i))*x+rs.getD (ws.length-1-i) 0:=by
   rw[show rs.length-(i+1)=ws.length-1-i by omega,List.drop_eq_getElem_cons hj,show ws.length-1-i+1=rs.length-i by omega,List.getD_eq_getElem?_getD,List.getElem?_eq_getElem hj]
   rfl
  refine ⟨_,rfl,_,rfl,_,_,_,_,rfl,d2,hx1.mono s2,(bh _).mono (by omega),bx.mono (by omega),fun v3 H3 s3 d3=>?_⟩
  refine ⟨_,rfl,_,_,_,_,rfl,d3,(dw.mono s2).mono s3,((bh _).mul bx).mono (by omega),hb _ (z18 hj),fun v4 H4 s4 d4=>?_⟩
  exact ⟨_,_,rfl,s2.trans (s3.trans s4),by rw[eh];exact d4⟩
 ·rintro σ H2 ⟨t,z,rfl,s2,d2⟩
  rw[List.length_reverse,wl,Nat.sub_self,List.drop_zero]at d2
  exact ⟨_,rfl,q _ _ (s1.trans s2) d2⟩
noncomputable def zp_AI:ZSp:=fun ws n Q=>∃(rs:List Rat) (x:Rat) (N b:Nat),ws=[.d (pl rs),.d (sh x)]∧Bs b x∧(∀r∈rs,Bs 4400 r)∧(∀i,Bs N (hor x (rs.drop i)))∧N+b≤4400∧Q (.d (sh (hor x rs))) n
theorem ca_AI:CallOk K (sp_AI K) zp_AI:=fun vs H Q ⟨M,ws,n,Qd,ok,r,⟨rs,x,N,b,e,h1,h2,h3,h4,q⟩,k⟩=>by
 subst e
 obtain ⟨v1,v2,rfl,r1,r2⟩:=r.inv2
 obtain ⟨p,ws1,rfl,tp,da⟩:=r1.pl_inv
 exact ⟨p,ws1,rs,v2,x,N,b,rfl,tp,da,r2.dv,h1,h2,h3,h4,fun v' H' s d=>k.dvS ok s d (z41 _) q⟩
noncomputable def sp_AN (K:W.Frag):Sp:=fun vs H Q _=>∃(p:Addr) (ws:List V) (rs:List Rat) (v1:V) (x:Rat),vs=[.ref p,v1]∧SqT K H p ws∧DvAll K H ws (rs.map sh)∧rs.length≤100∧Dv K H v1 (sh x)∧Bs 2000 x∧(∀r∈rs,Bs 4400 r)∧(∀i t,Bs 2000 (z16 x 1 (rs.drop i) t))∧∀p' ws' H',Same H H'→SqT K H' p' ws'→DvAll K H' ws' ((mvL x rs).map sh)→Q (.ref p') H'
theorem sc_AN:FnScope ["_law_poly_here","_law_share_here","_law_found","_law_one","_law_longer","_law_k"] ["_law_poly_here","_law_share_here"] (z08 s_AN):=⟨rfl,rfl,rfl,by decide +kernel,rfl,by decide +kernel,by decide +kernel⟩
theorem d_AN (T:Txt K mg):Def P w K mg base "_law_moved" ["_law_poly_here","_law_share_here"] 3 (sp_AN K):=by
 refine Def.mkq T.f_AN sc_AN (fun vs H Q E h=>?_) (fun _ _ _ _ _ _ us hl=>match us,hl with|[_,_],_=>rfl) (fun f cdv A outer s H vs Q E hr h=>?_)
 ·obtain ⟨p,ws,rs,v1,x,rfl,_⟩:=h
  rfl
 obtain ⟨p,ws,rs,v1,x,rfl,hT,hA,hlen,hx,bx,hb,bf,q⟩:=h
 refine ⟨_, (z04 (z0g (i := 2) sc_AN.nd rfl (by walk_at "lc") (z1c z01))
   (z04 (z1b PassesOwn.never rfl (z65 (zbr (K:=K) rfl (qpv 0) (z19 (z3i z3g z02)))) (z0l (i:=3) sc_AN.nd rfl (by walk_at "lc")) (z04 (z0g (i:=4) sc_AN.nd rfl (by walk_at "lc") (z0c zoo (z1c (z00 (z0n (z00 z02 (z00 z02 z01))) z01)) (qpv 2)))
   (z04 (z1b PassesOwn.never rfl (z22 rfl T.b_range (z00 (z0i z0p rfl T.b_len z1v (z00 (qpv 2) z01)) z01)) (z0l (i:=5) sc_AN.nd rfl (by walk_at "lc")) (z05 (z2s (z09 (d_AL T) hr (z00 (z0o ix_list (qpv 4) (qpv 5) (fun _ _=>rfl)) (z00 (z09 (d_AH T) hr (z00 (z0o ix_list (qpv 2) (qpv 5) (fun _ _=>rfl)) (z00 (qpv 1) z01))) z01))) (z49 (qpv 4) (qpv 5) z3b))))
   (z04 (z2s (z09 (d_AL T) hr (z00 (z0o ix_list (qpv 4) z02 (fun _ _=>rfl)) (z00 (qpv 3) z01))) (z49 (qpv 4) z02 z3b))
   (z05 (z0g (i:=2) sc_AN.nd rfl (by walk_at "lc") (qpv 4)))))))
   (z05 (z0d (z09 (d_AU T) hr (z00 (qpv 2) z01)))))),?_⟩
 have hsz:sizeLine=16777216:=sizeLine_eq
 have wl:ws.length=rs.length:=by have:=hA.length;simpa using this
 refine ⟨zmc,fun l0 f0=>?_⟩
 have q0:=z0a f0 (.lst [])
 refine ⟨_,rfl,_,rfl,_,rfl,rfl,p,ws,rfl,q0.seqT hT,fun p1 f1=>?_⟩
 have q1:=z0a f1 (.tup ws.reverse)
 refine ⟨p1,rfl,⟨_,SqT.of z06⟩,?_⟩
 have s1:=q0.trans q1
 have hA1:=hA.mono s1
 have hx1:=hx.mono s1
 have z1:upd (upd H l0 (.lst [])) p1 (.tup ws.reverse) l0=some (.lst []):=q1 _ _ z06
 have t1:SqT K (upd (upd H l0 (.lst [])) p1 (.tup ws.reverse)) p1 ws.reverse:=SqT.of z06
 generalize upd (upd H l0 (.lst [])) p1 (.tup ws.reverse)=G at q1 s1 hA1 hx1 z1 t1
 refine z8c (K:=K) (a:=p1) (xs:=ws.reverse) (fun i σ H2=>∃(l:Addr) (us:List V) (y1 y2 y3:Option V),σ=[some (.ref p),some v1,some (.ref l),y1,y2,y3]∧Same G H2∧H2 l=some (.lst us)∧DvAll K H2 us ((zd8 x 1 (rs.drop (rs.length-i))).map sh)) ⟨l0,[],none,none,none,rfl,Same.refl _,z1,by rw[Nat.sub_zero,List.drop_length];exact .nil⟩ (fun i σ H2 _ ⟨_,_,_,_,_,_,s,_⟩=>s.seqT t1) ?_ ?_
 ·rintro i w σ H2 hw ⟨l,us,y1,y2,y3,rfl,s2,h2,du⟩
  have hi:i<ws.length:=by
   have:=(List.getElem?_eq_some_iff.mp hw).1
   rwa [List.length_reverse]at this
  rw[List.getElem?_reverse hi]at hw
  obtain ⟨hj,dw⟩:=hA1.share hw
  have dl:(rs.drop (rs.length-i)).length=i:=by rw[List.length_drop];omega
  have ul:us.length=i:=by have:=du.length;rw[List.length_map]at this;unfold zd8 at this;rw[z0v,dl]at this;exact this
  have bF:=bf (rs.length-i)
  have eL:zd8 x 1 (rs.drop (rs.length-(i+1)))=tab (i+1) (fun t=>z16 x 1 (rs.drop (rs.length-i)) t*x+(if t=0 then rs.getD (ws.length-1-i) 0 else z16 x 1 (rs.drop (rs.length-i)) (t-1)*1)):=by
   have e:rs.drop (rs.length-(i+1))=rs.getD (ws.length-1-i) 0::rs.drop (rs.length-i):=by
    rw[show rs.length-(i+1)=ws.length-1-i by omega,List.drop_eq_getElem_cons hj,show ws.length-1-i+1=rs.length-i by omega,List.getD_eq_getElem?_getD,List.getElem?_eq_getElem hj]
    rfl
   rw[e]
   unfold zd8
   rw[List.length_cons,dl];rfl
  have fout:z16 x 1 (rs.drop (rs.length-i)) i=0:=z62 x 1 _ _ (by rw[dl];omega)
  have eU:zd8 x 1 (rs.drop (rs.length-i))=tab i (z16 x 1 (rs.drop (rs.length-i))):=by unfold zd8;rw[dl]
  rw[eU]at du
  generalize z16 x 1 (rs.drop (rs.length-i))=F at bF eL fout du
  refine ⟨len2,fun p2 f2=>?_⟩
  have q2:=z0a f2 (.tup [.int 0,.int 1])
  have dz:Dv K (upd H2 p2 (.tup [.int 0,.int 1])) (.ref p2) (sh 0):=Dv.sh_of z06 rfl rfl
  refine ⟨len1,fun l3 f3=>?_⟩
  have q3:=z0a f3 (.lst [.ref p2])
  refine ⟨_,rfl,l3,l,_,us,rfl,rfl,z06,q3 _ _ (q2 _ _ h2),by rw[ul];show 1+i≤_;omega,fun L fL=>?_⟩
  have q4:=z0a fL (.lst ([V.ref p2]++us))
  have hL4:upd (upd (upd H2 p2 (.tup [.int 0,.int 1])) l3 (.lst [.ref p2])) L (.lst ([V.ref p2]++us)) L=some (.lst ([V.ref p2]++us)):=z06
  have s4:=q2.trans (q3.trans q4)
  have dz4:=(dz.mono q3).mono q4
  have h24:=s4 _ _ h2
  have fL2:H2 L=none:=by
   cases e:H2 L with
   | none=>rfl
   | some o=>rw[q3 _ _ (q2 _ _ e)]at fL;cases fL
  generalize upd (upd (upd H2 p2 (.tup [.int 0,.int 1])) l3 (.lst [.ref p2])) L (.lst ([V.ref p2]++us))=H4 at hL4 s4 dz4 h24
  refine ⟨_,rfl,l,us,rfl,.inl (SqL.of h24),?_⟩
  rw[ul]
  refine ⟨((i:Nat):Int),rfl,by omega,by omega,?_⟩
  rw[show ((i:Nat):Int).toNat=i by omega]
  refine z6q (lo:=0) (n:=i) (fun k σ H5=>∃(y:Option V) (ts:List V),σ=[some (.ref p),some v1,some (.ref l),some w,some (.ref L),y]∧(∀b o,H2 b=some o→H5 b=some o)∧H5 L=some (.lst ts)∧ts.length=i+1∧DvAll K H5 ts ((tab (i+1) (fun t=>(if t=0 then 0 else F (t-1))+(if t<k then F t*x else 0))).map sh)) ⟨y3,_,rfl,fun b o e=>s4 _ _ e,hL4,by rw[List.length_append,ul];show 1+i=i+1;omega,?_⟩ ?_ ?_
  ·have e : tab (i+1) (fun t => (if t = 0 then 0 else F (t-1))+(if t<0 then F t*x else 0)) = [0]++tab i F := by
    apply List.ext_getElem?
    intro j
    unfold tab
    rw[List.getElem?_map]
    cases j with
    | zero=>
     rw[List.getElem?_range (by omega)]
     show some ((0:Rat)+0)=some 0
     rw[Rat.add_zero]
    | succ j=>
     show _=(List.map F (List.range i))[j]?
     rw[List.getElem?_map]
     by_cases hj:j<i
     ·rw[List.getElem?_range (by omega),List.getElem?_range hj]
      show some (F (j+1-1)+0)=some (F j)
      rw[Rat.add_zero,Nat.add_sub_cancel]
     ·rw[List.getElem?_eq_none (by rw[List.length_range];omega),List.getElem?_eq_none (by rw[List.length_range];omega)];rfl
   rw[e,List.map_append]
   exact (DvAll.cons dz4 .nil).append (du.mono s4)
  ·rintro k σ H5 hk ⟨y,ts,rfl,s5,hL5,tl,dt⟩
   have s5':Same H2 H5:=s5
   have s15:=s2.trans s5'
   have hts:ts[k]?=some (ts[k]'(by omega)):=List.getElem?_eq_getElem (by omega)
   have hus:us[k]?=some (us[k]'(by omega)):=List.getElem?_eq_getElem (by omega)
   have d1:=(dt.share hts).2
   have d3:=((du.share hus).2).mono s5'
   rw[z23 (by omega)]at d1
   rw[z23 hk]at d3
   have e1:=z2c hts
   have e3:=z2c hus
   rw[show ((k:Nat):Int)=0+(k:Int) by omega]at e1 e3
   generalize ts[k]'(by omega)=a1 at e1 d1
   generalize us[k]'(by omega)=a3 at e3 d3
   rw[if_neg (show ¬k<k by omega),Rat.add_zero]at d1
   have b1:Bs 4400 (if k=0 then 0 else F (k-1)):=by
    split
    ·exact Bs.zero.mono (by decide)
    ·exact (bF _).mono (by decide)
   refine ⟨_,rfl,_,rfl,L,ts,_,_,rfl,rfl,SqL.of hL5,e1,?_⟩
   refine ⟨_,rfl,_,rfl,l,us,_,_,rfl,rfl,SqL.of (s5 _ _ h2),e3,_,rfl,_,_,_,_,rfl,d3,hx1.mono s15,(bF _).mono (by decide),bx.mono (by decide),fun v6 H6 s6 d6=>?_⟩
   refine ⟨_,_,_,_,rfl,d1.mono s6,d6,b1,((bF _).mul bx).mono (by decide),fun v7 H7 s7 d7=>?_⟩
   have s57:=s6.trans s7
   have hL7:=s57 _ _ hL5
   refine ⟨_,rfl,_,rfl,L,ts,_,k,rfl,rfl,hL7,by unfold ixN;rw[if_pos (by omega),if_pos (by omega)];congr 1;omega,?_⟩
   have kp7:Keep H7 (upd H7 L (.lst (ts.set k v7))):=z1r hL7
   refine ⟨_,ts.set k v7,rfl,fun b o e=>?_,z06,by rw[List.length_set];exact tl,?_⟩
   ·rw[z0f (z0m e fL2)];exact s57 _ _ (s5 _ _ e)
   ·have e : tab (i+1) (fun t => (if t = 0 then 0 else F (t-1))+(if t<k+1 then F t*x else 0)) = (tab (i+1) (fun t => (if t = 0 then 0 else F (t-1))+(if t<k then F t*x else 0))).set k ((if k = 0 then 0 else F (k-1))+F k*x) := by
     rw[z4u]
     refine z1f fun t _=>?_
     by_cases h1:t=k
     ·subst h1
      rw[if_pos rfl,if_pos (show t<t+1 by omega)]
     ·rw[if_neg h1]
      congr 1
      by_cases h4:t<k
      ·rw[if_pos h4,if_pos (by omega)]
      ·rw[if_neg h4,if_neg (by omega)]
    rw[e,List.map_set]
    exact ((dt.mono s57).kshs kp7).set k (d7.ksh kp7)
  ·rintro σ H5 ⟨y,ts,rfl,s5,hL5,tl,dt⟩
   have s5':Same H2 H5:=s5
   have s15:=s2.trans s5'
   have hts:ts[0]?=some (ts[0]'(by omega)):=List.getElem?_eq_getElem (by omega)
   have d1:=(dt.share hts).2
   rw[z23 (by omega)]at d1
   have e1:atI ts 0=some (ts[0]'(by omega)):=z2c (j:=0) hts
   generalize ts[0]'(by omega)=a1 at e1 d1
   rw[if_pos rfl,Rat.zero_add]at d1
   have b1:Bs 4400 (if 0<i then F 0*x else 0):=by
    split
    ·exact ((bF _).mul bx).mono (by decide)
    ·exact Bs.zero.mono (by decide)
   refine ⟨_,rfl,L,ts,_,_,rfl,rfl,SqL.of hL5,e1,_,rfl,_,_,_,_,rfl,d1,dw.mono s15,b1,hb _ (z18 hj),fun v6 H6 s6 d6=>?_⟩
   have hL6:=s6 _ _ hL5
   refine ⟨_,rfl,L,ts,_,0,rfl,rfl,hL6,by unfold ixN;rw[if_pos (by omega),if_pos (by omega)];rfl,?_⟩
   have kp:Keep H6 (upd H6 L (.lst (ts.set 0 v6))):=z1r hL6
   refine ⟨_,rfl,?_⟩
   refine ⟨L,ts.set 0 v6,_,_,_,rfl,fun b o e=>?_,z06,?_⟩
   ·rw[z0f (z0m (s2 _ _ e) fL2)];exact s6 _ _ (s5 _ _ (s2 _ _ e))
   ·have e : tab (i+1) (fun t => F t*x+(if t = 0 then rs.getD (ws.length-1-i) 0 else F (t-1)*1)) = (tab (i+1) (fun t => (if t = 0 then 0 else F (t-1))+(if t<i then F t*x else 0))).set 0 ((if 0<i then F 0*x else 0)+rs.getD (ws.length-1-i) 0) := by
     rw[z4u]
     refine z1f fun t ht=>?_
     have ex:(if t<i then F t*x else 0)=F t*x:=by
      by_cases h:t<i
      ·rw[if_pos h]
      ·have:t=i:=by omega
       subst this
       rw[if_neg h,fout,Rat.zero_mul]
     by_cases h0:t=0
     ·subst h0
      rw[if_pos rfl,if_pos rfl,ex]
     ·rw[if_neg h0,if_neg h0,if_neg h0,ex,Rat.mul_one,Rat.add_comm]
    rw[eL,e,List.map_set]
    exact ((dt.mono s6).kshs kp).set 0 (d6.ksh kp)
 ·rintro σ H2 ⟨l,us,y1,y2,y3,rfl,s2,h2,du⟩
  rw[List.length_reverse,wl,Nat.sub_self,List.drop_zero]at du
  refine ⟨_,rfl,l,us,_,rfl,.inl (SqL.of h2),du,by unfold zd8;rw[z0v];omega,fun p' ws' H' s' t' d'=>?_⟩
  rw[←zel]at d'
  exact q p' ws' H' (s1.trans (s2.trans s')) t' d'
noncomputable def zp_AN:ZSp:=fun ws n Q=>∃(rs:List Rat) (x:Rat),ws=[.d (pl rs),.d (sh x)]∧rs.length≤100∧Bs 2000 x∧(∀r∈rs,Bs 4400 r)∧(∀i t,Bs 2000 (z16 x 1 (rs.drop i) t))∧Q (.d (pl (mvL x rs))) n
theorem ca_AN:CallOk K (sp_AN K) zp_AN:=fun vs H Q ⟨M,ws,n,Qd,ok,r,⟨rs,x,e,h1,h2,h3,h4,q⟩,k⟩=>by
 subst e
 obtain ⟨v1,v2,rfl,r1,r2⟩:=r.inv2
 obtain ⟨p,ws1,rfl,tp,da⟩:=r1.pl_inv
 exact ⟨p,ws1,rs,v2,x,rfl,tp,da,h1,r2.dv,h2,h3,h4,fun p' ws' H' s t d=>k.dvS ok s (Dv.pl t d) (z32 _) q⟩
noncomputable def sp_AZ (K:W.Frag):Sp:=fun vs H Q _=>∃(p1 p2:Addr) (w1 w2:List V) (xs ys:List Rat) (z:Int),vs=[.ref p1,.ref p2,.int z]∧SqT K H p1 w1∧DvAll K H w1 (xs.map sh)∧SqT K H p2 w2∧DvAll K H w2 (ys.map sh)∧xs.length≤1000∧ys.length≤1000∧(z=1∨z=-1)∧(∀r∈xs,Bs 4300 r)∧(∀r∈ys,Bs 4300 r)∧∀p' ws' rs' H',Same H H'→SqT K H' p' ws'→DvAll K H' ws' (rs'.map sh)→rs'=z1n rs'→(∀t,rs'.getD t 0=xs.getD t 0+ys.getD t 0*(z:Rat))→Q (.ref p') H'
theorem sc_AZ:FnScope ["_law_one","_law_other_here","_law_sign","_law_wide"] ["_law_one","_law_other_here","_law_sign"] (z08 s_AZ):=⟨rfl,rfl,rfl,by decide +kernel,rfl,by decide +kernel,by decide +kernel⟩
theorem d_AZ (T:Txt K mg):Def P w K mg base "_law_with" ["_law_one","_law_other_here","_law_sign"] 3 (sp_AZ K):=by
 refine Def.mkq T.f_AZ sc_AZ (fun vs H Q E h=>?_) (fun _ _ _ _ _ _ us hl=>match us,hl with|[_,_,_],_=>rfl) (fun f cdv A outer s H vs Q E hr h=>?_)
 ·obtain ⟨p1,p2,w1,w2,xs,ys,z,rfl,_⟩:=h
  rfl
 obtain ⟨p1,p2,w1,w2,xs,ys,z,rfl,t1,a1,t2,a2,x1,y1,hz,bx,by',q⟩:=h
 refine ⟨_, (z04 (z0g (i := 3) sc_AZ.nd rfl (by walk_at "lc") (z0i (z6v rfl) rfl T.b_max zfv (z00 (z0i z0p rfl T.b_len z1v (z00 (qpv 0) z01)) (z00 (z0i z0p rfl T.b_len z1v (z00 (qpv 1) z01)) z01))))
   (z05 (z0d (z09 (d_AU T) hr (z00 (zbs (N:=["_law_k","_law_one","_law_other_here","_law_sign"]) (is:=[none,some 0,some 1,some 2]) rfl ⟨rfl,rfl,by decide +kernel,by decide +kernel,⟨rfl,⟨rfl,⟨rfl,trivial⟩⟩⟩,rfl,⟨⟨rfl,rfl,rfl⟩,⟨⟨rfl,rfl,rfl⟩,⟨⟨rfl,rfl,rfl⟩,trivial⟩⟩⟩⟩ (z22 rfl T.b_range (z00 (qpv 3) z01)) (fun _ _ _ _ _=>(z0l (i:=0) (show List.Nodup (["_law_k","_law_one","_law_other_here","_law_sign"]:List Str) from by decide +kernel) rfl (by walk_at "lc"))) (fun _ _ _ _ _=>z66) (fun _ _ _ _ _=>(z09 (d_AL T) hr (z00 (z09 (d_Aw T) hr (z00 (qpv 1) (z00 (qpv 0) z01))) (z00 (z09 (d_AH T) hr (z00 (z09 (d_Aw T) hr (z00 (qpv 2) (z00 (qpv 0) z01))) (z00 (z0n (z00 (qpv 3) (z00 z02 z01))) z01))) z01))))) z01))))),?_⟩
 have hsz:sizeLine=16777216:=sizeLine_eq
 have l1:w1.length=xs.length:=by have:=a1.length;simpa using this
 have l2:w2.length=ys.length:=by have:=a2.length;simpa using this
 refine ⟨_,rfl,p1,w1,rfl,.inr t1,_,rfl,p2,w2,rfl,.inr t2,_,_,rfl,?_⟩
 rw[l1,l2]
 obtain ⟨m,hm,hm2⟩:∃m:Nat,(if ((ys.length:Nat):Int)>((xs.length:Nat):Int) then ((ys.length:Nat):Int) else ((xs.length:Nat):Int))=(m:Int)∧(xs.length≤m∧ys.length≤m∧m≤1000):=by
  split
  ·exact ⟨ys.length,rfl,by omega,by omega,by omega⟩
  ·exact ⟨xs.length,rfl,by omega,by omega,by omega⟩
 rw[hm]
 have bz:Bs 1 (z:Rat):=by
  rcases hz with rfl|rfl
  ·exact ⟨by decide,by decide⟩
  ·exact ⟨by decide,by decide⟩
 refine ⟨_,rfl,(m:Int),rfl,by omega,by omega,fun D fD=>?_⟩
 rw[show ((m:Nat):Int).toNat=m by omega]
 refine z7j (lo:=0) (n:=m) (fun i σ H3=>(∃y,σ=[y,some (.ref p1),some (.ref p2),some (.int z)])∧(∀c o,H c=some o→H3 c=some o)∧∃us,H3 D=some (.lst us)∧us.length=i∧DvAll K H3 us ((tab i fun t=>xs.getD t 0+ys.getD t 0*(z:Rat)).map sh)) ⟨⟨none,rfl⟩,fun c o e=>z0a fD _ c o e,[],z06,rfl,.nil⟩ ?_ ?_
 ·rintro i σ H3 hi ⟨⟨y,rfl⟩,s3,us,hD,hul,du⟩
  have s3':Same H H3:=s3
  refine ⟨_,rfl,_,rfl,p1,w1,xs,0+(i:Int),rfl,s3'.seqT t1,a1.mono s3',by omega,fun v4 H4 s4 d4=>?_⟩
  rw[show (0+(i:Int)).toNat=i by omega]at d4
  have s34:=s3'.trans s4
  refine ⟨_,rfl,_,rfl,p2,w2,ys,0+(i:Int),rfl,s34.seqT t2,a2.mono s34,by omega,fun v5 H5 s5 d5=>?_⟩
  rw[show (0+(i:Int)).toNat=i by omega]at d5
  refine ⟨_,rfl,len2,fun p6 f6=>?_⟩
  have u6:=z0a f6 (.tup [.int z,.int 1])
  refine ⟨_,_,_,_,rfl,d5.mono u6,Dv.sh_int z06,(z2b by' (by decide) i).mono (by decide),bz.mono (by decide),fun v7 H7 s7 d7=>?_⟩
  have s57:=s5.trans (u6.trans s7)
  refine ⟨_,_,_,_,rfl,d4.mono s57,d7,(z2b bx (by decide) i).mono (by decide),((z2b by' (by decide) i).mul bz).mono (by decide),fun v8 H8 s8 d8=>?_⟩
  have s38:=s4.trans (s57.trans s8)
  have hD8:=s38 _ _ hD
  have kp:Keep H8 (upd H8 D (.lst (us++[v8]))):=z1r hD8
  refine ⟨us,hD8,by omega,⟨_,rfl⟩,fun c o e=>?_,us++[v8],z06,by rw[List.length_append,hul];rfl,?_⟩
  ·rw[z0f (z0m e fD)];exact s38 _ _ (s3 c o e)
  ·rw[z5h,List.map_append]
   exact ((du.mono s38).kshs kp).append (.cons (d8.ksh kp) .nil)
 ·rintro σ H3 ⟨⟨y,rfl⟩,s3,us,hD,hul,du⟩
  refine ⟨⟨_,hD⟩,D,us,_,rfl,.inl (SqL.of hD),du,by rw[z0v];omega,fun p' ws' H' s' t' d'=>?_⟩
  refine q p' ws' _ H' ((show Same H H3 from s3).trans s') t' d' (z8t _).symm fun t=>?_
  rw[z0u]
  by_cases h:t<m
  ·rw[z23 h]
  ·rw[z0e (by rw[z0v];omega),z0e (by omega),z0e (by omega)];grind
noncomputable def zp_AZ:ZSp:=fun ws n Q=>∃(xs ys:List Rat) (z:Int),ws=[.d (pl xs),.d (pl ys),.d (.int z)]∧xs.length≤1000∧ys.length≤1000∧(z=1∨z=-1)∧(∀r∈xs,Bs 4300 r)∧(∀r∈ys,Bs 4300 r)∧∀rs',rs'=z1n rs'→(∀t,rs'.getD t 0=xs.getD t 0+ys.getD t 0*(z:Rat))→Q (.d (pl rs')) n
theorem ca_AZ:CallOk K (sp_AZ K) zp_AZ:=fun vs H Q ⟨M,ws,n,Qd,ok,r,⟨xs,ys,z,e,h1,h2,h3,h4,h5,q⟩,k⟩=>by
 subst e
 obtain ⟨v1,v2,v3,rfl,r1,r2,r3⟩:=r.inv3
 obtain ⟨p,ws1,rfl,tp,da⟩:=r1.pl_inv
 obtain ⟨p2,ws2,rfl,tp2,da2⟩:=r2.pl_inv
 rw[r3.int_inv]
 exact ⟨p,p2,ws1,ws2,xs,ys,z,rfl,tp,da,tp2,da2,h1,h2,h3,h4,h5,fun p' ws' rs' H' s t d e1 e2=>k.dvS ok s (Dv.pl t d) (z32 _) (q rs' e1 e2)⟩
noncomputable def zp_AV:ZSp:=fun ws n Q=>∃(rs:List Rat) (B:Nat),ws=[.t 2,.d (pl rs)]∧n≤2^28∧rs.length≤30∧(∀r∈rs,Bs B r)∧5≤B∧B≤200∧∀(rs':List Rat)(n':Nat),n'≤n+10→rs'.length≤rs.length+1→(∀r∈rs',Bs (B+30) r)→Q (.d (.tuple (rs'.map sh))) n'
theorem sc_AV:FnScope ["_law_feed_here","_law_kp","_law_way","_law_at_here","_law_top","_law_bottom","_law_fresh"] ["_law_feed_here","_law_kp"] (z08 s_AV):=⟨rfl,rfl,rfl,by decide +kernel,rfl,by decide +kernel,by decide +kernel⟩
theorem d_AV (T:Txt K mg):Def P w K mg base "_law_spoilt" ["_law_feed_here","_law_kp"] 3 (zc3 K zp_AV):=by
 refine Def.mkz T.f_AV sc_AV (fun ws n Q h => ?_) (fun _ _ _ _ _ _ us hl => match us, hl with|[_, _], _ => rfl) (fun f cdv A outer s H E hr => ⟨_, _, (z04 (z0g (i := 2) sc_AV.nd rfl (by walk_at "lc") (z09 (d_AB T) hr (z00 (qpv 0) (z00 z02 z01))))
   (z04 (z1a (z0k (z4o (K:=K) rfl hr) (qpv 1) (z0n z01) (z0s _)) (z05 (z0d (z0n (z00 (z09 (d_AK T) hr (z00 (qpv 0) z01)) z01)))) z0r)
   (z04 (z0g (i:=3) sc_AV.nd rfl (by walk_at "lc") (z09 (d_AB T) hr (z00 (qpv 0) (z00 (z0i (z2v (K:=K) rfl) rfl T.b_len z1v (z00 (qpv 1) z01)) z01))))
   (z04 (z2s (z0o (z3j (K:=K) rfl) (qpv 1) (qpv 3) (fun _ _=>rfl)) (zbq (K:=K) (n:=2) rfl rfl (z0w (z0l (i:=4) sc_AV.nd rfl (by walk_at "lc")) (z0w (z0l (i:=5) sc_AV.nd rfl (by walk_at "lc")) z2m))))
   (z04 (z1a (z0k z83 (qpv 2) z02 (z0s _)) (z04 (z0g (i:=6) sc_AV.nd rfl (by walk_at "lc") (z1c (z00 (z0n (z00 (z0c (z1d (K:=K) rfl) (qpv 4) (qpv 5)) (z00 (qpv 5) z01))) (z00 (z0n (z00 (z0c z20 (qpv 4) (qpv 5)) (z00 (qpv 5) z01))) (z00 (z0n (z00 (z0c z20 (qpv 5) (qpv 4)) (z00 (qpv 5) z01))) z01)))))
   (z04 (z0g (i:=6) sc_AV.nd rfl (by walk_at "lc") (z0o (z3j (K:=K) rfl) (z0c (z1d (K:=K) rfl) (qpv 6) (z1c (z00 (z0n (z00 (z0c (z1d (K:=K) rfl) (z0c (z6b (K:=K) rfl) (qpv 4) (z0c z43 z02 z02)) (qpv 5)) (z00 (z0c (z6b (K:=K) rfl) (qpv 5) (z0c z43 z02 z02)) z01))) z01))) (qpv 2) (fun _ _=>rfl)))
   (z05 (z0d (z0c (z1d (K:=K) rfl) (z0c (z1d (K:=K) rfl) (z17 (z35 (K:=K) rfl) (qpv 1) z1u (z19 (qpv 3))) (z0n (z00 (z09 (d_AR T) hr (z00 (z0o (z3j (K:=K) rfl) (qpv 6) z02 (fun _ _=>rfl)) (z00 (z0o (z3j (K:=K) rfl) (qpv 6) z02 (fun _ _=>rfl)) z01))) z01))) (z17 (z35 (K:=K) rfl) (qpv 1) (z19 (z0c (z1d (K:=K) rfl) (qpv 3) z02)) z1u)))))) z0r)
   (z04 (z1a (z0k (z4o (K:=K) rfl hr) (qpv 2) z02 (z0s _)) (z05 (z0d (z0c (z1d (K:=K) rfl) (z17 (z35 (K:=K) rfl) (qpv 1) z1u (z19 (qpv 3))) (z17 (z35 (K:=K) rfl) (qpv 1) (z19 (z0c (z1d (K:=K) rfl) (qpv 3) z02)) z1u)))) z0r)
   (z04 (z1a (z0k (z4o (K:=K) rfl hr) (qpv 2) z02 (z0s _)) (z05 (z0d (z0c (z1d (K:=K) rfl) (z0c (z1d (K:=K) rfl) (z17 (z35 (K:=K) rfl) (qpv 1) z1u (z19 (qpv 3))) (z17 (z35 (K:=K) rfl) (qpv 1) (z19 (qpv 3)) (z19 (z0c (z1d (K:=K) rfl) (qpv 3) z02)))) (z17 (z35 (K:=K) rfl) (qpv 1) (z19 (qpv 3)) z1u)))) z0r)
   (z04 (z1a (z0k (z4o (K:=K) rfl hr) (qpv 2) z02 (z0s _)) (z05 (z0d (z0c (z1d (K:=K) rfl) (z17 (z35 (K:=K) rfl) (qpv 1) (z19 (qpv 3)) z1u) (z17 (z35 (K:=K) rfl) (qpv 1) z1u (z19 (qpv 3)))))) z0r)
   (z05 (z0d (z0c (z1d (K:=K) rfl) (z0c (z1d (K:=K) rfl) (z17 (z35 (K:=K) rfl) (qpv 1) z1u (z19 (qpv 3))) (z0n (z00 (z0n (z00 z02 (z00 z02 z01))) z01))) (z17 (z35 (K:=K) rfl) (qpv 1) (z19 (qpv 3)) z1u)))))))))))),(z2d (z61 (z0h ca_AB (z03 z07 (z03 z0j z0b))))
   (z2d (z7q (z9y (z0t zhe z07 (z1j z0b))) (z2w (z1j (z03 (z0h ca_AK (z03 z07 z0b)) z0b))) z3a)
   (z2d (z61 (z0h ca_AB (z03 z07 (z03 (z4h zaq (z03 z07 z0b)) z0b))))
   (z2d (zi6 (z0t zd9 z07 z07) (zic (z7u z46 (z7u z46 zid))))
   (z2d (z7q (z9y (z0t zrz z07 z0j)) (z2d (z61 (z3n (z03 (z1j (z03 (z0t z30 z07 z07) (z03 z07 z0b))) (z03 (z1j (z03 (z0t z9h z07 z07) (z03 z07 z0b))) (z03 (z1j (z03 (z0t z9h z07 z07) (z03 z07 z0b))) z0b)))))
   (z2d (z61 (z0t zd9 (z0t z30 z07 (z3n (z03 (z1j (z03 (z0t z30 (z0t zey z07 (z0t zlk z0j z0j)) z07) (z03 (z0t zey z07 (z0t zlk z0j z0j)) z0b))) z0b))) z07))
   (z2w (z0t z30 (z0t z30 (z4w z07 z1q (z24 z07)) (z1j (z03 (z0h ca_AR (z03 (z0t zd9 z07 z0j) (z03 (z0t zd9 z07 z0j) z0b))) z0b))) (z4w z07 (z24 (z0t z30 z07 z0j)) z1q))))) z3a)
   (z2d (z7q (z9y (z0t zhe z07 z0j)) (z2w (z0t z30 (z4w z07 z1q (z24 z07)) (z4w z07 (z24 (z0t z30 z07 z0j)) z1q))) z3a)
   (z2d (z7q (z9y (z0t zhe z07 z0j)) (z2w (z0t z30 (z0t z30 (z4w z07 z1q (z24 z07)) (z4w z07 (z24 z07) (z24 (z0t z30 z07 z0j)))) (z4w z07 (z24 z07) z1q))) z3a)
   (z2d (z7q (z9y (z0t zhe z07 z0j)) (z2w (z0t z30 (z4w z07 (z24 z07) z1q) (z4w z07 z1q (z24 z07)))) z3a)
   (z2w (z0t z30 (z0t z30 (z4w z07 z1q (z24 z07)) (z1j (z03 (z1j (z03 z0j (z03 z0j z0b))) z0b))) (z4w z07 (z24 z07) z1q))))))))))),fun ws n Q h=>?_⟩)
 ·obtain ⟨rs,B,rfl,_⟩:=h
  rfl
 obtain ⟨rs,B,rfl,hn,hl,hb,hB5,hB,q⟩:=h
 have ml:(rs.map sh).length=rs.length:=List.length_map ..
 refine z3q (by first|decide|omega) (by first|decide|omega) (by first|decide|omega) fun way w0 w1=>?_
 refine zgm ⟨z6j _,rfl,zcg rs⟩ ?_
 rw[zcf]
 by_cases h0:rs=[]
 ·rw[decide_eq_true h0]
  refine ⟨rfl,by omega,fun x bx=>?_⟩
  exact q [x] _ (by omega) (by simp) (fun r h=>by rw[List.mem_singleton.mp h];exact bx.mono (by omega))
 rw[decide_eq_false h0]
 have hpos:0<rs.length:=List.length_pos_iff.mpr h0
 refine r_lenT ?_
 rw[ml]
 refine z3q (by first|decide|omega) (by first|decide|omega) (by first|decide|omega) fun a a0 a1=>?_
 obtain ⟨k,rfl⟩:∃k:Nat,a=(k:Int):=⟨a.toNat,by omega⟩
 have hk:k<rs.length:=by omega
 refine r_ixT (z9w hk) ?_
 have bx:=hb _ (z8a hk)
 have dx:=den_pos (rs.getD k 0)
 refine znh rfl ?_
 have tk:∀m,∀r∈rs.take m,Bs (B+30) r:=fun m r h=>(hb r (List.mem_of_mem_take h)).mono (by omega)
 have dk:∀m,∀r∈rs.drop m,Bs (B+30) r:=fun m r h=>(hb r (List.mem_of_mem_drop h)).mono (by omega)
 have ap:∀{xs ys:List Rat},(∀r∈xs,Bs (B+30) r)→(∀r∈ys,Bs (B+30) r)→∀r∈xs++ys,Bs (B+30) r:=fun h1 h2 r h=>(List.mem_append.mp h).elim (h1 r) (h2 r)
 refine zr7 (fun c=>?_) (fun c=>?_)
 ·repeat (walk_at "zz")
  refine zkd ⟨by decide,by decide,by decide⟩ ?_
  refine zdz (.inr ⟨by decide,by decide⟩) ?_
  repeat (walk_at "zz")
  refine zkd ⟨by decide,by decide,by decide⟩ ?_
  refine zdz (.inr ⟨by decide,by decide⟩) ?_
  refine zik (by show 3+1≤1000000;decide) ?_
  have bd:Bt (B+29) ((rs.getD k 0).den:Int):=bx.d.mono (by omega)
  have b6:Bt 21 (10^(6:Int).toNat:Int):=by decide
  obtain ⟨v,ev,a,b,rfl,hb0,ha1,hb1⟩:=z8l (P:=fun d=>∃a b,d=PyData.tuple [.int a,.int b]∧0<b∧Bt (B+30) a∧Bt (B+30) b) (xs:=[PyData.tuple [.int ((rs.getD k 0).num+((rs.getD k 0).den:Int)),.int ((rs.getD k 0).den:Int)],.tuple [.int ((rs.getD k 0).num-((rs.getD k 0).den:Int)),.int ((rs.getD k 0).den:Int)],.tuple [.int (((rs.getD k 0).den:Int)-(rs.getD k 0).num),.int ((rs.getD k 0).den:Int)]]++[.tuple [.int ((rs.getD k 0).num*10^(6:Int).toNat+((rs.getD k 0).den:Int)),.int (((rs.getD k 0).den:Int)*10^(6:Int).toNat)]]) w0 (by show way<4;omega) (by
   intro d hd
   simp only[List.cons_append,List.nil_append,List.mem_cons,List.not_mem_nil,or_false]at hd
   rcases hd with rfl|rfl|rfl|rfl
   ·exact ⟨_,_,rfl,dx,(bx.n.add bx.d).mono (by omega),bx.d.mono (by omega)⟩
   ·exact ⟨_,_,rfl,dx,(bx.n.sub bx.d).mono (by omega),bx.d.mono (by omega)⟩
   ·exact ⟨_,_,rfl,dx,(bx.d.sub bx.n).mono (by omega),bx.d.mono (by omega)⟩
   ·exact ⟨_,_,rfl,Int.mul_pos dx (by decide),(((bx.n.mul b6).mono (show B+21≤B+28 by omega)).add (bx.d.mono (by omega))).mono (by omega),(bx.d.mul b6).mono (by omega)⟩)
  refine r_ixL ev ?_
  refine r_slT ?_
  refine r_ixT rfl ?_
  refine r_ixT rfl ?_
  refine ⟨a,b,rfl,hb0,hb1.mono (by omega),?_⟩
  rw[z56]
  refine z42 (by rw[List.length_map,List.length_take];show _+1≤_;omega) ?_
  refine r_add ?_
  refine r_slT ?_
  rw[show ((k:Int)+1)=((k+1:Nat):Int) by omega,z37]
  refine z42 (by rw[List.length_append,List.length_map,List.length_map,List.length_take,List.length_drop];show _+1+_≤_;omega) ?_
  have:=q (rs.take k++[Rat.divInt a b]++rs.drop (k+1)) (n+1+1) (by omega) (by rw[List.length_append,List.length_append,List.length_take,List.length_drop];show _+1+_≤_;omega) (ap (ap (tk k) (fun r h=>by rw[List.mem_singleton.mp h];exact Bs.divInt ha1 hb1 (by omega))) (dk (k+1)))
  rw[List.map_append,List.map_append]at this
  exact this
 refine znj (fun _=>?_) (fun _=>?_)
 ·repeat (walk_at "zz")
  rw[show ((k:Int)+1)=((k+1:Nat):Int) by omega,z37,z56]
  refine z42 (by rw[List.length_map,List.length_map,List.length_take,List.length_drop];omega) ?_
  rw[←List.map_append]
  exact q _ _ (by omega) (by rw[List.length_append,List.length_take,List.length_drop];omega) (ap (tk k) (dk _))
 refine znj (fun _=>?_) (fun _=>?_)
 ·repeat (walk_at "zz")
  rw[show ((k:Int)+1)=((k+1:Nat):Int) by omega,zho,z56]
  refine z42 (by rw[List.length_map,List.length_map,List.length_take,List.length_take,List.length_drop];omega) ?_
  repeat (walk_at "zz")
  rw[z37]
  refine z42 (by rw[List.length_append,List.length_map,List.length_map,List.length_map,List.length_take,List.length_take,List.length_drop,List.length_drop];omega) ?_
  rw[←List.map_append,←List.map_append]
  exact q _ _ (by omega) (by rw[List.length_append,List.length_append,List.length_take,List.length_take,List.length_drop,List.length_drop];omega) (ap (ap (tk k) (fun r h=>dk _ r (List.mem_of_mem_take h))) (dk _))
 refine znj (fun _=>?_) (fun _=>?_)
 ·repeat (walk_at "zz")
  rw[z37,z56]
  refine z42 (by rw[List.length_map,List.length_map,List.length_take,List.length_drop];omega) ?_
  rw[←List.map_append]
  exact q _ _ (by omega) (by rw[List.length_append,List.length_take,List.length_drop];omega) (ap (dk _) (tk k))
 repeat (walk_at "zz")
 rw[z56]
 refine z42 (by rw[List.length_map,List.length_take];show _+1≤_;omega) ?_
 repeat (walk_at "zz")
 rw[z37]
 refine z42 (by rw[List.length_append,List.length_map,List.length_map,List.length_take,List.length_drop];show _+1+_≤_;omega) ?_
 have:=q (rs.take k++[0]++rs.drop k) (n+1+1) (by omega) (by rw[List.length_append,List.length_append,List.length_take,List.length_drop];show _+1+_≤_;omega) (ap (ap (tk k) (fun r h=>by rw[List.mem_singleton.mp h];exact (show Bs 5 (0:Rat) from ⟨by decide,by decide⟩).mono (by omega))) (dk k))
 rw[List.map_append,List.map_append]at this
 exact this
noncomputable def zp_AX:ZSp:=fun ws n Q=>∃m:Nat,ws=[.d (.int (m:Int))]∧m≤22∧Q (.d (pl (rtL m))) n
theorem sc_AX:FnScope ["_law_many","_law_found","_law_k","_law_longer","_law_j"] ["_law_many"] (z08 s_AX):=⟨rfl,rfl,rfl,by decide +kernel,rfl,by decide +kernel,by decide +kernel⟩
theorem d_AX (T:Txt K mg):Def P w K mg base "_law_rooted" ["_law_many"] 3 (zc3 K zp_AX):=by
 refine Def.mkn T.f_AX sc_AX (fun ws n Q h => ?_) (fun _ _ _ _ _ _ us hl => match us, hl with|[_], _ => rfl) (fun f cdv A outer s H E hr => ⟨_, _, (z04 (z0g (i := 1) sc_AX.nd rfl (by walk_at "lc") (z1c (z00 (z0n (z00 z02 (z00 z02 z01))) z01)))
   (z04 (z1b PassesOwn.never rfl (z22 rfl T.b_range (z00 (qpv 0) z01)) (z0l (i:=2) sc_AX.nd rfl (by walk_at "lc")) (z04 (z0g (i:=3) sc_AX.nd rfl (by walk_at "lc") (z0c (z1d (K:=K) rfl) (z1c (z00 (z0n (z00 z02 (z00 z02 z01))) z01)) (qpv 1)))
   (z04 (z1b PassesOwn.never rfl (z22 rfl T.b_range (z00 (z0i (z2v (K:=K) rfl) rfl T.b_len z1v (z00 (qpv 1) z01)) z01)) (z0l (i:=4) sc_AX.nd rfl (by walk_at "lc")) (z05 (z2s (z09 (d_AL T) hr (z00 (z0o (z3j (K:=K) rfl) (qpv 3) (qpv 4) (fun _ _=>rfl)) (z00 (z09 (d_AH T) hr (z00 (z0o (z3j (K:=K) rfl) (qpv 1) (qpv 4) (fun _ _=>rfl)) (z00 (z0n (z00 (z0c z20 z02 (qpv 2)) (z00 z02 z01))) z01))) z01))) (z49 (qpv 3) (qpv 4) z3b))))
   (z05 (z0g (i:=1) sc_AX.nd rfl (by walk_at "lc") (qpv 3))))))
   (z05 (z0d (z1e (zfq (K:=K) rfl) rfl T.b_tuple z2i (z00 (qpv 1) z01)))))),(z1p (z2k (b:=false) (SmE.x (z3n (z03 (z1j (z03 z0j (z03 z0j z0b))) z0b))))
   (z1p (z8y (z7r (z03 z07 z0b)) z6e (z1p (zn1 (b:=false) (zn9 (z3n (z03 (z1j (z03 z0j (z03 z0j z0b))) z0b)) z07))
   (z1p (z8y (z7r (z03 (z4h zaq (z03 z07 z0b)) z0b)) z6e (zgg (b:=true) (i:=3) (SmE.x (z0h ca_AL (z03 (z0t zd9 z07 z07) (z03 (z0h ca_AH (z03 (z0t zd9 z07 z07) (z03 (z1j (z03 (z0t z9h z0j z07) (z03 z0j z0b))) z0b))) z0b)))) z07))
   (zmz (i:=3) (z2k (b:=false) (SmE.x z07))))))
   (z3m (b:=false) (SmE.x (z4h zlj (z03 z07 z0b)))))),fun ws n Q h=>?_⟩)
 ·obtain ⟨m,rfl,_⟩:=h
  rfl
 obtain ⟨m,rfl,hm,q⟩:=h
 refine ⟨⟨by omega,by omega⟩,?_⟩
 rw[Int.toNat_natCast]
 refine z6a (fun i δ k=>k=n∧∃a2 a3 a4,δ=[some (.d (.int (m:Int))),some (.d (.list ((rtL i).map sh))),a2,a3,a4]) ⟨rfl,_,_,_,rfl⟩ (fun i d δ k R hd hp hR=>?_) (fun δ k hp=>?_)
 ·obtain ⟨rfl,a2,a3,a4,rfl⟩:=hp
  obtain ⟨hi,rfl⟩:=z4k hd
  rw[Int.zero_add]
  have rl:=z4x i
  refine znk (by rw[List.length_map,rl];show 1+_≤_;omega) ?_
  refine ⟨Nat.le_of_ble_eq_true rfl,?_⟩
  refine r_lenL ?_
  rw[List.length_map]
  refine ⟨⟨by omega,by omega⟩,?_⟩
  rw[Int.toNat_natCast]
  have e0:[PyData.tuple [.int 0,.int 1]]++(rtL i).map sh=(tab (i+2) fun t=>if t<0 then ([0]++rtL i).getD t 0+(rtL i).getD t 0*((((0-(i:Int)):Int)):Rat) else ([0]++rtL i).getD t 0).map sh:=by
   have e:=z5z ([0]++rtL i)
   rw[List.length_append,rl,show [(0:Rat)].length+(i+1)=i+2 by show 1+_=_;omega]at e
   have e1:(tab (i+2) fun t=>if t<0 then ([0]++rtL i).getD t 0+(rtL i).getD t 0*((((0-(i:Int)):Int)):Rat) else ([0]++rtL i).getD t 0)=tab (i+2) fun t=>([0]++rtL i).getD t 0:=z1f fun t _=>if_neg (Nat.not_lt_zero t)
   rw[e1,e,List.map_append];rfl
  rw[e0]
  have bt:∀t,Bs 200 ((rtL i).getD t 0):=fun t=>(Cd.bs (by decide) (zbl i (by omega) t) (show Bt (7*i+1) 1 from Bt.mono (m:=1) (by decide) (by omega)) (Nat.le_refl _)).mono (by omega)
  have b0:∀t,Bs 200 (([0]++rtL i).getD t 0):=fun t=>by
   cases t with
   | zero=>exact Bs.zero.mono (by decide)
   | succ t=>exact bt t
  have bm:Bs 6 ((((0-(i:Int)):Int)):Rat):=(Bt.of_lt 64 (by omega) (by omega) (by decide):Bt 6 (0-(i:Int))).bs1
  refine z6a (fun j δ k2=>k2=k∧∃a4,δ=[some (.d (.int (m:Int))),some (.d (.list ((rtL i).map sh))),some (.d (.int (i:Int))),some (.o ((tab (i+2) fun t=>if t<j then ([0]++rtL i).getD t 0+(rtL i).getD t 0*((((0-(i:Int)):Int)):Rat) else ([0]++rtL i).getD t 0).map sh)),a4]) ⟨rfl,_,rfl⟩ (fun j d δ k2 R2 hd hp hR2=>?_) (fun δ k2 hp=>?_)
  ·obtain ⟨rfl,a4,rfl⟩:=hp
   obtain ⟨hj,rfl⟩:=z4k hd
   rw[Int.zero_add]
   have tl:=z0v (i+2) fun t=>if t<j then ([0]++rtL i).getD t 0+(rtL i).getD t 0*((((0-(i:Int)):Int)):Rat) else ([0]++rtL i).getD t 0
   refine r_ixL (z9w (k:=j) (by rw[tl];omega)) ?_
   rw[z23 (by omega),if_neg (Nat.lt_irrefl _)]
   refine r_ixL (z9w (rs:=rtL i) (k:=j) (by omega)) ?_
   refine r_sub ?_
   refine ⟨_,((((0-(i:Int)):Int)):Rat),rfl,(bt j).mono (by decide),bm.mono (by decide),?_⟩
   refine ⟨_,_,rfl,(b0 j).mono (by decide),((bt j).mul bm).mono (by decide),?_⟩
   refine ⟨z41 _,j,by rw[List.length_map,tl];exact zln (by omega),?_⟩
   refine hR2 _ _ ⟨rfl,some (.d (.int (j:Int))),?_⟩
   show [_,_,_,some (Zw.o ((List.map sh _).set j _)),_]=_
   rw[←List.map_set,z4u]
   have ef:(fun t=>if t=j then ([0]++rtL i).getD j 0+(rtL i).getD j 0*((((0-(i:Int)):Int)):Rat) else if t<j then ([0]++rtL i).getD t 0+(rtL i).getD t 0*((((0-(i:Int)):Int)):Rat) else ([0]++rtL i).getD t 0)=fun t=>if t<j+1 then ([0]++rtL i).getD t 0+(rtL i).getD t 0*((((0-(i:Int)):Int)):Rat) else ([0]++rtL i).getD t 0:=funext fun t=>by
    by_cases h:t=j
    ·rw[if_pos h,h,if_pos (by omega)]
    ·rw[if_neg h]
     by_cases h2:t<j
     ·rw[if_pos h2,if_pos (by omega)]
     ·rw[if_neg h2,if_neg (by omega)]
   rw[ef]
  ·obtain ⟨rfl,a4,rfl⟩:=hp
   rw[z5m,rl,zne]
   exact hR _ _ ⟨rfl,_,_,_,rfl⟩
 ·obtain ⟨rfl,a2,a3,a4,rfl⟩:=hp
  rw[z5m]
  refine r_tupL ?_
  exact q
noncomputable def sp_AT (K:W.Frag):Sp:=fun vs H Q _=>∃(v:V) (d:PyData),vs=[v]∧Dv K H v d∧∀H',Same H H'→Q (.bl (z6y d)) H'
theorem sc_AT:FnScope ["thing"] ["thing"] (z08 s_AT):=⟨rfl,rfl,rfl,by decide +kernel,rfl,by decide +kernel,by decide +kernel⟩
theorem d_AT (T:Txt K mg):Def P w K mg base "is_poly" ["thing"] 4 (sp_AT K):=by
 refine Def.mkq T.f_AT sc_AT (fun vs H Q E h=>?_) (fun _ _ _ _ _ _ us hl=>match us,hl with|[_],_=>rfl) (fun f cdv A outer s H vs Q E hr h=>?_)
 ·obtain ⟨v,d,rfl,_⟩:=h
  rfl
 obtain ⟨v,d,rfl,hd,q⟩:=h
 obtain ⟨a_AA,m_AA,t_AA⟩:=T.c_AA
 refine ⟨_,(z05 (z0d (z68 (z09 (d_As T) hr (z00 (qpv 0) z01)) (z67 (znp (z2n (zei hr) (qpv 0) (z0n z01) (z0s _)) (z67 (z2n (zbw hr) (z0o ix_tup (qpv 0) (z3i z3g z02) (fun _ _=>rfl)) (z1g (v:=.ref a_AA) rfl m_AA rfl) (z0s _)))))))),?_⟩
 refine ⟨_,rfl,v,d,rfl,hd,_,rfl,?_⟩
 by_cases ha:aSh d=true
 case neg=>
  have ha':aSh d=false:=by simpa using ha
  rw[ha']
  refine z8o ?_
  rw[zbu ha']at q;exact q _ (Same.refl _)
 rw[ha]
 refine z9z ?_
 obtain ⟨rs,rfl⟩:=z8m ha
 rw[z80]at q
 refine ⟨_,rfl,zmc,fun p0 f0=>?_⟩
 have s0:=z0a f0 (.tup [])
 refine ⟨pl rs,pl [],hd.mono s0,.tup (SqT.of z06) .nil,z6j rs,z6j [],zcg rs,_,rfl,?_⟩
 rw[ze6]
 by_cases h0:rs=[]
 ·rw[decide_eq_true h0]
  refine z9z ?_
  have e:z0x rs=true:=by unfold z0x;rw[decide_eq_true h0];rfl
  rw[e]at q;exact q _ s0
 rw[decide_eq_false h0]
 refine z8o ?_
 obtain ⟨p,xs,rfl,tp,da⟩:=hd.tup_inv
 have hlen:xs.length=rs.length:=by have:=da.length;simpa using this
 have hpos:0<rs.length:=List.length_pos_iff.mpr h0
 obtain ⟨vl,hx⟩:∃v,xs[xs.length-1]?=some v:=⟨_,List.getElem?_eq_getElem (by omega)⟩
 have dx:=(da.share hx).2
 rw[hlen]at dx
 refine ⟨_,rfl,_,rfl,p,xs,_,_,rfl,rfl,s0.seqT tp,zaz hx,?_⟩
 refine ⟨_,sh 0,dx.mono s0,Dv.con t_AA rfl rfl _,rfl,rfl,(by show 1≤60;decide),?_⟩
 rw[z92]
 have e:z0x rs=!decide (rs.getD (rs.length-1) 0=0):=by unfold z0x;rw[decide_eq_false h0];rfl
 rw[e]at q
 exact q _ s0
noncomputable def zp_AT:ZSp:=fun ws n Q=>∃d,ws=[.d d]∧Q (.d (.bool (z6y d))) n
theorem ca_AT:CallOk K (sp_AT K) zp_AT:=fun vs H Q ⟨M,ws,n,Qd,ok,r,⟨d,e,q⟩,k⟩=>by
 subst e
 obtain ⟨v1,rfl,r1⟩:=r.inv1
 exact ⟨v1,d,rfl,r1.dv,fun H' s=>k.dvS ok s (.bl _) rfl q⟩
noncomputable def sp_Af (K:W.Frag):Sp:=fun vs H Q _=>∃(p:Addr) (ws:List V) (rs:List Rat) (v:V) (x:Rat) (N n:Nat),vs=[.ref p,v]∧SqT K H p ws∧DvAll K H ws (rs.map sh)∧Dv K H v (sh x)∧Bs n x∧(∀r∈rs,Bs 4400 r)∧(∀i,Bs N (hor x (rs.drop i)))∧N+n≤4400∧∀v' H',Same H H'→Dv K H' v' (sh (hor x rs))→Q v' H'
theorem sc_Af:FnScope ["poly","share","value","number"] ["poly","share"] (z08 s_Af):=⟨rfl,rfl,rfl,by decide +kernel,rfl,by decide +kernel,by decide +kernel⟩
theorem d_Af (T:Txt K mg):Def P w K mg base "value_at" ["poly","share"] 4 (sp_Af K):=by
 refine Def.mkq T.f_Af sc_Af (fun vs H Q E h=>?_) (fun _ _ _ _ _ _ us hl=>match us,hl with|[_,_],_=>rfl) (fun f cdv A outer s H vs Q E hr h=>?_)
 ·obtain ⟨p,ws,rs,v,x,N,n,rfl,_⟩:=h
  rfl
 obtain ⟨p,ws,rs,v,x,N,n,rfl,hT,hA,hx,bx,hb,bh,hNn,q⟩:=h
 obtain ⟨a_AA,m_AA,t_AA⟩:=T.c_AA
 refine ⟨_, (z04 (z0g (i := 2) sc_Af.nd rfl (by walk_at "lc") (z1g (v := .ref a_AA) rfl m_AA rfl))
   (z04 (z1b PassesOwn.never rfl (ze1 rfl T.b_reversed (z00 (qpv 0) z01)) (z0l (i:=3) sc_Af.nd rfl (by walk_at "lc")) (z05 (z0g (i:=2) sc_Af.nd rfl (by walk_at "lc") (z09 (d_AE T) hr (z00 (z09 (d_AD T) hr (z00 (qpv 2) (z00 (qpv 1) z01))) (z00 (qpv 3) z01))))))
   (z05 (z0d (qpv 2))))),?_⟩
 have wl:ws.length=rs.length:=by have:=hA.length;simpa using this
 repeat (first|walk_at "rd")
 refine ⟨p,ws,rfl,hT,?_⟩
 refine zf7 (K:=K) (a:=p) (xs:=ws) (fun i σ H2=>∃(t:V) (z:Option V),σ=[some (.ref p),some v,some t,z]∧Same H H2∧Dv K H2 t (sh (hor x (rs.drop (rs.length-i))))) ⟨_,none,rfl,Same.refl _,by rw[Nat.sub_zero,List.drop_length];exact Dv.con t_AA rfl rfl _⟩ (fun i σ H2 _ ⟨_,_,_,s,_⟩=>s.seqT hT) ?_ ?_
 ·rintro i w σ H2 hi hw ⟨t,z,rfl,s2,d2⟩
  obtain ⟨hj,dw⟩:=hA.share hw
  have eh:hor x (rs.drop (rs.length-(i+1)))=hor x (rs.drop (rs.length-i))*x+rs.getD (ws.length-1-i) 0:=by
   rw[show rs.length-(i+1)=ws.length-1-i by omega,List.drop_eq_getElem_cons hj,show ws.length-1-i+1=rs.length-i by omega,List.getD_eq_getElem?_getD,List.getElem?_eq_getElem hj]
   rfl
  refine ⟨_,rfl,_,rfl,_,_,_,_,rfl,d2,hx.mono s2,(bh _).mono (by omega),bx.mono (by omega),fun v3 H3 s3 d3=>?_⟩
  refine ⟨_,rfl,_,_,_,_,rfl,d3,(dw.mono s2).mono s3,((bh _).mul bx).mono (by omega),hb _ (z18 hj),fun v4 H4 s4 d4=>?_⟩
  exact ⟨_,_,rfl,s2.trans (s3.trans s4),by rw[eh];exact d4⟩
 ·rintro σ H2 ⟨t,z,rfl,s2,d2⟩
  rw[wl,Nat.sub_self,List.drop_zero]at d2
  exact ⟨_,rfl,q _ _ s2 d2⟩
noncomputable def zp_Af:ZSp:=fun ws n Q=>∃(rs:List Rat) (x:Rat) (N m:Nat),ws=[.d (pl rs),.d (sh x)]∧Bs m x∧(∀r∈rs,Bs 4400 r)∧(∀i,Bs N (hor x (rs.drop i)))∧N+m≤4400∧Q (.d (sh (hor x rs))) n
theorem ca_Af:CallOk K (sp_Af K) zp_Af:=fun vs H Q ⟨M,ws,n,Qd,ok,r,⟨rs,x,N,m,e,h1,h2,h3,h4,q⟩,k⟩=>by
 subst e
 obtain ⟨v1,v2,rfl,r1,r2⟩:=r.inv2
 obtain ⟨p,ws1,rfl,tp,da⟩:=r1.pl_inv
 exact ⟨p,ws1,rs,v2,x,N,m,rfl,tp,da,r2.dv,h1,h2,h3,h4,fun v' H' s d=>k.dvS ok s d (z41 _) q⟩
noncomputable def sp_AO (K:W.Frag):Sp:=fun vs H Q _=>∃(p1 p2:Addr) (w1 w2:List V) (xs ys:List Rat),vs=[.ref p1,.ref p2]∧SqT K H p1 w1∧DvAll K H w1 (xs.map sh)∧SqT K H p2 w2∧DvAll K H w2 (ys.map sh)∧xs.length≤1000∧ys.length≤1000∧(∀r∈xs,Bs 4400 r)∧(∀r∈ys,Bs 4400 r)∧∀p' ws' H',Same H H'→SqT K H' p' ws'→DvAll K H' ws' ((z1n (z5f xs ys)).map sh)→Q (.ref p') H'
theorem sc_AO:FnScope ["one","other","shorter","longer","numbers","k","number"] ["one","other"] (z08 s_AO):=⟨rfl,rfl,rfl,by decide +kernel,rfl,by decide +kernel,by decide +kernel⟩
theorem d_AO (T:Txt K mg):Def P w K mg base "poly_plus" ["one","other"] 4 (sp_AO K):=by
 refine Def.mkq T.f_AO sc_AO (fun vs H Q E h=>?_) (fun _ _ _ _ _ _ us hl=>match us,hl with|[_,_],_=>rfl) (fun f cdv A outer s H vs Q E hr h=>?_)
 ·obtain ⟨p1,p2,w1,w2,xs,ys,rfl,_⟩:=h
  rfl
 obtain ⟨p1,p2,w1,w2,xs,ys,rfl,t1,a1,t2,a2,x1,y1,bx,by',q⟩:=h
 refine ⟨_, (z04 (z4z (z2s (zad rfl T.b_sorted rfl T.b_len (z00 (z1c (z00 (qpv 0) (z00 (qpv 1) z01))) z01)) (zki rfl (z0w (z0l (i := 2) sc_AO.nd rfl (by walk_at "lc")) (z0w (z0l (i := 3) sc_AO.nd rfl (by walk_at "lc")) z2m)))))
   (z04 (z0g (i:=4) sc_AO.nd rfl (by walk_at "lc") (z1e z3v rfl T.b_list zay (z00 (qpv 3) z01)))
   (z04 (z1b PassesOwn.never rfl (z4m true rfl T.b_enumerate (z00 (qpv 2) z01)) (z50 rfl (z0w (z0l (i:=5) sc_AO.nd rfl (by walk_at "lc")) (z0w (z0l (i:=6) sc_AO.nd rfl (by walk_at "lc")) z2m))) (z05 (z2s (z09 (d_AE T) hr (z00 (z0o ix_list (qpv 4) (qpv 5) (fun _ _=>rfl)) (z00 (qpv 6) z01))) (z49 (qpv 4) (qpv 5) z3b))))
   (z05 (z0d (z09 (d_Av T) hr (z00 (qpv 4) z01))))))),?_⟩
 refine ⟨fun σ' H'=>∃(pa pb:Addr) (wa wb:List V) (as bs:List Rat),σ'=[some (.ref p1),some (.ref p2),some (.ref pa),some (.ref pb),none,none,none]∧Same H H'∧SqT K H' pa wa∧DvAll K H' wa (as.map sh)∧SqT K H' pb wb∧DvAll K H' wb (bs.map sh)∧as.length≤bs.length∧bs.length≤1000∧(∀r∈as,Bs 4400 r)∧(∀r∈bs,Bs 4400 r)∧z5f as bs=z5f xs ys,?_,?_⟩
 ·have l1:w1.length=xs.length:=by have:=a1.length;simpa using this
  have l2:w2.length=ys.length:=by have:=a2.length;simpa using this
  refine ⟨_,rfl,_,rfl,len2,fun l fl=>?_⟩
  have s1:=z0a fl (.lst [.ref p1,.ref p2])
  refine ⟨l,p1,p2,w1,w2,rfl,SqL.of z06,s1.seqT t1,s1.seqT t2,fun hle D fD=>?_,fun hle D fD=>?_⟩
  ·have s2:=s1.trans (z0a fD (.lst [.ref p1,.ref p2]))
   refine ⟨D,_,rfl,SqL.of z06,rfl,_,_,rfl,_,_,rfl,rfl,?_⟩
   exact ⟨p1,p2,w1,w2,xs,ys,rfl,s2,s2.seqT t1,a1.mono s2,s2.seqT t2,a2.mono s2,by omega,y1,bx,by',rfl⟩
  ·have s2:=s1.trans (z0a fD (.lst [.ref p2,.ref p1]))
   refine ⟨D,_,rfl,SqL.of z06,rfl,_,_,rfl,_,_,rfl,rfl,?_⟩
   exact ⟨p2,p1,w2,w1,ys,xs,rfl,s2,s2.seqT t2,a2.mono s2,s2.seqT t1,a1.mono s2,by omega,x1,by',bx,zg1 _ _⟩
 rintro σ' H1 ⟨pa,pb,wa,wb,as,bs,rfl,sH,ta,da,tb,db,hab,hb1,ba,bb,eab⟩
 have la:wa.length=as.length:=by have:=da.length;simpa using this
 have lb:wb.length=bs.length:=by have:=db.length;simpa using this
 refine ⟨_,rfl,pb,wb,rfl,.inr tb,fun L fL=>?_⟩
 have sL:=z0a fL (.lst wb)
 refine ⟨_,rfl,pa,wa,rfl,sL.seqT ta,?_⟩
 refine z4s (b:=true) (xs:=wa) (fun i σ H2=>∃(z1 z2:Option V),σ=[some (.ref p1),some (.ref p2),some (.ref pa),some (.ref pb),some (.ref L),z1,z2]∧(∀b o,H1 b=some o→H2 b=some o)∧∃us,H2 L=some (.lst us)∧us.length=bs.length∧DvAll K H2 us ((tab bs.length (fun k=>if k<i then bs.getD k 0+as.getD k 0 else bs.getD k 0)).map sh)) ⟨none,none,rfl,fun b o e=>sL b o e,wb,z06,lb,?_⟩ (fun i σ H2 _ ⟨_,_,_,s,_⟩=>(show Same H1 H2 from s).seqT ta) ?_ ?_
 ·have e : tab bs.length (fun k => if k<0 then bs.getD k 0+as.getD k 0 else bs.getD k 0) = bs := by
   rw[←z5z bs,z0v]
   refine z1f fun i hi=>?_
   rw[if_neg (by omega),z5z]
  rw[e]
  exact db.mono sL
 ·rintro i w T σ H2 hw hT ⟨z1,z2,rfl,s2,us,hL2,ul,du⟩
  have s2':Same H1 H2:=s2
  obtain ⟨hi,dw⟩:=da.share hw
  refine g2 ?_
  have sT:=z0a hT (.tup [.int (i:Int),w])
  have hx:us[i]?=some (us[i]'(by omega)):=List.getElem?_eq_getElem (by omega)
  have dx:=(du.share hx).2
  rw[z23 (show i<bs.length by omega),if_neg (by omega)]at dx
  have ex:=z2c hx
  generalize us[i]'(by omega)=vx at ex dx
  refine ⟨_,rfl,_,rfl,L,us,_,_,rfl,rfl,SqL.of (sT _ _ hL2),ex,_,rfl,_,_,_,_,rfl,dx.mono sT,(dw.mono s2').mono sT,bb _ (z18 (by omega)),ba _ (z18 hi),fun v3 H3 s3 d3=>?_⟩
  have hL3:=s3 _ _ (sT _ _ hL2)
  have kp:Keep H3 (upd H3 L (.lst (us.set i v3))):=z1r hL3
  refine ⟨_,rfl,_,rfl,L,us,_,i,rfl,rfl,hL3,by unfold ixN;rw[if_pos (by omega),if_pos (by omega)];rfl,?_⟩
  refine ⟨_,_,rfl,fun b o e=>?_,us.set i v3,z06,by rw[List.length_set];exact ul,?_⟩
  ·rw[z0f (z0m e fL)];exact s3 _ _ (sT _ _ (s2 _ _ e))
  ·have e : tab bs.length (fun k => if k<i+1 then bs.getD k 0+as.getD k 0 else bs.getD k 0) = (tab bs.length (fun k => if k<i then bs.getD k 0+as.getD k 0 else bs.getD k 0)).set i (bs.getD i 0+as.getD i 0) := by
    rw[z4u]
    refine z1f fun k _=>?_
    by_cases h1:k=i
    ·rw[if_pos h1,if_pos (by omega),h1]
    ·rw[if_neg h1]
     by_cases h2:k<i
     ·rw[if_pos h2,if_pos (by omega)]
     ·rw[if_neg h2,if_neg (by omega)]
   rw[e,List.map_set]
   exact (((du.mono sT).mono s3).kshs kp).set i (d3.ksh kp)
 ·rintro σ H2 ⟨z1,z2,rfl,s2,us,hL2,ul,du⟩
  have s2':Same H1 H2:=s2
  have e:tab bs.length (fun k=>if k<wa.length then bs.getD k 0+as.getD k 0 else bs.getD k 0)=z5f xs ys:=by
   rw[←eab]
   unfold z5f
   rw[Nat.max_eq_right hab]
   refine z1f fun k hk=>?_
   by_cases h:k<wa.length
   ·rw[if_pos h,Rat.add_comm]
   ·rw[if_neg h,z0e (show as.length≤k by omega)];grind
  rw[e]at du
  refine ⟨_,rfl,L,us,_,rfl,SqL.of hL2,du,by rw[←eab];unfold z5f;rw[z0v];omega,fun p3 ws3 H3 s3 t3 d3=>?_⟩
  exact q p3 ws3 H3 (sH.trans (s2'.trans s3)) t3 d3
noncomputable def zp_AO:ZSp:=fun ws n Q=>∃(xs ys:List Rat),ws=[.d (pl xs),.d (pl ys)]∧xs.length≤1000∧ys.length≤1000∧(∀r∈xs,Bs 4400 r)∧(∀r∈ys,Bs 4400 r)∧Q (.d (pl (z1n (z5f xs ys)))) n
theorem ca_AO:CallOk K (sp_AO K) zp_AO:=fun vs H Q ⟨M,ws,n,Qd,ok,r,⟨xs,ys,e,h1,h2,h3,h4,q⟩,k⟩=>by
 subst e
 obtain ⟨v1,v2,rfl,r1,r2⟩:=r.inv2
 obtain ⟨p,ws1,rfl,tp,da⟩:=r1.pl_inv
 obtain ⟨p2,ws2,rfl,tp2,da2⟩:=r2.pl_inv
 exact ⟨p,p2,ws1,ws2,xs,ys,rfl,tp,da,tp2,da2,h1,h2,h3,h4,fun p' ws' H' s t d=>k.dvS ok s (Dv.pl t d) (z32 _) q⟩
noncomputable def sp_Ab (K:W.Frag):Sp:=fun vs H Q _=>∃(p1 p2:Addr) (w1 w2:List V) (xs ys:List Rat),vs=[.ref p1,.ref p2]∧SqT K H p1 w1∧DvAll K H w1 (xs.map sh)∧SqT K H p2 w2∧DvAll K H w2 (ys.map sh)∧xs.length≤1000∧ys.length≤1000∧(∀r∈xs,Bs 4400 r)∧(∀r∈ys,Bs 4400 r)∧(∀k j,k<xs.length→j<ys.length→Bs 4400 (inn (out xs ys k) (xs.getD k 0) ys k j (k+j))∧Bs 4400 (xs.getD k 0*ys.getD j 0))∧∀p' ws' H',Same H H'→SqT K H' p' ws'→DvAll K H' ws' ((z1n (z86 xs ys)).map sh)→Q (.ref p') H'
theorem sc_Ab:FnScope ["one","other","numbers","k","number","j","factor"] ["one","other"] (z08 s_Ab):=⟨rfl,rfl,rfl,by decide +kernel,rfl,by decide +kernel,by decide +kernel⟩
theorem d_Ab (T:Txt K mg):Def P w K mg base "poly_times" ["one","other"] 4 (sp_Ab K):=by
 refine Def.mkq T.f_Ab sc_Ab (fun vs H Q E h=>?_) (fun _ _ _ _ _ _ us hl=>match us,hl with|[_,_],_=>rfl) (fun f cdv A outer s H vs Q E hr h=>?_)
 ·obtain ⟨p1,p2,w1,w2,xs,ys,rfl,_⟩:=h
  rfl
 obtain ⟨p1,p2,w1,w2,xs,ys,rfl,t1,a1,t2,a2,x1,y1,bx,by',hI,q⟩:=h
 obtain ⟨a_AA,m_AA,t_AA⟩:=T.c_AA
 refine ⟨_, (z04 (z0g (i := 2) sc_Ab.nd rfl (by walk_at "lc") (z0c zeg (z1c (z00 (z1g (v := .ref a_AA) rfl m_AA rfl) z01)) (z0c z27 (z0i z0p rfl T.b_len z1v (z00 (qpv 0) z01)) (z0i z0p rfl T.b_len z1v (z00 (qpv 1) z01)))))
   (z04 (z1b PassesOwn.never rfl (z4m true rfl T.b_enumerate (z00 (qpv 0) z01)) (z50 rfl (z0w (z0l (i:=3) sc_Ab.nd rfl (by walk_at "lc")) (z0w (z0l (i:=4) sc_Ab.nd rfl (by walk_at "lc")) z2m))) (z05 (z1b PassesOwn.never rfl (z4m true rfl T.b_enumerate (z00 (qpv 1) z01)) (z50 rfl (z0w (z0l (i:=5) sc_Ab.nd rfl (by walk_at "lc")) (z0w (z0l (i:=6) sc_Ab.nd rfl (by walk_at "lc")) z2m))) (z05 (z2s (z09 (d_AE T) hr (z00 (z0o ix_list (qpv 2) (z0c z27 (qpv 3) (qpv 5)) (fun _ _=>rfl)) (z00 (z09 (d_AD T) hr (z00 (qpv 4) (z00 (qpv 6) z01))) z01))) (z49 (qpv 2) (z0c z27 (qpv 3) (qpv 5)) z3b))))))
   (z05 (z0d (z09 (d_Av T) hr (z00 (qpv 2) z01)))))),?_⟩
 have l1:w1.length=xs.length:=by have:=a1.length;simpa using this
 have l2:w2.length=ys.length:=by have:=a2.length;simpa using this
 refine ⟨len1,fun l0 f0=>?_⟩
 have s0:=z0a f0 (.lst [.ref a_AA])
 refine ⟨_,rfl,p1,w1,rfl,.inr (s0.seqT t1),_,rfl,p2,w2,rfl,.inr (s0.seqT t2),_,_,rfl,rfl,?_⟩
 rw[l1,l2]
 refine ⟨l0,_,_,rfl,rfl,z06,by omega,by omega,by rw[sizeLine_eq];show 1*((xs.length:Int)+(ys.length:Int)).toNat≤_;omega,fun L fL=>?_⟩
 rw[zq6,show ((xs.length:Int)+(ys.length:Int)).toNat=xs.length+ys.length by omega]
 have sL:=s0.trans (z0a fL (.lst (List.replicate (xs.length+ys.length) (V.ref a_AA))))
 refine ⟨_,rfl,p1,w1,rfl,sL.seqT t1,?_⟩
 have fL0:H L=none:=by
  cases e:H L with
  | none=>rfl
  | some o=>rw[s0 _ _ e]at fL;cases fL
 refine z4s (b:=true) (xs:=w1) (fun i σ H2=>∃(z1 z2 z3 z4:Option V),σ=[some (.ref p1),some (.ref p2),some (.ref L),z1,z2,z3,z4]∧(∀b o,H b=some o→H2 b=some o)∧∃us,H2 L=some (.lst us)∧us.length=xs.length+ys.length∧DvAll K H2 us ((tab (xs.length+ys.length) (out xs ys i)).map sh)) ⟨none,none,none,none,rfl,fun b o e=>sL b o e,_,z06,by rw[List.length_replicate],?_⟩ (fun i σ H2 _ ⟨_,_,_,_,_,s,_⟩=>(show Same H H2 from s).seqT t1) ?_ ?_
 ·have e : tab (xs.length+ys.length) (out xs ys 0) = List.replicate (xs.length+ys.length) 0 := by
   show (List.range _).map (fun _=>(0:Rat))=_
   rw[List.map_const',List.length_range]
  rw[e,zam]
  exact DvAll.rep (Dv.con t_AA rfl rfl _) _
 ·rintro i w T σ H2 hw hT ⟨z1,z2,z3,z4,rfl,s2,us,hL2,ul,du⟩
  have s2':Same H H2:=s2
  obtain ⟨hi,dw⟩:=a1.share hw
  refine g2 ?_
  have sT:=z0a hT (.tup [.int (i:Int),w])
  refine ⟨_,rfl,p2,w2,rfl,sT.seqT (s2'.seqT t2),?_⟩
  refine z4s (b:=true) (xs:=w2) (fun j σ H3=>∃(z3 z4:Option V),σ=[some (.ref p1),some (.ref p2),some (.ref L),some (.int (i:Int)),some w,z3,z4]∧(∀b o,H b=some o→H3 b=some o)∧∃us,H3 L=some (.lst us)∧us.length=xs.length+ys.length∧DvAll K H3 us ((tab (xs.length+ys.length) (inn (out xs ys i) (xs.getD i 0) ys i j)).map sh)) ⟨_,_,rfl,fun b o e=>sT _ _ (s2 _ _ e),us,sT _ _ hL2,ul,du.mono sT⟩ (fun i σ H3 _ ⟨_,_,_,s,_⟩=>(show Same H H3 from s).seqT t2) ?_ ?_
  ·rintro j w' T' σ H3 hw' hT' ⟨z3,z4,rfl,s3,us,hL3,ul,du⟩
   have s3':Same H H3:=s3
   obtain ⟨hj,dw'⟩:=a2.share hw'
   refine g2 ?_
   have sT':=z0a hT' (.tup [.int (j:Int),w'])
   have hx:us[i+j]?=some (us[i+j]'(by omega)):=List.getElem?_eq_getElem (by omega)
   have dx:=(du.share hx).2
   rw[z23 (show i+j<xs.length+ys.length by omega)]at dx
   have ex:=z2c hx
   rw[show ((i+j:Nat):Int)=(i:Int)+(j:Int) by omega]at ex
   generalize us[i+j]'(by omega)=vx at ex dx
   obtain ⟨bi',bp⟩:=hI i j hi hj
   have b1:=bx _ (z18 hi)
   have b2:=by' _ (z18 hj)
   refine ⟨_,rfl,_,rfl,_,rfl,_,_,rfl,rfl,L,us,_,_,rfl,rfl,SqL.of (sT' _ _ hL3),ex,?_⟩
   refine ⟨_,rfl,_,rfl,_,_,_,_,rfl,(dw.mono s3').mono sT',(dw'.mono s3').mono sT',b1,b2,fun v4 H4 s4 d4=>?_⟩
   refine ⟨_,_,_,_,rfl,(dx.mono sT').mono s4,d4,bi',bp,fun v5 H5 s5 d5=>?_⟩
   have hL5:=s5 _ _ (s4 _ _ (sT' _ _ hL3))
   have kp:Keep H5 (upd H5 L (.lst (us.set (i+j) v5))):=z1r hL5
   refine ⟨_,rfl,_,rfl,_,rfl,_,_,rfl,rfl,L,us,_,i+j,rfl,rfl,hL5,by unfold ixN;rw[if_pos (by omega),if_pos (by omega)];congr 1,?_⟩
   refine ⟨_,_,rfl,fun b o e=>?_,us.set (i+j) v5,z06,by rw[List.length_set];exact ul,?_⟩
   ·rw[z0f (z0m e fL0)];exact s5 _ _ (s4 _ _ (sT' _ _ (s3 _ _ e)))
   ·have e : tab (xs.length+ys.length) (inn (out xs ys i) (xs.getD i 0) ys i (j+1)) = (tab (xs.length+ys.length) (inn (out xs ys i) (xs.getD i 0) ys i j)).set (i+j) (inn (out xs ys i) (xs.getD i 0) ys i j (i+j)+xs.getD i 0*ys.getD j 0) := by
     rw[z4u]
     refine z1f fun t _=>?_
     show (if t=i+j then inn (out xs ys i) (xs.getD i 0) ys i j t+xs.getD i 0*ys.getD j 0 else inn (out xs ys i) (xs.getD i 0) ys i j t)=_
     by_cases h1:t=i+j
     ·rw[if_pos h1,if_pos h1,h1]
     ·rw[if_neg h1,if_neg h1]
    rw[e,List.map_set]
    exact ((((du.mono sT').mono s4).mono s5).kshs kp).set (i+j) (d5.ksh kp)
  ·rintro σ H3 ⟨z3,z4,rfl,s3,us,hL3,ul,du⟩
   rw[l2]at du
   exact ⟨_,_,_,_,rfl,s3,us,hL3,ul,du⟩
 ·rintro σ H2 ⟨z1,z2,z3,z4,rfl,s2,us,hL2,ul,du⟩
  have s2':Same H H2:=s2
  rw[l1]at du
  refine ⟨_,rfl,L,us,_,rfl,SqL.of hL2,(show DvAll K H2 us ((z86 xs ys).map sh) from du),by unfold z86;rw[z0v];omega,fun p3 ws3 H3 s3 t3 d3=>?_⟩
  exact q p3 ws3 H3 (s2'.trans s3) t3 d3
noncomputable def sp_Aa (K:W.Frag):Sp:=fun vs H Q _=>∃(p:Addr) (ws:List V) (rs:List Rat) (v:V) (x:Rat),vs=[.ref p,v]∧SqT K H p ws∧DvAll K H ws (rs.map sh)∧rs.length≤1000∧Dv K H v (sh x)∧Bs 4400 x∧(∀r∈rs,Bs 4400 r)∧∀p' ws' H',Same H H'→SqT K H' p' ws'→DvAll K H' ws' ((z1n (rs.map (·*x))).map sh)→Q (.ref p') H'
theorem sc_Aa:FnScope ["poly","share"] ["poly","share"] (z08 s_Aa):=⟨rfl,rfl,rfl,by decide +kernel,rfl,by decide +kernel,by decide +kernel⟩
theorem d_Aa (T:Txt K mg):Def P w K mg base "poly_scaled" ["poly","share"] 4 (sp_Aa K):=by
 refine Def.mkq T.f_Aa sc_Aa (fun vs H Q E h=>?_) (fun _ _ _ _ _ _ us hl=>match us,hl with|[_,_],_=>rfl) (fun f cdv A outer s H vs Q E hr h=>?_)
 ·obtain ⟨p,ws,rs,v,x,rfl,_⟩:=h
  rfl
 obtain ⟨p,ws,rs,v,x,rfl,hT,hA,hlen,hx,bx,hb,q⟩:=h
 refine ⟨_,(z05 (z0d (z09 (d_Av T) hr (z00 (zbs (N:=["number","share"]) (is:=[none,some 1]) rfl ⟨rfl,rfl,by decide +kernel,by decide +kernel,⟨rfl,trivial⟩,rfl,⟨⟨rfl,rfl,rfl⟩,trivial⟩⟩ (z65 (qpv 0)) (fun _ _ _ _ _=>(z0l (i:=0) (show List.Nodup (["number","share"]:List Str) from by decide +kernel) rfl (by walk_at "lc"))) (fun _ _ _ _ _=>z66) (fun _ _ _ _ _=>(z09 (d_AD T) hr (z00 (qpv 0) (z00 (qpv 1) z01))))) z01)))),?_⟩
 have wl:ws.length=rs.length:=by have:=hA.length;simpa using this
 refine ⟨_,rfl,p,rfl,⟨_,hT⟩,fun D fD=>?_⟩
 refine zhp (K:=K) (a:=p) (xs:=ws) (fun i σ H2=>(∃z,σ=[z,some v])∧(∀b o,H b=some o→H2 b=some o)∧∃us,H2 D=some (.lst us)∧us.length=i∧DvAll K H2 us (((rs.map (·*x)).take i).map sh)) ⟨⟨none,rfl⟩,fun b o e=>z0a fD _ b o e,[],z06,rfl,.nil⟩ (fun i σ H2 _ ⟨_,s,_⟩=>(show Same H H2 from s).seqT hT) ?_ ?_
 ·rintro i w σ H2 hw ⟨⟨z,rfl⟩,s2,us,hD2,hul,du⟩
  have s2':Same H H2:=s2
  obtain ⟨hi,dw⟩:=hA.share hw
  refine ⟨_,rfl,_,rfl,_,_,_,_,rfl,dw.mono s2',hx.mono s2',hb _ (z18 hi),bx,fun v3 H3 s3 d3=>?_⟩
  have hD3:=s3 _ _ hD2
  have kp:Keep H3 (upd H3 D (.lst (us++[v3]))):=z1r hD3
  refine ⟨us,hD3,by rw[sizeLine_eq];omega,⟨_,rfl⟩,fun b o e=>?_,us++[v3],z06,by simp;omega,?_⟩
  ·rw[z0f (z0m e fD)];exact s3 _ _ (s2 _ _ e)
  ·rw[z1w (by rw[List.length_map];exact hi),List.map_append]
   refine ((du.mono s3).kshs kp).append (.cons ?_ .nil)
   have eg:(rs.map (·*x)).getD i 0=rs.getD i 0*x:=by
    rw[List.getD_eq_getElem?_getD,List.getElem?_map,List.getD_eq_getElem?_getD,List.getElem?_eq_getElem hi];rfl
   rw[eg]
   exact d3.ksh kp
 rintro σ H2 ⟨_,s2,us,hD2,hul,du⟩
 have s2':Same H H2:=s2
 rw[wl,List.take_of_length_le (by rw[List.length_map];omega)]at du
 refine ⟨⟨_,hD2⟩,D,us,_,rfl,SqL.of hD2,du,by rw[List.length_map];omega,fun p3 ws3 H3 s3 t3 d3=>?_⟩
 exact q p3 ws3 H3 (s2'.trans s3) t3 d3
noncomputable def zp_Aa:ZSp:=fun ws n Q=>∃(rs:List Rat) (x:Rat),ws=[.d (pl rs),.d (sh x)]∧rs.length≤1000∧Bs 4400 x∧(∀r∈rs,Bs 4400 r)∧Q (.d (pl (z1n (rs.map (·*x))))) n
theorem ca_Aa:CallOk K (sp_Aa K) zp_Aa:=fun vs H Q ⟨M,ws,n,Qd,ok,r,⟨rs,x,e,h1,h2,h3,q⟩,k⟩=>by
 subst e
 obtain ⟨v1,v2,rfl,r1,r2⟩:=r.inv2
 obtain ⟨p,ws1,rfl,tp,da⟩:=r1.pl_inv
 exact ⟨p,ws1,rs,v2,x,rfl,tp,da,h1,r2.dv,h2,h3,fun p' ws' H' s t d=>k.dvS ok s (Dv.pl t d) (z32 _) q⟩
noncomputable def sp_AF (K:W.Frag):Sp:=fun vs H Q _=>∃(p:Addr) (ws:List V) (rs:List Rat) (v:V) (x:Rat) (n:Nat),vs=[.ref p,v]∧SqT K H p ws∧DvAll K H ws (rs.map sh)∧rs.length≤500∧Dv K H v (sh x)∧Bs n x∧rs.length*n+n+1≤2400∧(∀r∈rs,Bs 4400 r)∧∀p' ws' H',Same H H'→SqT K H' p' ws'→DvAll K H' ws' ((zjt x rs).map sh)→Q (.ref p') H'
theorem sc_AF:FnScope ["poly","share","numbers","factor","number"] ["poly","share"] (z08 s_AF):=⟨rfl,rfl,rfl,by decide +kernel,rfl,by decide +kernel,by decide +kernel⟩
theorem d_AF (T:Txt K mg):Def P w K mg base "poly_stretched" ["poly","share"] 4 (sp_AF K):=by
 refine Def.mkq T.f_AF sc_AF (fun vs H Q E h=>?_) (fun _ _ _ _ _ _ us hl=>match us,hl with|[_,_],_=>rfl) (fun f cdv A outer s H vs Q E hr h=>?_)
 ·obtain ⟨p,ws,rs,v,x,n,rfl,_⟩:=h
  rfl
 obtain ⟨p,ws,rs,v,x,n,rfl,hT,hA,hlen,hx,bx,hn,hb,q⟩:=h
 obtain ⟨a_At,m_At,t_At⟩:=T.c_At
 refine ⟨_, (z04 (z0g (i := 2) sc_AF.nd rfl (by walk_at "lc") (z1c z01))
   (z04 (z0g (i:=3) sc_AF.nd rfl (by walk_at "lc") (z1g (v:=.ref a_At) rfl m_At rfl))
   (z04 (z1b PassesOwn.never rfl (z65 (qpv 0)) (z0l (i:=4) sc_AF.nd rfl (by walk_at "lc")) (z04 (z5n (ze2 PySem.F.plainAttrs_list PySem.F.slot_list_append PySem.F.type_list_append z4p (qpv 2) (z00 (z09 (d_AD T) hr (z00 (qpv 4) (z00 (qpv 3) z01))) z01)))
   (z05 (z0g (i:=3) sc_AF.nd rfl (by walk_at "lc") (z09 (d_AD T) hr (z00 (qpv 3) (z00 (qpv 1) z01)))))))
   (z05 (z0d (z09 (d_Av T) hr (z00 (qpv 2) z01))))))),?_⟩
 have wl:ws.length=rs.length:=by have:=hA.length;simpa using this
 refine ⟨zmc,fun L fL=>?_⟩
 have sL:=z0a fL (.lst [])
 repeat (first|walk_at "rd")
 refine ⟨⟨_,sL.seqT hT⟩,?_⟩
 refine z8c (K:=K) (a:=p) (xs:=ws) (fun i σ H2=>∃(f:V) (z:Option V),σ=[some (.ref p),some v,some (.ref L),some f,z]∧(∀b o,H b=some o→H2 b=some o)∧Dv K H2 f (sh (x^i))∧∃us,H2 L=some (.lst us)∧us.length=i∧DvAll K H2 us ((tab i fun k=>rs.getD k 0*x^k).map sh)) ⟨_,none,rfl,fun b o e=>sL b o e,by rw[Rat.pow_zero];exact Dv.con t_At rfl rfl _,[],z06,rfl,.nil⟩ (fun i σ H2 _ ⟨_,_,_,s,_⟩=>(show Same H H2 from s).seqT hT) ?_ ?_
 ·rintro i w σ H2 hw ⟨f,z,rfl,s2,df,us,hL2,hul,du⟩
  have s2':Same H H2:=s2
  obtain ⟨hi,dw⟩:=hA.share hw
  have bp:=zir bx i
  have hin:=Nat.mul_le_mul_right n (show i≤rs.length by omega)
  refine ⟨_,rfl,.inl ⟨rfl,_,SqL.of hL2⟩,_,rfl,_,rfl,_,_,_,_,rfl,dw.mono s2',df,hb _ (z18 hi),bp.mono (by omega),fun v3 H3 s3 d3=>?_⟩
  have hL3:=s3 _ _ hL2
  refine ⟨L,us,v3,rfl,rfl,hL3,by rw[sizeLine_eq];omega,?_⟩
  have kp:Keep H3 (upd H3 L (.lst (us++[v3]))):=z1r hL3
  have dA:DvAll K (upd H3 L (.lst (us++[v3]))) (us++[v3]) ((tab (i+1) fun k=>rs.getD k 0*x^k).map sh):=by
   rw[z5h,List.map_append]
   exact ((du.mono s3).kshs kp).append (.cons (d3.ksh kp) .nil)
  have df4:=(df.mono s3).ksh kp
  have k4:∀b o,H b=some o→upd H3 L (.lst (us++[v3])) b=some o:=fun b o e=>by
   rw[z0f (z0m e fL)];exact s3 _ _ (s2 _ _ e)
  have hL4:upd H3 L (.lst (us++[v3])) L=some (.lst (us++[v3])):=z06
  generalize upd H3 L (.lst (us++[v3]))=H4 at kp dA df4 k4 hL4
  refine ⟨_,rfl,_,rfl,_,_,_,_,rfl,df4,hx.mono (show Same H H4 from k4),bp.mono (by omega),bx.mono (by omega),fun v5 H5 s5 d5=>?_⟩
  exact ⟨_,_,rfl,fun b o e=>s5 _ _ (k4 _ _ e),by rw[Rat.pow_succ];exact d5,us++[v3],s5 _ _ hL4,by simp;omega,dA.mono s5⟩
 ·rintro σ H2 ⟨f,z,rfl,s2,df,us,hL2,hul,du⟩
  have s2':Same H H2:=s2
  rw[wl]at du
  refine ⟨_,rfl,L,us,_,rfl,SqL.of hL2,du,by rw[z0v];omega,fun p3 ws3 H3 s3 t3 d3=>?_⟩
  exact q p3 ws3 H3 (s2'.trans s3) t3 d3
noncomputable def zp_AF:ZSp:=fun ws n Q=>∃(rs:List Rat) (x:Rat) (b:Nat),ws=[.d (pl rs),.d (sh x)]∧rs.length≤500∧Bs b x∧rs.length*b+b+1≤2400∧(∀r∈rs,Bs 4400 r)∧Q (.d (pl (zjt x rs))) n
theorem ca_AF:CallOk K (sp_AF K) zp_AF:=fun vs H Q ⟨M,ws,n,Qd,ok,r,⟨rs,x,b,e,h1,h2,h3,h4,q⟩,k⟩=>by
 subst e
 obtain ⟨v1,v2,rfl,r1,r2⟩:=r.inv2
 obtain ⟨p,ws1,rfl,tp,da⟩:=r1.pl_inv
 exact ⟨p,ws1,rs,v2,x,b,rfl,tp,da,h1,r2.dv,h2,h3,h4,fun p' ws' H' s t d=>k.dvS ok s (Dv.pl t d) (z32 _) q⟩
noncomputable def sp_AJ (K:W.Frag):Sp:=fun vs H Q _=>∃(l:Addr) (ws:List V) (xs:List Rat) (k:Int) (E:Int) (c:Nat),vs=[.ref l,.int k]∧H l=some (.lst ws)∧DvAll K H ws (xs.map sh)∧0≤k∧k.toNat<xs.length∧xs.length≤40∧E≠0∧Bt c E∧(∀r∈xs,Cd E c r)∧c≤4000∧∀v H',Same H H'→Dv K H' v (sh (above xs k.toNat (xs.length-1-k.toNat)))→Q v H'
theorem sc_AJ:FnScope ["numbers","k","total","j"] ["numbers","k"] (z08 s_AJ):=⟨rfl,rfl,rfl,by decide +kernel,rfl,by decide +kernel,by decide +kernel⟩
theorem d_AJ (T:Txt K mg):Def P w K mg base "moved_from_above" ["numbers","k"] 4 (sp_AJ K):=by
 refine Def.mkq T.f_AJ sc_AJ (fun vs H Q E h=>?_) (fun _ _ _ _ _ _ us hl=>match us,hl with|[_,_],_=>rfl) (fun f cdv A outer s H vs Q E hr h=>?_)
 ·obtain ⟨l,ws,xs,k,E,c,rfl,_⟩:=h
  rfl
 obtain ⟨l,ws,xs,k,E,c,rfl,hL,hA,k0,k1,hlen,E0,bE,hE,hc,q⟩:=h
 obtain ⟨a_AA,m_AA,t_AA⟩:=T.c_AA
 refine ⟨_, (z04 (z0g (i := 2) sc_AJ.nd rfl (by walk_at "lc") (z1g (v := .ref a_AA) rfl m_AA rfl))
   (z04 (z1b PassesOwn.never rfl (zcr rfl T.b_range (z00 (z0c z27 (qpv 1) z02) (z00 (z0i z0p rfl T.b_len z1v (z00 (qpv 0) z01)) z01))) (z0l (i:=3) sc_AJ.nd rfl (by walk_at "lc")) (z05 (z0g (i:=2) sc_AJ.nd rfl (by walk_at "lc") (z09 (d_AE T) hr (z00 (qpv 2) (z00 (z09 (d_AD T) hr (z00 (z0n (z00 (z09 (d_A3 T) hr (z00 (qpv 3) (z00 (qpv 1) z01))) (z00 z02 z01))) (z00 (z0o ix_list (qpv 0) (qpv 3) (fun _ _=>rfl)) z01))) z01))))))
   (z05 (z0d (qpv 2))))),?_⟩
 have wl:ws.length=xs.length:=by have:=hA.length;simpa using this
 refine ⟨_,rfl,_,_,rfl,rfl,_,rfl,l,ws,rfl,.inl (SqL.of hL),?_⟩
 rw[wl]
 refine ⟨k+1,((xs.length:Nat):Int),rfl,⟨by omega,by omega,by omega⟩,?_⟩
 rw[show (((xs.length:Nat):Int)-(k+1)).toNat=xs.length-1-k.toNat by omega]
 have bab:∀i,k.toNat+1+i≤xs.length→Bs 4200 (above xs k.toNat i):=fun i hi=>(z5w E0 hE i (by omega)).bs E0 (bE.mono (show c≤4200 by omega)) (by omega)
 have bx:∀i,Bs 4200 (xs.getD i 0):=fun i=>(z1k hE i).bs E0 (bE.mono (show c≤4200 by omega)) (by omega)
 refine z6q (lo:=k+1) (n:=xs.length-1-k.toNat) (fun i σ H2=>∃(t:V) (z:Option V),σ=[some (.ref l),some (.int k),some t,z]∧Same H H2∧Dv K H2 t (sh (above xs k.toNat i))) ⟨_,none,rfl,Same.refl _,Dv.con t_AA rfl rfl _⟩ ?_ ?_
 ·rintro i σ H2 hi ⟨t,z,rfl,s2,d2⟩
  have hw:ws[k.toNat+1+i]?=some (ws[k.toNat+1+i]'(by omega)):=List.getElem?_eq_getElem (by omega)
  have ea:=z2c hw
  rw[show ((k.toNat+1+i:Nat):Int)=k+1+(i:Int) by omega]at ea
  have dw:=(hA.share hw).2
  have ec:chI (k+1+(i:Int)) k=((ch (k.toNat+1+i) k.toNat:Nat):Int):=by
   unfold chI;rw[if_pos k0]
   congr 2;omega
  refine ⟨_,rfl,_,rfl,_,rfl,k+1+(i:Int),k,rfl,by omega,by omega,len2,fun p1 f1=>?_⟩
  rw[ec]
  have u1:=z0a f1 (.tup [.int ((ch (k.toNat+1+i) k.toNat:Nat):Int),.int 1])
  refine ⟨_,rfl,_,rfl,l,ws,_,_,rfl,rfl,SqL.of (u1 _ _ (s2 _ _ hL)),ea,?_⟩
  have bc:Bs 61 (((ch (k.toNat+1+i) k.toNat:Nat):Int):Rat):=Bs.int (zhq _ _ (by omega)) (by decide)
  refine ⟨_,_,_,_,rfl,Dv.sh_int z06,(dw.mono s2).mono u1,bc.mono (by decide),(bx _).mono (by decide),fun v3 H3 s3 d3=>?_⟩
  refine ⟨_,_,_,_,rfl,(d2.mono u1).mono s3,d3,(bab i (by omega)).mono (by decide),(bc.mul (bx _)).mono (by decide),fun v4 H4 s4 d4=>?_⟩
  exact ⟨v4,_,rfl,s2.trans (u1.trans (s3.trans s4)),d4⟩
 ·rintro σ H2 ⟨t,z,rfl,s2,d2⟩
  exact ⟨_,rfl,q t H2 s2 d2⟩
noncomputable def sp_Ax (K:W.Frag):Sp:=fun vs H Q _=>∃(b:Bool) (a:Addr) (ws:List V) (rs:List Rat),vs=[.ref a]∧SqB b K H a ws∧DvAll K H ws (rs.map sh)∧rs.length≤50∧(∀r∈rs,Bs 4000 r)∧(∀k,k≤rs.length→Bs 4400 (z7e (rs.length+1) rs k))∧∀v H',Same H H'→Dv K H' v (sh (zcp rs))→Q v H'
theorem sc_Ax:FnScope ["shares","n","total","k","share"] ["shares"] (z08 s_Ax):=⟨rfl,rfl,rfl,by decide +kernel,rfl,by decide +kernel,by decide +kernel⟩
theorem d_Ax (T:Txt K mg):Def P w K mg base "step_of" ["shares"] 4 (sp_Ax K):=by
 refine Def.mkq T.f_Ax sc_Ax (fun vs H Q E h=>?_) (fun _ _ _ _ _ _ us hl=>match us,hl with|[_],_=>rfl) (fun f cdv A outer s H vs Q E hr h=>?_)
 ·obtain ⟨b,a,ws,rs,rfl,_⟩:=h
  rfl
 obtain ⟨b,a,ws,rs,rfl,hS,hD,hl,hb,hp,q⟩:=h
 obtain ⟨a_AA,m_AA,t_AA⟩:=T.c_AA
 refine ⟨_, (z04 (z0g (i := 1) sc_Ax.nd rfl (by walk_at "lc") (z0i z0p rfl T.b_len z1v (z00 (qpv 0) z01)))
   (z04 (z0g (i:=2) sc_Ax.nd rfl (by walk_at "lc") (z1g (v:=.ref a_AA) rfl m_AA rfl))
   (z04 (z1b PassesOwn.never rfl (z4m b rfl T.b_enumerate (z00 (qpv 0) z01)) (z50 rfl (z0w (z0l (i:=3) sc_Ax.nd rfl (by walk_at "lc")) (z0w (z0l (i:=4) sc_Ax.nd rfl (by walk_at "lc")) z2m))) (z05 (z0g (i:=2) sc_Ax.nd rfl (by walk_at "lc") (z09 (d_AE T) hr (z00 (qpv 2) (z00 (z09 (d_AD T) hr (z00 (z0n (z00 (z09 (d_A3 T) hr (z00 (z0c z27 (qpv 1) z02) (z00 (qpv 3) z01))) (z00 z02 z01))) (z00 (qpv 4) z01))) z01))))))
   (z05 (z0d (z09 (d_AD T) hr (z00 (qpv 2) (z00 (z09 (d_Ay T) hr (z00 (z3i z3g z02) (z00 (z0c z27 (qpv 1) z02) z01))) z01)))))))),?_⟩
 have hwl:ws.length=rs.length:=by have:=hD.length;simpa using this
 refine ⟨_,rfl,a,ws,rfl,hS.or,?_⟩
 rw[hwl]
 refine ⟨_,rfl,a,ws,rfl,hS,?_⟩
 refine z4s (xs:=ws) (fun i σ H2=>∃(t:V) (z1 z2:Option V),σ=[some (.ref a),some (.int (rs.length:Int)),some t,z1,z2]∧Same H H2∧Dv K H2 t (sh (z7e (rs.length+1) rs i))) ⟨_,none,none,rfl,Same.refl _,Dv.con t_AA rfl rfl _⟩ (fun i σ H2 _ ⟨_,_,_,_,s,_⟩=>hS.same s) ?_ ?_
 ·rintro i x T σ H2 hx hT ⟨t,z1,z2,rfl,s2,d2⟩
  obtain ⟨hi,dx⟩:=hD.share hx
  refine g2 ?_
  have sT:=z0a hT (.tup [.int (i:Int),x])
  repeat (first|walk_at "rd")
  refine ⟨_,_,rfl,by omega,by omega,?_⟩
  repeat (first|walk_at "rd")
  intro p hp1
  have sp:=z0a hp1 (.tup [.int (chI ((rs.length:Int)+1) (i:Int)),.int 1])
  repeat (first|walk_at "rd")
  have ec:chI ((rs.length:Int)+1) (i:Int)=((ch (rs.length+1) i:Nat):Int):=by
   unfold chI
   rw[if_pos (by omega)]
   congr 2<;>omega
  have hbi:Bs 4000 (rs.getD i 0):=by
   refine hb _ ?_
   rw[List.getD_eq_getElem?_getD,List.getElem?_eq_getElem hi]
   exact List.getElem_mem _
  have dp:Dv K (upd (upd H2 T (.tup [.int (i:Int),x])) p (.tup [.int (chI ((rs.length:Int)+1) (i:Int)),.int 1])) (.ref p) (sh (((ch (rs.length+1) i:Nat):Int):Rat)):=by
   have:=Dv.sh_int (K:=K) (H:=upd (upd H2 T (.tup [.int (i:Int),x])) p (.tup [.int (chI ((rs.length:Int)+1) (i:Int)),.int 1])) (p:=p) (c:=chI ((rs.length:Int)+1) (i:Int)) z06
   rw[ec]at this ⊢
   exact this
  have bc:Bs 61 (((ch (rs.length+1) i:Nat):Int):Rat):=Bs.int (zhq _ _ (by omega)) (by decide)
  refine ⟨_,_,_,_,rfl,dp,((dx.mono s2).mono sT).mono sp,bc.mono (by decide),hbi.mono (by decide),fun v3 H3 s3 d3=>?_⟩
  refine ⟨_,_,_,_,rfl,((d2.mono sT).mono sp).mono s3,d3,hp i (by omega),(bc.mul hbi).mono (by decide),fun v4 H4 s4 d4=>?_⟩
  exact ⟨_,_,_,rfl,s2.trans (sT.trans (sp.trans (s3.trans s4))),d4⟩
 ·rintro σ H2 ⟨t,z1,z2,rfl,s2,d2⟩
  rw[hwl]at d2
  repeat (first|walk_at "rd")
  refine ⟨_,_,rfl,by omega,(Bt.of_lt (m:=8) 200 (by omega) (by omega) (by decide)).mono (by decide),fun v3 H3 s3 d3=>?_⟩
  refine ⟨_,_,_,_,rfl,d2.mono s3,d3,hp _ (Nat.le_refl _),(Bs.divInt (by decide) (Bt.of_lt (m:=8) 200 (by omega) (by omega) (by decide)) (by omega)).mono (by decide),fun v4 H4 s4 d4=>?_⟩
  exact q v4 H4 (s2.trans (s3.trans s4)) d4
noncomputable def sp_Ae (K:W.Frag):Sp:=fun vs H Q _=>∃(n:Int) (p:Addr) (ws:List V) (N:Nat),vs=[.int n,.ref p]∧SqT K H p ws∧DvAll K H ws ((z3k N).map sh)∧0≤n∧n≤22∧n.toNat≤N∧N≤40∧∀p' ws' H',Same H H'→SqT K H' p' ws'→DvAll K H' ws' ((spL n.toNat).map sh)→Q (.ref p') H'
theorem sc_Ae:FnScope ["n","numbers","shares","k"] ["n","numbers"] (z08 s_Ae):=⟨rfl,rfl,rfl,by decide +kernel,rfl,by decide +kernel,by decide +kernel⟩
theorem d_Ae (T:Txt K mg):Def P w K mg base "summed_power" ["n","numbers"] 4 (sp_Ae K):=by
 refine Def.mkq T.f_Ae sc_Ae (fun vs H Q E h=>?_) (fun _ _ _ _ _ _ us hl=>match us,hl with|[_,_],_=>rfl) (fun f cdv A outer s H vs Q E hr h=>?_)
 ·obtain ⟨n,p,ws,N,rfl,_⟩:=h
  rfl
 obtain ⟨n,p,ws,N,rfl,hT,hA,n0,n22,nN,N40,q⟩:=h
 obtain ⟨a_AA,m_AA,t_AA⟩:=T.c_AA
 refine ⟨_, (z04 (z0g (i := 2) sc_Ae.nd rfl (by walk_at "lc") (z1c (z00 (z1g (v := .ref a_AA) rfl m_AA rfl) z01)))
   (z04 (z1b PassesOwn.never rfl (z7b rfl T.b_range (z00 (qpv 0) (z00 (z3i z3g z02) (z00 (z3i z3g z02) z01)))) (z0l (i:=3) sc_Ae.nd rfl (by walk_at "lc")) (z05 (z5n (ze2 PySem.F.plainAttrs_list PySem.F.slot_list_append PySem.F.type_list_append z4p (qpv 2) (z00 (z09 (d_AD T) hr (z00 (z09 (d_Ay T) hr (z00 (z09 (d_A3 T) hr (z00 (z0c z27 (qpv 0) z02) (z00 (qpv 3) z01))) (z00 (z0c z27 (qpv 0) z02) z01))) (z00 (z0o ix_tup (qpv 1) (qpv 3) (fun _ _=>rfl)) z01))) z01)))))
   (z05 (z0d (z1e z1o rfl T.b_tuple z2i (z00 (qpv 2) z01)))))),?_⟩
 have hsz:sizeLine=16777216:=sizeLine_eq
 have wl:ws.length=N+1:=by have:=hA.length;rw[List.length_map,z3c]at this;exact this
 refine ⟨len1,fun l fl=>?_⟩
 have u0:=z0a fl (.lst [.ref a_AA])
 refine ⟨_,rfl,1,rfl,1,rfl,?_⟩
 refine ⟨n,-1,-1,rfl,by decide,⟨by decide,by decide⟩,⟨by omega,by omega,by decide,by decide⟩,?_⟩
 have er:(Builtin.Range.rangeSize n (-1) (-1)).toNat=n.toNat+1:=by
  unfold Builtin.Range.rangeSize
  simp
  omega
 rw[er]
 refine z7i (fun i σ H2=>∃(z:Option V) (us:List V),σ=[some (.int n),some (.ref p),some (.ref l),z]∧(∀b o,H b=some o→H2 b=some o)∧H2 l=some (.lst us)∧DvAll K H2 us ((tab (i+1) (spG (z3k n.toNat) n.toNat)).map sh)) ⟨none,_,rfl,fun b o e=>u0 b o e,z06,.cons (Dv.con t_AA rfl rfl _) .nil⟩ ?_ ?_
 ·rintro i σ H2 hi ⟨z,us,rfl,s2,hl,du⟩
  have s2':Same H H2:=s2
  have ul:us.length=i+1:=by have:=du.length;rw[List.length_map,z0v]at this;exact this
  have hw:ws[n.toNat-i]?=some (ws[n.toNat-i]'(by omega)):=List.getElem?_eq_getElem (by omega)
  have ea:=z2c (xs:=ws) (j:=n.toNat-i) hw
  rw[show ((n.toNat-i:Nat):Int)=n+(i:Int) * -1 by omega]at ea
  have dw:=(hA.share hw).2
  rw[z5l (k:=n.toNat) nN (by omega)]at dw
  have ec:chI (n+1) (n+(i:Int) * -1)=((ch (n.toNat+1) (n.toNat-i):Nat):Int):=by
   unfold chI;rw[if_pos (by omega)]
   congr 2<;>omega
  have bn:Bt 6 (n+1):=Bt.of_lt 64 (by omega) (by omega) (by decide)
  refine ⟨_,rfl,.inl ⟨rfl,_,SqL.of hl⟩,_,rfl,_,_,rfl,rfl,_,rfl,n+1,n+(i:Int) * -1,rfl,by omega,by omega,?_⟩
  rw[ec]
  refine ⟨_,rfl,_,_,rfl,rfl,_,n+1,rfl,by omega,bn.mono (by decide),fun v3 H3 s3 d3=>?_⟩
  refine ⟨_,rfl,_,rfl,p,ws,_,_,rfl,rfl,s3.seqT (s2'.seqT hT),ea,?_⟩
  have bc:Bs 61 (Rat.divInt ((ch (n.toNat+1) (n.toNat-i):Nat):Int) (n+1)):=Bs.divInt (zhq _ _ (by omega)) (bn.mono (by decide)) (by omega)
  refine ⟨_,_,_,_,rfl,d3,(dw.mono s2').mono s3,bc.mono (by decide),(z2b (znf (k:=n.toNat) (by omega)) (by decide) _).mono (by decide),fun v4 H4 s4 d4=>?_⟩
  have hl4:=s4 _ _ (s3 _ _ hl)
  have kp:Keep H4 (upd H4 l (.lst (us++[v4]))):=z1r hl4
  refine ⟨l,us,v4,rfl,rfl,hl4,by omega,?_⟩
  refine ⟨_,us++[v4],rfl,fun b o e=>?_,z06,?_⟩
  ·rw[z0f (z0m e fl)];exact s4 _ _ (s3 _ _ (s2 _ _ e))
  ·rw[z5h (i+1),List.map_append]
   have e:spG (z3k n.toNat) n.toNat (i+1)=Rat.divInt ((ch (n.toNat+1) (n.toNat-i):Nat):Int) (n+1)*(z3k n.toNat).getD (n.toNat-i) 0:=by
    unfold spG
    rw[if_neg (by omega),show n.toNat+1-(i+1)=n.toNat-i by omega,show ((n.toNat:Nat):Int)+1=n+1 by omega]
   rw[←e]at d4
   exact (((du.mono s3).mono s4).kshs kp).append (.cons (d4.ksh kp) .nil)
 ·rintro σ H2 ⟨z,us,rfl,s2,hl,du⟩
  refine ⟨_,rfl,l,us,rfl,.inl ⟨SqL.of hl,fun t ht=>?_⟩⟩
  have st:=z0a ht (.tup us)
  exact q _ _ _ (fun b o e=>st _ _ (s2 _ _ e)) (SqT.of z06) (du.mono st)
noncomputable def sp_AW (K:W.Frag):Sp:=fun vs H Q _=>∃(t:V) (n:Nat) (many:Int) (great:Bool),vs=[t,.int many,.bl great]∧Fd H t n∧n≤2^20∧0≤many∧many≤21∧∀p ws rs H',SqT K H' p ws→DvAll K H' ws (rs.map sh)→rs.length=many.toNat→(∀r∈rs,Bs (if great then 40 else 5) r)→z0x rs=true→Fd H' t (n+5000)→SF t H H'→Q (.ref p) H'
theorem sc_AW:FnScope ["_law_feed_here","_law_many","_law_great","_law_found"] ["_law_feed_here","_law_many","_law_great"] (z08 s_AW):=⟨rfl,rfl,rfl,by decide +kernel,rfl,by decide +kernel,by decide +kernel⟩
theorem d_AW (T:Txt K mg):Def P w K mg base "_law_poly" ["_law_feed_here","_law_many","_law_great"] 4 (sp_AW K):=by
 refine Def.mkq T.f_AW sc_AW (fun vs H Q E h=>?_) (fun _ _ _ _ _ _ us hl=>match us,hl with|[_,_,_],_=>rfl) (fun f cdv A outer s H vs Q E hr h=>?_)
 ·obtain ⟨t,n,many,great,rfl,_⟩:=h
  rfl
 obtain ⟨t,n,many,great,rfl,T0,hn,m0,m1,q⟩:=h
 refine ⟨_, (z04 (z7x (i := 3) (N := ["_law_k", "_law_great", "_law_feed_here"]) (is := [none, some 2, some 0]) sc_AW.nd rfl rfl rfl ⟨rfl, rfl, by decide +kernel, by decide +kernel, ⟨rfl, ⟨rfl, trivial⟩⟩, rfl, ⟨⟨rfl, rfl, rfl⟩, ⟨⟨rfl, rfl, rfl⟩, trivial⟩⟩⟩ (z22 rfl T.b_range (z00 (qpv 1) z01)) (fun _ _ _ _ _ => (z0l (i := 0) (show List.Nodup (["_law_k", "_law_great", "_law_feed_here"] : List Str) from by decide +kernel) rfl (by walk_at "lc"))) (fun _ _ _ _ _ => z66) (fun _ _ _ _ _ => (z2t (z25 (qpv 1)) (z09 (d_Ar T) hr (z00 (qpv 2) z01)) (z09 (d_AK T) hr (z00 (qpv 2) z01)))))
   (z04 (z1a (QW.pt (z48 (z0k zcv (qpv 1) z02 (z0s _)) (z3d (z0k z6d (z0o ix_tup (z0o ix_list (qpv 3) (z3i z3g z02) (fun _ _=>rfl)) z02 (fun _ _=>rfl)) z02 (z0s _))))) (z05 (z2s (z0n (z00 z02 (z00 z02 z01))) (z49 (qpv 3) (z3i z3g z02) z3b))) z0r)
   (z05 (z0d (z1e z1o rfl T.b_tuple z2i (z00 (qpv 3) z01)))))),?_⟩
 refine ⟨_,rfl,many,rfl,by omega,by omega,fun D fD=>?_⟩
 refine zd6 (K:=K) (t:=t) (m:=n) (B:=if great then 40 else 5) T0 fD (by omega) (fun σ'=>∃z,σ'=[z,some (.bl great),some t]) ⟨_,rfl⟩ ?_ ?_ ?_ ?_
 ·rintro i σ' H' Q' ⟨z,rfl⟩ h
  exact h _ ⟨_,rfl⟩
 ·exact fun σ' H' Q' _ h=>h
 ·rintro σ' H' k Q' ⟨z,rfl⟩ T hk h
  refine ⟨_,rfl,_,rfl,?_⟩
  cases great with
  | true=>exact z9z ⟨_,rfl,t,k,rfl,T,by omega,fun v x H6 bx dx T6 S6=>h v x H6 bx dx (T6.mono (by omega)) S6⟩
  | false=>exact z8o ⟨_,rfl,t,k,rfl,T,by omega,fun v x H6 bx dx T6 S6=>h v x H6 bx dx (T6.mono (by omega)) S6⟩
 intro ws rs H3 hD hA hlen hb T3 S3
 have wl:ws.length=rs.length:=by have:=hA.length;simpa using this
 have ht:=T0.ne fD
 have fin:∀(H4:Hp)(us:List V)(ys:List Rat),H4 D=some (.lst us)→DvAll K H4 us (ys.map sh)→ys.length=many.toNat→(∀r∈ys,Bs (if great then 40 else 5) r)→z0x ys=true→Fd H4 t (n+2100)→SF t H H4→∀p,H4 p=none→Q (.ref p) (upd H4 p (.tup us)):=fun H4 us ys h1 h2 h3 h4 h5 h6 h7 p hp=>
  q p us ys _ (SqT.of z06) (h2.mono (z0a hp _)) h3 h4 h5 ((h6.same (z0a hp _)).mono (by omega)) (h7.trans (z0a hp _).sf)
 refine ⟨_,rfl,_,_,rfl,rfl,_,rfl,?_⟩
 by_cases hm:0<many
 ·rw[decide_eq_true hm]
  refine z9z ?_
  have hpos:0<rs.length:=by omega
  have h0:rs≠[]:=fun z=>by rw[z]at hpos;simp at hpos
  obtain ⟨vl,hx⟩:∃v,ws[ws.length-1]?=some v:=⟨_,List.getElem?_eq_getElem (by omega)⟩
  have dx:=(hA.share hx).2
  rw[wl]at dx
  obtain ⟨px,rfl,tx⟩:=dx.sh_inv
  refine ⟨_,rfl,_,rfl,D,ws,_,_,rfl,rfl,SqL.of hD,zaz hx,?_⟩
  refine ⟨px,_,_,_,rfl,rfl,tx,at0,rfl,_,rfl,?_⟩
  by_cases hz:rs.getD (rs.length-1) 0=0
  ·have e1:decide (V.int (rs.getD (rs.length-1) 0).num=V.int 0)=true:=decide_eq_true (by rw[hz];rfl)
   rw[e1]
   refine z9z ?_
   refine ⟨len2,fun p6 f6=>?_⟩
   have s6:=z0a f6 (.tup [.int 1,.int 1])
   have hD6:=s6 _ _ hD
   have hA6:=hA.mono s6
   have T6:=T3.same s6
   have S6:SF t H _:=S3.trans s6.sf
   refine ⟨_,rfl,_,rfl,D,ws,-1,ws.length-1,rfl,rfl,hD6,zlm (by omega),?_⟩
   have kp:Keep (upd H3 p6 (.tup [.int 1,.int 1])) (upd (upd H3 p6 (.tup [.int 1,.int 1])) D (.lst (ws.set (ws.length-1) (.ref p6)))):=z1r hD6
   have dn:Dv K (upd H3 p6 (.tup [.int 1,.int 1])) (.ref p6) (sh 1):=Dv.sh_of z06 rfl rfl
   have hA7:DvAll K (upd (upd H3 p6 (.tup [.int 1,.int 1])) D (.lst (ws.set (ws.length-1) (.ref p6)))) (ws.set (ws.length-1) (.ref p6)) ((rs.set (rs.length-1) 1).map sh):=by
    rw[List.map_set,←wl]
    exact ((hA6.kshs kp).set _ (dn.ksh kp))
   have T7:=T0.updD (D:=D) (o:=.lst (ws.set (ws.length-1) (.ref p6))) S6 T6 fD
   have S7:=S6.updD (o:=.lst (ws.set (ws.length-1) (.ref p6))) T0 fD
   have hD7:upd (upd H3 p6 (.tup [.int 1,.int 1])) D (.lst (ws.set (ws.length-1) (.ref p6))) D=some (.lst (ws.set (ws.length-1) (.ref p6))):=z06
   generalize upd (upd H3 p6 (.tup [.int 1,.int 1])) D (.lst (ws.set (ws.length-1) (.ref p6)))=H7 at hA7 T7 S7 hD7
   refine ⟨_,rfl,D,_,rfl,.inl ⟨SqL.of hD7,fun p hp=>?_⟩⟩
   refine fin H7 _ (rs.set (rs.length-1) 1) hD7 hA7 (by rw[List.length_set];exact hlen) (fun r hr=>?_) ?_ (T7.mono (by omega)) S7 p hp
   ·rcases List.mem_or_eq_of_mem_set hr with h|h
    ·exact hb r h
    ·rw[h]
     have:Bs 5 (1:Rat):=⟨by decide,by decide⟩
     exact this.mono (by split<;>decide)
   ·unfold z0x
    have e2:(rs.set (rs.length-1) (1:Rat)).getD ((rs.set (rs.length-1) (1:Rat)).length-1) 0=1:=by
     rw[List.length_set,List.getD_eq_getElem?_getD,List.getElem?_set_self (by omega)];rfl
    rw[e2]
    simp
  ·have e1 : decide (V.int (rs.getD (rs.length-1) 0).num = V.int 0) = false := decide_eq_false fun h => by
    injection h with h;exact hz (Rat.num_eq_zero.mp h)
   rw[e1]
   refine z8o ?_
   refine ⟨_,rfl,D,ws,rfl,.inl ⟨SqL.of hD,fun p hp=>?_⟩⟩
   exact fin H3 ws rs hD hA hlen hb (by unfold z0x;rw[decide_eq_false h0,decide_eq_false hz];rfl) (T3.mono (by omega)) S3 p hp
 ·rw[decide_eq_false hm]
  refine z8o ?_
  have h0:rs=[]:=List.length_eq_zero_iff.mp (by omega)
  refine ⟨_,rfl,D,ws,rfl,.inl ⟨SqL.of hD,fun p hp=>?_⟩⟩
  exact fin H3 ws rs hD hA hlen hb (by rw[h0];rfl) (T3.mono (by omega)) S3 p hp
noncomputable def zp_AW:ZSp:=fun ws n Q=>∃(many:Int) (great:Bool),ws=[.t 2,.d (.int many),.d (.bool great)]∧n≤2^20∧0≤many∧many≤21∧∀rs:List Rat,rs.length=many.toNat→(∀r∈rs,Bs (if great then 40 else 5) r)→z0x rs=true→Q (.d (pl rs)) (n+5000)
theorem ca_AW:CallOk K (sp_AW K) zp_AW:=fun vs H Q ⟨M,ws,n,Qd,ok,r,⟨many,great,e,h1,h2,h3,q⟩,k⟩=>by
 subst e
 obtain ⟨v1,v2,v3,rfl,r1,r2,r3⟩:=r.inv3
 obtain ⟨rfl,hk⟩:=r1
 rw[r2.int_inv]
 obtain rfl:v3=.bl great:=by cases r3;rfl
 exact ⟨M.val,n,many,great,rfl,M.tp2 hk ok,h1,h2,h3,fun p ws' rs H' t d l1 l2 l3 T S=>k.dvF hk ok S T (Dv.pl t d) (z32 _) (q rs l1 l2 l3)⟩
noncomputable def zp_AY:ZSp:=fun ws n Q=>∃(qs rs:List Rat) (D E:Int) (c:Nat),ws=[.d (pl qs),.d (pl rs)]∧qs.length≤22∧rs.length≤22∧D≠0∧Bt c D∧(∀r∈qs,Cd D c r)∧E≠0∧Bt c E∧(∀r∈rs,Cd E c r)∧c≤1500∧(∀y,hor (y+1) rs+hor y rs=hor y qs)∧Q (.d (.bool true)) n
theorem sc_AY:FnScope ["_law_kq","_law_thing","_law_whole","_law_many","_law_sign","_law_last"] ["_law_kq","_law_thing"] (z08 s_AY):=⟨rfl,rfl,rfl,by decide +kernel,rfl,by decide +kernel,by decide +kernel⟩
theorem d_AY (T:Txt K mg):Def P w K mg base "_law_tells" ["_law_kq","_law_thing"] 4 (zc3 K zp_AY):=by
 refine Def.mkn T.f_AY sc_AY (fun ws n Q h => ?_) (fun _ _ _ _ _ _ us hl => match us, hl with|[_, _], _ => rfl) (fun f cdv A outer s H E hr => ⟨_, _, (z04 (z0g (i := 2) sc_AY.nd rfl (by walk_at "lc") (z0n (z00 z02 (z00 z02 z01))))
   (z04 (z1b PassesOwn.never rfl (z22 rfl T.b_range (z00 z02 z01)) (z0l (i:=3) sc_AY.nd rfl (by walk_at "lc")) (z04 (z0g (i:=4) sc_AY.nd rfl (by walk_at "lc") (z0c z20 z02 (z0c (z6b (K:=K) rfl) z02 (z0c z3s (qpv 3) z02))))
   (z04 (z0g (i:=5) sc_AY.nd rfl (by walk_at "lc") (z09 (d_AH T) hr (z00 (z0n (z00 (z0c z20 z02 (qpv 4)) (z00 z02 z01))) (z00 (z09 (d_AI T) hr (z00 (qpv 1) (z00 (z0n (z00 (qpv 3) (z00 z02 z01))) z01))) z01))))
   (z04 (z1a (z0k (zbx (K:=K) rfl hr) (z09 (d_AL T) hr (z00 (z09 (d_AI T) hr (z00 (qpv 1) (z00 (z0n (z00 z02 (z00 z02 z01))) z01))) (z00 (qpv 5) z01))) (qpv 2) (z0s _)) (z05 (z0d z1x)) z0r)
   (z05 (z0g (i:=2) sc_AY.nd rfl (by walk_at "lc") (z09 (d_AL T) hr (z00 (qpv 2) (z00 (z09 (d_AH T) hr (z00 (z0n (z00 (qpv 4) (z00 z02 z01))) (z00 (z09 (d_AI T) hr (z00 (qpv 0) (z00 (z0n (z00 (qpv 3) (z00 z02 z01))) z01))) z01))) z01)))))))))
   (z05 (z0d z1x)))),(z1p (z2k (b:=false) (SmE.x (z1j (z03 z0j (z03 z0j z0b)))))
   (z1p (z8y (z7r (z03 z0j z0b)) z6e (z1p (z2k (b:=false) (SmE.x (z0t z9h z0j (z0t zey z0j (z0t zry z07 z0j)))))
   (z1p (z2k (b:=false) (SmE.x (z0h ca_AH (z03 (z1j (z03 (z0t z9h z0j z07) (z03 z0j z0b))) (z03 (z0h ca_AI (z03 z07 (z03 (z1j (z03 z07 (z03 z0j z0b))) z0b))) z0b)))))
   (z1p (zcq (b:=false) (SmT.x (z9y (z0t zq9 (z0h ca_AL (z03 (z0h ca_AI (z03 z07 (z03 (z1j (z03 z0j (z03 z0j z0b))) z0b))) (z03 z07 z0b))) z07))) (z3m (b:=false) (SmE.x z3o)) z4v)
   (z2k (b:=false) (SmE.x (z0h ca_AL (z03 z07 (z03 (z0h ca_AH (z03 (z1j (z03 z07 (z03 z0j z0b))) (z03 (z0h ca_AI (z03 z07 (z03 (z1j (z03 z07 (z03 z0j z0b))) z0b))) z0b))) z0b)))))))))
   (z3m (b:=false) (SmE.x z3o)))),fun ws n Q h=>?_⟩)
 ·obtain ⟨qs,rs,D,E,c,rfl,_⟩:=h
  rfl
 obtain ⟨qs,rs,D,E,c,rfl,ql,rl,D0,bD,hD,E0,bE,hE,hc,hs,q⟩:=h
 refine ⟨⟨by decide,by decide⟩,?_⟩
 have b0:Bt 4 (0:Int):=by decide
 have v0:=fun t=>zb2 E0 bE hE rl b0 t
 refine z6a (fun i δ k=>k=n∧∃a3 a4 a5,δ=[some (.d (pl qs)),some (.d (pl rs)),some (.d (sh (hor ((0:Int):Rat) rs+(((0-(1-2*((i:Int)%2)):Int)):Rat)*hor ((i:Int):Rat) rs))),a3,a4,a5]) ⟨rfl,none,none,none,?_⟩ (fun i d δ k R hd hp hR=>?_) (fun δ k hp=>?_)
 ·have e : hor ((0 : Int) : Rat) rs+(((0-(1-2*((((0 : Nat) : Int))%2)) : Int)) : Rat)*hor ((((0 : Nat) : Int)) : Rat) rs = 0 := by
   show hor ((0:Int):Rat) rs+(((-1:Int)):Rat)*hor ((0:Int):Rat) rs=0
   rw[show (((-1:Int)):Rat)=-1 from rfl];grind
  rw[e];rfl
 ·obtain ⟨rfl,a3,a4,a5,rfl⟩:=hp
  obtain ⟨hi,rfl⟩:=z4k hd
  rw[Int.zero_add]
  have hi7:i<7:=hi
  have bz:Bt 4 (i:Int):=Bt.of_lt 16 (by omega) (by omega) (by decide)
  have v1:=fun t=>zb2 E0 bE hE rl bz t
  have v2:=fun t=>zb2 D0 bD hD ql bz t
  have bq:∀r∈qs,Bs 4400 r:=fun r h=>(Cd.bs D0 (hD r h) bD (Nat.le_refl _)).mono (by omega)
  have br:∀r∈rs,Bs 4400 r:=fun r h=>(Cd.bs E0 (hE r h) bE (Nat.le_refl _)).mono (by omega)
  obtain ⟨s,hs2,hs3⟩:∃s:Int,s=1-2*((i:Int)%2)∧(s=1∨s=-1):=⟨_,rfl,by omega⟩
  have es:(0-(1-2*(((i+1:Nat):Int)%2)):Int)=s:=by omega
  have bs1:Bs 1 ((s:Int):Rat):=by rcases hs3 with rfl|rfl<;>exact ⟨by decide,by decide⟩
  have bs0:Bs 1 (((0-s:Int)):Rat):=by rcases hs3 with rfl|rfl<;>exact ⟨by decide,by decide⟩
  refine r_mod (by decide) ?_
  refine zdz (.inl ⟨by decide,by decide⟩) ?_
  refine r_sub ?_
  rw[←hs2]
  refine r_sub ?_
  refine ⟨rs,((i:Int):Rat),_,4,rfl,bz.bs1,br,v1,by omega,?_⟩
  refine ⟨(((0-s:Int)):Rat),_,rfl,bs0.mono (by decide),(v1 0).mono (by omega),?_⟩
  refine ⟨rs,((0:Int):Rat),_,4,rfl,b0.bs1,br,v0,by omega,?_⟩
  refine ⟨_,_,rfl,(v0 0).mono (by omega),(bs0.mul (v1 0)).mono (by omega),?_⟩
  refine zke (.sh _ _) ?_
  rw[z92,decide_eq_true rfl]
  refine ⟨qs,((i:Int):Rat),_,4,rfl,bz.bs1,bq,v2,by omega,?_⟩
  refine ⟨((s:Int):Rat),_,rfl,bs1.mono (by decide),(v2 0).mono (by omega),?_⟩
  refine ⟨_,_,rfl,((v0 0).add (bs0.mul (v1 0))).mono (by omega),(bs1.mul (v2 0)).mono (by omega),?_⟩
  have e:hor ((0:Int):Rat) rs+(((0-s:Int)):Rat)*hor ((i:Int):Rat) rs+((s:Int):Rat)*hor ((i:Int):Rat) qs=hor ((0:Int):Rat) rs+(((0-(1-2*(((i+1:Nat):Int)%2)):Int)):Rat)*hor ((((i+1:Nat):Int)):Rat) rs:=by
   rw[es,←hs,show (((i+1:Nat):Int):Rat)=((i:Int):Rat)+1 by push_cast;rfl,show (((0-s:Int)):Rat)=- ((s:Int):Rat) by rw[Int.zero_sub,Rat.intCast_neg]]
   grind
  rw[e]
  exact hR _ _ ⟨rfl,_,_,_,rfl⟩
 ·obtain ⟨rfl,a3,a4,a5,rfl⟩:=hp
  exact q
noncomputable def zp_Ad:ZSp:=fun ws n Q=>∃(d:PyData) (m:Int),ws=[.d d,.d (.int m)]∧Q (.d (.bool (pwB m d))) n
theorem sc_Ad:FnScope ["thing","most"] ["thing","most"] (z08 s_Ad):=⟨rfl,rfl,rfl,by decide +kernel,rfl,by decide +kernel,by decide +kernel⟩
theorem d_Ad (T:Txt K mg):Def P w K mg base "is_poly_within" ["thing","most"] 5 (zc3 K zp_Ad):=by
 refine Def.mkz T.f_Ad sc_Ad (fun ws n Q h=>?_) (fun _ _ _ _ _ _ us hl=>match us,hl with|[_,_],_=>rfl) (fun f cdv A outer s H E hr=>⟨_,_,(z05 (z0d (z68 (z0i (zft (K:=K) rfl) rfl T.b_isinstance z2a (z00 (qpv 0) (z00 (z4n (v:=.ty "tuple") rfl T.b_tuple z2i rfl) z01))) (z68 (z2n zok (z0i (z2v (K:=K) rfl) rfl T.b_len z1v (z00 (qpv 0) z01)) (qpv 1) (z0s _)) (z67 (z09 (d_AT T) hr (z00 (qpv 0) z01))))))),(z2w (za5 (z4h zs0 (z03 z07 (z03 (zqz .tuple) z0b))) (za5 (z0t zu0 (z4h zaq (z03 z07 z0b)) z07) (z0h ca_AT (z03 z07 z0b))))),fun ws n Q h=>?_⟩)
 ·obtain ⟨d,m,rfl,_⟩:=h
  rfl
 obtain ⟨d,m,rfl,q⟩:=h
 cases d with
 | tuple ds=>
  refine r_isi ?_
  refine r_lenT ?_
  have q':Q (.d (.bool (decide ((ds.length:Int)≤m)&&z6y (.tuple ds)))) n:=q
  refine ztj (fun c=>?_) (fun c=>?_)
  ·rw[decide_eq_true c]at q'
   exact ⟨_,rfl,q'⟩
  ·rw[decide_eq_false (Int.not_le.mpr c)]at q'
   exact q'
 | _=>exact r_isi q
noncomputable def sp_AP (K:W.Frag):Sp:=fun vs H Q _=>∃(p:Addr) (ws:List V) (rs:List Rat) (v:V) (x:Rat),vs=[.ref p,v]∧SqT K H p ws∧DvAll K H ws (rs.map sh)∧rs.length≤500∧Dv K H v (sh x)∧Bs 2000 x∧(∀r∈rs,Bs 4400 r)∧(∀i,∀r∈mvL x (rs.drop i),Bs 2000 r)∧∀p' ws' H',Same H H'→SqT K H' p' ws'→DvAll K H' ws' ((mvL x rs).map sh)→Q (.ref p') H'
theorem sc_AP:FnScope ["poly","share","moved","number"] ["poly","share"] (z08 s_AP):=⟨rfl,rfl,rfl,by decide +kernel,rfl,by decide +kernel,by decide +kernel⟩
theorem d_AP (T:Txt K mg):Def P w K mg base "poly_moved" ["poly","share"] 5 (sp_AP K):=by
 refine Def.mkq T.f_AP sc_AP (fun vs H Q E h=>?_) (fun _ _ _ _ _ _ us hl=>match us,hl with|[_,_],_=>rfl) (fun f cdv A outer s H vs Q E hr h=>?_)
 ·obtain ⟨p,ws,rs,v,x,rfl,_⟩:=h
  rfl
 obtain ⟨p,ws,rs,v,x,rfl,hT,hA,hlen,hx,bx,hb,hm,q⟩:=h
 obtain ⟨a_At,m_At,t_At⟩:=T.c_At
 refine ⟨_, (z04 (z0g (i := 2) sc_AP.nd rfl (by walk_at "lc") (z0n z01))
   (z04 (z1b PassesOwn.never rfl (ze1 rfl T.b_reversed (z00 (qpv 0) z01)) (z0l (i:=3) sc_AP.nd rfl (by walk_at "lc")) (z05 (z0g (i:=2) sc_AP.nd rfl (by walk_at "lc") (z09 (d_AO T) hr (z00 (z09 (d_Ab T) hr (z00 (qpv 2) (z00 (z0n (z00 (qpv 1) (z00 (z1g (v:=.ref a_At) rfl m_At rfl) z01))) z01))) (z00 (z0n (z00 (qpv 3) z01)) z01))))))
   (z05 (z0d (qpv 2))))),?_⟩
 have wl:ws.length=rs.length:=by have:=hA.length;simpa using this
 refine ⟨by show 0≤sizeLine;omega,fun p0 f0=>?_⟩
 have s0:=z0a f0 (.tup [])
 refine ⟨_,rfl,p,ws,rfl,s0.seqT hT,?_⟩
 refine zf7 (K:=K) (a:=p) (xs:=ws) (fun i σ H2=>∃(pm:Addr) (wm:List V) (z:Option V),σ=[some (.ref p),some v,some (.ref pm),z]∧Same H H2∧SqT K H2 pm wm∧DvAll K H2 wm ((mvL x (rs.drop (rs.length-i))).map sh)) ⟨p0,[],none,rfl,s0,SqT.of z06,by rw[Nat.sub_zero,List.drop_length];exact .nil⟩ (fun i σ H2 _ ⟨_,_,_,_,s,_⟩=>s.seqT hT) ?_ ?_
 ·rintro i w σ H2 hi hw ⟨pm,wm,z,rfl,s2,tm,dm⟩
  obtain ⟨hj,dw⟩:=hA.share hw
  have eh:mvL x (rs.drop (rs.length-(i+1)))=mvS x (mvL x (rs.drop (rs.length-i))) (rs.getD (ws.length-1-i) 0):=by
   rw[show rs.length-(i+1)=ws.length-1-i by omega,List.drop_eq_getElem_cons hj,show ws.length-1-i+1=rs.length-i by omega,List.getD_eq_getElem?_getD,List.getElem?_eq_getElem hj]
   rfl
  have h3:=hm (rs.length-i)
  have h3':=hm (rs.length-(i+1))
  rw[eh]at h3'
  have h1:(mvL x (rs.drop (rs.length-i))).length≤500:=by
   have:=z3e x (rs.drop (rs.length-i))
   rw[List.length_drop]at this
   omega
  refine ⟨_,rfl,_,rfl,len2,fun p3 f3=>?_⟩
  have s3:=z0a f3 (.tup [v,.ref a_At])
  have d3:DvAll K (upd H2 p3 (.tup [v,.ref a_At])) [v,.ref a_At] ([x,1].map sh):=.cons ((hx.mono s2).mono s3) (.cons (Dv.con t_At rfl rfl _) .nil)
  have b3:∀r∈[x,1],Bs 2000 r:=fun r hr=>by
   simp only[List.mem_cons,List.not_mem_nil,or_false]at hr
   rcases hr with rfl|rfl
   ·exact bx
   ·exact Bs.mono (m:=1) ⟨by decide,by decide⟩ (by decide)
  refine ⟨pm,p3,wm,_,_,[x,1],rfl,s3.seqT tm,dm.mono s3,SqT.of z06,d3,by omega,by show 2≤1000;decide,fun r hr=>(h3 r hr).mono (by decide),fun r hr=>(b3 r hr).mono (by decide),zmj h3 b3,fun p4 w4 H4 s4 t4 d4=>?_⟩
  refine ⟨_,rfl,len1,fun p5 f5=>?_⟩
  have s5:=z0a f5 (.tup [w])
  have b4:∀r∈z1n (z86 (mvL x (rs.drop (rs.length-i))) [x,1]),Bs 4400 r:=zjk h3 bx h3'
  have l4:(z1n (z86 (mvL x (rs.drop (rs.length-i))) [x,1])).length≤1000:=by
   have:=z38 (z86 (mvL x (rs.drop (rs.length-i))) [x,1])
   unfold z86 at this
   rw[z0v]at this
   have e2:[x,1].length=2:=rfl
   unfold z86
   omega
  refine ⟨p4,p5,w4,[w],_,[rs.getD (ws.length-1-i) 0],rfl,s5.seqT t4,d4.mono s5,SqT.of z06,.cons ((((dw.mono s2).mono s3).mono s4).mono s5) .nil,l4,by show 1≤1000;decide,b4,fun r hr=>?_,fun p6 w6 H6 s6 t6 d6=>?_⟩
  ·rw[List.mem_singleton.mp hr];exact hb _ (z18 hj)
  exact ⟨p6,w6,_,rfl,s2.trans (s3.trans (s4.trans (s5.trans s6))),t6,by rw[eh];exact d6⟩
 ·rintro σ H2 ⟨pm,wm,z,rfl,s2,tm,dm⟩
  rw[wl,Nat.sub_self,List.drop_zero]at dm
  exact ⟨_,rfl,q _ _ _ s2 tm dm⟩
noncomputable def zp_AP:ZSp:=fun ws n Q=>∃(rs:List Rat) (x:Rat),ws=[.d (pl rs),.d (sh x)]∧rs.length≤500∧Bs 2000 x∧(∀r∈rs,Bs 4400 r)∧(∀i,∀r∈mvL x (rs.drop i),Bs 2000 r)∧Q (.d (pl (mvL x rs))) n
theorem ca_AP:CallOk K (sp_AP K) zp_AP:=fun vs H Q ⟨M,ws,n,Qd,ok,r,⟨rs,x,e,h1,h2,h3,h4,q⟩,k⟩=>by
 subst e
 obtain ⟨v1,v2,rfl,r1,r2⟩:=r.inv2
 obtain ⟨p,ws1,rfl,tp,da⟩:=r1.pl_inv
 exact ⟨p,ws1,rs,v2,x,rfl,tp,da,h1,r2.dv,h2,h3,h4,fun p' ws' H' s t d=>k.dvS ok s (Dv.pl t d) (z32 _) q⟩
noncomputable def sp_AC (K:W.Frag):Sp:=fun vs H Q _=>∃(p:Addr) (ws:List V) (rs G:List Rat) (E:Int) (c:Nat),vs=[.ref p]∧SqT K H p ws∧DvAll K H ws (rs.map sh)∧rs.length≤40∧G.length=rs.length∧(∀t,z16 1 1 G t+G.getD t 0=rs.getD t 0)∧(∀r∈rs,Bs 4200 r)∧E≠0∧Bt c E∧(∀r∈G,Cd E c r)∧c≤2000∧∀p' ws' H',Same H H'→SqT K H' p' ws'→DvAll K H' ws' (G.map sh)→Q (.ref p') H'
theorem sc_AC:FnScope ["poly","numbers","k"] ["poly"] (z08 s_AC):=⟨rfl,rfl,rfl,by decide +kernel,rfl,by decide +kernel,by decide +kernel⟩
theorem d_AC (T:Txt K mg):Def P w K mg base "signed" ["poly"] 5 (sp_AC K):=by
 refine Def.mkq T.f_AC sc_AC (fun vs H Q E h=>?_) (fun _ _ _ _ _ _ us hl=>match us,hl with|[_],_=>rfl) (fun f cdv A outer s H vs Q E hr h=>?_)
 ·obtain ⟨p,ws,rs,G,E,c,rfl,_⟩:=h
  rfl
 obtain ⟨p,ws,rs,G,E,c,rfl,hT,hA,hlen,gl,hG,hb,E0,bE,hE,hc,q⟩:=h
 obtain ⟨a_AA,m_AA,t_AA⟩:=T.c_AA
 refine ⟨_, (z04 (z0g (i := 1) sc_AC.nd rfl (by walk_at "lc") (z0c zeg (z1c (z00 (z1g (v := .ref a_AA) rfl m_AA rfl) z01)) (z0i z0p rfl T.b_len z1v (z00 (qpv 0) z01))))
   (z04 (z1b PassesOwn.never rfl (z7b rfl T.b_range (z00 (z0c z20 (z0i z0p rfl T.b_len z1v (z00 (qpv 0) z01)) z02) (z00 (z3i z3g z02) (z00 (z3i z3g z02) z01)))) (z0l (i:=2) sc_AC.nd rfl (by walk_at "lc")) (z05 (z2s (z09 (d_AD T) hr (z00 (z09 (d_A6 T) hr (z00 (z0o ix_tup (qpv 0) (qpv 2) (fun _ _=>rfl)) (z00 (z09 (d_AJ T) hr (z00 (qpv 1) (z00 (qpv 2) z01))) z01))) (z00 (z09 (d_Ay T) hr (z00 z02 (z00 z02 z01))) z01))) (z49 (qpv 1) (qpv 2) z3b))))
   (z05 (z0d (z1e z1o rfl T.b_tuple z2i (z00 (qpv 1) z01)))))),?_⟩
 have hsz:sizeLine=16777216:=sizeLine_eq
 have wl:ws.length=rs.length:=by have:=hA.length;simpa using this
 refine ⟨len1,fun l0 f0=>?_⟩
 have u0:=z0a f0 (.lst [.ref a_AA])
 refine ⟨_,rfl,p,ws,rfl,.inr (u0.seqT hT),?_⟩
 rw[wl]
 refine ⟨l0,_,_,rfl,rfl,z06,by omega,by omega,by show 1*((rs.length:Nat):Int).toNat≤_;omega,fun L fL=>?_⟩
 rw[zq6,show ((rs.length:Nat):Int).toNat=rs.length by omega]
 have u1:=z0a fL (.lst (List.replicate rs.length (V.ref a_AA)))
 have s1:=u0.trans u1
 have fL0:H L=none:=by
  cases e:H L with
  | none=>rfl
  | some o=>rw[u0 _ _ e]at fL;cases fL
 refine ⟨_,rfl,p,ws,rfl,.inr (s1.seqT hT),?_⟩
 rw[wl]
 refine ⟨_,_,rfl,rfl,1,rfl,1,rfl,?_⟩
 refine ⟨((rs.length:Nat):Int)-1,-1,-1,rfl,by decide,⟨by decide,by decide⟩,⟨by omega,by omega,by decide,by decide⟩,?_⟩
 have er:(Builtin.Range.rangeSize (((rs.length:Nat):Int)-1) (-1) (-1)).toNat=rs.length:=by
  unfold Builtin.Range.rangeSize
  simp
  omega
 rw[er]
 refine z7i (fun i σ H2=>∃(z:Option V) (us:List V),σ=[some (.ref p),some (.ref L),z]∧(∀b o,H b=some o→H2 b=some o)∧H2 L=some (.lst us)∧us.length=rs.length∧DvAll K H2 us ((tab rs.length fun t=>if rs.length-i≤t then G.getD t 0 else 0).map sh)) ⟨none,_,rfl,fun b o e=>s1 _ _ e,z06,by rw[List.length_replicate],?_⟩ ?_ ?_
 ·have e : tab rs.length (fun t => if rs.length-0 ≤ t then G.getD t 0 else 0) = List.replicate rs.length 0 := by
   have:=z1f (n:=rs.length) (f:=fun t=>if rs.length-0≤t then G.getD t 0 else 0) (g:=fun _=>0) fun i hi=>by rw[if_neg (by omega)]
   rw[this]
   unfold tab
   exact (List.map_eq_replicate_iff.mpr fun t _=>rfl).trans (by rw[List.length_range])
  rw[e,zam]
  exact DvAll.rep (Dv.con t_AA rfl rfl _) _
 ·rintro i σ H2 hi ⟨z,us,rfl,s2,hL2,ul,du⟩
  have s2':Same H H2:=s2
  obtain ⟨k,hk⟩:∃k:Nat,rs.length-1-i=k:=⟨_,rfl⟩
  have ek:((rs.length:Nat):Int)-1+(i:Int) * -1=(k:Int):=by omega
  rw[ek]
  have hw:ws[k]?=some (ws[k]'(by omega)):=List.getElem?_eq_getElem (by omega)
  have ea:=z2c hw
  have dw:=(hA.share hw).2
  have cX:∀r∈tab rs.length (fun t=>if rs.length-i≤t then G.getD t 0 else 0),Cd E c r:=fun r hr=>by
   obtain ⟨j,_,rfl⟩:=zjl hr
   split
   ·exact z1k hE j
   ·exact Cd.zero.mono (by omega)
  have xl:(tab rs.length (fun t=>if rs.length-i≤t then G.getD t 0 else 0)).length=rs.length:=z0v _ _
  have eab:above (tab rs.length (fun t=>if rs.length-i≤t then G.getD t 0 else 0)) k (rs.length-1-k)=above G k (G.length-1-k):=by
   unfold above
   rw[gl]
   refine z1s fun j hj=>?_
   rw[z23 (by omega),if_pos (by omega)]
  refine ⟨_,rfl,_,rfl,p,ws,_,_,rfl,rfl,s2'.seqT hT,ea,?_⟩
  refine ⟨_,rfl,_,rfl,L,us,_,(k:Int),E,c,rfl,hL2,du,by omega,by rw[xl];omega,by rw[xl];omega,E0,bE,cX,by omega,fun v3 H3 s3 d3=>?_⟩
  rw[xl,show ((k:Nat):Int).toNat=k by omega,eab]at d3
  have bab:Bs 4200 (above G k (G.length-1-k)):=(z5w E0 hE (G.length-1-k) (by omega)).bs E0 (bE.mono (show c≤4200 by omega)) (by omega)
  have s03:=s2'.trans s3
  have cab:Cd E (62+c+40) (above G k (G.length-1-k)):=(z5w E0 hE (G.length-1-k) (by omega)).mono (by omega)
  refine ⟨_,_,_,_,rfl,dw.mono s03,d3,(hb _ (z18 (by omega))).mono (by decide),bab.mono (by decide),fun v4 H4 s4 d4=>?_⟩
  have eG:(rs.getD k 0-above G k (G.length-1-k))*Rat.divInt 1 2=G.getD k 0:=by
   have h1:=hG k
   rw[z93 G (by omega)]at h1
   have h2:Rat.divInt 1 2=1/2:=by decide +kernel
   rw[h2];grind
  have bsub:Bs 4300 (rs.getD k 0-above G k (G.length-1-k)):=by
   have h1:=hG k
   rw[z93 G (by omega)]at h1
   have e2:rs.getD k 0-above G k (G.length-1-k)=G.getD k 0+G.getD k 0:=by grind
   rw[e2]
   exact ((Cd.add E0 (z1k hE k) (z1k hE k)).bs E0 (bE.mono (show c≤4300 by omega)) (by omega))
  refine ⟨1,2,rfl,by decide,by decide,fun v5 H5 s5 d5=>?_⟩
  refine ⟨_,_,_,_,rfl,d4.mono s5,d5,bsub.mono (by decide),(Bs.divInt (m:=2) (by decide) (by decide) (by decide)).mono (by decide),fun v6 H6 s6 d6=>?_⟩
  rw[eG]at d6
  have s26:=s3.trans (s4.trans (s5.trans s6))
  have hL6:=s26 _ _ hL2
  refine ⟨_,rfl,_,rfl,L,us,_,k,rfl,rfl,hL6,by unfold ixN;rw[if_pos (by omega),if_pos (by omega)];rfl,?_⟩
  have kp:Keep H6 (upd H6 L (.lst (us.set k v6))):=z1r hL6
  refine ⟨_,us.set k v6,rfl,fun b o e=>?_,z06,by rw[List.length_set];exact ul,?_⟩
  ·rw[z0f (z0m e fL0)];exact s26 _ _ (s2 _ _ e)
  ·have e : tab rs.length (fun t => if rs.length-(i+1) ≤ t then G.getD t 0 else 0) = (tab rs.length (fun t => if rs.length-i ≤ t then G.getD t 0 else 0)).set k (G.getD k 0) := by
    rw[z4u]
    refine z1f fun t ht=>?_
    by_cases h1:t=k
    ·subst h1
     rw[if_pos rfl,if_pos (by omega)]
    ·rw[if_neg h1]
     by_cases h2:rs.length-i≤t
     ·rw[if_pos h2,if_pos (by omega)]
     ·rw[if_neg h2,if_neg (by omega)]
   rw[e,List.map_set]
   exact ((du.mono s26).kshs kp).set k (d6.ksh kp)
 ·rintro σ H2 ⟨z,us,rfl,s2,hL2,ul,du⟩
  have e:tab rs.length (fun t=>if rs.length-rs.length≤t then G.getD t 0 else 0)=G:=by
   have h1:=z1f (n:=rs.length) (f:=fun t=>if rs.length-rs.length≤t then G.getD t 0 else 0) (g:=fun t=>G.getD t 0) fun i hi=>by rw[if_pos (by omega)]
   rw[h1,←gl,z5z]
  rw[e]at du
  refine ⟨_,rfl,L,us,rfl,.inl ⟨SqL.of hL2,fun t ht=>?_⟩⟩
  have st:=z0a ht (.tup us)
  exact q _ _ _ (fun b o e=>st _ _ (s2 _ _ e)) (SqT.of z06) (du.mono st)
noncomputable def zp_AC:ZSp:=fun ws n Q=>∃(rs:List Rat) (D:Int) (c:Nat),ws=[.d (pl rs)]∧rs.length≤21∧D≠0∧Bt c D∧(∀r∈rs,Cd D c r)∧c≤1500∧Q (.d (pl (sgL rs rs.length))) n
theorem ca_AC:CallOk K (sp_AC K) zp_AC:=fun vs H Q ⟨M,ws,n,Qd,ok,r,⟨rs,D,c,e,h1,h2,h3,h4,h5,q⟩,k⟩=>by
 subst e
 obtain ⟨v1,rfl,r1⟩:=r.inv1
 obtain ⟨p,ws1,rfl,tp,da⟩:=r1.pl_inv
 exact ⟨p,ws1,rs,sgL rs rs.length,_,c+111,rfl,tp,da,by omega,z2r rs _ h1,fun t=>zdt h1 t,fun r hr=>(Cd.bs h2 (h4 r hr) h3 (Nat.le_refl _)).mono (by omega),z36 h2,z4i h3,z7v h2 h4 h1,by omega,fun p' ws' H' s t d=>k.dvS ok s (Dv.pl t d) (z32 _) q⟩
noncomputable def sp_Al (K:W.Frag):Sp:=fun vs H Q _=>∃(p:Addr) (ws:List V) (G:List Rat) (z:Int) (m b:Nat),vs=[.ref p,.int z]∧SqT K H p ws∧DvAll K H ws (G.map sh)∧Bt b z∧0<b∧(∀r∈G,Bs 4400 r)∧(∀i,Bs m (hor (z:Rat) (G.drop i)))∧(∀i,Bs m (hor 0 (G.drop i)))∧m+b+1≤4400∧∀v' H',Same H H'→Dv K H' v' (sh (sdV G z))→Q v' H'
theorem sc_Al:FnScope ["paper","many","first","last"] ["paper","many"] (z08 s_Al):=⟨rfl,rfl,rfl,by decide +kernel,rfl,by decide +kernel,by decide +kernel⟩
theorem d_Al (T:Txt K mg):Def P w K mg base "signed_told" ["paper","many"] 5 (sp_Al K):=by
 refine Def.mkq T.f_Al sc_Al (fun vs H Q E h=>?_) (fun _ _ _ _ _ _ us hl=>match us,hl with|[_,_],_=>rfl) (fun f cdv A outer s H vs Q E hr h=>?_)
 ·obtain ⟨p,ws,G,z,m,b,rfl,_⟩:=h
  rfl
 obtain ⟨p,ws,G,z,m,b,rfl,t1,d1,bz,b0,hrs,hd,hd0,hm,q⟩:=h
 obtain ⟨a_AA,m_AA,t_AA⟩:=T.c_AA
 refine ⟨_, (z04 (z4y (i := 2) (j := 3) rfl sc_Al.nd rfl rfl (by decide) rfl rfl (z00 (z09 (d_Af T) hr (z00 (qpv 0) (z00 (z1g (v := .ref a_AA) rfl m_AA rfl) z01))) (z00 (z09 (d_Af T) hr (z00 (qpv 0) (z00 (z0n (z00 (qpv 1) (z00 z02 z01))) z01))) z01)) rfl)
   (z05 (z0d (z2t (z0k z6d (z0c z3s (qpv 1) z02) z02 (z0s _)) (z09 (d_A6 T) hr (z00 (qpv 2) (z00 (qpv 3) z01))) (z09 (d_AE T) hr (z00 (qpv 2) (z00 (qpv 3) z01))))))),?_⟩
 refine ⟨_,rfl,p,ws,G,_,0,m,1,rfl,t1,d1,Dv.con t_AA rfl rfl _,⟨by decide,by decide⟩,hrs,hd0,by omega,fun v2 H2 s2 d2=>?_⟩
 refine ⟨_,rfl,_,rfl,len2,fun p3 f3=>?_⟩
 have u3:=z0a f3 (.tup [.int z,.int 1])
 refine ⟨p,ws,G,_,(z:Rat),m,b,rfl,(s2.trans u3).seqT t1,d1.mono (s2.trans u3),Dv.sh_int z06,Bs.int bz b0,hrs,hd,by omega,fun v4 H4 s4 d4=>?_⟩
 have d24:=d2.mono (u3.trans s4)
 have s14:=s2.trans (u3.trans s4)
 have b2:Bs 4400 (hor 0 G):=by have:=hd0 0;rw[List.drop_zero]at this;exact this.mono (by omega)
 have b4:Bs 4400 (hor (z:Rat) G):=by have:=hd 0;rw[List.drop_zero]at this;exact this.mono (by omega)
 unfold sdV at q
 refine ⟨_,_,rfl,_,rfl,_,_,rfl,rfl,(show (0:Int)<2 by decide),rfl,_,rfl,?_⟩
 refine z7g (fun c=>?_) (fun c=>?_)
 ·have c':z%2=0:=by have:=of_decide_eq_true c;injection this
  rw[if_pos c']at q
  exact ⟨_,rfl,_,rfl,_,_,_,_,rfl,d24,d4,b2,b4,fun v5 H5 s5 d5=>q v5 H5 (s14.trans s5) d5⟩
 ·have c':¬z%2=0:=fun e=>c (decide_eq_true (by show V.int (z%2)=V.int 0;rw[e]))
  rw[if_neg c']at q
  exact ⟨_,rfl,_,rfl,_,_,_,_,rfl,d24,d4,b2,b4,fun v5 H5 s5 d5=>q v5 H5 (s14.trans s5) d5⟩
noncomputable def sp_A2 (K:W.Frag):Sp:=fun vs H Q _=>∃(n:Int),vs=[.int n]∧0≤n∧n≤40∧∀p ws H',Same H H'→SqT K H' p ws→DvAll K H' ws ((z3k n.toNat).map sh)→Q (.ref p) H'
theorem sc_A2:FnScope ["n","numbers"] ["n"] (z08 s_A2):=⟨rfl,rfl,rfl,by decide +kernel,rfl,by decide +kernel,by decide +kernel⟩
theorem d_A2 (T:Txt K mg):Def P w K mg base "row_to" ["n"] 5 (sp_A2 K):=by
 refine Def.mkq T.f_A2 sc_A2 (fun vs H Q E h=>?_) (fun _ _ _ _ _ _ us hl=>match us,hl with|[_],_=>rfl) (fun f cdv A outer s H vs Q E hr h=>?_)
 ·obtain ⟨n,rfl,_⟩:=h
  rfl
 obtain ⟨n,rfl,n0,n1,q⟩:=h
 obtain ⟨a_At,m_At,t_At⟩:=T.c_At
 refine ⟨_, (z04 (z0g (i := 1) sc_A2.nd rfl (by walk_at "lc") (z1c (z00 (z1g (v := .ref a_At) rfl m_At rfl) z01)))
   (z04 (z3r PassesOwn.never (z0k zok (z0i z0p rfl T.b_len z1v (z00 (qpv 1) z01)) (qpv 0) (z0s _)) (z05 (z5n (ze2 PySem.F.plainAttrs_list PySem.F.slot_list_append PySem.F.type_list_append z4p (qpv 1) (z00 (z09 (d_Ax T) hr (z00 (qpv 1) z01)) z01)))))
   (z05 (z0d (z1e z1o rfl T.b_tuple z2i (z00 (qpv 1) z01)))))),?_⟩
 refine ⟨len1,fun l fl=>?_⟩
 refine z4e (fun σ H2=>∃(k:Nat) (ws:List V),σ=[some (.int n),some (.ref l)]∧(k:Int)≤n∧(∀b o,H b=some o→H2 b=some o)∧H2 l=some (.lst ws)∧DvAll K H2 ws ((z3k k).map sh)) (fun σ H2=>match H2 l with|some (.lst ws)=>100-ws.length|_=>0) ⟨0,_,rfl,by omega,fun b o e=>z0a fl _ b o e,z06,.cons (Dv.con t_At rfl rfl _) .nil⟩ ?_ ?_
 ·rintro σ H2 ⟨k,ws,rfl,hk,s2,h2,d2⟩
  have wl:ws.length=k+1:=by have:=d2.length;rw[List.length_map,z3c]at this;exact this
  have hlen:(z3k k).length=k+1:=z3c k
  refine ⟨_,rfl,l,ws,rfl,.inl (SqL.of h2),_,rfl,_,_,rfl,rfl,_,rfl,?_⟩
  refine z7g (fun c=>?_) (fun c=>?_)
  ·have c':((ws.length:Nat):Int)≤n:=of_decide_eq_true c
   refine ⟨_,rfl,.inl ⟨rfl,_,SqL.of h2⟩,_,rfl,false,l,ws,z3k k,rfl,SqL.of h2,d2,by omega,fun r hr=>(znf (by omega) r hr).mono (by decide),fun j hj=>(zr5 (i:=k) (by omega) j hj).mono (by decide),fun v H3 s3 d3=>?_⟩
   have h3:=s3 _ _ h2
   refine ⟨l,ws,v,rfl,rfl,h3,by rw[wl,sizeLine_eq];omega,?_⟩
   have kp:Keep H3 (upd H3 l (.lst (ws++[v]))):=z1r h3
   refine ⟨⟨k+1,ws++[v],rfl,by omega,fun b o e=>?_,z06,?_⟩,?_⟩
   ·rw[z0f (z0m e fl)];exact s3 _ _ (s2 _ _ e)
   ·show DvAll K _ _ ((z3k k++[zcp (z3k k)]).map sh)
    rw[List.map_append]
    exact ((d2.mono s3).kshs kp).append (.cons (d3.ksh kp) .nil)
   ·show (match upd H3 l (.lst (ws++[v])) l with|some (.lst ws)=>100-ws.length|_=>0)<(match H2 l with|some (.lst ws)=>100-ws.length|_=>0)
    rw[z06,h2]
    show 100-(ws++[v]).length<100-ws.length
    rw[List.length_append];simp;omega
  ·have c':¬((ws.length:Nat):Int)≤n:=fun z=>c (decide_eq_true z)
   have ek:k=n.toNat:=by omega
   subst ek
   refine ⟨_,rfl,l,ws,rfl,.inl ⟨SqL.of h2,fun p hp=>?_⟩⟩
   exact q p ws _ ((show Same H H2 from s2).trans (z0a hp _)) (SqT.of z06) (d2.mono (z0a hp _))
 ·rintro σ H2 Q1 Q2 hq ⟨v,e1,p,ys,e2,e3,v2,e4,i,j,h1,h2,k,e5,h3⟩
  exact ⟨v,e1,p,ys,e2,e3,v2,e4,i,j,h1,h2,k,e5,hq _ _ h3⟩
noncomputable def zp_A2:ZSp:=fun ws n Q=>∃m:Int,ws=[.d (.int m)]∧0≤m∧m≤40∧Q (.d (pl (z3k m.toNat))) n
theorem ca_A2:CallOk K (sp_A2 K) zp_A2:=fun vs H Q ⟨M,ws,n,Qd,ok,r,⟨m,e,h0,h1,q⟩,k⟩=>by
 subst e
 obtain ⟨v1,rfl,r1⟩:=r.inv1
 rw[r1.int_inv]
 exact ⟨m,rfl,h0,h1,fun p ws H' s t d=>k.dvS ok s (Dv.pl t d) (z32 _) q⟩
noncomputable def sp_A5 (K:W.Frag):Sp:=fun vs H Q _=>∃(p:Addr) (ws:List V) (rs:List Rat) (z:Int) (m b:Nat),vs=[.ref p,.int z]∧SqT K H p ws∧DvAll K H ws (rs.map sh)∧Bt b z∧0<b∧(∀r∈rs,Bs 4400 r)∧(∀i,Bs m (hor (z:Rat) (rs.drop i)))∧m+b≤4400∧∀v' H',Same H H'→Dv K H' v' (sh (hor (z:Rat) rs))→Q v' H'
theorem sc_A5:FnScope ["paper","many"] ["paper","many"] (z08 s_A5):=⟨rfl,rfl,rfl,by decide +kernel,rfl,by decide +kernel,by decide +kernel⟩
theorem d_A5 (T:Txt K mg):Def P w K mg base "sum_told" ["paper","many"] 5 (sp_A5 K):=by
 refine Def.mkq T.f_A5 sc_A5 (fun vs H Q E h=>?_) (fun _ _ _ _ _ _ us hl=>match us,hl with|[_,_],_=>rfl) (fun f cdv A outer s H vs Q E hr h=>?_)
 ·obtain ⟨p,ws,rs,z,m,b,rfl,_⟩:=h
  rfl
 obtain ⟨p,ws,rs,z,m,b,rfl,t1,d1,bz,b0,hrs,hd,hm,q⟩:=h
 refine ⟨_,(z05 (z0d (z09 (d_Af T) hr (z00 (qpv 0) (z00 (z0n (z00 (qpv 1) (z00 z02 z01))) z01))))),?_⟩
 refine ⟨_,rfl,_,rfl,len2,fun p2 f2=>?_⟩
 have u2:=z0a f2 (.tup [.int z,.int 1])
 exact ⟨p,ws,rs,_,(z:Rat),m,b,rfl,u2.seqT t1,d1.mono u2,Dv.sh_int z06,Bs.int bz b0,hrs,hd,hm,fun v3 H3 s3 d3=>q v3 H3 (u2.trans s3) d3⟩
noncomputable def zp_A0:ZSp:=fun ws n Q=>∃(rs:List Rat),ws=[.d (pl rs)]∧rs.length≤100∧(∀r∈rs,Bs 1990 r)∧(∀i,∀r∈mvL 1 (rs.drop i),Bs 1990 r)∧Q (.d (pl (z69 rs))) n
theorem sc_A0:FnScope ["poly"] ["poly"] (z08 s_A0):=⟨rfl,rfl,rfl,by decide +kernel,rfl,by decide +kernel,by decide +kernel⟩
theorem d_A0 (T:Txt K mg):Def P w K mg base "poly_pair" ["poly"] 6 (zc3 K zp_A0):=by
 obtain ⟨a_At,m_At,t_At⟩:=T.c_At
 refine Def.mkz T.f_A0 sc_A0 (fun ws n Q h=>?_) (fun _ _ _ _ _ _ us hl=>match us,hl with|[_],_=>rfl) (fun f cdv A outer s H E hr=>⟨_,_,(z05 (z0d (z09 (d_AO T) hr (z00 (z09 (d_AP T) hr (z00 (qpv 0) (z00 (z1g (v:=.ref a_At) rfl m_At rfl) z01))) (z00 (qpv 0) z01))))),(z2w (z0h ca_AO (z03 (z0h ca_AP (z03 z07 (z03 (zi9 t_At) z0b))) (z03 z07 z0b)))),fun ws n Q h=>?_⟩)
 ·obtain ⟨rs,rfl,_⟩:=h
  rfl
 obtain ⟨rs,rfl,hl,hb,hm,q⟩:=h
 refine ⟨rs,1,rfl,by omega,⟨by decide,by decide⟩,fun r h=>(hb r h).mono (by decide),fun i r h=>(hm i r h).mono (by decide),?_⟩
 have h0:=hm 0
 rw[List.drop_zero]at h0
 exact ⟨mvL 1 rs,rs,rfl,by have:=z3e 1 rs;omega,by omega,fun r h=>(h0 r h).mono (by decide),fun r h=>(hb r h).mono (by decide),q⟩
noncomputable def sp_AS (K:W.Frag):Sp:=fun vs H Q _=>∃(p:Addr) (ws:List V) (rs:List Rat) (z:Int) (D:Int) (c b:Nat),vs=[.ref p,.int z]∧SqT K H p ws∧DvAll K H ws (rs.map sh)∧rs.length≤21∧D≠0∧Bt c D∧(∀r∈rs,Cd D c r)∧Bt b z∧0<b∧c≤1500∧c+111+22*(b+1)+b+1≤4400∧∀v' H',Same H H'→Dv K H' v' (sh (sdV (sgL rs rs.length) z))→Q v' H'
theorem sc_AS:FnScope ["poly","many"] ["poly","many"] (z08 s_AS):=⟨rfl,rfl,rfl,by decide +kernel,rfl,by decide +kernel,by decide +kernel⟩
theorem d_AS (T:Txt K mg):Def P w K mg base "signed_below" ["poly","many"] 6 (sp_AS K):=by
 refine Def.mkq T.f_AS sc_AS (fun vs H Q E h=>?_) (fun _ _ _ _ _ _ us hl=>match us,hl with|[_,_],_=>rfl) (fun f cdv A outer s H vs Q E hr h=>?_)
 ·obtain ⟨p,ws,rs,z,D,c,b,rfl,_⟩:=h
  rfl
 obtain ⟨p,ws,rs,z,D,c,b,rfl,hT,hA,hlen,D0,bD,hD,bz,b0,hc,hm,q⟩:=h
 refine ⟨_,(z05 (z0d (z09 (d_Al T) hr (z00 (z09 (d_AC T) hr (z00 (qpv 0) z01)) (z00 (qpv 1) z01))))),?_⟩
 refine ⟨_,rfl,p,ws,rs,sgL rs rs.length,2097152*(D*2),c+111,rfl,hT,hA,by omega,z2r rs _ hlen,zdt hlen,fun r hr=>((hD r hr).bs D0 bD (Nat.le_refl _)).mono (by omega),z36 D0,z4i bD,z7v D0 hD hlen,by omega,fun p1 w1 H1 s1 t1 d1=>?_⟩
 have z0:Bt b (0:Int):=by show (0:Int).natAbs<2^b;exact Nat.pow_pos (by decide)
 refine ⟨_,rfl,p1,w1,_,z,c+111+22*(b+1),b,rfl,t1,d1,bz,b0,fun r hr=>(zr0 D0 bD hD hlen r hr).mono (by omega),zib D0 bD hD hlen bz,zib D0 bD hD hlen z0,by omega,fun v3 H3 s3 d3=>q v3 H3 (s1.trans s3) d3⟩
noncomputable def zp_AS:ZSp:=fun ws n Q=>∃(rs:List Rat) (z:Int) (D:Int) (c b:Nat),ws=[.d (pl rs),.d (.int z)]∧rs.length≤21∧D≠0∧Bt c D∧(∀r∈rs,Cd D c r)∧Bt b z∧0<b∧c≤1500∧c+111+22*(b+1)+b+1≤4400∧Q (.d (sh (sdV (sgL rs rs.length) z))) n
theorem ca_AS:CallOk K (sp_AS K) zp_AS:=fun vs H Q ⟨M,ws,n,Qd,ok,r,⟨rs,z,D,c,b,e,h1,h2,h3,h4,h5,h6,h7,h8,q⟩,k⟩=>by
 subst e
 obtain ⟨v1,v2,rfl,r1,r2⟩:=r.inv2
 obtain ⟨p,ws1,rfl,tp,da⟩:=r1.pl_inv
 rw[r2.int_inv]
 exact ⟨p,ws1,rs,z,D,c,b,rfl,tp,da,h1,h2,h3,h4,h5,h6,h7,h8,fun v' H' s d=>k.dvS ok s d (z41 _) q⟩
noncomputable def sp_AQ (K:W.Frag):Sp:=fun vs H Q _=>∃(p:Addr) (ws:List V) (rs:List Rat) (D:Int) (m:Nat),vs=[.ref p]∧SqT K H p ws∧DvAll K H ws (rs.map sh)∧rs.length≤22∧D≠0∧Bt m D∧(∀r∈rs,Cd D m r)∧m≤4328∧∀p' ws' H',Same H H'→SqT K H' p' ws'→DvAll K H' ws' ((smP rs).map sh)→Q (.ref p') H'
theorem sc_AQ:FnScope ["poly","numbers","total","n","share"] ["poly"] (z08 s_AQ):=⟨rfl,rfl,rfl,by decide +kernel,rfl,by decide +kernel,by decide +kernel⟩
theorem d_AQ (T:Txt K mg):Def P w K mg base "summed" ["poly"] 6 (sp_AQ K):=by
 refine Def.mkq T.f_AQ sc_AQ (fun vs H Q E h=>?_) (fun _ _ _ _ _ _ us hl=>match us,hl with|[_],_=>rfl) (fun f cdv A outer s H vs Q E hr h=>?_)
 ·obtain ⟨p,ws,rs,D,m,rfl,_⟩:=h
  rfl
 obtain ⟨p,ws,rs,D,m,rfl,hT,hA,hlen,D0,bD,hD,hm,q⟩:=h
 refine ⟨_, (z04 (z0g (i := 1) sc_AQ.nd rfl (by walk_at "lc") (z09 (d_A2 T) hr (z00 (z0i z0p rfl T.b_len z1v (z00 (qpv 0) z01)) z01)))
   (z04 (z0g (i:=2) sc_AQ.nd rfl (by walk_at "lc") (z0n z01))
   (z04 (z1b PassesOwn.never rfl (z4m true rfl T.b_enumerate (z00 (qpv 0) z01)) (z50 rfl (z0w (z0l (i:=3) sc_AQ.nd rfl (by walk_at "lc")) (z0w (z0l (i:=4) sc_AQ.nd rfl (by walk_at "lc")) z2m))) (z05 (z0g (i:=2) sc_AQ.nd rfl (by walk_at "lc") (z09 (d_AO T) hr (z00 (qpv 2) (z00 (z09 (d_Aa T) hr (z00 (z09 (d_Ae T) hr (z00 (qpv 3) (z00 (qpv 1) z01))) (z00 (qpv 4) z01))) z01))))))
   (z05 (z0d (qpv 2)))))),?_⟩
 have wl:ws.length=rs.length:=by have:=hA.length;simpa using this
 have hb:∀r∈rs,Bs m r:=fun r hr=>(hD r hr).bs D0 bD (Nat.le_refl _)
 refine ⟨_,rfl,p,ws,rfl,.inr hT,?_⟩
 rw[wl]
 refine ⟨((rs.length:Nat):Int),rfl,by omega,by omega,fun pn wn H1 s1 t1 d1=>?_⟩
 rw[show ((rs.length:Nat):Int).toNat=rs.length by omega]at d1
 refine ⟨zmc,fun p0 f0=>?_⟩
 have u0:=z0a f0 (.tup [])
 have hT0:=u0.seqT (s1.seqT hT)
 have hA0:=(hA.mono s1).mono u0
 have t10:=u0.seqT t1
 have d10:=d1.mono u0
 have t00:SqT K (upd H1 p0 (.tup [])) p0 []:=SqT.of z06
 have s10:=s1.trans u0
 generalize upd H1 p0 (.tup [])=G at hT0 hA0 t10 d10 t00 s10
 refine ⟨_,rfl,p,ws,rfl,hT0,?_⟩
 refine z4s (b:=true) (xs:=ws) (fun i σ H2=>∃(pt:Addr) (wt:List V) (z1 z2:Option V),σ=[some (.ref p),some (.ref pn),some (.ref pt),z1,z2]∧Same G H2∧SqT K H2 pt wt∧DvAll K H2 wt ((smL rs i).map sh)) ⟨p0,[],none,none,rfl,Same.refl _,t00,.nil⟩ (fun i σ H2 _ ⟨_,_,_,_,_,s,_⟩=>s.seqT hT0) ?_ ?_
 ·rintro i w T σ H2 hw hT2 ⟨pt,wt,z1,z2,rfl,s2,tt,dt⟩
  obtain ⟨hi,dw⟩:=hA0.share hw
  refine g2 ?_
  have sT:=z0a hT2 (.tup [.int (i:Int),w])
  have s2T:=s2.trans sT
  refine ⟨_,rfl,_,rfl,_,rfl,(i:Int),pn,wn,rs.length,rfl,s2T.seqT t10,d10.mono s2T,by omega,by omega,by omega,by omega,fun p3 w3 H3 s3 t3 d3=>?_⟩
  rw[show ((i:Nat):Int).toNat=i by omega]at d3
  have bsp:=zqx (n:=i) (by omega)
  refine ⟨_,rfl,p3,w3,spL i,_,rs.getD i 0,rfl,t3,d3,by rw[za4];omega,(dw.mono s2T).mono s3,(hb _ (z18 hi)).mono (by omega),fun r hr=>(bsp r hr).mono (by decide),fun p4 w4 H4 s4 t4 d4=>?_⟩
  have s34:=s3.trans s4
  have l1:=za6 rs i
  have l2:(z1n ((spL i).map (·*rs.getD i 0))).length≤i+2:=z2e fun j hj=>z0e (by rw[List.length_map,za4];omega)
  refine ⟨pt,p4,wt,w4,_,_,rfl,(sT.trans s34).seqT tt,dt.mono (sT.trans s34),t4,d4,by omega,by omega,fun r hr=>(zia D0 bD hD i (by omega) r hr).mono (by omega),fun r hr=>?_,fun p5 w5 H5 s5 t5 d5=>?_⟩
  ·obtain ⟨j,_,rfl⟩:=z2o hr
   rw[z0u,z2z]
   exact ((z2b bsp (by decide) j).mul (hb _ (z18 hi))).mono (by omega)
  ·exact ⟨p5,w5,_,_,rfl,s2T.trans (s34.trans s5),t5,d5⟩
 ·rintro σ H2 ⟨pt,wt,z1,z2,rfl,s2,tt,dt⟩
  rw[wl]at dt
  exact ⟨_,rfl,q _ _ _ (s10.trans s2) tt dt⟩
noncomputable def zp_AQ:ZSp:=fun ws n Q=>∃(rs:List Rat) (D:Int) (m:Nat),ws=[.d (pl rs)]∧rs.length≤22∧D≠0∧Bt m D∧(∀r∈rs,Cd D m r)∧m≤4328∧Q (.d (pl (smP rs))) n
theorem ca_AQ:CallOk K (sp_AQ K) zp_AQ:=fun vs H Q ⟨M,ws,n,Qd,ok,r,⟨rs,D,m,e,h1,h2,h3,h4,h5,q⟩,k⟩=>by
 subst e
 obtain ⟨v1,rfl,r1⟩:=r.inv1
 obtain ⟨p,ws1,rfl,tp,da⟩:=r1.pl_inv
 exact ⟨p,ws1,rs,D,m,rfl,tp,da,h1,h2,h3,h4,h5,fun p' ws' H' s t d=>k.dvS ok s (Dv.pl t d) (z32 _) q⟩
noncomputable def zp_Am:zm6:=fun ws n Q X=>∃(an:Option (Str×Int)) (qs:List Rat) (d:PyData),ws=[.d (pl qs),.d d]∧qs.length≤100∧PGd d∧JS qs d an∧(an=none→Q (.d (.bool true)) n)∧∀w k,an=some (w,k)→X "NoPaper" ["word","place"] [.str w,.int k] n
theorem sc_Am:FnScope ["poly","thing","unlike"] ["poly","thing"] (z08 s_Am):=⟨rfl,rfl,rfl,by decide +kernel,rfl,by decide +kernel,by decide +kernel⟩
theorem dx_Am (T:Txt K mg):DefX P w K mg base "lets_signed" ["poly","thing"] 7 (zhb K zp_Am):=by
 obtain ⟨_,m_A7⟩:=T.c_A7
 obtain ⟨C_NoPaper,B_NoPaper,fI_NoPaper,fd_NoPaper,S_NoPaper⟩:=T.x_NoPaper
 refine DefX.mkz T.f_Am sc_Am (fun ws n Q X h => ?_) (fun _ _ _ _ _ _ us hl => match us, hl with|[_, _], _ => rfl) (fun f cdv A outer s H E hr => ⟨_, _, (z04 (z1a (z2y (z25 (z09 (d_Ad T) hr (z00 (qpv 1) (z00 (z1g (v := .int (24)) rfl m_A7 ⟨_, rfl⟩) z01))))) (z05 (z95 S_NoPaper.s (i_NoPaper S_NoPaper) (hr.mono (by decide)) (S_NoPaper.s.f.binds (fun _ _ _ _ _ _ us hl => match us, hl with|[_, _, _], _ => rfl)) z94 (z00 z1l (z00 z02 z01)))) z0r)
   (z04 (z0g (i:=2) sc_Am.nd rfl (by walk_at "lc") (z09 (d_Ai T) hr (z00 (z09 (d_A0 T) hr (z00 (qpv 1) z01)) (z00 (qpv 0) z01))))
   (z04 (z1a (z0k zh2 (qpv 2) zae (z0s _)) (z05 (z95 S_NoPaper.s (i_NoPaper S_NoPaper) (hr.mono (by decide)) (S_NoPaper.s.f.binds (fun _ _ _ _ _ _ us hl=>match us,hl with|[_,_,_],_=>rfl)) z94 (z00 z1l (z00 (qpv 2) z01)))) z0r)
   (z05 (z0d z1x))))),(z2d (z7q (z8z (z90 (z0h CallOk.refl (z03 z07 (z03 z0j z0b))))) (z8x S_NoPaper (z03 zi7 (z03 z0j z0b))) z3a)
   (z2d (z61 (z0h CallOk.refl (z03 (z0h CallOk.refl (z03 z07 z0b)) (z03 z07 z0b))))
   (z2d (z7q (z9y (z0t zp2 z07 zi8)) (z8x S_NoPaper (z03 zi7 (z03 z07 z0b))) z3a)
   (z2w z3o)))),fun ws n Q X h=>?_⟩)
 ·obtain ⟨an,qs,d,rfl,_⟩:=h
  rfl
 obtain ⟨an,qs,d,rfl,hl,hb,hJ,q,qx⟩:=h
 refine ⟨d,24,rfl,?_⟩
 rcases hJ with ⟨e,ea⟩|⟨rs,rfl,hr2,e,ea⟩
 ·rw[e]
  exact qx _ _ ea
 rw[e]
 obtain ⟨b1,b2⟩:=hb rs rfl hr2
 refine ⟨rs,rfl,by omega,fun r h=>(b1 r h).mono (by decide),b2,?_⟩
 refine ⟨_,qs,rfl,by have:=z82 rs;omega,by omega,?_⟩
 cases hu:unl (z69 rs) qs with
 | none=>
  rw[hu]at ea
  refine zii (c:=true) rfl ?_
  exact q ea
 | some k=>
  rw[hu]at ea
  refine zii (c:=false) rfl ?_
  exact qx _ _ ea
noncomputable def sp_Aj (K:W.Frag):Sp:=fun vs H Q _=>∃(p:Addr) (ws:List V) (rs:List Rat) (z:Int) (D:Int) (m b:Nat),vs=[.ref p,.int z]∧SqT K H p ws∧DvAll K H ws (rs.map sh)∧rs.length≤22∧D≠0∧Bt m D∧(∀r∈rs,Cd D m r)∧Bt b z∧0<b∧m+49+23+(rs.length+1)*(b+1)+b≤4400∧∀v' H',Same H H'→Dv K H' v' (sh (hor (z:Rat) (smP rs)))→Q v' H'
theorem sc_Aj:FnScope ["poly","many"] ["poly","many"] (z08 s_Aj):=⟨rfl,rfl,rfl,by decide +kernel,rfl,by decide +kernel,by decide +kernel⟩
theorem d_Aj (T:Txt K mg):Def P w K mg base "sum_below" ["poly","many"] 7 (sp_Aj K):=by
 refine Def.mkq T.f_Aj sc_Aj (fun vs H Q E h=>?_) (fun _ _ _ _ _ _ us hl=>match us,hl with|[_,_],_=>rfl) (fun f cdv A outer s H vs Q E hr h=>?_)
 ·obtain ⟨p,ws,rs,z,D,m,b,rfl,_⟩:=h
  rfl
 obtain ⟨p,ws,rs,z,D,m,b,rfl,hT,hA,hlen,D0,bD,hD,bz,b0,hm,q⟩:=h
 refine ⟨_,(z05 (z0d (z09 (d_A5 T) hr (z00 (z09 (d_AQ T) hr (z00 (qpv 0) z01)) (z00 (qpv 1) z01))))),?_⟩
 refine ⟨_,rfl,p,ws,rs,D,m,rfl,hT,hA,hlen,D0,bD,hD,by omega,fun p1 w1 H1 s1 t1 d1=>?_⟩
 have sl:=zk1 rs
 have cdS:∀r∈smP rs,Cd (rnE*D) (49+m+23) r:=fun r hr=>(zdr D0 hD _ (by omega) r hr).mono (by omega)
 have hE:rnE*D≠0:=Int.mul_ne_zero (by decide) D0
 have bE:Bt (49+m+23) (rnE*D):=((show Bt 49 rnE by decide).mul bD).mono (by omega)
 refine ⟨_,rfl,p1,w1,smP rs,z,49+m+23+(rs.length+1)*(b+1),b,rfl,t1,d1,bz,b0,fun r hr=>(zia D0 bD hD _ (by omega) r hr).mono (by omega),fun i=>?_,by omega,fun v3 H3 s3 d3=>?_⟩
 ·have l1:((smP rs).drop i).length≤rs.length+1:=by rw[List.length_drop];omega
  have:=Nat.mul_le_mul_right (b+1) l1
  exact (zc9 hE bz (l:=(smP rs).drop i) fun r hr=>cdS r (List.mem_of_mem_drop hr)).bs hE (bE.mono (by omega)) (by omega)
 ·exact q v3 H3 (s1.trans s3) d3
noncomputable def zp_Aj:ZSp:=fun ws n Q=>∃(rs:List Rat) (z:Int) (D:Int) (m b:Nat),ws=[.d (pl rs),.d (.int z)]∧rs.length≤22∧D≠0∧Bt m D∧(∀r∈rs,Cd D m r)∧Bt b z∧0<b∧m+49+23+(rs.length+1)*(b+1)+b≤4400∧Q (.d (sh (hor (z:Rat) (smP rs)))) n
theorem ca_Aj:CallOk K (sp_Aj K) zp_Aj:=fun vs H Q ⟨M,ws,n,Qd,ok,r,⟨rs,z,D,m,b,e,h1,h2,h3,h4,h5,h6,h7,q⟩,k⟩=>by
 subst e
 obtain ⟨v1,v2,rfl,r1,r2⟩:=r.inv2
 obtain ⟨p,ws1,rfl,tp,da⟩:=r1.pl_inv
 rw[r2.int_inv]
 exact ⟨p,ws1,rs,z,D,m,b,rfl,tp,da,h1,h2,h3,h4,h5,h6,h7,fun v' H' s d=>k.dvS ok s d (z41 _) q⟩
noncomputable def sp_An (K:W.Frag):Sp:=fun vs H Q _=>∃(n first step many:Int),vs=[.int n,.int first,.int step,.int many]∧0≤n∧n≤20∧Bt 41 first∧Bt 41 step∧0≤many∧Bt 101 many∧∀H',Same H H'→Q (.int (pS n.toNat first step many.toNat)) H'
theorem sc_An:FnScope ["n","first","step","many","powers"] ["n","first","step","many"] (z08 s_An):=⟨rfl,rfl,rfl,by decide +kernel,rfl,by decide +kernel,by decide +kernel⟩
theorem d_An (T:Txt K mg):Def P w K mg base "spaced_sum" ["n","first","step","many"] 8 (sp_An K):=by
 refine Def.mkq T.f_An sc_An (fun vs H Q E h=>?_) (fun _ _ _ _ _ _ us hl=>match us,hl with|[_,_,_,_],_=>rfl) (fun f cdv A outer s H vs Q E hr h=>?_)
 ·obtain ⟨n,first,step,many,rfl,_⟩:=h
  rfl
 obtain ⟨n,first,step,many,rfl,n0,n20,bf,bs,k0,bk,q⟩:=h
 refine ⟨_, (z04 (z0g (i := 4) sc_An.nd rfl (by walk_at "lc") (z09 (d_AF T) hr (z00 (z09 (d_AP T) hr (z00 (z09 (d_AM T) hr (z00 (qpv 0) z01)) (z00 (z0n (z00 (qpv 1) (z00 z02 z01))) z01))) (z00 (z0n (z00 (qpv 2) (z00 z02 z01))) z01))))
   (z05 (z0d (z09 (d_A4 T) hr (z00 (z09 (d_Aj T) hr (z00 (qpv 4) (z00 (qpv 3) z01))) z01))))),?_⟩
 have h3:(List.replicate n.toNat (0:Rat)++[1]).length=n.toNat+1:=by rw[List.length_append,List.length_replicate];rfl
 refine ⟨_,rfl,n,rfl,n0,by omega,fun v H1 s1 d1=>?_⟩
 obtain ⟨p,ws,rfl,tp,dp⟩:=d1.tup_inv
 refine ⟨_,rfl,len2,fun p2 f2=>?_⟩
 have u2:=z0a f2 (.tup [.int first,.int 1])
 have bF:Bs 41 (first:Rat):=Bs.int bf (by decide)
 have bS:Bs 41 (step:Rat):=Bs.int bs (by decide)
 have hl:=Nat.mul_le_mul_right (41+1) (show (List.replicate n.toNat (0:Rat)++[1]).length≤21 by omega)
 have bm:=fun i=>zh6 (x:=(first:Rat)) (rs:=List.replicate n.toNat 0++[1]) (m:=1) (n:=41) (N:=2000) (by decide) (by decide) bF (ze3 n.toNat) (by omega) i
 have bm0:∀r∈mvL (first:Rat) (List.replicate n.toNat 0++[1]),Bs 2000 r:=by have:=bm 0;rwa [List.drop_zero]at this
 refine ⟨p,ws,_,_,(first:Rat),rfl,u2.seqT tp,dp.mono u2,by omega,Dv.sh_int z06,bF.mono (by decide),fun r hr=>((ze3 n.toNat r hr).bs (by decide) (by decide) (Nat.le_refl _)).mono (by decide),bm,fun p3 w3 H3 s3 t3 d3=>?_⟩
 have ml:=z3e (first:Rat) (List.replicate n.toNat 0++[1])
 refine ⟨_,rfl,len2,fun p4 f4=>?_⟩
 have u4:=z0a f4 (.tup [.int step,.int 1])
 have hl2:=Nat.mul_le_mul_right 41 (show (mvL (first:Rat) (List.replicate n.toNat 0++[1])).length≤21 by omega)
 refine ⟨p3,w3,_,_,(step:Rat),41,rfl,u4.seqT t3,d3.mono u4,by omega,Dv.sh_int z06,bS,by omega,fun r hr=>(bm0 r hr).mono (by decide),fun p5 w5 H5 s5 t5 d5=>?_⟩
 have l5:=za3 n.toNat first step
 have hl3:=Nat.mul_le_mul_right (101+1) (show (spP n.toNat first step).length+1≤22 by omega)
 refine ⟨_,rfl,_,rfl,p5,w5,spP n.toNat first step,many,1,1800,101,rfl,t5,d5,by omega,by decide,by decide,zmx (by omega) bf bs (by decide) (by decide),bk,by decide,by omega,fun v6 H6 s6 d6=>?_⟩
 have ek:(many:Rat)=((many.toNat:Nat):Rat):=by
  have:many=((many.toNat:Nat):Int):=by omega
  conv=>lhs;rw[this]
  exact Rat.intCast_natCast _
 rw[ek,zjx (by omega)]at d6
 refine ⟨v6,_,rfl,d6,?_⟩
 rw[if_pos (by rw[Rat.den_intCast];rfl),Rat.num_intCast]
 exact q _ (s1.trans (u2.trans (s3.trans (u4.trans (s5.trans s6)))))
noncomputable def zp_Ah:ZSp:=fun ws n Q=>∃(qs:List Rat) (d:PyData),ws=[.d (pl qs),.d d]∧qs.length≤100∧PGd d∧Q (.d (.bool (jsD (pl qs) d))) n
theorem sc_Ah:FnScope ["_law_one","_law_thing","_law_found"] ["_law_one","_law_thing"] (z08 s_Ah):=⟨rfl,rfl,rfl,by decide +kernel,rfl,by decide +kernel,by decide +kernel⟩
theorem d_Ah (T:Txt K mg):Def P w K mg base "_law_let" ["_law_one","_law_thing"] 8 (zc3 K zp_Ah):=by
 obtain ⟨h_NoPaper,_,_,_,_,_,_,_,_,_,_,_,_,_,_,_,_,_,mh_NoPaper,sh_NoPaper,lh_NoPaper,bh_NoPaper⟩:=T.h_NoPaper
 refine Def.mkn T.f_Ah sc_Ah (fun ws n Q h => ?_) (fun _ _ _ _ _ _ us hl => match us, hl with|[_, _], _ => rfl) (fun f cdv A outer s H E hr => ⟨_, _, (z04 (z0g (i := 2) sc_Ah.nd rfl (by walk_at "lc") z1x)
   (z04 (zgp ⟨rfl,rfl⟩ rfl mh_NoPaper lh_NoPaper bh_NoPaper (fun F pn EE hp hx=>(z05 (z0g (i:=2) sc_Ah.nd rfl (by walk_at "lc") (z2n zom (zkl (dx_Am T) hr hp (z00 (qpv 0) (z00 (qpv 1) z01))) z1x (z0s _)))))
   (fun ea=>(z05 (z0g (i:=2) sc_Ah.nd rfl (by walk_at "lc") z1x))))
   (z05 (z0d (qpv 2))))),(z1p (z2k (b:=false) (SmE.x z3o))
   (z1p (zjy (L:=LNoPaper) (fun x ns C hx hC=>lx_NoPaper T x ns C _ hx hC sh_NoPaper) (fun EE=>(z2k (b:=false) (zqo k_is (zg6 CallOkX.refl (SmA.x (z03 z07 (z03 z07 z0b)))) (SmE.x z3o)))) (z2k (b:=false) (SmE.x z3o)))
   (z3m (b:=false) (SmE.x z07)))),fun ws n Q h=>?_⟩)
 ·obtain ⟨qs,d,rfl,_⟩:=h
  rfl
 obtain ⟨qs,d,rfl,hl,hb,q⟩:=h
 obtain ⟨an,hJ⟩:=zm8 qs d
 rw[zp3 hJ]at q
 refine ⟨an,qs,d,rfl,hl,hb,hJ,fun e=>?_,fun w k e=>?_⟩
 ·rw[e]at q
  exact ztk (c:=true) rfl q
 rw[e]at q
 exact ⟨by simp[LNoPaper],q⟩
noncomputable def sp_Ao (K:W.Frag):Sp:=fun vs H Q _=>∃(n many:Int),vs=[.int n,.int many]∧0≤n∧n≤20∧0≤many∧Bt 101 many∧∀H',Same H H'→Q (.int (pS n.toNat 0 2 many.toNat)) H'
theorem sc_Ao:FnScope ["n","many"] ["n","many"] (z08 s_Ao):=⟨rfl,rfl,rfl,by decide +kernel,rfl,by decide +kernel,by decide +kernel⟩
theorem d_Ao (T:Txt K mg):Def P w K mg base "even_sum" ["n","many"] 9 (sp_Ao K):=by
 refine Def.mkq T.f_Ao sc_Ao (fun vs H Q E h=>?_) (fun _ _ _ _ _ _ us hl=>match us,hl with|[_,_],_=>rfl) (fun f cdv A outer s H vs Q E hr h=>?_)
 ·obtain ⟨n,many,rfl,_⟩:=h
  rfl
 obtain ⟨n,many,rfl,n0,n20,k0,bk,q⟩:=h
 refine ⟨_,(z05 (z0d (z09 (d_An T) hr (z00 (qpv 0) (z00 z02 (z00 z02 (z00 (qpv 1) z01))))))),?_⟩
 exact ⟨_,rfl,_,rfl,n,0,2,many,rfl,n0,n20,by decide,by decide,k0,bk,q⟩
noncomputable def zp_Ao:ZSp:=fun ws n Q=>∃(m many:Int),ws=[.d (.int m),.d (.int many)]∧0≤m∧m≤20∧0≤many∧Bt 101 many∧Q (.d (.int (pS m.toNat 0 2 many.toNat))) n
theorem ca_Ao:CallOk K (sp_Ao K) zp_Ao:=fun vs H Q ⟨M,ws,n,Qd,ok,r,⟨m,many,e,h1,h2,h3,h4,q⟩,k⟩=>by
 subst e
 obtain ⟨v1,v2,rfl,r1,r2⟩:=r.inv2
 rw[r1.int_inv,r2.int_inv]
 exact ⟨m,many,rfl,h1,h2,h3,h4,fun H' s=>k.dvS ok s (.int _) rfl q⟩
noncomputable def sp_Au (K:W.Frag):Sp:=fun vs H Q _=>∃(n many:Int),vs=[.int n,.int many]∧0≤n∧n≤20∧0≤many∧Bt 101 many∧∀H',Same H H'→Q (.int (pS n.toNat 1 2 many.toNat)) H'
theorem sc_Au:FnScope ["n","many"] ["n","many"] (z08 s_Au):=⟨rfl,rfl,rfl,by decide +kernel,rfl,by decide +kernel,by decide +kernel⟩
theorem d_Au (T:Txt K mg):Def P w K mg base "odd_sum" ["n","many"] 9 (sp_Au K):=by
 refine Def.mkq T.f_Au sc_Au (fun vs H Q E h=>?_) (fun _ _ _ _ _ _ us hl=>match us,hl with|[_,_],_=>rfl) (fun f cdv A outer s H vs Q E hr h=>?_)
 ·obtain ⟨n,many,rfl,_⟩:=h
  rfl
 obtain ⟨n,many,rfl,n0,n20,k0,bk,q⟩:=h
 refine ⟨_,(z05 (z0d (z09 (d_An T) hr (z00 (qpv 0) (z00 z02 (z00 z02 (z00 (qpv 1) z01))))))),?_⟩
 exact ⟨_,rfl,_,rfl,n,1,2,many,rfl,n0,n20,by decide,by decide,k0,bk,q⟩
noncomputable def zp_Au:ZSp:=fun ws n Q=>∃(m many:Int),ws=[.d (.int m),.d (.int many)]∧0≤m∧m≤20∧0≤many∧Bt 101 many∧Q (.d (.int (pS m.toNat 1 2 many.toNat))) n
theorem ca_Au:CallOk K (sp_Au K) zp_Au:=fun vs H Q ⟨M,ws,n,Qd,ok,r,⟨m,many,e,h1,h2,h3,h4,q⟩,k⟩=>by
 subst e
 obtain ⟨v1,v2,rfl,r1,r2⟩:=r.inv2
 rw[r1.int_inv,r2.int_inv]
 exact ⟨m,many,rfl,h1,h2,h3,h4,fun H' s=>k.dvS ok s (.int _) rfl q⟩
noncomputable def pwR (k:Nat):List Rat:=List.replicate k 0++[1]
theorem pwR_len (k:Nat):(pwR k).length=k+1:=by unfold pwR;rw[List.length_append,List.length_replicate];rfl
theorem pwR_ok (k:Nat):z0x (pwR k)=true:=by
 unfold z0x
 rw[pwR_len,Nat.add_sub_cancel]
 unfold pwR
 rw[List.getD_eq_getElem?_getD,List.getElem?_append_right (by rw[List.length_replicate];omega),List.length_replicate,Nat.sub_self]
 rw[decide_eq_false (show ¬([(1:Rat)][0]?).getD 0=0 by decide +kernel)];simp
theorem pwR_cd (k:Nat):∀r∈pwR k,Cd 1 1 r:=fun r hr=>by
 unfold pwR at hr
 rcases List.mem_append.mp hr with h|h
 ·rw[List.eq_of_mem_replicate h];exact (Cd.zero (D:=1)).mono (by decide)
 ·rw[List.mem_singleton.mp h];exact ⟨1,by decide +kernel,by decide⟩
theorem hor_pwR (y:Rat):∀k,hor y (pwR k)=y^k
 | 0=>by show 0*y+1=y^0;rw[Rat.pow_zero];grind
 | k+1=>by
  show hor y (0::pwR k)=_
  show hor y (pwR k)*y+0=_
  rw[hor_pwR y k,Rat.pow_succ];grind
theorem sd_pow {n:Nat}(h:n≤20):∀m:Nat,sdV (sgL (pwR n) (pwR n).length) (2*(m:Int))=(((pS n 0 2 m-pS n 1 2 m:Int)):Rat):=by
 intro m
 have hl:(pwR n).length≤21:=by rw[pwR_len];omega
 induction m with
 | zero=>show sdV _ 0=_;rw[zgj];rfl
 | succ m ih=>
  have e1:2*((m+1:Nat):Int)=2*(m:Int)+1+1:=by push_cast;omega
  rw[e1,zbj hl,zbj hl,ih,hor_pwR,hor_pwR,zee,zee]
  rw[show (1-2*((2*(m:Int)+1)%2):Int)=-1 by omega,show (1-2*((2*(m:Int))%2):Int)=1 by omega,Int.zero_add,Int.add_comm 1 (2*(m:Int)),←Rat.intCast_pow,←Rat.intCast_pow,←Rat.intCast_mul,←Rat.intCast_mul,←Rat.intCast_add,←Rat.intCast_add]
  congr 1;omega
noncomputable def zp_AG:ZSp:=fun ws n Q=>∃m:Nat,ws=[.t 2,.d (.int (m:Int))]∧n<2^20∧m≤20∧Q (.d (.bool true)) (n+10)
theorem sc_AG:FnScope ["_law_feed_here","_law_n","_law_many","_law_due","_law_lets"] ["_law_feed_here","_law_n"] (z08 s_AG):=⟨rfl,rfl,rfl,by decide +kernel,rfl,by decide +kernel,by decide +kernel⟩
theorem d_AG (T:Txt K mg):Def P w K mg base "_law_powers_right" ["_law_feed_here","_law_n"] 10 (zc3 K zp_AG):=by
 refine Def.mkn T.f_AG sc_AG (fun ws n Q h => ?_) (fun _ _ _ _ _ _ us hl => match us, hl with|[_, _], _ => rfl) (fun f cdv A outer s H E hr => ⟨_, _, (z04 (z1b PassesOwn.never rfl (z7y (K := K) rfl (z1c (z00 z02 (z00 z02 (z00 z02 (z00 z02 (z00 (z09 (d_Ak T) hr (z00 (qpv 0) (z00 (z0c (z1d (K := K) rfl) (z0c (z6b (K := K) rfl) z02 (z0c z43 z02 z02)) z02) z01))) z01))))))) (z0l (i := 2) sc_AG.nd rfl (by walk_at "lc")) (z04 (z0g (i := 3) sc_AG.nd rfl (by walk_at "lc") (z0n (z00 (z0c z20 (z09 (d_Ao T) hr (z00 (qpv 1) (z00 (qpv 2) z01))) (z09 (d_Au T) hr (z00 (qpv 1) (z00 (qpv 2) z01)))) (z00 z02 z01))))
   (z05 (z1a (z0k (zbx (K:=K) rfl hr) (z0i (z7l (K:=K) rfl hr) rfl T.b_repr zfu (z00 (z09 (d_AS T) hr (z00 (z09 (d_AM T) hr (z00 (qpv 1) z01)) (z00 (z0c (z6b (K:=K) rfl) z02 (qpv 2)) z01))) z01)) (z0i (z7l (K:=K) rfl hr) rfl T.b_repr zfu (z00 (qpv 3) z01)) (z0s _)) (z05 (z0d z1x)) z0r))))
   (z04 (z7x (i:=4) (N:=["_law_k","_law_n"]) (is:=[none,some 1]) sc_AG.nd rfl rfl rfl ⟨rfl,rfl,by decide +kernel,by decide +kernel,⟨rfl,trivial⟩,rfl,⟨⟨rfl,rfl,rfl⟩,trivial⟩⟩ (z7y (K:=K) rfl (z0n (z00 (z0i (z6v rfl) rfl T.b_max zfv (z00 z02 (z00 (z0c z20 (qpv 1) z02) z01))) (z00 (qpv 1) z01)))) (fun _ _ _ _ _=>(z0l (i:=0) (show List.Nodup (["_law_k","_law_n"]:List Str) from by decide +kernel) rfl (by walk_at "lc"))) (fun _ _ _ _ _=>z66) (fun _ _ _ _ _=>(z09 (d_Ah T) hr (z00 (z09 (d_AM T) hr (z00 (qpv 1) z01)) (z00 (z09 (d_AC T) hr (z00 (z09 (d_AM T) hr (z00 (qpv 0) z01)) z01)) z01)))))
   (z05 (z0d (z2n (z4o (K:=K) rfl hr) (qpv 4) (z1c (z00 (z2n (z4o (K:=K) rfl hr) (qpv 1) z02 (z0s _)) (z00 z1x z01))) (z0s _)))))),(z1p (z8y (zbe (z3n (z03 z0j (z03 z0j (z03 z0j (z03 z0j (z03 (z0h ca_Ak (z03 z07 (z03 (z0t z30 (z0t zey z0j (z0t zlk z0j z0j)) z0j) z0b))) z0b))))))) z6e (z1p (z2k (b:=false) (SmE.x (z1j (z03 (z0t z9h (z0h ca_Ao (z03 z07 (z03 z07 z0b))) (z0h ca_Au (z03 z07 (z03 z07 z0b)))) (z03 z0j z0b)))))
   (zcq (b:=false) (SmT.x (z9y (z0t zq9 (z4h zix (z03 (z0h ca_AS (z03 (z0h ca_AM (z03 z07 z0b)) (z03 (z0t zey z0j z07) z0b))) z0b)) (z4h zix (z03 z07 z0b))))) (z3m (b:=false) (SmE.x z3o)) z4v)))
   (z1p (z2k (b:=false) (SmE.x (zdm (zbe (z1j (z03 (z4h zp1 (z03 z0j (z03 (z0t z9h z07 z0j) z0b))) (z03 z07 z0b)))) z46 zi5 (z0h CallOk.refl (z03 (z0h ca_AM (z03 z07 z0b)) (z03 (z0h ca_AC (z03 (z0h ca_AM (z03 z07 z0b)) z0b)) z0b))))))
   (z3m (b:=false) (SmE.x (z0t zhe z07 (z3n (z03 (z0t zhe z07 z0j) (z03 z3o z0b)))))))),fun ws n Q h=>?_⟩)
 ·obtain ⟨m,rfl,_⟩:=h
  rfl
 obtain ⟨m,rfl,hn,hm,q⟩:=h
 refine zkd ⟨by decide,by decide,by decide⟩ ?_
 refine zdz (.inl ⟨by decide,by decide⟩) ?_
 refine r_add ?_
 refine ⟨_,rfl,hn,by decide,by decide,fun f f0 f1=>?_⟩
 refine r_anyL ?_
 refine z6a (fun i δ k=>k=n+10∧∃a2 a3,δ=[some (.t 2),some (.d (.int (m:Int))),a2,a3,none]) ⟨rfl,_,_,rfl⟩ (fun i d δ k R hd hp hR=>?_) (fun δ k hp=>?_)
 ·obtain ⟨rfl,a2,a3,rfl⟩:=hp
  obtain ⟨z,rfl,hz⟩:∃z:Nat,d=.int (z:Int)∧(z:Int)<10^30:=by
   have hm:=List.mem_of_getElem? hd
   simp only[List.mem_cons,List.not_mem_nil,or_false]at hm
   rcases hm with rfl|rfl|rfl|rfl|rfl
   ·exact ⟨0,rfl,by decide⟩
   ·exact ⟨1,rfl,by decide⟩
   ·exact ⟨2,rfl,by decide⟩
   ·exact ⟨3,rfl,by decide⟩
   ·exact ⟨f.toNat,by rw[Int.toNat_of_nonneg f0],by rw[Int.toNat_of_nonneg f0];exact Int.lt_of_lt_of_le f1 (by decide)⟩
  have bz:Bt 101 (z:Int):=Bt.of_lt (10^30) (Int.lt_of_lt_of_le (by decide:-(10^30:Int)<0) (Int.natCast_nonneg z)) hz (by decide)
  have bz2:Bt 102 (2*(z:Int)):=by
   have:Bt 101 (z:Int):=bz
   unfold Bt at this ⊢
   rw[Int.natAbs_mul,show (2:Int).natAbs=2 from rfl,show (102:Nat)=101+1 from rfl,Nat.pow_succ];omega
  refine ⟨(m:Int),(z:Int),rfl,by omega,by omega,by omega,bz,?_⟩
  refine ⟨(m:Int),(z:Int),rfl,by omega,by omega,by omega,bz,?_⟩
  rw[Int.toNat_natCast,Int.toNat_natCast]
  refine r_sub ?_
  refine ⟨(m:Int),rfl,by omega,by omega,?_⟩
  rw[Int.toNat_natCast]
  refine zdz (.inl ⟨by decide,by decide⟩) ?_
  have pl1:=pwR_len m
  refine ⟨pwR m,2*(z:Int),1,1,102,rfl,by omega,by decide,by decide,pwR_cd m,bz2,by decide,by decide,by decide,?_⟩
  have bs:=zr1 (D:=1) (by decide) (show Bt 1 1 by decide) (pwR_cd m) (by omega) bz2
  rw[sd_pow hm]at bs ⊢
  have sw:Shw (sh ((((pS m 0 2 z-pS m 1 2 z:Int)):Rat))):=Sw.shM (m:=4000) (bs.mono (by decide)) (by decide) (by decide)
  refine zih sw fun k1 h1=>?_
  refine zih sw fun k2 h2=>?_
  refine zr6 (fun c=>absurd (h1.trans h2.symm) c) (fun _=>?_)
  exact hR _ _ ⟨rfl,_,_,rfl⟩
 obtain ⟨rfl,a2,a3,rfl⟩:=hp
 refine r_sub ?_
 refine zni fun m1 hm1=>?_
 obtain ⟨m',rfl⟩:∃m':Nat,m1=(m':Int):=⟨m1.toNat,by omega⟩
 refine r_anyT ?_
 refine ⟨by show 2≤_;decide,?_⟩
 refine zj8 (fun d=>.bool (jsD (pl (pwR m)) (pl (sgL (pwR (unN d).toNat) (pwR (unN d).toNat).length)))) (fun δ=>∃y,δ=[y,some (.d (.int (m:Int)))]) ⟨_,rfl⟩ (fun d δ R3 hd hp hR3=>?_) ?_
 ·obtain ⟨y,rfl⟩:=hp
  obtain ⟨z,rfl,hz⟩:∃z:Nat,d=.int (z:Int)∧z≤20:=by
   simp only[List.mem_cons,List.not_mem_nil,or_false]at hd
   rcases hd with rfl|rfl
   ·exact ⟨m',rfl,by omega⟩
   ·exact ⟨m,rfl,hm⟩
  refine ⟨(m:Int),rfl,by omega,by omega,?_⟩
  rw[Int.toNat_natCast]
  refine ⟨(z:Int),rfl,by omega,by omega,?_⟩
  rw[Int.toNat_natCast]
  have zl:=pwR_len z
  refine ⟨pwR z,1,1,rfl,by omega,by decide,by decide,pwR_cd z,by decide,?_⟩
  have c2:=z7v (D:=1) (by decide) (pwR_cd z) (by omega)
  refine ⟨pwR m,_,rfl,by rw[pwR_len];omega,PGd.of_cd (z36 (by decide)) (z4i (show Bt 1 1 by decide)) c2 (by decide),?_⟩
  have z':=hR3 [some (.d (.int (z:Int))),some (.d (.int (m:Int)))] ⟨_,rfl⟩
  rw[show (unN (.int (z:Int))).toNat=z from Int.toNat_natCast z]at z'
  exact z'
 have eqp:∀z:Nat,z≤20→jsD (pl (pwR m)) (pl (sgL (pwR z) (pwR z).length))=decide (z=m):=fun z hz=>by
  by_cases h:z=m
  ·rw[decide_eq_true h,h]
   exact jsD_iff.mpr (z8n (by rw[pwR_len];omega) (pwR_ok m))
  ·rw[decide_eq_false h]
   cases hb:jsD (pl (pwR m)) (pl (sgL (pwR z) (pwR z).length)) with
   | false=>rfl
   | true=>
    obtain ⟨_,hs⟩:=z58 (jsD_iff.mp hb)
    have e:pwR z=pwR m:=zbt (pwR_ok z) (pwR_ok m) fun y=>by
     have a:=hs y
     have b:=zbf (rs:=pwR z) (by rw[pwR_len];omega) y
     rw[a]at b
     grind
    have:=congrArg List.length e
    rw[pwR_len,pwR_len]at this
    omega
 have el:([PyData.int (m':Int),.int (m:Int)]).map (fun d=>PyData.bool (jsD (pl (pwR m)) (pl (sgL (pwR (unN d).toNat) (pwR (unN d).toNat).length))))=[.bool (decide (m'=m)),.bool (decide (m=m))]:=by
  show [PyData.bool (jsD (pl (pwR m)) (pl (sgL (pwR (m':Int).toNat) (pwR (m':Int).toNat).length))),PyData.bool (jsD (pl (pwR m)) (pl (sgL (pwR (m:Int).toNat) (pwR (m:Int).toNat).length)))]=_
  rw[Int.toNat_natCast,Int.toNat_natCast,eqp m' (by omega),eqp m hm]
 rw[el]
 have fin:∀b:Bool,(m=0 ↔ b=true)→fEq (.d (.list [.bool (decide (m'=m)),.bool (decide (m=m))])) (.d (.list [.bool b,.bool true])) (n+10) Q:=fun b hb=>by
  refine zgm ⟨rfl,rfl,by simp[PyData.depth,PyData.depthAll]⟩ ?_
  have e1:decide (m'=m)=b:=by
   have:(m'=m) ↔ b=true:=by rw[←hb];constructor<;>intro h<;>omega
   by_cases h:m'=m
   ·rw[decide_eq_true h];exact (this.mp h).symm
   ·rw[decide_eq_false h];cases b with|false=>rfl|true=>exact absurd (this.mpr rfl) h
  rw[e1,decide_eq_true (show m=m from rfl),show PyData.eqv (.list [.bool b,.bool true]) (.list [.bool b,.bool true])=true from by cases b<;>rfl]
  exact q
 refine znj (fun c=>?_) (fun c=>?_)
 ·exact fin true ⟨fun _=>rfl,fun _=>by omega⟩
 ·exact fin false ⟨fun h=>absurd (by omega) c,fun h=>by cases h⟩
noncomputable def Pap (d:PyData):Prop:=∃(rs:List Rat) (E:Int),d=pl rs∧rs.length≤22∧E≠0∧Bt 1500 E∧∀r∈rs,Cd E 1500 r
theorem pap_bs {rs:List Rat}{m:Nat}(h:∀r∈rs,Bs m r)(hl:rs.length≤22)(hm:m*rs.length+1≤1500):Pap (pl rs):=by
 obtain ⟨D,D0,bD,hD⟩:=z29 h
 exact ⟨rs,D,rfl,hl,D0,bD.mono hm,fun r hr=>(hD r hr).mono hm⟩
theorem Pap.pg {d:PyData}(h:Pap d):PGd d:=by
 obtain ⟨rs,E,rfl,_,E0,bE,hE⟩:=h
 exact PGd.of_cd E0 bE hE (by decide)
theorem with_len {xs ys rs:List Rat}{z:Rat}{N:Nat}(e1:rs=z1n rs)(e2:∀t,rs.getD t 0=xs.getD t 0+ys.getD t 0*z)(hx:xs.length≤N)(hy:ys.length≤N):rs.length≤N:=by
 rw[e1]
 refine z2e fun i hi=>?_
 rw[e2,z4d (by omega),z4d (show ys.length≤i by omega)];grind
noncomputable def sp_law (K:W.Frag):Sp:=fun vs H Q _=>∃(a:Addr) (ns:List Int),vs=[.ref a]∧SqL K H a (ns.map V.int)∧ns.length≤63∧∀H',Q (.bl true) H'
theorem sc_law:FnScope ["_law_script","_law_feed_here","_law_way","_law_great","_law_kq","_law_other_here","_law_mine","_law_his","_law_papers","_law_thing","_law_lets"] ["_law_script"] (z08 s_law):=⟨rfl,rfl,rfl,by decide +kernel,rfl,by decide +kernel,by decide +kernel⟩
theorem d_law (T:Txt K mg):Def P w K mg base "law" ["_law_script"] 11 (sp_law K):=by
 refine Def.mkq T.f_law sc_law (fun vs H Q E h=>?_) (fun _ _ _ _ _ _ us hl=>match us,hl with|[_],_=>rfl) (fun f cdv A outer s H vs Q E hr h=>?_)
 ·obtain ⟨a,ns,rfl,_⟩:=h
  rfl
 obtain ⟨a,ns,rfl,hS,hl,q⟩:=h
 refine ⟨_, (z04 (z0g (i := 1) sc_law.nd rfl (by walk_at "lc") (z09 (d_A1 T) hr (z00 (qpv 0) z01)))
   (z04 (z0g (i:=2) sc_law.nd rfl (by walk_at "lc") (z09 (d_AB T) hr (z00 (qpv 1) (z00 z02 z01))))
   (z04 (z4z (z0g (i:=3) sc_law.nd rfl (by walk_at "lc") (z2t (z0k (z4o (K:=K) rfl hr) (qpv 2) z02 (z0s _)) (z09 (d_AW T) hr (z00 (qpv 1) (z00 (z09 (d_AB T) hr (z00 (qpv 1) (z00 z02 z01))) (z00 z1x z01)))) (z0n z01))))
   (z04 (z1a (QW.pt (z7a (z2y (z25 (zkk (z09 (d_AG T) hr (z00 (qpv 1) (z00 (z09 (d_AB T) hr (z00 (qpv 1) (z00 (z0o (z3j (K:=K) rfl) (z1c (z00 z02 (z00 z02 z01))) (z1e z9p rfl T.b_int zfw (z00 (z2n zcv (qpv 2) z02 (z0s _)) z01)) (fun _ _=>rfl)) z01))) z01)))))) (z64 (z2y (z25 (z09 (d_Ah T) hr (z00 (qpv 3) (z00 (z09 (d_AC T) hr (z00 (qpv 3) z01)) z01)))))))) (z05 (z0d z1x)) z0r)
   (z04 (z0g (i:=4) sc_law.nd rfl (by walk_at "lc") (z09 (d_AW T) hr (z00 (qpv 1) (z00 (z09 (d_AB T) hr (z00 (qpv 1) (z00 z02 z01))) (z00 z1x z01)))))
   (z04 (z4z (z0g (i:=5) sc_law.nd rfl (by walk_at "lc") (z2t (z0k z83 (qpv 2) z02 (z0s _)) (z09 (d_AW T) hr (z00 (qpv 1) (z00 (z09 (d_AB T) hr (z00 (qpv 1) (z00 z02 z01))) (z00 z1x z01)))) (z09 (d_Ag T) hr (z00 (qpv 1) (z00 (qpv 4) z01))))))
   (z04 (z4y (i:=6) (j:=7) rfl sc_law.nd rfl rfl (by decide) rfl rfl (z00 (z09 (d_AC T) hr (z00 (qpv 4) z01)) (z00 (z09 (d_AC T) hr (z00 (qpv 5) z01)) z01)) rfl)
   (z04 (z0g (i:=8) sc_law.nd rfl (by walk_at "lc") (z1c (z00 (qpv 6) (z00 (qpv 7) (z00 (z09 (d_AU T) hr (z00 (z09 (d_AV T) hr (z00 (qpv 1) (z00 (qpv 6) z01))) z01)) (z00 (z09 (d_AZ T) hr (z00 (qpv 6) (z00 (z0n (z00 (z0n (z00 z02 (z00 z02 z01))) z01)) (z00 z02 z01)))) z01))))))
   (z04 (z1b PassesOwn.never rfl (z7y (K:=K) rfl (z0c (z1d (K:=K) rfl) (qpv 8) (z1c (z00 (z09 (d_AN T) hr (z00 (qpv 6) (z00 (z09 (d_AK T) hr (z00 (qpv 1) z01)) z01))) z01)))) (z0l (i:=9) sc_law.nd rfl (by walk_at "lc")) (z04 (z7x (i:=10) (N:=["_law_one","_law_thing"]) (is:=[none,some 9]) sc_law.nd rfl rfl rfl ⟨rfl,rfl,by decide +kernel,by decide +kernel,⟨rfl,trivial⟩,rfl,⟨⟨rfl,rfl,rfl⟩,trivial⟩⟩ (z7y (K:=K) rfl (z0n (z00 (qpv 4) (z00 (qpv 5) z01)))) (fun _ _ _ _ _=>(z0l (i:=0) (show List.Nodup (["_law_one","_law_thing"]:List Str) from by decide +kernel) rfl (by walk_at "lc"))) (fun _ _ _ _ _=>z66) (fun _ _ _ _ _=>(z09 (d_Ah T) hr (z00 (qpv 0) (z00 (qpv 1) z01)))))
   (z04 (z4z (z1a (QW.pt (z7a (QW.pt (z48 (z25 (z0o (z3j (K:=K) rfl) (qpv 10) z02 (fun _ _=>rfl))) (z3d (z2y (z25 (z09 (d_AY T) hr (z00 (qpv 4) (z00 (qpv 9) z01)))))))) (z64 (QW.pt (z48 (z25 (z0o (z3j (K:=K) rfl) (qpv 10) z02 (fun _ _=>rfl))) (z3d (z2y (z25 (z09 (d_AY T) hr (z00 (qpv 5) (z00 (qpv 9) z01))))))))))) (z05 (z0d z1x)) z0r))
   (z05 (z1a (QW.pt (z48 (z0k (z4o (K:=K) rfl hr) (qpv 10) (z1c (z00 z1x (z00 z1x z01))) (z0s _)) (z3d (z0k (zbx (K:=K) rfl hr) (qpv 4) (qpv 5) (z0s _))))) (z05 (z0d z1x)) z0r)))))
   (z04 (z1a (z25 (z09 (d_Ah T) hr (z00 (qpv 4) (z00 (z09 (d_AZ T) hr (z00 (qpv 6) (z00 (z09 (d_AX T) hr (z00 (z0c (z1d (K:=K) rfl) z02 (z09 (d_AB T) hr (z00 (qpv 1) (z00 z02 z01)))) z01)) (z00 z02 z01)))) z01)))) (z05 (z0d z1x)) z0r)
   (z05 (z0d (z68 (z09 (d_Ah T) hr (z00 (qpv 4) (z00 (qpv 6) z01))) (z67 (z09 (d_Ah T) hr (z00 (qpv 5) (z00 (qpv 7) z01))))))))))))))))),?_⟩
 refine ⟨_,rfl,a,ns,rfl,hS,hl,fun t H1 s1 T1=>?_⟩
 refine zrw (z1p (z2k (b := false) (SmE.x (z0h ca_AB (z03 z07 (z03 z0j z0b)))))
   (z1p (zdk (z2k (b:=false) (SmE.x (zjz (z9y (z0t zhe z07 z0j)) (z0h ca_AW (z03 z07 (z03 (z0h ca_AB (z03 z07 (z03 z0j z0b))) (z03 z3o z0b)))) (z1j z0b)))))
   (z1p (zcq (b:=false) (SmT.x (zn3 (z8z (z90 (zn4 (z0h CallOk.refl (z03 z07 (z03 (z0h ca_AB (z03 z07 (z03 (z0t zd9 (z3n (z03 z0j (z03 z0j z0b))) (z4h zll (z03 (z0t zu1 z07 z0j) z0b))) z0b))) z0b)))))) (z8z (z90 (z0h CallOk.refl (z03 z07 (z03 (z0h ca_AC (z03 z07 z0b)) z0b))))))) (z3m (b:=false) (SmE.x z3o)) z4v)
   (z1p (z2k (b:=false) (SmE.x (z0h ca_AW (z03 z07 (z03 (z0h ca_AB (z03 z07 (z03 z0j z0b))) (z03 z3o z0b))))))
   (z1p (zdk (z2k (b:=false) (SmE.x (zjz (z9y (z0t zrz z07 z0j)) (z0h ca_AW (z03 z07 (z03 (z0h ca_AB (z03 z07 (z03 z0j z0b))) (z03 z3o z0b)))) (z0h CallOk.refl (z03 z07 (z03 z07 z0b)))))))
   (z1p (zn0 (b:=false) (z03 (z0h ca_AC (z03 z07 z0b)) (z03 (z0h ca_AC (z03 z07 z0b)) z0b)))
   (z1p (z2k (b:=false) (SmE.x (z3n (z03 z07 (z03 z07 (z03 (z0h ca_AU (z03 (z0h CallOk.refl (z03 z07 (z03 z07 z0b))) z0b)) (z03 (z0h ca_AZ (z03 z07 (z03 (z1j (z03 (z1j (z03 z0j (z03 z0j z0b))) z0b)) (z03 z0j z0b)))) z0b)))))))
   (z1p (z8y (zbe (z0t z30 z07 (z3n (z03 (z0h ca_AN (z03 z07 (z03 (z0h ca_AK (z03 z07 z0b)) z0b))) z0b)))) z6e (z1p (z2k (b:=false) (SmE.x (zdm (zbe (z1j (z03 z07 (z03 z07 z0b)))) z46 zi5 (z0h CallOk.refl (z03 z07 (z03 z07 z0b))))))
   (z1p (zdk (zcq (b:=false) (SmT.x (zn3 (zdn (z90 (z0t zd9 z07 z0j)) (z8z (z90 (z0h CallOk.refl (z03 z07 (z03 z07 z0b)))))) (zdn (z90 (z0t zd9 z07 z0j)) (z8z (z90 (z0h CallOk.refl (z03 z07 (z03 z07 z0b)))))))) (z3m (b:=false) (SmE.x z3o)) z4v))
   (zcq (b:=false) (SmT.x (zdn (z9y (z0t zhe z07 (z3n (z03 z3o (z03 z3o z0b))))) (z9y (z0t zq9 z07 z07)))) (z3m (b:=false) (SmE.x z3o)) z4v))))
   (z1p (zcq (b:=false) (SmT.x (z90 (z0h CallOk.refl (z03 z07 (z03 (z0h ca_AZ (z03 z07 (z03 (z0h CallOk.refl (z03 (z0t z30 z0j (z0h ca_AB (z03 z07 (z03 z0j z0b)))) z0b)) (z03 z0j z0b)))) z0b))))) (z3m (b:=false) (SmE.x z3o)) z4v)
   (z3m (b:=false) (SmE.x (za5 (z0h CallOk.refl (z03 z07 (z03 z07 z0b))) (z0h CallOk.refl (z03 z07 (z03 z07 z0b))))))))))))))) T1 q ?_
 refine z3q (by first|decide|omega) (by first|decide|omega) (by first|decide|omega) fun way w0 w1=>?_
 refine ⟨fun δ k=>k≤6000∧∃gs:List Rat,δ=[none,some (.t 2),some (.d (.int way)),some (.d (pl gs)),none,none,none,none,none,none,none]∧gs.length≤13∧z0x gs=true∧∀r∈gs,Bs 40 r,?_,?_⟩
 ·refine znj (fun _=>?_) (fun _=>?_)
  ·refine z3q (by first|decide|omega) (by first|decide|omega) (by first|decide|omega) fun p p0 p1=>?_
   exact ⟨p,true,rfl,by decide,p0,by omega,fun rs rl rb ok=>⟨by decide,rs,rfl,by omega,ok,rb⟩⟩
  ·exact ⟨by decide,[],rfl,by decide,rfl,fun r h=>by cases h⟩
 rintro δ n1 ⟨hn1,gs,rfl,gl,gok,gb⟩
 refine ⟨fun w k=>k≤6020∧w=.d (.bool true),?_,?_⟩
 ·refine ztl (fun _=>?_) (fun _=>?_)
  ·refine zij (r_ixL (d:=.int 8) rfl ?_)
   refine z3q (by first|decide|omega) (by first|decide|omega) (by first|decide|omega) fun p p0 p1=>?_
   exact ⟨p.toNat,by rw[Int.toNat_of_nonneg p0],by omega,by omega,by omega,rfl⟩
  ·refine zij (r_ixL (d:=.int 21) rfl ?_)
   refine z3q (by first|decide|omega) (by first|decide|omega) (by first|decide|omega) fun p p0 p1=>?_
   exact ⟨p.toNat,by rw[Int.toNat_of_nonneg p0],by omega,by omega,by omega,rfl⟩
 rintro w n2 ⟨hn2,rfl⟩
 obtain ⟨D1,D10,bD1,hD1⟩:=z29 gb
 have gm:=Nat.mul_le_mul_left 40 gl
 refine ⟨gs,D1,_,rfl,by omega,D10,bD1,hD1,by omega,?_⟩
 have cg:=z7v D10 hD1 (by omega)
 refine ⟨gs,_,rfl,by omega,PGd.of_cd (z36 D10) (z4i bD1) cg (by omega),?_⟩
 rw[jsD_iff.mpr (z8n (by omega) gok)]
 refine z3q (by first|decide|omega) (by first|decide|omega) (by first|decide|omega) fun p p0 p1=>?_
 refine ⟨p,false,rfl,by omega,p0,by omega,fun kq ql qb qok=>?_⟩
 have qb:∀r∈kq,Bs 5 r:=qb
 have ql5:kq.length≤5:=by omega
 refine ⟨fun δ k=>k≤30000∧∃os:List Rat,δ=[none,some (.t 2),some (.d (.int way)),some (.d (pl gs)),some (.d (pl kq)),some (.d (pl os)),none,none,none,none,none]∧os.length≤6∧z0x os=true∧∀r∈os,Bs 7 r,?_,?_⟩
 ·refine zr7 (fun _=>?_) (fun _=>?_)
  ·refine z3q (by first|decide|omega) (by first|decide|omega) (by first|decide|omega) fun p p0 p1=>?_
   exact ⟨p,false,rfl,by omega,p0,by omega,fun rs rl rb ok=>⟨by omega,rs,rfl,by omega,ok,fun r h=>(show Bs 5 r from rb r h).mono (by decide)⟩⟩
  ·exact ⟨kq,5,rfl,by omega,by omega,qb,by decide,by decide,fun rs n' hn' hl' hb' ok'=>⟨by omega,rs,rfl,by omega,ok',hb'⟩⟩
 rintro δ n3 ⟨hn3,os,rfl,ol,ook,ob⟩
 obtain ⟨D,D0,bD,hD⟩:=z29 qb
 obtain ⟨D',D0',bD',hD'⟩:=z29 ob
 have qm:=Nat.mul_le_mul_left 5 ql5
 have om:=Nat.mul_le_mul_left 7 ol
 refine ⟨kq,D,_,rfl,by omega,D0,bD,hD,by omega,?_⟩
 refine ⟨os,D',_,rfl,by omega,D0',bD',hD',by omega,?_⟩
 have S0:=z36 D0
 have bS:Bt 140 (2097152*(D*2)):=(z4i bD).mono (by omega)
 have cS:∀r∈sgL kq kq.length,Cd (2097152*(D*2)) 140 r:=fun r h=>(z7v D0 hD (by omega) r h).mono (by omega)
 have bm:∀r∈sgL kq kq.length,Bs 140 r:=fun r h=>Cd.bs S0 (cS r h) bS (Nat.le_refl _)
 have sl:=z2r kq kq.length (by omega)
 have S0':=z36 D0'
 have bS':Bt 160 (2097152*(D'*2)):=(z4i bD').mono (by omega)
 have cS':∀r∈sgL os os.length,Cd (2097152*(D'*2)) 160 r:=fun r h=>(z7v D0' hD' (by omega) r h).mono (by omega)
 have sl':=z2r os os.length (by omega)
 have p1:Pap (pl (sgL kq kq.length)):=⟨_,_,rfl,by omega,S0,bS.mono (by decide),fun r h=>(cS r h).mono (by decide)⟩
 have p2:Pap (pl (sgL os os.length)):=⟨_,_,rfl,by omega,S0',bS'.mono (by decide),fun r h=>(cS' r h).mono (by decide)⟩
 have bh:Bs 2 (Rat.divInt 1 2):=⟨by decide +kernel,by decide +kernel⟩
 refine ⟨sgL kq kq.length,140,rfl,by omega,by omega,bm,by decide,by decide,fun rs4 n4 hn4 rl4 rb4=>?_⟩
 refine ⟨rs4,.inl rfl,by omega,?_⟩
 have p4:Pap (pl (z1n rs4)):=pap_bs (m:=170) (fun r h=>rb4 r (z7o h)) (Nat.le_trans (z38 _) (by omega)) (by have:=z38 rs4;have:=Nat.mul_le_mul_left 170 (show (z1n rs4).length≤7 by omega);omega)
 refine ⟨sgL kq kq.length,[Rat.divInt 1 2],1,rfl,by omega,by show 1≤1000;decide,.inl rfl,fun r h=>(bm r h).mono (by decide),(fun r h=>by rw[List.mem_singleton.mp h];exact bh.mono (by decide)),fun rs5 e1 e2=>?_⟩
 have l5:=with_len (N:=6) e1 e2 (by omega) (by show 1≤6;decide)
 have p5:Pap (pl rs5):=pap_bs (m:=150) (fun r h=>by
  obtain ⟨i,_,rfl⟩:=z2o h
  rw[e2]
  exact ((z2b bm (by decide) i).add ((z2b (m:=2) (fun r h=>by rw[List.mem_singleton.mp h];exact bh) (by decide) i).mul (show Bs 1 (((1:Int)):Rat) from ⟨by decide,by decide⟩))).mono (by decide)) (by omega) (by have:=Nat.mul_le_mul_left 150 l5;omega)
 refine ⟨rfl,by omega,fun x bx=>?_⟩
 have sm6:=Nat.mul_le_mul_right (5+1) (show (sgL kq kq.length).length≤6 by omega)
 refine ⟨sgL kq kq.length,x,rfl,by omega,bx.mono (by decide),fun r h=>(bm r h).mono (by decide),fun i t=>zka S0 bS bx cS (by omega) i t,?_⟩
 have ml6:=z3e x (sgL kq kq.length)
 have p6:Pap (pl (mvL x (sgL kq kq.length))):=pap_bs (m:=190) (fun r h=>by
  have:=zh6 S0 bS bx cS (N:=190) (by omega) 0
  rw[List.drop_zero]at this
  exact this r h) (by omega) (by have:=Nat.mul_le_mul_left 190 (show (mvL x (sgL kq kq.length)).length≤6 by omega);omega)
 refine zik (by show 4+1≤_;decide) ?_
 refine r_anyL ?_
 refine z6a (fun i δ k=>k=n4+2∧∃a9 a10,δ=[none,some (.t 2),some (.d (.int way)),some (.d (pl gs)),some (.d (pl kq)),some (.d (pl os)),some (.d (pl (sgL kq kq.length))),some (.d (pl (sgL os os.length))),some (.d (.list [pl (sgL kq kq.length),pl (sgL os os.length),pl (z1n rs4),pl rs5])),a9,a10]) ⟨rfl,_,_,rfl⟩ (fun i d δ k R hd hp hR=>?_) (fun δ k hp=>?_)
 ·obtain ⟨rfl,a9,a10,rfl⟩:=hp
  have pd:Pap d:=by
   have hm:=List.mem_of_getElem? hd
   simp only[List.mem_append,List.mem_cons,List.not_mem_nil,or_false]at hm
   rcases hm with (rfl|rfl|rfl|rfl)|rfl
   ·exact p1
   ·exact p2
   ·exact p4
   ·exact p5
   ·exact p6
  refine r_anyT ?_
  refine ⟨by show 2≤_;decide,?_⟩
  refine zj8 (fun d0=>.bool (jsD d0 d)) (fun δ=>∃y,δ=[y,some (.d d)]) ⟨_,rfl⟩ (fun d0 δ R3 hd0 hp hR3=>?_) ?_
  ·obtain ⟨y,rfl⟩:=hp
   obtain ⟨qs,rfl,hq⟩:∃qs,d0=pl qs∧qs.length≤100:=by
    simp only[List.mem_cons,List.not_mem_nil,or_false]at hd0
    rcases hd0 with rfl|rfl
    ·exact ⟨_,rfl,by omega⟩
    ·exact ⟨_,rfl,by omega⟩
   exact ⟨qs,d,rfl,hq,pd.pg,hR3 _ ⟨_,rfl⟩⟩
  show _
  obtain ⟨b0,hb0⟩:∃b,b=jsD (pl kq) d:=⟨_,rfl⟩
  obtain ⟨b1,hb1⟩:∃b,b=jsD (pl os) d:=⟨_,rfl⟩
  rw[show ([pl kq,pl os].map fun d0=>PyData.bool (jsD d0 d))=[.bool b0,.bool b1] by rw[hb0,hb1];rfl]
  obtain ⟨rs,E,rfl,rl,E0,bE,hE⟩:=pd
  refine ⟨fun δ k'=>k'=n4+2∧δ=[none,some (.t 2),some (.d (.int way)),some (.d (pl gs)),some (.d (pl kq)),some (.d (pl os)),some (.d (pl (sgL kq kq.length))),some (.d (pl (sgL os os.length))),some (.d (.list [pl (sgL kq kq.length),pl (sgL os os.length),pl (z1n rs4),pl rs5])),some (.d (pl rs)),some (.d (.list [.bool b0,.bool b1]))],?_,?_⟩
  ·refine r_ixL (d:=.bool b0) rfl ?_
   have t1:b1=true→∀y,hor (y+1) rs+hor y rs=hor y os:=fun hb=>by
    rw[hb1]at hb
    obtain ⟨_,zs⟩:=z58 (jsD_iff.mp hb)
    exact zs
   cases b0 with
   | false=>
    refine r_ixL (d:=.bool b1) rfl ?_
    cases b1 with
    | false=>exact ⟨rfl,rfl⟩
    | true=>exact ⟨os,rs,D',E,1500,rfl,by omega,rl,D0',bD'.mono (by omega),fun r h=>(hD' r h).mono (by omega),E0,bE,hE,by decide,t1 rfl,rfl,rfl⟩
   | true=>
    obtain ⟨_,zs⟩:=z58 (jsD_iff.mp hb0.symm)
    refine ⟨kq,rs,D,E,1500,rfl,by omega,rl,D0,bD.mono (by omega),fun r h=>(hD r h).mono (by omega),E0,bE,hE,by decide,zs,?_⟩
    refine r_ixL (d:=.bool b1) rfl ?_
    cases b1 with
    | false=>exact ⟨rfl,rfl⟩
    | true=>exact ⟨os,rs,D',E,1500,rfl,by omega,rl,D0',bD'.mono (by omega),fun r h=>(hD' r h).mono (by omega),E0,bE,hE,by decide,t1 rfl,rfl,rfl⟩
  rintro δ k' ⟨rfl,rfl⟩
  refine zgm ⟨rfl,rfl,by simp[PyData.depth,PyData.depthAll]⟩ ?_
  rw[show PyData.eqv (.list [.bool b0,.bool b1]) (.list [.bool true,.bool true])=(b0&&b1) from by cases b0<;>cases b1<;>rfl]
  cases h01:b0&&b1 with
  | false=>exact hR _ _ ⟨rfl,_,_,rfl⟩
  | true=>
   rw[Bool.and_eq_true]at h01
   obtain ⟨_,zs⟩:=z58 (jsD_iff.mp (hb0.symm.trans h01.1))
   obtain ⟨_,zs'⟩:=z58 (jsD_iff.mp (hb1.symm.trans h01.2))
   have e:kq=os:=zbt qok ook fun y=>by have a:=zs y;have b:=zs' y;grind
   refine zke ⟨z6j _,z6j _,zcg _⟩ ?_
   rw[ze6,decide_eq_true e]
   exact hR _ _ ⟨rfl,_,_,rfl⟩
 obtain ⟨rfl,a9,a10,rfl⟩:=hp
 refine z3q (by first|decide|omega) (by first|decide|omega) (by first|decide|omega) fun v v0 v1=>?_
 refine r_add ?_
 obtain ⟨m,hm⟩:∃m:Nat,1+v=((m+1:Nat):Int):=⟨v.toNat,by omega⟩
 rw[hm]
 refine ⟨m+1,rfl,by omega,?_⟩
 have rtl:=z4x (m+1)
 have rtc:=zr4 (k:=m+1) (by omega)
 have rtb:∀r∈rtL (m+1),Bs 200 r:=fun r h=>(Cd.bs (by decide) (rtc r h) (show Bt (7*(m+1)+1) 1 from Bt.mono (m:=1) (by decide) (by omega)) (Nat.le_refl _)).mono (by omega)
 refine ⟨sgL kq kq.length,rtL (m+1),1,rfl,by omega,by omega,.inl rfl,fun r h=>(bm r h).mono (by decide),fun r h=>(rtb r h).mono (by decide),fun rs8 e3 e4=>?_⟩
 have l8:=with_len (N:=23) e3 e4 (by omega) (by omega)
 have c8:∀r∈rs8,Cd (2097152*(D*2)) 400 r:=fun r h=>by
  obtain ⟨i,_,rfl⟩:=z2o h
  rw[e4,show (((1:Int)):Rat)=1 from rfl,Rat.mul_one]
  have z:=(z1k rtc i).wide S0 bS
  rw[Int.one_mul]at z
  exact ((Cd.add (m:=350) S0 ((z1k cS i).mono (by decide)) (z.mono (by omega))).mono (by decide))
 have no:jsD (pl kq) (pl rs8)=false:=by
  cases hb:jsD (pl kq) (pl rs8) with
  | false=>rfl
  | true=>
   obtain ⟨ok8,zs⟩:=z58 (jsD_iff.mp hb)
   have e:rs8=sgL kq kq.length:=zk6 ok8 (zbh (by omega) qok) fun j=>by
    have a:=zs (j:Rat)
    have b:=zbf (rs:=kq) (by omega) (j:Rat)
    grind
   have g:=e4 (m+1)
   rw[e,zdv,show (((1:Int)):Rat)=1 from rfl]at g
   exact absurd g (by grind)
 refine ⟨kq,pl rs8,rfl,by omega,PGd.of_cd S0 (bS.mono (by decide)) c8 (by decide),?_⟩
 rw[no]
 refine ⟨kq,_,rfl,by omega,p1.pg,?_⟩
 rw[jsD_iff.mpr (z8n (by omega) qok)]
 refine ⟨os,_,rfl,by omega,p2.pg,?_⟩
 rw[jsD_iff.mpr (z8n (by omega) ook)]
 rfl
end
noncomputable def FQ (K:W.Frag)(x:Str)(st:Stmt):Prop:=∃(f:Addr) (od an:Option Addr) (sl:Array (Option Value)) (oc kV dc pm cd ct:Value),nsIn K mainGlobals x=some (some (.ref f))∧K.lookup f=some ⟨oc,od,.func (fnOf x x (z1z st) (z15 st) (z08 st) .none kV dc pm an cd ct),sl⟩∧codeIn K cd x=true∧keepIn K (.ref f)=true
theorem fq_mk {K:W.Frag}{x:Str}{st:Stmt}{f:Addr}{od an:Option Addr}{sl:Array (Option Value)}{oc kV dc pm cd ct:Value}(a:nsIn K mainGlobals x=some (some (.ref f)))(l:K.lookup f=some ⟨oc,od,.func (fnOf x x (z1z st) (z15 st) (z08 st) .none kV dc pm an cd ct),sl⟩)(c:codeIn K cd x=true)(k:keepIn K (.ref f)=true):FQ K x st:=⟨f,od,an,sl,oc,kV,dc,pm,cd,ct,a,l,c,k⟩
theorem srcOf {K:W.Frag}{h:Heap}{mg:Str→Option Value}{x:Str}{st:Stmt}(X:K.In h)(G:h.Ns mainGlobals mg)(q:FQ K x st):Src K mg x st:=let ⟨f,_,_,_,_,_,_,_,_,_,a,l,c,k⟩:=q;⟨f,_,z9l l c k,mg_of X G a⟩
theorem o_law {P:Program}{w:World}{K:W.Frag}{mg:Str→Option Value}{base:Heap}{f:Addr}{fd:FuncData}(T:Txt K mg)(F:Fun K "law" "law" s_law f fd)(m:mg "law"=some (.ref f)):FnOk P w K mg base CX0 11 f fd ["_law_script"] (sp_law K):=(d_law T).fn F m
theorem all_mk {l : PySem.W.OpenLaw}{w : World}{K : W.Frag}{h : Heap}{mg : Str → Option Value}{fa : Addr}(X : K.In h)(G : h.Ns mainGlobals mg)(hfa : mg "law" = some (.ref fa))
  (q1:FQ K "choose" s_A3)
  (q2:FQ K "is_whole" s_Ap)
  (q3:FQ K "is_share" s_Az)
  (q4:FQ K "are_shares" s_As)
  (q5:FQ K "common_of" s_Aq)
  (q6:FQ K "lowest" s_Ay)
  (q7:FQ K "plus" s_AE)
  (q8:FQ K "minus" s_A6)
  (q9:FQ K "times" s_AD)
  (q10:FQ K "whole_of" s_A4)
  (q11:FQ K "is_poly" s_AT)
  (q12:FQ K "is_poly_within" s_Ad)
  (q13:FQ K "number_within" s_Ac)
  (q14:FQ K "first_unlike" s_Ai)
  (q15:FQ K "trimmed" s_Av)
  (q16:FQ K "power_poly" s_AM)
  (q17:FQ K "value_at" s_Af)
  (q18:FQ K "poly_plus" s_AO)
  (q19:FQ K "poly_times" s_Ab)
  (q20:FQ K "poly_scaled" s_Aa)
  (q21:FQ K "poly_moved" s_AP)
  (q22:FQ K "poly_stretched" s_AF)
  (q23:FQ K "poly_pair" s_A0)
  (q24:FQ K "signed" s_AC)
  (q25:FQ K "moved_from_above" s_AJ)
  (q26:FQ K "signed_below" s_AS)
  (q27:FQ K "signed_told" s_Al)
  (q28:FQ K "lets_signed" s_Am)
  (q29:FQ K "step_of" s_Ax)
  (q30:FQ K "row_to" s_A2)
  (q31:FQ K "summed" s_AQ)
  (q32:FQ K "summed_power" s_Ae)
  (q33:FQ K "sum_below" s_Aj)
  (q34:FQ K "sum_told" s_A5)
  (q35:FQ K "even_sum" s_Ao)
  (q36:FQ K "odd_sum" s_Au)
  (q37:FQ K "spaced_sum" s_An)
  (q38:FQ K "_law_feed" s_A1)
  (q39:FQ K "_law_draw" s_AB)
  (q40:FQ K "_law_low" s_AR)
  (q41:FQ K "_law_plus" s_AL)
  (q42:FQ K "_law_times" s_AH)
  (q43:FQ K "_law_small" s_AK)
  (q44:FQ K "_law_share" s_Ar)
  (q45:FQ K "_law_poly" s_AW)
  (q46:FQ K "_law_value" s_AI)
  (q47:FQ K "_law_trim" s_AU)
  (q48:FQ K "_law_moved" s_AN)
  (q49:FQ K "_law_at" s_Aw)
  (q50:FQ K "_law_with" s_AZ)
  (q51:FQ K "_law_spoilt" s_AV)
  (q52:FQ K "_law_other" s_Ag)
  (q53:FQ K "_law_far" s_Ak)
  (q54:FQ K "_law_let" s_Ah)
  (q55:FQ K "_law_rooted" s_AX)
  (q56:FQ K "_law_tells" s_AY)
  (q57:FQ K "_law_powers_right" s_AG)
  {f58:Addr}{od58 an58:Option Addr}{sl58:Array (Option Value)}{oc58 kV58 dc58 pm58 cd58 ct58:Value}(a58:nsIn K mainGlobals "law"=some (some (.ref f58)))(l58:K.lookup f58=some ⟨oc58,od58,.func (fnOf "law" "law" (z1z s_law) (z15 s_law) (z08 s_law) .none kV58 dc58 pm58 an58 cd58 ct58),sl58⟩)(c58:codeIn K cd58 "law"=true)(k58:keepIn K (.ref f58)=true)
  (z1:nsIn K mainGlobals "abs"=some none)
  (z2:nsIn K mainGlobals "bool"=some none)
  (z3:nsIn K mainGlobals "enumerate"=some none)
  (z4:nsIn K mainGlobals "int"=some none)
  (z5:nsIn K mainGlobals "isinstance"=some none)
  (z6:nsIn K mainGlobals "len"=some none)
  (z7:nsIn K mainGlobals "list"=some none)
  (z8:nsIn K mainGlobals "max"=some none)
  (z9:nsIn K mainGlobals "min"=some none)
  (z10:nsIn K mainGlobals "range"=some none)
  (z11:nsIn K mainGlobals "repr"=some none)
  (z12:nsIn K mainGlobals "reversed"=some none)
  (z13:nsIn K mainGlobals "sorted"=some none)
  (z14:nsIn K mainGlobals "tuple"=some none)
  {cf1:Addr}{cd1d:Option Addr}{cl1:Array (Option Value)}{cn1:Nat}{cx1_0 cx1_1:Tok}(y1:nsIn K mainGlobals "NOUGHT"=some (some (.ref cf1)))(w1:K.lookup cf1=some ⟨.type "tuple",cd1d,.seq #[.int (0) cx1_0,.int (1) cx1_1] cn1,cl1⟩)
  {cf2:Addr}{cd2d:Option Addr}{cl2:Array (Option Value)}{cn2:Nat}{cx2_0 cx2_1:Tok}(y2:nsIn K mainGlobals "ONE"=some (some (.ref cf2)))(w2:K.lookup cf2=some ⟨.type "tuple",cd2d,.seq #[.int (1) cx2_0,.int (1) cx2_1] cn2,cl2⟩)
  {ct3:Tok}(y3:nsIn K mainGlobals "MOST"=some (some (.int (24) ct3)))
  {Cx1 Bx1 Fx1 Nx1:Addr}{nmx1 qx1:Str}{bsx1 subx1:List Value}{snx1:List Str}{abx1:Bool}{colx1:Option Bool}{ddx1 odx1 anx1:Option Addr}{k0x1 k1x1 k2x1 k3x1 k5x1:Option Value}{slx1:Array (Option Value)}{ocx1 kVx1 dcx1 pmx1 cdx1 ctx1:Value}
  (ax1:nsIn K mainGlobals "NoPaper"=some (some (.ref Cx1)))(lx1:K.lookup Cx1=some (excClassObj nmx1 qx1 Cx1 Nx1 bsx1 (.ref Bx1::vmB) true snx1 subx1 abx1 colx1 ddx1 k0x1 k1x1 k2x1 k3x1 k5x1 "ValueError.__new__"))
  (tx1:PySem.W.tailIn K vmB (.ref Bx1::vmB)=true)(ix1:findIn K (.ref Cx1) "__init__"=some (some (.ref Fx1)))(nx1:PySem.W.isFn K (.ref Fx1)=true)(px1:keepIn K (.ref Cx1)=true)
  (fx1:K.lookup Fx1=some ⟨ocx1,odx1,.func (fnOf "__init__" "NoPaper.__init__" (z1z (z6n (top 5) 0)) (z15 (z6n (top 5) 0)) (z08 (z6n (top 5) 0)) .none kVx1 dcx1 pmx1 anx1 cdx1 ctx1),slx1⟩)(cx1:codeIn K cdx1 "NoPaper.__init__"=true)(kx1:keepIn K (.ref Fx1)=true)
  (sax1:findIn K (.ref Cx1) "__setattr__"=some (some (.builtin "object.__setattr__")))(gax1:findIn K (.ref Cx1) "__getattribute__"=some (some (.builtin "BaseException.__getattribute__")))(ghx1:findIn K (.ref Cx1) "__getattr__"=some none)(cax1:findIn K (.ref Cx1) "__class__"=some (some (.builtin "object.__class__")))
  (cgx1:PySem.W.specialIn K (.builtin "object.__class__") "__get__"=some (some (.builtin "getset_descriptor.__get__")))(ct2x1:PySem.W.takesIn K (.builtin "object.__class__")=some true)(pbx1:nsIn K mainGlobals "PowerError"=some (some (.ref Bx1)))
  (ff0x1:findIn K (.ref Cx1) "word"=some none)
  (ff1x1:findIn K (.ref Cx1) "place"=some none)
  {Ch1 Nh1:Addr}{nmh1 qh1:Str}{bsh1 bmh1 subh1:List Value}{snh1:List Str}{hdh1 abh1:Bool}{colh1:Option Bool}{ddh1:Option Addr}{k0h1 k1h1 k2h1 k3h1 k5h1:Option Value}{nih1:String}
  (ah1:nsIn K mainGlobals "NoPaper"=some (some (.ref Ch1)))(lh1:K.lookup Ch1=some (excClassObj nmh1 qh1 Ch1 Nh1 bsh1 bmh1 hdh1 snh1 subh1 abh1 colh1 ddh1 k0h1 k1h1 k2h1 k3h1 k5h1 nih1))(bh1:bmh1.contains (.type "BaseException")=true) :
  ∃fd:FuncData,(∀(s:Shared)(v:Value),BindsTo s fd ⟨[v],[]⟩ [("_law_script",v)])∧∀base:Heap,K.In base→base.Ns mainGlobals mg→FnOk l.prog w K mg base CX0 11 fa fd ["_law_script"] (sp_law K):=by
 have T:Txt K mg:=⟨srcOf X G q1,srcOf X G q2,srcOf X G q3,srcOf X G q4,srcOf X G q5,srcOf X G q6,srcOf X G q7,srcOf X G q8,srcOf X G q9,srcOf X G q10,srcOf X G q11,srcOf X G q12,srcOf X G q13,srcOf X G q14,srcOf X G q15,srcOf X G q16,srcOf X G q17,srcOf X G q18,srcOf X G q19,srcOf X G q20,srcOf X G q21,srcOf X G q22,srcOf X G q23,srcOf X G q24,srcOf X G q25,srcOf X G q26,srcOf X G q27,srcOf X G q28,srcOf X G q29,srcOf X G q30,srcOf X G q31,srcOf X G q32,srcOf X G q33,srcOf X G q34,srcOf X G q35,srcOf X G q36,srcOf X G q37,srcOf X G q38,srcOf X G q39,srcOf X G q40,srcOf X G q41,srcOf X G q42,srcOf X G q43,srcOf X G q44,srcOf X G q45,srcOf X G q46,srcOf X G q47,srcOf X G q48,srcOf X G q49,srcOf X G q50,srcOf X G q51,srcOf X G q52,srcOf X G q53,srcOf X G q54,srcOf X G q55,srcOf X G q56,srcOf X G q57,⟨f58,_,z9l l58 c58 k58,mg_of X G a58⟩,mg_none_of X G z1,mg_none_of X G z2,mg_none_of X G z3,mg_none_of X G z4,mg_none_of X G z5,mg_none_of X G z6,mg_none_of X G z7,mg_none_of X G z8,mg_none_of X G z9,mg_none_of X G z10,mg_none_of X G z11,mg_none_of X G z12,mg_none_of X G z13,mg_none_of X G z14,ConT.mk (mg_of X G y1) w1 (by show 2≤sizeLine;decide +kernel) (by exact .cons ⟨_,rfl⟩ (.cons ⟨_,rfl⟩ (.nil))),ConT.mk (mg_of X G y2) w2 (by show 2≤sizeLine;decide +kernel) (by exact .cons ⟨_,rfl⟩ (.cons ⟨_,rfl⟩ (.nil))),⟨_,mg_of X G y3⟩,⟨_,_,_,_,⟨mg_of X G ax1,⟨_,_,_,_,_,_,_,_,_,_,_,_,_,_,_,lx1⟩,tx1,ix1,nx1,px1,z9l fx1 cx1 kx1,zjg lx1 sax1 gax1 ghx1 cax1 cgx1 ct2x1⟩,ax1,pbx1,by intro z hz;simp only[List.mem_cons,List.mem_singleton,List.not_mem_nil,or_false]at hz;rcases hz with rfl|rfl<;>first|exact ff0x1|exact ff1x1⟩,⟨_,_,_,_,_,_,_,_,_,_,_,_,_,_,_,_,_,_,mg_of X G ah1,ah1,lh1,bh1⟩⟩
 have e:=hfa.symm.trans (mg_of X G a58)
 cases e
 refine ⟨fnOf "law" "law" (z1z s_law) (z15 s_law) (z08 s_law) .none kV58 dc58 pm58 an58 cd58 ct58,fun s v=>.of_eq rfl,fun base _ _=>?_⟩
 exact o_law T (z9l l58 c58 k58) (mg_of X G a58)
theorem walk {l : PySem.W.OpenLaw}{q : Program}{loose : List Str}{XP : (Str → Option Value) → Heap → Prop}{YP : World → Heap → Prop}{d : DefRec}{K : Params → PySem.W.Frag}(hn : l.most = some 63)(hdf : d.params.defaults = [])
  (hY:∀(w:World)(h:Heap),YP w h→(K w.params).In h)
  (F:∀(w:World)(mg:Str→Option Value)(fa:Addr)(h:Heap),(K w.params).In h→h.Ns mainGlobals mg→mg d.name=some (.ref fa)→
   ∃fd:FuncData,(∀(s:Shared)(u:Value),BindsTo s fd ⟨[u],[]⟩ [("_law_script",u)])∧∀base:Heap,(K w.params).In base→base.Ns mainGlobals mg→FnOk l.prog w (K w.params) mg base CX0 11 fa fd ["_law_script"] (sp_law (K w.params))) :
  PySem.W.WalkO q loose XP YP l.row.toRowW d [] (fun f vs=>PySem.call f vs):=
 L2.walk_of (n:=63) (k:=11) (x:="_law_script") (CX:=fun _=>CX0) (sp:=fun w=>sp_law (K w.params)) hn (by decide) hdf ⟨rfl,by decide,by decide,rfl⟩ hY F (fun _ _ a ns hl _ hS=>⟨a,ns,rfl,hS,hl,fun _=>rfl⟩) fun _ _ _ _ _ z=>z
end My
open PySem PySem.W PyProof.Rows
namespace PySem.W.Fast
theorem tw10135280333344877740:True:=trivial
theorem tw10312565777721169554:True:=trivial
theorem tw10501102970540614591:True:=trivial
theorem tw10741214302433120338:True:=trivial
theorem tw10879285397500623075:True:=trivial
theorem tw10914472821965188854:True:=trivial
theorem tw11258280465653802954:True:=trivial
theorem tw11617474166180239042:True:=trivial
theorem tw1170614732140822797:True:=trivial
theorem tw11992928526362330060:True:=trivial
theorem tw12236326225528408909:True:=trivial
theorem tw12606869754162009676:True:=trivial
theorem tw12727280074673137942:True:=trivial
theorem tw13107774988769331354:True:=trivial
theorem tw13531830019699442619:True:=trivial
theorem tw13614471474224680147:True:=trivial
theorem tw13636309526382516929:True:=trivial
theorem tw13821781720836278867:True:=trivial
theorem tw13879329535532516465:True:=trivial
theorem tw13959136344072937774:True:=trivial
theorem tw14080027309751220657:True:=trivial
theorem tw14166013878253670117:True:=trivial
theorem tw14215374269051734025:True:=trivial
theorem tw14217130637907633621:True:=trivial
theorem tw14219828322839270274:True:=trivial
theorem tw14419574654527273748:True:=trivial
theorem tw14537567916033399681:True:=trivial
theorem tw14619872814934476200:True:=trivial
theorem tw14722809350254265557:True:=trivial
theorem tw14821448409706084517:True:=trivial
theorem tw14966428835080967289:True:=trivial
theorem tw1551269796522539983:True:=trivial
theorem tw15545694761310879645:True:=trivial
theorem tw15841205799477576102:True:=trivial
theorem tw16025696977493438984:True:=trivial
theorem tw16214668466846174732:True:=trivial
theorem tw16846698052831925537:True:=trivial
theorem tw16943169912112324970:True:=trivial
theorem tw17358874307879558611:True:=trivial
theorem tw17526985839671541068:True:=trivial
theorem tw17766529123583147196:True:=trivial
theorem tw17945697784334982203:True:=trivial
theorem tw18040719890300311084:True:=trivial
theorem tw18355602803785561567:True:=trivial
theorem tw1951396680554424618:True:=trivial
theorem tw2051759155959976036:True:=trivial
theorem tw2210607157988139442:True:=trivial
theorem tw2375744523472507165:True:=trivial
theorem tw369590719913317114:True:=trivial
theorem tw4270649244269292989:True:=trivial
theorem tw4577832877153957728:True:=trivial
theorem tw5116302282054701517:True:=trivial
theorem tw5216837101864456582:True:=trivial
theorem tw5604150840054901631:True:=trivial
theorem tw6158102270751668500:True:=trivial
theorem tw6932071276749480459:True:=trivial
theorem tw7021027535756705980:True:=trivial
theorem tw7399271702143340844:True:=trivial
theorem tw7561581352243602752:True:=trivial
theorem tw7630247499177394112:True:=trivial
theorem tw7678423936272809420:True:=trivial
theorem tw7723291707247451989:True:=trivial
theorem tw781631167413862237:True:=trivial
theorem tw7848837912283594769:True:=trivial
theorem tw8204709406222740801:True:=trivial
theorem tw8877146195292947544:True:=trivial
theorem tw9170574561813891719:True:=trivial
theorem tw9221257282628587244:True:=trivial
theorem tw9247501943905044109:True:=trivial
theorem tw9342820032185537304:True:=trivial
theorem tw9802071166019081397:True:=trivial
theorem tw9889250346081470326:True:=trivial
end PySem.W.Fast
local macro_rules | `(tactic| walk_at "fq") => `(tactic| (refine' My.fq_mk ?a ?l ?c ?k; (case a => k_is); (case l => k_is); (case c => k_is); (case k => k_is)))
set_option maxRecDepth 100000 in
set_option maxHeartbeats 0 in
theorem PySem.Challenge.cw_powerrests_k45_whole_evens_less_odds_are_holds : PySem.Challenge.rw_powerrests_k45_whole_evens_less_odds_are.Holds := by
 w_on;o_law;k_head;(case hw=>w_witness2)
 k_fill
 refine My.walk (l:=PySem.Challenge.rw_powerrests_k45_whole_evens_less_odds_are) rfl rfl (fun w h Y=>PySem.W.kIn_of Y) ?F
 case F=>
  intro w mg fa h KX G hmg
  refine' My.all_mk KX G hmg _ _ _ _ _ _ _ _ _ _ _ _ _ _ _ _ _ _ _ _ _ _ _ _ _ _ _ _ _ _ _ _ _ _ _ _ _ _ _ _ _ _ _ _ _ _ _ _ _ _ _ _ _ _ _ _ _ ?a58 ?l58 ?c58 ?k58 ?z1 ?z2 ?z3 ?z4 ?z5 ?z6 ?z7 ?z8 ?z9 ?z10 ?z11 ?z12 ?z13 ?z14 ?y1 ?w1 ?y2 ?w2 ?y3 ?ax1 ?lx1 ?tx1 ?ix1 ?nx1 ?px1 ?fx1 ?cx1 ?kx1 ?sax1 ?gax1 ?ghx1 ?cax1 ?cgx1 ?ct2x1 ?pbx1 ?ff0x1 ?ff1x1 ?ah1 ?lh1 ?bh1
  iterate 57 (walk_at "fq")
  (case a58=>k_is)
  (case l58=>k_is)
  (case c58=>k_is)
  (case k58=>k_is)
  (case z1=>k_is)
  (case z2=>k_is)
  (case z3=>k_is)
  (case z4=>k_is)
  (case z5=>k_is)
  (case z6=>k_is)
  (case z7=>k_is)
  (case z8=>k_is)
  (case z9=>k_is)
  (case z10=>k_is)
  (case z11=>k_is)
  (case z12=>k_is)
  (case z13=>k_is)
  (case z14=>k_is)
  (case y1=>k_is)
  (case w1=>k_is)
  (case y2=>k_is)
  (case w2=>k_is)
  (case y3=>k_is)
  (case ax1=>k_is)
  (case lx1=>k_is)
  (case tx1=>kernel_rfl)
  (case ix1=>k_is)
  (case nx1=>k_is)
  (case px1=>k_is)
  (case fx1=>k_is)
  (case cx1=>k_is)
  (case kx1=>k_is)
  (case sax1=>k_is)
  (case gax1=>k_is)
  (case ghx1=>k_is)
  (case cax1=>k_is)
  (case cgx1=>k_is)
  (case ct2x1=>k_is)
  (case pbx1=>k_is)
  (case ff0x1=>k_is)
  (case ff1x1=>k_is)
  (case ah1=>k_is)
  (case lh1=>k_is)
  (case bh1=>kernel_rfl)