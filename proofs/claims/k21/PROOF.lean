import PyProof.Rows.All
import Wide.All
import OpenK.AllK
import Wide.FinOn
import Lean
import PyProof.EqAt
import PyProof.EqKinds
import PyProof.TupleCall
import PySem.Challenge.RW_powerrests_k21_refusals
set_option Elab.async false
set_option linter.all false
set_option maxRecDepth 100000
namespace L2
open PySem PySem.Spec PyProof.Rows
noncomputable abbrev Key:=Sum Int Str
noncomputable def keyIs:Key→Value→Bool
 | .inl k,v=>Value.isInt k v
 | .inr x,v=>Value.isStrOf x v
noncomputable def keyH (w:World):Key→Int
 | .inl k=>hashInt k
 | .inr x=>hashStr w x
theorem keyIs_shape:∀{k:Key} {v:Value},keyIs k v=true→(∃i t,k=Sum.inl i∧v=Value.int i t)∨(∃x t,k=Sum.inr x∧v=Value.str x t)
 | .inl i,v,h=>by
  obtain ⟨t,e⟩:=Value.isInt_shape (k:=i) (v:=v) h
  exact .inl ⟨i,t,rfl,e⟩
 | .inr x,v,h=>by
  obtain ⟨t,e⟩:=Value.isStrOf_shape (x:=x) (v:=v) h
  exact .inr ⟨x,t,rfl,e⟩
theorem keyIs_int (i:Int) (t:Tok):keyIs (.inl i) (.int i t)=true:=by simp[keyIs,Value.isInt]
theorem keyIs_str (x:Str) (t:Tok):keyIs (.inr x) (.str x t)=true:=by simp[keyIs,Value.isStrOf]
theorem key_ll (a b:Int):decide ((Sum.inl a:Key)=Sum.inl b)=(a == b):=by
 by_cases e:a=b
 ·subst e;simp
 ·have h:¬(Sum.inl a:Key)=Sum.inl b:=fun q=>e (Sum.inl.inj q)
  rw[decide_eq_false h]
  exact (beq_eq_false_iff_ne.mpr e).symm
theorem key_rr (a b:Str):decide ((Sum.inr a:Key)=Sum.inr b)=decide (a=b):=by
 by_cases e:a=b
 ·subst e;simp
 ·have h:¬(Sum.inr a:Key)=Sum.inr b:=fun q=>e (Sum.inr.inj q)
  rw[decide_eq_false h,decide_eq_false e]
theorem key_lr (a:Int) (b:Str):decide ((Sum.inl a:Key)=Sum.inr b)=false:=decide_eq_false (fun q=>nomatch q)
theorem key_rl (a:Str) (b:Int):decide ((Sum.inr a:Key)=Sum.inl b)=false:=decide_eq_false (fun q=>nomatch q)
noncomputable def mixKind (prog:Program) (w:World):PySem.KeyKind prog w Key where
 is:=keyIs
 hash:=keyH w
 inj:=fun v a b ha hb=>by
  rcases keyIs_shape ha with ⟨i,t,rfl,rfl⟩ | ⟨x,t,rfl,rfl⟩
  ·rcases keyIs_shape hb with ⟨j,u,rfl,e⟩ | ⟨y,u,rfl,e⟩
   ·injection e with e1 _;rw[e1]
   ·exact nomatch e
  ·rcases keyIs_shape hb with ⟨j,u,rfl,e⟩ | ⟨y,u,rfl,e⟩
   ·exact nomatch e
   ·injection e with e1 _;rw[e1]
 byValue:=fun k v h=>by
  rcases keyIs_shape h with ⟨i,t,rfl,rfl⟩ | ⟨x,t,rfl,rfl⟩ <;> rfl
 pyHash:=fun hv h=>by
  rcases keyIs_shape hv with ⟨i,t,rfl,rfl⟩ | ⟨x,t,rfl,rfl⟩
  ·exact wpAny_pyHash_int h
  ·exact wpAny_pyHash_str h
 eqBool:=fun hu hv h=>by
  rcases keyIs_shape hu with ⟨i,t,rfl,rfl⟩ | ⟨x,t,rfl,rfl⟩
  ·rcases keyIs_shape hv with ⟨j,u,rfl,rfl⟩ | ⟨y,u,rfl,rfl⟩
   ·rw[key_ll]at h;exact wpAny_eqBool_int h
   ·rw[key_lr]at h;exact SeqAt.EqAt.int_str i t y u _ _ _ _ h
  ·rcases keyIs_shape hv with ⟨j,u,rfl,rfl⟩ | ⟨y,u,rfl,rfl⟩
   ·rw[key_rl]at h;exact SeqAt.EqAt.str_int x t j u _ _ _ _ h
   ·rw[key_rr]at h;exact wpAny_eqBool_str h
 «strs»:=fun k x t v h=>by
  rcases keyIs_shape h with ⟨i,u,rfl,e⟩ | ⟨y,u,rfl,e⟩
  ·exact nomatch e
  ·injection e with e1 _
   subst e1
   cases v <;> rfl
theorem mixKind_int (prog:Program) (w:World) (i:Int) (t:Tok):(mixKind prog w).is (.inl i) (.int i t)=true:=keyIs_int i t
theorem mixKind_str (prog:Program) (w:World) (x:Str) (t:Tok):(mixKind prog w).is (.inr x) (.str x t)=true:=keyIs_str x t
end L2
namespace L2
open PySem PySem.Spec PyProof.Rows
section
inductive V where
 | non | bl (b:Bool) | int (i:Int) | str (x:Str) | byt (b:Array UInt8) | flt (b:UInt64) | ref (a:Addr) | ty (n:String)
 deriving DecidableEq
noncomputable def RelV:V→Value→Prop
 | .non,u=>u=Value.none
 | .bl b,u=>u=Value.bool b
 | .int i,u=>∃t,u=Value.int i t
 | .str x,u=>∃t,u=Value.str x t
 | .byt b,u=>∃t,u=Value.bytes b t
 | .flt b,u=>∃t,u=Value.float b t
 | .ref a,u=>u=Value.ref a
 | .ty n,u=>u=Value.type n
noncomputable abbrev Vals:List V→List Value→Prop:=Paired RelV
theorem Vals.length {xs:List V} {us:List Value} (r:Vals xs us):xs.length=us.length:=Paired.length r
theorem Vals.get:∀{xs:List V} {us:List Value} {i:Nat} {x:V},Vals xs us→xs[i]?=some x→∃u,us[i]?=some u∧RelV x u
 | _,_,_,_,.nil,e=>by simp at e
 | _,_,0,_,.cons r _,e=>by simp at e;subst e;exact ⟨_,rfl,r⟩
 | _,_,i + 1,x,.cons _ t,e=>by
  obtain ⟨u,h1,h2⟩:=Vals.get (i:=i) (x:=x) t (by simpa using e)
  exact ⟨u,by simpa using h1,h2⟩
theorem Vals.set {x:V} {u:Value} (r:RelV x u):∀{xs:List V} {us:List Value} (i:Nat),Vals xs us→Vals (xs.set i x) (us.set i u)
 | _,_,_,.nil=>.nil
 | _,_,0,.cons _ t=>.cons r t
 | _,_,i + 1,.cons q t=>.cons q (Vals.set r i t)
theorem Vals.append:∀{xs ys:List V} {us ws:List Value},Vals xs us→Vals ys ws→Vals (xs ++ ys) (us ++ ws)
 | _,_,_,_,.nil,s=>s
 | _,_,_,_,.cons r t,s=>.cons r (Vals.append t s)
theorem Vals.take:∀{xs:List V} {us:List Value} (n:Nat),Vals xs us→Vals (xs.take n) (us.take n)
 | _,_,0,_=>.nil
 | _,_,_ + 1,.nil=>.nil
 | _,_,n + 1,.cons r t=>.cons r (Vals.take n t)
theorem Vals.drop:∀{xs:List V} {us:List Value} (n:Nat),Vals xs us→Vals (xs.drop n) (us.drop n)
 | _,_,0,r=>r
 | _,_,_ + 1,.nil=>.nil
 | _,_,n + 1,.cons _ t=>Vals.drop n t
noncomputable def RelO:Option V→Option Value→Prop
 | some v,some u=>RelV v u
 | none,none=>True
 | _,_=>False
noncomputable def KV {κ:Type}:List (κ×V)→List (κ×Value)→Prop:=Paired fun (p:κ×V) (q:κ×Value)=>p.1=q.1∧RelV p.2 q.2
noncomputable def kV:Key→V
 | .inl i=>.int i
 | .inr x=>.str x
inductive HO where
 | lst (xs:List V)
 | tup (xs:List V)
 | dK (kvs:List (Key×V)) | dT (kvs:List (List Key×V))
 | set (S:Int→Bool) (n:Nat)
 | ins (C dx:Addr) (fs:List (Str×V))
 | own (x:Addr)
 | xd (fs:List (Str×V))
 | met (f x:Addr)
 | rng (lo hi:Int)
 | frz (o:Obj) (u:HO)
 | tbl (ps:Array Value)
 | ext (φ:Heap→Prop)
noncomputable abbrev Hp:=Addr→Option HO
noncomputable def upd (H:Hp) (a:Addr) (o:HO):Hp:=fun b=>if b=a then some o else H b
theorem upd_same {H:Hp} {a:Addr} {o:HO}:upd H a o a=some o:=by unfold upd;rw[if_pos rfl]
theorem upd_ne {H:Hp} {a b:Addr} {o:HO} (h:b≠a):upd H a o b=H b:=by unfold upd;rw[if_neg h]
theorem upd_upd {H:Hp} {a:Addr} {o u:HO}:upd (upd H a o) a u=upd H a u:=by
 funext b;unfold upd;split <;> rfl
theorem ne_of {H:Hp} {a b:Addr} {o u:HO} (h:H a=some o) (h':H b=some u) (d:o≠u):a≠b:=by
 intro e;subst e;rw[h]at h';exact d (Option.some.inj h')
theorem ne_of_none {H:Hp} {a b:Addr} {o:HO} (h:H a=some o) (h':H b=none):a≠b:=by
 intro e;subst e;rw[h]at h';cases h'
section
variable (P:Program) (w:World)
noncomputable def ObjOk (H:Hp) (h:Heap) (a:Addr):HO→Prop
 | .lst xs=>xs.length≤sizeLine∧∃(its:List Value) (n:Nat),Vals xs its∧h.get? a=some {cls:=.type "list",data:=.seq its.toArray n}
 | .tup xs=>xs.length≤sizeLine∧∃its:List Value,Vals xs its∧IsTup h a its.toArray
 | .dK kvs=>kvs.length≤sizeLine∧(a == sysModules)=false∧∃vs,KV kvs vs∧h.DictOf (mixKind P w) a vs
 | .dT kvs => kvs.length ≤ sizeLine ∧ (a == sysModules) = false ∧ ∃ xs : List (List Key × Addr × Value),
   Paired (fun (p:List Key×V) (q:List Key×Addr×Value)=>p.1=q.1∧H q.2.1=some (.tup (p.1.map kV))∧RelV p.2 q.2.2) kvs xs∧
   ∃o es ep,h.get? a=some o∧o.ExactDict∧o.data=.dict es ep∧es.toList=xs.map (entryOfKey (tupleKind (mixKind P w)))∧(xs.map (·.1)).Nodup
 | .set S n=>h.SetOf (intKind P w) a S n
 | .ins C dx fs => H dx = some (.own a) ∧ fs.length ≤ 1000 ∧ dx ≠ a ∧ h.get? a = some (PySem.W.instObj C dx) ∧
   ∃mA,h.Ns1 dx mA∧(∀f,RelO (fs.lookup f) (mA f))∧PySem.Within mA (fs.map (·.1))
 | .own _=>∃o,h.get? a=some o
 | .xd fs=>∃mA,h.Ns1 a mA∧∀f,RelO (fs.lookup f) (mA f)
 | .rng lo hi=>∃t u v,h.get? a=some {cls:=.type "range",data:=.fields #[.int lo t,.int hi u,.int 1 v]}
 | .frz o u=>h.get? a=some o∧ObjOk H h a u
 | .tbl ps=>h.get? a=some {cls:=.none,data:=.fields ps}
 | .met f x=>h.get? a=some (PySem.W.methodObj (.ref f) (.ref x))
 | .ext φ=>φ h∧(∃o,h.get? a=some o)∧∀h1 h2:Heap,φ h1→(∀o,h1.get? a=some o→h2.get? a=some o)→φ h2
noncomputable def HOk (H:Hp) (h:Heap):Prop:=∀a o,H a=some o→ObjOk P w H h a o
end
section
variable {P:Program} {w:World} {H H':Hp} {h h':Heap} {a:Addr} {o:HO}
theorem ObjOk.lt (x:ObjOk P w H h a o):a < h.objs.size:=by
 cases o with
 | lst xs=>obtain ⟨_,_,_,_,e⟩:=x;exact Heap.lt_size e
 | tup xs=>obtain ⟨_,_,_,p⟩:=x;exact p.lt
 | dK kvs=>obtain ⟨_,_,_,_,o,_,_,e,_⟩:=x;exact Heap.lt_size e
 | dT kvs=>obtain ⟨_,_,_,_,o,_,_,e,_⟩:=x;exact Heap.lt_size e
 | set S n=>obtain ⟨o,_,_,_,e,_⟩:=x;exact Heap.lt_size e
 | ins C dx fs=>obtain ⟨_,_,_,e,_⟩:=x;exact Heap.lt_size e
 | own y=>obtain ⟨_,e⟩:=x;exact Heap.lt_size e
 | xd fs=>obtain ⟨_,⟨_,_,_,e,_⟩,_⟩:=x;exact Heap.lt_size e
 | rng lo hi=>obtain ⟨_,_,_,e⟩:=x;exact Heap.lt_size e
 | frz ob u=>obtain ⟨e,_⟩:=x;exact Heap.lt_size e
 | tbl ps=>exact Heap.lt_size (show h.get? a=some _ from x)
 | met f y=>exact Heap.lt_size (show h.get? a=some _ from x)
 | ext φ=>obtain ⟨_,⟨_,e⟩,_⟩:=x;exact Heap.lt_size e
theorem Paired.mapP {α β:Type} {F G:α→β→Prop}:∀{l₁:List α} {l₂:List β},Paired F l₁ l₂→(∀a b,F a b→G a b)→Paired G l₁ l₂
 | _,_,.nil,_=>.nil
 | _,_,.cons r t,f=>.cons (f _ _ r) (Paired.mapP t f)
theorem ObjOk.stay (x : ObjOk P w H h a o) (k : ∀ b u, (b = a ∨ H b = some (.own a)) → h.get? b = some u → h'.get? b = some u)
  (ho:∀b,H b=some (.own a)→H' b=some (.own a)) (ht:∀b xs,H b=some (.tup xs)→H' b=some (.tup xs)):ObjOk P w H' h' a o:=by
 induction o with
 | lst xs=>obtain ⟨z,its,n,r,e⟩:=x;exact ⟨z,its,n,r,k _ _ (.inl rfl) e⟩
 | tup xs=>obtain ⟨z,its,r,ob,e,c⟩:=x;exact ⟨z,its,r,ob,k _ _ (.inl rfl) e,c⟩
 | dK kvs=>obtain ⟨z,y,vs,r,ob,es,ep,e,c⟩:=x;exact ⟨z,y,vs,r,ob,es,ep,k _ _ (.inl rfl) e,c⟩
 | dT kvs=>
  obtain ⟨z,y,xs,r,ob,es,ep,e,c⟩:=x
  exact ⟨z,y,xs,Paired.mapP r fun p q z=>⟨z.1,ht _ _ z.2.1,z.2.2⟩,ob,es,ep,k _ _ (.inl rfl) e,c⟩
 | set S n=>obtain ⟨ob,es,ep,t,e,c⟩:=x;exact ⟨ob,es,ep,t,k _ _ (.inl rfl) e,c⟩
 | ins C dx fs=>
  obtain ⟨d,z,ne,e,mA,⟨od,es,ep,e2,c⟩,r⟩:=x
  exact ⟨ho _ d,z,ne,k _ _ (.inl rfl) e,mA,⟨od,es,ep,k _ _ (.inr d) e2,c⟩,r⟩
 | own y=>obtain ⟨ob,e⟩:=x;exact ⟨ob,k _ _ (.inl rfl) e⟩
 | xd fs=>obtain ⟨mA,⟨od,es,ep,e,c⟩,r⟩:=x;exact ⟨mA,⟨od,es,ep,k _ _ (.inl rfl) e,c⟩,r⟩
 | rng lo hi=>obtain ⟨t,u,v,e⟩:=x;exact ⟨t,u,v,k _ _ (.inl rfl) e⟩
 | frz ob u ih=>obtain ⟨e,q⟩:=x;exact ⟨k _ _ (.inl rfl) e,ih q⟩
 | tbl ps=>
  have e:h.get? a=some {cls:=.none,data:=.fields ps}:=x
  show h'.get? a=some {cls:=.none,data:=.fields ps}
  exact k a _ (.inl rfl) e
 | met f y=>
  have e:h.get? a=some (PySem.W.methodObj (.ref f) (.ref y)):=x
  show h'.get? a=some (PySem.W.methodObj (.ref f) (.ref y))
  exact k a _ (.inl rfl) e
 | ext φ=>obtain ⟨p,⟨o,e⟩,st⟩:=x;exact ⟨st _ _ p fun o q=>k _ _ (.inl rfl) q,⟨o,k _ _ (.inl rfl) e⟩,st⟩
theorem HOk.lt (x:HOk P w H h) (e:H a=some o):a < h.objs.size:=(x a o e).lt
theorem HOk.fresh (x:HOk P w H h) (e:h.objs.size≤a):H a=none:=by
 cases q:H a with
 | none=>rfl
 | some u=>exact absurd (Nat.lt_of_lt_of_le (x.lt q) e) (Nat.lt_irrefl _)
theorem HOk.kept (x:HOk P w H h) (k:∀b u,h.get? b=some u→h'.get? b=some u):HOk P w H h':=fun a o e=>
 (x a o e).stay (fun b u _ q=>k b u q) (fun _ q=>q) fun _ _ q=>q
theorem HOk.laid (x:HOk P w H h) (k:∀b u,h.get? b=some u→h'.get? b=some u) (hp:h.objs.size≤a) (new:ObjOk P w (upd H a o) h' a o):HOk P w (upd H a o) h':=fun b u e=>by
 have hn:=x.fresh hp
 by_cases hb:b=a
 ·subst hb;rw[upd_same]at e;cases e;exact new
 ·rw[upd_ne hb]at e
  exact (x b u e).stay (fun c v _ q=>k c v q) (fun c q=>by rw[upd_ne (ne_of_none q hn)];exact q) fun c xs q=>by rw[upd_ne (ne_of_none q hn)];exact q
end
noncomputable def Rd (H:Hp) (a:Addr) (u:HO):Prop:=H a=some u∨∃o,H a=some (.frz o u)
theorem Rd.of {H:Hp} {a:Addr} {u:HO} (h:H a=some u):Rd H a u:=.inl h
theorem Rd.ok {P:Program} {w:World} {H:Hp} {h:Heap} {a:Addr} {u:HO} (r:Rd H a u) (x:HOk P w H h):ObjOk P w H h a u:=by
 rcases r with r | ⟨o,r⟩
 ·exact x a u r
 ·obtain ⟨_,q⟩:=x a _ r
  exact q
noncomputable def Mut:Option HO→Prop
 | some (.lst _)=>True
 | some (.dK _)=>True
 | some (.dT _)=>True
 | some (.set _ _)=>True
 | some (.ins _ _ _)=>True
 | some (.ext _)=>True
 | _=>False
section
variable {P:Program} {w:World} {H:Hp} {h h':Heap} {x e:Addr} {o':HO}
theorem HOk.write (ok : HOk P w H h) (mu : Mut (H x)) (he : e = x ∨ H e = some (.own x)) (k : ∀ b u, b ≠ e → h.get? b = some u → h'.get? b = some u) (heo : ∃ u, h'.get? e = some u)
  (new:ObjOk P w (upd H x o') h' x o'):HOk P w (upd H x o') h':=fun b u q=>by
 have nown:∀c y,H c=some (.own y)→c≠x:=fun c y r z=>by subst z;rw[r]at mu;exact mu
 have ntup:∀c xs,H c=some (.tup xs)→c≠x:=fun c xs r z=>by subst z;rw[r]at mu;exact mu
 by_cases hb:b=x
 ·subst hb;rw[upd_same]at q;cases q;exact new
 ·rw[upd_ne hb]at q
  by_cases hbe:b=e
  ·have q' : H b = some (.own x) := by
    rcases he with z | z
    ·exact absurd (hbe.trans z) hb
    ·rw[hbe];exact z
   rw[q]at q';cases q'
   obtain ⟨v,hv⟩:=heo
   exact ⟨v,by rw[hbe];exact hv⟩
  ·refine (ok b u q).stay (fun c v hc r=>k c v ?_ r) (fun c r=>by rw[upd_ne (nown c b r)];exact r) fun c xs r=>by rw[upd_ne (ntup c xs r)];exact r
   rcases hc with rfl | hc
   ·exact hbe
   ·rintro rfl
    rcases he with z | z
    ·exact nown c b hc z
    ·rw[hc]at z;cases z;exact hb rfl
end
structure Un (fs ex:List Addr) (H H':Hp) (h h':Heap):Prop where
 keep:∀b o,h.get? b=some o→H b=none→b∉fs→b∉ex→h'.get? b=some o
 slot:∀b o,h.get? b=some o→H b=none→b∈fs→b∉ex→∃sl,h'.get? b=some {o with slots:=sl}
 free:∀b o,h.get? b=some o→H b=none→b∉ex→H' b=none
 there:∀b o,h.get? b=some o→b∉ex→∃o',h'.get? b=some o'
 tups:∀b xs,H b=some (.tup xs)→H' b=some (.tup xs)
 frzs:∀b o u,H b=some (.frz o u)→H' b=some (.frz o u)
 tbls:∀b ps,H b=some (.tbl ps)→∃more,H' b=some (.tbl (ps ++ more))
section
variable {fs fs' ex ex':List Addr} {H H1 H2:Hp} {h h1 h2 h':Heap} {a x e:Addr} {o:HO}
theorem Un.any (u:Un fs ex H H1 h h1) {b:Addr} {ob:Obj} (q:h.get? b=some ob) (n:H b=none) (hx:b∉ex):∃sl,h1.get? b=some {ob with slots:=sl}:=by
 by_cases hb:b∈fs
 ·exact u.slot b ob q n hb hx
 ·exact ⟨ob.slots,u.keep b ob q n hb hx⟩
theorem Un.trans (a:Un fs ex H H1 h h1) (b:Un fs ex H1 H2 h1 h2):Un fs ex H H2 h h2 where
 keep:=fun c ob q n hc hx=>b.keep c ob (a.keep c ob q n hc hx) (a.free c ob q n hx) hc hx
 slot:=fun c ob q n hc hx=>by
  obtain ⟨sl,e1⟩:=a.slot c ob q n hc hx
  obtain ⟨sl',e2⟩:=b.slot c _ e1 (a.free c ob q n hx) hc hx
  exact ⟨sl',e2⟩
 free:=fun c ob q n hx=>by
  obtain ⟨o',e1⟩:=a.there c ob q hx
  exact b.free c o' e1 (a.free c ob q n hx) hx
 there:=fun c ob q hx=>by
  obtain ⟨o',e1⟩:=a.there c ob q hx
  exact b.there c o' e1 hx
 tups:=fun c xs q=>b.tups c xs (a.tups c xs q)
 frzs:=fun c ob xs q=>b.frzs c ob xs (a.frzs c ob xs q)
 tbls:=fun c ps q=>by
  obtain ⟨m1,e1⟩:=a.tbls c ps q
  obtain ⟨m2,e2⟩:=b.tbls c _ e1
  exact ⟨m1 ++ m2,by rw[e2,Array.append_assoc]⟩
theorem Un.kept (k:∀b u,h.get? b=some u→h'.get? b=some u):Un fs ex H H h h':=
 ⟨fun b ob q _ _ _=>k b ob q,fun b ob q _ _ _=>⟨ob.slots,k b ob q⟩,fun _ _ _ n _=>n,fun b ob q _=>⟨ob,k b ob q⟩,fun _ _ q=>q,fun _ _ _ q=>q,fun _ ps q=>⟨#[],by rw[q];simp⟩⟩
theorem Un.refl:Un fs ex H H h h:=Un.kept fun _ _ q=>q
theorem Un.laid (k:∀b u,h.get? b=some u→h'.get? b=some u) (hp:h.objs.size≤a) (hn:H a=none):Un fs ex H (upd H a o) h h' where
 keep:=fun b u q _ _ _=>k b u q
 slot:=fun b u q _ _ _=>⟨u.slots,k b u q⟩
 free:=fun b u q n _=>by rw[upd_ne (Nat.ne_of_lt (Nat.lt_of_lt_of_le (Heap.lt_size q) hp))];exact n
 there:=fun b u q _=>⟨u,k b u q⟩
 tups:=fun b xs q=>by rw[upd_ne (ne_of_none q hn)];exact q
 frzs:=fun b u xs q=>by rw[upd_ne (ne_of_none q hn)];exact q
 tbls:=fun b ps q=>⟨#[],by rw[upd_ne (ne_of_none q hn),q];simp⟩
theorem Un.write (mu:Mut (H x)) (he:e=x∨H e=some (.own x)) (k:∀b u,b≠e→h.get? b=some u→h'.get? b=some u) (heo:∃u,h'.get? e=some u):Un fs ex H (upd H x o) h h':=by
 have hx:∀b,H b=none→b≠x:=fun b n z=>by subst z;rw[n]at mu;exact mu
 have hb:∀b,H b=none→b≠e:=fun b n z=>by
  subst z
  rcases he with r | r
  ·exact hx b n r
  ·rw[n]at r;cases r
 have hm:∀b u,H b=some u→¬Mut (some u)→b≠x:=fun b u q nm z=>by subst z;rw[q]at mu;exact nm mu
 refine ⟨fun b u q n _ _=>k b u (hb b n) q,fun b u q n _ _=>⟨u.slots,k b u (hb b n) q⟩,fun b u q n _=>by rw[upd_ne (hx b n)];exact n,fun b u q _=>?_,
  fun b xs q=>by rw[upd_ne (hm b _ q fun z=>z)];exact q,fun b u xs q=>by rw[upd_ne (hm b _ q fun z=>z)];exact q,fun b ps q=>⟨#[],by rw[upd_ne (hm b _ q fun z=>z),q];simp⟩⟩
 by_cases hbe:b=e
 ·subst hbe;exact heo
 ·exact ⟨u,k b u hbe q⟩
theorem Un.mono (u:Un fs ex H H1 h h1) (hs:∀b∈fs,b∈fs') (hx:∀b∈ex,b∈ex'):Un fs' ex' H H1 h h1:=
 ⟨fun b ob q n hb he=>u.keep b ob q n (fun z=>hb (hs b z)) fun z=>he (hx b z),fun _ _ q n _ he=>u.any q n fun z=>he (hx _ z),fun b ob q n he=>u.free b ob q n fun z=>he (hx b z),fun b ob q he=>u.there b ob q fun z=>he (hx b z),u.tups,u.frzs,u.tbls⟩
end
noncomputable def trk (h:Heap) (H:Hp):List Addr:=(List.range h.objs.size).filter fun a=>(H a).isSome
noncomputable def hidT (h:Heap) (H:Hp):Heap:=PySem.W.hideAll h (trk h H)
theorem hidT_size (h:Heap) (H:Hp):(hidT h H).objs.size=h.objs.size:=PySem.W.hideAll_size _ _
theorem hidT_get {h:Heap} {H:Hp} {b:Addr} {o:Obj} (e:h.get? b=some o) (n:H b=none):(hidT h H).get? b=some o:=
 PySem.W.hideAll_get _ e fun hm=>by
  have q:(H b).isSome=true:=(List.mem_filter.mp hm).2
  rw[n]at q;simp at q
theorem of_hidT {h:Heap} {H:Hp} {b:Addr} {o:Obj} (e:(hidT h H).get? b=some o):h.get? b=some o∧H b=none:=by
 have e':h.get? b=some o:=PySem.W.of_hideAll (trk h H) e
 refine ⟨e',?_⟩
 cases q:H b with
 | none=>rfl
 | some x=>
  have hm:b∈trk h H:=List.mem_filter.mpr ⟨List.mem_range.mpr (Heap.lt_size e'),by simp[q]⟩
  have z:(hidT h H).get? b=none:=PySem.W.hideAll_none (trk h H) hm
  rw[z]at e;cases e
noncomputable def allNews (g h:Heap) (L:Addr):List (Addr×Obj):=(List.range h.objs.size).filterMap fun a=>if a=L∨(g.get? a).isSome=true then none else (h.get? a).map fun o=>(a,o)
noncomputable def rest (g h:Heap) (L d:Addr):List (Addr×Obj):=(allNews g h L).filter fun p=>decide (p.1≠d)
end
section
structure Mod (K:W.Frag) (mg:Str→Option Value) (base:Heap):Prop where
 kin:K.In base
 glob:base.Ns mainGlobals mg
 blt:∃mb,base.Ns builtinsNs mb∧∀x:Str,x≠"__name__"→mb x=bootBuiltins x
 nolimit:base.NoLimit
 nodigits:base.NoDigits
structure Cx where
 prog:Program
 w:World
 K:PySem.W.Frag
 mg:Str→Option Value
 base:Heap
 A:Around
 N:List Str
 s₀:Shared
 H₀:Hp
 env:Env
 outer:List Env
 stack:List Env
 ex:List Addr
 fn:Str→Bool
 calm:Bool
 pn:List (Addr×Obj)
 xe:Value→Shared→Prop
noncomputable def frs (l:List Env):List Addr:=l.filterMap (·.frame)
noncomputable abbrev Cx.fs (X:Cx):List Addr:=frs X.outer
noncomputable def Vis (sc:Scope) (x:Str):Prop:=sc.names.lookup x=some .local∨sc.names.lookup x=some .cell∨sc.names.lookup x=some .free
noncomputable def Loc (sc:Scope) (x:Str):Prop:=sc.names.lookup x=some .local∨sc.names.lookup x=some .cell
noncomputable def Look (env:Env) (h:Heap) (m:Str→Option Value) (x:Str) (u:Value):Prop:=
 (env.kindOf x=some .local∧m x=some u)∨((env.kindOf x=some .cell∨env.kindOf x=some .free)∧∃c,env.cells.lookup x=some c∧h.IsCell c (some u))
structure Cx.Ok (X:Cx):Prop where
 mod:Mod X.K X.mg X.base
 kind:X.env.scope.kind=.function
 glob:X.env.globals=mainGlobals
 blt:X.env.builtins=builtinsNs
 above:X.s₀.heap.objs.size≤X.env.locals
 inj:∀x y c,X.env.cells.lookup x=some c→X.env.cells.lookup y=some c→x=y
 has:∀x,(X.env.kindOf x=some .cell∨X.env.kindOf x=some .free)→∃c,X.env.cells.lookup x=some c
 cab:∀x c,X.fn x=true→X.env.cells.lookup x=some c→X.s₀.heap.objs.size≤c
 hd:X.calm=true→X.A.handled=none
 frames:X.A.frames=some X.stack
 stk:X.stack=X.outer∨(X.stack=X.env::X.outer∧X.env.frame=some X.env.locals)
 exf:∀b∈X.ex,b≠X.env.locals∧∀x c,X.env.cells.lookup x=some c→c≠b
 bs:∀b o,X.base.get? b=some o→X.s₀.heap.get? b=some o∧X.H₀ b=none
 bsz:X.base.objs.size≤X.s₀.heap.objs.size
 noex:∀b o,X.base.get? b=some o→b∉X.ex
 exfs:∀b∈X.ex,b∉X.fs
 funs:X.s₀.heap.FunFrames X.base X.outer
 frf:∀b∈X.fs,X.H₀ b=none
structure Inv (X:Cx) (pins:List (Addr×Obj)) (σ:List (Option V)) (H:Hp) (s:Shared):Prop where
 ok:X.Ok
 os:s.os=X.s₀.os
 bare:AllBare s.gens
 base:Un X.fs X.ex X.H₀ H X.s₀.heap s.heap
 loc:∃m,s.heap.Ns X.env.locals m∧∀(i:Nat) (x:Str) (v:V),X.N[i]?=some x→σ[i]?=some (some v)→Vis X.env.scope x→∃u,RelV v u∧Look X.env s.heap m x u
 cell:∀x c,X.env.cells.lookup x=some c→∃v,s.heap.IsCell c v
 free:H X.env.locals=none
 freeC:∀x c,X.env.cells.lookup x=some c→H c=none
 pin:∀p∈X.pn ++ pins,s.heap.get? p.1=some p.2∧H p.1=none∧p.1≠X.env.locals∧p.1∉X.fs∧∀v,p.2.data≠.cell v
 hok:HOk X.prog X.w H s.heap
 len:σ.length=X.N.length
section
variable {X:Cx} {pins:List (Addr×Obj)} {σ:List (Option V)} {H H':Hp} {s:Shared} {h':Heap}
theorem Cx.Ok.nofr (ok:X.Ok) {b:Addr} {o:Obj} (e:X.base.get? b=some o):b∉X.fs:=fun hb=>by
 have:=(ok.funs.mem hb).1
 rw[e]at this;cases this
theorem Inv.bs (I:Inv X pins σ H s):∀b o,X.base.get? b=some o→s.heap.get? b=some o∧H b=none:=fun b o e=>
 ⟨I.base.keep b o (I.ok.bs b o e).1 (I.ok.bs b o e).2 (I.ok.nofr e) (I.ok.noex b o e),I.base.free b o (I.ok.bs b o e).1 (I.ok.bs b o e).2 (I.ok.noex b o e)⟩
theorem Inv.bk (I:Inv X pins σ H s):∀b o,X.base.get? b=some o→s.heap.get? b=some o:=fun b o e=>(I.bs b o e).1
theorem Inv.mod (I:Inv X pins σ H s):Mod X.K X.mg X.base:=I.ok.mod
theorem Inv.kIn (I:Inv X pins σ H s):X.K.In s.heap:=I.ok.mod.kin.keeps I.bk
theorem Inv.fr (I:Inv X pins σ H s):∃m,Fr X.base X.env.locals s.heap m:=
 let ⟨m,hn,_⟩:=I.loc
 ⟨m,hn,I.bk,Nat.le_trans I.ok.bsz I.ok.above⟩
theorem Inv.lt (I:Inv X pins σ H s):X.env.locals < s.heap.objs.size:=let ⟨_,hn,_⟩:=I.loc;hn.lt
theorem Inv.sz (I:Inv X pins σ H s):X.s₀.heap.objs.size≤s.heap.objs.size:=Nat.le_trans I.ok.above (Nat.le_of_lt I.lt)
theorem Inv.nofs (I:Inv X pins σ H s) {a:Addr} (h:s.heap.objs.size≤a):a∉X.fs:=fun hb=>by
 obtain ⟨_,o,ho,_⟩:=I.ok.funs.mem hb
 exact absurd (Nat.lt_of_lt_of_le (Heap.lt_size ho) (Nat.le_trans I.sz h)) (Nat.lt_irrefl _)
theorem Inv.cne (I:Inv X pins σ H s):∀x c,X.env.cells.lookup x=some c→c≠X.env.locals:=fun x c e z=>by
 obtain ⟨v,o,ho,hd⟩:=I.cell x c e
 obtain ⟨m,⟨o',es,ep,ho',hd',_⟩,_⟩:=I.loc
 rw[z,ho']at ho;cases ho;rw[hd']at hd;cases hd
theorem Inv.funs (I:Inv X pins σ H s):s.heap.FunFrames X.base X.outer:=by
 have all:∀(l:List Env),(∀b∈frs l,b∈X.fs)→X.s₀.heap.FunFrames X.base l→s.heap.FunFrames X.base l:=by
  intro l
  induction l with
  | nil=>intro _ _;trivial
  | cons env r ih=>
   intro hs hl
   obtain ⟨hk,⟨L,o,hf,hn,ho,hd⟩,hr⟩:=hl
   have hL:L∈X.fs:=hs L (by unfold frs;rw[List.filterMap_cons,hf];exact List.mem_cons_self)
   obtain ⟨sl,e⟩:=I.base.slot L o ho (I.ok.frf L hL) hL fun z=>I.ok.exfs L z hL
   exact ⟨hk,⟨L,_,hf,hn,e,hd⟩,ih (fun b hb=>hs b (by unfold frs;rw[List.filterMap_cons,hf];exact List.mem_cons_of_mem _ hb)) hr⟩
 exact all X.outer (fun _ hb=>hb) I.ok.funs
theorem Inv.stack (I:Inv X pins σ H s):s.heap.FunFrames X.base X.stack:=by
 rcases I.ok.stk with e | ⟨e,hf⟩
 ·rw[e];exact I.funs
 ·rw[e]
  obtain ⟨m,hn,_⟩:=I.loc
  refine .cons (by rw[I.ok.kind];decide) hf hn ?_ I.funs
  exact Heap.get?_none_of_le (Nat.le_trans I.ok.bsz I.ok.above)
theorem Inv.stkSub (I:Inv X pins σ H s):∀b∈frs X.stack,b∈X.env.locals::X.fs:=fun b hb=>by
 rcases I.ok.stk with e | ⟨e,hf⟩
 ·rw[e]at hb;exact List.mem_cons_of_mem _ hb
 ·rw[e]at hb
  unfold frs at hb
  rw[List.filterMap_cons,hf]at hb
  exact hb
theorem Inv.stkFree (I:Inv X pins σ H s):∀b∈frs X.stack,H b=none:=fun b hb=>by
 rcases List.mem_cons.mp (I.stkSub b hb) with e | hb
 ·rw[e];exact I.free
 ·obtain ⟨_,o,ho,_⟩:=I.ok.funs.mem hb
  exact I.base.free b o ho (I.ok.frf b hb) fun z=>I.ok.exfs b z hb
theorem Inv.step {g' : Array GenState} {t' : Nat} {d' : Drawn} {ch : List Addr} (I : Inv X pins σ H s)
  (hch:∀b∈ch,(b∈X.ex∨X.s₀.heap.objs.size≤b)∧b≠X.env.locals∧(∀x c,X.env.cells.lookup x=some c→c≠b)∧∀p∈X.pn ++ pins,p.1≠b)
  (keep:∀b o,b≠X.env.locals→b∉X.fs→b∉ch→s.heap.get? b=some o→H b=none→h'.get? b=some o)
  (slot:∀b o,b≠X.env.locals→b∈X.fs→b∉ch→s.heap.get? b=some o→H b=none→∃sl,h'.get? b=some {o with slots:=sl}) (free:∀b o,b∉ch→s.heap.get? b=some o→H b=none→H' b=none)
  (there:∀b o,b∉ch→s.heap.get? b=some o→∃o',h'.get? b=some o')
  (tups:∀b xs,H b=some (.tup xs)→H' b=some (.tup xs)) (frzs:∀b o u,H b=some (.frz o u)→H' b=some (.frz o u)) (tbls:∀b ps,H b=some (.tbl ps)→∃more,H' b=some (.tbl (ps ++ more)))
  (ns:∀m,s.heap.Ns X.env.locals m→h'.Ns X.env.locals m) (hok:HOk X.prog X.w H' h') (hg:AllBare g') :
  Inv X pins σ H' {s with heap:=h',gens:=g',drawn:=d',toks:=t'}:=by
 have neL:∀b o,X.s₀.heap.get? b=some o→b≠X.env.locals:=fun b o e=>Nat.ne_of_lt (Nat.lt_of_lt_of_le (Heap.lt_size e) I.ok.above)
 have neC:∀b o,X.s₀.heap.get? b=some o→b∉X.ex→b∉ch:=fun b o e hx hb=>by
  rcases (hch b hb).1 with z | z
  ·exact hx z
  ·exact absurd (Nat.lt_of_lt_of_le (Heap.lt_size e) z) (Nat.lt_irrefl _)
 have cellK:∀x c,X.env.cells.lookup x=some c→∀v,s.heap.IsCell c v→h'.IsCell c v:=fun x c e v ⟨o,ho,hd⟩=>by
  have nch:c∉ch:=fun z=>(hch c z).2.2.1 x c e rfl
  by_cases hc:c∈X.fs
  ·obtain ⟨sl,q⟩:=slot c o (I.cne x c e) hc nch ho (I.freeC x c e)
   exact ⟨_,q,hd⟩
  ·exact ⟨o,keep c o (I.cne x c e) hc nch ho (I.freeC x c e),hd⟩
 refine ⟨I.ok,I.os,hg,⟨fun b o e n hb hx=>?_,fun b o e n hb hx=>?_,fun b o e n hx=>?_,fun b o e hx=>?_,fun b xs e=>tups b xs (I.base.tups b xs e),fun b o xs e=>frzs b o xs (I.base.frzs b o xs e),fun b ps e=>?_⟩,?_,fun x c e=>?_,?_,fun x c e=>?_,fun p hp=>?_,hok,I.len⟩
 ·exact keep b o (neL b o e) hb (neC b o e hx) (I.base.keep b o e n hb hx) (I.base.free b o e n hx)
 ·obtain ⟨sl,e1⟩:=I.base.slot b o e n hb hx
  obtain ⟨sl',e2⟩:=slot b _ (neL b o e) hb (neC b o e hx) e1 (I.base.free b o e n hx)
  exact ⟨sl',e2⟩
 ·obtain ⟨o',e1⟩:=I.base.there b o e hx
  exact free b o' (neC b o e hx) e1 (I.base.free b o e n hx)
 ·obtain ⟨o',e1⟩:=I.base.there b o e hx
  exact there b o' (neC b o e hx) e1
 ·obtain ⟨m1,e1⟩:=I.base.tbls b ps e
  obtain ⟨m2,e2⟩:=tbls b _ e1
  exact ⟨m1 ++ m2,by rw[e2,Array.append_assoc]⟩
 ·obtain ⟨m,hn,hl⟩:=I.loc
  refine ⟨m,ns m hn,fun i x v e1 e2 e3=>?_⟩
  obtain ⟨u,r,l⟩:=hl i x v e1 e2 e3
  refine ⟨u,r,?_⟩
  rcases l with l | ⟨k,c,e,z⟩
  ·exact .inl l
  ·exact .inr ⟨k,c,e,cellK x c e _ z⟩
 ·obtain ⟨v,z⟩:=I.cell x c e
  exact ⟨v,cellK x c e v z⟩
 ·obtain ⟨m,⟨o,_,_,ho,_⟩,_⟩:=I.loc
  exact free _ o (fun z=>(hch _ z).2.1 rfl) ho I.free
 ·obtain ⟨v,o,ho,hd⟩:=I.cell x c e
  exact free c o (fun z=>(hch c z).2.2.1 x c e rfl) ho (I.freeC x c e)
 ·obtain ⟨e,n,ne,nf,d⟩:=I.pin p hp
  have nch:p.1∉ch:=fun z=>(hch p.1 z).2.2.2 p hp rfl
  exact ⟨keep p.1 p.2 ne nf nch e n,free p.1 p.2 nch e n,ne,nf,d⟩
theorem Inv.un {t':Nat} (I:Inv X pins σ H s) (u:Un X.fs [] H H' s.heap h') (hok:HOk X.prog X.w H' h'):Inv X pins σ H' {s with heap:=h',toks:=t'}:=by
 obtain ⟨m,⟨o,es,ep,ho,r⟩,_⟩:=id I.loc
 obtain ⟨sl,hL⟩:=u.any ho I.free (by simp)
 exact I.step (g':=s.gens) (d':=s.drawn) (ch:=[]) (fun _ z=>nomatch z) (fun b o _ hb _ e n=>u.keep b o e n hb (by simp)) (fun b o _ hb _ e n=>u.slot b o e n hb (by simp)) (fun b o _ e n=>u.free b o e n (by simp)) (fun b o _ e=>u.there b o e (by simp)) u.tups u.frzs u.tbls (fun m' hm=>by
  obtain ⟨o',es',ep',ho',r'⟩:=hm
  rw[ho]at ho';cases ho'
  exact ⟨_,es',ep',hL,r'⟩) hok I.bare
theorem Inv.call {g' : Array GenState} {t' : Nat} {d' : Drawn} {ch : List Addr} (I : Inv X pins σ H s) (u : Un (frs X.stack) ch H H' s.heap h') (hok : HOk X.prog X.w H' h') (hg : AllBare g')
  (hch:∀b∈ch,(b∈X.ex∨X.s₀.heap.objs.size≤b)∧b≠X.env.locals∧(∀x c,X.env.cells.lookup x=some c→c≠b)∧∀p∈X.pn ++ pins,p.1≠b) :
  Inv X pins σ H' {s with heap:=h',gens:=g',drawn:=d',toks:=t'}:=by
 obtain ⟨m,⟨o,es,ep,ho,r⟩,_⟩:=id I.loc
 obtain ⟨sl,hL⟩:=u.any ho I.free fun z=>(hch _ z).2.1 rfl
 exact I.step (ch:=ch) hch (fun b o hL hb hc e n=>u.keep b o e n (fun z=>(List.mem_cons.mp (I.stkSub b z)).elim hL hb) hc) (fun b o _ _ hc e n=>u.any e n hc) (fun b o hc e n=>u.free b o e n hc) (fun b o hc e=>u.there b o e hc) u.tups u.frzs u.tbls (fun m' hm=>by
  obtain ⟨o',es',ep',ho',r'⟩:=hm
  rw[ho]at ho';cases ho'
  exact ⟨_,es',ep',hL,r'⟩) hok hg
theorem Inv.turned {t' : Nat} {it : Addr} (I : Inv X pins σ H s) (k : ∀ b o, b ≠ it → s.heap.get? b = some o → h'.get? b = some o) (hn : H it = none) (hL : it ≠ X.env.locals)
  (h1:it∈X.ex∨X.s₀.heap.objs.size≤it) (h2:∀x c,X.env.cells.lookup x=some c→c≠it) (h3:∀p∈X.pn ++ pins,p.1≠it):Inv X pins σ H {s with heap:=h',toks:=t'}:=by
 have nit:∀b u,H b=some u→b≠it:=fun b u e z=>by rw[z,hn]at e;cases e
 refine I.step (g':=s.gens) (d':=s.drawn) (ch:=[it]) (fun b hb=>?_) (fun b o _ _ hc e _=>k b o (fun z=>hc (by simp[z])) e) (fun b o _ _ hc e _=>⟨o.slots,k b o (fun z=>hc (by simp[z])) e⟩) (fun _ _ _ _ n=>n)
  (fun b o hc e=>⟨o,k b o (fun z=>hc (by simp[z])) e⟩) (fun _ _ e=>e) (fun _ _ _ e=>e) (fun b ps e=>⟨#[],by rw[e];simp⟩) (fun m hm=>?_) (fun b u e=>?_) I.bare
 ·have e:b=it:=by simpa using hb
  subst e
  exact ⟨h1,hL,h2,h3⟩
 ·obtain ⟨o,es,ep,ho,r⟩:=hm
  exact ⟨o,es,ep,k _ o (Ne.symm hL) ho,r⟩
 ·refine (I.hok b u e).stay (fun c v hc q=>k c v ?_ q) (fun _ q=>q) fun _ _ q=>q
  rcases hc with z | z
  ·rw[z];exact nit b u e
  ·exact nit c _ z
theorem Inv.tok (I:Inv X pins σ H s) (t:Nat):Inv X pins σ H {s with toks:=t}:=I.un (h':=s.heap) (t':=t) Un.refl I.hok
theorem Inv.kept {t':Nat} (I:Inv X pins σ H s) (k:∀b u,s.heap.get? b=some u→h'.get? b=some u):Inv X pins σ H {s with heap:=h',toks:=t'}:=I.un (Un.kept k) (I.hok.kept k)
theorem Inv.laid {a : Addr} {o : HO} {t' : Nat} (I : Inv X pins σ H s) (k : ∀ b u, s.heap.get? b = some u → h'.get? b = some u) (hp : s.heap.objs.size ≤ a) (new : ObjOk X.prog X.w (upd H a o) h' a o) :
  Inv X pins σ (upd H a o) {s with heap:=h',toks:=t'}:=I.un (Un.laid k hp (I.hok.fresh hp)) (I.hok.laid k hp new)
theorem Inv.write {x e : Addr} {o : HO} {t' : Nat} (I : Inv X pins σ H s) (mu : Mut (H x)) (he : e = x ∨ H e = some (.own x)) (k : ∀ b u, b ≠ e → s.heap.get? b = some u → h'.get? b = some u) (heo : ∃ u, h'.get? e = some u)
  (new:ObjOk X.prog X.w (upd H x o) h' x o):Inv X pins σ (upd H x o) {s with heap:=h',toks:=t'}:=I.un (Un.write mu he k heo) (I.hok.write mu he k heo new)
theorem Inv.pins_of {pins':List (Addr×Obj)} (I:Inv X pins σ H s) (h:∀p∈pins',s.heap.get? p.1=some p.2∧H p.1=none∧p.1≠X.env.locals∧p.1∉X.fs∧∀v,p.2.data≠.cell v):Inv X pins' σ H s:=
 ⟨I.ok,I.os,I.bare,I.base,I.loc,I.cell,I.free,I.freeC,fun p hp=>(List.mem_append.mp hp).elim (fun z=>I.pin p (List.mem_append_left _ z)) (h p),I.hok,I.len⟩
theorem nodup_ix {N:List Str} (hN:N.Nodup) {i j:Nat} {x:Str} (a:N[i]?=some x) (b:N[j]?=some x):i=j:=by
 obtain ⟨h1,e1⟩:=List.getElem?_eq_some_iff.mp a
 obtain ⟨h2,e2⟩:=List.getElem?_eq_some_iff.mp b
 exact (List.getElem_inj hN).mp (e1.trans e2.symm)
theorem store_ok2 {M : Model} {A : Around} {E : Value → Shared → Prop} {i : Nat} {x : Str} {v : V} {u : Value} {Q : Unit → Shared → Prop} (I : Inv X pins σ H s) (hN : X.N.Nodup) (hi : X.N[i]? = some x) (hx : Loc X.env.scope x) (r : RelV v u)
  (h:∀s',Inv X pins (σ.set i (some v)) H s'→(∃a,Heap.SameBut a s.heap s'.heap∧(a=X.env.locals∨X.env.cells.lookup x=some a))→Q () s') (hf:X.fn x=true∨X.env.scope.names.lookup x=some .local:=by first | exact .inl rfl | exact .inr rfl | assumption):wpAny M A (storeName X.env x u) Q E s:=by
 obtain ⟨m,hn,hl⟩:=id I.loc
 have hcls:(X.env.scope.kind == .class || (X.env.scope.kind == .module && X.env.locals != X.env.globals))=false:=by rw[I.ok.kind];rfl
 have hiσ:i < σ.length:=by rw[I.len];exact (List.getElem?_eq_some_iff.mp hi).1
 have cne:=I.cne
 have tracked:∀{a:Addr} {h':Heap},(∃o,s.heap.get? a=some o∧H a=none)→Heap.SameBut a s.heap h'→HOk X.prog X.w H h':=fun {a h'} ha hs b ob e=>by
  obtain ⟨_,_,hfree⟩:=ha
  refine (I.hok b ob e).stay (fun c w' hc q=>(hs.2 c ?_).trans q) (fun _ q=>q) fun _ _ q=>q
  rintro rfl
  rcases hc with rfl | hc
  ·rw[hfree]at e;cases e
  ·rw[hfree]at hc;cases hc
 rcases hx with hk | hk
 ·refine wpAny_storeName_local hk hn (fun h' hn' hs=>?_) hcls
  obtain ⟨oL,_,_,hoL,_⟩:=id hn
  refine h _ ⟨I.ok,I.os,I.bare,⟨fun b o e n hb hx=>?_,fun b o e n hb hx=>?_,I.base.free,fun b o e hx=>?_,I.base.tups,I.base.frzs,I.base.tbls⟩,⟨_,hn',fun j y v' e1 e2 e3=>?_⟩,fun y c e=>?_,I.free,I.freeC,fun p hp=>?_,tracked ⟨oL,hoL,I.free⟩ hs,by simpa using I.len⟩ ⟨_,hs,.inl rfl⟩
  ·exact (hs.2 b (Nat.ne_of_lt (Nat.lt_of_lt_of_le (Heap.lt_size e) I.ok.above))).trans (I.base.keep b o e n hb hx)
  ·obtain ⟨sl,e1⟩:=I.base.slot b o e n hb hx
   exact ⟨sl,(hs.2 b (Nat.ne_of_lt (Nat.lt_of_lt_of_le (Heap.lt_size e) I.ok.above))).trans e1⟩
  ·obtain ⟨o',e1⟩:=I.base.there b o e hx
   exact ⟨o',(hs.2 b (Nat.ne_of_lt (Nat.lt_of_lt_of_le (Heap.lt_size e) I.ok.above))).trans e1⟩
  ·by_cases hj:j=i
   ·subst hj
    rw[hi]at e1;cases e1
    rw[List.getElem?_set_self hiσ]at e2
    cases e2
    exact ⟨u,r,.inl ⟨hk,by simp⟩⟩
   ·rw[List.getElem?_set_ne (Ne.symm hj)]at e2
    obtain ⟨u',r',q⟩:=hl j y v' e1 e2 e3
    refine ⟨u',r',?_⟩
    rcases q with ⟨k,e⟩ | ⟨k,c,e,z⟩
    ·refine .inl ⟨k,?_⟩
     have:y≠x:=fun e=>hj (nodup_ix hN e1 (e ▸ hi))
     simp[this,e]
    ·exact .inr ⟨k,c,e,z.sameBut hs (cne y c e)⟩
  ·obtain ⟨w',z⟩:=I.cell y c e
   exact ⟨w',z.sameBut hs (cne y c e)⟩
  ·obtain ⟨e,n,ne,nf,d⟩:=I.pin p hp
   exact ⟨(hs.2 p.1 ne).trans e,n,ne,nf,d⟩
 ·have hfn : X.fn x = true := by
   rcases hf with z | z
   ·exact z
   ·rw[z]at hk;cases hk
  obtain ⟨c,hc⟩:=I.ok.has x (.inl hk)
  obtain ⟨w',z⟩:=I.cell x c hc
  refine wpAny_storeName_cell I.ok.kind hk hc z (fun h' hc' hs=>?_)
  obtain ⟨oc,hoc,hocd⟩:=id z
  refine h {s with heap:=h'} ⟨I.ok,I.os,I.bare,⟨fun b o e n hb hx=>?_,fun b o e n hb hx=>?_,I.base.free,fun b o e hx=>?_,I.base.tups,I.base.frzs,I.base.tbls⟩,⟨m,hn.sameBut hs (Ne.symm (cne x c hc)),fun j y v' e1 e2 e3=>?_⟩,fun y c' e=>?_,I.free,I.freeC,fun p hp=>?_,tracked ⟨oc,hoc,I.freeC x c hc⟩ hs,by simpa using I.len⟩ ⟨c,hs,.inr hc⟩
  ·exact (hs.2 b (Nat.ne_of_lt (Nat.lt_of_lt_of_le (Heap.lt_size e) (I.ok.cab x c hfn hc)))).trans (I.base.keep b o e n hb hx)
  ·obtain ⟨sl,e1⟩:=I.base.slot b o e n hb hx
   exact ⟨sl,(hs.2 b (Nat.ne_of_lt (Nat.lt_of_lt_of_le (Heap.lt_size e) (I.ok.cab x c hfn hc)))).trans e1⟩
  ·obtain ⟨o',e1⟩:=I.base.there b o e hx
   exact ⟨o',(hs.2 b (Nat.ne_of_lt (Nat.lt_of_lt_of_le (Heap.lt_size e) (I.ok.cab x c hfn hc)))).trans e1⟩
  ·by_cases hj:j=i
   ·subst hj
    rw[hi]at e1;cases e1
    rw[List.getElem?_set_self hiσ]at e2
    cases e2
    exact ⟨u,r,.inr ⟨.inl hk,c,hc,hc'⟩⟩
   ·rw[List.getElem?_set_ne (Ne.symm hj)]at e2
    obtain ⟨u',r',q⟩:=hl j y v' e1 e2 e3
    refine ⟨u',r',?_⟩
    rcases q with q | ⟨k,c',e,z'⟩
    ·exact .inl q
    ·refine .inr ⟨k,c',e,z'.sameBut hs ?_⟩
     rintro rfl
     exact hj (nodup_ix hN e1 (I.ok.inj _ _ _ e hc ▸ hi))
  ·by_cases hcc:c'=c
   ·subst hcc;exact ⟨_,hc'⟩
   ·obtain ⟨w2,z2⟩:=I.cell y c' e
    exact ⟨w2,z2.sameBut hs hcc⟩
  ·obtain ⟨e,n,ne,nf,d⟩:=I.pin p hp
   refine ⟨(hs.2 p.1 ?_).trans e,n,ne,nf,d⟩
   intro q
   rw[q,hoc]at e
   have q':oc=p.2:=Option.some.inj e
   exact d w' (by rw[←q'];exact hocd)
theorem store_ok {M : Model} {A : Around} {E : Value → Shared → Prop} {i : Nat} {x : Str} {v : V} {u : Value} {Q : Unit → Shared → Prop} (I : Inv X pins σ H s) (hN : X.N.Nodup) (hi : X.N[i]? = some x) (hx : Loc X.env.scope x) (r : RelV v u)
  (h:∀s',Inv X pins (σ.set i (some v)) H s'→Q () s') (hf:X.fn x=true∨X.env.scope.names.lookup x=some .local:=by first | exact .inl rfl | exact .inr rfl | assumption):wpAny M A (storeName X.env x u) Q E s:=
 store_ok2 I hN hi hx r (fun s' I' _=>h s' I') hf
theorem Inv.call' {s' : Shared} {ch : List Addr} (I : Inv X pins σ H s) (ho : s'.os = s.os) (u : Un (frs X.stack) ch H H' s.heap s'.heap) (hok : HOk X.prog X.w H' s'.heap) (hg : AllBare s'.gens)
  (hch:∀b∈ch,(b∈X.ex∨X.s₀.heap.objs.size≤b)∧b≠X.env.locals∧(∀x c,X.env.cells.lookup x=some c→c≠b)∧∀p∈X.pn ++ pins,p.1≠b):Inv X pins σ H' s':=by
 obtain ⟨h',g',d',t',o'⟩:=s'
 have e:o'=s.os:=ho
 subst e
 exact I.call (g':=g') (t':=t') (d':=d') u hok hg hch
end
noncomputable abbrev XK:=Value→Option Addr→Hp→Prop
noncomputable abbrev St:=List (Option V)
noncomputable abbrev VK:=V→Hp→Prop
noncomputable abbrev TE:=St→Hp→VK→Prop
noncomputable abbrev TT:=St→Hp→(Bool→Hp→Prop)→Prop
noncomputable abbrev TA:=St→Hp→(List V→Hp→Prop)→Prop
structure Ends where
 nx:St→Hp→Prop
 rt:VK
 bk:St→Hp→Prop:=fun _ _=>False
 ct:St→Hp→Prop:=fun _ _=>False
noncomputable abbrev TS:=Ends→St→Hp→Prop
noncomputable def EP (X:Cx) (pins:List (Addr×Obj)) (σ:St) (Q:VK) (u:Value) (s':Shared):Prop:=∃v H',Inv X pins σ H' s'∧RelV v u∧Q v H'
noncomputable def TP (X:Cx) (pins:List (Addr×Obj)) (σ:St) (Q:Bool→Hp→Prop) (b:Bool) (s':Shared):Prop:=∃H',Inv X pins σ H' s'∧Q b H'
noncomputable def AP (X:Cx) (pins:List (Addr×Obj)) (σ:St) (Q:List V→Hp→Prop) (us:List Value) (s':Shared):Prop:=∃vs H',Inv X pins σ H' s'∧Vals vs us∧Q vs H'
noncomputable def SP (X:Cx) (pins:List (Addr×Obj)) (D:Ends) (f:Flow) (s':Shared):Prop:=
 match f with
 | .next=>∃σ' H',Inv X pins σ' H' s'∧D.nx σ' H'
 | .brk=>∃σ' H',Inv X pins σ' H' s'∧D.bk σ' H'
 | .cont=>∃σ' H',Inv X pins σ' H' s'∧D.ct σ' H'
 | .ret u=>∃v σ' H',Inv X pins σ' H' s'∧RelV v u∧D.rt v H'
noncomputable def PE (X:Cx) (e:Expr) (t:TE):Prop:=
 ∀(pins:List (Addr×Obj)) (s:Shared) (σ:St) (H:Hp) (Q:VK),Inv X pins σ H s→t σ H Q→wpAny (model X.prog X.w) X.A (eval e X.env) (EP X pins σ Q) X.xe s
noncomputable def PT (X:Cx) (e:Expr) (t:TT):Prop:=
 ∀(pins:List (Addr×Obj)) (s:Shared) (σ:St) (H:Hp) (Q:Bool→Hp→Prop),Inv X pins σ H s→t σ H Q→wpAny (model X.prog X.w) X.A (isTrue e X.env (eval e X.env)) (TP X pins σ Q) X.xe s
noncomputable def PW (X:Cx) (e:Expr) (t:TT):Prop:=
 ∀(whole:Sem Value) (pins:List (Addr×Obj)) (s:Shared) (σ:St) (H:Hp) (Q:Bool→Hp→Prop),Inv X pins σ H s→t σ H Q→wpAny (model X.prog X.w) X.A (isTrue e X.env whole) (TP X pins σ Q) X.xe s
theorem PW.pt {X:Cx} {e:Expr} {t:TT} (h:PW X e t):PT X e t:=h _
noncomputable def PA (X:Cx) (es:List Expr) (t:TA):Prop:=
 ∀(pos:Pos) (pins:List (Addr×Obj)) (s:Shared) (σ:St) (H:Hp) (Q:List V→Hp→Prop),Inv X pins σ H s→t σ H Q→wpAny (model X.prog X.w) X.A (spliced (backTo pos (starEach es X.env))) (AP X pins σ Q) X.xe s
noncomputable def PS (X:Cx) (st:Stmt) (t:TS):Prop:=
 ∀(pins:List (Addr×Obj)) (s:Shared) (σ:St) (H:Hp) (D:Ends),Inv X pins σ H s→t D σ H→wpAny (model X.prog X.w) X.A (exec st X.env) (SP X pins D) X.xe s
noncomputable def PSs (X:Cx) (st:List Stmt) (t:TS):Prop:=
 ∀(pins:List (Addr×Obj)) (s:Shared) (σ:St) (H:Hp) (D:Ends),Inv X pins σ H s→t D σ H→wpAny (model X.prog X.w) X.A (execs st X.env) (SP X pins D) X.xe s
theorem thn {α:Type} {t:Sem α} {Q Q':α→Shared→Prop} {M:Model} {A:Around} {E:Value→Shared→Prop} {s:Shared} (h:wpAny M A t Q E s) (hQ:∀a s,Q a s→Q' a s):wpAny M A t Q' E s:=wpAny_mono h hQ fun _ _ x=>x
end
section
section
variable {X:Cx}
theorem bin {a b : Expr} {ta tb : TE} (ha : PE X a ta) (hb : PE X b tb) {pins : List (Addr × Obj)} {s : Shared} {σ : St} {H : Hp} {R : V → V → Hp → Prop} (I : Inv X pins σ H s) (h : ta σ H fun x H1 => tb σ H1 fun y H2 => R x y H2)
  {α:Type} {Q:α→Shared→Prop} {f:Value→Value→Sem α}
  (hf:∀v u s2 x y H2,Inv X pins σ H2 s2→RelV x v→RelV y u→R x y H2→wpAny (model X.prog X.w) X.A (f v u) Q X.xe s2) :
  wpAny (model X.prog X.w) X.A (eval a X.env) (fun v s₁=>wpAny (model X.prog X.w) X.A (eval b X.env) (fun u s₂=>wpAny (model X.prog X.w) X.A (f v u) Q X.xe s₂) X.xe s₁) X.xe s:=by
 refine thn (ha pins s σ H _ I h) fun v s1 ⟨x,H1,I1,r1,q1⟩=>?_
 refine thn (hb pins s1 σ H1 _ I1 q1) fun u s2 ⟨y,H2,I2,r2,q2⟩=>?_
 exact hf v u s2 x y H2 I2 r1 r2 q2
noncomputable def tVar (i:Nat):TE:=fun σ H Q=>∃v,σ[i]?=some (some v)∧Q v H
noncomputable def tC (v:V):TE:=fun _ H Q=>Q v H
theorem pe_var {i:Nat} {x:Str} {pos:Pos} (hN:X.N[i]?=some x) (hv:Vis X.env.scope x) (hd:(x == ("__debug__":Str))=false:=by decide) (hcd:(x == ("__classdict__":Str))=false:=by decide):PE X (.Name x pos) (tVar i):=by
 intro pins s σ H Q I h
 obtain ⟨v,e,h⟩:=h
 obtain ⟨m,hn,hl⟩:=I.loc
 obtain ⟨u,r,l⟩:=hl i x v hN e hv
 have fin:EP X pins σ Q u s:=⟨v,H,I,r,h⟩
 rcases l with ⟨hk,hm⟩ | ⟨hk,c,hc,hcell⟩
 ·exact wpAny_Name (wpAny_loadName_local I.ok.kind hk hn hm fin) hd
 ·rcases hk with hk | hk
  ·exact wpAny_Name (wpAny_loadName_cell I.ok.kind hk hc hcell fin) hd
  ·exact wpAny_Name (wpAny_loadName_free I.ok.kind hk hc hcell fin hcd) hd
theorem pe_int {i j pos}:PE X (.Constant (.int i) j pos) (tC (.int i)):=fun _ _ _ H _ I h=>wpAny_Constant_int ⟨.int i,H,I.tok _,⟨_,rfl⟩,h⟩
theorem pe_bl {b j pos}:PE X (.Constant (.bool b) j pos) (tC (.bl b)):=fun _ _ _ H _ I h=>Constant_bool ⟨.bl b,H,I,rfl,h⟩
theorem pe_non {j pos}:PE X (.Constant .none j pos) (tC .non):=fun _ _ _ H _ I h=>Constant_none ⟨.non,H,I,rfl,h⟩
theorem pe_str {x j pos}:PE X (.Constant (.str x) j pos) (tC (.str x)):=fun _ _ _ H _ I h=>Calls.Constant_str ⟨.str x,H,I.tok _,⟨_,rfl⟩,h⟩
noncomputable def Gl (X:Cx) (x:Str):Prop:=X.env.kindOf x=some .globalImplicit
theorem ld_glob {E : Value → Shared → Prop} {pins : List (Addr × Obj)} {s : Shared} {σ : St} {H : Hp} {x : Str} {u : Value} {pos : Pos} {Q : Value → Shared → Prop} (I : Inv X pins σ H s) (hg : Gl X x) (hm : X.mg x = some u) (h : Q u s)
  (hd:(x == ("__debug__":Str))=false:=by decide):wpAny (model X.prog X.w) X.A (eval (.Name x pos) X.env) Q E s:=
 Calls.Name_function_global I.ok.kind hg (Calls.loadGlobal_global (by rw[I.ok.glob];exact I.mod.glob.keeps I.bk) hm h) hd
theorem ld_blt {E : Value → Shared → Prop} {pins : List (Addr × Obj)} {s : Shared} {σ : St} {H : Hp} {x : Str} {u : Value} {pos : Pos} {Q : Value → Shared → Prop} (I : Inv X pins σ H s) (hg : Gl X x) (hm : X.mg x = none) (hv : bootBuiltins x = some u) (h : Q u s)
  (hn:x≠"__name__":=by decide) (hd:(x == ("__debug__":Str))=false:=by decide):wpAny (model X.prog X.w) X.A (eval (.Name x pos) X.env) Q E s:=by
 obtain ⟨mb,h1,h2⟩:=I.mod.blt
 exact Calls.Name_function_global I.ok.kind hg (Calls.loadGlobal_builtin (by rw[I.ok.glob];exact I.mod.glob.keeps I.bk) hm (by rw[I.ok.blt];exact h1.keeps I.bk) ((h2 x hn).trans hv) h) hd
theorem pe_glob {x:Str} {v:V} {u:Value} {pos:Pos} (hg:Gl X x) (hm:X.mg x=some u) (r:RelV v u) (hd:(x == ("__debug__":Str))=false:=by decide):PE X (.Name x pos) (tC v):=
 fun _ _ _ H _ I h=>ld_glob I hg hm ⟨v,H,I,r,h⟩ hd
theorem pe_bltn {x:Str} {v:V} {u:Value} {pos:Pos} (hg:Gl X x) (hm:X.mg x=none) (hv:bootBuiltins x=some u) (r:RelV v u) (hn:x≠"__name__":=by decide) (hd:(x == ("__debug__":Str))=false:=by decide):PE X (.Name x pos) (tC v):=
 fun _ _ _ H _ I h=>ld_blt I hg hm hv ⟨v,H,I,r,h⟩ hn hd
variable {a b:Expr} {ta tb:TE} {pos:Pos}
noncomputable def PC (X:Cx) (op:CmpOp) (a b:Expr) (t:TE):Prop:=
 ∀(pins:List (Addr×Obj)) (s:Shared) (σ:St) (H:Hp) (Q:VK),Inv X pins σ H s→t σ H Q→
  wpAny (model X.prog X.w) X.A (eval a X.env) (fun v s₁=>wpAny (model X.prog X.w) X.A (eval b X.env) (fun u s₂=>wpAny (model X.prog X.w) X.A (compareOp op v u) (EP X pins σ Q) X.xe s₂) X.xe s₁) X.xe s
noncomputable def tB (t:TE):TT:=fun σ H Q=>t σ H fun x H1=>∃c,x=.bl c∧Q c H1
theorem pt_cmp {op:CmpOp} {t:TE} (h:PC X op a b t) (h1:behindInMarks op b=false:=by first | exact nobehind _ (by decide) (by decide) | rfl):PT X (.Compare a [op] [b] pos) (tB t):=by
 intro pins s σ H Q I hw
 refine wpAny_isTrue_Compare1 (thn (h pins s σ H _ I hw) fun v s1 h1=>thn h1 fun u s2 h2=>thn h2 fun c s3 ⟨x,H1,I1,r1,q1⟩=>?_) h1
 obtain ⟨d,rfl,q⟩:=q1
 cases r1
 exact wpAny_truthy_bool ⟨H1,I1,q⟩
theorem pt_val {e:Expr} {t:TE} (h:PE X e t) (he:∀whole,isTrue e X.env whole=(do let v ←whole;standAt e.pos;holding [v] (truthy v)):=by intro _;rfl):PT X e (tB t):=by
 intro pins s σ H Q I hw
 refine isTrue_plain (thn (h pins s σ H _ I hw) fun v s1 ⟨x,H1,I1,r1,q1⟩=>?_) (he _)
 obtain ⟨d,rfl,q⟩:=q1
 cases r1
 exact wpAny_truthy_bool ⟨H1,I1,q⟩
variable {tA tB':TT} {rest:List Expr}
noncomputable def tAnd (t u:TT):TT:=fun σ H Q=>t σ H fun c H1=>if c=true then u σ H1 Q else Q false H1
theorem pw_and1 (ha:PT X a tA):PW X (.BoolOp .And [a] pos) tA:=by
 intro wh pins s σ H Q I h
 refine isTrue_and (thn (ha pins s σ H Q I h) fun c s1 e=>?_)
 cases c with
 | true=>exact isTrue_and_nil e
 | false=>exact e
theorem pw_and (ha:PT X a tA) (hb:PW X (.BoolOp .And (b::rest) pos) tB'):PW X (.BoolOp .And (a::b::rest) pos) (tAnd tA tB'):=by
 intro wh pins s σ H Q I h
 refine isTrue_and (thn (ha pins s σ H _ I h) fun c s1 ⟨H1,I1,q1⟩=>?_)
 cases c with
 | true=>exact hb wh pins s1 σ H1 Q I1 q1
 | false=>exact ⟨H1,I1,q1⟩
noncomputable def tIf (t:TT) (ta tb:TE):TE:=fun σ H Q=>t σ H fun c H1=>if c=true then ta σ H1 Q else tb σ H1 Q
theorem pe_ifExp {c:Expr} (hc:PT X c tA) (ha:PE X a ta) (hb:PE X b tb):PE X (.IfExp c a b pos) (tIf tA ta tb):=by
 intro pins s σ H Q I h
 refine wpAny_IfExp (thn (hc pins s σ H _ I h) fun d s1 ⟨H1,I1,q1⟩=>?_)
 cases d with
 | true=>exact ha pins s1 σ H1 Q I1 q1
 | false=>exact hb pins s1 σ H1 Q I1 q1
end
end
section
noncomputable def SqL (K:W.Frag) (H:Hp) (a:Addr) (xs:List V):Prop:=
 Rd H a (.lst xs)∨
  ∃(o:Obj) (its:Array Value) (n:Nat),K.lookup a=some o∧o.cls=.type "list"∧o.dict=none∧o.data=.seq its n∧its.size≤sizeLine∧Vals xs its.toList
noncomputable def SqT (K:W.Frag) (H:Hp) (a:Addr) (xs:List V):Prop:=
 Rd H a (.tup xs)∨
  ∃(o:Obj) (its:Array Value) (n:Nat),K.lookup a=some o∧o.cls=.type "tuple"∧o.data=.seq its n∧its.size≤sizeLine∧Vals xs its.toList
noncomputable def absV:Value→Option V
 | .none=>some .non
 | .bool b=>some (.bl b)
 | .int i _=>some (.int i)
 | .str x _=>some (.str x)
 | .bytes b _=>some (.byt b)
 | .float b _=>some (.flt b)
 | .ref a=>some (.ref a)
 | .type n=>some (.ty n)
 | _=>none
theorem RelV.abs {x:V} {u:Value} (r:RelV x u):absV u=some x:=by
 cases x with
 | non=>cases r;rfl
 | bl _=>cases r;rfl
 | int _=>obtain ⟨t,rfl⟩:=r;rfl
 | str _=>obtain ⟨t,rfl⟩:=r;rfl
 | byt _=>obtain ⟨t,rfl⟩:=r;rfl
 | flt _=>obtain ⟨t,rfl⟩:=r;rfl
 | ref _=>cases r;rfl
 | ty _=>cases r;rfl
theorem RelV.inj {x y:V} {u:Value} (r:RelV x u) (q:RelV y u):x=y:=Option.some.inj (r.abs.symm.trans q.abs)
theorem Vals.inj:∀{xs ys:List V} {us:List Value},Vals xs us→Vals ys us→xs=ys
 | _,_,_,.nil,.nil=>rfl
 | _,_,_,.cons r t,.cons r' t'=>by rw[r.inj r',Vals.inj t t']
section
variable {X:Cx} {pins:List (Addr×Obj)} {σ:St} {H:Hp} {s:Shared} {a:Addr} {xs ys:List V}
theorem SqL.of {K:W.Frag} (h:H a=some (.lst xs)):SqL K H a xs:=.inl (.inl h)
theorem SqT.of {K:W.Frag} (h:H a=some (.tup xs)):SqT K H a xs:=.inl (.inl h)
theorem Inv.list (I:Inv X pins σ H s) (h:SqL X.K H a xs):∃its:List Value,Vals xs its∧PlainL s.heap a its.toArray∧xs.length≤sizeLine:=by
 rcases h with h | ⟨o,its,n,hk,hc,hd,hs,hz,r⟩
 ·obtain ⟨z,its,n,r,e⟩:=h.ok I.hok
  exact ⟨its,r,⟨_,n,e,rfl,rfl,rfl⟩,z⟩
 ·refine ⟨its.toList,r,⟨o,n,I.kIn a o hk,hc,hd,by simpa using hs⟩,?_⟩
  have e:=r.length
  simp only[Array.length_toList]at e
  omega
theorem Inv.tuple (I:Inv X pins σ H s) (h:SqT X.K H a xs):∃its:List Value,Vals xs its∧IsTup s.heap a its.toArray∧xs.length≤sizeLine:=by
 rcases h with h | ⟨o,its,n,hk,hc,hs,hz,r⟩
 ·obtain ⟨z,its,r,p⟩:=h.ok I.hok
  exact ⟨its,r,p,z⟩
 ·refine ⟨its.toList,r,⟨o,I.kIn a o hk,hc,n,by simpa using hs⟩,?_⟩
  have e:=r.length
  simp only[Array.length_toList]at e
  omega
theorem Inv.tuple_inj (I:Inv X pins σ H s) (h:SqT X.K H a xs) (h':SqT X.K H a ys):xs=ys:=by
 obtain ⟨its,r,⟨o,e,_,n,d⟩,_⟩:=I.tuple h
 obtain ⟨its',r',⟨o',e',_,n',d'⟩,_⟩:=I.tuple h'
 rw[e]at e';cases e'
 rw[d]at d'
 injection d' with d1 _
 have:its=its':=by simpa using congrArg Array.toList d1
 subst this
 exact r.inj r'
end
noncomputable abbrev Cx.wish (X:Cx) (E:Value→Shared→Prop):Cx:={X with xe:=E}
noncomputable abbrev Cx.nox (X:Cx):Cx:=X.wish fun _ _=>False
theorem Cx.Ok.wish {X:Cx} (ok:X.Ok) (E:Value→Shared→Prop):(X.wish E).Ok:=
 ⟨ok.mod,ok.kind,ok.glob,ok.blt,ok.above,ok.inj,ok.has,ok.cab,ok.hd,ok.frames,ok.stk,ok.exf,ok.bs,ok.bsz,ok.noex,ok.exfs,ok.funs,ok.frf⟩
theorem Cx.Ok.unwish {X:Cx} {E:Value→Shared→Prop} (ok:(X.wish E).Ok):X.Ok:=
 ⟨ok.mod,ok.kind,ok.glob,ok.blt,ok.above,ok.inj,ok.has,ok.cab,ok.hd,ok.frames,ok.stk,ok.exf,ok.bs,ok.bsz,ok.noex,ok.exfs,ok.funs,ok.frf⟩
section
variable {X:Cx} {pins:List (Addr×Obj)} {σ:St} {H:Hp} {s:Shared} {E:Value→Shared→Prop}
theorem Inv.wish (I:Inv X pins σ H s) (E:Value→Shared→Prop):Inv (X.wish E) pins σ H s:=⟨I.ok.wish E,I.os,I.bare,I.base,I.loc,I.cell,I.free,I.freeC,I.pin,I.hok,I.len⟩
theorem Inv.unwish (I:Inv (X.wish E) pins σ H s):Inv X pins σ H s:=⟨I.ok.unwish,I.os,I.bare,I.base,I.loc,I.cell,I.free,I.freeC,I.pin,I.hok,I.len⟩
theorem SP.unwish {D:Ends} {f:Flow} {s':Shared} (h:SP (X.wish E) pins D f s'):SP X pins D f s':=by
 cases f with
 | next=>obtain ⟨σ',H',I,q⟩:=h;exact ⟨σ',H',I.unwish,q⟩
 | brk=>obtain ⟨σ',H',I,q⟩:=h;exact ⟨σ',H',I.unwish,q⟩
 | cont=>obtain ⟨σ',H',I,q⟩:=h;exact ⟨σ',H',I.unwish,q⟩
 | ret u=>obtain ⟨v,σ',H',I,r,q⟩:=h;exact ⟨v,σ',H',I.unwish,r,q⟩
theorem PSs.nox {st:List Stmt} {t:TS} (h:PSs X.nox st t):PSs X st t:=fun pins s σ H D I hw=>
 wpAny_mono (h pins s σ H D (I.wish _) hw) (fun _ _ q=>q.unwish) fun _ _ z=>False.elim z
end
section
variable {X:Cx} {st:Stmt} {rest:List Stmt} {t u:TS} {e:Expr} {te:TE} {pos:Pos}
noncomputable def tNext:TS:=fun D σ H=>D.nx σ H
noncomputable def tSeq (t u:TS):TS:=fun D σ H=>t {D with nx:=u D} σ H
theorem pss_nil:PSs X [] tNext:=fun _ _ σ H _ I h=>wpAny_execs_nil ⟨σ,H,I,h⟩
theorem pss_cons (h1:PS X st t) (h2:PSs X rest u):PSs X (st::rest) (tSeq t u):=by
 intro pins s σ H D I h
 refine wpAny_execs_cons (thn (h1 pins s σ H {D with nx:=u D} I h) fun f s1 q=>?_)
 cases f with
 | next=>
  obtain ⟨σ',H',I',q⟩:=q
  exact h2 pins s1 σ' H' D I' q
 | ret v=>exact q
 | brk=>exact q
 | cont=>exact q
theorem pss_one (h1:PS X st t):PSs X [st] t:=by
 intro pins s σ H D I h
 refine wpAny_execs_cons (thn (h1 pins s σ H D I h) fun f s1 q=>?_)
 cases f with
 | next=>exact wpAny_execs_nil q
 | ret v=>exact q
 | brk=>exact q
 | cont=>exact q
theorem Inv.quiet {pins:List (Addr×Obj)} {σ:St} {H:Hp} {s:Shared} (I:Inv X pins σ H s):interactive X.env=false:=by simp[interactive,I.ok.kind]
noncomputable def tDrop (te:TE):TS:=fun D σ H=>te σ H fun _ H1=>D.nx σ H1
theorem ps_expr (he:PE X e te) (hs:swapsWith e none pos.line X.env=pure false:=by rfl):PS X (.Expr e pos) (tDrop te):=by
 intro pins s σ H D I h
 exact wpAny_Expr_any (thn (he pins s σ H _ I h) fun v s1 ⟨x,H1,I1,r1,q1⟩=>⟨σ,H1,I1,q1⟩) I.quiet hs
noncomputable def tRet (te:TE):TS:=fun D σ H=>te σ H D.rt
theorem ps_ret (he:PE X e te):PS X (.Return (some e) pos) (tRet te):=by
 intro pins s σ H D I h
 exact wpAny_Return_some (thn (he pins s σ H _ I h) fun v s1 ⟨x,H1,I1,r1,q1⟩=>⟨x,σ,H1,I1,r1,q1⟩)
noncomputable def tIfS (c:TT) (t u:TS):TS:=fun D σ H=>c σ H fun b H1=>if b=true then t D σ H1 else u D σ H1
theorem ps_if {c:Expr} {a b:List Stmt} {tc:TT} (hc:PT X c tc) (ha:PSs X a t) (hb:PSs X b u):PS X (.If c a b pos) (tIfS tc t u):=by
 intro pins s σ H D I h
 refine wpAny_If (thn (hc pins s σ H _ I h) fun d s1 ⟨H1,I1,q1⟩=>?_)
 cases d with
 | true=>exact ha pins s1 σ H1 D I1 q1
 | false=>exact hb pins s1 σ H1 D I1 q1
end
noncomputable abbrev TG:=V→St→Hp→(St→Hp→Prop)→Prop
noncomputable def PG (X:Cx) (target:Expr) (t:TG):Prop:=
 ∀(pins:List (Addr×Obj)) (s:Shared) (σ:St) (H:Hp) (v:V) (u:Value) (Q:St→Hp→Prop),Inv X pins σ H s→RelV v u→t v σ H Q→
  wpAny (model X.prog X.w) X.A (assign target X.env u) (fun _ s'=>∃σ' H',Inv X pins σ' H' s'∧Q σ' H') X.xe s
noncomputable abbrev TSet:=V→V→V→Hp→(Hp→Prop)→Prop
noncomputable def PSet (X:Cx) (t:TSet):Prop:=
 ∀(pins:List (Addr×Obj)) (s:Shared) (σ:St) (H:Hp) (o i v:V) (ov iv u:Value) (Q:Hp→Prop),Inv X pins σ H s→RelV o ov→RelV i iv→RelV v u→t o i v H Q→
  wpAny (model X.prog X.w) X.A (setItem ov iv u) (fun _ s'=>∃H',Inv X pins σ H' s'∧Q H') X.xe s
section
variable {X:Cx} {pos:Pos}
noncomputable def gName (i:Nat):TG:=fun v σ H Q=>Q (σ.set i (some v)) H
theorem pg_name {i:Nat} {x:Str} (hN:X.N.Nodup) (hi:X.N[i]?=some x) (hx:Loc X.env.scope x) (hf:X.fn x=true∨X.env.scope.names.lookup x=some .local:=by first | exact .inl rfl | exact .inr rfl | assumption):PG X (.Name x pos) (gName i):=by
 intro pins s σ H v u Q I r h
 exact wpAny_assign_Name (store_ok I hN hi hx r (fun s' I'=>⟨_,H,I',h⟩) hf)
noncomputable def gSub (to ti:TE) (t:TSet):TG:=fun v σ H Q=>to σ H fun o H1=>ti σ H1 fun i H2=>t o i v H2 fun H3=>Q σ H3
theorem pg_sub {o i : Expr} {to ti : TE} {t : TSet} (ho : PE X o to) (hi : PE X i ti) (hs : PSet X t)
  (ha:∀v,assign (.Subscript o i pos) X.env v=(do
   let ov ←holding [v] (eval o X.env)
   let iv ←holding [v,ov] (eval i X.env)
   standAt pos
   holding [v,ov,iv] (setItem ov iv v)
   release [v,ov,iv] []):=by intro _;rfl):PG X (.Subscript o i pos) (gSub to ti t):=by
 intro pins s σ H v u Q I r h
 rw[ha]
 refine wpAny_bind (wpAny_holding (thn (ho pins s σ H _ I h) fun ov s1 ⟨x,H1,I1,r1,q1⟩=>?_))
 refine wpAny_bind (wpAny_holding (thn (hi pins s1 σ H1 _ I1 q1) fun iv s2 ⟨y,H2,I2,r2,q2⟩=>?_))
 refine wpAny_bind (wpAny_standAt (wpAny_bind (wpAny_holding (thn (hs pins s2 σ H2 x y v ov iv u _ I2 r1 r2 r q2) fun _ s3 ⟨H3,I3,q3⟩=>?_))))
 exact wpAny_release ⟨σ,H3,I3,q3⟩
noncomputable def tAsg (te:TE) (g:TG):TS:=fun D σ H=>te σ H fun x H1=>g x σ H1 D.nx
theorem ps_asg {tg e : Expr} {te : TE} {g : TG} (he : PE X e te) (hg : PG X tg g) (hs : swapsWithSole [tg] e pos.line X.env = pure false := by rfl) (hw : swappedStores [tg] e X.env = pure none := by rfl)
  (h1:(assignEach [tg] X.env).map (·.2)=[assign tg X.env]:=by rfl):PS X (.Assign [tg] e pos) (tAsg te g):=by
 intro pins s σ H D I h
 refine wpAny_Assign_stores (thn (he pins s σ H _ I h) fun v s1 ⟨x,H1,I1,r1,q1⟩=>?_) hs hw
 rw[h1]
 exact thn (hg pins s1 σ H1 x v _ I1 r1 q1) fun _ s2 q=>q
theorem ps_set {i : Nat} {x : Str} {e : Expr} {te : TE} {pos' : Pos} (hN : X.N.Nodup) (hi : X.N[i]? = some x) (hx : Loc X.env.scope x) (he : PE X e te) (hs : swapsWith e (some (.Name x pos')) pos.line X.env = pure false := by rfl) (hf : X.fn x = true ∨ X.env.scope.names.lookup x = some .local := by first | exact .inl rfl | exact .inr rfl | assumption) :
  PS X (.Assign [.Name x pos'] e pos) (tAsg te (gName i)):=by
 intro pins s σ H D I h
 refine wpAny_Assign_Name (thn (he pins s σ H _ I h) fun v s1 ⟨y,H1,I1,r1,q1⟩=>?_) hs
 exact store_ok I1 hN hi hx r1 (fun s2 I2=>⟨_,H1,I2,q1⟩) hf
noncomputable def tPar (i j:Nat) (ta:TA):TS:=fun D σ H=>ta σ H fun vs H1=>∃v w,vs=[v,w]∧D.nx ((σ.set i (some v)).set j (some w)) H1
theorem ps_par {i j : Nat} {x y : Str} {a b : Expr} {ta : TA} {px py pt : Pos} {kt k2 pt2} (hc : X.calm = true) (hN : X.N.Nodup) (hi : X.N[i]? = some x) (hj : X.N[j]? = some y) (hij : i ≠ j)
  (hx:X.env.scope.names.lookup x=some .local) (hy:X.env.scope.names.lookup y=some .local) (ha:PA X [a,b] ta)
  (hw:swappedStores [.Tuple [.Name x px,.Name y py] kt pt] (.Tuple [a,b] k2 pt2) X.env=pure (some [x,y]))
  (hs:swapsWithSole [.Tuple [.Name x px,.Name y py] kt pt] (.Tuple [a,b] k2 pt2) pos.line X.env=pure false:=by rfl) :
  PS X (.Assign [.Tuple [.Name x px,.Name y py] kt pt] (.Tuple [a,b] k2 pt2) pos) (tPar i j ta):=by
 intro pins s σ H D I h
 rw[exec_Assign_arm]
 refine wpAny_bind (wpAny_standAt ?_)
 rw[hs]
 refine wpAny_bind (wpAny_pure ?_)
 rw[if_neg (by decide)]
 refine wpAny_bind (Tuple_ (thn (ha _ pins s σ H _ I h) fun us s1 ⟨vs,H1,I1,r1,q1⟩=>?_))
 obtain ⟨v,w,e1,q1⟩:=q1
 subst e1
 obtain ⟨u1,u2,rfl,rv,rw'⟩:∃u1 u2,us=[u1,u2]∧RelV v u1∧RelV w u2:=by
  cases r1 with
  | cons p q=>
   cases q with
   | cons p' q'=>
    cases q'
    exact ⟨_,_,rfl,p,p'⟩
 refine wpAny_newObj_type ?_ (by show 2≤sizeLine;decide)
 have I2:Inv X pins σ H1 {s1 with heap:=s1.heap.push {cls:=.type "tuple",data:=.seq [u1,u2].toArray}}:=I1.kept (t':=s1.toks) fun b o e=>Heap.get?_push_of_some _ e
 rw[hw]
 refine wpAny_bind (wpAny_pure ?_)
 show wpAny (model X.prog X.w) X.A (do rule "assign.swapped-stores";let items ←unpackItems (.ref s1.heap.objs.size) 2 none;assignInOrder [fun v=>bindName X.env y v,fun v=>bindName X.env x v] items.reverse;pure Flow.next) _ _ _
 refine wpAny_bind (wpAny_rule (wpAny_bind (unpackItems_tuple (items:=#[u1,u2]) (I.ok.hd hc) (IsTup.new s1.heap _) fun h' hx'=>?_)))
 have I3:=I2.kept (h':=h') (t':=s1.toks) fun b o e=>hx' b o (Nat.ne_of_lt (Heap.lt_size e)) e
 show wpAny _ _ (assignInOrder [fun v=>bindName X.env y v,fun v=>bindName X.env x v] [u2,u1] >>= fun _=>pure Flow.next) _ _ _
 refine wpAny_bind (assignInOrder_cons (wpAny_bindName (store_ok I3 hN hj (.inl hy) rw' (fun s2 I4=>?_) (.inr hy))))
 refine assignInOrder_cons (wpAny_bindName (store_ok I4 hN hi (.inl hx) rv (fun s3 I5=>assignInOrder_nil (wpAny_pure ?_)) (.inr hx)))
 rw[List.set_comm _ _ (Ne.symm hij)]at I5
 exact ⟨_,H1,I5,q1⟩
end
section
variable {X:Cx} {pos:Pos}
end
structure It where
 go:Nat→Hp→Prop
 yld:Nat→Hp→V→Hp→Prop
 stop:Nat→Hp→Prop
noncomputable def FpOk (X:Cx) (pins:List (Addr×Obj)) (H:Hp) (b:Addr):Prop:=
 H b=none∧b≠X.env.locals∧b∉X.fs∧(b∈X.ex∨X.s₀.heap.objs.size≤b)∧(∀x c,X.env.cells.lookup x=some c→c≠b)∧∀p∈X.pn ++ pins,p.1≠b
theorem Inv.fpOk {X:Cx} {pins:List (Addr×Obj)} {σ:St} {H H':Hp} {s:Shared} {b:Addr} (I:Inv X pins σ H s) (hb:s.heap.objs.size≤b) (hn:H' b=none):FpOk X pins H' b:=by
 refine ⟨hn,Nat.ne_of_gt (Nat.lt_of_lt_of_le I.lt hb),I.nofs hb,.inr (Nat.le_trans I.sz hb),fun x c e z=>?_,fun p hp z=>?_⟩
 ·obtain ⟨v,q⟩:=I.cell x c e
  exact absurd (Nat.lt_of_lt_of_le q.lt (by rw[z];exact hb)) (Nat.lt_irrefl _)
 ·exact absurd (Nat.lt_of_lt_of_le (Heap.lt_size (I.pin p hp).1) (by rw[z];exact hb)) (Nat.lt_irrefl _)
structure Turn (P:Program) (w:World) (K:W.Frag) (tg:Expr) (J:It) (fp:List Addr) (it:Addr) (tn:Nat→Heap→Prop):Prop where
 mem:it∈fp
 obj:∀i h,tn i h→∀b∈fp,∃o,h.get? b=some o∧∀v,o.data≠.cell v
 keep:∀i h h',tn i h→(∀b∈fp,∀o,h.get? b=some o→h'.get? b=some o)→tn i h'
 item:∀(X:Cx),X.prog=P→X.w=w→X.K=K→X.calm=true→∀(i:Nat) (pins:List (Addr×Obj)) (s:Shared) (σ:St) (H:Hp) (E:Value→Shared→Prop),Inv X pins σ H s→(∀b∈fp,FpOk X pins H b)→tn i s.heap→J.go i H→
  wpAny (model P w) X.A (pyNext (.ref it)) (fun r s1=>∃u,r=some u∧
   wpAny (model P w) X.A (letOwnedTupleGo tg (.ref it) u) (fun _ s2=>∃x H',Inv X pins σ H' s2∧RelV x u∧J.yld i H x H'∧tn (i + 1) s2.heap∧∀b∈fp,H' b=none) E s1) E s
 done:∀(X:Cx),X.prog=P→X.w=w→X.K=K→X.calm=true→∀(i:Nat) (pins:List (Addr×Obj)) (s:Shared) (σ:St) (H:Hp) (E:Value→Shared→Prop),Inv X pins σ H s→(∀b∈fp,FpOk X pins H b)→tn i s.heap→J.stop i H→
  wpAny (model P w) X.A (pyNext (.ref it)) (fun r s1=>r=none∧Inv X pins σ H s1) E s
 self:∀(A:Around) (i:Nat) (s:Shared) (Q:Value→Shared→Prop) (E:Value→Shared→Prop),tn i s.heap→Q (.ref it) s→wpAny (model P w) A (pyIter (.ref it)) Q E s
noncomputable abbrev TI:=St→Hp→(It→Hp→Prop)→Prop
noncomputable def PIE (X:Cx) (pins:List (Addr×Obj)) (σ:St) (tg:Expr) (R:It→Hp→Prop) (itv:Value) (s2:Shared):Prop:=
 ∃(it:Addr) (fp:List Addr) (tn:Nat→Heap→Prop) (J:It) (H':Hp),itv=.ref it∧Inv X pins σ H' s2∧Turn X.prog X.w X.K tg J fp it tn∧tn 0 s2.heap∧(∀b∈fp,FpOk X pins H' b)∧R J H'
noncomputable def PI (X:Cx) (tg iter:Expr) (wi:TI):Prop:=
 ∀(pins:List (Addr×Obj)) (s:Shared) (σ:St) (H:Hp) (R:It→Hp→Prop),Inv X pins σ H s→wi σ H R→
  wpAny (model X.prog X.w) X.A (eval iter X.env) (fun v s1=>wpAny (model X.prog X.w) X.A (pyIter v) (PIE X pins σ tg R) X.xe s1) X.xe s
theorem go_of {M : Model} {A : Around} {E : Value → Shared → Prop} {s : Shared} {tg : Expr} {it : Addr} {u : Value} {o : Obj} {n : String} {vs : Array Value} {Q : Unit → Shared → Prop} (ho : s.heap.get? it = some o) (hc : o.cls = .type n) (hd : o.data = .fields vs)
    (hn:["enumerate","zip","dict_itemiterator","dict_reverseitemiterator","odict_iterator","itertools.zip_longest","itertools.pairwise"].contains n=false) (hQ:Q () s):wpAny M A (letOwnedTupleGo tg (.ref it) u) Q E s:=by
  unfold letOwnedTupleGo
  cases tg <;> first
    | exact wpAny_pure hQ
    | (cases u <;> first
        | exact wpAny_pure hQ
        | (refine wpAny_bind (wpAny_load ho ?_)
           rw[hc,hd]
           show wpAny M A (if (["enumerate","zip","dict_itemiterator","dict_reverseitemiterator","odict_iterator","itertools.zip_longest","itertools.pairwise"].contains n && vs[0]? == some (rawInt _))=true then _ else _) Q E s
           rw[if_neg (by intro h;rw[hn,Bool.false_and]at h;cases h)]
           exact wpAny_pure hQ))
noncomputable def Itt (K:W.Frag) (a:Addr):It:=
 ⟨fun i H=>∃xs x,SqT K H a xs∧xs[i]?=some x,fun i H x H'=>H'=H∧∀xs,SqT K H a xs→xs[i]?=some x,fun i H=>∃xs,SqT K H a xs∧xs.length≤i⟩
noncomputable def Itr (lo:Int) (n:Nat):It:=⟨fun i _=>i < n,fun i H x H'=>H'=H∧x=.int (lo + i),fun i _=>n≤i⟩
theorem turn_tuple {P:Program} {w:World} {K:W.Frag} {tg:Expr} (a it:Addr):Turn P w K tg (Itt K a) [it] it (fun i h=>h.IsTupleIter it a i) where
 mem:=by simp
 obj:=fun i h st b hb=>by
  have e:b=it:=by simpa using hb
  subst e
  obtain ⟨o,e,c,d⟩:=st
  exact ⟨o,e,fun v z=>by rw[d]at z;cases z⟩
 keep:=fun i h h' st k=>st.at fun o e=>k it (by simp) o e
 item:=by
  intro X hP hw hK hc i pins s σ H E I hf st hg
  subst hP hw hK
  obtain ⟨xs,x,hq,hx⟩:=hg
  obtain ⟨its,rv,p,hz⟩:=I.tuple hq
  obtain ⟨u,hu,ru⟩:=rv.get hx
  obtain ⟨f0,f1,f2,f3,f4,f5⟩:=hf it (by simp)
  refine wpAny_pyNext_tuple_item st (show s.heap.IsTuple a its.toArray from p) (x:=u) (by simpa using hu) fun h' st' sb=>?_
  have I1:Inv X pins σ H {s with heap:=h'}:=I.turned (t':=s.toks) (fun b o hb e=>(sb.2 b hb).trans e) f0 f1 f3 f4 f5
  obtain ⟨o,e,c,d⟩:=id st'
  exact ⟨u,rfl,go_of (s:={s with heap:=h'}) e c d (by decide) ⟨x,H,I1,ru,⟨rfl,fun ys hy=>by rw[I.tuple_inj hy hq];exact hx⟩,st',fun b hb=>(hf b hb).1⟩⟩
 done:=by
  intro X hP hw hK hc i pins s σ H E I hf st hg
  subst hP hw hK
  obtain ⟨xs,hq,hx⟩:=hg
  obtain ⟨its,rv,p,hz⟩:=I.tuple hq
  obtain ⟨f0,f1,f2,f3,f4,f5⟩:=hf it (by simp)
  have hl:=rv.length
  exact wpAny_pyNext_tuple_end (I.ok.hd hc) st (show s.heap.IsTuple a its.toArray from p) (by simp;omega) fun h' eb=>⟨rfl,I.turned (t':=s.toks) (fun b o hb e=>eb b o hb e) f0 f1 f3 f4 f5⟩
 self:=fun _ _ _ _ _ st h=>wpAny_pyIter_tupleiter st h
theorem turn_range {P:Program} {w:World} {K:W.Frag} {tg:Expr} (it:Addr) (lo:Int) (n:Nat):Turn P w K tg (Itr lo n) [it] it (fun i h=>IsRangeIter h it (lo + (i:Nat) * 1) ((n:Int) - (i:Nat)) 1) where
 mem:=by simp
 obj:=fun i h st b hb=>by
  have e:b=it:=by simpa using hb
  subst e
  exact ⟨_,st,fun v z=>by
   have z':Data.fields _=Data.cell v:=z
   cases z'⟩
 keep:=fun i h h' st k=>k it (by simp) _ st
 item:=by
  intro X hP hw hK hc i pins s σ H E I hf st hg
  subst hP hw hK
  obtain ⟨f0,f1,f2,f3,f4,f5⟩:=hf it (by simp)
  have W:=Walks.range (prog:=X.prog) (w:=X.w) (I.ok.hd hc) it lo 1 n
  refine W.item i s _ _ hg st fun v h' tk hv st' kk=>?_
  obtain ⟨t,rfl⟩:=hv
  have I1:Inv X pins σ H {s with heap:=h',toks:=tk}:=I.turned (fun b o hb e=>kk b o (by simpa using hb) e) f0 f1 f3 f4 f5
  refine ⟨_,rfl,go_of (s:={s with heap:=h',toks:=tk}) (n:="range_iterator") st' rfl rfl (by decide) ⟨.int (lo + i),H,I1,⟨t,?_⟩,⟨rfl,rfl⟩,st',fun b hb=>(hf b hb).1⟩⟩
  rw[Int.mul_one]
 done:=by
  intro X hP hw hK hc i pins s σ H E I hf st hg
  subst hP hw hK
  obtain ⟨f0,f1,f2,f3,f4,f5⟩:=hf it (by simp)
  exact wpAny_pyNext_range_end (I.ok.hd hc) st (by have:n≤i:=hg;omega) fun h' eb=>⟨rfl,I.turned (t':=s.toks) (fun b o hb e=>eb b o hb e) f0 f1 f3 f4 f5⟩
 self:=fun _ _ _ _ _ st h=>wpAny_pyIter_rangeiter st h
end
section
section
variable {X:Cx} {tg:Expr}
noncomputable def iTup (K:W.Frag) (tl:TE):TI:=fun σ H R=>tl σ H fun x H1=>∃a,x=.ref a∧(∃xs,SqT K H1 a xs)∧R (Itt K a) H1
theorem pi_tup {l:Expr} {tl:TE} (hl:PE X l tl):PI X tg l (iTup X.K tl):=by
 intro pins s σ H R I h
 refine thn (hl pins s σ H _ I h) fun v s1 ⟨x,H1,I1,r1,q1⟩=>?_
 obtain ⟨a,e,⟨xs,hq⟩,q⟩:=q1
 subst e
 cases r1
 obtain ⟨its,rv,p,hz⟩:=I1.tuple hq
 refine wpAny_pyIter_tuple (show s1.heap.IsTuple a its.toArray from p) ?_
 refine ⟨s1.heap.objs.size,[s1.heap.objs.size],_,_,H1,rfl,I1.kept (t':=s1.toks) fun b o e=>Heap.get?_push_of_some _ e,turn_tuple a _,⟨_,Heap.get?_push_size _ rfl,rfl,rfl⟩,fun b hb=>?_,q⟩
 have e:b=s1.heap.objs.size:=by simpa using hb
 subst e
 exact I1.fpOk (Nat.le_refl _) (I1.hok.fresh (Nat.le_refl _))
theorem range_it {pins : List (Addr × Obj)} {σ : St} {H : Hp} {s : Shared} {R : It → Hp → Prop} {E : Value → Shared → Prop} {lo hi : Int} {t u v : Tok} {tk : Nat} (I : Inv X pins σ H s) (h1 : -(2 ^ 62) ≤ lo) (h2 : lo < 2 ^ 62) (h3 : -(2 ^ 62) ≤ hi) (h4 : hi < 2 ^ 62)
  (q:R (Itr lo (hi - lo).toNat) H):wpAny (model X.prog X.w) X.A (pyIter (.ref s.heap.objs.size)) (PIE X pins σ tg R) E {s with heap:=s.heap.push {cls:=.type "range",data:=.fields #[.int lo t,.int hi u,.int 1 v]},toks:=tk}:=by
 refine wpAny_pyIter_range (IsRange.new ..) (small_one h1 h2 h3 h4) ?_
 have I1:Inv X pins σ H {s with heap:=s.heap.push {cls:=.type "range",data:=.fields #[.int lo t,.int hi u,.int 1 v]},toks:=tk}:=I.kept fun b o e=>Heap.get?_push_of_some _ e
 refine ⟨(s.heap.push {cls:=.type "range",data:=.fields #[.int lo t,.int hi u,.int 1 v]}).objs.size,[(s.heap.push {cls:=.type "range",data:=.fields #[.int lo t,.int hi u,.int 1 v]}).objs.size],_,_,H,rfl,
  I1.kept (t':=tk) fun b o e=>Heap.get?_push_of_some _ e,turn_range _ lo (hi - lo).toNat,?_,fun b hb=>?_,q⟩
 ·have e1:lo + ((0:Nat):Int) * 1=lo:=by simp
  have e2:(((hi - lo).toNat:Nat):Int) - ((0:Nat):Int)=Builtin.Range.rangeSize lo hi 1:=by rw[rangeSize_one];split <;> omega
  show IsRangeIter _ _ (lo + ((0:Nat):Int) * 1) ((((hi - lo).toNat:Nat):Int) - ((0:Nat):Int)) 1
  rw[e1,e2]
  exact Heap.get?_push_size _ rfl
 ·have e:b=(s.heap.push {cls:=.type "range",data:=.fields #[.int lo t,.int hi u,.int 1 v]}).objs.size:=by simpa using hb
  subst e
  exact I1.fpOk (Nat.le_refl _) (I1.hok.fresh (Nat.le_refl _))
noncomputable def iRng1 (ta:TA):TI:=fun σ H R=>ta σ H fun vs H1=>∃j:Int,vs=[.int j]∧-(2 ^ 62)≤j∧j < 2 ^ 62∧R (Itr 0 j.toNat) H1
theorem pi_range1 {a:Expr} {ta:TA} {p pos:Pos} (hg:Gl X "range") (hm:X.mg "range"=none) (ha:PA X [a] ta) (hs:starEach [a] X.env=[(false,eval a X.env)]:=by rfl):PI X tg (.Call (.Name "range" p) [a] [] pos) (iRng1 ta):=by
 intro pins s σ H R I h
 refine Call_ (ld_blt I hg hm boot_range (PyProof.Rows.callWith_type1 (thn (ha pos pins s σ H _ I h) fun us s1 ⟨vs,H1,I1,r1,q1⟩=>?_) hs rfl))
 obtain ⟨j,e,q1,q2,q⟩:=q1
 subst e
 cases r1 with
 | cons r rr=>
  cases rr
  obtain ⟨t,rfl⟩:=r
  exact call_range_1 (range_it I1 (by omega) (by omega) q1 q2 (by simpa using q))
noncomputable def tFor (wi:TI) (g:TG) (tb:TS):TS:=fun D σ H=>wi σ H fun J H1=>∃W:Nat→Nat→St→Hp→Prop,(∃m,W 0 m σ H1)∧∀i m σ H,W i m σ H→
 (J.stop i H∧D.nx σ H)∨(J.go i H∧∃N:St→Hp→Prop,(∀σ' H',N σ' H'→∃m',m' < m∧W (i + 1) m' σ' H')∧∀x H',J.yld i H x H'→g x σ H' fun σ2 H2=>tb {D with nx:=N,ct:=N,bk:=D.nx} σ2 H2)
noncomputable def pinsAt (fp:List Addr) (h:Heap):List (Addr×Obj):=fp.filterMap fun b=>(h.get? b).map fun o=>(b,o)
theorem mem_pinsAt {fp:List Addr} {h:Heap} {b:Addr} {o:Obj} (hb:b∈fp) (e:h.get? b=some o):(b,o)∈pinsAt fp h:=List.mem_filterMap.mpr ⟨b,hb,by rw[e];rfl⟩
theorem of_pinsAt {fp:List Addr} {h:Heap} {p:Addr×Obj} (hp:p∈pinsAt fp h):p.1∈fp∧h.get? p.1=some p.2:=by
 obtain ⟨b,hb,e⟩:=List.mem_filterMap.mp hp
 cases q:h.get? b with
 | none=>rw[q]at e;cases e
 | some o=>
  rw[q]at e
  have e':(b,o)=p:=Option.some.inj e
  subst e'
  exact ⟨hb,q⟩
theorem Inv.pinned {pins:List (Addr×Obj)} {σ:St} {H:Hp} {s:Shared} {fp:List Addr} (I:Inv X pins σ H s) (hf:∀b∈fp,FpOk X pins H b) (ho:∀b∈fp,∃o,s.heap.get? b=some o∧∀v,o.data≠.cell v):Inv X (pins ++ pinsAt fp s.heap) σ H s:=
 I.pins_of fun p hp=>(List.mem_append.mp hp).elim (fun z=>I.pin p (List.mem_append_right _ z)) fun z=>by
  obtain ⟨hb,e⟩:=of_pinsAt z
  obtain ⟨f0,f1,f2,_⟩:=hf p.1 hb
  obtain ⟨o,e',d⟩:=ho p.1 hb
  rw[e]at e';cases e'
  exact ⟨e,f0,f1,f2,d⟩
theorem Inv.unpinned {pins pl:List (Addr×Obj)} {σ:St} {H:Hp} {s:Shared} (I:Inv X (pins ++ pl) σ H s):Inv X pins σ H s:=I.pins_of fun p hp=>I.pin p (List.mem_append_right _ (List.mem_append_left _ hp))
theorem ps_for {iter : Expr} {body : List Stmt} {wi : TI} {g : TG} {tb : TS} {pos : Pos} (hp : PassesOwn (model X.prog X.w) X.A X.env X.xe) (hc : X.calm = true) (hi : PI X tg iter wi) (hg : PG X tg g) (hb : PSs X body tb)
  (hs:∀x,foldedSetIterable iter X.env x=pure x:=by intro _;rfl):PS X (.For tg iter body [] pos) (tFor wi g tb):=by
 intro pins s σ H D I h
 refine wpAny_For (thn (hi pins s σ H _ I h) fun v s1 h1=>thn h1 fun itv s2 h2=>?_) hs
 obtain ⟨it,fp,tn,J,H2,e,I2,T,st2,f2,W,⟨m0,w0⟩,turn⟩:=h2
 subst e
 have stat:∀{H':Hp},(∀b∈fp,H' b=none)→∀b∈fp,FpOk X pins H' b:=fun hn b hb=>⟨hn b hb,(f2 b hb).2⟩
 refine codeAny_forLoop_any (fun n s'=>∃i σ' H',Inv X pins σ' H' s'∧tn i s'.heap∧(∀b∈fp,H' b=none)∧W i n σ' H') ?_ m0 ⟨0,σ,H2,I2,st2,fun b hb=>(f2 b hb).1,w0⟩
 rintro n s3 ⟨i,σ3,H3,I3,st3,fr3,w3⟩
 rcases turn i n σ3 H3 w3 with ⟨stop,qn⟩ | ⟨go,N,hN,step⟩
 ·refine wpAny_passesOwn hp (thn (T.done X rfl rfl rfl hc i pins s3 σ3 H3 X.xe I3 (stat fr3) st3 stop) fun r s4 ⟨hr,I4⟩=>?_)
  subst hr
  exact wpAny_execs_nil ⟨σ3,H3,I4,qn⟩
 ·refine wpAny_passesOwn hp (thn (T.item X rfl rfl rfl hc i pins s3 σ3 H3 X.xe I3 (stat fr3) st3 go) fun r s4 ⟨u,hr,h4⟩=>?_)
  subst hr
  refine wpAny_passesOwn hp (thn h4 fun _ s5 ⟨x,H5,I5,r5,y5,st5,fr5⟩=>?_)
  have I5':=I5.pinned (stat fr5) (T.obj _ _ st5)
  refine wpAny_passesOwn hp (thn (hg _ s5 σ3 H5 x u _ I5' r5 (step x H5 y5)) fun _ s6 ⟨σ6,H6,I6,q6⟩=>?_)
  refine wpAny_passesOwn hp (thn (hb _ s6 σ6 H6 _ I6 q6) fun f s7 q7=>?_)
  have again:∀{σ7:St} {H7:Hp},Inv X (pins ++ pinsAt fp s5.heap) σ7 H7 s7→N σ7 H7→∃m,m < n∧∃i σ' H',Inv X pins σ' H' s7∧tn i s7.heap∧(∀b∈fp,H' b=none)∧W i m σ' H':=fun {σ7 H7} I7 n7=>by
   obtain ⟨m',hm,w7⟩:=hN σ7 H7 n7
   refine ⟨m',hm,i + 1,σ7,H7,I7.unpinned,T.keep _ _ _ st5 fun b hb o e=>(I7.pin (b,o) (List.mem_append_right _ (List.mem_append_right _ (mem_pinsAt hb e)))).1,fun b hb=>?_,w7⟩
   obtain ⟨o,e,d⟩:=T.obj _ _ st5 b hb
   exact (I7.pin (b,o) (List.mem_append_right _ (List.mem_append_right _ (mem_pinsAt hb e)))).2.1
  cases f with
  | next=>obtain ⟨σ7,H7,I7,n7⟩:=q7;exact again I7 n7
  | cont=>obtain ⟨σ7,H7,I7,n7⟩:=q7;exact again I7 n7
  | brk=>obtain ⟨σ7,H7,I7,q7⟩:=q7;exact ⟨σ7,H7,I7.unpinned,q7⟩
  | ret v=>obtain ⟨x7,σ7,H7,I7,r7,q7⟩:=q7;exact ⟨x7,σ7,H7,I7.unpinned,r7,q7⟩
end
theorem for_tup {K : W.Frag} {a : Addr} {xs : List V} {g : TG} {tb : TS} {D : Ends} {σ : St} {H : Hp} (Pv : Nat → St → Hp → Prop) (h0 : Pv 0 σ H) (hl : ∀ i σ H, i ≤ xs.length → Pv i σ H → SqT K H a xs)
  (hs:∀i x σ H,xs[i]?=some x→Pv i σ H→g x σ H fun σ2 H2=>tb {D with nx:=Pv (i + 1),ct:=Pv (i + 1),bk:=D.nx} σ2 H2) (hd:∀σ H,Pv xs.length σ H→D.nx σ H) :
  ∃W:Nat→Nat→St→Hp→Prop,(∃m,W 0 m σ H)∧∀i m σ H,W i m σ H→
   ((Itt K a).stop i H∧D.nx σ H)∨((Itt K a).go i H∧∃N:St→Hp→Prop,(∀σ' H',N σ' H'→∃m',m' < m∧W (i + 1) m' σ' H')∧∀x H',(Itt K a).yld i H x H'→g x σ H' fun σ2 H2=>tb {D with nx:=N,ct:=N,bk:=D.nx} σ2 H2):=by
 refine ⟨fun i m σ H=>m=xs.length - i∧i≤xs.length∧Pv i σ H,⟨xs.length,by simp,Nat.zero_le _,h0⟩,?_⟩
 rintro i m σ H ⟨rfl,hi,p⟩
 have q:=hl i σ H hi p
 by_cases hlt:i < xs.length
 ·refine .inr ⟨⟨xs,xs[i],q,by simp[hlt]⟩,Pv (i + 1),fun σ' H' p'=>⟨xs.length - (i + 1),by omega,rfl,hlt,p'⟩,fun x H' y=>?_⟩
  obtain ⟨e,y⟩:=y
  subst e
  exact hs i x σ _ (y xs q) p
 ·have e:i=xs.length:=by omega
  subst e
  exact .inl ⟨⟨xs,q,Nat.le_refl _⟩,hd σ H p⟩
theorem for_range {lo : Int} {n : Nat} {g : TG} {tb : TS} {D : Ends} {σ : St} {H : Hp} (Pv : Nat → St → Hp → Prop) (h0 : Pv 0 σ H)
  (hs:∀i σ H,i < n→Pv i σ H→g (.int (lo + i)) σ H fun σ2 H2=>tb {D with nx:=Pv (i + 1),ct:=Pv (i + 1),bk:=D.nx} σ2 H2) (hd:∀σ H,Pv n σ H→D.nx σ H) :
  ∃W:Nat→Nat→St→Hp→Prop,(∃m,W 0 m σ H)∧∀i m σ H,W i m σ H→
   ((Itr lo n).stop i H∧D.nx σ H)∨((Itr lo n).go i H∧∃N:St→Hp→Prop,(∀σ' H',N σ' H'→∃m',m' < m∧W (i + 1) m' σ' H')∧∀x H',(Itr lo n).yld i H x H'→g x σ H' fun σ2 H2=>tb {D with nx:=N,ct:=N,bk:=D.nx} σ2 H2):=by
 refine ⟨fun i m σ H=>m=n - i∧i≤n∧Pv i σ H,⟨n,by simp,Nat.zero_le _,h0⟩,?_⟩
 rintro i m σ H ⟨rfl,hi,p⟩
 by_cases hlt:i < n
 ·refine .inr ⟨hlt,Pv (i + 1),fun σ' H' p'=>⟨n - (i + 1),by omega,rfl,hlt,p'⟩,fun x H' y=>?_⟩
  obtain ⟨e,y⟩:=y
  subst e y
  exact hs i σ _ hlt p
 ·have e:i=n:=by omega
  subst e
  exact .inl ⟨Nat.le_refl _,hd σ H p⟩
end
section
noncomputable abbrev R2:=V→V→Hp→VK→Prop
noncomputable def OpR (X:Cx) (f:Value→Value→Sem Value) (r:R2):Prop:=
 ∀(pins:List (Addr×Obj)) (s:Shared) (σ:St) (H:Hp) (x y:V) (v u:Value) (Q:VK),Inv X pins σ H s→RelV x v→RelV y u→r x y H Q→
  wpAny (model X.prog X.w) X.A (f v u) (EP X pins σ Q) X.xe s
noncomputable def UnR (X:Cx) (f:Value→Sem Value) (r:V→Hp→VK→Prop):Prop:=
 ∀(pins:List (Addr×Obj)) (s:Shared) (σ:St) (H:Hp) (x:V) (v:Value) (Q:VK),Inv X pins σ H s→RelV x v→r x H Q→
  wpAny (model X.prog X.w) X.A (f v) (EP X pins σ Q) X.xe s
noncomputable def CallR (X:Cx) (f:Value) (r:List V→Hp→VK→Prop):Prop:=
 ∀(pins:List (Addr×Obj)) (s:Shared) (σ:St) (H:Hp) (xs:List V) (us:List Value) (Q:VK),Inv X pins σ H s→Vals xs us→r xs H Q→
  wpAny (model X.prog X.w) X.A (call f us) (EP X pins σ Q) X.xe s
noncomputable def tOp (r:R2) (ta tb:TE):TE:=fun σ H Q=>ta σ H fun x H1=>tb σ H1 fun y H2=>r x y H2 Q
noncomputable def tUn (r:V→Hp→VK→Prop) (ta:TE):TE:=fun σ H Q=>ta σ H fun x H1=>r x H1 Q
noncomputable def rI (C:Int→Int→Prop) (g:Int→Int→V):R2:=fun x y H Q=>∃i j,x=.int i∧y=.int j∧C i j∧Q (g i j) H
noncomputable def rI0 (g:Int→Int→V):R2:=fun x y H Q=>∃i j,x=.int i∧y=.int j∧Q (g i j) H
noncomputable def rU (g:Int→V):V→Hp→VK→Prop:=fun x H Q=>∃i,x=.int i∧Q (g i) H
section
variable {X:Cx} {a b c:Expr} {ta tb tc:TE} {pos:Pos}
theorem binT (ha : PE X a ta) (hb : PE X b tb) {pins : List (Addr × Obj)} {s : Shared} {σ : St} {H : Hp} {R : V → V → Hp → Prop} (I : Inv X pins σ H s)
  (h:ta σ H fun x H1=>tb σ H1 fun y H2=>R x y H2) {Q:Value→Shared→Prop} {f:Value→Value→Sem Value}
  (hf:∀v u s2 x y H2,Inv X pins σ H2 s2→RelV x v→RelV y u→R x y H2→wpAny (model X.prog X.w) X.A (f v u) Q X.xe s2) :
  wpAny (model X.prog X.w) X.A (eval a X.env) (fun v s₁=>wpAny (model X.prog X.w) X.A (eval b X.env) (fun u s₂=>wpAny (model X.prog X.w) X.A (f v u) Q X.xe s₂) X.xe s₁) X.xe s:=by
 refine thn (ha pins s σ H _ I h) fun v s1 ⟨x,H1,I1,r1,q1⟩=>?_
 refine thn (hb pins s1 σ H1 _ I1 q1) fun u s2 ⟨y,H2,I2,r2,q2⟩=>?_
 exact hf v u s2 x y H2 I2 r1 r2 q2
theorem pe_op {op:Operator} {r:R2} (ho:OpR X (binaryOp op) r) (ha:PE X a ta) (hb:PE X b tb):PE X (.BinOp a op b pos) (tOp r ta tb):=by
 intro pins s σ H Q I h
 exact wpAny_BinOp (binT ha hb I h fun v u s2 x y H2 I2 rx ry q=>ho pins s2 σ H2 x y v u Q I2 rx ry q)
theorem pe_un {op:UnaryOp} {r:V→Hp→VK→Prop} (ho:UnR X (unaryOp op) r) (ha:PE X a ta):PE X (.UnaryOp op a pos) (tUn r ta):=by
 intro pins s σ H Q I h
 exact UnaryOp_ (thn (ha pins s σ H _ I h) fun v s1 ⟨x,H1,I1,r1,q1⟩=>ho pins s1 σ H1 x v Q I1 r1 q1)
theorem opI {f : Value → Value → Sem Value} {C : Int → Int → Prop} {g : Int → Int → Int}
  (rule:∀(i j:Int) (t u:Tok) (s:Shared) (Q:Value→Shared→Prop) (E:Value→Shared→Prop),C i j→Q (.int (g i j) s.toks) {s with toks:=s.toks + 1}→wpAny (model X.prog X.w) X.A (f (.int i t) (.int j u)) Q E s) :
  OpR X f (rI C fun i j=>.int (g i j)):=by
 intro pins s σ H x y v u Q I rx ry h
 obtain ⟨i,j,rfl,rfl,hc,q⟩:=h
 obtain ⟨t,rfl⟩:=rx
 obtain ⟨t',rfl⟩:=ry
 exact rule i j t t' s _ _ hc ⟨.int (g i j),H,I.tok _,⟨_,rfl⟩,q⟩
theorem opI0 {f : Value → Value → Sem Value} {g : Int → Int → Int}
  (rule:∀(i j:Int) (t u:Tok) (s:Shared) (Q:Value→Shared→Prop) (E:Value→Shared→Prop),Q (.int (g i j) s.toks) {s with toks:=s.toks + 1}→wpAny (model X.prog X.w) X.A (f (.int i t) (.int j u)) Q E s) :
  OpR X f (rI0 fun i j=>.int (g i j)):=by
 intro pins s σ H x y v u Q I rx ry h
 obtain ⟨i,j,rfl,rfl,q⟩:=h
 obtain ⟨t,rfl⟩:=rx
 obtain ⟨t',rfl⟩:=ry
 exact rule i j t t' s _ _ ⟨.int (g i j),H,I.tok _,⟨_,rfl⟩,q⟩
theorem opB0 {f : Value → Value → Sem Value} {g : Int → Int → Bool}
  (rule:∀(i j:Int) (t u:Tok) (s:Shared) (Q:Value→Shared→Prop) (E:Value→Shared→Prop),Q (.bool (g i j)) s→wpAny (model X.prog X.w) X.A (f (.int i t) (.int j u)) Q E s) :
  OpR X f (rI0 fun i j=>.bl (g i j)):=by
 intro pins s σ H x y v u Q I rx ry h
 obtain ⟨i,j,rfl,rfl,q⟩:=h
 obtain ⟨t,rfl⟩:=rx
 obtain ⟨t',rfl⟩:=ry
 exact rule i j t t' s _ _ ⟨.bl (g i j),H,I,rfl,q⟩
noncomputable def CDiv (i j:Int):Prop:=0 < j∧j < 1073741824
noncomputable def CPow (i j:Int):Prop:=0≤j∧j≤1000000∧i.natAbs < 2 ^ 64
noncomputable def CMul (i j:Int):Prop:=(-(2 ^ 64) < i∧i < 2 ^ 64)∨(-(2 ^ 64) < j∧j < 2 ^ 64)
theorem CMul.ok {i j:Int} (h:CMul i j):IntMulOk i j:=by
 rcases h with ⟨h1,h2⟩ | ⟨h1,h2⟩
 ·exact .of_left (intBits_le_64 h1 h2)
 ·exact .of_right (intBits_le_64 h1 h2)
theorem op_add:OpR X (binaryOp .Add) (rI0 fun i j=>.int (i + j)):=opI0 fun _ _ _ _ _ _ _ q=>add_int q
theorem op_mul:OpR X (binaryOp .Mult) (rI CMul fun i j=>.int (i * j)):=opI fun _ _ _ _ _ _ _ hc q=>mul_int q hc.ok
theorem op_fdiv:OpR X (binaryOp .FloorDiv) (rI CDiv fun i j=>.int (i / j)):=opI fun i j _ _ _ _ _ hc q=>by
 have h1:(0:Int) < j:=hc.1
 have h2:j < 1073741824:=hc.2
 exact floordiv_int (by omega) (by rw[Int.fdiv_eq_ediv_of_nonneg i (by omega)];exact q) (.inl (PyProof.noPylong_small (by omega)))
theorem op_mod:OpR X (binaryOp .Mod) (rI (fun _ j=>0 < j) fun i j=>.int (i % j)):=opI fun i j _ _ _ _ _ hc q=>by
 have h1:(0:Int) < j:=hc
 exact mod_int' (by omega) (by rw[Int.fmod_eq_emod_of_nonneg i (by omega)];exact q)
theorem op_pow:OpR X (binaryOp .Pow) (rI CPow fun i j=>.int (i ^ j.toNat)):=opI fun _ _ _ _ _ _ _ hc q=>pow_int_small hc.1 hc.2.1 hc.2.2 q
theorem unI {f : Value → Sem Value} {g : Int → Int}
  (rule:∀(i:Int) (t:Tok) (s:Shared) (Q:Value→Shared→Prop) (E:Value→Shared→Prop),Q (.int (g i) s.toks) {s with toks:=s.toks + 1}→wpAny (model X.prog X.w) X.A (f (.int i t)) Q E s) :
  UnR X f (rU fun i=>.int (g i)):=by
 intro pins s σ H x v Q I rx h
 obtain ⟨i,rfl,q⟩:=h
 obtain ⟨t,rfl⟩:=rx
 exact rule i t s _ _ ⟨.int (g i),H,I.tok _,⟨_,rfl⟩,q⟩
theorem un_neg:UnR X (unaryOp .USub) (rU fun i=>.int (-i)):=unI fun _ _ _ _ _ q=>neg_int q
end
noncomputable def scal:V→V→Bool
 | .non,.non=>true | .non,.int _=>true | .int _,.non=>true | .non,.bl _=>true | .bl _,.non=>true | .non,.str _=>true | .str _,.non=>true
 | .int _,.int _=>true | .bl _,.bl _=>true | .str _,.str _=>true | .byt _,.byt _=>true
 | .int _,.str _=>true | .str _,.int _=>true | .bl _,.str _=>true | .str _,.bl _=>true
 | _,_=>false
noncomputable def rEq:R2:=fun x y H Q=>scal x y=true∧Q (.bl (decide (x=y))) H
noncomputable def rNe:R2:=fun x y H Q=>scal x y=true∧Q (.bl (!decide (x=y))) H
theorem dec_int {i j:Int}:decide (V.int i=V.int j)=(i == j):=by
 rw[Bool.eq_iff_iff]
 simp
theorem dec_bl {i j:Bool}:decide (V.bl i=V.bl j)=(i == j):=by
 rw[Bool.eq_iff_iff]
 simp
theorem dec_str {i j:Str}:decide (V.str i=V.str j)=(i == j):=by
 rw[Bool.eq_iff_iff]
 simp
theorem dec_byt {i j:Array UInt8}:decide (V.byt i=V.byt j)=(i.toList == j.toList):=by
 rw[Bool.eq_iff_iff]
 cases i
 cases j
 simp
section
variable {X:Cx} {a b c:Expr} {ta tb tc:TE} {pos:Pos}
theorem fin_bl {pins:List (Addr×Obj)} {σ:St} {H:Hp} {s:Shared} {Q:VK} {k k':Bool} (I:Inv X pins σ H s) (q:Q (.bl k) H) (e:k=k'):EP X pins σ Q (.bool k') s:=by
 subst e
 exact ⟨.bl k,H,I,rfl,q⟩
theorem op_eq:OpR X (compareOp .Eq) rEq:=by
 intro pins s σ H x y v u Q I rx ry h
 obtain ⟨hs,q⟩:=h
 cases x with
 | non=>
  cases rx
  cases y with
  | non=>cases ry;exact PySem.EqNone.eq_none_none (fin_bl I q (by simp))
  | bl j=>cases ry;exact PySem.EqNone.eq_none_bool (fin_bl I q (by simp))
  | int j=>obtain ⟨t',rfl⟩:=ry;exact PySem.EqNone.eq_none_int (fin_bl I q (by simp))
  | str j=>obtain ⟨t',rfl⟩:=ry;exact PySem.EqNone.eq_none_str (fin_bl I q (by simp))
  | _=>exact absurd (show false=true from hs) Bool.false_ne_true
 | bl i=>
  cases rx
  cases y with
  | non=>cases ry;exact PySem.EqNone.eq_bool_none (fin_bl I q (by simp))
  | bl j=>cases ry;exact eq_bool (fin_bl I q dec_bl)
  | str j=>obtain ⟨t',rfl⟩:=ry;exact PySem.EqMixed.eq_bool_str (fin_bl I q (by simp))
  | _=>exact absurd (show false=true from hs) Bool.false_ne_true
 | int i=>
  obtain ⟨t,rfl⟩:=rx
  cases y with
  | non=>cases ry;exact PySem.EqNone.eq_int_none (fin_bl I q (by simp))
  | int j=>obtain ⟨t',rfl⟩:=ry;exact eq_int (fin_bl I q dec_int)
  | str j=>obtain ⟨t',rfl⟩:=ry;exact PySem.EqMixed.eq_int_str (fin_bl I q (by simp))
  | _=>exact absurd (show false=true from hs) Bool.false_ne_true
 | str i=>
  obtain ⟨t,rfl⟩:=rx
  cases y with
  | non=>cases ry;exact PySem.EqNone.eq_str_none (fin_bl I q (by simp))
  | bl j=>cases ry;exact PySem.EqMixed.eq_str_bool (fin_bl I q (by simp))
  | int j=>obtain ⟨t',rfl⟩:=ry;exact PySem.EqMixed.eq_str_int (fin_bl I q (by simp))
  | str j=>obtain ⟨t',rfl⟩:=ry;exact eq_str (fin_bl I q dec_str)
  | _=>exact absurd (show false=true from hs) Bool.false_ne_true
 | byt i=>
  obtain ⟨t,rfl⟩:=rx
  cases y with
  | byt j=>obtain ⟨t',rfl⟩:=ry;exact PySem.W.eq_bytes (fin_bl I q dec_byt)
  | _=>exact absurd (show false=true from hs) Bool.false_ne_true
 | _=>cases y <;> exact absurd (show false=true from hs) Bool.false_ne_true
theorem op_ne:OpR X (compareOp .NotEq) rNe:=by
 intro pins s σ H x y v u Q I rx ry h
 obtain ⟨hs,q⟩:=h
 cases x with
 | non=>
  cases rx
  cases y with
  | non=>cases ry;exact PySem.EqNone.ne_none_none (fin_bl I q (by simp))
  | bl j=>cases ry;exact PySem.EqNone.ne_none_bool (fin_bl I q (by simp))
  | int j=>obtain ⟨t',rfl⟩:=ry;exact PySem.EqNone.ne_none_int (fin_bl I q (by simp))
  | str j=>obtain ⟨t',rfl⟩:=ry;exact PySem.EqNone.ne_none_str (fin_bl I q (by simp))
  | _=>exact absurd (show false=true from hs) Bool.false_ne_true
 | bl i=>
  cases rx
  cases y with
  | non=>cases ry;exact PySem.EqNone.ne_bool_none (fin_bl I q (by simp))
  | bl j=>cases ry;exact ne_bool (fin_bl I q (congrArg not dec_bl))
  | str j=>obtain ⟨t',rfl⟩:=ry;exact PySem.EqMixed.ne_bool_str (fin_bl I q (by simp))
  | _=>exact absurd (show false=true from hs) Bool.false_ne_true
 | int i=>
  obtain ⟨t,rfl⟩:=rx
  cases y with
  | non=>cases ry;exact PySem.EqNone.ne_int_none (fin_bl I q (by simp))
  | int j=>obtain ⟨t',rfl⟩:=ry;exact ne_int (fin_bl I q (congrArg not dec_int))
  | str j=>obtain ⟨t',rfl⟩:=ry;exact PySem.EqMixed.ne_int_str (fin_bl I q (by simp))
  | _=>exact absurd (show false=true from hs) Bool.false_ne_true
 | str i=>
  obtain ⟨t,rfl⟩:=rx
  cases y with
  | non=>cases ry;exact PySem.EqNone.ne_str_none (fin_bl I q (by simp))
  | bl j=>cases ry;exact PySem.EqMixed.ne_str_bool (fin_bl I q (by simp))
  | int j=>obtain ⟨t',rfl⟩:=ry;exact PySem.EqMixed.ne_str_int (fin_bl I q (by simp))
  | str j=>obtain ⟨t',rfl⟩:=ry;exact ne_str (fin_bl I q (congrArg not dec_str))
  | _=>exact absurd (show false=true from hs) Bool.false_ne_true
 | byt i=>
  obtain ⟨t,rfl⟩:=rx
  cases y with
  | byt j=>obtain ⟨t',rfl⟩:=ry;exact PySem.W.ne_bytes (fin_bl I q (congrArg not dec_byt))
  | _=>exact absurd (show false=true from hs) Bool.false_ne_true
 | _=>cases y <;> exact absurd (show false=true from hs) Bool.false_ne_true
theorem op_lt:OpR X (compareOp .Lt) (rI0 fun i j=>.bl (decide (i < j))):=opB0 fun _ _ _ _ _ _ _ q=>lt_int q
theorem op_gt:OpR X (compareOp .Gt) (rI0 fun i j=>.bl (decide (j < i))):=opB0 fun _ _ _ _ _ _ _ q=>gt_int q
theorem op_ge:OpR X (compareOp .GtE) (rI0 fun i j=>.bl (decide (j≤i))):=opB0 fun _ _ _ _ _ _ _ q=>ge_int q
theorem nomark (b:Expr) {op:CmpOp} (h:op≠.In:=by decide) (h2:op≠.NotIn:=by decide):behindInMarks op b=false:=by
 have e1:(op == CmpOp.In)=false:=by cases op <;> first | rfl | exact absurd rfl h
 have e2:(op == CmpOp.NotIn)=false:=by cases op <;> first | rfl | exact absurd rfl h2
 cases b <;> simp[behindInMarks,e1,e2]
theorem pe_cmpR {op:CmpOp} {r:R2} (ho:OpR X (compareOp op) r) (ha:PE X a ta) (hb:PE X b tb) (hm:behindInMarks op b=false):PE X (.Compare a [op] [b] pos) (tOp r ta tb):=by
 intro pins s σ H Q I h
 exact wpAny_Compare1 (binT ha hb I h fun v u s2 x y H2 I2 rx ry q=>ho pins s2 σ H2 x y v u Q I2 rx ry q) hm
noncomputable def tTest (t:TE):TT:=fun σ H Q=>t σ H fun x H'=>∃k,x=.bl k∧Q k H'
theorem pt_cmpR {op:CmpOp} {r:R2} (ho:OpR X (compareOp op) r) (ha:PE X a ta) (hb:PE X b tb) (hm:behindInMarks op b=false):PT X (.Compare a [op] [b] pos) (tTest (tOp r ta tb)):=by
 intro pins s σ H Q I h
 refine wpAny_isTrue_Compare1 (thn (ha pins s σ H _ I h) fun v s1 ⟨x,H1,I1,r1,q1⟩=>thn (hb pins s1 σ H1 _ I1 q1) fun u s2 ⟨y,H2,I2,r2,q2⟩=>
  thn (ho pins s2 σ H2 x y v u _ I2 r1 r2 q2) fun c s3 ⟨z,H3,I3,r3,k,e,q3⟩=>?_) hm
 subst e
 cases r3
 exact wpAny_truthy_bool ⟨H3,I3,q3⟩
theorem line63:(sizeLine:Nat) < 2 ^ 63:=by rw[sizeLine_eq];decide
theorem vals1 {x:V} {us:List Value} (r:Vals [x] us):∃u,us=[u]∧RelV x u:=by
 cases r with
 | cons r1 r2=>cases r2;exact ⟨_,rfl,r1⟩
theorem vals2 {x y:V} {us:List Value} (r:Vals [x,y] us):∃u w',us=[u,w']∧RelV x u∧RelV y w':=by
 cases r with
 | cons r1 r2=>
  cases r2 with
  | cons r3 r4=>cases r4;exact ⟨_,_,rfl,r1,r3⟩
end
end
section
structure ObjM (h:Heap) (x dx C:Addr) (mA:Str→Option Value):Prop where
 obj:h.get? x=some (PySem.W.instObj C dx)
 ns:h.Ns1 dx mA
 ne:dx≠x
theorem lookIn_ns {h:Heap} {dx:Addr} {mA:Str→Option Value} (n:h.Ns1 dx mA):∃od,h.get? dx=some od∧∀name,PySem.W.lookIn name od=some (mA name):=by
 obtain ⟨o,es,ep,ho,hd,hk,_,hm⟩:=n
 refine ⟨o,ho,fun name=>?_⟩
 have e:=hm name
 unfold nsFind findBy at e
 rw[←Array.find?_toList]at e
 unfold PySem.W.lookIn
 rw[hd]
 dsimp only
 split
 ·rename_i y q
  rw[q]at e
  exact congrArg some e
 ·rename_i q
  rw[q]at e
  have a:es.toList.any (·.refKey)=false:=by
   rw[List.any_eq_false]
   intro y hy
   obtain ⟨z,t,hkey⟩:=hk y (Array.mem_toList_iff.mp hy)
   simp[DictEntry.refKey,hkey]
  have a':¬es.toList.any (·.refKey)=true:=by rw[a];exact Bool.false_ne_true
  rw[if_neg a']
  exact congrArg some e
theorem ObjM.look {h:Heap} {x dx C:Addr} {mA:Str→Option Value} (I:ObjM h x dx C mA):∃od,PySem.W.InstAt h x (PySem.W.instObj C dx) C (some od)∧∀name,PySem.W.lookIn name od=some (mA name):=
 let ⟨od,ho,hl⟩:=lookIn_ns I.ns
 ⟨od,⟨I.obj,rfl,rfl,ho⟩,hl⟩
section
variable {prog:Program} {w:World} {A:Around} {E:Value→Shared→Prop} {s:Shared} {K:W.Frag} {x dx C f:Addr} {mA:Str→Option Value} {name:Str} {v:Value}
end
noncomputable def putF (f:Str) (v:V):List (Str×V)→List (Str×V)
 | []=>[(f,v)]
 | (g,x)::r=>if g=f then (g,v)::r else (g,x)::putF f v r
theorem lookup_putF (f g:Str) (v:V):∀fs:List (Str×V),(putF f v fs).lookup g=if g=f then some v else fs.lookup g
 | []=>by
  show List.lookup g [(f,v)]=_
  by_cases h:g=f
  ·have hb:(g == f)=true:=beq_iff_eq.mpr h
   simp only[List.lookup,hb,if_pos h]
  ·have hb:(g == f)=false:=beq_eq_false_iff_ne.mpr h
   simp only[List.lookup,hb,if_neg h]
 | (k,x)::r=>by
  have ih:=lookup_putF f g v r
  rw[show putF f v ((k,x)::r)=(if k=f then (k,v)::r else (k,x)::putF f v r) from rfl]
  by_cases hk:k=f
  ·rw[if_pos hk]
   by_cases h:g=k
   ·have hb:(g == k)=true:=beq_iff_eq.mpr h
    simp only[List.lookup,hb,if_pos (h.trans hk)]
   ·have hb:(g == k)=false:=beq_eq_false_iff_ne.mpr h
    simp only[List.lookup,hb,if_neg (fun e:g=f=>h (e.trans hk.symm))]
  ·rw[if_neg hk]
   by_cases h:g=k
   ·have hb:(g == k)=true:=beq_iff_eq.mpr h
    simp only[List.lookup,hb,if_neg (fun e:g=f=>hk (h.symm.trans e))]
   ·have hb:(g == k)=false:=beq_eq_false_iff_ne.mpr h
    simp only[List.lookup,hb]
    exact ih
theorem keys_putF (f:Str) (v:V):∀fs:List (Str×V),f∈(putF f v fs).map (·.1)∧∀g,g∈fs.map (·.1)→g∈(putF f v fs).map (·.1)
 | []=>⟨by simp[putF],fun g h=>by simp at h⟩
 | (k,x)::r=>by
  obtain ⟨i1,i2⟩:=keys_putF f v r
  rw[show putF f v ((k,x)::r)=(if k=f then (k,v)::r else (k,x)::putF f v r) from rfl]
  by_cases hk:k=f
  ·rw[if_pos hk]
   subst hk
   exact ⟨by simp,fun g h=>by simpa using h⟩
  ·rw[if_neg hk]
   refine ⟨?_,fun g h=>?_⟩
   ·rw[List.map_cons]
    exact List.mem_cons_of_mem _ i1
   ·rw[List.map_cons]at h ⊢
    rcases List.mem_cons.mp h with e | e
    ·exact List.mem_cons.mpr (.inl e)
    ·exact List.mem_cons_of_mem _ (i2 g e)
theorem length_putF (f:Str) (v:V):∀fs:List (Str×V),(putF f v fs).length≤fs.length + 1
 | []=>by simp[putF]
 | (k,x)::r=>by
  have ih:=length_putF f v r
  rw[show putF f v ((k,x)::r)=(if k=f then (k,v)::r else (k,x)::putF f v r) from rfl]
  by_cases hk:k=f
  ·rw[if_pos hk,List.length_cons,List.length_cons];omega
  ·rw[if_neg hk,List.length_cons,List.length_cons];omega
theorem RelO.some_of {v:V} {o:Option Value} (r:RelO (some v) o):∃u,o=some u∧RelV v u:=by
 cases o with
 | none=>exact (show False from r).elim
 | some u=>exact ⟨u,rfl,r⟩
theorem RelO.none_of {o:Option Value} (r:RelO none o):o=none:=by
 cases o with
 | none=>rfl
 | some u=>exact (show False from r).elim
theorem handed_of {v:V} {u:Value} (r:RelV v u):PySem.W.handedIn u=true:=by
 cases v with
 | non=>cases (show u=Value.none from r);rfl
 | bl b=>cases (show u=Value.bool b from r);rfl
 | int i=>obtain ⟨t,e⟩:=(show ∃t,u=Value.int i t from r);cases e;rfl
 | str x=>obtain ⟨t,e⟩:=(show ∃t,u=Value.str x t from r);cases e;rfl
 | byt b=>obtain ⟨t,e⟩:=(show ∃t,u=Value.bytes b t from r);cases e;rfl
 | flt b=>obtain ⟨t,e⟩:=(show ∃t,u=Value.float b t from r);cases e;rfl
 | ref a=>cases (show u=Value.ref a from r);rfl
 | ty n=>cases (show u=Value.type n from r);rfl
section
variable {P:Program} {w:World} {H H':Hp} {h h':Heap} {a C dx:Addr} {fs fs':List (Str×V)}
theorem ins_get (hok:HOk P w H h) (e:H a=some (.ins C dx fs)):∃mA,ObjM h a dx C mA∧(∀f,RelO (fs.lookup f) (mA f))∧PySem.Within mA (fs.map (·.1))∧fs.length≤1000∧H dx=some (.own a):=by
 obtain ⟨d,z,ne,ob,mA,n,r,q⟩:=(show ObjOk P w H h a (.ins C dx fs) from hok a _ e)
 exact ⟨mA,⟨ob,n,ne⟩,r,q,z,d⟩
end
structure Cls (K:W.Frag) (C:Addr):Prop where
 pg:PySem.W.plainGet K C Str.empty=true
 hd:PySem.W.hasDictIn K C=true
 po:PySem.W.plainOver K C=true
 sa:PySem.W.findIn K (.ref C) "__setattr__"=some (some (.builtin "object.__setattr__"))
theorem Cls.get {K:W.Frag} {C:Addr} (c:Cls K C) (f:Str):PySem.W.plainGet K C f=true:=c.pg
section
variable {X:Cx} {pins:List (Addr×Obj)} {σ:St} {H:Hp} {s:Shared} {a C dx:Addr} {fs:List (Str×V)} {f:Str} {v:V} {A:Around} {E:Value→Shared→Prop}
theorem attr_of {prog : Program} {w : World} {env : Env} {e : Expr} {f : Str} {pos : Pos} {s : Shared} {Q : Value → Shared → Prop} (hb : attributeBase e f env (eval e env) = eval e env)
  (h:wpAny (model prog w) A (eval e env) (fun o s₁=>wpAny (model prog w) A (getAttr o f true) Q E s₁) E s):wpAny (model prog w) A (eval (.Attribute e f pos) env) Q E s:=
 Attribute_any_ h (by rw[arm_eval_Attribute,hb])
end
section
variable {X:Cx} {o e value:Expr} {f:Str} {pos pos' tpos:Pos} {ta tv:TE}
end
section
variable {X:Cx} {pins:List (Addr×Obj)} {σ:St} {H:Hp} {s:Shared} {A:Around} {E:Value→Shared→Prop} {Q:Value→Shared→Prop} {c:Value} {b:Bool}
inductive TyOf (K:W.Frag) (H:Hp):V→Value→Prop where
 | non:TyOf K H .non (.type "NoneType")
 | bl (x:Bool):TyOf K H (.bl x) (.type "bool")
 | int (i:Int):TyOf K H (.int i) (.type "int")
 | str (x:Str):TyOf K H (.str x) (.type "str")
 | flt (x:UInt64):TyOf K H (.flt x) (.type "float")
 | lst {a:Addr} {xs:List V} (e:H a=some (.lst xs)):TyOf K H (.ref a) (.type "list")
 | frz {a:Addr} {o:Obj} {xs:List V} (e:H a=some (.frz o (.lst xs))):TyOf K H (.ref a) (.type "list")
 | tup {a:Addr} {xs:List V} (e:H a=some (.tup xs)):TyOf K H (.ref a) (.type "tuple")
 | dK {a:Addr} {kvs:List (Key×V)} (e:H a=some (.dK kvs)):TyOf K H (.ref a) (.type "dict")
 | dT {a:Addr} {kvs:List (List Key×V)} (e:H a=some (.dT kvs)):TyOf K H (.ref a) (.type "dict")
 | ins {a C dx : Addr} {fs : List (Str × V)} (e : H a = some (.ins C dx fs)) (cl : Cls K C) (ha : PySem.W.findIn K (.ref C) "__class__" = some (some (.builtin "object.__class__")))
   (hn:PySem.W.specialIn K (.builtin "object.__class__") "__get__"=some (some (.builtin "getset_descriptor.__get__"))) (htk:PySem.W.takesIn K (.builtin "object.__class__")=some true)
   (hm:PySem.W.mroIn K C (.type "object")=some true):TyOf K H (.ref a) (.ref C)
theorem isinst_ok {x : V} {u t : Value} (I : Inv X pins σ H s) (rx : RelV x u) (ty : TyOf X.K H x t) (e : PySem.W.kitOne X.K t c = some b) (h : ∀ tk, Q (.bool b) { s with toks := tk }) :
  wpAny (model X.prog X.w) A (call (.builtin "isinstance") [u,c]) Q E s:=by
 cases ty with
 | non=>cases (show u=Value.none from rx);exact PySem.W.kia_one PySem.W.kitx_none I.kIn True.intro e (fun z=>nomatch z) h
 | bl y=>cases (show u=Value.bool y from rx);exact PySem.W.kia_one PySem.W.kitx_bool I.kIn True.intro e (fun z=>nomatch z) h
 | int i=>obtain ⟨t,q⟩:=(show ∃t,u=Value.int i t from rx);cases q;exact PySem.W.kia_one PySem.W.kitx_int I.kIn True.intro e (fun z=>nomatch z) h
 | str y=>obtain ⟨t,q⟩:=(show ∃t,u=Value.str y t from rx);cases q;exact PySem.W.kia_one PySem.W.kitx_str I.kIn True.intro e (fun z=>nomatch z) h
 | flt y=>obtain ⟨t,q⟩:=(show ∃t,u=Value.float y t from rx);cases q;exact PySem.W.kia_one PySem.W.kitx_float I.kIn True.intro e (fun z=>nomatch z) h
 | @lst a xs ea=>
  cases (show u=Value.ref a from rx)
  obtain ⟨_,_,n,_,h1⟩:=(show ObjOk X.prog X.w H s.heap a (.lst xs) from I.hok a _ ea)
  exact PySem.W.kia_one PySem.W.kitx_list I.kIn ⟨_,h1,rfl⟩ e (fun z=>nomatch z) h
 | @frz a ob xs ea=>
  cases (show u=Value.ref a from rx)
  obtain ⟨_,_,_,n,_,h1⟩:=(show ObjOk X.prog X.w H s.heap a (.frz ob (.lst xs)) from I.hok a _ ea)
  exact PySem.W.kia_one PySem.W.kitx_list I.kIn ⟨_,h1,rfl⟩ e (fun z=>nomatch z) h
 | @tup a xs ea=>
  cases (show u=Value.ref a from rx)
  obtain ⟨_,_,_,p⟩:=(show ObjOk X.prog X.w H s.heap a (.tup xs) from I.hok a _ ea)
  obtain ⟨o,h1,h2,_⟩:=p
  exact PySem.W.kia_one PySem.W.kitx_tuple I.kIn ⟨o,h1,h2⟩ e (fun z=>nomatch z) h
 | @dK a kvs ea=>
  cases (show u=Value.ref a from rx)
  obtain ⟨_,_,vs,_,p⟩:=(show ObjOk X.prog X.w H s.heap a (.dK kvs) from I.hok a _ ea)
  obtain ⟨o,es,ep,h1,h2,_⟩:=p
  exact PySem.W.kia_one PySem.W.kitx_dict I.kIn ⟨o,h1,h2.1⟩ e (fun z=>nomatch z) h
 | @dT a kvs ea=>
  cases (show u=Value.ref a from rx)
  obtain ⟨_,_,xs,_,o,es,ep,h1,h2,_⟩:=(show ObjOk X.prog X.w H s.heap a (.dT kvs) from I.hok a _ ea)
  exact PySem.W.kia_one PySem.W.kitx_dict I.kIn ⟨o,h1,h2.1⟩ e (fun z=>nomatch z) h
 | @ins a C dx fs ea cl ha hn htk hm=>
  cases (show u=Value.ref a from rx)
  obtain ⟨mA,O,_⟩:=ins_get I.hok ea
  obtain ⟨od,J,_⟩:=O.look
  exact PySem.W.kia_one (PySem.W.kitx_own (cl.get _) cl.hd ha hn htk hm) I.kIn J e (fun z=>nomatch z) h
end
end
section
structure Room (k:Nat) (A:Around):Prop where
 hd:A.handled=none
 dp:A.depth + 3 * k + 5 < recursionLimit
 un:A.units + 16 * k + 200 < cLine
 gd:A.guards=some []
theorem Room.mono {j k:Nat} {A:Around} (r:Room k A) (h:j≤k):Room j A:=⟨r.hd,by have:=r.dp;omega,by have:=r.un;omega,r.gd⟩
theorem Room.deeper {k:Nat} {A:Around} (r:Room (k + 1) A) (env:Env):Room k (A.deeper env):=
 ⟨r.hd,by have:=r.dp;show A.depth + 1 + 3 * k + 5 < _;omega,by have:=r.un;show A.units + 3 + 16 * k + 200 < _;omega,r.gd⟩
theorem make_depth {A:Around} {C:Addr} {us:List Value} {kw:List (Str×Value)}:(A.under (.builtin "type.__call__" ⟨.ref C::us,kw⟩)).depth=A.depth + 1:=by
 first | rfl | simp[Around.under,Code.weight,Code.isCreation,Code.isGuard,Code.isCaller,Code.frames,Code.isFrame,guardIds]
theorem make_units {A:Around} {C:Addr} {us:List Value} {kw:List (Str×Value)}:(A.under (.builtin "type.__call__" ⟨.ref C::us,kw⟩)).units=A.units + 1:=by
 first | rfl | simp[Around.under,Code.cUnits,Code.frames,Code.isFrame]
theorem Room.make {k:Nat} {A:Around} (r:Room (k + 1) A) (C:Addr) (us:List Value) (kw:List (Str×Value)):Room k (A.under (.builtin "type.__call__" ⟨.ref C::us,kw⟩)):=
 ⟨r.hd,by have:=r.dp;rw[make_depth];omega,by have:=r.un;rw[make_units];omega,by have:=r.gd;first | exact this | (simpa [Around.under,Code.isGuard,guardIds] using this)⟩
theorem Room.depth {k:Nat} {A:Around} (r:Room k A):A.depth < recursionLimit:=by have:=r.dp;omega
theorem Room.units {k:Nat} {A:Around} (r:Room k A):A.units + 64 < cLine:=by have:=r.un;omega
noncomputable def tNil:TA:=fun _ H Q=>Q [] H
noncomputable def tCons (ta:TE) (tr:TA):TA:=fun σ H Q=>ta σ H fun x H1=>tr σ H1 fun xs H2=>Q (x::xs) H2
section
variable {X:Cx} {e:Expr} {es:List Expr} {te:TE} {t:TA} {pos:Pos}
theorem pa_nil:PA X [] tNil:=fun _ _ _ _ H Q I h=>Calls.spliced_nil ⟨[],H,I,.nil,h⟩
theorem pa_cons (ha:PE X e te) (hr:PA X es t) (hs:starEach (e::es) X.env=(false,eval e X.env)::starEach es X.env:=by rfl):PA X (e::es) (tCons te t):=by
 intro pos pins s σ H Q I h
 rw[hs]
 show wpAny _ _ (spliced ((false,eval e X.env)::backTo pos (starEach es X.env))) _ _ s
 refine Calls.spliced_cons (thn (ha pins s σ H _ I h) fun u s1 ⟨x,H1,I1,r1,q1⟩=>?_)
 exact thn (hr pos pins s1 σ H1 _ I1 q1) fun us s2 ⟨xs,H2,I2,r2,q2⟩=>⟨x::xs,H2,I2,.cons r1 r2,q2⟩
noncomputable def tTup (t:TA):TE:=fun σ H Q=>t σ H fun xs H1=>xs.length≤sizeLine∧∀p,H1 p=none→Q (.ref p) (upd H1 p (.tup xs))
noncomputable def tLst (t:TA):TE:=fun σ H Q=>t σ H fun xs H1=>xs.length≤sizeLine∧∀p,H1 p=none→Q (.ref p) (upd H1 p (.lst xs))
theorem pe_tup {x1} (h:PA X es t):PE X (.Tuple es x1 pos) (tTup t):=by
 intro pins s σ H Q I hq
 refine wpAny_Tuple_spliced (thn (h pos pins s σ H _ I hq) fun us s1 ⟨xs,H1,I1,r,z,q⟩=>⟨by rw[←r.length];exact z,?_⟩)
 have hf:H1 s1.heap.objs.size=none:=I1.hok.fresh (Nat.le_refl _)
 refine ⟨.ref s1.heap.objs.size,upd H1 s1.heap.objs.size (.tup xs),I1.laid (t':=s1.toks) (fun b u e=>Heap.get?_push_of_some _ e) (Nat.le_refl _) ?_,rfl,q _ hf⟩
 exact ⟨z,us,r,⟨_,Heap.get?_push_size _ rfl,rfl,_,rfl⟩⟩
theorem pe_lst (h:PA X es t):PE X (.List es pos) (tLst t):=by
 intro pins s σ H Q I hq
 refine wpAny_List_spliced (thn (h pos pins s σ H _ I hq) fun us s1 ⟨xs,H1,I1,r,z,q⟩=>⟨by rw[←r.length];exact z,?_⟩)
 have hf:H1 s1.heap.objs.size=none:=I1.hok.fresh (Nat.le_refl _)
 refine ⟨.ref s1.heap.objs.size,upd H1 s1.heap.objs.size (.lst xs),I1.laid (t':=s1.toks) (fun b u e=>Heap.get?_push_of_some _ e) (Nat.le_refl _) ?_,rfl,q _ hf⟩
 exact ⟨z,us,0,r,Heap.get?_push_size _ rfl⟩
end
noncomputable abbrev Sp:=List V→Hp→VK→XK→Prop
noncomputable abbrev CXT:=List Env→Hp→Shared→XK→Value→Shared→Prop
structure Env0 (P:Program) (w:World) (K:W.Frag) (mg:Str→Option Value) (base:Heap) (A:Around) (outer:List Env) (s:Shared) (H:Hp):Prop where
 frames:A.frames=some outer
 mod:Mod K mg base
 bs:∀b o,base.get? b=some o→s.heap.get? b=some o∧H b=none
 bsz:base.objs.size≤s.heap.objs.size
 funs:s.heap.FunFrames base outer
 frf:∀b∈frs outer,H b=none
 hok:HOk P w H s.heap
 bare:AllBare s.gens
noncomputable def CE (outer:List Env) (P:Program) (w:World) (H:Hp) (s:Shared) (Q:VK) (u:Value) (s':Shared):Prop:=
 ∃v H',s'.os=s.os∧AllBare s'.gens∧Un (frs outer) [] H H' s.heap s'.heap∧HOk P w H' s'.heap∧RelV v u∧Q v H'
noncomputable def CR (CX:CXT) (outer:List Env) (P:Program) (w:World) (H:Hp) (s:Shared) (Q:VK) (E:XK) (r:Result) (s':Shared):Prop:=
 match r with
 | .ok (.ret u)=>CE outer P w H s Q u s'
 | .ok _=>False
 | .error e=>CX outer H s E e s'
structure FnOk (P:Program) (w:World) (K:W.Frag) (mg:Str→Option Value) (base:Heap) (CX:CXT) (k:Nat) (f:Addr) (fd:FuncData) (ps:List Str) (sp:Sp):Prop where
 len:∀vs H Q E,sp vs H Q E→vs.length=ps.length
 run:∀(A:Around) (outer:List Env) (s:Shared) (H:Hp) (args:Args) (us:List Value) (vs:List V) (Q:VK) (E:XK),Room k A→Env0 P w K mg base A outer s H→BindsTo s fd args (ps.zip us)→Vals vs us→sp vs H Q E→
  codeAny (model P w) A (.call (.ref f) args) (CR CX outer P w H s Q E) s
theorem FnOk.mono {P : Program} {w : World} {K : W.Frag} {mg : Str → Option Value} {base : Heap} {CX : CXT} {j k : Nat} {f : Addr} {fd : FuncData} {ps : List Str} {sp : Sp} (F : FnOk P w K mg base CX j f fd ps sp) (h : j ≤ k) :
  FnOk P w K mg base CX k f fd ps sp:=⟨F.len,fun A outer s H args us vs Q E hr=>F.run A outer s H args us vs Q E (hr.mono h)⟩
theorem Env0.make {P : Program} {w : World} {K : W.Frag} {mg : Str → Option Value} {base : Heap} {A : Around} {outer : List Env} {s : Shared} {H : Hp} (e : Env0 P w K mg base A outer s H) (C : Addr) (us : List Value) (kw : List (Str × Value)) :
  Env0 P w K mg base (A.under (.builtin "type.__call__" ⟨.ref C::us,kw⟩)) outer s H:=⟨by first | exact e.frames | (simpa [Around.under,Code.envs,Code.isFrame,pushEnvs] using e.frames),e.mod,e.bs,e.bsz,e.funs,e.frf,e.hok,e.bare⟩
section
variable {X:Cx} {pins:List (Addr×Obj)} {σ:St} {H:Hp} {s s':Shared}
theorem Inv.env0 (I:Inv X pins σ H s):Env0 X.prog X.w X.K X.mg X.base X.A X.stack s H:=
 ⟨I.ok.frames,I.ok.mod,I.bs,Nat.le_trans I.ok.bsz I.sz,I.stack,I.stkFree,I.hok,I.bare⟩
theorem Inv.after {Q:VK} {u:Value} (I:Inv X pins σ H s) (h:CE X.stack X.prog X.w H s Q u s'):EP X pins σ Q u s':=by
 obtain ⟨v,H',os,bare,un,hok,r,q⟩:=h
 obtain ⟨hh,g,d,t,os'⟩:=s'
 obtain rfl:os'=s.os:=os
 exact ⟨v,H',I.call (h':=hh) (g':=g) (d':=d) (t':=t) (ch:=[]) un hok bare (fun b z=>absurd z (by simp)),r,q⟩
end
noncomputable def tCall (sp:Sp) (dvs:List V) (E:XK) (t:TA):TE:=fun σ H Q=>t σ H fun vs H1=>sp (vs ++ dvs) H1 Q E
noncomputable def Binds (K:W.Frag) (fd:FuncData) (ps:List Str) (ds:List Value):Prop:=
 ∀(s:Shared) (us:List Value),K.In s.heap→(us ++ ds).length=ps.length→BindsTo s fd ⟨us,[]⟩ (ps.zip (us ++ ds))
theorem Binds.all {K:W.Frag} {fd:FuncData} {ps:List Str} (h:∀us:List Value,us.length=ps.length→bindArgs fd ⟨us,[]⟩=pure (ps.zip us)):Binds K fd ps []:=fun s us _ hl=>by
 rw[List.append_nil]at hl ⊢
 exact .of_eq (h us hl)
noncomputable def Passes (CX:CXT) (X:Cx) (E:XK):Prop:=∀(pins:List (Addr×Obj)) (σ:St) (H:Hp) (s:Shared) (e:Value) (s':Shared),Inv X pins σ H s→CX X.stack H s E e s'→X.xe e s'
section
variable {X:Cx} {CX:CXT} {k:Nat} {f C:Addr} {fd:FuncData} {ps:List Str} {sp:Sp} {dvs:List V} {ds:List Value} {E:XK} {x m:Str} {p pos apos:Pos} {e o:Expr} {es:List Expr} {ta:TE} {t:TA}
theorem run_fn {pins : List (Addr × Obj)} {σ : St} {H : Hp} {s : Shared} {Q : VK} {us : List Value} {vs : List V} (F : FnOk X.prog X.w X.K X.mg X.base CX k f fd ps sp) (hr : Room k X.A) (hb : Binds X.K fd ps ds) (hd : Vals dvs ds) (hx : Passes CX X E)
  (I:Inv X pins σ H s) (r:Vals vs us) (h:sp (vs ++ dvs) H Q E):wpAny (model X.prog X.w) X.A (call (.ref f) us) (EP X pins σ Q) X.xe s:=by
 have r2:Vals (vs ++ dvs) (us ++ ds):=r.append hd
 have hl:(us ++ ds).length=ps.length:=by rw[←r2.length];exact F.len _ _ _ _ h
 refine wpAny_call (codeAny_mono (F.run X.A X.stack s H ⟨us,[]⟩ (us ++ ds) (vs ++ dvs) Q E hr I.env0 (hb s us I.kIn hl) r2 h) fun r s' hq=>?_)
 cases r with
 | error e=>exact hx pins σ H s e s' I hq
 | ok fl=>
  cases fl with
  | ret u=>exact I.after hq
  | next=>exact False.elim hq
  | brk=>exact False.elim hq
  | cont=>exact False.elim hq
theorem pe_call (F : FnOk X.prog X.w X.K X.mg X.base CX k f fd ps sp) (hr : Room k X.A) (hg : Gl X x) (hm : X.mg x = some (.ref f)) (hk : PySem.W.keepIn X.K (.ref f) = true) (hb : Binds X.K fd ps ds) (hd : Vals dvs ds) (hx : Passes CX X E)
  (ha:PA X (e::es) t) (hdb:(x == ("__debug__":Str))=false:=by decide) (he:starEach (e::es) X.env=(false,eval e X.env)::starEach es X.env:=by rfl) (hpl:(backTo pos (starEach es X.env)).any (·.1)=false:=by rfl) :
  PE X (.Call (.Name x p) (e::es) [] pos) (tCall sp dvs E t):=by
 intro pins s σ H Q I h
 refine wpAny_Call_Name_kw (ld_glob I hg hm ?_ hdb)
 refine PySem.W.callWith_K (h₀:=X.base) I.ok.mod.kin hk (thn (ha pos pins s σ H _ I h) fun us s1 ⟨vs,H1,I1,r,q⟩=>⟨I1.kIn,?_⟩) he hpl
 exact run_fn F hr hb hd hx I1 r q
end
section
variable {X:Cx} {CX:CXT} {k:Nat} {f C:Addr} {fd:FuncData} {ps ks:List Str} {sp:Sp} {E:XK} {x m:Str} {p pos apos kpos:Pos} {e o:Expr} {es:List Expr} {kws:List Keyword} {te ta:TE} {t tk:TA} {nm:Option Str}
variable {g:List Value→List Value→List Value} {gV:List V→List V→List V}
end
structure FnScope (N P:List Str) (sc:Scope):Prop where
 kind:sc.kind=.function
 co:sc.isCoroutine=false
 gen:sc.isGenerator=false
 nd:N.Nodup
 pre:N.take P.length=P
 par:∀x∈P,sc.names.lookup x=some .local∨sc.names.lookup x=some .cell
 nofree:∀y∈sc.names,y.2≠.free
theorem bindL_out {kindOf:Str→Option NameKind} {x:Str}:∀{binds:List (Str×Value)} {m:Str→Option Value},(∀v,(x,v)∉binds)→bindL kindOf binds m x=m x
 | [],_,_=>rfl
 | (n,v)::r,m,h=>by
  unfold bindL
  rw[bindL_out fun w hw=>h w (List.mem_cons_of_mem _ hw)]
  split
  ·have:x≠n:=by rintro rfl;exact h v List.mem_cons_self
   simp[this]
  ·rfl
theorem bindC_out {kindOf:Str→Option NameKind} {x:Str}:∀{binds:List (Str×Value)} {m:Str→Option Value},(∀v,(x,v)∉binds)→bindC kindOf binds m x=m x
 | [],_,_=>rfl
 | (n,v)::r,m,h=>by
  unfold bindC
  rw[bindC_out fun w hw=>h w (List.mem_cons_of_mem _ hw)]
  split
  ·rfl
  ·have:x≠n:=by rintro rfl;exact h v List.mem_cons_self
   simp[this]
theorem bindL_get {kindOf : Str → Option NameKind} {x : Str} {v : Value} : ∀ {P : List Str} {vs : List Value} {i : Nat} {m : Str → Option Value}, P.Nodup → P[i]? = some x → vs[i]? = some v → kindOf x = some .local →
  bindL kindOf (P.zip vs) m x=some v
 | [],_,_,_,_,h,_,_=>by simp at h
 | _::_,[],_,_,_,_,h,_=>by simp at h
 | p::P,w::vs,0,m,nd,h1,h2,hk=>by
  simp at h1 h2;subst h1;subst h2
  show bindL kindOf ((p,w)::P.zip vs) m p=_
  unfold bindL
  rw[bindL_out fun v hv=>(List.nodup_cons.mp nd).1 (List.of_mem_zip hv).1,if_pos hk]
  simp
 | p::P,w::vs,i + 1,m,nd,h1,h2,hk=>by
  show bindL kindOf ((p,w)::P.zip vs) m x=_
  unfold bindL
  exact bindL_get (i:=i) (List.nodup_cons.mp nd).2 (by simpa using h1) (by simpa using h2) hk
theorem bindC_get {kindOf : Str → Option NameKind} {x : Str} {v : Value} : ∀ {P : List Str} {vs : List Value} {i : Nat} {m : Str → Option Value}, P.Nodup → P[i]? = some x → vs[i]? = some v → kindOf x ≠ some .local →
  bindC kindOf (P.zip vs) m x=some v
 | [],_,_,_,_,h,_,_=>by simp at h
 | _::_,[],_,_,_,_,h,_=>by simp at h
 | p::P,w::vs,0,m,nd,h1,h2,hk=>by
  simp at h1 h2;subst h1;subst h2
  show bindC kindOf ((p,w)::P.zip vs) m p=_
  unfold bindC
  rw[bindC_out fun v hv=>(List.nodup_cons.mp nd).1 (List.of_mem_zip hv).1,if_neg hk]
  simp
 | p::P,w::vs,i + 1,m,nd,h1,h2,hk=>by
  show bindC kindOf ((p,w)::P.zip vs) m x=_
  unfold bindC
  exact bindC_get (i:=i) (List.nodup_cons.mp nd).2 (by simpa using h1) (by simpa using h2) hk
noncomputable def start (N:List Str) (vs:List V):St:=vs.map some ++ List.replicate (N.length - vs.length) none
noncomputable def cxOf (CX:CXT) (P:Program) (w:World) (K:W.Frag) (mg:Str→Option Value) (base:Heap) (N:List Str) (qual:Str) (scope:Scope) (f:Addr) (cd:Value) (A:Around) (outer:List Env) (s:Shared) (H:Hp) (E:XK):Cx where
 prog:=P
 w:=w
 K:=K
 mg:=mg
 base:=base
 A:=A.deeper (envOfC qual scope s.heap.objs.size f cd)
 N:=N
 s₀:=s
 H₀:=H
 env:=envOfC qual scope s.heap.objs.size f cd
 outer:=outer
 stack:=envOfC qual scope s.heap.objs.size f cd::outer
 ex:=[]
 calm:=true
 fn:=fun _=>true
 pn:=[]
 xe:=fun e s'=>wpAny (model P w) (A.deeper (envOfC qual scope s.heap.objs.size f cd)) (leaving (envOfC qual scope s.heap.objs.size f cd) e) (fun _ s''=>CX outer H s E e s'') (fun e' s''=>CX outer H s E e' s'') s'
theorem cell_has {sc:Scope} {n:Nat} {x:Str} (h:sc.names.lookup x=some .cell):∃c,(cellsFrom n sc.names []).lookup x=some c:=by
 have q:=PySem.W.cellsFrom_some sc.names n [] (.inl h)
 exact Option.isSome_iff_exists.mp q
theorem inv_start {CX : CXT} {P : Program} {w : World} {K : W.Frag} {mg : Str → Option Value} {base : Heap} {N ps : List Str} {qual : Str} {scope : Scope} {f : Addr} {cd : Value} {A : Around} {outer : List Env} {s s1 : Shared} {H : Hp} {E : XK} {us : List Value} {vs : List V}
  (S:FnScope N ps scope) (hd:A.handled=none) (e0:Env0 P w K mg base A outer s H) (hl:vs.length=ps.length) (r:Vals vs us)
  (x:InCallC s s.heap.objs.size (bindL (envOfC qual scope s.heap.objs.size f cd).kindOf (ps.zip us) fun _=>none) (cellsFrom (s.heap.objs.size + 1) scope.names []) (bindC (envOfC qual scope s.heap.objs.size f cd).kindOf (ps.zip us) fun _=>none) s1) :
  Inv (cxOf CX P w K mg base N qual scope f cd A outer s H E) [] (start N vs) H s1:=by
 have hpl:ps.length≤N.length:=by have:=congrArg List.length S.pre;rw[List.length_take]at this;omega
 obtain ⟨h1,tk,rfl,hk⟩:=x.done
 have noA:∀b:Addr,b∉(cxOf CX P w K mg base N qual scope f cd A outer s H E).ex:=fun b z=>absurd (show b∈([]:List Addr) from z) (by simp)
 refine ⟨⟨e0.mod,S.kind,rfl,rfl,Nat.le_refl _,fun y z c h1 h2=>?_,fun y hy=>?_,fun y c _ h=>?_,fun _=>hd,Around.frames_deeper e0.frames,.inr ⟨rfl,rfl⟩,fun b z=>absurd z (noA b),e0.bs,e0.bsz,fun b _ _=>noA b,fun b z=>absurd z (noA b),e0.funs,e0.frf⟩,
  rfl,e0.bare,Un.kept hk,⟨_,x.toInCall.ns,fun i y v h1 h2 h3=>?_⟩,fun y c h=>⟨_,x.cell y c h⟩,e0.hok.fresh (Nat.le_refl _),fun y c h=>?_,fun p hp=>absurd (show p∈([]:List (Addr×Obj)) from hp) (by simp),e0.hok.kept hk,?_⟩
 ·exact name_of_addr x.apart (PySem.mem_of_lookup h1) (PySem.mem_of_lookup h2)
 ·have hy:scope.names.lookup y=some .cell∨scope.names.lookup y=some .free:=hy
  rcases hy with hy | hy
  ·exact cell_has hy
  ·exact absurd rfl (S.nofree _ (PySem.mem_of_lookup hy))
 ·exact Nat.le_of_lt (x.above y c (PySem.mem_of_lookup h))
 ·have hi : i < vs.length := by
   unfold start at h2
   by_cases hi:i < vs.length
   ·exact hi
   ·rw[List.getElem?_append_right (by simpa using hi)]at h2
    rw[List.getElem?_replicate]at h2
    split at h2 <;> cases h2
  have ha:vs[i]?=some v:=by
   unfold start at h2
   rw[List.getElem?_append_left (by simpa using hi),List.getElem?_map]at h2
   cases e:vs[i]? with
   | none=>rw[e]at h2;cases h2
   | some a=>rw[e]at h2;cases h2;rfl
  obtain ⟨u,hu,rv⟩:=r.get ha
  have hp:ps[i]?=some y:=by
   rw[←S.pre,List.getElem?_take_of_lt (by omega)];exact h1
  have ndP:ps.Nodup:=by rw[←S.pre];exact S.nd.sublist (List.take_sublist _ _)
  refine ⟨u,rv,?_⟩
  rcases S.par y (List.mem_of_getElem? hp) with k | k
  ·exact .inl ⟨k,bindL_get ndP hp hu k⟩
  ·obtain ⟨c,e⟩:=cell_has (n:=s.heap.objs.size + 1) k
   refine .inr ⟨.inl k,c,e,?_⟩
   have q:=x.cell y c e
   rw[bindC_get ndP hp hu (by show scope.names.lookup y≠_;rw[k];decide)]at q
   exact q
 ·exact e0.hok.fresh (Nat.le_of_lt (x.above y c (PySem.mem_of_lookup h)))
 ·unfold start
  show _=N.length
  rw[List.length_append,List.length_map,List.length_replicate]
  omega
theorem fn_of {CX : CXT} {P : Program} {w : World} {K : W.Frag} {mg : Str → Option Value} {base : Heap} {k : Nat} {f : Addr} {name qual : Str} {params : Arguments} {body : List Stmt} {scope : Scope} {dV kV doc pm cdv ct oc : Value} {an od : Option Addr}
  {osl:Array (Option Value)} {N ps:List Str} {sp:Sp} (lk:K.lookup f=some ⟨oc,od,.func (PySem.W.fnOf name qual params body scope dV kV doc pm an cdv ct),osl⟩) (hcd:PySem.W.codeIn K cdv qual=true) (S:FnScope N ps scope)
  (len:∀vs H Q E,sp vs H Q E→vs.length=ps.length)
  (hbody:∀(A:Around) (outer:List Env) (s:Shared) (H:Hp) (vs:List V) (Q:VK) (E:XK),Room k (A.deeper (envOfC qual scope s.heap.objs.size f cdv))→sp vs H Q E→
   ∃t,PSs (cxOf CX P w K mg base N qual scope f cdv A outer s H E) body t∧t {nx:=fun _ H'=>Q .non H',rt:=Q} (start N vs) H) :
  FnOk P w K mg base CX (k + 1) f (PySem.W.fnOf name qual params body scope dV kV doc pm an cdv ct) ps sp:=by
 refine ⟨len,fun A outer s H args us vs Q E hr e0 hb r hsp=>?_⟩
 have hl:=len _ _ _ _ hsp
 have KX:K.In s.heap:=e0.mod.kin.keeps fun b o e=>(e0.bs b o e).1
 have lim:s.heap.NoLimit:=e0.mod.nolimit.keeps fun b o e=>(e0.bs b o e).1
 have hkind:∀y∈ps.zip us,scope.names.lookup y.1=some .local∨(scope.names.lookup y.1=some .cell∧((cellsFrom (s.heap.objs.size + 1) scope.names []).lookup y.1).isSome=true):=fun ⟨n,v⟩ hy=>by
  rcases S.par n (List.of_mem_zip hy).1 with q | q
  ·exact .inl q
  ·exact .inr ⟨q,PySem.W.cellsFrom_some _ _ _ (.inl q)⟩
 refine codeAny_call_function hr.depth (KX _ _ lk) rfl S.co S.gen rfl (PySem.W.codeRec_of KX hcd) (hb _ _ _ _ ?_)
 refine wpAny_newFunctionEnv_cells S.kind hkind fun env he s1 x=>?_
 subst he
 refine ⟨lim.keeps x.toInCall.keep,codeAny_func ?_⟩
 obtain ⟨t,ht,hq⟩:=hbody A outer s H vs Q E (hr.deeper _) hsp
 have I:Inv (cxOf CX P w K mg base N qual scope f cdv A outer s H E) [] (start N vs) H s1:=inv_start S hr.hd e0 hl r x
 refine wpAny_mono (ht [] s1 (start N vs) H _ I hq) (fun fl s' hs=>?_) fun e s' hs=>hs
 have fin:∀{σ':St} {H':Hp} {v:V} {u:Value},Inv (cxOf CX P w K mg base N qual scope f cdv A outer s H E) [] σ' H' s'→RelV v u→Q v H'→CE outer P w H s Q u s':=
  fun {σ' H' v u} J rv q=>⟨v,H',J.os,J.bare,J.base,J.hok,rv,q⟩
 cases fl with
 | ret u=>
  obtain ⟨v,σ',H',J,rv,q⟩:=hs
  exact fin J rv q
 | next=>
  obtain ⟨σ',H',J,q⟩:=hs
  exact fin (v:=V.non) (u:=Value.none) J rfl q
 | brk=>
  obtain ⟨_,_,_,q⟩:=hs
  exact False.elim q
 | cont=>
  obtain ⟨_,_,_,q⟩:=hs
  exact False.elim q
end
end L2
namespace L2
open PySem PySem.Spec PyProof.Rows
section
variable {X:Cx} {x:Str} {p pos:Pos} {e:Expr} {es:List Expr} {t:TA} {id T:String} {r:List V→Hp→VK→Prop}
noncomputable def tCB (r:List V→Hp→VK→Prop) (t:TA):TE:=fun σ H Q=>t σ H fun vs H1=>r vs H1 Q
theorem pe_callB (hc : CallR X (.builtin id) r) (hg : Gl X x) (hm : X.mg x = none) (hv : bootBuiltins x = some (.builtin id)) (ha : PA X (e :: es) t) (hn : x ≠ "__name__" := by decide) (hdb : (x == ("__debug__" : Str)) = false := by decide)
  (he:starEach (e::es) X.env=(false,eval e X.env)::starEach es X.env:=by rfl) (hpl:(backTo pos (starEach es X.env)).any (·.1)=false:=by rfl):PE X (.Call (.Name x p) (e::es) [] pos) (tCB r t):=by
 intro pins s σ H Q I h
 refine wpAny_Call_Name_kw (ld_blt I hg hm hv ?_ hn hdb)
 exact PyProof.Rows.callWith_builtin1 (thn (ha pos pins s σ H _ I h) fun us s1 ⟨vs,H1,I1,r1,q1⟩=>hc pins s1 σ H1 vs us Q I1 r1 q1) he hpl
end
end L2
namespace HT
open PySem PyProof.Rows
section
open PySem.SeqAt
open PySem.AutoSeq1 (wpAny_loadPart')
open PySem.MeetsSeq PySem.MeetsSeq2 PySem.MeetsSeq3
end
section
variable {prog:Program} {w:World} {A:Around} {E:Value→Shared→Prop} {s:Shared}
noncomputable def sIx (n d:Nat):Option Int→Nat
 | none=>d
 | some v=>if v < 0 then (v + (n:Int)).toNat else min v.toNat n
theorem sIx_none (n d:Nat):sIx n d none=d:=rfl
theorem sIx_nat (n d k:Nat):sIx n d (some (k:Int))=min k n:=by
 show (if (k:Int) < 0 then ((k:Int) + (n:Int)).toNat else min (k:Int).toNat n)=min k n
 rw[if_neg (by omega),Int.toNat_natCast]
end
end HT
namespace L2
open PySem PySem.Spec PyProof.Rows
noncomputable abbrev TO:=St→Hp→(Option Int→Hp→Prop)→Prop
noncomputable def PO (X:Cx) (e:Option Expr) (t:TO):Prop:=
 ∀(pins:List (Addr×Obj)) (s:Shared) (σ:St) (H:Hp) (Q:Option Int→Hp→Prop),Inv X pins σ H s→t σ H Q→
  wpAny (model X.prog X.w) X.A (evalPart e X.env) (fun u s'=>∃o H',Inv X pins σ H' s'∧IsPart u o∧Q o H') X.xe s
noncomputable def tNoPart:TO:=fun _ H Q=>Q none H
noncomputable def tPart (t:TE):TO:=fun σ H Q=>t σ H fun x H1=>∃i,x=.int i∧Q (some i) H1
section
variable {X:Cx} {e:Expr} {te:TE} {lo hi:Option Expr} {tl th:TO} {pos p2:Pos}
theorem po_none:PO X none tNoPart:=by
 intro pins s σ H Q I h
 rw[evalPart_none]
 exact wpAny_pure ⟨none,H,I,.none,h⟩
theorem po_some (h:PE X e te):PO X (some e) (tPart te):=by
 intro pins s σ H Q I hw
 rw[evalPart_some]
 refine thn (h pins s σ H _ I hw) fun u s1 ⟨x,H1,I1,r1,q1⟩=>?_
 obtain ⟨i,rfl,q⟩:=q1
 obtain ⟨t,rfl⟩:=r1
 exact ⟨some i,H1,I1,.int i t,q⟩
noncomputable def SlR (X:Cx) (r:V→Option Int→Option Int→Hp→VK→Prop):Prop:=
 ∀(pins:List (Addr×Obj)) (s:Shared) (σ:St) (H:Hp) (x:V) (v vl vu:Value) (lo hi:Option Int) (sl:Addr) (Q:VK),Inv X pins σ H s→RelV x v→s.heap.IsSliceOf sl vl vu .none→IsPart vl lo→IsPart vu hi→r x lo hi H Q→
  ∃T id,typeLookup (.type T) "__getitem__"=pure (some (.builtin id))∧s.TypeIs v T∧wpAny (model X.prog X.w) X.A (getItem v (.ref sl)) (EP X pins σ Q) X.xe s
noncomputable def tSl (r:V→Option Int→Option Int→Hp→VK→Prop) (te:TE) (tl th:TO):TE:=fun σ H Q=>te σ H fun x H1=>tl σ H1 fun l H2=>th σ H2 fun u H3=>r x l u H3 Q
theorem pe_slice {r:V→Option Int→Option Int→Hp→VK→Prop} (hr:SlR X r) (he:PE X e te) (hl:PO X lo tl) (hu:PO X hi th):PE X (.Subscript e (.Slice lo hi none p2) pos) (tSl r te tl th):=by
 intro pins s σ H Q I h
 refine Subscript_ (thn (he pins s σ H _ I h) fun v s1 ⟨x,H1,I1,r1,q1⟩=>?_)
 refine wpAny_Slice (thn (hl pins s1 σ H1 _ I1 q1) fun vl s2 ⟨l,H2,I2,pl,q2⟩=>thn (hu pins s2 σ H2 _ I2 q2) fun vu s3 ⟨u,H3,I3,pu,q3⟩=>?_)
 rw[evalPart_none]
 refine wpAny_pure ?_
 have I4:Inv X pins σ H3 {s3 with heap:=s3.heap.push {cls:=.type "slice",data:=.fields #[vl,vu,.none]}}:=I3.kept (t':=s3.toks) fun b ob q=>Heap.get?_push_of_some _ q
 obtain ⟨T,id,hT,ht,hg⟩:=hr pins {s3 with heap:=s3.heap.push {cls:=.type "slice",data:=.fields #[vl,vu,.none]}} σ H3 x v vl vu l u s3.heap.objs.size Q I4 r1 (Heap.IsSliceOf.new ..) pl pu q3
 show wpAny (model X.prog X.w) X.A (subscriptTail e (.Slice lo hi none p2) v (.ref s3.heap.objs.size)) (EP X pins σ Q) X.xe {s3 with heap:=s3.heap.push {cls:=.type "slice",data:=.fields #[vl,vu,.none]}}
 exact tail_any (ops:=[.ref s3.heap.objs.size,v]) ht hT hg (by with_unfolding_all rfl)
noncomputable def cutV (xs:List V) (lo hi:Option Int):List V:=(xs.drop (HT.sIx xs.length 0 lo)).take (HT.sIx xs.length xs.length hi - HT.sIx xs.length 0 lo)
theorem cutV_length (xs:List V) (lo hi:Option Int):(cutV xs lo hi).length≤xs.length:=by
 unfold cutV
 rw[List.length_take,List.length_drop]
 omega
end
end L2
namespace L2
open PySem PySem.Spec PyProof.Rows
section
noncomputable def ixN (n:Nat) (i:Int):Option Nat:=if 0≤i then (if i < n then some i.toNat else none) else if -(n:Int)≤i then some (i + n).toNat else none
noncomputable def atI {α:Type} (xs:List α) (i:Int):Option α:=(ixN xs.length i).bind fun j=>xs[j]?
theorem ixN_seq {n:Nat} {i:Int} {j:Nat} (h:ixN n i=some j):seqIndex? i n=some j∧j < n∧-(n:Int)≤i∧i < n:=by
 unfold ixN at h
 by_cases h0:0≤i
 ·rw[if_pos h0]at h
  by_cases h1:i < n
  ·rw[if_pos h1]at h
   have e:i.toNat=j:=Option.some.inj h
   exact ⟨by rw[seqIndex_of h0 h1,e],by omega,by omega,h1⟩
  ·rw[if_neg h1]at h;cases h
 ·rw[if_neg h0]at h
  by_cases h1:-(n:Int)≤i
  ·rw[if_pos h1]at h
   have e:(i + n).toNat=j:=Option.some.inj h
   exact ⟨by rw[seqIndex_neg (by omega) h1,e],by omega,h1,by omega⟩
  ·rw[if_neg h1]at h;cases h
theorem atI_get {α:Type} {xs:List α} {i:Int} {v:α} (h:atI xs i=some v):∃j,seqIndex? i xs.length=some j∧xs[j]?=some v∧j < xs.length∧-(xs.length:Int)≤i∧i < xs.length:=by
 unfold atI at h
 cases e:ixN xs.length i with
 | none=>rw[e]at h;cases h
 | some j=>
  rw[e]at h
  obtain ⟨h1,h2,h3,h4⟩:=ixN_seq e
  exact ⟨j,h1,h,h2,h3,h4⟩
theorem atI_nat {α:Type} {xs:List α} {j:Nat} {v:α} (h:xs[j]?=some v):atI xs (j:Int)=some v:=by
 have hj:j < xs.length:=(List.getElem?_eq_some_iff.mp h).1
 have e:ixN xs.length (j:Int)=some j:=by
  unfold ixN
  rw[if_pos (by omega),if_pos (by omega)];simp
 unfold atI;rw[e];exact h
noncomputable def PlainIx (b:Expr):Prop:=∀o i,subscripted b false o i=operate [o,i] (getItem o i)
noncomputable def IxR (X:Cx) (r:R2):Prop:=
 ∀(value slice:Expr) (pins:List (Addr×Obj)) (s:Shared) (σ:St) (H:Hp) (x y:V) (v u:Value) (Q:VK),Inv X pins σ H s→RelV x v→RelV y u→r x y H Q→
  subscripted slice false v u=operate [v,u] (getItem v u)→wpAny (model X.prog X.w) X.A (subscriptTail value slice v u) (EP X pins σ Q) X.xe s
noncomputable def MtR (X:Cx) (id:String) (r:V→List V→Hp→VK→Prop):Prop:=
 ∀(pins:List (Addr×Obj)) (s:Shared) (σ:St) (H:Hp) (x:V) (xs:List V) (v:Value) (us:List Value) (Q:VK),Inv X pins σ H s→RelV x v→Vals xs us→r x xs H Q→
  wpAny (model X.prog X.w) X.A (call (.builtin id) (v::us)) (EP X pins σ Q) X.xe s
section
variable {X:Cx} {a b:Expr} {ta tb:TE} {pos:Pos}
theorem pe_ix {r:R2} (hr:IxR X r) (ha:PE X a ta) (hb:PE X b tb) (hs:PlainIx b):PE X (.Subscript a b pos) (tOp r ta tb):=by
 intro pins s σ H Q I h
 exact Subscript_ (binT ha hb I h fun v u s2 x y H2 I2 rx ry q=>hr a b pins s2 σ H2 x y v u Q I2 rx ry q (hs _ _))
noncomputable def rIxL (K:W.Frag):R2:=fun x y H Q=>∃p xs i v,x=.ref p∧y=.int i∧SqL K H p xs∧atI xs i=some v∧Q v H
theorem ix_list:IxR X (rIxL X.K):=by
 intro value slice pins s σ H x y v u Q I rx ry h hs
 obtain ⟨p,xs,i,z,rfl,rfl,hq,he,q⟩:=h
 cases rx
 obtain ⟨t,rfl⟩:=ry
 obtain ⟨its,r,pl,hz⟩:=I.list hq
 obtain ⟨j,h1,h2,h3,h4,h5⟩:=atI_get he
 obtain ⟨w,ew,rw'⟩:=r.get h2
 have hl:=r.length
 have hn:=line63
 have fin:EP X pins σ Q w s:=⟨z,H,I,rw',q⟩
 by_cases h0:0≤i
 ·have hj : i.toNat = j := by
   rw[seqIndex_of h0 h5]at h1
   exact Option.some.inj h1
  exact item_listR pl.isList h0 (by omega) (by rw[hj];simpa using ew) fin hs
 ·have hj : (i + (its.toArray.size : Int)).toNat = j := by
   rw[seqIndex_neg (by omega) h4]at h1
   rw[List.size_toArray,←hl]
   exact Option.some.inj h1
  exact subscriptTail_builtinR (x:=w) pl.isList.typeIs slot_list_getitem.lookup
   (wpAny_getItem_list_neg (Q:=fun r s'=>r=w∧EP X pins σ Q r s') pl.isList (by omega) (by rw[List.size_toArray] <;> omega) (by omega) (by rw[hj];simpa using ew) ⟨rfl,fin⟩) hs
theorem mapSeq_set (its:List Value) (n j:Nat) (u:Value):Obj.mapSeq (·.setIfInBounds j u) {cls:=.type "list",data:=.seq its.toArray n}={cls:=.type "list",data:=.seq (its.set j u).toArray n}:=by
 simp[Obj.mapSeq]
theorem Inv.lst {pins : List (Addr × Obj)} {σ : St} {H : Hp} {s : Shared} {p : Addr} {xs : List V} (I : Inv X pins σ H s) (h : H p = some (.lst xs)) :
  ∃(its:List Value) (n:Nat),Vals xs its∧s.heap.get? p=some {cls:=.type "list",data:=.seq its.toArray n}∧xs.length≤sizeLine:=by
 obtain ⟨z,its,n,r,e⟩:=I.hok p _ h
 exact ⟨its,n,r,e,z⟩
theorem Inv.lstUpd {pins : List (Addr × Obj)} {σ : St} {H : Hp} {s : Shared} {p : Addr} {xs ys : List V} {its its' : List Value} {n n' : Nat} {f : Obj → Obj} (I : Inv X pins σ H s) (h : H p = some (.lst xs))
  (ho:s.heap.get? p=some {cls:=.type "list",data:=.seq its.toArray n}) (hf:f {cls:=.type "list",data:=.seq its.toArray n}={cls:=.type "list",data:=.seq its'.toArray n'}) (r:Vals ys its') (hz:ys.length≤sizeLine) (t:Nat) :
  Inv X pins σ (upd H p (.lst ys)) {s with heap:=s.heap.update p f,toks:=t}:=by
 have e:(s.heap.update p f).get? p=some {cls:=.type "list",data:=.seq its'.toArray n'}:=by
  rw[Heap.get?_update_self f ho (by rw[hf] <;> rfl),hf]
 refine I.write (x:=p) (e:=p) (by rw[h];trivial) (.inl rfl) (fun b u hb q=>(Heap.get?_update_other _ _ (Ne.symm hb)).trans q) ⟨_,e⟩ ?_
 exact ⟨hz,its',n',r,e⟩
noncomputable def rSetL:V→V→V→Hp→(Hp→Prop)→Prop:=fun o i v H Q=>∃p xs k j,o=.ref p∧i=.int k∧H p=some (.lst xs)∧ixN xs.length k=some j∧Q (upd H p (.lst (xs.set j v)))
theorem set_list:PSet X rSetL:=by
 intro pins s σ H o i v ov iv u Q I ro ri rv h
 obtain ⟨p,xs,k,j,rfl,rfl,hp,hj,q⟩:=h
 cases ro
 obtain ⟨t,rfl⟩:=ri
 obtain ⟨its,n,r,ho,hz⟩:=I.lst hp
 obtain ⟨h1,h2,h3,h4⟩:=ixN_seq hj
 have hl:=r.length
 have hn:=line63
 have I':Inv X pins σ (upd H p (.lst (xs.set j v))) {s with heap:=s.heap.update p (Obj.mapSeq (·.setIfInBounds j u))}:=
  I.lstUpd hp ho (mapSeq_set its n j u) (r.set rv j) (by rw[List.length_set];exact hz) s.toks
 by_cases h0:0≤k
 ·have hk : k.toNat = j := by
   rw[seqIndex_of h0 h4]at h1
   exact Option.some.inj h1
  exact PySem.W.ki_setAt ho h0 (by omega) (by rw[List.size_toArray,←hl];exact h4) (by rw[hk];exact ⟨_,I',q⟩)
 ·have hk : (k + (its.toArray.size : Int)).toNat = j := by
   rw[seqIndex_neg (by omega) h3]at h1
   rw[List.size_toArray,←hl]
   exact Option.some.inj h1
  exact PySem.W.ki_setBack ho (by omega) (by rw[List.size_toArray,←hl];exact h3) (by omega) (by rw[hk];exact ⟨_,I',q⟩)
theorem slice_bounds (lo hi:Option Int) (n:Nat):(sliceBounds lo hi none n).1=((HT.sIx n 0 lo:Nat):Int)∧(sliceBounds lo hi none n).2.1=((HT.sIx n n hi:Nat):Int)∧(sliceBounds lo hi none n).2.2=1:=by
 refine ⟨?_,?_,rfl⟩
 ·cases lo with
  | none=>simp[sliceBounds,HT.sIx]
  | some i=>
   simp only[sliceBounds,HT.sIx,Option.getD_none,show (1:Int) > 0 by decide,if_true]
   by_cases h:i < 0
   ·simp only[h,if_true] <;> omega
   ·simp only[h,if_false] <;> omega
 ·cases hi with
  | none=>simp[sliceBounds,HT.sIx]
  | some i=>
   simp only[sliceBounds,HT.sIx,Option.getD_none,show (1:Int) > 0 by decide,if_true]
   by_cases h:i < 0
   ·simp only[h,if_true] <;> omega
   ·simp only[h,if_false] <;> omega
theorem slicePick_cut (its:List Value) (lo hi:Option Int):slicePick its.toArray lo hi none=((its.drop (HT.sIx its.length 0 lo)).take (HT.sIx its.length its.length hi - HT.sIx its.length 0 lo)).toArray:=by
 obtain ⟨h1,h2,h3⟩:=slice_bounds lo hi its.toArray.size
 unfold slicePick
 rw[h1,h2,h3]
 simp only[sliceRange_one,pick_run,List.size_toArray] <;> rfl
noncomputable def rSlL (K:W.Frag):V→Option Int→Option Int→Hp→VK→Prop:=fun x lo hi H Q=>∃a xs,x=.ref a∧SqL K H a xs∧∀p,H p=none→Q (.ref p) (upd H p (.lst (cutV xs lo hi)))
theorem sl_list:SlR X (rSlL X.K):=by
 intro pins s σ H x v vl vu lo hi sl Q I rx hs pl pu h
 obtain ⟨a,xs,rfl,hx,q⟩:=h
 cases rx
 obtain ⟨its,r,ht,hz⟩:=I.list hx
 have hlen:=r.length
 refine ⟨"list",_,slot_list_getitem.lookup,ht.isList.typeIs,?_⟩
 refine wpAny_getItem_list_slice ht.isList hs pl pu .none (by simp) ?_ (by rw[List.size_toArray] <;> omega)
 rw[slicePick_cut,←hlen]
 refine ⟨.ref s.heap.objs.size,_,I.laid (t':=s.toks) (o:=.lst (cutV xs lo hi)) (fun b ob q=>Heap.get?_push_of_some _ q) (Nat.le_refl _) ?_,rfl,q _ (I.hok.fresh (Nat.le_refl _))⟩
 exact ⟨Nat.le_trans (cutV_length xs lo hi) hz,_,0,(r.drop (HT.sIx xs.length 0 lo)).take (HT.sIx xs.length xs.length hi - HT.sIx xs.length 0 lo),Heap.get?_push_size _ rfl⟩
noncomputable def flatV:V→Bool
 | .non=>true
 | .bl _=>true
 | .int _=>true
 | .str _=>true
 | _=>false
noncomputable def eqV:V→V→Bool
 | .non,.non=>true
 | .bl a,.bl b=>a == b
 | .bl a,.int b=>(if a then 1 else 0) == b
 | .int a,.bl b=>a == (if b then 1 else 0)
 | .int a,.int b=>a == b
 | .str a,.str b=>a == b
 | _,_=>false
theorem eqAt_V {A:Around} {s:Shared} {y x:V} {u v:Value} (ry:RelV y u) (rx:RelV x v) (fy:flatV y=true) (fx:flatV x=true):SeqAt.EqAt A s u v (eqV y x):=by
 cases y with
 | non=>
  cases ry
  cases x with
  | non=>cases rx;exact SeqAt.EqAt.same _
  | bl b=>cases rx;exact SeqAt.EqAt.none_bool b
  | int b=>obtain ⟨t,rfl⟩:=rx;exact SeqAt.EqAt.none_int b t
  | str b=>obtain ⟨t,rfl⟩:=rx;exact SeqAt.EqAt.none_str b t
  | _=>exact absurd (show false=true from fx) Bool.false_ne_true
 | bl a=>
  cases ry
  cases x with
  | non=>cases rx;exact SeqAt.EqAt.bool_none a
  | bl b=>cases rx;exact SeqAt.EqAt.bool_bool a b
  | int b=>obtain ⟨t,rfl⟩:=rx;exact SeqAt.EqAt.bool_int a b t
  | str b=>obtain ⟨t,rfl⟩:=rx;exact SeqAt.EqAt.bool_str a b t
  | _=>exact absurd (show false=true from fx) Bool.false_ne_true
 | int a=>
  obtain ⟨t',rfl⟩:=ry
  cases x with
  | non=>cases rx;exact SeqAt.EqAt.int_none a t'
  | bl b=>cases rx;exact SeqAt.EqAt.int_bool a t' b
  | int b=>obtain ⟨t,rfl⟩:=rx;exact SeqAt.EqAt.int_int a t' b t
  | str b=>obtain ⟨t,rfl⟩:=rx;exact SeqAt.EqAt.int_str a t' b t
  | _=>exact absurd (show false=true from fx) Bool.false_ne_true
 | str a=>
  obtain ⟨t',rfl⟩:=ry
  cases x with
  | non=>cases rx;exact SeqAt.EqAt.str_none a t'
  | bl b=>cases rx;exact SeqAt.EqAt.str_bool a t' b
  | int b=>obtain ⟨t,rfl⟩:=rx;exact SeqAt.EqAt.str_int a t' b t
  | str b=>obtain ⟨t,rfl⟩:=rx;exact SeqAt.EqAt.str_str a t' b t
  | _=>exact absurd (show false=true from fx) Bool.false_ne_true
 | _=>exact absurd (show false=true from fy) Bool.false_ne_true
noncomputable def eqU (x:V) (u:Value):Bool:=match u with
 | .none=>eqV .non x
 | .bool b=>eqV (.bl b) x
 | .int i _=>eqV (.int i) x
 | .str z _=>eqV (.str z) x
 | _=>false
theorem eqU_of {x y:V} {u:Value} (r:RelV y u) (f:flatV y=true):eqU x u=eqV y x:=by
 cases y with
 | non=>cases r;rfl
 | bl b=>cases r;rfl
 | int i=>obtain ⟨t,rfl⟩:=r;rfl
 | str z=>obtain ⟨t,rfl⟩:=r;rfl
 | _=>exact absurd (show false=true from f) Bool.false_ne_true
theorem any_eqU {x:V}:∀{xs:List V} {us:List Value},Vals xs us→xs.all flatV=true→us.any (eqU x)=xs.any fun y=>eqV y x
 | _,_,.nil,_=>rfl
 | y::xs,u::us,.cons r t,f=>by
  rw[List.all_cons,Bool.and_eq_true]at f
  rw[List.any_cons,List.any_cons,eqU_of r f.1,any_eqU t f.2]
theorem mem_eqAt {A:Around} {s:Shared} {x:V} {v:Value} (rx:RelV x v) (fx:flatV x=true):∀{xs:List V} {us:List Value},Vals xs us→xs.all flatV=true→∀u∈us,SeqAt.EqAt A s u v (eqU x u)
 | _,_,.nil,_=>fun u hu=>by cases hu
 | y::xs,u::us,.cons r t,f=>fun u' hu=>by
  rw[List.all_cons,Bool.and_eq_true]at f
  rcases List.mem_cons.mp hu with rfl | hu
  ·rw[eqU_of r f.1];exact eqAt_V r rx f.1 fx
  ·exact mem_eqAt rx fx t f.2 u' hu
noncomputable def inV (x:V) (xs:List V):Bool:=xs.any fun y=>eqV y x
noncomputable def rIn (K:W.Frag) (neg:Bool):R2:=fun x y H Q=>∃p xs,y=.ref p∧(SqL K H p xs∨SqT K H p xs)∧flatV x=true∧xs.all flatV=true∧Q (.bl (if neg then !inV x xs else inV x xs)) H
theorem op_in_seq:OpR X (compareOp .In) (rIn X.K false):=by
 intro pins s σ H x y v u Q I rx ry h
 obtain ⟨p,xs,rfl,hq,fx,fs,q⟩:=h
 cases ry
 rcases hq with hq | hq
 ·obtain ⟨its,r,pl,hz⟩:=I.list hq
  refine SeqAt.in_listAt (eqU x) pl.isList (fun w hw=>mem_eqAt rx fx r fs w (by simpa using hw)) ⟨.bl _,H,I,rfl,?_⟩
  rw[show its.toArray.any (eqU x)=its.any (eqU x) by simp,any_eqU r fs]
  exact q
 ·obtain ⟨its,r,pl,hz⟩:=I.tuple hq
  refine SeqAt.in_tupleAt (eqU x) pl (fun w hw=>mem_eqAt rx fx r fs w (by simpa using hw)) ⟨.bl _,H,I,rfl,?_⟩
  rw[show its.toArray.any (eqU x)=its.any (eqU x) by simp,any_eqU r fs]
  exact q
theorem call_len_seq:CallR X (.builtin "len") (fun xs H Q=>∃p ys,xs=[.ref p]∧(SqL X.K H p ys∨SqT X.K H p ys)∧Q (.int ys.length) H):=by
 intro pins s σ H xs us Q I r h
 obtain ⟨p,ys,rfl,hq,q⟩:=h
 obtain ⟨u,rfl,rx⟩:=vals1 r
 cases rx
 have hn:=line63
 rcases hq with hq | hq
 ·obtain ⟨its,r',pl,hz⟩:=I.list hq
  have hlen:=r'.length
  exact Calls.call_len_list pl.isList (by simp only[List.size_toArray] <;> omega) ⟨.int ys.length,H,I.tok _,⟨s.toks + 1,by rw[List.size_toArray,hlen]⟩,q⟩
 ·obtain ⟨its,r',pl,hz⟩:=I.tuple hq
  have hlen:=r'.length
  exact len_tuple pl (by simp only[List.size_toArray] <;> omega) ⟨.int ys.length,H,I.tok _,⟨s.toks + 1,by rw[List.size_toArray,hlen]⟩,q⟩
noncomputable def tyV (K:W.Frag) (T:String) (x:V) (H:Hp):Prop:=match x with
 | .str _=>T="str"
 | .int _=>T="int"
 | .ref p => (T = "list" ∧ ∃ xs, SqL K H p xs) ∨ (T = "tuple" ∧ ∃ o, K.lookup p = some o ∧ o.cls = .type "tuple" ∧ o.dict = none) ∨
   (T="dict"∧((∃kvs,H p=some (.dK kvs))∨∃kvs,H p=some (.dT kvs)))∨(T="set"∧∃S n,H p=some (.set S n))
 | _=>False
theorem tyV_is {pins : List (Addr × Obj)} {σ : St} {H : Hp} {s : Shared} {T : String} {x : V} {v : Value} (I : Inv X pins σ H s) (r : RelV x v) (ty : tyV X.K T x H) :
  s.TypeIs v T∧∀a,v=.ref a→∃ob,s.heap.get? a=some ob∧ob.dict=none:=by
 cases x with
 | str z=>
  obtain ⟨t,rfl⟩:=r
  cases (show T="str" from ty)
  exact ⟨typeIs_str s z t,fun _ e=>nomatch e⟩
 | int i=>
  obtain ⟨t,rfl⟩:=r
  cases (show T="int" from ty)
  exact ⟨typeIs_int s i t,fun _ e=>nomatch e⟩
 | ref p=>
  cases r
  rcases ty with ⟨rfl,xs,hq⟩ | ⟨rfl,o,hk,hc,hd⟩ | ⟨rfl,hk⟩ | ⟨rfl,S,n,hk⟩
  ·obtain ⟨its,_,pl,_⟩:=I.list hq
   refine ⟨pl.isList.typeIs,fun a e=>?_⟩
   cases e
   obtain ⟨o,n,e,c,hd,_⟩:=pl
   exact ⟨o,e,hd⟩
  ·refine ⟨⟨o,I.kIn p o hk,hc⟩,fun a e=>?_⟩
   cases e
   exact ⟨o,I.kIn _ o hk,hd⟩
  ·have z : ∃ o, s.heap.get? p = some o ∧ o.ExactDict := by
    rcases hk with ⟨kvs,hk⟩ | ⟨kvs,hk⟩
    ·obtain ⟨_,_,_,_,o,_,_,e,ex,_⟩:=I.hok p _ hk
     exact ⟨o,e,ex⟩
    ·obtain ⟨_,_,_,_,o,_,_,e,ex,_⟩:=I.hok p _ hk
     exact ⟨o,e,ex⟩
   obtain ⟨o,e,ex⟩:=z
   refine ⟨⟨o,e,ex.1⟩,fun a e2=>?_⟩
   cases e2
   exact ⟨o,e,ex.2.1⟩
  ·obtain ⟨o,_,_,_,e,ex,_⟩:=I.hok p _ hk
   refine ⟨⟨o,e,ex.1⟩,fun a e2=>?_⟩
   cases e2
   exact ⟨o,e,ex.2.1⟩
 | _=>exact False.elim ty
noncomputable def tBM (K:W.Frag) (T:String) (r:V→List V→Hp→VK→Prop) (to:TE) (t:TA):TE:=fun σ H Q=>to σ H fun x H1=>tyV K T x H1∧t σ H1 fun xs H2=>r x xs H2 Q
variable {o e:Expr} {es:List Expr} {to:TE} {t:TA} {name:Str} {apos cpos:Pos} {T id:String} {r:V→List V→Hp→VK→Prop}
theorem pe_bm (pa : PlainAttrs T) (slot : Slot T name id) (hty : typeOf (.builtin id) = pure (.type "method_descriptor")) (hm : MtR X id r) (ho : PE X o to) (ha : PA X (e :: es) t)
  (hbase:attributeBase o name X.env (eval o X.env)=eval o X.env:=by rfl)
  (hfew:((backTo cpos (starEach (e::es) X.env)).all (fun x=>!x.1) && (backToKw cpos (keywordEach [] X.env)).all (fun x=>x.1.isSome)
   && decide ((e::es).length + ([]:List Keyword).length + (if ([]:List Keyword).isEmpty then 0 else 1) < 30))=true:=by rfl)
  (hline:(apos.endLine == cpos.line)=true:=by rfl) (hs:starEach (e::es) X.env=(false,eval e X.env)::starEach es X.env:=by rfl) (hplain:(backTo cpos (starEach es X.env)).any (·.1)=false:=by rfl) :
  PE X (.Call (.Attribute o name apos) (e::es) [] cpos) (tBM X.K T r to t):=by
 intro pins s σ H Q I h
 refine wpAny_Call_method_late hbase hfew hline rfl (thn (ho pins s σ H _ I h) fun v s1 ⟨x,H1,I1,r1,ty,q1⟩=>?_)
 obtain ⟨h1,h2⟩:=tyV_is I1 r1 ty
 refine ⟨T,id,pa,slot,hty,h1,h2,?_⟩
 have hA:=ha cpos pins s1 σ H1 _ I1 q1
 rw[hs]at hA ⊢
 refine Calls.callWith_builtin (by show (false || (backTo cpos (starEach es X.env)).any (·.1))=false;rw[hplain] <;> rfl) (Calls.evalArgs_plain ?_)
 exact thn hA fun us s2 ⟨vs,H2,I2,r2,q2⟩=>hm pins s2 σ H2 x vs v us Q I2 r1 r2 q2
end
end
end L2
namespace L2
open PySem PySem.Spec PyProof.Rows
noncomputable def MtM (X:Cx) (id:String) (r:V→List V→Hp→VK→Prop):Prop:=
 ∀(pins:List (Addr×Obj)) (s:Shared) (σ:St) (H:Hp) (x:V) (xs:List V) (v:Value) (us:List Value) (Q:VK),Inv X pins σ H s→RelV x v→Vals xs us→r x xs H Q→
  wpAny (model X.prog X.w) X.A (call (.builtin id) (v::us)) (EP X pins σ Q) X.xe s
theorem Vals.one:∀{x:V} {us:List Value},Vals [x] us→∃u,us=[u]∧RelV x u
 | _,_,.cons r .nil=>⟨_,rfl,r⟩
section
variable {X:Cx} {pins:List (Addr×Obj)} {σ:St} {H:Hp} {s:Shared} {l b:Addr} {xs ys zs:List V}
theorem Inv.lset {its its' : List Value} {n : Nat} {f : Array Value → Array Value} {t' : Nat} (I : Inv X pins σ H s) (hH : H l = some (.lst xs))
  (e:s.heap.get? l=some {cls:=.type "list",data:=.seq its.toArray n}) (hf:f its.toArray=its'.toArray) (hv:Vals ys its') (hz:ys.length≤sizeLine) :
  Inv X pins σ (upd H l (.lst ys)) {s with heap:=s.heap.update l (Obj.mapSeq f),toks:=t'}:=by
 have q:=PySem.IsL.update e f
 rw[hf]at q
 refine I.write (x:=l) (e:=l) (by rw[hH];exact trivial) (.inl rfl) (fun b' u hb hu=>(Heap.get?_update_other s.heap (Obj.mapSeq f) (Ne.symm hb)).trans hu) ⟨_,q⟩ ?_
 exact ⟨hz,its',_,hv,q⟩
theorem Inv.lnew {its : List Value} {t' : Nat} (I : Inv X pins σ H s) (hv : Vals ys its) (hz : ys.length ≤ sizeLine) :
  Inv X pins σ (upd H s.heap.objs.size (.lst ys)) {s with heap:=s.heap.push {cls:=.type "list",data:=.seq its.toArray},toks:=t'}:=
 I.laid (fun _ _ q=>Heap.get?_push_of_some _ q) (Nat.le_refl _) ⟨hz,its,0,hv,Heap.get?_push_size _ rfl⟩
theorem Inv.fresh (I:Inv X pins σ H s):H s.heap.objs.size=none:=I.hok.fresh (Nat.le_refl _)
theorem Inv.lstM (I:Inv X pins σ H s) (hH:H l=some (.lst xs)):xs.length≤sizeLine∧∃(its:List Value) (n:Nat),Vals xs its∧xs.length=its.length∧s.heap.get? l=some {cls:=.type "list",data:=.seq its.toArray n}:=by
 obtain ⟨z,its,n,r,e⟩:=I.hok l _ hH
 exact ⟨z,its,n,r,r.length,e⟩
end
section
variable {X:Cx}
noncomputable def rAppend:V→List V→Hp→VK→Prop:=fun x vs H Q=>∃l xs y,x=.ref l∧vs=[y]∧H l=some (.lst xs)∧xs.length < sizeLine∧Q .non (upd H l (.lst (xs ++ [y])))
theorem mt_append:MtM X "list.append" rAppend:=by
 intro pins s σ H x vs v us Q I rx rv h
 obtain ⟨l,xs,y,rfl,rfl,hH,hz,q⟩:=h
 cases rx
 obtain ⟨u,rfl,ru⟩:=rv.one
 obtain ⟨z,its,n,r,hl,e⟩:=I.lstM hH
 refine call_meets F.slot_list_append ⟨_,e,rfl⟩ F.entry_list_append (F.args_list_append_2 _ _) (PySem.list_append l its.toArray n u (by rw[List.size_toArray];omega)) ⟨e,?_⟩
 refine ⟨.non,_,I.lset (its':=its ++ [u]) hH e (by simp) (r.append (.cons ru .nil)) ?_,rfl,q⟩
 rw[List.length_append,List.length_singleton]
 omega
noncomputable def rCat:R2:=fun x y H Q=>∃l b xs zs,x=.ref l∧y=.ref b∧H l=some (.lst xs)∧H b=some (.lst zs)∧xs.length + zs.length≤sizeLine∧∀p,H p=none→Q (.ref p) (upd H p (.lst (xs ++ zs)))
theorem op_cat:OpR X (binaryOp .Add) rCat:=by
 intro pins s σ H x y v u Q I rx ry h
 obtain ⟨l,b,xs,zs,rfl,rfl,hH,hB,hz,q⟩:=h
 cases rx
 cases ry
 obtain ⟨z,its,n,r,hl,e⟩:=I.lstM hH
 obtain ⟨z2,its2,n2,r2,hl2,e2⟩:=I.lstM hB
 refine PySem.P.add_list e e2 ?_ (by rw[List.size_toArray,List.size_toArray];omega)
 have ea:its.toArray ++ its2.toArray=(its ++ its2).toArray:=by simp
 rw[ea]
 exact ⟨.ref _,_,I.lnew (t':=s.toks) (r.append r2) (by rw[List.length_append];omega),rfl,q _ I.fresh⟩
end
section
variable {prog:Program} {w:World} {A:Around} {E:Value→Shared→Prop} {s:Shared}
end
section
variable {X:Cx}
end
end L2
namespace Att
open PySem PySem.W PySem.Calls PyProof.Rows
theorem ints_of_wellAll {P:Params} {h:Heap}:∀(ns:List Int) (vs:List Value),WellAll P h vs (ns.map WData.int)→IntsAre vs ns:=by
 intro ns
 induction ns with
 | nil=>
  intro vs w
  rw[List.map_nil]at w
  cases w
  exact .nil
 | cons n ns ih=>
  intro vs w
  rw[List.map_cons]at w
  cases w with
  | cons a b=>
   cases a
   exact .cons _ _ (ih _ b)
theorem script_of {l : OpenLaw} {n : Nat} (hn : l.most = some n) {P : Params} {h : Heap} {args : List WData} {vals : List Value}
  (hpre:l.row.toRowW.claim.pre args=true) (hwl:WellAll P h vals args) :
  ∃a vs ns,vals=[Value.ref a]∧args=[WData.list (ns.map WData.int)]∧h.get? a=some {cls:=.type "list",data:=.seq vs.toArray}∧IntsAre vs ns∧ns.length≤n:=by
 have hsh:WShape.hasAll [] args [.list .int]=true:=(pre_splitW hpre).1
 have hc:l.pre.holds [] {args:=args}=true:=(pre_splitW hpre).2
 obtain ⟨d,r,rfl,h1,h2⟩:=hasAllW_cons hsh
 obtain rfl:=hasAllW_nil h2
 obtain ⟨xs,rfl,h3⟩:=hasW_list h1
 obtain ⟨ns,rfl⟩:=items_int h3
 have hlen:ns.length≤n:=by
  unfold OpenLaw.pre at hc
  have h4:(WTm.not (.lt (.lit (.int (n:Int))) (.len (.arg 0)))).holds [] {args:=[.list (ns.map .int)]}=true:=by
   have h4:=(holds_andW hc).1
   rw[hn]at h4
   exact h4
  have h5:=condW_of h4 (w_not (w_lt w_lit (w_len_list (w_arg rfl))))
  rw[List.length_map]at h5
  refine Nat.le_of_not_lt fun q=>?_
  have q':(n:Int) < ((ns.length:Nat):Int):=by omega
  first
   | (rw[decide_eq_true q']at h5;exact absurd h5 (by decide))
   | (simp at h5;omega)
 cases hwl with
 | cons w1 w2=>
  cases w2
  cases w1 with
  | list ho hall=>exact ⟨_,_,ns,rfl,rfl,ho,ints_of_wellAll ns _ hall,hlen⟩
theorem post_true (l:OpenLaw) (args:List WData):l.row.toRowW.claim.post args (.bool true) args=true:=
 postW_of (r:=l.row.toRowW) (X:=(true == true))
  (show WShape.has [] (.bool true) .bool=true by first | rfl | decide | simp[WShape.has,WShape.arms,WShape.armsAll])
  (show (WTm.eq .res (.lit (.bool true))).value [] {args:=args,res:=some (.bool true),after:=args}=some (.bool (true == true)) from w_eq_bool (w_res rfl) w_lit) rfl
theorem attach_call {l : OpenLaw} {n : Nat} {q : Program} {loose : List Str} {XP : (Str → Option Value) → Heap → Prop} {YP : World → Heap → Prop} {d : DefRec}
  (hn:l.most=some n) (hdf:d.params.defaults=[])
  (call:∀(w:World) (s₀ s₁:Shared) (mg mb:Str→Option Value) (fa:Addr) (o:Obj) (pm cd doc:Value) (a:Addr) (vs:List Value) (ns:List Int),
   Ground q loose [] XP w s₀ mg mb s₁.heap→YP w s₁.heap→
   s₁.heap.get? fa=some o→o.data=.func (docDef d.name d.params d.body d.scope pm cd doc)→s₁.heap.CodeRec cd d.name→mg d.name=some (.ref fa)→
   s₁.heap.get? a=some {cls:=.type "list",data:=.seq vs.toArray}→IntsAre vs ns→ns.length≤n→s₁.gens=#[]→
   codeAny (model l.prog w) callerA (.call (.ref fa) ⟨[.ref a],[]⟩) (fun r s'=>r=.ok (.ret (.bool true))∧OldK s₁.heap s'.heap∧s'.os=s₁.os∧AllBare s'.gens) s₁) :
  WalkO q loose XP YP l.row.toRowW d [] (fun f vs=>PySem.call f vs):=by
 intro w s₀ s₁ mg mb G Y fa o pm cd doc dV kV ho hd hcd hD hmg hg args vals as hpre hlay hrd hwl hlo
 obtain rfl:dV=.none:=Dflts.none hD hdf
 obtain rfl:kV=.none:=Dflts.noKw hD
 obtain ⟨a,vs,ns,rfl,rfl,hobj,hints,hlen⟩:=script_of hn hpre hwl
 refine enter_call (codeAny_mono (call w s₀ s₁ mg mb fa o pm cd doc a vs ns G Y ho (fd_plain hd) hcd hmg hobj hints hlen hg) fun r s' hq=>?_)
 obtain ⟨rfl,h2,h3,h4⟩:=hq
 exact ⟨.inl ⟨.bool true,.bool true,[],rfl,fun _=>rfl,.bool true,post_true l _,fun _=>⟨List.Pairwise.nil,fun _ hm=>(nomatch hm)⟩⟩,h2,h3,h4⟩
section
variable {prog:Program} {w:World} {A:Around} {E:Value→Shared→Prop} {s:Shared} {K:Frag}
noncomputable def ledger (h:Heap) (L d:Addr):List (Addr×Obj):=(List.range h.objs.size).filterMap fun a=>if a=L∨a=d then none else (h.get? a).map fun o=>(a,o)
end
end Att
namespace L2
open PySem PySem.Spec PyProof.Rows
theorem vals_ints:∀{vs:List Value} {ns:List Int},IntsAre vs ns→Vals (ns.map V.int) vs
 | _,_,.nil=>.nil
 | _,_,.cons n t h=>.cons ⟨t,rfl⟩ (vals_ints h)
noncomputable def Only (H:Hp):Prop:=∀b,H b=none∨∃o xs,H b=some (.frz o (.lst xs))
theorem law_call {P : Program} {w : World} {K : W.Frag} {mg mb : Str → Option Value} {CX : CXT} {k : Nat} {fa a : Addr} {fd : FuncData} {x : Str} {sp : Sp} {s₁ : Shared} {vs : List Value} {ns : List Int}
  (KX:K.In s₁.heap) (hns:s₁.heap.Ns mainGlobals mg) (hb:s₁.heap.Ns builtinsNs mb) (hbb:∀x:Str,x≠"__name__"→mb x=bootBuiltins x) (hlim:s₁.heap.NoLimit) (hdig:s₁.heap.NoDigits) (hg:s₁.gens=#[])
  (ha:s₁.heap.get? a=some {cls:=.type "list",data:=.seq vs.toArray}) (hi:IntsAre vs ns) (hl:ns.length≤sizeLine) (hr:Room k callerA)
  (F:∀base:Heap,K.In base→base.Ns mainGlobals mg→FnOk P w K mg base CX k fa fd [x] sp) (hbind:∀(s:Shared) (u:Value),BindsTo s fd ⟨[u],[]⟩ [(x,u)])
  (hsp:∀H:Hp,Only H→SqL K H a (ns.map V.int)→sp [.ref a] H (fun v _=>v=.bl true) fun _ _ _=>False)
  (hCX:∀H e s',CX [] H s₁ (fun _ _ _=>False) e s'→False) :
  codeAny (model P w) callerA (.call (.ref fa) ⟨[.ref a],[]⟩) (fun r s'=>r=.ok (.ret (.bool true))∧OldK s₁.heap s'.heap∧s'.os=s₁.os∧AllBare s'.gens) s₁:=by
 have rv:=vals_ints hi
 have lenV:=hi.length
 have core : ∀ H : Hp, Only H → SqL K H a (ns.map V.int) → HOk P w H s₁.heap → (∀ b, H b ≠ none → b = a) → (H a ≠ none → K.lookup a = none) →
   codeAny (model P w) callerA (.call (.ref fa) ⟨[.ref a],[]⟩) (fun r s'=>r=.ok (.ret (.bool true))∧OldK s₁.heap s'.heap∧s'.os=s₁.os∧AllBare s'.gens) s₁:=by
  intro H hO hS hok hA hK
  have base_of:∀{b:Addr} {o:Obj},s₁.heap.get? b=some o→H b=none→(hidT s₁.heap H).get? b=some o:=fun e n=>hidT_get e n
  have noA:∀{b:Addr} {o:Obj} {es:Array DictEntry} {ep:Nat},s₁.heap.get? b=some o→o.data=.dict es ep→H b=none:=fun {b o es ep} e d=>by
   cases q:H b with
   | none=>rfl
   | some u=>
    have e':b=a:=hA b (by rw[q];simp)
    subst e'
    rw[ha]at e;cases e
    have d':Data.seq vs.toArray _=Data.dict es ep:=d
    cases d'
  have nsK:∀{b:Addr} {m:Str→Option Value},s₁.heap.Ns b m→(hidT s₁.heap H).Ns b m:=fun {b m} ⟨o,es,ep,e,d,r⟩=>⟨o,es,ep,base_of e (noA e d),d,r⟩
  have hKb:K.In (hidT s₁.heap H):=fun b o e=>base_of (KX b o e) (by
   cases q:H b with
   | none=>rfl
   | some u=>
    have e':b=a:=hA b (by rw[q];simp)
    subst e'
    rw[hK (by rw[q];simp)]at e;cases e)
  have hM:Mod K mg (hidT s₁.heap H):=⟨hKb,nsK hns,⟨mb,nsK hb,hbb⟩,let ⟨mc,h1,h2⟩:=hlim;⟨mc,nsK h1,h2⟩,let ⟨mc,h1,h2⟩:=hdig;⟨mc,nsK h1,h2⟩⟩
  have e0:Env0 P w K mg (hidT s₁.heap H) callerA [] s₁ H:=⟨rfl,hM,fun b o e=>of_hidT e,Nat.le_of_eq (hidT_size _ _),trivial,fun b hb=>absurd (show b∈([]:List Addr) from hb) (by simp),hok,.of_eq hg⟩
  refine codeAny_mono ((F _ hKb (nsK hns)).run callerA [] s₁ H ⟨[.ref a],[]⟩ [.ref a] [.ref a] _ _ hr e0 (hbind s₁ (.ref a)) (.cons rfl .nil) (hsp H hO hS)) fun r s' h=>?_
  cases r with
  | error e=>exact (hCX H e s' h).elim
  | ok fl=>
   cases fl with
   | next=>exact False.elim h
   | brk=>exact False.elim h
   | cont=>exact False.elim h
   | ret u=>
    obtain ⟨v,H',os,bare,un,hok',r',q⟩:=h
    have q':v=.bl true:=q
    subst q'
    obtain rfl:u=Value.bool true:=r'
    refine ⟨rfl,OldK.of_keep fun b o e=>?_,os,bare⟩
    cases q:H b with
    | none=>exact un.keep b o e q (by intro z;exact absurd (show b∈([]:List Addr) from z) (by simp)) (by simp)
    | some u=>
     rcases hO b with z | ⟨ob,xs,z⟩
     ·rw[q]at z;cases z
     ·have z2:=un.frzs b ob _ z
      obtain ⟨e1,_⟩:=hok b _ z
      obtain ⟨e2,_⟩:=hok' b _ z2
      rw[e]at e1;cases e1
      exact e2
 cases hk:K.lookup a with
 | some o=>
  have e:=KX a o hk
  rw[ha]at e
  cases e
  refine core (fun _=>none) (fun _=>.inl rfl) (.inr ⟨_,vs.toArray,_,hk,rfl,rfl,rfl,by rw[List.size_toArray,lenV];exact hl,by simpa using rv⟩) (fun b u z=>by have z':(none:Option HO)=some u:=z;cases z') (fun b z=>absurd rfl z) fun z=>absurd rfl z
 | none=>
  refine core (fun b=>if b=a then some (.frz {cls:=.type "list",data:=.seq vs.toArray} (.lst (ns.map V.int))) else none) (fun b=>?_) (.inl (.inr ⟨{cls:=.type "list",data:=.seq vs.toArray},if_pos rfl⟩)) (fun b u z=>?_) (fun b z=>?_) fun _=>hk
  ·by_cases hb:b=a
   ·exact .inr ⟨_,_,if_pos hb⟩
   ·exact .inl (if_neg hb)
  ·by_cases hb:b=a
   ·have z':=(if_pos hb).symm.trans z
    cases z'
    subst hb
    exact ⟨ha,by rw[List.length_map];exact hl,vs,_,rv,ha⟩
   ·have z':=(if_neg hb).symm.trans z
    cases z'
  ·by_cases hb:b=a
   ·exact hb
   ·exact absurd (if_neg hb) z
end L2
namespace L2
open PySem PySem.Spec PyProof.Rows
theorem walk_of {l : PySem.W.OpenLaw} {n k : Nat} {q : Program} {loose : List Str} {XP : (Str → Option Value) → Heap → Prop} {YP : World → Heap → Prop} {d : DefRec} {K : Params → PySem.W.Frag} {CX : World → CXT} {sp : World → Sp} {x : Str}
  (hn:l.most=some n) (hn2:n≤sizeLine) (hdf:d.params.defaults=[]) (hr:Room k callerA)
  (hY:∀(w:World) (h:Heap),YP w h→(K w.params).In h)
  (F:∀(w:World) (mg:Str→Option Value) (fa:Addr) (h:Heap),(K w.params).In h→h.Ns mainGlobals mg→mg d.name=some (.ref fa)→
   ∃fd:FuncData,(∀(s:Shared) (u:Value),BindsTo s fd ⟨[u],[]⟩ [(x,u)])∧
    ∀base:Heap,(K w.params).In base→base.Ns mainGlobals mg→FnOk l.prog w (K w.params) mg base (CX w) k fa fd [x] (sp w))
  (hsp:∀(w:World) (H:Hp) (a:Addr) (ns:List Int),ns.length≤n→Only H→SqL (K w.params) H a (ns.map V.int)→sp w [.ref a] H (fun v _=>v=.bl true) fun _ _ _=>False)
  (hCX:∀(w:World) (H:Hp) (s:Shared) (e:Value) (s':Shared),CX w [] H s (fun _ _ _=>False) e s'→False) :
  PySem.W.WalkO q loose XP YP l.row.toRowW d [] (fun f vs=>PySem.call f vs):=by
 refine Att.attach_call hn hdf fun w s₀ s₁ mg mb fa o pm cd doc a vs ns G Y ho hd hcd hmg hobj hints hlen hg=>?_
 have KX:=hY w _ Y
 obtain ⟨fd,hb,hF⟩:=F w mg fa _ KX G.T.g hmg
 exact law_call KX G.T.g G.T.b G.T.builtins G.T.nolimit G.T.nodigits hg hobj hints (Nat.le_trans hlen hn2) hr hF hb (fun H hO hS=>hsp w H a ns hlen hO hS) fun H e s'=>hCX w H s₁ e s'
section
noncomputable def inClass (s:Stmt) (j:Nat):Stmt:=match s with
 | .ClassDef _ _ _ body _ _ _ _ _ _ _=>body.getD j (.Pass ⟨0,0,0,0⟩)
 | _=>.Pass ⟨0,0,0,0⟩
noncomputable def defArgs (s:Stmt):Arguments:=match s with
 | .FunctionDef _ a _ _ _ _ _ _ _ _=>a
 | _=>{posonlyargs:=[],args:=[],vararg:=none,kwonlyargs:=[],kw_defaults:=[],kwarg:=none,defaults:=[]}
noncomputable def defBody (s:Stmt):List Stmt:=match s with
 | .FunctionDef _ _ b _ _ _ _ _ _ _=>b
 | _=>[]
noncomputable def defScope (s:Stmt):Scope:=match s with
 | .FunctionDef _ _ _ _ _ _ sc _ _ _=>sc
 | _=>{kind:=.function,names:=[],isGenerator:=false,isCoroutine:=false}
noncomputable abbrev CX0:CXT:=fun _ _ _ _ _ _=>False
noncomputable abbrev E0:XK:=fun _ _ _=>False
theorem pass0 {X:Cx}:Passes CX0 X E0:=fun _ _ _ _ _ _ _ h=>h.elim
structure Fun (K:W.Frag) (x qual:Str) (st:Stmt) (f:Addr) (fd:FuncData):Prop where
 ex:∃(oc:Value) (od:Option Addr) (kV doc pm:Value) (an:Option Addr) (cdv ct:Value) (osl:Array (Option Value)),
  fd=PySem.W.fnOf x qual (defArgs st) (defBody st) (defScope st) .none kV doc pm an cdv ct∧K.lookup f=some ⟨oc,od,.func fd,osl⟩∧PySem.W.codeIn K cdv qual=true
 kp:PySem.W.keepIn K (.ref f)=true
section
variable {P:Program} {w:World} {K:W.Frag} {mg:Str→Option Value} {base:Heap}
theorem Fun.ok {x qual : Str} {st : Stmt} {f : Addr} {fd : FuncData} {N ps : List Str} {k : Nat} {sp : Sp} (F : Fun K x qual st f fd) (S : FnScope N ps (defScope st)) (len : ∀ vs H Q E, sp vs H Q E → vs.length = ps.length)
  (hbody:∀(cdv:Value) (A:Around) (outer:List Env) (s:Shared) (H:Hp) (vs:List V) (Q:VK) (E:XK),Room k (A.deeper (envOfC qual (defScope st) s.heap.objs.size f cdv))→sp vs H Q E→
   ∃t,PSs (cxOf CX0 P w K mg base N qual (defScope st) f cdv A outer s H E).nox (defBody st) t∧t {nx:=fun _ H'=>Q .non H',rt:=Q} (start N vs) H):FnOk P w K mg base CX0 (k + 1) f fd ps sp:=by
 obtain ⟨oc,od,kV,doc,pm,an,cdv,ct,osl,rfl,lk,hcd⟩:=F.ex
 refine fn_of lk hcd S len fun A outer s H vs Q E hr hsp=>?_
 obtain ⟨t,h,q⟩:=hbody cdv A outer s H vs Q E hr hsp
 exact ⟨t,h.nox,q⟩
theorem Fun.binds {x qual : Str} {st : Stmt} {f : Addr} {fd : FuncData} {ps : List Str} (F : Fun K x qual st f fd)
  (h:∀(kV doc pm:Value) (an:Option Addr) (cdv ct:Value) (us:List Value),us.length=ps.length→bindArgs (PySem.W.fnOf x qual (defArgs st) (defBody st) (defScope st) .none kV doc pm an cdv ct) ⟨us,[]⟩=pure (ps.zip us)):Binds K fd ps []:=by
 obtain ⟨oc,od,kV,doc,pm,an,cdv,ct,osl,rfl,lk,hcd⟩:=F.ex
 exact .all (h kV doc pm an cdv ct)
theorem fun_mk {x qual : Str} {st : Stmt} {f : Addr} {oc : Value} {od an : Option Addr} {osl : Array (Option Value)} {kV doc pm cdv ct : Value} (l : K.lookup f = some ⟨oc, od, .func (PySem.W.fnOf x qual (defArgs st) (defBody st) (defScope st) .none kV doc pm an cdv ct), osl⟩)
  (c:PySem.W.codeIn K cdv qual=true) (k:PySem.W.keepIn K (.ref f)=true):Fun K x qual st f (PySem.W.fnOf x qual (defArgs st) (defBody st) (defScope st) .none kV doc pm an cdv ct):=⟨⟨oc,od,kV,doc,pm,an,cdv,ct,osl,rfl,l,c⟩,k⟩
end
theorem hu_of {A:Around} {k:Nat} (hr:Room k A):A.units + 1 < cLine:=Nat.lt_of_le_of_lt (Nat.add_le_add_left (by decide:1≤64) _) hr.units
theorem small1000 {n:Nat} (h:n≤1000):n < sizeLine:=Nat.lt_of_le_of_lt h (by decide)
section
variable {X:Cx}
theorem pv (i : Nat) {x : Str} {pos : Pos} (hN : X.N[i]? = some x := by rfl) (hv : Vis X.env.scope x := by first | exact Or.inl rfl | exact Or.inr (Or.inl rfl) | exact Or.inr (Or.inr rfl)) (hd : (x == ("__debug__" : Str)) = false := by decide)
  (hcd:(x == ("__classdict__":Str))=false:=by decide):PE X (.Name x pos) (tVar i):=pe_var hN hv hd hcd
end
theorem iteF {A B:Prop} (h:B):if false=true then A else B:=by
 rw[if_neg Bool.false_ne_true]
 exact h
theorem iteT {A B:Prop} (h:A):if true=true then A else B:=by
 rw[if_pos rfl]
 exact h
theorem ite2 {c A B:Prop} [Decidable c] (h1:c→A) (h2:¬c→B):if c then A else B:=by
 by_cases h:c
 ·rw[if_pos h]
  exact h1 h
 ·rw[if_neg h]
  exact h2 h
theorem iteNS {c A B:Prop} [Decidable c] (hc:c) (h:B):if (!decide c)=true then A else B:=by
 rw[decide_eq_true hc]
 exact iteF h
noncomputable def Same (H H':Hp):Prop:=∀b o,H b=some o→H' b=some o
theorem Same.refl (H:Hp):Same H H:=fun _ _ h=>h
theorem Same.trans {H H1 H2:Hp} (a:Same H H1) (b:Same H1 H2):Same H H2:=fun c o h=>b c o (a c o h)
theorem Same.free {H H':Hp} (e:Same H H') {l:Addr} (h:H' l=Option.none):H l=Option.none:=by
 cases q:H l with
 | none=>rfl
 | some o=>
  rw[e l o q]at h
  cases h
theorem Same.seq {K:W.Frag} {H H':Hp} {a:Addr} {xs:List V} (e:Same H H') (h:SqL K H a xs):SqL K H' a xs:=by
 rcases h with (h | ⟨o,h⟩) | h
 ·exact .inl (.inl (e _ _ h))
 ·exact .inl (.inr ⟨o,e _ _ h⟩)
 ·exact .inr h
end
section
noncomputable def DbOk (a:Addr) (b c:Bool) (h:Heap):Prop:=(a == sysModules)=false∧∃o es ep,h.get? a=some o∧o.ExactDict∧o.data=.dict es ep∧Vals [.bl b] (es.toList.map (·.key))∧Vals [.bl c] (es.toList.map (·.val))
noncomputable def DbO (a:Addr) (b c:Bool):HO:=.ext (DbOk a b c)
mutual
inductive Dv (K:W.Frag) (H:Hp):V→PyData→Prop
 | non:Dv K H .non .none
 | bl (b:Bool):Dv K H (.bl b) (.bool b)
 | int (i:Int):Dv K H (.int i) (.int i)
 | str (x:Str):Dv K H (.str x) (.str x)
 | lst {a:Addr} {xs:List V} {ds:List PyData}:SqL K H a xs→DvAll K H xs ds→Dv K H (.ref a) (.list ds)
 | tup {a:Addr} {xs:List V} {ds:List PyData}:SqT K H a xs→DvAll K H xs ds→Dv K H (.ref a) (.tuple ds)
 | dct {a:Addr} {kvs:List (Key×V)} {kds:List (PyData×PyData)}:H a=some (.dK kvs)→DvAll K H (kvs.map fun p=>kV p.1) (kds.map (·.1))→DvAll K H (kvs.map (·.2)) (kds.map (·.2))→Dv K H (.ref a) (.dict kds)
 | dcb {a:Addr} {b c:Bool} {kds:List (PyData×PyData)}:H a=some (DbO a b c)→DvAll K H [.bl b] (kds.map (·.1))→DvAll K H [.bl c] (kds.map (·.2))→Dv K H (.ref a) (.dict kds)
inductive DvAll (K:W.Frag) (H:Hp):List V→List PyData→Prop
 | nil:DvAll K H [] []
 | cons {x:V} {xs:List V} {d:PyData} {ds:List PyData}:Dv K H x d→DvAll K H xs ds→DvAll K H (x::xs) (d::ds)
end
section
variable {K:W.Frag} {H H':Hp}
theorem Same.seqT {a:Addr} {xs:List V} (e:Same H H') (h:SqT K H a xs):SqT K H' a xs:=by
 rcases h with (h | ⟨o,h⟩) | h
 ·exact .inl (.inl (e _ _ h))
 ·exact .inl (.inr ⟨o,e _ _ h⟩)
 ·exact .inr h
theorem same_new {p:Addr} (h:H p=none) (o:HO):Same H (upd H p o):=fun b u q=>by rw[upd_ne (ne_of_none q h)];exact q
mutual
theorem Dv.mono (e:Same H H'):∀{v:V} {d:PyData},Dv K H v d→Dv K H' v d
 | _,_,.non=>.non
 | _,_,.bl b=>.bl b
 | _,_,.int i=>.int i
 | _,_,.str x=>.str x
 | _,_,.lst h t=>.lst (e.seq h) (DvAll.mono e t)
 | _,_,.tup h t=>.tup (e.seqT h) (DvAll.mono e t)
 | _,_,.dct h k t=>.dct (e _ _ h) (DvAll.mono e k) (DvAll.mono e t)
 | _,_,.dcb h k t=>.dcb (e _ _ h) (DvAll.mono e k) (DvAll.mono e t)
theorem DvAll.mono (e:Same H H'):∀{vs:List V} {ds:List PyData},DvAll K H vs ds→DvAll K H' vs ds
 | _,_,.nil=>.nil
 | _,_,.cons h t=>.cons (Dv.mono e h) (DvAll.mono e t)
end
theorem DvAll.length:∀{vs:List V} {ds:List PyData},DvAll K H vs ds→vs.length=ds.length
 | _,_,.nil=>rfl
 | _,_,.cons _ t=>by rw[List.length_cons,List.length_cons,DvAll.length t]
end
theorem pairs_vals {P:Program} {w:World}:∀{kvs:List (Key×V)} {vs:List (Key×Value)} {es:List DictEntry},KV kvs vs→Pairs (mixKind P w) es vs→Vals (kvs.map fun p=>kV p.1) (es.map (·.key))∧Vals (kvs.map (·.2)) (es.map (·.val))
 | _,_,_,.nil,.nil=>⟨.nil,.nil⟩
 | _,_,_,.cons (a:=p) (b:=q) h t,.cons (e:=e) hk hv ps=>by
  obtain ⟨a,b⟩:=pairs_vals t ps
  refine ⟨.cons ?_ a,.cons ?_ b⟩
  ·have hk':keyIs q.1 e.key=true:=hk
   show RelV (kV p.1) e.key
   rw[h.1]
   rcases keyIs_shape hk' with ⟨i,t,e1,e2⟩ | ⟨x,t,e1,e2⟩
   ·rw[e1,e2];exact ⟨t,rfl⟩
   ·rw[e1,e2];exact ⟨t,rfl⟩
  ·show RelV p.2 e.val
   rw[hv];exact h.2
section
variable {X:Cx} {pins:List (Addr×Obj)} {σ:St} {H:Hp} {s:Shared}
mutual
theorem Inv.reads (I:Inv X pins σ H s):∀{v:V} {d:PyData} {u:Value},Dv X.K H v d→RelV v u→∃as,Reads s.heap u d as
 | _,_,_,.non,r=>by cases r;exact ⟨_,.none⟩
 | _,_,_,.bl b,r=>by cases r;exact ⟨_,.bool b⟩
 | _,_,_,.int i,r=>by obtain ⟨t,rfl⟩:=r;exact ⟨_,.int i t⟩
 | _,_,_,.str x,r=>by obtain ⟨t,rfl⟩:=r;exact ⟨_,.str x t⟩
 | _,_,_,.lst h t,r=>by
  cases r
  obtain ⟨its,rv,⟨o,n,e,c,_,d⟩,_⟩:=I.list h
  obtain ⟨as,q⟩:=Inv.readsAll I t rv
  exact ⟨_,.list e c d q⟩
 | _,_,_,.tup h t,r=>by
  cases r
  obtain ⟨its,rv,⟨o,e,c,n,d⟩,_⟩:=I.tuple h
  obtain ⟨as,q⟩:=Inv.readsAll I t rv
  exact ⟨_,.tuple e c d q⟩
 | _,_,_,.dct (a:=a) (kvs:=kvs) h k t,r=>by
  cases r
  obtain ⟨_,_,vs,kv,o,es,ep,e,x,dt,_,ps,_⟩:=(show ObjOk X.prog X.w H s.heap a (.dK kvs) from I.hok a _ h)
  obtain ⟨rk,rv⟩:=pairs_vals kv ps
  obtain ⟨as,q⟩:=Inv.readsAll I k rk
  obtain ⟨bs,q'⟩:=Inv.readsAll I t rv
  exact ⟨_,.dict e x.1 dt q q'⟩
 | _,_,_,.dcb (a:=a) (b:=b) (c:=c) h k t,r=>by
  cases r
  obtain ⟨⟨_,o,es,ep,e,x,dt,rk,rv⟩,_⟩:=(show ObjOk X.prog X.w H s.heap a (DbO a b c) from I.hok a _ h)
  obtain ⟨as,q⟩:=Inv.readsAll I k rk
  obtain ⟨bs,q'⟩:=Inv.readsAll I t rv
  exact ⟨_,.dict e x.1 dt q q'⟩
theorem Inv.readsAll (I:Inv X pins σ H s):∀{vs:List V} {ds:List PyData} {us:List Value},DvAll X.K H vs ds→Vals vs us→∃as,ReadsAll s.heap us ds as
 | _,_,_,.nil,r=>by cases r;exact ⟨_,.nil⟩
 | _,_,_,.cons h t,r=>by
  cases r with
  | cons r1 r2=>
   obtain ⟨a1,q1⟩:=Inv.reads I h r1
   obtain ⟨a2,q2⟩:=Inv.readsAll I t r2
   exact ⟨_,.cons q1 q2⟩
end
end
section
variable {X:Cx}
theorem Inv.nodigits {pins:List (Addr×Obj)} {σ:St} {H:Hp} {s:Shared} (I:Inv X pins σ H s):s.heap.NoDigits:=I.ok.mod.nodigits.keeps I.bk
end
mutual
noncomputable def ShB:PyData→Prop
 | .none=>True
 | .bool _=>True
 | .str _=>True
 | .int i=>i.natAbs < 2 ^ 14000
 | .list xs=>ShBs xs
 | .tuple xs=>ShBs xs
 | .dict kvs=>ShBp kvs
noncomputable def ShBs:List PyData→Prop
 | []=>True
 | x::xs=>ShB x∧ShBs xs
noncomputable def ShBp:List (PyData×PyData)→Prop
 | []=>True
 | (k,v)::r=>ShB k∧ShB v∧ShBp r
end
theorem ShBp.split:∀{kvs:List (PyData×PyData)},ShBp kvs→ShBs (kvs.map (·.1))∧ShBs (kvs.map (·.2))
 | [],_=>⟨by simp only[List.map_nil,ShBs],by simp only[List.map_nil,ShBs]⟩
 | (k,v)::r,h=>by
  have h':ShB k∧ShB v∧ShBp r:=by simpa only[ShBp] using h
  obtain ⟨a,b⟩:=ShBp.split h'.2.2
  exact ⟨by simp only[List.map_cons,ShBs];exact ⟨h'.1,a⟩,by simp only[List.map_cons,ShBs];exact ⟨h'.2.1,b⟩⟩
theorem dig_lt {i:Int} (h:i.natAbs < 2 ^ 14000):i.natAbs < 10 ^ 4300:=Nat.lt_of_lt_of_le h (by decide +kernel)
section
variable {prog:Program} {w:World} {A:Around} {E:Value→Shared→Prop} {s:Shared} {h₀:Heap}
theorem call_int_big {a : Int} {t : Tok} {Q : Value → Shared → Prop} (hn : s.heap.NoDigits) (hlt : a.natAbs < 10 ^ 4300) (h1 : Q (.str (toString a) s.toks) { s with toks := s.toks + 1 }) :
  wpAny (model prog w) A (call (.builtin "int.__repr__") [.int a t]) Q E s:=by
 refine wpAny_call_entry F.slot_int_repr (typeIs_int s a t) F.entry_int_repr ?_ (F.args_int_repr_1 _)
 unfold Builtin.«int.__repr__»
 show wpAny _ _ (do let r ←Builtin.overDigitLimit? a;_) _ _ s
 refine wpAny_bind (overDigitLimit_any hn (fun _=>?_) (fun hge=>absurd hlt (Nat.not_lt.mpr hge)))
 exact wpAny_bind (wpAny_mkStr (wpAny_pure ⟨_,rfl,h1⟩) (int_text_fits10 hlt))
theorem reprK_int {a:Int} (t:Tok) (hn:h₀.NoDigits) (hlt:a.natAbs < 10 ^ 4300) (d:Nat):ReprK prog w [] h₀ d (.int a t) (toString a):=fun base hb A g E s Q hg hcl hu hk0 hQ=>by
 have hn':base≤sizeLine:=by omega
 rw[pyReprUnder_leaf (v:=.int a t) hn' (fun _ e=>nomatch e)]
 unfold pyRepr
 exact wpAny_bind (wpAny_pyReprObj_slot (by omega) (typeIs_int s a t) F.slot_int_repr.toG (call_int_big (hn.keeps hk0) hlt ⟨_,_,rfl,wpAny_pure (hQ s.heap _ fun _ _ e=>e)⟩))
end
section
variable {X:Cx} {pins:List (Addr×Obj)} {σ:St} {H:Hp} {s:Shared}
mutual
theorem Inv.reprB (I:Inv X pins σ H s):∀{v:V} {d:PyData} {u:Value},Dv X.K H v d→RelV v u→ShB d→d.shown.length≤sizeLine→∃bs,ReadAtMost s.heap d.depth bs∧ReprK X.prog X.w bs s.heap d.depth u d.shown
 | _,_,_,.non,r,_,_=>by cases r;exact ⟨[],(fun _ h=>nomatch h),by simp only[PyData.shown];exact .of_is ReprIs.none _ _ _⟩
 | _,_,_,.bl b,r,_,_=>by cases r;exact ⟨[],(fun _ h=>nomatch h),by simp only[PyData.shown];exact .of_is (ReprIs.bool b) _ _ _⟩
 | _,_,_,.int i,r,hs,_=>by obtain ⟨t,rfl⟩:=r;exact ⟨[],(fun _ h=>nomatch h),by simp only[PyData.shown];exact reprK_int t I.nodigits (dig_lt (by simpa only[ShB] using hs)) _⟩
 | _,_,_,.str x,r,_,hz=>by obtain ⟨t,rfl⟩:=r;exact ⟨[],(fun _ h=>nomatch h),by simp only[PyData.shown];exact .of_is (ReprIs.str x t (by simpa only[PyData.shown] using hz)) _ _ _⟩
 | _,_,_,.lst (a:=a) (xs:=xs) (ds:=ds) h t,r,hs,hz=>by
  cases r
  have hz':(listText (PyData.shownAll ds)).length≤sizeLine:=by simpa only[PyData.shown] using hz
  obtain ⟨its,rv,⟨o,n,e,c,_,d⟩,_⟩:=I.list h
  obtain ⟨as,q⟩:=I.readsAll t rv
  obtain ⟨bs,hb,hk⟩:=Inv.reprAllB I t rv (by simpa only[ShB] using hs) (fun t ht=>Nat.le_trans (listText_mem_le ht) hz')
  have r:Reads s.heap (.ref a) (.list ds) _:=.list e c d q
  have hna:a∉bs:=not_mem_of_deeper r (by simp only[PyData.depth];omega) hb
  refine ⟨a::bs,ReadAtMost.cons r (by simp only[PyData.depth];omega) hb,?_⟩
  simp only[PyData.depth,PyData.shown]
  cases its with
  | nil=>
   cases q
   simp only[PyData.shownAll,listText_nil]
   exact ReprK.listEmpty e c d
  | cons x l=>exact ReprK.list e c d hna (by simpa using hk.length_eq) (fun i y e=>hk.item i y (by simpa using e))
 | _,_,_,.tup (a:=a) (ds:=ds) h t,r,hs,hz=>by
  cases r
  have hz':(tupleText (PyData.shownAll ds)).length≤sizeLine:=by simpa only[PyData.shown] using hz
  obtain ⟨its,rv,⟨o,e,c,n,d⟩,_⟩:=I.tuple h
  obtain ⟨as,q⟩:=I.readsAll t rv
  obtain ⟨bs,hb,hk⟩:=Inv.reprAllB I t rv (by simpa only[ShB] using hs) (fun t ht=>Nat.le_trans (tupleText_mem_le ht) hz')
  have r:Reads s.heap (.ref a) (.tuple ds) _:=.tuple e c d q
  have hna:a∉bs:=not_mem_of_deeper r (by simp only[PyData.depth];omega) hb
  refine ⟨a::bs,ReadAtMost.cons r (by simp only[PyData.depth];omega) hb,?_⟩
  simp only[PyData.depth,PyData.shown]
  exact ReprK.tuple e c d hna hk
 | _,_,_,.dct (a:=a) (kvs:=kvs) (kds:=kds) h k t,r,hs,hz=>by
  cases r
  have hz':(dictText (PyData.shownKv kds)).length≤sizeLine:=by simpa only[PyData.shown] using hz
  obtain ⟨hs1,hs2⟩:=ShBp.split (by simpa only[ShB] using hs)
  obtain ⟨_,hsys,vs,kv,o,es,ep,e,x,dt,_,ps,_⟩:=(show ObjOk X.prog X.w H s.heap a (.dK kvs) from I.hok a _ h)
  obtain ⟨rk,rv⟩:=pairs_vals kv ps
  obtain ⟨as,q⟩:=I.readsAll k rk
  obtain ⟨bs,q'⟩:=I.readsAll t rv
  obtain ⟨b1,hb1,k1⟩:=Inv.reprAllB I k rk hs1 (fun t ht=>let ⟨p,hp,hl⟩:=PyData.shownKv_key_le kds t ht;Nat.le_trans hl (Nat.le_trans (dictText_mem_le hp) hz'))
  obtain ⟨b2,hb2,k2⟩:=Inv.reprAllB I t rv hs2 (fun t ht=>let ⟨p,hp,hl⟩:=PyData.shownKv_val_le kds t ht;Nat.le_trans hl (Nat.le_trans (dictText_mem_le hp) hz'))
  have r:Reads s.heap (.ref a) (.dict kds) _:=.dict e x.1 dt q q'
  have hb:ReadAtMost s.heap (PyData.depthKv kds) (b1 ++ b2):=(hb1.mono (PyData.depthAll_keys_le kds)).append (hb2.mono (PyData.depthAll_vals_le kds))
  have hna:a∉b1 ++ b2:=not_mem_of_deeper r (by simp only[PyData.depth];omega) hb
  refine ⟨a::(b1 ++ b2),ReadAtMost.cons r (by simp only[PyData.depth];omega) hb,?_⟩
  simp only[PyData.depth,PyData.shown,PyData.shownKv_eq]
  exact ReprK.dict e x.1 dt hsys hna (ReprEntriesK.of_two es.toList _ _ (k1.more_le (fun b hb=>List.mem_append_left _ hb) (PyData.depthAll_keys_le kds)) (k2.more_le (fun b hb=>List.mem_append_right _ hb) (PyData.depthAll_vals_le kds)))
 | _,_,_,.dcb (a:=a) (b:=b) (c:=c) (kds:=kds) h k t,r,hs,hz=>by
  cases r
  have hz':(dictText (PyData.shownKv kds)).length≤sizeLine:=by simpa only[PyData.shown] using hz
  obtain ⟨hs1,hs2⟩:=ShBp.split (by simpa only[ShB] using hs)
  obtain ⟨⟨hsys,o,es,ep,e,x,dt,rk,rv⟩,_⟩:=(show ObjOk X.prog X.w H s.heap a (DbO a b c) from I.hok a _ h)
  obtain ⟨as,q⟩:=I.readsAll k rk
  obtain ⟨bs,q'⟩:=I.readsAll t rv
  obtain ⟨b1,hb1,k1⟩:=Inv.reprAllB I k rk hs1 (fun t ht=>let ⟨p,hp,hl⟩:=PyData.shownKv_key_le kds t ht;Nat.le_trans hl (Nat.le_trans (dictText_mem_le hp) hz'))
  obtain ⟨b2,hb2,k2⟩:=Inv.reprAllB I t rv hs2 (fun t ht=>let ⟨p,hp,hl⟩:=PyData.shownKv_val_le kds t ht;Nat.le_trans hl (Nat.le_trans (dictText_mem_le hp) hz'))
  have r:Reads s.heap (.ref a) (.dict kds) _:=.dict e x.1 dt q q'
  have hb:ReadAtMost s.heap (PyData.depthKv kds) (b1 ++ b2):=(hb1.mono (PyData.depthAll_keys_le kds)).append (hb2.mono (PyData.depthAll_vals_le kds))
  have hna:a∉b1 ++ b2:=not_mem_of_deeper r (by simp only[PyData.depth];omega) hb
  refine ⟨a::(b1 ++ b2),ReadAtMost.cons r (by simp only[PyData.depth];omega) hb,?_⟩
  simp only[PyData.depth,PyData.shown,PyData.shownKv_eq]
  exact ReprK.dict e x.1 dt hsys hna (ReprEntriesK.of_two es.toList _ _ (k1.more_le (fun b hb=>List.mem_append_left _ hb) (PyData.depthAll_keys_le kds)) (k2.more_le (fun b hb=>List.mem_append_right _ hb) (PyData.depthAll_vals_le kds)))
theorem Inv.reprAllB (I : Inv X pins σ H s) : ∀ {vs : List V} {ds : List PyData} {us : List Value}, DvAll X.K H vs ds → Vals vs us → ShBs ds → (∀ t ∈ PyData.shownAll ds, t.length ≤ sizeLine) →
  ∃bs,ReadAtMost s.heap (PyData.depthAll ds) bs∧ReprAllK X.prog X.w bs s.heap (PyData.depthAll ds) us (PyData.shownAll ds)
 | _,_,_,.nil,r,_,_=>by cases r;exact ⟨[],(fun _ h=>nomatch h),by simp only[PyData.shownAll];exact .nil⟩
 | _,_,_,.cons (d:=d) (ds:=ds) h t,r,hs,hz=>by
  cases r with
  | cons r1 r2=>
   have hs':ShB d∧ShBs ds:=by simpa only[ShBs] using hs
   obtain ⟨b1,hb1,k1⟩:=Inv.reprB I h r1 hs'.1 (hz _ (by simp only[PyData.shownAll];exact List.mem_cons_self ..))
   obtain ⟨b2,hb2,k2⟩:=Inv.reprAllB I t r2 hs'.2 (fun t ht=>hz t (by simp only[PyData.shownAll];exact List.mem_cons_of_mem _ ht))
   refine ⟨b1 ++ b2,?_,?_⟩
   ·intro b hm
    simp only[PyData.depthAll]
    rcases List.mem_append.mp hm with hm | hm
    ·obtain ⟨d',as',r',hd'⟩:=hb1 b hm
     exact ⟨d',as',r',Nat.le_trans hd' (Nat.le_max_left _ _)⟩
    ·obtain ⟨d',as',r',hd'⟩:=hb2 b hm
     exact ⟨d',as',r',Nat.le_trans hd' (Nat.le_max_right _ _)⟩
   ·simp only[PyData.depthAll,PyData.shownAll]
    exact .cons ((k1.more fun b hb=>List.mem_append_left _ hb).level_le (Nat.le_max_left _ _)) (k2.more_le (fun b hb=>List.mem_append_right _ hb) (Nat.le_max_right _ _))
end
end
section
variable {X:Cx}
structure Shw (d:PyData):Prop where
 sh:ShB d
 dp:d.depth≤60
 sz:d.shown.length≤sizeLine
theorem call_repr {k:Nat} (hr:Room k X.A):CallR X (.builtin "repr") (fun xs H Q=>∃x d k,xs=[x]∧Dv X.K H x d∧Shw d∧k=d.shown∧Q (.str k) H):=by
 intro pins s σ H xs us Q I r h
 obtain ⟨x,d,k,rfl,hd,S,rfl,q⟩:=h
 obtain ⟨u,rfl,rx⟩:=vals1 r
 have hu:=hr.units
 have hnd:=I.nodigits
 have fin:∀h' t tk,(∀b o,s.heap.get? b=some o→h'.get? b=some o)→EP X pins σ Q (.str d.shown t) {s with heap:=h',toks:=tk}:=fun h' t tk hk=>⟨.str d.shown,H,I.kept hk,⟨t,rfl⟩,q⟩
 cases hd with
 | non=>cases rx;exact PySem.P.repr_of_none (fin s.heap _ _ fun _ _ e=>e)
 | bl b=>cases rx;exact PySem.P.repr_of_bool (fin s.heap _ _ fun _ _ e=>e)
 | int i=>
  obtain ⟨t,rfl⟩:=rx
  exact call_repr_slot (by omega) (typeIs_int s i t) F.slot_int_repr.toG (call_int_big hnd (dig_lt (by simpa only[ShB] using S.sh)) ⟨_,_,rfl,fin s.heap _ _ fun _ _ e=>e⟩)
 | str y=>obtain ⟨t,rfl⟩:=rx;exact PySem.P.repr_of_str (fin s.heap _ _ fun _ _ e=>e) S.sz
 | lst h t=>
  rename_i a xs ds
  cases rx
  have hz':(listText (PyData.shownAll ds)).length≤sizeLine:=by simpa only[PyData.shown] using S.sz
  obtain ⟨its,rv,⟨o,n,e,c,_,dd⟩,_⟩:=I.list h
  obtain ⟨as,rd⟩:=I.readsAll t rv
  obtain ⟨bs,hb,hk⟩:=I.reprAllB t rv (by simpa only[ShB] using S.sh) (fun t ht=>Nat.le_trans (listText_mem_le ht) hz')
  have hna:a∉bs:=not_mem_of_deeper (.list e c dd rd) (by simp only[PyData.depth];omega) hb
  have hdp:=S.dp
  simp only[PyData.depth]at hdp
  simp only[PyData.shown]at fin
  cases its with
  | nil=>
   cases rd
   simp only[PyData.shownAll,listText_nil]at fin
   exact call_repr_slot (by omega) ⟨o,e,c⟩ F.slot_list_repr.toG (call_list_repr_empty ⟨o,e,c⟩ e dd ⟨_,_,rfl,fin s.heap _ _ fun _ _ e=>e⟩)
  | cons y l=>
   exact call_repr_slot (by omega) ⟨o,e,c⟩ F.slot_list_repr.toG (call_list_reprK e c dd hna (by simpa using hk.length_eq) (fun i y e=>hk.item i y (by simpa using e)) hr.gd (fun b _=>Clear.nil b) (by show X.A.units + 1 + _ < cLine;omega) (fun _ _ e=>e) (fun h' u tk hk'=>⟨_,_,rfl,fin h' u tk hk'⟩) hz')
 | tup h t=>
  rename_i a xs ds
  cases rx
  have hz':(tupleText (PyData.shownAll ds)).length≤sizeLine:=by simpa only[PyData.shown] using S.sz
  obtain ⟨its,rv,⟨o,e,c,n,dd⟩,_⟩:=I.tuple h
  obtain ⟨as,rd⟩:=I.readsAll t rv
  obtain ⟨bs,hb,hk⟩:=I.reprAllB t rv (by simpa only[ShB] using S.sh) (fun t ht=>Nat.le_trans (tupleText_mem_le ht) hz')
  have hna:a∉bs:=not_mem_of_deeper (.tuple e c dd rd) (by simp only[PyData.depth];omega) hb
  have hdp:=S.dp
  simp only[PyData.depth]at hdp
  simp only[PyData.shown]at fin
  exact call_repr_slot (by omega) ⟨o,e,c⟩ F.slot_tuple_repr (call_tuple_reprK e c dd hna hk hr.gd (fun b _=>Clear.nil b) (by show X.A.units + 1 + _ < cLine;omega) (fun _ _ e=>e) (fun h' u tk hk'=>⟨_,_,rfl,fin h' u tk hk'⟩) hz')
 | dct h kk t=>
  rename_i a kvs kds
  cases rx
  have hz':(dictText (PyData.shownKv kds)).length≤sizeLine:=by simpa only[PyData.shown] using S.sz
  obtain ⟨hs1,hs2⟩:=ShBp.split (by simpa only[ShB] using S.sh)
  obtain ⟨_,hsys,vs,kv,o,es,ep,e,x,dt,_,ps,_⟩:=(show ObjOk X.prog X.w H s.heap a (.dK kvs) from I.hok a _ h)
  obtain ⟨rk,rv⟩:=pairs_vals kv ps
  obtain ⟨as,q1⟩:=I.readsAll kk rk
  obtain ⟨bs,q2⟩:=I.readsAll t rv
  obtain ⟨b1,hb1,k1⟩:=I.reprAllB kk rk hs1 (fun t ht=>let ⟨p,hp,hl⟩:=PyData.shownKv_key_le kds t ht;Nat.le_trans hl (Nat.le_trans (dictText_mem_le hp) hz'))
  obtain ⟨b2,hb2,k2⟩:=I.reprAllB t rv hs2 (fun t ht=>let ⟨p,hp,hl⟩:=PyData.shownKv_val_le kds t ht;Nat.le_trans hl (Nat.le_trans (dictText_mem_le hp) hz'))
  have r:Reads s.heap (.ref a) (.dict kds) _:=.dict e x.1 dt q1 q2
  have hb:ReadAtMost s.heap (PyData.depthKv kds) (b1 ++ b2):=(hb1.mono (PyData.depthAll_keys_le kds)).append (hb2.mono (PyData.depthAll_vals_le kds))
  have hna:a∉b1 ++ b2:=not_mem_of_deeper r (by simp only[PyData.depth];omega) hb
  have hdp:=S.dp
  simp only[PyData.depth]at hdp
  simp only[PyData.shown,PyData.shownKv_eq]at fin
  exact call_repr_slot (by omega) ⟨o,e,x.1⟩ F.slot_dict_repr (call_dict_reprK e x.1 dt hsys hna (ReprEntriesK.of_two es.toList _ _ (k1.more_le (fun b hb=>List.mem_append_left _ hb) (PyData.depthAll_keys_le kds)) (k2.more_le (fun b hb=>List.mem_append_right _ hb) (PyData.depthAll_vals_le kds))) hr.gd (fun b _=>Clear.nil b) (by show X.A.units + 1 + _ < cLine;omega) (fun _ _ e=>e) (fun h' u tk hk'=>⟨_,_,rfl,fin h' u tk hk'⟩) (by rw[←PyData.shownKv_eq];exact hz'))
 | dcb h kk t=>
  rename_i a b c kds
  cases rx
  have hz':(dictText (PyData.shownKv kds)).length≤sizeLine:=by simpa only[PyData.shown] using S.sz
  obtain ⟨hs1,hs2⟩:=ShBp.split (by simpa only[ShB] using S.sh)
  obtain ⟨⟨hsys,o,es,ep,e,x,dt,rk,rv⟩,_⟩:=(show ObjOk X.prog X.w H s.heap a (DbO a b c) from I.hok a _ h)
  obtain ⟨as,q1⟩:=I.readsAll kk rk
  obtain ⟨bs,q2⟩:=I.readsAll t rv
  obtain ⟨b1,hb1,k1⟩:=I.reprAllB kk rk hs1 (fun t ht=>let ⟨p,hp,hl⟩:=PyData.shownKv_key_le kds t ht;Nat.le_trans hl (Nat.le_trans (dictText_mem_le hp) hz'))
  obtain ⟨b2,hb2,k2⟩:=I.reprAllB t rv hs2 (fun t ht=>let ⟨p,hp,hl⟩:=PyData.shownKv_val_le kds t ht;Nat.le_trans hl (Nat.le_trans (dictText_mem_le hp) hz'))
  have r:Reads s.heap (.ref a) (.dict kds) _:=.dict e x.1 dt q1 q2
  have hb:ReadAtMost s.heap (PyData.depthKv kds) (b1 ++ b2):=(hb1.mono (PyData.depthAll_keys_le kds)).append (hb2.mono (PyData.depthAll_vals_le kds))
  have hna:a∉b1 ++ b2:=not_mem_of_deeper r (by simp only[PyData.depth];omega) hb
  have hdp:=S.dp
  simp only[PyData.depth]at hdp
  simp only[PyData.shown,PyData.shownKv_eq]at fin
  exact call_repr_slot (by omega) ⟨o,e,x.1⟩ F.slot_dict_repr (call_dict_reprK e x.1 dt hsys hna (ReprEntriesK.of_two es.toList _ _ (k1.more_le (fun b hb=>List.mem_append_left _ hb) (PyData.depthAll_keys_le kds)) (k2.more_le (fun b hb=>List.mem_append_right _ hb) (PyData.depthAll_vals_le kds))) hr.gd (fun b _=>Clear.nil b) (by show X.A.units + 1 + _ < cLine;omega) (fun _ _ e=>e) (fun h' u tk hk'=>⟨_,_,rfl,fin h' u tk hk'⟩) (by rw[←PyData.shownKv_eq];exact hz'))
end
end
section
noncomputable def Src (K:W.Frag) (mg:Str→Option Value) (y x:Str) (st:Stmt):Prop:=∃f fd,Fun K x x st f fd∧mg y=some (.ref f)
structure Def (P:Program) (w:World) (K:W.Frag) (mg:Str→Option Value) (base:Heap) (x:Str) (ps:List Str) (n:Nat) (sp:Sp):Prop where
 ex:∃f fd,FnOk P w K mg base CX0 n f fd ps sp∧PySem.W.keepIn K (.ref f)=true∧mg x=some (.ref f)∧Binds K fd ps []∧∃oc od osl,K.lookup f=some ⟨oc,od,.func fd,osl⟩
section
variable {P:Program} {w:World} {K:W.Frag} {mg:Str→Option Value} {base:Heap}
theorem Def.mk' {y x : Str} {st : Stmt} {N ps : List Str} {n : Nat} {sp : Sp} (T : Src K mg y x st) (S : FnScope N ps (defScope st)) (len : ∀ vs H Q E, sp vs H Q E → vs.length = ps.length)
  (hb:∀(kV doc pm:Value) (an:Option Addr) (cdv ct:Value) (us:List Value),us.length=ps.length→bindArgs (PySem.W.fnOf x x (defArgs st) (defBody st) (defScope st) .none kV doc pm an cdv ct) ⟨us,[]⟩=pure (ps.zip us))
  (hbody:∀(f:Addr) (cdv:Value) (A:Around) (outer:List Env) (s:Shared) (H:Hp) (vs:List V) (Q:VK) (E:XK),Room n (A.deeper (envOfC x (defScope st) s.heap.objs.size f cdv))→sp vs H Q E→
   ∃t,PSs (cxOf CX0 P w K mg base N x (defScope st) f cdv A outer s H E).nox (defBody st) t∧t {nx:=fun _ H'=>Q .non H',rt:=Q} (start N vs) H):Def P w K mg base y ps (n + 1) sp:=by
 obtain ⟨f,fd,F,m⟩:=T
 exact ⟨f,fd,F.ok S len fun cdv A outer s H vs Q E hr h=>hbody f cdv A outer s H vs Q E hr h,F.kp,m,F.binds hb,by
  obtain ⟨oc,od,kV,doc,pm,an,cdv,ct,osl,rfl,lk,hcd⟩:=F.ex
  exact ⟨_,_,_,lk⟩⟩
theorem Def.fn {x:Str} {st:Stmt} {ps:List Str} {n:Nat} {sp:Sp} {f:Addr} {fd:FuncData} (D:Def P w K mg base x ps n sp) (F:Fun K x x st f fd) (m:mg x=some (.ref f)):FnOk P w K mg base CX0 n f fd ps sp:=by
 obtain ⟨f2,fd2,G,k,m2,b,oc,od,osl,lk⟩:=D.ex
 rw[m]at m2
 cases m2
 obtain ⟨oc',od',kV,doc,pm,an,cdv,ct,osl',rfl,lk',hcd⟩:=F.ex
 rw[lk]at lk'
 cases lk'
 exact G
end
section
variable {X:Cx} {x:Str} {ps:List Str} {n k:Nat} {sp:Sp} {p pos:Pos} {e:Expr} {es:List Expr} {t:TA}
theorem pe_cd (D : Def X.prog X.w X.K X.mg X.base x ps n sp) (hr : Room k X.A) (ha : PA X (e :: es) t) (hk : n ≤ k := by decide) (hg : Gl X x := by rfl) (hdb : (x == ("__debug__" : Str)) = false := by decide)
  (he:starEach (e::es) X.env=(false,eval e X.env)::starEach es X.env:=by rfl) (hpl:(backTo pos (starEach es X.env)).any (·.1)=false:=by rfl) :
  PE X (.Call (.Name x p) (e::es) [] pos) (tCall sp [] E0 t):=by
 intro pins s σ H Q I h
 obtain ⟨f,fd,F,kp,m,b,_⟩:=D.ex
 exact pe_call F (hr.mono hk) hg m kp b .nil pass0 ha hdb he hpl pins s σ H Q I h
end
end
section
inductive TyD (K:W.Frag) (H:Hp):V→String→Prop where
 | non:TyD K H .non "NoneType"
 | bl (x:Bool):TyD K H (.bl x) "bool"
 | int (i:Int):TyD K H (.int i) "int"
 | str (x:Str):TyD K H (.str x) "str"
 | lst {a:Addr} {xs:List V} (e:SqL K H a xs):TyD K H (.ref a) "list"
 | tup {a:Addr} {xs:List V} (e:SqT K H a xs):TyD K H (.ref a) "tuple"
 | dK {a:Addr} {kvs:List (Key×V)} (e:H a=some (.dK kvs)):TyD K H (.ref a) "dict"
 | db {a:Addr} {b c:Bool} (e:H a=some (DbO a b c)):TyD K H (.ref a) "dict"
section
variable {X:Cx}
theorem call_isi:CallR X (.builtin "isinstance") (fun xs H Q=>∃x t c b,xs=[x,.ty c]∧TyD X.K H x t∧PySem.W.kitOne X.K (.type t) (.type c)=some b∧Q (.bl b) H):=by
 intro pins s σ H xs us Q I r h
 obtain ⟨x,t,c,b,rfl,ht,hk,q⟩:=h
 obtain ⟨u,w',rfl,rx,ry⟩:=vals2 r
 cases ry
 have fin:∀tk,EP X pins σ Q (.bool b) {s with toks:=tk}:=fun tk=>⟨.bl b,H,I.tok tk,rfl,q⟩
 cases ht with
 | non=>exact isinst_ok I rx .non hk fin
 | bl y=>exact isinst_ok I rx (.bl y) hk fin
 | int i=>exact isinst_ok I rx (.int i) hk fin
 | str y=>exact isinst_ok I rx (.str y) hk fin
 | dK e=>exact isinst_ok I rx (.dK e) hk fin
 | lst e=>
  cases rx
  obtain ⟨its,rv,⟨o,n,e1,c1,_,_⟩,_⟩:=I.list e
  exact PySem.W.kia_one PySem.W.kitx_list I.kIn ⟨o,e1,c1⟩ hk (fun z=>nomatch z) fin
 | tup e=>
  cases rx
  obtain ⟨its,rv,⟨o,e1,c1,_⟩,_⟩:=I.tuple e
  exact PySem.W.kia_one PySem.W.kitx_tuple I.kIn ⟨o,e1,c1⟩ hk (fun z=>nomatch z) fin
 | db e=>
  rename_i a b c
  cases rx
  obtain ⟨⟨_,o,es,ep,e1,x1,_⟩,_⟩:=(show ObjOk X.prog X.w H s.heap a (DbO a b c) from I.hok a _ e)
  exact PySem.W.kia_one PySem.W.kitx_dict I.kIn ⟨o,e1,x1.1⟩ hk (fun z=>nomatch z) fin
end
end
section
theorem bt_len:bootBuiltins "len"=some (.builtin "len"):=by decide +kernel
theorem bt_repr:bootBuiltins "repr"=some (.builtin "repr"):=by decide +kernel
theorem bt_isinstance:bootBuiltins "isinstance"=some (.builtin "isinstance"):=by decide +kernel
theorem bt_list:bootBuiltins "list"=some (.type "list"):=by decide +kernel
theorem bt_dict:bootBuiltins "dict"=some (.type "dict"):=by decide +kernel
theorem len1 {a:V}:[a].length≤sizeLine:=by show 1≤sizeLine;decide
theorem len2 {a b:V}:[a,b].length≤sizeLine:=by show 2≤sizeLine;decide
theorem len3 {a b c:V}:[a,b,c].length≤sizeLine:=by show 3≤sizeLine;decide
noncomputable abbrev Bt (m:Nat) (x:Int):Prop:=x.natAbs < 2 ^ m
theorem Bt.mono {m n:Nat} {x:Int} (h:Bt m x) (hm:m≤n):Bt n x:=Nat.lt_of_lt_of_le h (Nat.pow_le_pow_right (by decide) hm)
theorem Bt.log2 {m:Nat} {x:Int} (h:Bt m x) (hm:0 < m):x.natAbs.log2 < m:=by
 by_cases hx:x.natAbs=0
 ·rw[hx];simpa using hm
 ·exact (Nat.log2_lt hx).mpr h
theorem Bt.mul {m n:Nat} {x y:Int} (h:Bt m x) (k:Bt n y):Bt (m + n) (x * y):=by
 show (x * y).natAbs < 2 ^ (m + n)
 rw[Int.natAbs_mul,Nat.pow_add]
 exact Nat.mul_lt_mul'' h k
theorem Bt.add {m:Nat} {x y:Int} (h:Bt m x) (k:Bt m y):Bt (m + 1) (x + y):=by
 show (x + y).natAbs < 2 ^ (m + 1)
 have h:x.natAbs < 2 ^ m:=h
 have k:y.natAbs < 2 ^ m:=k
 rw[Nat.pow_succ];omega
theorem Bt.of_lt {m:Nat} {x:Int} (b:Int) (h0:-b < x) (h1:x < b) (hb:b≤2 ^ m):Bt m x:=by
 show x.natAbs < 2 ^ m
 have:((x.natAbs:Nat):Int) < ((2 ^ m:Nat):Int):=by push_cast;omega
 exact Int.ofNat_lt.mp this
noncomputable def sh (q:Rat):PyData:=.tuple [.int q.num,.int (q.den:Int)]
structure Bs (m:Nat) (q:Rat):Prop where
 n:Bt m q.num
 d:Bt m (q.den:Int)
theorem Bs.mono {m n:Nat} {q:Rat} (h:Bs m q) (hm:m≤n):Bs n q:=⟨h.n.mono hm,h.d.mono hm⟩
theorem den_pos (q:Rat):(0:Int) < (q.den:Int):=Int.ofNat_lt.mpr q.den_pos
theorem rat_div (q:Rat):Rat.divInt q.num q.den=q:=Rat.num_divInt_den q
theorem Bs.divInt {m:Nat} {a b:Int} (ha:Bt m a) (hb:Bt m b) (h0:b≠0):Bs m (Rat.divInt a b):=by
 constructor
 ·show (Rat.divInt a b).num.natAbs < 2 ^ m
  rw[Rat.num_divInt]
  refine Nat.lt_of_le_of_lt (Int.natAbs_ediv_le_natAbs _ _) ?_
  rw[Int.natAbs_mul]
  have:b.sign.natAbs=1:=Int.natAbs_sign_of_ne_zero h0
  rw[this,Nat.one_mul]
  exact ha
 ·show ((Rat.divInt a b).den:Int).natAbs < 2 ^ m
  rw[Int.natAbs_natCast,Rat.den_divInt,if_neg h0]
  exact Nat.lt_of_le_of_lt (Nat.div_le_self _ _) hb
theorem add_as (q r:Rat):q + r=Rat.divInt (q.num * r.den + r.num * q.den) (q.den * r.den):=by
 have hq:=den_pos q
 have hr:=den_pos r
 conv=>lhs;rw[←rat_div q,←rat_div r]
 exact Rat.divInt_add_divInt _ _ (by omega) (by omega)
theorem mul_as (q r:Rat):q * r=Rat.divInt (q.num * r.num) (q.den * r.den):=by
 conv=>lhs;rw[←rat_div q,←rat_div r]
 exact Rat.divInt_mul_divInt _ _
theorem Bs.add {m n:Nat} {q r:Rat} (h:Bs m q) (k:Bs n r):Bs (m + n + 1) (q + r):=by
 rw[add_as]
 have hq:=den_pos q
 have hr:=den_pos r
 have h3:=Int.mul_pos hq hr
 exact Bs.divInt ((h.n.mul k.d).add ((k.n.mul h.d).mono (by omega))) ((h.d.mul k.d).mono (by omega)) (by omega)
theorem Bs.mul {m n:Nat} {q r:Rat} (h:Bs m q) (k:Bs n r):Bs (m + n) (q * r):=by
 rw[mul_as]
 have hq:=den_pos q
 have hr:=den_pos r
 have h3:=Int.mul_pos hq hr
 exact Bs.divInt (h.n.mul k.n) (h.d.mul k.d) (by omega)
section
variable {K:W.Frag} {H H':Hp} {v:V} {q:Rat}
end
theorem at0 {α:Type} {x:α} {xs:List α}:atI (x::xs) 0=some x:=atI_nat (j:=0) rfl
theorem at1 {α:Type} {x y:α} {xs:List α}:atI (x::y::xs) 1=some y:=atI_nat (j:=1) rfl
theorem at2 {α:Type} {x y z:α} {xs:List α}:atI (x::y::z::xs) 2=some z:=atI_nat (j:=2) rfl
end
section
noncomputable def Keep (H H':Hp):Prop:=∀b xs,Rd H b (.tup xs)→Rd H' b (.tup xs)
theorem Keep.trans {H H1 H2:Hp} (a:Keep H H1) (b:Keep H1 H2):Keep H H2:=fun c xs h=>b c xs (a c xs h)
theorem Same.keep {H H':Hp} (e:Same H H'):Keep H H':=fun b xs h=>by
 rcases h with h | ⟨o,h⟩
 ·exact .inl (e _ _ h)
 ·exact .inr ⟨o,e _ _ h⟩
mutual
noncomputable def tpd:PyData→Bool
 | .list _=>false
 | .dict _=>false
 | .tuple xs=>tpds xs
 | .none=>true
 | .bool _=>true
 | .int _=>true
 | .str _=>true
noncomputable def tpds:List PyData→Bool
 | []=>true
 | x::xs=>tpd x && tpds xs
end
section
variable {K:W.Frag} {H H':Hp}
mutual
theorem Dv.keep (e:Keep H H'):∀{v:V} {d:PyData},Dv K H v d→tpd d=true→Dv K H' v d
 | _,_,.non,_=>.non
 | _,_,.bl b,_=>.bl b
 | _,_,.int i,_=>.int i
 | _,_,.str x,_=>.str x
 | _,_,.lst h t,z=>by exact absurd z (by simp[tpd])
 | _,_,.dct h k t,z=>by exact absurd z (by simp[tpd])
 | _,_,.dcb h k t,z=>by exact absurd z (by simp[tpd])
 | _,_,.tup (ds:=ds) h t,z=>by
  have z':tpds ds=true:=by simpa [tpd] using z
  refine .tup ?_ (DvAll.keep e t z')
  rcases h with h | h
  ·exact .inl (e _ _ h)
  ·exact .inr h
theorem DvAll.keep (e:Keep H H'):∀{vs:List V} {ds:List PyData},DvAll K H vs ds→tpds ds=true→DvAll K H' vs ds
 | _,_,.nil,_=>.nil
 | _,_,.cons (d:=d) (ds:=ds) h t,z=>by
  have z':(tpd d && tpds ds)=true:=by simpa only[tpds] using z
  obtain ⟨z1,z2⟩:=Bool.and_eq_true_iff.mp z'
  exact .cons (Dv.keep e h z1) (DvAll.keep e t z2)
end
noncomputable def Tp (H:Hp) (t:V) (n:Nat):Prop:=∃(a c:Addr) (cells:List Int) (at' left:Int),t=.ref a∧H a=some (.lst [.ref c,.int at',.int left])∧H c=some (.lst (cells.map V.int))∧0≤at'∧at'≤(n:Int)∧cells.length≤63
noncomputable def cellIs (H:Hp) (t:V) (c:Addr):Prop:=∃a r,t=.ref a∧H a=some (.lst (.ref c::r))
structure SB (t:V) (H H':Hp):Prop where
 old:∀b o,H b=some o→V.ref b≠t→H' b=some o
 cell:∀c,cellIs H t c→cellIs H' t c
noncomputable instance {t:V} {H H':Hp}:CoeFun (SB t H H') (fun _=>∀b o,H b=some o→V.ref b≠t→H' b=some o):=⟨SB.old⟩
theorem SB.refl (t:V) (H:Hp):SB t H H:=⟨fun _ _ h _=>h,fun _ h=>h⟩
theorem SB.trans {t:V} {H H1 H2:Hp} (a:SB t H H1) (b:SB t H1 H2):SB t H H2:=⟨fun c o h n=>b.old c o (a.old c o h n) n,fun c h=>b.cell c (a.cell c h)⟩
theorem Same.sb {t:V} {H H':Hp} (e:Same H H'):SB t H H':=⟨fun b o h _=>e b o h,fun c ⟨a,r,h1,h2⟩=>⟨a,r,h1,e _ _ h2⟩⟩
theorem SB.keep {t:V} {H H':Hp} {n:Nat} (e:SB t H H') (T:Tp H t n):Keep H H':=fun b xs h=>by
 obtain ⟨a,c,cells,at',left,rfl,h1,_⟩:=T
 rcases h with h | ⟨o,h⟩
 ·exact .inl (e.old b _ h fun z=>by cases z;rw[h]at h1;cases h1)
 ·exact .inr ⟨o,e.old b _ h fun z=>by cases z;rw[h]at h1;cases h1⟩
theorem Tp.same {t:V} {H H':Hp} {n:Nat} (T:Tp H t n) (e:Same H H'):Tp H' t n:=by
 obtain ⟨a,c,cells,at',left,rfl,h1,h2,h3⟩:=T
 exact ⟨a,c,cells,at',left,rfl,e _ _ h1,e _ _ h2,h3⟩
theorem Tp.mono {t:V} {H:Hp} {m n:Nat} (T:Tp H t m) (h:m≤n):Tp H t n:=by
 obtain ⟨a,c,cells,at',left,rfl,h1,h2,h3,h4,h5⟩:=T
 exact ⟨a,c,cells,at',left,rfl,h1,h2,h3,by omega,h5⟩
end
theorem mod64 (x:Int) {m:Int} (h0:0 < m) (h1:m < 2 ^ 64):-(2 ^ 64) < x % m∧x % m < 2 ^ 64:=by
 have a:=Int.emod_nonneg x (show m≠0 by omega)
 have b:=Int.emod_lt_of_pos x h0
 omega
theorem cutV_63 (ns:List Int) (h:ns.length≤63):cutV (ns.map V.int) none (some 63)=ns.map V.int:=by
 unfold cutV
 have e:HT.sIx (ns.map V.int).length (ns.map V.int).length (some 63)=ns.length:=by
  rw[List.length_map]
  have:=HT.sIx_nat ns.length ns.length 63
  have e2:((63:Nat):Int)=63:=rfl
  rw[e2]at this
  rw[this];omega
 rw[e,HT.sIx_none,List.drop_zero,Nat.sub_zero]
 exact List.take_of_length_le (by rw[List.length_map];exact Nat.le_refl _)
end
theorem atI_all {α:Type} {P:α→Prop} {xs:List α} {r:Int} (h0:0≤r) (h1:r < (xs.length:Int)) (hP:∀x∈xs,P x):∃v,atI xs r=some v∧P v:=by
 obtain ⟨k,rfl⟩:∃k:Nat,r=(k:Int):=⟨r.toNat,by omega⟩
 have hr:k < xs.length:=by omega
 exact ⟨xs[k],atI_nat (List.getElem?_eq_getElem hr),hP _ (List.getElem_mem hr)⟩
theorem pow64 (x:Int) {m:Int} (h0:0 < m) (h1:m < 2 ^ 64):(x % m).natAbs < 2 ^ 64:=by
 have a:=mod64 x h0 h1
 omega
theorem Tp.ne {t:V} {H:Hp} {n:Nat} (T:Tp H t n) {l:Addr} (hl:H l=none):V.ref l≠t:=by
 obtain ⟨a,c,cells,at',left,rfl,h1,_⟩:=T
 intro z;cases z;rw[hl]at h1;cases h1
theorem great_step {r d:Int} {k:Nat} (h0:0≤r) (h1:r < 10 ^ (6 * k)) (d0:0≤d) (d1:d < 1000000):0≤r * 1000000 + d∧r * 1000000 + d < 10 ^ (6 * (k + 1)):=by
 have e:(10:Int) ^ (6 * (k + 1))=10 ^ (6 * k) * 1000000:=by rw[Nat.mul_succ,Int.pow_add];rfl
 rw[e]
 generalize (10:Int) ^ (6 * k)=z at h1
 omega
theorem pow10_mono {a b:Nat} (h:a≤b):(10:Int) ^ a≤10 ^ b:=by
 have:(10:Nat) ^ a≤10 ^ b:=Nat.pow_le_pow_right (by decide) h
 have:=Int.ofNat_le.mpr this
 push_cast at this
 exact this
theorem sign_cases {P:Int→Prop} {r:Int} (h0:0≤r) (h1:r < 2) (a:P 0) (b:P 1):P r:=by
 rcases (show r=0∨r=1 by omega) with rfl | rfl
 ·exact a
 ·exact b
end L2
namespace L2
open PySem
end L2
set_option Elab.async false
set_option linter.all false
set_option maxRecDepth 100000
namespace L2
open PySem PySem.Spec PyProof.Rows
structure QE (X:Cx) (e:Expr) (t:TE):Prop where
 o:PE X e t
structure QT (X:Cx) (e:Expr) (t:TT):Prop where
 o:PT X e t
structure QW (X:Cx) (e:Expr) (t:TT):Prop where
 o:PW X e t
structure QA (X:Cx) (es:List Expr) (t:TA):Prop where
 o:PA X es t
structure QS (X:Cx) (s:Stmt) (t:TS):Prop where
 o:PS X s t
structure QSs (X:Cx) (s:List Stmt) (t:TS):Prop where
 o:PSs X s t
structure QG (X:Cx) (e:Expr) (t:TG):Prop where
 o:PG X e t
structure QI (X:Cx) (tg it:Expr) (t:TI):Prop where
 o:PI X tg it t
structure QO (X:Cx) (e:Option Expr) (t:TO):Prop where
 o:PO X e t
theorem QW.pt {X:Cx} {e:Expr} {t:TT} (h:QW X e t):QT X e t:=⟨PW.pt h.o⟩
section
theorem qpe_var {X:Cx} {i:Nat} {x:Str} {pos:Pos} (hN:X.N[i]?=some x) (hv:Vis X.env.scope x) (hd:(x == ("__debug__":Str))=false:=by decide) (hcd:(x == ("__classdict__":Str))=false:=by decide):QE X (.Name x pos) (tVar i):=⟨pe_var (hN:=hN) (hv:=hv) (hd:=hd) (hcd:=hcd)⟩
theorem qpe_int {X:Cx} {i j pos}:QE X (.Constant (.int i) j pos) (tC (.int i)):=⟨pe_int⟩
theorem qpe_bl {X:Cx} {b j pos}:QE X (.Constant (.bool b) j pos) (tC (.bl b)):=⟨pe_bl⟩
theorem qpe_non {X:Cx} {j pos}:QE X (.Constant .none j pos) (tC .non):=⟨pe_non⟩
theorem qpe_str {X:Cx} {x j pos}:QE X (.Constant (.str x) j pos) (tC (.str x)):=⟨pe_str⟩
theorem qpe_glob {X:Cx} {x:Str} {v:V} {u:Value} {pos:Pos} (hg:Gl X x) (hm:X.mg x=some u) (r:RelV v u) (hd:(x == ("__debug__":Str))=false:=by decide):QE X (.Name x pos) (tC v):=⟨pe_glob (hg:=hg) (hm:=hm) (r:=r) (hd:=hd)⟩
theorem qpe_bltn {X:Cx} {x:Str} {v:V} {u:Value} {pos:Pos} (hg:Gl X x) (hm:X.mg x=none) (hv:bootBuiltins x=some u) (r:RelV v u) (hn:x≠"__name__":=by decide) (hd:(x == ("__debug__":Str))=false:=by decide):QE X (.Name x pos) (tC v):=⟨pe_bltn (hg:=hg) (hm:=hm) (hv:=hv) (r:=r) (hn:=hn) (hd:=hd)⟩
theorem qpt_val {X:Cx} {e:Expr} {t:TE} (h:QE X e t) (he:∀whole,isTrue e X.env whole=(do let v ←whole;standAt e.pos;holding [v] (truthy v)):=by intro _;rfl):QT X e (tB t):=⟨pt_val (h:=h.o) (he:=he)⟩
theorem qpw_and1 {X:Cx} {a:Expr} {tA:TT} {pos:Pos} (ha:QT X a tA):QW X (.BoolOp .And [a] pos) tA:=⟨pw_and1 (ha:=ha.o)⟩
theorem qpw_and {X:Cx} {a:Expr} {tA:TT} {b:Expr} {rest:List Expr} {pos:Pos} {tB':TT} (ha:QT X a tA) (hb:QW X (.BoolOp .And (b::rest) pos) tB'):QW X (.BoolOp .And (a::b::rest) pos) (tAnd tA tB'):=⟨pw_and (ha:=ha.o) (hb:=hb.o)⟩
theorem qpe_ifExp {X:Cx} {tA:TT} {a:Expr} {ta:TE} {b:Expr} {tb:TE} {pos:Pos} {c:Expr} (hc:QT X c tA) (ha:QE X a ta) (hb:QE X b tb):QE X (.IfExp c a b pos) (tIf tA ta tb):=⟨pe_ifExp (hc:=hc.o) (ha:=ha.o) (hb:=hb.o)⟩
theorem qpss_nil {X:Cx}:QSs X [] tNext:=⟨pss_nil⟩
theorem qpss_cons {X:Cx} {st:Stmt} {t:TS} {rest:List Stmt} {u:TS} (h1:QS X st t) (h2:QSs X rest u):QSs X (st::rest) (tSeq t u):=⟨pss_cons (h1:=h1.o) (h2:=h2.o)⟩
theorem qpss_one {X:Cx} {st:Stmt} {t:TS} (h1:QS X st t):QSs X [st] t:=⟨pss_one (h1:=h1.o)⟩
theorem qps_expr {X:Cx} {e:Expr} {te:TE} {pos:Pos} (he:QE X e te) (hs:swapsWith e none pos.line X.env=pure false:=by rfl):QS X (.Expr e pos) (tDrop te):=⟨ps_expr (he:=he.o) (hs:=hs)⟩
theorem qps_ret {X:Cx} {e:Expr} {te:TE} {pos:Pos} (he:QE X e te):QS X (.Return (some e) pos) (tRet te):=⟨ps_ret (he:=he.o)⟩
theorem qps_if {X:Cx} {t:TS} {u:TS} {pos:Pos} {c:Expr} {a b:List Stmt} {tc:TT} (hc:QT X c tc) (ha:QSs X a t) (hb:QSs X b u):QS X (.If c a b pos) (tIfS tc t u):=⟨ps_if (hc:=hc.o) (ha:=ha.o) (hb:=hb.o)⟩
theorem qpg_name {X:Cx} {pos:Pos} {i:Nat} {x:Str} (hN:X.N.Nodup) (hi:X.N[i]?=some x) (hx:Loc X.env.scope x) (hf:X.fn x=true∨X.env.scope.names.lookup x=some .local:=by first | exact .inl rfl | exact .inr rfl | assumption):QG X (.Name x pos) (gName i):=⟨pg_name (hN:=hN) (hi:=hi) (hx:=hx) (hf:=hf)⟩
theorem qpg_sub {X : Cx} {pos : Pos} {o i : Expr} {to ti : TE} {t : TSet} (ho : QE X o to) (hi : QE X i ti) (hs : PSet X t) (ha : ∀ v, assign (.Subscript o i pos) X.env v = (do
   let ov ←holding [v] (eval o X.env)
   let iv ←holding [v,ov] (eval i X.env)
   standAt pos
   holding [v,ov,iv] (setItem ov iv v)
   release [v,ov,iv] []):=by intro _;rfl):QG X (.Subscript o i pos) (gSub to ti t):=⟨pg_sub (ho:=ho.o) (hi:=hi.o) (hs:=hs) (ha:=ha)⟩
theorem qps_asg {X:Cx} {pos:Pos} {tg e:Expr} {te:TE} {g:TG} (he:QE X e te) (hg:QG X tg g) (hs:swapsWithSole [tg] e pos.line X.env=pure false:=by rfl) (hw:swappedStores [tg] e X.env=pure none:=by rfl) (h1:(assignEach [tg] X.env).map (·.2)=[assign tg X.env]:=by rfl):QS X (.Assign [tg] e pos) (tAsg te g):=⟨ps_asg (he:=he.o) (hg:=hg.o) (hs:=hs) (hw:=hw) (h1:=h1)⟩
theorem qps_set {X:Cx} {pos:Pos} {i:Nat} {x:Str} {e:Expr} {te:TE} {pos':Pos} (hN:X.N.Nodup) (hi:X.N[i]?=some x) (hx:Loc X.env.scope x) (he:QE X e te) (hs:swapsWith e (some (.Name x pos')) pos.line X.env=pure false:=by rfl) (hf:X.fn x=true∨X.env.scope.names.lookup x=some .local:=by first | exact .inl rfl | exact .inr rfl | assumption):QS X (.Assign [.Name x pos'] e pos) (tAsg te (gName i)):=⟨ps_set (hN:=hN) (hi:=hi) (hx:=hx) (he:=he.o) (hs:=hs) (hf:=hf)⟩
theorem qps_par {X:Cx} {pos:Pos} {i j:Nat} {x y:Str} {a b:Expr} {ta:TA} {px py pt:Pos} {kt k2 pt2} (hc:X.calm=true) (hN:X.N.Nodup) (hi:X.N[i]?=some x) (hj:X.N[j]?=some y) (hij:i≠j) (hx:X.env.scope.names.lookup x=some .local) (hy:X.env.scope.names.lookup y=some .local) (ha:QA X [a,b] ta) (hw:swappedStores [.Tuple [.Name x px,.Name y py] kt pt] (.Tuple [a,b] k2 pt2) X.env=pure (some [x,y])) (hs:swapsWithSole [.Tuple [.Name x px,.Name y py] kt pt] (.Tuple [a,b] k2 pt2) pos.line X.env=pure false:=by rfl):QS X (.Assign [.Tuple [.Name x px,.Name y py] kt pt] (.Tuple [a,b] k2 pt2) pos) (tPar i j ta):=⟨ps_par (hc:=hc) (hN:=hN) (hi:=hi) (hj:=hj) (hij:=hij) (hx:=hx) (hy:=hy) (ha:=ha.o) (hw:=hw) (hs:=hs)⟩
theorem qpi_tup {X:Cx} {tg:Expr} {l:Expr} {tl:TE} (hl:QE X l tl):QI X tg l (iTup X.K tl):=⟨pi_tup (hl:=hl.o)⟩
theorem qpi_range1 {X:Cx} {tg:Expr} {a:Expr} {ta:TA} {p pos:Pos} (hg:Gl X "range") (hm:X.mg "range"=none) (ha:QA X [a] ta) (hs:starEach [a] X.env=[(false,eval a X.env)]:=by rfl):QI X tg (.Call (.Name "range" p) [a] [] pos) (iRng1 ta):=⟨pi_range1 (hg:=hg) (hm:=hm) (ha:=ha.o) (hs:=hs)⟩
theorem qps_for {X:Cx} {tg:Expr} {iter:Expr} {body:List Stmt} {wi:TI} {g:TG} {tb:TS} {pos:Pos} (hp:PassesOwn (model X.prog X.w) X.A X.env X.xe) (hc:X.calm=true) (hi:QI X tg iter wi) (hg:QG X tg g) (hb:QSs X body tb) (hs:∀x,foldedSetIterable iter X.env x=pure x:=by intro _;rfl):QS X (.For tg iter body [] pos) (tFor wi g tb):=⟨ps_for (hp:=hp) (hc:=hc) (hi:=hi.o) (hg:=hg.o) (hb:=hb.o) (hs:=hs)⟩
theorem qpe_op {X:Cx} {a:Expr} {ta:TE} {b:Expr} {tb:TE} {pos:Pos} {op:Operator} {r:R2} (ho:OpR X (binaryOp op) r) (ha:QE X a ta) (hb:QE X b tb):QE X (.BinOp a op b pos) (tOp r ta tb):=⟨pe_op (ho:=ho) (ha:=ha.o) (hb:=hb.o)⟩
theorem qpe_un {X:Cx} {a:Expr} {ta:TE} {pos:Pos} {op:UnaryOp} {r:V→Hp→VK→Prop} (ho:UnR X (unaryOp op) r) (ha:QE X a ta):QE X (.UnaryOp op a pos) (tUn r ta):=⟨pe_un (ho:=ho) (ha:=ha.o)⟩
theorem qpe_cmpR {X:Cx} {a:Expr} {ta:TE} {b:Expr} {tb:TE} {pos:Pos} {op:CmpOp} {r:R2} (ho:OpR X (compareOp op) r) (ha:QE X a ta) (hb:QE X b tb) (hm:behindInMarks op b=false):QE X (.Compare a [op] [b] pos) (tOp r ta tb):=⟨pe_cmpR (ho:=ho) (ha:=ha.o) (hb:=hb.o) (hm:=hm)⟩
theorem qpt_cmpR {X:Cx} {a:Expr} {ta:TE} {b:Expr} {tb:TE} {pos:Pos} {op:CmpOp} {r:R2} (ho:OpR X (compareOp op) r) (ha:QE X a ta) (hb:QE X b tb) (hm:behindInMarks op b=false):QT X (.Compare a [op] [b] pos) (tTest (tOp r ta tb)):=⟨pt_cmpR (ho:=ho) (ha:=ha.o) (hb:=hb.o) (hm:=hm)⟩
theorem qpa_nil {X:Cx}:QA X [] tNil:=⟨pa_nil⟩
theorem qpa_cons {X:Cx} {e:Expr} {te:TE} {es:List Expr} {t:TA} (ha:QE X e te) (hr:QA X es t) (hs:starEach (e::es) X.env=(false,eval e X.env)::starEach es X.env:=by rfl):QA X (e::es) (tCons te t):=⟨pa_cons (ha:=ha.o) (hr:=hr.o) (hs:=hs)⟩
theorem qpe_tup {X:Cx} {es:List Expr} {t:TA} {pos:Pos} {x1} (h:QA X es t):QE X (.Tuple es x1 pos) (tTup t):=⟨pe_tup (h:=h.o)⟩
theorem qpe_lst {X:Cx} {es:List Expr} {t:TA} {pos:Pos} (h:QA X es t):QE X (.List es pos) (tLst t):=⟨pe_lst (h:=h.o)⟩
theorem qpe_cd {X:Cx} {x:Str} {ps:List Str} {n:Nat} {sp:Sp} {k:Nat} {e:Expr} {es:List Expr} {t:TA} {pos:Pos} {p:Pos} (D:Def X.prog X.w X.K X.mg X.base x ps n sp) (hr:Room k X.A) (ha:QA X (e::es) t) (hk:n≤k:=by decide) (hg:Gl X x:=by rfl) (hdb:(x == ("__debug__":Str))=false:=by decide) (he:starEach (e::es) X.env=(false,eval e X.env)::starEach es X.env:=by rfl) (hpl:(backTo pos (starEach es X.env)).any (·.1)=false:=by rfl):QE X (.Call (.Name x p) (e::es) [] pos) (tCall sp [] E0 t):=⟨pe_cd (D:=D) (hr:=hr) (ha:=ha.o) (hk:=hk) (hg:=hg) (hdb:=hdb) (he:=he) (hpl:=hpl)⟩
theorem qpe_callB {X:Cx} {id:String} {r:List V→Hp→VK→Prop} {x:Str} {e:Expr} {es:List Expr} {t:TA} {pos:Pos} {p:Pos} (hc:CallR X (.builtin id) r) (hg:Gl X x) (hm:X.mg x=none) (hv:bootBuiltins x=some (.builtin id)) (ha:QA X (e::es) t) (hn:x≠"__name__":=by decide) (hdb:(x == ("__debug__":Str))=false:=by decide) (he:starEach (e::es) X.env=(false,eval e X.env)::starEach es X.env:=by rfl) (hpl:(backTo pos (starEach es X.env)).any (·.1)=false:=by rfl):QE X (.Call (.Name x p) (e::es) [] pos) (tCB r t):=⟨pe_callB (hc:=hc) (hg:=hg) (hm:=hm) (hv:=hv) (ha:=ha.o) (hn:=hn) (hdb:=hdb) (he:=he) (hpl:=hpl)⟩
theorem qpo_none {X:Cx}:QO X none tNoPart:=⟨po_none⟩
theorem qpo_some {X:Cx} {e:Expr} {te:TE} (h:QE X e te):QO X (some e) (tPart te):=⟨po_some (h:=h.o)⟩
theorem qpe_slice {X:Cx} {e:Expr} {te:TE} {lo:Option Expr} {tl:TO} {hi:Option Expr} {th:TO} {p2:Pos} {pos:Pos} {r:V→Option Int→Option Int→Hp→VK→Prop} (hr:SlR X r) (he:QE X e te) (hl:QO X lo tl) (hu:QO X hi th):QE X (.Subscript e (.Slice lo hi none p2) pos) (tSl r te tl th):=⟨pe_slice (hr:=hr) (he:=he.o) (hl:=hl.o) (hu:=hu.o)⟩
theorem qpe_ix {X:Cx} {a:Expr} {ta:TE} {b:Expr} {tb:TE} {pos:Pos} {r:R2} (hr:IxR X r) (ha:QE X a ta) (hb:QE X b tb) (hs:PlainIx b):QE X (.Subscript a b pos) (tOp r ta tb):=⟨pe_ix (hr:=hr) (ha:=ha.o) (hb:=hb.o) (hs:=hs)⟩
theorem qpe_bm {T : String} {name : Str} {id : String} {X : Cx} {r : V → List V → Hp → VK → Prop} {o : Expr} {to : TE} {e : Expr} {es : List Expr} {t : TA} {cpos : Pos} {apos : Pos} (pa : PlainAttrs T) (slot : Slot T name id) (hty : typeOf (.builtin id) = pure (.type "method_descriptor")) (hm : MtR X id r) (ho : QE X o to) (ha : QA X (e :: es) t) (hbase : attributeBase o name X.env (eval o X.env) = eval o X.env := by rfl) (hfew : ((backTo cpos (starEach (e :: es) X.env)).all (fun x => !x.1) && (backToKw cpos (keywordEach [] X.env)).all (fun x => x.1.isSome)
   && decide ((e::es).length + ([]:List Keyword).length + (if ([]:List Keyword).isEmpty then 0 else 1) < 30))=true:=by rfl) (hline:(apos.endLine == cpos.line)=true:=by rfl) (hs:starEach (e::es) X.env=(false,eval e X.env)::starEach es X.env:=by rfl) (hplain:(backTo cpos (starEach es X.env)).any (·.1)=false:=by rfl):QE X (.Call (.Attribute o name apos) (e::es) [] cpos) (tBM X.K T r to t):=⟨pe_bm (pa:=pa) (slot:=slot) (hty:=hty) (hm:=hm) (ho:=ho.o) (ha:=ha.o) (hbase:=hbase) (hfew:=hfew) (hline:=hline) (hs:=hs) (hplain:=hplain)⟩
theorem qpv {X:Cx} (i:Nat) {x:Str} {pos:Pos} (hN:X.N[i]?=some x:=by rfl) (hv:Vis X.env.scope x:=by first | exact Or.inl rfl | exact Or.inr (Or.inl rfl) | exact Or.inr (Or.inr rfl)) (hd:(x == ("__debug__":Str))=false:=by decide) (hcd:(x == ("__classdict__":Str))=false:=by decide):QE X (.Name x pos) (tVar i):=⟨pv (i:=i) (hN:=hN) (hv:=hv) (hd:=hd) (hcd:=hcd)⟩
end
theorem Def.mkq {P : Program} {w : World} {K : W.Frag} {mg : Str → Option Value} {base : Heap} {y x : Str} {st : Stmt} {N ps : List Str} {n : Nat} {sp : Sp} (T : Src K mg y x st) (S : FnScope N ps (defScope st)) (len : ∀ vs H Q E, sp vs H Q E → vs.length = ps.length)
  (hb:∀(kV doc pm:Value) (an:Option Addr) (cdv ct:Value) (us:List Value),us.length=ps.length→bindArgs (PySem.W.fnOf x x (defArgs st) (defBody st) (defScope st) .none kV doc pm an cdv ct) ⟨us,[]⟩=pure (ps.zip us))
  (hbody:∀(f:Addr) (cdv:Value) (A:Around) (outer:List Env) (s:Shared) (H:Hp) (vs:List V) (Q:VK) (E:XK),Room n (A.deeper (envOfC x (defScope st) s.heap.objs.size f cdv))→sp vs H Q E→
   ∃t,QSs (cxOf CX0 P w K mg base N x (defScope st) f cdv A outer s H E).nox (defBody st) t∧t {nx:=fun _ H'=>Q .non H',rt:=Q} (start N vs) H):Def P w K mg base y ps (n + 1) sp:=
 Def.mk' T S len hb fun f cdv A outer s H vs Q E hr h=>let ⟨t,q,r⟩:=hbody f cdv A outer s H vs Q E hr h;⟨t,q.o,r⟩
structure Sw (n v:Nat) (d:PyData):Prop where
 sh:ShB d
 dp:d.depth≤n
 sz:d.shown.length≤v
theorem Sw.shw {n v:Nat} {d:PyData} (h:Sw n v d) (hn:n≤60:=by decide) (hv:v≤16777216:=by decide):Shw d:=⟨h.sh,Nat.le_trans h.dp hn,Nat.le_trans h.sz (by rw[sizeLine_eq];exact hv)⟩
theorem Sw.mono {n v m w:Nat} {d:PyData} (h:Sw n v d) (hn:n≤m) (hv:v≤w):Sw m w d:=⟨h.sh,Nat.le_trans h.dp hn,Nat.le_trans h.sz hv⟩
theorem Sw.intB {i:Int} {m:Nat} (h:Bt m i) (h0:0 < m) (hm:m≤14000):Sw 0 (m + 1) (.int i):=by
 have hl:i.natAbs.log2 < m:=h.log2 h0
 refine ⟨by simp only[ShB];exact h.mono hm,by simp only[PyData.depth];exact Nat.le_refl _,?_⟩
 simp only[PyData.shown]
 have e:=int_text_length_le (k:=m) h0 hl
 rw[PySem.ofString_length]
 omega
theorem Sw.int {i:Int} (h:Bt 1919 i):Sw 0 2000 (.int i):=(Sw.intB h (by decide) (by decide)).mono (Nat.le_refl _) (by decide)
theorem Sw.bool (b:Bool):Sw 0 2000 (.bool b):=by
 refine ⟨by simp only[ShB],by simp only[PyData.depth];exact Nat.le_refl _,?_⟩
 simp only[PyData.shown]
 cases b <;> decide
theorem Sw.non:Sw 0 2000 .none:=by
 refine ⟨by simp only[ShB],by simp only[PyData.depth];exact Nat.le_refl _,?_⟩
 simp only[PyData.shown]
 decide
theorem sw_all {n v:Nat}:∀{ds:List PyData},(∀d∈ds,Sw n v d)→ShBs ds∧PyData.depthAll ds≤n∧piled (PyData.shownAll ds)≤ds.length * (v + 2)
 | [],_=>⟨by simp only[ShBs],by simp only[PyData.depthAll];omega,by simp[PyData.shownAll,piled]⟩
 | d::ds,h=>by
  obtain ⟨h1,h3,h4⟩:=sw_all (ds:=ds) fun x hx=>h x (List.mem_cons_of_mem _ hx)
  have hd:=h d (List.mem_cons_self ..)
  refine ⟨by simp only[ShBs];exact ⟨hd.sh,h1⟩,by simp only[PyData.depthAll];have:=hd.dp;omega,?_⟩
  have e:piled (PyData.shownAll (d::ds))=d.shown.length + 2 + piled (PyData.shownAll ds):=by simp[PyData.shownAll,piled]
  have:=hd.sz
  rw[e,List.length_cons,Nat.succ_mul]
  omega
theorem tupleText_le (ts:List Str):(tupleText ts).length≤piled ts + 4:=by
 unfold tupleText
 have e1:("(":Str).length=1:=by decide
 have e2:∀b:Bool,((if b=true then ",)" else ")":String):Str).length≤2:=fun b=>by cases b <;> decide
 have e3:=e2 (ts.length == 1)
 have e4:(Str.join ", " ts).length≤piled ts + 1:=by
  cases ts with
  | nil=>decide
  | cons x r=>have:=join_length_add (x::r) (by simp);omega
 rw[Str.length_append,Str.length_append]
 omega
theorem Sw.tup {n v:Nat} {ds:List PyData} (h:∀d∈ds,Sw n v d):Sw (n + 1) (ds.length * (v + 2) + 4) (.tuple ds):=by
 obtain ⟨h1,h3,h4⟩:=sw_all h
 refine ⟨by simp only[ShB];exact h1,by simp only[PyData.depth];omega,?_⟩
 simp only[PyData.shown]
 exact Nat.le_trans (tupleText_le _) (by omega)
theorem Sw.shr {x:Rat} (h:Bs 1919 x):Sw 1 5000 (L2.sh x):=by
 refine (Sw.tup (n:=0) (v:=2000) (ds:=[.int x.num,.int (x.den:Int)]) ?_).mono (Nat.le_refl _) (by show 2 * (2000 + 2) + 4≤5000;decide)
 intro d hd
 simp only[List.mem_cons,List.not_mem_nil,or_false]at hd
 rcases hd with rfl | rfl
 ·exact .int h.n
 ·exact .int h.d
theorem Sw.pair {n v:Nat} {a b:PyData} (h1:Sw n v a) (h2:Sw n v b):Sw (n + 1) (2 * (v + 2) + 4) (.tuple [a,b]):=Sw.tup (ds:=[a,b]) fun d hd=>by
 simp only[List.mem_cons,List.not_mem_nil,or_false]at hd
 rcases hd with rfl | rfl
 ·exact h1
 ·exact h2
end L2
namespace L2
open PySem
end L2
namespace L2
open PySem PySem.Spec PyProof.Rows
theorem Sw.lst {n v:Nat} {ds:List PyData} (h:∀d∈ds,Sw n v d):Sw (n + 1) (ds.length * (v + 2) + 4) (.list ds):=by
 obtain ⟨h1,h3,h4⟩:=sw_all h
 refine ⟨by simp only[ShB];exact h1,by simp only[PyData.depth];omega,?_⟩
 simp only[PyData.shown]
 have e:=listText_len_le (PyData.shownAll ds)
 have e2:∀ts:List Str,piled ts=(ts.map (·.length)).sum + 2 * ts.length:=by
  intro ts
  induction ts with
  | nil=>rfl
  | cons x r ih=>
   have:piled (x::r)=x.length + 2 + piled r:=by simp[piled]
   rw[this,ih,List.map_cons,List.sum_cons,List.length_cons];omega
 rw[e2]at h4
 omega
theorem Sw.str {x:Str} {v:Nat} (h:(PyData.str x).shown.length≤v):Sw 0 v (.str x):=⟨by simp only[ShB],by simp only[PyData.depth];exact Nat.le_refl _,h⟩
theorem sw_kv {n v:Nat}:∀{kds:List (PyData×PyData)},(∀p∈kds,Sw n v p.1∧Sw n v p.2)→ShBp kds∧PyData.depthKv kds≤n∧((PyData.shownKv kds).map (·.length)).sum≤kds.length * (2 * v + 2)∧(PyData.shownKv kds).length=kds.length
 | [],_=>⟨by simp only[ShBp],by simp only[PyData.depthKv];omega,by simp[PyData.shownKv],by simp[PyData.shownKv]⟩
 | (a,b)::r,h=>by
  obtain ⟨h1,h2,h3,h4⟩:=sw_kv (kds:=r) fun x hx=>h x (List.mem_cons_of_mem _ hx)
  obtain ⟨ha,hb⟩:=h (a,b) (List.mem_cons_self ..)
  have za:a.shown.length≤v:=ha.sz
  have zb:b.shown.length≤v:=hb.sz
  have da:=ha.dp
  have db:=hb.dp
  refine ⟨by simp only[ShBp];exact ⟨ha.sh,hb.sh,h1⟩,by simp only[PyData.depthKv];exact Nat.max_le.mpr ⟨Nat.max_le.mpr ⟨da,db⟩,h2⟩,?_,by simp[PyData.shownKv,h4]⟩
  simp only[PyData.shownKv,List.map_cons,List.sum_cons,List.length_cons]
  have e1:(": ":Str).length=2:=by decide
  rw[Str.length_append,Str.length_append,Nat.succ_mul]
  omega
theorem Sw.dct {n v:Nat} {kds:List (PyData×PyData)} (h:∀p∈kds,Sw n v p.1∧Sw n v p.2):Sw (n + 1) (kds.length * (2 * v + 2) + 2 * kds.length + 3) (.dict kds):=by
 obtain ⟨h1,h2,h3,h4⟩:=sw_kv h
 refine ⟨by simp only[ShB];exact h1,by simp only[PyData.depth];omega,?_⟩
 simp only[PyData.shown]
 have:=dictText_len_le (PyData.shownKv kds)
 rw[h4]at this
 omega
section
noncomputable abbrev Cx.comp (X:Cx) (N:List Str) (scope:Scope) (cl:List (Str×Addr)) (C:Addr) (s₀:Shared) (H₀:Hp) (ex:List Addr) (E:Value→Shared→Prop):Cx:=
 {X with N:=N,s₀:=s₀,H₀:=H₀,env:=compEnvC scope cl C X.env,outer:=X.stack,ex:=ex,fn:=fun _=>false,pn:=[],xe:=E}
noncomputable def SubC (cells:List (Str×Addr)):List (Str×Addr)→Prop
 | []=>True
 | p::r=>cells.lookup p.1=some p.2∧SubC cells r
noncomputable def CapOk (X:Cx) (scope:Scope):List Str→List (Option Nat)→Prop
 | [],[]=>True
 | _::N,none::is=>CapOk X scope N is
 | x::N,some i::is=>(X.N[i]?=some x∧X.env.scope.names.lookup x=some .cell∧(relabel scope X.env).names.lookup x=some .cell)∧CapOk X scope N is
 | _,_=>False
structure CompOk (X:Cx) (N:List Str) (is:List (Option Nat)) (scope:Scope) (cl:List (Str×Addr)):Prop where
 kind:scope.kind=.function
 clos:closureFor scope X.env=pure cl
 cell:∀y∈scope.names,y.2≠.cell
 names:∀y∈scope.names,y.2=.local→scope.names.lookup y.1=some .local
 sub:SubC X.env.cells cl
 has:((relabel scope X.env).names.all fun y=>if y.2 == .cell || y.2 == .free then (cl.lookup y.1).isSome else true)=true
 cap:CapOk X scope N is
theorem SubC.look {cells:List (Str×Addr)}:∀{cl:List (Str×Addr)} {x:Str} {c:Addr},SubC cells cl→cl.lookup x=some c→cells.lookup x=some c
 | [],_,_,_,h=>by simp at h
 | p::r,x,c,h,e=>by
  obtain ⟨h1,h2⟩:=h
  rw[List.lookup_cons]at e
  cases hx:x == p.1 with
  | true=>
   rw[hx]at e
   have ex:x=p.1:=eq_of_beq hx
   cases e
   rw[ex];exact h1
  | false=>
   rw[hx]at e
   exact SubC.look h2 e
theorem lookup_mem {α:Type}:∀{l:List (Str×α)} {x:Str} {k:α},l.lookup x=some k→(x,k)∈l
 | [],_,_,h=>by simp at h
 | p::r,x,k,e=>by
  rw[List.lookup_cons]at e
  cases hx:x == p.1 with
  | true=>
   rw[hx]at e
   have ex:x=p.1:=eq_of_beq hx
   cases e
   rw[ex];exact List.mem_cons_self ..
  | false=>
   rw[hx]at e
   exact List.mem_cons_of_mem _ (lookup_mem e)
noncomputable def caps (is:List (Option Nat)) (σ:St):St:=is.map fun o=>match o with
 | none=>none
 | some i=>match σ[i]? with
  | some v=>v
  | none=>none
theorem CapOk.len {X:Cx} {scope:Scope}:∀{N:List Str} {is:List (Option Nat)},CapOk X scope N is→N.length=is.length
 | [],[],_=>rfl
 | _::N,none::is,h=>by have h':CapOk X scope N is:=h;simp[CapOk.len h']
 | _::N,some i::is,h=>by have h':=h.2;simp[CapOk.len h']
 | [],_::_,h=>h.elim
 | _::_,[],h=>h.elim
theorem CapOk.get {X : Cx} {scope : Scope} {σ : St} : ∀ {N : List Str} {is : List (Option Nat)} {j : Nat} {x : Str} {v : V}, CapOk X scope N is → N[j]? = some x → (caps is σ)[j]? = some (some v) →
  ∃i:Nat,X.N[i]?=some x∧σ[i]?=some (some v)∧X.env.scope.names.lookup x=some .cell∧(relabel scope X.env).names.lookup x=some .cell
 | [],[],_,_,_,_,e,_=>by simp at e
 | [],_::_,_,_,_,h,_,_=>h.elim
 | _::_,[],_,_,_,h,_,_=>h.elim
 | y::N,none::is,0,x,v,h,e,q=>by
  have q':some (none:Option V)=some (some v):=q
  cases q'
 | y::N,none::is,j + 1,x,v,h,e,q=>CapOk.get (N:=N) (is:=is) (j:=j) h e q
 | y::N,some i::is,0,x,v,h,e,q=>by
  cases e
  obtain ⟨⟨h1,h2,h3⟩,_⟩:=h
  refine ⟨i,h1,?_,h2,h3⟩
  have q':some (match σ[i]? with | some v=>v | none=>none)=some (some v):=q
  cases hs:σ[i]? with
  | none=>rw[hs]at q';cases q'
  | some w=>rw[hs]at q';injection q' with q'';exact congrArg some q''
 | y::N,some i::is,j + 1,x,v,h,e,q=>CapOk.get (N:=N) (is:=is) (j:=j) h.2 e q
noncomputable def PF (X:Cx) (ifs:List Expr) (t:TT):Prop:=
 ∀(pins:List (Addr×Obj)) (s:Shared) (σ:St) (H:Hp) (Q:Bool→Hp→Prop),Inv X pins σ H s→t σ H Q→
  wpAny (model X.prog X.w) X.A (forIn ifs true fun c r=>if r=true then do let ok ←isTrue c X.env (eval c X.env);pure (ForInStep.yield ok) else pure (ForInStep.yield r)) (TP X pins σ Q) X.xe s
noncomputable def tYes:TT:=fun _ H Q=>Q true H
theorem pf_nil {X:Cx}:PF X [] tYes:=fun pins s σ H Q I h=>wpAny_tests_nil ⟨H,I,h⟩
noncomputable def CompW (J:It) (g:TG) (tt:TT) (te:TE) (D:Addr) (σ0:St) (H0:Hp) (Q:VK):Prop:=
 ∃W:Nat→Nat→St→Hp→Prop,(∃m,W 0 m σ0 H0)∧∀i m σ' H',W i m σ' H'→
  (J.stop i H'∧(∃ys,H' D=some (.lst ys))∧Q (.ref D) H')∨(J.go i H'∧∃N:St→Hp→Prop,(∀σ2 H2,N σ2 H2→∃m',m' < m∧W (i + 1) m' σ2 H2)∧
   ∀x H2,J.yld i H' x H2→g x σ' H2 fun σ2 H3=>tt σ2 H3 fun b H4=>if b=true then te σ2 H4 fun y H5=>∃xs,H5 D=some (.lst xs)∧xs.length < sizeLine∧N σ2 (upd H5 D (.lst (xs ++ [y]))) else N σ2 H4)
noncomputable def tComp (wi:TI) (g:TG) (tt:TT) (te:TE) (is:List (Option Nat)):TE:=fun σ H Q=>wi σ H fun J H1=>∀D,H1 D=none→CompW J g tt te D (caps is σ) (upd H1 D (.lst [])) Q
theorem codeAny_compLoop_own {prog : Program} {w : World} {A : Around} {R : Result → Shared → Prop} {s : Shared} {elt target iter : Expr} {ifs : List Expr} {scope : Scope} {pos : Pos} {it acc : Value} {env : Env} (I : Nat → Shared → Prop)
  (turn:∀n s,I n s→wpAny (model prog w) A (pyNext it) (fun r s₁=>match r with
   | none=>R (.ok .next) s₁
   | some v => wpAny (model prog w) A (letOwnedTupleGo target it v) (fun _ s₁' => wpAny (model prog w) A (assign target env v) (fun _ s₂ =>
     wpAny (model prog w) A (forIn ifs true fun c r=>if r=true then do let ok ←isTrue c env (eval c env);pure (ForInStep.yield ok) else pure (ForInStep.yield r)) (fun ok s₃=>
      if ok=true then wpAny (model prog w) A (eval elt env) (fun x s₄=>
       wpAny (model prog w) A (call (.builtin "list.append") [acc,x]) (fun _ s₅=>∃m,m < n∧I m s₅) (notedBy (model prog w) A env fun e s'=>R (.error e) s') s₄) (notedBy (model prog w) A env fun e s'=>R (.error e) s') s₃
      else ∃m,m < n∧I m s₃) (notedBy (model prog w) A env fun e s'=>R (.error e) s') s₂) (notedBy (model prog w) A env fun e s'=>R (.error e) s') s₁') (notedBy (model prog w) A env fun e s'=>R (.error e) s') s₁) (notedBy (model prog w) A env fun e s'=>R (.error e) s') s)
  (n:Nat) (h:I n s) :
  codeAny (model prog w) A (.compLoop (.ListComp elt [⟨target,iter,ifs,0⟩] scope pos) 0 it acc env) R s:=by
 refine codeAny_loop rfl I (fun n s hI=>?_) n h
 show wpAny _ A ((compTurn (.ListComp elt [⟨target,iter,ifs,0⟩] scope pos) 0 it acc env).onRaise (fun x=>do noteFrame x env;theTreesLotGoes x)) _ _ s
 refine wpAny_noted ?_
 rw[compTurn_list]
 refine wpAny_bind (wpAny_standAt (wpAny_bind (wpAny_mono (turn n s hI) (fun r s₁ h₁=>?_) fun _ _ h'=>h')))
 cases r with
 | none=>exact wpAny_pure h₁
 | some v=>
  refine wpAny_bind (wpAny_mono h₁ (fun _ s₁' h₁'=>?_) fun _ _ h'=>h')
  refine wpAny_bind (wpAny_mono h₁' (fun _ s₂ h₂=>wpAny_bind (wpAny_mono h₂ (fun ok s₃ h₃=>?_) fun _ _ h'=>h')) fun _ _ h'=>h')
  cases ok with
  | false=>exact wpAny_pure ⟨rfl,h₃⟩
  | true=>
   exact wpAny_bind (wpAny_bind (wpAny_mono h₃ (fun x s₄ h₄=>wpAny_bind (wpAny_mono h₄ (fun _ s₅ h₅=>wpAny_pure (wpAny_pure ⟨rfl,h₅⟩)) fun _ _ h'=>h')) fun _ _ h'=>h'))
section
variable {X:Cx}
end
end
section
structure QF (X:Cx) (es:List Expr) (t:TT):Prop where
 o:PF X es t
theorem qpf_nil {X:Cx}:QF X [] tYes:=⟨pf_nil⟩
section
variable {X:Cx}
end
end
end L2
set_option Elab.async false
set_option linter.all false
set_option maxRecDepth 100000
namespace L2
open PySem
structure Pr (p:Int):Prop where
 two:2≤p
 no:∀d:Int,2≤d→d * d≤p→p % d≠0
noncomputable def lastOf (ps:List (Int×Int)):Int:=match ps.getLast? with
 | none=>1
 | some p=>p.1
structure Good (ps:List (Int×Int)):Prop where
 each:∀(i:Nat) (p:Int×Int),ps[i]?=some p→lastOf (ps.take i) < p.1∧0 < p.2∧Pr p.1
theorem Good.nil:Good []:=⟨fun i p h=>by simp at h⟩
end L2
set_option Elab.async false
set_option linter.all false
set_option maxRecDepth 100000
namespace L2
open PySem PySem.Spec PyProof.Rows
section
section
variable {X:Cx}
end
noncomputable def ch:Nat→Nat→Nat
 | _,0=>1
 | 0,_ + 1=>0
 | n + 1,k + 1=>ch n k + ch n (k + 1)
end
section
section
variable {X:Cx}
end
end
section
section
variable {X:Cx}
end
end
end L2
namespace L2
open PySem
end L2
namespace L2
open PySem PySem.Spec PyProof.Rows
section
section
variable {X:Cx} {K:W.Frag}
end
end
end L2
namespace L2
open PySem
end L2
set_option Elab.async false
set_option linter.all false
set_option maxRecDepth 100000
namespace L2
open PySem PySem.Spec PyProof.Rows
section
variable {prog:Program} {w:World} {A:Around} {E:Value→Shared→Prop} {s:Shared}
end
noncomputable def SqB (b:Bool) (K:W.Frag) (H:Hp) (a:Addr) (xs:List V):Prop:=match b with
 | false=>SqL K H a xs
 | true=>SqT K H a xs
noncomputable def ItB (b:Bool) (h:Heap) (it a:Addr) (i:Nat):Prop:=match b with
 | false=>h.IsListIter it a i
 | true=>h.IsTupleIter it a i
noncomputable def AtB (b:Bool) (h:Heap) (a:Addr) (its:Array Value):Prop:=match b with
 | false=>h.IsList a its
 | true=>h.IsTuple a its
theorem ItB.at {b:Bool} {h h':Heap} {it a:Addr} {i:Nat} (x:ItB b h it a i) (k:∀o,h.get? it=some o→h'.get? it=some o):ItB b h' it a i:=by
 cases b
 ·obtain ⟨o,e,r⟩:=x;exact ⟨o,k o e,r⟩
 ·obtain ⟨o,e,r⟩:=x;exact ⟨o,k o e,r⟩
section
variable {X:Cx} {pins:List (Addr×Obj)} {σ:St} {H:Hp} {s:Shared}
end
section
variable {prog:Program} {w:World} {A:Around} {E:Value→Shared→Prop} {s:Shared}
end
section
variable {prog:Program} {w:World} {A:Around} {E:Value→Shared→Prop} {s:Shared}
end
section
variable {X:Cx}
end
section
variable {prog:Program} {w:World} {A:Around} {E:Value→Shared→Prop} {s:Shared}
theorem AtB.at {b:Bool} {h h':Heap} {a:Addr} {its:Array Value} (x:AtB b h a its) (k:∀o,h.get? a=some o→h'.get? a=some o):AtB b h' a its:=by
 cases b
 ·obtain ⟨o,e,r⟩:=x;exact ⟨o,k o e,r⟩
 ·obtain ⟨o,e,r⟩:=x;exact ⟨o,k o e,r⟩
end
end L2
set_option Elab.async false
set_option linter.all false
set_option maxRecDepth 100000
namespace HT
open PySem PySem.Spec PyProof.Rows
section
variable {prog:Program} {w:World} {A:Around} {E:Value→Shared→Prop} {s:Shared}
end
end HT
namespace L2
open PySem PySem.Spec PyProof.Rows
section
variable {X:Cx}
noncomputable def tCutS (t:TS):TS:=fun D σ H=>∃N:St→Hp→Prop,t {D with nx:=N} σ H∧∀σ' H',N σ' H'→D.nx σ' H'
theorem ps_cut {st:Stmt} {t:TS} (h:PS X st t):PS X st (tCutS t):=by
 intro pins s σ H D I ⟨N,ht,hN⟩
 refine thn (h pins s σ H _ I ht) fun f s' q=>?_
 cases f with
 | next=>obtain ⟨σ',H',I',n⟩:=q;exact ⟨σ',H',I',hN _ _ n⟩
 | brk=>exact q
 | cont=>exact q
 | ret u=>exact q
theorem qps_cut {st:Stmt} {t:TS} (h:QS X st t):QS X st (tCutS t):=⟨ps_cut h.o⟩
end
end L2
namespace L2
open PySem PySem.Spec PyProof.Rows
section
theorem ten_two (k:Nat):(10:Int) ^ (6 * k)≤2 ^ (20 * k):=by
 have h:(10:Nat) ^ (6 * k)≤2 ^ (20 * k):=by
  rw[Nat.pow_mul,Nat.pow_mul]
  exact Nat.pow_le_pow_left (by decide) k
 have:=Int.ofNat_le.mpr h
 push_cast at this
 exact this
section
variable {K:W.Frag} {H H':Hp}
theorem SqB.same {b:Bool} {a:Addr} {xs:List V} (h:SqB b K H a xs) (e:Same H H'):SqB b K H' a xs:=by
 cases b
 ·exact e.seq h
 ·exact e.seqT h
theorem DvAll.at:∀{vs:List V} {ds:List PyData} {i:Nat} {v:V},DvAll K H vs ds→vs[i]?=some v→∃d,ds[i]?=some d∧Dv K H v d
 | _,_,i,_,.nil,h=>by simp at h
 | _,_,0,_,.cons h _,e=>by cases e;exact ⟨_,rfl,h⟩
 | _,_,i + 1,_,.cons _ t,e=>by
  obtain ⟨d,q,r⟩:=DvAll.at t (i:=i) e
  exact ⟨d,q,r⟩
end
theorem Bs.int {m:Nat} {c:Int} (h:Bt m c) (hm:0 < m):Bs m (c:Rat):=⟨by simpa using h,by
 show (((c:Rat).den:Nat):Int).natAbs < 2 ^ m
 simp
 omega⟩
end
section
section
variable {X:Cx} {tg:Expr}
end
end
section
section
variable {X:Cx} {K:W.Frag}
end
end
section
section
variable {κ:Type} [DecidableEq κ]
noncomputable def valV (kvs:List (κ×V)) (k:κ):Option V:=(kvs.find? fun kv=>decide (kv.1=k)).map (·.2)
noncomputable def putK (kvs:List (κ×V)) (k:κ) (v:V):List (κ×V):=
 if (kvs.any fun kv=>decide (kv.1=k))=true then kvs.map (fun kv=>if kv.1=k then (kv.1,v) else kv) else kvs ++ [(k,v)]
theorem valV_pos {p:κ×V} {r:List (κ×V)} {k:κ} (e:p.1=k):valV (p::r) k=some p.2:=by simp[valV,List.find?_cons,e]
theorem valV_neg {p:κ×V} {r:List (κ×V)} {k:κ} (e:¬p.1=k):valV (p::r) k=valV r k:=by simp[valV,List.find?_cons,e]
theorem valV_any (k:κ):∀kvs:List (κ×V),(kvs.any fun kv=>decide (kv.1=k))=(valV kvs k).isSome
 | []=>rfl
 | p::r=>by
  rw[List.any_cons]
  by_cases e:p.1=k
  ·simp only[valV_pos e,decide_eq_true e,Bool.true_or,Option.isSome_some]
  ·rw[valV_neg e,decide_eq_false e,Bool.false_or];exact valV_any k r
theorem length_putK (kvs:List (κ×V)) (k:κ) (v:V):(putK kvs k v).length≤kvs.length + 1:=by
 unfold putK
 split
 ·rw[List.length_map];omega
 ·rw[List.length_append,List.length_cons,List.length_nil];omega
theorem RelO.isSome_eq {o:Option V} {u:Option Value} (r:RelO o u):o.isSome=u.isSome:=by
 cases o with
 | none=>cases u with
  | none=>rfl
  | some _=>exact (show False from r).elim
 | some _=>cases u with
  | none=>exact (show False from r).elim
  | some _=>rfl
theorem KV.val {kvs:List (κ×V)} {vs:List (κ×Value)} (r:KV kvs vs) (k:κ):RelO (valV kvs k) (valueAt vs k):=by
 unfold KV at r
 induction r with
 | nil=>exact True.intro
 | @cons p q ps qs h t ih=>
  obtain ⟨h1,h2⟩:=h
  by_cases e:p.1=k
  ·have e':q.1=k:=h1.symm.trans e
   have b:valueAt (q::qs) k=some q.2:=by simp[valueAt,List.find?_cons,e']
   rw[valV_pos e,b];exact h2
  ·have e':¬q.1=k:=fun z=>e (h1.trans z)
   have b:valueAt (q::qs) k=valueAt qs k:=by simp[valueAt,List.find?_cons,e']
   rw[valV_neg e,b];exact ih
theorem KV.any {kvs:List (κ×V)} {vs:List (κ×Value)} (r:KV kvs vs) (k:κ):(kvs.any fun kv=>decide (kv.1=k))=vs.any fun kv=>decide (kv.1=k):=by
 unfold KV at r
 induction r with
 | nil=>rfl
 | cons h t ih=>rw[List.any_cons,List.any_cons,ih,h.1]
theorem KV.repl {kvs : List (κ × V)} {vs : List (κ × Value)} (r : KV kvs vs) (k : κ) {y : V} {u : Value} (ry : RelV y u) :
  KV (kvs.map fun kv=>if kv.1=k then (kv.1,y) else kv) (vs.map fun kv=>if kv.1=k then (kv.1,u) else kv):=by
 unfold KV at r ⊢
 induction r with
 | nil=>exact .nil
 | @cons p q ps qs h t ih=>
  rw[List.map_cons,List.map_cons]
  refine .cons ?_ ih
  obtain ⟨h1,h2⟩:=h
  by_cases e:p.1=k
  ·rw[if_pos e,if_pos (h1.symm.trans e)];exact ⟨h1,ry⟩
  ·rw[if_neg e,if_neg (fun z=>e (h1.trans z))];exact ⟨h1,h2⟩
theorem KV.put {kvs:List (κ×V)} {vs:List (κ×Value)} (r:KV kvs vs) (k:κ) {y:V} {u:Value} (ry:RelV y u):KV (putK kvs k y) (stored vs k u):=by
 unfold putK stored
 rw[r.any k]
 by_cases e:(vs.any fun kv=>decide (kv.1=k))=true
 ·rw[if_pos e,if_pos e];exact r.repl k ry
 ·rw[if_neg e,if_neg e];exact Paired.snoc r ⟨rfl,ry⟩
theorem KV.keys {kvs:List (κ×V)} {vs:List (κ×Value)} (r:KV kvs vs):kvs.map (·.1)=vs.map (·.1):=by
 unfold KV at r
 induction r with
 | nil=>rfl
 | cons h t ih=>rw[List.map_cons,List.map_cons,ih,h.1]
theorem KV.length {kvs:List (κ×V)} {vs:List (κ×Value)} (r:KV kvs vs):kvs.length=vs.length:=Paired.length r
end
theorem kV_is {P:Program} {w:World} {k:Key} {u:Value} (r:RelV (kV k) u):(mixKind P w).is k u=true:=by
 cases k with
 | inl i=>obtain ⟨t,e⟩:=(show ∃t,u=Value.int i t from r);subst e;exact mixKind_int P w i t
 | inr x=>obtain ⟨t,e⟩:=(show ∃t,u=Value.str x t from r);subst e;exact mixKind_str P w x t
theorem items_are {P:Program} {w:World}:∀{ks:List Key} {us:List Value},Vals (ks.map kV) us→ItemsAre (mixKind P w) ks us
 | [],_,r=>by rw[List.map_nil]at r;cases r;exact .nil
 | k::ks,_,r=>by
  rw[List.map_cons]at r
  cases r with
  | cons h t=>exact .cons (kV_is h) (items_are t)
noncomputable abbrev KT (H:Hp):List (List Key×V)→List (List Key×Addr×Value)→Prop:=Paired fun p q=>p.1=q.1∧H q.2.1=some (.tup (p.1.map kV))∧RelV p.2 q.2.2
theorem KT.val {H:Hp} {kvs:List (List Key×V)} {xs:List (List Key×Addr×Value)} (r:KT H kvs xs) (k:List Key):RelO (valV kvs k) ((atKey xs k).map (·.2)):=by
 induction r with
 | nil=>exact True.intro
 | @cons p q ps qs h t ih=>
  obtain ⟨h1,_,h2⟩:=h
  by_cases e:p.1=k
  ·have e':q.1=k:=h1.symm.trans e
   have b:atKey (q::qs) k=some q.2:=by simp[atKey,List.find?_cons,e']
   rw[valV_pos e,b];exact h2
  ·have e':¬q.1=k:=fun z=>e (h1.trans z)
   have b:atKey (q::qs) k=atKey qs k:=by simp[atKey,List.find?_cons,e']
   rw[valV_neg e,b];exact ih
theorem KT.repl {H : Hp} {kvs : List (List Key × V)} {xs : List (List Key × Addr × Value)} (r : KT H kvs xs) (k : List Key) {y : V} {u : Value} (ry : RelV y u) :
  KT H (kvs.map fun kv=>if kv.1=k then (kv.1,y) else kv) (xs.map (putAt k u)):=by
 induction r with
 | nil=>exact .nil
 | @cons p q ps qs h t ih=>
  rw[List.map_cons,List.map_cons]
  refine .cons ?_ ih
  obtain ⟨h1,h2,h3⟩:=h
  unfold putAt
  by_cases e:p.1=k
  ·rw[if_pos e,if_pos (h1.symm.trans e)];exact ⟨h1,h2,ry⟩
  ·rw[if_neg e,if_neg (fun z=>e (h1.trans z))];exact ⟨h1,h2,h3⟩
theorem KT.put {H : Hp} {kvs : List (List Key × V)} {xs : List (List Key × Addr × Value)} (r : KT H kvs xs) (k : List Key) {b : Addr} {y : V} {u : Value} (hb : H b = some (.tup (k.map kV))) (ry : RelV y u) :
  KT H (putK kvs k y) (storedH xs k b u):=by
 have e:(kvs.any fun kv=>decide (kv.1=k))=(atKey xs k).isSome:=by
  rw[valV_any,(r.val k).isSome_eq,Option.isSome_map]
 unfold putK storedH
 rw[e]
 by_cases q:(atKey xs k).isSome=true
 ·rw[if_pos q,if_pos q];exact r.repl k ry
 ·rw[if_neg q,if_neg q];exact Paired.snoc r ⟨rfl,hb,ry⟩
theorem KT.keeps {H H':Hp} {kvs:List (List Key×V)} {xs:List (List Key×Addr×Value)} (r:KT H kvs xs) (ht:∀b ys,H b=some (.tup ys)→H' b=some (.tup ys)):KT H' kvs xs:=
 Paired.mapP r fun _ _ z=>⟨z.1,ht _ _ z.2.1,z.2.2⟩
section
variable {P:Program} {w:World} {H:Hp} {h:Heap} {a:Addr}
theorem rd_of {u:HO} (ok:HOk P w H h) (e:Rd H a u):ObjOk P w H h a u:=e.ok ok
theorem dk_rd {kvs:List (Key×V)} (ok:HOk P w H h) (e:Rd H a (.dK kvs)):kvs.length≤sizeLine∧(a == sysModules)=false∧∃vs,KV kvs vs∧h.DictOf (mixKind P w) a vs:=
 show ObjOk P w H h a (.dK kvs) from rd_of ok e
theorem dk_of {kvs:List (Key×V)} (ok:HOk P w H h) (e:H a=some (.dK kvs)):kvs.length≤sizeLine∧(a == sysModules)=false∧∃vs,KV kvs vs∧h.DictOf (mixKind P w) a vs:=dk_rd ok (.inl e)
theorem key_of {ks:List Key} (ok:HOk P w H h) (e:H a=some (.tup (ks.map kV))):(tupleKind (mixKind P w)).is h ks a:=by
 obtain ⟨_,its,r,o,h1,h2,n,h3⟩:=(show ObjOk P w H h a (.tup (ks.map kV)) from ok a _ e)
 exact ⟨o,its.toArray,n,h1,h2,h3,by simpa using items_are r⟩
theorem dt_rd {kvs : List (List Key × V)} (ok : HOk P w H h) (e : Rd H a (.dT kvs)) : kvs.length ≤ sizeLine ∧ (a == sysModules) = false ∧
  ∃xs,KT H kvs xs∧h.DictOfH (tupleKind (mixKind P w)) a xs:=by
 obtain ⟨z,y,xs,r,o,es,ep,h1,h2,h3,h4,h5⟩:=(show ObjOk P w H h a (.dT kvs) from rd_of ok e)
 refine ⟨z,y,xs,r,o,es,ep,h1,h2,h3,h4,fun x hx=>?_,h5⟩
 have all:∀{l:List (List Key×V)} {m:List (List Key×Addr×Value)},KT H l m→∀x∈m,(tupleKind (mixKind P w)).is h x.1 x.2.1:=by
  intro l m q
  induction q with
  | nil=>intro x hx;exact nomatch hx
  | @cons p q ps qs hq t ih=>
   intro x hx
   rcases List.mem_cons.mp hx with e | hx
   ·subst e
    exact key_of ok (by rw[←hq.1];exact hq.2.1)
   ·exact ih x hx
 exact all r x hx
theorem dt_of {kvs : List (List Key × V)} (ok : HOk P w H h) (e : H a = some (.dT kvs)) : kvs.length ≤ sizeLine ∧ (a == sysModules) = false ∧
  ∃xs,KT H kvs xs∧h.DictOfH (tupleKind (mixKind P w)) a xs:=dt_rd ok (.inl e)
end
noncomputable def DGet (H:Hp) (a:Addr) (y:V) (r:Option V):Prop:=
 (∃kvs k,Rd H a (.dK kvs)∧y=kV k∧r=valV kvs k)∨∃kvs k b,Rd H a (.dT kvs)∧y=.ref b∧H b=some (.tup (k.map kV))∧r=valV kvs k
noncomputable def DPut (H:Hp) (a:Addr) (y v:V) (H':Hp):Prop:=
 (∃kvs k,H a=some (.dK kvs)∧y=kV k∧kvs.length < sizeLine∧H'=upd H a (.dK (putK kvs k v)))∨
 ∃kvs k b,H a=some (.dT kvs)∧y=.ref b∧H b=some (.tup (k.map kV))∧kvs.length < sizeLine∧H'=upd H a (.dT (putK kvs k v))
theorem DGet.k {H:Hp} {a:Addr} {kvs:List (Key×V)} {k:Key} (e:H a=some (.dK kvs)):DGet H a (kV k) (valV kvs k):=.inl ⟨kvs,k,.inl e,rfl,rfl⟩
theorem DGet.t {H:Hp} {a b:Addr} {kvs:List (List Key×V)} {k:List Key} (e:H a=some (.dT kvs)) (eb:H b=some (.tup (k.map kV))):DGet H a (.ref b) (valV kvs k):=.inr ⟨kvs,k,b,.inl e,rfl,eb,rfl⟩
theorem DPut.k {H:Hp} {a:Addr} {kvs:List (Key×V)} {k:Key} {v:V} (e:H a=some (.dK kvs)) (hl:kvs.length < sizeLine):DPut H a (kV k) v (upd H a (.dK (putK kvs k v))):=.inl ⟨kvs,k,e,rfl,hl,rfl⟩
theorem DPut.t {H : Hp} {a b : Addr} {kvs : List (List Key × V)} {k : List Key} {v : V} (e : H a = some (.dT kvs)) (eb : H b = some (.tup (k.map kV))) (hl : kvs.length < sizeLine) :
  DPut H a (.ref b) v (upd H a (.dT (putK kvs k v))):=.inr ⟨kvs,k,b,e,rfl,eb,hl,rfl⟩
section
variable {X:Cx} {pins:List (Addr×Obj)} {σ:St} {H:Hp} {s:Shared} {a:Addr} {y v:V} {u r:Value} {o:Option V} {A:Around} {E:Value→Shared→Prop}
theorem Inv.big (I:Inv X pins σ H s):sysModules < s.heap.objs.size:=by
 have h:mainGlobals < s.heap.objs.size:=(I.mod.glob.keeps I.bk).lt
 exact Nat.lt_trans (by decide) h
theorem d_write {h' : Heap} {t' : Nat} {ob : HO} (I : Inv X pins σ H s) (mu : Mut (H a)) (hs : Heap.SameBut a s.heap h') (he : ∃ q, h'.get? a = some q) (new : ObjOk X.prog X.w (upd H a ob) h' a ob) :
  Inv X pins σ (upd H a ob) {s with heap:=h',toks:=t'}:=
 I.write (x:=a) (e:=a) mu (.inl rfl) (fun b q hb z=>(hs.2 b hb).trans z) he new
theorem dk_new {P : Program} {w : World} {H' : Hp} {h' : Heap} {kvs : List (Key × V)} {vs : List (Key × Value)} (z : kvs.length ≤ sizeLine) (hd : (a == sysModules) = false) (rel : KV kvs vs) (dd : h'.DictOf (mixKind P w) a vs) :
  ObjOk P w H' h' a (.dK kvs):=⟨z,hd,vs,rel,dd⟩
theorem d_setItem {H' : Hp} {Q : Unit → Shared → Prop} (hu : A.units + 1 < cLine) (I : Inv X pins σ H s) (g : DPut H a y v H') (ry : RelV y u) (rv : RelV v r) (h : ∀ s', Inv X pins σ H' s' → Q () s') :
  wpAny (model X.prog X.w) A (setItem (.ref a) u r) Q E s:=by
 rcases g with ⟨kvs,k,e,ey,l,eH⟩ | ⟨kvs,k,b,e,ey,eb,l,eH⟩
 ·subst ey eH
  obtain ⟨z,hd,vs,rel,dd⟩:=dk_of I.hok e
  have hz:vs.length≤sizeLine:=by rw[←rel.length];exact z
  have hl:(putK kvs k v).length≤sizeLine:=by have:=length_putK kvs k v;omega
  refine wpAny_setItem_pairs (hsz:=hz) (kV_is ry) dd fun h' dd' hs=>h _ ?_
  have he:∃q,h'.get? a=some q:=let ⟨q,_,_,hq,_⟩:=dd';⟨q,hq⟩
  exact d_write I (by rw[e];exact True.intro) hs he (dk_new hl hd (rel.put k rv) dd')
 ·subst ey eH
  cases (show u=Value.ref b from ry)
  obtain ⟨z,hd,xs,rel,dd⟩:=dt_of I.hok e
  have hz:xs.length≤sizeLine:=by rw[←Paired.length rel];exact z
  have hl:(putK kvs k v).length≤sizeLine:=by have:=length_putK kvs k v;omega
  refine wpAny_setItem_heap (hsz:=hz) (tupleKind_room_in1 hu) (key_of I.hok eb) dd fun h' dd' hs=>h _ ?_
  obtain ⟨q,es,ep,hq,h2,h3,h4,_,h5⟩:=dd'
  refine d_write I (by rw[e];exact True.intro) hs ⟨q,hq⟩ ⟨hl,hd,_,(rel.put k eb rv).keeps fun c ys ec=>?_,q,es,ep,hq,h2,h3,h4,h5⟩
  rw[upd_ne (ne_of ec e (fun z=>nomatch z))]
  exact ec
end
section
variable {X:Cx} {pins:List (Addr×Obj)} {σ:St} {H:Hp} {s:Shared} {a:Addr} {kvs:List (Key×V)} {k:Key} {u:Value} {A:Around} {E:Value→Shared→Prop}
end
noncomputable def sDPut (td ty tv:TE):TS:=fun D σ H=>tv σ H fun v H1=>td σ H1 fun x H2=>ty σ H2 fun y H3=>∃a H4,x=.ref a∧DPut H3 a y v H4∧D.nx σ H4
section
variable {X:Cx} {o i e value:Expr} {pos pos' tpos:Pos} {td ty tv:TE}
theorem ps_dput (hu : X.A.units + 1 < cLine) (ho : PE X o td) (hi : PE X i ty) (hv : PE X value tv) (hs : swapsWith value (some (.Subscript o i pos')) pos.line X.env = pure false) :
  PS X (.Assign [.Subscript o i pos'] value pos) (sDPut td ty tv):=by
 intro pins s σ H D I h
 refine wpAny_Assign_Subscript (thn (hv pins s σ H _ I h) fun r s1 ⟨v,H1,I1,rv,q1⟩=>thn (ho pins s1 σ H1 _ I1 q1) fun u s2 ⟨x,H2,I2,rx,q2⟩=>thn (hi pins s2 σ H2 _ I2 q2) fun iv s3 ⟨y,H3,I3,ry,a,H4,ex,g,q3⟩=>?_) hs
 subst ex
 obtain rfl:u=Value.ref a:=rx
 exact d_setItem hu I3 g ry rv fun s4 I4=>⟨σ,H4,I4,q3⟩
end
theorem dk_empty {P:Program} {w:World} {H:Hp} (h:Heap) (hb:sysModules < h.objs.size):ObjOk P w H (h.push {cls:=.type "dict",data:=.dict #[]}) h.objs.size (.dK []):=
 ⟨Nat.zero_le _,beq_eq_false_iff_ne.mpr (Ne.symm (Nat.ne_of_lt hb)),[],.nil,Heap.DictOf.new h⟩
section
variable {X:Cx} {pos:Pos}
end
noncomputable def tPairs:List (TE×TE)→St→Hp→(List (V×V)→Hp→Prop)→Prop
 | [],_,H,Q=>Q [] H
 | (tk,tv)::r,σ,H,Q=>tk σ H fun x H1=>tv σ H1 fun y H2=>tPairs r σ H2 fun ps H3=>Q ((x,y)::ps) H3
noncomputable abbrev VV:List (V×V)→List (Value×Value)→Prop:=Paired fun p q=>RelV p.1 q.1∧RelV p.2 q.2
noncomputable def PPs (X:Cx) (pos:Pos) (keys:List (Option Expr)) (values:List Expr) (trs:List (TE×TE)):Prop:=
 ∀(pins:List (Addr×Obj)) (s:Shared) (σ:St) (H:Hp) (Q:List (V×V)→Hp→Prop),Inv X pins σ H s→tPairs trs σ H Q→
  wpAny (model X.prog X.w) X.A (evalPairs (pairTrees keys values X.env pos)) (fun vs s'=>∃ps H',Inv X pins σ H' s'∧VV ps vs∧Q ps H') X.xe s
theorem pps_nil {X:Cx} {pos:Pos}:PPs X pos [] [] []:=fun pins s σ H Q I h=>pairTrees_nil_walk ⟨[],H,I,.nil,h⟩
theorem pps_cons {X : Cx} {pos : Pos} {k v : Expr} {ks : List (Option Expr)} {vs : List Expr} {tk tv : TE} {trs : List (TE × TE)} (hk : PE X k tk) (hv : PE X v tv) (hr : PPs X pos ks vs trs) :
  PPs X pos (some k::ks) (v::vs) ((tk,tv)::trs):=fun pins s σ H Q I h=>
 pairTrees_cons_walk (thn (hk pins s σ H _ I h) fun u s1 ⟨x,H1,I1,rx,q1⟩=>thn (hv pins s1 σ H1 _ I1 q1) fun w2 s2 ⟨y,H2,I2,ry,q2⟩=>
  thn (hr pins s2 σ H2 _ I2 q2) fun ws s3 ⟨ps,H3,I3,rel,q3⟩=>⟨(x,y)::ps,H3,I3,.cons ⟨rx,ry⟩ rel,q3⟩)
noncomputable def mergeK (kvs more:List (Key×V)):List (Key×V):=more.foldl (fun acc kv=>putK acc kv.1 kv.2) kvs
theorem KV.merge:∀{more:List (Key×V)} {rs:List (Key×Value)} {kvs:List (Key×V)} {vs:List (Key×Value)},KV more rs→KV kvs vs→KV (mergeK kvs more) (merged vs rs):=by
 intro more rs kvs vs r
 unfold KV at r
 induction r generalizing kvs vs with
 | nil=>intro q;exact q
 | @cons p q ps qs h t ih=>
  intro r0
  have e:KV (putK kvs p.1 p.2) (stored vs q.1 q.2):=by
   have:=r0.put p.1 h.2
   rw[←h.1];exact this
  exact ih e
theorem length_mergeK:∀(more kvs:List (Key×V)),(mergeK kvs more).length≤kvs.length + more.length
 | [],kvs=>by show kvs.length≤kvs.length + 0;omega
 | p::r,kvs=>by
  have h1:=length_mergeK r (putK kvs p.1 p.2)
  have h2:=length_putK kvs p.1 p.2
  show (mergeK (putK kvs p.1 p.2) r).length≤_
  rw[List.length_cons];omega
theorem carries_of {P:Program} {w:World}:∀{kvs:List (Key×V)} {ws:List (Value×Value)},VV (kvs.map fun kv=>(kV kv.1,kv.2)) ws→∃rs,Carries (mixKind P w) ws rs∧KV kvs rs
 | [],_,r=>by rw[List.map_nil]at r;cases r;exact ⟨[],True.intro,.nil⟩
 | p::kvs,_,r=>by
  rw[List.map_cons]at r
  cases r with
  | @cons a b as bs h t=>
   obtain ⟨rs,c,q⟩:=carries_of (P:=P) (w:=w) t
   obtain ⟨b1,b2⟩:=b
   exact ⟨(p.1,b2)::rs,⟨kV_is h.1,rfl,c⟩,.cons ⟨rfl,h.2⟩ q⟩
noncomputable def tDisp (trs:List (TE×TE)):TE:=fun σ H Q=>∀p,H p=none→tPairs trs σ (upd H p (.dK [])) fun ps H2=>H2 p=some (.dK [])∧∃kvs:List (Key×V),ps=kvs.map (fun kv=>(kV kv.1,kv.2))∧kvs.length≤15∧Q (.ref p) (upd H2 p (.dK (mergeK [] kvs)))
theorem pe_disp {X : Cx} {pos : Pos} {keys : List (Option Expr)} {values : List Expr} {trs : List (TE × TE)} (h : PPs X pos keys values trs) (hall : keys.all (·.isSome) = true) (hl : keys.length = values.length) (h0 : keys ≠ [])
  (h15:keys.length≤15):PE X (.Dict keys values pos) (tDisp trs):=by
 intro pins s σ H Q I q
 have hn:=I.hok.fresh (Nat.le_refl s.heap.objs.size)
 have I1:=I.laid (a:=s.heap.objs.size) (o:=.dK []) (h':=s.heap.push {cls:=.type "dict",data:=.dict #[]}) (t':=s.toks) (fun _ _ q=>Heap.get?_push_of_some _ q) (Nat.le_refl _) (dk_empty s.heap I.big)
 refine wpAny_Dict_walk (knd:=mixKind X.prog X.w) hall hl h0 h15 (thn (h pins _ σ _ _ I1 (q _ hn)) fun ws s2 ⟨ps,H2,I2,rel,e,kvs,ep,lk,q2⟩=>?_)
 subst ep
 obtain ⟨rs,c,rk⟩:=carries_of (P:=X.prog) (w:=X.w) rel
 obtain ⟨z,hd,vs0,r0,dd⟩:=dk_of I2.hok e
 cases r0
 refine ⟨rs,c,dd,fun h' dd' hs=>⟨.ref s.heap.objs.size,_,?_,rfl,q2⟩⟩
 have hz:(mergeK [] kvs).length≤sizeLine:=by
  have h1:=length_mergeK kvs []
  rw[List.length_nil]at h1
  rw[sizeLine_eq];omega
 have he:∃q,h'.get? s.heap.objs.size=some q:=let ⟨q,_,_,hq,_⟩:=dd';⟨q,hq⟩
 exact d_write I2 (by rw[e];exact True.intro) hs he (dk_new hz hd (rk.merge .nil) dd')
end
section
section
variable {X:Cx}
theorem qpps_nil {pos:Pos}:PPs X pos [] [] []:=pps_nil
theorem qpps_cons {pos:Pos} {k v:Expr} {ks:List (Option Expr)} {vs:List Expr} {tk tv:TE} {trs:List (TE×TE)} (hk:QE X k tk) (hv:QE X v tv) (hr:PPs X pos ks vs trs):PPs X pos (some k::ks) (v::vs) ((tk,tv)::trs):=pps_cons hk.o hv.o hr
theorem qpe_disp {pos:Pos} {keys:List (Option Expr)} {values:List Expr} {trs:List (TE×TE)} (h:PPs X pos keys values trs) (hall:keys.all (·.isSome)=true:=by rfl) (hl:keys.length=values.length:=by rfl) (h0:keys≠[]:=by simp) (h15:keys.length≤15:=by decide):QE X (.Dict keys values pos) (tDisp trs):=
 ⟨pe_disp h hall hl h0 h15⟩
end
theorem ofString_small (x:String):∀c∈(Str.ofString x).cps.toList,c < 16 ^ 8:=by
 intro c hc
 rw[Str.ofString_eq_toList]at hc
 simp only[List.mem_map]at hc
 obtain ⟨k,_,e⟩:=hc
 have:=k.val.toNat_lt
 rw[←e]
 show k.val.toNat < 16 ^ 8
 omega
theorem Sw.num {i:Int} {m:Nat} (h:Bt m i) (h0:0 < m):Sw 0 (10 * (m + 1) + 2) (.str (toString i:String)):=by
 refine Sw.str ?_
 simp only[PyData.shown]
 have e:=PySem.StrLaws.reprText_len (Str.ofString (toString i)) (ofString_small _)
 have hl:i.natAbs.log2 < m:=h.log2 h0
 have e2:=int_text_length_le (k:=m) h0 hl
 rw[PySem.ofString_length]at e
 omega
end
end L2
namespace L2
open PySem PySem.Spec PyProof.Rows
noncomputable def tyName:PyData→String
 | .none=>"NoneType"
 | .bool _=>"bool"
 | .int _=>"int"
 | .str _=>"str"
 | .list _=>"list"
 | .tuple _=>"tuple"
 | .dict _=>"dict"
theorem Dv.ty {K:W.Frag} {H:Hp} {v:V} {d:PyData} (h:Dv K H v d):TyD K H v (tyName d):=by
 cases h with
 | non=>exact .non
 | bl b=>exact .bl b
 | int i=>exact .int i
 | str x=>exact .str x
 | lst h _=>exact .lst h
 | tup h _=>exact .tup h
 | dct h _ _=>exact .dK h
 | dcb h _ _=>exact .db h
noncomputable def isTupB:PyData→Bool
 | .tuple _=>true
 | _=>false
noncomputable def isLstB:PyData→Bool
 | .list _=>true
 | _=>false
section
variable {K:W.Frag}
theorem kit_lst (d:PyData):PySem.W.kitOne K (.type (tyName d)) (.type "list")=some (isLstB d):=by cases d <;> rfl
end
end L2
set_option Elab.async false
set_option linter.all false
set_option maxRecDepth 100000
namespace HT
open PySem PySem.Spec PyProof.Rows
section
variable {prog:Program} {w:World} {A:Around} {E:Value→Shared→Prop} {s:Shared}
end
end HT
namespace L2
open PySem PySem.Spec PyProof.Rows
section
variable {X:Cx}
end
end L2
namespace L2
open PySem PySem.Spec PyProof.Rows
noncomputable def pl (rs:List Rat):PyData:=.tuple (rs.map sh)
theorem DvAll.set {K:W.Frag} {H:Hp}:∀{vs:List V} {ds:List PyData} (i:Nat) {v:V} {d:PyData},DvAll K H vs ds→Dv K H v d→DvAll K H (vs.set i v) (ds.set i d)
 | _,_,_,_,_,.nil,_=>.nil
 | _,_,0,_,_,.cons _ t,h=>.cons h t
 | _,_,i + 1,_,_,.cons h t,k=>.cons h (DvAll.set i t k)
structure El (e:PyData):Prop where
 sw:Sw 3 2000 e
 bt:∀a b,e=.tuple [.int a,.int b]→Bt 8999 b
noncomputable def GoodR (d:PyData):Prop:=∀ds,d=.tuple ds→ds.length≤5000∧∀e∈ds,∀a b,e=.tuple [.int a,.int b]→Bt 8999 b
theorem GoodR.no {d:PyData} (h:isTupB d=false):GoodR d:=fun ds e=>by rw[e]at h;cases h
theorem El.int {z:Int} (h:Bt 200 z):El (.int z):=⟨(Sw.intB h (by decide) (by decide)).mono (by decide) (by decide),fun a b e=>by cases e⟩
theorem El.seq {ds:List PyData} (h:∀d∈ds,Sw 2 400 d) (hl:ds.length≤3) (h2:∀a b,ds≠[.int a,.int b]):El (.tuple ds):=
 ⟨(Sw.tup h).mono (by decide) (by have:=Nat.mul_le_mul_right (400 + 2) hl;omega),fun a b e=>by injection e with e;exact absurd e (h2 a b)⟩
noncomputable def Cd (D:Int) (m:Nat) (q:Rat):Prop:=∃t:Int,q=Rat.divInt t D∧Bt m t
theorem Cd.mono {D:Int} {m n:Nat} {q:Rat} (h:Cd D m q) (hm:m≤n):Cd D n q:=by
 obtain ⟨t,e,b⟩:=h
 exact ⟨t,e,b.mono hm⟩
theorem same_bottom_add {D:Int} (h0:D≠0) (s t:Int):Rat.divInt s D + Rat.divInt t D=Rat.divInt (s + t) D:=by
 rw[Rat.divInt_add_divInt _ _ h0 h0,←Int.add_mul,Rat.divInt_mul_right h0]
theorem Cd.add {D:Int} {m:Nat} {q r:Rat} (h0:D≠0) (h:Cd D m q) (k:Cd D m r):Cd D (m + 1) (q + r):=by
 obtain ⟨s,rfl,bs⟩:=h
 obtain ⟨t,rfl,bt⟩:=k
 exact ⟨s + t,same_bottom_add h0 s t,bs.add bt⟩
theorem Cd.bs {D:Int} {m n:Nat} {q:Rat} (h0:D≠0) (h:Cd D m q) (hD:Bt n D) (hm:m≤n):Bs n q:=by
 obtain ⟨t,rfl,bt⟩:=h
 exact Bs.divInt (bt.mono hm) hD h0
noncomputable def Pd:Nat→(Int→Rat)→Prop
 | 0,f=>∀x,f x=0
 | d + 1,f=>Pd d fun x=>f (x + 1) - f x
theorem Pd.congr {d:Nat} {f g:Int→Rat} (h:Pd d f) (e:∀x,f x=g x):Pd d g:=by
 have:f=g:=funext e
 exact this ▸ h
theorem Pd.add:∀{d:Nat} {f g:Int→Rat},Pd d f→Pd d g→Pd d fun x=>f x + g x
 | 0,f,g,h,k=>fun x=>by show f x + g x=0;rw[h x,k x];grind
 | d + 1,f,g,h,k=>(Pd.add (d:=d) h k).congr fun x=>by grind
end L2
set_option Elab.async false
set_option linter.all false
set_option maxRecDepth 100000
namespace L2
open PySem PySem.Spec PyProof.Rows
theorem ObjOk.there {P:Program} {w:World} {H:Hp} {h:Heap} {a:Addr} {o:HO} (x:ObjOk P w H h a o):∃u,h.get? a=some u:=by
 cases o with
 | lst xs=>obtain ⟨_,_,_,_,e⟩:=x;exact ⟨_,e⟩
 | tup xs=>obtain ⟨_,_,_,_,e,_⟩:=x;exact ⟨_,e⟩
 | dK kvs=>obtain ⟨_,_,_,_,o,_,_,e,_⟩:=x;exact ⟨_,e⟩
 | dT kvs=>obtain ⟨_,_,_,_,o,_,_,e,_⟩:=x;exact ⟨_,e⟩
 | set S n=>obtain ⟨o,_,_,_,e,_⟩:=x;exact ⟨_,e⟩
 | ins C dx fs=>obtain ⟨_,_,_,e,_⟩:=x;exact ⟨_,e⟩
 | own y=>obtain ⟨_,e⟩:=x;exact ⟨_,e⟩
 | xd fs=>obtain ⟨_,⟨_,_,_,e,_⟩,_⟩:=x;exact ⟨_,e⟩
 | rng lo hi=>obtain ⟨_,_,_,e⟩:=x;exact ⟨_,e⟩
 | frz ob u=>obtain ⟨e,_⟩:=x;exact ⟨_,e⟩
 | tbl ps=>exact ⟨_,(show h.get? a=some _ from x)⟩
 | met f y=>exact ⟨_,(show h.get? a=some _ from x)⟩
 | ext φ=>obtain ⟨_,⟨_,e⟩,_⟩:=x;exact ⟨_,e⟩
section
variable {X:Cx} {pins:List (Addr×Obj)} {σ:St} {H:Hp} {s:Shared}
end
section
variable {X:Cx}
end
section
variable {prog:Program} {w:World} {A:Around} {E:Value→Shared→Prop} {s:Shared}
end
section
variable {X:Cx}
end
end L2
set_option Elab.async false
set_option linter.all false
set_option maxRecDepth 100000
namespace PySem.F
end PySem.F
namespace L2
open PySem PySem.Spec PyProof.Rows
section
variable {prog:Program} {w:World} {A:Around} {E:Value→Shared→Prop} {s:Shared}
noncomputable def IsRvt (h:Heap) (a t:Addr) (i:Int):Prop:=∃o,h.get? a=some o∧o.cls=.type "reversed"∧o.data=.fields #[.ref t,rawInt i]
theorem IsRvt.at {h h':Heap} {a l:Addr} {i:Int} (x:IsRvt h a l i) (e:∀o,h.get? a=some o→h'.get? a=some o):IsRvt h' a l i:=let ⟨o,ho,r⟩:=x;⟨o,e _ ho,r⟩
end
section
variable {X:Cx}
end
end L2
set_option Elab.async false
set_option linter.all false
set_option maxRecDepth 100000
namespace L2
open PySem PySem.Spec PyProof.Rows
noncomputable def inn (f:Nat→Rat) (c:Rat) (ys:List Rat) (k:Nat):Nat→Nat→Rat
 | 0=>f
 | j + 1=>fun t=>if t=k + j then inn f c ys k j t + c * ys.getD j 0 else inn f c ys k j t
noncomputable def out (xs ys:List Rat):Nat→Nat→Rat
 | 0=>fun _=>0
 | k + 1=>inn (out xs ys k) (xs.getD k 0) ys k ys.length
section
noncomputable def m2 (x p:Rat):List Rat→List Rat
 | []=>[p]
 | a::l=>(p + a * x)::m2 x a l
section
variable {D:Int} {m:Nat} {rs:List Rat}
end
end
section
section
variable {D u d:Int} {m n:Nat} {q:Rat}
theorem Cd.up (d0:d≠0) (bd:Bt n d) (h:Cd D m q):Cd (D * d) (m + n) q:=by
 obtain ⟨t,rfl,b⟩:=h
 exact ⟨t * d,(Rat.divInt_mul_right d0).symm,b.mul bd⟩
end
end
section
noncomputable def Upx (e:Addr) (c:Value) (dx:Option Addr) (fl:Value) (T:Addr) (h:Heap):Prop:=
 ∃oe vs oT ts,h.get? e=some oe∧oe.cls=c∧oe.dict=dx∧oe.data=.fields vs∧vs[1]?=some (.ref T)∧T≠e∧h.get? T=some oT∧oT.data=.fields ts∧ts[3]?=some fl∧vs[2]?=some .none
noncomputable def Nte (fr no:List Addr) (h h':Heap):Prop:=
 ∀b o,h.get? b=some o→b∉no→(b∉fr→h'.get? b=some o)∧∃sl,h'.get? b=some {o with slots:=sl}
theorem Nte.mono {fr no no':List Addr} {h h':Heap} (x:Nte fr no h h') (k:∀b∈no,b∈no'):Nte fr no' h h':=fun b o e n=>x b o e fun z=>n (k b z)
theorem Nte.trans {fr no:List Addr} {h1 h2 h3:Heap} (x:Nte fr no h1 h2) (y:Nte fr no h2 h3):Nte fr no h1 h3:=fun b o e n=>by
 obtain ⟨a1,sl,a2⟩:=x b o e n
 obtain ⟨c1,sl',c2⟩:=y b _ a2 n
 exact ⟨fun f=>(y b o (a1 f) n).1 f,sl',c2⟩
theorem dict_mf (f:Array Value→Array Value) (o:Obj):(Obj.mapFields f o).dict=o.dict:=by
 obtain ⟨_,_,dd,_⟩:=o
 cases dd <;> rfl
section
variable {M:Model} {A:Around} {E:Value→Shared→Prop} {s:Shared}
theorem ent_up {base : Heap} {env : Env} {outer : List Env} {L e : Addr} {ob : Obj} {vs : Array Value} {hd0 : Value} {nx : Bool} {Q : Unit → Shared → Prop}
  (fr:A.frames=some (env::outer)) (fl:s.heap.FunFrames base (env::outer)) (ef:env.frame=some L) (he:s.heap.get? e=some ob) (dt:ob.data=.fields vs) (sz:1 < vs.size) (hc2:vs[2]?=some .none)
  (k:∀h' T,s.heap.objs.size≤T→Nte (frs (env::outer)) [e] s.heap h'→Upx e ob.cls ob.dict (rawInt L) T h'→Q () {s with heap:=h'}) :
  wpAny M A (do let a ←frameOf env;let pl ←entryPlaceOf L nx;let b ←EntryCells.newEntry hd0 a .none (rawInt L) .none pl;setField (.ref e) 1 b) Q E s:=by
 have eno:e∉(env::outer).filterMap (·.frame):=fun z=>by
  obtain ⟨_,o,ho,nf⟩:=fl.mem z
  rw[he]at ho;injection ho with ho;subst ho;exact nf vs dt
 refine wpAny_bind (wpAny_frameOf_fun fr fl ef fun g1 so=>?_)
 refine wpAny_bind (wpAny_entryPlaceOf fun pl ip=>?_)
 unfold EntryCells.newEntry newFields
 refine wpAny_bind (wpAny_newObj_type ?_ (ip.sizeOk5 _ _ _ _ _))
 have e1:g1.get? e=some ob:=(so.2.1 e eno).trans he
 generalize hT:({cls:=.type "traceback",dict:=none,data:=.fields ([hd0,.ref L,.none,rawInt L,.none] ++ (if pl.isEmpty then List.replicate 6 Value.none else pl)).toArray}:Obj)=oT
 have e2:(g1.push oT).get? e=some ob:=Heap.get?_push_of_some oT e1
 have ne:g1.objs.size≠e:=Nat.ne_of_gt (Heap.lt_size e1)
 have d3:=Obj.data_mapFields dt (·.setIfInBounds 1 (Value.ref g1.objs.size))
 have e3:=Heap.get?_update_self (Obj.mapFields (·.setIfInBounds 1 (Value.ref g1.objs.size))) e2 (Obj.isFreed_of_fields d3)
 have isf:oT.isFreed=false:=by subst hT;rfl
 have t3:((g1.push oT).update e (Obj.mapFields (·.setIfInBounds 1 (Value.ref g1.objs.size)))).get? g1.objs.size=some oT:=
  (Heap.get?_update_other (g1.push oT) (Obj.mapFields (·.setIfInBounds 1 (Value.ref g1.objs.size))) (Ne.symm ne)).trans (Heap.get?_push_size g1 isf)
 have fresh:s.heap.objs.size≤g1.objs.size:=Nat.le_of_eq so.1.symm
 refine wpAny_setField e2 dt sz (k _ g1.objs.size fresh (fun b o q n=>?_) ?_)
 ·have nb:e≠b:=fun z=>n (by rw[z];exact List.mem_singleton.mpr rfl)
  refine ⟨fun f=>?_,?_⟩
  ·rw[Heap.get?_update_other _ _ nb]
   exact Heap.get?_push_of_some _ ((so.2.1 b f).trans q)
  ·obtain ⟨sl,z⟩:=so.2.2 b o q
   exact ⟨sl,by rw[Heap.get?_update_other _ _ nb];exact Heap.get?_push_of_some _ z⟩
 ·refine ⟨_,_,oT,_,e3,Obj.cls_mapFields _ _,?_,d3,by simp[sz],ne,t3,by rw[←hT],?_,by simp[hc2]⟩
  ·exact dict_mf _ _
  ·first | (simp;done) | (rcases ip with rfl | ⟨_,_,_,_,_,_,_,rfl⟩ <;> simp)
theorem note_new {base : Heap} {env : Env} {outer : List Env} {L e : Addr} {ob : Obj} {vs : Array Value} {Q : Unit → Shared → Prop}
  (fr:A.frames=some (env::outer)) (fl:s.heap.FunFrames base (env::outer)) (ef:env.frame=some L) (he:s.heap.get? e=some ob) (dt:ob.data=.fields vs) (h1:vs[1]?=some .none) (hc2:vs[2]?=some .none)
  (k:∀h' T,s.heap.objs.size≤T→Nte (frs (env::outer)) [e] s.heap h'→Upx e ob.cls ob.dict (rawInt L) T h'→Q () {s with heap:=h'}):wpAny M A (noteFrame (.ref e) env) Q E s:=by
 unfold noteFrame
 simp only[ef]
 refine wpAny_bind (wpAny_field he dt h1 ?_)
 rw[if_neg (by decide)]
 exact ent_up fr fl ef he dt (Array.getElem?_eq_some_iff.mp h1).1 hc2 k
theorem note_on {base : Heap} {env : Env} {outer : List Env} {L e T : Addr} {c : Value} {dx : Option Addr} {Q : Unit → Shared → Prop}
  (fr:A.frames=some (env::outer)) (fl:s.heap.FunFrames base (env::outer)) (ef:env.frame=some L) (u:Upx e c dx .none T s.heap)
  (k:∀h' T',s.heap.objs.size≤T'→Nte (frs (env::outer)) [e,T] s.heap h'→Upx e c dx (rawInt L) T' h'→Q () {s with heap:=h'}):wpAny M A (noteFrame (.ref e) env) Q E s:=by
 obtain ⟨oe,vs,oT,ts,he,rfl,rfl,dt,h1,ne,gT,dT,h3,hc2⟩:=u
 unfold noteFrame
 simp only[ef]
 refine wpAny_bind (wpAny_field he dt h1 ?_)
 rw[if_pos (show (Value.ref T != Value.none)=true from by simp)]
 refine wpAny_bind (wpAny_field gT dT h3 ?_)
 rw[if_neg (show ¬((Value.none == rawInt L)=true) from by simp[rawInt])]
 refine wpAny_bind (wpAny_setField gT dT (Array.getElem?_eq_some_iff.mp h3).1 ?_)
 have oth:∀b,b≠T→(s.heap.update T (Obj.mapFields (·.setIfInBounds 3 Value.none))).get? b=s.heap.get? b:=fun b hb=>Heap.get?_update_other _ _ (Ne.symm hb)
 have nrc:∀b o,s.heap.get? b=some o→(∀vs,o.data≠.fields vs)→b≠T:=fun b o hb nf q=>by
  rw[q,gT]at hb;injection hb with hb;subst hb;exact nf ts dT
 refine ent_up fr (fl.of_keeps fun b o hb nf=>⟨o,(oth b (nrc b o hb nf)).trans hb,rfl⟩) ef ((oth e (Ne.symm ne)).trans he) dt (Array.getElem?_eq_some_iff.mp h1).1 hc2 fun h' T' f x u'=>k h' T' ?_ (fun b o q n=>?_) u'
 ·rw[Heap.size_after_update]at f;exact f
 ·have n1:b≠e:=fun z=>n (by rw[z];exact List.mem_cons_self ..)
  have n2:b≠T:=fun z=>n (by rw[z];exact List.mem_cons_of_mem _ (List.mem_singleton.mpr rfl))
  exact x b o ((oth b n2).trans q) fun z=>n1 (List.mem_singleton.mp z)
theorem flight_off {e T : Addr} {c fl : Value} {dx : Option Addr} {Q : Unit → Shared → Prop} (u : Upx e c dx fl T s.heap)
  (k:∀h',Nte [] [T] s.heap h'→Upx e c dx .none T h'→Q () {s with heap:=h'}):wpAny M A (setFlight (.ref e) none) Q E s:=by
 obtain ⟨oe,vs,oT,ts,he,c1,c2,dt,h1,ne,gT,dT,h3,hc2⟩:=u
 have z3:3 < ts.size:=(Array.getElem?_eq_some_iff.mp h3).1
 unfold setFlight
 refine wpAny_bind (wpAny_field he dt h1 ?_)
 rw[if_pos (show (Value.ref T != Value.none)=true from by simp)]
 refine wpAny_setField gT dT z3 (k _ (fun b o q n=>?_) ?_)
 ·have nb:T≠b:=fun z=>n (by rw[z];exact List.mem_singleton.mpr rfl)
  have q':=(Heap.get?_update_other s.heap (Obj.mapFields (·.setIfInBounds 3 ((none:Option Addr).elim Value.none fun f=>rawInt f))) nb).trans q
  exact ⟨fun _=>q',o.slots,q'⟩
 ·exact ⟨oe,vs,_,_,(Heap.get?_update_other _ _ ne).trans he,c1,c2,dt,h1,ne,Heap.get?_update_self _ gT (Obj.isFreed_of_fields (Obj.data_mapFields dT _)),Obj.data_mapFields dT _,by simp[z3],hc2⟩
theorem leave_new {base : Heap} {env : Env} {outer : List Env} {L e : Addr} {ob : Obj} {vs : Array Value} {Q : Unit → Shared → Prop}
  (fr:A.frames=some (env::outer)) (fl:s.heap.FunFrames base (env::outer)) (ef:env.frame=some L) (he:s.heap.get? e=some ob) (dt:ob.data=.fields vs) (h1:vs[1]?=some .none) (hc2:vs[2]?=some .none)
  (k:∀h' T,s.heap.objs.size≤T→Nte (frs (env::outer)) [e] s.heap h'→Upx e ob.cls ob.dict .none T h'→Q () {s with heap:=h'}):wpAny M A (leaving env (.ref e)) Q E s:=by
 unfold leaving
 refine wpAny_bind (note_new fr fl ef he dt h1 hc2 fun h1 T f x u=>?_)
 refine flight_off (s:={s with heap:=h1}) u fun h2 y u2=>k h2 T f (fun b o q n=>?_) u2
 obtain ⟨a1,sl,a2⟩:=x b o q n
 have nT:b∉[T]:=fun z=>by rw[List.mem_singleton.mp z]at q;exact absurd (Nat.lt_of_lt_of_le (Heap.lt_size q) f) (Nat.lt_irrefl _)
 exact ⟨fun g=>(y b o (a1 g) nT).1 (by simp),sl,(y b _ a2 nT).1 (by simp)⟩
theorem leave_on {base : Heap} {env : Env} {outer : List Env} {L e T : Addr} {c : Value} {dx : Option Addr} {Q : Unit → Shared → Prop}
  (fr:A.frames=some (env::outer)) (fl:s.heap.FunFrames base (env::outer)) (ef:env.frame=some L) (u:Upx e c dx .none T s.heap)
  (k:∀h' T',s.heap.objs.size≤T'→Nte (frs (env::outer)) [e,T] s.heap h'→Upx e c dx .none T' h'→Q () {s with heap:=h'}):wpAny M A (leaving env (.ref e)) Q E s:=by
 unfold leaving
 refine wpAny_bind (note_on fr fl ef u fun h1 T' f x u=>?_)
 refine flight_off (s:={s with heap:=h1}) u fun h2 y u2=>k h2 T' f (fun b o q n=>?_) u2
 obtain ⟨a1,sl,a2⟩:=x b o q n
 have nT:b∉[T']:=fun z=>by rw[List.mem_singleton.mp z]at q;exact absurd (Nat.lt_of_lt_of_le (Heap.lt_size q) f) (Nat.lt_irrefl _)
 exact ⟨fun g=>(y b o (a1 g) nT).1 (by simp),sl,(y b _ a2 nT).1 (by simp)⟩
end
end
end L2
set_option Elab.async false
set_option linter.all false
set_option maxRecDepth 100000
namespace L2
open PySem PySem.Spec PyProof.Rows PySem.W Builtin Builtin.ObjectAttr
section
section
variable {prog:Program} {w:World} {A:Around} {E:Value→Shared→Prop} {s:Shared} {K:Frag} {x C:Addr} {ox:Obj} {od:Option Obj} {name:Str} {expr:Bool} {Q:Value→Shared→Prop}
theorem xget_by {fill : Bool} {tk : Tok} (X : K.In s.heap) (I : InstAt s.heap x ox C od) (g1 : findIn K (.ref C) "__getattribute__" = some (some (.builtin "BaseException.__getattribute__"))) (g2 : findIn K (.ref C) "__getattr__" = some none)
  (g3:mroIn K C (.type "BaseException")=some true)
  (k:wpAny (model prog w) A.in1 (Builtin.«object.__getattribute__» ⟨[.ref x,.str name tk],[]⟩) (fun fin s'=>match fin with | .done (.ret v)=>wpAny (model prog w) A (handedOut v) Q E s' | _=>False) (fun _ _=>False) s) :
  wpAny (model prog w) A (getAttrBy (.ref x) (.str name tk) fill expr) Q E s:=by
 obtain ⟨hh,g,d,t,os⟩:=s
 have l0:=I.type (M:=model prog w)
 have l1:=looks_findIn (M:=model prog w) X g1
 have l2:=looks_findIn (M:=model prog w) X g2
 have sub:Looks (model prog w) hh (isInstance (.ref x) (.type "BaseException")) true:=l0.andThen (looks_mroIn X g3)
 have bnd:=PySem.F.attrBase_ValueError.ga.bind (.ref x)
 unfold getAttrBy
 refine wpAny_holding (wpAny_bind (l0.at (wpAny_bind (l1.at ?_))))
 show wpAny _ _ (getAttrByItsOwn _ _ _ _ _ _) _ _ _
 unfold getAttrByItsOwn
 refine wpAny_bind (show wpAny _ _ (hookBefore (.ref C)) _ _ _ from l2.at ?_)
 refine wpAny_bind (wpAny_attempt (wpAny_holding ?_))
 have cg:callGetattribute (.ref x) (.str name tk) (.builtin "BaseException.__getattribute__") expr=boundAndCalled (.builtin "BaseException.__getattribute__") (.ref x) (.str name tk):=by
  unfold callGetattribute
  cases expr <;> rfl
 rw[cg]
 unfold boundAndCalled
 rw[bnd]
 refine wpAny_bind (wpAny_pure (wpAny_call ?_))
 refine codeAny_call_builtin PySem.F.attrBase_ValueError.ga.plain PySem.F.entry_bexc_ga (@check_slot (model prog w) _ _ _ "BaseException.__getattribute__" "BaseException" "__getattribute__" (.ref x) [.str name tk] [] _ (by decide +kernel) (by decide +kernel) sub (PySem.F.args_bexc_ga (.ref x) (.str name tk)) ?_)
 refine wpAny_mono k (fun fin s' z=>?_) fun _ _ z=>z.elim
 rcases fin with (v | _ | _ | _) | _ <;> first | exact z | exact z.elim
theorem xget_value {v : Value} (X : K.In s.heap) (I : InstAt s.heap x ox C od) (g1 : findIn K (.ref C) "__getattribute__" = some (some (.builtin "BaseException.__getattribute__"))) (g2 : findIn K (.ref C) "__getattr__" = some none)
  (g3:mroIn K C (.type "BaseException")=some true) (hf:findObj K C od name=some (.value v)) (hv:handedIn v=true) (k:Q v {s with toks:=s.toks + 1}):wpAny (model prog w) A (getAttr (.ref x) name expr) Q E s:=by
 unfold getAttr
 refine wpAny_bind (wpAny_mkText (xget_by (s:={s with toks:=s.toks + 1}) X I g1 g2 g3 ?_))
 obtain ⟨hh',g,d,t,os⟩:=s
 have l0:=I.type (M:=model prog w)
 have l1:=looks_find (M:=model prog w) X I hf
 show wpAny _ _ (slotArgs "__getattribute__" 1 _ >>= _) _ _ _
 refine wpAny_bind (wpAny_pure (wpAny_bind (wpAny_pure (wpAny_bind (l0.at (wpAny_bind (l1.at ?_)))))))
 refine wpAny_pure ?_
 show wpAny _ _ (handedOut v) _ _ _
 rw[handedOut_of hv]
 exact wpAny_pure k
theorem xget_class {Q : Option Value → Shared → Prop} (X : K.In s.heap) (I : InstAt s.heap x ox C od) (g1 : findIn K (.ref C) "__getattribute__" = some (some (.builtin "BaseException.__getattribute__"))) (g2 : findIn K (.ref C) "__getattr__" = some none)
  (g3:mroIn K C (.type "BaseException")=some true) (g4:mroIn K C (.type "object")=some true) (hf:findObj K C od "__class__"=some (.bind (.builtin "getset_descriptor.__get__") (.builtin "object.__class__")))
  (k:Q (some (.ref C)) {s with toks:=s.toks + 1}):wpAny (model prog w) A (getAttr? (.ref x) "__class__") Q E s:=by
 obtain ⟨hh,g,d,t,os⟩:=s
 unfold getAttr? getAttrBy?
 refine wpAny_bind (wpAny_mkText (wpAny_bind (wpAny_attempt (xget_by (s:=⟨hh,g,d,t + 1,os⟩) X I g1 g2 g3 ?_))))
 have l0:=I.type (M:=model prog w)
 have l1:=looks_find (M:=model prog w) X I hf
 show wpAny _ _ (slotArgs "__getattribute__" 1 _ >>= _) _ _ _
 refine wpAny_bind (wpAny_pure (wpAny_bind (wpAny_pure (wpAny_bind (l0.at (wpAny_bind (l1.at ?_)))))))
 show wpAny _ _ (bindTo _ _ _ _) _ _ _
 unfold bindTo
 dsimp only
 refine wpAny_bind (wpAny_holding (wpAny_call (class_get (s:=⟨hh,g,d,t + 1,os⟩) (ox:=ox) (od:=od) X I g4 ?_)))
 refine wpAny_pure ?_
 show wpAny _ _ (handedOut (.ref C)) _ _ _
 exact handed_on rfl (wpAny_pure k)
theorem kitx_exc {dd : Obj} (hd : hasDictIn K C = true) (g1 : findIn K (.ref C) "__getattribute__" = some (some (.builtin "BaseException.__getattribute__"))) (g2 : findIn K (.ref C) "__getattr__" = some none)
  (g3:mroIn K C (.type "BaseException")=some true) (g4:mroIn K C (.type "object")=some true) (ha:findIn K (.ref C) "__class__"=some (some (.builtin "object.__class__")))
  (hn:specialIn K (.builtin "object.__class__") "__get__"=some (some (.builtin "getset_descriptor.__get__"))) (ht:takesIn K (.builtin "object.__class__")=some true) :
  KitX K (.ref x) (.ref C) (fun h=>InstAt h x ox C (some dd)) where
 ty:=fun _ _ _ I=>I.type
 it:=fun _ _ X _=>by
  obtain ⟨cd,hc,_⟩:=any_some hd
  unfold clsIn at hc
  split at hc
  ·rename_i _ _ _ _ ho
   intro A' Q' E' s' k q
   unfold isType loadHead
   exact wpAny_bind (wpAny_loadPart (k _ _ (X _ _ ho)) (wpAny_pure q))
  ·cases hc
 ne:=fun h tp d1 its n sl X htp=>by
  obtain ⟨cd,hc,_⟩:=any_some hd
  refine Bool.eq_false_iff.mpr fun q=>?_
  have e:C=tp:=Value.ref.inj (beq_iff_eq.mp q)
  subst e
  unfold clsIn at hc
  split at hc
  ·rename_i _ _ _ _ ho
   have z:=(X _ _ ho).symm.trans htp
   cases z
  ·cases hc
 ca:=fun X I k=>xget_class X I g1 g2 g3 g4 (findObj_data (by obtain ⟨cd,hc,_⟩:=any_some hd;rw[hc];rfl) ha hn ht) k
end
end
end L2
set_option Elab.async false
set_option linter.all false
set_option maxRecDepth 100000
namespace L2
open PySem PySem.Spec PyProof.Rows Builtin Builtin.ObjectAttr
section
noncomputable def XO (fresh:Bool) (ea C:Addr) (dx:Option Addr):HO:=.ext fun h=>∃oe vs,h.get? ea=some oe∧oe.cls=.ref C∧oe.dict=dx∧oe.data=.fields vs∧(1 < vs.size∧vs[2]?=some .none)∧(fresh=true→vs[1]?=some .none∧vs[2]?=some .none∧4 < vs.size)
noncomputable def XD (dx:Addr) (fs:List (Str×V)):HO:=.ext fun h=>∃mA,h.Ns1 dx mA∧(∀f,RelO (fs.lookup f) (mA f))∧PySem.Within mA (fs.map (·.1))∧fs.length≤100
theorem xo_ok {P : Program} {w : World} {H : Hp} {h : Heap} {fresh : Bool} {ea C : Addr} {dx : Option Addr} {oe : Obj} {vs : Array Value} (e : h.get? ea = some oe) (h1 : oe.cls = .ref C) (h2 : oe.dict = dx) (h3 : oe.data = .fields vs) (h4 : 1 < vs.size ∧ vs[2]? = some .none)
  (h5:fresh=true→vs[1]?=some .none∧vs[2]?=some .none∧4 < vs.size):ObjOk P w H h ea (XO fresh ea C dx):=
 ⟨⟨oe,vs,e,h1,h2,h3,h4,h5⟩,⟨oe,e⟩,fun _ _ ⟨o,u,q,r⟩ k=>⟨o,u,k o q,r⟩⟩
theorem xo_get {P:Program} {w:World} {H:Hp} {h:Heap} {fresh:Bool} {ea C:Addr} {dx:Option Addr} (x:ObjOk P w H h ea (XO fresh ea C dx)):∃oe vs,h.get? ea=some oe∧oe.cls=.ref C∧oe.dict=dx∧oe.data=.fields vs∧(1 < vs.size∧vs[2]?=some .none)∧(fresh=true→vs[1]?=some .none∧vs[2]?=some .none∧4 < vs.size):=x.1
theorem xd_ok {P:Program} {w:World} {H:Hp} {h:Heap} {dx:Addr} {fs:List (Str×V)} {mA:Str→Option Value} (n:h.Ns1 dx mA) (r:∀f,RelO (fs.lookup f) (mA f)) (wi:PySem.Within mA (fs.map (·.1))) (l:fs.length≤100):ObjOk P w H h dx (XD dx fs):=
 ⟨⟨mA,n,r,wi,l⟩,let ⟨o,_,_,e,_⟩:=n;⟨o,e⟩,fun _ _ ⟨m,n,r⟩ k=>⟨m,n.at k,r⟩⟩
theorem xd_get {P:Program} {w:World} {H:Hp} {h:Heap} {dx:Addr} {fs:List (Str×V)} (x:ObjOk P w H h dx (XD dx fs)):∃mA,h.Ns1 dx mA∧(∀f,RelO (fs.lookup f) (mA f))∧PySem.Within mA (fs.map (·.1))∧fs.length≤100:=x.1
noncomputable abbrev vmB:List Value:=[.type "ValueError",.type "Exception",.type "BaseException",.type "object"]
structure XCls (K:W.Frag) (C B:Addr):Prop where
 cd:∃cd,PySem.W.clsIn K C=some cd∧cd.hasDict=true∧cd.mro=.ref C::.ref B::vmB
 sa:PySem.W.findIn K (.ref C) "__setattr__"=some (some (.builtin "object.__setattr__"))
 ga:PySem.W.findIn K (.ref C) "__getattribute__"=some (some (.builtin "BaseException.__getattribute__"))
 gh:PySem.W.findIn K (.ref C) "__getattr__"=some none
 ca:PySem.W.findIn K (.ref C) "__class__"=some (some (.builtin "object.__class__"))
 cg:PySem.W.specialIn K (.builtin "object.__class__") "__get__"=some (some (.builtin "getset_descriptor.__get__"))
 ct:PySem.W.takesIn K (.builtin "object.__class__")=some true
theorem XCls.mro {K:W.Frag} {C B:Addr} (c:XCls K C B) (v:Value):PySem.W.mroIn K C v=some ((Value.ref C::Value.ref B::vmB).contains v):=by
 obtain ⟨cd,h1,h2,h3⟩:=c.cd
 unfold PySem.W.mroIn
 rw[h1,Option.bind_some,h3]
 rfl
theorem XCls.base {K:W.Frag} {C B:Addr} (c:XCls K C B):PySem.W.mroIn K C (.type "BaseException")=some true:=(c.mro _).trans (by simp[vmB])
theorem XCls.obj {K:W.Frag} {C B:Addr} (c:XCls K C B):PySem.W.mroIn K C (.type "object")=some true:=(c.mro _).trans (by simp[vmB])
theorem XCls.hd {K:W.Frag} {C B:Addr} (c:XCls K C B):PySem.W.hasDictIn K C=true:=by
 obtain ⟨cd,h1,h2,h3⟩:=c.cd
 unfold PySem.W.hasDictIn
 rw[h1]
 exact h2
theorem refuse_v (self:Value) (C B:Addr):refuseLoop self "__setattr__" (.ref C::.ref B::vmB)=pure ():=by
 rw[refuseLoop_ref,refuseLoop_ref]
 kernel_rfl
section
variable {prog:Program} {w:World} {A:Around} {E:Value→Shared→Prop} {s:Shared} {K:W.Frag} {x C B:Addr} {ox:Obj} {od:Option Obj} {name:Str} {v:Value} {Q:Unit→Shared→Prop}
theorem xset_open (X : K.In s.heap) (I : PySem.W.InstAt s.heap x ox C od) (c : XCls K C B) (ht : PySem.W.findIn K (.ref C) name = some none)
  (k:wpAny (model prog w) A.in1 (storeInOwnDict (.ref x) (.ref C) (.str name s.toks) name v false) (fun fin s'=>match fin with | .done (.ret _)=>Q () s' | _=>False) (fun _ _=>False) {s with toks:=s.toks + 1}) :
  wpAny (model prog w) A (setAttr (.ref x) name v) Q E s:=by
 have SF:=PySem.F.store_object
 obtain ⟨cd,hc,_,hm⟩:=c.cd
 have sub:PySem.W.Looks (model prog w) s.heap (isInstance (.ref x) (.type "object")) true:=I.type.andThen (PySem.W.looks_mroIn X c.obj)
 have lm:PySem.W.Looks (model prog w) s.heap (mroOf (.ref C)) (.ref C::.ref B::vmB):=hm ▸ (PySem.W.looks_clsIn X hc).andThen .now
 have l3:PySem.W.Looks (model prog w) s.heap (storeTaker? none) none:=.now
 refine PySem.W.set_plain X I c.sa ?_
 refine codeAny_call_builtin SF.slot.plain SF.entry (@PySem.W.check_slot (model prog w) _ _ {s with toks:=s.toks + 1} "object.__setattr__" "object" "__setattr__" (.ref x) [.str name s.toks,v] [] _ SF.kind SF.split sub (SF.args (.ref x) (.str name s.toks) v) ?_)
 rw[PySem.W.osa_eq,refuse_eq]
 refine wpAny_bind (wpAny_bind (PySem.W.Looks.here (s:={s with toks:=s.toks + 1}) I.type (wpAny_bind (PySem.W.Looks.here (s:={s with toks:=s.toks + 1}) lm ?_))))
 rw[refuse_v]
 refine wpAny_pure (wpAny_bind (PySem.W.Looks.here (s:={s with toks:=s.toks + 1}) I.type (wpAny_bind (PySem.W.Looks.here (s:={s with toks:=s.toks + 1}) (PySem.W.looks_findIn X ht) (wpAny_bind (PySem.W.Looks.here (s:={s with toks:=s.toks + 1}) l3 ?_))))))
 refine wpAny_mono k (fun fin s' z=>?_) fun _ _ z=>z.elim
 rcases fin with (_ | _ | _ | _) | _ <;> first | exact z | exact z.elim
end
section
variable {X:Cx} {pins:List (Addr×Obj)} {σ:St} {H:Hp} {s:Shared} {a C B:Addr} {fs:List (Str×V)} {f:Str} {v:V} {A:Around} {E:Value→Shared→Prop} {fr:Bool}
theorem instx0 {h:Heap} {oe:Obj} {vs:Array Value} (e:h.get? a=some oe) (h1:oe.cls=.ref C) (h2:oe.dict=none) (h3:oe.data=.fields vs):PySem.W.InstAt h a oe C none:=⟨e,h1,by unfold PySem.W.notCls;rw[h3],by rw[h2];exact True.intro⟩
theorem instx1 {h:Heap} {oe o:Obj} {vs:Array Value} {d:Addr} (e:h.get? a=some oe) (h1:oe.cls=.ref C) (h2:oe.dict=some d) (h3:oe.data=.fields vs) (h4:h.get? d=some o):PySem.W.InstAt h a oe C (some o):=⟨e,h1,by unfold PySem.W.notCls;rw[h3],by rw[h2];exact h4⟩
theorem xset_first {y : V} {u : Value} {Q : Unit → Shared → Prop} (I : Inv X pins σ H s) (e : H a = some (XO fr a C none)) (c : XCls X.K C B) (n : PySem.W.findIn X.K (.ref C) f = some none) (ry : RelV y u)
  (k:∀s' d,H d=none→Inv X pins σ (upd (upd H d (XD d [(f,y)])) a (XO fr a C (some d))) s'→Q () s'):wpAny (model X.prog X.w) A (setAttr (.ref a) f u) Q E s:=by
 obtain ⟨oe,vs,g,e1,e2,e3,e4,e5⟩:=xo_get (I.hok a _ e)
 refine xset_open I.kIn (instx0 g e1 e2 e3) c n ?_
 obtain ⟨cd,hc,hh,hm⟩:=c.cd
 obtain ⟨oc,odi,oda,osl⟩:=oe
 cases e1;cases e2;cases e3
 unfold storeInOwnDict
 refine wpAny_bind (wpAny_pure (wpAny_bind ?_))
 show wpAny _ _ (instanceDict a true) _ _ _
 unfold instanceDict
 refine wpAny_bind (wpAny_loadPart g (wpAny_bind (PySem.W.Looks.here (s:={s with toks:=s.toks + 1}) (PySem.W.looks_clsIn I.kIn hc) ?_)))
 rw[hh]
 show wpAny _ _ (do let d ←alloc {cls:=.type "dict",data:=.dict #[]};update a fun o=>{o with dict:=some d};pure (some d)) _ _ _
 refine wpAny_bind (wpAny_alloc ?_)
 have nd:s.heap.objs.size≠a:=fun z=>absurd (Heap.lt_size g) (by rw[z];exact Nat.lt_irrefl _)
 have g1:=Heap.get?_push_of_some PySem.W.emptyDict g
 have p1:(s.heap.push PySem.W.emptyDict).get? s.heap.objs.size=some PySem.W.emptyDict:=Heap.get?_push_size s.heap rfl
 refine wpAny_bind (wpAny_update g1 (wpAny_pure ?_))
 have w1:(s.heap.push PySem.W.emptyDict).Ns s.heap.objs.size (fun _=>none):=⟨PySem.W.emptyDict,#[],_,p1,rfl,(fun e he=>absurd he (by simp)),fun _=>rfl⟩
 have I1:=I.laid (a:=s.heap.objs.size) (o:=XD s.heap.objs.size []) (h':=s.heap.push PySem.W.emptyDict) (t':=s.toks + 1) (fun b u q=>Heap.get?_push_of_some _ q) (Nat.le_refl _) (xd_ok (Heap.Ns1.of_empty w1) (fun _=>True.intro) (fun y hy=>absurd rfl hy) (by simp))
 have g2:=Heap.get?_update_self (fun o:Obj=>{o with dict:=some s.heap.objs.size}) g1 rfl
 have I2:=I1.write (x:=a) (e:=a) (o:=XO fr a C (some s.heap.objs.size)) (t':=s.toks + 1) (h':=(s.heap.push PySem.W.emptyDict).update a fun o:Obj=>{o with dict:=some s.heap.objs.size}) (by rw[upd_ne (Ne.symm nd),e];exact True.intro) (.inl rfl) (fun b u hb q=>(Heap.get?_update_other _ _ (Ne.symm hb)).trans q) ⟨_,g2⟩ (xo_ok g2 rfl rfl rfl e4 e5)
 have hD:upd (upd H s.heap.objs.size (XD s.heap.objs.size [])) a (XO fr a C (some s.heap.objs.size)) s.heap.objs.size=some (XD s.heap.objs.size []):=by rw[upd_ne nd,upd_same]
 obtain ⟨mA,n2,r2,wi2,_⟩:=xd_get (I2.hok _ _ hD)
 show wpAny _ _ (storeInDict s.heap.objs.size (.str f s.toks) f u) _ _ _
 unfold storeInDict
 refine wpAny_bind (wpAny_pure (wpAny_bind ?_))
 refine wpAny_nsSet1 (s:={s with heap:=(s.heap.push PySem.W.emptyDict).update a fun o:Obj=>{o with dict:=some s.heap.objs.size},toks:=s.toks + 1}) n2 fun h' n3 sb=>?_
 obtain ⟨oD,esD,epD,hoD,hdD,hcD⟩:=n3.count (PySem.Within.cons f u wi2)
 refine wpAny_bind (wpAny_lookBehind hoD (by rw[hdD];exact pastItsLine_dict (Nat.le_trans hcD (by rw[sizeLine_eq];show 1≤_;omega))) ?_)
 refine wpAny_pure (k _ _ (I.hok.fresh (Nat.le_refl _)) ?_)
 have I3:=I2.write (x:=s.heap.objs.size) (e:=s.heap.objs.size) (o:=XD s.heap.objs.size [(f,y)]) (t':=s.toks + 2) (h':=h') (by rw[hD];exact True.intro) (.inl rfl) (fun b u hb q=>(sb.2 b hb).trans q) ⟨_,hoD⟩ (xd_ok n3 (fun g=>?_) (fun g hg=>?_) (by simp))
 ·have eH : upd (upd (upd H s.heap.objs.size (XD s.heap.objs.size [])) a (XO fr a C (some s.heap.objs.size))) s.heap.objs.size (XD s.heap.objs.size [(f, y)]) = upd (upd H s.heap.objs.size (XD s.heap.objs.size [(f, y)])) a (XO fr a C (some s.heap.objs.size)) := by
   funext b
   unfold upd
   by_cases h1:b=s.heap.objs.size
   ·rw[if_pos h1,if_neg (fun z=>nd (h1.symm.trans z)),if_pos h1]
   ·rw[if_neg h1]
    by_cases h2:b=a
    ·rw[if_pos h2,if_pos h2]
    ·rw[if_neg h2,if_neg h2,if_neg h1,if_neg h1]
  rw[←eH]
  exact I3
 ·show RelO (List.lookup g [(f,y)]) (if g=f then some u else mA g)
  have l0:List.lookup g [(f,y)]=if g=f then some y else List.lookup g []:=lookup_putF f g y []
  rw[l0]
  by_cases q:g=f
  ·rw[if_pos q,if_pos q];exact ry
  ·rw[if_neg q,if_neg q];exact r2 g
 ·by_cases q:g=f
  ·rw[q];simp
  ·exfalso
   have r0:=RelO.none_of (r2 g)
   rw[if_neg q,r0]at hg
   exact hg rfl
theorem xset_more {y : V} {u : Value} {d : Addr} {Q : Unit → Shared → Prop} (I : Inv X pins σ H s) (e : H a = some (XO fr a C (some d))) (ed : H d = some (XD d fs)) (hl : fs.length < 100) (c : XCls X.K C B) (n : PySem.W.findIn X.K (.ref C) f = some none) (ry : RelV y u)
  (k:∀s',Inv X pins σ (upd H d (XD d (putF f y fs))) s'→Q () s'):wpAny (model X.prog X.w) A (setAttr (.ref a) f u) Q E s:=by
 obtain ⟨oe,vs,g,e1,e2,e3,e4,e5⟩:=xo_get (I.hok a _ e)
 obtain ⟨mA,n2,r2,wi2,l2⟩:=xd_get (I.hok d _ ed)
 obtain ⟨o2,es2,ep2,g2,dt2,_⟩:=id n2
 refine xset_open I.kIn (instx1 g e1 e2 e3 g2) c n ?_
 obtain ⟨cd,hc,hh,hm⟩:=c.cd
 obtain ⟨oc,odi,oda,osl⟩:=oe
 cases e1;cases e2;cases e3
 unfold storeInOwnDict
 refine wpAny_bind (wpAny_pure (wpAny_bind ?_))
 show wpAny _ _ (instanceDict a true) _ _ _
 unfold instanceDict
 refine wpAny_bind (wpAny_loadPart g (wpAny_bind (PySem.W.Looks.here (s:={s with toks:=s.toks + 1}) (PySem.W.looks_clsIn I.kIn hc) ?_)))
 rw[hh]
 refine wpAny_pure (a:=some d) ?_
 show wpAny _ _ (storeInDict d (.str f s.toks) f u) _ _ _
 unfold storeInDict
 refine wpAny_bind (wpAny_pure (wpAny_bind ?_))
 refine wpAny_nsSet1 (s:={s with toks:=s.toks + 1}) n2 fun h' n3 sb=>?_
 obtain ⟨oD,esD,epD,hoD,hdD,hcD⟩:=n3.count (PySem.Within.cons f u wi2)
 refine wpAny_bind (wpAny_lookBehind hoD (by rw[hdD];exact pastItsLine_dict (Nat.le_trans hcD (by rw[List.length_cons,List.length_map,sizeLine_eq];omega))) ?_)
 refine wpAny_pure (k _ (I.write (x:=d) (e:=d) (o:=XD d (putF f y fs)) (t':=s.toks + 2) (h':=h') (by rw[ed];exact True.intro) (.inl rfl) (fun b u hb q=>(sb.2 b hb).trans q) ⟨_,hoD⟩ (xd_ok n3 (fun g=>?_) (fun g hg=>?_) (by have:=length_putF f y fs;omega))))
 ·show RelO (List.lookup g (putF f y fs)) (if g=f then some u else mA g)
  rw[lookup_putF]
  by_cases q:g=f
  ·rw[if_pos q,if_pos q];exact ry
  ·rw[if_neg q,if_neg q];exact r2 g
 ·by_cases q:g=f
  ·rw[q];exact (keys_putF f y fs).1
  ·refine (keys_putF f y fs).2 g (wi2 g fun z=>hg ?_)
   show (if g=f then some u else mA g)=none
   rw[if_neg q];exact z
theorem xgetattr {b : Bool} {d : Addr} {Q : Value → Shared → Prop} (I : Inv X pins σ H s) (e : H a = some (XO fr a C (some d))) (ed : H d = some (XD d fs)) (c : XCls X.K C B) (n : PySem.W.findIn X.K (.ref C) f = some none) (l : fs.lookup f = some v)
  (k:∀u s',Inv X pins σ H s'→RelV v u→Q u s'):wpAny (model X.prog X.w) A (getAttr (.ref a) f b) Q E s:=by
 obtain ⟨oe,vs,g,e1,e2,e3,e4,e5⟩:=xo_get (I.hok a _ e)
 obtain ⟨mA,n2,r2,wi2,l2⟩:=xd_get (I.hok d _ ed)
 obtain ⟨od,g2,lk⟩:=lookIn_ns n2
 obtain ⟨u,hu,ru⟩:=RelO.some_of (v:=v) (o:=mA f) (by rw[←l];exact r2 f)
 refine xget_value I.kIn (instx1 g e1 e2 e3 g2) c.ga c.gh c.base (PySem.W.findObj_own c.hd n rfl (by rw[lk,hu])) (handed_of ru) (k u _ (I.tok _) ru)
theorem xisinst {d : Addr} {cl : Value} {b : Bool} {Q : Value → Shared → Prop} (I : Inv X pins σ H s) (e : H a = some (XO fr a C (some d))) (ed : H d = some (XD d fs)) (c : XCls X.K C B) (kk : PySem.W.kitOne X.K (.ref C) cl = some b)
  (k:∀tk,Q (.bool b) {s with toks:=tk}):wpAny (model X.prog X.w) A (call (.builtin "isinstance") [.ref a,cl]) Q E s:=by
 obtain ⟨oe,vs,g,e1,e2,e3,e4,e5⟩:=xo_get (I.hok a _ e)
 obtain ⟨mA,n2,r2,wi2,l2⟩:=xd_get (I.hok d _ ed)
 obtain ⟨o2,es2,ep2,g2,dt2,_⟩:=id n2
 exact PySem.W.kia_one (kitx_exc c.hd c.ga c.gh c.base c.obj c.ca c.cg c.ct) I.kIn (instx1 g e1 e2 e3 g2) kk (fun z=>nomatch z) k
theorem xisinsts {d tp : Addr} {cs : List Value} {b : Bool} {Q : Value → Shared → Prop} (I : Inv X pins σ H s) (e : H a = some (XO fr a C (some d))) (ed : H d = some (XD d fs)) (c : XCls X.K C B) (ht : IsTup s.heap tp cs.toArray) (kk : PySem.W.kitAny X.K (.ref C) cs = some b)
  (k:∀tk,Q (.bool b) {s with toks:=tk}):wpAny (model X.prog X.w) A (call (.builtin "isinstance") [.ref a,.ref tp]) Q E s:=by
 obtain ⟨oe,vs,g,e1,e2,e3,e4,e5⟩:=xo_get (I.hok a _ e)
 obtain ⟨mA,n2,r2,wi2,l2⟩:=xd_get (I.hok d _ ed)
 obtain ⟨o2,es2,ep2,g2,dt2,_⟩:=id n2
 obtain ⟨⟨oc,odi,oda,osl⟩,h1,h2,m,h3⟩:=ht
 cases h2;cases h3
 exact PySem.W.kia_tup (kitx_exc c.hd c.ga c.gh c.base c.obj c.ca c.cg c.ct) I.kIn (instx1 g e1 e2 e3 g2) h1 kk (fun z=>nomatch z) k
end
end
end L2
set_option Elab.async false
set_option linter.all false
set_option maxRecDepth 100000
namespace L2
open PySem PySem.Spec PyProof.Rows
section
section
variable {prog:Program} {w:World} {A:Around} {E:Value→Shared→Prop} {h:Heap} {g:Array GenState} {d:Drawn} {t:Nat} {os:OsState} {K:W.Frag}
variable {nm q:Str} {C N:Addr} {bs bm:List Value} {hdct:Bool} {sn:List Str} {sub:List Value} {ab:Bool} {col:Option Bool} {dd:Option Addr} {k0 k1 k2 k3 k5:Option Value}
theorem call_xini {rest : List Value} {fI : Addr} {Q : Value → Shared → Prop} (X : K.In h) (lk : K.lookup C = some (excClassObj nm q C N bs bm hdct sn sub ab col dd k0 k1 k2 k3 k5 "ValueError.__new__")) (tl : PySem.W.tailIn K vmB bm = true)
  (hi:PySem.W.findIn K (.ref C) "__init__"=some (some (.ref fI))) (hf:PySem.W.isFn K (.ref fI)=true) (len:rest.length≤sizeLine)
  (k:wpAny (model prog w) (A.under (.builtin "type.__call__" ⟨.ref C::rest,[]⟩)) (call (.ref fI) (.ref (h.objs.size + 1)::rest)) (fun r s'=>r=.none∧Q (.ref (h.objs.size + 1)) s') E
   ⟨(h.push {cls:=.type "tuple",data:=.seq rest.toArray}).push {cls:=.ref C,data:=.fields #[.ref h.objs.size,.none,.none,.none,.bool false,.none]},g,d,t,os⟩) :
  wpAny (model prog w) A (call (.ref C) rest) Q E ⟨h,g,d,t,os⟩:=by
 have F:=PySem.F.excBase_ValueError
 have gC:=X _ _ lk
 have T:OwnTail h vmB bm:=PySem.W.tail_of_in X tl
 have f1:=tc_lookup
 have f2:=tc_bind (.ref C)
 have tC:(⟨h,g,d,t,os⟩:Shared).TypeIs (.ref C) "type":=⟨_,gC,rfl⟩
 refine wpAny_call (codeAny_of_tree ?_)
 show wpAny _ _ (callAny (.ref C) _) _ _ _
 repeat (any_goals (first | with_reducible refine wpAny_loadPart_at gC ?_ | assumption | wp_step))
 refine ⟨rfl,codeAny_call_builtin_at (Code.quiet_builtin _ (by decide +kernel)) entry_typeCall (wpAny_check_type_call_sub gC ?_)⟩
 repeat (first | with_reducible refine wpAny_madeBy_exc gC ?_ | with_reducible refine wpAny_loadPart_at gC ?_ | wp_step)
 refine codeAny_call_builtin_code (Code.quiet_builtin _ F.quiet) (wpAny_check_new_subT F T gC (codeAny_exc_new_subT F T gC ?_ len))
 show wpAny _ _ _ _ _ (⟨(h.push {cls:=.type "tuple",data:=.seq rest.toArray}).push {cls:=.ref C,data:=.fields #[.ref h.objs.size,.none,.none,.none,.bool false,.none]},g,d,t,os⟩:Shared)
 generalize hh:(h.push {cls:=.type "tuple",data:=.seq rest.toArray}).push {cls:=.ref C,data:=.fields #[.ref h.objs.size,.none,.none,.none,.bool false,.none]}=h2 at k ⊢
 have ks:∀b o,h.get? b=some o→h2.get? b=some o:=fun b o e=>by rw[←hh];exact Heap.get?_push_of_some _ (Heap.get?_push_of_some _ e)
 have gC2:=ks _ _ gC
 have X2:K.In h2:=X.keeps ks
 have ge:h2.get? (h.objs.size + 1)=some {cls:=.ref C,data:=.fields #[.ref h.objs.size,.none,.none,.none,.bool false,.none]}:=by rw[←hh];heap_get
 have cC:(Value.ref C::bm).contains (.ref C)=true:=by simp
 unfold isInstance
 repeat (first | with_reducible refine wpAny_loadPart_at ge ?_ | wp_step)
 show wpAny _ _ (isSubtype (.ref C) (.ref C)) _ _ _
 refine wpAny_isSubtype_exc gC2 ?_
 rw[cC]
 repeat (first | with_reducible refine wpAny_loadPart_at ge ?_ | wp_step)
 show wpAny _ _ (typeLookup (.ref C) _) _ _ _
 refine (PySem.W.looks_findIn X2 hi).at ?_
 refine wpAny_holding (wpAny_bind ((PySem.W.bind_fn X2 _ (beq_iff_eq.mp hf)).at ?_))
 refine wpAny_bind (wpAny_mono k (fun r s' z=>?_) fun _ _ z=>z)
 obtain ⟨rfl,z⟩:=z
 wp_walk
 exact z
end
end
section
section
variable {M:Model} {A:Around} {E:Value→Shared→Prop} {env:Env} {K:W.Frag}
variable {nm q:Str} {C N:Addr} {bs bm:List Value} {hdct:Bool} {sn:List Str} {sub:List Value} {ab:Bool} {col:Option Bool} {dd:Option Addr} {k0 k1 k2 k3 k5:Option Value} {newId:String}
theorem raise_x {s : Shared} {x : Sem Value} {Q : Flow → Shared → Prop} (hb : bm.contains (.type "BaseException") = true) (hh : A.handled = none)
  (k:wpAny M A x (fun v s1=>∃e dx vs sl,v=.ref e∧s1.heap.get? C=some (excClassObj nm q C N bs bm hdct sn sub ab col dd k0 k1 k2 k3 k5 newId)∧
   s1.heap.get? e=some ⟨.ref C,dx,.fields vs,sl⟩∧vs[1]?=some .none∧E (.ref e) s1) E s):wpAny M A (raiseStmt env (some x) none) Q E s:=by
 have cB:(Value.ref C::bm).contains (.type "BaseException")=true:=by rw[List.contains_cons,hb,Bool.or_true]
 unfold raiseStmt
 refine wpAny_bind (wpAny_mono k (fun v s1 z=>?_) fun _ _ z=>z)
 obtain ⟨e,dx,vs,sl,rfl,gC,ge,h1,z⟩:=z
 obtain ⟨hp,g,d,tk,os⟩:=s1
 repeat (first | with_reducible refine wpAny_loadPart_at ge ?_ | with_reducible refine wpAny_loadPart_at gC ?_ | (with_reducible refine wpAny_isSubtype_exc gC ?_;rw[cB]) | with_reducible refine wpAny_field ge rfl h1 ?_ | wp_step)
 exact wpAny_raiseNew_none hh z
end
end
section
noncomputable def CXo (P:Program) (w:World):CXT:=fun outer H s E e s'=>∃(ea C dx T:Addr) (H':Hp),e=.ref ea∧s'.os=s.os∧AllBare s'.gens∧Un (frs outer) [] H H' s.heap s'.heap∧HOk P w H' s'.heap∧
 s.heap.objs.size≤ea∧s.heap.objs.size≤T∧H' ea=some (XO false ea C (some dx))∧H' T=none∧Upx ea (.ref C) (some dx) .none T s'.heap∧E (.ref C) (some ea) H'
theorem upx_ok {P:Program} {w:World} {H:Hp} {h:Heap} {ea C T:Addr} {dx:Option Addr} {fl:Value} (u:Upx ea (.ref C) dx fl T h):ObjOk P w H h ea (XO false ea C dx):=by
 obtain ⟨oe,vs,oT,ts,he,c1,c2,dt,h1,_,_,_,_,h9⟩:=u
 exact xo_ok he c1 c2 dt ⟨(Array.getElem?_eq_some_iff.mp h1).1,h9⟩ fun z=>by cases z
noncomputable abbrev XS:=St→XK
noncomputable def PassX (X:Cx) (EE:XS):Prop:=∀(pins:List (Addr×Obj)) (σ:St) (H:Hp) (s:Shared) (e:Value) (s':Shared),Inv X pins σ H s→CXo X.prog X.w X.stack H s (EE σ) e s'→X.xe e s'
noncomputable def RaiseX (X:Cx) (EE:XS):Prop:=∀(pins:List (Addr×Obj)) (σ:St) (H H1:Hp) (s s1:Shared) (ea C dx:Addr),Inv X pins σ H s→s.heap.objs.size≤ea→Inv X pins σ H1 s1→H1 ea=some (XO true ea C (some dx))→
 EE σ (.ref C) (some ea) (upd H1 ea (XO false ea C (some dx)))→X.xe (.ref ea) s1
theorem upd_self {H:Hp} {a:Addr} {o:HO} (h:H a=some o):upd H a o=H:=by
 funext b
 unfold upd
 by_cases e:b=a
 ·rw[if_pos e,e,h]
 ·rw[if_neg e]
section
variable {P:Program} {w:World} {K:W.Frag} {mg:Str→Option Value} {base:Heap} {N:List Str} {qual:Str} {scope:Scope} {f:Addr} {cd:Value} {A:Around} {outer:List Env} {s:Shared} {H:Hp} {E:XK}
theorem Inv.old {X:Cx} {pins:List (Addr×Obj)} {σ:St} {H:Hp} {s:Shared} (I:Inv X pins σ H s) {b:Addr} (h:s.heap.objs.size≤b):X.s₀.heap.objs.size≤b:=Nat.le_trans I.sz h
theorem left_x {pins : List (Addr × Obj)} {σ : St} {H1 : Hp} {s1 : Shared} {h' : Heap} {no : List Addr} {ea C dx T : Addr} (I : Inv (cxOf (CXo P w) P w K mg base N qual scope f cd A outer s H E) pins σ H1 s1)
  (x:Nte (frs (envOfC qual scope s.heap.objs.size f cd::outer)) no s1.heap h') (hno:∀b∈no,s.heap.objs.size≤b∧(b=ea∨H1 b=none)) (u:Upx ea (.ref C) (some dx) .none T h') (h1:s.heap.objs.size≤ea) (hT:s1.heap.objs.size≤T)
  (e:∃b,H1 ea=some (XO b ea C (some dx))) (k:E (.ref C) (some ea) (upd H1 ea (XO false ea C (some dx)))):CXo P w outer H s E (.ref ea) {s1 with heap:=h'}:=by
 obtain ⟨fb,e⟩:=e
 have lL:∀b o,s.heap.get? b=some o→b≠s.heap.objs.size:=fun b o q z=>by rw[z]at q;exact absurd (Heap.lt_size q) (Nat.lt_irrefl _)
 have nno:∀b o,s.heap.get? b=some o→b∉no:=fun b o q z=>absurd (Nat.lt_of_lt_of_le (Heap.lt_size q) (hno b z).1) (Nat.lt_irrefl _)
 have nea:∀b o,s.heap.get? b=some o→b≠ea:=fun b o q z=>by rw[z]at q;exact absurd (Nat.lt_of_lt_of_le (Heap.lt_size q) h1) (Nat.lt_irrefl _)
 have B:Un (frs outer) [] H H1 s.heap s1.heap:=I.base
 have T0:H1 T=none:=I.hok.fresh hT
 have nT:T≠ea:=fun z=>by rw[z,e]at T0;cases T0
 have sub:∀b o,s.heap.get? b=some o→b∉frs outer→b∉frs (envOfC qual scope s.heap.objs.size f cd::outer):=fun b o q n z=>by
  have z':b∈s.heap.objs.size::frs outer:=z
  rcases List.mem_cons.mp z' with r | r
  ·exact lL b o q r
  ·exact n r
 refine ⟨ea,C,dx,T,upd H1 ea (XO false ea C (some dx)),rfl,I.os,I.bare,⟨fun b o q n hb hx=>?_,fun b o q n hb hx=>?_,fun b o q n hx=>?_,fun b o q hx=>?_,fun b xs q=>?_,fun b o xs q=>?_,fun b ps q=>?_⟩,?_,h1,Nat.le_trans (I.old (Nat.le_refl _)) hT,upd_same,by rw[upd_ne nT];exact T0,u,k⟩
 ·exact (x b o (B.keep b o q n hb hx) (nno b o q)).1 (sub b o q hb)
 ·obtain ⟨sl,q1⟩:=B.slot b o q n hb hx
  obtain ⟨sl',q2⟩:=(x b _ q1 (nno b o q)).2
  exact ⟨sl',q2⟩
 ·rw[upd_ne (nea b o q)];exact B.free b o q n hx
 ·obtain ⟨o',q1⟩:=B.there b o q hx
  obtain ⟨sl',q2⟩:=(x b _ q1 (nno b o q)).2
  exact ⟨_,q2⟩
 ·have q1:=B.tups b xs q
  rw[upd_ne (fun z=>by rw[z,e]at q1;cases q1)];exact q1
 ·have q1:=B.frzs b o xs q
  rw[upd_ne (fun z=>by rw[z,e]at q1;cases q1)];exact q1
 ·obtain ⟨m,q1⟩:=B.tbls b ps q
  exact ⟨m,by rw[upd_ne (fun z=>by rw[z,e]at q1;cases q1)];exact q1⟩
 ·refine fun b o q=>?_
  by_cases z:b=ea
  ·subst z
   rw[upd_same]at q;cases q
   exact upx_ok u
  ·rw[upd_ne z]at q
   have nfr:∀c v,H1 c=some v→c∉frs (envOfC qual scope s.heap.objs.size f cd::outer):=fun c v q m=>by
    have:=I.stkFree c m
    rw[q]at this;cases this
   have nn:∀c v,H1 c=some v→c≠ea→c∉no:=fun c v q n m=>by
    rcases (hno c m).2 with r | r
    ·exact n r
    ·rw[r]at q;cases q
   refine (I.hok b o q).stay (fun c v hc r=>?_) (fun c r=>?_) fun c xs r=>?_
   ·rcases hc with rfl | hc
    ·exact (x c v r (nn c o q z)).1 (nfr c o q)
    ·exact (x c v r (nn c _ hc fun y=>by rw[y,e]at hc;cases hc)).1 (nfr c _ hc)
   ·rw[upd_ne (fun y=>by rw[y,e]at r;cases r)];exact r
   ·rw[upd_ne (fun y=>by rw[y,e]at r;cases r)];exact r
theorem raise_def:RaiseX (cxOf (CXo P w) P w K mg base N qual scope f cd A outer s H E) (fun _=>E):=fun pins σ H0 H1 s0 s1 ea C dx I0 hs I1 e k=>by
 obtain ⟨oe,vs,g,e1,e2,e3,e4,e5⟩:=xo_get (I1.hok ea _ e)
 refine leave_new (base:=base) I1.ok.frames I1.stack rfl g e3 (e5 rfl).1 e4.2 fun h' T hT x u=>?_
 rw[e1,e2]at u
 have ls:s.heap.objs.size≤ea:=I0.old hs
 exact left_x I1 x (fun b z=>by rw[List.mem_singleton.mp z];exact ⟨ls,.inl rfl⟩) u ls hT ⟨true,e⟩ k
theorem pass_def:PassX (cxOf (CXo P w) P w K mg base N qual scope f cd A outer s H E) (fun _=>E):=fun pins σ H0 s0 e s1 I0 hx=>by
 obtain ⟨ea,C,dx,T,H1,rfl,o1,o2,un,ok,l1,l2,t1,t2,u,k⟩:=hx
 have I1:Inv (cxOf (CXo P w) P w K mg base N qual scope f cd A outer s H E) pins σ H1 s1:=I0.call' o1 un ok o2 (fun b z=>absurd z (by simp))
 refine leave_on (base:=base) I1.ok.frames I1.stack rfl u fun h' T' hT x u'=>?_
 have ls:s.heap.objs.size≤ea:=I0.old l1
 refine left_x I1 x (fun b z=>?_) u' ls hT ⟨false,t1⟩ (by rw[upd_self t1];exact k)
 rcases List.mem_cons.mp z with rfl | z
 ·exact ⟨ls,.inl rfl⟩
 ·rw[List.mem_singleton.mp z]
  exact ⟨I0.old l2,.inr t2⟩
end
structure DefX (P:Program) (w:World) (K:W.Frag) (mg:Str→Option Value) (base:Heap) (x:Str) (ps:List Str) (n:Nat) (sp:Sp):Prop where
 ex:∃f fd,FnOk P w K mg base (CXo P w) n f fd ps sp∧PySem.W.keepIn K (.ref f)=true∧mg x=some (.ref f)∧Binds K fd ps []∧∃oc od osl,K.lookup f=some ⟨oc,od,.func fd,osl⟩
theorem DefX.mkq {P : Program} {w : World} {K : W.Frag} {mg : Str → Option Value} {base : Heap} {y x : Str} {st : Stmt} {N ps : List Str} {n : Nat} {sp : Sp} (T : Src K mg y x st) (S : FnScope N ps (defScope st)) (len : ∀ vs H Q E, sp vs H Q E → vs.length = ps.length)
  (hb:∀(kV doc pm:Value) (an:Option Addr) (cdv ct:Value) (us:List Value),us.length=ps.length→bindArgs (PySem.W.fnOf x x (defArgs st) (defBody st) (defScope st) .none kV doc pm an cdv ct) ⟨us,[]⟩=pure (ps.zip us))
  (hbody:∀(f:Addr) (cdv:Value) (A:Around) (outer:List Env) (s:Shared) (H:Hp) (vs:List V) (Q:VK) (E:XK),Room n (A.deeper (envOfC x (defScope st) s.heap.objs.size f cdv))→sp vs H Q E→
   ∃t,QSs (cxOf (CXo P w) P w K mg base N x (defScope st) f cdv A outer s H E) (defBody st) t∧t {nx:=fun _ H'=>Q .non H',rt:=Q} (start N vs) H):DefX P w K mg base y ps (n + 1) sp:=by
 obtain ⟨f,fd,F,m⟩:=T
 have B:=F.binds hb
 have kp:=F.kp
 obtain ⟨oc,od,kV,doc,pm,an,cdv,ct,osl,rfl,lk,hcd⟩:=F.ex
 exact ⟨f,_,fn_of lk hcd S len fun A outer s H vs Q E hr h=>let ⟨t,q,r⟩:=hbody f cdv A outer s H vs Q E hr h;⟨t,q.o,r⟩,kp,m,B,_,_,_,lk⟩
noncomputable def tCallX (sp:Sp) (EE:XS) (t:TA):TE:=fun σ H Q=>t σ H fun vs H1=>sp vs H1 Q (EE σ)
theorem qpe_cdx {X : Cx} {x : Str} {ps : List Str} {n k : Nat} {sp : Sp} {EE : XS} {p pos : Pos} {e : Expr} {es : List Expr} {t : TA} (D : DefX X.prog X.w X.K X.mg X.base x ps n sp) (hr : Room k X.A) (hp : PassX X EE) (ha : QA X (e :: es) t)
  (hk:n≤k:=by decide) (hg:Gl X x:=by rfl) (hdb:(x == ("__debug__":Str))=false:=by decide) (he:starEach (e::es) X.env=(false,eval e X.env)::starEach es X.env:=by rfl) (hpl:(backTo pos (starEach es X.env)).any (·.1)=false:=by rfl) :
  QE X (.Call (.Name x p) (e::es) [] pos) (tCallX sp EE t):=⟨by
 intro pins s σ H Q I h
 obtain ⟨f,fd,F,kp,m,B,_⟩:=D.ex
 refine wpAny_Call_Name_kw (ld_glob I hg m ?_ hdb)
 refine PySem.W.callWith_K (h₀:=X.base) I.ok.mod.kin kp (thn (ha.o pos pins s σ H _ I h) fun us s1 ⟨vs,H1,I1,r,q⟩=>⟨I1.kIn,?_⟩) he hpl
 have hl:(us ++ []).length=ps.length:=by rw[List.append_nil,←r.length];exact F.len _ _ _ _ q
 have bt:=B s1 us I1.kIn hl
 rw[List.append_nil]at bt
 refine wpAny_call (codeAny_mono (F.run X.A X.stack s1 H1 ⟨us,[]⟩ us vs Q (EE σ) (hr.mono hk) I1.env0 bt r q) fun r s' hq=>?_)
 cases r with
 | error e=>exact hp pins σ H1 s1 e s' I1 hq
 | ok fl=>
  cases fl with
  | ret u=>exact I1.after hq
  | next=>exact False.elim hq
  | brk=>exact False.elim hq
  | cont=>exact False.elim hq⟩
end
section
noncomputable def tXFld (K:W.Frag) (ta:TE) (f:Str):TE:=fun σ H Q=>ta σ H fun x H1=>∃a C B d fs fr v,x=.ref a∧H1 a=some (XO fr a C (some d))∧H1 d=some (XD d fs)∧XCls K C B∧PySem.W.findIn K (.ref C) f=some none∧fs.lookup f=some v∧Q v H1
noncomputable def sXFld (K : W.Frag) (ta tv : TE) (f : Str) : TS := fun D σ H => tv σ H fun y H1 => ta σ H1 fun x H2 => ∃ a C B fr, x = .ref a ∧ XCls K C B ∧ PySem.W.findIn K (.ref C) f = some none ∧
  ((H2 a=some (XO fr a C none)∧∀d,H2 d=none→D.nx σ (upd (upd H2 d (XD d [(f,y)])) a (XO fr a C (some d))))∨
   ∃d fs,H2 a=some (XO fr a C (some d))∧H2 d=some (XD d fs)∧fs.length < 100∧D.nx σ (upd H2 d (XD d (putF f y fs))))
section
variable {X:Cx} {o e value:Expr} {f:Str} {pos pos':Pos} {ta tv:TE}
theorem qpe_xfld {K:W.Frag} (hK:X.K=K) (he:QE X e ta) (hb:attributeBase e f X.env (eval e X.env)=eval e X.env):QE X (.Attribute e f pos) (tXFld K ta f):=by
 subst hK
 exact ⟨by
  intro pins s σ H Q I h
  refine attr_of hb (thn (he.o pins s σ H _ I h) fun u s1 ⟨x,H1,I1,rx,a,C,B,d,fs,fr,v,ex,ea,ed,c,n,l,q⟩=>?_)
  subst ex
  obtain rfl:u=Value.ref a:=rx
  exact xgetattr I1 ea ed c n l fun u' s2 I2 ru=>⟨v,H1,I2,ru,q⟩⟩
theorem qps_xfld {K:W.Frag} (hK:X.K=K) (ha:QE X o ta) (hv:QE X value tv) (hs:swapsWith value (some (.Attribute o f pos')) pos.line X.env=pure false):QS X (.Assign [.Attribute o f pos'] value pos) (sXFld K ta tv f):=by
 subst hK
 exact ⟨by
  intro pins s σ H D I h
  refine plainObj_wpAny_Assign_Attribute (thn (hv.o pins s σ H _ I h) fun u s1 ⟨y,H1,I1,ry,q⟩=>thn (ha.o pins s1 σ H1 _ I1 q) fun ov s2 ⟨x,H2,I2,rx,a,C,B,fr,ex,c,n,q2⟩=>?_) hs
  subst ex
  obtain rfl:ov=Value.ref a:=rx
  rcases q2 with ⟨ea,q3⟩ | ⟨d,fs,ea,ed,hl,q3⟩
  ·exact xset_first I2 ea c n ry fun s3 d hd I3=>⟨σ,_,I3,q3 d hd⟩
  ·exact xset_more I2 ea ed hl c n ry fun s3 I3=>⟨σ,_,I3,q3⟩⟩
theorem vrefs:∀{cs:List Addr} {us:List Value},Vals (cs.map V.ref) us→us=cs.map Value.ref
 | [],_,.nil=>rfl
 | c::cs,_,.cons r t=>by rw[vrefs t,show _=Value.ref c from r];rfl
theorem call_isX {K : W.Frag} (hK : X.K = K) : CallR X (.builtin "isinstance") (fun xs H Q => ∃ a C B d fs fr, H a = some (XO fr a C (some d)) ∧ H d = some (XD d fs) ∧ XCls K C B ∧
    ((∃D b,xs=[.ref a,.ref D]∧PySem.W.kitOne K (.ref C) (.ref D)=some b∧Q (.bl b) H)∨(∃T b,xs=[.ref a,.ty T]∧PySem.W.kitOne K (.ref C) (.type T)=some b∧Q (.bl b) H)∨
     ∃(tp:Addr) (cs:List Addr) (b:Bool),xs=[.ref a,.ref tp]∧H tp=some (.tup (cs.map V.ref))∧PySem.W.kitAny K (.ref C) (cs.map Value.ref)=some b∧Q (.bl b) H)):=by
  subst hK
  intro pins s σ H xs us Q I r h
  obtain ⟨a,C,B,d,fs,fr,ea,ed,c,h⟩:=h
  rcases h with ⟨D,b,rfl,kk,q⟩ | ⟨T,b,rfl,kk,q⟩ | ⟨tp,cs,b,rfl,et,kk,q⟩
  · obtain ⟨u, w', rfl, rx, ry⟩ := vals2 r
    cases rx;cases ry
    exact xisinst I ea ed c kk fun tk=>⟨.bl b,H,I.tok tk,rfl,q⟩
  · obtain ⟨u, w', rfl, rx, ry⟩ := vals2 r
    cases rx;cases ry
    exact xisinst I ea ed c kk fun tk=>⟨.bl b,H,I.tok tk,rfl,q⟩
  · obtain ⟨u, w', rfl, rx, ry⟩ := vals2 r
    cases rx;cases ry
    obtain ⟨_,its,rv,it⟩:=(show ObjOk X.prog X.w H s.heap tp (.tup (cs.map V.ref)) from I.hok tp _ et)
    rw[vrefs rv]at it
    exact xisinsts I ea ed c it kk fun tk=>⟨.bl b,H,I.tok tk,rfl,q⟩
end
structure XSrc (K:W.Frag) (mg:Str→Option Value) (x qual:Str) (st:Stmt) (C B fI:Addr) (fd:FuncData):Prop where
 mg:mg x=some (.ref C)
 cls:∃nm q N bs hdct sn sub ab col dd k0 k1 k2 k3 k5,K.lookup C=some (excClassObj nm q C N bs (.ref B::vmB) hdct sn sub ab col dd k0 k1 k2 k3 k5 "ValueError.__new__")
 tl:PySem.W.tailIn K vmB (.ref B::vmB)=true
 ini:PySem.W.findIn K (.ref C) "__init__"=some (some (.ref fI))
 fn:PySem.W.isFn K (.ref fI)=true
 kp:PySem.W.keepIn K (.ref C)=true
 f:Fun K "__init__" qual st fI fd
 xc:XCls K C B
noncomputable def tMkX (C:Addr) (sp:Sp) (t:TA):TE:=fun σ H Q=>t σ H fun vs H1=>vs.length≤100∧∀ea,H1 ea=none→sp (.ref ea::vs) (upd H1 ea (XO true ea C none)) (fun v H2=>v=.non∧Q (.ref ea) H2) E0
section
variable {X:Cx} {x qual:Str} {st:Stmt} {C B fI:Addr} {fd:FuncData} {ps:List Str} {k:Nat} {sp:Sp} {e:Expr} {es:List Expr} {t:TA} {p pos:Pos}
theorem mk_x {pins : List (Addr × Obj)} {σ : St} {H : Hp} {s : Shared} {Q : VK} {us : List Value} {vs : List V} {E : Value → Shared → Prop} (S : XSrc X.K X.mg x qual st C B fI fd) (F : FnOk X.prog X.w X.K X.mg X.base CX0 k fI fd ps sp) (hr : Room (k + 1) X.A) (hb : Binds X.K fd ps [])
  (I:Inv X pins σ H s) (r:Vals vs us) (hl:vs.length≤100) (h:∀ea,H ea=none→sp (.ref ea::vs) (upd H ea (XO true ea C none)) (fun v H2=>v=.non∧Q (.ref ea) H2) E0) :
  wpAny (model X.prog X.w) X.A (call (.ref C) us) (fun u s'=>∃ea H',s.heap.objs.size≤ea∧u=.ref ea∧Inv X pins σ H' s'∧Q (.ref ea) H') E s:=by
 obtain ⟨nm,q,N,bs,hdct,sn,sub,ab,col,dd,k0,k1,k2,k3,k5,lk⟩:=S.cls
 have len:us.length≤sizeLine:=by rw[←r.length,sizeLine_eq];omega
 obtain ⟨hp,g,d,tk,os⟩:=s
 refine call_xini I.kIn lk S.tl S.ini S.fn len ?_
 have z1:Heap.get? (hp.push {cls:=.type "tuple",data:=.seq us.toArray}) hp.objs.size=some {cls:=.type "tuple",data:=.seq us.toArray}:=Heap.get?_push_size hp rfl
 have I1:=I.kept (h':=hp.push {cls:=.type "tuple",data:=.seq us.toArray}) (t':=tk) (fun b u q=>Heap.get?_push_of_some _ q)
 have ge:Heap.get? ((hp.push {cls:=.type "tuple",data:=.seq us.toArray}).push {cls:=.ref C,data:=.fields #[.ref hp.objs.size,.none,.none,.none,.bool false,.none]}) (hp.objs.size + 1)=some {cls:=.ref C,data:=.fields #[.ref hp.objs.size,.none,.none,.none,.bool false,.none]}:=by heap_get
 have I2:=I1.laid (a:=hp.objs.size + 1) (o:=XO true (hp.objs.size + 1) C none) (h':=(hp.push {cls:=.type "tuple",data:=.seq us.toArray}).push {cls:=.ref C,data:=.fields #[.ref hp.objs.size,.none,.none,.none,.bool false,.none]}) (t':=tk) (fun b u q=>Heap.get?_push_of_some _ q) (Nat.le_of_eq (Heap.size_push _ _)) (xo_ok ge rfl rfl rfl ⟨by show 1 < 6;decide,rfl⟩ (fun _=>⟨rfl,rfl,by show 4 < 6;decide⟩))
 have hq:=h (hp.objs.size + 1) (I.hok.fresh (Nat.le_succ _))
 have r2:Vals (V.ref (hp.objs.size + 1)::vs) (Value.ref (hp.objs.size + 1)::us):=.cons rfl r
 have hl2:(Value.ref (hp.objs.size + 1)::us ++ []).length=ps.length:=by
  have z:=r2.length
  rw[F.len _ _ _ _ hq]at z
  rw[List.append_nil];exact z.symm
 have bt:=hb _ (Value.ref (hp.objs.size + 1)::us) I2.kIn hl2
 rw[List.append_nil]at bt
 refine wpAny_call (codeAny_mono (F.run _ X.stack _ _ ⟨Value.ref (hp.objs.size + 1)::us,[]⟩ (Value.ref (hp.objs.size + 1)::us) _ _ E0 (hr.make C us []) (I2.env0.make C us []) bt r2 hq) fun r s' hq'=>?_)
 cases r with
 | error e=>exact False.elim hq'
 | ok fl=>
  cases fl with
  | ret u=>
   obtain ⟨v,H',I3,rv,ev,q3⟩:=I2.after hq'
   subst ev
   exact ⟨rv,hp.objs.size + 1,H',Nat.le_succ _,rfl,I3,q3⟩
  | next=>exact False.elim hq'
  | brk=>exact False.elim hq'
  | cont=>exact False.elim hq'
noncomputable def sRaise (C:Addr) (sp:Sp) (EE:XS) (t:TA):TS:=fun _ σ H=>tMkX C sp t σ H fun v H2=>∃ea dx,v=.ref ea∧H2 ea=some (XO true ea C (some dx))∧EE σ (.ref C) (some ea) (upd H2 ea (XO false ea C (some dx)))
theorem qps_raise {EE : XS} {np cpos : Pos} (S : XSrc X.K X.mg x qual st C B fI fd) (F : FnOk X.prog X.w X.K X.mg X.base CX0 k fI fd ps sp) (hr : Room (k + 1) X.A) (hb : Binds X.K fd ps []) (hx : RaiseX X EE) (ha : QA X (e :: es) t)
  (hg:Gl X x:=by rfl) (hdb:(x == ("__debug__":Str))=false:=by decide) (he:starEach (e::es) X.env=(false,eval e X.env)::starEach es X.env:=by rfl) (hpl:(backTo cpos (starEach es X.env)).any (·.1)=false:=by rfl) :
  QS X (.Raise (some (.Call (.Name x np) (e::es) [] cpos)) none pos) (sRaise C sp EE t):=⟨by
 intro pins s σ H D I h
 obtain ⟨nm,q,N,bs,hdct,sn,sub,ab,col,dd,k0,k1,k2,k3,k5,lk⟩:=S.cls
 rw[arm_exec_Raise]
 refine wpAny_bind (wpAny_standAt (raise_x (C:=C) (nm:=nm) (q:=q) (N:=N) (bs:=bs) (bm:=.ref B::vmB) (hdct:=hdct) (sn:=sn) (sub:=sub) (ab:=ab) (col:=col) (dd:=dd) (k0:=k0) (k1:=k1) (k2:=k2) (k3:=k3) (k5:=k5) (newId:="ValueError.__new__") (by simp[vmB]) hr.hd ?_))
 refine wpAny_bind (wpAny_Call_Name_kw (ld_glob I hg S.mg ?_ hdb))
 refine PySem.W.callWith_K (h₀:=X.base) I.ok.mod.kin S.kp (thn (ha.o cpos pins s σ H _ I h) fun us s1 ⟨vs,H1,I1,r,hl,q1⟩=>⟨I1.kIn,?_⟩) he hpl
 refine thn (mk_x (E:=X.xe) (Q:=fun v H2=>∃ea dx,v=.ref ea∧H2 ea=some (XO true ea C (some dx))∧EE σ (.ref C) (some ea) (upd H2 ea (XO false ea C (some dx)))) S F hr hb I1 r hl q1) fun u s2 z=>?_
 obtain ⟨ea,H2,l1,rfl,I2,ea',dx,ev,e2,ke⟩:=z
 cases ev
 refine wpAny_bind (wpAny_standAt (wpAny_pure ?_))
 obtain ⟨oe,vs',g,e1,e3,e4,e5,e6⟩:=xo_get (I2.hok ea _ e2)
 obtain ⟨oc,odi,oda,osl⟩:=oe
 cases e1;cases e3;cases e4
 exact ⟨ea,_,_,_,rfl,I2.kIn _ _ lk,g,(e6 rfl).1,hx pins σ H1 H2 s1 s2 ea C dx I1 l1 I2 e2 ke⟩⟩
end
end
section
section
variable {M:Model} {A:Around} {E:Value→Shared→Prop} {K:W.Frag}
variable {nm q:Str} {D N:Addr} {bs bm:List Value} {hdct:Bool} {sn:List Str} {sub:List Value} {ab:Bool} {col:Option Bool} {dd:Option Addr} {k0 k1 k2 k3 k5:Option Value} {newId:String}
theorem xmatch {s : Shared} {e C : Addr} {oe : Obj} {Q : Bool → Shared → Prop} (X : K.In s.heap) (lk : K.lookup D = some (excClassObj nm q D N bs bm hdct sn sub ab col dd k0 k1 k2 k3 k5 newId)) (hb : bm.contains (.type "BaseException") = true)
  (he:s.heap.get? e=some oe) (hc:oe.cls=.ref C) (hm:PySem.W.mroIn K C (.ref D)=some true) (k:Q true s):wpAny M A (excMatches (.ref e) (.ref D)) Q E s:=by
 have gD:=X _ _ lk
 have cB:(Value.ref D::bm).contains (.type "BaseException")=true:=by rw[List.contains_cons,hb,Bool.or_true]
 have nt:=tc_notTuple
 have lm:=PySem.W.looks_mroIn (M:=M) X hm
 obtain ⟨hp,g,d,tk,os⟩:=s
 unfold excMatches
 repeat (first | (with_reducible refine wpAny_loadPart_at he ?_;rw[hc]) | with_reducible refine wpAny_loadPart_at gD ?_ | (with_reducible refine wpAny_isSubtype_exc gD ?_;rw[cB]) | (with_reducible refine lm.at ?_) | wp_step)
 exact k
end
section
variable {X:Cx} {pins:List (Addr×Obj)} {σ:St} {H:Hp} {s:Shared}
theorem Inv.unbind {M : Model} {A : Around} {E : Value → Shared → Prop} {i : Nat} {x : Str} {Q : Unit → Shared → Prop} {v : V} (I : Inv X pins σ H s) (hN : X.N.Nodup) (hi : X.N[i]? = some x) (hk : X.env.kindOf x = some .local) (hv : σ[i]? = some (some v))
  (k:∀s',Inv X pins (σ.set i none) H s'→Q () s'):wpAny M A (unbindName X.env x) Q E s:=by
 obtain ⟨m,hn,hl⟩:=id I.loc
 have hiσ:i < σ.length:=by rw[I.len];exact (List.getElem?_eq_some_iff.mp hi).1
 obtain ⟨u,ru,lk⟩:=hl i x v hi hv (.inl hk)
 have mu:m x=some u:=by
  rcases lk with ⟨_,z⟩ | ⟨z,_⟩
  ·exact z
  ·rcases z with z | z <;> (rw[hk]at z;cases z)
 refine wpAny_unbindName_local hk hn mu (by rw[I.ok.kind];rfl) fun h' u' hn' hs=>?_
 obtain ⟨oL,_,_,hoL,_⟩:=id hn
 have cne:=I.cne
 refine k _ ⟨I.ok,I.os,I.bare,⟨fun b o e n hb hx=>?_,fun b o e n hb hx=>?_,I.base.free,fun b o e hx=>?_,I.base.tups,I.base.frzs,I.base.tbls⟩,⟨_,hn',fun j y v' e1 e2 e3=>?_⟩,fun y c e=>?_,I.free,I.freeC,fun p hp=>?_,fun b ob e=>?_,by simpa using I.len⟩
 ·exact (hs.2 b (Nat.ne_of_lt (Nat.lt_of_lt_of_le (Heap.lt_size e) I.ok.above))).trans (I.base.keep b o e n hb hx)
 ·obtain ⟨sl,e1⟩:=I.base.slot b o e n hb hx
  exact ⟨sl,(hs.2 b (Nat.ne_of_lt (Nat.lt_of_lt_of_le (Heap.lt_size e) I.ok.above))).trans e1⟩
 ·obtain ⟨o',e1⟩:=I.base.there b o e hx
  exact ⟨o',(hs.2 b (Nat.ne_of_lt (Nat.lt_of_lt_of_le (Heap.lt_size e) I.ok.above))).trans e1⟩
 ·by_cases hj:j=i
  ·subst hj
   rw[List.getElem?_set_self hiσ]at e2
   cases e2
  ·rw[List.getElem?_set_ne (Ne.symm hj)]at e2
   obtain ⟨w',r',z⟩:=hl j y v' e1 e2 e3
   refine ⟨w',r',?_⟩
   rcases z with ⟨k',e⟩ | ⟨k',c,e,z⟩
   ·refine .inl ⟨k',?_⟩
    have:y≠x:=fun e=>hj (nodup_ix hN e1 (e ▸ hi))
    show (if y=x then u' else m y)=some w'
    rw[if_neg this];exact e
   ·exact .inr ⟨k',c,e,z.sameBut hs (cne y c e)⟩
 ·obtain ⟨w',z⟩:=I.cell y c e
  exact ⟨w',z.sameBut hs (cne y c e)⟩
 ·obtain ⟨e,n,ne,nf,d⟩:=I.pin p hp
  exact ⟨(hs.2 p.1 ne).trans e,n,ne,nf,d⟩
 ·refine (I.hok b ob e).stay (fun c w' hc z=>(hs.2 c ?_).trans z) (fun _ z=>z) fun _ _ z=>z
  rintro rfl
  rcases hc with z | hc
  ·have:=I.free;rw[z,e]at this;cases this
  ·have:=I.free;rw[hc]at this;cases this
noncomputable abbrev Cx.suite (X:Cx) (ea:Addr):Cx:={X with A:=X.A.mark (some (.ref ea)),calm:=false,xe:=fun _ _=>False}
theorem Cx.Ok.suite (ok:X.Ok) (ea:Addr):(X.suite ea).Ok:=⟨ok.mod,ok.kind,ok.glob,ok.blt,ok.above,ok.inj,ok.has,ok.cab,(fun z=>by cases z),ok.frames,ok.stk,ok.exf,ok.bs,ok.bsz,ok.noex,ok.exfs,ok.funs,ok.frf⟩
theorem Inv.suite (I:Inv X pins σ H s) (ea:Addr):Inv (X.suite ea) pins σ H s:=⟨I.ok.suite ea,I.os,I.bare,I.base,I.loc,I.cell,I.free,I.freeC,I.pin,I.hok,I.len⟩
theorem Inv.unsuite {ea:Addr} (ok:X.Ok) (I:Inv (X.suite ea) pins σ H s):Inv X pins σ H s:=⟨ok,I.os,I.bare,I.base,I.loc,I.cell,I.free,I.freeC,I.pin,I.hok,I.len⟩
end
noncomputable abbrev Cx.tryx (X:Cx) (F:Value→Shared→Prop) (pn:List (Addr×Obj)):Cx:={X with xe:=F,pn:=pn}
section
variable {X:Cx} {pins:List (Addr×Obj)} {σ:St} {H:Hp} {s:Shared} {F:Value→Shared→Prop}
theorem Cx.Ok.tryx {pn:List (Addr×Obj)} (ok:X.Ok):(X.tryx F pn).Ok:=⟨ok.mod,ok.kind,ok.glob,ok.blt,ok.above,ok.inj,ok.has,ok.cab,ok.hd,ok.frames,ok.stk,ok.exf,ok.bs,ok.bsz,ok.noex,ok.exfs,ok.funs,ok.frf⟩
theorem Inv.tryx (I:Inv X pins σ H s):Inv (X.tryx F (X.pn ++ pins)) [] σ H s:=⟨I.ok.tryx,I.os,I.bare,I.base,I.loc,I.cell,I.free,I.freeC,fun p hp=>I.pin p (by rw[List.append_nil]at hp;exact hp),I.hok,I.len⟩
theorem Inv.untry {pn:List (Addr×Obj)} (ok:X.Ok) (I:Inv (X.tryx F (X.pn ++ pins)) pn σ H s):Inv X pins σ H s:=⟨ok,I.os,I.bare,I.base,I.loc,I.cell,I.free,I.freeC,fun p hp=>I.pin p (List.mem_append_left _ hp),I.hok,I.len⟩
theorem Inv.far {pn:List (Addr×Obj)} {b:Addr} {s':Shared} (I:Inv X pn σ H s') (h:s'.heap.objs.size≤b):(b∈X.ex∨X.s₀.heap.objs.size≤b)∧b≠X.env.locals∧(∀x c,X.env.cells.lookup x=some c→c≠b)∧∀p∈X.pn ++ pn,p.1≠b:=
 ⟨.inr (I.old h),fun z=>absurd (Nat.lt_of_lt_of_le I.lt h) (by rw[z];exact Nat.lt_irrefl _),fun x c e z=>by
  obtain ⟨v,o,ho,_⟩:=I.cell x c e
  rw[z]at ho;exact absurd (Nat.lt_of_lt_of_le (Heap.lt_size ho) h) (Nat.lt_irrefl _),fun p hp z=>by
  have:=(I.pin p hp).1
  rw[z]at this;exact absurd (Nat.lt_of_lt_of_le (Heap.lt_size this) h) (Nat.lt_irrefl _)⟩
theorem noted_inv {pn : List (Addr × Obj)} {H1 : Hp} {s1 : Shared} {h2 : Heap} {no : List Addr} {ea C dx T : Addr} {fl : Value} {b : Bool} (I : Inv X pn σ H1 s1) (x : Nte (frs X.stack) no s1.heap h2)
  (hno:∀b∈no,(b=ea∨H1 b=none)∧(b∈X.ex∨X.s₀.heap.objs.size≤b)∧b≠X.env.locals∧(∀x c,X.env.cells.lookup x=some c→c≠b)∧∀p∈X.pn ++ pn,p.1≠b)
  (u:Upx ea (.ref C) (some dx) fl T h2) (e:H1 ea=some (XO b ea C (some dx))):Inv X pn σ (upd H1 ea (XO false ea C (some dx))) {s1 with heap:=h2}:=by
 have ne:∀c v,H1 c=some v→(∀b',v≠XO b' ea C (some dx))→c≠ea:=fun c v q n z=>by rw[z,e]at q;cases q;exact n b rfl
 refine I.call' (ch:=no) rfl ⟨fun c o q n hb hx=>(x c o q hx).1 hb,fun c o q n hb hx=>(x c o q hx).2,fun c o q n hx=>?_,fun c o q hx=>let ⟨_,z⟩:=(x c o q hx).2;⟨_,z⟩,fun c xs q=>?_,fun c o xs q=>?_,fun c ps q=>⟨#[],?_⟩⟩ (fun c o q=>?_) I.bare fun c hc=>(hno c hc).2
 ·rw[upd_ne (fun z=>by rw[z,e]at n;cases n)];exact n
 ·rw[upd_ne (ne c _ q fun _ z=>by cases z)];exact q
 ·rw[upd_ne (ne c _ q fun _ z=>by cases z)];exact q
 ·rw[upd_ne (ne c _ q fun _ z=>by cases z),q];simp
 ·by_cases z:c=ea
  ·subst z
   rw[upd_same]at q;cases q
   exact upx_ok u
  ·rw[upd_ne z]at q
   have nfr:∀c v,H1 c=some v→c∉frs X.stack:=fun c v q m=>by
    have:=I.stkFree c m
    rw[q]at this;cases this
   have nn:∀c v,H1 c=some v→c≠ea→c∉no:=fun c v q n m=>by
    rcases (hno c m).1 with r | r
    ·exact n r
    ·rw[r]at q;cases q
   refine (I.hok c o q).stay (fun c' v hc r=>?_) (fun c' r=>?_) fun c' xs r=>?_
   ·rcases hc with rfl | hc
    ·exact (x c' v r (nn c' o q z)).1 (nfr c' o q)
    ·exact (x c' v r (nn c' _ hc (ne c' _ hc fun _ z=>by cases z))).1 (nfr c' _ hc)
   ·rw[upd_ne (ne c' _ r fun _ z=>by cases z)];exact r
   ·rw[upd_ne (ne c' _ r fun _ z=>by cases z)];exact r
end
section
variable {X:Cx} {nm q:Str} {D N:Addr} {bs bm:List Value} {hdct:Bool} {sn:List Str} {sub:List Value} {ab:Bool} {col:Option Bool} {dd:Option Addr} {k0 k1 k2 k3 k5:Option Value} {newId:String}
theorem clause_x {pins : List (Addr × Obj)} {σ : St} {H : Hp} {s : Shared} {x n : Str} {np hpos : Pos} {b0 : Stmt} {suite : List Stmt} {rest : List ExceptHandler} {ts : TS} {W : Ends} {ea C dx T : Addr} {i : Nat}
  (hN:X.N.Nodup) (hi:X.N[i]?=some n) (hk:X.env.kindOf n=some .local) (hg:Gl X x) (hm:X.mg x=some (.ref D)) (lk:X.K.lookup D=some (excClassObj nm q D N bs bm hdct sn sub ab col dd k0 k1 k2 k3 k5 newId)) (hb:bm.contains (.type "BaseException")=true)
  (hs:QSs (X.suite ea) (b0::suite) ts) (I:Inv X pins σ H s) (e:H ea=some (XO false ea C (some dx))) (hT:(T∈X.ex∨X.s₀.heap.objs.size≤T)∧T≠X.env.locals∧(∀x c,X.env.cells.lookup x=some c→c≠T)∧∀p∈X.pn ++ pins,p.1≠T)
  (T0:H T=none) (u:Upx ea (.ref C) (some dx) .none T s.heap) (mr:PySem.W.mroIn X.K C (.ref D)=some true)
  (h:ts {nx:=fun σ2 H2=>W.nx (σ2.set i none) H2,rt:=W.rt,bk:=fun _ _=>False,ct:=fun _ _=>False} (σ.set i (some (.ref ea))) H) (hdb:(x == ("__debug__":Str))=false) :
  wpAny (model X.prog X.w) X.A (handleBy (.ref ea) X.env (.ExceptHandler (some (.Name x np)) (some n) (b0::suite) hpos::rest)) (SP X pins W) X.xe s:=by
 obtain ⟨oe,vs,g,e1,e2,e3,e4,e5⟩:=xo_get (I.hok ea _ e)
 refine wpAny_handleBy_cons (codeAny_handlers_test (ld_glob (I.suite ea) hg hm (xmatch I.kIn lk hb g e1 mr (codeAny_handlers_suite_as ?_)) hdb)) (by intro z;cases z)
 refine flight_off u fun h2 y u2=>?_
 have y':Nte (frs X.stack) [T] s.heap h2:=fun b o q' z=>⟨fun _=>(y b o q' z).1 (by simp),(y b o q' z).2⟩
 have I2:=noted_inv I y' (fun b z=>by rw[List.mem_singleton.mp z];exact ⟨.inr T0,hT⟩) u2 e
 rw[upd_self e]at I2
 refine store_ok I2 hN hi (.inl hk) (show RelV (.ref ea) (.ref ea) from rfl) (fun s3 I3=>?_) (.inr hk)
 refine wpAny_mono (hs.o pins s3 _ H _ (I3.suite ea) h) (fun f s4 z=>?_) fun _ _ z=>z.elim
 have fin : ∀ {σ' : St} {H' : Hp}, Inv (X.suite ea) pins σ' H' s4 → (∀ s5, Inv X pins (σ'.set i none) H' s5 → SP X pins W f s5) →
   wpAny (model X.prog X.w) X.A (do bindName X.env n .none;unbindBehindTheSuite X.env n hpos) (fun _ s5=>SP X pins W f s5) X.xe s4:=fun {σ' H'} J k=>by
  have J':=Inv.unsuite I.ok J
  have il:i < σ'.length:=by rw[J'.len];exact (List.getElem?_eq_some_iff.mp hi).1
  refine wpAny_bind (wpAny_bindName (store_ok J' hN hi (.inl hk) (show RelV .non .none from rfl) (fun s5 J5=>?_) (.inr hk)))
  unfold unbindBehindTheSuite
  refine wpAny_onRaise (J5.unbind hN hi hk (v:=.non) (List.getElem?_set_self il) fun s6 J6=>?_)
  rw[List.set_set]at J6
  exact k s6 J6
 cases f with
 | next=>
  obtain ⟨σ',H',J,z⟩:=z
  exact fin J fun s5 J5=>⟨_,H',J5,z⟩
 | ret v=>
  obtain ⟨v',σ',H',J,rv,z⟩:=z
  exact fin J fun s5 J5=>⟨v',_,H',J5,rv,z⟩
 | brk=>
  obtain ⟨_,_,_,z⟩:=z
  exact z.elim
 | cont=>
  obtain ⟨_,_,_,z⟩:=z
  exact z.elim
theorem try_x {body : List Stmt} {h0 : ExceptHandler} {pos : Pos} {tb : XS → TS} {EE : Ends → XS} (st : X.stack = X.env :: X.outer ∧ X.env.frame = some X.env.locals)
  (hb:∀F pn EE,PassX (X.tryx F pn) EE→RaiseX (X.tryx F pn) EE→QSs (X.tryx F pn) body (tb EE))
  (hc:∀(pins:List (Addr×Obj)) (σ:St) (H:Hp) (s:Shared) (W:Ends) (ea C dx T:Addr),Inv X pins σ H s→H ea=some (XO false ea C (some dx))→H T=none→
   ((T∈X.ex∨X.s₀.heap.objs.size≤T)∧T≠X.env.locals∧(∀x c,X.env.cells.lookup x=some c→c≠T)∧∀p∈X.pn ++ pins,p.1≠T)→Upx ea (.ref C) (some dx) .none T s.heap→EE W σ (.ref C) (some ea) H→
   wpAny (model X.prog X.w) X.A (handleBy (.ref ea) X.env [h0]) (SP X pins W) X.xe s):QS X (.Try body [h0] [] [] pos) (fun W σ H=>tb (EE W) W σ H):=⟨by
 intro pins s σ H W I h
 obtain ⟨st1,st2⟩:=st
 refine wpAny_Try_except ?_
 let F:Value→Shared→Prop:=fun e s1=>wpAny (model X.prog X.w) X.A (noteFrame e X.env) (fun _ s2=>wpAny (model X.prog X.w) X.A (setFlight e none) (fun _ s3=>wpAny (model X.prog X.w) X.A (handleBy e X.env [h0]) (SP X pins W) X.xe s3) X.xe s2) X.xe s1
 have land : ∀ {pn : List (Addr × Obj)} {σ' : St} {H1 : Hp} {s1 : Shared} {h' : Heap} {no : List Addr} {ea C dx T : Addr} {b : Bool}, Inv (X.tryx F (X.pn ++ pins)) pn σ' H1 s1 → Nte (frs X.stack) no s1.heap h' →
   (∀b∈no,(b=ea∨H1 b=none)∧(b∈X.ex∨X.s₀.heap.objs.size≤b)∧b≠X.env.locals∧(∀x c,X.env.cells.lookup x=some c→c≠b)∧∀p∈(X.pn ++ pins) ++ pn,p.1≠b)→s1.heap.objs.size≤T→
   Upx ea (.ref C) (some dx) (rawInt X.env.locals) T h'→H1 ea=some (XO b ea C (some dx))→EE W σ' (.ref C) (some ea) (upd H1 ea (XO false ea C (some dx)))→
   wpAny (model X.prog X.w) X.A (setFlight (.ref ea) none) (fun _ s3=>wpAny (model X.prog X.w) X.A (handleBy (.ref ea) X.env [h0]) (SP X pins W) X.xe s3) X.xe {s1 with heap:=h'}:=by
  intro pn σ' H1 s1 h' no ea C dx T b I1 x hno hT u e ke
  refine flight_off (s:={s1 with heap:=h'}) u fun h2 y u2=>?_
  have fT:=I1.far hT
  have T0:H1 T=none:=I1.hok.fresh hT
  have nT:T≠ea:=fun z=>by rw[z,e]at T0;cases T0
  have x2:Nte (frs X.stack) (T::no) s1.heap h2:=fun c o q' n=>by
   obtain ⟨a1,sl,a2⟩:=x c o q' fun z=>n (List.mem_cons_of_mem _ z)
   have n2:c∉[T]:=fun z=>n (by rw[List.mem_singleton.mp z];exact List.mem_cons_self ..)
   exact ⟨fun m=>(y c o (a1 m) n2).1 (by simp),sl,(y c _ a2 n2).1 (by simp)⟩
  have I2:=noted_inv I1 x2 (fun c hc=>by
   rcases List.mem_cons.mp hc with rfl | hc
   ·exact ⟨.inr T0,fT⟩
   ·exact hno c hc) u2 e
  exact hc pins σ' _ _ W ea C dx T (Inv.untry I.ok I2) upd_same (by rw[upd_ne nT];exact T0) ⟨fT.1,fT.2.1,fT.2.2.1,fun p hp=>fT.2.2.2 p (List.mem_append_left _ hp)⟩ u2 ke
 have hp:PassX (X.tryx F (X.pn ++ pins)) (EE W):=fun pn σ' H0 s0 e s1 I0 hx=>by
  obtain ⟨ea,C,dx,T,H1,rfl,o1,o2,un,ok,l1,l2,t1,t2,u,k⟩:=hx
  have I1:Inv (X.tryx F (X.pn ++ pins)) pn σ' H1 s1:=I0.call' o1 un ok o2 (fun b z=>absurd z (by simp))
  have fr:X.A.frames=some (X.env::X.outer):=by rw[←st1];exact I1.ok.frames
  have fl:s1.heap.FunFrames X.base (X.env::X.outer):=by rw[←st1];exact I1.stack
  refine note_on fr fl st2 u fun h' T' hT x u'=>?_
  rw[←st1]at x
  have f1:=I0.far l1
  have f2:=I0.far l2
  refine land I1 x (fun b z=>?_) hT u' t1 (by rw[upd_self t1];exact k)
  rcases List.mem_cons.mp z with rfl | z
  ·exact ⟨.inl rfl,f1⟩
  ·rw[List.mem_singleton.mp z];exact ⟨.inr t2,f2⟩
 have hr:RaiseX (X.tryx F (X.pn ++ pins)) (EE W):=fun pn σ' H0 H1 s0 s1 ea C dx I0 hs I1 e k=>by
  have fr:X.A.frames=some (X.env::X.outer):=by rw[←st1];exact I1.ok.frames
  have fl:s1.heap.FunFrames X.base (X.env::X.outer):=by rw[←st1];exact I1.stack
  obtain ⟨oe,vs,g,e1,e2,e3,e4,e5⟩:=xo_get (I1.hok ea _ e)
  refine note_new fr fl st2 g e3 (e5 rfl).1 e4.2 fun h' T' hT x u'=>?_
  rw[←st1]at x
  rw[e1,e2]at u'
  have f1:=I0.far hs
  exact land I1 x (fun b z=>by rw[List.mem_singleton.mp z];exact ⟨.inl rfl,f1⟩) hT u' e k
 refine wpAny_mono ((hb F _ _ hp hr).o [] s σ H W I.tryx h) (fun f s4 z=>?_) fun _ _ z=>z
 cases f with
 | next=>
  obtain ⟨σ',H',J,z⟩:=z
  exact wpAny_execs_nil ⟨σ',H',Inv.untry I.ok J,z⟩
 | ret v=>
  obtain ⟨v',σ',H',J,rv,z⟩:=z
  exact ⟨v',σ',H',Inv.untry I.ok J,rv,z⟩
 | brk=>
  obtain ⟨σ',H',J,z⟩:=z
  exact ⟨σ',H',Inv.untry I.ok J,z⟩
 | cont=>
  obtain ⟨σ',H',J,z⟩:=z
  exact ⟨σ',H',Inv.untry I.ok J,z⟩⟩
end
end
section
noncomputable abbrev ClsK (K:W.Frag) (x:Str) (C:Addr):Prop:=PySem.W.nsIn K mainGlobals x=some (some (.ref C))
theorem ClsK.inj {K:W.Frag} {x:Str} {C D:Addr} (h:ClsK K x C) (k:ClsK K x D):C=D:=by
 have z:=h.symm.trans k
 injection z with z;injection z with z;injection z
noncomputable def RaisesW (K:W.Frag) (x:Str) (fs:List (Str×V)) (H:Hp) (E:XK):Prop:=∀C ea dx H',ClsK K x C→H ea=none→H dx=none→Same H H'→H' ea=some (XO false ea C (some dx))→H' dx=some (XD dx fs)→E (.ref C) (some ea) H'
theorem Same.none {A B:Hp} {b:Addr} (s:Same A B) (h:B b=none):A b=none:=by
 cases e:A b with
 | none=>rfl
 | some o=>rw[s b o e]at h;cases h
theorem RaisesW.mono {K:W.Frag} {x:Str} {fs:List (Str×V)} {H H1:Hp} {E:XK} (h:RaisesW K x fs H E) (s:Same H H1):RaisesW K x fs H1 E:=fun C ea dx H' c n1 n2 s'=>h C ea dx H' c (s.none n1) (s.none n2) (s.trans s')
noncomputable def spI1 (K:W.Frag) (f:Str):Sp:=fun vs H Q _=>∃ea C B v,vs=[.ref ea,v]∧H ea=some (XO true ea C none)∧XCls K C B∧PySem.W.findIn K (.ref C) f=some none∧∀d,H d=none→Q .non (upd (upd H d (XD d [(f,v)])) ea (XO true ea C (some d)))
noncomputable def spI2 (K:W.Frag) (f g:Str):Sp:=fun vs H Q _=>∃ea C B v u,vs=[.ref ea,v,u]∧H ea=some (XO true ea C none)∧XCls K C B∧PySem.W.findIn K (.ref C) f=some none∧PySem.W.findIn K (.ref C) g=some none∧
 ∀d,H d=none→Q .non (upd (upd (upd H d (XD d [(f,v)])) ea (XO true ea C (some d))) d (XD d (putF g u [(f,v)])))
structure XTop (K:W.Frag) (mg:Str→Option Value) (x qual:Str) (st:Stmt) (fs:List Str) (C B fI:Addr) (fd:FuncData):Prop where
 s:XSrc K mg x qual st C B fI fd
 ns:ClsK K x C
 nb:ClsK K "PowerError" B
 free:∀f∈fs,PySem.W.findIn K (.ref C) f=some none
theorem xcls_mk {K : W.Frag} {C B : Addr} {nm q : Str} {N : Addr} {bs : List Value} {sn : List Str} {sub : List Value} {ab : Bool} {col : Option Bool} {dd : Option Addr} {k0 k1 k2 k3 k5 : Option Value}
  (l:K.lookup C=some (excClassObj nm q C N bs (.ref B::vmB) true sn sub ab col dd k0 k1 k2 k3 k5 "ValueError.__new__"))
  (sa:PySem.W.findIn K (.ref C) "__setattr__"=some (some (.builtin "object.__setattr__"))) (ga:PySem.W.findIn K (.ref C) "__getattribute__"=some (some (.builtin "BaseException.__getattribute__")))
  (gh:PySem.W.findIn K (.ref C) "__getattr__"=some none) (ca:PySem.W.findIn K (.ref C) "__class__"=some (some (.builtin "object.__class__")))
  (cg:PySem.W.specialIn K (.builtin "object.__class__") "__get__"=some (some (.builtin "getset_descriptor.__get__"))) (ct:PySem.W.takesIn K (.builtin "object.__class__")=some true):XCls K C B:=
 ⟨⟨_,by unfold PySem.W.clsIn;rw[l],rfl,rfl⟩,sa,ga,gh,ca,cg,ct⟩
section
variable {K:W.Frag} {mg:Str→Option Value} {x qual f g:Str} {st:Stmt} {C B fI:Addr} {fd:FuncData} {H:Hp} {E:XK} {u v:V} {fs:List Str}
theorem rd_raise1 (S : XTop K mg x qual st fs C B fI fd) (hf : f ∈ fs) (k : RaisesW K x [(f, v)] H E) : [v].length ≤ 100 ∧ ∀ ea, H ea = none → spI1 K f (.ref ea :: [v]) (upd H ea (XO true ea C none))
  (fun w H2=>w=.non∧∃ea' dx,V.ref ea=.ref ea'∧H2 ea'=some (XO true ea' C (some dx))∧E (.ref C) (some ea') (upd H2 ea' (XO false ea' C (some dx)))) E0:=by
 refine ⟨by show 1≤100;decide,fun ea h0=>⟨ea,C,B,v,rfl,upd_same,S.s.xc,S.free f hf,fun d hd=>⟨rfl,ea,d,rfl,upd_same,?_⟩⟩⟩
 have nd:d≠ea:=fun z=>by rw[z,upd_same]at hd;cases hd
 have hd0:H d=none:=by rw[upd_ne nd]at hd;exact hd
 refine k C ea d _ S.ns h0 hd0 (fun b o q=>?_) upd_same (by rw[upd_upd,upd_ne nd,upd_same])
 have n1:b≠ea:=ne_of_none q h0
 have n2:b≠d:=ne_of_none q hd0
 rw[upd_ne n1,upd_ne n1,upd_ne n2,upd_ne n1];exact q
theorem rd_raise2 (S : XTop K mg x qual st fs C B fI fd) (hf : f ∈ fs) (hg : g ∈ fs) (k : RaisesW K x (putF g u [(f, v)]) H E) : [v, u].length ≤ 100 ∧ ∀ ea, H ea = none → spI2 K f g (.ref ea :: [v, u]) (upd H ea (XO true ea C none))
  (fun w H2=>w=.non∧∃ea' dx,V.ref ea=.ref ea'∧H2 ea'=some (XO true ea' C (some dx))∧E (.ref C) (some ea') (upd H2 ea' (XO false ea' C (some dx)))) E0:=by
 refine ⟨by show 2≤100;decide,fun ea h0=>⟨ea,C,B,v,u,rfl,upd_same,S.s.xc,S.free f hf,S.free g hg,fun d hd=>?_⟩⟩
 have nd:d≠ea:=fun z=>by rw[z,upd_same]at hd;cases hd
 have hd0:H d=none:=by rw[upd_ne nd]at hd;exact hd
 refine ⟨rfl,ea,d,rfl,by rw[upd_ne (Ne.symm nd),upd_same],?_⟩
 refine k C ea d _ S.ns h0 hd0 (fun b o q=>?_) upd_same (by rw[upd_ne nd,upd_same])
 have n1:b≠ea:=ne_of_none q h0
 have n2:b≠d:=ne_of_none q hd0
 rw[upd_ne n1,upd_ne n2,upd_ne n1,upd_ne n2,upd_ne n1];exact q
end
theorem ini1 {P : Program} {w : World} {K : W.Frag} {mg : Str → Option Value} {base : Heap} {qual f : Str} {st : Stmt} {fI : Addr} {fd : FuncData} {p1 p2 p3 p4 : Pos} (F : Fun K "__init__" qual st fI fd)
  (S:FnScope ["self",f] ["self",f] (defScope st)) (hb:defBody st=[.Assign [.Attribute (.Name "self" p1) f p2] (.Name f p3) p4])
  (v0:Vis (defScope st) "self") (v1:Vis (defScope st) f) (d1:(f == ("__debug__":Str))=false) (d2:(f == ("__classdict__":Str))=false)
  (s0:∀env,attributeBase (.Name "self" p1) f env (eval (.Name "self" p1) env)=eval (.Name "self" p1) env) (s1:∀env,swapsWith (.Name f p3) (some (.Attribute (.Name "self" p1) f p2)) p4.line env=pure false) :
  FnOk P w K mg base CX0 1 fI fd ["self",f] (spI1 K f):=by
 refine F.ok S (fun vs H Q E h=>?_) fun cdv A outer s H vs Q E hr h=>?_
 ·obtain ⟨ea,C,B,v,rfl,_⟩:=h
  rfl
 obtain ⟨ea,C,B,v,rfl,h1,h2,h3,k⟩:=h
 rw[hb]
 refine ⟨_,(qpss_one (qps_xfld (K:=K) rfl (qpe_var (i:=0) rfl v0 (by decide) (by decide)) (qpe_var (i:=1) rfl v1 d1 d2) (s1 _))).o,?_⟩
 exact ⟨v,rfl,.ref ea,rfl,ea,C,B,true,rfl,h2,h3,.inl ⟨h1,fun d hd=>k d hd⟩⟩
theorem ini2 {P : Program} {w : World} {K : W.Frag} {mg : Str → Option Value} {base : Heap} {qual f g : Str} {st : Stmt} {fI : Addr} {fd : FuncData} {p1 p2 p3 p4 p5 p6 p7 p8 : Pos} (F : Fun K "__init__" qual st fI fd)
  (S:FnScope ["self",f,g] ["self",f,g] (defScope st)) (hb:defBody st=[.Assign [.Attribute (.Name "self" p1) f p2] (.Name f p3) p4,.Assign [.Attribute (.Name "self" p5) g p6] (.Name g p7) p8])
  (v0:Vis (defScope st) "self") (v1:Vis (defScope st) f) (v2:Vis (defScope st) g) (d1:(f == ("__debug__":Str))=false) (d2:(f == ("__classdict__":Str))=false) (d3:(g == ("__debug__":Str))=false) (d4:(g == ("__classdict__":Str))=false)
  (s1:∀env,swapsWith (.Name f p3) (some (.Attribute (.Name "self" p1) f p2)) p4.line env=pure false) (s2:∀env,swapsWith (.Name g p7) (some (.Attribute (.Name "self" p5) g p6)) p8.line env=pure false) :
  FnOk P w K mg base CX0 1 fI fd ["self",f,g] (spI2 K f g):=by
 refine F.ok S (fun vs H Q E h=>?_) fun cdv A outer s H vs Q E hr h=>?_
 ·obtain ⟨ea,C,B,v,u,rfl,_⟩:=h
  rfl
 obtain ⟨ea,C,B,v,u,rfl,h1,h2,h3,h4,k⟩:=h
 rw[hb]
 refine ⟨_,(qpss_cons (qps_xfld (K:=K) rfl (qpe_var (i:=0) rfl v0 (by decide) (by decide)) (qpe_var (i:=1) rfl v1 d1 d2) (s1 _)) (qpss_one (qps_xfld (K:=K) rfl (qpe_var (i:=0) rfl v0 (by decide) (by decide)) (qpe_var (i:=2) rfl v2 d3 d4) (s2 _)))).o,?_⟩
 refine ⟨v,rfl,.ref ea,rfl,ea,C,B,true,rfl,h2,h3,.inl ⟨h1,fun d hd=>?_⟩⟩
 have nd:d≠ea:=fun z=>by rw[z,h1]at hd;cases hd
 exact ⟨u,rfl,.ref ea,rfl,ea,C,B,true,rfl,h2,h4,.inr ⟨d,[(f,v)],upd_same,by rw[upd_ne nd,upd_same],by show 1 < 100;decide,k d hd⟩⟩
theorem bt_ValueError:bootBuiltins "ValueError"=some (.type "ValueError"):=by decide +kernel
theorem xmro {K:W.Frag} {mg:Str→Option Value} {x qual:Str} {st:Stmt} {fs:List Str} {C B fI C' D:Addr} {fd:FuncData} (S:XTop K mg x qual st fs C B fI fd) (hC:ClsK K x C') (hD:ClsK K "PowerError" D):PySem.W.mroIn K C' (.ref D)=some true:=by
 have e1:=ClsK.inj hC S.ns
 have e2:=ClsK.inj hD S.nb
 subst e1 e2
 rw[S.s.xc.mro]
 simp
theorem xself {K:W.Frag} {mg:Str→Option Value} {x qual:Str} {st:Stmt} {fs:List Str} {C B fI C' D:Addr} {fd:FuncData} (S:XTop K mg x qual st fs C B fI fd) (hC:ClsK K x C') (hD:ClsK K x D):PySem.W.mroIn K C' (.ref D)=some true:=by
 have e1:=ClsK.inj hC S.ns
 have e2:=ClsK.inj hD S.ns
 subst e1 e2
 rw[S.s.xc.mro]
 simp
theorem xxc {K:W.Frag} {mg:Str→Option Value} {x qual:Str} {st:Stmt} {fs:List Str} {C B fI C':Addr} {fd:FuncData} (S:XTop K mg x qual st fs C B fI fd) (hC:ClsK K x C'):XCls K C' B:=by
 have e1:=ClsK.inj hC S.ns
 subst e1
 exact S.s.xc
theorem xfree {K:W.Frag} {mg:Str→Option Value} {x qual f:Str} {st:Stmt} {fs:List Str} {C B fI C':Addr} {fd:FuncData} (S:XTop K mg x qual st fs C B fI fd) (hC:ClsK K x C') (hf:f∈fs):PySem.W.findIn K (.ref C') f=some none:=by
 have e1:=ClsK.inj hC S.ns
 subst e1
 exact S.free f hf
noncomputable def Came (K:W.Frag) (x:Str) (fs:List (Str×V)) (H:Hp):XK:=fun c xa H'=>∃C ea dx,c=.ref C∧xa=some ea∧ClsK K x C∧Same H H'∧H' ea=some (XO false ea C (some dx))∧H' dx=some (XD dx fs)
theorem Came.raises {K:W.Frag} {x:Str} {fs:List (Str×V)} {H H1:Hp} {E:XK} (h:∀c xa H',Came K x fs H c xa H'→E c xa H') (s:Same H H1):RaisesW K x fs H1 E:=fun C ea dx H' hC _ _ s' e1 e2=>h _ _ _ ⟨C,ea,dx,rfl,rfl,hC,s.trans s',e1,e2⟩
end
section
section
variable {X:Cx}
end
end
section
section
variable {X:Cx} {o i value:Expr} {pos pos':Pos} {td ty tv:TE}
theorem qps_dput (hu:X.A.units + 1 < cLine) (ho:QE X o td) (hi:QE X i ty) (hv:QE X value tv) (hs:swapsWith value (some (.Subscript o i pos')) pos.line X.env=pure false):QS X (.Assign [.Subscript o i pos'] value pos) (sDPut td ty tv):=⟨ps_dput hu ho.o hi.o hv.o hs⟩
end
noncomputable abbrev fdK (c:Addr) (a l t:Int):List (Key×V):=[(.inr "cells",.ref c),(.inr "at",.int a),(.inr "left",.int l),(.inr "turn",.int t)]
section
variable {c:Addr} {a l t:Int} {v:V}
end
noncomputable def Fd (H:Hp) (t:V) (n:Nat):Prop:=∃(a c:Addr) (cells:List Int) (at' left turn:Int),t=.ref a∧H a=some (.dK (fdK c at' left turn))∧H c=some (.lst (cells.map V.int))∧0≤at'∧at'≤(n:Int)∧0≤turn∧turn≤(n:Int)∧cells.length≤63
noncomputable def fcell (H:Hp) (t:V) (c:Addr):Prop:=∃a r,t=.ref a∧H a=some (.dK ((.inr "cells",.ref c)::r))
structure SF (t:V) (H H':Hp):Prop where
 old:∀b o,H b=some o→V.ref b≠t→H' b=some o
 cell:∀c,fcell H t c→fcell H' t c
noncomputable instance {t:V} {H H':Hp}:CoeFun (SF t H H') (fun _=>∀b o,H b=some o→V.ref b≠t→H' b=some o):=⟨SF.old⟩
section
variable {t:V} {H H' H1 H2:Hp} {n m:Nat}
theorem SF.trans (a:SF t H H1) (b:SF t H1 H2):SF t H H2:=⟨fun c o h n=>b.old c o (a.old c o h n) n,fun c h=>b.cell c (a.cell c h)⟩
theorem SF.keep (e:SF t H H') (T:Fd H t n):Keep H H':=fun b xs h=>by
 obtain ⟨a,c,cells,at',left,turn,rfl,h1,_⟩:=T
 rcases h with h | ⟨o,h⟩
 ·exact .inl (e.old b _ h fun z=>by cases z;rw[h]at h1;cases h1)
 ·exact .inr ⟨o,e.old b _ h fun z=>by cases z;rw[h]at h1;cases h1⟩
theorem Fd.same (T:Fd H t n) (e:Same H H'):Fd H' t n:=by
 obtain ⟨a,c,cells,at',left,turn,rfl,h1,h2,h3⟩:=T
 exact ⟨a,c,cells,at',left,turn,rfl,e _ _ h1,e _ _ h2,h3⟩
theorem Fd.mono (T:Fd H t m) (h:m≤n):Fd H t n:=by
 obtain ⟨a,c,cells,at',left,turn,rfl,h1,h2,h3,h4,h5,h6,h7⟩:=T
 exact ⟨a,c,cells,at',left,turn,rfl,h1,h2,h3,by omega,h5,by omega,h7⟩
end
end
section
structure RoomU (k:Nat) (A:Around):Prop where
 dp:A.depth + 3 * k + 5 < recursionLimit
 un:A.units + 16 * k + 200 < cLine
 gd:A.guards=some []
theorem RoomU.mono {j k:Nat} {A:Around} (r:RoomU k A) (h:j≤k):RoomU j A:=⟨by have:=r.dp;omega,by have:=r.un;omega,r.gd⟩
theorem RoomU.deeper {k:Nat} {A:Around} (r:RoomU (k + 1) A) (env:Env):RoomU k (A.deeper env):=
 ⟨by have:=r.dp;show A.depth + 1 + 3 * k + 5 < _;omega,by have:=r.un;show A.units + 3 + 16 * k + 200 < _;omega,r.gd⟩
theorem RoomU.depth {k:Nat} {A:Around} (r:RoomU k A):A.depth < recursionLimit:=by have:=r.dp;omega
structure FnOkU (P:Program) (w:World) (K:W.Frag) (mg:Str→Option Value) (base:Heap) (CX:CXT) (k:Nat) (f:Addr) (fd:FuncData) (ps:List Str) (sp:Sp):Prop where
 len:∀vs H Q E,sp vs H Q E→vs.length=ps.length
 run:∀(A:Around) (outer:List Env) (s:Shared) (H:Hp) (args:Args) (us:List Value) (vs:List V) (Q:VK) (E:XK),RoomU k A→Env0 P w K mg base A outer s H→BindsTo s fd args (ps.zip us)→Vals vs us→sp vs H Q E→
  codeAny (model P w) A (.call (.ref f) args) (CR CX outer P w H s Q E) s
noncomputable def cxOfU (CX:CXT) (P:Program) (w:World) (K:W.Frag) (mg:Str→Option Value) (base:Heap) (N:List Str) (qual:Str) (scope:Scope) (f:Addr) (cd:Value) (A:Around) (outer:List Env) (s:Shared) (H:Hp) (E:XK):Cx where
 prog:=P
 w:=w
 K:=K
 mg:=mg
 base:=base
 A:=A.deeper (envOfC qual scope s.heap.objs.size f cd)
 N:=N
 s₀:=s
 H₀:=H
 env:=envOfC qual scope s.heap.objs.size f cd
 outer:=outer
 stack:=envOfC qual scope s.heap.objs.size f cd::outer
 ex:=[]
 calm:=false
 fn:=fun _=>true
 pn:=[]
 xe:=fun e s'=>wpAny (model P w) (A.deeper (envOfC qual scope s.heap.objs.size f cd)) (leaving (envOfC qual scope s.heap.objs.size f cd) e) (fun _ s''=>CX outer H s E e s'') (fun e' s''=>CX outer H s E e' s'') s'
theorem inv_startU {CX : CXT} {P : Program} {w : World} {K : W.Frag} {mg : Str → Option Value} {base : Heap} {N ps : List Str} {qual : Str} {scope : Scope} {f : Addr} {cd : Value} {A : Around} {outer : List Env} {s s1 : Shared} {H : Hp} {E : XK} {us : List Value} {vs : List V}
  (S:FnScope N ps scope) (e0:Env0 P w K mg base A outer s H) (hl:vs.length=ps.length) (r:Vals vs us)
  (x:InCallC s s.heap.objs.size (bindL (envOfC qual scope s.heap.objs.size f cd).kindOf (ps.zip us) fun _=>none) (cellsFrom (s.heap.objs.size + 1) scope.names []) (bindC (envOfC qual scope s.heap.objs.size f cd).kindOf (ps.zip us) fun _=>none) s1) :
  Inv (cxOfU CX P w K mg base N qual scope f cd A outer s H E) [] (start N vs) H s1:=by
 have hpl:ps.length≤N.length:=by have:=congrArg List.length S.pre;rw[List.length_take]at this;omega
 obtain ⟨h1,tk,rfl,hk⟩:=x.done
 have noA:∀b:Addr,b∉(cxOfU CX P w K mg base N qual scope f cd A outer s H E).ex:=fun b z=>absurd (show b∈([]:List Addr) from z) (by simp)
 refine ⟨⟨e0.mod,S.kind,rfl,rfl,Nat.le_refl _,fun y z c h1 h2=>?_,fun y hy=>?_,fun y c _ h=>?_,(fun z=>by cases z),Around.frames_deeper e0.frames,.inr ⟨rfl,rfl⟩,fun b z=>absurd z (noA b),e0.bs,e0.bsz,fun b _ _=>noA b,fun b z=>absurd z (noA b),e0.funs,e0.frf⟩,
  rfl,e0.bare,Un.kept hk,⟨_,x.toInCall.ns,fun i y v h1 h2 h3=>?_⟩,fun y c h=>⟨_,x.cell y c h⟩,e0.hok.fresh (Nat.le_refl _),fun y c h=>?_,fun p hp=>absurd (show p∈([]:List (Addr×Obj)) from hp) (by simp),e0.hok.kept hk,?_⟩
 ·exact name_of_addr x.apart (PySem.mem_of_lookup h1) (PySem.mem_of_lookup h2)
 ·have hy:scope.names.lookup y=some .cell∨scope.names.lookup y=some .free:=hy
  rcases hy with hy | hy
  ·exact cell_has hy
  ·exact absurd rfl (S.nofree _ (PySem.mem_of_lookup hy))
 ·exact Nat.le_of_lt (x.above y c (PySem.mem_of_lookup h))
 ·have hi : i < vs.length := by
   unfold start at h2
   by_cases hi:i < vs.length
   ·exact hi
   ·rw[List.getElem?_append_right (by simpa using hi)]at h2
    rw[List.getElem?_replicate]at h2
    split at h2 <;> cases h2
  have ha:vs[i]?=some v:=by
   unfold start at h2
   rw[List.getElem?_append_left (by simpa using hi),List.getElem?_map]at h2
   cases e:vs[i]? with
   | none=>rw[e]at h2;cases h2
   | some a=>rw[e]at h2;cases h2;rfl
  obtain ⟨u,hu,rv⟩:=r.get ha
  have hp:ps[i]?=some y:=by
   rw[←S.pre,List.getElem?_take_of_lt (by omega)];exact h1
  have ndP:ps.Nodup:=by rw[←S.pre];exact S.nd.sublist (List.take_sublist _ _)
  refine ⟨u,rv,?_⟩
  rcases S.par y (List.mem_of_getElem? hp) with k | k
  ·exact .inl ⟨k,bindL_get ndP hp hu k⟩
  ·obtain ⟨c,e⟩:=cell_has (n:=s.heap.objs.size + 1) k
   refine .inr ⟨.inl k,c,e,?_⟩
   have q:=x.cell y c e
   rw[bindC_get ndP hp hu (by show scope.names.lookup y≠_;rw[k];decide)]at q
   exact q
 ·exact e0.hok.fresh (Nat.le_of_lt (x.above y c (PySem.mem_of_lookup h)))
 ·unfold start
  show _=N.length
  rw[List.length_append,List.length_map,List.length_replicate]
  omega
theorem fn_ofU {CX : CXT} {P : Program} {w : World} {K : W.Frag} {mg : Str → Option Value} {base : Heap} {k : Nat} {f : Addr} {name qual : Str} {params : Arguments} {body : List Stmt} {scope : Scope} {dV kV doc pm cdv ct oc : Value} {an od : Option Addr}
  {osl:Array (Option Value)} {N ps:List Str} {sp:Sp} (lk:K.lookup f=some ⟨oc,od,.func (PySem.W.fnOf name qual params body scope dV kV doc pm an cdv ct),osl⟩) (hcd:PySem.W.codeIn K cdv qual=true) (S:FnScope N ps scope)
  (len:∀vs H Q E,sp vs H Q E→vs.length=ps.length)
  (hbody:∀(A:Around) (outer:List Env) (s:Shared) (H:Hp) (vs:List V) (Q:VK) (E:XK),RoomU k (A.deeper (envOfC qual scope s.heap.objs.size f cdv))→sp vs H Q E→
   ∃t,PSs (cxOfU CX P w K mg base N qual scope f cdv A outer s H E) body t∧t {nx:=fun _ H'=>Q .non H',rt:=Q} (start N vs) H) :
  FnOkU P w K mg base CX (k + 1) f (PySem.W.fnOf name qual params body scope dV kV doc pm an cdv ct) ps sp:=by
 refine ⟨len,fun A outer s H args us vs Q E hr e0 hb r hsp=>?_⟩
 have hl:=len _ _ _ _ hsp
 have KX:K.In s.heap:=e0.mod.kin.keeps fun b o e=>(e0.bs b o e).1
 have lim:s.heap.NoLimit:=e0.mod.nolimit.keeps fun b o e=>(e0.bs b o e).1
 have hkind:∀y∈ps.zip us,scope.names.lookup y.1=some .local∨(scope.names.lookup y.1=some .cell∧((cellsFrom (s.heap.objs.size + 1) scope.names []).lookup y.1).isSome=true):=fun ⟨n,v⟩ hy=>by
  rcases S.par n (List.of_mem_zip hy).1 with q | q
  ·exact .inl q
  ·exact .inr ⟨q,PySem.W.cellsFrom_some _ _ _ (.inl q)⟩
 refine codeAny_call_function hr.depth (KX _ _ lk) rfl S.co S.gen rfl (PySem.W.codeRec_of KX hcd) (hb _ _ _ _ ?_)
 refine wpAny_newFunctionEnv_cells S.kind hkind fun env he s1 x=>?_
 subst he
 refine ⟨lim.keeps x.toInCall.keep,codeAny_func ?_⟩
 obtain ⟨t,ht,hq⟩:=hbody A outer s H vs Q E (hr.deeper _) hsp
 have I:Inv (cxOfU CX P w K mg base N qual scope f cdv A outer s H E) [] (start N vs) H s1:=inv_startU S e0 hl r x
 refine wpAny_mono (ht [] s1 (start N vs) H _ I hq) (fun fl s' hs=>?_) fun e s' hs=>hs
 have fin:∀{σ':St} {H':Hp} {v:V} {u:Value},Inv (cxOfU CX P w K mg base N qual scope f cdv A outer s H E) [] σ' H' s'→RelV v u→Q v H'→CE outer P w H s Q u s':=
  fun {σ' H' v u} J rv q=>⟨v,H',J.os,J.bare,J.base,J.hok,rv,q⟩
 cases fl with
 | ret u=>
  obtain ⟨v,σ',H',J,rv,q⟩:=hs
  exact fin J rv q
 | next=>
  obtain ⟨σ',H',J,q⟩:=hs
  exact fin (v:=V.non) (u:=Value.none) J rfl q
 | brk=>
  obtain ⟨_,_,_,q⟩:=hs
  exact False.elim q
 | cont=>
  obtain ⟨_,_,_,q⟩:=hs
  exact False.elim q
section
variable {P:Program} {w:World} {K:W.Frag} {mg:Str→Option Value} {base:Heap}
theorem Fun.okU {x qual : Str} {st : Stmt} {f : Addr} {fd : FuncData} {N ps : List Str} {k : Nat} {sp : Sp} (F : Fun K x qual st f fd) (S : FnScope N ps (defScope st)) (len : ∀ vs H Q E, sp vs H Q E → vs.length = ps.length)
  (hbody:∀(cdv:Value) (A:Around) (outer:List Env) (s:Shared) (H:Hp) (vs:List V) (Q:VK) (E:XK),RoomU k (A.deeper (envOfC qual (defScope st) s.heap.objs.size f cdv))→sp vs H Q E→
   ∃t,PSs (cxOfU CX0 P w K mg base N qual (defScope st) f cdv A outer s H E).nox (defBody st) t∧t {nx:=fun _ H'=>Q .non H',rt:=Q} (start N vs) H):FnOkU P w K mg base CX0 (k + 1) f fd ps sp:=by
 obtain ⟨oc,od,kV,doc,pm,an,cdv,ct,osl,rfl,lk,hcd⟩:=F.ex
 refine fn_ofU lk hcd S len fun A outer s H vs Q E hr hsp=>?_
 obtain ⟨t,h,q⟩:=hbody cdv A outer s H vs Q E hr hsp
 exact ⟨t,h.nox,q⟩
end
end
noncomputable def Cn (ea:Addr) (h:Heap):Prop:=∃oe vs,h.get? ea=some oe∧oe.data=.fields vs∧vs[2]?=some .none
end L2
set_option Elab.async false
set_option linter.all false
set_option maxRecDepth 100000
namespace L2
open PySem PySem.Spec PyProof.Rows
theorem plain_unchain:plainId "proto.unchain"=true:=by decide +kernel
theorem entry_unchain:entryFor table "proto.unchain"=some Builtin.«proto.unchain»:=entryFor_of_fast (by kernel_rfl)
section
variable {prog:Program} {w:World} {A:Around} {E:Value→Shared→Prop} {s:Shared}
theorem raiseNew_on {α : Type} {Q : α → Shared → Prop} {e ea : Addr} {oe : Obj} {vs : Array Value} (hh : A.handled = some (.ref ea)) (ne : ea ≠ e) (hc : Cn ea s.heap) (he : s.heap.get? e = some oe) (hd : oe.data = .fields vs) (h2 : 2 < vs.size)
  (k:E (.ref e) {s with heap:=s.heap.update e (Obj.mapFields (·.setIfInBounds 2 (.ref ea)))}):wpAny (model prog w) A (raiseNew (α:=α) (.ref e)) Q E s:=by
 obtain ⟨oc,us,hoc,dc,z2⟩:=hc
 unfold raiseNew
 refine wpAny_bind (wpAny_handled ?_)
 rw[hh]
 show wpAny _ _ (if (Value.ref ea != Value.ref e)=true then _ else _) _ _ s
 rw[if_pos (show (Value.ref ea != Value.ref e)=true from bne_iff_ne.mpr fun z=>ne (Value.ref.inj z))]
 refine wpAny_bind (wpAny_holding (wpAny_runValue ?_))
 refine codeAny_builtin entry_unchain ?_
 rw[Around.under_plainId plain_unchain _]
 show wpAny _ _ (field (.ref ea) 2 >>= _) _ _ s
 refine wpAny_bind (wpAny_field hoc dc z2 ?_)
 rw[if_pos (by decide)]
 refine wpAny_pure ?_
 refine wpAny_bind ?_
 unfold updateField
 refine wpAny_bind (wpAny_load he ?_)
 rw[hd]
 simp only[h2,if_true]
 exact wpAny_update he (wpAny_throw k)
theorem range_end_on {it ea : Addr} {x left step : Int} {Q : Option Value → Shared → Prop} (hh : A.handled = some (.ref ea)) (hc : Cn ea s.heap) (hit : IsRangeIter s.heap it x left step) (hleft : left ≤ 0)
  (hQ:∀h',Heap.ExtBut it s.heap h'→Q none {s with heap:=h'}):wpAny (model prog w) A (pyNext (.ref it)) Q E s:=by
 have hT:s.TypeIs (.ref it) "range_iterator":=⟨_,hit,rfl⟩
 obtain ⟨oc,us,hoc,dc,z2⟩:=id hc
 have lea:=Heap.lt_size hoc
 unfold pyNext
 refine wpAny_bind (wpAny_attempt (wpAny_callSpecial?_slot (name:=Str.ofString "__next__") hT F.slot_range_iterator_next (wpAny_call_entry F.slot_range_iterator_next hT F.entry_range_iterator_next ?_ (F.args_range_iterator_next_1 _))))
 show wpAny _ _ (field (.ref it) 0 >>= _) _ _ s
 refine wpAny_bind (wpAny_field hit rfl (x:=rawInt x) rfl ?_)
 show wpAny _ _ (field (.ref it) 1 >>= _) _ _ s
 refine wpAny_bind (wpAny_field hit rfl (x:=rawInt left) rfl ?_)
 show wpAny _ _ (field (.ref it) 2 >>= _) _ _ s
 refine wpAny_bind (wpAny_field hit rfl (x:=rawInt step) rfl ?_)
 show wpAny _ _ (if left≤0 then _ else _) _ _ s
 rw[if_pos hleft]
 refine wpAny_bind (wpAny_rule ?_)
 refine wpAny_bind ?_
 show wpAny _ _ (newExc (.type "StopIteration") [] >>= _) _ _ _
 refine wpAny_bind ?_
 simp only[newExc,newTuple]
 refine wpAny_bind (wpAny_newObj_type ?_ (by size_fits))
 refine wpAny_bind (m:=firstArgMember _ _) (wpAny_of_eq (a:=Value.none) (by first | rfl | (simp only[firstArgMember];rfl)) ?_)
 refine wpAny_newObj_type ?_ (by size_fits)
 have hh':A.in1.handled=some (.ref ea):=hh
 refine raiseNew_on hh' (Nat.ne_of_lt (Nat.lt_of_lt_of_le lea ?_)) ⟨oc,us,Heap.get?_push_of_some _ (Heap.get?_push_of_some _ hoc),dc,z2⟩ (Heap.get?_push_size _ rfl) rfl (by rw[Array.size_append];exact Nat.lt_of_lt_of_le (show 2 < 6 by decide) (Nat.le_add_right _ _)) ?_
 ·show _≤(s.heap.push _).objs.size
  rw[Heap.size_push];exact Nat.le_succ _
 refine wpAny_bind (wpAny_isInstance (T:="StopIteration") (b:=true) ⟨_,Heap.get?_update_self _ (Heap.get?_push_size _ rfl) (Obj.isFreed_of_fields (Obj.data_mapFields rfl _)),Obj.cls_mapFields _ _⟩ isSubtype_stop ?_)
 refine wpAny_pure (hQ _ fun b o hb e=>?_)
 have lb:=Heap.lt_size e
 rw[Heap.get?_update_other _ _ (fun z=>by subst z;rw[Heap.size_push]at lb;exact absurd lb (Nat.not_lt.mpr (Nat.le_succ _)))]
 exact Heap.get?_push_of_some _ (Heap.get?_push_of_some _ e)
end
structure TurnU (ea:Addr) (P:Program) (w:World) (K:W.Frag) (tg:Expr) (J:It) (fp:List Addr) (it:Addr) (tn:Nat→Heap→Prop):Prop where
 mem:it∈fp
 obj:∀i h,tn i h→∀b∈fp,∃o,h.get? b=some o∧∀v,o.data≠.cell v
 keep:∀i h h',tn i h→(∀b∈fp,∀o,h.get? b=some o→h'.get? b=some o)→tn i h'
 item:∀(X:Cx),X.prog=P→X.w=w→X.K=K→X.A.handled=some (.ref ea)→∀(i:Nat) (pins:List (Addr×Obj)) (s:Shared) (σ:St) (H:Hp) (E:Value→Shared→Prop),Inv X pins σ H s→(∀b∈fp,FpOk X pins H b)→tn i s.heap→J.go i H→
  wpAny (model P w) X.A (pyNext (.ref it)) (fun r s1=>∃u,r=some u∧
   wpAny (model P w) X.A (letOwnedTupleGo tg (.ref it) u) (fun _ s2=>∃x H',Inv X pins σ H' s2∧RelV x u∧J.yld i H x H'∧tn (i + 1) s2.heap∧∀b∈fp,H' b=none) E s1) E s
 done:∀(X:Cx),X.prog=P→X.w=w→X.K=K→X.A.handled=some (.ref ea)→∀(i:Nat) (pins:List (Addr×Obj)) (s:Shared) (σ:St) (H:Hp) (E:Value→Shared→Prop),Inv X pins σ H s→(∀b∈fp,FpOk X pins H b)→tn i s.heap→J.stop i H→
  wpAny (model P w) X.A (pyNext (.ref it)) (fun r s1=>r=none∧Inv X pins σ H s1) E s
 self:∀(A:Around) (i:Nat) (s:Shared) (Q:Value→Shared→Prop) (E:Value→Shared→Prop),tn i s.heap→Q (.ref it) s→wpAny (model P w) A (pyIter (.ref it)) Q E s
noncomputable def PIEU (ea:Addr) (X:Cx) (pins:List (Addr×Obj)) (σ:St) (tg:Expr) (R:It→Hp→Prop) (itv:Value) (s2:Shared):Prop:=
 ∃(it:Addr) (fp:List Addr) (tn:Nat→Heap→Prop) (J:It) (H':Hp),itv=.ref it∧Inv X pins σ H' s2∧TurnU ea X.prog X.w X.K tg J fp it tn∧tn 0 s2.heap∧(∀b∈fp,FpOk X pins H' b)∧R J H'
noncomputable def PIU (ea:Addr) (X:Cx) (tg iter:Expr) (wi:TI):Prop:=
 ∀(pins:List (Addr×Obj)) (s:Shared) (σ:St) (H:Hp) (R:It→Hp→Prop),Inv X pins σ H s→wi σ H R→
  wpAny (model X.prog X.w) X.A (eval iter X.env) (fun v s1=>wpAny (model X.prog X.w) X.A (pyIter v) (PIEU ea X pins σ tg R) X.xe s1) X.xe s
noncomputable def ItrU (ea:Addr) (lo:Int) (n:Nat):It:=⟨fun i _=>i < n,fun i H x H'=>H'=H∧x=.int (lo + i),fun i H=>n≤i∧∃fr C dx,H ea=some (XO fr ea C dx)⟩
theorem turn_rangeU {ea:Addr} {P:Program} {w:World} {K:W.Frag} {tg:Expr} (it:Addr) (lo:Int) (n:Nat):TurnU ea P w K tg (ItrU ea lo n) [it] it (fun i h=>IsRangeIter h it (lo + (i:Nat) * 1) ((n:Int) - (i:Nat)) 1) where
 mem:=(turn_range (P:=P) (w:=w) (K:=K) (tg:=tg) it lo n).mem
 obj:=(turn_range (P:=P) (w:=w) (K:=K) (tg:=tg) it lo n).obj
 keep:=(turn_range (P:=P) (w:=w) (K:=K) (tg:=tg) it lo n).keep
 item:=by
  intro X hP hw hK hc i pins s σ H E I hf st hg
  subst hP hw hK
  obtain ⟨f0,f1,f2,f3,f4,f5⟩:=hf it (by simp)
  refine wpAny_pyNext_range_item st (by have:i < n:=hg;omega) fun h' st' sb=>?_
  have I1:Inv X pins σ H {s with heap:=h',toks:=s.toks + 1}:=I.turned (fun b o hb e=>sb.extBut b o hb e) f0 f1 f3 f4 f5
  have e1:lo + ((i + 1:Nat):Int) * 1=lo + (i:Int) * 1 + 1:=by omega
  have e2:(n:Int) - ((i + 1:Nat):Int)=(n:Int) - (i:Int) - 1:=by omega
  refine ⟨_,rfl,go_of (s:={s with heap:=h',toks:=s.toks + 1}) (n:="range_iterator") st' rfl rfl (by decide) ⟨.int (lo + i),H,I1,⟨s.toks,?_⟩,⟨rfl,rfl⟩,?_,fun b hb=>(hf b hb).1⟩⟩
  ·rw[Int.mul_one]
  ·show IsRangeIter h' it (lo + ((i + 1:Nat):Int) * 1) ((n:Int) - ((i + 1:Nat):Int)) 1
   rw[e1,e2];exact st'
 done:=by
  intro X hP hw hK hc i pins s σ H E I hf st hg
  subst hP hw hK
  obtain ⟨f0,f1,f2,f3,f4,f5⟩:=hf it (by simp)
  obtain ⟨hn,fr,C,dx,hea⟩:=hg
  obtain ⟨oe,vs,g,_,_,e3,e4,_⟩:=xo_get (I.hok ea _ hea)
  exact range_end_on hc ⟨oe,vs,g,e3,e4.2⟩ st (by omega) fun h' eb=>⟨rfl,I.turned (t':=s.toks) (fun b o hb e=>eb b o hb e) f0 f1 f3 f4 f5⟩
 self:=fun _ _ _ _ _ st h=>wpAny_pyIter_rangeiter st h
section
variable {X:Cx} {tg:Expr}
theorem range_itU {ea : Addr} {pins : List (Addr × Obj)} {σ : St} {H : Hp} {s : Shared} {R : It → Hp → Prop} {E : Value → Shared → Prop} {lo hi : Int} {t u v : Tok} {tk : Nat} (I : Inv X pins σ H s) (h1 : -(2 ^ 62) ≤ lo) (h2 : lo < 2 ^ 62) (h3 : -(2 ^ 62) ≤ hi) (h4 : hi < 2 ^ 62)
  (q:R (ItrU ea lo (hi - lo).toNat) H):wpAny (model X.prog X.w) X.A (pyIter (.ref s.heap.objs.size)) (PIEU ea X pins σ tg R) E {s with heap:=s.heap.push {cls:=.type "range",data:=.fields #[.int lo t,.int hi u,.int 1 v]},toks:=tk}:=by
 refine wpAny_pyIter_range (IsRange.new ..) (small_one h1 h2 h3 h4) ?_
 have I1:Inv X pins σ H {s with heap:=s.heap.push {cls:=.type "range",data:=.fields #[.int lo t,.int hi u,.int 1 v]},toks:=tk}:=I.kept fun b o e=>Heap.get?_push_of_some _ e
 refine ⟨(s.heap.push {cls:=.type "range",data:=.fields #[.int lo t,.int hi u,.int 1 v]}).objs.size,[(s.heap.push {cls:=.type "range",data:=.fields #[.int lo t,.int hi u,.int 1 v]}).objs.size],_,_,H,rfl,
  I1.kept (t':=tk) fun b o e=>Heap.get?_push_of_some _ e,turn_rangeU _ lo (hi - lo).toNat,?_,fun b hb=>?_,q⟩
 ·have e1:lo + ((0:Nat):Int) * 1=lo:=by simp
  have e2:(((hi - lo).toNat:Nat):Int) - ((0:Nat):Int)=Builtin.Range.rangeSize lo hi 1:=by rw[rangeSize_one];split <;> omega
  show IsRangeIter _ _ (lo + ((0:Nat):Int) * 1) ((((hi - lo).toNat:Nat):Int) - ((0:Nat):Int)) 1
  rw[e1,e2]
  exact Heap.get?_push_size _ rfl
 ·have e:b=(s.heap.push {cls:=.type "range",data:=.fields #[.int lo t,.int hi u,.int 1 v]}).objs.size:=by simpa using hb
  subst e
  exact I1.fpOk (Nat.le_refl _) (I1.hok.fresh (Nat.le_refl _))
noncomputable def iRng1U (ea:Addr) (ta:TA):TI:=fun σ H R=>ta σ H fun vs H1=>∃j:Int,vs=[.int j]∧-(2 ^ 62)≤j∧j < 2 ^ 62∧R (ItrU ea 0 j.toNat) H1
theorem pi_range1U {ea:Addr} {a:Expr} {ta:TA} {p pos:Pos} (hg:Gl X "range") (hm:X.mg "range"=none) (ha:PA X [a] ta) (hs:starEach [a] X.env=[(false,eval a X.env)]:=by rfl):PIU ea X tg (.Call (.Name "range" p) [a] [] pos) (iRng1U ea ta):=by
 intro pins s σ H R I h
 refine Call_ (ld_blt I hg hm boot_range (PyProof.Rows.callWith_type1 (thn (ha pos pins s σ H _ I h) fun us s1 ⟨vs,H1,I1,r1,q1⟩=>?_) hs rfl))
 obtain ⟨j,e,q1,q2,q⟩:=q1
 subst e
 cases r1 with
 | cons r rr=>
  cases rr
  obtain ⟨t,rfl⟩:=r
  exact call_range_1 (range_itU I1 (by omega) (by omega) q1 q2 (by simpa using q))
theorem comp_anyU {ea : Addr} {pins : List (Addr × Obj)} {s : Shared} {σ : St} {H : Hp} {Q : VK} {use : Option (Value → Sem Unit)} {Qr : Value → Shared → Prop} {pos' : Pos} {elt iter tg : Expr} {ifs : List Expr} {scope : Scope} {pos : Pos} {cl : List (Str × Addr)} {N : List Str} {is : List (Option Nat)} {wi : TI} {g : TG} {tt : TT} {te : TE} (hc : X.A.handled = some (.ref ea)) (k : CompOk X N is scope cl) (hi : PIU ea X tg iter wi)
  (hg:∀C s₀ H₀ ex E,PG (X.comp N scope cl C s₀ H₀ ex E) tg g) (hf:∀C s₀ H₀ ex E,PF (X.comp N scope cl C s₀ H₀ ex E) ifs tt) (he:∀C s₀ H₀ ex E,PE (X.comp N scope cl C s₀ H₀ ex E) elt te)
  (hs:∀x,foldedSetIterable iter X.env x=pure x) (I:Inv X pins σ H s) (h:tComp wi g tt te is σ H Q)
  (hend:∀(D C:Addr) (H4:Hp) (s5:Shared) (m:Str→Option Value),s5.heap.Ns C m→FpOk X pins H4 C→(∀h',Heap.SameBut C s5.heap h'→Inv X pins σ H4 {s5 with heap:=h'})→Q (.ref D) H4→compPost (model X.prog X.w) X.A X.xe use Qr (.ref D) C (.ok .next) s5) :
  wpAny (model X.prog X.w) X.A (comprehension (.ListComp elt [⟨tg,iter,ifs,0⟩] scope pos) scope X.env pos' (newList []) false (eval iter X.env) use) Qr X.xe s:=by
 refine wpAny_comprehension_free (use:=use) rfl hs k.clos k.kind k.names (thn (hi pins s σ H _ I h) fun xv s1 h1=>thn h1 fun itv s2 h2=>?_)
 obtain ⟨it,fp,tn,J,H2,e,I2,T,st2,f2,h2⟩:=h2
 subst e
 refine wpAny_newObj_type (wpAny_newFunctionEnv k.cell (by intro y hy;simp at hy) (fun h₁ hns₁ hsb₁=>?_) k.kind)
 dsimp only at hns₁ hsb₁ ⊢
 generalize hG2:s2.heap.push {cls:=.type "list",dict:=none,data:=.seq ([]:List Value).toArray}=G2 at hns₁ hsb₁ ⊢
 have hC:G2.objs.size=s2.heap.objs.size + 1:=by rw[←hG2,Heap.size_push]
 have hDC:s2.heap.objs.size≠G2.objs.size:=by rw[hC];exact Nat.ne_of_lt (Nat.lt_succ_self _)
 have hCle:s2.heap.objs.size≤G2.objs.size:=by rw[hC];exact Nat.le_succ _
 have neC:∀b,b < s2.heap.objs.size→b≠G2.objs.size:=fun b hb=>Nat.ne_of_lt (Nat.lt_of_lt_of_le hb hCle)
 have old:∀b o,s2.heap.get? b=some o→h₁.get? b=some o:=fun b o e=>hsb₁.extBut b o (neC b (Heap.lt_size e)) (Heap.get?_push_of_some _ (hG2 ▸ Heap.get?_push_of_some _ e))
 have hacc:h₁.get? s2.heap.objs.size=some {cls:=.type "list",dict:=none,data:=.seq ([]:List Value).toArray}:=hsb₁.extBut _ _ hDC (Heap.get?_push_of_some _ (hG2 ▸ Heap.get?_push_size _ rfl))
 have fD:H2 s2.heap.objs.size=none:=I2.hok.fresh (Nat.le_refl _)
 have fC:H2 G2.objs.size=none:=I2.hok.fresh hCle
 obtain ⟨W,⟨m0,w0⟩,turn⟩:=h2 _ fD
 have cellLt:∀x c,cl.lookup x=some c→c < s2.heap.objs.size:=fun x c e=>by
  obtain ⟨v,q⟩:=I2.cell x c (k.sub.look e)
  exact q.lt
 have fpLt:∀b∈fp,b < s2.heap.objs.size:=fun b hb=>by
  obtain ⟨o,q,_⟩:=T.obj 0 _ st2 b hb
  exact Heap.lt_size q
 have hasC:∀x,((relabel scope X.env).names.lookup x=some .cell∨(relabel scope X.env).names.lookup x=some .free)→∃c,cl.lookup x=some c:=fun x hx=>by
  have all:=List.all_eq_true.mp k.has
  rcases hx with hx | hx
  ·have q:=all _ (lookup_mem hx)
   simpa [Option.isSome_iff_exists] using q
  ·have q:=all _ (lookup_mem hx)
   simpa [Option.isSome_iff_exists] using q
 generalize hE:(notedBy (model X.prog X.w) X.A (compEnvC scope cl G2.objs.size X.env) fun e s'=>compPost (model X.prog X.w) X.A X.xe use Qr (.ref s2.heap.objs.size) G2.objs.size (.error e) s')=E'
 have ok':(X.comp N scope cl G2.objs.size s2 H2 fp E').Ok:={
  mod:=I2.ok.mod
  kind:=k.kind
  glob:=I2.ok.glob
  blt:=I2.ok.blt
  above:=hCle
  inj:=fun x y c e1 e2=>I2.ok.inj x y c (k.sub.look e1) (k.sub.look e2)
  has:=fun x hx=>hasC x hx
  cab:=fun x c z=>by cases z
  hd:=I2.ok.hd
  frames:=I2.ok.frames
  stk:=.inl rfl
  exf:=fun b hb=>⟨neC b (fpLt b hb),fun x c e=>(f2 b hb).2.2.2.2.1 x c (k.sub.look e)⟩
  bs:=I2.bs
  bsz:=Nat.le_trans I2.ok.bsz I2.sz
  noex:=fun b o e hb=>by
   rcases (f2 b hb).2.2.2.1 with z | z
   ·exact I2.ok.noex b o e z
   ·exact absurd (Nat.lt_of_lt_of_le (Heap.lt_size e) I2.ok.bsz) (Nat.not_lt.mpr z)
  exfs:=fun b hb z=>by
   rcases List.mem_cons.mp (I2.stkSub b z) with q | q
   ·exact (f2 b hb).2.1 q
   ·exact (f2 b hb).2.2.1 q
  funs:=I2.stack
  frf:=I2.stkFree}
 have I3:Inv (X.comp N scope cl G2.objs.size s2 H2 fp E') [] (caps is σ) (upd H2 s2.heap.objs.size (.lst [])) {s2 with heap:=h₁,toks:=s2.toks + ([]:List (Str×Value)).length}:={
  ok:=ok'
  os:=rfl
  bare:=I2.bare
  base:=Un.laid old (Nat.le_refl _) fD
  loc:=by
   refine ⟨_,hns₁,fun j x v e1 e2 e3=>?_⟩
   obtain ⟨i,q1,q2,q3,q4⟩:=CapOk.get k.cap e1 e2
   obtain ⟨m,hn,hl⟩:=I2.loc
   obtain ⟨u,r,l⟩:=hl i x v q1 q2 (.inr (.inl q3))
   refine ⟨u,r,.inr ⟨.inl q4,?_⟩⟩
   obtain ⟨c,hcl⟩:=hasC x (.inl q4)
   refine ⟨c,hcl,?_⟩
   rcases l with ⟨z,_⟩ | ⟨_,c',e',o,ho,hd⟩
   ·have z':X.env.scope.names.lookup x=some .local:=z
    rw[q3]at z';cases z'
   ·have:=k.sub.look hcl
    rw[e']at this;cases this
    exact ⟨o,old _ _ ho,hd⟩
  cell:=fun x c e=>by
   obtain ⟨v,o,ho,hd⟩:=I2.cell x c (k.sub.look e)
   exact ⟨v,o,old _ _ ho,hd⟩
  free:=by
   show upd H2 s2.heap.objs.size (.lst []) G2.objs.size=none
   rw[upd_ne (Ne.symm hDC)];exact fC
  freeC:=fun x c e=>by
   rw[upd_ne (Nat.ne_of_lt (cellLt x c e))]
   exact I2.freeC x c (k.sub.look e)
  pin:=fun p hp=>by simp at hp
  hok:=I2.hok.laid old (Nat.le_refl _) ⟨Nat.zero_le _,[],_,.nil,hacc⟩
  len:=by
   show (caps is σ).length=N.length
   rw[k.cap.len];simp[caps]}
 have stat:∀{H':Hp},(∀b∈fp,H' b=none)→∀b∈fp,FpOk (X.comp N scope cl G2.objs.size s2 H2 fp E') [] H' b:=fun hn b hb=>
  ⟨hn b hb,neC b (fpLt b hb),ok'.exfs b hb,.inl hb,fun x c e=>(f2 b hb).2.2.2.2.1 x c (k.sub.look e),fun p hp=>by simp at hp⟩
 have loop : ∀ s₃ : Shared, s₃ = { s2 with heap := h₁, toks := s2.toks + ([] : List (Str × Value)).length } →
   codeAny (model X.prog X.w) X.A (.compLoop (.ListComp elt [⟨tg,iter,ifs,0⟩] scope pos) 0 (.ref it) (.ref s2.heap.objs.size) (compEnvC scope cl G2.objs.size X.env))
    (compPost (model X.prog X.w) X.A X.xe use Qr (.ref s2.heap.objs.size) G2.objs.size) s₃:=by
  rintro s₃ rfl
  refine codeAny_compLoop_own (fun n s'=>∃i σ' H',Inv (X.comp N scope cl G2.objs.size s2 H2 fp E') [] σ' H' s'∧tn i s'.heap∧(∀b∈fp,H' b=none)∧W i n σ' H') ?_ m0
   ⟨0,_,_,I3,T.keep _ _ _ st2 fun b hb o e=>old b o e,fun b hb=>by rw[upd_ne (Nat.ne_of_lt (fpLt b hb))];exact (f2 b hb).1,w0⟩
  rintro n s4 ⟨i,σ4,H4,I4,st4,fr4,w4⟩
  rw[hE]
  rcases turn i n σ4 H4 w4 with ⟨stop,⟨ys,hD⟩,q⟩ | ⟨go,Nx,hN,step⟩
  ·refine thn (T.done (X.comp N scope cl G2.objs.size s2 H2 fp E') rfl rfl rfl hc i [] s4 σ4 H4 E' I4 (stat fr4) st4 stop) fun r s5 ⟨hr,I5⟩=>?_
   subst hr
   obtain ⟨m,hn,_⟩:=I5.loc
   refine hend s2.heap.objs.size G2.objs.size H4 s5 m hn (I2.fpOk hCle I5.free) (fun h' hsb=>?_) q
   have B:=I5.base
   have stay:∀b o,b≠G2.objs.size→s5.heap.get? b=some o→h'.get? b=some o:=fun b o hb e=>hsb.extBut b o hb e
   have u:Un (frs X.stack) fp H2 H4 s2.heap h':={
    keep:=fun b o e n1 n2 n3=>stay b o (neC b (Heap.lt_size e)) (B.keep b o e n1 n2 n3)
    slot:=fun b o e n1 n2 n3=>by
     obtain ⟨sl,z⟩:=B.slot b o e n1 n2 n3
     exact ⟨sl,stay b _ (neC b (Heap.lt_size e)) z⟩
    free:=fun b o e n1 n2=>B.free b o e n1 n2
    there:=fun b o e n1=>by
     obtain ⟨o',z⟩:=B.there b o e n1
     exact ⟨o',stay b _ (neC b (Heap.lt_size e)) z⟩
    tups:=B.tups
    frzs:=B.frzs
    tbls:=B.tbls}
   have hok:HOk X.prog X.w H4 h':=fun b o e=>by
    have nC:∀c v,H4 c=some v→c≠G2.objs.size:=fun c v z y=>by
     have:=I5.free
     rw[y]at z
     have z2:H4 G2.objs.size=none:=this
     rw[z2]at z;cases z
    refine (I5.hok b o e).stay (fun c v hc' z=>stay c v ?_ z) (fun _ z=>z) fun _ _ z=>z
    rcases hc' with z | z
    ·rw[z];exact nC b o e
    ·exact nC c _ z
   have hos:s5.os=s2.os:=I5.os
   have hbr:=I5.bare
   obtain ⟨hh,g5,d5,t5,os5⟩:=s5
   obtain rfl:os5=s2.os:=hos
   have z:=I2.call (h':=h') (g':=g5) (d':=d5) (t':=t5) (ch:=fp) u hok hbr fun b hb=>⟨(f2 b hb).2.2.2.1,(f2 b hb).2.1,(f2 b hb).2.2.2.2.1,(f2 b hb).2.2.2.2.2⟩
   exact z
  ·refine thn (T.item (X.comp N scope cl G2.objs.size s2 H2 fp E') rfl rfl rfl hc i [] s4 σ4 H4 E' I4 (stat fr4) st4 go) fun r s5 ⟨u,hr,h5⟩=>?_
   subst hr
   refine thn h5 fun _ s6 ⟨x,H6,I6,r6,y6,st6,fr6⟩=>?_
   have I6':=I6.pinned (stat fr6) (T.obj _ _ st6)
   have again:∀{σ7:St} {H7:Hp} {s7:Shared},Inv (X.comp N scope cl G2.objs.size s2 H2 fp E') ([] ++ pinsAt fp s6.heap) σ7 H7 s7→Nx σ7 H7→∃m,m < n∧∃i σ' H',Inv (X.comp N scope cl G2.objs.size s2 H2 fp E') [] σ' H' s7∧tn i s7.heap∧(∀b∈fp,H' b=none)∧W i m σ' H':=fun {σ7 H7 s7} I7 n7=>by
    obtain ⟨m',hm,w7⟩:=hN σ7 H7 n7
    refine ⟨m',hm,i + 1,σ7,H7,I7.unpinned,T.keep _ _ _ st6 fun b hb o e=>(I7.pin (b,o) (List.mem_append_right _ (List.mem_append_right _ (mem_pinsAt hb e)))).1,fun b hb=>?_,w7⟩
    obtain ⟨o,e,d⟩:=T.obj _ _ st6 b hb
    exact (I7.pin (b,o) (List.mem_append_right _ (List.mem_append_right _ (mem_pinsAt hb e)))).2.1
   refine thn (hg G2.objs.size s2 H2 fp E' _ s6 σ4 H6 x u _ I6' r6 (step x H6 y6)) fun _ s7 ⟨σ7,H7,I7,q7⟩=>?_
   refine thn (hf G2.objs.size s2 H2 fp E' _ s7 σ7 H7 _ I7 q7) fun b s8 ⟨H8,I8,q8⟩=>?_
   cases b with
   | false=>exact again I8 q8
   | true=>
    refine thn (he G2.objs.size s2 H2 fp E' _ s8 σ7 H8 _ I8 q8) fun y s9 ⟨v,H9,I9,r9,xs,hD9,hsz,q9⟩=>?_
    refine thn (mt_append _ s9 σ7 H9 (.ref s2.heap.objs.size) [v] (.ref s2.heap.objs.size) [y] (fun _ H10=>Nx σ7 H10) I9 rfl (.cons r9 .nil) ⟨_,xs,v,rfl,rfl,hD9,hsz,q9⟩) fun _ s10 ⟨_,H10,I10,_,q10⟩=>?_
    exact again I10 q10
 exact codeAny_compStart_list (loop _ rfl) (T.self _ 0 _ _ _ (T.keep _ _ _ st2 fun b hb o e=>old b o e) (loop _ rfl))
theorem pe_compU {ea : Addr} {elt iter tg : Expr} {ifs : List Expr} {scope : Scope} {pos : Pos} {cl : List (Str × Addr)} {N : List Str} {is : List (Option Nat)} {wi : TI} {g : TG} {tt : TT} {te : TE} (hc : X.A.handled = some (.ref ea)) (k : CompOk X N is scope cl) (hi : PIU ea X tg iter wi)
  (hg:∀C s₀ H₀ ex E,PG (X.comp N scope cl C s₀ H₀ ex E) tg g) (hf:∀C s₀ H₀ ex E,PF (X.comp N scope cl C s₀ H₀ ex E) ifs tt) (he:∀C s₀ H₀ ex E,PE (X.comp N scope cl C s₀ H₀ ex E) elt te)
  (hs:∀x,foldedSetIterable iter X.env x=pure x:=by intro _;rfl):PE X (.ListComp elt [⟨tg,iter,ifs,0⟩] scope pos) (tComp wi g tt te is):=by
 intro pins s σ H Q I h
 rw[eval_ListComp]
 exact comp_anyU (use:=none) hc k hi hg hf he hs I h fun D C H4 s5 m hn _ hI q=>⟨m,hn,fun h' hsb=>⟨.ref D,H4,hI h' hsb,rfl,q⟩⟩
structure QIU (ea:Addr) (X:Cx) (tg iter:Expr) (wi:TI):Prop where
 o:PIU ea X tg iter wi
theorem qpi_range1U {X:Cx} {ea:Addr} {tg a:Expr} {ta:TA} {p pos:Pos} (hg:Gl X "range") (hm:X.mg "range"=none) (ha:QA X [a] ta) (hs:starEach [a] X.env=[(false,eval a X.env)]:=by rfl):QIU ea X tg (.Call (.Name "range" p) [a] [] pos) (iRng1U ea ta):=⟨pi_range1U hg hm ha.o hs⟩
theorem qpe_compU {X : Cx} {ea : Addr} {elt iter tg : Expr} {ifs : List Expr} {scope : Scope} {pos : Pos} {cl : List (Str × Addr)} {N : List Str} {is : List (Option Nat)} {wi : TI} {g : TG} {tt : TT} {te : TE} (hc : X.A.handled = some (.ref ea)) (k : CompOk X N is scope cl) (hi : QIU ea X tg iter wi)
  (hg:∀C s₀ H₀ ex E,QG (X.comp N scope cl C s₀ H₀ ex E) tg g) (hf:∀C s₀ H₀ ex E,QF (X.comp N scope cl C s₀ H₀ ex E) ifs tt) (he:∀C s₀ H₀ ex E,QE (X.comp N scope cl C s₀ H₀ ex E) elt te)
  (hs:∀x,foldedSetIterable iter X.env x=pure x:=by intro _;rfl):QE X (.ListComp elt [⟨tg,iter,ifs,0⟩] scope pos) (tComp wi g tt te is):=
 ⟨pe_compU hc k hi.o (fun C s₀ H₀ ex E=>(hg C s₀ H₀ ex E).o) (fun C s₀ H₀ ex E=>(hf C s₀ H₀ ex E).o) (fun C s₀ H₀ ex E=>(he C s₀ H₀ ex E).o) hs⟩
end
section
variable {X:Cx} {x:Str} {p pos:Pos} {e:Expr} {es:List Expr} {t:TA} {CX:CXT} {k:Nat} {f:Addr} {fd:FuncData} {ps:List Str} {sp:Sp} {ds:List Value} {dvs:List V} {E:XK}
theorem run_fnU {pins : List (Addr × Obj)} {σ : St} {H : Hp} {s : Shared} {Q : VK} {us : List Value} {vs : List V} (F : FnOkU X.prog X.w X.K X.mg X.base CX k f fd ps sp) (hr : RoomU k X.A) (hb : Binds X.K fd ps ds) (hd : Vals dvs ds) (hx : Passes CX X E)
  (I:Inv X pins σ H s) (r:Vals vs us) (h:sp (vs ++ dvs) H Q E):wpAny (model X.prog X.w) X.A (call (.ref f) us) (EP X pins σ Q) X.xe s:=by
 have r2:Vals (vs ++ dvs) (us ++ ds):=r.append hd
 have hl:(us ++ ds).length=ps.length:=by rw[←r2.length];exact F.len _ _ _ _ h
 refine wpAny_call (codeAny_mono (F.run X.A X.stack s H ⟨us,[]⟩ (us ++ ds) (vs ++ dvs) Q E hr I.env0 (hb s us I.kIn hl) r2 h) fun r s' hq=>?_)
 cases r with
 | error e=>exact hx pins σ H s e s' I hq
 | ok fl=>
  cases fl with
  | ret u=>exact I.after hq
  | next=>exact False.elim hq
  | brk=>exact False.elim hq
  | cont=>exact False.elim hq
theorem pe_callU (F : FnOkU X.prog X.w X.K X.mg X.base CX k f fd ps sp) (hr : RoomU k X.A) (hg : Gl X x) (hm : X.mg x = some (.ref f)) (hk : PySem.W.keepIn X.K (.ref f) = true) (hb : Binds X.K fd ps ds) (hd : Vals dvs ds) (hx : Passes CX X E)
  (ha:PA X (e::es) t) (hdb:(x == ("__debug__":Str))=false:=by decide) (he:starEach (e::es) X.env=(false,eval e X.env)::starEach es X.env:=by rfl) (hpl:(backTo pos (starEach es X.env)).any (·.1)=false:=by rfl) :
  PE X (.Call (.Name x p) (e::es) [] pos) (tCall sp dvs E t):=by
 intro pins s σ H Q I h
 refine wpAny_Call_Name_kw (ld_glob I hg hm ?_ hdb)
 refine PySem.W.callWith_K (h₀:=X.base) I.ok.mod.kin hk (thn (ha pos pins s σ H _ I h) fun us s1 ⟨vs,H1,I1,r,q⟩=>⟨I1.kIn,?_⟩) he hpl
 exact run_fnU F hr hb hd hx I1 r q
end
structure DefU (P:Program) (w:World) (K:W.Frag) (mg:Str→Option Value) (base:Heap) (x:Str) (ps:List Str) (n:Nat) (sp:Sp):Prop where
 ex:∃f fd,FnOkU P w K mg base CX0 n f fd ps sp∧PySem.W.keepIn K (.ref f)=true∧mg x=some (.ref f)∧Binds K fd ps []∧∃oc od osl,K.lookup f=some ⟨oc,od,.func fd,osl⟩
section
variable {P:Program} {w:World} {K:W.Frag} {mg:Str→Option Value} {base:Heap}
theorem DefU.mk' {y x : Str} {st : Stmt} {N ps : List Str} {n : Nat} {sp : Sp} (T : Src K mg y x st) (S : FnScope N ps (defScope st)) (len : ∀ vs H Q E, sp vs H Q E → vs.length = ps.length)
  (hb:∀(kV doc pm:Value) (an:Option Addr) (cdv ct:Value) (us:List Value),us.length=ps.length→bindArgs (PySem.W.fnOf x x (defArgs st) (defBody st) (defScope st) .none kV doc pm an cdv ct) ⟨us,[]⟩=pure (ps.zip us))
  (hbody:∀(f:Addr) (cdv:Value) (A:Around) (outer:List Env) (s:Shared) (H:Hp) (vs:List V) (Q:VK) (E:XK),RoomU n (A.deeper (envOfC x (defScope st) s.heap.objs.size f cdv))→sp vs H Q E→
   ∃t,PSs (cxOfU CX0 P w K mg base N x (defScope st) f cdv A outer s H E).nox (defBody st) t∧t {nx:=fun _ H'=>Q .non H',rt:=Q} (start N vs) H):DefU P w K mg base y ps (n + 1) sp:=by
 obtain ⟨f,fd,F,m⟩:=T
 exact ⟨f,fd,F.okU S len fun cdv A outer s H vs Q E hr h=>hbody f cdv A outer s H vs Q E hr h,F.kp,m,F.binds hb,by
  obtain ⟨oc,od,kV,doc,pm,an,cdv,ct,osl,rfl,lk,hcd⟩:=F.ex
  exact ⟨_,_,_,lk⟩⟩
theorem DefU.mkq {P : Program} {w : World} {K : W.Frag} {mg : Str → Option Value} {base : Heap} {y x : Str} {st : Stmt} {N ps : List Str} {n : Nat} {sp : Sp} (T : Src K mg y x st) (S : FnScope N ps (defScope st)) (len : ∀ vs H Q E, sp vs H Q E → vs.length = ps.length)
  (hb:∀(kV doc pm:Value) (an:Option Addr) (cdv ct:Value) (us:List Value),us.length=ps.length→bindArgs (PySem.W.fnOf x x (defArgs st) (defBody st) (defScope st) .none kV doc pm an cdv ct) ⟨us,[]⟩=pure (ps.zip us))
  (hbody:∀(f:Addr) (cdv:Value) (A:Around) (outer:List Env) (s:Shared) (H:Hp) (vs:List V) (Q:VK) (E:XK),RoomU n (A.deeper (envOfC x (defScope st) s.heap.objs.size f cdv))→sp vs H Q E→
   ∃t,QSs (cxOfU CX0 P w K mg base N x (defScope st) f cdv A outer s H E).nox (defBody st) t∧t {nx:=fun _ H'=>Q .non H',rt:=Q} (start N vs) H):DefU P w K mg base y ps (n + 1) sp:=
 DefU.mk' T S len hb fun f cdv A outer s H vs Q E hr h=>let ⟨t,q,r⟩:=hbody f cdv A outer s H vs Q E hr h;⟨t,q.o,r⟩
end
section
variable {X:Cx} {x:Str} {ps:List Str} {n k:Nat} {sp:Sp} {p pos:Pos} {e:Expr} {es:List Expr} {t:TA}
theorem pe_cdU (D : DefU X.prog X.w X.K X.mg X.base x ps n sp) (hr : RoomU k X.A) (ha : PA X (e :: es) t) (hk : n ≤ k := by decide) (hg : Gl X x := by rfl) (hdb : (x == ("__debug__" : Str)) = false := by decide)
  (he:starEach (e::es) X.env=(false,eval e X.env)::starEach es X.env:=by rfl) (hpl:(backTo pos (starEach es X.env)).any (·.1)=false:=by rfl) :
  PE X (.Call (.Name x p) (e::es) [] pos) (tCall sp [] E0 t):=by
 intro pins s σ H Q I h
 obtain ⟨f,fd,F,kp,m,b,_⟩:=D.ex
 exact pe_callU F (hr.mono hk) hg m kp b .nil pass0 ha hdb he hpl pins s σ H Q I h
theorem qpe_cdU (D : DefU X.prog X.w X.K X.mg X.base x ps n sp) (hr : RoomU k X.A) (ha : QA X (e :: es) t) (hk : n ≤ k := by decide) (hg : Gl X x := by rfl) (hdb : (x == ("__debug__" : Str)) = false := by decide)
  (he:starEach (e::es) X.env=(false,eval e X.env)::starEach es X.env:=by rfl) (hpl:(backTo pos (starEach es X.env)).any (·.1)=false:=by rfl):QE X (.Call (.Name x p) (e::es) [] pos) (tCall sp [] E0 t):=⟨pe_cdU D hr ha.o hk hg hdb he hpl⟩
end
section
variable {X:Cx} {nm q:Str} {D N:Addr} {bs bm:List Value} {hdct:Bool} {sn:List Str} {sub:List Value} {ab:Bool} {col:Option Bool} {dd:Option Addr} {k0 k1 k2 k3 k5:Option Value} {newId:String}
noncomputable def eeTryE (K:W.Frag) (D:Addr) (i:Nat) (ts:Addr→TS) (W:Ends):XS:=fun σ' c xa H'=>∃C ea,c=.ref C∧xa=some ea∧PySem.W.mroIn K C (.ref D)=some true∧
 ts ea {nx:=fun σ2 H2=>W.nx (σ2.set i none) H2,rt:=W.rt,bk:=fun _ _=>False,ct:=fun _ _=>False} (σ'.set i (some (.ref ea))) H'
structure tTryE (K:W.Frag) (D:Addr) (i:Nat) (tb:XS→TS) (ts:Addr→TS) (W:Ends) (σ:St) (H:Hp):Prop where
 o:tb (eeTryE K D i ts W) W σ H
theorem qps_tryE {body suite : List Stmt} {b0 : Stmt} {x n : Str} {np hpos pos : Pos} {i : Nat} {tb : XS → TS} {ts : Addr → TS} (st : X.stack = X.env :: X.outer ∧ X.env.frame = some X.env.locals) (hN : X.N.Nodup) (hi : X.N[i]? = some n) (hk : X.env.kindOf n = some .local)
  (hg:Gl X x) (hm:X.mg x=some (.ref D)) (lk:X.K.lookup D=some (excClassObj nm q D N bs bm hdct sn sub ab col dd k0 k1 k2 k3 k5 newId)) (hbm:bm.contains (.type "BaseException")=true)
  (hb:∀F pn EE,PassX (X.tryx F pn) EE→RaiseX (X.tryx F pn) EE→QSs (X.tryx F pn) body (tb EE)) (hs:∀ea,QSs (X.suite ea) (b0::suite) (ts ea)) (hdb:(x == ("__debug__":Str))=false:=by decide) :
  QS X (.Try body [.ExceptHandler (some (.Name x np)) (some n) (b0::suite) hpos] [] [] pos) (tTryE X.K D i tb ts):=
 have z:=try_x (h0:=.ExceptHandler (some (.Name x np)) (some n) (b0::suite) hpos) (pos:=pos) (EE:=eeTryE X.K D i ts) st hb fun pins σ H s W ea C dx T I e T0 hT u k=>by
  obtain ⟨C',ea',c1,c2,mr,h⟩:=k
  cases c1;cases c2
  exact clause_x hN hi hk hg hm lk hbm (hs ea) I e hT T0 u mr h hdb
 ⟨fun pins s σ H W I h=>z.o pins s σ H W I h.o⟩
theorem rd_tryE {K : W.Frag} {D : Addr} {i : Nat} {tb : XS → TS} {ts : Addr → TS} {W : Ends} {σ : St} {H : Hp} (EX : XS) (key : ∀ σ' c xa H', EX σ' c xa H' → ∃ C ea, c = .ref C ∧ xa = some ea ∧ PySem.W.mroIn K C (.ref D) = some true ∧
  ts ea {nx:=fun σ2 H2=>W.nx (σ2.set i none) H2,rt:=W.rt,bk:=fun _ _=>False,ct:=fun _ _=>False} (σ'.set i (some (.ref ea))) H')
  (k:∀EE:XS,(∀σ' c xa H',EX σ' c xa H'→EE σ' c xa H')→tb EE W σ H):tTryE K D i tb ts W σ H:=⟨k _ key⟩
end
section
variable {X:Cx}
theorem comp_rangeU {ea : Addr} {lo : Int} {n : Nat} {g : TG} {tt : TT} {te : TE} {D : Addr} {σ : St} {H : Hp} {Q : VK} (Pv : Nat → St → Hp → Prop) (h0 : Pv 0 σ H)
  (hs:∀i σ H,i < n→Pv i σ H→g (.int (lo + i)) σ H fun σ2 H3=>tt σ2 H3 fun b H4=>if b=true then te σ2 H4 fun y H5=>∃xs,H5 D=some (.lst xs)∧xs.length < sizeLine∧Pv (i + 1) σ2 (upd H5 D (.lst (xs ++ [y]))) else Pv (i + 1) σ2 H4)
  (hd:∀σ H,Pv n σ H→(∃fr C dx,H ea=some (XO fr ea C dx))∧(∃ys,H D=some (.lst ys))∧Q (.ref D) H):CompW (ItrU ea lo n) g tt te D σ H Q:=by
 refine ⟨fun i m σ H=>m=n - i∧i≤n∧Pv i σ H,⟨n,by simp,Nat.zero_le _,h0⟩,?_⟩
 rintro i m σ H ⟨rfl,hi,p⟩
 by_cases hlt:i < n
 ·refine .inr ⟨hlt,Pv (i + 1),fun σ' H' p'=>⟨n - (i + 1),by omega,rfl,hlt,p'⟩,fun x H' y=>?_⟩
  obtain ⟨e,y⟩:=y
  subst e y
  exact hs i σ _ hlt p
 ·have e:i=n:=by omega
  subst e
  obtain ⟨h1,h2⟩:=hd σ H p
  exact .inl ⟨⟨Nat.le_refl _,h1⟩,h2⟩
theorem RoomU.suite {k:Nat} {A:Around} {v:Option Value} (r:Room k A):RoomU k (A.mark v):=⟨r.dp,r.un,r.gd⟩
theorem op_eqU {k:Nat} {K:W.Frag} (hK:X.K=K) (hr:RoomU k X.A):OpR X (compareOp .Eq) (fun x y H Q=>∃d e,Dv K H x d∧Dv K H y e∧d.canLay0=true∧e.canLay0=true∧d.depth≤60∧Q (.bl (PyData.eqv d e)) H):=by
 subst hK
 intro pins s σ H x y v u Q I rx ry h
 obtain ⟨d,e,hd,he,cd,ce,dp,q⟩:=h
 obtain ⟨as,r1⟩:=I.reads hd rx
 obtain ⟨bs,r2⟩:=I.reads he ry
 have hu:=hr.un
 refine PySem.SeqAt.compareEq_reads r1 r2 cd ce ?_ ⟨.bl (PyData.eqv d e),H,I,rfl,q⟩
 have:=Nat.min_le_left d.depth e.depth
 omega
end
end L2
local macro_rules | `(tactic| walk_at "rd") => `(tactic| first | refine ⟨_, rfl, ?_⟩ | refine ⟨_, _, rfl, rfl, ?_⟩ | refine ⟨rfl, ?_⟩ | refine ⟨_, _, _, _, rfl, rfl, (by assumption), L2.at0, ?_⟩ | refine ⟨_, _, _, _, rfl, rfl, (by assumption), L2.at1, ?_⟩ | refine ⟨(show (0 : Int) < _ by first | decide | omega), ?_⟩ | refine ⟨⟨by decide, by decide⟩, ?_⟩ | refine ⟨⟨by decide, by decide, by decide⟩, ?_⟩ | refine ⟨.inl ⟨by decide, by decide⟩, ?_⟩ | refine ⟨.inr ⟨by decide, by decide⟩, ?_⟩ | refine ⟨L2.len1, ?_⟩ | refine ⟨L2.len2, ?_⟩)
local macro_rules | `(tactic| walk_at "zz") => `(tactic| first | refine L2.r_add ?_ | refine L2.r_sub ?_ | refine L2.r_lenT ?_ | refine L2.r_lenL ?_ | refine L2.r_slT ?_ | refine L2.r_slL ?_ | refine L2.r_anyT ?_ | refine L2.r_anyL ?_ | refine L2.r_tupL ?_ | refine L2.r_tupT ?_ | refine L2.r_lstT ?_ | refine L2.r_lstL ?_ | refine L2.r_isi ?_ | refine L2.r_enumT ?_ | refine L2.r_enumL ?_ | refine L2.r_zipTT ?_ | refine L2.r_zipLL ?_ | refine L2.r_zipLT ?_ | refine L2.r_rvt ?_ | refine L2.r_rev ?_ | refine L2.r_revL ?_ | refine L2.r_abs ?_ | refine L2.r_mod (by first | decide | omega) ?_ | refine L2.r_ixT rfl ?_ | refine L2.r_ixL rfl ?_)
local macro_rules | `(tactic| walk_at "lc") => `(tactic| first | exact Or.inl rfl | exact Or.inr rfl)
namespace My
open PySem.W (nsIn mg_of fnOf keepIn codeIn kitOne mg_none_of findIn)
set_option maxHeartbeats 4000000
open PySem L2
noncomputable def top (i:Nat):Stmt:=PySem.Challenge.pw_powerrests_k21_refusals.main.body.getD i (.Pass ⟨0,0,0,0⟩)
noncomputable abbrev s__law_tape:Stmt:=top 10
noncomputable abbrev s__law_draw:Stmt:=top 11
noncomputable abbrev s__law_great:Stmt:=top 12
noncomputable abbrev s__law_thing:Stmt:=top 13
noncomputable abbrev s__law_raise_first:Stmt:=top 14
noncomputable abbrev s__law_raise:Stmt:=top 15
noncomputable abbrev s__law_fields:Stmt:=top 16
noncomputable abbrev s_law:Stmt:=top 17
structure Txt (K:W.Frag) (mg:Str→Option Value):Prop where
 f__law_tape:Src K mg "_law_tape" "_law_tape" s__law_tape
 f__law_draw:Src K mg "_law_draw" "_law_draw" s__law_draw
 f__law_great:Src K mg "_law_great" "_law_great" s__law_great
 f__law_thing:Src K mg "_law_thing" "_law_thing" s__law_thing
 f__law_raise_first:Src K mg "_law_raise_first" "_law_raise_first" s__law_raise_first
 f__law_raise:Src K mg "_law_raise" "_law_raise" s__law_raise
 f__law_fields:Src K mg "_law_fields" "_law_fields" s__law_fields
 f_law:Src K mg "law" "law" s_law
 b_ValueError:mg "ValueError"=none
 b_dict:mg "dict"=none
 b_isinstance:mg "isinstance"=none
 b_len:mg "len"=none
 b_list:mg "list"=none
 b_range:mg "range"=none
 b_repr:mg "repr"=none
 x_NoLine:∃C B fI fd,XTop K mg "NoLine" "NoLine.__init__" (inClass (top 8) 0) ["row"] C B fI fd
 x_NoPaper:∃C B fI fd,XTop K mg "NoPaper" "NoPaper.__init__" (inClass (top 5) 0) ["word","place"] C B fI fd
 x_NoRest:∃C B fI fd,XTop K mg "NoRest" "NoRest.__init__" (inClass (top 3) 0) ["number","prime"] C B fI fd
 x_NoRow:∃C B fI fd,XTop K mg "NoRow" "NoRow.__init__" (inClass (top 4) 0) ["word","place"] C B fI fd
 x_NoShare:∃C B fI fd,XTop K mg "NoShare" "NoShare.__init__" (inClass (top 2) 0) ["word"] C B fI fd
 x_NoText:∃C B fI fd,XTop K mg "NoText" "NoText.__init__" (inClass (top 7) 0) ["word","place"] C B fI fd
 x_NoTurn:∃C B fI fd,XTop K mg "NoTurn" "NoTurn.__init__" (inClass (top 6) 0) ["word","thing"] C B fI fd
 h_PowerError:∃(C:Addr) (nm q:Str) (N:Addr) (bs bm:List Value) (hdct:Bool) (sn:List Str) (sub:List Value) (ab:Bool) (col:Option Bool) (dd:Option Addr) (k0 k1 k2 k3 k5:Option Value) (ni:String),mg "PowerError"=some (.ref C)∧ClsK K "PowerError" C∧K.lookup C=some (excClassObj nm q C N bs bm hdct sn sub ab col dd k0 k1 k2 k3 k5 ni)∧bm.contains (.type "BaseException")=true
 n_NoLine:∃C,mg "NoLine"=some (.ref C)∧ClsK K "NoLine" C
 n_NoPaper:∃C,mg "NoPaper"=some (.ref C)∧ClsK K "NoPaper" C
 n_NoRest:∃C,mg "NoRest"=some (.ref C)∧ClsK K "NoRest" C
 n_NoRow:∃C,mg "NoRow"=some (.ref C)∧ClsK K "NoRow" C
 n_NoShare:∃C,mg "NoShare"=some (.ref C)∧ClsK K "NoShare" C
 n_NoText:∃C,mg "NoText"=some (.ref C)∧ClsK K "NoText" C
 n_NoTurn:∃C,mg "NoTurn"=some (.ref C)∧ClsK K "NoTurn" C
 k_NoLine_NoLine:∀C D,ClsK K "NoLine" C→ClsK K "NoLine" D→kitOne K (.ref C) (.ref D)=some true
 k_NoLine_NoPaper:∀C D,ClsK K "NoLine" C→ClsK K "NoPaper" D→kitOne K (.ref C) (.ref D)=some false
 k_NoLine_NoRest:∀C D,ClsK K "NoLine" C→ClsK K "NoRest" D→kitOne K (.ref C) (.ref D)=some false
 k_NoLine_NoRow:∀C D,ClsK K "NoLine" C→ClsK K "NoRow" D→kitOne K (.ref C) (.ref D)=some false
 k_NoLine_NoShare:∀C D,ClsK K "NoLine" C→ClsK K "NoShare" D→kitOne K (.ref C) (.ref D)=some false
 k_NoLine_NoText:∀C D,ClsK K "NoLine" C→ClsK K "NoText" D→kitOne K (.ref C) (.ref D)=some false
 k_NoLine_NoTurn:∀C D,ClsK K "NoLine" C→ClsK K "NoTurn" D→kitOne K (.ref C) (.ref D)=some false
 v_NoLine:∀C,ClsK K "NoLine" C→kitOne K (.ref C) (.type "ValueError")=some true
 k_NoPaper_NoLine:∀C D,ClsK K "NoPaper" C→ClsK K "NoLine" D→kitOne K (.ref C) (.ref D)=some false
 k_NoPaper_NoPaper:∀C D,ClsK K "NoPaper" C→ClsK K "NoPaper" D→kitOne K (.ref C) (.ref D)=some true
 k_NoPaper_NoRest:∀C D,ClsK K "NoPaper" C→ClsK K "NoRest" D→kitOne K (.ref C) (.ref D)=some false
 k_NoPaper_NoRow:∀C D,ClsK K "NoPaper" C→ClsK K "NoRow" D→kitOne K (.ref C) (.ref D)=some false
 k_NoPaper_NoShare:∀C D,ClsK K "NoPaper" C→ClsK K "NoShare" D→kitOne K (.ref C) (.ref D)=some false
 k_NoPaper_NoText:∀C D,ClsK K "NoPaper" C→ClsK K "NoText" D→kitOne K (.ref C) (.ref D)=some false
 k_NoPaper_NoTurn:∀C D,ClsK K "NoPaper" C→ClsK K "NoTurn" D→kitOne K (.ref C) (.ref D)=some false
 v_NoPaper:∀C,ClsK K "NoPaper" C→kitOne K (.ref C) (.type "ValueError")=some true
 k_NoRest_NoLine:∀C D,ClsK K "NoRest" C→ClsK K "NoLine" D→kitOne K (.ref C) (.ref D)=some false
 k_NoRest_NoPaper:∀C D,ClsK K "NoRest" C→ClsK K "NoPaper" D→kitOne K (.ref C) (.ref D)=some false
 k_NoRest_NoRest:∀C D,ClsK K "NoRest" C→ClsK K "NoRest" D→kitOne K (.ref C) (.ref D)=some true
 k_NoRest_NoRow:∀C D,ClsK K "NoRest" C→ClsK K "NoRow" D→kitOne K (.ref C) (.ref D)=some false
 k_NoRest_NoShare:∀C D,ClsK K "NoRest" C→ClsK K "NoShare" D→kitOne K (.ref C) (.ref D)=some false
 k_NoRest_NoText:∀C D,ClsK K "NoRest" C→ClsK K "NoText" D→kitOne K (.ref C) (.ref D)=some false
 k_NoRest_NoTurn:∀C D,ClsK K "NoRest" C→ClsK K "NoTurn" D→kitOne K (.ref C) (.ref D)=some false
 v_NoRest:∀C,ClsK K "NoRest" C→kitOne K (.ref C) (.type "ValueError")=some true
 k_NoRow_NoLine:∀C D,ClsK K "NoRow" C→ClsK K "NoLine" D→kitOne K (.ref C) (.ref D)=some false
 k_NoRow_NoPaper:∀C D,ClsK K "NoRow" C→ClsK K "NoPaper" D→kitOne K (.ref C) (.ref D)=some false
 k_NoRow_NoRest:∀C D,ClsK K "NoRow" C→ClsK K "NoRest" D→kitOne K (.ref C) (.ref D)=some false
 k_NoRow_NoRow:∀C D,ClsK K "NoRow" C→ClsK K "NoRow" D→kitOne K (.ref C) (.ref D)=some true
 k_NoRow_NoShare:∀C D,ClsK K "NoRow" C→ClsK K "NoShare" D→kitOne K (.ref C) (.ref D)=some false
 k_NoRow_NoText:∀C D,ClsK K "NoRow" C→ClsK K "NoText" D→kitOne K (.ref C) (.ref D)=some false
 k_NoRow_NoTurn:∀C D,ClsK K "NoRow" C→ClsK K "NoTurn" D→kitOne K (.ref C) (.ref D)=some false
 v_NoRow:∀C,ClsK K "NoRow" C→kitOne K (.ref C) (.type "ValueError")=some true
 k_NoShare_NoLine:∀C D,ClsK K "NoShare" C→ClsK K "NoLine" D→kitOne K (.ref C) (.ref D)=some false
 k_NoShare_NoPaper:∀C D,ClsK K "NoShare" C→ClsK K "NoPaper" D→kitOne K (.ref C) (.ref D)=some false
 k_NoShare_NoRest:∀C D,ClsK K "NoShare" C→ClsK K "NoRest" D→kitOne K (.ref C) (.ref D)=some false
 k_NoShare_NoRow:∀C D,ClsK K "NoShare" C→ClsK K "NoRow" D→kitOne K (.ref C) (.ref D)=some false
 k_NoShare_NoShare:∀C D,ClsK K "NoShare" C→ClsK K "NoShare" D→kitOne K (.ref C) (.ref D)=some true
 k_NoShare_NoText:∀C D,ClsK K "NoShare" C→ClsK K "NoText" D→kitOne K (.ref C) (.ref D)=some false
 k_NoShare_NoTurn:∀C D,ClsK K "NoShare" C→ClsK K "NoTurn" D→kitOne K (.ref C) (.ref D)=some false
 v_NoShare:∀C,ClsK K "NoShare" C→kitOne K (.ref C) (.type "ValueError")=some true
 k_NoText_NoLine:∀C D,ClsK K "NoText" C→ClsK K "NoLine" D→kitOne K (.ref C) (.ref D)=some false
 k_NoText_NoPaper:∀C D,ClsK K "NoText" C→ClsK K "NoPaper" D→kitOne K (.ref C) (.ref D)=some false
 k_NoText_NoRest:∀C D,ClsK K "NoText" C→ClsK K "NoRest" D→kitOne K (.ref C) (.ref D)=some false
 k_NoText_NoRow:∀C D,ClsK K "NoText" C→ClsK K "NoRow" D→kitOne K (.ref C) (.ref D)=some false
 k_NoText_NoShare:∀C D,ClsK K "NoText" C→ClsK K "NoShare" D→kitOne K (.ref C) (.ref D)=some false
 k_NoText_NoText:∀C D,ClsK K "NoText" C→ClsK K "NoText" D→kitOne K (.ref C) (.ref D)=some true
 k_NoText_NoTurn:∀C D,ClsK K "NoText" C→ClsK K "NoTurn" D→kitOne K (.ref C) (.ref D)=some false
 v_NoText:∀C,ClsK K "NoText" C→kitOne K (.ref C) (.type "ValueError")=some true
 k_NoTurn_NoLine:∀C D,ClsK K "NoTurn" C→ClsK K "NoLine" D→kitOne K (.ref C) (.ref D)=some false
 k_NoTurn_NoPaper:∀C D,ClsK K "NoTurn" C→ClsK K "NoPaper" D→kitOne K (.ref C) (.ref D)=some false
 k_NoTurn_NoRest:∀C D,ClsK K "NoTurn" C→ClsK K "NoRest" D→kitOne K (.ref C) (.ref D)=some false
 k_NoTurn_NoRow:∀C D,ClsK K "NoTurn" C→ClsK K "NoRow" D→kitOne K (.ref C) (.ref D)=some false
 k_NoTurn_NoShare:∀C D,ClsK K "NoTurn" C→ClsK K "NoShare" D→kitOne K (.ref C) (.ref D)=some false
 k_NoTurn_NoText:∀C D,ClsK K "NoTurn" C→ClsK K "NoText" D→kitOne K (.ref C) (.ref D)=some false
 k_NoTurn_NoTurn:∀C D,ClsK K "NoTurn" C→ClsK K "NoTurn" D→kitOne K (.ref C) (.ref D)=some true
 v_NoTurn:∀C,ClsK K "NoTurn" C→kitOne K (.ref C) (.type "ValueError")=some true
section
variable {P:Program} {w:World} {K:W.Frag} {mg:Str→Option Value} {base:Heap}
theorem i_NoLine {C B fI:Addr} {fd:FuncData} (S:XTop K mg "NoLine" "NoLine.__init__" (inClass (top 8) 0) ["row"] C B fI fd):FnOk P w K mg base CX0 1 fI fd ["self","row"] (spI1 K "row"):=ini1 S.s.f ⟨rfl,rfl,rfl,by decide +kernel,rfl,by decide +kernel,by decide +kernel⟩ rfl (Or.inl rfl) (Or.inl rfl) (by decide) (by decide) (fun _=>rfl) (fun _=>rfl)
theorem i_NoPaper {C B fI:Addr} {fd:FuncData} (S:XTop K mg "NoPaper" "NoPaper.__init__" (inClass (top 5) 0) ["word","place"] C B fI fd):FnOk P w K mg base CX0 1 fI fd ["self","word","place"] (spI2 K "word" "place"):=ini2 S.s.f ⟨rfl,rfl,rfl,by decide +kernel,rfl,by decide +kernel,by decide +kernel⟩ rfl (Or.inl rfl) (Or.inl rfl) (Or.inl rfl) (by decide) (by decide) (by decide) (by decide) (fun _=>rfl) (fun _=>rfl)
theorem i_NoRest {C B fI:Addr} {fd:FuncData} (S:XTop K mg "NoRest" "NoRest.__init__" (inClass (top 3) 0) ["number","prime"] C B fI fd):FnOk P w K mg base CX0 1 fI fd ["self","number","prime"] (spI2 K "number" "prime"):=ini2 S.s.f ⟨rfl,rfl,rfl,by decide +kernel,rfl,by decide +kernel,by decide +kernel⟩ rfl (Or.inl rfl) (Or.inl rfl) (Or.inl rfl) (by decide) (by decide) (by decide) (by decide) (fun _=>rfl) (fun _=>rfl)
theorem i_NoRow {C B fI:Addr} {fd:FuncData} (S:XTop K mg "NoRow" "NoRow.__init__" (inClass (top 4) 0) ["word","place"] C B fI fd):FnOk P w K mg base CX0 1 fI fd ["self","word","place"] (spI2 K "word" "place"):=ini2 S.s.f ⟨rfl,rfl,rfl,by decide +kernel,rfl,by decide +kernel,by decide +kernel⟩ rfl (Or.inl rfl) (Or.inl rfl) (Or.inl rfl) (by decide) (by decide) (by decide) (by decide) (fun _=>rfl) (fun _=>rfl)
theorem i_NoShare {C B fI:Addr} {fd:FuncData} (S:XTop K mg "NoShare" "NoShare.__init__" (inClass (top 2) 0) ["word"] C B fI fd):FnOk P w K mg base CX0 1 fI fd ["self","word"] (spI1 K "word"):=ini1 S.s.f ⟨rfl,rfl,rfl,by decide +kernel,rfl,by decide +kernel,by decide +kernel⟩ rfl (Or.inl rfl) (Or.inl rfl) (by decide) (by decide) (fun _=>rfl) (fun _=>rfl)
theorem i_NoText {C B fI:Addr} {fd:FuncData} (S:XTop K mg "NoText" "NoText.__init__" (inClass (top 7) 0) ["word","place"] C B fI fd):FnOk P w K mg base CX0 1 fI fd ["self","word","place"] (spI2 K "word" "place"):=ini2 S.s.f ⟨rfl,rfl,rfl,by decide +kernel,rfl,by decide +kernel,by decide +kernel⟩ rfl (Or.inl rfl) (Or.inl rfl) (Or.inl rfl) (by decide) (by decide) (by decide) (by decide) (fun _=>rfl) (fun _=>rfl)
theorem i_NoTurn {C B fI:Addr} {fd:FuncData} (S:XTop K mg "NoTurn" "NoTurn.__init__" (inClass (top 6) 0) ["word","thing"] C B fI fd):FnOk P w K mg base CX0 1 fI fd ["self","word","thing"] (spI2 K "word" "thing"):=ini2 S.s.f ⟨rfl,rfl,rfl,by decide +kernel,rfl,by decide +kernel,by decide +kernel⟩ rfl (Or.inl rfl) (Or.inl rfl) (Or.inl rfl) (by decide) (by decide) (by decide) (by decide) (fun _=>rfl) (fun _=>rfl)
noncomputable def sp__law_tape (K:W.Frag):Sp:=fun vs H Q _=>∃(a:Addr) (ns:List Int),vs=[.ref a]∧SqL K H a (ns.map V.int)∧ns.length≤63∧∀t H',Same H H'→Tp H' t 0→Q t H'
theorem sc__law_tape:FnScope ["_law_script"] ["_law_script"] (defScope s__law_tape):=⟨rfl,rfl,rfl,by decide +kernel,rfl,by decide +kernel,by decide +kernel⟩
theorem d__law_tape (T:Txt K mg):Def P w K mg base "_law_tape" ["_law_script"] 1 (sp__law_tape K):=by
 refine Def.mkq T.f__law_tape sc__law_tape (fun vs H Q E h=>?_) (fun _ _ _ _ _ _ us hl=>match us,hl with | [_],_=>rfl) (fun f cdv A outer s H vs Q E hr h=>?_)
 ·obtain ⟨a,ns,rfl,_⟩:=h
  rfl
 obtain ⟨a,ns,rfl,hS,hl,q⟩:=h
 refine ⟨_,(qpss_one (qps_ret (qpe_lst (qpa_cons (qpe_slice sl_list (qpv 0) qpo_none (qpo_some qpe_int)) (qpa_cons qpe_int (qpa_cons qpe_int qpa_nil)))))),?_⟩
 refine ⟨_,rfl,63,rfl,a,_,rfl,hS,fun c hc=>⟨len3,fun t ht=>?_⟩⟩
 have s1:=same_new hc (.lst (cutV (ns.map V.int) none (some 63)))
 refine q _ _ (s1.trans (same_new ht _)) ⟨t,c,ns,0,0,rfl,upd_same,?_,Int.le_refl _,Int.le_refl _,hl⟩
 have hct:c≠t:=ne_of_none (H:=upd H c (.lst (cutV (ns.map V.int) none (some 63)))) upd_same ht
 rw[upd_ne hct,upd_same,cutV_63 ns hl]
noncomputable def sp__law_draw (K:W.Frag):Sp:=fun vs H Q _=>∃(t:V) (n:Nat) (m:Int),vs=[t,.int m]∧Tp H t n∧n < 2 ^ 40∧0 < m∧m < 2 ^ 30∧∀r H',0≤r→r < m→Tp H' t (n + 1)→SB t H H'→Q (.int r) H'
theorem sc__law_draw:FnScope ["_law_tape_here","_law_many","_law_found","_law_at","_law_cell","_law_mixed"] ["_law_tape_here","_law_many"] (defScope s__law_draw):=⟨rfl,rfl,rfl,by decide +kernel,rfl,by decide +kernel,by decide +kernel⟩
theorem d__law_draw (T:Txt K mg):Def P w K mg base "_law_draw" ["_law_tape_here","_law_many"] 1 (sp__law_draw K):=by
 refine Def.mkq T.f__law_draw sc__law_draw (fun vs H Q E h=>?_) (fun _ _ _ _ _ _ us hl=>match us,hl with | [_,_],_=>rfl) (fun f cdv A outer s H vs Q E hr h=>?_)
 ·obtain ⟨t,n,m,rfl,_⟩:=h
  rfl
 obtain ⟨t,n,m,rfl,T0,hn,hm,hm2,q⟩:=h
 refine ⟨_, (qpss_cons (qps_if (qpt_cmpR op_gt (qpe_ix ix_list (qpv 0) qpe_int (fun _ _ => rfl)) qpe_int (nomark _)) (qpss_cons (qps_set (i := 2) sc__law_draw.nd rfl (by walk_at "lc") (qpe_op op_mod (qpe_ix ix_list (qpv 0) qpe_int (fun _ _ => rfl)) (qpv 1)))
   (qpss_cons (qps_asg (qpe_op op_fdiv (qpe_ix ix_list (qpv 0) qpe_int (fun _ _=>rfl)) (qpv 1)) (qpg_sub (qpv 0) qpe_int set_list))
   (qpss_one (qps_ret (qpv 2))))) qpss_nil)
   (qpss_cons (qps_set (i:=3) sc__law_draw.nd rfl (by walk_at "lc") (qpe_ix ix_list (qpv 0) qpe_int (fun _ _=>rfl)))
   (qpss_cons (qps_asg (qpe_op op_add (qpv 3) qpe_int) (qpg_sub (qpv 0) qpe_int set_list))
   (qpss_cons (qps_set (i:=4) sc__law_draw.nd rfl (by walk_at "lc") qpe_int)
   (qpss_cons (qps_if (qpt_cmpR op_gt (qpe_callB call_len_seq rfl T.b_len bt_len (qpa_cons (qpe_ix ix_list (qpv 0) qpe_int (fun _ _=>rfl)) qpa_nil)) qpe_int (nomark _)) (qpss_one (qps_set (i:=4) sc__law_draw.nd rfl (by walk_at "lc") (qpe_ix ix_list (qpe_ix ix_list (qpv 0) qpe_int (fun _ _=>rfl)) (qpe_op op_mod (qpv 3) (qpe_callB call_len_seq rfl T.b_len bt_len (qpa_cons (qpe_ix ix_list (qpv 0) qpe_int (fun _ _=>rfl)) qpa_nil))) (fun _ _=>rfl)))) qpss_nil)
   (qpss_cons (qps_if (QW.pt (qpw_and (qpt_cmpR op_ge (qpv 4) (qpe_op op_pow qpe_int qpe_int) (nomark _)) (qpw_and1 (qpt_cmpR op_lt (qpv 3) (qpe_callB call_len_seq rfl T.b_len bt_len (qpa_cons (qpe_ix ix_list (qpv 0) qpe_int (fun _ _=>rfl)) qpa_nil)) (nomark _))))) (qpss_cons (qps_asg (qpe_op op_fdiv (qpv 4) (qpv 1)) (qpg_sub (qpv 0) qpe_int set_list))
   (qpss_one (qps_ret (qpe_op op_mod (qpv 4) (qpv 1))))) qpss_nil)
   (qpss_cons (qps_set (i:=5) sc__law_draw.nd rfl (by walk_at "lc") (qpe_op op_mod (qpe_op op_mul (qpe_op op_add (qpe_op op_mod (qpv 4) qpe_int) qpe_int) (qpe_op op_add (qpe_op op_mul qpe_int (qpv 3)) qpe_int)) qpe_int))
   (qpss_cons (qps_set (i:=5) sc__law_draw.nd rfl (by walk_at "lc") (qpe_op op_mod (qpe_op op_mul (qpe_op op_mod (qpe_op op_add (qpe_op op_pow (qpv 5) qpe_int) (qpe_op op_mul qpe_int (qpv 3))) qpe_int) (qpe_op op_add (qpv 3) qpe_int)) qpe_int))
   (qpss_one (qps_ret (qpe_op op_mod (qpe_op op_fdiv (qpe_op op_mod (qpe_op op_pow (qpv 5) qpe_int) qpe_int) qpe_int) (qpv 1)))))))))))),?_⟩
 obtain ⟨a,c,cells,at',left,rfl,h1,h2,h3,h4,h5⟩:=T0
 have hac:a≠c:=by
  intro z;subst z;rw[h1]at h2
  cases cells with
  | nil=>rw[List.map_nil]at h2;cases h2
  | cons x r=>rw[List.map_cons]at h2;cases h2
 have fin:∀(x:Int) (at2 left2:Int) (o:HO),o=.lst [.ref c,.int at2,.int left2]→0≤at2→at2≤(n:Int) + 1→∀H',(H' a=some o)→(∀b u,H b=some u→b≠a→H' b=some u)→Q (.int (x % m)) H':=by
  intro x at2 left2 o e ha0 ha1 H' e1 e2
  subst e
  refine q _ _ (Int.emod_nonneg _ (by omega)) (Int.emod_lt_of_pos _ hm) ⟨a,c,cells,at2,left2,rfl,e1,e2 _ _ h2 hac.symm,ha0,by omega,h5⟩ ⟨fun b u hb hne=>e2 b u hb fun z=>hne (by rw[z]),fun c' ⟨a',r',e',z'⟩=>by
   cases e'
   rw[h1]at z'
   cases z'
   exact ⟨a,_,rfl,e1⟩⟩
 refine ⟨_,rfl,a,_,_,_,rfl,rfl,SqL.of h1,at2,_,_,rfl,rfl,_,rfl,?_⟩
 refine ite2 (fun _=>?_) (fun _=>?_)
 ·refine ⟨_,rfl,a,_,_,_,rfl,rfl,SqL.of h1,at2,_,rfl,_,_,rfl,rfl,hm,?_⟩
  refine ⟨_,rfl,a,_,_,_,rfl,rfl,SqL.of h1,at2,_,rfl,_,_,rfl,rfl,⟨hm,by omega⟩,_,rfl,a,_,_,2,rfl,rfl,h1,rfl,?_⟩
  refine ⟨_,rfl,?_⟩
  exact fin left at' (left / m) _ rfl h3 (by omega) _ upd_same fun b u hb hne=>by rw[upd_ne hne];exact hb
 refine ⟨_,rfl,a,_,_,_,rfl,rfl,SqL.of h1,at1,?_⟩
 refine ⟨_,rfl,_,_,rfl,rfl,_,rfl,a,_,_,1,rfl,rfl,h1,rfl,?_⟩
 have g1:∀o,(upd H a o) c=some (.lst (cells.map V.int)):=fun o=>by rw[upd_ne hac.symm];exact h2
 have hcell:0 < cells.length→∃v:Int,atI (cells.map V.int) (at' % (((cells.map V.int).length:Nat):Int))=some (.int v):=fun hp=>by
  have hp':(0:Int) < (((cells.map V.int).length:Nat):Int):=by rw[List.length_map];omega
  obtain ⟨v,e1,z,e2⟩:=atI_all (P:=fun x=>∃z:Int,x=V.int z) (xs:=cells.map V.int) (Int.emod_nonneg at' (by omega)) (Int.emod_lt_of_pos at' hp') (fun x hx=>by
   obtain ⟨z,_,e⟩:=List.mem_map.mp hx
   exact ⟨z,e.symm⟩)
  exact ⟨z,by rw[e1,e2]⟩
 refine ⟨_,rfl,a,_,_,_,rfl,rfl,SqL.of upd_same,at0,c,_,rfl,.inl (SqL.of (g1 _)),_,_,rfl,rfl,_,rfl,?_⟩
 refine ite2 (fun cc=>?_) (fun _=>?_)
 ·have hp : 0 < cells.length := by
   have:(0:Int) < (((cells.map V.int).length:Nat):Int):=of_decide_eq_true cc
   rw[List.length_map]at this;omega
  obtain ⟨v,hv⟩:=hcell hp
  refine ⟨_,rfl,a,_,_,_,rfl,rfl,SqL.of upd_same,at0,_,rfl,_,rfl,a,_,_,_,rfl,rfl,SqL.of upd_same,at0,c,_,rfl,.inl (SqL.of (g1 _)),_,_,rfl,rfl,(by rw[List.length_map];omega),c,_,_,_,rfl,rfl,SqL.of (g1 _),hv,?_⟩
  generalize v=cell
  refine ⟨_,rfl,_,_,rfl,rfl,⟨by decide,by decide,by decide⟩,_,_,rfl,rfl,_,rfl,?_⟩
  refine ite2 (fun _=>?_) (fun _=>?_)
  ·refine ⟨_,rfl,_,rfl,a,_,_,_,rfl,rfl,SqL.of upd_same,at0,c,_,rfl,.inl (SqL.of (g1 _)),_,_,rfl,rfl,_,rfl,?_⟩
   refine ite2 (fun _=>?_) (fun _=>?_)
   ·refine ⟨_,rfl,_,rfl,_,_,rfl,rfl,⟨hm,by omega⟩,_,rfl,a,_,_,2,rfl,rfl,upd_same,rfl,?_⟩
    refine ⟨_,rfl,_,rfl,_,_,rfl,rfl,hm,?_⟩
    exact fin cell (at' + 1) (cell / m) _ rfl (by omega) (by omega) _ upd_same fun b u hb hne=>by rw[upd_ne hne,upd_ne hne];exact hb
   ·refine ⟨_,rfl,_,_,rfl,rfl,(show (0:Int) < 2147483629 by decide),_,_,rfl,rfl,_,rfl,_,_,rfl,rfl,.inl ⟨by decide,by decide⟩,_,_,rfl,rfl,_,_,rfl,rfl,.inl ⟨by have:=mod64 cell (m:=2147483629) (by decide) (by decide);omega,by have:=Int.emod_lt_of_pos cell (show (0:Int) < 2147483629 by decide);omega⟩,_,_,rfl,rfl,(show (0:Int) < 2147483647 by decide),?_⟩
    refine ⟨_,rfl,_,_,rfl,rfl,⟨by decide,by decide,pow64 _ (by decide) (by decide)⟩,_,rfl,_,_,rfl,rfl,.inl ⟨by decide,by decide⟩,_,_,rfl,rfl,_,_,rfl,rfl,(show (0:Int) < 2147483647 by decide),_,rfl,_,_,rfl,rfl,_,_,rfl,rfl,.inl (mod64 _ (by decide) (by decide)),_,_,rfl,rfl,(show (0:Int) < 2147483629 by decide),?_⟩
    refine ⟨_,rfl,_,_,rfl,rfl,⟨by decide,by decide,pow64 _ (by decide) (by decide)⟩,_,_,rfl,rfl,(show (0:Int) < 2147483587 by decide),_,_,rfl,rfl,⟨by decide,by decide⟩,_,rfl,_,_,rfl,rfl,hm,?_⟩
    exact fin _ (at' + 1) left _ rfl (by omega) (by omega) _ upd_same fun b u hb hne=>by rw[upd_ne hne];exact hb
  ·refine iteF ?_
   refine ⟨_,rfl,_,_,rfl,rfl,(show (0:Int) < 2147483629 by decide),_,_,rfl,rfl,_,rfl,_,_,rfl,rfl,.inl ⟨by decide,by decide⟩,_,_,rfl,rfl,_,_,rfl,rfl,.inl ⟨by have:=mod64 cell (m:=2147483629) (by decide) (by decide);omega,by have:=Int.emod_lt_of_pos cell (show (0:Int) < 2147483629 by decide);omega⟩,_,_,rfl,rfl,(show (0:Int) < 2147483647 by decide),?_⟩
   refine ⟨_,rfl,_,_,rfl,rfl,⟨by decide,by decide,pow64 _ (by decide) (by decide)⟩,_,rfl,_,_,rfl,rfl,.inl ⟨by decide,by decide⟩,_,_,rfl,rfl,_,_,rfl,rfl,(show (0:Int) < 2147483647 by decide),_,rfl,_,_,rfl,rfl,_,_,rfl,rfl,.inl (mod64 _ (by decide) (by decide)),_,_,rfl,rfl,(show (0:Int) < 2147483629 by decide),?_⟩
   refine ⟨_,rfl,_,_,rfl,rfl,⟨by decide,by decide,pow64 _ (by decide) (by decide)⟩,_,_,rfl,rfl,(show (0:Int) < 2147483587 by decide),_,_,rfl,rfl,⟨by decide,by decide⟩,_,rfl,_,_,rfl,rfl,hm,?_⟩
   exact fin _ (at' + 1) left _ rfl (by omega) (by omega) _ upd_same fun b u hb hne=>by rw[upd_ne hne];exact hb
 ·refine ⟨_,rfl,_,_,rfl,rfl,⟨by decide,by decide,by decide⟩,_,_,rfl,rfl,_,rfl,?_⟩
  refine ite2 (fun _=>?_) (fun _=>?_)
  ·refine ⟨_,rfl,_,rfl,a,_,_,_,rfl,rfl,SqL.of upd_same,at0,c,_,rfl,.inl (SqL.of (g1 _)),_,_,rfl,rfl,_,rfl,?_⟩
   refine ite2 (fun _=>?_) (fun _=>?_)
   ·refine ⟨_,rfl,_,rfl,_,_,rfl,rfl,⟨hm,by omega⟩,_,rfl,a,_,_,2,rfl,rfl,upd_same,rfl,?_⟩
    refine ⟨_,rfl,_,rfl,_,_,rfl,rfl,hm,?_⟩
    exact fin (0:Int) (at' + 1) ((0:Int) / m) _ rfl (by omega) (by omega) _ upd_same fun b u hb hne=>by rw[upd_ne hne,upd_ne hne];exact hb
   ·refine ⟨_,rfl,_,_,rfl,rfl,(show (0:Int) < 2147483629 by decide),_,_,rfl,rfl,_,rfl,_,_,rfl,rfl,.inl ⟨by decide,by decide⟩,_,_,rfl,rfl,_,_,rfl,rfl,.inl ⟨by have:=mod64 (0:Int) (m:=2147483629) (by decide) (by decide);omega,by have:=Int.emod_lt_of_pos (0:Int) (show (0:Int) < 2147483629 by decide);omega⟩,_,_,rfl,rfl,(show (0:Int) < 2147483647 by decide),?_⟩
    refine ⟨_,rfl,_,_,rfl,rfl,⟨by decide,by decide,pow64 _ (by decide) (by decide)⟩,_,rfl,_,_,rfl,rfl,.inl ⟨by decide,by decide⟩,_,_,rfl,rfl,_,_,rfl,rfl,(show (0:Int) < 2147483647 by decide),_,rfl,_,_,rfl,rfl,_,_,rfl,rfl,.inl (mod64 _ (by decide) (by decide)),_,_,rfl,rfl,(show (0:Int) < 2147483629 by decide),?_⟩
    refine ⟨_,rfl,_,_,rfl,rfl,⟨by decide,by decide,pow64 _ (by decide) (by decide)⟩,_,_,rfl,rfl,(show (0:Int) < 2147483587 by decide),_,_,rfl,rfl,⟨by decide,by decide⟩,_,rfl,_,_,rfl,rfl,hm,?_⟩
    exact fin _ (at' + 1) left _ rfl (by omega) (by omega) _ upd_same fun b u hb hne=>by rw[upd_ne hne];exact hb
  ·refine iteF ?_
   refine ⟨_,rfl,_,_,rfl,rfl,(show (0:Int) < 2147483629 by decide),_,_,rfl,rfl,_,rfl,_,_,rfl,rfl,.inl ⟨by decide,by decide⟩,_,_,rfl,rfl,_,_,rfl,rfl,.inl ⟨by have:=mod64 (0:Int) (m:=2147483629) (by decide) (by decide);omega,by have:=Int.emod_lt_of_pos (0:Int) (show (0:Int) < 2147483629 by decide);omega⟩,_,_,rfl,rfl,(show (0:Int) < 2147483647 by decide),?_⟩
   refine ⟨_,rfl,_,_,rfl,rfl,⟨by decide,by decide,pow64 _ (by decide) (by decide)⟩,_,rfl,_,_,rfl,rfl,.inl ⟨by decide,by decide⟩,_,_,rfl,rfl,_,_,rfl,rfl,(show (0:Int) < 2147483647 by decide),_,rfl,_,_,rfl,rfl,_,_,rfl,rfl,.inl (mod64 _ (by decide) (by decide)),_,_,rfl,rfl,(show (0:Int) < 2147483629 by decide),?_⟩
   refine ⟨_,rfl,_,_,rfl,rfl,⟨by decide,by decide,pow64 _ (by decide) (by decide)⟩,_,_,rfl,rfl,(show (0:Int) < 2147483587 by decide),_,_,rfl,rfl,⟨by decide,by decide⟩,_,rfl,_,_,rfl,rfl,hm,?_⟩
   exact fin _ (at' + 1) left _ rfl (by omega) (by omega) _ upd_same fun b u hb hne=>by rw[upd_ne hne];exact hb
noncomputable def Fl21 (K:W.Frag) (num:Int) (C:Addr) (fs:List (Str×V)) (v u:V):Prop:=(num=0∧fs.lookup ("word":Str)=some v∧findIn K (.ref C) "word"=some none)∨(num=6∧fs.lookup ("row":Str)=some v∧findIn K (.ref C) "row"=some none)∨(num=1∧fs.lookup ("number":Str)=some v∧findIn K (.ref C) "number"=some none∧fs.lookup ("prime":Str)=some u∧findIn K (.ref C) "prime"=some none)∨(num=4∧fs.lookup ("word":Str)=some v∧findIn K (.ref C) "word"=some none∧fs.lookup ("thing":Str)=some u∧findIn K (.ref C) "thing"=some none)∨(num≠0∧num≠1∧num≠4∧num≠6∧fs.lookup ("word":Str)=some v∧findIn K (.ref C) "word"=some none∧fs.lookup ("place":Str)=some u∧findIn K (.ref C) "place"=some none)
noncomputable def sp__law_fields (K:W.Frag):Sp:=fun vs H Q _=>∃(num:Int) (ea dx C B:Addr) (fs:List (Str×V)) (fr:Bool) (v u:V),vs=[.int num,.ref ea]∧0≤num∧num < 7∧H ea=some (XO fr ea C (some dx))∧H dx=some (XD dx fs)∧XCls K C B∧Fl21 K num C fs v u∧∀p,H p=none→Q (.ref p) (upd H p (.tup (if num=0∨num=6 then [v] else [v,u])))
theorem sc__law_fields:FnScope ["_law_number","_law_e"] ["_law_number","_law_e"] (defScope s__law_fields):=⟨rfl,rfl,rfl,by decide +kernel,rfl,by decide +kernel,by decide +kernel⟩
theorem d__law_fields (T:Txt K mg):DefU P w K mg base "_law_fields" ["_law_number","_law_e"] 1 (sp__law_fields K):=by
 refine DefU.mkq T.f__law_fields sc__law_fields (fun vs H Q E h=>?_) (fun _ _ _ _ _ _ us hl=>match us,hl with | [_,_],_=>rfl) (fun f cdv A outer s H vs Q E hr h=>?_)
 ·obtain ⟨num,ea,dx,C,B,fs,fr,v,u,rfl,_⟩:=h
  rfl
 obtain ⟨num,ea,dx,C,B,fs,fr,v,u,rfl,n0,n1,e1,e2,xc,hf,q⟩:=h
 refine ⟨_, (qpss_cons (qps_if (qpt_cmpR op_eq (qpv 0) qpe_int (nomark _)) (qpss_one (qps_ret (qpe_tup (qpa_cons (qpe_xfld (K := K) rfl (qpv 1) rfl) qpa_nil)))) qpss_nil)
   (qpss_cons (qps_if (qpt_cmpR op_eq (qpv 0) qpe_int (nomark _)) (qpss_one (qps_ret (qpe_tup (qpa_cons (qpe_xfld (K:=K) rfl (qpv 1) rfl) (qpa_cons (qpe_xfld (K:=K) rfl (qpv 1) rfl) qpa_nil))))) qpss_nil)
   (qpss_cons (qps_if (qpt_cmpR op_eq (qpv 0) qpe_int (nomark _)) (qpss_one (qps_ret (qpe_tup (qpa_cons (qpe_xfld (K:=K) rfl (qpv 1) rfl) (qpa_cons (qpe_xfld (K:=K) rfl (qpv 1) rfl) qpa_nil))))) qpss_nil)
   (qpss_one (qps_ret (qpe_ifExp (qpt_cmpR op_eq (qpv 0) qpe_int (nomark _)) (qpe_tup (qpa_cons (qpe_xfld (K:=K) rfl (qpv 1) rfl) qpa_nil)) (qpe_tup (qpa_cons (qpe_xfld (K:=K) rfl (qpv 1) rfl) (qpa_cons (qpe_xfld (K:=K) rfl (qpv 1) rfl) qpa_nil))))))))),?_⟩
 refine ⟨_,rfl,rfl,_,rfl,?_⟩
 refine ite2 (fun c=>?_) (fun c0=>?_)
 ·have c':num=0:=by simpa using c
  rcases hf with ⟨_,h1,h2⟩ | ⟨h,_⟩ | ⟨h,_⟩ | ⟨h,_⟩ | ⟨h,_⟩
  ·refine ⟨_,rfl,ea,C,B,dx,fs,fr,v,rfl,e1,e2,xc,h2,h1,?_⟩
   refine ⟨len1,fun p hp=>?_⟩
   have:=q p hp
   rw[if_pos (.inl c')]at this;exact this
  all_goals omega
 simp at c0
 refine ⟨_,rfl,rfl,_,rfl,?_⟩
 refine ite2 (fun c=>?_) (fun c1=>?_)
 ·have c':num=1:=by simpa using c
  rcases hf with ⟨h,_⟩ | ⟨h,_⟩ | ⟨_,h1,h2,h3,h4⟩ | ⟨h,_⟩ | ⟨_,h,_⟩
  ·omega
  ·omega
  ·refine ⟨_,rfl,ea,C,B,dx,fs,fr,v,rfl,e1,e2,xc,h2,h1,?_⟩
   refine ⟨_,rfl,ea,C,B,dx,fs,fr,u,rfl,e1,e2,xc,h4,h3,?_⟩
   refine ⟨len2,fun p hp=>?_⟩
   have:=q p hp
   rw[if_neg (by omega)]at this;exact this
  all_goals omega
 simp at c1
 refine ⟨_,rfl,rfl,_,rfl,?_⟩
 refine ite2 (fun c=>?_) (fun c4=>?_)
 ·have c':num=4:=by simpa using c
  rcases hf with ⟨h,_⟩ | ⟨h,_⟩ | ⟨h,_⟩ | ⟨_,h1,h2,h3,h4⟩ | ⟨_,_,h,_⟩
  ·omega
  ·omega
  ·omega
  ·refine ⟨_,rfl,ea,C,B,dx,fs,fr,v,rfl,e1,e2,xc,h2,h1,?_⟩
   refine ⟨_,rfl,ea,C,B,dx,fs,fr,u,rfl,e1,e2,xc,h4,h3,?_⟩
   refine ⟨len2,fun p hp=>?_⟩
   have:=q p hp
   rw[if_neg (by omega)]at this;exact this
  ·omega
 simp at c4
 refine ⟨_,rfl,rfl,_,rfl,?_⟩
 refine ite2 (fun c=>?_) (fun c6=>?_)
 ·have c':num=6:=by simpa using c
  rcases hf with ⟨h,_⟩ | ⟨_,h1,h2⟩ | ⟨h,_⟩ | ⟨h,_⟩ | ⟨_,_,_,h,_⟩
  ·omega
  ·refine ⟨_,rfl,ea,C,B,dx,fs,fr,v,rfl,e1,e2,xc,h2,h1,?_⟩
   refine ⟨len1,fun p hp=>?_⟩
   have:=q p hp
   rw[if_pos (.inr c')]at this;exact this
  all_goals omega
 simp at c6
 rcases hf with ⟨h,_⟩ | ⟨h,_⟩ | ⟨h,_⟩ | ⟨h,_⟩ | ⟨_,_,_,_,h1,h2,h3,h4⟩
 ·omega
 ·omega
 ·omega
 ·omega
 refine ⟨_,rfl,ea,C,B,dx,fs,fr,v,rfl,e1,e2,xc,h2,h1,?_⟩
 refine ⟨_,rfl,ea,C,B,dx,fs,fr,u,rfl,e1,e2,xc,h4,h3,?_⟩
 refine ⟨len2,fun p hp=>?_⟩
 have:=q p hp
 rw[if_neg (by omega)]at this;exact this
noncomputable def sp__law_great (K:W.Frag):Sp:=fun vs H Q _=>∃(t:V) (n:Nat) (m:Int),vs=[t,.int m]∧Tp H t n∧n≤2 ^ 30∧0≤m∧m≤40∧∀r H',0≤r→r < 10 ^ (6 * m.toNat)→Tp H' t (n + 40)→SB t H H'→Q (.int r) H'
theorem sc__law_great:FnScope ["_law_tape_here","_law_many","_law_number","_law_k"] ["_law_tape_here","_law_many"] (defScope s__law_great):=⟨rfl,rfl,rfl,by decide +kernel,rfl,by decide +kernel,by decide +kernel⟩
theorem d__law_great (T:Txt K mg):Def P w K mg base "_law_great" ["_law_tape_here","_law_many"] 2 (sp__law_great K):=by
 refine Def.mkq T.f__law_great sc__law_great (fun vs H Q E h=>?_) (fun _ _ _ _ _ _ us hl=>match us,hl with | [_,_],_=>rfl) (fun f cdv A outer s H vs Q E hr h=>?_)
 ·obtain ⟨t,n,m,rfl,_⟩:=h
  rfl
 obtain ⟨t,n,m,rfl,T0,hn,hm,hm2,q⟩:=h
 refine ⟨_, (qpss_cons (qps_set (i := 2) sc__law_great.nd rfl (by walk_at "lc") qpe_int)
   (qpss_cons (qps_for PassesOwn.never rfl (qpi_range1 rfl T.b_range (qpa_cons (qpv 1) qpa_nil)) (qpg_name (i:=3) sc__law_great.nd rfl (by walk_at "lc")) (qpss_one (qps_set (i:=2) sc__law_great.nd rfl (by walk_at "lc") (qpe_op op_add (qpe_op op_mul (qpv 2) (qpe_op op_pow qpe_int qpe_int)) (qpe_cd (d__law_draw T) hr (qpa_cons (qpv 0) (qpa_cons (qpe_op op_pow qpe_int qpe_int) qpa_nil)))))))
   (qpss_one (qps_ret (qpv 2))))),?_⟩
 refine ⟨_,rfl,m,rfl,by omega,by omega,?_⟩
 refine for_range (lo:=0) (n:=m.toNat) (fun i σ H2=>∃(r:Int) (z:Option V),σ=[some t,some (.int m),some (.int r),z]∧0≤r∧r < 10 ^ (6 * i)∧Tp H2 t (n + i)∧SB t H H2) ⟨0,none,rfl,Int.le_refl _,by decide,T0,SB.refl _ _⟩ ?_ ?_
 ·rintro i σ H2 hi ⟨r,z,rfl,h0,h1,T1,S1⟩
  refine ⟨_,rfl,_,_,rfl,rfl,⟨by decide,by decide,by decide⟩,_,_,rfl,rfl,.inr ⟨by decide,by decide⟩,?_⟩
  refine ⟨_,rfl,_,_,rfl,rfl,⟨by decide,by decide,by decide⟩,t,n + i,_,rfl,T1,by omega,by decide,by decide,fun d H3 d0 d1 T2 S2=>⟨_,_,rfl,rfl,?_⟩⟩
  obtain ⟨g0,g1⟩:=great_step (k:=i) h0 h1 d0 d1
  exact ⟨_,_,rfl,g0,g1,T2,S1.trans S2⟩
 ·rintro σ H2 ⟨r,z,rfl,h0,h1,T1,S1⟩
  exact ⟨_,rfl,q r H2 h0 h1 (T1.mono (by omega)) S1⟩
theorem sb_dom {t:V} {A B:Hp} {n:Nat} {b:Addr} (T:Tp A t n) (k:SB t A B) (e:B b=none):A b=none:=by
 cases h:A b with
 | none=>rfl
 | some o=>
  by_cases z:V.ref b=t
  ·obtain ⟨a,c,cells,at',left,rfl,h1,h2,h3⟩:=T
   cases z
   obtain ⟨a',r',e',h'⟩:=k.cell c ⟨_,_,rfl,h1⟩
   cases e'
   rw[h']at e;cases e
  ·rw[k.old b o h z]at e;cases e
noncomputable def Th21 (K:W.Frag) (H:Hp) (v:V):Prop:=(∃d,tpd d=true∧Dv K H v d∧Sw 2 3000 d∧∀p,v=.ref p→∃us,Rd H p (.tup us))∨(∃p n,v=.ref p∧H p=some (.lst [.int n])∧Bt 100 n)∨∃p n,v=.ref p∧H p=some (.dK [(.inr "a",.int n)])∧Bt 100 n
noncomputable def sp__law_thing (K:W.Frag):Sp:=fun vs H Q _=>∃(t:V) (n:Nat),vs=[t]∧Tp H t n∧n≤2 ^ 20∧∀v H',Tp H' t (n + 43)→SB t H H'→Th21 K H' v→(∀p,v=.ref p→H p=none)→Q v H'
theorem sc__law_thing:FnScope ["_law_tape_here","_law_way","_law_number"] ["_law_tape_here"] (defScope s__law_thing):=⟨rfl,rfl,rfl,by decide +kernel,rfl,by decide +kernel,by decide +kernel⟩
theorem d__law_thing (T:Txt K mg):Def P w K mg base "_law_thing" ["_law_tape_here"] 3 (sp__law_thing K):=by
 refine Def.mkq T.f__law_thing sc__law_thing (fun vs H Q E h=>?_) (fun _ _ _ _ _ _ us hl=>match us,hl with | [_],_=>rfl) (fun f cdv A outer s H vs Q E hr h=>?_)
 ·obtain ⟨t,n,rfl,_⟩:=h
  rfl
 obtain ⟨t,n,rfl,T1,hn,q⟩:=h
 refine ⟨_, (qpss_cons (qps_set (i := 1) sc__law_thing.nd rfl (by walk_at "lc") (qpe_cd (d__law_draw T) hr (qpa_cons (qpv 0) (qpa_cons qpe_int qpa_nil))))
   (qpss_cons (qps_set (i:=2) sc__law_thing.nd rfl (by walk_at "lc") (qpe_op op_mul (qpe_cd (d__law_great T) hr (qpa_cons (qpv 0) (qpa_cons (qpe_op op_add qpe_int (qpe_cd (d__law_draw T) hr (qpa_cons (qpv 0) (qpa_cons qpe_int qpa_nil)))) qpa_nil))) (qpe_ix ix_list (qpe_lst (qpa_cons qpe_int (qpa_cons (qpe_un un_neg qpe_int) qpa_nil))) (qpe_cd (d__law_draw T) hr (qpa_cons (qpv 0) (qpa_cons qpe_int qpa_nil))) (fun _ _=>rfl))))
   (qpss_one (qps_ret (qpe_ix ix_list (qpe_lst (qpa_cons (qpv 2) (qpa_cons qpe_str (qpa_cons qpe_str (qpa_cons qpe_non (qpa_cons qpe_bl (qpa_cons qpe_bl (qpa_cons qpe_int (qpa_cons (qpe_tup (qpa_cons qpe_int (qpa_cons (qpe_tup (qpa_cons (qpv 2) (qpa_cons qpe_str qpa_nil))) qpa_nil))) (qpa_cons (qpe_lst (qpa_cons (qpv 2) qpa_nil)) (qpa_cons (qpe_disp (qpps_cons qpe_str (qpv 2) qpps_nil)) qpa_nil))))))))))) (qpv 1) (fun _ _=>rfl)))))),?_⟩
 refine ⟨_,rfl,t,n,10,rfl,T1,by omega,by decide,by decide,fun way H2 w0 w1 T2 S2=>?_⟩
 refine ⟨_,rfl,_,rfl,t,_,5,rfl,T2,by omega,by decide,by decide,fun k1 H3 k0 k1' T3 S3=>⟨_,_,rfl,rfl,?_⟩⟩
 refine ⟨t,_,1 + k1,rfl,T3,by omega,by omega,by omega,fun g H4 g0 g1 T4 S4=>?_⟩
 refine ⟨_,rfl,len2,fun l hl=>?_⟩
 have T4':=T4.same (same_new hl (.lst [.int 1,.int (-1)]))
 have nl:=T4.ne hl
 refine ⟨_,rfl,t,_,2,rfl,T4',by omega,by decide,by decide,fun r H5 r0 r1 T5 S5=>?_⟩
 have l5:=S5 l _ upd_same nl
 obtain ⟨s,es,hs⟩:∃s:Int,atI [V.int 1,V.int (-1)] r=some (.int s)∧(s=1∨s=-1):=by
  refine sign_cases (P:=fun r=>∃s:Int,atI [V.int 1,V.int (-1)] r=some (.int s)∧(s=1∨s=-1)) r0 r1 ⟨1,rfl,.inl rfl⟩ ⟨-1,rfl,.inr rfl⟩
 refine ⟨l,_,_,_,rfl,rfl,SqL.of l5,es,_,_,rfl,rfl,.inr ⟨by omega,by omega⟩,?_⟩
 have gb:Bt 100 (g * s):=by
  have z:g < 10 ^ (6 * 5):=Int.lt_of_lt_of_le g1 (pow10_mono (by omega))
  refine Bt.of_lt (10 ^ (6 * 5)) ?_ ?_ (ten_two 5)
  ·rcases hs with rfl | rfl <;> omega
  ·rcases hs with rfl | rfl <;> omega
 have S05:SB t H H5:=((S2.trans S3).trans S4).trans ((same_new hl _).sb.trans S5)
 refine ⟨_,rfl,_,rfl,len2,fun p1 f1=>⟨len2,fun p2 f2=>⟨_,rfl,len1,fun p3 f3 p4 f4=>?_⟩⟩⟩
 refine ⟨_,rfl,upd_same,[(.inr "a",.int (g * s))],rfl,by show 1≤15;decide,?_⟩
 rw[upd_upd]
 refine ⟨by show 10≤sizeLine;decide,fun p5 f5=>?_⟩
 have f5':=f5
 generalize hL:[V.int (g * s),V.str "shape",V.str "",V.non,V.bl true,V.bl false,V.int 0,V.ref p2,V.ref p3,V.ref p4]=L
 have u1:=same_new f1 (.tup [V.int (g * s),V.str "a"])
 have u2:=same_new f2 (.tup [V.int 1,V.ref p1])
 have u3:=same_new f3 (.lst [V.int (g * s)])
 have u4:=same_new f4 (.dK [(.inr "a",.int (g * s))])
 have u5:=same_new f5 (.lst L)
 have z2:=u1.none f2
 have z3:=u1.none (u2.none f3)
 have z4:=u1.none (u2.none (u3.none f4))
 have fr:∀p,H5 p=none→H p=none:=fun p e=>sb_dom T1 S05 e
 have ex:∀HF:Hp,Same (upd (upd (upd (upd H5 p1 (.tup [V.int (g * s),V.str "a"])) p2 (.tup [V.int 1,V.ref p1])) p3 (.lst [V.int (g * s)])) p4 (.dK [(.inr "a",.int (g * s))])) HF→∃v,atI L way=some v∧Th21 K HF v∧∀p,v=.ref p→H p=none:=fun HF u5=>by
  refine atI_all (P:=fun v=>Th21 K HF v∧∀p,v=.ref p→H p=none) w0 (by rw[←hL];show way < 10;omega) ?_
  intro v hv
  rw[←hL]at hv
  simp only[List.mem_cons,List.not_mem_nil,or_false]at hv
  rcases hv with rfl | rfl | rfl | rfl | rfl | rfl | rfl | rfl | rfl | rfl
  ·exact ⟨.inl ⟨.int _,rfl,.int _,(Sw.intB gb (by decide) (by decide)).mono (by decide) (by decide),(fun p e=>by cases e)⟩,(fun p e=>by cases e)⟩
  ·exact ⟨.inl ⟨.str _,rfl,.str _,(Sw.str (v:=20) (by decide +kernel)).mono (by decide) (by decide),(fun p e=>by cases e)⟩,(fun p e=>by cases e)⟩
  ·exact ⟨.inl ⟨.str _,rfl,.str _,(Sw.str (v:=20) (by decide +kernel)).mono (by decide) (by decide),(fun p e=>by cases e)⟩,(fun p e=>by cases e)⟩
  ·exact ⟨.inl ⟨.none,rfl,.non,Sw.non.mono (by decide) (by decide),(fun p e=>by cases e)⟩,(fun p e=>by cases e)⟩
  ·exact ⟨.inl ⟨.bool _,rfl,.bl _,(Sw.bool _).mono (by decide) (by decide),(fun p e=>by cases e)⟩,(fun p e=>by cases e)⟩
  ·exact ⟨.inl ⟨.bool _,rfl,.bl _,(Sw.bool _).mono (by decide) (by decide),(fun p e=>by cases e)⟩,(fun p e=>by cases e)⟩
  ·exact ⟨.inl ⟨.int _,rfl,.int _,(Sw.intB (m:=1) (by decide) (by decide) (by decide)).mono (by decide) (by decide),(fun p e=>by cases e)⟩,(fun p e=>by cases e)⟩
  ·refine ⟨.inl ⟨.tuple [.int 1,.tuple [.int (g * s),.str "a"]],rfl,.tup (SqT.of (u5 _ _ (u4 _ _ (u3 _ _ upd_same)))) (.cons (.int _) (.cons (.tup (SqT.of (u5 _ _ (u4 _ _ (u3 _ _ (u2 _ _ upd_same))))) (.cons (.int _) (.cons (.str _) .nil))) .nil)),?_,(fun p e=>by cases e;exact ⟨_,.inl (u5 _ _ (u4 _ _ (u3 _ _ upd_same)))⟩)⟩,(fun p e=>by cases e;exact fr _ z2)⟩
   have i1:Sw 0 200 (.int (g * s)):=(Sw.intB gb (by decide) (by decide)).mono (by decide) (by decide)
   have i2:Sw 0 200 (.str "a"):=(Sw.str (v:=20) (by decide +kernel)).mono (by decide) (by decide)
   have i3:=Sw.pair i1 i2
   have i4:Sw 1 (2 * (200 + 2) + 4) (.int 1):=(Sw.intB (m:=1) (by decide) (by decide) (by decide)).mono (by decide) (by decide)
   exact (Sw.pair i4 i3).mono (by decide) (by decide)
  ·exact ⟨.inr (.inl ⟨p3,_,rfl,u5 _ _ (u4 _ _ upd_same),gb⟩),(fun p e=>by cases e;exact fr _ z3)⟩
  ·exact ⟨.inr (.inr ⟨p4,_,rfl,u5 _ _ upd_same,gb⟩),(fun p e=>by cases e;exact fr _ z4)⟩
 obtain ⟨v,ev,hv,hfr⟩:=ex _ u5
 have uA:=u1.trans (u2.trans (u3.trans (u4.trans u5)))
 exact ⟨_,rfl,p5,_,_,v,rfl,rfl,SqL.of upd_same,ev,q v _ ((T5.same uA).mono (by omega)) (S05.trans uA.sb) hv hfr⟩
noncomputable def Rs21 (K:W.Frag) (num:Int) (v u:V) (H:Hp) (E:XK):Prop:=(num=0→RaisesW K "NoShare" [("word",v)] H E)∧(num=1→RaisesW K "NoRest" (putF "prime" u [("number",v)]) H E)∧(num=2→RaisesW K "NoRow" (putF "place" u [("word",v)]) H E)∧(num=3→RaisesW K "NoPaper" (putF "place" u [("word",v)]) H E)∧(num=4→RaisesW K "NoTurn" (putF "thing" u [("word",v)]) H E)∧(num=5→RaisesW K "NoText" (putF "place" u [("word",v)]) H E)∧(num=6→RaisesW K "NoLine" [("row",v)] H E)
noncomputable def sp__law_raise_first (K:W.Frag):Sp:=fun vs H _ E=>∃(num:Int) (v u:V),vs=[.int num,v,u]∧0≤num∧num < 4∧Rs21 K num v u H E
theorem sc__law_raise_first:FnScope ["_law_number","_law_one","_law_other"] ["_law_number","_law_one","_law_other"] (defScope s__law_raise_first):=⟨rfl,rfl,rfl,by decide +kernel,rfl,by decide +kernel,by decide +kernel⟩
theorem dx__law_raise_first (T:Txt K mg):DefX P w K mg base "_law_raise_first" ["_law_number","_law_one","_law_other"] 3 (sp__law_raise_first K):=by
 refine DefX.mkq T.f__law_raise_first sc__law_raise_first (fun vs H Q E h=>?_) (fun _ _ _ _ _ _ us hl=>match us,hl with | [_,_,_],_=>rfl) (fun f cdv A outer s H vs Q E hr h=>?_)
 ·obtain ⟨num,v,u,rfl,_⟩:=h
  rfl
 obtain ⟨num,v,u,rfl,n0,n1,k⟩:=h
 obtain ⟨C_NoPaper,B_NoPaper,fI_NoPaper,fd_NoPaper,S_NoPaper⟩:=T.x_NoPaper
 obtain ⟨C_NoRest,B_NoRest,fI_NoRest,fd_NoRest,S_NoRest⟩:=T.x_NoRest
 obtain ⟨C_NoRow,B_NoRow,fI_NoRow,fd_NoRow,S_NoRow⟩:=T.x_NoRow
 obtain ⟨C_NoShare,B_NoShare,fI_NoShare,fd_NoShare,S_NoShare⟩:=T.x_NoShare
 refine ⟨_, (qpss_cons (qps_if (qpt_cmpR op_eq (qpv 0) qpe_int (nomark _)) (qpss_one (qps_raise S_NoShare.s (i_NoShare S_NoShare) (hr.mono (by decide)) (S_NoShare.s.f.binds (fun _ _ _ _ _ _ us hl => match us, hl with | [_, _], _ => rfl)) raise_def (qpa_cons (qpv 1) qpa_nil))) qpss_nil)
   (qpss_cons (qps_if (qpt_cmpR op_eq (qpv 0) qpe_int (nomark _)) (qpss_one (qps_raise S_NoRest.s (i_NoRest S_NoRest) (hr.mono (by decide)) (S_NoRest.s.f.binds (fun _ _ _ _ _ _ us hl=>match us,hl with | [_,_,_],_=>rfl)) raise_def (qpa_cons (qpv 1) (qpa_cons (qpv 2) qpa_nil)))) qpss_nil)
   (qpss_cons (qps_if (qpt_cmpR op_eq (qpv 0) qpe_int (nomark _)) (qpss_one (qps_raise S_NoRow.s (i_NoRow S_NoRow) (hr.mono (by decide)) (S_NoRow.s.f.binds (fun _ _ _ _ _ _ us hl=>match us,hl with | [_,_,_],_=>rfl)) raise_def (qpa_cons (qpv 1) (qpa_cons (qpv 2) qpa_nil)))) qpss_nil)
   (qpss_one (qps_raise S_NoPaper.s (i_NoPaper S_NoPaper) (hr.mono (by decide)) (S_NoPaper.s.f.binds (fun _ _ _ _ _ _ us hl=>match us,hl with | [_,_,_],_=>rfl)) raise_def (qpa_cons (qpv 1) (qpa_cons (qpv 2) qpa_nil))))))),?_⟩
 refine ⟨_,rfl,rfl,_,rfl,?_⟩
 refine ite2 (fun c=>?_) (fun c0=>?_)
 ·exact ⟨_,rfl,rd_raise1 S_NoShare (by simp) (k.1 (by simpa using c))⟩
 refine ⟨_,rfl,rfl,_,rfl,?_⟩
 refine ite2 (fun c=>?_) (fun c1=>?_)
 ·exact ⟨_,rfl,_,rfl,rd_raise2 S_NoRest (by simp) (by simp) (k.2.1 (by simpa using c))⟩
 refine ⟨_,rfl,rfl,_,rfl,?_⟩
 refine ite2 (fun c=>?_) (fun c2=>?_)
 ·exact ⟨_,rfl,_,rfl,rd_raise2 S_NoRow (by simp) (by simp) (k.2.2.1 (by simpa using c))⟩
 simp at c0 c1 c2
 exact ⟨_,rfl,_,rfl,rd_raise2 S_NoPaper (by simp) (by simp) (k.2.2.2.1 (by omega))⟩
noncomputable def sp__law_raise (K:W.Frag):Sp:=fun vs H _ E=>∃(num:Int) (v u:V),vs=[.int num,v,u]∧0≤num∧num < 7∧Rs21 K num v u H E
theorem sc__law_raise:FnScope ["_law_number","_law_one","_law_other"] ["_law_number","_law_one","_law_other"] (defScope s__law_raise):=⟨rfl,rfl,rfl,by decide +kernel,rfl,by decide +kernel,by decide +kernel⟩
theorem dx__law_raise (T:Txt K mg):DefX P w K mg base "_law_raise" ["_law_number","_law_one","_law_other"] 4 (sp__law_raise K):=by
 refine DefX.mkq T.f__law_raise sc__law_raise (fun vs H Q E h=>?_) (fun _ _ _ _ _ _ us hl=>match us,hl with | [_,_,_],_=>rfl) (fun f cdv A outer s H vs Q E hr h=>?_)
 ·obtain ⟨num,v,u,rfl,_⟩:=h
  rfl
 obtain ⟨num,v,u,rfl,n0,n1,k⟩:=h
 obtain ⟨C_NoLine,B_NoLine,fI_NoLine,fd_NoLine,S_NoLine⟩:=T.x_NoLine
 obtain ⟨C_NoText,B_NoText,fI_NoText,fd_NoText,S_NoText⟩:=T.x_NoText
 obtain ⟨C_NoTurn,B_NoTurn,fI_NoTurn,fd_NoTurn,S_NoTurn⟩:=T.x_NoTurn
 refine ⟨_, (qpss_cons (qps_if (qpt_cmpR op_lt (qpv 0) qpe_int (nomark _)) (qpss_one (qps_expr (qpe_cdx (dx__law_raise_first T) hr pass_def (qpa_cons (qpv 0) (qpa_cons (qpv 1) (qpa_cons (qpv 2) qpa_nil)))))) qpss_nil)
   (qpss_cons (qps_if (qpt_cmpR op_eq (qpv 0) qpe_int (nomark _)) (qpss_one (qps_raise S_NoTurn.s (i_NoTurn S_NoTurn) (hr.mono (by decide)) (S_NoTurn.s.f.binds (fun _ _ _ _ _ _ us hl=>match us,hl with | [_,_,_],_=>rfl)) raise_def (qpa_cons (qpv 1) (qpa_cons (qpv 2) qpa_nil)))) qpss_nil)
   (qpss_cons (qps_if (qpt_cmpR op_eq (qpv 0) qpe_int (nomark _)) (qpss_one (qps_raise S_NoText.s (i_NoText S_NoText) (hr.mono (by decide)) (S_NoText.s.f.binds (fun _ _ _ _ _ _ us hl=>match us,hl with | [_,_,_],_=>rfl)) raise_def (qpa_cons (qpv 1) (qpa_cons (qpv 2) qpa_nil)))) qpss_nil)
   (qpss_one (qps_raise S_NoLine.s (i_NoLine S_NoLine) (hr.mono (by decide)) (S_NoLine.s.f.binds (fun _ _ _ _ _ _ us hl=>match us,hl with | [_,_],_=>rfl)) raise_def (qpa_cons (qpv 1) qpa_nil)))))),?_⟩
 refine ⟨_,rfl,_,_,rfl,rfl,_,rfl,?_⟩
 refine ite2 (fun c=>?_) (fun c0=>?_)
 ·have c':num < 4:=of_decide_eq_true c
  exact ⟨_,rfl,_,rfl,_,rfl,num,v,u,rfl,n0,c',k⟩
 simp at c0
 refine ⟨_,rfl,rfl,_,rfl,?_⟩
 refine ite2 (fun c=>?_) (fun c4=>?_)
 ·exact ⟨_,rfl,_,rfl,rd_raise2 S_NoTurn (by simp) (by simp) (k.2.2.2.2.1 (by simpa using c))⟩
 refine ⟨_,rfl,rfl,_,rfl,?_⟩
 refine ite2 (fun c=>?_) (fun c5=>?_)
 ·exact ⟨_,rfl,_,rfl,rd_raise2 S_NoText (by simp) (by simp) (k.2.2.2.2.2.1 (by simpa using c))⟩
 simp at c4 c5
 exact ⟨_,rfl,rd_raise1 S_NoLine (by simp) (k.2.2.2.2.2.2 (by omega))⟩
noncomputable def isDcB:PyData→Bool
 | .dict _=>true
 | _=>false
theorem kit_dc {K:W.Frag} (d:PyData):kitOne K (.type (tyName d)) (.type "dict")=some (isDcB d):=by cases d <;> rfl
inductive Kd21 where
 | pl (d:PyData)
 | ls (p:Addr) (n:Int)
 | dc (p:Addr) (n:Int)
noncomputable def Kd21.at (k:Kd21) (K:W.Frag) (H:Hp) (v:V) (b:Bool):Prop:=match k with
 | .pl d=>tpd d=true∧Dv K H v d∧Sw 2 3000 d∧∀p,v=.ref p→∃us,Rd H p (.tup us)
 | .ls p n=>v=.ref p∧H p=some (.lst (if b=true then [.int n,.int 0] else [.int n]))∧Bt 100 n
 | .dc p n=>v=.ref p∧H p=some (.dK (if b=true then [(.inr "a",.int n),(.inr "b",.int 0)] else [(.inr "a",.int n)]))∧Bt 100 n
noncomputable def Kd21.dat (b:Bool):Kd21→PyData
 | .pl d=>d
 | .ls _ n=>.list (if b=true then [.int n,.int 0] else [.int n])
 | .dc _ n=>.dict (if b=true then [(.str "a",.int n),(.str "b",.int 0)] else [(.str "a",.int n)])
theorem th_kd {K:W.Frag} {H:Hp} {v:V} (h:Th21 K H v):∃k:Kd21,k.at K H v false:=by
 rcases h with ⟨d,h⟩ | ⟨p,n,h⟩ | ⟨p,n,h⟩
 ·exact ⟨.pl d,h⟩
 ·exact ⟨.ls p n,h⟩
 ·exact ⟨.dc p n,h⟩
theorem kd_dv {K:W.Frag} {H:Hp} {v:V} {b:Bool} {k:Kd21} (h:k.at K H v b):Dv K H v (k.dat b):=by
 cases k with
 | pl d=>exact h.2.1
 | ls p n=>
  obtain ⟨rfl,h,_⟩:=h
  cases b
  ·exact .lst (SqL.of h) (.cons (.int _) .nil)
  ·exact .lst (SqL.of h) (.cons (.int _) (.cons (.int _) .nil))
 | dc p n=>
  obtain ⟨rfl,h,_⟩:=h
  cases b
  ·exact .dct (kvs:=[(.inr "a",.int n)]) (kds:=[(.str "a",.int n)]) h (.cons (.str _) .nil) (.cons (.int _) .nil)
  ·exact .dct (kvs:=[(.inr "a",.int n),(.inr "b",.int 0)]) (kds:=[(.str "a",.int n),(.str "b",.int 0)]) h (.cons (.str _) (.cons (.str _) .nil)) (.cons (.int _) (.cons (.int _) .nil))
theorem kd_sw {K:W.Frag} {H:Hp} {v:V} {b:Bool} {k:Kd21} (h:k.at K H v b):Sw 3 5000 (k.dat b):=by
 have i0:Sw 0 200 (.int 0):=(Sw.intB (m:=1) (by decide) (by decide) (by decide)).mono (by decide) (by decide)
 have sa:∀x:Str,(PyData.str x).shown.length≤20→Sw 0 200 (.str x):=fun x hx=>(Sw.str (v:=20) hx).mono (by decide) (by decide)
 cases k with
 | pl d=>exact h.2.2.1.mono (by decide) (by decide)
 | ls p n=>
  have i1:Sw 0 200 (.int n):=(Sw.intB h.2.2 (by decide) (by decide)).mono (by decide) (by decide)
  cases b
  ·exact (Sw.lst (n:=0) (v:=200) (ds:=[.int n]) fun d hd=>by rw[List.mem_singleton.mp hd];exact i1).mono (by decide) (Nat.le_of_ble_eq_true rfl)
  ·exact (Sw.lst (n := 0) (v := 200) (ds := [.int n, .int 0]) fun d hd => by
    simp only[List.mem_cons,List.not_mem_nil,or_false]at hd
    rcases hd with rfl | rfl
    ·exact i1
    ·exact i0).mono (by decide) (Nat.le_of_ble_eq_true rfl)
 | dc p n=>
  have i1:Sw 0 200 (.int n):=(Sw.intB h.2.2 (by decide) (by decide)).mono (by decide) (by decide)
  cases b
  ·exact (Sw.dct (n:=0) (v:=200) (kds:=[(.str "a",.int n)]) fun q hq=>by rw[List.mem_singleton.mp hq];exact ⟨sa _ (by decide +kernel),i1⟩).mono (by decide) (Nat.le_of_ble_eq_true rfl)
  ·exact (Sw.dct (n := 0) (v := 200) (kds := [(.str "a", .int n), (.str "b", .int 0)]) fun q hq => by
    simp only[List.mem_cons,List.not_mem_nil,or_false]at hq
    rcases hq with rfl | rfl
    ·exact ⟨sa _ (by decide +kernel),i1⟩
    ·exact ⟨sa _ (by decide +kernel),i0⟩).mono (by decide) (Nat.le_of_ble_eq_true rfl)
theorem kd_same {K:W.Frag} {H H':Hp} {v:V} {b:Bool} {k:Kd21} (s:Same H H') (h:k.at K H v b):k.at K H' v b:=by
 cases k with
 | pl d=>exact ⟨h.1,h.2.1.mono s,h.2.2.1,fun p e=>let ⟨us,q⟩:=h.2.2.2 p e;⟨us,q.imp (fun z=>s _ _ z) fun ⟨o,z⟩=>⟨o,s _ _ z⟩⟩⟩
 | ls p n=>exact ⟨h.1,s _ _ h.2.1,h.2.2⟩
 | dc p n=>exact ⟨h.1,s _ _ h.2.1,h.2.2⟩
theorem kd_keep {K:W.Frag} {H H':Hp} {v:V} {b:Bool} {k:Kd21} (kp:Keep H H') (ob:∀p o,v=.ref p→H p=some o→H' p=some o) (h:k.at K H v b):k.at K H' v b:=by
 cases k with
 | pl d=>exact ⟨h.1,h.2.1.keep kp h.1,h.2.2.1,fun p e=>let ⟨us,q⟩:=h.2.2.2 p e;⟨us,kp _ _ q⟩⟩
 | ls p n=>exact ⟨h.1,ob _ _ h.1 h.2.1,h.2.2⟩
 | dc p n=>exact ⟨h.1,ob _ _ h.1 h.2.1,h.2.2⟩
theorem kd_sb {K:W.Frag} {H H':Hp} {v t:V} {n:Nat} {b:Bool} {k:Kd21} (T:Tp H t n) (S:SB t H H') (ne:∀p,v=.ref p→V.ref p≠t) (h:k.at K H v b):k.at K H' v b:=kd_keep (S.keep T) (fun p o e ho=>S.old p o ho (ne p e)) h
theorem kd_upd {K:W.Frag} {H:Hp} {v:V} {q:Addr} {o o':HO} {b:Bool} {k:Kd21} (hq:H q=some o) (ho:(∃l,o=.lst l)∨∃l,o=.dK l) (ne:v≠.ref q) (h:k.at K H v b):k.at K (upd H q o') v b:=by
 have nt:∀p xs,Rd H p (.tup xs)→p≠q:=fun p xs r e=>by
  subst e
  rcases r with r | ⟨o2,r⟩ <;> rw[hq]at r <;> cases r <;> rcases ho with ⟨l,z⟩ | ⟨l,z⟩ <;> cases z
 refine kd_keep (fun p xs r=>?_) (fun p o2 e ho2=>by rw[upd_ne (fun z=>ne (by rw[e,z]))];exact ho2) h
 have n:=nt p xs r
 exact r.imp (fun z=>by rw[upd_ne n];exact z) fun ⟨o2,z⟩=>⟨o2,by rw[upd_ne n];exact z⟩
theorem kd_some {K:W.Frag} {H:Hp} {v:V} {b:Bool} {k:Kd21} {p:Addr} (h:k.at K H v b) (e:v=.ref p):∃o,H p=some o:=by
 cases k with
 | pl d=>
  obtain ⟨us,q⟩:=h.2.2.2 p e
  exact q.elim (fun z=>⟨_,z⟩) fun ⟨o,z⟩=>⟨_,z⟩
 | ls q n=>obtain ⟨e',h,_⟩:=h;rw[e']at e;cases e;exact ⟨_,h⟩
 | dc q n=>obtain ⟨e',h,_⟩:=h;rw[e']at e;cases e;exact ⟨_,h⟩
noncomputable def Cs21 (num:Int) (v u:V) (x:Str) (fs:List (Str×V)):Prop:=(num=0∧x="NoShare"∧fs=[(("word":Str),v)])∨(num=1∧x="NoRest"∧fs=putF "prime" u [("number",v)])∨(num=2∧x="NoRow"∧fs=putF "place" u [("word",v)])∨(num=3∧x="NoPaper"∧fs=putF "place" u [("word",v)])∨(num=4∧x="NoTurn"∧fs=putF "thing" u [("word",v)])∨(num=5∧x="NoText"∧fs=putF "place" u [("word",v)])∨(num=6∧x="NoLine"∧fs=[(("row":Str),v)])
noncomputable def sp_law (K:W.Frag):Sp:=fun vs H Q _=>∃(a:Addr) (ns:List Int),vs=[.ref a]∧SqL K H a (ns.map V.int)∧ns.length≤63∧∀H',Q (.bl true) H'
theorem sc_law:FnScope ["_law_script","_law_tape_here","_law_number","_law_one","_law_other","_law_found","_law_e","_law_sorts","_law_due","_law_thing_here"] ["_law_script"] (defScope s_law):=⟨rfl,rfl,rfl,by decide +kernel,rfl,by decide +kernel,by decide +kernel⟩
theorem d_law (T:Txt K mg):Def P w K mg base "law" ["_law_script"] 5 (sp_law K):=by
 refine Def.mkq T.f_law sc_law (fun vs H Q E h=>?_) (fun _ _ _ _ _ _ us hl=>match us,hl with | [_],_=>rfl) (fun f cdv A outer s H vs Q E hr h=>?_)
 ·obtain ⟨a,ns,rfl,_⟩:=h
  rfl
 obtain ⟨a,ns,rfl,hS,hl,q⟩:=h
 obtain ⟨h_PowerError,_,_,_,_,_,_,_,_,_,_,_,_,_,_,_,_,_,mh_PowerError,sh_PowerError,lh_PowerError,bh_PowerError⟩:=T.h_PowerError
 obtain ⟨n_NoLine,mn_NoLine,sn_NoLine⟩:=T.n_NoLine
 obtain ⟨n_NoPaper,mn_NoPaper,sn_NoPaper⟩:=T.n_NoPaper
 obtain ⟨n_NoRest,mn_NoRest,sn_NoRest⟩:=T.n_NoRest
 obtain ⟨n_NoRow,mn_NoRow,sn_NoRow⟩:=T.n_NoRow
 obtain ⟨n_NoShare,mn_NoShare,sn_NoShare⟩:=T.n_NoShare
 obtain ⟨n_NoText,mn_NoText,sn_NoText⟩:=T.n_NoText
 obtain ⟨n_NoTurn,mn_NoTurn,sn_NoTurn⟩:=T.n_NoTurn
 refine ⟨_, (qpss_cons (qps_set (i := 1) sc_law.nd rfl (by walk_at "lc") (qpe_cd (d__law_tape T) hr (qpa_cons (qpv 0) qpa_nil)))
   (qpss_cons (qps_set (i:=2) sc_law.nd rfl (by walk_at "lc") (qpe_cd (d__law_draw T) hr (qpa_cons (qpv 1) (qpa_cons qpe_int qpa_nil))))
   (qpss_cons (qps_par (i:=3) (j:=4) rfl sc_law.nd rfl rfl (by decide) rfl rfl (qpa_cons (qpe_cd (d__law_thing T) hr (qpa_cons (qpv 1) qpa_nil)) (qpa_cons (qpe_cd (d__law_thing T) hr (qpa_cons (qpv 1) qpa_nil)) qpa_nil)) rfl)
   (qpss_cons (qps_set (i:=5) sc_law.nd rfl (by walk_at "lc") qpe_non)
   (qpss_cons (qps_cut (qps_tryE (i:=6) ⟨rfl,rfl⟩ sc_law.nd rfl rfl rfl mh_PowerError lh_PowerError bh_PowerError (fun F pn EE hp hx=>(qpss_one (qps_expr (qpe_cdx (dx__law_raise T) hr hp (qpa_cons (qpv 2) (qpa_cons (qpv 3) (qpa_cons (qpv 4) qpa_nil)))))))
   (fun ea=>(qpss_cons (qps_set (i:=7) sc_law.nd rfl (by walk_at "lc") (qpe_lst (qpa_cons (qpe_callB (call_isX (K:=K) rfl) rfl T.b_isinstance bt_isinstance (qpa_cons (qpv 6) (qpa_cons (qpe_glob (v:=.ref n_NoShare) rfl mn_NoShare rfl) qpa_nil))) (qpa_cons (qpe_callB (call_isX (K:=K) rfl) rfl T.b_isinstance bt_isinstance (qpa_cons (qpv 6) (qpa_cons (qpe_glob (v:=.ref n_NoRest) rfl mn_NoRest rfl) qpa_nil))) (qpa_cons (qpe_callB (call_isX (K:=K) rfl) rfl T.b_isinstance bt_isinstance (qpa_cons (qpv 6) (qpa_cons (qpe_glob (v:=.ref n_NoRow) rfl mn_NoRow rfl) qpa_nil))) (qpa_cons (qpe_callB (call_isX (K:=K) rfl) rfl T.b_isinstance bt_isinstance (qpa_cons (qpv 6) (qpa_cons (qpe_glob (v:=.ref n_NoPaper) rfl mn_NoPaper rfl) qpa_nil))) qpa_nil))))))
   (qpss_cons (qps_set (i:=7) sc_law.nd rfl (by walk_at "lc") (qpe_op op_cat (qpv 7) (qpe_lst (qpa_cons (qpe_callB (call_isX (K:=K) rfl) rfl T.b_isinstance bt_isinstance (qpa_cons (qpv 6) (qpa_cons (qpe_glob (v:=.ref n_NoTurn) rfl mn_NoTurn rfl) qpa_nil))) (qpa_cons (qpe_callB (call_isX (K:=K) rfl) rfl T.b_isinstance bt_isinstance (qpa_cons (qpv 6) (qpa_cons (qpe_glob (v:=.ref n_NoText) rfl mn_NoText rfl) qpa_nil))) (qpa_cons (qpe_callB (call_isX (K:=K) rfl) rfl T.b_isinstance bt_isinstance (qpa_cons (qpv 6) (qpa_cons (qpe_glob (v:=.ref n_NoLine) rfl mn_NoLine rfl) qpa_nil))) qpa_nil))))))
   (qpss_one (qps_if (QW.pt (qpw_and (qpt_cmpR (op_eqU (K:=K) rfl (RoomU.suite hr)) (qpv 7) (qpe_compU (ea:=ea) (N:=["_law_k","_law_number"]) (is:=[none,some 2]) rfl ⟨rfl,rfl,by decide +kernel,by decide +kernel,⟨rfl,trivial⟩,rfl,⟨⟨rfl,rfl,rfl⟩,trivial⟩⟩ (qpi_range1U rfl T.b_range (qpa_cons qpe_int qpa_nil)) (fun _ _ _ _ _=>(qpg_name (i:=0) (show List.Nodup (["_law_k","_law_number"]:List Str) from by decide +kernel) rfl (by walk_at "lc"))) (fun _ _ _ _ _=>qpf_nil) (fun _ _ _ _ _=>(qpe_cmpR op_eq (qpv 0) (qpv 1) (nomark _)))) (nomark _)) (qpw_and1 (qpt_val (qpe_callB (call_isX (K:=K) rfl) rfl T.b_isinstance bt_isinstance (qpa_cons (qpv 6) (qpa_cons (qpe_bltn (v:=.ty "ValueError") rfl T.b_ValueError bt_ValueError rfl) qpa_nil))))))) (qpss_one (qps_set (i:=5) sc_law.nd rfl (by walk_at "lc") (qpe_cdU (d__law_fields T) (RoomU.suite hr) (qpa_cons (qpv 2) (qpa_cons (qpv 6) qpa_nil))))) qpss_nil)))))))
   (qpss_cons (qps_cut (qps_set (i:=8) sc_law.nd rfl (by walk_at "lc") (qpe_ifExp (qpt_cmpR op_in_seq (qpv 2) (qpe_tup (qpa_cons qpe_int (qpa_cons qpe_int qpa_nil))) rfl) (qpe_tup (qpa_cons (qpv 3) qpa_nil)) (qpe_tup (qpa_cons (qpv 3) (qpa_cons (qpv 4) qpa_nil))))))
   (qpss_cons (qps_if (qpt_cmpR op_ne (qpe_callB (call_repr hr) rfl T.b_repr bt_repr (qpa_cons (qpv 5) qpa_nil)) (qpe_callB (call_repr hr) rfl T.b_repr bt_repr (qpa_cons (qpv 8) qpa_nil)) (nomark _)) (qpss_one (qps_ret qpe_bl)) qpss_nil)
   (qpss_cons (qps_for PassesOwn.never rfl (qpi_tup (qpv 8)) (qpg_name (i:=9) sc_law.nd rfl (by walk_at "lc")) (qpss_cons (qps_if (qpt_val (qpe_callB call_isi rfl T.b_isinstance bt_isinstance (qpa_cons (qpv 9) (qpa_cons (qpe_bltn (v:=.ty "list") rfl T.b_list bt_list rfl) qpa_nil)))) (qpss_one (qps_expr (qpe_bm PySem.F.plainAttrs_list PySem.F.slot_list_append PySem.F.type_list_append mt_append (qpv 9) (qpa_cons qpe_int qpa_nil)))) qpss_nil)
   (qpss_one (qps_if (qpt_val (qpe_callB call_isi rfl T.b_isinstance bt_isinstance (qpa_cons (qpv 9) (qpa_cons (qpe_bltn (v:=.ty "dict") rfl T.b_dict bt_dict rfl) qpa_nil)))) (qpss_one (qps_dput (hu_of hr) (qpv 9) qpe_str qpe_int rfl)) qpss_nil))))
   (qpss_one (qps_ret (qpe_cmpR op_eq (qpe_callB (call_repr hr) rfl T.b_repr bt_repr (qpa_cons (qpv 5) qpa_nil)) (qpe_callB (call_repr hr) rfl T.b_repr bt_repr (qpa_cons (qpv 8) qpa_nil)) (nomark _)))))))))))),?_⟩
 refine ⟨_,rfl,a,ns,rfl,hS,hl,fun t H1 s1 T1=>?_⟩
 refine ⟨_,rfl,t,0,7,rfl,T1,by decide,by decide,by decide,fun num H2 n0 n1 T2 S2=>?_⟩
 refine ⟨_,rfl,t,1,rfl,T2,by decide,fun v H3 T3 S3 th1 fr1=>?_⟩
 refine ⟨_,rfl,t,_,rfl,T3,by decide,fun u H4 T4 S4 th2 fr2=>?_⟩
 refine ⟨_,_,rfl,?_⟩
 refine ⟨fun σ HF=>∃(pf:Addr) (a7:Option V),σ=[some (.ref a),some t,some (.int num),some v,some u,some (.ref pf),none,a7,none,none]∧Same H4 HF∧HF pf=some (.tup (if num=0∨num=6 then [v] else [v,u])),?_,?_⟩
 ·refine rd_tryE (fun σ' c xa H'=>σ'=[some (.ref a),some t,some (.int num),some v,some u,some .non,none,none,none,none]∧∃x fs,Cs21 num v u x fs∧Came K x fs H4 c xa H') ?_ ?_
  ·rintro σ' c xa H' ⟨rfl,x,fs,cs,C,ea,dx,rfl,rfl,hC,s',e1,e2⟩
   have fx:∃B,XCls K C B∧PySem.W.mroIn K C (.ref h_PowerError)=some true∧kitOne K (.ref C) (.ref n_NoShare)=some (decide (num=0))∧kitOne K (.ref C) (.ref n_NoRest)=some (decide (num=1))∧kitOne K (.ref C) (.ref n_NoRow)=some (decide (num=2))∧kitOne K (.ref C) (.ref n_NoPaper)=some (decide (num=3))∧kitOne K (.ref C) (.ref n_NoTurn)=some (decide (num=4))∧kitOne K (.ref C) (.ref n_NoText)=some (decide (num=5))∧kitOne K (.ref C) (.ref n_NoLine)=some (decide (num=6))∧kitOne K (.ref C) (.type "ValueError")=some true∧Fl21 K num C fs v u:=by
    rcases cs with ⟨rfl,rfl,rfl⟩ | ⟨rfl,rfl,rfl⟩ | ⟨rfl,rfl,rfl⟩ | ⟨rfl,rfl,rfl⟩ | ⟨rfl,rfl,rfl⟩ | ⟨rfl,rfl,rfl⟩ | ⟨rfl,rfl,rfl⟩
    ·obtain ⟨C',B',fI,fd,S⟩:=T.x_NoShare
     exact ⟨B',xxc S hC,xmro S hC sh_PowerError,T.k_NoShare_NoShare _ _ hC sn_NoShare,T.k_NoShare_NoRest _ _ hC sn_NoRest,T.k_NoShare_NoRow _ _ hC sn_NoRow,T.k_NoShare_NoPaper _ _ hC sn_NoPaper,T.k_NoShare_NoTurn _ _ hC sn_NoTurn,T.k_NoShare_NoText _ _ hC sn_NoText,T.k_NoShare_NoLine _ _ hC sn_NoLine,T.v_NoShare _ hC,.inl ⟨rfl,rfl,xfree S hC (by simp)⟩⟩
    ·obtain ⟨C',B',fI,fd,S⟩:=T.x_NoRest
     exact ⟨B',xxc S hC,xmro S hC sh_PowerError,T.k_NoRest_NoShare _ _ hC sn_NoShare,T.k_NoRest_NoRest _ _ hC sn_NoRest,T.k_NoRest_NoRow _ _ hC sn_NoRow,T.k_NoRest_NoPaper _ _ hC sn_NoPaper,T.k_NoRest_NoTurn _ _ hC sn_NoTurn,T.k_NoRest_NoText _ _ hC sn_NoText,T.k_NoRest_NoLine _ _ hC sn_NoLine,T.v_NoRest _ hC,.inr (.inr (.inl ⟨rfl,rfl,xfree S hC (by simp),rfl,xfree S hC (by simp)⟩))⟩
    ·obtain ⟨C',B',fI,fd,S⟩:=T.x_NoRow
     exact ⟨B',xxc S hC,xmro S hC sh_PowerError,T.k_NoRow_NoShare _ _ hC sn_NoShare,T.k_NoRow_NoRest _ _ hC sn_NoRest,T.k_NoRow_NoRow _ _ hC sn_NoRow,T.k_NoRow_NoPaper _ _ hC sn_NoPaper,T.k_NoRow_NoTurn _ _ hC sn_NoTurn,T.k_NoRow_NoText _ _ hC sn_NoText,T.k_NoRow_NoLine _ _ hC sn_NoLine,T.v_NoRow _ hC,.inr (.inr (.inr (.inr ⟨by decide,by decide,by decide,by decide,rfl,xfree S hC (by simp),rfl,xfree S hC (by simp)⟩)))⟩
    ·obtain ⟨C',B',fI,fd,S⟩:=T.x_NoPaper
     exact ⟨B',xxc S hC,xmro S hC sh_PowerError,T.k_NoPaper_NoShare _ _ hC sn_NoShare,T.k_NoPaper_NoRest _ _ hC sn_NoRest,T.k_NoPaper_NoRow _ _ hC sn_NoRow,T.k_NoPaper_NoPaper _ _ hC sn_NoPaper,T.k_NoPaper_NoTurn _ _ hC sn_NoTurn,T.k_NoPaper_NoText _ _ hC sn_NoText,T.k_NoPaper_NoLine _ _ hC sn_NoLine,T.v_NoPaper _ hC,.inr (.inr (.inr (.inr ⟨by decide,by decide,by decide,by decide,rfl,xfree S hC (by simp),rfl,xfree S hC (by simp)⟩)))⟩
    ·obtain ⟨C',B',fI,fd,S⟩:=T.x_NoTurn
     exact ⟨B',xxc S hC,xmro S hC sh_PowerError,T.k_NoTurn_NoShare _ _ hC sn_NoShare,T.k_NoTurn_NoRest _ _ hC sn_NoRest,T.k_NoTurn_NoRow _ _ hC sn_NoRow,T.k_NoTurn_NoPaper _ _ hC sn_NoPaper,T.k_NoTurn_NoTurn _ _ hC sn_NoTurn,T.k_NoTurn_NoText _ _ hC sn_NoText,T.k_NoTurn_NoLine _ _ hC sn_NoLine,T.v_NoTurn _ hC,.inr (.inr (.inr (.inl ⟨rfl,rfl,xfree S hC (by simp),rfl,xfree S hC (by simp)⟩)))⟩
    ·obtain ⟨C',B',fI,fd,S⟩:=T.x_NoText
     exact ⟨B',xxc S hC,xmro S hC sh_PowerError,T.k_NoText_NoShare _ _ hC sn_NoShare,T.k_NoText_NoRest _ _ hC sn_NoRest,T.k_NoText_NoRow _ _ hC sn_NoRow,T.k_NoText_NoPaper _ _ hC sn_NoPaper,T.k_NoText_NoTurn _ _ hC sn_NoTurn,T.k_NoText_NoText _ _ hC sn_NoText,T.k_NoText_NoLine _ _ hC sn_NoLine,T.v_NoText _ hC,.inr (.inr (.inr (.inr ⟨by decide,by decide,by decide,by decide,rfl,xfree S hC (by simp),rfl,xfree S hC (by simp)⟩)))⟩
    ·obtain ⟨C',B',fI,fd,S⟩:=T.x_NoLine
     exact ⟨B',xxc S hC,xmro S hC sh_PowerError,T.k_NoLine_NoShare _ _ hC sn_NoShare,T.k_NoLine_NoRest _ _ hC sn_NoRest,T.k_NoLine_NoRow _ _ hC sn_NoRow,T.k_NoLine_NoPaper _ _ hC sn_NoPaper,T.k_NoLine_NoTurn _ _ hC sn_NoTurn,T.k_NoLine_NoText _ _ hC sn_NoText,T.k_NoLine_NoLine _ _ hC sn_NoLine,T.v_NoLine _ hC,.inr (.inl ⟨rfl,rfl,xfree S hC (by simp)⟩)⟩
   obtain ⟨B,xc,mr,k0,k1,k2,k3,k4,k5,k6,kv,fl⟩:=fx
   refine ⟨C,ea,rfl,rfl,mr,?_⟩
   refine ⟨_,rfl,ea,C,B,dx,fs,false,e1,e2,xc,.inl ⟨n_NoShare,_,rfl,k0,?_⟩⟩
   refine ⟨_,rfl,ea,C,B,dx,fs,false,e1,e2,xc,.inl ⟨n_NoRest,_,rfl,k1,?_⟩⟩
   refine ⟨_,rfl,ea,C,B,dx,fs,false,e1,e2,xc,.inl ⟨n_NoRow,_,rfl,k2,?_⟩⟩
   refine ⟨_,rfl,ea,C,B,dx,fs,false,e1,e2,xc,.inl ⟨n_NoPaper,_,rfl,k3,?_⟩⟩
   refine ⟨by show 4≤sizeLine;decide,fun l1 f1=>?_⟩
   have u1:=same_new f1 (.lst [V.bl (decide (num=0)),V.bl (decide (num=1)),V.bl (decide (num=2)),V.bl (decide (num=3))])
   replace e1:=u1 _ _ e1
   replace e2:=u1 _ _ e2
   refine ⟨_,rfl,?_⟩
   refine ⟨_,rfl,ea,C,B,dx,fs,false,e1,e2,xc,.inl ⟨n_NoTurn,_,rfl,k4,?_⟩⟩
   refine ⟨_,rfl,ea,C,B,dx,fs,false,e1,e2,xc,.inl ⟨n_NoText,_,rfl,k5,?_⟩⟩
   refine ⟨_,rfl,ea,C,B,dx,fs,false,e1,e2,xc,.inl ⟨n_NoLine,_,rfl,k6,?_⟩⟩
   refine ⟨by show 3≤sizeLine;decide,fun l2 f2=>?_⟩
   have u2:=same_new f2 (.lst [V.bl (decide (num=4)),V.bl (decide (num=5)),V.bl (decide (num=6))])
   replace e1:=u2 _ _ e1
   replace e2:=u2 _ _ e2
   have g1:=u2 _ _ (show upd H' l1 (.lst [V.bl (decide (num=0)),V.bl (decide (num=1)),V.bl (decide (num=2)),V.bl (decide (num=3))]) l1=_ from upd_same)
   refine ⟨l1,l2,_,_,rfl,rfl,g1,upd_same,by show 7≤sizeLine;decide,fun l3 f3=>?_⟩
   have u3:=same_new f3 (.lst ([V.bl (decide (num=0)),V.bl (decide (num=1)),V.bl (decide (num=2)),V.bl (decide (num=3))] ++ [V.bl (decide (num=4)),V.bl (decide (num=5)),V.bl (decide (num=6))]))
   replace e1:=u3 _ _ e1
   replace e2:=u3 _ _ e2
   have sA:=s'.trans (u1.trans (u2.trans u3))
   have g3:=(show upd _ l3 _ l3=_ from upd_same (H:=upd (upd H' l1 (.lst [V.bl (decide (num=0)),V.bl (decide (num=1)),V.bl (decide (num=2)),V.bl (decide (num=3))])) l2 (.lst [V.bl (decide (num=4)),V.bl (decide (num=5)),V.bl (decide (num=6))])) (o:=.lst ([V.bl (decide (num=0)),V.bl (decide (num=1)),V.bl (decide (num=2)),V.bl (decide (num=3))] ++ [V.bl (decide (num=4)),V.bl (decide (num=5)),V.bl (decide (num=6))])))
   generalize upd (upd (upd H' l1 (.lst [V.bl (decide (num=0)),V.bl (decide (num=1)),V.bl (decide (num=2)),V.bl (decide (num=3))])) l2 (.lst [V.bl (decide (num=4)),V.bl (decide (num=5)),V.bl (decide (num=6))])) l3 (.lst ([V.bl (decide (num=0)),V.bl (decide (num=1)),V.bl (decide (num=2)),V.bl (decide (num=3))] ++ [V.bl (decide (num=4)),V.bl (decide (num=5)),V.bl (decide (num=6))]))=HA at e1 e2 sA g3 ⊢
   refine ⟨_,rfl,7,rfl,by decide,by decide,fun D fD=>?_⟩
   refine comp_rangeU (fun i σ2 H2=>(∃y,σ2=[y,some (.int num)])∧H2=upd HA D (.lst ((List.range i).map fun k=>V.bl (decide (((0:Int) + (k:Nat))=num))))) ⟨⟨_,rfl⟩,rfl⟩ ?_ ?_
   ·rintro i σ2 H2 hi ⟨⟨y,rfl⟩,rfl⟩
    refine ⟨_,rfl,_,rfl,rfl,?_⟩
    refine ⟨_,upd_same,by rw[List.length_map,List.length_range,sizeLine_eq];omega,⟨_,rfl⟩,?_⟩
    have ed:decide (V.int ((0:Int) + (i:Nat))=V.int num)=decide ((0:Int) + (i:Nat)=num):=decide_eq_decide.mpr ⟨V.int.inj,fun h=>congrArg V.int h⟩
    rw[upd_upd,List.range_succ,List.map_append,ed];rfl
   ·rintro σ2 H2 ⟨⟨y,rfl⟩,rfl⟩
    have u4:=same_new fD (.lst ((List.range 7).map fun k=>V.bl (decide (((0:Int) + (k:Nat))=num))))
    replace e1:=u4 _ _ e1
    replace e2:=u4 _ _ e2
    refine ⟨⟨_,_,_,e1⟩,⟨_,upd_same⟩,?_⟩
    have d1:Dv K (upd HA D (.lst ((List.range 7).map fun k=>V.bl (decide (((0:Int) + (k:Nat))=num))))) (.ref l3) (.list ((List.range 7).map fun k=>PyData.bool (decide (((0:Int) + (k:Nat))=num)))):=by
     have hn:num=0∨num=1∨num=2∨num=3∨num=4∨num=5∨num=6:=by omega
     refine .lst (SqL.of (u4 _ _ g3)) ?_
     rcases hn with rfl | rfl | rfl | rfl | rfl | rfl | rfl <;> exact .cons (.bl _) (.cons (.bl _) (.cons (.bl _) (.cons (.bl _) (.cons (.bl _) (.cons (.bl _) (.cons (.bl _) .nil))))))
    have d2:Dv K (upd HA D (.lst ((List.range 7).map fun k=>V.bl (decide (((0:Int) + (k:Nat))=num))))) (.ref D) (.list ((List.range 7).map fun k=>PyData.bool (decide (((0:Int) + (k:Nat))=num)))):=.lst (SqL.of upd_same) (.cons (.bl _) (.cons (.bl _) (.cons (.bl _) (.cons (.bl _) (.cons (.bl _) (.cons (.bl _) (.cons (.bl _) .nil)))))))
    have cl:(PyData.list ((List.range 7).map fun k=>PyData.bool (decide (((0:Int) + (k:Nat))=num)))).canLay0=true:=rfl
    refine ⟨_,_,d1,d2,cl,cl,Nat.le_of_ble_eq_true rfl,?_⟩
    rw[PySem.SeqAt.eqv_refl _ cl]
    refine ⟨_,rfl,?_⟩
    show (if true=true then _ else _)
    rw[if_pos rfl]
    refine ⟨_,rfl,ea,C,B,dx,fs,false,e1,e2,xc,.inr (.inl ⟨"ValueError",true,rfl,kv,?_⟩)⟩
    refine ⟨_,rfl,?_⟩
    show (if true=true then _ else _)
    rw[if_pos rfl]
    refine ⟨_,rfl,_,rfl,num,ea,dx,C,B,fs,false,v,u,rfl,n0,n1,e1,e2,xc,fl,fun p hp=>?_⟩
    exact ⟨p,_,rfl,sA.trans (u4.trans (same_new hp _)),upd_same⟩
  ·intro EE hEE
   have rr:∀x fs,Cs21 num v u x fs→RaisesW K x fs H4 (EE [some (.ref a),some t,some (.int num),some v,some u,some .non,none,none,none,none]):=fun x fs cs=>Came.raises (fun c xa H' h=>hEE _ _ _ _ ⟨rfl,x,fs,cs,h⟩) (Same.refl _)
   exact ⟨_,rfl,_,rfl,_,rfl,num,v,u,rfl,n0,n1,fun e=>rr _ _ (.inl ⟨e,rfl,rfl⟩),fun e=>rr _ _ (.inr (.inl ⟨e,rfl,rfl⟩)),fun e=>rr _ _ (.inr (.inr (.inl ⟨e,rfl,rfl⟩))),fun e=>rr _ _ (.inr (.inr (.inr (.inl ⟨e,rfl,rfl⟩)))),fun e=>rr _ _ (.inr (.inr (.inr (.inr (.inl ⟨e,rfl,rfl⟩))))),fun e=>rr _ _ (.inr (.inr (.inr (.inr (.inr (.inl ⟨e,rfl,rfl⟩)))))),fun e=>rr _ _ (.inr (.inr (.inr (.inr (.inr (.inr ⟨e,rfl,rfl⟩))))))⟩
 rintro σ HF ⟨pf,a7,rfl,sF,hpf⟩
 obtain ⟨k1,a1⟩:=th_kd th1
 obtain ⟨k2,a2⟩:=th_kd th2
 have a1':k1.at K H4 v false:=kd_sb T3 S4 (fun p e=>T2.ne (fr1 p e)) a1
 have ne12:∀p,v=.ref p→u≠.ref p:=fun p e e2=>by
  obtain ⟨o,ho⟩:=kd_some a1 e
  rw[fr2 p e2]at ho;cases ho
 replace a1':=kd_same sF a1'
 replace a2:=kd_same sF a2
 have hin:inV (V.int num) [V.int 0,V.int 6]=decide (num=0∨num=6):=by
  have hn:num=0∨num=1∨num=2∨num=3∨num=4∨num=5∨num=6:=by omega
  rcases hn with rfl | rfl | rfl | rfl | rfl | rfl | rfl <;> rfl
 refine ⟨fun σ HG=>∃(pd:Addr),σ=[some (.ref a),some t,some (.int num),some v,some u,some (.ref pf),none,a7,some (.ref pd),none]∧Same HF HG∧HG pd=some (.tup (if num=0∨num=6 then [v] else [v,u])),?_,?_⟩
 ·refine ⟨_,rfl,len2,fun pq fq=>⟨pq,_,rfl,.inr (SqT.of upd_same),rfl,rfl,?_⟩⟩
  refine ⟨_,rfl,?_⟩
  show (if (inV (V.int num) [V.int 0,V.int 6])=true then _ else _)
  rw[hin]
  refine ite2 (fun c=>?_) (fun c=>?_)
  ·have c':=of_decide_eq_true c
   refine ⟨_,rfl,len1,fun pd fd=>?_⟩
   exact ⟨pd,rfl,(same_new fq _).trans (same_new fd _),by rw[if_pos c'];exact upd_same⟩
  ·have c':¬(num=0∨num=6):=fun z=>c (decide_eq_true z)
   refine ⟨_,rfl,_,rfl,len2,fun pd fd=>?_⟩
   exact ⟨pd,rfl,(same_new fq _).trans (same_new fd _),by rw[if_neg c'];exact upd_same⟩
 rintro σ HG ⟨pd,rfl,sG,hpd⟩
 replace hpf:=sG _ _ hpf
 replace a1':=kd_same sG a1'
 replace a2:=kd_same sG a2
 generalize hxs:(if num=0∨num=6 then [v] else [v,u])=xs at hpf hpd
 have two:xs=[v]∨xs=[v,u]:=by
  rw[←hxs]
  by_cases c:num=0∨num=6
  ·rw[if_pos c];exact .inl rfl
  ·rw[if_neg c];exact .inr rfl
 have dat:∀(H':Hp) (p:Addr) (b1 b2:Bool),H' p=some (.tup xs)→k1.at K H' v b1→k2.at K H' u b2→∃d,d=(PyData.tuple ((if xs.length=1 then [k1.dat b1] else [k1.dat b1,k2.dat b2])))∧Dv K H' (.ref p) d∧Shw d:=fun H' p b1 b2 hp h1 h2=>by
  have s1:=kd_sw h1
  have s2:=kd_sw h2
  rcases two with rfl | rfl
  ·refine ⟨_,rfl,.tup (SqT.of hp) (.cons (kd_dv h1) .nil),?_⟩
   exact ((Sw.tup (n:=3) (v:=5000) (ds:=[k1.dat b1]) fun d hd=>by rw[List.mem_singleton.mp hd];exact s1).mono (show 4≤5 by decide) (show 1 * (5000 + 2) + 4≤20000 by decide)).shw
  ·refine ⟨_,rfl,.tup (SqT.of hp) (.cons (kd_dv h1) (.cons (kd_dv h2) .nil)),?_⟩
   exact ((Sw.pair s1 s2).mono (show 4≤5 by decide) (show 2 * (5000 + 2) + 4≤20000 by decide)).shw
 obtain ⟨d0,ed0,df,sw0⟩:=dat HG pf false false hpf a1' a2
 obtain ⟨d0',ed0',dd,_⟩:=dat HG pd false false hpd a1' a2
 have e00:d0'=d0:=ed0'.trans ed0.symm
 subst e00
 obtain ⟨ks,hks⟩:∃k,k=d0'.shown:=⟨_,rfl⟩
 refine ⟨_,rfl,_,_,ks,rfl,df,sw0,hks,_,rfl,_,_,ks,rfl,dd,sw0,hks,rfl,_,rfl,?_⟩
 refine iteNS rfl ?_
 refine ⟨_,rfl,pd,rfl,⟨xs,SqT.of hpd⟩,?_⟩
 refine for_tup (xs:=xs) (fun i σ H'=>(∃z,σ=[some (.ref a),some t,some (.int num),some v,some u,some (.ref pf),none,a7,some (.ref pd),z])∧H' pf=some (.tup xs)∧H' pd=some (.tup xs)∧k1.at K H' v (decide (0 < i))∧k2.at K H' u (decide (1 < i))) ⟨⟨_,rfl⟩,hpf,hpd,a1',a2⟩ (fun i σ H' hi hp=>SqT.of hp.2.2.1) ?_ ?_
 ·rintro i x σ H' hx ⟨⟨z,rfl⟩,hpf',hpd',b1,b2⟩
  have ntp:∀(q:Addr) (o:HO) (r:Addr),H' q=some o→((∃l,o=.lst l)∨∃l,o=.dK l)→H' r=some (.tup xs)→r≠q:=fun q o r hq ho hr2 e=>by
   subst e
   rw[hq]at hr2;cases hr2
   rcases ho with ⟨l,z⟩ | ⟨l,z⟩ <;> cases z
  obtain ⟨k,hk,go⟩:∃k:Kd21,k.at K H' x false∧∀HN,k.at K HN x true→(HN=H'∨∃q o o',x=.ref q∧H' q=some o∧((∃l,o=.lst l)∨∃l,o=.dK l)∧HN=upd H' q o')→HN pf=some (.tup xs)∧HN pd=some (.tup xs)∧k1.at K HN v (decide (0 < i + 1))∧k2.at K HN u (decide (1 < i + 1)):=by
   have i2:i=0∨i=1:=by
    have:=(List.getElem?_eq_some_iff.mp hx).1
    rcases two with rfl | rfl
    ·have:i < 1:=this;omega
    ·have:i < 2:=this;omega
   rcases i2 with rfl | rfl
   ·have ex:x=v:=by rcases two with rfl | rfl <;> (cases hx;rfl)
    subst ex
    refine ⟨k1,b1,fun HN hN hc=>?_⟩
    rcases hc with rfl | ⟨q,o,o',e,hq,ho,rfl⟩
    ·exact ⟨hpf',hpd',hN,b2⟩
    ·exact ⟨by rw[upd_ne (ntp q o pf hq ho hpf')];exact hpf',by rw[upd_ne (ntp q o pd hq ho hpd')];exact hpd',hN,kd_upd hq ho (ne12 q e) b2⟩
   ·have ex : x = u := by
     rcases two with rfl | rfl
     ·cases hx
     ·cases hx;rfl
    subst ex
    refine ⟨k2,b2,fun HN hN hc=>?_⟩
    rcases hc with rfl | ⟨q,o,o',e,hq,ho,rfl⟩
    ·exact ⟨hpf',hpd',b1,hN⟩
    ·exact ⟨by rw[upd_ne (ntp q o pf hq ho hpf')];exact hpf',by rw[upd_ne (ntp q o pd hq ho hpd')];exact hpd',kd_upd hq ho (fun z=>ne12 q z e) b1,hN⟩
  have ty:=(kd_dv hk).ty
  refine ⟨_,rfl,_,tyName (k.dat false),"list",isLstB (k.dat false),rfl,ty,kit_lst _,_,rfl,?_⟩
  cases k with
  | pl d=>
   have hl:isLstB d=false:=by
    have:=hk.1
    cases d <;> first | rfl | (simp[tpd]at this)
   have hd:isDcB d=false:=by
    have:=hk.1
    cases d <;> first | rfl | (simp[tpd]at this)
   show (if (isLstB d)=true then _ else _)
   rw[hl]
   refine iteF ?_
   refine ⟨_,rfl,_,tyName d,"dict",isDcB d,rfl,ty,kit_dc d,_,rfl,?_⟩
   rw[hd]
   refine iteF ?_
   exact ⟨⟨_,rfl⟩,go H' hk (.inl rfl)⟩
  | ls p n=>
   obtain ⟨rfl,hp,bt⟩:=hk
   refine iteT ?_
   refine ⟨_,rfl,.inl ⟨rfl,_,SqL.of hp⟩,p,_,_,rfl,rfl,hp,by show 1 < sizeLine;decide,?_⟩
   refine ⟨_,rfl,_,"list","dict",false,rfl,.lst (SqL.of upd_same),rfl,_,rfl,?_⟩
   refine iteF ?_
   exact ⟨⟨_,rfl⟩,go _ ⟨rfl,upd_same,bt⟩ (.inr ⟨p,_,_,rfl,hp,.inl ⟨_,rfl⟩,rfl⟩)⟩
  | dc p n=>
   obtain ⟨rfl,hp,bt⟩:=hk
   refine iteF ?_
   refine ⟨_,rfl,_,"dict","dict",true,rfl,.dK hp,rfl,_,rfl,?_⟩
   refine iteT ?_
   exact ⟨_,rfl,p,_,rfl,DPut.k (k:=.inr "b") hp (by show 1 < sizeLine;decide),⟨_,rfl⟩,go _ ⟨rfl,upd_same,bt⟩ (.inr ⟨p,_,_,rfl,hp,.inr ⟨_,rfl⟩,rfl⟩)⟩
 ·rintro σ H' ⟨⟨z,rfl⟩,hpf',hpd',b1,b2⟩
  obtain ⟨d1,ed1,df1,sw1⟩:=dat H' pf _ _ hpf' b1 b2
  obtain ⟨d2,ed2,dd2,_⟩:=dat H' pd _ _ hpd' b1 b2
  have e00:d2=d1:=ed2.trans ed1.symm
  subst e00
  obtain ⟨ks,hks⟩:∃k,k=d2.shown:=⟨_,rfl⟩
  refine ⟨_,rfl,_,_,ks,rfl,df1,sw1,hks,_,rfl,_,_,ks,rfl,dd2,sw1,hks,rfl,?_⟩
  have z:=q H'
  rw[show V.bl true=V.bl (decide (V.str ks=V.str ks)) from congrArg V.bl (decide_eq_true rfl).symm]at z
  exact z
end
noncomputable def FQ (K:W.Frag) (y x:Str) (st:Stmt):Prop:=∃(f:Addr) (od an:Option Addr) (sl:Array (Option Value)) (oc kV dc pm cd ct:Value),nsIn K mainGlobals y=some (some (.ref f))∧K.lookup f=some ⟨oc,od,.func (fnOf x x (defArgs st) (defBody st) (defScope st) .none kV dc pm an cd ct),sl⟩∧codeIn K cd x=true∧keepIn K (.ref f)=true
theorem fq_mk {K:W.Frag} {y x:Str} {st:Stmt} {f:Addr} {od an:Option Addr} {sl:Array (Option Value)} {oc kV dc pm cd ct:Value} (a:nsIn K mainGlobals y=some (some (.ref f))) (l:K.lookup f=some ⟨oc,od,.func (fnOf x x (defArgs st) (defBody st) (defScope st) .none kV dc pm an cd ct),sl⟩) (c:codeIn K cd x=true) (k:keepIn K (.ref f)=true):FQ K y x st:=⟨f,od,an,sl,oc,kV,dc,pm,cd,ct,a,l,c,k⟩
theorem srcOf {K:W.Frag} {h:Heap} {mg:Str→Option Value} {y x:Str} {st:Stmt} (X:K.In h) (G:h.Ns mainGlobals mg) (q:FQ K y x st):Src K mg y x st:=let ⟨f,_,_,_,_,_,_,_,_,_,a,l,c,k⟩:=q;⟨f,_,fun_mk l c k,mg_of X G a⟩
theorem o_law {P:Program} {w:World} {K:W.Frag} {mg:Str→Option Value} {base:Heap} {f:Addr} {fd:FuncData} (T:Txt K mg) (F:Fun K "law" "law" s_law f fd) (m:mg "law"=some (.ref f)):FnOk P w K mg base CX0 5 f fd ["_law_script"] (sp_law K):=(d_law T).fn F m
theorem all_mk {l : PySem.W.OpenLaw} {w : World} {K : W.Frag} {h : Heap} {mg : Str → Option Value} {fa : Addr} (X : K.In h) (G : h.Ns mainGlobals mg) (hfa : mg "law" = some (.ref fa))
  (q1:FQ K "_law_tape" "_law_tape" s__law_tape)
  (q2:FQ K "_law_draw" "_law_draw" s__law_draw)
  (q3:FQ K "_law_great" "_law_great" s__law_great)
  (q4:FQ K "_law_thing" "_law_thing" s__law_thing)
  (q5:FQ K "_law_raise_first" "_law_raise_first" s__law_raise_first)
  (q6:FQ K "_law_raise" "_law_raise" s__law_raise)
  (q7:FQ K "_law_fields" "_law_fields" s__law_fields)
  {f8:Addr} {od8 an8:Option Addr} {sl8:Array (Option Value)} {oc8 kV8 dc8 pm8 cd8 ct8:Value} (a8:nsIn K mainGlobals "law"=some (some (.ref f8))) (l8:K.lookup f8=some ⟨oc8,od8,.func (fnOf "law" "law" (defArgs s_law) (defBody s_law) (defScope s_law) .none kV8 dc8 pm8 an8 cd8 ct8),sl8⟩) (c8:codeIn K cd8 "law"=true) (k8:keepIn K (.ref f8)=true)
  (z1:nsIn K mainGlobals "ValueError"=some none)
  (z2:nsIn K mainGlobals "dict"=some none)
  (z3:nsIn K mainGlobals "isinstance"=some none)
  (z4:nsIn K mainGlobals "len"=some none)
  (z5:nsIn K mainGlobals "list"=some none)
  (z6:nsIn K mainGlobals "range"=some none)
  (z7:nsIn K mainGlobals "repr"=some none)
  {Cx1 Bx1 Fx1 Nx1:Addr} {nmx1 qx1:Str} {bsx1 subx1:List Value} {snx1:List Str} {abx1:Bool} {colx1:Option Bool} {ddx1 odx1 anx1:Option Addr} {k0x1 k1x1 k2x1 k3x1 k5x1:Option Value} {slx1:Array (Option Value)} {ocx1 kVx1 dcx1 pmx1 cdx1 ctx1:Value}
  (ax1:nsIn K mainGlobals "NoLine"=some (some (.ref Cx1))) (lx1:K.lookup Cx1=some (excClassObj nmx1 qx1 Cx1 Nx1 bsx1 (.ref Bx1::vmB) true snx1 subx1 abx1 colx1 ddx1 k0x1 k1x1 k2x1 k3x1 k5x1 "ValueError.__new__"))
  (tx1:PySem.W.tailIn K vmB (.ref Bx1::vmB)=true) (ix1:findIn K (.ref Cx1) "__init__"=some (some (.ref Fx1))) (nx1:PySem.W.isFn K (.ref Fx1)=true) (px1:keepIn K (.ref Cx1)=true)
  (fx1:K.lookup Fx1=some ⟨ocx1,odx1,.func (fnOf "__init__" "NoLine.__init__" (defArgs (inClass (top 8) 0)) (defBody (inClass (top 8) 0)) (defScope (inClass (top 8) 0)) .none kVx1 dcx1 pmx1 anx1 cdx1 ctx1),slx1⟩) (cx1:codeIn K cdx1 "NoLine.__init__"=true) (kx1:keepIn K (.ref Fx1)=true)
  (sax1:findIn K (.ref Cx1) "__setattr__"=some (some (.builtin "object.__setattr__"))) (gax1:findIn K (.ref Cx1) "__getattribute__"=some (some (.builtin "BaseException.__getattribute__"))) (ghx1:findIn K (.ref Cx1) "__getattr__"=some none) (cax1:findIn K (.ref Cx1) "__class__"=some (some (.builtin "object.__class__")))
  (cgx1:PySem.W.specialIn K (.builtin "object.__class__") "__get__"=some (some (.builtin "getset_descriptor.__get__"))) (ct2x1:PySem.W.takesIn K (.builtin "object.__class__")=some true) (pbx1:nsIn K mainGlobals "PowerError"=some (some (.ref Bx1)))
  (ff0x1:findIn K (.ref Cx1) "row"=some none)
  {Cx2 Bx2 Fx2 Nx2:Addr} {nmx2 qx2:Str} {bsx2 subx2:List Value} {snx2:List Str} {abx2:Bool} {colx2:Option Bool} {ddx2 odx2 anx2:Option Addr} {k0x2 k1x2 k2x2 k3x2 k5x2:Option Value} {slx2:Array (Option Value)} {ocx2 kVx2 dcx2 pmx2 cdx2 ctx2:Value}
  (ax2:nsIn K mainGlobals "NoPaper"=some (some (.ref Cx2))) (lx2:K.lookup Cx2=some (excClassObj nmx2 qx2 Cx2 Nx2 bsx2 (.ref Bx2::vmB) true snx2 subx2 abx2 colx2 ddx2 k0x2 k1x2 k2x2 k3x2 k5x2 "ValueError.__new__"))
  (tx2:PySem.W.tailIn K vmB (.ref Bx2::vmB)=true) (ix2:findIn K (.ref Cx2) "__init__"=some (some (.ref Fx2))) (nx2:PySem.W.isFn K (.ref Fx2)=true) (px2:keepIn K (.ref Cx2)=true)
  (fx2:K.lookup Fx2=some ⟨ocx2,odx2,.func (fnOf "__init__" "NoPaper.__init__" (defArgs (inClass (top 5) 0)) (defBody (inClass (top 5) 0)) (defScope (inClass (top 5) 0)) .none kVx2 dcx2 pmx2 anx2 cdx2 ctx2),slx2⟩) (cx2:codeIn K cdx2 "NoPaper.__init__"=true) (kx2:keepIn K (.ref Fx2)=true)
  (sax2:findIn K (.ref Cx2) "__setattr__"=some (some (.builtin "object.__setattr__"))) (gax2:findIn K (.ref Cx2) "__getattribute__"=some (some (.builtin "BaseException.__getattribute__"))) (ghx2:findIn K (.ref Cx2) "__getattr__"=some none) (cax2:findIn K (.ref Cx2) "__class__"=some (some (.builtin "object.__class__")))
  (cgx2:PySem.W.specialIn K (.builtin "object.__class__") "__get__"=some (some (.builtin "getset_descriptor.__get__"))) (ct2x2:PySem.W.takesIn K (.builtin "object.__class__")=some true) (pbx2:nsIn K mainGlobals "PowerError"=some (some (.ref Bx2)))
  (ff0x2:findIn K (.ref Cx2) "word"=some none)
  (ff1x2:findIn K (.ref Cx2) "place"=some none)
  {Cx3 Bx3 Fx3 Nx3:Addr} {nmx3 qx3:Str} {bsx3 subx3:List Value} {snx3:List Str} {abx3:Bool} {colx3:Option Bool} {ddx3 odx3 anx3:Option Addr} {k0x3 k1x3 k2x3 k3x3 k5x3:Option Value} {slx3:Array (Option Value)} {ocx3 kVx3 dcx3 pmx3 cdx3 ctx3:Value}
  (ax3:nsIn K mainGlobals "NoRest"=some (some (.ref Cx3))) (lx3:K.lookup Cx3=some (excClassObj nmx3 qx3 Cx3 Nx3 bsx3 (.ref Bx3::vmB) true snx3 subx3 abx3 colx3 ddx3 k0x3 k1x3 k2x3 k3x3 k5x3 "ValueError.__new__"))
  (tx3:PySem.W.tailIn K vmB (.ref Bx3::vmB)=true) (ix3:findIn K (.ref Cx3) "__init__"=some (some (.ref Fx3))) (nx3:PySem.W.isFn K (.ref Fx3)=true) (px3:keepIn K (.ref Cx3)=true)
  (fx3:K.lookup Fx3=some ⟨ocx3,odx3,.func (fnOf "__init__" "NoRest.__init__" (defArgs (inClass (top 3) 0)) (defBody (inClass (top 3) 0)) (defScope (inClass (top 3) 0)) .none kVx3 dcx3 pmx3 anx3 cdx3 ctx3),slx3⟩) (cx3:codeIn K cdx3 "NoRest.__init__"=true) (kx3:keepIn K (.ref Fx3)=true)
  (sax3:findIn K (.ref Cx3) "__setattr__"=some (some (.builtin "object.__setattr__"))) (gax3:findIn K (.ref Cx3) "__getattribute__"=some (some (.builtin "BaseException.__getattribute__"))) (ghx3:findIn K (.ref Cx3) "__getattr__"=some none) (cax3:findIn K (.ref Cx3) "__class__"=some (some (.builtin "object.__class__")))
  (cgx3:PySem.W.specialIn K (.builtin "object.__class__") "__get__"=some (some (.builtin "getset_descriptor.__get__"))) (ct2x3:PySem.W.takesIn K (.builtin "object.__class__")=some true) (pbx3:nsIn K mainGlobals "PowerError"=some (some (.ref Bx3)))
  (ff0x3:findIn K (.ref Cx3) "number"=some none)
  (ff1x3:findIn K (.ref Cx3) "prime"=some none)
  {Cx4 Bx4 Fx4 Nx4:Addr} {nmx4 qx4:Str} {bsx4 subx4:List Value} {snx4:List Str} {abx4:Bool} {colx4:Option Bool} {ddx4 odx4 anx4:Option Addr} {k0x4 k1x4 k2x4 k3x4 k5x4:Option Value} {slx4:Array (Option Value)} {ocx4 kVx4 dcx4 pmx4 cdx4 ctx4:Value}
  (ax4:nsIn K mainGlobals "NoRow"=some (some (.ref Cx4))) (lx4:K.lookup Cx4=some (excClassObj nmx4 qx4 Cx4 Nx4 bsx4 (.ref Bx4::vmB) true snx4 subx4 abx4 colx4 ddx4 k0x4 k1x4 k2x4 k3x4 k5x4 "ValueError.__new__"))
  (tx4:PySem.W.tailIn K vmB (.ref Bx4::vmB)=true) (ix4:findIn K (.ref Cx4) "__init__"=some (some (.ref Fx4))) (nx4:PySem.W.isFn K (.ref Fx4)=true) (px4:keepIn K (.ref Cx4)=true)
  (fx4:K.lookup Fx4=some ⟨ocx4,odx4,.func (fnOf "__init__" "NoRow.__init__" (defArgs (inClass (top 4) 0)) (defBody (inClass (top 4) 0)) (defScope (inClass (top 4) 0)) .none kVx4 dcx4 pmx4 anx4 cdx4 ctx4),slx4⟩) (cx4:codeIn K cdx4 "NoRow.__init__"=true) (kx4:keepIn K (.ref Fx4)=true)
  (sax4:findIn K (.ref Cx4) "__setattr__"=some (some (.builtin "object.__setattr__"))) (gax4:findIn K (.ref Cx4) "__getattribute__"=some (some (.builtin "BaseException.__getattribute__"))) (ghx4:findIn K (.ref Cx4) "__getattr__"=some none) (cax4:findIn K (.ref Cx4) "__class__"=some (some (.builtin "object.__class__")))
  (cgx4:PySem.W.specialIn K (.builtin "object.__class__") "__get__"=some (some (.builtin "getset_descriptor.__get__"))) (ct2x4:PySem.W.takesIn K (.builtin "object.__class__")=some true) (pbx4:nsIn K mainGlobals "PowerError"=some (some (.ref Bx4)))
  (ff0x4:findIn K (.ref Cx4) "word"=some none)
  (ff1x4:findIn K (.ref Cx4) "place"=some none)
  {Cx5 Bx5 Fx5 Nx5:Addr} {nmx5 qx5:Str} {bsx5 subx5:List Value} {snx5:List Str} {abx5:Bool} {colx5:Option Bool} {ddx5 odx5 anx5:Option Addr} {k0x5 k1x5 k2x5 k3x5 k5x5:Option Value} {slx5:Array (Option Value)} {ocx5 kVx5 dcx5 pmx5 cdx5 ctx5:Value}
  (ax5:nsIn K mainGlobals "NoShare"=some (some (.ref Cx5))) (lx5:K.lookup Cx5=some (excClassObj nmx5 qx5 Cx5 Nx5 bsx5 (.ref Bx5::vmB) true snx5 subx5 abx5 colx5 ddx5 k0x5 k1x5 k2x5 k3x5 k5x5 "ValueError.__new__"))
  (tx5:PySem.W.tailIn K vmB (.ref Bx5::vmB)=true) (ix5:findIn K (.ref Cx5) "__init__"=some (some (.ref Fx5))) (nx5:PySem.W.isFn K (.ref Fx5)=true) (px5:keepIn K (.ref Cx5)=true)
  (fx5:K.lookup Fx5=some ⟨ocx5,odx5,.func (fnOf "__init__" "NoShare.__init__" (defArgs (inClass (top 2) 0)) (defBody (inClass (top 2) 0)) (defScope (inClass (top 2) 0)) .none kVx5 dcx5 pmx5 anx5 cdx5 ctx5),slx5⟩) (cx5:codeIn K cdx5 "NoShare.__init__"=true) (kx5:keepIn K (.ref Fx5)=true)
  (sax5:findIn K (.ref Cx5) "__setattr__"=some (some (.builtin "object.__setattr__"))) (gax5:findIn K (.ref Cx5) "__getattribute__"=some (some (.builtin "BaseException.__getattribute__"))) (ghx5:findIn K (.ref Cx5) "__getattr__"=some none) (cax5:findIn K (.ref Cx5) "__class__"=some (some (.builtin "object.__class__")))
  (cgx5:PySem.W.specialIn K (.builtin "object.__class__") "__get__"=some (some (.builtin "getset_descriptor.__get__"))) (ct2x5:PySem.W.takesIn K (.builtin "object.__class__")=some true) (pbx5:nsIn K mainGlobals "PowerError"=some (some (.ref Bx5)))
  (ff0x5:findIn K (.ref Cx5) "word"=some none)
  {Cx6 Bx6 Fx6 Nx6:Addr} {nmx6 qx6:Str} {bsx6 subx6:List Value} {snx6:List Str} {abx6:Bool} {colx6:Option Bool} {ddx6 odx6 anx6:Option Addr} {k0x6 k1x6 k2x6 k3x6 k5x6:Option Value} {slx6:Array (Option Value)} {ocx6 kVx6 dcx6 pmx6 cdx6 ctx6:Value}
  (ax6:nsIn K mainGlobals "NoText"=some (some (.ref Cx6))) (lx6:K.lookup Cx6=some (excClassObj nmx6 qx6 Cx6 Nx6 bsx6 (.ref Bx6::vmB) true snx6 subx6 abx6 colx6 ddx6 k0x6 k1x6 k2x6 k3x6 k5x6 "ValueError.__new__"))
  (tx6:PySem.W.tailIn K vmB (.ref Bx6::vmB)=true) (ix6:findIn K (.ref Cx6) "__init__"=some (some (.ref Fx6))) (nx6:PySem.W.isFn K (.ref Fx6)=true) (px6:keepIn K (.ref Cx6)=true)
  (fx6:K.lookup Fx6=some ⟨ocx6,odx6,.func (fnOf "__init__" "NoText.__init__" (defArgs (inClass (top 7) 0)) (defBody (inClass (top 7) 0)) (defScope (inClass (top 7) 0)) .none kVx6 dcx6 pmx6 anx6 cdx6 ctx6),slx6⟩) (cx6:codeIn K cdx6 "NoText.__init__"=true) (kx6:keepIn K (.ref Fx6)=true)
  (sax6:findIn K (.ref Cx6) "__setattr__"=some (some (.builtin "object.__setattr__"))) (gax6:findIn K (.ref Cx6) "__getattribute__"=some (some (.builtin "BaseException.__getattribute__"))) (ghx6:findIn K (.ref Cx6) "__getattr__"=some none) (cax6:findIn K (.ref Cx6) "__class__"=some (some (.builtin "object.__class__")))
  (cgx6:PySem.W.specialIn K (.builtin "object.__class__") "__get__"=some (some (.builtin "getset_descriptor.__get__"))) (ct2x6:PySem.W.takesIn K (.builtin "object.__class__")=some true) (pbx6:nsIn K mainGlobals "PowerError"=some (some (.ref Bx6)))
  (ff0x6:findIn K (.ref Cx6) "word"=some none)
  (ff1x6:findIn K (.ref Cx6) "place"=some none)
  {Cx7 Bx7 Fx7 Nx7:Addr} {nmx7 qx7:Str} {bsx7 subx7:List Value} {snx7:List Str} {abx7:Bool} {colx7:Option Bool} {ddx7 odx7 anx7:Option Addr} {k0x7 k1x7 k2x7 k3x7 k5x7:Option Value} {slx7:Array (Option Value)} {ocx7 kVx7 dcx7 pmx7 cdx7 ctx7:Value}
  (ax7:nsIn K mainGlobals "NoTurn"=some (some (.ref Cx7))) (lx7:K.lookup Cx7=some (excClassObj nmx7 qx7 Cx7 Nx7 bsx7 (.ref Bx7::vmB) true snx7 subx7 abx7 colx7 ddx7 k0x7 k1x7 k2x7 k3x7 k5x7 "ValueError.__new__"))
  (tx7:PySem.W.tailIn K vmB (.ref Bx7::vmB)=true) (ix7:findIn K (.ref Cx7) "__init__"=some (some (.ref Fx7))) (nx7:PySem.W.isFn K (.ref Fx7)=true) (px7:keepIn K (.ref Cx7)=true)
  (fx7:K.lookup Fx7=some ⟨ocx7,odx7,.func (fnOf "__init__" "NoTurn.__init__" (defArgs (inClass (top 6) 0)) (defBody (inClass (top 6) 0)) (defScope (inClass (top 6) 0)) .none kVx7 dcx7 pmx7 anx7 cdx7 ctx7),slx7⟩) (cx7:codeIn K cdx7 "NoTurn.__init__"=true) (kx7:keepIn K (.ref Fx7)=true)
  (sax7:findIn K (.ref Cx7) "__setattr__"=some (some (.builtin "object.__setattr__"))) (gax7:findIn K (.ref Cx7) "__getattribute__"=some (some (.builtin "BaseException.__getattribute__"))) (ghx7:findIn K (.ref Cx7) "__getattr__"=some none) (cax7:findIn K (.ref Cx7) "__class__"=some (some (.builtin "object.__class__")))
  (cgx7:PySem.W.specialIn K (.builtin "object.__class__") "__get__"=some (some (.builtin "getset_descriptor.__get__"))) (ct2x7:PySem.W.takesIn K (.builtin "object.__class__")=some true) (pbx7:nsIn K mainGlobals "PowerError"=some (some (.ref Bx7)))
  (ff0x7:findIn K (.ref Cx7) "word"=some none)
  (ff1x7:findIn K (.ref Cx7) "thing"=some none)
  {Ch1 Nh1:Addr} {nmh1 qh1:Str} {bsh1 bmh1 subh1:List Value} {snh1:List Str} {hdh1 abh1:Bool} {colh1:Option Bool} {ddh1:Option Addr} {k0h1 k1h1 k2h1 k3h1 k5h1:Option Value} {nih1:String}
  (ah1:nsIn K mainGlobals "PowerError"=some (some (.ref Ch1))) (lh1:K.lookup Ch1=some (excClassObj nmh1 qh1 Ch1 Nh1 bsh1 bmh1 hdh1 snh1 subh1 abh1 colh1 ddh1 k0h1 k1h1 k2h1 k3h1 k5h1 nih1)) (bh1:bmh1.contains (.type "BaseException")=true)
  {Cn1:Addr} (an1:nsIn K mainGlobals "NoLine"=some (some (.ref Cn1)))
  {Cn2:Addr} (an2:nsIn K mainGlobals "NoPaper"=some (some (.ref Cn2)))
  {Cn3:Addr} (an3:nsIn K mainGlobals "NoRest"=some (some (.ref Cn3)))
  {Cn4:Addr} (an4:nsIn K mainGlobals "NoRow"=some (some (.ref Cn4)))
  {Cn5:Addr} (an5:nsIn K mainGlobals "NoShare"=some (some (.ref Cn5)))
  {Cn6:Addr} (an6:nsIn K mainGlobals "NoText"=some (some (.ref Cn6)))
  {Cn7:Addr} (an7:nsIn K mainGlobals "NoTurn"=some (some (.ref Cn7)))
  (ktx1_n1:kitOne K (.ref Cx1) (.ref Cn1)=some true)
  (ktx1_n2:kitOne K (.ref Cx1) (.ref Cn2)=some false)
  (ktx1_n3:kitOne K (.ref Cx1) (.ref Cn3)=some false)
  (ktx1_n4:kitOne K (.ref Cx1) (.ref Cn4)=some false)
  (ktx1_n5:kitOne K (.ref Cx1) (.ref Cn5)=some false)
  (ktx1_n6:kitOne K (.ref Cx1) (.ref Cn6)=some false)
  (ktx1_n7:kitOne K (.ref Cx1) (.ref Cn7)=some false)
  (vtx1:kitOne K (.ref Cx1) (.type "ValueError")=some true)
  (ktx2_n1:kitOne K (.ref Cx2) (.ref Cn1)=some false)
  (ktx2_n2:kitOne K (.ref Cx2) (.ref Cn2)=some true)
  (ktx2_n3:kitOne K (.ref Cx2) (.ref Cn3)=some false)
  (ktx2_n4:kitOne K (.ref Cx2) (.ref Cn4)=some false)
  (ktx2_n5:kitOne K (.ref Cx2) (.ref Cn5)=some false)
  (ktx2_n6:kitOne K (.ref Cx2) (.ref Cn6)=some false)
  (ktx2_n7:kitOne K (.ref Cx2) (.ref Cn7)=some false)
  (vtx2:kitOne K (.ref Cx2) (.type "ValueError")=some true)
  (ktx3_n1:kitOne K (.ref Cx3) (.ref Cn1)=some false)
  (ktx3_n2:kitOne K (.ref Cx3) (.ref Cn2)=some false)
  (ktx3_n3:kitOne K (.ref Cx3) (.ref Cn3)=some true)
  (ktx3_n4:kitOne K (.ref Cx3) (.ref Cn4)=some false)
  (ktx3_n5:kitOne K (.ref Cx3) (.ref Cn5)=some false)
  (ktx3_n6:kitOne K (.ref Cx3) (.ref Cn6)=some false)
  (ktx3_n7:kitOne K (.ref Cx3) (.ref Cn7)=some false)
  (vtx3:kitOne K (.ref Cx3) (.type "ValueError")=some true)
  (ktx4_n1:kitOne K (.ref Cx4) (.ref Cn1)=some false)
  (ktx4_n2:kitOne K (.ref Cx4) (.ref Cn2)=some false)
  (ktx4_n3:kitOne K (.ref Cx4) (.ref Cn3)=some false)
  (ktx4_n4:kitOne K (.ref Cx4) (.ref Cn4)=some true)
  (ktx4_n5:kitOne K (.ref Cx4) (.ref Cn5)=some false)
  (ktx4_n6:kitOne K (.ref Cx4) (.ref Cn6)=some false)
  (ktx4_n7:kitOne K (.ref Cx4) (.ref Cn7)=some false)
  (vtx4:kitOne K (.ref Cx4) (.type "ValueError")=some true)
  (ktx5_n1:kitOne K (.ref Cx5) (.ref Cn1)=some false)
  (ktx5_n2:kitOne K (.ref Cx5) (.ref Cn2)=some false)
  (ktx5_n3:kitOne K (.ref Cx5) (.ref Cn3)=some false)
  (ktx5_n4:kitOne K (.ref Cx5) (.ref Cn4)=some false)
  (ktx5_n5:kitOne K (.ref Cx5) (.ref Cn5)=some true)
  (ktx5_n6:kitOne K (.ref Cx5) (.ref Cn6)=some false)
  (ktx5_n7:kitOne K (.ref Cx5) (.ref Cn7)=some false)
  (vtx5:kitOne K (.ref Cx5) (.type "ValueError")=some true)
  (ktx6_n1:kitOne K (.ref Cx6) (.ref Cn1)=some false)
  (ktx6_n2:kitOne K (.ref Cx6) (.ref Cn2)=some false)
  (ktx6_n3:kitOne K (.ref Cx6) (.ref Cn3)=some false)
  (ktx6_n4:kitOne K (.ref Cx6) (.ref Cn4)=some false)
  (ktx6_n5:kitOne K (.ref Cx6) (.ref Cn5)=some false)
  (ktx6_n6:kitOne K (.ref Cx6) (.ref Cn6)=some true)
  (ktx6_n7:kitOne K (.ref Cx6) (.ref Cn7)=some false)
  (vtx6:kitOne K (.ref Cx6) (.type "ValueError")=some true)
  (ktx7_n1:kitOne K (.ref Cx7) (.ref Cn1)=some false)
  (ktx7_n2:kitOne K (.ref Cx7) (.ref Cn2)=some false)
  (ktx7_n3:kitOne K (.ref Cx7) (.ref Cn3)=some false)
  (ktx7_n4:kitOne K (.ref Cx7) (.ref Cn4)=some false)
  (ktx7_n5:kitOne K (.ref Cx7) (.ref Cn5)=some false)
  (ktx7_n6:kitOne K (.ref Cx7) (.ref Cn6)=some false)
  (ktx7_n7:kitOne K (.ref Cx7) (.ref Cn7)=some true)
  (vtx7:kitOne K (.ref Cx7) (.type "ValueError")=some true) :
  ∃fd:FuncData,(∀(s:Shared) (v:Value),BindsTo s fd ⟨[v],[]⟩ [("_law_script",v)])∧∀base:Heap,K.In base→base.Ns mainGlobals mg→FnOk l.prog w K mg base CX0 5 fa fd ["_law_script"] (sp_law K):=by
 have T:Txt K mg:=⟨srcOf X G q1,srcOf X G q2,srcOf X G q3,srcOf X G q4,srcOf X G q5,srcOf X G q6,srcOf X G q7,⟨f8,_,fun_mk l8 c8 k8,mg_of X G a8⟩,mg_none_of X G z1,mg_none_of X G z2,mg_none_of X G z3,mg_none_of X G z4,mg_none_of X G z5,mg_none_of X G z6,mg_none_of X G z7,⟨_,_,_,_,⟨mg_of X G ax1,⟨_,_,_,_,_,_,_,_,_,_,_,_,_,_,_,lx1⟩,tx1,ix1,nx1,px1,fun_mk fx1 cx1 kx1,xcls_mk lx1 sax1 gax1 ghx1 cax1 cgx1 ct2x1⟩,ax1,pbx1,by intro z hz;simp only[List.mem_cons,List.mem_singleton,List.not_mem_nil,or_false]at hz;subst hz;exact ff0x1⟩,⟨_,_,_,_,⟨mg_of X G ax2,⟨_,_,_,_,_,_,_,_,_,_,_,_,_,_,_,lx2⟩,tx2,ix2,nx2,px2,fun_mk fx2 cx2 kx2,xcls_mk lx2 sax2 gax2 ghx2 cax2 cgx2 ct2x2⟩,ax2,pbx2,by intro z hz;simp only[List.mem_cons,List.mem_singleton,List.not_mem_nil,or_false]at hz;rcases hz with rfl | rfl <;> first | exact ff0x2 | exact ff1x2⟩,⟨_,_,_,_,⟨mg_of X G ax3,⟨_,_,_,_,_,_,_,_,_,_,_,_,_,_,_,lx3⟩,tx3,ix3,nx3,px3,fun_mk fx3 cx3 kx3,xcls_mk lx3 sax3 gax3 ghx3 cax3 cgx3 ct2x3⟩,ax3,pbx3,by intro z hz;simp only[List.mem_cons,List.mem_singleton,List.not_mem_nil,or_false]at hz;rcases hz with rfl | rfl <;> first | exact ff0x3 | exact ff1x3⟩,⟨_,_,_,_,⟨mg_of X G ax4,⟨_,_,_,_,_,_,_,_,_,_,_,_,_,_,_,lx4⟩,tx4,ix4,nx4,px4,fun_mk fx4 cx4 kx4,xcls_mk lx4 sax4 gax4 ghx4 cax4 cgx4 ct2x4⟩,ax4,pbx4,by intro z hz;simp only[List.mem_cons,List.mem_singleton,List.not_mem_nil,or_false]at hz;rcases hz with rfl | rfl <;> first | exact ff0x4 | exact ff1x4⟩,⟨_,_,_,_,⟨mg_of X G ax5,⟨_,_,_,_,_,_,_,_,_,_,_,_,_,_,_,lx5⟩,tx5,ix5,nx5,px5,fun_mk fx5 cx5 kx5,xcls_mk lx5 sax5 gax5 ghx5 cax5 cgx5 ct2x5⟩,ax5,pbx5,by intro z hz;simp only[List.mem_cons,List.mem_singleton,List.not_mem_nil,or_false]at hz;subst hz;exact ff0x5⟩,⟨_,_,_,_,⟨mg_of X G ax6,⟨_,_,_,_,_,_,_,_,_,_,_,_,_,_,_,lx6⟩,tx6,ix6,nx6,px6,fun_mk fx6 cx6 kx6,xcls_mk lx6 sax6 gax6 ghx6 cax6 cgx6 ct2x6⟩,ax6,pbx6,by intro z hz;simp only[List.mem_cons,List.mem_singleton,List.not_mem_nil,or_false]at hz;rcases hz with rfl | rfl <;> first | exact ff0x6 | exact ff1x6⟩,⟨_,_,_,_,⟨mg_of X G ax7,⟨_,_,_,_,_,_,_,_,_,_,_,_,_,_,_,lx7⟩,tx7,ix7,nx7,px7,fun_mk fx7 cx7 kx7,xcls_mk lx7 sax7 gax7 ghx7 cax7 cgx7 ct2x7⟩,ax7,pbx7,by intro z hz;simp only[List.mem_cons,List.mem_singleton,List.not_mem_nil,or_false]at hz;rcases hz with rfl | rfl <;> first | exact ff0x7 | exact ff1x7⟩,⟨_,_,_,_,_,_,_,_,_,_,_,_,_,_,_,_,_,_,mg_of X G ah1,ah1,lh1,bh1⟩,⟨_,mg_of X G an1,an1⟩,⟨_,mg_of X G an2,an2⟩,⟨_,mg_of X G an3,an3⟩,⟨_,mg_of X G an4,an4⟩,⟨_,mg_of X G an5,an5⟩,⟨_,mg_of X G an6,an6⟩,⟨_,mg_of X G an7,an7⟩,fun C D h1 h2=>by have e1:=ClsK.inj h1 ax1;have e2:=ClsK.inj h2 an1;subst e1 e2;exact ktx1_n1,fun C D h1 h2=>by have e1:=ClsK.inj h1 ax1;have e2:=ClsK.inj h2 an2;subst e1 e2;exact ktx1_n2,fun C D h1 h2=>by have e1:=ClsK.inj h1 ax1;have e2:=ClsK.inj h2 an3;subst e1 e2;exact ktx1_n3,fun C D h1 h2=>by have e1:=ClsK.inj h1 ax1;have e2:=ClsK.inj h2 an4;subst e1 e2;exact ktx1_n4,fun C D h1 h2=>by have e1:=ClsK.inj h1 ax1;have e2:=ClsK.inj h2 an5;subst e1 e2;exact ktx1_n5,fun C D h1 h2=>by have e1:=ClsK.inj h1 ax1;have e2:=ClsK.inj h2 an6;subst e1 e2;exact ktx1_n6,fun C D h1 h2=>by have e1:=ClsK.inj h1 ax1;have e2:=ClsK.inj h2 an7;subst e1 e2;exact ktx1_n7,fun C h1=>by have e1:=ClsK.inj h1 ax1;subst e1;exact vtx1,fun C D h1 h2=>by have e1:=ClsK.inj h1 ax2;have e2:=ClsK.inj h2 an1;subst e1 e2;exact ktx2_n1,fun C D h1 h2=>by have e1:=ClsK.inj h1 ax2;have e2:=ClsK.inj h2 an2;subst e1 e2;exact ktx2_n2,fun C D h1 h2=>by have e1:=ClsK.inj h1 ax2;have e2:=ClsK.inj h2 an3;subst e1 e2;exact ktx2_n3,fun C D h1 h2=>by have e1:=ClsK.inj h1 ax2;have e2:=ClsK.inj h2 an4;subst e1 e2;exact ktx2_n4,fun C D h1 h2=>by have e1:=ClsK.inj h1 ax2;have e2:=ClsK.inj h2 an5;subst e1 e2;exact ktx2_n5,fun C D h1 h2=>by have e1:=ClsK.inj h1 ax2;have e2:=ClsK.inj h2 an6;subst e1 e2;exact ktx2_n6,fun C D h1 h2=>by have e1:=ClsK.inj h1 ax2;have e2:=ClsK.inj h2 an7;subst e1 e2;exact ktx2_n7,fun C h1=>by have e1:=ClsK.inj h1 ax2;subst e1;exact vtx2,fun C D h1 h2=>by have e1:=ClsK.inj h1 ax3;have e2:=ClsK.inj h2 an1;subst e1 e2;exact ktx3_n1,fun C D h1 h2=>by have e1:=ClsK.inj h1 ax3;have e2:=ClsK.inj h2 an2;subst e1 e2;exact ktx3_n2,fun C D h1 h2=>by have e1:=ClsK.inj h1 ax3;have e2:=ClsK.inj h2 an3;subst e1 e2;exact ktx3_n3,fun C D h1 h2=>by have e1:=ClsK.inj h1 ax3;have e2:=ClsK.inj h2 an4;subst e1 e2;exact ktx3_n4,fun C D h1 h2=>by have e1:=ClsK.inj h1 ax3;have e2:=ClsK.inj h2 an5;subst e1 e2;exact ktx3_n5,fun C D h1 h2=>by have e1:=ClsK.inj h1 ax3;have e2:=ClsK.inj h2 an6;subst e1 e2;exact ktx3_n6,fun C D h1 h2=>by have e1:=ClsK.inj h1 ax3;have e2:=ClsK.inj h2 an7;subst e1 e2;exact ktx3_n7,fun C h1=>by have e1:=ClsK.inj h1 ax3;subst e1;exact vtx3,fun C D h1 h2=>by have e1:=ClsK.inj h1 ax4;have e2:=ClsK.inj h2 an1;subst e1 e2;exact ktx4_n1,fun C D h1 h2=>by have e1:=ClsK.inj h1 ax4;have e2:=ClsK.inj h2 an2;subst e1 e2;exact ktx4_n2,fun C D h1 h2=>by have e1:=ClsK.inj h1 ax4;have e2:=ClsK.inj h2 an3;subst e1 e2;exact ktx4_n3,fun C D h1 h2=>by have e1:=ClsK.inj h1 ax4;have e2:=ClsK.inj h2 an4;subst e1 e2;exact ktx4_n4,fun C D h1 h2=>by have e1:=ClsK.inj h1 ax4;have e2:=ClsK.inj h2 an5;subst e1 e2;exact ktx4_n5,fun C D h1 h2=>by have e1:=ClsK.inj h1 ax4;have e2:=ClsK.inj h2 an6;subst e1 e2;exact ktx4_n6,fun C D h1 h2=>by have e1:=ClsK.inj h1 ax4;have e2:=ClsK.inj h2 an7;subst e1 e2;exact ktx4_n7,fun C h1=>by have e1:=ClsK.inj h1 ax4;subst e1;exact vtx4,fun C D h1 h2=>by have e1:=ClsK.inj h1 ax5;have e2:=ClsK.inj h2 an1;subst e1 e2;exact ktx5_n1,fun C D h1 h2=>by have e1:=ClsK.inj h1 ax5;have e2:=ClsK.inj h2 an2;subst e1 e2;exact ktx5_n2,fun C D h1 h2=>by have e1:=ClsK.inj h1 ax5;have e2:=ClsK.inj h2 an3;subst e1 e2;exact ktx5_n3,fun C D h1 h2=>by have e1:=ClsK.inj h1 ax5;have e2:=ClsK.inj h2 an4;subst e1 e2;exact ktx5_n4,fun C D h1 h2=>by have e1:=ClsK.inj h1 ax5;have e2:=ClsK.inj h2 an5;subst e1 e2;exact ktx5_n5,fun C D h1 h2=>by have e1:=ClsK.inj h1 ax5;have e2:=ClsK.inj h2 an6;subst e1 e2;exact ktx5_n6,fun C D h1 h2=>by have e1:=ClsK.inj h1 ax5;have e2:=ClsK.inj h2 an7;subst e1 e2;exact ktx5_n7,fun C h1=>by have e1:=ClsK.inj h1 ax5;subst e1;exact vtx5,fun C D h1 h2=>by have e1:=ClsK.inj h1 ax6;have e2:=ClsK.inj h2 an1;subst e1 e2;exact ktx6_n1,fun C D h1 h2=>by have e1:=ClsK.inj h1 ax6;have e2:=ClsK.inj h2 an2;subst e1 e2;exact ktx6_n2,fun C D h1 h2=>by have e1:=ClsK.inj h1 ax6;have e2:=ClsK.inj h2 an3;subst e1 e2;exact ktx6_n3,fun C D h1 h2=>by have e1:=ClsK.inj h1 ax6;have e2:=ClsK.inj h2 an4;subst e1 e2;exact ktx6_n4,fun C D h1 h2=>by have e1:=ClsK.inj h1 ax6;have e2:=ClsK.inj h2 an5;subst e1 e2;exact ktx6_n5,fun C D h1 h2=>by have e1:=ClsK.inj h1 ax6;have e2:=ClsK.inj h2 an6;subst e1 e2;exact ktx6_n6,fun C D h1 h2=>by have e1:=ClsK.inj h1 ax6;have e2:=ClsK.inj h2 an7;subst e1 e2;exact ktx6_n7,fun C h1=>by have e1:=ClsK.inj h1 ax6;subst e1;exact vtx6,fun C D h1 h2=>by have e1:=ClsK.inj h1 ax7;have e2:=ClsK.inj h2 an1;subst e1 e2;exact ktx7_n1,fun C D h1 h2=>by have e1:=ClsK.inj h1 ax7;have e2:=ClsK.inj h2 an2;subst e1 e2;exact ktx7_n2,fun C D h1 h2=>by have e1:=ClsK.inj h1 ax7;have e2:=ClsK.inj h2 an3;subst e1 e2;exact ktx7_n3,fun C D h1 h2=>by have e1:=ClsK.inj h1 ax7;have e2:=ClsK.inj h2 an4;subst e1 e2;exact ktx7_n4,fun C D h1 h2=>by have e1:=ClsK.inj h1 ax7;have e2:=ClsK.inj h2 an5;subst e1 e2;exact ktx7_n5,fun C D h1 h2=>by have e1:=ClsK.inj h1 ax7;have e2:=ClsK.inj h2 an6;subst e1 e2;exact ktx7_n6,fun C D h1 h2=>by have e1:=ClsK.inj h1 ax7;have e2:=ClsK.inj h2 an7;subst e1 e2;exact ktx7_n7,fun C h1=>by have e1:=ClsK.inj h1 ax7;subst e1;exact vtx7⟩
 have e:=hfa.symm.trans (mg_of X G a8)
 cases e
 refine ⟨fnOf "law" "law" (defArgs s_law) (defBody s_law) (defScope s_law) .none kV8 dc8 pm8 an8 cd8 ct8,fun s v=>.of_eq rfl,fun base _ _=>?_⟩
 exact o_law T (fun_mk l8 c8 k8) (mg_of X G a8)
theorem walk {l : PySem.W.OpenLaw} {q : Program} {loose : List Str} {XP : (Str → Option Value) → Heap → Prop} {YP : World → Heap → Prop} {d : DefRec} {K : Params → PySem.W.Frag} (hn : l.most = some 63) (hdf : d.params.defaults = [])
  (hY:∀(w:World) (h:Heap),YP w h→(K w.params).In h)
  (F:∀(w:World) (mg:Str→Option Value) (fa:Addr) (h:Heap),(K w.params).In h→h.Ns mainGlobals mg→mg d.name=some (.ref fa)→
   ∃fd:FuncData,(∀(s:Shared) (u:Value),BindsTo s fd ⟨[u],[]⟩ [("_law_script",u)])∧∀base:Heap,(K w.params).In base→base.Ns mainGlobals mg→FnOk l.prog w (K w.params) mg base CX0 5 fa fd ["_law_script"] (sp_law (K w.params))) :
  PySem.W.WalkO q loose XP YP l.row.toRowW d [] (fun f vs=>PySem.call f vs):=
 L2.walk_of (n:=63) (k:=5) (x:="_law_script") (CX:=fun _=>CX0) (sp:=fun w=>sp_law (K w.params)) hn (by decide) hdf ⟨rfl,by decide,by decide,rfl⟩ hY F (fun _ _ a ns hl _ hS=>⟨a,ns,rfl,hS,hl,fun _=>rfl⟩) fun _ _ _ _ _ z=>z
end My
open PySem PySem.W PyProof.Rows
namespace PySem.W.Fast
theorem tw12715564766383130240:True:=trivial
theorem tw3393289854748766912:True:=trivial
theorem tw5866108730020948036:True:=trivial
theorem tw3335619332407833925:True:=trivial
theorem tw935629474775142664:True:=trivial
theorem tw11021743159238382120:True:=trivial
theorem tw2281174137796968873:True:=trivial
theorem tw3296195064818721385:True:=trivial
theorem tw3797668142259966825:True:=trivial
theorem tw7859622135779787978:True:=trivial
theorem tw728493108092188042:True:=trivial
theorem tw4135267082703043788:True:=trivial
theorem tw12646676044914892076:True:=trivial
theorem tw1101592303846190576:True:=trivial
theorem tw10188569206306358835:True:=trivial
theorem tw15741838937987389782:True:=trivial
theorem tw10499465668172536855:True:=trivial
theorem tw17041876640221188759:True:=trivial
theorem tw11269641350984370135:True:=trivial
theorem tw2997565442960629112:True:=trivial
theorem tw17777720040969032988:True:=trivial
theorem tw612486985079873149:True:=trivial
theorem tw9236842607730065343:True:=trivial
theorem tw17322788499627093897:True:=trivial
end PySem.W.Fast
local macro_rules | `(tactic| walk_at "fq") => `(tactic| (refine' My.fq_mk ?a ?l ?c ?k; (case a => k_is); (case l => k_is); (case c => k_is); (case k => k_is)))
set_option maxRecDepth 100000 in
set_option maxHeartbeats 0 in
theorem PySem.Challenge.cw_powerrests_k21_refusals_holds : PySem.Challenge.rw_powerrests_k21_refusals.Holds := by
 w_on;o_law;k_head;(case hw=>w_witness2)
 k_fill
 refine My.walk (l:=PySem.Challenge.rw_powerrests_k21_refusals) rfl rfl (fun w h Y=>PySem.W.kIn_of Y) ?F
 case F=>
  intro w mg fa h KX G hmg
  refine' My.all_mk KX G hmg _ _ _ _ _ _ _ ?a8 ?l8 ?c8 ?k8 ?z1 ?z2 ?z3 ?z4 ?z5 ?z6 ?z7 ?ax1 ?lx1 ?tx1 ?ix1 ?nx1 ?px1 ?fx1 ?cx1 ?kx1 ?sax1 ?gax1 ?ghx1 ?cax1 ?cgx1 ?ct2x1 ?pbx1 ?ff0x1 ?ax2 ?lx2 ?tx2 ?ix2 ?nx2 ?px2 ?fx2 ?cx2 ?kx2 ?sax2 ?gax2 ?ghx2 ?cax2 ?cgx2 ?ct2x2 ?pbx2 ?ff0x2 ?ff1x2 ?ax3 ?lx3 ?tx3 ?ix3 ?nx3 ?px3 ?fx3 ?cx3 ?kx3 ?sax3 ?gax3 ?ghx3 ?cax3 ?cgx3 ?ct2x3 ?pbx3 ?ff0x3 ?ff1x3 ?ax4 ?lx4 ?tx4 ?ix4 ?nx4 ?px4 ?fx4 ?cx4 ?kx4 ?sax4 ?gax4 ?ghx4 ?cax4 ?cgx4 ?ct2x4 ?pbx4 ?ff0x4 ?ff1x4 ?ax5 ?lx5 ?tx5 ?ix5 ?nx5 ?px5 ?fx5 ?cx5 ?kx5 ?sax5 ?gax5 ?ghx5 ?cax5 ?cgx5 ?ct2x5 ?pbx5 ?ff0x5 ?ax6 ?lx6 ?tx6 ?ix6 ?nx6 ?px6 ?fx6 ?cx6 ?kx6 ?sax6 ?gax6 ?ghx6 ?cax6 ?cgx6 ?ct2x6 ?pbx6 ?ff0x6 ?ff1x6 ?ax7 ?lx7 ?tx7 ?ix7 ?nx7 ?px7 ?fx7 ?cx7 ?kx7 ?sax7 ?gax7 ?ghx7 ?cax7 ?cgx7 ?ct2x7 ?pbx7 ?ff0x7 ?ff1x7 ?ah1 ?lh1 ?bh1 ?an1 ?an2 ?an3 ?an4 ?an5 ?an6 ?an7 ?ktx1_n1 ?ktx1_n2 ?ktx1_n3 ?ktx1_n4 ?ktx1_n5 ?ktx1_n6 ?ktx1_n7 ?vtx1 ?ktx2_n1 ?ktx2_n2 ?ktx2_n3 ?ktx2_n4 ?ktx2_n5 ?ktx2_n6 ?ktx2_n7 ?vtx2 ?ktx3_n1 ?ktx3_n2 ?ktx3_n3 ?ktx3_n4 ?ktx3_n5 ?ktx3_n6 ?ktx3_n7 ?vtx3 ?ktx4_n1 ?ktx4_n2 ?ktx4_n3 ?ktx4_n4 ?ktx4_n5 ?ktx4_n6 ?ktx4_n7 ?vtx4 ?ktx5_n1 ?ktx5_n2 ?ktx5_n3 ?ktx5_n4 ?ktx5_n5 ?ktx5_n6 ?ktx5_n7 ?vtx5 ?ktx6_n1 ?ktx6_n2 ?ktx6_n3 ?ktx6_n4 ?ktx6_n5 ?ktx6_n6 ?ktx6_n7 ?vtx6 ?ktx7_n1 ?ktx7_n2 ?ktx7_n3 ?ktx7_n4 ?ktx7_n5 ?ktx7_n6 ?ktx7_n7 ?vtx7
  iterate 7 (walk_at "fq")
  (case a8=>k_is)
  (case l8=>k_is)
  (case c8=>k_is)
  (case k8=>k_is)
  (case z1=>k_is)
  (case z2=>k_is)
  (case z3=>k_is)
  (case z4=>k_is)
  (case z5=>k_is)
  (case z6=>k_is)
  (case z7=>k_is)
  (case ax1=>k_is)
  (case lx1=>k_is)
  (case tx1=>kernel_rfl)
  (case ix1=>k_is)
  (case nx1=>k_is)
  (case px1=>k_is)
  (case fx1=>k_is)
  (case cx1=>k_is)
  (case kx1=>k_is)
  (case sax1=>k_is)
  (case gax1=>k_is)
  (case ghx1=>k_is)
  (case cax1=>k_is)
  (case cgx1=>k_is)
  (case ct2x1=>k_is)
  (case pbx1=>k_is)
  (case ff0x1=>k_is)
  (case ax2=>k_is)
  (case lx2=>k_is)
  (case tx2=>kernel_rfl)
  (case ix2=>k_is)
  (case nx2=>k_is)
  (case px2=>k_is)
  (case fx2=>k_is)
  (case cx2=>k_is)
  (case kx2=>k_is)
  (case sax2=>k_is)
  (case gax2=>k_is)
  (case ghx2=>k_is)
  (case cax2=>k_is)
  (case cgx2=>k_is)
  (case ct2x2=>k_is)
  (case pbx2=>k_is)
  (case ff0x2=>k_is)
  (case ff1x2=>k_is)
  (case ax3=>k_is)
  (case lx3=>k_is)
  (case tx3=>kernel_rfl)
  (case ix3=>k_is)
  (case nx3=>k_is)
  (case px3=>k_is)
  (case fx3=>k_is)
  (case cx3=>k_is)
  (case kx3=>k_is)
  (case sax3=>k_is)
  (case gax3=>k_is)
  (case ghx3=>k_is)
  (case cax3=>k_is)
  (case cgx3=>k_is)
  (case ct2x3=>k_is)
  (case pbx3=>k_is)
  (case ff0x3=>k_is)
  (case ff1x3=>k_is)
  (case ax4=>k_is)
  (case lx4=>k_is)
  (case tx4=>kernel_rfl)
  (case ix4=>k_is)
  (case nx4=>k_is)
  (case px4=>k_is)
  (case fx4=>k_is)
  (case cx4=>k_is)
  (case kx4=>k_is)
  (case sax4=>k_is)
  (case gax4=>k_is)
  (case ghx4=>k_is)
  (case cax4=>k_is)
  (case cgx4=>k_is)
  (case ct2x4=>k_is)
  (case pbx4=>k_is)
  (case ff0x4=>k_is)
  (case ff1x4=>k_is)
  (case ax5=>k_is)
  (case lx5=>k_is)
  (case tx5=>kernel_rfl)
  (case ix5=>k_is)
  (case nx5=>k_is)
  (case px5=>k_is)
  (case fx5=>k_is)
  (case cx5=>k_is)
  (case kx5=>k_is)
  (case sax5=>k_is)
  (case gax5=>k_is)
  (case ghx5=>k_is)
  (case cax5=>k_is)
  (case cgx5=>k_is)
  (case ct2x5=>k_is)
  (case pbx5=>k_is)
  (case ff0x5=>k_is)
  (case ax6=>k_is)
  (case lx6=>k_is)
  (case tx6=>kernel_rfl)
  (case ix6=>k_is)
  (case nx6=>k_is)
  (case px6=>k_is)
  (case fx6=>k_is)
  (case cx6=>k_is)
  (case kx6=>k_is)
  (case sax6=>k_is)
  (case gax6=>k_is)
  (case ghx6=>k_is)
  (case cax6=>k_is)
  (case cgx6=>k_is)
  (case ct2x6=>k_is)
  (case pbx6=>k_is)
  (case ff0x6=>k_is)
  (case ff1x6=>k_is)
  (case ax7=>k_is)
  (case lx7=>k_is)
  (case tx7=>kernel_rfl)
  (case ix7=>k_is)
  (case nx7=>k_is)
  (case px7=>k_is)
  (case fx7=>k_is)
  (case cx7=>k_is)
  (case kx7=>k_is)
  (case sax7=>k_is)
  (case gax7=>k_is)
  (case ghx7=>k_is)
  (case cax7=>k_is)
  (case cgx7=>k_is)
  (case ct2x7=>k_is)
  (case pbx7=>k_is)
  (case ff0x7=>k_is)
  (case ff1x7=>k_is)
  (case ah1=>k_is)
  (case lh1=>k_is)
  (case bh1=>kernel_rfl)
  (case an1=>k_is)
  (case an2=>k_is)
  (case an3=>k_is)
  (case an4=>k_is)
  (case an5=>k_is)
  (case an6=>k_is)
  (case an7=>k_is)
  (case ktx1_n1=>kernel_rfl)
  (case ktx1_n2=>kernel_rfl)
  (case ktx1_n3=>kernel_rfl)
  (case ktx1_n4=>kernel_rfl)
  (case ktx1_n5=>kernel_rfl)
  (case ktx1_n6=>kernel_rfl)
  (case ktx1_n7=>kernel_rfl)
  (case vtx1=>kernel_rfl)
  (case ktx2_n1=>kernel_rfl)
  (case ktx2_n2=>kernel_rfl)
  (case ktx2_n3=>kernel_rfl)
  (case ktx2_n4=>kernel_rfl)
  (case ktx2_n5=>kernel_rfl)
  (case ktx2_n6=>kernel_rfl)
  (case ktx2_n7=>kernel_rfl)
  (case vtx2=>kernel_rfl)
  (case ktx3_n1=>kernel_rfl)
  (case ktx3_n2=>kernel_rfl)
  (case ktx3_n3=>kernel_rfl)
  (case ktx3_n4=>kernel_rfl)
  (case ktx3_n5=>kernel_rfl)
  (case ktx3_n6=>kernel_rfl)
  (case ktx3_n7=>kernel_rfl)
  (case vtx3=>kernel_rfl)
  (case ktx4_n1=>kernel_rfl)
  (case ktx4_n2=>kernel_rfl)
  (case ktx4_n3=>kernel_rfl)
  (case ktx4_n4=>kernel_rfl)
  (case ktx4_n5=>kernel_rfl)
  (case ktx4_n6=>kernel_rfl)
  (case ktx4_n7=>kernel_rfl)
  (case vtx4=>kernel_rfl)
  (case ktx5_n1=>kernel_rfl)
  (case ktx5_n2=>kernel_rfl)
  (case ktx5_n3=>kernel_rfl)
  (case ktx5_n4=>kernel_rfl)
  (case ktx5_n5=>kernel_rfl)
  (case ktx5_n6=>kernel_rfl)
  (case ktx5_n7=>kernel_rfl)
  (case vtx5=>kernel_rfl)
  (case ktx6_n1=>kernel_rfl)
  (case ktx6_n2=>kernel_rfl)
  (case ktx6_n3=>kernel_rfl)
  (case ktx6_n4=>kernel_rfl)
  (case ktx6_n5=>kernel_rfl)
  (case ktx6_n6=>kernel_rfl)
  (case ktx6_n7=>kernel_rfl)
  (case vtx6=>kernel_rfl)
  (case ktx7_n1=>kernel_rfl)
  (case ktx7_n2=>kernel_rfl)
  (case ktx7_n3=>kernel_rfl)
  (case ktx7_n4=>kernel_rfl)
  (case ktx7_n5=>kernel_rfl)
  (case ktx7_n6=>kernel_rfl)
  (case ktx7_n7=>kernel_rfl)
  (case vtx7=>kernel_rfl)