import PyProof.Rows.All
import Wide.All
import OpenK.AllK
import Wide.FinOn
import PyProof.EqAt
import PyProof.EqKinds
import PyProof.TupleCall
import Lean
import PyProof.Rows.SetFrom
import PyProof.Rows.SortWalk
import KE.KDictList
import KE.KSortedM
import PyProof.WalkInts
import KE.KSortTup
import KE.KRevIter
import KE.KUnpack
import PySem.Challenge.RW_quickchange_k26_whole_three_standings
set_option Elab.async false
set_option linter.all false
set_option maxRecDepth 100000
set_option compiler.extract_closed false
def zm1:=@List.mem_cons_of_mem
def zm2:=@List.mem_cons_self
def zm3:=@List.mem_append_right
def zm4:=@List.mem_append_left
def zm5:=@PySem.Heap.get?_push_of_some
def zm6:=@PySem.Heap.get?_push_size
def zm7:=@PySem.Heap.lt_size
def zm8:=@Nat.le_refl
def zm9:=@Nat.le_trans
def zn1:=@Nat.lt_of_lt_of_le
def zn2:=@Nat.ne_of_lt
def zn3:=@Option.some.inj
def zn4:=@PySem.wpAny_bind
def zn5:=@PySem.wpAny_pure
theorem zp1{α:Type}{a b:α}{l:List α}:a∈b::l->a=b\/a∈l:=List.mem_cons.mp
theorem zp3{α:Type}{a:α}{s t:List α}:a∈s++t->a∈s\/a∈t:=List.mem_append.mp
theorem zp4{α β:Type}{b:β}{x:Option α}{f:α->Option β}:x.bind f=some b->∃a,x=some a/\f a=some b:=Option.bind_eq_some_iff.mp
theorem zp5{α β:Type}{b:β}{x:Option α}{f:α->β}:x.map f=some b->∃a,x=some a/\f a=b:=Option.map_eq_some_iff.mp
theorem zp6{α:Type}{i:Nat}{a:α}{l:List α}:l[i]?=some a->∃h:i<l.length,l[i]=a:=List.getElem?_eq_some_iff.mp
theorem zp7{α:Type}{p:α->Bool}{l:List α}:l.all p=true->∀x∈l,p x=true:=List.all_eq_true.mp
theorem zp8{α β:Type}{b:β}{l:List α}{f:α->β}:b∈l.map f->∃a,a∈l/\f a=b:=List.mem_map.mp
abbrev zFg:=PySem.W.Frag
section
namespace L2
open PySem PySem.Spec PyProof.Rows
noncomputable abbrev Key:=Sum Int Str
noncomputable def keyIs:Key->Value->Bool
 | .inl k,v=>Value.isInt k v
 | .inr x,v=>Value.isStrOf x v
noncomputable def keyH (w:World):Key->Int
 | .inl k=>hashInt k
 | .inr x=>hashStr w x
theorem zAx:∀{k:Key} {v:Value},keyIs k v=true->(∃i t,k=Sum.inl i/\v=Value.int i t)\/(∃x t,k=Sum.inr x/\v=Value.str x t)
 | .inl i,v,h=>by
  obtain⟨t,e⟩:=Value.isInt_shape (k:=i) (v:=v) h;exact .inl ⟨i,t,rfl,e⟩
 | .inr x,v,h=>by
  obtain⟨t,e⟩:=Value.isStrOf_shape (x:=x) (v:=v) h;exact .inr ⟨x,t,rfl,e⟩
theorem zMO (a b:Int):decide ((Sum.inl a:Key)=Sum.inl b)=(a == b):=by
 by_cases e:a=b
 ·subst e; simp
 ·have h:¬(Sum.inl a:Key)=Sum.inl b:=fun q=>e (Sum.inl.inj q);rw[decide_eq_false h];exact (beq_eq_false_iff_ne.mpr e).symm
theorem zML (a b:Str):decide ((Sum.inr a:Key)=Sum.inr b)=decide (a=b):=by
 by_cases e:a=b
 ·subst e; simp
 ·have h:¬(Sum.inr a:Key)=Sum.inr b:=fun q=>e (Sum.inr.inj q);rw[decide_eq_false h,decide_eq_false e]
theorem zMN (a:Int)(b:Str):decide ((Sum.inl a:Key)=Sum.inr b)=false:=decide_eq_false (fun q=>nomatch q)
theorem zMM (a:Str)(b:Int):decide ((Sum.inr a:Key)=Sum.inl b)=false:=decide_eq_false (fun q=>nomatch q)
noncomputable def mixKind (prog:Program)(w:World):PySem.KeyKind prog w Key where
 is:=keyIs
 hash:=keyH w
 inj:=fun v a b ha hb=>by
  rcases zAx ha with ⟨i,t,rfl,rfl⟩ | ⟨x,t,rfl,rfl⟩
  ·rcases zAx hb with ⟨j,u,rfl,e⟩ | ⟨y,u,rfl,e⟩
   ·injection e with e1 _; rw[e1]
   ·exact nomatch e
  ·rcases zAx hb with ⟨j,u,rfl,e⟩ | ⟨y,u,rfl,e⟩
   ·exact nomatch e
   ·injection e with e1 _; rw[e1]
 byValue:=fun k v h=>by
  rcases zAx h with ⟨i,t,rfl,rfl⟩ | ⟨x,t,rfl,rfl⟩ <;> rfl
 pyHash:=fun hv h=>by
  rcases zAx hv with ⟨i,t,rfl,rfl⟩ | ⟨x,t,rfl,rfl⟩
  ·exact wpAny_pyHash_int h
  ·exact wpAny_pyHash_str h
 eqBool:=fun hu hv h=>by
  rcases zAx hu with ⟨i,t,rfl,rfl⟩ | ⟨x,t,rfl,rfl⟩
  ·rcases zAx hv with ⟨j,u,rfl,rfl⟩ | ⟨y,u,rfl,rfl⟩
   ·rw[zMO] at h; exact wpAny_eqBool_int h
   ·rw[zMN] at h; exact SeqAt.EqAt.int_str i t y u _ _ _ _ h
  ·rcases zAx hv with ⟨j,u,rfl,rfl⟩ | ⟨y,u,rfl,rfl⟩
   ·rw[zMM] at h; exact SeqAt.EqAt.str_int x t j u _ _ _ _ h
   ·rw[zML] at h; exact wpAny_eqBool_str h
 «strs»:=fun k x t v h=>by
  rcases zAx h with ⟨i,u,rfl,e⟩ | ⟨y,u,rfl,e⟩
  ·exact nomatch e
  ·injection e with e1 _;subst e1;cases v <;> rfl
end L2
namespace L2
open PySem PySem.Spec PyProof.Rows
inductive V where
 | non | bl (b:Bool) | int (i:Int) | str (x:Str) | byt (b:Array UInt8) | flt (b:UInt64) | ref (a:Addr) | ty (n:String)
 deriving DecidableEq
noncomputable def RelV:V->Value->Prop
 | .non,u=>u=Value.none
 | .bl b,u=>u=Value.bool b
 | .int i,u=>∃t,u=Value.int i t
 | .str x,u=>∃t,u=Value.str x t
 | .byt b,u=>∃t,u=Value.bytes b t
 | .flt b,u=>∃t,u=Value.float b t
 | .ref a,u=>u=Value.ref a
 | .ty n,u=>u=Value.type n
abbrev Vals:List V->List Value->Prop:=Paired RelV
theorem Vals.length {xs:List V}{us:List Value}(r:Vals xs us):xs.length=us.length:=Paired.length r
theorem Vals.get:∀{xs:List V} {us:List Value} {i:Nat} {x:V},Vals xs us->xs[i]? = some x->∃u,us[i]? = some u/\RelV x u
 | _,_,_,_,.nil,e=>by simp at e
 | _,_,0,_,.cons r _,e=>by simp at e; subst e; exact⟨_,rfl,r⟩
 | _,_,i+1,x,.cons _ t,e=>by
  obtain⟨u,h1,h2⟩:=Vals.get (i:=i) (x:=x) t (by simpa using e);exact⟨u,by simpa using h1,h2⟩
theorem Vals.set {x:V}{u:Value}(r:RelV x u):∀{xs:List V} {us:List Value} (i:Nat),Vals xs us->Vals (xs.set i x) (us.set i u)
 | _,_,_,.nil=>.nil
 | _,_,0,.cons _ t=>.cons r t
 | _,_,i+1,.cons q t=>.cons q (Vals.set r i t)
theorem Vals.append:∀{xs ys:List V} {us ws:List Value},Vals xs us->Vals ys ws->Vals (xs++ys) (us++ws)
 | _,_,_,_,.nil,s=>s
 | _,_,_,_,.cons r t,s=>.cons r (Vals.append t s)
theorem Vals.take:∀{xs:List V} {us:List Value} (n:Nat),Vals xs us->Vals (xs.take n) (us.take n)
 | _,_,0,_=>.nil
 | _,_,_+1,.nil=>.nil
 | _,_,n+1,.cons r t=>.cons r (Vals.take n t)
theorem Vals.drop:∀{xs:List V} {us:List Value} (n:Nat),Vals xs us->Vals (xs.drop n) (us.drop n)
 | _,_,0,r=>r
 | _,_,_+1,.nil=>.nil
 | _,_,n+1,.cons _ t=>Vals.drop n t
noncomputable def RelO:Option V->Option Value->Prop
 | some v,some u=>RelV v u
 | none,none=>True
 | _,_=>False
def KV {κ:Type}:List (κ×V)->List (κ×Value)->Prop:=Paired fun (p:κ×V) (q:κ×Value)=>p.1=q.1/\RelV p.2 q.2
noncomputable def kV:Key->V
 | .inl i=>.int i
 | .inr x=>.str x
inductive HO where
 | lst (xs:List V)
 | tup (xs:List V)
 | dK (kvs:List (Key×V)) | dT (kvs:List (List Key×V))
 | set (S:Int->Bool) (n:Nat)
 | ins (C dx:Addr) (fs:List (Str×V))
 | own (x:Addr)
 | exc (C:Addr) (nw:Bool) (fs:List (Str×V))
 | xd (fs:List (Str×V))
 | met (f x:Addr)
 | rng (lo hi:Int)
 | frz (o:Obj) (u:HO)
 | tbl (ps:Array Value)
 | ext (φ:Heap->Prop)
noncomputable abbrev Hp:=Addr->Option HO
noncomputable def upd (H:Hp)(a:Addr)(o:HO):Hp:=fun b=>if b=a then some o else H b
theorem zAi {H:Hp}{a:Addr}{o:HO}:upd H a o a=some o:=by unfold upd; rw[if_pos rfl]
theorem zAm {H:Hp}{a b:Addr}{o:HO}(h:b≠a):upd H a o b=H b:=by unfold upd; rw[if_neg h]
theorem zBb {H:Hp}{a b:Addr}{o:HO}(h:H a=some o)(h':H b=none):a≠b:=by
 intro e; subst e; rw[h] at h'; cases h'
section
variable (P:Program)(w:World)
def TupN (h:Heap)(a:Addr)(items:Array Value):Prop:=∃o,h.get? a=some o/\o.cls=.type "tuple" /\ (∃n,o.data=.seq items n)/\o.dict=none
theorem TupN.tup {h:Heap}{a:Addr}{items:Array Value}(x:TupN h a items):IsTup h a items:=let ⟨o,e,c,d,_⟩:=x; ⟨o,e,c,d⟩
theorem TupN.new (h:Heap)(items:Array Value):TupN (h.push { cls:=.type "tuple",data:=.seq items }) h.objs.size items:=⟨_,zm6 _ rfl,rfl,⟨_,rfl⟩,rfl⟩
noncomputable def ObjOk (H:Hp)(h:Heap)(a:Addr):HO->Prop
 | .lst xs=>xs.length<=sizeLine/\∃(its:List Value) (n:Nat),Vals xs its/\h.get? a=some { cls:=.type "list",data:=.seq its.toArray n }
 | .tup xs=>xs.length<=sizeLine/\∃its:List Value,Vals xs its/\TupN h a its.toArray
 | .dK kvs=>kvs.length<=sizeLine/\(a == sysModules)=false/\∃vs,KV kvs vs/\h.DictOf (mixKind P w) a vs
 | .dT kvs=>kvs.length<=sizeLine/\(a == sysModules)=false/\∃xs:List (List Key×Addr×Value),
   Paired (fun (p:List Key×V) (q:List Key×Addr×Value)=>p.1=q.1/\H q.2.1=some (.tup (p.1.map kV))/\RelV p.2 q.2.2) kvs xs /\
   ∃o es ep,h.get? a=some o/\o.ExactDict/\o.data=.dict es ep/\es.toList=xs.map (entryOfKey (tupleKind (mixKind P w)))/\(xs.map (·.1)).Nodup
 | .set S n=>h.SetOf (intKind P w) a S n
 | .ins C dx fs=>H dx=some (.own a)/\fs.length<=1000/\dx≠a/\h.get? a=some (PySem.W.instObj C dx) /\
   ∃mA,h.Ns1 dx mA/\(∀f,RelO (fs.lookup f) (mA f))/\PySem.Within mA (fs.map (·.1))
 | .own _=>∃o,h.get? a=some o
 | .exc C nw fs=>fs.length<=1000/\∃(o:Obj) (vs:Array Value),h.get? a=some o/\o.cls=.ref C/\o.data=.fields vs/\vs.size=6/\(nw=true->vs[1]? = some Value.none) /\
   ((o.dict=none/\fs=[])\/∃dx,o.dict=some dx/\H dx=some (.own a)/\dx≠a/\∃mA,h.Ns1 dx mA/\(∀f,RelO (fs.lookup f) (mA f))/\PySem.Within mA (fs.map (·.1)))
 | .xd fs=>∃mA,h.Ns1 a mA/\∀f,RelO (fs.lookup f) (mA f)
 | .rng lo hi=>∃t u v,h.get? a=some { cls:=.type "range",data:=.fields #[.int lo t,.int hi u,.int 1 v] }
 | .frz o u=>h.get? a=some o/\ObjOk H h a u
 | .tbl ps=>h.get? a=some { cls:=.none,data:=.fields ps }
 | .met f x=>h.get? a=some (PySem.W.methodObj (.ref f) (.ref x))
 | .ext φ=>φ h/\(∃o,h.get? a=some o)/\∀h1 h2:Heap,φ h1->(∀o,h1.get? a=some o->h2.get? a=some o)->φ h2
def HOk (H:Hp)(h:Heap):Prop:=∀a o,H a=some o->ObjOk P w H h a o
end
section
variable {P:Program}{w:World}{H H':Hp}{h h':Heap}{a:Addr}{o:HO}
theorem ObjOk.lt (x:ObjOk P w H h a o):a<h.objs.size:=by
 cases o with
 | lst xs=>obtain⟨_,_,_,_,e⟩:=x; exact zm7 e
 | tup xs=>obtain⟨_,_,_,p⟩:=x; exact p.tup.lt
 | dK kvs=>obtain⟨_,_,_,_,o,_,_,e,_⟩:=x; exact zm7 e
 | dT kvs=>obtain⟨_,_,_,_,o,_,_,e,_⟩:=x; exact zm7 e
 | set S n=>obtain⟨o,_,_,_,e,_⟩:=x; exact zm7 e
 | ins C dx fs=>obtain⟨_,_,_,e,_⟩:=x; exact zm7 e
 | own y=>obtain⟨_,e⟩:=x; exact zm7 e
 | exc C nw fs=>obtain⟨_,_,_,e,_⟩:=x; exact zm7 e
 | xd fs=>obtain⟨_,⟨_,_,_,e,_⟩,_⟩:=x; exact zm7 e
 | rng lo hi=>obtain⟨_,_,_,e⟩:=x; exact zm7 e
 | frz ob u=>obtain⟨e,_⟩:=x; exact zm7 e
 | tbl ps=>exact zm7 (show h.get? a=some _ from x)
 | met f y=>exact zm7 (show h.get? a=some _ from x)
 | ext φ=>obtain⟨_,⟨_,e⟩,_⟩:=x; exact zm7 e
theorem Paired.mapP {α β:Type}{F G:α->β->Prop}:∀{l₁:List α} {l₂:List β},Paired F l₁ l₂->(∀a b,F a b->G a b)->Paired G l₁ l₂
 | _,_,.nil,_=>.nil
 | _,_,.cons r t,f=>.cons (f _ _ r) (Paired.mapP t f)
theorem ObjOk.stay (x:ObjOk P w H h a o)(k:∀b u,(b=a\/H b=some (.own a))->h.get? b=some u->h'.get? b=some u)
  (ho:∀b,H b=some (.own a)->H' b=some (.own a))(ht:∀b xs,H b=some (.tup xs)->H' b=some (.tup xs)):ObjOk P w H' h' a o:=by
 induction o with
 | lst xs=>obtain⟨z,its,n,r,e⟩:=x; exact⟨z,its,n,r,k _ _ (.inl rfl) e⟩
 | tup xs=>obtain⟨z,its,r,ob,e,c⟩:=x; exact⟨z,its,r,ob,k _ _ (.inl rfl) e,c⟩
 | dK kvs=>obtain⟨z,y,vs,r,ob,es,ep,e,c⟩:=x; exact⟨z,y,vs,r,ob,es,ep,k _ _ (.inl rfl) e,c⟩
 | dT kvs=>
  obtain⟨z,y,xs,r,ob,es,ep,e,c⟩:=x;exact⟨z,y,xs,Paired.mapP r fun p q z=>⟨z.1,ht _ _ z.2.1,z.2.2⟩,ob,es,ep,k _ _ (.inl rfl) e,c⟩
 | set S n=>obtain⟨ob,es,ep,t,e,c⟩:=x; exact⟨ob,es,ep,t,k _ _ (.inl rfl) e,c⟩
 | ins C dx fs=>
  obtain⟨d,z,ne,e,mA,⟨od,es,ep,e2,c⟩,r⟩:=x;exact⟨ho _ d,z,ne,k _ _ (.inl rfl) e,mA,⟨od,es,ep,k _ _ (.inr d) e2,c⟩,r⟩
 | own y=>obtain⟨ob,e⟩:=x; exact⟨ob,k _ _ (.inl rfl) e⟩
 | exc C nw fs=>
  obtain⟨z,o,vs,e,c1,c2,c3,c4,q⟩:=x;refine⟨z,o,vs,k _ _ (.inl rfl) e,c1,c2,c3,c4,?_⟩;rcases q with q | ⟨dx,d1,d2,d3,mA,⟨od,es,ep,e2,c⟩,r⟩
  ·exact .inl q
  ·exact .inr ⟨dx,d1,ho _ d2,d3,mA,⟨od,es,ep,k _ _ (.inr d2) e2,c⟩,r⟩
 | xd fs=>obtain⟨mA,⟨od,es,ep,e,c⟩,r⟩:=x; exact⟨mA,⟨od,es,ep,k _ _ (.inl rfl) e,c⟩,r⟩
 | rng lo hi=>obtain⟨t,u,v,e⟩:=x; exact⟨t,u,v,k _ _ (.inl rfl) e⟩
 | frz ob u ih=>obtain⟨e,q⟩:=x; exact⟨k _ _ (.inl rfl) e,ih q⟩
 | tbl ps=>
  have e:h.get? a=some { cls:=.none,data:=.fields ps }:=x;show h'.get? a=some { cls:=.none,data:=.fields ps };exact k a _ (.inl rfl) e
 | met f y=>
  have e:h.get? a=some (PySem.W.methodObj (.ref f) (.ref y)):=x;show h'.get? a=some (PySem.W.methodObj (.ref f) (.ref y));exact k a _ (.inl rfl) e
 | ext φ=>obtain⟨p,⟨o,e⟩,st⟩:=x; exact⟨st _ _ p fun o q=>k _ _ (.inl rfl) q,⟨o,k _ _ (.inl rfl) e⟩,st⟩
theorem HOk.lt (x:HOk P w H h)(e:H a=some o):a<h.objs.size:=(x a o e).lt
theorem HOk.fresh (x:HOk P w H h)(e:h.objs.size<=a):H a=none:=by
 cases q:H a with
 | none=>rfl
 | some u=>exact absurd (zn1 (x.lt q) e) (Nat.lt_irrefl _)
theorem HOk.kept (x:HOk P w H h)(k:∀b u,h.get? b=some u->h'.get? b=some u):HOk P w H h':=fun a o e=>
 (x a o e).stay (fun b u _ q=>k b u q) (fun _ q=>q) fun _ _ q=>q
theorem HOk.laid (x:HOk P w H h)(k:∀b u,h.get? b=some u->h'.get? b=some u)(hp:h.objs.size<=a)(new:ObjOk P w (upd H a o) h' a o):HOk P w (upd H a o) h':=fun b u e=>by
 have hn:=x.fresh hp;by_cases hb:b=a
 ·subst hb; rw[zAi] at e; cases e; exact new
 ·rw[zAm hb] at e;exact (x b u e).stay (fun c v _ q=>k c v q) (fun c q=>by rw[zAm (zBb q hn)]; exact q) fun c xs q=>by rw[zAm (zBb q hn)]; exact q
end
def Rd (H:Hp)(a:Addr)(u:HO):Prop:=H a=some u\/∃o,H a=some (.frz o u)
theorem Rd.ok {P:Program}{w:World}{H:Hp}{h:Heap}{a:Addr}{u:HO}(r:Rd H a u)(x:HOk P w H h):ObjOk P w H h a u:=by
 rcases r with r | ⟨o,r⟩
 ·exact x a u r
 ·obtain⟨_,q⟩:=x a _ r;exact q
noncomputable def Mut:Option HO->Prop
 | some (.lst _)=>True
 | some (.dK _)=>True
 | some (.dT _)=>True
 | some (.set _ _)=>True
 | some (.ins _ _ _)=>True
 | some (.exc _ _ _)=>True
 | some (.ext _)=>True
 | _=>False
section
variable {P:Program}{w:World}{H:Hp}{h h':Heap}{x e:Addr}{o':HO}
theorem HOk.write (ok:HOk P w H h)(mu:Mut (H x))(he:e=x\/H e=some (.own x))(k:∀b u,b≠e->h.get? b=some u->h'.get? b=some u)(heo:∃u,h'.get? e=some u)
  (new:ObjOk P w (upd H x o') h' x o'):HOk P w (upd H x o') h':=fun b u q=>by
 have nown:∀c y,H c=some (.own y)->c≠x:=fun c y r z=>by subst z; rw[r] at mu; exact mu
 have ntup:∀c xs,H c=some (.tup xs)->c≠x:=fun c xs r z=>by subst z; rw[r] at mu; exact mu
 by_cases hb:b=x
 ·subst hb; rw[zAi] at q; cases q; exact new
 ·rw[zAm hb] at q;by_cases hbe:b=e
  ·have q':H b=some (.own x):=by
    rcases he with z | z
    ·exact absurd (hbe.trans z) hb
    ·rw[hbe]; exact z
   rw[q] at q'; cases q';obtain⟨v,hv⟩:=heo;exact⟨v,by rw[hbe]; exact hv⟩
  ·refine (ok b u q).stay (fun c v hc r=>k c v ?_ r) (fun c r=>by rw[zAm (nown c b r)]; exact r) fun c xs r=>by rw[zAm (ntup c xs r)]; exact r
   rcases hc with rfl | hc
   ·exact hbe
   ·rintro rfl;rcases he with z | z
    ·exact nown c b hc z
    ·rw[hc] at z; cases z; exact hb rfl
end
structure Un (fs ex:List Addr)(H H':Hp)(h h':Heap):Prop where
 keep:∀b o,h.get? b=some o->H b=none->b∉fs->b∉ex->h'.get? b=some o
 slot:∀b o,h.get? b=some o->H b=none->b∈fs->b∉ex->∃sl,h'.get? b=some { o with slots:=sl }
 free:∀b o,h.get? b=some o->H b=none->b∉ex->H' b=none
 there:∀b o,h.get? b=some o->b∉ex->∃o',h'.get? b=some o'
 tups:∀b xs,H b=some (.tup xs)->H' b=some (.tup xs)
 frzs:∀b o u,H b=some (.frz o u)->H' b=some (.frz o u)
 tbls:∀b ps,H b=some (.tbl ps)->∃more,H' b=some (.tbl (ps++more))
section
variable {fs fs' ex ex':List Addr}{H H1 H2:Hp}{h h1 h2 h':Heap}{a x e:Addr}{o:HO}
theorem Un.any (u:Un fs ex H H1 h h1){b:Addr}{ob:Obj}(q:h.get? b=some ob)(n:H b=none)(hx:b∉ex):∃sl,h1.get? b=some { ob with slots:=sl }:=by
 by_cases hb:b∈fs
 ·exact u.slot b ob q n hb hx
 ·exact⟨ob.slots,u.keep b ob q n hb hx⟩
theorem Un.trans (a:Un fs ex H H1 h h1)(b:Un fs ex H1 H2 h1 h2):Un fs ex H H2 h h2 where
 keep:=fun c ob q n hc hx=>b.keep c ob (a.keep c ob q n hc hx) (a.free c ob q n hx) hc hx
 slot:=fun c ob q n hc hx=>by
  obtain⟨sl,e1⟩:=a.slot c ob q n hc hx;obtain⟨sl',e2⟩:=b.slot c _ e1 (a.free c ob q n hx) hc hx;exact⟨sl',e2⟩
 free:=fun c ob q n hx=>by
  obtain⟨o',e1⟩:=a.there c ob q hx;exact b.free c o' e1 (a.free c ob q n hx) hx
 there:=fun c ob q hx=>by
  obtain⟨o',e1⟩:=a.there c ob q hx;exact b.there c o' e1 hx
 tups:=fun c xs q=>b.tups c xs (a.tups c xs q)
 frzs:=fun c ob xs q=>b.frzs c ob xs (a.frzs c ob xs q)
 tbls:=fun c ps q=>by
  obtain⟨m1,e1⟩:=a.tbls c ps q;obtain⟨m2,e2⟩:=b.tbls c _ e1;exact⟨m1++m2,by rw[e2,Array.append_assoc]⟩
theorem Un.kept (k:∀b u,h.get? b=some u->h'.get? b=some u):Un fs ex H H h h':=
 ⟨fun b ob q _ _ _=>k b ob q,fun b ob q _ _ _=>⟨ob.slots,k b ob q⟩,fun _ _ _ n _=>n,fun b ob q _=>⟨ob,k b ob q⟩,fun _ _ q=>q,fun _ _ _ q=>q,fun _ ps q=>⟨#[],by rw[q]; simp⟩⟩
theorem Un.refl:Un fs ex H H h h:=Un.kept fun _ _ q=>q
theorem Un.laid (k:∀b u,h.get? b=some u->h'.get? b=some u)(hp:h.objs.size<=a)(hn:H a=none):Un fs ex H (upd H a o) h h' where
 keep:=fun b u q _ _ _=>k b u q
 slot:=fun b u q _ _ _=>⟨u.slots,k b u q⟩
 free:=fun b u q n _=>by rw[zAm (Nat.ne_of_lt (Nat.lt_of_lt_of_le (Heap.lt_size q) hp))]; exact n
 there:=fun b u q _=>⟨u,k b u q⟩
 tups:=fun b xs q=>by rw[zAm (zBb q hn)]; exact q
 frzs:=fun b u xs q=>by rw[zAm (zBb q hn)]; exact q
 tbls:=fun b ps q=>⟨#[],by rw[zAm (zBb q hn),q]; simp⟩
theorem Un.write (mu:Mut (H x))(he:e=x\/H e=some (.own x))(k:∀b u,b≠e->h.get? b=some u->h'.get? b=some u)(heo:∃u,h'.get? e=some u):Un fs ex H (upd H x o) h h':=by
 have hx:∀b,H b=none->b≠x:=fun b n z=>by subst z; rw[n] at mu; exact mu
 have hb:∀b,H b=none->b≠e:=fun b n z=>by
  subst z;rcases he with r | r
  ·exact hx b n r
  ·rw[n] at r; cases r
 have hm:∀b u,H b=some u->¬Mut (some u)->b≠x:=fun b u q nm z=>by subst z; rw[q] at mu; exact nm mu
 refine⟨fun b u q n _ _=>k b u (hb b n) q,fun b u q n _ _=>⟨u.slots,k b u (hb b n) q⟩,fun b u q n _=>by rw[zAm (hx b n)]; exact n,fun b u q _=>?_,
  fun b xs q=>by rw[zAm (hm b _ q fun z=>z)]; exact q,fun b u xs q=>by rw[zAm (hm b _ q fun z=>z)]; exact q,fun b ps q=>⟨#[],by rw[zAm (hm b _ q fun z=>z),q]; simp⟩⟩
 by_cases hbe:b=e
 ·subst hbe; exact heo
 ·exact⟨u,k b u hbe q⟩
end
noncomputable def trk (h:Heap)(H:Hp):List Addr:=(List.range h.objs.size).filter fun a=>(H a).isSome
noncomputable def hidT (h:Heap)(H:Hp):Heap:=PySem.W.hideAll h (trk h H)
theorem zHd (h:Heap)(H:Hp):(hidT h H).objs.size=h.objs.size:=PySem.W.hideAll_size _ _
theorem zIB {h:Heap}{H:Hp}{b:Addr}{o:Obj}(e:h.get? b=some o)(n:H b=none):(hidT h H).get? b=some o:=
 PySem.W.hideAll_get _ e fun hm=>by
  have q:(H b).isSome=true:=(List.mem_filter.mp hm).2;rw[n] at q; simp at q
theorem zKV {h:Heap}{H:Hp}{b:Addr}{o:Obj}(e:(hidT h H).get? b=some o):h.get? b=some o/\H b=none:=by
 have e':h.get? b=some o:=PySem.W.of_hideAll (trk h H) e;refine⟨e',?_⟩;cases q:H b with
 | none=>rfl
 | some x=>
  have hm:b∈trk h H:=List.mem_filter.mpr ⟨List.mem_range.mpr (zm7 e'),by simp[q]⟩;have z:(hidT h H).get? b=none:=PySem.W.hideAll_none (trk h H) hm;rw[z] at e; cases e
noncomputable def allNews (g h:Heap)(L:Addr):List (Addr×Obj):=(List.range h.objs.size).filterMap fun a=>if a=L\/(g.get? a).isSome=true then none else (h.get? a).map fun o=>(a,o)
noncomputable def rest (g h:Heap)(L d:Addr):List (Addr×Obj):=(allNews g h L).filter fun p=>decide (p.1≠d)
end L2
namespace L2
open PySem PySem.Spec PyProof.Rows
structure Mod (K:zFg)(mg:Str->Option Value)(base:Heap):Prop where
 kin:K.In base
 glob:base.Ns mainGlobals mg
 blt:∃mb,base.Ns builtinsNs mb/\∀x:Str,x ≠ "__name__" -> mb x=bootBuiltins x
 nolimit:base.NoLimit
structure Cx where
 prog:Program
 w:World
 K:zFg
 mg:Str->Option Value
 base:Heap
 A:Around
 N:List Str
 s₀:Shared
 H₀:Hp
 env:Env
 outer:List Env
 stack:List Env
 ex:List Addr
 fn:Str->Bool
 calm:Bool
 pn:List (Addr×Obj)
 xe:Value->Shared->Prop
noncomputable def frs (l:List Env):List Addr:=l.filterMap (·.frame)
noncomputable abbrev Cx.fs (X:Cx):List Addr:=frs X.outer
def Vis (sc:Scope)(x:Str):Prop:=sc.names.lookup x=some .local\/sc.names.lookup x=some .cell\/sc.names.lookup x=some .free
def Loc (sc:Scope)(x:Str):Prop:=sc.names.lookup x=some .local\/sc.names.lookup x=some .cell
def Look (env:Env)(h:Heap)(m:Str->Option Value)(x:Str)(u:Value):Prop:=
 (env.kindOf x=some .local/\m x=some u)\/((env.kindOf x=some .cell\/env.kindOf x=some .free)/\∃c,env.cells.lookup x=some c/\h.IsCell c (some u))
structure Cx.Ok (X:Cx):Prop where
 mod:Mod X.K X.mg X.base
 kind:X.env.scope.kind=.function
 glob:X.env.globals=mainGlobals
 blt:X.env.builtins=builtinsNs
 above:X.s₀.heap.objs.size<=X.env.locals
 inj:∀x y c,X.env.cells.lookup x=some c->X.env.cells.lookup y=some c->x=y
 has:∀x,(X.env.kindOf x=some .cell\/X.env.kindOf x=some .free)->∃c,X.env.cells.lookup x=some c
 cab:∀x c,X.fn x=true->X.env.cells.lookup x=some c->X.s₀.heap.objs.size<=c
 hd:X.calm=true->X.A.handled=none
 frames:X.A.frames=some X.stack
 stk:X.stack=X.outer\/(X.stack=X.env::X.outer/\X.env.frame=some X.env.locals)
 exf:∀b∈X.ex,b≠X.env.locals/\∀x c,X.env.cells.lookup x=some c->c≠b
 bs:∀b o,X.base.get? b=some o->X.s₀.heap.get? b=some o/\X.H₀ b=none
 bsz:X.base.objs.size<=X.s₀.heap.objs.size
 noex:∀b o,X.base.get? b=some o->b∉X.ex
 exfs:∀b∈X.ex,b∉X.fs
 funs:X.s₀.heap.FunFrames X.base X.outer
 frf:∀b∈X.fs,X.H₀ b=none
structure Inv (X:Cx)(pins:List (Addr×Obj))(σ:List (Option V))(H:Hp)(s:Shared):Prop where
 ok:X.Ok
 os:s.os=X.s₀.os
 bare:AllBare s.gens
 base:Un X.fs X.ex X.H₀ H X.s₀.heap s.heap
 loc:∃m,s.heap.Ns X.env.locals m/\∀(i:Nat) (x:Str) (v:V),X.N[i]? = some x->σ[i]? = some (some v)->Vis X.env.scope x->∃u,RelV v u/\Look X.env s.heap m x u
 cell:∀x c,X.env.cells.lookup x=some c->∃v,s.heap.IsCell c v
 free:H X.env.locals=none
 freeC:∀x c,X.env.cells.lookup x=some c->H c=none
 pin:∀p∈X.pn++pins,s.heap.get? p.1=some p.2/\H p.1=none/\p.1≠X.env.locals/\p.1∉X.fs/\∀v,p.2.data≠.cell v
 hok:HOk X.prog X.w H s.heap
 len:σ.length=X.N.length
section
variable {X:Cx}{pins:List (Addr×Obj)}{σ:List (Option V)}{H H':Hp}{s:Shared}{h':Heap}
theorem Cx.Ok.nofr (ok:X.Ok){b:Addr}{o:Obj}(e:X.base.get? b=some o):b∉X.fs:=fun hb=>by
 have:=(ok.funs.mem hb).1;rw[e] at this; cases this
theorem Inv.bs (I:Inv X pins σ H s):∀b o,X.base.get? b=some o->s.heap.get? b=some o/\H b=none:=fun b o e=>
 ⟨I.base.keep b o (I.ok.bs b o e).1 (I.ok.bs b o e).2 (I.ok.nofr e) (I.ok.noex b o e),I.base.free b o (I.ok.bs b o e).1 (I.ok.bs b o e).2 (I.ok.noex b o e)⟩
theorem Inv.bk (I:Inv X pins σ H s):∀b o,X.base.get? b=some o->s.heap.get? b=some o:=fun b o e=>(I.bs b o e).1
theorem Inv.mod (I:Inv X pins σ H s):Mod X.K X.mg X.base:=I.ok.mod
theorem Inv.kIn (I:Inv X pins σ H s):X.K.In s.heap:=I.ok.mod.kin.keeps I.bk
theorem Inv.lt (I:Inv X pins σ H s):X.env.locals<s.heap.objs.size:=let ⟨_,hn,_⟩:=I.loc; hn.lt
theorem Inv.sz (I:Inv X pins σ H s):X.s₀.heap.objs.size<=s.heap.objs.size:=zm9 I.ok.above (Nat.le_of_lt I.lt)
theorem Inv.nofs (I:Inv X pins σ H s){a:Addr}(h:s.heap.objs.size<=a):a∉X.fs:=fun hb=>by
 obtain⟨_,o,ho,_⟩:=I.ok.funs.mem hb;exact absurd (zn1 (zm7 ho) (zm9 I.sz h)) (Nat.lt_irrefl _)
theorem Inv.cne (I:Inv X pins σ H s):∀x c,X.env.cells.lookup x=some c->c≠X.env.locals:=fun x c e z=>by
 obtain⟨v,o,ho,hd⟩:=I.cell x c e;obtain⟨m,⟨o',es,ep,ho',hd',_⟩,_⟩:=I.loc;rw[z,ho'] at ho; cases ho; rw[hd'] at hd; cases hd
theorem Inv.funs (I:Inv X pins σ H s):s.heap.FunFrames X.base X.outer:=by
 have all:∀(l:List Env),(∀b∈frs l,b∈X.fs)->X.s₀.heap.FunFrames X.base l->s.heap.FunFrames X.base l:=by
  intro l;induction l with
  | nil=>intro _ _; trivial
  | cons env r ih=>
   intro hs hl;obtain⟨hk,⟨L,o,hf,hn,ho,hd⟩,hr⟩:=hl;have hL:L∈X.fs:=hs L (by unfold frs; rw[List.filterMap_cons,hf]; exact zm2);obtain⟨sl,e⟩:=I.base.slot L o ho (I.ok.frf L hL) hL fun z=>I.ok.exfs L z hL;exact⟨hk,⟨L,_,hf,hn,e,hd⟩,ih (fun b hb=>hs b (by unfold frs; rw[List.filterMap_cons,hf]; exact zm1 _ hb)) hr⟩
 exact all X.outer (fun _ hb=>hb) I.ok.funs
theorem Inv.stack (I:Inv X pins σ H s):s.heap.FunFrames X.base X.stack:=by
 rcases I.ok.stk with e | ⟨e,hf⟩
 ·rw[e]; exact I.funs
 ·rw[e];obtain⟨m,hn,_⟩:=I.loc;refine .cons (by rw[I.ok.kind]; decide) hf hn ?_ I.funs;exact Heap.get?_none_of_le (zm9 I.ok.bsz I.ok.above)
theorem Inv.stkSub (I:Inv X pins σ H s):∀b∈frs X.stack,b∈X.env.locals::X.fs:=fun b hb=>by
 rcases I.ok.stk with e | ⟨e,hf⟩
 ·rw[e] at hb; exact zm1 _ hb
 ·rw[e] at hb;unfold frs at hb;rw[List.filterMap_cons,hf] at hb;exact hb
theorem Inv.stkFree (I:Inv X pins σ H s):∀b∈frs X.stack,H b=none:=fun b hb=>by
 rcases zp1 (I.stkSub b hb) with e | hb
 ·rw[e]; exact I.free
 ·obtain⟨_,o,ho,_⟩:=I.ok.funs.mem hb;exact I.base.free b o ho (I.ok.frf b hb) fun z=>I.ok.exfs b z hb
theorem Inv.step {g':Array GenState}{t':Nat}{d':Drawn}{ch:List Addr}(I:Inv X pins σ H s)
  (hch:∀b∈ch,(b∈X.ex\/X.s₀.heap.objs.size<=b)/\b≠X.env.locals/\(∀x c,X.env.cells.lookup x=some c->c≠b)/\∀p∈X.pn++pins,p.1≠b)
  (keep:∀b o,b≠X.env.locals->b∉X.fs->b∉ch->s.heap.get? b=some o->H b=none->h'.get? b=some o)
  (slot:∀b o,b≠X.env.locals->b∈X.fs->b∉ch->s.heap.get? b=some o->H b=none->∃sl,h'.get? b=some { o with slots:=sl })(free:∀b o,b∉ch->s.heap.get? b=some o->H b=none->H' b=none)
  (there:∀b o,b∉ch->s.heap.get? b=some o->∃o',h'.get? b=some o')
  (tups:∀b xs,H b=some (.tup xs)->H' b=some (.tup xs))(frzs:∀b o u,H b=some (.frz o u)->H' b=some (.frz o u))(tbls:∀b ps,H b=some (.tbl ps)->∃more,H' b=some (.tbl (ps++more)))
  (ns:∀m,s.heap.Ns X.env.locals m->h'.Ns X.env.locals m)(hok:HOk X.prog X.w H' h')(hg:AllBare g') :
  Inv X pins σ H' { s with heap:=h',gens:=g',drawn:=d',toks:=t' }:=by
 have neL:∀b o,X.s₀.heap.get? b=some o->b≠X.env.locals:=fun b o e=>zn2 (zn1 (zm7 e) I.ok.above);have neC:∀b o,X.s₀.heap.get? b=some o->b∉X.ex->b∉ch:=fun b o e hx hb=>by
  rcases (hch b hb).1 with z | z
  ·exact hx z
  ·exact absurd (zn1 (zm7 e) z) (Nat.lt_irrefl _)
 have cellK:∀x c,X.env.cells.lookup x=some c->∀v,s.heap.IsCell c v->h'.IsCell c v:=fun x c e v ⟨o,ho,hd⟩=>by
  have nch:c∉ch:=fun z=>(hch c z).2.2.1 x c e rfl;by_cases hc:c∈X.fs
  ·obtain⟨sl,q⟩:=slot c o (I.cne x c e) hc nch ho (I.freeC x c e);exact⟨_,q,hd⟩
  ·exact⟨o,keep c o (I.cne x c e) hc nch ho (I.freeC x c e),hd⟩
 refine⟨I.ok,I.os,hg,⟨fun b o e n hb hx=>?_,fun b o e n hb hx=>?_,fun b o e n hx=>?_,fun b o e hx=>?_,fun b xs e=>tups b xs (I.base.tups b xs e),fun b o xs e=>frzs b o xs (I.base.frzs b o xs e),fun b ps e=>?_⟩,?_,fun x c e=>?_,?_,fun x c e=>?_,fun p hp=>?_,hok,I.len⟩
 ·exact keep b o (neL b o e) hb (neC b o e hx) (I.base.keep b o e n hb hx) (I.base.free b o e n hx)
 ·obtain⟨sl,e1⟩:=I.base.slot b o e n hb hx;obtain⟨sl',e2⟩:=slot b _ (neL b o e) hb (neC b o e hx) e1 (I.base.free b o e n hx);exact⟨sl',e2⟩
 ·obtain⟨o',e1⟩:=I.base.there b o e hx;exact free b o' (neC b o e hx) e1 (I.base.free b o e n hx)
 ·obtain⟨o',e1⟩:=I.base.there b o e hx;exact there b o' (neC b o e hx) e1
 ·obtain⟨m1,e1⟩:=I.base.tbls b ps e;obtain⟨m2,e2⟩:=tbls b _ e1;exact⟨m1++m2,by rw[e2,Array.append_assoc]⟩
 ·obtain⟨m,hn,hl⟩:=I.loc;refine⟨m,ns m hn,fun i x v e1 e2 e3=>?_⟩;obtain⟨u,r,l⟩:=hl i x v e1 e2 e3;refine⟨u,r,?_⟩;rcases l with l | ⟨k,c,e,z⟩
  ·exact .inl l
  ·exact .inr ⟨k,c,e,cellK x c e _ z⟩
 ·obtain⟨v,z⟩:=I.cell x c e;exact⟨v,cellK x c e v z⟩
 ·obtain⟨m,⟨o,_,_,ho,_⟩,_⟩:=I.loc;exact free _ o (fun z=>(hch _ z).2.1 rfl) ho I.free
 ·obtain⟨v,o,ho,hd⟩:=I.cell x c e;exact free c o (fun z=>(hch c z).2.2.1 x c e rfl) ho (I.freeC x c e)
 ·obtain⟨e,n,ne,nf,d⟩:=I.pin p hp;have nch:p.1∉ch:=fun z=>(hch p.1 z).2.2.2 p hp rfl;exact⟨keep p.1 p.2 ne nf nch e n,free p.1 p.2 nch e n,ne,nf,d⟩
theorem Inv.un {t':Nat}(I:Inv X pins σ H s)(u:Un X.fs [] H H' s.heap h')(hok:HOk X.prog X.w H' h'):Inv X pins σ H' { s with heap:=h',toks:=t' }:=by
 obtain⟨m,⟨o,es,ep,ho,r⟩,_⟩:=id I.loc;obtain⟨sl,hL⟩:=u.any ho I.free (by simp);exact I.step (g':=s.gens) (d':=s.drawn) (ch:=[]) (fun _ z=>nomatch z) (fun b o _ hb _ e n=>u.keep b o e n hb (by simp)) (fun b o _ hb _ e n=>u.slot b o e n hb (by simp)) (fun b o _ e n=>u.free b o e n (by simp)) (fun b o _ e=>u.there b o e (by simp)) u.tups u.frzs u.tbls (fun m' hm=>by
  obtain⟨o',es',ep',ho',r'⟩:=hm;rw[ho] at ho'; cases ho';exact⟨_,es',ep',hL,r'⟩) hok I.bare
theorem Inv.call {g':Array GenState}{t':Nat}{d':Drawn}{ch:List Addr}(I:Inv X pins σ H s)(u:Un (frs X.stack) ch H H' s.heap h')(hok:HOk X.prog X.w H' h')(hg:AllBare g')
  (hch:∀b∈ch,(b∈X.ex\/X.s₀.heap.objs.size<=b)/\b≠X.env.locals/\(∀x c,X.env.cells.lookup x=some c->c≠b)/\∀p∈X.pn++pins,p.1≠b) :
  Inv X pins σ H' { s with heap:=h',gens:=g',drawn:=d',toks:=t' }:=by
 obtain⟨m,⟨o,es,ep,ho,r⟩,_⟩:=id I.loc;obtain⟨sl,hL⟩:=u.any ho I.free fun z=>(hch _ z).2.1 rfl;exact I.step (ch:=ch) hch (fun b o hL hb hc e n=>u.keep b o e n (fun z=>(zp1 (I.stkSub b z)).elim hL hb) hc) (fun b o _ _ hc e n=>u.any e n hc) (fun b o hc e n=>u.free b o e n hc) (fun b o hc e=>u.there b o e hc) u.tups u.frzs u.tbls (fun m' hm=>by
  obtain⟨o',es',ep',ho',r'⟩:=hm;rw[ho] at ho'; cases ho';exact⟨_,es',ep',hL,r'⟩) hok hg
theorem Inv.turned {t':Nat}{it:Addr}(I:Inv X pins σ H s)(k:∀b o,b≠it->s.heap.get? b=some o->h'.get? b=some o)(hn:H it=none)(hL:it≠X.env.locals)
  (h1:it∈X.ex\/X.s₀.heap.objs.size<=it)(h2:∀x c,X.env.cells.lookup x=some c->c≠it)(h3:∀p∈X.pn++pins,p.1≠it):Inv X pins σ H { s with heap:=h',toks:=t' }:=by
 have nit:∀b u,H b=some u->b≠it:=fun b u e z=>by rw[z,hn] at e; cases e
 refine I.step (g':=s.gens) (d':=s.drawn) (ch:=[it]) (fun b hb=>?_) (fun b o _ _ hc e _=>k b o (fun z=>hc (by simp[z])) e) (fun b o _ _ hc e _=>⟨o.slots,k b o (fun z=>hc (by simp[z])) e⟩) (fun _ _ _ _ n=>n)
  (fun b o hc e=>⟨o,k b o (fun z=>hc (by simp[z])) e⟩) (fun _ _ e=>e) (fun _ _ _ e=>e) (fun b ps e=>⟨#[],by rw[e]; simp⟩) (fun m hm=>?_) (fun b u e=>?_) I.bare
 ·have e:b=it:=by simpa using hb
  subst e;exact⟨h1,hL,h2,h3⟩
 ·obtain⟨o,es,ep,ho,r⟩:=hm;exact⟨o,es,ep,k _ o (Ne.symm hL) ho,r⟩
 ·refine (I.hok b u e).stay (fun c v hc q=>k c v ?_ q) (fun _ q=>q) fun _ _ q=>q;rcases hc with z | z
  ·rw[z]; exact nit b u e
  ·exact nit c _ z
theorem Inv.tok (I:Inv X pins σ H s)(t:Nat):Inv X pins σ H { s with toks:=t }:=I.un (h':=s.heap) (t':=t) Un.refl I.hok
theorem Inv.kept {t':Nat}(I:Inv X pins σ H s)(k:∀b u,s.heap.get? b=some u->h'.get? b=some u):Inv X pins σ H { s with heap:=h',toks:=t' }:=I.un (Un.kept k) (I.hok.kept k)
theorem Inv.laid {a:Addr}{o:HO}{t':Nat}(I:Inv X pins σ H s)(k:∀b u,s.heap.get? b=some u->h'.get? b=some u)(hp:s.heap.objs.size<=a)(new:ObjOk X.prog X.w (upd H a o) h' a o) :
  Inv X pins σ (upd H a o) { s with heap:=h',toks:=t' }:=I.un (Un.laid k hp (I.hok.fresh hp)) (I.hok.laid k hp new)
theorem Inv.write {x e:Addr}{o:HO}{t':Nat}(I:Inv X pins σ H s)(mu:Mut (H x))(he:e=x\/H e=some (.own x))(k:∀b u,b≠e->s.heap.get? b=some u->h'.get? b=some u)(heo:∃u,h'.get? e=some u)
  (new:ObjOk X.prog X.w (upd H x o) h' x o):Inv X pins σ (upd H x o) { s with heap:=h',toks:=t' }:=I.un (Un.write mu he k heo) (I.hok.write mu he k heo new)
theorem Inv.pins_of {pins':List (Addr×Obj)}(I:Inv X pins σ H s)(h:∀p∈pins',s.heap.get? p.1=some p.2/\H p.1=none/\p.1≠X.env.locals/\p.1∉X.fs/\∀v,p.2.data≠.cell v):Inv X pins' σ H s:=
 ⟨I.ok,I.os,I.bare,I.base,I.loc,I.cell,I.free,I.freeC,fun p hp=>(zp3 hp).elim (fun z=>I.pin p (zm4 _ z)) (h p),I.hok,I.len⟩
theorem zDh {N:List Str}(hN:N.Nodup){i j:Nat}{x:Str}(a:N[i]? = some x)(b:N[j]? = some x):i=j:=by
 obtain⟨h1,e1⟩:=zp6 a;obtain⟨h2,e2⟩:=zp6 b;exact (List.getElem_inj hN).mp (e1.trans e2.symm)
theorem zGk {M:Model}{A:Around}{E:Value->Shared->Prop}{i:Nat}{x:Str}{v:V}{u:Value}{Q:Unit->Shared->Prop}(I:Inv X pins σ H s)(hN:X.N.Nodup)(hi:X.N[i]? = some x)(hx:Loc X.env.scope x)(r:RelV v u)
  (h:∀s',Inv X pins (σ.set i (some v)) H s'->(∃a,Heap.SameBut a s.heap s'.heap/\(a=X.env.locals\/X.env.cells.lookup x=some a))->Q () s')(hf:X.fn x=true\/X.env.scope.names.lookup x=some .local:=by first | exact .inl rfl | exact .inr rfl | assumption):wpAny M A (storeName X.env x u) Q E s:=by
 obtain⟨m,hn,hl⟩:=id I.loc;have hcls:(X.env.scope.kind == .class||(X.env.scope.kind == .module&&X.env.locals != X.env.globals))=false:=by rw[I.ok.kind]; rfl
 have hiσ:i < σ.length:=by rw[I.len]; exact (zp6 hi).1
 have cne:=I.cne;have tracked:∀{a:Addr} {h':Heap},(∃o,s.heap.get? a=some o/\H a=none)->Heap.SameBut a s.heap h'->HOk X.prog X.w H h':=fun {a h'} ha hs b ob e=>by
  obtain⟨_,_,hfree⟩:=ha;refine (I.hok b ob e).stay (fun c w' hc q=>(hs.2 c ?_).trans q) (fun _ q=>q) fun _ _ q=>q;rintro rfl;rcases hc with rfl | hc
  ·rw[hfree] at e; cases e
  ·rw[hfree] at hc; cases hc
 rcases hx with hk | hk
 ·refine wpAny_storeName_local hk hn (fun h' hn' hs=>?_) hcls;obtain⟨oL,_,_,hoL,_⟩:=id hn;refine h _ ⟨I.ok,I.os,I.bare,⟨fun b o e n hb hx=>?_,fun b o e n hb hx=>?_,I.base.free,fun b o e hx=>?_,I.base.tups,I.base.frzs,I.base.tbls⟩,⟨_,hn',fun j y v' e1 e2 e3=>?_⟩,fun y c e=>?_,I.free,I.freeC,fun p hp=>?_,tracked ⟨oL,hoL,I.free⟩ hs,by simpa using I.len⟩ ⟨_,hs,.inl rfl⟩
  ·exact (hs.2 b (zn2 (zn1 (zm7 e) I.ok.above))).trans (I.base.keep b o e n hb hx)
  ·obtain⟨sl,e1⟩:=I.base.slot b o e n hb hx;exact⟨sl,(hs.2 b (zn2 (zn1 (zm7 e) I.ok.above))).trans e1⟩
  ·obtain⟨o',e1⟩:=I.base.there b o e hx;exact⟨o',(hs.2 b (zn2 (zn1 (zm7 e) I.ok.above))).trans e1⟩
  ·by_cases hj:j=i
   ·subst hj;rw[hi] at e1; cases e1;rw[List.getElem?_set_self hiσ] at e2;cases e2;exact⟨u,r,.inl ⟨hk,by simp⟩⟩
   ·rw[List.getElem?_set_ne (Ne.symm hj)] at e2;obtain⟨u',r',q⟩:=hl j y v' e1 e2 e3;refine⟨u',r',?_⟩;rcases q with ⟨k,e⟩ | ⟨k,c,e,z⟩
    ·refine .inl ⟨k,?_⟩;have:y≠x:=fun e=>hj (zDh hN e1 (e ▸ hi));simp[this,e]
    ·exact .inr ⟨k,c,e,z.sameBut hs (cne y c e)⟩
  ·obtain⟨w',z⟩:=I.cell y c e;exact⟨w',z.sameBut hs (cne y c e)⟩
  ·obtain⟨e,n,ne,nf,d⟩:=I.pin p hp;exact⟨(hs.2 p.1 ne).trans e,n,ne,nf,d⟩
 ·have hfn:X.fn x=true:=by
   rcases hf with z | z
   ·exact z
   ·rw[z] at hk; cases hk
  obtain⟨c,hc⟩:=I.ok.has x (.inl hk);obtain⟨w',z⟩:=I.cell x c hc;refine wpAny_storeName_cell I.ok.kind hk hc z (fun h' hc' hs=>?_);obtain⟨oc,hoc,hocd⟩:=id z;refine h { s with heap:=h' } ⟨I.ok,I.os,I.bare,⟨fun b o e n hb hx=>?_,fun b o e n hb hx=>?_,I.base.free,fun b o e hx=>?_,I.base.tups,I.base.frzs,I.base.tbls⟩,⟨m,hn.sameBut hs (Ne.symm (cne x c hc)),fun j y v' e1 e2 e3=>?_⟩,fun y c' e=>?_,I.free,I.freeC,fun p hp=>?_,tracked ⟨oc,hoc,I.freeC x c hc⟩ hs,by simpa using I.len⟩ ⟨c,hs,.inr hc⟩
  ·exact (hs.2 b (zn2 (zn1 (zm7 e) (I.ok.cab x c hfn hc)))).trans (I.base.keep b o e n hb hx)
  ·obtain⟨sl,e1⟩:=I.base.slot b o e n hb hx;exact⟨sl,(hs.2 b (zn2 (zn1 (zm7 e) (I.ok.cab x c hfn hc)))).trans e1⟩
  ·obtain⟨o',e1⟩:=I.base.there b o e hx;exact⟨o',(hs.2 b (zn2 (zn1 (zm7 e) (I.ok.cab x c hfn hc)))).trans e1⟩
  ·by_cases hj:j=i
   ·subst hj;rw[hi] at e1; cases e1;rw[List.getElem?_set_self hiσ] at e2;cases e2;exact⟨u,r,.inr ⟨.inl hk,c,hc,hc'⟩⟩
   ·rw[List.getElem?_set_ne (Ne.symm hj)] at e2;obtain⟨u',r',q⟩:=hl j y v' e1 e2 e3;refine⟨u',r',?_⟩;rcases q with q | ⟨k,c',e,z'⟩
    ·exact .inl q
    ·refine .inr ⟨k,c',e,z'.sameBut hs ?_⟩;rintro rfl;exact hj (zDh hN e1 (I.ok.inj _ _ _ e hc ▸ hi))
  ·by_cases hcc:c'=c
   ·subst hcc; exact⟨_,hc'⟩
   ·obtain⟨w2,z2⟩:=I.cell y c' e;exact⟨w2,z2.sameBut hs hcc⟩
  ·obtain⟨e,n,ne,nf,d⟩:=I.pin p hp;refine⟨(hs.2 p.1 ?_).trans e,n,ne,nf,d⟩;intro q;rw[q,hoc] at e;have q':oc=p.2:=zn3 e;exact d w' (by rw[<-q']; exact hocd)
theorem zEW {M:Model}{A:Around}{E:Value->Shared->Prop}{i:Nat}{x:Str}{v:V}{u:Value}{Q:Unit->Shared->Prop}(I:Inv X pins σ H s)(hN:X.N.Nodup)(hi:X.N[i]? = some x)(hx:Loc X.env.scope x)(r:RelV v u)
  (h:∀s',Inv X pins (σ.set i (some v)) H s'->Q () s')(hf:X.fn x=true\/X.env.scope.names.lookup x=some .local:=by first | exact .inl rfl | exact .inr rfl | assumption):wpAny M A (storeName X.env x u) Q E s:=
 zGk I hN hi hx r (fun s' I' _=>h s' I') hf
theorem Inv.call' {s':Shared}{ch:List Addr}(I:Inv X pins σ H s)(ho:s'.os=s.os)(u:Un (frs X.stack) ch H H' s.heap s'.heap)(hok:HOk X.prog X.w H' s'.heap)(hg:AllBare s'.gens)
  (hch:∀b∈ch,(b∈X.ex\/X.s₀.heap.objs.size<=b)/\b≠X.env.locals/\(∀x c,X.env.cells.lookup x=some c->c≠b)/\∀p∈X.pn++pins,p.1≠b):Inv X pins σ H' s':=by
 obtain⟨h',g',d',t',o'⟩:=s';have e:o'=s.os:=ho;subst e;exact I.call (g':=g') (t':=t') (d':=d') u hok hg hch
end
abbrev XK:=Value->Option Addr->Hp->Prop
noncomputable abbrev St:=List (Option V)
abbrev VK:=V->Hp->Prop
abbrev TE:=St->Hp->VK->Prop
abbrev TT:=St->Hp->(Bool->Hp->Prop)->Prop
abbrev TA:=St->Hp->(List V->Hp->Prop)->Prop
structure Ends where
 nx:St->Hp->Prop
 rt:VK
 bk:St->Hp->Prop:=fun _ _=>False
 ct:St->Hp->Prop:=fun _ _=>False
abbrev TS:=Ends->St->Hp->Prop
def EP (X:Cx)(pins:List (Addr×Obj))(σ:St)(Q:VK)(u:Value)(s':Shared):Prop:=∃v H',Inv X pins σ H' s'/\RelV v u/\Q v H'
def TP (X:Cx)(pins:List (Addr×Obj))(σ:St)(Q:Bool->Hp->Prop)(b:Bool)(s':Shared):Prop:=∃H',Inv X pins σ H' s'/\Q b H'
def AP (X:Cx)(pins:List (Addr×Obj))(σ:St)(Q:List V->Hp->Prop)(us:List Value)(s':Shared):Prop:=∃vs H',Inv X pins σ H' s'/\Vals vs us/\Q vs H'
def SP (X:Cx)(pins:List (Addr×Obj))(D:Ends)(f:Flow)(s':Shared):Prop:=
 match f with
 | .next=>∃σ' H',Inv X pins σ' H' s'/\D.nx σ' H'
 | .brk=>∃σ' H',Inv X pins σ' H' s'/\D.bk σ' H'
 | .cont=>∃σ' H',Inv X pins σ' H' s'/\D.ct σ' H'
 | .ret u=>∃v σ' H',Inv X pins σ' H' s'/\RelV v u/\D.rt v H'
def PE (X:Cx)(e:Expr)(t:TE):Prop:=
 ∀(pins:List (Addr×Obj)) (s:Shared) (σ:St) (H:Hp) (Q:VK),Inv X pins σ H s->t σ H Q->wpAny (model X.prog X.w) X.A (eval e X.env) (EP X pins σ Q) X.xe s
def PT (X:Cx)(e:Expr)(t:TT):Prop:=
 ∀(pins:List (Addr×Obj)) (s:Shared) (σ:St) (H:Hp) (Q:Bool->Hp->Prop),Inv X pins σ H s->t σ H Q->wpAny (model X.prog X.w) X.A (isTrue e X.env (eval e X.env)) (TP X pins σ Q) X.xe s
def PW (X:Cx)(e:Expr)(t:TT):Prop:=
 ∀(whole:Sem Value) (pins:List (Addr×Obj)) (s:Shared) (σ:St) (H:Hp) (Q:Bool->Hp->Prop),Inv X pins σ H s->t σ H Q->wpAny (model X.prog X.w) X.A (isTrue e X.env whole) (TP X pins σ Q) X.xe s
theorem PW.pt {X:Cx}{e:Expr}{t:TT}(h:PW X e t):PT X e t:=h _
def PA (X:Cx)(es:List Expr)(t:TA):Prop:=
 ∀(pos:Pos) (pins:List (Addr×Obj)) (s:Shared) (σ:St) (H:Hp) (Q:List V->Hp->Prop),Inv X pins σ H s->t σ H Q->wpAny (model X.prog X.w) X.A (spliced (backTo pos (starEach es X.env))) (AP X pins σ Q) X.xe s
def PS (X:Cx)(st:Stmt)(t:TS):Prop:=
 ∀(pins:List (Addr×Obj)) (s:Shared) (σ:St) (H:Hp) (D:Ends),Inv X pins σ H s->t D σ H->wpAny (model X.prog X.w) X.A (exec st X.env) (SP X pins D) X.xe s
def PSs (X:Cx)(st:List Stmt)(t:TS):Prop:=
 ∀(pins:List (Addr×Obj)) (s:Shared) (σ:St) (H:Hp) (D:Ends),Inv X pins σ H s->t D σ H->wpAny (model X.prog X.w) X.A (execs st X.env) (SP X pins D) X.xe s
theorem thn {α:Type}{t:Sem α}{Q Q':α->Shared->Prop}{M:Model}{A:Around}{E:Value->Shared->Prop}{s:Shared}(h:wpAny M A t Q E s)(hQ:∀a s,Q a s->Q' a s):wpAny M A t Q' E s:=wpAny_mono h hQ fun _ _ x=>x
end L2
namespace L2
open PySem PySem.Spec PyProof.Rows
section
variable {X:Cx}
def tVar (i:Nat):TE:=fun σ H Q=>∃v,σ[i]? = some (some v)/\Q v H
def tC (v:V):TE:=fun _ H Q=>Q v H
theorem zGM {i:Nat}{x:Str}{pos:Pos}(hN:X.N[i]? = some x)(hv:Vis X.env.scope x)(hd:(x == ("__debug__" : Str))=false:=by decide)(hcd:(x == ("__classdict__" : Str))=false:=by decide):PE X (.Name x pos) (tVar i):=by
 intro pins s σ H Q I h;obtain⟨v,e,h⟩:=h;obtain⟨m,hn,hl⟩:=I.loc;obtain⟨u,r,l⟩:=hl i x v hN e hv;have fin:EP X pins σ Q u s:=⟨v,H,I,r,h⟩
 rcases l with ⟨hk,hm⟩ | ⟨hk,c,hc,hcell⟩
 ·exact wpAny_Name (wpAny_loadName_local I.ok.kind hk hn hm fin) hd
 ·rcases hk with hk | hk
  ·exact wpAny_Name (wpAny_loadName_cell I.ok.kind hk hc hcell fin) hd
  ·exact wpAny_Name (wpAny_loadName_free I.ok.kind hk hc hcell fin hcd) hd
theorem zMx {i j pos}:PE X (.Constant (.int i) j pos) (tC (.int i)):=fun _ _ _ H _ I h=>wpAny_Constant_int ⟨.int i,H,I.tok _,⟨_,rfl⟩,h⟩
theorem zN3 {b j pos}:PE X (.Constant (.bool b) j pos) (tC (.bl b)):=fun _ _ _ H _ I h=>Constant_bool ⟨.bl b,H,I,rfl,h⟩
theorem zMv {j pos}:PE X (.Constant .none j pos) (tC .non):=fun _ _ _ H _ I h=>Constant_none ⟨.non,H,I,rfl,h⟩
theorem zJr {x j pos}:PE X (.Constant (.str x) j pos) (tC (.str x)):=fun _ _ _ H _ I h=>Calls.Constant_str ⟨.str x,H,I.tok _,⟨_,rfl⟩,h⟩
def Gl (X:Cx)(x:Str):Prop:=X.env.kindOf x=some .globalImplicit
theorem zCy {E:Value->Shared->Prop}{pins:List (Addr×Obj)}{s:Shared}{σ:St}{H:Hp}{x:Str}{u:Value}{pos:Pos}{Q:Value->Shared->Prop}(I:Inv X pins σ H s)(hg:Gl X x)(hm:X.mg x=some u)(h:Q u s)
  (hd:(x == ("__debug__" : Str))=false:=by decide):wpAny (model X.prog X.w) X.A (eval (.Name x pos) X.env) Q E s:=
 Calls.Name_function_global I.ok.kind hg (Calls.loadGlobal_global (by rw[I.ok.glob]; exact I.mod.glob.keeps I.bk) hm h) hd
theorem zBR {E:Value->Shared->Prop}{pins:List (Addr×Obj)}{s:Shared}{σ:St}{H:Hp}{x:Str}{u:Value}{pos:Pos}{Q:Value->Shared->Prop}(I:Inv X pins σ H s)(hg:Gl X x)(hm:X.mg x=none)(hv:bootBuiltins x=some u)(h:Q u s)
  (hn:x ≠ "__name__":=by decide)(hd:(x == ("__debug__" : Str))=false:=by decide):wpAny (model X.prog X.w) X.A (eval (.Name x pos) X.env) Q E s:=by
 obtain⟨mb,h1,h2⟩:=I.mod.blt;exact Calls.Name_function_global I.ok.kind hg (Calls.loadGlobal_builtin (by rw[I.ok.glob]; exact I.mod.glob.keeps I.bk) hm (by rw[I.ok.blt]; exact h1.keeps I.bk) ((h2 x hn).trans hv) h) hd
theorem zGO {x:Str}{v:V}{u:Value}{pos:Pos}(hg:Gl X x)(hm:X.mg x=some u)(r:RelV v u)(hd:(x == ("__debug__" : Str))=false:=by decide):PE X (.Name x pos) (tC v):=
 fun _ _ _ H _ I h=>zCy I hg hm ⟨v,H,I,r,h⟩ hd
theorem zKC {x:Str}{v:V}{u:Value}{pos:Pos}(hg:Gl X x)(hm:X.mg x=none)(hv:bootBuiltins x=some u)(r:RelV v u)(hn:x ≠ "__name__":=by decide)(hd:(x == ("__debug__" : Str))=false:=by decide):PE X (.Name x pos) (tC v):=
 fun _ _ _ H _ I h=>zBR I hg hm hv ⟨v,H,I,r,h⟩ hn hd
variable {a b:Expr}{ta tb:TE}{pos:Pos}
def PC (X:Cx)(op:CmpOp)(a b:Expr)(t:TE):Prop:=
 ∀(pins:List (Addr×Obj)) (s:Shared) (σ:St) (H:Hp) (Q:VK),Inv X pins σ H s->t σ H Q ->
  wpAny (model X.prog X.w) X.A (eval a X.env) (fun v s₁=>wpAny (model X.prog X.w) X.A (eval b X.env) (fun u s₂=>wpAny (model X.prog X.w) X.A (compareOp op v u) (EP X pins σ Q) X.xe s₂) X.xe s₁) X.xe s
theorem zFb (b:Expr){op:CmpOp}(h:op≠.In)(h2:op≠.NotIn):behindInMarks op b=false:=by
 have e1:(op == CmpOp.In)=false:=by cases op <;> first | rfl | exact absurd rfl h
 have e2:(op == CmpOp.NotIn)=false:=by cases op <;> first | rfl | exact absurd rfl h2
 cases b <;> simp[behindInMarks,e1,e2]
def tIsN (ta:TE):TE:=fun σ H Q=>ta σ H fun x H1=>Q (.bl (decide (x=.non))) H1
def tNotN (ta:TE):TE:=fun σ H Q=>ta σ H fun x H1=>Q (.bl (!decide (x=.non))) H1
theorem RelV.none_iff {x:V}{v:Value}(r:RelV x v):(v == Value.none)=decide (x=.non):=by
 cases x with
 | non=>cases r; rfl
 | bl _=>cases r; rfl
 | int _=>obtain⟨t,rfl⟩:=r; rfl
 | str _=>obtain⟨t,rfl⟩:=r; rfl
 | byt _=>obtain⟨t,rfl⟩:=r; rfl
 | flt _=>obtain⟨t,rfl⟩:=r; rfl
 | ref _=>cases r; rfl
 | ty _=>cases r; rfl
theorem zJt {j pos'}(ha:PE X a ta):PC X .Is a (.Constant .none j pos') (tIsN ta):=by
 intro pins s σ H Q I h;refine thn (ha pins s σ H _ I h) fun v s1 hZz=>?_;obtain⟨x,H1,I1,r1,q1⟩:=hZz;exact Constant_none (is_none_gen ⟨.bl _,H1,I1,by rw[r1.none_iff]; rfl,q1⟩)
theorem zGP {j pos'}(ha:PE X a ta):PC X .IsNot a (.Constant .none j pos') (tNotN ta):=by
 intro pins s σ H Q I h;refine thn (ha pins s σ H _ I h) fun v s1 hZz=>?_;obtain⟨x,H1,I1,r1,q1⟩:=hZz;exact Constant_none (isnot_none_gen ⟨.bl _,H1,I1,by rw[r1.none_iff]; rfl,q1⟩)
def tB (t:TE):TT:=fun σ H Q=>t σ H fun x H1=>∃c,x=.bl c/\Q c H1
theorem zJs {op:CmpOp}{t:TE}(h:PC X op a b t)(h1:behindInMarks op b=false:=by first | exact zFb _ (by decide) (by decide) | rfl):PE X (.Compare a [op] [b] pos) t:=fun pins s σ H Q I hw=>wpAny_Compare1 (h pins s σ H Q I hw) h1
theorem zJk {op:CmpOp}{t:TE}(h:PC X op a b t)(h1:behindInMarks op b=false:=by first | exact zFb _ (by decide) (by decide) | rfl):PT X (.Compare a [op] [b] pos) (tB t):=by
 intro pins s σ H Q I hw;refine wpAny_isTrue_Compare1 (thn (h pins s σ H _ I hw) fun v s1 h1=>thn h1 fun u s2 h2=>thn h2 fun c s3 hZz=>?_) h1;obtain⟨x,H1,I1,r1,q1⟩:=hZz;obtain⟨d,rfl,q⟩:=q1;cases r1;exact wpAny_truthy_bool ⟨H1,I1,q⟩
theorem zMi {e:Expr}{t:TE}(h:PE X e t)(he:∀whole,isTrue e X.env whole=(do let v <-whole; standAt e.pos; holding [v] (truthy v)):=by intro _; rfl):PT X e (tB t):=by
 intro pins s σ H Q I hw;refine isTrue_plain (thn (h pins s σ H _ I hw) fun v s1 hZz=>?_) (he _);obtain⟨x,H1,I1,r1,q1⟩:=hZz;obtain⟨d,rfl,q⟩:=q1;cases r1;exact wpAny_truthy_bool ⟨H1,I1,q⟩
variable {tA tB':TT}{rest:List Expr}
def tAnd (t u:TT):TT:=fun σ H Q=>t σ H fun c H1=>if c=true then u σ H1 Q else Q false H1
def tOr (t u:TT):TT:=fun σ H Q=>t σ H fun c H1=>if c=true then Q true H1 else u σ H1 Q
def tNot (t:TT):TT:=fun σ H Q=>t σ H fun c H1=>Q (!c) H1
theorem zKl (ha:PT X a tA):PW X (.BoolOp .And [a] pos) tA:=by
 intro wh pins s σ H Q I h;refine isTrue_and (thn (ha pins s σ H Q I h) fun c s1 e=>?_);cases c with
 | true=>exact isTrue_and_nil e
 | false=>exact e
theorem zMg (ha:PT X a tA):PW X (.BoolOp .Or [a] pos) tA:=by
 intro wh pins s σ H Q I h;refine isTrue_or (thn (ha pins s σ H Q I h) fun c s1 e=>?_);cases c with
 | false=>exact isTrue_or_nil e
 | true=>exact e
theorem zMh (ha:PT X a tA)(hb:PW X (.BoolOp .And (b::rest) pos) tB'):PW X (.BoolOp .And (a::b::rest) pos) (tAnd tA tB'):=by
 intro wh pins s σ H Q I h;refine isTrue_and (thn (ha pins s σ H _ I h) fun c s1 hZz=>?_);obtain⟨H1,I1,q1⟩:=hZz;cases c with
 | true=>exact hb wh pins s1 σ H1 Q I1 q1
 | false=>exact⟨H1,I1,q1⟩
theorem zNY (ha:PT X a tA)(hb:PW X (.BoolOp .Or (b::rest) pos) tB'):PW X (.BoolOp .Or (a::b::rest) pos) (tOr tA tB'):=by
 intro wh pins s σ H Q I h;refine isTrue_or (thn (ha pins s σ H _ I h) fun c s1 hZz=>?_);obtain⟨H1,I1,q1⟩:=hZz;cases c with
 | true=>exact⟨H1,I1,q1⟩
 | false=>exact hb wh pins s1 σ H1 Q I1 q1
theorem zMk (ha:PT X a tA):PT X (.UnaryOp .Not a pos) (tNot tA):=by
 intro pins s σ H Q I h;exact isTrue_not (ha pins s σ H (fun c H1=>Q (!c) H1) I h)
def tAndV (ta tb:TE):TE:=fun σ H Q=>ta σ H fun x H1=>∃c,x=.bl c/\if c=true then tb σ H1 Q else Q (.bl false) H1
def tOrV (ta tb:TE):TE:=fun σ H Q=>ta σ H fun x H1=>∃c,x=.bl c/\if c=true then Q (.bl true) H1 else tb σ H1 Q
def tNotV (ta:TE):TE:=fun σ H Q=>ta σ H fun x H1=>∃c,x=.bl c/\Q (.bl (!c)) H1
theorem zMt {op}{t:TE}(h:PE X a t):PE X (.BoolOp op [a] pos) t:=fun pins s σ H Q I hw=>BoolOp_one (h pins s σ H Q I hw)
theorem zMz (ha:PE X a ta)(hb:PE X (.BoolOp .And (b::rest) pos) tb):PE X (.BoolOp .And (a::b::rest) pos) (tAndV ta tb):=by
 intro pins s σ H Q I h;refine BoolOp_and (thn (ha pins s σ H _ I h) fun v s1 hZz=>?_);obtain⟨x,H1,I1,r1,q1⟩:=hZz;obtain⟨c,rfl,q1⟩:=q1;cases r1;refine wpAny_truthy_bool ?_;cases c with
 | true=>exact hb pins s1 σ H1 Q I1 q1
 | false=>exact⟨.bl false,H1,I1,rfl,q1⟩
theorem zN1 (ha:PE X a ta)(hb:PE X (.BoolOp .Or (b::rest) pos) tb):PE X (.BoolOp .Or (a::b::rest) pos) (tOrV ta tb):=by
 intro pins s σ H Q I h;refine BoolOp_or (thn (ha pins s σ H _ I h) fun v s1 hZz=>?_);obtain⟨x,H1,I1,r1,q1⟩:=hZz;obtain⟨c,rfl,q1⟩:=q1;cases r1;refine wpAny_truthy_bool ?_;cases c with
 | false=>exact hb pins s1 σ H1 Q I1 q1
 | true=>exact⟨.bl true,H1,I1,rfl,q1⟩
theorem zMu (ha:PE X a ta):PE X (.UnaryOp .Not a pos) (tNotV ta):=by
 intro pins s σ H Q I h;refine UnaryOp_ (thn (ha pins s σ H _ I h) fun v s1 hZz=>?_);obtain⟨x,H1,I1,r1,q1⟩:=hZz;obtain⟨c,rfl,q1⟩:=q1;cases r1;exact not_of (wpAny_truthy_bool ⟨.bl (!c),H1,I1,rfl,q1⟩)
def tIf (t:TT)(ta tb:TE):TE:=fun σ H Q=>t σ H fun c H1=>if c=true then ta σ H1 Q else tb σ H1 Q
theorem zIb {c:Expr}(hc:PT X c tA)(ha:PE X a ta)(hb:PE X b tb):PE X (.IfExp c a b pos) (tIf tA ta tb):=by
 intro pins s σ H Q I h;refine wpAny_IfExp (thn (hc pins s σ H _ I h) fun d s1 hZz=>?_);obtain⟨H1,I1,q1⟩:=hZz;cases d with
 | true=>exact ha pins s1 σ H1 Q I1 q1
 | false=>exact hb pins s1 σ H1 Q I1 q1
end
end L2
namespace L2
open PySem PySem.Spec PyProof.Rows
def SqL (K:zFg)(H:Hp)(a:Addr)(xs:List V):Prop:=
 Rd H a (.lst xs) \/
  ∃(o:Obj) (its:Array Value) (n:Nat),K.lookup a=some o/\o.cls=.type "list" /\ o.dict=none/\o.data=.seq its n/\its.size<=sizeLine/\Vals xs its.toList
def SqT (K:zFg)(H:Hp)(a:Addr)(xs:List V):Prop:=
 Rd H a (.tup xs) \/
  ∃(o:Obj) (its:Array Value) (n:Nat),K.lookup a=some o/\o.cls=.type "tuple" /\ o.dict=none/\o.data=.seq its n/\its.size<=sizeLine/\Vals xs its.toList
noncomputable def absV:Value->Option V
 | .none=>some .non
 | .bool b=>some (.bl b)
 | .int i _=>some (.int i)
 | .str x _=>some (.str x)
 | .bytes b _=>some (.byt b)
 | .float b _=>some (.flt b)
 | .ref a=>some (.ref a)
 | .type n=>some (.ty n)
 | _=>none
theorem RelV.abs {x:V}{u:Value}(r:RelV x u):absV u=some x:=by
 cases x with
 | non=>cases r; rfl
 | bl _=>cases r; rfl
 | int _=>obtain⟨t,rfl⟩:=r; rfl
 | str _=>obtain⟨t,rfl⟩:=r; rfl
 | byt _=>obtain⟨t,rfl⟩:=r; rfl
 | flt _=>obtain⟨t,rfl⟩:=r; rfl
 | ref _=>cases r; rfl
 | ty _=>cases r; rfl
theorem RelV.inj {x y:V}{u:Value}(r:RelV x u)(q:RelV y u):x=y:=zn3 (r.abs.symm.trans q.abs)
theorem Vals.inj:∀{xs ys:List V} {us:List Value},Vals xs us->Vals ys us->xs=ys
 | _,_,_,.nil,.nil=>rfl
 | _,_,_,.cons r t,.cons r' t'=>by rw[r.inj r',Vals.inj t t']
section
variable {X:Cx}{pins:List (Addr×Obj)}{σ:St}{H:Hp}{s:Shared}{a:Addr}{xs ys:List V}
theorem SqT.of {K:zFg}(h:H a=some (.tup xs)):SqT K H a xs:=.inl (.inl h)
theorem Inv.list (I:Inv X pins σ H s)(h:SqL X.K H a xs):∃its:List Value,Vals xs its/\PlainL s.heap a its.toArray/\xs.length<=sizeLine:=by
 rcases h with h | ⟨o,its,n,hk,hc,hd,hs,hz,r⟩
 ·obtain⟨z,its,n,r,e⟩:=h.ok I.hok;exact⟨its,r,⟨_,n,e,rfl,rfl,rfl⟩,z⟩
 ·refine⟨its.toList,r,⟨o,n,I.kIn a o hk,hc,hd,by simpa using hs⟩,?_⟩;have e:=r.length;simp only[Array.length_toList] at e;omega
theorem Inv.tupN (I:Inv X pins σ H s)(h:SqT X.K H a xs):∃its:List Value,Vals xs its/\TupN s.heap a its.toArray/\xs.length<=sizeLine:=by
 rcases h with h | ⟨o,its,n,hk,hc,hn,hs,hz,r⟩
 ·obtain⟨z,its,r,p⟩:=h.ok I.hok;exact⟨its,r,p,z⟩
 ·refine⟨its.toList,r,⟨o,I.kIn a o hk,hc,⟨n,by simpa using hs⟩,hn⟩,?_⟩;have e:=r.length;simp only[Array.length_toList] at e;omega
theorem Inv.tuple (I:Inv X pins σ H s)(h:SqT X.K H a xs):∃its:List Value,Vals xs its/\IsTup s.heap a its.toArray/\xs.length<=sizeLine:=
 let ⟨its,r,p,z⟩:=I.tupN h
 ⟨its,r,p.tup,z⟩
theorem Inv.list_inj (I:Inv X pins σ H s)(h:SqL X.K H a xs)(h':SqL X.K H a ys):xs=ys:=by
 obtain⟨its,r,⟨o,n,e,_,_,d⟩,_⟩:=I.list h;obtain⟨its',r',⟨o',n',e',_,_,d'⟩,_⟩:=I.list h';rw[e] at e'; cases e';rw[d] at d';injection d' with d1 _;have:its=its':=by simpa using congrArg Array.toList d1
 subst this;exact r.inj r'
theorem Inv.tuple_inj (I:Inv X pins σ H s)(h:SqT X.K H a xs)(h':SqT X.K H a ys):xs=ys:=by
 obtain⟨its,r,⟨o,e,_,n,d⟩,_⟩:=I.tuple h;obtain⟨its',r',⟨o',e',_,n',d'⟩,_⟩:=I.tuple h';rw[e] at e'; cases e';rw[d] at d';injection d' with d1 _;have:its=its':=by simpa using congrArg Array.toList d1
 subst this;exact r.inj r'
end
noncomputable abbrev Cx.wish (X:Cx)(E:Value->Shared->Prop):Cx:={ X with xe:=E }
noncomputable abbrev Cx.nox (X:Cx):Cx:=X.wish fun _ _=>False
theorem Cx.Ok.wish {X:Cx}(ok:X.Ok)(E:Value->Shared->Prop):(X.wish E).Ok:=
 ⟨ok.mod,ok.kind,ok.glob,ok.blt,ok.above,ok.inj,ok.has,ok.cab,ok.hd,ok.frames,ok.stk,ok.exf,ok.bs,ok.bsz,ok.noex,ok.exfs,ok.funs,ok.frf⟩
theorem Cx.Ok.unwish {X:Cx}{E:Value->Shared->Prop}(ok:(X.wish E).Ok):X.Ok:=
 ⟨ok.mod,ok.kind,ok.glob,ok.blt,ok.above,ok.inj,ok.has,ok.cab,ok.hd,ok.frames,ok.stk,ok.exf,ok.bs,ok.bsz,ok.noex,ok.exfs,ok.funs,ok.frf⟩
section
variable {X:Cx}{pins:List (Addr×Obj)}{σ:St}{H:Hp}{s:Shared}{E:Value->Shared->Prop}
theorem Inv.wish (I:Inv X pins σ H s)(E:Value->Shared->Prop):Inv (X.wish E) pins σ H s:=⟨I.ok.wish E,I.os,I.bare,I.base,I.loc,I.cell,I.free,I.freeC,I.pin,I.hok,I.len⟩
theorem Inv.unwish (I:Inv (X.wish E) pins σ H s):Inv X pins σ H s:=⟨I.ok.unwish,I.os,I.bare,I.base,I.loc,I.cell,I.free,I.freeC,I.pin,I.hok,I.len⟩
theorem PE.nox {e:Expr}{t:TE}(h:PE X.nox e t):PE X e t:=fun pins s σ H Q I hw=>
 wpAny_mono (h pins s σ H Q (I.wish _) hw) (fun _ _ ⟨v,H',I',r,q⟩=>⟨v,H',I'.unwish,r,q⟩) fun _ _ z=>False.elim z
end
section
variable {X:Cx}{st:Stmt}{rest:List Stmt}{t u:TS}{e:Expr}{te:TE}{pos:Pos}
def tNext:TS:=fun D σ H=>D.nx σ H
def tSeq (t u:TS):TS:=fun D σ H=>t { D with nx:=u D } σ H
theorem zKr:PSs X [] tNext:=fun _ _ σ H _ I h=>wpAny_execs_nil ⟨σ,H,I,h⟩
theorem zH2 (h1:PS X st t)(h2:PSs X rest u):PSs X (st::rest) (tSeq t u):=by
 intro pins s σ H D I h;refine wpAny_execs_cons (thn (h1 pins s σ H { D with nx:=u D } I h) fun f s1 q=>?_);cases f with
 | next=>
  obtain⟨σ',H',I',q⟩:=q;exact h2 pins s1 σ' H' D I' q
 | ret v=>exact q
 | brk=>exact q
 | cont=>exact q
def tBreak:TS:=fun D σ H=>D.bk σ H
def tCont:TS:=fun D σ H=>D.ct σ H
theorem zKu:PS X (.Pass pos) tNext:=fun _ _ σ H _ I h=>wpAny_Pass ⟨σ,H,I,h⟩
theorem zH4:PS X (.Break pos) tBreak:=fun _ _ σ H _ I h=>wpAny_Break ⟨σ,H,I,h⟩
theorem zEx:PS X (.Continue pos) tCont:=fun _ _ σ H _ I h=>wpAny_Continue ⟨σ,H,I,h⟩
theorem Inv.quiet {pins:List (Addr×Obj)}{σ:St}{H:Hp}{s:Shared}(I:Inv X pins σ H s):interactive X.env=false:=by simp[interactive,I.ok.kind]
def tDrop (te:TE):TS:=fun D σ H=>te σ H fun _ H1=>D.nx σ H1
theorem zC8 (he:PE X e te)(hs:swapsWith e none pos.line X.env=pure false:=by rfl):PS X (.Expr e pos) (tDrop te):=by
 intro pins s σ H D I h;exact wpAny_Expr_any (thn (he pins s σ H _ I h) fun v s1 ⟨x,H1,I1,r1,q1⟩=>⟨σ,H1,I1,q1⟩) I.quiet hs
def tRet (te:TE):TS:=fun D σ H=>te σ H D.rt
theorem zGB (he:PE X e te):PS X (.Return (some e) pos) (tRet te):=by
 intro pins s σ H D I h;exact wpAny_Return_some (thn (he pins s σ H _ I h) fun v s1 ⟨x,H1,I1,r1,q1⟩=>⟨x,σ,H1,I1,r1,q1⟩)
def tRetN:TS:=fun D _ H=>D.rt .non H
theorem zKt:PS X (.Return none pos) tRetN:=fun _ _ σ H _ I h=>wpAny_Return_none ⟨.non,σ,H,I,rfl,h⟩
def tIfS (c:TT)(t u:TS):TS:=fun D σ H=>c σ H fun b H1=>if b=true then t D σ H1 else u D σ H1
theorem zNZ {c:Expr}{a b:List Stmt}{tc:TT}(hc:PT X c tc)(ha:PSs X a t)(hb:PSs X b u):PS X (.If c a b pos) (tIfS tc t u):=by
 intro pins s σ H D I h;refine wpAny_If (thn (hc pins s σ H _ I h) fun d s1 hZz=>?_);obtain⟨H1,I1,q1⟩:=hZz;cases d with
 | true=>exact ha pins s1 σ H1 D I1 q1
 | false=>exact hb pins s1 σ H1 D I1 q1
end
abbrev TG:=V->St->Hp->(St->Hp->Prop)->Prop
abbrev TGs:=List V->St->Hp->(St->Hp->Prop)->Prop
def PG (X:Cx)(target:Expr)(t:TG):Prop:=
 ∀(pins:List (Addr×Obj)) (s:Shared) (σ:St) (H:Hp) (v:V) (u:Value) (Q:St->Hp->Prop),Inv X pins σ H s->RelV v u->t v σ H Q ->
  wpAny (model X.prog X.w) X.A (assign target X.env u) (fun _ s'=>∃σ' H',Inv X pins σ' H' s'/\Q σ' H') X.xe s
def PGs (X:Cx)(ts:List Expr)(t:TGs):Prop:=
 ∀(pins:List (Addr×Obj)) (s:Shared) (σ:St) (H:Hp) (vs:List V) (us:List Value) (Q:St->Hp->Prop),Inv X pins σ H s->Vals vs us->t vs σ H Q ->
  wpAny (model X.prog X.w) X.A (assignInOrder ((assignEach ts X.env).map (·.2)) us) (fun _ s'=>∃σ' H',Inv X pins σ' H' s'/\Q σ' H') X.xe s
noncomputable abbrev TSet:=V->V->V->Hp->(Hp->Prop)->Prop
def PSet (X:Cx)(t:TSet):Prop:=
 ∀(pins:List (Addr×Obj)) (s:Shared) (σ:St) (H:Hp) (o i v:V) (ov iv u:Value) (Q:Hp->Prop),Inv X pins σ H s->RelV o ov->RelV i iv->RelV v u->t o i v H Q ->
  wpAny (model X.prog X.w) X.A (setItem ov iv u) (fun _ s'=>∃H',Inv X pins σ H' s'/\Q H') X.xe s
section
variable {X:Cx}{pos:Pos}
def gName (i:Nat):TG:=fun v σ H Q=>Q (σ.set i (some v)) H
theorem zEA {i:Nat}{x:Str}(hN:X.N.Nodup)(hi:X.N[i]? = some x)(hx:Loc X.env.scope x)(hf:X.fn x=true\/X.env.scope.names.lookup x=some .local:=by first | exact .inl rfl | exact .inr rfl | assumption):PG X (.Name x pos) (gName i):=by
 intro pins s σ H v u Q I r h;exact wpAny_assign_Name (zEW I hN hi hx r (fun s' I'=>⟨_,H,I',h⟩) hf)
def gNil:TGs:=fun vs σ H Q=>vs=[]/\Q σ H
def gCons (t:TG)(u:TGs):TGs:=fun vs σ H Q=>∃v r,vs=v::r/\t v σ H fun σ' H'=>u r σ' H' Q
theorem zKw:PGs X [] gNil:=by
 intro pins s σ H vs us Q I r h;obtain⟨e,h⟩:=h;subst e;cases r;exact assignInOrder_nil ⟨σ,H,I,h⟩
theorem zH7 {e:Expr}{es:List Expr}{t:TG}{u:TGs}(h1:PG X e t)(h2:PGs X es u)
  (hs:(assignEach (e::es) X.env).map (·.2)=assign e X.env::(assignEach es X.env).map (·.2):=by rfl):PGs X (e::es) (gCons t u):=by
 intro pins s σ H vs us Q I r h;obtain⟨v,vr,e1,h⟩:=h;subst e1;cases r with
 | cons r rr=>
  rw[hs];refine assignInOrder_cons (thn (h1 pins s σ H _ _ _ I r h) fun _ s1 hZz=>?_);obtain⟨σ1,H1,I1,q1⟩:=hZz;exact h2 pins s1 σ1 H1 _ _ Q I1 rr q1
def gTup (K:zFg)(n:Nat)(t:TGs):TG:=fun v σ H Q=>∃a xs,v=.ref a/\SqT K H a xs/\xs.length=n/\t xs σ H Q
theorem zMr {es:List Expr}{k:Nat}{t:TGs}{n:Nat}(hc:X.calm=true)(h:PGs X es t)
  (hn:(assignEach es X.env).length=n:=by rfl)(hst:(assignEach es X.env).findIdx? (·.1)=none:=by rfl):PG X (.Tuple es k pos) (gTup X.K n t):=by
 intro pins s σ H v u Q I r hw;obtain⟨a,xs,e1,hq,hl,hw⟩:=hw;subst e1;cases r;obtain⟨its,rv,ht,hz⟩:=I.tuple hq;refine assign_Tuple_tuple (I.ok.hd hc) ht (by simp[hn,<-hl,rv.length]) hst fun h' hx=>?_;have I1:Inv X pins σ H { s with heap:=h' }:=I.kept (t':=s.toks) fun b o e=>hx b o (zn2 (zm7 e)) e;exact h pins _ σ H xs _ Q I1 (by simpa using rv) hw
def tAsg (te:TE)(g:TG):TS:=fun D σ H=>te σ H fun x H1=>g x σ H1 D.nx
theorem zJm {tg e:Expr}{te:TE}{g:TG}(he:PE X e te)(hg:PG X tg g)(hs:swapsWithSole [tg] e pos.line X.env=pure false:=by rfl)(hw:swappedStores [tg] e X.env=pure none:=by rfl)
  (h1:(assignEach [tg] X.env).map (·.2)=[assign tg X.env]:=by rfl):PS X (.Assign [tg] e pos) (tAsg te g):=by
 intro pins s σ H D I h;refine wpAny_Assign_stores (thn (he pins s σ H _ I h) fun v s1 hZz=>?_) hs hw;obtain⟨x,H1,I1,r1,q1⟩:=hZz;rw[h1];exact thn (hg pins s1 σ H1 x v _ I1 r1 q1) fun _ s2 q=>q
theorem zJl {i:Nat}{x:Str}{e:Expr}{te:TE}{pos':Pos}(hN:X.N.Nodup)(hi:X.N[i]? = some x)(hx:Loc X.env.scope x)(he:PE X e te)(hs:swapsWith e (some (.Name x pos')) pos.line X.env=pure false:=by rfl)(hf:X.fn x=true\/X.env.scope.names.lookup x=some .local:=by first | exact .inl rfl | exact .inr rfl | assumption) :
  PS X (.Assign [.Name x pos'] e pos) (tAsg te (gName i)):=by
 intro pins s σ H D I h;refine wpAny_Assign_Name (thn (he pins s σ H _ I h) fun v s1 hZz=>?_) hs;obtain⟨y,H1,I1,r1,q1⟩:=hZz;exact zEW I1 hN hi hx r1 (fun s2 I2=>⟨_,H1,I2,q1⟩) hf
end
section
variable {X:Cx}{pos:Pos}
def tWhile (c:TT)(tb:TS):TS:=fun D σ H=>∃W:Nat->St->Hp->Prop,(∃m,W m σ H)/\∀m σ H,W m σ H ->
 c σ H fun b H1=>if b=true then ∃N:St->Hp->Prop,(∀σ' H',N σ' H'->∃m',m'<m/\W m' σ' H')/\tb { D with nx:=N,ct:=N,bk:=D.nx } σ H1 else D.nx σ H1
theorem zH3 {c:Expr}{body:List Stmt}{tc:TT}{tb:TS}(hp:PassesOwn (model X.prog X.w) X.A X.env X.xe)(hc:PT X c tc)(hb:PSs X body tb):PS X (.While c body [] pos) (tWhile tc tb):=by
 intro pins s σ H D I h;obtain⟨W,⟨m0,w0⟩,turn⟩:=h;refine wpAny_While (codeAny_whileLoop (fun n s'=>∃σ' H',Inv X pins σ' H' s'/\W n σ' H') ?_ m0 ⟨σ,H,I,w0⟩);rintro n s1 ⟨σ1,H1,I1,w1⟩;refine wpAny_passesOwn hp (thn (hc pins s1 σ1 H1 _ I1 (turn n σ1 H1 w1)) fun b s2 hZz=>?_);obtain⟨H2,I2,q2⟩:=hZz;cases b with
 | true=>
  obtain⟨N,hN,q2⟩:=q2;rw[if_pos rfl];refine wpAny_passesOwn hp (thn (hb pins s2 σ1 H2 _ I2 q2) fun f s3 q3=>?_);cases f with
  | next=>
   obtain⟨σ3,H3,I3,n3⟩:=q3;obtain⟨m',hm,w3⟩:=hN σ3 H3 n3;exact⟨m',hm,σ3,H3,I3,w3⟩
  | cont=>
   obtain⟨σ3,H3,I3,n3⟩:=q3;obtain⟨m',hm,w3⟩:=hN σ3 H3 n3;exact⟨m',hm,σ3,H3,I3,w3⟩
  | brk=>exact q3
  | ret v=>exact q3
 | false=>
  rw[if_neg Bool.false_ne_true];exact wpAny_execs_nil ⟨σ1,H2,I2,q2⟩
end
structure It where
 go:Nat->Hp->Prop
 yld:Nat->Hp->V->Hp->Prop
 stop:Nat->Hp->Prop
def FpOk (X:Cx)(pins:List (Addr×Obj))(H:Hp)(b:Addr):Prop:=
 H b=none/\b≠X.env.locals/\b∉X.fs/\(b∈X.ex\/X.s₀.heap.objs.size<=b)/\(∀x c,X.env.cells.lookup x=some c->c≠b)/\∀p∈X.pn++pins,p.1≠b
theorem Inv.fpOk {X:Cx}{pins:List (Addr×Obj)}{σ:St}{H H':Hp}{s:Shared}{b:Addr}(I:Inv X pins σ H s)(hb:s.heap.objs.size<=b)(hn:H' b=none):FpOk X pins H' b:=by
 refine⟨hn,Nat.ne_of_gt (zn1 I.lt hb),I.nofs hb,.inr (zm9 I.sz hb),fun x c e z=>?_,fun p hp z=>?_⟩
 ·obtain⟨v,q⟩:=I.cell x c e;exact absurd (zn1 q.lt (by rw[z]; exact hb)) (Nat.lt_irrefl _)
 ·exact absurd (zn1 (zm7 (I.pin p hp).1) (by rw[z]; exact hb)) (Nat.lt_irrefl _)
structure Turn (P:Program)(w:World)(K:zFg)(tg:Expr)(J:It)(fp:List Addr)(it:Addr)(tn:Nat->Heap->Prop):Prop where
 mem:it∈fp
 obj:∀i h,tn i h->∀b∈fp,∃o,h.get? b=some o/\∀v,o.data≠.cell v
 keep:∀i h h',tn i h->(∀b∈fp,∀o,h.get? b=some o->h'.get? b=some o)->tn i h'
 item:∀(X:Cx),X.prog=P->X.w=w->X.K=K->X.calm=true->∀(i:Nat) (pins:List (Addr×Obj)) (s:Shared) (σ:St) (H:Hp) (E:Value->Shared->Prop),Inv X pins σ H s->(∀b∈fp,FpOk X pins H b)->tn i s.heap->J.go i H ->
  wpAny (model P w) X.A (pyNext (.ref it)) (fun r s1=>∃u,r=some u /\
   wpAny (model P w) X.A (letOwnedTupleGo tg (.ref it) u) (fun _ s2=>∃x H',Inv X pins σ H' s2/\RelV x u/\J.yld i H x H'/\tn (i+1) s2.heap/\∀b∈fp,H' b=none) E s1) E s
 done:∀(X:Cx),X.prog=P->X.w=w->X.K=K->X.calm=true->∀(i:Nat) (pins:List (Addr×Obj)) (s:Shared) (σ:St) (H:Hp) (E:Value->Shared->Prop),Inv X pins σ H s->(∀b∈fp,FpOk X pins H b)->tn i s.heap->J.stop i H ->
  wpAny (model P w) X.A (pyNext (.ref it)) (fun r s1=>r=none/\Inv X pins σ H s1) E s
 self:∀(A:Around) (i:Nat) (s:Shared) (Q:Value->Shared->Prop) (E:Value->Shared->Prop),tn i s.heap->Q (.ref it) s->wpAny (model P w) A (pyIter (.ref it)) Q E s
abbrev TI:=St->Hp->(It->Hp->Prop)->Prop
def PIE (X:Cx)(pins:List (Addr×Obj))(σ:St)(tg:Expr)(R:It->Hp->Prop)(itv:Value)(s2:Shared):Prop:=
 ∃(it:Addr) (fp:List Addr) (tn:Nat->Heap->Prop) (J:It) (H':Hp),itv=.ref it/\Inv X pins σ H' s2/\Turn X.prog X.w X.K tg J fp it tn/\tn 0 s2.heap/\(∀b∈fp,FpOk X pins H' b)/\R J H'
def PI (X:Cx)(tg iter:Expr)(wi:TI):Prop:=
 ∀(pins:List (Addr×Obj)) (s:Shared) (σ:St) (H:Hp) (R:It->Hp->Prop),Inv X pins σ H s->wi σ H R ->
  wpAny (model X.prog X.w) X.A (eval iter X.env) (fun v s1=>wpAny (model X.prog X.w) X.A (pyIter v) (PIE X pins σ tg R) X.xe s1) X.xe s
theorem zID {M:Model}{A:Around}{E:Value->Shared->Prop}{s:Shared}{tg:Expr}{it:Addr}{u:Value}{o:Obj}{n:String}{vs:Array Value}{Q:Unit->Shared->Prop}(ho:s.heap.get? it=some o)(hc:o.cls=.type n)(hd:o.data=.fields vs)
    (hn:["enumerate", "zip", "dict_itemiterator", "dict_reverseitemiterator", "odict_iterator", "itertools.zip_longest", "itertools.pairwise"].contains n=false)(hQ:Q () s):wpAny M A (letOwnedTupleGo tg (.ref it) u) Q E s:=by
  unfold letOwnedTupleGo;cases tg <;> first
    | exact zn5 hQ
    | (cases u <;> first
        | exact zn5 hQ
        | (refine zn4 (wpAny_load ho ?_)
           rw[hc,hd];show wpAny M A (if (["enumerate", "zip", "dict_itemiterator", "dict_reverseitemiterator", "odict_iterator", "itertools.zip_longest", "itertools.pairwise"].contains n&&vs[0]? == some (rawInt _))=true then _ else _) Q E s;rw[if_neg (by intro h; rw[hn,Bool.false_and] at h; cases h)];exact zn5 hQ))
noncomputable def Itl (K:zFg)(a:Addr):It:=
 ⟨fun i H=>∃xs x,SqL K H a xs/\xs[i]? = some x,fun i H x H'=>H'=H/\∀xs,SqL K H a xs->xs[i]? = some x,fun i H=>∃xs,SqL K H a xs/\xs.length<=i⟩
noncomputable def Itt (K:zFg)(a:Addr):It:=
 ⟨fun i H=>∃xs x,SqT K H a xs/\xs[i]? = some x,fun i H x H'=>H'=H/\∀xs,SqT K H a xs->xs[i]? = some x,fun i H=>∃xs,SqT K H a xs/\xs.length<=i⟩
noncomputable def Itr (lo:Int)(n:Nat):It:=⟨fun i _=>i<n,fun i H x H'=>H'=H/\x=.int (lo+i),fun i _=>n<=i⟩
theorem zGb {P:Program}{w:World}{K:zFg}{tg:Expr}(a it:Addr):Turn P w K tg (Itl K a) [it] it (fun i h=>h.IsListIter it a i) where
 mem:=by simp
 obj:=fun i h st b hb=>by
  have e:b=it:=by simpa using hb
  subst e;obtain⟨o,e,c,d⟩:=st;exact⟨o,e,fun v z=>by rw[d] at z; cases z⟩
 keep:=fun i h h' st k=>st.at fun o e=>k it (by simp) o e
 item:=by
  intro X hP hw hK hc i pins s σ H E I hf st hg;subst hP hw hK;obtain⟨xs,x,hq,hx⟩:=hg;obtain⟨its,rv,p,hz⟩:=I.list hq;obtain⟨u,hu,ru⟩:=rv.get hx;obtain⟨f0,f1,f2,f3,f4,f5⟩:=hf it (by simp);refine wpAny_pyNext_list_item st p.isList (x:=u) (by simpa using hu) fun h' st' sb=>?_;have I1:Inv X pins σ H { s with heap:=h' }:=I.turned (t':=s.toks) (fun b o hb e=>(sb.2 b hb).trans e) f0 f1 f3 f4 f5;obtain⟨o,e,c,d⟩:=id st';exact⟨u,rfl,zID (s:={ s with heap:=h' }) e c d (by decide) ⟨x,H,I1,ru,⟨rfl,fun ys hy=>by rw[I.list_inj hy hq]; exact hx⟩,st',fun b hb=>(hf b hb).1⟩⟩
 done:=by
  intro X hP hw hK hc i pins s σ H E I hf st hg;subst hP hw hK;obtain⟨xs,hq,hx⟩:=hg;obtain⟨its,rv,p,hz⟩:=I.list hq;obtain⟨f0,f1,f2,f3,f4,f5⟩:=hf it (by simp);have hl:=rv.length;exact wpAny_pyNext_list_end (I.ok.hd hc) st p.isList (by simp; omega) fun h' eb=>⟨rfl,I.turned (t':=s.toks) (fun b o hb e=>eb b o hb e) f0 f1 f3 f4 f5⟩
 self:=fun _ _ _ _ _ st h=>wpAny_pyIter_listiter st h
theorem zFB {P:Program}{w:World}{K:zFg}{tg:Expr}(a it:Addr):Turn P w K tg (Itt K a) [it] it (fun i h=>h.IsTupleIter it a i) where
 mem:=by simp
 obj:=fun i h st b hb=>by
  have e:b=it:=by simpa using hb
  subst e;obtain⟨o,e,c,d⟩:=st;exact⟨o,e,fun v z=>by rw[d] at z; cases z⟩
 keep:=fun i h h' st k=>st.at fun o e=>k it (by simp) o e
 item:=by
  intro X hP hw hK hc i pins s σ H E I hf st hg;subst hP hw hK;obtain⟨xs,x,hq,hx⟩:=hg;obtain⟨its,rv,p,hz⟩:=I.tuple hq;obtain⟨u,hu,ru⟩:=rv.get hx;obtain⟨f0,f1,f2,f3,f4,f5⟩:=hf it (by simp);refine wpAny_pyNext_tuple_item st (show s.heap.IsTuple a its.toArray from p) (x:=u) (by simpa using hu) fun h' st' sb=>?_;have I1:Inv X pins σ H { s with heap:=h' }:=I.turned (t':=s.toks) (fun b o hb e=>(sb.2 b hb).trans e) f0 f1 f3 f4 f5;obtain⟨o,e,c,d⟩:=id st';exact⟨u,rfl,zID (s:={ s with heap:=h' }) e c d (by decide) ⟨x,H,I1,ru,⟨rfl,fun ys hy=>by rw[I.tuple_inj hy hq]; exact hx⟩,st',fun b hb=>(hf b hb).1⟩⟩
 done:=by
  intro X hP hw hK hc i pins s σ H E I hf st hg;subst hP hw hK;obtain⟨xs,hq,hx⟩:=hg;obtain⟨its,rv,p,hz⟩:=I.tuple hq;obtain⟨f0,f1,f2,f3,f4,f5⟩:=hf it (by simp);have hl:=rv.length;exact wpAny_pyNext_tuple_end (I.ok.hd hc) st (show s.heap.IsTuple a its.toArray from p) (by simp; omega) fun h' eb=>⟨rfl,I.turned (t':=s.toks) (fun b o hb e=>eb b o hb e) f0 f1 f3 f4 f5⟩
 self:=fun _ _ _ _ _ st h=>wpAny_pyIter_tupleiter st h
theorem zFC {P:Program}{w:World}{K:zFg}{tg:Expr}(it:Addr)(lo:Int)(n:Nat):Turn P w K tg (Itr lo n) [it] it (fun i h=>IsRangeIter h it (lo+(i:Nat) * 1) ((n:Int) - (i:Nat)) 1) where
 mem:=by simp
 obj:=fun i h st b hb=>by
  have e:b=it:=by simpa using hb
  subst e;exact⟨_,st,fun v z=>by
   have z':Data.fields _=Data.cell v:=z;cases z'⟩
 keep:=fun i h h' st k=>k it (by simp) _ st
 item:=by
  intro X hP hw hK hc i pins s σ H E I hf st hg;subst hP hw hK;obtain⟨f0,f1,f2,f3,f4,f5⟩:=hf it (by simp);have W:=Walks.range (prog:=X.prog) (w:=X.w) (I.ok.hd hc) it lo 1 n;refine W.item i s _ _ hg st fun v h' tk hv st' kk=>?_;obtain⟨t,rfl⟩:=hv;have I1:Inv X pins σ H { s with heap:=h',toks:=tk }:=I.turned (fun b o hb e=>kk b o (by simpa using hb) e) f0 f1 f3 f4 f5;refine⟨_,rfl,zID (s:={ s with heap:=h',toks:=tk }) (n := "range_iterator") st' rfl rfl (by decide) ⟨.int (lo+i),H,I1,⟨t,?_⟩,⟨rfl,rfl⟩,st',fun b hb=>(hf b hb).1⟩⟩;rw[Int.mul_one]
 done:=by
  intro X hP hw hK hc i pins s σ H E I hf st hg;subst hP hw hK;obtain⟨f0,f1,f2,f3,f4,f5⟩:=hf it (by simp);exact wpAny_pyNext_range_end (I.ok.hd hc) st (by have:n<=i:=hg; omega) fun h' eb=>⟨rfl,I.turned (t':=s.toks) (fun b o hb e=>eb b o hb e) f0 f1 f3 f4 f5⟩
 self:=fun _ _ _ _ _ st h=>wpAny_pyIter_rangeiter st h
end L2
namespace L2
open PySem PySem.Spec PyProof.Rows
section
variable {X:Cx}{tg:Expr}
def iList (K:zFg)(tl:TE):TI:=fun σ H R=>tl σ H fun x H1=>∃a,x=.ref a/\(∃xs,SqL K H1 a xs)/\R (Itl K a) H1
def iTup (K:zFg)(tl:TE):TI:=fun σ H R=>tl σ H fun x H1=>∃a,x=.ref a/\(∃xs,SqT K H1 a xs)/\R (Itt K a) H1
theorem zGK {l:Expr}{tl:TE}(hl:PE X l tl):PI X tg l (iList X.K tl):=by
 intro pins s σ H R I h;refine thn (hl pins s σ H _ I h) fun v s1 hZz=>?_;obtain⟨x,H1,I1,r1,q1⟩:=hZz;obtain⟨a,e,⟨xs,hq⟩,q⟩:=q1;subst e;cases r1;obtain⟨its,rv,p,hz⟩:=I1.list hq;refine wpAny_pyIter_list p.isList ?_;refine⟨s1.heap.objs.size,[s1.heap.objs.size],_,_,H1,rfl,I1.kept (t':=s1.toks) fun b o e=>zm5 _ e,zGb a _,⟨_,zm6 _ rfl,rfl,rfl⟩,fun b hb=>?_,q⟩;have e:b=s1.heap.objs.size:=by simpa using hb
 subst e;exact I1.fpOk (zm8 _) (I1.hok.fresh (zm8 _))
theorem zMp {l:Expr}{tl:TE}(hl:PE X l tl):PI X tg l (iTup X.K tl):=by
 intro pins s σ H R I h;refine thn (hl pins s σ H _ I h) fun v s1 hZz=>?_;obtain⟨x,H1,I1,r1,q1⟩:=hZz;obtain⟨a,e,⟨xs,hq⟩,q⟩:=q1;subst e;cases r1;obtain⟨its,rv,p,hz⟩:=I1.tuple hq;refine wpAny_pyIter_tuple (show s1.heap.IsTuple a its.toArray from p) ?_;refine⟨s1.heap.objs.size,[s1.heap.objs.size],_,_,H1,rfl,I1.kept (t':=s1.toks) fun b o e=>zm5 _ e,zFB a _,⟨_,zm6 _ rfl,rfl,rfl⟩,fun b hb=>?_,q⟩;have e:b=s1.heap.objs.size:=by simpa using hb
 subst e;exact I1.fpOk (zm8 _) (I1.hok.fresh (zm8 _))
theorem zHY {pins:List (Addr×Obj)}{σ:St}{H:Hp}{s:Shared}{R:It->Hp->Prop}{E:Value->Shared->Prop}{lo hi:Int}{t u v:Tok}{tk:Nat}(I:Inv X pins σ H s)(h1 : -(2 ^ 62)<=lo)(h2:lo<2 ^ 62)(h3 : -(2 ^ 62)<=hi)(h4:hi<2 ^ 62)
  (q:R (Itr lo (hi - lo).toNat) H):wpAny (model X.prog X.w) X.A (pyIter (.ref s.heap.objs.size)) (PIE X pins σ tg R) E { s with heap:=s.heap.push { cls:=.type "range",data:=.fields #[.int lo t,.int hi u,.int 1 v] },toks:=tk }:=by
 refine wpAny_pyIter_range (IsRange.new ..) (small_one h1 h2 h3 h4) ?_;have I1:Inv X pins σ H { s with heap:=s.heap.push { cls:=.type "range",data:=.fields #[.int lo t,.int hi u,.int 1 v] },toks:=tk }:=I.kept fun b o e=>zm5 _ e;refine⟨(s.heap.push { cls:=.type "range",data:=.fields #[.int lo t,.int hi u,.int 1 v] }).objs.size,[(s.heap.push { cls:=.type "range",data:=.fields #[.int lo t,.int hi u,.int 1 v] }).objs.size],_,_,H,rfl,
  I1.kept (t':=tk) fun b o e=>zm5 _ e,zFC _ lo (hi - lo).toNat,?_,fun b hb=>?_,q⟩
 ·have e1:lo+((0:Nat):Int) * 1=lo:=by simp
  have e2:(((hi - lo).toNat:Nat):Int) - ((0:Nat):Int)=Builtin.Range.rangeSize lo hi 1:=by rw[rangeSize_one]; split <;> omega
  show IsRangeIter _ _ (lo+((0:Nat):Int) * 1) ((((hi - lo).toNat:Nat):Int) - ((0:Nat):Int)) 1;rw[e1,e2];exact zm6 _ rfl
 ·have e:b=(s.heap.push { cls:=.type "range",data:=.fields #[.int lo t,.int hi u,.int 1 v] }).objs.size:=by simpa using hb
  subst e;exact I1.fpOk (zm8 _) (I1.hok.fresh (zm8 _))
def iRng1 (ta:TA):TI:=fun σ H R=>ta σ H fun vs H1=>∃j:Int,vs=[.int j] /\ -(2 ^ 62)<=j/\j<2 ^ 62/\R (Itr 0 j.toNat) H1
theorem zGJ {a:Expr}{ta:TA}{p pos:Pos}(hg:Gl X "range")(hm:X.mg "range" = none)(ha:PA X [a] ta)(hs:starEach [a] X.env=[(false,eval a X.env)]:=by rfl):PI X tg (.Call (.Name "range" p) [a] [] pos) (iRng1 ta):=by
 intro pins s σ H R I h;refine Call_ (zBR I hg hm boot_range (PyProof.Rows.callWith_type1 (thn (ha pos pins s σ H _ I h) fun us s1 hZz=>?_) hs rfl));obtain⟨vs,H1,I1,r1,q1⟩:=hZz;obtain⟨j,e,q1,q2,q⟩:=q1;subst e;cases r1 with
 | cons r rr=>
  cases rr;obtain⟨t,rfl⟩:=r;exact call_range_1 (zHY I1 (by omega) (by omega) q1 q2 (by simpa using q))
def tFor (wi:TI)(g:TG)(tb:TS):TS:=fun D σ H=>wi σ H fun J H1=>∃W:Nat->Nat->St->Hp->Prop,(∃m,W 0 m σ H1)/\∀i m σ H,W i m σ H ->
 (J.stop i H/\D.nx σ H)\/(J.go i H/\∃N:St->Hp->Prop,(∀σ' H',N σ' H'->∃m',m'<m/\W (i+1) m' σ' H')/\∀x H',J.yld i H x H'->g x σ H' fun σ2 H2=>tb { D with nx:=N,ct:=N,bk:=D.nx } σ2 H2)
noncomputable def pinsAt (fp:List Addr)(h:Heap):List (Addr×Obj):=fp.filterMap fun b=>(h.get? b).map fun o=>(b,o)
theorem zAX {fp:List Addr}{h:Heap}{b:Addr}{o:Obj}(hb:b∈fp)(e:h.get? b=some o):(b,o)∈pinsAt fp h:=List.mem_filterMap.mpr ⟨b,hb,by rw[e]; rfl⟩
theorem zGV {fp:List Addr}{h:Heap}{p:Addr×Obj}(hp:p∈pinsAt fp h):p.1∈fp/\h.get? p.1=some p.2:=by
 obtain⟨b,hb,e⟩:=List.mem_filterMap.mp hp;cases q:h.get? b with
 | none=>rw[q] at e; cases e
 | some o=>
  rw[q] at e;have e':(b,o)=p:=zn3 e;subst e';exact⟨hb,q⟩
theorem Inv.pinned {pins:List (Addr×Obj)}{σ:St}{H:Hp}{s:Shared}{fp:List Addr}(I:Inv X pins σ H s)(hf:∀b∈fp,FpOk X pins H b)(ho:∀b∈fp,∃o,s.heap.get? b=some o/\∀v,o.data≠.cell v):Inv X (pins++pinsAt fp s.heap) σ H s:=
 I.pins_of fun p hp=>(zp3 hp).elim (fun z=>I.pin p (zm3 _ z)) fun z=>by
  obtain⟨hb,e⟩:=zGV z;obtain⟨f0,f1,f2,_⟩:=hf p.1 hb;obtain⟨o,e',d⟩:=ho p.1 hb;rw[e] at e'; cases e';exact⟨e,f0,f1,f2,d⟩
theorem Inv.unpinned {pins pl:List (Addr×Obj)}{σ:St}{H:Hp}{s:Shared}(I:Inv X (pins++pl) σ H s):Inv X pins σ H s:=I.pins_of fun p hp=>I.pin p (zm3 _ (zm4 _ hp))
theorem zMl {iter:Expr}{body:List Stmt}{wi:TI}{g:TG}{tb:TS}{pos:Pos}(hp:PassesOwn (model X.prog X.w) X.A X.env X.xe)(hc:X.calm=true)(hi:PI X tg iter wi)(hg:PG X tg g)(hb:PSs X body tb)
  (hs:∀x,foldedSetIterable iter X.env x=pure x:=by intro _; rfl):PS X (.For tg iter body [] pos) (tFor wi g tb):=by
 intro pins s σ H D I h;refine wpAny_For (thn (hi pins s σ H _ I h) fun v s1 h1=>thn h1 fun itv s2 h2=>?_) hs;obtain⟨it,fp,tn,J,H2,e,I2,T,st2,f2,W,⟨m0,w0⟩,turn⟩:=h2;subst e;have stat:∀{H':Hp},(∀b∈fp,H' b=none)->∀b∈fp,FpOk X pins H' b:=fun hn b hb=>⟨hn b hb,(f2 b hb).2⟩
 refine codeAny_forLoop_any (fun n s'=>∃i σ' H',Inv X pins σ' H' s'/\tn i s'.heap/\(∀b∈fp,H' b=none)/\W i n σ' H') ?_ m0 ⟨0,σ,H2,I2,st2,fun b hb=>(f2 b hb).1,w0⟩;rintro n s3 ⟨i,σ3,H3,I3,st3,fr3,w3⟩;rcases turn i n σ3 H3 w3 with ⟨stop,qn⟩ | ⟨go,N,hN,step⟩
 ·refine wpAny_passesOwn hp (thn (T.done X rfl rfl rfl hc i pins s3 σ3 H3 X.xe I3 (stat fr3) st3 stop) fun r s4 hZz=>?_);obtain⟨hr,I4⟩:=hZz;subst hr;exact wpAny_execs_nil ⟨σ3,H3,I4,qn⟩
 ·refine wpAny_passesOwn hp (thn (T.item X rfl rfl rfl hc i pins s3 σ3 H3 X.xe I3 (stat fr3) st3 go) fun r s4 hZz=>?_);obtain⟨u,hr,h4⟩:=hZz;subst hr;refine wpAny_passesOwn hp (thn h4 fun _ s5 hZz=>?_);obtain⟨x,H5,I5,r5,y5,st5,fr5⟩:=hZz;have I5':=I5.pinned (stat fr5) (T.obj _ _ st5);refine wpAny_passesOwn hp (thn (hg _ s5 σ3 H5 x u _ I5' r5 (step x H5 y5)) fun _ s6 hZz=>?_);obtain⟨σ6,H6,I6,q6⟩:=hZz;refine wpAny_passesOwn hp (thn (hb _ s6 σ6 H6 _ I6 q6) fun f s7 q7=>?_);have again:∀{σ7:St} {H7:Hp},Inv X (pins++pinsAt fp s5.heap) σ7 H7 s7->N σ7 H7->∃m,m<n/\∃i σ' H',Inv X pins σ' H' s7/\tn i s7.heap/\(∀b∈fp,H' b=none)/\W i m σ' H':=fun {σ7 H7} I7 n7=>by
   obtain⟨m',hm,w7⟩:=hN σ7 H7 n7;refine⟨m',hm,i+1,σ7,H7,I7.unpinned,T.keep _ _ _ st5 fun b hb o e=>(I7.pin (b,o) (zm3 _ (zm3 _ (zAX hb e)))).1,fun b hb=>?_,w7⟩;obtain⟨o,e,d⟩:=T.obj _ _ st5 b hb;exact (I7.pin (b,o) (zm3 _ (zm3 _ (zAX hb e)))).2.1
  cases f with
  | next=>obtain⟨σ7,H7,I7,n7⟩:=q7; exact again I7 n7
  | cont=>obtain⟨σ7,H7,I7,n7⟩:=q7; exact again I7 n7
  | brk=>obtain⟨σ7,H7,I7,q7⟩:=q7; exact⟨σ7,H7,I7.unpinned,q7⟩
  | ret v=>obtain⟨x7,σ7,H7,I7,r7,q7⟩:=q7; exact⟨x7,σ7,H7,I7.unpinned,r7,q7⟩
end
end L2
namespace L2
open PySem PySem.Spec PyProof.Rows
abbrev R2:=V->V->Hp->VK->Prop
def OpR (X:Cx)(f:Value->Value->Sem Value)(r:R2):Prop:=
 ∀(pins:List (Addr×Obj)) (s:Shared) (σ:St) (H:Hp) (x y:V) (v u:Value) (Q:VK),Inv X pins σ H s->RelV x v->RelV y u->r x y H Q ->
  wpAny (model X.prog X.w) X.A (f v u) (EP X pins σ Q) X.xe s
def UnR (X:Cx)(f:Value->Sem Value)(r:V->Hp->VK->Prop):Prop:=
 ∀(pins:List (Addr×Obj)) (s:Shared) (σ:St) (H:Hp) (x:V) (v:Value) (Q:VK),Inv X pins σ H s->RelV x v->r x H Q ->
  wpAny (model X.prog X.w) X.A (f v) (EP X pins σ Q) X.xe s
def CallR (X:Cx)(f:Value)(r:List V->Hp->VK->Prop):Prop:=
 ∀(pins:List (Addr×Obj)) (s:Shared) (σ:St) (H:Hp) (xs:List V) (us:List Value) (Q:VK),Inv X pins σ H s->Vals xs us->r xs H Q ->
  wpAny (model X.prog X.w) X.A (call f us) (EP X pins σ Q) X.xe s
def tOp (r:R2)(ta tb:TE):TE:=fun σ H Q=>ta σ H fun x H1=>tb σ H1 fun y H2=>r x y H2 Q
def tUn (r:V->Hp->VK->Prop)(ta:TE):TE:=fun σ H Q=>ta σ H fun x H1=>r x H1 Q
def rI (C:Int->Int->Prop)(g:Int->Int->V):R2:=fun x y H Q=>∃i j,x=.int i/\y=.int j/\C i j/\Q (g i j) H
def rI0 (g:Int->Int->V):R2:=fun x y H Q=>∃i j,x=.int i/\y=.int j/\Q (g i j) H
def rU (g:Int->V):V->Hp->VK->Prop:=fun x H Q=>∃i,x=.int i/\Q (g i) H
section
variable {X:Cx}{a b c:Expr}{ta tb tc:TE}{pos:Pos}
theorem binT (ha:PE X a ta)(hb:PE X b tb){pins:List (Addr×Obj)}{s:Shared}{σ:St}{H:Hp}{R:V->V->Hp->Prop}(I:Inv X pins σ H s)
  (h:ta σ H fun x H1=>tb σ H1 fun y H2=>R x y H2){Q:Value->Shared->Prop}{f:Value->Value->Sem Value}
  (hf:∀v u s2 x y H2,Inv X pins σ H2 s2->RelV x v->RelV y u->R x y H2->wpAny (model X.prog X.w) X.A (f v u) Q X.xe s2) :
  wpAny (model X.prog X.w) X.A (eval a X.env) (fun v s₁=>wpAny (model X.prog X.w) X.A (eval b X.env) (fun u s₂=>wpAny (model X.prog X.w) X.A (f v u) Q X.xe s₂) X.xe s₁) X.xe s:=by
 refine thn (ha pins s σ H _ I h) fun v s1 hZz=>?_;obtain⟨x,H1,I1,r1,q1⟩:=hZz;refine thn (hb pins s1 σ H1 _ I1 q1) fun u s2 hZz=>?_;obtain⟨y,H2,I2,r2,q2⟩:=hZz;exact hf v u s2 x y H2 I2 r1 r2 q2
theorem zFN {op:Operator}{r:R2}(ho:OpR X (binaryOp op) r)(ha:PE X a ta)(hb:PE X b tb):PE X (.BinOp a op b pos) (tOp r ta tb):=by
 intro pins s σ H Q I h;exact wpAny_BinOp (binT ha hb I h fun v u s2 x y H2 I2 rx ry q=>ho pins s2 σ H2 x y v u Q I2 rx ry q)
theorem zN0 {op:UnaryOp}{r:V->Hp->VK->Prop}(ho:UnR X (unaryOp op) r)(ha:PE X a ta):PE X (.UnaryOp op a pos) (tUn r ta):=by
 intro pins s σ H Q I h;exact UnaryOp_ (thn (ha pins s σ H _ I h) fun v s1 ⟨x,H1,I1,r1,q1⟩=>ho pins s1 σ H1 x v Q I1 r1 q1)
theorem opI {f:Value->Value->Sem Value}{C:Int->Int->Prop}{g:Int->Int->Int}
  (rule:∀(i j:Int) (t u:Tok) (s:Shared) (Q:Value->Shared->Prop) (E:Value->Shared->Prop),C i j->Q (.int (g i j) s.toks) { s with toks:=s.toks+1 }->wpAny (model X.prog X.w) X.A (f (.int i t) (.int j u)) Q E s) :
  OpR X f (rI C fun i j=>.int (g i j)):=by
 intro pins s σ H x y v u Q I rx ry h;obtain⟨i,j,rfl,rfl,hc,q⟩:=h;obtain⟨t,rfl⟩:=rx;obtain⟨t',rfl⟩:=ry;exact rule i j t t' s _ _ hc ⟨.int (g i j),H,I.tok _,⟨_,rfl⟩,q⟩
theorem opI0 {f:Value->Value->Sem Value}{g:Int->Int->Int}
  (rule:∀(i j:Int) (t u:Tok) (s:Shared) (Q:Value->Shared->Prop) (E:Value->Shared->Prop),Q (.int (g i j) s.toks) { s with toks:=s.toks+1 }->wpAny (model X.prog X.w) X.A (f (.int i t) (.int j u)) Q E s) :
  OpR X f (rI0 fun i j=>.int (g i j)):=by
 intro pins s σ H x y v u Q I rx ry h;obtain⟨i,j,rfl,rfl,q⟩:=h;obtain⟨t,rfl⟩:=rx;obtain⟨t',rfl⟩:=ry;exact rule i j t t' s _ _ ⟨.int (g i j),H,I.tok _,⟨_,rfl⟩,q⟩
theorem opB0 {f:Value->Value->Sem Value}{g:Int->Int->Bool}
  (rule:∀(i j:Int) (t u:Tok) (s:Shared) (Q:Value->Shared->Prop) (E:Value->Shared->Prop),Q (.bool (g i j)) s->wpAny (model X.prog X.w) X.A (f (.int i t) (.int j u)) Q E s) :
  OpR X f (rI0 fun i j=>.bl (g i j)):=by
 intro pins s σ H x y v u Q I rx ry h;obtain⟨i,j,rfl,rfl,q⟩:=h;obtain⟨t,rfl⟩:=rx;obtain⟨t',rfl⟩:=ry;exact rule i j t t' s _ _ ⟨.bl (g i j),H,I,rfl,q⟩
def CPow (i j:Int):Prop:=0<=j/\j<=1000000/\i.natAbs<2 ^ 64
def CMul (i j:Int):Prop:=(-(2 ^ 64)<i/\i<2 ^ 64)\/(-(2 ^ 64)<j/\j<2 ^ 64)
theorem CMul.ok {i j:Int}(h:CMul i j):IntMulOk i j:=by
 rcases h with ⟨h1,h2⟩ | ⟨h1,h2⟩
 ·exact .of_left (intBits_le_64 h1 h2)
 ·exact .of_right (intBits_le_64 h1 h2)
theorem zME:OpR X (binaryOp .Add) (rI0 fun i j=>.int (i+j)):=opI0 fun _ _ _ _ _ _ _ q=>add_int q
theorem zMA:OpR X (binaryOp .Sub) (rI0 fun i j=>.int (i - j)):=opI0 fun _ _ _ _ _ _ _ q=>sub_int q
theorem zMC:OpR X (binaryOp .Mult) (rI CMul fun i j=>.int (i * j)):=opI fun _ _ _ _ _ _ _ hc q=>mul_int q hc.ok
theorem zMD:OpR X (binaryOp .Mod) (rI (fun _ j=>0<j) fun i j=>.int (i % j)):=opI fun i j _ _ _ _ _ hc q=>by
 have h1:(0:Int)<j:=hc;exact mod_int' (by omega) (by rw[Int.fmod_eq_emod_of_nonneg i (by omega)]; exact q)
theorem zMB:OpR X (binaryOp .Pow) (rI CPow fun i j=>.int (i ^ j.toNat)):=opI fun _ _ _ _ _ _ _ hc q=>pow_int_small hc.1 hc.2.1 hc.2.2 q
theorem unI {f:Value->Sem Value}{g:Int->Int}
  (rule:∀(i:Int) (t:Tok) (s:Shared) (Q:Value->Shared->Prop) (E:Value->Shared->Prop),Q (.int (g i) s.toks) { s with toks:=s.toks+1 }->wpAny (model X.prog X.w) X.A (f (.int i t)) Q E s) :
  UnR X f (rU fun i=>.int (g i)):=by
 intro pins s σ H x v Q I rx h;obtain⟨i,rfl,q⟩:=h;obtain⟨t,rfl⟩:=rx;exact rule i t s _ _ ⟨.int (g i),H,I.tok _,⟨_,rfl⟩,q⟩
theorem zLR:UnR X (unaryOp .USub) (rU fun i=>.int (-i)):=unI fun _ _ _ _ _ q=>neg_int q
end
noncomputable def scal:V->V->Bool
 | .non,.non=>true | .non,.int _=>true | .int _,.non=>true | .non,.bl _=>true | .bl _,.non=>true | .non,.str _=>true | .str _,.non=>true
 | .int _,.int _=>true | .bl _,.bl _=>true | .str _,.str _=>true | .byt _,.byt _=>true
 | .int _,.str _=>true | .str _,.int _=>true | .bl _,.str _=>true | .str _,.bl _=>true
 | _,_=>false
section
variable {X:Cx}{a b c:Expr}{ta tb tc:TE}{pos:Pos}
theorem zN4:OpR X (compareOp .Lt) (rI0 fun i j=>.bl (decide (i<j))):=opB0 fun _ _ _ _ _ _ _ q=>lt_int q
theorem zN5:OpR X (compareOp .LtE) (rI0 fun i j=>.bl (decide (i<=j))):=opB0 fun _ _ _ _ _ _ _ q=>le_int q
theorem zN6:OpR X (compareOp .Gt) (rI0 fun i j=>.bl (decide (j<i))):=opB0 fun _ _ _ _ _ _ _ q=>gt_int q
theorem zN7:OpR X (compareOp .GtE) (rI0 fun i j=>.bl (decide (j<=i))):=opB0 fun _ _ _ _ _ _ _ q=>ge_int q
theorem OpR.or {f:Value->Value->Sem Value}{r r':R2}(h:OpR X f r)(h':OpR X f r'):OpR X f (fun x y H Q=>r x y H Q\/r' x y H Q):=by
 intro pins s σ H x y v u Q I rx ry q;rcases q with q | q
 ·exact h pins s σ H x y v u Q I rx ry q
 ·exact h' pins s σ H x y v u Q I rx ry q
theorem nomark (b:Expr){op:CmpOp}(h:op≠.In:=by decide)(h2:op≠.NotIn:=by decide):behindInMarks op b=false:=by
 have e1:(op == CmpOp.In)=false:=by cases op <;> first | rfl | exact absurd rfl h
 have e2:(op == CmpOp.NotIn)=false:=by cases op <;> first | rfl | exact absurd rfl h2
 cases b <;> simp[behindInMarks,e1,e2]
theorem zKA {op:CmpOp}{r:R2}(ho:OpR X (compareOp op) r)(ha:PE X a ta)(hb:PE X b tb)(hm:behindInMarks op b=false):PE X (.Compare a [op] [b] pos) (tOp r ta tb):=by
 intro pins s σ H Q I h;exact wpAny_Compare1 (binT ha hb I h fun v u s2 x y H2 I2 rx ry q=>ho pins s2 σ H2 x y v u Q I2 rx ry q) hm
def tTest (t:TE):TT:=fun σ H Q=>t σ H fun x H'=>∃k,x=.bl k/\Q k H'
theorem zKq {op:CmpOp}{r:R2}(ho:OpR X (compareOp op) r)(ha:PE X a ta)(hb:PE X b tb)(hm:behindInMarks op b=false):PT X (.Compare a [op] [b] pos) (tTest (tOp r ta tb)):=by
 intro pins s σ H Q I h;refine wpAny_isTrue_Compare1 (thn (ha pins s σ H _ I h) fun v s1 ⟨x,H1,I1,r1,q1⟩=>thn (hb pins s1 σ H1 _ I1 q1) fun u s2 ⟨y,H2,I2,r2,q2⟩=>
  thn (ho pins s2 σ H2 x y v u _ I2 r1 r2 q2) fun c s3 ⟨z,H3,I3,r3,k,e,q3⟩=>?_) hm
 subst e;cases r3;exact wpAny_truthy_bool ⟨H3,I3,q3⟩
def tChain (r r':R2)(ta tb tc:TE):TE:=fun σ H Q=>ta σ H fun x H1=>tb σ H1 fun y H2=>r x y H2 fun z H3=>∃k,z=.bl k /\
 (if k=true then tc σ H3 fun w' H4=>r' y w' H4 Q else Q (.bl false) H3)
theorem zIc {op op':CmpOp}{r r':R2}(ho:OpR X (compareOp op) r)(ho':OpR X (compareOp op') r')(ha:PE X a ta)(hb:PE X b tb)(hc:PE X c tc)
  (hm:lastMarks [op,op'] [b,c]=false:=by with_unfolding_all rfl):PE X (.Compare a [op,op'] [b,c] pos) (tChain r r' ta tb tc):=by
 intro pins s σ H Q I h;refine Compare_chain (thn (ha pins s σ H _ I h) fun v s1 ⟨x,H1,I1,r1,q1⟩=>chain_link (thn (hb pins s1 σ H1 _ I1 q1) fun u s2 ⟨y,H2,I2,r2,q2⟩=>
  thn (ho pins s2 σ H2 x y v u _ I2 r1 r2 q2) fun d s3 ⟨z,H3,I3,r3,k,e,q3⟩=>?_)) hm
 subst e;cases r3;refine wpAny_truthy_bool ?_;cases k with
 | false=>exact ite_ff ⟨.bl false,H3,I3,rfl,q3⟩
 | true=>exact ite_tt (chain_last (thn (hc pins s3 σ H3 _ I3 q3) fun w' s4 ⟨z',H4,I4,r4,q4⟩=>ho' pins s4 σ H4 y z' u w' Q I4 r2 r4 q4))
theorem zH1 {op op':CmpOp}{r r':R2}(ho:OpR X (compareOp op) r)(ho':OpR X (compareOp op') r')(ha:PE X a ta)(hb:PE X b tb)(hc:PE X c tc)
  (hm:lastMarks [op,op'] [b,c]=false:=by with_unfolding_all rfl):PT X (.Compare a [op,op'] [b,c] pos) (tTest (tChain r r' ta tb tc)):=by
 intro pins s σ H Q I h;refine isTrue_chain (thn (ha pins s σ H _ I h) fun v s1 ⟨x,H1,I1,r1,q1⟩=>test_link (thn (hb pins s1 σ H1 _ I1 q1) fun u s2 ⟨y,H2,I2,r2,q2⟩=>
  thn (ho pins s2 σ H2 x y v u _ I2 r1 r2 q2) fun d s3 ⟨z,H3,I3,r3,k,e,q3⟩=>?_)) hm
 subst e;cases r3;refine wpAny_truthy_bool ?_;cases k with
 | false=>
  obtain⟨k',e',q'⟩:=q3;cases e';exact ite_ff ⟨H3,I3,q'⟩
 | true=>
  refine ite_tt (test_last (thn (hc pins s3 σ H3 _ I3 q3) fun w' s4 ⟨z',H4,I4,r4,q4⟩=>thn (ho' pins s4 σ H4 y z' u w' _ I4 r2 r4 q4) fun d' s5 hZz=>?_));obtain⟨z2,H5,I5,r5,k2,e2,q5⟩:=hZz;subst e2;cases r5;exact wpAny_truthy_bool ⟨H5,I5,q5⟩
theorem line63:(sizeLine:Nat)<2 ^ 63:=by rw[sizeLine_eq]; decide
theorem vals1 {x:V}{us:List Value}(r:Vals [x] us):∃u,us=[u]/\RelV x u:=by
 cases r with
 | cons r1 r2=>cases r2; exact⟨_,rfl,r1⟩
theorem vals2 {x y:V}{us:List Value}(r:Vals [x,y] us):∃u w',us=[u,w']/\RelV x u/\RelV y w':=by
 cases r with
 | cons r1 r2=>
  cases r2 with
  | cons r3 r4=>cases r4; exact⟨_,_,rfl,r1,r3⟩
theorem zHx (hc:X.calm=true):CallR X (.builtin "max") (fun xs H Q=>∃i j,xs=[.int i,.int j]/\Q (.int (if j > i then j else i)) H):=by
 intro pins s σ H xs us Q I r h;obtain⟨i,j,rfl,q⟩:=h;obtain⟨u,w',rfl,⟨t,rfl⟩,⟨t',rfl⟩⟩:=vals2 r;refine max_two_ints (I.ok.hd hc) fun h' tk k=>⟨_,H,I.kept k,?_,q⟩
 by_cases hj:j > i
 ·rw[if_pos hj,if_pos hj]; exact⟨_,rfl⟩
 ·rw[if_neg hj,if_neg hj]; exact⟨_,rfl⟩
theorem zHw (hc:X.calm=true):CallR X (.builtin "min") (fun xs H Q=>∃i j,xs=[.int i,.int j]/\Q (.int (if j<i then j else i)) H):=by
 intro pins s σ H xs us Q I r h;obtain⟨i,j,rfl,q⟩:=h;obtain⟨u,w',rfl,⟨t,rfl⟩,⟨t',rfl⟩⟩:=vals2 r;refine min_two_ints (I.ok.hd hc) fun h' tk k=>⟨_,H,I.kept k,?_,q⟩
 by_cases hj:j<i
 ·rw[if_pos hj,if_pos hj]; exact⟨_,rfl⟩
 ·rw[if_neg hj,if_neg hj]; exact⟨_,rfl⟩
theorem zHy:CallR X (.type "int") (fun xs H Q=>(∃i,xs=[.int i]/\Q (.int i) H)\/∃k,xs=[.bl k]/\Q (.int (if k then 1 else 0)) H):=by
 intro pins s σ H xs us Q I r h;rcases h with ⟨i,rfl,q⟩ | ⟨k,rfl,q⟩
 ·obtain⟨u,rfl,t,rfl⟩:=vals1 r;exact call_int_int ⟨.int i,H,I,⟨_,rfl⟩,q⟩
 ·obtain⟨u,rfl,r1⟩:=vals1 r;cases r1;exact call_int_bool ⟨.int (if k then 1 else 0),H,I.tok _,⟨_,rfl⟩,q⟩
end
end L2
namespace L2
open PySem PySem.Spec PyProof.Rows
structure ObjM (h:Heap)(x dx C:Addr)(mA:Str->Option Value):Prop where
 obj:h.get? x=some (PySem.W.instObj C dx)
 ns:h.Ns1 dx mA
 ne:dx≠x
theorem zG6 {h:Heap}{dx:Addr}{mA:Str->Option Value}(n:h.Ns1 dx mA):∃od,h.get? dx=some od/\∀name,PySem.W.lookIn name od=some (mA name):=by
 obtain⟨o,es,ep,ho,hd,hk,_,hm⟩:=n;refine⟨o,ho,fun name=>?_⟩;have e:=hm name;unfold nsFind findBy at e;rw[<-Array.find?_toList] at e;unfold PySem.W.lookIn;rw[hd];dsimp only;split
 ·rename_i y q;rw[q] at e;exact congrArg some e
 ·rename_i q;rw[q] at e;have a:es.toList.any (·.refKey)=false:=by
   rw[List.any_eq_false];intro y hy;obtain⟨z,t,hkey⟩:=hk y (Array.mem_toList_iff.mp hy);simp[DictEntry.refKey,hkey]
  have a':¬es.toList.any (·.refKey)=true:=by rw[a]; exact Bool.false_ne_true
  rw[if_neg a'];exact congrArg some e
theorem ObjM.look {h:Heap}{x dx C:Addr}{mA:Str->Option Value}(I:ObjM h x dx C mA):∃od,PySem.W.InstAt h x (PySem.W.instObj C dx) C (some od)/\∀name,PySem.W.lookIn name od=some (mA name):=
 let ⟨od,ho,hl⟩:=zG6 I.ns
 ⟨od,⟨I.obj,rfl,rfl,ho⟩,hl⟩
section
variable {prog:Program}{w:World}{A:Around}{E:Value->Shared->Prop}{s:Shared}{K:zFg}{x dx C f:Addr}{mA:Str->Option Value}{name:Str}{v:Value}
theorem zLb {expr:Bool}{Q:Value->Shared->Prop}(X:K.In s.heap)(I:ObjM s.heap x dx C mA)(hg:PySem.W.plainGet K C name=true)(hh:PySem.W.hasDictIn K C=true)
  (ha:PySem.W.findIn K (.ref C) name=some none)(hv:mA name=some v)(hv':PySem.W.handedIn v=true)(h:Q v { s with toks:=s.toks+1 }) :
  wpAny (model prog w) A (getAttr (.ref x) name expr) Q E s:=by
 obtain⟨od,J,hl⟩:=I.look;exact PySem.W.get_value X J (PySem.W.plainGet_of hg).1 (PySem.W.findObj_own hh ha rfl (by rw[hl,hv])) hv' h
theorem zIE {pl:Sem Bool}{Q:Value×List Value->Shared->Prop}(X:K.In s.heap)(I:ObjM s.heap x dx C mA)(hg:PySem.W.plainGet K C name=true)
  (hf:PySem.W.findIn K (.ref C) name=some (some (.ref f)))(ht:PySem.W.isFn K (.ref f)=true)(hv:mA name=none)(h:Q (.ref f,[.ref x]) s) :
  wpAny (model prog w) A (getMethod (.ref x) name pl) Q E s:=by
 obtain⟨od,J,hl⟩:=I.look;exact PySem.W.method_fn X J (PySem.W.plainGet_of hg).1 (PySem.W.plainGet_of hg).2 hf (beq_iff_eq.mp ht) (by show (PySem.W.lookIn name od).map (·.isSome)=some false; rw[hl,hv]; rfl) h
theorem zKb {ns:List Str}{Q:Unit->Shared->Prop}(X:K.In s.heap)(I:ObjM s.heap x dx C mA)
  (hs:PySem.W.findIn K (.ref C) "__setattr__" = some (some (.builtin "object.__setattr__")))(hp:PySem.W.plainOver K C=true)(ht:PySem.W.takerIn K C name=some none)(hh:PySem.W.hasDictIn K C=true)
  (hw:PySem.Within mA ns)(hsz:ns.length<=sizeLine)
  (h:∀h',ObjM h' x dx C (fun y=>if y=name then some v else mA y)->Heap.SameBut dx s.heap h'->Q () { s with heap:=h',toks:=s.toks+2 }) :
  wpAny (model prog w) A (setAttr (.ref x) name v) Q E s:=by
 obtain⟨od,J,hl⟩:=I.look;refine PySem.W.set_plain X J hs (PySem.W.osa_open (s:={ s with toks:=s.toks+1 }) (r:=none) X J hp ht fun b=>?_);obtain⟨cd,hc,hd'⟩:=PySem.W.any_some hh;have hx:s.heap.get? x=some ⟨.ref C,some dx,.plain,#[]⟩:=I.obj;refine zn4 (zn5 (zn4 (zn4 (wpAny_loadPart hx (zn4 (PySem.W.Looks.here (s:={ s with toks:=s.toks+1 }) (PySem.W.looks_clsIn X hc) ?_))))));rw[hd'];refine zn5 (a:=some dx) (zn4 (zn5 (zn4 ?_)));refine wpAny_nsSet1 (s:={ s with toks:=s.toks+1 }) I.ns fun h' hn2 hs2=>?_;obtain⟨oD,esD,epD,hoD,hdD,hcD⟩:=hn2.count (PySem.Within.cons name v hw);refine zn4 (wpAny_lookBehind hoD (by rw[hdD]; exact pastItsLine_dict (zm9 hcD (by rw[List.length_cons]; omega))) ?_);exact zn5 (h _ ⟨(hs2.2 _ (Ne.symm I.ne)).trans I.obj,hn2,I.ne⟩ hs2)
theorem zIt {R:Result->Shared->Prop}{vs:List Value}{kw:List (Str×Value)}(X:K.In s.heap)(hm:PySem.W.makesIn K C=true)
  (hi:PySem.W.findIn K (.ref C) "__init__" = some (some (.ref f)))(hf:PySem.W.typeIn K (.ref f)=some (.type "function"))
  (h:codeAny (model prog w) (A.under (.builtin "type.__call__" ⟨.ref C::vs,kw⟩)) (.call (.ref f) ⟨.ref (s.heap.objs.size+1)::vs,kw⟩) (PySem.W.InitBack (s.heap.objs.size+1) R)
   { s with heap:=(s.heap.push PySem.W.emptyDict).push (PySem.W.instObj C s.heap.objs.size) }) :
  codeAny (model prog w) A (.call (.ref C) ⟨vs,kw⟩) R s:=by
 obtain⟨hh,g,d,t,os⟩:=s;exact PySem.W.make_core (PySem.W.makes_of X hm) (PySem.W.looks_findIn X hi) (fun self=>PySem.W.bind_fn X self hf) (.inl rfl) h
end
noncomputable def putF (f:Str)(v:V):List (Str×V)->List (Str×V)
 | []=>[(f,v)]
 | (g,x)::r=>if g=f then (g,v)::r else (g,x)::putF f v r
theorem zCw (f g:Str)(v:V):∀fs:List (Str×V),(putF f v fs).lookup g=if g=f then some v else fs.lookup g
 | []=>by
  show List.lookup g [(f,v)]=_;by_cases h:g=f
  ·have hb:(g == f)=true:=beq_iff_eq.mpr h;simp only[List.lookup,hb,if_pos h]
  ·have hb:(g == f)=false:=beq_eq_false_iff_ne.mpr h;simp only[List.lookup,hb,if_neg h]
 | (k,x)::r=>by
  have ih:=zCw f g v r;rw[show putF f v ((k,x)::r)=(if k=f then (k,v)::r else (k,x)::putF f v r) from rfl];by_cases hk:k=f
  ·rw[if_pos hk];by_cases h:g=k
   ·have hb:(g == k)=true:=beq_iff_eq.mpr h;simp only[List.lookup,hb,if_pos (h.trans hk)]
   ·have hb:(g == k)=false:=beq_eq_false_iff_ne.mpr h;simp only[List.lookup,hb,if_neg (fun e:g=f=>h (e.trans hk.symm))]
  ·rw[if_neg hk];by_cases h:g=k
   ·have hb:(g == k)=true:=beq_iff_eq.mpr h;simp only[List.lookup,hb,if_neg (fun e:g=f=>hk (h.symm.trans e))]
   ·have hb:(g == k)=false:=beq_eq_false_iff_ne.mpr h;simp only[List.lookup,hb];exact ih
theorem zCA (f:Str)(v:V):∀fs:List (Str×V),f∈(putF f v fs).map (·.1)/\∀g,g∈fs.map (·.1)->g∈(putF f v fs).map (·.1)
 | []=>⟨by simp[putF],fun g h=>by simp at h⟩
 | (k,x)::r=>by
  obtain⟨i1,i2⟩:=zCA f v r;rw[show putF f v ((k,x)::r)=(if k=f then (k,v)::r else (k,x)::putF f v r) from rfl];by_cases hk:k=f
  ·rw[if_pos hk];subst hk;exact⟨by simp,fun g h=>by simpa using h⟩
  ·rw[if_neg hk];refine⟨?_,fun g h=>?_⟩
   ·rw[List.map_cons];exact zm1 _ i1
   ·rw[List.map_cons] at h ⊢;rcases zp1 h with e | e
    ·exact List.mem_cons.mpr (.inl e)
    ·exact zm1 _ (i2 g e)
theorem zCx (f:Str)(v:V):∀fs:List (Str×V),(putF f v fs).length<=fs.length+1
 | []=>by simp[putF]
 | (k,x)::r=>by
  have ih:=zCx f v r;rw[show putF f v ((k,x)::r)=(if k=f then (k,v)::r else (k,x)::putF f v r) from rfl];by_cases hk:k=f
  ·rw[if_pos hk,List.length_cons,List.length_cons]; omega
  ·rw[if_neg hk,List.length_cons,List.length_cons]; omega
theorem RelO.some_of {v:V}{o:Option Value}(r:RelO (some v) o):∃u,o=some u/\RelV v u:=by
 cases o with
 | none=>exact (show False from r).elim
 | some u=>exact⟨u,rfl,r⟩
theorem RelO.none_of {o:Option Value}(r:RelO none o):o=none:=by
 cases o with
 | none=>rfl
 | some u=>exact (show False from r).elim
theorem zHe {v:V}{u:Value}(r:RelV v u):PySem.W.handedIn u=true:=by
 cases v with
 | non=>cases (show u=Value.none from r); rfl
 | bl b=>cases (show u=Value.bool b from r); rfl
 | int i=>obtain⟨t,e⟩:=(show ∃t,u=Value.int i t from r); cases e; rfl
 | str x=>obtain⟨t,e⟩:=(show ∃t,u=Value.str x t from r); cases e; rfl
 | byt b=>obtain⟨t,e⟩:=(show ∃t,u=Value.bytes b t from r); cases e; rfl
 | flt b=>obtain⟨t,e⟩:=(show ∃t,u=Value.float b t from r); cases e; rfl
 | ref a=>cases (show u=Value.ref a from r); rfl
 | ty n=>cases (show u=Value.type n from r); rfl
section
variable {P:Program}{w:World}{H H':Hp}{h h':Heap}{a C dx:Addr}{fs fs':List (Str×V)}
theorem zDo (hok:HOk P w H h)(e:H a=some (.ins C dx fs)):∃mA,ObjM h a dx C mA/\(∀f,RelO (fs.lookup f) (mA f))/\PySem.Within mA (fs.map (·.1))/\fs.length<=1000/\H dx=some (.own a):=by
 obtain⟨d,z,ne,ob,mA,n,r,q⟩:=(show ObjOk P w H h a (.ins C dx fs) from hok a _ e)
 exact⟨mA,⟨ob,n,ne⟩,r,q,z,d⟩
end
structure Cls (K:zFg)(C:Addr):Prop where
 pg:PySem.W.plainGet K C Str.empty=true
 hd:PySem.W.hasDictIn K C=true
 po:PySem.W.plainOver K C=true
 sa:PySem.W.findIn K (.ref C) "__setattr__" = some (some (.builtin "object.__setattr__"))
theorem Cls.get {K:zFg}{C:Addr}(c:Cls K C)(f:Str):PySem.W.plainGet K C f=true:=c.pg
def NoAttr (K:zFg)(C:Addr)(f:Str):Prop:=PySem.W.findIn K (.ref C) f=some none
theorem NoAttr.taker {K:zFg}{C:Addr}{f:Str}(n:NoAttr K C f):PySem.W.takerIn K C f=some none:=by
 unfold PySem.W.takerIn;rw[show PySem.W.findIn K (.ref C) f=some none from n];rfl
structure Meth (K:zFg)(C:Addr)(m:Str)(f:Addr):Prop where
 at_:PySem.W.findIn K (.ref C) m=some (some (.ref f))
 fn:PySem.W.isFn K (.ref f)=true
 kp:PySem.W.keepIn K (.ref f)=true
section
variable {X:Cx}{pins:List (Addr×Obj)}{σ:St}{H:Hp}{s:Shared}{a C dx:Addr}{fs:List (Str×V)}{f:Str}{v:V}{A:Around}{E:Value->Shared->Prop}
theorem zFW {b:Bool}{Q:Value->Shared->Prop}(I:Inv X pins σ H s)(e:H a=some (.ins C dx fs))(c:Cls X.K C)(n:NoAttr X.K C f)(l:fs.lookup f=some v)
  (h:∀u s',Inv X pins σ H s'->RelV v u->Q u s'):wpAny (model X.prog X.w) A (getAttr (.ref a) f b) Q E s:=by
 obtain⟨mA,O,r,_,_,_⟩:=zDo I.hok e;obtain⟨u,hu,ru⟩:=RelO.some_of (v:=v) (o:=mA f) (by rw[<-l]; exact r f);exact zLb I.kIn O (c.get f) c.hd n hu (zHe ru) (h u _ (I.tok _) ru)
theorem zCT {m:Str}{g:Addr}{pl:Sem Bool}{Q:Value×List Value->Shared->Prop}(I:Inv X pins σ H s)(e:H a=some (.ins C dx fs))(c:Cls X.K C)(k:Meth X.K C m g)(l:fs.lookup m=none)
  (h:Q (.ref g,[.ref a]) s):wpAny (model X.prog X.w) A (getMethod (.ref a) m pl) Q E s:=by
 obtain⟨mA,O,r,_,_,_⟩:=zDo I.hok e;have hn:mA m=none:=RelO.none_of (by rw[<-l]; exact r m);exact zIE I.kIn O (c.get m) k.at_ k.fn hn h
theorem zFI {y:V}{u:Value}{Q:Unit->Shared->Prop}(I:Inv X pins σ H s)(e:H a=some (.ins C dx fs))(c:Cls X.K C)(n:NoAttr X.K C f)(hl:fs.length<1000)(ry:RelV y u)
  (h:∀s',Inv X pins σ (upd H a (.ins C dx (putF f y fs))) s'->Q () s'):wpAny (model X.prog X.w) A (setAttr (.ref a) f u) Q E s:=by
 obtain⟨mA,O,r,wi,_,ho⟩:=zDo I.hok e;have hz:(fs.map (·.1)).length<=sizeLine:=by rw[List.length_map,sizeLine_eq]; omega
 refine zKb I.kIn O c.sa c.po n.taker c.hd wi hz fun h' O' sb=>h _ ?_;have hd:∃o,h'.get? dx=some o:=let ⟨o,_,_,e',_⟩:=O'.ns; ⟨o,e'⟩
 refine I.write (x:=a) (e:=dx) (by rw[e]; exact True.intro) (.inr ho) (fun b q hb z=>(sb.2 b hb).trans z) hd ?_;refine⟨by rw[zAm O.ne]; exact ho,?_,O.ne,O'.obj,_,O'.ns,fun g=>?_,fun g hg=>?_⟩
 ·have:=zCx f y fs; omega
 ·show RelO ((putF f y fs).lookup g) (if g=f then some u else mA g);rw[zCw];by_cases q:g=f
  ·rw[if_pos q,if_pos q]; exact ry
  ·rw[if_neg q,if_neg q]; exact r g
 ·by_cases q:g=f
  ·rw[q]; exact (zCA f y fs).1
  ·refine (zCA f y fs).2 g (wi g fun z=>hg ?_);show (if g=f then some u else mA g)=none;rw[if_neg q]; exact z
theorem Inv.made (I:Inv X pins σ H s):Inv X pins σ (upd (upd H s.heap.objs.size (.own (s.heap.objs.size+1))) (s.heap.objs.size+1) (.ins C s.heap.objs.size []))
  { s with heap:=(s.heap.push PySem.W.emptyDict).push (PySem.W.instObj C s.heap.objs.size) }:=by
 have e1:(s.heap.push PySem.W.emptyDict).get? s.heap.objs.size=some PySem.W.emptyDict:=zm6 s.heap rfl;have e2:((s.heap.push PySem.W.emptyDict).push (PySem.W.instObj C s.heap.objs.size)).get? (s.heap.objs.size+1)=some (PySem.W.instObj C s.heap.objs.size):=by
  have:=zm6 (s.heap.push PySem.W.emptyDict) (o:=PySem.W.instObj C s.heap.objs.size) rfl
  rwa [Heap.size_push] at this
 have e3:(s.heap.push PySem.W.emptyDict).Ns s.heap.objs.size (fun _=>none):=⟨PySem.W.emptyDict,#[],_,e1,rfl,(fun e he=>absurd he (by simp)),fun _=>rfl⟩
 have I1:=I.laid (a:=s.heap.objs.size) (o:=.own (s.heap.objs.size+1)) (h':=s.heap.push PySem.W.emptyDict) (t':=s.toks) (fun b u q=>zm5 _ q) (zm8 _) ⟨_,e1⟩;refine I1.laid (a:=s.heap.objs.size+1) (o:=.ins C s.heap.objs.size []) (t':=s.toks) (fun b u q=>zm5 _ q) (Nat.le_of_eq (Heap.size_push _ _)) ?_;have ne:s.heap.objs.size≠s.heap.objs.size+1:=zn2 (Nat.lt_succ_self _);refine⟨by rw[zAm ne,zAi],Nat.zero_le _,ne,e2,fun _=>none,(Heap.Ns1.of_empty e3).at fun o q=>zm5 _ q,fun _=>True.intro,fun y hy=>absurd rfl hy⟩
theorem zLE {prog:Program}{w:World}{env:Env}{e:Expr}{f:Str}{pos:Pos}{s:Shared}{Q:Value->Shared->Prop}(hb:attributeBase e f env (eval e env)=eval e env)
  (h:wpAny (model prog w) A (eval e env) (fun o s₁=>wpAny (model prog w) A (getAttr o f true) Q E s₁) E s):wpAny (model prog w) A (eval (.Attribute e f pos) env) Q E s:=
 Attribute_any_ h (by rw[arm_eval_Attribute,hb])
end
def tFld (K:zFg)(ta:TE)(f:Str):TE:=fun σ H Q=>ta σ H fun x H1=>∃a C dx fs v,x=.ref a/\H1 a=some (.ins C dx fs)/\Cls K C/\NoAttr K C f/\fs.lookup f=some v/\Q v H1
def sFld (K:zFg)(ta tv:TE)(f:Str):TS:=fun D σ H=>tv σ H fun y H1=>ta σ H1 fun x H2=>∃a C dx fs,x=.ref a/\H2 a=some (.ins C dx fs)/\Cls K C/\NoAttr K C f/\fs.length<1000 /\
 D.nx σ (upd H2 a (.ins C dx (putF f y fs)))
section
variable {X:Cx}{o e value:Expr}{f:Str}{pos pos' tpos:Pos}{ta tv:TE}
theorem zMy (he:PE X e ta)(hb:attributeBase e f X.env (eval e X.env)=eval e X.env):PE X (.Attribute e f pos) (tFld X.K ta f):=by
 intro pins s σ H Q I h;refine zLE hb (thn (he pins s σ H _ I h) fun u s1 hZz=>?_);obtain⟨x,H1,I1,rx,a,C,dx,fs,v,ex,ea,c,n,l,q⟩:=hZz;subst ex;obtain rfl:u=Value.ref a:=rx;exact zFW I1 ea c n l fun u' s2 I2 ru=>⟨v,H1,I2,ru,q⟩
theorem zMm (ha:PE X o ta)(hv:PE X value tv)(hs:swapsWith value (some (.Attribute o f pos')) pos.line X.env=pure false):PS X (.Assign [.Attribute o f pos'] value pos) (sFld X.K ta tv f):=by
 intro pins s σ H D I h;refine plainObj_wpAny_Assign_Attribute (thn (hv pins s σ H _ I h) fun u s1 ⟨y,H1,I1,ry,q⟩=>thn (ha pins s1 σ H1 _ I1 q) fun ov s2 hZz=>?_) hs;obtain⟨x,H2,I2,rx,a,C,dx,fs,ex,ea,c,n,l,q2⟩:=hZz;subst ex;obtain rfl:ov=Value.ref a:=rx;exact zFI I2 ea c n l ry fun s3 I3=>⟨σ,_,I3,q2⟩
end
section
variable {X:Cx}{pins:List (Addr×Obj)}{σ:St}{H:Hp}{s:Shared}{A:Around}{E:Value->Shared->Prop}{Q:Value->Shared->Prop}{c:Value}{b:Bool}
inductive TyOf (K:zFg) (H:Hp):V->Value->Prop where
 | non:TyOf K H .non (.type "NoneType")
 | bl (x:Bool):TyOf K H (.bl x) (.type "bool")
 | int (i:Int):TyOf K H (.int i) (.type "int")
 | str (x:Str):TyOf K H (.str x) (.type "str")
 | flt (x:UInt64):TyOf K H (.flt x) (.type "float")
 | lst {a:Addr} {xs:List V} (e:H a=some (.lst xs)):TyOf K H (.ref a) (.type "list")
 | frz {a:Addr} {o:Obj} {xs:List V} (e:H a=some (.frz o (.lst xs))):TyOf K H (.ref a) (.type "list")
 | tup {a:Addr} {xs:List V} (e:H a=some (.tup xs)):TyOf K H (.ref a) (.type "tuple")
 | dK {a:Addr} {kvs:List (Key×V)} (e:H a=some (.dK kvs)):TyOf K H (.ref a) (.type "dict")
 | dT {a:Addr} {kvs:List (List Key×V)} (e:H a=some (.dT kvs)):TyOf K H (.ref a) (.type "dict")
 | ins {a C dx:Addr} {fs:List (Str×V)} (e:H a=some (.ins C dx fs)) (cl:Cls K C) (ha:PySem.W.findIn K (.ref C) "__class__" = some (some (.builtin "object.__class__")))
   (hn:PySem.W.specialIn K (.builtin "object.__class__") "__get__" = some (some (.builtin "getset_descriptor.__get__"))) (htk:PySem.W.takesIn K (.builtin "object.__class__")=some true)
   (hm:PySem.W.mroIn K C (.type "object")=some true):TyOf K H (.ref a) (.ref C)
theorem zA1 {x:V}{u t:Value}(I:Inv X pins σ H s)(rx:RelV x u)(ty:TyOf X.K H x t)(e:PySem.W.kitOne X.K t c=some b)(h:∀tk,Q (.bool b) { s with toks:=tk }) :
  wpAny (model X.prog X.w) A (call (.builtin "isinstance") [u,c]) Q E s:=by
 cases ty with
 | non=>cases (show u=Value.none from rx); exact PySem.W.kia_one PySem.W.kitx_none I.kIn True.intro e (fun z=>nomatch z) h
 | bl y=>cases (show u=Value.bool y from rx); exact PySem.W.kia_one PySem.W.kitx_bool I.kIn True.intro e (fun z=>nomatch z) h
 | int i=>obtain⟨t,q⟩:=(show ∃t,u=Value.int i t from rx); cases q; exact PySem.W.kia_one PySem.W.kitx_int I.kIn True.intro e (fun z=>nomatch z) h
 | str y=>obtain⟨t,q⟩:=(show ∃t,u=Value.str y t from rx); cases q; exact PySem.W.kia_one PySem.W.kitx_str I.kIn True.intro e (fun z=>nomatch z) h
 | flt y=>obtain⟨t,q⟩:=(show ∃t,u=Value.float y t from rx); cases q; exact PySem.W.kia_one PySem.W.kitx_float I.kIn True.intro e (fun z=>nomatch z) h
 | @lst a xs ea=>
  cases (show u=Value.ref a from rx);obtain⟨_,_,n,_,h1⟩:=(show ObjOk X.prog X.w H s.heap a (.lst xs) from I.hok a _ ea)
  exact PySem.W.kia_one PySem.W.kitx_list I.kIn ⟨_,h1,rfl⟩ e (fun z=>nomatch z) h
 | @frz a ob xs ea=>
  cases (show u=Value.ref a from rx);obtain⟨_,_,_,n,_,h1⟩:=(show ObjOk X.prog X.w H s.heap a (.frz ob (.lst xs)) from I.hok a _ ea)
  exact PySem.W.kia_one PySem.W.kitx_list I.kIn ⟨_,h1,rfl⟩ e (fun z=>nomatch z) h
 | @tup a xs ea=>
  cases (show u=Value.ref a from rx);obtain⟨_,_,_,p⟩:=(show ObjOk X.prog X.w H s.heap a (.tup xs) from I.hok a _ ea)
  obtain⟨o,h1,h2,_⟩:=p;exact PySem.W.kia_one PySem.W.kitx_tuple I.kIn ⟨o,h1,h2⟩ e (fun z=>nomatch z) h
 | @dK a kvs ea=>
  cases (show u=Value.ref a from rx);obtain⟨_,_,vs,_,p⟩:=(show ObjOk X.prog X.w H s.heap a (.dK kvs) from I.hok a _ ea)
  obtain⟨o,es,ep,h1,h2,_⟩:=p;exact PySem.W.kia_one PySem.W.kitx_dict I.kIn ⟨o,h1,h2.1⟩ e (fun z=>nomatch z) h
 | @dT a kvs ea=>
  cases (show u=Value.ref a from rx);obtain⟨_,_,xs,_,o,es,ep,h1,h2,_⟩:=(show ObjOk X.prog X.w H s.heap a (.dT kvs) from I.hok a _ ea)
  exact PySem.W.kia_one PySem.W.kitx_dict I.kIn ⟨o,h1,h2.1⟩ e (fun z=>nomatch z) h
 | @ins a C dx fs ea cl ha hn htk hm=>
  cases (show u=Value.ref a from rx);obtain⟨mA,O,_⟩:=zDo I.hok ea;obtain⟨od,J,_⟩:=O.look;exact PySem.W.kia_one (PySem.W.kitx_own (cl.get _) cl.hd ha hn htk hm) I.kIn J e (fun z=>nomatch z) h
end
end L2
namespace L2
open PySem PySem.Spec PyProof.Rows
structure Room (k:Nat)(A:Around):Prop where
 hd:A.handled=none
 dp:A.depth+3 * k+5<recursionLimit
 un:A.units+16 * k+200<cLine
theorem Room.mono {j k:Nat}{A:Around}(r:Room k A)(h:j<=k):Room j A:=⟨r.hd,by have:=r.dp; omega,by have:=r.un; omega⟩
theorem Room.deeper {k:Nat}{A:Around}(r:Room (k+1) A)(env:Env):Room k (A.deeper env):=
 ⟨r.hd,by have:=r.dp; show A.depth+1+3 * k+5<_; omega,by have:=r.un; show A.units+3+16 * k+200<_; omega⟩
theorem zFV {A:Around}{C:Addr}{us:List Value}{kw:List (Str×Value)}:(A.under (.builtin "type.__call__" ⟨.ref C::us,kw⟩)).depth=A.depth+1:=by
 first | rfl | simp[Around.under,Code.weight,Code.isCreation,Code.isGuard,Code.isCaller,Code.frames,Code.isFrame,guardIds]
theorem zFU {A:Around}{C:Addr}{us:List Value}{kw:List (Str×Value)}:(A.under (.builtin "type.__call__" ⟨.ref C::us,kw⟩)).units=A.units+1:=by
 first | rfl | simp[Around.under,Code.cUnits,Code.frames,Code.isFrame]
theorem Room.make {k:Nat}{A:Around}(r:Room (k+1) A)(C:Addr)(us:List Value)(kw:List (Str×Value)):Room k (A.under (.builtin "type.__call__" ⟨.ref C::us,kw⟩)):=
 ⟨r.hd,by have:=r.dp; rw[zFV]; omega,by have:=r.un; rw[zFU]; omega⟩
theorem Room.depth {k:Nat}{A:Around}(r:Room k A):A.depth<recursionLimit:=by have:=r.dp; omega
theorem Room.units {k:Nat}{A:Around}(r:Room k A):A.units+64<cLine:=by have:=r.un; omega
def tNil:TA:=fun _ H Q=>Q [] H
def tCons (ta:TE)(tr:TA):TA:=fun σ H Q=>ta σ H fun x H1=>tr σ H1 fun xs H2=>Q (x::xs) H2
section
variable {X:Cx}{e:Expr}{es:List Expr}{te:TE}{t:TA}{pos:Pos}
theorem zCN:PA X [] tNil:=fun _ _ _ _ H Q I h=>Calls.spliced_nil ⟨[],H,I,.nil,h⟩
theorem zBn (ha:PE X e te)(hr:PA X es t)(hs:starEach (e::es) X.env=(false,eval e X.env)::starEach es X.env:=by rfl):PA X (e::es) (tCons te t):=by
 intro pos pins s σ H Q I h;rw[hs];show wpAny _ _ (spliced ((false,eval e X.env)::backTo pos (starEach es X.env))) _ _ s;refine Calls.spliced_cons (thn (ha pins s σ H _ I h) fun u s1 hZz=>?_);obtain⟨x,H1,I1,r1,q1⟩:=hZz;exact thn (hr pos pins s1 σ H1 _ I1 q1) fun us s2 ⟨xs,H2,I2,r2,q2⟩=>⟨x::xs,H2,I2,.cons r1 r2,q2⟩
def tTup (t:TA):TE:=fun σ H Q=>t σ H fun xs H1=>xs.length<=sizeLine/\∀p,H1 p=none->Q (.ref p) (upd H1 p (.tup xs))
def tLst (t:TA):TE:=fun σ H Q=>t σ H fun xs H1=>xs.length<=sizeLine/\∀p,H1 p=none->Q (.ref p) (upd H1 p (.lst xs))
theorem zJq {x1}(h:PA X es t):PE X (.Tuple es x1 pos) (tTup t):=by
 intro pins s σ H Q I hq;refine wpAny_Tuple_spliced (thn (h pos pins s σ H _ I hq) fun us s1 ⟨xs,H1,I1,r,z,q⟩=>⟨by rw[<-r.length]; exact z,?_⟩);have hf:H1 s1.heap.objs.size=none:=I1.hok.fresh (zm8 _);refine⟨.ref s1.heap.objs.size,upd H1 s1.heap.objs.size (.tup xs),I1.laid (t':=s1.toks) (fun b u e=>zm5 _ e) (zm8 _) ?_,rfl,q _ hf⟩;exact⟨z,us,r,⟨_,zm6 _ rfl,rfl,⟨_,rfl⟩,rfl⟩⟩
theorem zMw (h:PA X es t):PE X (.List es pos) (tLst t):=by
 intro pins s σ H Q I hq;refine wpAny_List_spliced (thn (h pos pins s σ H _ I hq) fun us s1 ⟨xs,H1,I1,r,z,q⟩=>⟨by rw[<-r.length]; exact z,?_⟩);have hf:H1 s1.heap.objs.size=none:=I1.hok.fresh (zm8 _);refine⟨.ref s1.heap.objs.size,upd H1 s1.heap.objs.size (.lst xs),I1.laid (t':=s1.toks) (fun b u e=>zm5 _ e) (zm8 _) ?_,rfl,q _ hf⟩;exact⟨z,us,0,r,zm6 _ rfl⟩
end
abbrev Sp:=List V->Hp->VK->XK->Prop
noncomputable abbrev CXT:=List Env->Hp->Shared->XK->Value->Shared->Prop
structure Env0 (P:Program)(w:World)(K:zFg)(mg:Str->Option Value)(base:Heap)(A:Around)(outer:List Env)(s:Shared)(H:Hp):Prop where
 frames:A.frames=some outer
 mod:Mod K mg base
 bs:∀b o,base.get? b=some o->s.heap.get? b=some o/\H b=none
 bsz:base.objs.size<=s.heap.objs.size
 funs:s.heap.FunFrames base outer
 frf:∀b∈frs outer,H b=none
 hok:HOk P w H s.heap
 bare:AllBare s.gens
def CE (outer:List Env)(P:Program)(w:World)(H:Hp)(s:Shared)(Q:VK)(u:Value)(s':Shared):Prop:=
 ∃v H',s'.os=s.os/\AllBare s'.gens/\Un (frs outer) [] H H' s.heap s'.heap/\HOk P w H' s'.heap/\RelV v u/\Q v H'
def CR (CX:CXT)(outer:List Env)(P:Program)(w:World)(H:Hp)(s:Shared)(Q:VK)(E:XK)(r:Result)(s':Shared):Prop:=
 match r with
 | .ok (.ret u)=>CE outer P w H s Q u s'
 | .ok _=>False
 | .error e=>CX outer H s E e s'
structure FnOk (P:Program)(w:World)(K:zFg)(mg:Str->Option Value)(base:Heap)(CX:CXT)(k:Nat)(f:Addr)(fd:FuncData)(ps:List Str)(sp:Sp):Prop where
 len:∀vs H Q E,sp vs H Q E->vs.length=ps.length
 run:∀(A:Around) (outer:List Env) (s:Shared) (H:Hp) (args:Args) (us:List Value) (vs:List V) (Q:VK) (E:XK),Room k A->Env0 P w K mg base A outer s H->BindsTo s fd args (ps.zip us)->Vals vs us->sp vs H Q E ->
  codeAny (model P w) A (.call (.ref f) args) (CR CX outer P w H s Q E) s
theorem FnOk.imp {P:Program}{w:World}{K:zFg}{mg:Str->Option Value}{base:Heap}{CX:CXT}{k:Nat}{f:Addr}{fd:FuncData}{ps:List Str}{sp sp':Sp}(F:FnOk P w K mg base CX k f fd ps sp)
  (h:∀vs H Q E,sp' vs H Q E->sp vs H Q E):FnOk P w K mg base CX k f fd ps sp':=
 ⟨fun vs H Q E q=>F.len vs H Q E (h _ _ _ _ q),fun A outer s H args us vs Q E hr he hb hv hs=>F.run A outer s H args us vs Q E hr he hb hv (h _ _ _ _ hs)⟩
theorem Env0.make {P:Program}{w:World}{K:zFg}{mg:Str->Option Value}{base:Heap}{A:Around}{outer:List Env}{s:Shared}{H:Hp}(e:Env0 P w K mg base A outer s H)(C:Addr)(us:List Value)(kw:List (Str×Value)) :
  Env0 P w K mg base (A.under (.builtin "type.__call__" ⟨.ref C::us,kw⟩)) outer s H:=⟨by first | exact e.frames | (simpa[Around.under,Code.envs,Code.isFrame,pushEnvs] using e.frames),e.mod,e.bs,e.bsz,e.funs,e.frf,e.hok,e.bare⟩
section
variable {X:Cx}{pins:List (Addr×Obj)}{σ:St}{H:Hp}{s s':Shared}
theorem Inv.env0 (I:Inv X pins σ H s):Env0 X.prog X.w X.K X.mg X.base X.A X.stack s H:=
 ⟨I.ok.frames,I.ok.mod,I.bs,zm9 I.ok.bsz I.sz,I.stack,I.stkFree,I.hok,I.bare⟩
theorem Inv.after {Q:VK}{u:Value}(I:Inv X pins σ H s)(h:CE X.stack X.prog X.w H s Q u s'):EP X pins σ Q u s':=by
 obtain⟨v,H',os,bare,un,hok,r,q⟩:=h;obtain⟨hh,g,d,t,os'⟩:=s';obtain rfl:os'=s.os:=os;exact⟨v,H',I.call (h':=hh) (g':=g) (d':=d) (t':=t) (ch:=[]) un hok bare (fun b z=>absurd z (by simp)),r,q⟩
end
def tCall (sp:Sp)(dvs:List V)(E:St->XK)(t:TA):TE:=fun σ H Q=>t σ H fun vs H1=>sp (vs++dvs) H1 Q (E σ)
def tMeth (C:Addr)(m:Str)(sp:Sp)(dvs:List V)(E:St->XK)(ta:TE)(t:TA):TE:=fun σ H Q=>ta σ H fun x H1=>∃a dx fs,x=.ref a/\H1 a=some (.ins C dx fs)/\fs.lookup m=none /\
 t σ H1 fun vs H2=>sp (x::(vs++dvs)) H2 Q (E σ)
def tMake (C:Addr)(sp:Sp)(dvs:List V)(E:St->XK)(t:TA):TE:=fun σ H Q=>t σ H fun vs H1=>∀x dx,H1 x=none->H1 dx=none->dx≠x ->
 sp (.ref x::(vs++dvs)) (upd (upd H1 dx (.own x)) x (.ins C dx [])) (fun v H2=>v=.non/\Q (.ref x) H2) (E σ)
def Binds (K:zFg)(fd:FuncData)(ps:List Str)(ds:List Value):Prop:=
 ∀(s:Shared) (us:List Value),K.In s.heap->(us++ds).length=ps.length->BindsTo s fd ⟨us,[]⟩ (ps.zip (us++ds))
theorem Binds.all {K:zFg}{fd:FuncData}{ps:List Str}(h:∀us:List Value,us.length=ps.length->bindArgs fd ⟨us,[]⟩=pure (ps.zip us)):Binds K fd ps []:=fun s us _ hl=>by
 rw[List.append_nil] at hl ⊢;exact .of_eq (h us hl)
def Passes (CX:CXT)(X:Cx)(E:St->XK):Prop:=∀(pins:List (Addr×Obj)) (σ:St) (H:Hp) (s:Shared) (e:Value) (s':Shared),Inv X pins σ H s->CX X.stack H s (E σ) e s'->X.xe e s'
section
variable {X:Cx}{CX:CXT}{k:Nat}{f C:Addr}{fd:FuncData}{ps:List Str}{sp:Sp}{dvs:List V}{ds:List Value}{E:St->XK}{x m:Str}{p pos apos:Pos}{e o:Expr}{es:List Expr}{ta:TE}{t:TA}
theorem zEZ {pins:List (Addr×Obj)}{σ:St}{H:Hp}{s:Shared}{Q:VK}{us:List Value}{vs:List V}(F:FnOk X.prog X.w X.K X.mg X.base CX k f fd ps sp)(hr:Room k X.A)(hb:Binds X.K fd ps ds)(hd:Vals dvs ds)(hx:Passes CX X E)
  (I:Inv X pins σ H s)(r:Vals vs us)(h:sp (vs++dvs) H Q (E σ)):wpAny (model X.prog X.w) X.A (call (.ref f) us) (EP X pins σ Q) X.xe s:=by
 have r2:Vals (vs++dvs) (us++ds):=r.append hd;have hl:(us++ds).length=ps.length:=by rw[<-r2.length]; exact F.len _ _ _ _ h
 refine wpAny_call (codeAny_mono (F.run X.A X.stack s H ⟨us,[]⟩ (us++ds) (vs++dvs) Q (E σ) hr I.env0 (hb s us I.kIn hl) r2 h) fun r s' hq=>?_);cases r with
 | error e=>exact hx pins σ H s e s' I hq
 | ok fl=>
  cases fl with
  | ret u=>exact I.after hq
  | next=>exact False.elim hq
  | brk=>exact False.elim hq
  | cont=>exact False.elim hq
theorem zKB (F:FnOk X.prog X.w X.K X.mg X.base CX k f fd ps sp)(hr:Room k X.A)(hg:Gl X x)(hm:X.mg x=some (.ref f))(hk:PySem.W.keepIn X.K (.ref f)=true)(hb:Binds X.K fd ps ds)(hd:Vals dvs ds)(hx:Passes CX X E)
  (ha:PA X (e::es) t)(hdb:(x == ("__debug__" : Str))=false:=by decide)(he:starEach (e::es) X.env=(false,eval e X.env)::starEach es X.env:=by rfl)(hpl:(backTo pos (starEach es X.env)).any (·.1)=false:=by rfl) :
  PE X (.Call (.Name x p) (e::es) [] pos) (tCall sp dvs E t):=by
 intro pins s σ H Q I h;refine wpAny_Call_Name_kw (zCy I hg hm ?_ hdb);refine PySem.W.callWith_K (h₀:=X.base) I.ok.mod.kin hk (thn (ha pos pins s σ H _ I h) fun us s1 ⟨vs,H1,I1,r,q⟩=>⟨I1.kIn,?_⟩) he hpl;exact zEZ F hr hb hd hx I1 r q
theorem zId (F:FnOk X.prog X.w X.K X.mg X.base CX k f fd ps sp)(hr:Room k X.A)(hg:Gl X x)(hm:X.mg x=some (.ref f))(hk:PySem.W.keepIn X.K (.ref f)=true)(hb:Binds X.K fd ps ds)(hd:Vals dvs ds)(hx:Passes CX X E)
  (hdb:(x == ("__debug__" : Str))=false:=by decide):PE X (.Call (.Name x p) [] [] pos) (tCall sp dvs E tNil):=by
 intro pins s σ H Q I h;refine wpAny_Call_Name_kw (zCy I hg hm ?_ hdb);exact PySem.W.callWith_K0 I.kIn hk (zEZ (us:=[]) F hr hb hd hx I .nil h)
theorem zKx {pl:Sem Bool}(he:PE X o ta)(c:Cls X.K C)(hm:Meth X.K C m f)(F:FnOk X.prog X.w X.K X.mg X.base CX k f fd ps sp)(hr:Room k X.A)(hb:Binds X.K fd ps ds)(hd:Vals dvs ds)(hx:Passes CX X E)(ha:PA X (e::es) t)
  (hst:starEach (e::es) X.env=(false,eval e X.env)::starEach es X.env:=by rfl)(hpl:(backTo pos (starEach es X.env)).any (·.1)=false:=by rfl)
  (ht:eval (.Call (.Attribute o m apos) (e::es) [] pos) X.env=(do
   let ov <-eval o X.env
   standAt apos.atName
   let (f,first) <-holding [ov] (getMethod ov m pl)
   callWith pos f first (backTo pos (starEach (e::es) X.env)) (backToKw pos (keywordEach [] X.env))):=by rfl) :
  PE X (.Call (.Attribute o m apos) (e::es) [] pos) (tMeth C m sp dvs E ta t):=by
 intro pins s σ H Q I h;refine PySem.W.methodCall_KW (pl:=pl) (thn (he pins s σ H _ I h) fun u s1 hZz=>?_) ht;obtain⟨x,H1,I1,rx,a,dx,fs,ex,ea,l,q⟩:=hZz;subst ex;obtain rfl:u=Value.ref a:=rx;refine zCT I1 ea c hm l ?_;refine PySem.W.callWith_K (first:=[.ref a]) (h₀:=X.base) I.ok.mod.kin hm.kp (thn (ha pos pins s1 σ H1 _ I1 q) fun us s2 ⟨vs,H2,I2,r,q2⟩=>⟨I2.kIn,?_⟩) hst hpl;exact zEZ (us:=.ref a::us) (vs:=.ref a::vs) F hr hb hd hx I2 (.cons rfl r) q2
theorem zH9 {pl:Sem Bool}(he:PE X o ta)(c:Cls X.K C)(hm:Meth X.K C m f)(F:FnOk X.prog X.w X.K X.mg X.base CX k f fd ps sp)(hr:Room k X.A)(hb:Binds X.K fd ps ds)(hd:Vals dvs ds)(hx:Passes CX X E)
  (ht:eval (.Call (.Attribute o m apos) [] [] pos) X.env=(do
   let ov <-eval o X.env
   standAt apos.atName
   let (f,first) <-holding [ov] (getMethod ov m pl)
   callWith pos f first (backTo pos (starEach [] X.env)) (backToKw pos (keywordEach [] X.env))):=by rfl) :
  PE X (.Call (.Attribute o m apos) [] [] pos) (tMeth C m sp dvs E ta tNil):=by
 intro pins s σ H Q I h;refine PySem.W.methodCall_KW (pl:=pl) (thn (he pins s σ H _ I h) fun u s1 hZz=>?_) ht;obtain⟨x,H1,I1,rx,a,dx,fs,ex,ea,l,q⟩:=hZz;subst ex;obtain rfl:u=Value.ref a:=rx;refine zCT I1 ea c hm l ?_;exact PySem.W.callWith_K0 (first:=[.ref a]) I1.kIn hm.kp (zEZ (us:=[.ref a]) (vs:=[.ref a]) F hr hb hd hx I1 (.cons rfl .nil) q)
structure Mk (K:zFg)(C f:Addr):Prop where
 makes:PySem.W.makesIn K C=true
 init:PySem.W.findIn K (.ref C) "__init__" = some (some (.ref f))
 fn:PySem.W.isFn K (.ref f)=true
 kp:PySem.W.keepIn K (.ref C)=true
theorem zEY {pins:List (Addr×Obj)}{σ:St}{H:Hp}{s:Shared}{Q:VK}{us:List Value}{vs:List V}(M:Mk X.K C f)(F:FnOk X.prog X.w X.K X.mg X.base CX k f fd ps sp)(hr:Room (k+1) X.A)(hb:Binds X.K fd ps ds)(hd:Vals dvs ds)
  (hx:Passes CX X E)(I:Inv X pins σ H s)(r:Vals vs us)
  (h:∀x dx,H x=none->H dx=none->dx≠x->sp (.ref x::(vs++dvs)) (upd (upd H dx (.own x)) x (.ins C dx [])) (fun v H2=>v=.non/\Q (.ref x) H2) (E σ)) :
  wpAny (model X.prog X.w) X.A (call (.ref C) us) (EP X pins σ Q) X.xe s:=by
 have hq:=h (s.heap.objs.size+1) s.heap.objs.size (I.hok.fresh (Nat.le_succ _)) (I.hok.fresh (zm8 _)) (zn2 (Nat.lt_succ_self _));have I2:=Inv.made (C:=C) I;have r2:Vals (V.ref (s.heap.objs.size+1)::(vs++dvs)) (Value.ref (s.heap.objs.size+1)::(us++ds)):=.cons rfl (r.append hd);have hl:(Value.ref (s.heap.objs.size+1)::us++ds).length=ps.length:=by
  have e:=r2.length;rw[F.len _ _ _ _ hq] at e;exact e.symm
 refine wpAny_call (zIt (f:=f) I.kIn M.makes M.init (beq_iff_eq.mp M.fn) (codeAny_mono (F.run _ X.stack _ _ ⟨Value.ref (s.heap.objs.size+1)::us,[]⟩ (Value.ref (s.heap.objs.size+1)::(us++ds)) _ _ (E σ) (hr.make C us [])
  (I2.env0.make C us []) (hb _ (Value.ref (s.heap.objs.size+1)::us) I2.kIn hl) r2 hq) fun r s' hq'=>?_))
 cases r with
 | error e=>exact hx pins σ _ _ e s' I2 hq'
 | ok fl=>
  cases fl with
  | ret u=>
   obtain⟨v,H',I3,rv,ev,q3⟩:=I2.after hq';subst ev;exact⟨rv,⟨V.ref (s.heap.objs.size+1),H',I3,rfl,q3⟩⟩
  | next=>exact False.elim hq'
  | brk=>exact False.elim hq'
  | cont=>exact False.elim hq'
theorem zKy (M:Mk X.K C f)(F:FnOk X.prog X.w X.K X.mg X.base CX k f fd ps sp)(hr:Room (k+1) X.A)(hg:Gl X x)(hm:X.mg x=some (.ref C))(hb:Binds X.K fd ps ds)(hd:Vals dvs ds)(hx:Passes CX X E)
  (ha:PA X (e::es) t)(hdb:(x == ("__debug__" : Str))=false:=by decide)(he:starEach (e::es) X.env=(false,eval e X.env)::starEach es X.env:=by rfl)(hpl:(backTo pos (starEach es X.env)).any (·.1)=false:=by rfl) :
  PE X (.Call (.Name x p) (e::es) [] pos) (tMake C sp dvs E t):=by
 intro pins s σ H Q I h;refine wpAny_Call_Name_kw (zCy I hg hm ?_ hdb);refine PySem.W.callWith_K (h₀:=X.base) I.ok.mod.kin M.kp (thn (ha pos pins s σ H _ I h) fun us s1 ⟨vs,H1,I1,r,q⟩=>⟨I1.kIn,?_⟩) he hpl;exact zEY M F hr hb hd hx I1 r q
theorem zIa (M:Mk X.K C f)(F:FnOk X.prog X.w X.K X.mg X.base CX k f fd ps sp)(hr:Room (k+1) X.A)(hg:Gl X x)(hm:X.mg x=some (.ref C))(hb:Binds X.K fd ps ds)(hd:Vals dvs ds)(hx:Passes CX X E)
  (hdb:(x == ("__debug__" : Str))=false:=by decide):PE X (.Call (.Name x p) [] [] pos) (tMake C sp dvs E tNil):=by
 intro pins s σ H Q I h;refine wpAny_Call_Name_kw (zCy I hg hm ?_ hdb);exact PySem.W.callWith_K0 I.kIn M.kp (zEY (us:=[]) M F hr hb hd hx I .nil h)
end
section
variable {X:Cx}{CX:CXT}{k:Nat}{f C:Addr}{fd:FuncData}{ps ks:List Str}{sp:Sp}{E:St->XK}{x m:Str}{p pos apos kpos:Pos}{e o:Expr}{es:List Expr}{kws:List Keyword}{te ta:TE}{t tk:TA}{nm:Option Str}
variable {g:List Value->List Value->List Value}{gV:List V->List V->List V}
end
structure FnScope (N P:List Str)(sc:Scope):Prop where
 kind:sc.kind=.function
 co:sc.isCoroutine=false
 gen:sc.isGenerator=false
 nd:N.Nodup
 pre:N.take P.length=P
 par:∀x∈P,sc.names.lookup x=some .local\/sc.names.lookup x=some .cell
 nofree:∀y∈sc.names,y.2≠.free
theorem zEe {kindOf:Str->Option NameKind}{x:Str}:∀{binds:List (Str×Value)} {m:Str->Option Value},(∀v,(x,v)∉binds)->bindL kindOf binds m x=m x
 | [],_,_=>rfl
 | (n,v)::r,m,h=>by
  unfold bindL;rw[zEe fun w hw=>h w (List.mem_cons_of_mem _ hw)];split
  ·have:x≠n:=by rintro rfl; exact h v zm2
   simp[this]
  ·rfl
theorem zEg {kindOf:Str->Option NameKind}{x:Str}:∀{binds:List (Str×Value)} {m:Str->Option Value},(∀v,(x,v)∉binds)->bindC kindOf binds m x=m x
 | [],_,_=>rfl
 | (n,v)::r,m,h=>by
  unfold bindC;rw[zEg fun w hw=>h w (List.mem_cons_of_mem _ hw)];split
  ·rfl
  ·have:x≠n:=by rintro rfl; exact h v zm2
   simp[this]
theorem zEf {kindOf:Str->Option NameKind}{x:Str}{v:Value}:∀{P:List Str} {vs:List Value} {i:Nat} {m:Str->Option Value},P.Nodup->P[i]? = some x->vs[i]? = some v->kindOf x=some .local ->
  bindL kindOf (P.zip vs) m x=some v
 | [],_,_,_,_,h,_,_=>by simp at h
 | _::_,[],_,_,_,_,h,_=>by simp at h
 | p::P,w::vs,0,m,nd,h1,h2,hk=>by
  simp at h1 h2; subst h1; subst h2;show bindL kindOf ((p,w)::P.zip vs) m p=_;unfold bindL;rw[zEe fun v hv=>(List.nodup_cons.mp nd).1 (List.of_mem_zip hv).1,if_pos hk];simp
 | p::P,w::vs,i+1,m,nd,h1,h2,hk=>by
  show bindL kindOf ((p,w)::P.zip vs) m x=_;unfold bindL;exact zEf (i:=i) (List.nodup_cons.mp nd).2 (by simpa using h1) (by simpa using h2) hk
theorem zEh {kindOf:Str->Option NameKind}{x:Str}{v:Value}:∀{P:List Str} {vs:List Value} {i:Nat} {m:Str->Option Value},P.Nodup->P[i]? = some x->vs[i]? = some v->kindOf x≠some .local ->
  bindC kindOf (P.zip vs) m x=some v
 | [],_,_,_,_,h,_,_=>by simp at h
 | _::_,[],_,_,_,_,h,_=>by simp at h
 | p::P,w::vs,0,m,nd,h1,h2,hk=>by
  simp at h1 h2; subst h1; subst h2;show bindC kindOf ((p,w)::P.zip vs) m p=_;unfold bindC;rw[zEg fun v hv=>(List.nodup_cons.mp nd).1 (List.of_mem_zip hv).1,if_neg hk];simp
 | p::P,w::vs,i+1,m,nd,h1,h2,hk=>by
  show bindC kindOf ((p,w)::P.zip vs) m x=_;unfold bindC;exact zEh (i:=i) (List.nodup_cons.mp nd).2 (by simpa using h1) (by simpa using h2) hk
noncomputable def start (N:List Str)(vs:List V):St:=vs.map some++List.replicate (N.length - vs.length) none
noncomputable def cxOf (CX:CXT)(P:Program)(w:World)(K:zFg)(mg:Str->Option Value)(base:Heap)(N:List Str)(qual:Str)(scope:Scope)(f:Addr)(cd:Value)(A:Around)(outer:List Env)(s:Shared)(H:Hp)(E:XK):Cx where
 prog:=P
 w:=w
 K:=K
 mg:=mg
 base:=base
 A:=A.deeper (envOfC qual scope s.heap.objs.size f cd)
 N:=N
 s₀:=s
 H₀:=H
 env:=envOfC qual scope s.heap.objs.size f cd
 outer:=outer
 stack:=envOfC qual scope s.heap.objs.size f cd::outer
 ex:=[]
 calm:=true
 fn:=fun _=>true
 pn:=[]
 xe:=fun e s'=>wpAny (model P w) (A.deeper (envOfC qual scope s.heap.objs.size f cd)) (leaving (envOfC qual scope s.heap.objs.size f cd) e) (fun _ s''=>CX outer H s E e s'') (fun e' s''=>CX outer H s E e' s'') s'
theorem zFu {sc:Scope}{n:Nat}{x:Str}(h:sc.names.lookup x=some .cell):∃c,(cellsFrom n sc.names []).lookup x=some c:=by
 have q:=PySem.W.cellsFrom_some sc.names n [] (.inl h);exact Option.isSome_iff_exists.mp q
theorem zHa {CX:CXT}{P:Program}{w:World}{K:zFg}{mg:Str->Option Value}{base:Heap}{N ps:List Str}{qual:Str}{scope:Scope}{f:Addr}{cd:Value}{A:Around}{outer:List Env}{s s1:Shared}{H:Hp}{E:XK}{us:List Value}{vs:List V}
  (S:FnScope N ps scope)(hd:A.handled=none)(e0:Env0 P w K mg base A outer s H)(hl:vs.length=ps.length)(r:Vals vs us)
  (x:InCallC s s.heap.objs.size (bindL (envOfC qual scope s.heap.objs.size f cd).kindOf (ps.zip us) fun _=>none) (cellsFrom (s.heap.objs.size+1) scope.names []) (bindC (envOfC qual scope s.heap.objs.size f cd).kindOf (ps.zip us) fun _=>none) s1) :
  Inv (cxOf CX P w K mg base N qual scope f cd A outer s H E) [] (start N vs) H s1:=by
 have hpl:ps.length<=N.length:=by have:=congrArg List.length S.pre; rw[List.length_take] at this; omega
 obtain⟨h1,tk,rfl,hk⟩:=x.done;have noA:∀b:Addr,b∉(cxOf CX P w K mg base N qual scope f cd A outer s H E).ex:=fun b z=>absurd (show b∈([]:List Addr) from z) (by simp);refine⟨⟨e0.mod,S.kind,rfl,rfl,zm8 _,fun y z c h1 h2=>?_,fun y hy=>?_,fun y c _ h=>?_,fun _=>hd,Around.frames_deeper e0.frames,.inr ⟨rfl,rfl⟩,fun b z=>absurd z (noA b),e0.bs,e0.bsz,fun b _ _=>noA b,fun b z=>absurd z (noA b),e0.funs,e0.frf⟩,
  rfl,e0.bare,Un.kept hk,⟨_,x.toInCall.ns,fun i y v h1 h2 h3=>?_⟩,fun y c h=>⟨_,x.cell y c h⟩,e0.hok.fresh (zm8 _),fun y c h=>?_,fun p hp=>absurd (show p∈([]:List (Addr×Obj)) from hp) (by simp),e0.hok.kept hk,?_⟩
 ·exact name_of_addr x.apart (PySem.mem_of_lookup h1) (PySem.mem_of_lookup h2)
 ·have hy:scope.names.lookup y=some .cell\/scope.names.lookup y=some .free:=hy;rcases hy with hy | hy
  ·exact zFu hy
  ·exact absurd rfl (S.nofree _ (PySem.mem_of_lookup hy))
 ·exact Nat.le_of_lt (x.above y c (PySem.mem_of_lookup h))
 ·have hi:i<vs.length:=by
   unfold start at h2;by_cases hi:i<vs.length
   ·exact hi
   ·rw[List.getElem?_append_right (by simpa using hi)] at h2;rw[List.getElem?_replicate] at h2;split at h2 <;> cases h2
  have ha:vs[i]? = some v:=by
   unfold start at h2;rw[List.getElem?_append_left (by simpa using hi),List.getElem?_map] at h2;cases e:vs[i]? with
   | none=>rw[e] at h2; cases h2
   | some a=>rw[e] at h2; cases h2; rfl
  obtain⟨u,hu,rv⟩:=r.get ha;have hp:ps[i]? = some y:=by
   rw[<-S.pre,List.getElem?_take_of_lt (by omega)]; exact h1
  have ndP:ps.Nodup:=by rw[<-S.pre]; exact S.nd.sublist (List.take_sublist _ _)
  refine⟨u,rv,?_⟩;rcases S.par y (List.mem_of_getElem? hp) with k | k
  ·exact .inl ⟨k,zEf ndP hp hu k⟩
  ·obtain⟨c,e⟩:=zFu (n:=s.heap.objs.size+1) k;refine .inr ⟨.inl k,c,e,?_⟩;have q:=x.cell y c e;rw[zEh ndP hp hu (by show scope.names.lookup y≠_; rw[k]; decide)] at q;exact q
 ·exact e0.hok.fresh (Nat.le_of_lt (x.above y c (PySem.mem_of_lookup h)))
 ·unfold start;show _=N.length;rw[List.length_append,List.length_map,List.length_replicate];omega
theorem zOc {CX:CXT}{P:Program}{w:World}{K:zFg}{mg:Str->Option Value}{base:Heap}{k:Nat}{f:Addr}{name qual:Str}{params:Arguments}{body:List Stmt}{scope:Scope}{dV kV doc pm cdv ct oc:Value}{an od:Option Addr}
  {osl:Array (Option Value)}{N ps:List Str}{sp:Sp}(lk:K.lookup f=some ⟨oc,od,.func (PySem.W.fnOf name qual params body scope dV kV doc pm an cdv ct),osl⟩)(hcd:PySem.W.codeIn K cdv qual=true)(S:FnScope N ps scope)
  (len:∀vs H Q E,sp vs H Q E->vs.length=ps.length)
  (hbody:∀(A:Around) (outer:List Env) (s:Shared) (H:Hp) (vs:List V) (Q:VK) (E:XK),Room k (A.deeper (envOfC qual scope s.heap.objs.size f cdv))->sp vs H Q E ->
   ∃t,PSs (cxOf CX P w K mg base N qual scope f cdv A outer s H E) body t/\t { nx:=fun _ H'=>Q .non H',rt:=Q } (start N vs) H) :
  FnOk P w K mg base CX (k+1) f (PySem.W.fnOf name qual params body scope dV kV doc pm an cdv ct) ps sp:=by
 refine⟨len,fun A outer s H args us vs Q E hr e0 hb r hsp=>?_⟩;have hl:=len _ _ _ _ hsp;have KX:K.In s.heap:=e0.mod.kin.keeps fun b o e=>(e0.bs b o e).1;have lim:s.heap.NoLimit:=e0.mod.nolimit.keeps fun b o e=>(e0.bs b o e).1;have hkind:∀y∈ps.zip us,scope.names.lookup y.1=some .local\/(scope.names.lookup y.1=some .cell/\((cellsFrom (s.heap.objs.size+1) scope.names []).lookup y.1).isSome=true):=fun⟨n,v⟩ hy=>by
  rcases S.par n (List.of_mem_zip hy).1 with q | q
  ·exact .inl q
  ·exact .inr ⟨q,PySem.W.cellsFrom_some _ _ _ (.inl q)⟩
 refine codeAny_call_function hr.depth (KX _ _ lk) rfl S.co S.gen rfl (PySem.W.codeRec_of KX hcd) (hb _ _ _ _ ?_);refine wpAny_newFunctionEnv_cells S.kind hkind fun env he s1 x=>?_;subst he;refine⟨lim.keeps x.toInCall.keep,codeAny_func ?_⟩;obtain⟨t,ht,hq⟩:=hbody A outer s H vs Q E (hr.deeper _) hsp;have I:Inv (cxOf CX P w K mg base N qual scope f cdv A outer s H E) [] (start N vs) H s1:=zHa S hr.hd e0 hl r x;refine wpAny_mono (ht [] s1 (start N vs) H _ I hq) (fun fl s' hs=>?_) fun e s' hs=>hs;have fin:∀{σ':St} {H':Hp} {v:V} {u:Value},Inv (cxOf CX P w K mg base N qual scope f cdv A outer s H E) [] σ' H' s'->RelV v u->Q v H'->CE outer P w H s Q u s':=
  fun {σ' H' v u} J rv q=>⟨v,H',J.os,J.bare,J.base,J.hok,rv,q⟩
 cases fl with
 | ret u=>
  obtain⟨v,σ',H',J,rv,q⟩:=hs;exact fin J rv q
 | next=>
  obtain⟨σ',H',J,q⟩:=hs;exact fin (v:=V.non) (u:=Value.none) J rfl q
 | brk=>
  obtain⟨_,_,_,q⟩:=hs;exact False.elim q
 | cont=>
  obtain⟨_,_,_,q⟩:=hs;exact False.elim q
end L2
namespace L2
open PySem PySem.Spec PyProof.Rows
section
variable {X:Cx}{x:Str}{p pos:Pos}{e:Expr}{es:List Expr}{t:TA}{id T:String}{r:List V->Hp->VK->Prop}
def tCB (r:List V->Hp->VK->Prop)(t:TA):TE:=fun σ H Q=>t σ H fun vs H1=>r vs H1 Q
theorem zA5 (hc:CallR X (.builtin id) r)(hg:Gl X x)(hm:X.mg x=none)(hv:bootBuiltins x=some (.builtin id))(ha:PA X (e::es) t)(hn:x ≠ "__name__":=by decide)(hdb:(x == ("__debug__" : Str))=false:=by decide)
  (he:starEach (e::es) X.env=(false,eval e X.env)::starEach es X.env:=by rfl)(hpl:(backTo pos (starEach es X.env)).any (·.1)=false:=by rfl):PE X (.Call (.Name x p) (e::es) [] pos) (tCB r t):=by
 intro pins s σ H Q I h;refine wpAny_Call_Name_kw (zBR I hg hm hv ?_ hn hdb);exact PyProof.Rows.callWith_builtin1 (thn (ha pos pins s σ H _ I h) fun us s1 ⟨vs,H1,I1,r1,q1⟩=>hc pins s1 σ H1 vs us Q I1 r1 q1) he hpl
theorem zCn (hc:CallR X (.type T) r)(hg:Gl X x)(hm:X.mg x=none)(hv:bootBuiltins x=some (.type T))(ha:PA X (e::es) t)(hn:x ≠ "__name__":=by decide)(hdb:(x == ("__debug__" : Str))=false:=by decide)
  (he:starEach (e::es) X.env=(false,eval e X.env)::starEach es X.env:=by rfl)(hpl:(backTo pos (starEach es X.env)).any (·.1)=false:=by rfl):PE X (.Call (.Name x p) (e::es) [] pos) (tCB r t):=by
 intro pins s σ H Q I h;refine wpAny_Call_Name_kw (zBR I hg hm hv ?_ hn hdb);exact PyProof.Rows.callWith_type1 (thn (ha pos pins s σ H _ I h) fun us s1 ⟨vs,H1,I1,r1,q1⟩=>hc pins s1 σ H1 vs us Q I1 r1 q1) he hpl
end
end L2
namespace HT
open PySem PyProof.Rows
section
open PySem.SeqAt
open PySem.AutoSeq1 (wpAny_loadPart')
open PySem.MeetsSeq PySem.MeetsSeq2 PySem.MeetsSeq3
end
section
variable {prog:Program}{w:World}{A:Around}{E:Value->Shared->Prop}{s:Shared}
theorem cat_tup {t b:Addr}{vs ws:List Value}{Q:Value->Shared->Prop}(ht:IsTup s.heap t vs.toArray)(hb:IsTup s.heap b ws.toArray)(hv:vs≠[])
  (h1:ws=[]->Q (.ref t) s)(h2:ws≠[]->Q (.ref s.heap.objs.size) { s with heap:=s.heap.push { cls:=.type "tuple",data:=.seq (vs++ws).toArray } })
  (hsz:vs.length+ws.length<=sizeLine):wpAny (model prog w) A (binaryOp .Add (.ref t) (.ref b)) Q E s:=by
 obtain⟨⟨cls,dd,data,sl⟩,ho,hc,n,hd⟩:=id ht;obtain⟨⟨cls2,dd2,data2,sl2⟩,ho2,hc2,n2,hd2⟩:=id hb;simp only at hc hd hc2 hd2;subst hc hd hc2 hd2;have e:vs.toArray++ws.toArray=(vs++ws).toArray:=by simp
 by_cases hw:ws=[]
 ·exact concat_meets ⟨_,ho,rfl⟩ ⟨_,ho2,rfl⟩ noFill_tuple_add seq_tuple_add PySem.F.slot_tuple_add PySem.F.entry_tuple_add (PySem.F.args_tuple_add_2 _ _)
   (tuple_addW1 t b vs.toArray ws.toArray n n2 dd dd2 sl sl2 (by simpa using hv) (by simp[hw])) ⟨ho,ho2,h1 hw⟩
 ·refine concat_meets ⟨_,ho,rfl⟩ ⟨_,ho2,rfl⟩ noFill_tuple_add seq_tuple_add PySem.F.slot_tuple_add PySem.F.entry_tuple_add (PySem.F.args_tuple_add_2 _ _)
   (tuple_addW2 t b vs.toArray ws.toArray n n2 dd dd2 sl sl2 (by simpa using hv) (by simpa using hw) (by rw[List.size_toArray,List.size_toArray]; exact hsz)) ⟨ho,ho2,?_⟩
  rw[e];exact h2 hw
noncomputable def sIx (n d:Nat):Option Int->Nat
 | none=>d
 | some v=>if v<0 then (v+(n:Int)).toNat else min v.toNat n
theorem zMa (n d:Nat)(hd:d<=n)(o:Option Int):sIx n d o<=n:=by
 cases o with
 | none=>exact hd
 | some v=>
  show (if v<0 then (v+(n:Int)).toNat else min v.toNat n)<=n;by_cases hv:v<0
  ·rw[if_pos hv]; omega
  ·rw[if_neg hv]; exact Nat.min_le_right _ _
theorem zHv (v:Int)(n d:Nat):(if v<0 then max (v+(n:Int)) 0 else min v (n:Int))=((sIx n d (some v):Nat):Int):=by
 show (if v<0 then max (v+(n:Int)) 0 else min v (n:Int))=(((if v<0 then (v+(n:Int)).toNat else min v.toNat n):Nat):Int);by_cases hv:v<0
 ·simp only[if_pos hv]; omega
 ·simp only[if_neg hv]; omega
theorem zF3 (lo hi:Option Int)(n:Nat):Builtin.Slice.sliceAdjust lo hi 1 (n:Int)=(((sIx n 0 lo:Nat):Int),((sIx n n hi:Nat):Int)):=by
 have h1:¬((1:Int)<0):=by omega
 unfold Builtin.Slice.sliceAdjust;simp only[h1,if_false];refine Prod.ext ?_ ?_
 ·cases lo with
  | none=>rfl
  | some v=>exact zHv v n 0
 ·cases hi with
  | none=>rfl
  | some v=>exact zHv v n n
theorem zFM (i j:Nat):Builtin.Slice.slicePlaces (i:Int) (j:Int) 1=j - i:=by
 unfold Builtin.Slice.slicePlaces;have h1:(1:Int) > 0:=by omega
 simp only[h1,if_true,Int.ediv_one];split <;> omega
theorem zCL {v:Value}{o:Option Int}{Q:Option Int->Shared->Prop}(p:IsPart v o)(h:Q o s):wpAny (model prog w) A (Builtin.Slice.slicePartIndex v) Q E s:=by
 cases p with
 | none=>exact slicePart_none h
 | int i t=>exact slicePart_int h
theorem sliceApplied_gen {sl:Addr}{vl vu:Value}{lo hi:Option Int}{n:Nat}{Q:Int×Int×Nat->Shared->Prop}(hs:s.heap.IsSliceOf sl vl vu .none)(pl:IsPart vl lo)(pu:IsPart vu hi)
  (h:Q (((sIx n 0 lo:Nat):Int),1,sIx n n hi - sIx n 0 lo) s):wpAny (model prog w) A (Builtin.Slice.sliceApplied (.ref sl) (pure (n:Int))) Q E s:=by
 obtain⟨os,hos,hcs,hds⟩:=id hs;unfold Builtin.Slice.sliceApplied Builtin.Slice.sliceFields;refine zn4 (zn4 (wpAny_field hos hds (x:=vl) rfl (zn4 (wpAny_field hos hds (x:=vu) rfl (zn4 (wpAny_field hos hds (x:=.none) rfl (zn5 ?_)))))));refine zn4 (slicePart_none ?_);show wpAny _ _ (if ((1:Int) == 0)=true then _ else _) _ _ s;rw[if_neg (by decide)];refine zn4 (zCL pl (zn4 (zCL pu (zn4 (zn5 ?_)))));show wpAny _ _ (match Builtin.Slice.sliceAdjust lo hi 1 (n:Int) with | (lo,hi)=>pure (lo,(1:Int),Builtin.Slice.slicePlaces lo hi 1)) _ _ s;rw[zF3 lo hi n];show wpAny _ _ (pure (((sIx n 0 lo:Nat):Int),(1:Int),Builtin.Slice.slicePlaces ((sIx n 0 lo:Nat):Int) ((sIx n n hi:Nat):Int) 1)) _ _ s;rw[zFM];exact zn5 h
theorem zH5 (xs:Array Value)(i k:Nat):((List.range k).filterMap fun (m:Nat)=>xs[((i:Int)+(m:Int) * 1).toNat]?).toArray=((xs.toList.drop i).take k).toArray:=by
 have e:(fun (m:Nat)=>xs[((i:Int)+(m:Int) * 1).toNat]?)=fun m=>xs[i+m]?:=by
  funext m
  have:((i:Int)+(m:Int) * 1).toNat=i+m:=by omega
  rw[this]
 rw[e];have:=pick_run xs i k;rw[List.filterMap_map] at this;have e2:((fun x=>xs[x]?) ∘ fun x=>i+x)=fun m=>xs[i+m]?:=rfl;rw[e2] at this;rw[this]
theorem getItem_tuple_cut {t sl:Addr}{items:Array Value}{vl vu:Value}{lo hi:Option Int}{Q:Value->Shared->Prop}(ht:IsTup s.heap t items)(hs:s.heap.IsSliceOf sl vl vu .none)(pl:IsPart vl lo)(pu:IsPart vu hi)
  (hw:¬(sIx items.size 0 lo=0/\sIx items.size items.size hi=items.size))
  (h:Q (.ref s.heap.objs.size) { s with heap:=s.heap.push { cls:=.type "tuple",data:=.seq ((items.toList.drop (sIx items.size 0 lo)).take (sIx items.size items.size hi - sIx items.size 0 lo)).toArray } })
  (hsz:items.size<=sizeLine):wpAny (model prog w) A (getItem (.ref t) (.ref sl)) Q E s:=by
 have htake:sizeOk (.seq ((items.toList.drop (sIx items.size 0 lo)).take (sIx items.size items.size hi - sIx items.size 0 lo)).toArray):=by
  show ((items.toList.drop (sIx items.size 0 lo)).take (sIx items.size items.size hi - sIx items.size 0 lo)).toArray.size<=sizeLine;rw[List.size_toArray,List.length_take,List.length_drop,Array.length_toList];omega
 have hj:sIx items.size items.size hi<=items.size:=zMa _ _ (zm8 _) hi;obtain⟨os,hos,hcs,hds⟩:=id hs;have hTs:s.TypeIs (.ref sl) "slice":=⟨os,hos,hcs⟩
 unfold getItem;try with_reducible refine wpAny_holding ?_
 first | refine zn4 (zn5 ?_) | skip
 refine zn4 (wpAny_sequenceKey ht.typeIs (by decide) ?_);refine zn4 (wpAny_callSpecial?_slot (name:=Str.ofString "__getitem__") ht.typeIs PyProof.Rows.slot_tuple_getitem
  (wpAny_call_entry PyProof.Rows.slot_tuple_getitem ht.typeIs entry_tuple_getitem ?_ (args_tuple_getitem _ _)))
 show wpAny _ _ (Builtin.Tuple.tupleItemsOf (.ref t) >>= _) _ _ s;refine zn4 (tupleItemsOf_ ht ?_);refine zn4 (wpAny_typeOf hTs ?_);rw[if_pos (by decide)];refine zn4 (sliceApplied_gen hs pl pu ?_);have hno:¬((((sIx items.size 0 lo:Nat):Int) == 0&&(1:Int) == 1&&(sIx items.size items.size hi - sIx items.size 0 lo) == items.size)=true):=by
  intro q;rw[Bool.and_eq_true,Bool.and_eq_true] at q;have q1:((sIx items.size 0 lo:Nat):Int)=0:=eq_of_beq q.1.1;have q2:sIx items.size items.size hi - sIx items.size 0 lo=items.size:=eq_of_beq q.2;exact hw ⟨by omega,by omega⟩
 show wpAny _ _ (if (((sIx items.size 0 lo:Nat):Int) == 0&&(1:Int) == 1&&(sIx items.size items.size hi - sIx items.size 0 lo) == items.size)=true then _ else _) _ _ s;rw[if_neg hno,zH5];first
  | exact zn4 (m:=Builtin.Tuple.tupleExact _) (wpAny_newObj_type (zn5 ⟨_,rfl,zn5 h⟩) htake)
  | exact zn4 (m:=Builtin.Tuple.tupleExact _) (wpAny_newObj_type (zn4 (zn5 (zn5 ⟨_,rfl,zn5 h⟩))) htake)
  | exact zn4 (zn4 (m:=Builtin.Tuple.tupleExact _) (wpAny_newObj_type (zn5 (zn5 ⟨_,rfl,zn5 h⟩)) htake))
  | exact zn4 (zn4 (m:=Builtin.Tuple.tupleExact _) (wpAny_newObj_type (zn5 ⟨_,rfl,zn5 h⟩) htake))
end
end HT
namespace L2
open PySem PySem.Spec PyProof.Rows
abbrev TO:=St->Hp->(Option Int->Hp->Prop)->Prop
def PO (X:Cx)(e:Option Expr)(t:TO):Prop:=
 ∀(pins:List (Addr×Obj)) (s:Shared) (σ:St) (H:Hp) (Q:Option Int->Hp->Prop),Inv X pins σ H s->t σ H Q ->
  wpAny (model X.prog X.w) X.A (evalPart e X.env) (fun u s'=>∃o H',Inv X pins σ H' s'/\IsPart u o/\Q o H') X.xe s
def tNoPart:TO:=fun _ H Q=>Q none H
def tPart (t:TE):TO:=fun σ H Q=>t σ H fun x H1=>∃i,x=.int i/\Q (some i) H1
section
variable {X:Cx}{e:Expr}{te:TE}{lo hi:Option Expr}{tl th:TO}{pos p2:Pos}
theorem zGF:PO X none tNoPart:=by
 intro pins s σ H Q I h;rw[evalPart_none];exact zn5 ⟨none,H,I,.none,h⟩
theorem zC9 (h:PE X e te):PO X (some e) (tPart te):=by
 intro pins s σ H Q I hw;rw[evalPart_some];refine thn (h pins s σ H _ I hw) fun u s1 hZz=>?_;obtain⟨x,H1,I1,r1,q1⟩:=hZz;obtain⟨i,rfl,q⟩:=q1;obtain⟨t,rfl⟩:=r1;exact⟨some i,H1,I1,.int i t,q⟩
def SlR (X:Cx)(r:V->Option Int->Option Int->Hp->VK->Prop):Prop:=
 ∀(pins:List (Addr×Obj)) (s:Shared) (σ:St) (H:Hp) (x:V) (v vl vu:Value) (lo hi:Option Int) (sl:Addr) (Q:VK),Inv X pins σ H s->RelV x v->s.heap.IsSliceOf sl vl vu .none->IsPart vl lo->IsPart vu hi->r x lo hi H Q ->
  ∃T id,typeLookup (.type T) "__getitem__" = pure (some (.builtin id))/\s.TypeIs v T/\wpAny (model X.prog X.w) X.A (getItem v (.ref sl)) (EP X pins σ Q) X.xe s
def tSl (r:V->Option Int->Option Int->Hp->VK->Prop)(te:TE)(tl th:TO):TE:=fun σ H Q=>te σ H fun x H1=>tl σ H1 fun l H2=>th σ H2 fun u H3=>r x l u H3 Q
theorem zDb {r:V->Option Int->Option Int->Hp->VK->Prop}(hr:SlR X r)(he:PE X e te)(hl:PO X lo tl)(hu:PO X hi th):PE X (.Subscript e (.Slice lo hi none p2) pos) (tSl r te tl th):=by
 intro pins s σ H Q I h;refine Subscript_ (thn (he pins s σ H _ I h) fun v s1 hZz=>?_);obtain⟨x,H1,I1,r1,q1⟩:=hZz;refine wpAny_Slice (thn (hl pins s1 σ H1 _ I1 q1) fun vl s2 ⟨l,H2,I2,pl,q2⟩=>thn (hu pins s2 σ H2 _ I2 q2) fun vu s3 hZz=>?_);obtain⟨u,H3,I3,pu,q3⟩:=hZz;rw[evalPart_none];refine zn5 ?_;have I4:Inv X pins σ H3 { s3 with heap:=s3.heap.push { cls:=.type "slice",data:=.fields #[vl,vu,.none] } }:=I3.kept (t':=s3.toks) fun b ob q=>zm5 _ q;obtain⟨T,id,hT,ht,hg⟩:=hr pins { s3 with heap:=s3.heap.push { cls:=.type "slice",data:=.fields #[vl,vu,.none] } } σ H3 x v vl vu l u s3.heap.objs.size Q I4 r1 (Heap.IsSliceOf.new ..) pl pu q3;show wpAny (model X.prog X.w) X.A (subscriptTail e (.Slice lo hi none p2) v (.ref s3.heap.objs.size)) (EP X pins σ Q) X.xe { s3 with heap:=s3.heap.push { cls:=.type "slice",data:=.fields #[vl,vu,.none] } };exact tail_any (ops:=[.ref s3.heap.objs.size,v]) ht hT hg (by with_unfolding_all rfl)
noncomputable def cutV (xs:List V)(lo hi:Option Int):List V:=(xs.drop (HT.sIx xs.length 0 lo)).take (HT.sIx xs.length xs.length hi - HT.sIx xs.length 0 lo)
theorem zCG (xs:List V)(lo hi:Option Int):(cutV xs lo hi).length<=xs.length:=by
 unfold cutV;rw[List.length_take,List.length_drop];omega
def rSlT (K:zFg):V->Option Int->Option Int->Hp->VK->Prop:=fun x lo hi H Q=>∃a xs,x=.ref a/\SqT K H a xs /\
 ¬(HT.sIx xs.length 0 lo=0/\HT.sIx xs.length xs.length hi=xs.length)/\∀p,H p=none->Q (.ref p) (upd H p (.tup (cutV xs lo hi)))
theorem zL2:SlR X (rSlT X.K):=by
 intro pins s σ H x v vl vu lo hi sl Q I rx hs pl pu h;obtain⟨a,xs,rfl,hx,hw,q⟩:=h;cases rx;obtain⟨its,r,ht,hz⟩:=I.tuple hx;have hlen:its.toArray.size=xs.length:=by rw[List.size_toArray]; exact r.length.symm
 refine⟨"tuple",_,PyProof.Rows.slot_tuple_getitem.lookup,ht.typeIs,?_⟩;refine HT.getItem_tuple_cut ht hs pl pu (by rw[hlen]; exact hw) ?_ (by rw[hlen]; exact hz);rw[hlen];refine⟨.ref s.heap.objs.size,_,I.laid (t':=s.toks) (o:=.tup (cutV xs lo hi)) (fun b ob q=>zm5 _ q) (zm8 _) ?_,rfl,q _ (I.hok.fresh (zm8 _))⟩;exact⟨zm9 (zCG xs lo hi) hz,_,(r.drop (HT.sIx xs.length 0 lo)).take (HT.sIx xs.length xs.length hi - HT.sIx xs.length 0 lo),TupN.new _ _⟩
def rCatT (K:zFg):R2:=fun x y H Q=>∃a b xs ys,x=.ref a/\y=.ref b/\SqT K H a xs/\SqT K H b ys/\xs≠[]/\xs.length+ys.length<=sizeLine /\
 (ys=[]->Q (.ref a) H)/\(ys≠[]->∀p,H p=none->Q (.ref p) (upd H p (.tup (xs++ys))))
theorem Vals.nil_iff {xs:List V}{us:List Value}(r:Vals xs us):us=[]↔xs=[]:=by
 cases r with
 | nil=>simp
 | cons _ _=>simp
theorem zKF:OpR X (binaryOp .Add) (rCatT X.K):=by
 intro pins s σ H x y v u Q I rx ry h;obtain⟨a,b,xs,ys,rfl,rfl,ha,hb,hx,hz,q1,q2⟩:=h;cases rx;cases ry;obtain⟨its,r1,p1,_⟩:=I.tuple ha;obtain⟨its2,r2,p2,_⟩:=I.tuple hb;refine HT.cat_tup p1 p2 (fun z=>hx (r1.nil_iff.mp z)) (fun z=>⟨.ref a,H,I,rfl,q1 (r2.nil_iff.mp z)⟩) (fun z=>?_) (by rw[<-r1.length,<-r2.length]; exact hz);refine⟨.ref s.heap.objs.size,_,I.laid (t':=s.toks) (o:=.tup (xs++ys)) (fun b ob q=>zm5 _ q) (zm8 _) ?_,rfl,q2 (fun w=>z (r2.nil_iff.mpr w)) _ (I.hok.fresh (zm8 _))⟩;exact⟨by rw[List.length_append]; exact hz,_,r1.append r2,TupN.new _ _⟩
end
end L2
namespace L2
open PySem PySem.Spec PyProof.Rows
noncomputable def ixN (n:Nat)(i:Int):Option Nat:=if 0<=i then (if i<n then some i.toNat else none) else if -(n:Int)<=i then some (i+n).toNat else none
noncomputable def atI {α:Type}(xs:List α)(i:Int):Option α:=(ixN xs.length i).bind fun j=>xs[j]?
theorem zG9 {n:Nat}{i:Int}{j:Nat}(h:ixN n i=some j):seqIndex? i n=some j/\j<n /\ -(n:Int)<=i/\i<n:=by
 unfold ixN at h;by_cases h0:0<=i
 ·rw[if_pos h0] at h;by_cases h1:i<n
  ·rw[if_pos h1] at h;have e:i.toNat=j:=zn3 h;exact⟨by rw[seqIndex_of h0 h1,e],by omega,by omega,h1⟩
  ·rw[if_neg h1] at h; cases h
 ·rw[if_neg h0] at h;by_cases h1 : -(n:Int)<=i
  ·rw[if_pos h1] at h;have e:(i+n).toNat=j:=zn3 h;exact⟨by rw[seqIndex_neg (by omega) h1,e],by omega,h1,by omega⟩
  ·rw[if_neg h1] at h; cases h
theorem zHI {α:Type}{xs:List α}{i:Int}{v:α}(h:atI xs i=some v):∃j,seqIndex? i xs.length=some j/\xs[j]? = some v/\j<xs.length /\ -(xs.length:Int)<=i/\i<xs.length:=by
 unfold atI at h;cases e:ixN xs.length i with
 | none=>rw[e] at h; cases h
 | some j=>
  rw[e] at h;obtain⟨h1,h2,h3,h4⟩:=zG9 e;exact⟨j,h1,h,h2,h3,h4⟩
def PlainIx (b:Expr):Prop:=∀o i,subscripted b false o i=operate [o,i] (getItem o i)
def IxR (X:Cx)(r:R2):Prop:=
 ∀(value slice:Expr) (pins:List (Addr×Obj)) (s:Shared) (σ:St) (H:Hp) (x y:V) (v u:Value) (Q:VK),Inv X pins σ H s->RelV x v->RelV y u->r x y H Q ->
  subscripted slice false v u=operate [v,u] (getItem v u)->wpAny (model X.prog X.w) X.A (subscriptTail value slice v u) (EP X pins σ Q) X.xe s
def MtR (X:Cx)(id:String)(r:V->List V->Hp->VK->Prop):Prop:=
 ∀(pins:List (Addr×Obj)) (s:Shared) (σ:St) (H:Hp) (x:V) (xs:List V) (v:Value) (us:List Value) (Q:VK),Inv X pins σ H s->RelV x v->Vals xs us->r x xs H Q ->
  wpAny (model X.prog X.w) X.A (call (.builtin id) (v::us)) (EP X pins σ Q) X.xe s
section
variable {X:Cx}{a b:Expr}{ta tb:TE}{pos:Pos}
theorem zN2 {r:R2}(hr:IxR X r)(ha:PE X a ta)(hb:PE X b tb)(hs:PlainIx b):PE X (.Subscript a b pos) (tOp r ta tb):=by
 intro pins s σ H Q I h;exact Subscript_ (binT ha hb I h fun v u s2 x y H2 I2 rx ry q=>hr a b pins s2 σ H2 x y v u Q I2 rx ry q (hs _ _))
def rIxL (K:zFg):R2:=fun x y H Q=>∃p xs i v,x=.ref p/\y=.int i/\SqL K H p xs/\atI xs i=some v/\Q v H
def rIxT (K:zFg):R2:=fun x y H Q=>∃p xs i v,x=.ref p/\y=.int i/\SqT K H p xs/\atI xs i=some v/\Q v H
theorem zK6:IxR X (rIxL X.K):=by
 intro value slice pins s σ H x y v u Q I rx ry h hs;obtain⟨p,xs,i,z,rfl,rfl,hq,he,q⟩:=h;cases rx;obtain⟨t,rfl⟩:=ry;obtain⟨its,r,pl,hz⟩:=I.list hq;obtain⟨j,h1,h2,h3,h4,h5⟩:=zHI he;obtain⟨w,ew,rw'⟩:=r.get h2;have hl:=r.length;have hn:=line63;have fin:EP X pins σ Q w s:=⟨z,H,I,rw',q⟩
 by_cases h0:0<=i
 ·have hj:i.toNat=j:=by
   rw[seqIndex_of h0 h5] at h1;exact zn3 h1
  exact item_listR pl.isList h0 (by omega) (by rw[hj]; simpa using ew) fin hs
 ·have hj:(i+(its.toArray.size:Int)).toNat=j:=by
   rw[seqIndex_neg (by omega) h4] at h1;rw[List.size_toArray,<-hl];exact zn3 h1
  exact subscriptTail_builtinR (x:=w) pl.isList.typeIs slot_list_getitem.lookup
   (wpAny_getItem_list_neg (Q:=fun r s'=>r=w/\EP X pins σ Q r s') pl.isList (by omega) (by rw[List.size_toArray] <;> omega) (by omega) (by rw[hj]; simpa using ew) ⟨rfl,fin⟩) hs
theorem zMP:IxR X (rIxT X.K):=by
 intro value slice pins s σ H x y v u Q I rx ry h hs;obtain⟨p,xs,i,z,rfl,rfl,hq,he,q⟩:=h;cases rx;obtain⟨t,rfl⟩:=ry;obtain⟨its,r,pl,hz⟩:=I.tuple hq;obtain⟨j,h1,h2,h3,h4,h5⟩:=zHI he;obtain⟨w,ew,rw'⟩:=r.get h2;have hl:=r.length;have hn:=line63;have fin:EP X pins σ Q w s:=⟨z,H,I,rw',q⟩
 exact subscriptTail_builtinR (x:=w) pl.typeIs slot_tuple_getitem.lookup
  (getItem_tuple (j:=j) (Q:=fun r s'=>r=w/\EP X pins σ Q r s') pl (by omega) (by omega) (by rw[List.size_toArray,<-hl]; exact h1) (by simpa using ew) ⟨rfl,fin⟩) hs
theorem zFT (its:List Value)(n j:Nat)(u:Value):Obj.mapSeq (·.setIfInBounds j u) { cls:=.type "list",data:=.seq its.toArray n }={ cls:=.type "list",data:=.seq (its.set j u).toArray n }:=by
 simp[Obj.mapSeq]
theorem Inv.lst {pins:List (Addr×Obj)}{σ:St}{H:Hp}{s:Shared}{p:Addr}{xs:List V}(I:Inv X pins σ H s)(h:H p=some (.lst xs)) :
  ∃(its:List Value) (n:Nat),Vals xs its/\s.heap.get? p=some { cls:=.type "list",data:=.seq its.toArray n }/\xs.length<=sizeLine:=by
 obtain⟨z,its,n,r,e⟩:=I.hok p _ h;exact⟨its,n,r,e,z⟩
theorem Inv.lstUpd {pins:List (Addr×Obj)}{σ:St}{H:Hp}{s:Shared}{p:Addr}{xs ys:List V}{its its':List Value}{n n':Nat}{f:Obj->Obj}(I:Inv X pins σ H s)(h:H p=some (.lst xs))
  (ho:s.heap.get? p=some { cls:=.type "list",data:=.seq its.toArray n })(hf:f { cls:=.type "list",data:=.seq its.toArray n }={ cls:=.type "list",data:=.seq its'.toArray n' })(r:Vals ys its')(hz:ys.length<=sizeLine)(t:Nat) :
  Inv X pins σ (upd H p (.lst ys)) { s with heap:=s.heap.update p f,toks:=t }:=by
 have e:(s.heap.update p f).get? p=some { cls:=.type "list",data:=.seq its'.toArray n' }:=by
  rw[Heap.get?_update_self f ho (by rw[hf] <;> rfl),hf]
 refine I.write (x:=p) (e:=p) (by rw[h]; trivial) (.inl rfl) (fun b u hb q=>(Heap.get?_update_other _ _ (Ne.symm hb)).trans q) ⟨_,e⟩ ?_;exact⟨hz,its',n',r,e⟩
def rSetL:V->V->V->Hp->(Hp->Prop)->Prop:=fun o i v H Q=>∃p xs k j,o=.ref p/\i=.int k/\H p=some (.lst xs)/\ixN xs.length k=some j/\Q (upd H p (.lst (xs.set j v)))
theorem set_list:PSet X rSetL:=by
 intro pins s σ H o i v ov iv u Q I ro ri rv h;obtain⟨p,xs,k,j,rfl,rfl,hp,hj,q⟩:=h;cases ro;obtain⟨t,rfl⟩:=ri;obtain⟨its,n,r,ho,hz⟩:=I.lst hp;obtain⟨h1,h2,h3,h4⟩:=zG9 hj;have hl:=r.length;have hn:=line63;have I':Inv X pins σ (upd H p (.lst (xs.set j v))) { s with heap:=s.heap.update p (Obj.mapSeq (·.setIfInBounds j u)) }:=
  I.lstUpd hp ho (zFT its n j u) (r.set rv j) (by rw[List.length_set]; exact hz) s.toks
 by_cases h0:0<=k
 ·have hk:k.toNat=j:=by
   rw[seqIndex_of h0 h4] at h1;exact zn3 h1
  exact PySem.W.ki_setAt ho h0 (by omega) (by rw[List.size_toArray,<-hl]; exact h4) (by rw[hk]; exact⟨_,I',q⟩)
 ·have hk:(k+(its.toArray.size:Int)).toNat=j:=by
   rw[seqIndex_neg (by omega) h3] at h1;rw[List.size_toArray,<-hl];exact zn3 h1
  exact PySem.W.ki_setBack ho (by omega) (by rw[List.size_toArray,<-hl]; exact h3) (by omega) (by rw[hk]; exact⟨_,I',q⟩)
theorem zDH (lo hi:Option Int)(n:Nat):(sliceBounds lo hi none n).1=((HT.sIx n 0 lo:Nat):Int)/\(sliceBounds lo hi none n).2.1=((HT.sIx n n hi:Nat):Int)/\(sliceBounds lo hi none n).2.2=1:=by
 refine⟨?_,?_,rfl⟩
 ·cases lo with
  | none=>simp[sliceBounds,HT.sIx]
  | some i=>
   simp only[sliceBounds,HT.sIx,Option.getD_none,show (1:Int) > 0 by decide,if_true];by_cases h:i<0
   ·simp only[h,if_true] <;> omega
   ·simp only[h,if_false] <;> omega
 ·cases hi with
  | none=>simp[sliceBounds,HT.sIx]
  | some i=>
   simp only[sliceBounds,HT.sIx,Option.getD_none,show (1:Int) > 0 by decide,if_true];by_cases h:i<0
   ·simp only[h,if_true] <;> omega
   ·simp only[h,if_false] <;> omega
theorem zC6 (its:List Value)(lo hi:Option Int):slicePick its.toArray lo hi none=((its.drop (HT.sIx its.length 0 lo)).take (HT.sIx its.length its.length hi - HT.sIx its.length 0 lo)).toArray:=by
 obtain⟨h1,h2,h3⟩:=zDH lo hi its.toArray.size;unfold slicePick;rw[h1,h2,h3];simp only[sliceRange_one,pick_run,List.size_toArray] <;> rfl
def rSlL (K:zFg):V->Option Int->Option Int->Hp->VK->Prop:=fun x lo hi H Q=>∃a xs,x=.ref a/\SqL K H a xs/\∀p,H p=none->Q (.ref p) (upd H p (.lst (cutV xs lo hi)))
theorem zKa:SlR X (rSlL X.K):=by
 intro pins s σ H x v vl vu lo hi sl Q I rx hs pl pu h;obtain⟨a,xs,rfl,hx,q⟩:=h;cases rx;obtain⟨its,r,ht,hz⟩:=I.list hx;have hlen:=r.length;refine⟨"list",_,slot_list_getitem.lookup,ht.isList.typeIs,?_⟩;refine wpAny_getItem_list_slice ht.isList hs pl pu .none (by simp) ?_ (by rw[List.size_toArray] <;> omega);rw[zC6,<-hlen];refine⟨.ref s.heap.objs.size,_,I.laid (t':=s.toks) (o:=.lst (cutV xs lo hi)) (fun b ob q=>zm5 _ q) (zm8 _) ?_,rfl,q _ (I.hok.fresh (zm8 _))⟩;exact⟨zm9 (zCG xs lo hi) hz,_,0,(r.drop (HT.sIx xs.length 0 lo)).take (HT.sIx xs.length xs.length hi - HT.sIx xs.length 0 lo),zm6 _ rfl⟩
noncomputable def flatV:V->Bool
 | .non=>true
 | .bl _=>true
 | .int _=>true
 | .str _=>true
 | _=>false
noncomputable def eqV:V->V->Bool
 | .non,.non=>true
 | .bl a,.bl b=>a == b
 | .bl a,.int b=>(if a then 1 else 0) == b
 | .int a,.bl b=>a == (if b then 1 else 0)
 | .int a,.int b=>a == b
 | .str a,.str b=>a == b
 | _,_=>false
theorem zM3 {A:Around}{s:Shared}{y x:V}{u v:Value}(ry:RelV y u)(rx:RelV x v)(fy:flatV y=true)(fx:flatV x=true):SeqAt.EqAt A s u v (eqV y x):=by
 cases y with
 | non=>
  cases ry;cases x with
  | non=>cases rx; exact SeqAt.EqAt.same _
  | bl b=>cases rx; exact SeqAt.EqAt.none_bool b
  | int b=>obtain⟨t,rfl⟩:=rx; exact SeqAt.EqAt.none_int b t
  | str b=>obtain⟨t,rfl⟩:=rx; exact SeqAt.EqAt.none_str b t
  | _=>exact absurd (show false=true from fx) Bool.false_ne_true
 | bl a=>
  cases ry;cases x with
  | non=>cases rx; exact SeqAt.EqAt.bool_none a
  | bl b=>cases rx; exact SeqAt.EqAt.bool_bool a b
  | int b=>obtain⟨t,rfl⟩:=rx; exact SeqAt.EqAt.bool_int a b t
  | str b=>obtain⟨t,rfl⟩:=rx; exact SeqAt.EqAt.bool_str a b t
  | _=>exact absurd (show false=true from fx) Bool.false_ne_true
 | int a=>
  obtain⟨t',rfl⟩:=ry;cases x with
  | non=>cases rx; exact SeqAt.EqAt.int_none a t'
  | bl b=>cases rx; exact SeqAt.EqAt.int_bool a t' b
  | int b=>obtain⟨t,rfl⟩:=rx; exact SeqAt.EqAt.int_int a t' b t
  | str b=>obtain⟨t,rfl⟩:=rx; exact SeqAt.EqAt.int_str a t' b t
  | _=>exact absurd (show false=true from fx) Bool.false_ne_true
 | str a=>
  obtain⟨t',rfl⟩:=ry;cases x with
  | non=>cases rx; exact SeqAt.EqAt.str_none a t'
  | bl b=>cases rx; exact SeqAt.EqAt.str_bool a t' b
  | int b=>obtain⟨t,rfl⟩:=rx; exact SeqAt.EqAt.str_int a t' b t
  | str b=>obtain⟨t,rfl⟩:=rx; exact SeqAt.EqAt.str_str a t' b t
  | _=>exact absurd (show false=true from fx) Bool.false_ne_true
 | _=>exact absurd (show false=true from fy) Bool.false_ne_true
noncomputable def eqU (x:V)(u:Value):Bool:=match u with
 | .none=>eqV .non x
 | .bool b=>eqV (.bl b) x
 | .int i _=>eqV (.int i) x
 | .str z _=>eqV (.str z) x
 | _=>false
theorem zJI {x y:V}{u:Value}(r:RelV y u)(f:flatV y=true):eqU x u=eqV y x:=by
 cases y with
 | non=>cases r; rfl
 | bl b=>cases r; rfl
 | int i=>obtain⟨t,rfl⟩:=r; rfl
 | str z=>obtain⟨t,rfl⟩:=r; rfl
 | _=>exact absurd (show false=true from f) Bool.false_ne_true
theorem zFf {A:Around}{s:Shared}{x:V}{v:Value}(rx:RelV x v)(fx:flatV x=true):∀{xs:List V} {us:List Value},Vals xs us->xs.all flatV=true->∀u∈us,SeqAt.EqAt A s u v (eqU x u)
 | _,_,.nil,_=>fun u hu=>by cases hu
 | y::xs,u::us,.cons r t,f=>fun u' hu=>by
  rw[List.all_cons,Bool.and_eq_true] at f;rcases zp1 hu with rfl | hu
  ·rw[zJI r f.1]; exact zM3 r rx f.1 fx
  ·exact zFf rx fx t f.2 u' hu
theorem zEc:CallR X (.builtin "len") (fun xs H Q=>∃p ys,xs=[.ref p]/\(SqL X.K H p ys\/SqT X.K H p ys)/\Q (.int ys.length) H):=by
 intro pins s σ H xs us Q I r h;obtain⟨p,ys,rfl,hq,q⟩:=h;obtain⟨u,rfl,rx⟩:=vals1 r;cases rx;have hn:=line63;rcases hq with hq | hq
 ·obtain⟨its,r',pl,hz⟩:=I.list hq;have hlen:=r'.length;exact Calls.call_len_list pl.isList (by simp only[List.size_toArray] <;> omega) ⟨.int ys.length,H,I.tok _,⟨s.toks+1,by rw[List.size_toArray,hlen]⟩,q⟩
 ·obtain⟨its,r',pl,hz⟩:=I.tuple hq;have hlen:=r'.length;exact len_tuple pl (by simp only[List.size_toArray] <;> omega) ⟨.int ys.length,H,I.tok _,⟨s.toks+1,by rw[List.size_toArray,hlen]⟩,q⟩
theorem zEb:CallR X (.type "list") (fun xs H Q=>∃p ys,xs=[.ref p]/\(SqL X.K H p ys\/SqT X.K H p ys)/\∀l,H l=none->Q (.ref l) (upd H l (.lst ys))):=by
 intro pins s σ H xs us Q I r h;obtain⟨p,ys,rfl,hq,q⟩:=h;obtain⟨u,rfl,rx⟩:=vals1 r;cases rx;have fin:∀(its:List Value),Vals ys its->ys.length<=sizeLine->∀(h':Heap) (c':Nat),(∀b o',s.heap.get? b=some o'->h'.get? b=some o') ->
   h'.get? s.heap.objs.size=some { cls:=.type "list",dict:=none,data:=.seq its.toArray c',slots:=#[] }->EP X pins σ Q (.ref s.heap.objs.size) { s with heap:=h' }:=fun its r' hz h' c' kp e=>
  ⟨.ref s.heap.objs.size,_,I.laid (t':=s.toks) kp (zm8 _) (show ObjOk X.prog X.w _ h' _ (.lst ys) from ⟨hz,its,c',r',e⟩),rfl,q _ (I.hok.fresh (zm8 _))⟩
 rcases hq with hq | hq
 ·obtain⟨its,r',pl,hz⟩:=I.list hq;have hlen:=r'.length;obtain⟨o,ho,hc,n,hd⟩:=pl.isList;exact call_list_seq p (.inl rfl) ho hc hd (fun h' c' kp e=>fin its r' hz h' c' kp e) (by simp only[List.size_toArray] <;> omega)
 ·obtain⟨its,r',pl,hz⟩:=I.tuple hq;have hlen:=r'.length;obtain⟨o,ho,hc,n,hd⟩:=pl;exact call_list_seq p (.inr rfl) ho hc hd (fun h' c' kp e=>fin its r' hz h' c' kp e) (by simp only[List.size_toArray] <;> omega)
theorem zDz:CallR X (.type "tuple") (fun xs H Q=>∃p ys,xs=[.ref p]/\((SqL X.K H p ys/\∀l,H l=none->Q (.ref l) (upd H l (.tup ys)))\/(SqT X.K H p ys/\Q (.ref p) H))):=by
 intro pins s σ H xs us Q I r h;obtain⟨p,ys,rfl,h⟩:=h;obtain⟨u,rfl,rx⟩:=vals1 r;cases rx;rcases h with ⟨hq,q⟩ | ⟨hq,q⟩
 ·obtain⟨its,r',pl,hz⟩:=I.list hq;have hlen:=r'.length;refine call_tuple_list pl.isList (fun h' kp=>?_) (by simp only[List.size_toArray] <;> omega);have I1:Inv X pins σ H { s with heap:=h' }:=I.kept (t':=s.toks) kp;have I2:Inv X pins σ (upd H h'.objs.size (.tup ys)) { s with heap:=h'.push { cls:=.type "tuple",data:=.seq its.toArray } }:=
   I1.laid (t':=s.toks) (fun b o e=>zm5 _ e) (zm8 _) (show ObjOk X.prog X.w _ _ _ (.tup ys) from ⟨hz,its,r',TupN.new _ _⟩)
  exact⟨.ref h'.objs.size,_,I2,rfl,q _ (I1.hok.fresh (zm8 _))⟩
 ·obtain⟨its,r',pl,hz⟩:=I.tuple hq;exact call_tuple_same pl ⟨.ref p,H,I,rfl,q⟩
def tyV (K:zFg)(T:String)(x:V)(H:Hp):Prop:=match x with
 | .str _=>T = "str"
 | .int _=>T = "int"
 | .ref p=>(T = "list" /\ ∃xs,SqL K H p xs)\/(T = "tuple" /\ ∃xs,SqT K H p xs) \/
   (T = "dict" /\ ((∃kvs,H p=some (.dK kvs))\/∃kvs,H p=some (.dT kvs)))\/(T = "set" /\ ∃S n,H p=some (.set S n))
 | _=>False
theorem zLS {pins:List (Addr×Obj)}{σ:St}{H:Hp}{s:Shared}{T:String}{x:V}{v:Value}(I:Inv X pins σ H s)(r:RelV x v)(ty:tyV X.K T x H) :
  s.TypeIs v T/\∀a,v=.ref a->∃ob,s.heap.get? a=some ob/\ob.dict=none:=by
 cases x with
 | str z=>
  obtain⟨t,rfl⟩:=r;cases (show T = "str" from ty);exact⟨typeIs_str s z t,fun _ e=>nomatch e⟩
 | int i=>
  obtain⟨t,rfl⟩:=r;cases (show T = "int" from ty);exact⟨typeIs_int s i t,fun _ e=>nomatch e⟩
 | ref p=>
  cases r;rcases ty with ⟨rfl,xs,hq⟩ | ⟨rfl,xs,hq⟩ | ⟨rfl,hk⟩ | ⟨rfl,S,n,hk⟩
  ·obtain⟨its,_,pl,_⟩:=I.list hq;refine⟨pl.isList.typeIs,fun a e=>?_⟩;cases e;obtain⟨o,n,e,c,hd,_⟩:=pl;exact⟨o,e,hd⟩
  ·obtain⟨its,_,⟨o,e,c,_,d⟩,_⟩:=I.tupN hq;refine⟨⟨o,e,c⟩,fun a e2=>?_⟩;cases e2;exact⟨o,e,d⟩
  ·have z:∃o,s.heap.get? p=some o/\o.ExactDict:=by
    rcases hk with ⟨kvs,hk⟩ | ⟨kvs,hk⟩
    ·obtain⟨_,_,_,_,o,_,_,e,ex,_⟩:=I.hok p _ hk;exact⟨o,e,ex⟩
    ·obtain⟨_,_,_,_,o,_,_,e,ex,_⟩:=I.hok p _ hk;exact⟨o,e,ex⟩
   obtain⟨o,e,ex⟩:=z;refine⟨⟨o,e,ex.1⟩,fun a e2=>?_⟩;cases e2;exact⟨o,e,ex.2.1⟩
  ·obtain⟨o,_,_,_,e,ex,_⟩:=I.hok p _ hk;refine⟨⟨o,e,ex.1⟩,fun a e2=>?_⟩;cases e2;exact⟨o,e,ex.2.1⟩
 | _=>exact False.elim ty
def tBM (K:zFg)(T:String)(r:V->List V->Hp->VK->Prop)(to:TE)(t:TA):TE:=fun σ H Q=>to σ H fun x H1=>tyV K T x H1/\t σ H1 fun xs H2=>r x xs H2 Q
variable {o e:Expr}{es:List Expr}{to:TE}{t:TA}{name:Str}{apos cpos:Pos}{T id:String}{r:V->List V->Hp->VK->Prop}
theorem zIe (pa:PlainAttrs T)(slot:Slot T name id)(hty:typeOf (.builtin id)=pure (.type "method_descriptor"))(hm:MtR X id r)(ho:PE X o to)(ha:PA X (e::es) t)
  (hbase:attributeBase o name X.env (eval o X.env)=eval o X.env:=by rfl)
  (hfew:((backTo cpos (starEach (e::es) X.env)).all (fun x=>!x.1)&&(backToKw cpos (keywordEach [] X.env)).all (fun x=>x.1.isSome)
   && decide ((e::es).length+([]:List Keyword).length+(if ([]:List Keyword).isEmpty then 0 else 1)<30))=true:=by rfl)
  (hline:(apos.endLine == cpos.line)=true:=by rfl)(hs:starEach (e::es) X.env=(false,eval e X.env)::starEach es X.env:=by rfl)(hplain:(backTo cpos (starEach es X.env)).any (·.1)=false:=by rfl) :
  PE X (.Call (.Attribute o name apos) (e::es) [] cpos) (tBM X.K T r to t):=by
 intro pins s σ H Q I h;refine wpAny_Call_method_late hbase hfew hline rfl (thn (ho pins s σ H _ I h) fun v s1 hZz=>?_);obtain⟨x,H1,I1,r1,ty,q1⟩:=hZz;obtain⟨h1,h2⟩:=zLS I1 r1 ty;refine⟨T,id,pa,slot,hty,h1,h2,?_⟩;have hA:=ha cpos pins s1 σ H1 _ I1 q1;rw[hs] at hA ⊢;refine Calls.callWith_builtin (by show (false||(backTo cpos (starEach es X.env)).any (·.1))=false; rw[hplain] <;> rfl) (Calls.evalArgs_plain ?_);exact thn hA fun us s2 ⟨vs,H2,I2,r2,q2⟩=>hm pins s2 σ H2 x vs v us Q I2 r1 r2 q2
end
end L2
namespace L2
open PySem PySem.Spec PyProof.Rows
def MtM (X:Cx)(id:String)(r:V->List V->Hp->VK->Prop):Prop:=
 ∀(pins:List (Addr×Obj)) (s:Shared) (σ:St) (H:Hp) (x:V) (xs:List V) (v:Value) (us:List Value) (Q:VK),Inv X pins σ H s->RelV x v->Vals xs us->r x xs H Q ->
  wpAny (model X.prog X.w) X.A (call (.builtin id) (v::us)) (EP X pins σ Q) X.xe s
theorem Vals.one:∀{x:V} {us:List Value},Vals [x] us->∃u,us=[u]/\RelV x u
 | _,_,.cons r .nil=>⟨_,rfl,r⟩
theorem Vals.eraseIdx:∀{xs:List V} {us:List Value} (i:Nat),Vals xs us->Vals (xs.eraseIdx i) (us.eraseIdx i)
 | _,_,_,.nil=>.nil
 | _,_,0,.cons _ t=>t
 | _,_,i+1,.cons r t=>.cons r (Vals.eraseIdx i t)
theorem Vals.reverse {xs:List V}{us:List Value}(h:Vals xs us):Vals xs.reverse us.reverse:=by
 induction h with
 | nil=>exact .nil
 | cons r t ih=>rw[List.reverse_cons,List.reverse_cons]; exact Vals.append ih (.cons r .nil)
theorem Vals.rep {xs:List V}{us:List Value}(h:Vals xs us):∀k:Nat,Vals (List.replicate k xs).flatten (List.replicate k us).flatten
 | 0=>.nil
 | k+1=>by
  rw[List.replicate_succ,List.replicate_succ,List.flatten_cons,List.flatten_cons];exact Vals.append h (Vals.rep h k)
theorem zDX {α:Type}:∀(l:List α) (i:Nat),(l.eraseIdx i).length<=l.length
 | [],_=>zm8 _
 | _::_,0=>Nat.le_succ _
 | _::r,i+1=>Nat.succ_le_succ (zDX r i)
theorem zD2 (its:List Value):∀(k:Nat) (acc:List Value),
  List.foldl (fun x1 x2=>x1++x2) acc.toArray (List.replicate k its.toArray)=(acc++(List.replicate k its).flatten).toArray
 | 0,acc=>by simp
 | k+1,acc=>by
  have e:acc.toArray++its.toArray=(acc++its).toArray:=by simp
  have e2:(acc++its)++(List.replicate k its).flatten=acc++(List.replicate (k+1) its).flatten:=by
   rw[List.replicate_succ,List.flatten_cons,List.append_assoc]
  rw[<-e2,<-zD2 its k (acc++its),<-e,List.replicate_succ,List.foldl_cons]
section
variable {X:Cx}{pins:List (Addr×Obj)}{σ:St}{H:Hp}{s:Shared}{l b:Addr}{xs ys zs:List V}
theorem Inv.lset {its its':List Value}{n:Nat}{f:Array Value->Array Value}{t':Nat}(I:Inv X pins σ H s)(hH:H l=some (.lst xs))
  (e:s.heap.get? l=some { cls:=.type "list",data:=.seq its.toArray n })(hf:f its.toArray=its'.toArray)(hv:Vals ys its')(hz:ys.length<=sizeLine) :
  Inv X pins σ (upd H l (.lst ys)) { s with heap:=s.heap.update l (Obj.mapSeq f),toks:=t' }:=by
 have q:=PySem.IsL.update e f;rw[hf] at q;refine I.write (x:=l) (e:=l) (by rw[hH]; exact trivial) (.inl rfl) (fun b' u hb hu=>(Heap.get?_update_other s.heap (Obj.mapSeq f) (Ne.symm hb)).trans hu) ⟨_,q⟩ ?_;exact⟨hz,its',_,hv,q⟩
theorem Inv.lstM (I:Inv X pins σ H s)(hH:H l=some (.lst xs)):xs.length<=sizeLine/\∃(its:List Value) (n:Nat),Vals xs its/\xs.length=its.length/\s.heap.get? l=some { cls:=.type "list",data:=.seq its.toArray n }:=by
 obtain⟨z,its,n,r,e⟩:=I.hok l _ hH;exact⟨z,its,n,r,r.length,e⟩
theorem zIn {n:Nat}(h:n<=sizeLine):Builtin.List.listTooLong n=false:=by
 unfold Builtin.List.listTooLong;exact decide_eq_false (by omega)
end
section
variable {X:Cx}
def rAppend:V->List V->Hp->VK->Prop:=fun x vs H Q=>∃l xs y,x=.ref l/\vs=[y]/\H l=some (.lst xs)/\xs.length<sizeLine/\Q .non (upd H l (.lst (xs++[y])))
theorem zDS:MtM X "list.append" rAppend:=by
 intro pins s σ H x vs v us Q I rx rv h;obtain⟨l,xs,y,rfl,rfl,hH,hz,q⟩:=h;cases rx;obtain⟨u,rfl,ru⟩:=rv.one;obtain⟨z,its,n,r,hl,e⟩:=I.lstM hH;refine call_meets F.slot_list_append ⟨_,e,rfl⟩ F.entry_list_append (F.args_list_append_2 _ _) (PySem.list_append l its.toArray n u (by rw[List.size_toArray]; omega)) ⟨e,?_⟩;refine⟨.non,_,I.lset (its':=its++[u]) hH e (by simp) (r.append (.cons ru .nil)) ?_,rfl,q⟩;rw[List.length_append,List.length_singleton];omega
theorem zG7 {α:Type}(xs:List α)(k:Nat):(List.replicate k xs).flatten.length=k * xs.length:=by
 induction k with
 | zero=>simp
 | succ k ih=>rw[List.replicate_succ,List.flatten_cons,List.length_append,ih,Nat.succ_mul,Nat.add_comm]
end
section
variable {prog:Program}{w:World}{A:Around}{E:Value->Shared->Prop}{s:Shared}
end
section
variable {X:Cx}
end
end L2
namespace Att
open PySem PySem.W PySem.Calls PyProof.Rows
theorem zCB {P:Params}{h:Heap}:∀(ns:List Int) (vs:List Value),WellAll P h vs (ns.map WData.int)->IntsAre vs ns:=by
 intro ns;induction ns with
 | nil=>
  intro vs w;rw[List.map_nil] at w;cases w;exact .nil
 | cons n ns ih=>
  intro vs w;rw[List.map_cons] at w;cases w with
  | cons a b=>
   cases a;exact .cons _ _ (ih _ b)
theorem zGq {l:OpenLaw}{n:Nat}(hn:l.most=some n){P:Params}{h:Heap}{args:List WData}{vals:List Value}
  (hpre:l.row.toRowW.claim.pre args=true)(hwl:WellAll P h vals args) :
  ∃a vs ns,vals=[Value.ref a]/\args=[WData.list (ns.map WData.int)]/\h.get? a=some { cls:=.type "list",data:=.seq vs.toArray }/\IntsAre vs ns/\ns.length<=n:=by
 have hsh:WShape.hasAll [] args [.list .int]=true:=(pre_splitW hpre).1;have hc:l.pre.holds [] { args:=args }=true:=(pre_splitW hpre).2;obtain⟨d,r,rfl,h1,h2⟩:=hasAllW_cons hsh;obtain rfl:=hasAllW_nil h2;obtain⟨xs,rfl,h3⟩:=hasW_list h1;obtain⟨ns,rfl⟩:=items_int h3;have hlen:ns.length<=n:=by
  unfold OpenLaw.pre at hc;have h4:(WTm.not (.lt (.lit (.int (n:Int))) (.len (.arg 0)))).holds [] { args:=[.list (ns.map .int)] }=true:=by
   have h4:=(holds_andW hc).1;rw[hn] at h4;exact h4
  have h5:=condW_of h4 (w_not (w_lt w_lit (w_len_list (w_arg rfl))));rw[List.length_map] at h5;refine Nat.le_of_not_lt fun q=>?_;have q':(n:Int)<((ns.length:Nat):Int):=by omega
  first
   | (rw[decide_eq_true q'] at h5; exact absurd h5 (by decide))
   | (simp at h5; omega)
 cases hwl with
 | cons w1 w2=>
  cases w2;cases w1 with
  | list ho hall=>exact⟨_,_,ns,rfl,rfl,ho,zCB ns _ hall,hlen⟩
theorem zGE (l:OpenLaw)(args:List WData):l.row.toRowW.claim.post args (.bool true) args=true:=
 postW_of (r:=l.row.toRowW) (X:=(true == true))
  (show WShape.has [] (.bool true) .bool=true by first | rfl | decide | simp[WShape.has,WShape.arms,WShape.armsAll])
  (show (WTm.eq .res (.lit (.bool true))).value [] { args:=args,res:=some (.bool true),after:=args }=some (.bool (true == true)) from w_eq_bool (w_res rfl) w_lit) rfl
theorem attach_call {l:OpenLaw}{n:Nat}{q:Program}{loose:List Str}{XP:(Str->Option Value)->Heap->Prop}{YP:World->Heap->Prop}{d:DefRec}
  (hn:l.most=some n)(hdf:d.params.defaults=[])
  (call:∀(w:World) (s₀ s₁:Shared) (mg mb:Str->Option Value) (fa:Addr) (o:Obj) (pm cd doc:Value) (a:Addr) (vs:List Value) (ns:List Int),
   Ground q loose [] XP w s₀ mg mb s₁.heap->YP w s₁.heap ->
   s₁.heap.get? fa=some o->o.data=.func (docDef d.name d.params d.body d.scope pm cd doc)->s₁.heap.CodeRec cd d.name->mg d.name=some (.ref fa) ->
   s₁.heap.get? a=some { cls:=.type "list",data:=.seq vs.toArray }->IntsAre vs ns->ns.length<=n->s₁.gens = #[] ->
   codeAny (model l.prog w) callerA (.call (.ref fa) ⟨[.ref a],[]⟩) (fun r s'=>r=.ok (.ret (.bool true))/\OldK s₁.heap s'.heap/\s'.os=s₁.os/\AllBare s'.gens) s₁) :
  WalkO q loose XP YP l.row.toRowW d [] (fun f vs=>PySem.call f vs):=by
 intro w s₀ s₁ mg mb G Y fa o pm cd doc dV kV ho hd hcd hD hmg hg args vals as hpre hlay hrd hwl hlo;obtain rfl:dV=.none:=Dflts.none hD hdf;obtain rfl:kV=.none:=Dflts.noKw hD;obtain⟨a,vs,ns,rfl,rfl,hobj,hints,hlen⟩:=zGq hn hpre hwl;refine enter_call (codeAny_mono (call w s₀ s₁ mg mb fa o pm cd doc a vs ns G Y ho (fd_plain hd) hcd hmg hobj hints hlen hg) fun r s' hq=>?_);obtain⟨rfl,h2,h3,h4⟩:=hq;exact⟨.inl ⟨.bool true,.bool true,[],rfl,fun _=>rfl,.bool true,zGE l _,fun _=>⟨List.Pairwise.nil,fun _ hm=>(nomatch hm)⟩⟩,h2,h3,h4⟩
section
variable {prog:Program}{w:World}{A:Around}{E:Value->Shared->Prop}{s:Shared}{K:Frag}
end
end Att
namespace L2
open PySem PySem.Spec PyProof.Rows
theorem zDD:∀{vs:List Value} {ns:List Int},IntsAre vs ns->Vals (ns.map V.int) vs
 | _,_,.nil=>.nil
 | _,_,.cons n t h=>.cons ⟨t,rfl⟩ (zDD h)
def Only (H:Hp):Prop:=∀b,H b=none\/∃o xs,H b=some (.frz o (.lst xs))
theorem zIv {P:Program}{w:World}{K:zFg}{mg mb:Str->Option Value}{CX:CXT}{k:Nat}{fa a:Addr}{fd:FuncData}{x:Str}{sp:Sp}{s₁:Shared}{vs:List Value}{ns:List Int}
  (KX:K.In s₁.heap)(hns:s₁.heap.Ns mainGlobals mg)(hb:s₁.heap.Ns builtinsNs mb)(hbb:∀x:Str,x ≠ "__name__" -> mb x=bootBuiltins x)(hlim:s₁.heap.NoLimit)(hg:s₁.gens = #[])
  (ha:s₁.heap.get? a=some { cls:=.type "list",data:=.seq vs.toArray })(hi:IntsAre vs ns)(hl:ns.length<=sizeLine)(hr:Room k callerA)
  (F:∀base:Heap,K.In base->base.Ns mainGlobals mg->FnOk P w K mg base CX k fa fd [x] sp)(hbind:∀(s:Shared) (u:Value),BindsTo s fd ⟨[u],[]⟩ [(x,u)])
  (hsp:∀H:Hp,Only H->SqL K H a (ns.map V.int)->sp [.ref a] H (fun v _=>v=.bl true) fun _ _ _=>False)
  (hCX:∀H e s',CX [] H s₁ (fun _ _ _=>False) e s'->False) :
  codeAny (model P w) callerA (.call (.ref fa) ⟨[.ref a],[]⟩) (fun r s'=>r=.ok (.ret (.bool true))/\OldK s₁.heap s'.heap/\s'.os=s₁.os/\AllBare s'.gens) s₁:=by
 have rv:=zDD hi;have lenV:=hi.length;have core:∀H:Hp,Only H->SqL K H a (ns.map V.int)->HOk P w H s₁.heap->(∀b,H b≠none->b=a)->(H a≠none->K.lookup a=none) ->
   codeAny (model P w) callerA (.call (.ref fa) ⟨[.ref a],[]⟩) (fun r s'=>r=.ok (.ret (.bool true))/\OldK s₁.heap s'.heap/\s'.os=s₁.os/\AllBare s'.gens) s₁:=by
  intro H hO hS hok hA hK;have base_of:∀{b:Addr} {o:Obj},s₁.heap.get? b=some o->H b=none->(hidT s₁.heap H).get? b=some o:=fun e n=>zIB e n;have noA:∀{b:Addr} {o:Obj} {es:Array DictEntry} {ep:Nat},s₁.heap.get? b=some o->o.data=.dict es ep->H b=none:=fun {b o es ep} e d=>by
   cases q:H b with
   | none=>rfl
   | some u=>
    have e':b=a:=hA b (by rw[q]; simp);subst e';rw[ha] at e; cases e;have d':Data.seq vs.toArray _=Data.dict es ep:=d;cases d'
  have nsK:∀{b:Addr} {m:Str->Option Value},s₁.heap.Ns b m->(hidT s₁.heap H).Ns b m:=fun {b m} ⟨o,es,ep,e,d,r⟩=>⟨o,es,ep,base_of e (noA e d),d,r⟩
  have hKb:K.In (hidT s₁.heap H):=fun b o e=>base_of (KX b o e) (by
   cases q:H b with
   | none=>rfl
   | some u=>
    have e':b=a:=hA b (by rw[q]; simp);subst e';rw[hK (by rw[q]; simp)] at e; cases e)
  have hM:Mod K mg (hidT s₁.heap H):=⟨hKb,nsK hns,⟨mb,nsK hb,hbb⟩,let ⟨mc,h1,h2⟩:=hlim; ⟨mc,nsK h1,h2⟩⟩
  have e0:Env0 P w K mg (hidT s₁.heap H) callerA [] s₁ H:=⟨rfl,hM,fun b o e=>zKV e,Nat.le_of_eq (zHd _ _),trivial,fun b hb=>absurd (show b∈([]:List Addr) from hb) (by simp),hok,.of_eq hg⟩
  refine codeAny_mono ((F _ hKb (nsK hns)).run callerA [] s₁ H ⟨[.ref a],[]⟩ [.ref a] [.ref a] _ _ hr e0 (hbind s₁ (.ref a)) (.cons rfl .nil) (hsp H hO hS)) fun r s' h=>?_;cases r with
  | error e=>exact (hCX H e s' h).elim
  | ok fl=>
   cases fl with
   | next=>exact False.elim h
   | brk=>exact False.elim h
   | cont=>exact False.elim h
   | ret u=>
    obtain⟨v,H',os,bare,un,hok',r',q⟩:=h;have q':v=.bl true:=q;subst q';obtain rfl:u=Value.bool true:=r';refine⟨rfl,OldK.of_keep fun b o e=>?_,os,bare⟩;cases q:H b with
    | none=>exact un.keep b o e q (by intro z; exact absurd (show b∈([]:List Addr) from z) (by simp)) (by simp)
    | some u=>
     rcases hO b with z | ⟨ob,xs,z⟩
     ·rw[q] at z; cases z
     ·have z2:=un.frzs b ob _ z;obtain⟨e1,_⟩:=hok b _ z;obtain⟨e2,_⟩:=hok' b _ z2;rw[e] at e1; cases e1;exact e2
 cases hk:K.lookup a with
 | some o=>
  have e:=KX a o hk;rw[ha] at e;cases e;refine core (fun _=>none) (fun _=>.inl rfl) (.inr ⟨_,vs.toArray,_,hk,rfl,rfl,rfl,by rw[List.size_toArray,lenV]; exact hl,by simpa using rv⟩) (fun b u z=>by have z':(none:Option HO)=some u:=z; cases z') (fun b z=>absurd rfl z) fun z=>absurd rfl z
 | none=>
  refine core (fun b=>if b=a then some (.frz { cls:=.type "list",data:=.seq vs.toArray } (.lst (ns.map V.int))) else none) (fun b=>?_) (.inl (.inr ⟨{ cls:=.type "list",data:=.seq vs.toArray },if_pos rfl⟩)) (fun b u z=>?_) (fun b z=>?_) fun _=>hk
  ·by_cases hb:b=a
   ·exact .inr ⟨_,_,if_pos hb⟩
   ·exact .inl (if_neg hb)
  ·by_cases hb:b=a
   ·have z':=(if_pos hb).symm.trans z;cases z';subst hb;exact⟨ha,by rw[List.length_map]; exact hl,vs,_,rv,ha⟩
   ·have z':=(if_neg hb).symm.trans z;cases z'
  ·by_cases hb:b=a
   ·exact hb
   ·exact absurd (if_neg hb) z
end L2
namespace L2
open PySem PySem.Spec PyProof.Rows
end L2
namespace L2
open PySem PySem.Spec PyProof.Rows
noncomputable def inClass (s:Stmt)(j:Nat):Stmt:=match s with
 | .ClassDef _ _ _ body _ _ _ _ _ _ _=>body.getD j (.Pass ⟨0,0,0,0⟩)
 | _=>.Pass ⟨0,0,0,0⟩
noncomputable def defArgs (s:Stmt):Arguments:=match s with
 | .FunctionDef _ a _ _ _ _ _ _ _ _=>a
 | _=>{ posonlyargs:=[],args:=[],vararg:=none,kwonlyargs:=[],kw_defaults:=[],kwarg:=none,defaults:=[] }
noncomputable def defBody (s:Stmt):List Stmt:=match s with
 | .FunctionDef _ _ b _ _ _ _ _ _ _=>b
 | _=>[]
noncomputable def zAf (s:Stmt):Scope:=match s with
 | .FunctionDef _ _ _ _ _ _ sc _ _ _=>sc
 | _=>{ kind:=.function,names:=[],isGenerator:=false,isCoroutine:=false }
abbrev E0:St->XK:=fun _ _ _ _=>False
section
variable {P:Program}{w:World}{K:zFg}{mg:Str->Option Value}{base:Heap}
end
section
variable {X:Cx}
end
def Same (H H':Hp):Prop:=∀b o,H b=some o->H' b=some o
theorem Same.trans {H H1 H2:Hp}(a:Same H H1)(b:Same H1 H2):Same H H2:=fun c o h=>b c o (a c o h)
theorem Same.free {H H':Hp}(e:Same H H'){l:Addr}(h:H' l=Option.none):H l=Option.none:=by
 cases q:H l with
 | none=>rfl
 | some o=>
  rw[e l o q] at h;cases h
theorem Same.seq {K:zFg}{H H':Hp}{a:Addr}{xs:List V}(e:Same H H')(h:SqL K H a xs):SqL K H' a xs:=by
 rcases h with (h | ⟨o,h⟩) | h
 ·exact .inl (.inl (e _ _ h))
 ·exact .inl (.inr ⟨o,e _ _ h⟩)
 ·exact .inr h
end L2
end
section
namespace L2
open PySem PySem.W Builtin Builtin.ObjectAttr
structure Fly (h:Heap)(e T:Addr)(fl:Value):Prop where
 ex:∃oe vs oT ts,h.get? e=some oe/\oe.data=.fields vs/\vs[1]? = some (.ref T)/\h.get? T=some oT/\oT.data=.fields ts/\ts[3]? = some fl
 ne:T≠e
structure XStep (fr:List Addr)(e:Addr)(ch:List Addr)(h h':Heap):Prop where
 size:h.objs.size<=h'.objs.size
 keep:∀b o,h.get? b=some o->b≠e->b∉fr->b∉ch->h'.get? b=some o
 slot:∀b o,h.get? b=some o->b≠e->b∈fr->b∉ch->∃sl,h'.get? b=some { o with slots:=sl }
 exc:∀oe vs,h.get? e=some oe->oe.data=.fields vs->∃vs':Array Value,h'.get? e=some { oe with data:=.fields vs' }/\vs'.size=vs.size/\vs'[0]? = vs[0]?
 there:∀b o,h.get? b=some o->b≠e->∃o',h'.get? b=some o'
theorem zDT {o:Obj}{vs:Array Value}(hd:o.data=.fields vs)(f:Array Value->Array Value):o.mapFields f={ o with data:=.fields (f vs) }:=by
 obtain⟨c,d,dt,sl⟩:=o; subst hd; rfl
theorem XStep.trans {fr ch:List Addr}{e:Addr}{h1 h2 h3:Heap}(a:XStep fr e ch h1 h2)(b:XStep fr e ch h2 h3):XStep fr e ch h1 h3 where
 size:=zm9 a.size b.size
 keep:=fun c o z n1 n2 n3=>b.keep c o (a.keep c o z n1 n2 n3) n1 n2 n3
 slot:=fun c o z n1 n2 n3=>by
  obtain⟨sl,z1⟩:=a.slot c o z n1 n2 n3;obtain⟨sl',z2⟩:=b.slot c _ z1 n1 n2 n3;exact⟨sl',z2⟩
 exc:=fun oe vs z hd=>by
  obtain⟨v1,z1,e1,e2⟩:=a.exc oe vs z hd;obtain⟨v2,z2,e3,e4⟩:=b.exc _ v1 z1 rfl;exact⟨v2,z2,e3.trans e1,e4.trans e2⟩
 there:=fun c o z n1=>by
  obtain⟨o1,z1⟩:=a.there c o z n1;exact b.there c o1 z1 n1
theorem XStep.mono {fr fr' ch ch':List Addr}{e:Addr}{h1 h2:Heap}(a:XStep fr e ch h1 h2)(hf:∀b∈fr,b∈fr')(hc:∀b∈ch,b∈ch'):XStep fr' e ch' h1 h2 where
 size:=a.size
 keep:=fun c o z n1 n2 n3=>a.keep c o z n1 (fun q=>n2 (hf c q)) fun q=>n3 (hc c q)
 slot:=fun c o z n1 n2 n3=>by
  by_cases q:c∈fr
  ·exact a.slot c o z n1 q fun q=>n3 (hc c q)
  ·exact⟨o.slots,a.keep c o z n1 q fun q=>n3 (hc c q)⟩
 exc:=a.exc
 there:=a.there
section
variable {M:Model}{A:Around}{E:Value->Shared->Prop}{s:Shared}{base:Heap}{env:Env}{outer:List Env}{L e T:Addr}{Q:Unit->Shared->Prop}
theorem zJS {oe:Obj}{vs:Array Value}{i:Nat}{x:Value}(he:s.heap.get? e=some oe)(hd:oe.data=.fields vs)(hi:i<vs.size)
  (hQ:∀h',h'.objs.size=s.heap.objs.size->h'.get? e=some { oe with data:=.fields (vs.setIfInBounds i x) }->(∀b,b≠e->h'.get? b=s.heap.get? b)->Q () { s with heap:=h' }):wpAny M A (setField (.ref e) i x) Q E s:=by
 refine wpAny_setField he hd hi (hQ _ (Heap.size_after_update ..) ?_ fun b hb=>Heap.get?_update_other _ _ (Ne.symm hb));rw[<-zDT hd (fun ws=>ws.setIfInBounds i x)];exact Heap.get?_update_self _ he (Obj.isFreed_of_fields (Obj.data_mapFields hd _))
theorem zJT {oe:Obj}{vs:Array Value}{head:Value}{hadNext:Bool}(hfr:A.frames=some (env::outer))(hl:s.heap.FunFrames base (env::outer))(hf:env.frame=some L)
  (he:s.heap.get? e=some oe)(hd:oe.data=.fields vs)(hz:1<vs.size)
  (hQ:∀h',Fly h' e s.heap.objs.size (rawInt L)->XStep ((env::outer).filterMap (·.frame)) e [] s.heap h'->Q () { s with heap:=h' }) :
  wpAny M A (do let a <-frameOf env; let pl <-entryPlaceOf L hadNext; let b <-EntryCells.newEntry head a .none (rawInt L) .none pl; setField (.ref e) 1 b) Q E s:=by
 have nfr:e∉(env::outer).filterMap (·.frame):=fun hm=>by
  obtain⟨_,o,ho,hnf⟩:=hl.mem hm;rw[he] at ho;cases ho;exact hnf vs hd
 refine zn4 (wpAny_frameOf_fun hfr hl hf fun h1 so=>zn4 (wpAny_entryPlaceOf fun pl hpl=>?_));have z1:h1.get? e=some oe:=(so.2.1 e nfr).trans he;unfold EntryCells.newEntry newFields;refine zn4 (wpAny_newObj_type ?_ (hpl.sizeOk5 _ _ _ _ _));generalize hto:({ cls:=.type "traceback",dict:=none,data:=.fields ([head,.ref L,.none,rawInt L,.none]++(if pl.isEmpty then List.replicate 6 Value.none else pl)).toArray }:Obj)=to;have dto:to.data=.fields ([head,.ref L,.none,rawInt L,.none]++(if pl.isEmpty then List.replicate 6 Value.none else pl)).toArray:=by rw[<-hto]
 have nft:to.isFreed=false:=Obj.isFreed_of_fields dto;refine zJS (zm5 _ z1) hd hz fun h2 sz2 g2 k2=>?_;have lte:e<h1.objs.size:=zm7 z1;have gT:h2.get? h1.objs.size=some to:=(k2 _ (Nat.ne_of_gt lte)).trans (zm6 _ nft);have sz1:h1.objs.size=s.heap.objs.size:=so.1;rw[<-sz1] at hQ;refine hQ h2 ⟨⟨_,_,to,_,g2,rfl,by simp[hz],gT,dto,by simp⟩,Nat.ne_of_gt lte⟩ ⟨?_,fun b o z n1 n2 _=>?_,fun b o z n1 _ _=>?_,fun o ws z hw=>?_,fun b o z n1=>?_⟩
 ·rw[sz2];show s.heap.objs.size<=(h1.push to).objs.size;rw[Heap.size_push,sz1];omega
 ·rw[k2 b n1];exact zm5 _ ((so.2.1 b n2).trans z)
 ·obtain⟨sl,q⟩:=so.2.2 b o z;exact⟨sl,by rw[k2 b n1]; exact zm5 _ q⟩
 ·rw[he] at z;cases z;rw[hd] at hw;cases hw;exact⟨_,g2,by simp,by rw[Array.getElem?_setIfInBounds_ne (by decide)]⟩
 ·obtain⟨sl,q⟩:=so.2.2 b o z;exact⟨_,by rw[k2 b n1]; exact zm5 _ q⟩
theorem zF4 (hfr:A.frames=some (env::outer))(hl:s.heap.FunFrames base (env::outer))(hf:env.frame=some L)(F:Fly s.heap e T .none)
  (hQ:∀h',Fly h' e s.heap.objs.size (rawInt L)->XStep ((env::outer).filterMap (·.frame)) e [T] s.heap h'->Q () { s with heap:=h' }):wpAny M A (noteFrame (.ref e) env) Q E s:=by
 obtain⟨⟨oe,vs,oT,ts,he,hd,h1,hT,hdT,h3⟩,hne⟩:=F;unfold noteFrame;simp only[hf];refine zn4 (wpAny_field he hd h1 ?_);rw[if_pos (show (Value.ref T != Value.none)=true from by simp)];refine zn4 (wpAny_field hT hdT h3 ?_);rw[if_neg (show ¬((Value.none == rawInt L)=true) from by simp[rawInt])];refine zn4 (zJS hT hdT (Array.getElem?_eq_some_iff.mp h3).1 fun h1' sz1 g1 k1=>?_);have nT:∀b o,s.heap.get? b=some o->(∀vs,o.data≠.fields vs)->b≠T:=fun b o hb hnf z=>by
  rw[z,hT] at hb;cases hb;exact hnf ts hdT
 have st:XStep ((env::outer).filterMap (·.frame)) e [T] s.heap h1':=⟨Nat.le_of_eq sz1.symm,fun b o z _ _ n=>by rw[k1 b (by simpa using n)]; exact z,fun b o z _ _ n=>⟨o.slots,by rw[k1 b (by simpa using n)]; exact z⟩,
  fun o ws z hw=>⟨ws,by rw[k1 e (Ne.symm hne),z,<-hw],rfl,rfl⟩,fun b o z _=>by
   by_cases q:b=T
   ·rw[q]; exact⟨_,g1⟩
   ·exact⟨o,by rw[k1 b q]; exact z⟩⟩
 refine zJT (base:=base) (s:={ s with heap:=h1' }) hfr (hl.of_keeps fun b o hb hnf=>⟨o,by rw[k1 b (nT b o hb hnf)]; exact hb,rfl⟩) hf (by rw[k1 e (Ne.symm hne)]; exact he) hd (Array.getElem?_eq_some_iff.mp h1).1 fun h2 F2 st2=>?_;rw[show ({ s with heap:=h1' }:Shared).heap.objs.size=s.heap.objs.size from sz1] at F2;exact hQ h2 F2 (st.trans (st2.mono (fun _ z=>z) fun _ z=>nomatch z))
theorem zHJ {fl:Value}(F:Fly s.heap e T fl)(hQ:∀h',Fly h' e T .none->XStep [] e [T] s.heap h'->Q () { s with heap:=h' }):wpAny M A (setFlight (.ref e) none) Q E s:=by
 obtain⟨⟨oe,vs,oT,ts,he,hd,h1,hT,hdT,h3⟩,hne⟩:=F;unfold setFlight;refine zn4 (wpAny_field he hd h1 ?_);rw[if_pos (show (Value.ref T != Value.none)=true from by simp)];refine zJS hT hdT (Array.getElem?_eq_some_iff.mp h3).1 fun h' sz g k=>?_;refine hQ h' ⟨⟨oe,vs,_,_,by rw[k e (Ne.symm hne)]; exact he,hd,h1,g,rfl,by simp[(Array.getElem?_eq_some_iff.mp h3).1]⟩,hne⟩ ⟨Nat.le_of_eq sz.symm,fun b o z _ _ n=>by rw[k b (by simpa using n)]; exact z,(fun b o z _ n _=>nomatch n),
  fun o ws z hw=>⟨ws,by rw[k e (Ne.symm hne),z,<-hw],rfl,rfl⟩,fun b o z _=>?_⟩
 by_cases q:b=T
 ·rw[q]; exact⟨_,g⟩
 ·exact⟨o,by rw[k b q]; exact z⟩
theorem zFA (hfr:A.frames=some (env::outer))(hl:s.heap.FunFrames base (env::outer))(hf:env.frame=some L)(F:Fly s.heap e T .none)
  (hQ:∀h',Fly h' e s.heap.objs.size .none->XStep ((env::outer).filterMap (·.frame)) e [T,s.heap.objs.size] s.heap h'->Q () { s with heap:=h' }):wpAny M A (leaving env (.ref e)) Q E s:=by
 unfold leaving;refine zn4 (zF4 hfr hl hf F fun h2 F2 s2=>zHJ (s:={ s with heap:=h2 }) F2 fun h3 F3 s3=>?_);exact hQ h3 F3 ((s2.mono (fun _ z=>z) fun _ z=>by simp at z; simp[z]).trans (s3.mono (fun _ z=>nomatch z) fun _ z=>by simp at z; simp[z]))
end
section
variable {prog:Program}{w:World}{A:Around}{E:Value->Shared->Prop}{s:Shared}{K:Frag}{C x:Addr}{fI:Value}{tl:List Addr}{mA:Str->Option Value}{name:Str}{v:Value}
end
section
variable {prog:Program}{w:World}{A:Around}{E:Value->Shared->Prop}{s:Shared}{K:Frag}{C x:Addr}{fI:Value}{tl:List Addr}{mA:Str->Option Value}{name:Str}{v:Value}
end
section
variable {prog:Program}{w:World}{A:Around}{E:Value->Shared->Prop}{s:Shared}{K:Frag}{C x:Addr}{fI:Value}{tl:List Addr}{mA:Str->Option Value}{name:Str}{v:Value}
end
section
variable {prog:Program}{w:World}{A:Around}{E:Value->Shared->Prop}{s:Shared}{K:Frag}{C:Addr}{fI:Value}{tl:List Addr}
end
section
variable {M:Model}{A:Around}{E:Value->Shared->Prop}{s:Shared}{env:Env}{K:Frag}{C:Addr}{tl:List Addr}
end
end L2
end
section
namespace L2
open PySem PySem.Spec PyProof.Rows
noncomputable def closL (env:Env)(names:List (Str×NameKind))(acc:List (Str×Addr)):List (Str×Addr):=
 names.foldl (fun cs x=>if x.2 == NameKind.free then (x.1,(env.cells.lookup x.1).getD 0)::cs else cs) acc
theorem zCU {α β:Type}{f:α->β->Sem (ForInStep β)}(g:β->α->β):∀(l:List α) (c:β),(∀x∈l,∀c,f x c=pure (.yield (g c x)))->forIn l c f=pure (l.foldl g c)
 | [],_,_=>rfl
 | x::r,c,h=>by
  rw[List.forIn_cons,h x List.mem_cons_self c,pure_bind];exact zCU g r (g c x) fun y hy=>h y (zm1 _ hy)
theorem zDx {env:Env}:∀(names:List (Str×NameKind)) (acc:List (Str×Addr)),(∀y∈names,y.2=NameKind.free->∃c,env.cells.lookup y.1=some c)->(∀x c,acc.lookup x=some c->env.cells.lookup x=some c) ->
  (∀x c,(closL env names acc).lookup x=some c->env.cells.lookup x=some c)/\(∀y∈names,y.2=NameKind.free->∃c,(closL env names acc).lookup y.1=some c)/\∀x c,acc.lookup x=some c->∃c',(closL env names acc).lookup x=some c'
 | [],acc,_,ha=>⟨ha,(fun _ h=>nomatch h),fun x c h=>⟨c,h⟩⟩
 | (n,k)::r,acc,hf,ha=>by
  by_cases hk:k=NameKind.free
  ·subst hk;obtain⟨c,hc⟩:=hf (n,.free) zm2 rfl;have e:closL env ((n,NameKind.free)::r) acc=closL env r ((n,c)::acc):=by
    have hc':env.cells.lookup n=some c:=hc;show closL env r (if (NameKind.free == NameKind.free)=true then (n,(env.cells.lookup n).getD 0)::acc else acc)=_;rw[if_pos (by decide),hc'];rfl
   rw[e];obtain⟨h1,h2,h3⟩:=zDx r ((n,c)::acc) (fun y hy=>hf y (zm1 _ hy)) fun x d h=>by
    rw[List.lookup_cons] at h;split at h
    ·rename_i hx;have hx':x=n:=by simpa using hx
     cases h;rw[hx'];exact hc
    ·exact ha x d h
   refine⟨h1,fun y hy hyf=>?_,fun x d h=>?_⟩
   ·rcases zp1 hy with rfl | hy
    ·exact h3 n c (by rw[List.lookup_cons]; simp)
    ·exact h2 y hy hyf
   ·by_cases hx:x=n
    ·subst hx;exact h3 x c (by rw[List.lookup_cons]; simp)
    ·refine h3 x d ?_;rw[List.lookup_cons,show (x == n)=false from by simpa using hx];exact h
  ·have e:closL env ((n,k)::r) acc=closL env r acc:=by
    show closL env r (if (k == NameKind.free)=true then (n,(env.cells.lookup n).getD 0)::acc else acc)=_;rw[if_neg (by simpa using hk)]
   rw[e];obtain⟨h1,h2,h3⟩:=zDx r acc (fun y hy=>hf y (zm1 _ hy)) ha;refine⟨h1,fun y hy hyf=>?_,h3⟩;rcases zp1 hy with rfl | hy
   ·exact absurd hyf hk
   ·exact h2 y hy hyf
theorem zBu {scope:Scope}{env:Env}(hf:∀y∈scope.names,y.2=NameKind.free->∃c,env.cells.lookup y.1=some c) :
  ∃cl,closureFor scope env=pure cl/\(∀x c,cl.lookup x=some c->env.cells.lookup x=some c)/\∀y∈scope.names,y.2=NameKind.free->∃c,cl.lookup y.1=some c:=by
 obtain⟨h1,h2,_⟩:=zDx (env:=env) scope.names [] hf (fun _ _ h=>nomatch h);refine⟨closL env scope.names [],?_,h1,h2⟩;simp only[closureFor];rw[zCU (fun cs x=>if x.2 == NameKind.free then (x.1,(env.cells.lookup x.1).getD 0)::cs else cs) scope.names [] fun x hx c=>?_]
 ·rfl
 ·obtain⟨n,kind⟩:=x;by_cases hk:kind=NameKind.free
  ·subst hk;obtain⟨a,ha⟩:=hf (n,.free) hx rfl;have ha':env.cells.lookup n=some a:=ha;simp only[show (NameKind.free == NameKind.free)=true from by decide,if_true,cellOf,ha'];rfl
  ·have hb:(kind == NameKind.free)=false:=by simpa using hk
   simp only[hb,Bool.false_eq_true,if_false]
noncomputable def cxComp (X:Cx)(N':List Str)(scope:Scope)(cl:List (Str×Addr))(C:Addr)(s:Shared)(H:Hp)(fp:List Addr)(E:Value->Shared->Prop):Cx:=
 { X with N:=N',s₀:=s,H₀:=H,env:=compEnvC scope cl C X.env,outer:=X.stack,stack:=X.stack,ex:=fp,fn:=fun x=>scope.names.lookup x == some .cell,pn:=[],xe:=E }
noncomputable def compOk (sc:Scope)(N N':List Str)(caps:List (Option Nat))(scope:Scope):Bool:=
 scope.kind == .function&&scope.names.all (fun y=>(y.2 != .cell||scope.names.lookup y.1 == some .cell)&&(y.2 != .local||scope.names.lookup y.1 == some .local)&&(y.2 != .free||(sc.names.lookup y.1 == some .cell||sc.names.lookup y.1 == some .free))) &&
 caps.length == N'.length&&decide N'.Nodup&&(caps.zip N').all fun p=>match p.1 with
  | none=>true
  | some j=>N[j]? == some p.2&&scope.names.lookup p.2 == some .free
structure CompS (sc:Scope)(N N':List Str)(caps:List (Option Nat))(scope:Scope):Prop where
 kind:scope.kind=.function
 cells:∀y∈scope.names,y.2=.cell->scope.names.lookup y.1=some .cell
 locs:∀y∈scope.names,y.2=.local->scope.names.lookup y.1=some .local
 free:∀y∈scope.names,y.2=.free->sc.names.lookup y.1=some .cell\/sc.names.lookup y.1=some .free
 len:caps.length=N'.length
 nd:N'.Nodup
 cap:∀(i j:Nat) (x:Str),caps[i]? = some (some j)->N'[i]? = some x->N[j]? = some x/\scope.names.lookup x=some .free
theorem CompS.of {sc:Scope}{N N':List Str}{caps:List (Option Nat)}{scope:Scope}(h:compOk sc N N' caps scope=true):CompS sc N N' caps scope:=by
 unfold compOk at h;simp only[Bool.and_eq_true,List.all_eq_true,beq_iff_eq,decide_eq_true_eq] at h;obtain⟨⟨⟨⟨hk,hn⟩,hl⟩,hnd⟩,hc⟩:=h;refine⟨?_,fun y hy e=>?_,fun y hy e=>?_,fun y hy e=>?_,hl,hnd,fun i j x h1 h2=>?_⟩
 ·cases hh:scope.kind <;> rw[hh] at hk <;> first | rfl | (exact absurd hk (by decide))
 ·have:=(hn y hy).1.1;rw[e] at this;simpa using this
 ·have:=(hn y hy).1.2;rw[e] at this;simpa using this
 ·have:=(hn y hy).2;rw[e] at this;simpa using this
 ·have hz:(caps.zip N')[i]? = some (some j,x):=by rw[List.getElem?_zip_eq_some]; exact⟨h1,h2⟩
  have:=hc _ (List.mem_of_getElem? hz);simpa using this
noncomputable def capV (σ:St):Option Nat->Option V
 | none=>none
 | some j=>(σ[j]?).join
section
variable {prog:Program}{w:World}{A:Around}{R:Result->Shared->Prop}{s:Shared}
theorem zD9 {elt target iter:Expr}{ifs:List Expr}{scope:Scope}{pos:Pos}{it acc:Value}{env:Env}(I:Nat->Shared->Prop)
  (turn:∀n s,I n s->wpAny (model prog w) A (pyNext it) (fun r s₁=>match r with
   | none=>R (.ok .next) s₁
   | some v=>wpAny (model prog w) A (letOwnedTupleGo target it v) (fun _ s₀=>wpAny (model prog w) A (assign target env v) (fun _ s₂=>
     wpAny (model prog w) A (forIn ifs true fun c r=>if r=true then do let ok <-isTrue c env (eval c env); pure (ForInStep.yield ok) else pure (ForInStep.yield r)) (fun ok s₃=>
      if ok=true then wpAny (model prog w) A (eval elt env) (fun x s₄=>
       wpAny (model prog w) A (call (.builtin "list.append") [acc,x]) (fun _ s₅=>∃m,m<n/\I m s₅) (notedBy (model prog w) A env fun e s'=>R (.error e) s') s₄) (notedBy (model prog w) A env fun e s'=>R (.error e) s') s₃
      else ∃m,m<n/\I m s₃) (notedBy (model prog w) A env fun e s'=>R (.error e) s') s₂) (notedBy (model prog w) A env fun e s'=>R (.error e) s') s₀) (notedBy (model prog w) A env fun e s'=>R (.error e) s') s₁) (notedBy (model prog w) A env fun e s'=>R (.error e) s') s)
  (n:Nat)(h:I n s) :
  codeAny (model prog w) A (.compLoop (.ListComp elt [⟨target,iter,ifs,0⟩] scope pos) 0 it acc env) R s:=by
 refine codeAny_loop rfl I (fun n s hI=>?_) n h;show wpAny _ A ((compTurn (.ListComp elt [⟨target,iter,ifs,0⟩] scope pos) 0 it acc env).onRaise (fun x=>do noteFrame x env; theTreesLotGoes x)) _ _ s;refine wpAny_noted ?_;rw[compTurn_list];refine zn4 (wpAny_standAt (zn4 (wpAny_mono (turn n s hI) (fun r s₁ h₁=>?_) fun _ _ h'=>h')));cases r with
 | none=>exact zn5 h₁
 | some v=>
  refine zn4 (wpAny_mono h₁ (fun _ s₀ h₀=>?_) fun _ _ h'=>h');refine zn4 (wpAny_mono h₀ (fun _ s₂ h₂=>zn4 (wpAny_mono h₂ (fun ok s₃ h₃=>?_) fun _ _ h'=>h')) fun _ _ h'=>h');cases ok with
  | false=>exact zn5 ⟨rfl,h₃⟩
  | true=>
   exact zn4 (zn4 (wpAny_mono h₃ (fun x s₄ h₄=>zn4 (wpAny_mono h₄ (fun _ s₅ h₅=>zn5 (zn5 ⟨rfl,h₅⟩)) fun _ _ h'=>h')) fun _ _ h'=>h'))
end
def PTs (X:Cx)(ifs:List Expr)(t:TT):Prop:=
 ∀(pins:List (Addr×Obj)) (s:Shared) (σ:St) (H:Hp) (Q:Bool->Hp->Prop),Inv X pins σ H s->t σ H Q ->
  wpAny (model X.prog X.w) X.A (forIn ifs true fun c r=>if r=true then do let ok <-isTrue c X.env (eval c X.env); pure (ForInStep.yield ok) else pure (ForInStep.yield r)) (TP X pins σ Q) X.xe s
def tTrue:TT:=fun _ H Q=>Q true H
theorem zKp {X:Cx}:PTs X [] tTrue:=fun _ _ _ H _ I h=>wpAny_tests_nil ⟨H,I,h⟩
theorem zKo {X:Cx}{c:Expr}{t:TT}(h:PT X c t):PTs X [c] t:=fun pins s σ H Q I hq=>wpAny_tests_one (h pins s σ H Q I hq)
theorem PTs.nox {X:Cx}{ifs:List Expr}{t:TT}(h:PTs X.nox ifs t):PTs X ifs t:=fun pins s σ H Q I hw=>
 wpAny_mono (h pins s σ H Q (I.wish _) hw) (fun _ _ ⟨H',I',q⟩=>⟨H',I'.unwish,q⟩) fun _ _ f=>f.elim
theorem PG.nox {X:Cx}{tg:Expr}{t:TG}(h:PG X.nox tg t):PG X tg t:=fun pins s σ H v u Q I r hw=>
 wpAny_mono (h pins s σ H v u Q (I.wish _) r hw) (fun _ _ ⟨σ',H',I',q⟩=>⟨σ',H',I'.unwish,q⟩) fun _ _ f=>f.elim
def CompW (J:It)(l:Addr)(g:TG)(tt:TT)(te:TE)(Q:VK)(σ0:St)(H:Hp):Prop:=
 ∃W:Nat->Nat->List V->St->Hp->Prop,(∃m,W 0 m [] σ0 (upd H l (.lst [])))/\∀i m ys σ H,W i m ys σ H ->
  (J.stop i H/\Q (.ref l) H)\/(J.go i H/\∃N:List V->St->Hp->Prop,(∀ys σ' H',N ys σ' H'->∃m',m'<m/\W (i+1) m' ys σ' H') /\
   ∀x H',J.yld i H x H'->g x σ H' fun σ2 H3=>tt σ2 H3 fun c H4=>if c=true then te σ2 H4 fun v H5=>∃ys',H5 l=some (.lst ys')/\ys'.length<sizeLine/\N (ys'++[v]) σ2 (upd H5 l (.lst (ys'++[v]))) else N ys σ2 H4)
def tComp (wi:TI)(caps:List (Option Nat))(g:TG)(tt:TT)(te:TE):TE:=fun σ H Q=>wi σ H fun J H1=>∀l,H1 l=none->CompW J l g tt te Q (caps.map (capV σ)) H1
section
variable {X:Cx}{elt iter tg:Expr}{ifs:List Expr}{scope:Scope}{pos:Pos}{wi:TI}{g:TG}{tt:TT}{te:TE}{N':List Str}{caps:List (Option Nat)}
theorem zBm {scope:Scope}{env:Env}{x:Str} :
  ∀k,(relabel scope env).names.lookup x=some k->scope.names.lookup x=some k\/(k=.cell/\scope.names.lookup x=some .free):=by
 have go:∀(g:Str×NameKind->Str×NameKind),(∀p,g p=p\/(p.2=.free/\g p=(p.1,.cell)))->∀(names:List (Str×NameKind)) k,(names.map g).lookup x=some k->names.lookup x=some k\/(k=.cell/\names.lookup x=some .free):=by
  intro g hg names;induction names with
  | nil=>intro k h; exact nomatch h
  | cons p r ih=>
   intro k h;rw[List.map_cons] at h;obtain⟨n,kn⟩:=p;rcases hg (n,kn) with e | ⟨e1,e2⟩
   ·rw[e,List.lookup_cons] at h;rw[List.lookup_cons];cases hx:x == n with
    | true=>rw[hx] at h; exact .inl h
    | false=>rw[hx] at h; exact ih k h
   ·rw[e2,List.lookup_cons] at h;rw[List.lookup_cons];cases hx:x == n with
    | true=>
     rw[hx] at h;have e1':kn=.free:=e1;rw[e1'];exact .inr ⟨(zn3 h).symm,rfl⟩
    | false=>rw[hx] at h; exact ih k h
 refine go _ (fun p=>?_) scope.names;obtain⟨n,k⟩:=p;by_cases hb:(k == NameKind.free&&env.scope.kind == .function&&env.kindOf n == some .cell)=true
 ·refine .inr ⟨?_,if_pos hb⟩;simp only[Bool.and_eq_true,beq_iff_eq] at hb;exact hb.1.1
 ·exact .inl (if_neg hb)
theorem zDy {x:Str}:∀(names:List (Str×NameKind)) (n:Nat) (acc:List (Str×Addr)),(∀y∈names,y.2=.cell->y.1≠x)->(cellsFrom n names acc).lookup x=acc.lookup x
 | [],_,_,_=>rfl
 | (m,k)::r,n,acc,h=>by
  have hr:=fun y hy=>h y (zm1 _ hy);unfold cellsFrom;split
  ·rename_i hk;rw[zDy r _ _ hr,List.lookup_cons,show (x == m)=false from by simpa using fun e=>h (m,k) List.mem_cons_self (by simpa using hk) (Eq.symm e)]
  ·exact zDy r n acc hr
theorem zEL {x:Str}{lo:Nat}:∀(names:List (Str×NameKind)) (n:Nat) (acc:List (Str×Addr)),lo<=n->(∃c,acc.lookup x=some c/\lo<=c)->∃c,(cellsFrom n names acc).lookup x=some c/\lo<=c
 | [],_,_,_,h=>h
 | (m,k)::r,n,acc,hn,h=>by
  unfold cellsFrom;split
  ·refine zEL r (n+1) _ (by omega) ?_;rw[List.lookup_cons];cases x == m with
   | true=>exact⟨n,rfl,hn⟩
   | false=>exact h
  ·exact zEL r n acc hn h
theorem zFt {x:Str}{lo:Nat}:∀(names:List (Str×NameKind)) (n:Nat) (acc:List (Str×Addr)),lo<=n->(x,NameKind.cell)∈names->∃c,(cellsFrom n names acc).lookup x=some c/\lo<=c
 | (m,k)::r,n,acc,hn,h=>by
  unfold cellsFrom;rcases zp1 h with e | h
  ·cases e;rw[if_pos (by decide)];refine zEL r (n+1) _ (by omega) ⟨n,?_,hn⟩;rw[List.lookup_cons]; simp
  ·split
   ·exact zFt r _ _ (by omega) h
   ·exact zFt r _ _ hn h
structure CfOk (P:Str->Addr->Prop)(lo:Nat)(h:Heap)(cs:List (Str×Addr)):Prop where
 src:∀x c,cs.lookup x=some c->P x c\/(lo<=c/\h.IsCell c none)
 inj:∀x y c,cs.lookup x=some c->cs.lookup y=some c->x=y
 lt:∀x c,cs.lookup x=some c->c<h.objs.size
theorem zLr {P:Str->Addr->Prop}{lo:Nat}:∀(names:List (Str×NameKind)) (h:Heap) (acc:List (Str×Addr)),lo<=h.objs.size->CfOk P lo h acc->CfOk P lo (pushCells h names) (cellsFrom h.objs.size names acc)
 | [],_,_,_,x=>x
 | (m,k)::r,h,acc,hlo,x=>by
  unfold pushCells cellsFrom;split
  ·have:=zLr (P:=P) (lo:=lo) r (h.push { cls:=.type "cell",data:=.cell none }) ((m,h.objs.size)::acc) (by rw[Heap.size_push]; omega) ⟨fun y c e=>?_,fun y z c e e'=>?_,fun y c e=>?_⟩
   ·rwa [Heap.size_push] at this
   ·rw[List.lookup_cons] at e;cases hy:y == m with
    | true=>rw[hy] at e; cases e; exact .inr ⟨hlo,_,zm6 _ rfl,rfl⟩
    | false=>rw[hy] at e; exact (x.src y c e).imp id fun q=>⟨q.1,q.2.keeps fun b o e=>zm5 _ e⟩
   ·rw[List.lookup_cons] at e e';cases hy:y == m with
    | true=>
     rw[hy] at e; cases e;cases hz:z == m with
     | true=>rw[beq_iff_eq] at hy hz; rw[hy,hz]
     | false=>rw[hz] at e'; exact absurd (x.lt z _ e') (Nat.lt_irrefl _)
    | false=>
     rw[hy] at e;cases hz:z == m with
     | true=>rw[hz] at e'; cases e'; exact absurd (x.lt y _ e) (Nat.lt_irrefl _)
     | false=>rw[hz] at e'; exact x.inj y z c e e'
   ·rw[Heap.size_push];rw[List.lookup_cons] at e;cases hy:y == m with
    | true=>rw[hy] at e; cases e; exact Nat.lt_succ_self _
    | false=>rw[hy] at e; exact Nat.lt_succ_of_lt (x.lt y c e)
  ·exact zLr r h acc hlo x
structure CsOk (X:Cx)(scope:Scope)(n:Nat)(h:Heap)(cs:List (Str×Addr)):Prop where
 src:∀x c,cs.lookup x=some c->X.env.cells.lookup x=some c\/(n<=c/\h.IsCell c none)
 inj:∀x y c,cs.lookup x=some c->cs.lookup y=some c->x=y
 has:∀x,(scope.names.lookup x=some .cell\/scope.names.lookup x=some .free)->∃c,cs.lookup x=some c
 fr:∀x c,scope.names.lookup x=some .free->cs.lookup x=some c->X.env.cells.lookup x=some c
 own:∀x c,scope.names.lookup x=some .cell->cs.lookup x=some c->n<=c
theorem CsOk.mk' {X:Cx}{sc:Scope}{N N':List Str}{caps:List (Option Nat)}{scope:Scope}{pins:List (Addr×Obj)}{σ:St}{H:Hp}{s:Shared}{cl:List (Str×Addr)}{c0:Value}(S:CompS sc N N' caps scope)(I:Inv X pins σ H s)
  (h1:∀x c,cl.lookup x=some c->X.env.cells.lookup x=some c)(h2:∀y∈scope.names,y.2=NameKind.free->∃c,cl.lookup y.1=some c) :
  CsOk X scope s.heap.objs.size (pushCells (s.heap.push { cls:=c0,data:=.dict #[] }) scope.names) (cellsFrom (s.heap.objs.size+1) scope.names cl):=by
 have ok:=zLr (P:=fun x c=>X.env.cells.lookup x=some c) (lo:=s.heap.objs.size) scope.names (s.heap.push { cls:=c0,data:=.dict #[] }) cl (by rw[Heap.size_push]; omega)
  ⟨fun x c e=>.inl (h1 x c e),fun x y c e e'=>I.ok.inj x y c (h1 x c e) (h1 y c e'),fun x c e=>by
   obtain⟨v,o,ho,_⟩:=I.cell x c (h1 x c e);rw[Heap.size_push];exact Nat.lt_succ_of_lt (zm7 ho)⟩
 rw[Heap.size_push] at ok;have nf:∀x,scope.names.lookup x=some .free->∀y∈scope.names,y.2=.cell->y.1≠x:=fun x e y hy hk z=>by
  have:=S.cells y hy hk;rw[z,e] at this; cases this
 refine⟨ok.src,ok.inj,fun x h=>?_,fun x c e h=>?_,fun x c e h=>?_⟩
 ·rcases h with e | e
  ·obtain⟨c,q,_⟩:=zFt (lo:=0) scope.names (s.heap.objs.size+1) cl (Nat.zero_le _) (PySem.mem_of_lookup e);exact⟨c,q⟩
  ·obtain⟨c,q⟩:=h2 _ (PySem.mem_of_lookup e) rfl;exact⟨c,(zDy _ _ _ (nf x e)).trans q⟩
 ·rw[zDy _ _ _ (nf x e)] at h;exact h1 x c h
 ·obtain⟨c',q,l⟩:=zFt (lo:=s.heap.objs.size) scope.names (s.heap.objs.size+1) cl (Nat.le_succ _) (PySem.mem_of_lookup e);rw[h] at q; cases q;exact l
theorem zEB {M:Model}{A:Around}{E:Value->Shared->Prop}{s:Shared}{scope:Scope}{globals:Addr}{closure:List (Str×Addr)}{qual:Str}{around:Env}{Q:Env->Shared->Prop}
  (h:Q (newEnv scope s.heap.objs.size globals (cellsFrom (s.heap.objs.size+1) scope.names closure) qual none .none (some around) builtinsNs) { s with heap:=pushCells (s.heap.push { cls:=.type "dict",data:=.dict #[] }) scope.names }) :
  wpAny M A (newFunctionEnv scope globals closure [] qual none .none (some around)) Q E s:=by
 simp only[newFunctionEnv,Option.isSome_some,if_true];refine zn4 (wpAny_alloc ?_);refine zn4 (wpAny_layCells _ (fun name kind cells=>by cases hkc:kind == NameKind.cell <;> simp[hkc]) _ _ _ _ ?_);rw[show ({ s with heap:=s.heap.push { cls:=.type "dict",data:=.dict #[] } }:Shared).heap.objs.size=s.heap.objs.size+1 from Heap.size_push ..];exact zn4 (zn5 (zn5 h))
theorem zLo {pins:List (Addr×Obj)}{σ:St}{H:Hp}{s:Shared}{cl:List (Str×Addr)}{fp:List Addr}{C:Addr}(E:Value->Shared->Prop)(S:CompS X.env.scope X.N N' caps scope)(I:Inv X pins σ H s)(hC:s.heap.objs.size<=C)
  {h1:Heap}(O:CsOk X scope s.heap.objs.size h1 cl)(hf:∀b∈fp,FpOk X pins H b/\b<s.heap.objs.size) :
  (cxComp X N' scope cl C s H fp E).Ok where
 mod:=I.ok.mod
 kind:=S.kind
 glob:=I.ok.glob
 blt:=I.ok.blt
 above:=hC
 inj:=O.inj
 has:=fun x hx=>by
  have hx':(relabel scope X.env).names.lookup x=some .cell\/(relabel scope X.env).names.lookup x=some .free:=hx;refine O.has x ?_;rcases hx' with q | q
  ·exact (zBm _ q).imp id fun z=>z.2
  ·rcases zBm _ q with z | z
   ·exact .inr z
   ·exact absurd z.1 (by decide)
 cab:=fun x c z e=>O.own x c (by
  have z':(scope.names.lookup x == some NameKind.cell)=true:=z;simpa using z') e
 hd:=I.ok.hd
 frames:=I.ok.frames
 stk:=.inl rfl
 exf:=fun b hb=>⟨zn2 (zn1 (hf b hb).2 hC),fun x c e=>(O.src x c e).elim (fun q=>(hf b hb).1.2.2.2.2.1 x c q) fun q z=>absurd (z ▸ (hf b hb).2) (Nat.not_lt.mpr q.1)⟩
 bs:=I.bs
 bsz:=zm9 I.ok.bsz I.sz
 noex:=fun b o e hb=>by
  rcases (hf b hb).1.2.2.2.1 with z | z
  ·exact I.ok.noex b o e z
  ·exact absurd (zn1 (zm7 e) (zm9 I.ok.bsz z)) (Nat.lt_irrefl _)
 exfs:=fun b hb z=>by
  rcases zp1 (I.stkSub b z) with e | e
  ·exact (hf b hb).1.2.1 e
  ·exact (hf b hb).1.2.2.1 e
 funs:=I.stack
 frf:=I.stkFree
theorem zFZ {pins:List (Addr×Obj)}{σ:St}{H:Hp}{s:Shared}{cl:List (Str×Addr)}{fp:List Addr}{h1:Heap}{tk:Nat}{m:Str->Option Value}(E:Value->Shared->Prop)(S:CompS X.env.scope X.N N' caps scope)(I:Inv X pins σ H s)
  (O:CsOk X scope s.heap.objs.size h1 cl)(hf:∀b∈fp,FpOk X pins H b/\b<s.heap.objs.size)
  (hns:h1.Ns s.heap.objs.size m)(hk:∀b o,s.heap.get? b=some o->h1.get? b=some o) :
  Inv (cxComp X N' scope cl s.heap.objs.size s H fp E) [] (caps.map (capV σ)) H { s with heap:=h1,toks:=tk } where
 ok:=zLo E S I (zm8 _) O hf
 os:=rfl
 bare:=I.bare
 base:=Un.kept hk
 loc:=by
  refine⟨m,hns,fun i x v e1 e2 e3=>?_⟩;rw[List.getElem?_map] at e2;cases ec:caps[i]? with
  | none=>rw[ec] at e2; cases e2
  | some oc=>
   rw[ec] at e2;cases oc with
   | none=>cases e2
   | some j=>
    have e2':(σ[j]?).join=some v:=zn3 e2;have e4:σ[j]? = some (some v):=by
     cases q:σ[j]? with
     | none=>rw[q] at e2'; cases e2'
     | some o=>rw[q] at e2'; cases o with
      | none=>cases e2'
      | some v'=>cases e2'; rfl
    obtain⟨hN,hfr⟩:=S.cap i j x ec e1;have hkd:X.env.kindOf x=some .cell\/X.env.kindOf x=some .free:=S.free _ (PySem.mem_of_lookup hfr) rfl;obtain⟨m0,_,hl⟩:=I.loc;obtain⟨u,r,l⟩:=hl j x v hN e4 (hkd.elim (fun z=>.inr (.inl z)) fun z=>.inr (.inr z));refine⟨u,r,?_⟩;rcases l with ⟨z,_⟩ | ⟨_,c,hc,hcell⟩
    ·rcases hkd with q | q <;> rw[q] at z <;> cases z
    ·obtain⟨c',hc'⟩:=O.has x (.inr hfr);have:c'=c:=by
      have:=O.fr x c' hfr hc';rw[hc] at this; exact (zn3 this).symm
     subst this;have e3':(relabel scope X.env).names.lookup x=some .local\/(relabel scope X.env).names.lookup x=some .cell\/(relabel scope X.env).names.lookup x=some .free:=e3;refine .inr ⟨?_,c',hc',?_⟩
     ·rcases e3' with q | q | q
      ·rcases zBm _ q with z | z
       ·rw[hfr] at z; cases z
       ·exact absurd z.1 (by decide)
      ·exact .inl q
      ·exact .inr q
     ·obtain⟨o,ho,hd⟩:=hcell;exact⟨o,hk _ o ho,hd⟩
 cell:=fun x c e=>by
  rcases O.src x c e with q | q
  ·obtain⟨v,o,ho,hd⟩:=I.cell x c q;exact⟨v,o,hk _ o ho,hd⟩
  ·exact⟨none,q.2⟩
 free:=I.hok.fresh (zm8 _)
 freeC:=fun x c e=>(O.src x c e).elim (I.freeC x c) fun q=>I.hok.fresh q.1
 pin:=fun p hp=>absurd (show p∈([]:List (Addr×Obj)) from hp) (by simp)
 hok:=I.hok.kept hk
 len:=by rw[List.length_map]; exact S.len
theorem zCX {pins:List (Addr×Obj)}{σ:St}{H:Hp}{s:Shared}{cl:List (Str×Addr)}{it:Addr}{fp:List Addr}{tn:Nat->Heap->Prop}{J:It}{Q:VK}{RR:Value->Addr->Result->Shared->Prop}
  (hc:X.calm=true)(S:CompS X.env.scope X.N N' caps scope)(I:Inv X pins σ H s)
  (c1:∀x c,cl.lookup x=some c->X.env.cells.lookup x=some c)(c2:∀y∈scope.names,y.2=NameKind.free->∃c,cl.lookup y.1=some c)
  (T:Turn X.prog X.w X.K tg J fp it tn)(t0:tn 0 s.heap)(hf:∀b∈fp,FpOk X pins H b)
  (hg:∀cl C s H fp,PG (cxComp X N' scope cl C s H fp fun _ _=>False) tg g)(ht:∀cl C s H fp,PTs (cxComp X N' scope cl C s H fp fun _ _=>False) ifs tt)(he:∀cl C s H fp,PE (cxComp X N' scope cl C s H fp fun _ _=>False) elt te)
  (hw:∀l,H l=none->CompW J l g tt te Q (caps.map (capV σ)) H)
  (hR:∀l C s' H' m,Inv X pins σ H' s'->FpOk X pins H' C->s'.heap.Ns C m->Q (.ref l) H'->RR (.ref l) C (.ok .next) s') :
  wpAny (model X.prog X.w) X.A (newList []) (fun acc s₃=>wpAny (model X.prog X.w) X.A (newFunctionEnv scope X.env.globals cl [] X.env.qual none .none (some X.env)) (fun cenv s₄=>
   codeAny (model X.prog X.w) X.A (.compStart (.ListComp elt [⟨tg,iter,ifs,0⟩] scope pos) 0 (.ref it) acc { cenv with scope:=relabel scope X.env }) (RR acc cenv.locals) s₄) X.xe s₃) X.xe s:=by
 refine wpAny_newObj_type (zEB ?_);dsimp only;have I3:Inv X pins σ (upd H s.heap.objs.size (.lst [])) { s with heap:=s.heap.push { cls:=.type "list",dict:=none,data:=.seq ([]:List Value).toArray } }:=
  I.laid (t':=s.toks) (fun b u e=>zm5 _ e) (zm8 _) ⟨Nat.zero_le _,[],0,.nil,zm6 _ rfl⟩
 have hl0:H s.heap.objs.size=none:=I.hok.fresh (zm8 _);have lt0:∀b∈fp,b<s.heap.objs.size:=fun b hb=>by
  obtain⟨o,e,_⟩:=T.obj 0 _ t0 b hb;exact zm7 e
 obtain⟨W,⟨m0,w0⟩,turn⟩:=hw s.heap.objs.size hl0;generalize hH2:s.heap.push { cls:=.type "list",dict:=none,data:=.seq ([]:List Value).toArray }=H2 at I3 ⊢;have hC:H2.objs.size=s.heap.objs.size+1:=by rw[<-hH2,Heap.size_push]
 have O:=CsOk.mk' (c0:=.type "dict") S I3 c1 c2;have hns₁:(pushCells (H2.push { cls:=.type "dict",data:=.dict #[] }) scope.names).Ns H2.objs.size fun _=>none:=(Heap.Ns.new H2 (.type "dict")).keeps (pushCells_keeps _ _);have old:∀b o,H2.get? b=some o->(pushCells (H2.push { cls:=.type "dict",data:=.dict #[] }) scope.names).get? b=some o:=fun b o e=>pushCells_keeps _ _ b o (zm5 _ e);dsimp only at O;generalize pushCells (H2.push { cls:=.type "dict",data:=.dict #[] }) scope.names=h₁ at O hns₁ old ⊢;generalize hcs:cellsFrom (H2.objs.size+1) scope.names cl=cs at O ⊢;have old0:∀b o,s.heap.get? b=some o->h₁.get? b=some o:=fun b o e=>old b o (hH2 ▸ zm5 _ e);have hf3:∀b∈fp,FpOk X pins (upd H s.heap.objs.size (.lst [])) b/\b<H2.objs.size:=fun b hb=>
  ⟨⟨by rw[zAm (Nat.ne_of_lt (lt0 b hb))]; exact (hf b hb).1,(hf b hb).2⟩,by rw[hC]; exact Nat.lt_succ_of_lt (lt0 b hb)⟩
 have Er:Value->Shared->Prop:=notedBy (model X.prog X.w) X.A (compEnvC scope cs H2.objs.size X.env) fun e s'=>RR (.ref s.heap.objs.size) H2.objs.size (.error e) s';have loop:∀s₃:Shared,s₃={ s with heap:=h₁,toks:=s.toks } ->
   codeAny (model X.prog X.w) X.A (.compLoop (.ListComp elt [⟨tg,iter,ifs,0⟩] scope pos) 0 (.ref it) (.ref s.heap.objs.size) (compEnvC scope cs H2.objs.size X.env))
    (RR (.ref s.heap.objs.size) H2.objs.size) s₃:=by
  rintro s₃ rfl;have I4:=zFZ (N':=N') (caps:=caps) (tk:=s.toks) (notedBy (model X.prog X.w) X.A (compEnvC scope cs H2.objs.size X.env) fun e s'=>RR (.ref s.heap.objs.size) H2.objs.size (.error e) s') S I3 O hf3 hns₁ old;generalize hX':cxComp X N' scope cs H2.objs.size { s with heap:=H2 } (upd H s.heap.objs.size (.lst [])) fp (notedBy (model X.prog X.w) X.A (compEnvC scope cs H2.objs.size X.env) fun e s'=>RR (.ref s.heap.objs.size) H2.objs.size (.error e) s')=X' at I4;have hg':PG X' tg g:=by rw[<-hX']; exact PG.nox (hg cs H2.objs.size { s with heap:=H2 } (upd H s.heap.objs.size (.lst [])) fp)
  have ht':PTs X' ifs tt:=by rw[<-hX']; exact PTs.nox (ht cs H2.objs.size { s with heap:=H2 } (upd H s.heap.objs.size (.lst [])) fp)
  have he':PE X' elt te:=by rw[<-hX']; exact PE.nox (he cs H2.objs.size { s with heap:=H2 } (upd H s.heap.objs.size (.lst [])) fp)
  have eP:X'.prog=X.prog:=by rw[<-hX']; rfl
  have eW:X'.w=X.w:=by rw[<-hX']; rfl
  have eK:X'.K=X.K:=by rw[<-hX']; rfl
  have eA:X'.A=X.A:=by rw[<-hX']; rfl
  have eC:X'.calm=true:=by rw[<-hX']; exact hc
  have eE:X'.env=compEnvC scope cs H2.objs.size X.env:=by rw[<-hX']; rfl
  have eX:X'.xe=notedBy (model X.prog X.w) X.A (compEnvC scope cs H2.objs.size X.env) fun e s'=>RR (.ref s.heap.objs.size) H2.objs.size (.error e) s':=by rw[<-hX']; rfl
  have stat:∀{H':Hp},(∀b∈fp,H' b=none)->∀b∈fp,FpOk X' [] H' b:=fun {H'} hn b hb=>by
   obtain⟨f0,f1,f2,f3,f4,f5⟩:=hf b hb;refine⟨hn b hb,?_,?_,.inl ?_,fun x c e=>?_,fun p hp=>?_⟩
   ·rw[eE]; exact zn2 (by show b<H2.objs.size; rw[hC]; exact Nat.lt_succ_of_lt (lt0 b hb))
   ·intro z;have z':b∈frs X.stack:=by rw[<-hX'] at z; exact z
    rcases zp1 (I.stkSub b z') with e | e
    ·exact f1 e
    ·exact f2 e
   ·rw[<-hX']; exact hb
   ·rw[eE] at e; exact (O.src x c e).elim (f4 x c) fun q z=>absurd (z ▸ lt0 b hb) (Nat.not_lt.mpr (zm9 (by rw[hC]; exact Nat.le_succ _) q.1))
   ·have:p∈([]:List (Addr×Obj)):=by rw[<-hX'] at hp; exact hp
    exact absurd this (by simp)
  refine zD9 (fun n s'=>∃i ys σ' H',Inv X' [] σ' H' s'/\tn i s'.heap/\(∀b∈fp,H' b=none)/\W i n ys σ' H') ?_ m0
   ⟨0,[],_,_,I4,T.keep 0 _ _ t0 fun b _ o e=>old0 b o e,fun b hb=>(hf3 b hb).1.1,w0⟩
  rintro n s5 ⟨i,ys,σ5,H5,I5,tn5,fr5,w5⟩;rw[<-eX];rcases turn i n ys σ5 H5 w5 with ⟨stop,q⟩ | ⟨go,N,hN,step⟩
  ·have d:=T.done X' eP eW eK eC i [] s5 σ5 H5 X'.xe I5 (stat fr5) tn5 stop;rw[eA] at d;refine thn d fun r s6 hZz=>?_;obtain⟨hr,I6⟩:=hZz;subst hr;have u:Un (frs X.stack) fp (upd H s.heap.objs.size (.lst [])) H5 H2 s6.heap:=by
    have:=I6.base;rw[<-hX'] at this; exact this
   have hok6:HOk X.prog X.w H5 s6.heap:=by have:=I6.hok; rw[eP,eW] at this; exact this
   have os6:s6.os=s.os:=by have:=I6.os; rw[<-hX'] at this; exact this
   have I7:Inv X pins σ H5 s6:=I3.call' (ch:=fp) os6 u hok6 I6.bare fun b hb=>by
    obtain⟨f0,f1,f2,f3,f4,f5⟩:=hf b hb;exact⟨f3,f1,f4,f5⟩
   obtain⟨m6,n6,_⟩:=I6.loc;have fC:H5 H2.objs.size=none:=by have:=I6.free; rw[eE] at this; exact this
   rw[eE] at n6;exact hR _ _ s6 H5 m6 I7 (I3.fpOk (zm8 _) fC) n6 q
  ·have d:=T.item X' eP eW eK eC i [] s5 σ5 H5 X'.xe I5 (stat fr5) tn5 go;rw[eA] at d;refine thn d fun r s6 hZz=>?_;obtain⟨u,hr,h6⟩:=hZz;subst hr;refine thn h6 fun _ s7 hZz=>?_;obtain⟨x,H7,I7,r7,y7,tn7,fr7⟩:=hZz;have I7':=I7.pinned (stat fr7) (T.obj _ _ tn7);have ag:=hg' _ s7 σ5 H7 x u _ I7' r7 (step x H7 y7);rw[eP,eW,eA,eE] at ag;refine thn ag fun _ s8 hZz=>?_;obtain⟨σ8,H8,I8,q8⟩:=hZz;have at':=ht' _ s8 σ8 H8 _ I8 q8;rw[eP,eW,eA,eE] at at';have again:∀{s9:Shared} {σ9:St} {H9:Hp} {ys9:List V},Inv X' ([]++pinsAt fp s7.heap) σ9 H9 s9->N ys9 σ9 H9->∃m,m<n/\∃i ys σ' H',Inv X' [] σ' H' s9/\tn i s9.heap/\(∀b∈fp,H' b=none)/\W i m ys σ' H':=fun {s9 σ9 H9 ys9} I9 n9=>by
    obtain⟨m',hm,w9⟩:=hN ys9 σ9 H9 n9;refine⟨m',hm,i+1,ys9,σ9,H9,I9.unpinned,T.keep _ _ _ tn7 fun b hb o e=>(I9.pin (b,o) (zm3 _ (zm3 _ (zAX hb e)))).1,fun b hb=>?_,w9⟩;obtain⟨o,e,dd⟩:=T.obj _ _ tn7 b hb;exact (I9.pin (b,o) (zm3 _ (zm3 _ (zAX hb e)))).2.1
   refine thn at' fun ok s9 hZz=>?_;obtain⟨H9,I9,q9⟩:=hZz;cases ok with
   | false=>
    rw[if_neg (by decide)] at q9 ⊢;exact again I9 q9
   | true=>
    rw[if_pos rfl] at q9 ⊢;have ae:=he' _ s9 σ8 H9 _ I9 q9;rw[eP,eW,eA,eE] at ae;refine thn ae fun y s10 hZz=>?_;obtain⟨v,H10,I10,r10,q10⟩:=hZz;obtain⟨ys',hy,hz,hn⟩:=q10;have aa:=zDS (X:=X') _ s10 σ8 H10 (.ref s.heap.objs.size) [v] (.ref s.heap.objs.size) [y] (fun _ H'=>N (ys'++[v]) σ8 H') I10 rfl (.cons r10 .nil) ⟨_,ys',v,rfl,rfl,hy,hz,hn⟩;rw[eP,eW,eA] at aa;exact thn aa fun _ s11 ⟨_,H11,I11,_,q11⟩=>again I11 q11
 exact codeAny_compStart_list (loop _ rfl) (T.self _ 0 _ _ _ (T.keep 0 _ _ t0 fun b _ o e=>old0 b o e) (loop _ rfl))
theorem zKz (hc:X.calm=true)(hS:compOk X.env.scope X.N N' caps scope=true)(hi:PI X tg iter wi)
  (hg:∀cl C s H fp,PG (cxComp X N' scope cl C s H fp fun _ _=>False) tg g)(ht:∀cl C s H fp,PTs (cxComp X N' scope cl C s H fp fun _ _=>False) ifs tt)(he:∀cl C s H fp,PE (cxComp X N' scope cl C s H fp fun _ _=>False) elt te)
  (hs:∀x,foldedSetIterable iter X.env x=pure x:=by intro _; rfl) :
  PE X (.ListComp elt [⟨tg,iter,ifs,0⟩] scope pos) (tComp wi caps g tt te):=by
 intro pins s σ H Q I h;have S:=CompS.of hS;obtain⟨cl,hcl,c1,c2⟩:=zBu (scope:=scope) (env:=X.env) fun y hy hyf=>I.ok.has y.1 (S.free y hy hyf);rw[eval_ListComp];refine wpAny_comprehension_free (use:=none) rfl hs hcl S.kind S.locs (thn (hi pins s σ H _ I h) fun v s1 h1=>thn h1 fun itv s2 h2=>?_);obtain⟨it,fp,tn,J,H2,rfl,I2,T,t0,f2,hw⟩:=h2;refine zCX (RR:=fun acc C=>compPost (model X.prog X.w) X.A X.xe none (EP X pins σ Q) acc C) hc S I2 c1 c2 T t0 f2 hg ht he hw ?_;intro l C s' H' m I' fC hn q;refine⟨m,hn,fun h' hs'=>?_⟩;obtain⟨f0,f1,f3,f4,f5,f6⟩:=fC;have I'':Inv X pins σ H' { s' with heap:=h' }:=I'.turned (t':=s'.toks) (it:=C) (fun b o hb e=>hs'.extBut b o hb e) f0 f1 f4 f5 f6;exact⟨.ref l,H',I'',rfl,q⟩
theorem zKs {i:Nat}{x:Str}{pos' spos:Pos}(hc:X.calm=true)(hS:compOk X.env.scope X.N N' caps scope=true)(hN:X.N.Nodup)(hx:X.N[i]? = some x)(hl:Loc X.env.scope x)(hi:PI X tg iter wi)
  (hg:∀cl C s H fp,PG (cxComp X N' scope cl C s H fp fun _ _=>False) tg g)(ht:∀cl C s H fp,PTs (cxComp X N' scope cl C s H fp fun _ _=>False) ifs tt)(he:∀cl C s H fp,PE (cxComp X N' scope cl C s H fp fun _ _=>False) elt te)
  (hsw:swapsWith (.ListComp elt [⟨tg,iter,ifs,0⟩] scope pos) (some (.Name x pos')) spos.line X.env=pure true)(hf:X.fn x=true\/X.env.scope.names.lookup x=some .local:=by first | exact .inl rfl | exact .inr rfl | assumption)
  (hs:∀x,foldedSetIterable iter X.env x=pure x:=by intro _; rfl) :
  PS X (.Assign [.Name x pos'] (.ListComp elt [⟨tg,iter,ifs,0⟩] scope pos) spos) (tAsg (tComp wi caps g tt te) (gName i)):=by
 intro pins s σ H D I h;have S:=CompS.of hS;obtain⟨cl,hcl,c1,c2⟩:=zBu (scope:=scope) (env:=X.env) fun y hy hyf=>I.ok.has y.1 (S.free y hy hyf);rw[exec_Assign_Name_used _ _ _ _ hsw];refine zn4 (wpAny_standAt (zn4 ?_));show wpAny _ X.A (do let _ <-comprehension (.ListComp elt [⟨tg,iter,ifs,0⟩] scope pos) scope X.env _ (newList []) false (eval iter X.env) (some (assign (.Name x pos') X.env))) _ _ s;refine zn4 (wpAny_mono (wpAny_comprehension_free (use:=some (assign (.Name x pos') X.env)) (Q:=fun _ s'=>SP X pins D .next s') rfl hs hcl S.kind S.locs
  (thn (hi pins s σ H _ I h) fun v s1 h1=>thn h1 fun itv s2 h2=>?_)) (fun _ s' hq=>zn5 (zn5 hq)) fun _ _ e=>e)
 obtain⟨it,fp,tn,J,H2,rfl,I2,T,t0,f2,hw⟩:=h2;refine zCX (RR:=fun acc C=>compPost (model X.prog X.w) X.A X.xe (some (assign (.Name x pos') X.env)) (fun _ s'=>SP X pins D .next s') acc C) hc S I2 c1 c2 T t0 f2 hg ht he hw ?_;intro l C s' H' m I' fC hn q;show wpAny _ X.A (assign (.Name x pos') X.env (.ref l)) _ _ s';have oC:=hn;obtain⟨o,es,ep,ho,hd,_⟩:=oC;have I1:Inv X (pins++pinsAt [C] s'.heap) σ H' s':=I'.pinned (fp:=[C]) (fun b hb=>by rw[List.mem_singleton.mp hb]; exact fC) fun b hb=>by
  rw[List.mem_singleton.mp hb];exact⟨o,ho,fun v z=>by rw[hd] at z; cases z⟩
 refine thn (zEA (i:=i) hN hx hl hf _ s' σ H' (.ref l) (.ref l) D.nx I1 rfl q) fun _ s2 hZz=>?_;obtain⟨σ2,H2',I2',q2⟩:=hZz;have hC2:s2.heap.get? C=some o:=(I2'.pin (C,o) (zm3 _ (zm3 _ (zAX (List.mem_singleton.mpr rfl) ho)))).1;have nC2:H2' C=none:=(I2'.pin (C,o) (zm3 _ (zm3 _ (zAX (List.mem_singleton.mpr rfl) ho)))).2.1;have hn2:s2.heap.Ns C m:=by
  obtain⟨o',es',ep',ho',r'⟩:=hn;rw[ho] at ho'; cases ho';exact⟨o,es',ep',hC2,r'⟩
 refine⟨m,hn2,fun h' hs'=>?_⟩;obtain⟨f0,f1,f3,f4,f5,f6⟩:=fC;have I'':Inv X pins σ2 H2' { s2 with heap:=h' }:=(I2'.unpinned).turned (t':=s2.toks) (it:=C) (fun b o hb e=>hs'.extBut b o hb e) nC2 f1 f4 f5 f6;exact⟨σ2,H2',I'',q2⟩
end
noncomputable def CXE (P:Program)(w:World):CXT:=fun outer H s E e s'=>∃(a T C:Addr) (fs:List (Str×V)) (H':Hp),e=.ref a/\s'.os=s.os/\AllBare s'.gens/\Un (frs outer) [] H H' s.heap s'.heap/\HOk P w H' s'.heap /\
 H' a=some (.exc C false fs)/\Fly s'.heap a T .none/\H' T=none/\s.heap.objs.size<=T/\E (.ref a) none H'
section
variable {X:Cx}{pins:List (Addr×Obj)}{σ:St}{H:Hp}{s:Shared}
theorem Inv.fsFree (I:Inv X pins σ H s):∀b∈X.fs,H b=none:=fun b hb=>by
 obtain⟨_,o,ho,_⟩:=I.ok.funs.mem hb;exact I.base.free b o ho (I.ok.frf b hb) fun z=>I.ok.exfs b z hb
theorem Inv.xstep {a C:Addr}{nw:Bool}{fs:List (Str×V)}{fr ch:List Addr}{h':Heap}(I:Inv X pins σ H s)(ha:H a=some (.exc C nw fs))(st:XStep fr a ch s.heap h')(hfr:∀b∈fr,b=X.env.locals\/b∈X.fs)
  (hch:∀b∈ch,H b=none/\X.s₀.heap.objs.size<=b/\b≠X.env.locals/\(∀x c,X.env.cells.lookup x=some c->c≠b)/\∀p∈X.pn++pins,p.1≠b) :
  Inv X pins σ (upd H a (.exc C false fs)) { s with heap:=h' }:=by
 have aN:∀b,H b=none->b≠a:=fun b n z=>by rw[z,ha] at n; cases n
 have frN:∀b∈fr,H b=none:=fun b hb=>by
  rcases hfr b hb with z | z
  ·rw[z]; exact I.free
  ·exact I.fsFree b z
 have tr:∀b o,H b=some o->b∉fr/\b∉ch:=fun b o e=>⟨(fun z=>by rw[frN b z] at e; cases e),(fun z=>by rw[(hch b z).1] at e; cases e)⟩
 have up:∀b o,H b=some o->b≠a->(upd H a (.exc C false fs)) b=some o:=fun b o e n=>by rw[zAm n]; exact e
 refine I.step (g':=s.gens) (d':=s.drawn) (t':=s.toks) (ch:=ch) (fun b hb=>⟨.inr (hch b hb).2.1,(hch b hb).2.2⟩) (fun b o n1 n2 n3 e n=>?_) (fun b o n1 n2 n3 e n=>?_) (fun b o _ _ n=>by rw[zAm (aN b n)]; exact n)
  (fun b o n3 e=>?_) (fun b xs e=>up b _ e fun z=>by rw[z,ha] at e; cases e) (fun b o u e=>up b _ e fun z=>by rw[z,ha] at e; cases e) (fun b ps e=>⟨#[],?_⟩) (fun m hm=>?_) (fun b o e=>?_) I.bare
 ·exact st.keep b o e (aN b n) (fun z=>(hfr b z).elim n1 n2) n3
 ·by_cases z:b∈fr
  ·exact st.slot b o e (aN b n) z n3
  ·exact⟨o.slots,st.keep b o e (aN b n) z n3⟩
 ·by_cases z:b=a
  ·subst z;obtain⟨_,o',vs,e',_,hd,_⟩:=I.hok b _ ha;obtain⟨vs',e2,_⟩:=st.exc o' vs e' hd;exact⟨_,e2⟩
  ·exact st.there b o e z
 ·rw[up b _ e fun z=>by rw[z,ha] at e; cases e]; simp
 ·obtain⟨o,es,ep,ho,r⟩:=hm;have n:=aN _ I.free;have nc:X.env.locals∉ch:=fun z=>(hch _ z).2.2.1 rfl;by_cases z:X.env.locals∈fr
  ·obtain⟨sl,e⟩:=st.slot _ o ho n z nc;exact⟨_,es,ep,e,r⟩
  ·exact⟨o,es,ep,st.keep _ o ho n z nc,r⟩
 ·by_cases hb:b=a
  ·subst hb;rw[zAi] at e;cases e;obtain⟨z,o',vs,e',c1,c2,c3,c4,q⟩:=I.hok b _ ha;obtain⟨vs',e2,sz,_⟩:=st.exc o' vs e' c2;refine⟨z,_,vs',e2,c1,rfl,sz.trans c3,(fun w=>nomatch w),?_⟩;rcases q with q | ⟨dx,d1,d2,d3,mA,⟨od,es,ep,e3,c⟩,r⟩
   ·exact .inl q
   ·exact .inr ⟨dx,d1,up dx _ d2 d3,d3,mA,⟨od,es,ep,st.keep dx od e3 d3 (tr dx _ d2).1 (tr dx _ d2).2,c⟩,r⟩
  ·rw[zAm hb] at e;refine (I.hok b o e).stay (fun c u hc q=>?_) (fun c q=>up c _ q fun z=>by rw[z,ha] at q; cases q) fun c xs q=>up c _ q fun z=>by rw[z,ha] at q; cases q
   rcases hc with z | z
   ·subst z;exact st.keep c u q hb (tr c _ e).1 (tr c _ e).2
   ·exact st.keep c u q (fun y=>by rw[y,ha] at z; cases z) (tr c _ z).1 (tr c _ z).2
theorem Inv.newAt (I:Inv X pins σ H s){b:Addr}(hb:s.heap.objs.size<=b):H b=none/\X.s₀.heap.objs.size<=b/\b≠X.env.locals/\(∀x c,X.env.cells.lookup x=some c->c≠b)/\∀p∈X.pn++pins,p.1≠b:=by
 obtain⟨f0,f1,f2,f3,f4,f5⟩:=I.fpOk hb (I.hok.fresh hb);exact⟨f0,zm9 I.sz hb,f1,f4,f5⟩
theorem Inv.sinceAt {σ':St}{H':Hp}{s':Shared}(I:Inv X pins σ H s)(I':Inv X pins σ' H' s'){b:Addr}(hb:s.heap.objs.size<=b)(hn:H' b=none):H' b=none/\X.s₀.heap.objs.size<=b/\b≠X.env.locals/\(∀x c,X.env.cells.lookup x=some c->c≠b)/\∀p∈X.pn++pins,p.1≠b:=by
 obtain⟨f0,f1,f2,f3,f4⟩:=I.newAt hb;exact⟨hn,f1,f2,f3,f4⟩
end
theorem passN {P:Program}{w:World}{X:Cx}:Passes (CXE P w) X (fun _ _ _ _=>False):=fun _ _ _ _ _ _ _ h=>by
 obtain⟨_,_,_,_,_,_,_,_,_,_,_,_,_,_,z⟩:=h;exact z.elim
section
variable {P:Program}{w:World}{K:zFg}{mg:Str->Option Value}{base:Heap}{N:List Str}{qual:Str}{scope:Scope}{f:Addr}{cd:Value}{A:Around}{outer:List Env}{s:Shared}{H:Hp}{E:XK}
theorem passF:Passes (CXE P w) (cxOf (CXE P w) P w K mg base N qual scope f cd A outer s H E) (fun _=>E):=by
 intro pins σ H1 s1 e s' I1 hcx;obtain⟨a,T,C,fs,H2,rfl,os,bare,un,hok,ha,fly,nT,lT,q⟩:=hcx;have I2:=I1.call' (ch:=[]) os un hok bare fun b z=>absurd z (by simp);show wpAny _ _ (leaving _ (.ref a)) _ _ s';refine zFA (base:=base) I2.ok.frames I2.stack rfl fly fun h' F' st=>?_;have I3:=I2.xstep ha st (fun b hb=>zp1 (I2.stkSub b hb)) fun b hb=>by
  rcases zp1 hb with z | z
  ·rw[z]; exact I1.sinceAt I2 lT nT
  ·rw[List.mem_singleton.mp z]; exact I2.newAt (zm8 _)
 have e:upd H2 a (.exc C false fs)=H2:=by
  funext b
  by_cases z:b=a
  ·subst z; rw[zAi,ha]
  ·rw[zAm z]
 rw[e] at I3;exact⟨a,_,C,fs,H2,rfl,I3.os,I3.bare,I3.base,I3.hok,ha,F',(I2.newAt (zm8 _)).1,zm9 I1.sz (zm9 (Nat.le_of_lt_succ (Nat.lt_succ_of_le (by
  have:=I2.sz;have h1:s1.heap.objs.size<=s'.heap.objs.size:=by
   obtain⟨m,hn,_⟩:=I1.loc;exact zm9 lT (Nat.le_of_lt (by obtain⟨⟨_,_,_,_,_,_,_,z,_⟩,_⟩:=fly; exact zm7 z))
  exact h1))) (zm8 _)),q⟩
end
section
variable {X:Cx}{e:Expr}{te:TE}{pos:Pos}{E:St->XK}
end
section
variable {X:Cx}{k:Nat}{f C W:Addr}{tl:List Addr}{fd:FuncData}{ps:List Str}{sp:Sp}{dvs:List V}{ds:List Value}{E:St->XK}{x m:Str}{p pos apos:Pos}{e o:Expr}{es:List Expr}{ta tv:TE}{t:TA}
end
section
variable {X:Cx}{pins:List (Addr×Obj)}{σ:St}{H:Hp}{s:Shared}
end
section
variable {X:Cx}{W:Addr}{tlW:List Addr}{i:Nat}{n cls:Str}{np hpos pos:Pos}{body suite:List Stmt}{b₀:Stmt}{tb:(St->XK)->TS}{ts:TS}
end
end L2
end
section
namespace L2
open PySem PySem.W Builtin Builtin.ObjectAttr
section
variable {prog:Program}{w:World}{A:Around}{E:Value->Shared->Prop}{s:Shared}{K:Frag}{C x:Addr}{fI:Value}{tl:List Addr}{mA:Str->Option Value}
end
section
variable {K:Frag}{C x:Addr}{fI:Value}{tl:List Addr}
end
end L2
namespace L2
open PySem PySem.Spec PyProof.Rows
section
variable {X:Cx}
noncomputable def valOf:V->Option Value
 | .ref a=>some (.ref a)
 | .ty n=>some (.type n)
 | _=>none
end
end L2
end
section
namespace L2
open PySem PySem.Spec PyProof.Rows
section
variable {X:Cx}{pins:List (Addr×Obj)}{σ:St}{H:Hp}{s:Shared}{h':Heap}
theorem Inv.turnedL {t':Nat}{fp:List Addr}(I:Inv X pins σ H s)(hf:∀b∈fp,FpOk X pins H b)(k:∀b o,b∉fp->s.heap.get? b=some o->h'.get? b=some o):Inv X pins σ H { s with heap:=h',toks:=t' }:=by
 have nf:∀b u,H b=some u->b∉fp:=fun b u e z=>by rw[(hf b z).1] at e; cases e
 refine I.step (g':=s.gens) (d':=s.drawn) (ch:=fp) (fun b hb=>⟨(hf b hb).2.2.2.1,(hf b hb).2.1,(hf b hb).2.2.2.2⟩) (fun b o _ _ hc e _=>k b o hc e) (fun b o _ _ hc e _=>⟨o.slots,k b o hc e⟩) (fun _ _ _ _ n=>n)
  (fun b o hc e=>⟨o,k b o hc e⟩) (fun _ _ e=>e) (fun _ _ _ e=>e) (fun b ps e=>⟨#[],by rw[e]; simp⟩) (fun m hm=>?_) (fun b u e=>?_) I.bare
 ·obtain⟨o,es,ep,ho,r⟩:=hm;exact⟨o,es,ep,k _ o (fun z=>(hf _ z).2.1 rfl) ho,r⟩
 ·refine (I.hok b u e).stay (fun c v hc q=>k c v ?_ q) (fun _ q=>q) fun _ _ q=>q;rcases hc with z | z
  ·rw[z]; exact nf b u e
  ·exact nf c _ z
theorem Inv.turnedN {t':Nat}{fp:List Addr}{a:Addr}{o:HO}(I:Inv X pins σ H s)(hf:∀b∈fp,FpOk X pins H b)(k:∀b o,b∉fp->s.heap.get? b=some o->h'.get? b=some o)(hp:s.heap.objs.size<=a)(new:ObjOk X.prog X.w (upd H a o) h' a o) :
  Inv X pins σ (upd H a o) { s with heap:=h',toks:=t' }:=by
 have ha:H a=none:=I.hok.fresh hp;have na:∀b o,s.heap.get? b=some o->b≠a:=fun b o e=>zn2 (zn1 (zm7 e) hp);have nt:∀b u,H b=some u->b≠a:=fun b u e z=>by rw[z,ha] at e; cases e
 have nf:∀b u,H b=some u->b∉fp:=fun b u e z=>by rw[(hf b z).1] at e; cases e
 refine I.step (g':=s.gens) (d':=s.drawn) (ch:=fp) (fun b hb=>⟨(hf b hb).2.2.2.1,(hf b hb).2.1,(hf b hb).2.2.2.2⟩) (fun b o _ _ hc e _=>k b o hc e) (fun b o _ _ hc e _=>⟨o.slots,k b o hc e⟩) (fun b o _ e n=>by rw[zAm (na b o e)]; exact n)
  (fun b o hc e=>⟨o,k b o hc e⟩) (fun b _ e=>by rw[zAm (nt b _ e)]; exact e) (fun b _ _ e=>by rw[zAm (nt b _ e)]; exact e) (fun b ps e=>⟨#[],by rw[zAm (nt b _ e),e]; simp⟩) (fun m hm=>?_) (fun b u e=>?_) I.bare
 ·obtain⟨o,es,ep,ho,r⟩:=hm;exact⟨o,es,ep,k _ o (fun z=>(hf _ z).2.1 rfl) ho,r⟩
 ·by_cases z:b=a
  ·subst z; rw[zAi] at e; cases e; exact new
  ·rw[zAm z] at e;refine (I.hok b u e).stay (fun c v hc q=>k c v ?_ q) (fun c q=>by rw[zAm (nt c _ q)]; exact q) fun c _ q=>by rw[zAm (nt c _ q)]; exact q
   rcases hc with z | z
   ·rw[z]; exact nf b u e
   ·exact nf c _ z
end
noncomputable def Itz (K:zFg)(a b:Addr):It:=
 ⟨fun i H=>∃xs ys x y,SqL K H a xs/\SqL K H b ys/\xs[i]? = some x/\ys[i]? = some y,fun i H v H'=>∃x y p,v=.ref p/\H p=none/\H'=upd H p (.tup [x,y])/\(∀xs,SqL K H a xs->xs[i]? = some x)/\∀ys,SqL K H b ys->ys[i]? = some y,
  fun i H=>∃xs ys,SqL K H a xs/\SqL K H b ys/\(xs.length<=i\/ys.length<=i)⟩
theorem zFR {h:Heap}{a b:Addr}{o u:Obj}(A B:String)(ha:h.get? a=some o)(hb:h.get? b=some u)(hA:o.cls=.type A)(hB:u.cls=.type B)(n:A≠B):a≠b:=fun z=>by
 subst z; rw[ha] at hb; cases hb; rw[hA] at hB; cases hB; exact n rfl
def ZipTn (z TI TO i1 i2 l1 l2:Addr)(i:Nat)(h:Heap):Prop:=IsZip h z TI TO .none/\IsPair h TI (.ref i1) (.ref i2)/\(∃a b,IsPair h TO a b)/\h.IsListIter i1 l1 i/\h.IsListIter i2 l2 i
theorem zDC {h:Heap}{z TI TO i1 i2 l1 l2:Addr}{i:Nat}{xs ys:Array Value}(t:ZipTn z TI TO i1 i2 l1 l2 i h)(h1:h.IsList l1 xs)(h2:h.IsList l2 ys)(n1:TI≠TO)(n2:i1≠i2):ZipApart z TI TO i1 i2 l1 l2:=by
 obtain⟨tz,tI,⟨a,b,tO⟩,⟨o1,e1,c1,_⟩,⟨o2,e2,c2,_⟩⟩:=t;obtain⟨u1,f1,d1,_⟩:=h1;obtain⟨u2,f2,d2,_⟩:=h2;have d:∀{a b:Addr} {o u:Obj} (A B:String),h.get? a=some o->h.get? b=some u->o.cls=.type A->u.cls=.type B->(A == B)=false->a≠b:=fun A B x y hA hB n=>zFR A B x y hA hB (by simpa using n);exact⟨d "tuple" "zip" tI tz rfl rfl rfl,d "tuple" "zip" tO tz rfl rfl rfl,d "list_iterator" "zip" e1 tz c1 rfl rfl,d "list_iterator" "zip" e2 tz c2 rfl rfl,n1,d "tuple" "list_iterator" tI e1 rfl c1 rfl,d "tuple" "list_iterator" tI e2 rfl c2 rfl,
  d "tuple" "list_iterator" tO e1 rfl c1 rfl,d "tuple" "list_iterator" tO e2 rfl c2 rfl,n2,d "list" "zip" f1 tz d1 rfl rfl,d "list" "tuple" f1 tO d1 rfl rfl,d "list" "list_iterator" f1 e1 d1 c1 rfl,d "list" "list_iterator" f1 e2 d1 c2 rfl,
  d "list" "zip" f2 tz d2 rfl rfl,d "list" "tuple" f2 tO d2 rfl rfl,d "list" "list_iterator" f2 e1 d2 c1 rfl,d "list" "list_iterator" f2 e2 d2 c2 rfl⟩
theorem zHN {P:Program}{w:World}{K:zFg}{es:List Expr}{k1:Nat}{ps:Pos}(l1 l2 z TI TO i1 i2:Addr)(n1:TI≠TO)(n2:i1≠i2):Turn P w K (.Tuple es k1 ps) (Itz K l1 l2) [z,TI,TO,i1,i2] z (ZipTn z TI TO i1 i2 l1 l2) where
 mem:=by simp
 obj:=fun i h t b hb=>by
  obtain⟨tz,tI,⟨a,c,tO⟩,⟨o1,e1,_,d1⟩,⟨o2,e2,_,d2⟩⟩:=t;simp only[List.mem_cons,List.not_mem_nil,or_false] at hb;rcases hb with rfl | rfl | rfl | rfl | rfl
  ·exact⟨_,tz,(fun v q=>nomatch q)⟩
  ·exact⟨_,tI,(fun v q=>nomatch q)⟩
  ·exact⟨_,tO,(fun v q=>nomatch q)⟩
  ·exact⟨o1,e1,fun v q=>by rw[d1] at q; cases q⟩
  ·exact⟨o2,e2,fun v q=>by rw[d2] at q; cases q⟩
 keep:=fun i h h' t k=>by
  obtain⟨tz,tI,⟨a,c,tO⟩,t1,t2⟩:=t;exact⟨k z (by simp) _ tz,k TI (by simp) _ tI,⟨a,c,k TO (by simp) _ tO⟩,t1.at fun o e=>k i1 (by simp) o e,t2.at fun o e=>k i2 (by simp) o e⟩
 item:=by
  intro X hP hw hK hc i pins s σ H E I hf st hg;subst hP hw hK;obtain⟨xs,ys,x,y,hx,hy,ex,ey⟩:=hg;obtain⟨its,rv,p,hz⟩:=I.list hx;obtain⟨its2,rv2,p2,hz2⟩:=I.list hy;obtain⟨u,hu,ru⟩:=rv.get ex;obtain⟨u2,hu2,ru2⟩:=rv2.get ey;have D:=zDC st p.isList p2.isList n1 n2;obtain⟨tz,tI,⟨a,c,tO⟩,t1,t2⟩:=st;refine wpAny_pyNext_zip_item D tz tI tO t1 t2 p.isList p2.isList (x:=u) (y:=u2) (by simpa using hu) (by simpa using hu2) fun h' z1 z2 z3 z4 z5 z6 z7=>⟨_,rfl,?_⟩
  refine wpAny_letOwnedTupleGo_zip (s:={ s with heap:=h' }) z1 fun h2 z1' sb=>?_;have kk:∀b o,b∉[z,TI,TO,i1,i2]->s.heap.get? b=some o->h2.get? b=some o:=fun b o nb e=>by
   simp only[List.mem_cons,List.not_mem_nil,or_false,not_or] at nb;obtain⟨m1,m2,m3,m4,m5⟩:=nb;exact (sb.2 b m1).trans (z7 b o m1 m3 m4 m5 e)
  have lz:z<s.heap.objs.size:=zm7 tz;have gT:h2.get? s.heap.objs.size=some { cls:=.type "tuple",data:=.seq #[u,u2] }:=(sb.2 _ (Nat.ne_of_gt lz)).trans z5;have up:∀b o,b≠z->h'.get? b=some o->h2.get? b=some o:=fun b o nb e=>(sb.2 b nb).trans e;refine⟨.ref s.heap.objs.size,upd H s.heap.objs.size (.tup [x,y]),I.turnedN (t':=s.toks) hf kk (zm8 _) ⟨by show 2<=sizeLine; decide,[u,u2],.cons ru (.cons ru2 .nil),_,gT,rfl,⟨_,rfl⟩,rfl⟩,rfl,
   ⟨x,y,_,rfl,I.hok.fresh (zm8 _),rfl,fun zs hq=>by rw[I.list_inj hq hx]; exact ex,fun zs hq=>by rw[I.list_inj hq hy]; exact ey⟩,
   ⟨z1',up _ _ D.TIz (z7 TI _ D.TIz D.TITO D.TIi1 D.TIi2 tI),⟨u,u2,up _ _ D.TOz z2⟩,z3.at fun o e=>up _ _ D.i1z e,z4.at fun o e=>up _ _ D.i2z e⟩,fun b hb=>?_⟩
  obtain⟨o,e,_⟩:∃o,s.heap.get? b=some o/\True:=by
   simp only[List.mem_cons,List.not_mem_nil,or_false] at hb;obtain⟨o1,e1,_,d1⟩:=t1;obtain⟨o2,e2,_,d2⟩:=t2;rcases hb with rfl | rfl | rfl | rfl | rfl
   ·exact⟨_,tz,trivial⟩
   ·exact⟨_,tI,trivial⟩
   ·exact⟨_,tO,trivial⟩
   ·exact⟨o1,e1,trivial⟩
   ·exact⟨o2,e2,trivial⟩
  rw[zAm (Nat.ne_of_lt (Heap.lt_size e))];exact (hf b hb).1
 done:=by
  intro X hP hw hK hc i pins s σ H E I hf st hg;subst hP hw hK;obtain⟨xs,ys,hx,hy,hend⟩:=hg;obtain⟨its,rv,p,hz⟩:=I.list hx;obtain⟨its2,rv2,p2,hz2⟩:=I.list hy;have D:=zDC st p.isList p2.isList n1 n2;obtain⟨tz,tI,⟨a,c,tO⟩,t1,t2⟩:=st;have l1:=rv.length;have l2:=rv2.length;refine wpAny_pyNext_zip_end (I.ok.hd hc) D tz tI tO t1 t2 p.isList p2.isList (hend.elim (fun q=>.inl (by simp; omega)) fun q=>.inr (by simp; omega)) fun h' kp=>⟨rfl,I.turnedL (t':=s.toks) hf fun b o nb e=>?_⟩
  simp only[List.mem_cons,List.not_mem_nil,or_false,not_or] at nb;obtain⟨m1,m2,m3,m4,m5⟩:=nb;exact kp b o m1 m3 m4 m5 e
 self:=fun _ _ _ _ _ st h=>wpAny_pyIter_zip st.1 h
noncomputable def Ite (K:zFg)(a:Addr):It:=
 ⟨fun i H=>∃xs x,SqL K H a xs/\xs[i]? = some x,fun i H v H'=>∃x p,v=.ref p/\H p=none/\H'=upd H p (.tup [.int i,x])/\∀xs,SqL K H a xs->xs[i]? = some x,fun i H=>∃xs,SqL K H a xs/\xs.length<=i⟩
def EnumTn (e it l:Addr)(i:Nat)(h:Heap):Prop:=(∃old,IsEnum h e it i old)/\h.IsListIter it l i
theorem zGc {P:Program}{w:World}{K:zFg}{es:List Expr}{k1:Nat}{ps:Pos}(l e it:Addr):Turn P w K (.Tuple es k1 ps) (Ite K l) [e,it] e (EnumTn e it l) where
 mem:=by simp
 obj:=fun i h t b hb=>by
  obtain⟨⟨old,te⟩,⟨o1,e1,_,d1⟩⟩:=t;simp only[List.mem_cons,List.not_mem_nil,or_false] at hb;rcases hb with rfl | rfl
  ·exact⟨_,te,(fun v q=>nomatch q)⟩
  ·exact⟨o1,e1,fun v q=>by rw[d1] at q; cases q⟩
 keep:=fun i h h' t k=>by
  obtain⟨⟨old,te⟩,t1⟩:=t;exact⟨⟨old,k e (by simp) _ te⟩,t1.at fun o q=>k it (by simp) o q⟩
 item:=by
  intro X hP hw hK hc i pins s σ H E I hf st hg;subst hP hw hK;obtain⟨xs,x,hx,ex⟩:=hg;obtain⟨its,rv,p,hz⟩:=I.list hx;obtain⟨u,hu,ru⟩:=rv.get ex;obtain⟨⟨old,te⟩,t1⟩:=st;have ne:e≠it:=by
   obtain⟨o1,e1,c1,_⟩:=t1;exact zFR "enumerate" "list_iterator" te e1 rfl c1 (by decide)
  refine wpAny_pyNext_enum_item te t1 p.isList (x:=u) (by simpa using hu) ne fun h' z1 z2 z3 z4 z5=>⟨_,rfl,?_⟩
  refine wpAny_letOwnedTupleGo_enum (s:={ s with heap:=h',toks:=s.toks+1 }) z1 fun h2 z1' sb=>?_;have kk:∀b o,b∉[e,it]->s.heap.get? b=some o->h2.get? b=some o:=fun b o nb q=>by
   simp only[List.mem_cons,List.not_mem_nil,or_false,not_or] at nb;exact (sb.2 b nb.1).trans (z5 b o nb.1 nb.2 q)
  have le:e<s.heap.objs.size:=zm7 te;have gT:h2.get? s.heap.objs.size=some { cls:=.type "tuple",data:=.seq #[.int i s.toks,u] }:=(sb.2 _ (Nat.ne_of_gt le)).trans z3;refine⟨.ref s.heap.objs.size,upd H s.heap.objs.size (.tup [.int i,x]),I.turnedN (t':=s.toks+1) hf kk (zm8 _) ⟨by show 2<=sizeLine; decide,[.int i s.toks,u],.cons ⟨_,rfl⟩ (.cons ru .nil),_,gT,rfl,⟨_,rfl⟩,rfl⟩,rfl,
   ⟨x,_,rfl,I.hok.fresh (zm8 _),rfl,fun zs hq=>by rw[I.list_inj hq hx]; exact ex⟩,⟨⟨u,by simpa using z1'⟩,z2.at fun o q=>(sb.2 it (Ne.symm ne)).trans q⟩,fun b hb=>?_⟩
  obtain⟨o,q,_⟩:∃o,s.heap.get? b=some o/\True:=by
   simp only[List.mem_cons,List.not_mem_nil,or_false] at hb;obtain⟨o1,e1,_,d1⟩:=t1;rcases hb with rfl | rfl
   ·exact⟨_,te,trivial⟩
   ·exact⟨o1,e1,trivial⟩
  rw[zAm (Nat.ne_of_lt (Heap.lt_size q))];exact (hf b hb).1
 done:=by
  intro X hP hw hK hc i pins s σ H E I hf st hg;subst hP hw hK;obtain⟨xs,hx,hend⟩:=hg;obtain⟨its,rv,p,hz⟩:=I.list hx;obtain⟨⟨old,te⟩,t1⟩:=st;have l1:=rv.length;refine wpAny_pyNext_enum_end (I.ok.hd hc) te t1 p.isList (by simp; omega) fun h' kp=>⟨rfl,I.turnedL (t':=s.toks) hf fun b o nb q=>?_⟩
  simp only[List.mem_cons,List.not_mem_nil,or_false,not_or] at nb;exact kp b o nb.2 q
 self:=fun _ _ _ _ _ st h=>by
  obtain⟨⟨old,te⟩,_⟩:=st;exact wpAny_pyIter_enum te h
section
variable {X:Cx}{es:List Expr}{k1:Nat}{tp:Pos}
def iZip (K:zFg)(ta:TA):TI:=fun σ H R=>ta σ H fun vs H1=>∃a b xs ys,vs=[.ref a,.ref b]/\SqL K H1 a xs/\SqL K H1 b ys/\R (Itz K a b) H1
theorem zMo {a b:Expr}{ta:TA}{p pos:Pos}(hg:Gl X "zip")(hm:X.mg "zip" = none)(hv:bootBuiltins "zip" = some (.type "zip"))(ha:PA X [a,b] ta)(hs:starEach [a,b] X.env=[(false,eval a X.env),(false,eval b X.env)]:=by rfl)(hs2:starEach [b] X.env=[(false,eval b X.env)]:=by rfl) :
  PI X (.Tuple es k1 tp) (.Call (.Name "zip" p) [a,b] [] pos) (iZip X.K ta):=by
 intro pins s σ H R I h;refine Call_ (zBR I hg hm hv (PyProof.Rows.callWith_type1 (thn (ha pos pins s σ H _ I h) fun us s1 hZz=>?_) (by rw[hs,hs2]) (by rw[hs2]; rfl)));obtain⟨vs,H1,I1,r1,q1⟩:=hZz;obtain⟨l1,l2,xs,ys,rfl,hx,hy,q⟩:=q1;obtain⟨u,v,rfl,ru,rv⟩:=vals2 r1;cases ru;cases rv;obtain⟨its,rx,px,hzx⟩:=I1.list hx;obtain⟨its2,ry,py,hzy⟩:=I1.list hy;refine call_zip_2 px.isList py.isList fun h' z1 z2 z3 z4 z5 z6 z7=>?_;refine wpAny_pyIter_zip (s:={ s1 with heap:=h' }) z1 ⟨_,_,_,_,H1,rfl,I1.kept (t':=s1.toks) z7,zHN l1 l2 (s1.heap.objs.size+4) (s1.heap.objs.size+2) (s1.heap.objs.size+3) s1.heap.objs.size (s1.heap.objs.size+1) (zn2 (Nat.lt_succ_self _)) (zn2 (Nat.lt_succ_self _)),⟨z1,z2,⟨_,_,z3⟩,z4,z5⟩,fun b hb=>?_,q⟩;have lb:s1.heap.objs.size<=b:=by
  simp only[List.mem_cons,List.not_mem_nil,or_false] at hb;rcases hb with rfl | rfl | rfl | rfl | rfl <;> omega
 exact I1.fpOk lb (I1.hok.fresh lb)
end
end L2
end
section
namespace St
open PySem PyProof.Rows
noncomputable def subs:Nat->List (List Nat)
 | 0=>[[]]
 | n+1=>subs n++(subs n).map (·++[n])
noncomputable def ins (l:List Nat)(k:Nat):List Nat:=l.filter (fun x=>Nat.blt x k)++k::l.filter (fun x=>Nat.blt k x)
noncomputable def b1 (l:List Nat)(k:Nat):Bool:=l.contains k||((!SetTable.has l.toArray k)&&(SetTable.below l.toArray k == (l.filter (fun x=>Nat.blt x k)).length)&&(l.take (l.filter (fun x=>Nat.blt x k)).length++k::l.drop (l.filter (fun x=>Nat.blt x k)).length == ins l k)&&(subs 6).contains (ins l k))
theorem zNA:((subs 6).all fun l=>(List.range 6).all fun k=>b1 l k)=true:=by decide +kernel
noncomputable def hs (l:List Nat):Array Int:=(l.map Int.ofNat).toArray
noncomputable def b2 (m:Nat)(l:List Nat):Bool:=((SetTable.layClean m (hs l)).map fun owner=>(List.range (m+1)).filterMap fun j=>(owner.getD j none).map (j,·)) == some (l.zip (List.range l.length))
noncomputable def gm (l:List Nat):Nat:=SetTable.sizeAbove (SetTable.grown l.length) - 1
noncomputable def b2a (l:List Nat):Bool:=b2 (gm l) l&&(Nat.blt 4 l.length||b2 7 l)&&b2 15 l&&(gm l == 7&&Nat.ble l.length 4||gm l == 15||gm l == 31)
theorem zNz:((subs 6).all b2a)=true:=by decide +kernel
noncomputable def b3 (l:List Nat):Bool:=(List.range (l.length+1)).all fun i=>SetTable.below l.toArray (if i=0 then 0 else l.getD (i - 1) 0+1) == i
theorem zJP:((subs 6).all b3)=true:=by decide +kernel
noncomputable def b4 (l:List Nat):Bool:=decide (l.length<=6)&&l.all (fun x=>Nat.blt x 6)&&decide (l.Pairwise (· < ·))
theorem zNy:((subs 6).all b4)=true:=by decide +kernel
noncomputable def b5 (l:List Nat):Bool:=((List.range 6).filter l.contains == l)&&(List.range 6).all fun k=>(subs 6).contains (l.filter (· != k))
theorem zNx {m k:Nat}(hm:m=7\/m=15\/m=31)(hk:k<6):SetTable.bits (Int.ofNat k) % (m+1)=k:=by
 have:∀m∈[7,15,31],∀k∈List.range 6,SetTable.bits (Int.ofNat k) % (m+1)=k:=by decide +kernel
 exact this m (by simpa using hm) k (List.mem_range.mpr hk)
theorem zLe {t:SetTable}{k:Nat}(hm:t.mask=7\/t.mask=15\/t.mask=31)(hk:k<6)(h1:SetTable.has t.place k=false)(h2:SetTable.has t.dummies k=false):t.freeSlot (Int.ofNat k)=some (k,false):=by
 have hs:t.slot k=.empty:=by
  show (if SetTable.has t.place k=true then _ else if SetTable.has t.dummies k=true then _ else _)=_;rw[h1,h2];rfl
 obtain⟨n,hn⟩:∃n,10 * SetTable.turns t.mask=n+1:=⟨10 * t.mask+149,by unfold SetTable.turns; omega⟩
 have e:(t.probeStart (Int.ofNat k)).j=k:=zNx hm hk;unfold SetTable.freeSlot SetTable.probe;rw[hn];unfold SetTable.probe.go;rw[e,hs];rfl
structure TG (b:Bool)(l D:List Nat)(t:SetTable):Prop where
 mem:l∈subs 6
 place:t.place=l.toArray
 dum:∃ds,ds∈subs 6/\t.dummies=ds.toArray/\∀x∈ds,x∈D
 mask:t.mask=7/\t.fill<=4\/t.mask=15\/t.mask=31
 led:t.led=b
 plain:t.plain=true
def SG (b:Bool)(h:Heap)(a:Addr)(l D:List Nat):Prop:=∃es ep t,h.get? a=some { cls:=.type "set",dict:=none,data:=.set es ep t }/\es.toList.map (·.1)=l.map Int.ofNat/\(∀e∈es.toList,∃tk,e.2=.int e.1 tk)/\TG b l D t
theorem mem_b4 {l:List Nat}(h:l∈subs 6):l.length<=6/\(∀x∈l,x<6)/\l.Pairwise (· < ·):=by
 have:=zp7 zNy l h;simp only[b4,Bool.and_eq_true,decide_eq_true_eq,List.all_eq_true] at this;exact⟨this.1.1,fun x hx=>Nat.le_of_ble_eq_true (this.1.2 x hx),this.2⟩
theorem zCS {k:Nat}(h:k<6):hashInt (Int.ofNat k)=Int.ofNat k:=by
 have:∀j∈List.range 6,hashInt (Int.ofNat j)=Int.ofNat j:=by decide +kernel
 exact this k (List.mem_range.mpr h)
theorem TG.size {b:Bool}{l D:List Nat}{t:SetTable}(h:TG b l D t):t.place.size=l.length:=by rw[h.place]; simp
theorem TG.fill {b:Bool}{l D:List Nat}{t:SetTable}(h:TG b l D t):t.fill<=l.length+6:=by
 obtain⟨ds,d1,d2,_⟩:=h.dum;have:=(mem_b4 d1).1;rw[SetTable.fill,h.size,d2,List.size_toArray];omega
theorem TG.fits {b:Bool}{l D:List Nat}{t:SetTable}{n:Nat}(h:TG b l D t)(hn:n=l.length):t.fits n=true:=by
 have h6:=(mem_b4 h.mem).1;have hf:=h.fill;simp only[SetTable.fits,h.size,Bool.and_eq_true,beq_iff_eq,decide_eq_true_eq];refine⟨hn.symm,?_⟩;rcases h.mask with ⟨e,q⟩ | e | e <;> omega
theorem TG.mask3 {b:Bool}{l D:List Nat}{t:SetTable}(h:TG b l D t):t.mask=7\/t.mask=15\/t.mask=31:=h.mask.imp And.left id
theorem elems {prog:Program}{w:World}{es:Array (Int×Value)}{l:List Nat}(hm:l∈subs 6)(h1:es.toList.map (·.1)=l.map Int.ofNat)(h2:∀e∈es.toList,∃tk,e.2=.int e.1 tk):ElemsOf (intKind prog w) es.toList:=by
 intro e he;obtain⟨tk,et⟩:=h2 e he;have:e.1∈l.map Int.ofNat:=by rw[<-h1]; exact List.mem_map_of_mem he
 obtain⟨k,hk,ek⟩:=zp8 this;refine⟨⟨e.1,by rw[et]; exact intKind_is _ _ _ _,?_⟩,by rw[et]; rfl⟩;show e.1=hashInt e.1;rw[<-ek,zCS ((mem_b4 hm).2.1 k hk)]
theorem zA9 {es:Array (Int×Value)}{l:List Nat}(h1:es.toList.map (·.1)=l.map Int.ofNat):es.size=l.length:=by
 have:=congrArg List.length h1;simpa using this
theorem ins_of {l:List Nat}{k:Nat}(hm:l∈subs 6)(hk:k<6)(hn:k∉l):SetTable.has l.toArray k=false/\SetTable.insertAt l.toArray (SetTable.below l.toArray k) k=(ins l k).toArray/\SetTable.below l.toArray k=(l.filter (fun x=>Nat.blt x k)).length/\l.take (l.filter (fun x=>Nat.blt x k)).length++k::l.drop (l.filter (fun x=>Nat.blt x k)).length=ins l k/\ins l k∈subs 6/\(ins l k).length=l.length+1:=by
 have q:b1 l k=true:=zp7 (zp7 zNA l hm) k (List.mem_range.mpr hk);have hc:l.contains k=false:=by simpa using hn
 simp only[b1,hc,Bool.false_or,Bool.and_eq_true,beq_iff_eq,List.contains_iff_mem,Bool.not_eq_true'] at q;obtain⟨⟨⟨q1,q2⟩,q3⟩,q4⟩:=q;refine⟨q1,?_,q2,q3,q4,?_⟩
 ·rw[q2];apply Array.toList_inj.mp;rw[SetTable.toList_insertAt];simpa using q3
 ·rw[<-q3,List.length_append,List.length_cons,List.length_take,List.length_drop];have:(l.filter (fun x=>Nat.blt x k)).length<=l.length:=List.length_filter_le _ _;omega
theorem zMK {b:Bool}{l D:List Nat}{t:SetTable}{es:Array (Int×Value)}{k:Nat}{x:Value}(h:TG b l D t)(h1:es.toList.map (·.1)=l.map Int.ofNat)(hk:k<6)(hn:k∉l)(hD:k∉D) :
  ∃es' t',layNew t es (Int.ofNat k) x=(es',t',false,false)/\es'.toList.map (·.1)=(ins l k).map Int.ofNat/\(∀e∈es'.toList,e∈es.toList\/e=(Int.ofNat k,x))/\t'.mask=t.mask/\t'.place=(ins l k).toArray/\t'.dummies=t.dummies/\t'.led=b/\t'.plain=true/\t'.fill=t.fill+1/\ins l k∈subs 6:=by
 obtain⟨q1,hp,q2,q3,q4,hlen⟩:=ins_of h.mem hk hn;obtain⟨ds,d1,d2,d3⟩:=h.dum;have hnod:SetTable.has t.dummies k=false:=by rw[d2]; exact (ins_of d1 hk fun e=>hD (d3 k e)).1
 have hnop:SetTable.has t.place k=false:=by rw[h.place]; exact q1
 have f1:t.freeSlot (Int.ofNat k)=some (k,false):=zLe h.mask3 hk hnop hnod;rw[<-h.place] at hp q2;have hf:=h.fill;have h6:=(mem_b4 h.mem).1;have hfl:({ t with place:=(ins l k).toArray,dummies:=t.dummies }:SetTable).fill=t.fill+1:=by
  simp only[SetTable.fill,h.size,List.size_toArray,hlen];omega
 have hfit:({ t with place:=(ins l k).toArray,dummies:=t.dummies }:SetTable).fits (l.length+1)=true:=by
  simp only[SetTable.fits,hfl,Bool.and_eq_true,beq_iff_eq,decide_eq_true_eq,List.size_toArray,hlen];refine⟨trivial,?_⟩;rcases h.mask with ⟨e,q⟩ | e | e <;> omega
 have hes:(SetTable.insertAt es (SetTable.below t.place k) (Int.ofNat k,x)).size=l.length+1:=by
  rw[<-Array.length_toList,(SetTable.insertAt_perm _ _ _).length_eq,Array.toList_push,List.length_append,Array.length_toList,zA9 h1];rfl
 refine⟨SetTable.insertAt es (SetTable.below t.place k) (Int.ofNat k,x),{ t with place:=(ins l k).toArray },?_,?_,fun e he=>?_,rfl,rfl,rfl,h.led,h.plain,hfl,q4⟩
 ·unfold layNew;rw[f1];dsimp only[SetTable.put];rw[hnod,hp];simp only[Bool.false_eq_true,if_false];rw[hes];simp only[SetTable.orStandIn,hfit,if_true,Bool.not_true]
 ·rw[SetTable.toList_insertAt,q2,List.map_append,List.map_cons,List.map_take,List.map_drop,h1,<-List.map_take,<-List.map_drop,<-q3];simp
 ·have:=(SetTable.insertAt_perm es (SetTable.below t.place k) (Int.ofNat k,x)).mem_iff.mp he;rw[Array.toList_push,List.mem_append,List.mem_singleton] at this;exact this
theorem zK3 {m f mv:Nat}{ld pl:Bool}{l:List Nat}{es:Array (Int×Value)}(q:b2 m l=true)(h1:es.toList.map (·.1)=l.map Int.ofNat):SetTable.laid m f mv ld pl (es.map (·.1))=some (⟨m,l.toArray,#[],f,ld,mv,pl⟩,(List.range l.length).toArray):=by
 simp only[b2,beq_iff_eq] at q;obtain⟨owner,o1,o2⟩:=zp5 q;have hh:es.map (·.1)=hs l:=by
  apply Array.toList_inj.mp;rw[Array.toList_map,h1];rfl
 have hzip:(l.zip (List.range l.length)).map (·.1)=l:=by rw[List.map_fst_zip]; simp
 have hzip2:(l.zip (List.range l.length)).map (·.2)=List.range l.length:=by rw[List.map_snd_zip]; simp
 unfold SetTable.laid;rw[hh];show (SetTable.layClean m (hs l)).bind _=_;rw[o1];show some _=some _;rw[show (List.range (m+1)).filterMap (fun j=>(owner.getD j none).map (j,·))=l.zip (List.range l.length) from o2,hzip,hzip2]
theorem zKd {l:List Nat}{es:Array (Int×Value)}(hz:es.size=l.length):(List.range l.length).toArray.filterMap (es[·]?)=es:=by
 apply Array.toList_inj.mp;rw[Array.toList_filterMap];show (List.range l.length).filterMap (fun i=>es[i]?)=es.toList;rw[<-hz];exact filterMap_getElem?_range es
theorem zHW {b:Bool}{l D:List Nat}{t:SetTable}{es:Array (Int×Value)}(hm:l∈subs 6)(h1:es.toList.map (·.1)=l.map Int.ofNat)(hl:t.led=b)(hp:t.plain=true) :
  ∃t',relayAll t es (SetTable.grown es.size)=(es,t',false)/\TG b l D t':=by
 have q:=zp7 zNz l hm;simp only[b2a,Bool.and_eq_true,Bool.or_eq_true,beq_iff_eq] at q;obtain⟨⟨⟨q1,_⟩,_⟩,q4⟩:=q;have hz:es.size=l.length:=zA9 h1;have h6:=(mem_b4 hm).1;have TT:TG b l D ⟨gm l,l.toArray,#[],t.finger,t.led,t.movedTo (gm l),t.plain⟩:=by
  refine⟨hm,rfl,⟨[],by decide +kernel,rfl,fun x hx=>by cases hx⟩,?_,hl,hp⟩;rcases q4 with (⟨q4,q5⟩ | q4) | q4
  ·exact .inl ⟨q4,by simpa[SetTable.fill] using Nat.le_of_ble_eq_true q5⟩
  ·exact .inr (.inl q4)
  ·exact .inr (.inr q4)
 refine⟨_,?_,TT⟩;have hr:t.relaid (es.map (·.1)) (SetTable.grown es.size)=some (⟨gm l,l.toArray,#[],t.finger,t.led,t.movedTo (gm l),t.plain⟩,(List.range l.length).toArray):=by
  unfold SetTable.relaid;rw[hz];exact zK3 q1 h1
 have hcov:coversAll (List.range l.length).toArray es.size=true:=by
  unfold coversAll;rw[hz];exact List.isPerm_iff.mpr (List.Perm.refl _)
 unfold relayAll;rw[hr];dsimp only;rw[zKd hz,hcov,TT.fits hz];rfl
section
variable {prog:Program}{w:World}{A:Around}{E:Value->Shared->Prop}{s:Shared}
theorem SG.store {b:Bool}{h:Heap}{a:Addr}{es es':Array (Int×Value)}{ep:Nat}{t t':SetTable}{l D:List Nat}(ho:h.get? a=some { cls:=.type "set",dict:=none,data:=.set es ep t })(h1:es'.toList.map (·.1)=l.map Int.ofNat)(h2:∀e∈es'.toList,∃tk,e.2=.int e.1 tk)(ht:TG b l D t') :
  (h.update a (Obj.putSet es' t')).get? a=some { cls:=.type "set",dict:=none,data:=.set es' (ep+1) t' }/\SG b (h.update a (Obj.putSet es' t')) a l D:=by
 have e:=Heap.get?_update_self (Obj.putSet es' t') ho rfl;exact⟨e,es',ep+1,t',e,h1,h2,ht⟩
theorem small_line {n:Nat}(h:n<=6):n<=sizeLine:=zm9 h (by decide)
theorem zND {a:Addr}{l D:List Nat}{b:Bool}{k:Nat}{tk:Tok}{Q:Bool->Shared->Prop}(hS:SG b s.heap a l D)(hk:k<6)(hD:k∉D)
  (h:∀h' r,Heap.SameBut a s.heap h'->SG b h' a (if k∈l then l else ins l k) D->Q r { s with heap:=h' }) :
  wpAny (model prog w) A (setAddHashed a (.int (Int.ofNat k) tk) ((intKind prog w).hash (Int.ofNat k))) Q E s:=by
 obtain⟨es,ep,t,ho,h1,h2,ht⟩:=hS;have hel:ElemsOf (intKind prog w) es.toList:=elems ht.mem h1 h2;have hz:=zA9 h1;have h6:=(mem_b4 ht.mem).1;have hf:t.fits es.size=true:=ht.fits hz;have hb:es.size<scanBound:=by unfold scanBound; omega
 have hkey:(intKind prog w).is (Int.ofNat k) (.int (Int.ofNat k) tk)=true:=intKind_is _ _ _ _;unfold setAddHashed setAddHashedIn;refine wpAny_holding (zn4 (wpAny_setState_of ho rfl hf ?_));dsimp only;rw[byScan_of (knd:=intKind prog w) rfl hb hel];simp only[↓reduceIte];unfold setAddByScan;refine zn4 ?_;refine zn4 (wpAny_rule ?_);refine zn4 (wpAny_setScan_of (knd:=intKind prog w) hkey ho rfl hf hel ?_);have hin:∀e∈es.toList,(intKind prog w).is (Int.ofNat k) e.2=true->k∈l:=by
  intro e he hi;obtain⟨tk',et⟩:=h2 e he;obtain⟨t2,e2⟩:=Value.isInt_shape (show Value.isInt (Int.ofNat k) e.2=true from hi);rw[et] at e2;injection e2 with e3 _;have:e.1∈l.map Int.ofNat:=by rw[<-h1]; exact List.mem_map_of_mem he
  obtain⟨k',hk',ek⟩:=zp8 this;rw[e3] at ek;have:k'=k:=Int.ofNat.inj ek;exact this ▸ hk'
 cases hr:List.findIdx? (fun e=>(intKind prog w).is (Int.ofNat k) e.2) es.toList with
 | some j=>
  dsimp only;obtain⟨hj,hpj,_⟩:=List.findIdx?_eq_some_iff_getElem.mp hr;have hkl:k∈l:=hin _ (List.getElem_mem hj) hpj;refine zn5 (zn5 ?_);have e:s={ s with heap:=s.heap }:=by cases s; rfl
  have:=h s.heap false (Heap.SameBut.refl a s.heap) ⟨es,ep,t,ho,by rw[if_pos hkl]; exact h1,h2,by rw[if_pos hkl]; exact ht⟩;rw[e]; exact this
 | none=>
  dsimp only;have hkl:k∉l:=by
   intro hm;have:Int.ofNat k∈es.toList.map (·.1):=by rw[h1]; exact List.mem_map_of_mem hm
   obtain⟨e,he,ee⟩:=zp8 this;have:=List.findIdx?_eq_none_iff.mp hr e he;obtain⟨tk',et⟩:=h2 e he;rw[et,ee] at this;have z:(intKind prog w).is (Int.ofNat k) (.int (Int.ofNat k) tk')=true:=intKind_is _ _ _ _;rw[z] at this;cases this
  rw[if_neg hkl] at h;have hh:(intKind prog w).hash (Int.ofNat k)=Int.ofNat k:=zCS hk;rw[hh];obtain⟨es',t',hL,e1,e2,m1,m2,m3,m4,m5,m6,m7⟩:=zMK (x:=.int (Int.ofNat k) tk) ht h1 hk hkl hD;rw[hL];dsimp only;have e2':∀e∈es'.toList,∃tk,e.2=.int e.1 tk:=fun e he=>by
   rcases e2 e he with q | q
   ·exact h2 e q
   ·rw[q]; exact⟨tk,rfl⟩
  have hz':=zA9 e1;have h6':=(mem_b4 m7).1;refine zn4 ?_;refine zn5 ?_;rw[m5];simp only[if_true];refine zn4 ?_;rw[hashByValue_scannable 8 (x:=.int (Int.ofNat k) tk) rfl];refine zn5 ?_;simp only[plainKind,if_true,Bool.not_false,Bool.true_and];refine zn4 (wpAny_storeSet_of ho rfl ?_ (small_line (by rw[hz']; exact h6')));by_cases hfull:t'.tooFull=true
  ·rw[if_pos hfull];obtain⟨t2,r1,r2⟩:=zHW (b:=b) (D:=D) m7 e1 m4 m5;rw[r1];dsimp only;have hx:=Heap.get?_update_self (Obj.putSet es' t') ho rfl;refine zn4 ?_;refine zn5 ?_;refine zn4 (wpAny_storeSet_of (o:={ cls:=.type "set",dict:=none,data:=.set es' (ep+1) t' }) hx rfl ?_ (small_line (by rw[hz']; exact h6')));refine zn5 (zn5 (h _ true ((Heap.SameBut.update s.heap a _).trans (Heap.SameBut.update _ a _)) (SG.store hx e1 e2' r2).2))
  ·rw[if_neg hfull];have hm':t'.mask=7/\t'.fill<=4\/t'.mask=15\/t'.mask=31:=by
    rcases ht.mask with ⟨q,q2⟩ | q
    ·refine .inl ⟨m1.trans q,?_⟩;simp only[SetTable.tooFull,m1,q,decide_eq_true_eq,ge_iff_le] at hfull;omega
    ·exact .inr (by rw[m1]; exact q)
   refine zn5 (zn5 (h _ true (Heap.SameBut.update s.heap a _) (SG.store ho e1 e2' ⟨m7,m2,by rw[m3]; exact ht.dum,hm',m4,m5⟩).2))
end
end St
end
section
namespace St
open PySem PyProof.Rows PySem.W
theorem zFY:entryFor table "set.__iter__" = some Builtin.«frozenset.__iter__»:=
 entryFor_alias (id' := "frozenset.__iter__") (by kernel_rfl) rfl (by decide +kernel) (by kernel_rfl)
theorem zBa:Slot "set_iterator" "__next__" "set_iterator.__next__" :=
 .of (owner := "set_iterator") (n := "__next__") (by rw[typeLookup_type,builtinLookup_eq_fast]; kernel_rfl) (by decide +kernel) (by decide +kernel) (by decide +kernel)
  (by first | exact .inl (by decide +kernel) | exact .inr (by decide +kernel)) (by rw[isSubtype_type]; kernel_rfl)
theorem zCV:entryFor table "set_iterator.__next__" = some Builtin.«set_iterator.__next__»:=entryFor_of_tree (by kernel_rfl)
theorem zE7:Manifest.owners.lookup (String.ofList ['r','o','t','a','r','e','t','i','_','t','e','s'].reverse)=some Manifest.sig_set_iterator:=by kernel_rfl
theorem zEi (a:Value):argsOk "set_iterator.__next__" ⟨[a],[]⟩:=by
 unfold argsOk; rw[signature?_of (id := "set_iterator.__next__") (n:=['_','_','t','x','e','n','_','_']) (o:=['r','o','t','a','r','e','t','i','_','t','e','s']) (by kernel_rfl) zE7]; kernel_rfl
theorem zB6:Slot "set_iterator" "__iter__" "set_iterator.__iter__" :=
 .of (owner := "set_iterator") (n := "__iter__") (by rw[typeLookup_type,builtinLookup_eq_fast]; kernel_rfl) (by decide +kernel) (by decide +kernel) (by decide +kernel)
  (by first | exact .inl (by decide +kernel) | exact .inr (by decide +kernel)) (by rw[isSubtype_type]; kernel_rfl)
theorem zK0:typeLookup (.type "set") "__len__" = pure (some (.builtin "set.__len__")):=by rw[typeLookup_type,builtinLookup_eq_fast]; kernel_rfl
section
variable {prog:Program}{w:World}{A:Around}{E:Value->Shared->Prop}{s:Shared}{r:Addr}
theorem zIA {Q:Bool->Shared->Prop}(hT:s.TypeIs (.ref r) "set")(h:Q false s):wpAny (model prog w) A (Builtin.List.listLengthHint (.ref r)) Q E s:=by
 unfold Builtin.List.listLengthHint;refine zn4 (wpAny_specialOf hT zK0 ?_);generalize hid:("set.__len__" : String)=id0;wp_delta
 rw[show splitId id0=some ("set", "__len__") from by subst hid; decide +kernel];subst hid;refine zn4 (wpAny_isInstance (T := "set") (b:=true) hT (by rw[isSubtype_type]; kernel_rfl) ?_);refine wpAny_ite_split (fun hab=>absurd hab (by decide)) (fun _=>?_);refine wpAny_ite_split (fun _=>?_) (fun hab=>absurd (by decide +kernel) hab);refine zn4 (wpAny_typeOf hT ?_);exact zn5 h
theorem zCH {Q:Bool->Shared->Prop}(h:Q (w.params.followText "set-order") s):wpAny (model prog w) A setsByText Q E s:=by
 unfold setsByText;refine zn4 (wpAny_askSetting ?_);exact zn5 h
theorem zIS {a:Addr}{es:Array (Int×Value)}{ep:Nat}{t:SetTable}{Q:Bool->Shared->Prop}(ho:s.heap.get? a=some { cls:=.type "set",dict:=none,data:=.set es ep t })(hf:t.fits es.size=true)(hp:t.plain=true)(h:Q false s) :
  wpAny (model prog w) A (setDrawn a) Q E s:=by
 unfold setDrawn;refine zn4 (wpAny_setState_of ho rfl hf ?_);dsimp only;refine zn4 (zCH ?_);refine zn5 ?_;show Q (!w.params.followText "set-order" && (!t.plain&&decide (es.size > 1))) s;rw[hp,Bool.not_true,Bool.false_and,Bool.and_false];exact h
end
noncomputable abbrev itO (slot i:Nat)(a:Addr)(n ep:Nat):Obj:={ cls:=.type "set_iterator",data:=.fields #[.int slot 0,.int i 0,.ref a,.int n 0,.int ep 0] }
section
variable {prog:Program}{w:World}{A:Around}{E:Value->Shared->Prop}{s:Shared}{a:Addr}{es:Array (Int×Value)}{ep:Nat}{t:SetTable}
theorem zIy {Q:Value->Shared->Prop}(ho:s.heap.get? a=some { cls:=.type "set",dict:=none,data:=.set es ep t })(hf:t.fits es.size=true)(hp:t.plain=true)
  (hQ:Q (.ref s.heap.objs.size) { s with heap:=s.heap.push (itO 0 0 a es.size ep) }):wpAny (model prog w) A (pyIter (.ref a)) Q E s:=by
 have hT:s.TypeIs (.ref a) "set":=⟨_,ho,rfl⟩
 refine wpAny_pyIter_slot hT F.slot_set_iter (wpAny_call_entry F.slot_set_iter hT zFY ?_ (F.args_set_iter_1 _));unfold Builtin.«frozenset.__iter__» Builtin.Frozenset.slot0 slotArgs;simp only[List.isEmpty_nil,Bool.not_true,Bool.false_eq_true,↓reduceIte,bind_assoc,List.length_nil,bne_self_eq_false];unfold Builtin.Frozenset.addrOf Builtin.Frozenset.sizeOf;refine zn4 (zn5 ?_);try dsimp only
 refine zn4 (zn5 ?_);refine zn4 (zn4 (wpAny_setEntries_of ho rfl hf (zn5 ?_)));refine zn4 (zIS ho hf hp ?_);simp only[Bool.false_eq_true,if_false];refine zn4 (zn5 ?_);refine zn4 (wpAny_setEpoch_of ho rfl hf ?_);unfold newFields;refine zn4 (wpAny_newObj_type (zn5 ⟨_,rfl, "set_iterator",_,⟨_,zm6 _ rfl,rfl⟩,zBa.lookup,?_⟩));exact hQ
noncomputable def ord (w:World)(a:Addr)(ep:Nat)(es:Array (Int×Value)):Array (Int×Value):=if w.params.followText "set-order" then pickOrder (w.params.setOrder a ep) es else es
noncomputable def nextOf (w:World)(a:Addr)(ep:Nat)(es:Array (Int×Value))(t:SetTable)(slot i:Nat):Option (Value×Nat):=
 if w.params.followText "set-order" then ((ord w a ep es)[i]?).map fun e=>(e.2,slot) else match es[SetTable.below t.place slot]?,t.place[SetTable.below t.place slot]? with
  | some (_,x),some j=>some (x,j+1)
  | _,_=>none
theorem zGY {slot i:Nat}{Q:Option (Value×Nat)->Shared->Prop}(ho:s.heap.get? a=some { cls:=.type "set",dict:=none,data:=.set es ep t })(hf:t.fits es.size=true)(hp:t.plain=true)(hl:t.led = !w.params.followText "set-order")(h:Q (nextOf w a ep es t slot i) s) :
  wpAny (model prog w) A (setNext a slot i ep) Q E s:=by
 unfold setNext;refine zn4 (wpAny_setState_of ho rfl hf ?_);dsimp only;refine zn4 (zCH ?_);unfold nextOf ord at h;cases hb:w.params.followText "set-order" with
 | true=>
  rw[hb] at h;simp only[if_true,bne_self_eq_false,Bool.false_eq_true,if_false] at h ⊢;refine zn4 ?_;unfold setWalk;refine zn4 (wpAny_setState_of ho rfl hf ?_);dsimp only;refine zn4 (zCH ?_);rw[hb];simp only[if_true];refine zn4 (wpAny_askSetting ?_);exact zn5 (zn5 h)
 | false=>
  rw[hb] at h hl;simp only[Bool.false_eq_true,if_false] at h ⊢;refine wpAny_ite_split (fun hab=>absurd (show (!t.plain&&decide (es.size > 1))=true from hab) (by rw[hp]; simp)) (fun _=>?_);refine zn4 ?_;refine wpAny_ite_split (fun hab=>absurd (show (!t.led&&!es.isEmpty)=true from hab) (by rw[hl]; simp)) (fun _=>?_);exact zn5 (zn5 h)
end
theorem zGL {α:Type}:∀{l:List α} {i:Nat} (h:i<l.length),List.Perm (l[i]::l.eraseIdx i) l
 | x::l,0,_=>List.Perm.refl _
 | x::l,i+1,h=>by
  have:=zGL (l:=l) (i:=i) (Nat.lt_of_succ_lt_succ h);rw[List.eraseIdx_cons_succ,List.getElem_cons_succ];exact (List.Perm.swap x _ _).trans (this.cons x)
theorem zGI {α:Type}(next:Nat->Nat):∀(fuel k:Nat) (left:List α) (out:Array α),fuel=left.length->List.Perm (pickOrder.go next fuel k left out).toList (out.toList++left)
 | 0,k,left,out,h=>by
  have:left=[]:=List.length_eq_zero_iff.mp h.symm;subst this;simp[pickOrder.go]
 | fuel+1,k,left,out,h=>by
  unfold pickOrder.go;have hl:next k % left.length<left.length:=Nat.mod_lt _ (by omega);rw[List.getElem?_eq_getElem hl];dsimp only;refine (zGI next fuel (k+1) _ _ ?_).trans ?_
  ·rw[List.length_eraseIdx,if_pos hl]; omega
  ·rw[Array.toList_push,List.append_assoc];refine List.Perm.append_left _ ?_;exact zGL hl
theorem zGH {α:Type}(next:Nat->Nat)(xs:Array α):List.Perm (pickOrder next xs).toList xs.toList:=by
 have:=zGI next xs.size 0 xs.toList #[] (by simp);simpa[pickOrder] using this
theorem zDd (w:World)(a:Addr)(ep:Nat)(es:Array (Int×Value)):List.Perm (ord w a ep es).toList es.toList:=by
 unfold ord;split
 ·exact zGH _ _
 ·exact List.Perm.refl _
theorem zDc (w:World)(a:Addr)(ep:Nat)(es:Array (Int×Value)):(ord w a ep es).size=es.size:=by
 rw[<-Array.length_toList,(zDd w a ep es).length_eq,Array.length_toList]
noncomputable def slotAt (w:World)(l:List Nat)(i:Nat):Nat:=if w.params.followText "set-order" then 0 else if i=0 then 0 else l.getD (i - 1) 0+1
section
variable {prog:Program}{w:World}{A:Around}{E:Value->Shared->Prop}{s:Shared}{a I:Addr}{es:Array (Int×Value)}{ep:Nat}{t:SetTable}{b:Bool}{l D:List Nat}
theorem zGZ {i:Nat}(ht:TG b l D t)(h1:es.toList.map (·.1)=l.map Int.ofNat)(hi:i<es.size):∃e,(ord w a ep es)[i]? = some e/\nextOf w a ep es t (slotAt w l i) i=some (e.2,slotAt w l (i+1)):=by
 have hz:=zA9 h1;have ho:i<(ord w a ep es).size:=by rw[zDc]; exact hi
 refine⟨(ord w a ep es)[i],by simp[ho],?_⟩;unfold nextOf slotAt;by_cases hb:w.params.followText "set-order" = true
 ·simp only[hb,if_true];rw[Array.getElem?_eq_getElem ho];rfl
 ·have q:=zp7 zJP l ht.mem;simp only[b3,List.all_eq_true,beq_iff_eq,List.mem_range] at q;have q1:=q i (by omega);have hbel:SetTable.below t.place (if i=0 then 0 else l.getD (i - 1) 0+1)=i:=by rw[ht.place]; exact q1
  have hil:i<l.length:=by omega
  have hb':w.params.followText "set-order" = false:=by simpa using hb
  simp only[hb',Bool.false_eq_true,if_false,hbel];have e1:es[i]? = some es[i]:=by simp[hi]
  have e2:t.place[i]? = some (l[i]'hil):=by rw[ht.place]; simp[hil]
  have e3:(ord w a ep es)=es:=by unfold ord; rw[if_neg hb]
  rw[e1,e2];simp only[e3,Nat.add_eq_zero_iff,Nat.succ_ne_self,and_false,if_false,Nat.add_sub_cancel,Nat.reduceAdd,Nat.one_ne_zero];simp[hil]
theorem zIo (ht:TG b l D t)(h1:es.toList.map (·.1)=l.map Int.ofNat):nextOf w a ep es t (slotAt w l es.size) es.size=none:=by
 have hz:=zA9 h1;unfold nextOf slotAt;by_cases hb:w.params.followText "set-order" = true
 ·simp only[hb,if_true];rw[Array.getElem?_eq_none (by rw[zDc]; exact zm8 _)];rfl
 ·have q:=zp7 zJP l ht.mem;simp only[b3,List.all_eq_true,beq_iff_eq,List.mem_range] at q;have q1:=q es.size (by omega);have hbel:SetTable.below t.place (if es.size=0 then 0 else l.getD (es.size - 1) 0+1)=es.size:=by rw[ht.place]; exact q1
  have hb':w.params.followText "set-order" = false:=by simpa using hb
  simp only[hb',Bool.false_eq_true,if_false,hbel];have e1:es[es.size]? = none:=by simp
  rw[e1]
theorem zEw {i slot nx:Nat}{x:Value}{Q:Option Value->Shared->Prop}(hI:s.heap.get? I=some (itO slot i a es.size ep))(ho:s.heap.get? a=some { cls:=.type "set",dict:=none,data:=.set es ep t })(hf:t.fits es.size=true)(hp:t.plain=true)(hl:t.led = !w.params.followText "set-order")(hn:nextOf w a ep es t slot i=some (x,nx))
  (hQ:∀h',h'.get? I=some (itO nx (i+1) a es.size ep)->Heap.SameBut I s.heap h'->Q (some x) { s with heap:=h' }):wpAny (model prog w) A (pyNext (.ref I)) Q E s:=by
 have hT:s.TypeIs (.ref I) "set_iterator":=⟨_,hI,rfl⟩
 unfold pyNext;refine zn4 (wpAny_attempt (wpAny_callSpecial?_slot (name:=Str.ofString "__next__") hT zBa (wpAny_call_entry zBa hT zCV ?_ (zEi _))));unfold Builtin.«set_iterator.__next__» slotArgs;simp only[List.isEmpty_nil,Bool.not_true,Bool.false_eq_true,↓reduceIte,bind_assoc,List.length_nil,bne_self_eq_false];refine zn4 (zn5 ?_);refine zn4 (wpAny_fieldsOf hI rfl ?_);dsimp only;refine zn4 (wpAny_setEntries_of ho rfl hf ?_);refine wpAny_ite_split (fun hab=>absurd hab (by simp)) (fun _=>?_);simp only[Int.toNat_natCast];refine zn4 (zGY ho hf hp hl ?_);rw[hn];dsimp only;refine zn4 (wpAny_setField_rec hI (by simp) fun h1 g1 s1=>?_);refine zn4 (wpAny_setField_rec (s:={ s with heap:=h1 }) g1 (by simp) fun h2 g2 s2=>?_);exact zn5 ⟨_,rfl,zn5 (hQ h2 g2 (s1.trans s2))⟩
theorem zFL {i slot:Nat}{Q:Option Value->Shared->Prop}(hh:A.handled=none)(hI:s.heap.get? I=some (itO slot i a es.size ep))(ho:s.heap.get? a=some { cls:=.type "set",dict:=none,data:=.set es ep t })(hf:t.fits es.size=true)(hp:t.plain=true)(hl:t.led = !w.params.followText "set-order")(hn:nextOf w a ep es t slot i=none)
  (hQ:∀h',Heap.ExtBut I s.heap h'->Q none { s with heap:=h' }):wpAny (model prog w) A (pyNext (.ref I)) Q E s:=by
 have hT:s.TypeIs (.ref I) "set_iterator":=⟨_,hI,rfl⟩
 unfold pyNext;refine zn4 (wpAny_attempt (wpAny_callSpecial?_slot (name:=Str.ofString "__next__") hT zBa (wpAny_call_entry zBa hT zCV ?_ (zEi _))));unfold Builtin.«set_iterator.__next__» slotArgs;simp only[List.isEmpty_nil,Bool.not_true,Bool.false_eq_true,↓reduceIte,bind_assoc,List.length_nil,bne_self_eq_false];refine zn4 (zn5 ?_);refine zn4 (wpAny_fieldsOf hI rfl ?_);dsimp only;refine zn4 (wpAny_setEntries_of ho rfl hf ?_);refine wpAny_ite_split (fun hab=>absurd hab (by simp)) (fun _=>?_);simp only[Int.toNat_natCast];refine zn4 (zGY ho hf hp hl ?_);rw[hn];dsimp only;refine zn4 (wpAny_setField hI rfl (by simp) ?_);show wpAny _ _ (newExc (.type "StopIteration") [] >>= _) _ _ _;refine zn4 ?_;simp only[newExc,newTuple];refine zn4 (wpAny_newObj_type ?_ (by size_fits));refine zn4 (m:=firstArgMember _ _) (wpAny_of_eq (a:=Value.none) (by first | rfl | (simp only[firstArgMember]; rfl)) ?_);refine wpAny_newObj_type ?_ (by size_fits);simp only[raiseNew];refine zn4 (wpAny_handled ?_);rw[show A.in1.handled=none from hh];refine zn4 (zn5 (wpAny_throw ?_));refine zn4 (wpAny_isInstance (T := "StopIteration") (b:=true) ⟨_,zm6 _ rfl,rfl⟩ isSubtype_stop ?_);exact zn5 (hQ _ (((Heap.SameBut.update ..).extBut.push _).push _))
end
theorem zDu:entryFor table "set_iterator.__iter__" = some Builtin.«dict_keyiterator.__iter__»:=
 entryFor_alias (id' := "dict_keyiterator.__iter__") (by kernel_rfl) rfl (by decide +kernel) (by kernel_rfl)
theorem zEj (a:Value):argsOk "set_iterator.__iter__" ⟨[a],[]⟩:=by
 unfold argsOk; rw[signature?_of (id := "set_iterator.__iter__") (n:=['_','_','r','e','t','i','_','_']) (o:=['r','o','t','a','r','e','t','i','_','t','e','s']) (by kernel_rfl) zE7]; kernel_rfl
noncomputable abbrev setO (es:Array (Int×Value))(ep:Nat)(t:SetTable):Obj:={ cls:=.type "set",dict:=none,data:=.set es ep t }
section
variable {prog:Program}{w:World}{A:Around}{E:Value->Shared->Prop}{s:Shared}{a I:Addr}{es:Array (Int×Value)}{ep:Nat}{t:SetTable}{l D:List Nat}
theorem zEr (w:World)(l:List Nat):slotAt w l 0=0:=by unfold slotAt; split <;> rfl
theorem zF9 (hh:A.handled=none)(hne:a≠I)(ht:TG (!w.params.followText "set-order") l D t)(h1:es.toList.map (·.1)=l.map Int.ofNat) :
  Walks prog w A I [I,a] [I] es.size (fun i v=>∃e,(ord w a ep es)[i]? = some e/\v=e.2) (fun i h=>h.get? I=some (itO (slotAt w l i) i a es.size ep)/\h.get? a=some (setO es ep t)) where
 sub:=fun b hb=>by simp at hb; simp[hb]
 frame:=fun _ _ _ st hk=>⟨hk I (by simp) _ st.1,hk a (by simp) _ st.2⟩
 item:=fun i s Q E hi st hQ=>by
  obtain⟨e,e1,e2⟩:=zGZ (w:=w) (a:=a) (ep:=ep) ht h1 hi;refine zEw st.1 st.2 (ht.fits (zA9 h1)) ht.plain ht.led e2 fun h' g sb=>?_;exact hQ _ h' s.toks ⟨e,e1,rfl⟩ ⟨g,sb.extBut _ _ hne st.2⟩ fun b o hb q=>sb.extBut b o (fun z=>hb (by simp[z])) q
 done:=fun s Q E st hQ=>zFL hh st.1 st.2 (ht.fits (zA9 h1)) ht.plain ht.led (zIo ht h1) fun h' he=>hQ h' s.toks fun b o hb q=>he b o (fun z=>hb (by simp[z])) q
 self:=fun i s Q E st hQ=>by
  have hT:s.TypeIs (.ref I) "set_iterator":=⟨_,st.1,rfl⟩
  refine wpAny_pyIter_slot hT zB6 (wpAny_call_entry zB6 hT zDu ?_ (zEj _));show wpAny _ _ (ret (.ref I)) _ _ s;exact zn5 ⟨_,rfl, "set_iterator",_,hT,zBa.lookup,hQ⟩
theorem zJ7 (ht:TG (!w.params.followText "set-order") l D t)(h1:es.toList.map (·.1)=l.map Int.ofNat):KdlSrc prog w "set" a a es.size (fun i v=>∃e,(ord w a ep es)[i]? = some e/\v=e.2) (fun h=>h.get? a=some (setO es ep t)) where
 type:=fun _ hm=>⟨_,hm,rfl⟩
 there:=fun _ hm=>⟨zm7 hm,zm7 hm⟩
 keep:=fun _ _ hm hk=>hk a (.inl rfl) _ hm
 notList:=by decide
 notTuple:=by decide
 hint:=fun _ _ _ _ hm hq=>zIA ⟨_,hm,rfl⟩ hq
 iter:=fun A s hh hm=>⟨itO 0 0 a es.size ep,_,(fun _ _ hq=>zIy hm (ht.fits (zA9 h1)) ht.plain hq),zF9 hh (zn2 (zm7 hm)) ht h1,⟨by rw[zEr]; exact zm6 _ rfl,zm5 _ hm⟩⟩
theorem zEK {T:String}{r d:Addr}{n:Nat}{P:Nat->Value->Prop}{OK:Heap->Prop}{Q:List Value->Shared->Prop}(K:KdlSrc prog w T r d n P OK)(hh:A.handled=none)(hok:OK s.heap)(hn:n<=sizeLine)
  (hQ:∀h' tk acc,(∀b o,s.heap.get? b=some o->h'.get? b=some o)->ItemsOf P acc n->Q acc.toList { s with heap:=h',toks:=tk }):wpAny (model prog w) A (collect (.ref r)) Q E s:=by
 unfold collect;refine zn4 (wpAny_runValue (codeAny_builtin F.entry_proto_collect ?_));rw[Around.under_plainId F.plain_proto_collect _];show wpAny _ A.in1 (newList [] >>= fun l=>again (.builtin "list.__iadd__" ⟨[l,.ref r],[]⟩)) _ _ s;refine zn4 (wpAny_newObj_type ?_);refine zn5 ⟨plainId_quiet F.plain_list_iadd _,codeAny_builtin F.entry_list_iadd ?_⟩;rw[Around.under_plainId F.plain_list_iadd _];show wpAny _ A.in1 (Builtin.List.listExtendWith (.ref s.heap.objs.size) (.ref r) (.ref s.heap.objs.size)) _ _ _;have hlt:=K.there _ hok;refine kdl_extend (R:=fun r s'=>match r with
   | .ok (.ret v)=>wpAny (model prog w) A (match v with
    | .ref a=>do
     match (<-load a).data with
     | .seq xs _=>pure xs.toList
     | _=>unsupported "internal:collect"
    | _=>unsupported "internal:collect") Q E s'
   | .ok _=>False
   | .error e=>E e s') (s:={ s with heap:=s.heap.push { cls:=.type "list",data:=.seq ([]:List Value).toArray } }) K hh (K.keep _ _ hok fun b _ o e=>zm5 _ e) s.heap.objs.size (Nat.ne_of_gt hlt.1) (Nat.ne_of_gt hlt.2) (.ref s.heap.objs.size) 0 (zm6 _ rfl) (fun h' tk acc' c' hk hS' hacc=>?_) hn
 show wpAny _ A (load s.heap.objs.size >>= _) _ _ _;refine zn4 (wpAny_load hS' ?_);exact zn5 (hQ h' tk acc' (fun b o e=>hk b o (zn2 (zm7 e)) (zm5 _ e)) hacc)
theorem sorted_set {Q:Value->Shared->Prop}(hh:A.handled=none)(hS:SG (!w.params.followText "set-order") s.heap a l D)
  (h:∀h' tk L (vs:List Value) n,(∀b o,s.heap.get? b=some o->h'.get? b=some o)->a<L->h'.get? L=some { cls:=.type "list",data:=.seq vs.toArray n }->IntsAre vs (l.map Int.ofNat)->Q (.ref L) { s with heap:=h',toks:=tk }) :
  wpAny (model prog w) A (call (.builtin "sorted") [.ref a]) Q E s:=by
 obtain⟨es,ep,t,ho,h1,h2,ht⟩:=hS;have hz:=zA9 h1;have h6:=(mem_b4 ht.mem).1;refine Calls.call_function_entry kind_sorted plain_sorted entry_sorted (args_sorted1 _) ?_;unfold Builtin.«sorted»;refine zn4 (m:=checkCount "sorted" 1 1 _) (zn5 ?_);refine zn4 (zEK (zJ7 (prog:=prog) (a:=a) (ep:=ep) ht h1) hh ho (small_line (by omega)) fun h' tk acc hk hacc=>?_);refine zn4 (wpAny_newList ?_ (hsz:=by rw[Array.length_toList,hacc.1]; exact small_line (by omega)));have hvs:acc.toList=(ord w a ep es).toList.map (·.2):=by
  apply List.ext_getElem?;intro j;rw[List.getElem?_map,Array.getElem?_toList,Array.getElem?_toList];by_cases hj:j<acc.size
  ·obtain⟨e,e1,e2⟩:=hacc.2 j acc[j] (by simp[hj]);rw[e1,Array.getElem?_eq_getElem hj,e2];rfl
  ·have hsz:(ord w a ep es).size<=j:=by rw[zDc,<-hacc.1]; omega
   rw[Array.getElem?_eq_none (by omega),Array.getElem?_eq_none hsz];rfl
 have hints:IntsAre acc.toList ((ord w a ep es).toList.map (·.1)):=by
  rw[hvs];have:∀(m:List (Int×Value)),(∀e∈m,∃tk,e.2=.int e.1 tk)->IntsAre (m.map (·.2)) (m.map (·.1)):=by
   intro m;induction m with
   | nil=>intro _; exact IntsAre.nil
   | cons e m ih=>
    intro hm;obtain⟨tk,et⟩:=hm e zm2;rw[List.map_cons,List.map_cons,et];exact IntsAre.cons _ _ (ih fun x hx=>hm x (zm1 _ hx))
  exact this _ fun e he=>h2 e ((zDd w a ep es).mem_iff.mp he)
 have hoL:(h'.push (seqObj "list" acc.toList.toArray 0)).get? h'.objs.size=some (seqObj "list" acc.toList.toArray 0):=zm6 _ rfl;have hlen:acc.toList.length<64:=by rw[Array.length_toList,hacc.1]; omega
 refine zn4 (wpAny_holding (wpAny_call_entry slot_list_sort ⟨_,hoL,rfl⟩ entry_list_sort (list_sort_tree hoL hints hlen fun out ns' a1 a2 a3=>⟨_,rfl,?_⟩) (args_list_sort _)));have hns:ns'=l.map Int.ofNat:=by
  have p:ns'.Perm (l.map Int.ofNat):=by
   rw[<-h1];exact a2.trans ((zDd w a ep es).map _)
  refine ksm_same p a3 ?_;rw[List.pairwise_map];exact (mem_b4 ht.mem).2.2.imp fun h=>Int.ofNat_le.mpr (Nat.le_of_lt h)
 subst hns;obtain⟨e,ge⟩:=sortedHeap_at (out:=out) hoL;refine zn5 ⟨_,rfl,h _ _ h'.objs.size out.toList e (fun b o q=>?_) ?_ ?_ a1⟩
 ·have hb:b<h'.objs.size:=zm7 (hk b o q);rw[sortedHeap_old (Nat.ne_of_lt hb) (by rw[Heap.size_push]; exact Nat.lt_succ_of_lt hb)];exact zm5 _ (hk b o q)
 ·exact zm7 (hk a _ ho)
 ·simpa using ge
end
noncomputable def stp (l:List Nat)(k:Nat):List Nat:=if k∈l then l else ins l k
noncomputable def acc (val:Nat->Nat)(i:Nat):List Nat:=((List.range i).map val).foldl stp []
theorem zI7 (val:Nat->Nat)(i:Nat):acc val (i+1)=stp (acc val i) (val i):=by
 unfold acc;rw[List.range_succ,List.map_append,List.foldl_append];rfl
section
variable {prog:Program}{w:World}{A:Around}{R:Result->Shared->Prop}{I:Addr}{fp wr:List Addr}{G:Array GenState->Array GenState->Prop}{n:Nat}{P:Nat->Value->Prop}{St:Nat->Shared->Prop}
theorem SG.at {b:Bool}{h h':Heap}{a:Addr}{l D:List Nat}(x:SG b h a l D)(e:∀o,h.get? a=some o->h'.get? a=some o):SG b h' a l D:=by
 obtain⟨es,ep,t,ho,r⟩:=x;exact⟨es,ep,t,e _ ho,r⟩
theorem zKZ (b:Bool)(W:WalksS prog w A.in1 I fp wr G n P St)(S:Addr)(hSf:S∉fp)(val:Nat->Nat)(hval:∀i v,P i v->val i<6/\∃t,v=.int (Int.ofNat (val i)) t) :
  ∀(k i:Nat) (s:Shared),n - i=k->i<=n->St i s->SG b s.heap S (acc val i) [] ->
   (∀s',Moved (S::wr) G s s'->SG b s'.heap S (acc val n) []->R (.ok (.ret .none)) s') ->
   codeAny (model prog w) A (.builtin "set.update.loop" ⟨[.ref S,.ref I],[]⟩) R s:=by
 have hSw:S∉wr:=fun h=>hSf (W.sub _ h);have hsub:∀b∈wr,b∈S::wr:=fun b hb=>zm1 _ hb;intro k;induction k with
 | zero=>
  intro i s hk hi hst hS hR;have hin:i=n:=by omega
  subst hin;refine codeAny_builtin F.entry_set_update_loop ?_;rw[Around.under_plainId F.plain_set_update_loop _];show wpAny _ A.in1 (pyNext (.ref I) >>= _) _ _ s;refine zn4 (W.done s _ _ hst fun s' hm=>?_);show wpAny _ A.in1 (ret Value.none) _ _ s';exact zn5 (hR s' (hm.mono hsub) (hS.at fun o e=>hm.heap S _ hSw e))
 | succ k ih=>
  intro i s hk hi hst hS hR;have hlt:i<n:=by omega
  refine codeAny_builtin F.entry_set_update_loop ?_;rw[Around.under_plainId F.plain_set_update_loop _];show wpAny _ A.in1 (pyNext (.ref I) >>= _) _ _ s;refine zn4 (W.item i s _ _ hlt hst fun v s' hP hst' hm=>?_);obtain⟨hv6,t,rfl⟩:=hval i v hP;have hS':SG b s'.heap S (acc val i) []:=hS.at fun o e=>hm.heap S _ hSw e;show wpAny _ A.in1 (holding [Value.int (Int.ofNat (val i)) t] (setAdd S (.int (Int.ofNat (val i)) t)) >>= _) _ _ s';refine zn4 (wpAny_holding ?_);unfold setAdd;refine wpAny_holding ?_;refine zn4 ((intKind prog w).pyHash (k:=Int.ofNat (val i)) (intKind_is _ _ _ _) ?_);refine zND (s:={ s' with toks:=s'.toks+1 }) hS' hv6 (fun z=>by cases z) fun h' r hsb hS2=>?_;have hSi:SG b h' S (acc val (i+1)) []:=by rw[zI7]; exact hS2
  refine zn5 ⟨plainId_quiet F.plain_set_update_loop _,ih (i+1) _ (by omega) hlt (W.frame _ s' _ _ hst' (Nat.le_succ _) fun b hb o e=>?_) hSi fun s'' hm'' hS''=>?_⟩
  ·rw[hsb.2 b (fun h:b=S=>hSf (by rw[<-h]; exact hb))]; exact e
  ·refine hR s'' (Moved.trans W.gtrans ((hm.mono hsub).then_heap (Nat.le_succ _) fun b o hb e=>?_) hm'') hS'';rw[hsb.2 b (fun h:b=S=>hb (by rw[h]; exact zm2))]; exact e
end
section
variable {prog:Program}{w:World}{A:Around}{E:Value->Shared->Prop}{s:Shared}
theorem zIW (a:Value){Q₁:Value->Shared->Prop}
  (h:Q₁ (.ref s.heap.objs.size) { s with heap:=s.heap.push { cls:=.type "set",dict:=none,data:=.set #[] 0 (.fresh 0 0 (!w.params.followText "set-order")) } }) :
  codeAny (model prog w) A (.call (.builtin "set.__new__") ⟨[.type "set",a],[]⟩) (wants Q₁ E) s:=by
 refine codeAny_of_tree ?_;show wpAny _ A.in1 (do checkBuiltinCall "set.__new__" ⟨[.type "set",a],[]⟩; again (.builtin "set.__new__" ⟨[.type "set",a],[]⟩)) _ _ s;refine zn4 (wpAny_of_eq (F.newCall_set_1 a) (zn5 ⟨plainId_quiet F.plain_set_new _,codeAny_builtin F.entry_set_new ?_⟩));rw[Around.under_plainId F.plain_set_new _];unfold Builtin.«set.__new__» Builtin.Frozenset.newClass;have hsub:=sub_set_self;obtain⟨hp,g,d,tk,os⟩:=s;dsimp only;wp_walk
 refine wpAny_askSetting (zn5 ?_);dsimp only;simp only[newObj];refine zn4 (wpAny_alloc (zn5 ?_));exact zn5 h
theorem zIG (b:Bool){h:Heap}{a:Addr}(e:h.get? a=some { cls:=.type "set",dict:=none,data:=.set #[] 0 (.fresh 0 0 b) }):SG b h a [] []:=
 ⟨#[],0,_,e,rfl,fun e he=>by simp at he,⟨by decide +kernel,rfl,⟨[],by decide +kernel,rfl,fun x hx=>by cases hx⟩,.inl ⟨rfl,by simp[SetTable.fill,SetTable.fresh]⟩,rfl,rfl⟩⟩
set_option maxHeartbeats 3200000 in
theorem set_list {l:Addr}{items:Array Value}{ns:List Nat}{Q:Value->Shared->Prop}
  (hh:A.handled=none)(hl:s.heap.IsList l items)(hi:IntsAre items.toList (ns.map Int.ofNat))(h6:∀x∈ns,x<6)
  (h:∀(h':Heap) (tk:Nat),SG (!w.params.followText "set-order") h' s.heap.objs.size (ns.foldl stp []) [] ->
   (∀b o,b<s.heap.objs.size->s.heap.get? b=some o->h'.get? b=some o)->Q (.ref s.heap.objs.size) { s with heap:=h',toks:=tk }) :
  wpAny (model prog w) A (call (.type "set") [.ref l]) Q E s:=by
 have hlen:items.size=ns.length:=by have:=IntsAre.length hi; simpa using this
 have hacc:acc (fun i=>ns.getD i 0) items.size=ns.foldl stp []:=by
  unfold acc;have:(List.range items.size).map (fun i=>ns.getD i 0)=ns:=by
   rw[hlen];apply List.ext_getElem?;intro j;by_cases hj:j<ns.length
   ·simp[hj]
   ·simp[Nat.le_of_not_lt hj]
  rw[this]
 obtain⟨c,tl,hmro⟩:=F.called_set.mro;have hmade:=F.called_set.made;have hsub:=F.called_set.sub;refine wpAny_call (codeAny_of_tree ?_);show wpAny _ _ (callAny (.type "set") _) _ _ _;refine zn5 ⟨Code.quiet_builtin _ (by decide +kernel),codeAny_builtin F.entry_type_call ?_⟩;rw[Around.under_plain (weight_type_call_type "set" [.ref l] []) rfl];have h1:=F.called_set.notType;have h2:=F.called_set.canCreate;have hct:=F.typeCall_set_1 (.ref l);repeat (any_goals (first | assumption | wp_step))
 refine codeAny_mono (zIW (.ref l) (E:=E) (Q₁:=fun obj s₁=>obj=.ref s.heap.objs.size/\s₁={ s with heap:=s.heap.push { cls:=.type "set",dict:=none,data:=.set #[] 0 (.fresh 0 0 (!w.params.followText "set-order")) } }) ⟨rfl,rfl⟩) fun r s₁ hr=>?_;cases r with
 | error e=>exact hr
 | ok fl=>
  cases fl with
  | ret obj=>
   obtain⟨rfl,rfl⟩:=hr;generalize hled:(!w.params.followText "set-order")=led at *;have hS:(s.heap.push { cls:=.type "set",dict:=none,data:=.set #[] 0 (.fresh 0 0 led) }).get? s.heap.objs.size=some { cls:=.type "set",dict:=none,data:=.set #[] 0 (.fresh 0 0 led) }:=zm6 _ rfl;have hT:Shared.TypeIs { s with heap:=s.heap.push { cls:=.type "set",dict:=none,data:=.set #[] 0 (.fresh 0 0 led) } } (.ref s.heap.objs.size) "set":=⟨_,hS,rfl⟩
   have hli:=F.called_set.init.lookup;have hbi:=F.called_set.init.bind (.ref s.heap.objs.size);repeat (any_goals (first | assumption | wp_step))
   refine codeAny_mono (codeAny_call_builtin (R:=wants (fun r s₂=>r=.none/\∃h' tk,s₂={ s with heap:=h',toks:=tk }/\SG led h' s.heap.objs.size (ns.foldl stp []) [] /\
     (∀b o,b<s.heap.objs.size->s.heap.get? b=some o->h'.get? b=some o)) E) F.called_set.init.plain F.entry_set_init (check_set_init_1 hT ?_)) fun r₂ s₂ hr₂=>?_
   ·obtain⟨ol,hol,hcl,nl,hdl⟩:=hl;obtain⟨ocls,odict,odata,oslots⟩:=ol;simp only at hcl hdl;subst hcl; subst hdl;have hol':(s.heap.push { cls:=.type "set",dict:=none,data:=.set #[] 0 (.fresh 0 0 led) }).get? l=some { cls:=.type "list",dict:=odict,data:=.seq items nl,slots:=oslots }:=zm5 _ hol;have hsls:=F.sub_list_set;have hslf:=F.sub_list_frozenset;have hne:(Value.type "list" == Value.type "dict")=false:=by decide
    have hl1:(s.heap.push { cls:=.type "set",dict:=none,data:=.set #[] 0 (.fresh 0 0 led) }).IsList l items:=⟨_,hol',rfl,nl,rfl⟩
    unfold Builtin.«set.__init__» noKeywords Builtin.Frozenset.updateFrom;generalize hPI:pyIter=PI;wp_walk
    subst hPI;refine wpAny_pyIter_list hl1 ?_;refine zn4 (wpAny_runValue ?_);have hlS:l<s.heap.objs.size:=zm7 hol;have hh3:A.in1.in1.in1.handled=none:=by simp[hh]
    have hneI:l≠(s.heap.push { cls:=.type "set",dict:=none,data:=.set #[] 0 (.fresh 0 0 led) }).objs.size:=by
     rw[Heap.size_push]; exact zn2 (Nat.lt_succ_of_lt hlS)
    have hSf:s.heap.objs.size∉[(s.heap.push { cls:=.type "set",dict:=none,data:=.set #[] 0 (.fresh 0 0 led) }).objs.size,l]:=by
     rw[Heap.size_push]; simp only[List.mem_cons,List.mem_singleton,List.not_mem_nil,or_false,not_or];exact⟨zn2 (Nat.lt_succ_self _),Nat.ne_of_gt hlS⟩
    have hval:∀(i:Nat) (v:Value),items[i]? = some v->(fun i=>ns.getD i 0) i<6/\∃t,v=.int (Int.ofNat ((fun i=>ns.getD i 0) i)) t:=fun i v hv=>by
     have hil:i<ns.length:=by
      have:=(Array.getElem?_eq_some_iff.mp hv).1;omega
     obtain⟨t,et⟩:=IntsAre.int_at hi i v (by rw[Array.getElem?_toList]; exact hv);refine⟨?_,t,?_⟩
     ·simp only[List.getD_eq_getElem?_getD,List.getElem?_eq_getElem hil,Option.getD_some];exact h6 _ (List.getElem_mem hil)
     ·rw[et];simp[hil]
    refine zKZ led ((Walks.list hh3 _ l hneI items).toS) s.heap.objs.size
     hSf (fun i=>ns.getD i 0) hval (items.size - 0) 0 _ (by omega) (Nat.zero_le _)
     ⟨⟨_,zm6 _ rfl,rfl,rfl⟩,(hl1.push _)⟩ ?hS0 ?hR
    case hS0=>exact zIG led (zm5 _ hS)
    case hR=>
     intro s' hm hS';rw[hacc] at hS';obtain⟨h',g',d',tk',os'⟩:=s';have eg:g'=s.gens:=hm.gens;have ed:d'=s.drawn:=hm.drawn;have eo:os'=s.os:=hm.os;subst eg; subst ed; subst eo;show wpAny _ _ _ _ _ _;refine zn5 ?_;show wpAny _ _ (ret Value.none) _ _ _;refine zn5 ⟨rfl,h',tk',rfl,hS',fun b o hb e=>?_⟩;have hb1:b≠s.heap.objs.size:=zn2 hb;have hb2:b≠(s.heap.push { cls:=.type "set",dict:=none,data:=.set #[] 0 (.fresh 0 0 led) }).objs.size:=by
      rw[Heap.size_push]; exact zn2 (Nat.lt_succ_of_lt hb)
     exact hm.heap b o (by simp only[List.mem_cons,List.mem_singleton,List.not_mem_nil,or_false,not_or]; exact⟨hb1,hb2⟩) (zm5 _ (zm5 _ e))
   ·cases r₂ with
    | error e=>exact hr₂
    | ok fl₂=>
     cases fl₂ with
     | ret r=>
      obtain⟨rfl,h',tk,rfl,hS',hk'⟩:=hr₂;repeat (any_goals (first | assumption | wp_step))
      exact h _ _ hS' hk'
     | _=>exact hr₂.elim
  | _=>exact hr.elim
end
end St
end
section
namespace L2
open PySem PySem.Spec PyProof.Rows
section
variable {X:Cx}
noncomputable def nats (ns:List Nat):List V:=ns.map fun n=>.int (Int.ofNat n)
def tSS (K:zFg)(te:TE):TE:=fun σ H Q=>te σ H fun x H1=>∃a ns,x=.ref a/\SqL K H1 a (nats ns)/\(∀n∈ns,n<6)/\∀p,H1 p=none->Q (.ref p) (upd H1 p (.lst (nats (ns.foldl St.stp []))))
theorem zDQ:∀{ns:List Nat} {its:List Value},Vals (nats ns) its->IntsAre its (ns.map Int.ofNat)
 | [],_,h=>by cases h; exact .nil
 | n::ns,_,h=>by
  cases h with
  | cons h1 h2=>
   obtain⟨t,rfl⟩:=(show ∃t,_=Value.int (Int.ofNat n) t from h1)
   exact .cons _ _ (zDQ h2)
theorem zD0:∀{ns:List Nat} {its:List Value},IntsAre its (ns.map Int.ofNat)->Vals (nats ns) its
 | [],_,h=>by cases h; exact .nil
 | n::ns,_,h=>by
  cases h with
  | cons _ t h=>exact .cons ⟨t,rfl⟩ (zD0 h)
theorem zGN {e:Expr}{te:TE}{p1 p2 p3 p4:Pos}(hc:X.calm=true)(he:PE X e te)(g1:Gl X "sorted")(m1:X.mg "sorted" = none)(b1:bootBuiltins "sorted" = some (.builtin "sorted"))(g2:Gl X "set")(m2:X.mg "set" = none)(b2:bootBuiltins "set" = some (.type "set"))
  (hs1:starEach [.Call (.Name "set" p2) [e] [] p3] X.env=[(false,eval (.Call (.Name "set" p2) [e] [] p3) X.env)])(hs2:starEach [e] X.env=[(false,eval e X.env)]) :
  PE X (.Call (.Name "sorted" p1) [.Call (.Name "set" p2) [e] [] p3] [] p4) (tSS X.K te):=by
 intro pins s σ H Q I h;have hh:=I.ok.hd hc;refine wpAny_Call_Name_kw (zBR I g1 m1 b1 ?_);refine PyProof.Rows.callWith_builtin1 ?_ hs1 rfl;rw[hs1];show wpAny _ _ (spliced ((false,eval (.Call (.Name "set" p2) [e] [] p3) X.env)::[])) _ _ s;refine Calls.spliced_cons ?_;refine wpAny_Call_Name_kw (zBR I g2 m2 b2 ?_);refine PyProof.Rows.callWith_type1 ?_ hs2 rfl;rw[hs2];show wpAny _ _ (spliced ((false,eval e X.env)::[])) _ _ s;refine Calls.spliced_cons (thn (he pins s σ H _ I h) fun u s1 hZz=>?_);obtain⟨x,H1,I1,r1,a,ns,ex,hx,h6,q⟩:=hZz;subst ex;cases r1;refine Calls.spliced_nil ?_;obtain⟨its,rv,pl,hz⟩:=I1.list hx;refine St.set_list hh pl.isList (by simpa using zDQ rv) h6 fun h' tk hS hk=>?_;refine Calls.spliced_nil ?_;refine St.sorted_set hh hS fun h'' tk' L vs n hk' hlt hget hints=>?_;refine⟨.ref L,upd H1 L (.lst (nats (ns.foldl St.stp []))),I1.laid (t':=tk') (fun b o qb=>hk' b o (hk b o (zm7 qb) qb)) (Nat.le_of_lt hlt) ⟨?_,vs,n,zD0 hints,hget⟩,rfl,q L (I1.hok.fresh (Nat.le_of_lt hlt))⟩;have:=hS;obtain⟨es,ep,t,_,h1,_,ht⟩:=this;rw[nats,List.length_map];exact St.small_line (St.mem_b4 ht.mem).1
end
section
variable {X:Cx}
theorem zIg:OpR X (binaryOp .Add) (fun x y H Q=>∃a b ys,x=.ref a/\y=.ref b/\SqT X.K H a []/\SqT X.K H b ys/\Q (.ref b) H):=by
 intro pins s σ H x y v u Q I rx ry h;obtain⟨a,b,ys,rfl,rfl,ha,hb,q⟩:=h;cases rx;cases ry;obtain⟨its,r1,⟨⟨cls,dd,data,sl⟩,ho,hc,n,hd⟩,_⟩:=I.tuple ha;obtain⟨its2,r2,⟨⟨cls2,dd2,data2,sl2⟩,ho2,hc2,n2,hd2⟩,_⟩:=I.tuple hb;simp only at hc hd hc2 hd2;subst hc hd hc2 hd2;cases r1;exact concat_meets ⟨_,ho,rfl⟩ ⟨_,ho2,rfl⟩ noFill_tuple_add seq_tuple_add PySem.F.slot_tuple_add PySem.F.entry_tuple_add (PySem.F.args_tuple_add_2 _ _)
  (tuple_addW0 a b #[] its2.toArray n n2 dd dd2 sl sl2 rfl) ⟨ho,ho2,⟨.ref b,H,I,rfl,q⟩⟩
theorem zDW (l:Addr)(items:Array Value)(n:Nat)(b:Addr)(items2:Array Value)(n2:Nat)(dd2:Option Addr)(sl2:Array (Option Value))(hs0:¬(!items.isEmpty&&Builtin.List.listTooLong (items.size+items2.size))=true)(hs1:items.size<=sizeLine)(hs2:items.size+items2.size<=sizeLine+1) :
  Meets (Builtin.«list.extend» ⟨[.ref l,.ref b],[]⟩) (fun _ R s=>s.heap.get? l=some { cls:=.type "list",dict:=none,data:=.seq items n,slots:=#[] }/\s.heap.get? b=some { cls:=.type "tuple",dict:=dd2,data:=.seq items2 n2,slots:=sl2 }/\R (.ok (.ret Value.none)) { s with heap:=s.heap.update l (Obj.mapSeq fun x=>x++items2),toks:=s.toks }):=
 .of_wp fun prog w A R s h=>by
  obtain⟨hp,g,d,tk,os⟩:=s; obtain⟨hl,hb,h⟩:=h; have f1:=AutoSeq1.idx_int; have f2:=AutoSeq1.sub_tuple_tuple; have f3:=AutoSeq1.sub_list_list; have f4:=AutoSeq1.sub_tuple_list; have f5:=AutoSeq1.sub_list_tuple;have hz':(items++items2).size<=sizeLine+1:=by rw[Array.size_append]; exact hs2
  wp_walk using (wpAny_updateSeq hl rfl (hz:=hs1) (_hz':=hz')),wpAny_loadPart' hl,wpAny_loadPart' hb; exact⟨_,rfl,h⟩
def rExtT (K:zFg):V->List V->Hp->VK->Prop:=fun x vs H Q=>∃l b xs zs,x=.ref l/\vs=[.ref b]/\H l=some (.lst xs)/\SqT K H b zs/\xs.length+zs.length<=sizeLine/\Q .non (upd H l (.lst (xs++zs)))
theorem zKW:MtM X "list.extend" (rExtT X.K):=by
 intro pins s σ H x vs v us Q I rx rv h;obtain⟨l,b,xs,zs,rfl,rfl,hH,hB,hz,q⟩:=h;cases rx;obtain⟨u,rfl,ru⟩:=rv.one;cases ru;obtain⟨z,its,n,r,hl,e⟩:=I.lstM hH;obtain⟨its2,r2,⟨⟨cls2,dd2,data2,sl2⟩,ho2,hc2,n2,hd2⟩,_⟩:=I.tuple hB;simp only at hc2 hd2;subst hc2 hd2;have hl2:=r2.length;have hsz:its.toArray.size+its2.toArray.size<=sizeLine:=by rw[List.size_toArray,List.size_toArray]; omega
 have hlong:¬(!its.toArray.isEmpty&&Builtin.List.listTooLong (its.toArray.size+its2.toArray.size))=true:=by
  rw[zIn hsz,Bool.and_false];exact Bool.false_ne_true
 refine call_meets F.slot_list_extend ⟨_,e,rfl⟩ F.entry_list_extend (F.args_list_extend_2 _ _)
  (zDW l its.toArray n b its2.toArray n2 dd2 sl2 hlong (by rw[List.size_toArray]; omega) (by omega)) ⟨e,ho2,?_⟩
 refine⟨.non,_,I.lset (its':=its++its2) hH e (by simp) (r.append r2) ?_,rfl,q⟩;rw[List.length_append];omega
end
section
variable {X:Cx}
theorem zBJ {prog:Program}{w:World}{A:Around}{E:Value->Shared->Prop}{s:Shared}{t sl:Addr}{items:Array Value}{vl vu:Value}{lo hi:Option Int}{Q:Value->Shared->Prop}(ht:IsTup s.heap t items)(hs:s.heap.IsSliceOf sl vl vu .none)(pl:IsPart vl lo)(pu:IsPart vu hi)
  (hw:HT.sIx items.size 0 lo=0/\HT.sIx items.size items.size hi=items.size)(h:Q (.ref t) s):wpAny (model prog w) A (getItem (.ref t) (.ref sl)) Q E s:=by
 obtain⟨os,hos,hcs,hds⟩:=id hs;have hTs:s.TypeIs (.ref sl) "slice":=⟨os,hos,hcs⟩
 unfold getItem;try with_reducible refine wpAny_holding ?_
 first | refine zn4 (zn5 ?_) | skip
 refine zn4 (wpAny_sequenceKey ht.typeIs (by decide) ?_);refine zn4 (wpAny_callSpecial?_slot (name:=Str.ofString "__getitem__") ht.typeIs PyProof.Rows.slot_tuple_getitem
  (wpAny_call_entry PyProof.Rows.slot_tuple_getitem ht.typeIs entry_tuple_getitem ?_ (args_tuple_getitem _ _)))
 show wpAny _ _ (Builtin.Tuple.tupleItemsOf (.ref t) >>= _) _ _ s;refine zn4 (tupleItemsOf_ ht ?_);refine zn4 (wpAny_typeOf hTs ?_);rw[if_pos (by decide)];refine zn4 (HT.sliceApplied_gen hs pl pu ?_);have hyes:(((HT.sIx items.size 0 lo:Nat):Int) == 0&&(1:Int) == 1&&(HT.sIx items.size items.size hi - HT.sIx items.size 0 lo) == items.size)=true:=by
  rw[hw.1,hw.2]; simp
 show wpAny _ _ (if (((HT.sIx items.size 0 lo:Nat):Int) == 0&&(1:Int) == 1&&(HT.sIx items.size items.size hi - HT.sIx items.size 0 lo) == items.size)=true then _ else _) _ _ s;rw[if_pos hyes];unfold Builtin.Tuple.tupleIsExact;refine zn4 (zn4 (wpAny_typeOf ht.typeIs (zn5 ?_)));rw[if_pos (by decide)];refine zn4 (wpAny_rule (zn4 (zn5 (zn5 ⟨_,rfl,zn5 h⟩))))
def rSlTA (K:zFg):V->Option Int->Option Int->Hp->VK->Prop:=fun x lo hi H Q=>∃a xs,x=.ref a/\SqT K H a xs /\
 (HT.sIx xs.length 0 lo=0/\HT.sIx xs.length xs.length hi=xs.length->Q (.ref a) H) /\
 (¬(HT.sIx xs.length 0 lo=0/\HT.sIx xs.length xs.length hi=xs.length)->∀p,H p=none->Q (.ref p) (upd H p (.tup (cutV xs lo hi))))
theorem zJ9:SlR X (rSlTA X.K):=by
 intro pins s σ H x v vl vu lo hi sl Q I rx hs pl pu h;obtain⟨a,xs,rfl,hx,q1,q2⟩:=h;by_cases hw:HT.sIx xs.length 0 lo=0/\HT.sIx xs.length xs.length hi=xs.length
 ·cases rx;obtain⟨its,r,ht,hz⟩:=I.tuple hx;have hlen:its.toArray.size=xs.length:=by rw[List.size_toArray]; exact r.length.symm
  refine⟨"tuple",_,PyProof.Rows.slot_tuple_getitem.lookup,ht.typeIs,?_⟩;exact zBJ ht hs pl pu (by rw[hlen]; exact hw) ⟨.ref a,H,I,rfl,q1 hw⟩
 ·exact zL2 pins s σ H _ v vl vu lo hi sl Q I rx hs pl pu ⟨a,xs,rfl,hx,hw,q2 hw⟩
theorem zCi {M:Model}{A:Around}{E:Value->Shared->Prop}{s:Shared}{β:Type}{n:Nat}(f:Nat->β->Sem (ForInStep β))(I:Nat->β->Shared->Prop)(Q:β->Shared->Prop)
  (turn:∀i b s,i<n->I i b s->wpAny M A (f i b) (fun r s'=>match r with | .yield b'=>I (i+1) b' s' | .done b'=>Q b' s') E s)
  (fin:∀b s,I n b s->Q b s)(b:β)(h:I 0 b s):wpAny M A (forIn [0:n] b f) Q E s:=by
 rw[Std.Legacy.Range.forIn_eq_forIn_range'];refine wpAny_forIn_list f (fun rest b s=>∃i,rest=List.range' i (n - i)/\i<=n/\I i b s) Q ?_ ?_ _ b ⟨0,by simp[Std.Legacy.Range.size],Nat.zero_le _,h⟩
 ·rintro x rest b s ⟨i,e,hi,hI⟩;have hlt:i<n:=by
   have:=congrArg List.length e;simp at this;omega
  have e2:n - i=(n - (i+1))+1:=by omega
  rw[e2,List.range'_succ] at e;obtain⟨rfl,rfl⟩:=List.cons.inj e;refine wpAny_mono (turn x b s hlt hI) (fun r s' hr=>?_) fun _ _ h'=>h';cases r with
  | done b'=>exact hr
  | yield b'=>exact⟨x+1,rfl,hlt,hr⟩
 ·rintro b s ⟨i,e,hi,hI⟩;have:i=n:=by
   have:=congrArg List.length e;simp at this;omega
  subst this;exact fin b s hI
theorem zC1 (l:Addr)(items:Array Value)(n:Nat)(dd:Option Addr)(sl:Array (Option Value))(x:Value)(e:Value->Bool)(j:Nat)(hj:j<items.size)
  (hit:e items[j]=true)(hno:∀m (hm:m<items.size),m<j->e items[m]=false) :
  Meets (Builtin.«tuple.index» ⟨[.ref l,x],[]⟩)
   (fun A R s=>s.heap.get? l=some { cls:=.type "tuple",dict:=dd,data:=.seq items n,slots:=sl }/\(∀y,y∈items->SeqAt.EqAt A.in1 s y x (e y))/\R (.ok (.ret (.int j s.toks))) { s with toks:=s.toks+1 }):=
 .of_wp fun prog w A R s h=>by
  obtain⟨hp,g,d,tk,os⟩:=s; obtain⟨hl,he,h⟩:=h;wp_walk using AutoSeq1.wpAny_loadPart' hl,zCi _ (fun i b s'=>b.1=none/\s'=⟨hp,g,d,tk,os⟩/\i<=j) _
  case turn=>
   rintro i b s' hi ⟨hb,rfl,hij⟩;have hi':i<items.size:=by omega
   have e1:items[i]? = some items[i]:=by simp[hi']
   rw[e1];refine zn4 (he _ (Array.getElem_mem hi') prog w _ _ ?_);by_cases hx:i=j
   ·subst hx;rw[hit];wp_walk
    exact⟨_,rfl,h⟩
   ·rw[hno i hi' (by omega)];wp_walk
    exact⟨rfl,rfl,by omega⟩
  case fin=>
   rintro b s' ⟨hb,rfl,hij⟩;omega
  case h=>exact⟨rfl,rfl,Nat.zero_le _⟩
def rIdxT (K:zFg):V->List V->Hp->VK->Prop:=fun x vs H Q=>∃a xs y j,x=.ref a/\vs=[y]/\SqT K H a xs/\flatV y=true/\xs.all flatV=true/\(xs.findIdx? fun z=>eqV z y)=some j/\Q (.int (j:Nat)) H
theorem zG3:MtR X "tuple.index" (rIdxT X.K):=by
 intro pins s σ H x vs v us Q I rx rv h;obtain⟨a,xs,y,j,rfl,rfl,hx,fy,fs,hf,q⟩:=h;cases rx;cases rv with
 | @cons _ u _ us ry rn=>
 cases rn;obtain⟨its,r,⟨⟨cls,dd,data,sl⟩,ho,hc,n,hd⟩,_⟩:=I.tuple hx;simp only at hc hd;subst hc hd;obtain⟨hj,hp,hq⟩:=List.findIdx?_eq_some_iff_getElem.mp hf;have len:=r.length;have at':∀i (h1:i<xs.length) (h2:i<its.toArray.size),eqU y its.toArray[i]=eqV xs[i] y:=fun i h1 h2=>by
  obtain⟨w,e,rw'⟩:=r.get (i:=i) (x:=xs[i]) (by simp[h1]);have e2:its.toArray[i]=w:=by
   have h2':i<its.length:=by simpa using h2
   rw[List.getElem?_eq_getElem h2'] at e;simpa using zn3 e
  rw[e2];exact zJI rw' (zp7 fs _ (List.getElem_mem h1))
 have hj2:j<its.toArray.size:=by rw[List.size_toArray]; omega
 refine call_meets PySem.F.slot_tuple_index ⟨_,ho,rfl⟩ PySem.F.entry_tuple_index (PySem.F.args_tuple_index_2 _ _)
  (zC1 a its.toArray n dd sl u (eqU y) j hj2 (by rw[at' j hj hj2]; exact hp) fun m hm hl=>?_)
  ⟨ho,fun z hz=>zFf ry fy r fs z (by simpa using hz),⟨.int (j:Nat),H,I.tok _,⟨_,rfl⟩,q⟩⟩
 have hm':m<xs.length:=by omega
 rw[at' m hm' hm];simpa using hq m hl
theorem zCa:fillsNumberSlot (.type "tuple") "mul" = pure false:=
 PySem.fillsNumberSlot_seq (id := "tuple.__mul__") (r:=some (.builtin "tuple.__rmul__")) PySem.F.slot_tuple_mul.lookup (by decide +kernel) PySem.F.slot_tuple_rmul.lookup (by decide +kernel)
theorem zDK:seqRepeat? (.type "tuple")=pure (some (.builtin "tuple.__mul__")):=by
 unfold seqRepeat?;rw[PySem.seqSlot_of (T := "tuple") (name := "__mul__") (id := "tuple.__mul__") PySem.F.slot_tuple_mul.lookup (by decide +kernel),PySem.seqSlot_of (T := "tuple") (name := "__rmul__") (id := "tuple.__rmul__") PySem.F.slot_tuple_rmul.lookup (by decide +kernel)];rfl
theorem zCJ (a:Int)(t:Tok)(l:Addr)(items:Array Value)(n:Nat)(dd:Option Addr)(sl:Array (Option Value)) :
  Meets (Builtin.«int.__rmul__» ⟨[.int a t,.ref l],[]⟩) (fun _ R s=>s.heap.get? l=some { cls:=.type "tuple",dict:=dd,data:=.seq items n,slots:=sl }/\R (.ok (.ret Value.notImplemented)) s):=
 .of_wp fun prog w A R s h=>by obtain⟨hp,g,d,tk,os⟩:=s; obtain⟨hl,h⟩:=h; wp_walk; exact⟨_,rfl,h⟩
theorem zFF (l:Addr)(items:Array Value)(n:Nat)(dd:Option Addr)(sl:Array (Option Value))(u:Tok) :
  Meets (Builtin.«tuple.__mul__» ⟨[.ref l,.int 1 u],[]⟩) (fun _ R s=>s.heap.get? l=some { cls:=.type "tuple",dict:=dd,data:=.seq items n,slots:=sl }/\R (.ok (.ret (.ref l))) s):=
 .of_wp fun prog w A R s h=>by
  obtain⟨hp,g,d,tk,os⟩:=s; obtain⟨hl,h⟩:=h;wp_walk using AutoSeq1.wpAny_loadPart' hl
  exact⟨_,rfl,h⟩
theorem zFE (l:Addr)(items:Array Value)(n:Nat)(dd:Option Addr)(sl:Array (Option Value))(x:Int)(u:Tok)(h0:¬(x < -(2 ^ 63)||x ≥ 2 ^ 63)=true)(h1:¬(items.isEmpty||x == 1)=true)(h2:¬(x<=0||items.isEmpty)=true)
  (h3:¬items.size * x > (2 ^ 63 - 1) / 8)(h4:¬Builtin.Tuple.tupleTooMany (items.size * x)=true)(h5:(List.foldl (·++·) #[] (List.replicate x.toNat items)).size<=sizeLine) :
  Meets (Builtin.«tuple.__mul__» ⟨[.ref l,.int x u],[]⟩) (fun _ R s=>s.heap.get? l=some { cls:=.type "tuple",dict:=dd,data:=.seq items n,slots:=sl }/\R (.ok (.ret (.ref s.heap.objs.size))) { s with heap:=s.heap.push { cls:=.type "tuple",data:=.seq (List.foldl (·++·) #[] (List.replicate x.toNat items)) } }):=
 .of_wp fun prog w A R s h=>by
  obtain⟨hp,g,d,tk,os⟩:=s; obtain⟨hl,h⟩:=h;wp_walk using AutoSeq1.wpAny_loadPart' hl
  rw[if_neg h0];refine zn4 (tupleItemsOf_ (t:=l) (items:=items) ⟨_,hl,rfl,n,rfl⟩ ?_);dsimp only;rw[if_neg h1,if_neg h2,if_neg h3,if_neg h4];wp_walk
  exact⟨_,rfl,h⟩
def rRepT (K:zFg):R2:=fun x y H Q=>∃a k xs,x=.ref a/\y=.int k/\SqT K H a xs/\xs≠[]/\1<=k/\k<=1000/\xs.length * k.toNat<=sizeLine /\
 (k=1->Q (.ref a) H)/\(k≠1->∀p,H p=none->Q (.ref p) (upd H p (.tup (List.replicate k.toNat xs).flatten)))
theorem zKE:OpR X (binaryOp .Mult) (rRepT X.K):=by
 intro pins s σ H x y v u Q I rx ry h;obtain⟨a,k,xs,rfl,rfl,hx,hne,k1,k2,hz,q1,q2⟩:=h;cases rx;obtain⟨t,rfl⟩:=ry;obtain⟨its,r,⟨⟨cls,dd,data,sl⟩,ho,hc,n,hd⟩,hz0⟩:=I.tuple hx;simp only at hc hd;subst hc hd;have hl:=r.length;have hne':its≠[]:=by
  intro e;subst e;exact hne (List.length_eq_zero_iff.mp hl)
 have em:its.toArray.isEmpty=false:=by cases its with | nil=>exact absurd rfl hne' | cons=>rfl
 refine wpAny_binaryOp_repeat_ref (T := "tuple") (U := "int") (by decide) ⟨_,ho,rfl⟩ (fun s'=>typeIs_int s' k t) zCa PySem.F.fills_int_mul PySem.F.slot_int_rmul zDK PySem.F.slot_int_index.lookup
  (call_meets PySem.F.slot_int_rmul (typeIs_int s k t) PySem.F.entry_int_rmul (PySem.F.args_int_rmul_2 _ _) (zCJ k t a its.toArray n dd sl) ⟨ho,rfl,⟨_,ho,rfl⟩,?_⟩)
 by_cases hk:k=1
 ·subst hk;exact call_meets PySem.F.slot_tuple_mul ⟨_,ho,rfl⟩ PySem.F.entry_tuple_mul (PySem.F.args_tuple_mul_2 _ _) (zFF a its.toArray n dd sl t) ⟨ho,⟨.ref a,H,I,rfl,q1 rfl⟩⟩
 ·have f0:List.foldl (fun x1 x2=>x1++x2) #[] (List.replicate k.toNat its.toArray)=(List.replicate k.toNat its).flatten.toArray:=by
   have:=zD2 its k.toNat [];rw[List.nil_append] at this;exact this
  have sz:(its.length:Int) * k<=sizeLine:=by
   have:((its.length * k.toNat:Nat):Int)<=(sizeLine:Nat):=by rw[<-hl]; exact_mod_cast hz
   rw[Int.natCast_mul,Int.toNat_of_nonneg (by omega)] at this;exact this
  refine call_meets PySem.F.slot_tuple_mul ⟨_,ho,rfl⟩ PySem.F.entry_tuple_mul (PySem.F.args_tuple_mul_2 _ _)
   (zFE a its.toArray n dd sl k t (by simp; omega) (by rw[em]; simpa using hk) (by rw[em]; simp; omega) ?_ ?_ ?_) ⟨ho,?_⟩
  ·have:((sizeLine:Nat):Int)<=(2 ^ 63 - 1) / 8:=by decide
   rw[List.size_toArray];omega
  ·rw[List.size_toArray];unfold Builtin.Tuple.tupleTooMany;simp only[decide_eq_true_eq];omega
  ·rw[f0,List.size_toArray,zG7,Nat.mul_comm,<-hl]; exact hz
  ·rw[f0];refine⟨.ref _,_,I.laid (t':=s.toks) (o:=.tup (List.replicate k.toNat xs).flatten) (fun b ob q=>zm5 _ q) (zm8 _) ?_,rfl,q2 hk _ (I.hok.fresh (zm8 _))⟩;exact⟨by rw[zG7,Nat.mul_comm]; exact hz,_,r.rep k.toNat,TupN.new _ _⟩
end
section
variable {prog:Program}{w:World}{A:Around}{E:Value->Shared->Prop}{s:Shared}{it t:Addr}{i:Nat}{items:Array Value}
theorem zCO {Q:Value->Shared->Prop}(hit:s.heap.IsTupleIter it t i)
  (h:wpAny (model prog w) A.in1 (Builtin.«tuple_iterator.__next__» ⟨[.ref it],[]⟩) (fun fin s'=>∃v,fin=.done (.ret v)/\Q v s') E s):wpAny (model prog w) A (Builtin.SmallTypes.nextOf (.ref it)) Q E s:=by
 unfold Builtin.SmallTypes.nextOf;refine zn4 (wpAny_callSpecial?_slot (name:=Str.ofString "__next__") hit.typeIs PySem.F.slot_tuple_iterator_next (wpAny_call_entry PySem.F.slot_tuple_iterator_next hit.typeIs PySem.F.entry_tuple_iterator_next ?_ (PySem.F.args_tuple_iterator_next_1 _)));refine wpAny_mono h (fun fin s' ⟨v,e,q⟩=>⟨v,e,zn5 q⟩) fun _ _ e=>e
theorem zFQ {x:Value}{Q:Value->Shared->Prop}(hit:s.heap.IsTupleIter it t i)(ht:s.heap.IsTuple t items)(hx:items[i]? = some x)(hQ:∀h',h'.IsTupleIter it t (i+1)->Heap.SameBut it s.heap h'->Q x { s with heap:=h' }):wpAny (model prog w) A (Builtin.SmallTypes.nextOf (.ref it)) Q E s:=by
 refine zCO hit ?_;obtain⟨o,ho,hc,hd⟩:=id hit;obtain⟨ol,hol,_,nl,hdl⟩:=ht;show wpAny _ _ (field (.ref it) 0 >>= _) _ _ s;refine zn4 (wpAny_field ho hd (x:=.ref t) rfl ?_);show wpAny _ _ (if (Value.ref t == Value.none)=true then _ else _) _ _ s;rw[if_neg (show ¬((Value.ref t == Value.none)=true) from Bool.false_ne_true)];show wpAny _ _ (field (.ref it) 1 >>= _) _ _ s;refine zn4 (wpAny_field ho hd (x:=.int i 0) rfl ?_);show wpAny _ _ (seqItems? (.ref t) >>= _) _ _ s;refine zn4 (wpAny_seqItems hol hdl ?_);simp only[Int.toNat_natCast,hx];refine zn4 (wpAny_setField ho hd (by simp) (zn5 ⟨x,rfl,hQ _ ?_ (Heap.SameBut.update ..)⟩));exact⟨_,Heap.get?_update_self _ ho (Obj.isFreed_of_fields (Obj.data_mapFields hd _)),(Obj.cls_mapFields ..).trans hc,by rw[Obj.data_mapFields hd]; simp[rawInt]⟩
theorem zDP {Q:Value->Shared->Prop}(hh:A.handled=none)(hit:s.heap.IsTupleIter it t i)(ht:s.heap.IsTuple t items)(hx:items[i]? = none)
  (hE:∀h' e,Heap.ExtBut it s.heap h'->(∃o,h'.get? e=some o/\o.cls=.type "StopIteration")->E (.ref e) { s with heap:=h' }):wpAny (model prog w) A (Builtin.SmallTypes.nextOf (.ref it)) Q E s:=by
 refine zCO hit ?_;obtain⟨o,ho,hc,hd⟩:=id hit;obtain⟨ol,hol,_,nl,hdl⟩:=ht;show wpAny _ _ (field (.ref it) 0 >>= _) _ _ s;refine zn4 (wpAny_field ho hd (x:=.ref t) rfl ?_);show wpAny _ _ (if (Value.ref t == Value.none)=true then _ else _) _ _ s;rw[if_neg (show ¬((Value.ref t == Value.none)=true) from Bool.false_ne_true)];show wpAny _ _ (field (.ref it) 1 >>= _) _ _ s;refine zn4 (wpAny_field ho hd (x:=.int i 0) rfl ?_);show wpAny _ _ (seqItems? (.ref t) >>= _) _ _ s;refine zn4 (wpAny_seqItems hol hdl ?_);simp only[Int.toNat_natCast,hx];refine zn4 (wpAny_rule (zn4 (wpAny_setField ho hd (by simp) ?_)));show wpAny _ _ (newExc (.type "StopIteration") [] >>= _) _ _ _;refine zn4 ?_;simp only[newExc,newTuple];refine zn4 (wpAny_newObj_type ?_ (by size_fits));refine zn4 (m:=firstArgMember _ _) (wpAny_of_eq (a:=Value.none) (by first | rfl | (simp only[firstArgMember]; rfl)) ?_);refine wpAny_newObj_type ?_ (by size_fits);simp only[raiseNew];refine zn4 (wpAny_handled ?_);rw[show A.in1.handled=none from hh];exact zn4 (zn5 (wpAny_throw (hE _ _ (((Heap.SameBut.update ..).extBut.push _).push _) ⟨_,zm6 _ rfl,rfl⟩)))
theorem drawsT (hh:A.handled=none)(it t:Addr)(hne:t≠it)(items:Array Value) :
  Draws prog w A it [it,t] items.size (fun i v=>items[i]? = some v) (fun i h=>h.IsTupleIter it t i/\h.IsTuple t items) where
 live:=fun _ _ st=>let ⟨o,ho,_⟩:=st.1; ⟨o,ho⟩
 frame:=fun _ _ _ st hk=>⟨st.1.at fun o e=>hk it (by simp) o e,let ⟨o,ho,r⟩:=st.2; ⟨o,hk t (by simp) o ho,r⟩⟩
 item:=fun i s Q E hi st hQ=>zFQ st.1 st.2 (x:=items[i]) (by simp[hi]) fun h' a b=>hQ _ h' s.toks (by simp[hi]) ⟨a,let ⟨o,ho,r⟩:=st.2; ⟨o,(b.2 t hne).trans ho,r⟩⟩ b
 done:=fun s Q E st hE=>zDP hh st.1 st.2 (by simp) hE
theorem zIR (hh:A.handled=none)(it t:Addr)(items:Array Value)(n:Nat)(hx:items[n]? = none) :
  Draws prog w A it [it,t] n (fun _ _=>False) (fun k h=>k=n/\h.IsTupleIter it t n/\h.IsTuple t items) where
 live:=fun _ _ st=>let ⟨o,ho,_⟩:=st.2.1; ⟨o,ho⟩
 frame:=fun _ _ _ st hk=>⟨st.1,st.2.1.at fun o e=>hk it (by simp) o e,let ⟨o,ho,r⟩:=st.2.2; ⟨o,hk t (by simp) o ho,r⟩⟩
 item:=fun i s Q E hi st hQ=>absurd hi (by rw[st.1]; exact Nat.lt_irrefl _)
 done:=fun s Q E st hE=>zDP hh st.2.1 st.2.2 hx hE
theorem zIQ (l:Addr)(items:Array Value)(n:Nat)(dct:Option Addr)(sl:Array (Option Value)) :
  Meets (Builtin.«enumerate.__new__» ⟨[.type "enumerate",.ref l],[]⟩) (fun _ R s=>s.heap.get? l=some { cls:=.type "tuple",dict:=dct,data:=.seq items n,slots:=sl } /\
   R (.ok (.ret (.ref (s.heap.push { cls:=.type "tuple_iterator",data:=.fields #[.ref l,.int 0 0] }).objs.size)))
    { s with heap:=(s.heap.push { cls:=.type "tuple_iterator",data:=.fields #[.ref l,.int 0 0] }).push { cls:=.type "enumerate",data:=.fields #[.none,.bool false,.ref s.heap.objs.size,rawInt 0,.none,.none] } }):=
 .of_wp fun prog w A R s h=>by
  obtain⟨hp,g,d,tk,os⟩:=s; obtain⟨hl,h⟩:=h;have hsub:=sub_enumerate;have hT:Heap.IsTuple (Shared.heap ⟨hp,g,d,tk,os⟩) l items:=⟨_,hl,rfl,n,rfl⟩
  wp_walk using AutoSeq1.wpAny_loadPart' hl
  refine wpAny_stack_any fun st=>zn5 ?_;split
  ·rename_i c _ _ _ _ _;cases (c == Value.type "enumerate") <;> (wp_walk using AutoSeq1.wpAny_loadPart' hl,wpAny_pyIter_tuple hT; exact⟨_,rfl,h⟩)
  ·wp_walk using AutoSeq1.wpAny_loadPart' hl,wpAny_pyIter_tuple hT
   exact⟨_,rfl,h⟩
theorem zF1 {l:Addr}{Q:Value->Shared->Prop}(hL:s.heap.IsTuple l items)
  (h:∀h',IsEnum h' (s.heap.objs.size+1) s.heap.objs.size 0 .none->h'.IsTupleIter s.heap.objs.size l 0->(∀b o,s.heap.get? b=some o->h'.get? b=some o)->Q (.ref (s.heap.objs.size+1)) { s with heap:=h' }) :
  wpAny (model prog w) A (call (.type "enumerate") [.ref l]) Q E s:=by
 obtain⟨⟨c,dct,dt,sl⟩,hl,hc,n,hd⟩:=hL;have hc':c=.type "tuple":=hc;have hd':dt=.seq items n:=hd;subst hc' hd';refine callType_new PySem.F.called_enumerate (by decide) (PySem.F.typeCall_enumerate_1 _) (PySem.F.newCall_enumerate_1 _) (fun obj=>PySem.F.args_object_init_2 obj _) PySem.F.entry_enumerate_new (zIQ l items n dct sl) ⟨hl,?_⟩;have hz:(s.heap.push { cls:=.type "tuple_iterator",data:=.fields #[.ref l,.int 0 0] }).objs.size=s.heap.objs.size+1:=Heap.size_push ..;show _/\_;rw[hz];have he:=zm6 (s.heap.push { cls:=.type "tuple_iterator",data:=.fields #[.ref l,.int 0 0] }) (o:={ cls:=.type "enumerate",data:=.fields #[.none,.bool false,.ref s.heap.objs.size,rawInt 0,.none,.none] }) rfl;rw[hz] at he;exact⟨⟨_,he,rfl⟩,h _ he ⟨_,zm5 _ (zm6 _ rfl),rfl,rfl⟩ fun b o x=>zm5 _ (zm5 _ x)⟩
end
noncomputable def IteT (K:zFg)(a:Addr):It:=
 ⟨fun i H=>∃xs x,SqT K H a xs/\xs[i]? = some x,fun i H v H'=>∃x p,v=.ref p/\H p=none/\H'=upd H p (.tup [.int i,x])/\∀xs,SqT K H a xs->xs[i]? = some x,fun i H=>∃xs,SqT K H a xs/\xs.length<=i⟩
def EnumTnT (e it l:Addr)(i:Nat)(h:Heap):Prop:=(∃old,IsEnum h e it i old)/\h.IsTupleIter it l i
theorem zFD {P:Program}{w:World}{K:zFg}{es:List Expr}{k1:Nat}{ps:Pos}(l e it:Addr):Turn P w K (.Tuple es k1 ps) (IteT K l) [e,it] e (EnumTnT e it l) where
 mem:=by simp
 obj:=fun i h t b hb=>by
  obtain⟨⟨old,te⟩,⟨o1,e1,_,d1⟩⟩:=t;simp only[List.mem_cons,List.not_mem_nil,or_false] at hb;rcases hb with rfl | rfl
  ·exact⟨_,te,(fun v q=>nomatch q)⟩
  ·exact⟨o1,e1,fun v q=>by rw[d1] at q; cases q⟩
 keep:=fun i h h' t k=>by
  obtain⟨⟨old,te⟩,t1⟩:=t;exact⟨⟨old,k e (by simp) _ te⟩,t1.at fun o q=>k it (by simp) o q⟩
 item:=by
  intro X hP hw hK hc i pins s σ H E I hf st hg;subst hP hw hK;obtain⟨xs,x,hx,ex⟩:=hg;obtain⟨its,rv,p,hz⟩:=I.tuple hx;obtain⟨u,hu,ru⟩:=rv.get ex;obtain⟨⟨old,te⟩,t1⟩:=st;have hl:=rv.length;have hi:i<its.toArray.size:=by
   have:=(zp6 hu).1;simpa using this
  have ne:e≠it:=by
   obtain⟨o1,e1,c1,_⟩:=t1;exact zFR "enumerate" "tuple_iterator" te e1 rfl c1 (by decide)
  have nl:l≠it:=by
   obtain⟨o1,e1,c1,_⟩:=t1;obtain⟨o2,e2,c2,_⟩:=p;exact zFR "tuple" "tuple_iterator" e2 e1 c2 c1 (by decide)
  have nel:e≠l:=by
   obtain⟨o2,e2,c2,_⟩:=p;exact zFR "enumerate" "tuple" te e2 rfl c2 (by decide)
  refine wpAny_pyNext_enum_itemD (drawsT (A:=X.A.in1) (by exact I.ok.hd hc) it l nl its.toArray) te (show s.heap.IsTupleIter it l i/\s.heap.IsTuple l its.toArray from ⟨t1,p⟩) hi ne (by simp; exact⟨ne,nel⟩) fun y h' tk hy z1 z2 z3 z4 z5=>?_;have ey:y=u:=by
   have hu':its.toArray[i]? = some u:=by simpa using hu
   rw[hu'] at hy;exact (zn3 hy).symm
  subst ey;refine⟨_,rfl,?_⟩;refine wpAny_letOwnedTupleGo_enum (s:={ s with heap:=h',toks:=tk+1 }) z1 fun h2 z1' sb=>?_;have kk:∀b o,b∉[e,it]->s.heap.get? b=some o->h2.get? b=some o:=fun b o nb q=>by
   simp only[List.mem_cons,List.not_mem_nil,or_false,not_or] at nb;exact (sb.2 b nb.1).trans (z5 b o nb.1 nb.2 q)
  have le:e<s.heap.objs.size:=zm7 te;have gT:h2.get? s.heap.objs.size=some { cls:=.type "tuple",data:=.seq #[.int i tk,y] }:=(sb.2 _ (Nat.ne_of_gt le)).trans z3;refine⟨.ref s.heap.objs.size,upd H s.heap.objs.size (.tup [.int i,x]),I.turnedN (t':=tk+1) hf kk (zm8 _) ⟨by show 2<=sizeLine; decide,[.int i tk,y],.cons ⟨_,rfl⟩ (.cons ru .nil),_,gT,rfl,⟨_,rfl⟩,rfl⟩,rfl,
   ⟨x,_,rfl,I.hok.fresh (zm8 _),rfl,fun zs hq=>by rw[I.tuple_inj hq hx]; exact ex⟩,⟨⟨y,by simpa using z1'⟩,z2.1.at fun o q=>(sb.2 it (Ne.symm ne)).trans q⟩,fun b hb=>?_⟩
  obtain⟨o,q,_⟩:∃o,s.heap.get? b=some o/\True:=by
   simp only[List.mem_cons,List.not_mem_nil,or_false] at hb;obtain⟨o1,e1,_,d1⟩:=t1;rcases hb with rfl | rfl
   ·exact⟨_,te,trivial⟩
   ·exact⟨o1,e1,trivial⟩
  rw[zAm (Nat.ne_of_lt (Heap.lt_size q))];exact (hf b hb).1
 done:=by
  intro X hP hw hK hc i pins s σ H E I hf st hg;subst hP hw hK;obtain⟨xs,hx,hend⟩:=hg;obtain⟨its,rv,p,hz⟩:=I.tuple hx;obtain⟨⟨old,te⟩,t1⟩:=st;have hl:=rv.length;have nl:l≠it:=by
   obtain⟨o1,e1,c1,_⟩:=t1;obtain⟨o2,e2,c2,_⟩:=p;exact zFR "tuple" "tuple_iterator" e2 e1 c2 c1 (by decide)
  refine wpAny_pyNext_enum_endD (zIR (A:=X.A.in1) (by exact I.ok.hd hc) it l its.toArray i (by simp; omega)) te ⟨rfl,t1,p⟩ fun h' kp=>⟨rfl,I.turnedL (t':=s.toks) hf fun b o nb q=>?_⟩
  simp only[List.mem_cons,List.not_mem_nil,or_false,not_or] at nb;exact kp b o nb.2 q
 self:=fun _ _ _ _ _ st h=>by
  obtain⟨⟨old,te⟩,_⟩:=st;exact wpAny_pyIter_enum te h
section
variable {X:Cx}{es:List Expr}{k1:Nat}{tp:Pos}
theorem zH6 {a:Expr}{ta:TA}{p pos:Pos}(hg:Gl X "enumerate")(hm:X.mg "enumerate" = none)(hv:bootBuiltins "enumerate" = some (.type "enumerate"))(ha:PA X [a] ta)(hs:starEach [a] X.env=[(false,eval a X.env)]:=by rfl) :
  PI X (.Tuple es k1 tp) (.Call (.Name "enumerate" p) [a] [] pos) (fun σ H R=>ta σ H fun vs H1=>(∃a xs,vs=[.ref a]/\SqL X.K H1 a xs/\R (Ite X.K a) H1)\/∃a xs,vs=[.ref a]/\SqT X.K H1 a xs/\R (IteT X.K a) H1):=by
 intro pins s σ H R I h;refine Call_ (zBR I hg hm hv (PyProof.Rows.callWith_type1 (thn (ha pos pins s σ H _ I h) fun us s1 hZz=>?_) hs rfl));obtain⟨vs,H1,I1,r1,q1⟩:=hZz;rcases q1 with ⟨l1,xs,rfl,hx,q⟩ | ⟨l1,xs,rfl,hx,q⟩
 ·obtain⟨u,rfl,ru⟩:=vals1 r1;cases ru;obtain⟨its,rx,px,hzx⟩:=I1.list hx;refine call_enumerate_list px.isList fun h' z1 z2 z3 z4=>?_;refine wpAny_pyIter_enum (s:={ s1 with heap:=h' }) z1 ⟨_,_,_,_,H1,rfl,I1.kept (t':=s1.toks) z4,zGc l1 _ _,⟨⟨_,z1⟩,z2⟩,fun b hb=>?_,q⟩;have lb:s1.heap.objs.size<=b:=by
   simp only[List.mem_cons,List.not_mem_nil,or_false] at hb;rcases hb with rfl | rfl <;> omega
  exact I1.fpOk lb (I1.hok.fresh lb)
 ·obtain⟨u,rfl,ru⟩:=vals1 r1;cases ru;obtain⟨its,rx,px,hzx⟩:=I1.tuple hx;refine zF1 px fun h' z1 z2 z4=>?_;refine wpAny_pyIter_enum (s:={ s1 with heap:=h' }) z1 ⟨_,_,_,_,H1,rfl,I1.kept (t':=s1.toks) z4,zFD l1 _ _,⟨⟨_,z1⟩,z2⟩,fun b hb=>?_,q⟩;have lb:s1.heap.objs.size<=b:=by
   simp only[List.mem_cons,List.not_mem_nil,or_false] at hb;rcases hb with rfl | rfl <;> omega
  exact I1.fpOk lb (I1.hok.fresh lb)
end
section
variable {X:Cx}
noncomputable def isIntV:V->Bool
 | .int _=>true
 | _=>false
noncomputable def intU (i:Int):Value->Bool
 | .int j _=>j == i
 | _=>false
theorem zD1 {i:Int}{t:Tok}:∀{xs:List V} {us:List Value},Vals xs us->xs.all isIntV=true->∀u∈us,MeetsSeq.EqGives u (.int i t) (intU i u)
 | _,_,.nil,_=>fun u hu=>by cases hu
 | y::xs,u::us,.cons r q,f=>fun u' hu=>by
  rw[List.all_cons,Bool.and_eq_true] at f;rcases zp1 hu with rfl | hu
  ·cases y with
   | int j=>obtain⟨t',rfl⟩:=r; exact MeetsSeq.EqGives.int j i t' t
   | _=>cases f.1
  ·exact zD1 q f.2 u' hu
def rRemove:V->List V->Hp->VK->Prop:=fun x vs H Q=>∃l xs i j,x=.ref l/\vs=[.int i]/\H l=some (.lst xs)/\xs.all isIntV=true/\(xs.findIdx? fun z=>eqV z (.int i))=some j/\Q .non (upd H l (.lst (xs.eraseIdx j)))
theorem zG2:MtM X "list.remove" rRemove:=by
 intro pins s σ H x vs v us Q I rx rv h;obtain⟨l,xs,i,j,rfl,rfl,hH,hi,hf,q⟩:=h;cases rx;obtain⟨u,rfl,ru⟩:=Vals.one rv;obtain⟨t,rfl⟩:=ru;obtain⟨z,its,n,r,hl,e⟩:=I.lstM hH;obtain⟨hj,hp,hq⟩:=List.findIdx?_eq_some_iff_getElem.mp hf;have at':∀m (h1:m<xs.length) (h2:m<its.toArray.size),intU i its.toArray[m]=eqV xs[m] (.int i):=fun m h1 h2=>by
  obtain⟨w,e,rw'⟩:=r.get (i:=m) (x:=xs[m]) (by simp[h1]);have e2:its.toArray[m]=w:=by
   have h2':m<its.length:=by simpa using h2
   rw[List.getElem?_eq_getElem h2'] at e;simpa using zn3 e
  rw[e2];have fi:=zp7 hi _ (List.getElem_mem h1);cases hx:xs[m] with
  | int y=>rw[hx] at rw'; obtain⟨t',rfl⟩:=rw'; rfl
  | _=>rw[hx] at fi; cases fi
 have hj2:j<its.toArray.size:=by rw[List.size_toArray]; omega
 refine call_meets PySem.F.slot_list_remove ⟨_,e,rfl⟩ PySem.F.entry_list_remove (PySem.F.args_list_remove_2 _ _)
  (MeetsSeq.list_remove l its.toArray n (.int i t) (intU i) (fun y hy=>zD1 r hi y (by simpa using hy)) j hj2 (by rw[at' j hj hj2]; exact hp) (fun m hm hl'=>?_) (by rw[List.size_toArray]; omega)) ⟨e,?_⟩
 ·have hm':m<xs.length:=by rw[List.size_toArray] at hm; omega
  rw[at' m hm' hm];simpa using hq m hl'
 ·refine⟨.non,_,I.lset (its':=its.eraseIdx j) hH e ?_ (r.eraseIdx j) ?_,rfl,q⟩
  ·show its.toArray.eraseIdxIfInBounds j=(its.eraseIdx j).toArray;rw[List.eraseIdxIfInBounds_toArray]
  ·have:=zDX xs j;omega
end
section
variable {X:Cx}{tg:Expr}
end
section
variable {X:Cx}
end
end L2
end
section
namespace L2
open PySem PySem.Spec PySem.W PyProof.Rows
noncomputable def kev {α:Type}(c:Nat->Nat->Bool):KasT α->α
 | .ret a=>a
 | .ask i j k=>kev c (k (c i j))
noncomputable def KOk {α:Type}(N:Nat)(P:α->Prop):KasT α->Prop
 | .ret a=>P a
 | .ask i j k=>i<N/\j<N/\∀b,KOk N P (k b)
theorem KOk.bind {α β:Type}{N:Nat}{P:α->Prop}{R:β->Prop}{f:α->KasT β}(hf:∀a,P a->KOk N R (f a)):∀{t:KasT α},KOk N P t->KOk N R (t.bind f)
 | .ret a,h=>hf a h
 | .ask i j k,h=>⟨h.1,h.2.1,fun b=>KOk.bind hf (h.2.2 b)⟩
theorem KOk.post {α:Type}{N:Nat}{P:α->Prop}{c:Nat->Nat->Bool}:∀{t:KasT α},KOk N P t->P (kev c t)
 | .ret _,h=>h
 | .ask i j k,h=>show P (L2.kev c (k (c i j))) from KOk.post (h.2.2 (c i j))
theorem zJB {α:Type}{N:Nat}{P:α->Prop}{c:Nat->Nat->Bool}{ask:Nat->Nat->(Bool->Shared->Prop)->Shared->Prop}{J:α->Shared->Prop}{s:Shared}(ha:∀i j,i<N->j<N->∀C:Bool->Shared->Prop,C (c i j) s->ask i j C s):∀t:KasT α,KOk N P t->J (kev c t) s->t.kasWp ask J s
 | .ret _,_,h=>h
 | .ask i j k,o,h=>ha i j o.1 o.2.1 _ (zJB ha (k (c i j)) (o.2.2 _) h)
def Pm (N:Nat)(p:Array Nat):Prop:=p.Perm (List.toArray (List.range N))
theorem Pm.lt {N:Nat}{p:Array Nat}(hN:0<N)(h:Pm N p)(i:Nat):p.getD i 0<N:=by
 by_cases hi:i<p.size
 ·have:p[i]∈List.toArray (List.range N):=(Array.Perm.mem_iff h).mp (Array.getElem_mem hi);have e:p.getD i 0=p[i]:=by simp[Array.getD,hi]
  rw[e];simpa using this
 ·have e:p.getD i 0=0:=by simp[Array.getD,hi]
  rw[e]; exact hN
theorem Pm.rev {N:Nat}{p:Array Nat}(h:Pm N p)(i j:Nat):Pm N (kas_rev p i j):=(mirror_perm p i j _).trans h
section
variable {N:Nat}(hN:0<N)
include hN
theorem zGT {p:Array Nat}(h:Pm N p):∀f n,KOk N (fun _=>True) (kas_asc p f n)
 | 0,_=>trivial
 | f+1,n=>⟨h.lt hN _,h.lt hN _,fun b=>by
  cases b with
  | true=>exact trivial
  | false=>exact zGT h f (n+1)⟩
theorem zDf:∀f p n q,Pm N p->KOk N (fun r:Array Nat×Nat×Nat=>Pm N r.1) (kas_desc f p n q)
 | 0,_,_,_,h=>h
 | f+1,p,n,q,h=>⟨h.lt hN _,h.lt hN _,fun b=>by
  cases b with
  | true=>
   show KOk N _ (if q > 0 then _ else _);split
   ·exact zDf f _ _ _ (h.rev _ _)
   ·exact zDf f _ _ _ h
  | false=>exact⟨h.lt hN _,h.lt hN _,fun d=>by
    cases d with
    | true=>exact h
    | false=>exact zDf f _ _ _ h⟩⟩
theorem zE9 {p:Array Nat}(n m:Nat)(h:Pm N p):KOk N (fun r:Nat×Array Nat=>Pm N r.2) (kas_tail3 n m p):=by
 unfold kas_tail3;refine KOk.bind (P:=fun _=>True) (fun _ _=>?_) (zGT hN (h.rev 0 n) _ _);exact h.rev 0 n
theorem zCp {p:Array Nat}(n m:Nat)(h:Pm N p):KOk N (fun r:Nat×Array Nat=>Pm N r.2) (kas_descPart n m p):=(zDf hN _ _ _ _ h).bind fun r hr=>by
 show KOk N _ (if r.2.2 > 0 then _ else _);split
 ·exact zE9 hN _ _ (hr.rev _ _)
 ·exact zE9 hN _ _ hr
theorem zIl {p:Array Nat}(m:Nat)(h:Pm N p):KOk N (fun r:Nat×Array Nat=>Pm N r.2) (kas_count m p):=(zGT hN h _ _).bind fun n _=>by
 show KOk N _ (if (n == m)=true then _ else if n > 1 then _ else _);split
 ·exact h
 ·split
  ·exact⟨h.lt hN _,h.lt hN _,fun b=>by
    cases b with
    | true=>exact h
    | false=>exact zCp hN _ _ (h.rev _ _)⟩
  ·exact zCp hN _ _ h
theorem zDe {p:Array Nat}(k:Nat)(h:Pm N p):∀f l r,KOk N (fun _=>True) (kas_place p k f l r)
 | 0,_,_=>trivial
 | f+1,l,r=>by
  unfold kas_place;split
  ·exact trivial
  ·exact⟨h.lt hN _,h.lt hN _,fun b=>by
    cases b with
    | true=>exact zDe k h f _ _
    | false=>exact zDe k h f _ _⟩
theorem zJx:∀f p k,Pm N p->KOk N (Pm N) (kas_bin f p k)
 | 0,_,_,h=>h
 | f+1,p,k,h=>(zDe hN k h k 0 k).bind fun l _=>zJx f _ _ ((bubble_perm p k (k - l)).trans h)
theorem zCo:KOk N (Pm N) (kas_sort N):=(zIl hN N (Array.Perm.refl _)).bind fun r hr=>by
 show KOk N _ (if r.1<N then _ else _);split
 ·exact zJx hN _ _ _ hr
 ·exact hr
end
noncomputable def sot {α:Type}(d:α)(c:Nat->Nat->Bool)(vs:List α):List α:=if vs.length<2 then vs else (kev c (kas_sort vs.length)).toList.map fun i=>vs.getD i d
section
variable {prog:Program}{w:World}{A:Around}{E:Value->Shared->Prop}{s:Shared}{a:Addr}{vs:List Value}{n:Nat}{κ:SortKind}{c:Nat->Nat->Bool}
def KpB (a:Addr)(h h':Heap):Prop:=∀b o,b≠a->h.get? b=some o->h'.get? b=some o
theorem zJ8 {P:PySem.Fin->Shared->Prop}(ho:s.heap.get? a=some (seqObj "list" vs.toArray n))(h64:vs.length<64)
  (hk:2<=vs.length->∀h',KpB a s.heap h'->∀Q:SortKind->Shared->Prop,Q κ { s with heap:=h' }->wpAny (model prog w) A (keyKind' vs.toArray) Q (fun _ _=>False) { s with heap:=h' })
  (hc:2<=vs.length->∀h',KpB a s.heap h'->∀i j,i<vs.length->j<vs.length->∀C:Bool->Shared->Prop,C (c i j) { s with heap:=h' }->kas_ask prog w A κ vs i j C { s with heap:=h' })
  (h:∀h' e,KpB a s.heap h'->h'.get? a=some (seqObj "list" (sot Value.none c vs).toArray e)->P (.done (.ret .none)) { s with heap:=h' }) :
  wpAny (model prog w) A (Builtin.«list.sort» ⟨[.ref a],[]⟩) P E s:=by
 have lt:a<s.heap.objs.size:=zm7 ho;obtain⟨e1,o1⟩:∃e1,(s.heap.update a (Obj.mapSeq fun _=>(#[]:Array Value))).get? a=some (seqObj "list" #[] e1):=⟨_,get?_update_seq ho fun _=>#[]⟩
 have k3:KpB a s.heap (((s.heap.update a (Obj.mapSeq fun _=>(#[]:Array Value))).push (seqObj "tuple" vs.toArray 0)).push (seqObj "list" #[] 0)):=fun b o nb e=>
  zm5 _ (zm5 _ ((Heap.get?_update_ne _ _ _ _ nb).trans e))
 have o3:(((s.heap.update a (Obj.mapSeq fun _=>(#[]:Array Value))).push (seqObj "tuple" vs.toArray 0)).push (seqObj "list" #[] 0)).get? a=some (seqObj "list" #[] e1):=zm5 _ (zm5 _ o1);have kk:=fun z=>hk z _ k3;have cc:=fun z=>hc z _ k3;rw[list_sort_plain];refine zn4 (listItems_at ho rfl ?_);refine zn4 (listUpdate_at ho rfl ?_ (by rw[List.size_toArray,sizeLine_eq]; omega) (Nat.zero_le _));refine zn4 (seqEpoch_at o1 rfl ?_);refine zn4 (wpAny_newTuple ?_ (by show vs.length<=_; rw[sizeLine_eq]; omega));refine zn4 (wpAny_newList ?_ (Nat.zero_le _));refine wpAny_holding ?_;generalize ((s.heap.update a (Obj.mapSeq fun _=>(#[]:Array Value))).push (seqObj "tuple" vs.toArray 0)).push (seqObj "list" #[] 0)=h3 at k3 o3 kk cc;show wpAny (model prog w) A _ P E { s with heap:=h3 };dsimp only;by_cases n2:vs.toArray.size<2
 ·have so:sot Value.none c vs=vs:=by unfold sot; rw[if_pos (by simpa using n2)]
  rw[so] at h;rw[if_pos n2,if_pos n2];refine zn4 (zn5 ?_);rw[StateT.run_pure];refine zn4 (zn5 ?_);dsimp only;have e0:(arrOf (SortSt.mk' general' (vs.toArray.zip vs.toArray) #[] 7 none)).map (·.2)=vs.toArray:=by
   show (vs.toArray.zip vs.toArray).map (·.2)=vs.toArray;apply Array.toList_inj.mp;simp[List.map_snd_zip]
  rw[e0];obtain⟨c2,hc2⟩:∃c2,(h3.update a (Obj.mapSeq fun _=>vs.toArray)).get? a=some (seqObj "list" vs.toArray c2):=⟨_,get?_update_seq o3 fun _=>vs.toArray⟩
  refine zn4 (seqEpoch_at o3 rfl ?_);refine zn4 (listUpdate_at o3 rfl ?_ (Nat.zero_le _) (by rw[sizeLine_eq]; omega));simp only[bne_self_eq_false,Bool.false_eq_true,if_false];exact zn5 (h _ c2 (fun b o nb e=>(Heap.get?_update_ne _ _ _ _ nb).trans (k3 b o nb e)) hc2)
 have h2:2<=vs.length:=by rw[List.size_toArray] at n2; omega
 rw[if_neg n2,if_neg n2];refine zn4 (wpAny_mono (kk h2 (fun k t=>k=κ/\t={ s with heap:=h3 }) ⟨rfl,rfl⟩) (fun k t hkt=>?_) fun _ _ x=>x.elim);obtain⟨rfl,rfl⟩:=hkt;refine zn4 (wpAny_mono (kat_run (Q:=fun st t=>∃p:Array Nat,p.size=vs.length/\arrOf st=p.map (kas_item (vs.toArray.zip vs.toArray))/\failedOf st=none/\p=kev c (kas_sort vs.length)/\t={ s with heap:=h3 })
  rfl h2 h64 (fun p st t a1 a2 a3 a4=>⟨p,a1,a2,a3,a4⟩) (zJB (cc h2) _ (zCo (by omega)) ⟨rfl,rfl⟩)) ?_ fun _ _ e=>e)
 rintro⟨⟨⟩,st⟩ t ⟨p,hp,har,hf,hpe,rfl⟩;dsimp only;have hout:(arrOf st).map (·.2)=(sot Value.none c vs).toArray:=by rw[kat_snds rfl har,hpe]; unfold sot; rw[if_neg (by omega)]
 have hsz:(sot Value.none c vs).toArray.size=vs.length:=by rw[List.size_toArray]; unfold sot; rw[if_neg (by omega),List.length_map,Array.length_toList,<-hpe,hp]
 rw[hout];obtain⟨c2,hc2⟩:∃c2,(h3.update a (Obj.mapSeq fun _=>(sot Value.none c vs).toArray)).get? a=some (seqObj "list" (sot Value.none c vs).toArray c2):=⟨_,get?_update_seq o3 fun _=>(sot Value.none c vs).toArray⟩
 refine zn4 (seqEpoch_at o3 rfl ?_);refine zn4 (listUpdate_at o3 rfl ?_ (Nat.zero_le _) (zm9 (Nat.le_of_eq hsz) (by rw[sizeLine_eq]; omega)));rw[hf];simp only[bne_self_eq_false,Bool.false_eq_true,if_false];exact zn5 (h _ c2 (fun b o nb e=>(Heap.get?_update_ne _ _ _ _ nb).trans (k3 b o nb e)) hc2)
def PrA (h:Heap)(v:Value)(p:Int×Int):Prop:=∃b o t u n,v=.ref b/\h.get? b=some o/\o.cls=.type "tuple" /\ o.data=.seq #[.int p.1 t,.int p.2 u] n
noncomputable def ltP (p q:Int×Int):Bool:=decide (p.1<q.1\/p.1=q.1/\p.2<q.2)
theorem zN9 {v v':Value}{p q:Int×Int}{C:Bool->Shared->Prop}(h1:PrA s.heap v p)(h2:PrA s.heap v' q)(h:C (ltP p q) s):wpAny (model prog w) A (keyLt' (tuples' true) v v') C E s:=by
 obtain⟨x,o,t,u,n,rfl,e1,_,d1⟩:=h1;obtain⟨y,o',t',u',n',rfl,e2,_,d2⟩:=h2;refine kat_lt e1 d1 e2 d2 (kat_cons (wpAny_eqBool_int ?_));unfold ltP at h;by_cases c1:p.1=q.1
 ·rw[show (p.1 == q.1)=true by simpa using c1];refine kat_yes (kat_cons (wpAny_eqBool_int ?_));by_cases c2:p.2=q.2
  ·rw[show (p.2 == q.2)=true by simpa using c2];refine kat_yes (kat_nil ?_);have:¬(p.1<q.1\/p.1=q.1/\p.2<q.2):=by omega
   rw[decide_eq_false this] at h;exact h
  ·rw[show (p.2 == q.2)=false by simpa using c2];refine kat_no (kat_one _ _ (lt_int ?_));have:decide (p.1<q.1\/p.1=q.1/\p.2<q.2)=decide (p.2<q.2):=by rw[decide_eq_decide]; omega
   rw[this] at h;exact h
 ·rw[show (p.1 == q.1)=false by simpa using c1];refine kat_no (oneLt_int ?_);have:decide (p.1<q.1\/p.1=q.1/\p.2<q.2)=decide (p.1<q.1):=by rw[decide_eq_decide]; omega
  rw[this] at h;exact h
theorem PrA.kept {h h':Heap}{v:Value}{p:Int×Int}(x:PrA h v p)(hlt:∀b o,h.get? b=some o->h'.get? b=some o):PrA h' v p:=by
 obtain⟨b,o,t,u,n,e,e1,r⟩:=x;exact⟨b,o,t,u,n,e,hlt b o e1,r⟩
noncomputable def cmpP (ps:List (Int×Int))(i j:Nat):Bool:=ltP (ps.getD i (0,0)) (ps.getD j (0,0))
theorem zK4 {vs:List Value}{ps:List (Int×Int)}(hp:Paired (PrA s.heap) vs ps)(h2:2<=vs.length){Q:SortKind->Shared->Prop}(h:Q (tuples' true) s):wpAny (model prog w) A (keyKind' vs.toArray) Q E s:=by
 obtain⟨fs,k,hf⟩:∃fs,KatTups s.heap vs fs/\∀f∈fs,∃i t,f=Value.int i t:=by
  clear h2 h;induction hp with
  | nil=>exact⟨[],trivial,fun _ h=>nomatch h⟩
  | cons hx _ ih=>
   obtain⟨b,o,t,u,n,rfl,e1,c1,d1⟩:=hx;obtain⟨fs,k,hf⟩:=ih;exact⟨_::fs,.cons e1 c1 d1 rfl k,fun f hm=>(zp1 hm).elim (fun e=>⟨_,_,e⟩) (hf f)⟩
 have hl:∀{vs fs:List Value},KatTups s.heap vs fs->vs.length=fs.length:=by
  intro vs;induction vs with
  | nil=>intro fs k; cases fs with | nil=>rfl | cons _ _=>exact k.elim
  | cons v vs ih=>intro fs k; cases fs with | nil=>exact k.elim | cons f fs=>rw[List.length_cons,List.length_cons,ih k.2]
 refine kat_kind (T:=.type "int") k (by rw[<-hl k]; omega) (fun f hm=>?_) (by decide) h;obtain⟨i,t,rfl⟩:=hf f hm;exact .now
theorem zKv {h:Heap}:∀{vs:List Value} {ps:List (Int×Int)},Paired (PrA h) vs ps->∀i,i<vs.length->PrA h (vs.getD i Value.none) (ps.getD i (0,0))
 | _,_,.nil,_,hi=>absurd hi (by simp)
 | _,_,.cons hx _,0,_=>hx
 | _,_,.cons _ t,i+1,hi=>by simpa using zKv t i (by simpa using hi)
theorem zFH {l:Addr}{ps:List (Int×Int)}{Q:Value->Shared->Prop}(hl:s.heap.IsList l vs.toArray)(hp:Paired (PrA s.heap) vs ps)(h64:vs.length<64)
  (h:∀h' L e,(∀b o,s.heap.get? b=some o->h'.get? b=some o)->s.heap.objs.size<=L->h'.get? L=some (seqObj "list" (sot Value.none (cmpP ps) vs).toArray e)->Q (.ref L) { s with heap:=h' }) :
  wpAny (model prog w) A (call (.builtin "sorted") [.ref l]) Q E s:=by
 refine Calls.call_function_entry kind_sorted plain_sorted entry_sorted (args_sorted1 _) ?_;unfold Builtin.«sorted»;refine zn4 (m:=checkCount "sorted" 1 1 _) (zn5 ?_);refine zn4 (collect_list hl ?_ (by rw[sizeLine_eq]; omega));refine zn4 (wpAny_newList ?_ (by rw[sizeLine_eq]; omega));have sz:((s.heap.push (seqObj "list" #[] 0)).update s.heap.objs.size (Obj.mapSeq (·++vs.toArray))).objs.size=s.heap.objs.size+1:=by rw[Heap.size_update,size_push']
 have oL:(((s.heap.push (seqObj "list" #[] 0)).update s.heap.objs.size (Obj.mapSeq (·++vs.toArray))).push (seqObj "list" vs.toArray 0)).get? (s.heap.objs.size+1)=some (seqObj "list" vs.toArray 0):=by
  rw[<-sz]; exact zm6 _ rfl
 have kp:∀b o,s.heap.get? b=some o->(((s.heap.push (seqObj "list" #[] 0)).update s.heap.objs.size (Obj.mapSeq (·++vs.toArray))).push (seqObj "list" vs.toArray 0)).get? b=some o:=fun b o q=>
  zm5 _ ((Heap.get?_update_ne _ _ _ _ (zn2 (zm7 q))).trans (zm5 _ q))
 show wpAny _ _ _ _ _ { s with heap:=((s.heap.push (seqObj "list" #[] 0)).update s.heap.objs.size (Obj.mapSeq (·++vs.toArray))).push (seqObj "list" vs.toArray 0) };rw[sz];generalize ((s.heap.push (seqObj "list" #[] 0)).update s.heap.objs.size (Obj.mapSeq (·++vs.toArray))).push (seqObj "list" vs.toArray 0)=h1 at oL kp;have kk:∀h',KpB (s.heap.objs.size+1) h1 h'->∀b o,s.heap.get? b=some o->h'.get? b=some o:=fun h' k b o q=>k b o (zn2 (Nat.lt_succ_of_lt (zm7 q))) (kp b o q);have pp:∀h',KpB (s.heap.objs.size+1) h1 h'->Paired (PrA h') vs ps:=fun h' k=>Paired.mapP hp fun _ _ x=>x.kept (kk h' k);refine zn4 (wpAny_holding (wpAny_call_entry slot_list_sort ⟨_,oL,rfl⟩ entry_list_sort ?body (args_list_sort _)))
 case body=>
  exact zJ8 (s:={ s with heap:=h1 }) (κ:=tuples' true) (c:=cmpP ps) oL h64 (fun z h' k Q q=>zK4 (s:={ s with heap:=h' }) (pp h' k) z q) (fun _ h' k i j hi hj C q=>zN9 (s:={ s with heap:=h' }) (zKv (pp h' k) i hi) (zKv (pp h' k) j hj) q) fun h' e k o=>⟨_,rfl,zn5 ⟨_,rfl,h h' _ e (kk h' k) (Nat.le_succ _) o⟩⟩
end
theorem zGa:∀{xs:List V} {us:List Value},Vals xs us->∀i,i<xs.length->RelV (xs.getD i .non) (us.getD i Value.none)
 | _,_,.nil,_,hi=>absurd hi (by simp)
 | _,_,.cons hx _,0,_=>hx
 | _,_,.cons _ t,i+1,hi=>by simpa using zGa t i (by simpa using hi)
theorem zES {xs:List V}{us:List Value}(r:Vals xs us):∀{l:List Nat},(∀i∈l,i<xs.length)->Vals (l.map fun i=>xs.getD i .non) (l.map fun i=>us.getD i Value.none)
 | [],_=>.nil
 | i::l,h=>.cons (zGa r i (h i zm2)) (zES r fun j hj=>h j (zm1 _ hj))
theorem zGn {N:Nat}{c:Nat->Nat->Bool}(hN:0<N):∀i∈(kev c (kas_sort N)).toList,i<N:=fun i hi=>by
 have p:Pm N (kev c (kas_sort N)):=(zCo hN).post;have:i∈List.toArray (List.range N):=(Array.Perm.mem_iff p).mp (by simpa using hi);simpa using this
theorem zHR {xs:List V}{us:List Value}{c:Nat->Nat->Bool}(r:Vals xs us):Vals (sot .non c xs) (sot Value.none c us):=by
 have e:=r.length;unfold sot;rw[<-e];split
 ·exact r
 ·exact zES r (zGn (by omega))
theorem zGo {α:Type}{d:α}{c:Nat->Nat->Bool}(xs:List α):(sot d c xs).length=xs.length:=by
 unfold sot;split
 ·rfl
 ·have p:Pm xs.length (kev c (kas_sort xs.length)):=(zCo (by omega)).post;rw[List.length_map,Array.length_toList,p.size_eq];simp
section
variable {X:Cx}
def PrV (K:zFg)(H:Hp)(v:V)(p:Int×Int):Prop:=∃b,v=.ref b/\SqT K H b [.int p.1,.int p.2]
theorem zF0:CallR X (.builtin "sorted") (fun xs H Q=>∃(a:Addr) (vs:List V) (ps:List (Int×Int)),xs=[.ref a]/\SqL X.K H a vs/\Paired (PrV X.K H) vs ps/\vs.length<64/\∀p,H p=none->Q (.ref p) (upd H p (.lst (sot .non (cmpP ps) vs)))):=by
 rintro pins s σ H xs us Q I rs ⟨a,vs,ps,e,hS,hp,hz,q⟩;subst e;obtain⟨u,rfl,ru⟩:=rs.one;cases ru;obtain⟨its,rv,pl,hlen⟩:=I.list hS;have pr:∀{vs:List V} {its:List Value} {ps:List (Int×Int)},Vals vs its->Paired (PrV X.K H) vs ps->Paired (PrA s.heap) its ps:=by
  intro vs its ps rv hp;induction hp generalizing its with
  | nil=>cases rv; exact .nil
  | cons hx _ ih=>
   cases rv with
   | cons h1 h2=>
    obtain⟨b,rfl,hb⟩:=hx;obtain⟨it2,rv2,⟨o,e1,c1,⟨n,d1⟩,_⟩,_⟩:=I.tupN hb;cases rv2 with
    | cons g1 g2=>
     cases g2 with
     | cons g2 g3=>
      cases g3;obtain⟨t,rfl⟩:=g1;obtain⟨u,rfl⟩:=g2;cases h1;exact .cons ⟨b,o,t,u,n,rfl,e1,c1,d1⟩ (ih h2)
 have el:=rv.length;refine zFH pl.isList (pr rv hp) (by omega) fun h' L e kp hle ho=>?_;refine⟨.ref L,upd H L (.lst (sot .non (cmpP ps) vs)),I.laid (t':=s.toks) kp hle ⟨?_,_,e,zHR rv,ho⟩,rfl,q L (I.hok.fresh hle)⟩;rw[zGo]; exact hlen
end
end L2
end
section
namespace L2
open PySem PySem.Spec PyProof.Rows
noncomputable def Itv (K:zFg)(a:Addr)(n:Nat):It:=
 ⟨fun i H=>i<n/\∃xs x,SqL K H a xs/\xs[n - 1 - i]? = some x,fun i H x H'=>H'=H/\∀xs,SqL K H a xs->xs[n - 1 - i]? = some x,fun i _=>n<=i⟩
theorem zHO {P:Program}{w:World}{K:zFg}{tg:Expr}(a it:Addr)(n:Nat):Turn P w K tg (Itv K a n) [it] it (fun i h=>h.IsRevIter it a ((n:Int) - 1 - (min i n:Nat))) where
 mem:=by simp
 obj:=fun i h st b hb=>by
  have e:b=it:=by simpa using hb
  subst e;obtain⟨o,e,c,d⟩:=st;exact⟨o,e,fun v z=>by rw[d] at z; cases z⟩
 keep:=fun i h h' st k=>st.at fun o e=>k it (by simp) o e
 item:=by
  intro X hP hw hK hc i pins s σ H E I hf st hg;subst hP hw hK;obtain⟨hi,xs,x,hq,hx⟩:=hg;obtain⟨its,rv,p,hz⟩:=I.list hq;obtain⟨u,hu,ru⟩:=rv.get hx;obtain⟨f0,f1,f2,f3,f4,f5⟩:=hf it (by simp);have e0:(n:Int) - 1 - (min i n:Nat)=((n - 1 - i:Nat):Int):=by omega
  rw[e0] at st;refine wpAny_pyNext_rev_item st p.isList (x:=u) (by simpa using hu) fun h' st' sb=>?_;have I1:Inv X pins σ H { s with heap:=h' }:=I.turned (t':=s.toks) (fun b o hb e=>(sb.2 b hb).trans e) f0 f1 f3 f4 f5;obtain⟨o,e,c,d⟩:=id st';have e2:((n - 1 - i:Nat):Int) - 1=(n:Int) - 1 - (min (i+1) n:Nat):=by omega
  rw[e2] at st';exact⟨u,rfl,zID (s:={ s with heap:=h' }) e c d (by decide) ⟨x,H,I1,ru,⟨rfl,fun ys hy=>by rw[I.list_inj hy hq]; exact hx⟩,st',fun b hb=>(hf b hb).1⟩⟩
 done:=by
  intro X hP hw hK hc i pins s σ H E I hf st hg;subst hP hw hK;obtain⟨f0,f1,f2,f3,f4,f5⟩:=hf it (by simp);have hg':n<=i:=hg;have e0:(n:Int) - 1 - (min i n:Nat) = -1:=by omega
  rw[e0] at st;exact wpAny_pyNext_rev_end (I.ok.hd hc) st fun h' eb=>⟨rfl,I.turned (t':=s.toks) (fun b o hb e=>eb b o hb e) f0 f1 f3 f4 f5⟩
 self:=fun _ _ _ _ _ st h=>wpAny_pyIter_revIter st h
section
variable {X:Cx}{tg:Expr}
def iRev (K:zFg)(ta:TA):TI:=fun σ H R=>ta σ H fun vs H1=>∃a xs,vs=[.ref a]/\SqL K H1 a xs/\R (Itv K a xs.length) H1
theorem zMq {a:Expr}{ta:TA}{p pos:Pos}(hg:Gl X "reversed")(hm:X.mg "reversed" = none)(hv:bootBuiltins "reversed" = some (.type "reversed"))(ha:PA X [a] ta)(hs:starEach [a] X.env=[(false,eval a X.env)]:=by rfl) :
  PI X tg (.Call (.Name "reversed" p) [a] [] pos) (iRev X.K ta):=by
 intro pins s σ H R I h;refine Call_ (zBR I hg hm hv (PyProof.Rows.callWith_type1 (thn (ha pos pins s σ H _ I h) fun us s1 hZz=>?_) hs rfl));obtain⟨vs,H1,I1,r1,q1⟩:=hZz;obtain⟨l,xs,rfl,hx,q⟩:=q1;obtain⟨u,rfl,ru⟩:=vals1 r1;cases ru;obtain⟨its,rx,px,hzx⟩:=I1.list hx;have el:=rx.length;refine call_reversed_list px.isList ?_;have g:(s1.heap.push (revObj l ((its.toArray.size:Int) - 1))).IsRevIter s1.heap.objs.size l ((xs.length:Int) - 1 - (min 0 xs.length:Nat)):=by
  have e0:(xs.length:Int) - 1 - (min 0 xs.length:Nat)=(its.toArray.size:Int) - 1:=by simp; omega
  rw[e0];exact⟨_,zm6 _ rfl,rfl,rfl⟩
 refine wpAny_pyIter_revIter (s:={ s1 with heap:=s1.heap.push (revObj l ((its.toArray.size:Int) - 1)) }) g ⟨s1.heap.objs.size,[s1.heap.objs.size],_,_,H1,rfl,I1.kept (t':=s1.toks) fun b o e=>zm5 _ e,zHO l _ xs.length,g,fun b hb=>?_,q⟩;have:b=s1.heap.objs.size:=by simpa using hb
 subst this;exact I1.fpOk (zm8 _) (I1.hok.fresh (zm8 _))
end
end L2
end
section
namespace L2
open PySem PySem.Spec PySem.W PyProof.Rows
section
variable {X:Cx}
def gLst (K:zFg)(n:Nat)(t:TGs):TG:=fun v σ H Q=>∃a xs,v=.ref a/\SqL K H a xs/\xs.length=n/\t xs σ H Q
theorem zMs {es:List Expr}{k:Nat}{t:TGs}{n:Nat}{pos:Pos}(hc:X.calm=true)(h:PGs X es t)(hn:(assignEach es X.env).length=n)(hst:(assignEach es X.env).findIdx? (·.1)=none):PG X (.Tuple es k pos) (gLst X.K n t):=by
 intro pins s σ H v u Q I r hw;obtain⟨a,xs,e1,hq,hl,hw⟩:=hw;subst e1;cases r;obtain⟨its,rv,ht,hz⟩:=I.list hq;have ln:=rv.length;show wpAny _ _ (do standAt pos; unpack (.ref a) (assignEach es X.env)) _ _ s;refine zn4 (wpAny_standAt (zn4 (wpAny_holding ?_)));rw[hst,hn,<-hl,ln,<-show its.toArray.size=its.length by simp];refine kun_itemsOf (I.ok.hd hc) ht.isList fun h' hx=>?_;have I1:Inv X pins σ H { s with heap:=h' }:=I.kept (t':=s.toks) fun b o e=>hx b o (zn2 (zm7 e)) e;exact h pins _ σ H xs _ Q I1 (by simpa using rv) hw
end
end L2
end
section
namespace Ip
open PySem (Str)
noncomputable section
inductive D where
 | non | bl (b:Bool) | int (i:Int) | str (s:Str)
 | lst (xs:List D) | tup (xs:List D)
 | ins (c:Nat) (fs:List (Nat×D))
 | exc (c:Nat) (fs:List (Nat×D))
 deriving Inhabited
mutual
@[simp] noncomputable def D.flat:D->Bool
 | .lst _=>false
 | .tup xs=>D.flats xs
 | .ins _ _=>false
 | .exc _ _=>false
 | _=>true
@[simp] noncomputable def D.flats:List D->Bool
 | []=>true
 | d::ds=>d.flat&&D.flats ds
end
theorem zBr:∀xs:List D,D.flats xs=xs.all D.flat
 | []=>by rw[D.flats]; rfl
 | d::ds=>by rw[D.flats,zBr ds]; rfl
@[simp] noncomputable def D.fb:Nat->D->Bool
 | 0,d=>d.flat
 | k+1,.lst xs=>xs.all (D.fb k)
 | k+1,.tup xs=>xs.all (D.fb k)
 | k+1,.ins _ fs=>fs.all fun p=>D.fb k p.2
 | _+1,.exc _ _=>false
 | _+1,_=>true
noncomputable def D.pur:Nat->D->Bool
 | 0,.lst _=>false
 | 0,.tup _=>false
 | n+1,.lst xs=>xs.all (D.pur n)
 | n+1,.tup xs=>xs.all (D.pur n)
 | _,.ins _ _=>false
 | _,.exc _ _=>false
 | _,.str s=>s.cps.all (·<1114112)
 | _,_=>true
@[simp] theorem pur_non (n:Nat):D.pur n .non=true:=by cases n <;> rfl
@[simp] theorem pur_bl (n:Nat)(b:Bool):D.pur n (.bl b)=true:=by cases n <;> rfl
@[simp] theorem pur_int (n:Nat)(i:Int):D.pur n (.int i)=true:=by cases n <;> rfl
@[simp] theorem zKm (n:Nat)(s:Str):D.pur n (.str s)=s.cps.all (·<1114112):=by cases n <;> rfl
@[simp] theorem zKn (n:Nat)(xs:List D):D.pur (n+1) (.lst xs)=xs.all (D.pur n):=rfl
@[simp] theorem pur_tup (n:Nat)(xs:List D):D.pur (n+1) (.tup xs)=xs.all (D.pur n):=rfl
@[simp] theorem pur_ints (n:Nat)(xs:List Int):(xs.map D.int).all (D.pur n)=true:=by simp
noncomputable abbrev D.pures (xs:List D):Bool:=xs.all (D.pur 60)
@[simp] noncomputable def D.scal:D->Bool
 | .non=>true | .bl _=>true | .int _=>true | .str _=>true
 | _=>false
mutual
noncomputable def D.eq:D->D->Bool
 | .non,.non=>true
 | .int i,.int j=>decide (i=j)
 | .int i,.bl b=>decide (i=if b then 1 else 0)
 | .bl b,.int i=>decide ((if b then 1 else 0)=i)
 | .bl b,.bl c=>decide (b=c)
 | .str s,.str t=>decide (s=t)
 | .lst xs,.lst ys=>D.eqs xs ys
 | .tup xs,.tup ys=>D.eqs xs ys
 | _,_=>false
noncomputable def D.eqs:List D->List D->Bool
 | [],[]=>true
 | x::xs,y::ys=>x.eq y&&D.eqs xs ys
 | _,_=>false
end
inductive R (α:Type) where
 | ok (a:α)
 | exc (c:Nat) (fs:List (Nat×D))
 | bad
@[simp,reducible] noncomputable def R.bind {α β:Type}(r:R α)(f:α->R β):R β:=match r with
 | .ok a=>f a
 | .exc c fs=>.exc c fs
 | .bad=>.bad
noncomputable abbrev KD:=Nat×D
noncomputable def okAt (j:Nat)(x:KD):Bool:=x.2.flat||(x.1 == j||(D.fb j x.2&&D.fb x.1 x.2))
noncomputable def joinK (xs:List KD):Nat:=match xs.find? fun x=>!x.2.flat with
 | none=>98
 | some x=>if xs.all (okAt x.1) then x.1 else 0
noncomputable def addK (k:Nat)(xs:List D)(v:KD):Nat:=if okAt k v then k else if xs.all (fun d=>okAt v.1 (k,d)) then v.1 else 0
noncomputable abbrev SL:Nat:=1000000
inductive Ty where
 | int | bool | str | list | tuple | dict | verr | cls (c:Nat)
inductive Op where
 | add | sub | mul | fdiv | mod | pow | shr | neg | not
 | eq | ne | lt | le | gt | ge | isN | notN | isin | nin
 | lst | tup | ix | slL | slH | slLH | rev
 | fld (f:Nat) | isi (ts:List Ty)
 | len | list | lrng | lrev | tuple | all | any | toInt | sum | srt | srtSet | symd | min1 | min2 | max2
 | index | count
inductive Wk where
 | seq | rng1 | enum | zip | rev
inductive Tg where
 | one (i:Nat) | many (is:List Nat)
inductive Ex where
 | var (i:Nat)
 | cst (d:D)
 | op (o:Op) (es:List Ex)
 | and (a b:Ex) | or (a b:Ex)
 | ite (c a b:Ex)
 | chain (o p:Op) (a b c:Ex)
 | sl2 (a l h:Ex)
 | comp (caps:List (Option Nat)) (tg:Tg) (wk:Wk) (it:List Ex) (t:List Ex) (e:Ex)
 | call (f:Nat) (es:List Ex)
 | make (c:Nat) (es:List Ex)
 | meth (m:Nat) (o:Ex) (es:List Ex)
 | bad
 deriving Inhabited
inductive Mu where
 | append | extend | clear | insert | remove | pop0
inductive S where
 | set (i:Nat) (e:Ex)
 | setT (is:List Nat) (e:Ex)
 | ret (e:Ex)
 | ex (e:Ex)
 | iff (c:Ex) (t e:List S)
 | whl (c:Ex) (b:List S)
 | fo (tg:Tg) (wk:Wk) (it:List Ex) (b:List S)
 | brk | cnt | pass
 | mut (x:Nat) (path:List Ex) (m:Mu) (es:List Ex)
 | sfld (i:Nat) (f:Nat) (e:Ex)
 | retP (s:Str) (i:Nat)
 | bad
 deriving Inhabited
structure Fn where
 np:Nat
 io:List Nat
 ns:Nat
 dfl:List D
 body:List S
structure Cl where
 init:Option Nat
 meths:List (Nat×Nat)
 ups:List Nat
 isx:Bool
structure Pg where
 fn:Nat->Option Fn
 cl:Nat->Option Cl
inductive Run where
 | ret (k:Nat) (d:D) (outs:List KD)
 | exc (c:Nat) (fs:List (Nat×D)) (outs:List KD)
 | bad
theorem inEx (n:Nat):∃f:Int->Bool,∀i,f i=true ↔ -(2 ^ n)<=i/\i<2 ^ n:=⟨fun i=>decide (-(2 ^ n)<=i/\i<2 ^ n),fun i=>decide_eq_true_iff⟩
noncomputable def inI:Int->Bool:=Classical.choose (inEx 62)
theorem zAC {i:Int}:inI i=true ↔ -(2 ^ 62)<=i/\i<2 ^ 62:=Classical.choose_spec (inEx 62) i
noncomputable def ixD (n:Nat)(i:Int):Option Nat:=if 0<=i then (if i<n then some i.toNat else none) else if -(n:Int)<=i then some (i+n).toNat else none
noncomputable def sIxD (n d:Nat):Option Int->Nat
 | none=>d
 | some i=>if 0<=i then min i.toNat n else (i+n).toNat
noncomputable def cutD {α:Type}(xs:List α)(lo hi:Option Int):List α:=(xs.drop (sIxD xs.length 0 lo)).take (sIxD xs.length xs.length hi - sIxD xs.length 0 lo)
@[simp] noncomputable def tyBl:Ty->Bool
 | .bool=>true | .int=>true | _=>false
@[simp] noncomputable def tyInt:Ty->Bool
 | .int=>true | _=>false
@[simp] noncomputable def tyStr:Ty->Bool
 | .str=>true | _=>false
@[simp] noncomputable def tyLst:Ty->Bool
 | .list=>true | _=>false
@[simp] noncomputable def tyTup:Ty->Bool
 | .tuple=>true | _=>false
@[simp] noncomputable def clsIs (G:Pg)(c d:Nat):Bool:=match G.cl c with
 | some K=>decide (d=c)||K.ups.contains d
 | none=>false
@[simp] noncomputable def tyIns (G:Pg)(c:Nat):Ty->Bool
 | .cls d=>clsIs G c d | _=>false
@[simp] noncomputable def tyExc (G:Pg)(c:Nat):Ty->Bool
 | .cls d=>clsIs G c d | .verr=>true | _=>false
noncomputable def isTy (G:Pg):D->Ty->Bool
 | .bl _=>tyBl
 | .int _=>tyInt
 | .str _=>tyStr
 | .lst _=>tyLst
 | .tup _=>tyTup
 | .ins c _=>tyIns G c
 | .exc c _=>tyExc G c
 | .non=>fun _=>false
@[simp] theorem isTy_bl (G:Pg)(b:Bool)(t:Ty):isTy G (.bl b) t=tyBl t:=rfl
@[simp] theorem isTy_int (G:Pg)(b:Int)(t:Ty):isTy G (.int b) t=tyInt t:=rfl
@[simp] theorem isTy_str (G:Pg)(b:Str)(t:Ty):isTy G (.str b) t=tyStr t:=rfl
@[simp] theorem isTy_lst (G:Pg)(b:List D)(t:Ty):isTy G (.lst b) t=tyLst t:=rfl
@[simp] theorem isTy_tup (G:Pg)(b:List D)(t:Ty):isTy G (.tup b) t=tyTup t:=rfl
@[simp] theorem isTy_ins (G:Pg)(c:Nat)(fs:List (Nat×D))(t:Ty):isTy G (.ins c fs) t=tyIns G c t:=rfl
@[simp] theorem isTy_exc (G:Pg)(c:Nat)(fs:List (Nat×D))(t:Ty):isTy G (.exc c fs) t=tyExc G c t:=rfl
@[simp] theorem isTy_non (G:Pg)(t:Ty):isTy G .non t=false:=rfl
noncomputable def allB:List D->Option Bool
 | []=>some true
 | .bl b::ds=>(allB ds).map fun c=>b&&c
 | _::_=>none
noncomputable def anyB:List D->Option Bool
 | []=>some false
 | .bl b::ds=>(anyB ds).map fun c=>b||c
 | _::_=>none
noncomputable def intsD:List D->Option (List Int)
 | []=>some []
 | .int i::ds=>(intsD ds).map fun is=>i::is
 | _::_=>none
noncomputable def D.memb (x:D)(xs:List D):Bool:=xs.any fun y=>y.eq x
noncomputable def D.find (x:D)(xs:List D):Option Nat:=xs.findIdx? fun y=>y.eq x
@[simp] noncomputable def fB (b:Bool):Option KD:=some (99,.bl b)
@[simp] noncomputable def fI (i:Int):Option KD:=some (99,.int i)
@[simp] noncomputable def okB (b:Bool):R KD:=.ok (99,.bl b)
@[simp] noncomputable def D.seq:D->Option (List D)
 | .lst xs=>some xs
 | .tup xs=>some xs
 | _=>none
@[simp] noncomputable def D.lstO:D->Option (List D)
 | .lst xs=>some xs
 | _=>none
@[simp] noncomputable def on1 (f:D->Option KD):List KD->Option KD
 | [x]=>f x.2
 | _=>none
@[simp] noncomputable def on2 (f:D->D->Option KD):List KD->Option KD
 | [x,y]=>f x.2 y.2
 | _=>none
@[simp] noncomputable def on3 (f:D->D->D->Option KD):List KD->Option KD
 | [x,y,z]=>f x.2 y.2 z.2
 | _=>none
@[simp] noncomputable def num2 (f:Int->Int->Option KD):D->D->Option KD
 | .int i,.int j=>f i j
 | _,_=>none
@[simp] noncomputable def addD:D->D->Option KD
 | .int i,.int j=>fI (i+j)
 | .tup xs,.tup ys=>if xs.length+ys.length<=SL then some (0,.tup (xs++ys)) else none
 | _,_=>none
noncomputable def natsD:List D->Option (List Nat)
 | []=>some []
 | .int i::ds=>if 0<=i/\i<6 then (natsD ds).map fun ns=>i.toNat::ns else none
 | _::_=>none
noncomputable def srtN (ns:List Nat):List Nat:=(List.range 6).filter fun k=>ns.contains k
noncomputable def natL (ns:List Nat):List D:=ns.map fun n=>.int (Int.ofNat n)
@[simp] noncomputable def mulD:D->D->Option KD
 | .int i,.int j=>if inI i||inI j then fI (i * j) else none
 | .tup xs,.int j=>if xs.isEmpty=false/\1<=j/\j<=1000/\xs.length * j.toNat<=SL then some (0,.tup (List.replicate j.toNat xs).flatten) else none
 | _,_=>none
@[simp] noncomputable def eqD (neg:Bool)(x y:D):Option KD:=if x.pur 60&&y.pur 60 then fB (if neg then !x.eq y else x.eq y) else none
@[simp] noncomputable def inD (neg:Bool)(x y:D):Option KD:=match y.seq with
 | some ys=>if x.pur 60&&D.pures ys then fB (if neg then !x.memb ys else x.memb ys) else none
 | none=>none
@[simp] noncomputable def ixOp:D->D->Option KD
 | x,.int i=>match x.seq with
  | some xs=>match (ixD xs.length i).bind fun j=>xs[j]? with
   | some d=>some (0,d)
   | none=>none
  | none=>none
 | _,_=>none
@[simp] noncomputable def cutOp (lo hi:Option Int):D->Option KD
 | .lst xs=>some (1,.lst (cutD xs lo hi))
 | .tup xs=>some (0,.tup (cutD xs lo hi))
 | _=>none
noncomputable def fldD (f:Nat):D->Option KD
 | .ins _ fs=>match fs.lookup f with | some d=>some (0,d) | none=>none
 | .exc _ fs=>match fs.lookup f with | some d=>some (0,d) | none=>none
 | _=>none
@[simp] noncomputable def onL (f:List D->Option KD):D->Option KD
 | .lst xs=>f xs
 | _=>none
@[simp] noncomputable def onS (f:List D->Option KD)(x:D):Option KD:=match x.seq with | some xs=>f xs | none=>none
@[simp] noncomputable def intD:D->Option KD
 | .int i=>fI i
 | .bl b=>fI (if b then 1 else 0)
 | _=>none
@[simp] noncomputable def notD:D->Option KD
 | .bl b=>fB (!b)
 | _=>none
@[simp] noncomputable def negD:D->Option KD
 | .int i=>fI (-i)
 | _=>none
@[simp] noncomputable def isND (neg:Bool):D->Option KD
 | .non=>fB (!neg)
 | _=>fB neg
@[simp] noncomputable def tupD:D->Option KD
 | .lst xs=>some (0,.tup xs)
 | .tup xs=>some (0,.tup xs)
 | _=>none
noncomputable def indexD (x y:D):Option KD:=match x with
 | .tup xs=>if y.scal&&xs.all D.scal then (match y.find xs with | some j=>fI j | none=>none) else none
 | _=>none
@[simp] theorem zBy (xs:List D)(y:D):indexD (.tup xs) y=if y.scal&&xs.all D.scal then (match y.find xs with | some j=>fI j | none=>none) else none:=rfl
theorem zEG {x y:D}{z:KD}(h:indexD x y=some z):∃xs,x=.tup xs:=by cases x <;> first | exact⟨_,rfl⟩ | cases h
@[simp] noncomputable def countD (x y:D):Option KD:=match x.seq with
 | some xs=>if y.pur 60&&D.pures xs then fI (xs.countP fun z=>z.eq y) else none
 | none=>none
noncomputable def cntD (x y:D):Option KD:=match x with
 | .lst xs=>if y.scal&&xs.all D.scal then fI ((xs.countP fun z=>z.eq y:Nat):Int) else none
 | _=>none
@[simp] theorem cntD_lst (xs:List D)(y:D):cntD (.lst xs) y=if y.scal&&xs.all D.scal then fI ((xs.countP fun z=>z.eq y:Nat):Int) else none:=rfl
noncomputable def sumD (xs:List D):Option KD:=(intsD xs).bind fun is=>if is.all (fun i=>decide (0<=i/\i<=10000000))=true/\is.length<=1000 then fI is.sum else none
noncomputable def pr2:List Int->Option (Int×Int)
 | [i,j]=>some (i,j)
 | _=>none
noncomputable def prD:D->Option (Int×Int)
 | .tup xs=>(intsD xs).bind pr2
 | _=>none
noncomputable def prsD:List D->Option (List (Int×Int))
 | []=>some []
 | x::xs=>(prD x).bind fun p=>(prsD xs).map fun ps=>p::ps
noncomputable def srtPD (xs:List D):Option KD:=(prsD xs).bind fun ps=>if xs.length<64 then some (1,.lst (L2.sot .non (L2.cmpP ps) xs)) else none
@[simp] noncomputable def lrngD:D->Option KD
 | .int j=>if 0<=j/\j<=SL then some (1,.lst (natL (List.range j.toNat))) else none
 | _=>none
noncomputable def opD (G:Pg):Op->List KD->Option KD
 | .lst,vs=>some (joinK vs+1,.lst (vs.map (·.2)))
 | .tup,vs=>some (joinK vs+1,.tup (vs.map (·.2)))
 | .add,vs=>on2 addD vs
 | .sub,vs=>on2 (num2 fun i j=>fI (i - j)) vs
 | .mul,vs=>on2 mulD vs
 | .fdiv,vs=>on2 (num2 fun i j=>if 0<j/\j<1000000000000000000000000000000000000000000000000 then fI (i / j) else none) vs
 | .mod,vs=>on2 (num2 fun i j=>if 0<j then fI (i % j) else none) vs
 | .pow,vs=>on2 (num2 fun i j=>if 0<=j/\j<=1000000/\inI i=true then fI (i ^ j.toNat) else none) vs
 | .shr,vs=>on2 (num2 fun i j=>if 0<=j then fI (i / 2 ^ j.toNat) else none) vs
 | .neg,vs=>on1 negD vs
 | .not,vs=>on1 notD vs
 | .eq,vs=>on2 (eqD false) vs
 | .ne,vs=>on2 (eqD true) vs
 | .lt,vs=>on2 (num2 fun i j=>fB (decide (i<j))) vs
 | .le,vs=>on2 (num2 fun i j=>fB (decide (i<=j))) vs
 | .gt,vs=>on2 (num2 fun i j=>fB (decide (j<i))) vs
 | .ge,vs=>on2 (num2 fun i j=>fB (decide (j<=i))) vs
 | .isN,vs=>on1 (isND false) vs
 | .notN,vs=>on1 (isND true) vs
 | .isin,vs=>on2 (inD false) vs
 | .nin,vs=>on2 (inD true) vs
 | .ix,vs=>on2 ixOp vs
 | .slL,vs=>on2 (fun x y=>match y with | .int i=>cutOp (some i) none x | _=>none) vs
 | .slH,vs=>on2 (fun x y=>match y with | .int i=>cutOp none (some i) x | _=>none) vs
 | .slLH,_=>none
 | .rev,vs=>on1 (onL fun xs=>some (1,.lst xs.reverse)) vs
 | .fld f,vs=>on1 (fldD f) vs
 | .isi ts,vs=>on1 (fun x=>fB (ts.any (isTy G x))) vs
 | .len,vs=>on1 (onS fun xs=>fI xs.length) vs
 | .list,vs=>on1 (onS fun xs=>some (1,.lst xs)) vs
 | .lrng,vs=>on1 lrngD vs
 | .lrev,_=>none
 | .tuple,vs=>on1 tupD vs
 | .all,vs=>on1 (onL fun xs=>match allB xs with | some b=>fB b | none=>none) vs
 | .any,vs=>on1 (onL fun xs=>match anyB xs with | some b=>fB b | none=>none) vs
 | .toInt,vs=>on1 intD vs
 | .sum,vs=>on1 (onL sumD) vs
 | .srt,vs=>on1 (onL srtPD) vs
 | .srtSet,vs=>on1 (onL fun xs=>match natsD xs with | some ns=>some (1,.lst (natL (srtN ns))) | none=>none) vs
 | .symd,_=>none
 | .min1,_=>none
 | .min2,vs=>on2 (num2 fun i j=>fI (if j<i then j else i)) vs
 | .max2,vs=>on2 (num2 fun i j=>fI (if j > i then j else i)) vs
 | .index,vs=>on2 indexD vs
 | .count,vs=>on2 cntD vs
@[simp] theorem zKM (G:Pg)(vs:List KD):opD G .lst vs=some (joinK vs+1,.lst (vs.map (·.2))):=rfl
@[simp] theorem zKG (G:Pg)(vs:List KD):opD G .tup vs=some (joinK vs+1,.tup (vs.map (·.2))):=rfl
@[simp] theorem zKS (G:Pg)(vs:List KD):opD G .add vs=on2 addD vs:=rfl
@[simp] theorem opD_sub (G:Pg)(vs:List KD):opD G .sub vs=on2 (num2 fun i j=>fI (i - j)) vs:=rfl
@[simp] theorem zKL (G:Pg)(vs:List KD):opD G .mul vs=on2 mulD vs:=rfl
@[simp] theorem opD_fdiv (G:Pg)(vs:List KD):opD G .fdiv vs=on2 (num2 fun i j=>if 0<j/\j<1000000000000000000000000000000000000000000000000 then fI (i / j) else none) vs:=rfl
@[simp] theorem opD_mod (G:Pg)(vs:List KD):opD G .mod vs=on2 (num2 fun i j=>if 0<j then fI (i % j) else none) vs:=rfl
@[simp] theorem opD_pow (G:Pg)(vs:List KD):opD G .pow vs=on2 (num2 fun i j=>if 0<=j/\j<=1000000/\inI i=true then fI (i ^ j.toNat) else none) vs:=rfl
@[simp] theorem opD_shr (G:Pg)(vs:List KD):opD G .shr vs=on2 (num2 fun i j=>if 0<=j then fI (i / 2 ^ j.toNat) else none) vs:=rfl
@[simp] theorem zKK (G:Pg)(vs:List KD):opD G .neg vs=on1 negD vs:=rfl
@[simp] theorem zKJ (G:Pg)(vs:List KD):opD G .not vs=on1 notD vs:=rfl
@[simp] theorem zMH (G:Pg)(vs:List KD):opD G .eq vs=on2 (eqD false) vs:=rfl
@[simp] theorem zMF (G:Pg)(vs:List KD):opD G .ne vs=on2 (eqD true) vs:=rfl
@[simp] theorem opD_lt (G:Pg)(vs:List KD):opD G .lt vs=on2 (num2 fun i j=>fB (decide (i<j))) vs:=rfl
@[simp] theorem opD_le (G:Pg)(vs:List KD):opD G .le vs=on2 (num2 fun i j=>fB (decide (i<=j))) vs:=rfl
@[simp] theorem opD_gt (G:Pg)(vs:List KD):opD G .gt vs=on2 (num2 fun i j=>fB (decide (j<i))) vs:=rfl
@[simp] theorem opD_ge (G:Pg)(vs:List KD):opD G .ge vs=on2 (num2 fun i j=>fB (decide (j<=i))) vs:=rfl
@[simp] theorem zKO (G:Pg)(vs:List KD):opD G .isN vs=on1 (isND false) vs:=rfl
@[simp] theorem zIh (G:Pg)(vs:List KD):opD G .notN vs=on1 (isND true) vs:=rfl
@[simp] theorem opD_isin (G:Pg)(vs:List KD):opD G .isin vs=on2 (inD false) vs:=rfl
@[simp] theorem opD_nin (G:Pg)(vs:List KD):opD G .nin vs=on2 (inD true) vs:=rfl
@[simp] theorem zMG (G:Pg)(vs:List KD):opD G .ix vs=on2 ixOp vs:=rfl
@[simp] theorem opD_slL (G:Pg)(vs:List KD):opD G .slL vs=on2 (fun x y=>match y with | .int i=>cutOp (some i) none x | _=>none) vs:=rfl
@[simp] theorem opD_slH (G:Pg)(vs:List KD):opD G .slH vs=on2 (fun x y=>match y with | .int i=>cutOp none (some i) x | _=>none) vs:=rfl
@[simp] theorem opD_slLH (G:Pg)(vs:List KD):opD G .slLH vs=none:=rfl
@[simp] theorem opD_rev (G:Pg)(vs:List KD):opD G .rev vs=on1 (onL fun xs=>some (1,.lst xs.reverse)) vs:=rfl
@[simp] theorem zKP (G:Pg)(f:Nat)(vs:List KD):opD G (.fld f) vs=on1 (fldD f) vs:=rfl
@[simp] theorem opD_isi (G:Pg)(ts:List Ty)(vs:List KD):opD G (.isi ts) vs=on1 (fun x=>fB (ts.any (isTy G x))) vs:=rfl
@[simp] theorem zKN (G:Pg)(vs:List KD):opD G .len vs=on1 (onS fun xs=>fI xs.length) vs:=rfl
@[simp] theorem zIk (G:Pg)(vs:List KD):opD G .list vs=on1 (onS fun xs=>some (1,.lst xs)) vs:=rfl
@[simp] theorem opD_lrng (G:Pg)(vs:List KD):opD G .lrng vs=on1 lrngD vs:=rfl
@[simp] theorem opD_lrev (G:Pg)(vs:List KD):opD G .lrev vs=none:=rfl
@[simp] theorem zGQ (G:Pg)(vs:List KD):opD G .tuple vs=on1 tupD vs:=rfl
@[simp] theorem zKR (G:Pg)(vs:List KD):opD G .all vs=on1 (onL fun xs=>match allB xs with | some b=>fB b | none=>none) vs:=rfl
@[simp] theorem zKQ (G:Pg)(vs:List KD):opD G .any vs=on1 (onL fun xs=>match anyB xs with | some b=>fB b | none=>none) vs:=rfl
@[simp] theorem zGR (G:Pg)(vs:List KD):opD G .toInt vs=on1 intD vs:=rfl
@[simp] theorem zKH (G:Pg)(vs:List KD):opD G .sum vs=on1 (onL sumD) vs:=rfl
@[simp] theorem zKI (G:Pg)(vs:List KD):opD G .srt vs=on1 (onL srtPD) vs:=rfl
@[simp] theorem zFP (G:Pg)(vs:List KD):opD G .srtSet vs=on1 (onL fun xs=>match natsD xs with | some ns=>some (1,.lst (natL (srtN ns))) | none=>none) vs:=rfl
@[simp] theorem opD_symd (G:Pg)(vs:List KD):opD G .symd vs=none:=rfl
@[simp] theorem opD_min1 (G:Pg)(vs:List KD):opD G .min1 vs=none:=rfl
@[simp] theorem zIi (G:Pg)(vs:List KD):opD G .min2 vs=on2 (num2 fun i j=>fI (if j<i then j else i)) vs:=rfl
@[simp] theorem zIj (G:Pg)(vs:List KD):opD G .max2 vs=on2 (num2 fun i j=>fI (if j > i then j else i)) vs:=rfl
@[simp] theorem zGS (G:Pg)(vs:List KD):opD G .index vs=on2 indexD vs:=rfl
@[simp] theorem opD_count (G:Pg)(vs:List KD):opD G .count vs=on2 cntD vs:=rfl
@[simp,reducible] noncomputable def R.of {α:Type}:Option α->R α
 | some a=>.ok a
 | none=>.bad
theorem zAw {α:Type}{x:α}(h:(none:Option α)=some x):False:=nomatch h
noncomputable def wk1 (f:D->Option (List D)):List KD->Option (List D)
 | []=>none
 | x::r=>match r with
  | []=>f x.2
  | _::_=>none
noncomputable def wk2 (f:D->D->Option (List D)):List KD->Option (List D)
 | []=>none
 | x::r=>match r with
  | []=>none
  | y::t=>match t with
   | []=>f x.2 y.2
   | _::_=>none
theorem zC0 {f:D->Option (List D)}{vs:List KD}{ds:List D}(h:wk1 f vs=some ds):∃x,vs=[x]/\f x.2=some ds:=by
 cases vs with
 | nil=>exact (zAw h).elim
 | cons x r=>
  cases r with
  | nil=>exact⟨x,rfl,h⟩
  | cons _ _=>exact (zAw h).elim
theorem zHK {f:D->D->Option (List D)}{vs:List KD}{ds:List D}(h:wk2 f vs=some ds):∃x y,vs=[x,y]/\f x.2 y.2=some ds:=by
 cases vs with
 | nil=>exact (zAw h).elim
 | cons x r=>
  cases r with
  | nil=>exact (zAw h).elim
  | cons y t=>
   cases t with
   | nil=>exact⟨x,y,rfl,h⟩
   | cons _ _=>exact (zAw h).elim
noncomputable def intO:D->Option Int
 | .int i=>some i
 | _=>none
theorem zHc {d:D}{i:Int}(h:intO d=some i):d=.int i:=by
 cases d <;> first | exact (zAw h).elim | exact congrArg D.int (zn3 h)
noncomputable def rng1D (d:D):Option (List D):=(intO d).bind fun j=>if inI j=true then some ((List.range j.toNat).map fun (n:Nat)=>.int n) else none
noncomputable def enumD (x:D):Option (List D):=x.seq.map fun xs=>xs.mapIdx fun n d=>.tup [.int n,d]
noncomputable def zipD (x y:D):Option (List D):=x.lstO.bind fun xs=>y.lstO.map fun ys=>(xs.zip ys).map fun p=>.tup [p.1,p.2]
noncomputable def revWD (x:D):Option (List D):=x.lstO.map List.reverse
noncomputable def wkD:Wk->List KD->Option (List D)
 | .seq=>wk1 D.seq
 | .rng1=>wk1 rng1D
 | .enum=>wk1 enumD
 | .zip=>wk2 zipD
 | .rev=>wk1 revWD
noncomputable abbrev Sl:=List (Option D)
@[simp] noncomputable def capD (a:Sl):Option Nat->Option D
 | some i=>(a[i]?).join
 | none=>none
@[simp] noncomputable def setsT {α:Type}(f:D->α):List Nat->List D->List (Option α)->List (Option α)
 | i::is,d::ds,a=>setsT f is ds (a.set i (some (f d)))
 | _,_,a=>a
@[simp] noncomputable def bindT {α:Type}(f:D->α)(a:List (Option α)):Tg->D->Option (List (Option α))
 | .one i,d=>some (a.set i (some (f d)))
 | .many is,d=>match d with
  | .tup ds=>if ds.length=is.length then some (setsT f is ds a) else none
  | _=>none
noncomputable def compD (f:D->R (Option KD)):List D->R (List KD)
 | []=>.ok []
 | x::xs=>(f x).bind fun o=>(compD f xs).bind fun ys=>.ok (match o with | some y=>y::ys | none=>ys)
@[simp] noncomputable def R.bl (r:R KD):R Bool:=r.bind fun x=>match x.2 with
 | .bl b=>.ok b
 | _=>.bad
@[simp] noncomputable def R.nox {α:Type}(r:R α):R α:=match r with | .exc _ _=>.bad | r=>r
noncomputable def bIf {α:Type}(d:D)(t e b:α):α:=match d with
 | .bl c=>if c then t else e
 | _=>b
@[simp] theorem zB9 {α:Type}(c:Bool)(t e b:α):bIf (.bl c) t e b=if c then t else e:=rfl
section
variable (G:Pg)(cl:Nat->List KD->Run)
@[simp] noncomputable def runR:Run->R KD
 | .ret k d []=>.ok (k,d)
 | .exc c fs []=>.exc c fs
 | _=>.bad
@[simp] noncomputable def fill (F:Fn)(vs:List KD):List KD:=vs++(F.dfl.drop (F.dfl.length - (F.np - vs.length))).map fun d=>(99,d)
@[simp] noncomputable def callF (f m:Nat):Option Fn:=match G.fn f with
 | some F=>if F.io=[]/\m<=F.np/\F.np - m<=F.dfl.length then some F else none
 | none=>none
noncomputable def makeF (c m:Nat):Option (Nat×Fn×D):=match G.cl c with
 | some C=>match C.init with
  | some f=>match G.fn f with
   | some F=>if F.io=[0]/\m+1<=F.np/\F.np - (m+1)<=F.dfl.length/\m<=50 then some (f,F,if C.isx then .exc c [] else .ins c []) else none
   | none=>none
  | none=>none
 | none=>none
@[simp] noncomputable def made:Run->R KD
 | .ret _ .non [x]=>.ok x
 | .exc c fs _=>.exc c fs
 | _=>.bad
@[simp] noncomputable def makeR (p:Nat×Fn×D)(vs:List KD):R KD:=made (cl p.1 ((1,p.2.2)::fill { p.2.1 with np:=p.2.1.np - 1 } vs))
noncomputable def methF (m k:Nat):D->Option (Nat×Fn)
 | .ins c fs=>match G.cl c with
  | some C=>match C.meths.lookup m with
   | some f=>match G.fn f with
    | some F=>if F.io=[]/\fs.lookup m=none/\k+1<=F.np/\F.np - (k+1)<=F.dfl.length then some (f,F) else none
    | none=>none
   | none=>none
  | none=>none
 | _=>none
@[simp] noncomputable def sl2D (i:Int)(x:D):D->R KD
 | .int j=>R.of (cutOp (some i) (some j) x)
 | _=>.bad
mutual
noncomputable def eval (a:Sl):Ex->R KD
 | .var i=>match a[i]? with
  | some (some d)=>.ok (0,d)
  | _=>.bad
 | .cst d=>.ok (99,d)
 | .op o es=>(evals a es).bind fun vs=>R.of (opD G o vs)
 | .and x y=>(eval a x).bind fun v=>bIf v.2 (eval a y) (okB false) .bad
 | .or x y=>(eval a x).bind fun v=>bIf v.2 (okB true) (eval a y) .bad
 | .ite c x y=>(eval a c).bind fun v=>bIf v.2 (eval a x) (eval a y) .bad
 | .chain o p x y z=>(eval a x).bind fun u=>(eval a y).bind fun v=>(R.of (opD G o [u,v])).bind fun b=>bIf b.2 ((eval a z).bind fun w=>R.of (opD G p [v,w])) (okB false) .bad
 | .sl2 x y z=>(eval a x).bind fun u=>(eval a y).bind fun v=>match v.2 with
  | .int i=>(eval a z).bind fun w=>sl2D i u.2 w.2
  | _=>.bad
 | .comp caps tg wk it t e=>(evals a it).bind fun vs=>match wkD wk vs with
  | some xs=>if xs.length<=SL then
    ((compD (fun x=>match bindT id (caps.map (capD a)) tg x with
     | some b=>((evals b t).bind fun ts=>match ts with
      | []=>(eval b e).bind fun y=>.ok (some y)
      | [t]=>bIf t.2 ((eval b e).bind fun y=>.ok (some y)) (.ok none) .bad
      | _=>.bad)
     | none=>.bad) xs).nox).bind fun ys=>.ok (joinK ys+1,.lst (ys.map (·.2)))
   else .bad
  | none=>.bad
 | .call f es=>(R.of (callF G f es.length)).bind fun F=>(evals a es).bind fun vs=>runR (cl f (fill F vs))
 | .make c es=>(R.of (makeF G c es.length)).bind fun p=>(evals a es).bind (makeR cl p)
 | .meth m o es=>(eval a o).bind fun x=>(R.of (methF G m es.length x.2)).bind fun p=>(evals a es).bind fun vs=>runR (cl p.1 (fill p.2 (x::vs)))
 | .bad=>.bad
noncomputable def evals (a:Sl):List Ex->R (List KD)
 | []=>.ok []
 | e::es=>(eval a e).bind fun x=>(evals a es).bind fun xs=>.ok (x::xs)
end
@[simp] theorem zAe (a:Sl):evals G cl a []=.ok []:=rfl
@[simp] theorem zAb (a:Sl)(e:Ex)(es:List Ex):evals G cl a (e::es)=(eval G cl a e).bind fun x=>(evals G cl a es).bind fun xs=>.ok (x::xs):=rfl
noncomputable def compF (b0:Sl)(tg:Tg)(t:List Ex)(e:Ex)(x:D):R (Option KD):=match bindT id b0 tg x with
 | some b=>(evals G cl b t).bind fun ts=>match ts with
  | []=>(eval G cl b e).bind fun y=>.ok (some y)
  | [t]=>bIf t.2 ((eval G cl b e).bind fun y=>.ok (some y)) (.ok none) .bad
  | _=>.bad
 | none=>.bad
@[simp] theorem zBC (a:Sl)(i:Nat):eval G cl a (.var i)=match a[i]? with
  | some (some d)=>.ok (0,d)
  | _=>.bad:=rfl
@[simp] theorem zBD (a:Sl)(d:D):eval G cl a (.cst d)=.ok (99,d):=rfl
@[simp] theorem zAl (a:Sl)(o:Op)(es:List Ex):eval G cl a (.op o es)=(evals G cl a es).bind fun vs=>R.of (opD G o vs):=rfl
@[simp] theorem zBT (a:Sl)(x y:Ex):eval G cl a (.and x y)=(eval G cl a x).bind fun v=>bIf v.2 (eval G cl a y) (okB false) .bad:=rfl
@[simp] theorem zCF (a:Sl)(x y:Ex):eval G cl a (.or x y)=(eval G cl a x).bind fun v=>bIf v.2 (okB true) (eval G cl a y) .bad:=rfl
@[simp] theorem zDt (a:Sl)(c x y:Ex):eval G cl a (.ite c x y)=(eval G cl a c).bind fun v=>bIf v.2 (eval G cl a x) (eval G cl a y) .bad:=rfl
@[simp] theorem zB5 (a:Sl)(o p:Op)(x y z:Ex):eval G cl a (.chain o p x y z)=(eval G cl a x).bind fun u=>(eval G cl a y).bind fun v=>(R.of (opD G o [u,v])).bind fun b=>
  bIf b.2 ((eval G cl a z).bind fun w=>R.of (opD G p [v,w])) (okB false) .bad:=rfl
@[simp] theorem zDs (a:Sl)(x y z:Ex):eval G cl a (.sl2 x y z)=(eval G cl a x).bind fun u=>(eval G cl a y).bind fun v=>match v.2 with
  | .int i=>(eval G cl a z).bind fun w=>sl2D i u.2 w.2
  | _=>.bad:=rfl
@[simp] theorem zBt (a:Sl)(f:Nat)(es:List Ex):eval G cl a (.call f es)=(R.of (callF G f es.length)).bind fun F=>(evals G cl a es).bind fun vs=>runR (cl f (fill F vs)):=rfl
@[simp] theorem zBs (a:Sl)(f:Nat)(es:List Ex):eval G cl a (.make f es)=(R.of (makeF G f es.length)).bind fun p=>(evals G cl a es).bind (makeR cl p):=rfl
@[simp] theorem zA3 (a:Sl)(m:Nat)(o:Ex)(es:List Ex):eval G cl a (.meth m o es)=(eval G cl a o).bind fun x=>(R.of (methF G m es.length x.2)).bind fun p=>(evals G cl a es).bind fun vs=>runR (cl p.1 (fill p.2 (x::vs))):=rfl
@[simp] theorem zAr (a:Sl):eval G cl a .bad=.bad:=rfl
@[simp] theorem zBd (a:Sl)(caps:List (Option Nat))(tg:Tg)(wk:Wk)(it t:List Ex)(e:Ex):eval G cl a (.comp caps tg wk it t e)=(evals G cl a it).bind fun vs=>match wkD wk vs with
  | some xs=>if xs.length<=SL then ((compD (compF G cl (caps.map (capD a)) tg t e) xs).nox).bind fun ys=>.ok (joinK ys+1,.lst (ys.map (·.2))) else .bad
  | none=>.bad:=by
 rfl
noncomputable abbrev Fr:=List (Option KD)
@[simp] noncomputable def Fr.sl (A:Fr):Sl:=A.map (Option.map (·.2))
inductive O where
 | nx (A:Fr) | ret (k:Nat) (d:D) (A:Fr) | brk (A:Fr) | cnt (A:Fr) | exc (c:Nat) (fs:List (Nat×D)) (A:Fr) | bad
mutual
@[simp] noncomputable def Ex.names:Ex->List Nat
 | .var i=>[i]
 | .cst _=>[]
 | .op _ es=>Ex.namess es
 | .and a b=>a.names++b.names
 | .or a b=>a.names++b.names
 | .ite c a b=>c.names++(a.names++b.names)
 | .chain _ _ a b c=>a.names++(b.names++c.names)
 | .sl2 a b c=>a.names++(b.names++c.names)
 | .comp caps _ _ it _ _=>caps.filterMap id++Ex.namess it
 | .call _ es=>Ex.namess es
 | .make _ es=>Ex.namess es
 | .meth _ o es=>o.names++Ex.namess es
 | .bad=>[]
@[simp] noncomputable def Ex.namess:List Ex->List Nat
 | []=>[]
 | e::es=>e.names++Ex.namess es
end
@[simp] noncomputable def frz1 (A:Fr)(i:Nat):Fr:=match A[i]? with
 | some (some (_,d))=>A.set i (some (0,d))
 | _=>A
@[simp] noncomputable def frz (ns:List Nat)(A:Fr):Fr:=ns.foldl frz1 A
noncomputable def frzA (A:Fr):Fr:=A.map (Option.map fun x=>(0,x.2))
@[simp] noncomputable def settle (ns:List Nat)(A:Fr)(x:KD):Fr:=if x.2.fb x.1 then A else frz ns A
@[simp] noncomputable def excA (A:Fr)(fs:List (Nat×D)):Fr:=if fs.all fun p=>p.2.flat then A else frzA A
@[simp] noncomputable def putF (f:Nat)(d:D):List (Nat×D)->List (Nat×D)
 | []=>[(f,d)]
 | (g,e)::r=>if g=f then (g,d)::r else (g,e)::putF f d r
noncomputable def loopD (body:D->Fr->O):List D->Fr->O
 | [],A=>.nx A
 | x::xs,A=>match body x A with
  | .nx A=>loopD body xs A
  | .cnt A=>loopD body xs A
  | .brk A=>.nx A
  | o=>o
noncomputable def whlD (test:Fr->R Bool)(body:Fr->O):Nat->Fr->O
 | 0,_=>.bad
 | n+1,A=>match test A with
  | .ok true=>match body A with
   | .nx A=>whlD test body n A
   | .cnt A=>whlD test body n A
   | .brk A=>.nx A
   | o=>o
  | .ok false=>.nx A
  | .exc c fs=>.exc c fs (excA A fs)
  | .bad=>.bad
@[simp] noncomputable def R.toO {α:Type}(r:R α)(A:Fr)(f:α->O):O:=match r with
 | .ok a=>f a
 | .exc c fs=>.exc c fs (excA A fs)
 | .bad=>.bad
@[simp] noncomputable def O.seq (o:O)(f:Fr->O):O:=match o with
 | .nx A=>f A
 | o=>o
noncomputable def D.isI:D->Bool
 | .int _=>true
 | _=>false
noncomputable def mutD (m:Mu)(k:Nat)(xs:List D)(vs:List KD):Option KD:=match m,vs with
 | .append,[v]=>if xs.length<SL then some (addK k xs v+1,.lst (xs++[v.2])) else none
 | .extend,[v]=>match v.2 with
  | .tup ys=>if ys.all D.scal=true/\xs.length+ys.length<=SL then some (1,.lst (xs++ys)) else none
  | _=>none
 | .clear,[]=>some (99,.lst [])
 | .insert,[v,w]=>match v.2 with
  | .int i=>if 0<=i/\i.toNat<=xs.length/\xs.length<SL/\w.2.scal=true then some (1,.lst (xs.take i.toNat++w.2::xs.drop i.toNat)) else none
  | _=>none
 | .remove,[v]=>match v.2 with
  | .int i=>if xs.all D.isI=true then (match D.find (.int i) xs with | some j=>some (1,.lst (xs.eraseIdx j)) | none=>none) else none
  | _=>none
 | .pop0,[]=>if xs=[] then none else some (k+1,.lst xs.dropLast)
 | _,_=>none
@[simp] theorem zCt (k:Nat)(xs:List D)(v:KD):mutD .append k xs [v]=if xs.length<SL then some (addK k xs v+1,.lst (xs++[v.2])) else none:=rfl
@[simp] theorem mutD_clear (k:Nat)(xs:List D):mutD .clear k xs []=some (99,.lst []):=rfl
@[simp] theorem mutD_insert (k:Nat)(xs:List D)(v w:KD):mutD .insert k xs [v,w]=match v.2 with
  | .int i=>if 0<=i/\i.toNat<=xs.length/\xs.length<SL/\w.2.scal=true then some (1,.lst (xs.take i.toNat++w.2::xs.drop i.toNat)) else none
  | _=>none:=rfl
@[simp] theorem zCr (k:Nat)(xs:List D)(v:KD):mutD .remove k xs [v]=match v.2 with
  | .int i=>if xs.all D.isI=true then (match D.find (.int i) xs with | some j=>some (1,.lst (xs.eraseIdx j)) | none=>none) else none
  | _=>none:=rfl
@[simp] theorem zCs (k:Nat)(xs:List D)(v:KD):mutD .extend k xs [v]=match v.2 with
  | .tup ys=>if ys.all D.scal=true/\xs.length+ys.length<=SL then some (1,.lst (xs++ys)) else none
  | _=>none:=rfl
noncomputable def appAllD (v:D):List D->Option (List D)
 | []=>some []
 | .lst xs::ds=>if xs.length<SL then (appAllD v ds).map fun es=>.lst (xs++[v])::es else none
 | _::_=>none
section
variable (io:List Nat)
@[simp] noncomputable def setF (i:Nat)(x:KD)(A:Fr):O:=if io.contains i=false/\i<A.length then .nx (A.set i (some x)) else .bad
@[simp] noncomputable def setFs:List Nat->List KD->Fr->O
 | [],[],A=>.nx A
 | i::is,x::xs,A=>(setF io i x A).seq (setFs is xs)
 | _,_,_=>.bad
@[simp] noncomputable def bindF (tg:Tg)(d:D)(A:Fr):O:=match tg,d with
 | .one i,d=>setF io i (0,d) A
 | .many is,.tup ds=>setFs io is (ds.map fun d=>(0,d)) A
 | .many is,.lst ds=>setFs io is (ds.map fun d=>(0,d)) A
 | _,_=>.bad
@[simp] noncomputable def setTO (io:List Nat)(is:List Nat)(e:Ex)(A:Fr)(x:KD):O:=match x.2 with
 | .tup ds=>setFs io is (ds.map fun d=>(0,d)) (settle e.names A x)
 | .lst ds=>setFs io is (ds.map fun d=>(0,d)) (settle e.names A x)
 | _=>.bad
noncomputable def retO (A:Fr)(e:Ex)(r:R KD):O:=match e with
 | .var i=>match A[i]? with
  | some (some x)=>.ret x.1 x.2 (A.set i none)
  | _=>.bad
 | e=>r.toO A fun x=>.ret x.1 x.2 (settle e.names A x)
@[simp] theorem zE1 (A:Fr)(i:Nat)(r:R KD):retO A (.var i) r=match A[i]? with
  | some (some x)=>.ret x.1 x.2 (A.set i none)
  | _=>.bad:=rfl
@[simp] theorem retO_cst (A:Fr)(d:D)(r:R KD):retO A (.cst d) r=r.toO A fun x=>.ret x.1 x.2 (settle (Ex.cst d).names A x):=rfl
@[simp] theorem retO_op (A:Fr)(o:Op)(es:List Ex)(r:R KD):retO A (.op o es) r=r.toO A fun x=>.ret x.1 x.2 (settle (Ex.op o es).names A x):=rfl
@[simp] theorem retO_and (A:Fr)(x y:Ex)(r:R KD):retO A (.and x y) r=r.toO A fun z=>.ret z.1 z.2 (settle (Ex.and x y).names A z):=rfl
@[simp] theorem retO_or (A:Fr)(x y:Ex)(r:R KD):retO A (.or x y) r=r.toO A fun z=>.ret z.1 z.2 (settle (Ex.or x y).names A z):=rfl
@[simp] theorem retO_ite (A:Fr)(c x y:Ex)(r:R KD):retO A (.ite c x y) r=r.toO A fun z=>.ret z.1 z.2 (settle (Ex.ite c x y).names A z):=rfl
@[simp] theorem retO_chain (A:Fr)(o p:Op)(x y w:Ex)(r:R KD):retO A (.chain o p x y w) r=r.toO A fun z=>.ret z.1 z.2 (settle (Ex.chain o p x y w).names A z):=rfl
@[simp] theorem retO_sl2 (A:Fr)(x y w:Ex)(r:R KD):retO A (.sl2 x y w) r=r.toO A fun z=>.ret z.1 z.2 (settle (Ex.sl2 x y w).names A z):=rfl
@[simp] theorem retO_comp (A:Fr)(caps:List (Option Nat))(tg:Tg)(wk:Wk)(it t:List Ex)(e:Ex)(r:R KD):retO A (.comp caps tg wk it t e) r=r.toO A fun z=>.ret z.1 z.2 (settle (Ex.comp caps tg wk it t e).names A z):=rfl
@[simp] theorem retO_call (A:Fr)(f:Nat)(es:List Ex)(r:R KD):retO A (.call f es) r=r.toO A fun z=>.ret z.1 z.2 (settle (Ex.call f es).names A z):=rfl
@[simp] theorem retO_make (A:Fr)(f:Nat)(es:List Ex)(r:R KD):retO A (.make f es) r=r.toO A fun z=>.ret z.1 z.2 (settle (Ex.make f es).names A z):=rfl
@[simp] theorem retO_meth (A:Fr)(f:Nat)(o:Ex)(es:List Ex)(r:R KD):retO A (.meth f o es) r=r.toO A fun z=>.ret z.1 z.2 (settle (Ex.meth f o es).names A z):=rfl
@[simp] theorem retO_bad (A:Fr)(r:R KD):retO A .bad r=r.toO A fun z=>.ret z.1 z.2 (settle Ex.bad.names A z):=rfl
@[simp] noncomputable def raisO (ns:List Nat)(A:Fr)(x:KD):O:=match x with
 | (_+1,.exc c fs)=>.exc c fs (excA (settle ns A x) fs)
 | _=>.bad
@[simp] noncomputable def mut0 (m:Mu)(vs:List KD)(A:Fr)(x:Nat):Option (Option KD)->O
 | some (some (k+1,.lst xs))=>match mutD m k xs vs with
  | some y=>.nx (A.set x (some y))
  | none=>.bad
 | _=>.bad
noncomputable def mut1 (m:Mu)(vs:List KD)(A:Fr)(x:Nat)(i:Int):Option (Option KD)->O
 | some (some (k+2,.lst xs))=>match ixD xs.length i with
  | some j=>match xs[j]? with
   | some (.lst ys)=>match mutD m k ys vs with
    | some y=>.nx (A.set x (some (addK (k+1) (xs.eraseIdx j) y+1,.lst (xs.set j y.2))))
    | none=>.bad
   | _=>.bad
  | none=>.bad
 | _=>.bad
@[simp] noncomputable def isLst:Option (Option KD)->Bool
 | some (some (_,.lst _))=>true
 | _=>false
@[simp] noncomputable def mutO (m:Mu)(A:Fr)(x:Nat)(es:List Ex)(ps vs:List KD):O:=
 let A1:=if vs.all (fun v=>v.2.fb v.1) then A else frz (Ex.namess es) A
 match ps with
 | []=>mut0 m vs A1 x A1[x]?
 | [(_,.int i)]=>mut1 m vs A1 x i A1[x]?
 | _=>.bad
@[simp] noncomputable def put0 (A:Fr)(x:Nat)(v w:KD):Option (Option KD)->O
 | some (some (k+1,.lst xs))=>match w.2 with
  | .int i=>if 0<=i/\i<xs.length then .nx (A.set x (some (1,.lst (xs.set i.toNat v.2)))) else .bad
  | _=>.bad
 | _=>.bad
@[simp] noncomputable def sfld0 (A:Fr)(x f:Nat)(v:KD):Option (Option KD)->O
 | some (some (k+1,.ins c fs))=>if fs.length<50 then .nx (A.set x (some (addK k (fs.map (·.2)) v+1,.ins c (putF f v.2 fs)))) else .bad
 | some (some (k+1,.exc c fs))=>if fs.length<50 then .nx (A.set x (some (addK k (fs.map (·.2)) v+1,.exc c (putF f v.2 fs)))) else .bad
 | _=>.bad
@[simp] noncomputable def xinitO (A:Fr):List KD->O
 | (_,.exc _ _)::_=>.nx A
 | _=>.bad
@[simp] noncomputable def tryO (G:Pg)(io:List Nat)(c i x:Nat):O->O
 | .exc c' fs A'=>if isTy G (.exc c' fs) (.cls c)=true then (setF io x (0,.exc c' fs) A').seq fun A=>if io.contains i=false/\i≠x/\i<A.length then .nx (A.set i none) else .bad else .bad
 | o=>o
@[simp] noncomputable def appAll0 (io:List Nat)(A:Fr)(x y:Nat)(v:KD):Option (Option KD)->O
 | some (some (k+2,.lst ds))=>if v.2.flat=true/\io.contains x=false/\x≠y/\x<A.length then match appAllD v.2 ds with
   | some es=>.nx ((A.set y (some (k+2,.lst es))).set x none)
   | none=>.bad
  else .bad
 | _=>.bad
@[simp] noncomputable def retP0 (A:Fr)(s:Str)(i:Nat):Option (Option KD)->O
 | some (some x)=>.ret (x.1+1) (.tup [.str s,x.2]) (A.set i none)
 | _=>.bad
@[simp] noncomputable def appAt0 (A:Fr)(x i:Nat)(v:KD):Option (Option KD)->O
 | some (some (k+2,.tup ds))=>match ds[i]? with
  | some (.lst ys)=>if v.2.scal=true/\ys.length<SL then .nx (A.set x (some (k+2,.tup (ds.set i (.lst (ys++[v.2])))))) else .bad
  | _=>.bad
 | _=>.bad
@[simp] noncomputable def Wk.rng:Wk->Bool
 | .rng1=>true
 | _=>false
@[simp] noncomputable def Wk.fz (wk:Wk)(it:List Ex):List Nat:=if wk.rng=true then [] else Ex.namess it
@[simp] noncomputable def foO (G:Pg)(loop:List D->Fr->O)(wk:Wk)(it:List Ex)(A:Fr)(vs:List KD):O:=match wkD wk vs with
 | some xs=>if xs.length<=SL then loop xs (frz (wk.fz it) A) else .bad
 | none=>.bad
mutual
noncomputable def exec (A:Fr):S->O
 | .set i e=>(eval G cl A.sl e).toO A fun x=>setF io i x (settle e.names A x)
 | .setT is e=>(eval G cl A.sl e).toO A (setTO io is e A)
 | .ret e=>retO A e (eval G cl A.sl e)
 | .ex e=>(eval G cl A.sl e).toO A fun x=>.nx (settle e.names A x)
 | .iff c t e=>((eval G cl A.sl c).bl).toO A fun b=>if b then execs A t else execs A e
 | .whl c b=>whlD (fun A=>(eval G cl A.sl c).bl) (fun A=>execs A b) 10000 A
 | .fo tg wk it b=>(evals G cl A.sl it).toO A (foO G (loopD fun x A=>(bindF io tg x A).seq fun A=>execs A b) wk it A)
 | .brk=>.brk A
 | .cnt=>.cnt A
 | .pass=>.nx A
 | .mut x path m es=>if isLst A[x]? then (evals G cl A.sl path).toO A fun ps=>(evals G cl A.sl es).toO A (mutO m A x es ps) else .bad
 | .sfld x f e=>(eval G cl A.sl e).toO A fun v=>sfld0 (settle e.names A v) x f v (settle e.names A v)[x]?
 | .retP s i=>retP0 A s i A[i]?
 | .bad=>.bad
noncomputable def execs (A:Fr):List S->O
 | []=>.nx A
 | s::ss=>(exec A s).seq fun A=>execs A ss
end
end
end
section
variable (G:Pg)(cl:Nat->List KD->Run)(io:List Nat)
@[simp] theorem zCC (A:Fr):execs G cl io A []=.nx A:=rfl
@[simp] theorem zAN (A:Fr)(s:S)(ss:List S):execs G cl io A (s::ss)=(exec G cl io A s).seq fun A=>execs G cl io A ss:=rfl
noncomputable def foB (tg:Tg)(b:List S)(x:D)(A:Fr):O:=(bindF io tg x A).seq fun A=>execs G cl io A b
noncomputable def whT (c:Ex)(A:Fr):R Bool:=(eval G cl A.sl c).bl
noncomputable def whB (b:List S)(A:Fr):O:=execs G cl io A b
@[simp] theorem zBz (A:Fr)(i:Nat)(e:Ex):exec G cl io A (.set i e)=(eval G cl A.sl e).toO A fun x=>setF io i x (settle e.names A x):=rfl
@[simp] theorem zCE (A:Fr)(is:List Nat)(e:Ex):exec G cl io A (.setT is e)=(eval G cl A.sl e).toO A (setTO io is e A):=rfl
@[simp] theorem zCh (A:Fr)(e:Ex):exec G cl io A (.ret e)=retO A e (eval G cl A.sl e):=rfl
@[simp] theorem zEI (A:Fr)(e:Ex):exec G cl io A (.ex e)=(eval G cl A.sl e).toO A fun x=>.nx (settle e.names A x):=rfl
@[simp] theorem zFn (A:Fr)(c:Ex)(t e:List S):exec G cl io A (.iff c t e)=((eval G cl A.sl c).bl).toO A fun b=>if b then execs G cl io A t else execs G cl io A e:=rfl
@[simp] theorem exec_brk (A:Fr):exec G cl io A .brk=.brk A:=rfl
@[simp] theorem exec_cnt (A:Fr):exec G cl io A .cnt=.cnt A:=rfl
@[simp] theorem exec_pass (A:Fr):exec G cl io A .pass=.nx A:=rfl
@[simp] theorem zBA (A:Fr)(x:Nat)(path:List Ex)(m:Mu)(es:List Ex):exec G cl io A (.mut x path m es)=if isLst A[x]? then (evals G cl A.sl path).toO A fun ps=>(evals G cl A.sl es).toO A (mutO m A x es ps) else .bad:=rfl
@[simp] theorem zHl (A:Fr)(x f:Nat)(e:Ex):exec G cl io A (.sfld x f e)=(eval G cl A.sl e).toO A fun v=>sfld0 (settle e.names A v) x f v (settle e.names A v)[x]?:=rfl
@[simp] theorem zD4 (A:Fr)(s:Str)(i:Nat):exec G cl io A (.retP s i)=retP0 A s i A[i]?:=rfl
@[simp] theorem zIL (A:Fr):exec G cl io A .bad=.bad:=rfl
@[simp] theorem zEH (A:Fr)(tg:Tg)(wk:Wk)(it:List Ex)(b:List S):exec G cl io A (.fo tg wk it b)=(evals G cl A.sl it).toO A (foO G (loopD (foB G cl io tg b)) wk it A):=by
 rfl
@[simp] theorem zFm (A:Fr)(c:Ex)(b:List S):exec G cl io A (.whl c b)=whlD (whT G cl c) (whB G cl io b) 10000 A:=by
 rfl
end
theorem zDO {j:Nat}{x:KD}(h:x.2.flat=true):okAt j x=true:=by simp[okAt,h]
@[simp] theorem joinK_nil:joinK []=98:=rfl
@[simp] theorem zBx {x:KD}{xs:List KD}(h:x.2.flat=true):joinK (x::xs)=joinK xs:=by
 have h2:∀j,okAt j x=true:=fun j=>zDO h;unfold joinK;rw[List.find?_cons_of_neg (by simp[h])];cases xs.find? fun x=>!x.2.flat with
 | none=>rfl
 | some y=>
  show (if (okAt y.1 x&&xs.all (okAt y.1))=true then y.1 else 0)=if xs.all (okAt y.1)=true then y.1 else 0
  rw[h2 y.1,Bool.true_and]
@[simp] noncomputable def outs (A:Fr):List Nat->Option (List KD)
 | []=>some []
 | i::is=>match A[i]? with
  | some (some x)=>(outs A is).map fun xs=>x::xs
  | _=>none
@[simp] noncomputable def fin (io:List Nat):O->Run
 | .nx A=>match outs A io with
  | some xs=>.ret 99 .non xs
  | none=>.bad
 | .ret k d A=>match outs A io with
  | some xs=>.ret k d xs
  | none=>.bad
 | .exc c fs A=>match outs A io with
  | some xs=>.exc c fs xs
  | none=>.bad
 | _=>.bad
@[simp] noncomputable def enter (F:Fn)(vs:List KD):Fr:=vs.mapIdx (fun i v=>if F.io.contains i then some v else some (0,v.2))++List.replicate (F.ns - F.np) none
noncomputable def run (G:Pg):Nat->Nat->List KD->Run
 | 0,_,_=>.bad
 | n+1,f,vs=>match G.fn f with
  | some F=>if vs.length=F.np then fin F.io (execs G (run G n) F.io (enter F vs) F.body) else .bad
  | none=>.bad
end
end Ip
end
section
namespace Ip
open PySem
structure Tb where
 fns:List (Str×Nat)
 cls:List (Str×Nat)
 wb:Str
 att:List Str
 fl:List Nat
 cst:List (Str×D)
noncomputable def pos? (x:Str):List Str->Option Nat
 | []=>none
 | y::ys=>if y == x then some 0 else (pos? x ys).map (·+1)
theorem pos?_get {x:Str}:∀{l:List Str} {i:Nat},pos? x l=some i->l[i]? = some x
 | [],_,h=>by simp[pos?] at h
 | y::ys,i,h=>by
  unfold pos? at h;by_cases e:(y == x)=true
  ·rw[if_pos e] at h;cases h;simpa using e
  ·rw[if_neg e] at h;cases q:pos? x ys with
   | none=>rw[q] at h; cases h
   | some j=>rw[q] at h; cases h; simpa using pos?_get q
noncomputable def binO:Operator->Option Op
 | .Add=>some .add | .Sub=>some .sub | .Mult=>some .mul | .FloorDiv=>some .fdiv | .Mod=>some .mod | .Pow=>some .pow
 | _=>none
noncomputable def cmpO:CmpOp->Option Op
 | .Eq=>some .eq | .NotEq=>some .ne | .Lt=>some .lt | .LtE=>some .le | .Gt=>some .gt | .GtE=>some .ge | .In=>some .isin | .NotIn=>some .nin
 | _=>none
noncomputable def isGl (sc:Scope)(x:Str):Bool:=sc.names.lookup x == some .globalImplicit
noncomputable def isVis (sc:Scope)(x:Str):Bool:=sc.names.lookup x == some .local||sc.names.lookup x == some .cell||sc.names.lookup x == some .free
noncomputable def isLoc (sc:Scope)(x:Str):Bool:=sc.names.lookup x == some .local||sc.names.lookup x == some .cell
noncomputable def bi1:List (Str×Op):=[("len",.len),("list",.list),("tuple",.tuple),("all",.all),("any",.any),("int",.toInt),("sum",.sum),("sorted",.srt)]
noncomputable def tyT:List (Str×Ty):=[("int",.int),("bool",.bool),("str",.str),("list",.list),("tuple",.tuple),("dict",.dict),("ValueError",.verr)]
noncomputable def tyOf (T:Tb)(sc:Scope):Expr->Option Ty
 | .Name x _=>if isGl sc x then (match T.cls.lookup x with
  | some c=>some (.cls c)
  | none=>tyT.lookup x) else none
 | _=>none
noncomputable def tysOf (T:Tb)(sc:Scope)(e:Expr):Option (List Ty):=(tyOf T sc e).map fun t=>[t]
noncomputable def compB (sc:Scope)(N N':List Str)(caps:List (Option Nat))(scope:Scope):Bool:=
 scope.kind == .function&&scope.names.all (fun y=>(y.2 != .cell||scope.names.lookup y.1 == some .cell)&&(y.2 != .local||scope.names.lookup y.1 == some .local)&&(y.2 != .free||(sc.names.lookup y.1 == some .cell||sc.names.lookup y.1 == some .free))) &&
 caps.length == N'.length&&decide N'.Nodup&&(caps.zip N').all fun p=>match p.1 with
  | none=>true
  | some j=>N[j]? == some p.2&&scope.names.lookup p.2 == some .free
noncomputable def blockN (scope:Scope):List Str:=(scope.names.filter fun y=>y.2 == .local||y.2 == .cell||y.2 == .free).map (·.1)
noncomputable def blockC (N:List Str)(scope:Scope):List (Option Nat):=(scope.names.filter fun y=>y.2 == .local||y.2 == .cell||y.2 == .free).map fun y=>if y.2 == .free then pos? y.1 N else none
noncomputable def tgOf (sc:Scope)(N:List Str):Expr->Option Tg
 | .Name x _=>if isLoc sc x then (pos? x N).map .one else none
 | .Tuple es _ _=>(es.mapM fun (e:Expr)=>match e with
  | .Name x _=>if isLoc sc x then pos? x N else none
  | _=>none).map .many
 | _=>none
theorem zDE (sc:Scope)(N:List Str)(x:Str)(p:Pos):tgOf sc N (.Name x p)=if isLoc sc x then (pos? x N).map .one else none:=rfl
theorem zFG (sc:Scope)(N:List Str)(es:List Expr)(k:Nat)(p:Pos):tgOf sc N (.Tuple es k p)=(es.mapM fun (e:Expr)=>match e with
  | .Name x _=>if isLoc sc x then pos? x N else none
  | _=>none).map .many:=rfl
noncomputable def okName (x:Str):Bool:=!(x == ("__debug__" : Str))&&!(x == ("__classdict__" : Str))
noncomputable def notSet:Expr->Bool
 | .Set _ _ _=>false
 | _=>true
noncomputable def chO:CmpOp->Option Op
 | .Eq=>some .eq | .NotEq=>some .ne | .Lt=>some .lt | .LtE=>some .le | .Gt=>some .gt | .GtE=>some .ge
 | _=>none
noncomputable def isNone:Expr->Bool
 | .Constant .none _ _=>true
 | _=>false
noncomputable def noStar (es:List Expr):Bool:=es.all fun e=>match e with
 | .Starred _ _=>false
 | _=>true
noncomputable def zAv:Expr->Bool
 | .Call (.Name _ _) [] [] _=>false
 | _=>true
noncomputable def wkOk:Wk->Tg->Bool
 | .enum,.one _=>false
 | .zip,.one _=>false
 | _,_=>true
noncomputable def tgIx:Tg->List Nat
 | .one i=>[i]
 | .many is=>is
noncomputable def nameP:Expr->Option Str
 | .Name x _=>some x
 | _=>none
noncomputable def callP:Expr->Option (Expr×List Expr×List Keyword×Pos)
 | .Call f a k p=>some (f,a,k,p)
 | _=>none
theorem zFd {e:Expr}{x:Str}(h:nameP e=some x):∃p,e=.Name x p:=by
 cases e <;> first | exact (zAw h).elim | exact⟨_,congrArg (fun x=>Expr.Name x _) (zn3 h)⟩
theorem zIY {e:Expr}{x:Expr×List Expr×List Keyword×Pos}(h:callP e=some x):e=.Call x.1 x.2.1 x.2.2.1 x.2.2.2:=by
 cases e <;> first | exact (zAw h).elim | exact congrArg (fun x:Expr×List Expr×List Keyword×Pos=>Expr.Call x.1 x.2.1 x.2.2.1 x.2.2.2) (zn3 h)
noncomputable def inP (sc:Scope)(f:Str)(a:Expr):Option (Op×Expr):=(callP a).bind fun c=>(nameP c.1).bind fun g=>if c.2.1.length=1/\c.2.2.1.isEmpty=true/\(isGl sc g&&noStar c.2.1)=true then
  (if (f == ("sorted" : Str)&&g == ("set" : Str))=true then c.2.1.head?.map fun b=>(.srtSet,b) else none)
 else none
theorem zMU {sc:Scope}{f:Str}{a b:Expr}{o:Op}(h:inP sc f a=some (o,b)):∃g p1 p2,a=.Call (.Name g p1) [b] [] p2/\isGl sc g=true/\noStar [b]=true/\f = "sorted" /\ g = "set" /\ o=.srtSet:=by
 unfold inP at h;obtain⟨c,n1,r1⟩:=zp4 h;obtain⟨g,n2,r2⟩:=zp4 r1;have e1:=zIY n1;obtain⟨p,e2⟩:=zFd n2;by_cases c1:c.2.1.length=1/\c.2.2.1.isEmpty=true/\(isGl sc g&&noStar c.2.1)=true
 rotate_left
 ·rw[if_neg c1] at r2; exact (zAw r2).elim
 rw[if_pos c1] at r2;obtain⟨l1,l2,l3⟩:=c1;obtain⟨x,ex⟩:=List.length_eq_one_iff.mp l1;rw[Bool.and_eq_true] at l3;have kw:c.2.2.1=[]:=List.isEmpty_iff.mp l2;by_cases c2:(f == ("sorted" : Str)&&g == ("set" : Str))=true
 ·rw[if_pos c2,ex] at r2;have r3:(Op.srtSet,x)=(o,b):=zn3 r2;cases r3;simp only[Bool.and_eq_true,beq_iff_eq] at c2;exact⟨g,p,c.2.2.2,by rw[e1,e2,ex,kw],l3.1,by rw[<-ex]; exact l3.2,c2.1,c2.2,rfl⟩
 ·rw[if_neg c2] at r2; exact (zAw r2).elim
section
variable (T:Tb)
noncomputable def pv? (x:Str)(N:List Str)(f:Nat->Ex):Ex:=match pos? x N with
 | some i=>f i
 | none=>.bad
noncomputable def isNm:Expr->Bool
 | .Name _ _=>true
 | _=>false
noncomputable def isNm2:Expr->Bool
 | .Name _ _=>true
 | .Subscript a i _=>isNm a&&isNm i
 | _=>false
noncomputable def isIdx (m:Str)(args:List Expr):Bool:=m == ("index" : Str)&&args.length == 1&&args.all isNm2
mutual
noncomputable def cE (sc:Scope)(N:List Str):Nat->Expr->Ex
 | 0,_=>.bad
 | n+1,.Name x _=>if isVis sc x&&okName x then pv? x N .var else if isGl sc x then (match T.cst.lookup x with | some d=>.cst d | none=>.bad) else .bad
 | n+1,.Constant c _ _=>match c with
  | .none=>.cst .non
  | .bool b=>.cst (.bl b)
  | .int i=>.cst (.int i)
  | .str s=>.cst (.str s)
  | _=>.bad
 | n+1,.BinOp a o b _=>match binO o with
  | some o=>.op o [cE sc N n a,cE sc N n b]
  | none=>.bad
 | n+1,.UnaryOp o a _=>match o with
  | .Not=>.op .not [cE sc N n a]
  | .USub=>.op .neg [cE sc N n a]
  | _=>.bad
 | n+1,.BoolOp o es p=>match es with
  | []=>.bad
  | [a]=>cE sc N n a
  | a::b::es=>match o with
   | .And=>.and (cE sc N n a) (cE sc N n (.BoolOp o (b::es) p))
   | .Or=>.or (cE sc N n a) (cE sc N n (.BoolOp o (b::es) p))
 | n+1,.Compare a os bs _=>match os,bs with
  | [o],[b]=>match o with
   | .Is=>if isNone b then .op .isN [cE sc N n a] else .bad
   | .IsNot=>if isNone b then .op .notN [cE sc N n a] else .bad
   | o=>match cmpO o with
    | some o=>if notSet b then .op o [cE sc N n a,cE sc N n b] else .bad
    | none=>.bad
  | [o,p],[b,c]=>match chO o,chO p with
   | some o,some p=>.chain o p (cE sc N n a) (cE sc N n b) (cE sc N n c)
   | _,_=>.bad
  | _,_=>.bad
 | n+1,.IfExp c a b _=>.ite (cT sc N n c) (cE sc N n a) (cE sc N n b)
 | n+1,.List es _=>if es.length<=1000 then .op .lst (es.map (cE sc N n)) else .bad
 | n+1,.Tuple es _ _=>if es.length<=1000 then .op .tup (es.map (cE sc N n)) else .bad
 | n+1,.Subscript a i _=>match i with
  | .Slice lo hi st _=>match lo,hi,st with
   | some l,none,none=>.op .slL [cE sc N n a,cE sc N n l]
   | none,some l,none=>.op .slH [cE sc N n a,cE sc N n l]
   | some l,some h,none=>.sl2 (cE sc N n a) (cE sc N n l) (cE sc N n h)
   | _,_,_=>.bad
  | i=>.op .ix [cE sc N n a,cE sc N n i]
 | n+1,.Attribute o f _=>match pos? f T.att with
  | some k=>if T.fl.contains k&&zAv o then .op (.fld k) [cE sc N n o] else .bad
  | none=>.bad
 | n+1,.ListComp e gs scope _=>match gs with
  | [⟨tg,iter,ifs,as⟩]=>
   if compB sc N (blockN scope) (blockC N scope) scope&&as == 0&&decide (ifs.length<=1) then
    match tgOf scope (blockN scope) tg with
    | some g=>if wkOk (cI sc N n iter).1 g&&(tgIx g).all (fun i=>(blockC N scope)[i]? == some none) then
      .comp (blockC N scope) g (cI sc N n iter).1 (cI sc N n iter).2 (ifs.map (cT scope (blockN scope) n)) (cE scope (blockN scope) n e)
     else .bad
    | none=>.bad
   else .bad
  | _=>.bad
 | n+1,.Call f args kws cp=>match kws with
  | []=>match f with
   | .Name f _=>if isGl sc f then
     match T.fns.lookup f with
     | some k=>if noStar args then .call k (args.map (cE sc N n)) else .bad
     | none=>match T.cls.lookup f with
      | some c=>if noStar args then .make c (args.map (cE sc N n)) else .bad
      | none=>cB sc N n f args
    else .bad
   | .Attribute o m ap=>match pos? m T.att with
     | some k=>if zAv o&&noStar args&&decide (args.length<30)&&ap.endLine == cp.line then .meth k (cE sc N n o) (args.map (cE sc N n)) else .bad
     | none=>if isIdx m args&&zAv o&&noStar args&&ap.endLine == cp.line then .op .index ((o::args).map (cE sc N n)) else .bad
   | _=>.bad
  | _=>.bad
 | _,_=>.bad
noncomputable def cT (sc:Scope)(N:List Str):Nat->Expr->Ex
 | 0,_=>.bad
 | n+1,.BoolOp o es p=>match es with
  | []=>.bad
  | [a]=>cT sc N n a
  | a::b::es=>match o with
   | .And=>.and (cT sc N n a) (cT sc N n (.BoolOp o (b::es) p))
   | .Or=>.or (cT sc N n a) (cT sc N n (.BoolOp o (b::es) p))
 | n+1,.UnaryOp .Not a _=>.op .not [cT sc N n a]
 | n+1,.IfExp _ _ _ _=>.bad
 | n+1,e=>cE sc N n e
noncomputable def cB (sc:Scope)(N:List Str):Nat->Str->List Expr->Ex
 | 0,_,_=>.bad
 | n+1,f,args=>match args with
  | [a]=>match inP sc f a with
   | some (o,b)=>.op o [cE sc N n b]
   | none=>match bi1.lookup f with
    | some o=>.op o [cE sc N n a]
    | none=>.bad
  | [a,b]=>if f == ("isinstance" : Str) then (match tysOf T sc b with
    | some ts=>.op (.isi ts) [cE sc N n a]
    | none=>.bad)
   else if f == ("max" : Str)&&noStar [a,b] then .op .max2 [cE sc N n a,cE sc N n b]
   else if f == ("min" : Str)&&noStar [a,b] then .op .min2 [cE sc N n a,cE sc N n b]
   else .bad
  | _=>.bad
noncomputable def cI (sc:Scope)(N:List Str):Nat->Expr->Wk×List Ex
 | 0,_=>(.seq,[.bad])
 | n+1,e=>match e with
  | .Call (.Name f p) args [] q=>
   if isGl sc f&&f == ("range" : Str)&&noStar args then match args with
    | [a]=>(.rng1,[cE sc N n a])
    | _=>(.seq,[.bad])
   else if isGl sc f&&f == ("enumerate" : Str)&&noStar args then match args with
    | [a]=>(.enum,[cE sc N n a])
    | _=>(.seq,[.bad])
   else if isGl sc f&&f == ("zip" : Str)&&noStar args then match args with
    | [a,b]=>(.zip,[cE sc N n a,cE sc N n b])
    | _=>(.seq,[.bad])
   else if isGl sc f&&f == ("reversed" : Str)&&noStar args then match args with
    | [a]=>(.rev,[cE sc N n a])
    | _=>(.seq,[.bad])
   else (.seq,[cE sc N n (.Call (.Name f p) args [] q)])
  | e=>(.seq,[cE sc N n e])
end
theorem zHB (sc:Scope)(N:List Str)(e:Expr):cE T sc N 0 e=.bad:=rfl
theorem zHC (sc:Scope)(N:List Str)(n:Nat)(x:Str)(p:Pos):cE T sc N (n+1) (.Name x p)=if isVis sc x&&okName x then pv? x N .var else if isGl sc x then (match T.cst.lookup x with | some d=>.cst d | none=>.bad) else .bad:=rfl
theorem zI1 (sc:Scope)(N:List Str)(n:Nat)(a:Expr)(o:Operator)(b:Expr)(p:Pos):cE T sc N (n+1) (.BinOp a o b p)=match binO o with
  | some o=>.op o [cE T sc N n a,cE T sc N n b]
  | none=>.bad:=rfl
theorem zF2 (sc:Scope)(N:List Str)(n:Nat)(o:UnaryOp)(a:Expr)(p:Pos):cE T sc N (n+1) (.UnaryOp o a p)=match o with
  | .Not=>.op .not [cE T sc N n a]
  | .USub=>.op .neg [cE T sc N n a]
  | _=>.bad:=rfl
theorem zBF (sc:Scope)(N:List Str)(n:Nat)(a:Expr)(os:List CmpOp)(bs:List Expr)(p:Pos):cE T sc N (n+1) (.Compare a os bs p)=match os,bs with
  | [o],[b]=>match o with
   | .Is=>if isNone b then .op .isN [cE T sc N n a] else .bad
   | .IsNot=>if isNone b then .op .notN [cE T sc N n a] else .bad
   | o=>match cmpO o with
    | some o=>if notSet b then .op o [cE T sc N n a,cE T sc N n b] else .bad
    | none=>.bad
  | [o,p],[b,c]=>match chO o,chO p with
   | some o,some p=>.chain o p (cE T sc N n a) (cE T sc N n b) (cE T sc N n c)
   | _,_=>.bad
  | _,_=>.bad:=rfl
theorem zFw (sc:Scope)(N:List Str)(n:Nat)(c a b:Expr)(p:Pos):cE T sc N (n+1) (.IfExp c a b p)=.ite (cT T sc N n c) (cE T sc N n a) (cE T sc N n b):=rfl
theorem zHD (sc:Scope)(N:List Str)(n:Nat)(es:List Expr)(p:Pos):cE T sc N (n+1) (.List es p)=if es.length<=1000 then .op .lst (es.map (cE T sc N n)) else .bad:=rfl
theorem zFv (sc:Scope)(N:List Str)(n:Nat)(es:List Expr)(k:Nat)(p:Pos):cE T sc N (n+1) (.Tuple es k p)=if es.length<=1000 then .op .tup (es.map (cE T sc N n)) else .bad:=rfl
theorem zAR (sc:Scope)(N:List Str)(n:Nat)(a i:Expr)(p:Pos):cE T sc N (n+1) (.Subscript a i p)=match i with
  | .Slice lo hi st _=>match lo,hi,st with
   | some l,none,none=>.op .slL [cE T sc N n a,cE T sc N n l]
   | none,some l,none=>.op .slH [cE T sc N n a,cE T sc N n l]
   | some l,some h,none=>.sl2 (cE T sc N n a) (cE T sc N n l) (cE T sc N n h)
   | _,_,_=>.bad
  | i=>.op .ix [cE T sc N n a,cE T sc N n i]:=rfl
theorem zB8 (sc:Scope)(N:List Str)(n:Nat)(o:Expr)(f:Str)(p:Pos):cE T sc N (n+1) (.Attribute o f p)=match pos? f T.att with
  | some k=>if T.fl.contains k&&zAv o then .op (.fld k) [cE T sc N n o] else .bad
  | none=>.bad:=rfl
theorem zBL (sc:Scope)(N:List Str)(n:Nat)(e:Expr)(gs:List Comprehension)(scope:Scope)(p:Pos):cE T sc N (n+1) (.ListComp e gs scope p)=match gs with
  | [⟨tg,iter,ifs,as⟩]=>
   if compB sc N (blockN scope) (blockC N scope) scope&&as == 0&&decide (ifs.length<=1) then
    match tgOf scope (blockN scope) tg with
    | some g=>if wkOk (cI T sc N n iter).1 g&&(tgIx g).all (fun i=>(blockC N scope)[i]? == some none) then
      .comp (blockC N scope) g (cI T sc N n iter).1 (cI T sc N n iter).2 (ifs.map (cT T scope (blockN scope) n)) (cE T scope (blockN scope) n e)
     else .bad
    | none=>.bad
   else .bad
  | _=>.bad:=rfl
theorem zEN (sc:Scope)(N:List Str)(n:Nat)(f:Expr)(args:List Expr)(kws:List Keyword)(cp:Pos):cE T sc N (n+1) (.Call f args kws cp)=match kws with
  | []=>match f with
   | .Name f _=>if isGl sc f then
     match T.fns.lookup f with
     | some k=>if noStar args then .call k (args.map (cE T sc N n)) else .bad
     | none=>match T.cls.lookup f with
      | some c=>if noStar args then .make c (args.map (cE T sc N n)) else .bad
      | none=>cB T sc N n f args
    else .bad
   | .Attribute o m ap=>match pos? m T.att with
     | some k=>if zAv o&&noStar args&&decide (args.length<30)&&ap.endLine == cp.line then .meth k (cE T sc N n o) (args.map (cE T sc N n)) else .bad
     | none=>if isIdx m args&&zAv o&&noStar args&&ap.endLine == cp.line then .op .index ((o::args).map (cE T sc N n)) else .bad
   | _=>.bad
  | _=>.bad:=rfl
theorem zEO (sc:Scope)(N:List Str)(n:Nat)(f:Str)(args:List Expr):cB T sc N (n+1) f args=match args with
  | [a]=>match inP sc f a with
   | some (o,b)=>.op o [cE T sc N n b]
   | none=>match bi1.lookup f with
    | some o=>.op o [cE T sc N n a]
    | none=>.bad
  | [a,b]=>if f == ("isinstance" : Str) then (match tysOf T sc b with
    | some ts=>.op (.isi ts) [cE T sc N n a]
    | none=>.bad)
   else if f == ("max" : Str)&&noStar [a,b] then .op .max2 [cE T sc N n a,cE T sc N n b]
   else if f == ("min" : Str)&&noStar [a,b] then .op .min2 [cE T sc N n a,cE T sc N n b]
   else .bad
  | _=>.bad:=rfl
theorem zLy (sc:Scope)(N:List Str)(n:Nat)(e:Expr):cI T sc N (n+1) e=match e with
  | .Call (.Name f p) args [] q=>
   if isGl sc f&&f == ("range" : Str)&&noStar args then match args with
    | [a]=>(.rng1,[cE T sc N n a])
    | _=>(.seq,[.bad])
   else if isGl sc f&&f == ("enumerate" : Str)&&noStar args then match args with
    | [a]=>(.enum,[cE T sc N n a])
    | _=>(.seq,[.bad])
   else if isGl sc f&&f == ("zip" : Str)&&noStar args then match args with
    | [a,b]=>(.zip,[cE T sc N n a,cE T sc N n b])
    | _=>(.seq,[.bad])
   else if isGl sc f&&f == ("reversed" : Str)&&noStar args then match args with
    | [a]=>(.rev,[cE T sc N n a])
    | _=>(.seq,[.bad])
   else (.seq,[cE T sc N n (.Call (.Name f p) args [] q)])
  | e=>(.seq,[cE T sc N n e]):=rfl
noncomputable def ps? (x:Str)(N:List Str)(f:Nat->S):S:=match pos? x N with
 | some i=>f i
 | none=>.bad
noncomputable def isCall:Expr->Bool
 | .Call _ _ _ _=>true
 | .Name _ _=>true
 | _=>false
noncomputable def cAsg (sc:Scope)(N:List Str)(n:Nat)(ts:List Expr)(e:Expr):S:=match ts with
 | [.Name x _]=>if isLoc sc x then ps? x N fun i=>.set i (cE T sc N n e) else .bad
 | [.Tuple es k tp]=>if isCall e then (match tgOf sc N (.Tuple es k tp) with
   | some (.many is)=>.setT is (cE T sc N n e)
   | _=>.bad) else .bad
 | [.Attribute (.Name x _) f _]=>if isVis sc x&&okName x then ps? x N fun k=>ps? f T.att fun j=>if T.fl.contains j then .sfld k j (cE T sc N n e) else .bad else .bad
 | _=>.bad
noncomputable def cApp (sc:Scope)(N:List Str)(n:Nat)(x:Str)(mp cp:Pos)(args:List Expr):S:=match args with
 | [a]=>if noStar [a]&&mp.endLine == cp.line then ps? x N fun i=>.mut i [] .append [cE T sc N n a] else .bad
 | _=>.bad
noncomputable def cExt (sc:Scope)(N:List Str)(n:Nat)(x:Str)(mp cp:Pos)(args:List Expr):S:=match args with
 | [a]=>if noStar [a]&&mp.endLine == cp.line then ps? x N fun i=>.mut i [] .extend [cE T sc N n a] else .bad
 | _=>.bad
noncomputable def cRem (sc:Scope)(N:List Str)(n:Nat)(x:Str)(mp cp:Pos)(args:List Expr):S:=match args with
 | [a]=>if noStar [a]&&mp.endLine == cp.line then ps? x N fun i=>.mut i [] .remove [cE T sc N n a] else .bad
 | _=>.bad
noncomputable def cExp (sc:Scope)(N:List Str)(n:Nat)(e:Expr):S:=match e with
 | .Call (.Attribute (.Name x xp) m mp) args [] cp=>
  if isVis sc x&&okName x&&m == ("append" : Str) then cApp T sc N n x mp cp args
  else if isVis sc x&&okName x&&m == ("extend" : Str) then cExt T sc N n x mp cp args
  else if isVis sc x&&okName x&&m == ("remove" : Str) then cRem T sc N n x mp cp args
  else .ex (cE T sc N n (.Call (.Attribute (.Name x xp) m mp) args [] cp))
 | .ListComp _ _ _ _=>.bad
 | e=>.ex (cE T sc N n e)
noncomputable def strP:Expr->Option Str
 | .Constant c _ _=>(match c with | .str s=>some s | _=>none)
 | _=>none
theorem zJ2 {e:Expr}{s:Str}(h:strP e=some s):∃k p,e=.Constant (.str s) k p:=by
 cases e <;> first | exact (zAw h).elim | skip
 rename_i c k p;cases c <;> first | exact (zAw h).elim | (cases h; exact⟨_,_,rfl⟩)
noncomputable def tupP:Expr->Option (List Expr)
 | .Tuple es _ _=>some es
 | _=>none
theorem zJX {e:Expr}{es:List Expr}(h:tupP e=some es):∃k p,e=.Tuple es k p:=by
 cases e <;> first | exact (zAw h).elim | (cases h; exact⟨_,_,rfl⟩)
noncomputable def stP (sc:Scope)(e:Expr):Option (Str×Str):=(tupP e).bind fun es=>if es.length=2 then (es.head?.bind strP).bind fun s=>(es.getLast?.bind nameP).bind fun x=>if (isVis sc x&&okName x)=true then some (s,x) else none else none
theorem zLY {sc:Scope}{e:Expr}{s x:Str}(h:stP sc e=some (s,x)):∃k1 p1 p2 k3 p3,e=.Tuple [.Constant (.str s) k1 p1,.Name x p2] k3 p3/\isVis sc x=true/\okName x=true:=by
 unfold stP at h;obtain⟨es,n1,r1⟩:=zp4 h;obtain⟨k3,p3,e1⟩:=zJX n1;by_cases c1:es.length=2
 rotate_left
 ·rw[if_neg c1] at r1; exact (zAw r1).elim
 rw[if_pos c1] at r1;obtain⟨a,b,rfl⟩:∃a b,es=[a,b]:=by
  match es,c1 with
  | [a,b],_=>exact⟨a,b,rfl⟩
 obtain⟨s',n2,r2⟩:=zp4 r1;obtain⟨x',n3,r3⟩:=zp4 r2;by_cases c2:(isVis sc x'&&okName x')=true
 rotate_left
 ·rw[if_neg c2] at r3; exact (zAw r3).elim
 rw[if_pos c2] at r3;cases r3;obtain⟨k1,p1,e2⟩:=zJ2 (show strP a=some s from n2);obtain⟨p2,e3⟩:=zFd (show nameP b=some x from n3);rw[Bool.and_eq_true] at c2;exact⟨k1,p1,p2,k3,p3,by rw[e1,e2,e3],c2.1,c2.2⟩
noncomputable def cRet (sc:Scope)(N:List Str)(n:Nat)(o:Option Expr):S:=match o with
 | none=>.ret (.cst .non)
 | some e=>match e with
  | .Name x p=>if isVis sc x&&okName x then ps? x N fun i=>.ret (.var i) else .bad
  | .BoolOp _ [_] _=>.bad
  | e=>match stP sc e with
   | some (s,x)=>ps? x N fun i=>.retP s i
   | none=>.ret (cE T sc N n e)
noncomputable def cFor (sc:Scope)(N:List Str)(n:Nat)(tg it:Expr)(b els:List Stmt)(cb:List S):S:=match els with
 | _::_=>.bad
 | []=>match tgOf sc N tg with
   | some g=>if wkOk (cI T sc N n it).1 g then .fo g (cI T sc N n it).1 (cI T sc N n it).2 cb else .bad
   | none=>.bad
noncomputable def cS (sc:Scope)(N:List Str):Nat->Stmt->S
 | 0,_=>.bad
 | n+1,.Assign ts e _=>cAsg T sc N n ts e
 | n+1,.Expr e _=>cExp T sc N n e
 | n+1,.Return o _=>cRet T sc N n o
 | n+1,.If c a b _=>.iff (cT T sc N n c) (a.map (cS sc N n)) (b.map (cS sc N n))
 | n+1,.For tg it b els _=>cFor T sc N n tg it b els (b.map (cS sc N n))
 | n+1,.While c b els _=>if els.isEmpty=true then .whl (cT T sc N n c) (b.map (cS sc N n)) else .bad
 | n+1,.Break _=>.brk
 | n+1,.Continue _=>.cnt
 | n+1,.Pass _=>.pass
 | _,_=>.bad
theorem zHz (sc:Scope)(N:List Str)(n:Nat)(ts:List Expr)(e:Expr)(p:Pos):cS T sc N (n+1) (.Assign ts e p)=cAsg T sc N n ts e:=rfl
theorem zLx (sc:Scope)(N:List Str)(n:Nat)(e:Expr)(p:Pos):cS T sc N (n+1) (.Expr e p)=cExp T sc N n e:=rfl
theorem zEd (sc:Scope)(N:List Str)(n:Nat)(o:Option Expr)(p:Pos):cS T sc N (n+1) (.Return o p)=cRet T sc N n o:=rfl
theorem zIZ (sc:Scope)(N:List Str)(n:Nat)(c:Expr)(b els:List Stmt)(p:Pos):cS T sc N (n+1) (.While c b els p)=if els.isEmpty=true then .whl (cT T sc N n c) (b.map (cS T sc N n)) else .bad:=rfl
theorem zNw (sc:Scope)(N:List Str)(n:Nat)(tg it:Expr)(b els:List Stmt)(p:Pos):cS T sc N (n+1) (.For tg it b els p)=cFor T sc N n tg it b els (b.map (cS T sc N n)):=rfl
noncomputable def dCst:Expr->Option D
 | .Constant .none _ _=>some .non
 | .Constant (.bool b) _ _=>some (.bl b)
 | .Constant (.int i) _ _=>some (.int i)
 | .Constant (.str s) _ _=>some (.str s)
 | _=>none
noncomputable def fnN (a:Arguments)(sc:Scope):List Str:=
 let ps:=a.args.map (·.arg)
 ps++((sc.names.filter fun y=>(y.2 == .local||y.2 == .cell)&&!ps.contains y.1).map (·.1))
noncomputable def cF (io:List Nat):Stmt->Option Fn
 | .FunctionDef _ a body [] _ _ sc _ _ _=>(a.defaults.mapM dCst).map fun ds=>⟨a.args.length,io,(fnN a sc).length,ds,body.map (cS T sc (fnN a sc) 60)⟩
 | _=>none
end
end Ip
end
section
namespace L2
open PySem PySem.Spec PyProof.Rows
open Ip (D KD Ex Op Pg Fn Sl Fr Wk Tg Tb)
structure Wd where
 K:zFg
 iA:Nat->Option Addr
 xA:Nat->Option Addr
 att:List Str
def Sub (S H:Hp):Prop:=∀a o,S a=some o->H a=some o
theorem Sub.refl (H:Hp):Sub H H:=fun _ _ h=>h
theorem Sub.trans {A B C:Hp}(h:Sub A B)(k:Sub B C):Sub A C:=fun a o e=>k a o (h a o e)
theorem Sub.upd {H:Hp}{a:Addr}{o:HO}(h:H a=none):Sub H (upd H a o):=fun b u e=>by
 rw[zAm (fun z=>by rw[z,h] at e; cases e)]; exact e
theorem Sub.none {A B:Hp}(h:Sub A B){a:Addr}(e:B a=none):A a=none:=by
 cases q:A a with
 | none=>rfl
 | some o=>rw[h a o q] at e; cases e
open Classical in
noncomputable def hid (N:Addr->Prop)(H:Hp):Hp:=fun a=>if N a then none else H a
theorem zAa {N:Addr->Prop}{H:Hp}{a:Addr}{o:HO}:hid N H a=some o↔¬N a/\H a=some o:=by
 unfold hid;by_cases h:N a
 ·simp[h]
 ·simp[h]
theorem zAc {N:Addr->Prop}{H:Hp}:Sub (hid N H) H:=fun _ _ e=>(zAa.mp e).2
theorem zAz {N N':Addr->Prop}{H H':Hp}(h:Sub H H')(n:∀a,N' a->N a\/H a=none):Sub (hid N H) (hid N' H'):=fun a o e=>by
 obtain⟨h1,h2⟩:=zAa.mp e;refine zAa.mpr ⟨fun z=>?_,h a o h2⟩;rcases n a z with q | q
 ·exact h1 q
 ·rw[h2] at q; cases q
theorem Rd.sub {S H:Hp}{a:Addr}{u:HO}(h:Sub S H):Rd S a u->Rd H a u
 | .inl e=>.inl (h _ _ e)
 | .inr ⟨o,e⟩=>.inr ⟨o,h _ _ e⟩
theorem SqL.sub {K:zFg}{S H:Hp}{a:Addr}{xs:List V}(h:Sub S H):SqL K S a xs->SqL K H a xs
 | .inl e=>.inl (Rd.sub h e)
 | .inr e=>.inr e
theorem SqT.sub {K:zFg}{S H:Hp}{a:Addr}{xs:List V}(h:Sub S H):SqT K S a xs->SqT K H a xs
 | .inl e=>.inl (Rd.sub h e)
 | .inr e=>.inr e
mutual
inductive Den (W:Wd) (S:Hp):V->D->Prop
 | non:Den W S .non .non
 | bl {b:Bool}:Den W S (.bl b) (.bl b)
 | int {i:Int}:Den W S (.int i) (.int i)
 | str {s:Str}:Den W S (.str s) (.str s)
 | lst {a:Addr} {vs:List V} {ds:List D} (h:Rd S a (.lst vs)) (q:Dens W S vs ds):Den W S (.ref a) (.lst ds)
 | tup {a:Addr} {vs:List V} {ds:List D} (h:SqT W.K S a vs) (q:Dens W S vs ds):Den W S (.ref a) (.tup ds)
 | ins {a C dx:Addr} {c:Nat} {fs:List (Str×V)} {ds:List (Nat×D)} (h:S a=some (.ins C dx fs)) (hc:W.iA c=some C) (q:DenF W S fs ds):Den W S (.ref a) (.ins c ds)
 | exc {a C:Addr} {nw:Bool} {c:Nat} {fs:List (Str×V)} {ds:List (Nat×D)} (h:S a=some (.exc C nw fs)) (hc:W.xA c=some C) (q:DenF W S fs ds):Den W S (.ref a) (.exc c ds)
inductive Dens (W:Wd) (S:Hp):List V->List D->Prop
 | nil:Dens W S [] []
 | cons {v:V} {d:D} {vs:List V} {ds:List D} (h:Den W S v d) (q:Dens W S vs ds):Dens W S (v::vs) (d::ds)
inductive DenF (W:Wd) (S:Hp):List (Str×V)->List (Nat×D)->Prop
 | nil:DenF W S [] []
 | cons {n:Str} {f:Nat} {v:V} {d:D} {vs:List (Str×V)} {ds:List (Nat×D)} (hf:W.att[f]? = some n) (h:Den W S v d) (q:DenF W S vs ds):DenF W S ((n,v)::vs) ((f,d)::ds)
end
mutual
theorem Den.mono {W:Wd}{S H:Hp}(h:Sub S H):∀{v d},Den W S v d->Den W H v d
 | _,_,.non=>.non
 | _,_,.bl=>.bl
 | _,_,.int=>.int
 | _,_,.str=>.str
 | _,_,.lst e q=>.lst (Rd.sub h e) (q.mono h)
 | _,_,.tup e q=>.tup (SqT.sub h e) (q.mono h)
 | _,_,.ins e hc q=>.ins (h _ _ e) hc (q.mono h)
 | _,_,.exc e hc q=>.exc (h _ _ e) hc (q.mono h)
theorem Dens.mono {W:Wd}{S H:Hp}(h:Sub S H):∀{v d},Dens W S v d->Dens W H v d
 | _,_,.nil=>.nil
 | _,_,.cons e q=>.cons (e.mono h) (q.mono h)
theorem DenF.mono {W:Wd}{S H:Hp}(h:Sub S H):∀{v d},DenF W S v d->DenF W H v d
 | _,_,.nil=>.nil
 | _,_,.cons f e q=>.cons f (e.mono h) (q.mono h)
end
theorem Dens.length {W:Wd}{S:Hp}:∀{vs ds},Dens W S vs ds->vs.length=ds.length
 | _,_,.nil=>rfl
 | _,_,.cons _ q=>by rw[List.length_cons,List.length_cons,q.length]
theorem Dens.get {W:Wd}{S:Hp}:∀{vs ds} {i:Nat} {d:D},Dens W S vs ds->ds[i]? = some d->∃v,vs[i]? = some v/\Den W S v d
 | _,_,_,_,.nil,e=>by simp at e
 | _,_,0,_,.cons h _,e=>by simp at e; subst e; exact⟨_,rfl,h⟩
 | _,_,i+1,_,.cons _ q,e=>by simpa using q.get (i:=i) (by simpa using e)
theorem Dens.append {W:Wd}{S:Hp}:∀{vs ws ds es},Dens W S vs ds->Dens W S ws es->Dens W S (vs++ws) (ds++es)
 | _,_,_,_,.nil,q=>q
 | _,_,_,_,.cons h t,q=>.cons h (t.append q)
theorem Dens.take {W:Wd}{S:Hp}:∀{vs ds} (n:Nat),Dens W S vs ds->Dens W S (vs.take n) (ds.take n)
 | _,_,0,_=>.nil
 | _,_,_+1,.nil=>.nil
 | _,_,n+1,.cons h t=>.cons h (t.take n)
theorem Dens.drop {W:Wd}{S:Hp}:∀{vs ds} (n:Nat),Dens W S vs ds->Dens W S (vs.drop n) (ds.drop n)
 | _,_,0,h=>h
 | _,_,_+1,.nil=>.nil
 | _,_,n+1,.cons _ t=>t.drop n
theorem Dens.reverse {W:Wd}{S:Hp}:∀{vs ds},Dens W S vs ds->Dens W S vs.reverse ds.reverse
 | _,_,.nil=>.nil
 | _,_,.cons h t=>by simp only[List.reverse_cons]; exact t.reverse.append (.cons h .nil)
theorem Dens.set {W:Wd}{S:Hp}{v:V}{d:D}(r:Den W S v d):∀{vs ds} (i:Nat),Dens W S vs ds->Dens W S (vs.set i v) (ds.set i d)
 | _,_,_,.nil=>.nil
 | _,_,0,.cons _ t=>.cons r t
 | _,_,i+1,.cons q t=>.cons q (t.set r i)
theorem DenF.length {W:Wd}{S:Hp}:∀{vs ds},DenF W S vs ds->vs.length=ds.length
 | _,_,.nil=>rfl
 | _,_,.cons _ _ q=>by rw[List.length_cons,List.length_cons,q.length]
theorem zEP {l:List Str}(nd:l.Nodup){i j:Nat}{x:Str}(h:l[i]? = some x)(k:l[j]? = some x):i=j:=zDh nd h k
theorem DenF.lookup {W:Wd}{S:Hp}(nd:W.att.Nodup){f:Nat}{n:Str}(hn:W.att[f]? = some n):∀{vs ds},DenF W S vs ds->(∀d,ds.lookup f=some d->∃v,vs.lookup n=some v/\Den W S v d)/\(ds.lookup f=none->vs.lookup n=none)
 | _,_,.nil=>⟨(fun _ e=>nomatch e),fun _=>rfl⟩
 | _,_,.cons (n:=m) (f:=g) hg h q=>by
  obtain⟨i1,i2⟩:=q.lookup nd hn;by_cases e:g=f
  ·subst e;have:m=n:=by rw[hn] at hg; exact (zn3 hg).symm
   subst this;simp only[List.lookup_cons,beq_self_eq_true];exact⟨fun d z=>⟨_,rfl,by cases zn3 z; exact h⟩,fun z=>nomatch z⟩
  ·have nm:n≠m:=fun z=>e (zEP nd hg (by rw[<-z]; exact hn));have b1:(f == g)=false:=by simpa using fun z=>e (Eq.symm z)
   have b2:(n == m)=false:=by simpa using nm
   simp only[List.lookup_cons,b1,b2];exact⟨i1,i2⟩
theorem DenF.put {W:Wd}{S:Hp}(nd:W.att.Nodup){f:Nat}{n:Str}{v:V}{d:D}(hn:W.att[f]? = some n)(r:Den W S v d):∀{vs ds},DenF W S vs ds->DenF W S (putF n v vs) (Ip.putF f d ds)
 | _,_,.nil=>.cons hn r .nil
 | _,_,.cons (n:=m) (f:=g) hg h q=>by
  unfold putF Ip.putF;by_cases e:g=f
  ·subst e;have:m=n:=by rw[hn] at hg; exact (zn3 hg).symm
   subst this;rw[if_pos rfl,if_pos rfl];exact .cons hg r q
  ·have nm:m≠n:=fun z=>e (zEP nd hg (by rw[z]; exact hn));rw[if_neg e,if_neg nm];exact .cons hg h (q.put nd hn r)
inductive OwnL (P:V->D->List Addr->Prop):List V->List D->List Addr->Prop
 | nil:OwnL P [] [] []
 | cons {v:V} {d:D} {f:List Addr} {vs:List V} {ds:List D} {g:List Addr} (h:P v d f) (q:OwnL P vs ds g):OwnL P (v::vs) (d::ds) (f++g)
inductive OwnF (att:List Str) (P:V->D->List Addr->Prop):List (Str×V)->List (Nat×D)->List Addr->Prop
 | nil:OwnF att P [] [] []
 | cons {n:Str} {i:Nat} {v:V} {d:D} {f:List Addr} {vs:List (Str×V)} {ds:List (Nat×D)} {g:List Addr} (hf:att[i]? = some n) (h:P v d f) (q:OwnF att P vs ds g):OwnF att P ((n,v)::vs) ((i,d)::ds) (f++g)
theorem OwnL.imp {P Q:V->D->List Addr->Prop}:∀{vs ds fp},OwnL P vs ds fp->(∀v d f,(∀a∈f,a∈fp)->P v d f->Q v d f)->OwnL Q vs ds fp
 | _,_,_,.nil,_=>.nil
 | _,_,_,.cons h q,k=>.cons (k _ _ _ (fun _ z=>zm4 _ z) h) (q.imp fun v d f z=>k v d f fun a y=>zm3 _ (z a y))
theorem OwnF.imp {att:List Str}{P Q:V->D->List Addr->Prop}:∀{vs ds fp},OwnF att P vs ds fp->(∀v d f,(∀a∈f,a∈fp)->P v d f->Q v d f)->OwnF att Q vs ds fp
 | _,_,_,.nil,_=>.nil
 | _,_,_,.cons hf h q,k=>.cons hf (k _ _ _ (fun _ z=>zm4 _ z) h) (q.imp fun v d f z=>k v d f fun a y=>zm3 _ (z a y))
theorem OwnL.dens {W:Wd}{T:Hp}{P:V->D->List Addr->Prop}:∀{vs ds fp},OwnL P vs ds fp->(∀v d f,(∀a∈f,a∈fp)->P v d f->Den W T v d)->Dens W T vs ds
 | _,_,_,.nil,_=>.nil
 | _,_,_,.cons h q,k=>.cons (k _ _ _ (fun _ z=>zm4 _ z) h) (q.dens fun v d f z=>k v d f fun a y=>zm3 _ (z a y))
theorem OwnF.dens {W:Wd}{T:Hp}{P:V->D->List Addr->Prop}:∀{vs ds fp},OwnF W.att P vs ds fp->(∀v d f,(∀a∈f,a∈fp)->P v d f->Den W T v d)->DenF W T vs ds
 | _,_,_,.nil,_=>.nil
 | _,_,_,.cons hf h q,k=>.cons hf (k _ _ _ (fun _ z=>zm4 _ z) h) (q.dens fun v d f z=>k v d f fun a y=>zm3 _ (z a y))
theorem OwnL.length {P:V->D->List Addr->Prop}:∀{vs ds fp},OwnL P vs ds fp->vs.length=ds.length
 | _,_,_,.nil=>rfl
 | _,_,_,.cons _ q=>by rw[List.length_cons,List.length_cons,q.length]
noncomputable def Own (W:Wd)(S H:Hp):Nat->V->D->List Addr->Prop
 | 0,v,d,fp=>fp=[]/\Den W S v d
 | k+1,v,.lst ds,fp=>∃a vs fq,v=.ref a/\H a=some (.lst vs)/\OwnL (Own W S H k) vs ds fq/\fp=a::fq
 | k+1,v,.tup ds,fp=>∃a vs,v=.ref a/\SqT W.K S a vs/\OwnL (Own W S H k) vs ds fp
 | k+1,v,.ins c ds,fp=>∃a C dx fs fq,v=.ref a/\H a=some (.ins C dx fs)/\W.iA c=some C/\OwnF W.att (Own W S H k) fs ds fq/\fp=a::fq
 | k+1,v,.exc c ds,fp=>∃a C nw fs fq,v=.ref a/\H a=some (.exc C nw fs)/\(W.xA c=some C/\nw=true)/\OwnF W.att (Own W S H k) fs ds fq/\fp=a::fq
 | _+1,v,d,fp=>fp=[]/\Den W S v d
theorem Own.mono {W:Wd}{S S' H H':Hp}(hs:Sub S S'):∀{k v d fp},(∀a∈fp,∀o,H a=some o->H' a=some o)->Own W S H k v d fp->Own W S' H' k v d fp
 | 0,_,_,_,_,h=>⟨h.1,h.2.mono hs⟩
 | k+1,_,.lst ds,_,hf,⟨a,vs,fq,e1,e2,e3,e4⟩=>⟨a,vs,fq,e1,hf a (by rw[e4]; exact zm2) _ e2,e3.imp fun _ _ _ z y=>Own.mono hs (fun b hb=>hf b (by rw[e4]; exact zm1 _ (z b hb))) y,e4⟩
 | k+1,_,.tup ds,_,hf,⟨a,vs,e1,e2,e3⟩=>⟨a,vs,e1,SqT.sub hs e2,e3.imp fun _ _ _ z y=>Own.mono hs (fun b hb=>hf b (z b hb)) y⟩
 | k+1,_,.ins c ds,_,hf,⟨a,C,dx,fs,fq,e1,e2,e5,e3,e4⟩=>⟨a,C,dx,fs,fq,e1,hf a (by rw[e4]; exact zm2) _ e2,e5,e3.imp fun _ _ _ z y=>Own.mono hs (fun b hb=>hf b (by rw[e4]; exact zm1 _ (z b hb))) y,e4⟩
 | k+1,_,.exc c ds,_,hf,⟨a,C,dx,fs,fq,e1,e2,e5,e3,e4⟩=>⟨a,C,dx,fs,fq,e1,hf a (by rw[e4]; exact zm2) _ e2,e5,e3.imp fun _ _ _ z y=>Own.mono hs (fun b hb=>hf b (by rw[e4]; exact zm1 _ (z b hb))) y,e4⟩
 | _+1,_,.non,_,_,h=>⟨h.1,h.2.mono hs⟩
 | _+1,_,.bl _,_,_,h=>⟨h.1,h.2.mono hs⟩
 | _+1,_,.int _,_,_,h=>⟨h.1,h.2.mono hs⟩
 | _+1,_,.str _,_,_,h=>⟨h.1,h.2.mono hs⟩
theorem Own.den {W:Wd}{S H T:Hp}(hs:Sub S T):∀{k v d fp},(∀a∈fp,∀o,H a=some o->T a=some o)->Own W S H k v d fp->Den W T v d
 | 0,_,_,_,_,h=>h.2.mono hs
 | k+1,_,.lst ds,_,hf,⟨a,vs,fq,e1,e2,e3,e4⟩=>by
  subst e1;exact .lst (.inl (hf a (by rw[e4]; exact zm2) _ e2)) (e3.dens fun _ _ _ z y=>Own.den hs (fun b hb=>hf b (by rw[e4]; exact zm1 _ (z b hb))) y)
 | k+1,_,.tup ds,_,hf,⟨a,vs,e1,e2,e3⟩=>by
  subst e1;exact .tup (SqT.sub hs e2) (e3.dens fun _ _ _ z y=>Own.den hs (fun b hb=>hf b (z b hb)) y)
 | k+1,_,.ins c ds,_,hf,⟨a,C,dx,fs,fq,e1,e2,e5,e3,e4⟩=>by
  subst e1;exact .ins (hf a (by rw[e4]; exact zm2) _ e2) e5 (e3.dens fun _ _ _ z y=>Own.den hs (fun b hb=>hf b (by rw[e4]; exact zm1 _ (z b hb))) y)
 | k+1,_,.exc c ds,_,hf,⟨a,C,dx,fs,fq,e1,e2,e5,e3,e4⟩=>by
  subst e1;exact .exc (hf a (by rw[e4]; exact zm2) _ e2) e5.1 (e3.dens fun _ _ _ z y=>Own.den hs (fun b hb=>hf b (by rw[e4]; exact zm1 _ (z b hb))) y)
 | _+1,_,.non,_,_,h=>h.2.mono hs
 | _+1,_,.bl _,_,_,h=>h.2.mono hs
 | _+1,_,.int _,_,_,h=>h.2.mono hs
 | _+1,_,.str _,_,_,h=>h.2.mono hs
theorem OwnL.mem {P:V->D->List Addr->Prop}{R:Addr->Prop}(hP:∀v d f,P v d f->∀a∈f,R a):∀{vs ds fp},OwnL P vs ds fp->∀a∈fp,R a
 | _,_,_,.nil,_,z=>by simp at z
 | _,_,_,.cons h q,a,z=>(zp3 z).elim (hP _ _ _ h a) (q.mem hP a)
theorem OwnF.mem {att:List Str}{P:V->D->List Addr->Prop}{R:Addr->Prop}(hP:∀v d f,P v d f->∀a∈f,R a):∀{vs ds fp},OwnF att P vs ds fp->∀a∈fp,R a
 | _,_,_,.nil,_,z=>by simp at z
 | _,_,_,.cons _ h q,a,z=>(zp3 z).elim (hP _ _ _ h a) (q.mem hP a)
theorem Own.dom {W:Wd}{S H:Hp}:∀{k v d fp},Own W S H k v d fp->∀a∈fp,H a≠none
 | 0,_,_,_,h,a,z=>by rw[h.1] at z; simp at z
 | k+1,_,.lst ds,_,⟨a,vs,fq,e1,e2,e3,e4⟩,b,z=>by
  rw[e4] at z;rcases zp1 z with q | q
  ·rw[q,e2]; simp
  ·exact e3.mem (fun _ _ _ y=>Own.dom y) b q
 | k+1,_,.tup ds,_,⟨a,vs,e1,e2,e3⟩,b,z=>e3.mem (fun _ _ _ y=>Own.dom y) b z
 | k+1,_,.ins c ds,_,⟨a,C,dx,fs,fq,e1,e2,e5,e3,e4⟩,b,z=>by
  rw[e4] at z;rcases zp1 z with q | q
  ·rw[q,e2]; simp
  ·exact e3.mem (fun _ _ _ y=>Own.dom y) b q
 | k+1,_,.exc c ds,_,⟨a,C,dx,fs,fq,e1,e2,e5,e3,e4⟩,b,z=>by
  rw[e4] at z;rcases zp1 z with q | q
  ·rw[q,e2]; simp
  ·exact e3.mem (fun _ _ _ y=>Own.dom y) b q
 | _+1,_,.non,_,h,a,z=>by rw[h.1] at z; simp at z
 | _+1,_,.bl _,_,h,a,z=>by rw[h.1] at z; simp at z
 | _+1,_,.int _,_,h,a,z=>by rw[h.1] at z; simp at z
 | _+1,_,.str _,_,h,a,z=>by rw[h.1] at z; simp at z
theorem OwnL.flat {W:Wd}{S:Hp}{P:V->D->List Addr->Prop}(hP:∀v d,d.flat=true->Den W S v d->P v d []):∀{vs ds},D.flats ds=true->Dens W S vs ds->OwnL P vs ds []
 | _,_,_,.nil=>.nil
 | _,_,hf,.cons h q=>by
  rw[D.flats,Bool.and_eq_true] at hf;exact OwnL.cons (f:=[]) (g:=[]) (hP _ _ hf.1 h) (OwnL.flat hP hf.2 q)
theorem OwnL.flat_inv {W:Wd}{S:Hp}{P:V->D->List Addr->Prop}(hP:∀v d f,d.flat=true->P v d f->f=[]/\Den W S v d):∀{vs ds fp},D.flats ds=true->OwnL P vs ds fp->fp=[]/\Dens W S vs ds
 | _,_,_,_,.nil=>⟨rfl,.nil⟩
 | _,_,_,hf,.cons h q=>by
  rw[D.flats,Bool.and_eq_true] at hf;obtain⟨e1,d1⟩:=hP _ _ _ hf.1 h;obtain⟨e2,d2⟩:=q.flat_inv hP hf.2;exact⟨by rw[e1,e2]; rfl,.cons d1 d2⟩
theorem Own.flat {W:Wd}{S H:Hp}:∀{k v d},d.flat=true->Den W S v d->Own W S H k v d []
 | 0,_,_,_,h=>⟨rfl,h⟩
 | k+1,_,.lst _,hf,_=>by simp[D.flat] at hf
 | k+1,_,.tup ds,hf,.tup e q=>⟨_,_,rfl,e,OwnL.flat (fun _ _=>Own.flat) (by rw[D.flat] at hf; exact hf) q⟩
 | k+1,_,.ins _ _,hf,_=>by simp[D.flat] at hf
 | k+1,_,.exc _ _,hf,_=>by simp[D.flat] at hf
 | _+1,_,.non,_,h=>⟨rfl,h⟩
 | _+1,_,.bl _,_,h=>⟨rfl,h⟩
 | _+1,_,.int _,_,h=>⟨rfl,h⟩
 | _+1,_,.str _,_,h=>⟨rfl,h⟩
theorem Own.flat_inv {W:Wd}{S H:Hp}:∀{k v d fp},d.flat=true->Own W S H k v d fp->fp=[]/\Den W S v d
 | 0,_,_,_,_,h=>h
 | k+1,_,.lst _,_,hf,_=>by simp[D.flat] at hf
 | k+1,_,.tup ds,_,hf,⟨a,vs,e1,e2,e3⟩=>by
  obtain⟨h1,h2⟩:=e3.flat_inv (fun _ _ _=>Own.flat_inv) (by rw[D.flat] at hf; exact hf);subst e1;exact⟨h1,.tup e2 h2⟩
 | k+1,_,.ins _ _,_,hf,_=>by simp[D.flat] at hf
 | k+1,_,.exc _ _,_,hf,_=>by simp[D.flat] at hf
 | _+1,_,.non,_,_,h=>h
 | _+1,_,.bl _,_,_,h=>h
 | _+1,_,.int _,_,_,h=>h
 | _+1,_,.str _,_,_,h=>h
theorem OwnL.re {P Q:V->D->List Addr->Prop}{b:D->Bool}(hP:∀v d f,b d=true->P v d f->Q v d f):∀{vs ds fp},ds.all b=true->OwnL P vs ds fp->OwnL Q vs ds fp
 | _,_,_,_,.nil=>.nil
 | _,_,_,hf,.cons h q=>by
  rw[List.all_cons,Bool.and_eq_true] at hf;exact .cons (hP _ _ _ hf.1 h) (q.re hP hf.2)
def NOk (N:Addr->Prop)(H:Hp):Prop:=∀a,N a->H a≠none
def RelS (W:Wd)(S:Hp)(a:Sl)(σ:St):Prop:=∀(i:Nat) (d:D),a[i]? = some (some d)->∃v,σ[i]? = some (some v)/\Den W S v d
theorem RelS.mono {W:Wd}{S S':Hp}{a:Sl}{σ:St}(h:Sub S S')(r:RelS W S a σ):RelS W S' a σ:=fun i d e=>by
 obtain⟨v,h1,h2⟩:=r i d e;exact⟨v,h1,h2.mono h⟩
def Res (W:Wd)(H:Hp)(N:Addr->Prop)(H':Hp)(x:KD)(v:V):Prop:=
 Sub H H'/\∃fp:List Addr,fp.Nodup/\(∀a∈fp,H a=none)/\Own W (hid (fun a=>N a\/a∈fp) H') H' x.1 v x.2 fp
inductive OwnV (W:Wd) (S H:Hp):List V->List KD->List Addr->Prop
 | nil:OwnV W S H [] [] []
 | cons {v:V} {x:KD} {f:List Addr} {vs:List V} {xs:List KD} {g:List Addr} (h:Own W S H x.1 v x.2 f) (q:OwnV W S H vs xs g):OwnV W S H (v::vs) (x::xs) (f++g)
theorem OwnV.mono {W:Wd}{S S' H H':Hp}(hs:Sub S S'):∀{vs xs fp},(∀a∈fp,∀o,H a=some o->H' a=some o)->OwnV W S H vs xs fp->OwnV W S' H' vs xs fp
 | _,_,_,_,.nil=>.nil
 | _,_,_,hf,.cons h q=>.cons (h.mono hs fun a z=>hf a (zm4 _ z)) (q.mono hs fun a z=>hf a (zm3 _ z))
theorem OwnV.dens {W:Wd}{S H T:Hp}(hs:Sub S T):∀{vs xs fp},(∀a∈fp,∀o,H a=some o->T a=some o)->OwnV W S H vs xs fp->Dens W T vs (xs.map (·.2))
 | _,_,_,_,.nil=>.nil
 | _,_,_,hf,.cons h q=>.cons (h.den hs fun a z=>hf a (zm4 _ z)) (q.dens hs fun a z=>hf a (zm3 _ z))
theorem OwnV.dom {W:Wd}{S H:Hp}:∀{vs xs fp},OwnV W S H vs xs fp->∀a∈fp,H a≠none
 | _,_,_,.nil,a,z=>by simp at z
 | _,_,_,.cons h q,a,z=>(zp3 z).elim (h.dom a) (q.dom a)
theorem OwnV.length {W:Wd}{S H:Hp}:∀{vs xs fp},OwnV W S H vs xs fp->vs.length=xs.length
 | _,_,_,.nil=>rfl
 | _,_,_,.cons _ q=>by rw[List.length_cons,List.length_cons,q.length]
def ResL (W:Wd)(H:Hp)(N:Addr->Prop)(H':Hp)(xs:List KD)(vs:List V):Prop:=
 Sub H H'/\∃fp:List Addr,fp.Nodup/\(∀a∈fp,H a=none)/\OwnV W (hid (fun a=>N a\/a∈fp) H') H' vs xs fp
def ExcR (W:Wd)(H:Hp)(N:Addr->Prop)(H':Hp)(c:Nat)(fs:List (Nat×D))(e:Addr):Prop:=
 Sub H H'/\H e=none/\∃C vs,H' e=some (.exc C false vs)/\W.xA c=some C/\DenF W (hid N H') vs fs
theorem Res.den {W:Wd}{H H':Hp}{N:Addr->Prop}{x:KD}{v:V}(hN:NOk N H)(r:Res W H N H' x v):Den W (hid N H') v x.2:=by
 obtain⟨hs,fp,_,hf,o⟩:=r;refine o.den (fun a u e=>?_) fun a ha u e=>zAa.mpr ⟨fun z=>hN a z (hf a ha),e⟩;obtain⟨h1,h2⟩:=zAa.mp e;exact zAa.mpr ⟨fun z=>h1 (.inl z),h2⟩
theorem ResL.dens {W:Wd}{H H':Hp}{N:Addr->Prop}{xs:List KD}{vs:List V}(hN:NOk N H)(r:ResL W H N H' xs vs):Dens W (hid N H') vs (xs.map (·.2)):=by
 obtain⟨hs,fp,_,hf,o⟩:=r;refine o.dens (fun a u e=>?_) fun a ha u e=>zAa.mpr ⟨fun z=>hN a z (hf a ha),e⟩;obtain⟨h1,h2⟩:=zAa.mp e;exact zAa.mpr ⟨fun z=>h1 (.inl z),h2⟩
theorem Res.of_den {W:Wd}{H H':Hp}{N:Addr->Prop}{v:V}{d:D}(hs:Sub H H')(h:Den W (hid N H') v d):Res W H N H' (0,d) v:=
 ⟨hs,[],.nil,fun a z=>by simp at z,rfl,h.mono fun a o e=>zAa.mpr ⟨fun z=>(zAa.mp e).1 (by simpa using z),(zAa.mp e).2⟩⟩
theorem Res.of_flat {W:Wd}{H H':Hp}{N:Addr->Prop}{v:V}{k:Nat}{d:D}(hs:Sub H H')(hf:d.flat=true)(h:Den W (hid N H') v d):Res W H N H' (k,d) v:=
 ⟨hs,[],.nil,fun a z=>by simp at z,Own.flat hf (h.mono fun a o e=>zAa.mpr ⟨fun z=>(zAa.mp e).1 (by simpa using z),(zAa.mp e).2⟩)⟩
theorem NOk.mono {N:Addr->Prop}{H H':Hp}(h:NOk N H)(hs:Sub H H'):NOk N H':=fun a z q=>h a z (hs.none q)
section
variable (W:Wd)(G:Pg)(cl:Nat->List KD->Ip.Run)
def evT (ir:Ex)(E:St->XK):TE:=fun σ H Q=>∃(N:Addr->Prop) (a:Sl),NOk N H/\RelS W (hid N H) a σ/\match Ip.eval G cl a ir with
 | .ok x=>∀v H',Res W H N H' x v->Q v H'
 | .exc c fs=>∀e H',ExcR W H N H' c fs e->E σ (.ref e) none H'
 | .bad=>False
def evsT (irs:List Ex)(E:St->XK):TA:=fun σ H Q=>∃(N:Addr->Prop) (a:Sl),NOk N H/\RelS W (hid N H) a σ/\match Ip.evals G cl a irs with
 | .ok xs=>∀vs H',ResL W H N H' xs vs->Q vs H'
 | .exc c fs=>∀e H',ExcR W H N H' c fs e->E σ (.ref e) none H'
 | .bad=>False
end
theorem PE.mono {X:Cx}{e:Expr}{t t':TE}(h:PE X e t)(k:∀σ H Q,t' σ H Q->t σ H Q):PE X e t':=fun pins s σ H Q I q=>h pins s σ H Q I (k σ H Q q)
theorem PA.mono {X:Cx}{e:List Expr}{t t':TA}(h:PA X e t)(k:∀σ H Q,t' σ H Q->t σ H Q):PA X e t':=fun pos pins s σ H Q I q=>h pos pins s σ H Q I (k σ H Q q)
theorem PT.mono {X:Cx}{e:Expr}{t t':TT}(h:PT X e t)(k:∀σ H Q,t' σ H Q->t σ H Q):PT X e t':=fun pins s σ H Q I q=>h pins s σ H Q I (k σ H Q q)
theorem PS.mono {X:Cx}{e:Stmt}{t t':TS}(h:PS X e t)(k:∀D σ H,t' D σ H->t D σ H):PS X e t':=fun pins s σ H D I q=>h pins s σ H D I (k D σ H q)
theorem PSs.mono {X:Cx}{e:List Stmt}{t t':TS}(h:PSs X e t)(k:∀D σ H,t' D σ H->t D σ H):PSs X e t':=fun pins s σ H D I q=>h pins s σ H D I (k D σ H q)
theorem zAg {X:Cx}{e:Expr}{W:Wd}{G:Pg}{cl:Nat->List KD->Ip.Run}{E:St->XK}:PE X e (evT W G cl .bad E):=fun _ _ _ _ _ _ ⟨_,_,_,_,h⟩=>by
 rw[Ip.eval] at h; exact h.elim
section
variable {W:Wd}{G:Pg}{cl:Nat->List KD->Ip.Run}{E:St->XK}{σ:St}{H:Hp}
theorem ExcR.trans {H1 H':Hp}{N N':Addr->Prop}{c:Nat}{fs:List (Nat×D)}{e:Addr}(hs:Sub H H1)(hn:∀a,N a->N' a)(r:ExcR W H1 N' H' c fs e):ExcR W H N H' c fs e:=by
 obtain⟨s1,e1,C,vs,h1,h2,h3⟩:=r;exact⟨hs.trans s1,hs.none e1,C,vs,h1,h2,h3.mono fun a o z=>zAa.mpr ⟨fun q=>(zAa.mp z).1 (hn a q),(zAa.mp z).2⟩⟩
theorem zAO {ir:Ex}{Q:VK}{N:Addr->Prop}{a:Sl}(hN:NOk N H)(hS:RelS W (hid N H) a σ)
  (ok:∀x,Ip.eval G cl a ir=.ok x->∀v H1 fp,Sub H H1->fp.Nodup->(∀b∈fp,H b=none)->Own W (hid (fun b=>N b\/b∈fp) H1) H1 x.1 v x.2 fp ->
   NOk (fun b=>N b\/b∈fp) H1->RelS W (hid (fun b=>N b\/b∈fp) H1) a σ->Q v H1)
  (ex:∀c fs,Ip.eval G cl a ir=.exc c fs->∀e H',ExcR W H N H' c fs e->E σ (.ref e) none H')(nb:Ip.eval G cl a ir≠.bad):evT W G cl ir E σ H Q:=by
 refine⟨N,a,hN,hS,?_⟩;cases q:Ip.eval G cl a ir with
 | bad=>exact absurd q nb
 | exc c fs=>exact ex c fs q
 | ok x=>
  rintro v H1 ⟨hs,fp,nd,hf,o⟩;refine ok x q v H1 fp hs nd hf o (fun b z=>?_) (hS.mono (zAz hs fun b z=>z.imp id fun y=>hf b y));exact z.elim (fun y=>(hN.mono hs) b y) (o.dom b)
end
end L2
end
section
namespace L2
open PySem PySem.Spec PyProof.Rows
open Ip (D KD Ex Op Pg Fn Sl Fr Wk Tg Tb R eqD zAl zAb inI num2 on2 opD)
def rD (W:Wd)(G:Pg)(o:Op)(vs:List V)(H:Hp)(Q:VK):Prop:=∃(N:Addr->Prop) (xs:List KD) (x:KD),NOk N H/\Dens W (hid N H) vs (xs.map (·.2))/\opD G o xs=some x/\∀v H',Res W H N H' x v->Q v H'
theorem Res.trans {W:Wd}{H H2 H':Hp}{N:Addr->Prop}{x:KD}{v:V}(hs:Sub H H2)(r:Res W H2 N H' x v):Res W H N H' x v:=by
 obtain⟨h1,fp,nd,hf,o⟩:=r;exact⟨hs.trans h1,fp,nd,fun a z=>hs.none (hf a z),o⟩
theorem Own.later {W:Wd}{H H1 H2:Hp}{N M:Addr->Prop}{k:Nat}{v:V}{d:D}{fp:List Addr}(hN:NOk N H)(hs:Sub H1 H2)(hf:∀b∈fp,H b=none)(hM:∀b,N b->M b)(o:Own W (hid (fun b=>M b\/b∈fp) H1) H1 k v d fp):Den W (hid N H2) v d:=by
 refine o.den (fun a u e=>?_) fun a ha u e=>zAa.mpr ⟨fun z=>hN a z (hf a ha),hs a u e⟩;obtain⟨h1,h2⟩:=zAa.mp e;exact zAa.mpr ⟨fun z=>h1 (.inl (hM a z)),hs a u h2⟩
section
variable {W:Wd}{G:Pg}{cl:Nat->List KD->Ip.Run}{E:St->XK}{σ:St}{H:Hp}{Q:VK}{o:Op}
theorem op1 {ia:Ex}{r:V->Hp->VK->Prop}(hr:∀x H Q,rD W G o [x] H Q->r x H Q)(h:evT W G cl (.op o [ia]) E σ H Q):tUn r (evT W G cl ia E) σ H Q:=by
 obtain⟨N,a,hN,hS,h⟩:=h;unfold tUn;refine zAO hN hS (fun x ex v H1 fp hs nd hf ow hN1 hS1=>?_) (fun c fs ee=>?_) fun ee=>?_
 ·simp only[zAl,Ip.zAe,zAb,ex,R.bind] at h;cases q:opD G o [x] with
  | none=>simp only[q,R.of] at h
  | some z=>
   simp only[q,R.of] at h;exact hr _ _ _ ⟨N,[x],z,hN.mono hs,.cons (ow.later hN (Sub.refl _) hf fun _ y=>y) .nil,q,fun w H' r=>h w H' (r.trans hs)⟩
 ·simp only[zAl,zAb,ee,R.bind] at h;exact h
 ·simp only[zAl,zAb,ee,R.bind] at h
theorem op2 {ia ib:Ex}{r:R2}(hr:∀x y H Q,rD W G o [x,y] H Q->r x y H Q)(h:evT W G cl (.op o [ia,ib]) E σ H Q):tOp r (evT W G cl ia E) (evT W G cl ib E) σ H Q:=by
 obtain⟨N,a,hN,hS,h⟩:=h;unfold tOp;refine zAO hN hS (fun x ex v H1 fp hs nd hf ow hN1 hS1=>?_) (fun c fs ee=>?_) fun ee=>?_
 ·refine zAO hN1 hS1 (fun y ey w H2 fq hs2 nd2 hf2 ow2 hN2 hS2=>?_) (fun c fs ee e H' r=>?_) fun ee=>?_
  ·simp only[zAl,Ip.zAe,zAb,ex,ey,R.bind] at h;cases q:opD G o [x,y] with
   | none=>simp only[q,R.of] at h
   | some z=>
    simp only[q,R.of] at h;exact hr _ _ _ _ ⟨N,[x,y],z,hN.mono (hs.trans hs2),.cons (ow.later hN hs2 hf fun _ y=>y) (.cons (ow2.later (hN.mono hs) (Sub.refl _) hf2 fun _ y=>.inl y) .nil),q,fun w H' r=>h w H' (r.trans (hs.trans hs2))⟩
  ·simp only[zAl,zAb,ex,ee,R.bind] at h;exact h e H' (r.trans hs fun _ y=>.inl y)
  ·simp only[zAl,zAb,ex,ee,R.bind] at h
 ·simp only[zAl,zAb,ee,R.bind] at h;exact h
 ·simp only[zAl,zAb,ee,R.bind] at h
end
theorem Dens.one {W:Wd}{S:Hp}{vs:List V}{d:D}(h:Dens W S vs [d]):∃v,vs=[v]/\Den W S v d:=by
 cases h with
 | cons h r=>cases r; exact⟨_,rfl,h⟩
theorem Dens.two {W:Wd}{S:Hp}{vs:List V}{d e:D}(h:Dens W S vs [d,e]):∃v w,vs=[v,w]/\Den W S v d/\Den W S w e:=by
 cases h with
 | cons h r=>
  obtain⟨w,e,h2⟩:=r.one;subst e;exact⟨_,_,rfl,h,h2⟩
theorem dens1 {W:Wd}{S:Hp}{x:V}{xs:List KD}(h:Dens W S [x] (xs.map (·.2))):∃p,xs=[p]/\Den W S x p.2:=by
 cases xs with
 | nil=>cases h
 | cons p r=>
  cases h with
  | cons h1 h2=>
   cases r with
   | nil=>exact⟨p,rfl,h1⟩
   | cons _ _=>cases h2
theorem dens2 {W:Wd}{S:Hp}{x y:V}{xs:List KD}(h:Dens W S [x,y] (xs.map (·.2))):∃p q,xs=[p,q]/\Den W S x p.2/\Den W S y q.2:=by
 cases xs with
 | nil=>cases h
 | cons p r=>
  cases h with
  | cons h1 h2=>
   obtain⟨q,rfl,h3⟩:=dens1 h2;exact⟨p,q,rfl,h1,h3⟩
theorem Den.int_inv {W:Wd}{S:Hp}{v:V}{i:Int}(h:Den W S v (.int i)):v=.int i:=by cases h; rfl
theorem Den.bl_inv {W:Wd}{S:Hp}{v:V}{i:Bool}(h:Den W S v (.bl i)):v=.bl i:=by cases h; rfl
theorem Res.int {W:Wd}{H:Hp}{N:Addr->Prop}{k:Nat}{i:Int}:Res W H N H (k,.int i) (.int i):=Res.of_flat (Sub.refl _) rfl .int
theorem Res.bl {W:Wd}{H:Hp}{N:Addr->Prop}{k:Nat}{i:Bool}:Res W H N H (k,.bl i) (.bl i):=Res.of_flat (Sub.refl _) rfl .bl
section
variable {X:Cx}{W:Wd}{G:Pg}
theorem OpR.imp {f:Value->Value->Sem Value}{r r':R2}(h:OpR X f r)(k:∀x y H Q,r' x y H Q->r x y H Q):OpR X f r':=fun pins s σ H x y v u Q I rx ry q=>h pins s σ H x y v u Q I rx ry (k x y H Q q)
theorem zB7 {o:Op}{f:Int->Int->Option KD}{C:Int->Int->Prop}{g:Int->Int->V}(ho:∀xs,opD G o xs=on2 (num2 f) xs)(hf:∀i j x,f i j=some x->C i j/\∀(N:Addr->Prop) (H:Hp),Res W H N H x (g i j)) :
  ∀x y H Q,rD W G o [x,y] H Q->rI C g x y H Q:=by
 rintro x y H Q ⟨N,xs,z,hN,hd,hz,hq⟩;obtain⟨p,q,rfl,d1,d2⟩:=dens2 hd;rw[ho] at hz;obtain⟨k1,p⟩:=p;obtain⟨k2,q⟩:=q;simp only[on2] at hz;cases p <;> cases q <;> simp only[num2] at hz <;> try (cases hz; done)
 cases d1;cases d2;obtain⟨hc,hr⟩:=hf _ _ _ hz;exact⟨_,_,rfl,rfl,hc,hq _ _ (hr N H)⟩
theorem zOn:OpR X (binaryOp .Sub) (fun x y=>rD W G .sub [x,y]):=zMA.imp fun x y H Q h=>by
 obtain⟨i,j,e1,e2,_,q⟩:=zB7 (C:=fun _ _=>True) (g:=fun i j=>.int (i - j)) (fun _=>rfl) (fun i j x e=>by cases e; exact⟨trivial,fun _ _=>Res.int⟩) x y H Q h;exact⟨i,j,e1,e2,q⟩
theorem zIf:OpR X (binaryOp .FloorDiv) (rI (fun _ j=>0<j/\j<1000000000000000000000000000000000000000000000000) fun i j=>.int (i / j)):=opI fun i j _ _ _ _ _ hc q=>by
 have h1:(0:Int)<j:=hc.1;have h2:j<1000000000000000000000000000000000000000000000000:=hc.2;exact floordiv_int (by omega) (by rw[Int.fdiv_eq_ediv_of_nonneg i (by omega)]; exact q) (.inl (PyProof.noPylong_of_log2 (zn1 ((Nat.log2_lt (by omega)).mpr (by omega:j.natAbs<2 ^ 160)) (by decide))))
theorem zNe:OpR X (binaryOp .FloorDiv) (fun x y=>rD W G .fdiv [x,y]):=zIf.imp (zB7 (fun _=>rfl) fun i j x e=>by
 by_cases h:0<j/\j<1000000000000000000000000000000000000000000000000
 ·rw[if_pos h] at e; cases e; exact⟨h,fun _ _=>Res.int⟩
 ·rw[if_neg h] at e; cases e)
theorem zOv:OpR X (binaryOp .Mod) (fun x y=>rD W G .mod [x,y]):=zMD.imp (zB7 (fun _=>rfl) fun i j x e=>by
 by_cases h:0<j
 ·rw[if_pos h] at e; cases e; exact⟨h,fun _ _=>Res.int⟩
 ·rw[if_neg h] at e; cases e)
theorem zK9 {i:Int}(h:inI i=true):i.natAbs<2 ^ 64:=by
 rw[Ip.zAC] at h;omega
theorem zOq:OpR X (binaryOp .Pow) (fun x y=>rD W G .pow [x,y]):=zMB.imp (zB7 (fun _=>rfl) fun i j x e=>by
 by_cases h:0<=j/\j<=1000000/\inI i=true
 ·rw[if_pos h] at e; cases e; exact⟨⟨h.1,h.2.1,zK9 h.2.2⟩,fun _ _=>Res.int⟩
 ·rw[if_neg h] at e; cases e)
theorem d_le:OpR X (compareOp .LtE) (fun x y=>rD W G .le [x,y]):=zN5.imp fun x y H Q h=>by
 obtain⟨i,j,e1,e2,_,q⟩:=zB7 (C:=fun _ _=>True) (g:=fun i j=>.bl (decide (i<=j))) (fun _=>rfl) (fun i j x e=>by cases e; exact⟨trivial,fun _ _=>Res.bl⟩) x y H Q h;exact⟨i,j,e1,e2,q⟩
theorem d_gt:OpR X (compareOp .Gt) (fun x y=>rD W G .gt [x,y]):=zN6.imp fun x y H Q h=>by
 obtain⟨i,j,e1,e2,_,q⟩:=zB7 (C:=fun _ _=>True) (g:=fun i j=>.bl (decide (j<i))) (fun _=>rfl) (fun i j x e=>by cases e; exact⟨trivial,fun _ _=>Res.bl⟩) x y H Q h;exact⟨i,j,e1,e2,q⟩
theorem d_ge:OpR X (compareOp .GtE) (fun x y=>rD W G .ge [x,y]):=zN7.imp fun x y H Q h=>by
 obtain⟨i,j,e1,e2,_,q⟩:=zB7 (C:=fun _ _=>True) (g:=fun i j=>.bl (decide (j<=i))) (fun _=>rfl) (fun i j x e=>by cases e; exact⟨trivial,fun _ _=>Res.bl⟩) x y H Q h;exact⟨i,j,e1,e2,q⟩
theorem d_lt:OpR X (compareOp .Lt) (fun x y=>rD W G .lt [x,y]):=zN4.imp fun x y H Q h=>by
 obtain⟨i,j,e1,e2,_,q⟩:=zB7 (C:=fun _ _=>True) (g:=fun i j=>.bl (decide (i<j))) (fun _=>rfl) (fun i j x e=>by cases e; exact⟨trivial,fun _ _=>Res.bl⟩) x y H Q h;exact⟨i,j,e1,e2,q⟩
theorem OwnL.zero {S T:Hp}:∀{vs ds},Dens W S vs ds->OwnL (Own W S T 0) vs ds []
 | _,_,.nil=>.nil
 | _,_,.cons h q=>OwnL.cons (f:=[]) (g:=[]) ⟨rfl,h⟩ (OwnL.zero q)
theorem zLa {H:Hp}{N:Addr->Prop}{p:Addr}{o:HO}(hp:H p=none):Sub (hid N H) (hid (fun a=>N a\/a∈[p]) (upd H p o)):=
 zAz (Sub.upd hp) fun a z=>z.imp id fun y=>by rw[List.mem_singleton.mp y]; exact hp
theorem Res.newL {H:Hp}{N:Addr->Prop}{p:Addr}{vs:List V}{ds:List D}(hp:H p=none)(h:Dens W (hid N H) vs ds):Res W H N (upd H p (.lst vs)) (1,.lst ds) (.ref p):=
 ⟨Sub.upd hp,[p],by simp,fun a z=>by rw[List.mem_singleton.mp z]; exact hp,p,vs,[],rfl,zAi,OwnL.zero (h.mono (zLa hp)),rfl⟩
theorem Res.newT {H:Hp}{N:Addr->Prop}{p:Addr}{vs:List V}{ds:List D}(hN:NOk N H)(hp:H p=none)(h:Dens W (hid N H) vs ds):Res W H N (upd H p (.tup vs)) (0,.tup ds) (.ref p):=
 Res.of_den (Sub.upd hp) (.tup (SqT.of (zAa.mpr ⟨fun z=>hN p z hp,zAi⟩)) (h.mono (zAz (Sub.upd hp) fun a z=>.inl z)))
theorem Inv.rdL {pins:List (Addr×Obj)}{σ:St}{H:Hp}{s:Shared}{l:Addr}{xs:List V}(I:Inv X pins σ H s)(h:Rd H l (.lst xs)):xs.length<=sizeLine/\∃(its:List Value) (n:Nat),Vals xs its/\xs.length=its.length/\s.heap.get? l=some { cls:=.type "list",data:=.seq its.toArray n }:=by
 obtain⟨z,its,n,r,e⟩:=h.ok I.hok;exact⟨z,its,n,r,r.length,e⟩
theorem SLle {n:Nat}(h:n<=Ip.SL):n<=sizeLine:=zm9 h (by decide)
theorem Dens.rep {S:Hp}{vs:List V}{ds:List D}(h:Dens W S vs ds):∀k,Dens W S (List.replicate k vs).flatten (List.replicate k ds).flatten
 | 0=>.nil
 | k+1=>by
  rw[List.replicate_succ,List.replicate_succ,List.flatten_cons,List.flatten_cons];exact h.append (h.rep k)
theorem zOu (hK:W.K=X.K):OpR X (binaryOp .Mult) (fun x y=>rD W G .mul [x,y]):=by
 refine (zMC.or zKE).imp fun x y H Q hZz=>?_;obtain⟨N,xs,z,hN,hd,hz,hq⟩:=hZz;obtain⟨⟨k1,p⟩,⟨k2,q⟩,rfl,d1,d2⟩:=dens2 hd;simp only[Ip.zKL,on2] at hz;cases p <;> cases q <;> simp only[Ip.mulD] at hz <;> try (cases hz; done)
 ·rename_i i j;cases d1;cases d2;by_cases h:(inI i||inI j)=true
  ·rw[if_pos h] at hz;cases hz;refine .inl ⟨i,j,rfl,rfl,?_,hq _ _ Res.int⟩;simp only[Bool.or_eq_true,Ip.zAC] at h;unfold CMul;omega
  ·rw[if_neg h] at hz; cases hz
 ·rename_i xs j;cases d2;split at hz
  ·rename_i hl;cases hz;cases d1 with | @tup a vs _ e1 q1=>?_
   have ln:=q1.length;refine .inr ⟨a,j,vs,rfl,rfl,by rw[<-hK]; exact SqT.sub zAc e1,?_,hl.2.1,hl.2.2.1,?_,fun e=>hq _ _ (Res.of_den (Sub.refl _) ?_),fun _ p hp=>hq _ _ (Res.newT hN hp (q1.rep _))⟩
   ·intro e;subst e;have:xs=[]:=List.length_eq_zero_iff.mp ln.symm;subst this;exact absurd hl.1 (by decide)
   ·rw[ln]; exact zm9 hl.2.2.2 (by decide)
   ·subst e;have e2:(List.replicate (1:Int).toNat xs).flatten=xs:=by simp
    rw[e2];exact .tup e1 q1
  ·cases hz
theorem zOB (hK:W.K=X.K):OpR X (binaryOp .Add) (fun x y=>rD W G .add [x,y]):=by
 refine (zME.or (zIg.or zKF)).imp fun x y H Q hZz=>?_;obtain⟨N,xs,z,hN,hd,hz,hq⟩:=hZz;obtain⟨⟨k1,p⟩,⟨k2,q⟩,rfl,d1,d2⟩:=dens2 hd;simp only[Ip.zKS,on2] at hz;cases p <;> cases q <;> simp only[Ip.addD] at hz <;> try (cases hz; done)
 ·cases d1;cases d2;cases hz;exact .inl ⟨_,_,rfl,rfl,hq _ _ Res.int⟩
 ·rename_i xs ys;split at hz
  ·rename_i hl;cases hz;cases d1 with | @tup a vs _ e1 q1=>?_
   cases d2 with | @tup b ws _ e2 q2=>?_
   have s1:SqT X.K H a vs:=by rw[<-hK]; exact SqT.sub zAc e1
   have s2:SqT X.K H b ws:=by rw[<-hK]; exact SqT.sub zAc e2
   by_cases c1:vs=[]
   ·subst c1;cases q1;exact .inr (.inl ⟨a,b,ws,rfl,rfl,s1,s2,hq _ _ (Res.of_den (Sub.refl _) (.tup e2 q2))⟩)
   ·refine .inr (.inr ⟨a,b,vs,ws,rfl,rfl,s1,s2,c1,?_,fun c2=>?_,fun _ p hp=>hq _ _ (Res.newT hN hp (q1.append q2))⟩)
    ·rw[q1.length,q2.length];exact SLle hl
    ·subst c2;cases q2;rw[List.append_nil] at hq;exact hq _ _ (Res.of_den (Sub.refl _) (.tup e1 q1))
  ·cases hz
end
mutual
noncomputable def pyD:D->PyData
 | .non=>.none
 | .bl b=>.bool b
 | .int i=>.int i
 | .str s=>.str s
 | .lst xs=>.list (pyDs xs)
 | .tup xs=>.tuple (pyDs xs)
 | .ins _ _=>.none
 | .exc _ _=>.none
noncomputable def pyDs:List D->List PyData
 | []=>[]
 | d::ds=>pyD d::pyDs ds
end
mutual
theorem zIN:∀x y:D,∀n m,x.pur n=true->y.pur m=true->PyData.eqv (pyD x) (pyD y)=x.eq y
 | .lst xs,y,n,m,hx,hy=>by
  cases n with
  | zero=>cases hx
  | succ n=>
   cases y with
   | lst ys=>
    cases m with
    | zero=>cases hy
    | succ m=>rw[pyD,pyD,D.eq,PyData.eqv]; exact zHn xs ys n m hx hy
   | ins _ _=>cases m <;> cases hy
   | exc _ _=>cases m <;> cases hy
   | _=>simp[pyD,D.eq,PyData.eqv]
 | .tup xs,y,n,m,hx,hy=>by
  cases n with
  | zero=>cases hx
  | succ n=>
   cases y with
   | tup ys=>
    cases m with
    | zero=>cases hy
    | succ m=>rw[pyD,pyD,D.eq,PyData.eqv]; exact zHn xs ys n m hx hy
   | ins _ _=>cases m <;> cases hy
   | exc _ _=>cases m <;> cases hy
   | _=>simp[pyD,D.eq,PyData.eqv]
 | .ins _ _,_,n,_,hx,_=>by cases n <;> cases hx
 | .exc _ _,_,n,_,hx,_=>by cases n <;> cases hx
 | .non,y,_,m,_,hy=>by
  cases y with
  | ins _ _=>cases m <;> cases hy
  | exc _ _=>cases m <;> cases hy
  | _=>simp[pyD,D.eq,PyData.eqv]
 | .bl b,y,_,m,_,hy=>by
  cases y with
  | bl c=>cases b <;> cases c <;> rfl
  | int i=>rw[pyD,pyD,D.eq,PyData.eqv]; rfl
  | ins _ _=>cases m <;> cases hy
  | exc _ _=>cases m <;> cases hy
  | _=>simp[pyD,D.eq,PyData.eqv]
 | .int i,y,_,m,_,hy=>by
  cases y with
  | bl c=>rw[pyD,pyD,D.eq,PyData.eqv]; rfl
  | int i=>rw[pyD,pyD,D.eq,PyData.eqv]; rfl
  | ins _ _=>cases m <;> cases hy
  | exc _ _=>cases m <;> cases hy
  | _=>simp[pyD,D.eq,PyData.eqv]
 | .str i,y,_,m,_,hy=>by
  cases y with
  | str j=>rw[pyD,pyD,D.eq,PyData.eqv]; by_cases h:i=j <;> simp[h]
  | ins _ _=>cases m <;> cases hy
  | exc _ _=>cases m <;> cases hy
  | _=>simp[pyD,D.eq,PyData.eqv]
theorem zHn:∀xs ys:List D,∀n m,xs.all (D.pur n)=true->ys.all (D.pur m)=true->PyData.eqvAll (pyDs xs) (pyDs ys)=D.eqs xs ys
 | [],[],_,_,_,_=>by simp[pyDs,D.eqs,PyData.eqvAll]
 | [],_::_,_,_,_,_=>by simp[pyDs,D.eqs,PyData.eqvAll]
 | _::_,[],_,_,_,_=>by simp[pyDs,D.eqs,PyData.eqvAll]
 | x::xs,y::ys,n,m,hx,hy=>by
  rw[List.all_cons,Bool.and_eq_true] at hx hy;rw[pyDs,pyDs,D.eqs,PyData.eqvAll,zIN x y n m hx.1 hy.1,zHn xs ys n m hx.2 hy.2]
end
mutual
theorem zEE:∀x:D,∀n,x.pur n=true->(pyD x).canLay0=true/\(pyD x).depth<=n
 | .lst xs,n,hx=>by
  cases n with
  | zero=>cases hx
  | succ n=>
   obtain⟨h1,h2⟩:=zCz xs n hx;rw[pyD,PyData.canLay0,PyData.depth];exact⟨h1,by omega⟩
 | .tup xs,n,hx=>by
  cases n with
  | zero=>cases hx
  | succ n=>
   obtain⟨h1,h2⟩:=zCz xs n hx;rw[pyD,PyData.canLay0,PyData.depth];exact⟨h1,by omega⟩
 | .ins _ _,n,hx=>by cases n <;> cases hx
 | .exc _ _,n,hx=>by cases n <;> cases hx
 | .non,_,_=>by simp[pyD,PyData.canLay0,PyData.depth]
 | .bl _,_,_=>by simp[pyD,PyData.canLay0,PyData.depth]
 | .int _,_,_=>by simp[pyD,PyData.canLay0,PyData.depth]
 | .str s,n,hx=>by
  rw[Ip.zKm] at hx;rw[pyD,PyData.canLay0,PyData.depth];exact⟨hx,Nat.zero_le _⟩
theorem zCz:∀xs:List D,∀n,xs.all (D.pur n)=true->PyData.canLayAll0 (pyDs xs)=true/\PyData.depthAll (pyDs xs)<=n
 | [],_,_=>by simp[pyDs,PyData.canLayAll0,PyData.depthAll]
 | x::xs,n,hx=>by
  rw[List.all_cons,Bool.and_eq_true] at hx;obtain⟨h1,h2⟩:=zEE x n hx.1;obtain⟨h3,h4⟩:=zCz xs n hx.2;rw[pyDs,PyData.canLayAll0,PyData.depthAll,h1,h3];exact⟨rfl,Nat.max_le.mpr ⟨h2,h4⟩⟩
end
theorem zCc {x:D}(h:x.pur 60=true):SeqAt.shaped (pyD x)=true:=by
 obtain⟨h1,h2⟩:=zEE x 60 h;unfold SeqAt.shaped;rw[h1,Bool.true_and];exact decide_eq_true (by omega)
section
variable {X:Cx}{W:Wd}{G:Pg}{pins:List (Addr×Obj)}{σ:St}{H:Hp}{s:Shared}
mutual
theorem Den.reads (hK:W.K=X.K)(I:Inv X pins σ H s):∀{v:V} {d:D} {u:Value} (n:Nat),Den W H v d->d.pur n=true->RelV v u->∃as,Reads s.heap u (pyD d) as
 | _,_,_,_,.non,_,r=>by cases r; exact⟨_,by rw[pyD]; exact .none⟩
 | _,_,_,_,.bl,_,r=>by cases r; exact⟨_,by rw[pyD]; exact .bool _⟩
 | _,_,_,_,.int,_,r=>by obtain⟨t,rfl⟩:=r; exact⟨_,by rw[pyD]; exact .int _ t⟩
 | _,_,_,_,.str,_,r=>by obtain⟨t,rfl⟩:=r; exact⟨_,by rw[pyD]; exact .str _ t⟩
 | _,_,_,n,.lst e q,hp,r=>by
  cases r;cases n with
  | zero=>cases hp
  | succ n=>
   obtain⟨_,its,k,rv,_,eo⟩:=I.rdL e;obtain⟨as,ra⟩:=q.reads hK I n hp rv;exact⟨_,by rw[pyD]; exact reads_list_at eo rfl rfl (by simpa using ra)⟩
 | _,_,_,n,.tup e q,hp,r=>by
  cases r;cases n with
  | zero=>cases hp
  | succ n=>
   obtain⟨its,rv,⟨o,eo,hc,k,hd⟩,_⟩:=I.tuple (hK ▸ e);obtain⟨as,ra⟩:=q.reads hK I n hp rv;exact⟨_,by rw[pyD]; exact reads_tuple_at eo hc hd (by simpa using ra)⟩
 | _,_,_,n,.ins _ _ _,hp,_=>by cases n <;> cases hp
 | _,_,_,n,.exc _ _ _,hp,_=>by cases n <;> cases hp
theorem Dens.reads (hK:W.K=X.K)(I:Inv X pins σ H s):∀{vs:List V} {ds:List D} {us:List Value} (n:Nat),Dens W H vs ds->ds.all (D.pur n)=true->Vals vs us->∃as,ReadsAll s.heap us (pyDs ds) as
 | _,_,_,_,.nil,_,.nil=>⟨_,by rw[pyDs]; exact .nil⟩
 | _,_,_,n,.cons h q,hp,.cons r t=>by
  rw[List.all_cons,Bool.and_eq_true] at hp;obtain⟨as,h1⟩:=h.reads hK I n hp.1 r;obtain⟨bs,h2⟩:=q.reads hK I n hp.2 t;exact⟨_,by rw[pyDs]; exact .cons h1 h2⟩
end
theorem d_eq (hK:W.K=X.K)(hu:X.A.units+64<cLine):OpR X (compareOp .Eq) (fun x y=>rD W G .eq [x,y]):=by
 rintro pins s σ H x y v u Q I rx ry ⟨N,xs,z,hN,hd,hz,hq⟩;obtain⟨⟨k1,p⟩,⟨k2,q⟩,rfl,d1,d2⟩:=dens2 hd;simp only[Ip.zMH,on2,eqD] at hz;split at hz
 ·rename_i hp;rw[Bool.and_eq_true] at hp;cases hz;obtain⟨_,r1⟩:=(d1.mono zAc).reads hK I 60 hp.1 rx;obtain⟨_,r2⟩:=(d2.mono zAc).reads hK I 60 hp.2 ry;refine eq_dataH r1 r2 (zCc hp.1) (zCc hp.2) hu ⟨.bl _,H,I,rfl,?_⟩;rw[zIN p q 60 60 hp.1 hp.2];exact hq _ _ Res.bl
 ·cases hz
theorem d_ne (hK:W.K=X.K)(hu:X.A.units+64<cLine):OpR X (compareOp .NotEq) (fun x y=>rD W G .ne [x,y]):=by
 rintro pins s σ H x y v u Q I rx ry ⟨N,xs,z,hN,hd,hz,hq⟩;obtain⟨⟨k1,p⟩,⟨k2,q⟩,rfl,d1,d2⟩:=dens2 hd;simp only[Ip.zMF,on2,eqD] at hz;split at hz
 ·rename_i hp;rw[Bool.and_eq_true] at hp;cases hz;obtain⟨_,r1⟩:=(d1.mono zAc).reads hK I 60 hp.1 rx;obtain⟨_,r2⟩:=(d2.mono zAc).reads hK I 60 hp.2 ry;refine ne_dataH r1 r2 (zCc hp.1) (zCc hp.2) hu ⟨.bl _,H,I,rfl,?_⟩;rw[zIN p q 60 60 hp.1 hp.2];exact hq _ _ Res.bl
 ·cases hz
end
end L2
end
section
namespace L2
open PySem PySem.Spec PyProof.Rows
open Ip (D KD Ex Op Pg Fn Sl Fr Wk Tg Tb SL zB9 bi1 bindT blockC blockN cB cE cI cT callF capD chO cmpO compB compD compF cutOp zBT zAr zBt zBd zBD zBs zA3 zAl zCF zBC evals zAb zAe excA fB frz frz1 frzA inD intsD isGl isIdx isLoc isND isNone isTy isVis joinK makeF methF natL natsD noStar zAw notSet zAv num2 okAt on1 on2 onL onS opD pos? pos?_get prsD pv? srtN tgIx tgOf tyOf tysOf wkD wkOk)
section
variable {X:Cx}{W:Wd}{G:Pg}
theorem zOt:∀x H Q,rD W G .neg [x] H Q->rU (fun i=>.int (-i)) x H Q:=by
 rintro x H Q ⟨N,xs,z,hN,hd,hz,hq⟩;obtain⟨⟨k1,p⟩,rfl,d1⟩:=dens1 hd;simp only[Ip.zKK,on1] at hz;cases p <;> simp only[Ip.negD] at hz <;> try (cases hz; done)
 cases d1;cases hz;exact⟨_,rfl,hq _ _ Res.int⟩
theorem zOr:∀x H Q,rD W G .not [x] H Q->∃c,x=.bl c/\Q (.bl (!c)) H:=by
 rintro x H Q ⟨N,xs,z,hN,hd,hz,hq⟩;obtain⟨⟨k1,p⟩,rfl,d1⟩:=dens1 hd;simp only[Ip.zKJ,on1] at hz;cases p <;> simp only[Ip.notD] at hz <;> try (cases hz; done)
 cases d1;cases hz;exact⟨_,rfl,hq _ _ Res.bl⟩
theorem Den.non_iff {S:Hp}{v:V}{d:D}(h:Den W S v d):decide (v=.non)=(match d with | .non=>true | _=>false):=by
 cases h <;> simp
theorem zNd:∀x H Q,rD W G .isN [x] H Q->Q (.bl (decide (x=.non))) H:=by
 rintro x H Q ⟨N,xs,z,hN,hd,hz,hq⟩;obtain⟨⟨k1,p⟩,rfl,d1⟩:=dens1 hd;rw[d1.non_iff];simp only[Ip.zKO,on1] at hz;cases p <;> simp only[isND,fB] at hz <;> cases hz <;> exact hq _ _ Res.bl
theorem zJL:∀x H Q,rD W G .notN [x] H Q->Q (.bl (!decide (x=.non))) H:=by
 rintro x H Q ⟨N,xs,z,hN,hd,hz,hq⟩;obtain⟨⟨k1,p⟩,rfl,d1⟩:=dens1 hd;rw[d1.non_iff];simp only[Ip.zIh,on1] at hz;cases p <;> simp only[isND,fB] at hz <;> cases hz <;> exact hq _ _ Res.bl
theorem Den.flatV {S:Hp}{v:V}{d:D}(h:Den W S v d)(hs:d.scal=true):flatV v=true:=by
 cases h <;> first | rfl | cases hs
theorem Den.eqV {S:Hp}{v w:V}{d e:D}(h:Den W S v d)(k:Den W S w e)(hs:d.scal=true)(ks:e.scal=true):eqV v w=d.eq e:=by
 cases h <;> first | (cases hs; done) | (cases k <;> first | (cases ks; done) | rfl | simp[L2.eqV,D.eq])
theorem Dens.flatV {S:Hp}:∀{vs:List V} {ds:List D},Dens W S vs ds->ds.all D.scal=true->vs.all L2.flatV=true
 | _,_,.nil,_=>rfl
 | _,_,.cons h q,hs=>by
  rw[List.all_cons,Bool.and_eq_true] at hs;rw[List.all_cons,h.flatV hs.1,q.flatV hs.2]; rfl
theorem zE3:∀ys:List D,pyDs ys=ys.map pyD
 | []=>by rw[pyDs]; rfl
 | y::ys=>by rw[pyDs,zE3 ys]; rfl
theorem zLg {p:D}(hp:p.pur 60=true){ys:List D}(h:ys.all (D.pur 60)=true):(pyDs ys).map (fun y=>PyData.eqv y (pyD p))=ys.map fun y=>y.eq p:=by
 rw[zE3,List.map_map];exact List.map_congr_left fun y hy=>zIN y p 60 60 (zp7 h y hy) hp
theorem zCf {p:D}{ys:List D}{u:Nat}(hp:p.pur 60=true)(hu:u+64<cLine):u+1+min (PyData.depthAll (pyDs ys)) (pyD p).depth<cLine:=by
 have:=(zEE p 60 hp).2;omega
theorem Den.seq {S:Hp}{v:V}{d:D}{xs:List D}(h:Den W S v d)(e:d.seq=some xs):∃a vs,v=.ref a/\((SqL W.K S a vs/\Rd S a (.lst vs))\/SqT W.K S a vs)/\Dens W S vs xs:=by
 cases h <;> simp only[D.seq] at e <;> try (cases e; done)
 ·rename_i h1 h2;cases e;exact⟨_,_,rfl,.inl ⟨.inl h1,h1⟩,h2⟩
 ·rename_i h1 h2;cases e;exact⟨_,_,rfl,.inr h1,h2⟩
theorem zJF {neg:Bool}{o:Op}{pins:List (Addr×Obj)}{σ:St}{H:Hp}{s:Shared}{x y:V}{v u:Value}{Q:VK}(ho:∀xs,opD G o xs=on2 (inD neg) xs)(hK:W.K=X.K)(I:Inv X pins σ H s)(rx:RelV x v)(ry:RelV y u)(h:rD W G o [x,y] H Q) :
  ∃p ys as bs,p.pur 60=true/\ys.all (D.pur 60)=true/\Reads s.heap v (pyD p) as/\(Reads s.heap u (.list (pyDs ys)) bs\/Reads s.heap u (.tuple (pyDs ys)) bs)/\Q (.bl (if neg then !(pyDs ys).any fun y=>PyData.eqv y (pyD p) else (pyDs ys).any fun y=>PyData.eqv y (pyD p))) H:=by
 obtain⟨N,xs,z,hN,hd,hz,hq⟩:=h;obtain⟨⟨k1,p⟩,⟨k2,q⟩,rfl,d1,d2⟩:=dens2 hd;rw[ho] at hz;simp only[on2,inD] at hz;cases e:q.seq with
 | none=>rw[e] at hz; cases hz
 | some ys=>
  rw[e] at hz;simp only at hz;split at hz
  ·rename_i hp;rw[Bool.and_eq_true] at hp;cases hz;obtain⟨as,r1⟩:=(d1.mono zAc).reads hK I 60 hp.1 rx;have em:p.memb ys=(pyDs ys).any fun y=>PyData.eqv y (pyD p):=by
    have e1:=congrArg (fun l:List Bool=>l.any id) (zLg hp.1 hp.2);simp only[List.any_map] at e1;exact e1.symm
   have hq':=hq (.bl (if neg then !p.memb ys else p.memb ys)) H Res.bl;rw[em] at hq';have d2':=d2.mono zAc;cases q <;> simp only[D.seq] at e <;> try (cases e; done)
   ·cases e;obtain⟨bs,r2⟩:=d2'.reads hK I 61 hp.2 ry;rw[pyD] at r2;exact⟨p,ys,as,bs,hp.1,hp.2,r1,.inl r2,hq'⟩
   ·cases e;obtain⟨bs,r2⟩:=d2'.reads hK I 61 hp.2 ry;rw[pyD] at r2;exact⟨p,ys,as,bs,hp.1,hp.2,r1,.inr r2,hq'⟩
  ·cases hz
theorem d_in (hK:W.K=X.K)(hu:X.A.units+64<cLine):OpR X (compareOp .In) (fun x y=>rD W G .isin [x,y]):=by
 intro pins s σ H x y v u Q I rx ry h;obtain⟨p,ys,as,bs,hp,hs,r1,r2,q⟩:=zJF (neg:=false) (fun _=>rfl) hK I rx ry h;rcases r2 with r2 | r2
 ·exact SeqAt.in_list_reads r2 r1 (zCz ys 60 hs).1 (zEE p 60 hp).1 (zCf hp hu) ⟨.bl _,H,I,rfl,q⟩
 ·exact SeqAt.in_tuple_reads r2 r1 (zCz ys 60 hs).1 (zEE p 60 hp).1 (zCf hp hu) ⟨.bl _,H,I,rfl,q⟩
theorem zOs (hK:W.K=X.K)(hu:X.A.units+64<cLine):OpR X (compareOp .NotIn) (fun x y=>rD W G .nin [x,y]):=by
 intro pins s σ H x y v u Q I rx ry h;obtain⟨p,ys,as,bs,hp,hs,r1,r2,q⟩:=zJF (neg:=true) (fun _=>rfl) hK I rx ry h;rcases r2 with r2 | r2
 ·exact SeqAt.notIn_list_reads r2 r1 (zCz ys 60 hs).1 (zEE p 60 hp).1 (zCf hp hu) ⟨.bl _,H,I,rfl,q⟩
 ·exact SeqAt.notIn_tuple_reads r2 r1 (zCz ys 60 hs).1 (zEE p 60 hp).1 (zCf hp hu) ⟨.bl _,H,I,rfl,q⟩
theorem d_ix (hK:W.K=X.K):IxR X (fun x y=>rD W G .ix [x,y]):=by
 rintro value slice pins s σ H x y v u Q I rx ry ⟨N,xs,z,hN,hd,hz,hq⟩ hs;obtain⟨⟨k1,p⟩,⟨k2,q⟩,rfl,d1,d2⟩:=dens2 hd;simp only[Ip.zMG,on2] at hz;cases q <;> simp only[Ip.ixOp] at hz <;> try (cases hz; done)
 cases d2;rename_i i;cases e:p.seq with
 | none=>rw[e] at hz; cases hz
 | some ds=>
  rw[e] at hz;simp only at hz;obtain⟨a,vs,rfl,hsq,hv⟩:=d1.seq e;cases e2:(Ip.ixD ds.length i).bind fun j=>ds[j]? with
  | none=>rw[e2] at hz; cases hz
  | some d=>
   rw[e2] at hz;cases hz;obtain⟨j,ej,ed⟩:=zp4 e2;obtain⟨w,ew,dw⟩:=hv.get ed;have ha:atI vs i=some w:=by
    unfold atI;have:ixN vs.length i=some j:=by rw[hv.length]; exact ej
    rw[this]; exact ew
   have hr:Q w H:=hq _ _ (Res.of_den (Sub.refl _) dw);rcases hsq with hl | ht
   ·exact zK6 value slice pins s σ H _ _ v u Q I rx ry ⟨a,vs,i,w,rfl,rfl,by rw[<-hK]; exact SqL.sub zAc hl.1,ha,hr⟩ hs
   ·exact zMP value slice pins s σ H _ _ v u Q I rx ry ⟨a,vs,i,w,rfl,rfl,by rw[<-hK]; exact SqT.sub zAc ht,ha,hr⟩ hs
theorem zJg (n d:Nat)(o:Option Int):HT.sIx n d o=Ip.sIxD n d o:=by
 cases o with
 | none=>rfl
 | some i=>
  show (if i<0 then (i+(n:Int)).toNat else min i.toNat n)=if 0<=i then min i.toNat n else (i+n).toNat
  by_cases h:i<0
  ·rw[if_pos h,if_neg (by omega)]
  ·rw[if_neg h,if_pos (by omega)]
theorem Dens.cut {S:Hp}{vs:List V}{ds:List D}(h:Dens W S vs ds)(lo hi:Option Int):Dens W S (cutV vs lo hi) (Ip.cutD ds lo hi):=by
 unfold cutV Ip.cutD;rw[zJg,zJg,h.length];exact (h.drop _).take _
def rCut (W:Wd):V->Option Int->Option Int->Hp->VK->Prop:=fun x lo hi H Q=>∃N d z,NOk N H/\Den W (hid N H) x d/\cutOp lo hi d=some z/\∀v H',Res W H N H' z v->Q v H'
theorem zLl (hK:W.K=X.K):SlR X (rCut W):=by
 rintro pins s σ H x v vl vu lo hi sl Q I rx hs pl pu ⟨N,d,z,hN,hd,hz,hq⟩;cases hd <;> simp only[cutOp] at hz <;> try (cases hz; done)
 rotate_left
 ·rename_i a vs ds h1 h2;cases hz;refine zJ9 pins s σ H _ v vl vu lo hi sl Q I rx hs pl pu ⟨a,vs,rfl,by rw[<-hK]; exact SqT.sub zAc h1,fun hw=>hq _ _ (Res.of_den (Sub.refl _) ?_),fun _ p hp=>hq _ _ (Res.newT hN hp (h2.cut lo hi))⟩;have c:=h2.cut lo hi;have e:cutV vs lo hi=vs:=by
   unfold cutV;rw[hw.1,hw.2];simp
  rw[e] at c;exact .tup h1 c
 rename_i a vs ds h1 h2;cases hz;exact zKa pins s σ H _ v vl vu lo hi sl Q I rx hs pl pu ⟨a,vs,rfl,by rw[<-hK]; exact .inl (Rd.sub zAc h1),fun p hp=>hq _ _ (Res.newL hp (h2.cut lo hi))⟩
theorem Dens.rev {S:Hp}{vs:List V}{ds:List D}(h:Dens W S vs ds):Dens W S vs.reverse ds.reverse:=by
 induction vs generalizing ds with
 | nil=>cases h; exact .nil
 | cons v vs ih=>
  cases h with
  | cons h q=>
   rw[List.reverse_cons,List.reverse_cons];exact (ih q).append (.cons h .nil)
theorem CallR.imp {f:Value}{r r':List V->Hp->VK->Prop}(h:CallR X f r)(k:∀xs H Q,r' xs H Q->r xs H Q):CallR X f r':=fun pins s σ H xs us Q I r q=>h pins s σ H xs us Q I r (k xs H Q q)
theorem Dens.vs1 {S:Hp}{vs:List V}{xs:List KD}{o:Op}{f:D->Option KD}{z:KD}(h:Dens W S vs (xs.map (·.2)))(e:on1 f xs=some z):∃v p,vs=[v]/\xs=[p]/\Den W S v p.2/\f p.2=some z:=by
 cases xs with
 | nil=>exact (zAw e).elim
 | cons p r=>
  cases r with
  | nil=>
   obtain⟨v,rfl,h1⟩:=Dens.one h;exact⟨v,p,rfl,rfl,h1,e⟩
  | cons _ _=>exact (zAw e).elim
theorem zE8 {f:List D->Option KD}{d:D}{z:KD}(e:onS f d=some z):∃xs,d.seq=some xs/\f xs=some z:=by
 unfold onS at e;cases q:d.seq with
 | none=>rw[q] at e; cases e
 | some xs=>rw[q] at e; exact⟨xs,rfl,e⟩
theorem zBP {f:List D->Option KD}{d:D}{z:KD}(e:onL f d=some z):∃xs,d=.lst xs/\f xs=some z:=by
 cases d <;> simp only[onL] at e <;> first | exact⟨_,rfl,e⟩ | cases e
theorem zOw (hK:W.K=X.K):CallR X (.builtin "len") (fun xs=>rD W G .len xs):=zEc.imp fun vs H Q ⟨N,xs,z,hN,hd,hz,hq⟩=>by
 simp only[Ip.zKN] at hz;obtain⟨v,p,rfl,rfl,dv,ez⟩:=hd.vs1 (o:=.len) hz;obtain⟨ds,e1,e2⟩:=zE8 ez;obtain⟨a,ws,rfl,hs,hv⟩:=dv.seq e1;cases e2;refine⟨a,ws,rfl,?_,?_⟩
 ·rw[<-hK]; exact hs.imp (fun h=>SqL.sub zAc h.1) (SqT.sub zAc)
 ·rw[hv.length]; exact hq _ _ Res.int
theorem zNc (hK:W.K=X.K):CallR X (.type "list") (fun xs=>rD W G .list xs):=zEb.imp fun vs H Q ⟨N,xs,z,hN,hd,hz,hq⟩=>by
 simp only[Ip.zIk] at hz;obtain⟨v,p,rfl,rfl,dv,ez⟩:=hd.vs1 (o:=.list) hz;obtain⟨ds,e1,e2⟩:=zE8 ez;obtain⟨a,ws,rfl,hs,hv⟩:=dv.seq e1;cases e2;refine⟨a,ws,rfl,?_,fun l hl=>hq _ _ (Res.newL hl hv)⟩;rw[<-hK]; exact hs.imp (fun h=>SqL.sub zAc h.1) (SqT.sub zAc)
theorem zLi (hK:W.K=X.K):CallR X (.type "tuple") (fun xs=>rD W G .tuple xs):=zDz.imp fun vs H Q ⟨N,xs,z,hN,hd,hz,hq⟩=>by
 simp only[Ip.zGQ] at hz;obtain⟨v,p,rfl,rfl,dv,ez⟩:=hd.vs1 (o:=.tuple) hz;obtain⟨k,d⟩:=p;cases dv with
 | @lst a ws ds h1 h2=>
  cases ez;exact⟨a,ws,rfl,.inl ⟨by rw[<-hK]; exact .inl (Rd.sub zAc h1),fun l hl=>hq _ _ (Res.newT hN hl h2)⟩⟩
 | @tup a ws ds h1 h2=>
  cases ez;exact⟨a,ws,rfl,.inr ⟨by rw[<-hK]; exact SqT.sub zAc h1,hq _ _ (Res.of_den (Sub.refl _) (.tup h1 h2))⟩⟩
 | _=>cases ez
theorem zLj:CallR X (.type "int") (fun xs=>rD W G .toInt xs):=zHy.imp fun vs H Q ⟨N,xs,z,hN,hd,hz,hq⟩=>by
 simp only[Ip.zGR] at hz;obtain⟨v,p,rfl,rfl,dv,ez⟩:=hd.vs1 (o:=.toInt) hz;obtain⟨k,d⟩:=p;cases dv <;> simp only[Ip.intD] at ez <;> try (cases ez; done)
 ·cases ez;exact .inr ⟨_,rfl,hq _ _ Res.int⟩
 ·cases ez;exact .inl ⟨_,rfl,hq _ _ Res.int⟩
theorem zEl:∀{ds:List D} {b:Bool},Ip.allB ds=some b->∃bs:List Bool,ds=bs.map .bl/\b=bs.all id
 | [],b,h=>⟨[],rfl,by cases h; rfl⟩
 | .bl c::ds,b,h=>by
  rw[Ip.allB] at h;obtain⟨c',e,rfl⟩:=zp5 h;obtain⟨bs,rfl,rfl⟩:=zEl e;exact⟨c::bs,rfl,rfl⟩
theorem zEk:∀{ds:List D} {b:Bool},Ip.anyB ds=some b->∃bs:List Bool,ds=bs.map .bl/\b=bs.any id
 | [],b,h=>⟨[],rfl,by cases h; rfl⟩
 | .bl c::ds,b,h=>by
  rw[Ip.anyB] at h;obtain⟨c',e,rfl⟩:=zp5 h;obtain⟨bs,rfl,rfl⟩:=zEk e;exact⟨c::bs,rfl,rfl⟩
theorem Dens.bools {S:Hp}:∀{vs:List V} {bs:List Bool},Dens W S vs (bs.map .bl)->vs=bs.map .bl
 | [],[],_=>rfl
 | v::vs,b::bs,.cons h q=>by rw[h.bl_inv,q.bools]; rfl
theorem Vals.bool_at {bs:List Bool}:∀{us:List Value} {i:Nat} {v:Value},Vals (bs.map .bl) us->us[i]? = some v->∃b,bs[i]? = some b/\v=.bool b:=by
 intro us i v r e;have hl:bs.length=us.length:=by simpa using r.length
 have hi:i<us.length:=(zp6 e).1;have hb:(bs.map V.bl)[i]? = some (.bl bs[i]):=by simp[List.getElem?_map,List.getElem?_eq_getElem (by omega:i<bs.length)]
 obtain⟨u,e2,r2⟩:=r.get hb;rw[e] at e2;cases e2;exact⟨_,List.getElem?_eq_getElem (by omega),r2⟩
theorem zOA (hc:X.calm=true):CallR X (.builtin "all") (fun xs=>rD W G .all xs):=by
 rintro pins s σ H vs us Q I rs ⟨N,xs,z,hN,hd,hz,hq⟩;simp only[Ip.zKR] at hz;obtain⟨v,p,rfl,rfl,dv,ez⟩:=hd.vs1 (o:=.all) hz;obtain⟨ds,e1,e2⟩:=zBP ez;obtain⟨u,rfl,ru⟩:=rs.one;rw[e1] at dv;cases dv with | @lst l ws _ h1 h2=>?_
 cases ru;cases e3:Ip.allB ds with
 | none=>rw[e3] at e2; cases e2
 | some b=>
  rw[e3] at e2;cases e2;obtain⟨bs,rfl,rfl⟩:=zEl e3;have:=h2.bools;subst this;obtain⟨_,its,n,rv,hlen,eo⟩:=I.rdL (Rd.sub zAc h1);have hl:s.heap.IsList l its.toArray:=⟨_,eo,rfl,n,rfl⟩
  have hlt:l<s.heap.objs.size:=zm7 eo;refine call_all_walk (wpAny_pyIter_list hl ?_);refine⟨s.heap.objs.size,[s.heap.objs.size,l],[s.heap.objs.size],its.toArray.size,_,_,fun i=>(bs[i]?).getD true,rfl,Walks.list (A:=X.A.in1) (I.ok.hd hc) _ l (zn2 hlt) its.toArray,
   ⟨⟨_,zm6 _ rfl,rfl,rfl⟩,hl.push _⟩,fun i v s' Q' E' hP hQ=>?_,fun h' tk hk=>?_⟩
  ·obtain⟨b,e,rfl⟩:=rv.bool_at (i:=i) (v:=v) (by simpa using hP);simp only[e,Option.getD_some] at hQ;exact wpAny_truthy_bool hQ
  ·have e:((List.range its.toArray.size).all fun i=>(bs[i]?).getD true)=bs.all id:=by
    rw[List.size_toArray,<-hlen,List.length_map]; exact LSm.range_all bs
   rw[e];exact⟨.bl _,H,I.kept (t':=tk) (LSm.kept_iter hk),rfl,hq _ _ Res.bl⟩
theorem zOz (hc:X.calm=true):CallR X (.builtin "any") (fun xs=>rD W G .any xs):=by
 rintro pins s σ H vs us Q I rs ⟨N,xs,z,hN,hd,hz,hq⟩;simp only[Ip.zKQ] at hz;obtain⟨v,p,rfl,rfl,dv,ez⟩:=hd.vs1 (o:=.any) hz;obtain⟨ds,e1,e2⟩:=zBP ez;obtain⟨u,rfl,ru⟩:=rs.one;rw[e1] at dv;cases dv with | @lst l ws _ h1 h2=>?_
 cases ru;cases e3:Ip.anyB ds with
 | none=>rw[e3] at e2; cases e2
 | some b=>
  rw[e3] at e2;cases e2;obtain⟨bs,rfl,rfl⟩:=zEk e3;have:=h2.bools;subst this;obtain⟨_,its,n,rv,hlen,eo⟩:=I.rdL (Rd.sub zAc h1);have hl:s.heap.IsList l its.toArray:=⟨_,eo,rfl,n,rfl⟩
  have hlt:l<s.heap.objs.size:=zm7 eo;refine call_any_walk (wpAny_pyIter_list hl ?_);refine⟨s.heap.objs.size,[s.heap.objs.size,l],[s.heap.objs.size],its.toArray.size,_,_,fun i=>(bs[i]?).getD false,rfl,Walks.list (A:=X.A.in1) (I.ok.hd hc) _ l (zn2 hlt) its.toArray,
   ⟨⟨_,zm6 _ rfl,rfl,rfl⟩,hl.push _⟩,fun i v s' Q' E' hP hQ=>?_,fun h' tk hk=>?_⟩
  ·obtain⟨b,e,rfl⟩:=rv.bool_at (i:=i) (v:=v) (by simpa using hP);simp only[e,Option.getD_some] at hQ;exact wpAny_truthy_bool hQ
  ·have e:((List.range its.toArray.size).any fun i=>(bs[i]?).getD false)=bs.any id:=by
    rw[List.size_toArray,<-hlen,List.length_map]; exact LSm.range_any bs
   rw[e];exact⟨.bl _,H,I.kept (t':=tk) (LSm.kept_iter hk),rfl,hq _ _ Res.bl⟩
theorem zD8 {S:Hp}:∀{ns:List Nat} {vs:List V},Dens W S vs (natL ns)->vs=nats ns
 | [],_,h=>by cases h; rfl
 | n::ns,_,h=>by
  cases h with
  | cons h q=>
   cases h;rw[zD8 q];rfl
theorem zDR {S:Hp}:∀{ns:List Nat},Dens W S (nats ns) (natL ns)
 | []=>.nil
 | n::ns=>.cons .int zDR
theorem zCP:∀{ds:List D} {ns:List Nat},natsD ds=some ns->ds=natL ns/\∀n∈ns,n<6
 | [],ns,h=>by cases h; exact⟨rfl,fun n hn=>by simp at hn⟩
 | d::ds,ns,h=>by
  cases d with
  | int i=>
   unfold natsD at h;by_cases c:0<=i/\i<6
   ·rw[if_pos c] at h;obtain⟨ms,e1,e2⟩:=zp5 h;obtain⟨h1,h2⟩:=zCP e1;subst e2;refine⟨?_,fun n hn=>?_⟩
    ·rw[h1];show _=D.int (Int.ofNat i.toNat)::natL ms;rw[Int.ofNat_eq_natCast,Int.toNat_of_nonneg c.1]
    ·rcases zp1 hn with z | z
     ·rw[z]; omega
     ·exact h2 n z
   ·rw[if_neg c] at h; cases h
  | _=>exact nomatch h
theorem zEo:((St.subs 6).all fun l=>decide (l=(List.range 6).filter fun k=>l.contains k))=true:=by decide +kernel
theorem zJ5 {l:List Nat}{k x:Nat}:x∈St.stp l k↔x∈l\/x=k:=by
 unfold St.stp St.ins;by_cases c:k∈l
 ·rw[if_pos c];exact⟨.inl,fun h=>h.elim id fun z=>z ▸ c⟩
 ·rw[if_neg c];simp only[List.mem_append,List.mem_filter,List.mem_cons];have b1:∀a b:Nat,Nat.blt a b=true↔a<b:=fun a b=>⟨Nat.le_of_ble_eq_true,Nat.ble_eq_true_of_le⟩
  simp only[b1];constructor
  ·rintro (h | h | h)
   ·exact .inl h.1
   ·exact .inr h
   ·exact .inl h.1
  ·rintro (h | h)
   ·rcases Nat.lt_trichotomy x k with z | z | z
    ·exact .inl ⟨h,z⟩
    ·exact .inr (.inl z)
    ·exact .inr (.inr ⟨h,z⟩)
   ·exact .inr (.inl h)
theorem zJ3 {l:List Nat}{k:Nat}(hl:l∈St.subs 6)(hk:k<6):St.stp l k∈St.subs 6:=by
 unfold St.stp;by_cases c:k∈l
 ·rw[if_pos c]; exact hl
 ·rw[if_neg c];exact (St.ins_of hl hk c).2.2.2.2.1
theorem zEV:∀(ns l:List Nat),l∈St.subs 6->(∀n∈ns,n<6)->ns.foldl St.stp l∈St.subs 6/\∀x,x∈ns.foldl St.stp l↔x∈l\/x∈ns
 | [],l,hl,_=>⟨hl,fun x=>by simp⟩
 | n::ns,l,hl,h=>by
  obtain⟨h1,h2⟩:=zEV ns (St.stp l n) (zJ3 hl (h n zm2)) fun m hm=>h m (zm1 _ hm);refine⟨h1,fun x=>?_⟩;rw[List.foldl_cons,h2 x,zJ5,List.mem_cons,or_assoc]
theorem zJ4 {ns:List Nat}(h:∀n∈ns,n<6):ns.foldl St.stp []=srtN ns:=by
 obtain⟨h1,h2⟩:=zEV ns [] (by decide +kernel) h;have:=of_decide_eq_true (zp7 zEo _ h1);rw[this];unfold srtN;refine List.filter_congr fun k _=>?_;rw[Bool.eq_iff_iff,List.contains_iff_mem,List.contains_iff_mem,h2 k];simp
theorem zIT (hK:W.K=X.K):∀x H Q,rD W G .srtSet [x] H Q->∃a ns,x=.ref a/\SqL X.K H a (nats ns)/\(∀n∈ns,n<6)/\∀p,H p=none->Q (.ref p) (upd H p (.lst (nats (ns.foldl St.stp [])))):=by
 rintro x H Q ⟨N,xs,z,hN,hd,hz,hq⟩;simp only[Ip.zFP] at hz;obtain⟨v,p,e,rfl,dv,ez⟩:=hd.vs1 (o:=.srtSet) hz;cases e;obtain⟨ds,e1,e2⟩:=zBP ez;rw[e1] at dv;cases dv with | @lst a vs _ h1 h2=>?_
 cases q:natsD ds with
 | none=>rw[q] at e2; cases e2
 | some ns=>
  rw[q] at e2;cases e2;obtain⟨r1,r2⟩:=zCP q;rw[r1] at h2;have ev:=zD8 h2;subst ev;refine⟨a,ns,rfl,by rw[<-hK]; exact .inl (Rd.sub zAc h1),r2,fun p hp=>hq _ _ ?_⟩;rw[zJ4 r2];exact Res.newL hp zDR
end
theorem OwnF.re {att:List Str}{P Q:V->D->List Addr->Prop}{b:D->Bool}(hP:∀v d f,b d=true->P v d f->Q v d f):∀{vs ds fp},(ds.all fun p=>b p.2)=true->OwnF att P vs ds fp->OwnF att Q vs ds fp
 | _,_,_,_,.nil=>.nil
 | _,_,_,hf,.cons e h q=>by
  rw[List.all_cons,Bool.and_eq_true] at hf;exact .cons e (hP _ _ _ hf.1 h) (q.re hP hf.2)
theorem zDA {α:Type}{p q:α->Bool}:∀{xs:List α},xs.all p=true->xs.all q=true->(xs.all fun x=>p x&&q x)=true
 | [],_,_=>rfl
 | x::xs,h,k=>by
  rw[List.all_cons,Bool.and_eq_true] at h k;rw[List.all_cons,h.1,k.1,zDA h.2 k.2]; rfl
section
variable {W:Wd}{S H:Hp}
theorem Own.fb:∀{k j v d fp},D.fb k d=true->D.fb j d=true->Own W S H k v d fp->Own W S H j v d fp
 | 0,j,_,d,_,h,_,o=>by
  rw[D.fb] at h;obtain⟨e1,e2⟩:=o.flat_inv h;rw[e1];exact Own.flat h e2
 | k+1,0,_,d,_,_,h,o=>by
  rw[D.fb] at h;obtain⟨e1,e2⟩:=o.flat_inv h;exact⟨e1,e2⟩
 | k+1,j+1,_,.lst ds,_,h1,h2,⟨a,vs,fq,e1,e2,e3,e4⟩=>⟨a,vs,fq,e1,e2,e3.re (b:=fun d=>D.fb k d&&D.fb j d) (fun v d f hb o=>by rw[Bool.and_eq_true] at hb; exact Own.fb hb.1 hb.2 o) (zDA h1 h2),e4⟩
 | k+1,j+1,_,.tup ds,_,h1,h2,⟨a,vs,e1,e2,e3⟩=>⟨a,vs,e1,e2,e3.re (b:=fun d=>D.fb k d&&D.fb j d) (fun v d f hb o=>by rw[Bool.and_eq_true] at hb; exact Own.fb hb.1 hb.2 o) (zDA h1 h2)⟩
 | k+1,j+1,_,.ins c ds,_,h1,h2,⟨a,C,dx,fs,fq,e1,e2,e5,e3,e4⟩=>⟨a,C,dx,fs,fq,e1,e2,e5,e3.re (b:=fun d=>D.fb k d&&D.fb j d) (fun v d f hb o=>by rw[Bool.and_eq_true] at hb; exact Own.fb hb.1 hb.2 o) (zDA h1 h2),e4⟩
 | k+1,j+1,_,.exc c ds,_,h1,_,_=>by cases h1
 | _+1,_+1,_,.non,_,_,_,h=>h
 | _+1,_+1,_,.bl _,_,_,_,h=>h
 | _+1,_+1,_,.int _,_,_,_,h=>h
 | _+1,_+1,_,.str _,_,_,_,h=>h
theorem Own.at {j k:Nat}{v:V}{d:D}{fp:List Addr}(h:okAt j (k,d)=true)(o:Own W S H k v d fp):Own W S H j v d fp:=by
 unfold okAt at h;rw[Bool.or_eq_true,Bool.or_eq_true,Bool.and_eq_true] at h;rcases h with h | h | ⟨h1,h2⟩
 ·obtain⟨e1,e2⟩:=o.flat_inv h;rw[e1];exact Own.flat h e2
 ·have:k=j:=by simpa using h
  rw[<-this]; exact o
 ·exact o.fb h2 h1
theorem OwnV.at {j:Nat}:∀{vs xs fp},xs.all (okAt j)=true->OwnV W S H vs xs fp->OwnL (Own W S H j) vs (xs.map (·.2)) fp
 | _,_,_,_,.nil=>.nil
 | _,_,_,hf,.cons h q=>by
  rw[List.all_cons,Bool.and_eq_true] at hf;exact .cons (h.at hf.1) (q.at hf.2)
theorem zG8 {xs:List KD}:xs.all (okAt (joinK xs))=true\/joinK xs=0:=by
 unfold joinK;cases e:xs.find? fun x=>!x.2.flat with
 | none=>
  refine .inl (List.all_eq_true.mpr fun x hx=>Ip.zDO ?_);have:=List.find?_eq_none.mp e x hx;simpa using this
 | some y=>
  show xs.all (okAt (if xs.all (okAt y.1)=true then y.1 else 0))=true\/(if xs.all (okAt y.1)=true then y.1 else 0)=0;by_cases h:xs.all (okAt y.1)=true
  ·rw[if_pos h]; exact .inl h
  ·rw[if_neg h]; exact .inr rfl
theorem OwnV.join {N:Addr->Prop}{vs:List V}{xs:List KD}{fp:List Addr}(nd:fp.Nodup)(hn:∀a∈fp,¬N a)(o:OwnV W (hid (fun a=>N a\/a∈fp) H) H vs xs fp) :
  ∃fq:List Addr,fq.Nodup/\(∀a∈fq,a∈fp)/\OwnL (Own W (hid (fun a=>N a\/a∈fq) H) H (joinK xs)) vs (xs.map (·.2)) fq:=by
 rcases zG8 (xs:=xs) with h | h
 ·exact⟨fp,nd,fun _ z=>z,o.at h⟩
 ·rw[h];refine⟨[],.nil,fun _ z=>by simp at z,OwnL.zero ?_⟩;refine o.dens (fun a u e=>?_) fun a ha u e=>zAa.mpr ⟨fun z=>z.elim (hn a ha) (by simp),e⟩;obtain⟨h1,h2⟩:=zAa.mp e;exact zAa.mpr ⟨fun z=>z.elim (fun y=>h1 (.inl y)) (by simp),h2⟩
end
section
variable {X:Cx}{W:Wd}{G:Pg}{cl:Nat->List KD->Ip.Run}{E:St->XK}
theorem zC5 (e:Expr)(es:List Expr)(env:Env):(∃x p,e=.Starred x p)\/starEach (e::es) env=(false,PySem.eval e env)::starEach es env:=by
 cases e <;> first | exact .inl ⟨_,_,rfl⟩ | exact .inr rfl
theorem zIM {ir:Ex}{irs:List Ex}{σ:St}{H:Hp}{Q:List V->Hp->Prop}(h:evsT W G cl (ir::irs) E σ H Q):tCons (evT W G cl ir E) (evsT W G cl irs E) σ H Q:=by
 obtain⟨N,a,hN,hS,h⟩:=h;unfold tCons;refine zAO hN hS (fun x ex v H1 fp hs nd hf ow hN1 hS1=>?_) (fun c fs ee=>?_) fun ee=>?_
 ·refine⟨_,a,hN1,hS1,?_⟩;cases q:evals G cl a irs with
  | bad=>simp only[zAb,ex,q,Ip.R.bind] at h
  | exc c fs=>
   simp only[zAb,ex,q,Ip.R.bind] at h;exact fun e H' r=>h e H' (r.trans hs fun _ y=>.inl y)
  | ok xs=>
   simp only[zAb,ex,q,Ip.R.bind] at h;rintro vs H2 ⟨hs2,fq,nd2,hf2,o2⟩;refine h _ _ ⟨hs.trans hs2,fp++fq,?_,fun b z=>(zp3 z).elim (hf b) fun y=>hs.none (hf2 b y),?_⟩
   ·refine List.nodup_append.mpr ⟨nd,nd2,fun b hb c hc z=>?_⟩;rw[z] at hb;exact ow.dom c hb (hf2 c hc)
   ·refine .cons (ow.mono (zAz hs2 fun b z=>?_) fun b hb o e=>hs2 b o e) (o2.mono (fun b o e=>?_) fun b _ o e=>e)
    ·rcases z with z | z
     ·exact .inl (.inl z)
     ·exact (zp3 z).elim (fun y=>.inl (.inr y)) fun y=>.inr (hf2 b y)
    ·obtain⟨h1,h2⟩:=zAa.mp e;refine zAa.mpr ⟨fun z=>h1 ?_,h2⟩;rcases z with z | z
     ·exact .inl (.inl z)
     ·exact (zp3 z).elim (fun y=>.inl (.inr y)) .inr
 ·simp only[zAb,ee,Ip.R.bind] at h;exact h
 ·simp only[zAb,ee,Ip.R.bind] at h
theorem zDr {σ:St}{H:Hp}{Q:List V->Hp->Prop}(h:evsT W G cl [] E σ H Q):tNil σ H Q:=by
 obtain⟨N,a,hN,hS,h⟩:=h;simp only[zAe] at h;exact h _ _ ⟨Sub.refl _,[],.nil,fun a z=>by simp at z,.nil⟩
theorem zJu:∀{es:List Expr} {f:Expr->Ex},(∀e∈es,PE X e (evT W G cl (f e) E))->(∀e∈es,∀x p,e=.Starred x p->f e=.bad)->PA X es (evsT W G cl (es.map f) E)
 | [],_,_,_=>zCN.mono fun σ H Q h=>zDr h
 | e::es,f,h,k=>by
  rcases zC5 e es X.env with ⟨x,p,hx⟩ | hs
  ·rintro pos pins s σ H Q I ⟨N,a,_,_,q⟩;rw[List.map_cons,k e List.mem_cons_self x p hx,zAb,zAr] at q;exact q.elim
  ·refine (zBn (h e zm2) (zJu (fun y hy=>h y (zm1 _ hy)) fun y hy=>k y (zm1 _ hy)) hs).mono fun σ H Q q=>?_;rw[List.map_cons] at q;exact zIM q
theorem zLk {es:List Expr}{pos:Pos}{irs:List Ex}(hl:irs.length<=1000)(h:PA X es (evsT W G cl irs E)):PE X (.List es pos) (evT W G cl (.op .lst irs) E):=by
 refine (zMw h).mono fun σ H Q hZz=>?_;obtain⟨N,a,hN,hS,q⟩:=hZz;refine⟨N,a,hN,hS,?_⟩;rw[zAl] at q;cases e:evals G cl a irs with
 | bad=>rw[e] at q; exact q
 | exc c fs=>rw[e] at q; exact q
 | ok xs=>
  simp only[e,Ip.R.bind,Ip.R.of,Ip.zKM] at q;rintro vs H1 ⟨hs,fp,nd,hf,o⟩;have hx:xs.length=irs.length:=evals_length e;refine⟨?_,fun p hp=>?_⟩
  ·rw[o.length,hx];exact zm9 hl (by decide)
  obtain⟨fq,nd2,sub,o2⟩:=o.join nd fun b hb z=>hN b z (hf b hb);refine q _ _ ⟨hs.trans (Sub.upd hp),p::fq,List.nodup_cons.mpr ⟨fun z=>o.dom p (sub p z) hp,nd2⟩,fun b z=>?_,p,vs,fq,rfl,zAi,?_,rfl⟩
  ·rcases zp1 z with y | y
   ·rw[y]; exact hs.none hp
   ·exact hf b (sub b y)
  ·refine o2.imp fun v d f hf2 ow=>ow.mono (zAz (Sub.upd hp) fun b z=>?_) fun b _ u e=>Sub.upd hp b u e;rcases z with z | z
   ·exact .inl (.inl z)
   ·rcases zp1 z with y | y
    ·rw[y]; exact .inr hp
    ·exact .inl (.inr y)
where
 evals_length {a:Sl}:∀{irs:List Ex} {xs:List KD},evals G cl a irs=.ok xs->xs.length=irs.length
  | [],xs,h=>by rw[zAe] at h; cases h; rfl
  | ir::irs,xs,h=>by
   rw[zAb] at h;cases e1:Ip.eval G cl a ir with
   | bad=>rw[e1] at h; cases h
   | exc c fs=>rw[e1] at h; cases h
   | ok x=>
    cases e2:evals G cl a irs with
    | bad=>rw[e1,e2] at h; cases h
    | exc c fs=>rw[e1,e2] at h; cases h
    | ok ys=>
     rw[e1,e2] at h;cases h;rw[List.length_cons,List.length_cons,evals_length e2]
theorem zOl {es:List Expr}{k:Nat}{pos:Pos}{irs:List Ex}(hl:irs.length<=1000)(h:PA X es (evsT W G cl irs E)):PE X (.Tuple es k pos) (evT W G cl (.op .tup irs) E):=by
 refine (zJq h).mono fun σ H Q hZz=>?_;obtain⟨N,a,hN,hS,q⟩:=hZz;refine⟨N,a,hN,hS,?_⟩;rw[zAl] at q;cases e:evals G cl a irs with
 | bad=>rw[e] at q; exact q
 | exc c fs=>rw[e] at q; exact q
 | ok xs=>
  simp only[e,Ip.R.bind,Ip.R.of,Ip.zKG] at q;rintro vs H1 ⟨hs,fp,nd,hf,o⟩;have hx:xs.length=irs.length:=zLk.evals_length e;refine⟨?_,fun p hp=>?_⟩
  ·rw[o.length,hx];exact zm9 hl (by decide)
  obtain⟨fq,nd2,sub,o2⟩:=o.join nd fun b hb z=>hN b z (hf b hb);refine q _ _ ⟨hs.trans (Sub.upd hp),fq,nd2,fun b z=>hf b (sub b z),p,vs,rfl,SqT.of (zAa.mpr ⟨fun z=>?_,zAi⟩),?_⟩
  ·rcases z with z | z
   ·exact (hN.mono hs) p z hp
   ·exact o.dom p (sub p z) hp
  ·refine o2.imp fun v d f hf2 ow=>ow.mono (zAz (Sub.upd hp) fun b z=>.inl z) fun b _ u e=>Sub.upd hp b u e
end
section
variable {X:Cx}{W:Wd}{G:Pg}{cl:Nat->List KD->Ip.Run}{E:St->XK}{σ:St}{H:Hp}
theorem zOk {e:Expr}{i:Nat}(h:PE X e (tVar i)):PE X e (evT W G cl (.var i) E):=h.mono fun σ H Q ⟨N,a,hN,hS,q⟩=>by
 rw[zBC] at q;cases e:a[i]? with
 | none=>rw[e] at q; exact q.elim
 | some o=>
  cases o with
  | none=>rw[e] at q; exact q.elim
  | some d=>
   rw[e] at q;obtain⟨v,h1,h2⟩:=hS i d e;exact⟨v,h1,q v H (Res.of_den (Sub.refl _) h2)⟩
theorem zHt {e:Expr}{v:V}{d:D}(hd:d.flat=true)(hv:∀S,Den W S v d)(h:PE X e (tC v)):PE X e (evT W G cl (.cst d) E):=h.mono fun σ H Q ⟨N,a,hN,hS,q⟩=>by
 rw[zBD] at q;exact q v H (Res.of_flat (Sub.refl _) hd (hv _))
def evTb (W:Wd)(G:Pg)(cl:Nat->List KD->Ip.Run)(ir:Ex)(E:St->XK):TT:=fun σ H Q=>∃(N:Addr->Prop) (a:Sl),NOk N H/\RelS W (hid N H) a σ/\match (Ip.eval G cl a ir).bl with
 | .ok b=>∀H',Sub H H'->Q b H'
 | .exc c fs=>∀e H',ExcR W H N H' c fs e->E σ (.ref e) none H'
 | .bad=>False
theorem RelS.grow {N:Addr->Prop}{a:Sl}{H1:Hp}(hS:RelS W (hid N H) a σ)(hs:Sub H H1):RelS W (hid N H1) a σ:=hS.mono (zAz hs fun _ z=>.inl z)
theorem zGf {ir:Ex}{Q:Bool->Hp->Prop}(h:evTb W G cl ir E σ H Q):evT W G cl ir E σ H (fun x H1=>∃c,x=.bl c/\Q c H1):=by
 obtain⟨N,a,hN,hS,h⟩:=h;refine⟨N,a,hN,hS,?_⟩;cases e:Ip.eval G cl a ir with
 | bad=>rw[e] at h; exact h
 | exc c fs=>rw[e] at h; exact h
 | ok x=>
  obtain⟨k,d⟩:=x;rw[e] at h;intro v H' r;cases d <;> try (exact h.elim)
  have:=(r.den hN).bl_inv;subst this;exact⟨_,rfl,h H' r.1⟩
theorem zMj {e:Expr}{ir:Ex}(h:PE X e (evT W G cl ir E))(he:∀whole,isTrue e X.env whole=(do let v <-whole; standAt e.pos; holding [v] (truthy v))):PT X e (evTb W G cl ir E):=
 (zMi h he).mono fun σ H Q q=>zGf q
theorem zAH {α β:Type}{r:Ip.R α}{f:α->Ip.R β}{b:β}(h:r.bind f=.ok b):∃a,r=.ok a/\f a=.ok b:=by
 cases r with
 | ok a=>exact⟨a,rfl,h⟩
 | exc c fs=>cases h
 | bad=>cases h
theorem ExcR.of_sub {H1 H':Hp}{N:Addr->Prop}{c:Nat}{fs:List (Nat×D)}{e:Addr}(hs:Sub H H1)(r:ExcR W H1 N H' c fs e):ExcR W H N H' c fs e:=r.trans hs fun _ z=>z
theorem zLW {x y:Ex}{Q:Bool->Hp->Prop}(h:evTb W G cl (.and x y) E σ H Q):tAnd (evTb W G cl x E) (evTb W G cl y E) σ H Q:=by
 obtain⟨N,a,hN,hS,h⟩:=h;rw[zBT] at h;unfold tAnd;refine⟨N,a,hN,hS,?_⟩;cases e:Ip.eval G cl a x with
 | bad=>rw[e] at h; exact h
 | exc c fs=>rw[e] at h; exact h
 | ok v=>
  obtain⟨k,d⟩:=v;rw[e] at h;cases d <;> try (exact h.elim)
  rename_i b;intro H1 hs;cases b with
  | false=>exact h H1 hs
  | true=>
   rw[if_pos rfl];refine⟨N,a,hN.mono hs,hS.grow hs,?_⟩;simp only[Ip.R.bind,zB9,if_true] at h;cases e2:(Ip.eval G cl a y).bl with
   | bad=>rw[e2] at h; exact h
   | exc c fs=>rw[e2] at h; exact fun e' H' r=>h e' H' (r.of_sub hs)
   | ok b=>rw[e2] at h; exact fun H' hs2=>h H' (hs.trans hs2)
theorem zNM {x y:Ex}{Q:Bool->Hp->Prop}(h:evTb W G cl (.or x y) E σ H Q):tOr (evTb W G cl x E) (evTb W G cl y E) σ H Q:=by
 obtain⟨N,a,hN,hS,h⟩:=h;rw[zCF] at h;unfold tOr;refine⟨N,a,hN,hS,?_⟩;cases e:Ip.eval G cl a x with
 | bad=>rw[e] at h; exact h
 | exc c fs=>rw[e] at h; exact h
 | ok v=>
  obtain⟨k,d⟩:=v;rw[e] at h;cases d <;> try (exact h.elim)
  rename_i b;intro H1 hs;cases b with
  | true=>exact h H1 hs
  | false=>
   rw[if_neg (by decide)];refine⟨N,a,hN.mono hs,hS.grow hs,?_⟩;simp only[Ip.R.bind,zB9,Bool.false_eq_true,if_false] at h;cases e2:(Ip.eval G cl a y).bl with
   | bad=>rw[e2] at h; exact h
   | exc c fs=>rw[e2] at h; exact fun e' H' r=>h e' H' (r.of_sub hs)
   | ok b=>rw[e2] at h; exact fun H' hs2=>h H' (hs.trans hs2)
theorem zLV {x:Ex}{Q:Bool->Hp->Prop}(h:evTb W G cl (.op .not [x]) E σ H Q):tNot (evTb W G cl x E) σ H Q:=by
 obtain⟨N,a,hN,hS,h⟩:=h;rw[zAl,zAb,zAe] at h;unfold tNot;refine⟨N,a,hN,hS,?_⟩;cases e:Ip.eval G cl a x with
 | bad=>rw[e] at h; exact h
 | exc c fs=>rw[e] at h; exact h
 | ok v=>
  obtain⟨k,d⟩:=v;rw[e] at h;cases d <;> first | exact h | exact h.elim
theorem zOi {x y:Ex}{Q:VK}(h:evT W G cl (.and x y) E σ H Q):tAndV (evT W G cl x E) (evT W G cl y E) σ H Q:=by
 obtain⟨N,a,hN,hS,h⟩:=h;rw[zBT] at h;unfold tAndV;refine⟨N,a,hN,hS,?_⟩;cases e:Ip.eval G cl a x with
 | bad=>rw[e] at h; exact h
 | exc c fs=>rw[e] at h; exact h
 | ok v=>
  obtain⟨k,d⟩:=v;rw[e] at h;cases d <;> try (exact h.elim)
  rename_i b;intro v H1 r;have:=(r.den hN).bl_inv;subst this;have hs:=r.1;refine⟨b,rfl,?_⟩;cases b with
  | false=>exact h _ _ (Res.of_flat hs rfl .bl)
  | true=>
   rw[if_pos rfl];refine⟨N,a,hN.mono hs,hS.grow hs,?_⟩;simp only[Ip.R.bind,zB9,if_true] at h;cases e2:Ip.eval G cl a y with
   | bad=>rw[e2] at h; exact h
   | exc c fs=>rw[e2] at h; exact fun e' H' r=>h e' H' (r.of_sub hs)
   | ok b=>rw[e2] at h; exact fun v H' r2=>h v H' (r2.trans hs)
theorem e_or {x y:Ex}{Q:VK}(h:evT W G cl (.or x y) E σ H Q):tOrV (evT W G cl x E) (evT W G cl y E) σ H Q:=by
 obtain⟨N,a,hN,hS,h⟩:=h;rw[zCF] at h;unfold tOrV;refine⟨N,a,hN,hS,?_⟩;cases e:Ip.eval G cl a x with
 | bad=>rw[e] at h; exact h
 | exc c fs=>rw[e] at h; exact h
 | ok v=>
  obtain⟨k,d⟩:=v;rw[e] at h;cases d <;> try (exact h.elim)
  rename_i b;intro v H1 r;have:=(r.den hN).bl_inv;subst this;have hs:=r.1;refine⟨b,rfl,?_⟩;cases b with
  | true=>exact h _ _ (Res.of_flat hs rfl .bl)
  | false=>
   rw[if_neg (by decide)];refine⟨N,a,hN.mono hs,hS.grow hs,?_⟩;simp only[Ip.R.bind,zB9,Bool.false_eq_true,if_false] at h;cases e2:Ip.eval G cl a y with
   | bad=>rw[e2] at h; exact h
   | exc c fs=>rw[e2] at h; exact fun e' H' r=>h e' H' (r.of_sub hs)
   | ok b=>rw[e2] at h; exact fun v H' r2=>h v H' (r2.trans hs)
theorem zOg {c x y:Ex}{Q:VK}(h:evT W G cl (.ite c x y) E σ H Q):tIf (evTb W G cl c E) (evT W G cl x E) (evT W G cl y E) σ H Q:=by
 obtain⟨N,a,hN,hS,h⟩:=h;rw[Ip.zDt] at h;unfold tIf;refine⟨N,a,hN,hS,?_⟩;cases e:Ip.eval G cl a c with
 | bad=>rw[e] at h; exact h
 | exc c fs=>rw[e] at h; exact h
 | ok v=>
  obtain⟨k,d⟩:=v;rw[e] at h;cases d <;> try (exact h.elim)
  rename_i b;intro H1 hs;cases b with
  | true=>
   rw[if_pos rfl];refine⟨N,a,hN.mono hs,hS.grow hs,?_⟩;simp only[Ip.R.bind,zB9,if_true] at h;cases e2:Ip.eval G cl a x with
   | bad=>rw[e2] at h; exact h
   | exc c fs=>rw[e2] at h; exact fun e' H' r=>h e' H' (r.of_sub hs)
   | ok b=>rw[e2] at h; exact fun v H' r2=>h v H' (r2.trans hs)
  | false=>
   rw[if_neg (by decide)];refine⟨N,a,hN.mono hs,hS.grow hs,?_⟩;simp only[Ip.R.bind,zB9,Bool.false_eq_true,if_false] at h;cases e2:Ip.eval G cl a y with
   | bad=>rw[e2] at h; exact h
   | exc c fs=>rw[e2] at h; exact fun e' H' r=>h e' H' (r.of_sub hs)
   | ok b=>rw[e2] at h; exact fun v H' r2=>h v H' (r2.trans hs)
theorem zHp {o p:Op}{x y z:Ex}{Q:VK}(h:evT W G cl (.chain o p x y z) E σ H Q) :
  tChain (fun x y=>rD W G o [x,y]) (fun x y=>rD W G p [x,y]) (evT W G cl x E) (evT W G cl y E) (evT W G cl z E) σ H Q:=by
 obtain⟨N,a,hN,hS,h⟩:=h;rw[Ip.zB5] at h;unfold tChain;refine zAO hN hS (fun x1 ex v H1 fp hs nd hf ow hN1 hS1=>?_) (fun c fs ee=>?_) fun ee=>?_
 ·refine zAO hN1 hS1 (fun y1 ey w H2 fq hs2 nd2 hf2 ow2 hN2 hS2=>?_) (fun c fs ee e H' r=>?_) fun ee=>?_
  ·simp only[ex,ey,Ip.R.bind] at h;have hN':=hN.mono (hs.trans hs2);have dx:=ow.later hN hs2 hf fun _ y=>y;have dy:=ow2.later (hN.mono hs) (Sub.refl _) hf2 fun _ y=>.inl y;cases q:opD G o [x1,y1] with
   | none=>simp only[q,Ip.R.of] at h
   | some b=>
    simp only[q,Ip.R.of] at h;refine⟨N,[x1,y1],b,hN',.cons dx (.cons dy .nil),q,fun v2 H3 r3=>?_⟩;obtain⟨kb,b⟩:=b;cases b <;> try (exact h.elim)
    rename_i b;have:=(r3.den hN').bl_inv;subst this;have hs3:=(hs.trans hs2).trans r3.1;refine⟨b,rfl,?_⟩;cases b with
    | false=>exact h _ _ (Res.of_flat hs3 rfl .bl)
    | true=>
     rw[if_pos rfl];simp only[zB9,if_true] at h;refine zAO (hN.mono hs3) (hS.grow hs3) (fun z1 ez u H4 fz hs4 nd4 hf4 ow4 hN4 hS4=>?_) (fun c fs ee e H' r=>?_) fun ee=>?_
     ·simp only[ez] at h;cases q2:opD G p [y1,z1] with
      | none=>simp only[q2] at h
      | some t=>
       simp only[q2] at h;exact⟨N,[y1,z1],t,hN.mono (hs3.trans hs4),.cons (dy.mono (zAz (r3.1.trans hs4) fun _ z=>.inl z)) (.cons (ow4.later (hN.mono hs3) (Sub.refl _) hf4 fun _ y=>y) .nil),q2,fun v H' r=>h v H' (r.trans (hs3.trans hs4))⟩
     ·simp only[ee] at h;exact h e H' (r.of_sub hs3)
     ·simp only[ee] at h
  ·simp only[ex,ee,Ip.R.bind] at h;exact h e H' (r.trans hs fun _ y=>.inl y)
  ·simp only[ex,ee,Ip.R.bind] at h
 ·simp only[ee,Ip.R.bind] at h;exact h
 ·simp only[ee,Ip.R.bind] at h
end
def ItD (W:Wd)(N:Addr->Prop)(H1:Hp)(J:It)(ds:List D):Prop:=∀(M:Addr->Prop) (H:Hp),Sub (hid N H1) (hid M H)->NOk M H->∀i:Nat,
 (∀d,ds[i]? = some d->J.go i H/\∀x H',J.yld i H x H'->Sub H H'/\Den W (hid M H') x d)/\(ds.length<=i->J.stop i H)
section
variable {X:Cx}{W:Wd}{G:Pg}{cl:Nat->List KD->Ip.Run}{E:St->XK}
theorem zBf {N:Addr->Prop}{H H':Hp}(h:Sub H H'):Sub (hid N H) (hid N H'):=zAz h fun _ z=>.inl z
def piT (W:Wd)(G:Pg)(cl:Nat->List KD->Ip.Run)(wk:Wk)(irs:List Ex)(E:St->XK):TI:=fun σ H R=>∃(N:Addr->Prop) (a:Sl),NOk N H/\RelS W (hid N H) a σ/\match evals G cl a irs with
 | .ok vs=>(match wkD wk vs with
  | some ds=>∀J H',Sub H H'->ItD W N H' J ds->(wk.rng=true->∀M,ItD W M H' J ds)->R J H'
  | none=>False)
 | .exc c fs=>∀e H',ExcR W H N H' c fs e->E σ (.ref e) none H'
 | .bad=>False
theorem PI.mono {tg iter:Expr}{t t':TI}(h:PI X tg iter t)(k:∀σ H R,t' σ H R->t σ H R):PI X tg iter t':=fun pins s σ H R I q=>h pins s σ H R I (k σ H R q)
theorem ItD.list {N:Addr->Prop}{H1:Hp}{a:Addr}{vs:List V}{ds:List D}(hK:W.K=X.K)(h:Rd (hid N H1) a (.lst vs))(q:Dens W (hid N H1) vs ds):ItD W N H1 (Itl X.K a) ds:=fun M H hs hN i=>by
 have hq:SqL X.K H a vs:=.inl (Rd.sub (hs.trans zAc) h);refine⟨fun d e=>?_,fun hl=>⟨vs,hq,by rw[q.length]; exact hl⟩⟩;obtain⟨v,e1,e2⟩:=q.get e;refine⟨⟨vs,v,hq,e1⟩,fun x H' hZz=>?_⟩;obtain⟨hH,hx⟩:=hZz;subst hH;have:=hx vs hq;rw[e1] at this;cases this;exact⟨Sub.refl _,e2.mono hs⟩
theorem ItD.tup {N:Addr->Prop}{H1:Hp}{a:Addr}{vs:List V}{ds:List D}(hK:W.K=X.K)(h:SqT W.K (hid N H1) a vs)(q:Dens W (hid N H1) vs ds):ItD W N H1 (Itt X.K a) ds:=fun M H hs hN i=>by
 have hq:SqT X.K H a vs:=hK ▸ SqT.sub (hs.trans zAc) h;refine⟨fun d e=>?_,fun hl=>⟨vs,hq,by rw[q.length]; exact hl⟩⟩;obtain⟨v,e1,e2⟩:=q.get e;refine⟨⟨vs,v,hq,e1⟩,fun x H' hZz=>?_⟩;obtain⟨hH,hx⟩:=hZz;subst hH;have:=hx vs hq;rw[e1] at this;cases this;exact⟨Sub.refl _,e2.mono hs⟩
theorem zOp {tg e:Expr}{ir:Ex}(hK:W.K=X.K)(h:PE X e (evT W G cl ir E)):PI X tg e (piT W G cl .seq [ir] E):=by
 rintro pins s σ H R I ⟨N,a,hN,hS,q⟩;rw[zAb,zAe] at q;cases e1:Ip.eval G cl a ir with
 | bad=>rw[e1] at q; exact q.elim
 | exc c fs=>
  rw[e1] at q;refine zGK h pins s σ H R I ⟨N,a,hN,hS,?_⟩;rw[e1];exact q
 | ok x=>
  obtain⟨k,d⟩:=x;rw[e1] at q;simp only[show wkD .seq [(k,d)]=d.seq from rfl] at q;cases e2:d.seq with
  | none=>rw[e2] at q; exact q.elim
  | some ds=>
   rw[e2] at q;cases d <;> simp only[D.seq] at e2 <;> try (cases e2; done)
   ·cases e2;refine zGK h pins s σ H R I ⟨N,a,hN,hS,?_⟩;rw[e1];intro v H' r;have dv:=r.den hN;cases dv with | @lst b vs _ h1 h2=>?_
    exact⟨b,rfl,⟨vs,.inl (Rd.sub zAc h1)⟩,q _ _ r.1 (ItD.list hK h1 h2) fun z=>nomatch z⟩
   ·cases e2;refine zMp h pins s σ H R I ⟨N,a,hN,hS,?_⟩;rw[e1];intro v H' r;have dv:=r.den hN;cases dv with | @tup b vs _ h1 h2=>?_
    exact⟨b,rfl,⟨vs,hK ▸ SqT.sub zAc h1⟩,q _ _ r.1 (ItD.tup hK h1 h2) fun z=>nomatch z⟩
theorem ItD.range {N:Addr->Prop}{H1:Hp}{lo:Int}{n:Nat}:ItD W N H1 (Itr lo n) ((List.range n).map fun (i:Nat)=>.int (lo+i)):=fun M H hs hN i=>by
 refine⟨fun d e=>?_,fun hl=>?_⟩;rotate_left
 ·show n<=i;simpa using hl
 rw[List.getElem?_map] at e;obtain⟨j,e1,e2⟩:=zp5 e;have hi:i<n:=by have:=(zp6 e1).1; simpa using this
 rw[List.getElem?_range hi] at e1;cases e1;subst e2;refine⟨hi,fun x H' hZz=>?_⟩;obtain⟨hH,hx⟩:=hZz;subst hH hx;exact⟨Sub.refl _,.int⟩
theorem wk_rng1 {xs:List KD}{ds:List D}(h:wkD .rng1 xs=some ds):∃k j,xs=[(k,.int j)]/\(-(2 ^ 62)<=j/\j<2 ^ 62)/\ds=(List.range j.toNat).map fun (n:Nat)=>.int n:=by
 obtain⟨⟨k,d⟩,rfl,h2⟩:=Ip.zC0 (f:=Ip.rng1D) h;obtain⟨j,e1,h3⟩:=zp4 (show (Ip.intO d).bind _=some ds from h2);clear h h2;obtain rfl:=Ip.zHc e1;by_cases hj:Ip.inI j=true
 ·rw[if_pos hj] at h3;cases h3;exact⟨k,j,rfl,Ip.zAC.mp hj,rfl⟩
 ·rw[if_neg hj] at h3; exact (zAw h3).elim
theorem zCv {d:D}{xs:List D}(h:d.lstO=some xs):d=.lst xs:=by
 cases d <;> simp only[D.lstO] at h <;> cases h
 rfl
theorem zHT {d:D}{xs:List D}(h:d.seq=some xs):d=.lst xs\/d=.tup xs:=by
 cases d <;> simp only[D.seq] at h <;> cases h
 ·exact .inl rfl
 ·exact .inr rfl
theorem wk_enum {xs:List KD}{ds:List D}(h:wkD .enum xs=some ds):∃k d es,xs=[(k,d)]/\(d=.lst es\/d=.tup es)/\ds=es.mapIdx fun n d=>.tup [.int n,d]:=by
 obtain⟨⟨k,d⟩,rfl,h2⟩:=Ip.zC0 (f:=Ip.enumD) h;obtain⟨es,e1,e2⟩:=zp5 (show d.seq.map _=some ds from h2);exact⟨k,d,es,rfl,zHT e1,e2.symm⟩
theorem zLN {xs:List KD}{ds:List D}(h:wkD .rev xs=some ds):∃k us,xs=[(k,.lst us)]/\ds=us.reverse:=by
 obtain⟨⟨k,d⟩,rfl,h2⟩:=Ip.zC0 (f:=Ip.revWD) h;obtain⟨us,e1,e2⟩:=zp5 (show d.lstO.map _=some ds from h2);cases zCv e1;exact⟨k,us,rfl,e2.symm⟩
theorem wk_zip {xs:List KD}{ds:List D}(h:wkD .zip xs=some ds):∃k l d e us ws,xs=[(k,d),(l,e)]/\d=.lst us/\e=.lst ws/\ds=(us.zip ws).map fun p=>.tup [p.1,p.2]:=by
 obtain⟨⟨k,d⟩,⟨l,e⟩,rfl,h2⟩:=Ip.zHK (f:=Ip.zipD) h;obtain⟨us,e1,e2⟩:=zp4 (show d.lstO.bind _=some ds from h2);obtain⟨ws,e3,e4⟩:=zp5 e2;exact⟨k,l,d,e,us,ws,rfl,zCv e1,zCv e3,e4.symm⟩
theorem zE5 {wk:Wk}{irs:List Ex}{σ:St}{H:Hp}{R:It->Hp->Prop}{Q:List V->Hp->Prop}(h:piT W G cl wk irs E σ H R)
  (k:∀(N:Addr->Prop) xs ds,wkD wk xs=some ds->NOk N H->(∀J H',Sub H H'->ItD W N H' J ds->(wk.rng=true->∀M,ItD W M H' J ds)->R J H')->∀vs H',Sub H H'->Dens W (hid N H') vs (xs.map (·.2))->Q vs H'):evsT W G cl irs E σ H Q:=by
 obtain⟨N,a,hN,hS,q⟩:=h;refine⟨N,a,hN,hS,?_⟩;cases e1:evals G cl a irs with
 | bad=>rw[e1] at q; exact q
 | exc c fs=>rw[e1] at q; exact q
 | ok xs=>
  rw[e1] at q;simp only at q;cases e2:wkD wk xs with
  | none=>rw[e2] at q; exact q.elim
  | some ds=>
   rw[e2] at q;exact fun vs H' r=>k N xs ds e2 hN q vs H' r.1 (r.dens hN)
theorem zM8 {tg e:Expr}{ir:Ex}{p pos:Pos}(hg:Gl X "range")(hm:X.mg "range" = none)(h:PA X [e] (evsT W G cl [ir] E))(hs:starEach [e] X.env=[(false,PySem.eval e X.env)]):PI X tg (.Call (.Name "range" p) [e] [] pos) (piT W G cl .rng1 [ir] E):=by
 refine (zGJ hg hm h hs).mono fun σ H R q=>zE5 q fun N xs ds e2 hN q vs H' hs dv=>?_;obtain⟨k,j,rfl,hj,rfl⟩:=wk_rng1 e2;obtain⟨v,rfl,h1⟩:=Dens.one dv;rw[h1.int_inv];have rr:∀M,ItD W M H' (Itr 0 j.toNat) ((List.range j.toNat).map fun (n:Nat)=>.int n):=fun M=>by
  have:=ItD.range (W:=W) (N:=M) (H1:=H') (lo:=0) (n:=j.toNat);simpa using this
 exact⟨j,rfl,hj.1,hj.2,q _ _ hs (rr N) fun _ M=>rr M⟩
theorem ItD.enum {N:Addr->Prop}{H1:Hp}{a:Addr}{vs:List V}{ds:List D}(hK:W.K=X.K)(h:Rd (hid N H1) a (.lst vs))(q:Dens W (hid N H1) vs ds):ItD W N H1 (Ite X.K a) (ds.mapIdx fun n d=>.tup [.int n,d]):=fun M H hs hN i=>by
 have hq:SqL X.K H a vs:=.inl (Rd.sub (hs.trans zAc) h);refine⟨fun d e=>?_,fun hl=>⟨vs,hq,by rw[q.length]; simpa using hl⟩⟩;rw[List.getElem?_mapIdx] at e;obtain⟨d',e0,rfl⟩:=zp5 e;obtain⟨v,e1,e2⟩:=q.get e0;refine⟨⟨vs,v,hq,e1⟩,fun x H' hZz=>?_⟩;obtain⟨y,p,hx,hp,hH,hy⟩:=hZz;have:=hy vs hq;rw[e1] at this;cases this;subst hx hH;exact⟨Sub.upd hp,.tup (SqT.of (zAa.mpr ⟨fun z=>hN p z hp,zAi⟩)) (.cons .int (.cons (e2.mono (hs.trans (zBf (Sub.upd hp)))) .nil))⟩
theorem ItD.enumT {N:Addr->Prop}{H1:Hp}{a:Addr}{vs:List V}{ds:List D}(hK:W.K=X.K)(h:SqT W.K (hid N H1) a vs)(q:Dens W (hid N H1) vs ds):ItD W N H1 (IteT X.K a) (ds.mapIdx fun n d=>.tup [.int n,d]):=fun M H hs hN i=>by
 have hq:SqT X.K H a vs:=by rw[<-hK]; exact SqT.sub (hs.trans zAc) h
 refine⟨fun d e=>?_,fun hl=>⟨vs,hq,by rw[q.length]; simpa using hl⟩⟩;rw[List.getElem?_mapIdx] at e;obtain⟨d',e0,rfl⟩:=zp5 e;obtain⟨v,e1,e2⟩:=q.get e0;refine⟨⟨vs,v,hq,e1⟩,fun x H' hZz=>?_⟩;obtain⟨y,p,hx,hp,hH,hy⟩:=hZz;have:=hy vs hq;rw[e1] at this;cases this;subst hx hH;exact⟨Sub.upd hp,.tup (SqT.of (zAa.mpr ⟨fun z=>hN p z hp,zAi⟩)) (.cons .int (.cons (e2.mono (hs.trans (zBf (Sub.upd hp)))) .nil))⟩
theorem ItD.zip {N:Addr->Prop}{H1:Hp}{a b:Addr}{vs ws:List V}{ds es:List D}(hK:W.K=X.K)(h:Rd (hid N H1) a (.lst vs))(q:Dens W (hid N H1) vs ds)(h':Rd (hid N H1) b (.lst ws))(q':Dens W (hid N H1) ws es) :
  ItD W N H1 (Itz X.K a b) ((ds.zip es).map fun p=>.tup [p.1,p.2]):=fun M H hs hN i=>by
 have hq:SqL X.K H a vs:=.inl (Rd.sub (hs.trans zAc) h);have hq':SqL X.K H b ws:=.inl (Rd.sub (hs.trans zAc) h');refine⟨fun d e=>?_,fun hl=>?_⟩
 ·rw[List.getElem?_map] at e;obtain⟨⟨d1,d2⟩,e0,rfl⟩:=zp5 e;obtain⟨e1,e2⟩:=List.getElem?_zip_eq_some.mp e0;obtain⟨v,f1,f2⟩:=q.get e1;obtain⟨w,g1,g2⟩:=q'.get e2;refine⟨⟨vs,ws,v,w,hq,hq',f1,g1⟩,fun x H' hZz=>?_⟩;obtain⟨y,z,p,hx,hp,hH,hy,hz⟩:=hZz;have t1:=hy vs hq;have t2:=hz ws hq';rw[f1] at t1;rw[g1] at t2;cases t1;cases t2;subst hx hH;exact⟨Sub.upd hp,.tup (SqT.of (zAa.mpr ⟨fun z=>hN p z hp,zAi⟩)) (.cons (f2.mono (hs.trans (zBf (Sub.upd hp)))) (.cons (g2.mono (hs.trans (zBf (Sub.upd hp)))) .nil))⟩
 ·refine⟨vs,ws,hq,hq',?_⟩;rw[q.length,q'.length];simp only[List.length_map,List.length_zip] at hl;omega
theorem ItD.rev {N:Addr->Prop}{H1:Hp}{a:Addr}{vs:List V}{ds:List D}(h:Rd (hid N H1) a (.lst vs))(q:Dens W (hid N H1) vs ds):ItD W N H1 (Itv X.K a vs.length) ds.reverse:=fun M H hs hN i=>by
 have hq:SqL X.K H a vs:=.inl (Rd.sub (hs.trans zAc) h);have ln:=q.length;refine⟨fun d e=>?_,fun hl=>?_⟩
 ·have hi:i<ds.length:=by simpa using (zp6 e).1
  rw[List.getElem?_reverse hi,<-ln] at e;obtain⟨v,e1,e2⟩:=q.get e;refine⟨⟨by omega,vs,v,hq,e1⟩,fun x H' hZz=>?_⟩;obtain⟨hH,hx⟩:=hZz;subst hH;have:=hx vs hq;rw[e1] at this;cases this;exact⟨Sub.refl _,e2.mono hs⟩
 ·show vs.length<=i;rw[ln]; simpa using hl
theorem zNf {e:Expr}{es:List Expr}{k1:Nat}{tp:Pos}{ir:Ex}{p pos:Pos}(hK:W.K=X.K)(hg:Gl X "enumerate")(hm:X.mg "enumerate" = none)(hv:bootBuiltins "enumerate" = some (.type "enumerate"))(h:PA X [e] (evsT W G cl [ir] E))(hs:starEach [e] X.env=[(false,PySem.eval e X.env)]) :
  PI X (.Tuple es k1 tp) (.Call (.Name "enumerate" p) [e] [] pos) (piT W G cl .enum [ir] E):=by
 refine (zH6 hg hm hv h hs).mono fun σ H R q=>zE5 q fun N xs ds e2 hN q vs H' hs dv=>?_;obtain⟨k,d,us,rfl,hd,rfl⟩:=wk_enum e2;obtain⟨v,rfl,h0⟩:=Dens.one dv;rcases hd with rfl | rfl
 ·have h0':Den W (hid N H') v (.lst us):=h0;cases h0' with | @lst a ws _ h1 h2=>?_
  exact .inl ⟨a,ws,rfl,.inl (Rd.sub zAc h1),q _ _ hs (ItD.enum hK h1 h2) fun z=>nomatch z⟩
 ·have h0':Den W (hid N H') v (.tup us):=h0;cases h0' with | @tup a ws _ h1 h2=>?_
  exact .inr ⟨a,ws,rfl,by rw[<-hK]; exact SqT.sub zAc h1,q _ _ hs (ItD.enumT hK h1 h2) fun z=>nomatch z⟩
theorem zM9 {tg e:Expr}{ir:Ex}{p pos:Pos}(hg:Gl X "reversed")(hm:X.mg "reversed" = none)(hv:bootBuiltins "reversed" = some (.type "reversed"))(h:PA X [e] (evsT W G cl [ir] E))(hs:starEach [e] X.env=[(false,PySem.eval e X.env)]) :
  PI X tg (.Call (.Name "reversed" p) [e] [] pos) (piT W G cl .rev [ir] E):=by
 refine (zMq hg hm hv h hs).mono fun σ H R q=>zE5 q fun N xs ds e2 hN q vs H' hs dv=>?_;obtain⟨k,us,rfl,rfl⟩:=zLN e2;obtain⟨v,rfl,h0⟩:=Dens.one dv;have h0':Den W (hid N H') v (.lst us):=h0;cases h0' with | @lst a ws _ h1 h2=>?_
 exact⟨a,ws,rfl,.inl (Rd.sub zAc h1),q _ _ hs (ItD.rev h1 h2) fun z=>nomatch z⟩
theorem zOj {e e':Expr}{es:List Expr}{k1:Nat}{tp:Pos}{ir ir':Ex}{p pos:Pos}(hK:W.K=X.K)(hg:Gl X "zip")(hm:X.mg "zip" = none)(hv:bootBuiltins "zip" = some (.type "zip"))(h:PA X [e,e'] (evsT W G cl [ir,ir'] E))
  (hs:starEach [e,e'] X.env=[(false,PySem.eval e X.env),(false,PySem.eval e' X.env)])(hs2:starEach [e'] X.env=[(false,PySem.eval e' X.env)]) :
  PI X (.Tuple es k1 tp) (.Call (.Name "zip" p) [e,e'] [] pos) (piT W G cl .zip [ir,ir'] E):=by
 refine (zMo hg hm hv h hs hs2).mono fun σ H R q=>zE5 q fun N xs ds e2 hN q vs H' hs dv=>?_;obtain⟨k,l,d,e,us,ws,rfl,rfl,rfl,rfl⟩:=wk_zip e2;obtain⟨v,w,rfl,h0,g0⟩:=Dens.two dv;have h0':Den W (hid N H') v (.lst us):=h0;have g0':Den W (hid N H') w (.lst ws):=g0;cases h0' with | @lst a vs' _ h1 h2=>?_
 cases g0' with | @lst b ws' _ g1 g2=>?_
 exact⟨a,b,vs',ws',rfl,.inl (Rd.sub zAc h1),.inl (Rd.sub zAc g1),q _ _ hs (ItD.zip hK h1 h2 g1 g2) fun z=>nomatch z⟩
noncomputable def gTs:List Nat->TGs
 | []=>gNil
 | i::is=>gCons (gName i) (gTs is)
noncomputable def gT (K:zFg):Tg->TG
 | .one i=>gName i
 | .many is=>fun v σ H Q=>gTup K is.length (gTs is) v σ H Q\/gLst K is.length (gTs is) v σ H Q
theorem RelS.set {S:Hp}{a:Sl}{σ:St}{i:Nat}{v:V}{d:D}(h:RelS W S a σ)(hi:i < σ.length)(hd:Den W S v d):RelS W S (a.set i (some d)) (σ.set i (some v)):=fun j e hj=>by
 by_cases z:i=j
 ·subst z;by_cases y:i<a.length
  ·rw[List.getElem?_set_self y] at hj;cases hj;exact⟨v,List.getElem?_set_self hi,hd⟩
  ·rw[List.getElem?_eq_none (by rw[List.length_set]; omega)] at hj; cases hj
 ·rw[List.getElem?_set_ne z] at hj;rw[List.getElem?_set_ne z];exact h j e hj
theorem RelS.skip {S:Hp}{a:Sl}{σ:St}{i:Nat}{v:V}(h:RelS W S a σ)(hi:∀d,a[i]?≠some (some d)):RelS W S a (σ.set i (some v)):=fun j e hj=>by
 by_cases z:i=j
 ·subst z; exact absurd hj (hi e)
 ·rw[List.getElem?_set_ne z]; exact h j e hj
theorem zJG {S:Hp}{a0:Sl}{H:Hp}:∀{is:List Nat} {vs:List V} {ds:List D} {a:Sl} {σ:St} {Q:St->Hp->Prop},Dens W S vs ds->ds.length=is.length->(∀i∈is,i < σ.length)->(∀i∈is,∀d,a0[i]?≠some (some d))->RelS W S a σ->RelS W S a0 σ ->
  (∀σ',RelS W S (Ip.setsT id is ds a) σ'->RelS W S a0 σ'->σ'.length=σ.length->Q σ' H)->gTs is vs σ H Q
 | [],_,_,a,σ,Q,.nil,_,_,_,h,h0,k=>⟨rfl,k σ h h0 rfl⟩
 | [],_,_,_,_,_,.cons _ _,hl,_,_,_,_,_=>by simp at hl
 | i::is,_,_,_,_,_,.nil,hl,_,_,_,_,_=>by simp at hl
 | i::is,_,_,a,σ,Q,.cons hd q,hl,hi,ha,h,h0,k=>by
  refine⟨_,_,rfl,?_⟩;show gTs is _ (σ.set i (some _)) H Q;refine zJG q (by simpa using hl) (fun j hj=>by rw[List.length_set]; exact hi j (zm1 _ hj)) (fun j hj=>ha j (zm1 _ hj)) (h.set (hi i zm2) hd) (h0.skip (ha i zm2)) fun σ' h1 h2 h3=>k σ' h1 h2 (by rw[h3,List.length_set])
theorem zOb {N:Addr->Prop}{H:Hp}{a0 a1:Sl}{σ:St}{tg:Tg}{v:V}{d:D}{Q:St->Hp->Prop}(hK:W.K=X.K)(hd:Den W (hid N H) v d)(hi:∀i∈tgIx tg,i < σ.length)(ha:∀i∈tgIx tg,∀d,a0[i]?≠some (some d))(h0:RelS W (hid N H) a0 σ)
  (hb:bindT id a0 tg d=some a1)(k:∀σ',RelS W (hid N H) a1 σ'->RelS W (hid N H) a0 σ'->σ'.length=σ.length->Q σ' H):gT X.K tg v σ H Q:=by
 cases tg with
 | one i=>
  simp only[bindT] at hb;cases hb;exact k _ (h0.set (hi i (by simp[tgIx])) hd) (h0.skip (ha i (by simp[tgIx]))) (by rw[List.length_set])
 | many is=>
  cases hd <;> simp only[bindT] at hb <;> try (cases hb; done)
  rename_i a vs ds h1 h2;by_cases hl:ds.length=is.length
  ·rw[if_pos hl] at hb;cases hb;exact .inl ⟨a,vs,rfl,hK ▸ SqT.sub zAc h1,h2.length.trans hl,zJG h2 hl hi ha h0 h0 k⟩
  ·rw[if_neg hl] at hb; cases hb
theorem zCY {f:D->Ip.R (Option KD)}:∀{ds:List D} {zs:List KD},compD f ds=.ok zs->∀i d,ds[i]? = some d->∃o z1,f d=.ok o/\compD f (ds.take i)=.ok z1/\compD f (ds.take (i+1))=.ok (z1++o.toList)
 | [],_,_,i,d,e=>by simp at e
 | x::xs,zs,h,i,d,e=>by
  rw[compD] at h;obtain⟨o,ho,h⟩:=zAH h;obtain⟨ys,hy,h⟩:=zAH h;cases i with
  | zero=>
   simp at e;subst e;refine⟨o,[],ho,rfl,?_⟩;rw[List.take_succ_cons,List.take_zero,compD,ho,Ip.R.bind,compD,Ip.R.bind];cases o <;> rfl
  | succ i=>
   obtain⟨o2,z1,h1,h2,h3⟩:=zCY hy i d (by simpa using e);refine⟨o2,_,h1,by rw[List.take_succ_cons,compD,ho,Ip.R.bind,h2,Ip.R.bind],?_⟩;rw[List.take_succ_cons,compD,ho,Ip.R.bind,h3,Ip.R.bind];cases o <;> rfl
theorem zIX {S:Hp}{a:Sl}{σ:St}(caps:List (Option Nat))(h:RelS W S a σ):RelS W S (caps.map (capD a)) (caps.map (capV σ)):=fun i d e=>by
 rw[List.getElem?_map] at e;obtain⟨o,e1,e2⟩:=zp5 e;cases o with
 | none=>cases e2
 | some j=>
  have e3:a[j]? = some (some d):=by
   have:(a[j]?).join=some d:=e2;cases q:a[j]? with
   | none=>rw[q] at this; cases this
   | some r=>rw[q] at this; rw[show r=some d from this]
  obtain⟨v,h1,h2⟩:=h j d e3;refine⟨v,?_,h2⟩;rw[List.getElem?_map,e1];show some ((σ[j]?).join)=some (some v);rw[h1];rfl
theorem OwnV.snoc {S H:Hp}{v:V}{x:KD}{f:List Addr}(h:Own W S H x.1 v x.2 f):∀{vs xs fp},OwnV W S H vs xs fp->OwnV W S H (vs++[v]) (xs++[x]) (fp++f)
 | _,_,_,.nil=>by simpa using OwnV.cons h .nil
 | _,_,_,.cons h0 q=>by
  rw[List.cons_append,List.cons_append,List.append_assoc];exact .cons h0 (OwnV.snoc h q)
theorem zEa {f:D->Ip.R (Option KD)}:∀{ds:List D} {zs:List KD},compD f ds=.ok zs->zs.length<=ds.length
 | [],_,h=>by cases h; exact zm8 _
 | x::xs,zs,h=>by
  rw[compD] at h;obtain⟨o,ho,h⟩:=zAH h;obtain⟨ys,hy,h⟩:=zAH h;cases h;have:=zEa hy;cases o <;> simp <;> omega
noncomputable def tts (W:Wd)(G:Pg)(cl:Nat->List KD->Ip.Run):List Ex->TT
 | []=>tTrue
 | [t]=>evTb W G cl t fun _ _ _ _=>False
 | _=>fun _ _ _=>False
def hidC (N:Addr->Prop)(l:Addr)(fp:List Addr):Addr->Prop:=fun b=>(N b\/b=l)\/b∈fp
theorem zJM {caps:List (Option Nat)}{tg:Tg}{wk:Wk}{it ts:List Ex}{x:Ex}{σ:St}{H:Hp}{Q:VK}(hK:W.K=X.K)(hidx:∀i∈tgIx tg,caps[i]? = some none)(h:evT W G cl (.comp caps tg wk it ts x) E σ H Q) :
  tComp (piT W G cl wk it E) caps (gT X.K tg) (tts W G cl ts) (evT W G cl x fun _ _ _ _=>False) σ H Q:=by
 obtain⟨N,a,hN,hS,h⟩:=h;rw[zBd] at h;unfold tComp;refine⟨N,a,hN,hS,?_⟩;cases e1:evals G cl a it with
 | bad=>rw[e1] at h; exact h
 | exc c fs=>rw[e1] at h; exact h
 | ok vs=>
  rw[e1] at h;simp only[Ip.R.bind] at h;cases e2:wkD wk vs with
  | none=>rw[e2] at h; exact h.elim
  | some ds=>
   rw[e2] at h;simp only at h;by_cases hl:ds.length<=SL
   rotate_left
   ·rw[if_neg hl] at h; exact h.elim
   rw[if_pos hl] at h;cases e3:compD (compF G cl (caps.map (capD a)) tg ts x) ds with
   | bad=>rw[e3] at h; exact h.elim
   | exc c fs=>rw[e3] at h; exact h.elim
   | ok zs=>
    rw[e3] at h;simp only[Ip.R.nox] at h;simp only[e2];intro J H1 hs1 hJ _ l hl1;have hN1:=hN.mono hs1;have a0n:∀i∈tgIx tg,∀d,(caps.map (capD a))[i]?≠some (some d):=fun i hi d z=>by
     rw[List.getElem?_map,hidx i hi] at z; cases z
    have ilt:∀i∈tgIx tg,i<caps.length:=fun i hi=>(zp6 (hidx i hi)).1;refine⟨fun i m ys σ Hc=>m=ds.length - i/\i<=ds.length/\∃(z1:List KD) (fp:List Addr),compD (compF G cl (caps.map (capD a)) tg ts x) (ds.take i)=.ok z1/\fp.Nodup/\l∉fp/\(∀b∈fp,H1 b=none) /\
     OwnV W (hid (hidC N l fp) Hc) Hc ys z1 fp/\Hc l=some (.lst ys)/\Sub H1 Hc/\RelS W (hid (hidC N l fp) Hc) (caps.map (capD a)) σ/\σ.length=caps.length,
     ⟨ds.length,by simp,Nat.zero_le _,[],[],rfl,.nil,by simp,fun b z=>by simp at z,.nil,zAi,Sub.upd hl1,?_,by simp⟩,?_⟩
    ·refine (zIX caps (hS.grow hs1)).mono (zAz (Sub.upd hl1) fun b z=>?_);rcases z with (z | z) | z
     ·exact .inl z
     ·rw[z]; exact .inr hl1
     ·simp at z
    rintro i m ys σ1 Hc ⟨rfl,hi,z1,fp,ez,nd,lf,hf,ow,hcl,hs2,hS2,hlen⟩;have hNc:NOk (hidC N l fp) Hc:=fun b z=>by
     rcases z with (z | z) | z
     ·exact (hN1.mono hs2) b z
     ·rw[z,hcl]; simp
     ·exact ow.dom b z
    have hsub:Sub (hid N H1) (hid (hidC N l fp) Hc):=zAz hs2 fun b z=>by
     rcases z with (z | z) | z
     ·exact .inl z
     ·rw[z]; exact .inr hl1
     ·exact .inr (hf b z)
    obtain⟨J1,J2⟩:=hJ (hidC N l fp) Hc hsub hNc i;by_cases hlt:i<ds.length
    ·obtain⟨o,z1',f1,f2,f3⟩:=zCY e3 i ds[i] (by simp[hlt]);rw[ez] at f2;cases f2;obtain⟨Jg,Jy⟩:=J1 ds[i] (by simp[hlt]);refine .inr ⟨Jg,fun ys σ' H'=>∃(z1:List KD) (fp:List Addr),compD (compF G cl (caps.map (capD a)) tg ts x) (ds.take (i+1))=.ok z1/\fp.Nodup/\l∉fp/\(∀b∈fp,H1 b=none) /\
      OwnV W (hid (hidC N l fp) H') H' ys z1 fp/\H' l=some (.lst ys)/\Sub H1 H'/\RelS W (hid (hidC N l fp) H') (caps.map (capD a)) σ'/\σ'.length=caps.length,
      fun ys' σ' H' p'=>⟨ds.length - (i+1),by omega,rfl,hlt,p'⟩,fun v H' hy=>?_⟩
     obtain⟨s3,dx⟩:=Jy v H' hy;unfold compF at f1;cases eb:bindT id (caps.map (capD a)) tg ds[i] with
     | none=>rw[eb] at f1; cases f1
     | some a1=>
      rw[eb] at f1;simp only at f1;have hN3:=hNc.mono s3;refine zOb hK dx (fun j hj=>by rw[hlen]; exact ilt j hj) a0n (hS2.grow s3) eb fun σ2 r1 r0 hl2=>?_;have hlen2:σ2.length=caps.length:=hl2.trans hlen;have takeIt:∀y H4,Sub H' H4->Ip.eval G cl a1 x=.ok y->o=some y->evT W G cl x (fun _ _ _ _=>False) σ2 H4 fun v H5=>∃ys',H5 l=some (.lst ys')/\ys'.length<sizeLine /\
        ∃(z1:List KD) (fp:List Addr),compD (compF G cl (caps.map (capD a)) tg ts x) (ds.take (i+1))=.ok z1/\fp.Nodup/\l∉fp/\(∀b∈fp,H1 b=none) /\
        OwnV W (hid (hidC N l fp) (upd H5 l (.lst (ys'++[v])))) (upd H5 l (.lst (ys'++[v]))) (ys'++[v]) z1 fp/\(upd H5 l (.lst (ys'++[v]))) l=some (.lst (ys'++[v]))/\Sub H1 (upd H5 l (.lst (ys'++[v]))) /\
        RelS W (hid (hidC N l fp) (upd H5 l (.lst (ys'++[v])))) (caps.map (capD a)) σ2/\σ2.length=caps.length:=by
       intro y H4 s4 ey ho;refine⟨hidC N l fp,a1,hN3.mono s4,r1.grow s4,?_⟩;rw[ey];rintro v H5 ⟨s5,fq,nd5,hf5,ow5⟩;have sc5:Sub Hc H5:=(s3.trans s4).trans s5;have l4:H4 l≠none:=by rw[(s3.trans s4) l _ hcl]; simp
       have lq:l∉fq:=fun z=>l4 (hf5 l z);have up:∀b,b≠l->(upd H5 l (.lst (ys++[v]))) b=H5 b:=fun b z=>zAm z;have big:Sub (hid (hidC N l fp) Hc) (hid (hidC N l (fp++fq)) (upd H5 l (.lst (ys++[v])))):=fun b u e=>by
        obtain⟨g1,g2⟩:=zAa.mp e;have bl:b≠l:=fun z=>g1 (.inl (.inr z));refine zAa.mpr ⟨fun z=>?_,by rw[up b bl]; exact sc5 b u g2⟩;rcases z with z | z
        ·exact g1 (.inl z)
        ·rcases zp3 z with z | z
         ·exact g1 (.inr z)
         ·have:=hf5 b z;rw[(s3.trans s4) b u g2] at this;cases this
       refine⟨ys,sc5 l _ hcl,?_,z1++[y],fp++fq,by rw[f3,ho]; rfl,?_,?_,?_,?_,zAi,?_,?_,hlen2⟩
       ·rw[ow.length];have:=zEa ez;rw[List.length_take] at this;have h2:SL<sizeLine:=by decide
        omega
       ·refine List.nodup_append.mpr ⟨nd,nd5,fun b hb c hc z=>?_⟩;subst z;have h1:=ow.dom b hb;cases hq:Hc b with
        | none=>exact h1 hq
        | some u=>
         have:=hf5 b hc;rw[(s3.trans s4) b u hq] at this;cases this
       ·intro z;rcases zp3 z with z | z
        ·exact lf z
        ·exact lq z
       ·intro b z;rcases zp3 z with z | z
        ·exact hf b z
        ·exact (hs2.trans (s3.trans s4)).none (hf5 b z)
       ·refine OwnV.snoc (ow5.mono (fun b u e=>?_) fun b hb u e=>?_) (ow.mono big fun b hb u e=>?_)
        ·obtain⟨g1,g2⟩:=zAa.mp e;have bl:b≠l:=fun z=>g1 (.inl (.inl (.inr z)));refine zAa.mpr ⟨fun z=>?_,by rw[up b bl]; exact g2⟩;rcases z with z | z
         ·exact g1 (.inl (.inl z))
         ·rcases zp3 z with z | z
          ·exact g1 (.inl (.inr z))
          ·exact g1 (.inr z)
        ·rw[up b fun z=>lq (z ▸ hb)]; exact e
        ·rw[up b fun z=>lf (z ▸ hb)]; exact sc5 b u e
       ·intro b u e;rw[up b fun z=>by rw[z,hl1] at e; cases e];exact (hs2.trans sc5) b u e
       ·refine RelS.mono (fun b u e=>?_) r0;obtain⟨g1,g2⟩:=zAa.mp e;have bl:b≠l:=fun z=>g1 (.inl (.inr z));refine zAa.mpr ⟨fun z=>?_,by rw[up b bl]; exact (s4.trans s5) b u g2⟩;rcases z with z | z
        ·exact g1 (.inl z)
        ·rcases zp3 z with z | z
         ·exact g1 (.inr z)
         ·have:=hf5 b z;rw[s4 b u g2] at this;cases this
      match ts,f1 with
      | [],f1=>
       simp only[zAe,Ip.R.bind] at f1;cases ey:Ip.eval G cl a1 x with
       | bad=>rw[ey] at f1; cases f1
       | exc c fs=>rw[ey] at f1; cases f1
       | ok y=>
        rw[ey] at f1;cases f1;have t:=takeIt y H' (Sub.refl _) ey rfl;simp only[tts,tTrue,if_true];exact t
      | [t],f1=>
       simp only[zAe,zAb,Ip.R.bind] at f1;refine⟨hidC N l fp,a1,hN3,r1,?_⟩;cases et:Ip.eval G cl a1 t with
       | bad=>rw[et] at f1; cases f1
       | exc c fs=>rw[et] at f1; cases f1
       | ok tv=>
        obtain⟨kt,tv⟩:=tv;rw[et] at f1;simp only at f1;cases tv <;> simp only[Ip.bIf] at f1 <;> try (cases f1; done)
        rename_i b;intro H4 s4;cases b with
        | true=>
         rw[if_pos rfl];simp only[if_true] at f1;cases ey:Ip.eval G cl a1 x with
         | bad=>rw[ey] at f1; cases f1
         | exc c fs=>rw[ey] at f1; cases f1
         | ok y=>
          rw[ey] at f1;cases f1;exact takeIt y H4 s4 ey rfl
        | false=>
         rw[if_neg (by decide)];simp only[Bool.false_eq_true,if_false] at f1;cases f1;have sc4:Sub Hc H4:=s3.trans s4;exact⟨z1,fp,by rw[f3]; simp,nd,lf,hf,ow.mono (zBf sc4) fun b _ u e=>sc4 b u e,sc4 l _ hcl,hs2.trans sc4,r0.grow s4,hlen2⟩
      | _::_::_,f1=>
       exfalso;obtain⟨us,h1,h2⟩:=zAH f1;simp only[zAb] at h1;obtain⟨u1,_,h1⟩:=zAH h1;obtain⟨u2,h3,h1⟩:=zAH h1;obtain⟨u4,_,h3⟩:=zAH h3;obtain⟨u5,_,h3⟩:=zAH h3;cases h1;cases h3;simp only at h2;cases h2
    ·have e:i=ds.length:=by omega
     subst e;rw[List.take_of_length_le (Nat.le_refl _),e3] at ez;cases ez;obtain⟨fq,nd2,sub,o2⟩:=OwnV.join (N:=fun b=>N b\/b=l) nd (fun b hb z=>z.elim (fun y=>hN1 b y (hf b hb)) fun y=>lf (y ▸ hb)) ow;refine .inl ⟨J2 (zm8 _),h _ _ ⟨hs1.trans hs2,l::fq,List.nodup_cons.mpr ⟨fun z=>lf (sub l z),nd2⟩,fun b z=>?_,l,ys,fq,rfl,hcl,?_,rfl⟩⟩
     ·rcases zp1 z with y | y
      ·rw[y]; exact hs1.none hl1
      ·exact hs1.none (hf b (sub b y))
     ·refine o2.imp fun v d f hf2 ow=>ow.mono (fun b u e=>?_) fun b _ u e=>e;obtain⟨g1,g2⟩:=zAa.mp e;refine zAa.mpr ⟨fun z=>g1 ?_,g2⟩;rcases z with z | z
      ·exact .inl (.inl z)
      ·rcases zp1 z with y | y
       ·exact .inl (.inr y)
       ·exact .inr y
end
def spP (W:Wd)(G:Pg)(n f:Nat):Sp:=fun vs H Q E=>∃(N:Addr->Prop) (xs:List KD),NOk N H/\Dens W (hid N H) vs (xs.map (·.2))/\match Ip.run G n f xs with
 | .ret k d []=>∀v H',Res W H N H' (k,d) v->Q v H'
 | .exc c fs []=>∀e H',ExcR W H N H' c fs e->E (.ref e) none H'
 | _=>False
def spI (W:Wd)(G:Pg)(n f:Nat):Sp:=fun vs H Q E=>∃(N:Addr->Prop) (x0:KD) (xs:List KD) (v0:V) (ws:List V) (f0:List Addr),vs=v0::ws/\NOk N H/\f0.Nodup/\(∀b∈f0,¬N b) /\
 Own W (hid (fun b=>N b\/b∈f0) H) H x0.1 v0 x0.2 f0/\Dens W (hid (fun b=>N b\/b∈f0) H) ws (xs.map (·.2))/\match Ip.run G n f (x0::xs) with
 | .ret k d [y]=>∀v H' (fp:List Addr),Sub (hid (fun b=>b∈f0) H) H'->fp.Nodup->(∀b∈fp,hid (fun b=>b∈f0) H b=none)->Own W (hid (fun b=>N b\/b∈fp) H') H' y.1 v0 y.2 fp->(d=.non->v=.non)->Q v H'
 | .exc c fs _=>∀e H',ExcR W (hid (fun b=>b∈f0) H) N H' c fs e->E (.ref e) none H'
 | _=>False
def spF (W:Wd)(G:Pg)(n f:Nat)(F:Fn):Sp:=fun vs H Q E=>(F.io=[]/\spP W G n f vs H Q E)\/(F.io=[0]/\spI W G n f vs H Q E)
theorem zGs {G:Pg}{n f:Nat}{xs:List KD}{F:Fn}(hF:G.fn f=some F)(h:Ip.run G n f xs≠.bad):xs.length=F.np:=by
 cases n with
 | zero=>exact absurd rfl h
 | succ n=>
  rw[Ip.run,hF] at h;by_cases e:xs.length=F.np
  ·exact e
  ·simp only[if_neg e] at h; exact absurd rfl h
theorem zEq {W:Wd}{G:Pg}{n f:Nat}{F:Fn}(hF:G.fn f=some F){vs:List V}{H:Hp}{Q:VK}{E:XK}(h:spF W G n f F vs H Q E):vs.length=F.np:=by
 rcases h with ⟨_,N,xs,_,d,q⟩ | ⟨_,N,x0,xs,v0,ws,f0,rfl,_,_,_,_,d,q⟩
 ·have:=zGs (xs:=xs) hF (fun z=>by rw[z] at q; exact q);rw[d.length,List.length_map]; exact this
 ·have:=zGs (xs:=x0::xs) hF (fun z=>by rw[z] at q; exact q);rw[List.length_cons,d.length,List.length_map]; simpa using this
section
variable {X:Cx}{W:Wd}{G:Pg}{n:Nat}{E:St->XK}{σ:St}{H:Hp}{Q:VK}
theorem zBB {irs:List Ex}{cl:Nat->List KD->Ip.Run}{Q:List V->Hp->Prop}{N:Addr->Prop}{a:Sl}(hN:NOk N H)(hS:RelS W (hid N H) a σ)
  (ok:∀xs,evals G cl a irs=.ok xs->∀vs H1,Sub H H1->Dens W (hid N H1) vs (xs.map (·.2))->Q vs H1)
  (ex:∀c fs,evals G cl a irs=.exc c fs->∀e H',ExcR W H N H' c fs e->E σ (.ref e) none H')(nb:evals G cl a irs≠.bad):evsT W G cl irs E σ H Q:=by
 refine⟨N,a,hN,hS,?_⟩;cases q:evals G cl a irs with
 | bad=>exact absurd q nb
 | exc c fs=>exact ex c fs q
 | ok xs=>exact fun vs H1 r=>ok xs q vs H1 r.1 (r.dens hN)
noncomputable def dflD (F:Fn)(m:Nat):List D:=F.dfl.drop (F.dfl.length - (F.np - m))
theorem zLf (F:Fn)(xs:List KD):Ip.fill F xs=xs++(dflD F xs.length).map fun d=>(99,d):=rfl
theorem zDq (F:Fn)(xs:List KD):(Ip.fill F xs).map (·.2)=xs.map (·.2)++dflD F xs.length:=by
 rw[zLf,List.map_append,List.map_map];congr 1
 exact List.map_id _
theorem zBS {cl:Nat->List KD->Ip.Run}{a:Sl}{irs:List Ex}{xs:List KD}(h:evals G cl a irs=.ok xs):xs.length=irs.length:=zLk.evals_length h
theorem zCZ {f k:Nat}{F:Fn}(h:callF G f k=some F):G.fn f=some F/\F.io=[]/\k<=F.np/\F.np - k<=F.dfl.length:=by
 unfold callF at h;cases q:G.fn f with
 | none=>rw[q] at h; cases h
 | some F'=>
  rw[q] at h;simp only at h;by_cases c:F'.io=[]/\k<=F'.np/\F'.np - k<=F'.dfl.length
  ·rw[if_pos c] at h; cases h; exact⟨rfl,c⟩
  ·rw[if_neg c] at h; cases h
theorem zCQ {m k f:Nat}{d:D}{F:Fn}(h:methF G m k d=some (f,F)):∃c fs Cl',d=.ins c fs/\G.cl c=some Cl'/\Cl'.meths.lookup m=some f/\G.fn f=some F/\F.io=[]/\fs.lookup m=none/\k+1<=F.np/\F.np - (k+1)<=F.dfl.length:=by
 cases d <;> simp only[methF] at h <;> try (cases h; done)
 rename_i c fs;cases q1:G.cl c with
 | none=>rw[q1] at h; cases h
 | some Cl'=>
  rw[q1] at h;simp only at h;cases q2:Cl'.meths.lookup m with
  | none=>rw[q2] at h; cases h
  | some f'=>
   rw[q2] at h;simp only at h;cases q3:G.fn f' with
   | none=>rw[q3] at h; cases h
   | some F'=>
    rw[q3] at h;simp only at h;by_cases c1:F'.io=[]/\fs.lookup m=none/\k+1<=F'.np/\F'.np - (k+1)<=F'.dfl.length
    ·rw[if_pos c1] at h;cases h;exact⟨c,fs,Cl',rfl,q1,q2,q3,c1⟩
    ·rw[if_neg c1] at h; cases h
theorem zJK {f:Nat}{F:Fn}{es:List Ex}{dvs:List V}(hF:callF G f es.length=some F)(hd:∀S,Dens W S dvs (dflD F es.length))(h:evT W G (Ip.run G n) (.call f es) E σ H Q):tCall (spF W G n f F) dvs E (evsT W G (Ip.run G n) es E) σ H Q:=by
 obtain⟨N,a,hN,hS,h⟩:=h;obtain⟨_,hio,_⟩:=zCZ hF;rw[zBt,hF] at h;simp only[Ip.R.bind] at h;unfold tCall;refine zBB hN hS (fun xs ex vs H1 hs dv=>?_) (fun c fs ee=>?_) fun ee=>?_
 ·rw[ex] at h;simp only at h;refine .inl ⟨hio,N,Ip.fill F xs,hN.mono hs,?_,?_⟩
  ·rw[zDq,zBS ex];exact dv.append (hd _)
  ·cases q:Ip.run G n f (Ip.fill F xs) with
   | bad=>rw[q] at h; exact h
   | ret k d outs=>
    rw[q] at h;cases outs with
    | nil=>exact fun v H' r=>h v H' (r.trans hs)
    | cons _ _=>exact h
   | exc c fs outs=>
    rw[q] at h;cases outs with
    | nil=>exact fun e H' r=>h e H' (r.of_sub hs)
    | cons _ _=>exact h
 ·rw[ee] at h; exact h
 ·rw[ee] at h; exact h
theorem zM5 {m f c:Nat}{C:Addr}{nm:Str}{F:Fn}{io:Ex}{es:List Ex}{dvs:List V}(nd:W.att.Nodup)(hnm:W.att[m]? = some nm)(hC:W.iA c=some C)(hd:∀S,Dens W S dvs (dflD F (es.length+1)))
  {N:Addr->Prop}{a:Sl}{k:Nat}{fs0:List (Nat×D)}(hN:NOk N H)(hS:RelS W (hid N H) a σ)(ho:Ip.eval G (Ip.run G n) a io=.ok (k,.ins c fs0))(hm:methF G m es.length (.ins c fs0)=some (f,F))
  (h:match Ip.eval G (Ip.run G n) a (.meth m io es) with
   | .ok x=>∀v H',Res W H N H' x v->Q v H'
   | .exc c fs=>∀e H',ExcR W H N H' c fs e->E σ (.ref e) none H'
   | .bad=>False):tMeth C nm (spF W G n f F) dvs E (evT W G (Ip.run G n) io E) (evsT W G (Ip.run G n) es E) σ H Q:=by
 obtain⟨_,_,_,e0,_,_,_,hio,hfl,_⟩:=zCQ hm;cases e0;rw[zA3,ho] at h;simp only[Ip.R.bind,hm,Ip.R.of] at h;unfold tMeth;refine⟨N,a,hN,hS,?_⟩;rw[ho];intro v H1 r;have dv:=r.den hN;have hs:=r.1;cases dv with | @ins b C' dx _ fs ds hb hc' hf=>?_
 rw[hC] at hc';cases hc';have hb1:=zAa.mp hb;refine⟨b,dx,fs,rfl,hb1.2,(hf.lookup nd hnm).2 hfl,?_⟩;refine zBB (hN.mono hs) (hS.grow hs) (fun xs ex vs H2 hs2 dv2=>?_) (fun c fs ee e H' r=>?_) fun ee=>?_
 ·rw[ex] at h;simp only at h;refine .inl ⟨hio,N,Ip.fill F ((k,.ins c fs0)::xs),hN.mono (hs.trans hs2),?_,?_⟩
  ·rw[zDq,List.length_cons,zBS ex];exact (Dens.cons ((Den.ins hb hC hf).mono (zBf hs2)) dv2).append (hd _)
  ·cases q2:Ip.run G n f (Ip.fill F ((k,.ins c fs0)::xs)) with
   | bad=>rw[q2] at h; exact h
   | ret k d outs=>
    rw[q2] at h;cases outs with
    | nil=>exact fun v H' r=>h v H' (r.trans (hs.trans hs2))
    | cons _ _=>exact h
   | exc c fs outs=>
    rw[q2] at h;cases outs with
    | nil=>exact fun e H' r=>h e H' (r.of_sub (hs.trans hs2))
    | cons _ _=>exact h
 ·rw[ee] at h;exact h e H' (r.of_sub hs)
 ·rw[ee] at h; exact h
end
structure InsC (K:zFg)(C:Addr):Prop where
 cls:Cls K C
 ha:PySem.W.findIn K (.ref C) "__class__" = some (some (.builtin "object.__class__"))
 hn:PySem.W.specialIn K (.builtin "object.__class__") "__get__" = some (some (.builtin "getset_descriptor.__get__"))
 htk:PySem.W.takesIn K (.builtin "object.__class__")=some true
 hm:PySem.W.mroIn K C (.type "object")=some true
structure CF (W:Wd)(fl:List Nat):Prop where
 nd:W.att.Nodup
 ins:∀c C,W.iA c=some C->InsC W.K C/\∀f n,f∈fl->W.att[f]? = some n->NoAttr W.K C n
 exc:∀c,W.xA c=none
section
variable {X:Cx}{W:Wd}{G:Pg}{cl:Nat->List KD->Ip.Run}{E:St->XK}{fl:List Nat}
theorem zOy {o:Expr}{io:Ex}{k:Nat}{n:Str}{pos:Pos}(hK:W.K=X.K)(cf:CF W fl)(hk:k∈fl)(hn:W.att[k]? = some n)(ho:PE X o (evT W G cl io E))(hb:attributeBase o n X.env (PySem.eval o X.env)=PySem.eval o X.env):PE X (.Attribute o n pos) (evT W G cl (.op (.fld k) [io]) E):=by
 refine (zMy ho hb).mono fun σ H Q hZz=>?_;obtain⟨N,a,hN,hS,q⟩:=hZz;rw[zAl,zAb,zAe] at q;cases e1:Ip.eval G cl a io with
 | bad=>rw[e1] at q; exact q.elim
 | exc c fs=>
  rw[e1] at q;refine⟨N,a,hN,hS,?_⟩;rw[e1]; exact q
 | ok x=>
  obtain⟨kx,d⟩:=x;rw[e1] at q;simp only[Ip.R.bind,Ip.zKP,on1] at q;cases d <;> simp only[Ip.fldD] at q <;> try (exact q.elim)
  ·rename_i c fs;cases e2:fs.lookup k with
   | none=>rw[e2] at q; exact q.elim
   | some d=>
    rw[e2] at q;refine⟨N,a,hN,hS,?_⟩;rw[e1];intro v H1 r;have dv:=r.den hN;cases dv with | @ins b C dx _ vs ds hb hc hf=>?_
    obtain⟨w,l1,dw⟩:=(hf.lookup cf.nd hn).1 d e2;obtain⟨ic,na⟩:=cf.ins c C hc;exact⟨b,C,dx,vs,w,rfl,(zAa.mp hb).2,hK ▸ ic.cls,hK ▸ na k n hk hn,l1,q _ _ (Res.of_den r.1 dw)⟩
  ·rename_i c fs;cases e2:fs.lookup k with
   | none=>rw[e2] at q; exact q.elim
   | some d=>
    rw[e2] at q;refine⟨N,a,hN,hS,?_⟩;rw[e1];intro v H1 r;have dv:=r.den hN;cases dv with | exc hb hc hf=>rw[cf.exc] at hc; cases hc
noncomputable def tyD (W:Wd):D->Option Value
 | .non=>some (.type "NoneType")
 | .bl _=>some (.type "bool")
 | .int _=>some (.type "int")
 | .str _=>some (.type "str")
 | .lst _=>some (.type "list")
 | .tup _=>some (.type "tuple")
 | .ins c _=>(W.iA c).map .ref
 | .exc c _=>(W.xA c).map .ref
theorem zMR {pins:List (Addr×Obj)}{σ:St}{H:Hp}{s:Shared}{A:Around}{E:Value->Shared->Prop}{Q:Value->Shared->Prop}{c:Value}{b:Bool}{x:V}{u t:Value}{d:D}(hK:W.K=X.K)(cf:CF W fl)(I:Inv X pins σ H s)(rx:RelV x u)(hd:Den W H x d)(ht:tyD W d=some t)
  (e:PySem.W.kitOne X.K t c=some b)(h:∀tk,Q (.bool b) { s with toks:=tk }):wpAny (model X.prog X.w) A (call (.builtin "isinstance") [u,c]) Q E s:=by
 cases hd with
 | non=>cases ht; exact zA1 I rx .non e h
 | bl=>cases ht; exact zA1 I rx (.bl _) e h
 | int=>cases ht; exact zA1 I rx (.int _) e h
 | str=>cases ht; exact zA1 I rx (.str _) e h
 | lst h1 h2=>
  cases ht;rcases h1 with h1 | ⟨o,h1⟩
  ·exact zA1 I rx (.lst h1) e h
  ·exact zA1 I rx (.frz h1) e h
 | @tup a vs ds h1 h2=>
  cases ht;cases (show u=Value.ref a from rx);obtain⟨its,_,⟨o,g1,g2,_⟩,_⟩:=I.tuple (hK ▸ h1);exact PySem.W.kia_one PySem.W.kitx_tuple I.kIn ⟨o,g1,g2⟩ e (fun z=>nomatch z) h
 | ins h1 hc _=>
  rw[tyD,hc] at ht;cases ht;obtain⟨ic,_⟩:=cf.ins _ _ hc;exact zA1 I rx (.ins h1 (hK ▸ ic.cls) (hK ▸ ic.ha) (hK ▸ ic.hn) (hK ▸ ic.htk) (hK ▸ ic.hm)) e h
 | exc h1 hc _=>rw[cf.exc] at hc; cases hc
def IsiOk (W:Wd)(G:Pg)(t:Ip.Ty)(cv:Value):Prop:=∀d tv,tyD W d=some tv->PySem.W.kitOne W.K tv cv=some (isTy G d t)
theorem Den.ty {S:Hp}{v:V}{d:D}(h:Den W S v d):∃t,tyD W d=some t:=by
 cases h with
 | ins _ hc _=>exact⟨_,by rw[tyD,hc]; rfl⟩
 | exc _ hc _=>exact⟨_,by rw[tyD,hc]; rfl⟩
 | _=>exact⟨_,rfl⟩
theorem zOx {a b:Expr}{ia:Ex}{t:Ip.Ty}{c:V}{cv:Value}{p pos:Pos}(hK:W.K=X.K)(cf:CF W fl)(hc:valOf c=some cv)(hi:IsiOk W G t cv)(hg:Gl X "isinstance")(hm:X.mg "isinstance" = none)(hv:bootBuiltins "isinstance" = some (.builtin "isinstance"))
  (ha:PE X a (evT W G cl ia E))(hb:PE X b (tC c))(hs1:starEach [a,b] X.env=(false,PySem.eval a X.env)::starEach [b] X.env)(hs2:starEach [b] X.env=(false,PySem.eval b X.env)::starEach [] X.env) :
  PE X (.Call (.Name "isinstance" p) [a,b] [] pos) (evT W G cl (.op (.isi [t]) [ia]) E):=by
 have rule:CallR X (.builtin "isinstance") (fun xs H Q=>∃N x d,NOk N H/\xs=[x,c]/\Den W (hid N H) x d/\Q (.bl ([t].any (isTy G d))) H):=by
  rintro pins s σ H xs us Q I r ⟨N,x,d,hN,e,hd,q⟩;have e1:[t].any (isTy G d)=isTy G d t:=by simp
  rw[e1] at q;subst e;obtain⟨u,v,rfl,ru,rv⟩:=vals2 r;have ev:v=cv:=by
   cases c with
   | ref a=>cases hc; exact rv
   | ty n=>cases hc; exact rv
   | _=>cases hc
  subst ev;obtain⟨tv,et⟩:=hd.ty;exact zMR hK cf I ru (hd.mono zAc) et (hK ▸ hi d tv et) fun tk=>⟨.bl _,H,I.tok _,rfl,q⟩
 refine (zA5 rule hg hm hv (zBn ha (zBn hb zCN hs2) hs1) (by decide) (by decide) hs1 (by rw[hs2]; rfl)).mono fun σ H Q hZz=>?_;obtain⟨N,as,hN,hS,q⟩:=hZz;rw[zAl,zAb,zAe] at q;refine⟨N,as,hN,hS,?_⟩;cases e1:Ip.eval G cl as ia with
 | bad=>rw[e1] at q; exact q.elim
 | exc c fs=>rw[e1] at q; exact q
 | ok x=>
  obtain⟨kx,d⟩:=x;rw[e1] at q;intro v H1 r;exact⟨N,v,d,hN.mono r.1,rfl,r.den hN,q _ _ (Res.of_flat r.1 rfl .bl)⟩
end
section
variable {X:Cx}{W:Wd}{G:Pg}{n:Nat}{E:St->XK}{σ:St}{H:Hp}{Q:VK}
theorem zCR {c k f:Nat}{F:Fn}{d:D}(h:makeF G c k=some (f,F,d)):∃Cl',G.cl c=some Cl'/\Cl'.init=some f/\G.fn f=some F/\(d=if Cl'.isx=true then .exc c [] else .ins c [])/\F.io=[0]/\k+1<=F.np/\F.np - (k+1)<=F.dfl.length/\k<=50:=by
 unfold makeF at h;cases q1:G.cl c with
 | none=>rw[q1] at h; cases h
 | some Cl'=>
  rw[q1] at h;simp only at h;cases q2:Cl'.init with
  | none=>rw[q2] at h; cases h
  | some f'=>
   rw[q2] at h;simp only at h;cases q3:G.fn f' with
   | none=>rw[q3] at h; cases h
   | some F'=>
    rw[q3] at h;simp only at h;by_cases c1:F'.io=[0]/\k+1<=F'.np/\F'.np - (k+1)<=F'.dfl.length/\k<=50
    ·rw[if_pos c1] at h;cases h;exact⟨Cl',rfl,q2,q3,rfl,c1⟩
    ·rw[if_neg c1] at h; cases h
theorem zKY {f:Nat}{F:Fn}{dvs:List V}{xs:List KD}{vs:List V}{N:Addr->Prop}{H1 H2:Hp}{x:Addr}{d0:D}(hio:F.io=[0])(hnp:xs.length+1<=F.np)
  (hd:∀S,Dens W S dvs (dflD F (xs.length+1)))(hN:NOk N H1)(hs:Sub H H1)(dv:Dens W (hid N H1) vs (xs.map (·.2)))(hx:H1 x=none)(h12:∀b,b≠x->∀o,H1 b=some o->H2 b=some o)(h21:∀b,H2 b=none->H1 b=none)
  (ho:Own W (hid (fun b=>N b\/b∈[x]) H2) H2 1 (.ref x) d0 [x])
  (h:match Ip.makeR (Ip.run G n) (f,F,d0) xs with
   | .ok y=>∀v H',Res W H N H' y v->Q v H'
   | .exc c fs=>∀e H',ExcR W H N H' c fs e->E σ (.ref e) none H'
   | .bad=>False):spF W G n f F (.ref x::(vs++dvs)) H2 (fun v H2=>v=.non/\Q (.ref x) H2) (E σ):=by
 simp only[Ip.makeR] at h;have hN2:NOk N H2:=fun b z q=>hN b z (h21 b q);have hxN:¬N x:=fun z=>hN x z hx;have s1:Sub H1 (hid (fun b=>b∈[x]) H2):=fun b o e=>zAa.mpr ⟨(fun z=>by rw[List.mem_singleton.mp z,hx] at e; cases e),h12 b (fun z=>by rw[z,hx] at e; cases e) o e⟩;have none1:∀b,hid (fun b=>b∈[x]) H2 b=none->H1 b=none:=fun b z=>s1.none z;refine .inr ⟨hio,N,(1,d0),Ip.fill { F with np:=F.np - 1 } xs,.ref x,vs++dvs,[x],rfl,hN2,by simp,fun b hb=>by rw[List.mem_singleton.mp hb]; exact hxN,ho,?_,?_⟩
 ·have e:(Ip.fill { F with np:=F.np - 1 } xs).map (·.2)=xs.map (·.2)++dflD F (xs.length+1):=by
   rw[zDq];congr 1
   unfold dflD;show F.dfl.drop (F.dfl.length - (F.np - 1 - xs.length))=_;congr 2
   omega
  rw[e];refine (dv.mono fun b o eb=>?_).append (hd _);obtain⟨g1,g2⟩:=zAa.mp eb;have bx:b≠x:=fun z=>by rw[z,hx] at g2; cases g2
  exact zAa.mpr ⟨fun z=>z.elim g1 fun y=>bx (List.mem_singleton.mp y),h12 b bx o g2⟩
 ·cases q:Ip.run G n f ((1,d0)::Ip.fill { F with np:=F.np - 1 } xs) with
  | bad=>rw[q] at h; exact h
  | exc c fs outs=>
   rw[q] at h;rintro e H' ⟨g1,g2,C,ws,g3,g4,g5⟩;exact h e H' ⟨hs.trans (s1.trans g1),hs.none (none1 e g2),C,ws,g3,g4,g5⟩
  | ret k d outs=>
   rw[q] at h;cases d <;> try (exact h.elim)
   match outs,h with
   | [],h=>exact h.elim
   | _::_::_,h=>exact h.elim
   | [y],h=>
    intro v H' fp g1 nd hf ow hv;exact⟨hv rfl,h _ _ ⟨hs.trans (s1.trans g1),fp,nd,fun b hb=>hs.none (none1 b (hf b hb)),ow⟩⟩
theorem zJJ {c f:Nat}{C:Addr}{F:Fn}{es:List Ex}{dvs:List V}(hC:W.iA c=some C)(hm:makeF G c es.length=some (f,F,.ins c []))(hd:∀S,Dens W S dvs (dflD F (es.length+1)))
  (h:evT W G (Ip.run G n) (.make c es) E σ H Q):tMake C (spF W G n f F) dvs E (evsT W G (Ip.run G n) es E) σ H Q:=by
 obtain⟨N,a,hN,hS,h⟩:=h;obtain⟨_,_,_,_,_,hio,hnp,_⟩:=zCR hm;rw[zBs,hm] at h;simp only[Ip.R.bind] at h;unfold tMake;refine zBB hN hS (fun xs ex vs H1 hs dv=>?_) (fun c fs ee=>?_) fun ee=>?_
 ·rw[ex] at h;intro x dx h1 h2 hne;have hN1:=hN.mono hs;refine zKY (d0:=.ins c []) hio (by rw[zBS ex]; exact hnp) (by rw[zBS ex]; exact hd) hN1 hs dv h1 (fun b nb o e=>?_) (fun b e=>?_) ⟨x,C,dx,[],[],rfl,zAi,hC,.nil,rfl⟩ h
  ·rw[zAm nb,zAm fun z=>by rw[z,h2] at e; cases e]; exact e
  ·by_cases z:b=x
   ·rw[z,zAi] at e; cases e
   ·rw[zAm z] at e;by_cases y:b=dx
    ·rw[y,zAi] at e; cases e
    ·rw[zAm y] at e; exact e
 ·rw[ee] at h; exact h
 ·rw[ee] at h; exact h
end
theorem zC4 {o:Expr}{f:Str}{env:Env}{w:Sem Value}(h:zAv o=true):attributeBase o f env w=w:=by
 unfold attributeBase;unfold zAv at h;split
 ·rename_i heq;simp at h
 ·rfl
theorem zAd {e:Expr}{es:List Expr}(h:noStar (e::es)=true):(∀x p,e≠.Starred x p)/\noStar es=true:=by
 unfold noStar at h ⊢;rw[List.all_cons,Bool.and_eq_true] at h;refine⟨fun x p z=>?_,h.2⟩;rw[z] at h;exact absurd (show false=true from h.1) (by decide)
theorem zAh {e:Expr}{es:List Expr}{env:Env}(h:∀x p,e≠.Starred x p):starEach (e::es) env=(false,PySem.eval e env)::starEach es env:=by
 rcases zC5 e es env with ⟨x,p,z⟩ | q
 ·exact absurd z (h x p)
 ·exact q
theorem zBN {pos:Pos}{env:Env}:∀{es:List Expr},noStar es=true->(backTo pos (starEach es env)).any (·.1)=false
 | [],_=>rfl
 | e::es,h=>by
  obtain⟨h1,h2⟩:=zAd h;rw[zAh h1];show (false||(backTo pos (starEach es env)).any (·.1))=false;rw[zBN h2]; rfl
theorem zCb {pos:Pos}{env:Env}:∀{es:List Expr},noStar es=true->(backTo pos (starEach es env)).all (fun x=>!x.1)=true
 | [],_=>rfl
 | e::es,h=>by
  obtain⟨h1,h2⟩:=zAd h;rw[zAh h1];show (!false&&(backTo pos (starEach es env)).all (fun x=>!x.1))=true;rw[zCb h2]; rfl
theorem zIq {o:Expr}{m:Str}{ap cp:Pos}{args:List Expr}{env:Env}(hs:zAv o=true)(ns:noStar args=true)(hl:args.length<30)(hp:ap.endLine=cp.line) :
  PySem.eval (.Call (.Attribute o m ap) args [] cp) env=(do
   let ov <-PySem.eval o env
   standAt ap.atName
   let (f,first) <-holding [ov] (getMethod ov m (do return (<-importBound o env).getD true))
   callWith cp f first (backTo cp (starEach args env)) (backToKw cp (keywordEach [] env))):=by
 show (do
  let ov <-attributeBase o m env (PySem.eval o env)
  standAt ap.atName
  methodCall o m ap cp env ov (args.length+0) (backTo cp (starEach args env)) (backToKw cp (keywordEach [] env)))=_
 rw[zC4 hs];have few:methodCallForm (args.length+0) (backTo cp (starEach args env)) (backToKw cp (keywordEach [] env))=true:=by
  unfold methodCallForm;rw[zCb ns];show (true&&true&&decide (args.length+0+0<30))=true;rw[decide_eq_true (by omega)]; rfl
 have hpos:methodCallPos true o env ap cp=pure cp:=by
  unfold methodCallPos;rw[if_pos (by rw[hp]; simp)]
 unfold methodCall;rw[few];unfold calleeOf;rw[hpos];rfl
noncomputable def rm (n:Nat):Nat:=3 * n+1
def FI (W:Wd)(G:Pg)(n:Nat)(P:Program)(w:World)(mg:Str->Option Value)(base:Heap)(k:Nat)(F:Fn)(a:Addr):Prop:=
 ∃(fd:FuncData) (ps:List Str),FnOk P w W.K mg base (CXE P w) (rm n) a fd ps (spF W G n k F)/\∀m,m<=F.np->F.np - m<=F.dfl.length->∃(ds:List Value) (dvs:List V),Binds W.K fd ps ds/\Vals dvs ds/\∀S,Dens W S dvs (dflD F m)
noncomputable def bltT:List (Str×Value):=[("len",.builtin "len"),("all",.builtin "all"),("any",.builtin "any"),("isinstance",.builtin "isinstance"),("max",.builtin "max"),("min",.builtin "min"),("sum",.builtin "sum"),("list",.type "list"),("tuple",.type "tuple"),("range",.type "range"),("enumerate",.type "enumerate"),("zip",.type "zip"),("reversed",.type "reversed"),("int",.type "int"),("sorted",.builtin "sorted"),("set",.type "set")]
structure GF (W:Wd)(G:Pg)(T:Tb)(n:Nat)(P:Program)(w:World)(mg:Str->Option Value)(base:Heap):Prop where
 cf:CF W T.fl
 att:W.att=T.att
 blt:∀x v,(x,v)∈bltT->mg x=none/\bootBuiltins x=some v
 cst:∀x d,T.cst.lookup x=some d->(x == ("__debug__" : Str))=false/\∃u v,mg x=some u/\RelV v u/\d.flat=true/\∀S,Den W S v d
 fns:∀x k,T.fns.lookup x=some k->(x == ("__debug__" : Str))=false/\∃F a,G.fn k=some F/\mg x=some (.ref a)/\PySem.W.keepIn W.K (.ref a)=true/\FI W G n P w mg base k F a
 cls:∀x c,T.cls.lookup x=some c->(x == ("__debug__" : Str))=false/\∃C,mg x=some (.ref C)/\∀Cl' f F,G.cl c=some Cl'->Cl'.init=some f->G.fn f=some F ->
  ∃a,FI W G n P w mg base f F a/\Cl'.isx=false/\W.iA c=some C/\Mk W.K C a
 meth:∀c Cl' m f F,G.cl c=some Cl'->Cl'.meths.lookup m=some f->G.fn f=some F->∀nm,W.att[m]? = some nm->∃C a,W.iA c=some C/\Meth W.K C nm a/\FI W G n P w mg base f F a
 isB:∀x t,Ip.tyT.lookup x=some t->mg x=none/\x ≠ "__name__" /\ (x == ("__debug__" : Str))=false/\∃nm,bootBuiltins x=some (.type nm)/\IsiOk W G t (.type nm)
 isC:∀x c,T.cls.lookup x=some c->∃C,mg x=some (.ref C)/\IsiOk W G (.cls c) (.ref C)
structure Gd (W:Wd)(G:Pg)(T:Tb)(n:Nat)(E:St->XK)(sc:Scope)(N:List Str)(X:Cx):Prop where
 gf:GF W G T n X.prog X.w X.mg X.base
 K:W.K=X.K
 vis:∀x,isVis sc x=true->Vis X.env.scope x
 loc:∀x,isLoc sc x=true->Loc X.env.scope x/\(X.fn x=true\/X.env.scope.names.lookup x=some .local)
 gl:∀x,isGl sc x=true->Gl X x
 fr:∀x,(sc.names.lookup x=some .cell\/sc.names.lookup x=some .free)->(X.env.scope.names.lookup x=some .cell\/X.env.scope.names.lookup x=some .free)
 nm:X.N=N
 nd:N.Nodup
 calm:X.calm=true
 pass:Passes (CXE X.prog X.w) X E
 room:Room (rm n+1) X.A
theorem zEt {scope:Scope}{env:Env}{x:Str}{k:NameKind}(h:scope.names.lookup x=some k):(relabel scope env).names.lookup x=some k\/(k=.free/\(relabel scope env).names.lookup x=some .cell):=by
 have go:∀(g:Str×NameKind->Str×NameKind),(∀p,g p=p\/(p.2=.free/\g p=(p.1,.cell)))->∀(names:List (Str×NameKind)),names.lookup x=some k->(names.map g).lookup x=some k\/(k=.free/\(names.map g).lookup x=some .cell):=by
  intro g hg names;induction names with
  | nil=>intro h; exact nomatch h
  | cons p r ih=>
   intro h;rw[List.map_cons];obtain⟨n,kn⟩:=p;rw[List.lookup_cons] at h;rcases hg (n,kn) with e | ⟨e1,e2⟩
   ·rw[e,List.lookup_cons];cases hx:x == n with
    | true=>rw[hx] at h; exact .inl h
    | false=>rw[hx] at h; exact ih h
   ·rw[e2,List.lookup_cons];cases hx:x == n with
    | true=>
     rw[hx] at h;have e1':kn=.free:=e1;exact .inr ⟨by rw[<-Option.some.inj h]; exact e1',rfl⟩
    | false=>rw[hx] at h; exact ih h
 refine go _ (fun p=>?_) scope.names h;obtain⟨n,k⟩:=p;by_cases hb:(k == NameKind.free&&env.scope.kind == .function&&env.kindOf n == some .cell)=true
 ·refine .inr ⟨?_,if_pos hb⟩;simp only[Bool.and_eq_true,beq_iff_eq] at hb;exact hb.1.1
 ·exact .inl (if_neg hb)
theorem Gd.block {W:Wd}{G:Pg}{T:Tb}{n:Nat}{E:St->XK}{sc:Scope}{N:List Str}{X:Cx}(g:Gd W G T n E sc N X){scope:Scope}(hb:compB sc N (blockN scope) (blockC N scope) scope=true)(cl:List (Str×Addr))(C:Addr)(s:Shared)(H:Hp)(fp:List Addr) :
  Gd W G T n (fun _ _ _ _=>False) scope (blockN scope) (cxComp X (blockN scope) scope cl C s H fp fun _ _=>False):=by
 have S:=CompS.of (show compOk sc N (blockN scope) (blockC N scope) scope=true from hb);have look:∀x k,scope.names.lookup x=some k->(relabel scope X.env).names.lookup x=some k\/(k=.free/\(relabel scope X.env).names.lookup x=some .cell):=fun x k=>zEt;refine⟨g.gf,g.K,fun x h=>?_,fun x h=>?_,fun x h=>?_,fun x h=>?_,rfl,S.nd,g.calm,passN,g.room⟩
 ·unfold isVis at h;simp only[Bool.or_eq_true,beq_iff_eq] at h;rcases h with (h | h) | h
  ·rcases look x _ h with q | ⟨q,_⟩
   ·exact .inl q
   ·cases q
  ·rcases look x _ h with q | ⟨q,_⟩
   ·exact .inr (.inl q)
   ·cases q
  ·rcases look x _ h with q | ⟨_,q⟩
   ·exact .inr (.inr q)
   ·exact .inr (.inl q)
 ·unfold isLoc at h;simp only[Bool.or_eq_true,beq_iff_eq] at h;rcases h with h | h
  ·rcases look x _ h with q | ⟨q,_⟩
   ·exact⟨.inl q,.inr q⟩
   ·cases q
  ·rcases look x _ h with q | ⟨q,_⟩
   ·exact⟨.inr q,.inl (by show (scope.names.lookup x == some NameKind.cell)=true; rw[h]; decide)⟩
   ·cases q
 ·unfold isGl at h;simp only[beq_iff_eq] at h;rcases look x _ h with q | ⟨q,_⟩
  ·exact q
  ·cases q
 ·rcases h with h | h
  ·rcases look x _ h with q | ⟨q,_⟩
   ·exact .inl q
   ·cases q
  ·rcases look x _ h with q | ⟨_,q⟩
   ·exact .inr q
   ·exact .inl q
theorem Gd.compOk {W:Wd}{G:Pg}{T:Tb}{n:Nat}{E:St->XK}{sc:Scope}{N:List Str}{X:Cx}(g:Gd W G T n E sc N X){scope:Scope}(hb:compB sc N (blockN scope) (blockC N scope) scope=true) :
  L2.compOk X.env.scope X.N (blockN scope) (blockC N scope) scope=true:=by
 rw[g.nm];unfold compB at hb;unfold L2.compOk;simp only[Bool.and_eq_true,List.all_eq_true] at hb ⊢;obtain⟨⟨⟨⟨h1,h2⟩,h3⟩,h4⟩,h5⟩:=hb;refine⟨⟨⟨⟨h1,fun y hy=>?_⟩,h3⟩,h4⟩,h5⟩;obtain⟨⟨a1,a2⟩,a3⟩:=h2 y hy;refine⟨⟨a1,a2⟩,?_⟩;simp only[Bool.or_eq_true,bne_iff_ne,ne_eq,beq_iff_eq] at a3 ⊢;rcases a3 with a3 | a3
 ·exact .inl a3
 ·exact .inr (g.fr y.1 a3)
section
variable {X:Cx}{W:Wd}{G:Pg}{T:Tb}{n:Nat}{E:St->XK}{σ:St}{H:Hp}{sc:Scope}{N:List Str}
theorem zHb (d:D):(∃i,d=.int i)\/∀i,d≠.int i:=by
 cases d with
 | int i=>exact .inl ⟨i,rfl⟩
 | _=>exact .inr fun i z=>by cases z
theorem zM4 {cl:Nat->List KD->Ip.Run}{o:Op}{x y:Ex}{Q:VK}{lo hi:Int->Option Int}(ho:∀u v:KD,opD G o [u,v]=match v.2 with | .int i=>cutOp (lo i) (hi i) u.2 | _=>none)(h:evT W G cl (.op o [x,y]) E σ H Q) :
  evT W G cl x E σ H fun v H1=>evT W G cl y E σ H1 fun w H2=>∃i,w=.int i/\rCut W v (lo i) (hi i) H2 Q:=by
 obtain⟨N,a,hN,hS,h⟩:=h;refine zAO hN hS (fun u eu v H1 fp hs nd hf ow hN1 hS1=>?_) (fun c fs ee=>?_) fun ee=>?_
 ·refine zAO hN1 hS1 (fun u2 eu2 w H2 fq hs2 nd2 hf2 ow2 hN2 hS2=>?_) (fun c fs ee e H' r=>?_) fun ee=>?_
  ·simp only[zAl,zAe,zAb,eu,eu2,Ip.R.bind,ho] at h;have dv:=ow.later hN hs2 hf fun _ y=>y;have dw:=ow2.later (hN.mono hs) (Sub.refl _) hf2 fun _ y=>.inl y;obtain⟨k2,d2⟩:=u2;rcases zHb d2 with ⟨i,rfl⟩ | ni
   ·simp only at h;cases q:cutOp (lo i) (hi i) u.2 with
    | none=>rw[q] at h; exact h.elim
    | some z=>
     rw[q] at h;exact⟨i,dw.int_inv,N,u.2,z,hN.mono (hs.trans hs2),dv,q,fun v H' r=>h v H' (r.trans (hs.trans hs2))⟩
   ·cases d2 <;> first | exact h.elim | exact absurd rfl (ni _)
  ·simp only[zAl,zAb,eu,ee,Ip.R.bind] at h;exact h e H' (r.trans hs fun _ y=>.inl y)
  ·simp only[zAl,zAb,eu,ee,Ip.R.bind] at h
 ·simp only[zAl,zAb,ee,Ip.R.bind] at h;exact h
 ·simp only[zAl,zAb,ee,Ip.R.bind] at h
theorem zOf {cl:Nat->List KD->Ip.Run}{x y z:Ex}{Q:VK}(h:evT W G cl (.sl2 x y z) E σ H Q) :
  evT W G cl x E σ H fun v H1=>evT W G cl y E σ H1 fun w H2=>∃i,w=.int i/\evT W G cl z E σ H2 fun u H3=>∃j,u=.int j/\rCut W v (some i) (some j) H3 Q:=by
 obtain⟨N,a,hN,hS,h⟩:=h;rw[Ip.zDs] at h;refine zAO hN hS (fun u eu v H1 fp hs nd hf ow hN1 hS1=>?_) (fun c fs ee=>?_) fun ee=>?_
 ·refine zAO hN1 hS1 (fun u2 eu2 w H2 fq hs2 nd2 hf2 ow2 hN2 hS2=>?_) (fun c fs ee e H' r=>?_) fun ee=>?_
  ·have dw:=ow2.later (hN.mono hs) (Sub.refl _) hf2 fun _ y=>.inl y;obtain⟨k2,d2⟩:=u2;simp only[eu,eu2,Ip.R.bind] at h;rcases zHb d2 with ⟨i,rfl⟩ | ni
   ·refine⟨i,dw.int_inv,?_⟩;have hs3:=hs.trans hs2;simp only at h;refine zAO (hN.mono hs3) (hS.grow hs3) (fun u3 eu3 w3 H3 fr hs4 nd4 hf4 ow4 hN4 hS4=>?_) (fun c fs ee e H' r=>?_) fun ee=>?_
    ·have dv:=ow.later hN (hs2.trans hs4) hf fun _ y=>y;have dz:=ow4.later (hN.mono hs3) (Sub.refl _) hf4 fun _ y=>y;obtain⟨k3,d3⟩:=u3;simp only[eu3] at h;rcases zHb d3 with ⟨j,rfl⟩ | nj
     ·simp only[Ip.sl2D] at h;cases q:cutOp (some i) (some j) u.2 with
      | none=>rw[q] at h; exact h.elim
      | some t=>
       rw[q] at h;exact⟨j,dz.int_inv,N,u.2,t,hN.mono (hs3.trans hs4),dv,q,fun v H' r=>h v H' (r.trans (hs3.trans hs4))⟩
     ·cases d3 <;> first | exact h.elim | exact absurd rfl (nj _)
    ·simp only[ee] at h;exact h e H' (r.of_sub hs3)
    ·simp only[ee] at h
   ·cases d2 <;> first | exact h.elim | exact absurd rfl (ni _)
  ·simp only[eu,ee,Ip.R.bind] at h;exact h e H' (r.trans hs fun _ y=>.inl y)
  ·simp only[eu,ee,Ip.R.bind] at h
 ·simp only[ee,Ip.R.bind] at h;exact h
 ·simp only[ee,Ip.R.bind] at h
theorem Dens.find {S:Hp}{x:V}{d:D}(hx:Den W S x d)(sx:d.scal=true):∀{vs:List V} {ds:List D},Dens W S vs ds->ds.all D.scal=true->(vs.findIdx? fun z=>L2.eqV z x)=d.find ds
 | _,_,.nil,_=>rfl
 | _,_,.cons h q,hs=>by
  rw[List.all_cons,Bool.and_eq_true] at hs;have e:=q.find hx sx hs.2;unfold D.find at e ⊢;rw[List.findIdx?_cons,List.findIdx?_cons,h.eqV hx hs.1 sx,e]
theorem zOh {cl:Nat->List KD->Ip.Run}{x y:Ex}{Q:VK}(hK:W.K=X.K)(nox:∀a c fs,Ip.eval G cl a y≠.exc c fs)(h:evT W G cl (.op .index [x,y]) E σ H Q):tBM X.K "tuple" (rIdxT X.K) (evT W G cl x E) (evsT W G cl [y] E) σ H Q:=by
 obtain⟨N,a,hN,hS,h⟩:=h;unfold tBM;refine zAO hN hS (fun u eu v H1 fp hs nd hf ow hN1 hS1=>?_) (fun c fs ee=>?_) fun ee=>?_
 ·cases q:Ip.eval G cl a y with
  | bad=>simp only[zAl,zAb,eu,q,Ip.R.bind] at h
  | exc c fs=>exact absurd q (nox a c fs)
  | ok u2=>
   simp only[zAl,zAe,zAb,eu,q,Ip.R.bind,Ip.zGS,on2] at h;cases hz:Ip.indexD u.2 u2.2 with
   | none=>rw[hz] at h; exact h.elim
   | some z=>
    rw[hz] at h;obtain⟨xs,ex⟩:=Ip.zEG hz;have dv:=ow.later hN (Sub.refl _) hf fun _ y=>y;rw[ex] at dv hz;cases dv with | @tup l ws _ h1 h2=>?_
    have sq:SqT X.K H1 l ws:=hK ▸ SqT.sub zAc h1;refine⟨.inr (.inl ⟨rfl,ws,sq⟩),zBB (hN.mono hs) (hS.grow hs) (fun zs ez vs H2 hs2 dz=>?_) (fun c fs ee=>?_) fun ee=>?_⟩
    ·simp only[zAe,zAb,q,Ip.R.bind] at ez;cases ez;obtain⟨w,rfl,dw⟩:=Dens.one dz;rw[Ip.zBy] at hz;split at hz
     ·rename_i hp;rw[Bool.and_eq_true] at hp;have h2':=h2.mono (zBf (N:=N) hs2);have fi:=Dens.find dw hp.1 h2' hp.2;cases hj:u2.2.find xs with
      | none=>rw[hj] at hz; cases hz
      | some j=>
       rw[hj] at hz;cases hz;exact⟨l,ws,w,j,rfl,rfl,SqT.sub hs2 sq,dw.flatV hp.1,h2'.flatV hp.2,fi.trans hj,h _ _ (Res.trans (hs.trans hs2) Res.int)⟩
     ·cases hz
    ·simp only[zAe,zAb,q,Ip.R.bind] at ee;cases ee
    ·simp only[zAe,zAb,q,Ip.R.bind] at ee;cases ee
 ·simp only[zAl,zAb,ee,Ip.R.bind] at h;exact h
 ·simp only[zAl,zAb,ee,Ip.R.bind] at h
theorem zD7 {cl:Nat->List KD->Ip.Run}{o:Op}{x:Ex}{Q:VK}(h:evT W G cl (.op o [x]) E σ H Q):tCB (fun vs=>rD W G o vs) (evsT W G cl [x] E) σ H Q:=by
 obtain⟨N,a,hN,hS,h⟩:=h;rw[zAl] at h;unfold tCB;refine zBB hN hS (fun xs ex vs H1 hs dv=>?_) (fun c fs ee=>?_) fun ee=>?_
 ·rw[ex] at h;simp only[Ip.R.bind] at h;cases q:opD G o xs with
  | none=>rw[q] at h; exact h.elim
  | some z=>
   rw[q] at h;exact⟨N,xs,z,hN.mono hs,dv,q,fun v H' r=>h v H' (r.trans hs)⟩
 ·rw[ee] at h; exact h
 ·rw[ee] at h; exact h
theorem zM6 {cl:Nat->List KD->Ip.Run}{o:Op}{x y:Ex}{Q:VK}(h:evT W G cl (.op o [x,y]) E σ H Q):tCB (fun vs=>rD W G o vs) (evsT W G cl [x,y] E) σ H Q:=by
 obtain⟨N,a,hN,hS,h⟩:=h;rw[zAl] at h;unfold tCB;refine zBB hN hS (fun xs ex vs H1 hs dv=>?_) (fun c fs ee=>?_) fun ee=>?_
 ·rw[ex] at h;simp only[Ip.R.bind] at h;cases q:opD G o xs with
  | none=>rw[q] at h; exact h.elim
  | some z=>
   rw[q] at h;exact⟨N,xs,z,hN.mono hs,dv,q,fun v H' r=>h v H' (r.trans hs)⟩
 ·rw[ee] at h; exact h
 ·rw[ee] at h; exact h
theorem zNb (hc:X.calm=true):CallR X (.builtin "max") (fun xs=>rD W G .max2 xs):=(zHx hc).imp fun vs H Q ⟨N,xs,z,hN,hd,hz,hq⟩=>by
 rw[Ip.zIj] at hz;cases xs with
 | nil=>cases hz
 | cons x r=>
  cases r with
  | nil=>cases hz
  | cons y t=>
   cases t with
   | cons _ _=>cases hz
   | nil=>
    obtain⟨k,d⟩:=x;obtain⟨l,e⟩:=y;simp only[on2] at hz;cases d <;> first | (cases hz; done) | skip
    cases e <;> first | (cases hz; done) | skip
    rename_i i j;simp only[num2] at hz;obtain⟨v,w,rfl,h1,h2⟩:=Dens.two hd;have e1:=h1.int_inv;have e2:=h2.int_inv;subst e1 e2;cases hz;exact⟨i,j,rfl,hq _ _ Res.int⟩
theorem zNa (hc:X.calm=true):CallR X (.builtin "min") (fun xs=>rD W G .min2 xs):=(zHw hc).imp fun vs H Q ⟨N,xs,z,hN,hd,hz,hq⟩=>by
 rw[Ip.zIi] at hz;cases xs with
 | nil=>cases hz
 | cons x r=>
  cases r with
  | nil=>cases hz
  | cons y t=>
   cases t with
   | cons _ _=>cases hz
   | nil=>
    obtain⟨k,d⟩:=x;obtain⟨l,e⟩:=y;simp only[on2] at hz;cases d <;> first | (cases hz; done) | skip
    cases e <;> first | (cases hz; done) | skip
    rename_i i j;simp only[num2] at hz;obtain⟨v,w,rfl,h1,h2⟩:=Dens.two hd;have e1:=h1.int_inv;have e2:=h2.int_inv;subst e1 e2;cases hz;exact⟨i,j,rfl,hq _ _ Res.int⟩
theorem Vals.nums:∀{is:List Int} {us:List Value},Vals (is.map V.int) us->∃ps:List (Int×Tok),us=ps.map (fun p=>.int p.1 p.2)/\ps.map (·.1)=is
 | [],us,r=>by cases r; exact⟨[],rfl,rfl⟩
 | i::is,us,r=>by
  cases r with
  | cons h q=>
   obtain⟨t,rfl⟩:=h;obtain⟨ps,rfl,e⟩:=Vals.nums q;exact⟨(i,t)::ps,rfl,by rw[List.map_cons,e]⟩
theorem zEF:∀{ds:List D} {is:List Int},intsD ds=some is->ds=is.map .int
 | [],is,h=>by cases h; rfl
 | d::ds,is,h=>by
  cases d with
  | int i=>
   obtain⟨js,h1,rfl⟩:=zp5 (show (intsD ds).map (fun is=>i::is)=some is from h);rw[zEF h1]; rfl
  | _=>cases h
theorem Dens.nums {S:Hp}:∀{is:List Int} {ws:List V},Dens W S ws (is.map .int)->ws=is.map .int
 | [],_,.nil=>rfl
 | i::is,_,.cons h q=>by rw[h.int_inv,Dens.nums q]; rfl
theorem zEy {xs:Array (Int×Tok)}{is:List Int}(h:xs.toList.map (·.1)=is):∀k,k<=is.length->preSum (numAt xs) k=(is.take k).sum:=by
 have na:∀j,numAt xs j=(is[j]?).getD 0:=fun j=>by
  rw[<-h];simp[numAt]
 intro k;induction k with
 | zero=>intro _; simp[preSum]
 | succ k ih=>
  intro hk;have e1:is.take (k+1)=is.take k++[is[k]'(by omega)]:=List.take_succ_eq_append_getElem (by omega);have e2:numAt xs k=is[k]'(by omega):=by rw[na]; simp[show k<is.length by omega]
  rw[preSum,ih (by omega),e2,e1,List.sum_append];simp
theorem zJb:∀is:List Int,(∀i∈is,0<=i/\i<=10000000)->0<=is.sum/\is.sum<=10000000 * is.length
 | [],_=>by simp
 | i::is,h=>by
  have h1:=h i zm2;have ih:=zJb is fun j hj=>h j (zm1 _ hj);rw[List.sum_cons,List.length_cons];omega
theorem zM7 (hc:X.calm=true):CallR X (.builtin "sum") (fun xs H Q=>∃(a:Addr) (is:List Int) (S:Hp),xs=[.ref a]/\Sub S H/\Den W S (.ref a) (.lst (is.map .int))/\(∀i∈is,0<=i/\i<=10000000)/\is.length<=1000/\Q (.int is.sum) H):=by
 rintro pins s σ H vs us Q I rs ⟨a,is,S,e,hS,dv,hb,hz,q⟩;subst e;obtain⟨u,rfl,ru⟩:=rs.one;cases ru;cases dv with | @lst l ws _ h1 h2=>?_
 have e2:=h2.nums;subst e2;obtain⟨_,its,n,rv,hlen,eo⟩:=I.rdL (Rd.sub hS h1);obtain⟨ps,rfl,e3⟩:=rv.nums;have hl:s.heap.IsList a (intItems ps.toArray):=⟨_,eo,rfl,n,by simp[intItems]⟩
 have hl3:ps.length=is.length:=by rw[<-List.length_map (·.1),e3]
 have pt:=zEy (xs:=ps.toArray) (is:=is) (by simpa using e3);refine sum_intList (I.ok.hd hc) hl (fun j hj=>?_) fun h' tk t' kp=>?_
 ·have hj':j<is.length:=by simpa[hl3] using hj
  have e4:numAt ps.toArray j=is[j]:=by
   rw[<-show (is[j]?).getD 0=is[j] by simp[hj'],<-e3];simp[numAt]
  have b1:=hb is[j] (List.getElem_mem hj');have b2:=zJb (is.take (j+1)) fun i hi=>hb i (List.mem_of_mem_take hi);have b3:((is.take (j+1)).length:Int)<=1000:=by rw[List.length_take]; omega
  rw[e4,pt (j+1) (by omega)];unfold InLong;omega
 ·have sz:ps.toArray.size=is.length:=by simp[hl3]
  rw[sz,pt is.length (Nat.le_refl _),List.take_length];exact⟨.int is.sum,H,I.kept (t':=tk) kp,⟨_,rfl⟩,q⟩
theorem zOm (hc:X.calm=true):CallR X (.builtin "sum") (fun xs=>rD W G .sum xs):=(zM7 (W:=W) hc).imp fun vs H Q ⟨N,xs,z,hN,hd,hz,hq⟩=>by
 rw[Ip.zKH] at hz;obtain⟨v,p,rfl,rfl,dv,ez⟩:=hd.vs1 (o:=.sum) hz;obtain⟨ds,e1,e2⟩:=zBP ez;rw[e1] at dv;obtain⟨is,e3,e4⟩:=zp4 (show (intsD ds).bind _=some z from e2);split at e4
 ·rename_i hl;cases e4;rw[zEF e3] at dv;cases dv with | @lst a ws _ h1 h2=>?_
  exact⟨a,is,_,rfl,zAc,.lst h1 h2,fun i hi=>by simpa using zp7 hl.1 i hi,hl.2,hq _ _ Res.int⟩
 ·cases e4
theorem zMn {S H:Hp}{v:V}{d:D}{p:Int×Int}(hK:W.K=X.K)(hs:Sub S H)(h:Den W S v d)(e:Ip.prD d=some p):PrV X.K H v p:=by
 cases h <;> first | (cases e; done) | skip
 rename_i l ws xs h1 h2;obtain⟨is,e1,e2⟩:=zp4 (show (intsD xs).bind Ip.pr2=some p from e);obtain⟨i,j,rfl⟩:∃i j,is=[i,j]:=by
  match is,e2 with
  | [i,j],_=>exact⟨i,j,rfl⟩
 cases e2;rw[zEF e1] at h2;have e3:=h2.nums;subst e3;exact⟨l,rfl,hK ▸ SqT.sub hs h1⟩
theorem zGD {S H:Hp}(hK:W.K=X.K)(hs:Sub S H):∀{vs:List V} {ds:List D} {ps:List (Int×Int)},Dens W S vs ds->prsD ds=some ps->Paired (PrV X.K H) vs ps
 | _,_,_,.nil,e=>by cases e; exact .nil
 | _,_,_,.cons h q,e=>by
  obtain⟨p,e1,e2⟩:=zp4 e;obtain⟨ps,e3,rfl⟩:=zp5 e2;exact .cons (zMn hK hs h e1) (zGD hK hs q e3)
theorem zHS {S:Hp}{ws:List V}{ds:List D}{c:Nat->Nat->Bool}(h:Dens W S ws ds):Dens W S (sot .non c ws) (sot .non c ds):=by
 have key:∀l:List Nat,Dens W S (l.map fun i=>ws.getD i .non) (l.map fun i=>ds.getD i .non):=fun l=>by
  induction l with
  | nil=>exact .nil
  | cons i l ih=>
   refine .cons (show Den W S (ws.getD i .non) (ds.getD i .non) from ?_) ih;cases e:ds[i]? with
   | none=>
    have e2:ws[i]? = none:=by
     rw[List.getElem?_eq_none_iff] at e ⊢;rw[h.length]; exact e
    rw[List.getD_eq_getElem?_getD,List.getD_eq_getElem?_getD,e,e2];exact .non
   | some d=>
    obtain⟨v,e1,e2⟩:=h.get e;rw[List.getD_eq_getElem?_getD,List.getD_eq_getElem?_getD,e,e1];exact e2
 unfold sot;rw[h.length];split
 ·exact h
 ·exact key _
theorem zOo (hK:W.K=X.K):CallR X (.builtin "sorted") (fun xs=>rD W G .srt xs):=zF0.imp fun vs H Q ⟨N,xs,z,hN,hd,hz,hq⟩=>by
 rw[Ip.zKI] at hz;obtain⟨v,p,rfl,rfl,dv,ez⟩:=hd.vs1 (o:=.srt) hz;obtain⟨ds,e1,e2⟩:=zBP ez;rw[e1] at dv;obtain⟨ps,e3,e4⟩:=zp4 (show (prsD ds).bind _=some z from e2);split at e4
 ·rename_i hl;cases e4;cases dv with | @lst a ws _ h1 h2=>?_
  exact⟨a,ws,ps,rfl,.inl (Rd.sub zAc h1),zGD hK zAc h2 e3,by rw[h2.length]; exact hl,fun q hp=>hq _ _ (Res.newL hp (zHS h2))⟩
 ·cases e4
theorem zEM (T:Tb)(sc:Scope)(N:List Str)(m:Nat)(x:Expr)(p:Pos):cE T sc N m (.Starred x p)=.bad:=by
 cases m <;> rfl
theorem zDV {α:Type}{x:Str}{v:α}:∀{l:List (Str×α)},l.lookup x=some v->(x,v)∈l
 | [],h=>nomatch h
 | (y,j)::r,h=>by
  rw[List.lookup_cons] at h;cases e:x == y with
  | true=>
   rw[e] at h;rw[beq_iff_eq] at e;cases h;rw[e];exact zm2
  | false=>rw[e] at h; exact zm1 _ (zDV h)
theorem zJo (g:Gd W G T n E sc N X):∀{es:List Expr} {is:List Nat},(es.mapM fun (e:Expr)=>match e with
  | .Name x _=>if isLoc sc x then pos? x N else none
  | _=>none)=some is->PGs X es (gTs is)/\(assignEach es X.env).length=is.length/\(assignEach es X.env).findIdx? (·.1)=none
 | [],is,h=>by
  cases h;exact⟨zKw,rfl,rfl⟩
 | e::es,is,h=>by
  rw[List.mapM_cons] at h;cases e with
  | Name x p=>
   by_cases hl:isLoc sc x=true
   ·simp only[hl,if_true] at h;cases q:pos? x N with
    | none=>rw[q] at h; cases h
    | some i=>
     rw[q] at h;cases q2:(es.mapM fun (e:Expr)=>match e with
       | .Name x _=>if isLoc sc x then pos? x N else none
       | _=>none) with
     | none=>simp[q2] at h
     | some js=>
      simp[q2] at h;subst h;obtain⟨h1,h2,h3⟩:=zJo g q2;obtain⟨l1,l2⟩:=g.loc x hl;have hi:X.N[i]? = some x:=by rw[g.nm]; exact pos?_get q
      refine⟨zH7 (zEA (by rw[g.nm]; exact g.nd) hi l1 l2) h1 rfl,?_,?_⟩
      ·show (assignEach es X.env).length+1=js.length+1;rw[h2]
      ·show List.findIdx? _ ((false,_)::assignEach es X.env)=none;rw[List.findIdx?_cons,h3];rfl
   ·simp only[hl] at h;cases h
  | _=>cases h
theorem zH8 (g:Gd W G T n E sc N X){tg:Expr}{t:Tg}(h:tgOf sc N tg=some t):PG X tg (gT X.K t):=by
 cases tg with
 | Name x p=>
  simp only[Ip.zDE] at h;by_cases hl:isLoc sc x=true
  ·rw[if_pos hl] at h;obtain⟨i,q,rfl⟩:=zp5 h;obtain⟨l1,l2⟩:=g.loc x hl;exact zEA (by rw[g.nm]; exact g.nd) (by rw[g.nm]; exact pos?_get q) l1 l2
  ·rw[if_neg hl] at h; cases h
 | Tuple es k p=>
  simp only[Ip.zFG] at h;obtain⟨is,q,rfl⟩:=zp5 h;obtain⟨h1,h2,h3⟩:=zJo g q;exact fun pins s σ H v u Q I r hw=>hw.elim (zMr g.calm h1 h2 h3 pins s σ H v u Q I r) (zMs g.calm h1 h2 h3 pins s σ H v u Q I r)
 | _=>cases h
end
section
variable {W:Wd}{G:Pg}{T:Tb}{n:Nat}
structure IH (W:Wd)(G:Pg)(T:Tb)(n m:Nat):Prop where
 e:∀{E:St->XK} {sc:Scope} {N:List Str} {X:Cx},Gd W G T n E sc N X->∀x,PE X x (evT W G (Ip.run G n) (cE T sc N m x) E)
 t:∀{E:St->XK} {sc:Scope} {N:List Str} {X:Cx},Gd W G T n E sc N X->∀x,PT X x (evTb W G (Ip.run G n) (cT T sc N m x) E)
 c:∀{E:St->XK} {sc:Scope} {N:List Str} {X:Cx},Gd W G T n E sc N X->∀a os bs p,PT X (.Compare a os bs p) (evTb W G (Ip.run G n) (cE T sc N m (.Compare a os bs p)) E)
 i:∀{E:St->XK} {sc:Scope} {N:List Str} {X:Cx},Gd W G T n E sc N X->∀tg x,((cI T sc N m x).1=.enum\/(cI T sc N m x).1=.zip->∃es k p,tg=.Tuple es k p)->PI X tg x (piT W G (Ip.run G n) (cI T sc N m x).1 (cI T sc N m x).2 E)
 b:∀{E:St->XK} {sc:Scope} {N:List Str} {X:Cx},Gd W G T n E sc N X->∀f args p pos,isGl sc f=true->PE X (.Call (.Name f p) args [] pos) (evT W G (Ip.run G n) (cB T sc N m f args) E)
variable {m:Nat}{E:St->XK}{sc:Scope}{N:List Str}{X:Cx}
theorem IH.args (ih:IH W G T n m)(g:Gd W G T n E sc N X)(es:List Expr):PA X es (evsT W G (Ip.run G n) (es.map (cE T sc N m)) E):=
 zJu (fun e _=>ih.e g e) fun e _ x p h=>by rw[h]; exact zEM T sc N m x p
theorem Gd.units (g:Gd W G T n E sc N X):X.A.units+64<cLine:=g.room.units
theorem zBH {tg x:Expr}:PI X tg x (piT W G (Ip.run G n) .seq [.bad] E):=fun pins s σ H R I ⟨_,_,_,_,q⟩=>by
 rw[zAb,zAr] at q;exact q.elim
theorem zAS {x:Expr}:PT X x (evTb W G (Ip.run G n) .bad E):=fun pins s σ H R I ⟨_,_,_,_,q⟩=>by
 rw[zAr] at q;exact q.elim
theorem zNn (g:Gd W G T n E sc N X)(x:Str)(p:Pos):PE X (.Name x p) (evT W G (Ip.run G n) (cE T sc N (m+1) (.Name x p)) E):=by
 rw[Ip.zHC];by_cases h1:(isVis sc x&&Ip.okName x)=true
 ·rw[if_pos h1];rw[Bool.and_eq_true] at h1;unfold pv?;cases q:pos? x N with
  | none=>exact zAg
  | some i=>
   have ok:=h1.2;unfold Ip.okName at ok;simp only[Bool.and_eq_true,Bool.not_eq_true'] at ok;exact zOk (zGM (by rw[g.nm]; exact pos?_get q) (g.vis x h1.1) ok.1 ok.2)
 ·rw[if_neg h1];by_cases h2:isGl sc x=true
  ·rw[if_pos h2];cases q:T.cst.lookup x with
   | none=>exact zAg
   | some d=>
    obtain⟨hd,u,v,hm,r,hf,hv⟩:=g.gf.cst x d q;exact zHt hf hv (zGO (g.gl x h2) hm r hd)
  ·rw[if_neg h2]; exact zAg
theorem zLt (c:Const)(k:Nat)(p:Pos):PE X (.Constant c k p) (evT W G (Ip.run G n) (cE T sc N (m+1) (.Constant c k p)) E):=by
 cases c with
 | none=>exact zHt rfl (fun _=>.non) zMv
 | bool b=>exact zHt rfl (fun _=>.bl) zN3
 | int i=>exact zHt rfl (fun _=>.int) zMx
 | str s=>exact zHt rfl (fun _=>.str) zJr
 | _=>exact zAg
theorem zOL (ih:IH W G T n m)(g:Gd W G T n E sc N X)(a b:Expr)(o:Operator)(p:Pos):PE X (.BinOp a o b p) (evT W G (Ip.run G n) (cE T sc N (m+1) (.BinOp a o b p)) E):=by
 have ha:=ih.e g a;have hb:=ih.e g b;cases o with
 | Add=>exact (zFN (zOB g.K) ha hb).mono fun σ H Q=>op2 fun _ _ _ _ h=>h
 | Sub=>exact (zFN zOn ha hb).mono fun σ H Q=>op2 fun _ _ _ _ h=>h
 | Mult=>exact (zFN (zOu g.K) ha hb).mono fun σ H Q=>op2 fun _ _ _ _ h=>h
 | FloorDiv=>exact (zFN zNe ha hb).mono fun σ H Q=>op2 fun _ _ _ _ h=>h
 | Mod=>exact (zFN zOv ha hb).mono fun σ H Q=>op2 fun _ _ _ _ h=>h
 | Pow=>exact (zFN zOq ha hb).mono fun σ H Q=>op2 fun _ _ _ _ h=>h
 | _=>exact zAg
theorem c_un (ih:IH W G T n m)(g:Gd W G T n E sc N X)(a:Expr)(o:UnaryOp)(p:Pos):PE X (.UnaryOp o a p) (evT W G (Ip.run G n) (cE T sc N (m+1) (.UnaryOp o a p)) E):=by
 have ha:=ih.e g a;cases o with
 | Not=>exact (zMu ha).mono fun σ H Q=>op1 zOr
 | USub=>exact (zN0 zLR ha).mono fun σ H Q=>op1 zOt
 | _=>exact zAg
theorem zNu (ih:IH W G T n m)(g:Gd W G T n E sc N X)(o:BoolOp)(es:List Expr)(p:Pos):PE X (.BoolOp o es p) (evT W G (Ip.run G n) (cE T sc N (m+1) (.BoolOp o es p)) E):=by
 match es with
 | []=>exact zAg
 | [a]=>exact zMt (ih.e g a)
 | a::b::es=>
  cases o with
  | And=>exact (zMz (ih.e g a) (ih.e g (.BoolOp .And (b::es) p))).mono fun σ H Q=>zOi
  | Or=>exact (zN1 (ih.e g a) (ih.e g (.BoolOp .Or (b::es) p))).mono fun σ H Q=>e_or
theorem zG5 {o:CmpOp}{b:Expr}(h:notSet b=true):behindInMarks o b=false:=by
 cases b <;> first | rfl | cases h
theorem zBE (g:Gd W G T n E sc N X){o:CmpOp}{p:Op}(h:cmpO o=some p):OpR X (compareOp o) (fun x y=>rD W G p [x,y]):=by
 cases o <;> (try cases h)
 ·exact d_eq g.K g.units
 ·exact d_ne g.K g.units
 ·exact d_lt
 ·exact d_le
 ·exact d_gt
 ·exact d_ge
 ·exact d_in g.K g.units
 ·exact zOs g.K g.units
theorem zJO {o:CmpOp}{p:Op}(h:chO o=some p):cmpO o=some p/\o≠.In/\o≠.NotIn:=by
 cases o <;> (try cases h) <;> exact⟨rfl,by decide,by decide⟩
theorem zDZ {b:Expr}(h:isNone b=true):∃k p,b=.Constant .none k p:=by
 cases b <;> try (cases h; done)
 rename_i c k p;cases c <;> first | exact⟨k,p,rfl⟩ | cases h
theorem zNs (ih:IH W G T n m)(g:Gd W G T n E sc N X)(a:Expr)(os:List CmpOp)(bs:List Expr)(p:Pos) :
  PE X (.Compare a os bs p) (evT W G (Ip.run G n) (cE T sc N (m+1) (.Compare a os bs p)) E)/\PT X (.Compare a os bs p) (evTb W G (Ip.run G n) (cE T sc N (m+1) (.Compare a os bs p)) E):=by
 have ha:=ih.e g a;match os,bs with
 | [o],[b]=>
  have hb:=ih.e g b;have rest:∀q,cmpO o=some q->PE X (.Compare a [o] [b] p) (evT W G (Ip.run G n) (if notSet b then .op q [cE T sc N m a,cE T sc N m b] else .bad) E)/\PT X (.Compare a [o] [b] p) (evTb W G (Ip.run G n) (if notSet b then .op q [cE T sc N m a,cE T sc N m b] else .bad) E):=fun q hq=>by
   by_cases ns:notSet b=true
   ·rw[if_pos ns];exact⟨(zKA (zBE g hq) ha hb (zG5 ns)).mono fun σ H Q=>op2 fun _ _ _ _ h=>h,(zKq (zBE g hq) ha hb (zG5 ns)).mono fun σ H Q h=>op2 (fun _ _ _ _ h=>h) (zGf h)⟩
   ·rw[if_neg ns]; exact⟨zAg,zAS⟩
  cases o with
  | Is=>
   simp only[Ip.zBF];by_cases hn:isNone b=true
   ·rw[if_pos hn];obtain⟨k,p',rfl⟩:=zDZ hn;exact⟨(zJs (zJt ha)).mono fun σ H Q=>op1 (r:=fun x H Q=>Q (.bl (decide (x=.non))) H) zNd,(zJk (zJt ha)).mono fun σ H Q h=>op1 (r:=fun x H Q=>Q (.bl (decide (x=.non))) H) zNd (zGf h)⟩
   ·rw[if_neg hn]; exact⟨zAg,zAS⟩
  | IsNot=>
   simp only[Ip.zBF];by_cases hn:isNone b=true
   ·rw[if_pos hn];obtain⟨k,p',rfl⟩:=zDZ hn;exact⟨(zJs (zGP ha)).mono fun σ H Q=>op1 (r:=fun x H Q=>Q (.bl (!decide (x=.non))) H) zJL,(zJk (zGP ha)).mono fun σ H Q h=>op1 (r:=fun x H Q=>Q (.bl (!decide (x=.non))) H) zJL (zGf h)⟩
   ·rw[if_neg hn]; exact⟨zAg,zAS⟩
  | Eq=>exact rest _ rfl
  | NotEq=>exact rest _ rfl
  | Lt=>exact rest _ rfl
  | LtE=>exact rest _ rfl
  | Gt=>exact rest _ rfl
  | GtE=>exact rest _ rfl
  | In=>exact rest _ rfl
  | NotIn=>exact rest _ rfl
 | [o,q],[b,c]=>
  have hb:=ih.e g b;have hc:=ih.e g c;simp only[Ip.zBF];cases h1:chO o with
  | none=>exact⟨zAg,zAS⟩
  | some o'=>
   cases h2:chO q with
   | none=>exact⟨zAg,zAS⟩
   | some q'=>
    obtain⟨c1,_,_⟩:=zJO h1;obtain⟨c2,n1,n2⟩:=zJO h2;have hm:lastMarks [o,q] [b,c]=false:=nomark c n1 n2;exact⟨(zIc (zBE g c1) (zBE g c2) ha hb hc hm).mono fun σ H Q=>zHp,(zH1 (zBE g c1) (zBE g c2) ha hb hc hm).mono fun σ H Q h=>zHp (zGf h)⟩
 | [],_=>exact⟨zAg,zAS⟩
 | [_],[]=>exact⟨zAg,zAS⟩
 | [_],_::_::_=>exact⟨zAg,zAS⟩
 | [_,_],[]=>exact⟨zAg,zAS⟩
 | [_,_],[_]=>exact⟨zAg,zAS⟩
 | [_,_],_::_::_::_=>exact⟨zAg,zAS⟩
 | _::_::_::_,_=>exact⟨zAg,zAS⟩
end
section
variable {W:Wd}{G:Pg}{T:Tb}{n:Nat}{m:Nat}{E:St->XK}{sc:Scope}{N:List Str}{X:Cx}
theorem c_if (ih:IH W G T n m)(g:Gd W G T n E sc N X)(c a b:Expr)(p:Pos):PE X (.IfExp c a b p) (evT W G (Ip.run G n) (cE T sc N (m+1) (.IfExp c a b p)) E):=by
 simp only[Ip.zFw];exact (zIb (ih.t g c) (ih.e g a) (ih.e g b)).mono fun σ H Q=>zOg
theorem zNo (ih:IH W G T n m)(g:Gd W G T n E sc N X)(es:List Expr)(p:Pos):PE X (.List es p) (evT W G (Ip.run G n) (cE T sc N (m+1) (.List es p)) E):=by
 simp only[Ip.zHD];by_cases h:es.length<=1000
 ·rw[if_pos h]; exact zLk (by rw[List.length_map]; exact h) (ih.args g es)
 ·rw[if_neg h]; exact zAg
theorem zLs (ih:IH W G T n m)(g:Gd W G T n E sc N X)(es:List Expr)(k:Nat)(p:Pos):PE X (.Tuple es k p) (evT W G (Ip.run G n) (cE T sc N (m+1) (.Tuple es k p)) E):=by
 simp only[Ip.zFv];by_cases h:es.length<=1000
 ·rw[if_pos h]; exact zOl (by rw[List.length_map]; exact h) (ih.args g es)
 ·rw[if_neg h]; exact zAg
theorem zNv (ih:IH W G T n m)(g:Gd W G T n E sc N X)(o:Expr)(f:Str)(p:Pos):PE X (.Attribute o f p) (evT W G (Ip.run G n) (cE T sc N (m+1) (.Attribute o f p)) E):=by
 simp only[Ip.zB8];cases q:pos? f T.att with
 | none=>exact zAg
 | some k=>
  by_cases h:(T.fl.contains k&&zAv o)=true
  ·simp only[h,if_true];rw[Bool.and_eq_true] at h;exact zOy g.K g.gf.cf (by simpa using h.1) (by rw[g.gf.att]; exact pos?_get q) (ih.e g o) (zC4 h.2)
  ·simp only[h]; exact zAg
theorem zIw {i:Expr}(h:∀a b c p,i≠.Slice a b c p):PlainIx i:=by
 intro o v;cases i <;> first | rfl | exact absurd rfl (h _ _ _ _)
theorem zOF (ih:IH W G T n m)(g:Gd W G T n E sc N X)(a i:Expr)(p:Pos):PE X (.Subscript a i p) (evT W G (Ip.run G n) (cE T sc N (m+1) (.Subscript a i p)) E):=by
 have ha:=ih.e g a;cases i with
 | Slice lo hi st q=>
  match lo,hi,st with
  | some l,none,none=>
   simp only[Ip.zAR];exact (zDb (zLl g.K) ha (zC9 (ih.e g l)) zGF).mono fun σ H Q h=>zM4 (lo:=fun i=>some i) (hi:=fun _=>none) (fun u v=>rfl) h
  | none,some l,none=>
   simp only[Ip.zAR];exact (zDb (zLl g.K) ha zGF (zC9 (ih.e g l))).mono fun σ H Q h=>zM4 (lo:=fun _=>none) (hi:=fun i=>some i) (fun u v=>rfl) h
  | some l,some h,none=>
   simp only[Ip.zAR];exact (zDb (zLl g.K) ha (zC9 (ih.e g l)) (zC9 (ih.e g h))).mono fun σ H Q h=>zOf h
  | none,none,none=>exact zAg
  | none,none,some st=>exact zAg
  | some _,none,some _=>exact zAg
  | none,some _,some _=>exact zAg
  | some _,some _,some _=>exact zAg
 | _=>
  simp only[Ip.zAR];exact (zN2 (d_ix g.K) ha (ih.e g _) (zIw fun _ _ _ _ z=>by cases z)).mono fun σ H Q=>op2 fun _ _ _ _ h=>h
theorem zGp (e:Expr):(∃a b c,e=.Set a b c)\/∀(env:Env) (x:Value),foldedSetIterable e env x=pure x:=by
 cases e <;> first | exact .inl ⟨_,_,_,rfl⟩ | exact .inr fun _ _=>rfl
theorem zHA {a:List Expr}{b:Nat}{c:Pos}:(cI T sc N m (.Set a b c)).2=[.bad]:=by
 cases m with
 | zero=>rfl
 | succ m=>cases m <;> rfl
structure CompR (W:Wd)(G:Pg)(n:Nat)(E:St->XK)(X:Cx)(scope:Scope)(N:List Str)(tg iter elt:Expr)(ifs:List Expr)(t:Tg)(wk:Wk)(it ts:List Ex)(x:Ex):Prop where
 hS:compOk X.env.scope X.N (blockN scope) (blockC N scope) scope=true
 hi:PI X tg iter (piT W G (Ip.run G n) wk it E)
 hg:∀cl C s H fp,PG (cxComp X (blockN scope) scope cl C s H fp fun _ _=>False) tg (gT X.K t)
 ht:∀cl C s H fp,PTs (cxComp X (blockN scope) scope cl C s H fp fun _ _=>False) ifs (tts W G (Ip.run G n) ts)
 he:∀cl C s H fp,PE (cxComp X (blockN scope) scope cl C s H fp fun _ _=>False) elt (evT W G (Ip.run G n) x fun _ _ _ _=>False)
 hx:∀i∈tgIx t,(blockC N scope)[i]? = some none
theorem zER {tg:Expr}{t:Tg}{wk:Wk}(h1:tgOf sc N tg=some t)(h2:wkOk wk t=true):wk=.enum\/wk=.zip->∃es k p,tg=.Tuple es k p:=by
 intro hw;cases tg with
 | Name x p=>
  simp only[Ip.zDE] at h1;by_cases hl:isLoc sc x=true
  ·rw[if_pos hl] at h1;obtain⟨i,_,rfl⟩:=zp5 h1;rcases hw with rfl | rfl <;> cases h2
  ·rw[if_neg hl] at h1; cases h1
 | Tuple es k p=>exact⟨es,k,p,rfl⟩
 | _=>cases h1
theorem zCW (ih:IH W G T n m)(g:Gd W G T n E sc N X){e tg iter:Expr}{ifs:List Expr}{scope:Scope}{t:Tg}(hb:compB sc N (blockN scope) (blockC N scope) scope=true)(hl:ifs.length<=1)(ht:tgOf scope (blockN scope) tg=some t)
  (hw:wkOk (cI T sc N m iter).1 t=true)(hx:(tgIx t).all (fun i=>(blockC N scope)[i]? == some none)=true) :
  CompR W G n E X scope N tg iter e ifs t (cI T sc N m iter).1 (cI T sc N m iter).2 (ifs.map (cT T scope (blockN scope) m)) (cE T scope (blockN scope) m e):=by
 refine⟨g.compOk hb,ih.i g tg iter (zER ht hw),fun cl C s H fp=>?_,fun cl C s H fp=>?_,fun cl C s H fp=>ih.e (g.block hb cl C s H fp) e,fun i hi=>?_⟩
 ·exact zH8 (g.block hb cl C s H fp) ht
 ·match ifs,hl with
  | [],_=>exact zKp
  | [c],_=>exact zKo (ih.t (g.block hb cl C s H fp) c)
 ·have:=zp7 hx i hi;simpa using this
theorem zNr (ih:IH W G T n m)(g:Gd W G T n E sc N X)(e:Expr)(gs:List Comprehension)(scope:Scope)(p:Pos):PE X (.ListComp e gs scope p) (evT W G (Ip.run G n) (cE T sc N (m+1) (.ListComp e gs scope p)) E):=by
 match gs with
 | []=>exact zAg
 | ⟨_,_,_,_⟩::_::_=>exact zAg
 | [⟨tg,iter,ifs,as⟩]=>
  simp only[Ip.zBL];by_cases h:(compB sc N (blockN scope) (blockC N scope) scope&&as == 0&&decide (ifs.length<=1))=true
  rotate_left
  ·rw[if_neg h]; exact zAg
  rw[if_pos h];simp only[Bool.and_eq_true,beq_iff_eq,decide_eq_true_eq] at h;obtain⟨⟨hb,has⟩,hl⟩:=h;subst has;cases ht:tgOf scope (blockN scope) tg with
  | none=>exact zAg
  | some t=>
   by_cases h2:(wkOk (cI T sc N m iter).1 t&&(tgIx t).all (fun i=>(blockC N scope)[i]? == some none))=true
   rotate_left
   ·simp only[h2]; exact zAg
   simp only[h2,if_true];rw[Bool.and_eq_true] at h2;rcases zGp iter with ⟨a,b,c,rfl⟩ | hs
   ·rintro pins s σ H Q I ⟨_,_,_,_,q⟩;rw[zBd,zHA,zAb,zAr] at q;exact q.elim
   ·have cp:=zCW (e:=e) ih g hb hl ht h2.1 h2.2;exact (zKz g.calm cp.hS cp.hi cp.hg cp.ht cp.he (hs X.env)).mono fun σ H Q=>zJM g.K cp.hx
theorem zNk (ih:IH W G T n m)(g:Gd W G T n E sc N X)(e:Expr):PT X e (evTb W G (Ip.run G n) (cT T sc N (m+1) e) E):=by
 cases e with
 | BoolOp o es p=>
  match es with
  | []=>exact zAS
  | [a]=>
   cases o with
   | And=>exact (zKl (ih.t g a)).pt
   | Or=>exact (zMg (ih.t g a)).pt
  | a::b::es=>
   have hb:∀o,PW X (.BoolOp o (b::es) p) (evTb W G (Ip.run G n) (cT T sc N m (.BoolOp o (b::es) p)) E):=fun o whole=>ih.t g (.BoolOp o (b::es) p);cases o with
   | And=>exact (zMh (ih.t g a) (hb .And)).pt.mono fun σ H Q=>zLW
   | Or=>exact (zNY (ih.t g a) (hb .Or)).pt.mono fun σ H Q=>zNM
 | UnaryOp o a p=>
  cases o with
  | Not=>exact (zMk (ih.t g a)).mono fun σ H Q=>zLV
  | _=>exact zMj (ih.e g _) fun _=>rfl
 | IfExp c a b p=>exact zAS
 | Compare a os bs p=>exact ih.c g a os bs p
 | _=>exact zMj (ih.e g _) fun _=>rfl
end
section
variable {W:Wd}{G:Pg}{T:Tb}{n:Nat}{m:Nat}{E:St->XK}{sc:Scope}{N:List Str}{X:Cx}
theorem zLv (ih:IH W G T n m)(g:Gd W G T n E sc N X)(f:Str)(args:List Expr)(p pos:Pos)(k:Nat)(hg:isGl sc f=true)(hk:T.fns.lookup f=some k)(ns:noStar args=true):PE X (.Call (.Name f p) args [] pos) (evT W G (Ip.run G n) (.call k (args.map (cE T sc N m))) E):=by
 obtain⟨hdb,F,a,hF,hm,kp,fd,ps,fo,bd⟩:=g.gf.fns f k hk;cases q:callF G k args.length with
 | none=>
  rintro pins s σ H Q I ⟨_,_,_,_,h⟩;rw[zBt,List.length_map,q] at h;exact h.elim
 | some F'=>
  obtain⟨e1,hio,h1,h2⟩:=zCZ q;rw[hF] at e1;cases e1;obtain⟨ds,dvs,hb,hv,hd⟩:=bd args.length h1 h2;have fo':FnOk X.prog X.w X.K X.mg X.base (CXE X.prog X.w) (rm n) a fd ps (spF W G n k F):=g.K ▸ fo;have rm1:=g.room.mono (Nat.le_succ (rm n));have q':callF G k (args.map (cE T sc N m)).length=some F:=by rw[List.length_map]; exact q
  have hd':∀S,Dens W S dvs (dflD F (args.map (cE T sc N m)).length):=by rw[List.length_map]; exact hd
  match args,ns,q',hd' with
  | [],_,q',hd'=>exact (zId fo' rm1 (g.gl f hg) hm (g.K ▸ kp) (g.K ▸ hb) hv g.pass hdb).mono fun σ H Q h=>zDr (zJK (es:=[]) q' hd' h)
  | e::es,ns,q',hd'=>
   obtain⟨s1,s2⟩:=zAd ns;exact (zKB fo' rm1 (g.gl f hg) hm (g.K ▸ kp) (g.K ▸ hb) hv g.pass (ih.args g (e::es)) hdb (zAh s1) (zBN s2)).mono fun σ H Q=>zJK q' hd'
theorem zLw (ih:IH W G T n m)(g:Gd W G T n E sc N X)(f:Str)(args:List Expr)(p pos:Pos)(c:Nat)(hg:isGl sc f=true)(hk:T.cls.lookup f=some c)(ns:noStar args=true):PE X (.Call (.Name f p) args [] pos) (evT W G (Ip.run G n) (.make c (args.map (cE T sc N m))) E):=by
 obtain⟨hdb,C,hm,hc⟩:=g.gf.cls f c hk;cases q:makeF G c args.length with
 | none=>
  rintro pins s σ H Q I ⟨_,_,_,_,h⟩;rw[zBs,List.length_map,q] at h;exact h.elim
 | some t=>
  obtain⟨fi,F,d⟩:=t;obtain⟨Cl',k1,k2,k3,k4,hio,h1,h2,h50⟩:=zCR q;obtain⟨a,⟨fd,ps,fo,bd⟩,hx⟩:=hc Cl' fi F k1 k2 k3;obtain⟨ds,dvs,hb,hv,hd⟩:=bd (args.length+1) h1 h2;have fo':FnOk X.prog X.w X.K X.mg X.base (CXE X.prog X.w) (rm n) a fd ps (spF W G n fi F):=g.K ▸ fo;have hd':∀S,Dens W S dvs (dflD F ((args.map (cE T sc N m)).length+1)):=by rw[List.length_map]; exact hd
  ·obtain⟨hxx,iA,mk⟩:=hx;rw[hxx] at k4;subst k4;have q':makeF G c (args.map (cE T sc N m)).length=some (fi,F,.ins c []):=by rw[List.length_map]; exact q
   have mk':Mk X.K C a:=g.K ▸ mk;match args,ns,q',hd' with
   | [],_,q',hd'=>exact (zIa mk' fo' g.room (g.gl f hg) hm (g.K ▸ hb) hv g.pass hdb).mono fun σ H Q h=>zDr (zJJ (es:=[]) iA q' hd' h)
   | e::es,ns,q',hd'=>
    obtain⟨s1,s2⟩:=zAd ns;exact (zKy mk' fo' g.room (g.gl f hg) hm (g.K ▸ hb) hv g.pass (ih.args g (e::es)) hdb (zAh s1) (zBN s2)).mono fun σ H Q=>zJJ iA q' hd'
theorem zLu (ih:IH W G T n m)(g:Gd W G T n E sc N X)(o:Expr)(f:Str)(args:List Expr)(ap pos:Pos)(k:Nat)(hk:pos? f T.att=some k)(hs:zAv o=true)(ns:noStar args=true)(hl:args.length<30)(hp:ap.endLine=pos.line) :
  PE X (.Call (.Attribute o f ap) args [] pos) (evT W G (Ip.run G n) (.meth k (cE T sc N m o) (args.map (cE T sc N m))) E):=by
 rintro pins s σ H Q I ⟨N0,a,hN,hS,h⟩;have ho:=ih.e g o;have arm:=zIq (m:=f) (env:=X.env) hs ns hl hp;have hatt:W.att[k]? = some f:=by rw[g.gf.att]; exact pos?_get hk
 cases q:Ip.eval G (Ip.run G n) a (cE T sc N m o) with
 | bad=>rw[zA3,q] at h; exact h.elim
 | exc c fs=>
  rw[zA3,q] at h;refine PySem.W.methodCall_KW (pl:=_) (thn (ho pins s σ H (fun _ _=>False) I ⟨N0,a,hN,hS,by rw[q]; exact h⟩) fun u s1 ⟨_,_,_,_,z⟩=>z.elim) arm
 | ok x=>
  obtain⟨kx,d⟩:=x;cases q2:methF G k args.length d with
  | none=>
   rw[zA3,q] at h;simp only[Ip.R.bind,List.length_map,q2] at h
  | some t=>
   obtain⟨fi,F⟩:=t;obtain⟨c,fs,Cl',rfl,k1,k2,k3,hio,hfl,h1,h2⟩:=zCQ q2;obtain⟨C,ad,hC,hme,fd,ps,fo,bd⟩:=g.gf.meth c Cl' k fi F k1 k2 k3 f hatt;obtain⟨ds,dvs,hb,hv,hd⟩:=bd (args.length+1) h1 h2;have fo':FnOk X.prog X.w X.K X.mg X.base (CXE X.prog X.w) (rm n) ad fd ps (spF W G n fi F):=g.K ▸ fo;have rm1:=g.room.mono (Nat.le_succ (rm n));have cls:Cls X.K C:=g.K ▸ (g.gf.cf.ins c C hC).1.cls;have q3:methF G k (args.map (cE T sc N m)).length (.ins c fs)=some (fi,F):=by rw[List.length_map]; exact q2
   have hd':∀S,Dens W S dvs (dflD F ((args.map (cE T sc N m)).length+1)):=by rw[List.length_map]; exact hd
   have key:=zM5 (E:=E) (Q:=Q) g.gf.cf.nd hatt hC hd' hN hS q q3 h;match args,ns,arm,key with
   | [],_,arm,key=>exact zH9 ho cls (g.K ▸ hme) fo' rm1 (g.K ▸ hb) hv g.pass arm pins s σ H Q I (by
     unfold tMeth at key ⊢;refine evT_mono key fun x H1 ⟨a,dx,fs,e1,e2,e3,e4⟩=>⟨a,dx,fs,e1,e2,e3,zDr e4⟩)
   | e::es,ns,arm,key=>
    obtain⟨s1,s2⟩:=zAd ns;exact zKx ho cls (g.K ▸ hme) fo' rm1 (g.K ▸ hb) hv g.pass (ih.args g (e::es)) (zAh s1) (zBN s2) arm pins s σ H Q I key
where
 evT_mono {ir:Ex} {cl:Nat->List KD->Ip.Run} {E:St->XK} {σ:St} {H:Hp} {Q Q':VK} (h:evT W G cl ir E σ H Q) (k:∀v H,Q v H->Q' v H):evT W G cl ir E σ H Q':=by
  obtain⟨N,a,hN,hS,h⟩:=h;refine⟨N,a,hN,hS,?_⟩;cases q:Ip.eval G cl a ir with
  | bad=>rw[q] at h; exact h
  | exc c fs=>rw[q] at h; exact h
  | ok x=>rw[q] at h; exact fun v H' r=>k v H' (h v H' r)
theorem zDi {x:Str}{p:Pos}{cl:Nat->List KD->Ip.Run}:∀m a c fs,Ip.eval G cl a (cE T sc N m (.Name x p))≠.exc c fs:=by
 intro m a c fs;cases m with
 | zero=>rw[Ip.zHB,zAr]; exact fun z=>nomatch z
 | succ m=>
  rw[Ip.zHC];split
  ·unfold pv?;split
   ·rw[zBC];split <;> exact fun z=>nomatch z
   ·rw[zAr]; exact fun z=>nomatch z
  ·split
   ·split
    ·rw[zBD]; exact fun z=>nomatch z
    ·rw[zAr]; exact fun z=>nomatch z
   ·rw[zAr]; exact fun z=>nomatch z
theorem few1 {e:Expr}{cp:Pos}{env:Env}(ns:noStar [e]=true):((backTo cp (starEach [e] env)).all (fun x=>!x.1)&&(backToKw cp (keywordEach [] env)).all (fun x=>x.1.isSome)
   && decide ([e].length+([]:List Keyword).length+(if ([]:List Keyword).isEmpty then 0 else 1)<30))=true:=by
 rw[zCb ns]; rfl
theorem zMJ {e:Expr}(h:Ip.isNm2 e=true){cl:Nat->List KD->Ip.Run}:∀m a c fs,Ip.eval G cl a (cE T sc N m e)≠.exc c fs:=by
 cases e with
 | Name x p=>exact zDi
 | Subscript o i p=>
  unfold Ip.isNm2 at h;rw[Bool.and_eq_true] at h;cases o <;> first | (have h1:=h.1; cases h1; done) | skip
  cases i <;> first | (have h1:=h.2; cases h1; done) | skip
  intro m a c fs;cases m with
  | zero=>rw[Ip.zHB,zAr]; exact fun z=>nomatch z
  | succ m=>
   rename_i x p1 y p2;have n1:=zDi (G:=G) (T:=T) (sc:=sc) (N:=N) (cl:=cl) (x:=x) (p:=p1) m a;have n2:=zDi (G:=G) (T:=T) (sc:=sc) (N:=N) (cl:=cl) (x:=y) (p:=p2) m a;show Ip.eval G cl a (.op .ix [cE T sc N m (.Name x p1),cE T sc N m (.Name y p2)])≠_;rw[zAl,zAb,zAb,zAe];cases q1:Ip.eval G cl a (cE T sc N m (.Name x p1)) with
   | bad=>exact fun z=>nomatch z
   | exc c' fs'=>exact absurd q1 (n1 c' fs')
   | ok u=>
    cases q2:Ip.eval G cl a (cE T sc N m (.Name y p2)) with
    | bad=>exact fun z=>nomatch z
    | exc c' fs'=>exact absurd q2 (n2 c' fs')
    | ok w=>
     simp only[Ip.R.bind];cases opD G .ix [u,w] <;> exact fun z=>nomatch z
 | _=>cases h
theorem zOI (ih:IH W G T n m)(g:Gd W G T n E sc N X)(o:Expr)(f:Str)(args:List Expr)(ap pos:Pos)(hi:isIdx f args=true)(hs:zAv o=true)(ns:noStar args=true)(hp:ap.endLine=pos.line) :
  PE X (.Call (.Attribute o f ap) args [] pos) (evT W G (Ip.run G n) (.op .index ((o::args).map (cE T sc N m))) E):=by
 unfold isIdx at hi;simp only[Bool.and_eq_true,beq_iff_eq,List.all_eq_true] at hi;obtain⟨⟨rfl,hl⟩,hn⟩:=hi;obtain⟨a,rfl⟩:=List.length_eq_one_iff.mp hl;have ha:=hn a (List.mem_singleton.mpr rfl);obtain⟨s1,s2⟩:=zAd ns;have ln:(ap.endLine == pos.line)=true:=by rw[hp]; exact beq_self_eq_true _
 exact (zIe (T := "tuple") (id := "tuple.index") PySem.F.plainAttrs_tuple PySem.F.slot_tuple_index PySem.F.type_tuple_index zG3 (ih.e g o) (ih.args g [a]) (zC4 hs) (few1 ns) ln (zAh s1) rfl).mono fun σ H Q h=>zOh g.K (zMJ ha m) h
theorem Gd.bl (g:Gd W G T n E sc N X){x:Str}{v:Value}(h:(x,v)∈bltT):X.mg x=none/\bootBuiltins x=some v:=g.gf.blt x v h
theorem zKT (ih:IH W G T n m)(g:Gd W G T n E sc N X)(a:Expr):((∃x p,a=.Starred x p)/\cE T sc N m a=.bad)\/(PA X [a] (evsT W G (Ip.run G n) [cE T sc N m a] E)/\starEach [a] X.env=(false,PySem.eval a X.env)::starEach [] X.env):=by
 rcases zC5 a [] X.env with ⟨x,p,rfl⟩ | h
 ·exact .inl ⟨⟨x,p,rfl⟩,zEM T sc N m x p⟩
 ·exact .inr ⟨ih.args g [a],h⟩
theorem zHG {o:Op}{x:Expr}{es:List Ex}:PE X x (evT W G (Ip.run G n) (.op o (.bad::es)) E):=fun pins s σ H Q I ⟨_,_,_,_,h⟩=>by
 rw[zAl,zAb,zAr] at h;exact h.elim
theorem zNL (g:Gd W G T n E sc N X){b:Expr}{t:Ip.Ty}(q:tyOf T sc b=some t):∃c cv,PE X b (tC c)/\valOf c=some cv/\IsiOk W G t cv:=by
 cases b with
 | Name x bp=>
  simp only[tyOf] at q;by_cases hgx:isGl sc x=true
  ·rw[if_pos hgx] at q;cases q2:T.cls.lookup x with
   | some c=>
    rw[q2] at q;cases q;obtain⟨hdb,_⟩:=g.gf.cls x c q2;obtain⟨C,hm,hi⟩:=g.gf.isC x c q2;exact⟨.ref C,.ref C,zGO (g.gl x hgx) hm rfl hdb,rfl,hi⟩
   | none=>
    rw[q2] at q;obtain⟨hm,hn,hdb,nm,hb,hi⟩:=g.gf.isB x t q;exact⟨.ty nm,.type nm,zKC (g.gl x hgx) hm hb rfl hn hdb,rfl,hi⟩
  ·rw[if_neg hgx] at q; cases q
 | _=>cases q
theorem zOK (ih:IH W G T n m)(g:Gd W G T n E sc N X)(f:Str)(args:List Expr)(p pos:Pos)(hg:isGl sc f=true):PE X (.Call (.Name f p) args [] pos) (evT W G (Ip.run G n) (cB T sc N (m+1) f args) E):=by
 match args with
 | []=>exact zAg
 | _::_::_::_=>exact zAg
 | [a]=>
  simp only[Ip.zEO];cases qi:Ip.inP sc f a with
  | some ob=>
   obtain⟨o,b⟩:=ob;dsimp only;obtain⟨g',p1,p2,rfl,hg',ns,hc⟩:=Ip.zMU qi;obtain⟨s1,_⟩:=zAd ns;obtain⟨rfl,rfl,rfl⟩:=hc
   ·obtain⟨h1,h2⟩:=g.bl (x := "sorted") (v:=.builtin "sorted") (by simp[bltT]);obtain⟨h3,h4⟩:=g.bl (x := "set") (v:=.type "set") (by simp[bltT]);exact (zGN g.calm (ih.e g b) (g.gl _ hg) h1 h2 (g.gl _ hg') h3 h4 rfl (zAh s1)).mono fun σ H Q h=>op1 (zIT g.K) h
  | none=>
  dsimp only;cases q:bi1.lookup f with
  | none=>exact zAg
  | some o=>
   rcases zKT ih g a with ⟨_,hb⟩ | ⟨pa,hs⟩
   ·simp only[hb]; exact zHG
   have hmem:=zDV q;simp only[bi1,List.mem_cons,List.not_mem_nil,or_false,Prod.mk.injEq] at hmem;rcases hmem with ⟨rfl,rfl⟩ | ⟨rfl,rfl⟩ | ⟨rfl,rfl⟩ | ⟨rfl,rfl⟩ | ⟨rfl,rfl⟩ | ⟨rfl,rfl⟩ | ⟨rfl,rfl⟩ | ⟨rfl,rfl⟩
   ·obtain⟨h1,h2⟩:=g.bl (x := "len") (v:=.builtin "len") (by simp[bltT]);exact (zA5 (zOw g.K) (g.gl _ hg) h1 h2 pa (by decide) (by decide) hs rfl).mono fun σ H Q=>zD7
   ·obtain⟨h1,h2⟩:=g.bl (x := "list") (v:=.type "list") (by simp[bltT]);exact (zCn (zNc g.K) (g.gl _ hg) h1 h2 pa (by decide) (by decide) hs rfl).mono fun σ H Q=>zD7
   ·obtain⟨h1,h2⟩:=g.bl (x := "tuple") (v:=.type "tuple") (by simp[bltT]);exact (zCn (zLi g.K) (g.gl _ hg) h1 h2 pa (by decide) (by decide) hs rfl).mono fun σ H Q=>zD7
   ·obtain⟨h1,h2⟩:=g.bl (x := "all") (v:=.builtin "all") (by simp[bltT]);exact (zA5 (zOA g.calm) (g.gl _ hg) h1 h2 pa (by decide) (by decide) hs rfl).mono fun σ H Q=>zD7
   ·obtain⟨h1,h2⟩:=g.bl (x := "any") (v:=.builtin "any") (by simp[bltT]);exact (zA5 (zOz g.calm) (g.gl _ hg) h1 h2 pa (by decide) (by decide) hs rfl).mono fun σ H Q=>zD7
   ·obtain⟨h1,h2⟩:=g.bl (x := "int") (v:=.type "int") (by simp[bltT]);exact (zCn zLj (g.gl _ hg) h1 h2 pa (by decide) (by decide) hs rfl).mono fun σ H Q=>zD7
   ·obtain⟨h1,h2⟩:=g.bl (x := "sum") (v:=.builtin "sum") (by simp[bltT]);exact (zA5 (zOm g.calm) (g.gl _ hg) h1 h2 pa (by decide) (by decide) hs rfl).mono fun σ H Q=>zD7
   ·obtain⟨h1,h2⟩:=g.bl (x := "sorted") (v:=.builtin "sorted") (by simp[bltT]);exact (zA5 (zOo g.K) (g.gl _ hg) h1 h2 pa (by decide) (by decide) hs rfl).mono fun σ H Q=>zD7
 | [a,b]=>
  simp only[Ip.zEO];by_cases hf:(f == ("isinstance" : Str))=true
  rotate_left
  ·rw[if_neg hf];by_cases hf2:(f == ("max" : Str)&&noStar [a,b])=true
   rotate_left
   ·rw[if_neg hf2];by_cases hf3:(f == ("min" : Str)&&noStar [a,b])=true
    rotate_left
    ·rw[if_neg hf3]; exact zAg
    rw[if_pos hf3];rw[Bool.and_eq_true] at hf3;have hf':f = "min":=by simpa using hf3.1
    subst hf';obtain⟨s1,s2⟩:=zAd hf3.2;obtain⟨s3,_⟩:=zAd s2;obtain⟨h1,h2⟩:=g.bl (x := "min") (v:=.builtin "min") (by simp[bltT]);exact (zA5 (zNa g.calm) (g.gl _ hg) h1 h2 (ih.args g [a,b]) (by decide) (by decide) (zAh s1) (by rw[zAh s3]; rfl)).mono fun σ H Q=>zM6
   rw[if_pos hf2];rw[Bool.and_eq_true] at hf2;have hf':f = "max":=by simpa using hf2.1
   subst hf';obtain⟨s1,s2⟩:=zAd hf2.2;obtain⟨s3,_⟩:=zAd s2;obtain⟨h1,h2⟩:=g.bl (x := "max") (v:=.builtin "max") (by simp[bltT]);exact (zA5 (zNb g.calm) (g.gl _ hg) h1 h2 (ih.args g [a,b]) (by decide) (by decide) (zAh s1) (by rw[zAh s3]; rfl)).mono fun σ H Q=>zM6
  rw[if_pos hf];have hf':f = "isinstance":=by simpa using hf
  subst hf';cases q:tysOf T sc b with
  | none=>exact zAg
  | some ts=>
   rcases zC5 a [b] X.env with ⟨x,p',rfl⟩ | hs1
   ·simp only[zEM]; exact zHG
   obtain⟨h1,h2⟩:=g.bl (x := "isinstance") (v:=.builtin "isinstance") (by simp[bltT]);cases b with
   | Name x bp=>
    simp only[tysOf] at q;obtain⟨t,q',rfl⟩:=zp5 q;obtain⟨c,cv,he,hc,hi⟩:=zNL g q';exact zOx g.K g.gf.cf hc hi (g.gl _ hg) h1 h2 (ih.e g a) he hs1 rfl
   | _=>simp[tysOf,tyOf] at q
theorem zNj (ih:IH W G T n m)(g:Gd W G T n E sc N X)(tg x:Expr)(ht:(cI T sc N (m+1) x).1=.enum\/(cI T sc N (m+1) x).1=.zip->∃es k p,tg=.Tuple es k p):PI X tg x (piT W G (Ip.run G n) (cI T sc N (m+1) x).1 (cI T sc N (m+1) x).2 E):=by
 have gen:∀y,PI X tg y (piT W G (Ip.run G n) .seq [cE T sc N m y] E):=fun y=>zOp g.K (ih.e g y);cases x with
 | Call f args kws q=>
  cases f with
  | Name f p=>
   cases kws with
   | cons _ _=>exact gen _
   | nil=>
    simp only[Ip.zLy] at ht ⊢;by_cases h1:(isGl sc f&&f == ("range" : Str)&&noStar args)=true
    ·rw[if_pos h1];simp only[Bool.and_eq_true,beq_iff_eq] at h1;obtain⟨⟨hg,rfl⟩,ns⟩:=h1;have hm:=(g.bl (x := "range") (v:=.type "range") (by simp[bltT])).1;match args,ns with
     | [a],ns=>
      obtain⟨s1,_⟩:=zAd ns;exact zM8 (g.gl _ hg) hm (ih.args g [a]) (zAh s1)
     | [],_=>exact zBH
     | _::_::_,_=>exact zBH
    rw[if_neg h1] at ht ⊢;by_cases h2:(isGl sc f&&f == ("enumerate" : Str)&&noStar args)=true
    ·rw[if_pos h2] at ht ⊢;simp only[Bool.and_eq_true,beq_iff_eq] at h2;obtain⟨⟨hg,rfl⟩,ns⟩:=h2;obtain⟨hm,hv⟩:=g.bl (x := "enumerate") (v:=.type "enumerate") (by simp[bltT]);match args,ns,ht with
     | [a],ns,ht=>
      obtain⟨s1,_⟩:=zAd ns;obtain⟨es,k,p',rfl⟩:=ht (.inl rfl);exact zNf g.K (g.gl _ hg) hm hv (ih.args g [a]) (zAh s1)
     | [],_,_=>exact zBH
     | _::_::_,_,_=>exact zBH
    rw[if_neg h2] at ht ⊢;by_cases h3:(isGl sc f&&f == ("zip" : Str)&&noStar args)=true
    ·rw[if_pos h3] at ht ⊢;simp only[Bool.and_eq_true,beq_iff_eq] at h3;obtain⟨⟨hg,rfl⟩,ns⟩:=h3;obtain⟨hm,hv⟩:=g.bl (x := "zip") (v:=.type "zip") (by simp[bltT]);match args,ns,ht with
     | [a,b],ns,ht=>
      obtain⟨s1,s2⟩:=zAd ns;obtain⟨s3,_⟩:=zAd s2;obtain⟨es,k,p',rfl⟩:=ht (.inr rfl);exact zOj g.K (g.gl _ hg) hm hv (ih.args g [a,b]) (by rw[zAh s1,zAh s3]; rfl) (zAh s3)
     | [],_,_=>exact zBH
     | [_],_,_=>exact zBH
     | _::_::_::_,_,_=>exact zBH
    rw[if_neg h3] at ht ⊢;by_cases h4:(isGl sc f&&f == ("reversed" : Str)&&noStar args)=true
    ·rw[if_pos h4];simp only[Bool.and_eq_true,beq_iff_eq] at h4;obtain⟨⟨hg,rfl⟩,ns⟩:=h4;obtain⟨hm,hv⟩:=g.bl (x := "reversed") (v:=.type "reversed") (by simp[bltT]);match args,ns with
     | [a],ns=>
      obtain⟨s1,_⟩:=zAd ns;exact zM9 (g.gl _ hg) hm hv (ih.args g [a]) (zAh s1)
     | [],_=>exact zBH
     | _::_::_,_=>exact zBH
    rw[if_neg h4];exact gen _
  | _=>exact gen _
 | _=>exact gen _
theorem zNt (ih:IH W G T n m)(g:Gd W G T n E sc N X)(f:Expr)(args:List Expr)(kws:List Keyword)(p:Pos):PE X (.Call f args kws p) (evT W G (Ip.run G n) (cE T sc N (m+1) (.Call f args kws p)) E):=by
 cases kws with
 | cons _ _=>exact zAg
 | nil=>
  cases f with
  | Name f q=>
   simp only[Ip.zEN];by_cases hg:isGl sc f=true
   rotate_left
   ·rw[if_neg hg]; exact zAg
   rw[if_pos hg];cases h1:T.fns.lookup f with
   | some k=>
    by_cases ns:noStar args=true
    ·simp only[ns,if_true]; exact zLv ih g f args q p k hg h1 ns
    ·simp only[ns]; exact zAg
   | none=>
    cases h2:T.cls.lookup f with
    | some c=>
     by_cases ns:noStar args=true
     ·simp only[ns,if_true]; exact zLw ih g f args q p c hg h2 ns
     ·simp only[ns]; exact zAg
    | none=>exact ih.b g f args q p hg
  | Attribute o f ap=>
   simp only[Ip.zEN];cases h1:pos? f T.att with
   | none=>
    by_cases h:(isIdx f args&&zAv o&&noStar args&&ap.endLine == p.line)=true
    ·simp only[h,if_true];simp only[Bool.and_eq_true,beq_iff_eq] at h;obtain⟨⟨⟨a0,a1⟩,a2⟩,a4⟩:=h;exact zOI ih g o f args ap p a0 a1 a2 a4
    ·simp only[h]; exact zAg
   | some k=>
    by_cases h:(zAv o&&noStar args&&decide (args.length<30)&&ap.endLine == p.line)=true
    ·simp only[h,if_true];simp only[Bool.and_eq_true,decide_eq_true_eq,beq_iff_eq] at h;obtain⟨⟨⟨a1,a2⟩,a3⟩,a4⟩:=h;exact zLu ih g o f args ap p k h1 a1 a2 a3 a4
    ·simp only[h]; exact zAg
  | _=>exact zAg
theorem zNq (ih:IH W G T n m)(g:Gd W G T n E sc N X)(e:Expr):PE X e (evT W G (Ip.run G n) (cE T sc N (m+1) e) E):=by
 cases e with
 | Name x p=>exact zNn g x p
 | Constant c k p=>exact zLt c k p
 | BinOp a o b p=>exact zOL ih g a b o p
 | UnaryOp o a p=>exact c_un ih g a o p
 | BoolOp o es p=>exact zNu ih g o es p
 | Compare a os bs p=>exact (zNs ih g a os bs p).1
 | IfExp c a b p=>exact c_if ih g c a b p
 | List es p=>exact zNo ih g es p
 | Tuple es k p=>exact zLs ih g es k p
 | Subscript a i p=>exact zOF ih g a i p
 | Attribute o f p=>exact zNv ih g o f p
 | ListComp e gs scope p=>exact zNr ih g e gs scope p
 | Call f args kws p=>exact zNt ih g f args kws p
 | _=>exact zAg
theorem zBK:∀m,IH W G T n m
 | 0=>by
  refine⟨fun g x=>?_,fun g x=>?_,fun g a os bs p=>?_,fun g tg x _=>?_,fun g f args p pos hg=>?_⟩
  ·exact zAg
  ·exact zAS
  ·exact zAS
  ·exact zBH
  ·exact zAg
 | m+1=>by
  have ih:=zBK m;exact⟨fun g x=>zNq ih g x,fun g x=>zNk ih g x,fun g a os bs p=>(zNs ih g a os bs p).2,fun g tg x ht=>zNj ih g tg x ht,fun g f args p pos hg=>zOK ih g f args p pos hg⟩
end
section
variable {G:Pg}{cl:Nat->List KD->Ip.Run}
mutual
theorem zAk {a b:Sl}:∀e:Ex,(∀i∈e.names,a[i]? = b[i]?)->Ip.eval G cl a e=Ip.eval G cl b e
 | .var i,h=>by rw[zBC,zBC,h i (by simp)]
 | .cst d,_=>by rw[zBD,zBD]
 | .op o es,h=>by rw[zAl,zAl,zAD es (by simpa using h)]
 | .and x y,h=>by
  simp only[Ex.names,List.mem_append] at h;rw[zBT,zBT,zAk x fun i hi=>h i (.inl hi),zAk y fun i hi=>h i (.inr hi)]
 | .or x y,h=>by
  simp only[Ex.names,List.mem_append] at h;rw[zCF,zCF,zAk x fun i hi=>h i (.inl hi),zAk y fun i hi=>h i (.inr hi)]
 | .ite c x y,h=>by
  simp only[Ex.names,List.mem_append] at h;rw[Ip.zDt,Ip.zDt,zAk c fun i hi=>h i (.inl hi),zAk x fun i hi=>h i (.inr (.inl hi)),zAk y fun i hi=>h i (.inr (.inr hi))]
 | .chain o p x y z,h=>by
  simp only[Ex.names,List.mem_append] at h;rw[Ip.zB5,Ip.zB5,zAk x fun i hi=>h i (.inl hi),zAk y fun i hi=>h i (.inr (.inl hi)),zAk z fun i hi=>h i (.inr (.inr hi))]
 | .sl2 x y z,h=>by
  simp only[Ex.names,List.mem_append] at h;rw[Ip.zDs,Ip.zDs,zAk x fun i hi=>h i (.inl hi),zAk y fun i hi=>h i (.inr (.inl hi)),zAk z fun i hi=>h i (.inr (.inr hi))]
 | .comp caps tg wk it t e,h=>by
  simp only[Ex.names,List.mem_append] at h;have hc:caps.map (capD a)=caps.map (capD b):=List.map_congr_left fun o ho=>by
   cases o with
   | none=>rfl
   | some i=>
    show (a[i]?).join=(b[i]?).join;rw[h i (.inl (List.mem_filterMap.mpr ⟨some i,ho,rfl⟩))]
  rw[zBd,zBd,zAD it fun i hi=>h i (.inr hi),hc]
 | .call f es,h=>by rw[zBt,zBt,zAD es (by simpa using h)]
 | .make f es,h=>by rw[zBs,zBs,zAD es (by simpa using h)]
 | .meth m o es,h=>by
  simp only[Ex.names,List.mem_append] at h;rw[zA3,zA3,zAk o fun i hi=>h i (.inl hi),zAD es fun i hi=>h i (.inr hi)]
 | .bad,_=>by rw[zAr,zAr]
theorem zAD {a b:Sl}:∀es:List Ex,(∀i∈Ex.namess es,a[i]? = b[i]?)->evals G cl a es=evals G cl b es
 | [],_=>by rw[zAe,zAe]
 | e::es,h=>by
  simp only[Ex.namess,List.mem_append] at h;rw[zAb,zAb,zAk e fun i hi=>h i (.inl hi),zAD es fun i hi=>h i (.inr hi)]
end
end
noncomputable def mask (ns:List Nat)(a:Sl):Sl:=a.mapIdx fun i o=>if i∈ns then o else none
theorem zED {ns:List Nat}{a:Sl}{i:Nat}(h:i∈ns):a[i]? = (mask ns a)[i]?:=by
 unfold mask;rw[List.getElem?_mapIdx];cases a[i]? with
 | none=>rfl
 | some o=>simp[h]
theorem zCu {ns:List Nat}{a:Sl}{i:Nat}{d:D}(h:(mask ns a)[i]? = some (some d)):i∈ns/\a[i]? = some (some d):=by
 unfold mask at h;rw[List.getElem?_mapIdx] at h;cases q:a[i]? with
 | none=>rw[q] at h; cases h
 | some o=>
  rw[q] at h;by_cases hi:i∈ns
  ·simp[hi] at h; exact⟨hi,by rw[h]⟩
  ·simp[hi] at h
theorem zEs {A:Fr}{i:Nat}{d:D}(h:A.sl[i]? = some (some d)):∃k,A[i]? = some (some (k,d)):=by
 unfold Fr.sl at h;rw[List.getElem?_map] at h;obtain⟨o,h1,h2⟩:=zp5 h;obtain⟨x,h3,h4⟩:=zp5 h2;obtain⟨k,d'⟩:=x;cases h4;exact⟨k,by rw[h1,h3]⟩
def TupSub (W:Wd)(S S':Hp):Prop:=∀a vs,SqT W.K S a vs->SqT W.K S' a vs
mutual
theorem Den.hide {W:Wd}{S S':Hp}(h:TupSub W S S'):∀{v d},d.flat=true->Den W S v d->Den W S' v d
 | _,_,_,.non=>.non
 | _,_,_,.bl=>.bl
 | _,_,_,.int=>.int
 | _,_,_,.str=>.str
 | _,_,hf,.tup e q=>.tup (h _ _ e) (q.hide h (by rw[D.flat] at hf; exact hf))
 | _,_,hf,.lst _ _=>by simp at hf
 | _,_,hf,.ins _ _ _=>by simp at hf
 | _,_,hf,.exc _ _ _=>by simp at hf
theorem Dens.hide {W:Wd}{S S':Hp}(h:TupSub W S S'):∀{v d},D.flats d=true->Dens W S v d->Dens W S' v d
 | _,_,_,.nil=>.nil
 | _,_,hf,.cons e q=>by
  rw[D.flats,Bool.and_eq_true] at hf;exact .cons (e.hide h hf.1) (q.hide h hf.2)
end
theorem DenF.hide {W:Wd}{S S':Hp}(h:TupSub W S S'):∀{vs ds},(ds.all fun p=>p.2.flat)=true->DenF W S vs ds->DenF W S' vs ds
 | _,_,_,.nil=>.nil
 | _,_,hf,.cons e d q=>by
  rw[List.all_cons,Bool.and_eq_true] at hf;exact .cons e (d.hide h hf.1) (q.hide h hf.2)
theorem Own.hide {W:Wd}{S S' H:Hp}(h:TupSub W S S'):∀{k v d fp},D.fb k d=true->Own W S H k v d fp->Own W S' H k v d fp
 | 0,_,_,_,hf,⟨e,o⟩=>⟨e,o.hide h (by rw[D.fb] at hf; exact hf)⟩
 | k+1,_,.lst ds,_,hf,⟨a,vs,fq,e1,e2,e3,e4⟩=>⟨a,vs,fq,e1,e2,e3.re (b:=D.fb k) (fun _ _ _ hb o=>Own.hide h hb o) hf,e4⟩
 | k+1,_,.tup ds,_,hf,⟨a,vs,e1,e2,e3⟩=>⟨a,vs,e1,h _ _ e2,e3.re (b:=D.fb k) (fun _ _ _ hb o=>Own.hide h hb o) hf⟩
 | k+1,_,.ins c ds,_,hf,⟨a,C,dx,fs,fq,e1,e2,e5,e3,e4⟩=>⟨a,C,dx,fs,fq,e1,e2,e5,e3.re (b:=D.fb k) (fun _ _ _ hb o=>Own.hide h hb o) hf,e4⟩
 | k+1,_,.exc c ds,_,hf,_=>by cases hf
 | _+1,_,.non,_,_,⟨e,o⟩=>⟨e,o.hide h rfl⟩
 | _+1,_,.bl _,_,_,⟨e,o⟩=>⟨e,o.hide h rfl⟩
 | _+1,_,.int _,_,_,⟨e,o⟩=>⟨e,o.hide h rfl⟩
 | _+1,_,.str _,_,_,⟨e,o⟩=>⟨e,o.hide h rfl⟩
theorem Own.noTup {W:Wd}{S H:Hp}:∀{k v d fp},Own W S H k v d fp->∀a∈fp,∀vs,¬Rd H a (.tup vs)
 | 0,_,_,_,h,a,z=>by rw[h.1] at z; simp at z
 | k+1,_,.lst ds,_,⟨a,vs,fq,e1,e2,e3,e4⟩,b,z=>by
  rw[e4] at z;rcases zp1 z with q | q
  ·intro ws r;rw[q] at r;rcases r with r | ⟨o,r⟩ <;> rw[e2] at r <;> cases r
  ·exact e3.mem (fun _ _ _ y=>Own.noTup y) b q
 | k+1,_,.tup ds,_,⟨a,vs,e1,e2,e3⟩,b,z=>e3.mem (fun _ _ _ y=>Own.noTup y) b z
 | k+1,_,.ins c ds,_,⟨a,C,dx,fs,fq,e1,e2,e5,e3,e4⟩,b,z=>by
  rw[e4] at z;rcases zp1 z with q | q
  ·intro ws r;rw[q] at r;rcases r with r | ⟨o,r⟩ <;> rw[e2] at r <;> cases r
  ·exact e3.mem (fun _ _ _ y=>Own.noTup y) b q
 | k+1,_,.exc c ds,_,⟨a,C,dx,fs,fq,e1,e2,e5,e3,e4⟩,b,z=>by
  rw[e4] at z;rcases zp1 z with q | q
  ·intro ws r;rw[q] at r;rcases r with r | ⟨o,r⟩ <;> rw[e2] at r <;> cases r
  ·exact e3.mem (fun _ _ _ y=>Own.noTup y) b q
 | _+1,_,.non,_,h,a,z=>by rw[h.1] at z; simp at z
 | _+1,_,.bl _,_,h,a,z=>by rw[h.1] at z; simp at z
 | _+1,_,.int _,_,h,a,z=>by rw[h.1] at z; simp at z
 | _+1,_,.str _,_,h,a,z=>by rw[h.1] at z; simp at z
def hidF (N:Addr->Prop)(F:Nat->List Addr):Addr->Prop:=fun b=>N b\/∃j,b∈F j
structure FrF (W:Wd)(E0:Hp)(N:Addr->Prop)(pin:List (Nat×V))(A:Fr)(σ:St)(H:Hp)(F:Nat->List Addr):Prop where
 sub:Sub E0 H
 nok:NOk N H
 len:σ.length=A.length
 pn:∀p∈pin,σ[p.1]? = some (some p.2)
 nd:∀i,(F i).Nodup
 dj:∀i j b,b∈F i->b∈F j->i=j
 fr:∀i b,b∈F i->E0 b=none/\¬N b
 rel:∀(i:Nat) (x:KD),A[i]? = some (some x)->∃v,σ[i]? = some (some v)/\Own W (hid (hidF N F) H) H x.1 v x.2 (F i)
 em:∀(i:Nat),(∀x,A[i]?≠some (some x))->F i=[]
theorem FrF.dom {W:Wd}{E0:Hp}{N:Addr->Prop}{pin:List (Nat×V)}{A:Fr}{σ:St}{H:Hp}{F:Nat->List Addr}(f:FrF W E0 N pin A σ H F){i:Nat}{b:Addr}(h:b∈F i):H b≠none:=by
 by_cases q:∃x,A[i]? = some (some x)
 ·obtain⟨x,e⟩:=q;obtain⟨v,_,o⟩:=f.rel i x e;exact o.dom b h
 ·rw[f.em i fun x z=>q ⟨x,z⟩] at h; simp at h
theorem FrF.noTup {W:Wd}{E0:Hp}{N:Addr->Prop}{pin:List (Nat×V)}{A:Fr}{σ:St}{H:Hp}{F:Nat->List Addr}(f:FrF W E0 N pin A σ H F){i:Nat}{b:Addr}(h:b∈F i)(vs:List V):¬Rd H b (.tup vs):=by
 by_cases q:∃x,A[i]? = some (some x)
 ·obtain⟨x,e⟩:=q;obtain⟨v,_,o⟩:=f.rel i x e;exact o.noTup b h vs
 ·rw[f.em i fun x z=>q ⟨x,z⟩] at h; simp at h
theorem FrF.grow {W:Wd}{E0:Hp}{N:Addr->Prop}{pin:List (Nat×V)}{A:Fr}{σ:St}{H H':Hp}{F:Nat->List Addr}(f:FrF W E0 N pin A σ H F)(hs:Sub H H'){fp:List Addr}(hf:∀b∈fp,H b=none/\H' b≠none):FrF W E0 (fun b=>N b\/b∈fp) pin A σ H' F where
 sub:=f.sub.trans hs
 nok:=fun b z=>z.elim (f.nok.mono hs b) fun y=>(hf b y).2
 len:=f.len
 pn:=f.pn
 nd:=f.nd
 dj:=f.dj
 fr:=fun i b h=>⟨(f.fr i b h).1,fun z=>z.elim (f.fr i b h).2 fun y=>f.dom h (hf b y).1⟩
 rel:=fun i x e=>by
  obtain⟨v,h1,h2⟩:=f.rel i x e;refine⟨v,h1,h2.mono (zAz hs fun b z=>?_) fun b _ o e=>hs b o e⟩;rcases z with (z | z) | z
  ·exact .inl (.inl z)
  ·exact .inr (hf b z).1
  ·exact .inl (.inr z)
 em:=f.em
theorem zIF {A:Fr}{i j:Nat}:(frz1 A j)[i]? = if i=j then (A[i]?).map (Option.map fun x=>(0,x.2)) else A[i]?:=by
 unfold frz1;cases q:A[j]? with
 | none=>
  by_cases z:i=j
  ·subst z; simp[q]
  ·simp[z]
 | some o=>
  cases o with
  | none=>
   by_cases z:i=j
   ·subst z; simp[q]
   ·simp[z]
  | some x=>
   obtain⟨k,d⟩:=x;have hl:j<A.length:=(zp6 q).1;by_cases z:i=j
   ·subst z;simp[q,List.getElem?_set_self hl]
   ·simp only[if_neg z];exact List.getElem?_set_ne fun y=>z y.symm
theorem zDp {i:Nat}:∀{ns:List Nat} {A:Fr},(frz ns A)[i]? = if i∈ns then (A[i]?).map (Option.map fun x=>(0,x.2)) else A[i]?
 | [],A=>by simp[frz]
 | n::ns,A=>by
  show (frz ns (frz1 A n))[i]? = _;rw[zDp,zIF];by_cases h1:i=n
  ·subst h1;by_cases h2:i∈ns
   ·simp[h2,Function.comp_def]
   ·simp[h2]
  ·by_cases h2:i∈ns
   ·simp[h1,h2]
   ·simp[h1,h2]
theorem zHi:∀{ns:List Nat} {A:Fr},(frz ns A).length=A.length
 | [],A=>rfl
 | n::ns,A=>by
  show (frz ns (frz1 A n)).length=_;rw[zHi];unfold frz1;split
  ·exact List.length_set
  ·rfl
section
variable {W:Wd}{E0:Hp}{N:Addr->Prop}{pin:List (Nat×V)}{A:Fr}{σ:St}{H:Hp}{F:Nat->List Addr}
noncomputable def unF (ns:List Nat)(F:Nat->List Addr):Nat->List Addr:=fun j=>if j∈ns then [] else F j
theorem zAM {ns:List Nat}{j:Nat}{b:Addr}(h:b∈unF ns F j):j∉ns/\b∈F j:=by
 unfold unF at h;by_cases z:j∈ns
 ·rw[if_pos z] at h; simp at h
 ·rw[if_neg z] at h; exact⟨z,h⟩
theorem zCj {ns:List Nat}{b:Addr}(h:hidF N (unF ns F) b):hidF N F b:=h.imp id fun⟨j,q⟩=>⟨j,(zAM q).2⟩
theorem FrF.see (f:FrF W E0 N pin A σ H F){ns:List Nat}{i:Nat}(hi:i∈ns){x:KD}(h:A[i]? = some (some x)):∃v,σ[i]? = some (some v)/\Den W (hid (hidF N (unF ns F)) H) v x.2:=by
 obtain⟨v,h1,o⟩:=f.rel i x h;refine⟨v,h1,o.den (fun b u e=>?_) fun b hb u e=>zAa.mpr ⟨fun z=>?_,e⟩⟩
 ·obtain⟨g1,g2⟩:=zAa.mp e;exact zAa.mpr ⟨fun z=>g1 (zCj z),g2⟩
 ·rcases z with z | ⟨j,z⟩
  ·exact (f.fr i b hb).2 z
  ·obtain⟨z1,z2⟩:=zAM z;exact z1 (f.dj i j b hb z2 ▸ hi)
theorem FrF.frz (f:FrF W E0 N pin A σ H F)(ns:List Nat):FrF W E0 N pin (frz ns A) σ H (unF ns F) where
 sub:=f.sub
 nok:=f.nok
 len:=by rw[zHi]; exact f.len
 pn:=f.pn
 nd:=fun i=>by
  unfold unF;split
  ·exact .nil
  ·exact f.nd i
 dj:=fun i j b h1 h2=>f.dj i j b (zAM h1).2 (zAM h2).2
 fr:=fun i b h=>f.fr i b (zAM h).2
 rel:=fun i x e=>by
  rw[zDp] at e;by_cases hi:i∈ns
  ·rw[if_pos hi] at e;obtain⟨o,e1,e2⟩:=zp5 e;obtain⟨y,e3,e4⟩:=zp5 e2;rw[e3] at e1;subst e4;obtain⟨v,h1,h2⟩:=f.see hi e1;exact⟨v,h1,by unfold unF; rw[if_pos hi]; exact⟨rfl,h2⟩⟩
  ·rw[if_neg hi] at e;obtain⟨v,h1,o⟩:=f.rel i x e;refine⟨v,h1,?_⟩;have:unF ns F i=F i:=by unfold unF; rw[if_neg hi]
   rw[this];exact o.mono (fun b u e=>zAa.mpr ⟨fun z=>(zAa.mp e).1 (zCj z),(zAa.mp e).2⟩) fun _ _ _ e=>e
 em:=fun i h=>by
  unfold unF;by_cases hi:i∈ns
  ·rw[if_pos hi]
  ·rw[if_neg hi];exact f.em i fun x z=>h x (by rw[zDp,if_neg hi]; exact z)
def FrV (W:Wd)(E0:Hp)(N:Addr->Prop)(pin:List (Nat×V))(A:Fr)(σ:St)(H:Hp)(x:KD)(v:V):Prop:=
 ∃(fp:List Addr) (F:Nat->List Addr),FrF W E0 (fun b=>N b\/b∈fp) pin A σ H F/\fp.Nodup/\(∀b∈fp,E0 b=none/\¬N b)/\Own W (hid (hidF (fun b=>N b\/b∈fp) F) H) H x.1 v x.2 fp
def FrX (W:Wd)(E0:Hp)(N:Addr->Prop)(pin:List (Nat×V))(A:Fr)(σ:St)(H:Hp)(c:Nat)(fs:List (Nat×D))(e:Addr):Prop:=
 ∃(F:Nat->List Addr),FrF W E0 N pin A σ H F/\(E0 e=none/\¬hidF N F e)/\∃C vs,H e=some (.exc C false vs)/\W.xA c=some C/\DenF W (hid (hidF N F) H) vs fs
theorem zGd (f:FrF W E0 N pin A σ H F){H':Hp}(hs:Sub H H'){M:Addr->Prop}(hM:∀b,hidF N F b->M b\/∃j,b∈F j){fp:List Addr}:TupSub W (hid (fun b=>M b\/b∈fp) H') (hid (hidF (fun b=>N b\/b∈fp) F) H'):=by
 intro a vs h;rcases h with h | h
 ·refine .inl ?_;have noF:∀j,a∉F j:=fun j z=>by
   have h':Rd H' a (.tup vs):=Rd.sub zAc h;cases q:H a with
   | none=>exact f.dom z q
   | some o=>
    have e:=hs a o q;refine f.noTup z vs ?_;rcases h' with h' | ⟨u,h'⟩
    ·rw[e] at h'; cases h'; exact .inl q
    ·rw[e] at h'; cases h'; exact .inr ⟨u,q⟩
  have vis:∀o,hid (fun b=>M b\/b∈fp) H' a=some o->hid (hidF (fun b=>N b\/b∈fp) F) H' a=some o:=fun o e=>by
   obtain⟨g1,g2⟩:=zAa.mp e;refine zAa.mpr ⟨fun z=>?_,g2⟩;rcases z with (z | z) | ⟨j,z⟩
   ·rcases hM a (.inl z) with y | ⟨j,y⟩
    ·exact g1 (.inl y)
    ·exact noF j y
   ·exact g1 (.inr z)
   ·exact noF j z
  rcases h with h | ⟨u,h⟩
  ·exact .inl (vis _ h)
  ·exact .inr ⟨u,vis _ h⟩
 ·exact .inr h
theorem allN (A:Fr):frzA A=frz (List.range A.length) A:=by
 apply List.ext_getElem?;intro i;rw[zDp];unfold frzA;rw[List.getElem?_map];by_cases h:i<A.length
 ·rw[if_pos (List.mem_range.mpr h)]
 ·rw[if_neg fun z=>h (List.mem_range.mp z),List.getElem?_eq_none (by omega)];rfl
theorem FrF.excIn {ns:List Nat}{c:Nat}{fs:List (Nat×D)}{a:Addr}{H':Hp}(f:FrF W E0 N pin A σ H F)(r:ExcR W H (hidF N (unF ns F)) H' c fs a):FrX W E0 N pin (excA A fs) σ H' c fs a:=by
 obtain⟨hs,ha,C,vs,hc,hx,hd⟩:=r;have nhid:¬hidF N F a:=fun z=>z.elim (fun y=>f.nok a y ha) fun⟨j,y⟩=>f.dom y ha;have g:=f.grow hs (fp:=[]) fun b z=>by simp at z
 have eN:∀b,(N b\/b∈([]:List Addr))↔N b:=fun b=>by simp
 have g0:FrF W E0 N pin A σ H' F:=by
  have:(fun b=>N b\/b∈([]:List Addr))=N:=funext fun b=>propext (eN b);rw[this] at g; exact g
 unfold excA;by_cases hf:(fs.all fun p=>p.2.flat)=true
 ·rw[if_pos hf];refine⟨F,g0,⟨f.sub.none ha,nhid⟩,C,vs,hc,hx,?_⟩;have ts:=zGd (M:=hidF N (unF ns F)) (fp:=[]) f hs (fun b z=>z.elim (fun y=>.inl (.inl y)) .inr);have e1:(fun b=>hidF N (unF ns F) b\/b∈([]:List Addr))=hidF N (unF ns F):=funext fun b=>propext (by simp);have e2:(fun b=>N b\/b∈([]:List Addr))=N:=funext fun b=>propext (eN b);rw[e1,e2] at ts;exact hd.hide ts hf
 ·rw[if_neg hf,allN];refine⟨unF (List.range A.length) F,g0.frz _,⟨f.sub.none ha,fun z=>nhid (zCj z)⟩,C,vs,hc,hx,hd.mono fun b u e=>?_⟩;obtain⟨g1,g2⟩:=zAa.mp e;refine zAa.mpr ⟨fun z=>g1 ?_,g2⟩;rcases z with z | ⟨j,z⟩
  ·exact .inl z
  ·obtain⟨z1,z2⟩:=zAM z;exfalso;have:∃x,A[j]? = some (some x):=by
    by_cases y:∃x,A[j]? = some (some x)
    ·exact y
    ·rw[f.em j fun x w=>y ⟨x,w⟩] at z2; simp at z2
   obtain⟨x,hx⟩:=this;exact z1 (List.mem_range.mpr (zp6 hx).1)
theorem evA {G:Pg}{cl:Nat->List KD->Ip.Run}{E:St->XK}{Q:VK}{e:Ex}(f:FrF W E0 N pin A σ H F)(h:match Ip.eval G cl A.sl e with
  | .ok x=>∀v H',FrV W E0 N pin (Ip.settle e.names A x) σ H' x v->Q v H'
  | .exc c fs=>∀a H',FrX W E0 N pin (excA A fs) σ H' c fs a->E σ (.ref a) none H'
  | .bad=>False):evT W G cl e E σ H Q:=by
 have f1:=f.frz e.names;have hN:NOk (hidF N (unF e.names F)) H:=fun b z=>z.elim (f.nok b) fun⟨j,q⟩=>f1.dom q;refine⟨hidF N (unF e.names F),mask e.names A.sl,hN,fun i d hi=>?_,?_⟩
 ·obtain⟨h1,h2⟩:=zCu hi;obtain⟨k,h3⟩:=zEs h2;exact f.see h1 h3
 rw[<-zAk (a:=A.sl) e fun i hi=>zED hi];cases q:Ip.eval G cl A.sl e with
 | bad=>rw[q] at h; exact h
 | exc c fs=>
  rw[q] at h;exact fun a H' r=>h a H' (f.excIn r)
 | ok x=>
  rw[q] at h;rintro v H' ⟨hs,fp,nd,hf,o⟩;refine h v H' ⟨fp,?_⟩;have hfp:∀b∈fp,H b=none/\H' b≠none:=fun b hb=>⟨hf b hb,o.dom b hb⟩
  have fr:∀b∈fp,E0 b=none/\¬N b:=fun b hb=>⟨f.sub.none (hf b hb),fun z=>f.nok b z (hf b hb)⟩
  unfold Ip.settle;by_cases hb:D.fb x.1 x.2=true
  ·rw[if_pos hb];exact⟨F,f.grow hs hfp,nd,fr,o.hide (zGd f hs fun b z=>z.elim (fun y=>.inl (.inl y)) .inr) hb⟩
  ·rw[if_neg hb];refine⟨unF e.names F,f1.grow hs hfp,nd,fr,o.mono (fun b u e=>?_) fun _ _ _ e=>e⟩;obtain⟨g1,g2⟩:=zAa.mp e;refine zAa.mpr ⟨fun z=>g1 ?_,g2⟩;rcases z with (z | z) | z
   ·exact .inl (.inl z)
   ·exact .inr z
   ·exact .inl (.inr z)
end
end L2
end
section
namespace L2
open PySem PySem.Spec PyProof.Rows
open Ip (D KD Ex Op Pg Fn Sl Fr Wk Tg Tb O SL addK bindF cE cF cI cRet cS cT enter zAr zAb fin fnN foB foO frz isLst isTy isVis loopD mut0 mutO noStar okAt okName outs pos? pos?_get ps? setF setFs tgOf tyT whB whT whlD wkD wkOk)
noncomputable def PostS (W:Wd)(E0:Hp)(N:Addr->Prop)(pin:List (Nat×V))(E:St->XK)(Dn:Ends):O->Prop
 | .nx A=>∀σ H F,FrF W E0 N pin A σ H F->Dn.nx σ H
 | .ret k d A=>∀v σ H,FrV W E0 N pin A σ H (k,d) v->Dn.rt v H
 | .brk A=>∀σ H F,FrF W E0 N pin A σ H F->Dn.bk σ H
 | .cnt A=>∀σ H F,FrF W E0 N pin A σ H F->Dn.ct σ H
 | .exc c fs A=>∀e σ H,FrX W E0 N pin A σ H c fs e->E σ (.ref e) none H
 | .bad=>False
def exT (W:Wd)(G:Pg)(n:Nat)(io:List Nat)(E:St->XK)(s:Ip.S):TS:=fun Dn σ H=>∃(E0:Hp) (N:Addr->Prop) (pin:List (Nat×V)) (A:Fr) (F:Nat->List Addr),(∀p∈pin,p.1∈io)/\FrF W E0 N pin A σ H F/\PostS W E0 N pin E Dn (Ip.exec G (Ip.run G n) io A s)
def exsT (W:Wd)(G:Pg)(n:Nat)(io:List Nat)(E:St->XK)(ss:List Ip.S):TS:=fun Dn σ H=>∃(E0:Hp) (N:Addr->Prop) (pin:List (Nat×V)) (A:Fr) (F:Nat->List Addr),(∀p∈pin,p.1∈io)/\FrF W E0 N pin A σ H F/\PostS W E0 N pin E Dn (Ip.execs G (Ip.run G n) io A ss)
section
variable {X:Cx}{W:Wd}{G:Pg}{n:Nat}{io:List Nat}{E:St->XK}{E0:Hp}{N:Addr->Prop}{pin:List (Nat×V)}{A:Fr}{σ:St}{H:Hp}{F:Nat->List Addr}
theorem zAB {st:Stmt}:PS X st (exT W G n io E .bad):=fun pins s σ H Dn I ⟨_,_,_,_,_,_,_,h⟩=>by
 rw[Ip.zIL] at h; exact h.elim
theorem zNG:PSs X [] (exsT W G n io E []):=zKr.mono fun Dn σ H ⟨_,_,_,_,_,_,f,h⟩=>by
 rw[Ip.zCC] at h;exact h _ _ _ f
theorem zLL {st:Stmt}{sts:List Stmt}{s:Ip.S}{ss:List Ip.S}(h1:PS X st (exT W G n io E s))(h2:PSs X sts (exsT W G n io E ss)):PSs X (st::sts) (exsT W G n io E (s::ss)):=
 (zH2 h1 h2).mono fun Dn σ H ⟨E0,N,pin,A,F,hp,f,h⟩=>by
  refine⟨E0,N,pin,A,F,hp,f,?_⟩;rw[Ip.zAN] at h;cases q:Ip.exec G (Ip.run G n) io A s with
  | nx A'=>
   rw[q] at h;exact fun σ' H' F' f'=>⟨E0,N,pin,A',F',hp,f',h⟩
  | ret k d A'=>rw[q] at h; exact h
  | brk A'=>rw[q] at h; exact h
  | cnt A'=>rw[q] at h; exact h
  | exc c fs A'=>rw[q] at h; exact h
  | bad=>rw[q] at h; exact h
theorem FrV.set {x:KD}{v:V}{i:Nat}(f:FrV W E0 N pin A σ H x v)(hi:∀p∈pin,p.1≠i)(hl:i<A.length):∃F,FrF W E0 N pin (A.set i (some x)) (σ.set i (some v)) H F:=by
 obtain⟨fp,F,f,nd,fr,o⟩:=f;have hlt:i < σ.length:=by rw[f.len]; exact hl
 refine⟨fun j=>if j=i then fp else F j,⟨f.sub,fun b z=>f.nok b (.inl z),by rw[List.length_set,List.length_set]; exact f.len,fun p hp=>by rw[List.getElem?_set_ne fun z=>hi p hp z.symm]; exact f.pn p hp,fun j=>?_,fun j k b h1 h2=>?_,fun j b h=>?_,fun j y h=>?_,fun j h=>?_⟩⟩
 ·by_cases z:j=i
  ·rw[if_pos z]; exact nd
  ·rw[if_neg z]; exact f.nd j
 ·by_cases z:j=i
  ·rw[if_pos z] at h1;by_cases y:k=i
   ·rw[z,y]
   ·rw[if_neg y] at h2;exact absurd (.inr h1) (f.fr k b h2).2
  ·rw[if_neg z] at h1;by_cases y:k=i
   ·rw[if_pos y] at h2;exact absurd (.inr h2) (f.fr j b h1).2
   ·rw[if_neg y] at h2;exact f.dj j k b h1 h2
 ·by_cases z:j=i
  ·rw[if_pos z] at h; exact fr b h
  ·rw[if_neg z] at h;exact⟨(f.fr j b h).1,fun y=>(f.fr j b h).2 (.inl y)⟩
 ·have sub:Sub (hid (hidF (fun b=>N b\/b∈fp) F) H) (hid (hidF N fun j=>if j=i then fp else F j) H):=fun b u e=>by
   obtain⟨g1,g2⟩:=zAa.mp e;refine zAa.mpr ⟨fun z=>g1 ?_,g2⟩;rcases z with z | ⟨k,z⟩
   ·exact .inl (.inl z)
   ·by_cases y:k=i
    ·simp only[if_pos y] at z; exact .inl (.inr z)
    ·simp only[if_neg y] at z; exact .inr ⟨k,z⟩
  by_cases z:j=i
  ·subst z;rw[List.getElem?_set_self hl] at h;cases h;refine⟨v,List.getElem?_set_self hlt,?_⟩;simp only[if_true];exact o.mono sub fun _ _ _ e=>e
  ·rw[List.getElem?_set_ne fun y=>z y.symm] at h;obtain⟨w,h1,h2⟩:=f.rel j y h;refine⟨w,by rw[List.getElem?_set_ne fun y=>z y.symm]; exact h1,?_⟩;simp only[if_neg z];exact h2.mono sub fun _ _ _ e=>e
 ·by_cases z:j=i
  ·subst z;exact absurd (List.getElem?_set_self hl) (h x)
  ·simp only[if_neg z];exact f.em j fun y w=>h y (by rw[List.getElem?_set_ne fun y=>z y.symm]; exact w)
theorem FrF.weaken {E1:Hp}(f:FrF W E1 N pin A σ H F)(h:Sub E0 E1):FrF W E0 N pin A σ H F:=
 ⟨h.trans f.sub,f.nok,f.len,f.pn,f.nd,f.dj,fun i b hb=>⟨h.none (f.fr i b hb).1,(f.fr i b hb).2⟩,f.rel,f.em⟩
theorem PostS.strong {E1:Hp}{Dn:Ends}{o:O}(h:Sub E0 E1)(p:PostS W E0 N pin E Dn o):PostS W E1 N pin E Dn o:=by
 cases o with
 | nx A=>exact fun σ H F f=>p σ H F (f.weaken h)
 | ret k d A=>exact fun v σ H ⟨fp,F,f,nd,fr,o⟩=>p v σ H ⟨fp,F,f.weaken h,nd,fun b hb=>⟨h.none (fr b hb).1,(fr b hb).2⟩,o⟩
 | brk A=>exact fun σ H F f=>p σ H F (f.weaken h)
 | cnt A=>exact fun σ H F f=>p σ H F (f.weaken h)
 | exc c fs A=>exact fun e σ H ⟨F,f,he,q⟩=>p e σ H ⟨F,f.weaken h,⟨h.none he.1,he.2⟩,q⟩
 | bad=>exact p
theorem evO {Q:VK}{e:Ex}{Dn:Ends}{k:KD->O}(f:FrF W E0 N pin A σ H F)(h:PostS W E0 N pin E Dn ((Ip.eval G (Ip.run G n) A.sl e).toO A k))
  (ok:∀x,Ip.eval G (Ip.run G n) A.sl e=.ok x->PostS W E0 N pin E Dn (k x)->∀v H',FrV W E0 N pin (Ip.settle e.names A x) σ H' x v->Q v H'):evT W G (Ip.run G n) e E σ H Q:=by
 refine evA f ?_;cases q:Ip.eval G (Ip.run G n) A.sl e with
 | bad=>rw[q] at h; exact h
 | exc c fs=>rw[q] at h; exact fun a H' x=>h a σ H' x
 | ok x=>rw[q] at h; exact ok x q h
theorem zJR {e:Ex}{i:Nat}{Dn:Ends}(h:exT W G n io E (.set i e) Dn σ H):evT W G (Ip.run G n) e E σ H fun v H1=>Dn.nx (σ.set i (some v)) H1:=by
 obtain⟨E0,N,pin,A,F,hp,f,h⟩:=h;rw[Ip.zBz] at h;refine evO f h fun x ex hk v H' fv=>?_;unfold setF at hk;by_cases c:io.contains i=false/\i<(Ip.settle e.names A x).length
 ·rw[if_pos c] at hk;obtain⟨F',f'⟩:=fv.set (fun p hp' z=>by have:=hp p hp'; rw[z] at this; have c1:=c.1; simp[this] at c1) c.2;exact hk _ _ _ f'
 ·rw[if_neg c] at hk; exact hk.elim
theorem FrV.drop {x:KD}{v:V}(h:FrV W E0 N pin A σ H x v):∃F,FrF W E0 N pin A σ H F/\Den W (hid (hidF N F) H) v x.2:=by
 obtain⟨fp,F',f',nd,fr,o⟩:=h;refine⟨F',⟨f'.sub,fun b z=>f'.nok b (.inl z),f'.len,f'.pn,f'.nd,f'.dj,fun i b hb=>⟨(f'.fr i b hb).1,fun z=>(f'.fr i b hb).2 (.inl z)⟩,fun i y hy=>?_,f'.em⟩,?_⟩
 ·obtain⟨w,h1,h2⟩:=f'.rel i y hy;refine⟨w,h1,h2.mono (fun b u e=>?_) fun _ _ _ e=>e⟩;obtain⟨g1,g2⟩:=zAa.mp e;exact zAa.mpr ⟨fun z=>g1 (z.imp .inl id),g2⟩
 ·refine o.den (fun b u e=>?_) fun b hb u e=>zAa.mpr ⟨fun z=>?_,e⟩
  ·obtain⟨g1,g2⟩:=zAa.mp e;exact zAa.mpr ⟨fun z=>g1 (z.imp .inl id),g2⟩
  ·rcases z with z | ⟨j,z⟩
   ·exact (fr b hb).2 z
   ·exact (f'.fr j b z).2 (.inr hb)
theorem x_ex {e:Ex}{Dn:Ends}(h:exT W G n io E (.ex e) Dn σ H):evT W G (Ip.run G n) e E σ H fun v H1=>Dn.nx σ H1:=by
 obtain⟨E0,N,pin,A,F,hp,f,h⟩:=h;rw[Ip.zEI] at h;refine evO f h fun x ex hk v H' fv=>?_;obtain⟨F',f',_⟩:=fv.drop;exact hk σ H' F' f'
theorem zLK {e:Ex}{Dn:Ends}(hv:∀i,e≠.var i)(h:exT W G n io E (.ret e) Dn σ H):evT W G (Ip.run G n) e E σ H Dn.rt:=by
 obtain⟨E0,N,pin,A,F,hp,f,h⟩:=h;rw[Ip.zCh] at h;have e1:Ip.retO A e (Ip.eval G (Ip.run G n) A.sl e)=(Ip.eval G (Ip.run G n) A.sl e).toO A fun x=>.ret x.1 x.2 (Ip.settle e.names A x):=by
  cases e <;> first | rfl | exact absurd rfl (hv _)
 rw[e1] at h;exact evO f h fun x ex hk v H' fv=>hk v σ H' fv
theorem FrF.moved {i:Nat}{x:KD}(f:FrF W E0 N pin A σ H F)(q:A[i]? = some (some x)):∃v,σ[i]? = some (some v)/\FrV W E0 N pin (A.set i none) σ H x v:=by
 obtain⟨v,hv,ow⟩:=f.rel i x q;have hl:i<A.length:=(zp6 q).1;have eqH:∀b,hidF (fun b=>N b\/b∈F i) (unF [i] F) b↔hidF N F b:=fun b=>by
  constructor
  ·intro z;rcases z with (z | z) | ⟨j,z⟩
   ·exact .inl z
   ·exact .inr ⟨i,z⟩
   ·exact .inr ⟨j,(zAM z).2⟩
  ·intro z;rcases z with z | ⟨j,z⟩
   ·exact .inl (.inl z)
   ·by_cases y:j=i
    ·rw[y] at z; exact .inl (.inr z)
    ·exact .inr ⟨j,by unfold unF; rw[if_neg (by simpa using y)]; exact z⟩
 have eqF:hidF (fun b=>N b\/b∈F i) (unF [i] F)=hidF N F:=funext fun b=>propext (eqH b);refine⟨v,hv,⟨F i,unF [i] F,?_,f.nd i,fun b hb=>f.fr i b hb,by rw[eqF]; exact ow⟩⟩;refine⟨f.sub,fun b z=>z.elim (f.nok b) fun y=>f.dom y,by rw[List.length_set]; exact f.len,f.pn,fun j=>?_,fun j k b h1 h2=>f.dj j k b (zAM h1).2 (zAM h2).2,fun j b hb=>?_,fun j y hy=>?_,fun j hj=>?_⟩
 ·unfold unF;split
  ·exact .nil
  ·exact f.nd j
 ·obtain⟨z1,z2⟩:=zAM hb;refine⟨(f.fr j b z2).1,fun z=>z.elim (f.fr j b z2).2 fun y=>z1 ?_⟩;rw[f.dj j i b z2 y]; simp
 ·by_cases z:j=i
  ·subst z;rw[List.getElem?_set_self hl] at hy; cases hy
  ·rw[List.getElem?_set_ne fun y=>z y.symm] at hy;obtain⟨w,h1,h2⟩:=f.rel j y hy;refine⟨w,h1,?_⟩;have:unF [i] F j=F j:=by unfold unF; rw[if_neg (by simpa using z)]
   rw[this,eqF];exact h2
 ·unfold unF;by_cases z:j=i
  ·rw[if_pos (by simpa using z)]
  ·rw[if_neg (by simpa using z)];exact f.em j fun y w=>hj y (by rw[List.getElem?_set_ne fun y=>z y.symm]; exact w)
theorem zLI {i:Nat}{Dn:Ends}(h:exT W G n io E (.ret (.var i)) Dn σ H):∃v,σ[i]? = some (some v)/\Dn.rt v H:=by
 obtain⟨E0,N,pin,A,F,hp,f,h⟩:=h;rw[Ip.zCh,Ip.zE1] at h;cases q:A[i]? with
 | none=>rw[q] at h; exact h.elim
 | some o=>
  cases o with
  | none=>rw[q] at h; exact h.elim
  | some x=>
   rw[q] at h;obtain⟨v,hv,fv⟩:=f.moved q;exact⟨v,hv,h v σ H fv⟩
theorem zLJ {s:Str}{i:Nat}{Dn:Ends}(h:exT W G n io E (.retP s i) Dn σ H):tRet (tTup (tCons (tC (.str s)) (tCons (tVar i) tNil))) Dn σ H:=by
 obtain⟨E0,N,pin,A,F,hp,f,h⟩:=h;rw[Ip.zD4] at h;cases q:A[i]? with
 | none=>rw[q] at h; exact h.elim
 | some o=>
  cases o with
  | none=>rw[q] at h; exact h.elim
  | some x=>
   rw[q] at h;obtain⟨v,hv,fp,F',f',nd,fr,ow⟩:=f.moved q;refine⟨v,hv,zm9 (show 2<=2 from zm8 _) (by decide),fun p hp'=>?_⟩;have sub:Sub H (upd H p (.tup [.str s,v])):=Sub.upd hp';have g:=f'.grow sub (fp:=[]) fun b z=>by simp at z
   have eN:(fun b=>(N b\/b∈fp)\/b∈([]:List Addr))=fun b=>N b\/b∈fp:=funext fun b=>propext (by simp);rw[eN] at g;have pn:¬hidF (fun b=>N b\/b∈fp) F' p:=fun z=>z.elim (fun y=>f'.nok p y hp') fun⟨j,y⟩=>f'.dom y hp';refine h _ σ _ ⟨fp,F',g,nd,fr,p,[.str s,v],rfl,SqT.of (zAa.mpr ⟨pn,zAi⟩),?_⟩;have o2:Own W (hid (hidF (fun b=>N b\/b∈fp) F') (upd H p (.tup [.str s,v]))) (upd H p (.tup [.str s,v])) x.1 v x.2 fp:=ow.mono (zAz sub fun _ z=>.inl z) fun b _ u e=>sub b u e;have:=OwnL.cons (f:=[]) (Own.flat (k:=x.1) (H:=upd H p (.tup [.str s,v])) (d:=.str s) rfl (.str (S:=hid (hidF (fun b=>N b\/b∈fp) F') (upd H p (.tup [.str s,v]))))) (OwnL.cons o2 .nil);simpa using this
theorem evB {Q:Bool->Hp->Prop}{e:Ex}{Dn:Ends}{k:Bool->O}(f:FrF W E0 N pin A σ H F)(h:PostS W E0 N pin E Dn (((Ip.eval G (Ip.run G n) A.sl e).bl).toO A k))
  (ok:∀b,PostS W E0 N pin E Dn (k b)->∀H',FrF W E0 N pin A σ H' F->Q b H'):evTb W G (Ip.run G n) e E σ H Q:=by
 have f1:=f.frz e.names;have hN:NOk (hidF N (unF e.names F)) H:=fun b z=>z.elim (f.nok b) fun⟨j,q⟩=>f1.dom q;have grow0:∀H',Sub H H'->FrF W E0 N pin A σ H' F:=fun H' hs=>by
  have g:=f.grow hs (fp:=[]) fun b z=>by simp at z
  have:(fun b=>N b\/b∈([]:List Addr))=N:=funext fun b=>propext (by simp);rw[this] at g; exact g
 refine⟨hidF N (unF e.names F),mask e.names A.sl,hN,fun i d hi=>?_,?_⟩
 ·obtain⟨h1,h2⟩:=zCu hi;obtain⟨k,h3⟩:=zEs h2;exact f.see h1 h3
 rw[<-zAk (a:=A.sl) e fun i hi=>zED hi];cases q:Ip.eval G (Ip.run G n) A.sl e with
 | bad=>rw[q] at h; exact h
 | exc c fs=>
  rw[q] at h;exact fun a H' r=>h a σ H' (f.excIn r)
 | ok x=>
  obtain⟨kx,d⟩:=x;rw[q] at h;cases d <;> try (exact h.elim)
  rename_i b;exact fun H' hs=>ok b h H' (grow0 H' hs)
end
section
variable {X:Cx}{W:Wd}{G:Pg}{n:Nat}{io:List Nat}{E:St->XK}{E0:Hp}{N:Addr->Prop}{pin:List (Nat×V)}{A:Fr}{σ:St}{H:Hp}{F:Nat->List Addr}
theorem zNH {c:Ex}{t e:List Ip.S}{Dn:Ends}(h:exT W G n io E (.iff c t e) Dn σ H):tIfS (evTb W G (Ip.run G n) c E) (exsT W G n io E t) (exsT W G n io E e) Dn σ H:=by
 obtain⟨E0,N,pin,A,F,hp,f,h⟩:=h;rw[Ip.zFn] at h;unfold tIfS;refine evB f h fun b hk H' f'=>?_;cases b with
 | true=>rw[if_pos rfl] at hk ⊢; exact⟨E0,N,pin,A,F,hp,f',hk⟩
 | false=>rw[if_neg (by decide)] at hk ⊢; exact⟨E0,N,pin,A,F,hp,f',hk⟩
theorem zHL {test:Fr->Ip.R Bool}{body:Fr->O}{m:Nat}{A:Fr}:whlD test body (m+1) A=(test A).toO A fun b=>if b=true then (match body A with
  | .nx A=>whlD test body m A
  | .cnt A=>whlD test body m A
  | .brk A=>.nx A
  | o=>o) else .nx A:=by
 rw[whlD];cases test A with
 | ok b=>cases b <;> rfl
 | exc c fs=>rfl
 | bad=>rfl
theorem zJQ {c:Ex}{b:List Ip.S}{Dn:Ends}(h:exT W G n io E (.whl c b) Dn σ H):tWhile (evTb W G (Ip.run G n) c E) (exsT W G n io E b) Dn σ H:=by
 obtain⟨E0,N,pin,A,F,hp,f,h⟩:=h;rw[Ip.zFm] at h;unfold tWhile;refine⟨fun m σ H=>∃A F,FrF W E0 N pin A σ H F/\PostS W E0 N pin E Dn (whlD (whT G (Ip.run G n) c) (whB G (Ip.run G n) io b) m A),⟨10000,A,F,f,h⟩,?_⟩;rintro m σ1 H1 ⟨A1,F1,f1,h1⟩;cases m with
 | zero=>exact h1.elim
 | succ m=>
  rw[zHL] at h1;refine evB f1 h1 fun bb hk H' f'=>?_;cases bb with
  | false=>rw[if_neg (by decide)] at hk ⊢; exact hk _ _ _ f'
  | true=>
   rw[if_pos rfl] at hk ⊢;refine⟨fun σ H=>∃A F,FrF W E0 N pin A σ H F/\PostS W E0 N pin E Dn (whlD (whT G (Ip.run G n) c) (whB G (Ip.run G n) io b) m A),fun σ' H' ⟨A',F',f',p'⟩=>⟨m,Nat.lt_succ_self _,A',F',f',p'⟩,E0,N,pin,A1,F1,hp,f',?_⟩;have qe:whB G (Ip.run G n) io b A1=Ip.execs G (Ip.run G n) io A1 b:=rfl;rw[qe] at hk;cases q:Ip.execs G (Ip.run G n) io A1 b with
   | nx A'=>rw[q] at hk; exact fun σ H F f=>⟨A',F,f,hk⟩
   | cnt A'=>rw[q] at hk; exact fun σ H F f=>⟨A',F,f,hk⟩
   | brk A'=>rw[q] at hk; exact fun σ H F f=>hk σ H F f
   | ret k d A'=>rw[q] at hk; exact hk
   | exc c fs A'=>rw[q] at hk; exact hk
   | bad=>rw[q] at hk; exact hk
theorem FrF.set0 {v:V}{d:D}{i:Nat}(f:FrF W E0 N pin A σ H F)(hd:Den W (hid (hidF N F) H) v d)(hi:∀p∈pin,p.1≠i)(hl:i<A.length):FrF W E0 N pin (A.set i (some (0,d))) (σ.set i (some v)) H (unF [i] F):=by
 have hlt:i < σ.length:=by rw[f.len]; exact hl
 refine⟨f.sub,f.nok,by rw[List.length_set,List.length_set]; exact f.len,fun p hp=>by rw[List.getElem?_set_ne fun z=>hi p hp z.symm]; exact f.pn p hp,fun j=>?_,fun j k b h1 h2=>f.dj j k b (zAM h1).2 (zAM h2).2,fun j b hb=>f.fr j b (zAM hb).2,fun j y hy=>?_,fun j hj=>?_⟩
 ·unfold unF;split
  ·exact .nil
  ·exact f.nd j
 ·have sub:Sub (hid (hidF N F) H) (hid (hidF N (unF [i] F)) H):=fun b u e=>zAa.mpr ⟨fun z=>(zAa.mp e).1 (zCj z),(zAa.mp e).2⟩;by_cases z:j=i
  ·subst z;rw[List.getElem?_set_self hl] at hy;cases hy;refine⟨v,List.getElem?_set_self hlt,?_⟩;unfold unF;rw[if_pos (by simp)];exact⟨rfl,hd.mono sub⟩
  ·rw[List.getElem?_set_ne fun y=>z y.symm] at hy;obtain⟨w,h1,h2⟩:=f.rel j y hy;refine⟨w,by rw[List.getElem?_set_ne fun y=>z y.symm]; exact h1,?_⟩;have:unF [i] F j=F j:=by unfold unF; rw[if_neg (by simpa using z)]
   rw[this];exact h2.mono sub fun _ _ _ e=>e
 ·unfold unF;by_cases z:j=i
  ·rw[if_pos (by simpa using z)]
  ·rw[if_neg (by simpa using z)];exact f.em j fun y w=>hj y (by rw[List.getElem?_set_ne fun y=>z y.symm]; exact w)
theorem zJV {ns:List Nat}:Sub (hid (hidF N F) H) (hid (hidF N (unF ns F)) H):=fun b u e=>zAa.mpr ⟨fun z=>(zAa.mp e).1 (zCj z),(zAa.mp e).2⟩
theorem zJn {i:Nat}(hp:∀p∈pin,p.1∈io)(h:io.contains i=false):∀p∈pin,p.1≠i:=fun p hp' z=>by
 have:=hp p hp';rw[z] at this;simp[this] at h
theorem zHg {Dn:Ends}{Q:St->Hp->Prop}{k:Fr->O}(hp:∀p∈pin,p.1∈io)(hQ:∀A F σ,FrF W E0 N pin A σ H F->PostS W E0 N pin E Dn (k A)->Q σ H) :
  ∀{is:List Nat} {vs:List V} {ds:List D} {A:Fr} {σ:St} {F:Nat->List Addr},Dens W (hid (hidF N F) H) vs ds->FrF W E0 N pin A σ H F->PostS W E0 N pin E Dn ((setFs io is (ds.map fun d=>(0,d)) A).seq k)->gTs is vs σ H Q
 | [],_,_,A,σ,F,.nil,f,h=>⟨rfl,hQ A F σ f h⟩
 | [],_,_,_,_,_,.cons _ _,_,h=>h.elim
 | _::_,_,_,_,_,_,.nil,_,h=>h.elim
 | i::is,_,_,A,σ,F,.cons hd q,f,h=>by
  refine⟨_,_,rfl,?_⟩;show gTs is _ (σ.set i (some _)) H Q;simp only[List.map_cons,setFs] at h;unfold setF at h;by_cases c:io.contains i=false/\i<A.length
  ·rw[if_pos c] at h;exact zHg hp hQ (q.mono zJV) (f.set0 hd (zJn hp c.1) c.2) h
  ·rw[if_neg c] at h; exact h.elim
theorem zMX {tg:Tg}{v:V}{d:D}{Dn:Ends}{Q:St->Hp->Prop}{k:Fr->O}(hK:W.K=X.K)(hp:∀p∈pin,p.1∈io)(hd:Den W (hid (hidF N F) H) v d)(f:FrF W E0 N pin A σ H F)(h:PostS W E0 N pin E Dn ((bindF io tg d A).seq k))
  (hQ:∀A F σ,FrF W E0 N pin A σ H F->PostS W E0 N pin E Dn (k A)->Q σ H):gT X.K tg v σ H Q:=by
 cases tg with
 | one i=>
  simp only[bindF] at h;unfold setF at h;by_cases c:io.contains i=false/\i<A.length
  ·rw[if_pos c] at h;exact hQ _ _ _ (f.set0 hd (zJn hp c.1) c.2) h
  ·rw[if_neg c] at h; exact h.elim
 | many is=>
  cases hd <;> simp only[bindF] at h <;> try (exact h.elim)
  ·rename_i a vs ds h1 h2;exact .inr ⟨a,vs,rfl,.inl (Rd.sub zAc h1),h2.length.trans (len_of h),zHg hp hQ h2 f h⟩
  ·rename_i a vs ds h1 h2;exact .inl ⟨a,vs,rfl,hK ▸ SqT.sub zAc h1,h2.length.trans (len_of h),zHg hp hQ h2 f h⟩
where
 len_of {E0:Hp} {Dn:Ends} {k:Fr->O}:∀{is:List Nat} {ds:List D} {A:Fr},PostS W E0 N pin E Dn ((setFs io is (ds.map fun d=>(0,d)) A).seq k)->ds.length=is.length
  | [],[],_,_=>rfl
  | [],_::_,_,h=>h.elim
  | _::_,[],_,h=>h.elim
  | i::is,d::ds,A,h=>by
   simp only[List.map_cons,setFs] at h;unfold setF at h;by_cases c:io.contains i=false/\i<A.length
   ·rw[if_pos c] at h;rw[List.length_cons,List.length_cons,len_of h]
   ·rw[if_neg c] at h; exact h.elim
theorem zI9 {is:List Nat}{e:Ex}{Dn:Ends}(hK:W.K=X.K)(h:exT W G n io E (.setT is e) Dn σ H):evT W G (Ip.run G n) e E σ H fun v H1=>gT X.K (.many is) v σ H1 Dn.nx:=by
 obtain⟨E0,N,pin,A,F,hp,f,h⟩:=h;rw[Ip.zCE] at h;refine evO f h fun x ex hk v H' fv=>?_;obtain⟨F',f',dv⟩:=fv.drop;have sq:∀o:O,(o.seq fun A=>.nx A)=o:=fun o=>by cases o <;> rfl
 have eb:Ip.setTO io is e A x=bindF io (.many is) x.2 (Ip.settle e.names A x):=by
  obtain⟨k,d⟩:=x;cases d <;> rfl
 rw[eb,<-sq (bindF io (.many is) x.2 (Ip.settle e.names A x))] at hk;exact zMX hK hp dv f' hk fun A F σ f h=>h σ H' F f
theorem piA {wk:Wk}{it:List Ex}{R:It->Hp->Prop}{Dn:Ends}{k:List KD->O}(f:FrF W E0 N pin A σ H F)(h:PostS W E0 N pin E Dn ((Ip.evals G (Ip.run G n) A.sl it).toO A k))(nb:∀vs,PostS W E0 N pin E Dn (k vs)->∃ds,wkD wk vs=some ds)
  (ok:∀vs ds,wkD wk vs=some ds->PostS W E0 N pin E Dn (k vs)->∀J H',Sub H H'->ItD W (hidF N (unF (Ip.Wk.fz wk it) F)) H' J ds->R J H'):piT W G (Ip.run G n) wk it E σ H R:=by
 have f1:=f.frz (Ex.namess it);have hN:NOk (hidF N (unF (Ex.namess it) F)) H:=fun b z=>z.elim (f.nok b) fun⟨j,q⟩=>f1.dom q;refine⟨hidF N (unF (Ex.namess it) F),mask (Ex.namess it) A.sl,hN,fun i d hi=>?_,?_⟩
 ·obtain⟨h1,h2⟩:=zCu hi;obtain⟨k,h3⟩:=zEs h2;exact f.see h1 h3
 rw[<-zAD (a:=A.sl) it fun i hi=>zED hi];cases q:Ip.evals G (Ip.run G n) A.sl it with
 | bad=>rw[q] at h; exact h
 | exc c fs=>rw[q] at h; exact fun a H' r=>h a σ H' (f.excIn r)
 | ok vs=>
  rw[q] at h;obtain⟨ds,e⟩:=nb vs h;simp only[e];refine fun J H' hs hJ hr=>ok vs ds e h J H' hs ?_;unfold Ip.Wk.fz;by_cases hw:wk.rng=true
  ·rw[if_pos hw]; exact hr hw _
  ·rw[if_neg hw]; exact hJ
theorem zNI {tg:Tg}{wk:Wk}{it:List Ex}{b:List Ip.S}{Dn:Ends}(hK:W.K=X.K)(h:exT W G n io E (.fo tg wk it b) Dn σ H):tFor (piT W G (Ip.run G n) wk it E) (gT X.K tg) (exsT W G n io E b) Dn σ H:=by
 obtain⟨E0,N,pin,A,F,hp,f,h⟩:=h;rw[Ip.zEH] at h;unfold tFor;have pre:∀vs,PostS W E0 N pin E Dn (foO G (loopD (foB G (Ip.run G n) io tg b)) wk it A vs)->∃ds,wkD wk vs=some ds/\ds.length<=SL/\PostS W E0 N pin E Dn (loopD (foB G (Ip.run G n) io tg b) ds (frz (Ip.Wk.fz wk it) A)):=fun vs hv=>by
  unfold foO at hv;cases q:wkD wk vs with
  | none=>rw[q] at hv; exact hv.elim
  | some ds=>
   rw[q] at hv;simp only at hv;by_cases hl:ds.length<=SL
   ·rw[if_pos hl] at hv; exact⟨ds,rfl,hl,hv⟩
   ·rw[if_neg hl] at hv; exact hv.elim
 refine piA f h (fun vs hv=>by obtain⟨ds,e,_⟩:=pre vs hv; exact⟨ds,e⟩) fun vs ds e hv J H1 hs hJ=>?_;obtain⟨ds',e',hl,hq⟩:=pre vs hv;rw[e] at e';cases e';have f0:=f.frz (Ip.Wk.fz wk it);have f1:FrF W E0 N pin (frz (Ip.Wk.fz wk it) A) σ H1 (unF (Ip.Wk.fz wk it) F):=by
  have g:=f0.grow hs (fp:=[]) fun b z=>by simp at z
  have:(fun b=>N b\/b∈([]:List Addr))=N:=funext fun b=>propext (by simp);rw[this] at g; exact g
 have hE1:Sub E0 (hid (fun b=>∃j,b∈unF (Ip.Wk.fz wk it) F j) H1):=fun b o eb=>zAa.mpr ⟨(fun⟨j,z⟩=>by rw[(f1.fr j b z).1] at eb; cases eb),f1.sub b o eb⟩;have f2:FrF W (hid (fun b=>∃j,b∈unF (Ip.Wk.fz wk it) F j) H1) N pin (frz (Ip.Wk.fz wk it) A) σ H1 (unF (Ip.Wk.fz wk it) F):=
  ⟨zAc,f1.nok,f1.len,f1.pn,f1.nd,f1.dj,fun i b hb=>⟨by
   cases q:hid (fun b=>∃j,b∈unF (Ip.Wk.fz wk it) F j) H1 b with
   | none=>rfl
   | some o=>exact absurd ⟨i,hb⟩ (zAa.mp q).1,(f1.fr i b hb).2⟩,f1.rel,f1.em⟩
 have hvis:∀b o,hid (hidF N (unF (Ip.Wk.fz wk it) F)) H1 b=some o->¬N b/\hid (fun b=>∃j,b∈unF (Ip.Wk.fz wk it) F j) H1 b=some o:=fun b o e=>by
  obtain⟨g1,g2⟩:=zAa.mp e;exact⟨fun z=>g1 (.inl z),zAa.mpr ⟨fun z=>g1 (.inr z),g2⟩⟩
 generalize hid (fun b=>∃j,b∈unF (Ip.Wk.fz wk it) F j) H1=E1 at hE1 f2 hvis;refine⟨fun i m σ H=>i<=ds.length/\m=ds.length - i/\∃A F,FrF W E1 N pin A σ H F/\PostS W E0 N pin E Dn (loopD (foB G (Ip.run G n) io tg b) (ds.drop i) A),⟨ds.length,Nat.zero_le _,by omega,_,_,f2,by simpa using hq⟩,?_⟩;rintro i m σ1 Hc ⟨hi,rfl,A1,F1,f3,p3⟩;have hsub:Sub (hid (hidF N (unF (Ip.Wk.fz wk it) F)) H1) (hid (hidF N F1) Hc):=fun b o e=>by
  obtain⟨g1,g2⟩:=hvis b o e;refine zAa.mpr ⟨fun z=>?_,f3.sub b o g2⟩;rcases z with z | ⟨j,z⟩
  ·exact g1 z
  ·rw[(f3.fr j b z).1] at g2; cases g2
 have hN3:NOk (hidF N F1) Hc:=fun b z=>z.elim (f3.nok b) fun⟨j,q⟩=>f3.dom q;obtain⟨J1,J2⟩:=hJ (hidF N F1) Hc hsub hN3 i;by_cases hlt:i<ds.length
 ·have hdrop:ds.drop i=ds[i]::ds.drop (i+1):=List.drop_eq_getElem_cons hlt;rw[hdrop,loopD] at p3;obtain⟨Jg,Jy⟩:=J1 ds[i] (by simp[hlt]);refine .inr ⟨Jg,fun σ H=>∃A F,FrF W E1 N pin A σ H F/\PostS W E0 N pin E Dn (loopD (foB G (Ip.run G n) io tg b) (ds.drop (i+1)) A),fun σ' H' ⟨A',F',f',p'⟩=>⟨ds.length - (i+1),by omega,hlt,rfl,A',F',f',p'⟩,fun x H' hy=>?_⟩;obtain⟨s3,dx⟩:=Jy x H' hy;have f4:FrF W E1 N pin A1 σ1 H' F1:=by
   have g:=f3.grow s3 (fp:=[]) fun b z=>by simp at z
   have:(fun b=>N b\/b∈([]:List Addr))=N:=funext fun b=>propext (by simp);rw[this] at g; exact g
  have turn:PostS W E1 N pin E { Dn with nx:=fun σ H=>∃A F,FrF W E1 N pin A σ H F/\PostS W E0 N pin E Dn (loopD (foB G (Ip.run G n) io tg b) (ds.drop (i+1)) A),ct:=fun σ H=>∃A F,FrF W E1 N pin A σ H F/\PostS W E0 N pin E Dn (loopD (foB G (Ip.run G n) io tg b) (ds.drop (i+1)) A),bk:=Dn.nx }
    (foB G (Ip.run G n) io tg b ds[i] A1):=by
   cases q:foB G (Ip.run G n) io tg b ds[i] A1 with
   | nx A'=>rw[q] at p3; exact fun σ H F f=>⟨A',F,f,p3⟩
   | cnt A'=>rw[q] at p3; exact fun σ H F f=>⟨A',F,f,p3⟩
   | brk A'=>rw[q] at p3; exact fun σ H F f=>p3 σ H F (f.weaken hE1)
   | ret k d A'=>
    rw[q] at p3;exact PostS.strong (Dn:=Dn) (o:=.ret k d A') hE1 p3
   | exc c fs A'=>
    rw[q] at p3;exact PostS.strong (Dn:=Dn) (o:=.exc c fs A') hE1 p3
   | bad=>rw[q] at p3; exact p3
  unfold foB at turn;exact zMX hK hp dx f4 turn fun A2 F2 σ2 g p=>⟨E1,N,pin,A2,F2,hp,g,p⟩
 ·have e:i=ds.length:=by omega
  subst e;rw[List.drop_of_length_le (Nat.le_refl _),loopD] at p3;exact .inl ⟨J2 (zm8 _),p3 _ _ _ (f3.weaken hE1)⟩
end
section
variable {X:Cx}{W:Wd}{G:Pg}{n:Nat}{io:List Nat}{E:St->XK}{E0:Hp}{N:Addr->Prop}{pin:List (Nat×V)}{A:Fr}{σ:St}{H:Hp}{F:Nat->List Addr}
theorem FrF.upd {fp fx:List Addr}{x:Nat}{l:Addr}{v0:V}{y:KD}{H2:Hp}(f:FrF W E0 (fun b=>N b\/b∈fp) pin A σ H F)(fr:∀b∈fp,E0 b=none/\¬N b)(hl:l∈F x)(hx:x<A.length)(hσ:σ[x]? = some (some v0))(hfx:fx.Nodup)(hin:∀b∈fx,b∈F x\/b∈fp)
  (h12:∀b,b≠l->∀u,H b=some u->H2 b=some u)(h2l:H2 l≠none)(hy:Own W (hid (hidF N fun j=>if j=x then fx else F j) H2) H2 y.1 v0 y.2 fx):FrF W E0 N pin (A.set x (some y)) σ H2 fun j=>if j=x then fx else F j:=by
 have l0:E0 l=none:=(f.fr x l hl).1;have mem:∀j b,b∈(if j=x then fx else F j)->(j=x/\b∈fx)\/(j≠x/\b∈F j):=fun j b h=>by
  by_cases z:j=x
  ·rw[if_pos z] at h; exact .inl ⟨z,h⟩
  ·rw[if_neg z] at h; exact .inr ⟨z,h⟩
 refine⟨fun b u e=>h12 b (fun z=>by rw[z,l0] at e; cases e) u (f.sub b u e),fun b z=>?_,by rw[List.length_set]; exact f.len,f.pn,fun j=>?_,fun i j b h1 h2=>?_,fun j b h=>?_,fun j z hz=>?_,fun j hj=>?_⟩
 ·by_cases q:b=l
  ·rw[q]; exact h2l
  ·have:=f.nok b (.inl z);cases e:H b with
   | none=>exact absurd e this
   | some u=>rw[h12 b q u e]; simp
 ·by_cases z:j=x
  ·simp only[if_pos z]; exact hfx
  ·simp only[if_neg z]; exact f.nd j
 ·rcases mem i b h1 with ⟨z1,q1⟩ | ⟨z1,q1⟩ <;> rcases mem j b h2 with ⟨z2,q2⟩ | ⟨z2,q2⟩
  ·rw[z1,z2]
  ·rcases hin b q1 with w | w
   ·exact absurd (f.dj j x b q2 w) z2
   ·exact absurd (.inr w) (f.fr j b q2).2
  ·rcases hin b q2 with w | w
   ·exact absurd (f.dj i x b q1 w) z1
   ·exact absurd (.inr w) (f.fr i b q1).2
  ·exact f.dj i j b q1 q2
 ·rcases mem j b h with ⟨z,q⟩ | ⟨z,q⟩
  ·rcases hin b q with w | w
   ·exact⟨(f.fr x b w).1,fun y=>(f.fr x b w).2 (.inl y)⟩
   ·exact fr b w
  ·exact⟨(f.fr j b q).1,fun y=>(f.fr j b q).2 (.inl y)⟩
 ·by_cases q:j=x
  ·subst q;rw[List.getElem?_set_self hx] at hz;cases hz;exact⟨_,hσ,by simp only[if_true]; exact hy⟩
  ·rw[List.getElem?_set_ne fun y=>q y.symm] at hz;obtain⟨w,h1,h2⟩:=f.rel j z hz;refine⟨w,h1,?_⟩;simp only[if_neg q];refine h2.mono (fun b u e=>?_) fun b hb u e=>h12 b (fun y=>q (f.dj j x b hb (y ▸ hl))) u e;obtain⟨g1,g2⟩:=zAa.mp e;have bl:b≠l:=fun y=>g1 (.inr ⟨x,y ▸ hl⟩);refine zAa.mpr ⟨fun y=>?_,h12 b bl u g2⟩;rcases y with y | ⟨i,y⟩
   ·exact g1 (.inl (.inl y))
   ·rcases mem i b y with ⟨z1,q1⟩ | ⟨z1,q1⟩
    ·rcases hin b q1 with w | w
     ·exact g1 (.inr ⟨x,w⟩)
     ·exact g1 (.inl (.inr w))
    ·exact g1 (.inr ⟨i,q1⟩)
 ·by_cases q:j=x
  ·subst q;exact absurd (List.getElem?_set_self hx) (hj y)
  ·simp only[if_neg q];exact f.em j fun z w=>hj z (by rw[List.getElem?_set_ne fun y=>q y.symm]; exact w)
theorem OwnL.snoc {P:V->D->List Addr->Prop}{v:V}{d:D}{g:List Addr}(h:P v d g):∀{vs ds fp},OwnL P vs ds fp->OwnL P (vs++[v]) (ds++[d]) (fp++g)
 | _,_,_,.nil=>by simpa using OwnL.cons h .nil
 | _,_,_,.cons h0 q=>by
  rw[List.cons_append,List.cons_append,List.append_assoc];exact .cons h0 (OwnL.snoc h q)
theorem zNB {x:Nat}{k:Nat}{xs:List D}{v:KD}{w:V}(fv:FrV W E0 N pin A σ H v w)(hx:A[x]? = some (some (k+1,.lst xs))) :
  ∃l ws,σ[x]? = some (some (.ref l))/\H l=some (.lst ws)/\ws.length=xs.length/\∃F',FrF W E0 N pin (A.set x (some (addK k xs v+1,.lst (xs++[v.2])))) σ (upd H l (.lst (ws++[w]))) F':=by
 obtain⟨fp,F,f,nd,fr,o⟩:=fv;obtain⟨z,hσ,l,ws,fq,rfl,e2,e3,e4⟩:=f.rel x _ hx;have hl:l∈F x:=by rw[e4]; exact zm2
 have hxl:x<A.length:=(zp6 hx).1;have ndx:=f.nd x;rw[e4] at ndx;obtain⟨lq,ndq⟩:=List.nodup_cons.mp ndx;have lfp:l∉fp:=fun z=>(f.fr x l hl).2 (.inr z);have qF:∀b∈fq,b∈F x:=fun b hb=>by rw[e4]; exact zm1 _ hb
 have h12:∀b,b≠l->∀u,H b=some u->(L2.upd H l (.lst (ws++[w]))) b=some u:=fun b nb u e=>by rw[zAm nb]; exact e
 refine⟨l,ws,hσ,e2,e3.length,?_⟩;have deep:∀j,okAt j v=true->(xs.all fun d=>okAt j (k,d))=true->∃F',FrF W E0 N pin (A.set x (some (j+1,.lst (xs++[v.2])))) σ (L2.upd H l (.lst (ws++[w]))) F':=fun j h1 h2=>by
  refine⟨_,f.upd (fx:=l::(fq++fp)) (y:=(j+1,.lst (xs++[v.2]))) fr hl hxl hσ ?_ (fun b hb=>?_) h12 (by rw[zAi]; simp) ⟨l,_,fq++fp,rfl,zAi,?_,rfl⟩⟩
  ·refine List.nodup_cons.mpr ⟨fun z=>(zp3 z).elim lq lfp,List.nodup_append.mpr ⟨ndq,nd,fun b hb c hc z=>?_⟩⟩;subst z;exact (f.fr x b (qF b hb)).2 (.inr hc)
  ·rcases zp1 hb with z | z
   ·rw[z]; exact .inl hl
   ·exact (zp3 z).imp (qF b) id
  ·have sub:Sub (hid (hidF (fun b=>N b\/b∈fp) F) H) (hid (hidF N fun i=>if i=x then l::(fq++fp) else F i) (L2.upd H l (.lst (ws++[w])))):=fun b u e=>by
    obtain⟨g1,g2⟩:=zAa.mp e;have bl:b≠l:=fun y=>g1 (.inr ⟨x,y ▸ hl⟩);refine zAa.mpr ⟨fun y=>?_,h12 b bl u g2⟩;rcases y with y | ⟨i,y⟩
    ·exact g1 (.inl (.inl y))
    ·by_cases z:i=x
     ·simp only[if_pos z] at y;rcases zp1 y with q | q
      ·exact bl q
      ·rcases zp3 q with q | q
       ·exact g1 (.inr ⟨x,qF b q⟩)
       ·exact g1 (.inl (.inr q))
     ·simp only[if_neg z] at y;exact g1 (.inr ⟨i,y⟩)
   refine OwnL.snoc ((o.at h1).mono sub fun b hb u e=>h12 b (fun z=>lfp (z ▸ hb)) u e) ?_;have e5:=e3.re (Q:=Own W (hid (hidF (fun b=>N b\/b∈fp) F) H) H j) (b:=fun d=>okAt j (k,d)) (fun v d g hb o=>Own.at hb o) h2;exact e5.imp fun v d g hg o=>o.mono sub fun b hb u e=>h12 b (fun z=>lq (z ▸ hg b hb)) u e
 unfold addK;by_cases c1:okAt k v=true
 ·rw[if_pos c1];refine deep k c1 (List.all_eq_true.mpr fun d _=>?_);unfold okAt;simp
 ·rw[if_neg c1];by_cases c2:(xs.all fun d=>okAt v.1 (k,d))=true
  ·rw[if_pos c2];refine deep v.1 ?_ c2;unfold okAt;simp
  ·rw[if_neg c2];refine⟨_,f.upd (fx:=[l]) (y:=(1,.lst (xs++[v.2]))) fr hl hxl hσ (by simp) (fun b hb=>by rw[List.mem_singleton.mp hb]; exact .inl hl) h12 (by rw[zAi]; simp) ⟨l,_,[],rfl,zAi,OwnL.zero ?_,rfl⟩⟩;have sub:Sub (hid (hidF (fun b=>N b\/b∈fp) F) H) (hid (hidF N fun i=>if i=x then [l] else F i) (L2.upd H l (.lst (ws++[w])))):=fun b u e=>by
    obtain⟨g1,g2⟩:=zAa.mp e;have bl:b≠l:=fun y=>g1 (.inr ⟨x,y ▸ hl⟩);refine zAa.mpr ⟨fun y=>?_,h12 b bl u g2⟩;rcases y with y | ⟨i,y⟩
    ·exact g1 (.inl (.inl y))
    ·by_cases z:i=x
     ·simp only[if_pos z] at y; exact bl (List.mem_singleton.mp y)
     ·simp only[if_neg z] at y;exact g1 (.inr ⟨i,y⟩)
   have see:∀b,(b∈fq\/b∈fp)->∀u,H b=some u->hid (hidF N fun i=>if i=x then [l] else F i) (L2.upd H l (.lst (ws++[w]))) b=some u:=fun b hb u e=>by
    have bl:b≠l:=fun z=>hb.elim (fun y=>lq (z ▸ y)) fun y=>lfp (z ▸ y);refine zAa.mpr ⟨fun y=>?_,h12 b bl u e⟩;rcases y with y | ⟨i,y⟩
    ·rcases hb with q | q
     ·exact (f.fr x b (qF b q)).2 (.inl y)
     ·exact (fr b q).2 y
    ·by_cases z:i=x
     ·simp only[if_pos z] at y; exact bl (List.mem_singleton.mp y)
     ·simp only[if_neg z] at y;rcases hb with q | q
      ·exact z (f.dj i x b y (qF b q))
      ·exact (f.fr i b y).2 (.inr q)
   exact (e3.dens fun v d g hg o=>o.den sub fun b hb u e=>see b (.inl (hg b hb)) u e).append (.cons (o.den sub fun b hb u e=>see b (.inr hb) u e) .nil)
theorem zNK {x:Nat}{e:Ex}{Dn:Ends}(hK:W.K=X.K)(h:exT W G n io E (.mut x [] .append [e]) Dn σ H):tDrop (tBM X.K "list" rAppend (tVar x) (tCons (evT W G (Ip.run G n) e E) tNil)) Dn σ H:=by
 obtain⟨E0,N,pin,A,F,hp,f,h⟩:=h;rw[Ip.zBA] at h;by_cases c:isLst A[x]? = true
 rotate_left
 ·rw[if_neg c] at h; exact h.elim
 rw[if_pos c] at h;have hs:∃k xs,A[x]? = some (some (k,.lst xs)):=by
  cases q:A[x]? with
  | none=>rw[q] at c; cases c
  | some o=>
   rw[q] at c;cases o with
   | none=>cases c
   | some y=>
    obtain⟨k,d⟩:=y;cases d <;> first | exact⟨k,_,rfl⟩ | cases c
 obtain⟨k,xs,hx⟩:=hs;obtain⟨v,hv,ow⟩:=f.rel x _ hx;have dv:Den W H v (.lst xs):=ow.den zAc fun _ _ _ e=>e;unfold tDrop tBM;refine⟨v,hv,?_,?_⟩
 ·cases dv with | @lst l ws _ h1 h2=>?_
  exact .inl ⟨rfl,ws,.inl h1⟩
 simp only[Ip.zAe,zAb,Ip.R.toO,Ip.R.bind] at h;unfold tCons;refine evA f ?_;cases q:Ip.eval G (Ip.run G n) A.sl e with
 | bad=>rw[q] at h; exact h
 | exc c fs=>rw[q] at h; exact fun a H' r=>h a σ H' r
 | ok y=>
  rw[q] at h;simp only[mutO] at h;have e1:(if ([y].all fun v=>v.2.fb v.1)=true then A else frz (Ex.namess [e]) A)=Ip.settle e.names A y:=by
   unfold Ip.settle;simp
  rw[e1] at h;intro w H1 fv;cases q2:(Ip.settle e.names A y)[x]? with
  | none=>rw[q2] at h; exact h.elim
  | some o=>
   rw[q2] at h;cases o with
   | none=>exact h.elim
   | some z=>
    obtain⟨k',d⟩:=z;cases k' with
    | zero=>cases d <;> exact h.elim
    | succ k'=>
     cases d <;> try (exact h.elim)
     rename_i ys;simp only[mut0,Ip.zCt] at h;by_cases hl:ys.length<SL
     ·rw[if_pos hl] at h;obtain⟨l,ws,g1,g2,g3,F',g4⟩:=zNB fv q2;rw[hv] at g1;cases g1;exact⟨l,ws,w,rfl,rfl,g2,by rw[g3]; exact zn1 hl (by decide),h _ _ _ g4⟩
     ·rw[if_neg hl] at h; exact h.elim
end
theorem OwnF.put {att:List Str}{P:V->D->List Addr->Prop}(nd:att.Nodup){f:Nat}{n:Str}{v:V}{d:D}{g:List Addr}(hn:att[f]? = some n)(h:P v d g):∀{vs ds fp},OwnF att P vs ds fp->(fp++g).Nodup ->
  ∃fz:List Addr,OwnF att P (putF n v vs) (Ip.putF f d ds) fz/\fz.Nodup/\∀b∈fz,b∈fp\/b∈g
 | _,_,_,.nil,hd=>⟨g,by
   have:=OwnF.cons hn h (OwnF.nil (att:=att) (P:=P));rw[List.append_nil] at this;exact this,by simpa using hd,fun b hb=>.inr hb⟩
 | _,_,_,.cons (n:=m) (i:=i) (f:=f0) (g:=g0) hi h0 q,hd=>by
  unfold putF Ip.putF;have hd1:=List.nodup_append.mp hd;have hd2:=List.nodup_append.mp hd1.1;by_cases e:i=f
  ·subst e;have:m=n:=by rw[hn] at hi; exact (zn3 hi).symm
   subst this;rw[if_pos rfl,if_pos rfl];refine⟨g++g0,.cons hi h q,List.nodup_append.mpr ⟨hd1.2.1,hd2.2.1,fun a ha b hb z=>?_⟩,fun b hb=>?_⟩
   ·exact hd1.2.2 b (zm3 _ hb) a ha z.symm
   ·rcases zp3 hb with z | z
    ·exact .inr z
    ·exact .inl (zm3 _ z)
  ·have nm:m≠n:=fun z=>e (zEP nd hi (by rw[z]; exact hn));rw[if_neg e,if_neg nm];obtain⟨fz,k1,k2,k3⟩:=q.put nd hn h (List.nodup_append.mpr ⟨hd2.2.1,hd1.2.1,fun a ha b hb z=>hd1.2.2 a (zm3 _ ha) b hb z⟩);refine⟨f0++fz,.cons hi h0 k1,List.nodup_append.mpr ⟨hd2.1,k2,fun a ha b hb z=>?_⟩,fun b hb=>?_⟩
   ·rcases k3 b hb with w | w
    ·exact hd2.2.2 a ha b w z
    ·exact hd1.2.2 a (zm4 _ ha) b w z
   ·rcases zp3 hb with z | z
    ·exact .inl (zm4 _ z)
    ·exact (k3 b z).imp (zm3 _) id
theorem OwnF.length {att:List Str}{P:V->D->List Addr->Prop}:∀{vs ds fp},OwnF att P vs ds fp->vs.length=ds.length
 | _,_,_,.nil=>rfl
 | _,_,_,.cons _ _ q=>by rw[List.length_cons,List.length_cons,q.length]
theorem OwnF.zero {W:Wd}{S H:Hp}:∀{vs ds},DenF W S vs ds->OwnF W.att (Own W S H 0) vs ds []
 | _,_,.nil=>.nil
 | _,_,.cons hf h q=>OwnF.cons (f:=[]) (g:=[]) hf ⟨rfl,h⟩ (OwnF.zero q)
section
variable {X:Cx}{W:Wd}{G:Pg}{n:Nat}{io:List Nat}{E:St->XK}{E0:Hp}{N:Addr->Prop}{pin:List (Nat×V)}{A:Fr}{σ:St}{H:Hp}{F:Nat->List Addr}
theorem zIH {x k f:Nat}{nm:Str}{l:Addr}{fs:List (Nat×D)}{ws:List (Str×V)}{fq fp:List Addr}{v:KD}{w:V}{H2:Hp}(nda:W.att.Nodup)(hnm:W.att[f]? = some nm)(fr0:FrF W E0 (fun b=>N b\/b∈fp) pin A σ H F)(nd:fp.Nodup)(fr:∀b∈fp,E0 b=none/\¬N b)
  (o:Own W (hid (hidF (fun b=>N b\/b∈fp) F) H) H v.1 w v.2 fp)(hxl:x<A.length)(hσ:σ[x]? = some (some (.ref l)))(e4:F x=l::fq)(e3:OwnF W.att (Own W (hid (hidF (fun b=>N b\/b∈fp) F) H) H k) ws fs fq)
  (h12:∀b,b≠l->∀u,H b=some u->H2 b=some u)(h2l:H2 l≠none){dd:D}
  (own:∀j fz S,OwnF W.att (Own W S H2 j) (putF nm w ws) (Ip.putF f v.2 fs) fz->Own W S H2 (j+1) (.ref l) dd (l::fz)) :
  ∃F',FrF W E0 N pin (A.set x (some (addK k (fs.map (·.2)) v+1,dd))) σ H2 F':=by
 have hl:l∈F x:=by rw[e4]; exact zm2
 have ndx:=fr0.nd x;rw[e4] at ndx;obtain⟨lq,ndq⟩:=List.nodup_cons.mp ndx;have lfp:l∉fp:=fun z=>(fr0.fr x l hl).2 (.inr z);have qF:∀b∈fq,b∈F x:=fun b hb=>by rw[e4]; exact zm1 _ hb
 have ndc:(fq++fp).Nodup:=List.nodup_append.mpr ⟨ndq,nd,fun b hb c hc z=>by subst z; exact (fr0.fr x b (qF b hb)).2 (.inr hc)⟩;have sub:∀fz:List Addr,(∀b∈fz,b∈fq\/b∈fp)->Sub (hid (hidF (fun b=>N b\/b∈fp) F) H) (hid (hidF N fun i=>if i=x then l::fz else F i) H2):=fun fz hz b u e=>by
  obtain⟨g1,g2⟩:=zAa.mp e;have bl:b≠l:=fun y=>g1 (.inr ⟨x,y ▸ hl⟩);refine zAa.mpr ⟨fun y=>?_,h12 b bl u g2⟩;rcases y with y | ⟨i,y⟩
  ·exact g1 (.inl (.inl y))
  ·by_cases z:i=x
   ·simp only[if_pos z] at y;rcases zp1 y with q | q
    ·exact bl q
    ·rcases hz b q with q | q
     ·exact g1 (.inr ⟨x,qF b q⟩)
     ·exact g1 (.inl (.inr q))
   ·simp only[if_neg z] at y;exact g1 (.inr ⟨i,y⟩)
 have deep:∀j,okAt j v=true->((fs.map (·.2)).all fun d=>okAt j (k,d))=true->∃F',FrF W E0 N pin (A.set x (some (j+1,dd))) σ H2 F':=fun j h1 h2=>by
  have e5:=e3.re (Q:=Own W (hid (hidF (fun b=>N b\/b∈fp) F) H) H j) (b:=fun d=>okAt j (k,d)) (fun v d g hb o=>Own.at hb o) (by rw[List.all_map] at h2; exact h2);obtain⟨fz,k1,k2,k3⟩:=e5.put nda hnm (o.at h1) ndc;have lz:l∉fz:=fun z=>(k3 l z).elim lq lfp;refine⟨_,fr0.upd (fx:=l::fz) (y:=(j+1,dd)) fr hl hxl hσ (List.nodup_cons.mpr ⟨lz,k2⟩) (fun b hb=>?_) h12 h2l (own j fz _ (k1.imp fun v d g hg o=>o.mono (sub fz k3) fun b hb u e=>h12 b (fun z=>lz (z ▸ hg b hb)) u e))⟩;rcases zp1 hb with z | z
  ·rw[z]; exact .inl hl
  ·exact (k3 b z).imp (qF b) id
 unfold addK;by_cases c1:okAt k v=true
 ·rw[if_pos c1];refine deep k c1 (List.all_eq_true.mpr fun d _=>?_);unfold okAt;simp
 ·rw[if_neg c1];by_cases c2:((fs.map (·.2)).all fun d=>okAt v.1 (k,d))=true
  ·rw[if_pos c2];refine deep v.1 ?_ c2;unfold okAt;simp
  ·rw[if_neg c2];have sub0:=sub [] (fun b z=>by simp at z);have see:∀b,(b∈fq\/b∈fp)->∀u,H b=some u->hid (hidF N fun i=>if i=x then [l] else F i) H2 b=some u:=fun b hb u e=>by
    have bl:b≠l:=fun z=>hb.elim (fun y=>lq (z ▸ y)) fun y=>lfp (z ▸ y);refine zAa.mpr ⟨fun y=>?_,h12 b bl u e⟩;rcases y with y | ⟨i,y⟩
    ·rcases hb with q | q
     ·exact (fr0.fr x b (qF b q)).2 (.inl y)
     ·exact (fr b q).2 y
    ·by_cases z:i=x
     ·simp only[if_pos z] at y; exact bl (List.mem_singleton.mp y)
     ·simp only[if_neg z] at y;rcases hb with q | q
      ·exact z (fr0.dj i x b y (qF b q))
      ·exact (fr0.fr i b y).2 (.inr q)
   have dn:DenF W (hid (hidF N fun i=>if i=x then [l] else F i) H2) (putF nm w ws) (Ip.putF f v.2 fs):=
    (e3.dens fun v d g hg o=>o.den sub0 fun b hb u e=>see b (.inl (hg b hb)) u e).put nda hnm (o.den sub0 fun b hb u e=>see b (.inr hb) u e)
   exact⟨_,fr0.upd (fx:=[l]) (y:=(1,dd)) fr hl hxl hσ (by simp) (fun b hb=>by rw[List.mem_singleton.mp hb]; exact .inl hl) h12 h2l (own 0 [] _ (OwnF.zero dn))⟩
theorem zLH {x k:Nat}{nm:Str}{e:Ex}{Dn:Ends}{fl:List Nat}(hK:W.K=X.K)(cf:CF W fl)(hk:k∈fl)(hnm:W.att[k]? = some nm)(h:exT W G n io E (.sfld x k e) Dn σ H) :
  sFld X.K (tVar x) (evT W G (Ip.run G n) e E) nm Dn σ H:=by
 obtain⟨E0,N,pin,A,F,hp,f,h⟩:=h;rw[Ip.zHl] at h;cases q:Ip.eval G (Ip.run G n) A.sl e with
 | bad=>rw[q] at h; exact h.elim
 | exc c fs=>
  skip
  unfold sFld;refine evA f ?_;rw[q] at h ⊢;exact fun a H' r=>h a σ H' r
 | ok v=>
  rw[q] at h;simp only[Ip.R.toO] at h;cases q2:(Ip.settle e.names A v)[x]? with
  | none=>rw[q2] at h; exact h.elim
  | some oo=>
   rw[q2] at h;cases oo with
   | none=>exact h.elim
   | some z=>
    obtain⟨k',d⟩:=z;have hxl:x<(Ip.settle e.names A v).length:=(zp6 q2).1;cases k' with
    | zero=>cases d <;> exact h.elim
    | succ k'=>
     cases d <;> try (exact h.elim)
     ·rename_i c fs;simp only[Ip.sfld0] at h;by_cases hl:fs.length<50
      rotate_left
      ·rw[if_neg hl] at h; exact h.elim
      rw[if_pos hl] at h
      skip
      unfold sFld;refine evA f ?_;rw[q];rintro w H1 ⟨fp,F1,f1,nd,fr,o⟩;obtain⟨z,hσ,a,C,dx,ws,fq,rfl,e2,hC,e3,e4⟩:=f1.rel x _ q2;obtain⟨ic,na⟩:=cf.ins c C hC;refine⟨_,hσ,a,C,dx,ws,rfl,e2,hK ▸ ic.cls,hK ▸ na k nm hk hnm,by rw[e3.length]; omega,?_⟩;obtain⟨F',g⟩:=zIH (H2:=L2.upd H1 a (.ins C dx (putF nm w ws))) (dd:=.ins c (Ip.putF k v.2 fs)) cf.nd hnm f1 nd fr o hxl hσ e4 e3 (fun b nb u e=>by rw[zAm nb]; exact e) (by rw[zAi]; simp)
       (fun j fz S hz=>⟨a,C,dx,_,fz,rfl,zAi,hC,hz,rfl⟩)
      exact h _ _ _ g
     ·rename_i c fs;simp only[Ip.sfld0] at h;by_cases hl:fs.length<50
      rotate_left
      ·rw[if_neg hl] at h; exact h.elim
      rw[if_pos hl] at h
      skip
      unfold sFld;refine evA f ?_;rw[q];rintro w H1 ⟨fp,F1,f1,nd,fr,o⟩;obtain⟨z,hσ,a,C,nw,ws,fq,rfl,e2,hC,e3,e4⟩:=f1.rel x _ q2;have hC1:=hC.1;rw[cf.exc] at hC1;cases hC1
end
section
variable {X:Cx}{W:Wd}{G:Pg}{n:Nat}{io:List Nat}{E:St->XK}{E0:Hp}{N:Addr->Prop}{pin:List (Nat×V)}{A:Fr}{σ:St}{H:Hp}{F:Nat->List Addr}
theorem zGu {x k:Nat}{xs:List D}{v:KD}{w:V}(fv:FrV W E0 N pin A σ H v w)(hx:A[x]? = some (some (k+1,.lst xs))) :
  ∃l ws,σ[x]? = some (some (.ref l))/\H l=some (.lst ws)/\ws.length=xs.length/\Dens W H ws xs/\Den W H w v.2 /\
   ∀ws' ds',(∀S,Dens W S ws xs->Den W S w v.2->Dens W S ws' ds')->∃F',FrF W E0 N pin (A.set x (some (1,.lst ds'))) σ (upd H l (.lst ws')) F':=by
 obtain⟨fp,F,f,nd,fr,o⟩:=fv;obtain⟨z,hσ,l,ws,fq,rfl,e2,e3,e4⟩:=f.rel x _ hx;have hl:l∈F x:=by rw[e4]; exact zm2
 have hxl:x<A.length:=(zp6 hx).1;have ndx:=f.nd x;rw[e4] at ndx;obtain⟨lq,ndq⟩:=List.nodup_cons.mp ndx;have lfp:l∉fp:=fun z=>(f.fr x l hl).2 (.inr z);have qF:∀b∈fq,b∈F x:=fun b hb=>by rw[e4]; exact zm1 _ hb
 refine⟨l,ws,hσ,e2,e3.length,e3.dens fun v d g hg o=>o.den zAc fun b hb u e=>e,o.den zAc fun b hb u e=>e,fun ws' ds' hd=>?_⟩;have h12:∀b,b≠l->∀u,H b=some u->(L2.upd H l (.lst ws')) b=some u:=fun b nb u e=>by rw[zAm nb]; exact e
 refine⟨_,f.upd (fx:=[l]) (y:=(1,.lst ds')) fr hl hxl hσ (by simp) (fun b hb=>by rw[List.mem_singleton.mp hb]; exact .inl hl) h12 (by rw[zAi]; simp) ⟨l,_,[],rfl,zAi,OwnL.zero ?_,rfl⟩⟩;have sub:Sub (hid (hidF (fun b=>N b\/b∈fp) F) H) (hid (hidF N fun i=>if i=x then [l] else F i) (L2.upd H l (.lst ws'))):=fun b u e=>by
  obtain⟨g1,g2⟩:=zAa.mp e;have bl:b≠l:=fun y=>g1 (.inr ⟨x,y ▸ hl⟩);refine zAa.mpr ⟨fun y=>?_,h12 b bl u g2⟩;rcases y with y | ⟨i,y⟩
  ·exact g1 (.inl (.inl y))
  ·by_cases z:i=x
   ·simp only[if_pos z] at y; exact bl (List.mem_singleton.mp y)
   ·simp only[if_neg z] at y;exact g1 (.inr ⟨i,y⟩)
 have see:∀b,(b∈fq\/b∈fp)->∀u,H b=some u->hid (hidF N fun i=>if i=x then [l] else F i) (L2.upd H l (.lst ws')) b=some u:=fun b hb u e=>by
  have bl:b≠l:=fun z=>hb.elim (fun y=>lq (z ▸ y)) fun y=>lfp (z ▸ y);refine zAa.mpr ⟨fun y=>?_,h12 b bl u e⟩;rcases y with y | ⟨i,y⟩
  ·rcases hb with q | q
   ·exact (f.fr x b (qF b q)).2 (.inl y)
   ·exact (fr b q).2 y
  ·by_cases z:i=x
   ·simp only[if_pos z] at y; exact bl (List.mem_singleton.mp y)
   ·simp only[if_neg z] at y;rcases hb with q | q
    ·exact z (f.dj i x b y (qF b q))
    ·exact (f.fr i b y).2 (.inr q)
 exact hd _ (e3.dens fun v d g hg o=>o.den sub fun b hb u e=>see b (.inl (hg b hb)) u e) (o.den sub fun b hb u e=>see b (.inr hb) u e)
theorem Den.scal {S S':Hp}{v:V}{d:D}(hs:d.scal=true)(h:Den W S v d):Den W S' v d:=by
 cases h <;> first | exact .non | exact .bl | exact .int | exact .str | (simp[D.scal] at hs)
theorem Dens.scal {S S':Hp}:∀{vs:List V} {ds:List D},ds.all D.scal=true->Dens W S vs ds->Dens W S' vs ds
 | _,_,_,.nil=>.nil
 | _,_,hs,.cons h q=>by
  rw[List.all_cons,Bool.and_eq_true] at hs;exact .cons (h.scal hs.1) (q.scal hs.2)
theorem zJA {x:Nat}(c:isLst A[x]? = true):∃k xs,A[x]? = some (some (k,.lst xs)):=by
 cases q:A[x]? with
 | none=>rw[q] at c; cases c
 | some o=>
  rw[q] at c;cases o with
  | none=>cases c
  | some y=>
   obtain⟨k,d⟩:=y;cases d <;> first | exact⟨k,_,rfl⟩ | cases c
theorem zNJ {x:Nat}{e:Ex}{Dn:Ends}(hK:W.K=X.K)(h:exT W G n io E (.mut x [] .extend [e]) Dn σ H):tDrop (tBM X.K "list" (rExtT X.K) (tVar x) (tCons (evT W G (Ip.run G n) e E) tNil)) Dn σ H:=by
 obtain⟨E0,N,pin,A,F,hp,f,h⟩:=h;rw[Ip.zBA] at h;by_cases c:isLst A[x]? = true
 rotate_left
 ·rw[if_neg c] at h; exact h.elim
 rw[if_pos c] at h;obtain⟨k,xs,hx⟩:=zJA c;obtain⟨v,hv,ow⟩:=f.rel x _ hx;have dv:Den W H v (.lst xs):=ow.den zAc fun _ _ _ e=>e;unfold tDrop tBM;refine⟨v,hv,?_,?_⟩
 ·cases dv with | @lst l ws _ h1 h2=>?_
  exact .inl ⟨rfl,ws,.inl h1⟩
 simp only[Ip.zAe,zAb,Ip.R.toO,Ip.R.bind] at h;unfold tCons;refine evA f ?_;cases q:Ip.eval G (Ip.run G n) A.sl e with
 | bad=>rw[q] at h; exact h
 | exc c fs=>rw[q] at h; exact fun a H' r=>h a σ H' r
 | ok y=>
  rw[q] at h;simp only[mutO] at h;have e1:(if ([y].all fun v=>v.2.fb v.1)=true then A else frz (Ex.namess [e]) A)=Ip.settle e.names A y:=by
   unfold Ip.settle;simp
  rw[e1] at h;intro w H1 fv;cases q2:(Ip.settle e.names A y)[x]? with
  | none=>rw[q2] at h; exact h.elim
  | some o=>
   rw[q2] at h;cases o with
   | none=>exact h.elim
   | some z=>
    obtain⟨k',d⟩:=z;cases k' with
    | zero=>cases d <;> exact h.elim
    | succ k'=>
     cases d <;> try (exact h.elim)
     rename_i ys;simp only[mut0,Ip.zCs] at h;obtain⟨j,dy⟩:=y;cases dy <;> try (exact h.elim)
     rename_i zs;simp only at h;by_cases hl:zs.all D.scal=true/\ys.length+zs.length<=SL
     ·rw[if_pos hl] at h;obtain⟨l,ws,g1,g2,g3,g4,g5,g6⟩:=zGu fv q2;rw[hv] at g1;cases g1;cases g5 with | @tup b vs _ t1 t2=>?_
      obtain⟨F',g7⟩:=g6 (ws++vs) (ys++zs) fun S hS _=>hS.append (t2.scal hl.1);refine⟨l,b,ws,vs,rfl,rfl,g2,hK ▸ t1,by rw[g3,t2.length]; exact SLle hl.2,h _ _ _ g7⟩
     ·rw[if_neg hl] at h; exact h.elim
theorem Dens.erase {S:Hp}:∀{vs:List V} {ds:List D} (j:Nat),Dens W S vs ds->Dens W S (vs.eraseIdx j) (ds.eraseIdx j)
 | _,_,_,.nil=>.nil
 | _,_,0,.cons _ q=>q
 | _,_,j+1,.cons h0 q=>.cons h0 (q.erase j)
theorem Dens.at {S:Hp}{d:D}:∀{vs:List V} {ds:List D} (j:Nat),Dens W S vs ds->ds[j]? = some d->∃v,vs[j]? = some v/\Den W S v d
 | _,_,_,.nil,e=>by simp at e
 | v::_,_,0,.cons h q,e=>by
  cases e;exact⟨v,rfl,h⟩
 | _,_,j+1,.cons h0 q,e=>by
  obtain⟨v,e1,e2⟩:=q.at j (by simpa using e);exact⟨v,by simpa using e1,e2⟩
end
section
variable {X:Cx}{W:Wd}{G:Pg}{n:Nat}{io:List Nat}{E:St->XK}{E0:Hp}{N:Addr->Prop}{pin:List (Nat×V)}{A:Fr}{σ:St}{H:Hp}{F:Nat->List Addr}
theorem Dens.isI {S:Hp}:∀{vs:List V} {ds:List D},Dens W S vs ds->ds.all D.isI=true->vs.all isIntV=true/\ds.all D.scal=true
 | _,_,.nil,_=>⟨rfl,rfl⟩
 | _,_,.cons (d:=d) h q,hs=>by
  rw[List.all_cons,Bool.and_eq_true] at hs;obtain⟨i1,i2⟩:=q.isI hs.2;cases d with
  | int i=>
   rw[h.int_inv,List.all_cons,List.all_cons,i1,i2];exact⟨rfl,rfl⟩
  | _=>cases hs.1
theorem zNF {x:Nat}{e:Ex}{Dn:Ends}(h:exT W G n io E (.mut x [] .remove [e]) Dn σ H):tDrop (tBM X.K "list" rRemove (tVar x) (tCons (evT W G (Ip.run G n) e E) tNil)) Dn σ H:=by
 obtain⟨E0,N,pin,A,F,hp,f,h⟩:=h;rw[Ip.zBA] at h;by_cases c:isLst A[x]? = true
 rotate_left
 ·rw[if_neg c] at h; exact h.elim
 rw[if_pos c] at h;obtain⟨k,xs,hx⟩:=zJA c;obtain⟨v,hv,ow⟩:=f.rel x _ hx;have dv:Den W H v (.lst xs):=ow.den zAc fun _ _ _ e=>e;unfold tDrop tBM;refine⟨v,hv,?_,?_⟩
 ·cases dv with | @lst l ws _ h1 h2=>?_
  exact .inl ⟨rfl,ws,.inl h1⟩
 simp only[Ip.zAe,zAb,Ip.R.toO,Ip.R.bind] at h;unfold tCons;refine evA f ?_;cases q:Ip.eval G (Ip.run G n) A.sl e with
 | bad=>rw[q] at h; exact h
 | exc c fs=>rw[q] at h; exact fun a H' r=>h a σ H' r
 | ok y=>
  rw[q] at h;simp only[mutO] at h;have e1:(if ([y].all fun v=>v.2.fb v.1)=true then A else frz (Ex.namess [e]) A)=Ip.settle e.names A y:=by
   unfold Ip.settle;simp
  rw[e1] at h;intro w H1 fv;cases q2:(Ip.settle e.names A y)[x]? with
  | none=>rw[q2] at h; exact h.elim
  | some o=>
   rw[q2] at h;cases o with
   | none=>exact h.elim
   | some z=>
    obtain⟨k',d⟩:=z;cases k' with
    | zero=>cases d <;> exact h.elim
    | succ k'=>
     cases d <;> try (exact h.elim)
     rename_i ys;simp only[mut0,Ip.zCr] at h;obtain⟨j,dy⟩:=y;cases dy <;> try (exact h.elim)
     rename_i i;simp only at h;by_cases hl:ys.all D.isI=true
     ·rw[if_pos hl] at h;cases hf:D.find (.int i) ys with
      | none=>rw[hf] at h; exact h.elim
      | some j=>
       rw[hf] at h;obtain⟨l,ws,g1,g2,g3,g4,g5,g6⟩:=zGu fv q2;rw[hv] at g1;cases g1;obtain⟨i1,i2⟩:=g4.isI hl;have fi:=Dens.find g5 rfl g4 i2;have e5:=g5.int_inv;subst e5;obtain⟨F',g7⟩:=g6 (ws.eraseIdx j) (ys.eraseIdx j) fun S hS _=>hS.erase j;exact⟨l,ws,i,j,rfl,rfl,g2,i1,fi.trans hf,h _ _ _ g7⟩
     ·rw[if_neg hl] at h; exact h.elim
end
structure Gs (W:Wd)(G:Pg)(T:Tb)(n:Nat)(E:St->XK)(sc:Scope)(N:List Str)(X:Cx):Prop where
 gd:Gd W G T n E sc N X
 own:PassesOwn (model X.prog X.w) X.A X.env X.xe
 stk:∃L outer,X.stack=X.env::outer/\X.env.frame=some L
 scq:X.env.scope=sc
section
variable {W:Wd}{G:Pg}{T:Tb}{n:Nat}{io:List Nat}{m:Nat}{E:St->XK}{sc:Scope}{N:List Str}{X:Cx}
theorem zBI {st:Stmt}{i:Nat}:PS X st (exT W G n io E (.set i .bad)):=fun pins s σ H Dn I ⟨_,_,_,_,_,_,_,h⟩=>by
 rw[Ip.zBz,zAr] at h; exact h.elim
theorem zM1 {st:Stmt}:PS X st (exT W G n io E (.ex .bad)):=fun pins s σ H Dn I ⟨_,_,_,_,_,_,_,h⟩=>by
 rw[Ip.zEI,zAr] at h; exact h.elim
theorem zGh (e:Expr):(∃a b c d,e=.ListComp a b c d)\/(∀T sc N m,cE T sc N m e=.bad)\/∀t l env,swapsWith e t l env=pure false:=by
 cases e <;> first
  | exact .inl ⟨_,_,_,_,rfl⟩
  | exact .inr (.inr fun _ _ _=>rfl)
  | (refine .inr (.inl fun T sc N m=>?_); cases m <;> rfl)
theorem zNN (g:Gs W G T n E sc N X)(x:Str)(p:Pos)(e:Expr)(pos:Pos)(i:Nat)(hl:Ip.isLoc sc x=true)(hi:pos? x N=some i):PS X (.Assign [.Name x p] e pos) (exT W G n io E (.set i (cE T sc N m e))):=by
 obtain⟨l1,l2⟩:=g.gd.loc x hl;have hN:X.N.Nodup:=by rw[g.gd.nm]; exact g.gd.nd
 have hx:X.N[i]? = some x:=by rw[g.gd.nm]; exact pos?_get hi
 rcases zGh e with ⟨el,gs,scope,cp,rfl⟩ | hb | hs
 ·have hsw:∃b,swapsWith (.ListComp el gs scope cp) (some (.Name x p)) pos.line X.env=pure b:=⟨_,rfl⟩
  obtain⟨b,hsw⟩:=hsw;cases b with
  | false=>exact (zJl hN hx l1 ((zBK m).e g.gd _) hsw l2).mono fun Dn σ H h=>zJR h
  | true=>
   cases m with
   | zero=>exact zBI
   | succ m=>
    have ih:=zBK (W:=W) (G:=G) (T:=T) (n:=n) m;match gs with
    | []=>exact zBI
    | ⟨_,_,_,_⟩::_::_=>exact zBI
    | [⟨tg,iter,ifs,as⟩]=>
     simp only[Ip.zBL];by_cases h:(Ip.compB sc N (Ip.blockN scope) (Ip.blockC N scope) scope&&as == 0&&decide (ifs.length<=1))=true
     rotate_left
     ·rw[if_neg h]; exact zBI
     rw[if_pos h];simp only[Bool.and_eq_true,beq_iff_eq,decide_eq_true_eq] at h;obtain⟨⟨hb,has⟩,hln⟩:=h;subst has;cases ht:tgOf scope (Ip.blockN scope) tg with
     | none=>exact zBI
     | some t=>
      by_cases h2:(wkOk (cI T sc N m iter).1 t&&(Ip.tgIx t).all (fun i=>(Ip.blockC N scope)[i]? == some none))=true
      rotate_left
      ·simp only[h2]; exact zBI
      simp only[h2,if_true];rw[Bool.and_eq_true] at h2;rcases zGp iter with ⟨a,b,c,rfl⟩ | hs
      ·rintro pins s σ H Dn I ⟨_,_,_,_,_,_,_,q⟩;rw[Ip.zBz,Ip.zBd,zHA,zAb,zAr] at q;exact q.elim
      ·have cp:=zCW (e:=el) ih g.gd hb hln ht h2.1 h2.2;exact (zKs g.gd.calm cp.hS hN hx l1 cp.hi cp.hg cp.ht cp.he hsw l2 (hs X.env)).mono fun Dn σ H h=>zJM g.gd.K cp.hx (zJR h)
 ·rw[hb]; exact zBI
 ·exact (zJl hN hx l1 ((zBK m).e g.gd e) (hs _ _ _) l2).mono fun Dn σ H h=>zJR h
theorem zJf (g:Gs W G T n E sc N X)(e:Expr)(pos:Pos)(hl:∀a b c d,e≠.ListComp a b c d):PS X (.Expr e pos) (exT W G n io E (.ex (cE T sc N m e))):=by
 rcases zGh e with ⟨a,b,c,d,rfl⟩ | hb | hs
 ·exact absurd rfl (hl a b c d)
 ·rw[hb]; exact zM1
 ·exact (zC8 ((zBK m).e g.gd e) (hs _ _ _)).mono fun Dn σ H h=>x_ex h
theorem zHH {o:Expr}{f:Str}{p:Pos}(e:Expr)(l:Nat)(env:Env):swapsWith e (some (.Attribute o f p)) l env=pure false:=by
 cases e <;> rfl
theorem zL5 (g:Gs W G T n E sc N X)(es:List Expr)(k:Nat)(tp:Pos)(e:Expr)(pos:Pos)(is:List Nat)(hc:Ip.isCall e=true)(ht:tgOf sc N (.Tuple es k tp)=some (.many is)):PS X (.Assign [.Tuple es k tp] e pos) (exT W G n io E (.setT is (cE T sc N m e))):=by
 cases e with
 | Call f args kws cp=>exact (zJm ((zBK m).e g.gd _) (zH8 g.gd ht)).mono fun Dn σ H h=>zI9 g.gd.K h
 | Name x p=>exact (zJm ((zBK m).e g.gd _) (zH8 g.gd ht)).mono fun Dn σ H h=>zI9 g.gd.K h
 | _=>cases hc
theorem zNR (g:Gs W G T n E sc N X)(x:Str)(xp:Pos)(f:Str)(ap:Pos)(e:Expr)(pos:Pos)(k j:Nat)(hv:isVis sc x=true)(hok:okName x=true)(hk:pos? x N=some k)(hj:pos? f T.att=some j)(hf:T.fl.contains j=true) :
  PS X (.Assign [.Attribute (.Name x xp) f ap] e pos) (exT W G n io E (.sfld k j (cE T sc N m e))):=by
 unfold okName at hok;simp only[Bool.and_eq_true,Bool.not_eq_true'] at hok;have hx:X.N[k]? = some x:=by rw[g.gd.nm]; exact pos?_get hk
 have po:=zGM (pos:=xp) hx (g.gd.vis x hv) hok.1 hok.2;have he:=(zBK m).e g.gd e;have r1:=zMm (f:=f) (pos:=pos) (pos':=ap) po he (zHH e _ _);intro pins s σ H Dn I h;have hnm:W.att[j]? = some f:=by rw[g.gd.gf.att]; exact pos?_get hj
 exact r1 pins s σ H Dn I (zLH g.gd.K g.gd.gf.cf (by simpa using hf) hnm h)
theorem zBk {i:Nat}(h:Ip.Ex.bad=.var i):False:=nomatch h
theorem zBo {i:Nat}{o:Op}{es:List Ex}(h:Ip.Ex.op o es=.var i):False:=nomatch h
theorem zI2 {f:Str}{args:List Expr}:∀m i,Ip.cB T sc N m f args≠.var i:=by
 intro m i;cases m with
 | zero=>exact fun h=>(zBk h).elim
 | succ m=>
  rw[Ip.zEO];intro h;repeat' split at h
  all_goals cases h
theorem zI0 {e:Expr}(h1:∀x p,e≠.Name x p)(h2:∀o a p,e≠.BoolOp o [a] p):∀m i,cE T sc N m e≠.var i:=by
 intro m i;cases m with
 | zero=>exact fun h=>(zBk h).elim
 | succ m=>
  cases e with
  | Name x p=>exact absurd rfl (h1 x p)
  | BoolOp o es p=>
   match es with
   | []=>exact fun h=>(zBk h).elim
   | [a]=>exact absurd rfl (h2 o a p)
   | a::b::es=>cases o <;> exact fun h=>by cases h
  | Constant c k p=>cases c <;> exact fun h=>by cases h
  | Call f args kws cp=>
   rw[Ip.zEN];intro h;repeat' split at h
   all_goals first | (cases h; done) | exact zI2 _ _ h
  | BinOp a o b p=>rw[Ip.zI1]; intro h; (repeat' split at h) <;> first | exact zBk h | exact zBo h | cases h
  | UnaryOp o a p=>rw[Ip.zF2]; intro h; (repeat' split at h) <;> first | exact zBk h | exact zBo h | cases h
  | Compare a os bs p=>rw[Ip.zBF]; intro h; (repeat' split at h) <;> first | exact zBk h | exact zBo h | cases h
  | IfExp c a b p=>rw[Ip.zFw]; intro h; cases h
  | List es p=>rw[Ip.zHD]; intro h; (repeat' split at h) <;> first | exact zBk h | exact zBo h | cases h
  | Tuple es k p=>rw[Ip.zFv]; intro h; (repeat' split at h) <;> first | exact zBk h | exact zBo h | cases h
  | Subscript a i' p=>rw[Ip.zAR]; intro h; (repeat' split at h) <;> first | exact zBk h | exact zBo h | cases h
  | Attribute o f p=>rw[Ip.zB8]; intro h; (repeat' split at h) <;> first | exact zBk h | exact zBo h | cases h
  | ListComp e gs scope p=>rw[Ip.zBL]; intro h; (repeat' split at h) <;> first | exact zBk h | exact zBo h | cases h
  | _=>exact fun h=>(zBk h).elim
end
section
variable {W:Wd}{G:Pg}{T:Tb}{n:Nat}{io:List Nat}{m:Nat}{E:St->XK}{sc:Scope}{N:List Str}{X:Cx}
theorem okN {x:Str}(h:okName x=true):(x == ("__debug__" : Str))=false/\(x == ("__classdict__" : Str))=false:=by
 unfold okName at h;simp only[Bool.and_eq_true,Bool.not_eq_true'] at h;exact h
theorem zHf (g:Gs W G T n E sc N X){x:Str}{p:Pos}{i:Nat}(hv:isVis sc x=true)(hok:okName x=true)(hi:pos? x N=some i):PE X (.Name x p) (tVar i):=
 zGM (by rw[g.gd.nm]; exact pos?_get hi) (g.gd.vis x hv) (okN hok).1 (okN hok).2
theorem zNO (g:Gs W G T n E sc N X)(e:Expr)(pos:Pos)(h1:∀x p,e≠.Name x p)(h2:∀o a p,e≠.BoolOp o [a] p):PS X (.Return (some e) pos) (exT W G n io E (.ret (cE T sc N m e))):=
 (zGB ((zBK m).e g.gd e)).mono fun Dn σ H h=>zLK (zI0 h1 h2 m) h
theorem zL6 (g:Gs W G T n E sc N X)(x:Str)(p pos:Pos)(i:Nat)(hv:isVis sc x=true)(hok:okName x=true)(hi:pos? x N=some i):PS X (.Return (some (.Name x p)) pos) (exT W G n io E (.ret (.var i))):=
 (zGB (zHf g hv hok hi)).mono fun Dn σ H h=>zLI h
theorem zL7 (g:Gs W G T n E sc N X)(x s:Str)(k1 k3:Nat)(p1 p2 p3 pos:Pos)(i:Nat)(hv:isVis sc x=true)(hok:okName x=true)(hi:pos? x N=some i):PS X (.Return (some (.Tuple [.Constant (.str s) k1 p1,.Name x p2] k3 p3)) pos) (exT W G n io E (.retP s i)):=
 (zGB (zJq (zBn zJr (zBn (zHf g hv hok hi) zCN rfl) rfl))).mono fun Dn σ H h=>zLJ h
theorem zL8 (pos:Pos):PS X (.Return none pos) (exT W G n io E (.ret (.cst .non))):=
 zKt.mono fun Dn σ H h=>by
  obtain⟨N0,a,hN,hS,h⟩:=zLK (fun i=>by simp) h;rw[Ip.zBD] at h;exact h _ _ (Res.of_flat (Sub.refl _) rfl .non)
theorem zHj {e:Expr}{es:List Expr}{cp:Pos}{env:Env}(ns:noStar (e::es)=true)(hl:es.length<29):((backTo cp (starEach (e::es) env)).all (fun x=>!x.1)&&(backToKw cp (keywordEach [] env)).all (fun x=>x.1.isSome)
   && decide ((e::es).length+([]:List Keyword).length+(if ([]:List Keyword).isEmpty then 0 else 1)<30))=true:=by
 rw[zCb ns];show (true&&true&&decide (es.length+1+0+0<30))=true;rw[decide_eq_true (by omega)]; rfl
theorem zNT (g:Gs W G T n E sc N X)(x:Str)(xp mp cp pos:Pos)(e:Expr)(i:Nat)(hv:isVis sc x=true)(hok:okName x=true)(hi:pos? x N=some i)(ns:noStar [e]=true)(hp:(mp.endLine == cp.line)=true) :
  PS X (.Expr (.Call (.Attribute (.Name x xp) "append" mp) [e] [] cp) pos) (exT W G n io E (.mut i [] .append [cE T sc N m e])):=by
 have s1:=(zAd ns).1;exact (zC8 (zIe PySem.F.plainAttrs_list PySem.F.slot_list_append PySem.F.type_list_append zDS (zHf g hv hok hi) (zBn ((zBK m).e g.gd e) zCN (zAh s1)) rfl (zHj ns (by decide)) hp (zAh s1) rfl) rfl).mono fun Dn σ H h=>zNK g.gd.K h
theorem zNS (g:Gs W G T n E sc N X)(x:Str)(xp mp cp pos:Pos)(e:Expr)(i:Nat)(hv:isVis sc x=true)(hok:okName x=true)(hi:pos? x N=some i)(ns:noStar [e]=true)(hp:(mp.endLine == cp.line)=true) :
  PS X (.Expr (.Call (.Attribute (.Name x xp) "extend" mp) [e] [] cp) pos) (exT W G n io E (.mut i [] .extend [cE T sc N m e])):=by
 have s1:=(zAd ns).1;exact (zC8 (zIe PySem.F.plainAttrs_list PySem.F.slot_list_extend PySem.F.type_list_extend zKW (zHf g hv hok hi) (zBn ((zBK m).e g.gd e) zCN (zAh s1)) rfl (zHj ns (by decide)) hp (zAh s1) rfl) rfl).mono fun Dn σ H h=>zNJ g.gd.K h
theorem zNP (g:Gs W G T n E sc N X)(x:Str)(xp mp cp pos:Pos)(e:Expr)(i:Nat)(hv:isVis sc x=true)(hok:okName x=true)(hi:pos? x N=some i)(ns:noStar [e]=true)(hp:(mp.endLine == cp.line)=true) :
  PS X (.Expr (.Call (.Attribute (.Name x xp) "remove" mp) [e] [] cp) pos) (exT W G n io E (.mut i [] .remove [cE T sc N m e])):=by
 have s1:=(zAd ns).1;exact (zC8 (zIe PySem.F.plainAttrs_list PySem.F.slot_list_remove PySem.F.type_list_remove zG2 (zHf g hv hok hi) (zBn ((zBK m).e g.gd e) zCN (zAh s1)) rfl (zHj ns (by decide)) hp (zAh s1) rfl) rfl).mono fun Dn σ H h=>zNF h
def SOk (W:Wd)(G:Pg)(T:Tb)(n m:Nat):Prop:=∀{io:List Nat} {E:St->XK} {sc:Scope} {N:List Str} {X:Cx},Gs W G T n E sc N X->∀st,PS X st (exT W G n io E (cS T sc N m st))
theorem zBW (ih:SOk W G T n m)(g:Gs W G T n E sc N X):∀sts:List Stmt,PSs X sts (exsT W G n io E (sts.map (cS T sc N m)))
 | []=>zNG
 | st::sts=>zLL (ih g st) (zBW ih g sts)
theorem s_if (ih:SOk W G T n m)(g:Gs W G T n E sc N X)(c:Expr)(a b:List Stmt)(pos:Pos):PS X (.If c a b pos) (exT W G n io E (.iff (cT T sc N m c) (a.map (cS T sc N m)) (b.map (cS T sc N m)))):=
 (zNZ ((zBK m).t g.gd c) (zBW ih g a) (zBW ih g b)).mono fun Dn σ H h=>zNH h
theorem zKe (ih:SOk W G T n m)(g:Gs W G T n E sc N X)(c:Expr)(b:List Stmt)(pos:Pos):PS X (.While c b [] pos) (exT W G n io E (.whl (cT T sc N m c) (b.map (cS T sc N m)))):=
 (zH3 g.own ((zBK m).t g.gd c) (zBW ih g b)).mono fun Dn σ H h=>zJQ h
theorem zMY {st:Stmt}{tg:Tg}{wk:Wk}{b:List Ip.S}:PS X st (exT W G n io E (.fo tg wk [.bad] b)):=fun pins s σ H Dn I ⟨_,_,_,_,_,_,_,h⟩=>by
 rw[Ip.zEH,zAb,zAr] at h; exact h.elim
theorem zNQ (ih:SOk W G T n m)(g:Gs W G T n E sc N X)(tg it:Expr)(b:List Stmt)(pos:Pos)(t:Tg)(ht:tgOf sc N tg=some t)(hw:wkOk (cI T sc N m it).1 t=true) :
  PS X (.For tg it b [] pos) (exT W G n io E (.fo t (cI T sc N m it).1 (cI T sc N m it).2 (b.map (cS T sc N m)))):=by
 rcases zGp it with ⟨a,b',c,rfl⟩ | hs
 ·rw[zHA]; exact zMY
 ·exact (zMl g.own g.gd.calm ((zBK m).i g.gd tg it (zER ht hw)) (zH8 g.gd ht) (zBW ih g b) (hs X.env)).mono fun Dn σ H h=>zNI g.gd.K h
theorem ps?_or {x:Str}{N:List Str}{f:Nat->Ip.S}:ps? x N f=.bad\/∃i,pos? x N=some i/\ps? x N f=f i:=by
 unfold ps?;cases pos? x N with
 | none=>exact .inl rfl
 | some i=>exact .inr ⟨i,rfl,rfl⟩
theorem pq {st:Stmt}{x:Str}{N:List Str}{f:Nat->Ip.S}(h:∀i,pos? x N=some i->PS X st (exT W G n io E (f i))):PS X st (exT W G n io E (ps? x N f)):=by
 rcases ps?_or (x:=x) (N:=N) (f:=f) with q | ⟨i,hi,q⟩
 ·rw[q]; exact zAB
 ·rw[q]; exact h i hi
theorem zOM (g:Gs W G T n E sc N X)(ts:List Expr)(e:Expr)(pos:Pos):PS X (.Assign ts e pos) (exT W G n io E (cS T sc N (m+1) (.Assign ts e pos))):=by
 simp only[Ip.zHz,Ip.cAsg];split
 ·split
  ·rename_i hl;exact pq fun i hi=>zNN g _ _ e pos i hl hi
  ·exact zAB
 ·split
  ·rename_i hc;split
   ·rename_i ht;exact zL5 g _ _ _ e pos _ hc ht
   ·exact zAB
  ·exact zAB
 ·split
  ·rename_i hl;rw[Bool.and_eq_true] at hl;refine pq fun k hk=>?_;refine pq fun j hj=>?_;by_cases hf:T.fl.contains j=true
   ·simp only[hf,if_true];exact zNR g _ _ _ _ e pos k j hl.1 hl.2 hk hj hf
   ·simp only[hf]; exact zAB
  ·exact zAB
 ·exact zAB
theorem zOJ (g:Gs W G T n E sc N X)(e:Expr)(pos:Pos):PS X (.Expr e pos) (exT W G n io E (cS T sc N (m+1) (.Expr e pos))):=by
 simp only[Ip.zLx,Ip.cExp];split
 ·rename_i x xp mm mp args cp;split
  ·rename_i hc;simp only[Bool.and_eq_true,beq_iff_eq] at hc;obtain⟨⟨h1,h2⟩,rfl⟩:=hc;unfold Ip.cApp;split
   ·split
    ·rename_i a hd;rw[Bool.and_eq_true] at hd;refine pq fun k hk=>?_;exact zNT g _ _ _ _ _ _ _ h1 h2 hk hd.1 hd.2
    ·exact zAB
   ·exact zAB
  ·split
   ·rename_i hc;simp only[Bool.and_eq_true,beq_iff_eq] at hc;obtain⟨⟨h1,h2⟩,rfl⟩:=hc;unfold Ip.cExt;split
    ·split
     ·rename_i hd;rw[Bool.and_eq_true] at hd;refine pq fun k hk=>?_;exact zNS g _ _ _ _ _ _ _ h1 h2 hk hd.1 hd.2
     ·exact zAB
    ·exact zAB
   ·split
    ·rename_i hc;simp only[Bool.and_eq_true,beq_iff_eq] at hc;obtain⟨⟨h1,h2⟩,rfl⟩:=hc;unfold Ip.cRem;split
     ·split
      ·rename_i hd;rw[Bool.and_eq_true] at hd;refine pq fun k hk=>?_;exact zNP g _ _ _ _ _ _ _ h1 h2 hk hd.1 hd.2
      ·exact zAB
     ·exact zAB
    ·exact zJf g _ pos fun _ _ _ _ z=>by cases z
 ·exact zAB
 ·rename_i h1 h2;exact zJf g e pos h2
theorem zNm (g:Gs W G T n E sc N X)(o:Option Expr)(pos:Pos):PS X (.Return o pos) (exT W G n io E (cS T sc N (m+1) (.Return o pos))):=by
 cases o with
 | none=>simp only[Ip.zEd,cRet]; exact zL8 pos
 | some e=>
  simp only[Ip.zEd,cRet];split
  ·split
   ·rename_i hc;rw[Bool.and_eq_true] at hc;refine pq fun k hk=>?_;exact zL6 g _ _ pos k hc.1 hc.2 hk
   ·exact zAB
  ·exact zAB
  ·rename_i h1 h2;cases qs:Ip.stP sc e with
   | none=>exact zNO g e pos h1 h2
   | some t=>
    obtain⟨s,x⟩:=t;dsimp only;obtain⟨k1,p1,p2,k3,p3,rfl,v1,v2⟩:=Ip.zLY qs;refine pq fun k hk=>?_;exact zL7 g x s k1 k3 p1 p2 p3 pos k v1 v2 hk
theorem zNp (ih:SOk W G T n m)(g:Gs W G T n E sc N X)(tg it:Expr)(b els:List Stmt)(pos:Pos):PS X (.For tg it b els pos) (exT W G n io E (cS T sc N (m+1) (.For tg it b els pos))):=by
 simp only[Ip.zNw,Ip.cFor];split
 ·exact zAB
 ·split
  ·rename_i ht;split
   ·rename_i hw;exact zNQ ih g tg it b pos _ ht hw
   ·exact zAB
  ·exact zAB
theorem zL9 (W:Wd)(G:Pg)(T:Tb)(n:Nat):∀m,SOk W G T n m
 | 0=>fun g st=>by exact zAB
 | m+1=>fun g st=>by
  have ih:SOk W G T n m:=zL9 W G T n m;cases st with
  | Assign ts e pos=>exact zOM g ts e pos
  | Expr e pos=>exact zOJ g e pos
  | Return o pos=>exact zNm g o pos
  | If c a b pos=>exact s_if ih g c a b pos
  | For tg it b els pos=>exact zNp ih g tg it b els pos
  | While c b els pos=>
   rw[Ip.zIZ];by_cases he:els.isEmpty=true
   ·rw[if_pos he];obtain rfl:=List.isEmpty_iff.mp he;exact zKe ih g c b pos
   ·rw[if_neg he]; exact zAB
  | Break pos=>exact zH4.mono fun Dn σ H ⟨_,_,_,A,_,_,f,h⟩=>by rw[show Ip.exec G (Ip.run G n) _ A (cS T _ _ (m+1) (.Break pos))=.brk A from rfl] at h; exact h _ _ _ f
  | Continue pos=>exact zEx.mono fun Dn σ H ⟨_,_,_,A,_,_,f,h⟩=>by rw[show Ip.exec G (Ip.run G n) _ A (cS T _ _ (m+1) (.Continue pos))=.cnt A from rfl] at h; exact h _ _ _ f
  | Pass pos=>exact zKu.mono fun Dn σ H ⟨_,_,_,A,_,_,f,h⟩=>by rw[show Ip.exec G (Ip.run G n) _ A (cS T _ _ (m+1) (.Pass pos))=.nx A from rfl] at h; exact h _ _ _ f
  | _=>exact zAB
end
section
variable {W:Wd}{G:Pg}{T:Tb}{n:Nat}{P:Program}{w:World}{mg:Str->Option Value}{base:Heap}
theorem zDv {S:Hp}:∀{vs:List V} {ds:List D} {i:Nat} {d:D},Dens W S vs ds->ds[i]? = some d->∃v,vs[i]? = some v/\Den W S v d
 | _,_,_,_,.nil,h=>by simp at h
 | _,_,0,_,.cons h _,e=>by
  simp only[List.getElem?_cons_zero,Option.some.injEq] at e;subst e;exact⟨_,rfl,h⟩
 | _,_,i+1,_,.cons _ q,e=>by
  simp only[List.getElem?_cons_succ] at e ⊢;exact zDv q e
theorem zD6 {F:Fn}{xs:List KD}{i:Nat}{x:KD}(h:(enter F xs)[i]? = some (some x)):∃y,xs[i]? = some y/\x=if F.io.contains i then y else (0,y.2):=by
 unfold enter at h;by_cases hi:i<xs.length
 ·rw[List.getElem?_append_left (by rw[List.length_mapIdx]; exact hi),List.getElem?_mapIdx,List.getElem?_eq_getElem hi] at h;simp only[Option.map_some,Option.some.injEq] at h;refine⟨xs[i],List.getElem?_eq_getElem hi,?_⟩;by_cases c:F.io.contains i=true
  ·rw[if_pos c] at h ⊢; exact (zn3 h).symm
  ·rw[if_neg c] at h ⊢; exact (zn3 h).symm
 ·rw[List.getElem?_append_right (by rw[List.length_mapIdx]; omega)] at h;have:=List.mem_of_getElem? h;rw[List.mem_replicate] at this;cases this.2
theorem zD5 {F:Fn}{xs:List KD}(h:xs.length=F.np)(h2:F.np<=F.ns):(enter F xs).length=F.ns:=by
 unfold enter;rw[List.length_append,List.length_mapIdx,List.length_replicate];omega
theorem zBM {N:List Str}{vs:List V}{i:Nat}{v:V}(h:vs[i]? = some v):(start N vs)[i]? = some (some v):=by
 unfold start;have hi:i<vs.length:=(zp6 h).1;rw[List.getElem?_append_left (by rw[List.length_map]; exact hi),List.getElem?_map,h]; rfl
theorem zGl {N:List Str}{vs:List V}(h:vs.length<=N.length):(start N vs).length=N.length:=by
 unfold start;rw[List.length_append,List.length_map,List.length_replicate]; omega
theorem zIC {M:Addr->Prop}:hidF M (fun _=>[])=M:=funext fun b=>propext ⟨fun z=>z.elim id fun⟨_,y⟩=>by simp at y,.inl⟩
theorem zKD {S H:Hp}:Own W S H 99 .non .non []:=⟨rfl,.non⟩
theorem zFO {S H:Hp}{k:Nat}{v:V}{fp:List Addr}(h:Own W S H k v .non fp):v=.non:=by
 cases k with
 | zero=>obtain⟨_,h⟩:=h; cases h; rfl
 | succ k=>obtain⟨_,h⟩:=h; cases h; rfl
theorem FrX.out {E0:Hp}{N:Addr->Prop}{pin:List (Nat×V)}{A:Fr}{σ:St}{H:Hp}{c:Nat}{fs:List (Nat×D)}{e:Addr}(h:FrX W E0 N pin A σ H c fs e):ExcR W E0 N H c fs e:=by
 obtain⟨F,f,he,C,vs,h1,h2,h3⟩:=h;exact⟨f.sub,he.1,C,vs,h1,h2,h3.mono fun b u z=>zAa.mpr ⟨fun y=>(zAa.mp z).1 (.inl y),(zAa.mp z).2⟩⟩
theorem zOd {H:Hp}{N:Addr->Prop}{o:O}{Q:VK}{E:XK}(h:match fin [] o with
  | .ret k d []=>∀v H',Res W H N H' (k,d) v->Q v H'
  | .exc c fs []=>∀e H',ExcR W H N H' c fs e->E (.ref e) none H'
  | _=>False):PostS W H N [] (fun _=>E) { nx:=fun _ H'=>Q .non H',rt:=Q } o:=by
 cases o with
 | nx A=>exact fun σ H' F f=>h .non H' ⟨f.sub,[],.nil,fun _ z=>by simp at z,zKD⟩
 | ret k d A=>
  rintro v σ H' ⟨fp,F,f,nd,fr,o⟩;refine h v H' ⟨f.sub,fp,nd,fun b hb=>(fr b hb).1,o.mono (fun b u z=>?_) fun _ _ _ e=>e⟩;exact zAa.mpr ⟨fun y=>(zAa.mp z).1 (.inl y),(zAa.mp z).2⟩
 | brk A=>exact h.elim
 | cnt A=>exact h.elim
 | exc c fs A=>exact fun e σ H' x=>h e H' x.out
 | bad=>exact h.elim
theorem zOe {H:Hp}{N:Addr->Prop}{f0:List Addr}{v0:V}{o:O}{Q:VK}{E:XK}(h:match fin [0] o with
  | .ret k d [y]=>∀v H' (fp:List Addr),Sub (hid (fun b=>b∈f0) H) H'->fp.Nodup->(∀b∈fp,hid (fun b=>b∈f0) H b=none)->Own W (hid (fun b=>N b\/b∈fp) H') H' y.1 v0 y.2 fp->(d=.non->v=.non)->Q v H'
  | .exc c fs _=>∀e H',ExcR W (hid (fun b=>b∈f0) H) N H' c fs e->E (.ref e) none H'
  | _=>False):PostS W (hid (fun b=>b∈f0) H) N [(0,v0)] (fun _=>E) { nx:=fun _ H'=>Q .non H',rt:=Q } o:=by
 have key:∀{N':Addr->Prop} {A:Fr} {σ:St} {H':Hp} {F:Nat->List Addr} {y:KD},FrF W (hid (fun b=>b∈f0) H) N' [(0,v0)] A σ H' F->(∀b,N b->N' b)->A[0]? = some (some y)->Sub (hid (fun b=>b∈f0) H) H'/\(F 0).Nodup/\(∀b∈F 0,hid (fun b=>b∈f0) H b=none)/\Own W (hid (fun b=>N b\/b∈F 0) H') H' y.1 v0 y.2 (F 0):=by
  intro N' A σ H' F y f hN hA;obtain⟨v,h1,h2⟩:=f.rel 0 y hA;have h3:=f.pn (0,v0) (by simp);rw[h1] at h3;cases h3;refine⟨f.sub,f.nd 0,fun b hb=>(f.fr 0 b hb).1,h2.mono (fun b u z=>?_) fun _ _ _ e=>e⟩;refine zAa.mpr ⟨fun y=>(zAa.mp z).1 ?_,(zAa.mp z).2⟩;exact y.elim (fun q=>.inl (hN b q)) fun q=>.inr ⟨0,q⟩
 cases o with
 | nx A=>
  intro σ H' F f;simp only[fin,outs] at h;cases q:A[0]? with
  | none=>rw[q] at h; exact h.elim
  | some o=>
   cases o with
   | none=>rw[q] at h; exact h.elim
   | some y=>
    rw[q] at h;obtain⟨a1,a2,a3,a4⟩:=key f (fun _ z=>z) q;exact h .non H' _ a1 a2 a3 a4 fun _=>rfl
 | ret k d A=>
  rintro v σ H' ⟨fp,F,f,nd,fr,o⟩;simp only[fin,outs] at h;cases q:A[0]? with
  | none=>rw[q] at h; exact h.elim
  | some o=>
   cases o with
   | none=>rw[q] at h; exact h.elim
   | some y=>
    rw[q] at h;obtain⟨a1,a2,a3,a4⟩:=key f (fun _ z=>.inl z) q;refine h v H' _ a1 a2 a3 a4 fun z=>?_;subst z;exact zFO o
 | brk A=>exact h.elim
 | cnt A=>exact h.elim
 | exc c fs A=>
  intro e σ H' x;simp only[fin,outs] at h;cases q:A[0]? with
  | none=>rw[q] at h; exact h.elim
  | some o=>
   cases o with
   | none=>rw[q] at h; exact h.elim
   | some y=>rw[q] at h; exact h e H' x.out
 | bad=>exact h.elim
theorem zLA {k:Nat}{F:Fn}{N:List Str}{vs:List V}{H:Hp}{Q:VK}{E:XK}(hF:G.fn k=some F)(hns:F.ns=N.length)(hnp:F.np<=F.ns)(h:spF W G (n+1) k F vs H Q E) :
  exsT W G n F.io (fun _=>E) F.body { nx:=fun _ H'=>Q .non H',rt:=Q } (start N vs) H:=by
 have hlen:=zEq hF h;have hsl:(start N vs).length=N.length:=zGl (by omega);rcases h with ⟨hio,M,xs,hM,dv,h⟩ | ⟨hio,M,x0,xs,v0,ws,f0,rfl,hM,nd,dj,ow,dv,h⟩
 ·have hx:xs.length=F.np:=by rw[dv.length,List.length_map] at hlen; exact hlen
  rw[Ip.run,hF] at h;simp only[if_pos hx,hio] at h;refine⟨H,M,[],enter F xs,fun _=>[],fun p hp=>by simp at hp,⟨fun _ _ e=>e,hM,by rw[hsl,zD5 hx hnp,hns],fun p hp=>by simp at hp,fun _=>.nil,fun i j b hb=>by simp at hb,fun i b hb=>by simp at hb,fun i x e=>?_,fun _ _=>rfl⟩,?_⟩
  ·obtain⟨y,e1,e2⟩:=zD6 e;rw[hio] at e2;simp only[List.contains_nil,Bool.false_eq_true,if_false] at e2;obtain⟨v,e3,e4⟩:=zDv (i:=i) (d:=y.2) dv (by rw[List.getElem?_map,e1]; rfl);refine⟨v,zBM e3,?_⟩;rw[zIC,e2];exact⟨rfl,e4⟩
  ·rw[hio];exact zOd h
 ·have hx:(x0::xs).length=F.np:=by rw[List.length_cons,dv.length,List.length_map] at hlen; rw[List.length_cons]; exact hlen
  rw[Ip.run,hF] at h;simp only[if_pos hx,hio] at h;have hh:hidF M (fun i=>if i=0 then f0 else [])=fun b=>M b\/b∈f0:=funext fun b=>propext ⟨fun z=>z.imp id fun⟨j,y⟩=>by
   by_cases q:j=0
   ·simpa[q] using y
   ·simp[q] at y,fun z=>z.imp id fun y=>⟨0,by simpa using y⟩⟩
  refine⟨hid (fun b=>b∈f0) H,M,[(0,v0)],enter F (x0::xs),fun i=>if i=0 then f0 else [],fun p hp=>by simp at hp; rw[hp,hio]; simp,⟨fun b u e=>(zAa.mp e).2,hM,by rw[hsl,zD5 hx hnp,hns],fun p hp=>?_,fun i=>?_,fun i j b h1 h2=>?_,fun i b hb=>?_,fun i x e=>?_,fun i hi=>?_⟩,?_⟩
  ·simp only[List.mem_singleton] at hp;rw[hp];exact zBM rfl
  ·split
   ·exact nd
   ·exact .nil
  ·split at h1
   ·split at h2
    ·omega
    ·simp at h2
   ·simp at h1
  ·split at hb
   ·exact⟨by unfold hid; exact if_pos hb,dj b hb⟩
   ·simp at hb
  ·obtain⟨y,e1,e2⟩:=zD6 e;rw[hio] at e2;rw[hh];cases i with
   | zero=>
    simp only[List.getElem?_cons_zero,Option.some.injEq] at e1;subst e1;rw[if_pos (by simp)] at e2;subst e2;exact⟨v0,zBM rfl,by simpa using ow⟩
   | succ i=>
    simp only[List.getElem?_cons_succ] at e1;rw[if_neg (by simp)] at e2;obtain⟨v,e3,e4⟩:=zDv (i:=i) (d:=y.2) dv (by rw[List.getElem?_map,e1]; rfl);refine⟨v,zBM (by simpa using e3),?_⟩;rw[e2];exact⟨by simp,e4⟩
  ·split
   ·rename_i z;subst z;exact absurd (show (enter F (x0::xs))[0]? = some (some x0) by simp[enter,hio]) (hi x0)
   ·rfl
  ·rw[hio];exact zOe h
structure FunD (K:zFg)(x qual:Str)(st:Stmt)(f:Addr)(fd:FuncData):Prop where
 ex:∃(oc:Value) (od:Option Addr) (dV kV doc pm:Value) (an:Option Addr) (cdv ct:Value) (osl:Array (Option Value)),
  fd=PySem.W.fnOf x qual (defArgs st) (defBody st) (zAf st) dV kV doc pm an cdv ct/\K.lookup f=some ⟨oc,od,.func fd,osl⟩/\PySem.W.codeIn K cdv qual=true
theorem FunD.okX {N:List Str}{x qual:Str}{st:Stmt}{f:Addr}{fd:FuncData}{ps:List Str}{k:Nat}{sp:Sp}{K:zFg}(F:FunD K x qual st f fd)(S:FnScope N ps (zAf st))(len:∀vs H Q E,sp vs H Q E->vs.length=ps.length)
  (hbody:∀(cdv:Value) (A:Around) (outer:List Env) (s:Shared) (H:Hp) (vs:List V) (Q:VK) (E:XK),Room k (A.deeper (envOfC qual (zAf st) s.heap.objs.size f cdv))->sp vs H Q E ->
   ∃t,PSs (cxOf (CXE P w) P w K mg base N qual (zAf st) f cdv A outer s H E) (defBody st) t/\t { nx:=fun _ H'=>Q .non H',rt:=Q } (start N vs) H):FnOk P w K mg base (CXE P w) (k+1) f fd ps sp:=by
 obtain⟨oc,od,dV,kV,doc,pm,an,cdv,ct,osl,rfl,lk,hcd⟩:=F.ex;exact zOc lk hcd S len fun A outer s H vs Q E hr hsp=>hbody cdv A outer s H vs Q E hr hsp
structure DefAt (W:Wd)(T:Tb)(F:Fn)(a:Addr):Prop where
 ex:∃(x qual:Str) (st:Stmt) (fd:FuncData) (ps:List Str) (io:List Nat),FunD W.K x qual st a fd/\FnScope (fnN (defArgs st) (zAf st)) ps (zAf st)/\cF T io st=some F/\F.np=ps.length /\
  ∀m,m<=F.np->F.np - m<=F.dfl.length->∃(ds:List Value) (dvs:List V),Binds W.K fd ps ds/\Vals dvs ds/\∀S,Dens W S dvs (dflD F m)
theorem zLz {io:List Nat}{st:Stmt}{F:Fn}(h:cF T io st=some F):F.io=io/\F.ns=(fnN (defArgs st) (zAf st)).length/\F.np=(defArgs st).args.length/\F.body=(defBody st).map (cS T (zAf st) (fnN (defArgs st) (zAf st)) 60):=by
 unfold cF at h;split at h
 ·obtain⟨ds,_,h2⟩:=zp5 h;subst h2;exact⟨rfl,rfl,rfl,rfl⟩
 ·cases h
theorem zN8 {a:Arguments}{sc:Scope}:a.args.length<=(fnN a sc).length:=by
 unfold fnN;rw[List.length_append,List.length_map]; omega
theorem zHq {k:Nat}{F:Fn}{a:Addr}{x qual:Str}{st:Stmt}{fd:FuncData}{ps:List Str}{io:List Nat}(hF:G.fn k=some F)(g:∀m,n=m+1->GF W G T m P w mg base)(fu:FunD W.K x qual st a fd)(S:FnScope (fnN (defArgs st) (zAf st)) ps (zAf st))(hc:cF T io st=some F)(hnp:F.np=ps.length) :
  FnOk P w W.K mg base (CXE P w) (rm n) a fd ps (spF W G n k F):=by
 obtain⟨c1,c2,c3,c4⟩:=zLz hc;cases n with
 | zero=>
  refine fu.okX (k:=0) S (fun vs H Q E h=>by rw[zEq hF h,hnp]) fun cdv A outer s H vs Q E hr h=>?_;rcases h with ⟨_,_,_,_,_,q⟩ | ⟨_,_,_,_,_,_,_,_,_,_,_,_,_,q⟩
  ·exact q.elim
  ·exact q.elim
 | succ n=>
  refine fu.okX (k:=3 * n+3) S (fun vs H Q E h=>by rw[zEq hF h,hnp]) fun cdv A outer s H vs Q E hr h=>?_;refine⟨_,zBW (io:=F.io) (E:=fun _=>E) (zL9 W G T n 60) (sc:=zAf st) (N:=fnN (defArgs st) (zAf st)) ?_ (defBody st),?_⟩
  ·refine⟨⟨g n rfl,rfl,fun y hy=>?_,fun y hy=>?_,fun y hy=>?_,fun y hy=>hy,rfl,S.nd,rfl,passF,hr.mono (by unfold rm; omega)⟩,PassesOwn.leaving,⟨_,_,rfl,rfl⟩,rfl⟩
   ·unfold isVis at hy;simp only[Bool.or_eq_true,beq_iff_eq] at hy;exact hy.elim (fun z=>z.elim .inl fun z=>.inr (.inl z)) fun z=>.inr (.inr z)
   ·unfold Ip.isLoc at hy;simp only[Bool.or_eq_true,beq_iff_eq] at hy;exact⟨hy,.inl rfl⟩
   ·unfold Ip.isGl at hy;simp only[beq_iff_eq] at hy;exact hy
  ·rw[<-c4];exact zLA hF c2 (by rw[c3,c2]; exact zN8) h
theorem zHr {k:Nat}{F:Fn}{a:Addr}(hF:G.fn k=some F)(g:∀m,n=m+1->GF W G T m P w mg base)(d:DefAt W T F a):FI W G n P w mg base k F a:=by
 obtain⟨x,qual,st,fd,ps,io,fu,S,hc,hnp,dfl⟩:=d.ex;exact⟨fd,ps,zHq hF g fu S hc hnp,dfl⟩
end
structure GF0 (W:Wd)(G:Pg)(T:Tb)(mg:Str->Option Value):Prop where
 cf:CF W T.fl
 att:W.att=T.att
 blt:∀x v,(x,v)∈bltT->mg x=none/\bootBuiltins x=some v
 cst:∀x d,T.cst.lookup x=some d->(x == ("__debug__" : Str))=false/\∃u v,mg x=some u/\RelV v u/\d.flat=true/\∀S,Den W S v d
 fns:∀x k,T.fns.lookup x=some k->(x == ("__debug__" : Str))=false/\∃F a,G.fn k=some F/\mg x=some (.ref a)/\PySem.W.keepIn W.K (.ref a)=true/\DefAt W T F a
 cls:∀x c,T.cls.lookup x=some c->(x == ("__debug__" : Str))=false/\∃C,mg x=some (.ref C)/\∀Cl' f F,G.cl c=some Cl'->Cl'.init=some f->G.fn f=some F ->
  ∃a,DefAt W T F a/\Cl'.isx=false/\W.iA c=some C/\Mk W.K C a
 meth:∀c Cl' m f F,G.cl c=some Cl'->Cl'.meths.lookup m=some f->G.fn f=some F->∀nm,W.att[m]? = some nm->∃C a,W.iA c=some C/\Meth W.K C nm a/\DefAt W T F a
 isB:∀x t,tyT.lookup x=some t->mg x=none/\x ≠ "__name__" /\ (x == ("__debug__" : Str))=false/\∃nm,bootBuiltins x=some (.type nm)/\IsiOk W G t (.type nm)
 isC:∀x c,T.cls.lookup x=some c->∃C,mg x=some (.ref C)/\IsiOk W G (.cls c) (.ref C)
theorem zMV {W:Wd}{G:Pg}{T:Tb}{P:Program}{w:World}{mg:Str->Option Value}{base:Heap}(g0:GF0 W G T mg):∀n,GF W G T n P w mg base:=by
 have step:∀n,(∀m,n=m+1->GF W G T m P w mg base)->GF W G T n P w mg base:=fun n ih=>
  ⟨g0.cf,g0.att,g0.blt,g0.cst,fun x k h=>by
   obtain⟨h1,F,a,h2,h3,h4,h5⟩:=g0.fns x k h;exact⟨h1,F,a,h2,h3,h4,zHr h2 ih h5⟩,fun x c h=>by
   obtain⟨h1,C,h2,h3⟩:=g0.cls x c h;refine⟨h1,C,h2,fun Cl' f F q1 q2 q3=>?_⟩;obtain⟨a,h4,h5⟩:=h3 Cl' f F q1 q2 q3;exact⟨a,zHr q3 ih h4,h5⟩,fun c Cl' m f F q1 q2 q3 nm q4=>by
   obtain⟨C,a,h1,h2,h3⟩:=g0.meth c Cl' m f F q1 q2 q3 nm q4;exact⟨C,a,h1,h2,zHr q3 ih h3⟩,g0.isB,g0.isC⟩
 intro n;induction n with
 | zero=>exact step 0 fun m h=>by cases h
 | succ n ih=>exact step (n+1) fun m h=>by cases h; exact ih
section
variable {W:Wd}{T:Tb}{F:Fn}{f:Addr}{x qual:Str}{st:Stmt}{oc dV kV doc pm cdv ct:Value}{od an:Option Addr}{osl:Array (Option Value)}{ps:List Str}{io:List Nat}
theorem zLh (l:W.K.lookup f=some ⟨oc,od,.func (PySem.W.fnOf x qual (defArgs st) (defBody st) (zAf st) dV kV doc pm an cdv ct),osl⟩)(c:PySem.W.codeIn W.K cdv qual=true)
  (S:FnScope (fnN (defArgs st) (zAf st)) ps (zAf st))(hc:cF T io st=some F)(hnp:F.np=ps.length)(hd:F.dfl=[])
  (hb:∀us:List Value,us.length=ps.length->bindArgs (PySem.W.fnOf x qual (defArgs st) (defBody st) (zAf st) dV kV doc pm an cdv ct) ⟨us,[]⟩=pure (ps.zip us)):DefAt W T F f:=by
 refine⟨x,qual,st,_,ps,io,⟨oc,od,dV,kV,doc,pm,an,cdv,ct,osl,rfl,l,c⟩,S,hc,hnp,fun m h1 h2=>⟨[],[],Binds.all hb,.nil,fun S=>?_⟩⟩;unfold dflD;rw[hd];simp;exact .nil
theorem mem_of_lookup {o:Obj}{a:Addr}:∀{l:List (Addr×Obj)},l.lookup a=some o->(a,o)∈l
 | [],h=>nomatch h
 | (y,j)::r,h=>by
  rw[List.lookup_cons] at h;cases e:a == y with
  | true=>
   rw[e] at h;rw[beq_iff_eq] at e;cases h;rw[e];exact zm2
  | false=>rw[e] at h; exact zm1 _ (mem_of_lookup h)
def spLaw (K:zFg):Sp:=fun vs H Q _=>∃(a:Addr) (ns:List Int),vs=[.ref a]/\SqL K H a (ns.map V.int)/\ns.length<=63/\∀H',Q (.bl true) H'
theorem zL1 {G:Pg}{n k:Nat}(hio:F.io=[])(hno:(W.K.all fun p=>!(p.2.cls == Value.type "list"))=true)(hr:∀ns:List Int,ns.length<=63->∃kk,Ip.run G n k [(0,.lst (ns.map D.int))]=.ret kk (.bl true) []) :
  ∀vs H Q E,spLaw W.K vs H Q E->spF W G n k F vs H Q E:=by
 rintro vs H Q E ⟨a,ns,e,hS,hl,hq⟩;subst e;obtain⟨kk,hr⟩:=hr ns hl;refine .inl ⟨hio,fun _=>False,[(0,.lst (ns.map D.int))],fun _ z=>z.elim,?_,?_⟩
 ·have e:hid (fun _=>False) H=H:=funext fun b=>by unfold hid; exact if_neg id
  rw[e];have hR:Rd H a (.lst (ns.map V.int)):=by
   rcases hS with h | ⟨o,its,m,h1,h2,_⟩
   ·exact h
   ·have:=zp7 hno (a,o) (mem_of_lookup h1);rw[h2] at this;simp at this
  refine .cons (.lst hR ?_) .nil;clear hr hS hR hl;induction ns with
  | nil=>exact .nil
  | cons i ns ih=>exact .cons .int ih
 ·rw[hr];rintro v H' ⟨_,fp,_,_,o⟩;have:v=.bl true:=by
   cases kk with
   | zero=>obtain⟨_,o⟩:=o; cases o; rfl
   | succ kk=>obtain⟨_,o⟩:=o; cases o; rfl
  subst this;exact hq H'
end
section
variable {W:Wd}{G:Pg}{T:Tb}{mg:Str->Option Value}
def PF (W:Wd)(T:Tb)(G:Pg)(mg:Str->Option Value)(p:Str×Nat):Prop:=(p.1 == ("__debug__" : Str))=false/\∃F a,G.fn p.2=some F/\mg p.1=some (.ref a)/\PySem.W.keepIn W.K (.ref a)=true/\DefAt W T F a
def PCl (W:Wd)(T:Tb)(G:Pg)(mg:Str->Option Value)(p:Str×Nat):Prop:=(p.1 == ("__debug__" : Str))=false/\∃C,mg p.1=some (.ref C)/\IsiOk W G (.cls p.2) (.ref C)/\∀Cl' f F,G.cl p.2=some Cl'->Cl'.init=some f->G.fn f=some F ->
  ∃a,DefAt W T F a/\Cl'.isx=false/\W.iA p.2=some C/\Mk W.K C a
def PV (W:Wd)(mg:Str->Option Value)(p:Str×D):Prop:=(p.1 == ("__debug__" : Str))=false/\∃u v,mg p.1=some u/\RelV v u/\p.2.flat=true/\∀S,Den W S v p.2
def PM (W:Wd)(T:Tb)(G:Pg)(C:Addr)(p:Nat×Nat):Prop:=∃F nm a,G.fn p.2=some F/\W.att[p.1]? = some nm/\Meth W.K C nm a/\DefAt W T F a
theorem zAs {α β:Type}[BEq α][LawfulBEq α]{a:α}{b:β}:∀{l:List (α×β)},l.lookup a=some b->(a,b)∈l
 | [],h=>nomatch h
 | (y,j)::r,h=>by
  rw[List.lookup_cons] at h;cases e:a == y with
  | true=>
   rw[e] at h;rw[beq_iff_eq] at e;cases h;rw[e];exact zm2
  | false=>rw[e] at h; exact zm1 _ (zAs h)
theorem zMW (cf:CF W T.fl)(att:W.att=T.att)(blt:∀p∈bltT,mg p.1=none/\bootBuiltins p.1=some p.2)(cst:∀p∈T.cst,PV W mg p)(fns:∀p∈T.fns,PF W T G mg p)(cls:∀p∈T.cls,PCl W T G mg p)
  (meth:∀c Cl',G.cl c=some Cl'->Cl'.meths≠[]->∃C,W.iA c=some C/\∀p∈Cl'.meths,PM W T G C p)
  (isB:∀p∈tyT,mg p.1=none/\p.1 ≠ "__name__" /\ (p.1 == ("__debug__" : Str))=false/\∃nm,bootBuiltins p.1=some (.type nm)/\IsiOk W G p.2 (.type nm)):GF0 W G T mg where
 cf:=cf
 att:=att
 blt:=fun x v h=>blt (x,v) h
 cst:=fun x d h=>cst (x,d) (zAs h)
 fns:=fun x k h=>fns (x,k) (zAs h)
 cls:=fun x c h=>by
  obtain⟨h1,C,h2,_,h3⟩:=cls (x,c) (zAs h);exact⟨h1,C,h2,h3⟩
 meth:=fun c Cl' m f F h1 h2 h3 nm h4=>by
  have hm:=zAs h2;obtain⟨C,e1,e2⟩:=meth c Cl' h1 (fun z=>by rw[z] at hm; simp at hm);obtain⟨F',nm',a,e3,e4,e5,e6⟩:=e2 (m,f) hm;rw[h3] at e3; cases e3;rw[h4] at e4; cases e4;exact⟨C,a,e1,e5,e6⟩
 isB:=fun x t h=>isB (x,t) (zAs h)
 isC:=fun x c h=>by
  obtain⟨_,C,h2,h3,_⟩:=cls (x,c) (zAs h);exact⟨C,h2,h3⟩
theorem zMT {t:Ip.Ty}{cv:Value}(h0:PySem.W.kitOne W.K (.type "NoneType") cv=some (isTy G .non t))(h1:PySem.W.kitOne W.K (.type "bool") cv=some (isTy G (.bl true) t))(h2:PySem.W.kitOne W.K (.type "int") cv=some (isTy G (.int 0) t))
  (h3:PySem.W.kitOne W.K (.type "str") cv=some (isTy G (.str "") t))(h4:PySem.W.kitOne W.K (.type "list") cv=some (isTy G (.lst []) t))(h5:PySem.W.kitOne W.K (.type "tuple") cv=some (isTy G (.tup []) t))
  (h6:∀c C,W.iA c=some C->PySem.W.kitOne W.K (.ref C) cv=some (isTy G (.ins c []) t))(h7:∀c C,W.xA c=some C->PySem.W.kitOne W.K (.ref C) cv=some (isTy G (.exc c []) t)):IsiOk W G t cv:=by
 intro d tv h;cases d with
 | non=>cases h; exact h0
 | bl b=>cases h; rw[h1]; cases t <;> rfl
 | int i=>cases h; rw[h2]; cases t <;> rfl
 | str s=>cases h; rw[h3]; cases t <;> rfl
 | lst xs=>cases h; rw[h4]; cases t <;> rfl
 | tup xs=>cases h; rw[h5]; cases t <;> rfl
 | ins c fs=>
  obtain⟨C,e1,e2⟩:=zp5 h;subst e2;rw[h6 c C e1]; cases t <;> rfl
 | exc c fs=>
  obtain⟨C,e1,e2⟩:=zp5 h;subst e2;rw[h7 c C e1]; cases t <;> rfl
end
noncomputable def wdOf (K:zFg)(iL xL:List (Nat×Addr))(att:List Str):Wd:=⟨K,fun c=>iL.lookup c,fun c=>xL.lookup c,att⟩
theorem len1 {α:Type}{l:List α}(h:l.length=1):∃a,l=[a]:=List.length_eq_one_iff.mp h
theorem lenS {α:Type}{l:List α}{n:Nat}(h:l.length=n+1):∃a r,l=a::r/\r.length=n:=by
 cases l with
 | nil=>cases h
 | cons a r=>exact⟨a,r,rfl,Nat.succ.inj h⟩
theorem len2 {α:Type}{l:List α}(h:l.length=2):∃a b,l=[a,b]:=by
 obtain⟨a,r,rfl,h2⟩:=lenS h;obtain⟨b,rfl⟩:=len1 h2;exact⟨a,b,rfl⟩
theorem len3 {α:Type}{l:List α}(h:l.length=3):∃a b c,l=[a,b,c]:=by
 obtain⟨a,r,rfl,h2⟩:=lenS h;obtain⟨b,c,rfl⟩:=len2 h2;exact⟨a,b,c,rfl⟩
theorem len4 {α:Type}{l:List α}(h:l.length=4):∃a b c d,l=[a,b,c,d]:=by
 obtain⟨a,r,rfl,h2⟩:=lenS h;obtain⟨b,c,d,rfl⟩:=len3 h2;exact⟨a,b,c,d,rfl⟩
theorem len5 {α:Type}{l:List α}(h:l.length=5):∃a b c d e,l=[a,b,c,d,e]:=by
 obtain⟨a,r,rfl,h2⟩:=lenS h;obtain⟨b,c,d,e,rfl⟩:=len4 h2;exact⟨a,b,c,d,e,rfl⟩
section
variable {K:zFg}{iL xL:List (Nat×Addr)}{att:List Str}{fl:List Nat}{G:Pg}{T:Tb}{mg:Str->Option Value}
noncomputable def zB4 (fl:List Nat)(att:List Str):List Str:=fl.filterMap fun f=>att[f]?
abbrev NoA (K:zFg)(C:Addr)(ns:List Str):Prop:=(ns.map fun n=>PySem.W.findIn K (.ref C) n)=ns.map fun _=>some none
theorem NoA.at {C:Addr}{ns:List Str}(h:NoA K C ns){n:Str}(hn:n∈ns):NoAttr K C n:=List.map_inj_left.mp h n hn
theorem zOE (nd:att.Nodup)(hi:∀p∈iL,InsC K p.2/\NoA K p.2 (zB4 fl att)):CF (wdOf K iL [] att) fl:=
 ⟨nd,fun c C h=>⟨(hi (c,C) (zAs h)).1,fun f n hf hn=>(hi (c,C) (zAs h)).2.at (List.mem_filterMap.mpr ⟨f,hf,hn⟩)⟩,
  fun _=>rfl⟩
abbrev IsiB (K:zFg)(G:Pg)(t:Ip.Ty)(cv:Value):Prop:=[PySem.W.kitOne K (.type "NoneType") cv,PySem.W.kitOne K (.type "bool") cv,PySem.W.kitOne K (.type "int") cv,PySem.W.kitOne K (.type "str") cv,PySem.W.kitOne K (.type "list") cv,PySem.W.kitOne K (.type "tuple") cv]=[some (isTy G .non t),some (isTy G (.bl true) t),some (isTy G (.int 0) t),some (isTy G (.str "") t),some (isTy G (.lst []) t),some (isTy G (.tup []) t)]
abbrev IsiI (K:zFg)(iL:List (Nat×Addr))(G:Pg)(t:Ip.Ty)(cv:Value):Prop:=(iL.map fun p=>PySem.W.kitOne K (.ref p.2) cv)=iL.map fun p=>some (isTy G (.ins p.1 []) t)
abbrev IsiX (K:zFg)(xL:List (Nat×Addr))(G:Pg)(t:Ip.Ty)(cv:Value):Prop:=(xL.map fun p=>PySem.W.kitOne K (.ref p.2) cv)=xL.map fun p=>some (isTy G (.exc p.1 []) t)
theorem zK8 {t:Ip.Ty}{cv:Value}(hb:IsiB K G t cv)(hi:IsiI K iL G t cv)(hx:IsiX K xL G t cv):IsiOk (wdOf K iL xL att) G t cv:=by
 unfold IsiB at hb;injection hb with h0 hb;injection hb with h1 hb;injection hb with h2 hb;injection hb with h3 hb;injection hb with h4 hb;injection hb with h5 hb;exact zMT h0 h1 h2 h3 h4 h5 (fun c C h=>List.map_inj_left.mp hi (c,C) (zAs h)) fun c C h=>List.map_inj_left.mp hx (c,C) (zAs h)
def FnAt (K:zFg)(x qual:Str)(st:Stmt)(f:Addr):Prop:=∃(oc:Value) (od:Option Addr) (kV doc pm:Value) (an:Option Addr) (cdv ct:Value) (osl:Array (Option Value)),
 K.lookup f=some ⟨oc,od,.func (PySem.W.fnOf x qual (defArgs st) (defBody st) (zAf st) .none kV doc pm an cdv ct),osl⟩/\PySem.W.codeIn K cdv qual=true
theorem FnAt.mk {x qual:Str}{st:Stmt}{f:Addr}{oc kV doc pm cdv ct:Value}{od an:Option Addr}{osl:Array (Option Value)}(l:K.lookup f=some ⟨oc,od,.func (PySem.W.fnOf x qual (defArgs st) (defBody st) (zAf st) .none kV doc pm an cdv ct),osl⟩)(c:PySem.W.codeIn K cdv qual=true):FnAt K x qual st f:=
 ⟨oc,od,kV,doc,pm,an,cdv,ct,osl,l,c⟩
theorem zK2 {K:zFg}{iL xL:List (Nat×Addr)}{P:Program}{w:World}{n:Nat}{F:Fn}{f:Addr}{st:Stmt}{x:Str}(g0:GF0 (wdOf K iL xL att) G T mg)(hno:(K.all fun p=>!(p.2.cls == Value.type "list"))=true)(hF:G.fn 69=some F)(hio:F.io=[])(d:FnAt K "law" "law" st f)
  (S:FnScope (fnN (defArgs st) (zAf st)) [x] (zAf st))(hc:cF T [] st=some F)(hnp:F.np=1)(hb:∀(kV doc pm:Value) (an:Option Addr) (cdv ct:Value) (u:Value),bindArgs (PySem.W.fnOf "law" "law" (defArgs st) (defBody st) (zAf st) .none kV doc pm an cdv ct) ⟨[u],[]⟩=pure [(x,u)])
  (hr:∀ns:List Int,ns.length<=63->∃kk,Ip.run G n 69 [(0,.lst (ns.map D.int))]=.ret kk (.bl true) []) :
  ∃fd:FuncData,(∀(s:Shared) (u:Value),BindsTo s fd ⟨[u],[]⟩ [(x,u)])/\∀base:Heap,K.In base->base.Ns mainGlobals mg->FnOk P w K mg base (CXE P w) (rm n) f fd [x] (spLaw K):=by
 obtain⟨oc,od,kV,doc,pm,an,cdv,ct,osl,l,c⟩:=d;refine⟨_,fun s u=>.of_eq (hb kV doc pm an cdv ct u),fun base _ _=>?_⟩;have fu:FunD (wdOf K iL xL att).K "law" "law" st f (PySem.W.fnOf "law" "law" (defArgs st) (defBody st) (zAf st) .none kV doc pm an cdv ct):=⟨oc,od,.none,kV,doc,pm,an,cdv,ct,osl,rfl,l,c⟩
 exact (zHq (n:=n) hF (fun m _=>zMV g0 m) fu S hc hnp).imp (zL1 (W:=wdOf K iL xL att) hio hno hr)
end
end L2
end
section
namespace Hd
open PySem PySem.W PySem.Calls PyProof.Rows
noncomputable def runG (thr ok:Thread->Bool)(stp:SharedT->Thread->Option (SharedT×Thread))(n:Nat):SharedT->Thread->Option SharedT:=
 @Nat.rec (fun _=>SharedT->Thread->Option SharedT) (fun _ _=>none) (fun _ ih s t=>match thr t with
  | true=>some s
  | false=>match ok t with
   | false=>none
   | true=>match stp s t with
    | some (s',t')=>ih s' t'
    | none=>none) n
theorem zGt (thr ok:Thread->Bool)(stp:SharedT->Thread->Option (SharedT×Thread))(n:Nat)(s:SharedT)(t:Thread):runG thr ok stp (n+1) s t=(match thr t with
  | true=>some s
  | false=>match ok t with
   | false=>none
   | true=>match stp s t with
    | some (s',t')=>runG thr ok stp n s' t'
    | none=>none):=rfl
theorem zJh {tb:String->Option Builtin}{p:Program}{w:World}{n₀:Nat}{ann:Option Value}:∀(n:Nat) (s s':SharedT) (t:Thread),runG through (stepOk n₀ ann) (stepT (denote tb) p w) n s t=some s'->topRun tb p w n₀ ann n s.abs t=some s'.abs
 | 0,_,_,_,h=>by cases h
 | n+1,s,s',t,h=>by
  rw[zGt] at h;unfold topRun;cases ht:through t with
  | true=>rw[ht] at h; cases h; rfl
  | false=>
   rw[ht] at h;cases hk:stepOk n₀ ann t with
   | false=>rw[hk] at h; cases h
   | true=>
    rw[hk] at h;cases hs:stepT (denote tb) p w s t with
    | none=>rw[hs] at h; cases h
    | some r=>obtain⟨s₂,t₂⟩:=r; rw[hs] at h; dsimp only; rw[stepT_spec hs]; exact zJh n s₂ s' t₂ h
noncomputable def lookG {β α:Type}(mods:List Str)(so lk:Heap->Heap->Bool)(nb:Heap->Bool)(seen:Shared->β)(Yf:Shared->α)(h₀:Heap)(st:SharedT):Bool×β×α:=
 (so h₀ st.abs.heap&&nb st.abs.heap&&gensDone st.abs&&lk h₀ st.abs.heap,seen st.abs,Yf st.abs)
theorem zK1 {p q:Program}{loose:List Str}{Xt:Shared->Bool}{α:Type}{Yf:Shared->α}{Ya:World->α}{N m₀:Nat}{ann:Option Value}{T0:Params->BT}{life:Params->Life}
  (e:opening p=plainProg p.main.scope.names)(hN:Nat.ble 600 N=true)(f:∀s,fenceModules? p s=some s)
  (size:∀w:World,((boot_heap w.params).isNs mainGlobals,(boot_heap w.params).objs.size,(boot_heap w.params).nsMap mainGlobals "__annotations__")=(true,m₀,ann))
  (habs:∀P,absHeap (T0 P) m₀ (life P)=boot_heap P)
  (run:∀(w:World) (os:OsState),(runG through (stepOk m₀ ann) (stepT (denote treeTable) p w) N ⟨T0 w.params,m₀,life w.params,Array.mk [],boot_drawn,boot_toks,os⟩ (topStub p)).map
   (lookG (importedModules p.main.body) (staticsOk (importedModules p.main.body)) laidKept (namesBound p) (openSeen q loose (importedModules p.main.body) Xt true) Yf (boot_heap w.params))=some (true,openGood q loose,Ya w)) :
  LeftO p q loose Xt Yf Ya N:=fun w=>by
 obtain⟨⟨h,gs,d,k,os⟩,e1,e'⟩:=zp5 (boot_open e hN f w);obtain⟨rfl,rfl,rfl,rfl⟩:h=boot_heap w.params/\gs=Array.mk []/\d=boot_drawn/\k=boot_toks:=by simpa using e'
 obtain⟨z1,z2,z3⟩:_/\_/\_:=by simpa only[Prod.mk.injEq] using size w
 obtain⟨st,hr,hl⟩:=zp5 (run w os);have r:=zJh _ _ _ _ hr;have ha:SharedT.abs ⟨T0 w.params,m₀,life w.params,Array.mk [],boot_drawn,boot_toks,os⟩=⟨boot_heap w.params,Array.mk [],boot_drawn,boot_toks,os⟩:=by
  show Shared.mk _ _ _ _ _=_;rw[habs]
 rw[ha] at r;obtain⟨l1,l2,l3⟩:_/\_/\_:=by simpa only[lookG,Prod.mk.injEq] using hl
 have t:topFrom treeTable p w N ⟨boot_heap w.params,Array.mk [],boot_drawn,boot_toks,os⟩=some st.abs:=by
  unfold topFrom;dsimp only;rw[z1,z2,z3];show ((topRun treeTable p w m₀ ann N _ (topStub p)).bind _)=_;rw[r];show (match staticsOk (importedModules p.main.body) (boot_heap w.params) st.abs.heap&&namesBound p st.abs.heap&&gensDone st.abs&&laidKept (boot_heap w.params) st.abs.heap with | true=>_ | false=>_)=_;rw[l1]
 unfold openEnds;rw[e1];show (topFrom treeTable p w N _).map _=_;rw[t];exact congrArg some (Prod.ext l2 l3)
end Hd
end
section
namespace Hd
open PySem PySem.Spec PySem.W PyProof.Rows L2
noncomputable abbrev FnV:=(Str×Str×Arguments×FuncBody)×Scope×Addr×List (Str×Addr)×Value×Addr×Bool
noncomputable def fnV (K:Frag)(f:Addr):Option FnV:=match K.lookup f with
 | some ⟨_,_,.func fd,_⟩=>some ((fd.name,fd.qualname,fd.params,fd.body),fd.scope,fd.globals,fd.closure,fd.defaults,fd.builtins,codeIn K fd.code fd.qualname)
 | _=>none
noncomputable def seqV (K:Frag)(t:Addr):Option (List Value):=match K.lookup t with
 | some ⟨_,_,.seq xs _,_⟩=>some xs.toList
 | _=>none
theorem zMZ {K:Frag}{f:Addr}{x qual:Str}{st:Stmt}(h:fnV K f=some ((x,qual,defArgs st,.stmts (defBody st)),zAf st,mainGlobals,[],.none,builtinsNs,true)):FnAt K x qual st f:=by
 unfold fnV at h;split at h
 ·rename_i fd _ hk;obtain⟨a1,a2,a3,a4,a5,a6,a7,a8,a9,a10,a11,a12,a13,a14,a15⟩:=fd;simp only[Option.some.injEq,Prod.mk.injEq] at h;obtain⟨⟨rfl,rfl,rfl,rfl⟩,rfl,rfl,rfl,rfl,rfl,hc⟩:=h;exact .mk hk hc
 ·cases h
noncomputable def kOf (as:List Addr)(h:Heap):Frag:=as.filterMap fun a=>(h.get? a).map fun o=>(a,o)
theorem zJC (h:Heap):∀as:List Addr,(kOf as h).In h
 | []=>fun a o e=>by cases e
 | a::as=>fun b o e=>by
  have ih:=zJC h as;unfold kOf at e ih;rw[List.filterMap_cons] at e;cases q:h.get? a with
  | none=>rw[q] at e; exact ih b o e
  | some x=>
   rw[q] at e;by_cases hb:b=a
   ·subst hb;have:some x=some o:=by simpa[List.lookup_cons] using e
    cases this;exact q
   ·have:(List.filterMap (fun a=>(h.get? a).map fun o=>(a,o)) as).lookup b=some o:=by
     have hb':(b == a)=false:=beq_eq_false_iff_ne.mpr hb;simpa[List.lookup_cons,hb'] using e
    exact ih b o this
noncomputable def aHook {α:Type}(as:List Addr)(q:Frag->α)(v:α):Hook where
 α:=α
 obs:=fun s=>q (kOf as s.heap)
 val:=fun _=>v
 says:=fun _ h=>∃K:Frag,K.In h/\q K=v
 of:=fun _ s e=>⟨_,zJC s.heap as,e⟩
 keeps:=fun _ _ _ ⟨K,a,b⟩ k=>⟨K,a.keeps k,b⟩
theorem zLQ {l:OpenLaw}{n k:Nat}{q:Program}{loose:List Str}{XP:(Str->Option Value)->Heap->Prop}{d:DefRec}{α:Type}{as:List Addr}{qs:Frag->α}{v:α}{CX:World->CXT}{sp:World->Frag->Sp}{x:Str}
  (hn:l.most=some n)(hn2:n<=sizeLine)(hdf:d.params.defaults=[])(hr:Room k callerA)
  (F:∀(w:World) (K:Frag) (mg:Str->Option Value) (fa:Addr) (h:Heap),qs K=v->K.In h->h.Ns mainGlobals mg->mg d.name=some (.ref fa) ->
   ∃fd:FuncData,(∀(s:Shared) (u:Value),BindsTo s fd ⟨[u],[]⟩ [(x,u)]) /\
    ∀base:Heap,K.In base->base.Ns mainGlobals mg->FnOk l.prog w K mg base (CX w) k fa fd [x] (sp w K))
  (hsp:∀(w:World) (K:Frag) (H:Hp) (a:Addr) (ns:List Int),ns.length<=n->Only H->SqL K H a (ns.map V.int)->sp w K [.ref a] H (fun v _=>v=.bl true) fun _ _ _=>False)
  (hCX:∀(w:World) (H:Hp) (s:Shared) (e:Value) (s':Shared),CX w [] H s (fun _ _ _=>False) e s'->False) :
  WalkO q loose XP (Hook.says (aHook as qs v)) l.row.toRowW d [] (fun f vs=>PySem.call f vs):=by
 refine Att.attach_call hn hdf fun w s₀ s₁ mg mb fa o pm cd doc a vs ns G Y ho hd hcd hmg hobj hints hlen hg=>?_;obtain⟨K,KX,hq⟩:=Y;obtain⟨fd,hb,hF⟩:=F w K mg fa _ hq KX G.T.g hmg;exact zIv KX G.T.g G.T.b G.T.builtins G.T.nolimit hg hobj hints (zm9 hlen hn2) hr hF hb (fun H hO hS=>hsp w K H a ns hlen hO hS) fun H e s'=>hCX w H s₁ e s'
theorem Cn {α:Type}{p:α->Prop}{a:α}{l:List α}(h:p a)(t:∀b∈l,p b):∀b∈a::l,p b:=List.forall_mem_cons.mpr ⟨h,t⟩
theorem Nl {α:Type}{p:α->Prop}:∀b∈([]:List α),p b:=fun _ h=>nomatch h
structure Fd where
 x:Str
 q:Str
 k:Nat
 f:Addr
 st:Stmt
 d:Option (Addr×Value)
noncomputable abbrev OV:=Option (Option Value)
noncomputable abbrev DV:=Option FnV×Option (Option (List Value))
noncomputable def dvOf (d:Option (Addr×Value)):Value:=match d with
 | none=>.none
 | some p=>.ref p.1
noncomputable def qD (K:Frag)(d:Fd):DV:=(fnV K d.f,d.d.map fun p=>seqV K p.1)
noncomputable def aD (d:Fd):DV:=(some ((d.x,d.q,defArgs d.st,.stmts (defBody d.st)),zAf d.st,mainGlobals,[],dvOf d.d,builtinsNs,true),d.d.map fun p=>some [p.2])
section
variable {W:Wd}{T:Ip.Tb}{G:Ip.Pg}{F:Ip.Fn}{ps:List Str}{io:List Nat}{d:Fd}{mg:Str->Option Value}{K:Frag}
noncomputable def scB (N ps:List Str)(sc:Scope):Bool:=sc.kind == .function&&(sc.isCoroutine == false&&(sc.isGenerator == false&&(decide N.Nodup&&(N.take ps.length == ps&&(ps.all (fun x=>sc.names.lookup x == some .local||sc.names.lookup x == some .cell)&&sc.names.all fun y=>y.2 != .free)))))
theorem zL3 {N ps:List Str}{sc:Scope}(h:scB N ps sc=true):FnScope N ps sc:=by
 simp only[scB,Bool.and_eq_true,beq_iff_eq,decide_eq_true_eq,List.all_eq_true,Bool.or_eq_true,bne_iff_ne] at h;obtain⟨h1,h2,h3,h4,h5,h6,h7⟩:=h;exact⟨h1,h2,h3,h4,h5,h6,h7⟩
theorem zAn (h:qD W.K d=aD d)(hd:d.d=none:=by rfl)(S:FnScope (Ip.fnN (defArgs d.st) (zAf d.st)) ps (zAf d.st):=by exact zL3 (by kernel_rfl))(hc:Ip.cF T io d.st=some F:=by kernel_rfl)(hnp:F.np=ps.length:=by rfl)(hf:F.dfl=[]:=by rfl)
  (hb:∀(kV doc pm:Value) (an:Option Addr) (cdv ct:Value) (us:List Value),us.length=ps.length->bindArgs (fnOf d.x d.q (defArgs d.st) (defBody d.st) (zAf d.st) .none kV doc pm an cdv ct) ⟨us,[]⟩=pure (ps.zip us):=by
   intro _ _ _ _ _ _ us hl;first | (obtain⟨_,rfl⟩:=len1 hl; rfl) | (obtain⟨_,_,rfl⟩:=len2 hl; rfl) | (obtain⟨_,_,_,rfl⟩:=len3 hl; rfl) | (obtain⟨_,_,_,_,rfl⟩:=len4 hl; rfl) | (obtain⟨_,_,_,_,_,rfl⟩:=len5 hl; rfl)):DefAt W T F d.f:=by
 have h1:=(Prod.mk.inj h).1;rw[hd] at h1;obtain⟨oc,od,kV,doc,pm,an,cdv,ct,osl,l,c⟩:=zMZ h1;exact zLh l c S hc hnp hf fun us hl=>hb kV doc pm an cdv ct us hl
def DOk (W:Wd)(T:Ip.Tb)(G:Ip.Pg)(d:Fd):Prop:=∃F,G.fn d.k=some F/\(qD W.K d=aD d->DefAt W T F d.f)
structure Ic where
 x:Str
 c:Nat
 C:Addr
 d:Fd
noncomputable def qI (K:Frag)(ns:List Str)(e:Ic):OV×List Bool×List OV×List (Option Bool)×List OV×DV:=
  (nsIn K mainGlobals e.x,[plainGet K e.C Str.empty,hasDictIn K e.C,plainOver K e.C,makesIn K e.C,isFn K (.ref e.d.f),keepIn K (.ref e.C)],
   [findIn K (.ref e.C) "__setattr__",findIn K (.ref e.C) "__class__",specialIn K (.builtin "object.__class__") "__get__",findIn K (.ref e.C) "__init__"],
   [takesIn K (.builtin "object.__class__"),mroIn K e.C (.type "object")],ns.map fun n=>findIn K (.ref e.C) n,qD K e.d)
noncomputable def aI (ns:List Str)(e:Ic):OV×List Bool×List OV×List (Option Bool)×List OV×DV:=
  (some (some (.ref e.C)),[true,true,true,true,true,true],
   [some (some (.builtin "object.__setattr__")),some (some (.builtin "object.__class__")),some (some (.builtin "getset_descriptor.__get__")),some (some (.ref e.d.f))],
   [some true,some true],ns.map fun _=>some none,aD e.d)
theorem ins_of {ns:List Str}{e:Ic}(h:qI K ns e=aI ns e):nsIn K mainGlobals e.x=some (some (.ref e.C))/\InsC K e.C/\NoA K e.C ns/\Mk K e.C e.d.f/\qD K e.d=aD e.d:=by
 simp only[qI,aI,Prod.mk.injEq,List.cons.injEq,and_true] at h;obtain⟨h1,⟨b1,b2,b3,b4,b5,b6⟩,⟨c1,c2,c3,c4⟩,⟨d1,d2⟩,h5,h6⟩:=h;exact⟨h1,⟨⟨b1,b2,b3,c1⟩,c2,c3,d1,d2⟩,h5,⟨b4,c4,b5,b6⟩,h6⟩
noncomputable def qT (K:Frag)(iL xL:List (Nat×Addr))(cv:Value):List (Option Bool)×List (Option Bool)×List (Option Bool):=
 ([kitOne K (.type "NoneType") cv,kitOne K (.type "bool") cv,kitOne K (.type "int") cv,kitOne K (.type "str") cv,kitOne K (.type "list") cv,kitOne K (.type "tuple") cv],iL.map fun p=>kitOne K (.ref p.2) cv,xL.map fun p=>kitOne K (.ref p.2) cv)
noncomputable def aT (G:Ip.Pg)(iL xL:List (Nat×Addr))(t:Ip.Ty):List (Option Bool)×List (Option Bool)×List (Option Bool):=
 ([some (Ip.isTy G .non t),some (Ip.isTy G (.bl true) t),some (Ip.isTy G (.int 0) t),some (Ip.isTy G (.str "") t),some (Ip.isTy G (.lst []) t),some (Ip.isTy G (.tup []) t)],iL.map fun p=>some (Ip.isTy G (.ins p.1 []) t),xL.map fun p=>some (Ip.isTy G (.exc p.1 []) t))
theorem zMS {iL xL:List (Nat×Addr)}{att:List Str}{t:Ip.Ty}{cv:Value}(h:qT K iL xL cv=aT G iL xL t):IsiOk (wdOf K iL xL att) G t cv:=
 zK8 (Prod.mk.inj h).1 (Prod.mk.inj (Prod.mk.inj h).2).1 (Prod.mk.inj (Prod.mk.inj h).2).2
end
structure Tl where
 fL:List Fd
 iC:List Ic
 nC:List (Str×Nat×Addr)
 mL:List (Addr×Fd)
 cL:List (Str×Int×Nat)
 tL:List (Str×Addr×List (Str×Nat))
noncomputable def Tl.iL (B:Tl):List (Nat×Addr):=B.iC.map fun e=>(e.c,e.C)
noncomputable def tyV:List (Ip.Ty×Value):=[(.int,.type "int"),(.bool,.type "bool"),(.str,.type "str"),(.list,.type "list"),(.tuple,.type "tuple"),(.dict,.type "dict"),(.verr,.type "ValueError")]
noncomputable def Tl.ty (B:Tl):List (Ip.Ty×Value):=tyV++(B.nC.map (fun e=>(.cls e.2.1,.ref e.2.2))++B.iC.map fun e=>(.cls e.c,.ref e.C))
noncomputable def zL:List Str:=bltT.map (·.1)++Ip.tyT.map (·.1)
noncomputable abbrev OB:=List (OV×Bool×DV)×List (OV×List Bool×List OV×List (Option Bool)×List OV×DV)×List OV×List (OV×Bool×Bool×DV) ×
 List (List (Option Bool)×List (Option Bool)×List (Option Bool))×List OV×List OV×Bool×List (OV×Option (Value×Bool×Option (List Value)))
noncomputable def tupV (K:Frag)(a:Addr):Option (Value×Bool×Option (List Value)):=(K.lookup a).map fun o=>(o.cls,o.dict.isNone,match o.data with
 | .seq its _=>some its.toList
 | _=>none)
noncomputable def Tl.q (B:Tl)(ns:List Str)(K:Frag):OB:=
  (B.fL.map fun d=>(nsIn K mainGlobals d.x,keepIn K (.ref d.f),qD K d),B.iC.map (qI K ns),B.nC.map fun e=>nsIn K mainGlobals e.1,
   B.mL.map fun e=>(findIn K (.ref e.1) e.2.x,isFn K (.ref e.2.f),keepIn K (.ref e.2.f),qD K e.2),
   B.ty.map fun e=>qT K B.iL [] e.2,
   zL.map fun x=>nsIn K mainGlobals x,B.cL.map fun c=>nsIn K mainGlobals c.1,K.all (fun p=>!(p.2.cls == Value.type "list")),B.tL.map fun c=>(nsIn K mainGlobals c.1,tupV K c.2.1))
noncomputable def Tl.a (B:Tl)(ns:List Str)(G:Ip.Pg):OB:=
  (B.fL.map fun d=>(some (some (.ref d.f)),true,aD d),B.iC.map (aI ns),B.nC.map fun e=>some (some (.ref e.2.2)),
   B.mL.map fun e=>(some (some (.ref e.2.f)),true,true,aD e.2),
   B.ty.map fun e=>aT G B.iL [] e.1,
   zL.map fun _=>some none,B.cL.map fun c=>some (some (.int c.2.1 c.2.2)),true,B.tL.map fun c=>(some (some (.ref c.2.1)),some (.type "tuple",true,some (c.2.2.map fun s=>.str s.1 s.2))))
theorem zI3:∀p∈bltT,bootBuiltins p.1=some p.2:=Cn rfl <| Cn rfl <| Cn rfl <| Cn rfl <| Cn rfl <| Cn rfl <| Cn rfl <| Cn rfl <| Cn rfl <| Cn rfl <| Cn rfl <| Cn rfl <| Cn rfl <| Cn rfl <| Cn rfl <| Cn rfl Nl
theorem zJW:∀p∈Ip.tyT,p.1 ≠ "__name__" /\ (p.1 == ("__debug__" : Str))=false/\∃nm,bootBuiltins p.1=some (.type nm)/\(p.2,Value.type nm)∈tyV:=
 Cn ⟨by decide +kernel,by decide +kernel,_,rfl,by simp[tyV]⟩ <| Cn ⟨by decide +kernel,by decide +kernel,_,rfl,by simp[tyV]⟩ <| Cn ⟨by decide +kernel,by decide +kernel,_,rfl,by simp[tyV]⟩ <| Cn ⟨by decide +kernel,by decide +kernel,_,rfl,by simp[tyV]⟩ <|
 Cn ⟨by decide +kernel,by decide +kernel,_,rfl,by simp[tyV]⟩ <| Cn ⟨by decide +kernel,by decide +kernel,_,rfl,by simp[tyV]⟩ <| Cn ⟨by decide +kernel,by decide +kernel,_,rfl,by simp[tyV]⟩ Nl
section
variable {T:Ip.Tb}{G:Ip.Pg}{mg:Str->Option Value}{K:Frag}{h:Heap}{B:Tl}{ns:List Str}
theorem zHs {l:List Str}(s:(l.all fun x=>!(x == ("__debug__" : Str)))=true){x:Str}(hx:x∈l):(x == ("__debug__" : Str))=false:=by
 have:=zp7 s x hx;simpa using this
theorem zNh {p:Str×Nat}(s:(B.nC.any (fun e=>e.1 == p.1&&e.2.1 == p.2)||B.iC.any (fun e=>e.x == p.1&&e.c == p.2))=true) :
  (∃e∈B.nC,e.1=p.1/\e.2.1=p.2)\/∃e∈B.iC,e.x=p.1/\e.c=p.2:=by
 simp only[Bool.or_eq_true,List.any_eq_true,Bool.and_eq_true,beq_iff_eq] at s;exact s
structure Ans (B:Tl)(ns:List Str)(G:Ip.Pg)(K:Frag):Prop where
 f:∀d∈B.fL,nsIn K mainGlobals d.x=some (some (.ref d.f))/\keepIn K (.ref d.f)=true/\qD K d=aD d
 i:∀e∈B.iC,nsIn K mainGlobals e.x=some (some (.ref e.C))/\InsC K e.C/\NoA K e.C ns/\Mk K e.C e.d.f/\qD K e.d=aD e.d
 n:∀e∈B.nC,nsIn K mainGlobals e.1=some (some (.ref e.2.2))
 m:∀e∈B.mL,Meth K e.1 e.2.x e.2.f/\qD K e.2=aD e.2
 t:∀e∈B.ty,∀att,IsiOk (wdOf K B.iL [] att) G e.1 e.2
 z:∀x∈zL,nsIn K mainGlobals x=some none
 c:∀c∈B.cL,nsIn K mainGlobals c.1=some (some (.int c.2.1 c.2.2))
 l:(K.all fun p=>!(p.2.cls == Value.type "list"))=true
 u:∀c∈B.tL,nsIn K mainGlobals c.1=some (some (.ref c.2.1))/\tupV K c.2.1=some (.type "tuple",true,some (c.2.2.map fun s=>.str s.1 s.2))
theorem zNC (e:B.q ns K=B.a ns G):Ans B ns G K:=by
 simp only[Tl.q,Tl.a,Prod.mk.injEq] at e;obtain⟨e1,e2,e4,e5,e7,e8,e9,e10,e11⟩:=e;refine⟨fun d hd=>?_,fun d hd=>ins_of (List.map_inj_left.mp e2 d hd),fun d hd=>List.map_inj_left.mp e4 d hd,fun d hd=>?_,fun d hd att=>zMS (List.map_inj_left.mp e7 d hd),fun x hx=>List.map_inj_left.mp e8 x hx,fun c hc=>List.map_inj_left.mp e9 c hc,e10,fun c hc=>Prod.mk.injEq .. ▸ List.map_inj_left.mp e11 c hc⟩
 ·have:=List.map_inj_left.mp e1 d hd;simpa only[Prod.mk.injEq] using this
 ·have:=List.map_inj_left.mp e5 d hd;simp only[Prod.mk.injEq] at this;exact⟨⟨this.1,this.2.1,this.2.2.1⟩,this.2.2.2⟩
theorem zGj (l:List (Str×Nat)):(Ip.D.tup (l.map fun s=>.str s.1)).flat=true:=by
 induction l with
 | nil=>rfl
 | cons x l ih=>simpa[Ip.D.flat,Ip.D.flats] using ih
theorem zEU {W:Wd}{S:Hp}:∀l:List (Str×Nat),Dens W S (l.map fun s=>V.str s.1) (l.map fun s=>Ip.D.str s.1)
 | []=>.nil
 | _::l=>.cons .str (zEU l)
theorem zDF:∀l:List (Str×Nat),Vals (l.map fun s=>V.str s.1) (l.map fun s=>Value.str s.1 s.2)
 | []=>.nil
 | _::l=>.cons ⟨_,rfl⟩ (zDF l)
theorem zL0 {S:Hp}{a:Addr}{l:List (Str×Nat)}(h:tupV K a=some (.type "tuple",true,some (l.map fun s=>.str s.1 s.2)))(hz:l.length<=6):SqT K S a (l.map fun s=>V.str s.1):=by
 unfold tupV at h;cases e:K.lookup a with
 | none=>rw[e] at h; cases h
 | some o=>
  rw[e] at h;simp only[Option.map_some,Option.some.injEq,Prod.mk.injEq] at h;obtain⟨h1,h2,h3⟩:=h;have hd:o.dict=none:=by
   cases hh:o.dict with
   | none=>rfl
   | some x=>rw[hh] at h2; cases h2
  cases hdt:o.data with
  | seq its n=>
   rw[hdt] at h3;have e3:its.toList=l.map fun s=>Value.str s.1 s.2:=zn3 h3;refine .inr ⟨o,its,n,e,h1,hd,hdt,?_,by rw[e3]; exact zDF l⟩;have:its.size=l.length:=by rw[<-Array.length_toList,e3,List.length_map]
   rw[this];exact zm9 hz (by decide)
  | _=>rw[hdt] at h3; cases h3
theorem zOa (clL:List (Nat×Ip.Cl))(X:K.In h)(Gl:h.Ns mainGlobals mg)(A:Ans B (zB4 T.fl T.att) G K)(hcl:∀c,G.cl c=clL.lookup c)
  (s1:T.fns=B.fL.map fun d=>(d.x,d.k))
  (s2:(T.cls.all fun p=>B.nC.any (fun e=>e.1 == p.1&&e.2.1 == p.2)||B.iC.any (fun e=>e.x == p.1&&e.c == p.2))=true)
  (s3:((T.fns.map (·.1)++(T.cls.map (·.1)++T.cst.map (·.1))).all fun x=>!(x == ("__debug__" : Str)))=true)
  (s4:T.cst=B.cL.map (fun c=>(c.1,Ip.D.int c.2.1))++B.tL.map fun c=>(c.1,Ip.D.tup (c.2.2.map fun s=>.str s.1)))(nd:T.att.Nodup)(s5:(B.tL.all fun c=>decide (c.2.2.length<=6))=true)
  (okF:∀d∈B.fL,DOk (wdOf K B.iL [] T.att) T G d)
  (okI:∀e∈B.iC,DOk (wdOf K B.iL [] T.att) T G e.d/\B.iL.lookup e.c=some e.C/\∃Cl,G.cl e.c=some Cl/\Cl.init=some e.d.k/\Cl.isx=false)
  (okN:∀e∈B.nC,∃Cl,G.cl e.2.1=some Cl/\Cl.init=none)
  (okM:∀e∈B.mL,DOk (wdOf K B.iL [] T.att) T G e.2)
  (sM:(clL.all fun p=>p.2.meths.isEmpty||(match B.iL.lookup p.1 with
   | some C=>p.2.meths.all fun m=>B.mL.any fun e=>e.1 == C&&(T.att[m.1]? == some e.2.x&&e.2.k == m.2)
   | none=>false))=true) :
  GF0 (wdOf K B.iL [] T.att) G T mg:=by
 have d1:∀p∈T.fns,(p.1 == ("__debug__" : Str))=false:=fun p hp=>zHs s3 (zm4 _ (List.mem_map_of_mem hp));have d2:∀p∈T.cls,(p.1 == ("__debug__" : Str))=false:=fun p hp=>zHs s3 (zm3 _ (zm4 _ (List.mem_map_of_mem hp)));have d3:∀p∈T.cst,(p.1 == ("__debug__" : Str))=false:=fun p hp=>zHs s3 (zm3 _ (zm3 _ (List.mem_map_of_mem hp)));refine zMW ?cf rfl ?blt ?cst ?fns ?cls ?meth ?isB
 case cf=>
  refine zOE nd fun p hp=>?_;obtain⟨e,he,rfl⟩:=zp8 hp;exact⟨(A.i e he).2.1,(A.i e he).2.2.1⟩
 case blt=>exact fun p hp=>⟨mg_none_of X Gl (A.z _ (zm4 _ (List.mem_map_of_mem hp))),zI3 p hp⟩
 case cst=>
  intro p hp;have h0:=d3 p hp;rw[s4] at hp;rcases zp3 hp with hp | hp
  ·obtain⟨c,hc,rfl⟩:=zp8 hp;exact⟨h0,_,.int c.2.1,mg_of X Gl (A.c c hc),⟨_,rfl⟩,rfl,fun _=>.int⟩
  ·obtain⟨c,hc,rfl⟩:=zp8 hp;obtain⟨a1,a2⟩:=A.u c hc;have hz:c.2.2.length<=6:=of_decide_eq_true (zp7 s5 c hc);exact⟨h0,_,.ref c.2.1,mg_of X Gl a1,rfl,zGj _,fun S=>.tup (zL0 a2 hz) (zEU _)⟩
 case fns=>
  intro p hp;have h0:=d1 p hp;rw[s1] at hp;obtain⟨d,hd,rfl⟩:=zp8 hp;obtain⟨F,f1,f2⟩:=okF d hd;obtain⟨a1,a2,a3⟩:=A.f d hd;exact⟨h0,F,d.f,f1,mg_of X Gl a1,a2,f2 a3⟩
 case cls=>
  intro p hp;refine⟨d2 p hp,?_⟩;rcases zNh (zp7 s2 p hp) with ⟨e,he,q1,q2⟩ | ⟨e,he,q1,q2⟩
  ·obtain⟨Cl,c1,c2⟩:=okN e he;refine⟨e.2.2,by rw[<-q1]; exact mg_of X Gl (A.n e he),by rw[<-q2]; exact A.t (.cls e.2.1,.ref e.2.2) (zm3 _ (zm4 _ (List.mem_map_of_mem (f:=fun e:Str×Nat×Addr=>(Ip.Ty.cls e.2.1,Value.ref e.2.2)) he))) _,fun Cl' f F h1 h2 _=>?_⟩;rw[<-q2,c1] at h1;cases h1;rw[c2] at h2;cases h2
  ·obtain⟨⟨F',f1,f2⟩,li,Cl,c1,c2,c3⟩:=okI e he;obtain⟨a1,_,_,a4,a5⟩:=A.i e he;refine⟨e.C,by rw[<-q1]; exact mg_of X Gl a1,by rw[<-q2]; exact A.t (.cls e.c,.ref e.C) (zm3 _ (zm3 _ (List.mem_map_of_mem (f:=fun e:Ic=>(Ip.Ty.cls e.c,Value.ref e.C)) he))) _,fun Cl' f F h1 h2 h3=>?_⟩;rw[<-q2,c1] at h1;cases h1;rw[c2] at h2;cases h2;rw[f1] at h3;cases h3;refine⟨e.d.f,f2 a5,c3,?_⟩;rw[<-q2];exact⟨li,a4⟩
 case meth=>
  intro c Cl' h1 hm;rw[hcl] at h1;have q:=zp7 sM (c,Cl') (zAs h1);have hm':Cl'.meths.isEmpty=false:=by cases hh:Cl'.meths with | nil=>exact absurd hh hm | cons _ _=>rfl
  rw[hm',Bool.false_or] at q;cases hi:B.iL.lookup c with
  | none=>rw[hi] at q; cases q
  | some C=>
   rw[hi] at q;refine⟨C,hi,fun p hp=>?_⟩;obtain⟨e,he,q1⟩:=List.any_eq_true.mp (zp7 q p hp);simp only[Bool.and_eq_true,beq_iff_eq] at q1;obtain⟨rfl,q2,q3⟩:=q1;obtain⟨F,f1,f2⟩:=okM e he;obtain⟨a1,a2⟩:=A.m e he;exact⟨F,e.2.x,e.2.f,by rw[<-q3]; exact f1,q2,a1,f2 a2⟩
 case isB=>
  intro p hp;obtain⟨b1,b2,nm,b3,b4⟩:=zJW p hp;exact⟨mg_none_of X Gl (A.z _ (zm3 _ (List.mem_map_of_mem hp))),b1,b2,nm,b3,A.t (p.2,.type nm) (zm4 _ b4) _⟩
end
end Hd
end
section
namespace Ip
open PySem (Str)
noncomputable def attL:List Str:=["__init__", "row", "garment", "over", "place", "first", "second", "moment", "name", "place_count", "covered_places", "spots", "many", "covers", "meet", "wardrobe", "prices", "start", "dressers", "beats", "scenes"]
noncomputable def T_k26:Tb:=⟨[("is_whole",0),("is_below",1),("is_rising",15),("are_places",16),("check_garment",17),("worn_in",24),("may_lie",34),("check_things",35),("check_lacking",36),("still_under",37),("ring_among",38),("order_of",39),("reason_against",45),("staying_on",46),("may_stay",47),("not_staying",49),("way_between",50),("price_of",51),("trouble_of",52),("least_trouble",53),("_law_cell",98),("_law_mix",71),("_law_covers",99),("_law_wears",115),("_law_deed",116),("_law_moved",117),("_law_walk",118),("_law_prices",134),("law",69)],[("Wardrobe",17)], "WardrobeError",attL,[1,2,3,4,5,6,7,8,9,10,15,16,17,18,19,20],[("DEEPEST",(.int (100))),("MOST_PLACES",(.int (6))),("MOST_GARMENTS",(.int (6)))]⟩
noncomputable def zA0:Fn:=⟨1,[],1,[],[
  .ret (.and (.op (.isi [.int]) [(.var 0)]) (.op .not [(.op (.isi [.bool]) [(.var 0)])]))]⟩
noncomputable def zAP:Fn:=⟨2,[],2,[],[
  .ret (.and (.call 0 [(.var 0)]) (.chain .le .lt (.cst (.int (0))) (.var 0) (.var 1)))]⟩
noncomputable def zBh:Fn:=⟨1,[],1,[],[
  .ret (.op .all [(.comp [none,none,none] (.many [1,2]) .zip [(.var 0),(.op .slL [(.var 0),(.cst (.int (1)))])] [] (.op .lt [(.var 1),(.var 2)]))])]⟩
noncomputable def zAE:Fn:=⟨2,[],2,[],[
  .iff (.or (.op .not [(.op (.isi [.list]) [(.var 0)])]) (.op .eq [(.op .len [(.var 0)]),(.cst (.int (0)))])) [.ret (.cst (.bl false))] [],
  .ret (.and (.op .all [(.comp [none,none,(some 1)] (.one 1) .seq [(.var 0)] [] (.call 1 [(.var 1),(.var 2)]))]) (.call 15 [(.var 0)]))]⟩
noncomputable def zAL:Fn:=⟨2,[],2,[],[
  .iff (.op .not [(.call 1 [(.var 1),(.meth 12 (.var 0) [])])]) [.bad] []]⟩
noncomputable def zA4:Fn:=⟨1,[],3,[],[
  .set 1 (.op .lst []),
  .fo (.one 2) .seq [(.var 0)] [.mut 1 [] .extend [(.var 2)]],
  .ret (.op .srtSet [(.var 1)])]⟩
noncomputable def zBV:Fn:=⟨3,[],3,[],[
  .ret (.and (.call 1 [(.var 2),(.meth 12 (.var 0) [])]) (.op .isin [(.var 1),(.meth 13 (.var 0) [(.var 2)])]))]⟩
noncomputable def zAQ:Fn:=⟨2,[],6,[],[
  .fo (.many [2,3]) .enum [(.var 1)] [.fo (.many [4,5]) .enum [(.var 3)] [.iff (.or (.op .not [(.call 34 [(.var 0),(.var 2),(.var 5)])]) (.op .isin [(.var 5),(.op .slH [(.var 3),(.var 4)])])) [.bad] []]]]⟩
noncomputable def zAK:Fn:=⟨2,[],4,[],[
  .fo (.one 2) .seq [(.call 24 [(.var 1)])] [.fo (.one 3) .seq [(.meth 13 (.var 0) [(.var 2)])] [.iff (.op .nin [(.var 2),(.op .ix [(.var 1),(.var 3)])]) [.bad] []]]]⟩
noncomputable def zAI:Fn:=⟨4,[],7,[],[
  .set 4 (.op .lst []),
  .fo (.one 5) .seq [(.meth 13 (.var 0) [(.var 2)])] [.set 6 (.op .index [(.op .ix [(.var 1),(.var 5)]),(.var 2)]),.iff (.and (.op .gt [(.var 6),(.cst (.int (0)))]) (.op .isin [(.op .ix [(.op .ix [(.var 1),(.var 5)]),(.op .sub [(.var 6),(.cst (.int (1)))])]),(.var 3)])) [.mut 4 [] .append [(.op .tup [(.op .ix [(.op .ix [(.var 1),(.var 5)]),(.op .sub [(.var 6),(.cst (.int (1)))])]),(.var 5)])]] []],
  .ret (.var 4)]⟩
noncomputable def zEm:Fn:=⟨3,[],5,[],[
  .set 3 (.op .lst []),
  .set 4 (.op .ix [(.call 37 [(.var 0),(.var 1),(.op .ix [(.var 2),(.cst (.int (0)))]),(.var 2)]),(.cst (.int (0)))]),
  .whl (.op .nin [(.var 4),(.var 3)]) [.mut 3 [] .append [(.var 4)],.set 4 (.op .ix [(.call 37 [(.var 0),(.var 1),(.op .ix [(.var 4),(.cst (.int (0)))]),(.var 2)]),(.cst (.int (0)))])],
  .ret (.op .list [.bad])]⟩
noncomputable def zAY:Fn:=⟨2,[],5,[],[
  .ex (.call 35 [(.var 0),(.var 1)]),
  .ex (.call 36 [(.var 0),(.var 1)]),
  .set 2 (.op .lst []),
  .set 3 (.call 24 [(.var 1)]),
  .whl (.op .gt [(.op .len [(.var 3)]),(.cst (.int (0)))]) [.set 4 (.comp [none,none,(some 3),(some 1),(some 0)] (.one 1) .seq [(.var 3)] [(.op .eq [(.op .len [(.call 37 [(.var 4),(.var 3),(.var 1),(.var 2)])]),(.cst (.int (0)))])] (.var 1)),.iff (.op .eq [(.op .len [(.var 4)]),(.cst (.int (0)))]) [.ret (.op .tup [(.cst (.str "ring")),(.call 38 [(.var 0),(.var 1),(.var 3)])])] [],.mut 2 [] .append [(.op .ix [(.var 4),(.cst (.int (0)))])],.mut 3 [] .remove [(.op .ix [(.var 4),(.cst (.int (0)))])]],
  .retP "order" 2]⟩
noncomputable def zAy:Fn:=⟨5,[],9,[],[
  .fo (.one 5) .seq [(.meth 13 (.var 0) [(.var 4)])] [.set 6 (.op .ix [(.var 1),(.var 5)]),.set 7 (.op .index [(.var 6),(.var 4)]),.iff (.op .ne [(.op .slH [(.var 6),(.op .add [(.var 7),(.cst (.int (1)))])]),(.op .slH [(.op .ix [(.var 2),(.var 5)]),(.op .add [(.var 7),(.cst (.int (1)))])])]) [.ret (.op .tup [(.var 5),(.cst .non)])] [],.fo (.one 8) .seq [(.op .slH [(.var 6),(.var 7)])] [.iff (.op .nin [(.var 8),(.var 3)]) [.ret (.op .tup [(.var 5),(.var 8)])] []]],
  .ret (.cst .non)]⟩
noncomputable def zA7:Fn:=⟨3,[],5,[],[
  .set 3 (.op .lst []),
  .fo (.one 4) .seq [(.op .ix [(.call 39 [(.var 0),(.var 1)]),(.cst (.int (1)))])] [.iff (.op .isN [(.call 45 [(.var 0),(.var 1),(.var 2),(.var 3),(.var 4)])]) [.mut 3 [] .append [(.var 4)]] []],
  .ret (.var 3)]⟩
noncomputable def zAZ:Fn:=⟨3,[],7,[],[
  .set 3 (.op .lst []),
  .fo (.many [4,5]) .enum [(.var 1)] [.fo (.one 6) .seq [(.call 46 [(.var 0),(.var 5),(.op .ix [(.var 2),(.var 4)])])] [.mut 3 [] .append [(.op .tup [(.var 4),(.var 6)])]]],
  .ret (.op .srt [(.var 3)])]⟩
noncomputable def zAJ:Fn:=⟨3,[],7,[],[
  .set 3 (.op .lst []),
  .fo (.many [4,5]) .enum [(.var 1)] [.fo (.one 6) .seq [(.op .ix [(.call 39 [(.var 0),(.var 5)]),(.cst (.int (1)))])] [.iff (.op .nin [(.op .tup [(.var 4),(.var 6)]),(.var 2)]) [.mut 3 [] .append [(.op .tup [(.var 4),(.var 6)])]] []]],
  .ret (.var 3)]⟩
noncomputable def zAU:Fn:=⟨3,[],7,[],[
  .set 3 (.call 47 [(.var 0),(.var 1),(.var 2)]),
  .set 4 (.op .lst []),
  .fo (.many [5,6]) .rev [(.call 49 [(.var 0),(.var 1),(.var 3)])] [.mut 4 [] .append [(.op .tup [(.var 5),(.cst (.str "off")),(.var 6)])]],
  .fo (.many [5,6]) .seq [(.call 49 [(.var 0),(.var 2),(.var 3)])] [.mut 4 [] .append [(.op .tup [(.var 5),(.cst (.str "on")),(.var 6)])]],
  .ret (.var 4)]⟩
noncomputable def zBG:Fn:=⟨2,[],3,[],[
  .set 2 (.op .ix [(.var 0),(.op .ix [(.var 1),(.cst (.int (2)))])]),
  .ret (.ite (.op .eq [(.op .ix [(.var 1),(.cst (.int (1)))]),(.cst (.str "on"))]) (.op .ix [(.var 2),(.cst (.int (0)))]) (.op .ix [(.var 2),(.cst (.int (1)))]))]⟩
noncomputable def zA6:Fn:=⟨2,[],2,[],[
  .ret (.op .sum [(.comp [none,none,(some 0)] (.one 1) .seq [(.var 1)] [] (.call 51 [(.var 2),(.var 1)]))])]⟩
noncomputable def zAo:Fn:=⟨4,[],4,[],[
  .ret (.call 52 [(.var 1),(.call 50 [(.var 0),(.var 2),(.var 3)])])]⟩
noncomputable def zAp:Fn:=⟨2,[],2,[],[
  .iff (.op .lt [(.var 1),(.op .len [(.var 0)])]) [.ret (.op .ix [(.var 0),(.var 1)])] [],
  .ret (.cst (.int (0)))]⟩
noncomputable def zAA:Fn:=⟨3,[],6,[],[
  .iff (.op .gt [(.var 0),(.op .pow [(.cst (.int (10))),(.cst (.int (9)))])]) [.set 3 (.op .fdiv [(.var 0),(.cst (.int (1000)))]),.fo (.one 4) .rng1 [(.op .mod [(.var 1),(.cst (.int (9)))])] [.set 3 (.op .fdiv [(.var 3),(.cst (.int (1000)))])],.ret (.op .mod [(.op .mod [(.var 3),(.cst (.int (1000)))]),(.var 2)])] [],
  .set 5 (.op .add [(.op .add [(.op .mod [(.var 0),(.cst (.int (1000003)))]),(.op .mul [(.cst (.int (31))),(.var 1)])]),(.cst (.int (1)))]),
  .ret (.op .mod [(.op .fdiv [(.op .mod [(.op .add [(.op .add [(.op .mul [(.var 5),(.var 5)]),(.op .mul [(.cst (.int (65537))),(.var 5)])]),(.op .mul [(.cst (.int (977))),(.var 1)])]),(.cst (.int (999983)))]),(.cst (.int (3)))]),(.var 2)])]⟩
noncomputable def zAW:Fn:=⟨2,[],7,[],[
  .set 2 (.op .lst []),
  .fo (.one 3) .rng1 [(.op .mod [(.call 98 [(.var 0),(.cst (.int (1)))]),(.cst (.int (7)))])] [.set 4 (.call 98 [(.var 0),(.op .add [(.cst (.int (2))),(.var 3)])]),.set 5 (.op .add [(.cst (.int (1))),(.call 71 [(.var 4),(.cst (.int (1))),(.op .ix [(.op .lst [(.cst (.int (1))),(.cst (.int (3))),(.cst (.int (7))),(.cst (.int (15))),(.cst (.int (31))),(.cst (.int (63)))]),(.op .sub [(.var 1),(.cst (.int (1)))])])])]),.set 6 (.comp [none,none,(some 5)] (.one 1) .rng1 [(.var 1)] [(.op .eq [(.op .mod [(.op .fdiv [(.var 2),(.op .ix [(.op .lst [(.cst (.int (1))),(.cst (.int (2))),(.cst (.int (4))),(.cst (.int (8))),(.cst (.int (16))),(.cst (.int (32)))]),(.var 1)])]),(.cst (.int (2)))]),(.cst (.int (1)))])] (.var 1)),.iff (.op .eq [(.call 71 [(.var 4),(.cst (.int (2))),(.cst (.int (2)))]),(.cst (.int (1)))]) [.set 6 (.op .slH [(.op .slL [(.var 6),(.call 71 [(.var 4),(.cst (.int (3))),(.op .len [(.var 6)])])]),(.cst (.int (1)))])] [],.mut 2 [] .append [(.var 6)]],
  .ret (.var 2)]⟩
noncomputable def zAF:Fn:=⟨2,[],3,[],[
  .fo (.one 2) .rng1 [(.op .len [(.var 0)])] [.iff (.op .any [(.comp [none,none,(some 1)] (.one 1) .seq [(.op .ix [(.var 0),(.var 2)])] [] (.op .isin [(.var 2),(.var 1)]))]) [.ret (.var 2)] []],
  .ret (.cst .non)]⟩
noncomputable def zBj:Fn:=⟨3,[],5,[],[
  .iff (.op .eq [(.op .len [(.var 2)]),(.cst (.int (0)))]) [.ret (.cst .non)] [],
  .set 3 (.call 71 [(.var 0),(.cst (.int (21))),(.op .len [(.var 2)])]),
  .set 4 (.call 115 [(.var 1),(.var 3)]),
  .iff (.op .isN [(.var 4)]) [.ret (.op .tup [(.call 71 [(.var 0),(.cst (.int (22))),(.op .len [(.var 1)])]),(.cst (.str "on")),(.var 3)])] [],
  .iff (.op .all [(.comp [none,none,(some 3),(some 4),(some 1)] (.one 1) .seq [(.op .ix [(.var 2),(.var 3)])] [] (.op .eq [(.op .ix [(.op .ix [(.op .ix [(.var 4),(.var 3)]),(.var 1)]),(.op .neg [(.cst (.int (1)))])]),(.var 2)]))]) [.ret (.op .tup [(.var 4),(.cst (.str "off")),(.var 3)])] [],
  .ret (.cst .non)]⟩
noncomputable def zA8:Fn:=⟨3,[],9,[],[
  .setT [3,4,5] (.var 1),
  .set 6 (.op .lst []),
  .fo (.one 7) .rng1 [(.op .len [(.op .ix [(.var 0),(.var 3)])])] [.set 8 (.op .ix [(.op .ix [(.var 0),(.var 3)]),(.var 7)]),.iff (.op .isin [(.var 7),(.op .ix [(.var 2),(.var 5)])]) [.set 8 (.op .ix [(.op .lst [(.op .slH [(.var 8),(.op .neg [(.cst (.int (1)))])]),(.op .add [(.var 8),(.op .tup [(.var 5)])])]),(.op .toInt [(.op .eq [(.var 4),(.cst (.str "on"))])])])] [],.mut 6 [] .append [(.var 8)]],
  .ret (.op .add [(.op .add [(.op .slH [(.var 0),(.var 3)]),(.op .tup [(.op .tuple [(.var 6)])])]),(.op .slL [(.var 0),(.op .add [(.var 3),(.cst (.int (1)))])])])]⟩
noncomputable def zBi:Fn:=⟨3,[],6,[],[
  .set 3 (.op .lst []),
  .fo (.one 4) .seq [(.var 0)] [.set 5 (.call 116 [(.var 4),(.var 1),(.var 2)]),.iff (.op .notN [(.var 5)]) [.mut 3 [] .append [(.var 5)],.set 1 (.call 117 [(.var 1),(.var 5),(.var 2)])] []],
  .ret (.op .tup [(.var 3),(.var 1)])]⟩
noncomputable def zAV:Fn:=⟨2,[],5,[],[
  .set 2 (.op .lst []),
  .fo (.one 3) .rng1 [(.op .len [(.var 1)])] [.set 4 (.call 98 [(.var 0),(.op .add [(.cst (.int (2))),(.var 3)])]),.iff (.op .gt [(.var 4),(.op .pow [(.cst (.int (10))),(.cst (.int (40)))])]) [.mut 2 [] .append [(.op .tup [(.op .mod [(.op .fdiv [(.var 4),(.op .pow [(.cst (.int (10))),(.cst (.int (40)))])]),(.op .add [(.op .pow [(.cst (.int (10))),(.cst (.int (6)))]),(.cst (.int (1)))])]),(.op .mod [(.op .fdiv [(.var 4),(.op .pow [(.cst (.int (10))),(.cst (.int (47)))])]),(.op .add [(.op .pow [(.cst (.int (10))),(.cst (.int (6)))]),(.cst (.int (1)))])])])]] [.mut 2 [] .append [(.op .tup [(.op .mod [(.op .mul [(.var 4),(.cst (.int (48271)))]),(.op .add [(.op .pow [(.cst (.int (10))),(.cst (.int (6)))]),(.cst (.int (1)))])]),(.op .mod [(.op .mul [(.var 4),(.cst (.int (69621)))]),(.op .ix [(.op .lst [(.cst (.int (3))),(.op .add [(.op .pow [(.cst (.int (10))),(.cst (.int (6)))]),(.cst (.int (1)))])]),(.op .mod [(.var 4),(.cst (.int (2)))])])])])]]],
  .ret (.var 2)]⟩
noncomputable def zI8:Fn:=⟨1,[],16,[],[
  .set 1 (.op .add [(.cst (.int (1))),(.op .mod [(.call 98 [(.var 0),(.cst (.int (0)))]),(.cst (.int (6)))])]),
  .set 2 (.call 99 [(.var 0),(.var 1)]),
  .set 4 (.make 17 [(.var 1),(.comp [none,none] (.one 1) .seq [(.var 2)] [] (.op .list [(.var 1)]))]),
  .set 5 (.op .mul [(.op .tup [(.op .mul [(.op .tup [(.op .tup [])]),(.var 1)])]),(.op .add [(.cst (.int (1))),(.op .mod [(.call 98 [(.var 0),(.cst (.int (8)))]),(.cst (.int (3)))])])]),
  .set 6 (.op .max2 [(.cst (.int (1))),(.op .fdiv [(.op .sub [(.op .min2 [(.cst (.int (63))),(.op .len [(.var 0)])]),(.cst (.int (9)))]),(.cst (.int (3)))])]),
  .set 3 (.op .lst []),
  .fo (.one 7) .rng1 [(.cst (.int (3)))] [.set 8 (.var 5),.iff (.and (.op .gt [(.var 7),(.cst (.int (0)))]) (.op .eq [(.op .mod [(.op .fdiv [(.call 98 [(.var 0),(.cst (.int (8)))]),(.op .ix [(.op .lst [(.cst (.int (1))),(.cst (.int (3))),(.cst (.int (6)))]),(.var 7)])]),(.cst (.int (2)))]),(.cst (.int (1)))])) [.set 8 (.op .ix [(.var 3),(.op .sub [(.var 7),(.cst (.int (1)))])])] [],.mut 3 [] .append [(.op .ix [(.call 118 [(.sl2 (.var 0) (.op .add [(.cst (.int (9))),(.op .mul [(.var 7),(.var 6)])]) (.op .add [(.cst (.int (9))),(.op .mul [(.op .add [(.var 7),(.cst (.int (1)))]),(.var 6)])])),(.var 8),(.var 2)]),(.cst (.int (1)))])]],
  .setT [9,10,11] (.var 3),
  .set 12 (.call 134 [(.var 0),(.var 2)]),
  .set 13 (.op .lst [(.call 47 [(.var 4),(.var 9),(.var 10)]),(.call 47 [(.var 4),(.var 10),(.var 11)]),(.call 47 [(.var 4),(.var 9),(.var 11)])]),
  .iff (.or (.op .ne [(.call 47 [(.var 4),(.var 10),(.var 9)]),(.op .ix [(.var 13),(.cst (.int (0)))])]) (.op .ne [(.call 47 [(.var 4),(.var 11),(.var 9)]),(.op .ix [(.var 13),(.cst (.int (2)))])])) [.ret (.cst (.bl false))] [],
  .iff (.op .not [(.op .all [(.comp [none,none,(some 13)] (.one 1) .seq [(.op .ix [(.var 13),(.cst (.int (0)))])] [(.op .isin [(.var 1),(.op .ix [(.var 2),(.cst (.int (1)))])])] (.op .isin [(.var 1),(.op .ix [(.var 2),(.cst (.int (2)))])]))])]) [.ret (.cst (.bl false))] [],
  .set 14 (.op .add [(.call 53 [(.var 4),(.var 12),(.var 9),(.var 10)]),(.call 53 [(.var 4),(.var 12),(.var 10),(.var 11)])]),
  .iff (.or (.op .gt [(.call 53 [(.var 4),(.var 12),(.var 9),(.var 11)]),(.var 14)]) (.op .ne [(.call 53 [(.var 4),(.var 12),(.var 10),(.var 10)]),(.cst (.int (0)))])) [.ret (.cst (.bl false))] [],
  .set 15 (.comp [none,none,(some 10)] (.one 1) .rng1 [(.op .len [(.var 2)])] [(.op .notN [(.call 115 [(.var 2),(.var 1)])])] (.var 1)),
  .iff (.op .ne [(.call 53 [(.var 4),(.var 12),(.var 5),(.var 10)]),(.op .sum [(.comp [none,none,(some 12)] (.one 1) .seq [(.var 15)] [] (.op .ix [(.op .ix [(.var 2),(.var 1)]),(.cst (.int (0)))]))])]) [.ret (.cst (.bl false))] [],
  .ret (.op .eq [(.call 53 [(.var 4),(.var 12),(.var 10),(.var 5)]),(.op .sum [(.comp [none,none,(some 12)] (.one 1) .seq [(.var 15)] [] (.op .ix [(.op .ix [(.var 2),(.var 1)]),(.cst (.int (1)))]))])])]⟩
noncomputable def zAu:Fn:=⟨3,[0],5,[],[
  .iff (.or (.op .not [(.call 0 [(.var 1)])]) (.op .not [(.chain .le .le (.cst (.int (1))) (.var 1) (.cst (.int (6))))])) [.bad] [],
  .iff (.op .gt [(.op .len [(.var 2)]),(.cst (.int (6)))]) [.bad] [],
  .fo (.many [3,4]) .enum [(.var 2)] [.iff (.op .not [(.call 16 [(.var 4),(.var 1)])]) [.bad] []],
  .sfld 0 9 (.var 1),
  .sfld 0 10 (.comp [none,none] (.one 1) .seq [(.var 2)] [] (.op .tuple [(.var 1)]))]⟩
noncomputable def zAq:Fn:=⟨1,[],1,[],[
  .ret (.op .len [(.op (.fld 10) [(.var 0)])])]⟩
noncomputable def zAj:Fn:=⟨2,[],2,[],[
  .ex (.call 17 [(.var 0),(.var 1)]),
  .ret (.op .list [(.op .ix [(.op (.fld 10) [(.var 0)]),(.var 1)])])]⟩
noncomputable def fnL_k26:List (Nat×Fn):=[(0,zA0),(1,zAP),(15,zBh),(16,zAE),(17,zAL),(24,zA4),(34,zBV),(35,zAQ),(36,zAK),(37,zAI),(38,zEm),(39,zAY),(45,zAy),(46,zA7),(47,zAZ),(49,zAJ),(50,zAU),(51,zBG),(52,zA6),(53,zAo),(98,zAp),(71,zAA),(99,zAW),(115,zAF),(116,zBj),(117,zA8),(118,zBi),(134,zAV),(69,zI8),(18,zAu),(20,zAq),(21,zAj)]
noncomputable def clL_k26:List (Nat×Cl):=[(17,⟨(some 18),[(12,20),(13,21)],[],false⟩)]
noncomputable def G_k26:Pg where
 fn:=fun i=>fnL_k26.lookup i
 cl:=fun i=>clL_k26.lookup i
theorem zBg {α:Type}{e:α->D}{f:D->R (Option KD)}{g:α->KD}{xs:List α}(h:∀x∈xs,f (e x)=.ok (some (g x))):compD f (xs.map e)=.ok (xs.map g):=by
 induction xs with
 | nil=>rfl
 | cons x xs ih=>rw[List.map_cons,compD,h x List.mem_cons_self,R.bind,ih fun y hy=>h y (List.mem_cons_of_mem _ hy)]; rfl
theorem zBU {α:Type}{e:α->D}{f:D->R (Option KD)}{p:α->Bool}{g:α->KD}{xs:List α}(h:∀x∈xs,f (e x)=.ok (if p x then some (g x) else none)):compD f (xs.map e)=.ok ((xs.filter p).map g):=by
 induction xs with
 | nil=>rfl
 | cons x xs ih=>
  rw[List.map_cons,compD,h x List.mem_cons_self,R.bind,ih fun y hy=>h y (List.mem_cons_of_mem _ hy)];by_cases q:p x=true
  ·simp[q]
  ·simp[q]
@[simp] theorem zDB {α:Type}(p:α->Bool):∀xs:List α,allB (xs.map fun x=>.bl (p x))=some (xs.all p)
 | []=>rfl
 | x::xs=>by rw[List.map_cons,allB,zDB p xs]; rfl
@[simp] theorem zFz {α:Type}(p:α->Bool):∀xs:List α,anyB (xs.map fun x=>.bl (p x))=some (xs.any p)
 | []=>rfl
 | x::xs=>by rw[List.map_cons,anyB,zFz p xs]; rfl
@[simp] theorem zFj:∀xs:List Int,intsD (xs.map .int)=some xs
 | []=>rfl
 | x::xs=>by rw[List.map_cons,intsD,zFj xs]; rfl
@[simp] theorem zFX:∀xs:List Int,D.flats (xs.map .int)=true
 | []=>by simp
 | x::xs=>by simp[zFX xs]
@[simp] theorem zIO:∀xs ys:List Int,D.eqs (xs.map .int) (ys.map .int)=decide (xs=ys)
 | [],[]=>by simp[D.eqs]
 | [],_::_=>by simp[D.eqs]
 | _::_,[]=>by simp[D.eqs]
 | x::xs,y::ys=>by simp[D.eqs,D.eq,zIO xs ys]
theorem zBw {xs:List KD}(h:∀x∈xs,x.2.flat=true):joinK xs=98:=by
 have:xs.find? (fun x=>!x.2.flat)=none:=by
  rw[List.find?_eq_none];intro x hx;simp[h x hx]
 rw[joinK,this]
@[simp] theorem flat_int (i:Int):(D.int i).flat=true:=rfl
@[simp] theorem joinK_int (k:Nat)(i:Int)(xs:List KD):joinK ((k,.int i)::xs)=joinK xs:=zBx rfl
@[simp] theorem joinK_bl (k:Nat)(i:Bool)(xs:List KD):joinK ((k,.bl i)::xs)=joinK xs:=zBx rfl
@[simp] theorem joinK_non (k:Nat)(xs:List KD):joinK ((k,.non)::xs)=joinK xs:=zBx rfl
@[simp] theorem joinK_str (k:Nat)(i:Str)(xs:List KD):joinK ((k,.str i)::xs)=joinK xs:=zBx rfl
@[simp] theorem zM0 (k:Nat)(i:Int):D.fb k (.int i)=true:=by cases k <;> rfl
@[simp] theorem fb_bl (k:Nat)(i:Bool):D.fb k (.bl i)=true:=by cases k <;> rfl
@[simp] theorem fb_non (k:Nat):D.fb k .non=true:=by cases k <;> rfl
@[simp] theorem fb_str (k:Nat)(i:Str):D.fb k (.str i)=true:=by cases k <;> rfl
theorem zDw {α:Type}(xs:List α)(k:Nat):cutD xs none (some (k:Int))=xs.take k:=by
 simp only[cutD,sIxD];simp
theorem zEJ {α:Type}(xs:List α)(k:Nat):cutD xs (some (k:Int)) none=xs.drop k:=by
 simp only[cutD,sIxD];by_cases h:k<=xs.length
 ·skip
  simp only[if_pos (Int.natCast_nonneg k),Int.toNat_natCast,Nat.min_eq_left h];exact List.take_of_length_le (by simp)
 ·have h':xs.length<=k:=by omega
  simp[Nat.min_eq_right h',List.drop_of_length_le h']
@[simp] theorem wk_seq (k:Nat)(x:D):wkD .seq [(k,x)]=x.seq:=rfl
@[simp] theorem wk_enum (k:Nat)(xs:List D):wkD .enum [(k,.lst xs)]=some (xs.mapIdx fun n d=>.tup [.int n,d]):=rfl
@[simp] theorem wk_zip (k k':Nat)(xs ys:List D):wkD .zip [(k,.lst xs),(k',.lst ys)]=some ((xs.zip ys).map fun p=>.tup [p.1,p.2]):=rfl
theorem wk_rng1 {k p:Nat}(h:p<=SL):wkD .rng1 [(k,.int p)]=some ((List.range p).map fun (n:Nat)=>.int n):=by
 have h2:p<=1000000:=h;have:inI (p:Int)=true:=zAC.mpr (by omega);show (if inI (p:Int)=true then _ else none)=_;rw[if_pos this];rfl
theorem zIx {n:Nat}(h:0<n):ixD n (-1)=some (n - 1):=by
 have h1:¬(0:Int) <= -1:=by decide
 have h2 : -(n:Int) <= -1:=by omega
 simp only[ixD,h1,if_false,h2,if_true];congr 1
 omega
theorem zDU {body:D->Fr->O}{I:Fr->Prop}:∀{xs:List D} {A:Fr},I A->(∀x∈xs,∀A,I A->∃A',body x A=.nx A'/\I A')->∃A',loopD body xs A=.nx A'/\I A'
 | [],A,h,_=>⟨A,rfl,h⟩
 | x::xs,A,h,k=>by
  obtain⟨A1,e1,h1⟩:=k x zm2 A h;obtain⟨A2,e2,h2⟩:=zDU (xs:=xs) h1 fun y hy=>k y (zm1 _ hy);exact⟨A2,by rw[loopD,e1]; exact e2,h2⟩
noncomputable def RelK:Option KD->Option KD->Prop
 | none,none=>True
 | some x,some y=>x.2=y.2/\y.1<=x.1
 | _,_=>False
inductive RelF:Fr->Fr->Prop
 | nil:RelF [] []
 | cons {x y:Option KD} {A a:Fr} (h:RelK x y) (t:RelF A a):RelF (x::A) (y::a)
theorem RelK.refl:∀x:Option KD,RelK x x
 | none=>trivial
 | some _=>⟨rfl,zm8 _⟩
theorem RelF.refl:∀A:Fr,RelF A A
 | []=>.nil
 | x::A=>.cons (.refl x) (.refl A)
theorem RelF.sl {A a:Fr}(h:RelF A a):A.sl=a.sl:=by
 induction h with
 | nil=>rfl
 | @cons x y A a h t ih=>
  have:x.map (·.2)=y.map (·.2):=by
   cases x <;> cases y <;> first | rfl | exact h.elim | (simp only[Option.map]; exact congrArg some h.1)
  simp only[Fr.sl,List.map_cons] at ih ⊢;rw[this,ih]
theorem RelF.len {A a:Fr}(h:RelF A a):A.length=a.length:=by
 induction h with
 | nil=>rfl
 | cons _ _ ih=>simp[ih]
theorem RelF.set {A a:Fr}(h:RelF A a){x y:Option KD}(k:RelK x y):∀i,RelF (A.set i x) (a.set i y):=by
 induction h with
 | nil=>intro i; exact .nil
 | cons q t ih=>
  intro i;cases i with
  | zero=>exact .cons k t
  | succ i=>exact .cons q (ih i)
theorem RelF.get {A a:Fr}(h:RelF A a):∀i:Nat,(A[i]? = none/\a[i]? = none)\/∃x y,A[i]? = some x/\a[i]? = some y/\RelK x y:=by
 induction h with
 | nil=>intro i; exact .inl ⟨rfl,rfl⟩
 | @cons x y _ _ q t ih=>
  intro i;cases i with
  | zero=>exact .inr ⟨x,y,rfl,rfl,q⟩
  | succ i=>simpa using ih i
theorem RelF.frz1 {A a:Fr}(h:RelF A a)(i:Nat):RelF (frz1 A i) (frz1 a i):=by
 simp only[Ip.frz1];rcases h.get i with ⟨e1,e2⟩ | ⟨x,y,e1,e2,q⟩
 ·rw[e1,e2]; exact h
 ·rw[e1,e2];cases x <;> cases y
  ·exact h
  ·exact q.elim
  ·exact q.elim
  ·next x y=>exact h.set (x:=some (0,x.2)) (y:=some (0,y.2)) ⟨q.1,zm8 _⟩ i
theorem RelF.frz {ns:List Nat}:∀{A a:Fr},RelF A a->RelF (frz ns A) (frz ns a):=by
 induction ns with
 | nil=>exact fun h=>h
 | cons n ns ih=>exact fun h=>ih (h.frz1 n)
theorem RelF.trans {A a b:Fr}(h:RelF A a)(k:RelF a b):RelF A b:=by
 induction h generalizing b with
 | nil=>exact k
 | @cons x y _ _ q t ih=>
  cases k with
  | @cons _ z _ _ q' t'=>
   refine .cons ?_ (ih t');cases x <;> cases y <;> cases z <;> first | trivial | exact q.elim | exact q'.elim | exact⟨q.1.trans q'.1,zm9 q'.2 q.2⟩
theorem RelF.low1 (a:Fr)(i:Nat):RelF a (Ip.frz1 a i):=by
 simp only[Ip.frz1];cases e:a[i]? with
 | none=>exact .refl a
 | some x=>
  cases x with
  | none=>exact .refl a
  | some x=>
   have:a=a.set i (some x):=by
    refine (List.ext_getElem? fun j=>?_);rw[List.getElem?_set];by_cases hj:i=j
    ·subst hj;have:=(zp6 e).1;rw[e]; simp[this]
    ·simp[hj]
   conv=>lhs; rw[this]
   exact (RelF.refl a).set (x:=some x) (y:=some (0,x.2)) ⟨rfl,Nat.zero_le _⟩ i
theorem RelF.low (ns:List Nat):∀a:Fr,RelF a (Ip.frz ns a):=by
 induction ns with
 | nil=>exact .refl
 | cons n ns ih=>exact fun a=>(RelF.low1 a n).trans (ih _)
theorem RelF.settle {A a:Fr}(h:RelF A a)(ns:List Nat)(x:KD):RelF (settle ns A x) (Ip.frz ns a):=by
 simp only[Ip.settle];split
 ·exact h.trans (.low ns a)
 ·exact h.frz
theorem RelF.settleK {A a:Fr}(h:RelF A a)(ns:List Nat){x:KD}(hx:x.2.fb x.1=true):RelF (Ip.settle ns A x) a:=by
 simp only[Ip.settle,hx,if_true]; exact h
section
variable (G:Pg)(cl:Nat->List KD->Run)(io:List Nat)
def Ou (a:Fr)(ss:List S)(N:Fr->Prop)(V:D->Prop)(X:Nat->List (Nat×D)->Fr->Prop):Prop:=∀A,RelF A a->match execs G cl io A ss with
 | .nx A'=>∃a',RelF A' a'/\N a'
 | .ret _ d _=>V d
 | .exc c fs A'=>∃a',RelF A' a'/\X c fs a'
 | _=>False
variable {G cl io}{a:Fr}{ss:List S}{N:Fr->Prop}{V:D->Prop}{X:Nat->List (Nat×D)->Fr->Prop}
theorem Ou.nil (h:N a):Ou G cl io a [] N V X:=fun A r=>by
 simp only[zCC,zAN]; exact⟨a,r,h⟩
theorem Ou.low {a':Fr}(l:RelF a a')(h:Ou G cl io a' ss N V X):Ou G cl io a ss N V X:=fun A r=>h A (r.trans l)
theorem Ou.mono {N':Fr->Prop}{V':D->Prop}{X':Nat->List (Nat×D)->Fr->Prop}(h:Ou G cl io a ss N V X)(n:∀a,N a->N' a)(r:∀d,V d->V' d)(x:∀c fs a,X c fs a->X' c fs a):Ou G cl io a ss N' V' X':=fun A q=>by
 have:=h A q;revert this
 cases execs G cl io A ss with
 | nx A=>exact fun⟨a,h1,h2⟩=>⟨a,h1,n a h2⟩
 | ret k d A=>exact r d
 | exc c fs A=>exact fun⟨a,h1,h2⟩=>⟨a,h1,x c fs a h2⟩
 | _=>exact id
theorem Ou.step {s:S}(h:∀A,RelF A a->match exec G cl io A s with
  | .nx A'=>∃a',RelF A' a'/\Ou G cl io a' ss N V X
  | .ret _ d _=>V d
  | .exc c fs A'=>∃a',RelF A' a'/\X c fs a'
  | _=>False):Ou G cl io a (s::ss) N V X:=fun A r=>by
 have:=h A r;simp only[zCC,zAN];revert this
 cases exec G cl io A s with
 | nx A'=>exact fun⟨a',h1,h2⟩=>h2 A' h1
 | ret k d A=>exact id
 | exc c fs A=>exact id
 | _=>exact id
theorem okI {io:List Nat}{i n:Nat}(h:(!io.contains i&&Nat.blt i n)=true):io.contains i=false/\i<n:=by
 rw[Bool.and_eq_true] at h;exact⟨by simpa using h.1,Nat.le_of_ble_eq_true h.2⟩
theorem okT {io is:List Nat}{m n:Nat}(h:(m == is.length&&is.all fun i=>!io.contains i&&Nat.blt i n)=true):m=is.length/\∀i∈is,io.contains i=false/\i<n:=by
 rw[Bool.and_eq_true,List.all_eq_true] at h;exact⟨by simpa using h.1,fun i hi=>okI (h.2 i hi)⟩
theorem Ou.set {i:Nat}{e:Ex}{x:KD}(h:eval G cl a.sl e=.ok x)(k:Ou G cl io ((frz e.names a).set i (some (0,x.2))) ss N V X)(hi:(!io.contains i&&Nat.blt i a.length)=true:=by rfl):Ou G cl io a (.set i e::ss) N V X:=
 .step fun A r=>by
  obtain⟨hio,hi⟩:=okI hi;have l:(settle e.names A x).length=a.length:=by
   rw[<-r.len];have:=(r.settle e.names x).len;rw[this,<-(RelF.low e.names a).len,r.len]
  simp only[zBz,r.sl,h,R.toO,setF,hio,l,hi,and_self,if_true];exact⟨_,(r.settle e.names x).set (x:=some x) (y:=some (0,x.2)) ⟨rfl,Nat.zero_le _⟩ i,k⟩
theorem Ou.setE {i:Nat}{e:Ex}{d:D}(h:∃j,eval G cl a.sl e=.ok (j,d))(k:Ou G cl io ((frz e.names a).set i (some (0,d))) ss N V X)(hi:(!io.contains i&&Nat.blt i a.length)=true:=by rfl):Ou G cl io a (.set i e::ss) N V X:=by
 obtain⟨j,h⟩:=h;exact Ou.set h k hi
theorem Ou.setK {i:Nat}{e:Ex}{x:KD}(h:eval G cl a.sl e=.ok x)(hx:x.2.fb x.1=true)(k:Ou G cl io (a.set i (some x)) ss N V X)(hi:(!io.contains i&&Nat.blt i a.length)=true:=by rfl):Ou G cl io a (.set i e::ss) N V X:=
 .step fun A r=>by
  obtain⟨hio,hi⟩:=okI hi;have l:(settle e.names A x).length=a.length:=(r.settleK e.names hx).len;simp only[zBz,r.sl,h,R.toO,setF,hio,l,hi,and_self,if_true];exact⟨_,(r.settleK e.names hx).set (.refl _) i,k⟩
theorem Ou.ex {e:Ex}{x:KD}(h:eval G cl a.sl e=.ok x)(k:Ou G cl io (frz e.names a) ss N V X):Ou G cl io a (.ex e::ss) N V X:=
 .step fun A r=>by
  simp only[zEI,r.sl,h,R.toO];exact⟨_,r.settle e.names x,k⟩
theorem Ou.ret {e:Ex}{x:KD}(h:eval G cl a.sl e=.ok x)(k:V x.2):Ou G cl io a (.ret e::ss) N V X:=
 .step fun A r=>by
  rw[zCh,r.sl,h];cases e with
  | var i=>
   rw[zBC,<-r.sl] at h;rcases r.get i with ⟨e1,e2⟩ | ⟨x',y',e1,e2,q⟩
   ·simp[Fr.sl,e1] at h
   ·cases x' with
    | none=>simp[Fr.sl,e1] at h
    | some x'=>
     simp[Fr.sl,e1] at h;subst h;rw[zE1,e1];exact k
  | _=>exact k
theorem Ou.retE {e:Ex}{d:D}(h:∃j,eval G cl a.sl e=.ok (j,d))(k:V d):Ou G cl io a (.ret e::ss) N V X:=by
 obtain⟨j,h⟩:=h;exact Ou.ret h k
theorem Ou.iff {c:Ex}{t e:List S}{b:Bool}{j:Nat}(h:eval G cl a.sl c=.ok (j,.bl b))(k:if b then Ou G cl io a t (fun a'=>Ou G cl io a' ss N V X) V X else Ou G cl io a e (fun a'=>Ou G cl io a' ss N V X) V X):Ou G cl io a (.iff c t e::ss) N V X:=
 .step fun A r=>by
  simp only[zFn,r.sl,h,R.bl,R.bind,R.toO];cases b with
  | true=>exact k A r
  | false=>exact k A r
theorem Ou.iffT {c:Ex}{t e:List S}{j:Nat}(h:eval G cl a.sl c=.ok (j,.bl true))(k:Ou G cl io a t (fun a'=>Ou G cl io a' ss N V X) V X):Ou G cl io a (.iff c t e::ss) N V X:=.iff h k
theorem Ou.iffF {c:Ex}{t e:List S}{j:Nat}(h:eval G cl a.sl c=.ok (j,.bl false))(k:Ou G cl io a e (fun a'=>Ou G cl io a' ss N V X) V X):Ou G cl io a (.iff c t e::ss) N V X:=.iff h k
theorem Ou.iffN {c:Ex}{t:List S}{j:Nat}(h:eval G cl a.sl c=.ok (j,.bl false))(k:Ou G cl io a ss N V X):Ou G cl io a (.iff c t []::ss) N V X:=Ou.iffF h (Ou.nil k)
theorem RelF.setFs {io:List Nat}:∀{is:List Nat} {ds:List D} {k:Nat} {A a:Fr},RelF A a->ds.length=is.length->(∀i∈is,io.contains i=false/\i<a.length)->∃A',setFs io is (ds.map fun d=>(k,d)) A=.nx A'/\RelF A' (setsT (fun d=>(0,d)) is ds a)
 | [],[],_,A,a,r,_,_=>⟨A,rfl,r⟩
 | i::is,d::ds,k,A,a,r,hl,h=>by
  have hi:=h i zm2;have hl':i<A.length:=by rw[r.len]; exact hi.2
  obtain⟨A',e,r'⟩:=RelF.setFs (is:=is) (ds:=ds) (k:=k) (r.set (x:=some (k,d)) (y:=some (0,d)) ⟨rfl,Nat.zero_le _⟩ i) (by simpa using hl) fun j hj=>⟨(h j (zm1 _ hj)).1,by simpa using (h j (zm1 _ hj)).2⟩
  refine⟨A',?_,r'⟩;simp only[List.map_cons,Ip.setFs,setF,hi.1,hl',and_self,if_true,O.seq];exact e
theorem Ou.setT {is:List Nat}{e:Ex}{j:Nat}{ds:List D}(h:eval G cl a.sl e=.ok (j,.tup ds))(k:Ou G cl io (setsT (fun d=>(0,d)) is ds (frz e.names a)) ss N V X)(hi:(ds.length == is.length&&is.all fun i=>!io.contains i&&Nat.blt i a.length)=true:=by rfl):Ou G cl io a (.setT is e::ss) N V X:=
 .step fun A r=>by
  obtain⟨hl,hi⟩:=okT hi;obtain⟨A',q1,q2⟩:=RelF.setFs (io:=io) (is:=is) (ds:=ds) (k:=0) (r.settle e.names (j,.tup ds)) hl fun i hm=>⟨(hi i hm).1,by rw[<-(RelF.low e.names a).len]; exact (hi i hm).2⟩
  simp only[zCE,r.sl,h,R.toO,setTO,q1];exact⟨_,q2,k⟩
theorem Ou.fo {tg:Tg}{wk:Wk}{it:List Ex}{b:List S}{vs:List KD}{xs:List D}(I:List D->Fr->Prop)(h:evals G cl a.sl it=.ok vs)(hw:wkD wk vs=some xs)(hx:xs.length<=SL)(h0:I xs (frz (wk.fz it) a))
  (step:∀x r a',I (x::r) a'->∃a'',(∀A,RelF A a'->∃A',bindF io tg x A=.nx A'/\RelF A' a'')/\Ou G cl io a'' b (I r) V X)(k:∀a',I [] a'->Ou G cl io a' ss N V X):Ou G cl io a (.fo tg wk it b::ss) N V X:=
 .step fun A r=>by
  simp only[zEH,r.sl,h,R.toO,foO,hw,hx,if_true];have lp:∀(xs:List D) (a':Fr),I xs a'->∀A,RelF A a'->match loopD (foB G cl io tg b) xs A with
    | .nx A'=>∃a',RelF A' a'/\Ou G cl io a' ss N V X
    | .ret _ d _=>V d
    | .exc c fs A'=>∃a',RelF A' a'/\X c fs a'
    | _=>False:=by
   intro xs;induction xs with
   | nil=>exact fun a' hi A r=>⟨a',r,k a' hi⟩
   | cons x xs ih=>
    intro a' hi A r;obtain⟨a'',hb,hO⟩:=step x xs a' hi;obtain⟨A',e,r'⟩:=hb A r;have:=hO A' r';rw[loopD,foB,e];simp only[O.seq];revert this
    cases execs G cl io A' b with
    | nx A2=>exact fun⟨a2,h1,h2⟩=>ih a2 h2 A2 h1
    | ret k d A2=>exact id
    | exc c fs A2=>exact id
    | _=>exact False.elim
  exact lp xs _ h0 _ r.frz
theorem zAt {i:Nat}{x:D}{a':Fr}(hi:(!io.contains i&&Nat.blt i a'.length)=true):∀A,RelF A a'->∃A',bindF io (.one i) x A=.nx A'/\RelF A' (a'.set i (some (0,x))):=fun A r=>by
 obtain⟨hio,hi⟩:=okI hi;have:i<A.length:=by rw[r.len]; exact hi
 simp only[bindF,setF,hio,this,and_self,if_true];exact⟨_,rfl,r.set (.refl _) i⟩
theorem zBe {is:List Nat}{ds:List D}{a':Fr}(hi:(ds.length == is.length&&is.all fun i=>!io.contains i&&Nat.blt i a'.length)=true):∀A,RelF A a'->∃A',bindF io (.many is) (.tup ds) A=.nx A'/\RelF A' (setsT (fun d=>(0,d)) is ds a'):=fun A r=>by
 obtain⟨hl,hi⟩:=okT hi;simp only[bindF];exact RelF.setFs r hl hi
end
theorem Ou.run {G:Pg}{n f:Nat}{F:Fn}{vs:List KD}{V:D->Prop}(hf:G.fn f=some F)(hn:vs.length=F.np)(hio:F.io=[])(h:Ou G (run G n) [] (enter F vs) F.body (fun _=>V .non) V fun _ _ _=>False):∃k d,Ip.run G (n+1) f vs=.ret k d []/\V d:=by
 rw[Ip.run,hf];simp only[hn,if_true,hio];have:=h _ (.refl _);revert this
 cases execs G (Ip.run G n) [] (enter F vs) F.body with
 | nx A=>exact fun⟨_,_,h⟩=>⟨99,.non,rfl,h⟩
 | ret k d A=>exact fun h=>⟨k,d,rfl,h⟩
 | exc c fs A=>exact fun⟨_,_,h⟩=>h.elim
 | _=>exact False.elim
structure Pa (G:Pg):Prop where
 f0:G.fn 0=some zA0
 f1:G.fn 1=some zAP
 f15:G.fn 15=some zBh
 f16:G.fn 16=some zAE
 f17:G.fn 17=some zAL
 f18:G.fn 18=some zAu
 f20:G.fn 20=some zAq
 f21:G.fn 21=some zAj
 c17:G.cl 17=some ⟨(some 18),[(12,20),(13,21)],[],false⟩
variable {G:Pg}(P:Pa G)
include P
noncomputable def isI:D->Bool
 | .int _=>true
 | _=>false
theorem zBY (n:Nat)(k:Nat)(d:D):run G (n+1) 0 [(k,d)]=.ret 99 (.bl (isI d)) []:=by
 rw[run,P.f0];cases d <;> simp[zA0,isI]
noncomputable def isB (b:Int):D->Bool
 | .int i=>decide (0<=i)&&decide (i<b)
 | _=>false
theorem zBZ (n:Nat)(k k':Nat)(d:D)(b:Int):run G (n+2) 1 [(k,d),(k',.int b)]=.ret 99 (.bl (isB b d)) []:=by
 rw[run,P.f1];cases d with
 | int i=>by_cases h:0<=i <;> simp[zAP,P.f0,zBY P,zA0,isI,isB,h]
 | _=>simp[zAP,P.f0,zBY P,zA0,isI,isB]
omit P in
noncomputable def rising (xs:List Int):Bool:=(xs.zip (xs.drop 1)).all fun p=>decide (p.1<p.2)
theorem zEv (n k:Nat)(xs:List Int)(hl:xs.length<=SL):run G (n+1) 15 [(k,.lst (xs.map .int))]=.ret 99 (.bl (rising xs)) []:=by
 rw[run,P.f15];have e:(xs.map D.int).zip (xs.map D.int).tail=(xs.zip xs.tail).map fun p=>(.int p.1,.int p.2):=by
  rw[<-List.map_tail,List.zip_map]; rfl
 have c:cutD (xs.map D.int) (some 1) none=(xs.map D.int).drop 1:=zEJ _ 1;have hl2:xs.length<=SL+1:=by omega
 simp[zBh,c,e,List.map_map,hl2];rw[zBg (g:=fun p:Int×Int=>(99,.bl (decide (p.1<p.2))))]
 ·simp[List.map_map,Function.comp_def,rising]
 ·intro x hx;simp[compF]
theorem zDN (n k k':Nat)(xs:List Int)(b:Int)(hl:xs.length<=SL) :
  run G (n+3) 16 [(k,.lst (xs.map .int)),(k',.int b)]=.ret 99 (.bl (decide (xs≠[])&&(xs.all fun i=>decide (0<=i)&&decide (i<b))&&rising xs)) []:=by
 rw[run,P.f16];have c:compD (compF G (run G (n+2)) [none,none,some (.int b)] (.one 1) [] (.call 1 [.var 1,.var 2])) (xs.map .int)=.ok (xs.map fun i=>(99,.bl (decide (0<=i)&&decide (i<b)))):=
  zBg fun i _=>by simp[compF,P.f1,zAP,zBZ P n,isB]
 have q:=zEv P (n+1) 0 xs hl;by_cases hx:xs=[]
 ·subst hx;simp[zAE,D.eq]
 ·by_cases h:(xs.all fun i=>decide (0<=i)&&decide (i<b))=true
  ·simp[zAE,D.eq,hx,hl,c,Function.comp_def,h,P.f15,zBh,q]
  ·have h':(xs.all fun i=>decide (0<=i)&&decide (i<b))=false:=by simpa using h
   simp[zAE,D.eq,hx,hl,c,Function.comp_def,h']
noncomputable def wd (p:Int)(cs:List (List Int)):D:=.ins 17 [(9,.int p),(10,.lst (cs.map fun c=>.tup (c.map .int)))]
noncomputable def cvsD (cs:List (List Int)):D:=.lst (cs.map fun c=>.lst (c.map .int))
noncomputable def good (p:Int)(c:List Int):Bool:=decide (c≠[])&&(c.all fun i=>decide (0<=i)&&decide (i<p))&&rising c
theorem zFK (n k k':Nat)(p:Int)(cs:List (List Int))(hp:1<=p/\p<=6)(hn:cs.length<=6)(hc:∀c∈cs,good p c=true)(hl:∀c∈cs,c.length<=SL) :
  run G (n+4) 18 [(1,.ins 17 []),(k,.int p),(k',cvsD cs)]=.ret 99 .non [(100,wd p cs)]:=by
 rw[run,P.f18];have hw:=zBY P (n+2) 0 (.int p);have hS:cs.length<=SL:=zm9 hn (by decide);have h6:¬((6:Int)<cs.length):=by omega
 have lp:∃A',loopD (foB G (run G (n+3)) [0] (.many [3,4]) [.iff (.op .not [(.call 16 [(.var 4),(.var 1)])]) [.bad] []]) ((cs.map fun c=>D.lst (c.map .int)).mapIdx fun n d=>.tup [.int n,d])
   [some (1,.ins 17 []),some (0,.int p),some (0,cvsD cs),none,none]=.nx A'/\∃a b,A'=[some (1,.ins 17 []),some (0,.int p),some (0,cvsD cs),a,b]:=by
  refine zDU (I:=fun A'=>∃a b,A'=[some (1,.ins 17 []),some (0,.int p),some (0,cvsD cs),a,b]) ⟨_,_,rfl⟩ ?_;rintro x hx A ⟨a,b,hA⟩;obtain⟨i,d,hi,hd⟩:∃(i:Nat) (c:List Int),c∈cs/\x=.tup [.int i,.lst (c.map .int)]:=by
   rw[List.mem_mapIdx] at hx;obtain⟨i,hi,e⟩:=hx;rw[List.getElem_map] at e;exact⟨i,_,List.getElem_mem (by simpa using hi),e.symm⟩
  subst hA hd;have g:=hc d hi;rw[good] at g;have q:=zDN P n 0 0 d p (hl d hi);rw[g] at q;refine⟨_,?_,some (0,.int i),some (0,.lst (d.map .int)),rfl⟩;simp[foB,P.f16,zAE,q]
 obtain⟨A',e,a,b,rfl⟩:=lp;simp only[cvsD] at e;have c:compD (compF G (run G (n+3)) [none,none] (.one 1) [] (.op .tuple [.var 1])) (cs.map fun c=>D.lst (c.map .int))=.ok (cs.map fun c=>(0,.tup (c.map .int))):=
  zBg fun c _=>by simp[compF]
 have j:joinK (cs.map fun c=>((0:Nat),D.tup (c.map .int)))=98:=zBw fun x hx=>by
  obtain⟨c,_,rfl⟩:=zp8 hx;simp
 simp[zAu,P.f0,zA0,hw,isI,hp.1,hp.2,cvsD,hS,h6,e,c,j,wd,addK,okAt,Function.comp_def]
end Ip
end
section
namespace Ip
open PySem (Str)
theorem zGr {d:D}(h:d.scal=true):d.flat=true:=by cases d <;> simp at h ⊢
theorem zKc {d:D}(k:Nat)(h:d.scal=true):d.fb k=true:=by cases d <;> simp at h ⊢ <;> cases k <;> rfl
theorem zEX {ds:List D}(k:Nat)(h:ds.all D.scal=true):D.fb k (.tup ds)=true:=by
 have h':=zp7 h;cases k with
 | zero=>simp only[D.fb,D.flat,zBr,List.all_eq_true]; exact fun d hd=>zGr (h' d hd)
 | succ k=>simp only[D.fb,List.all_eq_true]; exact fun d hd=>zKc k (h' d hd)
theorem RelF.own {A a:Fr}(r:RelF A a){x k:Nat}{d:D}(h:a[x]? = some (some (k+1,d))):∃j,A[x]? = some (some (j+1,d)):=by
 rcases r.get x with ⟨_,e2⟩ | ⟨y,z,e1,e2,q⟩
 ·rw[e2] at h; cases h
 ·rw[e2] at h;cases h;cases y with
  | none=>exact q.elim
  | some y=>
   obtain⟨j,d'⟩:=y;obtain⟨q1,q2⟩:=q;have q1':d'=d:=q1;have q2':k+1<=j:=q2;subst q1';exact⟨j - 1,by rw[e1]; congr 3; omega⟩
section
variable {G:Pg}{cl:Nat->List KD->Run}{io:List Nat}{a:Fr}{ss:List S}{N:Fr->Prop}{V:D->Prop}{X:Nat->List (Nat×D)->Fr->Prop}
theorem Ou.extend {x k j:Nat}{e:Ex}{xs ys:List D}(hx:a[x]? = some (some (k+1,.lst xs)))(he:eval G cl a.sl e=.ok (j,.tup ys))(hs:ys.all D.scal=true)(hl:xs.length+ys.length<=SL)(h:Ou G cl io (a.set x (some (1,.lst (xs++ys)))) ss N V X) :
  Ou G cl io a (.mut x [] .extend [e]::ss) N V X:=
 .step fun A r=>by
  obtain⟨k',hA⟩:=r.own hx;have e1:isLst A[x]? = true:=by rw[hA]; rfl
  have e2:([(j,D.tup ys)]:List KD).all (fun v=>v.2.fb v.1)=true:=by simp only[List.all_cons,List.all_nil,Bool.and_true]; exact zEX j hs
  simp only[zBA,e1,if_true,zAe,zAb,r.sl,he,R.bind,R.toO,mutO,e2,hA,mut0,zCs,hs,hl,and_self];exact⟨_,r.set (.refl _) x,h⟩
end
section
variable {G:Pg}{cl:Nat->List KD->Run}{io:List Nat}{a:Fr}{ss:List S}{N:Fr->Prop}{V:D->Prop}{X:Nat->List (Nat×D)->Fr->Prop}
theorem Ou.append {x k:Nat}{e:Ex}{xs:List D}{v:KD}(hx:(frz e.names a)[x]? = some (some (k+1,.lst xs)))(he:eval G cl a.sl e=.ok v)(hl:xs.length<SL)(h:Ou G cl io ((frz e.names a).set x (some (1,.lst (xs++[v.2])))) ss N V X) :
  Ou G cl io a (.mut x [] .append [e]::ss) N V X:=
 .step fun A r=>by
  obtain⟨k0,h0⟩:=(r.trans (.low e.names a)).own hx;have e1:isLst A[x]? = true:=by rw[h0]; rfl
  have nm:Ex.namess [e]=e.names:=by simp
  have r1:RelF (if ([v]:List KD).all (fun v=>v.2.fb v.1)=true then A else frz (Ex.namess [e]) A) (frz e.names a):=by
   rw[nm];split
   ·exact r.trans (.low e.names a)
   ·exact r.frz
  obtain⟨k1,h1⟩:=r1.own hx;simp only[zBA,e1,if_true,zAe,zAb,r.sl,he,R.bind,R.toO,mutO];generalize (if ([v]:List KD).all (fun v=>v.2.fb v.1)=true then A else frz (Ex.namess [e]) A)=A1 at r1 h1;rw[h1];simp only[mut0,zCt,hl,if_true];exact⟨_,r1.set (x:=some (addK k1 xs v+1,.lst (xs++[v.2]))) (y:=some (1,.lst (xs++[v.2]))) ⟨rfl,by omega⟩ x,h⟩
end
end Ip
end
section
namespace Ip
theorem RelF.of_eq {a b:Fr}(h:a=b):RelF a b:=h ▸ .refl a
section
variable {G:Pg}{cl:Nat->List KD->Run}{io:List Nat}{a:Fr}{ss:List S}{N:Fr->Prop}{V:D->Prop}{X:Nat->List (Nat×D)->Fr->Prop}
theorem zCD:∀(ss ts:List S) (A:Fr),execs G cl io A (ss++ts)=(execs G cl io A ss).seq fun A=>execs G cl io A ts
 | [],ts,A=>by simp[O.seq]
 | s::ss,ts,A=>by
  rw[List.cons_append,zAN,zAN];cases exec G cl io A s with
  | nx A'=>simp only[O.seq]; exact zCD ss ts A'
  | _=>rfl
end
theorem Ou.runE {G:Pg}{n f:Nat}{F:Fn}{vs:List KD}{init:List S}{e:Ex}{P:KD->Prop}(hf:G.fn f=some F)(hn:vs.length=F.np)(hio:F.io=[])(hb:F.body=init++[.ret e])(hv:∀i,e≠.var i)
  (h:Ou G (Ip.run G n) [] (enter F vs) init (fun a=>∃x,eval G (Ip.run G n) a.sl e=.ok x/\P x) (fun _=>False) fun _ _ _=>False):∃x:KD,Ip.run G (n+1) f vs=.ret x.1 x.2 []/\P x:=by
 rw[Ip.run,hf];simp only[hn,if_true,hio];rw[hb,zCD];have:=h _ (.refl _);revert this
 cases execs G (Ip.run G n) [] (enter F vs) init with
 | nx A=>
  rintro⟨a,r,x,h1,h2⟩;refine⟨x,?_,h2⟩;have e2:eval G (Ip.run G n) A.sl e=.ok x:=by rw[r.sl]; exact h1
  simp only[O.seq,zAN,zCh,e2];cases e with
  | var i=>exact absurd rfl (hv i)
  | _=>simp[fin]
 | ret k d A=>exact False.elim
 | exc c fs A=>exact fun⟨_,_,h⟩=>h.elim
 | _=>exact False.elim
end Ip
end
section
namespace Ip
open PySem (Str)
noncomputable def rowD (r:List Nat):D:=.tup (natL r)
noncomputable def wrD (rows:List (List Nat)):D:=.tup (rows.map rowD)
theorem zBp (r:List Nat):(natL r).all D.scal=true:=by simp[natL]
theorem zB1:∀{ns:List Nat},(∀n∈ns,n<6)->natsD (natL ns)=some ns
 | [],_=>rfl
 | n::ns,h=>by
  have h1:=h n zm2;have ih:=zB1 (ns:=ns) fun m hm=>h m (zm1 _ hm);have h2:(0:Int)<=Int.ofNat n/\Int.ofNat n<6:=⟨Int.natCast_nonneg n,by simpa using (show (n:Int)<6 by omega)⟩
  show natsD (.int (Int.ofNat n)::natL ns)=_;simp only[natsD,h2,and_self,if_true,ih,Option.map];rfl
theorem zBc (g:Nat):∀ns:List Nat,D.memb (.int g) (natL ns)=decide (g∈ns)
 | []=>rfl
 | n::ns=>by
  have ih:=zBc g ns;have e:D.memb (.int g) (natL (n::ns))=((D.int (Int.ofNat n)).eq (.int g)||D.memb (.int g) (natL ns)):=rfl;rw[e,ih];simp only[D.eq];by_cases h:g=n
  ·subst h; simp
  ·have:¬(n:Int)=(g:Int):=by omega
   simp[this,h]
theorem zIr {g:Nat}{ns:List Nat}(h:g<6):g∈srtN ns↔g∈ns:=by
 simp[srtN,h]
noncomputable def putR (c:List Int)(g:Nat)(rows:List (List Nat)):List (List Nat):=c.foldl (fun rs i=>rs.set i.toNat (rs.getD i.toNat []++[g])) rows
theorem zHk (k:Nat)(r:List Nat):D.fb k (rowD r)=true:=zEX k (zBp r)
theorem zD3 (r:List Nat):(rowD r).flat=true:=zHk 0 r
theorem zLG {r:List Nat}{g:Nat}(h:r.length<=1000):addD (rowD r) (.tup [.int g])=some (0,rowD (r++[g])):=by
 have:(natL r).length+[D.int g].length<=SL:=by
  have:1001<=SL:=by decide
  simp[natL];omega
 simp only[rowD,addD];rw[if_pos this];simp[natL]
structure Pv (G:Pg):Prop where
 a:Pa G
 f24:G.fn 24=some zA4
section
variable {G:Pg}(P:Pa G)
include P
omit P in
theorem fld10 (p:Int)(cs:List (List Int)):fldD 10 (wd p cs)=some (0,.lst (cs.map fun c=>.tup (c.map .int))):=rfl
theorem m12 (p:Int)(cs:List (List Int)):methF G 12 0 (wd p cs)=some (20,zAq):=by
 simp[methF,wd,P.c17,P.f20,zAq,List.lookup]
theorem m13 (p:Int)(cs:List (List Int)):methF G 13 1 (wd p cs)=some (21,zAj):=by
 simp[methF,wd,P.c17,P.f21,zAj,List.lookup]
theorem zJj (n k:Nat)(p:Int)(cs:List (List Int)):run G (n+1) 20 [(k,wd p cs)]=.ret 99 (.int cs.length) []:=by
 rw[run,P.f20];simp[zAq,fld10]
theorem zKk (n k k':Nat)(p:Int)(cs:List (List Int))(d:D)(h:isB cs.length d=true):run G (n+4) 17 [(k,wd p cs),(k',d)]=.ret 99 .non []:=by
 rw[run,P.f17];have q:=zBZ P (n+1) 0 99 d cs.length;have q2:=zJj P (n+2) 0 p cs;rw[h] at q;simp[zAL,P.f1,zAP,m12 P,zAq,q2,q]
theorem zCd (n k k':Nat)(p:Int)(cs:List (List Int))(j:Nat)(c:List Int)(h:cs[j]? = some c):run G (n+5) 21 [(k,wd p cs),(k',.int j)]=.ret 1 (.lst (c.map .int)) []:=by
 rw[run,P.f21];have hj:j<cs.length:=(zp6 h).1;have hb:isB cs.length (.int j)=true:=by simp[isB,hj]
 have q:=zKk P n 0 0 p cs (.int j) hb;have e:cs[j]=c:=(zp6 h).2;simp[zAj,P.f17,zAL,q,fld10,ixD,hj,e]
end
section
variable {G:Pg}(P:Pv G)
include P
theorem zMc (n k:Nat)(rows:List (List Nat))(h1:rows.length<=6)(h2:rows.flatten.length<=1000)(h3:∀g∈rows.flatten,g<6):∃j,run G (n+1) 24 [(k,wrD rows)]=.ret j (.lst (natL (srtN rows.flatten))) []:=by
 have hs:rows.length<=SL:=zm9 h1 (by decide);have key:Ou G (run G n) [] [some (0,wrD rows),none,none] zA4.body (fun _=>False) (fun d=>d=.lst (natL (srtN rows.flatten))) fun _ _ _=>False:=by
  refine Ou.setK (x:=(99,.lst [])) (by simp) (by simp) ?_;refine Ou.low (a':=[some (0,wrD rows),some (1,.lst []),none]) (.cons (.refl _) (.cons ⟨rfl,by decide⟩ (.cons trivial .nil))) ?_;refine Ou.fo (fun r a=>∃(x:Option KD) (fl:List Nat) (suf:List (List Nat)),a=[some (0,wrD rows),some (1,.lst (natL fl)),x]/\r=suf.map rowD/\fl++suf.flatten=rows.flatten) (vs:=[(0,wrD rows)]) (xs:=rows.map rowD) (by simp) (by simp[wrD]) (by simpa using hs) ?_ ?_ ?_
  ·exact⟨none,[],rows,by simp[natL],rfl,rfl⟩
  ·rintro x r a ⟨y,fl,suf,ha,hr,he⟩;cases suf with
   | nil=>simp at hr
   | cons s suf=>
    simp only[List.map_cons,List.cons.injEq] at hr;obtain⟨rfl,rfl⟩:=hr;subst ha;refine⟨_,zAt rfl,?_⟩;refine Ou.extend (k:=0) (j:=0) (xs:=natL fl) (ys:=natL s) (by simp) (by simp[rowD]) (zBp s) ?_ ?_
    ·have e2:rows.flatten.length=fl.length+(s.length+suf.flatten.length):=by rw[<-he]; simp
     have:1000<=SL:=by decide
     simp only[natL,List.length_map];omega
    ·exact Ou.nil ⟨some (0,rowD s),fl++s,suf,by simp[natL],rfl,by simpa using he⟩
  ·rintro a ⟨y,fl,suf,ha,hr,he⟩;have:suf=[]:=by simpa using hr.symm
   subst this ha;simp only[List.flatten_nil,List.append_nil] at he;rw[<-he] at h3 ⊢;exact Ou.ret (x:=(1,.lst (natL (srtN fl)))) (by simp[zB1 h3]) rfl
 obtain⟨j,d,e,rfl⟩:=Ou.run (n:=n) (vs:=[(k,wrD rows)]) (V:=fun d=>d=.lst (natL (srtN rows.flatten))) P.f24 rfl rfl (key.mono (fun _ h=>h.elim) (fun _ h=>h) fun _ _ _ h=>h);exact⟨j,e⟩
end
noncomputable def modR (f:List Nat->List Nat)(c:List Int)(rows:List (List Nat)):List (List Nat):=c.foldl (fun rs i=>rs.set i.toNat (f (rs.getD i.toNat []))) rows
theorem zE4 (c:List Int)(g:Nat)(rows:List (List Nat)):putR c g rows=modR (fun r=>r++[g]) c rows:=rfl
theorem zDj (f:List Nat->List Nat):∀(c:List Int) (rows:List (List Nat)),c.Nodup->(∀i∈c,0<=i/\i<rows.length)->∀j:Nat,(modR f c rows)[j]? = rows[j]?.map fun r=>if (j:Int)∈c then f r else r
 | [],rows,_,_,j=>by simp[modR]
 | i::c,rows,hn,hi,j=>by
  obtain⟨h1,h2⟩:=List.nodup_cons.mp hn;have hi0:=hi i zm2;have ih:=zDj f c (rows.set i.toNat (f (rows.getD i.toNat []))) h2 (fun x hx=>by simpa using hi x (zm1 _ hx)) j;show (modR f c (rows.set i.toNat (f (rows.getD i.toNat []))))[j]? = _;rw[ih,List.getElem?_set];by_cases e:i.toNat=j
  ·have e':i=(j:Int):=by omega
   have hj:j<rows.length:=by omega
   subst e';simp[hj,h1]
  ·have e':¬(j:Int)=i:=by omega
   simp[e,e']
theorem zKX {f:List Nat->List Nat}{c:List Int}{rows:List (List Nat)}(hn:c.Nodup)(hi:∀i∈c,0<=i/\i<rows.length):modR f c rows=rows.mapIdx fun j r=>if (j:Int)∈c then f r else r:=by
 refine List.ext_getElem? fun j=>?_;rw[zDj f c rows hn hi j,List.getElem?_mapIdx]
theorem zHu {α:Type}(xs:List α):cutD xs none (some (-1))=xs.dropLast:=by
 rw[List.dropLast_eq_take];simp only[cutD,sIxD];simp;congr 1
 omega
theorem zAG (r:List Nat):(natL r).length=r.length:=by simp[natL]
theorem zG1 (r:List Nat):(natL r).dropLast=natL r.dropLast:=by simp[natL]
structure Pd (G:Pg):Prop where
 f98:G.fn 98=some zAp
 f71:G.fn 71=some zAA
 f99:G.fn 99=some zAW
theorem zDJ:∀{xs:List Int},xs.Pairwise (· < ·)->rising xs=true
 | [],_=>rfl
 | [x],_=>rfl
 | x::y::r,h=>by
  have ih:=zDJ (List.Pairwise.tail h);have hxy:x<y:=by cases h with | cons h _=>exact h y zm2
  unfold rising at ih ⊢;simp at ih ⊢;exact⟨hxy,ih⟩
structure OkC (p:Nat)(c:List Int):Prop where
 gd:good p c=true
 ne:c≠[]
 rg:∀i∈c,0<=i/\i<p
 nd:c.Nodup
 ln:c.length<=6
theorem zJw {p:Nat}{ns:List Nat}(hp:p<=6)(h1:ns.Pairwise (· < ·))(h2:∀n∈ns,n<p)(h3:ns≠[]):OkC p (ns.map fun (n:Nat)=>(n:Int)):=by
 have pw:(ns.map fun (n:Nat)=>(n:Int)).Pairwise (· < ·):=List.Pairwise.map _ (fun a b h=>by simpa using h) h1;have rg:∀i∈ns.map fun (n:Nat)=>(n:Int),0<=i/\i<p:=fun i hi=>by
  obtain⟨n,hn,rfl⟩:=zp8 hi;have:=h2 n hn;omega
 have ne:ns.map (fun (n:Nat)=>(n:Int))≠[]:=by simpa using h3
 have ln:∀(ns:List Nat) (lo:Nat),ns.Pairwise (· < ·)->(∀n∈ns,lo<=n/\n<p)->lo+ns.length<=p\/ns=[]:=by
  intro ns;induction ns with
  | nil=>intro _ _ _; exact .inr rfl
  | cons x r ih=>
   intro lo hp' hr;obtain⟨q1,q2⟩:=List.pairwise_cons.mp hp';have hx:=hr x zm2;rcases ih (x+1) q2 (fun n hn=>⟨q1 n hn,(hr n (zm1 _ hn)).2⟩) with h | h
   ·simp only[List.length_cons]; omega
   ·subst h; simp; omega
 refine⟨?_,ne,rg,pw.imp fun h=>by omega,?_⟩
 ·simp only[good,Bool.and_eq_true,decide_eq_true_eq,List.all_eq_true];exact⟨⟨ne,rg⟩,zDJ pw⟩
 ·rcases ln ns 0 h1 (fun n hn=>⟨Nat.zero_le _,h2 n hn⟩) with h | h
  ·simp; omega
  ·exact absurd h h3
variable {G:Pg}(P:Pd G)
include P
theorem zDM (n k k':Nat)(ns:List Int)(j:Nat):∃d,run G (n+1) 98 [(k,.lst (ns.map .int)),(k',.int j)]=.ret d (.int (ns.getD j 0)) []:=by
 rw[run,P.f98];by_cases h:j<ns.length
 ·have h':(j:Int)<ns.length:=by omega
  exact⟨0,by simp[zAp,h',ixD,h]⟩
 ·have h':¬(j:Int)<ns.length:=by omega
  have e:ns[j]? = none:=List.getElem?_eq_none (by omega);exact⟨99,by simp[zAp,h',e]⟩
theorem zDL (n k k' k'':Nat)(c s m:Int)(hm:0<m)(hs:0<=s/\s<=1000):∃v j,run G (n+1) 71 [(k,.int c),(k',.int s),(k'',.int m)]=.ret j (.int v) []/\0<=v/\v<m:=by
 have b10:inI 10=true:=zAC.mpr (by decide);have b31:inI 31=true:=zAC.mpr (by decide);have b977:inI 977=true:=zAC.mpr (by decide);have b65:inI 65537=true:=zAC.mpr (by decide);have fin:∀x:Int,0<=x % m/\x % m<m:=fun x=>⟨Int.emod_nonneg _ (by omega),Int.emod_lt_of_pos _ hm⟩
 have key:Ou G (run G n) [] [some (0,.int c),some (0,.int s),some (0,.int m),none,none,none] zAA.body (fun _=>False) (fun d=>∃v,d=.int v/\0<=v/\v<m) fun _ _ _=>False:=by
  by_cases h:c > 1000000000
  ·refine Ou.iffT (j:=99) (by simp[b10]; omega) ?_;refine Ou.set (x:=(99,.int (c / 1000))) rfl ?_;have hk:0<=s % 9/\s % 9<9:=⟨Int.emod_nonneg _ (by decide),Int.emod_lt_of_pos _ (by decide)⟩
   obtain⟨q,eq⟩:∃q:Nat,s % 9=(q:Int):=⟨(s % 9).toNat,by omega⟩
   have hq:q<=SL:=by
    have:9<=SL:=by decide
    omega
   refine Ou.fo (fun r a=>∃(x4:Option KD) (y:Int),a=[some (0,.int c),some (0,.int s),some (0,.int m),some (0,.int y),x4,none]) (vs:=[(99,.int (q:Int))]) (xs:=(List.range q).map fun (n:Nat)=>D.int n) (by simp[eq]) (wk_rng1 hq) (by simpa using hq) ⟨none,c / 1000,by simp⟩ ?_ ?_
   ·rintro x r a ⟨x4,y,ha⟩;subst ha;refine⟨_,zAt rfl,?_⟩;refine Ou.set (x:=(99,.int (y / 1000))) rfl ?_;exact Ou.nil ⟨some (0,x),y / 1000,by simp⟩
   ·rintro a ⟨x4,y,ha⟩;subst ha;exact Ou.ret (x:=(99,.int (y % 1000 % m))) (by simp[hm]) ⟨_,rfl,fin _⟩
  ·refine Ou.iffN (j:=99) (by simp[b10]; omega) ?_;refine Ou.set (x:=(99,.int (c % 1000003+31 * s+1))) (by simp[b31]) ?_;have hx:inI (c % 1000003+31 * s+1)=true:=zAC.mpr (by omega);generalize c % 1000003+31 * s+1=x at hx;exact Ou.ret (x:=(99,.int ((x * x+65537 * x+977 * s) % 999983 / 3 % m))) (by simp[hx,b65,b977,hm]) ⟨_,rfl,fin _⟩
 obtain⟨j,d,e,v,rfl,h1,h2⟩:=Ou.run (n:=n) (vs:=[(k,.int c),(k',.int s),(k'',.int m)]) (V:=fun d=>∃v,d=.int v/\0<=v/\v<m) P.f71 rfl rfl (key.mono (fun _ h=>h.elim) (fun _ h=>h) fun _ _ _ h=>h);exact⟨v,j,e,h1,h2⟩
end Ip
end
section
namespace Ip
open PySem (Str)
noncomputable def fullM (p:Nat):Int:=([1,3,7,15,31,63]:List Int).getD (p - 1) 1
noncomputable def bitsF (v:Int)(p:Nat):List Nat:=(List.range p).filter fun n=>decide (v / (([1,2,4,8,16,32]:List Int).getD n 1) % 2=1)
theorem zI4:∀p:Fin 7,∀v:Fin 64,1<=p.1->1<=v.1->(v.1:Int)<=fullM p.1->bitsF (v.1:Int) p.1≠[]:=by decide +kernel
theorem zLd:∀p:Fin 7,fullM p.1<=63:=by decide +kernel
theorem zLC {v:Int}{p:Nat}(hp:1<=p/\p<=6)(hv:1<=v/\v<=fullM p):bitsF v p≠[]:=by
 have hf:=zLd ⟨p,by omega⟩;obtain⟨u,rfl⟩:∃u:Nat,v=(u:Int):=⟨v.toNat,by omega⟩
 exact zI4 ⟨p,by omega⟩ ⟨u,by dsimp only at hf; omega⟩ hp.1 (by dsimp only; omega) hv.2
theorem ixB {i:Nat}(h:i<6):∃y:Int,([1,2,4,8,16,32]:List Int).getD i 1=y/\0<y/\y<1000000000000000000000000000000000000000000000000/\ixOp (.lst [.int 1,.int 2,.int 4,.int 8,.int 16,.int 32]) (.int (i:Nat))=some (0,.int y):=by
 have hq:i=0\/i=1\/i=2\/i=3\/i=4\/i=5:=by omega
 rcases hq with rfl | rfl | rfl | rfl | rfl | rfl <;> exact⟨_,rfl,by decide,by decide,rfl⟩
theorem zLB {v:Int}{p:Nat}(hp:1<=p/\p<=6)(hv:1<=v/\v<=fullM p):OkC p ((bitsF v p).map fun (n:Nat)=>(n:Int)):=by
 refine zJw hp.2 (List.pairwise_lt_range.filter _) (fun n hn=>?_) (zLC hp hv);exact List.mem_range.mp (List.mem_filter.mp hn).1
theorem ixM {p:Nat}(hp:1<=p/\p<=6):ixOp (.lst [.int 1,.int 3,.int 7,.int 15,.int 31,.int 63]) (.int ((p:Int) - 1))=some (0,.int (fullM p)):=by
 have hq:p=1\/p=2\/p=3\/p=4\/p=5\/p=6:=by omega
 rcases hq with rfl | rfl | rfl | rfl | rfl | rfl <;> simp[ixOp,ixD,fullM]
theorem zHh (p:Nat):0<fullM p:=by
 unfold fullM;by_cases h:p - 1<6
 ·have hq:p - 1=0\/p - 1=1\/p - 1=2\/p - 1=3\/p - 1=4\/p - 1=5:=by omega
  rcases hq with e | e | e | e | e | e <;> rw[e] <;> decide
 ·have:([1,3,7,15,31,63]:List Int)[p - 1]? = none:=List.getElem?_eq_none (by simpa using by omega);simp[this]
theorem zIU {α:Type}{xs:List α}{v:Nat}(h:v<xs.length):cutD (cutD xs (some (v:Int)) none) none (some 1)=[xs[v]]:=by
 have e:=zDw (xs.drop v) 1;rw[zEJ];simp only[Int.natCast_one] at e;rw[e,List.drop_eq_getElem_cons h,List.take_succ_cons,List.take_zero]
theorem zKU {p:Nat}{c:List Int}(hp:p<=6)(h:OkC p c){i:Int}(hi:i∈c):OkC p [i]:=by
 have h1:=h.rg i hi;have:=zJw (p:=p) (ns:=[i.toNat]) hp (by simp) (fun n hn=>by simp at hn; omega) (by simp);simp only[List.map_cons,List.map_nil] at this
 rwa [Int.toNat_of_nonneg h1.1] at this
variable {G:Pg}(P:Pd G)
include P
set_option maxHeartbeats 600000 in
theorem zEu (n k k':Nat)(ns:List Int)(p:Nat)(hp:1<=p/\p<=6):∃j cs,run G (n+2) 99 [(k,.lst (ns.map .int)),(k',.int p)]=.ret j (cvsD cs) []/\cs.length<=6/\∀c∈cs,OkC p c:=by
 obtain⟨d1,q1⟩:=zDM P n 0 99 ns 1;have hq0:0<=ns.getD 1 0 % 7/\ns.getD 1 0 % 7<7:=⟨Int.emod_nonneg _ (by decide),Int.emod_lt_of_pos _ (by decide)⟩
 obtain⟨q,eq⟩:∃q:Nat,ns.getD 1 0 % 7=(q:Int):=⟨(ns.getD 1 0 % 7).toNat,by omega⟩
 have hq:q<=6:=by omega
 have hS:q<=SL:=zm9 hq (by decide);have hpS:p<=SL:=zm9 hp.2 (by decide);have i2:inI 2=true:=zAC.mpr (by decide);have key:Ou G (run G (n+1)) [] [some (0,.lst (ns.map .int)),some (0,.int p),none,none,none,none,none] zAW.body (fun _=>False) (fun d=>∃cs,d=cvsD cs/\cs.length<=6/\∀c∈cs,OkC p c) fun _ _ _=>False:=by
  refine Ou.setK (x:=(99,.lst [])) (by simp) (by simp) ?_;refine Ou.low (a':=[some (0,.lst (ns.map .int)),some (0,.int p),some (1,.lst []),none,none,none,none]) (.cons (.refl _) (.cons (.refl _) (.cons ⟨rfl,by decide⟩ (.refl _)))) ?_;refine Ou.fo (fun r a=>∃(x3 x4 x5 x6:Option KD) (cs:List (List Int)) (suf:List Nat),a=[some (0,.lst (ns.map .int)),some (0,.int p),some (1,cvsD cs),x3,x4,x5,x6]/\r=suf.map (fun (n:Nat)=>D.int n)/\cs.length+suf.length<=6/\∀c∈cs,OkC p c) (vs:=[(99,.int (q:Int))]) (xs:=(List.range q).map fun (n:Nat)=>D.int n) ?_ (wk_rng1 hS) (by simpa using hS) ?_ ?_ ?_
  ·simp at q1 eq;simp[P.f98,zAp,q1,eq]
  ·exact⟨none,none,none,none,[],List.range q,by simp[cvsD],rfl,by simpa using hq,by simp⟩
  ·rintro x r a ⟨x3,x4,x5,x6,cs,suf,ha,hr,hl,hok⟩;cases suf with
   | nil=>simp at hr
   | cons s suf=>
    simp only[List.map_cons,List.cons.injEq] at hr;obtain⟨rfl,rfl⟩:=hr;subst ha;simp only[List.length_cons] at hl;refine⟨_,zAt rfl,?_⟩;obtain⟨d2,q2⟩:=zDM P n 0 99 ns (2+s);have e2:((2+s:Nat):Int)=2+(s:Int):=by omega
    rw[e2] at q2;generalize ns.getD (2+s) 0=c at q2;refine Ou.set (x:=(d2,.int c)) (by simp[P.f98,zAp,q2]) ?_;obtain⟨v,j3,q3,hv0,hv1⟩:=zDL P n 0 99 0 c 1 (fullM p) (zHh p) (by decide);have im:=ixM hp;refine Ou.set (x:=(99,.int (1+v))) (by simp[-ixOp,im,P.f71,zAA,q3]) ?_;have ok:=zLB (v:=1+v) hp (by omega);have eF:bitsF (1+v) p=(List.range p).filter fun n=>decide ((1+v) / (([1,2,4,8,16,32]:List Int).getD n 1) % 2=1):=rfl;generalize bitsF (1+v) p=F at ok eF;have cc:compD (compF G (run G (n+1)) [none,none,some (.int (1+v))] (.one 1) [(.op .eq [(.op .mod [(.op .fdiv [(.var 2),(.op .ix [(.op .lst [(.cst (.int (1))),(.cst (.int (2))),(.cst (.int (4))),(.cst (.int (8))),(.cst (.int (16))),(.cst (.int (32)))]),(.var 1)])]),(.cst (.int (2)))]),(.cst (.int (1)))])] (.var 1)) ((List.range p).map fun (n:Nat)=>D.int n)=.ok (F.map fun (n:Nat)=>((0:Nat),D.int n)):=by
     rw[eF];refine zBU fun i hi=>?_;obtain⟨y,ey,hy,h3,ix⟩:=ixB (i:=i) (by have:=List.mem_range.mp hi; omega);rw[ey];have hy':¬y=0:=by omega
     simp[-ixOp,compF,ix,D.eq,hy,hy',h3]; split <;> rfl
    have hj:joinK (F.map fun (n:Nat)=>((0:Nat),D.int n))=98:=zBw fun x hx=>by
     obtain⟨c,_,rfl⟩:=zp8 hx;simp
    clear eF;refine Ou.set (x:=(99,.lst (F.map fun (n:Nat)=>D.int n))) (by simp[wk_rng1 hpS,hpS,cc,hj,Function.comp_def]) ?_;obtain⟨c1,ec,oc⟩:∃c1:List Int,F.map (fun (n:Nat)=>D.int n)=c1.map .int/\OkC p c1:=⟨F.map fun (n:Nat)=>(n:Int),by simp,ok⟩
    rw[ec];clear ec cc hj ok;have fin:∀(c2:List Int) (a:Fr),a=[some (0,.lst (ns.map .int)),some (0,.int p),some (1,cvsD cs),some (0,.int s),some (0,.int c),some (0,.int (1+v)),some (0,.lst (c2.map .int))]->OkC p c2->Ou G (run G (n+1)) [] a [.mut 2 [] .append [(.var 6)]] (fun a=>∃(x3 x4 x5 x6:Option KD) (cs:List (List Int)) (suf':List Nat),a=[some (0,.lst (ns.map .int)),some (0,.int p),some (1,cvsD cs),x3,x4,x5,x6]/\suf.map (fun (n:Nat)=>D.int n)=suf'.map (fun (n:Nat)=>D.int n)/\cs.length+suf'.length<=6/\∀c∈cs,OkC p c) (fun d=>∃cs,d=cvsD cs/\cs.length<=6/\∀c∈cs,OkC p c) fun _ _ _=>False:=by
     intro c2 a ea o2;subst ea;have hl6:cs.length<SL:=by
      have:7<=SL:=by decide
      omega
     refine Ou.append (k:=0) (xs:=cs.map fun c=>.lst (c.map .int)) (v:=(0,.lst (c2.map .int))) (by simp[cvsD,frz,frz1]) (by simp) (by simpa using hl6) ?_;refine Ou.nil ⟨some (0,.int s),some (0,.int c),some (0,.int (1+v)),some (0,.lst (c2.map .int)),cs++[c2],suf,by simp[cvsD,frz,frz1],rfl,by simp; omega,?_⟩;intro c hc;rcases zp3 hc with h | h
     ·exact hok c h
     ·rw[List.mem_singleton.mp h]; exact o2
    obtain⟨v4,j4,q4,h40,h41⟩:=zDL P n 0 99 99 c 2 2 (by decide) (by decide);by_cases h:v4=1
    ·subst h;have hlen:(0:Int)<c1.length:=by
      have:=oc.ne;have:=List.length_pos_iff.mpr this;omega
     obtain⟨v5,j5,q5,h50,h51⟩:=zDL P n 0 99 99 c 3 c1.length hlen (by decide);obtain⟨u,rfl⟩:∃u:Nat,v5=(u:Int):=⟨v5.toNat,by omega⟩
     have hu:u<c1.length:=by omega
     have ct:=zIU (xs:=c1.map D.int) (v:=u) (by simpa using hu);refine Ou.iffT (j:=99) (by simp[P.f71,zAA,q4,D.eq]) ?_;refine Ou.set (x:=(1,.lst ([c1[u]].map .int))) (by simp[P.f71,zAA,q5,ct]) ?_;refine Ou.nil ?_;exact fin _ _ (by simp) (zKU hp.2 oc (List.getElem_mem hu))
    ·refine Ou.iffN (j:=99) (by simp[P.f71,zAA,q4,D.eq,h]) ?_;exact fin _ _ (by simp) oc
  ·rintro a ⟨x3,x4,x5,x6,cs,suf,ha,hr,hl,hok⟩;subst ha;exact Ou.ret (x:=(0,cvsD cs)) (by simp) ⟨cs,rfl,by omega,hok⟩
 obtain⟨j,d,e,cs,rfl,h1,h2⟩:=Ou.run (n:=n+1) (vs:=[(k,.lst (ns.map .int)),(k',.int p)]) (V:=fun d=>∃cs,d=cvsD cs/\cs.length<=6/\∀c∈cs,OkC p c) P.f99 rfl rfl (key.mono (fun _ h=>h.elim) (fun _ h=>h) fun _ _ _ h=>h);exact⟨j,cs,e,h1,h2⟩
end Ip
end
section
namespace Ip
noncomputable def covA (cs:List (List Int))(g:Nat):List Int:=cs.getD g []
noncomputable def fil (cs:List (List Int))(j:Nat)(gs:List Nat):List Nat:=gs.filter fun g=>decide ((j:Int)∈covA cs g)
theorem zA2 (cs:List (List Int))(j:Nat)(A B:List Nat):fil cs j (A++B)=fil cs j A++fil cs j B:=by simp[fil]
theorem zAT (cs:List (List Int))(j g:Nat)(B:List Nat):fil cs j (g::B)=if (j:Int)∈covA cs g then g::fil cs j B else fil cs j B:=by
 unfold fil;rw[List.filter_cons];by_cases h:(j:Int)∈covA cs g <;> simp[h]
noncomputable def rowsF (cs:List (List Int))(p:Nat)(gs:List Nat):List (List Nat):=(List.range p).map fun j=>fil cs j gs
theorem zBv (cs:List (List Int))(p:Nat)(gs:List Nat):(rowsF cs p gs).length=p:=by simp[rowsF]
structure Cv (p:Nat)(cs:List (List Int)):Prop where
 p1:1<=p
 p6:p<=6
 m6:cs.length<=6
 ne:∀g,g<cs.length->covA cs g≠[]
 rg:∀g,∀i∈covA cs g,0<=i/\i<p
 nd:∀g,(covA cs g).Nodup
 ln:∀g,(covA cs g).length<=6
structure Wn (cs:List (List Int))(gs:List Nat):Prop where
 nd:gs.Nodup
 lt:∀g∈gs,g<cs.length
theorem len6 {gs:List Nat}{m:Nat}(h1:gs.Nodup)(h2:∀g∈gs,g<m):gs.length<=m:=by
 induction m generalizing gs with
 | zero=>
  cases gs with
  | nil=>exact zm8 _
  | cons x r=>exact absurd (h2 x zm2) (by omega)
 | succ m ih=>
  have:=ih (h1.erase m) fun x hx=>by
   have:=(h1.mem_erase_iff).mp hx;have:=h2 x this.2;omega
  rw[List.length_erase] at this;split at this <;> omega
theorem Wn.len {p:Nat}{cs:List (List Int)}{gs:List Nat}(C:Cv p cs)(w:Wn cs gs):gs.length<=6:=zm9 (len6 w.nd w.lt) C.m6
theorem zBl {cs:List (List Int)}{p:Nat}{gs:List Nat}{g:Nat}(h:g∈(rowsF cs p gs).flatten):g∈gs:=by
 obtain⟨r,hr,hg⟩:=List.mem_flatten.mp h;obtain⟨j,_,rfl⟩:=zp8 hr;exact (List.mem_filter.mp hg).1
theorem zHU {p:Nat}{cs:List (List Int)}{gs:List Nat}{g:Nat}(C:Cv p cs)(w:Wn cs gs)(h:g∈gs):g∈(rowsF cs p gs).flatten:=by
 cases e:covA cs g with
 | nil=>exact absurd e (C.ne g (w.lt g h))
 | cons i c=>
  have hi:i∈covA cs g:=by rw[e]; exact zm2
  have rg:=C.rg g i hi;refine List.mem_flatten.mpr ⟨fil cs i.toNat gs,List.mem_map.mpr ⟨i.toNat,List.mem_range.mpr (by omega),rfl⟩,List.mem_filter.mpr ⟨h,decide_eq_true ?_⟩⟩;rw[Int.toNat_of_nonneg rg.1]; exact hi
theorem zDI {cs:List (List Int)}{gs:List Nat}:∀p:Nat,(rowsF cs p gs).flatten.length<=p * gs.length:=fun p=>by
 have:∀l:List Nat,(l.map fun j=>fil cs j gs).flatten.length<=l.length * gs.length:=by
  intro l;induction l with
  | nil=>simp
  | cons x l ih=>
   have h1:(fil cs x gs).length<=gs.length:=List.length_filter_le _ _;rw[List.map_cons,List.flatten_cons,List.length_append,List.length_cons,Nat.add_mul,Nat.one_mul];omega
 simpa[rowsF] using this (List.range p)
theorem zFe {cs:List (List Int)}{p g:Nat}{gs gs':List Nat}{f:List Nat->List Nat}(C:Cv p cs)(h1:∀j:Nat,(j:Int)∈covA cs g->f (fil cs j gs)=fil cs j gs')(h2:∀j:Nat,(j:Int)∉covA cs g->fil cs j gs=fil cs j gs'):modR f (covA cs g) (rowsF cs p gs)=rowsF cs p gs':=by
 rw[zKX (C.nd g) fun i hi=>by rw[zBv]; exact C.rg g i hi];refine List.ext_getElem? fun j=>?_;rw[List.getElem?_mapIdx];unfold rowsF;rw[List.getElem?_map,List.getElem?_map];by_cases hj:j<p
 ·rw[List.getElem?_range hj];simp only[Option.map_some];by_cases h:(j:Int)∈covA cs g
  ·rw[if_pos h,h1 j h]
  ·rw[if_neg h,h2 j h]
 ·rw[List.getElem?_eq_none (by simp; omega)];rfl
theorem zH0 {cs:List (List Int)}{p g:Nat}{gs:List Nat}(C:Cv p cs):putR (covA cs g) g (rowsF cs p gs)=rowsF cs p (gs++[g]):=by
 rw[zE4];refine zFe C (fun j hj=>?_) fun j hj=>?_
 ·rw[zA2,zAT,if_pos hj]; rfl
 ·rw[zA2,zAT,if_neg hj]; exact (List.append_nil _).symm
noncomputable def nxtO (l:List Nat)(g:Nat):List Nat:=(l.drop (l.idxOf g+1)).take 1
noncomputable def ovF (cs:List (List Int))(gs:List Nat)(g:Nat)(i:Int):List Nat:=nxtO (fil cs i.toNat gs) g
noncomputable def ovr (cs:List (List Int))(gs:List Nat)(g:Nat):List Nat:=((covA cs g).map (ovF cs gs g)).flatten
theorem zB3 {g:Nat}{A B:List Nat}(h:g∉A):(A++g::B).idxOf g=A.length:=by
 rw[List.idxOf_append,if_neg h,List.idxOf_cons_self,Nat.zero_add]
theorem zFa {g:Nat}{A B:List Nat}(h:g∉A):nxtO (A++g::B) g=B.take 1:=by
 unfold nxtO;rw[zB3 h];have:A++g::B=(A++[g])++B:=by simp
 rw[this,show A.length+1=(A++[g]).length by simp,List.drop_left]
theorem zJZ {cs:List (List Int)}{gs:List Nat}{g j:Nat}(w:gs.Nodup)(hg:g∈gs)(ho:ovr cs gs g=[])(hj:(j:Int)∈covA cs g):∃r,fil cs j gs=r++[g]/\g∉r:=by
 have hgf:g∈fil cs j gs:=List.mem_filter.mpr ⟨hg,decide_eq_true hj⟩;obtain⟨A,B,e⟩:=List.append_of_mem hgf;have nd:(fil cs j gs).Nodup:=w.filter _;rw[e] at nd;have hA:g∉A:=fun z=>(List.nodup_append.mp nd).2.2 g z g (by simp) rfl;have hn:ovF cs gs g (j:Int)=[]:=by
  have:=List.flatten_eq_nil_iff.mp ho (ovF cs gs g (j:Int)) (List.mem_map.mpr ⟨_,hj,rfl⟩);exact this
 unfold ovF at hn;rw[Int.toNat_natCast,e,zFa hA] at hn;cases B with
 | nil=>exact⟨A,e,hA⟩
 | cons b B=>cases hn
theorem zLT {cs:List (List Int)}{gs:List Nat}{g:Nat}(hc:∀i∈covA cs g,0<=i)(w:gs.Nodup)(h:∀j:Nat,(j:Int)∈covA cs g->∃r,fil cs j gs=r++[g]):ovr cs gs g=[]:=by
 refine List.flatten_eq_nil_iff.mpr fun l hl=>?_;obtain⟨i,hi,rfl⟩:=zp8 hl;have h0:=hc i hi;obtain⟨j,rfl⟩:∃j:Nat,i=(j:Int):=⟨i.toNat,by omega⟩
 obtain⟨r,e⟩:=h j hi;unfold ovF;rw[Int.toNat_natCast,e];have nd:(fil cs j gs).Nodup:=w.filter _;rw[e] at nd;exact zFa fun z=>(List.nodup_append.mp nd).2.2 g z g (by simp) rfl
noncomputable def rmv (g:Nat)(gs:List Nat):List Nat:=gs.filter fun x=>decide (x≠g)
theorem zIm {cs:List (List Int)}{p g:Nat}{gs:List Nat}(C:Cv p cs)(w:gs.Nodup)(hg:g∈gs)(ho:ovr cs gs g=[]):modR List.dropLast (covA cs g) (rowsF cs p gs)=rowsF cs p (rmv g gs):=by
 have sw:∀j,fil cs j (rmv g gs)=(fil cs j gs).filter fun x=>decide (x≠g):=fun j=>by unfold fil rmv; rw[List.filter_filter,List.filter_filter]; congr 1; funext x; rw[Bool.and_comm]
 refine zFe C (fun j hj=>?_) fun j hj=>?_
 ·obtain⟨r,e,hr⟩:=zJZ w hg ho hj;rw[sw,e,List.dropLast_concat,List.filter_append];have f1:r.filter (fun x=>decide (x≠g))=r:=List.filter_eq_self.mpr fun x hx=>decide_eq_true fun e=>hr (e ▸ hx);rw[f1]; simp
 ·rw[sw];refine (List.filter_eq_self.mpr fun x hx=>?_).symm;have hxc:(j:Int)∈covA cs x:=of_decide_eq_true (List.mem_filter.mp hx).2;have:x≠g:=fun e=>hj (e ▸ hxc);simpa using this
theorem cut1 {α:Type}(xs:List α)(a:Nat)(h:a<=xs.length):cutD xs (some (a:Int)) (some ((a:Int)+1))=(xs.drop a).take 1:=by
 have s1:sIxD xs.length 0 (some (a:Int))=a:=by
  simp only[sIxD]; rw[if_pos (by omega)]; omega
 have s2:sIxD xs.length xs.length (some ((a:Int)+1))=min (a+1) xs.length:=by
  simp only[sIxD]; rw[if_pos (by omega)]; omega
 unfold cutD;rw[s1,s2];by_cases e:a=xs.length
 ·subst e; simp
 ·rw[show min (a+1) xs.length - a=1 by omega]
theorem zCg {g:Nat}:∀{os:List Nat},g∈os->D.find (.int g) (natL os)=some (os.idxOf g)
 | [],h=>by cases h
 | x::os,h=>by
  have e0:D.find (.int g) (natL (x::os))=if (D.int (Int.ofNat x)).eq (.int g) then some 0 else (D.find (.int g) (natL os)).map (·+1):=by
   unfold D.find natL;rw[List.map_cons,List.findIdx?_cons]
  rw[e0];by_cases hx:x=g
  ·subst hx;simp[D.eq]
  ·have h1:¬(x:Int)=(g:Int):=by omega
   have h2:=zCg (os:=os) ((zp1 h).resolve_left fun e=>hx e.symm);have h3:(x == g)=false:=beq_eq_false_iff_ne.mpr hx;rw[h2,List.idxOf_cons,h3];simp[D.eq,h1]
theorem zB2 {cs:List (List Int)}{p j:Nat}{O:List Nat}(h:j<p):ixOp (wrD (rowsF cs p O)) (.int (j:Nat))=some (0,rowD (fil cs j O)):=by
 have h':(j:Int)<p:=by omega
 simp[wrD,ixOp,ixD,rowsF,h',h]
theorem Cv.at {cs:List (List Int)}{g:Nat}(h:g<cs.length):cs[g]? = some (covA cs g):=by simp[covA,h]
end Ip
end
section
namespace Ip
open PySem (Str)
section
variable {G:Pg}{cl:Nat->List KD->Run}{io:List Nat}{a:Fr}{ss:List S}{N:Fr->Prop}{V:D->Prop}{X:Nat->List (Nat×D)->Fr->Prop}
theorem Ou.setD {i j:Nat}{e:Ex}{x:KD}(h:eval G cl a.sl e=.ok x)(hj:j<=x.1)(k:Ou G cl io ((frz e.names a).set i (some (j,x.2))) ss N V X)(hi:(!io.contains i&&Nat.blt i a.length)=true:=by rfl):Ou G cl io a (.set i e::ss) N V X:=
 .step fun A r=>by
  obtain⟨hio,hi⟩:=okI hi;have l:(settle e.names A x).length=a.length:=by
   rw[<-r.len];have:=(r.settle e.names x).len;rw[this,<-(RelF.low e.names a).len,r.len]
  simp only[zBz,r.sl,h,R.toO,setF,hio,l,hi,and_self,if_true];exact⟨_,(r.settle e.names x).set (x:=some x) (y:=some (j,x.2)) ⟨rfl,hj⟩ i,k⟩
theorem Ou.remove {x k p jj:Nat}{e:Ex}{xs:List D}{n:Int}(hx:a[x]? = some (some (k+1,.lst xs)))(he:eval G cl a.sl e=.ok (jj,.int n))(hs:xs.all D.isI=true)(hf:D.find (.int n) xs=some p)
  (h:Ou G cl io (a.set x (some (1,.lst (xs.eraseIdx p)))) ss N V X):Ou G cl io a (.mut x [] .remove [e]::ss) N V X:=
 .step fun A r=>by
  obtain⟨k',hA⟩:=r.own hx;have e1:isLst A[x]? = true:=by rw[hA]; rfl
  have e2:([(jj,D.int n)]:List KD).all (fun v=>v.2.fb v.1)=true:=by simp only[List.all_cons,List.all_nil,Bool.and_true]; exact zM0 jj n
  simp only[zBA,e1,if_true,zAe,zAb,r.sl,he,R.bind,R.toO,mutO,e2,hA,mut0,zCr,if_pos hs,hf];exact⟨_,r.set (.refl _) x,h⟩
end
section
variable {G:Pg}{cl:Nat->List KD->Run}{io:List Nat}{a:Fr}{ss:List S}{N:Fr->Prop}{V:D->Prop}{X:Nat->List (Nat×D)->Fr->Prop}
theorem Ou.whl {c:Ex}{b:List S}(I:Nat->Fr->Prop)(m:Nat)(hm:m<10000)(h0:I m a)(step:∀n a',I n a'->(∃j,eval G cl a'.sl c=.ok (j,.bl false)/\Ou G cl io a' ss N V X)\/((∃j,eval G cl a'.sl c=.ok (j,.bl true))/\∃n',n=n'+1/\Ou G cl io a' b (I n') V X)):Ou G cl io a (.whl c b::ss) N V X:=
 .step fun A r=>by
  rw[zFm];have lp:∀(k n:Nat) (a':Fr),n<k->I n a'->∀A,RelF A a'->match whlD (whT G cl c) (whB G cl io b) k A with
    | .nx A'=>∃a',RelF A' a'/\Ou G cl io a' ss N V X
    | .ret _ d _=>V d
    | .exc c fs A'=>∃a',RelF A' a'/\X c fs a'
    | _=>False:=by
   intro k;induction k with
   | zero=>intro n a' h; omega
   | succ k ih=>
    intro n a' hn hI A r;rcases step n a' hI with ⟨j,e,o⟩ | ⟨⟨j,e⟩,n',rfl,o⟩
    ·have t:whT G cl c A=.ok false:=by unfold whT; rw[r.sl,e]; rfl
     rw[whlD,t];exact⟨a',r,o⟩
    ·have t:whT G cl c A=.ok true:=by unfold whT; rw[r.sl,e]; rfl
     rw[whlD,t];have:=o A r;simp only[whB];revert this
     cases execs G cl io A b with
     | nx A2=>exact fun⟨a2,h1,h2⟩=>ih n' a2 (by omega) h2 A2 h1
     | ret k d A2=>exact id
     | exc c fs A2=>exact id
     | _=>exact False.elim
  exact lp 10000 m a hm h0 A r
end
theorem Ou.runP {G:Pg}{n f i:Nat}{s:Str}{F:Fn}{vs:List KD}{init:List S}{P:D->Prop}(hf:G.fn f=some F)(hn:vs.length=F.np)(hio:F.io=[])(hb:F.body=init++[.retP s i])
  (h:Ou G (Ip.run G n) [] (enter F vs) init (fun a=>∃k d,a[i]? = some (some (k+1,d))/\P d) (fun _=>False) fun _ _ _=>False):∃k d,Ip.run G (n+1) f vs=.ret k (.tup [.str s,d]) []/\2<=k/\P d:=by
 rw[Ip.run,hf];simp only[hn,if_true,hio];rw[hb,zCD];have:=h _ (.refl _);revert this
 cases execs G (Ip.run G n) [] (enter F vs) init with
 | nx A=>
  rintro⟨a,r,k,d,h1,h2⟩;obtain⟨k',hA⟩:=r.own h1;refine⟨k'+1+1,d,?_,by omega,h2⟩;simp[O.seq,hA,zAN,zD4,fin]
 | ret k d A=>exact False.elim
 | exc c fs A=>exact fun⟨_,_,h⟩=>h.elim
 | _=>exact False.elim
def rdy (cs:List (List Int))(Q:List Nat)(g:Nat):Prop:=∀j:Nat,(j:Int)∈covA cs g->(fil cs j Q).head? = some g
inductive Topo (cs:List (List Int)):List Nat->List Nat->Prop
 | nil:Topo cs [] []
 | cons {g:Nat} {Q1 Q2 es:List Nat} (hg:g∉Q1) (hd:∀j:Nat,(j:Int)∈covA cs g->fil cs j Q1=[]) (least:∀o,o<g->o∈Q1++g::Q2->¬rdy cs (Q1++g::Q2) o) (h:Topo cs (Q1++Q2) es):Topo cs (Q1++g::Q2) (g::es)
theorem zIu {P:Nat->Prop}:∀n,P n->∃m,P m/\∀k,k<m->¬P k:=by
 intro n;induction n using Nat.strongRecOn with
 | _ n ih=>
  intro h;by_cases q:∃k,k<n/\P k
  ·obtain⟨k,h1,h2⟩:=q;exact ih k h1 h2
  ·exact⟨n,h,fun k hk hp=>q ⟨k,hk,hp⟩⟩
theorem zIK {cs:List (List Int)}{j g:Nat}{A B:List Nat}(hg:g∉A)(h:(fil cs j (A++g::B)).head? = some g):fil cs j A=[]:=by
 cases e:fil cs j A with
 | nil=>rfl
 | cons y t=>
  rw[zA2,e] at h;have hy:y∈fil cs j A:=by rw[e]; exact zm2
  have:y=g:=by simpa using h
  subst this;exact absurd (List.mem_filter.mp hy).1 hg
theorem zHX {cs:List (List Int)}{g:Nat}{Q:List Nat}:rdy cs (g::Q) g:=fun j hj=>by
 rw[zAT,if_pos hj]; rfl
theorem zGe {cs:List (List Int)}:∀(n:Nat) (Q:List Nat),Q.length=n->Q.Nodup->∃es,Topo cs Q es
 | 0,Q,hl,_=>by
  obtain rfl:=List.length_eq_zero_iff.mp hl;exact⟨[],.nil⟩
 | n+1,Q,hl,hn=>by
  have h0:∃g,g∈Q/\rdy cs Q g:=by
   cases Q with
   | nil=>cases hl
   | cons g Q=>exact⟨g,zm2,zHX⟩
  obtain⟨g0,hg0⟩:=h0;obtain⟨g,⟨hm,hr⟩,hlst⟩:=zIu (P:=fun g=>g∈Q/\rdy cs Q g) g0 hg0;obtain⟨Q1,Q2,e⟩:=List.append_of_mem hm;subst e;have hg:g∉Q1:=fun z=>(List.nodup_append.mp hn).2.2 g z g (by simp) rfl;have hp:(Q1++g::Q2).Perm (g::(Q1++Q2)):=List.perm_middle;obtain⟨es,he⟩:=zGe (cs:=cs) n (Q1++Q2) (by simp at hl ⊢; omega) (List.nodup_cons.mp (hp.nodup_iff.mp hn)).2;exact⟨g::es,.cons hg (fun j hj=>zIK hg (hr j hj)) (fun o ho hmo hro=>hlst o ho ⟨hmo,hro⟩) he⟩
theorem Topo.perm {cs:List (List Int)}{Q es:List Nat}(h:Topo cs Q es):Q.Perm es:=by
 induction h with
 | nil=>exact .refl _
 | cons hg hd hl h ih=>exact List.perm_middle.trans (ih.cons _)
theorem Topo.rows {cs:List (List Int)}{Q es:List Nat}(h:Topo cs Q es)(j:Nat):fil cs j es=fil cs j Q:=by
 induction h with
 | nil=>rfl
 | @cons g Q1 Q2 es hg hd hl h ih=>
  rw[zAT,zA2,zAT];by_cases hj:(j:Int)∈covA cs g
  ·rw[if_pos hj,if_pos hj,ih,zA2,hd j hj]; rfl
  ·rw[if_neg hj,if_neg hj,ih,zA2]
theorem zIJ {cs:List (List Int)}{g j:Nat}{Q1 Q2:List Nat}(hd:(j:Int)∈covA cs g->fil cs j Q1=[]):fil cs j (Q1++g::Q2)=if (j:Int)∈covA cs g then g::fil cs j (Q1++Q2) else fil cs j (Q1++Q2):=by
 rw[zA2,zAT,zA2];by_cases hj:(j:Int)∈covA cs g
 ·rw[if_pos hj,if_pos hj,hd hj]; rfl
 ·rw[if_neg hj,if_neg hj]
structure Pm (G:Pg):Prop where
 v:Pv G
 d:Pd G
 f34:G.fn 34=some zBV
 f35:G.fn 35=some zAQ
 f36:G.fn 36=some zAK
 f37:G.fn 37=some zAI
 f39:G.fn 39=some zAY
 f45:G.fn 45=some zAy
 f46:G.fn 46=some zA7
 f47:G.fn 47=some zAZ
 f49:G.fn 49=some zAJ
 f50:G.fn 50=some zAU
 f51:G.fn 51=some zBG
 f52:G.fn 52=some zA6
 f53:G.fn 53=some zAo
 f115:G.fn 115=some zAF
 f116:G.fn 116=some zBj
 f117:G.fn 117=some zA8
 f118:G.fn 118=some zBi
 f134:G.fn 134=some zAV
 f69:G.fn 69=some zI8
theorem zBQ (gs:List Nat):(natL gs).all (D.pur 60)=true:=by simp[natL]
theorem zIp (gs:List Nat):(natL gs).all D.isI=true:=by simp[natL,D.isI]
theorem zFc (A B:List Nat):natL (A++B)=natL A++natL B:=by simp[natL]
theorem zHm (A B:List Nat)(g:Nat):(natL (A++g::B)).eraseIdx A.length=natL (A++B):=by
 have e:natL (A++g::B)=natL A++(.int (g:Nat)::natL B):=by simp[natL]
 rw[e,<-zAG A,List.eraseIdx_append_of_length_le (Nat.le_refl _),Nat.sub_self,List.eraseIdx_cons_zero,zFc]
theorem zMQ {A B:List Nat}{a:Nat}:ixOp (.lst (natL (A++a::B))) (.int (A.length:Nat))=some (0,.int (a:Nat)):=by
 have h1:A.length<(natL (A++a::B)).length:=by rw[zAG]; simp
 have h2:((A.length:Nat):Int)<((natL (A++a::B)).length:Nat):=by omega
 have e:(natL (A++a::B))[A.length]? = some (.int (a:Nat)):=by simp[natL]
 simp only[ixOp,D.seq,ixD,Int.natCast_nonneg,if_true,h2,Int.toNat_natCast,Option.bind_some,e]
theorem zHP (A B:List Nat):(natL (A++B)).take A.length=natL A:=by
 rw[zFc,List.take_append_of_le_length (by rw[zAG]; omega),List.take_of_length_le (by rw[zAG]; omega)]
variable {G:Pg}(P:Pm G)
include P
end Ip
end
section
namespace Ip
open PySem (Str)
theorem zDk (i:Int):∀c:List Int,D.memb (.int i) (c.map .int)=decide (i∈c)
 | []=>rfl
 | j::c=>by
  have ih:=zDk i c;have e:D.memb (.int i) ((j::c).map .int)=((D.int j).eq (.int i)||D.memb (.int i) (c.map .int)):=rfl;rw[e,ih];simp only[D.eq];by_cases h:i=j
  ·subst h; simp
  ·have:¬j=i:=fun e=>h e.symm;simp[this,h]
theorem zJE {cs:List (List Int)}{g:Nat}(h:g<cs.length):ixOp (cvsD cs) (.int (g:Nat))=some (0,.lst ((covA cs g).map .int)):=by
 have h':(g:Int)<cs.length:=by omega
 have e:covA cs g=cs[g]:=by simp[covA,h]
 rw[e];simp[cvsD,ixOp,ixD,h',h]
theorem zK5 {A B:List Nat}{a:Nat}:ixOp (rowD (A++a::B)) (.int (A.length:Nat))=some (0,.int (a:Nat)):=by
 have h1:A.length<(natL (A++a::B)).length:=by rw[zAG]; simp
 have h2:((A.length:Nat):Int)<((natL (A++a::B)).length:Nat):=by omega
 have e:(natL (A++a::B))[A.length]? = some (.int (a:Nat)):=by simp[natL]
 simp only[rowD,ixOp,D.seq,ixD,Int.natCast_nonneg,if_true,h2,Int.toNat_natCast,Option.bind_some,e]
variable {G:Pg}(P:Pm G)
include P
theorem zC7 (n k k1 k2 k3:Nat)(p:Nat)(cs:List (List Int))(O res Q L:List Nat)(g:Nat)(hp:p<=6)(hm:cs.length<=6)(ok:∀c∈cs,OkC p c)(hg:g<cs.length)(hO:O.Nodup)(hQ:g∈Q)(hL:∀x,x∈L↔x∈Q)(hd:∀x∈res,x∉Q)(hr:∀j,fil cs j O=fil cs j res++fil cs j Q) :
  ∃j us,run G (n+6) 37 [(k,wd p cs),(k1,wrD (rowsF cs p O)),(k2,.int (g:Nat)),(k3,.lst (natL L))]=.ret j (.lst us) []/\(us=[]↔rdy cs Q g)/\us.length<=6:=by
 have hc:cs[g]? = some (covA cs g):=by simp[covA,hg]
 have okc:=ok _ (List.mem_of_getElem? hc);have q3:=zCd P.v.a n 0 0 p cs g _ hc;have h100:100<=SL:=by decide
 have hS:(covA cs g).length<=SL:=by have:=okc.ln; omega
 generalize hC:covA cs g=c at hc okc q3 hS;have key:Ou G (run G (n+5)) [] [some (0,wd p cs),some (0,wrD (rowsF cs p O)),some (0,.int (g:Nat)),some (0,.lst (natL L)),none,none,none] zAI.body (fun _=>False) (fun d=>∃us,d=.lst us/\(us=[]↔rdy cs Q g)/\us.length<=6) fun _ _ _=>False:=by
  refine Ou.setK (x:=(99,.lst [])) (by simp) (by simp) ?_;refine Ou.low (a':=[some (0,wd p cs),some (0,wrD (rowsF cs p O)),some (0,.int (g:Nat)),some (0,.lst (natL L)),some (99,.lst []),none,none]) (.of_eq (by simp)) ?_;refine Ou.low (a':=[some (0,wd p cs),some (0,wrD (rowsF cs p O)),some (0,.int (g:Nat)),some (0,.lst (natL L)),some (1,.lst []),none,none]) (.cons (.refl _) (.cons (.refl _) (.cons (.refl _) (.cons (.refl _) (.cons ⟨rfl,by decide⟩ (.refl _)))))) ?_;refine Ou.fo (fun r a=>∃(x5 x6:Option KD) (us:List D) (pre suf:List Int),a=[some (0,wd p cs),some (0,wrD (rowsF cs p O)),some (0,.int (g:Nat)),some (0,.lst (natL L)),some (1,.lst us),x5,x6]/\r=suf.map .int/\pre++suf=c/\(us=[]↔∀i∈pre,(fil cs i.toNat Q).head? = some g)/\us.length<=pre.length) (vs:=[(1,.lst (c.map .int))]) (xs:=c.map .int) (by simp[m13 P.v.a,zAj,q3]) (by simp) (by simpa using hS) ⟨none,none,[],[],c,by simp,rfl,rfl,by simp,by simp⟩ ?_ ?_
  ·rintro x r a ⟨x5,x6,us,pre,suf,ha,hrr,he,hu,hul⟩;cases suf with
   | nil=>simp at hrr
   | cons s suf=>
    simp only[List.map_cons,List.cons.injEq] at hrr;obtain⟨rfl,rfl⟩:=hrr;subst ha;have hsc:s∈c:=by rw[<-he]; simp
    have rg:=okc.rg s hsc;obtain⟨j,rfl⟩:∃j:Nat,s=(j:Int):=⟨s.toNat,by omega⟩
    have hjp:j<p:=by omega
    have ixr:=zB2 (cs:=cs) (O:=O) hjp;have hjc:(j:Int)∈covA cs g:=by rw[hC]; exact hsc
    have hgf:g∈fil cs j Q:=List.mem_filter.mpr ⟨hQ,decide_eq_true hjc⟩;obtain⟨B1,B2,eB⟩:=List.append_of_mem hgf;have hnod:(fil cs j O).Nodup:=hO.filter _;have hrj:=hr j;rw[eB] at hrj;have hrow:fil cs j O=(fil cs j res++B1)++g::B2:=by rw[hrj]; simp
    have hgn:g∉fil cs j res++B1:=fun z=>by
     rw[hrow] at hnod;exact (List.nodup_append.mp hnod).2.2 g z g (by simp) rfl
    rw[hrow] at ixr;obtain⟨dd,hdd⟩:∃dd,(fil cs j res++B1).length=dd:=⟨_,rfl⟩
    have ixe:indexD (rowD ((fil cs j res++B1)++g::B2)) (.int (g:Nat))=some (99,.int (dd:Nat)):=by
     have sc:=zBp ((fil cs j res++B1)++g::B2);rw[rowD,zBy,zCg (by simp),zB3 hgn,sc,hdd];rfl
    have hul6:us.length<100:=by
     have:=okc.ln;have:=congrArg List.length he;simp at this;omega
    refine⟨_,zAt rfl,?_⟩;generalize hW:wrD (rowsF cs p O)=WW at ixr;refine Ou.set (x:=(99,.int (dd:Nat))) ?_ ?_
    ·generalize rowD ((fil cs j res++B1)++g::B2)=RR at ixr ixe;simp[-ixOp,-zBy,ixr,ixe]
    refine Ou.low (a':=[some (0,wd p cs),some (0,WW),some (0,.int (g:Nat)),some (0,.lst (natL L)),some (1,.lst us),some (0,.int (j:Nat)),some (0,.int (dd:Nat))]) (.of_eq (by simp)) ?_;have scL:=zBQ L;have done:∀(us':List D) (y5 y6:Option KD),(us'=[]↔us=[]/\(fil cs j Q).head? = some g)->us'.length<=us.length+1->∃(x5 x6:Option KD) (us:List D) (pre' suf':List Int),[some (0,wd p cs),some (0,WW),some (0,.int (g:Nat)),some (0,.lst (natL L)),some (1,.lst us'),y5,y6]=[some (0,wd p cs),some (0,WW),some (0,.int (g:Nat)),some (0,.lst (natL L)),some (1,.lst us),x5,x6]/\suf.map D.int=suf'.map .int/\pre'++suf'=c/\(us=[]↔∀i∈pre',(fil cs i.toNat Q).head? = some g)/\us.length<=pre'.length:=by
     intro us' y5 y6 h1 h2;refine⟨y5,y6,us',pre++[(j:Int)],suf,rfl,rfl,by simpa using he,?_,by simp; omega⟩;rw[h1,hu];constructor
     ·rintro⟨a1,a2⟩ i hi;rcases zp3 hi with hi | hi
      ·exact a1 i hi
      ·rw[List.mem_singleton.mp hi]; simpa using a2
     ·intro h;exact⟨fun i hi=>h i (zm4 _ hi),by simpa using h (j:Int) (by simp)⟩
    by_cases hE:fil cs j res++B1=[]
    ·have hB:B1=[]:=(List.append_eq_nil_iff.mp hE).2;have hd0:dd=0:=by rw[<-hdd,hE]; rfl
     subst hd0;refine Ou.iffN (j:=99) (by simp) (Ou.nil ?_);exact done us _ _ ⟨fun h=>⟨h,by rw[eB,hB]; rfl⟩,fun h=>h.1⟩ (by omega)
    ·obtain⟨A0,y,eA⟩:∃A0 y,fil cs j res++B1=A0++[y]:=⟨_,_,(List.dropLast_concat_getLast hE).symm⟩
     have ixy:ixOp (rowD ((fil cs j res++B1)++g::B2)) (.int ((dd:Int) - 1))=some (0,.int (y:Nat)):=by
      have:=zK5 (A:=A0) (B:=g::B2) (a:=y);have e1:A0++y::g::B2=(fil cs j res++B1)++g::B2:=by rw[eA]; simp
      have e2:((A0.length:Nat):Int)=(dd:Int) - 1:=by rw[<-hdd,eA]; simp
      rw[e1,e2] at this;exact this
     have hpos:(0:Int)<(dd:Nat):=by rw[<-hdd,eA]; simp
     have mbL:=zBc y L;have hyL:y∈L↔¬(fil cs j Q).head? = some g:=by
      rw[hL];cases B1 with
      | nil=>
       have hyr:y∈fil cs j res:=by
        have:y∈fil cs j res++[]:=by rw[eA]; simp
        simpa using this
       rw[eB];simp only[List.nil_append,List.head?_cons,not_true,iff_false];exact hd y (List.mem_filter.mp hyr).1
      | cons z B1=>
       have hzg:z≠g:=fun e=>hgn (by rw[e]; simp);have hyB:y∈z::B1:=by
        have e1:fil cs j res++z::B1=A0++[y]:=eA;have:=congrArg List.getLast? e1;rw[List.getLast?_append,List.getLast?_concat] at this;cases hl:(z::B1).getLast? with
        | none=>simp at hl
        | some w=>
         rw[hl] at this;have:w=y:=by simpa using this
         rw[<-this];exact List.mem_of_getLast? hl
       rw[eB];simp only[List.cons_append,List.head?_cons,Option.some.injEq];refine⟨fun _ e=>hzg e,fun _=>?_⟩;have:y∈fil cs j Q:=by rw[eB]; exact zm4 _ hyB
       exact (List.mem_filter.mp this).1
     generalize rowD ((fil cs j res++B1)++g::B2)=RR at ixr ixy;by_cases hy:y∈L
     ·refine Ou.iffT (j:=99) ?_ ?_
      ·simp[-ixOp,-List.all_eq_true,ixr,ixy,hpos,scL,mbL,hy];omega
      refine Ou.append (k:=0) (xs:=us) (v:=(joinK [(0,.int (y:Nat)),(0,.int (j:Nat))]+1,.tup [.int (y:Nat),.int (j:Nat)])) (by simp[frz,frz1]) (by simp[-ixOp,ixr,ixy]) (by omega) (Ou.nil (Ou.nil ?_));have:=done (us++[.tup [.int (y:Nat),.int (j:Nat)]]) (some (0,.int (j:Nat))) (some (0,.int (dd:Nat))) ⟨fun h=>by simp at h,fun h=>absurd h.2 (hyL.mp hy)⟩ (by simp);simpa[frz,frz1] using this
     ·refine Ou.iffN (j:=99) ?_ (Ou.nil ?_)
      ·simp[-ixOp,-List.all_eq_true,ixr,ixy,hpos,scL,mbL,hy]
      exact done us _ _ ⟨fun h=>⟨h,Classical.byContradiction fun z=>hy (hyL.mpr z)⟩,fun h=>h.1⟩ (by omega)
  ·rintro a ⟨x5,x6,us,pre,suf,ha,hrr,he,hu,hul⟩;have:suf=[]:=by simpa using hrr.symm
   subst this ha;rw[List.append_nil] at he;subst he;refine Ou.ret (x:=(0,.lst us)) (by simp) ⟨us,rfl,?_,by have:=okc.ln; omega⟩;rw[hu];constructor
   ·intro h j hj;rw[hC] at hj;simpa using h j hj
   ·intro h i hi;have:=okc.rg i hi;obtain⟨j,rfl⟩:∃j:Nat,i=(j:Int):=⟨i.toNat,by omega⟩
    exact h j (by rw[hC]; exact hi)
 obtain⟨j,d,e,us,rfl,h1,h2⟩:=Ou.run (n:=n+5) (vs:=[(k,wd p cs),(k1,wrD (rowsF cs p O)),(k2,.int (g:Nat)),(k3,.lst (natL L))]) (V:=fun d=>∃us,d=.lst us/\(us=[]↔rdy cs Q g)/\us.length<=6) P.f37 rfl rfl (key.mono (fun _ h=>h.elim) (fun _ h=>h) fun _ _ _ h=>h);exact⟨j,us,e,h1,h2⟩
end Ip
end
section
namespace Ip
open PySem (Str)
theorem zIP {xs:List D}{x:D}(h:x∈xs.mapIdx fun n d=>D.tup [.int n,d]):∃(A B:List D) (d:D),xs=A++d::B/\x=.tup [.int (A.length:Nat),d]:=by
 rw[List.mem_mapIdx] at h;obtain⟨i,hi,e⟩:=h;refine⟨xs.take i,xs.drop (i+1),xs[i],?_,?_⟩
 ·rw[<-List.drop_eq_getElem_cons,List.take_append_drop]
 ·rw[<-e];have:(xs.take i).length=i:=by simp; omega
  rw[this]
theorem zFS {A B:List D}{d:D}:∀{gs:List Nat},natL gs=A++d::B->∃(A' B':List Nat) (g:Nat),gs=A'++g::B'/\A=natL A'/\d=.int (g:Nat)/\A'.length=A.length:=by
 induction A with
 | nil=>
  intro gs h;cases gs with
  | nil=>simp[natL] at h
  | cons g gs=>
   simp only[natL,List.map_cons,List.nil_append,List.cons.injEq] at h;exact⟨[],gs,g,rfl,rfl,h.1.symm,rfl⟩
 | cons a A ih=>
  intro gs h;cases gs with
  | nil=>simp[natL] at h
  | cons g gs=>
   simp only[natL,List.map_cons,List.cons_append,List.cons.injEq] at h;obtain⟨A',B',g',e1,e2,e3,e4⟩:=ih h.2;exact⟨g::A',B',g',by rw[e1]; rfl,by rw[<-h.1,e2]; rfl,e3,by simp[e4]⟩
theorem zFq (k:Nat)(xs:List D):wkD .enum [(k,.tup xs)]=some (xs.mapIdx fun n d=>.tup [.int n,d]):=rfl
variable {G:Pg}(P:Pm G)
include P
theorem zGz (n k k1 k2:Nat)(p j g:Nat)(cs:List (List Int))(hg:g<cs.length):∃i,run G (n+6) 34 [(k,wd p cs),(k1,.int (j:Nat)),(k2,.int (g:Nat))]=.ret i (.bl (decide ((j:Int)∈covA cs g))) []:=by
 have hc:cs[g]? = some (covA cs g):=by simp[covA,hg]
 have q3:=zCd P.v.a n 0 0 p cs g _ hc;have q2:=zJj P.v.a (n+4) 0 p cs;have qb:=zBZ P.v.a (n+3) 0 99 (.int (g:Nat)) cs.length;have hb:isB cs.length (.int (g:Nat))=true:=by simp[isB,hg]
 rw[hb] at qb;have mb:=zDk j (covA cs g);have sc:((covA cs g).map D.int).all (D.pur 60)=true:=by simp
 refine⟨99,?_⟩;rw[run,P.f34];generalize (covA cs g).map D.int=CC at q3 mb sc;simp[-List.all_eq_true,zBV,P.v.a.f1,zAP,m12 P.v.a,m13 P.v.a,zAq,zAj,q2,qb,q3,mb,sc]
theorem zCI (n k k1:Nat)(p:Nat)(cs:List (List Int))(O:List Nat)(hp:p<=6)(hO:O.Nodup)(hl:O.length<=6)(hg:∀g∈O,g<cs.length):∃j,run G (n+7) 35 [(k,wd p cs),(k1,wrD (rowsF cs p O))]=.ret j .non []:=by
 have h6:6<=SL:=by decide
 have ew:wrD (rowsF cs p O)=.tup ((rowsF cs p O).map rowD):=rfl;have key:Ou G (run G (n+6)) [] [some (0,wd p cs),some (0,wrD (rowsF cs p O)),none,none,none,none] zAQ.body (fun _=>D.non=.non) (fun d=>d=.non) fun _ _ _=>False:=by
  refine Ou.fo (fun r a=>∃(x2 x3 x4 x5:Option KD),a=[some (0,wd p cs),some (0,wrD (rowsF cs p O)),x2,x3,x4,x5]/\∀x∈r,∃j:Nat,j<p/\x=.tup [.int (j:Nat),rowD (fil cs j O)]) (vs:=[(0,wrD (rowsF cs p O))]) (by simp) (by rw[ew]; exact zFq _ _) (by simp[rowsF]; omega) ⟨none,none,none,none,by simp,?_⟩ ?_ ?_
  ·intro x hx;rw[List.mem_mapIdx] at hx;obtain⟨i,hi,e⟩:=hx;have hip:i<p:=by simpa[rowsF] using hi
   exact⟨i,hip,by rw[<-e]; simp[rowsF]⟩
  ·rintro x r a ⟨x2,x3,x4,x5,ha,hr⟩;obtain⟨j,hj,rfl⟩:=hr x zm2;subst ha;refine⟨_,zBe rfl,?_⟩;refine Ou.low (a':=[some (0,wd p cs),some (0,wrD (rowsF cs p O)),some (0,.int (j:Nat)),some (0,rowD (fil cs j O)),x4,x5]) (.of_eq (by simp[setsT])) ?_;have hfl:(fil cs j O).length<=6:=zm9 (List.length_filter_le _ _) hl;have hfn:(fil cs j O).Nodup:=hO.filter _;refine Ou.fo (fun r a=>∃(x4 x5:Option KD),a=[some (0,wd p cs),some (0,wrD (rowsF cs p O)),some (0,.int (j:Nat)),some (0,rowD (fil cs j O)),x4,x5]/\∀x∈r,∃A y B,fil cs j O=A++y::B/\x=.tup [.int (A.length:Nat),.int (y:Nat)]) (vs:=[(0,rowD (fil cs j O))]) (by simp) (zFq _ _) (by simp[natL]; omega) ⟨x4,x5,by simp,?_⟩ ?_ ?_
   ·intro x hx;obtain⟨A,B,d,e1,rfl⟩:=zIP hx;obtain⟨A',B',g,e2,e3,rfl,e5⟩:=zFS e1;exact⟨A',g,B',e2,by rw[e5]⟩
   ·rintro x r' a ⟨x4,x5,ha,hr'⟩;obtain⟨A,y,B,eA,rfl⟩:=hr' x zm2;subst ha;have hyf:y∈fil cs j O:=by rw[eA]; simp
    have hyO:=(List.mem_filter.mp hyf)
    obtain⟨i,qm⟩:=zGz P n 0 0 0 p j y cs (hg y hyO.1);rw[hyO.2] at qm;have hyA:y∉A:=fun z=>by
     rw[eA] at hfn;exact (List.nodup_append.mp hfn).2.2 y z y (by simp) rfl
    have ct:cutOp none (some (A.length:Int)) (rowD (fil cs j O))=some (0,.tup (natL A)):=by
     rw[eA,rowD];simp only[cutOp];rw[zDw,zHP]
    have mb:D.memb (.int (y:Nat)) (natL A)=false:=by rw[zBc]; simp[hyA]
    have sc:=zBQ A;refine⟨_,zBe rfl,?_⟩;refine Ou.low (a':=[some (0,wd p cs),some (0,wrD (rowsF cs p O)),some (0,.int (j:Nat)),some (0,rowD (fil cs j O)),some (0,.int (A.length:Nat)),some (0,.int (y:Nat))]) (.of_eq (by simp[setsT])) ?_;refine Ou.iffN (j:=99) ?_ ?_
    ·generalize rowD (fil cs j O)=RR at ct;simp[-cutOp,-List.all_eq_true,P.f34,zBV,qm,ct,mb,sc]
    exact Ou.nil ⟨some (0,.int (A.length:Nat)),some (0,.int (y:Nat)),rfl,fun x h=>hr' x (zm1 _ h)⟩
   ·rintro a ⟨x4,x5,ha,_⟩;subst ha;exact Ou.nil ⟨some (0,.int (j:Nat)),some (0,rowD (fil cs j O)),x4,x5,rfl,fun x h=>hr x (zm1 _ h)⟩
  ·intro a _;exact Ou.nil rfl
 obtain⟨j,d,e,rfl⟩:=Ou.run (n:=n+6) (vs:=[(k,wd p cs),(k1,wrD (rowsF cs p O))]) (V:=fun d=>d=.non) P.f35 rfl rfl key;exact⟨j,e⟩
theorem zCm (n k k1:Nat)(p:Nat)(cs:List (List Int))(O:List Nat)(hp:p<=6)(hm:cs.length<=6)(ok:∀c∈cs,OkC p c)(hl:O.length<=6)(hg:∀g∈O,g<cs.length):∃j,run G (n+6) 36 [(k,wd p cs),(k1,wrD (rowsF cs p O))]=.ret j .non []:=by
 have h100:100<=SL:=by decide
 have hfl:=zDI (cs:=cs) (gs:=O) p;have hfl2:p * O.length<=6 * 6:=Nat.mul_le_mul hp hl;obtain⟨jw,qw⟩:=zMc P.v (n+4) 0 (rowsF cs p O) (by simp[rowsF]; omega) (by omega) (fun x hx=>by have:=hg x (zBl hx); omega);have hmem:∀g∈srtN (rowsF cs p O).flatten,g∈O:=fun g h=>by
  have h2:=(List.mem_filter.mp h)
  exact zBl (by simpa using h2.2)
 have sl:(srtN (rowsF cs p O).flatten).length<=6:=by
  have:=List.length_filter_le (fun k=>(rowsF cs p O).flatten.contains k) (List.range 6);simpa[srtN] using this
 generalize srtN (rowsF cs p O).flatten=Lw at qw hmem sl;have key:Ou G (run G (n+5)) [] [some (0,wd p cs),some (0,wrD (rowsF cs p O)),none,none] zAK.body (fun _=>D.non=.non) (fun d=>d=.non) fun _ _ _=>False:=by
  refine Ou.fo (fun r a=>∃(x2 x3:Option KD) (suf:List Nat),a=[some (0,wd p cs),some (0,wrD (rowsF cs p O)),x2,x3]/\r=natL suf/\∀g∈suf,g∈O) (vs:=[(jw,.lst (natL Lw))]) (xs:=natL Lw) (by simp[P.v.f24,zA4,qw]) (by simp) (by rw[zAG]; omega) ⟨none,none,Lw,by simp,rfl,hmem⟩ ?_ ?_
  ·rintro x r a ⟨x2,x3,suf,ha,hr,hs⟩;cases suf with
   | nil=>simp[natL] at hr
   | cons g suf=>
    simp only[natL,List.map_cons,List.cons.injEq] at hr;obtain⟨rfl,rfl⟩:=hr;subst ha;have hgO:=hs g zm2;have hgl:=hg g hgO;have hc:cs[g]? = some (covA cs g):=by simp[covA,hgl]
    have okc:=ok _ (List.mem_of_getElem? hc);have q3:=zCd P.v.a n 0 0 p cs g _ hc;refine⟨_,zAt rfl,?_⟩;refine Ou.low (a':=[some (0,wd p cs),some (0,wrD (rowsF cs p O)),some (0,.int (g:Nat)),x3]) (.of_eq (by simp)) ?_;refine Ou.fo (fun r a=>∃(x3:Option KD) (sf:List Int),a=[some (0,wd p cs),some (0,wrD (rowsF cs p O)),some (0,.int (g:Nat)),x3]/\r=sf.map .int/\∀i∈sf,i∈covA cs g) (vs:=[(1,.lst ((covA cs g).map .int))]) (xs:=(covA cs g).map .int) (by simp[m13 P.v.a,zAj,q3]) (by simp) (by have:=okc.ln; simp; omega) ⟨x3,covA cs g,by simp,rfl,fun i h=>h⟩ ?_ ?_
    ·rintro x r' a ⟨x3,sf,ha,hr',hsf⟩;cases sf with
     | nil=>simp at hr'
     | cons s sf=>
      simp only[List.map_cons,List.cons.injEq] at hr';obtain⟨rfl,rfl⟩:=hr';subst ha;have hsc:=hsf s zm2;have rg:=okc.rg s hsc;obtain⟨j,rfl⟩:∃j:Nat,s=(j:Int):=⟨s.toNat,by omega⟩
      have ixr:=zB2 (cs:=cs) (O:=O) (show j<p by omega);have hgf:g∈fil cs j O:=List.mem_filter.mpr ⟨hgO,decide_eq_true hsc⟩;have mb:=zBc g (fil cs j O);have sc:=zBQ (fil cs j O);refine⟨_,zAt rfl,?_⟩;refine Ou.iffN (j:=99) ?_ ?_
      ·generalize wrD (rowsF cs p O)=WW at ixr;simp only[rowD] at ixr;simp[-ixOp,-List.all_eq_true,ixr,mb,sc,hgf]
      exact Ou.nil ⟨some (0,.int (j:Nat)),sf,by simp,rfl,fun i h=>hsf i (zm1 _ h)⟩
    ·rintro a ⟨x3,sf,ha,_,_⟩;subst ha;exact Ou.nil ⟨some (0,.int (g:Nat)),x3,suf,rfl,rfl,fun x h=>hs x (zm1 _ h)⟩
  ·intro a _;exact Ou.nil rfl
 obtain⟨j,d,e,rfl⟩:=Ou.run (n:=n+5) (vs:=[(k,wd p cs),(k1,wrD (rowsF cs p O))]) (V:=fun d=>d=.non) P.f36 rfl rfl key;exact⟨j,e⟩
end Ip
end
section
namespace Ip
open PySem (Str)
theorem zFk {P:Nat->Bool}{g:Nat}:∀{L:List Nat},L.Pairwise (· < ·)->g∈L->P g=true->(∀o∈L,o<g->P o=false)->∃t,L.filter P=g::t
 | [],_,h,_,_=>by cases h
 | x::L,hp,hm,hg,hl=>by
  obtain⟨h1,h2⟩:=List.pairwise_cons.mp hp;rcases zp1 hm with rfl | hm
  ·exact⟨L.filter P,by rw[List.filter_cons,hg]; rfl⟩
  ·have hx:=hl x zm2 (h1 g hm);obtain⟨t,e⟩:=zFk h2 hm hg fun o ho=>hl o (zm1 _ ho);exact⟨t,by rw[List.filter_cons,hx]; exact e⟩
theorem zJd (Q:List Nat):(srtN Q).Pairwise (· < ·):=List.pairwise_lt_range.filter _
theorem zGm {g:Nat}{Q1 Q2:List Nat}(h1:g∉Q1++Q2):srtN (Q1++Q2)=(srtN (Q1++g::Q2)).filter fun x=>decide (x≠g):=by
 unfold srtN;rw[List.filter_filter];refine List.filter_congr fun k _=>?_;by_cases hk:k=g
 ·subst hk;have h2:k∉Q1/\k∉Q2:=by simpa using h1
  simp[h2.1,h2.2]
 ·have:(k == g)=false:=beq_eq_false_iff_ne.mpr hk;simp[hk]
theorem zEp {g:Nat}{L:List Nat}(hp:L.Pairwise (· < ·))(hg:g∈L):∃A B,L=A++g::B/\g∉A/\(L.filter fun x=>decide (x≠g))=A++B:=by
 obtain⟨A,B,rfl⟩:=List.append_of_mem hg;have nd:(A++g::B).Nodup:=hp.imp fun h=>by omega
 have hA:g∉A:=fun z=>(List.nodup_append.mp nd).2.2 g z g (by simp) rfl;have hB:g∉B:=(List.nodup_cons.mp (List.nodup_append.mp nd).2.1).1;refine⟨A,B,rfl,hA,?_⟩;have f1:A.filter (fun x=>decide (x≠g))=A:=List.filter_eq_self.mpr fun x hx=>decide_eq_true fun e=>hA (e ▸ hx);have f2:B.filter (fun x=>decide (x≠g))=B:=List.filter_eq_self.mpr fun x hx=>decide_eq_true fun e=>hB (e ▸ hx);rw[List.filter_append,List.filter_cons,f1,f2];simp
variable {G:Pg}(P:Pm G)
include P
theorem zKh (n k:Nat)(rows:List (List Nat))(h1:rows.length<=6)(h2:rows.flatten.length<=1000)(h3:∀g∈rows.flatten,g<6):∃j,run G (n+1) 24 [(k,wrD rows)]=.ret j (.lst (natL (srtN rows.flatten))) []/\1<=j:=by
 have hs:rows.length<=SL:=zm9 h1 (by decide);obtain⟨x,e,rfl⟩:=Ou.runE (G:=G) (n:=n) (f:=24) (F:=zA4) (vs:=[(k,wrD rows)]) (init:=zA4.body.dropLast) (e:=.op .srtSet [(.var 1)]) (P:=fun x=>x=(1,.lst (natL (srtN rows.flatten)))) P.v.f24 rfl rfl rfl (fun _ h=>nomatch h) (by
  show Ou G (run G n) [] [some (0,wrD rows),none,none] _ _ _ _;refine Ou.setK (x:=(99,.lst [])) (by simp) (by simp) ?_;refine Ou.low (a':=[some (0,wrD rows),some (1,.lst []),none]) (.cons (.refl _) (.cons ⟨rfl,by decide⟩ (.cons trivial .nil))) ?_;refine Ou.fo (fun r a=>∃(x:Option KD) (fl:List Nat) (suf:List (List Nat)),a=[some (0,wrD rows),some (1,.lst (natL fl)),x]/\r=suf.map rowD/\fl++suf.flatten=rows.flatten) (vs:=[(0,wrD rows)]) (xs:=rows.map rowD) (by simp) (by simp[wrD]) (by simpa using hs) ?_ ?_ ?_
  ·exact⟨none,[],rows,by simp[natL],rfl,rfl⟩
  ·rintro x r a ⟨y,fl,suf,ha,hr,he⟩;cases suf with
   | nil=>simp at hr
   | cons s suf=>
    simp only[List.map_cons,List.cons.injEq] at hr;obtain⟨rfl,rfl⟩:=hr;subst ha;refine⟨_,zAt rfl,?_⟩;refine Ou.extend (k:=0) (j:=0) (xs:=natL fl) (ys:=natL s) (by simp) (by simp[rowD]) (zBp s) ?_ ?_
    ·have e2:rows.flatten.length=fl.length+(s.length+suf.flatten.length):=by rw[<-he]; simp
     have:1000<=SL:=by decide
     simp only[natL,List.length_map];omega
    ·exact Ou.nil ⟨some (0,rowD s),fl++s,suf,by simp[natL],rfl,by simpa using he⟩
  ·rintro a ⟨y,fl,suf,ha,hr,he⟩;have:suf=[]:=by simpa using hr.symm
   subst this ha;simp only[List.flatten_nil,List.append_nil] at he;rw[<-he] at h3 ⊢;exact Ou.nil ⟨(1,.lst (natL (srtN fl))),by simp[zB1 h3],rfl⟩)
 exact⟨1,e,zm8 _⟩
open Classical in
set_option maxHeartbeats 1000000 in
theorem zCM (n k k1:Nat)(p:Nat)(cs:List (List Int))(O es:List Nat)(hp:p<=6)(hm:cs.length<=6)(ok:∀c∈cs,OkC p c)(hO:O.Nodup)(hg:∀g∈O,g<cs.length)(hT:Topo cs O es):∃j,run G (n+8) 39 [(k,wd p cs),(k1,wrD (rowsF cs p O))]=.ret j (.tup [.str "order",.lst (natL es)]) []/\2<=j:=by
 have h100:100<=SL:=by decide
 have hl:O.length<=6:=zm9 (len6 hO hg) hm;have hfl:=zDI (cs:=cs) (gs:=O) p;have hfl2:p * O.length<=6 * 6:=Nat.mul_le_mul hp hl;obtain⟨j1,q1⟩:=zCI P n 0 0 p cs O hp hO hl hg;obtain⟨j2,q2⟩:=zCm P (n+1) 0 0 p cs O hp hm ok hl hg;obtain⟨j3,q3,h3⟩:=zKh P (n+6) 0 (rowsF cs p O) (by simp[rowsF]; omega) (by omega) (fun x hx=>by have:=hg x (zBl hx); omega);have eS:srtN (rowsF cs p O).flatten=srtN O:=by
  unfold srtN;refine List.filter_congr fun g _=>?_;rw[Bool.eq_iff_iff];simp only[List.contains_iff_mem];refine⟨fun h=>zBl h,fun h=>?_⟩;have hgl:=hg g h;have hc:cs[g]? = some (covA cs g):=by simp[covA,hgl]
  have okc:=ok _ (List.mem_of_getElem? hc);cases ec:covA cs g with
  | nil=>exact absurd ec okc.ne
  | cons i c=>
   have hi:i∈covA cs g:=by rw[ec]; exact zm2
   have rg:=okc.rg i hi;refine List.mem_flatten.mpr ⟨fil cs i.toNat O,List.mem_map.mpr ⟨i.toNat,List.mem_range.mpr (by omega),rfl⟩,List.mem_filter.mpr ⟨h,decide_eq_true ?_⟩⟩;rw[Int.toNat_of_nonneg rg.1]; exact hi
 rw[eS] at q3;have hlt:∀{Q:List Nat},(∀x∈Q,x∈O)->∀x∈Q,x<6:=fun h x hx=>by have:=hg x (h x hx); omega
 have mS:∀{Q:List Nat},(∀x∈Q,x∈O)->∀x,x∈srtN Q↔x∈Q:=fun h x=>by
  constructor
  ·intro hx; simpa using (List.mem_filter.mp hx).2
  ·intro hx; exact (zIr (hlt h x hx)).mpr hx
 obtain⟨j,d,e,hj,rfl⟩:=Ou.runP (G:=G) (n:=n+7) (f:=39) (i:=2) (s := "order") (F:=zAY) (vs:=[(k,wd p cs),(k1,wrD (rowsF cs p O))]) (init:=zAY.body.dropLast) (P:=fun d=>d=.lst (natL es)) P.f39 rfl rfl rfl (by
  show Ou G (run G (n+7)) [] [some (0,wd p cs),some (0,wrD (rowsF cs p O)),none,none,none] _ _ _ _;refine Ou.ex (x:=(j1,.non)) (by simp[P.f35,zAQ,q1]) ?_;refine Ou.ex (x:=(j2,.non)) (by simp[P.f36,zAK,q2]) ?_;refine Ou.setK (x:=(99,.lst [])) (by simp) (by simp) ?_;refine Ou.setD (j:=1) (x:=(j3,.lst (natL (srtN O)))) (by simp[P.v.f24,zA4,q3]) h3 ?_;refine Ou.low (a':=[some (0,wd p cs),some (0,wrD (rowsF cs p O)),some (99,.lst []),some (1,.lst (natL (srtN O))),none]) (.of_eq (by simp)) ?_;refine Ou.low (a':=[some (0,wd p cs),some (0,wrD (rowsF cs p O)),some (1,.lst (natL [])),some (1,.lst (natL (srtN O))),none]) (.cons (.refl _) (.cons (.refl _) (.cons ⟨rfl,by decide⟩ (.refl _)))) ?_;refine Ou.whl (fun n a=>∃(x4:Option KD) (res Q ee:List Nat),a=[some (0,wd p cs),some (0,wrD (rowsF cs p O)),some (1,.lst (natL res)),some (1,.lst (natL (srtN Q))),x4]/\Topo cs Q ee/\res++ee=es/\(∀j,fil cs j O=fil cs j res++fil cs j Q)/\(∀x∈res,x∉Q)/\(∀x∈Q,x∈O)/\Q.Nodup/\n=Q.length) O.length (by omega) ⟨none,[],O,es,rfl,hT,rfl,fun j=>rfl,by simp,fun x h=>h,hO,rfl⟩ ?_;rintro m a ⟨x4,res,Q,ee,ha,hTo,he,hr,hdj,hsub,hnd,hm'⟩;subst ha;cases hTo with
  | nil=>
   refine .inl ⟨99,by simp[srtN,natL],Ou.nil ⟨0,.lst (natL res),by simp,?_⟩⟩;rw[List.append_nil] at he;rw[he]
  | @cons g Q1 Q2 ee hgn hd least hTo=>
   have hgQ:g∈Q1++g::Q2:=by simp
   have hgS:=(mS hsub g).mpr hgQ;have hne:∃y t,srtN (Q1++g::Q2)=y::t:=by
    cases e:srtN (Q1++g::Q2) with
    | nil=>rw[e] at hgS; cases hgS
    | cons y t=>exact⟨y,t,rfl⟩
   have hlenS:0<(natL (srtN (Q1++g::Q2))).length:=by
    obtain⟨y,t,e⟩:=hne;rw[e,zAG]; simp
   have hS6:(srtN (Q1++g::Q2)).length<=6:=by
    have:=List.length_filter_le (fun k=>(Q1++g::Q2).contains k) (List.range 6);simpa[srtN] using this
   refine .inr ⟨⟨99,by simp; exact hlenS⟩,(Q1++Q2).length,by rw[hm']; simp; omega,?_⟩;have cc:compD (compF G (run G (n+7)) [none,none,some (.lst (natL (srtN (Q1++g::Q2)))),some (wrD (rowsF cs p O)),some (wd p cs)] (.one 1) [(.op .eq [(.op .len [(.call 37 [(.var 4),(.var 3),(.var 1),(.var 2)])]),(.cst (.int (0)))])] (.var 1)) (natL (srtN (Q1++g::Q2)))=.ok (((srtN (Q1++g::Q2)).filter fun a=>decide (rdy cs (Q1++g::Q2) a)).map fun a=>(0,.int (a:Nat))):=by
    refine zBU (e:=fun a:Nat=>D.int (Int.ofNat a)) fun a ha=>?_;have haQ:=(mS hsub a).mp ha;obtain⟨js,us,qs,u1,u2⟩:=zC7 P (n+1) 0 0 0 0 p cs O res (Q1++g::Q2) (srtN (Q1++g::Q2)) a hp hm ok (hg a (hsub a haQ)) hO haQ (mS hsub) hdj hr;generalize wrD (rowsF cs p O)=WW at qs;generalize D.lst (natL (srtN (Q1++g::Q2)))=LL at qs;generalize wd p cs=WD at qs;by_cases hq:rdy cs (Q1++g::Q2) a
    ·have:us=[]:=u1.mpr hq;subst this;simp[compF,P.f37,zAI,qs,D.eq,hq]
    ·have hu:¬us=[]:=fun z=>hq (u1.mp z);simp[compF,P.f37,zAI,qs,D.eq,hq,hu]
   obtain⟨t,et⟩:=zFk (P:=fun a=>decide (rdy cs (Q1++g::Q2) a)) (zJd _) hgS (decide_eq_true fun j hj=>by rw[zA2,hd j hj,zAT,if_pos hj]; rfl) fun o ho hog=>decide_eq_false (least o hog ((mS hsub o).mp ho));rw[et] at cc;obtain⟨A,B,eL,hgA,eE⟩:=zEp (zJd (Q1++g::Q2)) hgS;have hg12:g∉Q1++Q2:=fun z=>by
    have hpm:(Q1++g::Q2).Perm (g::(Q1++Q2)):=List.perm_middle;exact (List.nodup_cons.mp (hpm.nodup_iff.mp hnd)).1 z
   have eS2:=zGm (Q1:=Q1) (Q2:=Q2) hg12;rw[eE] at eS2;have fd:D.find (.int g) (natL (srtN (Q1++g::Q2)))=some A.length:=by rw[eL,zCg (by simp),zB3 hgA]
   have er:(natL (srtN (Q1++g::Q2))).eraseIdx A.length=natL (srtN (Q1++Q2)):=by rw[eL,zHm,eS2]
   have isI:=zIp (srtN (Q1++g::Q2));have lS:(natL (srtN (Q1++g::Q2))).length<=SL:=by rw[zAG]; omega
   generalize natL (srtN (Q1++g::Q2))=LS at cc fd er isI lS hlenS;have hrl:res.length<=36:=by
    have h1:=congrArg List.length he;have h2:=hT.perm.length_eq;simp at h1;omega
   have jk:joinK (((g::t).map fun a=>((0:Nat),D.int (a:Nat))))=98:=zBw fun x hx=>by
    obtain⟨c,_,rfl⟩:=zp8 hx;simp
   refine Ou.setK (x:=(99,.lst (natL (g::t)))) ?_ ?_ ?_
   ·simp[cc,lS,natL,Function.comp_def];simpa using jk
   ·simp[natL]
   refine Ou.low (a':=[some (0,wd p cs),some (0,wrD (rowsF cs p O)),some (1,.lst (natL res)),some (1,.lst LS),some (0,.lst (natL (g::t)))]) (.cons (.refl _) (.cons (.refl _) (.cons (.refl _) (.cons (.refl _) (.cons ⟨rfl,Nat.zero_le _⟩ .nil))))) ?_;have i0:ixOp (.lst (natL (g::t))) (.int 0)=some (0,.int (g:Nat)):=zMQ (A:=[]) (B:=t) (a:=g);have hn0:(natL (g::t)).length=t.length+1:=by rw[zAG]; rfl
   refine Ou.iffN (j:=99) (by simp[hn0,D.eq]; omega) ?_;generalize D.lst (natL (g::t))=RD at i0;refine Ou.append (k:=0) (xs:=natL res) (v:=(0,.int (g:Nat))) (by simp[frz,frz1]) (by simp[-ixOp,i0]) (by rw[zAG]; omega) ?_;refine Ou.low (a':=[some (0,wd p cs),some (0,wrD (rowsF cs p O)),some (1,.lst (natL (res++[g]))),some (1,.lst LS),some (0,RD)]) (.of_eq (by simp[frz,frz1,natL])) ?_;refine Ou.remove (k:=0) (p:=A.length) (jj:=0) (n:=(g:Nat)) (xs:=LS) (by simp) (by simp[-ixOp,i0]) isI fd ?_;rw[er];refine Ou.nil ⟨some (0,RD),res++[g],Q1++Q2,ee,by simp,hTo,by simpa using he,fun j=>?_,fun x hx=>?_,fun x hx=>hsub x ?_,?_,rfl⟩
   ·have e1:=hr j;rw[zIJ (hd j)] at e1;have e4:fil cs j (res++[g])=fil cs j res++fil cs j [g]:=zA2 cs j res [g];have e5:fil cs j [g]=if (j:Int)∈covA cs g then [g] else []:=zAT cs j g []
    rw[e1,e4,e5];by_cases hj:(j:Int)∈covA cs g
    ·rw[if_pos hj,if_pos hj]; simp
    ·rw[if_neg hj,if_neg hj]; simp
   ·rcases zp3 hx with hx | hx
    ·intro z;exact hdj x hx (by rcases zp3 z with z | z <;> simp[z])
    ·rw[List.mem_singleton.mp hx]; exact hg12
   ·rcases zp3 hx with z | z <;> simp[z]
   ·have hpm:(Q1++g::Q2).Perm (g::(Q1++Q2)):=List.perm_middle;exact (List.nodup_cons.mp (hpm.nodup_iff.mp hnd)).2)
 exact⟨j,e,hj⟩
end Ip
end
section
namespace Ip
open PySem (Str)
noncomputable def stO (p:Nat)(cs:List (List Int))(Z:List (List Nat)):D:=.tup (Z.map fun O=>wrD (rowsF cs p O))
structure Sg (cs:List (List Int))(Z:List (List Nat)):Prop where
 nd:Z.flatten.Nodup
 lt:∀g∈Z.flatten,g<cs.length
section
variable {p:Nat}{cs:List (List Int)}{Z:List (List Nat)}{g q:Nat}{O:List Nat}
theorem Sg.wn (h:Sg cs Z)(hO:O∈Z):Wn cs O:=⟨h.nd.sublist (List.sublist_flatten_of_mem hO),fun g hg=>h.lt g (List.mem_flatten.mpr ⟨O,hO,hg⟩)⟩
noncomputable def wrN (Z:List (List Nat))(g:Nat):Option Nat:=Z.findIdx? fun O=>decide (g∈O)
noncomputable def wrND (Z:List (List Nat))(g:Nat):D:=match wrN Z g with
 | some i=>.int i
 | none=>.non
theorem zEQ:wrN Z g=none↔g∉Z.flatten:=by
 unfold wrN;rw[List.findIdx?_eq_none_iff,List.mem_flatten];simp
theorem zF5 {i:Nat}(h:wrN Z g=some i):∃O,Z[i]? = some O/\g∈O:=by
 unfold wrN at h;obtain⟨hi,h1,_⟩:=List.findIdx?_eq_some_iff_getElem.mp h;exact⟨Z[i],List.getElem?_eq_getElem hi,of_decide_eq_true h1⟩
theorem zJz (h:Z[q]? = some O)(hg:g∈O):g∈Z.flatten:=List.mem_flatten.mpr ⟨O,List.mem_of_getElem? h,hg⟩
theorem zLM (nd:Z.flatten.Nodup)(h:Z[q]? = some O)(hg:g∈O):wrN Z g=some q:=by
 induction Z generalizing q with
 | nil=>cases h
 | cons P Z ih=>
  rw[List.flatten_cons] at nd;obtain⟨n1,n2,n3⟩:=List.nodup_append.mp nd;unfold wrN;rw[List.findIdx?_cons];cases q with
  | zero=>
   cases h;rw[if_pos (decide_eq_true hg)]
  | succ q=>
   have h':Z[q]? = some O:=h;have:g∉P:=fun z=>n3 g z g (zJz h' hg) rfl;rw[if_neg (by simpa using this)];have:=ih n2 h';unfold wrN at this;rw[this];rfl
theorem zJe {O':List Nat}(h:Z[q]? = some O):∃A B:List (List Nat),Z=A++O::B/\Z.set q O'=A++O'::B:=by
 obtain⟨hq,e⟩:=zp6 h;refine⟨Z.take q,Z.drop (q+1),?_,?_⟩
 ·rw[<-e,<-List.drop_eq_getElem_cons hq,List.take_append_drop]
 ·rw[List.set_eq_take_append_cons_drop,if_pos hq]
theorem Sg.on (s:Sg cs Z)(h:Z[q]? = some O)(hg:g<cs.length)(hn:wrN Z g=none):Sg cs (Z.set q (O++[g])):=by
 obtain⟨A,B,e1,e2⟩:=zJe (O':=O++[g]) h;have pm:(Z.set q (O++[g])).flatten.Perm (g::Z.flatten):=by
  rw[e2,e1];simp only[List.flatten_append,List.flatten_cons];have:(A.flatten++(O++[g]++B.flatten))=(A.flatten++O)++g::B.flatten:=by simp
  rw[this];refine List.perm_middle.trans ?_;simp
 refine⟨pm.nodup_iff.mpr (List.nodup_cons.mpr ⟨zEQ.mp hn,s.nd⟩),fun x hx=>?_⟩;rcases zp1 (pm.mem_iff.mp hx) with rfl | hx
 ·exact hg
 ·exact s.lt x hx
theorem Sg.off (s:Sg cs Z)(h:Z[q]? = some O):Sg cs (Z.set q (rmv g O)):=by
 obtain⟨A,B,e1,e2⟩:=zJe (O':=rmv g O) h;have sb:(Z.set q (rmv g O)).flatten.Sublist Z.flatten:=by
  rw[e2,e1];simp only[List.flatten_append,List.flatten_cons];exact .append (.refl _) (.append List.filter_sublist (.refl _))
 exact⟨s.nd.sublist sb,fun x hx=>s.lt x (sb.subset hx)⟩
inductive Dd (cs:List (List Int)) (Z:List (List Nat)):D->List (List Nat)->Prop
 | on {q g:Nat} {O:List Nat} (hO:Z[q]? = some O) (hg:g<cs.length) (h:wrN Z g=none):Dd cs Z (.tup [.int q,.str "on",.int g]) (Z.set q (O++[g]))
 | off {q g:Nat} {O:List Nat} (hO:Z[q]? = some O) (h:g∈O) (e:ovr cs O g=[]):Dd cs Z (.tup [.int q,.str "off",.int g]) (Z.set q (rmv g O))
theorem Dd.good {d:D}{Z':List (List Nat)}(s:Sg cs Z)(h:Dd cs Z d Z'):Sg cs Z'/\Z'.length=Z.length:=by
 cases h with
 | on hO hg h=>exact⟨s.on hO hg h,by simp⟩
 | off hO h e=>exact⟨s.off hO,by simp⟩
end
theorem zFi {p:Nat}{cs:List (List Int)}{Z:List (List Nat)}{i:Nat}{O:List Nat}(h:Z[i]? = some O):ixOp (stO p cs Z) (.int i)=some (0,wrD (rowsF cs p O)):=by
 obtain⟨hi,e⟩:=zp6 h;have h':(i:Int)<Z.length:=by omega
 simp[stO,ixOp,ixD,h',hi,e]
theorem zJ6 (p:Nat)(cs:List (List Int))(Z:List (List Nat))(q:Nat)(O:List Nat):stO p cs (Z.set q O)=.tup ((Z.map fun O=>wrD (rowsF cs p O)).set q (wrD (rowsF cs p O))):=by rw[stO,List.map_set]
theorem zFr (p:Nat)(cs:List (List Int))(Z:List (List Nat)):wkD .enum [(0,stO p cs Z)]=some ((List.range' 0 Z.length).map fun (n:Nat)=>D.tup [.int n,wrD (rowsF cs p (Z.getD n []))]):=by
 show some ((Z.map fun O=>wrD (rowsF cs p O)).mapIdx fun n d=>D.tup [.int n,d])=_;congr 1
 refine List.ext_getElem? fun j=>?_;rw[List.getElem?_mapIdx,List.getElem?_map,List.getElem?_map];by_cases hj:j<Z.length
 ·rw[List.getElem?_eq_getElem hj,List.getElem?_range' hj];simp[hj]
 ·rw[List.getElem?_eq_none (by omega),List.getElem?_eq_none (by simp; omega)];rfl
theorem zF6 {Z:List (List Nat)}{g i:Nat}(hi:i<Z.length)(h:g∈Z[i])(hn:∀j (hj:j<Z.length),j<i->g∉Z[j]):wrND Z g=.int i:=by
 have:wrN Z g=some i:=by
  unfold wrN;rw[List.findIdx?_eq_some_iff_getElem];exact⟨hi,decide_eq_true h,fun j hj=>by simpa using hn j (by omega) hj⟩
 simp[wrND,this]
theorem zF7 {Z:List (List Nat)}{g:Nat}(hn:∀j (hj:j<Z.length),g∉Z[j]):wrND Z g=.non:=by
 have:wrN Z g=none:=by
  rw[zEQ,List.mem_flatten];rintro⟨O,hO,hg⟩;obtain⟨j,hj,rfl⟩:=List.mem_iff_getElem.mp hO;exact hn j hj hg
 simp[wrND,this]
theorem zJv:(D.str "on").pur 60=true:=by decide +kernel
theorem zGU:(D.str "off").pur 60=true:=by decide +kernel
theorem zMI:(D.str "on").eq (.str "on")=true:=by decide +kernel
theorem zJy:(D.str "off").eq (.str "on")=false:=by decide +kernel
theorem zLm (r:List Nat):cutOp none (some (-1)) (rowD r)=some (0,rowD r.dropLast):=by simp only[rowD,cutOp,zHu,zG1]
theorem zI6 {p:Nat}{cs:List (List Int)}{O:List Nat}(C:Cv p cs)(w:Wn cs O)(g:Nat):((rowsF cs p O).any fun r=>decide (g∈r))=decide (g∈O):=by
 rw[Bool.eq_iff_iff];simp only[List.any_eq_true,decide_eq_true_eq];constructor
 ·rintro⟨r,hr,hg⟩;exact zBl (List.mem_flatten.mpr ⟨r,hr,hg⟩)
 ·intro h;exact List.mem_flatten.mp (zHU C w h)
theorem zLX {p:Nat}{cs:List (List Int)}{Z:List (List Nat)}{q:Nat}{O:List Nat}(hq:q<Z.length)(hl:Z.length<=3):addD (.tup ((Z.map fun O=>wrD (rowsF cs p O)).take q)) (.tup [wrD (rowsF cs p O)])=some (0,.tup ((Z.map fun O=>wrD (rowsF cs p O)).take q++[wrD (rowsF cs p O)]))/\addD (.tup ((Z.map fun O=>wrD (rowsF cs p O)).take q++[wrD (rowsF cs p O)])) (.tup ((Z.map fun O=>wrD (rowsF cs p O)).drop (q+1)))=some (0,stO p cs (Z.set q O)):=by
 have h9:9<=SL:=by decide
 rw[zJ6];have hl':(Z.map fun O=>wrD (rowsF cs p O)).length<=3:=by simpa using hl
 have hq':q<(Z.map fun O=>wrD (rowsF cs p O)).length:=by simpa using hq
 generalize (Z.map fun O=>wrD (rowsF cs p O))=L at hl' hq';generalize wrD (rowsF cs p O)=W;constructor
 ·have:(L.take q).length+[W].length<=SL:=by simp; omega
  simp only[addD];rw[if_pos this]
 ·have:(L.take q++[W]).length+(L.drop (q+1)).length<=SL:=by simp; omega
  simp only[addD];rw[if_pos this,List.set_eq_take_append_cons_drop,if_pos hq'];simp
theorem zLp (G:Pg)(cl:Nat->List KD->Run)(W:List (List Nat))(g:Nat):compD (compF G cl [none,none,some (.int g)] (.one 1) [] (.op .isin [(.var 2),(.var 1)])) (W.map rowD)=.ok (W.map fun r=>(99,.bl (decide (g∈r)))):=
 zBg fun r _=>by
  have:=zBQ r;simp[-List.all_eq_true,compF,rowD,zBc,this]
theorem zFl {α:Type}(x:α):∀n:Nat,(List.replicate n [x]).flatten=List.replicate n x
 | 0=>rfl
 | n+1=>by rw[List.replicate_succ,List.flatten_cons,zFl x n]; rfl
theorem mul_one {x:D}{m:Nat}(hm:1<=m/\m<=6):mulD (.tup [x]) (.int m)=some (0,.tup (List.replicate m x)):=by
 have h3:[x].length * (m:Int).toNat<=SL:=by
  have:6<=SL:=by decide
  simp; omega
 have c:[x].isEmpty=false/\1<=(m:Int)/\(m:Int)<=1000/\[x].length * (m:Int).toNat<=SL:=⟨rfl,by omega,by omega,h3⟩
 simp only[mulD];rw[if_pos c,Int.toNat_natCast,zFl]
theorem zII {p m:Nat}(cs:List (List Int))(hp:1<=p/\p<=6)(hm:1<=m/\m<=6):mulD (.tup [.tup []]) (.int p)=some (0,wrD (rowsF cs p []))/\mulD (.tup [wrD (rowsF cs p [])]) (.int m)=some (0,stO p cs (List.replicate m [])):=by
 have h1:=mul_one (x:=.tup []) hp;have h2:=mul_one (x:=wrD (rowsF cs p [])) hm;have e0:rowsF cs p []=List.replicate p []:=List.eq_replicate_iff.mpr ⟨zBv _ _ _,by simp[rowsF,fil]⟩;have e1:wrD (rowsF cs p [])=.tup (List.replicate p (.tup [])):=by
  rw[e0,wrD,List.map_replicate]; rfl
 have e2:stO p cs (List.replicate m [])=.tup (List.replicate m (wrD (rowsF cs p []))):=by
  rw[stO,List.map_replicate]
 rw[e2];exact⟨by rw[h1,e1],h2⟩
theorem zOD {p:Nat}{cs:List (List Int)}(hp:1<=p/\p<=6)(hm:cs.length<=6)(ok:∀c∈cs,OkC p c):Cv p cs:=by
 have h:∀g,covA cs g=[]/\cs.length<=g\/OkC p (covA cs g):=fun g=>by
  unfold covA;rw[List.getD_eq_getElem?_getD];by_cases hg:g<cs.length
  ·rw[List.getElem?_eq_getElem hg]; exact .inr (ok _ (List.getElem_mem hg))
  ·rw[List.getElem?_eq_none (by omega)]; exact .inl ⟨rfl,by omega⟩
 refine⟨hp.1,hp.2,hm,fun g hg=>?_,fun g i hi=>?_,fun g=>?_,fun g=>?_⟩
 ·rcases h g with ⟨_,e⟩ | o
  ·omega
  ·exact o.ne
 ·rcases h g with ⟨e,_⟩ | o
  ·rw[e] at hi; cases hi
  ·exact o.rg i hi
 ·rcases h g with ⟨e,_⟩ | o
  ·rw[e]; exact .nil
  ·exact o.nd
 ·rcases h g with ⟨e,_⟩ | o
  ·rw[e]; simp
  ·exact o.ln
theorem zIV {α β:Type}(f:α->β)(xs:List α)(lo hi:Option Int):cutD (xs.map f) lo hi=(cutD xs lo hi).map f:=by
 simp[cutD,List.map_take,List.map_drop]
theorem zK7 {r:List Nat}{x:Nat}:ixOp (rowD (r++[x])) (.int (-1))=some (0,.int x):=by
 have:=zIx (n:=r.length+1) (by omega);simp[rowD,ixOp,natL,this]
theorem zIz (c:List Int):(c.map D.int).all (D.pur 60)=true:=by simp
variable {G:Pg}(P:Pm G)
include P
theorem zGv (n k k':Nat)(p:Nat)(cs:List (List Int))(Z:List (List Nat))(g:Nat)(C:Cv p cs)(s:Sg cs Z)(hl:Z.length<=3):∃j,run G (n+1) 115 [(k,stO p cs Z),(k',.int g)]=.ret j (wrND Z g) []:=by
 have hl':Z.length<=SL:=zm9 hl (by decide);have key:Ou G (run G n) [] [some (0,stO p cs Z),some (0,.int g),none] zAF.body (fun _=>False) (fun d=>d=wrND Z g) fun _ _ _=>False:=by
  refine Ou.fo (fun r a=>∃(x2:Option KD) (i l:Nat),a=[some (0,stO p cs Z),some (0,.int g),x2]/\r=(List.range' i l).map (fun (n:Nat)=>D.int n)/\i+l=Z.length/\∀j (hj:j<Z.length),j<i->g∉Z[j]) (vs:=[(99,.int Z.length)]) (by simp[stO]) (wk_rng1 hl') (by simpa using hl') ⟨none,0,Z.length,by simp,by rw[List.range_eq_range'],by omega,fun j hj h=>by omega⟩ ?_ ?_
  ·rintro x r a ⟨x2,i,l,ha,hr,hil,hn⟩;cases l with
   | zero=>simp at hr
   | succ l=>
    rw[List.range'_succ,List.map_cons,List.cons.injEq] at hr;obtain⟨rfl,rfl⟩:=hr;subst ha;have hi:i<Z.length:=by omega
    have ix:=zFi (p:=p) (cs:=cs) (List.getElem?_eq_getElem hi);have cc:=zLp G (run G n) (rowsF cs p Z[i]) g;have hws:(rowsF cs p Z[i]).length<=SL:=by rw[zBv]; exact zm9 C.p6 (by decide)
    have hsq:(wrD (rowsF cs p Z[i])).seq=some ((rowsF cs p Z[i]).map rowD):=rfl;have an:=zFz (fun r=>decide (g∈r)) (rowsF cs p Z[i]);rw[zI6 C (s.wn (List.getElem_mem hi)) g] at an;refine⟨_,zAt rfl,?_⟩;have hev:∀a:Fr,a=[some (0,stO p cs Z),some (0,.int g),some (0,.int i)]->eval G (run G n) a.sl (.op .any [(.comp [none,none,(some 1)] (.one 1) .seq [(.op .ix [(.var 0),(.var 2)])] [] (.op .isin [(.var 2),(.var 1)]))])=.ok (99,.bl (decide (g∈Z[i]))):=by
     intro a ea;subst ea;generalize stO p cs Z=T at ix;generalize wrD (rowsF cs p Z[i])=Y at ix hsq;simp[-ixOp,-D.seq,ix,hsq,cc,hws,Function.comp_def,an]
    by_cases hb:g∈Z[i]
    ·rw[decide_eq_true hb] at hev;refine Ou.iffT (j:=99) (hev _ rfl) ?_;exact Ou.ret (x:=(0,.int i)) rfl (zF6 hi hb hn).symm
    ·rw[decide_eq_false hb] at hev;refine Ou.iffN (j:=99) (hev _ rfl) ?_;refine Ou.nil ⟨some (0,.int i),i+1,l,by simp,rfl,by omega,fun j hj h=>?_⟩;by_cases e:j=i
     ·subst e; exact hb
     ·exact hn j hj (by omega)
  ·rintro a ⟨x2,i,l,ha,hr,hil,hn⟩;subst ha;have hl0:l=0:=by
    cases l with
    | zero=>rfl
    | succ l=>rw[List.range'_succ] at hr; simp at hr
   subst hl0;exact Ou.ret (x:=(99,.non)) rfl (zF7 fun j hj=>hn j hj (by omega)).symm
 obtain⟨j,d,e,rfl⟩:=Ou.run (n:=n) (vs:=[(k,stO p cs Z),(k',.int g)]) (V:=fun d=>d=wrND Z g) P.f115 rfl rfl (key.mono (fun _ h=>h.elim) (fun _ h=>h) fun _ _ _ h=>h);exact⟨j,e⟩
theorem zE2 (n k k' k'':Nat)(p:Nat)(cs:List (List Int))(Z:List (List Nat))(C:Cv p cs)(s:Sg cs Z)(hl3:Z.length<=3)(q g:Nat)(O O':List Nat)(hO:Z[q]? = some O)(hg:g<cs.length)(w:Str)(f:List Nat->List Nat)
  (hw:w = "on" /\ f=(fun r=>r++[g])\/w = "off" /\ f=List.dropLast)(hmod:modR f (covA cs g) (rowsF cs p O)=rowsF cs p O'):∃j,run G (n+1) 117 [(k,stO p cs Z),(k',.tup [.int q,.str w,.int g]),(k'',cvsD cs)]=.ret j (stO p cs (Z.set q O')) []:=by
 have hq:q<Z.length:=(zp6 hO).1;have wn:=s.wn (List.mem_of_getElem? hO);have hl:p<=SL:=zm9 C.p6 (by decide);have ix1:=zFi (p:=p) (cs:=cs) hO;have ix2:=zJE hg;have hsq:(wrD (rowsF cs p O)).seq=some ((rowsF cs p O).map rowD):=rfl;have hsl:((rowsF cs p O).map rowD).length=p:=by rw[List.length_map,zBv]
 have hsS:stO p cs Z=.tup (Z.map fun O=>wrD (rowsF cs p O)):=rfl;have c1:=zDw (Z.map fun O=>wrD (rowsF cs p O)) q;have c2:=zEJ (Z.map fun O=>wrD (rowsF cs p O)) (q+1);have e2:((q+1:Nat):Int)=(q:Int)+1:=by omega
 rw[e2] at c2;have ct1:cutOp none (some (q:Int)) (stO p cs Z)=some (0,.tup ((Z.map fun O=>wrD (rowsF cs p O)).take q)):=by simp only[hsS,cutOp,c1]
 have ct2:cutOp (some ((q:Int)+1)) none (stO p cs Z)=some (0,.tup ((Z.map fun O=>wrD (rowsF cs p O)).drop (q+1))):=by simp only[hsS,cutOp,c2]
 obtain⟨a1,a2⟩:=zLX (p:=p) (cs:=cs) (O:=O') hq hl3;have hrow:∀i,i<p->ixOp (wrD (rowsF cs p O)) (.int i)=some (0,rowD (fil cs i O)):=fun i hi=>zB2 hi;have hlen:(rowsF cs p O').length=p:=zBv _ _ _;have hget:∀i,i<p->(rowsF cs p O')[i]? = some (if (i:Int)∈covA cs g then f (fil cs i O) else fil cs i O):=fun i hi=>by
  rw[<-hmod,zDj f _ _ (C.nd g) (fun i hi=>by rw[zBv]; exact C.rg g i hi)];simp[rowsF,hi]
 have hrl:∀i,(fil cs i O).length<=6:=fun i=>zm9 (List.length_filter_le _ _) (wn.len C);have ewr:wrD (rowsF cs p O')=.tup ((rowsF cs p O').map rowD):=rfl;rw[ewr] at a1 a2;generalize hR:stO p cs (Z.set q O')=R at a2;generalize stO p cs Z=T at ix1 ct1 ct2;generalize wrD (rowsF cs p O)=Y at ix1 hsq hrow;generalize cvsD cs=K at ix2;generalize rowsF cs p O'=W' at *;generalize (Z.map fun O=>wrD (rowsF cs p O)).take q=S1 at *;generalize (Z.map fun O=>wrD (rowsF cs p O)).drop (q+1)=S2 at *;generalize covA cs g=c at *;have key:Ou G (run G n) [] [some (0,T),some (0,.tup [.int q,.str w,.int g]),some (0,K),none,none,none,none,none,none] zA8.body (fun _=>False) (fun d=>d=R) fun _ _ _=>False:=by
  refine Ou.setT (j:=0) (ds:=[.int q,.str w,.int g]) (by simp) ?_;refine Ou.setK (x:=(99,.lst [])) (by simp) (by simp) ?_;refine Ou.low (a':=[some (0,T),some (0,.tup [.int q,.str w,.int g]),some (0,K),some (0,.int q),some (0,.str w),some (0,.int g),some (1,.lst []),none,none]) (.cons (.refl _) (.cons (.refl _) (.cons (.refl _) (.cons (.refl _) (.cons (.refl _) (.cons (.refl _) (.cons ⟨rfl,by decide⟩ (.refl _)))))))) ?_;refine Ou.fo (fun r a=>∃(x7 x8:Option KD) (i l:Nat),a=[some (0,T),some (0,.tup [.int q,.str w,.int g]),some (0,K),some (0,.int q),some (0,.str w),some (0,.int g),some (1,.lst ((W'.take i).map rowD)),x7,x8]/\r=(List.range' i l).map (fun (n:Nat)=>D.int n)/\i+l=p) (vs:=[(99,.int p)]) (by simp only[List.length_map] at hsl; simp[-ixOp,-D.seq,ix1,hsq,hsl]) (wk_rng1 hl) (by simpa using hl) ⟨none,none,0,p,by simp,by rw[List.range_eq_range'],by omega⟩ ?_ ?_
  ·rintro x r a ⟨x7,x8,i,l,ha,hr,hil⟩;cases l with
   | zero=>simp at hr
   | succ l=>
    rw[List.range'_succ,List.map_cons,List.cons.injEq] at hr;obtain⟨rfl,rfl⟩:=hr;subst ha;have hi:i<p:=by omega
    have ix3:=hrow i hi;have hg:=hget i hi;have hln:=hrl i;generalize fil cs i O=row at ix3 hg hln;have mb:=zDk i c;have sc:=zIz c;refine⟨_,zAt rfl,?_⟩;refine Ou.set (x:=(0,rowD row)) (by simp[-ixOp,ix1,ix3]) ?_;have fin:∀(row':List Nat) (a:Fr),W'[i]? = some row'->a=[some (0,T),some (0,.tup [.int q,.str w,.int g]),some (0,K),some (0,.int q),some (0,.str w),some (0,.int g),some (1,.lst ((W'.take i).map rowD)),some (0,.int i),some (0,rowD row')]->Ou G (run G n) [] a [.mut 6 [] .append [(.var 8)]] (fun a=>∃(x7 x8:Option KD) (i' l':Nat),a=[some (0,T),some (0,.tup [.int q,.str w,.int g]),some (0,K),some (0,.int q),some (0,.str w),some (0,.int g),some (1,.lst ((W'.take i').map rowD)),x7,x8]/\(List.range' (i+1) l).map (fun (n:Nat)=>D.int n)=(List.range' i' l').map (fun (n:Nat)=>D.int n)/\i'+l'=p) (fun d=>d=R) fun _ _ _=>False:=by
     intro row' a eg ea;subst ea;refine Ou.append (k:=0) (xs:=(W'.take i).map rowD) (v:=(0,rowD row')) (by simp[frz,frz1]) (by simp) ?_ ?_
     ·rw[List.length_map,List.length_take,hlen];omega
     ·refine Ou.nil ⟨some (0,.int i),some (0,rowD row'),i+1,l,?_,rfl,by omega⟩;have:W'.take (i+1)=W'.take i++[row']:=by rw[List.take_succ,eg]; rfl
      rw[this];simp[frz,frz1]
    by_cases hb:(i:Int)∈c
    ·rw[if_pos hb] at hg;refine Ou.iffT (j:=99) (by simp[-ixOp,-List.all_eq_true,ix2,mb,sc,hb]) ?_;have ct:=zLm row;have ad:=zLG (r:=row) (g:=g) (by omega);have op:=zJv;have fp:=zGU;have oo:=zMI;have fo:=zJy;rcases hw with ⟨rfl,rfl⟩ | ⟨rfl,rfl⟩
     ·refine Ou.set (x:=(0,rowD (row++[g]))) ?_ (Ou.nil ?_)
      ·generalize rowD row=Y at ct ad;generalize rowD (row++[g])=Y2 at ad;generalize D.str "on" = E at op oo;simp[-addD,-cutOp,-ixOp,ct,ad,op,oo];simp[ixD]
      ·exact fin _ _ hg (by simp)
     ·refine Ou.set (x:=(0,rowD row.dropLast)) ?_ (Ou.nil ?_)
      ·generalize rowD row=Y at ct ad;generalize rowD (row++[g])=Y2 at ad;generalize rowD row.dropLast=Y3 at ct;generalize D.str "on" = E at op fo;generalize D.str "off" = F at fp fo;simp[-addD,-cutOp,-ixOp,ct,ad,op,fo,fp];simp[ixD]
      ·exact fin _ _ hg (by simp)
    ·rw[if_neg hb] at hg;refine Ou.iffN (j:=99) (by simp[-ixOp,-List.all_eq_true,ix2,mb,sc,hb]) ?_;exact fin _ _ hg (by simp)
  ·rintro a ⟨x7,x8,i,l,ha,hr,hil⟩;have hl0:l=0:=by
    cases l with
    | zero=>rfl
    | succ l=>rw[List.range'_succ] at hr; simp at hr
   subst hl0 ha;have:W'.take i=W':=List.take_of_length_le (by omega);rw[this];have a0:addD (.int q) (.int 1)=some (99,.int ((q:Int)+1)):=rfl;exact Ou.ret (x:=(0,R)) (by simp[-addD,-cutOp,ct1,ct2,a0,a1,a2]) rfl
 obtain⟨j,d,e,rfl⟩:=Ou.run (n:=n) (vs:=[(k,T),(k',.tup [.int q,.str w,.int g]),(k'',K)]) (V:=fun d=>d=R) P.f117 rfl rfl (key.mono (fun _ h=>h.elim) (fun _ h=>h) fun _ _ _ h=>h);exact⟨j,e⟩
theorem zKj (n k k' k'':Nat)(p:Nat)(cs:List (List Int))(Z Z':List (List Nat))(d:D)(C:Cv p cs)(s:Sg cs Z)(hl:Z.length<=3)(h:Dd cs Z d Z'):∃j,run G (n+1) 117 [(k,stO p cs Z),(k',d),(k'',cvsD cs)]=.ret j (stO p cs Z') []:=by
 cases h with
 | on hO hg h=>exact zE2 P n k k' k'' p cs Z C s hl _ _ _ _ hO hg _ _ (.inl ⟨rfl,rfl⟩) (by rw[<-zE4]; exact zH0 C)
 | off hO h e=>
  have w:=s.wn (List.mem_of_getElem? hO);exact zE2 P n k k' k'' p cs Z C s hl _ _ _ _ hO (w.lt _ h) _ _ (.inr ⟨rfl,rfl⟩) (zIm C w.nd h e)
theorem zMf (n k k' k'':Nat)(p:Nat)(c:Int)(cs:List (List Int))(Z:List (List Nat))(C:Cv p cs)(s:Sg cs Z)(hl:1<=Z.length/\Z.length<=3) :
  ∃j d,run G (n+2) 116 [(k,.int c),(k',stO p cs Z),(k'',cvsD cs)]=.ret j d []/\(d=.non\/∃Z',Dd cs Z d Z'):=by
 have key:Ou G (run G (n+1)) [] [some (0,.int c),some (0,stO p cs Z),some (0,cvsD cs),none,none] zBj.body (fun _=>False) (fun d=>d=.non\/∃Z',Dd cs Z d Z') fun _ _ _=>False:=by
  by_cases h0:cs.length=0
  ·refine Ou.iffT (j:=99) (by simp[cvsD,h0,D.eq]) ?_;exact Ou.ret (x:=(99,.non)) (by simp) (.inl rfl)
  ·have hne:¬cs=[]:=fun e=>h0 (by rw[e]; rfl);refine Ou.iffN (j:=99) (by simp[cvsD,D.eq,hne]) ?_;obtain⟨g',j1,q1,hg0,hg1⟩:=zDL P.d n 0 99 99 c 21 cs.length (by omega) (by decide);obtain⟨g,rfl⟩:∃g:Nat,g'=(g:Int):=⟨g'.toNat,by omega⟩
   have hg:g<cs.length:=by omega
   refine Ou.set (x:=(j1,.int g)) (by simp[cvsD,P.d.f71,zAA,q1]) ?_;obtain⟨j2,q2⟩:=zGv P n 0 0 p cs Z g C s hl.2;refine Ou.set (x:=(j2,wrND Z g)) (by simp[P.f115,zAF,q2]) ?_;unfold wrND;cases e:wrN Z g with
   | none=>
    refine Ou.iffT (j:=99) (by simp) ?_;obtain⟨q',j3,q3,hq0,hq1⟩:=zDL P.d n 0 99 99 c 22 Z.length (by omega) (by decide);obtain⟨q,rfl⟩:∃q:Nat,q'=(q:Int):=⟨q'.toNat,by omega⟩
    have hq:q<Z.length:=by omega
    refine Ou.ret (x:=(99,.tup [.int q,.str "on",.int g])) (by simp[stO,P.d.f71,zAA,q3]) ?_;exact .inr ⟨_,.on (List.getElem?_eq_getElem hq) hg e⟩
   | some i=>
    obtain⟨O,hO,hb⟩:=zF5 e;have w:=s.wn (List.mem_of_getElem? hO);refine Ou.iffN (j:=99) (by simp) ?_;have ix1:=zFi (p:=p) (cs:=cs) hO;have ix2:=zJE hg;have hcS:(covA cs g).length<=SL:=zm9 (C.ln g) (by decide);have hsp:∀x∈covA cs g,∃r y,fil cs x.toNat O=r++[y]:=fun x hx=>by
     have hin:g∈fil cs x.toNat O:=List.mem_filter.mpr ⟨hb,decide_eq_true (by rw[Int.toNat_of_nonneg (C.rg g x hx).1]; exact hx)⟩;have hne:fil cs x.toNat O≠[]:=fun e=>by rw[e] at hin; cases hin
     exact⟨_,_,(List.dropLast_concat_getLast hne).symm⟩
    have cc:compD (compF G (run G (n+1)) [none,none,some (.int g),some (.int i),some (stO p cs Z)] (.one 1) [] (.op .eq [(.op .ix [(.op .ix [(.op .ix [(.var 4),(.var 3)]),(.var 1)]),(.op .neg [(.cst (.int (1)))])]),(.var 2)])) ((covA cs g).map .int)=.ok ((covA cs g).map fun x=>(99,.bl (decide ((fil cs x.toNat O).getLastD 0=g)))):=by
     refine zBg fun x hx=>?_;obtain⟨r,y,er⟩:=hsp x hx;have hr:=C.rg g x hx;have ix3:=zB2 (cs:=cs) (O:=O) (show x.toNat<p by omega);rw[er,Int.toNat_of_nonneg hr.1] at ix3;have ix4:=zK7 (r:=r) (x:=y);rw[er];generalize rowD (r++[y])=R at ix3 ix4;generalize stO p cs Z=T at ix1;generalize wrD (rowsF cs p O)=Y at ix1 ix3;simp[-ixOp,compF,ix1,ix3,ix4,D.eq];omega
    have al:=zDB (fun x:Int=>decide ((fil cs x.toNat O).getLastD 0=g)) (covA cs g);generalize hT:stO p cs Z=T at cc;generalize hK:cvsD cs=K at ix2;have hev:∀a:Fr,a=[some (0,.int c),some (0,T),some (0,K),some (0,.int g),some (0,.int i)]->eval G (run G (n+1)) a.sl (.op .all [(.comp [none,none,(some 3),(some 4),(some 1)] (.one 1) .seq [(.op .ix [(.var 2),(.var 3)])] [] (.op .eq [(.op .ix [(.op .ix [(.op .ix [(.var 4),(.var 3)]),(.var 1)]),(.op .neg [(.cst (.int (1)))])]),(.var 2)]))])=.ok (99,.bl ((covA cs g).all fun x:Int=>decide ((fil cs x.toNat O).getLastD 0=g))):=by
     intro a ea;subst ea;simp[-ixOp,-List.all_eq_true,ix2,cc,hcS,Function.comp_def,al]
    cases hb2:(covA cs g).all fun x:Int=>decide ((fil cs x.toNat O).getLastD 0=g) with
    | true=>
     rw[hb2] at hev;refine Ou.iffT (j:=99) (hev _ (by simp)) ?_;refine Ou.ret (x:=(99,.tup [.int i,.str "off",.int g])) (by simp) ?_;refine .inr ⟨_,.off hO hb (zLT (fun i hi=>(C.rg g i hi).1) w.nd fun j hj=>?_)⟩;obtain⟨r,y,er⟩:=hsp _ hj;have:=zp7 hb2 _ hj;rw[er] at this;rw[Int.toNat_natCast] at er;have e3:y=g:=by simpa using this
     rw[e3] at er;exact⟨r,er⟩
    | false=>
     rw[hb2] at hev;refine Ou.iffN (j:=99) (hev _ (by simp)) ?_;exact Ou.ret (x:=(99,.non)) (by simp) (.inl rfl)
 obtain⟨j,d,e,h⟩:=Ou.run (n:=n+1) (vs:=[(k,.int c),(k',stO p cs Z),(k'',cvsD cs)]) (V:=fun d=>d=.non\/∃Z',Dd cs Z d Z') P.f116 rfl rfl (key.mono (fun _ h=>h.elim) (fun _ h=>h) fun _ _ _ h=>h);exact⟨j,d,e,h⟩
end Ip
end
section
namespace Ip
open PySem (Str)
noncomputable def pf (g:Nat)(l:List Nat):List Nat:=l.take (l.idxOf g)
theorem zE6 {g:Nat}{A B:List Nat}(h:g∉A):pf g (A++g::B)=A:=by
 unfold pf;rw[zB3 h,List.take_left]
theorem zLU {g:Nat}{l m:List Nat}(h:g∈l):l.take (l.idxOf g+1)=m.take (l.idxOf g+1)↔g∈m/\pf g l=pf g m:=by
 obtain⟨A,B,rfl,hA⟩:=List.eq_append_cons_of_mem h;have e1:∀B:List Nat,(A++g::B).take (A.length+1)=A++[g]:=fun B=>by
  rw[List.take_append,List.take_of_length_le (by omega)];simp
 rw[zB3 hA,zE6 hA,e1];constructor
 ·intro e;have em:m=A++g::m.drop (A.length+1):=by
   conv=>lhs; rw[<-List.take_append_drop (A.length+1) m,<-e]
   simp
  rw[em];exact⟨by simp,(zE6 hA).symm⟩
 ·rintro⟨hm,e⟩;obtain⟨A',B',rfl,hA'⟩:=List.eq_append_cons_of_mem hm;rw[zE6 hA'] at e;subst e;exact (e1 _).symm
inductive Sy (cs:List (List Int)) (A B:List Nat):Nat->Prop
 | mk {g:Nat} (hg:g∈A) (h1:∀j:Nat,(j:Int)∈covA cs g->g∈fil cs j B/\pf g (fil cs j A)=pf g (fil cs j B)) (h2:∀j:Nat,(j:Int)∈covA cs g->∀u∈pf g (fil cs j A),Sy cs A B u):Sy cs A B g
section
variable {p:Nat}{cs:List (List Int)}{A B:List Nat}{g:Nat}
theorem Sy.lf (h:Sy cs A B g):g∈A:=by cases h; assumption
theorem zEC {j:Nat}(h:g∈A)(hj:(j:Int)∈covA cs g):g∈fil cs j A:=List.mem_filter.mpr ⟨h,decide_eq_true hj⟩
theorem Sy.rt (C:Cv p cs)(w:Wn cs A)(h:Sy cs A B g):g∈B:=by
 cases h with
 | mk hg h1 _=>
  cases e:covA cs g with
  | nil=>exact absurd e (C.ne g (w.lt g hg))
  | cons i c=>
   have hi:i∈covA cs g:=by rw[e]; exact zm2
   have:=(h1 i.toNat (by rw[Int.toNat_of_nonneg (C.rg g i hi).1]; exact hi)).1;exact (List.mem_filter.mp this).1
theorem Sy.symm (C:Cv p cs)(w:Wn cs A)(h:Sy cs A B g):Sy cs B A g:=by
 induction h with
 | mk hg h1 h2 ih=>exact .mk (Sy.rt C w (.mk hg h1 h2)) (fun j hj=>⟨zEC hg hj,(h1 j hj).2.symm⟩) fun j hj u hu=>ih j hj u (by rw[(h1 j hj).2]; exact hu)
theorem zJp {j:Nat}{P R:List Nat}(hg:g∉P)(hj:(j:Int)∈covA cs g):pf g (fil cs j (P++g::R))=fil cs j P:=by
 rw[zA2,zAT,if_pos hj];exact zE6 fun h=>hg (List.mem_filter.mp h).1
theorem Sy.self (hg:g∈A):Sy cs A A g:=by
 have key:∀n g,g∈A->A.idxOf g=n->Sy cs A A g:=by
  intro n;induction n using Nat.strongRecOn with
  | _ n ih=>
   intro g hg hn;refine .mk hg (fun j hj=>⟨zEC hg hj,rfl⟩) fun j hj u hu=>?_;obtain⟨P,R,e,hP⟩:=List.eq_append_cons_of_mem hg;rw[e,zJp hP hj] at hu;have hu':=(List.mem_filter.mp hu).1;refine ih (A.idxOf u) ?_ u (by rw[e]; exact zm4 _ hu') rfl;rw[<-hn,e,zB3 hP,List.idxOf_append,if_pos hu'];exact List.idxOf_lt_length_of_mem hu'
 exact key _ g hg rfl
noncomputable def dD (x:Nat×Bool×Nat):D:=.tup [.int x.1,.str (if x.2.1 then "on" else "off"),.int x.2.2]
theorem zOC (q g:Nat):D.tup [.int q,.str "on",.int g]=dD (q,true,g):=rfl
theorem zNg (q g:Nat):D.tup [.int q,.str "off",.int g]=dD (q,false,g):=rfl
inductive Wy (cs:List (List Int)):List (Nat×Bool×Nat)->List (List Nat)->List (List Nat)->Prop
 | nil {Z:List (List Nat)}:Wy cs [] Z Z
 | on {q g:Nat} {O:List Nat} {Z Z':List (List Nat)} {ds:List (Nat×Bool×Nat)} (hO:Z[q]? = some O) (hg:g<cs.length) (h:wrN Z g=none) (t:Wy cs ds (Z.set q (O++[g])) Z'):Wy cs ((q,true,g)::ds) Z Z'
 | off {q g:Nat} {O:List Nat} {Z Z':List (List Nat)} {ds:List (Nat×Bool×Nat)} (hO:Z[q]? = some O) (h:g∈O) (e:ovr cs O g=[]) (t:Wy cs ds (Z.set q (rmv g O)) Z'):Wy cs ((q,false,g)::ds) Z Z'
theorem Wy.snoc {Z Z' U:List (List Nat)}{d:D}{ds:List (Nat×Bool×Nat)}(h:Wy cs ds Z Z')(k:Dd cs Z' d U):∃x,d=dD x/\Wy cs (ds++[x]) Z U:=by
 induction h with
 | nil=>
  cases k with
  | on hO hg h=>exact⟨_,zOC _ _,.on hO hg h .nil⟩
  | off hO h e=>exact⟨_,zNg _ _,.off hO h e .nil⟩
 | on hO hg h t ih=>
  obtain⟨x,e,w⟩:=ih k;exact⟨x,e,.on hO hg h w⟩
 | off hO h e t ih=>
  obtain⟨x,e',w⟩:=ih k;exact⟨x,e',.off hO h e w⟩
theorem Wy.good {Z Z':List (List Nat)}{ds:List (Nat×Bool×Nat)}(h:Wy cs ds Z Z'):Sg cs Z->Sg cs Z'/\Z'.length=Z.length/\∀x∈ds,x.2.2<cs.length:=by
 induction h with
 | nil=>exact fun s=>⟨s,rfl,by simp⟩
 | on hO hg h t ih=>
  intro s;obtain⟨h1,h2,h3⟩:=ih (s.on hO hg h);refine⟨h1,by simpa using h2,fun x hx=>?_⟩;rcases zp1 hx with rfl | hx
  ·exact hg
  ·exact h3 x hx
 | off hO h e t ih=>
  intro s;obtain⟨h1,h2,h3⟩:=ih (s.off hO);refine⟨h1,by simpa using h2,fun x hx=>?_⟩;rcases zp1 hx with rfl | hx
  ·exact (s.wn (List.mem_of_getElem? hO)).lt _ h
  ·exact h3 x hx
end
theorem zET {α:Type}{f:α->Int}:∀{M N:List α},(∀x∈N,0<=f x)->M.Nodup->(∀x∈M,x∈N)->(M.map f).sum<=(N.map f).sum
 | [],N,hf,_,_=>by
  have:∀N:List α,(∀x∈N,0<=f x)->0<=(N.map f).sum:=fun N=>by
   induction N with
   | nil=>intro _; simp
   | cons x N ih=>
    intro h;have h1:=h x zm2;have h2:=ih fun y hy=>h y (zm1 _ hy);rw[List.map_cons,List.sum_cons];omega
  simpa using this N hf
 | x::M,N,hf,hn,hs=>by
  obtain⟨A,B,rfl⟩:=List.append_of_mem (hs x zm2);obtain⟨n1,n2⟩:=List.nodup_cons.mp hn;have ih:=zET (f:=f) (M:=M) (N:=A++B) (fun y hy=>hf y (by
   rcases zp3 hy with h | h
   ·exact zm4 _ h
   ·exact zm3 _ (zm1 _ h))) n2 fun y hy=>by
   rcases zp3 (hs y (zm1 _ hy)) with h | h
   ·exact zm4 _ h
   ·rcases zp1 h with h | h
    ·exact absurd (h ▸ hy) n1
    ·exact zm3 _ h
  simp only[List.map_cons,List.sum_cons,List.map_append,List.sum_append] at ih ⊢;omega
noncomputable def plc (f:Nat->Nat->Bool):Nat->List (List Nat)->List (Nat×Nat)
 | _,[]=>[]
 | q,e::es=>((e.filter (f q)).map fun g=>(q,g))++plc f (q+1) es
theorem zB0 {f:Nat->Nat->Bool}{x:Nat×Nat}:∀{q:Nat} {es:List (List Nat)},x∈plc f q es↔∃i e,es[i]? = some e/\x.1=q+i/\x.2∈e/\f x.1 x.2=true
 | q,[]=>by simp[plc]
 | q,e::es=>by
  rw[plc,List.mem_append,zB0 (q:=q+1)];constructor
  ·rintro (h | ⟨i,e',h1,h2,h3⟩)
   ·obtain⟨g,hg,rfl⟩:=zp8 h;obtain⟨h1,h2⟩:=List.mem_filter.mp hg;exact⟨0,e,rfl,rfl,h1,h2⟩
   ·exact⟨i+1,e',h1,by omega,h3⟩
  ·rintro⟨i,e',h1,h2,h3,h4⟩;cases i with
   | zero=>
    cases h1;obtain⟨a,b⟩:=x;obtain rfl:a=q:=h2;exact .inl (List.mem_map.mpr ⟨b,List.mem_filter.mpr ⟨h3,h4⟩,rfl⟩)
   | succ i=>exact .inr ⟨i,e',h1,by omega,h3,h4⟩
theorem zGG {f:Nat->Nat->Bool}:∀{q:Nat} {es:List (List Nat)},(∀e∈es,e.Nodup)->(plc f q es).Nodup
 | q,[],_=>.nil
 | q,e::es,h=>by
  rw[plc,List.nodup_append];refine⟨List.Pairwise.map _ (fun a b hab e=>hab (Prod.mk.inj e).2) ((h e zm2).filter _),zGG fun e' he'=>h e' (zm1 _ he'),fun a ha b hb e=>?_⟩;subst e;obtain⟨g,_,rfl⟩:=zp8 ha;obtain⟨i,_,_,h2,_⟩:=zB0.mp hb;simp only at h2;omega
theorem zEz {f:Nat->Nat->Bool}:∀{q:Nat} {es:List (List Nat)},(plc f q es).length<=es.flatten.length
 | q,[]=>by simp[plc]
 | q,e::es=>by
  have:=zEz (f:=f) (q:=q+1) (es:=es);have:=List.length_filter_le (f q) e;rw[plc,List.flatten_cons,List.length_append,List.length_append,List.length_map];omega
theorem zDa {f:Nat->Nat->Bool}(e:List Nat):∀{q:Nat} {es:List (List Nat)},plc f q (es++[e])=plc f q es++(e.filter (f (q+es.length))).map fun g=>(q+es.length,g)
 | q,[]=>by simp[plc]
 | q,e'::es=>by
  rw[List.cons_append,plc,plc,zDa e (q:=q+1) (es:=es),List.append_assoc,show q+1+es.length=q+(e'::es).length by simp; omega]
section
variable {G:Pg}{cl:Nat->List KD->Run}{io:List Nat}{a:Fr}{ss:List S}{N:Fr->Prop}{V:D->Prop}{X:Nat->List (Nat×D)->Fr->Prop}
theorem Ou.each {α:Type}(e:α->D)(l:List α){tg:Tg}{wk:Wk}{it:List Ex}{b:List S}{vs:List KD}(I:List α->Fr->Prop)(h:evals G cl a.sl it=.ok vs)(hw:wkD wk vs=some (l.map e))(hx:l.length<=SL)(h0:I [] (frz (wk.fz it) a))
  (step:∀pre x suf a',l=pre++x::suf->I pre a'->∃a'',(∀A,RelF A a'->∃A',bindF io tg (e x) A=.nx A'/\RelF A' a'')/\Ou G cl io a'' b (I (pre++[x])) V X)(k:∀a',I l a'->Ou G cl io a' ss N V X):Ou G cl io a (.fo tg wk it b::ss) N V X:=by
 refine Ou.fo (fun r a=>∃pre suf,r=suf.map e/\l=pre++suf/\I pre a) h hw (by simpa using hx) ⟨[],l,rfl,rfl,h0⟩ ?_ ?_
 ·rintro x r a' ⟨pre,suf,hr,hl,hi⟩;cases suf with
  | nil=>cases hr
  | cons y suf=>
   cases hr;obtain⟨a'',h1,h2⟩:=step pre y suf a' hl hi;exact⟨a'',h1,h2.mono (fun a hI=>⟨pre++[y],suf,rfl,by rw[hl]; simp,hI⟩) (fun _ h=>h) fun _ _ _ h=>h⟩
 ·rintro a' ⟨pre,suf,hr,hl,hi⟩;have:suf=[]:=by simpa using hr.symm
  subst this;rw[List.append_nil] at hl;exact k a' (hl ▸ hi)
end
theorem zFp:∀a b:List Nat,D.eqs (natL a) (natL b)=decide (a=b)
 | [],[]=>by simp[D.eqs,natL]
 | [],_::_=>by simp[D.eqs,natL]
 | _::_,[]=>by simp[D.eqs,natL]
 | x::a,y::b=>by
  have ih:=zFp a b;unfold natL at ih ⊢;rw[List.map_cons,List.map_cons,D.eqs,ih];have h:((x:Int)=y)↔x=y:=by omega
  simp[D.eq,h]
theorem zM2 (a b:List Nat):(rowD a).eq (rowD b)=decide (a=b):=by simp only[rowD,D.eq]; exact zFp a b
theorem zGA (a:List Nat):(rowD a).pur 60=true:=by simp[rowD,natL]
theorem zC2 (r:List Nat)(k:Nat):cutOp none (some (k:Int)) (rowD r)=some (0,rowD (r.take k)):=by
 simp only[rowD,cutOp,zDw];simp[natL]
def Rs (cs:List (List Int))(A B st:List Nat)(g:Nat):Prop:=∀j:Nat,(j:Int)∈covA cs g->(g∈fil cs j B/\pf g (fil cs j A)=pf g (fil cs j B))/\∀u∈pf g (fil cs j A),u∈st
variable {G:Pg}(P:Pm G)
include P
open Classical in
theorem zHZ (n k k1 k2 k3 k4 p:Nat)(cs:List (List Int))(A B st:List Nat)(g:Nat)(C:Cv p cs)(w:Wn cs A)(hg:g∈A):∃j d,run G (n+6) 45 [(k,wd p cs),(k1,wrD (rowsF cs p A)),(k2,wrD (rowsF cs p B)),(k3,.lst (natL st)),(k4,.int g)]=.ret j d []/\isND false d=fB (decide (Rs cs A B st g)):=by
 have q3:=zCd P.v.a n 0 0 p cs g _ (Cv.at (w.lt g hg));have hS:(covA cs g).length<=SL:=zm9 (C.ln g) (by decide);have key:Ou G (run G (n+5)) [] [some (0,wd p cs),some (0,wrD (rowsF cs p A)),some (0,wrD (rowsF cs p B)),some (0,.lst (natL st)),some (0,.int g),none,none,none,none] zAy.body (fun _=>False) (fun d=>isND false d=fB (decide (Rs cs A B st g))) fun _ _ _=>False:=by
  refine Ou.each D.int (covA cs g) (fun pre a=>(∃x5 x6 x7 x8,a=[some (0,wd p cs),some (0,wrD (rowsF cs p A)),some (0,wrD (rowsF cs p B)),some (0,.lst (natL st)),some (0,.int g),x5,x6,x7,x8])/\∀i∈pre,(g∈fil cs i.toNat B/\pf g (fil cs i.toNat A)=pf g (fil cs i.toNat B))/\∀u∈pf g (fil cs i.toNat A),u∈st) (vs:=[(1,.lst ((covA cs g).map .int))]) (by simp[m13 P.v.a,zAj,q3]) rfl hS ⟨⟨none,none,none,none,by simp⟩,by simp⟩ ?_ ?_
  ·rintro pre s suf a hl ⟨⟨x5,x6,x7,x8,rfl⟩,hpre⟩;have hsc:s∈covA cs g:=by rw[hl]; simp
   have rg:=C.rg g s hsc;obtain⟨j,rfl⟩:∃j:Nat,s=(j:Int):=⟨s.toNat,by omega⟩
   have hjp:j<p:=by omega
   have ixa:=zB2 (cs:=cs) (O:=A) hjp;have ixb:=zB2 (cs:=cs) (O:=B) hjp;have hgA:=zEC hg hsc;have ixe:indexD (rowD (fil cs j A)) (.int g)=some (99,.int ((fil cs j A).idxOf g:Nat)):=by
    have sc:=zBp (fil cs j A);rw[rowD,zBy,zCg hgA,sc];rfl
   have tk:=zLU (m:=fil cs j B) hgA;have no:¬((g∈fil cs j B/\pf g (fil cs j A)=pf g (fil cs j B))/\∀u∈pf g (fil cs j A),u∈st)->¬Rs cs A B st g:=fun h z=>h (z j hsc);have hlen:(pf g (fil cs j A)).length<=SL:=by
    have h1:(fil cs j A).length<=A.length:=List.length_filter_le _ _;have h2:=w.len C;have h3:(pf g (fil cs j A)).length<=(fil cs j A).length:=by unfold pf; rw[List.length_take]; omega
    have:6<=SL:=by decide
    omega
   unfold pf at *;generalize hra:fil cs j A=ra at *;generalize hrb:fil cs j B=rb at *;have t1:=zC2 ra (ra.idxOf g+1);have t2:=zC2 rb (ra.idxOf g+1);have t3:=zC2 ra (ra.idxOf g);have e1:=zM2 (ra.take (ra.idxOf g+1)) (rb.take (ra.idxOf g+1));have p1:=zGA (ra.take (ra.idxOf g+1));have p2:=zGA (rb.take (ra.idxOf g+1));have hsq:(rowD (ra.take (ra.idxOf g))).seq=some ((ra.take (ra.idxOf g)).map fun u:Nat=>D.int u):=rfl;rw[Int.natCast_add,Int.cast_ofNat_Int] at t1 t2;generalize wrD (rowsF cs p A)=WA at *;generalize wrD (rowsF cs p B)=WB at *;have pn:=zBQ st;have mb:=fun u=>zBc u st;generalize natL st=LS at *;refine⟨_,zAt rfl,?_⟩;refine Ou.set (x:=(0,rowD ra)) (by simp[-ixOp,ixa]) ?_;generalize rowD ra=RA at *;generalize rowD rb=RB at *;generalize rowD (ra.take (ra.idxOf g))=RU at *;refine Ou.set (x:=(99,.int (ra.idxOf g:Nat))) (by simp[ixe]) ?_;refine Ou.low (a':=[some (0,wd p cs),some (0,WA),some (0,WB),some (0,.lst LS),some (0,.int g),some (0,.int j),some (0,RA),some (0,.int (ra.idxOf g:Nat)),x8]) (.of_eq (by simp)) ?_;by_cases hq:ra.take (ra.idxOf g+1)=rb.take (ra.idxOf g+1)
   ·rw[decide_eq_true hq] at e1;refine Ou.iffN (j:=99) ?_ ?_
    ·generalize rowD (ra.take (ra.idxOf g+1))=R1 at *;generalize rowD (rb.take (ra.idxOf g+1))=R2 at *;simp[-ixOp,-cutOp,t1,t2,ixb,addD,e1,p1,p2]
    have hq':=tk.mp hq;refine Ou.each (fun u:Nat=>D.int u) (ra.take (ra.idxOf g)) (fun pre a=>(∃x8,a=[some (0,wd p cs),some (0,WA),some (0,WB),some (0,.lst LS),some (0,.int g),some (0,.int j),some (0,RA),some (0,.int (ra.idxOf g:Nat)),x8])/\∀u∈pre,u∈st) (vs:=[(0,RU)]) (by simp[-cutOp,t3]) hsq hlen ⟨⟨x8,by simp⟩,by simp⟩ ?_ ?_
    ·rintro pr u su a hl2 ⟨⟨x8,rfl⟩,hpr⟩;refine⟨_,zAt rfl,?_⟩;have mu:=mb u;by_cases hu:u∈st
     ·refine Ou.iffN (j:=99) (by simp[-List.all_eq_true,pn,mu,hu]) (Ou.nil ⟨⟨_,rfl⟩,fun v hv=>?_⟩);rcases zp3 hv with h | h
      ·exact hpr v h
      ·rw[List.mem_singleton.mp h]; exact hu
     ·refine Ou.iffT (j:=99) (by simp[-List.all_eq_true,pn,mu,hu]) ?_;refine Ou.ret (x:=(_,.tup [.int j,.int u])) (by simp; rfl) ?_;rw[decide_eq_false (no fun z=>hu (z.2 u (by rw[hl2]; simp)))];rfl
    ·rintro a ⟨⟨x8,rfl⟩,hall⟩;refine Ou.nil ⟨⟨_,_,_,_,rfl⟩,fun i hi=>?_⟩;rcases zp3 hi with h | h
     ·exact hpre i h
     ·rw[List.mem_singleton.mp h];rw[Int.toNat_natCast,hra,hrb];exact⟨hq',hall⟩
   ·rw[decide_eq_false hq] at e1;refine Ou.iffT (j:=99) ?_ ?_
    ·generalize rowD (ra.take (ra.idxOf g+1))=R1 at *;generalize rowD (rb.take (ra.idxOf g+1))=R2 at *;simp[-ixOp,-cutOp,t1,t2,ixb,addD,e1,p1,p2]
    ·refine Ou.ret (x:=(_,.tup [.int j,.non])) (by simp; rfl) ?_;rw[decide_eq_false (no fun z=>hq (tk.mpr z.1))];rfl
  ·rintro a ⟨⟨x5,x6,x7,x8,rfl⟩,hall⟩;refine Ou.ret (x:=(99,.non)) (by simp) ?_;rw[decide_eq_true (p:=Rs cs A B st g) fun j hj=>by simpa using hall j hj];rfl
 obtain⟨j,d,e,h⟩:=Ou.run (n:=n+5) (vs:=[(k,wd p cs),(k1,wrD (rowsF cs p A)),(k2,wrD (rowsF cs p B)),(k3,.lst (natL st)),(k4,.int g)]) (V:=fun d=>isND false d=fB (decide (Rs cs A B st g))) P.f45 rfl rfl (key.mono (fun _ h=>h.elim) (fun _ h=>h) fun _ _ _ h=>h);exact⟨j,d,e,h⟩
end Ip
end
section
namespace Ip
open PySem (Str)
open Classical
noncomputable def tp (cs:List (List Int))(O:List Nat):List Nat:=if h:∃es,Topo cs O es then choose h else []
theorem zCl {cs:List (List Int)}{O:List Nat}(h:O.Nodup):Topo cs O (tp cs O):=by
 have:=zGe (cs:=cs) O.length O rfl h;unfold tp;rw[dif_pos this];exact choose_spec this
theorem zCK {cs:List (List Int)}{O:List Nat}(h:O.Nodup)(g:Nat):g∈tp cs O↔g∈O:=(zCl h).perm.mem_iff.symm
theorem zJY {cs:List (List Int)}{O:List Nat}(h:O.Nodup):(tp cs O).Nodup:=(zCl h).perm.nodup_iff.mp h
noncomputable def sy (cs:List (List Int))(Z Z':List (List Nat))(q g:Nat):Bool:=decide (Sy cs (Z.getD q []) (Z'.getD q []) g)
theorem zNU {cs:List (List Int)}{A B pre suf:List Nat}{g:Nat}(h:A.Nodup)(e:tp cs A=pre++g::suf):Rs cs A B (pre.filter fun g=>decide (Sy cs A B g)) g↔Sy cs A B g:=by
 have hg:g∈A:=(zCK (cs:=cs) h g).mp (by rw[e]; simp);constructor
 ·intro r;exact .mk hg (fun j hj=>(r j hj).1) fun j hj u hu=>of_decide_eq_true (List.mem_filter.mp ((r j hj).2 u hu)).2
 ·intro s;cases s with
  | mk _ h1 h2=>
   refine fun j hj=>⟨h1 j hj,fun u hu=>List.mem_filter.mpr ⟨?_,decide_eq_true (h2 j hj u hu)⟩⟩
   have nd:=zJY (cs:=cs) h;rw[<-(zCl (cs:=cs) h).rows j,e,zJp _ hj] at hu
   ·exact (List.mem_filter.mp hu).1
   ·rw[e] at nd;exact fun z=>(List.nodup_append.mp nd).2.2 g z g (by simp) rfl
noncomputable def pairD (x:Nat×Nat):D:=.tup [.int x.1,.int x.2]
theorem zE0 {n x:Nat}{pre suf:List Nat}(h:List.range' 0 n=pre++x::suf):x=pre.length/\x<n:=by
 have h1:=congrArg (fun l=>l[pre.length]?) h;have hl:=congrArg List.length h;simp only[List.length_range',List.length_append,List.length_cons] at hl;simp only[List.getElem?_append_right (Nat.le_refl _),Nat.sub_self,List.getElem?_cons_zero] at h1;rw[List.getElem?_range' (by omega)] at h1;simp at h1;omega
theorem zGg {Z:List (List Nat)}{i:Nat}(h:i<Z.length):Z.take (i+1)=Z.take i++[Z.getD i []]:=by
 rw[List.take_succ,List.getD_eq_getElem?_getD,List.getElem?_eq_getElem h];rfl
variable {G:Pg}(P:Pm G)
include P
theorem zGx (n k k1 k2 p:Nat)(cs:List (List Int))(A B:List Nat)(C:Cv p cs)(ok:∀c∈cs,OkC p c)(w:Wn cs A):∃j,run G (n+9) 46 [(k,wd p cs),(k1,wrD (rowsF cs p A)),(k2,wrD (rowsF cs p B))]=.ret j (.lst (natL ((tp cs A).filter fun g=>decide (Sy cs A B g)))) []:=by
 obtain⟨jo,qo,_⟩:=zCM P n 0 0 p cs A (tp cs A) C.p6 C.m6 ok w.nd w.lt (zCl w.nd);have hl:(tp cs A).length<=SL:=by
  rw[<-(zCl (cs:=cs) w.nd).perm.length_eq];exact zm9 (w.len C) (by decide)
 have h6:(tp cs A).length<=6:=by
  rw[<-(zCl (cs:=cs) w.nd).perm.length_eq];exact w.len C
 have h7:7<=SL:=by decide
 have key:Ou G (run G (n+8)) [] [some (0,wd p cs),some (0,wrD (rowsF cs p A)),some (0,wrD (rowsF cs p B)),none,none] zA7.body (fun _=>False) (fun d=>d=.lst (natL ((tp cs A).filter fun g=>decide (Sy cs A B g)))) fun _ _ _=>False:=by
  refine Ou.setK (x:=(99,.lst [])) (by simp) (by simp) ?_;refine Ou.low (a':=[some (0,wd p cs),some (0,wrD (rowsF cs p A)),some (0,wrD (rowsF cs p B)),some (1,.lst []),none]) (.cons (.refl _) (.cons (.refl _) (.cons (.refl _) (.cons ⟨rfl,by decide⟩ (.refl _))))) ?_;refine Ou.each (fun u:Nat=>D.int u) (tp cs A) (fun pre a=>∃x4,a=[some (0,wd p cs),some (0,wrD (rowsF cs p A)),some (0,wrD (rowsF cs p B)),some (1,.lst (natL (pre.filter fun g=>decide (Sy cs A B g)))),x4]) (vs:=[(0,.lst (natL (tp cs A)))]) (by simp[P.f39,zAY,qo,ixD]) rfl hl ⟨none,by simp[natL]⟩ ?_ ?_
  ·rintro pre g suf a he ⟨x4,rfl⟩;have hg:g∈A:=(zCK (cs:=cs) w.nd g).mp (by rw[he]; simp);obtain⟨jr,d,qr,hr⟩:=zHZ P (n+2) 0 0 0 0 0 p cs A B (pre.filter fun g=>decide (Sy cs A B g)) g C w hg;have hlp:(pre.filter fun g=>decide (Sy cs A B g)).length<SL:=by
    have h1:=List.length_filter_le (fun g=>decide (Sy cs A B g)) pre;rw[he] at h6;simp at h6;omega
   refine⟨_,zAt rfl,?_⟩;refine Ou.low (a':=[some (0,wd p cs),some (0,wrD (rowsF cs p A)),some (0,wrD (rowsF cs p B)),some (1,.lst (natL (pre.filter fun g=>decide (Sy cs A B g)))),some (0,.int g)]) (.of_eq rfl) ?_;have e2:∀b:Bool,decide (Sy cs A B g)=b->natL ((pre++[g]).filter fun g=>decide (Sy cs A B g))=if b then natL (pre.filter fun g=>decide (Sy cs A B g))++[.int g] else natL (pre.filter fun g=>decide (Sy cs A B g)):=fun b hb=>by
    rw[List.filter_append,List.filter_cons,hb];cases b <;> simp[natL]
   have hr:isND false d=fB (decide (Sy cs A B g)):=by
    rw[hr];congr 1
    exact decide_eq_decide.mpr (zNU w.nd he)
   rw[<-zAG] at hlp;clear qo;generalize wrD (rowsF cs p A)=WA at qr ⊢;generalize wrD (rowsF cs p B)=WB at qr ⊢;generalize natL (pre.filter fun g=>decide (Sy cs A B g))=LS at qr hlp e2 ⊢;cases hb:decide (Sy cs A B g) with
   | true=>
    rw[hb] at hr;refine Ou.iffT (j:=99) (by simp[-isND,P.f45,zAy,qr,hr]) ?_;refine Ou.append (k:=0) (xs:=LS) (v:=(0,.int g)) (by simp[frz,frz1]) (by simp) hlp (Ou.nil (Ou.nil ⟨some (0,.int g),?_⟩));rw[e2 true hb];simp[frz,frz1]
   | false=>
    rw[hb] at hr;refine Ou.iffN (j:=99) (by simp[-isND,P.f45,zAy,qr,hr]) (Ou.nil ⟨some (0,.int g),?_⟩);rw[e2 false hb];rfl
  ·rintro a ⟨x4,rfl⟩;exact Ou.ret (x:=(0,.lst (natL ((tp cs A).filter fun g=>decide (Sy cs A B g))))) (by simp) rfl
 obtain⟨j,d,e,rfl⟩:=Ou.run (n:=n+8) (vs:=[(k,wd p cs),(k1,wrD (rowsF cs p A)),(k2,wrD (rowsF cs p B))]) (V:=fun d=>d=.lst (natL ((tp cs A).filter fun g=>decide (Sy cs A B g)))) P.f46 rfl rfl (key.mono (fun _ h=>h.elim) (fun _ h=>h) fun _ _ _ h=>h);exact⟨j,e⟩
end Ip
end
section
namespace Ip
open PySem (Str)
open Classical
theorem flat6:∀{es:List (List Nat)},(∀e∈es,e.length<=6)->es.flatten.length<=6 * es.length
 | [],_=>zm8 _
 | e::es,h=>by
  have ih:=flat6 fun x hx=>h x (zm1 _ hx);have:=h e zm2;rw[List.flatten_cons,List.length_append,List.length_cons];omega
noncomputable def mayP (cs:List (List Int))(Z Z':List (List Nat)):List (Nat×Nat):=plc (sy cs Z Z') 0 (Z.map (tp cs))
noncomputable def mayL (cs:List (List Int))(Z Z':List (List Nat)):List D:=L2.sot .non (L2.cmpP ((mayP cs Z Z').map fun x=>((x.1:Int),(x.2:Int)))) ((mayP cs Z Z').map pairD)
theorem zGC:∀xs:List (Nat×Nat),prsD (xs.map pairD)=some (xs.map fun x=>((x.1:Int),(x.2:Int)))
 | []=>rfl
 | x::xs=>by
  rw[List.map_cons,prsD,zGC xs];rfl
open PySem PySem.Spec PySem.W PyProof.Rows in
theorem zBO {α:Type}{d:α}{c:Nat->Nat->Bool}(xs:List α):(L2.sot d c xs).Perm xs:=by
 unfold L2.sot;split
 ·exact .refl _
 ·have p:L2.Pm xs.length (L2.kev c (kas_sort xs.length)):=(L2.zCo (by omega)).post;have q:(L2.kev c (kas_sort xs.length)).toList.Perm (List.range xs.length):=by simpa using p.toList
  have e:(List.range xs.length).map (fun i=>xs.getD i d)=xs:=by
   refine List.ext_getElem (by simp) fun i h1 h2=>?_;simp[h2]
  have:=q.map fun i=>xs.getD i d
  rwa [e] at this
theorem zHo (x y:Nat×Nat):(pairD x).eq (pairD y)=true↔x=y:=by
 obtain⟨a,b⟩:=x;obtain⟨c,d⟩:=y;have h1:((a:Int)=c)↔a=c:=by omega
 have h2:((b:Int)=d)↔b=d:=by omega
 simp[pairD,D.eq,D.eqs,h1,h2]
theorem zLF {α:Type}(f:α->D)(hf:∀x y,(f x).eq (f y)=true↔x=y)(x:α)(xs:List α):D.memb (f x) (xs.map f)=true↔x∈xs:=by
 simp only[D.memb,List.any_map,List.any_eq_true,Function.comp,hf];exact⟨fun⟨y,h1,h2⟩=>h2 ▸ h1,fun h=>⟨x,h,rfl⟩⟩
section
variable {p:Nat}{cs:List (List Int)}{Z Z':List (List Nat)}
theorem zDn (s:Sg cs Z)(q g:Nat):(q,g)∈mayP cs Z Z'↔sy cs Z Z' q g=true:=by
 rw[mayP,zB0];constructor
 ·rintro⟨i,e,_,h2,_,h4⟩;exact h4
 ·intro h;have hg:=(of_decide_eq_true (show decide (Sy cs (Z.getD q []) (Z'.getD q []) g)=true from h)).lf;by_cases hq:q<Z.length
  ·rw[List.getD_eq_getElem?_getD,List.getElem?_eq_getElem hq] at hg;exact⟨q,tp cs Z[q],by simp[hq],by simp,(zCK (s.wn (List.getElem_mem hq)).nd g).mpr hg,h⟩
  ·rw[List.getD_eq_getElem?_getD,List.getElem?_eq_none (by omega)] at hg;cases hg
theorem zCe (s:Sg cs Z)(q g:Nat):D.memb (pairD (q,g)) (mayL cs Z Z')=sy cs Z Z' q g:=by
 have e:D.memb (pairD (q,g)) (mayL cs Z Z')=D.memb (pairD (q,g)) ((mayP cs Z Z').map pairD):=(zBO _).any_eq;rw[e,Bool.eq_iff_iff,zLF pairD zHo,zDn s]
theorem zDm:(mayL cs Z Z').all (D.pur 60)=true:=by
 have e:(mayL cs Z Z').all (D.pur 60)=((mayP cs Z Z').map pairD).all (D.pur 60):=(zBO _).all_eq;rw[e];simp[pairD]
theorem zCk (C:Cv p cs)(s:Sg cs Z)(hl:Z.length<=3)(f:Nat->Nat->Bool)(q i:Nat):(plc f q ((Z.take i).map (tp cs))).length<=18:=by
 have h1:=zEz (f:=f) (q:=q) (es:=(Z.take i).map (tp cs));have h2:=flat6 (es:=(Z.take i).map (tp cs)) fun e he=>by
  obtain⟨O,hO,rfl⟩:=zp8 he;have w:=s.wn (List.mem_of_mem_take hO);rw[<-(zCl (cs:=cs) w.nd).perm.length_eq];exact w.len C
 rw[List.length_map,List.length_take] at h2;omega
end
variable {G:Pg}(P:Pm G)
include P
theorem zFJ (n k k1 k2 p:Nat)(cs:List (List Int))(Z Z':List (List Nat))(C:Cv p cs)(ok:∀c∈cs,OkC p c)(s:Sg cs Z)(hl:Z.length<=3)(hz:Z'.length=Z.length):∃j,run G (n+10) 47 [(k,wd p cs),(k1,stO p cs Z),(k2,stO p cs Z')]=.ret j (.lst (mayL cs Z Z')) []:=by
 have h100:100<=SL:=by decide
 have key:Ou G (run G (n+9)) [] [some (0,wd p cs),some (0,stO p cs Z),some (0,stO p cs Z'),none,none,none,none] zAZ.body (fun _=>False) (fun d=>d=.lst (mayL cs Z Z')) fun _ _ _=>False:=by
  refine Ou.setK (x:=(99,.lst [])) (by simp) (by simp) ?_;refine Ou.low (a':=[some (0,wd p cs),some (0,stO p cs Z),some (0,stO p cs Z'),some (1,.lst []),none,none,none]) (.cons (.refl _) (.cons (.refl _) (.cons (.refl _) (.cons ⟨rfl,by decide⟩ (.refl _))))) ?_;refine Ou.each (fun n:Nat=>D.tup [.int n,wrD (rowsF cs p (Z.getD n []))]) (List.range' 0 Z.length) (fun pre a=>∃x4 x5 x6,a=[some (0,wd p cs),some (0,stO p cs Z),some (0,stO p cs Z'),some (1,.lst ((plc (sy cs Z Z') 0 ((Z.take pre.length).map (tp cs))).map pairD)),x4,x5,x6]) (vs:=[(0,stO p cs Z)]) rfl (zFr p cs Z) (by simp; omega) ⟨none,none,none,rfl⟩ ?_ ?_
  ·rintro pre q suf a he ⟨x4,x5,x6,rfl⟩;obtain⟨hq,hqZ⟩:=zE0 he;rw[List.length_append,List.length_singleton,<-hq];have w:Wn cs (Z.getD q []):=by
    rw[List.getD_eq_getElem?_getD,List.getElem?_eq_getElem hqZ];exact s.wn (List.getElem_mem hqZ)
   have ix:=zFi (p:=p) (cs:=cs) (Z:=Z') (i:=q) (O:=Z'.getD q []) (by rw[List.getD_eq_getElem?_getD,List.getElem?_eq_getElem (by omega)]; rfl);obtain⟨js,qs⟩:=zGx P n 0 0 0 p cs (Z.getD q []) (Z'.getD q []) C ok w;have hL:=zCk C s hl (sy cs Z Z') 0 q;have hI:((tp cs (Z.getD q [])).filter (sy cs Z Z' q)).length<=6:=by
    refine zm9 (List.length_filter_le _ _) ?_;rw[<-(zCl (cs:=cs) w.nd).perm.length_eq];exact w.len C
   have e1:plc (sy cs Z Z') 0 ((Z.take (q+1)).map (tp cs))=plc (sy cs Z Z') 0 ((Z.take q).map (tp cs))++((tp cs (Z.getD q [])).filter (sy cs Z Z' q)).map fun g=>(q,g):=by
    have:=zDa (f:=sy cs Z Z') (tp cs (Z.getD q [])) (q:=0) (es:=(Z.take q).map (tp cs));rw[zGg hqZ,List.map_append];rw[show 0+((Z.take q).map (tp cs)).length=q by simp; omega] at this;exact this
   have qs:run G (n+9) 46 [(0,wd p cs),(0,wrD (rowsF cs p (Z.getD q []))),(0,wrD (rowsF cs p (Z'.getD q [])))]=.ret js (.lst (natL ((tp cs (Z.getD q [])).filter (sy cs Z Z' q)))) []:=qs;rw[e1];rw[<-List.length_map (as:=plc (sy cs Z Z') 0 ((Z.take q).map (tp cs))) pairD] at hL;rw[List.map_append];generalize (plc (sy cs Z Z') 0 ((Z.take q).map (tp cs))).map pairD=L0 at hL ⊢;generalize (tp cs (Z.getD q [])).filter (sy cs Z Z' q)=gs at hI qs ⊢;generalize wrD (rowsF cs p (Z.getD q []))=WA at qs ⊢;generalize wrD (rowsF cs p (Z'.getD q []))=WB at qs ix;generalize stO p cs Z=SA;generalize stO p cs Z'=SB at ix ⊢;refine⟨_,zBe rfl,?_⟩;refine Ou.each (fun u:Nat=>D.int u) gs (fun pre a=>∃x6,a=[some (0,wd p cs),some (0,SA),some (0,SB),some (1,.lst (L0++(pre.map fun g=>(q,g)).map pairD)),some (0,.int q),some (0,WA),x6]) (vs:=[(js,.lst (natL gs))]) (by simp[-ixOp,setsT,ix,P.f46,zA7,qs]) rfl (by omega) ⟨x6,by simp[setsT]⟩ ?_ ?_
   ·rintro pr g su a he2 ⟨x6,rfl⟩;rw[he2] at hI;simp only[List.length_append,List.length_cons] at hI;refine⟨_,zAt rfl,?_⟩;refine Ou.append (k:=0) (xs:=L0++(pr.map fun g=>(q,g)).map pairD) (v:=(joinK [(0,.int q),(0,.int g)]+1,pairD (q,g))) (by simp[frz,frz1]) (by simp[pairD]) (by simp; omega) (Ou.nil ⟨some (0,.int g),?_⟩);simp[frz,frz1]
   ·rintro a ⟨x6,rfl⟩;exact Ou.nil ⟨_,_,_,rfl⟩
  ·rintro a ⟨x4,x5,x6,rfl⟩;rw[List.length_range',List.take_length];have hL:=zCk C s hl (sy cs Z Z') 0 Z.length;rw[List.take_length] at hL;have hm:=zGC (mayP cs Z Z');show Ou G (run G (n+9)) [] [some (0,wd p cs),some (0,stO p cs Z),some (0,stO p cs Z'),some (1,.lst ((mayP cs Z Z').map pairD)),x4,x5,x6] _ _ _ _;have hlt:(mayP cs Z Z').length<64:=by unfold mayP; omega
   refine Ou.ret (x:=(1,.lst (mayL cs Z Z'))) ?_ rfl;unfold mayL;generalize mayP cs Z Z'=prs at hm hlt ⊢;simp[srtPD,hm,hlt]
 obtain⟨j,d,e,rfl⟩:=Ou.run (n:=n+9) (vs:=[(k,wd p cs),(k1,stO p cs Z),(k2,stO p cs Z')]) (V:=fun d=>d=.lst (mayL cs Z Z')) P.f47 rfl rfl (key.mono (fun _ h=>h.elim) (fun _ h=>h) fun _ _ _ h=>h);exact⟨j,e⟩
end Ip
end
section
namespace Ip
open PySem (Str)
open PySem PySem.W PyProof.Rows in
section
noncomputable def nds (n:Nat):Nat->List (List Nat)
 | 0=>[[]]
 | k+1=>(nds n k).flatMap fun l=>((List.range n).filter fun x=>!l.contains x).map (·::l)
theorem zG0 {n:Nat}:∀{l:List Nat},l.Nodup->(∀x∈l,x<n)->l∈nds n l.length
 | [],_,_=>by simp[nds]
 | x::l,h,k=>by
  obtain⟨h1,h2⟩:=List.nodup_cons.mp h;have ih:=zG0 h2 fun y hy=>k y (zm1 _ hy);rw[List.length_cons,nds,List.mem_flatMap];refine⟨l,ih,List.mem_map.mpr ⟨x,List.mem_filter.mpr ⟨List.mem_range.mpr (k x zm2),by simpa using h1⟩,rfl⟩⟩
noncomputable def chk (n:Nat)(π:List Nat):Bool:=((L2.kev (fun i j=>Nat.blt (π.getD i 0) (π.getD j 0)) (kas_sort n)).toList.map fun i=>π.getD i 0) == List.range n
theorem zLq:((List.range 5).all fun n=>(nds (n+2) (n+2)).all (chk (n+2)))=true:=by kernel_rfl
theorem zDY {α:Type}{N:Nat}{Q:α->Prop}{c c':Nat->Nat->Bool}(h:∀i j,i<N->j<N->c i j=c' i j):∀{t:KasT α},L2.KOk N Q t->L2.kev c t=L2.kev c' t
 | .ret _,_=>rfl
 | .ask i j k,o=>by
  show L2.kev c (k (c i j))=L2.kev c' (k (c' i j));rw[h i j o.1 o.2.1];exact zDY h (o.2.2 _)
theorem zJN {α:Type}{p q:α->Bool}{l:List α}{x:α}(h:∀z,p z=true->q z=true)(hx:x∈l)(h1:q x=true)(h2:p x=false):l.countP p<l.countP q:=by
 obtain⟨A,B,rfl⟩:=List.append_of_mem hx;have a:=List.countP_mono_left (l:=A) fun z _=>h z;have b:=List.countP_mono_left (l:=B) fun z _=>h z;rw[List.countP_append,List.countP_append,List.countP_cons,List.countP_cons,h1,h2];simp;omega
noncomputable def ltN (x y:Nat×Nat):Bool:=L2.ltP (x.1,x.2) (y.1,y.2)
theorem zBq {x y:Nat×Nat}:ltN x y=true↔x.1<y.1\/x.1=y.1/\x.2<y.2:=by
 unfold ltN L2.ltP;rw[decide_eq_true_eq];simp only;omega
noncomputable def rk (ks:List (Nat×Nat))(x:Nat×Nat):Nat:=ks.countP fun y=>ltN y x
theorem zHV {ks:List (Nat×Nat)}{x y:Nat×Nat}(hx:x∈ks)(h:ltN x y=true):rk ks x<rk ks y:=by
 refine zJN (fun z hz=>?_) hx h ?_
 ·have h:=zBq.mp h;have hz:=zBq.mp hz;exact zBq.mpr (by omega)
 ·rw[Bool.eq_false_iff];intro z;have:=zBq.mp z;omega
theorem tri (x y:Nat×Nat):ltN x y=true\/x=y\/ltN y x=true:=by
 obtain⟨a,b⟩:=x;obtain⟨c,d⟩:=y;rw[zBq,zBq,Prod.mk.injEq];simp only;omega
theorem zMb {ks:List (Nat×Nat)}{x y:Nat×Nat}(hx:x∈ks)(hy:y∈ks):Nat.blt (rk ks x) (rk ks y)=ltN x y:=by
 rw[Bool.eq_iff_iff,Nat.blt_eq];refine⟨fun h=>?_,zHV hx⟩;rcases tri x y with z | z | z
 ·exact z
 ·rw[z] at h; omega
 ·have:=zHV hy z; omega
theorem zJi {ks:List (Nat×Nat)}{x y:Nat×Nat}(hx:x∈ks)(hy:y∈ks)(h:rk ks x=rk ks y):x=y:=by
 rcases tri x y with z | z | z
 ·have:=zHV hx z; omega
 ·exact z
 ·have:=zHV hy z; omega
theorem zNV {ks:List (Nat×Nat)}{x:Nat×Nat}(hx:x∈ks):rk ks x<ks.length:=by
 have:=zJN (p:=fun y=>ltN y x) (q:=fun _=>true) (l:=ks) (fun _ _=>rfl) hx rfl (by
  rw[Bool.eq_false_iff];intro z;have:=zBq.mp z;omega)
 rw[List.countP_true] at this;exact this
noncomputable def srtP (ks:List (Nat×Nat)):List (Nat×Nat):=L2.sot (0,0) (L2.cmpP (ks.map fun x=>((x.1:Int),(x.2:Int)))) ks
theorem zJc {ks:List (Nat×Nat)}(nd:ks.Nodup)(h6:ks.length<=6):(srtP ks).map (rk ks)=List.range ks.length:=by
 unfold srtP L2.sot;split
 ·match ks,nd with
  | [],_=>rfl
  | [x],_=>
   have:ltN x x=false:=by
    rw[Bool.eq_false_iff];intro z;have:=zBq.mp z;omega
   simp[rk,this]
  | x::y::ks,_=>rename_i h; simp at h; omega
 ·rename_i h2;have hN:0<ks.length:=by omega
  have getK:∀i (hi:i<ks.length),ks.getD i (0,0)=ks[i]:=fun i hi=>by rw[List.getD_eq_getElem?_getD,List.getElem?_eq_getElem hi]; rfl
  have getR:∀i (hi:i<ks.length),(ks.map (rk ks)).getD i 0=rk ks ks[i]:=fun i hi=>by rw[List.getD_eq_getElem?_getD,List.getElem?_map,List.getElem?_eq_getElem hi]; rfl
  have cc:∀i j,i<ks.length->j<ks.length->L2.cmpP (ks.map fun x=>((x.1:Int),(x.2:Int))) i j=Nat.blt ((ks.map (rk ks)).getD i 0) ((ks.map (rk ks)).getD j 0):=fun i j hi hj=>by
   rw[getR i hi,getR j hj,zMb (List.getElem_mem hi) (List.getElem_mem hj)];unfold L2.cmpP ltN;rw[List.getD_eq_getElem?_getD,List.getElem?_map,List.getElem?_eq_getElem hi,List.getD_eq_getElem?_getD,List.getElem?_map,List.getElem?_eq_getElem hj];rfl
  have key:=zp7 zLq (ks.length - 2) (List.mem_range.mpr (by omega));rw[show ks.length - 2+2=ks.length by omega] at key;have mem:ks.map (rk ks)∈nds ks.length ks.length:=by
   have:=zG0 (n:=ks.length) (l:=ks.map (rk ks)) (List.pairwise_map.mpr (nd.imp_of_mem fun hx hy hne e=>hne (zJi hx hy e))) fun x hx=>by
    obtain⟨y,hy,rfl⟩:=zp8 hx;exact zNV hy
   rwa [List.length_map] at this
  have key:=zp7 key _ mem;have key:((L2.kev (fun i j=>Nat.blt ((ks.map (rk ks)).getD i 0) ((ks.map (rk ks)).getD j 0)) (kas_sort ks.length)).toList.map fun i=>(ks.map (rk ks)).getD i 0)=List.range ks.length:=eq_of_beq key;rw[zDY cc (L2.zCo hN),List.map_map,<-key];refine List.map_congr_left fun i hi=>?_;have hi:=L2.zGn hN i hi;rw[Function.comp,getK i hi,getR i hi]
theorem zHQ {ks ks':List (Nat×Nat)}(p:ks.Perm ks')(nd:ks.Nodup)(h6:ks.length<=6):srtP ks=srtP ks':=by
 have e1:=zJc nd h6;have e2:=zJc (p.nodup_iff.mp nd) (by rw[<-p.length_eq]; exact h6);have er:rk ks'=rk ks:=funext fun x=>(p.countP_eq _).symm;rw[er,<-p.length_eq,<-e1] at e2;have m1:∀x∈srtP ks,x∈ks:=fun x hx=>(zBO ks).mem_iff.mp hx;have m2:∀x∈srtP ks',x∈ks:=fun x hx=>p.mem_iff.mpr ((zBO ks').mem_iff.mp hx);have inj:∀{l l':List (Nat×Nat)},(∀x∈l,x∈ks)->(∀x∈l',x∈ks)->l'.map (rk ks)=l.map (rk ks)->l=l':=by
  intro l;induction l with
  | nil=>intro l' _ _ e; simpa using e.symm
  | cons x l ih=>
   intro l' h1 h2 e;cases l' with
   | nil=>simp at e
   | cons y l'=>
    rw[List.map_cons,List.map_cons,List.cons.injEq] at e;rw[zJi (h1 x List.mem_cons_self) (h2 y List.mem_cons_self) e.1.symm,ih (fun z hz=>h1 z (List.mem_cons_of_mem _ hz)) (fun z hz=>h2 z (List.mem_cons_of_mem _ hz)) e.2]
 exact inj m1 m2 e2
theorem zDl (cs:List (List Int))(Z Z':List (List Nat)):mayL cs Z Z'=(srtP (mayP cs Z Z')).map pairD:=by
 unfold mayL srtP;generalize mayP cs Z Z'=ks;unfold L2.sot;rw[List.length_map];split
 ·rfl
 ·rename_i h;rw[List.map_map];refine List.map_congr_left fun i hi=>?_;have hi:=L2.zGn (by omega) i hi;simp[hi]
end
end Ip
end
section
namespace Ip
open PySem (Str)
open Classical
noncomputable def nst (cs:List (List Int))(f:Nat->Nat->Bool)(Z:List (List Nat)):List (Nat×Nat):=plc (fun q g=>!f q g) 0 (Z.map (tp cs))
noncomputable def way (cs:List (List Int))(Z Z':List (List Nat)):List (Nat×Bool×Nat):=((nst cs (sy cs Z Z') Z).reverse.map fun x=>(x.1,false,x.2))++(nst cs (sy cs Z Z') Z').map fun x=>(x.1,true,x.2)
noncomputable def prcD (ps:List (Int×Int)):D:=.lst (ps.map fun x=>.tup [.int x.1,.int x.2])
noncomputable def prc (ps:List (Int×Int))(x:Nat×Bool×Nat):Int:=if x.2.1 then (ps.getD x.2.2 (0,0)).1 else (ps.getD x.2.2 (0,0)).2
structure Pr (ps:List (Int×Int)):Prop where
 a:∀x∈ps,0<=x.1/\x.1<=1000000
 b:∀x∈ps,0<=x.2/\x.2<=1000000
theorem Pr.bd {ps:List (Int×Int)}(h:Pr ps)(x:Nat×Bool×Nat):0<=prc ps x/\prc ps x<=1000000:=by
 unfold prc;by_cases hx:x.2.2<ps.length
 ·rw[List.getD_eq_getElem?_getD,List.getElem?_eq_getElem hx];split
  ·exact h.a _ (List.getElem_mem hx)
  ·exact h.b _ (List.getElem_mem hx)
 ·rw[List.getD_eq_getElem?_getD,List.getElem?_eq_none (by omega)];simp
theorem zFs {α:Type}{e:α->D}{f:D->R (Option KD)}{g:α->D}:∀{xs:List α},(∀x∈xs,∃j,f (e x)=.ok (some (j,g x)))->∃ys:List KD,compD f (xs.map e)=.ok ys/\ys.map (fun x=>x.2)=xs.map g
 | [],_=>⟨[],rfl,rfl⟩
 | x::xs,h=>by
  obtain⟨j,q⟩:=h x zm2;obtain⟨ys,e1,e2⟩:=zFs fun y hy=>h y (zm1 _ hy);refine⟨(j,g x)::ys,?_,by simp[e2]⟩;rw[List.map_cons,compD,q,R.bind,e1]
theorem zGi {α:Type}{f:α->Int}{xs:List α}(h:∀x∈xs,0<=f x/\f x<=1000000)(hl:xs.length<=1000):sumD (xs.map fun x=>.int (f x))=fI (xs.map f).sum:=by
 have e:xs.map (fun x=>D.int (f x))=(xs.map f).map .int:=by simp
 rw[e,sumD,zFj,Option.bind_some,if_pos];refine⟨List.all_eq_true.mpr fun i hi=>?_,by simpa using hl⟩;obtain⟨x,hx,rfl⟩:=zp8 hi;have:=h x hx;exact decide_eq_true (by omega)
theorem zJD {ps:List (Int×Int)}{g:Nat}(h:g<ps.length):ixOp (prcD ps) (.int g)=some (0,.tup [.int (ps.getD g (0,0)).1,.int (ps.getD g (0,0)).2]):=by
 have h':(g:Int)<ps.length:=by omega
 simp[prcD,ixOp,ixD,h',h]
variable {G:Pg}(P:Pm G)
include P
theorem zMe (n k k1 k2 p:Nat)(cs:List (List Int))(Z:List (List Nat))(L:List D)(f:Nat->Nat->Bool)(C:Cv p cs)(ok:∀c∈cs,OkC p c)(s:Sg cs Z)(hl:Z.length<=3)(hf:∀q g,D.memb (pairD (q,g)) L=f q g)(hp:L.all (D.pur 60)=true):∃j,run G (n+9) 49 [(k,wd p cs),(k1,stO p cs Z),(k2,.lst L)]=.ret j (.lst ((nst cs f Z).map pairD)) []:=by
 have h100:100<=SL:=by decide
 have key:Ou G (run G (n+8)) [] [some (0,wd p cs),some (0,stO p cs Z),some (0,.lst L),none,none,none,none] zAJ.body (fun _=>False) (fun d=>d=.lst ((nst cs f Z).map pairD)) fun _ _ _=>False:=by
  refine Ou.setK (x:=(99,.lst [])) (by simp) (by simp) ?_;refine Ou.low (a':=[some (0,wd p cs),some (0,stO p cs Z),some (0,.lst L),some (1,.lst []),none,none,none]) (.cons (.refl _) (.cons (.refl _) (.cons (.refl _) (.cons ⟨rfl,by decide⟩ (.refl _))))) ?_;refine Ou.each (fun n:Nat=>D.tup [.int n,wrD (rowsF cs p (Z.getD n []))]) (List.range' 0 Z.length) (fun pre a=>∃x4 x5 x6,a=[some (0,wd p cs),some (0,stO p cs Z),some (0,.lst L),some (1,.lst ((plc (fun q g=>!f q g) 0 ((Z.take pre.length).map (tp cs))).map pairD)),x4,x5,x6]) (vs:=[(0,stO p cs Z)]) rfl (zFr p cs Z) (by simp; omega) ⟨none,none,none,rfl⟩ ?_ ?_
  ·rintro pre q suf a he ⟨x4,x5,x6,rfl⟩;obtain⟨hq,hqZ⟩:=zE0 he;rw[List.length_append,List.length_singleton,<-hq];have w:Wn cs (Z.getD q []):=by
    rw[List.getD_eq_getElem?_getD,List.getElem?_eq_getElem hqZ];exact s.wn (List.getElem_mem hqZ)
   obtain⟨jo,qo,_⟩:=zCM P n 0 0 p cs (Z.getD q []) (tp cs (Z.getD q [])) C.p6 C.m6 ok w.nd w.lt (zCl w.nd);have hL:=zCk C s hl (fun q g=>!f q g) 0 q;have hI:(tp cs (Z.getD q [])).length<=6:=by
    rw[<-(zCl (cs:=cs) w.nd).perm.length_eq];exact w.len C
   have e1:plc (fun q g=>!f q g) 0 ((Z.take (q+1)).map (tp cs))=plc (fun q g=>!f q g) 0 ((Z.take q).map (tp cs))++((tp cs (Z.getD q [])).filter fun g=>!f q g).map fun g=>(q,g):=by
    have:=zDa (f:=fun q g=>!f q g) (tp cs (Z.getD q [])) (q:=0) (es:=(Z.take q).map (tp cs));rw[zGg hqZ,List.map_append];rw[show 0+((Z.take q).map (tp cs)).length=q by simp; omega] at this;exact this
   rw[e1];rw[<-List.length_map (as:=plc (fun q g=>!f q g) 0 ((Z.take q).map (tp cs))) pairD] at hL;rw[List.map_append];generalize (plc (fun q g=>!f q g) 0 ((Z.take q).map (tp cs))).map pairD=L0 at hL ⊢;generalize tp cs (Z.getD q [])=gs at hI qo ⊢;generalize wrD (rowsF cs p (Z.getD q []))=WA at qo ⊢;generalize stO p cs Z=SA;refine⟨_,zBe rfl,?_⟩;refine Ou.each (fun u:Nat=>D.int u) gs (fun pre a=>∃x6,a=[some (0,wd p cs),some (0,SA),some (0,.lst L),some (1,.lst (L0++((pre.filter fun g=>!f q g).map fun g=>(q,g)).map pairD)),some (0,.int q),some (0,WA),x6]) (vs:=[(0,.lst (natL gs))]) (by simp[setsT,P.f39,zAY,qo,ixD]) rfl (by omega) ⟨x6,by simp[setsT]⟩ ?_ ?_
   ·rintro pr g su a he2 ⟨x6,rfl⟩;rw[he2] at hI;simp only[List.length_append,List.length_cons] at hI;have hfl:=List.length_filter_le (fun g=>!f q g) pr;refine⟨_,zAt rfl,?_⟩;have hm:D.memb (.tup [.int q,.int g]) L=f q g:=hf q g;have ev:∀a:Fr,a=[some (0,wd p cs),some (0,SA),some (0,.lst L),some (1,.lst (L0++((pr.filter fun g=>!f q g).map fun g=>(q,g)).map pairD)),some (0,.int q),some (0,WA),some (0,.int g)]->eval G (run G (n+8)) a.sl (.op .nin [(.op .tup [(.var 4),(.var 6)]),(.var 2)])=.ok (99,.bl (!f q g)):=by
     rintro a rfl;simp[-List.all_eq_true,hp,hm]
    cases hb:f q g with
    | true=>
     rw[hb] at ev;refine Ou.iffN (j:=99) (ev _ rfl) (Ou.nil ⟨some (0,.int g),?_⟩);simp[hb]
    | false=>
     rw[hb] at ev;refine Ou.iffT (j:=99) (ev _ rfl) ?_;refine Ou.append (k:=0) (xs:=L0++((pr.filter fun g=>!f q g).map fun g=>(q,g)).map pairD) (v:=(joinK [(0,.int q),(0,.int g)]+1,pairD (q,g))) (by simp[frz,frz1]) (by simp[pairD]) (by simp only[List.length_append,List.length_map]; omega) (Ou.nil (Ou.nil ⟨some (0,.int g),?_⟩));simp[frz,frz1,hb]
   ·rintro a ⟨x6,rfl⟩;exact Ou.nil ⟨_,_,_,rfl⟩
  ·rintro a ⟨x4,x5,x6,rfl⟩;rw[List.length_range',List.take_length];exact Ou.ret (x:=(0,.lst ((nst cs f Z).map pairD))) (by simp[nst]) rfl
 obtain⟨j,d,e,rfl⟩:=Ou.run (n:=n+8) (vs:=[(k,wd p cs),(k1,stO p cs Z),(k2,.lst L)]) (V:=fun d=>d=.lst ((nst cs f Z).map pairD)) P.f49 rfl rfl (key.mono (fun _ h=>h.elim) (fun _ h=>h) fun _ _ _ h=>h);exact⟨j,e⟩
omit P in
theorem zDg {p:Nat}{cs:List (List Int)}{Z:List (List Nat)}(C:Cv p cs)(s:Sg cs Z)(hl:Z.length<=3)(f:Nat->Nat->Bool):(nst cs f Z).length<=18:=by
 have:=zCk C s hl (fun q g=>!f q g) 0 Z.length
 rwa [List.take_length] at this
theorem zNW (n k k1 k2 p:Nat)(cs:List (List Int))(Z Z':List (List Nat))(C:Cv p cs)(ok:∀c∈cs,OkC p c)(s:Sg cs Z)(s':Sg cs Z')(hl:Z.length<=3)(hz:Z'.length=Z.length):∃j,run G (n+11) 50 [(k,wd p cs),(k1,stO p cs Z),(k2,stO p cs Z')]=.ret j (.lst ((way cs Z Z').map dD)) []:=by
 have h100:100<=SL:=by decide
 obtain⟨jm,qm⟩:=zFJ P n 0 0 0 p cs Z Z' C ok s hl hz;obtain⟨j1,q1⟩:=zMe P (n+1) 0 0 0 p cs Z (mayL cs Z Z') (sy cs Z Z') C ok s hl (zCe s) zDm;obtain⟨j2,q2⟩:=zMe P (n+1) 0 0 0 p cs Z' (mayL cs Z Z') (sy cs Z Z') C ok s' (by omega) (zCe s) zDm;have l1:=zDg C s hl (sy cs Z Z');have l2:=zDg C s' (by omega) (sy cs Z Z');unfold way;generalize nst cs (sy cs Z Z') Z=N1 at *;generalize nst cs (sy cs Z Z') Z'=N2 at *;generalize mayL cs Z Z'=M at *;generalize stO p cs Z=SA at *;generalize stO p cs Z'=SB at *;have key:Ou G (run G (n+10)) [] [some (0,wd p cs),some (0,SA),some (0,SB),none,none,none,none] zAU.body (fun _=>False) (fun d=>d=.lst (((N1.reverse.map fun x=>(x.1,false,x.2))++N2.map fun x=>(x.1,true,x.2)).map dD)) fun _ _ _=>False:=by
  refine Ou.set (x:=(jm,.lst M)) (by simp[P.f47,zAZ,qm]) ?_;refine Ou.setK (x:=(99,.lst [])) (by simp) (by simp) ?_;refine Ou.low (a':=[some (0,wd p cs),some (0,SA),some (0,SB),some (0,.lst M),some (1,.lst []),none,none]) (.cons (.refl _) (.cons (.refl _) (.cons (.refl _) (.cons (.refl _) (.cons ⟨rfl,by decide⟩ (.refl _)))))) ?_;refine Ou.each pairD N1.reverse (fun pre a=>∃x5 x6,a=[some (0,wd p cs),some (0,SA),some (0,SB),some (0,.lst M),some (1,.lst ((pre.map fun x=>(x.1,false,x.2)).map dD)),x5,x6]) (vs:=[(j1,.lst (N1.map pairD))]) (by simp[P.f49,zAJ,q1]) (by rw[List.map_reverse]; rfl) (by simp; omega) ⟨none,none,by simp⟩ ?_ ?_
  ·rintro pr x su a he ⟨x5,x6,rfl⟩;have hl:=congrArg List.length he;simp at hl;refine⟨_,zBe rfl,?_⟩;refine Ou.append (k:=0) (xs:=(pr.map fun x=>(x.1,false,x.2)).map dD) (v:=(joinK [(0,.int x.1),(0,.str "off"),(0,.int x.2)]+1,dD (x.1,false,x.2))) (by simp[setsT,frz,frz1]) (by simp[setsT,dD]) (by simp; omega) (Ou.nil ⟨some (0,.int x.1),some (0,.int x.2),?_⟩);simp[setsT,frz,frz1]
  ·rintro a ⟨x5,x6,rfl⟩;refine Ou.each pairD N2 (fun pre a=>∃x5 x6,a=[some (0,wd p cs),some (0,SA),some (0,SB),some (0,.lst M),some (1,.lst (((N1.reverse.map fun x=>(x.1,false,x.2))++pre.map fun x=>(x.1,true,x.2)).map dD)),x5,x6]) (vs:=[(j2,.lst (N2.map pairD))]) (by simp[P.f49,zAJ,q2]) rfl (by omega) ⟨x5,x6,by simp⟩ ?_ ?_
   ·rintro pr x su a he ⟨x5,x6,rfl⟩;have hl:=congrArg List.length he;simp at hl;refine⟨_,zBe rfl,?_⟩;refine Ou.append (k:=0) (xs:=((N1.reverse.map fun x=>(x.1,false,x.2))++pr.map fun x=>(x.1,true,x.2)).map dD) (v:=(joinK [(0,.int x.1),(0,.str "on"),(0,.int x.2)]+1,dD (x.1,true,x.2))) (by simp[setsT,frz,frz1]) (by simp[setsT,dD]) (by simp; omega) (Ou.nil ⟨some (0,.int x.1),some (0,.int x.2),?_⟩);simp[setsT,frz,frz1]
   ·rintro a ⟨x5,x6,rfl⟩;exact Ou.ret (x:=(0,_)) rfl rfl
 obtain⟨j,d,e,rfl⟩:=Ou.run (n:=n+10) (vs:=[(k,wd p cs),(k1,SA),(k2,SB)]) (V:=fun d=>d=.lst (((N1.reverse.map fun x=>(x.1,false,x.2))++N2.map fun x=>(x.1,true,x.2)).map dD)) P.f50 rfl rfl (key.mono (fun _ h=>h.elim) (fun _ h=>h) fun _ _ _ h=>h);exact⟨j,e⟩
theorem zKi (n k k1:Nat)(ps:List (Int×Int))(x:Nat×Bool×Nat)(h:x.2.2<ps.length):∃j,run G (n+1) 51 [(k,prcD ps),(k1,dD x)]=.ret j (.int (prc ps x)) []:=by
 have ix:=zJD h;obtain⟨q,b,g⟩:=x;have op:=zJv;have fp:=zGU;have oo:=zMI;have fo:=zJy;have key:Ou G (run G n) [] [some (0,prcD ps),some (0,dD (q,b,g)),none] zBG.body (fun _=>False) (fun d=>d=.int (prc ps (q,b,g))) fun _ _ _=>False:=by
  unfold prc;simp only at ix ⊢;generalize ps.getD g (0,0)=pr at ix ⊢;generalize prcD ps=PS at ix ⊢;refine Ou.set (x:=(0,.tup [.int pr.1,.int pr.2])) (by simp[-ixOp,show ixOp (dD (q,b,g)) (.int 2)=some (0,.int g) from rfl,ix]) ?_;cases b with
  | true=>
   refine Ou.ret (x:=(0,.int pr.1)) ?_ rfl;generalize hE:D.str "on" = E at op oo;simp[-ixOp,show ixOp (dD (q,true,g)) (.int 1)=some (0,E) from by rw[<-hE]; rfl,hE,op,oo];rfl
  | false=>
   refine Ou.ret (x:=(0,.int pr.2)) ?_ rfl;generalize hE:D.str "on" = E at op fo;generalize hF:D.str "off" = F at fp fo;simp[-ixOp,show ixOp (dD (q,false,g)) (.int 1)=some (0,F) from by rw[<-hF]; rfl,hE,op,fp,fo];rfl
 obtain⟨j,d,e,rfl⟩:=Ou.run (n:=n) (vs:=[(k,prcD ps),(k1,dD (q,b,g))]) (V:=fun d=>d=.int (prc ps (q,b,g))) P.f51 rfl rfl (key.mono (fun _ h=>h.elim) (fun _ h=>h) fun _ _ _ h=>h);exact⟨j,e⟩
theorem zGw (n k k1:Nat)(ps:List (Int×Int))(xs:List (Nat×Bool×Nat))(hp:Pr ps)(h:∀x∈xs,x.2.2<ps.length)(hl:xs.length<=1000):∃j,run G (n+2) 52 [(k,prcD ps),(k1,.lst (xs.map dD))]=.ret j (.int (xs.map (prc ps)).sum) []:=by
 obtain⟨ys,c1,c2⟩:∃ys:List KD,compD (compF G (run G (n+1)) [none,none,some (prcD ps)] (.one 1) [] (.call 51 [(.var 2),(.var 1)])) (xs.map dD)=.ok ys/\ys.map (fun x=>x.2)=xs.map fun x=>D.int (prc ps x):=zFs fun x hx=>by
  obtain⟨j,q⟩:=zKi P n 0 0 ps x (h x hx);exact⟨j,by simp[compF,P.f51,zBG,q]⟩
 have hs:=zGi (f:=prc ps) (xs:=xs) (fun x _=>hp.bd x) hl;have hS:xs.length<=SL:=zm9 hl (by decide);generalize prcD ps=PS at c1 ⊢;have hS2:(xs.map dD).length<=SL:=by simpa using hS
 generalize xs.map dD=L at c1 hS2 ⊢;have key:Ou G (run G (n+1)) [] [some (0,PS),some (0,.lst L)] zA6.body (fun _=>False) (fun d=>d=.int (xs.map (prc ps)).sum) fun _ _ _=>False:=by
  refine Ou.ret (x:=(99,.int (xs.map (prc ps)).sum)) ?_ rfl;rw[<-c2] at hs;simp[c1,hS2,hs]
 obtain⟨j,d,e,rfl⟩:=Ou.run (n:=n+1) (vs:=[(k,PS),(k1,.lst L)]) (V:=fun d=>d=.int (xs.map (prc ps)).sum) P.f52 rfl rfl (key.mono (fun _ h=>h.elim) (fun _ h=>h) fun _ _ _ h=>h);exact⟨j,e⟩
omit P in
theorem zLO {p:Nat}{cs:List (List Int)}{Z Z':List (List Nat)}(C:Cv p cs)(s:Sg cs Z)(s':Sg cs Z')(hl:Z.length<=3)(hz:Z'.length=Z.length):(∀x∈way cs Z Z',x.2.2<cs.length)/\(way cs Z Z').length<=1000:=by
 have key:∀{Y:List (List Nat)} (s:Sg cs Y) (x:Nat×Nat),x∈nst cs (sy cs Z Z') Y->x.2<cs.length:=fun s x hx=>by
  obtain⟨i,e,h1,_,h3,_⟩:=zB0.mp hx;rw[List.getElem?_map] at h1;obtain⟨O,h4,rfl⟩:=zp5 h1;have w:=s.wn (List.mem_of_getElem? h4);exact w.lt _ ((zCK w.nd _).mp h3)
 constructor
 ·intro x hx;rcases zp3 hx with h | h
  ·obtain⟨y,hy,rfl⟩:=zp8 h;exact key s y (List.mem_reverse.mp hy)
  ·obtain⟨y,hy,rfl⟩:=zp8 h;exact key s' y hy
 ·have l1:=zDg C s hl (sy cs Z Z');have l2:=zDg C s' (by omega) (sy cs Z Z');simp only[way,List.length_append,List.length_map,List.length_reverse];omega
theorem zBX (n k k0 k1 k2 p:Nat)(cs:List (List Int))(ps:List (Int×Int))(Z Z':List (List Nat))(C:Cv p cs)(ok:∀c∈cs,OkC p c)(s:Sg cs Z)(s':Sg cs Z')(hl:Z.length<=3)(hz:Z'.length=Z.length)(hp:Pr ps)(hps:ps.length=cs.length):∃j,run G (n+12) 53 [(k,wd p cs),(k0,prcD ps),(k1,stO p cs Z),(k2,stO p cs Z')]=.ret j (.int ((way cs Z Z').map (prc ps)).sum) []:=by
 obtain⟨j1,q1⟩:=zNW P n 0 0 0 p cs Z Z' C ok s s' hl hz;obtain⟨w1,w2⟩:=zLO C s s' hl hz;obtain⟨j2,q2⟩:=zGw P (n+9) 0 j1 ps (way cs Z Z') hp (fun x hx=>by rw[hps]; exact w1 x hx) w2;refine⟨j2,?_⟩;rw[run,P.f53];simp[zAo,P.f50,zAU,q1,P.f52,zA6,q2]
end Ip
end
section
namespace Ip
open PySem (Str)
variable {G:Pg}(P:Pm G)
include P
theorem zMd (n k k1 k2 p:Nat)(cs:List (List Int))(Z:List (List Nat))(cells:List Int)(C:Cv p cs)(s:Sg cs Z)(hl:1<=Z.length/\Z.length<=3)(hc:cells.length<=63) :
  ∃j xs Z',run G (n+3) 118 [(k,.lst (cells.map .int)),(k1,stO p cs Z),(k2,cvsD cs)]=.ret j (.tup [.lst (xs.map dD),stO p cs Z']) []/\Wy cs xs Z Z'/\xs.length<=63:=by
 have h100:100<=SL:=by decide
 have key:Ou G (run G (n+2)) [] [some (0,.lst (cells.map .int)),some (0,stO p cs Z),some (0,cvsD cs),none,none,none] zBi.body (fun _=>False) (fun d=>∃xs Z',d=.tup [.lst (xs.map dD),stO p cs Z']/\Wy cs xs Z Z'/\xs.length<=63) fun _ _ _=>False:=by
  refine Ou.setK (x:=(99,.lst [])) (by simp) (by simp) ?_;refine Ou.low (a':=[some (0,.lst (cells.map .int)),some (0,stO p cs Z),some (0,cvsD cs),some (1,.lst []),none,none]) (.cons (.refl _) (.cons (.refl _) (.cons (.refl _) (.cons ⟨rfl,by decide⟩ (.refl _))))) ?_;refine Ou.each D.int cells (fun pre a=>∃x4 x5 xs U,a=[some (0,.lst (cells.map .int)),some (0,stO p cs U),some (0,cvsD cs),some (1,.lst (xs.map dD)),x4,x5]/\Wy cs xs Z U/\xs.length<=pre.length) (vs:=[(0,.lst (cells.map .int))]) (by simp) rfl (by omega) ⟨none,none,[],Z,by simp,.nil,zm8 _⟩ ?_ ?_
  ·rintro pre c suf a he ⟨x4,x5,xs,U,rfl,hw,hx⟩;have hL:=congrArg List.length he;simp at hL;obtain⟨sU,lU,_⟩:=hw.good s;obtain⟨jd,d,qd,hd⟩:=zMf P n 0 0 0 p c cs U C sU (by omega);refine⟨_,zAt rfl,?_⟩;refine Ou.set (x:=(jd,d)) (by simp[P.f116,zBj,qd]) ?_;refine Ou.low (a':=[some (0,.lst (cells.map .int)),some (0,stO p cs U),some (0,cvsD cs),some (1,.lst (xs.map dD)),some (0,.int c),some (0,d)]) (.of_eq (by simp)) ?_;rcases hd with rfl | ⟨U',hD⟩
   ·exact Ou.iffN (j:=99) (by simp) (Ou.nil ⟨_,_,xs,U,rfl,hw,by simp; omega⟩)
   ·obtain⟨j7,q7⟩:=zKj P (n+1) 0 0 0 p cs U U' d C sU (by omega) hD;have hN:isND true d=fB true:=by cases hD <;> rfl
    obtain⟨x,rfl,hw'⟩:=hw.snoc hD;refine Ou.iffT (j:=99) (by simp[-isND,hN]) ?_;refine Ou.append (k:=0) (xs:=xs.map dD) (v:=(0,dD x)) (by simp[frz,frz1]) (by simp) (by simp; omega) ?_;refine Ou.set (x:=(j7,stO p cs U')) (by simp[frz,frz1,P.f117,zA8,q7]) (Ou.nil (Ou.nil ⟨some (0,.int c),some (0,dD x),xs++[x],U',?_,hw',by simp; omega⟩));simp[frz,frz1]
  ·rintro a ⟨x4,x5,xs,U,rfl,hw,hx⟩;exact Ou.retE (d:=.tup [.lst (xs.map dD),stO p cs U]) ⟨_,by simp; rfl⟩ ⟨xs,U,rfl,hw,by omega⟩
 obtain⟨j,d,e,xs,Z',rfl,h1,h2⟩:=Ou.run (n:=n+2) (vs:=[(k,.lst (cells.map .int)),(k1,stO p cs Z),(k2,cvsD cs)]) (V:=fun d=>∃xs Z',d=.tup [.lst (xs.map dD),stO p cs Z']/\Wy cs xs Z Z'/\xs.length<=63) P.f118 rfl rfl (key.mono (fun _ h=>h.elim) (fun _ h=>h) fun _ _ _ h=>h);exact⟨j,xs,Z',e,h1,h2⟩
theorem zGy (n k k1:Nat)(ns:List Int)(cs:List (List Int))(hm:cs.length<=6) :
  ∃(j:Nat) (ps:List (Int×Int)),run G (n+2) 134 [(k,.lst (ns.map .int)),(k1,cvsD cs)]=.ret j (prcD ps) []/\Pr ps/\ps.length=cs.length:=by
 have h100:100<=SL:=by decide
 have b10:inI 10=true:=zAC.mpr (by decide);have b1:inI 48271=true:=zAC.mpr (by decide);have b2:inI 69621=true:=zAC.mpr (by decide);have lC:onS (fun xs=>some (99,D.int xs.length)) (cvsD cs)=some (99,.int cs.length):=by simp[cvsD]
 have rg:∀n:Nat,(List.range n).map (fun n:Nat=>D.int n)=(List.range' 0 n).map fun n:Nat=>D.int n:=fun n=>by rw[List.range_eq_range']
 have key:Ou G (run G (n+1)) [] [some (0,.lst (ns.map .int)),some (0,cvsD cs),none,none,none] zAV.body (fun _=>False) (fun d=>∃ps:List (Int×Int),d=prcD ps/\Pr ps/\ps.length=cs.length) fun _ _ _=>False:=by
  generalize cvsD cs=K at lC ⊢;refine Ou.setK (x:=(99,.lst [])) (by simp) (by simp) ?_;refine Ou.low (a':=[some (0,.lst (ns.map .int)),some (0,K),some (1,.lst []),none,none]) (.cons (.refl _) (.cons (.refl _) (.cons ⟨rfl,by decide⟩ (.refl _)))) ?_;refine Ou.each (fun n:Nat=>D.int n) (List.range' 0 cs.length) (fun pre a=>∃(x3 x4:Option KD) (ps:List (Int×Int)),a=[some (0,.lst (ns.map .int)),some (0,K),some (1,prcD ps),x3,x4]/\Pr ps/\ps.length=pre.length) (vs:=[(99,.int cs.length)]) (by simp[-onS,lC]) (by rw[wk_rng1 (by omega),rg]) (by simp; omega) ⟨none,none,[],by simp[prcD],⟨by simp,by simp⟩,rfl⟩ ?_ ?_
  ·rintro pre g suf a he ⟨x3,x4,ps,rfl,hp,hx⟩;obtain⟨hg0,hg⟩:=zE0 he;obtain⟨d2,q2⟩:=zDM P.d n 0 99 ns (2+g);have e2:((2+g:Nat):Int)=2+(g:Int):=by omega
   rw[e2] at q2;generalize ns.getD (2+g) 0=c at q2;refine⟨_,zAt rfl,?_⟩;refine Ou.set (x:=(d2,.int c)) (by simp[P.d.f98,zAp,q2]) ?_;refine Ou.low (a':=[some (0,.lst (ns.map .int)),some (0,K),some (1,prcD ps),some (0,.int g),some (0,.int c)]) (.of_eq (by simp)) ?_;have fin:∀(e:Ex) (x y:Int),eval G (run G (n+1)) [some (.lst (ns.map .int)),some K,some (prcD ps),some (.int g),some (.int c)] e=.ok (99,.tup [.int x,.int y])->frz e.names [some (0,.lst (ns.map .int)),some (0,K),some (1,prcD ps),some (0,.int g),some (0,.int c)]=[some (0,.lst (ns.map .int)),some (0,K),some (1,prcD ps),some (0,.int g),some (0,.int c)]->0<=x/\x<=1000000->0<=y/\y<=1000000->Ou G (run G (n+1)) [] [some (0,.lst (ns.map .int)),some (0,K),some (1,prcD ps),some (0,.int g),some (0,.int c)] [.mut 2 [] .append [e]] (fun a=>∃(x3 x4:Option KD) (ps:List (Int×Int)),a=[some (0,.lst (ns.map .int)),some (0,K),some (1,prcD ps),x3,x4]/\Pr ps/\ps.length=(pre++[g]).length) (fun d=>∃ps:List (Int×Int),d=prcD ps/\Pr ps/\ps.length=cs.length) fun _ _ _=>False:=by
    intro e x y ev fz hx1 hy1;refine Ou.append (k:=0) (xs:=ps.map fun x=>.tup [.int x.1,.int x.2]) (v:=(99,.tup [.int x,.int y])) (by rw[fz]; rfl) ev (by simp; omega) (Ou.nil ⟨some (0,.int g),some (0,.int c),ps++[(x,y)],?_,⟨fun z h=>?_,fun z h=>?_⟩,by simp[hx]⟩)
    ·rw[fz]; simp[prcD]
    ·rcases zp3 h with h | h
     ·exact hp.a z h
     ·rw[List.mem_singleton.mp h]; exact hx1
    ·rcases zp3 h with h | h
     ·exact hp.b z h
     ·rw[List.mem_singleton.mp h]; exact hy1
   by_cases h:c > 10000000000000000000000000000000000000000
   ·refine Ou.iffT (j:=99) (by simp[b10]; omega) ?_;exact (fin _ (c / 10000000000000000000000000000000000000000 % 1000001) (c / 100000000000000000000000000000000000000000000000 % 1000001) (by simp[b10]) (by simp[frz,frz1]) (by omega) (by omega)).mono (fun _ h=>Ou.nil h) (fun _ h=>h) fun _ _ _ h=>h
   ·refine Ou.iffF (j:=99) (by simp[b10]; omega) ?_;obtain⟨m,hm,hr⟩:∃m:Int,ixOp (.lst [.int 3,.int 1000001]) (.int (c % 2))=some (0,.int m)/\0<m/\m<=1000001:=by
     have h1:c % 2=0\/c % 2=1:=by omega
     rcases h1 with h1 | h1 <;> rw[h1]
     ·exact⟨3,rfl,by decide,by decide⟩
     ·exact⟨1000001,rfl,by decide,by decide⟩
    have hy:=Int.emod_nonneg (c * 69621) (b:=m) (by omega);have hy':=Int.emod_lt_of_pos (c * 69621) hr.1;exact (fin _ (c * 48271 % 1000001) (c * 69621 % m) (by simp[-ixOp,b10,b1,b2,hm,hr.1]) (by simp[frz,frz1]) (by omega) (by omega)).mono (fun _ h=>Ou.nil h) (fun _ h=>h) fun _ _ _ h=>h
  ·rintro a ⟨x3,x4,ps,rfl,hp,hx⟩;rw[List.length_range'] at hx;exact Ou.ret (x:=(0,prcD ps)) (by simp) ⟨ps,rfl,hp,hx⟩
 obtain⟨j,d,e,ps,rfl,h1,h2⟩:=Ou.run (n:=n+1) (vs:=[(k,.lst (ns.map .int)),(k1,cvsD cs)]) (V:=fun d=>∃ps:List (Int×Int),d=prcD ps/\Pr ps/\ps.length=cs.length) P.f134 rfl rfl (key.mono (fun _ h=>h.elim) (fun _ h=>h) fun _ _ _ h=>h);exact⟨j,ps,e,h1,h2⟩
end Ip
end
section
namespace Ip
open PySem (Str)
open Classical
section
variable {p:Nat}{cs:List (List Int)}{Z Z':List (List Nat)}{xs:List (Nat×Bool×Nat)}
theorem zLc {q:Nat}{O:List Nat}(h:Z[q]? = some O):Z.getD q []=O:=by rw[List.getD_eq_getElem?_getD,h]; rfl
theorem Wy.at (h:Wy cs xs Z Z')(s:Sg cs Z){q:Nat}:(∃O,Z[q]? = some O)↔∃O',Z'[q]? = some O':=by
 have:=(h.good s).2.1;constructor
 ·rintro⟨O,hO⟩;have:=(zp6 hO).1;exact⟨_,List.getElem?_eq_getElem (by omega)⟩
 ·rintro⟨O,hO⟩;have:=(zp6 hO).1;exact⟨_,List.getElem?_eq_getElem (by omega)⟩
theorem zCq (s:Sg cs Z){f:Nat->Nat->Bool}{x:Nat×Nat}(h:x∈nst cs f Z):∃O,Z[x.1]? = some O/\x.2∈O/\f x.1 x.2=false:=by
 obtain⟨i,e,h1,h2,h3,h4⟩:=zB0.mp h;rw[List.getElem?_map] at h1;obtain⟨O,h5,rfl⟩:=zp5 h1;rw[Nat.zero_add] at h2;exact⟨O,h2 ▸ h5,(zCK (s.wn (List.mem_of_getElem? h5)).nd _).mp h3,by simpa using h4⟩
theorem zGW (s:Sg cs Z)(f:Nat->Nat->Bool):(nst cs f Z).Nodup:=zGG fun e he=>by
 obtain⟨O,hO,rfl⟩:=zp8 he;exact zJY (s.wn hO).nd
theorem zLP (s:Sg cs Z)(s':Sg cs Z'):(way cs Z Z').Nodup:=by
 have inj:∀(b:Bool) (l:List (Nat×Nat)),l.Nodup->(l.map fun x=>(x.1,b,x.2)).Nodup:=fun b l hl=>List.Pairwise.map _ (fun x y hxy e=>hxy (by
  obtain⟨a,c⟩:=x;obtain⟨d,f⟩:=y;cases e;rfl)) hl
 refine List.nodup_append.mpr ⟨inj _ _ ((List.reverse_perm _).nodup_iff.mpr (zGW s _)),inj _ _ (zGW s' _),fun a ha b hb e=>?_⟩;obtain⟨y,_,rfl⟩:=zp8 ha;obtain⟨z,_,rfl⟩:=zp8 hb;simp at e
theorem zEn (C:Cv p cs)(s:Sg cs Z)(s':Sg cs Z'):sy cs Z' Z=sy cs Z Z':=by
 have w:∀{Y:List (List Nat)},Sg cs Y->∀q,Wn cs (Y.getD q []):=fun {Y} s q=>by
  by_cases hq:q<Y.length
  ·rw[List.getD_eq_getElem?_getD,List.getElem?_eq_getElem hq];exact s.wn (List.getElem_mem hq)
  ·rw[List.getD_eq_getElem?_getD,List.getElem?_eq_none (by omega)];exact⟨.nil,by simp⟩
 funext q g
 exact decide_eq_decide.mpr ⟨Sy.symm C (w s' q),Sy.symm C (w s q)⟩
theorem zJ1 {α:Type}(f:α->Int)(l:List α):(l.reverse.map f).sum=(l.map f).sum:=by
 induction l with
 | nil=>rfl
 | cons x l ih=>
  rw[List.reverse_cons,List.map_append,List.sum_append,ih,List.map_cons,List.sum_cons];simp;omega
end
section
variable {G:Pg}(P:Pm G)
include P
theorem mk17:makeF G 17 2=some (18,zAu,.ins 17 []):=by
 simp[makeF,P.v.a.c17,P.v.a.f18,zAu]
end
section
variable {p:Nat}{cs:List (List Int)}{Z Z' Y:List (List Nat)}{ps:List (Int×Int)}
theorem Sy.trans {A B D:List Nat}{g:Nat}(h:Sy cs A B g)(k:Sy cs B D g):Sy cs A D g:=by
 induction h with
 | mk hg h1 h2 ih=>
  cases k with
  | mk _ k1 k2=>exact .mk hg (fun j hj=>⟨(k1 j hj).1,(h1 j hj).2.trans (k1 j hj).2⟩) fun j hj u hu=>ih j hj u hu (k2 j hj u (by rw[<-(h1 j hj).2]; exact hu))
theorem zC3 {q g:Nat}(h:sy cs Z Z' q g=true)(k:sy cs Z' Y q g=true):sy cs Z Y q g=true:=decide_eq_true ((of_decide_eq_true h).trans (of_decide_eq_true k))
theorem zIs {q g:Nat}(h:g∈Z.getD q []):∃O,Z[q]? = some O/\g∈O:=by
 rw[List.getD_eq_getElem?_getD] at h;cases e:Z[q]? with
 | none=>rw[e] at h; cases h
 | some O=>rw[e] at h; exact⟨O,rfl,h⟩
theorem zJ0 {q g:Nat}(h:sy cs Z Z' q g=true):∃O,Z[q]? = some O/\g∈O:=zIs (of_decide_eq_true (show decide (Sy cs (Z.getD q []) (Z'.getD q []) g)=true from h)).lf
theorem zGX {f:Nat->Nat->Bool}{q g:Nat}{O:List Nat}(s:Sg cs Z)(h:Z[q]? = some O)(hg:g∈O)(hf:f q g=false):(q,g)∈nst cs f Z:=
 zB0.mpr ⟨q,tp cs O,by rw[List.getElem?_map,h]; rfl,by simp,(zCK (s.wn (List.mem_of_getElem? h)).nd g).mpr hg,by simp[hf]⟩
theorem zF8 {q g:Nat}{O:List Nat}(s:Sg cs Z)(h:Z[q]? = some O)(hg:g∈O)(hf:sy cs Z Z' q g=false):(q,false,g)∈way cs Z Z':=
 zm4 _ (List.mem_map.mpr ⟨(q,g),List.mem_reverse.mpr (zGX s h hg hf),rfl⟩)
theorem zJa {q g:Nat}{O:List Nat}(s:Sg cs Z')(h:Z'[q]? = some O)(hg:g∈O)(hf:sy cs Z Z' q g=false):(q,true,g)∈way cs Z Z':=
 zm3 _ (List.mem_map.mpr ⟨(q,g),zGX s h hg hf,rfl⟩)
theorem zJU (C:Cv p cs)(hp:Pr ps)(s:Sg cs Z)(s':Sg cs Z')(s'':Sg cs Y):((way cs Z Y).map (prc ps)).sum<=((way cs Z Z').map (prc ps)).sum+((way cs Z' Y).map (prc ps)).sum:=by
 have:=zET (f:=prc ps) (M:=way cs Z Y) (N:=way cs Z Z'++way cs Z' Y) (fun x _=>(hp.bd x).1) (zLP s s'') fun x hx=>by
  rcases zp3 hx with k | k
  ·obtain⟨y,hy,rfl⟩:=zp8 k;obtain⟨O,h1,h2,h3⟩:=zCq s (List.mem_reverse.mp hy);cases e:sy cs Z Z' y.1 y.2 with
   | false=>exact zm4 _ (zF8 s h1 h2 e)
   | true=>
    have e':=e;rw[<-zEn C s s'] at e';obtain⟨O',k1,k2⟩:=zJ0 e';refine zm3 _ (zF8 s' k1 k2 ?_);rw[Bool.eq_false_iff];intro z;rw[zC3 e z] at h3;cases h3
  ·obtain⟨y,hy,rfl⟩:=zp8 k;obtain⟨O,h1,h2,h3⟩:=zCq s'' hy;cases e:sy cs Z' Y y.1 y.2 with
   | false=>exact zm3 _ (zJa s'' h1 h2 e)
   | true=>
    obtain⟨O',k1,k2⟩:=zJ0 e;refine zm4 _ (zJa s' k1 k2 ?_);rw[Bool.eq_false_iff];intro z;rw[zC3 z e] at h3;cases h3
 rwa [List.map_append,List.sum_append] at this
theorem zHM (s:Sg cs Z):way cs Z Z=[]:=by
 have e:nst cs (sy cs Z Z) Z=[]:=List.eq_nil_iff_forall_not_mem.mpr fun x hx=>by
  obtain⟨O,h1,h2,h3⟩:=zCq s hx;rw[sy,zLc h1,decide_eq_true (Sy.self h2)] at h3;cases h3
 unfold way;rw[e];rfl
noncomputable def wornL (cs:List (List Int))(Z:List (List Nat)):List Nat:=(List.range cs.length).filter fun g=>(wrN Z g).isSome
theorem zFx (s:Sg cs Z){f:Nat->Int}(hf:∀g,0<=f g):((nst cs (fun _ _=>false) Z).map fun x=>f x.2).sum=((wornL cs Z).map f).sum:=by
 have nd:((wornL cs Z).map fun g=>((wrN Z g).getD 0,g)).Nodup:=List.pairwise_map.mpr ((List.nodup_range.filter _).imp fun h e=>h (Prod.mk.inj e).2);have e:((wornL cs Z).map f).sum=(((wornL cs Z).map fun g=>((wrN Z g).getD 0,g)).map fun x=>f x.2).sum:=by rw[List.map_map]; rfl
 rw[e];refine Int.le_antisymm (zET (f:=fun x:Nat×Nat=>f x.2) (fun x _=>hf _) (zGW s _) fun x hx=>?_) (zET (f:=fun x:Nat×Nat=>f x.2) (fun x _=>hf _) nd fun x hx=>?_)
 ·obtain⟨O,h1,h2,_⟩:=zCq s hx;have w:=zLM s.nd h1 h2;refine List.mem_map.mpr ⟨x.2,List.mem_filter.mpr ⟨List.mem_range.mpr (s.lt _ (zJz h1 h2)),by rw[w]; rfl⟩,by rw[w]; rfl⟩
 ·obtain⟨g,hg,rfl⟩:=zp8 hx;obtain⟨i,hi⟩:=Option.isSome_iff_exists.mp (List.mem_filter.mp hg).2;rw[hi];obtain⟨O,h1,h2⟩:=zF5 hi;exact zGX s h1 h2 rfl
section
variable {F:List (List Nat)}(hF:∀O∈F,O=[])
include hF
theorem zHF (q g:Nat):¬∃O,F[q]? = some O/\g∈O:=by
 rintro⟨O,h1,h2⟩;rw[hF O (List.mem_of_getElem? h1)] at h2;cases h2
theorem zHE:sy cs F Z=fun _ _=>false:=funext fun q=>funext fun g=>by
 rw[Bool.eq_false_iff];exact fun z=>zHF hF q g (zJ0 z)
theorem zFy (sF:Sg cs F)(f:Nat->Nat->Bool):nst cs f F=[]:=List.eq_nil_iff_forall_not_mem.mpr fun x hx=>by
 obtain⟨O,h1,h2,_⟩:=zCq sF hx;exact zHF hF x.1 x.2 ⟨O,h1,h2⟩
theorem zLD (hp:Pr ps)(sF:Sg cs F)(s:Sg cs Z):((way cs F Z).map (prc ps)).sum=((wornL cs Z).map fun g=>(ps.getD g (0,0)).1).sum:=by
 rw[<-zFx s (f:=fun g=>(ps.getD g (0,0)).1) fun g=>(hp.bd (0,true,g)).1,way,zHE hF,zFy hF sF];simp only[List.reverse_nil,List.map_nil,List.nil_append,List.map_map];rfl
theorem zI5 (C:Cv p cs)(hp:Pr ps)(sF:Sg cs F)(s:Sg cs Z):((way cs Z F).map (prc ps)).sum=((wornL cs Z).map fun g=>(ps.getD g (0,0)).2).sum:=by
 rw[<-zFx s (f:=fun g=>(ps.getD g (0,0)).2) fun g=>(hp.bd (0,false,g)).1,way,zEn C sF s,zHE hF,zFy hF sF];simp only[List.map_nil,List.append_nil,List.map_map];exact zJ1 _ _
end
theorem zFh (C:Cv p cs)(s:Sg cs Z)(s':Sg cs Z'):mayL cs Z' Z=mayL cs Z Z':=by
 have nd:∀{Y Y':List (List Nat)},Sg cs Y->(mayP cs Y Y').Nodup:=fun s=>zGG fun e he=>by
  obtain⟨O,hO,rfl⟩:=zp8 he;exact zJY (s.wn hO).nd
 have l6:(mayP cs Z' Z).length<=6:=by
  have h1:=zEz (f:=sy cs Z' Z) (q:=0) (es:=Z'.map (tp cs));have h2:∀{Y:List (List Nat)},(∀O∈Y,O.Nodup)->(Y.map (tp cs)).flatten.length=Y.flatten.length:=fun {Y}=>by
   induction Y with
   | nil=>intro _; rfl
   | cons O Y ih=>
    intro h;rw[List.map_cons,List.flatten_cons,List.flatten_cons,List.length_append,List.length_append,ih fun x hx=>h x (List.mem_cons_of_mem _ hx),<-(zCl (cs:=cs) (h O List.mem_cons_self)).perm.length_eq]
  rw[h2 fun O hO=>(s'.wn hO).nd] at h1;have:=len6 s'.nd s'.lt;have:=C.m6;unfold mayP;omega
 rw[zDl,zDl];congr 1
 refine zHQ ((List.perm_ext_iff_of_nodup (nd s') (nd s)).mpr fun x=>?_) (nd s') l6;obtain⟨q,g⟩:=x;rw[zDn s',zDn s,zEn C s s']
end
theorem zLn {α:Type}(xs:List α)(lo hi:Option Int):(cutD xs lo hi).length<=xs.length:=by
 simp only[cutD,List.length_take,List.length_drop];omega
theorem zLZ (k p:Nat)(cs:List (List Int))(Z:List (List Nat)):D.fb k (stO p cs Z)=true:=by
 cases k with
 | zero=>simp only[stO,D.fb,D.flat,zBr,List.all_eq_true]; intro d hd; obtain⟨r,_,rfl⟩:=zp8 hd; simp[wrD,zBr,zD3]
 | succ k=>
  simp only[stO,D.fb,List.all_eq_true];intro d hd;obtain⟨r,_,rfl⟩:=zp8 hd;cases k with
  | zero=>simp[wrD,zBr,zD3,D.fb]
  | succ k=>simp only[wrD,D.fb,List.all_eq_true]; intro d hd; obtain⟨r,_,rfl⟩:=zp8 hd; exact zHk k r
section
variable {G:Pg}{cl:Nat->List KD->Run}{io:List Nat}{a:Fr}{ss:List S}{N:Fr->Prop}{V:D->Prop}{X:Nat->List (Nat×D)->Fr->Prop}
theorem Ou.setU {is:List Nat}{e:Ex}{j:Nat}{ds:List D}(h:eval G cl a.sl e=.ok (j,.lst ds))(k:Ou G cl io (setsT (fun d=>(0,d)) is ds (frz e.names a)) ss N V X)(hi:(ds.length == is.length&&is.all fun i=>!io.contains i&&Nat.blt i a.length)=true:=by rfl):Ou G cl io a (.setT is e::ss) N V X:=
 .step fun A r=>by
  obtain⟨hl,hi⟩:=okT hi;obtain⟨A',q1,q2⟩:=RelF.setFs (io:=io) (is:=is) (ds:=ds) (k:=0) (r.settle e.names (j,.lst ds)) hl fun i hm=>⟨(hi i hm).1,by rw[<-(RelF.low e.names a).len]; exact (hi i hm).2⟩
  simp only[zCE,r.sl,h,R.toO,setTO,q1];exact⟨_,q2,k⟩
end
theorem zFo:∀{ds:List D},(∀d∈ds,d.eq d=true)->D.eqs ds ds=true
 | [],_=>rfl
 | d::ds,h=>by rw[D.eqs,h d List.mem_cons_self,zFo fun y hy=>h y (List.mem_cons_of_mem _ hy)]; rfl
theorem zG4 (cs:List (List Int))(Z Z':List (List Nat)):(D.lst (mayL cs Z Z')).pur 60=true/\(D.lst (mayL cs Z Z')).eq (.lst (mayL cs Z Z'))=true:=by
 rw[zDl];generalize srtP (mayP cs Z Z')=ks;constructor
 ·simp[pairD]
 ·simp only[D.eq];refine zFo fun d hd=>?_;obtain⟨x,_,rfl⟩:=zp8 hd;exact (zHo x x).mpr rfl
section
variable {G:Pg}(P:Pm G)
include P
theorem zOG (n:Nat)(cs:List (List Int))(Z Z' Y:List (List Nat))(s:Sg cs Z)(s':Sg cs Z')(M0:D):∃zs:List (Nat×Nat),compD (compF G (run G n) [none,none,some (.lst [M0,.lst (mayL cs Z' Y),.lst (mayL cs Z Y)])] (.one 1) [(.op .isin [(.var 1),(.op .ix [(.var 2),(.cst (.int (1)))])])] (.op .isin [(.var 1),(.op .ix [(.var 2),(.cst (.int (2)))])])) (mayL cs Z Z')=.ok (zs.map fun _=>(99,.bl true)):=by
 have m1:=zCe (cs:=cs) (Z:=Z') (Z':=Y) s';have m2:=zCe (cs:=cs) (Z:=Z) (Z':=Y) s;have p1:=zDm (cs:=cs) (Z:=Z') (Z':=Y);have p2:=zDm (cs:=cs) (Z:=Z) (Z':=Y);have hm:∀x∈srtP (mayP cs Z Z'),sy cs Z Z' x.1 x.2=true:=fun x hx=>(zDn s x.1 x.2).mp ((zBO _).mem_iff.mp hx);rw[zDl cs Z Z'];refine⟨(srtP (mayP cs Z Z')).filter fun x=>sy cs Z' Y x.1 x.2,zBU fun x hx=>?_⟩;have m1:=m1 x.1 x.2;have m2:=m2 x.1 x.2;have pp:(pairD x).pur 60=true:=by simp[pairD]
 have i1:ixOp (.lst [M0,.lst (mayL cs Z' Y),.lst (mayL cs Z Y)]) (.int 1)=some (0,.lst (mayL cs Z' Y)):=rfl;have i2:ixOp (.lst [M0,.lst (mayL cs Z' Y),.lst (mayL cs Z Y)]) (.int 2)=some (0,.lst (mayL cs Z Y)):=rfl;have e:pairD (x.1,x.2)=pairD x:=rfl;rw[e] at m1 m2;generalize mayL cs Z' Y=L1 at *;generalize mayL cs Z Y=L2 at *;generalize D.lst [M0,.lst L1,.lst L2]=LL at i1 i2 ⊢;generalize pairD x=px at *;cases h:sy cs Z' Y x.1 x.2 with
 | false=>
  rw[h] at m1;simp[-ixOp,-List.all_eq_true,compF,i1,pp,p1,m1]
 | true=>
  rw[h] at m1;rw[zC3 (hm x hx) h] at m2;simp[-ixOp,-List.all_eq_true,compF,i1,i2,pp,p1,p2,m1,m2]
theorem zNi (n p:Nat)(cs:List (List Int))(Z:List (List Nat))(C:Cv p cs)(s:Sg cs Z)(hl:Z.length<=3):compD (compF G (run G (n+1)) [none,none,some (stO p cs Z)] (.one 1) [(.op .notN [(.call 115 [(.var 2),(.var 1)])])] (.var 1)) ((List.range cs.length).map fun n:Nat=>D.int n)=.ok ((wornL cs Z).map fun n:Nat=>(0,D.int n)):=by
 refine zBU fun g _=>?_;obtain⟨j,q⟩:=zGv P n 0 0 p cs Z g C s hl;generalize stO p cs Z=T at q ⊢;unfold wrND at q;cases e:wrN Z g with
 | none=>
  rw[e] at q;simp only at q;simp[compF,P.f115,zAF,q]
 | some i=>
  rw[e] at q;simp only at q;simp[compF,P.f115,zAF,q]
omit P in
theorem zNl (cl:Nat->List KD->Run)(ps:List (Int×Int))(ws:List Nat)(h:∀g∈ws,g<ps.length)(b:Bool):compD (compF G cl [none,none,some (prcD ps)] (.one 1) [] (.op .ix [(.op .ix [(.var 2),(.var 1)]),(.cst (.int (if b then 1 else 0)))])) (ws.map fun n:Nat=>D.int n)=.ok (ws.map fun g=>(0,.int (if b then (ps.getD g (0,0)).2 else (ps.getD g (0,0)).1))):=by
 refine zBg fun g hg=>?_;have ix:=zJD (h g hg);generalize ps.getD g (0,0)=pr at ix ⊢;generalize prcD ps=PS at ix ⊢;cases b with
 | true=>
  have iA:ixOp (.tup [.int pr.1,.int pr.2]) (.int 1)=some (0,.int pr.2):=rfl;generalize D.tup [.int pr.1,.int pr.2]=T at ix iA;simp[-ixOp,compF,ix,iA]
 | false=>
  have iA:ixOp (.tup [.int pr.1,.int pr.2]) (.int 0)=some (0,.int pr.1):=rfl;generalize D.tup [.int pr.1,.int pr.2]=T at ix iA;simp[-ixOp,compF,ix,iA]
end
section
variable {G:Pg}(P:Pm G)
include P
set_option maxHeartbeats 2000000 in
theorem zNX (n k:Nat)(ns:List Int)(hl:ns.length<=63):∃kk,run G (n+13) 69 [(k,.lst (ns.map .int))]=.ret kk (.bl true) []:=by
 obtain⟨d1,q1⟩:=zDM P.d (n+11) 0 99 ns 0;obtain⟨p,ep,hp⟩:∃p:Nat,1+ns.getD 0 0 % 6=(p:Int)/\1<=p/\p<=6:=by
  have h1:=Int.emod_nonneg (ns.getD 0 0) (b:=6) (by decide);have h2:=Int.emod_lt_of_pos (ns.getD 0 0) (b:=6) (by decide);exact⟨(1+ns.getD 0 0 % 6).toNat,by omega,by omega,by omega⟩
 obtain⟨jc,cs,qc,hm,ok⟩:=zEu P.d (n+10) 0 0 ns p hp;obtain⟨d8,q8⟩:=zDM P.d (n+11) 0 99 ns 8;obtain⟨m,em,hk⟩:∃m:Nat,1+ns.getD 8 0 % 3=(m:Int)/\1<=m/\m<=3:=by
  have h1:=Int.emod_nonneg (ns.getD 8 0) (b:=3) (by decide);have h2:=Int.emod_lt_of_pos (ns.getD 8 0) (b:=3) (by decide);exact⟨(1+ns.getD 8 0 % 3).toNat,by omega,by omega,by omega⟩
 have q1':run G (n+12) 98 [(0,.lst (ns.map .int)),(99,.int 0)]=.ret d1 (.int (ns.getD 0 0)) []:=q1;have q8':run G (n+12) 98 [(0,.lst (ns.map .int)),(99,.int 8)]=.ret d8 (.int (ns.getD 8 0)) []:=q8;clear q1 q8;generalize ns.getD 0 0=c0 at q1' ep;generalize ns.getD 8 0=c8 at q8' em;have hCS:cs.length<=SL:=zm9 hm (by decide);have hcv:cvsD cs=.lst (cs.map fun c=>D.lst (c.map .int)):=rfl;have c5:compD (compF G (run G (n+12)) [none,none] (.one 1) [] (.op .list [.var 1])) (cs.map fun c=>D.lst (c.map .int))=.ok (cs.map fun c=>(1,.lst (c.map .int))):=
  zBg fun c _=>by simp[compF]
 have qw:∀k,run G (n+12) 18 [(1,.ins 17 []),(0,.int p),(k,cvsD cs)]=.ret 99 .non [(100,wd p cs)]:=fun k=>zFK P.v.a (n+8) 0 k p cs (by omega) hm (fun c hc=>(ok c hc).gd) fun c hc=>zm9 (ok c hc).ln (by decide);obtain⟨f1,f2⟩:=zII cs hp (m:=m) (by omega);have C:=zOD hp hm ok;have sF:Sg cs (List.replicate m []):=⟨by simp,by simp⟩
 have lF:(List.replicate m ([]:List Nat)).length=m:=by simp
 have bF:∀O∈List.replicate m ([]:List Nat),O=[]:=fun O h=>(List.mem_replicate.mp h).2;generalize List.replicate m ([]:List Nat)=F at f2 sF lF bF;have part:∃M:Int,eval G (run G (n+12)) [some (.lst (ns.map .int)),some (.int p),some (cvsD cs),none,some (wd p cs),some (stO p cs F),none,none,none,none,none,none,none,none,none,none] (.op .max2 [(.cst (.int (1))),(.op .fdiv [(.op .sub [(.op .min2 [(.cst (.int (63))),(.op .len [(.var 0)])]),(.cst (.int (9)))]),(.cst (.int (3)))])])=.ok (99,.int M):=⟨_,by simp; rfl⟩
 obtain⟨M,e6⟩:=part;obtain⟨jp,ps,qp,hps,lps⟩:=zGy P (n+10) 0 0 ns cs hm;have h100:100<=SL:=by decide
 have i3:∀i:Nat,i<3->inI (i:Int)=true:=fun i hi=>zAC.mpr (by omega);have i4:∀i:Nat,i<3->inI ((i:Int)+1)=true:=fun i hi=>zAC.mpr (by omega);have key:Ou G (run G (n+12)) [] [some (0,.lst (ns.map .int)),none,none,none,none,none,none,none,none,none,none,none,none,none,none,none] zI8.body (fun _=>False) (fun d=>d=.bl true) fun _ _ _=>False:=by
  refine Ou.set (x:=(99,.int p)) (by simp[P.d.f98,zAp,q1',ep]) ?_;refine Ou.set (x:=(jc,cvsD cs)) (by simp[P.d.f99,zAW,qc]) ?_;refine Ou.setE (d:=wd p cs) (by simp[hcv,hCS,c5,mk17 P,zAu,Function.comp_def]; rw[<-hcv]; simp[qw]) ?_;refine Ou.set (x:=(0,stO p cs F)) (by simp[-mulD,f1,P.d.f98,zAp,q8',em,f2]) ?_;refine Ou.low (a':=[some (0,.lst (ns.map .int)),some (0,.int p),some (0,cvsD cs),none,some (0,wd p cs),some (0,stO p cs F),none,none,none,none,none,none,none,none,none,none]) (.of_eq (by simp)) ?_;refine Ou.set (x:=(99,.int M)) e6 ?_;refine Ou.setK (x:=(99,.lst [])) (by simp) (by simp) ?_;refine Ou.low (a':=[some (0,.lst (ns.map .int)),some (0,.int p),some (0,cvsD cs),some (99,.lst []),some (0,wd p cs),some (0,stO p cs F),some (0,.int M),none,none,none,none,none,none,none,none,none]) (.of_eq (by simp)) ?_;refine Ou.low (a':=[some (0,.lst (ns.map .int)),some (0,.int p),some (0,cvsD cs),some (1,.lst []),some (0,wd p cs),some (0,stO p cs F),some (0,.int M),none,none,none,none,none,none,none,none,none]) (.cons (.refl _) (.cons (.refl _) (.cons (.refl _) (.cons ⟨rfl,by decide⟩ (.refl _))))) ?_;refine Ou.each (fun n:Nat=>D.int n) (List.range' 0 3) (fun pre a=>∃(x7 x8:Option KD) (Zs:List (List (List Nat))),a=[some (0,.lst (ns.map .int)),some (0,.int p),some (0,cvsD cs),some (1,.lst (Zs.map (stO p cs))),some (0,wd p cs),some (0,stO p cs F),some (0,.int M),x7,x8,none,none,none,none,none,none,none]/\Zs.length=pre.length/\∀Z∈Zs,Sg cs Z/\Z.length=m) (vs:=[(99,.int (3:Nat))]) (by simp) (by rw[wk_rng1 (by omega),List.range_eq_range']) (by simp; omega) ⟨none,none,[],by simp,rfl,by simp⟩ ?_ ?_
  ·rintro pre q suf a he ⟨x7,x8,Zs,rfl,lZs,hZs⟩;obtain⟨hq,hq3⟩:=zE0 he;refine⟨_,zAt rfl,?_⟩;refine Ou.set (x:=(0,stO p cs F)) (by simp) ?_;refine Ou.low (a':=[some (0,.lst (ns.map .int)),some (0,.int p),some (0,cvsD cs),some (1,.lst (Zs.map (stO p cs))),some (0,wd p cs),some (0,stO p cs F),some (0,.int M),some (0,.int q),some (0,stO p cs F),none,none,none,none,none,none,none]) (.of_eq (by simp)) ?_;have fin:∀U:List (List Nat),Sg cs U->U.length=m->Ou G (run G (n+12)) [] [some (0,.lst (ns.map .int)),some (0,.int p),some (0,cvsD cs),some (1,.lst (Zs.map (stO p cs))),some (0,wd p cs),some (0,stO p cs F),some (0,.int M),some (0,.int q),some (0,stO p cs U),none,none,none,none,none,none,none] [.mut 3 [] .append [(.op .ix [(.call 118 [(.sl2 (.var 0) (.op .add [(.cst (.int (9))),(.op .mul [(.var 7),(.var 6)])]) (.op .add [(.cst (.int (9))),(.op .mul [(.op .add [(.var 7),(.cst (.int (1)))]),(.var 6)])])),(.var 8),(.var 2)]),(.cst (.int (1)))])]] (fun a=>∃(x7 x8:Option KD) (Zs:List (List (List Nat))),a=[some (0,.lst (ns.map .int)),some (0,.int p),some (0,cvsD cs),some (1,.lst (Zs.map (stO p cs))),some (0,wd p cs),some (0,stO p cs F),some (0,.int M),x7,x8,none,none,none,none,none,none,none]/\Zs.length=(pre++[q]).length/\∀Z∈Zs,Sg cs Z/\Z.length=m) (fun d=>d=.bl true) fun _ _ _=>False:=by
    intro U sU lU;have cut1:cutD (ns.map D.int) (some (9+(q:Int) * M)) (some (9+((q:Int)+1) * M))=(cutD ns (some (9+(q:Int) * M)) (some (9+((q:Int)+1) * M))).map .int:=zIV _ _ _ _;have l1:=zLn ns (some (9+(q:Int) * M)) (some (9+((q:Int)+1) * M));obtain⟨j1,xs0,Z,qz,hw0,_⟩:=zMd P (n+9) 1 0 0 p cs U (cutD ns (some (9+(q:Int) * M)) (some (9+((q:Int)+1) * M))) C sU (by omega) (by omega);obtain⟨s,lZ,_⟩:=hw0.good sU;have k3:=i3 q hq3;have k4:=i4 q hq3;generalize cutD ns (some (9+(q:Int) * M)) (some (9+((q:Int)+1) * M))=cells at cut1 qz;refine Ou.append (k:=0) (xs:=Zs.map (stO p cs)) (v:=(0,stO p cs Z)) (by simp[frz,frz1]) ?_ (by simp; omega) (Ou.nil ⟨some (0,.int q),some (0,stO p cs U),Zs++[Z],?_,by simp[lZs],fun Y hY=>?_⟩)
    ·generalize stO p cs U=SU at qz ⊢;generalize stO p cs Z=SZ at qz ⊢;generalize cvsD cs=K at qz ⊢;simp[k3,k4,cut1,P.f118,zBi,qz,ixD]
    ·simp[frz,frz1]
    ·rcases zp3 hY with h | h
     ·exact hZs Y h
     ·rw[List.mem_singleton.mp h]; exact⟨s,by omega⟩
   by_cases h0:q=0
   ·subst h0;exact Ou.iffN (j:=99) (by simp) (fin F sF lF)
   ·obtain⟨dv,ix3,hdv⟩:∃dv:Int,ixOp (.lst [.int 1,.int 3,.int 6]) (.int q)=some (0,.int dv)/\0<dv/\dv<1000000000000000000000000000000000000000000000000:=by
     have:q=1\/q=2:=by omega
     rcases this with rfl | rfl
     ·exact⟨3,rfl,by decide,by decide⟩
     ·exact⟨6,rfl,by decide,by decide⟩
    have hpos:(0:Int)<(q:Int):=by omega
    have hpos2:0<q:=by omega
    by_cases hb:c8 / dv % 2=1
    ·refine Ou.iffT (j:=99) (by simp[-ixOp,hpos,hpos2,P.d.f98,zAp,q8',ix3,hdv,D.eq,hb]) ?_;have hi:q - 1<Zs.length:=by omega
     have ixZ:ixOp (.lst (Zs.map (stO p cs))) (.int ((q:Int) - 1))=some (0,stO p cs Zs[q - 1]):=by
      have e:(q:Int) - 1=((q - 1:Nat):Int):=by omega
      have h':((q - 1:Nat):Int)<Zs.length:=by omega
      rw[e];simp[ixOp,ixD,h',hi]
     obtain⟨sU,lU⟩:=hZs _ (List.getElem_mem hi);refine Ou.setK (x:=(0,stO p cs Zs[q - 1])) (by simp[-ixOp,ixZ]) (zLZ 0 p cs _) (Ou.nil ?_);exact fin _ sU lU
    ·exact Ou.iffN (j:=99) (by simp[-ixOp,hpos,hpos2,P.d.f98,zAp,q8',ix3,hdv,D.eq,hb]) (fin F sF lF)
  ·rintro a ⟨x7,x8,Zs,rfl,lZs,hZs⟩;obtain⟨Z1,Z2,Z3,rfl⟩:∃Z1 Z2 Z3,Zs=[Z1,Z2,Z3]:=by
    match Zs,lZs with
    | [a,b,c],_=>exact⟨a,b,c,rfl⟩
   obtain⟨s1,l1⟩:=hZs Z1 (by simp);obtain⟨s2,l2⟩:=hZs Z2 (by simp);obtain⟨s3,l3⟩:=hZs Z3 (by simp);obtain⟨m12,qm12⟩:=zFJ P (n+2) 0 0 0 p cs Z1 Z2 C ok s1 (by omega) (by omega);obtain⟨m23,qm23⟩:=zFJ P (n+2) 0 0 0 p cs Z2 Z3 C ok s2 (by omega) (by omega);obtain⟨m13,qm13⟩:=zFJ P (n+2) 0 0 0 p cs Z1 Z3 C ok s1 (by omega) (by omega);obtain⟨m21,qm21⟩:=zFJ P (n+2) 0 0 0 p cs Z2 Z1 C ok s2 (by omega) (by omega);obtain⟨m31,qm31⟩:=zFJ P (n+2) 0 0 0 p cs Z3 Z1 C ok s3 (by omega) (by omega);rw[zFh C s1 s2] at qm21;rw[zFh C s1 s3] at qm31;obtain⟨t12,qt12⟩:=zBX P n 0 0 0 0 p cs ps Z1 Z2 C ok s1 s2 (by omega) (by omega) hps lps;obtain⟨t23,qt23⟩:=zBX P n 0 0 0 0 p cs ps Z2 Z3 C ok s2 s3 (by omega) (by omega) hps lps;obtain⟨t13,qt13⟩:=zBX P n 0 0 0 0 p cs ps Z1 Z3 C ok s1 s3 (by omega) (by omega) hps lps;obtain⟨t22,qt22⟩:=zBX P n 0 0 0 0 p cs ps Z2 Z2 C ok s2 s2 (by omega) (by omega) hps lps;obtain⟨tF2,qtF2⟩:=zBX P n 0 0 0 0 p cs ps F Z2 C ok sF s2 (by omega) (by omega) hps lps;obtain⟨t2F,qt2F⟩:=zBX P n 0 0 0 0 p cs ps Z2 F C ok s2 sF (by omega) (by omega) hps lps;have tri:=zJU C hps s1 s2 s3;rw[zHM s2,List.map_nil,List.sum_nil] at qt22;rw[zLD bF hps sF s2] at qtF2;rw[zI5 bF C hps sF s2] at qt2F;obtain⟨zs,cm⟩:=zOG P (n+12) cs Z1 Z2 Z3 s1 s2 (.lst (mayL cs Z1 Z2));have al:=zDB (fun _=>true) zs;obtain⟨pu12,eq12⟩:=zG4 cs Z1 Z2;obtain⟨pu13,eq13⟩:=zG4 cs Z1 Z3;have lm:(mayL cs Z1 Z2).length<=SL:=by
    have:=zCk C s1 (by omega) (sy cs Z1 Z2) 0 Z1.length;rw[List.take_length] at this;unfold mayL;rw[L2.zGo,List.length_map];unfold mayP;omega
   have cw:=zNi P (n+11) p cs Z2 C s2 (by omega);have hw:∀g∈wornL cs Z2,g<ps.length:=fun g hg=>by rw[lps]; exact List.mem_range.mp (List.mem_filter.mp hg).1
   have cs0:=zNl (G:=G) (run G (n+12)) ps (wornL cs Z2) hw false;have cs1:=zNl (G:=G) (run G (n+12)) ps (wornL cs Z2) hw true;have lw:(wornL cs Z2).length<=SL:=by
    have:=List.length_filter_le (fun g=>(wrN Z2 g).isSome) (List.range cs.length);rw[List.length_range] at this;unfold wornL;omega
   have ss0:=zGi (f:=fun g=>(ps.getD g (0,0)).1) (xs:=wornL cs Z2) (fun g _=>hps.bd (0,true,g)) (by
    have:=List.length_filter_le (fun g=>(wrN Z2 g).isSome) (List.range cs.length);rw[List.length_range] at this;unfold wornL;omega)
   have ss1:=zGi (f:=fun g=>(ps.getD g (0,0)).2) (xs:=wornL cs Z2) (fun g _=>hps.bd (0,false,g)) (by
    have:=List.length_filter_le (fun g=>(wrN Z2 g).isSome) (List.range cs.length);rw[List.length_range] at this;unfold wornL;omega)
   have wkr:wkD .rng1 [(99,.int cs.length)]=some ((List.range cs.length).map fun n:Nat=>D.int n):=wk_rng1 hCS;have lC:onS (fun xs=>some (99,D.int xs.length)) (cvsD cs)=some (99,.int cs.length):=by simp[cvsD]
   have hj:joinK ((wornL cs Z2).map fun n:Nat=>((0:Nat),D.int n))=98:=zBw fun x hx=>by
    obtain⟨c,_,rfl⟩:=zp8 hx;simp
   simp only[Bool.false_eq_true,if_false,if_true] at cs0 cs1;rw[show ([Z1,Z2,Z3].map (stO p cs))=[stO p cs Z1,stO p cs Z2,stO p cs Z3] from rfl];refine Ou.setU (j:=0) (ds:=[stO p cs Z1,stO p cs Z2,stO p cs Z3]) (by simp) ?_;generalize wd p cs=WD at *;generalize cvsD cs=K at *;generalize stO p cs F=SF at *;generalize stO p cs Z1=SA at *;generalize stO p cs Z2=SB at *;generalize stO p cs Z3=SC at *;generalize ((way cs Z1 Z2).map (prc ps)).sum=v12 at *;generalize ((way cs Z2 Z3).map (prc ps)).sum=v23 at *;generalize ((way cs Z1 Z3).map (prc ps)).sum=v13 at *;generalize ((wornL cs Z2).map fun g=>(ps.getD g (0,0)).1).sum=w0 at *;generalize ((wornL cs Z2).map fun g=>(ps.getD g (0,0)).2).sum=w1 at *;generalize mayL cs Z1 Z2=ML at *;generalize mayL cs Z1 Z3=MN at *;generalize mayL cs Z2 Z3=MK at *;refine Ou.set (x:=(jp,prcD ps)) (by simp[setsT,P.f134,zAV,qp]) ?_;refine Ou.low (a':=[some (0,.lst (ns.map .int)),some (0,.int p),some (0,K),some (0,.lst [SA,SB,SC]),some (0,WD),some (0,SF),some (0,.int M),x7,x8,some (0,SA),some (0,SB),some (0,SC),some (0,prcD ps),none,none,none]) (.of_eq (by simp[setsT,frz,frz1])) ?_;refine Ou.setE (d:=.lst [.lst ML,.lst MK,.lst MN]) (by simp[P.f47,zAZ,qm12,qm23,qm13]) ?_;refine Ou.low (a':=[some (0,.lst (ns.map .int)),some (0,.int p),some (0,K),some (0,.lst [SA,SB,SC]),some (0,WD),some (0,SF),some (0,.int M),x7,x8,some (0,SA),some (0,SB),some (0,SC),some (0,prcD ps),some (0,.lst [.lst ML,.lst MK,.lst MN]),none,none]) (.of_eq (by simp)) ?_;refine Ou.iffN (j:=99) (by simp[-zKn,P.f47,zAZ,qm21,qm31,ixD,pu12,pu13,eq12,eq13]) ?_;refine Ou.iffN (j:=99) (by simp[ixD,cm,lm,Function.comp_def,al]) ?_;refine Ou.set (x:=(99,.int (v12+v23))) (by simp[P.f53,zAo,qt12,qt23]) ?_;refine Ou.iffN (j:=99) (by simp[P.f53,zAo,qt13,qt22,D.eq]; omega) ?_;refine Ou.set (x:=(99,.lst ((wornL cs Z2).map fun n:Nat=>D.int n))) (by simp[-onS,lC,wkr,hCS,cw,hj,Function.comp_def]) ?_;refine Ou.low (a':=[some (0,.lst (ns.map .int)),some (0,.int p),some (0,K),some (0,.lst [SA,SB,SC]),some (0,WD),some (0,SF),some (0,.int M),x7,x8,some (0,SA),some (0,SB),some (0,SC),some (0,prcD ps),some (0,.lst [.lst ML,.lst MK,.lst MN]),some (0,.int (v12+v23)),some (0,.lst ((wornL cs Z2).map fun n:Nat=>D.int n))]) (.of_eq (by simp)) ?_;refine Ou.iffN (j:=99) (by simp[-List.getD_eq_getElem?_getD,P.f53,zAo,qtF2,lw,cs0,ss0,Function.comp_def,D.eq]) ?_;exact Ou.ret (x:=(99,.bl true)) (by simp[-List.getD_eq_getElem?_getD,P.f53,zAo,qt2F,lw,cs1,ss1,Function.comp_def,D.eq]) rfl
 obtain⟨j,d,e,rfl⟩:=Ou.run (n:=n+12) (vs:=[(k,.lst (ns.map .int))]) (V:=fun d=>d=.bl true) P.f69 rfl rfl (key.mono (fun _ h=>h.elim) (fun _ h=>h) fun _ _ _ h=>h);exact⟨j,e⟩
end
theorem zNE:Pm G_k26:=⟨⟨⟨rfl,rfl,rfl,rfl,rfl,rfl,rfl,rfl,rfl⟩,rfl⟩,⟨rfl,rfl,rfl⟩,rfl,rfl,rfl,rfl,rfl,rfl,rfl,rfl,rfl,rfl,rfl,rfl,rfl,rfl,rfl,rfl,rfl,rfl,rfl⟩
theorem zKf (ns:List Int)(hl:ns.length<=63):∃kk,run G_k26 13 69 [(0,.lst (ns.map .int))]=.ret kk (.bl true) []:=zNX zNE 0 0 ns hl
end Ip
end
section
namespace Ek26
open PySem PySem.Spec PyProof.Rows L2
noncomputable abbrev Pw:=PySem.Challenge.pw_quickchange_k26_whole_three_standings
noncomputable def sT (n:Nat):Stmt:=Pw.main.body.getD n (.Pass ⟨0,0,0,0⟩)
noncomputable def zDG:Stmt:=sT 45
noncomputable def zJH:Hd.Fd:=⟨"law", "law",69,332,zDG,none⟩
theorem zL4:FnScope (Ip.fnN (defArgs zDG) (zAf zDG)) ["_law_script"] (zAf zDG):=(Hd.zL3 (by kernel_rfl))
theorem zOH:Ip.cF Ip.T_k26 [] zDG=some Ip.zI8:=by kernel_rfl
end Ek26
end
section
namespace Ek26
open PySem PySem.Spec PySem.W PySem.Calls PyProof.Rows L2 Hd
set_option maxHeartbeats 0
noncomputable def B:Tl:=⟨[⟨"is_whole", "is_whole",0,28,sT 3,none⟩,⟨"is_below", "is_below",1,35,sT 4,none⟩,⟨"is_rising", "is_rising",15,117,sT 14,none⟩,⟨"are_places", "are_places",16,122,sT 15,none⟩,⟨"check_garment", "check_garment",17,129,sT 16,none⟩,⟨"worn_in", "worn_in",24,183,sT 19,none⟩,⟨"may_lie", "may_lie",34,190,sT 21,none⟩,⟨"check_things", "check_things",35,197,sT 22,none⟩,⟨"check_lacking", "check_lacking",36,204,sT 23,none⟩,⟨"still_under", "still_under",37,211,sT 24,none⟩,⟨"ring_among", "ring_among",38,218,sT 25,none⟩,⟨"order_of", "order_of",39,223,sT 26,none⟩,⟨"reason_against", "reason_against",45,230,sT 28,none⟩,⟨"staying_on", "staying_on",46,237,sT 29,none⟩,⟨"may_stay", "may_stay",47,244,sT 30,none⟩,⟨"not_staying", "not_staying",49,251,sT 31,none⟩,⟨"way_between", "way_between",50,258,sT 32,none⟩,⟨"price_of", "price_of",51,265,sT 33,none⟩,⟨"trouble_of", "trouble_of",52,270,sT 34,none⟩,⟨"least_trouble", "least_trouble",53,277,sT 35,none⟩,⟨"_law_cell", "_law_cell",98,284,sT 37,none⟩,⟨"_law_mix", "_law_mix",71,291,sT 38,none⟩,⟨"_law_covers", "_law_covers",99,296,sT 39,none⟩,⟨"_law_wears", "_law_wears",115,301,sT 40,none⟩,⟨"_law_deed", "_law_deed",116,306,sT 41,none⟩,⟨"_law_moved", "_law_moved",117,313,sT 42,none⟩,⟨"_law_walk", "_law_walk",118,320,sT 43,none⟩,⟨"_law_prices", "_law_prices",134,327,sT 44,none⟩,zJH],[⟨"Wardrobe",17,172,⟨"__init__", "Wardrobe.__init__",18,141,inClass (sT 17) 0,none⟩⟩],[],[(172,⟨"many", "Wardrobe.many",20,155,inClass (sT 17) 2,none⟩),(172,⟨"covers", "Wardrobe.covers",21,162,inClass (sT 17) 3,none⟩)],[("DEEPEST",100,196),("MOST_PLACES",6,321),("MOST_GARMENTS",6,323)],[]⟩
noncomputable def nsL:List Str:=zB4 Ip.T_k26.fl Ip.T_k26.att
theorem facts {w:World}{K:Frag}{mg:Str->Option Value}{fa:Addr}{h:Heap}(hq:B.q nsL K=B.a nsL Ip.G_k26)(KX:K.In h)(Gl:h.Ns mainGlobals mg)(hmg:mg "law" = some (.ref fa)) :
  ∃fd:FuncData,(∀(s:Shared) (u:Value),BindsTo s fd ⟨[u],[]⟩ [("_law_script",u)])/\∀base:Heap,K.In base->base.Ns mainGlobals mg->FnOk Pw w K mg base (CXE Pw w) (rm 13) fa fd ["_law_script"] (spLaw K):=by
 have A:=zNC hq;have g0:=zOa (T:=Ip.T_k26) Ip.clL_k26 KX Gl A (fun _=>rfl) rfl (by decide +kernel) (by decide +kernel) rfl (by decide +kernel) (by decide +kernel)
  (Cn ⟨_,rfl,fun h=>Hd.zAn (ps:=["value"]) (io:=[]) h⟩ <| Cn ⟨_,rfl,fun h=>Hd.zAn (ps:=["value", "bound"]) (io:=[]) h⟩ <| Cn ⟨_,rfl,fun h=>Hd.zAn (ps:=["numbers"]) (io:=[]) h⟩ <| Cn ⟨_,rfl,fun h=>Hd.zAn (ps:=["told", "spots"]) (io:=[]) h⟩ <| Cn ⟨_,rfl,fun h=>Hd.zAn (ps:=["wardrobe", "garment"]) (io:=[]) h⟩ <| Cn ⟨_,rfl,fun h=>Hd.zAn (ps:=["wearing"]) (io:=[]) h⟩ <| Cn ⟨_,rfl,fun h=>Hd.zAn (ps:=["wardrobe", "place", "thing"]) (io:=[]) h⟩ <| Cn ⟨_,rfl,fun h=>Hd.zAn (ps:=["wardrobe", "rows"]) (io:=[]) h⟩ <| Cn ⟨_,rfl,fun h=>Hd.zAn (ps:=["wardrobe", "rows"]) (io:=[]) h⟩ <| Cn ⟨_,rfl,fun h=>Hd.zAn (ps:=["wardrobe", "rows", "garment", "left"]) (io:=[]) h⟩ <| Cn ⟨_,rfl,fun h=>Hd.zAn (ps:=["wardrobe", "rows", "left"]) (io:=[]) h⟩ <| Cn ⟨_,rfl,fun h=>Hd.zAn (ps:=["wardrobe", "rows"]) (io:=[]) h⟩ <| Cn ⟨_,rfl,fun h=>Hd.zAn (ps:=["wardrobe", "wearing", "goal", "staying", "garment"]) (io:=[]) h⟩ <| Cn ⟨_,rfl,fun h=>Hd.zAn (ps:=["wardrobe", "wearing", "goal"]) (io:=[]) h⟩ <| Cn ⟨_,rfl,fun h=>Hd.zAn (ps:=["wardrobe", "one", "other"]) (io:=[]) h⟩ <| Cn ⟨_,rfl,fun h=>Hd.zAn (ps:=["wardrobe", "standing", "staying"]) (io:=[]) h⟩ <| Cn ⟨_,rfl,fun h=>Hd.zAn (ps:=["wardrobe", "one", "other"]) (io:=[]) h⟩ <| Cn ⟨_,rfl,fun h=>Hd.zAn (ps:=["prices", "deed"]) (io:=[]) h⟩ <| Cn ⟨_,rfl,fun h=>Hd.zAn (ps:=["prices", "deeds"]) (io:=[]) h⟩ <| Cn ⟨_,rfl,fun h=>Hd.zAn (ps:=["wardrobe", "prices", "one", "other"]) (io:=[]) h⟩ <| Cn ⟨_,rfl,fun h=>Hd.zAn (ps:=["_law_script", "_law_k"]) (io:=[]) h⟩ <| Cn ⟨_,rfl,fun h=>Hd.zAn (ps:=["_law_cell_here", "_law_salt", "_law_many"]) (io:=[]) h⟩ <| Cn ⟨_,rfl,fun h=>Hd.zAn (ps:=["_law_script", "_law_places"]) (io:=[]) h⟩ <| Cn ⟨_,rfl,fun h=>Hd.zAn (ps:=["_law_standing", "_law_garment"]) (io:=[]) h⟩ <| Cn ⟨_,rfl,fun h=>Hd.zAn (ps:=["_law_cell_here", "_law_standing", "_law_covers_here"]) (io:=[]) h⟩ <| Cn ⟨_,rfl,fun h=>Hd.zAn (ps:=["_law_standing", "_law_deed_here", "_law_covers_here"]) (io:=[]) h⟩ <| Cn ⟨_,rfl,fun h=>Hd.zAn (ps:=["_law_cells", "_law_standing", "_law_covers_here"]) (io:=[]) h⟩ <| Cn ⟨_,rfl,fun h=>Hd.zAn (ps:=["_law_script", "_law_covers_here"]) (io:=[]) h⟩ <| Cn ⟨_,rfl,fun h=>Hd.zAn (ps:=["_law_script"]) (io:=[]) h⟩ <| Nl)
  (Cn ⟨⟨_,rfl,fun h=>Hd.zAn (ps:=["self", "places", "covers"]) (io:=[0]) h⟩,rfl,_,rfl,rfl,rfl⟩ <| Nl)
  (Nl)
  (Cn ⟨_,rfl,fun h=>Hd.zAn (ps:=["self"]) (io:=[]) h⟩ <| Cn ⟨_,rfl,fun h=>Hd.zAn (ps:=["self", "garment"]) (io:=[]) h⟩ <| Nl) (by decide +kernel)
 obtain⟨a1,_,a3⟩:=A.f zJH (by simp[B]);have e:=hmg.symm.trans (mg_of KX Gl a1);cases e;exact zK2 (n:=13) g0 A.l rfl rfl (zMZ (Prod.mk.inj a3).1) zL4 zOH rfl (fun _ _ _ _ _ _ _=>rfl) Ip.zKf
noncomputable def T0 (P:Params):BT:=(.node (boot_o_0 P) (.node (boot_o_1 P) (.node (boot_o_3 P) (.node (boot_o_7 P) .nil .nil) .nil) (.node (boot_o_5 P) (.node (boot_o_9 P) .nil .nil) .nil)) (.node (boot_o_2 P) (.node (boot_o_4 P) (.node (boot_o_8 P) .nil .nil) .nil) (.node (boot_o_6 P) (.node (boot_o_10 P) .nil .nil) .nil)))
noncomputable def asL:List Addr:=[2,3,15,17,18,20,21,22,24,25,27,28,29,31,32,34,35,36,37,40,41,42,49,50,51,52,55,62,63,65,66,68,69,70,71,72,75,82,84,85,87,88,89,90,91,94,101,103,104,106,107,108,109,110,113,116,117,118,121,122,123,125,126,128,129,137,140,141,142,144,145,147,148,149,151,152,154,155,156,158,159,161,162,163,165,166,168,169,170,171,172,173,174,177,179,180,182,183,184,186,187,189,190,191,193,194,196,197,198,200,201,203,204,205,207,208,210,211,212,214,215,217,218,219,222,223,224,226,227,229,230,231,233,234,236,237,238,240,241,243,244,245,247,248,250,251,252,254,255,257,258,259,261,262,264,265,266,269,270,271,273,274,276,277,278,280,281,283,284,285,287,288,290,291,292,295,296,297,300,301,302,305,306,307,309,310,312,313,314,316,317,319,320,321,323,324,326,327,328,331,332]
noncomputable def looseL:List Str:=(["_wall", "DEEPEST", "is_whole", "is_below", "copied", "WardrobeError", "TooMuch", "NoGarment", "NoLook", "MOST_PLACES", "MOST_GARMENTS", "is_rising", "are_places", "check_garment", "Wardrobe", "worn_in", "may_lie", "check_things", "check_lacking", "still_under", "ring_among", "order_of", "reason_against", "staying_on", "may_stay", "not_staying", "way_between", "price_of", "trouble_of", "least_trouble", "_law_cell", "_law_mix", "_law_covers", "_law_wears", "_law_deed", "_law_moved", "_law_walk", "_law_prices"]:List String).map Str.ofString
noncomputable abbrev hk:Hook:=aHook asL (B.q nsL) (B.a nsL Ip.G_k26)
noncomputable abbrev Xt (s:Shared):Bool:=xlAt (view Pw [45]) [] s&&recOk (PySem.Challenge.rw_quickchange_k26_whole_three_standings.row.toRowW).records s
noncomputable def stub:Thread:=⟨do let code <-moduleCode Pw.main
                                       let frame <-newBodyFrame code mainNs mainNs
                                       let _ <-run (.body (behindTheImports Pw) { scope:=Pw.main.scope,locals:=mainNs,globals:=mainNs,cells:=[],code,frame:=some frame })
                                       ret .none,
   .builtin "claim.caller" {},default,[]⟩
noncomputable def runAll (w:World)(os:OsState):=(runG through (stepOk 11 (some (.ref 6))) (stepT (denote treeTable) Pw w) 2391 ⟨T0 w.params,11,(boot_heap w.params).life,Array.mk [],boot_drawn,boot_toks,os⟩ stub).map
 (lookG (importedModules Pw.main.body) (staticsOk (importedModules Pw.main.body)) laidKept (namesBound Pw) (openSeen (view Pw [45]) looseL (importedModules Pw.main.body) Xt true) (fun s=>B.q nsL (kOf asL s.heap)) (boot_heap w.params))
noncomputable def _root_.PySem.W.Fast.tw8036200718983439254:Program:=PySem.Challenge.pw_quickchange_k26_whole_three_standings
theorem _root_.PySem.W.Fast.te8036200718983439254:PySem.Challenge.pw_quickchange_k26_whole_three_standings=PySem.W.Fast.tw8036200718983439254:=rfl
noncomputable def dum {α:Type}(_:α):Bool:=true
theorem mk:dum runAll=true:=by k_qdec
theorem t0 (P:Params):absHeap (T0 P) 11 (boot_heap P).life=boot_heap P:=by kernel_rfl
theorem zKg (w:World)(os:OsState):runAll w os=some (true,openGood (view Pw [45]) looseL,B.a nsL Ip.G_k26):=by
 rw[PySem.W.Fast.te2583768514091182370];kernel_rfl
theorem left:LeftO Pw (view Pw [45]) looseL Xt (Hook.obs hk) (Hook.val hk) 2391:=
 zK1 (T0:=T0) (m₀:=11) (ann:=some (.ref 6)) (life:=fun P=>(boot_heap P).life) (by kernel_rfl) (by decide) (fun s=>rfl) (fun w=>by kernel_rfl) t0 zKg
end Ek26
open PySem PySem.W PyProof.Rows L2 Hd in
set_option maxRecDepth 100000 in
set_option maxHeartbeats 0 in
theorem PySem.Challenge.cw_quickchange_k26_whole_three_standings_holds : PySem.Challenge.rw_quickchange_k26_whole_three_standings.Holds := by
 w_on; o_law
 refine holds_open (r:=PySem.Challenge.rw_quickchange_k26_whole_three_standings.row) (q:=view Ek26.Pw [45]) (loose:=Ek26.looseL) (Xt:=Ek26.Xt) (XP:=XL (view Ek26.Pw [45]) []) (Yf:=Hook.obs Ek26.hk) (Ya:=Hook.val Ek26.hk) (YP:=Hook.says Ek26.hk) (N:=2391) Ek26.left (Hook.of Ek26.hk) (Hook.keeps Ek26.hk) (fun s e=>xl_of s (Bool.and_eq_true_iff.mp e).1) XL.keeps (by rfl) (by rfl) (by rfl) (fun s e=>recFacts_of (Bool.and_eq_true_iff.mp e).2) (by rfl) (by first | assumption | decide +kernel) (by decide +kernel) ⟨rfl,rfl,rfl,rfl,rfl,by decide +kernel⟩ ?hw ?hc
 case hw=>w_witness2
 case hc=>
  refine zLQ (l:=PySem.Challenge.rw_quickchange_k26_whole_three_standings) (n:=63) (k:=L2.rm 13) (x := "_law_script") (CX:=fun w=>L2.CXE PySem.Challenge.pw_quickchange_k26_whole_three_standings w) (sp:=fun _ K=>L2.spLaw K) rfl (by decide) rfl ⟨rfl,by decide,by decide⟩ ?F ?S ?C
  case F=>exact fun w K mg fa h hq KX G hmg=>Ek26.facts hq KX G hmg
  case S=>exact fun w K H a ns hl _ hS=>⟨a,ns,rfl,hS,hl,fun _=>rfl⟩
  case C=>
   rintro w H s e s' ⟨_,_,_,_,_,_,_,_,_,_,_,_,_,_,z⟩;exact z
#print axioms PySem.Challenge.cw_quickchange_k26_whole_three_standings_holds
end
