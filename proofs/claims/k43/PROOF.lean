import PyProof.Rows.All
import Wide.All
import OpenK.AllK
import Wide.FinOn
import Lean
import PyProof.EqAt
import PyProof.EqKinds
import PyProof.TupleCall
import PySem.Challenge.RW_termcourt_k43_shown_and_read
set_option Elab.async false
set_option linter.all false
set_option maxRecDepth 100000
/-! THE HAND LAYER,for ints,bools,texts,own classes,LISTS and tuples (index,slices,in,append,pop ..),calls,loops. Paste it whole ahead of your own text; what your proof does not reach may be deleted. -/
local macro_rules|`(Ek)=>`(by decide +kernel)|`(En)=>`(by decide)
open PySem.Str renaming ofString->Aa,empty->Co,cps_append->Ds,join->DZ
open List renaming length_map->Ab,getElem?_eq_some_iff->Ac,getElem?_eq_getElem->Ae,getElem?_map->Af,length_append->Ai,mem_cons_self->Ak,mem_of_getElem?->Al,length_cons->Am,size_toArray->An,mem_singleton->Ao,mem_cons->Ap,mem_cons_of_mem->Aq,map_append->Ar,map_cons->At,not_mem_nil->Av,mem_append_right->Ay,getD_eq_getElem?_getD->A4,length_take->A6,mem_map->A8,mem_append->A9,getElem?_of_mem->AA,append_assoc->AB,nil_append->AG,nodup_cons->AK,flatMap_append->AL,map_map->AM,range->AR,getElem?_append_right->AS,nodup_append->AV,append_nil->AW,getElem?_append_left->Ba,cons_append->Bb,take_length->Be,length_nil->Bf,flatMap_cons->Bg,mem_filter->Bh,all_eq_true->Bk,length_range->Bm,length_drop->Bv,getElem_mem->Bw,lookup_cons->Bx,filter_cons->By,length_set->Bz,ext_getElem?->B0,length_singleton->B3,getElem?_eq_none->B4,Nodup->B5,mem_flatMap->B6,mem_append_left->B7,getElem?_set_self->B8,getElem?_set->BA,map_nil->BE,getElem?_eq_none_iff->BG,filter_append->BI,cons_lt_cons_iff->BN,take_append_drop->BO,pairwise_map->BP,take_of_length_le->BW,drop_eq_getElem_cons->BY,filterMap_cons->Ca,mem_map_of_mem->Cb,take_sublist->Cd,foldl_append->Cf,count_append->Ct,length_reverse->Cv,range_succ->Cw,mem_or_eq_of_mem_set->Cy,contains_iff_mem->Cz,map_take->C3,mem_range->C4,find?_cons->CB,lookup->CL,take_add_one->CN,getElem?_range->CT,cons_ne_nil->CV,map_drop->Dh,filterMap_append->Dk,getElem?_inj->Dn,mem_of_mem_drop->Dt,mem_of_mem_take->Du,toList_toArray->Dy,length_take_le->Dz,all_cons->D3,any_cons->D4,zip_cons_cons->D9,length->DB,reverse_cons->DG,all_map->DI,take_zero->DM,length_filter_le->DP,getElem?_reverse->DQ,mem_reverse->DV,getElem?_set_ne->DX,map_eq_nil_iff->Eh,findSome?_cons->Ei,perm_iff_count->Ej
open PySem renaming wpAny_bind->Ad,Shared->Ah,sizeLine->Au,Spec->Aw,wpAny_pure->A1,mainGlobals->AD,FuncData->AF,Program->AH,Around->AQ,Builtin->AX,sizeLine_eq->Bd,NameKind->Bq,wpAny_Call_Name_kw->B1,wpAny_truthy_bool->B9,PassesOwn->BF,wpAny_field->BK,wpAny_mono->BQ,wpAny_holding->BR,mem_of_lookup->Cu,wpAny_seqItems->CH,wpAny_passesOwn->CJ,codeAny_mono->CM,wpAny_call->CQ,wpAny_getItem_str_slice->CU,wpAny_callSpecial?_slot->CW,Paired->CZ,wpAny_setField_rec->Dc,wpAny_standAt->Df,wpAny_newObj_type->Dm,call_meets->Do,Within->Dv,tupleKind_room_in1->D8,wpAny_pyIter_list->DC,wpAny_setField->DK,plainObj_wpAny_Assign_Attribute->DN,wpAny_call_entry->DT,IsPair->DU,codeAny_call_builtin->DY,wpAny_execs_nil->Eb,post_val_or_str->Ec
open PySem.W renaming Frag->Ag,nsIn->AT,findIn->AU,keepIn->Bi,mg_none_of->Bp,fnOf->Bt,mg_of->Bu,Looks->BJ,kia_one->BS,emptyDict->Cc,codeIn->Ci,typeIn->Cs,instObj->C9,callWith_K->CF,hasDictIn->Dl,plainGet->Dw,mroIn->D0,specialIn->DD,kitOne->DE,methodCall_KW->DO,plainGet_of->Ef
open PySem.Heap renaming get?_push_of_some->Aj,lt_size->Az,get?_push_size->A3,get?_update_other->BH,get?_update_self->BM,SameBut->BU,size_push->C6
open Nat renaming le_refl->Ax,le_trans->A2,lt_of_lt_of_le->AC,ne_of_lt->AI,zero_le->Bj,ne_of_gt->BV,le_of_eq->Cn,lt_irrefl->Cq,le_succ->C7,lt_succ_self->CC,succ_le_succ->CD,zero_add->CO,lt_of_le_of_lt->Da,not_lt_zero->De,sub_self->Dx,succ_pos->DL,log2_le_self->DW
open Or renaming inl->A0,inr->Cj
open Option.some renaming inj->A5
open PySem.F renaming plainAttrs_list->A7,slot_list_append->AY,type_list_append->AZ,plainAttrs_str->BB,slot_list_extend->Ck,type_list_extend->Cm,slot_str_join->C0,type_str_join->C1,slot_tuple_iterator_next->CI,excBase_ValueError->Dr,slot_NoneType_eq_refl->Ea,slot_zip_next->Ed
open Bool renaming false_ne_true->AE,and_eq_true->AN,false_and->C5,eq_iff_iff->CA,false_eq_true->Db,true_and->Dg,and_false->Dp
open PySem.Value renaming ref->AJ,none->BZ,type->CY
open Array renaming length_toList->AO,getElem?_toList->Dj,getElem?_eq_some_iff->Dq,toList_append->Eg
open Ne renaming symm->Bc
open PySem.NameKind renaming free->Bl
open PySem.PassesOwn renaming never->Bo
open False renaming elim->Br
open PySem.SeqAt renaming EqAt->BC
open PyProof.Rows renaming callWith_type1->BD,callWith_builtin1->DR
open PySem.Obj renaming mapSeq->BL,data_mapFields->CG,isFreed_of_fields->Di,mapFields->D5
open Int renaming zero_add->BX,toNat_natCast->C8,emod_lt_of_pos->DA,emod_nonneg->Ee
open List.Sublist renaming refl->Ce
open Option renaming isSome_iff_exists->Cg,map_some->D7,map_eq_some_iff->DH
open PySem.Txt renaming split->Cp,slice_le->DJ,slice->DS
open List.cons renaming inj->Cr
open Nat.succ renaming inj->C2
open Except renaming ok->CK
open True renaming intro->CP
open Sum renaming inr->CS
open ForInStep renaming yield->Dd
open Int.ofNat renaming inj->D6
open PySem.Calls renaming callWith_builtin->DF
theorem Z.{u}{α:Sort u}{a:α}:a=a:=rfl
namespace L2
open PySem PySem.Spec PyProof.Rows
noncomputable abbrev Key:=Sum Int Str
noncomputable def qlv:Key->Value->Bool
 |.inl k,v=>Value.isInt k v
 |.inr x,v=>Value.isStrOf x v
noncomputable def keyH (w:World):Key->Int
 |.inl k=>hashInt k
 |.inr x=>hashStr w x
theorem qb1:∀{k:Key}{v:Value},qlv k v=true->(∃i t,k=Sum.inl i/\v=Value.int i t)\/(∃x t,k=CS x/\v=Value.str x t)
 |.inl i,v,h=>by obtain⟨t,e⟩:=Value.isInt_shape (k:=i) (v:=v) h;exact .inl ⟨i,t,Z,e⟩
 |.inr x,v,h=>by obtain⟨t,e⟩:=Value.isStrOf_shape (x:=x) (v:=v) h;exact .inr ⟨x,t,Z,e⟩
theorem qrs (i:Int)(t:Tok):qlv (.inl i) (.int i t)=true:=by simp[qlv,Value.isInt]
theorem qrt (x:Str)(t:Tok):qlv (.inr x) (.str x t)=true:=by simp[qlv,Value.isStrOf]
theorem qyr (a b:Int):decide ((Sum.inl a:Key)=Sum.inl b)=(a == b):=by
 by_cases e:a=b
 .subst e;simp
 .have h:¬(Sum.inl a:Key)=Sum.inl b:=λq=>e (Sum.inl.inj q);rw[decide_eq_false h];exact(beq_eq_false_iff_ne.mpr e).symm
theorem qys (a b:Str):decide ((CS a:Key)=CS b)=decide (a=b):=by
 by_cases e:a=b
 .subst e;simp
 .have h:¬(CS a:Key)=CS b:=λq=>e (CS.inj q);rw[decide_eq_false h,decide_eq_false e]
theorem qyt (a:Int)(b:Str):decide ((Sum.inl a:Key)=CS b)=false:=decide_eq_false (λq=>nomatch q)
theorem qyu (a:Str)(b:Int):decide ((CS a:Key)=Sum.inl b)=false:=decide_eq_false (λq=>nomatch q)
noncomputable def qb2 (prog:AH)(w:World):PySem.KeyKind prog w Key where
 is:=qlv
 hash:=keyH w
 inj:=λv a b ha hb=>by
  rcases qb1 ha with ⟨i,t,rfl,rfl⟩|⟨x,t,rfl,rfl⟩
  .rcases qb1 hb with ⟨j,u,rfl,e⟩|⟨y,u,rfl,e⟩
   .injection e with e1 _;rw[e1]
   .exact nomatch e
  .rcases qb1 hb with ⟨j,u,rfl,e⟩|⟨y,u,rfl,e⟩
   .exact nomatch e
   .injection e with e1 _;rw[e1]
 byValue:=λk v h=>by rcases qb1 h with ⟨i,t,rfl,rfl⟩|⟨x,t,rfl,rfl⟩ <;>rfl
 pyHash:=λhv h=>by
  rcases qb1 hv with ⟨i,t,rfl,rfl⟩|⟨x,t,rfl,rfl⟩
  .exact wpAny_pyHash_int h
  .exact wpAny_pyHash_str h
 eqBool:=λhu hv h=>by
  rcases qb1 hu with ⟨i,t,rfl,rfl⟩|⟨x,t,rfl,rfl⟩
  .rcases qb1 hv with ⟨j,u,rfl,rfl⟩|⟨y,u,rfl,rfl⟩
   .rw[qyr]at h;exact wpAny_eqBool_int h
   .rw[qyt]at h;exact BC.int_str i t y u _ _ _ _ h
  .rcases qb1 hv with ⟨j,u,rfl,rfl⟩|⟨y,u,rfl,rfl⟩
   .rw[qyu]at h;exact BC.str_int x t j u _ _ _ _ h
   .rw[qys]at h;exact wpAny_eqBool_str h
 «strs» := λk x t v h=>by
  rcases qb1 h with ⟨i,u,rfl,e⟩|⟨y,u,rfl,e⟩
  .exact nomatch e
  .injection e with e1 _;subst e1;cases v <;>rfl
theorem qnm (prog:AH)(w:World)(i:Int)(t:Tok):(qb2 prog w).is (.inl i) (.int i t)=true:=qrs i t
theorem qnn (prog:AH)(w:World)(x:Str)(t:Tok):(qb2 prog w).is (.inr x) (.str x t)=true:=qrt x t
end L2
namespace L2
open PySem PySem.Spec PyProof.Rows
inductive V where
 |non|bl (b:Bool)|int (i:Int)|str (x:Str)|byt (b:Array UInt8)|flt (b:UInt64)|ref (a:Addr)|ty (n:String)
 deriving DecidableEq
def RelV:V->Value->Prop
 |.non,u=>u=BZ
 |.bl b,u=>u=Value.bool b
 |.int i,u=>∃t,u=Value.int i t
 |.str x,u=>∃t,u=Value.str x t
 |.byt b,u=>∃t,u=Value.bytes b t
 |.flt b,u=>∃t,u=Value.float b t
 |.ref a,u=>u=AJ a
 |.ty n,u=>u=CY n
noncomputable abbrev Vals:List V->List Value->Prop:=CZ RelV
theorem Vals.length {xs:List V}{us:List Value}(r:Vals xs us):xs.length=us.length:=CZ.length r
theorem Vals.get:∀{xs:List V}{us:List Value}{i:Nat}{x:V},Vals xs us->xs[i]?=some x->∃u,us[i]?=some u/\RelV x u
 |_,_,_,_,.nil,e=>by simp at e
 |_,_,0,_,.cons r _,e=>by simp at e;subst e;exact⟨_,Z,r⟩
 |_,_,i+1,x,.cons _ t,e=>by obtain⟨u,b,a⟩:=Vals.get (i:=i) (x:=x) t (by simpa using e);exact⟨u,by simpa using b,a⟩
theorem Vals.set {x:V}{u:Value}(r:RelV x u):∀{xs:List V}{us:List Value}(i:Nat),Vals xs us->Vals (xs.set i x) (us.set i u)
 |_,_,_,.nil=>.nil
 |_,_,0,.cons _ t=>.cons r t
 |_,_,i+1,.cons q t=>.cons q (Vals.set r i t)
theorem Vals.append:∀{xs ys:List V}{us ws:List Value},Vals xs us->Vals ys ws->Vals (xs++ys) (us++ws)
 |_,_,_,_,.nil,s=>s
 |_,_,_,_,.cons r t,s=>.cons r (Vals.append t s)
theorem Vals.take:∀{xs:List V}{us:List Value}(n:Nat),Vals xs us->Vals (xs.take n) (us.take n)
 |_,_,0,_=>.nil
 |_,_,_+1,.nil=>.nil
 |_,_,n+1,.cons r t=>.cons r (Vals.take n t)
theorem Vals.drop:∀{xs:List V}{us:List Value}(n:Nat),Vals xs us->Vals (xs.drop n) (us.drop n)
 |_,_,0,r=>r
 |_,_,_+1,.nil=>.nil
 |_,_,n+1,.cons _ t=>Vals.drop n t
def RelO:Option V->Option Value->Prop
 |some v,some u=>RelV v u
 |none,none=>True
 |_,_=>False
noncomputable def KV {κ:Type}:List (κ×V)->List (κ×Value)->Prop:=CZ λ(p:κ×V)(q:κ×Value)=>p.1=q.1/\RelV p.2 q.2
noncomputable def kV:Key->V
 |.inl i=>.int i
 |.inr x=>.str x
inductive HO where
 /-- a list -/
 |lst (xs:List V)
 /-- a tuple (never changes) -/
 |tup (xs:List V)
 /-- a dict whose keys are ints and texts;one whose keys are tuples of ints and texts (the empty one is both) -/
 |dK (kvs:List (Key×V))|dT (kvs:List (List Key×V))
 /-- a set of ints: its members,its size -/
 |set (S:Int->Bool) (n:Nat)
 /-- an instance of the class at C,its dict at dx,its attributes -/
 |ins (C dx:Addr) (fs:List (Str×V))
 /-- the dict of the instance at x -/
 |own (x:Addr)
 /-- the dict of an exception -/
 |xd (fs:List (Str×V))
 /-- a bound method,f of x -/
 |met (f x:Addr)
 /-- a range object lo,lo+1,.. below hi -/
 |rng (lo hi:Int)
 /-- a thing that is known to the object (the script;a dict while a loop walks it): read,never written while it is so -/
 |frz (o:Obj) (u:HO)
 /-- a code object's table -/
 |tbl (ps:Array Value)
 /-- any other thing,by what is true of its one object (a def of one's own: SetO a S n:=HO.ext λh=>..) -/
 |ext (φ:Heap->Prop)
noncomputable abbrev Hp:=Addr->Option HO
noncomputable def upd (H:Hp)(a:Addr)(o:HO):Hp:=λb=>if b=a then some o else H b
theorem qu {H:Hp}{a:Addr}{o:HO}:upd H a o a=some o:=by unfold upd;rw[if_pos Z]
theorem ze {H:Hp}{a b:Addr}{o:HO}(h:b≠a):upd H a o b=H b:=by unfold upd;rw[if_neg h]
theorem qmn {H:Hp}{a:Addr}{o u:HO}:upd (upd H a o) a u=upd H a u:=by funext b;unfold upd;split <;>rfl
theorem ne_of {H:Hp}{a b:Addr}{o u:HO}(h:H a=some o)(h':H b=some u)(d:o≠u):a≠b:=by intro e;subst e;rw[h]at h';exact d (A5 h')
theorem qab {H:Hp}{a b:Addr}{o:HO}(h:H a=some o)(h':H b=none):a≠b:=by intro e;subst e;rw[h]at h';cases h'
section
variable (P:AH)(w:World)
def ObjOk (H:Hp)(h:Heap)(a:Addr):HO->Prop
 |.lst xs=>xs.length<=Au/\∃(its:List Value)(n:Nat),Vals xs its/\h.get? a=some {cls:=.type "list",data:=.seq its.toArray n}
 |.tup xs=>xs.length<=Au/\∃its:List Value,Vals xs its/\IsTup h a its.toArray
 |.dK kvs=>kvs.length<=Au/\(a == sysModules)=false/\∃vs,KV kvs vs/\h.DictOf (qb2 P w) a vs
 |.dT kvs=>kvs.length<=Au/\(a == sysModules)=false/\∃xs:List (List Key×Addr×Value),
   CZ (λ(p:List Key×V)(q:List Key×Addr×Value)=>p.1=q.1/\H q.2.1=some (.tup (p.1.map kV))/\RelV p.2 q.2.2) kvs xs /\
   ∃o es ep,h.get? a=some o/\o.ExactDict/\o.data=.dict es ep/\es.toList=xs.map (entryOfKey (tupleKind (qb2 P w)))/\(xs.map (·.1)).Nodup
 |.set S n=>h.SetOf (intKind P w) a S n
 |.ins C dx fs=>H dx=some (.own a)/\fs.length<=1000/\dx≠a/\h.get? a=some (C9 C dx) /\
   ∃mA,h.Ns1 dx mA/\(∀f,RelO (fs.lookup f) (mA f))/\Dv mA (fs.map (·.1))
 |.own _=>∃o,h.get? a=some o
 |.xd fs=>∃mA,h.Ns1 a mA/\∀f,RelO (fs.lookup f) (mA f)
 |.rng lo hi=>∃t u v,h.get? a=some {cls:=.type "range",data:=.fields #[.int lo t,.int hi u,.int 1 v]}
 |.frz o u=>h.get? a=some o/\ObjOk H h a u
 |.tbl ps=>h.get? a=some {cls:=.none,data:=.fields ps}
 |.met f x=>h.get? a=some (PySem.W.methodObj (.ref f) (.ref x))
 |.ext φ=>φ h/\(∃o,h.get? a=some o)/\∀h1 h2:Heap,φ h1->(∀o,h1.get? a=some o->h2.get? a=some o)->φ h2
def HOk (H:Hp)(h:Heap):Prop:=∀a o,H a=some o->ObjOk P w H h a o
end
section
variable {P:AH}{w:World}{H H':Hp}{h h':Heap}{a:Addr}{o:HO}
theorem ObjOk.lt (x:ObjOk P w H h a o):a<h.objs.size:=by
 cases o with
 |lst xs=>obtain⟨_,_,_,_,e⟩:=x;exact Az e
 |tup xs=>obtain⟨_,_,_,p⟩:=x;exact p.lt
 |dK kvs=>obtain⟨_,_,_,_,o,_,_,e,_⟩:=x;exact Az e
 |dT kvs=>obtain⟨_,_,_,_,o,_,_,e,_⟩:=x;exact Az e
 |set S n=>obtain⟨o,_,_,_,e,_⟩:=x;exact Az e
 |ins C dx fs=>obtain⟨_,_,_,e,_⟩:=x;exact Az e
 |own y=>obtain⟨_,e⟩:=x;exact Az e
 |xd fs=>obtain⟨_,⟨_,_,_,e,_⟩,_⟩:=x;exact Az e
 |rng lo hi=>obtain⟨_,_,_,e⟩:=x;exact Az e
 |frz ob u=>obtain⟨e,_⟩:=x;exact Az e
 |tbl ps=>exact Az (show h.get? a=some _ from x)
 |met f y=>exact Az (show h.get? a=some _ from x)
 |ext φ=>obtain⟨_,⟨_,e⟩,_⟩:=x;exact Az e
theorem CZ.mapP {α β:Type}{F G:α->β->Prop}:∀{c:List α}{d:List β},CZ F c d->(∀a b,F a b->G a b)->CZ G c d
 |_,_,.nil,_=>.nil
 |_,_,.cons r t,f=>.cons (f _ _ r) (CZ.mapP t f)
theorem ObjOk.stay (x:ObjOk P w H h a o)(k:∀b u,(b=a\/H b=some (.own a))->h.get? b=some u->h'.get? b=some u)
  (A:∀b,H b=some (.own a)->H' b=some (.own a))(s:∀b xs,H b=some (.tup xs)->H' b=some (.tup xs)):ObjOk P w H' h' a o:=by
 induction o with
 |lst xs=>obtain⟨z,its,n,r,e⟩:=x;exact⟨z,its,n,r,k _ _ (.inl Z) e⟩
 |tup xs=>obtain⟨z,its,r,g,e,c⟩:=x;exact⟨z,its,r,g,k _ _ (.inl Z) e,c⟩
 |dK kvs=>obtain⟨z,y,vs,r,g,i,ep,e,c⟩:=x;exact⟨z,y,vs,r,g,i,ep,k _ _ (.inl Z) e,c⟩
 |dT kvs =>obtain⟨z,y,xs,r,g,i,ep,e,c⟩:=x;exact⟨z,y,xs,CZ.mapP r λp q z=>⟨z.1,s _ _ z.2.1,z.2.2⟩,g,i,ep,k _ _ (.inl Z) e,c⟩
 |set S n=>obtain⟨g,i,ep,t,e,c⟩:=x;exact⟨g,i,ep,t,k _ _ (.inl Z) e,c⟩
 |ins C dx fs =>obtain⟨d,z,ne,e,l,⟨j,i,ep,m,c⟩,r⟩:=x;exact⟨A _ d,z,ne,k _ _ (.inl Z) e,l,⟨j,i,ep,k _ _ (.inr d) m,c⟩,r⟩
 |own y=>obtain⟨g,e⟩:=x;exact⟨g,k _ _ (.inl Z) e⟩
 |xd fs=>obtain⟨l,⟨j,i,ep,e,c⟩,r⟩:=x;exact⟨l,⟨j,i,ep,k _ _ (.inl Z) e,c⟩,r⟩
 |rng lo hi=>obtain⟨t,u,v,e⟩:=x;exact⟨t,u,v,k _ _ (.inl Z) e⟩
 |frz g u ih=>obtain⟨e,q⟩:=x;exact⟨k _ _ (.inl Z) e,ih q⟩
 |tbl ps =>have e:h.get? a=some {cls:=.none,data:=.fields ps}:=x;show h'.get? a=some {cls:=.none,data:=.fields ps};exact k a _ (.inl Z) e
 |met f y =>have e:h.get? a=some (PySem.W.methodObj (.ref f) (.ref y)):=x;show h'.get? a=some (PySem.W.methodObj (.ref f) (.ref y));exact k a _ (.inl Z) e
 |ext φ=>obtain⟨p,⟨o,e⟩,st⟩:=x;exact⟨st _ _ p λo q=>k _ _ (.inl Z) q,⟨o,k _ _ (.inl Z) e⟩,st⟩
theorem HOk.lt (x:HOk P w H h)(e:H a=some o):a<h.objs.size:=(x a o e).lt
theorem HOk.fresh (x:HOk P w H h)(e:h.objs.size<=a):H a=none:=by
 cases q:H a with|none=>rfl|some u=>exact absurd (AC (x.lt q) e) (Cq _)
theorem HOk.kept (x:HOk P w H h)(k:∀b u,h.get? b=some u->h'.get? b=some u):HOk P w H h':=λa o e =>
 (x a o e).stay (λb u _ q=>k b u q) (λ_ q=>q) λ_ _ q=>q
theorem HOk.laid (x:HOk P w H h)(k:∀b u,h.get? b=some u->h'.get? b=some u)(i:h.objs.size<=a)(f:ObjOk P w (upd H a o) h' a o):HOk P w (upd H a o) h':=λb u e=>by
 have d:=x.fresh i;by_cases g:b=a
 .subst g;rw[qu]at e;cases e;exact f
 .rw[ze g]at e;exact(x b u e).stay (λc v _ q=>k c v q) (λc q=>by rw[ze (qab q d)];exact q) λc xs q=>by rw[ze (qab q d)];exact q
end
def Rd (H:Hp)(a:Addr)(u:HO):Prop:=H a=some u \/ ∃o,H a=some (.frz o u)
theorem Rd.ok {P:AH}{w:World}{H:Hp}{h:Heap}{a:Addr}{u:HO}(r:Rd H a u)(x:HOk P w H h):ObjOk P w H h a u:=by
 rcases r with r|⟨o,r⟩
 .exact x a u r
 .obtain⟨_,q⟩:=x a _ r;exact q
def Mut:Option HO->Prop
 |some (.lst _)=>True
 |some (.dK _)=>True
 |some (.dT _)=>True
 |some (.set _ _)=>True
 |some (.ins _ _ _)=>True
 |some (.ext _)=>True
 |_=>False
section
variable {P:AH}{w:World}{H:Hp}{h h':Heap}{x e:Addr}{o':HO}
theorem HOk.write (ok:HOk P w H h)(f:Mut (H x))(o:e=x\/H e=some (.own x))(k:∀b u,b≠e->h.get? b=some u->h'.get? b=some u)(l:∃u,h'.get? e=some u)
  (n:ObjOk P w (upd H x o') h' x o'):HOk P w (upd H x o') h':=λb u q=>by
 have d:∀c y,H c=some (.own y)->c≠x:=λc y r z=>by subst z;rw[r]at f;exact f
 have j:∀c xs,H c=some (.tup xs)->c≠x:=λc xs r z=>by subst z;rw[r]at f;exact f
 by_cases i:b=x
 .subst i;rw[qu]at q;cases q;exact n
 .rw[ze i]at q;by_cases a:b=e
  .have m:H b=some (.own x):=by
    rcases o with z|z
    .exact absurd (a.trans z) i
    .rw[a];exact z
   rw[q]at m;cases m
   obtain⟨v,p⟩:=l
   exact⟨v,by rw[a];exact p⟩
  .refine(ok b u q).stay (λc v g r=>k c v ?_ r) (λc r=>by rw[ze (d c b r)];exact r) λc xs r=>by rw[ze (j c xs r)];exact r
   rcases g with rfl|g
   .exact a
   .rintro rfl;rcases o with z|z
    .exact d c b g z
    .rw[g]at z;cases z;exact i rfl
end
structure Un (fs ex:List Addr)(H H':Hp)(h h':Heap):Prop where
 keep:∀b o,h.get? b=some o->H b=none->b∉fs->b∉ex->h'.get? b=some o
 slot:∀b o,h.get? b=some o->H b=none->b∈fs->b∉ex->∃sl,h'.get? b=some {o with slots:=sl}
 free:∀b o,h.get? b=some o->H b=none->b∉ex->H' b=none
 there:∀b o,h.get? b=some o->b∉ex->∃o',h'.get? b=some o'
 tups:∀b xs,H b=some (.tup xs)->H' b=some (.tup xs)
 frzs:∀b o u,H b=some (.frz o u)->H' b=some (.frz o u)
 tbls:∀b ps,H b=some (.tbl ps)->∃qa4,H' b=some (.tbl (ps++qa4))
section
variable {fs fs' ex ex':List Addr}{H H1 H2:Hp}{h h1 h2 h':Heap}{a x e:Addr}{o:HO}
theorem Un.any (u:Un fs ex H H1 h h1){b:Addr}{a:Obj}(q:h.get? b=some a)(n:H b=none)(d:b∉ex):∃sl,h1.get? b=some {a with slots:=sl}:=by
 by_cases c:b∈fs
 .exact u.slot b a q n c d
 .exact⟨a.slots,u.keep b a q n c d⟩
theorem Un.kept (k:∀b u,h.get? b=some u->h'.get? b=some u):Un fs ex H H h h' :=
 ⟨λb a q _ _ _=>k b a q,λb a q _ _ _=>⟨a.slots,k b a q⟩,λ_ _ _ n _=>n,λb a q _=>⟨a,k b a q⟩,λ_ _ q=>q,λ_ _ _ q=>q,λ_ ps q=>⟨#[],by rw[q];simp⟩⟩
theorem Un.refl:Un fs ex H H h h:=Un.kept λ_ _ q=>q
theorem Un.laid (k:∀b u,h.get? b=some u->h'.get? b=some u)(d:h.objs.size<=a)(c:H a=none):Un fs ex H (upd H a o) h h' where
 keep:=λb u q _ _ _=>k b u q
 slot:=λb u q _ _ _=>⟨u.slots,k b u q⟩
 free:=λb u q n _=>by rw[ze (AI (AC (Az q) d))];exact n
 there:=λb u q _=>⟨u,k b u q⟩
 tups:=λb xs q=>by rw[ze (qab q c)];exact q
 frzs:=λb u xs q=>by rw[ze (qab q c)];exact q
 tbls:=λb ps q=>⟨#[],by rw[ze (qab q c),q];simp⟩
theorem Un.write (a:Mut (H x))(j:e=x\/H e=some (.own x))(k:∀b u,b≠e->h.get? b=some u->h'.get? b=some u)(g:∃u,h'.get? e=some u):Un fs ex H (upd H x o) h h':=by
 have i:∀b,H b=none->b≠x:=λb n z=>by subst z;rw[n]at a;exact a
 have f:∀b,H b=none->b≠e:=λb n z=>by
  subst z;rcases j with r|r
  .exact i b n r
  .rw[n]at r;cases r
 have d:∀b u,H b=some u->¬Mut (some u)->b≠x:=λb u q nm z=>by subst z;rw[q]at a;exact nm a
 refine⟨λb u q n _ _=>k b u (f b n) q,λb u q n _ _=>⟨u.slots,k b u (f b n) q⟩,λb u q n _=>by rw[ze (i b n)];exact n,λb u q _=>?_,
  λb xs q=>by rw[ze (d b _ q λz=>z)];exact q,λb u xs q=>by rw[ze (d b _ q λz=>z)];exact q,λb ps q=>⟨#[],by rw[ze (d b _ q λz=>z),q];simp⟩⟩
 by_cases c:b=e
 .subst c;exact g
 .exact⟨u,k b u c q⟩
end
noncomputable def trk (h:Heap)(H:Hp):List Addr:=(AR h.objs.size).filter λa=>(H a).isSome
noncomputable def qmo (h:Heap)(H:Hp):Heap:=PySem.W.hideAll h (trk h H)
theorem qru (h:Heap)(H:Hp):(qmo h H).objs.size=h.objs.size:=PySem.W.hideAll_size _ _
theorem qhv {h:Heap}{H:Hp}{b:Addr}{o:Obj}(e:h.get? b=some o)(n:H b=none):(qmo h H).get? b=some o :=
 PySem.W.hideAll_get _ e λa=>by have q:(H b).isSome=true:=(Bh.mp a).2;rw[n]at q;simp at q
theorem qwj {h:Heap}{H:Hp}{b:Addr}{o:Obj}(e:(qmo h H).get? b=some o):h.get? b=some o/\H b=none:=by
 have a:h.get? b=some o:=PySem.W.of_hideAll (trk h H) e;refine⟨a,?_⟩;cases q:H b with|none=>rfl|some x =>have c:b∈trk h H:=Bh.mpr ⟨C4.mpr (Az a),by simp[q]⟩;have z:(qmo h H).get? b=none:=PySem.W.hideAll_none (trk h H) c;rw[z]at e;cases e
noncomputable def qwk (g h:Heap)(L:Addr):List (Addr×Obj):=(AR h.objs.size).filterMap λa=>if a=L\/(g.get? a).isSome=true then none else (h.get? a).map λo=>(a,o)
noncomputable def qcb (g h:Heap)(L d:Addr):List (Addr×Obj):=(qwk g h L).filter λp=>decide (p.1≠d)
end L2
namespace L2
open PySem PySem.Spec PyProof.Rows
structure Mod (K:Ag)(mg:Str->Option Value)(base:Heap):Prop where
 kin:K.In base
 glob:base.Ns AD mg
 blt:∃mb,base.Ns builtinsNs mb/\∀x:Str,x ≠ "__name__" -> mb x=bootBuiltins x
 nolimit:base.NoLimit
structure Cx where
 prog:AH
 w:World
 K:Ag
 mg:Str->Option Value
 base:Heap
 A:AQ
 N:List Str
 s₀:Ah
 H₀:Hp
 env:Env
 outer:List Env
 stack:List Env
 ex:List Addr
 fn:Str->Bool
 calm:Bool
 pn:List (Addr×Obj)
 xe:Value->Ah->Prop
noncomputable def frs (l:List Env):List Addr:=l.filterMap (·.frame)
noncomputable abbrev Cx.fs (X:Cx):List Addr:=frs X.outer
def Vis (sc:Scope)(x:Str):Prop:=sc.names.lookup x=some .local\/sc.names.lookup x=some .cell\/sc.names.lookup x=some .free
def Loc (sc:Scope)(x:Str):Prop:=sc.names.lookup x=some .local\/sc.names.lookup x=some .cell
def Look (env:Env)(h:Heap)(m:Str->Option Value)(x:Str)(u:Value):Prop :=
 (env.kindOf x=some .local/\m x=some u)\/((env.kindOf x=some .cell\/env.kindOf x=some .free)/\∃c,env.cells.lookup x=some c/\h.IsCell c (some u))
structure Cx.Ok (X:Cx):Prop where
 mod:Mod X.K X.mg X.base
 kind:X.env.scope.kind=.function
 glob:X.env.globals=AD
 blt:X.env.builtins=builtinsNs
 above:X.s₀.heap.objs.size<=X.env.locals
 inj:∀x y c,X.env.cells.lookup x=some c->X.env.cells.lookup y=some c->x=y
 has:∀x,(X.env.kindOf x=some .cell\/X.env.kindOf x=some .free)->∃c,X.env.cells.lookup x=some c
 cab:∀x c,X.fn x=true->X.env.cells.lookup x=some c->X.s₀.heap.objs.size<=c
 hd:X.calm=true->X.A.handled=none
 frames:X.A.frames=some X.stack
 stk:X.stack=X.outer\/(X.stack=X.env::X.outer/\X.env.frame=some X.env.locals)
 exf:∀b∈X.ex,b≠X.env.locals/\∀x c,X.env.cells.lookup x=some c->c≠b
 bs:∀b o,X.base.get? b=some o->X.s₀.heap.get? b=some o/\X.H₀ b=none
 bsz:X.base.objs.size<=X.s₀.heap.objs.size
 noex:∀b o,X.base.get? b=some o->b∉X.ex
 exfs:∀b∈X.ex,b∉X.fs
 funs:X.s₀.heap.FunFrames X.base X.outer
 frf:∀b∈X.fs,X.H₀ b=none
structure Inv (X:Cx)(pins:List (Addr×Obj))(σ:List (Option V))(H:Hp)(s:Ah):Prop where
 ok:X.Ok
 os:s.os=X.s₀.os
 bare:AllBare s.gens
 base:Un X.fs X.ex X.H₀ H X.s₀.heap s.heap
 loc:∃m,s.heap.Ns X.env.locals m/\∀(i:Nat)(x:Str)(v:V),X.N[i]?=some x->σ[i]?=some (some v)->Vis X.env.scope x->∃u,RelV v u/\Look X.env s.heap m x u
 cell:∀x c,X.env.cells.lookup x=some c->∃v,s.heap.IsCell c v
 free:H X.env.locals=none
 freeC:∀x c,X.env.cells.lookup x=some c->H c=none
 pin:∀p∈X.pn++pins,s.heap.get? p.1=some p.2/\H p.1=none/\p.1≠X.env.locals/\p.1∉X.fs/\∀v,p.2.data ≠ .cell v
 hok:HOk X.prog X.w H s.heap
 len:σ.length=X.N.length
section
variable {X:Cx}{pins:List (Addr×Obj)}{σ:List (Option V)}{H H':Hp}{s:Ah}{h':Heap}
theorem Cx.Ok.nofr (ok:X.Ok){b:Addr}{o:Obj}(e:X.base.get? b=some o):b∉X.fs:=λa=>by have:=(ok.funs.mem a).1;rw[e]at this;cases this
theorem Inv.bs (I:Inv X pins σ H s):∀b o,X.base.get? b=some o->s.heap.get? b=some o/\H b=none:=λb o e =>
 ⟨I.base.keep b o (I.ok.bs b o e).1 (I.ok.bs b o e).2 (I.ok.nofr e) (I.ok.noex b o e),I.base.free b o (I.ok.bs b o e).1 (I.ok.bs b o e).2 (I.ok.noex b o e)⟩
theorem Inv.bk (I:Inv X pins σ H s):∀b o,X.base.get? b=some o->s.heap.get? b=some o:=λb o e=>(I.bs b o e).1
theorem Inv.mod (I:Inv X pins σ H s):Mod X.K X.mg X.base:=I.ok.mod
theorem Inv.kIn (I:Inv X pins σ H s):X.K.In s.heap:=I.ok.mod.kin.keeps I.bk
theorem Inv.nolimit (I:Inv X pins σ H s):s.heap.NoLimit:=I.ok.mod.nolimit.keeps I.bk
theorem Inv.lt (I:Inv X pins σ H s):X.env.locals<s.heap.objs.size:=let ⟨_,hn,_⟩:=I.loc;hn.lt
theorem Inv.sz (I:Inv X pins σ H s):X.s₀.heap.objs.size<=s.heap.objs.size:=A2 I.ok.above (Nat.le_of_lt I.lt)
theorem Inv.nofs (I:Inv X pins σ H s){a:Addr}(h:s.heap.objs.size<=a):a∉X.fs:=λb=>by obtain⟨_,o,c,_⟩:=I.ok.funs.mem b;exact absurd (AC (Az c) (A2 I.sz h)) (Cq _)
theorem Inv.cne (I:Inv X pins σ H s):∀x c,X.env.cells.lookup x=some c->c≠X.env.locals:=λx c e z=>by obtain⟨v,o,b,hd⟩:=I.cell x c e;obtain⟨m,⟨o',es,ep,a,d,_⟩,_⟩:=I.loc;rw[z,a]at b;cases b;rw[d]at hd;cases hd
theorem Inv.funs (I:Inv X pins σ H s):s.heap.FunFrames X.base X.outer:=by
 have all:∀(l:List Env),(∀b∈frs l,b∈X.fs)->X.s₀.heap.FunFrames X.base l->s.heap.FunFrames X.base l:=by
  intro l
  induction l with
  |nil=>intro _ _;trivial
  |cons env r ih =>intro hs hl;obtain⟨hk,⟨L,o,c,h,g,hd⟩,f⟩:=hl;have a:L∈X.fs:=hs L (by unfold frs;rw[Ca,c];exact Ak);obtain⟨sl,e⟩:=I.base.slot L o g (I.ok.frf L a) a λz=>I.ok.exfs L z a;exact⟨hk,⟨L,_,c,h,e,hd⟩,ih (λb d=>hs b (by unfold frs;rw[Ca,c];exact Aq _ d)) f⟩
 exact all X.outer (λ_ d=>d) I.ok.funs
theorem Inv.stack (I:Inv X pins σ H s):s.heap.FunFrames X.base X.stack:=by
 rcases I.ok.stk with e|⟨e,b⟩
 .rw[e];exact I.funs
 .rw[e];obtain⟨m,a,_⟩:=I.loc;refine .cons (by rw[I.ok.kind];decide) b a ?_ I.funs;exact Heap.get?_none_of_le (A2 I.ok.bsz I.ok.above)
theorem Inv.stkSub (I:Inv X pins σ H s):∀b∈frs X.stack,b∈X.env.locals::X.fs:=λb a=>by
 rcases I.ok.stk with e|⟨e,c⟩
 .rw[e]at a;exact Aq _ a
 .rw[e]at a;unfold frs at a;rw[Ca,c]at a;exact a
theorem Inv.stkFree (I:Inv X pins σ H s):∀b∈frs X.stack,H b=none:=λb a=>by
 rcases Ap.mp (I.stkSub b a) with e|a
 .rw[e];exact I.free
 .obtain⟨_,o,c,_⟩:=I.ok.funs.mem a;exact I.base.free b o c (I.ok.frf b a) λz=>I.ok.exfs b z a
theorem Inv.step {g':Array GenState}{t':Nat}{d':Drawn}{ch:List Addr}(I:Inv X pins σ H s)
  (h:∀b∈ch,(b∈X.ex\/X.s₀.heap.objs.size<=b)/\b≠X.env.locals/\(∀x c,X.env.cells.lookup x=some c->c≠b)/\∀p∈X.pn++pins,p.1≠b)
  (keep:∀b o,b≠X.env.locals->b∉X.fs->b∉ch->s.heap.get? b=some o->H b=none->h'.get? b=some o)
  (slot:∀b o,b≠X.env.locals->b∈X.fs->b∉ch->s.heap.get? b=some o->H b=none->∃sl,h'.get? b=some {o with slots:=sl})(free:∀b o,b∉ch->s.heap.get? b=some o->H b=none->H' b=none)
  (there:∀b o,b∉ch->s.heap.get? b=some o->∃o',h'.get? b=some o')
  (tups:∀b xs,H b=some (.tup xs)->H' b=some (.tup xs))(frzs:∀b o u,H b=some (.frz o u)->H' b=some (.frz o u))(tbls:∀b ps,H b=some (.tbl ps)->∃qa4,H' b=some (.tbl (ps++qa4)))
  (ns:∀m,s.heap.Ns X.env.locals m->h'.Ns X.env.locals m)(hok:HOk X.prog X.w H' h')(hg:AllBare g') :
  Inv X pins σ H' {s with heap:=h',gens:=g',drawn:=d',toks:=t'}:=by
 have C:∀b o,X.s₀.heap.get? b=some o->b≠X.env.locals:=λb o e=>AI (AC (Az e) I.ok.above);have y:∀b o,X.s₀.heap.get? b=some o->b∉X.ex->b∉ch:=λb o e a j=>by
  rcases (h b j).1 with z|z
  .exact a z
  .exact absurd (AC (Az e) z) (Cq _)
 have t:∀x c,X.env.cells.lookup x=some c->∀v,s.heap.IsCell c v->h'.IsCell c v:=λx c e v ⟨o,A,hd⟩=>by
  have g:c∉ch:=λz=>(h c z).2.2.1 x c e rfl;by_cases G:c∈X.fs
  .obtain⟨sl,q⟩:=slot c o (I.cne x c e) G g A (I.freeC x c e);exact⟨_,q,hd⟩
  .exact⟨o,keep c o (I.cne x c e) G g A (I.freeC x c e),hd⟩
 refine⟨I.ok,I.os,hg,⟨λb o e n j a=>?_,λb o e n j a=>?_,λb o e n a=>?_,λb o e a=>?_,λb xs e=>tups b xs (I.base.tups b xs e),λb o xs e=>frzs b o xs (I.base.frzs b o xs e),λb ps e=>?_⟩,?_,λx c e=>?_,?_,λx c e=>?_,λp E=>?_,hok,I.len⟩
 .exact keep b o (C b o e) j (y b o e a) (I.base.keep b o e n j a) (I.base.free b o e n a)
 .obtain⟨sl,f⟩:=I.base.slot b o e n j a;obtain⟨D,B⟩:=slot b _ (C b o e) j (y b o e a) f (I.base.free b o e n a);exact⟨D,B⟩
 .obtain⟨o',f⟩:=I.base.there b o e a;exact free b o' (y b o e a) f (I.base.free b o e n a)
 .obtain⟨o',f⟩:=I.base.there b o e a;exact there b o' (y b o e a) f
 .obtain⟨L,f⟩:=I.base.tbls b ps e;obtain⟨K,B⟩:=tbls b _ f;exact⟨L++K,by rw[B,Array.append_assoc]⟩
 .obtain⟨m,M,hl⟩:=I.loc;refine⟨m,ns m M,λi x v f B J=>?_⟩;obtain⟨u,r,l⟩:=hl i x v f B J;refine⟨u,r,?_⟩;rcases l with l|⟨k,c,e,z⟩
  .exact .inl l
  .exact .inr ⟨k,c,e,t x c e _ z⟩
 .obtain⟨v,z⟩:=I.cell x c e;exact⟨v,t x c e v z⟩
 .obtain⟨m,⟨o,_,_,A,_⟩,_⟩:=I.loc;exact free _ o (λz=>(h _ z).2.1 Z) A I.free
 .obtain⟨v,o,A,hd⟩:=I.cell x c e;exact free c o (λz=>(h c z).2.2.1 x c e Z) A (I.freeC x c e)
 .obtain⟨e,n,ne,F,d⟩:=I.pin p E;have g:p.1∉ch:=λz=>(h p.1 z).2.2.2 p E rfl;exact⟨keep p.1 p.2 ne F g e n,free p.1 p.2 g e n,ne,F,d⟩
theorem Inv.un {t':Nat}(I:Inv X pins σ H s)(u:Un X.fs [] H H' s.heap h')(f:HOk X.prog X.w H' h'):Inv X pins σ H' {s with heap:=h',toks:=t'}:=by obtain⟨m,⟨o,es,ep,g,r⟩,_⟩:=id I.loc;obtain⟨sl,i⟩:=u.any g I.free (by simp);exact I.step (g':=s.gens) (d':=s.drawn) (ch:=[]) (λ_ z=>nomatch z) (λb o _ c _ e n=>u.keep b o e n c (by simp)) (λb o _ c _ e n=>u.slot b o e n c (by simp)) (λb o _ e n=>u.free b o e n (by simp)) (λb o _ e=>u.there b o e (by simp)) u.tups u.frzs u.tbls (λm' j=>by obtain⟨o',h,d,a,r'⟩:=j;rw[g]at a;cases a;exact⟨_,h,d,i,r'⟩) f I.bare
theorem Inv.call {g':Array GenState}{t':Nat}{d':Drawn}{ch:List Addr}(I:Inv X pins σ H s)(u:Un (frs X.stack) ch H H' s.heap h')(i:HOk X.prog X.w H' h')(t:AllBare g')
  (f:∀b∈ch,(b∈X.ex\/X.s₀.heap.objs.size<=b)/\b≠X.env.locals/\(∀x c,X.env.cells.lookup x=some c->c≠b)/\∀p∈X.pn++pins,p.1≠b) :
  Inv X pins σ H' {s with heap:=h',gens:=g',drawn:=d',toks:=t'}:=by
 obtain⟨m,⟨o,es,ep,j,r⟩,_⟩:=id I.loc;obtain⟨sl,g⟩:=u.any j I.free λz=>(f _ z).2.1 rfl;exact I.step (ch:=ch) f (λb o g l a e n=>u.keep b o e n (λz=>(Ap.mp (I.stkSub b z)).elim g l) a) (λb o _ _ a e n=>u.any e n a) (λb o a e n=>u.free b o e n a) (λb o a e=>u.there b o e a) u.tups u.frzs u.tbls (λm' q=>by obtain⟨o',k,h,d,r'⟩:=q;rw[j]at d;cases d;exact⟨_,k,h,g,r'⟩) i t
theorem Inv.turned {t':Nat}{it:Addr}(I:Inv X pins σ H s)(k:∀b o,b≠it->s.heap.get? b=some o->h'.get? b=some o)(t:H it=none)(f:it≠X.env.locals)
  (i:it∈X.ex\/X.s₀.heap.objs.size<=it)(j:∀x c,X.env.cells.lookup x=some c->c≠it)(g:∀p∈X.pn++pins,p.1≠it):Inv X pins σ H {s with heap:=h',toks:=t'}:=by
 have d:∀b u,H b=some u->b≠it:=λb u e z=>by rw[z,t]at e;cases e
 refine I.step (g':=s.gens) (d':=s.drawn) (ch:=[it]) (λb w=>?_) (λb o _ _ a e _=>k b o (λz=>a (by simp[z])) e) (λb o _ _ a e _=>⟨o.slots,k b o (λz=>a (by simp[z])) e⟩) (λ_ _ _ _ n=>n)
  (λb o a e=>⟨o,k b o (λz=>a (by simp[z])) e⟩) (λ_ _ e=>e) (λ_ _ _ e=>e) (λb ps e=>⟨#[],by rw[e];simp⟩) (λm y=>?_) (λb u e=>?_) I.bare
 .have e:b=it:=by simpa using w
  subst e;exact⟨i,f,j,g⟩
 .obtain⟨o,h,ep,l,r⟩:=y;exact⟨o,h,ep,k _ o (Bc f) l,r⟩
 .refine(I.hok b u e).stay (λc v a q=>k c v ?_ q) (λ_ q=>q) λ_ _ q=>q;rcases a with z|z
  .rw[z];exact d b u e
  .exact d c _ z
theorem Inv.tok (I:Inv X pins σ H s)(t:Nat):Inv X pins σ H {s with toks:=t}:=I.un (h':=s.heap) (t':=t) Un.refl I.hok
theorem Inv.kept {t':Nat}(I:Inv X pins σ H s)(k:∀b u,s.heap.get? b=some u->h'.get? b=some u):Inv X pins σ H {s with heap:=h',toks:=t'}:=I.un (Un.kept k) (I.hok.kept k)
theorem Inv.laid {a:Addr}{o:HO}{t':Nat}(I:Inv X pins σ H s)(k:∀b u,s.heap.get? b=some u->h'.get? b=some u)(c:s.heap.objs.size<=a)(d:ObjOk X.prog X.w (upd H a o) h' a o) :
  Inv X pins σ (upd H a o) {s with heap:=h',toks:=t'}:=I.un (Un.laid k c (I.hok.fresh c)) (I.hok.laid k c d)
theorem Inv.write {x e:Addr}{o:HO}{t':Nat}(I:Inv X pins σ H s)(c:Mut (H x))(f:e=x\/H e=some (.own x))(k:∀b u,b≠e->s.heap.get? b=some u->h'.get? b=some u)(a:∃u,h'.get? e=some u)
  (d:ObjOk X.prog X.w (upd H x o) h' x o):Inv X pins σ (upd H x o) {s with heap:=h',toks:=t'}:=I.un (Un.write c f k a) (I.hok.write c f k a d)
theorem Inv.pins_of {a:List (Addr×Obj)}(I:Inv X pins σ H s)(h:∀p∈a,s.heap.get? p.1=some p.2/\H p.1=none/\p.1≠X.env.locals/\p.1∉X.fs/\∀v,p.2.data ≠ .cell v):Inv X a σ H s :=
 ⟨I.ok,I.os,I.bare,I.base,I.loc,I.cell,I.free,I.freeC,λp b=>(A9.mp b).elim (λz=>I.pin p (B7 _ z)) (h p),I.hok,I.len⟩
theorem qno {N:List Str}(c:N.Nodup){i j:Nat}{x:Str}(a:N[i]?=some x)(b:N[j]?=some x):i=j:=by obtain⟨h1,d⟩:=Ac.mp a;obtain⟨h2,e⟩:=Ac.mp b;exact(List.getElem_inj c).mp (d.trans e.symm)
theorem qrv {M:Model}{A:AQ}{E:Value->Ah->Prop}{i:Nat}{x:Str}{v:V}{u:Value}{Q:Unit->Ah->Prop}(I:Inv X pins σ H s)(hN:X.N.Nodup)(G:X.N[i]?=some x)(l:Loc X.env.scope x)(r:RelV v u)
  (h:∀s',Inv X pins (σ.set i (some v)) H s'->(∃a,BU a s.heap s'.heap/\(a=X.env.locals\/X.env.cells.lookup x=some a))->Q () s')(hf:X.fn x=true\/X.env.scope.names.lookup x=some .local:=by first|exact .inl rfl|exact .inr rfl|assumption):wpAny M A (storeName X.env x u) Q E s:=by
 obtain⟨m,hn,hl⟩:=id I.loc;have a0:(X.env.scope.kind == .class || (X.env.scope.kind == .module && X.env.locals != X.env.globals))=false:=by rw[I.ok.kind];rfl
 have P:i<σ.length:=by rw[I.len];exact(Ac.mp G).1
 have cne:=I.cne;have t:∀{a:Addr}{h':Heap},(∃o,s.heap.get? a=some o/\H a=none)->BU a s.heap h'->HOk X.prog X.w H h':=λ{a h'} ha hs b ob e=>by
  obtain⟨_,_,F⟩:=ha;refine(I.hok b ob e).stay (λc L g q=>(hs.2 c ?_).trans q) (λ_ q=>q) λ_ _ q=>q;rintro rfl;rcases g with rfl|g
  .rw[F]at e;cases e
  .rw[F]at g;cases g
 rcases l with hk|hk
 .refine wpAny_storeName_local hk hn (λh' aa hs=>?_) a0;obtain⟨oL,_,_,ac,_⟩:=id hn;refine h _ ⟨I.ok,I.os,I.bare,⟨λb o e n D l=>?_,λb o e n D l=>?_,I.base.free,λb o e l=>?_,I.base.tups,I.base.frzs,I.base.tbls⟩,⟨_,aa,λj y W f B T=>?_⟩,λy c e=>?_,I.free,I.freeC,λp Y=>?_,t ⟨oL,ac,I.free⟩ hs,by simpa using I.len⟩ ⟨_,hs,.inl Z⟩
  .exact(hs.2 b (AI (AC (Az e) I.ok.above))).trans (I.base.keep b o e n D l)
  .obtain⟨sl,f⟩:=I.base.slot b o e n D l;exact⟨sl,(hs.2 b (AI (AC (Az e) I.ok.above))).trans f⟩
  .obtain⟨o',f⟩:=I.base.there b o e l;exact⟨o',(hs.2 b (AI (AC (Az e) I.ok.above))).trans f⟩
  .by_cases C:j=i
   .subst C;rw[G]at f;cases f;rw[B8 P]at B;cases B;exact⟨u,r,.inl ⟨hk,by simp⟩⟩
   .rw[DX (Bc C)]at B;obtain⟨u',r',q⟩:=hl j y W f B T;refine⟨u',r',?_⟩;rcases q with ⟨k,e⟩|⟨k,c,e,z⟩
    .refine .inl ⟨k,?_⟩;have:y≠x:=λe=>C (qno hN f (e ▸ G));simp[this,e]
    .exact .inr ⟨k,c,e,z.sameBut hs (cne y c e)⟩
  .obtain⟨L,z⟩:=I.cell y c e;exact⟨L,z.sameBut hs (cne y c e)⟩
  .obtain⟨e,n,ne,nf,d⟩:=I.pin p Y;exact⟨(hs.2 p.1 ne).trans e,n,ne,nf,d⟩
 .have J:X.fn x=true:=by
   rcases hf with z|z
   .exact z
   .rw[z]at hk;cases hk
  obtain⟨c,g⟩:=I.ok.has x (.inl hk)
  obtain⟨L,z⟩:=I.cell x c g
  refine wpAny_storeName_cell I.ok.kind hk g z (λh' O hs=>?_)
  obtain⟨oc,S,U⟩:=id z
  refine h {s with heap:=h'} ⟨I.ok,I.os,I.bare,⟨λb o e n D l=>?_,λb o e n D l=>?_,I.base.free,λb o e l=>?_,I.base.tups,I.base.frzs,I.base.tbls⟩,⟨m,hn.sameBut hs (Bc (cne x c g)),λj y W f B T=>?_⟩,λy K e=>?_,I.free,I.freeC,λp Y=>?_,t ⟨oc,S,I.freeC x c g⟩ hs,by simpa using I.len⟩ ⟨c,hs,.inr g⟩
  .exact(hs.2 b (AI (AC (Az e) (I.ok.cab x c J g)))).trans (I.base.keep b o e n D l)
  .obtain⟨sl,f⟩:=I.base.slot b o e n D l;exact⟨sl,(hs.2 b (AI (AC (Az e) (I.ok.cab x c J g)))).trans f⟩
  .obtain⟨o',f⟩:=I.base.there b o e l;exact⟨o',(hs.2 b (AI (AC (Az e) (I.ok.cab x c J g)))).trans f⟩
  .by_cases C:j=i
   .subst C;rw[G]at f;cases f;rw[B8 P]at B;cases B;exact⟨u,r,.inr ⟨.inl hk,c,g,O⟩⟩
   .rw[DX (Bc C)]at B;obtain⟨u',r',q⟩:=hl j y W f B T;refine⟨u',r',?_⟩;rcases q with q|⟨k,K,e,z'⟩
    .exact .inl q
    .refine .inr ⟨k,K,e,z'.sameBut hs ?_⟩;rintro rfl;exact C (qno hN f (I.ok.inj _ _ _ e g ▸ G))
  .by_cases R:K=c
   .subst R;exact⟨_,O⟩
   .obtain⟨w2,z2⟩:=I.cell y K e;exact⟨w2,z2.sameBut hs R⟩
  .obtain⟨e,n,ne,nf,d⟩:=I.pin p Y;refine⟨(hs.2 p.1 ?_).trans e,n,ne,nf,d⟩;intro q;rw[q,S]at e;have q':oc=p.2:=A5 e;exact d L (by rw[<- q'];exact U)
theorem qjx {M:Model}{A:AQ}{E:Value->Ah->Prop}{i:Nat}{x:Str}{v:V}{u:Value}{Q:Unit->Ah->Prop}(I:Inv X pins σ H s)(b:X.N.Nodup)(c:X.N[i]?=some x)(d:Loc X.env.scope x)(r:RelV v u)
  (h:∀a,Inv X pins (σ.set i (some v)) H a->Q () a)(e:X.fn x=true\/X.env.scope.names.lookup x=some .local:=by first|exact .inl rfl|exact .inr rfl|assumption):wpAny M A (storeName X.env x u) Q E s :=
 qrv I b c d r (λa f _=>h a f) e
theorem Inv.call' {a:Ah}{ch:List Addr}(I:Inv X pins σ H s)(g:a.os=s.os)(u:Un (frs X.stack) ch H H' s.heap a.heap)(f:HOk X.prog X.w H' a.heap)(h:AllBare a.gens)
  (d:∀b∈ch,(b∈X.ex\/X.s₀.heap.objs.size<=b)/\b≠X.env.locals/\(∀x c,X.env.cells.lookup x=some c->c≠b)/\∀p∈X.pn++pins,p.1≠b):Inv X pins σ H' a:=by
 obtain⟨h',g',d',t',o'⟩:=a;have e:o'=s.os:=g;subst e;exact I.call (g':=g') (t':=t') (d':=d') u f h d
end
abbrev XK:=Value->Option Addr->Hp->Prop
noncomputable abbrev St:=List (Option V)
abbrev VK:=V->Hp->Prop
abbrev TE:=St->Hp->VK->Prop
abbrev TT:=St->Hp->(Bool->Hp->Prop)->Prop
abbrev TA:=St->Hp->(List V->Hp->Prop)->Prop
structure Ends where
 nx:St->Hp->Prop
 rt:VK
 bk:St->Hp->Prop:=λ_ _=>False
 ct:St->Hp->Prop:=λ_ _=>False
abbrev TS:=Ends->St->Hp->Prop
def EP (X:Cx)(pins:List (Addr×Obj))(σ:St)(Q:VK)(u:Value)(s':Ah):Prop:=∃v H',Inv X pins σ H' s'/\RelV v u/\Q v H'
def TP (X:Cx)(pins:List (Addr×Obj))(σ:St)(Q:Bool->Hp->Prop)(b:Bool)(s':Ah):Prop:=∃H',Inv X pins σ H' s'/\Q b H'
def AP (X:Cx)(pins:List (Addr×Obj))(σ:St)(Q:List V->Hp->Prop)(us:List Value)(s':Ah):Prop:=∃vs H',Inv X pins σ H' s'/\Vals vs us/\Q vs H'
def SP (X:Cx)(pins:List (Addr×Obj))(D:Ends)(f:Flow)(s':Ah):Prop :=
 match f with
 |.next=>∃σ' H',Inv X pins σ' H' s'/\D.nx σ' H'
 |.brk=>∃σ' H',Inv X pins σ' H' s'/\D.bk σ' H'
 |.cont=>∃σ' H',Inv X pins σ' H' s'/\D.ct σ' H'
 |.ret u=>∃v σ' H',Inv X pins σ' H' s'/\RelV v u/\D.rt v H'
def PE (X:Cx)(e:Expr)(t:TE):Prop :=
 ∀(pins:List (Addr×Obj))(s:Ah)(σ:St)(H:Hp)(Q:VK),Inv X pins σ H s->t σ H Q->wpAny (model X.prog X.w) X.A (eval e X.env) (EP X pins σ Q) X.xe s
def PT (X:Cx)(e:Expr)(t:TT):Prop :=
 ∀(pins:List (Addr×Obj))(s:Ah)(σ:St)(H:Hp)(Q:Bool->Hp->Prop),Inv X pins σ H s->t σ H Q->wpAny (model X.prog X.w) X.A (isTrue e X.env (eval e X.env)) (TP X pins σ Q) X.xe s
def PW (X:Cx)(e:Expr)(t:TT):Prop :=
 ∀(whole:Sem Value)(pins:List (Addr×Obj))(s:Ah)(σ:St)(H:Hp)(Q:Bool->Hp->Prop),Inv X pins σ H s->t σ H Q->wpAny (model X.prog X.w) X.A (isTrue e X.env whole) (TP X pins σ Q) X.xe s
theorem PW.pt {X:Cx}{e:Expr}{t:TT}(h:PW X e t):PT X e t:=h _
def PA (X:Cx)(es:List Expr)(t:TA):Prop :=
 ∀(pos:Pos)(pins:List (Addr×Obj))(s:Ah)(σ:St)(H:Hp)(Q:List V->Hp->Prop),Inv X pins σ H s->t σ H Q->wpAny (model X.prog X.w) X.A (spliced (backTo pos (starEach es X.env))) (AP X pins σ Q) X.xe s
def PS (X:Cx)(st:Stmt)(t:TS):Prop :=
 ∀(pins:List (Addr×Obj))(s:Ah)(σ:St)(H:Hp)(D:Ends),Inv X pins σ H s->t D σ H->wpAny (model X.prog X.w) X.A (exec st X.env) (SP X pins D) X.xe s
def PSs (X:Cx)(st:List Stmt)(t:TS):Prop :=
 ∀(pins:List (Addr×Obj))(s:Ah)(σ:St)(H:Hp)(D:Ends),Inv X pins σ H s->t D σ H->wpAny (model X.prog X.w) X.A (execs st X.env) (SP X pins D) X.xe s
theorem thn {α:Type}{t:Sem α}{Q b:α->Ah->Prop}{M:Model}{A:AQ}{E:Value->Ah->Prop}{s:Ah}(h:wpAny M A t Q E s)(c:∀a s,Q a s->b a s):wpAny M A t b E s:=BQ h c λ_ _ x=>x
end L2
namespace L2
open PySem PySem.Spec PyProof.Rows
section
variable {X:Cx}
def tVar (i:Nat):TE:=λσ H Q=>∃v,σ[i]?=some (some v)/\Q v H
def tC (v:V):TE:=λ_ H Q=>Q v H
theorem qyv {i:Nat}{x:Str}{pos:Pos}(g:X.N[i]?=some x)(j:Vis X.env.scope x)(hd:(x == ("__debug__" : Str))=false:=by decide)(hcd:(x == ("__classdict__" : Str))=false:=by decide):PE X (.Name x pos) (tVar i):=by
 intro d s σ H Q I h;obtain⟨v,e,h⟩:=h;obtain⟨m,k,hl⟩:=I.loc;obtain⟨u,r,l⟩:=hl i x v g e j;have b:EP X d σ Q u s:=⟨v,H,I,r,h⟩;rcases l with ⟨hk,n⟩|⟨hk,c,f,a⟩
 .exact wpAny_Name (wpAny_loadName_local I.ok.kind hk k n b) hd
 .rcases hk with hk|hk
  .exact wpAny_Name (wpAny_loadName_cell I.ok.kind hk f a b) hd
  .exact wpAny_Name (wpAny_loadName_free I.ok.kind hk f a b hcd) hd
theorem qp {i j pos}:PE X (.Constant (.int i) j pos) (tC (.int i)):=λ_ _ _ H _ I h=>wpAny_Constant_int ⟨.int i,H,I.tok _,⟨_,Z⟩,h⟩
theorem qjy {b j pos}:PE X (.Constant (.bool b) j pos) (tC (.bl b)):=λ_ _ _ H _ I h=>Constant_bool ⟨.bl b,H,I,Z,h⟩
theorem qa8 {j pos}:PE X (.Constant .none j pos) (tC .non):=λ_ _ _ H _ I h=>Constant_none ⟨.non,H,I,Z,h⟩
theorem zq {x j pos}:PE X (.Constant (.str x) j pos) (tC (.str x)):=λ_ _ _ H _ I h=>Calls.Constant_str ⟨.str x,H,I.tok _,⟨_,Z⟩,h⟩
def Gl (X:Cx)(x:Str):Prop:=X.env.kindOf x=some .globalImplicit
theorem qeu {E:Value->Ah->Prop}{a:List (Addr×Obj)}{s:Ah}{σ:St}{H:Hp}{x:Str}{u:Value}{pos:Pos}{Q:Value->Ah->Prop}(I:Inv X a σ H s)(b:Gl X x)(c:X.mg x=some u)(h:Q u s)
  (hd:(x == ("__debug__" : Str))=false:=by decide):wpAny (model X.prog X.w) X.A (eval (.Name x pos) X.env) Q E s :=
 Calls.Name_function_global I.ok.kind b (Calls.loadGlobal_global (by rw[I.ok.glob];exact I.mod.glob.keeps I.bk) c h) hd
theorem qey {E:Value->Ah->Prop}{a:List (Addr×Obj)}{s:Ah}{σ:St}{H:Hp}{x:Str}{u:Value}{pos:Pos}{Q:Value->Ah->Prop}(I:Inv X a σ H s)(e:Gl X x)(f:X.mg x=none)(c:bootBuiltins x=some u)(h:Q u s)
  (b:x ≠ "__name__" := by decide)(hd:(x == ("__debug__" : Str))=false:=by decide):wpAny (model X.prog X.w) X.A (eval (.Name x pos) X.env) Q E s:=by
 obtain⟨mb,g,d⟩:=I.mod.blt;exact Calls.Name_function_global I.ok.kind e (Calls.loadGlobal_builtin (by rw[I.ok.glob];exact I.mod.glob.keeps I.bk) f (by rw[I.ok.blt];exact g.keeps I.bk) ((d x b).trans c) h) hd
theorem qgr {x:Str}{v:V}{u:Value}{pos:Pos}(a:Gl X x)(b:X.mg x=some u)(r:RelV v u)(hd:(x == ("__debug__" : Str))=false:=by decide):PE X (.Name x pos) (tC v) :=
 λ_ _ _ H _ I h=>qeu I a b ⟨v,H,I,r,h⟩ hd
theorem qmp {x:Str}{v:V}{u:Value}{pos:Pos}(c:Gl X x)(d:X.mg x=none)(b:bootBuiltins x=some u)(r:RelV v u)(a:x ≠ "__name__" := by decide)(hd:(x == ("__debug__" : Str))=false:=by decide):PE X (.Name x pos) (tC v) :=
 λ_ _ _ H _ I h=>qey I c d b ⟨v,H,I,r,h⟩ a hd
variable {a b:Expr}{ta tb:TE}{pos:Pos}
def PC (X:Cx)(op:CmpOp)(a b:Expr)(t:TE):Prop :=
 ∀(pins:List (Addr×Obj))(s:Ah)(σ:St)(H:Hp)(Q:VK),Inv X pins σ H s->t σ H Q ->
  wpAny (model X.prog X.w) X.A (eval a X.env) (λv s₁=>wpAny (model X.prog X.w) X.A (eval b X.env) (λu s₂=>wpAny (model X.prog X.w) X.A (compareOp op v u) (EP X pins σ Q) X.xe s₂) X.xe s₁) X.xe s
def tB (t:TE):TT:=λσ H Q=>t σ H λx H1=>∃c,x=.bl c/\Q c H1
theorem qjz {e:CmpOp}{t:TE}(h:PC X e a b t)(f:behindInMarks e b=false:=by first|exact nobehind _ En En|rfl):PT X (.Compare a [e] [b] pos) (tB t):=by intro g s σ H Q I o;refine wpAny_isTrue_Compare1 (thn (h g s σ H _ I o) λv s1 f=>thn f λu s2 n=>thn n λc s3 i=>?_) f;obtain⟨x,m,l,k,j⟩:=i;obtain⟨d,rfl,q⟩:=j;cases k;exact B9 ⟨m,l,q⟩
theorem zp {e:Expr}{t:TE}(h:PE X e t)(k:∀whole,isTrue e X.env whole=(do let v <- whole;standAt e.pos;holding [v] (truthy v)):=by intro _;rfl):PT X e (tB t):=by intro a s σ H Q I j;refine isTrue_plain (thn (h a s σ H _ I j) λv s1 b=>?_) (k _);obtain⟨x,i,g,f,c⟩:=b;obtain⟨d,rfl,q⟩:=c;cases f;exact B9 ⟨i,g,q⟩
variable {tA tB':TT}{qcb:List Expr}
def tAnd (t u:TT):TT:=λσ H Q=>t σ H λc H1=>if c=true then u σ H1 Q else Q false H1
def tOr (t u:TT):TT:=λσ H Q=>t σ H λc H1=>if c=true then Q true H1 else u σ H1 Q
def tNot (t:TT):TT:=λσ H Q=>t σ H λc H1=>Q (!c) H1
theorem qgs (d:PT X a tA):PW X (.BoolOp .And [a] pos) tA:=by
 intro wh b s σ H Q I h;refine isTrue_and (thn (d b s σ H Q I h) λc s1 e=>?_);cases c with|true=>exact isTrue_and_nil e|false=>exact e
theorem qmq (d:PT X a tA):PW X (.BoolOp .Or [a] pos) tA:=by
 intro wh b s σ H Q I h;refine isTrue_or (thn (d b s σ H Q I h) λc s1 e=>?_);cases c with|false=>exact isTrue_or_nil e|true=>exact e
theorem qfg (l:PT X a tA)(k:PW X (.BoolOp .And (b::qcb) pos) tB'):PW X (.BoolOp .And (a::b::qcb) pos) (tAnd tA tB'):=by
 intro m d s σ H Q I h;refine isTrue_and (thn (l d s σ H _ I h) λc j g=>?_);obtain⟨f,i,e⟩:=g;cases c with|true=>exact k m d j σ f Q i e|false=>exact⟨f,i,e⟩
theorem qnp (l:PT X a tA)(k:PW X (.BoolOp .Or (b::qcb) pos) tB'):PW X (.BoolOp .Or (a::b::qcb) pos) (tOr tA tB'):=by
 intro m d s σ H Q I h;refine isTrue_or (thn (l d s σ H _ I h) λc j g=>?_);obtain⟨f,i,e⟩:=g;cases c with|true=>exact⟨f,i,e⟩|false=>exact k m d j σ f Q i e
theorem qf2 (e:PT X a tA):PT X (.UnaryOp .Not a pos) (tNot tA):=by intro b s σ H Q I h;exact isTrue_not (e b s σ H (λc d=>Q (!c) d) I h)
def tAndV (ta tb:TE):TE:=λσ H Q=>ta σ H λx H1=>∃c,x=.bl c/\if c=true then tb σ H1 Q else Q (.bl false) H1
def tOrV (ta tb:TE):TE:=λσ H Q=>ta σ H λx H1=>∃c,x=.bl c/\if c=true then Q (.bl true) H1 else tb σ H1 Q
def tNotV (ta:TE):TE:=λσ H Q=>ta σ H λx H1=>∃c,x=.bl c/\Q (.bl (!c)) H1
theorem qhb {op}{t:TE}(h:PE X a t):PE X (.BoolOp op [a] pos) t:=λb s σ H Q I c=>BoolOp_one (h b s σ H Q I c)
theorem qez (k:PE X a ta)(m:PE X (.BoolOp .And (b::qcb) pos) tb):PE X (.BoolOp .And (a::b::qcb) pos) (tAndV ta tb):=by
 intro d s σ H Q I h;refine BoolOp_and (thn (k d s σ H _ I h) λv j i=>?_);obtain⟨x,g,f,l,e⟩:=i;obtain⟨c,rfl,e⟩:=e;cases l;refine B9 ?_;cases c with|true=>exact m d j σ g Q f e|false=>exact⟨.bl false,g,f,Z,e⟩
theorem qyc (k:PE X a ta)(m:PE X (.BoolOp .Or (b::qcb) pos) tb):PE X (.BoolOp .Or (a::b::qcb) pos) (tOrV ta tb):=by
 intro d s σ H Q I h;refine BoolOp_or (thn (k d s σ H _ I h) λv j i=>?_);obtain⟨x,g,f,l,e⟩:=i;obtain⟨c,rfl,e⟩:=e;cases l;refine B9 ?_;cases c with|false=>exact m d j σ g Q f e|true=>exact⟨.bl true,g,f,Z,e⟩
theorem qyw (j:PE X a ta):PE X (.UnaryOp .Not a pos) (tNotV ta):=by intro d s σ H Q I h;refine UnaryOp_ (thn (j d s σ H _ I h) λv s1 e=>?_);obtain⟨x,f,i,g,b⟩:=e;obtain⟨c,rfl,b⟩:=b;cases g;exact not_of (B9 ⟨.bl (!c),f,i,Z,b⟩)
def tIf (t:TT)(ta tb:TE):TE:=λσ H Q=>t σ H λc H1=>if c=true then ta σ H1 Q else tb σ H1 Q
theorem qdm {c:Expr}(l:PT X c tA)(n:PE X a ta)(m:PE X b tb):PE X (.IfExp c a b pos) (tIf tA ta tb):=by
 intro e s σ H Q I h;refine wpAny_IfExp (thn (l e s σ H _ I h) λd i j=>?_);obtain⟨g,k,f⟩:=j;cases d with|true=>exact n e i σ g Q k f|false=>exact m e i σ g Q k f
end
end L2
namespace L2
open PySem PySem.Spec PyProof.Rows
def SqL (K:Ag)(H:Hp)(a:Addr)(xs:List V):Prop :=
 Rd H a (.lst xs) \/
  ∃(o:Obj)(its:Array Value)(n:Nat),K.lookup a=some o/\o.cls=.type "list" /\ o.dict=none/\o.data=.seq its n/\its.size<=Au/\Vals xs its.toList
def SqT (K:Ag)(H:Hp)(a:Addr)(xs:List V):Prop :=
 Rd H a (.tup xs) \/
  ∃(o:Obj)(its:Array Value)(n:Nat),K.lookup a=some o/\o.cls=.type "tuple" /\ o.data=.seq its n/\its.size<=Au/\Vals xs its.toList
noncomputable def absV:Value->Option V
 |.none=>some .non
 |.bool b=>some (.bl b)
 |.int i _=>some (.int i)
 |.str x _=>some (.str x)
 |.bytes b _=>some (.byt b)
 |.float b _=>some (.flt b)
 |.ref a=>some (.ref a)
 |.type n=>some (.ty n)
 |_=>none
theorem RelV.abs {x:V}{u:Value}(r:RelV x u):absV u=some x:=by
 cases x with
 |non=>cases r;rfl
 |bl _=>cases r;rfl
 |int _=>obtain⟨t,rfl⟩:=r;rfl
 |str _=>obtain⟨t,rfl⟩:=r;rfl
 |byt _=>obtain⟨t,rfl⟩:=r;rfl
 |flt _=>obtain⟨t,rfl⟩:=r;rfl
 |ref _=>cases r;rfl
 |ty _=>cases r;rfl
theorem RelV.inj {x y:V}{u:Value}(r:RelV x u)(q:RelV y u):x=y:=A5 (r.abs.symm.trans q.abs)
theorem Vals.inj:∀{xs ys:List V}{us:List Value},Vals xs us->Vals ys us->xs=ys
 |_,_,_,.nil,.nil=>rfl
 |_,_,_,.cons r t,.cons r' t'=>by rw[r.inj r',Vals.inj t t']
section
variable {X:Cx}{pins:List (Addr×Obj)}{σ:St}{H:Hp}{s:Ah}{a:Addr}{xs ys:List V}
theorem SqL.of {K:Ag}(h:H a=some (.lst xs)):SqL K H a xs:=.inl (.inl h)
theorem SqT.of {K:Ag}(h:H a=some (.tup xs)):SqT K H a xs:=.inl (.inl h)
theorem Inv.list (I:Inv X pins σ H s)(h:SqL X.K H a xs):∃its:List Value,Vals xs its/\PlainL s.heap a its.toArray/\xs.length<=Au:=by
 rcases h with h|⟨o,its,n,hk,b,hd,hs,hz,r⟩
 .obtain⟨z,its,n,r,e⟩:=h.ok I.hok;exact⟨its,r,⟨_,n,e,Z,Z,Z⟩,z⟩
 .refine⟨its.toList,r,⟨o,n,I.kIn a o hk,b,hd,by simpa using hs⟩,?_⟩;have e:=r.length;simp only[AO]at e;lia
theorem Inv.tuple (I:Inv X pins σ H s)(h:SqT X.K H a xs):∃its:List Value,Vals xs its/\IsTup s.heap a its.toArray/\xs.length<=Au:=by
 rcases h with h|⟨o,its,n,hk,b,hs,hz,r⟩
 .obtain⟨z,its,r,p⟩:=h.ok I.hok;exact⟨its,r,p,z⟩
 .refine⟨its.toList,r,⟨o,I.kIn a o hk,b,n,by simpa using hs⟩,?_⟩;have e:=r.length;simp only[AO]at e;lia
theorem Inv.list_inj (I:Inv X pins σ H s)(h:SqL X.K H a xs)(h':SqL X.K H a ys):xs=ys:=by
 obtain⟨its,r,⟨o,n,e,_,_,d⟩,_⟩:=I.list h;obtain⟨its',r',⟨o',n',b,_,_,d'⟩,_⟩:=I.list h';rw[e]at b;cases b;rw[d]at d';injection d' with d1 _;have:its=its':=by simpa using congrArg Array.toList d1
 subst this;exact r.inj r'
theorem Inv.tuple_inj (I:Inv X pins σ H s)(h:SqT X.K H a xs)(h':SqT X.K H a ys):xs=ys:=by
 obtain⟨its,r,⟨o,e,_,n,d⟩,_⟩:=I.tuple h;obtain⟨its',r',⟨o',b,_,n',d'⟩,_⟩:=I.tuple h';rw[e]at b;cases b;rw[d]at d';injection d' with d1 _;have:its=its':=by simpa using congrArg Array.toList d1
 subst this;exact r.inj r'
end
noncomputable abbrev Cx.wish (X:Cx)(E:Value->Ah->Prop):Cx:={X with xe:=E}
noncomputable abbrev Cx.nox (X:Cx):Cx:=X.wish λ_ _=>False
theorem Cx.Ok.wish {X:Cx}(ok:X.Ok)(E:Value->Ah->Prop):(X.wish E).Ok :=
 ⟨ok.mod,ok.kind,ok.glob,ok.blt,ok.above,ok.inj,ok.has,ok.cab,ok.hd,ok.frames,ok.stk,ok.exf,ok.bs,ok.bsz,ok.noex,ok.exfs,ok.funs,ok.frf⟩
theorem Cx.Ok.unwish {X:Cx}{E:Value->Ah->Prop}(ok:(X.wish E).Ok):X.Ok :=
 ⟨ok.mod,ok.kind,ok.glob,ok.blt,ok.above,ok.inj,ok.has,ok.cab,ok.hd,ok.frames,ok.stk,ok.exf,ok.bs,ok.bsz,ok.noex,ok.exfs,ok.funs,ok.frf⟩
section
variable {X:Cx}{pins:List (Addr×Obj)}{σ:St}{H:Hp}{s:Ah}{E:Value->Ah->Prop}
theorem Inv.wish (I:Inv X pins σ H s)(E:Value->Ah->Prop):Inv (X.wish E) pins σ H s:=⟨I.ok.wish E,I.os,I.bare,I.base,I.loc,I.cell,I.free,I.freeC,I.pin,I.hok,I.len⟩
theorem Inv.unwish (I:Inv (X.wish E) pins σ H s):Inv X pins σ H s:=⟨I.ok.unwish,I.os,I.bare,I.base,I.loc,I.cell,I.free,I.freeC,I.pin,I.hok,I.len⟩
theorem SP.unwish {D:Ends}{f:Flow}{b:Ah}(h:SP (X.wish E) pins D f b):SP X pins D f b:=by
 cases f with
 |next=>obtain⟨σ',a,I,q⟩:=h;exact⟨σ',a,I.unwish,q⟩
 |brk=>obtain⟨σ',a,I,q⟩:=h;exact⟨σ',a,I.unwish,q⟩
 |cont=>obtain⟨σ',a,I,q⟩:=h;exact⟨σ',a,I.unwish,q⟩
 |ret u=>obtain⟨v,σ',a,I,r,q⟩:=h;exact⟨v,σ',a,I.unwish,r,q⟩
theorem PSs.nox {st:List Stmt}{t:TS}(h:PSs X.nox st t):PSs X st t:=λa s σ H D I b =>
 BQ (h a s σ H D (I.wish _) b) (λ_ _ q=>q.unwish) λ_ _ z=>Br z
end
section
variable {X:Cx}{st:Stmt}{qcb:List Stmt}{t u:TS}{e:Expr}{te:TE}{pos:Pos}
def qyd:TS:=λD σ H=>D.nx σ H
def tSeq (t u:TS):TS:=λD σ H=>t {D with nx:=u D} σ H
theorem qan:PSs X [] qyd:=λ_ _ σ H _ I h=>Eb ⟨σ,H,I,h⟩
theorem qj (g:PS X st t)(e:PSs X qcb u):PSs X (st::qcb) (tSeq t u):=by
 intro a s σ H D I h;refine wpAny_execs_cons (thn (g a s σ H {D with nx:=u D} I h) λf b q=>?_);cases f with
 |next =>obtain⟨σ',c,d,q⟩:=q;exact e a b σ' c D d q
 |ret v=>exact q
 |brk=>exact q
 |cont=>exact q
theorem qt (b:PS X st t):PSs X [st] t:=by
 intro a s σ H D I h;refine wpAny_execs_cons (thn (b a s σ H D I h) λf s1 q=>?_);cases f with|next=>exact Eb q|ret v=>exact q|brk=>exact q|cont=>exact q
theorem Inv.quiet {a:List (Addr×Obj)}{σ:St}{H:Hp}{s:Ah}(I:Inv X a σ H s):interactive X.env=false:=by simp[interactive,I.ok.kind]
def tDrop (te:TE):TS:=λD σ H=>te σ H λ_ H1=>D.nx σ H1
theorem zj (f:PE X e te)(hs:swapsWith e none pos.line X.env=pure false:=by rfl):PS X (.Expr e pos) (tDrop te):=by intro a s σ H D I h;exact wpAny_Expr_any (thn (f a s σ H _ I h) λv s1 ⟨x,c,d,r1,b⟩=>⟨σ,c,d,b⟩) I.quiet hs
def tRet (te:TE):TS:=λD σ H=>te σ H D.rt
theorem zc (g:PE X e te):PS X (.Return (some e) pos) (tRet te):=by intro a s σ H D I h;exact wpAny_Return_some (thn (g a s σ H _ I h) λv s1 ⟨x,c,f,d,b⟩=>⟨x,σ,c,f,d,b⟩)
def tIfS (c:TT)(t u:TS):TS:=λD σ H=>c σ H λb H1=>if b=true then t D σ H1 else u D σ H1
theorem zm {c:Expr}{a b:List Stmt}{l:TT}(n:PT X c l)(m:PSs X a t)(o:PSs X b u):PS X (.If c a b pos) (tIfS l t u):=by
 intro e s σ H D I h;refine wpAny_If (thn (n e s σ H _ I h) λd g k=>?_);obtain⟨j,i,f⟩:=k;cases d with|true=>exact m e g σ j D i f|false=>exact o e g σ j D i f
end
abbrev TG:=V->St->Hp->(St->Hp->Prop)->Prop
abbrev TGs:=List V->St->Hp->(St->Hp->Prop)->Prop
def PG (X:Cx)(target:Expr)(t:TG):Prop :=
 ∀(pins:List (Addr×Obj))(s:Ah)(σ:St)(H:Hp)(v:V)(u:Value)(Q:St->Hp->Prop),Inv X pins σ H s->RelV v u->t v σ H Q ->
  wpAny (model X.prog X.w) X.A (assign target X.env u) (λ_ s'=>∃σ' H',Inv X pins σ' H' s'/\Q σ' H') X.xe s
def PGs (X:Cx)(ts:List Expr)(t:TGs):Prop :=
 ∀(pins:List (Addr×Obj))(s:Ah)(σ:St)(H:Hp)(vs:List V)(us:List Value)(Q:St->Hp->Prop),Inv X pins σ H s->Vals vs us->t vs σ H Q ->
  wpAny (model X.prog X.w) X.A (assignInOrder ((assignEach ts X.env).map (·.2)) us) (λ_ s'=>∃σ' H',Inv X pins σ' H' s'/\Q σ' H') X.xe s
abbrev qyx:=V->V->V->Hp->(Hp->Prop)->Prop
def PSet (X:Cx)(t:qyx):Prop :=
 ∀(pins:List (Addr×Obj))(s:Ah)(σ:St)(H:Hp)(o i v:V)(ov iv u:Value)(Q:Hp->Prop),Inv X pins σ H s->RelV o ov->RelV i iv->RelV v u->t o i v H Q ->
  wpAny (model X.prog X.w) X.A (setItem ov iv u) (λ_ s'=>∃H',Inv X pins σ H' s'/\Q H') X.xe s
abbrev TIp:=V->V->Hp->VK->Prop
def PIp (X:Cx)(op:Operator)(t:TIp):Prop :=
 ∀(pins:List (Addr×Obj))(s:Ah)(σ:St)(H:Hp)(x y:V)(v u:Value)(Q:VK),Inv X pins σ H s->RelV x v->RelV y u->t x y H Q ->
  wpAny (model X.prog X.w) X.A (inplaceOp op v u) (EP X pins σ Q) X.xe s
section
variable {X:Cx}{pos:Pos}
def qe6 (i:Nat):TG:=λv σ H Q=>Q (σ.set i (some v)) H
theorem qam {i:Nat}{x:Str}(a:X.N.Nodup)(b:X.N[i]?=some x)(c:Loc X.env.scope x)(d:X.fn x=true\/X.env.scope.names.lookup x=some .local:=by first|exact .inl rfl|exact .inr rfl|assumption):PG X (.Name x pos) (qe6 i):=by intro pins s σ H v u Q I r h;exact wpAny_assign_Name (qjx I a b c r (λs' e=>⟨_,H,e,h⟩) d)
def qyy:TGs:=λvs σ H Q=>vs=[]/\Q σ H
def qj0 (t:TG)(u:TGs):TGs:=λvs σ H Q=>∃v r,vs=v::r/\t v σ H λσ' H'=>u r σ' H' Q
theorem qhw:PGs X [] qyy:=by intro pins s σ H vs us Q I r h;obtain⟨e,h⟩:=h;subst e;cases r;exact assignInOrder_nil ⟨σ,H,I,h⟩
theorem qcm {e:Expr}{b:List Expr}{t:TG}{u:TGs}(i:PG X e t)(k:PGs X b u)
  (hs:(assignEach (e::b) X.env).map (·.2)=assign e X.env::(assignEach b X.env).map (·.2):=by rfl):PGs X (e::b) (qj0 t u):=by
 intro a s σ H vs us Q I r h;obtain⟨v,vr,l,h⟩:=h;subst l;cases r with
 |cons r rr =>rw[hs];refine assignInOrder_cons (thn (i a s σ H _ _ _ I r h) λ_ f c=>?_);obtain⟨σ1,j,g,d⟩:=c;exact k a f σ1 j _ _ Q g rr d
def qrw (K:Ag)(n:Nat)(t:TGs):TG:=λv σ H Q=>∃a xs,v=.ref a/\SqT K H a xs/\xs.length=n/\t xs σ H Q
theorem qmr {d:List Expr}{k:Nat}{t:TGs}{n:Nat}(p:X.calm=true)(h:PGs X d t)
  (l:(assignEach d X.env).length=n:=by rfl)(hst:(assignEach d X.env).findIdx? (·.1)=none:=by rfl):PG X (.Tuple d k pos) (qrw X.K n t):=by
 intro c s σ H v u Q I r f;obtain⟨a,xs,q,m,hl,f⟩:=f;subst q;cases r;obtain⟨its,g,i,hz⟩:=I.tuple m;refine assign_Tuple_tuple (I.ok.hd p) i (by simp[l,<- hl,g.length]) hst λh' w=>?_;have j:Inv X c σ H {s with heap:=h'}:=I.kept (t':=s.toks) λb o e=>w b o (AI (Az e)) e;exact h c _ σ H xs _ Q j (by simpa using g) f
def gSub (to ti:TE)(t:qyx):TG:=λv σ H Q=>to σ H λo H1=>ti σ H1 λi H2=>t o i v H2 λH3=>Q σ H3
theorem qts {o i:Expr}{e d:TE}{t:qyx}(A:PE X o e)(j:PE X i d)(hs:PSet X t)
  (l:∀v,assign (.Subscript o i pos) X.env v=(do
   let ov <- holding [v] (eval o X.env)
   let c <- holding [v,ov] (eval i X.env)
   standAt pos
   holding [v,ov,c] (setItem ov c v)
   release [v,ov,c] []):=by intro _;rfl):PG X (.Subscript o i pos) (gSub e d t):=by
 intro b s σ H v u Q I r h
 rw[l]
 refine Ad (BR (thn (A b s σ H _ I h) λov g a=>?_))
 obtain⟨x,q,p,n,f⟩:=a
 refine Ad (BR (thn (j b g σ q _ p f) λc m a=>?_))
 obtain⟨y,C,k,z,w⟩:=a
 refine Ad (Df (Ad (BR (thn (hs b m σ C x y v ov c u _ k n z r w) λ_ s3 a=>?_))))
 obtain⟨D,E,B⟩:=a
 exact wpAny_release ⟨σ,D,E,B⟩
def qyz (te:TE)(g:TG):TS:=λD σ H=>te σ H λx H1=>g x σ H1 D.nx
theorem qtt {a e:Expr}{c:TE}{g:TG}(n:PE X e c)(m:PG X a g)(hs:swapsWithSole [a] e pos.line X.env=pure false:=by rfl)(hw:swappedStores [a] e X.env=pure none:=by rfl)
  (h1:(assignEach [a] X.env).map (·.2)=[assign a X.env]:=by rfl):PS X (.Assign [a] e pos) (qyz c g):=by
 intro b s σ H D I h;refine wpAny_Assign_stores (thn (n b s σ H _ I h) λv i d=>?_) hs hw;obtain⟨x,l,k,j,f⟩:=d;rw[h1];exact thn (m b i σ l x v _ k j f) λ_ s2 q=>q
theorem zg {i:Nat}{x:Str}{e:Expr}{c:TE}{a:Pos}(g:X.N.Nodup)(j:X.N[i]?=some x)(o:Loc X.env.scope x)(p:PE X e c)(hs:swapsWith e (some (.Name x a)) pos.line X.env=pure false:=by rfl)(hf:X.fn x=true\/X.env.scope.names.lookup x=some .local:=by first|exact .inl rfl|exact .inr rfl|assumption) :
  PS X (.Assign [.Name x a] e pos) (qyz c (qe6 i)):=by
 intro b s σ H D I h;refine wpAny_Assign_Name (thn (p b s σ H _ I h) λv s1 d=>?_) hs;obtain⟨y,n,m,l,f⟩:=d;exact qjx m g j o l (λs2 k=>⟨_,n,k,f⟩) hf
def tAug (i:Nat)(te:TE)(ti:TIp):TS:=λD σ H=>∃x,σ[i]?=some (some x)/\te σ H λy H1=>ti x y H1 λz H2=>D.nx (σ.set i (some z)) H2
theorem qiq {i:Nat}{x:Str}{e:Expr}{t:TE}{f:Operator}{q:TIp}{j:Pos}(C:X.N.Nodup)(n:X.N[i]?=some x)(g:Loc X.env.scope x)(he:PE X e t)(R:PIp X f q)(L:X.fn x=true\/X.env.scope.names.lookup x=some .local:=by first|exact .inl rfl|exact .inr rfl|assumption) :
  PS X (.AugAssign (.Name x j) f e pos) (tAug i t q):=by
 intro a s σ H D I h;obtain⟨v,W,h⟩:=h;obtain⟨m,S,hl⟩:=I.loc;have o:Vis X.env.scope x:=by rcases g with k|k;exact .inl k;exact .inr (.inl k)
 obtain⟨u,r,l⟩:=hl i x v n W o;refine wpAny_AugAssign_Name ?_;have p:wpAny (model X.prog X.w) X.A (eval e X.env) (λw P=>wpAny (model X.prog X.w) X.A (inplaceOp f u w) (λr G=>wpAny (model X.prog X.w) X.A (storeName X.env x r) (λ_=>SP X a D .next) X.xe G) X.xe P) X.xe s:=by refine thn (he a s σ H _ I h) λw E b=>?_;obtain⟨y,M,K,J,B⟩:=b;refine thn (R a E σ M v y u w _ K r J B) λz s2 b=>?_;obtain⟨zv,U,F,Q,O⟩:=b;exact qjx F C n g Q (λs3 V=>⟨_,U,V,O⟩) L
 rcases l with ⟨hk,Y⟩|⟨hk,c,T,d⟩
 .exact wpAny_loadName_local I.ok.kind hk S Y p
 .rcases hk with hk|hk
  .exact wpAny_loadName_cell I.ok.kind hk T d p
  .rcases g with k|k
   .have:X.env.scope.names.lookup x=some .free:=hk;rw[k]at this;cases this
   .have:X.env.scope.names.lookup x=some .free:=hk;rw[k]at this;cases this
end
section
variable {X:Cx}{pos:Pos}
def qy0 (c:TT)(tb:TS):TS:=λD σ H=>∃W:Nat->St->Hp->Prop,(∃m,W m σ H)/\∀m σ H,W m σ H ->
 c σ H λb H1=>if b=true then ∃N:St->Hp->Prop,(∀σ' H',N σ' H'->∃m',m'<m/\W m' σ' H')/\tb {D with nx:=N,ct:=N,bk:=D.nx} σ H1 else D.nx σ H1
theorem qnq {c:Expr}{d:List Stmt}{z:TT}{tb:TS}(t:BF (model X.prog X.w) X.A X.env X.xe)(L:PT X c z)(M:PSs X d tb):PS X (.While c d [] pos) (qy0 z tb):=by
 intro a s σ H D I h;obtain⟨W,⟨K,G⟩,l⟩:=h;refine wpAny_While (codeAny_whileLoop (λn J=>∃σ' H',Inv X a σ' H' J/\W n σ' H') ?_ K ⟨σ,H,I,G⟩);rintro n B ⟨σ1,u,E,F⟩;refine CJ t (thn (L a B σ1 u _ E (l n σ1 u F)) λb C x=>?_);obtain⟨y,r,g⟩:=x;cases b with
 |true =>
  obtain⟨N,q,g⟩:=g;rw[if_pos Z];refine CJ t (thn (M a C σ1 y _ r g) λf s3 i=>?_);cases f with
  |next =>obtain⟨σ3,e,o,m⟩:=i;obtain⟨j,p,k⟩:=q σ3 e m;exact⟨j,p,σ3,e,o,k⟩
  |cont =>obtain⟨σ3,e,o,m⟩:=i;obtain⟨j,p,k⟩:=q σ3 e m;exact⟨j,p,σ3,e,o,k⟩
  |brk=>exact i
  |ret v=>exact i
 |false =>rw[if_neg AE];exact Eb ⟨σ1,y,r,g⟩
end
structure It where
 go:Nat->Hp->Prop
 yld:Nat->Hp->V->Hp->Prop
 stop:Nat->Hp->Prop
def qe0 (X:Cx)(pins:List (Addr×Obj))(H:Hp)(b:Addr):Prop :=
 H b=none/\b≠X.env.locals/\b∉X.fs/\(b∈X.ex\/X.s₀.heap.objs.size<=b)/\(∀x c,X.env.cells.lookup x=some c->c≠b)/\∀p∈X.pn++pins,p.1≠b
theorem Inv.fpOk {X:Cx}{d:List (Addr×Obj)}{σ:St}{H f:Hp}{s:Ah}{b:Addr}(I:Inv X d σ H s)(a:s.heap.objs.size<=b)(g:f b=none):qe0 X d f b:=by
 refine⟨g,BV (AC I.lt a),I.nofs a,.inr (A2 I.sz a),λx c e z=>?_,λp h z=>?_⟩
 .obtain⟨v,q⟩:=I.cell x c e;exact absurd (AC q.lt (by rw[z];exact a)) (Cq _)
 .exact absurd (AC (Az (I.pin p h).1) (by rw[z];exact a)) (Cq _)
structure Turn (P:AH)(w:World)(K:Ag)(tg:Expr)(J:It)(fp:List Addr)(it:Addr)(tn:Nat->Heap->Prop):Prop where
 mem:it∈fp
 obj:∀i h,tn i h->∀b∈fp,∃o,h.get? b=some o/\∀v,o.data ≠ .cell v
 keep:∀i h h',tn i h->(∀b∈fp,∀o,h.get? b=some o->h'.get? b=some o)->tn i h'
 item:∀(X:Cx),X.prog=P->X.w=w->X.K=K->X.calm=true->∀(i:Nat)(pins:List (Addr×Obj))(s:Ah)(σ:St)(H:Hp)(E:Value->Ah->Prop),Inv X pins σ H s->(∀b∈fp,qe0 X pins H b)->tn i s.heap->J.go i H ->
  wpAny (model P w) X.A (pyNext (.ref it)) (λr s1=>∃u,r=some u /\
   wpAny (model P w) X.A (letOwnedTupleGo tg (.ref it) u) (λ_ s2=>∃x H',Inv X pins σ H' s2/\RelV x u/\J.yld i H x H'/\tn (i+1) s2.heap/\∀b∈fp,H' b=none) E s1) E s
 done:∀(X:Cx),X.prog=P->X.w=w->X.K=K->X.calm=true->∀(i:Nat)(pins:List (Addr×Obj))(s:Ah)(σ:St)(H:Hp)(E:Value->Ah->Prop),Inv X pins σ H s->(∀b∈fp,qe0 X pins H b)->tn i s.heap->J.stop i H ->
  wpAny (model P w) X.A (pyNext (.ref it)) (λr s1=>r=none/\Inv X pins σ H s1) E s
 self:∀(A:AQ)(i:Nat)(s:Ah)(Q:Value->Ah->Prop)(E:Value->Ah->Prop),tn i s.heap->Q (.ref it) s->wpAny (model P w) A (pyIter (.ref it)) Q E s
abbrev TI:=St->Hp->(It->Hp->Prop)->Prop
def PIE (X:Cx)(pins:List (Addr×Obj))(σ:St)(tg:Expr)(R:It->Hp->Prop)(itv:Value)(s2:Ah):Prop :=
 ∃(it:Addr)(fp:List Addr)(tn:Nat->Heap->Prop)(J:It)(H':Hp),itv=.ref it/\Inv X pins σ H' s2/\Turn X.prog X.w X.K tg J fp it tn/\tn 0 s2.heap/\(∀b∈fp,qe0 X pins H' b)/\R J H'
def PI (X:Cx)(tg iter:Expr)(wi:TI):Prop :=
 ∀(pins:List (Addr×Obj))(s:Ah)(σ:St)(H:Hp)(R:It->Hp->Prop),Inv X pins σ H s->wi σ H R ->
  wpAny (model X.prog X.w) X.A (eval iter X.env) (λv s1=>wpAny (model X.prog X.w) X.A (pyIter v) (PIE X pins σ tg R) X.xe s1) X.xe s
theorem qqq {M:Model}{A:AQ}{E:Value->Ah->Prop}{s:Ah}{b:Expr}{it:Addr}{u:Value}{o:Obj}{n:String}{vs:Array Value}{Q:Unit->Ah->Prop}(e:s.heap.get? it=some o)(d:o.cls=.type n)(hd:o.data=.fields vs)
  (c:["enumerate","zip","dict_itemiterator","dict_reverseitemiterator","odict_iterator","itertools.zip_longest","itertools.pairwise"].contains n=false)(a:Q () s):wpAny M A (letOwnedTupleGo b (.ref it) u) Q E s:=by
 unfold letOwnedTupleGo;cases b <;>first
  |exact A1 a
  | (cases u <;>first
    |exact A1 a
    | (refine Ad (wpAny_load e ?_)
       rw[d,hd]
       show wpAny M A (if (["enumerate","zip","dict_itemiterator","dict_reverseitemiterator","odict_iterator","itertools.zip_longest","itertools.pairwise"].contains n && vs[0]? == some (rawInt _))=true then _ else _) Q E s
       rw[if_neg (by intro h;rw[c,C5]at h;cases h)]
       exact A1 a))
noncomputable def Itl (K:Ag)(a:Addr):It :=
 ⟨λi H=>∃xs x,SqL K H a xs/\xs[i]?=some x,λi H x H'=>H'=H/\∀xs,SqL K H a xs->xs[i]?=some x,λi H=>∃xs,SqL K H a xs/\xs.length<=i⟩
noncomputable def Itt (K:Ag)(a:Addr):It :=
 ⟨λi H=>∃xs x,SqT K H a xs/\xs[i]?=some x,λi H x H'=>H'=H/\∀xs,SqT K H a xs->xs[i]?=some x,λi H=>∃xs,SqT K H a xs/\xs.length<=i⟩
noncomputable def Itr (lo:Int)(n:Nat):It:=⟨λi _=>i<n,λi H x H'=>H'=H/\x=.int (lo+i),λi _=>n<=i⟩
theorem qrx {P:AH}{w:World}{K:Ag}{N:Expr}(a it:Addr):Turn P w K N (Itl K a) [it] it (λi h=>h.IsListIter it a i) where
 mem:=by simp
 obj:=λi h st b f=>by
  have e:b=it:=by simpa using f
  subst e;obtain⟨o,e,c,d⟩:=st;exact⟨o,e,λv z=>by rw[d]at z;cases z⟩
 keep:=λi h h' st k=>st.at λo e=>k it (by simp) o e
 item:=by intro X r t D J i g s σ H E I j st B;subst r t D;obtain⟨xs,x,l,C⟩:=B;obtain⟨its,G,p,hz⟩:=I.list l;obtain⟨u,O,L⟩:=G.get C;obtain⟨y,A,S,n,q,F⟩:=j it (by simp);refine wpAny_pyNext_list_item st p.isList (x:=u) (by simpa using O) λh' m T=>?_;have Q:Inv X g σ H {s with heap:=h'}:=I.turned (t':=s.toks) (λb o f e=>(T.2 b f).trans e) y A n q F;obtain⟨o,e,c,d⟩:=id m;exact⟨u,Z,qqq (s:={s with heap:=h'}) e c d En ⟨x,H,Q,L,⟨Z,λys M=>by rw[I.list_inj M l];exact C⟩,m,λb f=>(j b f).1⟩⟩
 done:=by intro X r t D J i g s σ H E I j st B;subst r t D;obtain⟨xs,l,C⟩:=B;obtain⟨its,G,p,hz⟩:=I.list l;obtain⟨y,A,S,n,q,F⟩:=j it (by simp);have hl:=G.length;exact wpAny_pyNext_list_end (I.ok.hd J) st p.isList (by simp;lia) λh' R=>⟨Z,I.turned (t':=s.toks) (λb o f e=>R b o f e) y A n q F⟩
 self:=λ_ _ _ _ _ st h=>wpAny_pyIter_listiter st h
theorem qpe {P:AH}{w:World}{K:Ag}{N:Expr}(a it:Addr):Turn P w K N (Itt K a) [it] it (λi h=>h.IsTupleIter it a i) where
 mem:=by simp
 obj:=λi h st b f=>by
  have e:b=it:=by simpa using f
  subst e;obtain⟨o,e,c,d⟩:=st;exact⟨o,e,λv z=>by rw[d]at z;cases z⟩
 keep:=λi h h' st k=>st.at λo e=>k it (by simp) o e
 item:=by intro X r t D J i g s σ H E I j st B;subst r t D;obtain⟨xs,x,l,C⟩:=B;obtain⟨its,G,p,hz⟩:=I.tuple l;obtain⟨u,O,L⟩:=G.get C;obtain⟨y,A,S,n,q,F⟩:=j it (by simp);refine wpAny_pyNext_tuple_item st (show s.heap.IsTuple a its.toArray from p) (x:=u) (by simpa using O) λh' m T=>?_;have Q:Inv X g σ H {s with heap:=h'}:=I.turned (t':=s.toks) (λb o f e=>(T.2 b f).trans e) y A n q F;obtain⟨o,e,c,d⟩:=id m;exact⟨u,Z,qqq (s:={s with heap:=h'}) e c d En ⟨x,H,Q,L,⟨Z,λys M=>by rw[I.tuple_inj M l];exact C⟩,m,λb f=>(j b f).1⟩⟩
 done:=by intro X r t D J i g s σ H E I j st B;subst r t D;obtain⟨xs,l,C⟩:=B;obtain⟨its,G,p,hz⟩:=I.tuple l;obtain⟨y,A,S,n,q,F⟩:=j it (by simp);have hl:=G.length;exact wpAny_pyNext_tuple_end (I.ok.hd J) st (show s.heap.IsTuple a its.toArray from p) (by simp;lia) λh' R=>⟨Z,I.turned (t':=s.toks) (λb o f e=>R b o f e) y A n q F⟩
 self:=λ_ _ _ _ _ st h=>wpAny_pyIter_tupleiter st h
theorem qpf {P:AH}{w:World}{K:Ag}{C:Expr}(it:Addr)(lo:Int)(n:Nat):Turn P w K C (Itr lo n) [it] it (λi h=>IsRangeIter h it (lo+(i:Nat)*1) ((n:Int)-(i:Nat)) 1) where
 mem:=by simp
 obj:=λi h st b a=>by
  have e:b=it:=by simpa using a
  subst e;exact⟨_,st,λv z=>by have A:Data.fields _=Data.cell v:=z;cases A⟩
 keep:=λi h h' st k=>k it (by simp) _ st
 item:=by intro X l m x q i c s σ H E I d st u;subst l m x;obtain⟨p,r,J,g,j,y⟩:=d it (by simp);have W:=Walks.range (prog:=X.prog) (w:=X.w) (I.ok.hd q) it lo 1 n;refine W.item i s _ _ u st λv h' tk D f B=>?_;obtain⟨t,rfl⟩:=D;have F:Inv X c σ H {s with heap:=h',toks:=tk}:=I.turned (λb o a e=>B b o (by simpa using a) e) p r g j y;refine⟨_,Z,qqq (s:={s with heap:=h',toks:=tk}) (n := "range_iterator") f Z Z En ⟨.int (lo+i),H,F,⟨t,?_⟩,⟨Z,Z⟩,f,λb a=>(d b a).1⟩⟩;rw[Int.mul_one]
 done:=by intro X l m x q i c s σ H E I d st u;subst l m x;obtain⟨p,r,J,g,j,y⟩:=d it (by simp);exact wpAny_pyNext_range_end (I.ok.hd q) st (by have:n<=i:=u;lia) λh' G=>⟨Z,I.turned (t':=s.toks) (λb o a e=>G b o a e) p r g j y⟩
 self:=λ_ _ _ _ _ st h=>wpAny_pyIter_rangeiter st h
end L2
namespace L2
open PySem PySem.Spec PyProof.Rows
section
variable {X:Cx}{tg:Expr}
def iList (K:Ag)(tl:TE):TI:=λσ H R=>tl σ H λx H1=>∃a,x=.ref a/\(∃xs,SqL K H1 a xs)/\R (Itl K a) H1
def iTup (K:Ag)(tl:TE):TI:=λσ H R=>tl σ H λx H1=>∃a,x=.ref a/\(∃xs,SqT K H1 a xs)/\R (Itt K a) H1
theorem qbd {l:Expr}{i:TE}(hl:PE X l i):PI X tg l (iList X.K i):=by
 intro f s σ H R I h;refine thn (hl f s σ H _ I h) λv c g=>?_;obtain⟨x,m,d,k,j⟩:=g;obtain⟨a,e,⟨xs,n⟩,q⟩:=j;subst e;cases k;obtain⟨its,rv,p,hz⟩:=d.list n;refine DC p.isList ?_;refine⟨c.heap.objs.size,[c.heap.objs.size],_,_,m,Z,d.kept (t':=c.toks) λb o e=>Aj _ e,qrx a _,⟨_,A3 _ Z,Z,Z⟩,λb r=>?_,q⟩;have e:b=c.heap.objs.size:=by simpa using r
 subst e;exact d.fpOk (Ax _) (d.hok.fresh (Ax _))
theorem qy1 {l:Expr}{i:TE}(hl:PE X l i):PI X tg l (iTup X.K i):=by
 intro f s σ H R I h;refine thn (hl f s σ H _ I h) λv c g=>?_;obtain⟨x,m,d,k,j⟩:=g;obtain⟨a,e,⟨xs,n⟩,q⟩:=j;subst e;cases k;obtain⟨its,rv,p,hz⟩:=d.tuple n;refine wpAny_pyIter_tuple (show c.heap.IsTuple a its.toArray from p) ?_;refine⟨c.heap.objs.size,[c.heap.objs.size],_,_,m,Z,d.kept (t':=c.toks) λb o e=>Aj _ e,qpe a _,⟨_,A3 _ Z,Z,Z⟩,λb r=>?_,q⟩;have e:b=c.heap.objs.size:=by simpa using r
 subst e;exact d.fpOk (Ax _) (d.hok.fresh (Ax _))
theorem qtu {c:List (Addr×Obj)}{σ:St}{H:Hp}{s:Ah}{R:It->Hp->Prop}{E:Value->Ah->Prop}{lo a:Int}{t u v:Tok}{tk:Nat}(I:Inv X c σ H s)(h : -(2 ^ 62)<=lo)(i:lo<2 ^ 62)(g : -(2 ^ 62)<=a)(j:a<2 ^ 62)
  (q:R (Itr lo (a-lo).toNat) H):wpAny (model X.prog X.w) X.A (pyIter (.ref s.heap.objs.size)) (PIE X c σ tg R) E {s with heap:=s.heap.push {cls:=.type "range",data:=.fields #[.int lo t,.int a u,.int 1 v]},toks:=tk}:=by
 refine wpAny_pyIter_range (IsRange.new ..) (small_one h i g j) ?_;have d:Inv X c σ H {s with heap:=s.heap.push {cls:=.type "range",data:=.fields #[.int lo t,.int a u,.int 1 v]},toks:=tk}:=I.kept λb o e=>Aj _ e;refine⟨(s.heap.push {cls:=.type "range",data:=.fields #[.int lo t,.int a u,.int 1 v]}).objs.size,[(s.heap.push {cls:=.type "range",data:=.fields #[.int lo t,.int a u,.int 1 v]}).objs.size],_,_,H,Z,
  d.kept (t':=tk) λb o e=>Aj _ e,qpf _ lo (a-lo).toNat,?_,λb l=>?_,q⟩
 .have k:lo+((0:Nat):Int)*1=lo:=by simp
  have f:(((a-lo).toNat:Nat):Int)-((0:Nat):Int)=AX.Range.rangeSize lo a 1:=by rw[rangeSize_one];split <;>lia
  show IsRangeIter _ _ (lo+((0:Nat):Int)*1) ((((a-lo).toNat:Nat):Int)-((0:Nat):Int)) 1;rw[k,f];exact A3 _ rfl
 .have e:b=(s.heap.push {cls:=.type "range",data:=.fields #[.int lo t,.int a u,.int 1 v]}).objs.size:=by simpa using l
  subst e;exact d.fpOk (Ax _) (d.hok.fresh (Ax _))
def iRng1 (ta:TA):TI:=λσ H R=>ta σ H λvs H1=>∃j:Int,vs=[.int j] /\ -(2 ^ 62)<=j/\j<2 ^ 62/\R (Itr 0 j.toNat) H1
theorem qcc {a:Expr}{d:TA}{p pos:Pos}(m:Gl X "range")(n:X.mg "range"=none)(g:PA X [a] d)(hs:starEach [a] X.env=[(false,eval a X.env)]:=by rfl):PI X tg (.Call (.Name "range" p) [a] [] pos) (iRng1 d):=by
 intro c s σ H R I h;refine Call_ (qey I m n boot_range (BD (thn (g pos c s σ H _ I h) λus s1 f=>?_) hs Z));obtain⟨vs,H1,k,i,b⟩:=f;obtain⟨j,e,b,l,q⟩:=b;subst e;cases i with
 |cons r rr =>cases rr;obtain⟨t,rfl⟩:=r;exact call_range_1 (qtu k (by lia) (by lia) b l (by simpa using q))
def tFor (wi:TI)(g:TG)(tb:TS):TS:=λD σ H=>wi σ H λJ H1=>∃W:Nat->Nat->St->Hp->Prop,(∃m,W 0 m σ H1)/\∀i m σ H,W i m σ H ->
 (J.stop i H/\D.nx σ H)\/(J.go i H/\∃N:St->Hp->Prop,(∀σ' H',N σ' H'->∃m',m'<m/\W (i+1) m' σ' H')/\∀x H',J.yld i H x H'->g x σ H' λσ2 H2=>tb {D with nx:=N,ct:=N,bk:=D.nx} σ2 H2)
noncomputable def qj1 (fp:List Addr)(h:Heap):List (Addr×Obj):=fp.filterMap λb=>(h.get? b).map λo=>(b,o)
theorem qfh {a:List Addr}{h:Heap}{b:Addr}{o:Obj}(c:b∈a)(e:h.get? b=some o):(b,o)∈qj1 a h:=List.mem_filterMap.mpr ⟨b,c,by rw[e];rfl⟩
theorem qry {a:List Addr}{h:Heap}{p:Addr×Obj}(d:p∈qj1 a h):p.1∈a/\h.get? p.1=some p.2:=by
 obtain⟨b,c,e⟩:=List.mem_filterMap.mp d;cases q:h.get? b with|none=>rw[q]at e;cases e|some o =>rw[q]at e;have f:(b,o)=p:=A5 e;subst f;exact⟨c,q⟩
theorem Inv.pinned {a:List (Addr×Obj)}{σ:St}{H:Hp}{s:Ah}{c:List Addr}(I:Inv X a σ H s)(i:∀b∈c,qe0 X a H b)(k:∀b∈c,∃o,s.heap.get? b=some o/\∀v,o.data ≠ .cell v):Inv X (a++qj1 c s.heap) σ H s :=
 I.pins_of λp h=>(A9.mp h).elim (λz=>I.pin p (Ay _ z)) λz=>by obtain⟨g,e⟩:=qry z;obtain⟨l,m,j,_⟩:=i p.1 g;obtain⟨o,f,d⟩:=k p.1 g;rw[e]at f;cases f;exact⟨e,l,m,j,d⟩
theorem Inv.unpinned {a pl:List (Addr×Obj)}{σ:St}{H:Hp}{s:Ah}(I:Inv X (a++pl) σ H s):Inv X a σ H s:=I.pins_of λp b=>I.pin p (Ay _ (B7 _ b))
theorem qcd {q:Expr}{F:List Stmt}{Y:TI}{g:TG}{tb:TS}{pos:Pos}(E:BF (model X.prog X.w) X.A X.env X.xe)(hc:X.calm=true)(hi:PI X tg q Y)(hg:PG X tg g)(j:PSs X F tb)
  (hs:∀x,foldedSetIterable q X.env x=pure x:=by intro _;rfl):PS X (.For tg q F [] pos) (tFor Y g tb):=by
 intro a s σ H D I h;refine wpAny_For (thn (hi a s σ H _ I h) λv s1 h1=>thn h1 λitv s2 h2=>?_) hs;obtain⟨it,z,tn,J,H2,e,I2,T,U,V,W,⟨m0,w0⟩,M⟩:=h2;subst e
 -- what stays true of the iterator's objects through the loop
 have t:∀{H':Hp},(∀b∈z,H' b=none)->∀b∈z,qe0 X a H' b:=λhn b j=>⟨hn b j,(V b j).2⟩;refine codeAny_forLoop_any (λn s'=>∃i σ' H',Inv X a σ' H' s'/\tn i s'.heap/\(∀b∈z,H' b=none)/\W i n σ' H') ?_ m0 ⟨0,σ,H2,I2,U,λb j=>(V b j).1,w0⟩;rintro n Q ⟨i,σ3,G,I3,L,K,w3⟩;rcases M i n σ3 G w3 with ⟨stop,qn⟩|⟨go,N,hN,step⟩
 .refine CJ E (thn (T.done X Z Z Z hc i a Q σ3 G X.xe I3 (t K) L stop) λr s4 c=>?_);obtain⟨P,I4⟩:=c;subst P;exact Eb ⟨σ3,G,I4,qn⟩
 .refine CJ E (thn (T.item X Z Z Z hc i a Q σ3 G X.xe I3 (t K) L go) λr s4 c=>?_);obtain⟨u,P,h4⟩:=c;subst P;refine CJ E (thn h4 λ_ s5 c=>?_);obtain⟨x,H5,I5,r5,y5,B,R⟩:=c;have S:=I5.pinned (t R) (T.obj _ _ B);refine CJ E (thn (hg _ s5 σ3 H5 x u _ S r5 (step x H5 y5)) λ_ s6 c=>?_);obtain⟨σ6,H6,I6,q6⟩:=c;refine CJ E (thn (j _ s6 σ6 H6 _ I6 q6) λf O p=>?_);have y:∀{σ7:St}{l:Hp},Inv X (a++qj1 z s5.heap) σ7 l O->N σ7 l->∃m,m<n/\∃i σ' H',Inv X a σ' H' O/\tn i O.heap/\(∀b∈z,H' b=none)/\W i m σ' H':=λ{σ7 l} k C=>by obtain⟨m',hm,w7⟩:=hN σ7 l C;refine⟨m',hm,i+1,σ7,l,k.unpinned,T.keep _ _ _ B λb j o e=>(k.pin (b,o) (Ay _ (Ay _ (qfh j e)))).1,λb j=>?_,w7⟩;obtain⟨o,e,d⟩:=T.obj _ _ B b j;exact(k.pin (b,o) (Ay _ (Ay _ (qfh j e)))).2.1
  cases f with
  |next=>obtain⟨σ7,l,k,C⟩:=p;exact y k C
  |cont=>obtain⟨σ7,l,k,C⟩:=p;exact y k C
  |brk=>obtain⟨σ7,l,k,p⟩:=p;exact⟨σ7,l,k.unpinned,p⟩
  |ret v=>obtain⟨x7,σ7,l,k,r7,p⟩:=p;exact⟨x7,σ7,l,k.unpinned,r7,p⟩
end
theorem qc7 {K:Ag}{a:Addr}{xs:List V}{g:TG}{tb:TS}{D:Ends}{σ:St}{H:Hp}(b:Nat->St->Hp->Prop)(k:b 0 σ H)(hl:∀i σ H,i<=xs.length->b i σ H->SqL K H a xs)
  (hs:∀i x σ H,xs[i]?=some x->b i σ H->g x σ H λσ2 f=>tb {D with nx:=b (i+1),ct:=b (i+1),bk:=D.nx} σ2 f)(hd:∀σ H,b xs.length σ H->D.nx σ H) :
  ∃W:Nat->Nat->St->Hp->Prop,(∃m,W 0 m σ H)/\∀i m σ H,W i m σ H ->
   ((Itl K a).stop i H/\D.nx σ H)\/((Itl K a).go i H/\∃N:St->Hp->Prop,(∀σ' c,N σ' c->∃m',m'<m/\W (i+1) m' σ' c)/\∀x c,(Itl K a).yld i H x c->g x σ c λσ2 f=>tb {D with nx:=N,ct:=N,bk:=D.nx} σ2 f):=by
 refine⟨λi m σ H=>m=xs.length-i/\i<=xs.length/\b i σ H,⟨xs.length,by simp,Bj _,k⟩,?_⟩
 rintro i m σ H ⟨rfl,h,p⟩
 have q:=hl i σ H h p
 by_cases d:i<xs.length
 .refine .inr ⟨⟨xs,xs[i],q,by simp[d]⟩,b (i+1),λσ' c j=>⟨xs.length-(i+1),by lia,Z,d,j⟩,λx c y=>?_⟩;obtain⟨e,y⟩:=y;subst e;exact hs i x σ _ (y xs q) p
 .have e:i=xs.length:=by lia
  subst e;exact .inl ⟨⟨xs,q,Ax _⟩,hd σ H p⟩
theorem qwl {K:Ag}{a:Addr}{xs:List V}{g:TG}{tb:TS}{D:Ends}{σ:St}{H:Hp}(b:Nat->St->Hp->Prop)(k:b 0 σ H)(hl:∀i σ H,i<=xs.length->b i σ H->SqT K H a xs)
  (hs:∀i x σ H,xs[i]?=some x->b i σ H->g x σ H λσ2 f=>tb {D with nx:=b (i+1),ct:=b (i+1),bk:=D.nx} σ2 f)(hd:∀σ H,b xs.length σ H->D.nx σ H) :
  ∃W:Nat->Nat->St->Hp->Prop,(∃m,W 0 m σ H)/\∀i m σ H,W i m σ H ->
   ((Itt K a).stop i H/\D.nx σ H)\/((Itt K a).go i H/\∃N:St->Hp->Prop,(∀σ' c,N σ' c->∃m',m'<m/\W (i+1) m' σ' c)/\∀x c,(Itt K a).yld i H x c->g x σ c λσ2 f=>tb {D with nx:=N,ct:=N,bk:=D.nx} σ2 f):=by
 refine⟨λi m σ H=>m=xs.length-i/\i<=xs.length/\b i σ H,⟨xs.length,by simp,Bj _,k⟩,?_⟩
 rintro i m σ H ⟨rfl,h,p⟩
 have q:=hl i σ H h p
 by_cases d:i<xs.length
 .refine .inr ⟨⟨xs,xs[i],q,by simp[d]⟩,b (i+1),λσ' c j=>⟨xs.length-(i+1),by lia,Z,d,j⟩,λx c y=>?_⟩;obtain⟨e,y⟩:=y;subst e;exact hs i x σ _ (y xs q) p
 .have e:i=xs.length:=by lia
  subst e;exact .inl ⟨⟨xs,q,Ax _⟩,hd σ H p⟩
theorem qdu {lo:Int}{n:Nat}{g:TG}{tb:TS}{D:Ends}{σ:St}{H:Hp}(b:Nat->St->Hp->Prop)(h:b 0 σ H)
  (hs:∀i σ H,i<n->b i σ H->g (.int (lo+i)) σ H λσ2 d=>tb {D with nx:=b (i+1),ct:=b (i+1),bk:=D.nx} σ2 d)(hd:∀σ H,b n σ H->D.nx σ H) :
  ∃W:Nat->Nat->St->Hp->Prop,(∃m,W 0 m σ H)/\∀i m σ H,W i m σ H ->
   ((Itr lo n).stop i H/\D.nx σ H)\/((Itr lo n).go i H/\∃N:St->Hp->Prop,(∀σ' a,N σ' a->∃m',m'<m/\W (i+1) m' σ' a)/\∀x a,(Itr lo n).yld i H x a->g x σ a λσ2 d=>tb {D with nx:=N,ct:=N,bk:=D.nx} σ2 d):=by
 refine⟨λi m σ H=>m=n-i/\i<=n/\b i σ H,⟨n,by simp,Bj _,h⟩,?_⟩
 rintro i m σ H ⟨rfl,hi,p⟩
 by_cases c:i<n
 .refine .inr ⟨c,b (i+1),λσ' a f=>⟨n-(i+1),by lia,Z,c,f⟩,λx a y=>?_⟩;obtain⟨e,y⟩:=y;subst e y;exact hs i σ _ c p
 .have e:i=n:=by lia
  subst e;exact .inl ⟨Ax _,hd σ H p⟩
end L2
namespace L2
open PySem PySem.Spec PyProof.Rows
abbrev R2:=V->V->Hp->VK->Prop
def OpR (X:Cx)(f:Value->Value->Sem Value)(r:R2):Prop :=
 ∀(pins:List (Addr×Obj))(s:Ah)(σ:St)(H:Hp)(x y:V)(v u:Value)(Q:VK),Inv X pins σ H s->RelV x v->RelV y u->r x y H Q ->
  wpAny (model X.prog X.w) X.A (f v u) (EP X pins σ Q) X.xe s
def qek (X:Cx)(f:Value)(r:List V->Hp->VK->Prop):Prop :=
 ∀(pins:List (Addr×Obj))(s:Ah)(σ:St)(H:Hp)(xs:List V)(us:List Value)(Q:VK),Inv X pins σ H s->Vals xs us->r xs H Q ->
  wpAny (model X.prog X.w) X.A (call f us) (EP X pins σ Q) X.xe s
def tOp (r:R2)(ta tb:TE):TE:=λσ H Q=>ta σ H λx H1=>tb σ H1 λy H2=>r x y H2 Q
def rI (C:Int->Int->Prop)(g:Int->Int->V):R2:=λx y H Q=>∃i j,x=.int i/\y=.int j/\C i j/\Q (g i j) H
def rI0 (g:Int->Int->V):R2:=λx y H Q=>∃i j,x=.int i/\y=.int j/\Q (g i j) H
section
variable {X:Cx}{a b c:Expr}{ta tb tc:TE}{pos:Pos}
theorem qy2 (m:PE X a ta)(B:PE X b tb){c:List (Addr×Obj)}{s:Ah}{σ:St}{H:Hp}{R:V->V->Hp->Prop}(I:Inv X c σ H s)
  (h:ta σ H λx i=>tb σ i λy d=>R x y d){Q:Value->Ah->Prop}{f:Value->Value->Sem Value}
  (q:∀v u g x y d,Inv X c σ d g->RelV x v->RelV y u->R x y d->wpAny (model X.prog X.w) X.A (f v u) Q X.xe g) :
  wpAny (model X.prog X.w) X.A (eval a X.env) (λv p=>wpAny (model X.prog X.w) X.A (eval b X.env) (λu t=>wpAny (model X.prog X.w) X.A (f v u) Q X.xe t) X.xe p) X.xe s:=by
 refine thn (m c s σ H _ I h) λv k e=>?_;obtain⟨x,i,o,n,j⟩:=e;refine thn (B c k σ i _ o j) λu g e=>?_;obtain⟨y,d,l,z,r⟩:=e;exact q v u g x y d l n z r
theorem zh {d:Operator}{r:R2}(k:OpR X (binaryOp d) r)(f:PE X a ta)(m:PE X b tb):PE X (.BinOp a d b pos) (tOp r ta tb):=by intro c s σ H Q I h;exact wpAny_BinOp (qy2 f m I h λv u g x y l e i j q=>k c g σ l x y v u Q e i j q)
theorem opI {f:Value->Value->Sem Value}{C:Int->Int->Prop}{g:Int->Int->Int}
  (rule:∀(i j:Int)(t u:Tok)(s:Ah)(Q:Value->Ah->Prop)(E:Value->Ah->Prop),C i j->Q (.int (g i j) s.toks) {s with toks:=s.toks+1}->wpAny (model X.prog X.w) X.A (f (.int i t) (.int j u)) Q E s) :
  OpR X f (rI C λi j=>.int (g i j)):=by
 intro pins s σ H x y v u Q I a b h;obtain⟨i,j,rfl,rfl,c,q⟩:=h;obtain⟨t,rfl⟩:=a;obtain⟨t',rfl⟩:=b;exact rule i j t t' s _ _ c ⟨.int (g i j),H,I.tok _,⟨_,Z⟩,q⟩
theorem opI0 {f:Value->Value->Sem Value}{g:Int->Int->Int}
  (rule:∀(i j:Int)(t u:Tok)(s:Ah)(Q:Value->Ah->Prop)(E:Value->Ah->Prop),Q (.int (g i j) s.toks) {s with toks:=s.toks+1}->wpAny (model X.prog X.w) X.A (f (.int i t) (.int j u)) Q E s) :
  OpR X f (rI0 λi j=>.int (g i j)):=by
 intro pins s σ H x y v u Q I a b h;obtain⟨i,j,rfl,rfl,q⟩:=h;obtain⟨t,rfl⟩:=a;obtain⟨t',rfl⟩:=b;exact rule i j t t' s _ _ ⟨.int (g i j),H,I.tok _,⟨_,Z⟩,q⟩
theorem opB0 {f:Value->Value->Sem Value}{g:Int->Int->Bool}
  (rule:∀(i j:Int)(t u:Tok)(s:Ah)(Q:Value->Ah->Prop)(E:Value->Ah->Prop),Q (.bool (g i j)) s->wpAny (model X.prog X.w) X.A (f (.int i t) (.int j u)) Q E s) :
  OpR X f (rI0 λi j=>.bl (g i j)):=by
 intro pins s σ H x y v u Q I a b h;obtain⟨i,j,rfl,rfl,q⟩:=h;obtain⟨t,rfl⟩:=a;obtain⟨t',rfl⟩:=b;exact rule i j t t' s _ _ ⟨.bl (g i j),H,I,Z,q⟩
def qwm (i j:Int):Prop:=0<j/\j<1073741824
def CMul (i j:Int):Prop:=(-(2 ^ 64)<i/\i<2 ^ 64)\/(-(2 ^ 64)<j/\j<2 ^ 64)
theorem CMul.ok {i j:Int}(h:CMul i j):IntMulOk i j:=by
 rcases h with ⟨b,a⟩|⟨b,a⟩
 .exact .of_left (intBits_le_64 b a)
 .exact .of_right (intBits_le_64 b a)
theorem qa3:OpR X (binaryOp .Add) (rI0 λi j=>.int (i+j)):=opI0 λ_ _ _ _ _ _ _ q=>add_int q
theorem qir:OpR X (binaryOp .Sub) (rI0 λi j=>.int (i-j)):=opI0 λ_ _ _ _ _ _ _ q=>sub_int q
theorem qdv:OpR X (binaryOp .Mult) (rI CMul λi j=>.int (i*j)):=opI λ_ _ _ _ _ _ _ a q=>mul_int q a.ok
theorem qbe:OpR X (binaryOp .FloorDiv) (rI qwm λi j=>.int (i / j)):=opI λi j _ _ _ _ _ a q=>by have h1:(0:Int)<j:=a.1;have h2:j<1073741824:=a.2;exact floordiv_int (by lia) (by rw[Int.fdiv_eq_ediv_of_nonneg i (by lia)];exact q) (.inl (PyProof.noPylong_small (by lia)))
theorem qav:OpR X (binaryOp .Mod) (rI (λ_ j=>0<j) λi j=>.int (i % j)):=opI λi j _ _ _ _ _ a q=>by have h1:(0:Int)<j:=a;exact mod_int' (by lia) (by rw[Int.fmod_eq_emod_of_nonneg i (by lia)];exact q)
end
noncomputable def scal:V->V->Bool
 |.non,.non=>true | .non,.int _=>true | .int _,.non=>true | .non,.bl _=>true | .bl _,.non=>true | .non,.str _=>true | .str _,.non=>true
 |.int _,.int _=>true | .bl _,.bl _=>true | .str _,.str _=>true | .byt _,.byt _=>true
 |.int _,.str _=>true | .str _,.int _=>true | .bl _,.str _=>true | .str _,.bl _=>true
 |_,_=>false
def rEq:R2:=λx y H Q=>scal x y=true/\Q (.bl (decide (x=y))) H
def rNe:R2:=λx y H Q=>scal x y=true/\Q (.bl (!decide (x=y))) H
theorem qqr {i j:Int}:decide (V.int i=V.int j)=(i == j):=by rw[CA];simp
theorem qtv {i j:Bool}:decide (V.bl i=V.bl j)=(i == j):=by rw[CA];simp
theorem qqs {i j:Str}:decide (V.str i=V.str j)=(i == j):=by rw[CA];simp
theorem qqt {i j:Array UInt8}:decide (V.byt i=V.byt j)=(i.toList == j.toList):=by rw[CA];cases i;cases j;simp
section
variable {X:Cx}{a b c:Expr}{ta tb tc:TE}{pos:Pos}
theorem qaz {a:List (Addr×Obj)}{σ:St}{H:Hp}{s:Ah}{Q:VK}{k b:Bool}(I:Inv X a σ H s)(q:Q (.bl k) H)(e:k=b):EP X a σ Q (.bool b) s:=by subst e;exact⟨.bl k,H,I,Z,q⟩
theorem qbk:OpR X (compareOp .Eq) rEq:=by
 intro pins s σ H x y v u Q I b a h;obtain⟨hs,q⟩:=h;cases x with
 |non =>
  cases b;cases y with
  |non=>cases a;exact PySem.EqNone.eq_none_none (qaz I q (by simp))
  |bl j=>cases a;exact PySem.EqNone.eq_none_bool (qaz I q (by simp))
  |int j=>obtain⟨t',rfl⟩:=a;exact PySem.EqNone.eq_none_int (qaz I q (by simp))
  |str j=>obtain⟨t',rfl⟩:=a;exact PySem.EqNone.eq_none_str (qaz I q (by simp))
  |_=>exact absurd (show false=true from hs) AE
 |bl i =>
  cases b;cases y with
  |non=>cases a;exact PySem.EqNone.eq_bool_none (qaz I q (by simp))
  |bl j=>cases a;exact eq_bool (qaz I q qtv)
  |str j=>obtain⟨t',rfl⟩:=a;exact PySem.EqMixed.eq_bool_str (qaz I q (by simp))
  |_=>exact absurd (show false=true from hs) AE
 |int i =>
  obtain⟨t,rfl⟩:=b;cases y with
  |non=>cases a;exact PySem.EqNone.eq_int_none (qaz I q (by simp))
  |int j=>obtain⟨t',rfl⟩:=a;exact eq_int (qaz I q qqr)
  |str j=>obtain⟨t',rfl⟩:=a;exact PySem.EqMixed.eq_int_str (qaz I q (by simp))
  |_=>exact absurd (show false=true from hs) AE
 |str i =>
  obtain⟨t,rfl⟩:=b;cases y with
  |non=>cases a;exact PySem.EqNone.eq_str_none (qaz I q (by simp))
  |bl j=>cases a;exact PySem.EqMixed.eq_str_bool (qaz I q (by simp))
  |int j=>obtain⟨t',rfl⟩:=a;exact PySem.EqMixed.eq_str_int (qaz I q (by simp))
  |str j=>obtain⟨t',rfl⟩:=a;exact eq_str (qaz I q qqs)
  |_=>exact absurd (show false=true from hs) AE
 |byt i =>
  obtain⟨t,rfl⟩:=b;cases y with
  |byt j=>obtain⟨t',rfl⟩:=a;exact PySem.W.eq_bytes (qaz I q qqt)
  |_=>exact absurd (show false=true from hs) AE
 |_=>cases y <;>exact absurd (show false=true from hs) AE
theorem qye:OpR X (compareOp .NotEq) rNe:=by
 intro pins s σ H x y v u Q I b a h;obtain⟨hs,q⟩:=h;cases x with
 |non =>
  cases b;cases y with
  |non=>cases a;exact PySem.EqNone.ne_none_none (qaz I q (by simp))
  |bl j=>cases a;exact PySem.EqNone.ne_none_bool (qaz I q (by simp))
  |int j=>obtain⟨t',rfl⟩:=a;exact PySem.EqNone.ne_none_int (qaz I q (by simp))
  |str j=>obtain⟨t',rfl⟩:=a;exact PySem.EqNone.ne_none_str (qaz I q (by simp))
  |_=>exact absurd (show false=true from hs) AE
 |bl i =>
  cases b;cases y with
  |non=>cases a;exact PySem.EqNone.ne_bool_none (qaz I q (by simp))
  |bl j=>cases a;exact ne_bool (qaz I q (congrArg not qtv))
  |str j=>obtain⟨t',rfl⟩:=a;exact PySem.EqMixed.ne_bool_str (qaz I q (by simp))
  |_=>exact absurd (show false=true from hs) AE
 |int i =>
  obtain⟨t,rfl⟩:=b;cases y with
  |non=>cases a;exact PySem.EqNone.ne_int_none (qaz I q (by simp))
  |int j=>obtain⟨t',rfl⟩:=a;exact ne_int (qaz I q (congrArg not qqr))
  |str j=>obtain⟨t',rfl⟩:=a;exact PySem.EqMixed.ne_int_str (qaz I q (by simp))
  |_=>exact absurd (show false=true from hs) AE
 |str i =>
  obtain⟨t,rfl⟩:=b;cases y with
  |non=>cases a;exact PySem.EqNone.ne_str_none (qaz I q (by simp))
  |bl j=>cases a;exact PySem.EqMixed.ne_str_bool (qaz I q (by simp))
  |int j=>obtain⟨t',rfl⟩:=a;exact PySem.EqMixed.ne_str_int (qaz I q (by simp))
  |str j=>obtain⟨t',rfl⟩:=a;exact ne_str (qaz I q (congrArg not qqs))
  |_=>exact absurd (show false=true from hs) AE
 |byt i =>
  obtain⟨t,rfl⟩:=b;cases y with
  |byt j=>obtain⟨t',rfl⟩:=a;exact PySem.W.ne_bytes (qaz I q (congrArg not qqt))
  |_=>exact absurd (show false=true from hs) AE
 |_=>cases y <;>exact absurd (show false=true from hs) AE
theorem qtw:OpR X (compareOp .Lt) (rI0 λi j=>.bl (decide (i<j))):=opB0 λ_ _ _ _ _ _ _ q=>lt_int q
theorem qlw:OpR X (compareOp .LtE) (rI0 λi j=>.bl (decide (i<=j))):=opB0 λ_ _ _ _ _ _ _ q=>le_int q
theorem qpg:OpR X (compareOp .Is) (λx y H Q=>y=.non/\Q (.bl (decide (x=.non))) H):=by
 intro pins s σ H x y v u Q I a b h;obtain⟨rfl,q⟩:=h;cases b;refine is_none_gen (qaz I q ?_);cases x <;>first
  | (cases a;rfl)
  | (obtain⟨t,rfl⟩:=a;rfl)
theorem qdn:OpR X (compareOp .IsNot) (λx y H Q=>y=.non/\Q (.bl (!decide (x=.non))) H):=by
 intro pins s σ H x y v u Q I a b h;obtain⟨rfl,q⟩:=h;cases b;refine isnot_none_gen (qaz I q ?_);cases x <;>first
  | (cases a;rfl)
  | (obtain⟨t,rfl⟩:=a;rfl)
theorem qah (b:Expr){a:CmpOp}(h:a ≠ .In:=by decide)(h2:a ≠ .NotIn:=by decide):behindInMarks a b=false:=by
 have c:(a == CmpOp.In)=false:=by cases a <;>first|rfl|exact absurd rfl h
 have d:(a == CmpOp.NotIn)=false:=by cases a <;>first|rfl|exact absurd rfl h2
 cases b <;>simp[behindInMarks,c,d]
theorem qb3 {c:CmpOp}{r:R2}(k:OpR X (compareOp c) r)(f:PE X a ta)(m:PE X b tb)(n:behindInMarks c b=false):PE X (.Compare a [c] [b] pos) (tOp r ta tb):=by intro d s σ H Q I h;exact wpAny_Compare1 (qy2 f m I h λv u g x y l e i j q=>k d g σ l x y v u Q e i j q) n
def qyf (t:TE):TT:=λσ H Q=>t σ H λx H'=>∃k,x=.bl k/\Q k H'
theorem zf {f:CmpOp}{r:R2}(w:OpR X (compareOp f) r)(l:PE X a ta)(F:PE X b tb)(G:behindInMarks f b=false):PT X (.Compare a [f] [b] pos) (qyf (tOp r ta tb)):=by
 intro d s σ H Q I h;refine wpAny_isTrue_Compare1 (thn (l d s σ H _ I h) λv i ⟨x,p,o,n,g⟩=>thn (F d i σ p _ o g) λu m ⟨y,C,j,t,q⟩ =>
  thn (w d m σ C x y v u _ j n t q) λc s3 ⟨z,D,E,B,k,e,A⟩=>?_) G
 subst e;cases B;exact B9 ⟨D,E,A⟩
def qtx (r r':R2)(ta tb tc:TE):TE:=λσ H Q=>ta σ H λx H1=>tb σ H1 λy H2=>r x y H2 λz H3=>∃k,z=.bl k /\
 (if k=true then tc σ H3 λw' H4=>r' y w' H4 Q else Q (.bl false) H3)
theorem qnr {i g:CmpOp}{r r':R2}(N:OpR X (compareOp i) r)(j:OpR X (compareOp g) r')(B:PE X a ta)(U:PE X b tb)(R:PE X c tc)
  (V:lastMarks [i,g] [b,c]=false:=by with_unfolding_all rfl):PE X (.Compare a [i,g] [b,c] pos) (qtx r r' ta tb tc):=by
 intro f s σ H Q I h;refine Compare_chain (thn (B f s σ H _ I h) λv t ⟨x,L,G,F,p⟩=>chain_link (thn (U f t σ L _ G p) λu C ⟨y,S,w,l,M⟩ =>
  thn (N f C σ S x y v u _ w F l M) λd q ⟨z,n,o,O,k,e,m⟩=>?_)) V
 subst e;cases O;refine B9 ?_;cases k with|false=>exact ite_ff ⟨.bl false,n,o,Z,m⟩|true=>exact ite_tt (chain_last (thn (R f q σ n _ o m) λJ P ⟨A,K,E,T,D⟩=>j f P σ K y A u J Q E l T D))
theorem qj2 {i g:CmpOp}{r r':R2}(V:OpR X (compareOp i) r)(j:OpR X (compareOp g) r')(C:PE X a ta)(hb:PE X b tb)(hc:PE X c tc)
  (hm:lastMarks [i,g] [b,c]=false:=by with_unfolding_all rfl):PT X (.Compare a [i,g] [b,c] pos) (qyf (qtx r r' ta tb tc)):=by
 intro f s σ H Q I h;refine isTrue_chain (thn (C f s σ H _ I h) λv w ⟨x,S,M,L,q⟩=>test_link (thn (hb f w σ S _ M q) λu E ⟨y,H2,A,m,U⟩ =>
  thn (V f E σ H2 x y v u _ A L m U) λd t ⟨z,o,p,W,k,e,n⟩=>?_)) hm
 subst e;cases W;refine B9 ?_;cases k with
 |false =>obtain⟨k',N,T⟩:=n;cases N;exact ite_ff ⟨o,p,T⟩
 |true =>refine ite_tt (test_last (thn (hc f t σ o _ p n) λO Y ⟨B,P,J,r4,G⟩=>thn (j f Y σ P y B u O _ J m r4 G) λd' s5 l=>?_));obtain⟨z2,H5,K,R,k2,D,F⟩:=l;subst D;cases R;exact B9 ⟨H5,K,F⟩
theorem qj3:(Au:Nat)<2 ^ 63:=by rw[Bd];decide
theorem qac:OpR X (binaryOp .Add) (λx y H Q=>∃i j,x=.str i/\y=.str j/\i.length+j.length<=Au/\Q (.str (i++j)) H):=by intro pins s σ H x y v u Q I a b h;obtain⟨i,j,rfl,rfl,hz,q⟩:=h;obtain⟨t,rfl⟩:=a;obtain⟨t',rfl⟩:=b;exact add_str (λt' tk=>⟨.str (i++j),H,I.tok _,⟨_,Z⟩,q⟩) hz
theorem qf0 {x:V}{us:List Value}(r:Vals [x] us):∃u,us=[u]/\RelV x u:=by
 cases r with|cons r1 r2=>cases r2;exact⟨_,Z,r1⟩
theorem vals2 {x y:V}{us:List Value}(r:Vals [x,y] us):∃u w',us=[u,w']/\RelV x u/\RelV y w':=by
 cases r with
 |cons r1 r2 =>
  cases r2 with|cons r3 r4=>cases r4;exact⟨_,_,Z,r1,r3⟩
theorem qrz (b:X.calm=true):qek X (.builtin "max") (λxs H Q=>∃i j,xs=[.int i,.int j]/\Q (.int (if j > i then j else i)) H):=by
 intro pins s σ H xs us Q I r h;obtain⟨i,j,rfl,q⟩:=h;obtain⟨u,w',rfl,⟨t,rfl⟩,⟨t',rfl⟩⟩:=vals2 r;refine max_two_ints (I.ok.hd b) λh' tk k=>⟨_,H,I.kept k,?_,q⟩;by_cases a:j > i
 .rw[if_pos a,if_pos a];exact⟨_,Z⟩
 .rw[if_neg a,if_neg a];exact⟨_,Z⟩
theorem qr0:qek X (.type "int") (λxs H Q=>(∃i,xs=[.int i]/\Q (.int i) H) \/ ∃k,xs=[.bl k]/\Q (.int (if k then 1 else 0)) H):=by
 intro pins s σ H xs us Q I r h;rcases h with ⟨i,rfl,q⟩|⟨k,rfl,q⟩
 .obtain⟨u,rfl,t,rfl⟩:=qf0 r;exact call_int_int ⟨.int i,H,I,⟨_,Z⟩,q⟩
 .obtain⟨u,rfl,a⟩:=qf0 r;cases a;exact call_int_bool ⟨.int (if k then 1 else 0),H,I.tok _,⟨_,Z⟩,q⟩
theorem qdo:qek X (.type "str") (λxs H Q=>∃i,xs=[.int i]/\i.natAbs.log2<1920/\Q (.str (toString i)) H):=by intro pins s σ H xs us Q I r h;obtain⟨i,rfl,hz,q⟩:=h;obtain⟨u,rfl,t,rfl⟩:=qf0 r;exact PySem.P.str_of_int hz ⟨.str _,H,I.tok _,⟨_,Z⟩,q⟩
def LenV (K:Ag)(x:V)(H:Hp)(n:Nat):Prop :=
 match x with
 |.str y=>y.length<=Au/\n=y.length
 |.byt y=>y.size<=Au/\n=y.size
 |.ref p=>(∃xs,SqL K H p xs/\n=xs.length) \/ ∃xs,SqT K H p xs/\n=xs.length
 |_=>False
theorem qa9:qek X (.builtin "len") (λxs H Q=>∃x n,xs=[x]/\LenV X.K x H n/\Q (.int n) H):=by
 intro pins s σ H xs us Q I r h;obtain⟨x,n,rfl,e,q⟩:=h;obtain⟨u,rfl,c⟩:=qf0 r;have hl:=qj3;have hs:Au=16777216:=Bd;cases x with
 |str y =>obtain⟨t,rfl⟩:=c;obtain⟨hy,a⟩:y.length<=Au/\n=y.length:=e;subst a;exact len_str (by lia) ⟨.int _,H,I.tok _,⟨_,Z⟩,q⟩
 |byt y =>obtain⟨t,rfl⟩:=c;obtain⟨hy,a⟩:y.size<=Au/\n=y.size:=e;subst a;exact PySem.W.len_bytes (by lia) ⟨.int _,H,I.tok _,⟨_,Z⟩,q⟩
 |ref p =>
  cases c;have a:(∃xs,SqL X.K H p xs/\n=xs.length) \/ ∃xs,SqT X.K H p xs/\n=xs.length:=e;rcases a with ⟨xs,d,a⟩|⟨xs,d,a⟩
  .subst a;obtain⟨its,r',pl,hz⟩:=I.list d;have b:=r'.length;exact Calls.call_len_list pl.isList (by simp only[An];lia) ⟨.int xs.length,H,I.tok _,⟨_,by simp only[An];rw[b]⟩,q⟩
  .subst a;obtain⟨its,r',pl,hz⟩:=I.tuple d;have b:=r'.length;exact len_tuple pl (by simp only[An];lia) ⟨.int xs.length,H,I.tok _,⟨_,by simp only[An];rw[b]⟩,q⟩
 |_=>exact(show False from e).elim
end
end L2
namespace L2
open PySem PySem.Spec PyProof.Rows
structure ObjM (h:Heap)(x dx C:Addr)(mA:Str->Option Value):Prop where
 obj:h.get? x=some (C9 C dx)
 ns:h.Ns1 dx mA
 ne:dx≠x
theorem qr1 {h:Heap}{dx:Addr}{d:Str->Option Value}(n:h.Ns1 dx d):∃od,h.get? dx=some od/\∀name,PySem.W.lookIn name od=some (d name):=by
 obtain⟨o,c,ep,g,hd,hk,_,j⟩:=n;refine⟨o,g,λname=>?_⟩;have e:=j name;unfold nsFind findBy at e;rw[<- Array.find?_toList]at e;unfold PySem.W.lookIn;rw[hd];dsimp only;split
 .rename_i y q;rw[q]at e;exact congrArg some e
 .rename_i q;rw[q]at e;have a:c.toList.any (·.refKey)=false:=by rw[List.any_eq_false];intro y f;obtain⟨z,t,b⟩:=hk y (Array.mem_toList_iff.mp f);simp[DictEntry.refKey,b]
  have i:¬c.toList.any (·.refKey)=true:=by rw[a];exact AE
  rw[if_neg i];exact congrArg some e
theorem ObjM.look {h:Heap}{x dx C:Addr}{a:Str->Option Value}(I:ObjM h x dx C a):∃od,PySem.W.InstAt h x (C9 C dx) C (some od)/\∀name,PySem.W.lookIn name od=some (a name) :=
 let ⟨od,ho,hl⟩:=qr1 I.ns
 ⟨od,⟨I.obj,Z,Z,ho⟩,hl⟩
section
variable {prog:AH}{w:World}{A:AQ}{E:Value->Ah->Prop}{s:Ah}{K:Ag}{x dx C f:Addr}{mA:Str->Option Value}{name:Str}{v:Value}
theorem qwn {a:Bool}{Q:Value->Ah->Prop}(X:K.In s.heap)(I:ObjM s.heap x dx C mA)(e:Dw K C name=true)(f:Dl K C=true)
  (d:AU K (.ref C) name=some none)(c:mA name=some v)(b:PySem.W.handedIn v=true)(h:Q v {s with toks:=s.toks+1}) :
  wpAny (model prog w) A (getAttr (.ref x) name a) Q E s:=by
 obtain⟨od,J,hl⟩:=I.look;exact PySem.W.get_value X J (Ef e).1 (PySem.W.findObj_own f d Z (by rw[hl,c])) b h
theorem qty {pl:Sem Bool}{Q:Value×List Value->Ah->Prop}(X:K.In s.heap)(I:ObjM s.heap x dx C mA)(a:Dw K C name=true)
  (e:AU K (.ref C) name=some (some (.ref f)))(c:PySem.W.isFn K (.ref f)=true)(d:mA name=none)(h:Q (.ref f,[.ref x]) s) :
  wpAny (model prog w) A (getMethod (.ref x) name pl) Q E s:=by
 obtain⟨b,J,hl⟩:=I.look;exact PySem.W.method_fn X J (Ef a).1 (Ef a).2 e (beq_iff_eq.mp c) (by show (PySem.W.lookIn name b).map (·.isSome)=some false;rw[hl,d];rfl) h
theorem qwo {ns:List Str}{Q:Unit->Ah->Prop}(X:K.In s.heap)(I:ObjM s.heap x dx C mA)
  (hs:AU K (.ref C) "__setattr__"=some (some (.builtin "object.__setattr__")))(k:PySem.W.plainOver K C=true)(j:PySem.W.takerIn K C name=some none)(l:Dl K C=true)
  (m:Dv mA ns)(hsz:ns.length<=Au)
  (h:∀h',ObjM h' x dx C (λy=>if y=name then some v else mA y)->BU dx s.heap h'->Q () {s with heap:=h',toks:=s.toks+2}) :
  wpAny (model prog w) A (setAttr (.ref x) name v) Q E s:=by
 obtain⟨od,J,hl⟩:=I.look;refine PySem.W.set_plain X J hs (PySem.W.osa_open (s:={s with toks:=s.toks+1}) (r:=none) X J k j λb=>?_);obtain⟨cd,n,g⟩:=PySem.W.any_some l;have o:s.heap.get? x=some ⟨.ref C,some dx,.plain,#[]⟩:=I.obj;refine Ad (A1 (Ad (Ad (wpAny_loadPart o (Ad (BJ.here (s:={s with toks:=s.toks+1}) (PySem.W.looks_clsIn X n) ?_))))));rw[g];refine A1 (a:=some dx) (Ad (A1 (Ad ?_)));refine wpAny_nsSet1 (s:={s with toks:=s.toks+1}) I.ns λh' d c=>?_;obtain⟨oD,esD,epD,f,e,i⟩:=d.count (Dv.cons name v m);refine Ad (wpAny_lookBehind f (by rw[e];exact pastItsLine_dict (A2 i (by rw[Am];lia))) ?_);exact A1 (h _ ⟨(c.2 _ (Bc I.ne)).trans I.obj,d,I.ne⟩ c)
theorem qj4 {R:Result->Ah->Prop}{vs:List Value}{kw:List (Str×Value)}(X:K.In s.heap)(c:PySem.W.makesIn K C=true)
  (b:AU K (.ref C) "__init__"=some (some (.ref f)))(e:Cs K (.ref f)=some (.type "function"))
  (h:codeAny (model prog w) (A.under (.builtin "type.__call__" ⟨.ref C::vs,kw⟩)) (.call (.ref f) ⟨.ref (s.heap.objs.size+1)::vs,kw⟩) (PySem.W.InitBack (s.heap.objs.size+1) R)
   {s with heap:=(s.heap.push Cc).push (C9 C s.heap.objs.size)}) :
  codeAny (model prog w) A (.call (.ref C) ⟨vs,kw⟩) R s:=by
 obtain⟨hh,g,d,t,os⟩:=s;exact PySem.W.make_core (PySem.W.makes_of X c) (PySem.W.looks_findIn X b) (λa=>PySem.W.bind_fn X a e) (.inl Z) h
end
noncomputable def qcw (f:Str)(v:V):List (Str×V)->List (Str×V)
 | []=>[(f,v)]
 | (g,x)::r=>if g=f then (g,v)::r else (g,x)::qcw f v r
theorem qf3 (f g:Str)(v:V):∀fs:List (Str×V),(qcw f v fs).lookup g=if g=f then some v else fs.lookup g
 | []=>by
  show CL g [(f,v)]=_;by_cases h:g=f
  .have a:(g == f)=true:=beq_iff_eq.mpr h;simp only[CL,a,if_pos h]
  .have a:(g == f)=false:=beq_eq_false_iff_ne.mpr h;simp only[CL,a,if_neg h]
 | (k,x)::r=>by
  have b:=qf3 f g v r;rw[show qcw f v ((k,x)::r)=(if k=f then (k,v)::r else (k,x)::qcw f v r) from Z];by_cases hk:k=f
  .rw[if_pos hk];by_cases h:g=k
   .have a:(g == k)=true:=beq_iff_eq.mpr h;simp only[CL,a,if_pos (h.trans hk)]
   .have a:(g == k)=false:=beq_eq_false_iff_ne.mpr h;simp only[CL,a,if_neg (λe:g=f=>h (e.trans hk.symm))]
  .rw[if_neg hk];by_cases h:g=k
   .have a:(g == k)=true:=beq_iff_eq.mpr h;simp only[CL,a,if_neg (λe:g=f=>hk (h.symm.trans e))]
   .have a:(g == k)=false:=beq_eq_false_iff_ne.mpr h;simp only[CL,a];exact b
theorem qe7 (f:Str)(v:V):∀fs:List (Str×V),f∈(qcw f v fs).map (·.1)/\∀g,g∈fs.map (·.1)->g∈(qcw f v fs).map (·.1)
 | []=>⟨by simp[qcw],λg h=>by simp at h⟩
 | (k,x)::r=>by
  obtain⟨a,b⟩:=qe7 f v r;rw[show qcw f v ((k,x)::r)=(if k=f then (k,v)::r else (k,x)::qcw f v r) from Z];by_cases hk:k=f
  .rw[if_pos hk];subst hk;exact⟨by simp,λg h=>by simpa using h⟩
  .rw[if_neg hk];refine⟨?_,λg h=>?_⟩
   .rw[At];exact Aq _ a
   .rw[At]at h |-;rcases Ap.mp h with e|e
    .exact Ap.mpr (.inl e)
    .exact Aq _ (b g e)
theorem qi7 (f:Str)(v:V):∀fs:List (Str×V),(qcw f v fs).length<=fs.length+1
 | []=>by simp[qcw]
 | (k,x)::r=>by
  have ih:=qi7 f v r;rw[show qcw f v ((k,x)::r)=(if k=f then (k,v)::r else (k,x)::qcw f v r) from Z];by_cases hk:k=f
  .rw[if_pos hk,Am,Am];lia
  .rw[if_neg hk,Am,Am];lia
theorem RelO.some_of {v:V}{o:Option Value}(r:RelO (some v) o):∃u,o=some u/\RelV v u:=by
 cases o with|none=>exact(show False from r).elim|some u=>exact⟨u,Z,r⟩
theorem RelO.none_of {o:Option Value}(r:RelO none o):o=none:=by
 cases o with|none=>rfl|some u=>exact(show False from r).elim
theorem qr2 {v:V}{u:Value}(r:RelV v u):PySem.W.handedIn u=true:=by
 cases v with
 |non=>cases (show u=BZ from r);rfl
 |bl b=>cases (show u=Value.bool b from r);rfl
 |int i=>obtain⟨t,e⟩:=(show ∃t,u=Value.int i t from r);cases e;rfl
 |str x=>obtain⟨t,e⟩:=(show ∃t,u=Value.str x t from r);cases e;rfl
 |byt b=>obtain⟨t,e⟩:=(show ∃t,u=Value.bytes b t from r);cases e;rfl
 |flt b=>obtain⟨t,e⟩:=(show ∃t,u=Value.float b t from r);cases e;rfl
 |ref a=>cases (show u=AJ a from r);rfl
 |ty n=>cases (show u=CY n from r);rfl
section
variable {P:AH}{w:World}{H H':Hp}{h h':Heap}{a C dx:Addr}{fs fs':List (Str×V)}
theorem qhx (c:HOk P w H h)(e:H a=some (.ins C dx fs)):∃b,ObjM h a dx C b/\(∀f,RelO (fs.lookup f) (b f))/\Dv b (fs.map (·.1))/\fs.length<=1000/\H dx=some (.own a):=by obtain⟨d,z,ne,g,b,n,r,q⟩:=(show ObjOk P w H h a (.ins C dx fs) from c a _ e);exact⟨b,⟨g,n,ne⟩,r,q,z,d⟩
end
structure Cls (K:Ag)(C:Addr):Prop where
 pg:Dw K C Co=true
 hd:Dl K C=true
 po:PySem.W.plainOver K C=true
 sa:AU K (.ref C) "__setattr__"=some (some (.builtin "object.__setattr__"))
theorem Cls.get {K:Ag}{C:Addr}(c:Cls K C)(f:Str):Dw K C f=true:=c.pg
def NoAttr (K:Ag)(C:Addr)(f:Str):Prop:=AU K (.ref C) f=some none
theorem NoAttr.taker {K:Ag}{C:Addr}{f:Str}(n:NoAttr K C f):PySem.W.takerIn K C f=some none:=by unfold PySem.W.takerIn;rw[show AU K (.ref C) f=some none from n];rfl
structure Meth (K:Ag)(C:Addr)(m:Str)(f:Addr):Prop where
 at_:AU K (.ref C) m=some (some (.ref f))
 fn:PySem.W.isFn K (.ref f)=true
 kp:Bi K (.ref f)=true
section
variable {X:Cx}{pins:List (Addr×Obj)}{σ:St}{H:Hp}{s:Ah}{a C dx:Addr}{fs:List (Str×V)}{f:Str}{v:V}{A:AQ}{E:Value->Ah->Prop}
theorem qph {b:Bool}{Q:Value->Ah->Prop}(I:Inv X pins σ H s)(e:H a=some (.ins C dx fs))(c:Cls X.K C)(n:NoAttr X.K C f)(l:fs.lookup f=some v)
  (h:∀u s',Inv X pins σ H s'->RelV v u->Q u s'):wpAny (model X.prog X.w) A (getAttr (.ref a) f b) Q E s:=by
 obtain⟨i,O,r,_,_,_⟩:=qhx I.hok e;obtain⟨u,g,d⟩:=RelO.some_of (v:=v) (o:=i f) (by rw[<- l];exact r f);exact qwn I.kIn O (c.get f) c.hd n g (qr2 d) (h u _ (I.tok _) d)
theorem qj5 {m:Str}{g:Addr}{pl:Sem Bool}{Q:Value×List Value->Ah->Prop}(I:Inv X pins σ H s)(e:H a=some (.ins C dx fs))(c:Cls X.K C)(k:Meth X.K C m g)(l:fs.lookup m=none)
  (h:Q (.ref g,[.ref a]) s):wpAny (model X.prog X.w) A (getMethod (.ref a) m pl) Q E s:=by
 obtain⟨d,O,r,_,_,_⟩:=qhx I.hok e;have b:d m=none:=RelO.none_of (by rw[<- l];exact r m);exact qty I.kIn O (c.get m) k.at_ k.fn b h
theorem qpi {y:V}{u:Value}{Q:Unit->Ah->Prop}(I:Inv X pins σ H s)(e:H a=some (.ins C dx fs))(c:Cls X.K C)(n:NoAttr X.K C f)(hl:fs.length<1000)(l:RelV y u)
  (h:∀s',Inv X pins σ (upd H a (.ins C dx (qcw f y fs))) s'->Q () s'):wpAny (model X.prog X.w) A (setAttr (.ref a) f u) Q E s:=by
 obtain⟨k,O,r,i,_,j⟩:=qhx I.hok e;have hz:(fs.map (·.1)).length<=Au:=by rw[Ab,Bd];lia
 refine qwo I.kIn O c.sa c.po n.taker c.hd i hz λh' d m=>h _ ?_;have hd:∃o,h'.get? dx=some o:=let ⟨o,_,_,e',_⟩:=d.ns;⟨o,e'⟩;refine I.write (x:=a) (e:=dx) (by rw[e];exact CP) (.inr j) (λb q p z=>(m.2 b p).trans z) hd ?_;refine⟨by rw[ze O.ne];exact j,?_,O.ne,d.obj,_,d.ns,λg=>?_,λg t=>?_⟩
 .have:=qi7 f y fs;lia
 .show RelO ((qcw f y fs).lookup g) (if g=f then some u else k g);rw[qf3];by_cases q:g=f
  .rw[if_pos q,if_pos q];exact l
  .rw[if_neg q,if_neg q];exact r g
 .by_cases q:g=f
  .rw[q];exact(qe7 f y fs).1
  .refine(qe7 f y fs).2 g (i g λz=>t ?_);show (if g=f then some u else k g)=none;rw[if_neg q];exact z
theorem Inv.made (I:Inv X pins σ H s):Inv X pins σ (upd (upd H s.heap.objs.size (.own (s.heap.objs.size+1))) (s.heap.objs.size+1) (.ins C s.heap.objs.size []))
  {s with heap:=(s.heap.push Cc).push (C9 C s.heap.objs.size)}:=by
 have c:(s.heap.push Cc).get? s.heap.objs.size=some Cc:=A3 s.heap rfl;have h:((s.heap.push Cc).push (C9 C s.heap.objs.size)).get? (s.heap.objs.size+1)=some (C9 C s.heap.objs.size):=by
  have:=A3 (s.heap.push Cc) (o:=C9 C s.heap.objs.size) rfl
  rwa [C6]at this
 have i:(s.heap.push Cc).Ns s.heap.objs.size (λ_=>none):=⟨Cc,#[],_,c,Z,(λe g=>absurd g (by simp)),λ_=>rfl⟩;have f:=I.laid (a:=s.heap.objs.size) (o:=.own (s.heap.objs.size+1)) (h':=s.heap.push Cc) (t':=s.toks) (λb u q=>Aj _ q) (Ax _) ⟨_,c⟩;refine f.laid (a:=s.heap.objs.size+1) (o:=.ins C s.heap.objs.size []) (t':=s.toks) (λb u q=>Aj _ q) (Cn (C6 _ _)) ?_;have ne:s.heap.objs.size≠s.heap.objs.size+1:=AI (CC _);refine⟨by rw[ze ne,qu],Bj _,ne,h,λ_=>none,(Heap.Ns1.of_empty i).at λo q=>Aj _ q,λ_=>CP,λy d=>absurd Z d⟩
theorem qwp {prog:AH}{w:World}{env:Env}{e:Expr}{f:Str}{pos:Pos}{s:Ah}{Q:Value->Ah->Prop}(a:attributeBase e f env (eval e env)=eval e env)
  (h:wpAny (model prog w) A (eval e env) (λo b=>wpAny (model prog w) A (getAttr o f true) Q E b) E s):wpAny (model prog w) A (eval (.Attribute e f pos) env) Q E s :=
 Attribute_any_ h (by rw[arm_eval_Attribute,a])
end
def tFld (K:Ag)(ta:TE)(f:Str):TE:=λσ H Q=>ta σ H λx H1=>∃a C dx fs v,x=.ref a/\H1 a=some (.ins C dx fs)/\Cls K C/\NoAttr K C f/\fs.lookup f=some v/\Q v H1
def sFld (K:Ag)(ta tv:TE)(f:Str):TS:=λD σ H=>tv σ H λy H1=>ta σ H1 λx H2=>∃a C dx fs,x=.ref a/\H2 a=some (.ins C dx fs)/\Cls K C/\NoAttr K C f/\fs.length<1000 /\
 D.nx σ (upd H2 a (.ins C dx (qcw f y fs)))
section
variable {X:Cx}{o e value:Expr}{f:Str}{pos pos' tpos:Pos}{ta tv:TE}
theorem qak (r:PE X e ta)(p:attributeBase e f X.env (eval e X.env)=eval e X.env):PE X (.Attribute e f pos) (tFld X.K ta f):=by intro b s σ H Q I h;refine qwp p (thn (r b s σ H _ I h) λu s1 d=>?_);obtain⟨x,o,k,m,a,C,dx,fs,v,ex,i,c,n,l,q⟩:=d;subst ex;obtain rfl:u=AJ a:=m;exact qph k i c n l λu' s2 j g=>⟨v,o,j,g,q⟩
theorem qdc (j:PE X o ta)(k:PE X value tv)(hs:swapsWith value (some (.Attribute o f pos')) pos.line X.env=pure false):PS X (.Assign [.Attribute o f pos'] value pos) (sFld X.K ta tv f):=by intro b s σ H D I h;refine DN (thn (k b s σ H _ I h) λu e ⟨y,r,m,v,q⟩=>thn (j b e σ r _ m q) λov s2 d=>?_) hs;obtain⟨x,H2,i,p,a,C,dx,fs,ex,g,c,n,l,t⟩:=d;subst ex;obtain rfl:ov=AJ a:=p;exact qpi i g c n l v λs3 w=>⟨σ,_,w,t⟩
end
section
variable {X:Cx}{pins:List (Addr×Obj)}{σ:St}{H:Hp}{s:Ah}{A:AQ}{E Q:Value->Ah->Prop}{c:Value}{b:Bool}
inductive TyOf (K:Ag) (H:Hp):V->Value->Prop where
 |non:TyOf K H .non (.type "NoneType")
 |bl (x:Bool):TyOf K H (.bl x) (.type "bool")
 |int (i:Int):TyOf K H (.int i) (.type "int")
 |str (x:Str):TyOf K H (.str x) (.type "str")
 |flt (x:UInt64):TyOf K H (.flt x) (.type "float")
 |lst {a:Addr} {xs:List V} (e:H a=some (.lst xs)):TyOf K H (.ref a) (.type "list")
 |frz {a:Addr} {o:Obj} {xs:List V} (e:H a=some (.frz o (.lst xs))):TyOf K H (.ref a) (.type "list")
 |tup {a:Addr} {xs:List V} (e:H a=some (.tup xs)):TyOf K H (.ref a) (.type "tuple")
 |dK {a:Addr} {kvs:List (Key×V)} (e:H a=some (.dK kvs)):TyOf K H (.ref a) (.type "dict")
 |dT {a:Addr} {kvs:List (List Key×V)} (e:H a=some (.dT kvs)):TyOf K H (.ref a) (.type "dict")
 |ins {a C dx:Addr} {fs:List (Str×V)} (e:H a=some (.ins C dx fs)) (cl:Cls K C) (ha:AU K (.ref C) "__class__"=some (some (.builtin "object.__class__")))
   (hn:DD K (.builtin "object.__class__") "__get__"=some (some (.builtin "getset_descriptor.__get__"))) (htk:PySem.W.takesIn K (.builtin "object.__class__")=some true)
   (hm:D0 K C (.type "object")=some true):TyOf K H (.ref a) (.ref C)
theorem qr3 {x:V}{u t:Value}(I:Inv X pins σ H s)(d:RelV x u)(ty:TyOf X.K H x t)(e:DE X.K t c=some b)(h:∀tk,Q (.bool b) {s with toks:=tk}) :
  wpAny (model X.prog X.w) A (call (.builtin "isinstance") [u,c]) Q E s:=by
 cases ty with
 |non=>cases (show u=BZ from d);exact BS PySem.W.kitx_none I.kIn CP e (λz=>nomatch z) h
 |bl y=>cases (show u=Value.bool y from d);exact BS PySem.W.kitx_bool I.kIn CP e (λz=>nomatch z) h
 |int i=>obtain⟨t,q⟩:=(show ∃t,u=Value.int i t from d);cases q;exact BS PySem.W.kitx_int I.kIn CP e (λz=>nomatch z) h
 |str y=>obtain⟨t,q⟩:=(show ∃t,u=Value.str y t from d);cases q;exact BS PySem.W.kitx_str I.kIn CP e (λz=>nomatch z) h
 |flt y=>obtain⟨t,q⟩:=(show ∃t,u=Value.float y t from d);cases q;exact BS PySem.W.kitx_float I.kIn CP e (λz=>nomatch z) h
 | @lst a xs ea =>cases (show u=AJ a from d);obtain⟨_,_,n,_,f⟩:=(show ObjOk X.prog X.w H s.heap a (.lst xs) from I.hok a _ ea);exact BS PySem.W.kitx_list I.kIn ⟨_,f,Z⟩ e (λz=>nomatch z) h
 | @frz a ob xs ea =>cases (show u=AJ a from d);obtain⟨_,_,_,n,_,f⟩:=(show ObjOk X.prog X.w H s.heap a (.frz ob (.lst xs)) from I.hok a _ ea);exact BS PySem.W.kitx_list I.kIn ⟨_,f,Z⟩ e (λz=>nomatch z) h
 | @tup a xs ea =>cases (show u=AJ a from d);obtain⟨_,_,_,p⟩:=(show ObjOk X.prog X.w H s.heap a (.tup xs) from I.hok a _ ea);obtain⟨o,f,g,_⟩:=p;exact BS PySem.W.kitx_tuple I.kIn ⟨o,f,g⟩ e (λz=>nomatch z) h
 | @dK a kvs ea =>cases (show u=AJ a from d);obtain⟨_,_,vs,_,p⟩:=(show ObjOk X.prog X.w H s.heap a (.dK kvs) from I.hok a _ ea);obtain⟨o,j,ep,f,g,_⟩:=p;exact BS PySem.W.kitx_dict I.kIn ⟨o,f,g.1⟩ e (λz=>nomatch z) h
 | @dT a kvs ea =>cases (show u=AJ a from d);obtain⟨_,_,xs,_,o,j,ep,f,g,_⟩:=(show ObjOk X.prog X.w H s.heap a (.dT kvs) from I.hok a _ ea);exact BS PySem.W.kitx_dict I.kIn ⟨o,f,g.1⟩ e (λz=>nomatch z) h
 | @ins a C dx fs ea cl ha hn htk hm =>cases (show u=AJ a from d);obtain⟨mA,O,_⟩:=qhx I.hok ea;obtain⟨od,J,_⟩:=O.look;exact BS (PySem.W.kitx_own (cl.get _) cl.hd ha hn htk hm) I.kIn J e (λz=>nomatch z) h
end
end L2
namespace L2
open PySem PySem.Spec PyProof.Rows
structure Room (k:Nat)(A:AQ):Prop where
 hd:A.handled=none
 dp:A.depth+3*k+5<recursionLimit
 un:A.units+16*k+200<cLine
theorem Room.mono {j k:Nat}{A:AQ}(r:Room k A)(h:j<=k):Room j A:=⟨r.hd,by have:=r.dp;lia,by have:=r.un;lia⟩
theorem Room.deeper {k:Nat}{A:AQ}(r:Room (k+1) A)(env:Env):Room k (A.deeper env) :=
 ⟨r.hd,by have:=r.dp;show A.depth+1+3*k+5<_;lia,by have:=r.un;show A.units+3+16*k+200<_;lia⟩
theorem Room.in1 {k:Nat}{A:AQ}(r:Room (k+1) A):Room k A.in1 :=
 ⟨r.hd,by have:=r.dp;show A.depth+3*k+5<_;lia,by have:=r.un;show A.units+1+16*k+200<_;lia⟩
theorem qpj {A:AQ}{C:Addr}{us:List Value}{kw:List (Str×Value)}:(A.under (.builtin "type.__call__" ⟨.ref C::us,kw⟩)).depth=A.depth+1:=by
 first|rfl|simp[AQ.under,Code.weight,Code.isCreation,Code.isGuard,Code.isCaller,Code.frames,Code.isFrame,guardIds]
theorem qpk {A:AQ}{C:Addr}{us:List Value}{kw:List (Str×Value)}:(A.under (.builtin "type.__call__" ⟨.ref C::us,kw⟩)).units=A.units+1:=by
 first|rfl|simp[AQ.under,Code.cUnits,Code.frames,Code.isFrame]
theorem Room.make {k:Nat}{A:AQ}(r:Room (k+1) A)(C:Addr)(us:List Value)(kw:List (Str×Value)):Room k (A.under (.builtin "type.__call__" ⟨.ref C::us,kw⟩)) :=
 ⟨r.hd,by have:=r.dp;rw[qpj];lia,by have:=r.un;rw[qpk];lia⟩
theorem Room.depth {k:Nat}{A:AQ}(r:Room k A):A.depth<recursionLimit:=by have:=r.dp;lia
theorem Room.units {k:Nat}{A:AQ}(r:Room k A):A.units+64<cLine:=by have:=r.un;lia
theorem Room.units0 {k:Nat}{A:AQ}(r:Room k A):A.units<cLine:=by have:=r.un;lia
def qy3:TA:=λ_ H Q=>Q [] H
def qyg (ta:TE)(tr:TA):TA:=λσ H Q=>ta σ H λx H1=>tr σ H1 λxs H2=>Q (x::xs) H2
section
variable {X:Cx}{e:Expr}{es:List Expr}{te:TE}{t:TA}{pos:Pos}
theorem qm:PA X [] qy3:=λ_ _ _ _ H Q I h=>Calls.spliced_nil ⟨[],H,I,.nil,h⟩
theorem qh (g:PE X e te)(i:PA X es t)(hs:starEach (e::es) X.env=(false,eval e X.env)::starEach es X.env:=by rfl):PA X (e::es) (qyg te t):=by intro pos a s σ H Q I h;rw[hs];show wpAny _ _ (spliced ((false,eval e X.env)::backTo pos (starEach es X.env))) _ _ s;refine Calls.spliced_cons (thn (g a s σ H _ I h) λu d b=>?_);obtain⟨x,l,k,j,c⟩:=b;exact thn (i pos a d σ l _ k c) λus s2 ⟨xs,o,f,n,m⟩=>⟨x::xs,o,f,.cons j n,m⟩
def tTup (t:TA):TE:=λσ H Q=>t σ H λxs H1=>xs.length<=Au/\∀p,H1 p=none->Q (.ref p) (upd H1 p (.tup xs))
def tLst (t:TA):TE:=λσ H Q=>t σ H λxs H1=>xs.length<=Au/\∀p,H1 p=none->Q (.ref p) (upd H1 p (.lst xs))
theorem zt {x1}(h:PA X es t):PE X (.Tuple es x1 pos) (tTup t):=by intro c s σ H Q I i;refine wpAny_Tuple_spliced (thn (h pos c s σ H _ I i) λus a ⟨xs,f,d,r,z,q⟩=>⟨by rw[<- r.length];exact z,?_⟩);have g:f a.heap.objs.size=none:=d.hok.fresh (Ax _);refine⟨.ref a.heap.objs.size,upd f a.heap.objs.size (.tup xs),d.laid (t':=a.toks) (λb u e=>Aj _ e) (Ax _) ?_,Z,q _ g⟩;exact⟨z,us,r,⟨_,A3 _ Z,Z,_,Z⟩⟩
theorem zr (h:PA X es t):PE X (.List es pos) (tLst t):=by intro c s σ H Q I i;refine wpAny_List_spliced (thn (h pos c s σ H _ I i) λus a ⟨xs,f,d,r,z,q⟩=>⟨by rw[<- r.length];exact z,?_⟩);have g:f a.heap.objs.size=none:=d.hok.fresh (Ax _);refine⟨.ref a.heap.objs.size,upd f a.heap.objs.size (.lst xs),d.laid (t':=a.toks) (λb u e=>Aj _ e) (Ax _) ?_,Z,q _ g⟩;exact⟨z,us,0,r,A3 _ Z⟩
end
abbrev Sp:=List V->Hp->VK->XK->Prop
abbrev CXT:=List Env->Hp->Ah->XK->Value->Ah->Prop
structure Env0 (P:AH)(w:World)(K:Ag)(mg:Str->Option Value)(base:Heap)(A:AQ)(outer:List Env)(s:Ah)(H:Hp):Prop where
 frames:A.frames=some outer
 mod:Mod K mg base
 bs:∀b o,base.get? b=some o->s.heap.get? b=some o/\H b=none
 bsz:base.objs.size<=s.heap.objs.size
 funs:s.heap.FunFrames base outer
 frf:∀b∈frs outer,H b=none
 hok:HOk P w H s.heap
 bare:AllBare s.gens
def CE (outer:List Env)(P:AH)(w:World)(H:Hp)(s:Ah)(Q:VK)(u:Value)(s':Ah):Prop :=
 ∃v H',s'.os=s.os/\AllBare s'.gens/\Un (frs outer) [] H H' s.heap s'.heap/\HOk P w H' s'.heap/\RelV v u/\Q v H'
def CR (CX:CXT)(outer:List Env)(P:AH)(w:World)(H:Hp)(s:Ah)(Q:VK)(E:XK)(r:Result)(s':Ah):Prop :=
 match r with
 |.ok (.ret u)=>CE outer P w H s Q u s'
 |.ok _=>False
 |.error e=>CX outer H s E e s'
structure FnOk (P:AH)(w:World)(K:Ag)(mg:Str->Option Value)(base:Heap)(CX:CXT)(k:Nat)(f:Addr)(fd:AF)(ps:List Str)(sp:Sp):Prop where
 len:∀vs H Q E,sp vs H Q E->vs.length=ps.length
 run:∀(A:AQ)(outer:List Env)(s:Ah)(H:Hp)(args:Args)(us:List Value)(vs:List V)(Q:VK)(E:XK),Room k A->Env0 P w K mg base A outer s H->BindsTo s fd args (ps.zip us)->Vals vs us->sp vs H Q E ->
  codeAny (model P w) A (.call (.ref f) args) (CR CX outer P w H s Q E) s
theorem Env0.make {P:AH}{w:World}{K:Ag}{mg:Str->Option Value}{a:Heap}{A:AQ}{outer:List Env}{s:Ah}{H:Hp}(e:Env0 P w K mg a A outer s H)(C:Addr)(us:List Value)(kw:List (Str×Value)) :
  Env0 P w K mg a (A.under (.builtin "type.__call__" ⟨.ref C::us,kw⟩)) outer s H:=⟨by first|exact e.frames | (simpa [AQ.under,Code.envs,Code.isFrame,pushEnvs] using e.frames),e.mod,e.bs,e.bsz,e.funs,e.frf,e.hok,e.bare⟩
section
variable {X:Cx}{pins:List (Addr×Obj)}{σ:St}{H:Hp}{s s':Ah}
theorem Inv.env0 (I:Inv X pins σ H s):Env0 X.prog X.w X.K X.mg X.base X.A X.stack s H :=
 ⟨I.ok.frames,I.ok.mod,I.bs,A2 I.ok.bsz I.sz,I.stack,I.stkFree,I.hok,I.bare⟩
theorem Inv.after {Q:VK}{u:Value}(I:Inv X pins σ H s)(h:CE X.stack X.prog X.w H s Q u s'):EP X pins σ Q u s':=by obtain⟨v,f,os,a,un,c,r,q⟩:=h;obtain⟨i,g,d,t,e⟩:=s';obtain rfl:e=s.os:=os;exact⟨v,f,I.call (h':=i) (g':=g) (d':=d) (t':=t) (ch:=[]) un c a (λb z=>absurd z (by simp)),r,q⟩
end
def tCall (sp:Sp)(dvs:List V)(E:XK)(t:TA):TE:=λσ H Q=>t σ H λvs H1=>sp (vs++dvs) H1 Q E
def qyh (C:Addr)(m:Str)(sp:Sp)(dvs:List V)(E:XK)(ta:TE)(t:TA):TE:=λσ H Q=>ta σ H λx H1=>∃a dx fs,x=.ref a/\H1 a=some (.ins C dx fs)/\fs.lookup m=none /\
 t σ H1 λvs H2=>sp (x::(vs++dvs)) H2 Q E
def tMake (C:Addr)(sp:Sp)(dvs:List V)(E:XK)(t:TA):TE:=λσ H Q=>t σ H λvs H1=>∀x dx,H1 x=none->H1 dx=none->dx≠x ->
 sp (.ref x::(vs++dvs)) (upd (upd H1 dx (.own x)) x (.ins C dx [])) (λv H2=>v=.non/\Q (.ref x) H2) E
def Binds (K:Ag)(fd:AF)(ps:List Str)(ds:List Value):Prop :=
 ∀(s:Ah)(us:List Value),K.In s.heap->(us++ds).length=ps.length->BindsTo s fd ⟨us,[]⟩ (ps.zip (us++ds))
theorem Binds.all {K:Ag}{a:AF}{ps:List Str}(h:∀us:List Value,us.length=ps.length->bindArgs a ⟨us,[]⟩=pure (ps.zip us)):Binds K a ps []:=λs us _ hl=>by rw[AW]at hl |-;exact .of_eq (h us hl)
def qel (CX:CXT)(X:Cx)(E:XK):Prop:=∀(pins:List (Addr×Obj))(σ:St)(H:Hp)(s:Ah)(e:Value)(s':Ah),Inv X pins σ H s->CX X.stack H s E e s'->X.xe e s'
section
variable {X:Cx}{CX:CXT}{k:Nat}{f C:Addr}{fd:AF}{ps:List Str}{sp:Sp}{dvs:List V}{ds:List Value}{E:XK}{x m:Str}{p pos apos:Pos}{e o:Expr}{es:List Expr}{ta:TE}{t:TA}
theorem qpl {a:List (Addr×Obj)}{σ:St}{H:Hp}{s:Ah}{Q:VK}{us:List Value}{vs:List V}(F:FnOk X.prog X.w X.K X.mg X.base CX k f fd ps sp)(g:Room k X.A)(i:Binds X.K fd ps ds)(hd:Vals dvs ds)(j:qel CX X E)
  (I:Inv X a σ H s)(r:Vals vs us)(h:sp (vs++dvs) H Q E):wpAny (model X.prog X.w) X.A (call (.ref f) us) (EP X a σ Q) X.xe s:=by
 have c:Vals (vs++dvs) (us++ds):=r.append hd;have hl:(us++ds).length=ps.length:=by rw[<- c.length];exact F.len _ _ _ _ h
 refine CQ (CM (F.run X.A X.stack s H ⟨us,[]⟩ (us++ds) (vs++dvs) Q E g I.env0 (i s us I.kIn hl) c h) λr d b=>?_);cases r with
 |error e=>exact j a σ H s e d I b
 |ok fl =>
  cases fl with|ret u=>exact I.after b|next=>exact Br b|brk=>exact Br b|cont=>exact Br b
theorem zn (F:FnOk X.prog X.w X.K X.mg X.base CX k f fd ps sp)(g:Room k X.A)(j:Gl X x)(l:X.mg x=some (.ref f))(hk:Bi X.K (.ref f)=true)(i:Binds X.K fd ps ds)(hd:Vals dvs ds)(m:qel CX X E)
  (d:PA X (e::es) t)(b:(x == ("__debug__" : Str))=false:=by decide)(he:starEach (e::es) X.env=(false,eval e X.env)::starEach es X.env:=by rfl)(hpl:(backTo pos (starEach es X.env)).any (·.1)=false:=by rfl) :
  PE X (.Call (.Name x p) (e::es) [] pos) (tCall sp dvs E t):=by
 intro a s σ H Q I h;refine B1 (qeu I j l ?_ b);refine CF (h₀:=X.base) I.ok.mod.kin hk (thn (d pos a s σ H _ I h) λus s1 ⟨vs,H1,c,r,q⟩=>⟨c.kIn,?_⟩) he hpl;exact qpl F g i hd m c r q
theorem qwq {pl:Sem Bool}(M:PE X o ta)(c:Cls X.K C)(j:Meth X.K C m f)(F:FnOk X.prog X.w X.K X.mg X.base CX k f fd ps sp)(z:Room k X.A)(J:Binds X.K fd ps ds)(hd:Vals dvs ds)(L:qel CX X E)(y:PA X (e::es) t)
  (n:starEach (e::es) X.env=(false,eval e X.env)::starEach es X.env:=by rfl)(hpl:(backTo pos (starEach es X.env)).any (·.1)=false:=by rfl)
  (ht:eval (.Call (.Attribute o m apos) (e::es) [] pos) X.env=(do
   let ov <- eval o X.env
   standAt apos.atName
   let (f,first) <- holding [ov] (getMethod ov m pl)
   callWith pos f first (backTo pos (starEach (e::es) X.env)) (backToKw pos (keywordEach [] X.env))):=by rfl) :
  PE X (.Call (.Attribute o m apos) (e::es) [] pos) (qyh C m sp dvs E ta t):=by
 intro b s σ H Q I h;refine DO (pl:=pl) (thn (M b s σ H _ I h) λu p i=>?_) ht;obtain⟨x,D,g,B,a,dx,fs,ex,v,l,q⟩:=i;subst ex;obtain rfl:u=AJ a:=B;refine qj5 g v c j l ?_;refine CF (first:=[.ref a]) (h₀:=X.base) I.ok.mod.kin j.kp (thn (y pos b p σ D _ g q) λus s2 ⟨vs,H2,d,r,G⟩=>⟨d.kIn,?_⟩) n hpl;exact qpl (us:=.ref a::us) (vs:=.ref a::vs) F z J hd L d (.cons Z r) G
theorem qns {pl:Sem Bool}(v:PE X o ta)(c:Cls X.K C)(g:Meth X.K C m f)(F:FnOk X.prog X.w X.K X.mg X.base CX k f fd ps sp)(j:Room k X.A)(r:Binds X.K fd ps ds)(hd:Vals dvs ds)(t:qel CX X E)
  (n:eval (.Call (.Attribute o m apos) [] [] pos) X.env=(do
   let ov <- eval o X.env
   standAt apos.atName
   let (f,first) <- holding [ov] (getMethod ov m pl)
   callWith pos f first (backTo pos (starEach [] X.env)) (backToKw pos (keywordEach [] X.env))):=by rfl) :
  PE X (.Call (.Attribute o m apos) [] [] pos) (qyh C m sp dvs E ta qy3):=by
 intro d s σ H Q I h;refine DO (pl:=pl) (thn (v d s σ H _ I h) λu s1 e=>?_) n;obtain⟨x,H1,b,p,a,dx,fs,ex,i,l,q⟩:=e;subst ex;obtain rfl:u=AJ a:=p;refine qj5 b i c g l ?_;exact PySem.W.callWith_K0 (first:=[.ref a]) b.kIn g.kp (qpl (us:=[.ref a]) (vs:=[.ref a]) F j r hd t b (.cons Z .nil) q)
structure Mk (K:Ag)(C f:Addr):Prop where
 makes:PySem.W.makesIn K C=true
 init:AU K (.ref C) "__init__"=some (some (.ref f))
 fn:PySem.W.isFn K (.ref f)=true
 kp:Bi K (.ref C)=true
theorem qtz {b:List (Addr×Obj)}{σ:St}{H:Hp}{s:Ah}{Q:VK}{us:List Value}{vs:List V}(M:Mk X.K C f)(F:FnOk X.prog X.w X.K X.mg X.base CX k f fd ps sp)(l:Room (k+1) X.A)(q:Binds X.K fd ps ds)(hd:Vals dvs ds)
  (t:qel CX X E)(I:Inv X b σ H s)(r:Vals vs us)
  (h:∀x dx,H x=none->H dx=none->dx≠x->sp (.ref x::(vs++dvs)) (upd (upd H dx (.own x)) x (.ins C dx [])) (λv o=>v=.non/\Q (.ref x) o) E) :
  wpAny (model X.prog X.w) X.A (call (.ref C) us) (EP X b σ Q) X.xe s:=by
 have g:=h (s.heap.objs.size+1) s.heap.objs.size (I.hok.fresh (C7 _)) (I.hok.fresh (Ax _)) (AI (CC _));have c:=Inv.made (C:=C) I;have d:Vals (V.ref (s.heap.objs.size+1)::(vs++dvs)) (AJ (s.heap.objs.size+1)::(us++ds)):=.cons rfl (r.append hd);have hl:(AJ (s.heap.objs.size+1)::us++ds).length=ps.length:=by have e:=d.length;rw[F.len _ _ _ _ g]at e;exact e.symm
 refine CQ (qj4 (f:=f) I.kIn M.makes M.init (beq_iff_eq.mp M.fn) (CM (F.run _ X.stack _ _ ⟨AJ (s.heap.objs.size+1)::us,[]⟩ (AJ (s.heap.objs.size+1)::(us++ds)) _ _ E (l.make C us [])
  (c.env0.make C us []) (q _ (AJ (s.heap.objs.size+1)::us) c.kIn hl) d g) λr n a=>?_))
 cases r with
 |error e=>exact t b σ _ _ e n c a
 |ok fl =>
  cases fl with
  |ret u =>obtain⟨v,i,p,y,j,m⟩:=c.after a;subst j;exact⟨y,⟨V.ref (s.heap.objs.size+1),i,p,Z,m⟩⟩
  |next=>exact Br a
  |brk=>exact Br a
  |cont=>exact Br a
theorem qms (M:Mk X.K C f)(F:FnOk X.prog X.w X.K X.mg X.base CX k f fd ps sp)(g:Room (k+1) X.A)(j:Gl X x)(l:X.mg x=some (.ref C))(i:Binds X.K fd ps ds)(hd:Vals dvs ds)(m:qel CX X E)
  (d:PA X (e::es) t)(b:(x == ("__debug__" : Str))=false:=by decide)(he:starEach (e::es) X.env=(false,eval e X.env)::starEach es X.env:=by rfl)(hpl:(backTo pos (starEach es X.env)).any (·.1)=false:=by rfl) :
  PE X (.Call (.Name x p) (e::es) [] pos) (tMake C sp dvs E t):=by
 intro a s σ H Q I h;refine B1 (qeu I j l ?_ b);refine CF (h₀:=X.base) I.ok.mod.kin M.kp (thn (d pos a s σ H _ I h) λus s1 ⟨vs,H1,c,r,q⟩=>⟨c.kIn,?_⟩) he hpl;exact qtz M F g i hd m c r q
end
def PK (X:Cx)(kws:List Keyword)(t:TA):Prop :=
 ∀(pos:Pos)(pins:List (Addr×Obj))(s:Ah)(σ:St)(H:Hp)(Q:List V->Hp->Prop),Inv X pins σ H s->t σ H Q->wpAny (model X.prog X.w) X.A (evalAll ((backToKw pos (keywordEach kws X.env)).map (·.2))) (AP X pins σ Q) X.xe s
section
variable {X:Cx}{CX:CXT}{k:Nat}{f C:Addr}{fd:AF}{ps ks:List Str}{sp:Sp}{E:XK}{x m:Str}{p pos apos kpos:Pos}{e o:Expr}{es:List Expr}{kws:List Keyword}{te ta:TE}{t tk:TA}{nm:Option Str}
theorem qy4:PK X [] qy3:=λ_ _ _ _ H Q I h=>wpAny_evalAll_nil ⟨[],H,I,.nil,h⟩
theorem qwr (f:PE X e te)(g:PK X kws t):PK X (⟨nm,e,kpos⟩::kws) (qyg te t):=by intro pos a s σ H Q I h;show wpAny _ _ (evalAll ((do let v <- eval e X.env;standAt pos;pure v)::(backToKw pos (keywordEach kws X.env)).map (·.2))) _ _ s;refine wpAny_evalAll_cons (Ad (thn (f a s σ H _ I h) λu c ⟨x,k,j,i,b⟩=>Ad (Df (A1 ?_))));exact thn (g pos a c σ k _ j b) λus s2 ⟨xs,n,d,m,l⟩=>⟨x::xs,n,d,.cons i m,l⟩
structure KBinds (K:Ag)(fd:AF)(ps ks:List Str)(g:List Value->List Value->List Value)(gV:List V->List V->List V):Prop where
 to:∀(s:Ah)(us ws:List Value),K.In s.heap->(g us ws).length=ps.length->BindsTo s fd ⟨us,ks.zip ws⟩ (ps.zip (g us ws))
 rel:∀{vs:List V}{us:List Value}{zs:List V}{ws:List Value},Vals vs us->Vals zs ws->Vals (gV vs zs) (g us ws)
variable {g:List Value->List Value->List Value}{gV:List V->List V->List V}
end
structure FnScope (N P:List Str)(sc:Scope):Prop where
 kind:sc.kind=.function
 co:sc.isCoroutine=false
 gen:sc.isGenerator=false
 nd:N.Nodup
 pre:N.take P.length=P
 par:∀x∈P,sc.names.lookup x=some .local\/sc.names.lookup x=some .cell
 nofree:∀y∈sc.names,y.2 ≠ .free
theorem qlx {a:Str->Option Bq}{x:Str}:∀{binds:List (Str×Value)}{m:Str->Option Value},(∀v,(x,v)∉binds)->bindL a binds m x=m x
 | [],_,_=>rfl
 | (n,v)::r,m,h=>by
  unfold bindL;rw[qlx λw b=>h w (Aq _ b)];split
  .have:x≠n:=by rintro rfl;exact h v Ak
   simp[this]
  .rfl
theorem qly {a:Str->Option Bq}{x:Str}:∀{binds:List (Str×Value)}{m:Str->Option Value},(∀v,(x,v)∉binds)->bindC a binds m x=m x
 | [],_,_=>rfl
 | (n,v)::r,m,h=>by
  unfold bindC;rw[qly λw b=>h w (Aq _ b)];split
  .rfl
  .have:x≠n:=by rintro rfl;exact h v Ak
   simp[this]
theorem qlz {a:Str->Option Bq}{x:Str}{v:Value}:∀{P:List Str}{vs:List Value}{i:Nat}{m:Str->Option Value},P.Nodup->P[i]?=some x->vs[i]?=some v->a x=some .local ->
  bindL a (P.zip vs) m x=some v
 | [],_,_,_,_,h,_,_=>by simp at h
 |_::_,[],_,_,_,_,h,_=>by simp at h
 |p::P,w::vs,0,m,nd,h1,h2,hk=>by simp at h1 h2;subst h1;subst h2;show bindL a ((p,w)::P.zip vs) m p=_;unfold bindL;rw[qlx λv b=>(AK.mp nd).1 (List.of_mem_zip b).1,if_pos hk];simp
 |p::P,w::vs,i+1,m,nd,h1,h2,hk=>by show bindL a ((p,w)::P.zip vs) m x=_;unfold bindL;exact qlz (i:=i) (AK.mp nd).2 (by simpa using h1) (by simpa using h2) hk
theorem ql0 {a:Str->Option Bq}{x:Str}{v:Value}:∀{P:List Str}{vs:List Value}{i:Nat}{m:Str->Option Value},P.Nodup->P[i]?=some x->vs[i]?=some v->a x≠some .local ->
  bindC a (P.zip vs) m x=some v
 | [],_,_,_,_,h,_,_=>by simp at h
 |_::_,[],_,_,_,_,h,_=>by simp at h
 |p::P,w::vs,0,m,nd,h1,h2,hk=>by simp at h1 h2;subst h1;subst h2;show bindC a ((p,w)::P.zip vs) m p=_;unfold bindC;rw[qly λv b=>(AK.mp nd).1 (List.of_mem_zip b).1,if_neg hk];simp
 |p::P,w::vs,i+1,m,nd,h1,h2,hk=>by show bindC a ((p,w)::P.zip vs) m x=_;unfold bindC;exact ql0 (i:=i) (AK.mp nd).2 (by simpa using h1) (by simpa using h2) hk
noncomputable def qe8 (N:List Str)(vs:List V):St:=vs.map some++List.replicate (N.length-vs.length) none
noncomputable def qlj (CX:CXT)(P:AH)(w:World)(K:Ag)(mg:Str->Option Value)(base:Heap)(N:List Str)(qual:Str)(scope:Scope)(f:Addr)(cd:Value)(A:AQ)(outer:List Env)(s:Ah)(H:Hp)(E:XK):Cx where
 prog:=P
 w:=w
 K:=K
 mg:=mg
 base:=base
 A:=A.deeper (envOfC qual scope s.heap.objs.size f cd)
 N:=N
 s₀:=s
 H₀:=H
 env:=envOfC qual scope s.heap.objs.size f cd
 outer:=outer
 stack:=envOfC qual scope s.heap.objs.size f cd::outer
 ex:=[]
 calm:=true
 fn:=λ_=>true
 pn:=[]
 xe:=λe s'=>wpAny (model P w) (A.deeper (envOfC qual scope s.heap.objs.size f cd)) (leaving (envOfC qual scope s.heap.objs.size f cd) e) (λ_ s''=>CX outer H s E e s'') (λe' s''=>CX outer H s E e' s'') s'
theorem qnt {a:Scope}{n:Nat}{x:Str}(h:a.names.lookup x=some .cell):∃c,(cellsFrom n a.names []).lookup x=some c:=by have q:=PySem.W.cellsFrom_some a.names n [] (.inl h);exact Cg.mp q
theorem qr4 {CX:CXT}{P:AH}{w:World}{K:Ag}{mg:Str->Option Value}{l:Heap}{N ps:List Str}{j:Str}{scope:Scope}{f:Addr}{D:Value}{A:AQ}{outer:List Env}{s G:Ah}{H:Hp}{E:XK}{us:List Value}{vs:List V}
  (S:FnScope N ps scope)(hd:A.handled=none)(g:Env0 P w K mg l A outer s H)(hl:vs.length=ps.length)(r:Vals vs us)
  (x:InCallC s s.heap.objs.size (bindL (envOfC j scope s.heap.objs.size f D).kindOf (ps.zip us) λ_=>none) (cellsFrom (s.heap.objs.size+1) scope.names []) (bindC (envOfC j scope s.heap.objs.size f D).kindOf (ps.zip us) λ_=>none) G) :
  Inv (qlj CX P w K mg l N j scope f D A outer s H E) [] (qe8 N vs) H G:=by
 have hpl:ps.length<=N.length:=by have:=congrArg DB S.pre;rw[A6]at this;lia
 obtain⟨C,tk,rfl,hk⟩:=x.done;have o:∀b:Addr,b∉(qlj CX P w K mg l N j scope f D A outer s H E).ex:=λb z=>absurd (show b∈([]:List Addr) from z) (by simp);refine⟨⟨g.mod,S.kind,Z,Z,Ax _,λy z c C d=>?_,λy m=>?_,λy c _ h=>?_,λ_=>hd,AQ.frames_deeper g.frames,.inr ⟨Z,Z⟩,λb z=>absurd z (o b),g.bs,g.bsz,λb _ _=>o b,λb z=>absurd z (o b),g.funs,g.frf⟩,
  rfl,g.bare,Un.kept hk,⟨_,x.toInCall.ns,λi y v C d h3=>?_⟩,λy c h=>⟨_,x.cell y c h⟩,g.hok.fresh (Ax _),λy c h=>?_,λp t=>absurd (show p∈([]:List (Addr×Obj)) from t) (by simp),g.hok.kept hk,?_⟩
 .exact name_of_addr x.apart (Cu C) (Cu d)
 .have m:scope.names.lookup y=some .cell\/scope.names.lookup y=some .free:=m;rcases m with m|m
  .exact qnt m
  .exact absurd rfl (S.nofree _ (Cu m))
 .exact Nat.le_of_lt (x.above y c (Cu h))
 .have B:i<vs.length:=by
   unfold qe8 at d
   by_cases B:i<vs.length
   .exact B
   .rw[AS (by simpa using B)]at d;rw[List.getElem?_replicate]at d;split at d <;>cases d
  have J:vs[i]?=some v:=by
   unfold qe8 at d;rw[Ba (by simpa using B),Af]at d;cases e:vs[i]? with|none=>rw[e]at d;cases d|some a=>rw[e]at d;cases d;rfl
  obtain⟨u,I,L⟩:=r.get J
  have t:ps[i]?=some y:=by rw[<- S.pre,List.getElem?_take_of_lt (by lia)];exact C
  have F:ps.Nodup:=by rw[<- S.pre];exact S.nd.sublist (Cd _ _)
  refine⟨u,L,?_⟩
  rcases S.par y (Al t) with k|k
  .exact .inl ⟨k,qlz F t I k⟩
  .obtain⟨c,e⟩:=qnt (n:=s.heap.objs.size+1) k;refine .inr ⟨.inl k,c,e,?_⟩;have q:=x.cell y c e;rw[ql0 F t I (by show scope.names.lookup y≠_;rw[k];decide)]at q;exact q
 .exact g.hok.fresh (Nat.le_of_lt (x.above y c (Cu h)))
 .unfold qe8;show _=N.length;rw[Ai,Ab,List.length_replicate];lia
theorem qqu {CX:CXT}{P:AH}{w:World}{K:Ag}{mg:Str->Option Value}{base:Heap}{k:Nat}{f:Addr}{name a:Str}{g:Arguments}{h:List Stmt}{scope:Scope}{L kV z U c ct Y:Value}{G od:Option Addr}
  {R:Array (Option Value)}{N ps:List Str}{sp:Sp}(lk:K.lookup f=some ⟨Y,od,.func (Bt name a g h scope L kV z U G c ct),R⟩)(M:Ci K c a=true)(S:FnScope N ps scope)
  (len:∀vs H Q E,sp vs H Q E->vs.length=ps.length)
  (j:∀(A:AQ)(outer:List Env)(s:Ah)(H:Hp)(vs:List V)(Q:VK)(E:XK),Room k (A.deeper (envOfC a scope s.heap.objs.size f c))->sp vs H Q E ->
   ∃t,PSs (qlj CX P w K mg base N a scope f c A outer s H E) h t/\t {nx:=λ_ d=>Q .non d,rt:=Q} (qe8 N vs) H) :
  FnOk P w K mg base CX (k+1) f (Bt name a g h scope L kV z U G c ct) ps sp:=by
 refine⟨len,λA outer s H args us vs Q E B i hb r p=>?_⟩;have hl:=len _ _ _ _ p;have T:K.In s.heap:=i.mod.kin.keeps λb o e=>(i.bs b o e).1;have O:s.heap.NoLimit:=i.mod.nolimit.keeps λb o e=>(i.bs b o e).1;have l:∀y∈ps.zip us,scope.names.lookup y.1=some .local\/(scope.names.lookup y.1=some .cell/\((cellsFrom (s.heap.objs.size+1) scope.names []).lookup y.1).isSome=true):=λ⟨n,v⟩ X=>by
  rcases S.par n (List.of_mem_zip X).1 with q|q
  .exact .inl q
  .exact .inr ⟨q,PySem.W.cellsFrom_some _ _ _ (.inl q)⟩
 refine codeAny_call_function B.depth (T _ _ lk) rfl S.co S.gen rfl (PySem.W.codeRec_of T M) (hb _ _ _ _ ?_);refine wpAny_newFunctionEnv_cells S.kind l λenv he F x=>?_;subst he;refine⟨O.keeps x.toInCall.keep,codeAny_func ?_⟩;obtain⟨t,ht,hq⟩:=j A outer s H vs Q E (B.deeper _) p;have I:Inv (qlj CX P w K mg base N a scope f c A outer s H E) [] (qe8 N vs) H F:=qr4 S B.hd i hl r x;refine BQ (ht [] F (qe8 N vs) H _ I hq) (λfl C hs=>?_) λe C hs=>hs;have m:∀{σ':St}{d:Hp}{v:V}{u:Value},Inv (qlj CX P w K mg base N a scope f c A outer s H E) [] σ' d C->RelV v u->Q v d->CE outer P w H s Q u C :=
  λ{σ' d v u} J D q=>⟨v,d,J.os,J.bare,J.base,J.hok,D,q⟩
 cases fl with
 |ret u =>obtain⟨v,σ',d,J,D,q⟩:=hs;exact m J D q
 |next =>obtain⟨σ',d,J,q⟩:=hs;exact m (v:=V.non) (u:=BZ) J rfl q
 |brk =>obtain⟨_,_,_,q⟩:=hs;exact Br q
 |cont =>obtain⟨_,_,_,q⟩:=hs;exact Br q
end L2
namespace L2
open PySem PySem.Spec PyProof.Rows
section
variable {X:Cx}{x:Str}{p pos:Pos}{e:Expr}{es:List Expr}{t:TA}{id T:String}{r:List V->Hp->VK->Prop}
def tCB (r:List V->Hp->VK->Prop)(t:TA):TE:=λσ H Q=>t σ H λvs H1=>r vs H1 Q
theorem zo (l:qek X (.builtin id) r)(m:Gl X x)(n:X.mg x=none)(f:bootBuiltins x=some (.builtin id))(d:PA X (e::es) t)(k:x ≠ "__name__" := by decide)(hdb:(x == ("__debug__" : Str))=false:=by decide)
  (he:starEach (e::es) X.env=(false,eval e X.env)::starEach es X.env:=by rfl)(hpl:(backTo pos (starEach es X.env)).any (·.1)=false:=by rfl):PE X (.Call (.Name x p) (e::es) [] pos) (tCB r t):=by
 intro a s σ H Q I h;refine B1 (qey I m n f ?_ k hdb);exact DR (thn (d pos a s σ H _ I h) λus c ⟨vs,j,i,g,b⟩=>l a c σ j vs us Q i g b) he hpl
theorem qbs (l:qek X (.type T) r)(m:Gl X x)(n:X.mg x=none)(f:bootBuiltins x=some (.type T))(d:PA X (e::es) t)(k:x ≠ "__name__" := by decide)(hdb:(x == ("__debug__" : Str))=false:=by decide)
  (he:starEach (e::es) X.env=(false,eval e X.env)::starEach es X.env:=by rfl)(hpl:(backTo pos (starEach es X.env)).any (·.1)=false:=by rfl):PE X (.Call (.Name x p) (e::es) [] pos) (tCB r t):=by
 intro a s σ H Q I h;refine B1 (qey I m n f ?_ k hdb);exact BD (thn (d pos a s σ H _ I h) λus c ⟨vs,j,i,g,b⟩=>l a c σ j vs us Q i g b) he hpl
end
end L2
namespace HT
open PySem PyProof.Rows
section
open PySem.SeqAt
open PySem.AutoSeq1 (wpAny_loadPart')
open PySem.MeetsSeq PySem.MeetsSeq2 PySem.MeetsSeq3
end
section
variable {prog:AH}{w:World}{A:AQ}{E:Value->Ah->Prop}{s:Ah}
noncomputable def sIx (n d:Nat):Option Int->Nat
 |none=>d
 |some v=>if v<0 then (v+(n:Int)).toNat else min v.toNat n
end
end HT
namespace L2
open PySem PySem.Spec PyProof.Rows
abbrev TO:=St->Hp->(Option Int->Hp->Prop)->Prop
def PO (X:Cx)(e:Option Expr)(t:TO):Prop :=
 ∀(pins:List (Addr×Obj))(s:Ah)(σ:St)(H:Hp)(Q:Option Int->Hp->Prop),Inv X pins σ H s->t σ H Q ->
  wpAny (model X.prog X.w) X.A (evalPart e X.env) (λu s'=>∃o H',Inv X pins σ H' s'/\IsPart u o/\Q o H') X.xe s
noncomputable def qws:TO:=λ_ H Q=>Q none H
noncomputable def tPart (t:TE):TO:=λσ H Q=>t σ H λx H1=>∃i,x=.int i/\Q (some i) H1
section
variable {X:Cx}{e:Expr}{te:TE}{lo hi:Option Expr}{tl th:TO}{pos p2:Pos}
theorem qct:PO X none qws:=by intro pins s σ H Q I h;rw[evalPart_none];exact A1 ⟨none,H,I,.none,h⟩
theorem qa7 (h:PE X e te):PO X (some e) (tPart te):=by intro a s σ H Q I j;rw[evalPart_some];refine thn (h a s σ H _ I j) λu s1 b=>?_;obtain⟨x,g,f,d,c⟩:=b;obtain⟨i,rfl,q⟩:=c;obtain⟨t,rfl⟩:=d;exact⟨some i,g,f,.int i t,q⟩
def SlR (X:Cx)(r:V->Option Int->Option Int->Hp->VK->Prop):Prop :=
 ∀(pins:List (Addr×Obj))(s:Ah)(σ:St)(H:Hp)(x:V)(v vl vu:Value)(lo hi:Option Int)(sl:Addr)(Q:VK),Inv X pins σ H s->RelV x v->s.heap.IsSliceOf sl vl vu .none->IsPart vl lo->IsPart vu hi->r x lo hi H Q ->
  ∃T id,typeLookup (.type T) "__getitem__"=pure (some (.builtin id))/\s.TypeIs v T/\wpAny (model X.prog X.w) X.A (getItem v (.ref sl)) (EP X pins σ Q) X.xe s
def tSl (r:V->Option Int->Option Int->Hp->VK->Prop)(te:TE)(tl th:TO):TE:=λσ H Q=>te σ H λx H1=>tl σ H1 λl H2=>th σ H2 λu H3=>r x l u H3 Q
theorem qba {r:V->Option Int->Option Int->Hp->VK->Prop}(z:SlR X r)(M:PE X e te)(hl:PO X lo tl)(t:PO X hi th):PE X (.Subscript e (.Slice lo hi none p2) pos) (tSl r te tl th):=by intro a s σ H Q I h;refine Subscript_ (thn (M a s σ H _ I h) λv k d=>?_);obtain⟨x,D,C,B,j⟩:=d;refine wpAny_Slice (thn (hl a k σ D _ C j) λg n ⟨l,J,m,pl,E⟩=>thn (t a n σ J _ m E) λf c d=>?_);obtain⟨u,i,K,o,F⟩:=d;rw[evalPart_none];refine A1 ?_;have p:Inv X a σ i {c with heap:=c.heap.push {cls:=.type "slice",data:=.fields #[g,f,.none]} }:=K.kept (t':=c.toks) λb ob q=>Aj _ q;obtain⟨T,id,G,y,L⟩:=z a {c with heap:=c.heap.push {cls:=.type "slice",data:=.fields #[g,f,.none]} } σ i x v g f l u c.heap.objs.size Q p B (Heap.IsSliceOf.new ..) pl o F;show wpAny (model X.prog X.w) X.A (subscriptTail e (.Slice lo hi none p2) v (.ref c.heap.objs.size)) (EP X a σ Q) X.xe {c with heap:=c.heap.push {cls:=.type "slice",data:=.fields #[g,f,.none]} };exact tail_any (ops:=[.ref c.heap.objs.size,v]) y G L (by with_unfolding_all rfl)
noncomputable def qe9 (xs:List V)(lo hi:Option Int):List V:=(xs.drop (HT.sIx xs.length 0 lo)).take (HT.sIx xs.length xs.length hi-HT.sIx xs.length 0 lo)
theorem qi8 (xs:List V)(lo a:Option Int):(qe9 xs lo a).length<=xs.length:=by unfold qe9;rw[A6,Bv];lia
end
end L2
namespace L2
open PySem PySem.Spec PyProof.Rows
noncomputable def ixN (n:Nat)(i:Int):Option Nat:=if 0<=i then (if i<n then some i.toNat else none) else if -(n:Int)<=i then some (i+n).toNat else none
noncomputable def atI {α:Type}(xs:List α)(i:Int):Option α:=(ixN xs.length i).bind λj=>xs[j]?
theorem qqv {n:Nat}{i:Int}{j:Nat}(h:ixN n i=some j):seqIndex? i n=some j/\j<n /\ -(n:Int)<=i/\i<n:=by
 unfold ixN at h;by_cases b:0<=i
 .rw[if_pos b]at h;by_cases a:i<n
  .rw[if_pos a]at h;have e:i.toNat=j:=A5 h;exact⟨by rw[seqIndex_of b a,e],by lia,by lia,a⟩
  .rw[if_neg a]at h;cases h
 .rw[if_neg b]at h;by_cases a : -(n:Int)<=i
  .rw[if_pos a]at h;have e:(i+n).toNat=j:=A5 h;exact⟨by rw[seqIndex_neg (by lia) a,e],by lia,a,by lia⟩
  .rw[if_neg a]at h;cases h
theorem qmt {α:Type}{xs:List α}{i:Int}{v:α}(h:atI xs i=some v):∃j,seqIndex? i xs.length=some j/\xs[j]?=some v/\j<xs.length /\ -(xs.length:Int)<=i/\i<xs.length:=by
 unfold atI at h;cases e:ixN xs.length i with
 |none=>rw[e]at h;cases h
 |some j =>rw[e]at h;obtain⟨d,a,b,c⟩:=qqv e;exact⟨j,d,h,a,b,c⟩
theorem qbp {α:Type}{xs:List α}{j:Nat}{v:α}(h:xs[j]?=some v):atI xs (j:Int)=some v:=by
 have hj:j<xs.length:=(Ac.mp h).1;have e:ixN xs.length (j:Int)=some j:=by unfold ixN;rw[if_pos (by lia),if_pos (by lia)];simp
 unfold atI;rw[e];exact h
def qwt (b:Expr):Prop:=∀o i,subscripted b false o i=operate [o,i] (getItem o i)
def IxR (X:Cx)(r:R2):Prop :=
 ∀(value slice:Expr)(pins:List (Addr×Obj))(s:Ah)(σ:St)(H:Hp)(x y:V)(v u:Value)(Q:VK),Inv X pins σ H s->RelV x v->RelV y u->r x y H Q ->
  subscripted slice false v u=operate [v,u] (getItem v u)->wpAny (model X.prog X.w) X.A (subscriptTail value slice v u) (EP X pins σ Q) X.xe s
def MtR (X:Cx)(id:String)(r:V->List V->Hp->VK->Prop):Prop :=
 ∀(pins:List (Addr×Obj))(s:Ah)(σ:St)(H:Hp)(x:V)(xs:List V)(v:Value)(us:List Value)(Q:VK),Inv X pins σ H s->RelV x v->Vals xs us->r x xs H Q ->
  wpAny (model X.prog X.w) X.A (call (.builtin id) (v::us)) (EP X pins σ Q) X.xe s
section
variable {X:Cx}{a b:Expr}{ta tb:TE}{pos:Pos}
theorem ja {r:R2}(g:IxR X r)(e:PE X a ta)(l:PE X b tb)(hs:qwt b):PE X (.Subscript a b pos) (tOp r ta tb):=by intro c s σ H Q I h;exact Subscript_ (qy2 e l I h λv u f x y k d i j q=>g a b c f σ k x y v u Q d i j q (hs _ _))
def rIxL (K:Ag):R2:=λx y H Q=>∃p xs i v,x=.ref p/\y=.int i/\SqL K H p xs/\atI xs i=some v/\Q v H
def rIxT (K:Ag):R2:=λx y H Q=>∃p xs i v,x=.ref p/\y=.int i/\SqT K H p xs/\atI xs i=some v/\Q v H
def rIxS:R2:=λx y H Q=>∃z i c,x=.str z/\y=.int i/\z.length<=Au/\atI z.cps.toList i=some c/\Q (.str ⟨#[c]⟩) H
theorem jc:IxR X (rIxL X.K):=by
 intro value slice a s σ H x y v u Q I k n h hs;obtain⟨p,xs,i,z,rfl,rfl,B,C,q⟩:=h;cases k;obtain⟨t,rfl⟩:=n;obtain⟨its,r,pl,hz⟩:=I.list B;obtain⟨j,b,m,h3,o,l⟩:=qmt C;obtain⟨w,e,f⟩:=r.get m;have hl:=r.length;have hn:=qj3;have c:EP X a σ Q w s:=⟨z,H,I,f,q⟩;by_cases g:0<=i
 .have d:i.toNat=j:=by
   rw[seqIndex_of g l]at b
   exact A5 b
  exact item_listR pl.isList g (by lia) (by rw[d];simpa using e) c hs
 .have d:(i+(its.toArray.size:Int)).toNat=j:=by
   rw[seqIndex_neg (by lia) o]at b
   rw[An,<- hl]
   exact A5 b
  exact subscriptTail_builtinR (x:=w) pl.isList.typeIs slot_list_getitem.lookup
   (wpAny_getItem_list_neg (Q:=λr A=>r=w/\EP X a σ Q r A) pl.isList (by lia) (by rw[An] <;>lia) (by lia) (by rw[d];simpa using e) ⟨Z,c⟩) hs
theorem jb:IxR X (rIxT X.K):=by
 intro value slice a s σ H x y v u Q I e k h hs;obtain⟨p,xs,i,z,rfl,rfl,m,n,q⟩:=h;cases e;obtain⟨t,rfl⟩:=k;obtain⟨its,r,pl,hz⟩:=I.tuple m;obtain⟨j,f,g,h3,h4,h5⟩:=qmt n;obtain⟨w,d,c⟩:=r.get g;have hl:=r.length;have hn:=qj3;have b:EP X a σ Q w s:=⟨z,H,I,c,q⟩;exact subscriptTail_builtinR (x:=w) pl.typeIs slot_tuple_getitem.lookup
  (getItem_tuple (j:=j) (Q:=λr l=>r=w/\EP X a σ Q r l) pl (by lia) (by lia) (by rw[An,<- hl];exact f) (by simpa using d) ⟨Z,b⟩) hs
theorem qt0:IxR X rIxS:=by
 intro value slice pins s σ H x y v u Q I d g h hs;obtain⟨z,i,c,rfl,rfl,hz,m,q⟩:=h;obtain⟨t,rfl⟩:=d;obtain⟨t',rfl⟩:=g;obtain⟨j,a,f,h3,k,e⟩:=qmt m;have hl:z.cps.toList.length=z.length:=by simp[Str.length]
 rw[hl]at a k e;have hn:=qj3;exact tail_any (typeIs_str s z t) slot_str_getitem.lookup (getItem_str (c:=c) (by have l:decide (i < -(2 ^ 63:Int))=false:=decide_eq_false (by lia);have b:decide (i ≥ 2 ^ 63)=false:=decide_eq_false (by lia);rw[l,b,Bool.or_false]) (by rw[a];simpa using f) ⟨.str ⟨#[c]⟩,H,I.tok _,⟨_,Z⟩,q⟩) hs
theorem qpm (its:List Value)(n j:Nat)(u:Value):BL (·.setIfInBounds j u) {cls:=.type "list",data:=.seq its.toArray n}={cls:=.type "list",data:=.seq (its.set j u).toArray n}:=by simp[BL]
theorem Inv.lst {a:List (Addr×Obj)}{σ:St}{H:Hp}{s:Ah}{p:Addr}{xs:List V}(I:Inv X a σ H s)(h:H p=some (.lst xs)) :
  ∃(its:List Value)(n:Nat),Vals xs its/\s.heap.get? p=some {cls:=.type "list",data:=.seq its.toArray n}/\xs.length<=Au:=by
 obtain⟨z,its,n,r,e⟩:=I.hok p _ h;exact⟨its,n,r,e,z⟩
theorem Inv.lstUpd {a:List (Addr×Obj)}{σ:St}{H:Hp}{s:Ah}{p:Addr}{xs ys:List V}{its its':List Value}{n c:Nat}{f:Obj->Obj}(I:Inv X a σ H s)(h:H p=some (.lst xs))
  (d:s.heap.get? p=some {cls:=.type "list",data:=.seq its.toArray n})(hf:f {cls:=.type "list",data:=.seq its.toArray n}={cls:=.type "list",data:=.seq its'.toArray c})(r:Vals ys its')(hz:ys.length<=Au)(t:Nat) :
  Inv X a σ (upd H p (.lst ys)) {s with heap:=s.heap.update p f,toks:=t}:=by
 have e:(s.heap.update p f).get? p=some {cls:=.type "list",data:=.seq its'.toArray c}:=by rw[BM f d (by rw[hf] <;>rfl),hf]
 refine I.write (x:=p) (e:=p) (by rw[h];trivial) (.inl Z) (λb u g q=>(BH _ _ (Bc g)).trans q) ⟨_,e⟩ ?_;exact⟨hz,its',c,r,e⟩
noncomputable def rSetL:V->V->V->Hp->(Hp->Prop)->Prop:=λo i v H Q=>∃p xs k j,o=.ref p/\i=.int k/\H p=some (.lst xs)/\ixN xs.length k=some j/\Q (upd H p (.lst (xs.set j v)))
theorem qnu:PSet X rSetL:=by
 intro b s σ H o i v ov iv u Q I w x y h;obtain⟨p,xs,k,j,rfl,rfl,e,m,q⟩:=h;cases w;obtain⟨t,rfl⟩:=x;obtain⟨its,n,r,c,hz⟩:=I.lst e;obtain⟨a,h2,d,g⟩:=qqv m;have hl:=r.length;have hn:=qj3;have f:Inv X b σ (upd H p (.lst (xs.set j v))) {s with heap:=s.heap.update p (BL (·.setIfInBounds j u))} :=
  I.lstUpd e c (qpm its n j u) (r.set y j) (by rw[Bz];exact hz) s.toks
 by_cases l:0<=k
 .have hk:k.toNat=j:=by
   rw[seqIndex_of l g]at a
   exact A5 a
  exact PySem.W.ki_setAt c l (by lia) (by rw[An,<- hl];exact g) (by rw[hk];exact⟨_,f,q⟩)
 .have hk:(k+(its.toArray.size:Int)).toNat=j:=by
   rw[seqIndex_neg (by lia) d]at a
   rw[An,<- hl]
   exact A5 a
  exact PySem.W.ki_setBack c (by lia) (by rw[An,<- hl];exact d) (by lia) (by rw[hk];exact⟨_,f,q⟩)
theorem qmu (lo a:Option Int)(n:Nat):(sliceBounds lo a none n).1=((HT.sIx n 0 lo:Nat):Int)/\(sliceBounds lo a none n).2.1=((HT.sIx n n a:Nat):Int)/\(sliceBounds lo a none n).2.2=1:=by
 refine⟨?_,?_,Z⟩
 .cases lo with
  |none=>simp[sliceBounds,HT.sIx]
  |some i =>
   simp only[sliceBounds,HT.sIx,Option.getD_none,show (1:Int) > 0 by decide,if_true];by_cases h:i<0
   .simp only[h,if_true] <;>lia
   .simp only[h,if_false] <;>lia
 .cases a with
  |none=>simp[sliceBounds,HT.sIx]
  |some i =>
   simp only[sliceBounds,HT.sIx,Option.getD_none,show (1:Int) > 0 by decide,if_true];by_cases h:i<0
   .simp only[h,if_true] <;>lia
   .simp only[h,if_false] <;>lia
theorem qlk (its:List Value)(lo a:Option Int):slicePick its.toArray lo a none=((its.drop (HT.sIx its.length 0 lo)).take (HT.sIx its.length its.length a-HT.sIx its.length 0 lo)).toArray:=by obtain⟨d,b,c⟩:=qmu lo a its.toArray.size;unfold slicePick;rw[d,b,c];simp only[sliceRange_one,pick_run,An] <;>rfl
noncomputable def rSlL (K:Ag):V->Option Int->Option Int->Hp->VK->Prop:=λx lo hi H Q=>∃a xs,x=.ref a/\SqL K H a xs/\∀p,H p=none->Q (.ref p) (upd H p (.lst (qe9 xs lo hi)))
theorem qb9:SlR X (rSlL X.K):=by intro pins s σ H x v vl vu lo c sl Q I g hs pl f h;obtain⟨a,xs,rfl,i,q⟩:=h;cases g;obtain⟨its,r,e,hz⟩:=I.list i;have d:=r.length;refine⟨"list",_,slot_list_getitem.lookup,e.isList.typeIs,?_⟩;refine wpAny_getItem_list_slice e.isList hs pl f .none (by simp) ?_ (by rw[An] <;>lia);rw[qlk,<- d];refine⟨.ref s.heap.objs.size,_,I.laid (t':=s.toks) (o:=.lst (qe9 xs lo c)) (λb ob q=>Aj _ q) (Ax _) ?_,Z,q _ (I.hok.fresh (Ax _))⟩;exact⟨A2 (qi8 xs lo c) hz,_,0,(r.drop (HT.sIx xs.length 0 lo)).take (HT.sIx xs.length xs.length c-HT.sIx xs.length 0 lo),A3 _ Z⟩
noncomputable def qeb:V->Bool
 |.non=>true
 |.bl _=>true
 |.int _=>true
 |.str _=>true
 |_=>false
noncomputable def eqV:V->V->Bool
 |.non,.non=>true
 |.bl a,.bl b=>a == b
 |.bl a,.int b=>(if a then 1 else 0) == b
 |.int a,.bl b=>a == (if b then 1 else 0)
 |.int a,.int b=>a == b
 |.str a,.str b=>a == b
 |_,_=>false
theorem qt1 {A:AQ}{s:Ah}{y x:V}{u v:Value}(e:RelV y u)(c:RelV x v)(fy:qeb y=true)(d:qeb x=true):BC A s u v (eqV y x):=by
 cases y with
 |non =>
  cases e;cases x with
  |non=>cases c;exact BC.same _
  |bl b=>cases c;exact BC.none_bool b
  |int b=>obtain⟨t,rfl⟩:=c;exact BC.none_int b t
  |str b=>obtain⟨t,rfl⟩:=c;exact BC.none_str b t
  |_=>exact absurd (show false=true from d) AE
 |bl a =>
  cases e;cases x with
  |non=>cases c;exact BC.bool_none a
  |bl b=>cases c;exact BC.bool_bool a b
  |int b=>obtain⟨t,rfl⟩:=c;exact BC.bool_int a b t
  |str b=>obtain⟨t,rfl⟩:=c;exact BC.bool_str a b t
  |_=>exact absurd (show false=true from d) AE
 |int a =>
  obtain⟨t',rfl⟩:=e;cases x with
  |non=>cases c;exact BC.int_none a t'
  |bl b=>cases c;exact BC.int_bool a t' b
  |int b=>obtain⟨t,rfl⟩:=c;exact BC.int_int a t' b t
  |str b=>obtain⟨t,rfl⟩:=c;exact BC.int_str a t' b t
  |_=>exact absurd (show false=true from d) AE
 |str a =>
  obtain⟨t',rfl⟩:=e;cases x with
  |non=>cases c;exact BC.str_none a t'
  |bl b=>cases c;exact BC.str_bool a t' b
  |int b=>obtain⟨t,rfl⟩:=c;exact BC.str_int a t' b t
  |str b=>obtain⟨t,rfl⟩:=c;exact BC.str_str a t' b t
  |_=>exact absurd (show false=true from d) AE
 |_=>exact absurd (show false=true from fy) AE
noncomputable def eqU (x:V)(u:Value):Bool:=match u with
 |.none=>eqV .non x
 |.bool b=>eqV (.bl b) x
 |.int i _=>eqV (.int i) x
 |.str z _=>eqV (.str z) x
 |_=>false
theorem qt2 {x y:V}{u:Value}(r:RelV y u)(f:qeb y=true):eqU x u=eqV y x:=by
 cases y with
 |non=>cases r;rfl
 |bl b=>cases r;rfl
 |int i=>obtain⟨t,rfl⟩:=r;rfl
 |str z=>obtain⟨t,rfl⟩:=r;rfl
 |_=>exact absurd (show false=true from f) AE
theorem qhy {x:V}:∀{xs:List V}{us:List Value},Vals xs us->xs.all qeb=true->us.any (eqU x)=xs.any λy=>eqV y x
 |_,_,.nil,_=>rfl
 |y::xs,u::us,.cons r t,f=>by rw[D3,AN]at f;rw[D4,D4,qt2 r f.1,qhy t f.2]
theorem qf4 {A:AQ}{s:Ah}{x:V}{v:Value}(c:RelV x v)(b:qeb x=true):∀{xs:List V}{us:List Value},Vals xs us->xs.all qeb=true->∀u∈us,BC A s u v (eqU x u)
 |_,_,.nil,_=>λu a=>by cases a
 |y::xs,u::us,.cons r t,f=>λd a=>by
  rw[D3,AN]at f;rcases Ap.mp a with rfl|a
  .rw[qt2 r f.1];exact qt1 r c f.1 b
  .exact qf4 c b t f.2 d a
noncomputable def inV (x:V)(xs:List V):Bool:=xs.any λy=>eqV y x
def rIn (K:Ag)(neg:Bool):R2:=λx y H Q=>∃p xs,y=.ref p/\(SqL K H p xs\/SqT K H p xs)/\qeb x=true/\xs.all qeb=true/\Q (.bl (if neg then !inV x xs else inV x xs)) H
theorem qgt:OpR X (compareOp .In) (rIn X.K false):=by
 intro pins s σ H x y v u Q I c e h;obtain⟨p,xs,rfl,a,d,fs,q⟩:=h;cases e;rcases a with a|a
 .obtain⟨its,r,pl,hz⟩:=I.list a;refine SeqAt.in_listAt (eqU x) pl.isList (λw b=>qf4 c d r fs w (by simpa using b)) ⟨.bl _,H,I,Z,?_⟩;rw[show its.toArray.any (eqU x)=its.any (eqU x) by simp,qhy r fs];exact q
 .obtain⟨its,r,pl,hz⟩:=I.tuple a;refine SeqAt.in_tupleAt (eqU x) pl (λw b=>qf4 c d r fs w (by simpa using b)) ⟨.bl _,H,I,Z,?_⟩;rw[show its.toArray.any (eqU x)=its.any (eqU x) by simp,qhy r fs];exact q
theorem qfi:OpR X (compareOp .NotIn) (rIn X.K true):=by
 intro pins s σ H x y v u Q I c e h;obtain⟨p,xs,rfl,a,d,fs,q⟩:=h;cases e;rcases a with a|a
 .obtain⟨its,r,pl,hz⟩:=I.list a;refine SeqAt.notIn_listAt (eqU x) pl.isList (λw b=>qf4 c d r fs w (by simpa using b)) ⟨.bl _,H,I,Z,?_⟩;rw[show its.toArray.any (eqU x)=its.any (eqU x) by simp,qhy r fs];exact q
 .obtain⟨its,r,pl,hz⟩:=I.tuple a;refine SeqAt.notIn_tupleAt (eqU x) pl (λw b=>qf4 c d r fs w (by simpa using b)) ⟨.bl _,H,I,Z,?_⟩;rw[show its.toArray.any (eqU x)=its.any (eqU x) by simp,qhy r fs];exact q
theorem qfj:qek X (.type "list") (λxs H Q=>∃p ys,xs=[.ref p]/\(SqL X.K H p ys\/SqT X.K H p ys)/\∀l,H l=none->Q (.ref l) (upd H l (.lst ys))):=by
 intro i s σ H xs us Q I r h;obtain⟨p,ys,rfl,d,q⟩:=h;obtain⟨u,rfl,m⟩:=qf0 r;cases m;have f:∀(its:List Value),Vals ys its->ys.length<=Au->∀(h':Heap)(a:Nat),(∀b o',s.heap.get? b=some o'->h'.get? b=some o') ->
   h'.get? s.heap.objs.size=some {cls:=.type "list",dict:=none,data:=.seq its.toArray a,slots:=#[]}->EP X i σ Q (.ref s.heap.objs.size) {s with heap:=h'}:=λits r' hz h' a c e =>
  ⟨.ref s.heap.objs.size,_,I.laid (t':=s.toks) c (Ax _) (show ObjOk X.prog X.w _ h' _ (.lst ys) from ⟨hz,its,a,r',e⟩),Z,q _ (I.hok.fresh (Ax _))⟩
 rcases d with d|d
 .obtain⟨its,r',pl,hz⟩:=I.list d;have g:=r'.length;obtain⟨o,j,k,n,hd⟩:=pl.isList;exact call_list_seq p (.inl Z) j k hd (λh' a c e=>f its r' hz h' a c e) (by simp only[An] <;>lia)
 .obtain⟨its,r',pl,hz⟩:=I.tuple d;have g:=r'.length;obtain⟨o,j,k,n,hd⟩:=pl;exact call_list_seq p (.inr Z) j k hd (λh' a c e=>f its r' hz h' a c e) (by simp only[An] <;>lia)
def tyV (K:Ag)(T:String)(x:V)(H:Hp):Prop:=match x with
 |.str _=>T = "str"
 |.int _=>T = "int"
 |.ref p=>(T = "list" /\ ∃xs,SqL K H p xs)\/(T = "tuple" /\ ∃o,K.lookup p=some o/\o.cls=.type "tuple" /\ o.dict=none) \/
   (T = "dict" /\ ((∃kvs,H p=some (.dK kvs)) \/ ∃kvs,H p=some (.dT kvs)))\/(T = "set" /\ ∃S n,H p=some (.set S n))
 |_=>False
theorem qt3 {d:List (Addr×Obj)}{σ:St}{H:Hp}{s:Ah}{T:String}{x:V}{v:Value}(I:Inv X d σ H s)(r:RelV x v)(ty:tyV X.K T x H) :
  s.TypeIs v T/\∀a,v=.ref a->∃ob,s.heap.get? a=some ob/\ob.dict=none:=by
 cases x with
 |str z =>obtain⟨t,rfl⟩:=r;cases (show T = "str" from ty);exact⟨typeIs_str s z t,λ_ e=>nomatch e⟩
 |int i =>obtain⟨t,rfl⟩:=r;cases (show T = "int" from ty);exact⟨typeIs_int s i t,λ_ e=>nomatch e⟩
 |ref p =>
  cases r;rcases ty with ⟨rfl,xs,f⟩|⟨rfl,o,hk,g,hd⟩|⟨rfl,hk⟩|⟨rfl,S,n,hk⟩
  .obtain⟨its,_,pl,_⟩:=I.list f;refine⟨pl.isList.typeIs,λa e=>?_⟩;cases e;obtain⟨o,n,e,c,hd,_⟩:=pl;exact⟨o,e,hd⟩
  .refine⟨⟨o,I.kIn p o hk,g⟩,λa e=>?_⟩;cases e;exact⟨o,I.kIn _ o hk,hd⟩
  .have z:∃o,s.heap.get? p=some o/\o.ExactDict:=by
    rcases hk with ⟨kvs,hk⟩|⟨kvs,hk⟩
    .obtain⟨_,_,_,_,o,_,_,e,ex,_⟩:=I.hok p _ hk;exact⟨o,e,ex⟩
    .obtain⟨_,_,_,_,o,_,_,e,ex,_⟩:=I.hok p _ hk;exact⟨o,e,ex⟩
   obtain⟨o,e,ex⟩:=z
   refine⟨⟨o,e,ex.1⟩,λa b=>?_⟩
   cases b
   exact⟨o,e,ex.2.1⟩
  .obtain⟨o,_,_,_,e,ex,_⟩:=I.hok p _ hk;refine⟨⟨o,e,ex.1⟩,λa b=>?_⟩;cases b;exact⟨o,e,ex.2.1⟩
 |_=>exact Br ty
def tBM0 (K:Ag)(T:String)(r:V->List V->Hp->VK->Prop)(to:TE):TE:=λσ H Q=>to σ H λx H1=>tyV K T x H1/\r x [] H1 Q
def tBM (K:Ag)(T:String)(r:V->List V->Hp->VK->Prop)(to:TE)(t:TA):TE:=λσ H Q=>to σ H λx H1=>tyV K T x H1/\t σ H1 λxs H2=>r x xs H2 Q
variable {o e:Expr}{es:List Expr}{to:TE}{t:TA}{name:Str}{apos cpos:Pos}{T id:String}{r:V->List V->Hp->VK->Prop}
theorem qy5 (m:PlainAttrs T)(c:Slot T name id)(g:typeOf (.builtin id)=pure (.type "method_descriptor"))(q:MtR X id r)(p:PE X o to)
  (b:attributeBase o name X.env (eval o X.env)=eval o X.env:=by rfl)(hline:(apos.endLine == cpos.line)=true:=by rfl):PE X (.Call (.Attribute o name apos) [] [] cpos) (tBM0 X.K T r to):=by
 intro a s σ H Q I h;refine wpAny_Call_method0_late b hline (thn (p a s σ H _ I h) λv j f=>?_);obtain⟨x,l,e,d,ty,i⟩:=f;obtain⟨k,n⟩:=qt3 e d ty;exact⟨T,id,m,c,g,k,n,DF Z (PySem.evalArgs_none (q a j σ l x [] v [] Q e d .nil i))⟩
theorem qbv (A:PlainAttrs T)(d:Slot T name id)(k:typeOf (.builtin id)=pure (.type "method_descriptor"))(F:MtR X id r)(D:PE X o to)(q:PA X (e::es) t)
  (c:attributeBase o name X.env (eval o X.env)=eval o X.env:=by rfl)
  (hfew:((backTo cpos (starEach (e::es) X.env)).all (λx=>!x.1) && (backToKw cpos (keywordEach [] X.env)).all (λx=>x.1.isSome)
   && decide ((e::es).length+([]:List Keyword).length+(if ([]:List Keyword).isEmpty then 0 else 1)<30))=true:=by rfl)
  (hline:(apos.endLine == cpos.line)=true:=by rfl)(hs:starEach (e::es) X.env=(false,eval e X.env)::starEach es X.env:=by rfl)(hplain:(backTo cpos (starEach es X.env)).any (·.1)=false:=by rfl) :
  PE X (.Call (.Attribute o name apos) (e::es) [] cpos) (tBM X.K T r to t):=by
 intro b s σ H Q I h;refine wpAny_Call_method_late c hfew hline rfl (thn (D b s σ H _ I h) λv n i=>?_);obtain⟨x,y,g,f,ty,l⟩:=i;obtain⟨w,B⟩:=qt3 g f ty;refine⟨T,id,A,d,k,w,B,?_⟩;have j:=q cpos b n σ y _ g l;rw[hs]at j |-;refine DF (by show (false || (backTo cpos (starEach es X.env)).any (·.1))=false;rw[hplain] <;>rfl) (Calls.evalArgs_plain ?_);exact thn j λus u ⟨vs,E,p,C,z⟩=>F b u σ E x vs v us Q p f C z
/- xs.append(e),list.index on a module's tuple .. are MtR facts of 06m -/
end
end L2
namespace L2
open PySem PySem.Spec PyProof.Rows
def MtM (X:Cx)(id:String)(r:V->List V->Hp->VK->Prop):Prop :=
 ∀(pins:List (Addr×Obj))(s:Ah)(σ:St)(H:Hp)(x:V)(xs:List V)(v:Value)(us:List Value)(Q:VK),Inv X pins σ H s->RelV x v->Vals xs us->r x xs H Q ->
  wpAny (model X.prog X.w) X.A (call (.builtin id) (v::us)) (EP X pins σ Q) X.xe s
theorem Vals.one {x:V}{us:List Value}(h:Vals [x] us):∃u,us=[u]/\RelV x u:=by cases h with|cons r t=>cases t;exact⟨_,Z,r⟩
theorem Vals.two {x y:V}{us:List Value}(h:Vals [x,y] us):∃u v,us=[u,v]/\RelV x u/\RelV y v:=by cases h with|cons r t=>cases t with|cons q t=>cases t;exact⟨_,_,Z,r,q⟩
theorem Vals.zero:∀{us:List Value},Vals [] us->us=[]
 |_,.nil=>rfl
theorem Vals.reverse {xs:List V}{us:List Value}(h:Vals xs us):Vals xs.reverse us.reverse:=by
 induction h with
 |nil=>exact .nil
 |cons r t ih=>rw[DG,DG];exact Vals.append ih (.cons r .nil)
section
variable {X:Cx}{pins:List (Addr×Obj)}{σ:St}{H:Hp}{s:Ah}{l b:Addr}{xs ys zs:List V}
theorem Inv.lset {its its':List Value}{n:Nat}{f:Array Value->Array Value}{t':Nat}(I:Inv X pins σ H s)(b:H l=some (.lst xs))
  (e:s.heap.get? l=some {cls:=.type "list",data:=.seq its.toArray n})(hf:f its.toArray=its'.toArray)(hv:Vals ys its')(hz:ys.length<=Au) :
  Inv X pins σ (upd H l (.lst ys)) {s with heap:=s.heap.update l (BL f),toks:=t'}:=by
 have q:=PySem.IsL.update e f;rw[hf]at q;refine I.write (x:=l) (e:=l) (by rw[b];exact trivial) (.inl Z) (λb' u c a=>(BH s.heap (BL f) (Bc c)).trans a) ⟨_,q⟩ ?_;exact⟨hz,its',_,hv,q⟩
theorem Inv.lnew {its:List Value}{t':Nat}(I:Inv X pins σ H s)(a:Vals ys its)(hz:ys.length<=Au) :
  Inv X pins σ (upd H s.heap.objs.size (.lst ys)) {s with heap:=s.heap.push {cls:=.type "list",data:=.seq its.toArray},toks:=t'} :=
 I.laid (λ_ _ q=>Aj _ q) (Ax _) ⟨hz,its,0,a,A3 _ Z⟩
theorem Inv.fresh (I:Inv X pins σ H s):H s.heap.objs.size=none:=I.hok.fresh (Ax _)
theorem Inv.lstM (I:Inv X pins σ H s)(a:H l=some (.lst xs)):xs.length<=Au/\∃(its:List Value)(n:Nat),Vals xs its/\xs.length=its.length/\s.heap.get? l=some {cls:=.type "list",data:=.seq its.toArray n}:=by obtain⟨z,its,n,r,e⟩:=I.hok l _ a;exact⟨z,its,n,r,r.length,e⟩
theorem qj6 {n:Nat}(h:n<=Au):AX.List.listTooLong n=false:=by unfold AX.List.listTooLong;exact decide_eq_false (by lia)
end
section
variable {X:Cx}
noncomputable def qwu:V->List V->Hp->VK->Prop:=λx vs H Q=>∃l xs y,x=.ref l/\vs=[y]/\H l=some (.lst xs)/\xs.length<Au/\Q .non (upd H l (.lst (xs++[y])))
theorem qbh:MtM X "list.append" qwu:=by intro pins s σ H x vs v us Q I c d h;obtain⟨l,xs,y,rfl,rfl,a,hz,q⟩:=h;cases c;obtain⟨u,rfl,b⟩:=d.one;obtain⟨z,its,n,r,hl,e⟩:=I.lstM a;refine Do F.slot_list_append ⟨_,e,Z⟩ F.entry_list_append (F.args_list_append_2 _ _) (PySem.list_append l its.toArray n u (by rw[An];lia)) ⟨e,?_⟩;refine⟨.non,_,I.lset (its':=its++[u]) a e (by simp) (r.append (.cons b .nil)) ?_,Z,q⟩;rw[Ai,B3];lia
noncomputable def qwv:V->List V->Hp->VK->Prop:=λx vs H Q=>∃l b xs zs,x=.ref l/\vs=[.ref b]/\H l=some (.lst xs)/\H b=some (.lst zs)/\xs.length+zs.length<=Au/\Q .non (upd H l (.lst (xs++zs)))
theorem qfa:MtM X "list.extend" qwv:=by
 intro pins s σ H x vs v us Q I j o h;obtain⟨l,b,xs,zs,rfl,rfl,d,m,hz,q⟩:=h;cases j;obtain⟨u,rfl,f⟩:=o.one;cases f;obtain⟨z,its,n,r,hl,e⟩:=I.lstM d;obtain⟨z2,a,i,k,hl2,g⟩:=I.lstM m;have hsz:its.toArray.size+a.toArray.size<=Au:=by rw[An,An];lia
 have c:¬(!its.toArray.isEmpty && AX.List.listTooLong (its.toArray.size+a.toArray.size))=true:=by rw[qj6 hsz,Dp];exact AE
 refine Do F.slot_list_extend ⟨_,e,Z⟩ F.entry_list_extend (F.args_list_extend_2 _ _)
  (AutoSeq1.list_extend_list_list_0 l its.toArray n b a.toArray i c (by rw[An];lia) (by lia)) ⟨e,g,?_⟩
 refine⟨.non,_,I.lset (its':=its++a) d e (by simp) (r.append k) ?_,Z,q⟩;rw[Ai];lia
noncomputable def qt4:V->List V->Hp->VK->Prop:=λx vs H Q=>∃l xs,x=.ref l/\vs=[]/\H l=some (.lst xs)/\Q .non (upd H l (.lst xs.reverse))
theorem qpn:MtM X "list.reverse" qt4:=by intro pins s σ H x vs v us Q I c d h;obtain⟨l,xs,rfl,rfl,b,q⟩:=h;cases c;have a:=d.zero;subst a;obtain⟨z,its,n,r,hl,e⟩:=I.lstM b;refine Do F.slot_list_reverse ⟨_,e,Z⟩ F.entry_list_reverse (F.args_list_reverse_1 _) (AutoSeq1.list_reverse_list_0 l its.toArray n (by rw[An];lia)) ⟨e,?_⟩;refine⟨.non,_,I.lset (its':=its.reverse) b e (by simp) r.reverse ?_,Z,q⟩;rw[Cv];lia
def rCat:R2:=λx y H Q=>∃l b xs zs,x=.ref l/\y=.ref b/\H l=some (.lst xs)/\H b=some (.lst zs)/\xs.length+zs.length<=Au/\∀p,H p=none->Q (.ref p) (upd H p (.lst (xs++zs)))
theorem qci:OpR X (binaryOp .Add) rCat:=by
 intro pins s σ H x y v u Q I f i h;obtain⟨l,b,xs,zs,rfl,rfl,g,k,hz,q⟩:=h;cases f;cases i;obtain⟨z,its,n,r,hl,e⟩:=I.lstM g;obtain⟨z2,a,n2,j,hl2,d⟩:=I.lstM k;refine PySem.P.add_list e d ?_ (by rw[An,An];lia);have c:its.toArray++a.toArray=(its++a).toArray:=by simp
 rw[c];exact⟨.ref _,_,I.lnew (t':=s.toks) (r.append j) (by rw[Ai];lia),Z,q _ I.fresh⟩
end
section
variable {prog:AH}{w:World}{A:AQ}{E:Value->Ah->Prop}{s:Ah}
end
section
variable {X:Cx}
end
end L2
namespace Att
open PySem PySem.W PySem.Calls PyProof.Rows
theorem qjl {P:Params}{h:Heap}:∀(c:List Int)(vs:List Value),WellAll P h vs (c.map WData.int)->IntsAre vs c:=by
 intro c
 induction c with
 |nil =>intro vs w;rw[BE]at w;cases w;exact .nil
 |cons n c ih =>
  intro vs w;rw[At]at w;cases w with|cons a b =>cases a;exact .cons _ _ (ih _ b)
theorem qr5 {l:OpenLaw}{n:Nat}(t:l.most=some n){P:Params}{h:Heap}{args:List WData}{qch:List Value}
  (c:l.row.toRowW.claim.pre args=true)(i:WellAll P h qch args) :
  ∃a vs b,qch=[AJ a]/\args=[WData.list (b.map WData.int)]/\h.get? a=some {cls:=.type "list",data:=.seq vs.toArray}/\IntsAre vs b/\b.length<=n:=by
 have j:WShape.hasAll [] args [.list .int]=true:=(pre_splitW c).1;have k:l.pre.holds [] {args:=args}=true:=(pre_splitW c).2;obtain⟨d,r,rfl,o,s⟩:=hasAllW_cons j;obtain rfl:=hasAllW_nil s;obtain⟨xs,rfl,m⟩:=hasW_list o;obtain⟨b,rfl⟩:=items_int m;have g:b.length<=n:=by
  unfold OpenLaw.pre at k;have f:(WTm.not (.lt (.lit (.int (n:Int))) (.len (.arg 0)))).holds [] {args:=[.list (b.map .int)]}=true:=by have f:=(holds_andW k).1;rw[t]at f;exact f
  have e:=condW_of f (w_not (w_lt w_lit (w_len_list (w_arg Z))));rw[Ab]at e;refine Nat.le_of_not_lt λq=>?_;have p:(n:Int)<((b.length:Nat):Int):=by lia
  first
   | (rw[decide_eq_true p]at e;exact absurd e En)
   | (simp at e;lia)
 cases i with
 |cons w1 w2 =>
  cases w2;cases w1 with|list ho hall=>exact⟨_,_,b,Z,Z,ho,qjl b _ hall,g⟩
theorem qr6 (l:OpenLaw)(args:List WData):l.row.toRowW.claim.post args (.bool true) args=true :=
 postW_of (r:=l.row.toRowW) (X:=(true == true))
  (show WShape.has [] (.bool true) .bool=true by first|rfl|decide|simp[WShape.has,WShape.arms,WShape.armsAll])
  (show (WTm.eq .res (.lit (.bool true))).value [] {args:=args,res:=some (.bool true),after:=args}=some (.bool (true == true)) from w_eq_bool (w_res Z) w_lit) rfl
theorem attach_call {l:OpenLaw}{n:Nat}{q:AH}{c:List Str}{z:(Str->Option Value)->Heap->Prop}{C:World->Heap->Prop}{d:DefRec}
  (K:l.most=some n)(D:d.params.defaults=[])
  (call:∀(w:World)(s b:Ah)(mg m:Str->Option Value)(e:Addr)(o:Obj)(v j g:Value)(a:Addr)(vs:List Value)(h:List Int),
   Ground q c [] z w s mg m b.heap->C w b.heap ->
   b.heap.get? e=some o->o.data=.func (docDef d.name d.params d.body d.scope v j g)->b.heap.CodeRec j d.name->mg d.name=some (.ref e) ->
   b.heap.get? a=some {cls:=.type "list",data:=.seq vs.toArray}->IntsAre vs h->h.length<=n->b.gens=#[] ->
   codeAny (model l.prog w) callerA (.call (.ref e) ⟨[.ref a],[]⟩) (λr k=>r=.ok (.ret (.bool true))/\OldK b.heap k.heap/\k.os=b.os/\AllBare k.gens) b) :
  WalkO q c z C l.row.toRowW d [] (λf vs=>PySem.call f vs):=by
 intro w s b mg m G Y e o v j g E kV I hd y B x M args qch as u hlay hrd A hlo;obtain rfl:E=.none:=Dflts.none B D;obtain rfl:kV=.none:=Dflts.noKw B;obtain⟨a,vs,h,rfl,rfl,t,i,p⟩:=qr5 K u A;refine enter_call (CM (call w s b mg m e o v j g a vs h G Y I (fd_plain hd) y x t i p M) λr k L=>?_);obtain⟨rfl,H,F,J⟩:=L;exact⟨.inl ⟨.bool true,.bool true,[],Z,λ_=>rfl,.bool true,qr6 l _,λ_=>⟨List.Pairwise.nil,λ_ N=>(nomatch N)⟩⟩,H,F,J⟩
section
variable {prog:AH}{w:World}{A:AQ}{E:Value->Ah->Prop}{s:Ah}{K:Frag}
noncomputable def ledger (h:Heap)(L d:Addr):List (Addr×Obj):=(AR h.objs.size).filterMap λa=>if a=L\/a=d then none else (h.get? a).map λo=>(a,o)
end
end Att
namespace L2
open PySem PySem.Spec PyProof.Rows
theorem ql1:∀{vs:List Value}{a:List Int},IntsAre vs a->Vals (a.map V.int) vs
 |_,_,.nil=>.nil
 |_,_,.cons n t h=>.cons ⟨t,Z⟩ (ql1 h)
end L2
namespace L2
open PySem PySem.Spec PyProof.Rows
noncomputable abbrev KOf {K:Ag}{h:Heap}(_:K.In h):Ag:=K
end L2
/- THE LAST THEOREM (shape;LID,My.* are yours):
   My.Adr: a structure of the addresses that your layer names (classes,functions);My.Txt K t: a structure (Prop) of the equations over K;
   My.txt_mk:{K} {implicit addresses ..} (e1:nsIn K AD "law"=some (some (.ref f))) (e2:K.lookup f=some ⟨oc,od,.func (fnOf "law" "law" params body scope dV kV doc pm an cdv ct),sl⟩) (e3:codeIn K cdv "law"=true) .. : ∃t,My.Txt K t
set_option maxRecDepth 100000 in
set_option maxHeartbeats 0 in
theorem PySem.Challenge.cw_LID_holds : PySem.Challenge.rw_LID.Holds:=by
 w_on;o_law;k_head;(case hw=>w_witness2)
 k_fill
 refine L2.walk_of (l:=PySem.Challenge.rw_LID) (n:=63) (k:=40) (x := "script") (CX:=λw=>..) (sp:=λ_=>My.sp_law) rfl En rfl ⟨Z,En,En⟩ (λw h Y=>PySem.W.kIn_of Y) ?F ?S ?C
 case F =>
  intro w mg i h g G f;have T:∃t,My.Txt (L2.KOf g) t:=by
   dsimp only[L2.KOf]                          -- K must stand as «<heap const> w.params» for k_is;refine' My.txt_mk ?e1 ?e2 ?e3 ..
   (case e1=>PySem.W.k_is)                    -- in the order: a name->its address->its object->its parts
   (case e2=>PySem.W.k_is)
   ..
  obtain⟨t,T⟩:=T;have j:=f.symm.trans (Bu g G T.law);cases j                                       -- i is the law's own address;exact⟨_,λs u=>.of_eq Z,λc e d=>My.law_fn T e d⟩     -- if «.of_eq rfl» comes too early: refine' ⟨_,?b,λc e d=>My.law_fn T e d⟩;exact λs u=>.of_eq rfl
 case S=>exact λw H a ns hl hO hS=>..
 case C=>exact ..
(the tactic k_is has no namespace: write k_is) -/
namespace L2
open PySem PySem.Spec PyProof.Rows
noncomputable def qd0 (s:Stmt)(j:Nat):Stmt:=match s with
 |.ClassDef _ _ _ body _ _ _ _ _ _ _=>body.getD j (.Pass ⟨0,0,0,0⟩)
 |_=>.Pass ⟨0,0,0,0⟩
noncomputable def qby (s:Stmt):Arguments:=match s with
 |.FunctionDef _ a _ _ _ _ _ _ _ _=>a
 |_=>{posonlyargs:=[],args:=[],vararg:=none,kwonlyargs:=[],kw_defaults:=[],kwarg:=none,defaults:=[]}
noncomputable def qbf (s:Stmt):List Stmt:=match s with
 |.FunctionDef _ _ b _ _ _ _ _ _ _=>b
 |_=>[]
noncomputable def qaa (s:Stmt):Scope:=match s with
 |.FunctionDef _ _ _ _ _ _ sc _ _ _=>sc
 |_=>{kind:=.function,names:=[],isGenerator:=false,isCoroutine:=false}
abbrev CX0:CXT:=λ_ _ _ _ _ _=>False
abbrev E0:XK:=λ_ _ _=>False
theorem qap {X:Cx}:qel CX0 X E0:=λ_ _ _ _ _ _ _ h=>h.elim
structure Fun (K:Ag)(x qual:Str)(st:Stmt)(f:Addr)(fd:AF):Prop where
 ex:∃(oc:Value)(od:Option Addr)(kV doc pm:Value)(an:Option Addr)(cdv ct:Value)(osl:Array (Option Value)),
  fd=Bt x qual (qby st) (qbf st) (qaa st) .none kV doc pm an cdv ct/\K.lookup f=some ⟨oc,od,.func fd,osl⟩/\Ci K cdv qual=true
 kp:Bi K (.ref f)=true
section
variable {P:AH}{w:World}{K:Ag}{mg:Str->Option Value}{base:Heap}
theorem Fun.ok {x a:Str}{st:Stmt}{f:Addr}{d:AF}{N ps:List Str}{k:Nat}{sp:Sp}(F:Fun K x a st f d)(S:FnScope N ps (qaa st))(len:∀vs H Q E,sp vs H Q E->vs.length=ps.length)
  (c:∀(b:Value)(A:AQ)(outer:List Env)(s:Ah)(H:Hp)(vs:List V)(Q:VK)(E:XK),Room k (A.deeper (envOfC a (qaa st) s.heap.objs.size f b))->sp vs H Q E ->
   ∃t,PSs (qlj CX0 P w K mg base N a (qaa st) f b A outer s H E).nox (qbf st) t/\t {nx:=λ_ i=>Q .non i,rt:=Q} (qe8 N vs) H):FnOk P w K mg base CX0 (k+1) f d ps sp:=by
 obtain⟨oc,od,kV,doc,pm,an,b,ct,osl,rfl,lk,e⟩:=F.ex
 refine qqu lk e S len λA outer s H vs Q E j g=>?_
 obtain⟨t,h,q⟩:=c b A outer s H vs Q E j g
 exact⟨t,h.nox,q⟩
theorem Fun.binds {x b:Str}{st:Stmt}{f:Addr}{g:AF}{ps:List Str}(F:Fun K x b st f g)
  (h:∀(kV c e:Value)(d:Option Addr)(a ct:Value)(us:List Value),us.length=ps.length->bindArgs (Bt x b (qby st) (qbf st) (qaa st) .none kV c e d a ct) ⟨us,[]⟩=pure (ps.zip us)):Binds K g ps []:=by
 obtain⟨oc,od,kV,c,e,d,a,ct,osl,rfl,lk,hcd⟩:=F.ex;exact .all (h kV c e d a ct)
theorem qpo {x a:Str}{st:Stmt}{f:Addr}{j:Value}{i h:Option Addr}{e:Array (Option Value)}{kV d g b ct:Value}(l:K.lookup f=some ⟨j,i,.func (Bt x a (qby st) (qbf st) (qaa st) .none kV d g h b ct),e⟩)
  (c:Ci K b a=true)(k:Bi K (.ref f)=true):Fun K x a st f (Bt x a (qby st) (qbf st) (qaa st) .none kV d g h b ct):=⟨⟨j,i,kV,d,g,h,b,ct,e,Z,l,c⟩,k⟩
end
theorem qfb {A:AQ}{k:Nat}(a:Room k A):A.units+1<cLine:=Da (Nat.add_le_add_left (by decide:1<=64) _) a.units
section
variable {X:Cx}
theorem pv (i:Nat){x:Str}{pos:Pos}(a:X.N[i]?=some x:=by rfl)(hv:Vis X.env.scope x:=by first|exact A0 rfl|exact Cj (A0 rfl)|exact Cj (Cj rfl))(hd:(x == ("__debug__" : Str))=false:=by decide)
  (hcd:(x == ("__classdict__" : Str))=false:=by decide):PE X (.Name x pos) (tVar i):=qyv a hv hd hcd
end
theorem qcr {A B:Prop}(h:B):if false=true then A else B:=by rw[if_neg AE];exact h
theorem qdw {A B:Prop}(h:A):if true=true then A else B:=by rw[if_pos Z];exact h
theorem qdk {c A B:Prop}[Decidable c](b:c->A)(a:¬c->B):if c then A else B:=by
 by_cases h:c
 .rw[if_pos h];exact b h
 .rw[if_neg h];exact a h
def Same (H H':Hp):Prop:=∀b o,H b=some o->H' b=some o
theorem Same.refl (H:Hp):Same H H:=λ_ _ h=>h
theorem Same.trans {H d e:Hp}(a:Same H d)(b:Same d e):Same H e:=λc o h=>b c o (a c o h)
theorem Same.free {H a:Hp}(e:Same H a){l:Addr}(h:a l=Option.none):H l=Option.none:=by
 cases q:H l with|none=>rfl|some o =>rw[e l o q]at h;cases h
theorem Same.seq {K:Ag}{H b:Hp}{a:Addr}{xs:List V}(e:Same H b)(h:SqL K H a xs):SqL K b a xs:=by
 rcases h with (h|⟨o,h⟩)|h
 .exact .inl (.inl (e _ _ h))
 .exact .inl (.inr ⟨o,e _ _ h⟩)
 .exact .inr h
end L2
namespace L2
open PySem PySem.Spec PyProof.Rows
section
variable {κ:Type}[DecidableEq κ]
noncomputable def qdx (kvs:List (κ×V))(k:κ):Option V:=(kvs.find? λkv=>decide (kv.1=k)).map (·.2)
noncomputable def qfk (kvs:List (κ×V))(k:κ)(v:V):List (κ×V) :=
 if (kvs.any λkv=>decide (kv.1=k))=true then kvs.map (λkv=>if kv.1=k then (kv.1,v) else kv) else kvs++[(k,v)]
theorem qcn {p:κ×V}{r:List (κ×V)}{k:κ}(e:p.1=k):qdx (p::r) k=some p.2:=by simp[qdx,CB,e]
theorem qco {p:κ×V}{r:List (κ×V)}{k:κ}(e:¬p.1=k):qdx (p::r) k=qdx r k:=by simp[qdx,CB,e]
theorem qf5 (k:κ):∀kvs:List (κ×V),(kvs.any λa=>decide (a.1=k))=(qdx kvs k).isSome
 | []=>rfl
 |p::r=>by
  rw[D4];by_cases e:p.1=k
  .simp only[qcn e,decide_eq_true e,Bool.true_or,Option.isSome_some]
  .rw[qco e,decide_eq_false e,Bool.false_or];exact qf5 k r
theorem qnv (k j:κ)(y:V):∀kvs:List (κ×V),qdx (kvs.map λa=>if a.1=k then (a.1,y) else a) j=(qdx kvs j).map λx=>if j=k then y else x
 | []=>rfl
 |p::r=>by
  have b:=qnv k j y r;rw[At];by_cases h:p.1=k
  .rw[if_pos h];by_cases e:p.1=j
   .rw[qcn (p:=(p.1,y)) e,qcn e,D7,if_pos (e.symm.trans h)]
   .rw[qco (p:=(p.1,y)) e,qco e,b]
  .rw[if_neg h];by_cases e:p.1=j
   .rw[qcn (p:=p) e,qcn e,D7,if_neg (λz=>h (e.trans z))]
   .rw[qco (p:=p) e,qco e,b]
theorem ql2 (k j:κ)(y:V):∀kvs:List (κ×V),qdx kvs k=none->qdx (kvs++[(k,y)]) j=if j=k then some y else qdx kvs j
 | [],_=>by
  by_cases e:k=j
  .rw[if_pos e.symm];exact qcn (p:=(k,y)) e
  .rw[if_neg (λz=>e z.symm)];exact qco (p:=(k,y)) e
 |p::r,hn=>by
  rw[Bb];have hk:¬p.1=k:=λz=>by rw[qcn z]at hn;cases hn
  rw[qco hk]at hn;have a:=ql2 k j y r hn;by_cases e:p.1=j
  .rw[qcn e,qcn e,if_neg (λz=>hk (e.trans z))]
  .rw[qco e,qco e,a]
theorem qt5 (kvs:List (κ×V))(k j:κ)(y:V):qdx (qfk kvs k y) j=if j=k then some y else qdx kvs j:=by
 unfold qfk;by_cases a:(kvs.any λb=>decide (b.1=k))=true
 .rw[if_pos a,qnv];rw[qf5]at a;by_cases e:j=k
  .obtain⟨x,c⟩:=Cg.mp a;rw[if_pos e,e,c,D7,if_pos Z]
  .rw[if_neg e];cases qdx kvs j with|none=>rfl|some x=>rw[D7,if_neg e]
 .rw[if_neg a];refine ql2 k j y kvs ?_;rw[qf5]at a;cases q:qdx kvs k with|none=>rfl|some x=>rw[q]at a;exact(a Z).elim
theorem qf6 (kvs:List (κ×V))(k:κ)(v:V):(qfk kvs k v).length<=kvs.length+1:=by
 unfold qfk;split
 .rw[Ab];lia
 .rw[Ai,Am,Bf];lia
theorem qj7 {kvs:List (κ×V)}{k:κ}(v:V)(h:qdx kvs k=none):qfk kvs k v=kvs++[(k,v)]:=by unfold qfk;rw[qf5,h];exact if_neg En
theorem RelO.isSome_eq {o:Option V}{u:Option Value}(r:RelO o u):o.isSome=u.isSome:=by
 cases o with
 |none=>cases u with
  |none=>rfl
  |some _=>exact(show False from r).elim
 |some _=>cases u with
  |none=>exact(show False from r).elim
  |some _=>rfl
theorem KV.val {kvs:List (κ×V)}{vs:List (κ×Value)}(r:KV kvs vs)(k:κ):RelO (qdx kvs k) (valueAt vs k):=by
 unfold KV at r
 induction r with
 |nil=>exact CP
 | @cons p q ps qs h t ih =>
  obtain⟨c,d⟩:=h;by_cases e:p.1=k
  .have a:q.1=k:=c.symm.trans e;have b:valueAt (q::qs) k=some q.2:=by simp[valueAt,CB,a]
   rw[qcn e,b];exact d
  .have a:¬q.1=k:=λz=>e (c.trans z);have b:valueAt (q::qs) k=valueAt qs k:=by simp[valueAt,CB,a]
   rw[qco e,b];exact ih
theorem KV.any {kvs:List (κ×V)}{vs:List (κ×Value)}(r:KV kvs vs)(k:κ):(kvs.any λa=>decide (a.1=k))=vs.any λa=>decide (a.1=k):=by
 unfold KV at r
 induction r with
 |nil=>rfl
 |cons h t ih=>rw[D4,D4,ih,h.1]
theorem KV.repl {kvs:List (κ×V)}{vs:List (κ×Value)}(r:KV kvs vs)(k:κ){y:V}{u:Value}(d:RelV y u) :
  KV (kvs.map λa=>if a.1=k then (a.1,y) else a) (vs.map λa=>if a.1=k then (a.1,u) else a):=by
 unfold KV at r |-
 induction r with
 |nil=>exact .nil
 | @cons p q ps qs h t ih =>
  rw[At,At];refine .cons ?_ ih;obtain⟨b,c⟩:=h;by_cases e:p.1=k
  .rw[if_pos e,if_pos (b.symm.trans e)];exact⟨b,d⟩
  .rw[if_neg e,if_neg (λz=>e (b.trans z))];exact⟨b,c⟩
theorem KV.put {kvs:List (κ×V)}{vs:List (κ×Value)}(r:KV kvs vs)(k:κ){y:V}{u:Value}(a:RelV y u):KV (qfk kvs k y) (stored vs k u):=by
 unfold qfk stored;rw[r.any k];by_cases e:(vs.any λb=>decide (b.1=k))=true
 .rw[if_pos e,if_pos e];exact r.repl k a
 .rw[if_neg e,if_neg e];exact CZ.snoc r ⟨Z,a⟩
theorem KV.keys {kvs:List (κ×V)}{vs:List (κ×Value)}(r:KV kvs vs):kvs.map (·.1)=vs.map (·.1):=by
 unfold KV at r
 induction r with
 |nil=>rfl
 |cons h t ih=>rw[At,At,ih,h.1]
theorem KV.length {kvs:List (κ×V)}{vs:List (κ×Value)}(r:KV kvs vs):kvs.length=vs.length:=CZ.length r
end
theorem qnw {P:AH}{w:World}{k:Key}{u:Value}(r:RelV (kV k) u):(qb2 P w).is k u=true:=by
 cases k with
 |inl i=>obtain⟨t,e⟩:=(show ∃t,u=Value.int i t from r);subst e;exact qnm P w i t
 |inr x=>obtain⟨t,e⟩:=(show ∃t,u=Value.str x t from r);subst e;exact qnn P w x t
theorem ql3 {P:AH}{w:World}:∀{ks:List Key}{us:List Value},Vals (ks.map kV) us->ItemsAre (qb2 P w) ks us
 | [],_,r=>by rw[BE]at r;cases r;exact .nil
 |k::ks,_,r=>by
  rw[At]at r;cases r with|cons h t=>exact .cons (qnw h) (ql3 t)
noncomputable abbrev KT (H:Hp):List (List Key×V)->List (List Key×Addr×Value)->Prop:=CZ λp q=>p.1=q.1/\H q.2.1=some (.tup (p.1.map kV))/\RelV p.2 q.2.2
theorem KT.val {H:Hp}{kvs:List (List Key×V)}{xs:List (List Key×Addr×Value)}(r:KT H kvs xs)(k:List Key):RelO (qdx kvs k) ((atKey xs k).map (·.2)):=by
 induction r with
 |nil=>exact CP
 | @cons p q ps qs h t ih =>
  obtain⟨c,_,d⟩:=h;by_cases e:p.1=k
  .have a:q.1=k:=c.symm.trans e;have b:atKey (q::qs) k=some q.2:=by simp[atKey,CB,a]
   rw[qcn e,b];exact d
  .have a:¬q.1=k:=λz=>e (c.trans z);have b:atKey (q::qs) k=atKey qs k:=by simp[atKey,CB,a]
   rw[qco e,b];exact ih
theorem KT.repl {H:Hp}{kvs:List (List Key×V)}{xs:List (List Key×Addr×Value)}(r:KT H kvs xs)(k:List Key){y:V}{u:Value}(d:RelV y u) :
  KT H (kvs.map λb=>if b.1=k then (b.1,y) else b) (xs.map (putAt k u)):=by
 induction r with
 |nil=>exact .nil
 | @cons p q ps qs h t ih =>
  rw[At,At];refine .cons ?_ ih;obtain⟨a,c,f⟩:=h;unfold putAt;by_cases e:p.1=k
  .rw[if_pos e,if_pos (a.symm.trans e)];exact⟨a,c,d⟩
  .rw[if_neg e,if_neg (λz=>e (a.trans z))];exact⟨a,c,f⟩
theorem KT.put {H:Hp}{kvs:List (List Key×V)}{xs:List (List Key×Addr×Value)}(r:KT H kvs xs)(k:List Key){b:Addr}{y:V}{u:Value}(d:H b=some (.tup (k.map kV)))(a:RelV y u) :
  KT H (qfk kvs k y) (storedH xs k b u):=by
 have e:(kvs.any λc=>decide (c.1=k))=(atKey xs k).isSome:=by rw[qf5,(r.val k).isSome_eq,Option.isSome_map]
 unfold qfk storedH;rw[e];by_cases q:(atKey xs k).isSome=true
 .rw[if_pos q,if_pos q];exact r.repl k a
 .rw[if_neg q,if_neg q];exact CZ.snoc r ⟨Z,d,a⟩
theorem KT.keeps {H a:Hp}{kvs:List (List Key×V)}{xs:List (List Key×Addr×Value)}(r:KT H kvs xs)(c:∀b ys,H b=some (.tup ys)->a b=some (.tup ys)):KT a kvs xs :=
 CZ.mapP r λ_ _ z=>⟨z.1,c _ _ z.2.1,z.2.2⟩
section
variable {P:AH}{w:World}{H:Hp}{h:Heap}{a:Addr}
theorem qyi {u:HO}(ok:HOk P w H h)(e:Rd H a u):ObjOk P w H h a u:=e.ok ok
theorem qnx {kvs:List (Key×V)}(ok:HOk P w H h)(e:Rd H a (.dK kvs)):kvs.length<=Au/\(a == sysModules)=false/\∃vs,KV kvs vs/\h.DictOf (qb2 P w) a vs :=
 show ObjOk P w H h a (.dK kvs) from qyi ok e
theorem qqw {kvs:List (Key×V)}(ok:HOk P w H h)(e:H a=some (.dK kvs)):kvs.length<=Au/\(a == sysModules)=false/\∃vs,KV kvs vs/\h.DictOf (qb2 P w) a vs:=qnx ok (.inl e)
theorem qj8 {ks:List Key}(ok:HOk P w H h)(e:H a=some (.tup (ks.map kV))):(tupleKind (qb2 P w)).is h ks a:=by obtain⟨_,its,r,o,d,b,n,c⟩:=(show ObjOk P w H h a (.tup (ks.map kV)) from ok a _ e);exact⟨o,its.toArray,n,d,b,c,by simpa using ql3 r⟩
theorem qny {kvs:List (List Key×V)}(ok:HOk P w H h)(e:Rd H a (.dT kvs)):kvs.length<=Au/\(a == sysModules)=false /\
  ∃xs,KT H kvs xs/\h.DictOfH (tupleKind (qb2 P w)) a xs:=by
 obtain⟨z,y,xs,r,o,d,ep,f,i,c,j,g⟩:=(show ObjOk P w H h a (.dT kvs) from qyi ok e);refine⟨z,y,xs,r,o,d,ep,f,i,c,j,λx b=>?_,g⟩;have all:∀{l:List (List Key×V)}{m:List (List Key×Addr×Value)},KT H l m->∀x∈m,(tupleKind (qb2 P w)).is h x.1 x.2.1:=by
  intro l m q
  induction q with
  |nil=>intro x b;exact nomatch b
  | @cons p q ps qs hq t ih =>
   intro x b;rcases Ap.mp b with e|b
   .subst e;exact qj8 ok (by rw[<- hq.1];exact hq.2.1)
   .exact ih x b
 exact all r x b
theorem dt_of {kvs:List (List Key×V)}(ok:HOk P w H h)(e:H a=some (.dT kvs)):kvs.length<=Au/\(a == sysModules)=false /\
  ∃xs,KT H kvs xs/\h.DictOfH (tupleKind (qb2 P w)) a xs:=qny ok (.inl e)
end
def DGet (H:Hp)(a:Addr)(y:V)(r:Option V):Prop :=
 (∃kvs k,Rd H a (.dK kvs)/\y=kV k/\r=qdx kvs k) \/ ∃kvs k b,Rd H a (.dT kvs)/\y=.ref b/\H b=some (.tup (k.map kV))/\r=qdx kvs k
def DPut (H:Hp)(a:Addr)(y v:V)(H':Hp):Prop :=
 (∃kvs k,H a=some (.dK kvs)/\y=kV k/\kvs.length<Au/\H'=upd H a (.dK (qfk kvs k v))) \/
 ∃kvs k b,H a=some (.dT kvs)/\y=.ref b/\H b=some (.tup (k.map kV))/\kvs.length<Au/\H'=upd H a (.dT (qfk kvs k v))
theorem DGet.k {H:Hp}{a:Addr}{kvs:List (Key×V)}{k:Key}(e:H a=some (.dK kvs)):DGet H a (kV k) (qdx kvs k):=.inl ⟨kvs,k,.inl e,Z,Z⟩
theorem DPut.k {H:Hp}{a:Addr}{kvs:List (Key×V)}{k:Key}{v:V}(e:H a=some (.dK kvs))(hl:kvs.length<Au):DPut H a (kV k) v (upd H a (.dK (qfk kvs k v))):=.inl ⟨kvs,k,e,Z,hl,Z⟩
section
variable {X:Cx}{pins:List (Addr×Obj)}{σ:St}{H:Hp}{s:Ah}{a:Addr}{y v:V}{u r:Value}{o:Option V}{A:AQ}{E:Value->Ah->Prop}
theorem Inv.big (I:Inv X pins σ H s):sysModules<s.heap.objs.size:=by have h:AD<s.heap.objs.size:=(I.mod.glob.keeps I.bk).lt;exact Nat.lt_trans En h
theorem qr7 {Q:Value->Ah->Prop}(r:A.units+1<cLine)(I:Inv X pins σ H s)(g:DGet H a y (some v))(q:RelV y u)(h:∀c s',Inv X pins σ H s'->RelV v c->Q c s') :
  wpAny (model X.prog X.w) A (getItem (.ref a) u) Q E s:=by
 rcases g with ⟨kvs,k,e,j,l⟩|⟨kvs,k,b,e,j,x,l⟩
 .subst j;obtain⟨z,hd,vs,d,m⟩:=qnx I.hok e;obtain⟨c,i,f⟩:=RelO.some_of (v:=v) (o:=valueAt vs k) (by rw[l];exact d.val k);exact wpAny_getItem_of (qnw q) m.mapOf i (h c _ (I.tok _) f)
 .subst j;cases (show u=AJ b from q);obtain⟨z,hd,xs,d,m⟩:=qny I.hok e;obtain⟨c,i,f⟩:=RelO.some_of (v:=v) (o:=(atKey xs k).map (·.2)) (by rw[l];exact d.val k);obtain⟨p,t,n⟩:=DH.mp i;refine wpAny_getItem_heap (D8 r) (qj8 I.hok x) m t ?_;rw[n];exact h c _ (I.tok _) f
theorem d_in {Q:Value->Ah->Prop}(j:A.units+1<cLine)(I:Inv X pins σ H s)(g:DGet H a y o)(i:RelV y u)(h:∀s',Inv X pins σ H s'->Q (.bool o.isSome) s') :
  wpAny (model X.prog X.w) A (compareOp .In u (.ref a)) Q E s:=by
 rcases g with ⟨kvs,k,e,d,l⟩|⟨kvs,k,b,e,d,m,l⟩
 .subst d;obtain⟨z,hd,vs,c,f⟩:=qnx I.hok e;refine wpAny_in_of (qnw i) hd f.mapOf ?_;rw[<- (c.val k).isSome_eq,<- l];exact h _ (I.tok _)
 .subst d;cases (show u=AJ b from i);obtain⟨z,hd,xs,c,f⟩:=qny I.hok e;refine wpAny_in_heap (D8 j) (qj8 I.hok m) hd f ?_;have q:=(c.val k).isSome_eq;rw[Option.isSome_map]at q;rw[<- q,<- l];exact h _ (I.tok _)
theorem qww {Q:Value->Ah->Prop}(j:A.units+1<cLine)(I:Inv X pins σ H s)(g:DGet H a y o)(i:RelV y u)(h:∀s',Inv X pins σ H s'->Q (.bool (!o.isSome)) s') :
  wpAny (model X.prog X.w) A (compareOp .NotIn u (.ref a)) Q E s:=by
 rcases g with ⟨kvs,k,e,d,l⟩|⟨kvs,k,b,e,d,m,l⟩
 .subst d;obtain⟨z,hd,vs,c,f⟩:=qnx I.hok e;refine wpAny_notIn_of (qnw i) hd f.mapOf ?_;rw[<- (c.val k).isSome_eq,<- l];exact h _ (I.tok _)
 .subst d;cases (show u=AJ b from i);obtain⟨z,hd,xs,c,f⟩:=qny I.hok e;refine wpAny_notIn_heap (D8 j) (qj8 I.hok m) hd f ?_;have q:=(c.val k).isSome_eq;rw[Option.isSome_map]at q;rw[<- q,<- l];exact h _ (I.tok _)
theorem qqx {h':Heap}{t':Nat}{c:HO}(I:Inv X pins σ H s)(f:Mut (H a))(hs:BU a s.heap h')(h:∃q,h'.get? a=some q)(d:ObjOk X.prog X.w (upd H a c) h' a c) :
  Inv X pins σ (upd H a c) {s with heap:=h',toks:=t'} :=
 I.write (x:=a) (e:=a) f (.inl Z) (λb q g z=>(hs.2 b g).trans z) h d
theorem qy6 {P:AH}{w:World}{c:Hp}{h':Heap}{kvs:List (Key×V)}{vs:List (Key×Value)}(z:kvs.length<=Au)(hd:(a == sysModules)=false)(b:KV kvs vs)(d:h'.DictOf (qb2 P w) a vs) :
  ObjOk P w c h' a (.dK kvs):=⟨z,hd,vs,b,d⟩
theorem qr8 {o:Hp}{Q:Unit->Ah->Prop}(F:A.units+1<cLine)(I:Inv X pins σ H s)(g:DPut H a y v o)(x:RelV y u)(B:RelV v r)(h:∀s',Inv X pins σ o s'->Q () s') :
  wpAny (model X.prog X.w) A (setItem (.ref a) u r) Q E s:=by
 rcases g with ⟨kvs,k,e,m,l,j⟩|⟨kvs,k,b,e,m,t,l,j⟩
 .subst m j;obtain⟨z,hd,vs,d,n⟩:=qqw I.hok e;have hz:vs.length<=Au:=by rw[<- d.length];exact z
  have hl:(qfk kvs k v).length<=Au:=by have:=qf6 kvs k v;lia
  refine wpAny_setItem_pairs (hsz:=hz) (qnw x) n λh' f hs=>h _ ?_;have L:∃q,h'.get? a=some q:=let ⟨q,_,_,i,_⟩:=f;⟨q,i⟩;exact qqx I (by rw[e];exact CP) hs L (qy6 hl hd (d.put k B) f)
 .subst m j;cases (show u=AJ b from x);obtain⟨z,hd,xs,d,n⟩:=dt_of I.hok e;have hz:xs.length<=Au:=by rw[<- CZ.length d];exact z
  have hl:(qfk kvs k v).length<=Au:=by have:=qf6 kvs k v;lia
  refine wpAny_setItem_heap (hsz:=hz) (D8 F) (qj8 I.hok t) n λh' f hs=>h _ ?_;obtain⟨q,D,ep,i,J,C,K,_,G⟩:=f;refine qqx I (by rw[e];exact CP) hs ⟨q,i⟩ ⟨hl,hd,_,(d.put k t B).keeps λc ys p=>?_,q,D,ep,i,J,C,K,G⟩;rw[ze (ne_of p e (λz=>nomatch z))];exact p
end
section
variable {X:Cx}{pins:List (Addr×Obj)}{σ:St}{H:Hp}{s:Ah}{a:Addr}{kvs:List (Key×V)}{k:Key}{u:Value}{A:AQ}{E:Value->Ah->Prop}
end
def NoSl (i:Expr):Prop:=∀ov iv,subscripted i false ov iv=operate [ov,iv] (getItem ov iv)
theorem qwx {prog:AH}{w:World}{A:AQ}{E:Value->Ah->Prop}{s:Ah}{env:Env}{a slice:Expr}{pos:Pos}{T id:String}{Q:Value->Ah->Prop}
  (hl:typeLookup (.type T) "__getitem__"=pure (some (.builtin id)))(hs:NoSl slice)
  (h:wpAny (model prog w) A (eval a env) (λo f=>wpAny (model prog w) A (eval slice env) (λi c=>c.TypeIs o T/\wpAny (model prog w) A (getItem o i) Q E c) E f) E s) :
  wpAny (model prog w) A (eval (.Subscript a slice pos) env) Q E s:=by
 refine Subscript_ (BQ h (λo f j=>BQ j (λi c d=>?_) λ_ _ x=>x) λ_ _ x=>x);obtain⟨g,d⟩:=d;unfold subscriptTail;refine Ad ?_;rw[getitemInPython_of_ne g.not_modules];refine Ad (wpAny_specialOf g hl ?_);have b:wpAny (model prog w) A (subscripted slice false o i) (λr e=>wpAny (model prog w) A (letTemporaryGo a o r >>= λ_=>pure r) Q E e) E c:=by rw[hs o i];exact wpAny_operating (BQ d (λr e k=>Ad (wpAny_letTemporaryGo (A1 k))) λ_ _ x=>x)
 first
  |exact A1 (Ad b)
  |exact Ad (A1 (Ad b))
  |exact Ad b
theorem qnz {X:Cx}{d:List (Addr×Obj)}{σ:St}{H:Hp}{s:Ah}{a:Addr}{y:V}{o:Option V}(I:Inv X d σ H s)(g:DGet H a y o):s.TypeIs (.ref a) "dict" := by
 rcases g with ⟨kvs,k,e,_,_⟩|⟨kvs,k,b,e,_,_,_⟩
 .obtain⟨_,_,vs,_,c⟩:=qnx I.hok e;exact c.typeIs
 .obtain⟨_,_,xs,_,c⟩:=qny I.hok e;exact c.typeIs
def tDGet (td ty:TE):TE:=λσ H Q=>td σ H λx H1=>ty σ H1 λy H2=>∃a v,x=.ref a/\DGet H2 a y (some v)/\Q v H2
def tDIn (ty td:TE):TE:=λσ H Q=>ty σ H λy H1=>td σ H1 λx H2=>∃a o,x=.ref a/\DGet H2 a y o/\Q (.bl o.isSome) H2
def qwy (ty td:TE):TE:=λσ H Q=>ty σ H λy H1=>td σ H1 λx H2=>∃a o,x=.ref a/\DGet H2 a y o/\Q (.bl (!o.isSome)) H2
def sDPut (td ty tv:TE):TS:=λD σ H=>tv σ H λv H1=>td σ H1 λx H2=>ty σ H2 λy H3=>∃a H4,x=.ref a/\DPut H3 a y v H4/\D.nx σ H4
section
variable {X:Cx}{o i e value:Expr}{pos pos' tpos:Pos}{td ty tv:TE}
theorem qhz (l:X.A.units+1<cLine)(t:PE X o td)(k:PE X i ty)(hs:NoSl i):PE X (.Subscript o i pos) (tDGet td ty):=by intro b s σ H Q I h;refine qwx PySem.F.slot_dict_getitem.lookup hs (thn (t b s σ H _ I h) λu j ⟨x,p,m,n,f⟩=>thn (k b j σ p _ m f) λiv s2 d=>?_);obtain⟨y,w,c,r,a,v,ex,g,q⟩:=d;subst ex;obtain rfl:u=AJ a:=n;exact⟨qnz c g,qr7 l c g r λw' s3 z e=>⟨v,w,z,e,q⟩⟩
theorem qy7 (k:X.A.units+1<cLine)(f:PE X i ty)(r:PE X o td):PC X .In i o (tDIn ty td):=by intro b s σ H Q I h;refine thn (f b s σ H _ I h) λiv e ⟨y,n,l,q,d⟩=>thn (r b e σ n _ l d) λu s2 c=>?_;obtain⟨x,t,j,m,a,ov,ex,g,p⟩:=c;subst ex;obtain rfl:u=AJ a:=m;exact d_in k j g q λs3 v=>⟨.bl ov.isSome,t,v,Z,p⟩
theorem qgu (k:X.A.units+1<cLine)(f:PE X i ty)(r:PE X o td):PC X .NotIn i o (qwy ty td):=by intro b s σ H Q I h;refine thn (f b s σ H _ I h) λiv e ⟨y,n,l,q,d⟩=>thn (r b e σ n _ l d) λu s2 c=>?_;obtain⟨x,t,j,m,a,ov,ex,g,p⟩:=c;subst ex;obtain rfl:u=AJ a:=m;exact qww k j g q λs3 v=>⟨.bl (!ov.isSome),t,v,Z,p⟩
theorem qmv (m:X.A.units+1<cLine)(C:PE X o td)(f:PE X i ty)(n:PE X value tv)(hs:swapsWith value (some (.Subscript o i pos')) pos.line X.env=pure false) :
  PS X (.Assign [.Subscript o i pos'] value pos) (sDPut td ty tv):=by
 intro b s σ H D I h;refine wpAny_Assign_Subscript (thn (n b s σ H _ I h) λr e ⟨v,w,p,J,d⟩=>thn (C b e σ w _ p d) λu k ⟨x,F,j,q,z⟩=>thn (f b k σ F _ j z) λiv s3 c=>?_) hs;obtain⟨y,H3,G,B,a,t,ex,g,E⟩:=c;subst ex;obtain rfl:u=AJ a:=q;exact qr8 m G g B J λs4 l=>⟨σ,t,l,E⟩
end
theorem qt6 {P:AH}{w:World}{H:Hp}(h:Heap)(a:sysModules<h.objs.size):ObjOk P w H (h.push {cls:=.type "dict",data:=.dict #[]}) h.objs.size (.dK []) :=
 ⟨Bj _,beq_eq_false_iff_ne.mpr (Bc (AI a)),[],.nil,Heap.DictOf.new h⟩
def qy8:TE:=λ_ H Q=>∀p,H p=none->Q (.ref p) (upd H p (.dK []))
section
variable {X:Cx}{pos:Pos}
theorem qj9:PE X (.Dict [] [] pos) qy8:=λpins s σ H Q I h =>
 wpAny_Dict_empty ⟨.ref s.heap.objs.size,_,I.laid (a:=s.heap.objs.size) (o:=.dK []) (t':=s.toks) (λ_ _ q=>Aj _ q) (Ax _) (qt6 s.heap I.big),Z,h _ (I.hok.fresh (Ax _))⟩
end
section
variable {X:Cx}{pins:List (Addr×Obj)}{σ:St}{H:Hp}{s:Ah}{a:Addr}{y d:V}{u r:Value}{o:Option V}{A:AQ}{E:Value->Ah->Prop}
end
section
variable {X:Cx}{o e f:Expr}{apos cpos:Pos}{td ty tx:TE}
end
section
variable {X:Cx}{pins:List (Addr×Obj)}{σ:St}{H:Hp}{s:Ah}{a:Addr}{kvs:List (Key×V)}{A:AQ}{E:Value->Ah->Prop}
end
section
variable {X:Cx}{pins:List (Addr×Obj)}{σ:St}{H:Hp}{s:Ah}{a:Addr}{y:V}{u:Value}{A:AQ}{E:Value->Ah->Prop}
end
end L2
namespace L2
open PySem PySem.Spec PyProof.Rows
section
variable {κ:Type}[DecidableEq κ]
end
end L2
namespace Add
open PySem PySem.Spec PyProof.Rows L2
theorem pos {j:Int}(h:0<j):0<j:=h
theorem qpp {i j:Int}(h : -1000000<i)(h':i<1000000):CMul i j:=.inl ⟨by lia,by lia⟩
section
variable {K:Ag}
theorem qn0:DE K (.type "int") (.type "int")=some true:=by kernel_rfl
end
section
variable {X:Cx}
theorem qka:qek X (.builtin "isinstance") (λxs H Q=>∃x t c b,xs=[x,.ty c]/\TyOf X.K H x t/\DE X.K t (.type c)=some b/\Q (.bl b) H):=by intro pins s σ H xs us Q I r h;obtain⟨x,t,c,b,rfl,ty,e,q⟩:=h;obtain⟨u,f,rfl,a,d⟩:=Vals.two r;cases (show f=CY c from d);exact qr3 I a ty e λtk=>⟨.bl b,H,I.tok tk,Z,q⟩
noncomputable def qkb:List V->List V->Bool
 | [],[]=>true
 |x::xs,y::ys=>eqV x y && qkb xs ys
 |_,_=>false
noncomputable def eAt (xs ys:List V)(j:Nat):Bool:=match xs[j]?,ys[j]? with
 |some x,some y=>eqV x y
 |_,_=>false
theorem qt7:∀(xs ys:List V),((AR (min xs.length ys.length)).all (eAt xs ys) && (xs.length == ys.length))=qkb xs ys
 | [],[]=>rfl
 | [],_::_=>by simp[qkb]
 |_::_,[]=>by simp[qkb]
 |x::xs,y::ys=>by
  have a:=qt7 xs ys;have e:min (x::xs).length (y::ys).length=min xs.length ys.length+1:=by simp only[Am];lia
  rw[e,List.range_succ_eq_map,D3,DI];have f:(eAt (x::xs) (y::ys) ∘ Nat.succ)=eAt xs ys:=by funext j;simp[eAt,Function.comp]
  have g:((x::xs).length == (y::ys).length)=(xs.length == ys.length):=by simp
  rw[f,g];show ((eqV x y && (AR (min xs.length ys.length)).all (eAt xs ys)) && (xs.length == ys.length))=(eqV x y && qkb xs ys);rw[<- a,Bool.and_assoc]
theorem qn1 {A:AQ}{s:Ah}{xs ys:List V}{us ws:List Value}(r:Vals xs us)(r':Vals ys ws)(m:xs.all qeb=true)(fy:ys.all qeb=true) :
  ∀j (d:j<us.toArray.size) (e:j<ws.toArray.size),BC A s us.toArray[j] ws.toArray[j] (eAt xs ys j):=by
 intro j d e;have a:j<xs.length:=by rw[r.length];simpa using d
 have b:j<ys.length:=by rw[r'.length];simpa using e
 obtain⟨u,c,h⟩:=r.get (i:=j) (x:=xs[j]) (by simp[a]);obtain⟨w,f,g⟩:=r'.get (i:=j) (x:=ys[j]) (by simp[b]);have n:us.toArray[j]=u:=by
  have:us[j]?=some us[j]:=by simp
  rw[this]at c;simpa using A5 c
 have k:ws.toArray[j]=w:=by
  have:ws[j]?=some ws[j]:=by simp
  rw[this]at f;simpa using A5 f
 have l:eAt xs ys j=eqV xs[j] ys[j]:=by simp[eAt,a,b]
 rw[n,k,l];exact qt1 h g (Bk.mp m _ (Bw a)) (Bk.mp fy _ (Bw b))
end
section
variable {X:Cx}{tg:Expr}
end
section
open PySem.SeqAt
open PySem.AutoSeq1 (wpAny_loadPart')
open PySem.MeetsSeq PySem.MeetsSeq2 PySem.MeetsSeq3
open HT
end
section
variable {prog:AH}{w:World}{A:AQ}{E:Value->Ah->Prop}{s:Ah}
end
section
variable {X:Cx}
end
theorem qhc {env:Env}:∀(names:List (Str×Bq))(b:List (Str×Addr)),(∀x∈names,x.2=.free->∃c,env.cells.lookup x.1=some c) ->
  (∀x c,b.lookup x=some c->env.cells.lookup x=some c) ->
  ∃f,(forIn names b λ(x:Str×Bq)(w:List (Str×Addr))=>if (x.2 == Bl)=true then (do let a <- cellOf env x.1;pure (Dd ((x.1,a)::w))) else (pure (Dd w):Sem (ForInStep (List (Str×Addr)))))=pure f /\
   (∀x c,f.lookup x=some c->env.cells.lookup x=some c)/\(∀x,(b.lookup x).isSome=true->(f.lookup x).isSome=true)/\∀x∈names,x.2=.free->(f.lookup x.1).isSome=true
 | [],b,_,ha=>⟨b,Z,ha,λ_ h=>h,λ_ h=>absurd h (by simp)⟩
 | (n,k)::r,b,hf,ha=>by
  have s:∀x∈r,x.2=.free->∃c,env.cells.lookup x.1=some c:=λx g=>hf x (Aq _ g);rw[List.forIn_cons];cases hk:(k == Bl) with
  |false =>
   obtain⟨f,e,o,m,p⟩:=qhc r b s ha;refine⟨f,?_,o,m,λx g i=>?_⟩
   .simp only[hk,Db,if_false];exact e
   .rcases Ap.mp g with z|z
    .subst z;have y:k=.free:=i;subst y;exact absurd hk En
    .exact p x z i
  |true =>
   have u:k=.free:=by simpa using hk
   obtain⟨c,v⟩:=hf (n,k) Ak u;have t:∀x d,((n,c)::b).lookup x=some d->env.cells.lookup x=some d:=λx d e=>by
    rw[Bx]at e;cases q:x == n with
    |true =>
     rw[q]at e;have A:x=n:=by simpa using q
     subst A;rw[v];exact e
    |false=>rw[q]at e;exact ha x d e
   obtain⟨f,e,o,m,p⟩:=qhc r ((n,c)::b) s t;have l:((((n,c)::b).lookup n).isSome)=true:=by simp
   refine⟨f,?_,o,λx g=>m x ?_,λx g i=>?_⟩
   .have j:cellOf env n=pure c:=by unfold cellOf;rw[v]
    simp only[hk,if_true,j];exact e
   .rw[Bx];cases q:x == n with|true=>rfl|false=>exact g
   .rcases Ap.mp g with z|z
    .subst z;exact m n l
    .exact p x z i
theorem qhd {env:Env}{scope:Scope}(g:∀x∈scope.names,x.2=.free->∃c,env.cells.lookup x.1=some c) :
  ∃a,closureFor scope env=pure a/\(∀x c,a.lookup x=some c->env.cells.lookup x=some c)/\∀x∈scope.names,x.2=.free->(a.lookup x.1).isSome=true:=by
 obtain⟨a,e,f,_,d⟩:=qhc scope.names [] g (λx c h=>absurd h (by simp));refine⟨a,?_,f,d⟩;unfold closureFor;exact(congrArg (λz=>z >>= λb=>(pure b:Sem (List (Str×Addr)))) e).trans rfl
noncomputable def qkc (N:List Str)(js:List (Option Nat))(XN:List Str)(xs scope:Scope):Bool :=
 (scope.kind == .function) && (scope.names.all λx=>x.2 != .cell) && (scope.names.all λx=>x.2 != .local || (scope.names.lookup x.1 == some .local)) &&
 (scope.names.all λx=>x.2 != .free || (xs.names.lookup x.1 == some .cell || xs.names.lookup x.1 == some .free)) && (N.length == js.length) &&
 ((N.zip js).all λp=>match p.2 with|none=>true|some j=>(XN[j]? == some p.1) && (xs.names.lookup p.1 == some .cell || xs.names.lookup p.1 == some .free) && (scope.names.any λx=>x.1 == p.1 && x.2 == .free) && (scope.names.lookup p.1 == some .free))
structure CompNm (N:List Str)(js:List (Option Nat))(XN:List Str)(xs scope:Scope):Prop where
 kind:scope.kind=.function
 nocell:∀x∈scope.names,x.2 ≠ .cell
 names:∀x∈scope.names,x.2=.local->scope.names.lookup x.1=some .local
 clos:∀x∈scope.names,x.2=.free->(xs.names.lookup x.1=some .cell\/xs.names.lookup x.1=some .free)
 len:N.length=js.length
 free:∀(i j:Nat)(x:Str),N[i]?=some x->js[i]?=some (some j)->XN[j]?=some x/\(xs.names.lookup x=some .cell\/xs.names.lookup x=some .free)/\(x,Bl)∈scope.names/\scope.names.lookup x=some .free
theorem qis {N:List Str}{js:List (Option Nat)}{XN:List Str}{xs scope:Scope}(h:qkc N js XN xs scope=true):CompNm N js XN xs scope:=by
 unfold qkc at h;simp only[AN,Bk,beq_iff_eq,Bool.or_eq_true,bne_iff_ne,ne_eq]at h;obtain⟨⟨⟨⟨⟨o,s⟩,m⟩,t⟩,q⟩,u⟩:=h;refine⟨o,λx a=>s x a,λx a e=>?_,λx a e=>?_,q,λi j x v g=>?_⟩
 .rcases m x a with z|z
  .exact absurd e z
  .exact z
 .rcases t x a with z|z
  .exact absurd e z
  .exact z
 .have hz:(N.zip js)[i]?=some (x,some j):=by rw[List.getElem?_zip_eq_some];exact⟨v,g⟩
  have:=u _ (Al hz);simp only[AN,beq_iff_eq,Bool.or_eq_true,List.any_eq_true]at this;obtain⟨⟨⟨l,w⟩,y,f,d,r⟩,p⟩:=this;refine⟨l,w,?_,p⟩;obtain⟨n,k⟩:=y;have b:n=x:=d;have c:k=.free:=r;subst b c;exact f
theorem qn2 {env:Env}{scope:Scope}{x:Str}(h:scope.names.lookup x=some .free):(relabel scope env).names.lookup x=some .cell\/(relabel scope env).names.lookup x=some .free:=by
 have b:∀(l:List (Str×Bq)),l.lookup x=some .free->((l.map λ(n,k)=>if (k == Bl && env.scope.kind == .function && env.kindOf n == some .cell) then (n,Bq.cell) else (n,k)).lookup x=some .cell\/(l.map λ(n,k)=>if (k == Bl && env.scope.kind == .function && env.kindOf n == some .cell) then (n,Bq.cell) else (n,k)).lookup x=some .free):=by
  intro l
  induction l with
  |nil=>intro h;simp at h
  |cons y r ih =>
   obtain⟨n,k⟩:=y;intro h;rw[Bx]at h;rw[At];cases q:x == n with
   |false =>
    rw[q]at h;have:=ih h;by_cases a:(k == Bl && env.scope.kind == .function && env.kindOf n == some .cell)=true
    .simpa [a,Bx,q] using this
    .simpa [a,Bx,q] using this
   |true =>
    rw[q]at h;have h':k=.free:=A5 h;subst h';by_cases a:(Bl == Bl && env.scope.kind == .function && env.kindOf n == some .cell)=true
    .exact .inl (by show CL x ((if (Bl == Bl && env.scope.kind == .function && env.kindOf n == some .cell)=true then (n,Bq.cell) else (n,Bl))::_)=_;rw[if_pos a,Bx,q])
    .exact .inr (by show CL x ((if (Bl == Bl && env.scope.kind == .function && env.kindOf n == some .cell)=true then (n,Bq.cell) else (n,Bl))::_)=_;rw[if_neg a,Bx,q])
 exact b scope.names h
noncomputable def qcj (X:Cx)(N:List Str)(scope:Scope)(cl:List (Str×Addr))(C:Addr)(s:Ah)(H:Hp)(fp:List Addr)(E:Value->Ah->Prop):Cx :=
 {X with N:=N,s₀:=s,H₀:=H,env:=compEnvC scope cl C X.env,outer:=X.stack,ex:=fp,fn:=λ_=>false,pn:=[],xe:=E}
noncomputable def qdd (js:List (Option Nat))(σ:L2.St):L2.St:=js.map λj=>j.bind λk=>(σ[k]?).join
section
variable {prog:AH}{w:World}{A:AQ}{R:Result->Ah->Prop}{s:Ah}
theorem qpq {i a f:Expr}{d:List Expr}{scope:Scope}{pos:Pos}{it g:Value}{env:Env}(I:Nat->Ah->Prop)
  (l:∀n s,I n s->wpAny (model prog w) A (pyNext it) (λr o=>match r with
   |none=>R (.ok .next) o
   |some v=>wpAny (model prog w) A (letOwnedTupleGo a it v) (λ_ j=>wpAny (model prog w) A (assign a env v) (λ_ y =>
     wpAny (model prog w) A (forIn d true λc r=>if r=true then do let ok <- isTrue c env (eval c env);pure (Dd ok) else pure (Dd r)) (λok k =>
      if ok=true then wpAny (model prog w) A (eval i env) (λx z =>
       wpAny (model prog w) A (call (.builtin "list.append") [g,x]) (λ_ u=>∃m,m<n/\I m u) (notedBy (model prog w) A env λe b=>R (.error e) b) z) (notedBy (model prog w) A env λe b=>R (.error e) b) k
      else ∃m,m<n/\I m k) (notedBy (model prog w) A env λe b=>R (.error e) b) y) (notedBy (model prog w) A env λe b=>R (.error e) b) j)
     (notedBy (model prog w) A env λe b=>R (.error e) b) o) (notedBy (model prog w) A env λe b=>R (.error e) b) s)
  (n:Nat)(h:I n s):codeAny (model prog w) A (.compLoop (.ListComp i [⟨a,f,d,0⟩] scope pos) 0 it g env) R s:=by
 refine codeAny_loop rfl I (λn s B=>?_) n h;show wpAny _ A ((compTurn (.ListComp i [⟨a,f,d,0⟩] scope pos) 0 it g env).onRaise (λx=>do noteFrame x env;theTreesLotGoes x)) _ _ s;refine wpAny_noted ?_;rw[compTurn_list];refine Ad (Df (Ad (BQ (l n s B) (λr o p=>?_) λ_ _ h'=>h')));cases r with
 |none=>exact A1 p
 |some v =>
  refine Ad (BQ p (λ_ j q=>?_) λ_ _ h'=>h');refine Ad (BQ q (λ_ y C=>Ad (BQ C (λok k t=>?_) λ_ _ h'=>h')) λ_ _ h'=>h');cases ok with|false=>exact A1 ⟨Z,t⟩|true =>exact Ad (Ad (BQ t (λx z E=>Ad (BQ E (λ_ u D=>A1 (A1 ⟨Z,D⟩)) λ_ _ h'=>h')) λ_ _ h'=>h'))
end
def PTs (X:Cx)(ifs:List Expr)(t:TT):Prop :=
 ∀(pins:List (Addr×Obj))(s:Ah)(σ:L2.St)(H:Hp)(Q:Bool->Hp->Prop),Inv X pins σ H s->t σ H Q ->
  wpAny (model X.prog X.w) X.A (forIn ifs true λc r=>if r=true then do let ok <- isTrue c X.env (eval c X.env);pure (Dd ok) else pure (Dd r)) (TP X pins σ Q) X.xe s
def qn3:TT:=λ_ H Q=>Q true H
theorem qb4 {X:Cx}:PTs X [] qn3:=λ_ _ _ H _ I h=>wpAny_tests_nil ⟨H,I,h⟩
theorem qqy {X:Cx}{c:Expr}{t:TT}(b:PT X c t):PTs X [c] t:=λa s σ H Q I h=>wpAny_tests_one (b a s σ H Q I h)
def qf7 (js:List (Option Nat))(g:TG)(tc:TT)(te:TE)(σ:L2.St)(Q:VK)(J:It)(H1:Hp):Prop:=∀p,H1 p=none ->
 ∃W:Nat->Nat->L2.St->Hp->Prop,(∃m,W 0 m (qdd js σ) (upd H1 p (.lst [])))/\∀i m σ' H',W i m σ' H' ->
  (J.stop i H'/\Q (.ref p) H')\/(J.go i H'/\∃N:L2.St->Hp->Prop,(∀σ2 H2,N σ2 H2->∃m',m'<m/\W (i+1) m' σ2 H2) /\
   ∀x H2,J.yld i H' x H2->g x σ' H2 λσ3 H3=>tc σ3 H3 λk H4=>if k=true then te σ3 H4 λv H5=>∃xs,H5 p=some (.lst xs)/\xs.length<Au/\N σ3 (upd H5 p (.lst (xs++[v]))) else N σ3 H4)
def qyj (js:List (Option Nat))(wi:TI)(g:TG)(tc:TT)(te:TE):TE:=λσ H Q=>wi σ H (qf7 js g tc te σ Q)
section
variable {X:Cx}{N XN:List Str}{js:List (Option Nat)}{xs scope:Scope}{elt target iter:Expr}{ifs:List Expr}{pos:Pos}{g:TG}{tc:TT}{te:TE}
theorem qkd {O:List (Addr×Obj)}{σ:L2.St}{H2:Hp}{G:Ah}{it:Addr}{a:List Addr}{tn:Nat->Heap->Prop}{J:It}{B:List (Str×Addr)}{Q:V->Hp->Prop}{RR:Value->Addr->Result->Ah->Prop}{E:Value->Ah->Prop}
  (U:X.calm=true)(hN:X.N=XN)(hS:X.env.scope=xs)(nm:CompNm N js XN xs scope)(I:∀x c,B.lookup x=some c->X.env.cells.lookup x=some c)(ah:∀x∈scope.names,x.2=.free->(B.lookup x.1).isSome=true)
  (hg:∀(B:List (Str×Addr))(C:Addr)(s:Ah)(H:Hp)(a:List Addr)(E:Value->Ah->Prop),PG (qcj X N scope B C s H a E) target g)
  (ht:∀(B:List (Str×Addr))(C:Addr)(s:Ah)(H:Hp)(a:List Addr)(E:Value->Ah->Prop),PTs (qcj X N scope B C s H a E) ifs tc)
  (he:∀(B:List (Str×Addr))(C:Addr)(s:Ah)(H:Hp)(a:List Addr)(E:Value->Ah->Prop),PE (qcj X N scope B C s H a E) elt te)
  (I2:Inv X O σ H2 G)(T:Turn X.prog X.w X.K target J a it tn)(ag:tn 0 G.heap)(f2:∀b∈a,qe0 X O H2 b)
  (hW:qf7 js g tc te σ Q J H2)
  (ck:∀(p C:Addr)(F:Hp)(L:Ah)(m:Str->Option Value),Inv X O σ F L->L.heap.Ns C m->G.heap.objs.size<=C->F C=none->Q (.ref p) F->RR (.ref p) C (.ok .next) L) :
  wpAny (model X.prog X.w) X.A (newList []) (λbc s₃=>wpAny (model X.prog X.w) X.A (newFunctionEnv scope X.env.globals B [] X.env.qual none .none (some X.env)) (λam s₄ =>
   codeAny (model X.prog X.w) X.A (.compStart (.ListComp elt [⟨target,iter,ifs,0⟩] scope pos) 0 (.ref it) bc {am with scope:=relabel scope X.env}) (RR bc am.locals) s₄) E s₃) E G:=by
 refine Dm (wpAny_newFunctionEnv nm.nocell (by intro y hy;simp at hy) (λh₁ ac aa=>?_) nm.kind)
 obtain⟨W,⟨m0,w0⟩,aq⟩:=hW G.heap.objs.size I2.fresh
 have D:Inv X O σ (upd H2 G.heap.objs.size (.lst [])) {G with heap:=G.heap.push {cls:=.type "list",data:=.seq ([]:List Value).toArray} }:=I2.lnew (ys:=[]) (its:=[]) (t':=G.toks) .nil (Bj _)
 generalize bh:({G with heap:=G.heap.push {cls:=.type "list",data:=.seq ([]:List Value).toArray} }:Ah)=s3 at D ac aa |-
 have bb:s3.heap=G.heap.push {cls:=.type "list",data:=.seq ([]:List Value).toArray}:=by rw[<- bh]
 have z3:s3.heap.objs.size=G.heap.objs.size+1:=by rw[bb,C6]
 generalize hP:G.heap.objs.size=P at w0 aq D z3 |-
 have au:∀b∈a,upd H2 P (.lst []) b=none:=λb f=>by
  have nb:b≠P:=by obtain⟨o,eo,_⟩:=T.obj 0 G.heap ag b f;have:=Az eo;rw[hP]at this;exact AI this
  rw[ze nb];exact(f2 b f).1
 generalize hH:upd H2 P (.lst [])=H3 at w0 D au
 have S:∀b∈a,b≠X.env.locals/\b∉X.fs/\(b∈X.ex\/X.s₀.heap.objs.size<=b)/\(∀x c,X.env.cells.lookup x=some c->c≠b)/\∀p∈X.pn++O,p.1≠b:=λb f=>(f2 b f).2
 have ao:∀b∈a,b<s3.heap.objs.size:=λb f=>by obtain⟨o,eo,_⟩:=T.obj 0 G.heap ag b f;have hl:=Az eo;exact AC hl (by rw[z3,hP];exact C7 _)
 have bf:tn 0 s3.heap:=T.keep 0 _ _ ag λb _ o e=>by rw[bb];exact Aj _ e
 generalize hC:s3.heap.objs.size=C at ac aa z3 ao |-
 have R:∀b o,s3.heap.get? b=some o->h₁.get? b=some o:=λb o e=>aa.extBut b o (by have hl:=Az e;rw[hC]at hl;exact AI hl) (Aj _ e)
 have stk:∀b∈a,b∉frs X.stack:=λb f z=>by
  rcases Ap.mp (D.stkSub b z) with q|q
  .exact(S b f).1 q
  .exact(S b f).2.1 q
 have ok:∀Y,(qcj X N scope B C s3 H3 a Y).Ok:=λY=>{
  mod:=D.ok.mod
  kind:=nm.kind
  glob:=D.ok.glob
  blt:=D.ok.blt
  above:=Cn hC
  inj:=λx y c h1 h2=>D.ok.inj x y c (I x c h1) (I y c h2)
  has:=λx hx=>by
   have bv:(x,Bl)∈scope.names:=by
    have hl:(relabel scope X.env).names.lookup x=some .cell\/(relabel scope X.env).names.lookup x=some .free:=hx;have cb:∀(l:List (Str×Bq)),(∀y∈l,y.2 ≠ .cell)->((l.map λ(n,k)=>if (k == Bl && X.env.scope.kind == .function && X.env.kindOf n == some .cell) then (n,Bq.cell) else (n,k)).lookup x=some .cell\/(l.map λ(n,k)=>if (k == Bl && X.env.scope.kind == .function && X.env.kindOf n == some .cell) then (n,Bq.cell) else (n,k)).lookup x=some .free)->(x,Bl)∈l:=by
     intro l
     induction l with
     |nil=>intro _ h;rcases h with h|h <;>simp at h
     |cons y r ih =>
      obtain⟨n,k⟩:=y;intro hn h;have hr:=ih (λy hy=>hn y (Aq _ hy));have hk:k ≠ .cell:=hn (n,k) Ak;rw[At]at h;cases q:x == n with
      |false =>
       refine Aq _ (hr ?_);by_cases U:(k == Bl && X.env.scope.kind == .function && X.env.kindOf n == some .cell)=true
       .simpa [U,Bx,q] using h
       .simpa [U,Bx,q] using h
      |true =>
       have q':x=n:=by simpa using q
       subst q';by_cases U:(k == Bl && X.env.scope.kind == .function && X.env.kindOf x == some .cell)=true
       .have:k=.free:=by
         simp only[AN,beq_iff_eq]at U
         exact U.1.1
        subst this
        exact Ak
       .have h':k=.cell\/k=.free:=by simpa [U,Bx] using h
        rcases h' with z|z
        .exact absurd z hk
        .subst z;exact Ak
    exact cb scope.names nm.nocell hl
   exact Cg.mp (ah _ bv Z)
  cab:=λ_ _ h _=>nomatch h
  hd:=D.ok.hd
  frames:=D.ok.frames
  stk:=.inl Z
  exf:=λb f=>⟨AI (ao b f),λx c e=>(S b f).2.2.2.1 x c (I x c e)⟩
  bs:=D.bs
  bsz:=A2 D.ok.bsz D.sz
  noex:=λb o e f=>by
   rcases (S b f).2.2.1 with z|z
   .exact D.ok.noex b o e z
   .have h1:=Az e;have h2:=D.ok.bsz;exact absurd (AC h1 (A2 h2 z)) (Cq _)
  exfs:=stk
  funs:=D.stack
  frf:=D.stkFree}
 have qe8:∀Y,Inv (qcj X N scope B C s3 H3 a Y) [] (qdd js σ) H3 {s3 with heap:=h₁,toks:=s3.toks+([]:List (Str×Value)).length}:=λY=>{
  ok:=ok Y
  os:=rfl
  bare:=D.bare
  base:=Un.kept R
  loc:=by
   refine⟨_,ac,λi x v e1 e2 e3=>?_⟩;have a0:((js[i]?).map λj=>j.bind λk=>(σ[k]?).join)=some (some v):=by
    have:=e2;unfold qdd at this
    rwa [Af]at this
   cases hj:js[i]? with
   |none=>rw[hj]at a0;cases a0
   |some jo =>
    rw[hj]at a0;cases jo with
    |none=>cases a0
    |some j =>
     have M:(σ[j]?).join=some v:=A5 a0;have e4:σ[j]?=some (some v):=by
      cases q:σ[j]? with
      |none=>rw[q]at M;cases M
      |some o=>rw[q]at M;cases o with
       |none=>cases M
       |some y=>cases M;rfl
     obtain⟨a1,a2,a3,a4⟩:=nm.free i j x e1 hj;obtain⟨mX,hnX,lX⟩:=D.loc;have bu:Vis X.env.scope x:=by rw[hS];exact .inr a2
     obtain⟨u,ru,lu⟩:=lX j x v (by rw[hN];exact a1) e4 bu;refine⟨u,ru,?_⟩;rcases lu with ⟨k1,_⟩|⟨k1,c,e5,z⟩
     .exfalso;have ak:X.env.scope.names.lookup x=some .local:=k1;rw[hS]at ak;rcases a2 with q|q <;>rw[q]at ak <;>cases ak
     .obtain⟨c',e6⟩:=Cg.mp (ah _ a3 Z);have e7:=I x c' e6;rw[e5]at e7;cases e7;refine .inr ⟨?_,c,e6,?_⟩
      .rcases e3 with q|q|q
       .exfalso;have:=qn2 (env:=X.env) a4;rcases this with t|t <;>(have q':(relabel scope X.env).names.lookup x=some .local:=q;rw[t]at q';cases q')
       .exact .inl q
       .exact .inr q
      .obtain⟨o,ho,hd⟩:=z;exact⟨o,R c o ho,hd⟩
  cell:=λx c e=>by obtain⟨v,o,ho,hd⟩:=D.cell x c (I x c e);exact⟨v,o,R c o ho,hd⟩
  free:=D.hok.fresh (Cn hC)
  freeC:=λx c e=>D.freeC x c (I x c e)
  pin:=λp hp=>absurd (show p∈([]:List (Addr×Obj)) from hp) (by simp)
  hok:=D.hok.kept R
  len:=by unfold qdd;rw[Ab];exact nm.len.symm}
 have done:∀{Y:Value->Ah->Prop}{σ':L2.St}{F:Hp}{L:Ah},Inv (qcj X N scope B C s3 H3 a Y) [] σ' F L->Q (.ref P) F->RR (.ref P) C (.ok .next) L:=λ{Y σ' F L} J' q=>by obtain⟨m',bx,_⟩:=J'.loc;refine ck P C F L m' (D.call' (ch:=a) J'.os J'.base J'.hok J'.bare λb f=>⟨(S b f).2.2.1,(S b f).1,(S b f).2.2.2.1,(S b f).2.2.2.2⟩) bx (by rw[z3,hP];exact C7 _) J'.free q
 have ar:∀s₄:Ah,s₄={s3 with heap:=h₁,toks:=s3.toks+([]:List (Str×Value)).length} ->
   codeAny (model X.prog X.w) X.A (.compLoop (.ListComp elt [⟨target,iter,ifs,0⟩] scope pos) 0 (.ref it) (.ref P) (compEnvC scope B C X.env)) (RR (.ref P) C) s₄:=by
  rintro s₄ rfl;generalize bj:notedBy (model X.prog X.w) X.A (compEnvC scope B C X.env) (λe L=>RR (.ref P) C (.error e) L)=NB;have ad:∀{F:Hp},(∀b∈a,F b=none)->∀b∈a,qe0 (qcj X N scope B C s3 H3 a NB) [] F b:=λhn b f =>
   ⟨hn b f,AI (ao b f),stk b f,.inl f,λx c e=>(S b f).2.2.2.1 x c (I x c e),λp hp=>absurd (show p∈([]:List (Addr×Obj)) from hp) (by simp)⟩
  refine qpq (λn L=>∃i σ' F,Inv (qcj X N scope B C s3 H3 a NB) [] σ' F L/\tn i L.heap/\(∀b∈a,F b=none)/\W i n σ' F) ?_ m0 ⟨0,qdd js σ,H3,qe8 NB,T.keep 0 _ _ bf λb _ o e=>R b o e,au,w0⟩;rw[bj];rintro n s5 ⟨i,σ5,H5,I5,ax,aw,w5⟩;rcases aq i n σ5 H5 w5 with ⟨stop,qn⟩|⟨go,Nx,bp,step⟩
  .refine thn (T.done (qcj X N scope B C s3 H3 a NB) Z Z Z U i [] s5 σ5 H5 NB I5 (ad aw) ax stop) λr s6 ⟨hr,I6⟩=>?_;subst hr;exact done I6 qn
  .refine thn (T.item (qcj X N scope B C s3 H3 a NB) Z Z Z U i [] s5 σ5 H5 NB I5 (ad aw) ax go) λr s6 ⟨u,hr,h6⟩=>?_;subst hr;refine thn h6 λ_ s7 ⟨x,H7,I7,r7,y7,af,cg⟩=>?_;have bt:=I7.pinned (ad cg) (T.obj _ _ af);have ae:∀{σ8:L2.St}{H8:Hp}{s8:Ah},Inv (qcj X N scope B C s3 H3 a NB) ([]++qj1 a s7.heap) σ8 H8 s8->Nx σ8 H8->∃m,m<n/\∃i σ' F,Inv (qcj X N scope B C s3 H3 a NB) [] σ' F s8/\tn i s8.heap/\(∀b∈a,F b=none)/\W i m σ' F:=λ{σ8 H8 s8} I8 n8=>by obtain⟨m',hm,w8⟩:=bp σ8 H8 n8;refine⟨m',hm,i+1,σ8,H8,I8.unpinned,T.keep _ _ _ af λb f o e=>(I8.pin (b,o) (Ay _ (Ay _ (qfh f e)))).1,λb f=>?_,w8⟩;obtain⟨o,e,d⟩:=T.obj _ _ af b f;exact(I8.pin (b,o) (Ay _ (Ay _ (qfh f e)))).2.1
   refine thn (hg B C s3 H3 a NB _ s7 σ5 H7 x u _ bt r7 (step x H7 y7)) λ_ s8 ⟨σ8,H8,I8,q8⟩=>?_;refine thn (ht B C s3 H3 a NB _ s8 σ8 H8 _ I8 q8) λk s9 ⟨H9,I9,q9⟩=>?_;cases k with
   |false =>rw[if_neg En]at q9 |-;exact ae I9 q9
   |true =>rw[if_pos Z]at q9 |-;refine thn (he B C s3 H3 a NB _ s9 σ8 H9 _ I9 q9) λuv br ⟨v,bw,cf,cj,bq,bg,bi,bz⟩=>?_;refine thn (qbh (X:=qcj X N scope B C s3 H3 a NB) _ br σ8 bw (.ref P) [v] (.ref P) [uv] (λ_ ay=>Nx σ8 ay) cf Z (.cons cj .nil) ⟨P,bq,v,Z,Z,bg,bi,bz⟩) λ_ s11 ⟨_,ay,cn,_,cm⟩=>?_;exact ae cn cm
 exact codeAny_compStart_list (ar _ Z) (T.self _ 0 _ _ _ (T.keep 0 _ _ bf λb _ o e=>R b o e) (ar _ Z))
end
section
variable {X:Cx}{N XN:List Str}{js:List (Option Nat)}{xs scope:Scope}{elt target iter:Expr}{ifs:List Expr}{pos:Pos}{wi:TI}{g:TG}{tc:TT}{te:TE}
theorem qi9 {a:List (Addr×Obj)}{σ σ':L2.St}{H h:Hp}{s g:Ah}{C:Addr}{h':Heap}(f:Inv X a σ H s)(J:Inv X a σ' h g)(d:s.heap.objs.size<=C)(k:h C=none)(j:BU C g.heap h'):Inv X a σ' h {g with heap:=h'} :=
 J.turned (t':=g.toks) (it:=C) (λb o l e=>j.extBut b o l e) k (BV (AC f.lt d)) (.inr (A2 f.sz d))
  (λx c e=>by obtain⟨v,q⟩:=f.cell x c e;exact AI (AC q.lt d)) λp i=>AI (AC (Az (f.pin p i).1) d)
theorem qd1 (M:X.calm=true)(o:X.N=XN)(d:X.env.scope=xs)(i:qkc N js XN xs scope=true)(u:PI X target iter wi)
  (O:∀(b:List (Str×Addr))(C:Addr)(s:Ah)(H:Hp)(a:List Addr)(E:Value->Ah->Prop),PG (qcj X N scope b C s H a E) target g)
  (z:∀(b:List (Str×Addr))(C:Addr)(s:Ah)(H:Hp)(a:List Addr)(E:Value->Ah->Prop),PTs (qcj X N scope b C s H a E) ifs tc)
  (R:∀(b:List (Str×Addr))(C:Addr)(s:Ah)(H:Hp)(a:List Addr)(E:Value->Ah->Prop),PE (qcj X N scope b C s H a E) elt te)
  (hs:∀x,foldedSetIterable iter X.env x=pure x:=by intro _;rfl):PE X (.ListComp elt [⟨target,iter,ifs,0⟩] scope pos) (qyj js wi g tc te):=by
 intro c s σ H Q I h;have nm:=qis i;obtain⟨b,hcl,y,S⟩:=qhd (env:=X.env) (scope:=scope) λx P e=>I.ok.has x.1 (by
  rcases nm.clos x P e with q|q
  .exact .inl (by show X.env.scope.names.lookup _=_;rw[d];exact q)
  .exact .inr (by show X.env.scope.names.lookup _=_;rw[d];exact q))
 rw[eval_ListComp];refine wpAny_comprehension_free (use:=none) rfl hs hcl nm.kind nm.names (thn (u c s σ H _ I h) λv s1 B=>thn B λitv s2 D=>?_);obtain⟨it,a,tn,J,H2,e,f,T,l,F,G⟩:=D;subst e;refine qkd (RR:=λn C=>compPost (model X.prog X.w) X.A X.xe none (EP X c σ Q) n C) M o d nm y S O z R f T l F G λp C r s' m K L t k q=>?_;exact⟨m,L,λh' j=>⟨.ref p,r,qi9 f K t k j,Z,q⟩⟩
theorem qck {i:Nat}{x:Str}{f k:Pos}(L:X.N.Nodup)(F:X.N[i]?=some x)(j:X.env.scope.names.lookup x=some .local)(hc:X.calm=true)(hN:X.N=XN)(r:X.env.scope=xs)(t:qkc N js XN xs scope=true)(hi:PI X target iter wi)
  (hg:∀(d:List (Str×Addr))(C:Addr)(s:Ah)(H:Hp)(c:List Addr)(E:Value->Ah->Prop),PG (qcj X N scope d C s H c E) target g)
  (Y:∀(d:List (Str×Addr))(C:Addr)(s:Ah)(H:Hp)(c:List Addr)(E:Value->Ah->Prop),PTs (qcj X N scope d C s H c E) ifs tc)
  (he:∀(d:List (Str×Addr))(C:Addr)(s:Ah)(H:Hp)(c:List Addr)(E:Value->Ah->Prop),PE (qcj X N scope d C s H c E) elt te)
  (U:swapsWith (.ListComp elt [⟨target,iter,ifs,0⟩] scope pos) (some (.Name x f)) k.line X.env=pure true:=by rfl)
  (hs:∀x,foldedSetIterable iter X.env x=pure x:=by intro _;rfl):PS X (.Assign [.Name x f] (.ListComp elt [⟨target,iter,ifs,0⟩] scope pos) k) (qyz (qyj js wi g tc te) (qe6 i)):=by
 intro a s σ H D I h;have nm:=qis t;obtain⟨d,hcl,c1,c2⟩:=qhd (env:=X.env) (scope:=scope) λx hx e=>I.ok.has x.1 (by
  rcases nm.clos x hx e with q|q
  .exact .inl (by show X.env.scope.names.lookup _=_;rw[r];exact q)
  .exact .inr (by show X.env.scope.names.lookup _=_;rw[r];exact q))
 rw[exec_Assign_Name_used _ _ _ _ U];refine Ad (Df (Ad ?_));show wpAny _ X.A (do let _ <- comprehension (.ListComp elt [⟨target,iter,ifs,0⟩] scope pos) scope X.env _ (newList []) false (eval iter X.env) (some (assign (.Name x f) X.env))) _ _ s;refine Ad (BQ (wpAny_comprehension_free (use:=some (assign (.Name x f) X.env)) (Q:=λ_ b=>SP X a D .next b) Z hs hcl nm.kind nm.names
  (thn (hi a s σ H _ I h) λv s1 h1=>thn h1 λitv s2 h2=>?_)) (λ_ b hq=>A1 (A1 hq)) λ_ _ e=>e)
 obtain⟨it,c,tn,J,H2,e,l,T,u,f2,hW⟩:=h2;subst e;refine qkd (Q:=λx H1=>qe6 i x σ H1 D.nx) (RR:=λM C=>compPost (model X.prog X.w) X.A X.xe (some (assign (.Name x f) X.env)) (λ_ b=>SP X a D .next b) M C) hc hN r nm c1 c2 hg Y he l T u f2 hW λp C P b m V hn n K q=>?_;obtain⟨o,W,ep,ho,hd,hr⟩:=id hn;have Jp:Inv X (a++[(C,o)]) σ P b:=V.pins_of λz hz=>(A9.mp hz).elim (λy=>V.pin z (Ay _ y)) λy=>by
  have e:z=(C,o):=by simpa using y
  subst e;exact⟨ho,K,BV (AC l.lt n),l.nofs n,λv z=>by rw[hd]at z;cases z⟩
 refine thn (qam (X:=X) (pos:=f) L F (.inl j) (.inr j) (a++[(C,o)]) b σ P (.ref p) (.ref p) _ Jp Z q) λ_ s'' ⟨σ'',B,S,O⟩=>?_;have R:=S.pin (C,o) (Ay _ (Ay _ (by simp)));refine⟨m,⟨o,W,ep,R.1,hd,hr⟩,λh' G=>⟨σ'',B,qi9 l S.unpinned n R.2.1 G,O⟩⟩
end
def qja (J:It)(H:Hp)(xs:List V):Prop:=∀H',Same H H'->(∀i x,xs[i]?=some x->J.go i H'/\∀y H2,J.yld i H' y H2->y=x/\H2=H')/\J.stop xs.length H'
theorem qbn {K:Ag}{H:Hp}{a:Addr}{xs:List V}(h:SqL K H a xs):qja (Itl K a) H xs:=λH' e =>
 ⟨λi x b=>⟨⟨xs,x,e.seq h,b⟩,λy H2 d=>by obtain⟨c,f⟩:=d;have:=f xs (e.seq h);rw[b]at this;exact⟨(A5 this).symm,c⟩⟩,⟨xs,e.seq h,Ax _⟩⟩
theorem qev {H:Hp}{lo:Int}{n:Nat}:qja (Itr lo n) H ((AR n).map λi=>V.int (lo+(i:Nat))):=λH' _ =>
 ⟨λi x a=>by
  rw[Af]at a;cases q:(AR n)[i]? with
  |none=>rw[q]at a;cases a
  |some j =>
   have d:i<n:=by obtain⟨f,_⟩:=Ac.mp q;simpa using f
   have c:j=i:=by obtain⟨_,e⟩:=Ac.mp q;simpa using e.symm
   rw[q]at a;subst c;exact⟨d,λy H2 b=>⟨b.2.trans (A5 a),b.1⟩⟩,by show n<=_;simp⟩
theorem qb0 {js:List (Option Nat)}{g:TG}{n:TE}{J:It}{σ:L2.St}{H:Hp}{Q:VK}{xs:List V}(f:V->V)(Sv:L2.St->Prop)(F:qja J H xs)(hz:xs.length<=Au)(G:Sv (qdd js σ))
  (step:∀(x:V)(σ':L2.St)(c:Hp)(R:L2.St->VK),x∈xs->Same H c->Sv σ'->(∀σ3,Sv σ3->R σ3 (f x) c)->g x σ' c λσ3 h=>n σ3 h (R σ3))
  (A:∀(x:V)(σ':L2.St)(c:Hp)(R k:L2.St->Hp->Prop),(∀σ3 h,R σ3 h->k σ3 h)->g x σ' c R->g x σ' c k)
  (s:∀p,H p=none->Q (.ref p) (upd H p (.lst (xs.map f)))) :
  qf7 js g qn3 n σ Q J H:=by
 intro p r;have l:∀o,Same H (upd H p o):=λo b u e=>by rw[ze (qab e r)];exact e
 refine⟨λi m σ' c=>m=xs.length-i/\i<=xs.length/\Sv σ'/\c=upd H p (.lst ((xs.take i).map f)),⟨xs.length,by simp,Bj _,G,by simp⟩,?_⟩;rintro i m σ' c ⟨rfl,hi,B,rfl⟩;obtain⟨E,C⟩:=F _ (l (.lst ((xs.take i).map f)));by_cases d:i<xs.length
 .have ex:xs[i]?=some xs[i]:=by simp[d]
  obtain⟨y,D⟩:=E i _ ex;refine .inr ⟨y,λσ2 j=>Sv σ2/\j=upd H p (.lst ((xs.take (i+1)).map f)),λσ2 j ⟨a,b⟩=>⟨xs.length-(i+1),by lia,Z,d,a,b⟩,λx j w=>?_⟩;obtain⟨rfl,rfl⟩:=D x j w;refine A _ _ _ _ _ (λσ3 h z=>?_) (step xs[i] σ' _ (λσ3 v t=>∃ys,t p=some (.lst ys)/\ys.length<Au/\(Sv σ3/\upd t p (.lst (ys++[v]))=upd H p (.lst ((xs.take (i+1)).map f)))) (Bw d) (l _) B λσ3 q=>?_)
  .exact z
  .refine⟨_,qu,?_,q,?_⟩
   .rw[Ab,A6];lia
   .rw[qmn,CN,ex,Ar];rfl
 .have e:i=xs.length:=by lia
  subst e;refine .inl ⟨C,?_⟩;rw[Be];exact s p r
theorem qb5 {i:Nat}(x:V)(σ':L2.St)(b:Hp)(R a:L2.St->Hp->Prop)(h:∀σ3 H3,R σ3 H3->a σ3 H3)(z:qe6 i x σ' b R):qe6 i x σ' b a:=h _ _ z
noncomputable def Ixs (x:Str):It:=⟨λi _=>i<x.cps.size,λi H v H'=>H'=H/\∃c,x.cps[i]?=some c/\v=.str ⟨#[c]⟩,λi _=>i=x.cps.size⟩
theorem ql4 {P:AH}{w:World}{K:Ag}{M:Expr}{it:Addr}{x:Str}{t:Tok}{ty:String}
  (L:["enumerate","zip","dict_itemiterator","dict_reverseitemiterator","odict_iterator","itertools.zip_longest","itertools.pairwise"].contains ty=false)
  (W:∀A':AQ,A'.handled=none->Walks P w A' it [it] [it] x.cps.size (SignAt x) (λi h=>h.IsStrIter it ty x t i))
  (self:∀(A:AQ)(i:Nat)(s:Ah)(Q:Value->Ah->Prop)(E:Value->Ah->Prop),s.heap.IsStrIter it ty x t i->Q (.ref it) s->wpAny (model P w) A (pyIter (.ref it)) Q E s) :
  Turn P w K M (Ixs x) [it] it (λi h=>h.IsStrIter it ty x t i) where
 mem:=by simp
 obj:=λi h st b a=>by
  have e:b=it:=by simpa using a
  subst e;obtain⟨o,f,_,hd⟩:=st;exact⟨o,f,λv z=>by rw[hd]at z;cases z⟩
 keep:=λi h h' st k=>let ⟨o,f,r⟩:=st;⟨o,k it (by simp) o f,r⟩
 item:=by intro X p q F B i d s σ H E I g st D;subst p q F;obtain⟨y,C,R,m,n,G⟩:=g it (by simp);refine(W X.A (I.ok.hd B)).item i s _ _ D st λv h' tk N j l=>?_;obtain⟨c,u,J,rfl⟩:=N;have O:Inv X d σ H {s with heap:=h',toks:=tk}:=I.turned (λb o a e=>l b o (by simpa using a) e) y C m n G;obtain⟨o,f,hcl,hd⟩:=id j;exact⟨_,Z,qqq (s:={s with heap:=h',toks:=tk}) f hcl hd L ⟨.str ⟨#[c]⟩,H,O,⟨u,Z⟩,⟨Z,c,J,Z⟩,j,λb a=>(g b a).1⟩⟩
 done:=by intro X p q F B i d s σ H E I g st D;subst p q F;obtain⟨y,C,R,m,n,G⟩:=g it (by simp);have e:i=x.cps.size:=D;subst e;exact(W X.A (I.ok.hd B)).done s _ _ st λh' tk l=>⟨Z,I.turned (t':=tk) (λb o a e=>l b o (by simpa using a) e) y C m n G⟩
 self:=self
section
variable {X:Cx}{tg:Expr}
def iText (tl:TE):TI:=λσ H R=>tl σ H λv H1=>∃x,v=.str x/\R (Ixs x) H1
theorem qqz {l:Expr}{j:TE}(hl:PE X l j):PI X tg l (iText j):=by
 intro c s σ H R I h;refine thn (hl c s σ H _ I h) λv a ⟨y,f,d,n,m⟩=>?_;obtain⟨x,e,q⟩:=m;subst e;obtain⟨t,rfl⟩:=n;have k:∀b∈[a.heap.objs.size],qe0 X c f b:=λb r=>by
  have e:b=a.heap.objs.size:=by simpa using r
  subst e;exact d.fpOk (Ax _) (d.hok.fresh (Ax _))
 cases i:x.cps.all (· < 128)
 .exact wpAny_pyIter_wide i ⟨a.heap.objs.size,[a.heap.objs.size],_,_,f,Z,d.kept (t':=a.toks) λb o e=>Aj _ e,
   ql4 (ty := "str_iterator") (t:=t) En (λp g=>Walks.strWide g _ x t) (λ_ _ _ _ _ st h=>wpAny_pyIter_striter_wide st h),⟨_,A3 _ Z,Z,Z⟩,k,q⟩
 .exact wpAny_pyIter_ascii i ⟨a.heap.objs.size,[a.heap.objs.size],_,_,f,Z,d.kept (t':=a.toks) λb o e=>Aj _ e,
   ql4 (ty := "str_ascii_iterator") (t:=t) En (λp g=>Walks.strAscii g _ x t) (λ_ _ _ _ _ st h=>wpAny_pyIter_striter_ascii st h),⟨_,A3 _ Z,Z,Z⟩,k,q⟩
end
theorem qke {H:Hp}{x:Str}:qja (Ixs x) H (x.cps.toList.map λc=>V.str ⟨#[c]⟩):=λH' _ =>
 ⟨λi v a=>by
  rw[Af]at a;cases q:x.cps.toList[i]? with
  |none=>rw[q]at a;cases a
  |some c =>
   rw[q]at a;have b:x.cps[i]?=some c:=by simpa using q
   have f:i<x.cps.size:=(Dq.mp b).1;refine⟨f,λy H2 e=>⟨?_,e.1⟩⟩;obtain⟨_,d,hd,rfl⟩:=e;rw[b]at hd;cases hd;exact A5 a,by show _=x.cps.size;simp⟩
section
variable {X:Cx}
theorem qt8 (bs:List Bool):((AR bs.length).all λj=>(bs[j]?).getD true)=bs.all λb=>b:=by
 rw[<- all_rangeD bs λb=>b]
 congr 1
theorem ql5 (y:X.calm=true):qek X (.builtin "all") (λxs H Q=>∃(p:Addr)(bs:List Bool),xs=[V.ref p]/\SqL X.K H p (bs.map V.bl)/\Q (.bl (bs.all λb=>b)) H):=by
 intro pins s σ H xs us Q I r h;obtain⟨p,bs,rfl,n,q⟩:=h;obtain⟨u,rfl,c⟩:=Vals.one r;cases c;obtain⟨its,k,pl,hz⟩:=I.list n;have hl:=k.length;rw[Ab]at hl;have g:p≠s.heap.objs.size:=by obtain⟨o,w,_⟩:=pl.isList;exact AI (Az w)
 refine call_all_walk (DC pl.isList ⟨s.heap.objs.size,_,_,its.toArray.size,_,_,λj=>(bs[j]?).getD true,Z,Walks.list (show X.A.in1.handled=none from I.ok.hd y) _ p g its.toArray,
  ⟨⟨_,A3 _ Z,Z,Z⟩,pl.isList.at λo e=>Aj _ e⟩,?_,λh' tk hk=>?_⟩)
 .intro i v s' Q' E' m d;have a:its[i]?=some v:=by simpa using m
  cases e:bs[i]? with
  |none =>
   exfalso;have t:its.length<=i:=by rw[<- hl];exact BG.mp e
   rw[BG.mpr t]at a;cases a
  |some b =>obtain⟨u,f,c⟩:=k.get (i:=i) (x:=.bl b) (by rw[Af,e];rfl);rw[a]at f;cases f;cases (show v=Value.bool b from c);dsimp only at d;rw[e]at d;exact B9 d
 .refine⟨.bl _,H,I.kept (t':=tk) λb o e=>hk b o (λz=>?_) (Aj _ e),Z,?_⟩
  .have l:b=s.heap.objs.size:=by simpa using z
   exact absurd (Az e) (by rw[l];exact Cq _)
  .have e:its.toArray.size=bs.length:=by rw[An,hl]
   rw[e];rw[qt8];exact q
theorem qgv:OpR X (compareOp .LtE) (λx y H Q=>∃i j,x=.str i/\y=.str j/\Q (.bl (!decide (j.cps.toList<i.cps.toList))) H):=by intro pins s σ H x y v u Q I b a h;obtain⟨i,j,rfl,rfl,q⟩:=h;obtain⟨t,rfl⟩:=b;obtain⟨t',rfl⟩:=a;exact PySem.P.le_str (qaz I q Z)
theorem qpr:SlR X (λx lo b H Q=>∃z,x=.str z/\z.length<=Au/\Q (.str (DS z lo b)) H):=by
 intro c s σ H x v vl vu lo b sl Q I e hs pl d h;obtain⟨z,rfl,hz,q⟩:=h;obtain⟨t,rfl⟩:=e;refine⟨"str",_,F.slot_str_getitem.lookup,typeIs_str _ _ _,?_⟩;have a:∀t' k,EP X c σ Q (.str (DS z lo b) t') {s with toks:=k}:=λt' k=>⟨.str _,H,I.tok k,⟨t',Z⟩,q⟩;cases pl with
 |none =>
  cases d with|none=>exact CU (l:=none) (u:=none) (st:=none) hs rfl (Ec ⟨A2 (DJ z _ _) hz,a⟩)|int j uj=>exact CU (l:=none) (u:=some (j,uj)) (st:=none) hs rfl (Ec ⟨A2 (DJ z _ _) hz,a⟩)
 |int i ui =>
  cases d with|none=>exact CU (l:=some (i,ui)) (u:=none) (st:=none) hs rfl (Ec ⟨A2 (DJ z _ _) hz,a⟩)|int j uj=>exact CU (l:=some (i,ui)) (u:=some (j,uj)) (st:=none) hs rfl (Ec ⟨A2 (DJ z _ _) hz,a⟩)
theorem qn4 {a b}{c:List Expr}{env:Env}:starEach (.List a b::c) env=(false,eval (.List a b) env)::starEach c env:=by rw[starEach];intro e p' h;cases h
theorem zy {a b c}{d:List Expr}{env:Env}:starEach (.Tuple a b c::d) env=(false,eval (.Tuple a b c) env)::starEach d env:=by rw[starEach];intro e p' h;cases h
theorem qh0 {a b c d}{f:List Expr}{env:Env}:starEach (.ListComp a b c d::f) env=(false,eval (.ListComp a b c d) env)::starEach f env:=by rw[starEach];intro e p' h;cases h
theorem zb {a b c}{d:List Expr}{env:Env}:starEach (.Constant a b c::d) env=(false,eval (.Constant a b c) env)::starEach d env:=by rw[starEach];intro e p' h;cases h
theorem qi {a b}{c:List Expr}{env:Env}:starEach (.Name a b::c) env=(false,eval (.Name a b) env)::starEach c env:=by rw[starEach];intro e p' h;cases h
theorem zu {a b c d}{f:List Expr}{env:Env}:starEach (.Call a b c d::f) env=(false,eval (.Call a b c d) env)::starEach f env:=by rw[starEach];intro e p' h;cases h
theorem zw {a b c d}{f:List Expr}{env:Env}:starEach (.BinOp a b c d::f) env=(false,eval (.BinOp a b c d) env)::starEach f env:=by rw[starEach];intro e p' h;cases h
theorem qt9 {a b c d}{f:List Expr}{env:Env}:starEach (.Compare a b c d::f) env=(false,eval (.Compare a b c d) env)::starEach f env:=by rw[starEach];intro e p' h;cases h
theorem zx {a b c}{d:List Expr}{env:Env}:starEach (.Subscript a b c::d) env=(false,eval (.Subscript a b c) env)::starEach d env:=by rw[starEach];intro e p' h;cases h
theorem qb6 {a b c}{d:List Expr}{env:Env}:starEach (.Attribute a b c::d) env=(false,eval (.Attribute a b c) env)::starEach d env:=by rw[starEach];intro e p' h;cases h
end
section
variable {K:Ag}
theorem qjb:DE K (.type "str") (.type "str")=some true:=by kernel_rfl
theorem qf8:DE K (.type "str") (.type "int")=some false:=by kernel_rfl
end
section
variable {prog:AH}{w:World}{A:AQ}{E:Value->Ah->Prop}{h:Heap}{g:Array GenState}{d:Drawn}{t:Nat}{os:OsState}
variable {nm q:Str}{C N:Addr}{bs bm bmB:List Value}{hdct:Bool}{sn:List Str}{sub:List Value}{ab:Bool}{col:Option Bool}{dd:Option Addr}{k0 k1 k2 k3 k5:Option Value}{B Bn newId nid initId inN:String}{bmN:List Value}
noncomputable abbrev qf9 (qcb:List Value):Obj:={cls:=.type "tuple",data:=.seq qcb.toArray}
noncomputable abbrev qem (C t:Addr):Obj:={cls:=.ref C,data:=.fields #[.ref t,.none,.none,.none,.bool false,.none]}
theorem qll (n:ExcBaseFacts Bn newId inN bmN)(l:bmB.contains (.type Bn)=true)(F:ExcBaseFacts B nid initId bmB)(T:OwnTail h bmB bm){p:Str->Option Value}{qcb:List Value}{R:Result->Ah->Prop}{j:Addr}{H:AQ}
  (a:h.get? C=some (excClassObj nm q C N bs bm hdct sn sub ab col dd k0 k1 k2 k3 k5 newId))(I:h.Ns N p)(x:p "__init__"=some (.ref j))(K:∀self,BJ (model prog w) h (bindSpecial (.ref j) self) (.ref j,[self]))
  (J:codeAny (model prog w) A (.call (.ref j) ⟨.ref (h.objs.size+1)::qcb,[]⟩) (PySem.W.InitBack (h.objs.size+1) R) ⟨(h.push (qf9 qcb)).push (qem C h.objs.size),g,d,t,os⟩)(k:qcb.length<=Au) :
  wpAny (model prog w) A (AX.«type.__call__» ⟨.ref C::qcb,[]⟩) (λD c=>match D with | .done f=>R (.ok f) c | .again c'=>c'.quiet=true/\codeAny (model prog w) H c' R c) (λe c=>R (.error e) c) ⟨h,g,d,t,os⟩:=by
 repeat (first|with_reducible refine wpAny_loadPart_at a ?_|with_reducible refine wpAny_madeBy_exc a ?_|wp_step)
 refine codeAny_call_builtin_code (Code.quiet_builtin _ n.quiet) (wpAny_check_new_subU n l T a ?_)
 refine codeAny_exc_new_subU n l F T a ?_ k
 show wpAny _ _ _ _ _ _
 have i:∀b o,h.get? b=some o->((h.push (qf9 qcb)).push (qem C h.objs.size)).get? b=some o:=λb o e=>Aj _ (Aj _ e)
 have m:=i _ _ a
 have u:((h.push (qf9 qcb)).push (qem C h.objs.size)).Ns N p:=let ⟨o,es,ep,e,r⟩:=I;⟨o,es,ep,i _ _ e,r⟩
 have s:((h.push (qf9 qcb)).push (qem C h.objs.size)).get? (h.objs.size+1)=some (qem C h.objs.size):=by heap_get
 have y:(AJ C::bm).contains (.ref C)=true:=by simp
 have G:=T.keeps (h':=(h.push (qf9 qcb)).push (qem C h.objs.size)) i
 have E:=(K (.ref (h.objs.size+1))).keeps i
 unfold isInstance
 repeat (first|with_reducible refine wpAny_loadPart_at s ?_ | (with_reducible refine wpAny_isSubtype_exc m ?_;rw[y])|wp_step)
 show wpAny _ _ (typeLookup (.ref C) _) _ _ _
 refine wpAny_typeLookup_tail m u G F.mroIs F.init.lookup ?_
 rw[x]
 refine BR (Ad (E.here ?_))
 refine Ad (CQ (CM J λr c z=>?_))
 rcases r with e | (v|_|_|_) <;>first|exact z|exact z.elim|skip
 obtain⟨rfl,z⟩:=z
 exact A1 (A1 z)
end
section
open PySem.W
variable {prog:AH}{w:World}{A:AQ}{E:Value->Ah->Prop}{s:Ah}{K:Frag}{x C:Addr}{ox:Obj}{od:Option Obj}{name:Str}{expr:Bool}
structure XGet (K:Frag)(C:Addr):Prop where
 ga:findIn K (.ref C) "__getattribute__"=some (some (.builtin "BaseException.__getattribute__"))
 hk:findIn K (.ref C) "__getattr__"=some none
 sub:mroIn K C (.type "BaseException")=some true
end
section
open PySem.W
variable {prog:AH}{w:World}{A:AQ}{E:Value->Ah->Prop}{s:Ah}{K:Frag}{x C:Addr}{ox:Obj}{od:Option Obj}{name:Str}{expr:Bool}
structure XIs (K:Frag)(C:Addr):Prop extends XGet K C where
 dct:hasDictIn K C=true
 cls:findIn K (.ref C) "__class__"=some (some (.builtin "object.__class__"))
 get:specialIn K (.builtin "object.__class__") "__get__"=some (some (.builtin "getset_descriptor.__get__"))
 tak:takesIn K (.builtin "object.__class__")=some true
 obj:mroIn K C (.type "object")=some true
noncomputable abbrev VE:List Value:=[.type "ValueError",.type "Exception",.type "BaseException",.type "object"]
noncomputable def qn5:List Value->Bool
 |.ref _::r=>qn5 r
 |l=>l == VE
theorem qkf (g:Value):∀{l:List Value},qn5 l=true->refuseLoop g "__setattr__" l=pure ()/\l.isEmpty=false/\l.contains (.type "object")=true
 | [],e=>by cases e
 |.ref c::r,e=>by obtain⟨a,b,d⟩:=qkf g (l:=r) e;exact⟨by rw[refuseLoop_ref];exact a,Z,by rw[List.contains_cons,d,Bool.or_true]⟩
 |.type n::r,e=>by have f:(.type n::r:List Value)=VE:=beq_iff_eq.mp e;rw[f];exact⟨PySem.F.store_ValueError.passes g,Z,En⟩
 |.none::r,e=>by have f:=beq_iff_eq.mp (show ((.none::r:List Value) == VE)=true from e);cases f
 |.bool _::r,e=>by have f:=beq_iff_eq.mp (show ((.bool _::r:List Value) == VE)=true from e);cases f
 |.int _ _::r,e=>by have f:=beq_iff_eq.mp (show ((.int _ _::r:List Value) == VE)=true from e);cases f
 |.float _ _::r,e=>by have f:=beq_iff_eq.mp (show ((.float _ _::r:List Value) == VE)=true from e);cases f
 |.str _ _::r,e=>by have f:=beq_iff_eq.mp (show ((.str _ _::r:List Value) == VE)=true from e);cases f
 |.bytes _ _::r,e=>by have f:=beq_iff_eq.mp (show ((.bytes _ _::r:List Value) == VE)=true from e);cases f
 |.builtin _::r,e=>by have f:=beq_iff_eq.mp (show ((.builtin _::r:List Value) == VE)=true from e);cases f
end
section
open PySem.W
variable {prog:AH}{w:World}{A:AQ}{E:Value->Ah->Prop}{s:Ah}{K:Frag}{x C:Addr}{o:Obj}{name:Str}{v:Value}
structure XSet (K:Frag)(C:Addr)(name:Str):Prop where
 sa:findIn K (.ref C) "__setattr__"=some (some (.builtin "object.__setattr__"))
 no:findIn K (.ref C) name=some none
 cd:((clsIn K C).any λcd=>qn5 cd.mro && cd.hasDict)=true
theorem qwz {tk:Tok}{R:Result->Ah->Prop}(X:K.In s.heap)(p:s.heap.get? x=some o)(m:o.cls=.ref C)(c:XSet K C name)
  (h:wpAny (model prog w) A.in1 (AX.ObjectAttr.storeInOwnDict (.ref x) (.ref C) (.str name tk) name v false)
   (λj b=>match j with | .done f=>R (.ok f) b | .again c'=>c'.quiet=true/\codeAny (model prog w) A c' R b) (λe b=>R (.error e) b) s) :
  codeAny (model prog w) A (.call (.builtin "object.__setattr__") ⟨[.ref x,.str name tk,v],[]⟩) R s:=by
 have a:=PySem.F.store_object;obtain⟨cd,d,i⟩:=any_some c.cd;simp only[AN]at i;obtain⟨l,ne,has⟩:=qkf (.ref x) i.1;have g:Looks (model prog w) s.heap (typeOf (.ref x)) (.ref C):=m ▸ (Looks.ld p).andThen .now;have sub:Looks (model prog w) s.heap (isInstance (.ref x) (.type "object")) true:=g.andThen (looks_mroIn X (by unfold mroIn;rw[d,Option.bind_some,if_neg (by rw[ne];decide),has]));have n:Looks (model prog w) s.heap (mroOf (.ref C)) cd.mro:=(looks_clsIn X d).andThen .now;have k:=looks_findIn (M:=model prog w) X c.no;refine DY a.slot.plain a.entry (@check_slot (model prog w) _ _ s "object.__setattr__" "object" "__setattr__" (.ref x) [.str name tk,v] [] _ a.kind a.split sub (a.args (.ref x) (.str name tk) v) ?_);rw[osa_eq,refuse_eq];refine Ad (Ad (g.here (Ad (n.here ?_))));rw[l];refine A1 (Ad (g.here (Ad (k.here (Ad (A1 ?_))))));exact h
noncomputable abbrev qdp (C:Addr)(od:Option Addr)(vs:Array Value)(sl:Array (Option Value)):Obj:={cls:=.ref C,dict:=od,data:=.fields vs,slots:=sl}
theorem qua {Q:Unit->Ah->Prop}{f:Option Addr}{vs:Array Value}{sl:Array (Option Value)}(X:K.In s.heap)(d:s.heap.get? x=some (qdp C f vs sl))(c:XSet K C name)
  (h:wpAny (model prog w) A.in1 (AX.ObjectAttr.storeInOwnDict (.ref x) (.ref C) (.str name s.toks) name v false) (λa b=>a=.done (.ret .none)/\Q () b) (λ_ _=>False) {s with toks:=s.toks+1}) :
  wpAny (model prog w) A (setAttr (.ref x) name v) Q E s:=by
 have g:Looks (model prog w) s.heap (typeOf (.ref x)) (.ref C):=(Looks.ld d).andThen .now;have i:=looks_findIn (M:=model prog w) X c.sa;refine Ad (wpAny_mkText (Ad (Ad (Ad (g _ _ _ _ (λ_ _ e=>e) (i _ _ _ _ (λ_ _ e=>e) (BR ?_)))))));rw[PySem.F.store_object.slot.bind];refine Ad (A1 (Ad (CQ (qwz (s:={s with toks:=s.toks+1}) X d Z c (BQ h (λa b z=>?_) λ_ _ z=>z.elim)))));obtain⟨rfl,z⟩:=z;exact A1 (A1 z)
theorem qub {Q:Unit->Ah->Prop}{vs:Array Value}{sl:Array (Option Value)}(X:K.In s.heap)(f:s.heap.get? x=some (qdp C none vs sl))(c:XSet K C name)
  (h:∀h' tk',h'.get? x=some (qdp C (some s.heap.objs.size) vs sl)->h'.Ns1 s.heap.objs.size (λy=>if y=name then some v else none)->(∀b l,b≠x->s.heap.get? b=some l->h'.get? b=some l)->Q () {s with heap:=h',toks:=tk'}) :
  wpAny (model prog w) A (setAttr (.ref x) name v) Q E s:=by
 obtain⟨cd,n,r⟩:=any_some c.cd;simp only[AN]at r;refine qua X f c ?_;obtain⟨a,g,d,t,os⟩:=s;unfold AX.ObjectAttr.storeInOwnDict AX.ObjectAttr.ownDictForStores instanceDict;refine Ad (A1 (Ad (Ad (wpAny_loadPart f (Ad ((looks_clsIn X n).at ?_))))));rw[r.2];have j:x≠a.objs.size:=AI (Az f);have i:(a.push emptyDict).get? x=some (qdp C none vs sl):=Aj _ f;show wpAny _ _ (alloc emptyDict >>= _) _ _ _;refine Ad (wpAny_alloc' (Ad (wpAny_update' i ?_)));refine A1 ?_;have p:((a.push emptyDict).update x λo=>{cls:=o.cls,dict:=some a.objs.size,data:=o.data,slots:=o.slots}).get? a.objs.size=some emptyDict:=(Heap.get?_update_ne _ _ _ _ j.symm).trans (Heap.get?_push_at Z Z);have u:((a.push emptyDict).update x λo=>{cls:=o.cls,dict:=some a.objs.size,data:=o.data,slots:=o.slots}).Ns a.objs.size (λ_=>none):=⟨_,#[],_,p,Z,λe D=>absurd D (by simp),λ_=>rfl⟩;show wpAny _ _ (AX.ObjectAttr.storeInDict a.objs.size (.str name t) name v) _ _ _;unfold AX.ObjectAttr.storeInDict AX.ObjectAttr.newKeyGuard;refine Ad (A1 (Ad (wpAny_nsSet1 (Heap.Ns1.of_empty u) λh' k hs=>?_)));obtain⟨oD,esD,epD,q,m,z⟩:=k.count (Within.cons name v Within.nil);refine Ad (wpAny_lookBehind q (by rw[m];exact pastItsLine_dict (A2 z (by rw[Am,Bf,Bd];lia))) ?_);refine A1 ⟨Z,h h' _ ?_ k λb l B e=>?_⟩
 .exact(hs.2 x j).trans (BM _ i Z)
 .exact(hs.2 b (AI (Az e))).trans ((Heap.get?_update_ne _ _ _ _ B).trans (Aj _ e))
theorem quc {Q:Unit->Ah->Prop}{dx:Addr}{vs:Array Value}{sl:Array (Option Value)}{e:Str->Option Value}{j:List Str}(X:K.In s.heap)(n:s.heap.get? x=some (qdp C (some dx) vs sl))(p:s.heap.Ns1 dx e)(hne:dx≠x)(o:Within e j)(hsz:j.length<=1000)(c:XSet K C name)
  (h:∀h' tk',h'.Ns1 dx (λy=>if y=name then some v else e y)->BU dx s.heap h'->Q () {s with heap:=h',toks:=tk'}) :
  wpAny (model prog w) A (setAttr (.ref x) name v) Q E s:=by
 obtain⟨cd,i,l⟩:=any_some c.cd;simp only[AN]at l;refine qua X n c ?_;obtain⟨hp,g,d,t,os⟩:=s;unfold AX.ObjectAttr.storeInOwnDict AX.ObjectAttr.ownDictForStores instanceDict;refine Ad (A1 (Ad (Ad (wpAny_loadPart n (Ad ((looks_clsIn X i).at ?_))))));rw[l.2];refine A1 (a:=some dx) ?_;show wpAny _ _ (AX.ObjectAttr.storeInDict dx (.str name t) name v) _ _ _;unfold AX.ObjectAttr.storeInDict AX.ObjectAttr.newKeyGuard;refine Ad (A1 (Ad (wpAny_nsSet1 p λh' b hs=>?_)));obtain⟨oD,esD,epD,k,f,m⟩:=b.count (Within.cons name v o);refine Ad (wpAny_lookBehind k (by rw[f];exact pastItsLine_dict (A2 m (by rw[Am,Bd];lia))) ?_);exact A1 ⟨Z,h h' _ b hs⟩
end
noncomputable def qn6 (K:Ag)(C:Addr)(ini:Option Value):Bool:=match K.lookup C with
 |some ⟨.type "type",_,.cls cd,sl⟩=>(match cd.mro,sl.toList with
  |.ref C'::bm,[_,_,_,_,some (.builtin n),_]=>C' == C && n == "ValueError.__new__" && !cd.hasDel && PySem.W.tailIn K VE bm && PySem.W.nsOkIn K cd.ns && AT K cd.ns "__init__" == some ini
  |_,_=>false)
 |_=>false
theorem ns_in {K:Ag}{h:Heap}{N:Addr}{mg:Str->Option Value}{n:Str}{v:Value}(X:K.In h)(G:h.Ns N mg)(e:AT K N n=some (some v)):mg n=some v:=by
 obtain⟨o,es,ep,b,hd,_,a⟩:=G;unfold AT at e;split at e
 .rename_i c d es' n' sl q;have:=X _ _ q;rw[b]at this;cases this;cases hd;split at e
  .rename_i en f;cases e;rw[<- a];unfold nsFind findBy;rw[<- Array.find?_toList,f];rfl
  .split at e <;>cases e
 .cases e
theorem qyk {K:Ag}{h:Heap}{C:Addr}{c:Option Value}(X:K.In h)(q:qn6 K C c=true):∃(k:List Value)(N:Addr)(nm o:Str)(bs:List Value)(hd:Bool)(p:List Str)(sub:List Value)(r:Bool)(d:Option Bool)(t:Option Addr)(i j e g f:Option Value)(u:Str->Option Value),
  h.get? C=some (excClassObj nm o C N bs k hd p sub r d t i j e g f "ValueError.__new__")/\h.Ns N u/\u "__init__"=c/\OwnTail h VE k:=by
 unfold qn6 at q;split at q
 .rename_i t z sl A;split at q
  .rename_i C' k i j e g n f x hs;simp only[AN,beq_iff_eq,Bool.not_eq_true']at q;obtain⟨⟨⟨⟨⟨rfl,rfl⟩,b⟩,y⟩,m⟩,a⟩:=q;obtain⟨nm,bs,mro,s,o,hd,p,sub,r,d,del⟩:=z;dsimp only at x b m a;subst x b;have w:sl=#[i,j,e,g,some (.builtin "ValueError.__new__"),f]:=by obtain⟨l⟩:=sl;simp only at hs;rw[hs]
   subst w;have G:h.Ns s (h.nsMap s):=.of_isNs (PySem.W.isNs_of_in X m);refine⟨k,s,nm,o,bs,hd,p,sub,r,d,t,i,j,e,g,f,_,X _ _ A,G,?_,PySem.W.tail_of_in X y⟩;cases c with|none=>exact PySem.W.ns_none_of X G a|some v=>exact ns_in X G a
  .cases q
 .cases q
section
variable {prog:AH}{w:World}{A:AQ}{E:Value->Ah->Prop}{K:Ag}{C fI:Addr}{s:Ah}{qcb:List Value}
theorem qud {R:Result->Ah->Prop}{nm q:Str}{N:Addr}{bs z:List Value}{i:Bool}{m:List Str}{sub:List Value}{o:Bool}{k:Option Bool}{x:Option Addr}{v y l u p:Option Value}{a:String}
  (c:s.heap.get? C=some (excClassObj nm q C N bs z i m sub o k x v y l u p a))
  (h:wpAny (model prog w) (A.under (.builtin "type.__call__" ⟨.ref C::qcb,[]⟩)) (AX.«type.__call__» ⟨.ref C::qcb,[]⟩)
   (λj b=>match j with | .done f=>R (.ok f) b | .again c'=>c'.quiet=true/\codeAny (model prog w) A c' R b) (λe b=>R (.error e) b) s) :
  codeAny (model prog w) A (.call (.ref C) ⟨qcb,[]⟩) R s:=by
 obtain⟨r,g,d,t,n⟩:=s;have f1:=tc_lookup;have f2:=tc_bind (.ref C);have hT:(⟨r,g,d,t,n⟩:Ah).TypeIs (.ref C) "type" := ⟨_,c,Z⟩;refine codeAny_of_tree ?_;show wpAny _ _ (callAny (.ref C) _) _ _ _
 repeat (any_goals (first|assumption|with_reducible refine wpAny_loadPart_at c ?_|wp_step))
 refine⟨Z,?_⟩;exact codeAny_call_builtin_at (Code.quiet_builtin _ Ek) entry_typeCall (wpAny_check_type_call_sub c h)
theorem que {R:Result->Ah->Prop}(X:K.In s.heap)(c:qn6 K C (some (.ref fI))=true)(i:Cs K (.ref fI)=some (.type "function"))(a:qcb.length<=Au)
  (h:codeAny (model prog w) (A.under (.builtin "type.__call__" ⟨.ref C::qcb,[]⟩)) (.call (.ref fI) ⟨.ref (s.heap.objs.size+1)::qcb,[]⟩) (PySem.W.InitBack (s.heap.objs.size+1) R)
   {s with heap:=(s.heap.push (qf9 qcb)).push (qem C s.heap.objs.size)}) :
  codeAny (model prog w) A (.call (.ref C) ⟨qcb,[]⟩) R s:=by
 obtain⟨bm,N,nm,qn,bs,hd,sn,sub,ab,col,dd,k0,k1,k2,k3,k5,mN,e,j,f,T⟩:=qyk X c;obtain⟨hp,g,d,t,os⟩:=s;exact qud e (qll Dr En Dr T e j f (λb=>PySem.W.bind_fn X b i) h a)
end
abbrev Sz6 (vs:Array Value):Prop:=vs.size=6/\vs[2]?=some .none
noncomputable def exO (x C:Addr)(od:Option Addr)(fr:Bool):HO:=.ext λh=>∃(vs:Array Value)(sl:Array (Option Value)),h.get? x=some (qdp C od vs sl)/\Sz6 vs/\(fr=true->sl=#[]/\∃t:Addr,vs=#[.ref t,.none,.none,.none,.bool false,.none])
noncomputable def exD (dx:Addr)(fs:List (Str×V)):HO:=.ext λh=>∃mA,h.Ns1 dx mA/\(∀f,RelO (fs.lookup f) (mA f))/\Dv mA (fs.map (·.1))
section
variable {P:AH}{w:World}{H:Hp}{h:Heap}{x C dx:Addr}{od:Option Addr}{fr:Bool}{fs:List (Str×V)}
theorem qmw {vs:Array Value}{sl:Array (Option Value)}(e:h.get? x=some (qdp C od vs sl))(z:Sz6 vs)(f:fr=true->sl=#[]/\∃t:Addr,vs=#[.ref t,.none,.none,.none,.bool false,.none]):ObjOk P w H h x (exO x C od fr) :=
 ⟨⟨vs,sl,e,z,f⟩,⟨_,e⟩,λ_ h2 ⟨vs,sl,e,z,f⟩ k=>⟨vs,sl,k _ e,z,f⟩⟩
theorem quf {a:Str->Option Value}(n:h.Ns1 dx a)(r:∀f,RelO (fs.lookup f) (a f))(b:Dv a (fs.map (·.1))):ObjOk P w H h dx (exD dx fs) :=
 ⟨⟨a,n,r,b⟩,let ⟨o,_,_,e,_⟩:=n;⟨o,e⟩,λ_ h2 ⟨a,n,r,b⟩ k=>⟨a,n.at λo q=>k o q,r,b⟩⟩
theorem qhe (ok:HOk P w H h)(e:H x=some (exO x C od fr)):∃vs sl,h.get? x=some (qdp C od vs sl)/\Sz6 vs/\(fr=true->sl=#[]/\∃t:Addr,vs=#[.ref t,.none,.none,.none,.bool false,.none]):=(ok x _ e).1
theorem qug (ok:HOk P w H h)(e:H dx=some (exD dx fs)):∃mA,h.Ns1 dx mA/\(∀f,RelO (fs.lookup f) (mA f))/\Dv mA (fs.map (·.1)):=(ok dx _ e).1
theorem qyl (ok:HOk P w H h)(e:H x=some (exO x C od fr))(b:H dx=some (exD dx fs)):dx≠x:=λz=>by obtain⟨vs,sl,q,_⟩:=qhe ok e;obtain⟨mA,⟨o,es,ep,a,d,_⟩,_⟩:=qug ok b;rw[z,q]at a;cases a;cases d
end
theorem qn7 {H:Hp}{a:Addr}{o:HO}(h:H a=some o):upd H a o=H:=by
 funext b;unfold upd;by_cases e:b=a
 .rw[if_pos e,e,h]
 .rw[if_neg e]
section
variable {X:Cx}{pins:List (Addr×Obj)}{σ:L2.St}{H:Hp}{s:Ah}{A:AQ}{E:Value->Ah->Prop}
theorem qw0 {C t:Addr}{h':Heap}{tk:Nat}(I:Inv X pins σ H s)(k:∀b o,s.heap.get? b=some o->h'.get? b=some o)(e:h'.get? (s.heap.objs.size+1)=some (qem C t)) :
  Inv X pins σ (upd H (s.heap.objs.size+1) (exO (s.heap.objs.size+1) C none true)) {s with heap:=h',toks:=tk} :=
 I.laid (a:=s.heap.objs.size+1) k (C7 _) (qmw (vs:=#[.ref t,.none,.none,.none,.bool false,.none]) (sl:=#[]) e ⟨Z,Z⟩ λ_=>⟨Z,t,Z⟩)
def tExcI (C:Addr)(sp:Sp)(dvs:List V)(E:XK)(t:TA):TE:=λσ H Q=>t σ H λvs H1=>vs.length<=Au/\∀x,H1 x=none->sp (.ref x::(vs++dvs)) (upd H1 x (exO x C none true)) (λv H2=>v=.non/\Q (.ref x) H2) E
variable {CX:CXT}{k:Nat}{f:Addr}{fd:AF}{ps:List Str}{sp:Sp}{ds:List Value}{dvs:List V}{EX:XK}
theorem qd2 {C:Addr}{x:Str}{p pos:Pos}{e:Expr}{d:List Expr}{t:TA}(c:qn6 X.K C (some (.ref f))=true)(L:Cs X.K (.ref f)=some (.type "function"))(F:FnOk X.prog X.w X.K X.mg X.base CX k f fd ps sp)(G:Room (k+1) X.A)(R:Gl X x)(S:X.mg x=some (.ref C))
  (hk:Bi X.K (.ref C)=true)(P:Binds X.K fd ps ds)(hd:Vals dvs ds)(T:qel CX X EX)(D:PA X (e::d) t)
  (m:(x == ("__debug__" : Str))=false:=by decide)(he:starEach (e::d) X.env=(false,eval e X.env)::starEach d X.env:=by rfl)(hpl:(backTo pos (starEach d X.env)).any (·.1)=false:=by rfl) :
  PE X (.Call (.Name x p) (e::d) [] pos) (tExcI C sp dvs EX t):=by
 intro g J σ E Q l h;refine B1 (qeu l R S ?_ m);refine CF (h₀:=X.base) l.ok.mod.kin hk (thn (D pos g J σ E _ l h) λus s ⟨vs,H,I,r,hz,q⟩=>⟨I.kIn,?_⟩) he hpl;have hl0:=r.length;have y:=q (s.heap.objs.size+1) (I.hok.fresh (C7 _));have j:((s.heap.push (qf9 us)).push (qem C s.heap.objs.size)).get? (s.heap.objs.size+1)=some (qem C s.heap.objs.size):=by heap_get
 have i:=qw0 (C:=C) (t:=s.heap.objs.size) (h':=(s.heap.push (qf9 us)).push (qem C s.heap.objs.size)) (tk:=s.toks) I (λb o e=>Aj _ (Aj _ e)) j;have n:Vals (V.ref (s.heap.objs.size+1)::(vs++dvs)) (AJ (s.heap.objs.size+1)::(us++ds)):=.cons rfl (r.append hd);have hl:(AJ (s.heap.objs.size+1)::us++ds).length=ps.length:=by have e:=n.length;rw[F.len _ _ _ _ y]at e;exact e.symm
 refine CQ (que I.kIn c L (by show us.length<=_;lia) (CM (F.run _ X.stack _ _ ⟨AJ (s.heap.objs.size+1)::us,[]⟩ (AJ (s.heap.objs.size+1)::(us++ds)) _ _ EX (G.make C us [])
  (i.env0.make C us []) (P _ (AJ (s.heap.objs.size+1)::us) i.kIn hl) n y) λr N a=>?_))
 cases r with
 |error e=>exact T g σ _ _ e N i a
 |ok fl =>
  cases fl with
  |ret u =>obtain⟨v,z,O,U,B,M⟩:=i.after a;subst B;exact⟨U,⟨V.ref (s.heap.objs.size+1),z,O,Z,M⟩⟩
  |next=>exact Br a
  |brk=>exact Br a
  |cont=>exact Br a
def ql6 (H:Hp):Option Addr->Prop
 |none=>True
 |some dx=>∃fs,H dx=some (exD dx fs)
end
section
variable {X:Cx}{pins:List (Addr×Obj)}{σ:L2.St}{H:Hp}{s:Ah}{E:Value->Ah->Prop}
structure XBase (K:Ag)(B:Addr):Prop where
 ga:DD K (.ref B) "__getattribute__"=some (some (.builtin "type.__getattribute__"))
 rd:PySem.W.readsIn K B (.type "type")=true
 at_:PySem.W.findCls K (.ref B) (.type "type") "__init__"=some (.val (.builtin "ValueError.__init__"))
def qy9 (K:Ag)(t:TA):TE:=λσ H Q=>t σ H λvs H1=>∃(x C:Addr)(od:Option Addr)(qcb:List V)(ini:Option Value),vs=.ref x::qcb/\H1 x=some (exO x C od true)/\qn6 K C ini=true/\qcb.length<=Au/\Q .non H1
theorem qr9 {A:AQ}{x C:Addr}{a:Option Addr}{qcb:List Value}{f:Option Value}{Q:Value->Ah->Prop}{K:Ag}{prog:AH}{w:World}{t:Addr}(l:K.In s.heap)(c:qn6 K C f=true)
  (i:s.heap.get? x=some (qdp C a #[.ref t,.none,.none,.none,.bool false,.none] #[]))(hrest:qcb.length<=Au)
  (h:∀h' t',h'.get? x=some (qdp C a #[.ref t',.none,.none,.none,.bool false,.none] #[])->(∀b o,b≠x->s.heap.get? b=some o->h'.get? b=some o)->Q .none {s with heap:=h'}) :
  wpAny (model prog w) A (call (.builtin "ValueError.__init__") (.ref x::qcb)) Q E s:=by
 obtain⟨bm,N,nm,qn,bs,hd,sn,sub,ab,col,dd,k0,k1,k2,k3,k5,mN,j,hn,hni,T⟩:=qyk l c;obtain⟨k,g,d,tk,os⟩:=s;have F:=Dr;refine CQ (DY F.init.plain F.initEntry (wpAny_check_init_subU F T j i Z ?_))
 wp_walk
 refine h _ k.objs.size ?_ λb o m e=>?_
 .rw[BM _ (Aj _ i) Z];rfl
 .rw[BH _ _ (Bc m)];exact Aj _ e
theorem qga {B:Addr}{x:Str}{p a pos:Pos}{e:Expr}{d:List Expr}{t:TA}{pl:Sem Bool}(c:XBase X.K B)(N:Gl X x)(O:X.mg x=some (.ref B))(y:PA X (e::d) t)(m:(x == ("__debug__" : Str))=false:=by decide)
  (hst:starEach (e::d) X.env=(false,eval e X.env)::starEach d X.env:=by rfl)(hpl:(backTo pos (starEach d X.env)).any (·.1)=false:=by rfl)
  (ht:eval (.Call (.Attribute (.Name x p) "__init__" a) (e::d) [] pos) X.env=(do
   let ov <- eval (.Name x p) X.env
   standAt a.atName
   let (f,first) <- holding [ov] (getMethod ov "__init__" pl)
   callWith pos f first (backTo pos (starEach (e::d) X.env)) (backToKw pos (keywordEach [] X.env))):=by rfl) :
  PE X (.Call (.Attribute (.Name x p) "__init__" a) (e::d) [] pos) (qy9 X.K t):=by
 intro j s σ H Q I h;refine DO (pl:=pl) (qeu I N O ?_ m) ht;refine PySem.W.method_cls I.kIn c.ga (PySem.W.cls_value I.kIn c.rd c.at_ Z ?_);have F:=I.tok (s.toks+1);refine DR (thn (y pos j _ σ H _ F h) λus r ⟨vs,G,i,E,n⟩=>?_) hst hpl;obtain⟨l,C,A,qcb,ini,rfl,k,D,hz,q⟩:=n;cases E with
 |cons ra rr =>cases ra;obtain⟨ws,sl,ex,z6,v⟩:=qhe i.hok k;obtain⟨rfl,t',rfl⟩:=v rfl;have hl:=rr.length;refine qr9 i.kIn D ex (by lia) λh' L g w=>?_;refine⟨.non,G,?_,Z,q⟩;have J:=i.write (x:=l) (e:=l) (o:=exO l C A true) (t':=r.toks) (h':=h') (by rw[k];exact trivial) (.inl Z) (λb u M z=>w b u M z) ⟨_,g⟩ (qmw g ⟨Z,Z⟩ λ_=>⟨Z,L,Z⟩);rw[qn7 k]at J;exact J
theorem quh {x dx:Addr}{o o':HO}{h':Heap}{tk:Nat}(I:Inv X pins σ H s)(e:Mut (H x))(hd:s.heap.objs.size<=dx)(hne:dx≠x)(k:∀b u,b≠x->s.heap.get? b=some u->h'.get? b=some u)(p:∃u,h'.get? x=some u)
  (m:ObjOk X.prog X.w (upd (upd H dx o') x o) h' x o)(l:ObjOk X.prog X.w (upd (upd H dx o') x o) h' dx o'):Inv X pins σ (upd (upd H dx o') x o) {s with heap:=h',toks:=tk}:=by
 have h:H dx=none:=I.hok.fresh hd;have d:∀b,H b=none->b≠x:=λb n z=>by subst z;rw[n]at e;exact e
 have nm:∀b u,H b=some u->¬Mut (some u)->b≠x:=λb u q nm z=>by subst z;rw[q]at e;exact nm e
 have j:∀b u,H b=some u->b≠dx:=λb u q=>qab q h;have i:∀b u,s.heap.get? b=some u->b≠dx:=λb u q=>AI (AC (Az q) hd);have stay:∀b u,H b=some u->b≠x->upd (upd H dx o') x o b=some u:=λb u q a=>by rw[ze a,ze (j b u q)];exact q
 refine I.un ⟨λb u q n _ _=>k b u (d b n) q,λb u q n _ _=>⟨u.slots,k b u (d b n) q⟩,λb u q n _=>by rw[ze (d b n),ze (i b u q)];exact n,λb u q _=>?_,λb xs q=>stay b _ q (nm b _ q λz=>z),λb u xs q=>stay b _ q (nm b _ q λz=>z),λb ps q=>⟨#[],by rw[stay b _ q (nm b _ q λz=>z)];simp⟩⟩ ?_
 .by_cases a:b=x
  .subst a;exact p
  .exact⟨u,k b u a q⟩
 .intro b u q;by_cases a:b=x
  .subst a;rw[qu]at q;cases q;exact m
  .rw[ze a]at q;by_cases f:b=dx
   .subst f;rw[qu]at q;cases q;exact l
   .rw[ze f]at q;refine(I.hok b u q).stay (λc v g r=>k c v ?_ r) (λc r=>stay c _ r (nm c _ r λz=>z)) λc xs r=>stay c _ r (nm c _ r λz=>z);rcases g with rfl|g
    .exact a
    .exact nm c _ g λz=>z
def sXFld (K:Ag)(ta tv:TE)(f:Str):TS:=λD σ H=>tv σ H λy H1=>ta σ H1 λv H2=>∃(x C:Addr)(fr:Bool),v=.ref x/\XSet K C f /\
 ((H2 x=some (exO x C none fr)/\∀dx,H2 dx=none->D.nx σ (upd (upd H2 dx (exD dx [(f,y)])) x (exO x C (some dx) fr))) \/
  (∃dx fs,H2 x=some (exO x C (some dx) fr)/\H2 dx=some (exD dx fs)/\fs.length<900/\D.nx σ (upd H2 dx (exD dx (qcw f y fs)))))
theorem qh1 {o a:Expr}{f:Str}{pos i:Pos}{A B:TE}(R:PE X o A)(T:PE X a B)(hs:swapsWith a (some (.Attribute o f i)) pos.line X.env=pure false):PS X (.Assign [.Attribute o f i] a pos) (sXFld X.K A B f):=by
 intro d V σ S D I0 h;refine DN (thn (T d V σ S _ I0 h) λu O ⟨y,W,U,L,q⟩=>thn (R d O σ W _ U q) λov s ⟨v,H,I,rv,x,C,fr,P,c,q2⟩=>?_) hs;subst P;obtain rfl:ov=AJ x:=rv;rcases q2 with ⟨ex,nx⟩|⟨dx,fs,ex,m,hl,nx⟩
 .obtain⟨vs,sl,j,F,w⟩:=qhe I.hok ex;refine qub I.kIn j c λh' k E n Q=>?_;have G:s.heap.objs.size≠x:=BV (Az j);refine⟨σ,_,quh (x:=x) (dx:=s.heap.objs.size) (o:=exO x C (some s.heap.objs.size) fr) (o':=exD s.heap.objs.size [(f,y)]) I (by rw[ex];exact trivial) (Ax _) G (λb J p e=>Q b J p e) ⟨_,E⟩ (qmw E F w) (quf n (λg=>?_) λg t=>?_),nx _ (I.hok.fresh (Ax _))⟩
  .show RelO (CL g [(f,y)]) (if g=f then some u else none);by_cases q:g=f
   .subst q;rw[if_pos Z,Bx,beq_self_eq_true];exact L
   .have Y:(g == f)=false:=by simpa using q
    rw[if_neg q,Bx,Y];exact trivial
  .by_cases q:g=f
   .subst q;simp
   .exact absurd (if_neg q) t
 .obtain⟨vs,sl,j,F,w⟩:=qhe I.hok ex;obtain⟨N,n,r,M⟩:=qug I.hok m;refine quc I.kIn j n (qyl I.hok ex m) M (by rw[Ab];lia) c λh' k l sb=>?_;have hd:∃o,h'.get? dx=some o:=let ⟨o,_,_,e',_⟩:=l;⟨o,e'⟩;refine⟨σ,_,I.write (x:=dx) (e:=dx) (o:=exD dx (qcw f y fs)) (t':=k) (by rw[m];exact trivial) (.inl Z) (λb J p z=>(sb.2 b p).trans z) hd (quf l (λg=>?_) λg t=>?_),nx⟩
  .show RelO ((qcw f y fs).lookup g) (if g=f then some u else N g);rw[qf3];by_cases q:g=f
   .rw[if_pos q,if_pos q];exact L
   .rw[if_neg q,if_neg q];exact r g
  .by_cases q:g=f
   .rw[q];exact(qe7 f y fs).1
   .refine(qe7 f y fs).2 g (M g λz=>t ?_);show (if g=f then some u else N g)=none;rw[if_neg q];exact z
end
section
variable {X:Cx}
def rEqL (K:Ag)(f:Bool->Bool):R2:=λx y H Q=>∃a b xs ys,x=.ref a/\y=.ref b/\SqL K H a xs/\SqL K H b ys/\xs.all qeb=true/\ys.all qeb=true/\Q (.bl (f (qkb xs ys))) H
theorem qkg:∀{xs ys:List V},xs.length≠ys.length->qkb xs ys=false
 | [],[],h=>absurd rfl h
 | [],_::_,_=>rfl
 |_::_,[],_=>rfl
 |x::xs,y::ys,h=>by show (eqV x y && qkb xs ys)=false;rw[qkg (λz=>h (by rw[Am,Am,z])),Dp]
theorem qjc {xs ys:List V}(h:xs.length=ys.length):(AR xs.length).all (eAt xs ys)=qkb xs ys:=by rw[<- qt7 xs ys,<- h,Nat.min_self];simp
theorem qgb (c:X.A.units<cLine):OpR X (compareOp .Eq) (rEqL X.K λz=>z):=by
 intro pins s σ H x y v u Q I j l h;obtain⟨a,b,xs,ys,rfl,rfl,i,m,k,fy,q⟩:=h;cases j;cases l;obtain⟨its,d,g,_⟩:=I.list i;obtain⟨its2,e,f,_⟩:=I.list m;have n:=d.length;have l2:=e.length;by_cases hz:xs.length=ys.length
 .refine SeqAt.eq_listAt g.isList f.isList (by rw[An,An];lia) c (qn1 d e k fy) ?_;rw[An,<- n,qjc hz];exact⟨.bl (qkb xs ys),H,I,Z,q⟩
 .refine SeqAt.eq_list_lengthsAt g.isList f.isList (bne_iff_ne.mpr (by rw[An,An];lia)) c ?_;rw[qkg hz]at q;exact⟨.bl false,H,I,Z,q⟩
theorem qza (c:X.A.units<cLine):OpR X (compareOp .NotEq) (rEqL X.K λz=>!z):=by
 intro pins s σ H x y v u Q I j l h;obtain⟨a,b,xs,ys,rfl,rfl,i,m,k,fy,q⟩:=h;cases j;cases l;obtain⟨its,d,g,_⟩:=I.list i;obtain⟨its2,e,f,_⟩:=I.list m;have n:=d.length;have l2:=e.length;by_cases hz:xs.length=ys.length
 .refine SeqAt.RcNeAt.lists g.isList f.isList (by rw[An,An];lia) c (qn1 d e k fy) _ _ _ _ ?_;rw[An,<- n,qjc hz];exact⟨.bl (!qkb xs ys),H,I,Z,q⟩
 .refine SeqAt.RcNeAt.lists_lengths g.isList f.isList (bne_iff_ne.mpr (by rw[An,An];lia)) c _ _ _ _ ?_;rw[qkg hz]at q;exact⟨.bl true,H,I,Z,q⟩
end
noncomputable def qps (K:Ag)(C:Addr)(ini:Option Value):Bool:=qn6 K C ini && Bi K (.ref C) && (AU K (.ref C) "__getattribute__" == some (some (.builtin "BaseException.__getattribute__"))) && (AU K (.ref C) "__getattr__" == some none) &&
 (D0 K C (.type "BaseException") == some true) && Dl K C && (AU K (.ref C) "__class__" == some (some (.builtin "object.__class__"))) &&
 (DD K (.builtin "object.__class__") "__get__" == some (some (.builtin "getset_descriptor.__get__"))) && (PySem.W.takesIn K (.builtin "object.__class__") == some true) && (D0 K C (.type "object") == some true) &&
 (AU K (.ref C) "__setattr__" == some (some (.builtin "object.__setattr__"))) && ((PySem.W.clsIn K C).any λcd=>qn5 cd.mro && cd.hasDict)
structure XA (K:Ag)(C:Addr)(ini:Option Value):Prop where
 xc:qn6 K C ini=true
 kp:Bi K (.ref C)=true
 is:XIs K C
 sa:AU K (.ref C) "__setattr__"=some (some (.builtin "object.__setattr__"))
 cd:((PySem.W.clsIn K C).any λcd=>qn5 cd.mro && cd.hasDict)=true
theorem qn8 {K:Ag}{C:Addr}{a:Option Value}(h:qps K C a=true):XA K C a:=by unfold qps at h;rw[AN]at h;obtain⟨h,d⟩:=h;simp only[AN,beq_iff_eq]at h;obtain⟨⟨⟨⟨⟨⟨⟨⟨⟨⟨n,k⟩,l⟩,m⟩,f⟩,e⟩,g⟩,i⟩,j⟩,b⟩,c⟩:=h;exact⟨n,k,{ga:=l,hk:=m,sub:=f,dct:=e,cls:=g,get:=i,tak:=j,obj:=b},c,d⟩
theorem XA.set {K:Ag}{C:Addr}{b:Option Value}{name:Str}(a:XA K C b)(c:AU K (.ref C) name=some none):XSet K C name:=⟨a.sa,c,a.cd⟩
noncomputable def xNo (K:Ag)(C:Addr)(ns:List Str):Bool:=ns.all λn=>AU K (.ref C) n == some none
theorem zd {K:Ag}{C:Addr}{a:List Str}{n:Str}(h:xNo K C a=true)(m:n∈a):AU K (.ref C) n=some none:=beq_iff_eq.mp (Bk.mp h n m)
noncomputable def qui (K:Ag)(B:Addr):Bool:=(DD K (.ref B) "__getattribute__" == some (some (.builtin "type.__getattribute__"))) && PySem.W.readsIn K B (.type "type") &&
 (match PySem.W.findCls K (.ref B) (.type "type") "__init__" with|some (.val (.builtin n))=>n == "ValueError.__init__" |_=>false)
theorem xb_of {K:Ag}{B:Addr}(h:qui K B=true):XBase K B:=by
 unfold qui at h;simp only[AN,beq_iff_eq]at h;obtain⟨⟨c,b⟩,a⟩:=h;refine⟨c,b,?_⟩;split at a
 .rename_i n e;rw[e,beq_iff_eq.mp a]
 .cases a
structure MethAt (K:Ag)(x qual:Str)(st:Stmt)(ps:List Str)(f:Addr)(fd:AF):Prop where
 fn:Fun K x qual st f fd
 bd:Binds K fd ps []
 ty:Cs K (.ref f)=some (.type "function")
section
variable {X:Cx}{K:Ag}
theorem qpt (a:X.K=K):OpR X (compareOp .In) (rIn K false):=a ▸ qgt
end
structure Notes (fs:List Addr)(x C:Addr)(od:Option Addr)(sl:Array (Option Value))(told:List Addr)(T:Addr)(fl:Value)(h h':Heap):Prop where
 rc:∃vs:Array Value,Sz6 vs/\h'.get? x=some (qdp C od vs sl)/\vs[1]?=some (.ref T)
 tb:∃oT ts,h'.get? T=some oT/\oT.data=.fields ts/\ts[3]?=some fl
 new:h.objs.size<=T
 ne:T≠x
 keep:∀b o,b≠x->b∉told->b∉fs->h.get? b=some o->h'.get? b=some o
 slot:∀b o,b≠x->b∉told->h.get? b=some o->∃s,h'.get? b=some {o with slots:=s}
 old:∀b∈told,∃o,h'.get? b=some o
section
variable {M:Model}{A:AQ}{E:Value->Ah->Prop}{s:Ah}{base:Heap}{env:Env}{outer:List Env}{L x C:Addr}{od:Option Addr}{vs:Array Value}{sl:Array (Option Value)}
theorem qq0 {i:Value}{g:Bool}{Q:Unit->Ah->Prop}(r:A.frames=some (env::outer))(hl:s.heap.FunFrames base (env::outer))(H:env.frame=some L)(F:s.heap.get? x=some (qdp C od vs sl))(hz:Sz6 vs)
  (h:∀h' T,Notes (frs (env::outer)) x C od sl [] T (rawInt L) s.heap h'->Q () {s with heap:=h'}) :
  wpAny M A (do let a <- frameOf env;let pl <- entryPlaceOf L g;let b <- EntryCells.newEntry i a .none (rawInt L) .none pl;setField (.ref x) 1 b) Q E s:=by
 have p:x∉(env::outer).filterMap (·.frame):=λI=>by obtain⟨_,o,B,D⟩:=hl.mem I;rw[F]at B;cases B;exact D vs rfl
 refine Ad (wpAny_frameOf_fun r hl H λc f=>?_);refine Ad (wpAny_entryPlaceOf λpl n=>?_);unfold EntryCells.newEntry newFields;refine Ad (Dm ?_ (n.sizeOk5 _ _ _ _ _));generalize w:({cls:=.type "traceback",dict:=none,data:=.fields ([i,.ref L,.none,rawInt L,.none]++(if pl.isEmpty then List.replicate 6 BZ else pl)).toArray}:Obj)=oT;have l:c.get? x=some (qdp C od vs sl):=(f.2.1 x p).trans F;have m:=Aj (h:=c) oT l;have j:(qdp C od vs sl).data=.fields vs:=rfl;refine DK m j (by lia) (h _ c.objs.size ?_);have k:c.objs.size≠x:=BV (Az l);have u:=CG j (·.setIfInBounds 1 (AJ c.objs.size));have t:=BM (D5 (·.setIfInBounds 1 (AJ c.objs.size))) m (Di u);have z:((c.push oT).update x (D5 (·.setIfInBounds 1 (AJ c.objs.size)))).get? c.objs.size=some oT :=
  (BH _ _ (Bc k)).trans (A3 c (by rw[<- w];rfl))
 have y:∀b o,b≠x->c.get? b=some o->((c.push oT).update x (D5 (·.setIfInBounds 1 (AJ c.objs.size)))).get? b=some o:=λb o d e=>by rw[BH _ _ (Bc d)];exact Aj _ e
 refine⟨⟨vs.setIfInBounds 1 (.ref c.objs.size),⟨by rw[Array.size_setIfInBounds];exact hz.1,by rw[Array.getElem?_setIfInBounds_ne En];exact hz.2⟩,t,by simp[hz.1]⟩,⟨oT,_,z,by rw[<- w],?_⟩,?_,k,λb o d _ v e=>y b o d ((f.2.1 b v).trans e),λb o d _ e=>?_,λb d=>absurd d (by simp)⟩
 .first | (simp;done) | (rcases n with rfl|⟨_,_,_,_,_,_,_,rfl⟩ <;>simp)
 .exact Cn f.1.symm
 .obtain⟨q,G⟩:=f.2.2 b o e;exact⟨q,y b _ d G⟩
theorem quj {Q:Unit->Ah->Prop}(a:A.frames=some (env::outer))(hl:s.heap.FunFrames base (env::outer))(c:env.frame=some L)(b:s.heap.get? x=some (qdp C od vs sl))(hz:Sz6 vs)(d:vs[1]?=some .none)
  (h:∀h' T,Notes (frs (env::outer)) x C od sl [] T (rawInt L) s.heap h'->Q () {s with heap:=h'}):wpAny M A (noteFrame (.ref x) env) Q E s:=by
 unfold noteFrame;simp only[c];refine Ad (BK b Z d ?_);rw[if_neg En];exact qq0 a hl c b hz h
theorem qsa {Q:Unit->Ah->Prop}{T:Addr}{p:Obj}{ts:Array Value}(l:A.frames=some (env::outer))(hl:s.heap.FunFrames base (env::outer))(r:env.frame=some L)(u:s.heap.get? x=some (qdp C od vs sl))(hz:Sz6 vs)(w:vs[1]?=some (.ref T))
  (j:T≠x)(f:s.heap.get? T=some p)(hd:p.data=.fields ts)(m:ts[3]?=some .none)
  (h:∀h' k,Notes (frs (env::outer)) x C od sl [T] k (rawInt L) s.heap h'->Q () {s with heap:=h'}):wpAny M A (noteFrame (.ref x) env) Q E s:=by
 unfold noteFrame;simp only[r];refine Ad (BK u Z w ?_);rw[if_pos (show (AJ T != BZ)=true from by simp)];refine Ad (BK f hd m ?_);rw[if_neg (show ¬((BZ == rawInt L)=true) from by simp[rawInt])];refine Ad (DK f hd (Dq.mp m).1 ?_);have c:∀b,b≠T->(s.heap.update T (D5 (·.setIfInBounds 3 BZ))).get? b=s.heap.get? b:=λb a=>BH _ _ (Bc a);have t:∃o,(s.heap.update T (D5 (·.setIfInBounds 3 BZ))).get? T=some o:=⟨_,BM _ f (Di (CG hd _))⟩;have z:∀b o,s.heap.get? b=some o->(∀vs,o.data ≠ .fields vs)->b≠T:=λb o a d q=>by rw[q,f]at a;cases a;exact d ts hd
 have v:T∉frs (env::outer):=λy=>by obtain⟨_,o,i,d⟩:=hl.mem y;rw[f]at i;cases i;exact d ts hd
 refine qq0 l (hl.of_keeps λb o a d=>⟨o,(c b (z b o a d)).trans a,Z⟩) r ((c x (Bc j)).trans u) hz λh' k N=>h h' k ?_;obtain⟨o,i⟩:=t;refine⟨N.rc,N.tb,A2 (Cn (Heap.size_update ..).symm) N.new,N.ne,λb o a g n e=>N.keep b o a (by simp) n ((c b (by simpa using g)).trans e),λb o a g e=>N.slot b o a (by simp) ((c b (by simpa using g)).trans e),λb a=>?_⟩;have e:b=T:=by simpa using a
 subst e;exact⟨o,N.keep b o j (by simp) v i⟩
theorem qzb {Q:Unit->Ah->Prop}{fs d:List Addr}{T:Addr}{r:Value}{j:Heap}(N:Notes fs x C od sl d T r j s.heap)(u:T∉d)(h:∀h',Notes fs x C od sl d T .none j h'->Q () {s with heap:=h'}):wpAny M A (setFlight (.ref x) none) Q E s:=by
 obtain⟨vs,hz,n,l⟩:=N.rc;obtain⟨oT,ts,m,hd,p⟩:=N.tb;have i:=(Dq.mp p).1;unfold setFlight;refine Ad (BK n Z l ?_);rw[if_pos (show (AJ T != BZ)=true from by simp)];refine DK m hd i (h _ ?_);have a:∀b,b≠T->(s.heap.update T (D5 (·.setIfInBounds 3 ((none:Option Addr).elim BZ λf=>rawInt f)))).get? b=s.heap.get? b:=λb c=>BH _ _ (Bc c);have lt:∀b o,j.get? b=some o->b≠T:=λb o e=>AI (AC (Az e) N.new);refine⟨⟨vs,hz,(a x (Bc N.ne)).trans n,l⟩,⟨_,_,BM _ m (Di (CG hd _)),CG hd _,by simp[i]⟩,N.new,N.ne,λb o c g k e=>(a b (lt b o e)).trans (N.keep b o c g k e),λb o c g e=>?_,λb c=>?_⟩
 .obtain⟨t,q⟩:=N.slot b o c g e;exact⟨t,(a b (lt b o e)).trans q⟩
 .obtain⟨o,e⟩:=N.old b c;exact⟨o,(a b λz=>u (z ▸ c)).trans e⟩
end
def FlyT (X:Cx)(pins:List (Addr×Obj))(H:Hp)(h:Heap)(x C:Addr)(od:Option Addr):Prop:=H x=some (exO x C od false)/\∃(vs:Array Value)(sl:Array (Option Value))(T:Addr)(oT:Obj)(ts:Array Value),
 h.get? x=some (qdp C od vs sl)/\vs[1]?=some (.ref T)/\h.get? T=some oT/\oT.data=.fields ts/\ts[3]?=some .none/\qe0 X pins H T
def Fly (X:Cx)(pins:List (Addr×Obj))(H:Hp)(h:Heap)(x C:Addr)(od:Option Addr):Prop:=H x=some (exO x C od true)\/FlyT X pins H h x C od
theorem qw1 {P:AH}{w:World}{H:Hp}{h:Heap}{x C:Addr}{b:Option Addr}{d c:Bool}(ok:HOk P w H h)(e:H x=some (exO x C b d))(a:ql6 H b):ql6 (upd H x (exO x C b c)) b:=by
 cases b with
 |none=>exact trivial
 |some dx =>obtain⟨fs,q⟩:=a;exact⟨fs,by rw[ze (qyl ok e q)];exact q⟩
section
variable {X:Cx}{pins:List (Addr×Obj)}{σ:L2.St}{H:Hp}{s:Ah}{E:Value->Ah->Prop}{x C:Addr}{od:Option Addr}
theorem qsb {p:Bool}{sl:Array (Option Value)}{g:List Addr}{T:Addr}{y:Value}{h':Heap}(I:Inv X pins σ H s)(e:H x=some (exO x C od p))(N:Notes (frs X.stack) x C od sl g T y s.heap h')(h:∀b∈g,qe0 X pins H b) :
  Inv X pins σ (upd H x (exO x C od false)) {s with heap:=h'}/\qe0 X pins (upd H x (exO x C od false)) T:=by
 have nx:∀b,H b=none->b≠x:=λb n z=>by rw[z,e]at n;cases n
 have t:∀b u,H b=some u->b∉g:=λb u q z=>by rw[(h b z).1]at q;cases q
 have l:∀b u,H b=some u->b∉frs X.stack:=λb u q z=>by rw[I.stkFree b z]at q;cases q
 have f:∀b u,H b=some u->u≠exO x C od p->b≠x:=λb u q n z=>n (by rw[z,e]at q;exact(A5 q).symm);have sub:∀b,b≠X.env.locals->b∉X.fs->b∉frs X.stack:=λb i k z=>by
  rcases Ap.mp (I.stkSub b z) with q|q
  .exact i q
  .exact k q
 refine⟨I.step (g':=s.gens) (d':=s.drawn) (t':=s.toks) (ch:=g) (λb d=>⟨(h b d).2.2.2.1,(h b d).2.1,(h b d).2.2.2.2.1,(h b d).2.2.2.2.2⟩) (λb o i k a q n=>N.keep b o (nx b n) a (sub b i k) q) (λb o _ _ a q n=>N.slot b o (nx b n) a q)
  (λb o _ _ n=>by rw[ze (nx b n)];exact n) (λb o a q=>?_) (λb xs q=>?_) (λb o u q=>?_) (λb ps q=>?_) (λm D=>?_) (λb u q=>?_) I.bare,?_⟩
 .by_cases d:b=x
  .subst d;obtain⟨vs,_,r,_⟩:=N.rc;exact⟨_,r⟩
  .obtain⟨B,j⟩:=N.slot b o d a q;exact⟨_,j⟩
 .rw[ze (f b _ q (by unfold exO;intro z;cases z))];exact q
 .rw[ze (f b _ q (by unfold exO;intro z;cases z))];exact q
 .exact⟨#[],by rw[ze (f b _ q (by unfold exO;intro z;cases z)),q];simp⟩
 .obtain⟨o,w,ep,A,r⟩:=D;obtain⟨B,j⟩:=N.slot _ o (nx _ I.free) (λz=>(h _ z).2.1 Z) A;exact⟨_,w,ep,j,r⟩
 .by_cases d:b=x
  .subst d;rw[qu]at q;cases q;obtain⟨vs,hz,r,_⟩:=N.rc;exact qmw r hz λz=>nomatch z
  .rw[ze d]at q;refine(I.hok b u q).stay (λc v a r=>?_) (λc r=>?_) λc xs r=>?_
   .rcases a with rfl|a
    .exact N.keep c v d (t c u q) (l c u q) r
    .exact N.keep c v (f c _ a (by unfold exO;intro z;cases z)) (t c _ a) (l c _ a) r
   .rw[ze (f c _ r (by unfold exO;intro z;cases z))];exact r
   .rw[ze (f c _ r (by unfold exO;intro z;cases z))];exact r
 .exact I.fpOk N.new (by rw[ze N.ne];exact I.hok.fresh N.new)
theorem qsc {Q:Ah->Prop}(d:X.stack=X.env::X.outer/\X.env.frame=some X.env.locals)(I:Inv X pins σ H s)(f:Fly X pins H s.heap x C od)
  (h:∀s',Inv X pins σ (upd H x (exO x C od false)) s'->FlyT X pins (upd H x (exO x C od false)) s'.heap x C od->Q s') :
  wpAny (model X.prog X.w) X.A (noteFrame (.ref x) X.env) (λ_ L=>wpAny (model X.prog X.w) X.A (setFlight (.ref x) none) (λ_ p=>Q p) E L) E s:=by
 have l:X.A.frames=some (X.env::X.outer):=by rw[I.ok.frames,d.1]
 have hl:s.heap.FunFrames X.base (X.env::X.outer):=by rw[<- d.1];exact I.stack
 have m:∀{F:Bool}{sl:Array (Option Value)}{a:List Addr}{T:Addr}{D:Value}{h':Heap},H x=some (exO x C od F)->(∀b∈a,qe0 X pins H b)->(∀b∈a,∃o,s.heap.get? b=some o)->Notes (frs (X.env::X.outer)) x C od sl a T D s.heap h' ->
   wpAny (model X.prog X.w) X.A (setFlight (.ref x) none) (λ_ p=>Q p) E {s with heap:=h'}:=by
  intro F sl a T D h' e M G N;refine qzb (s:={s with heap:=h'}) N (λz=>?_) λh2 g=>?_
  .obtain⟨o,q⟩:=G T z;exact absurd (Az q) (Nat.not_lt.mpr N.new)
  .rw[<- d.1]at g;obtain⟨J,i⟩:=qsb I e g M;obtain⟨vs,hz,r,v⟩:=g.rc;obtain⟨B,ts,j,hd,u⟩:=g.tb;exact h _ J ⟨qu,vs,sl,T,B,ts,r,v,j,hd,u,i⟩
 rcases f with e|⟨e,vs,sl,T,B,ts,k,v,j,hd,u,i⟩
 .obtain⟨vs,sl,k,hz,K⟩:=qhe I.hok e;obtain⟨rfl,t,rfl⟩:=K rfl;exact quj l hl d.2 k ⟨Z,Z⟩ rfl λh' T N=>m e (λb c=>absurd c (by simp)) (λb c=>absurd c (by simp)) N
 .have hz:Sz6 vs:=by
   obtain⟨vs',sl',n,hz,_⟩:=qhe I.hok e
   rw[k]at n
   cases n
   exact hz
  have y:T≠x:=λz=>by have:=i.1;rw[z,e]at this;cases this
  have one:∀b∈[T],b=T:=λb c=>by simpa using c
  exact qsa l hl d.2 k hz v y j hd u λh' T' N=>m e (λb c=>by rw[one b c];exact i) (λb c=>by rw[one b c];exact⟨_,j⟩) N
end
def CX1 (P:AH)(w:World):CXT:=λouter H s E e s'=>∃(x C:Addr)(od:Option Addr)(H':Hp)(vs:Array Value)(sl:Array (Option Value))(T:Addr)(oT:Obj)(ts:Array Value),e=.ref x/\H' x=some (exO x C od false)/\ql6 H' od/\s'.heap.get? x=some (qdp C od vs sl)/\vs[1]?=some (.ref T) /\
 s'.heap.get? T=some oT/\oT.data=.fields ts/\ts[3]?=some .none/\H' T=none/\s.heap.objs.size<=T/\s'.os=s.os/\AllBare s'.gens/\Un (frs outer) [] H H' s.heap s'.heap/\HOk P w H' s'.heap/\E (.ref x) od H'
def Takes (X:Cx)(E:XK):Prop:=∀(pins:List (Addr×Obj))(σ:L2.St)(H:Hp)(s:Ah)(x C:Addr)(od:Option Addr),Inv X pins σ H s->Fly X pins H s.heap x C od->ql6 H od->E (.ref x) od (upd H x (exO x C od false))->X.xe (.ref x) s
theorem qbg {P:AH}{w:World}{K:Ag}{mg:Str->Option Value}{base:Heap}{N:List Str}{a:Str}{scope:Scope}{f:Addr}{n:Value}{A:AQ}{outer:List Env}{s:Ah}{H:Hp}{E:XK} :
  Takes (qlj (CX1 P w) P w K mg base N a scope f n A outer s H E) E:=by
 intro pins σ m s1 x C d I h has q;show wpAny _ _ (leaving _ _) _ _ _;unfold leaving;refine Ad (qsc ⟨Z,Z⟩ I h λs2 J o=>?_);obtain⟨e,vs,sl,T,k,ts,r,l,p,hd,j,g⟩:=o;have c:s.heap.objs.size<=T:=by
  rcases g.2.2.2.1 with z|z
  .exact absurd (show T∈([]:List Addr) from z) (by simp)
  .exact z
 have b:∃i,m x=some (exO x C d i):=by
  rcases h with z|z
  .exact⟨_,z⟩
  .exact⟨_,z.1⟩
 obtain⟨i,b⟩:=b;exact⟨x,C,d,_,vs,sl,T,k,ts,Z,e,qw1 I.hok b has,r,l,p,hd,j,g.1,c,J.os,J.bare,J.base,J.hok,q⟩
section
variable {P:AH}{w:World}{K:Ag}{mg:Str->Option Value}{base:Heap}
theorem okX {x a:Str}{st:Stmt}{f:Addr}{d:AF}{N ps:List Str}{k:Nat}{sp:Sp}(F:Fun K x a st f d)(S:FnScope N ps (qaa st))(len:∀vs H Q E,sp vs H Q E->vs.length=ps.length)
  (c:∀(b:Value)(A:AQ)(outer:List Env)(s:Ah)(H:Hp)(vs:List V)(Q:VK)(E:XK),Room k (A.deeper (envOfC a (qaa st) s.heap.objs.size f b))->sp vs H Q E ->
   ∃t,PSs (qlj (CX1 P w) P w K mg base N a (qaa st) f b A outer s H E) (qbf st) t/\t {nx:=λ_ h=>Q .non h,rt:=Q} (qe8 N vs) H):FnOk P w K mg base (CX1 P w) (k+1) f d ps sp:=by
 obtain⟨oc,od,kV,doc,pm,an,b,ct,osl,rfl,lk,e⟩:=F.ex
 exact qqu lk e S len λA outer s H vs Q E i g=>c b A outer s H vs Q E i g
end
theorem qq1 {X:Cx}{P:AH}{w:World}:qel (CX1 P w) X E0:=λ_ _ _ _ _ _ _ h=>by obtain⟨_,_,_,_,_,_,_,_,_,_,_,_,_,_,_,_,_,_,_,_,_,_,_,q⟩:=h;exact q.elim
def TakesAt (X:Cx)(EX:L2.St->XK):Prop:=∀(pins:List (Addr×Obj))(σ:L2.St)(H:Hp)(s:Ah)(x C:Addr)(od:Option Addr),Inv X pins σ H s->Fly X pins H s.heap x C od->ql6 H od->EX σ (.ref x) od (upd H x (exO x C od false))->X.xe (.ref x) s
theorem Takes.at {X:Cx}{E:XK}(t:Takes X E):TakesAt X λ_=>E:=t
theorem TakesAt.pass {X:Cx}{g:L2.St->XK}{a:List (Addr×Obj)}{σ:L2.St}{H:Hp}{s d:Ah}{e:Value}(t:TakesAt X g)(I:Inv X a σ H s)(c:CX1 X.prog X.w X.stack H s (g σ) e d):X.xe e d:=by obtain⟨x,C,j,h,vs,sl,T,k,ts,rfl,ex,has,p,l,o,hd,i,n,hz,m,f,un,ok,q⟩:=c;have J:=I.call' (ch:=[]) m un ok f λb f=>absurd f (by simp);refine t a σ h d x C j J (.inr ⟨ex,vs,sl,T,k,ts,p,l,o,hd,i,I.fpOk hz n⟩) has ?_;rw[qn7 ex];exact q
def qzc (sp:Sp)(dvs:List V)(EX:L2.St->XK)(t:TA):TE:=λσ H Q=>t σ H λvs H1=>sp (vs++dvs) H1 Q (EX σ)
def qzd (C:Addr)(sp:Sp)(dvs:List V)(EX:L2.St->XK)(t:TA):TE:=λσ H Q=>t σ H λvs H1=>∀x dx,H1 x=none->H1 dx=none->dx≠x ->
 sp (.ref x::(vs++dvs)) (upd (upd H1 dx (.own x)) x (.ins C dx [])) (λv H2=>v=.non/\Q (.ref x) H2) (EX σ)
section
variable {X:Cx}{k:Nat}{f C:Addr}{fd:AF}{ps:List Str}{sp:Sp}{dvs:List V}{ds:List Value}{EX:L2.St->XK}{x m:Str}{p pos apos:Pos}{e o:Expr}{es:List Expr}{ta:TE}{t:TA}
theorem qw3 {b:List (Addr×Obj)}{σ:L2.St}{H:Hp}{s:Ah}{Q:VK}{us:List Value}{vs:List V}(F:FnOk X.prog X.w X.K X.mg X.base (CX1 X.prog X.w) k f fd ps sp)(d:Room k X.A)(g:Binds X.K fd ps ds)(hd:Vals dvs ds)(i:TakesAt X EX)
  (I:Inv X b σ H s)(r:Vals vs us)(h:sp (vs++dvs) H Q (EX σ)):wpAny (model X.prog X.w) X.A (call (.ref f) us) (EP X b σ Q) X.xe s:=by
 have c:Vals (vs++dvs) (us++ds):=r.append hd;have hl:(us++ds).length=ps.length:=by rw[<- c.length];exact F.len _ _ _ _ h
 refine CQ (CM (F.run X.A X.stack s H ⟨us,[]⟩ (us++ds) (vs++dvs) Q (EX σ) d I.env0 (g s us I.kIn hl) c h) λr s' a=>?_);cases r with
 |error e=>exact i.pass I a
 |ok fl =>
  cases fl with|ret u=>exact I.after a|next=>exact Br a|brk=>exact Br a|cont=>exact Br a
theorem qen (F:FnOk X.prog X.w X.K X.mg X.base (CX1 X.prog X.w) k f fd ps sp)(g:Room k X.A)(j:Gl X x)(l:X.mg x=some (.ref f))(hk:Bi X.K (.ref f)=true)(i:Binds X.K fd ps ds)(hd:Vals dvs ds)(m:TakesAt X EX)
  (d:PA X (e::es) t)(b:(x == ("__debug__" : Str))=false:=by decide)(he:starEach (e::es) X.env=(false,eval e X.env)::starEach es X.env:=by rfl)(hpl:(backTo pos (starEach es X.env)).any (·.1)=false:=by rfl) :
  PE X (.Call (.Name x p) (e::es) [] pos) (qzc sp dvs EX t):=by
 intro a s σ H Q I h;refine B1 (qeu I j l ?_ b);refine CF (h₀:=X.base) I.ok.mod.kin hk (thn (d pos a s σ H _ I h) λus s1 ⟨vs,H1,c,r,q⟩=>⟨c.kIn,?_⟩) he hpl;exact qw3 F g i hd m c r q
theorem qsd {b:List (Addr×Obj)}{σ:L2.St}{H:Hp}{s:Ah}{Q:VK}{us:List Value}{vs:List V}(M:Mk X.K C f)(F:FnOk X.prog X.w X.K X.mg X.base (CX1 X.prog X.w) k f fd ps sp)(l:Room (k+1) X.A)(p:Binds X.K fd ps ds)(hd:Vals dvs ds)
  (q:TakesAt X EX)(I:Inv X b σ H s)(r:Vals vs us)
  (h:∀x dx,H x=none->H dx=none->dx≠x->sp (.ref x::(vs++dvs)) (upd (upd H dx (.own x)) x (.ins C dx [])) (λv n=>v=.non/\Q (.ref x) n) (EX σ)) :
  wpAny (model X.prog X.w) X.A (call (.ref C) us) (EP X b σ Q) X.xe s:=by
 have g:=h (s.heap.objs.size+1) s.heap.objs.size (I.hok.fresh (C7 _)) (I.hok.fresh (Ax _)) (AI (CC _));have c:=Inv.made (C:=C) I;have d:Vals (V.ref (s.heap.objs.size+1)::(vs++dvs)) (AJ (s.heap.objs.size+1)::(us++ds)):=.cons rfl (r.append hd);have hl:(AJ (s.heap.objs.size+1)::us++ds).length=ps.length:=by have e:=d.length;rw[F.len _ _ _ _ g]at e;exact e.symm
 refine CQ (qj4 (f:=f) I.kIn M.makes M.init (beq_iff_eq.mp M.fn) (CM (F.run _ X.stack _ _ ⟨AJ (s.heap.objs.size+1)::us,[]⟩ (AJ (s.heap.objs.size+1)::(us++ds)) _ _ (EX σ) (l.make C us [])
  (c.env0.make C us []) (p _ (AJ (s.heap.objs.size+1)::us) c.kIn hl) d g) λr s' a=>?_))
 cases r with
 |error e=>exact q.pass c a
 |ok fl =>
  cases fl with
  |ret u =>obtain⟨v,i,o,t,j,m⟩:=c.after a;subst j;exact⟨t,⟨V.ref (s.heap.objs.size+1),i,o,Z,m⟩⟩
  |next=>exact Br a
  |brk=>exact Br a
  |cont=>exact Br a
theorem quk (M:Mk X.K C f)(F:FnOk X.prog X.w X.K X.mg X.base (CX1 X.prog X.w) k f fd ps sp)(g:Room (k+1) X.A)(j:Gl X x)(l:X.mg x=some (.ref C))(i:Binds X.K fd ps ds)(hd:Vals dvs ds)(m:TakesAt X EX)
  (d:PA X (e::es) t)(b:(x == ("__debug__" : Str))=false:=by decide)(he:starEach (e::es) X.env=(false,eval e X.env)::starEach es X.env:=by rfl)(hpl:(backTo pos (starEach es X.env)).any (·.1)=false:=by rfl) :
  PE X (.Call (.Name x p) (e::es) [] pos) (qzd C sp dvs EX t):=by
 intro a s σ H Q I h;refine B1 (qeu I j l ?_ b);refine CF (h₀:=X.base) I.ok.mod.kin M.kp (thn (d pos a s σ H _ I h) λus s1 ⟨vs,H1,c,r,q⟩=>⟨c.kIn,?_⟩) he hpl;exact qsd M F g i hd m c r q
end
noncomputable abbrev _root_.L2.Cx.tr (X:Cx)(pins:List (Addr×Obj))(W:Value->Ah->Prop):Cx:={X with pn:=X.pn++pins,xe:=W}
section
variable {X:Cx}{pins pins':List (Addr×Obj)}{σ:L2.St}{H:Hp}{s:Ah}{W:Value->Ah->Prop}{e:Value}
end
abbrev TH:=Ends->L2.St->Addr->Addr->Option Addr->Hp->Prop
section
variable {X:Cx}{pins:List (Addr×Obj)}{σ:L2.St}{H:Hp}{s:Ah}{E:Value->Ah->Prop}
end
def PC (X:Cx)(t:Expr)(c:Value):Prop:=∀(e:Value)(E:Value->Ah->Prop)(pins:List (Addr×Obj))(s:Ah)(σ:L2.St)(H:Hp)(Q:Value->Ah->Prop),Inv X pins σ H s->Q c s->wpAny (model X.prog X.w) (X.A.mark (some e)) (eval t X.env) Q E s
def hAs (i:Nat)(ts:Addr->TS):TH:=λD σ x _ _ H=>ts x {nx:=λσ' H'=>D.nx (σ'.set i none) H',rt:=D.rt,bk:=λσ' H'=>D.bk (σ'.set i none) H',ct:=λσ' H'=>D.ct (σ'.set i none) H'} (σ.set i (some (.ref x))) H
section
variable {X:Cx}{t:Expr}{b₀:Stmt}{body:List Stmt}{pos:Pos}{qcb:List ExceptHandler}{c:Value}{ts:Addr->TS}{tr:TH}
end
structure XRaise (K:Ag)(C:Addr):Prop where
 sub:D0 K C (.type "BaseException")=some true
 ty:Cs K (.ref C)=some (.type "type")
noncomputable def qhf (K:Ag)(C:Addr):Bool:=(D0 K C (.type "BaseException") == some true) && (Cs K (.ref C) == some (.type "type"))
theorem qn9 {K:Ag}{C:Addr}(h:qhf K C=true):XRaise K C:=by unfold qhf at h;simp only[AN,beq_iff_eq]at h;exact⟨h.1,h.2⟩
theorem qw4 {prog:AH}{w:World}{A:AQ}{E:Value->Ah->Prop}{s:Ah}{env:Env}{K:Ag}{m:Sem Value}{Q:Flow->Ah->Prop}(o:A.handled=none)
  (h:wpAny (model prog w) A m (λv a=>∃x C e vs sl,v=.ref x/\K.In a.heap/\XRaise K C/\a.heap.get? x=some (qdp C e vs sl)/\vs[1]?=some .none/\E (.ref x) a) E s) :
  wpAny (model prog w) A (raiseStmt env (some m) none) Q E s:=by
 unfold raiseStmt;refine Ad (BQ h (λv a i=>?_) λ_ _ x=>x);obtain⟨x,C,e,vs,sl,rfl,g,c,b,n,l⟩:=i;have d:BJ (model prog w) a.heap (typeOf (.ref x)) (.ref C):=(BJ.ld b).andThen .now;have k:BJ (model prog w) a.heap (isInstance (.ref x) (.type "BaseException")) true:=d.andThen (PySem.W.looks_mroIn g c.sub);have f:BJ (model prog w) a.heap (isType (.ref x)) false:=(BJ.ld b).andThen .now;have j:BJ (model prog w) a.heap (typeOf (.ref C)) (.type "type"):=PySem.W.looks_typeIn g c.ty;refine Ad (A1 ?_);refine Ad (BR ?_);unfold excFromValue isExcClass;refine Ad (Ad (f.here ?_));rw[if_neg En];refine A1 ?_;rw[if_neg En];refine Ad (k.here ?_);rw[if_pos Z];refine A1 ?_;refine Ad (f.here ?_);rw[if_neg En];refine Ad ?_;unfold raisedInstance;refine Ad (d.here (Ad (j.here ?_)));rw[if_pos (beq_self_eq_true _)];refine A1 ?_;refine Ad ?_;unfold setFlight;refine Ad (BK b Z n ?_);rw[if_neg En];exact A1 (wpAny_raiseNew_none o l)
def qze (K:Ag)(te:TE)(EX:L2.St->XK):TS:=λ_ σ H=>te σ H λv H1=>∃x C od,v=.ref x/\H1 x=some (exO x C od true)/\ql6 H1 od/\XRaise K C/\EX σ (.ref x) od (upd H1 x (exO x C od false))
theorem qc8 {X:Cx}{e:Expr}{f:TE}{pos:Pos}{d:L2.St->XK}(m:X.calm=true)(o:TakesAt X d)(p:PE X e f):PS X (.Raise (some e) none pos) (qze X.K f d):=by intro a s σ H D I h;rw[arm_exec_Raise];refine Ad (Df ?_);show wpAny _ _ (raiseStmt X.env (some (do let v <- eval e X.env;standAt pos;pure v)) none) _ _ _;refine qw4 (K:=X.K) (I.ok.hd m) (Ad (thn (p a s σ H _ I h) λv i ⟨u,l,b,r,x,C,g,k,ex,has,c,q⟩=>Ad (Df (A1 ?_))));subst k;obtain rfl:v=AJ x:=r;obtain⟨vs,sl,n,z6,j⟩:=qhe b.hok ex;obtain⟨rfl,t,rfl⟩:=j rfl;exact⟨x,C,g,_,_,Z,b.kIn,c,n,Z,o a σ l i x C g b (.inl ex) has q⟩
section
variable {X:Cx}
end
def tFmt (te:TE):TE:=λσ H Q=>te σ H λv H1=>(∃i:Int,v=.int i/\i.natAbs.log2<1920/\Q (.str (toString i)) H1) \/ ∃x:Str,v=.str x/\x.length<=Au/\Q (.str x) H1
noncomputable abbrev TJ:=Str->TE
def PJ (X:Cx)(es:List Expr)(t:TJ):Prop:=∀(acc:Str)(pins:List (Addr×Obj))(s:Ah)(σ:L2.St)(H:Hp)(Q:VK),Inv X pins σ H s->t acc σ H Q->wpAny (model X.prog X.w) X.A (joinParts acc (evalEach es X.env)) (EP X pins σ Q) X.xe s
def tJ0:TJ:=λacc _ H Q=>acc.length<=Au/\Q (.str acc) H
def tJc (te:TE)(tj:TJ):TJ:=λacc σ H Q=>te σ H λv H1=>∃y:Str,v=.str y/\(acc++y).length<=Au/\tj (acc++y) σ H1 Q
section
variable {X:Cx}{e:Expr}{es:List Expr}{te:TE}{tj:TJ}{pos:Pos}
theorem qe1 (d:PE X e te):PE X (.FormattedValue e (-1) none pos) (tFmt te):=by
 intro a s σ H Q I h;refine FormattedValue_plain (thn (d a s σ H _ I h) λu s1 ⟨v,c,b,r,q⟩=>?_);rcases q with ⟨i,rfl,hz,q⟩|⟨x,rfl,hz,q⟩
 .obtain⟨t,rfl⟩:=r;exact formatField_int_small hz ⟨.str (toString i),c,b.tok _,⟨_,Z⟩,q⟩
 .obtain⟨t,rfl⟩:=r;exact formatField_str (λt' tk=>⟨.str x,c,b.tok tk,⟨_,Z⟩,q⟩) hz
theorem qmx:PJ X [] tJ0:=λa pins s σ H Q I h=>joinParts_nil ⟨.str a,H,I.tok _,⟨_,Z⟩,h.2⟩ h.1
theorem qbl (j:PE X e te)(c:PJ X es tj):PJ X (e::es) (tJc te tj):=λb a s σ H Q I h =>
 joinParts_cons (thn (j a s σ H _ I h) λu d ⟨v,i,g,r,y,f,hz,q⟩=>by subst f;obtain⟨t,rfl⟩:=r;exact⟨hz,c (b++y) a d σ i Q g q⟩)
def tFs (tj:TJ):TE:=λσ H Q=>tj Co σ H Q
theorem qq2 {b:Expr}(c:PJ X (e::b::es) tj):PE X (.JoinedStr (e::b::es) pos) (tFs tj):=λa s σ H Q I h=>JoinedStr_many (c Co a s σ H Q I h)
end
open Builtin Builtin.Str
section
variable {X:Cx}
theorem ql7:∀(l:List (Str×Tok)),Vals (l.map λp=>V.str p.1) (strValues l)
 | []=>.nil
 |p::l=>.cons ⟨p.2,Z⟩ (ql7 l)
theorem qhg {a:List (Addr×Obj)}{s:Ah}{σ:L2.St}{H:Hp}{Q:VK}{ys:List Str}(I:Inv X a σ H s)(k:Nat)(l:List (Str×Tok))(e:l.map (·.1)=ys)(z:ys.length<=Au)(q:∀p,H p=none->Q (.ref p) (upd H p (.lst (ys.map V.str)))) :
  EP X a σ Q (.ref s.heap.objs.size) {s with heap:=s.heap.push {cls:=.type "list",data:=.seq (strValues l).toArray},toks:=k}:=by
 have c:H s.heap.objs.size=none:=I.hok.fresh (Ax _);refine⟨.ref s.heap.objs.size,upd H s.heap.objs.size (.lst (ys.map V.str)),I.laid (t':=k) (λb u e=>Aj _ e) (Ax _) ?_,Z,q _ c⟩;refine⟨by rw[Ab];exact z,strValues l,0,?_,A3 _ Z⟩;rw[<- e,AM];exact ql7 l
theorem qoa:MtR X "str.split" (λx vs H Q=>∃a y:Str,x=.str a/\vs=[.str y]/\(y.length == 0)=false/\a.length<=Au/\(Cp a y).length<=Au/\(partsBetween a (occurrences a y 0 a.length (a.length+1)) y.length).length<=Au /\
  ∀p,H p=none->Q (.ref p) (upd H p (.lst ((Cp a y).map V.str)))):=by
 intro pins s σ H x vs v us Q I e i h;obtain⟨a,y,rfl,rfl,d,g,hz,f,q⟩:=h;obtain⟨t,rfl⟩:=e;obtain⟨u',rfl,u,rfl⟩:=i.one;cases b:(decide (a.length<y.length) || decide (strKind a<strKind y))
 .cases c:(occurrences a y 0 a.length (a.length+1)).isEmpty
  .refine Do F.slot_str_split (typeIs_str _ _ _) F.entry_str_split (F.args_str_split_2 _ _) (meets_str_split_sep a y t u b d c g f) ?_;show wants _ _ _ {s with toks:=_,heap:=s.heap.push {cls:=.type "list",data:=.seq (strsFrom s.toks (partsBetween a (occurrences a y 0 a.length (a.length+1)) y.length)).toArray} };rw[strsFrom_eq];exact qhg I _ _ ((numbered_texts _ _).trans ((if_neg (ne_true_of_eq_false b)).trans (if_neg (ne_true_of_eq_false c))).symm) hz q
  .exact Do F.slot_str_split (typeIs_str _ _ _) F.entry_str_split (F.args_str_split_2 _ _) (meets_str_split_not_found a y t u b d c) (qhg I s.toks [(a,t)] ((if_neg (ne_true_of_eq_false b)).trans (if_pos c)).symm hz q)
 .exact Do F.slot_str_split (typeIs_str _ _ _) F.entry_str_split (F.args_str_split_2 _ _) (meets_str_split_cannot_occur a y t u b) (qhg I s.toks [(a,t)] (if_pos b).symm hz q)
end
end Add
namespace Add
open PySem PySem.Spec PyProof.Rows L2
theorem qse {X:Cx}:qek X (.type "int") (λxs H Q=>∃(x:Str)(n:Int),xs=[.str x]/\PySem.intText? x=some n/\x.length<=640/\Q (.int n) H):=by intro pins s σ H xs us Q I r h;obtain⟨x,n,rfl,a,hl,q⟩:=h;obtain⟨u,rfl,t,rfl⟩:=qf0 r;exact PySem.W.KIN.call_text a hl ⟨.int n,H,I.tok _,⟨_,Z⟩,q⟩
section
variable {K:Ag}{C f:Addr}{m:Str}
noncomputable def qw5 (K:Ag)(C:Addr):Bool:=Dw K C Co && Dl K C && PySem.W.plainOver K C && (AU K (.ref C) "__setattr__" == some (some (.builtin "object.__setattr__")))
theorem qul (h:qw5 K C=true):Cls K C:=by unfold qw5 at h;simp only[AN,beq_iff_eq]at h;obtain⟨⟨⟨d,a⟩,b⟩,c⟩:=h;exact⟨d,a,b,c⟩
noncomputable def mkB (K:Ag)(C f:Addr):Bool:=PySem.W.makesIn K C && (AU K (.ref C) "__init__" == some (some (.ref f))) && PySem.W.isFn K (.ref f) && Bi K (.ref C)
theorem qym (h:mkB K C f=true):Mk K C f:=by unfold mkB at h;simp only[AN,beq_iff_eq]at h;obtain⟨⟨⟨d,a⟩,b⟩,c⟩:=h;exact⟨d,a,b,c⟩
noncomputable def qob (K:Ag)(C:Addr)(m:Str)(f:Addr):Bool:=(AU K (.ref C) m == some (some (.ref f))) && PySem.W.isFn K (.ref f) && Bi K (.ref f)
theorem qmy (h:qob K C m f=true):Meth K C m f:=by unfold qob at h;simp only[AN,beq_iff_eq]at h;obtain⟨⟨c,b⟩,a⟩:=h;exact⟨c,b,a⟩
end
open Builtin Builtin.Str
section
variable {X:Cx}
theorem qlm:MtR X "str.startswith" (λx vs H Q=>∃a y:Str,x=.str a/\vs=[.str y]/\Q (.bl (Txt.startswith a y)) H):=by intro pins s σ H x vs v us Q I b c h;obtain⟨a,y,rfl,rfl,q⟩:=h;obtain⟨t,rfl⟩:=b;obtain⟨u',rfl,u,rfl⟩:=c.one;exact SC.startswith ⟨.bl _,H,I,Z,q⟩
theorem ql8:∀{ys:List Str}{us:List Value},Vals (ys.map V.str) us->∃l:List (Str×Tok),strValues l=us/\l.map (·.1)=ys
 | [],us,r=>by cases r;exact⟨[],Z,Z⟩
 |y::ys,us,r=>by
  cases r with
  |cons h r =>obtain⟨t,rfl⟩:=h;obtain⟨l,b,a⟩:=ql8 r;exact⟨(y,t)::l,by rw[<- b];rfl,by rw[<- a];rfl⟩
theorem qgw:MtR X "str.join" (λx vs H Q=>∃(a:Str)(p:Addr)(ys:List Str),x=.str a/\vs=[.ref p]/\SqL X.K H p (ys.map V.str)/\JoinOk a ys=true/\Q (.str (Txt.join a ys)) H):=by intro pins s σ H x vs v us Q I d g h;obtain⟨a,p,ys,rfl,rfl,f,b,q⟩:=h;obtain⟨t,rfl⟩:=d;obtain⟨u',rfl,c⟩:=g.one;cases c;obtain⟨its,r,pl,hz⟩:=I.list f;obtain⟨l,rfl,e⟩:=ql8 r;exact SC.join pl.isList e b λt' k=>⟨.str _,H,I.tok _,⟨_,Z⟩,q⟩
end
end Add
namespace Add
open PySem PySem.Spec PyProof.Rows L2
open Builtin Builtin.Str
end Add
namespace Add
open PySem PySem.Spec PyProof.Rows L2
theorem qag {H a:Hp}{p:Addr}{o:HO}(s:Same H a)(n:H p=none):Same H (upd a p o):=λb u e=>by rw[ze (qab e n)];exact s _ _ e
theorem qsf {K:Ag}{H b:Hp}{a:Addr}{xs:List V}(e:Same H b)(h:SqT K H a xs):SqT K b a xs:=by
 rcases h with (h|h)|h
 .exact .inl (.inl (e _ _ h))
 .obtain⟨o,h⟩:=h;exact .inl (.inr ⟨o,e _ _ h⟩)
 .exact .inr h
theorem qsg {js:List (Option Nat)}{g:TG}{t:TE}{J:It}{σ:L2.St}{H:Hp}{Q:VK}{xs:List V}(f:V->V)(Sv:L2.St->Prop)(F:qja J H xs)(hz:xs.length<=Au)(I:Sv (qdd js σ))
  (step:∀(x:V)(σ':L2.St)(d:Hp)(R:L2.St->VK),x∈xs->Same H d->Sv σ'->(∀σ3 h,Sv σ3->Same d h->R σ3 (f x) h)->g x σ' d λσ3 l=>t σ3 l (R σ3))
  (B:∀(x:V)(σ':L2.St)(d:Hp)(R r:L2.St->Hp->Prop),(∀σ3 l,R σ3 l->r σ3 l)->g x σ' d R->g x σ' d r)
  (w:∀p d,H p=none->Same H d->d p=some (.lst (xs.map f))->Q (.ref p) d) :
  qf7 js g qn3 t σ Q J H:=by
 intro p o;refine⟨λi m σ' d=>m=xs.length-i/\i<=xs.length/\Sv σ'/\Same H d/\d p=some (.lst ((xs.take i).map f)),⟨xs.length,by simp,Bj _,I,qag (Same.refl H) o,by rw[qu];rfl⟩,?_⟩;rintro i m σ' d ⟨rfl,hi,C,n,q⟩;obtain⟨G,D⟩:=F _ n;by_cases j:i<xs.length
 .have ex:xs[i]?=some xs[i]:=by simp[j]
  obtain⟨A,E⟩:=G i _ ex;refine .inr ⟨A,λσ2 k=>Sv σ2/\Same H k/\k p=some (.lst ((xs.take (i+1)).map f)),λσ2 k ⟨a,b,c⟩=>⟨xs.length-(i+1),by lia,Z,j,a,b,c⟩,λx k y=>?_⟩;obtain⟨rfl,rfl⟩:=E x k y;refine B _ _ _ _ _ (λσ3 l z=>?_) (step xs[i] σ' _ (λσ3 v h=>∃ys,h p=some (.lst ys)/\ys.length<Au/\(Sv σ3/\Same H (upd h p (.lst (ys++[v])))/\upd h p (.lst (ys++[v])) p=some (.lst ((xs.take (i+1)).map f)))) (Bw j) n C λσ3 h u s=>?_)
  .exact z
  .refine⟨_,s _ _ q,?_,u,qag (n.trans s) o,?_⟩
   .rw[Ab,A6];lia
   .rw[qu,CN,ex,Ar];rfl
 .have e:i=xs.length:=by lia
  subst e;refine .inl ⟨D,?_⟩;rw[Be]at q;exact w p _ o n q
theorem qsh {js:List (Option Nat)}{g:TG}{A:TT}{t:TE}{J:It}{σ:L2.St}{H:Hp}{Q:VK}{xs:List V}(b:V->Bool)(f:V->V)(Sv:L2.St->Prop)(F:qja J H xs)(hz:xs.length<=Au)(O:Sv (qdd js σ))
  (step:∀(x:V)(σ':L2.St)(c:Hp)(N:L2.St->Hp->Prop)(R:L2.St->VK),x∈xs->Same H c->Sv σ'->(∀σ3,Sv σ3->b x=false->N σ3 c)->(∀σ3,Sv σ3->b x=true->R σ3 (f x) c) ->
   g x σ' c λσ3 l=>A σ3 l λk w=>if k=true then t σ3 w (R σ3) else N σ3 w)
  (E:∀(x:V)(σ':L2.St)(c:Hp)(R q:L2.St->Hp->Prop),(∀σ3 l,R σ3 l->q σ3 l)->g x σ' c R->g x σ' c q)
  (y:∀p,H p=none->Q (.ref p) (upd H p (.lst ((xs.filter b).map f)))) :
  qf7 js g A t σ Q J H:=by
 intro p u;have r:∀o,Same H (upd H p o):=λo=>qag (Same.refl H) u;have L:∀i,((xs.take i).filter b).length<=i:=λi=>A2 (DP b (xs.take i)) (by rw[A6];lia);refine⟨λi m σ' c=>m=xs.length-i/\i<=xs.length/\Sv σ'/\c=upd H p (.lst (((xs.take i).filter b).map f)),⟨xs.length,by simp,Bj _,O,by simp⟩,?_⟩;rintro i m σ' c ⟨rfl,hi,G,rfl⟩;obtain⟨M,I⟩:=F _ (r (.lst (((xs.take i).filter b).map f)));by_cases j:i<xs.length
 .have ex:xs[i]?=some xs[i]:=by simp[j]
  obtain⟨D,K⟩:=M i _ ex;have s:(xs.take (i+1)).filter b=(xs.take i).filter b++(if b xs[i]=true then [xs[i]] else []):=by
   rw[CN,ex,BI]
   congr 1
   show List.filter b [xs[i]]=_;rw[By];rfl
  refine .inr ⟨D,λσ2 d=>Sv σ2/\d=upd H p (.lst (((xs.take (i+1)).filter b).map f)),λσ2 d ⟨a,b⟩=>⟨xs.length-(i+1),by lia,Z,j,a,b⟩,λx d C=>?_⟩;obtain⟨rfl,rfl⟩:=K x d C;refine E _ _ _ _ _ (λσ3 l z=>?_) (step xs[i] σ' _ (λσ2 d=>Sv σ2/\d=upd H p (.lst (((xs.take (i+1)).filter b).map f))) (λσ3 v B=>∃ys,B p=some (.lst ys)/\ys.length<Au/\(Sv σ3/\upd B p (.lst (ys++[v]))=upd H p (.lst (((xs.take (i+1)).filter b).map f)))) (Bw j) (r _) G (λσ3 h n=>?_) λσ3 h n=>?_)
  .exact z
  .refine⟨h,?_⟩;rw[s,n];simp
  .refine⟨_,qu,?_,h,?_⟩
   .rw[Ab];have:=L i;lia
   .rw[qmn,s,n,if_pos Z,Ar];rfl
 .have e:i=xs.length:=by lia
  subst e;refine .inl ⟨I,?_⟩;rw[Be];exact y p u
end Add
namespace Wri
open PySem PySem.Spec PyProof.Rows PySem.W PySem.W.KIN PySem.NumText
theorem cut_eq (c:Nat):∀{a b r t:List Nat},c∉a->c∉b->a++c::r=b++c::t->a=b/\r=t
 | [],[],_,_,_,_,e=>⟨Z,(Cr e).2⟩
 | [],y::b,_,_,_,hb,e=>absurd (Cr e).1 λz=>hb (by rw[z];exact Ak)
 |x::a,[],_,_,ha,_,e=>absurd (Cr e).1 λz=>ha (by rw[<- z];exact Ak)
 |x::a,y::b,_,_,ha,hb,e=>by obtain⟨h,d⟩:=Cr e;obtain⟨f,g⟩:=cut_eq c (λz=>ha (Aq _ z)) (λz=>hb (Aq _ z)) d;exact⟨by rw[h,f],g⟩
noncomputable def jl (c:Nat):List (List Nat)->List Nat
 | []=>[]
 | [x]=>x
 |x::y::r=>x++c::jl c (y::r)
theorem qum (c:Nat):∀{ps a:List (List Nat)},ps≠[]->a≠[]->(∀p∈ps,c∉p)->(∀q∈a,c∉q)->jl c ps=jl c a->ps=a
 | [],_,h,_,_,_,_=>absurd rfl h
 |_,[],_,h,_,_,_=>absurd rfl h
 | [x],[y],_,_,_,_,e=>by rw[show x=y from e]
 | [x],y::z::r,_,_,hp,_,e=>absurd (show c∈x by rw[show x=y++c::jl c (z::r) from e];simp) (hp x Ak)
 |x::z::r,[y],_,_,_,hq,e=>absurd (show c∈y by rw[show y=x++c::jl c (z::r) from e.symm];simp) (hq y Ak)
 |x::u::r,y::v::t,_,_,hp,hq,e=>by obtain⟨d,b⟩:=cut_eq c (hp x Ak) (hq y Ak) (show x++c::jl c (u::r)=y++c::jl c (v::t) from e);rw[d,qum c (CV _ _) (CV _ _) (λp h=>hp p (Aq _ h)) (λp h=>hq p (Aq _ h)) b]
theorem qdb (c:Nat):∀ps:List Str,(DZ ⟨#[c]⟩ ps).cps.toList=jl c (ps.map λp=>p.cps.toList)
 | []=>rfl
 | [x]=>rfl
 |x::y::r=>by show (x++⟨#[c]⟩++DZ ⟨#[c]⟩ (y::r)).cps.toList=_;rw[Ds,Ds,Eg,Eg,qdb c (y::r),AB];rfl
theorem str_ext {x y:Str}(h:x.cps.toList=y.cps.toList):x=y:=by cases x;cases y;congr;exact Array.toList_inj.mp h
theorem qkh (x:Str)(c:Nat):Cp x ⟨#[c]⟩≠[]:=by
 unfold Cp;split
 .exact CV _ _
 .split
  .exact CV _ _
  .intro h;have:=length_partsBetween x (AX.Str.occurrences x ⟨#[c]⟩ 0 x.length (x.length+1)) (⟨#[c]⟩:Str).length;rw[h]at this;cases this
theorem qki (c:Nat){ps:List Str}(d:ps≠[])(h:∀p∈ps,c∉p.cps.toList):Cp (DZ ⟨#[c]⟩ ps) ⟨#[c]⟩=ps:=by
 have e:(Cp (DZ ⟨#[c]⟩ ps) ⟨#[c]⟩).map (λp=>p.cps.toList)=ps.map λp=>p.cps.toList:=by
  refine qum c (λz=>qkh _ c (Eh.mp z)) (λz=>d (Eh.mp z)) (λp b=>?_) (λp b=>?_) ?_
  .obtain⟨q,a,rfl⟩:=A8.mp b;exact StrLaws.split_free _ c q a
  .obtain⟨q,a,rfl⟩:=A8.mp b;exact h q a
  .rw[<- qdb,<- qdb,StrLaws.join_split]
 exact List.map_inj_right (λ_ _ z=>str_ext z) |>.mp e
theorem qw6 {l:List Nat}{n:Nat}(h:n∈l):n<=l.sum:=by
 induction l with
 |nil=>cases h
 |cons a l ih =>
  rw[List.sum_cons];rcases Ap.mp h with rfl|h
  .lia
  .have:=ih h;lia
theorem qoc (c:Nat):∀ps:List Str,ps≠[]->(ps.map (·.length)).sum+ps.length<=(DZ ⟨#[c]⟩ ps).length+1
 | [],h=>absurd rfl h
 | [x],_=>by simp[DZ]
 |x::y::r,_=>by have a:=qoc c (y::r) (CV _ _);show _<=(x++⟨#[c]⟩++DZ ⟨#[c]⟩ (y::r)).length+1;rw[Str.length_append,Str.length_append];have:(⟨#[c]⟩:Str).length=1:=rfl;simp only[At,List.sum_cons,Am]at a |-;lia
theorem qsi (x:Str)(c:Nat):(Cp x ⟨#[c]⟩).length<=x.length+1/\∀p∈Cp x ⟨#[c]⟩,p.length<=x.length:=by have h:=qoc c (Cp x ⟨#[c]⟩) (qkh x c);rw[StrLaws.join_split]at h;refine⟨by lia,λp a=>?_⟩;have h2:=qw6 (A8.mpr ⟨p,a,Z⟩:p.length∈(Cp x ⟨#[c]⟩).map (·.length));have h3:1<=(Cp x ⟨#[c]⟩).length:=List.length_pos_iff.mpr (qkh x c);lia
theorem qjd (x:Str)(c:Nat):(AX.Str.partsBetween x (AX.Str.occurrences x ⟨#[c]⟩ 0 x.length (x.length+1)) (⟨#[c]⟩:Str).length).length<=x.length+2:=by rw[length_partsBetween];have:=StrLaws.occ_length_le x ⟨#[c]⟩ 0 x.length (x.length+1);lia
noncomputable def fig (c:Nat):Bool:=decide (48<=c) && decide (c<=57)
noncomputable def nv (x:Str):Int:=((digitsVal x.cps.toList:Nat):Int)
noncomputable def plain (x:Str):Bool:=decide (x=Aa "0") || !decide (x.cps.toList.head?=some 48)
theorem qw7 {x:Str}(h:x.cps.toList.all fig=true):AllDigits x.cps.toList:=λc a=>by have:=Bk.mp h c a;unfold fig at this;simp only[AN,decide_eq_true_eq]at this;exact this
theorem qzf {x:Str}(h:x.cps.toList.all fig=true)(h1:1<=x.cps.size)(a:x.cps.size<=4300):PySem.intText? x=some (nv x):=by
 refine intText_digits (qw7 h) (λz=>?_) a;have:x.cps.toList.length=0:=by rw[z];rfl
 rw[AO]at this;lia
end Wri
namespace Add
open PySem PySem.Spec PyProof.Rows L2
inductive Tups (H:Hp):List V->List (List V)->Prop where
 |nil:Tups H [] []
 |cons {a:Addr} {r vs:List V} {rs:List (List V)} (h:H a=some (.tup r)) (t:Tups H vs rs):Tups H (.ref a::vs) (r::rs)
theorem Tups.same {H a:Hp}{vs:List V}{rs:List (List V)}(t:Tups H vs rs)(s:Same H a):Tups a vs rs:=by
 induction t with
 |nil=>exact .nil
 |cons h _ ih=>exact .cons (s _ _ h) ih
theorem Tups.length {H:Hp}{vs:List V}{rs:List (List V)}(t:Tups H vs rs):vs.length=rs.length:=by
 induction t with
 |nil=>rfl
 |cons _ _ ih=>rw[Am,Am,ih]
theorem Tups.get {H:Hp}{vs:List V}{rs:List (List V)}(t:Tups H vs rs):∀{i:Nat}{r:List V},rs[i]?=some r->∃a,vs[i]?=some (.ref a)/\H a=some (.tup r):=by
 induction t with
 |nil=>intro i r h;cases i <;>cases h
 |cons h _ ih =>
  intro i r' h';cases i with|zero=>cases h';exact⟨_,Z,h⟩|succ i=>exact ih (i:=i) h'
theorem Tups.get' {H:Hp}{vs:List V}{rs:List (List V)}(t:Tups H vs rs){i:Nat}{v:V}(h:vs[i]?=some v):∃a r,v=.ref a/\rs[i]?=some r/\H a=some (.tup r):=by
 have b:i<rs.length:=by rw[<- t.length];exact(Ac.mp h).1
 obtain⟨a,e,q⟩:=t.get (i:=i) (r:=rs[i]) (by simp[b]);rw[h]at e;cases e;exact⟨a,_,Z,by simp[b],q⟩
theorem Tups.app {H:Hp}{vs us:List V}{rs ts:List (List V)}(t:Tups H vs rs)(u:Tups H us ts):Tups H (vs++us) (rs++ts):=by
 induction t with
 |nil=>exact u
 |cons h _ ih=>exact .cons h ih
theorem Tups.snoc {H:Hp}{vs:List V}{rs:List (List V)}{a:Addr}{r:List V}(t:Tups H vs rs)(h:H a=some (.tup r)):Tups H (vs++[.ref a]) (rs++[r]):=t.app (.cons h .nil)
theorem Tups.upd {H:Hp}{vs:List V}{rs:List (List V)}{p:Addr}{xs:List V}{o:HO}(t:Tups H vs rs)(a:H p=some (.lst xs)):Tups (L2.upd H p o) vs rs:=by
 induction t with
 |nil=>exact .nil
 |cons h _ ih=>exact .cons (by rw[ze (λz=>by rw[z,a]at h;cases h)];exact h) ih
section
variable {X:Cx}
theorem qmz {a:Addr}{u:Value}(r:RelV (.ref a) u):u=.ref a:=by cases r;rfl
theorem qw8 {K:Ag}(h:X.K=K):IxR X (rIxT K):=by subst h;exact jb
theorem qgc {K:Ag}(h:X.K=K):IxR X (rIxL K):=by subst h;exact jc
end
end Add
namespace Lay
section
variable {W:Type}[DecidableEq W]
noncomputable abbrev Row (W:Type):=Int×Int×W
noncomputable abbrev ends (rs:List (Row W)):List Int:=rs.map λr=>r.2.1
noncomputable def left (rs:List (Row W))(f:Int):List (Row W):=rs.filterMap λr=>if r.1<f then some (r.1,min r.2.1 (f-1),r.2.2) else none
noncomputable def right (rs:List (Row W))(l:Int):List (Row W):=rs.filterMap λr=>if l<r.2.1 then some (max r.1 (l+1),r.2.1,r.2.2) else none
noncomputable def over (rs:List (Row W))(f l:Int)(w:W):List (Row W):=left rs f++(f,l,w)::right rs l
noncomputable def jn1 (told:List (Row W))(r:Row W):List (Row W):=match told.getLast? with
 |some t=>if t.2.2=r.2.2/\t.2.1+1=r.1 then told.dropLast++[(t.1,r.2.1,r.2.2)] else told++[r]
 |none=>told++[r]
def Nx (r s:Row W):Prop:=r.2.1<s.1/\(s.1=r.2.1+1->r.2.2≠s.2.2)
noncomputable def jn (rs:List (Row W)):List (Row W):=rs.foldl jn1 []
noncomputable def lay (rs:List (Row W)):List (Row W):=rs.foldl (λlaid r=>over laid r.1 r.2.1 r.2.2) []
noncomputable def ov (rs:List (Row W)):List (Row W):=jn (lay rs)
end
end Lay
namespace Srt
open PySem PySem.W PyProof.Rows
section
variable {n:Nat}{r:Nat->Nat->Bool}
noncomputable abbrev at' (p:Array Nat)(i:Nat):Nat:=p.getD i 0
end
end Srt
namespace Srt
open PySem PySem.W PySem.Calls PyProof.Rows
section
variable {prog:AH}{w:World}{A:AQ}{E:Value->Ah->Prop}{s:Ah}
end
end Srt
namespace Add
open PySem PySem.Spec PyProof.Rows L2 Srt PySem.W
theorem qpu {α:Type}(xs:List α)(d:α):(AR xs.length).map (λi=>xs.getD i d)=xs:=by
 refine B0 λi=>?_;rw[Af];by_cases h:i<xs.length
 .simp[h]
 .simp[h]
section
variable {X:Cx}{pins:List (Addr×Obj)}{σ:L2.St}{H:Hp}{s:Ah}
end
end Add
namespace Mrg
noncomputable abbrev S2:=Int×Int
noncomputable def inB (rs:List S2)(d:Int):Bool:=rs.any λr=>decide (r.1<=d) && decide (d<=r.2)
noncomputable def mg1 (told:List S2)(r:S2):List S2:=match told.getLast? with
 |some t=>if r.1<=t.2+1 then told.dropLast++[(t.1,if r.2 > t.2 then r.2 else t.2)] else told++[r]
 |none=>told++[r]
noncomputable def mg (rs:List S2):List S2:=rs.foldl mg1 []
end Mrg
namespace Add
open PySem PySem.Spec PyProof.Rows L2
theorem qq3 {X:Cx}{f:List (Addr×Obj)}{σ:L2.St}{H:Hp}{s:Ah}{h':Heap}{t':Nat}{e it:Addr}(I:Inv X f σ H s)(k:∀b o,b≠e->b≠it->s.heap.get? b=some o->h'.get? b=some o)(i:qe0 X f H e)(g:qe0 X f H it) :
  Inv X f σ H {s with heap:=h',toks:=t'}:=by
 have l:∀b u,H b=some u->b≠e:=λb u q z=>by rw[z,i.1]at q;cases q
 have j:∀b u,H b=some u->b≠it:=λb u q z=>by rw[z,g.1]at q;cases q
 have d:∀b,b∉[e,it]->b≠e/\b≠it:=λb h=>⟨λz=>h (by simp[z]),λz=>h (by simp[z])⟩;refine I.step (g':=s.gens) (d':=s.drawn) (ch:=[e,it]) (λb h=>?_) (λb o _ _ a q _=>k b o (d b a).1 (d b a).2 q) (λb o _ _ a q _=>⟨o.slots,k b o (d b a).1 (d b a).2 q⟩) (λ_ _ _ _ n=>n)
  (λb o a q=>⟨o,k b o (d b a).1 (d b a).2 q⟩) (λ_ _ q=>q) (λ_ _ _ q=>q) (λb ps q=>⟨#[],by rw[q];simp⟩) (λm w=>?_) (λb u q=>?_) I.bare
 .rcases Ap.mp h with rfl|h
  .exact⟨i.2.2.2.1,i.2.1,i.2.2.2.2.1,i.2.2.2.2.2⟩
  .cases Ao.mp h;exact⟨g.2.2.2.1,g.2.1,g.2.2.2.2.1,g.2.2.2.2.2⟩
 .obtain⟨o,p,ep,t,r⟩:=w;exact⟨o,p,ep,k _ o (Bc i.2.1) (Bc g.2.1) t,r⟩
 .refine(I.hok b u q).stay (λc v a z=>k c v ?_ ?_ z) (λ_ z=>z) λ_ _ z=>z
  .rcases a with rfl|a
   .exact l _ u q
   .exact l c _ a
  .rcases a with rfl|a
   .exact j _ u q
   .exact j c _ a
noncomputable def Ite (K:Ag)(a:Addr):It :=
 ⟨λi H=>∃xs x,SqL K H a xs/\xs[i]?=some x,λi H x H'=>∀xs,SqL K H a xs->∃y t,xs[i]?=some y/\H t=none/\x=.ref t/\H'=upd H t (.tup [.int i,y]),λi H=>∃xs,SqL K H a xs/\xs.length<=i⟩
theorem qun {X:Cx}{a:List (Addr×Obj)}{H:Hp}{b t:Addr}{o:HO}(f:qe0 X a H b)(ne:b≠t):qe0 X a (L2.upd H t o) b:=⟨by rw[ze ne];exact f.1,f.2⟩
theorem qsj {P:AH}{w:World}{K:Ag}{es:List Expr}{kk pos}(a e it:Addr)(F:e≠it):Turn P w K (.Tuple es kk pos) (Ite K a) [e,it] e (λi h=>∃f,IsEnum h e it i f/\h.IsListIter it a i) where
 mem:=by simp
 obj:=λi h st b l=>by
  obtain⟨f,r,o,j,c,d⟩:=st;rcases Ap.mp l with rfl|l
  .exact⟨_,r,λv z=>by cases z⟩
  .cases Ao.mp l;exact⟨o,j,λv z=>by rw[d]at z;cases z⟩
 keep:=λi h h' st k=>by obtain⟨f,r,j⟩:=st;exact⟨f,k e (by simp) _ r,j.at λo q=>k it (by simp) o q⟩
 item:=by
  intro X L R U hc i O s σ H E I t st S;subst L R U;obtain⟨f,m,g⟩:=st;obtain⟨xs,x,C,T⟩:=S;obtain⟨its,V,p,hz⟩:=I.list C;obtain⟨u,hu,ru⟩:=V.get T;have D:=t e (by simp);have B:=t it (by simp);refine wpAny_pyNext_enum_item m g p.isList (x:=u) (by simpa using hu) F λr ho J ht hsz keep=>⟨_,Z,?_⟩;refine wpAny_letOwnedTupleGo_enum ho λj aa y=>?_
  replace y:BU e r j:=y
  have n:e<s.heap.objs.size:=Az m;obtain⟨oi,Y,_⟩:=id g;have G:it<s.heap.objs.size:=Az Y;have a0:j.get? s.heap.objs.size=some {cls:=.type "tuple",data:=.seq #[.int i s.toks,u]}:=(y.2 _ (BV n)).trans ht;have W:H s.heap.objs.size=none:=I.hok.fresh (Ax _);have I1:=I.laid (a:=s.heap.objs.size) (o:=.tup [.int i,x]) (h':=s.heap.push {cls:=.type "tuple",data:=.seq #[.int i s.toks,u]}) (t':=s.toks) (λb o q=>Aj _ q) (Ax _) ⟨show 2<=Au by rw[Bd];decide,[.int i s.toks,u],.cons ⟨_,Z⟩ (.cons ru .nil),⟨_,A3 _ Z,Z,_,Z⟩⟩;have I2:=qq3 (h':=j) (t':=s.toks+1) I1 (λb o N M q=>by
   by_cases z:b=s.heap.objs.size
   .subst z;rw[A3 _ Z]at q;cases q;exact a0
   .rw[Heap.get?_push_ne _ _ _ z]at q;exact(y.2 b N).trans (keep b o N M q)) (qun D (AI n)) (qun B (AI G))
  refine⟨.ref s.heap.objs.size,_,I2,Z,λys hy=>?_,⟨u,aa,J.at λo q=>(y.2 it (Bc F)).trans q⟩,λb l=>?_⟩
  .rw[I.list_inj hy C];exact⟨x,_,T,W,Z,Z⟩
  .rcases Ap.mp l with rfl|l
   .rw[ze (AI n)];exact D.1
   .cases Ao.mp l;rw[ze (AI G)];exact B.1
 done:=by intro X L R U hc i O s σ H E I t st S;subst L R U;obtain⟨f,m,g⟩:=st;obtain⟨xs,C,T⟩:=S;obtain⟨its,V,p,hz⟩:=I.list C;have hl:=V.length;have D:=t e (by simp);have B:=t it (by simp);exact wpAny_pyNext_enum_end (I.ok.hd hc) m g p.isList (by simp;lia) λh' eb=>⟨Z,qq3 (t':=s.toks) I (λb o N M q=>eb b o M q) D B⟩
 self:=λA i s Q E st h=>by obtain⟨f,m,g⟩:=st;exact wpAny_pyIter_enum m h
def iEnum (K:Ag)(ta:TA):TI:=λσ H R=>ta σ H λvs H1=>∃a xs,vs=[.ref a]/\H1 a=some (.lst xs)/\R (Ite K a) H1
theorem qsk:bootBuiltins "enumerate"=some (.type "enumerate"):=Ek
theorem qq4 {X:Cx}{x:List Expr}{v:_}{i:Pos}{a:Expr}{j:TA}{p pos:Pos}(B:Gl X "enumerate")(C:X.mg "enumerate"=none)(w:PA X [a] j)(hs:starEach [a] X.env=[(false,eval a X.env)]:=by rfl):PI X (.Tuple x v i) (.Call (.Name "enumerate" p) [a] [] pos) (iEnum X.K j):=by
 intro f s σ H R I h;refine Call_ (qey I B C qsk (BD (thn (w pos f s σ H _ I h) λus d ⟨vs,k,c,A,r⟩=>?_) hs Z));obtain⟨l,xs,e,hl,q⟩:=r;subst e;obtain⟨u,rfl,y⟩:=qf0 A;cases qmz y;obtain⟨z,its,n,rv,hz,e⟩:=c.lstM hl;refine call_enumerate_1 e λh' o m hsz keep=>wpAny_pyIter_enum o ?_;have t:Inv X f σ k {d with heap:=h'}:=c.kept (t':=d.toks) keep;refine⟨d.heap.objs.size+1,[d.heap.objs.size+1,d.heap.objs.size],_,_,k,Z,t,qsj l _ _ (BV (CC _)),⟨.none,o,m⟩,λb g=>?_,q⟩;rcases Ap.mp g with rfl|g
 .exact c.fpOk (C7 _) (c.hok.fresh (C7 _))
 .cases Ao.mp g;exact c.fpOk (Ax _) (c.hok.fresh (Ax _))
theorem qod {K:Ag}{a:Addr}{xs:List V}{g:TG}{tb:TS}{D:Ends}{σ:L2.St}{H:Hp}(b:Nat->L2.St->Hp->Prop)(q:b 0 σ H)(hl:∀i σ H,i<=xs.length->b i σ H->SqL K H a xs)
  (hs:∀i x t σ H,xs[i]?=some x->b i σ H->H t=none->g (.ref t) σ (upd H t (.tup [.int i,x])) λσ2 h=>tb {D with nx:=b (i+1),ct:=b (i+1),bk:=D.nx} σ2 h)(hd:∀σ H,b xs.length σ H->D.nx σ H) :
  ∃W:Nat->Nat->L2.St->Hp->Prop,(∃m,W 0 m σ H)/\∀i m σ H,W i m σ H ->
   ((Ite K a).stop i H/\D.nx σ H)\/((Ite K a).go i H/\∃N:L2.St->Hp->Prop,(∀σ' c,N σ' c->∃m',m'<m/\W (i+1) m' σ' c)/\∀x c,(Ite K a).yld i H x c->g x σ c λσ2 h=>tb {D with nx:=N,ct:=N,bk:=D.nx} σ2 h):=by
 refine⟨λi m σ H=>m=xs.length-i/\i<=xs.length/\b i σ H,⟨xs.length,by simp,Bj _,q⟩,?_⟩
 rintro i m σ H ⟨rfl,j,p⟩
 have f:=hl i σ H j p
 by_cases d:i<xs.length
 .have ex:xs[i]?=some xs[i]:=by simp[d]
  refine .inr ⟨⟨xs,xs[i],f,ex⟩,b (i+1),λσ' c n=>⟨xs.length-(i+1),by lia,Z,d,n⟩,λx c k=>?_⟩;obtain⟨y,t,o,l,rfl,rfl⟩:=k xs f;exact hs i y t σ H o p l
 .have e:i=xs.length:=by lia
  subst e;exact .inl ⟨⟨xs,f,Ax _⟩,hd σ H p⟩
end Add
namespace Add
open PySem PySem.Spec PyProof.Rows L2
section
variable {X:Cx}
theorem quo (bs:List Bool):((AR bs.length).any λj=>(bs[j]?).getD true)=bs.any λb=>b:=by
 rw[CA,List.any_eq_true,List.any_eq_true];constructor
 .rintro⟨j,a,e⟩;have c:j<bs.length:=by simpa using a
  rw[Ae c]at e;exact⟨bs[j],Bw c,e⟩
 .rintro⟨b,d,e⟩;obtain⟨j,a,rfl⟩:=List.getElem_of_mem d;exact⟨j,by simpa using a,by rw[Ae a];exact e⟩
theorem qsl (y:X.calm=true):qek X (.builtin "any") (λxs H Q=>∃(p:Addr)(bs:List Bool),xs=[V.ref p]/\SqL X.K H p (bs.map V.bl)/\Q (.bl (bs.any λb=>b)) H):=by
 intro pins s σ H xs us Q I r h;obtain⟨p,bs,rfl,n,q⟩:=h;obtain⟨u,rfl,c⟩:=Vals.one r;cases c;obtain⟨its,k,pl,hz⟩:=I.list n;have hl:=k.length;rw[Ab]at hl;have g:p≠s.heap.objs.size:=by obtain⟨o,w,_⟩:=pl.isList;exact AI (Az w)
 refine call_any_walk (DC pl.isList ⟨s.heap.objs.size,_,_,its.toArray.size,_,_,λj=>(bs[j]?).getD true,Z,Walks.list (show X.A.in1.handled=none from I.ok.hd y) _ p g its.toArray,
  ⟨⟨_,A3 _ Z,Z,Z⟩,pl.isList.at λo e=>Aj _ e⟩,?_,λh' tk hk=>?_⟩)
 .intro i v s' Q' E' m d;have a:its[i]?=some v:=by simpa using m
  cases e:bs[i]? with
  |none =>
   exfalso;have t:its.length<=i:=by rw[<- hl];exact BG.mp e
   rw[BG.mpr t]at a;cases a
  |some b =>obtain⟨u,f,c⟩:=k.get (i:=i) (x:=.bl b) (by rw[Af,e];rfl);rw[a]at f;cases f;cases (show v=Value.bool b from c);dsimp only at d;rw[e]at d;exact B9 d
 .refine⟨.bl _,H,I.kept (t':=tk) λb o e=>hk b o (λz=>?_) (Aj _ e),Z,?_⟩
  .have l:b=s.heap.objs.size:=by simpa using z
   exact absurd (Az e) (by rw[l];exact Cq _)
  .have e:its.toArray.size=bs.length:=by rw[An,hl]
   rw[e,quo];exact q
theorem qup {K:Ag}{n:Nat}{t:TGs}(f:∀xs σ' c R b,(∀σ3 H3,R σ3 H3->b σ3 H3)->t xs σ' c R->t xs σ' c b)(x:V)(σ':L2.St)(c:Hp)(R b:L2.St->Hp->Prop)(h:∀σ3 H3,R σ3 H3->b σ3 H3)(z:qrw K n t x σ' c R):qrw K n t x σ' c b:=by obtain⟨a,xs,e,d,hl,z⟩:=z;exact⟨a,xs,e,d,hl,f _ _ _ _ _ h z⟩
end
structure FunD (K:Ag)(x qual:Str)(st:Stmt)(f:Addr)(fd:AF):Prop where
 ex:∃(oc dV kV doc pm cdv ct:Value)(od an:Option Addr)(osl:Array (Option Value)),
  fd=Bt x qual (qby st) (qbf st) (qaa st) dV kV doc pm an cdv ct/\K.lookup f=some ⟨oc,od,.func fd,osl⟩/\Ci K cdv qual=true
 kp:Bi K (.ref f)=true
section
variable {P:AH}{w:World}{K:Ag}{mg:Str->Option Value}{base:Heap}
theorem FunD.ok {x a:Str}{st:Stmt}{f:Addr}{d:AF}{N ps:List Str}{k:Nat}{sp:Sp}(F:FunD K x a st f d)(S:FnScope N ps (qaa st))(len:∀vs H Q E,sp vs H Q E->vs.length=ps.length)
  (c:∀(b:Value)(A:AQ)(outer:List Env)(s:Ah)(H:Hp)(vs:List V)(Q:VK)(E:XK),Room k (A.deeper (envOfC a (qaa st) s.heap.objs.size f b))->sp vs H Q E ->
   ∃t,PSs (qlj CX0 P w K mg base N a (qaa st) f b A outer s H E).nox (qbf st) t/\t {nx:=λ_ i=>Q .non i,rt:=Q} (qe8 N vs) H):FnOk P w K mg base CX0 (k+1) f d ps sp:=by
 obtain⟨oc,dV,kV,doc,pm,b,ct,od,an,osl,rfl,lk,e⟩:=F.ex
 refine qqu lk e S len λA outer s H vs Q E j g=>?_
 obtain⟨t,h,q⟩:=c b A outer s H vs Q E j g
 exact⟨t,h.nox,q⟩
theorem qw9 {x a:Str}{st:Stmt}{f:Addr}{m:Value}{j h:Option Addr}{e:Array (Option Value)}{i kV d g b ct:Value}(l:K.lookup f=some ⟨m,j,.func (Bt x a (qby st) (qbf st) (qaa st) i kV d g h b ct),e⟩)
  (c:Ci K b a=true)(k:Bi K (.ref f)=true):FunD K x a st f (Bt x a (qby st) (qbf st) (qaa st) i kV d g h b ct):=⟨⟨m,i,kV,d,g,b,ct,j,h,e,Z,l,c⟩,k⟩
theorem quq {a:AF}{ps:List Str}{ds:List Value}(h:∀us:List Value,(us++ds).length=ps.length->∀S,PySem.W.peek K S (bindArgs a ⟨us,[]⟩)=some (ps.zip (us++ds))):Binds K a ps ds:=λs us X hl=>PySem.W.kp_binds X (h us hl)
end
structure MethD (K:Ag)(x qual:Str)(st:Stmt)(ps:List Str)(f:Addr)(fd:AF):Prop where
 fn:FunD K x qual st f fd
 bd:Binds K fd ps []
 ty:Cs K (.ref f)=some (.type "function")
section
variable {X:Cx}{a b c d:Expr}{ta tb tc td:TE}{pos:Pos}
end
theorem qq5 {X:Cx}{K:Ag}(e:X.K=K){a:List Expr}{d:_}{pos:Pos}{t:TGs}{n:Nat}(c:X.calm=true)(h:PGs X a t)
  (b:(assignEach a X.env).length=n:=by rfl)(hst:(assignEach a X.env).findIdx? (·.1)=none:=by rfl):PG X (.Tuple a d pos) (qrw K n t):=by
 subst e;exact qmr c h b hst
end Add
namespace Tab
open Mrg Lay
noncomputable def fy (wk:List Int)(yr:List S2)(i:Int):Bool:=wk.contains (i % 7+1) || inB yr i
noncomputable def opn (bs:List Bool)(k:Nat):Int:=(((bs.take k).filter λb=>!b).length:Nat)
noncomputable def odL (bs:List Bool):List Int:=((AR bs.length).filter λi=>!(bs.getD i true)).map λ(i:Nat)=>(i:Int)
end Tab
namespace Add
open PySem PySem.Spec PyProof.Rows L2
section
variable {X:Cx}{tg:Expr}
end
end Add
namespace Rev
open PySem PyProof.Rows
set_option maxRecDepth 100000
theorem qzg:typeLookup (.type "list_reverseiterator") "__len__"=pure none:=by rw[typeLookup_type,builtinLookup_eq_fast];kernel_rfl
theorem qur:typeLookup (.type "list_reverseiterator") "__length_hint__"=pure (some (.builtin "list_reverseiterator.__length_hint__")):=by rw[typeLookup_type,builtinLookup_eq_fast];kernel_rfl
section
variable {prog:AH}{w:World}{A:AQ}{s:Ah}{R:Result->Ah->Prop}{E:Value->Ah->Prop}
variable {I:Addr}{fp wr:List Addr}{G:Array GenState->Array GenState->Prop}{n:Nat}{P:Nat->Value->Prop}{St:Nat->Ah->Prop}
theorem qxa {x:Value}{Q:Bool->Ah->Prop}(c:s.TypeIs x "list_reverseiterator")(h:Q false s):wpAny (model prog w) A (AX.List.listLengthHint x) Q E s:=by
 unfold AX.List.listLengthHint;refine Ad (wpAny_specialOf c qzg ?_);show wpAny _ A (specialOf x (Aa "__length_hint__") >>= _) _ _ _;refine Ad (wpAny_specialOf c qur ?_);generalize a:("list_reverseiterator.__length_hint__" : String)=id0
 wp_delta
 rw[show splitId id0=some ("list_reverseiterator","__length_hint__") from by subst a;decide +kernel];subst a;refine Ad (wpAny_isInstance (b:=true) c (by rw[isSubtype_type];kernel_rfl) ?_);exact A1 h
theorem qsm (W:WalksS prog w A.in1 I fp wr G n P St)(m:∀i s,St i s->s.TypeIs (.ref I) "list_reverseiterator")(S:Addr)(res:Value)(v:Nat)(c:St 0 s)(g:S∉fp)(q:I∈fp)
  (p:s.heap.get? S=some {cls:=.type "list",data:=.seq #[] v})
  (hR:∀a b d,Moved (S::wr) G s a->a.heap.get? S=some {cls:=.type "list",dict:=none,data:=.seq b d,slots:=#[]}->ItemsOf P b n->R (.ok (.ret res)) a)(hn:n<=Au) :
  wpAny (model prog w) A.in1 (AX.List.listExtendWith (.ref S) (.ref I) res)
   (λk a=>match k with | .done f=>R (.ok f) a | .again d=>d.quiet=true/\codeAny (model prog w) A d R a) (λe a=>R (.error e) a) s:=by
 have l:S≠I:=λe=>g (e ▸ q)
 unfold AX.List.listExtendWith
 refine Ad (wpAny_typeOf (m 0 _ c) ?_)
 have r:AX.List.listSameRef (.ref S) (.ref I)=false:=by simp[AX.List.listSameRef,l]
 have t:(CY "list_reverseiterator" == CY "list")=false:=by decide
 have o:(CY "list_reverseiterator" == CY "tuple")=false:=by decide
 simp only[r,t,o,Bool.or_false,Db,if_false]
 refine Ad (W.self 0 _ _ _ c ?_)
 refine Ad (BR (qxa (m 0 _ c) ?_))
 rw[if_neg En]
 exact A1 ⟨plainId_quiet F.plain_extend_loop _,codeAny_extend_loopS W hn _ g _ n 0 _ _ _ Z (Bj _) c p (ItemsOf.nil P) λa b d u j h=>hR a b d u j h⟩
theorem qxb (W:WalksS prog w A.in1 I fp wr G n P St)(x:∀i s,St i s->s.TypeIs (.ref I) "list_reverseiterator")(S:Addr)(u:St 0 s)(k:S∉fp)(v:I∈fp)
  (l:s.heap.get? S=some {cls:=.type "list",data:=.seq #[]})
  (hR:∀a c d,Moved (S::wr) G s a->a.heap.get? S=some {cls:=.type "list",dict:=none,data:=.seq c d,slots:=#[]}->ItemsOf P c n->R (.ok (.ret .none)) a)(hn:n<=Au) :
  wpAny (model prog w) A.in1 (AX.«list.__init__» ⟨[.ref S,.ref I],[]⟩)
   (λt a=>match t with | .done f=>R (.ok f) a | .again d=>d.quiet=true/\codeAny (model prog w) A d R a) (λe a=>R (.error e) a) s:=by
 show wpAny _ A.in1 (AX.List.listItems (.ref S) >>= λr=>AX.List.listUpdate (.ref S) (λ_=>#[]) >>= λ_=>letGo r.toList.reverse >>= λ_=>AX.List.listExtendWith (.ref S) (.ref I) .none) _ _ s
 refine Ad ?_
 unfold AX.List.listItems
 refine Ad (CH l Z (A1 ?_))
 refine Ad (wpAny_updateSeq l Z ?_)
 have q:=BM (BL (λ_=>(#[]:Array Value))) l rfl
 have j:∀b o,b≠S->s.heap.get? b=some o->(s.heap.update S (BL (λ_=>(#[]:Array Value)))).get? b=some o:=λb o g e=>(BH _ _ (Bc g)).trans e
 refine Ad (wpAny_letGo ?_)
 refine qsm W x S .none _ (W.frame 0 s _ s.toks u (Ax _) λb g o e=>j b o (λh=>k (h ▸ g)) e) k v q (λa c d y p m=>?_) hn
 exact hR a c d (Moved.trans W.gtrans ((Moved.refl W.grefl).then_heap (Ax _) λb o g e=>j b o (λh=>g (h ▸ Ak)) e) y) p m
theorem list_ok {Q:Value->Ah->Prop}(W:WalksS prog w A.in1.in1 I fp wr G n P St)(t:∀i s,St i s->s.TypeIs (.ref I) "list_reverseiterator")(p:St 0 s)(m:∀b∈fp,b<s.heap.objs.size)(r:I∈fp)
  (u:∀c a d,Moved (s.heap.objs.size::wr) G {s with heap:=s.heap.push {cls:=.type "list",data:=.seq #[]} } c ->
   c.heap.get? s.heap.objs.size=some {cls:=.type "list",dict:=none,data:=.seq a d,slots:=#[]}->ItemsOf P a n->Q (.ref s.heap.objs.size) c) (hn:n<=Au) :
  wpAny (model prog w) A (call (.type "list") [.ref I]) Q E s:=by
 have l:s.heap.objs.size∉fp:=λg=>Cq _ (m _ g);refine callType_codes (Q₁:=λobj j=>obj=.ref s.heap.objs.size/\j={s with heap:=s.heap.push {cls:=.type "list",data:=.seq #[]} }) F.called_list (F.typeCall_list_1 _) F.entry_list_init (code_list_new _ ⟨Z,Z⟩) λobj j q=>?_;obtain⟨rfl,rfl⟩:=q;have k:(s.heap.push {cls:=.type "list",data:=.seq #[]}).get? s.heap.objs.size=some {cls:=.type "list",data:=.seq #[]}:=A3 _ rfl;exact⟨⟨_,k,Z⟩,F.args_list_init_2 _ _,qxb W t _ (W.frame 0 s _ s.toks p (Ax _) λb _ o e=>Aj _ e) l r k (λc a d g h f=>⟨Z,u c a d g h f⟩) hn⟩
end
end Rev
namespace Add
open PySem PySem.Spec PyProof.Rows L2
theorem qln:bootBuiltins "reversed"=some (.type "reversed"):=Ek
theorem qsn {xs:List V}{us:List Value}{x:V}{u:Value}(h:Vals xs us)(r:RelV x u):Vals (xs++[x]) (us++[u]):=by
 induction h with
 |nil=>exact .cons r .nil
 |cons r' _ ih=>exact .cons r' ih
theorem qus {xs:List V}{us:List Value}(h:Vals xs us):Vals xs.reverse us.reverse:=by
 induction h with
 |nil=>exact .nil
 |cons r _ ih=>rw[DG,DG];exact qsn ih r
theorem qso {its:List Value}{a:Array Value}(h:ItemsOf (λi v=>its.toArray[its.toArray.size-1-i]?=some v) a its.toArray.size):a=its.reverse.toArray:=by
 obtain⟨g,f⟩:=h;have e:a.toList=its.reverse:=by
  refine B0 λi=>?_;have hs:a.size=its.length:=by rw[g];simp
  by_cases c:i<its.length
  .have d:i<a.size:=by lia
   have b:a[i]?=some a[i]:=Array.getElem?_eq_getElem d;have:=f i _ b;rw[Dj,b,<- this,DQ c];simp
  .rw[B4 (by rw[AO];lia),B4 (by rw[Cv];lia)]
 rw[<- e]
section
variable {X:Cx}
def tLR (K:Ag)(t:TA):TE:=λσ H Q=>t σ H λvs H1=>∃l ys,vs=[.ref l]/\SqL K H1 l ys/\∀q,H1 q=none->Q (.ref q) (upd H1 q (.lst ys.reverse))
theorem qkj {e:Expr}{t:TA}{p E pos c:Pos}(F:X.calm=true)(x:Gl X "list")(C:X.mg "list"=none)(B:Gl X "reversed")(G:X.mg "reversed"=none)(y:bootBuiltins "list"=some (.type "list"))(N:PA X [e] t)
  (he:starEach [e] X.env=(false,eval e X.env)::starEach [] X.env:=by rfl):PE X (.Call (.Name "list" p) [.Call (.Name "reversed" E) [e] [] c] [] pos) (tLR X.K t):=by
 intro v s σ H Q I h;refine B1 (qey I x C y ?_);refine BD ?_ rfl rfl;show wpAny _ _ (spliced ((false,eval (.Call (.Name "reversed" E) [e] [] c) X.env)::[])) _ _ s;refine Calls.spliced_cons ?_;refine B1 (qey I B G qln ?_);refine BD (thn (N c v s σ H _ I h) λus a ⟨vs,S,n,P,L⟩=>?_) he rfl;obtain⟨l,ys,rfl,Y,q⟩:=L;obtain⟨u,rfl,R⟩:=qf0 P;cases R;obtain⟨its,r',pl,hz⟩:=n.list Y;refine call_reversed_list pl.isList (Calls.spliced_nil ?_);have j:=pl.isList;have m:l<a.heap.objs.size:=by obtain⟨o,V,_⟩:=j;exact Az V
 have U:X.A.handled=none:=I.ok.hd F;have W:=(Walks.listRev (prog:=X.prog) (w:=X.w) (A:=X.A.in1.in1) U a.heap.objs.size l (AI m) its.toArray).toS;refine Rev.list_ok W (λi s st=>st.2.1.typeIs) ⟨Bj _,?_,j.at λo e=>Aj _ e⟩ (λb f=>?_) (by simp) (λd acc' M g k r=>?_) ?_
 .refine⟨_,A3 _ Z,Z,?_⟩;rw[show ((its.toArray.size:Nat):Int)-1-((0:Nat):Int)=(its.toArray.size:Int)-1 by lia];rfl
 .show b<(a.heap.push _).objs.size;rw[C6];rcases Ap.mp f with z|z
  .rw[z];exact CC _
  .rw[Ao.mp z];exact Nat.lt_succ_of_lt m
 .have sz:(a.heap.push (revObj l ((its.toArray.size:Int)-1))).objs.size=a.heap.objs.size+1:=C6 _ _;have T:∀b o,a.heap.get? b=some o->d.heap.get? b=some o:=λb o e=>by
   have f:=Az e;refine g.heap b o (λz=>?_) (Aj _ (Aj _ e));rcases Ap.mp z with z|z
   .rw[z]at f;exact absurd f (by show ¬((a.heap.push (revObj l ((its.toArray.size:Int)-1))).objs.size<a.heap.objs.size);rw[sz];exact Nat.not_lt_of_le (C7 _))
   .rw[Ao.mp z]at f;exact Cq _ f
  have O:d={a with heap:=d.heap,toks:=d.toks}:=by
   have g1:=g.gens;have g2:=g.drawn;have g3:=g.os;cases d;cases a
   simp_all
  have le:a.heap.objs.size<=(a.heap.push (revObj l ((its.toArray.size:Int)-1))).objs.size:=by rw[sz];exact C7 _
  rw[qso r]at k;have D:ObjOk X.prog X.w (upd S (a.heap.push (revObj l ((its.toArray.size:Int)-1))).objs.size (.lst ys.reverse)) d.heap (a.heap.push (revObj l ((its.toArray.size:Int)-1))).objs.size (.lst ys.reverse) :=
   ⟨by rw[Cv];exact hz,its.reverse,M,qus r',k⟩
  have J:=n.laid (t':=d.toks) T le D;rw[<- O]at J;exact⟨.ref _,_,J,Z,q _ (n.hok.fresh le)⟩
 .have:=r'.length;simp only[An];lia
end
end Add
namespace Lay
end Lay
namespace Add
open PySem PySem.Spec PyProof.Rows L2
end Add
namespace Add
open PySem PySem.Spec PyProof.Rows L2
def qzh (C:Addr)(sp:Sp)(gV:List V->List V->List V)(E:XK)(t tk:TA):TE:=λσ H Q=>t σ H λvs H1=>tk σ H1 λzs H2=>∀x dx,H2 x=none->H2 dx=none->dx≠x ->
 sp (gV (.ref x::vs) zs) (upd (upd H2 dx (.own x)) x (.ins C dx [])) (λv H3=>v=.non/\Q (.ref x) H3) E
section
variable {X:Cx}{CX:CXT}{k:Nat}{f C:Addr}{fd:AF}{ps ks:List Str}{sp:Sp}{E:XK}{x:Str}{p pos:Pos}{e:Expr}{es:List Expr}{kws:List Keyword}{t tk:TA}{g:List Value->List Value->List Value}{gV:List V->List V->List V}
theorem qsp {b:List (Addr×Obj)}{σ:L2.St}{H:Hp}{s:Ah}{Q:VK}{us ws:List Value}{vs d:List V}(M:Mk X.K C f)(F:FnOk X.prog X.w X.K X.mg X.base CX k f fd ps sp)(o:Room (k+1) X.A)(l:KBinds X.K fd ps ks g gV)
  (D:qel CX X E)(I:Inv X b σ H s)(r:Vals vs us)(q:Vals d ws)
  (h:∀x dx,H x=none->H dx=none->dx≠x->sp (gV (.ref x::vs) d) (upd (upd H dx (.own x)) x (.ins C dx [])) (λv z=>v=.non/\Q (.ref x) z) E) :
  wpAny (model X.prog X.w) X.A (call (.ref C) us (ks.zip ws)) (EP X b σ Q) X.xe s:=by
 have j:=h (s.heap.objs.size+1) s.heap.objs.size (I.hok.fresh (C7 _)) (I.hok.fresh (Ax _)) (AI (CC _));have c:=Inv.made (C:=C) I;have p:Vals (V.ref (s.heap.objs.size+1)::vs) (AJ (s.heap.objs.size+1)::us):=.cons rfl r;have i:=l.rel p q;have hl:(g (AJ (s.heap.objs.size+1)::us) ws).length=ps.length:=by rw[<- i.length];exact F.len _ _ _ _ j
 refine CQ (qj4 (f:=f) I.kIn M.makes M.init (beq_iff_eq.mp M.fn) (CM (F.run _ X.stack _ _ ⟨AJ (s.heap.objs.size+1)::us,ks.zip ws⟩ (g (AJ (s.heap.objs.size+1)::us) ws) _ _ E (o.make C us (ks.zip ws))
  (c.env0.make C us (ks.zip ws)) (l.to _ _ ws c.kIn hl) i j) λr y a=>?_))
 cases r with
 |error e=>exact D b σ _ _ e y c a
 |ok fl =>
  cases fl with
  |ret u =>obtain⟨v,m,B,G,n,t⟩:=c.after a;subst n;exact⟨G,⟨V.ref (s.heap.objs.size+1),m,B,Z,t⟩⟩
  |next=>exact Br a
  |brk=>exact Br a
  |cont=>exact Br a
theorem qut (M:Mk X.K C f)(F:FnOk X.prog X.w X.K X.mg X.base CX k f fd ps sp)(l:Room (k+1) X.A)(y:Gl X x)(z:X.mg x=some (.ref C))(v:KBinds X.K fd ps ks g gV)(B:qel CX X E)
  (j:PA X (e::es) t)(d:PK X kws tk)(b:(backToKw pos (keywordEach kws X.env)).all (·.1.isSome)=true:=by rfl)(hks:(backToKw pos (keywordEach kws X.env)).filterMap (·.1)=ks:=by rfl)
  (hdb:(x == ("__debug__" : Str))=false:=by decide)(he:starEach (e::es) X.env=(false,eval e X.env)::starEach es X.env:=by rfl)
  (hpl:((backTo pos (starEach (e::es) X.env)).any (·.1) || (backToKw pos (keywordEach kws X.env)).any (·.1.isNone))=false:=by rfl) :
  PE X (.Call (.Name x p) (e::es) kws pos) (qzh C sp gV E t tk):=by
 intro a s σ H Q I h;refine B1 (qeu I y z ?_ hdb);refine PySem.W.callWith_KW (h₀:=X.base) I.ok.mod.kin M.kp b (thn (j pos a s σ H _ I h) λus i ⟨vs,n,m,r,q⟩=>?_) hpl he;refine thn (d pos a i σ n _ m q) λws s2 ⟨zs,H2,c,u,o⟩=>⟨c.kIn,?_⟩;rw[hks];exact qsp M F l v B c r u o
end
noncomputable def g21 {α:Type}(n:α):List α->List α->List α
 | [a,b],[c]=>[a,b,n,c]
 |_,_=>[]
section
variable {X:Cx}
theorem quu (n:Nat):(AR n).all (λ_=>true)=true:=by simp
end
section
variable {X:Cx}
noncomputable def ipL:TIp:=λx y H Q=>∃l b xs zs,x=.ref l/\y=.ref b/\H l=some (.lst xs)/\H b=some (.lst zs)/\xs.length+zs.length<=Au/\Q (.ref l) (upd H l (.lst (xs++zs)))
theorem qjm:fillsInplaceSlot (.type "list") "add" (Operator.Add == .Add)=pure false:=by unfold fillsInplaceSlot;show (typeLookup (.type "list") (dunderI "add") >>= λa=>pure (a.isSome && !isSeqSlot a))=pure false;rw[F.slot_list_iadd.lookup];rfl
theorem qlo:seqSlot? (.type "list") (dunderI "add")=pure (some (.builtin "list.__iadd__")):=PySem.seqSlot_of F.slot_list_iadd.lookup Ek
theorem qit:PIp X .Add ipL:=by
 intro pins s σ H x y v u Q I j k h;obtain⟨l,b,xs,zs,rfl,rfl,g,o,hz,q⟩:=h;cases j;cases k;obtain⟨z,its,n,r,hl,e⟩:=I.lstM g;obtain⟨z2,a,i,m,hl2,f⟩:=I.lstM o;have hsz:its.toArray.size+a.toArray.size<=Au:=by rw[An,An];lia
 have c:¬(!its.toArray.isEmpty && AX.List.listTooLong (its.toArray.size+a.toArray.size))=true:=by rw[qj6 hsz,Dp];exact AE
 unfold inplaceOp;refine BR ?_;have d:s.TypeIs (.ref l) "list" := ⟨_,e,Z⟩;have tb:s.TypeIs (.ref b) "list" := ⟨_,f,Z⟩;refine Ad (wpAny_typeOf d (Ad (wpAny_of_eq qjm ?_)));show wpAny _ _ (if false=true then _ else _) _ _ s;rw[if_neg AE];refine Ad (wpAny_binaryOp1_none (nm := "add") d tb noFill_list_add ?_);refine Ad (wpAny_of_eq qlo ?_);refine Ad (wpAny_rule ?_);refine Do F.slot_list_iadd d F.entry_list_iadd (F.args_list_iadd_2 _ _)
  (AutoSeq1.list___iadd___list_list_0 l its.toArray n b a.toArray i c (by rw[An];lia) (by lia)) ⟨e,f,?_⟩
 refine⟨.ref l,_,I.lset (its':=its++a) g e (by simp) (r.append m) ?_,Z,q⟩;rw[Ai];lia
theorem ql9 {α β:Type}{F:α->β->Prop}:∀{l:List α}{m:List β},l.length=m.length->(∀(j:Nat)(x:α)(u:β),l[j]?=some x->m[j]?=some u->F x u)->CZ F l m
 | [],[],_,_=>.nil
 |x::l,u::m,h,f=>.cons (f 0 x u Z Z) (ql9 (C2 h) λj y v b a=>f (j+1) y v b a)
theorem is_kV {P:AH}{w:World}{k:Key}{u:Value}(h:(qb2 P w).is k u=true):RelV (kV k) u:=by
 cases k with|inl i=>exact Value.isInt_shape h|inr x=>exact Value.isStrOf_shape h
theorem qpv (C:X.calm=true):qek X (.type "list") (λxs H Q=>∃(d:Addr)(kvs:List (Key×V)),xs=[.ref d]/\H d=some (.dK kvs)/\∀l,H l=none->Q (.ref l) (upd H l (.lst (kvs.map λa=>kV a.1)))):=by
 intro pins s σ H xs us Q I r h;obtain⟨d,kvs,rfl,hd,q⟩:=h;obtain⟨u,rfl,A⟩:=qf0 r;cases A;obtain⟨z,lo,vs,a,v⟩:=qqw I.hok hd;obtain⟨ep,m⟩:=v.dictAt;refine PySem.W.kdl_call (PySem.W.kdl_dict (knd:=qb2 X.prog X.w) (kvs:=vs) (ep:=ep) lo) (I.ok.hd C) m (by rw[<- a.length];exact z) λh' tk b c B e i=>?_;have D:Vals (kvs.map λa=>kV a.1) b.toList:=by
  have hl:(kvs.map λa=>kV a.1).length=b.toList.length:=(Ab _).trans (a.length.trans (i.1.symm.trans AO.symm));refine ql9 hl λj x u f t=>?_;obtain⟨k,y,hk,o⟩:=i.2 j u (by rw[<- Dj];exact t);rw[Af]at f;have g:=congrArg (·[j]?) a.keys;simp only[Af,hk,D7]at g;cases n:kvs[j]? with|none=>rw[n]at f;cases f|some p =>rw[n]at f g;cases f;cases A5 g;exact is_kV o
 exact⟨.ref s.heap.objs.size,_,I.laid (t':=tk) B (Ax _) (show ObjOk X.prog X.w _ h' _ (.lst (kvs.map λa=>kV a.1)) from ⟨by rw[Ab];exact z,b.toList,c,D,by simpa using e⟩),Z,q _ (I.hok.fresh (Ax _))⟩
end
def KeepN (H H':Hp):Prop:=∀b o,(∀l,o ≠ .lst l)->H b=some o->H' b=some o
theorem KeepN.of {H a:Hp}(s:Same H a):KeepN H a:=λb o _ e=>s b o e
section
variable {X:Cx}{CX:CXT}{ι:Type}{k:ι->Nat}{f C:ι->Addr}{fd:ι->AF}{ps:ι->List Str}{sp:ι->Sp}{dvs:List V}{ds:List Value}{E:XK}{m:Str}{pos apos:Pos}{e o:Expr}{es:List Expr}{ta:TE}{t:TA}
end
section
variable {X:Cx}
end
section
variable {K:Ag}{C:Addr}
end
section
variable {X:Cx}{tg:Expr}
end
section
variable {X:Cx}
theorem qoe:∀{b:List Str}{its:List Value},Vals (b.map V.str) its->StrsAre its b
 | [],_,.nil=>.nil
 |y::b,_,.cons a r=>by obtain⟨t,rfl⟩:=a;exact .cons y t (qoe r)
end
section
variable {X:Cx}
noncomputable def qxc:V->List V->Hp->VK->Prop:=λx vs H Q=>∃(l:Addr)(ss:List Str)(k:Str)(j:Nat),x=.ref l/\vs=[.str k]/\H l=some (.lst (ss.map V.str))/\ss[j]?=some k/\(∀m,m<j->ss[m]? ≠ some k)/\Q (.int (j:Int)) H
theorem qzi {its:List Value}{a:List Str}(r:StrsAre its a):∀{m:Nat}{z:Str},a[m]?=some z->∃t,its[m]?=some (.str z t):=by
 induction r with
 |nil=>intro m z h;cases h
 |cons y t _ ih =>
  intro m z h;cases m with|zero=>cases h;exact⟨_,Z⟩|succ m=>exact ih h
theorem qxd {its:List Value}{a:List Str}(r:StrsAre its a):its.length=a.length:=by
 induction r with
 |nil=>rfl
 |cons _ _ _ ih=>rw[Am,Am,ih]
theorem qma:MtR X "list.index" qxc:=by
 intro pins s σ H x vs v us Q I w D h;obtain⟨l,i,k,j,rfl,rfl,A,d,o,q⟩:=h;cases w;obtain⟨u,rfl,p⟩:=D.one;obtain⟨t,rfl⟩:=p;obtain⟨z,its,n,r,hl,e⟩:=I.lstM A;have b:=qoe r;have la:=qxd b;obtain⟨hjl,_⟩:=Ac.mp d;rw[Ab,Bd]at z;have at':∀{m:Nat}(c:m<its.toArray.size){y:Str},i[m]?=some y->isStrOf k its.toArray[m]=(y == k):=λ{m} c {y} h=>by
  obtain⟨t',g⟩:=qzi b h;have:its.toArray[m]=.str y t':=by
   have C:its[m]?=some its[m]:=by simp
   rw[C]at g;simpa using A5 g
  rw[this];rfl
 refine Do F.slot_list_index ⟨_,e,Z⟩ F.entry_list_index (F.args_list_index_2 _ _)
  (SeqAt.list_indexAt l its.toArray n _ _ (.str k t) (isStrOf k) j (by rw[An];lia) (by lia) ?_ ?_) ⟨e,λy a=>(eq_isStrOf k t b y (by simpa using a)).at _ _,?_⟩
 .rw[at' _ d];exact beq_self_eq_true k
 .intro m c f;obtain⟨y,a⟩:∃y,i[m]?=some y:=⟨_,Ae (by lia)⟩;rw[at' c a];cases B:y == k with|false=>rfl|true=>rw[eq_of_beq B]at a;exact absurd a (o m f)
 .exact⟨.int (j:Int),H,I.tok _,⟨_,Z⟩,q⟩
end
section
end
section
variable {prog:AH}{w:World}{A:AQ}{E:Value->Ah->Prop}{s:Ah}
theorem qpw {it t:Addr}{i:Nat}{a:Array Value}{x:Value}{Q:Value->Ah->Prop}(c:s.heap.IsTupleIter it t i)(h:s.heap.IsTuple t a)(j:a[i]?=some x)
  (g:∀h',h'.IsTupleIter it t (i+1)->BU it s.heap h'->Q x {s with heap:=h'}):wpAny (model prog w) A (AX.SmallTypes.nextOf (.ref it)) Q E s:=by
 obtain⟨o,b,f,hd⟩:=id c;obtain⟨_,d,_,_,e⟩:=h;unfold AX.SmallTypes.nextOf;refine Ad (CW (name:=Aa "__next__") c.typeIs CI (DT CI c.typeIs F.entry_tuple_iterator_next ?_ (F.args_tuple_iterator_next_1 _)));show wpAny _ _ (field (.ref it) 0 >>= _) _ _ s;refine Ad (BK b hd (x:=.ref t) Z ?_);show wpAny _ _ (if (AJ t == BZ)=true then _ else _) _ _ s;rw[if_neg (show ¬((AJ t == BZ)=true) from AE)];show wpAny _ _ (field (.ref it) 1 >>= _) _ _ s;refine Ad (BK b hd (x:=.int i 0) Z ?_);show wpAny _ _ (seqItems? (.ref t) >>= _) _ _ s;refine Ad (CH d e ?_);simp only[C8,j];exact Ad (DK b hd (by simp) (A1 ⟨x,Z,A1 (g _ ⟨_,BM _ b (Di (CG hd _)),(Obj.cls_mapFields ..).trans f,by rw[CG hd];simp[rawInt]⟩ (BU.update ..))⟩))
theorem qlp {it t:Addr}{i:Nat}{b:Array Value}{Q:Value->Ah->Prop}(j:A.handled=none)(c:s.heap.IsTupleIter it t i)(h:s.heap.IsTuple t b)(k:b[i]?=none)
  (l:∀h' e,Heap.ExtBut it s.heap h'->(∃o,h'.get? e=some o/\o.cls=.type "StopIteration")->E (.ref e) {s with heap:=h'}):wpAny (model prog w) A (AX.SmallTypes.nextOf (.ref it)) Q E s:=by
 obtain⟨o,d,hc,hd⟩:=id c;obtain⟨_,f,_,_,g⟩:=h;unfold AX.SmallTypes.nextOf;refine Ad (CW (name:=Aa "__next__") c.typeIs CI (DT CI c.typeIs F.entry_tuple_iterator_next ?_ (F.args_tuple_iterator_next_1 _)));show wpAny _ _ (field (.ref it) 0 >>= _) _ _ s;refine Ad (BK d hd (x:=.ref t) Z ?_);show wpAny _ _ (if (AJ t == BZ)=true then _ else _) _ _ s;rw[if_neg (show ¬((AJ t == BZ)=true) from AE)];show wpAny _ _ (field (.ref it) 1 >>= _) _ _ s;refine Ad (BK d hd (x:=.int i 0) Z ?_);show wpAny _ _ (seqItems? (.ref t) >>= _) _ _ s;refine Ad (CH f g ?_);simp only[C8,k];refine Ad (wpAny_rule (Ad (DK d hd (by simp) ?_)));show wpAny _ _ (newExc (.type "StopIteration") [] >>= _) _ _ _;refine Ad ?_;simp only[newExc,newTuple];refine Ad (Dm (Ad (m:=firstArgMember _ _) (wpAny_of_eq (a:=BZ) (by first|rfl | (simp only[firstArgMember];rfl)) (Dm ?_ (by size_fits)))) (by size_fits));exact wpAny_raiseNew_none j (l _ _ (((BU.update ..).extBut.push _).push _) ⟨_,A3 _ Z,Z⟩)
theorem qsq (g:A.handled=none)(it t:Addr)(ne:t≠it)(a:Array Value):Draws prog w A it [it,t] a.size (λi v=>a[i]?=some v) (λi h=>h.IsTupleIter it t i/\h.IsTuple t a) where
 live:=λ_ _ st=>let ⟨o,b,_⟩:=st.1;⟨o,b⟩
 frame:=λ_ _ _ ⟨⟨o,b,r⟩,⟨q,k,j⟩⟩ hk=>⟨⟨o,hk it (by simp) o b,r⟩,⟨q,hk t (by simp) q k,j⟩⟩
 item:=λi s Q E c st l=>qpw st.1 st.2 (x:=a[i]) (by simp[c]) λh' f d=>l _ h' s.toks (by simp[c]) ⟨f,st.2.extBut d.extBut ne⟩ d
 done:=λs Q E st e=>qlp g st.1 st.2 (by simp) e
end
structure Zap (z TI TO i1 i2:Addr)(f1 f2:List Addr):Prop where
 tz:TI≠z
 oz:TO≠z
 to:TI≠TO
 m1:i1∈f1
 m2:i2∈f2
 z1:z∉f1
 z2:z∉f2
 o1:TO∉f1
 o2:TO∉f2
 t1:TI∉f1
 t2:TI∉f2
 x1:i1∉f2
 x2:i2∉f1
def qmb (z TI TO i1 i2:Addr)(S1 S2:Nat->Heap->Prop)(f0:Value)(k:Nat)(h:Heap):Prop:=IsZip h z TI TO f0/\DU h TI (.ref i1) (.ref i2)/\(∃a b,DU h TO a b)/\S1 k h/\S2 k h
section
variable {prog:AH}{w:World}{A:AQ}{E:Value->Ah->Prop}{s:Ah}{z TI TO i1 i2:Addr}{f1 f2:List Addr}{n n2 k:Nat}{P1 P2:Nat->Value->Prop}{S1 S2:Nat->Heap->Prop}
theorem quv {Q:Value->Ah->Prop}(C:Draws prog w A i1 f1 n P1 S1)(D:Draws prog w A i2 f2 n2 P2 S2)(d:Zap z TI TO i1 i2 f1 f2)(st:qmb z TI TO i1 i2 S1 S2 .none k s.heap)(hk:k<n)(a0:k<n2)
  (hQ:∀h' tk x y,P1 k x->P2 k y->qmb z TI TO i1 i2 S1 S2 (rawInt s.heap.objs.size) (k+1) h'->DU h' s.heap.objs.size x y->(∀c o,c≠z->c≠TO->c≠i1->c≠i2->s.heap.get? c=some o->h'.get? c=some o)->Q (.ref s.heap.objs.size) {s with heap:=h',toks:=tk}) :
  wpAny (model prog w) A (AX.«zip.__next__» ⟨[.ref z],[]⟩) (λac s'=>∃v,ac=.done (.ret v)/\Q v s') E s:=by
 obtain⟨hz,B,⟨a,b,U⟩,h1,h2⟩:=st;have i:∀b∈f1,b≠z/\b≠TO/\b≠i2:=λb f=>⟨λe=>d.z1 (e ▸ f),λe=>d.o1 (e ▸ f),λe=>d.x2 (e ▸ f)⟩;have m2:∀b∈f2,b≠z/\b≠TO/\b≠i1:=λb f=>⟨λe=>d.z2 (e ▸ f),λe=>d.o2 (e ▸ f),λe=>d.x1 (e ▸ f)⟩;have K:z≠i1:=λe=>(i i1 d.m1).1 e.symm;have O:z≠i2:=λe=>(m2 i2 d.m2).1 e.symm;have I:TO≠i1:=λe=>(i i1 d.m1).2.1 e.symm;have R:TO≠i2:=λe=>(m2 i2 d.m2).2.1 e.symm;have ad:TI≠i1:=λe=>d.t1 (e ▸ d.m1);have ae:TI≠i2:=λe=>d.t2 (e ▸ d.m2);show wpAny _ _ (field (.ref z) 2 >>= _) _ _ _;refine Ad (BK hz Z (x:=.bool false) Z ?_);show wpAny _ _ (field (.ref z) 3 >>= _) _ _ _;refine Ad (BK hz Z (x:=.ref TI) Z (Ad (CH B Z ?_)));show wpAny _ _ (AX.SmallTypes.ownedTupleIsFree (.ref z) >>= _) _ _ _;refine Ad ?_;unfold AX.SmallTypes.ownedTupleIsFree;refine Ad (BK hz Z (x:=.none) Z (A1 ?_));simp only[if_true];refine Ad (wpAny_rule (Ad (BK hz Z (x:=.ref TO) Z (Ad (Dc hz (by simp) λh3 X p=>Ad ?_)))));have z3:IsZip h3 z TI TO .ellipsis:=X;simp only[List.zipIdx_cons,List.zipIdx_nil,List.forIn_cons,List.forIn_nil];refine Ad (Ad (wpAny_onRaise (Ad (C.item k _ _ _ hk (C.frame _ _ _ h1 λb f o e=>p.extBut b o (i b f).1 e) λx h4 tk px s4 m=>A1 ?_))));have M:DU h4 TO a b:=m.extBut _ _ I (p.extBut _ _ d.oz U);refine Ad (CH M Z (Ad (wpAny_updateSeq_pair M λh5 H q=>Ad (wpAny_letGo (A1 ?_)))));have o5:DU h5 TO x b:=H;refine Ad (Ad (wpAny_onRaise (Ad (D.item k _ _ _ a0 (D.frame _ _ _ h2 λb f o e=>q.extBut b o (m2 b f).2.1 (m.extBut b o (m2 b f).2.2 (p.extBut b o (m2 b f).1 e))) λy h6 tk2 py s6 r=>A1 ?_))));have S:DU h6 TO x b:=r.extBut _ _ R o5;refine Ad (CH S Z (Ad (wpAny_updateSeq_pair S λg T j=>Ad (wpAny_letGo (A1 (A1 ?_))))));have o7:DU g TO x y:=T;have sz:g.objs.size=s.heap.objs.size:=by rw[j.1,r.1,q.1,m.1,p.1]
 have W:∀c o,c≠z->c≠TO->c≠i1->c≠i2->s.heap.get? c=some o->g.get? c=some o:=λc o h u F G e=>j.extBut _ _ u (r.extBut _ _ G (q.extBut _ _ u (m.extBut _ _ F (p.extBut _ _ h e))));have N:IsZip g z TI TO .ellipsis:=j.extBut _ _ d.oz.symm (r.extBut _ _ O (q.extBut _ _ d.oz.symm (m.extBut _ _ K z3)));refine Ad (CH o7 Z (Ad (wpAny_newTuple (Ad ?_))));unfold AX.SmallTypes.ownedTupleHandOut;refine Ad (Dc (Aj _ N) (by simp) λh8 L P=>?_);have z8:IsZip h8 z TI TO (rawInt g.objs.size):=L;refine Dc z8 (by simp) λt aa Y=>A1 ⟨_,Z,?_⟩;have V:IsZip t z TI TO (rawInt g.objs.size):=aa;have l:∀c o,c≠z->g.get? c=some o->t.get? c=some o:=λc o h e=>Y.extBut _ _ h (P.extBut _ _ h (Aj _ e));have J:z<g.objs.size:=Az N;have p9:DU t g.objs.size x y:=Y.extBut _ _ (BV J) (P.extBut _ _ (BV J) (A3 _ Z));show Q (.ref g.objs.size) _;rw[sz]at V p9 |-;refine hQ t _ x y px py ⟨V,l _ _ d.tz (W _ _ d.tz d.to ad ae B),⟨x,y,l _ _ d.oz o7⟩,?_,?_⟩ p9 λc o h u F G e=>l c o h (W c o h u F G e)
 .exact C.frame _ _ _ s4 λb f o e=>l b o (i b f).1 (j.extBut _ _ (i b f).2.1 (r.extBut _ _ (i b f).2.2 (q.extBut _ _ (i b f).2.1 e)))
 .exact D.frame _ _ _ s6 λb f o e=>l b o (m2 b f).1 (j.extBut _ _ (m2 b f).2.1 e)
theorem qxe {Q:Fin->Ah->Prop}(j:Draws prog w A i1 f1 n P1 S1)(D:i1∈f1)(I:z∉f1)(st:qmb z TI TO i1 i2 S1 S2 .none n s.heap)
  (B:∀h' e,(∀c o,c≠z->c≠TO->c≠i1->c≠i2->s.heap.get? c=some o->h'.get? c=some o)->(∃o,h'.get? e=some o/\o.cls=.type "StopIteration")->E (.ref e) {s with heap:=h'}) :
  wpAny (model prog w) A (AX.«zip.__next__» ⟨[.ref z],[]⟩) Q E s:=by
 obtain⟨hz,h,⟨a,b,hTO⟩,F,h2⟩:=st;have l:∀b∈f1,b≠z:=λb g e=>I (e ▸ g);show wpAny _ _ (field (.ref z) 2 >>= _) _ _ _;refine Ad (BK hz Z (x:=.bool false) Z ?_);show wpAny _ _ (field (.ref z) 3 >>= _) _ _ _;refine Ad (BK hz Z (x:=.ref TI) Z (Ad (CH h Z ?_)));show wpAny _ _ (AX.SmallTypes.ownedTupleIsFree (.ref z) >>= _) _ _ _;refine Ad ?_;unfold AX.SmallTypes.ownedTupleIsFree;refine Ad (BK hz Z (x:=.none) Z (A1 ?_));simp only[if_true];refine Ad (wpAny_rule (Ad (BK hz Z (x:=.ref TO) Z (Ad (Dc hz (by simp) λv m p=>Ad ?_)))));have u:IsZip v z TI TO .ellipsis:=m;simp only[List.zipIdx_cons,List.zipIdx_nil,List.forIn_cons,List.forIn_nil];refine Ad (Ad (wpAny_onRaise (Ad (j.done _ _ _ (j.frame _ _ _ F λb g o e=>p.extBut b o (l b g) e) λJ e k K=>?_))));obtain⟨C,d,f⟩:=K;have t:IsZip J z TI TO .ellipsis:=k _ _ (λe=>l i1 D e.symm) u;have y:e≠z:=λq=>by subst q;rw[t]at d;cases d;simp at f
 exact Dc t (by simp) λG _ r=>B G e (λc o i _ H _ q=>r.extBut _ _ i (k _ _ H (p.extBut _ _ i q))) ⟨C,r.extBut _ _ y d,f⟩
theorem quw {Q:Option Value->Ah->Prop}(e:Draws prog w A.in1 i1 f1 n P1 S1)(g:Draws prog w A.in1 i2 f2 n2 P2 S2)(m:Zap z TI TO i1 i2 f1 f2)(st:qmb z TI TO i1 i2 S1 S2 .none k s.heap)(hk:k<n)(b:k<n2)
  (h:∀h' tk x y,P1 k x->P2 k y->qmb z TI TO i1 i2 S1 S2 (rawInt s.heap.objs.size) (k+1) h'->DU h' s.heap.objs.size x y->(∀c o,c≠z->c≠TO->c≠i1->c≠i2->s.heap.get? c=some o->h'.get? c=some o)->Q (some (.ref s.heap.objs.size)) {s with heap:=h',toks:=tk}) :
  wpAny (model prog w) A (pyNext (.ref z)) Q E s:=by
 have a:s.TypeIs (.ref z) "zip" := ⟨_,st.1,Z⟩;unfold pyNext;exact Ad (wpAny_attempt (CW (name:=Aa "__next__") a Ed (DT Ed a F.entry_zip_next (quv e g m st hk b λh' tk x y i j d f l=>A1 (h h' tk x y i j d f l)) (F.args_zip_next_1 _))))
theorem qof {Q:Option Value->Ah->Prop}(f:Draws prog w A.in1 i1 f1 n P1 S1)(l:i1∈f1)(k:z∉f1)(st:qmb z TI TO i1 i2 S1 S2 .none n s.heap)
  (g:∀h',(∀c o,c≠z->c≠TO->c≠i1->c≠i2->s.heap.get? c=some o->h'.get? c=some o)->Q none {s with heap:=h'}):wpAny (model prog w) A (pyNext (.ref z)) Q E s:=by
 have a:s.TypeIs (.ref z) "zip" := ⟨_,st.1,Z⟩;unfold pyNext;refine Ad (wpAny_attempt (CW (name:=Aa "__next__") a Ed (DT Ed a F.entry_zip_next (qxe f l k st λh' e h i=>?_) (F.args_zip_next_1 _))));obtain⟨o,j,d⟩:=i;exact Ad (wpAny_isInstance (T := "StopIteration") (b:=true) ⟨o,j,d⟩ isSubtype_stop (A1 (g _ h)))
end
theorem qq6 {X:Cx}{d:List (Addr×Obj)}{σ:L2.St}{H:Hp}{s:Ah}{h':Heap}{t':Nat}{ch:List Addr}(I:Inv X d σ H s)(k:∀b o,b∉ch->s.heap.get? b=some o->h'.get? b=some o)(f:∀b∈ch,qe0 X d H b):Inv X d σ H {s with heap:=h',toks:=t'}:=by
 refine I.step (g':=s.gens) (d':=s.drawn) (ch:=ch) (λb e=>⟨(f b e).2.2.2.1,(f b e).2.1,(f b e).2.2.2.2.1,(f b e).2.2.2.2.2⟩) (λb o _ _ a q _=>k b o a q) (λb o _ _ a q _=>⟨o.slots,k b o a q⟩) (λ_ _ _ _ n=>n)
  (λb o a q=>⟨o,k b o a q⟩) (λ_ _ q=>q) (λ_ _ _ q=>q) (λb ps q=>⟨#[],by rw[q];simp⟩) (λm i=>?_) (λb u q=>?_) I.bare
 .obtain⟨o,g,ep,h,r⟩:=i;exact⟨o,g,ep,k _ o (λz=>(f _ z).2.1 Z) h,r⟩
 .refine(I.hok b u q).stay (λc v a z=>k c v (λm=>?_) z) (λ_ z=>z) λ_ _ z=>z;rcases a with rfl|a
  .rw[(f _ m).1]at q;cases q
  .rw[(f c m).1]at a;cases a
theorem qzj {X:Cx}{c:List (Addr×Obj)}{σ:L2.St}{H:Hp}{s:Ah}{a b:Addr}{xs:List V}(I:Inv X c σ H s)(f:qe0 X c H b)(h:SqT X.K H a xs):a≠b:=λe=>by
 subst e;rcases h with h|⟨o,its,n,hk,_⟩
 .have:=f.1;rcases h with h|⟨u,h⟩ <;>(rw[this]at h;cases h)
 .have d:=I.ok.mod.kin a o hk;rcases f.2.2.2.1 with z|z
  .exact I.ok.noex a o d z
  .exact absurd (AC (Az d) (A2 I.ok.bsz z)) (Cq _)
noncomputable def Itz (K:Ag)(a b:Addr):It :=
 ⟨λi H=>∃xs ys,SqL K H a xs/\SqT K H b ys/\xs.length=ys.length/\i<xs.length,
  λi H x H'=>∀xs ys,SqL K H a xs->SqT K H b ys->∃y1 y2 t,xs[i]?=some y1/\ys[i]?=some y2/\H t=none/\x=.ref t/\H'=upd H t (.tup [y1,y2]),
  λi H=>∃xs,SqL K H a xs/\xs.length=i⟩
theorem fp_upd' {X:Cx}{a:List (Addr×Obj)}{H:Hp}{b t:Addr}{o:HO}(f:qe0 X a H b)(ne:b≠t):qe0 X a (L2.upd H t o) b:=⟨by rw[ze ne];exact f.1,f.2⟩
theorem qux {P:AH}{w:World}{K:Ag}{es:List Expr}{kk pos}(l t z TI TO d f:Addr)(nd:[z,TI,TO,d,f].Nodup) :
  Turn P w K (.Tuple es kk pos) (Itz K l t) [z,TI,TO,d,f] z (λi h=>IsZip h z TI TO .none/\DU h TI (.ref d) (.ref f)/\(∃a b,DU h TO a b)/\h.IsListIter d l i/\h.IsTupleIter f t i) where
 mem:=by simp
 obj:=λi h st b m=>by
  obtain⟨B,C,⟨_,_,r⟩,⟨o4,h4,_,d4⟩,⟨L,h5,_,d5⟩⟩:=st;simp only[Ap,Av,or_false]at m;rcases m with rfl|rfl|rfl|rfl|rfl
  .exact⟨_,B,λv z=>by cases z⟩
  .exact⟨_,C,λv z=>by cases z⟩
  .exact⟨_,r,λv z=>by cases z⟩
  .exact⟨o4,h4,λv z=>by rw[d4]at z;cases z⟩
  .exact⟨L,h5,λv z=>by rw[d5]at z;cases z⟩
 keep:=λi h h' st k=>by obtain⟨B,C,⟨a,b,r⟩,⟨o4,h4,r4⟩,⟨L,h5,r5⟩⟩:=st;exact⟨k z (by simp) _ B,k TI (by simp) _ C,⟨a,b,k TO (by simp) _ r⟩,⟨o4,k d (by simp) _ h4,r4⟩,⟨L,k f (by simp) _ h5,r5⟩⟩
 item:=by
  intro X hP hw hK hc i ac s σ H E I N st hg;subst hP hw hK;obtain⟨hz,D,G,B,C⟩:=st;obtain⟨xs,ys,S,ht,hl,hi⟩:=hg;obtain⟨its,T,p,_⟩:=I.list S;obtain⟨a0,U,p2,_⟩:=I.tuple ht;have l1:=T.length;have l2:=U.length;have O:X.A.in1.handled=none:=I.ok.hd hc;have R:l≠d:=λe=>by obtain⟨o,g,c,_⟩:=B;obtain⟨o',g',j,_⟩:=p.isList;rw[e,g]at g';cases g';rw[c]at j;simp at j
  have aa:l∉[z,TI,TO,d,f]:=λe=>by
   obtain⟨o',g',j,_⟩:=p.isList;simp only[Ap,Av,or_false]at e;rcases e with e|e|e|e|e
   .rw[e,hz]at g';cases g';simp at j
   .rw[e,D]at g';cases g';simp at j
   .obtain⟨_,_,r⟩:=G;rw[e,r]at g';cases g';simp at j
   .exact R e
   .obtain⟨o,g,c,_⟩:=C;rw[e,g]at g';cases g';rw[c]at j;simp at j
  have V:t∉[z,TI,TO,d,f]:=λe=>qzj I (N t e) ht rfl;simp only[AK,Ap,Av,or_false,not_or]at nd aa V;obtain⟨⟨a1,a2,a3,a4⟩,⟨a5,a6,a7⟩,⟨a8,a9⟩,W,_⟩:=nd;obtain⟨c1,c2,c3,c4,c5⟩:=aa;obtain⟨d1,d2,d3,d4,d5⟩:=V;have ap:Zap z TI TO d f [d,l] [f,t]:=by constructor <;>simp only[Ap,Av,or_false,not_or,ne_eq] <;>first|exact .inl rfl|exact .inl trivial | (refine⟨?_,?_⟩ <;>(intro e;first|exact a1 e|exact a2 e|exact a3 e|exact a4 e|exact a5 e|exact a6 e|exact a7 e|exact a8 e|exact a9 e|exact W e|exact W e.symm|exact c1 e.symm|exact c2 e.symm|exact c3 e.symm|exact c5 e.symm|exact d1 e.symm|exact d2 e.symm|exact d3 e.symm|exact d4 e.symm)) | (intro e;first|exact a1 e.symm|exact a2 e.symm|exact a5 e)
  refine quw (Draws.list O d l R its.toArray) (qsq O f t d5 a0.toArray) ap ⟨hz,D,G,⟨B,p.isList⟩,⟨C,p2⟩⟩ (k:=i) (by simp;lia) (by simp;lia) λh' tk u v M J Y hp kp=>⟨_,Z,?_⟩;refine wpAny_letOwnedTupleGo_zip Y.1 λr af F=>?_
  replace F:BU z h' r:=F
  obtain⟨x,hx⟩:∃x,xs[i]?=some x:=⟨_,Ae hi⟩;obtain⟨y,hy⟩:∃y,ys[i]?=some y:=⟨_,Ae (by lia)⟩;obtain⟨u',hu,ru⟩:=T.get hx;obtain⟨v',hv,ag⟩:=U.get hy;obtain rfl:u=u':=by have M:its.toArray[i]?=some u:=M;simp only[List.getElem?_toArray]at M;rw[hu]at M;exact(A5 M).symm
  obtain rfl:v=v':=by have J:a0.toArray[i]?=some v:=J;simp only[List.getElem?_toArray]at J;rw[hv]at J;exact(A5 J).symm
  have lt:∀b∈[z,TI,TO,d,f],b<s.heap.objs.size:=λb m=>by
   obtain⟨_,_,r⟩:=G;obtain⟨_,g1,_⟩:=B;obtain⟨_,g2,_⟩:=C;simp only[Ap,Av,or_false]at m;rcases m with rfl|rfl|rfl|rfl|rfl
   .exact Az hz
   .exact Az D
   .exact Az r
   .exact Az g1
   .exact Az g2
  have zl:z<s.heap.objs.size:=Az hz;have ah:DU r s.heap.objs.size u v:=(F.2 _ (BV zl)).trans hp;have ad:H s.heap.objs.size=none:=I.hok.fresh (Ax _);have I1:=I.laid (a:=s.heap.objs.size) (o:=.tup [x,y]) (h':=s.heap.push {cls:=.type "tuple",data:=.seq #[u,v]}) (t':=s.toks) (λb o q=>Aj _ q) (Ax _) ⟨show 2<=Au by rw[Bd];decide,[u,v],.cons ru (.cons ag .nil),⟨_,A3 _ Z,Z,_,Z⟩⟩;have I2:=qq6 (ch:=[z,TI,TO,d,f]) (h':=r) (t':=tk) I1 (λb o n q=>by
   simp only[Ap,Av,or_false,not_or]at n;by_cases e:b=s.heap.objs.size
   .subst e;rw[A3 _ Z]at q;cases q;exact ah
   .rw[Heap.get?_push_ne _ _ _ e]at q;exact(F.2 b n.1).trans (kp b o n.1 n.2.2.1 n.2.2.2.1 n.2.2.2.2 q)) (λb m=>fp_upd' (N b m) (AI (lt b m)))
  obtain⟨_,s2,⟨a',b',s3⟩,⟨s4,_⟩,⟨s5,_⟩⟩:=Y;refine⟨.ref s.heap.objs.size,_,I2,Z,λxs' ys' ae ak=>?_,⟨af,(F.2 _ (Bc a1)).trans s2,⟨a',b',(F.2 _ (Bc a2)).trans s3⟩,s4.at λo q=>(F.2 _ (Bc a3)).trans q,?_⟩,λb m=>?_⟩
  .rw[I.list_inj ae S,I.tuple_inj ak ht];exact⟨x,y,_,hx,hy,ad,Z,Z⟩
  .obtain⟨L,g5,r5⟩:=s5;exact⟨L,(F.2 _ (Bc a4)).trans g5,r5⟩
  .rw[ze (AI (lt b m))];exact(N b m).1
 done:=by
  intro X hP hw hK hc i ac s σ H E I N st hg;subst hP hw hK;obtain⟨hz,D,G,B,C⟩:=st;obtain⟨xs,S,hi⟩:=hg;obtain⟨its,T,p,_⟩:=I.list S;have l1:=T.length;have O:X.A.in1.handled=none:=I.ok.hd hc;have R:l≠d:=λe=>by obtain⟨o,g,c,_⟩:=B;obtain⟨o',g',j,_⟩:=p.isList;rw[e,g]at g';cases g';rw[c]at j;simp at j
  have ei:i=its.toArray.size:=by simp;lia
  subst ei;have nz:z∉[d,l]:=λe=>by
   rcases Ap.mp e with e|e
   .obtain⟨o,g,c,_⟩:=B;rw[<- e,hz]at g;cases g;simp at c
   .obtain⟨o',g',j,_⟩:=p.isList;rw[<- Ao.mp e,hz]at g';cases g';simp at j
  refine qof (S2:=λk h=>h.IsTupleIter f t k) (Draws.list O d l R its.toArray) (by simp) nz ⟨hz,D,G,⟨B,p.isList⟩,C⟩ λh' kp=>⟨Z,qq6 (ch:=[z,TI,TO,d,f]) (t':=s.toks) I (λb o n q=>?_) N⟩;simp only[Ap,Av,or_false,not_or]at n;exact kp b o n.1 n.2.2.1 n.2.2.2.1 n.2.2.2.2 q
 self:=λA i s Q E st h=>wpAny_pyIter_zip st.1 h
section
noncomputable abbrev zl1 (h:Heap)(l:Addr):Heap:=h.push {cls:=.type "list_iterator",data:=.fields #[.ref l,.int 0 0]}
noncomputable abbrev zl2 (h:Heap)(l t:Addr):Heap:=(zl1 h l).push {cls:=.type "tuple_iterator",data:=.fields #[.ref t,.int 0 0]}
noncomputable abbrev zl3 (h:Heap)(l t:Addr):Heap:=(zl2 h l t).push {cls:=.type "tuple",data:=.seq #[.ref h.objs.size,.ref (zl1 h l).objs.size]}
noncomputable abbrev zl4 (h:Heap)(l t:Addr):Heap:=(zl3 h l t).push {cls:=.type "tuple",data:=.seq #[.none,.none]}
noncomputable abbrev zl5 (h:Heap)(l t:Addr):Heap:=(zl4 h l t).push {cls:=.type "zip",data:=.fields #[.none,.bool false,.bool false,.ref (zl2 h l t).objs.size,.ref (zl3 h l t).objs.size]}
theorem quy (l t:Addr)(xs ys:Array Value):Meets (AX.«zip.__new__» ⟨[.type "zip",.ref l,.ref t],[]⟩) (λ_ R s=>s.heap.IsList l xs/\s.heap.IsTuple t ys/\R (.ok (.ret (.ref (zl4 s.heap l t).objs.size))) {s with heap:=zl5 s.heap l t}) :=
 .of_wp λprog w A R s h=>by
  obtain⟨b,g,d,tk,a⟩:=s;obtain⟨f,i,h⟩:=h;have hsub:=sub_zip;have c:Heap.IsList (Ah.heap ⟨b,g,d,tk,a⟩) l xs:=f;have e:Heap.IsTuple (Ah.heap ⟨zl1 b l,g,d,tk,a⟩) t ys:=Heap.IsTuple.push i _
  wp_walk using DC c,wpAny_pyIter_tuple e
  exact⟨_,Z,h⟩
theorem qsr {prog:AH}{w:World}{A:AQ}{E:Value->Ah->Prop}{s:Ah}{l t:Addr}{xs ys:Array Value}{Q:Value->Ah->Prop}(p:s.heap.IsList l xs)(q:s.heap.IsTuple t ys)
  (h:∀h',IsZip h' (s.heap.objs.size+4) (s.heap.objs.size+2) (s.heap.objs.size+3) .none->DU h' (s.heap.objs.size+2) (.ref s.heap.objs.size) (.ref (s.heap.objs.size+1))->DU h' (s.heap.objs.size+3) .none .none ->
   h'.IsListIter s.heap.objs.size l 0->h'.IsTupleIter (s.heap.objs.size+1) t 0->(∀c o,s.heap.get? c=some o->h'.get? c=some o)->Q (.ref (s.heap.objs.size+4)) {s with heap:=h'}):wpAny (model prog w) A (call (.type "zip") [.ref l,.ref t]) Q E s:=by
 refine callType_new F.called_zip En (F.typeCall_zip_2 _ _) (F.newCall_zip_2 _ _) (λobj=>F.args_object_init_3 obj _ _) F.entry_zip_new (quy l t xs ys) ⟨p,q,?_⟩
 have f:(zl1 s.heap l).objs.size=s.heap.objs.size+1:=C6 ..
 have d:(zl2 s.heap l t).objs.size=s.heap.objs.size+2:=by rw[C6,f]
 have g:(zl3 s.heap l t).objs.size=s.heap.objs.size+3:=by rw[C6,d]
 have i:(zl4 s.heap l t).objs.size=s.heap.objs.size+4:=by rw[C6,g]
 have a:∀{h:Heap}{c:Addr}{o o':Obj},h.get? c=some o->(h.push o').get? c=some o:=λe=>Aj _ e
 have b:(zl5 s.heap l t).get? (zl4 s.heap l t).objs.size=some _:=A3 _ rfl
 have m:(zl5 s.heap l t).get? (zl3 s.heap l t).objs.size=some _:=a (A3 _ Z)
 have k:(zl5 s.heap l t).get? (zl2 s.heap l t).objs.size=some _:=a (a (A3 _ Z))
 have j:(zl5 s.heap l t).get? (zl1 s.heap l).objs.size=some _:=a (a (a (A3 _ Z)))
 have n:(zl5 s.heap l t).get? s.heap.objs.size=some _:=a (a (a (a (A3 _ Z))))
 rw[d,g,i]at b
 rw[f,d]at k
 rw[g]at m
 rw[f]at j
 show _/\_
 rw[i]
 exact⟨⟨_,b,Z⟩,h _ b k m ⟨_,n,Z,Z⟩ ⟨_,j,Z,Z⟩ λc o e=>a (a (a (a (a e))))⟩
end
def iZip (K:Ag)(ta:TA):TI:=λσ H R=>ta σ H λvs H1=>∃a b xs ys,vs=[.ref a,.ref b]/\H1 a=some (.lst xs)/\SqT K H1 b ys/\R (Itz K a b) H1
theorem boot_zip':bootBuiltins "zip"=some (.type "zip"):=Ek
theorem qzk {X:Cx}{A:List Expr}{x:_}{i:Pos}{a b:Expr}{j:TA}{p pos:Pos}(L:Gl X "zip")(M:X.mg "zip"=none)(y:PA X [a,b] j)(hs:starEach [a,b] X.env=(false,eval a X.env)::starEach [b] X.env:=by rfl)(g:(backTo pos (starEach [b] X.env)).any (·.1)=false:=by rfl):PI X (.Tuple A x i) (.Call (.Name "zip" p) [a,b] [] pos) (iZip X.K j):=by
 intro f s σ H R I h;refine Call_ (qey I L M boot_zip' (BD (thn (y pos f s σ H _ I h) λus c ⟨vs,m,d,E,r⟩=>?_) hs g));obtain⟨l,t,xs,ys,e,hl,C,q⟩:=r;subst e;obtain⟨u,v,rfl,B,D⟩:=Vals.two E;cases qmz B;cases qmz D;obtain⟨z,its,n,rv,hz,e⟩:=d.lstM hl;obtain⟨jts,_,G,_⟩:=d.tuple C;refine qsr ⟨_,e,Z,n,Z⟩ G λh' k N J F O keep=>wpAny_pyIter_zip k ?_;have w:Inv X f σ m {c with heap:=h'}:=d.kept (t':=c.toks) keep;refine⟨c.heap.objs.size+4,[c.heap.objs.size+4,c.heap.objs.size+2,c.heap.objs.size+3,c.heap.objs.size,c.heap.objs.size+1],_,_,m,Z,w,qux l t _ _ _ _ _ (by simp),⟨k,N,⟨_,_,J⟩,F,O⟩,λb g=>?_,q⟩;have o:c.heap.objs.size<=b:=by simp only[Ap,Av,or_false]at g;rcases g with rfl|rfl|rfl|rfl|rfl <;>first|exact Nat.le_add_right _ _|exact Ax _
 exact d.fpOk o (d.hok.fresh o)
section
variable {X:Cx}
theorem qxf {kvs:List (Key×V)}{vs:List (Key×Value)}(h:KV kvs vs):Vals (kvs.map (·.2)) (vs.map (·.2)):=by
 induction h with
 |nil=>exact .nil
 |cons r _ ih=>exact .cons r.2 ih
def tLV (te:TE):TE:=λσ H Q=>te σ H λx H1=>∃(d:Addr)(kvs:List (Key×V)),x=.ref d/\H1 d=some (.dK kvs)/\∀q,H1 q=none->Q (.ref q) (upd H1 q (.lst (kvs.map (·.2))))
theorem qog {e:Expr}{C:TE}{p f i pos:Pos}(J:X.calm=true)(y:Gl X "list")(G:X.mg "list"=none)(B:bootBuiltins "list"=some (.type "list"))(S:PE X e C)
  (r:attributeBase e "values" X.env (eval e X.env)=eval e X.env:=by rfl)(hline:(f.endLine == i.line)=true:=by rfl):PE X (.Call (.Name "list" p) [.Call (.Attribute e "values" f) [] [] i] [] pos) (tLV C):=by
 intro m s σ H Q I h;refine B1 (qey I y G B ?_);refine BD ?_ rfl rfl;show wpAny _ _ (spliced ((false,eval (.Call (.Attribute e "values" f) [] [] i) X.env)::[])) _ _ s;refine Calls.spliced_cons ?_;refine wpAny_Call_method0_late r hline (thn (S m s σ H _ I h) λv n ⟨x,P,E,O,M⟩=>?_);obtain⟨d,kvs,rfl,hd,q⟩:=M;cases O;obtain⟨z,lo,vs,D,l⟩:=qqw E.hok hd;refine⟨"dict","dict.values",PySem.F.plainAttrs_dict,PySem.F.slot_dict_values,PySem.F.type_dict_values,l.typeIs,?_,DF Z (PySem.evalArgs_none ?_)⟩
 .exact l.mapOf.noDict
 refine call_meetsIn PySem.F.slot_dict_values l.typeIs PySem.F.entry_dict_values (PySem.F.args_dict_values_1 _) (meets_dict_values (qb2 X.prog X.w) d lo) ⟨⟨vs,l⟩,?_⟩;refine Calls.spliced_nil ?_;obtain⟨ep,K⟩:=l.dictAt;have A:Inv X m σ P {n with heap:=n.heap.push {cls:=.type "dict_values",data:=.fields #[.ref d]} }:=E.kept (t':=n.toks) λb o q=>Aj _ q;refine PySem.W.kdl_call (PySem.W.kdl_values (knd:=qb2 X.prog X.w) (kvs:=vs) (ep:=ep)) (I.ok.hd J) ⟨⟨_,A3 _ Z,Z,Z⟩,K.push _⟩ (by rw[<- D.length];exact z) λh' tk a c R e t=>?_;have N:a.toList=vs.map (·.2):=B0 λj=>by
  rw[Af];by_cases L:j<vs.length
  .have u:j<a.size:=by rw[t.1];exact L
   have g:a[j]?=some a[j]:=Array.getElem?_eq_getElem u;obtain⟨k,hk⟩:=t.2 j _ g;rw[Dj,g,hk];rfl
  .rw[B4 (by rw[AO,t.1];lia),B4 (by lia)];rfl
 have T:Vals (kvs.map (·.2)) a.toList:=by rw[N];exact qxf D
 exact⟨.ref (n.heap.push {cls:=.type "dict_values",data:=.fields #[.ref d]}).objs.size,_,A.laid (t':=tk) R (Ax _) (show ObjOk X.prog X.w _ h' _ (.lst (kvs.map (·.2))) from ⟨by rw[Ab];exact z,a.toList,c,T,by simpa using e⟩),Z,q _ (A.hok.fresh (Ax _))⟩
end
section
variable {X:Cx}{t:Expr}{es:List Expr}{c:Value}{us:List Value}{qcb:List ExceptHandler}{tr:TH}{body:List Stmt}{pos pos':Pos}
end
theorem quz {K:Ag}{js:List (Option Nat)}{g:TG}{C:TE}{σ:L2.St}{H:Hp}{Q:VK}{a b:Addr}{xs ys:List V}(f:List V)(Sv:L2.St->Prop)(O:SqL K H a xs)(o:SqT K H b ys)(le:xs.length=ys.length)(lz:f.length=xs.length)(hz:xs.length<=Au)(N:Sv (qdd js σ))
  (step:∀(i:Nat)(x y z:V)(t:Addr)(σ':L2.St)(d:Hp)(R:L2.St->VK),xs[i]?=some x->ys[i]?=some y->f[i]?=some z->Same H d->d t=some (.tup [x,y])->Sv σ'->(∀σ3 h,Sv σ3->Same d h->R σ3 z h)->g (.ref t) σ' d λσ3 k=>C σ3 k (R σ3))
  (I:∀(x:V)(σ':L2.St)(d:Hp)(R u:L2.St->Hp->Prop),(∀σ3 k,R σ3 k->u σ3 k)->g x σ' d R->g x σ' d u)
  (F:∀p d,H p=none->Same H d->d p=some (.lst f)->Q (.ref p) d):qf7 js g qn3 C σ Q (Itz K a b) H:=by
 intro p r;refine⟨λi m σ' d=>m=xs.length-i/\i<=xs.length/\Sv σ'/\Same H d/\d p=some (.lst (f.take i)),⟨xs.length,by simp,Bj _,N,qag (Same.refl H) r,by rw[qu];rfl⟩,?_⟩;rintro i m σ' d ⟨rfl,hi,L,j,s⟩;have q:=j.seq O;have w:=qsf j o;by_cases n:i<xs.length
 .obtain⟨z,ez⟩:∃z,f[i]?=some z:=⟨_,Ae (by lia)⟩;refine .inr ⟨⟨xs,ys,q,w,le,n⟩,λσ2 l=>Sv σ2/\Same H l/\l p=some (.lst (f.take (i+1))),λσ2 l ⟨a,b,c⟩=>⟨xs.length-(i+1),by lia,Z,n,a,b,c⟩,λx l o=>?_⟩;obtain⟨E,A,t,M,G,J,rfl,rfl⟩:=o xs ys q w;have st:Same d (upd d t (.tup [E,A])):=qag (Same.refl d) J;refine I _ _ _ _ _ (λσ3 k z=>?_) (step i E A z t σ' _ (λσ3 v h=>∃ys,h p=some (.lst ys)/\ys.length<Au/\(Sv σ3/\Same H (upd h p (.lst (ys++[v])))/\upd h p (.lst (ys++[v])) p=some (.lst (f.take (i+1))))) M G ez (j.trans st) qu L λσ3 h D B=>?_)
  .exact z
  .refine⟨_,B _ _ (st _ _ s),?_,D,qag (j.trans (st.trans B)) r,?_⟩
   .rw[A6];lia
   .rw[qu,CN,ez];rfl
 .have e:i=xs.length:=by lia
  subst e;refine .inl ⟨⟨xs,q,Z⟩,?_⟩;rw[BW (by lia)]at s;exact F p _ r j s
section
variable {X:Cx}
def tBS (t:TE):TT:=λσ H Q=>t σ H λx H1=>∃y:Str,x=.str y/\y.length<=Au/\Q (decide (y.length≠0)) H1
theorem qxg {e:Expr}{t:TE}(h:PE X e t)(i:∀whole,isTrue e X.env whole=(do let v <- whole;standAt e.pos;holding [v] (truthy v)):=by intro _;rfl):PT X e (tBS t):=by
 intro a s σ H Q I g;refine isTrue_plain (thn (h a s σ H _ I g) λv s1 ⟨x,f,d,c,b⟩=>?_) (i _);obtain⟨y,rfl,hy,q⟩:=b;obtain⟨t',rfl⟩:=c;have hs:Au=16777216:=Bd;refine PySem.P.truthy_str (by lia) ?_;have e:((y.length:Int) != 0)=decide (y.length≠0):=by rw[CA,bne_iff_ne,decide_eq_true_eq];lia
 rw[e];exact⟨f,d.tok _,q⟩
theorem qss {X:Cx}:qek X (.builtin "len") (λxs H Q=>∃(d:Addr)(kvs:List (Key×V)),xs=[.ref d]/\H d=some (.dK kvs)/\Q (.int kvs.length) H):=by intro pins s σ H xs us Q I r h;obtain⟨d,kvs,rfl,hd,q⟩:=h;obtain⟨u,rfl,c⟩:=qf0 r;cases c;obtain⟨z,lo,vs,a,b⟩:=qqw I.hok hd;have hs:Au=16777216:=Bd;refine PySem.call_len_dict lo b (by rw[<- a.length];lia) ?_;exact⟨.int kvs.length,H,I.tok _,⟨_,by rw[a.length]⟩,q⟩
end
section
variable {X:Cx}
end
section
variable {prog:AH}{w:World}{A:AQ}{E:Value->Ah->Prop}{s:Ah}
end
abbrev Hd (x:Addr)(H:Hp):Prop:=∃C od,H x=some (exO x C od false)
section
variable {P:AH}{w:World}{K:Ag}{mg:Str->Option Value}{base:Heap}
end
section
variable {X:Cx}
def qu4 (K:Ag):R2:=λx y H Q=>∃a b xs,x=.ref a/\y=.ref b/\SqL K H a xs/\SqL K H b []/\Q (.bl (!xs.isEmpty)) H
theorem qoh (hu:X.A.units+64<cLine):OpR X (compareOp .NotEq) (qu4 X.K):=by
 intro pins s σ H x y v u Q I m o h;obtain⟨a,b,xs,rfl,rfl,k,r,q⟩:=h;cases m;cases o;obtain⟨its,l,i,_⟩:=I.list k;obtain⟨c,p,g,_⟩:=I.list r;have d:=l.length;have f:=p.length;have f:0=c.length:=f;cases xs with|nil =>have d:0=its.length:=d;refine SeqAt.RcNeAt.lists (e:=λ_=>true) i.isList g.isList (by rw[An,An];lia) (by lia) (λj n _=>absurd n (by rw[An];lia)) _ _ _ _ ?_;rw[quu];exact⟨.bl false,H,I,Z,q⟩|cons z zs =>rw[Am]at d;refine SeqAt.RcNeAt.lists_lengths i.isList g.isList (bne_iff_ne.mpr (by rw[An,An];lia)) (by lia) _ _ _ _ ?_;exact⟨.bl true,H,I,Z,q⟩
end
section
variable {X:Cx}
theorem qxh (l b:Addr)(a bs:Array Value)(n m:Nat)(j:Option Addr)(i:Array (Option Value))(h0:¬(!a.isEmpty && AX.List.listTooLong (a.size+bs.size))=true)(e:a.size<=Au)(f:a.size+bs.size<=Au+1) :
  Meets (AX.«list.extend» ⟨[.ref l,.ref b],[]⟩) (λ_ R s=>s.heap.get? l=some ⟨.type "list",none,.seq a n,#[]⟩/\s.heap.get? b=some ⟨.type "tuple",j,.seq bs m,i⟩/\R (.ok (.ret .none)) {s with heap:=s.heap.update l (BL λx=>x++bs),toks:=s.toks}):=by
 refine .of_wp λprog w A R s h=>?_;obtain⟨hp,g,d,tk,os⟩:=s;obtain⟨hl,k,h⟩:=h;have k1:=AutoSeq1.idx_int;have k2:=AutoSeq1.sub_tuple_tuple;have k3:=AutoSeq1.sub_list_list;have k4:=AutoSeq1.sub_tuple_list;have k5:=AutoSeq1.sub_list_tuple;have c:(a++bs).size<=Au+1:=A2 (Cn Array.size_append) f
 wp_walk using (wpAny_updateSeq hl Z (hz:=e) (_hz':=c)),wpAny_loadPart' hl,wpAny_loadPart' k
 exact⟨_,Z,h⟩
noncomputable def qu5 (K:Ag):V->List V->Hp->VK->Prop:=λx vs H Q=>∃l b xs zs,x=.ref l/\vs=[.ref b]/\H l=some (.lst xs)/\SqT K H b zs/\xs.length+zs.length<=Au/\Q .non (upd H l (.lst (xs++zs)))
theorem qpx:MtM X "list.extend" (qu5 X.K):=by
 intro pins s σ H x vs v us Q I k w h;obtain⟨l,b,xs,zs,rfl,rfl,d,o,hz,q⟩:=h;cases k;obtain⟨u,rfl,g⟩:=w.one;cases g;obtain⟨z,its,n,r,hl,e⟩:=I.lstM d;obtain⟨a,f,p,hz2⟩:=I.tuple o;have hl2:=f.length;obtain⟨⟨cl,t,da,m⟩,i,rfl,j,rfl⟩:=p;have hsz:its.toArray.size+a.toArray.size<=Au:=by rw[An,An];lia
 have c:¬(!its.toArray.isEmpty && AX.List.listTooLong (its.toArray.size+a.toArray.size))=true:=by rw[qj6 hsz,Dp];exact AE
 refine Do F.slot_list_extend ⟨_,e,Z⟩ F.entry_list_extend (F.args_list_extend_2 _ _)
  (qxh l b its.toArray a.toArray n j t m c (by rw[An];lia) (by lia)) ⟨e,i,?_⟩
 refine⟨.non,_,I.lset (its':=its++a) d e (by simp) (r.append f) ?_,Z,q⟩;rw[Ai];lia
noncomputable def strN:Option Str->V
 |none=>.non
 |some y=>.str y
theorem qst:qek X (.type "str") (λxs H Q=>∃o:Option Str,xs=[strN o]/\Q (.str (o.getD "None")) H):=by
 intro pins s σ H xs us Q I r h;obtain⟨o,rfl,q⟩:=h;cases o with
 |none =>obtain⟨u,rfl,e⟩:=qf0 r;cases e;exact PySem.P.str_of_none ⟨.str _,H,I.tok _,⟨_,Z⟩,q⟩
 |some y =>obtain⟨u,rfl,t,rfl⟩:=qf0 r;exact PySem.P.str_of_str ⟨.str _,H,I,⟨_,Z⟩,q⟩
end
theorem qkk {js:List (Option Nat)}{g:TG}{M:TE}{J:It}{σ:L2.St}{H:Hp}{Q:VK}{xs:List V}(G:Addr->V->Addr->Hp->Prop)(P:∀p x q H d,(∀b o,b≠p->H b=some o->d b=some o)->G p x q H->G p x q d)(Gn:∀p x q H,G p x q H->H q≠none)
  (Sv:L2.St->Prop)(F:qja J H xs)(hz:xs.length<=Au)(h0:Sv (qdd js σ))
  (step:∀(p:Addr)(x:V)(σ':L2.St)(d:Hp)(RR:L2.St->VK),x∈xs->H p=none->Same H d->(∃zs,d p=some (.lst zs))->Sv σ'->(∀σ3 q f,Sv σ3->Same d f->d q=none->G p x q f->RR σ3 (.ref q) f)->g x σ' d λσ3 t=>M σ3 t (RR σ3))
  (gk:∀(x:V)(σ':L2.St)(d:Hp)(R L:L2.St->Hp->Prop),(∀σ3 t,R σ3 t->L σ3 t)->g x σ' d R->g x σ' d L)
  (S:∀(p:Addr)(d:Hp)(A:List Addr),H p=none->Same H d->d p=some (.lst (A.map V.ref))->A.length=xs.length->A.Nodup->(∀(j:Nat)(x:V)(q:Addr),xs[j]?=some x->A[j]?=some q->G p x q d/\q≠p/\H q=none)->Q (.ref p) d) :
  qf7 js g qn3 M σ Q J H:=by
 intro p u;refine⟨λi m σ' d=>m=xs.length-i/\i<=xs.length/\Sv σ'/\Same H d/\∃ys:List Addr,d p=some (.lst (ys.map V.ref))/\ys.length=i/\ys.Nodup/\∀(j:Nat)(x:V)(q:Addr),xs[j]?=some x->ys[j]?=some q->G p x q d/\q≠p/\H q=none,⟨xs.length,by simp,Bj _,h0,qag (Same.refl H) u,[],qu,Z,.nil,λj x y _ D=>by cases D⟩,?_⟩;rintro i m σ' d ⟨rfl,hi,Y,r,us,w,hl,T,I⟩;obtain⟨F1,F2⟩:=F _ r;by_cases s:i<xs.length
 .have ex:xs[i]?=some xs[i]:=by simp[s]
  obtain⟨X,yl⟩:=F1 i _ ex;refine .inr ⟨X,λσ2 k=>Sv σ2/\Same H k/\∃ys:List Addr,k p=some (.lst (ys.map V.ref))/\ys.length=i+1/\ys.Nodup/\∀(j:Nat)(x:V)(q:Addr),xs[j]?=some x->ys[j]?=some q->G p x q k/\q≠p/\H q=none,λσ2 k ⟨a,b,c⟩=>⟨xs.length-(i+1),by lia,Z,s,a,b,c⟩,λx k D=>?_⟩;obtain⟨rfl,rfl⟩:=yl x k D;refine gk _ _ _ _ _ (λσ3 t z=>?_) (step p xs[i] σ' _ (λσ3 v f=>∃zs,f p=some (.lst zs)/\zs.length<Au/\(Sv σ3/\Same H (upd f p (.lst (zs++[v])))/\∃ys:List Addr,upd f p (.lst (zs++[v])) p=some (.lst (ys.map V.ref))/\ys.length=i+1/\ys.Nodup/\∀(j:Nat)(x:V)(q:Addr),xs[j]?=some x->ys[j]?=some q->G p x q (upd f p (.lst (zs++[v])))/\q≠p/\H q=none)) (Bw s) u r ⟨_,w⟩ Y λσ3 q f N E B hq=>?_)
  .exact z
  .have h5:=E _ _ w;have O:q≠p:=λz=>by rw[z,w]at B;cases B
   have keep:∀b o,b≠p->f b=some o->upd f p (.lst (us.map V.ref++[V.ref q])) b=some o:=λb o n e=>by rw[ze n];exact e
   refine⟨_,h5,?_,N,qag (r.trans E) u,us++[q],?_,?_,?_,λj x y K h=>?_⟩
   .rw[Ab];lia
   .rw[qu,Ar];rfl
   .rw[Ai,hl];rfl
   .refine AV.mpr ⟨T,List.pairwise_singleton _ _,λa W b hb e=>?_⟩;obtain⟨j,l⟩:=AA W;have lj:=(Ac.mp l).1;obtain⟨C,_⟩:=I j _ a (Ae (by lia)) l;have:=Gn _ _ _ _ C;rw[e,Ao.mp hb]at this;exact this B
   .by_cases l:j<us.length
    .rw[Ba l]at h;obtain⟨C,U,g3⟩:=I j x y K h;exact⟨P _ _ _ _ _ (λb o n e=>keep b o n (E _ _ e)) C,U,g3⟩
    .rw[AS (Nat.not_lt.mp l)]at h;have ej:j=i:=by have:=(Ac.mp h).1;simp at this;lia
     subst ej;rw[hl,Dx]at h;rw[ex]at K;cases K;cases h;exact⟨P _ _ _ _ _ keep hq,O,r.free B⟩
 .have e:i=xs.length:=by lia
  subst e;exact .inl ⟨F2,S p _ us u r w hl T I⟩
section
variable {X:Cx}
end
theorem qpy {js:List (Option Nat)}{g:TG}{D:TT}{A:TE}{J:It}{σ:L2.St}{H:Hp}{Q:VK}{xs:List V}(b:V->Bool)(f:V->V)(Sv:L2.St->Prop)(F:qja J H xs)(hz:xs.length<=Au)(S:Sv (qdd js σ))
  (step:∀(x:V)(σ':L2.St)(d:Hp)(N:L2.St->Hp->Prop)(R:L2.St->VK),x∈xs->Same H d->Sv σ'->(∀σ3 h,Sv σ3->Same d h->b x=false->N σ3 h)->(∀σ3 h,Sv σ3->Same d h->b x=true->R σ3 (f x) h) ->
   g x σ' d λσ3 r=>D σ3 r λk B=>if k=true then A σ3 B (R σ3) else N σ3 B)
  (I:∀(x:V)(σ':L2.St)(d:Hp)(R w:L2.St->Hp->Prop),(∀σ3 r,R σ3 r->w σ3 r)->g x σ' d R->g x σ' d w)
  (C:∀p d,H p=none->Same H d->d p=some (.lst ((xs.filter b).map f))->Q (.ref p) d) :
  qf7 js g D A σ Q J H:=by
 intro p t;have O:∀i,((xs.take i).filter b).length<=i:=λi=>A2 (DP b (xs.take i)) (by rw[A6];lia);refine⟨λi m σ' d=>m=xs.length-i/\i<=xs.length/\Sv σ'/\Same H d/\d p=some (.lst (((xs.take i).filter b).map f)),⟨xs.length,by simp,Bj _,S,qag (Same.refl H) t,by rw[qu];rfl⟩,?_⟩;rintro i m σ' d ⟨rfl,hi,K,l,s⟩;obtain⟨P,L⟩:=F _ l;by_cases q:i<xs.length
 .have ex:xs[i]?=some xs[i]:=by simp[q]
  obtain⟨G,M⟩:=P i _ ex;have y:(xs.take (i+1)).filter b=(xs.take i).filter b++(if b xs[i]=true then [xs[i]] else []):=by
   rw[CN,ex,BI]
   congr 1
   show List.filter b [xs[i]]=_;rw[By];rfl
  refine .inr ⟨G,λσ2 j=>Sv σ2/\Same H j/\j p=some (.lst (((xs.take (i+1)).filter b).map f)),λσ2 j ⟨a,b,c⟩=>⟨xs.length-(i+1),by lia,Z,q,a,b,c⟩,λx j E=>?_⟩;obtain⟨rfl,rfl⟩:=M x j E;refine I _ _ _ _ _ (λσ3 r z=>?_) (step xs[i] σ' _ (λσ2 j=>Sv σ2/\Same H j/\j p=some (.lst (((xs.take (i+1)).filter b).map f))) (λσ3 v h=>∃ys,h p=some (.lst ys)/\ys.length<Au/\(Sv σ3/\Same H (upd h p (.lst (ys++[v])))/\upd h p (.lst (ys++[v])) p=some (.lst (((xs.take (i+1)).filter b).map f)))) (Bw q) l K (λσ3 h o n u=>?_) λσ3 h o n u=>?_)
  .exact z
  .refine⟨o,l.trans n,?_⟩;rw[n _ _ s,y,u];simp
  .refine⟨_,n _ _ s,?_,o,qag (l.trans n) t,?_⟩
   .rw[Ab];have:=O i;lia
   .rw[qu,y,u,if_pos Z,Ar];rfl
 .have e:i=xs.length:=by lia
  subst e;refine .inl ⟨L,?_⟩;rw[Be]at s;exact C p _ t l s
end Add
namespace Sts
open PySem PyProof.Rows
section
variable {prog:AH}{w:World}{A:AQ}{E:Value->Ah->Prop}{s:Ah}
end
section
variable {prog:AH}{w:World}{A:AQ}{R:Result->Ah->Prop}{I:Addr}{fp wr:List Addr}{G:Array GenState->Array GenState->Prop}{n:Nat}{P:Nat->Value->Prop}{St:Nat->Ah->Prop}
end
end Sts
namespace Sts
open PySem PyProof.Rows
set_option maxRecDepth 100000
section
variable {prog:AH}{w:World}{A:AQ}{E:Value->Ah->Prop}{s:Ah}
end
end Sts
namespace Sts
open PySem PyProof.Rows
set_option maxRecDepth 100000
section
variable {prog:AH}{w:World}{A:AQ}{E:Value->Ah->Prop}{s:Ah}
end
end Sts
namespace Sts
open PySem PyProof.Rows
set_option maxRecDepth 100000
section
variable {M:Model}{A:AQ}{E:Value->Ah->Prop}{s:Ah}
end
end Sts
namespace Sts
open PySem PyProof.Rows
set_option maxRecDepth 100000
section
variable {prog:AH}{w:World}{A:AQ}{E:Value->Ah->Prop}{s:Ah}
end
end Sts
namespace Sts
open PySem PyProof.Rows
set_option maxRecDepth 100000
section
variable {prog:AH}{w:World}{A:AQ}{E:Value->Ah->Prop}{s:Ah}
end
end Sts
namespace Sts
open PySem PyProof.Rows
set_option maxRecDepth 100000
section
variable {prog:AH}{w:World}{A:AQ}{E:Value->Ah->Prop}{s:Ah}
end
end Sts
namespace Sts
open PySem PyProof.Rows
set_option maxRecDepth 100000
section
variable {prog:AH}{w:World}{A:AQ}{E:Value->Ah->Prop}{s:Ah}
end
end Sts
namespace Sts
open PySem PyProof.Rows
set_option maxRecDepth 100000
section
variable {prog:AH}{w:World}{A:AQ}{E:Value->Ah->Prop}{s:Ah}
end
end Sts
namespace Add
open PySem PySem.Spec PyProof.Rows L2
theorem boot_sorted:bootBuiltins "sorted"=some (.builtin "sorted"):=Ek
section
variable {X:Cx}
end
end Add
namespace Add
open PySem PySem.Spec PyProof.Rows L2
section
variable {X:Cx}{pins:List (Addr×Obj)}{σ:L2.St}{H:Hp}{s:Ah}
end
theorem qsu {X:Cx}{K:Ag}(a:X.K=K)(b:X.A.units+64<cLine):OpR X (compareOp .NotEq) (qu4 K):=a ▸ qoh b
end Add
namespace Lam
open PySem PySem.Spec PySem.Calls PyProof.Rows L2 Add PySem.W
noncomputable def qq7 (X:Cx)(A:AQ)(N:List Str)(qual:Str)(scope:Scope)(f:Addr)(cd:Value)(cl:List (Str×Addr))(s:Ah)(H:Hp)(E:Value->Ah->Prop):Cx where
 prog:=X.prog
 w:=X.w
 K:=X.K
 mg:=X.mg
 base:=X.base
 A:=A.deeper (envX qual scope s.heap.objs.size f cd cl)
 N:=N
 s₀:=s
 H₀:=H
 env:=envX qual scope s.heap.objs.size f cd cl
 outer:=X.stack
 stack:=envX qual scope s.heap.objs.size f cd cl::X.stack
 ex:=[]
 fn:=λ_=>false
 calm:=true
 pn:=[]
 xe:=E
noncomputable def qg5 (js:List (Option Nat))(σ:L2.St)(x:V):L2.St:=(qdd js σ).set 0 (some x)
section
variable {X:Cx}{A:AQ}{N XN:List Str}{js:List (Option Nat)}{xs scope:Scope}{qual y:Str}{f:Addr}{cd:Value}{cl:List (Str×Addr)}{E:Value->Ah->Prop}{pins:List (Addr×Obj)}{σ:L2.St}{H:Hp}{s:Ah}{u:Value}{x:V}
theorem qsv {D:Heap}{tk:Nat}(R:X.N=XN)(K:X.env.scope=xs)(nm:CompNm N js XN xs scope)(d:∀x c,cl.lookup x=some c->X.env.cells.lookup x=some c)(B:∀x∈scope.names,x.2=.free->(cl.lookup x.1).isSome=true)
  (hA:A.frames=some X.stack)(hd:A.handled=none)(h0:N[0]?=some y)(j0:js[0]?=some none)(U:scope.names.lookup y=some .local)(I:Inv X pins σ H s)(rx:RelV x u)
  (M:D.Ns s.heap.objs.size (λz=>[(y,u)].reverse.lookup z))(m:∀b o,s.heap.get? b=some o->D.get? b=some o) :
  Inv (qq7 X A N qual scope f cd cl s H E) [] (qg5 js σ x) H {s with heap:=D,toks:=tk}:=by
 have n:∀b:Addr,b∉(qq7 X A N qual scope f cd cl s H E).ex:=λb z=>absurd (show b∈([]:List Addr) from z) (by simp);have ln:0<js.length:=(Ac.mp j0).1;refine⟨⟨I.ok.mod,nm.kind,Z,Z,Ax _,λx y c h1 h2=>I.ok.inj x y c (d x c h1) (d y c h2),λz hz=>?_,(λ_ _ h _=>nomatch h),λ_=>hd,AQ.frames_deeper hA,.inr ⟨Z,Z⟩,λb z=>absurd z (n b),I.bs,A2 I.ok.bsz I.sz,λb _ _=>n b,λb z=>absurd z (n b),I.stack,I.stkFree⟩,
  rfl,I.bare,Un.kept m,⟨_,M,λi z v t a e3=>?_⟩,λz c e=>?_,I.hok.fresh (Ax _),λz c e=>I.freeC z c (d z c e),λp Y=>absurd (show p∈([]:List (Addr×Obj)) from Y) (by simp),I.hok.kept m,?_⟩
 .have hz:scope.names.lookup z=some .cell\/scope.names.lookup z=some .free:=hz;rcases hz with hz|hz
  .exact absurd rfl (nm.nocell _ (Cu hz))
  .exact Cg.mp (B _ (Cu hz) Z)
 .by_cases c:i=0
  .subst c;have t:N[0]?=some z:=t;rw[h0]at t;cases t;have a:(qg5 js σ x)[0]?=some (some v):=a;unfold qg5 at a;rw[B8 (by unfold qdd;rw[Ab];exact ln)]at a;cases a;exact⟨u,rx,.inl ⟨U,by show [(y,u)].reverse.lookup y=some u;simp⟩⟩
  .have a:(qg5 js σ x)[i]?=some (some v):=a;unfold qg5 at a;rw[DX (Bc c)]at a;have l:((js[i]?).map λj=>j.bind λk=>(σ[k]?).join)=some (some v):=by
    unfold qdd at a
    rwa [Af]at a
   cases C:js[i]? with
   |none=>rw[C]at l;cases l
   |some jo =>
    rw[C]at l;cases jo with
    |none=>cases l
    |some j =>
     have g:(σ[j]?).join=some v:=A5 l;have S:σ[j]?=some (some v):=by
      cases q:σ[j]? with
      |none=>rw[q]at g;cases g
      |some o=>rw[q]at g;cases o with
       |none=>cases g
       |some y=>cases g;rfl
     obtain⟨V,L,a3,a4⟩:=nm.free i j z t C;obtain⟨mX,hnX,W⟩:=I.loc;have J:Vis X.env.scope z:=by rw[K];exact .inr L
     obtain⟨u',Q,lu⟩:=W j z v (by rw[R];exact V) S J;refine⟨u',Q,?_⟩;rcases lu with ⟨P,_⟩|⟨P,c,e5,w⟩
     .exfalso;have r:X.env.scope.names.lookup z=some .local:=P;rw[K]at r;rcases L with q|q <;>rw[q]at r <;>cases r
     .obtain⟨T,O⟩:=Cg.mp (B _ a3 Z);have G:=d z T O;rw[e5]at G;cases G;refine .inr ⟨.inr a4,c,O,?_⟩;obtain⟨o,F,hd⟩:=w;exact⟨o,m c o F,hd⟩
 .obtain⟨v,o,F,hd⟩:=I.cell z c (d z c e);exact⟨v,o,m c o F,hd⟩
 .unfold qg5 qdd;rw[Bz,Ab];exact nm.len.symm
theorem qu6 {name:Str}{d:Arguments}{a:Expr}{F k:Value}{g:Addr}{tb:TE}{Q:VK}(K:X.N=XN)(O:X.env.scope=xs)(nm:CompNm N js XN xs scope)(l:∀x c,cl.lookup x=some c->X.env.cells.lookup x=some c)(m:∀x∈scope.names,x.2=.free->(cl.lookup x.1).isSome=true)
  (S:A.frames=some X.stack)(hd:A.handled=none)(h:A.depth<recursionLimit)(V:N[0]?=some y)(T:js[0]?=some none)(p:scope.names.lookup y=some .local)(D:scope.isCoroutine=false)(n:scope.isGenerator=false)
  (i:∀u,bindArgs (kla_fn name qual d a scope cl F (.ref g) k) ⟨[u],[]⟩=pure [(y,u)])
  (W:∀(s:Ah)(H:Hp)(E:Value->Ah->Prop),PE (qq7 X A N qual scope f (.ref g) cl s H E) a tb)
  (I:Inv X pins σ H s)(R:s.heap.get? f=some (kla_obj name qual d a scope cl F g k))(t:s.heap.CodeRec (.ref g) qual)(P:RelV x u)(U:tb (qg5 js σ x) H Q) :
  wpAny (model X.prog X.w) A (call (.ref f) [u]) (EP X pins σ Q) E s:=by
 refine CQ (kla_callFunE h R Z D n Z t ?_);rw[i u];refine A1 (wpAny_newFunctionEnv nm.nocell (λz hz=>?_) (λG C B=>?_) nm.kind)
 .rw[Ao.mp hz];exact p
 have j:∀b o,s.heap.get? b=some o->G.get? b=some o:=λb o e=>B.extBut b o (AI (Az e)) (Aj _ e);refine⟨(I.nolimit).keeps j,?_⟩;show codeAny _ _ (.expr a (envX qual scope s.heap.objs.size f (.ref g) cl)) _ _;refine kla_codeExpr ?_;refine BQ (W s H _ [] _ (qg5 js σ x) H Q (qsv K O nm l m S hd V T p I P C j) U) (λv s' z=>?_) λ_ _ z=>z;obtain⟨M,L,J,r,q⟩:=z;exact I.after ⟨M,L,J.os,J.bare,J.base,J.hok,r,q⟩
end
structure LamF (mg:Str->Option Value)(base:Heap)(c Pt:Addr):Prop where
 hd:CodeHd base c Pt
 bm:∃bm ob,mg "__builtins__"=some (.ref bm)/\bm≠builtinsNs/\bm≠AD/\base.get? bm=some ob/\ob.cls=.type "module" /\ ob.dict=some builtinsNs/\ob.data=.plain
section
variable {fs ex:List Addr}{H:Hp}{h h':Heap}{Pt:Addr}{ps qa4:Array Value}{prog:AH}{w:World}
theorem qiu {b:Addr}{u:HO}(a:H Pt=some (.tbl ps))(q:H b=some u)(n:∀z,u ≠ .tbl z):b≠Pt:=λz=>by rw[z,a]at q;exact n _ (A5 q).symm
theorem un_tbl (a:H Pt=some (.tbl ps))(k:∀b o,b≠Pt->h.get? b=some o->h'.get? b=some o)(e:h'.get? Pt=some (tabObj (ps++qa4))):Un fs ex H (upd H Pt (.tbl (ps++qa4))) h h':=by
 have ne:∀b,H b=none->b≠Pt:=λb n z=>by rw[z,a]at n;cases n
 refine⟨λb o q n _ _=>k b o (ne b n) q,λb o q n _ _=>⟨o.slots,k b o (ne b n) q⟩,λb o q n _=>by rw[ze (ne b n)];exact n,λb o q _=>?_,λb xs q=>?_,λb o u q=>?_,λb qs q=>?_⟩
 .by_cases z:b=Pt
  .rw[z];exact⟨_,e⟩
  .exact⟨o,k b o z q⟩
 .rw[ze (qiu a q λ_ z=>nomatch z)];exact q
 .rw[ze (qiu a q λ_ z=>nomatch z)];exact q
 .by_cases z:b=Pt
  .rw[z,a]at q;cases q;exact⟨qa4,by rw[z,qu]⟩
  .exact⟨#[],by rw[ze z,q];simp⟩
theorem qxi (hk:HOk prog w H h)(a:H Pt=some (.tbl ps))(k:∀b o,b≠Pt->h.get? b=some o->h'.get? b=some o)(e:h'.get? Pt=some (tabObj (ps++qa4))):HOk prog w (upd H Pt (.tbl (ps++qa4))) h':=λb u q=>by
 by_cases z:b=Pt
 .subst z;rw[qu]at q;cases q;exact e
 .rw[ze z]at q;refine(hk b u q).stay (λc v d r=>k c v ?_ r) (λc r=>?_) λc xs r=>?_
  .rcases d with rfl|d
   .exact z
   .exact qiu a d λ_ z=>nomatch z
  .rw[ze (qiu a r λ_ z=>nomatch z)];exact r
  .rw[ze (qiu a r λ_ z=>nomatch z)];exact r
end
section
variable {X:Cx}{scope:Scope}{cl:List (Str×Addr)}{E:Value->Ah->Prop}{pins:List (Addr×Obj)}{σ:L2.St}{H:Hp}{s:Ah}
theorem qu7 {c g:Addr}{ps:Array Value}{a:Arguments}{h:Expr}{pos:Pos}{Q:Value->Ah->Prop}(I:Inv X pins σ H s)(L:LamF X.mg X.base c g)(O:X.env.code=.ref c)(C:H g=some (.tbl ps))(ht:TriplesOk ps.toList)(W:codeAmong pos ps.toList=none)
  (F:defaultsOf a X.env=([],[]))(hcl:closureFor scope X.env=pure cl)
  (k:∀(f d:Addr)(x:Obj)(pm i:Value)(qa4:Array Value)(G:Ah),Inv X (pins++[(f,kla_obj "<lambda>" (X.env.qual ++ "<lambda>") a h scope cl pm d i),(d,x)]) σ (upd H g (.tbl (ps++qa4))) G->G.heap.CodeRec (.ref d) (X.env.qual ++ "<lambda>")->Q (.ref f) G) :
  wpAny (model X.prog X.w) X.A (eval (.Lambda a h scope pos) X.env) Q E s:=by
 have m:s.heap.get? g=some (tabObj ps):=I.hok g _ C;have Y:s.heap.Ns AD X.mg:=I.ok.mod.glob.keeps I.bk;have P:AD≠g:=λq=>by obtain⟨o,es,ep,e,hd,_⟩:=Y;rw[q,m]at e;cases e;cases hd
 obtain⟨bm,ob,b1,b2,b3,b4,U,b6,b7⟩:=L.bm;have r:=I.bk _ _ b4;have M:bm≠g:=λq=>by rw[q,m]at r;cases r;cases U
 refine kla_eval F (kla_makeFunction (mg:=X.mg) hcl I.ok.glob Y O (L.hd.keeps I.bk) m ht W P ⟨bm,ob,b1,b2,b3,M,r,U,b6,b7⟩ λd i h' tk hx l R D J=>?_);have y:∀b o,b≠g->s.heap.get? b=some o->(h'.push (kla_obj "<lambda>" (X.env.qual ++ "<lambda>") a h scope cl ((X.mg "__name__").getD .none) d i)).get? b=some o:=λb o n e=>Aj _ (hx b o n e);have tb:=Aj (kla_obj "<lambda>" (X.env.qual ++ "<lambda>") a h scope cl ((X.mg "__name__").getD .none) d i) J;have K:Inv X pins σ (upd H g (.tbl (ps ++ #[rawInt pos.line,rawInt pos.col,.ref d]))) {s with heap:=h'.push (kla_obj "<lambda>" (X.env.qual ++ "<lambda>") a h scope cl ((X.mg "__name__").getD .none) d i),toks:=tk}:=I.un (un_tbl C y tb) (qxi I.hok C y tb);obtain⟨c2,x,vs,t,e2,B,hd,hv⟩:=id D;cases e2;have S:=I.lt;have u:s.heap.objs.size<=h'.objs.size:=Nat.le_of_lt (Da l R);have N:g<s.heap.objs.size:=Az m;have T:∀b,s.heap.objs.size<=b->upd H g (.tbl (ps ++ #[rawInt pos.line,rawInt pos.col,.ref d])) b=none:=λb V=>by rw[ze (BV (AC N V))];exact I.hok.fresh V
 refine k h'.objs.size d x ((X.mg "__name__").getD .none) i _ _ (K.pins_of λp j=>?_) ?_
 .rcases A9.mp j with j|j
  .exact K.pin p (Ay _ j)
  .rcases Ap.mp j with rfl|j
   .exact⟨A3 _ Z,T _ u,BV (AC S u),I.nofs u,λ_ z=>nomatch z⟩
   .rw[Ao.mp j];exact⟨Aj _ B,T _ l,BV (AC S l),I.nofs l,λv z=>by rw[hd]at z;cases z⟩
 .exact⟨d,x,vs,t,Z,Aj _ B,hd,hv⟩
end
section
variable {X:Cx}{A:AQ}{E:Value->Ah->Prop}{pins:List (Addr×Obj)}{σ:L2.St}{H:Hp}{s:Ah}
theorem qsw {a:Addr}{o:HO}(I:Inv X pins σ H s)(t:H a=none)(A:X.s₀.heap.objs.size<=a)(l:a≠X.env.locals)(h:∀x c,X.env.cells.lookup x=some c->c≠a)(k:∀p∈X.pn++pins,p.1≠a)(f:ObjOk X.prog X.w (upd H a o) s.heap a o):Inv X pins σ (upd H a o) s:=by
 have ne:∀b u,H b=some u->b≠a:=λb u e z=>by rw[z,t]at e;cases e
 have d:∀b u,H b=some u->upd H a o b=some u:=λb u e=>by rw[ze (ne b u e)];exact e
 refine⟨I.ok,I.os,I.bare,⟨I.base.keep,I.base.slot,λb u e n B=>?_,I.base.there,λb xs e=>d _ _ (I.base.tups b xs e),λb u z e=>d _ _ (I.base.frzs b u z e),λb ps e=>?_⟩,I.loc,I.cell,?_,λx c e=>?_,λp g=>?_,λb u e=>?_,I.len⟩
 .rw[ze (AI (AC (Az e) A))];exact I.base.free b u e n B
 .obtain⟨m,q⟩:=I.base.tbls b ps e;exact⟨m,d _ _ q⟩
 .rw[ze l.symm];exact I.free
 .rw[ze (h x c e)];exact I.freeC x c e
 .obtain⟨y,i,j⟩:=I.pin p g;exact⟨y,by rw[ze (k p g)];exact i,j⟩
 .by_cases z:b=a
  .subst z;rw[qu]at e;cases e;exact f
  .rw[ze z]at e;exact(I.hok b u e).stay (λc v _ r=>r) (λc r=>d _ _ r) λc xs r=>d _ _ r
theorem kset {a:Addr}{ks ks':List V}{g:Array Value->Array Value}{Q:Unit->Ah->Prop}(I:Inv X pins σ H s)(h:H a=some (.lst ks))(hl:ks'.length<=Au)(i:∀its:List Value,Vals ks its->Vals ks' (g its.toArray).toList)
  (k:∀s',Inv X pins σ (upd H a (.lst ks')) s'->Q () s'):wpAny (model X.prog X.w) A (AX.List.listUpdate (.ref a) g) Q E s:=by
 obtain⟨z,its,n,r,e⟩:=(show ObjOk X.prog X.w H s.heap a (.lst ks) from I.hok a _ h);have c:=i its r;have sz:(g its.toArray).size<=Au:=by
  have e1:ks'.length=(g its.toArray).size:=by rw[c.length,AO]
  lia
 refine listUpdate_at (o:=seqObj "list" its.toArray n) e rfl ?_ (by rw[An,<- r.length];exact z) (Nat.le_succ_of_le sz);obtain⟨c2,hc2⟩:∃c2,(s.heap.update a (BL g)).get? a=some (seqObj "list" (g its.toArray) c2):=⟨_,get?_update_seq e g⟩;have d:=BU.update s.heap a (BL g);refine k _ (I.write (x:=a) (e:=a) (t':=s.toks) (by rw[h];trivial) (.inl Z) (λb u f q=>(d.2 b f).trans q) ⟨_,hc2⟩ ⟨hl,(g its.toArray).toList,c2,c,by rw[hc2,Array.toArray_toList]⟩)
end
theorem qsx {ps:List (Int×Value)}{e:List (Int×Value)}(p:ps.Perm e):∀{c:List (Int×V)},CZ (λ(x:Int×V)(y:Int×Value)=>x.1=y.1/\RelV x.2 y.2) c e->∃d:List (Int×V),d.Perm c/\CZ (λ(x:Int×V)(y:Int×Value)=>x.1=y.1/\RelV x.2 y.2) d ps:=by
 induction p with
 |nil=>intro c h;cases h;exact⟨[],.refl _,.nil⟩
 |cons y _ ih =>
  intro c h;cases h with
  |cons r t =>obtain⟨d,a,b⟩:=ih t;exact⟨_::d,a.cons _,.cons r b⟩
 |swap y z l =>
  intro c h;cases h with
  |cons r t =>
   cases t with|cons r2 t2=>exact⟨_,.swap _ _ _,.cons r2 (.cons r t2)⟩
 |trans _ _ ih1 ih2 =>intro c h;obtain⟨q1,f,g⟩:=ih2 h;obtain⟨i,k,j⟩:=ih1 g;exact⟨i,k.trans f,j⟩
theorem qkl:∀{kz:List Int}{xs:List V}{vs:List Value},Vals xs vs->CZ (λ(x:Int×V)(y:Int×Value)=>x.1=y.1/\RelV x.2 y.2) (kz.zip xs) (kz.zip vs)
 | [],_,_,_=>by simp;exact .nil
 |_::_,_,_,.nil=>.nil
 |_::kz,_,_,.cons r t=>.cons ⟨Z,r⟩ (qkl (kz:=kz) t)
theorem qhh:∀{a:List (Int×V)}{ps:List (Int×Value)},CZ (λ(x:Int×V)(y:Int×Value)=>x.1=y.1/\RelV x.2 y.2) a ps->Vals (a.map Prod.snd) (ps.map Prod.snd)/\a.map Prod.fst=ps.map Prod.fst
 |_,_,.nil=>⟨.nil,Z⟩
 |_,_,.cons r t=>⟨.cons r.2 (qhh t).1,by rw[At,At,r.1,(qhh t).2]⟩
theorem qh2:∀{kz:List Int}{its:List Value},Vals (kz.map V.int) its->IntsAre its kz
 | [],_,.nil=>.nil
 |k::kz,_,.cons r t=>by obtain⟨u,rfl⟩:=r;exact .cons k u (qh2 t)
def qu8 (tb:V->Hp->VK->Prop)(xs:List V)(H:Hp)(Q:VK):Prop:=∀kS,H kS=none->∃W:Nat->Hp->Prop,W 0 (upd H kS (.lst [])) /\
 (∀i x H',xs[i]?=some x->W i H'->tb x H' λv H2=>∃ks,H2 kS=some (.lst ks)/\ks.length<Au/\W (i+1) (upd H2 kS (.lst (ks++[v])))) /\
 ∀H',W xs.length H'->∃kz:List Int,H' kS=some (.lst (kz.map V.int))/\kz.length=xs.length/\∀(qs:List (Int×V))(q:Addr),qs.Perm (kz.zip xs)->qs.Pairwise (λa b=>a.1<=b.1)->H' q=none->Q (.ref q) (upd (upd H' kS (.lst [])) q (.lst (qs.map Prod.snd)))
section
variable {X:Cx}{A:AQ}{E:Value->Ah->Prop}{pins:List (Addr×Obj)}{σ:L2.St}{H:Hp}{s:Ah}
theorem qsy {a:Addr}{n:Nat}{vs:List Value}{xs:List V}{f:Value}{tb:V->Hp->VK->Prop}{Q:VK}{P:PySem.Fin->Ah->Prop}(I:Inv X pins σ H s)(rv:Vals xs vs)(T:s.heap.get? a=some (seqObj "list" vs.toArray n))(U:H a=none)(G:X.s₀.heap.objs.size<=a)(C:a≠X.env.locals)(ah:a∉X.fs)
  (R:∀x c,X.env.cells.lookup x=some c->c≠a)(J:∀p∈X.pn++pins,p.1≠a)(ak:vs.length<64)
  (hk:∀(m:List (Addr×Obj))(k:Ah)(g:Hp)(x:V)(u:Value)(Q':VK),(∀p∈pins,p∈m)->Inv X m σ g k->RelV x u->tb x g Q'->wpAny (model X.prog X.w) A (call f [u]) (EP X m σ Q') (λ_ _=>False) k)
  (hq:qu8 tb xs H Q)(aq:∀k,EP X pins σ Q (.ref a) k->P (.done (.ret .none)) k):wpAny (model X.prog X.w) A (ksk_tree a f false) P E s:=by
 have O:xs.length=vs.length:=rv.length;have halt:a<s.heap.objs.size:=Az T;have s1:=BU.update s.heap a (BL λ_=>(#[]:Array Value));obtain⟨e1,ho1⟩:∃e1,(s.heap.update a (BL λ_=>(#[]:Array Value))).get? a=some (seqObj "list" #[] e1):=⟨_,get?_update_seq T λ_=>#[]⟩;unfold ksk_tree;refine Ad (listItems_at T Z ?_);refine Ad (listUpdate_at T Z ?_ (by rw[An,Bd];lia) (Bj _));refine Ad (seqEpoch_at ho1 Z ?_);refine Ad (wpAny_newTuple ?_ (by show vs.length<=_;rw[Bd];lia));have I1:Inv X pins σ H {s with heap:=s.heap.update a (BL λ_=>(#[]:Array Value))}:=I.turned (t':=s.toks) (it:=a) (λb o hb e=>(s1.2 b hb).trans e) U C (.inr G) R J;have I2:Inv X pins σ H {s with heap:=(s.heap.update a (BL λ_=>(#[]:Array Value))).push (seqObj "tuple" vs.toArray 0)}:=I1.kept (t':=s.toks) λb u e=>Aj _ e;have I3:Inv X (pins++[(a,seqObj "list" #[] e1)]) σ H {s with heap:=(s.heap.update a (BL λ_=>(#[]:Array Value))).push (seqObj "tuple" vs.toArray 0)}:=I2.pins_of λp d=>by
  rcases A9.mp d with d|d
  .exact I2.pin p (Ay _ d)
  .rw[Ao.mp d];exact⟨Aj _ ho1,U,C,ah,λ_ z=>nomatch z⟩
 clear I1 I2;generalize hs2:({s with heap:=(s.heap.update a (BL λ_=>(#[]:Array Value))).push (seqObj "tuple" vs.toArray 0)}:Ah)=s2 at I3 |-;refine Ad (wpAny_newList ?_ (Bj _));refine BR ?_;have af:H s2.heap.objs.size=none:=I3.hok.fresh (Ax _);obtain⟨W,w0,M,done⟩:=hq s2.heap.objs.size af;have I4:=I3.lnew (ys:=[]) (its:=[]) (t':=s2.toks) .nil (Bj _);generalize hkS:s2.heap.objs.size=kS at w0 M done I4 |-;unfold ksk_rest;refine Ad (wpAny_rule ?_);first
  |rw[List.forIn_toArray]
  | (rw[<- Array.forIn_toList];simp only[Dy])
  |rw[<- Array.forIn_toList]
 refine Ad (ksk_fold (λi k=>∃g,Inv X (pins++[(a,seqObj "list" #[] e1)]) σ g k/\W i g) vs 0 _ ⟨_,I4,w0⟩ ?step ?done)
 case step =>
  rintro j u k hu ⟨g,F,K⟩;simp only[CO]at K |-;have hj:j<xs.length:=by rw[O];exact(Ac.mp hu).1
  obtain⟨x,hx⟩:∃x,xs[j]?=some x:=⟨_,Ae hj⟩;obtain⟨u',Y,rx⟩:=rv.get hx;rw[hu]at Y;cases Y;refine Ad (wpAny_attempt (BQ (hk _ k g x u _ (λp d=>B7 _ d) F rx (M j x g hx K)) (λv ar he=>?_) λ_ _ hF=>hF.elim));obtain⟨v',H2,I5,r5,ks,h5,l5,w5⟩:=he;dsimp only;refine Ad (kset I5 h5 (ks':=ks++[v']) (by rw[Ai];exact l5) (λits q=>?_) λr N=>A1 ⟨Z,_,N,w5⟩);rw[show (its.toArray.push v).toList=its++[v] by simp];exact q.append (.cons r5 .nil)
 case done =>
  rintro k ⟨g,F,K⟩;rw[CO,<- O]at K;obtain⟨kz,hz,lz,ac⟩:=done g K;obtain⟨_,its,nn,q,e5⟩:=(show ObjOk X.prog X.w g k.heap kS (.lst (kz.map V.int)) from F.hok kS _ hz);refine Ad (listItems_at (o:=seqObj "list" its.toArray nn) e5 Z ?_);have y:IntsAre its.toArray.toList kz:=by rw[Dy];exact qh2 q
  have hsz:its.toArray.size=vs.length:=by have h1:=y.length;rw[AO]at h1;lia
  have B:(its.toArray.zip vs.toArray).size=vs.length:=by rw[Array.size_zip,hsz,An,Nat.min_self]
  have L:∀st:SortSt,(arrOf st).Perm (its.toArray.zip vs.toArray)->SortedTo (arrOf st) (arrOf st).size->failedOf st=none->wpAny (model X.prog X.w) A (ksk_tail a false e1 (.ref kS) st) P E k:=by
   intro st d hs au;have ao:=F.pin (a,seqObj "list" #[] e1) (Ay _ (Ay _ (Ao.mpr Z)));have ad:(arrOf st).size=vs.length:=by rw[d.size_eq];exact B
   unfold ksk_tail;dsimp only;refine Ad (kset F hz (ks':=[]) (Bj _) (λ_ _=>.nil) λr N=>?_);refine Ad (wpAny_letGo ?_);have t:=N.pin (a,seqObj "list" #[] e1) (Ay _ (Ay _ (Ao.mpr Z)));refine Ad (seqEpoch_at t.1 Z ?_);refine Ad (listUpdate_at t.1 Z ?_ (Bj _) (by rw[if_neg En,Array.size_map,ad,Bd];lia));rw[au];simp only[bne_self_eq_false,Db,if_false];obtain⟨ps,p1,p2,p3⟩:=ksk_out (b:=false) y d hs;obtain⟨S,q1,q2⟩:=qsx p1 (qkl (kz:=kz) rv);obtain⟨q3,q4⟩:=qhh q2;have pw:S.Pairwise λa b=>a.1<=b.1:=by have aa:(ps.map Prod.fst).Pairwise (· <= ·):=BP.mpr (p3.imp λh=>by simpa using h);rw[<- q4]at aa;exact BP.mp aa
   have a0:upd g kS (.lst []) a=none:=t.2.1;have am:g a=none:=ao.2.1;have s7:=BU.update r.heap a (BL λ_=>(arrOf st).map (·.2));obtain⟨c2,hc2⟩:∃c2,(r.heap.update a (BL λ_=>(arrOf st).map (·.2))).get? a=some (seqObj "list" ((arrOf st).map (·.2)) c2):=⟨_,get?_update_seq t.1 λ_=>(arrOf st).map (·.2)⟩;have J6:Inv X pins σ (upd g kS (.lst [])) r:=N.pins_of λp d=>N.pin p (Ay _ (B7 _ d));have I7:Inv X pins σ (upd g kS (.lst [])) {r with heap:=r.heap.update a (BL λ_=>(arrOf st).map (·.2))}:=J6.turned (t':=r.toks) (it:=a) (λb o hb e=>(s7.2 b hb).trans e) a0 C (.inr G) R J;have ll:(S.map Prod.snd).length=vs.length:=by rw[Ab,q1.length_eq,List.length_zip];lia
   refine A1 (aq _ ⟨.ref a,_,qsw (o:=.lst (S.map Prod.snd)) I7 a0 G C R J ⟨by rw[ll,Bd];lia,((arrOf st).map (·.2)).toList,c2,?_,by rw[hc2,Array.toArray_toList]⟩,Z,ac S a q1 pw am⟩);have ae:((arrOf st).map (·.2)).toList=ps.map Prod.snd:=by simpa using p2
   rw[ae];exact q3
  unfold ksk_end;dsimp only;rw[if_neg (by decide:¬(false=true))];by_cases D:vs.toArray.size<2
  .rw[if_pos D,if_pos D];refine Ad (A1 ?_);rw[StateT.run_pure];refine Ad (A1 ?_);dsimp only;refine L (SortSt.mk' general' (its.toArray.zip vs.toArray) #[] 7 none) (Array.Perm.refl _) (λi j hij hj=>?_) rfl;have ag:j<(its.toArray.zip vs.toArray).size:=hj;rw[B]at ag;rw[An]at D;have:i=j:=by lia
   subst this;exact Int.le_refl _
  .rw[if_neg D,if_neg D];rw[An]at D;rw[ksk_kind y (by rw[hsz];lia)];refine Ad (A1 ?_);refine Ad (BQ (wpS_sortRuns (a₀:=its.toArray.zip vs.toArray) (st:=SortSt.mk' oneType' (its.toArray.zip vs.toArray) #[] 7 none)
    (Q:=λ_ l=>(arrOf l).Perm (its.toArray.zip vs.toArray)/\failedOf l=none/\SortedTo (arrOf l) (its.toArray.zip vs.toArray).size)
    (ksk_intKeys y) ⟨Array.Perm.refl _,Z,Z,Z⟩ (by rw[B];lia) (by rw[B];exact ak) λl a1 a2 a3=>⟨a1,a2,a3⟩) ?_ λ_ _ e=>e)
   rintro⟨⟨⟩,l⟩ ar ⟨rfl,d,hf,hs⟩;dsimp only;exact L l d (by rw[d.size_eq];exact hs) hf
end
end Lam
namespace Lam
open PySem PySem.Spec PySem.Calls PyProof.Rows L2 Add PySem.W
section
variable {prog:AH}{w:World}{A:AQ}{E:Value->Ah->Prop}{s:Ah}
theorem qlq {Q:List Value->Ah->Prop}{r:Addr}{a b:Int}{t u v:Tok}{n:Nat}(p:A.handled=none)(k:IsRange s.heap r a b 1 t u v)(d:AX.Range.small a b 1=true)(q:AX.Range.rangeSize a b 1=n)(f:n<=2 ^ 24)
  (h:∀h' tk c,(∀b o,s.heap.get? b=some o->h'.get? b=some o)->ItemsOf (λi v=>∃t,v=.int (a+i*1) t) c n->Q c.toList {s with heap:=h',toks:=tk}):wpAny (model prog w) A (collect (.ref r)) Q E s:=by
 unfold collect;refine Ad (wpAny_runValue (codeAny_builtin F.entry_proto_collect ?_));rw[AQ.under_plainId F.plain_proto_collect _];show wpAny _ A.in1 (newList [] >>= λl=>again (.builtin "list.__iadd__" ⟨[l,.ref r],[]⟩)) _ _ s;refine Ad (Dm ?_);refine A1 ⟨plainId_quiet F.plain_list_iadd _,codeAny_builtin F.entry_list_iadd ?_⟩;rw[AQ.under_plainId F.plain_list_iadd _];show wpAny _ A.in1 (AX.List.listExtendWith (.ref s.heap.objs.size) (.ref r) (.ref s.heap.objs.size)) _ _ _;refine wpAny_extend_range (R:=λr j=>match r with
  |.ok (.ret v)=>wpAny (model prog w) A (match v with
   |.ref a=>do match (<- load a).data with
    |.seq xs _=>pure xs.toList
    |_=>unsupported "internal:collect"
   |_=>unsupported "internal:collect") Q E j
  |.ok _=>False
  |.error e=>E e j) (s:={s with heap:=s.heap.push {cls:=.type "list",data:=.seq ([]:List Value).toArray} }) p (Aj _ k) d q f s.heap.objs.size (.ref s.heap.objs.size) 0 (A3 _ Z) λh' tk c c' hk m g=>?_
 show wpAny _ A (load s.heap.objs.size >>= _) _ _ _;refine Ad (wpAny_load m ?_);exact A1 (h h' tk c (λb o e=>hk b o (AI (Az e)) (Aj _ e)) g)
end
section
variable {X:Cx}
theorem call_rangeV:qek X (.type "range") (λxs H Q=>∃j:Int,xs=[.int j]/\∀r,H r=none->Q (.ref r) (upd H r (.rng 0 j))):=by
 intro pins s σ H xs us Q I c h;obtain⟨j,rfl,h⟩:=h;cases c with
 |cons r rr =>cases rr;obtain⟨t,rfl⟩:=r;refine call_range_1 ⟨.ref s.heap.objs.size,_,I.laid (a:=s.heap.objs.size) (o:=.rng 0 j) (λb u e=>Aj _ e) (Ax _) ⟨_,_,_,A3 _ Z⟩,Z,h _ (I.hok.fresh (Ax _))⟩
theorem qpz {a:Array Value}{n:Nat}(h:ItemsOf (λi v=>∃t,v=Value.int ((0:Int)+i*1) t) a n):Vals ((AR n).map λi=>V.int ((i:Nat):Int)) a.toList:=by
 obtain⟨hl,d⟩:=h;have c:∀(vs:List Value)(k:Nat),(∀(i:Nat)(v:Value),vs[i]?=some v->∃t,v=Value.int (((k+i:Nat)):Int) t)->Vals ((List.range' k vs.length).map λi=>V.int ((i:Nat):Int)) vs:=by
  intro vs
  induction vs with
  |nil=>intro k _;exact .nil
  |cons v vs ih =>intro k b;obtain⟨t,e⟩:=b 0 v rfl;rw[Am,List.range'_succ,At];refine .cons ⟨t,by rw[e];rfl⟩ (ih (k+1) λi f h'=>?_);obtain⟨t',j⟩:=b (i+1) f (by simpa using h');exact⟨t',by rw[j,show k+(i+1)=k+1+i by lia]⟩
 have g:=c a.toList 0 λi v b=>by obtain⟨t,e⟩:=d i v (by rw[<- b,Dj]);exact⟨t,by rw[e];congr 1;lia⟩
 rw[AO,hl,<- List.range_eq_range']at g;exact g
def tSL (t:TA)(js:List (Option Nat))(tb:TE)(Pt:Addr)(lpos:Pos):TE:=λσ H Q=>t σ H λvs H1=>∃(r:Addr)(n:Nat),vs=[.ref r]/\H1 r=some (.rng 0 (n:Int))/\n<64/\∃ps,H1 Pt=some (.tbl ps)/\TriplesOk ps.toList/\codeAmong lpos ps.toList=none /\
 ∀qa4,qu8 (λx=>tb (qg5 js σ x)) ((AR n).map λi=>V.int ((i:Nat):Int)) (upd H1 Pt (.tbl (ps++qa4))) Q
theorem pe_sortLam {N XN:List Str}{js:List (Option Nat)}{xs scope:Scope}{y:Str}{e g:Expr}{t:TA}{tb:TE}{d:Arguments}{c K:Addr}{p pos G Y:Pos}(ae:X.calm=true)(hr:Room 2 X.A)(aw:Gl X "sorted")(af:X.mg "sorted"=none)(ha:PA X [e] t)
  (L:LamF X.mg X.base c K)(ag:X.env.code=.ref c)(hN:X.N=XN)(hS:X.env.scope=xs)(hok:qkc N js XN xs scope=true)(h0:N[0]?=some y)(j0:js[0]?=some none)(hy:scope.names.lookup y=some .local)(ay:scope.isCoroutine=false)(ad:scope.isGenerator=false)
  (a0:defaultsOf d X.env=([],[]))(O:∀k B i j u,bindArgs (kla_fn "<lambda>" (X.env.qual ++ "<lambda>") d g scope k B (.ref i) j) ⟨[u],[]⟩=pure [(y,u)])
  (hb:∀(f i:Addr)(k:List (Str×Addr))(s:Ah)(H:Hp)(E:Value->Ah->Prop),PE (qq7 X X.A.in1.in1 N (X.env.qual ++ "<lambda>") scope f (.ref i) k s H E) g tb)
  (he:backTo pos (starEach [e] X.env)=(false,eval e X.env)::backTo pos (starEach [] X.env):=by rfl)(hpl:(backTo pos (starEach [e] X.env)).any (·.1)=false:=by rfl) :
  PE X (.Call (.Name "sorted" p) [e] [⟨some "key",.Lambda d g scope G,Y⟩] pos) (tSL t js tb K G):=by
 intro l s σ H Q I h;have nm:=qis hok;refine B1 (qey I aw af Add.boot_sorted ?_);refine PyProof.Rows.callWith_kw (thn (ha pos l s σ H _ I h) λus s1 ⟨vs,W,I1,r1,q1⟩=>?_) he hpl;obtain⟨r,n,rfl,P,aq,ps,hP,ht,ax,q⟩:=q1;cases r1 with
 |cons ra rb =>
  cases rb;cases ra;obtain⟨k,hcl,c1,c2⟩:=qhd (env:=X.env) (scope:=scope) λx hx e=>I.ok.has x.1 (by
   rcases nm.clos x hx e with q|q
   .exact .inl (by show X.env.scope.names.lookup _=_;rw[hS];exact q)
   .exact .inr (by show X.env.scope.names.lookup _=_;rw[hS];exact q))
  show wpAny _ _ (evalAll ((do let v <- eval (.Lambda d g scope G) X.env;standAt pos;pure v)::[])) _ _ s1;refine wpAny_evalAll_cons (Ad (qu7 I1 L ag hP ht ax a0 hcl λf i F B j qa4 V M U=>Ad (Df (A1 ?_))));refine wpAny_evalAll_nil ?_;have q:=q qa4;have ao:∀p∈l,p∈l++[(f,kla_obj "<lambda>" (X.env.qual ++ "<lambda>") d g scope k B i j),(i,F)]:=λp C=>B7 _ C;have pf:=M.pin (f,kla_obj "<lambda>" (X.env.qual ++ "<lambda>") d g scope k B i j) (Ay _ (Ay _ Ak));have pc:=M.pin (i,F) (Ay _ (Ay _ (Aq _ Ak)));obtain⟨c2',am,au,ot,e2,bb,ak,ah⟩:=U;cases e2;have eo:F=am:=by have:=pc.1;rw[bb]at this;exact(A5 this).symm
  subst eo;have ac:upd W K (.tbl (ps++qa4)) r=some (.rng 0 (n:Int)):=by rw[ze (qiu hP P λ_ z=>nomatch z)];exact P
  obtain⟨t0,u0,v0,hR⟩:=(show ObjOk X.prog X.w _ V.heap r (.rng 0 (n:Int)) from M.hok r _ ac);have hd:=I.ok.hd ae;refine call_function_entry_kw (kw:=[(Aa "key",.ref f)]) kind_sorted plain_sorted entry_sorted (ksk_s1 _ _) ?_;unfold AX.«sorted»;refine Ad (m:=checkCount "sorted" 1 1 _) (A1 ?_);refine Ad (qlq (n:=n) hd hR (small_one En En (by lia) (by lia)) (by rw[rangeSize_one];split <;>lia) (by lia) λh' tk D hk aa=>?_);have hv:=qpz aa;have R:D.toList.length=n:=by rw[<- hv.length,Ab,Bm]
  have o:Inv X (l++[(f,kla_obj "<lambda>" (X.env.qual ++ "<lambda>") d g scope k B i j),(i,F)]) σ (upd W K (.tbl (ps++qa4))) {V with heap:=h',toks:=tk}:=M.kept hk;generalize hs3:({V with heap:=h',toks:=tk}:Ah)=s3 at o |-;refine Ad (wpAny_newList ?_ (by rw[R,Bd];lia));have I4:Inv X (l++[(f,kla_obj "<lambda>" (X.env.qual ++ "<lambda>") d g scope k B i j),(i,F)]) σ (upd W K (.tbl (ps++qa4))) {s3 with heap:=s3.heap.push (seqObj "list" D.toList.toArray 0)}:=o.kept (t':=s3.toks) λb u e=>Aj _ e;have S:(s3.heap.push (seqObj "list" D.toList.toArray 0)).get? s3.heap.objs.size=some (seqObj "list" D.toList.toArray 0):=A3 _ rfl;have hL:=o.lt;refine Ad (BR (wpAny_call_entry_kw slot_list_sort ⟨_,S,Z⟩ entry_list_sort ?g (ksk_l1 _ _)))
  case g =>
   rw[ksk_t1];refine qsy (tb:=λx=>tb (qg5 js σ x)) (Q:=Q) (s:={s3 with heap:=s3.heap.push (seqObj "list" D.toList.toArray 0)}) I4 hv S (o.hok.fresh (Ax _)) o.sz (BV hL) (o.nofs (Ax _)) (λx c e=>?_) (λp C=>AI (Az (o.pin p C).1)) (by rw[R];exact aq) (λpins' s' H' x u Q' C T rx ar=>?_) q λs' hE=>⟨_,Z,?_⟩
   .obtain⟨v,qc⟩:=o.cell x c e;exact AI qc.lt
   .have mf:=C _ (Ay _ (Ak (a:=(f,kla_obj "<lambda>" (X.env.qual ++ "<lambda>") d g scope k B i j))));have mc:=C (i,F) (Ay _ (Aq _ Ak));refine qu6 (A:=X.A.in1.in1) hN hS nm c1 c2 I.ok.frames hd (hr.in1.in1).depth h0 j0 hy ay ad (O k B i j) (hb f i k) T (T.pin _ (Ay _ mf)).1 ?_ rx ar;exact⟨i,F,au,ot,Z,(T.pin _ (Ay _ mc)).1,ak,ah⟩
   .obtain⟨v,H',J,rr,qq⟩:=hE;exact A1 ⟨_,Z,v,H',J.pins_of λp C=>J.pin p (Ay _ (ao p C)),rr,qq⟩
end
end Lam
namespace Lam
open PySem PySem.Spec PySem.Calls PyProof.Rows L2 Add PySem.W
section
variable {P:AH}{w:World}{K:Frag}{mg mb:Str->Option Value}{CX:CXT}{k:Nat}{fa a c Pt:Addr}{fd:AF}{x:Str}{sp:Sp}{s₁:Ah}{vs:List Value}{ns:List Int}
noncomputable def hd0 (K:Frag)(a Pt:Addr)(vs:List Value)(ns:List Int):Hp:=λb =>
 if b=Pt then some (.tbl #[]) else if b=a/\K.lookup a=none then some (.frz {cls:=.type "list",data:=.seq vs.toArray} (.lst (ns.map V.int))) else none
theorem qxj (X:K.In s₁.heap)(E:s₁.heap.Ns AD mg)(hb:s₁.heap.Ns builtinsNs mb)(T:∀x:Str,x ≠ "__name__" -> mb x=bootBuiltins x)(L:s₁.heap.NoLimit)(hg:s₁.gens=#[])
  (g:s₁.heap.get? a=some {cls:=.type "list",data:=.seq vs.toArray})(hi:IntsAre vs ns)(hl:ns.length<=Au)(hr:Room k callerA)
  (hC:CodeHd s₁.heap c Pt)(hPt:s₁.heap.get? Pt=some (tabObj #[]))(hKP:K.lookup Pt=none)
  (hbm:∃y t,mg "__builtins__"=some (.ref y)/\y≠builtinsNs/\y≠AD/\s₁.heap.get? y=some t/\t.cls=.type "module" /\ t.dict=some builtinsNs/\t.data=.plain)
  (F:∀base:Heap,K.In base->base.Ns AD mg->LamF mg base c Pt->FnOk P w K mg base CX k fa fd [x] sp)(hbind:∀(s:Ah)(u:Value),BindsTo s fd ⟨[u],[]⟩ [(x,u)])
  (hsp:∀H:Hp,H Pt=some (.tbl #[])->SqL K H a (ns.map V.int)->sp [.ref a] H (λv _=>v=.bl true) λ_ _ _=>False)
  (hCX:∀H e i,CX [] H s₁ (λ_ _ _=>False) e i->False) :
  codeAny (model P w) callerA (.call (.ref fa) ⟨[.ref a],[]⟩) (λr i=>r=.ok (.ret (.bool true))/\OldK s₁.heap i.heap/\i.os=s₁.os/\AllBare i.gens) s₁:=by
 have Y:=ql1 hi;have M:=hi.length;have S:a≠Pt:=λz=>by rw[z,hPt]at g;cases g
 have l:hd0 K a Pt vs ns Pt=some (.tbl #[]):=if_pos rfl;have only:∀b,hd0 K a Pt vs ns b≠none->b=Pt\/(b=a/\K.lookup a=none):=λb z=>by
  by_cases e:b=Pt
  .exact .inl e
  .by_cases f:b=a/\K.lookup a=none
   .exact .inr f
   .exact absurd (by unfold hd0;rw[if_neg e,if_neg f]) z
 have p:K.lookup a=none->hd0 K a Pt vs ns a=some (.frz {cls:=.type "list",data:=.seq vs.toArray} (.lst (ns.map V.int))):=λz=>by unfold hd0;rw[if_neg S,if_pos ⟨Z,z⟩]
 generalize hd0 K a Pt vs ns=H at l only p;have O:HOk P w H s₁.heap:=λb u e=>by
  rcases only b (by rw[e];simp) with rfl|⟨rfl,hk⟩
  .rw[l]at e;cases e;exact hPt
  .rw[p hk]at e;cases e;exact⟨g,by rw[Ab];exact hl,vs,_,Y,g⟩
 have un:∀{b:Addr}{o:Obj},s₁.heap.get? b=some o->o.cls ≠ .none->b≠a->H b=none:=λ{b o} e hc R=>by
  cases q:H b with
  |none=>rfl
  |some u =>
   rcases only b (by rw[q];simp) with rfl|⟨z,_⟩
   .rw[hPt]at e;cases e;exact absurd rfl hc
   .exact absurd z R
 have U:∀{b:Addr}{o:Obj}{B:Array DictEntry}{ep:Nat},s₁.heap.get? b=some o->o.data=.dict B ep->H b=none:=λ{b o B ep} e d=>by
  cases q:H b with
  |none=>rfl
  |some u =>
   rcases only b (by rw[q];simp) with rfl|⟨rfl,_⟩
   .rw[hPt]at e;cases e;cases d
   .rw[g]at e;cases e;cases d
 have n:∀{b:Addr}{m:Str->Option Value},s₁.heap.Ns b m->(qmo s₁.heap H).Ns b m:=λ{b m} ⟨o,B,ep,e,d,r⟩=>⟨o,B,ep,qhv e (U e d),d,r⟩;have kin:K.In (qmo s₁.heap H):=λb o e=>qhv (X b o e) (by
  cases q:H b with
  |none=>rfl
  |some u =>
   rcases only b (by rw[q];simp) with rfl|⟨rfl,hk⟩
   .rw[hKP]at e;cases e
   .rw[hk]at e;cases e)
 have md:Mod K mg (qmo s₁.heap H):=⟨kin,n E,⟨mb,n hb,T⟩,by obtain⟨mc,h1,h2⟩:=L;exact⟨mc,n h1,h2⟩⟩;have lf:LamF mg (qmo s₁.heap H) c Pt:=by
  refine⟨?_,?_⟩
  .obtain⟨o,ws,I,tf,C,tg,Q,J,tt,e,f,r⟩:=hC;refine⟨o,ws,I,tf,C,tg,Q,J,tt,qhv e (un e (by rw[f];exact λz=>nomatch z) λz=>?_),f,r⟩;rw[z,g]at e;cases e;exact absurd (CY.inj f) En
  .obtain⟨y,t,b1,b2,b3,D,N,b6⟩:=hbm;refine⟨y,t,b1,b2,b3,qhv D (un D (by rw[N];exact λz=>nomatch z) λz=>?_),N,b6⟩;rw[z,g]at D;cases D;exact absurd (CY.inj N) En
 have sq:SqL K H a (ns.map V.int):=by
  cases hk:K.lookup a with|none=>exact .inl (.inr ⟨_,p hk⟩)|some o =>have e:=X a o hk;rw[g]at e;cases e;exact .inr ⟨_,vs.toArray,_,hk,Z,Z,Z,by rw[An,M];exact hl,by simpa using Y⟩
 have e0:Env0 P w K mg (qmo s₁.heap H) callerA [] s₁ H:=⟨Z,md,λb o e=>qwj e,Cn (qru _ _),trivial,λb z=>absurd (show b∈([]:List Addr) from z) (by simp),O,.of_eq hg⟩;refine CM ((F _ kin (n E) lf).run callerA [] s₁ H ⟨[.ref a],[]⟩ [.ref a] [.ref a] _ _ hr e0 (hbind s₁ (.ref a)) (.cons Z .nil) (hsp H l sq)) λr i h=>?_
 match r,h with
 |.error e,h=>exact(hCX H e i h).elim
 |.ok .next,h=>exact Br h
 |.ok .brk,h=>exact Br h
 |.ok .cont,h=>exact Br h
 |.ok (.ret u),h =>
  obtain⟨v,H',os,G,j,A,r',q⟩:=h;cases (show v=.bl true from q);cases (show u=Value.bool true from r');refine⟨Z,⟨λb o e=>?_,λb o e=>j.there b o e (by simp)⟩,os,G⟩;by_cases W:H b=none
  .exact .inl (j.keep b o e W (λz=>absurd (show b∈([]:List Addr) from z) (by simp)) (by simp))
  .rcases only b W with rfl|⟨rfl,hk⟩
   .obtain⟨qa4,f⟩:=j.tbls b _ l;have e3:i.heap.get? b=some (tabObj (#[]++qa4)):=A b _ f;rw[hPt]at e;cases e;exact .inr (.inl ⟨(hC.tab hPt).isCodeTable,Z,#[],qa4,Z,e3⟩)
   .have f:=j.frzs b _ _ (p hk);rw[g]at e;cases e;exact .inl (A b _ f).1
end
theorem walk_tab {l:OpenLaw}{n k:Nat}{q:AH}{p:List Str}{XP:(Str->Option Value)->Heap->Prop}{Q:World->Heap->Prop}{d d':DefRec}{K:Params->Frag}{CX:World->CXT}{sp:World->Addr->Sp}{x dn:Str}
  (hn:l.most=some n)(N:n<=Au)(O:d.params.defaults=[])(hr:Room k callerA)(y:(recsOf q).find? (λe=>e.name == dn)=some d')
  (hY:∀(w:World)(h:Heap),Q w h->(K w.params).In h)
  (F:∀(w:World)(mg:Str->Option Value)(t:Addr)(h:Heap),(K w.params).In h->h.Ns AD mg->mg d.name=some (.ref t) ->
   ∃(B:AF)(c i:Addr),(∀(s:Ah)(u:Value),BindsTo s B ⟨[u],[]⟩ [(x,u)])/\tabIn (K w.params) dn=some (c,i)/\(K w.params).lookup i=none /\
    ∀base:Heap,(K w.params).In base->base.Ns AD mg->LamF mg base c i->FnOk l.prog w (K w.params) mg base (CX w) k t B [x] (sp w i))
  (M:∀(w:World)(H:Hp)(a i:Addr)(r:List Int),r.length<=n->H i=some (.tbl #[])->SqL (K w.params) H a (r.map V.int)->sp w i [.ref a] H (λv _=>v=.bl true) λ_ _ _=>False)
  (J:∀(w:World)(H:Hp)(s:Ah)(e:Value)(I:Ah),CX w [] H s (λ_ _ _=>False) e I->False) :
  WalkO q p XP Q l.row.toRowW d [] (λf vs=>PySem.call f vs):=by
 refine Att.attach_call hn O λw s₀ W mg mb t o pm cd doc a vs r G Y ho hd hcd P D m j hg=>?_;have A:=hY w _ Y;obtain⟨B,c,i,hb,U,hk,hF⟩:=F w mg t _ A G.T.g P;obtain⟨hC,S⟩:=tab_of G.T A y U;obtain⟨R,ob,b1,X,C,b4,b5,E⟩:=G.T.bmain;have L:R≠AD:=λz=>by obtain⟨u,es,ep,e,dd,_⟩:=G.T.g;rw[z,e]at C;cases C;rw[dd]at E;cases E
 exact qxj A G.T.g G.T.b G.T.builtins G.T.nolimit hg D m (A2 j N) hr hC S hk ⟨R,ob,b1,X,L,C,b4,b5,E⟩ hF hb (λH hP hS=>M w H a i r j hP hS) λH e I=>J w H W e I
end Lam
namespace Lam
open PySem PySem.Spec PySem.Calls PyProof.Rows L2 Add PySem.W
theorem okT {P:AH}{w:World}{K:Frag}{mg:Str->Option Value}{d:Heap}{x b:Str}{st:Stmt}{f c:Addr}{g:AF}{N ps:List Str}{k:Nat}{sp:Sp}(F:Fun K x b st f g)(n:g.code=.ref c)(S:FnScope N ps (qaa st))(len:∀vs H Q E,sp vs H Q E->vs.length=ps.length)
  (e:∀(a:Value),a=.ref c->∀(A:AQ)(outer:List Env)(s:Ah)(H:Hp)(vs:List V)(Q:VK)(E:XK),Room k (A.deeper (envOfC b (qaa st) s.heap.objs.size f a))->sp vs H Q E ->
   ∃t,PSs (qlj CX0 P w K mg d N b (qaa st) f a A outer s H E).nox (qbf st) t/\t {nx:=λ_ l=>Q .non l,rt:=Q} (qe8 N vs) H):FnOk P w K mg d CX0 (k+1) f g ps sp:=by
 obtain⟨oc,od,kV,doc,pm,an,a,ct,osl,rfl,lk,i⟩:=F.ex
 refine qqu lk i S len λA outer s H vs Q E m j=>?_
 obtain⟨t,h,q⟩:=e a n A outer s H vs Q E m j
 exact⟨t,h.nox,q⟩
end Lam
namespace Lam
open PySem PySem.Spec PySem.Calls PyProof.Rows L2 Add PySem.W
noncomputable def gL {α:Type}:List α->List α->List α
 |us,[w]=>us++[w]
 |_,_=>[]
theorem kbL {K:Frag}{a:AF}{ps:List Str}{d:Str}(hp:0<ps.length)(h:∀(us:List Value) (w:Value) (S:Setting),us.length+1=ps.length->peek K S (bindArgs a ⟨us,[(d,w)]⟩)=some (ps.zip (us++[w]))):KBinds K a ps [d] gL gL where
 to:=λs us ws X hl=>by
  match ws,hl with
  | [w],hl=>exact kp_binds X λS=>h us w S (by simpa [gL] using hl)
  | [],hl=>exact absurd hl (by show ¬0=ps.length;lia)
  |_::_::_,hl=>exact absurd hl (by show ¬0=ps.length;lia)
 rel:=λr b=>by
  rcases b with _|⟨c,_|⟨z2,z3⟩⟩
  .exact .nil
  .exact r.append (.cons c .nil)
  .exact .nil
end Lam
namespace Lam
open PySem PySem.Spec PySem.Calls PyProof.Rows L2 Add PySem.W
theorem pe_bmK {X:Cx}{K:Frag}{o e:Expr}{b:List Expr}{f:TE}{t:TA}{name:Str}{c a:Pos}{T id:String}{r:V->List V->Hp->VK->Prop}(m:X.K=K)(j:PlainAttrs T)(d:Slot T name id)(g:typeOf (.builtin id)=pure (.type "method_descriptor"))
  (l:MtR X id r)(k:PE X o f)(h:PA X (e::b) t)(i:attributeBase o name X.env (eval o X.env)=eval o X.env:=by rfl)
  (h2:((backTo a (starEach (e::b) X.env)).all (λx=>!x.1) && (backToKw a (keywordEach [] X.env)).all (λx=>x.1.isSome) && decide ((e::b).length+([]:List Keyword).length+(if ([]:List Keyword).isEmpty then 0 else 1)<30))=true:=by rfl)
  (h3:(c.endLine == a.line)=true:=by rfl)(h4:starEach (e::b) X.env=(false,eval e X.env)::starEach b X.env:=by rfl)(h5:(backTo a (starEach b X.env)).any (·.1)=false:=by rfl) :
  PE X (.Call (.Attribute o name c) (e::b) [] a) (tBM K T r f t):=by
 subst m;exact qbv j d g l k h i h2 h3 h4 h5
end Lam
namespace Lam
open PySem PySem.Spec PySem.Calls PyProof.Rows L2 Add PySem.W
theorem tab_mk {K:Frag}{x:Str}{f c b:Addr}{m i:Value}{e h:Option Addr}{d:AF}{a n:Array (Option Value)}{vs:Array Value}(l:nsIn K AD x=some (some (.ref f)))(j:K.lookup f=some ⟨m,e,.func d,a⟩)(k:d.code=.ref c)(o:K.lookup c=some ⟨i,h,.fields vs,n⟩)(g:vs[11]?=some (.ref b)):tabIn K x=some (c,b):=by unfold tabIn;rw[l];dsimp only;rw[j];dsimp only;rw[k];dsimp only;rw[o];dsimp only;rw[g]
end Lam
namespace Add
open PySem PySem.Spec PyProof.Rows L2
noncomputable def qsz (K:Ag)(C:Addr):Bool:=(AU K (.ref C) "__eq__" == some (some (.builtin "object.__eq__"))) && (D0 K C (.type "object") == some true) && (PySem.W.subIn K (.type "NoneType") (.ref C) == some false)
theorem qxk {M:Model}{A:AQ}{E:Value->Ah->Prop}{x:Addr}{s:Ah}{Q:Fin->Ah->Prop}(a:Q (.done (.ret .notImplemented)) s):wpAny M A (AX.«object.__eq__» ⟨[.ref x,.none],[]⟩) Q E s:=by
 obtain⟨hp,g,d,tk,os⟩:=s
 wp_walk
 exact a
set_option maxHeartbeats 2000000 in
theorem qp0 {K:Ag}{C x:Addr}{y:Obj}{n:Option Obj}{A:AQ}{s:Ah}(X:K.In s.heap)(I:PySem.W.InstAt s.heap x y C n)(b:qsz K C=true)(k:A.units<cLine):SeqAt.RcAt A s (.ref x) .none false:=by
 intro prog w E Q h;unfold qsz at b;simp only[AN,beq_iff_eq]at b;obtain⟨⟨j,t⟩,u⟩:=b;have g:=PySem.F.cmp_object;have f:BJ (model prog w) s.heap (typeOf (.ref x)) (.ref C):=I.type;have L2:BJ (model prog w) s.heap (typeOf .none) (.type "NoneType"):=BJ.of_pure rfl;have o:BJ (model prog w) s.heap (isSubtype (.type "NoneType") (.ref C)) false:=PySem.W.looks_subIn X u;have p:BJ (model prog w) s.heap (typeLookup (.ref C) "__eq__") (some (.builtin "object.__eq__")):=PySem.W.looks_findIn X j;have l:BJ (model prog w) s.heap (isInstance (.ref x) (.type "object")) true:=f.andThen (PySem.W.looks_mroIn X t);have i:(AJ C != CY "NoneType")=true:=by rw[bne_iff_ne];exact λz=>nomatch z
 have c:∀a:Value->Ah->Prop,a .notImplemented s->wpAny (model prog w) A (call (.builtin "object.__eq__") [.ref x,.none]) a E s:=λa q=>by exact CQ (DY g.eq.plain PySem.F.cmpEntry_eq (PySem.W.check_slot PySem.F.cmpKind_eq PySem.F.cmpSplit_eq l (PySem.F.cmpArgs_eq _ _) (qxk q)))
 have e:∀a:Option Value->Ah->Prop,a none s->wpAny (model prog w) A (tryCompare (.ref x) "__eq__" .none) a E s:=λa q=>by
  simp only[tryCompare,callSpecialIfBound?,bindSpecialIfBound?,specialOf];refine Ad (BR (Ad (Ad (Ad (f.here (p.here ?_))))));simp only[g.eq.bind];refine Ad (wpAny_askSetting (wpAny_ite ?_));have d:wpAny (model prog w) A (call (.builtin "object.__eq__") ([.ref x]++[.none]) >>= λv=>pure (some v)) (λr B=>wpAny (model prog w) A (match r with
   |some .notImplemented|none=>pure none
   |some v=>pure (some v)) a E B) E s:=Ad (c _ (A1 (A1 q)))
  split
  .exact Ad (A1 (A1 d))
  .exact wpAny_tryCatch (Ad (A1 (A1 d)))
 simp only[richCompare,cmpInfo_Eq,oneThing_ref];refine BR ?_;refine Ad (wpAny_cRoomFor k ?_);refine Ad (f.here (Ad (L2.here ?_)));simp only[i,if_true];refine Ad (o.here ?_);simp only[Db,if_false,Bool.not_false,if_true];refine Ad (e _ ?_);refine Ad (m:=tryCompare .none _ (.ref x)) (wpAny_tryCompare_declines (T := "NoneType") Z Ea (call_gives Ea Z PySem.F.entry_NoneType_eq (PySem.F.args_NoneType_eq_2 _ _) (SeqAt.NoneType___eq___none_ref_0 x) ⟨Z,?_⟩));exact Ad (wpAny_rule (Ad (wpAny_of_eq (rfl:isSame (.ref x) .none=pure false) (A1 h))))
theorem qp1 {K:Ag}{C x:Addr}{e:Obj}{d:Option Obj}{A:AQ}{s:Ah}(X:K.In s.heap)(I:PySem.W.InstAt s.heap x e C d)(b:qsz K C=true)(c:A.units<cLine):BC A s (.ref x) .none false:=λprog w E Q h=>by unfold eqBool;refine BR ?_;refine wpAny_ite_split (λa=>absurd (eq_of_beq a) nofun) (λ_=>?_);exact Ad (qp0 X I b c prog w E _ (B9 h))
def rInO (K:Ag):R2:=λx y H Q=>∃p xs C,x=.non/\y=.ref p/\SqL K H p xs/\(∀v∈xs,∃(q dx:Addr)(fs:List (Str×V)),v=.ref q/\H q=some (.ins C dx fs))/\qsz K C=true/\Q (.bl false) H
theorem op_inO {X:Cx}(hu:X.A.units+64<cLine):OpR X (compareOp .In) (rInO X.K):=by
 intro pins s σ H x y v u Q I j k h;obtain⟨p,xs,C,rfl,rfl,g,f,b,q⟩:=h;cases j;cases k;obtain⟨its,r,pl,hz⟩:=I.list g;have d:∀w∈its,∃(a dx:Addr)(fs:List (Str×V)),w=.ref a/\H a=some (.ins C dx fs):=by
  clear pl g hz
  induction r with
  |nil=>intro w c;cases c
  |cons h t ih =>
   intro w c;rcases Ap.mp c with rfl|c
   .obtain⟨a,dx,fs,rfl,e⟩:=f _ Ak;exact⟨a,dx,fs,h,e⟩
   .exact ih (λv i=>f v (Aq _ i)) w c
 refine SeqAt.in_listAt (λ_=>false) pl.isList (λw c=>?_) ⟨.bl false,H,I,(by rw[show its.toArray.any (λ_=>false)=false by simp];rfl),q⟩;obtain⟨a,dx,fs,rfl,e⟩:=d w (by simpa using c);obtain⟨mA,O,_⟩:=qhx I.hok e;obtain⟨od,J,_⟩:=O.look;exact qp1 I.kIn J b (by show X.A.in1.units<cLine;simp[AQ.in1_units];lia)
end Add
namespace K43
open PySem L2 Add
def nmc {α β:Type}{t:β}{f:α->β}{P:α->Prop}{v:α}(e:t=f v)(h:P v):∃v,t=f v/\P v:=⟨v,e,h⟩
def iic {α β γ δ:Type}{x:γ}{y:δ}{f:α->γ}{g:β->δ}{P:α->β->Prop}{i:α}{j:β}(e:x=f i)(a:y=g j)(h:P i j):∃i j,x=f i/\y=g j/\P i j:=⟨i,j,e,a,h⟩
def icc {α β γ δ:Type}{x:γ}{y:δ}{f:α->γ}{g:β->δ}{C P:α->β->Prop}{i:α}{j:β}(e:x=f i)(a:y=g j)(c:C i j)(h:P i j):∃i j,x=f i/\y=g j/\C i j/\P i j:=⟨i,j,e,a,c,h⟩
def lxc {K:Ag}{H:Hp}{p:Addr}{xs:List V}{i:Int}{v:V}{P:V->Prop}(s:SqL K H p xs)(e:atI xs i=some v)(h:P v):∃p' xs' i' v',V.ref p=.ref p'/\V.int i=.int i'/\SqL K H p' xs'/\atI xs' i'=some v'/\P v':=⟨p,xs,i,v,Z,Z,s,e,h⟩
def txc {K:Ag}{H:Hp}{p:Addr}{xs:List V}{i:Int}{v:V}{P:V->Prop}(s:SqT K H p xs)(e:atI xs i=some v)(h:P v):∃p' xs' i' v',V.ref p=.ref p'/\V.int i=.int i'/\SqT K H p' xs'/\atI xs' i'=some v'/\P v':=⟨p,xs,i,v,Z,Z,s,e,h⟩
def flc {H:Hp}{a C dx:Addr}{fs:List (Str×V)}{v:V}{A B:Addr->Prop}{L:List (Str×V)->V->Prop}{P:V->Prop}(h:H a=some (.ins C dx fs))(c:A C)(n:B C)(l:L fs v)(q:P v):∃a' C' dx' fs' v',V.ref a=.ref a'/\H a'=some (.ins C' dx' fs')/\A C'/\B C'/\L fs' v'/\P v':=⟨a,C,dx,fs,v,Z,h,c,n,l,q⟩
def lxo {K:Ag}{H:Hp}{p:Addr}{xs:List V}{i:Int}{v:V}{P:V->Prop}(s:H p=some (.lst xs))(e:atI xs i=some v)(h:P v):∃p' xs' i' v',V.ref p=.ref p'/\V.int i=.int i'/\SqL K H p' xs'/\atI xs' i'=some v'/\P v':=lxc (SqL.of s) e h
def txo {K:Ag}{H:Hp}{p:Addr}{xs:List V}{i:Int}{v:V}{P:V->Prop}(s:H p=some (.tup xs))(e:atI xs i=some v)(h:P v):∃p' xs' i' v',V.ref p=.ref p'/\V.int i=.int i'/\SqT K H p' xs'/\atI xs' i'=some v'/\P v':=txc (SqT.of s) e h
noncomputable def top (i:Nat):Stmt:=PySem.Challenge.pw_termcourt_k43_shown_and_read.main.body.getD i (.Pass ⟨0,0,0,0⟩)
noncomputable abbrev qiv:Stmt:=top 11
noncomputable abbrev qc3:Stmt:=top 10
noncomputable abbrev qm0:Stmt:=top 9
noncomputable abbrev qiw:Stmt:=qd0 (top 6) 0
noncomputable abbrev qkm:Stmt:=top 14
noncomputable abbrev qe2:Stmt:=top 13
noncomputable abbrev qeo:Stmt:=top 20
noncomputable abbrev qjs:Stmt:=top 19
noncomputable abbrev qix:Stmt:=qd0 (top 27) 0
noncomputable abbrev qkn:Stmt:=top 29
noncomputable abbrev qko:Stmt:=top 31
noncomputable abbrev qm1:Stmt:=top 30
noncomputable abbrev qbi:Stmt:=qd0 (top 16) 0
noncomputable abbrev qhi:Stmt:=qd0 (top 7) 0
noncomputable abbrev qhj:Stmt:=qd0 (top 5) 0
noncomputable abbrev qiy:Stmt:=top 33
noncomputable abbrev qgd:Stmt:=qd0 (top 4) 0
noncomputable abbrev qd3:Stmt:=qd0 (top 16) 3
noncomputable abbrev qkp:Stmt:=top 36
noncomputable abbrev qh3:Stmt:=top 35
noncomputable abbrev qiz:Stmt:=top 34
noncomputable abbrev qkq:Stmt:=top 32
noncomputable abbrev qe3:Stmt:=top 38
noncomputable abbrev qfl:Stmt:=top 37
noncomputable abbrev qge:Stmt:=qd0 (top 3) 0
noncomputable abbrev qi0:Stmt:=top 28
noncomputable abbrev qep:Stmt:=qd0 (top 27) 1
noncomputable abbrev qe4:Stmt:=top 41
noncomputable abbrev qde:Stmt:=top 40
noncomputable abbrev qgf:Stmt:=qd0 (top 27) 3
noncomputable abbrev qi1:Stmt:=top 39
noncomputable abbrev qhk:Stmt:=top 43
noncomputable abbrev qi2:Stmt:=top 44
noncomputable abbrev qfm:Stmt:=top 45
noncomputable abbrev qhl:Stmt:=top 46
noncomputable abbrev qh4:Stmt:=top 47
noncomputable abbrev qh5:Stmt:=top 48
noncomputable abbrev qgx:Stmt:=top 49
noncomputable abbrev qee:Stmt:=top 50
noncomputable abbrev qkr:Stmt:=top 51
noncomputable abbrev qhm:Stmt:=top 52
noncomputable abbrev qgy:Stmt:=top 53
noncomputable abbrev qhn:Stmt:=top 54
noncomputable abbrev qks:Stmt:=top 55
noncomputable abbrev qlr:Stmt:=top 56
structure DefAt (K:Ag)(mg:Str->Option Value)(x:Str)(st:Stmt)(ps:List Str)(f:Addr)(fd:AF):Prop where
 fn:Fun K x x st f fd
 mgx:mg x=some (.ref f)
 bd:Binds K fd ps []
abbrev Pd (K:Ag)(x:Str)(st:Stmt)(f:Addr):Prop:=∃(oc:Value)(od:Option Addr)(kV doc pm:Value)(an:Option Addr)(cdv ct:Value)(osl:Array (Option Value)),AT K AD x=some (some (.ref f))/\K.lookup f=some ⟨oc,od,.func (Bt x x (qby st) (qbf st) (qaa st) .none kV doc pm an cdv ct),osl⟩/\Ci K cdv x=true/\Bi K (.ref f)=true
abbrev Pm (K:Ag)(C:Addr)(x q:Str)(st:Stmt)(f:Addr):Prop:=∃(oc:Value)(od:Option Addr)(kV doc pm:Value)(an:Option Addr)(cdv ct:Value)(osl:Array (Option Value)),AU K (.ref C) x=some (some (.ref f))/\Cs K (.ref f)=some (.type "function")/\K.lookup f=some ⟨oc,od,.func (Bt x q (qby st) (qbf st) (qaa st) .none kV doc pm an cdv ct),osl⟩/\Ci K cdv q=true/\Bi K (.ref f)=true
def pd_of {K:Ag}{x:Str}{st:Stmt}{f:Addr}{i:Value}{g:Option Addr}{kV e h:Value}{j:Option Addr}{b ct:Value}{d:Array (Option Value)}(a:AT K AD x=some (some (.ref f)))(l:K.lookup f=some ⟨i,g,.func (Bt x x (qby st) (qbf st) (qaa st) .none kV e h j b ct),d⟩)(c:Ci K b x=true)(k:Bi K (.ref f)=true):Pd K x st f:=⟨i,g,kV,e,h,j,b,ct,d,a,l,c,k⟩
def pm_of {K:Ag}{C:Addr}{x q:Str}{st:Stmt}{f:Addr}{g:Value}{i:Option Addr}{kV e j:Value}{h:Option Addr}{b ct:Value}{d:Array (Option Value)}(a:AU K (.ref C) x=some (some (.ref f)))(t:Cs K (.ref f)=some (.type "function"))(l:K.lookup f=some ⟨g,i,.func (Bt x q (qby st) (qbf st) (qaa st) .none kV e j h b ct),d⟩)(c:Ci K b q=true)(k:Bi K (.ref f)=true):Pm K C x q st f:=⟨g,i,kV,e,j,h,b,ct,d,a,t,l,c,k⟩
def qbm {K:Ag}{h:Heap}{mg:Str->Option Value}{x:Str}{st:Stmt}{f:Addr}(X:K.In h)(G:h.Ns AD mg)(p:Pd K x st f){ps:List Str}(b:∀(kV e i:Value) (g:Option Addr) (d ct:Value) (us:List Value),us.length=ps.length->bindArgs (Bt x x (qby st) (qbf st) (qaa st) .none kV e i g d ct) ⟨us,[]⟩=pure (ps.zip us)):∃fd,DefAt K mg x st ps f fd:=by obtain⟨oc,od,kV,e,i,g,d,ct,osl,a,l,c,k⟩:=p;have F:=qpo (st:=st) l c k;exact⟨_,F,Bu X G a,F.binds b⟩
def qh6 {K:Ag}{C:Addr}{x q:Str}{st:Stmt}{f:Addr}(p:Pm K C x q st f){ps:List Str}(b:∀(kV e h:Value) (g:Option Addr) (d ct:Value) (us:List Value),us.length=ps.length->bindArgs (Bt x q (qby st) (qbf st) (qaa st) .none kV e h g d ct) ⟨us,[]⟩=pure (ps.zip us)):∃fd,MethAt K x q st ps f fd:=by obtain⟨oc,od,kV,e,h,g,d,ct,osl,a,t,l,c,k⟩:=p;have F:=qpo (st:=st) l c k;exact⟨_,F,F.binds b,t⟩
def qgg {p:List Value->Prop}(h:∀x0,p [x0]):∀us,us.length=1->p us:=λus hl=>by obtain⟨x,rfl⟩:=List.length_eq_one_iff.mp hl;exact h x
def argS {p:List Value->Prop}{n:Nat}(h:∀x t,t.length=n->p (x::t)):∀us,us.length=n+1->p us:=λus hl=>by obtain⟨x,t,rfl⟩:=List.exists_cons_of_length_eq_add_one hl;exact h x t (C2 hl)
def qf1 {p:List Value->Prop}(h:∀x0 x1,p [x0,x1]):∀us,us.length=2->p us:=argS λx=>qgg (h x)
def qoi {p:List Value->Prop}(h:∀x0 x1 x2,p [x0,x1,x2]):∀us,us.length=3->p us:=argS λx=>qf1 (h x)
def arg4 {p:List Value->Prop}(h:∀x0 x1 x2 x3,p [x0,x1,x2,x3]):∀us,us.length=4->p us:=argS λx=>qoi (h x)
set_option genInjectivity false
set_option genSizeOf false
set_option genSizeOfSpec false
structure Adr where
 nJ:Addr
 nM:AF
 mF:Addr
 fD:AF
 hX:Addr
 lZ:AF
 fA:Addr
 nL:AF
 fQ:Addr
 fG:AF
 lQ:Addr
 nE:AF
 fP:Addr
 mC:AF
 mD:Addr
 lA:AF
 dB:Addr
 mP:AF
 lK:Addr
 fR:AF
 mH:Addr
 mU:AF
 mV:Addr
 mK:AF
 dO:Addr
 bD:AF
 dC:Addr
 lC:AF
 dS:Addr
 fW:AF
 lR:Addr
 fV:AF
 dA:Addr
 nB:AF
 dU:Addr
 lI:AF
 mG:Addr
 fF:AF
 mE:Addr
 lY:AF
 lH:Addr
 mY:AF
 fE:Addr
 mQ:AF
 nN:Addr
 mJ:AF
 mM:Addr
 fK:AF
 dL:Addr
 lD:AF
 mL:Addr
 nQ:AF
 dR:Addr
 nD:AF
 hZ:Addr
 fO:AF
 lW:Addr
 lJ:AF
 dP:Addr
 mR:AF
 lT:Addr
 fH:AF
 fS:Addr
 nF:AF
 nK:Addr
 lO:AF
 nG:Addr
 fN:AF
 fJ:Addr
 mO:AF
 hV:Addr
 mZ:AF
 nI:Addr
 fZ:AF
 lU:Addr
 lN:AF
 fL:Addr
 fB:AF
 fC:Addr
 fX:AF
 nR:Addr
 hG:AF
 hM:Addr
 fT:AF
 nC:Addr
 lV:AF
 hU:Addr
 fU:AF
 lE:Addr
 dD:AF
 kF:Addr
 mB:Addr
 kW:Addr
 kO:Addr
 gG:Addr
 k7:Addr
 gH:Addr
 kK:Addr
 dH:Addr
 gM:Addr
 bP:Addr
 gQ:Addr
 bS:Addr
 gZ:Addr
 bG:Addr
 bN:Addr
 bB:Addr
structure Txt (K:Ag)(mg:Str->Option Value)(a:Adr):Prop where
 bU:DefAt K mg "is_figure" qiv ["sign"] a.nJ a.nM
 bJ:DefAt K mg "is_written_number" qc3 ["text","most_figures"] a.mF a.fD
 bV:DefAt K mg "number" qm0 ["text","most"] a.hX a.lZ
 dN:MethAt K "__init__" "Ring.__init__" qiw ["self","names"] a.fA a.nL
 bA:DefAt K mg "untaken" qkm ["name","bases","taken"] a.fQ a.fG
 bW:DefAt K mg "hanging_order" qe2 ["rules"] a.lQ a.nE
 bK:DefAt K mg "is_small_letter" qeo ["sign"] a.fP a.mC
 bX:DefAt K mg "is_name" qjs ["thing"] a.mD a.lA
 dJ:MethAt K "__init__" "Book.__init__" qix ["self","rules"] a.dB a.mP
 bT:DefAt K mg "lines_of" qkn ["text"] a.lK a.fR
 bQ:DefAt K mg "value_of" qko ["word","asked"] a.mH a.mU
 gP:DefAt K mg "row_of" qm1 ["line"] a.mV a.mK
 pS:MethD K "__init__" "Rule.__init__" qbi ["self","name","who","owes","opens","base","many","unit","still"] a.dO a.bD
 dW:MethAt K "__init__" "Twice.__init__" qhi ["self","name"] a.dC a.lC
 kX:MethAt K "__init__" "Unfit.__init__" qhj ["self","at"] a.dS a.fW
 bL:DefAt K mg "read_term" qiy ["told","at","row"] a.lR a.fV
 kQ:MethAt K "__init__" "NoTerm.__init__" qgd ["self","name"] a.dA a.nB
 fY:MethAt K "all_kinds" "Rule.all_kinds" qd3 ["self"] a.dU a.lI
 gT:DefAt K mg "kinds_in" qkp ["row"] a.mG a.fF
 bH:DefAt K mg "is_unfit" qh3 ["rule","row"] a.mE a.lY
 bO:DefAt K mg "read_more" qiz ["rule","at","row"] a.lH a.mY
 bE:DefAt K mg "read_row" qkq ["told","at","row"] a.fE a.mQ
 gO:DefAt K mg "settle_yields" qe3 ["told","rule","at","other"] a.nN a.mJ
 gR:DefAt K mg "settle_names" qfl ["told","at","row"] a.mM a.fK
 dM:MethAt K "__init__" "NoRule.__init__" qge ["self","at"] a.dL a.lD
 kY:DefAt K mg "read_book" qi0 ["text"] a.mL a.nQ
 nO:MethAt K "term_names" "Book.term_names" qep ["self"] a.dR a.nD
 gY:DefAt K mg "term_row_shown" qe4 ["rule"] a.hZ a.fO
 bY:DefAt K mg "rows_shown" qde ["rule"] a.lW a.lJ
 lG:MethAt K "rule_of" "Book.rule_of" qgf ["self","name"] a.dP a.mR
 kG:DefAt K mg "show_book" qi1 ["book"] a.lT a.fH
 kD:DefAt K mg "_law_cell_at" qhk ["_law_script","_law_k"] a.fS a.nF
 gF:DefAt K mg "_law_words" qi2 ["_law_cell","_law_many"] a.nK a.lO
 kZ:DefAt K mg "_law_some_kept" qfm ["_law_words_here","_law_cell"] a.nG a.fN
 gW:DefAt K mg "_law_yields" qhl ["_law_script","_law_at","_law_names"] a.fJ a.mO
 bC:DefAt K mg "_law_base" qh4 ["_law_script","_law_at","_law_names"] a.hV a.mZ
 gN:DefAt K mg "_law_rule" qh5 ["_law_script","_law_at","_law_names","_law_kinds"] a.nI a.fZ
 bF:DefAt K mg "_law_rules" qgx ["_law_script","_law_names","_law_kinds","_law_most"] a.lU a.lN
 gD:DefAt K mg "_law_sorts" qee ["_law_rule_here"] a.fL a.fB
 kP:DefAt K mg "_law_rows" qkr ["_law_rule_here"] a.fC a.fX
 gX:DefAt K mg "_law_turned" qhm ["_law_rule_here","_law_turn"] a.nR a.hG
 bM:DefAt K mg "_law_mixed" qgy ["_law_script","_law_lists"] a.hM a.fT
 bI:DefAt K mg "_law_object" qhn ["_law_rule_here"] a.nC a.lV
 kI:DefAt K mg "_law_text" qks ["_law_found","_law_due"] a.hU a.fU
 pT:DefAt K mg "law" qlr ["_law_script"] a.lE a.dD
 mW:Binds K a.bD ["self","name","who","owes","opens","base","many","unit","still"] [.none]
 nX:KBinds K a.bD ["self","name","who","owes","opens","base","many","unit","still"] ["still"] Lam.gL Lam.gL
 nH:mg "Book"=some (.ref a.kF)
 kT:Cls K a.kF
 fM:Mk K a.kF a.dB
 gA:xNo K a.kF ["name","who","owes","opens","base","many","unit","still","ends","anew","longer","yields","order","by_name","names","at"]=true
 pN:Meth K a.kF "term_names" a.dR
 pP:Meth K a.kF "rule_of" a.dP
 gJ:mg "CourtError"=some (.ref a.mB)
 gI:XBase K a.mB
 pM:mg "NoRule"=some (.ref a.kW)
 gK:XA K a.kW (some (.ref a.dL))
 dG:xNo K a.kW ["name","who","owes","opens","base","many","unit","still","ends","anew","longer","yields","order","by_name","names","at"]=true
 gU:mg "NoTerm"=some (.ref a.kO)
 kM:XA K a.kO (some (.ref a.dA))
 bR:xNo K a.kO ["name","who","owes","opens","base","many","unit","still","ends","anew","longer","yields","order","by_name","names","at"]=true
 pG:mg "Ring"=some (.ref a.gG)
 dE:XA K a.gG (some (.ref a.fA))
 pJ:xNo K a.gG ["name","who","owes","opens","base","many","unit","still","ends","anew","longer","yields","order","by_name","names","at"]=true
 bZ:mg "Rule"=some (.ref a.k7)
 kA:Cls K a.k7
 dQ:Mk K a.k7 a.dO
 kC:xNo K a.k7 ["name","who","owes","opens","base","many","unit","still","ends","anew","longer","yields","order","by_name","names","at"]=true
 pY:qsz K a.k7=true
 pF:Meth K a.k7 "all_kinds" a.dU
 nV:mg "Twice"=some (.ref a.gH)
 dY:XA K a.gH (some (.ref a.dC))
 pV:xNo K a.gH ["name","who","owes","opens","base","many","unit","still","ends","anew","longer","yields","order","by_name","names","at"]=true
 dZ:mg "Unfit"=some (.ref a.kK)
 kH:XA K a.kK (some (.ref a.dS))
 gE:xNo K a.kK ["name","who","owes","opens","base","many","unit","still","ends","anew","longer","yields","order","by_name","names","at"]=true
 dF:XRaise K a.kW
 gS:XRaise K a.kO
 pD:XRaise K a.gG
 pL:XRaise K a.gH
 gB:XRaise K a.kK
 mS:mg "all"=none
 pB:mg "any"=none
 lF:mg "enumerate"=none
 dX:mg "int"=none
 dI:mg "isinstance"=none
 kE:mg "len"=none
 gC:mg "list"=none
 pU:mg "max"=none
 kL:mg "range"=none
 mI:mg "reversed"=none
 pW:mg "sorted"=none
 kU:mg "str"=none
 pO:mg "zip"=none
 nY:∃t,mg "LONGEST_NAME"=some (.int 8 t)
 pA:∃t,mg "MOST_ROWS"=some (.int 40 t)
 nU:∃t,mg "MOST_TERMS"=some (.int 6 t)
 pX:∃t,mg "MOST_LONGER_ROWS"=some (.int 2 t)
 nZ:mg "UNITS"=some (.ref a.dH)
 pE:∀H,SqT K H a.dH [.str (Aa "days"),.str (Aa "weeks"),.str (Aa "court")]
 pR:mg "FORMS"=some (.ref a.gM)
 mT:∀H,SqT K H a.gM [.ref a.bP,.ref a.gQ,.ref a.bS,.ref a.gZ,.ref a.bG,.ref a.bN,.ref a.bB]
 nW:∀H,SqT K H a.bP [.str (Aa "term"),.str (Aa "NAME"),.str (Aa "of"),.str (Aa "NAME"),.str (Aa "due"),.str (Aa "NAME"),.str (Aa "from"),.str (Aa "NAME"),.int 40,.str (Aa "UNIT")]
 pI:∀H,SqT K H a.gQ [.str (Aa "term"),.str (Aa "NAME"),.str (Aa "of"),.str (Aa "NAME"),.str (Aa "due"),.str (Aa "NAME"),.str (Aa "behind"),.str (Aa "NAME"),.int 40,.str (Aa "UNIT")]
 pQ:∀H,SqT K H a.bS [.str (Aa "ends"),.str (Aa "NAME"),.str (Aa "NAME")]
 pK:∀H,SqT K H a.gZ [.str (Aa "anew"),.str (Aa "NAME"),.str (Aa "NAME")]
 pH:∀H,SqT K H a.bG [.str (Aa "longer"),.str (Aa "NAME"),.str (Aa "NAME"),.int 20,.str (Aa "times"),.int 3]
 pC:∀H,SqT K H a.bN [.str (Aa "still"),.str (Aa "NAME"),.str (Aa "NAME"),.str (Aa "NAME")]
 pZ:∀H,SqT K H a.bB [.str (Aa "yields"),.str (Aa "NAME"),.str (Aa "NAME")]
def qoj:bootBuiltins "all"=some (.builtin "all"):=Ek
def qu9:bootBuiltins "any"=some (.builtin "any"):=Ek
def qkt:bootBuiltins "int"=some (.type "int"):=Ek
def qea:bootBuiltins "isinstance"=some (.builtin "isinstance"):=Ek
def qa5:bootBuiltins "len"=some (.builtin "len"):=Ek
def qdy:bootBuiltins "list"=some (.type "list"):=Ek
def qva:bootBuiltins "max"=some (.builtin "max"):=Ek
def qp2:bootBuiltins "range"=some (.type "range"):=Ek
def qd6:bootBuiltins "str"=some (.type "str"):=Ek
def qp3:FnScope ["sign"] ["sign"] (qaa qiv):=⟨Z,Z,Z,Ek,Z,Ek,Ek⟩
def qh7:FnScope ["text","most_figures"] ["text","most_figures"] (qaa qc3):=⟨Z,Z,Z,Ek,Z,Ek,Ek⟩
def qok:FnScope ["text","most","written"] ["text","most"] (qaa qm0):=⟨Z,Z,Z,Ek,Z,Ek,Ek⟩
def qp4:FnScope ["self","names"] ["self","names"] (qaa qiw):=⟨Z,Z,Z,Ek,Z,Ek,Ek⟩
def qgz:FnScope ["name","bases","taken","path","above"] ["name","bases","taken"] (qaa qkm):=⟨Z,Z,Z,Ek,Z,Ek,Ek⟩
def qce:FnScope ["rules","bases","rule","taken"] ["rules"] (qaa qe2):=⟨Z,Z,Z,Ek,Z,Ek,Ek⟩
def qjn:FnScope ["sign"] ["sign"] (qaa qeo):=⟨Z,Z,Z,Ek,Z,Ek,Ek⟩
def qvb:FnScope ["thing"] ["thing"] (qaa qjs):=⟨Z,Z,Z,Ek,Z,Ek,Ek⟩
def qku:FnScope ["self","rules","rule"] ["self","rules"] (qaa qix):=⟨Z,Z,Z,Ek,Z,Ek,Ek⟩
def qs0:FnScope ["text"] ["text"] (qaa qkn):=⟨Z,Z,Z,Ek,Z,Ek,Ek⟩
def qs1:FnScope ["word","asked"] ["word","asked"] (qaa qko):=⟨Z,Z,Z,Ek,Z,Ek,Ek⟩
def qjt:FnScope ["line","words","form","row"] ["line"] (qaa qm1):=⟨Z,Z,Z,Ek,Z,Ek,Ek⟩
def qp5:FnScope ["self","name","who","owes","opens","base","many","unit","still"] ["self","name","who","owes","opens","base","many","unit","still"] (qaa qbi):=⟨Z,Z,Z,Ek,Z,Ek,Ek⟩
def qol:FnScope ["self","name"] ["self","name"] (qaa qhi):=⟨Z,Z,Z,Ek,Z,Ek,Ek⟩
def qom:FnScope ["self","at"] ["self","at"] (qaa qhj):=⟨Z,Z,Z,Ek,Z,Ek,Ek⟩
def qeq:FnScope ["told","at","row","name","opens","base","rule"] ["told","at","row"] (qaa qiy):=⟨Z,Z,Z,Ek,Z,Ek,Ek⟩
def qm2:FnScope ["self","name"] ["self","name"] (qaa qgd):=⟨Z,Z,Z,Ek,Z,Ek,Ek⟩
def qgh:FnScope ["self","kinds"] ["self"] (qaa qd3):=⟨Z,Z,Z,Ek,Z,Ek,Ek⟩
def qs2:FnScope ["row"] ["row"] (qaa qkp):=⟨Z,Z,Z,Ek,Z,Ek,Ek⟩
def qmc:FnScope ["rule","row","taken"] ["rule","row"] (qaa qh3):=⟨Z,Z,Z,Ek,Z,Ek,Ek⟩
def qp6:FnScope ["rule","at","row"] ["rule","at","row"] (qaa qiz):=⟨Z,Z,Z,Ek,Z,Ek,Ek⟩
def qs3:FnScope ["told","at","row"] ["told","at","row"] (qaa qkq):=⟨Z,Z,Z,Ek,Z,Ek,Ek⟩
def qkv:FnScope ["told","rule","at","other"] ["told","rule","at","other"] (qaa qe3):=⟨Z,Z,Z,Ek,Z,Ek,Ek⟩
def qg6:FnScope ["told","at","row","rule"] ["told","at","row"] (qaa qfl):=⟨Z,Z,Z,Ek,Z,Ek,Ek⟩
def qm3:FnScope ["self","at"] ["self","at"] (qaa qge):=⟨Z,Z,Z,Ek,Z,Ek,Ek⟩
def qcx:FnScope ["text","told","rows","at","line","row"] ["text"] (qaa qi0):=⟨Z,Z,Z,Ek,Z,Ek,Ek⟩
def qjo:FnScope ["self"] ["self"] (qaa qep):=⟨Z,Z,Z,Ek,Z,Ek,Ek⟩
def qgi:FnScope ["rule","begin"] ["rule"] (qaa qe4):=⟨Z,Z,Z,Ek,Z,Ek,Ek⟩
def qcy:FnScope ["rule","name","rows"] ["rule"] (qaa qde):=⟨Z,Z,Z,Ek,Z,Ek,Ek⟩
def qm4:FnScope ["self","name"] ["self","name"] (qaa qgf):=⟨Z,Z,Z,Ek,Z,Ek,Ek⟩
def qfn:FnScope ["book","rows","name"] ["book"] (qaa qi1):=⟨Z,Z,Z,Ek,Z,Ek,Ek⟩
def qon:FnScope ["_law_script","_law_k"] ["_law_script","_law_k"] (qaa qhk):=⟨Z,Z,Z,Ek,Z,Ek,Ek⟩
def qbj:FnScope ["_law_cell","_law_many","_law_some","_law_size","_law_at","_law_primes","_law_stem","_law_k","_law_words_here","_law_turn","_law_word"] ["_law_cell","_law_many"] (qaa qi2):=⟨Z,Z,Z,Ek,Z,Ek,Ek⟩
def qb8:FnScope ["_law_words_here","_law_cell","_law_kept","_law_k","_law_word","_law_at"] ["_law_words_here","_law_cell"] (qaa qfm):=⟨Z,Z,Z,Ek,Z,Ek,Ek⟩
def qcz:FnScope ["_law_script","_law_at","_law_names","_law_cell","_law_mine","_law_yields_here","_law_other","_law_bit","_law_theirs"] ["_law_script","_law_at","_law_names"] (qaa qhl):=⟨Z,Z,Z,Ek,Z,Ek,Ek⟩
def qef:FnScope ["_law_script","_law_at","_law_names","_law_turn","_law_cell","_law_ranks","_law_k","_law_below"] ["_law_script","_law_at","_law_names"] (qaa qh4):=⟨Z,Z,Z,Ek,Z,Ek,Ek⟩
def qa2:FnScope ["_law_script","_law_at","_law_names","_law_kinds","_law_cells","_law_owed","_law_rest","_law_turn","_law_base_here","_law_opens","_law_unit","_law_longer","_law_k","_law_units","_law_stays","_law_rule_here"] ["_law_script","_law_at","_law_names","_law_kinds"] (qaa qh5):=⟨Z,Z,Z,Ek,Z,Ek,Ek⟩
def qdf:FnScope ["_law_script","_law_names","_law_kinds","_law_most","_law_rules_here","_law_room","_law_rule_here","_law_sort"] ["_law_script","_law_names","_law_kinds","_law_most"] (qaa qgx):=⟨Z,Z,Z,Ek,Z,Ek,Ek⟩
def qa0:FnScope ["_law_rule_here","_law_name","_law_way","_law_head","_law_ends","_law_anew","_law_longer","_law_kind","_law_units","_law_times","_law_row","_law_stays","_law_yields_here"] ["_law_rule_here"] (qaa qee):=⟨Z,Z,Z,Ek,Z,Ek,Ek⟩
def qg0:FnScope ["_law_rule_here","_law_rows_here","_law_sort"] ["_law_rule_here"] (qaa qkr):=⟨Z,Z,Z,Ek,Z,Ek,Ek⟩
def qd7:FnScope ["_law_rule_here","_law_turn","_law_sorts_here","_law_rows_here","_law_k"] ["_law_rule_here","_law_turn"] (qaa qhm):=⟨Z,Z,Z,Ek,Z,Ek,Ek⟩
def qdz:FnScope ["_law_script","_law_lists","_law_rows_here","_law_cell","_law_turn"] ["_law_script","_law_lists"] (qaa qgy):=⟨Z,Z,Z,Ek,Z,Ek,Ek⟩
def qd8:FnScope ["_law_rule_here","_law_made","_law_fresh"] ["_law_rule_here"] (qaa qhn):=⟨Z,Z,Z,Ek,Z,Ek,Ek⟩
def qs4:FnScope ["_law_found","_law_due"] ["_law_found","_law_due"] (qaa qks):=⟨Z,Z,Z,Ek,Z,Ek,Ek⟩
def qc9:FnScope ["_law_script","_law_many","_law_names","_law_kinds","_law_rules_here","_law_turn","_law_mixed_here","_law_heads","_law_order","_law_rows_here","_law_k","_law_due","_law_book","_law_made","_law_other","_law_straight","_law_rule_here"] ["_law_script"] (qaa qlr):=⟨Z,Z,Z,Ek,Z,Ek,Ek⟩
seal PySem.Sem.wp
open Add Lay Mrg Tab
def useH {p G:Hp->Prop}{R:Prop}(m:(∀x,p x->G x)->R)(l:∀x,p x->G x):R:=m l
def use2 {S T:Type}{p G:S->T->Prop}{R:Prop}(m:(∀x y,p x y->G x y)->R)(l:∀x y,p x y->G x y):R:=m l
def qe5 {c A B:Prop}[Decidable c](a:c)(h:A):if decide c=true then A else B:=by rw[if_pos (decide_eq_true a)];exact h
def qay {c A B:Prop}[Decidable c](a:¬c)(h:B):if decide c=true then A else B:=by rw[decide_eq_false a];exact h
def qew {c A B:Prop}[Decidable c](a:c)(h:B):if (!decide c)=true then A else B:=by rw[decide_eq_true a];exact h
def zi {H:Hp}{p:Addr}{o:HO}(a:H p=none):Same H (upd H p o):=λb u e=>by rw[ze (qab e a)];exact e
def alc {H:Hp}{p:Addr}{o:HO}(a:H p=none):Same H (upd H p o)/\upd H p o p=some o:=⟨zi a,qu⟩
def qad {n:Nat}(h:n<=100000):n<=Au:=by rw[Bd];lia
def qc0 {xs:List V}(h:xs.length<=90000):xs.length<Au:=by rw[Bd];lia
def qdg:([]:List V).length<=Au:=qad En
def fit2 (x y:V):[x,y].length<=Au:=qad (show 2<=100000 by decide)
def qxl (x y z:V):[x,y,z].length<=Au:=qad (show 3<=100000 by decide)
def atI_of {vs:List V}{k:Int}{j:Nat}{v:V}(h:vs[j]?=some v)(e:k=(j:Int)):atI vs k=some v:=by rw[e];exact qbp h
def qkw (vs:List V)(b:Nat)(h:b<=vs.length):qe9 vs none (some (b:Int))=vs.take b:=by
 unfold qe9;have a:HT.sIx vs.length 0 none=0:=rfl;have c:HT.sIx vs.length vs.length (some (b:Int))=b:=by simp only[HT.sIx];split <;>lia
 rw[a,c];simp
def qgj (vs:List V)(b:Nat)(h:b<=vs.length):qe9 vs (some (b:Int)) none=vs.drop b:=by
 unfold qe9;have a:HT.sIx vs.length vs.length none=vs.length:=rfl;have c:HT.sIx vs.length 0 (some (b:Int))=b:=by simp only[HT.sIx];split <;>lia
 rw[a,c];rw[BW (by rw[Bv];lia)]
def qa6 {α:Type}{xs:List α}{i:Nat}{x:α}(h:xs[i]?=some x):xs.take (i+1)=xs.take i++[x]:=by rw[CN,h];rfl
def qfc {c A B:Prop}[Decidable c](a:¬c)(h:A):if (!decide c)=true then A else B:=by rw[decide_eq_false a];exact h
noncomputable def cell (ns:List Int)(k:Int):Int:=ns.getD k.toNat 0
def qvc {a:List Int}{k:Int}(b:0<=k)(h:k<((a.map V.int).length:Int)):atI (a.map V.int) k=some (V.int (cell a k)):=by rw[Ab]at h;have hk:k.toNat<a.length:=(Int.toNat_lt b).mpr h;refine atI_of (j:=k.toNat) ?_ (Int.toNat_of_nonneg b).symm;rw[Af,Ae hk];unfold cell;rw[A4,Ae hk];rfl
def qvd {a:List Int}{k:Int}(h:¬k<((a.map V.int).length:Int)):cell a k=0:=by rw[Ab]at h;unfold cell;rw[A4,B4 (Int.ofNat_le.mp (Int.le_trans (Int.not_lt.mp h) (Int.self_le_toNat k)))];rfl
def spCell (K:Ag):Sp:=λvs H Q _=>∃(a:Addr)(ns:List Int)(k:Int),vs=[.ref a,.int k]/\SqL K H a (ns.map V.int)/\0<=k/\Q (.int (cell ns k)) H
def qfd (x:Str)(xs:List Str):inV (.str x) (xs.map V.str)=xs.contains x:=by
 unfold inV;rw[List.any_map,List.contains_eq_any_beq]
 congr 1
 funext y;show (y == x)=(x == y);rw[CA,beq_iff_eq,beq_iff_eq];exact eq_comm
def qfe (xs:List Str):(xs.map V.str).all qeb=true:=by rw[DI];exact Bk.mpr λ_ _=>rfl
noncomputable def nm (nms:List Str)(k:Nat):Str:=nms.getD k Co
noncomputable def bo (bs:List (Option Nat))(k:Nat):Option Nat:=bs.getD k none
def qh8 {nms:List Str}{k:Nat}(h:k<nms.length):nms[k]?=some (nm nms k):=by unfold nm;rw[A4,Ae h];rfl
theorem qi3 {nms:List Str}(c:nms.Nodup){j k:Nat}(b:j<nms.length)(hk:k<nms.length)(e:nm nms j=nm nms k):j=k:=by have a:=qh8 b;rw[e,<- qh8 hk]at a;exact(Dn b c).mp a
noncomputable def qh9 (nms:List Str):Option Nat->V
 |none=>.non
 |some b=>.str (nm nms b)
def DicOk (kvs:List (Key×V))(nms:List Str)(bs:List (Option Nat)):Prop:=∀k<nms.length,qdx kvs (.inr (nm nms k))=some (qh9 nms (bo bs k))
def SameBut (x:Addr)(H H':Hp):Prop:=∀b o,b≠x->H b=some o->H' b=some o
def SameBut.of {x:Addr}{H a:Hp}(s:Same H a):SameBut x H a:=λb o _ e=>s b o e
def SameBut.trans {x:Addr}{H d f:Hp}(a:SameBut x H d)(b:SameBut x d f):SameBut x H f:=λc o n e=>b c o n (a c o n e)
def SameBut.set {x:Addr}{H c:Hp}{o:HO}(a:SameBut x H c):SameBut x H (upd c x o):=λb u n e=>by rw[ze n];exact a b u n e
def SameBut.made {x dx:Addr}{H c:Hp}{o u:HO}(a:SameBut x (upd (upd H dx u) x o) c)(d:H x=none)(hd:H dx=none):Same H c:=λb v e =>
 a b v (qab e d) (by rw[ze (qab e d),ze (qab e hd)];exact e)
def SameBut.free {x q:Addr}{H a:Hp}(b:SameBut x H a)(n:q≠x)(h:a q=none):H q=none:=by
 cases e:H q with|none=>rfl|some o=>rw[b q o n e]at h;cases h
def qxm {kvs:List (Key×V)}{nms:List Str}{bs:List (Option Nat)}{i:Nat}(b:nms.Nodup)(a:i<nms.length)(h:∀k<i,qdx kvs (.inr (nm nms k))=some (qh9 nms (bo bs k))):∀k<i+1,qdx (qfk kvs (.inr (nm nms i)) (qh9 nms (bo bs i))) (.inr (nm nms k))=some (qh9 nms (bo bs k)):=λk hk=>by
 rw[qt5];by_cases e:k=i
 .subst e;rw[if_pos Z]
 .rw[if_neg (λz=>e (qi3 b (by lia) a (CS.inj z)))];exact h k (by lia)
def nmV {nms:List Str}{k:Nat}(h:k<nms.length):(nms.map V.str)[k]?=some (.str (nm nms k)):=by rw[Af,qh8 h];rfl
def rb {n:Nat}(h:n<=1000) : -2 ^ 62<=(n:Int)/\(n:Int)<2 ^ 62:=by lia
noncomputable abbrev bfs (po pd:Addr):List (Str×V):=[(Aa "order",.ref po),(Aa "by_name",.ref pd)]
def put1 (f:Str)(u:V):qcw f u []=[(f,u)]:=rfl
def put2 {f g:Str}(u v:V)(h:f≠g):qcw g v [(f,u)]=[(f,u),(g,v)]:=by unfold qcw;rw[if_neg h];rfl
noncomputable abbrev az:Str:=Aa "abcdefghijklmnopqrstuvwxyz"
def az_len:az.length=26:=Ek
def qxn:az.cps.toList=(AR 26).map (λj=>97+j):=Ek
def qyn {j:Nat}(h:j<26):atI az.cps.toList (j:Int)=some (97+j):=qbp (by rw[qxn,Af,CT h];rfl)
def qaw (x y:Str):(x++y).length=x.length+y.length:=by show (x++y).cps.size=_;rw[Ds,Array.size_append];rfl
noncomputable def wdL (L:List Nat)(n c:Nat):List Nat:=L.take n++c::L.drop (n+1)
def qxo {st:Str}{n c:Nat}(h:n+1<=st.length):DS st none (some (n:Int))++(⟨#[c]⟩:Str)++DS st (some ((n:Int)+1)) none=⟨(wdL st.cps.toList n c).toArray⟩:=by
 have hl:st.cps.toList.length=st.length:=AO;have a:DS st none (some (n:Int))=⟨((st.cps.toList.drop 0).take ((n:Int)-0).toNat).toArray⟩:=PySem.StrLaws.sliceText_to ⟨Int.natCast_nonneg n,by lia⟩;have b:DS st (some ((n:Int)+1)) none=⟨((st.cps.toList.drop ((n:Int)+1).toNat).take ((st.cps.toList.length:Int)-((n:Int)+1)).toNat).toArray⟩:=PySem.StrLaws.sliceText_from ⟨by lia,by lia⟩;have d:((n:Int)+1).toNat=n+1:=by lia
 rw[a,b,d,BW (l:=st.cps.toList.drop (n+1)) (by rw[Bv];lia)];apply Str.ext';rw[Ds,Ds];show ((st.cps.toList.drop 0).take ((n:Int)-0).toNat).toArray ++ #[c]++(st.cps.toList.drop (n+1)).toArray=_;unfold wdL;rw[List.drop_zero,show ((n:Int)-0).toNat=n by lia];simp
def cut_eq {L:List Nat}{n c:Nat}(h:n<L.length):DS ⟨(wdL L n c).toArray⟩ none (some ((n:Int)+1))=⟨(L.take n++[c]).toArray⟩:=by
 have lt:(L.take n).length=n:=by rw[A6];lia
 have a:DS ⟨(wdL L n c).toArray⟩ none (some ((n:Int)+1))=⟨(((wdL L n c).toArray.toList.drop 0).take ((n:Int)+1-0).toNat).toArray⟩:=PySem.StrLaws.sliceText_to ⟨by lia,by show (n:Int)+1<=((wdL L n c).toArray.toList.length:Int);rw[Dy];unfold wdL;rw[Ai,Am,lt];lia⟩;rw[a,Dy,List.drop_zero,show ((n:Int)+1-0).toNat=n+1 by lia];unfold wdL;rw[List.take_append,lt,BW (A2 (Cn lt) (C7 n)),show n+1-n=1 by lia];rfl
noncomputable def sgn (t:Int)(e k:Nat):Nat:=97+((t+((k / (1+e):Nat):Int)) % 26).toNat
noncomputable def wdS (L:List Nat)(n e:Nat)(t:Int)(k:Nat):Str:=if e=1/\k % 2=1 then ⟨(L.take n++[sgn t e k]).toArray⟩ else ⟨(wdL L n (sgn t e k)).toArray⟩
def qm5 {x y:List Nat}(h:(⟨x.toArray⟩:Str)=⟨y.toArray⟩):x=y:=by have:=congrArg (λz:Str=>z.cps.toList) h;simpa using this
def qxp {L:List Nat}{n c d:Nat}(h:wdL L n c=wdL L n d):c=d:=by unfold wdL at h;exact(Cr (List.append_cancel_left h)).1
def qxq {t:Int}{e k j:Nat}(he:e<=1)(hk:k / (1+e)<26)(hj:j / (1+e)<26)(h:sgn t e k=sgn t e j):k / (1+e)=j / (1+e):=by
 have h:(t+((k / (1+e):Nat):Int)) % 26=(t+((j / (1+e):Nat):Int)) % 26:=by unfold sgn at h;lia
 generalize k / (1+e)=x at *;generalize j / (1+e)=y at *;lia
def qxr {L:List Nat}{n e:Nat}{t:Int}(g:e<=1)(hn:n+1+e<=L.length){k j:Nat}(hk:k / (1+e)<26)(f:j / (1+e)<26)(h:wdS L n e t k=wdS L n e t j):k=j:=by
 have lt:(L.take n).length=n:=by rw[A6];lia
 have d:(L.drop (n+1)).length=L.length-(n+1):=Bv;have b:sgn t e k=sgn t e j/\(e=1->k % 2=j % 2):=by
  unfold wdS at h;by_cases c:e=1/\k % 2=1
  .rw[if_pos c]at h;by_cases a:e=1/\j % 2=1
   .rw[if_pos a]at h;exact⟨(Cr (List.append_cancel_left (qm5 h))).1,λ_=>by lia⟩
   .rw[if_neg a]at h;have hl:=congrArg DB (qm5 h);unfold wdL at hl;rw[Ai,Ai,Am,Am,Bf,d]at hl;lia
  .rw[if_neg c]at h;by_cases a:e=1/\j % 2=1
   .rw[if_pos a]at h;have hl:=congrArg DB (qm5 h);unfold wdL at hl;rw[Ai,Ai,Am,Am,Bf,d]at hl;lia
   .rw[if_neg a]at h;exact⟨qxp (qm5 h),λz=>by lia⟩
 have q:=qxq g hk f b.1;rcases (by lia:e=0\/e=1) with z|z
 .rw[z]at q;simpa using q
 .have:=b.2 z;rw[z]at q;lia
def wds_nd {L:List Nat}{n e:Nat}{t:Int}(i:e<=1)(d:n+1+e<=L.length){m:Nat}(c:∀k,k<m->k / (1+e)<26):((AR m).map (wdS L n e t)).Nodup:=by rw[List.nodup_iff_pairwise_ne,BP];refine(List.Pairwise.and_mem.mp (List.nodup_iff_pairwise_ne.mp List.nodup_range)).imp λ{a b} h z=>?_;have g:=C4.mp h.1;have f:=C4.mp h.2.1;exact h.2.2 (qxr i d (c _ g) (c _ f) z)
def sizeB (c:Int):1+c % 2<=1+c % 2+c / 2 % (8-c % 2)/\1+c % 2+c / 2 % (8-c % 2)<=8:=by
 rcases (by lia:c % 2=0\/c % 2=1) with e|e <;>rw[e]
 .rw[show (8:Int)-0=8 from Z];lia
 .rw[show (8:Int)-1=7 from Z];lia
noncomputable def prL:List Int:=[100003,100019,100043,100049,100057,100069,100103,100109]
def pr_at {k:Nat}(h:k<8):∃p:Int,0<p/\(prL.map V.int)[k]?=some (V.int p):=by rcases (by lia:k=0\/k=1\/k=2\/k=3\/k=4\/k=5\/k=6\/k=7) with e|e|e|e|e|e|e|e <;>subst e <;>exact⟨_,En,Z⟩
section
variable {f:Nat->Option Nat}{n:Nat}
def Ch (f:Nat->Option Nat)(is:List Nat)(o:Option Nat):Prop:=∀i k,is[i]?=some k->f k=(is++o.toList)[i+1]?
def Ch.snoc {a:List Nat}{j:Nat}(h:Ch f a (some j)):Ch f (a++[j]) (f j):=by
 intro i k e;by_cases c:i<a.length
 .rw[Ba c]at e;rw[h i k e];exact(Ba (by show i+1<(a++[j]).length;rw[Ai,B3];lia)).symm
 .have l:i<(a++[j]).length:=(Ac.mp e).1;rw[Ai,B3]at l;obtain rfl:i=a.length:=by lia
  rw[AS (Ax _),Dx]at e;cases e;rw[AS (by rw[Ai,B3];lia),Ai,B3,Dx];cases f j <;>rfl
structure Rg (f:Nat->Option Nat)(n:Nat)(r:List Nat):Prop where
 ne:r≠[]
 nd:r.Nodup
 lt:∀k∈r,k<n
 nx:∀i k,r[i]?=some k->f k=r[(i+1) % r.length]?
def ch_rg {a:List Nat}{j b:Nat}(h:Ch f a (some j))(m:a.Nodup)(lt:∀k∈a,k<n)(e:a[b]?=some j):Rg f n (a.drop b):=by
 have l0:=(Ac.mp e).1;have d:(a.drop b).length=a.length-b:=Bv;refine⟨λz=>?_,(List.drop_sublist _ _).nodup m,λk hk=>lt k (Dt hk),λi k g=>?_⟩
 .rw[z]at d;have:0=a.length-b:=d;lia
 .have l:=(Ac.mp g).1;rw[d]at l;rw[List.getElem?_drop]at g;rw[h _ k g,d];by_cases c:i+1<a.length-b
  .rw[Nat.mod_eq_of_lt c,List.getElem?_drop,Ba (by lia),Nat.add_assoc]
  .rw[show i+1=a.length-b by lia,Nat.mod_self,List.getElem?_drop,show b+0=b from Z,e,AS (by lia),show b+i+1-a.length=0 by lia];rfl
def Od (f:Nat->Option Nat)(os:List Nat):Prop:=∀p k,os[p]?=some k->∀b,f k=some b->b∈os.take p
def od_app {d a:List Nat}{o:Option Nat}(h:Od f d)(c:Ch f a o)(n:∀j,o=some j->j∈d):Od f (d++a.reverse):=by
 intro p k e b l;by_cases m:p<d.length
 .rw[Ba m]at e;have:=h p k e b l;rw[List.take_append_of_le_length (by lia)];exact this
 .rw[AS (by lia)]at e;have i:=(Ac.mp e).1;rw[Cv]at i;rw[DQ i]at e;have g:=c _ k e;rw[l]at g;rw[List.take_append,A9];by_cases z:a.length-1-(p-d.length)+1<a.length
  .rw[Ba z]at g;right;rw[List.mem_iff_getElem?];refine⟨a.length-1-(a.length-1-(p-d.length)+1),?_⟩;rw[List.getElem?_take_of_lt (by lia),DQ (by lia),show a.length-1-(a.length-1-(a.length-1-(p-d.length)+1))=a.length-1-(p-d.length)+1 by lia];exact g.symm
  .rw[AS (by lia),show a.length-1-(p-d.length)+1-a.length=0 by lia]at g;left;rw[BW (by lia)];refine n b ?_;cases o with|none=>cases g|some j=>exact g.symm
theorem qve {l:List Nat}(b:l.Nodup)(lt:∀k∈l,k<n):l.length<=n:=by
 induction n generalizing l with
 |zero =>
  cases l with|nil=>exact Ax _|cons a l=>exact absurd (lt a Ak) (De _)
 |succ n ih =>
  have h:=ih (l:=l.erase n) (b.erase n) (λk hk=>by
   have h1:=lt k (List.mem_of_mem_erase hk);have h2:k≠n:=λz=>by rw[z]at hk;exact b.not_mem_erase hk
   lia)
  by_cases m:n∈l
  .rw[List.length_erase_of_mem m]at h;lia
  .rw[List.erase_of_not_mem m]at h;lia
end
structure Wr (nms:List Str)(bs:List (Option Nat)):Prop where
 nd:nms.Nodup
 len:bs.length=nms.length
 sm:nms.length<=6
 ok:∀k b,bo bs k=some b->b<nms.length
def qbb {H a:Hp}{x:Addr}{d:HO}(c:H x=none)(keep:∀b o,b≠x->upd H x d b=some o->a b=some o):Same H a:=λb o e=>keep b o (qab e c) (by rw[ze (qab e c)];exact e)
def spIL (K:Ag):Sp:=λvs H Q _=>∃(x C l:Addr)(zs:List V)(ini:Option Value),vs=[.ref x,.ref l]/\H x=some (exO x C none true)/\SqL K H l zs/\XA K C ini/\AU K (.ref C) "names"=some none /\
 ∀(dx l':Addr)(H':Hp),H dx=none->H l'=none->(∀b o,b≠x->H b=some o->H' b=some o)->H' x=some (exO x C (some dx) true)->H' dx=some (exD dx [("names",.ref l')])->H' l'=some (.lst zs)->Q .non H'
def OutR (a:Adr)(nms:List Str)(bs:List (Option Nat))(H:Hp)(E:XK):Prop:=∀(x d l:Addr)(H':Hp)(r:List Nat),Same H H'->H' x=some (exO x a.gG (some d) false)->H' d=some (exD d [("names",.ref l)])->H' l=some (.lst ((r.map (nm nms)).map V.str))->Rg (bo bs) nms.length r->E (.ref x) (some d) H'
def OutR.same {a:Adr}{nms:List Str}{bs:List (Option Nat)}{H b:Hp}{E:XK}(o:OutR a nms bs H E)(s:Same H b):OutR a nms bs b E:=λx d l c r z=>o x d l c r (s.trans z)
def spUn7 (a:Adr):Sp:=λvs H Q E=>∃(d t:Addr)(kvs:List (Key×V))(nms:List Str)(bs:List (Option Nat))(os:List Nat)(k:Nat),vs=[.str (nm nms k),.ref d,.ref t]/\H d=some (.dK kvs)/\H t=some (.lst ((os.map (nm nms)).map V.str))/\Wr nms bs/\(∀j∈os,j<nms.length)/\k<nms.length/\DicOk kvs nms bs /\
 (∀(q:Addr)(H':Hp)(is:List Nat)(o:Option Nat),H q=none->Same H H'->H' q=some (.lst ((is.map (nm nms)).map V.str))->Ch (bo bs) is o->is.Nodup->(∀j∈is,j<nms.length/\j∉os)->(is++o.toList)[0]?=some k->(∀j,o=some j->j∈os)->Q (.ref q) H')/\OutR a nms bs H E
def qm6 {nms:List Str}{a:List Nat}{j:Nat}(c:nms.Nodup)(lt:∀k∈a,k<nms.length)(b:j<nms.length):(a.map (nm nms)).contains (nm nms j)=true↔j∈a:=by
 rw[Cz,A8];constructor
 .rintro⟨k,hk,e⟩;rw[<- qi3 c (lt k hk) b e];exact hk
 .exact λh=>⟨j,h,Z⟩
def nm_ix {nms:List Str}{a:List Nat}{j:Nat}(g:nms.Nodup)(lt:∀k∈a,k<nms.length)(d:j<nms.length)(c:a.Nodup)(h:j∈a):∃i:Nat,a[i]?=some j/\(a.map (nm nms))[i]?=some (nm nms j)/\∀m,m<i->(a.map (nm nms))[m]? ≠ some (nm nms j):=by
 obtain⟨i,f,e⟩:=List.getElem_of_mem h;have e:a[i]?=some j:=by rw[Ae f,e]
 refine⟨i,e,by rw[Af,e];rfl,λm hm z=>?_⟩;rw[Af]at z;cases b:a[m]? with|none=>rw[b]at z;cases z|some k =>rw[b]at z;have:=qi3 g (lt k (Al b)) d (A5 z);rw[this,<- e]at b;have:=(Dn (by lia) c).mp b;lia
def Ru (C:Addr)(H:Hp)(v:V)(x:Str)(b:V):Prop:=∃(p dx:Addr)(fs:List (Str×V)),v=.ref p/\H p=some (.ins C dx fs)/\fs.lookup (Aa "name")=some (.str x)/\fs.lookup (Aa "base")=some b
def Ru.keep {C:Addr}{H a:Hp}{v:V}{x:Str}{b:V}(h:Ru C H v x b)(k:KeepN H a):Ru C a v x b:=by obtain⟨p,dx,fs,e,d,c⟩:=h;exact⟨p,dx,fs,e,k _ _ (λl z=>by cases z) d,c⟩
def Ru.same {C:Addr}{H a:Hp}{v:V}{x:Str}{b:V}(h:Ru C H v x b)(s:Same H a):Ru C a v x b:=h.keep (KeepN.of s)
def Rus (C:Addr)(H:Hp)(us:List V)(nms:List Str)(bs:List (Option Nat)):Prop:=us.length=nms.length/\∀(j:Nat)(y:V),us[j]?=some y->Ru C H y (nm nms j) (qh9 nms (bo bs j))
def spHa7 (a:Adr):Sp:=λvs H Q E=>∃(pr:Addr)(us:List V)(nms:List Str)(bs:List (Option Nat)),vs=[.ref pr]/\H pr=some (.lst us)/\Rus a.k7 H us nms bs/\Wr nms bs /\
 (∀(q:Addr)(H':Hp)(os:List Nat),H q=none->Same H H'->H' q=some (.lst ((os.map (nm nms)).map V.str))->os.Nodup->(∀j∈os,j<nms.length)->Od (bo bs) os->(∀j,j<nms.length->j∈os)->Q (.ref q) H')/\OutR a nms bs H E
theorem ch_hd {a:List Nat}{o:Option Nat}{k:Nat}{b:List Nat}(st:(a++o.toList)[0]?=some k)(c:∀j,o=some j->j∈b):k∈b++a.reverse:=by
 rw[A9,DV];cases a with
 |nil =>
  left;cases o with|none=>cases st|some j=>exact c k (by rw[<- show some j=some k from st])
 |cons j a =>right;rw[<- show j=k from A5 st];exact Ak
structure Ors (bs:List (Option Nat))(n:Nat)(os:List Nat):Prop where
 nd:os.Nodup
 lt:∀j∈os,j<n
 od:Od (bo bs) os
 al:∀j,j<n->j∈os
open Wri
noncomputable abbrev ts (n:Int):Str:=Aa (toString n)
def le_0 (c:Nat):(!decide ((⟨#[c]⟩:Str).cps.toList<(Aa "0").cps.toList))=decide (48<=c):=by
 have e:(Aa "0").cps.toList=[48]:=Ek;rw[e];show (!decide ([c]<[48]))=decide (48<=c);by_cases h:48<=c
 .have n:¬ [c]<[48]:=by simp[BN];lia
  simp[n,h]
 .have n:[c]<[48]:=by simp[BN];lia
  simp[n,h]
def le_9 (c:Nat):(!decide ((Aa "9").cps.toList<(⟨#[c]⟩:Str).cps.toList))=decide (c<=57):=by
 have e:(Aa "9").cps.toList=[57]:=Ek;rw[e];show (!decide ([57]<[c]))=decide (c<=57);by_cases h:c<=57
 .have n:¬ [57]<[c]:=by simp[BN];lia
  simp[n,h]
 .have n:[57]<[c]:=by simp[BN];lia
  simp[n,h]
def nought:Aa "0" = ⟨#[48]⟩:=Ek
def qxs (x:Str):Txt.startswith x (Aa "0")=decide (x.cps.toList.head?=some 48):=by
 rw[nought,List.head?_eq_getElem?];have:=StrLaws.subAt_one x 48 0;unfold Txt.startswith
 rw[CA,decide_eq_true_eq,<- this,AN,decide_eq_true_eq]
def nbF {b:Bool}(h:(!b)=true):b=false:=by cases b with|false=>rfl|true=>cases h
def nbT {b:Bool}(h:¬(!b)=true):b=true:=by cases b with|true=>rfl|false=>exact absurd rfl h
def spFig:Sp:=λvs H Q _=>∃c:Nat,vs=[.str ⟨#[c]⟩]/\Q (.bl (fig c)) H
noncomputable def wnm (x:Str)(m:Int):Bool:=(decide (1<=x.cps.size) && decide ((x.cps.size:Int)<=m)) && (x.cps.toList.all fig && Wri.plain x)
def spWn:Sp:=λvs H Q _=>∃(x:Str)(m:Int),vs=[.str x,.int m]/\x.length<=100000/\∀H',Same H H'->Q (.bl (wnm x m)) H'
def log_ok {n:Int}(k:Nat)(hk:(10:Nat) ^ k<2 ^ 1920)(a:0<=n)(h:n<10 ^ k):n.natAbs.log2<1920:=by
 by_cases z:n.natAbs=0
 .rw[z];decide
 .rw[Nat.log2_lt z];have:n.natAbs<10 ^ k:=by
   have e:((n.natAbs:Nat):Int)=n:=Int.natAbs_of_nonneg a;have:((n.natAbs:Nat):Int)<((10 ^ k:Nat):Int):=by rw[e,Int.natCast_pow];exact h
   exact Int.ofNat_lt.mp this
  exact Nat.lt_trans this hk
def ts_len {n:Int}{k:Nat}(a:0<=n)(hk:0<k)(h:n<10 ^ k):(ts n).length<=k:=PyProof.Rows.toString_length_le a hk h
noncomputable def due (x:Str)(m:Int):Bool:=wnm x ((ts m).length:Nat) && (decide (1<=nv x) && decide (nv x<=m))
def qvf:Sp:=λvs H Q _=>∃(x:Str)(m:Int),vs=[.str x,.int m]/\x.length<=50000/\1<=m/\m<10 ^ 62/\(due x m=true->∀H',Same H H'->Q (.int (nv x)) H')/\(due x m=false->∀H',Same H H'->Q .non H')
noncomputable def low (c:Nat):Bool:=decide (97<=c) && decide (c<=122)
def spLow:Sp:=λvs H Q _=>∃c:Nat,vs=[.str ⟨#[c]⟩]/\Q (.bl (low c)) H
def le_a (c:Nat):(!decide ((⟨#[c]⟩:Str).cps.toList<(Aa "a").cps.toList))=decide (97<=c):=by
 have e:(Aa "a").cps.toList=[97]:=Ek;rw[e];show (!decide ([c]<[97]))=decide (97<=c);by_cases h:97<=c
 .have n:¬ [c]<[97]:=by simp[BN];lia
  simp[n,h]
 .have n:[c]<[97]:=by simp[BN];lia
  simp[n,h]
def le_z (c:Nat):(!decide ((Aa "z").cps.toList<(⟨#[c]⟩:Str).cps.toList))=decide (c<=122):=by
 have e:(Aa "z").cps.toList=[122]:=Ek;rw[e];show (!decide ([122]<[c]))=decide (c<=122);by_cases h:c<=122
 .have n:¬ [122]<[c]:=by simp[BN];lia
  simp[n,h]
 .have n:[122]<[c]:=by simp[BN];lia
  simp[n,h]
def qbq (x:Str):Prop:=1<=x.cps.size/\x.cps.size<=8/\x.cps.toList.all low=true
noncomputable abbrev wS (s:String):Str:=Aa s
def iteT' {c:Prop}[Decidable c]{A B:Prop}(h:c)(a:A):if c then A else B:=by rw[if_pos h];exact a
def qq8:wS " " = ⟨#[32]⟩:=Ek
def qxt {x:Str}(h:qbq x){c:Nat}(hc:c<97):c∉x.cps.toList:=λz=>by have:=Bk.mp h.2.2 c z;unfold low at this;simp only[AN,decide_eq_true_eq]at this;lia
noncomputable def qex (ls:List Str):Str:=DZ ⟨#[10]⟩ ls
theorem newl:wS "\n" = ⟨#[10]⟩:=Ek
noncomputable def qdl:Option Str->V
 |none=>.non
 |some y=>.str y
def iteF' {c:Prop}[Decidable c]{A B:Prop}(h:¬c)(a:B):if c then A else B:=by rw[if_neg h];exact a
def str_ext {x y:Str}(h:x.cps.toList=y.cps.toList):x=y:=by cases x;cases y;simp only at h;exact congrArg Str.mk (Array.toList_inj.mp h)
def qdq (x y:Str):(x++y).cps.toList=x.cps.toList++y.cps.toList:=by rw[Ds,Eg]
def wds_ok {L:List Nat}{n e:Nat}{t:Int}(c:L.all low=true)(hn:n+1<=L.length)(h8:L.length<=8)(k:Nat):qbq (wdS L n e t k):=by
 have b:low (sgn t e k)=true:=by unfold low sgn;rw[decide_eq_true (show 97<=97+_ by lia),decide_eq_true (show 97+((t+((k / (1+e):Nat):Int)) % 26).toNat<=122 by lia)];rfl
 have tk:∀m,(L.take m).all low=true:=λm=>Bk.mpr λx a=>Bk.mp c x (Du a);have d:∀m,(L.drop m).all low=true:=λm=>Bk.mpr λx a=>Bk.mp c x (Dt a);unfold wdS;split
 .refine⟨?_,?_,?_⟩
  .show 1<=(L.take n++[sgn t e k]).toArray.size;rw[An,Ai,B3];lia
  .show (L.take n++[sgn t e k]).toArray.size<=8;rw[An,Ai,B3,A6];lia
  .show (L.take n++[sgn t e k]).all low=true;rw[List.all_append,tk,D3,b];rfl
 .refine⟨?_,?_,?_⟩
  .show 1<=(wdL L n (sgn t e k)).toArray.size;rw[An];unfold wdL;rw[Ai,Am];lia
  .show (wdL L n (sgn t e k)).toArray.size<=8;rw[An];unfold wdL;rw[Ai,Am,A6,Bv];lia
  .show (wdL L n (sgn t e k)).all low=true;unfold wdL;rw[List.all_append,tk,D3,b,d];rfl
def spWo7:Sp:=λvs H Q _=>∃(c:Int)(m:Nat),vs=[.int c,.int (m:Int)]/\(m<=26\/(c % 2=1/\m<=52))/\∀(q:Addr)(H':Hp)(nms:List Str),H q=none->Same H H'->H' q=some (.lst (nms.map V.str))->nms.length=m->nms.Nodup->(∀x∈nms,qbq x)->Q (.ref q) H'
theorem low26 {j:Nat}(h:j<26):low (97+j)=true:=by unfold low;rw[decide_eq_true (by lia),decide_eq_true (by lia)];rfl
noncomputable abbrev rlF (nm w o op b m u s pe pa pl py:V):List (Str×V):=[(Aa "name",nm),(Aa "who",w),(Aa "owes",o),(Aa "opens",op),(Aa "base",b),(Aa "many",m),(Aa "unit",u),(Aa "still",s),(Aa "ends",pe),(Aa "anew",pa),(Aa "longer",pl),(Aa "yields",py)]
noncomputable abbrev rq1 (a1:V):List (Str×V):=[(Aa "name",a1)]
noncomputable abbrev rq2 (a1 a2:V):List (Str×V):=rq1 a1++[(Aa "who",a2)]
noncomputable abbrev rq3 (a1 a2 a3:V):List (Str×V):=rq2 a1 a2++[(Aa "owes",a3)]
noncomputable abbrev rq4 (a1 a2 a3 a4:V):List (Str×V):=rq3 a1 a2 a3++[(Aa "opens",a4)]
noncomputable abbrev rq5 (a1 a2 a3 a4 a5:V):List (Str×V):=rq4 a1 a2 a3 a4++[(Aa "base",a5)]
noncomputable abbrev rq6 (a1 a2 a3 a4 a5 a6:V):List (Str×V):=rq5 a1 a2 a3 a4 a5++[(Aa "many",a6)]
noncomputable abbrev rq7 (a1 a2 a3 a4 a5 a6 a7:V):List (Str×V):=rq6 a1 a2 a3 a4 a5 a6++[(Aa "unit",a7)]
noncomputable abbrev rq8 (a1 a2 a3 a4 a5 a6 a7 a8:V):List (Str×V):=rq7 a1 a2 a3 a4 a5 a6 a7++[(Aa "still",a8)]
noncomputable abbrev rq9 (a1 a2 a3 a4 a5 a6 a7 a8 a9:V):List (Str×V):=rq8 a1 a2 a3 a4 a5 a6 a7 a8++[(Aa "ends",a9)]
noncomputable abbrev qp7 (a1 a2 a3 a4 a5 a6 a7 a8 a9 a10:V):List (Str×V):=rq9 a1 a2 a3 a4 a5 a6 a7 a8 a9++[(Aa "anew",a10)]
noncomputable abbrev qoo (a1 a2 a3 a4 a5 a6 a7 a8 a9 a10 a11:V):List (Str×V):=qp7 a1 a2 a3 a4 a5 a6 a7 a8 a9 a10++[(Aa "longer",a11)]
noncomputable abbrev qp8 (a1 a2 a3 a4 a5 a6 a7 a8 a9 a10 a11 a12:V):List (Str×V):=qoo a1 a2 a3 a4 a5 a6 a7 a8 a9 a10 a11++[(Aa "yields",a12)]
noncomputable def qop (r:Str×Int×Int):List V:=[.str r.1,.int r.2.1,.int r.2.2]
def StAt (H:Hp)(v:V):Option (Str×Str)->Prop
 |none=>v=.non
 |some s=>∃p,v=.ref p/\H p=some (.tup [.str s.1,.str s.2])
theorem StAt.same {H a:Hp}{v:V}{o:Option (Str×Str)}(h:StAt H v o)(z:Same H a):StAt a v o:=by
 cases o with
 |none=>exact h
 |some s=>obtain⟨p,c,b⟩:=h;exact⟨p,c,z _ _ b⟩
def qxu (K:Ag)(f:Str):Sp:=λvs H Q _=>∃(x C:Addr)(y:V)(ini:Option Value),vs=[.ref x,y]/\H x=some (exO x C none true)/\XA K C ini/\AU K (.ref C) f=some none /\
 ∀(dx:Addr)(H':Hp),H dx=none->(∀b o,b≠x->H b=some o->H' b=some o)->H' x=some (exO x C (some dx) true)->H' dx=some (exD dx [(f,y)])->Q .non H'
noncomputable def nmB (x:Str):Bool:=(decide (1<=x.cps.size) && decide (x.cps.size<=8)) && x.cps.toList.all low
theorem qc6 {x:Str}:nmB x=true↔qbq x:=by unfold nmB qbq;rw[AN,AN,decide_eq_true_eq,decide_eq_true_eq,and_assoc]
def spNmG:Sp:=λvs H Q _=>∃x:Str,vs=[.str x]/\x.length<=2000/\∀H',Same H H'->Q (.bl (nmB x)) H'
noncomputable def qcf:List Str:=[wS "days",wS "weeks",wS "court"]
inductive Ask where
 |num (m:Int)
 |name
 |unit
 |lit (c:Str)
noncomputable def askV:Ask->V
 |.num m=>.int m
 |.name=>.str (wS "NAME")
 |.unit=>.str (wS "UNIT")
 |.lit c=>.str c
def qvg:Ask->Prop
 |.num m=>1<=m/\m<10 ^ 62
 |.name=>True
 |.unit=>True
 |.lit c=>c≠wS "NAME" /\ c≠wS "UNIT"
noncomputable def qda (w:Str):Ask->Option V
 |.num m=>if due w m=true then some (.int (nv w)) else none
 |.name=>if nmB w=true then some (.str w) else none
 |.unit=>if qcf.contains w=true then some (.str w) else none
 |.lit c=>if w=c then some (.str w) else none
def spValG:Sp:=λvs H Q _=>∃(w:Str)(q:Ask),vs=[.str w,askV q]/\qvg q/\w.length<=2000/\∀H',Same H H'->Q ((qda w q).getD .non) H'
noncomputable def qch:List Str->List Ask->Option (List V)
 | [],[]=>some []
 |w::ws,q::qs=>(qda w q).bind λv=>(qch ws qs).map (v :: ·)
 |_,_=>none
noncomputable def qdt (d:Str):List Ask:=[.lit (wS "term"),.name,.lit (wS "of"),.name,.lit (wS "due"),.name,.lit d,.name,.num 40,.unit]
noncomputable def qkx:List (List Ask):=[qdt (wS "from"),qdt (wS "behind"),[.lit (wS "ends"),.name,.name],[.lit (wS "anew"),.name,.name],[.lit (wS "longer"),.name,.name,.num 20,.lit (wS "times"),.num 3],[.lit (wS "still"),.name,.name,.name],[.lit (wS "yields"),.name,.name]]
noncomputable def qia (ws:List Str):Option (List V):=qkx.findSome? (qch ws)
noncomputable def zsG (ws:List Str)(f:List Ask):List V:=(ws.zip f).map λp=>(qda p.1 p.2).getD .non
def qxv {ws:List Str}{f:List Ask}(h:ws.length=f.length):(zsG ws f).length=ws.length:=by unfold zsG;rw[Ab,List.length_zip,h,Nat.min_self]
def qmd (w:Str)(q:Ask):qeb ((qda w q).getD .non)=true/\(qda w q=none->(qda w q).getD .non=.non)/\∀v,qda w q=some v->eqV v .non=false:=by cases q <;>(unfold qda;dsimp only;split <;>exact⟨Z,λz=>(by first|rfl|cases z),λv z=>by first | (cases z;rfl)|cases z⟩)
def qvh (ws:List Str)(f:List Ask):(zsG ws f).all qeb=true:=by unfold zsG;rw[DI,Bk];exact λp _=>(qmd p.1 p.2).1
theorem qq9:∀{ws:List Str}{f:List Ask},ws.length=f.length->qch ws f=if inV .non (zsG ws f)=true then none else some (zsG ws f)
 | [],[],_=>rfl
 |w::ws,q::qs,h=>by
  have c:=qq9 (ws:=ws) (f:=qs) (C2 h);obtain⟨_,h1,d⟩:=qmd w q;have e:inV .non (zsG (w::ws) (q::qs))=(eqV ((qda w q).getD .non) .non || inV .non (zsG ws qs)):=by unfold inV zsG;rw[D9,At,D4]
  rw[e];show (qda w q).bind (λv=>(qch ws qs).map (v :: ·))=_;cases a:qda w q with
  |none=>rfl
  |some v =>
   have:=d v a;show (qch ws qs).map (v :: ·)=if (eqV v .non || inV .non (zsG ws qs))=true then none else some (zsG (w::ws) (q::qs));rw[this,Bool.false_or,c];have b:zsG (w::ws) (q::qs)=v::zsG ws qs:=by unfold zsG;rw[D9,At,a];rfl
   rw[b];split <;>rfl
theorem qax:∀{ws:List Str}{f:List Ask},ws.length≠f.length->qch ws f=none
 | [],[],h=>absurd rfl h
 | [],_::_,_=>rfl
 |_::_,[],_=>rfl
 |w::ws,q::qs,h=>by show (qda w q).bind (λv=>(qch ws qs).map (v :: ·))=none;rw[qax (λz=>h (by rw[Am,Am,z]))];cases qda w q <;>rfl
theorem qvi:∀f∈qkx,∀q∈f,qvg q:=by
 have t:∀d,d≠wS "NAME" -> d≠wS "UNIT" -> ∀q∈qdt d,qvg q:=λd e c q a=>by simp only[qdt,Ap,Av,or_false]at a;rcases a with rfl|rfl|rfl|rfl|rfl|rfl|rfl|rfl|rfl|rfl;all_goals first|trivial|exact⟨e,c⟩|exact⟨En,En⟩|exact⟨Ek,Ek⟩
 intro f b;simp only[qkx,Ap,Av,or_false]at b;rcases b with rfl|rfl|rfl|rfl|rfl|rfl|rfl
 .exact t _ Ek Ek
 .exact t _ Ek Ek
 .intro q a;simp only[Ap,Av,or_false]at a;rcases a with rfl|rfl|rfl;all_goals first|trivial|exact⟨En,En⟩|exact⟨Ek,Ek⟩
 .intro q a;simp only[Ap,Av,or_false]at a;rcases a with rfl|rfl|rfl;all_goals first|trivial|exact⟨En,En⟩|exact⟨Ek,Ek⟩
 .intro q a;simp only[Ap,Av,or_false]at a;rcases a with rfl|rfl|rfl|rfl|rfl|rfl;all_goals first|trivial|exact⟨En,En⟩|exact⟨Ek,Ek⟩
 .intro q a;simp only[Ap,Av,or_false]at a;rcases a with rfl|rfl|rfl|rfl;all_goals first|trivial|exact⟨En,En⟩|exact⟨Ek,Ek⟩
 .intro q a;simp only[Ap,Av,or_false]at a;rcases a with rfl|rfl|rfl;all_goals first|trivial|exact⟨En,En⟩|exact⟨Ek,Ek⟩
def spRowG:Sp:=λvs H Q _=>∃l:Str,vs=[.str l]/\l.length<=1000/\(∀(q:Addr)(H':Hp)(us:List V),H q=none->Same H H'->qia (Cp l (wS " "))=some us->H' q=some (.lst us)->Q (.ref q) H')/\(qia (Cp l (wS " "))=none->∀H',Same H H'->Q .non H')
inductive Rw7 where
 |term (x w o:Str) (d:Bool) (y:Str) (m:Int) (u:Str)
 |ends (x k:Str)
 |anew (x k:Str)
 |longer (x k:Str) (u t:Int)
 |still (x k l:Str)
 |yields (x y:Str)
noncomputable def fbS (d:Bool):Str:=if d=true then wS "behind" else wS "from"
noncomputable def qcs:Rw7->List V
 |.term x w o d y m u=>[.str (wS "term"),.str x,.str (wS "of"),.str w,.str (wS "due"),.str o,.str (fbS d),.str y,.int m,.str u]
 |.ends x k=>[.str (wS "ends"),.str x,.str k]
 |.anew x k=>[.str (wS "anew"),.str x,.str k]
 |.longer x k u t=>[.str (wS "longer"),.str x,.str k,.int u,.str (wS "times"),.int t]
 |.still x k l=>[.str (wS "still"),.str x,.str k,.str l]
 |.yields x y=>[.str (wS "yields"),.str x,.str y]
noncomputable def qgk:List Str->Option Rw7
 | [a,x,b,w,c,o,d,y,m,u]=>if a=wS "term" /\ nmB x=true/\b=wS "of" /\ nmB w=true/\c=wS "due" /\ nmB o=true/\(d=wS "from" \/ d=wS "behind")/\nmB y=true/\due m 40=true/\qcf.contains u=true then some (.term x w o (decide (d=wS "behind")) y (nv m) u) else none
 | [a,x,k]=>if nmB x=true/\nmB k=true then (if a=wS "ends" then some (.ends x k) else if a=wS "anew" then some (.anew x k) else if a=wS "yields" then some (.yields x k) else none) else none
 | [a,x,k,u,t,n]=>if a=wS "longer" /\ nmB x=true/\nmB k=true/\due u 20=true/\t=wS "times" /\ due n 3=true then some (.longer x k (nv u) (nv n)) else none
 | [a,x,k,l]=>if a=wS "still" /\ nmB x=true/\nmB k=true/\nmB l=true then some (.still x k l) else none
 |_=>none
theorem qra {α β:Type}{g:α->Option β}:∀{l:List α}{i:Nat}{x:α}{y:β},l[i]?=some x->g x=some y->(∀j z,j<i->l[j]?=some z->g z=none)->l.findSome? g=some y
 | [],i,_,_,h,_,_=>by cases i <;>cases h
 |z::l,0,x,y,h,e,_=>by cases h;rw[Ei,e]
 |z::l,i+1,x,y,h,e,al=>by rw[Ei,al 0 z (DL _) Z];exact qra (l:=l) (i:=i) h e λj w a b=>al (j+1) w (Nat.succ_lt_succ a) b
def qje {w c:Str}(h:w=c):qda w (.lit c)=some (.str w):=if_pos h
def qjf {w c:Str}(h:¬w=c):qda w (.lit c)=none:=if_neg h
def qer {w:Str}(h:nmB w=true):qda w .name=some (.str w):=if_pos h
def qes {w:Str}(h:¬nmB w=true):qda w .name=none:=if_neg h
def qvj {w:Str}{m:Int}(h:due w m=true):qda w (.num m)=some (.int (nv w)):=if_pos h
def qvk {w:Str}{m:Int}(h:¬due w m=true):qda w (.num m)=none:=if_neg h
def unit_t {w:Str}(h:qcf.contains w=true):qda w .unit=some (.str w):=if_pos h
def unit_f {w:Str}(h:¬qcf.contains w=true):qda w .unit=none:=if_neg h
def qbw {w:Str}{q:Ask}{v:V}{ws:List Str}{a:List Ask}{vs:List V}(h:qda w q=some v)(t:qch ws a=some vs):qch (w::ws) (q::a)=some (v::vs):=by show (qda w q).bind (λv=>(qch ws a).map (v :: ·))=_;rw[h,t];rfl
def qbx {w:Str}{q:Ask}{ws:List Str}{a:List Ask}(h:qda w q=none):qch (w::ws) (q::a)=none:=by show (qda w q).bind (λv=>(qch ws a).map (v :: ·))=_;rw[h];rfl
def qaf {w:Str}{q:Ask}{ws:List Str}{a:List Ask}(t:qch ws a=none):qch (w::ws) (q::a)=none:=by show (qda w q).bind (λv=>(qch ws a).map (v :: ·))=_;rw[t];cases qda w q <;>rfl
def qme {a x b w c o d y m u e:Str}:qch [a,x,b,w,c,o,d,y,m,u] (qdt e)=if a=wS "term" /\ nmB x=true/\b=wS "of" /\ nmB w=true/\c=wS "due" /\ nmB o=true/\d=e/\nmB y=true/\due m 40=true/\qcf.contains u=true then some [.str a,.str x,.str b,.str w,.str c,.str o,.str d,.str y,.int (nv m),.str u] else none:=by
 unfold qdt;by_cases q:a=wS "term"
 .by_cases i:nmB x=true
  .by_cases l:b=wS "of"
   .by_cases f:nmB w=true
    .by_cases n:c=wS "due"
     .by_cases j:nmB o=true
      .by_cases p:d=e
       .by_cases g:nmB y=true
        .by_cases k:due m 40=true
         .by_cases h:qcf.contains u=true
          .rw[if_pos ⟨q,i,l,f,n,j,p,g,k,h⟩];exact qbw (qje q) (qbw (qer i) (qbw (qje l) (qbw (qer f) (qbw (qje n) (qbw (qer j) (qbw (qje p) (qbw (qer g) (qbw (qvj k) (qbw (unit_t h) Z)))))))))
          .rw[if_neg λz=>h z.2.2.2.2.2.2.2.2.2];exact qaf (qaf (qaf (qaf (qaf (qaf (qaf (qaf (qaf (qbx (unit_f h))))))))))
         .rw[if_neg λz=>k z.2.2.2.2.2.2.2.2.1];exact qaf (qaf (qaf (qaf (qaf (qaf (qaf (qaf (qbx (qvk k)))))))))
        .rw[if_neg λz=>g z.2.2.2.2.2.2.2.1];exact qaf (qaf (qaf (qaf (qaf (qaf (qaf (qbx (qes g))))))))
       .rw[if_neg λz=>p z.2.2.2.2.2.2.1];exact qaf (qaf (qaf (qaf (qaf (qaf (qbx (qjf p)))))))
      .rw[if_neg λz=>j z.2.2.2.2.2.1];exact qaf (qaf (qaf (qaf (qaf (qbx (qes j))))))
     .rw[if_neg λz=>n z.2.2.2.2.1];exact qaf (qaf (qaf (qaf (qbx (qjf n)))))
    .rw[if_neg λz=>f z.2.2.2.1];exact qaf (qaf (qaf (qbx (qes f))))
   .rw[if_neg λz=>l z.2.2.1];exact qaf (qaf (qbx (qjf l)))
  .rw[if_neg λz=>i z.2.1];exact qaf (qbx (qes i))
 .rw[if_neg λz=>q z.1];exact qbx (qjf q)
def qp9 {a x k e:Str}:qch [a,x,k] [.lit e,.name,.name]=if a=e/\nmB x=true/\nmB k=true then some [.str a,.str x,.str k] else none:=by
 by_cases b:a=e
 .by_cases d:nmB x=true
  .by_cases c:nmB k=true
   .rw[if_pos ⟨b,d,c⟩];exact qbw (qje b) (qbw (qer d) (qbw (qer c) Z))
   .rw[if_neg λz=>c z.2.2];exact qaf (qaf (qbx (qes c)))
  .rw[if_neg λz=>d z.2.1];exact qaf (qbx (qes d))
 .rw[if_neg λz=>b z.1];exact qbx (qjf b)
def vals_4 {a x k l e:Str}:qch [a,x,k,l] [.lit e,.name,.name,.name]=if a=e/\nmB x=true/\nmB k=true/\nmB l=true then some [.str a,.str x,.str k,.str l] else none:=by
 by_cases b:a=e
 .by_cases f:nmB x=true
  .by_cases c:nmB k=true
   .by_cases d:nmB l=true
    .rw[if_pos ⟨b,f,c,d⟩];exact qbw (qje b) (qbw (qer f) (qbw (qer c) (qbw (qer d) Z)))
    .rw[if_neg λz=>d z.2.2.2];exact qaf (qaf (qaf (qbx (qes d))))
   .rw[if_neg λz=>c z.2.2.1];exact qaf (qaf (qbx (qes c)))
  .rw[if_neg λz=>f z.2.1];exact qaf (qbx (qes f))
 .rw[if_neg λz=>b z.1];exact qbx (qjf b)
def vals_6 {a x k u t n:Str}:qch [a,x,k,u,t,n] [.lit (wS "longer"),.name,.name,.num 20,.lit (wS "times"),.num 3]=if a=wS "longer" /\ nmB x=true/\nmB k=true/\due u 20=true/\t=wS "times" /\ due n 3=true then some [.str a,.str x,.str k,.int (nv u),.str t,.int (nv n)] else none:=by
 by_cases c:a=wS "longer"
 .by_cases g:nmB x=true
  .by_cases d:nmB k=true
   .by_cases e:due u 20=true
    .by_cases f:t=wS "times"
     .by_cases b:due n 3=true
      .rw[if_pos ⟨c,g,d,e,f,b⟩];exact qbw (qje c) (qbw (qer g) (qbw (qer d) (qbw (qvj e) (qbw (qje f) (qbw (qvj b) Z)))))
      .rw[if_neg λz=>b z.2.2.2.2.2];exact qaf (qaf (qaf (qaf (qaf (qbx (qvk b))))))
     .rw[if_neg λz=>f z.2.2.2.2.1];exact qaf (qaf (qaf (qaf (qbx (qjf f)))))
    .rw[if_neg λz=>e z.2.2.2.1];exact qaf (qaf (qaf (qbx (qvk e))))
   .rw[if_neg λz=>d z.2.2.1];exact qaf (qaf (qbx (qes d)))
  .rw[if_neg λz=>g z.2.1];exact qaf (qbx (qes g))
 .rw[if_neg λz=>c z.1];exact qbx (qjf c)
theorem qib (ws:List Str):qia ws=(qch ws (qdt (wS "from"))).or ((qch ws (qdt (wS "behind"))).or ((qch ws [.lit (wS "ends"),.name,.name]).or ((qch ws [.lit (wS "anew"),.name,.name]).or ((qch ws [.lit (wS "longer"),.name,.name,.num 20,.lit (wS "times"),.num 3]).or ((qch ws [.lit (wS "still"),.name,.name,.name]).or (qch ws [.lit (wS "yields"),.name,.name])))))):=by
 unfold qia qkx;simp only[Ei,List.findSome?_nil];cases qch ws (qdt (wS "from")) with
 |some v=>rfl
 |none =>
  cases qch ws (qdt (wS "behind")) with
  |some v=>rfl
  |none =>
   cases qch ws [.lit (wS "ends"),.name,.name] with
   |some v=>rfl
   |none =>
    cases qch ws [.lit (wS "anew"),.name,.name] with
    |some v=>rfl
    |none =>
     cases qch ws [.lit (wS "longer"),.name,.name,.num 20,.lit (wS "times"),.num 3] with
     |some v=>rfl
     |none =>
      cases qch ws [.lit (wS "still"),.name,.name,.name] with|some v=>rfl|none=>cases qch ws [.lit (wS "yields"),.name,.name] <;>rfl
def qd9 {ws:List Str}(h:ws.length≠10/\ws.length≠3/\ws.length≠6/\ws.length≠4):qia ws=none:=by rw[qib,qax (f:=qdt (wS "from")) h.1,qax (f:=qdt (wS "behind")) h.1,qax (f:=[.lit (wS "ends"),.name,.name]) h.2.1,qax (f:=[.lit (wS "anew"),.name,.name]) h.2.1,qax (f:=[.lit (wS "longer"),.name,.name,.num 20,.lit (wS "times"),.num 3]) h.2.2.1,qax (f:=[.lit (wS "still"),.name,.name,.name]) h.2.2.2,qax (f:=[.lit (wS "yields"),.name,.name]) h.2.1];rfl
def qrb (a x b w c o d y m u:Str):qgk [a,x,b,w,c,o,d,y,m,u]=if a=wS "term" /\ nmB x=true/\b=wS "of" /\ nmB w=true/\c=wS "due" /\ nmB o=true/\(d=wS "from" \/ d=wS "behind")/\nmB y=true/\due m 40=true/\qcf.contains u=true then some (.term x w o (decide (d=wS "behind")) y (nv m) u) else none:=rfl
def qm7 (a x k:Str):qgk [a,x,k]=if nmB x=true/\nmB k=true then (if a=wS "ends" then some (.ends x k) else if a=wS "anew" then some (.anew x k) else if a=wS "yields" then some (.yields x k) else none) else none:=rfl
def qvl (a x k u t n:Str):qgk [a,x,k,u,t,n]=if a=wS "longer" /\ nmB x=true/\nmB k=true/\due u 20=true/\t=wS "times" /\ due n 3=true then some (.longer x k (nv u) (nv n)) else none:=rfl
def qvm (a x k l:Str):qgk [a,x,k,l]=if a=wS "still" /\ nmB x=true/\nmB k=true/\nmB l=true then some (.still x k l) else none:=rfl
def qxw {a x b w c o d y m u:Str}:qia [a,x,b,w,c,o,d,y,m,u]=(qgk [a,x,b,w,c,o,d,y,m,u]).map qcs:=by
 have l:([a,x,b,w,c,o,d,y,m,u]:List Str).length=10:=rfl;rw[qib,qme,qme,qax (f:=[.lit (wS "ends"),.name,.name]) (by rw[l];decide),qax (f:=[.lit (wS "anew"),.name,.name]) (by rw[l];decide),qax (f:=[.lit (wS "longer"),.name,.name,.num 20,.lit (wS "times"),.num 3]) (by rw[l];decide),qax (f:=[.lit (wS "still"),.name,.name,.name]) (by rw[l];decide),qax (f:=[.lit (wS "yields"),.name,.name]) (by rw[l];decide)];rw[qrb];have s:wS "from" ≠ wS "behind" := by decide +kernel
 by_cases g:a=wS "term" /\ nmB x=true/\b=wS "of" /\ nmB w=true/\c=wS "due" /\ nmB o=true/\d=wS "from" /\ nmB y=true/\due m 40=true/\qcf.contains u=true
 .obtain⟨j,g,e,k,i,p,h,n⟩:=g;rw[if_pos ⟨j,g,e,k,i,p,h,n⟩,if_neg (λz=>s (h.symm.trans z.2.2.2.2.2.2.1)),if_pos ⟨j,g,e,k,i,p,.inl h,n⟩];subst j e i h;rw[decide_eq_false s];rfl
 .rw[if_neg g];by_cases e:a=wS "term" /\ nmB x=true/\b=wS "of" /\ nmB w=true/\c=wS "due" /\ nmB o=true/\d=wS "behind" /\ nmB y=true/\due m 40=true/\qcf.contains u=true
  .obtain⟨j,g,e,k,i,p,h,n⟩:=e;rw[if_pos ⟨j,g,e,k,i,p,h,n⟩,if_pos ⟨j,g,e,k,i,p,.inr h,n⟩];subst j e i h;rw[decide_eq_true Z];rfl
  .rw[if_neg e,if_neg λz=>by
    obtain⟨B,r,t,A,C,v,q,D⟩:=z
    rcases q with q|q
    .exact g ⟨B,r,t,A,C,v,q,D⟩
    .exact e ⟨B,r,t,A,C,v,q,D⟩]
   rfl
def rowV_3 {a x k:Str}:qia [a,x,k]=(qgk [a,x,k]).map qcs:=by
 have l:([a,x,k]:List Str).length=3:=rfl;rw[qib,qax (f:=qdt (wS "from")) (by rw[l];decide),qax (f:=qdt (wS "behind")) (by rw[l];decide),qp9,qp9,qax (f:=[.lit (wS "longer"),.name,.name,.num 20,.lit (wS "times"),.num 3]) (by rw[l];decide),qax (f:=[.lit (wS "still"),.name,.name,.name]) (by rw[l];decide),qp9];rw[qm7];by_cases h:nmB x=true/\nmB k=true
 .rw[if_pos h];by_cases d:a=wS "ends"
  .rw[if_pos ⟨d,h⟩,if_pos d];subst d;rfl
  .rw[if_neg (λz=>d z.1),if_neg d];by_cases b:a=wS "anew"
   .rw[if_pos ⟨b,h⟩,if_pos b];subst b;rfl
   .rw[if_neg (λz=>b z.1),if_neg b];by_cases c:a=wS "yields"
    .rw[if_pos ⟨c,h⟩,if_pos c];subst c;rfl
    .rw[if_neg (λz=>c z.1),if_neg c];rfl
 .rw[if_neg h,if_neg (λz=>h z.2),if_neg (λz=>h z.2),if_neg (λz=>h z.2)];rfl
def rowV_4 {a x k e:Str}:qia [a,x,k,e]=(qgk [a,x,k,e]).map qcs:=by
 have l:([a,x,k,e]:List Str).length=4:=rfl;rw[qib,qax (f:=qdt (wS "from")) (by rw[l];decide),qax (f:=qdt (wS "behind")) (by rw[l];decide),qax (f:=[.lit (wS "ends"),.name,.name]) (by rw[l];decide),qax (f:=[.lit (wS "anew"),.name,.name]) (by rw[l];decide),qax (f:=[.lit (wS "longer"),.name,.name,.num 20,.lit (wS "times"),.num 3]) (by rw[l];decide),vals_4,qax (f:=[.lit (wS "yields"),.name,.name]) (by rw[l];decide)];rw[qvm];by_cases h:a=wS "still" /\ nmB x=true/\nmB k=true/\nmB e=true
 .rw[if_pos h,if_pos h];obtain⟨b,_⟩:=h;subst b;rfl
 .rw[if_neg h,if_neg h];rfl
def rowV_6 {a x k u t n:Str}:qia [a,x,k,u,t,n]=(qgk [a,x,k,u,t,n]).map qcs:=by
 have l:([a,x,k,u,t,n]:List Str).length=6:=rfl;rw[qib,qax (f:=qdt (wS "from")) (by rw[l];decide),qax (f:=qdt (wS "behind")) (by rw[l];decide),qax (f:=[.lit (wS "ends"),.name,.name]) (by rw[l];decide),qax (f:=[.lit (wS "anew"),.name,.name]) (by rw[l];decide),vals_6,qax (f:=[.lit (wS "still"),.name,.name,.name]) (by rw[l];decide),qax (f:=[.lit (wS "yields"),.name,.name]) (by rw[l];decide)];rw[qvl];by_cases h:a=wS "longer" /\ nmB x=true/\nmB k=true/\due u 20=true/\t=wS "times" /\ due n 3=true
 .rw[if_pos h,if_pos h];obtain⟨b,_,_,_,c,_⟩:=h;subst b c;rfl
 .rw[if_neg h,if_neg h];rfl
theorem rowV_R:∀ws:List Str,qia ws=(qgk ws).map qcs
 | [a,x,b,w,c,o,d,y,m,u]=>qxw
 | [a,x,k]=>rowV_3
 | [a,x,k,u,t,n]=>rowV_6
 | [a,x,k,l]=>rowV_4
 | []=>qd9 (by simp)
 | [_]=>qd9 (by simp)
 | [_,_]=>qd9 (by simp)
 | [_,_,_,_,_]=>qd9 (by simp)
 | [_,_,_,_,_,_,_]=>qd9 (by simp)
 | [_,_,_,_,_,_,_,_]=>qd9 (by simp)
 | [_,_,_,_,_,_,_,_,_]=>qd9 (by simp)
 |_::_::_::_::_::_::_::_::_::_::_::r=>qd9 (by simp only[Am];lia)
structure RR where
 name:Str
 who:Str
 owes:Str
 opens:Option Str
 base:Option Str
 many:Int
 unit:Str
 ends:List Str
 anew:List Str
 longer:List (Str×Int×Int)
 still:Option (Str×Str)
 yields:List Str
noncomputable def r0:RR:=⟨wS "",wS "",wS "",none,none,0,wS "",[],[],[],none,[]⟩
noncomputable def stL:Option (Str×Str)->List Str
 |none=>[]
 |some s=>[s.1,s.2]
noncomputable def qau (r:RR):List Str:=([r.owes]++r.ends++r.anew++r.longer.map (·.1))++r.opens.toList++stL r.still
inductive Er where
 |rule (i:Nat)
 |term (x:Str)
 |twice (x:Str)
 |unfit (i:Nat)
noncomputable def qaj:List RR->Str->Option Nat
 | [],_=>none
 |r::rs,x=>if r.name=x then some 0 else (qaj rs x).map (· + 1)
noncomputable def kin:Rw7->List Str
 |.term _ _ _ _ _ _ _=>[]
 |.ends _ k=>[k]
 |.anew _ k=>[k]
 |.longer _ k _ _=>[k]
 |.still _ k l=>[k,l]
 |.yields _ _=>[]
noncomputable def unfX (r:RR):Rw7->Bool
 |.still _ k l=>r.still.isSome || decide (k=l)
 |.longer _ _ _ _=>decide (r.longer.length=2)
 |_=>false
noncomputable def qho (r:RR)(row:Rw7):Bool:=((kin row).any λk=>(qau r).contains k) || unfX r row
noncomputable def qa4 (r:RR):Rw7->RR
 |.ends _ k=>{r with ends:=r.ends++[k]}
 |.anew _ k=>{r with anew:=r.anew++[k]}
 |.longer _ k u t=>{r with longer:=r.longer++[(k,u,t)]}
 |.still _ k l=>{r with still:=some (k,l)}
 |_=>r
noncomputable def qm8 (x w o:Str)(d:Bool)(y:Str)(m:Int)(u:Str):RR:=⟨x,w,o,if d=true then none else some y,if d=true then some y else none,m,u,[],[],[],none,[]⟩
noncomputable def qar:Rw7->Str
 |.term x _ _ _ _ _ _=>x
 |.ends x _=>x
 |.anew x _=>x
 |.longer x _ _ _=>x
 |.still x _ _=>x
 |.yields x _=>x
noncomputable def isT:Rw7->Bool
 |.term _ _ _ _ _ _ _=>true
 |_=>false
noncomputable def qec (rs:List RR)(i:Nat)(x w o:Str)(d:Bool)(y:Str)(m:Int)(u:Str):Except Er (List RR) :=
 if (qaj rs x).isSome=true then .error (.twice x) else if rs.length=6\/(d=false/\o=y) then .error (.unfit i) else .ok (rs++[qm8 x w o d y m u])
noncomputable def qg7 (rs:List RR)(i:Nat)(row:Rw7):Except Er (List RR) :=
 match qaj rs (qar row) with
 |none=>.error (.term (qar row))
 |some j=>if qho (rs.getD j r0) row=true then .error (.unfit i) else .ok (rs.set j (qa4 (rs.getD j r0) row))
noncomputable def qcu (rs:List RR)(i:Nat):Rw7->Except Er (List RR)
 |.term x w o d y m u=>qec rs i x w o d y m u
 |row=>qg7 rs i row
noncomputable def qca (rs:List RR)(i j:Nat)(y:Str):Except Er (List RR) :=
 match qaj rs y with
 |none=>.error (.term y)
 |some l=>if y=(rs.getD j r0).name\/y∈(rs.getD j r0).yields\/(rs.getD l r0).owes≠(rs.getD j r0).owes then .error (.unfit i) else .ok (rs.set j {rs.getD j r0 with yields:=(rs.getD j r0).yields++[y]})
noncomputable def qbz (rs:List RR)(i:Nat):Rw7->Except Er (List RR)
 |.term x _ _ _ _ _ _=>match qaj rs x with
  |none=>.ok rs
  |some j=>match (rs.getD j r0).base with
   |none=>.ok rs
   |some y=>if (qaj rs y).isSome=true then .ok rs else .error (.term y)
 |.yields x y=>match qaj rs x with
  |none=>.ok rs
  |some j=>qca rs i j y
 |_=>.ok rs
structure RA where
 p:Addr
 dx:Addr
 pe:Addr
 pa:Addr
 pl:Addr
 py:Addr
noncomputable def own (A:RA):List Addr:=[A.p,A.pe,A.pa,A.pl,A.py]
def KeepT (S:List Addr)(H H':Hp):Prop:=∀b o,(b∉S \/ ∃t,o=.tup t)->H b=some o->H' b=some o
def KeepT.of {S:List Addr}{H a:Hp}(s:Same H a):KeepT S H a:=λb o _ e=>s b o e
def KeepT.trans {S:List Addr}{H d f:Hp}(a:KeepT S H d)(b:KeepT S d f):KeepT S H f:=λc o n e=>b c o n (a c o n e)
def KeepT.sub {S d:List Addr}{H b:Hp}(a:KeepT S H b)(h:∀z∈S,z∈d):KeepT d H b:=λc o n e=>a c o (n.imp (λm z=>m (h c z)) id) e
def KeepT.put {S:List Addr}{H:Hp}{z:Addr}{o o':HO}(hz:z∈S)(e:H z=some o)(a:∀t,o ≠ .tup t):KeepT S H (upd H z o'):=λb u n h=>by
 have ne:b≠z:=λq=>by
  rcases n with n|⟨t,rfl⟩
  .exact n (q ▸ hz)
  .rw[q,e]at h;injection h with h;exact a t h
 rw[ze ne];exact h
theorem StAt.keep {S:List Addr}{H a:Hp}{v:V}{o:Option (Str×Str)}(h:StAt H v o)(k:KeepT S H a):StAt a v o:=by
 cases o with
 |none=>exact h
 |some s=>obtain⟨p,c,b⟩:=h;exact⟨p,c,k _ _ (.inr ⟨_,Z⟩) b⟩
theorem qbt {S:List Addr}{H a:Hp}{us:List V}{ts:List (List V)}(t:Tups H us ts)(k:KeepT S H a):Tups a us ts:=by
 induction t with
 |nil=>exact .nil
 |cons h _ ih=>exact .cons (k _ _ (.inr ⟨_,Z⟩) h) ih
noncomputable abbrev rlR (A:RA)(r:RR)(v:V):List (Str×V):=rlF (.str r.name) (.str r.who) (.str r.owes) (qdl r.opens) (qdl r.base) (.int r.many) (.str r.unit) v (.ref A.pe) (.ref A.pa) (.ref A.pl) (.ref A.py)
structure RuY (C:Addr)(H:Hp)(A:RA)(r:RR)(v:V)(us:List V):Prop where
 hx:H A.p=some (.ins C A.dx (rlR A r v))
 hs:StAt H v r.still
 he:H A.pe=some (.lst (r.ends.map V.str))
 ha:H A.pa=some (.lst (r.anew.map V.str))
 hl:H A.pl=some (.lst us)
 tl:Tups H us (r.longer.map qop)
 hy:H A.py=some (.lst (r.yields.map V.str))
def RuX (C:Addr)(H:Hp)(A:RA)(r:RR):Prop:=∃v us,RuY C H A r v us
def RuX.keep {C:Addr}{S:List Addr}{H a:Hp}{A:RA}{r:RR}(h:RuX C H A r)(k:KeepT S H a)(n:∀z∈own A,z∉S):RuX C a A r:=by obtain⟨v,us,h⟩:=h;exact⟨v,us,k _ _ (.inl (n _ (by simp[own]))) h.hx,h.hs.keep k,k _ _ (.inl (n _ (by simp[own]))) h.he,k _ _ (.inl (n _ (by simp[own]))) h.ha,k _ _ (.inl (n _ (by simp[own]))) h.hl,qbt h.tl k,k _ _ (.inl (n _ (by simp[own]))) h.hy⟩
theorem RuX.same {C:Addr}{H a:Hp}{A:RA}{r:RR}(h:RuX C H A r)(s:Same H a):RuX C a A r:=h.keep (S:=[]) (KeepT.of s) (λ_ _=>Av)
noncomputable def dcR:List RR->List RA->List (Key×V)
 |r::rs,A::As=>(.inr r.name,.ref A.p)::dcR rs As
 |_,_=>[]
structure Sta (C:Addr)(H:Hp)(d:Addr)(rs:List RR)(As:List RA):Prop where
 hd:H d=some (.dK (dcR rs As))
 ln:As.length=rs.length
 nd:(d::As.flatMap own).Nodup
 nn:(rs.map RR.name).Nodup
 ru:∀(i:Nat)(r:RR)(A:RA),rs[i]?=some r->As[i]?=some A->RuX C H A r
def qcg (r:RR)(rs:List RR)(x:Str):qaj (r::rs) x=if r.name=x then some 0 else (qaj rs x).map (· + 1):=rfl
theorem qfo:∀{rs:List RR}{a:List RA}(x:Str),a.length=rs.length->qdx (dcR rs a) (.inr x)=(qaj rs x).bind λj=>(a[j]?).map λA=>.ref A.p
 | [],[],_,_=>rfl
 |r::rs,A::a,x,h=>by
  show qdx ((CS r.name,V.ref A.p)::dcR rs a) (.inr x)=_;by_cases c:r.name=x
  .rw[qcn (by show (CS r.name:Key)=_;rw[c])];rw[qcg,if_pos c];rfl
  .rw[qco (λz=>c (CS.inj z)),qfo x (C2 h)];rw[qcg,if_neg c];cases qaj rs x <;>rfl
theorem qju:∀{rs:List RR}{a:List RA},a.length=rs.length->(dcR rs a).length=rs.length
 | [],[],_=>rfl
 |r::rs,A::a,h=>by show (dcR rs a).length+1=_;rw[qju (C2 h)];rfl
theorem qky:∀{rs:List RR}{a:List RA}(r:RR)(A:RA),a.length=rs.length->dcR (rs++[r]) (a++[A])=dcR rs a++[(.inr r.name,.ref A.p)]
 | [],[],_,_,_=>rfl
 |r'::rs,A'::a,r,A,h=>by show (CS r'.name,V.ref A'.p)::dcR (rs++[r]) (a++[A])=_;rw[qky r A (C2 h)];rfl
theorem qrc:∀{rs:List RR}{a:List RA}(j:Nat)(r:RR),(∀s,rs[j]?=some s->s.name=r.name)->dcR (rs.set j r) a=dcR rs a
 | [],_,_,_,_=>rfl
 |r'::rs,[],j,r,_=>by cases j <;>rfl
 |r'::rs,A::a,0,r,h=>by show (CS r.name,V.ref A.p)::dcR rs a=(CS r'.name,V.ref A.p)::dcR rs a;rw[h r' Z]
 |r'::rs,A::a,j+1,r,h=>by show (CS r'.name,V.ref A.p)::dcR (rs.set j r) a=_;rw[qrc j r (λs e=>h s e)];rfl
theorem qoq:∀{rs:List RR}{a:List RA},a.length=rs.length->(dcR rs a).map (·.2)=a.map λA=>.ref A.p
 | [],[],_=>rfl
 |r::rs,A::a,h=>by show V.ref A.p::(dcR rs a).map (·.2)=_;rw[qoq (C2 h)];rfl
theorem qor:∀{rs:List RR}{a:List RA},a.length=rs.length->(dcR rs a).map (·.1)=rs.map λr=>.inr r.name
 | [],[],_=>rfl
 |r::rs,A::a,h=>by show (CS r.name:Key)::(dcR rs a).map (·.1)=_;rw[qor (C2 h)];rfl
theorem qbu:∀{rs:List RR}{x:Str}{j:Nat},qaj rs x=some j->∃r,rs[j]?=some r/\r.name=x
 | [],_,_,h=>by cases h
 |r::rs,x,j,h=>by
  rw[qcg]at h;by_cases c:r.name=x
  .rw[if_pos c]at h;cases h;exact⟨r,Z,c⟩
  .rw[if_neg c]at h;cases e:qaj rs x with
   |none=>rw[e]at h;cases h
   |some i =>rw[e]at h;cases h;obtain⟨r',b,a⟩:=qbu e;exact⟨r',b,a⟩
theorem qcp:∀{rs:List RR}{x:Str},qaj rs x=none↔x∉rs.map RR.name
 | [],_=>⟨λ_=>Av,λ_=>rfl⟩
 |r::rs,x=>by
  rw[qcg,At,Ap];by_cases c:r.name=x
  .rw[if_pos c];exact⟨(λz=>nomatch z),λz=>absurd (.inl c.symm) z⟩
  .rw[if_neg c];have a:=qcp (rs:=rs) (x:=x);constructor
   .rintro h (z|z)
    .exact c z.symm
    .cases e:qaj rs x with
     |none=>exact a.mp e z
     |some i=>rw[e]at h;cases h
   .intro h;rw[a.mpr λz=>h (.inr z)];rfl
theorem qd4:∀{rs:List RR}{j:Nat}{r:RR},(rs.map RR.name).Nodup->rs[j]?=some r->qaj rs r.name=some j
 | [],j,_,_,h=>by cases j <;>cases h
 |r'::rs,0,r,_,h=>by cases h;rw[qcg,if_pos Z]
 |r'::rs,j+1,r,nd,h=>by rw[At,AK]at nd;rw[qcg,if_neg (λz=>nd.1 (by rw[z];exact A8.mpr ⟨r,Al h,Z⟩)),qd4 nd.2 h];rfl
def qfp {rs:List RR}{j:Nat}{r:RR}(h:rs[j]?=some r):rs.getD j r0=r:=by rw[A4,h];rfl
def Sta.same {C:Addr}{H a:Hp}{d:Addr}{rs:List RR}{b:List RA}(s:Sta C H d rs b)(z:Same H a):Sta C a d rs b:=⟨z _ _ s.hd,s.ln,s.nd,s.nn,λi r A e c=>(s.ru i r A e c).same z⟩
def Sta.get {C:Addr}{H:Hp}{d:Addr}{rs:List RR}{a:List RA}(s:Sta C H d rs a){x:Str}{j:Nat}(h:qaj rs x=some j):∃r A,rs[j]?=some r/\a[j]?=some A/\r.name=x/\RuX C H A r/\DGet H d (.str x) (some (.ref A.p)):=by
 obtain⟨r,b,c⟩:=qbu h;have lt:j<a.length:=by rw[s.ln];exact(Ac.mp b).1
 refine⟨r,a[j],b,Ae lt,c,s.ru j r _ b (Ae lt),?_⟩;have g:=DGet.k (k:=.inr x) s.hd;rw[qfo x s.ln,h]at g;rw[show (some j).bind (λj=>(a[j]?).map λA=>V.ref A.p)=(a[j]?).map λA=>V.ref A.p from Z,Ae lt]at g;exact g
def Sta.non {C:Addr}{H:Hp}{d:Addr}{rs:List RR}{a:List RA}(s:Sta C H d rs a){x:Str}(h:qaj rs x=none):DGet H d (.str x) none:=by have g:=DGet.k (k:=.inr x) s.hd;rw[qfo x s.ln,h]at g;exact g
theorem qyo {α:Type}{f:RA->List α}:∀{b:List RA}{i j:Nat}{A B:RA}{z:α},(b.flatMap f).Nodup->b[i]?=some A->b[j]?=some B->i≠j->z∈f A->z∉f B
 | [],i,_,_,_,_,_,h,_,_,_=>by cases i <;>cases h
 |C::b,i,j,A,B,z,nd,hi,hj,ne,hz=>by
  rw[Bg,AV]at nd;intro a;cases i with
  |zero =>
   cases hi;cases j with|zero=>exact ne rfl|succ j=>exact nd.2.2 z hz z (B6.mpr ⟨B,Al hj,a⟩) rfl
  |succ i =>
   cases j with|zero =>cases hj;exact nd.2.2 z a z (B6.mpr ⟨A,Al hi,hz⟩) rfl|succ j=>exact qyo nd.2.1 hi hj (λe=>ne (by rw[e])) hz a
def Sta.chg {C:Addr}{H g:Hp}{d:Addr}{rs:List RR}{f:List RA}{j:Nat}{r r':RR}{A:RA}(s:Sta C H d rs f)(h:rs[j]?=some r)(l:f[j]?=some A)(k:KeepT (own A) H g)(x:RuX C g A r')(m:r'.name=r.name):Sta C g d (rs.set j r') f:=by
 have nd:=AK.mp s.nd;have mem:∀z∈own A,z∈f.flatMap own:=λz hz=>B6.mpr ⟨A,Al l,hz⟩;refine⟨?_,by rw[Bz];exact s.ln,s.nd,?_,λi o B a b=>?_⟩
 .rw[qrc j r' (λz e=>by rw[h]at e;cases e;exact m.symm)];exact k _ _ (.inl λz=>nd.1 (mem _ z)) s.hd
 .have e:(rs.set j r').map RR.name=rs.map RR.name:=by
   rw[List.map_set,m]
   apply B0
   intro i
   rw[BA,Af]
   by_cases c:j=i
   .subst c;rw[if_pos Z,h,if_pos (by rw[Ab];exact(Ac.mp h).1)];rfl
   .rw[if_neg c]
  rw[e];exact s.nn
 .rw[BA]at a;by_cases c:j=i
  .subst c;rw[if_pos Z]at a;split at a
   .cases a;rw[l]at b;cases b;exact x
   .cases a
  .rw[if_neg c]at a;exact(s.ru i o B a b).keep k λz hz n=>qyo nd.2 b l (Bc c) hz n
noncomputable def erC (a:Adr):Er->Addr
 |.rule _=>a.kW
 |.term _=>a.kO
 |.twice _=>a.gH
 |.unfit _=>a.kK
noncomputable def erF:Er->Str×V
 |.rule i=>("at",.int (i:Int))
 |.term x=>("name",.str x)
 |.twice x=>("name",.str x)
 |.unfit i=>("at",.int (i:Int))
def OutE (a:Adr)(e:Er)(H:Hp)(E:XK):Prop:=∀(x d:Addr)(H':Hp),Same H H'->H' x=some (exO x (erC a e) (some d) false)->H' d=some (exD d [erF e])->E (.ref x) (some d) H'
def OutE.same {a:Adr}{e:Er}{H b:Hp}{E:XK}(o:OutE a e H E)(s:Same H b):OutE a e b E:=λx d c z=>o x d c (s.trans z)
def Bn (n:Nat)(rs:List RR):Prop:=∀r∈rs,r.ends.length<=n/\r.anew.length<=n/\r.longer.length<=n/\r.yields.length<=n
def spRlG (a:Adr):Sp:=λvs H Q _=>∃(x dx:Addr)(vn vw vo vp vb vm vu vs':V),vs=[.ref x,vn,vw,vo,vp,vb,vm,vu,vs']/\H x=some (.ins a.k7 dx []) /\
 ∀(H':Hp)(pe pa pl py:Addr),SameBut x H H'->H pe=none->H pa=none->H pl=none->H py=none->H' x=some (.ins a.k7 dx (rlF vn vw vo vp vb vm vu vs' (.ref pe) (.ref pa) (.ref pl) (.ref py)))->H' pe=some (.lst [])->H' pa=some (.lst [])->H' pl=some (.lst [])->H' py=some (.lst [])->[x,pe,pa,pl,py].Nodup->Q .non H'
def spAk (a:Adr):Sp:=λvs H Q _=>∃(A:RA)(r:RR),vs=[.ref A.p]/\RuX a.k7 H A r/\r.ends.length<=1000/\r.anew.length<=1000/\r.longer.length<=1000/\∀(q:Addr)(H':Hp),H q=none->Same H H'->H' q=some (.lst ((qau r).map V.str))->Q (.ref q) H'
def spKi:Sp:=λvs H Q _=>∃(p:Addr)(row:Rw7),vs=[.ref p]/\H p=some (.lst (qcs row))/\isT row=false/\∀(q:Addr)(H':Hp),H q=none->Same H H'->H' q=some (.lst ((kin row).map V.str))->Q (.ref q) H'
def spUf (a:Adr):Sp:=λvs H Q _=>∃(A:RA)(r:RR)(p:Addr)(row:Rw7),vs=[.ref A.p,.ref p]/\RuX a.k7 H A r/\r.ends.length<=1000/\r.anew.length<=1000/\r.longer.length<=1000/\H p=some (.lst (qcs row))/\isT row=false/\∀H',Same H H'->Q (.bl (qho r row)) H'
def spMo (a:Adr):Sp:=λvs H Q E=>∃(A:RA)(r:RR)(i:Nat)(p:Addr)(row:Rw7),vs=[.ref A.p,.int (i:Int),.ref p]/\RuX a.k7 H A r/\(own A).Nodup/\r.ends.length<=1000/\r.anew.length<=1000/\r.longer.length<=1000/\H p=some (.lst (qcs row))/\isT row=false /\
 (qho r row=false->∀H',KeepT (own A) H H'->RuX a.k7 H' A (qa4 r row)->Q .non H')/\(qho r row=true->OutE a (.unfit i) H E)
def Frs (H:Hp)(As As':List RA):Prop:=∀z∈As'.flatMap own,z∈As.flatMap own\/H z=none
def spTm (a:Adr):Sp:=λvs H Q E=>∃(d p:Addr)(i:Nat)(rs:List RR)(As:List RA)(x w o:Str)(dd:Bool)(y:Str)(m:Int)(u:Str),vs=[.ref d,.int (i:Int),.ref p]/\Sta a.k7 H d rs As/\rs.length<=6/\H p=some (.lst (qcs (.term x w o dd y m u))) /\
 (∀rs',qec rs i x w o dd y m u=.ok rs'->∀H' As',KeepT (d::As.flatMap own) H H'->Frs H As As'->Sta a.k7 H' d rs' As'->Q .non H')/\∀e,qec rs i x w o dd y m u=.error e->OutE a e H E
def spRo (a:Adr):Sp:=λvs H Q E=>∃(d p:Addr)(i:Nat)(rs:List RR)(As:List RA)(row:Rw7),vs=[.ref d,.int (i:Int),.ref p]/\Sta a.k7 H d rs As/\rs.length<=6/\Bn 1000 rs/\H p=some (.lst (qcs row)) /\
 (∀rs',qcu rs i row=.ok rs'->∀H' As',KeepT (d::As.flatMap own) H H'->Frs H As As'->Sta a.k7 H' d rs' As'->Q .non H')/\∀e,qcu rs i row=.error e->OutE a e H E
def spSy (a:Adr):Sp:=λvs H Q E=>∃(d:Addr)(i j:Nat)(rs:List RR)(As:List RA)(r:RR)(A:RA)(y:Str),vs=[.ref d,.ref A.p,.int (i:Int),.str y]/\Sta a.k7 H d rs As/\Bn 1000 rs/\rs[j]?=some r/\As[j]?=some A /\
 (∀rs',qca rs i j y=.ok rs'->∀H',KeepT (d::As.flatMap own) H H'->Sta a.k7 H' d rs' As->Q .non H')/\∀e,qca rs i j y=.error e->OutE a e H E
def spSn (a:Adr):Sp:=λvs H Q E=>∃(d p:Addr)(i:Nat)(rs:List RR)(As:List RA)(row:Rw7),vs=[.ref d,.int (i:Int),.ref p]/\Sta a.k7 H d rs As/\Bn 1000 rs/\H p=some (.lst (qcs row))/\(qaj rs (qar row)).isSome=true /\
 (∀rs',qbz rs i row=.ok rs'->∀H',KeepT (d::As.flatMap own) H H'->Sta a.k7 H' d rs' As->Q .non H')/\∀e,qbz rs i row=.error e->OutE a e H E
def qxx (r:RR):(qau r).length<=4+r.ends.length+r.anew.length+r.longer.length:=by
 unfold qau;simp only[Ai,Ab,Am,Bf];have h1:r.opens.toList.length<=1:=by cases r.opens <;>simp
 have h2:(stL r.still).length<=2:=by cases r.still <;>simp[stL]
 lia
def any_map {ks B:List Str}:((ks.map λk=>B.contains k).any λb=>b)=ks.any λk=>B.contains k:=by rw[List.any_map];rfl
def Sta.snoc {C:Addr}{H h:Hp}{d:Addr}{rs:List RR}{j:List RA}{r:RR}{A:RA}(s:Sta C H d rs j)(k:KeepT [d] H h)(hd:h d=some (.dK (dcR rs j++[(.inr r.name,.ref A.p)])))(x:RuX C h A r)(nm:qaj rs r.name=none)(nd:(own A).Nodup)(o:∀z∈own A,z≠d/\z∉j.flatMap own):Sta C h d (rs++[r]) (j++[A]):=by
 have m:=AK.mp s.nd;refine⟨by rw[qky r A s.ln];exact hd,by rw[Ai,Ai,s.ln];rfl,?_,?_,λi u B f g=>?_⟩
 .rw[AL,AK,A9,AV];have e:[A].flatMap own=own A:=by simp
  rw[e];exact⟨λz=>z.elim m.1 λq=>(o d q).1 Z,m.2,nd,λa l b n q=>(o b n).2 (q ▸ l)⟩
 .rw[Ar,AV];exact⟨s.nn,by simp,λa l b n q=>qcp.mp nm (by rw[<- Ao.mp n,<- q];exact l)⟩
 .by_cases c:i<rs.length
  .rw[Ba c]at f;rw[Ba (by rw[s.ln];exact c)]at g;refine(s.ru i u B f g).keep k λz hz t=>m.1 ?_;rw[<- Ao.mp t];exact B6.mpr ⟨B,Al g,hz⟩
  .rw[AS (by lia)]at f;rw[AS (by rw[s.ln];lia),s.ln]at g;have l1:i-rs.length<1:=(Ac.mp f).1;rw[show i-rs.length=0 by lia]at f g;cases f;cases g;exact x
def qos {rs:List RR}{i:Nat}{x w o:Str}{d:Bool}{y:Str}{m:Int}{u:Str}(h:(qaj rs x).isSome=true):qec rs i x w o d y m u=.error (.twice x):=if_pos h
def qic {rs:List RR}{i:Nat}{x w o:Str}{d:Bool}{y:Str}{m:Int}{u:Str}(h:qaj rs x=none)(c:rs.length=6\/(d=false/\o=y)):qec rs i x w o d y m u=.error (.unfit i):=by unfold qec;rw[h,if_neg En,if_pos c]
def qgl {rs:List RR}{i:Nat}{x w o:Str}{d:Bool}{y:Str}{m:Int}{u:Str}(h:qaj rs x=none)(c:¬(rs.length=6\/(d=false/\o=y))):qec rs i x w o d y m u=.ok (rs++[qm8 x w o d y m u]):=by unfold qec;rw[h,if_neg En,if_neg c]
def qot {rs:List RR}{i:Nat}{a:Rw7}(h:qaj rs (qar a)=none):qg7 rs i a=.error (.term (qar a)):=by unfold qg7;rw[h]
def qou {rs:List RR}{i j:Nat}{a:Rw7}{r:RR}(h:qaj rs (qar a)=some j)(b:rs[j]?=some r)(u:qho r a=true):qg7 rs i a=.error (.unfit i):=by unfold qg7;rw[h];dsimp only;rw[qfp b,if_pos u]
def qkz {rs:List RR}{i j:Nat}{a:Rw7}{r:RR}(h:qaj rs (qar a)=some j)(b:rs[j]?=some r)(u:qho r a=false):qg7 rs i a=.ok (rs.set j (qa4 r a)):=by unfold qg7;rw[h];dsimp only;rw[qfp b,u,if_neg En]
def qg1 {rs:List RR}{i:Nat}{a:Rw7}(h:isT a=false):qcu rs i a=qg7 rs i a:=by
 cases a with|term=>cases h|_=>rfl
def qfq (r:RR)(a:Rw7):(qa4 r a).name=r.name:=by cases a <;>rfl
def qm9 {a:List RA}{j:Nat}{A:RA}(h:a[j]?=some A):∀z∈own A,z∈a.flatMap own:=λz hz=>B6.mpr ⟨A,Al h,hz⟩
theorem qvn {a:List RA}{j:Nat}{A:RA}(b:(a.flatMap own).Nodup)(h:a[j]?=some A):(own A).Nodup:=by
 induction a generalizing j with
 |nil=>cases j <;>cases h
 |cons B a ih =>
  rw[Bg,AV]at b;cases j with|zero=>cases h;exact b.1|succ j=>exact ih b.2.1 h
def qk0 {rs:List RR}{i j:Nat}{y:Str}(h:qaj rs y=none):qca rs i j y=.error (.term y):=by unfold qca;rw[h]
def qfr {rs:List RR}{i j l:Nat}{y:Str}{r s:RR}(h:qaj rs y=some l)(a:rs[j]?=some r)(hs:rs[l]?=some s)(c:y=r.name\/y∈r.yields\/s.owes≠r.owes):qca rs i j y=.error (.unfit i):=by unfold qca;rw[h];dsimp only;rw[qfp a,qfp hs,if_pos c]
def qhp {rs:List RR}{i j l:Nat}{y:Str}{r s:RR}(h:qaj rs y=some l)(a:rs[j]?=some r)(hs:rs[l]?=some s)(c:¬(y=r.name\/y∈r.yields\/s.owes≠r.owes)):qca rs i j y=.ok (rs.set j {r with yields:=r.yields++[y]}):=by unfold qca;rw[h];dsimp only;rw[qfp a,qfp hs,if_neg c]
def qvo {rs:List RR}{i:Nat}{a:Rw7}(h:isT a=false)(b:∀x y,a ≠ .yields x y):qbz rs i a=.ok rs:=by
 cases a with|yields x y=>exact absurd rfl (b x y)|term=>cases h|_=>rfl
def qk1 {rs:List RR}{i j:Nat}{x y:Str}(h:qaj rs x=some j):qbz rs i (.yields x y)=qca rs i j y:=by show (match qaj rs x with|none=>_|some j=>qca rs i j y)=_;rw[h]
theorem qid {rs:List RR}{i j:Nat}{x w o:Str}{d:Bool}{y:Str}{m:Int}{u:Str}{r:RR}(h:qaj rs x=some j)(a:rs[j]?=some r):qbz rs i (.term x w o d y m u)=match r.base with|none=>.ok rs|some y=>if (qaj rs y).isSome=true then .ok rs else .error (.term y):=by show (match qaj rs x with|none=>_|some j=>_)=_;rw[h];dsimp only;rw[qfp a]
noncomputable def qao:List RR->Nat->List (Option Rw7)->Except Er (List RR)
 |rs,_,[]=>.ok rs
 |rs,i,o::t=>if i=40 then .error (.rule i) else match o with
  |none=>.error (.rule i)
  |some row=>match qcu rs i row with
   |.error e=>.error e
   |.ok rs'=>qao rs' (i+1) t
noncomputable def qas:List RR->Nat->List Rw7->Except Er (List RR)
 |rs,_,[]=>.ok rs
 |rs,i,row::t=>match qbz rs i row with
  |.error e=>.error e
  |.ok rs'=>qas rs' (i+1) t
noncomputable def opR (l:Str):Option Rw7:=qgk (Cp l (wS " "))
noncomputable def qjp (ls:List Str):List (Option Rw7):=ls.map opR
noncomputable def qg8 (ls:List Str):Except Er (List RR):=match qao [] 0 (qjp ls) with
 |.error e=>.error e
 |.ok rs=>qas rs 0 ((qjp ls).filterMap id)
theorem qcq (rs:List RR)(i:Nat)(o:Option Rw7)(t:List (Option Rw7)):qao rs i (o::t)=if i=40 then .error (.rule i) else match o with
  |none=>.error (.rule i)
  |some row=>match qcu rs i row with
   |.error e=>.error e
   |.ok rs'=>qao rs' (i+1) t:=rfl
theorem qdr (rs:List RR)(i:Nat)(a:Rw7)(t:List Rw7):qas rs i (a::t)=match qbz rs i a with
  |.error e=>.error e
  |.ok rs'=>qas rs' (i+1) t:=rfl
theorem qfs:∀(xs ys:List (Option Rw7))(rs:List RR)(i:Nat),qao rs i (xs++ys)=match qao rs i xs with | .error e=>.error e | .ok rs'=>qao rs' (i+xs.length) ys
 | [],ys,rs,i=>rfl
 |o::xs,ys,rs,i=>by
  show qao rs i (o::(xs++ys))=_;rw[qcq,qcq];by_cases c:i=40
  .rw[if_pos c,if_pos c]
  .rw[if_neg c,if_neg c];cases o with
   |none=>rfl
   |some row =>
    dsimp only;cases qcu rs i row with|error e=>rfl|ok rs' =>dsimp only;rw[qfs xs ys rs' (i+1),Am,show i+1+xs.length=i+(xs.length+1) by lia]
theorem qgm:∀(xs ys:List Rw7)(rs:List RR)(i:Nat),qas rs i (xs++ys)=match qas rs i xs with | .error e=>.error e | .ok rs'=>qas rs' (i+xs.length) ys
 | [],ys,rs,i=>rfl
 |row::xs,ys,rs,i=>by
  show qas rs i (row::(xs++ys))=_;rw[qdr,qdr];cases qbz rs i row with|error e=>rfl|ok rs' =>dsimp only;rw[qgm xs ys rs' (i+1),Am,show i+1+xs.length=i+(xs.length+1) by lia]
def qjg {a:List (Option Rw7)}{i:Nat}{rs:List RR}{o:Option Rw7}(h:qao [] 0 (a.take i)=.ok rs)(b:a[i]?=some o):qao [] 0 a=qao rs i (o::a.drop (i+1))/\qao [] 0 (a.take (i+1))=qao rs i [o]:=by
 have lt:=(Ac.mp b).1;have e:a=a.take i++(o::a.drop (i+1)):=by have:=BO i a;rw[BY lt]at this;rw[Ae lt]at b;cases b;exact this.symm
 have l:(a.take i).length=i:=by rw[A6];lia
 constructor
 .conv=>lhs;rw[e]
  rw[qfs,h];dsimp only;rw[l,CO]
 .rw[qa6 b,qfs,h];dsimp only;rw[l,CO]
def qhq {rw:List Rw7}{i:Nat}{rs0 rs:List RR}{a:Rw7}(h:qas rs0 0 (rw.take i)=.ok rs)(b:rw[i]?=some a):qas rs0 0 rw=qas rs i (a::rw.drop (i+1))/\qas rs0 0 (rw.take (i+1))=qas rs i [a]:=by
 have lt:=(Ac.mp b).1;have e:rw=rw.take i++(a::rw.drop (i+1)):=by have:=BO i rw;rw[BY lt]at this;rw[Ae lt]at b;cases b;exact this.symm
 have l:(rw.take i).length=i:=by rw[A6];lia
 constructor
 .conv=>lhs;rw[e]
  rw[qgm,h];dsimp only;rw[l,CO]
 .rw[qa6 b,qgm,h];dsimp only;rw[l,CO]
def qft {rs b:List RR}{i:Nat}{a:Rw7}(n:i≠40)(h:qcu rs i a=.ok b)(t:List (Option Rw7)):qao rs i (some a::t)=qao b (i+1) t:=by rw[qcq,if_neg n];dsimp only;rw[h]
def qqa {rs:List RR}{i:Nat}{a:Rw7}{e:Er}(n:i≠40)(h:qcu rs i a=.error e)(t:List (Option Rw7)):qao rs i (some a::t)=.error e:=by rw[qcq,if_neg n];dsimp only;rw[h]
def qjh {rs:List RR}{i:Nat}(n:i=40)(o:Option Rw7)(t:List (Option Rw7)):qao rs i (o::t)=.error (.rule i):=by rw[qcq,if_pos n]
def qqb {rs:List RR}{i:Nat}(n:i≠40)(t:List (Option Rw7)):qao rs i (none::t)=.error (.rule i):=by rw[qcq,if_neg n]
def qff {rs b:List RR}{i:Nat}{a:Rw7}(h:qbz rs i a=.ok b)(t:List Rw7):qas rs i (a::t)=qas b (i+1) t:=by rw[qdr,h]
def qmf {rs:List RR}{i:Nat}{a:Rw7}{e:Er}(h:qbz rs i a=.error e)(t:List Rw7):qas rs i (a::t)=.error e:=by rw[qdr,h]
def qs5 {rs:List RR}{i:Nat}{x w o:Str}{d:Bool}{y:Str}{m:Int}{u:Str}(h:qaj rs x=none):qbz rs i (.term x w o d y m u)=.ok rs:=by show (match qaj rs x with|none=>_|some j=>_)=_;rw[h]
def qs6 {rs:List RR}{i:Nat}{x y:Str}(h:qaj rs x=none):qbz rs i (.yields x y)=.ok rs:=by show (match qaj rs x with|none=>_|some j=>_)=_;rw[h]
theorem qc1:∀{rs a:List RR}(x:Str),rs.map RR.name=a.map RR.name->qaj rs x=qaj a x
 | [],[],_,_=>rfl
 |r::rs,[],_,h=>by cases h
 | [],r::rs,_,h=>by cases h
 |r::rs,r'::a,x,h=>by rw[At,At]at h;injection h with h1 h2;rw[qcg,qcg,h1,qc1 x h2]
theorem qie:∀(rs:List RR)(r:RR)(x:Str),qaj (rs++[r]) x=match qaj rs x with|some j=>some j|none=>if r.name=x then some rs.length else none
 | [],r,x=>by show qaj [r] x=_;rw[qcg];show (if r.name=x then some 0 else none)=if r.name=x then some 0 else none;rfl
 |r'::rs,r,x=>by
  show qaj (r'::(rs++[r])) x=_;rw[qcg,qcg,qie rs r x];by_cases c:r'.name=x
  .rw[if_pos c,if_pos c]
  .rw[if_neg c,if_neg c];cases qaj rs x with
   |some j=>rfl
   |none =>
    dsimp only;by_cases a:r.name=x
    .rw[if_pos a];show some _=if r.name=x then some _ else none;rw[if_pos a];rfl
    .rw[if_neg a];show none=if r.name=x then some _ else none;rw[if_neg a]
def qi4 {rs:List RR}{j:Nat}{r r':RR}(a:rs[j]?=some r)(b:r'.name=r.name):(rs.set j r').map RR.name=rs.map RR.name:=by
 rw[List.map_set,b];apply B0;intro i;rw[BA,Af];by_cases c:j=i
 .subst c;rw[if_pos Z,a,if_pos (by rw[Ab];exact(Ac.mp a).1)];rfl
 .rw[if_neg c]
inductive RowDid (rs:List RR) (row:Rw7) (rs':List RR):Prop where
 |new (r:RR) (t:isT row=true) (n:r.name=qar row) (z:qaj rs r.name=none) (e:rs'=rs++[r]) (l:rs.length≠6) (m:r.ends=[]/\r.anew=[]/\r.longer=[]/\r.yields=[])
 |old (j:Nat) (r:RR) (t:isT row=false) (p:qaj rs (qar row)=some j) (h:rs[j]?=some r) (u:qho r row=false) (e:rs'=rs.set j (qa4 r row))
theorem qov {rs b:List RR}{i:Nat}{a:Rw7}(h:qcu rs i a=.ok b):RowDid rs a b:=by
 cases f:isT a with
 |true =>
  cases a with
  |term x w o d y m u =>
   have h:qec rs i x w o d y m u=.ok b:=h;cases pn:qaj rs x with
   |some j=>rw[qos (by rw[pn];rfl)]at h;cases h
   |none =>
    by_cases c:rs.length=6\/(d=false/\o=y)
    .rw[qic pn c]at h;cases h
    .rw[qgl pn c]at h;cases h;exact .new (qm8 x w o d y m u) rfl rfl pn rfl (λz=>c (.inl z)) ⟨Z,Z,Z,Z⟩
  |_=>cases f
 |false =>
  rw[qg1 f]at h;cases pn:qaj rs (qar a) with
  |none=>rw[qot pn]at h;cases h
  |some j =>
   obtain⟨r,e,_⟩:=qbu pn;cases u:qho r a with|true=>rw[qou pn e u]at h;cases h|false =>rw[qkz pn e u]at h;cases h;exact .old j r f pn e u rfl
def RowDid.len {rs a:List RR}{b:Rw7}(h:RowDid rs b a)(l:rs.length<=6):a.length<=6:=by
 cases h with|new r _ _ _ e n _=>rw[e,Ai];show _+1<=6;lia|old j r _ _ _ _ e=>rw[e,Bz];exact l
theorem RowDid.bn {rs d:List RR}{c:Rw7}{n:Nat}(h:RowDid rs c d)(b:Bn n rs):Bn (n+1) d:=by
 have i:∀r∈rs,r.ends.length<=n+1/\r.anew.length<=n+1/\r.longer.length<=n+1/\r.yields.length<=n+1:=λr f=>by obtain⟨q,a,k,s⟩:=b r f;exact⟨by lia,by lia,by lia,by lia⟩
 cases h with
 |new r _ _ _ e _ m =>
  obtain⟨p,o,u,l⟩:=m;intro g a;rw[e]at a;rcases A9.mp a with z|z
  .exact i g z
  .rw[Ao.mp z,p,o,u,l];exact⟨Bj _,Bj _,Bj _,Bj _⟩
 |old j r t _ f _ e =>
  intro g a;rw[e]at a;rcases Cy a with z|z
  .exact i g z
  .rw[z];obtain⟨q,a,k,s⟩:=b r (Al f);cases c <;>(simp only[qa4,Ai,Am,Bf];lia)
theorem RowDid.has {rs b:List RR}{a:Rw7}(h:RowDid rs a b):(qaj b (qar a)).isSome=true/\∀x,(qaj rs x).isSome=true->(qaj b x).isSome=true:=by
 cases h with
 |new r t n z e _ _ =>
  rw[e];refine⟨?_,λx c=>?_⟩
  .rw[qie,<- n,z];dsimp only;rw[if_pos Z];rfl
  .rw[qie];cases p:qaj rs x with|none=>rw[p]at c;cases c|some j=>rfl
 |old j r t p hr u e =>have d:=qi4 hr (qfq r a);rw[e];exact⟨by rw[qc1 _ d,p];rfl,λx c=>by rw[qc1 _ d];exact c⟩
def qxy (rs:List RR)(rw:List Rw7):Prop:=∀r∈rs,∃row∈rw,isT row=true/\qar row=r.name
theorem RowDid.hasT {rs d:List RR}{c:Rw7}{rw:List Rw7}(h:RowDid rs c d)(b:qxy rs rw):qxy d (rw++[c]):=by
 have i:∀r∈rs,∃row'∈rw++[c],isT row'=true/\qar row'=r.name:=λr f=>by obtain⟨q,k,a⟩:=b r f;exact⟨q,B7 _ k,a⟩
 cases h with
 |new r t n z e _ _ =>
  intro g a;rw[e]at a;rcases A9.mp a with q|q
  .exact i g q
  .rw[Ao.mp q];exact⟨c,by simp,t,n.symm⟩
 |old j r t p f u e =>
  intro g a;rw[e]at a;rcases Cy a with q|q
  .exact i g q
  .rw[q,qfq];exact i r (Al f)
structure SetDid (rs rs':List RR):Prop where
 nm:rs'.map RR.name=rs.map RR.name
 ba:rs'.map RR.base=rs.map RR.base
theorem qk2 {rs f:List RR}{i:Nat}{p:Rw7}(h:qbz rs i p=.ok f):SetDid rs f/\∀n,Bn n rs->Bn (n+1) f:=by
 have same:f=rs->SetDid rs f/\∀n,Bn n rs->Bn (n+1) f:=λe=>by subst e;exact⟨⟨Z,Z⟩,λn b r a=>by obtain⟨t,g,q,A⟩:=b r a;exact⟨by lia,by lia,by lia,by lia⟩⟩
 cases p with
 |term x w o d y m u =>
  cases pn:qaj rs x with
  |none =>rw[qs5 pn]at h;cases h;exact same rfl
  |some j =>
   obtain⟨r,a,_⟩:=qbu pn;rw[qid pn a]at h;cases v:r.base with
   |none=>rw[v]at h;cases h;exact same rfl
   |some z =>
    rw[v]at h;dsimp only at h;split at h
    .cases h;exact same rfl
    .cases h
 |yields x y =>
  cases pn:qaj rs x with
  |none =>rw[qs6 pn]at h;cases h;exact same rfl
  |some j =>
   obtain⟨r,a,_⟩:=qbu pn;rw[qk1 pn]at h;cases k:qaj rs y with
   |none=>rw[qk0 k]at h;cases h
   |some l =>
    obtain⟨s,hs,_⟩:=qbu k;by_cases c:y=r.name\/y∈r.yields\/s.owes≠r.owes
    .rw[qfr k a hs c]at h;cases h
    .rw[qhp k a hs c]at h;cases h;refine⟨⟨qi4 a Z,?_⟩,λn b B g=>?_⟩
     .rw[List.map_set];apply B0;intro i;rw[BA,Af];by_cases c:j=i
      .subst c;rw[if_pos Z,a,if_pos (by rw[Ab];exact(Ac.mp a).1)];rfl
      .rw[if_neg c]
     .rcases Cy g with z|z
      .obtain⟨t,g,q,A⟩:=b B z;exact⟨by lia,by lia,by lia,by lia⟩
      .rw[z];obtain⟨t,g,q,A⟩:=b r (Al a);simp only[Ai,Am,Bf];lia
 |ends=>cases h;exact same rfl
 |anew=>cases h;exact same rfl
 |longer=>cases h;exact same rfl
 |still=>cases h;exact same rfl
theorem qow {rs b:List RR}{i:Nat}{a:Rw7}(h:qbz rs i a=.ok b)(t:isT a=true){j:Nat}{r:RR}(p:qaj rs (qar a)=some j)(f:rs[j]?=some r):∀y,r.base=some y->(qaj rs y).isSome=true:=by
 cases a with
 |term x w o d y m u =>
  intro z e;rw[qid (x:=x) p f,e]at h;dsimp only at h;by_cases c:(qaj rs z).isSome=true
  .exact c
  .rw[if_neg c]at h;cases h
 |_=>cases t
noncomputable def bsR (rs:List RR):List (Option Nat):=rs.map λr=>r.base.bind (qaj rs)
def qi5 (rs:List RR):Prop:=∀r∈rs,∀y,r.base=some y->(qaj rs y).isSome=true
def qxz {rs0 rs:List RR}{rw:List Rw7}(h:qas rs0 0 rw=.ok rs)(F:(rs0.map RR.name).Nodup)(t:qxy rs0 rw):qi5 rs:=by
 have w:∀i,i<=rw.length->∃g,qas rs0 0 (rw.take i)=.ok g/\SetDid rs0 g/\∀a∈rw.take i,isT a=true->∀(j:Nat)(r:RR),rs0[j]?=some r->r.name=qar a->∀y,r.base=some y->(qaj rs0 y).isSome=true:=by
  intro i
  induction i with
  |zero=>exact λ_=>⟨rs0,Z,⟨Z,Z⟩,λa q=>by rw[DM]at q;cases q⟩
  |succ i ih =>
   intro hi;obtain⟨g,s,b,o⟩:=ih (by lia);obtain⟨a,c⟩:∃a,rw[i]?=some a:=⟨_,Ae (by lia)⟩;obtain⟨G,B⟩:=qhq s c;cases p:qbz g i a with
   |error e=>rw[G,qmf p]at h;cases h
   |ok r' =>
    rw[qff p]at B;obtain⟨C,_⟩:=qk2 p;refine⟨r',B,⟨C.nm.trans b.nm,C.ba.trans b.ba⟩,λx v l j r f m y n=>?_⟩;rw[qa6 c]at v;rcases A9.mp v with z|z
    .exact o x z l j r f m y n
    .rw[Ao.mp z]at l m;have D:qaj g (qar a)=some j:=by rw[qc1 _ b.nm,<- m];exact qd4 F f
     obtain⟨E,u,_⟩:=qbu D;have A:E.base=r.base:=by
      have d:(g.map RR.base)[j]?=some E.base:=by rw[Af,u];rfl
      rw[b.ba,Af,f]at d;exact(A5 d).symm
     have:=qow p l D u y (by rw[A];exact n);rw[qc1 _ b.nm]at this;exact this
 obtain⟨g,s,b,o⟩:=w _ (Ax _);rw[Be]at s o;rw[s]at h;cases h;intro r q y n;obtain⟨j,f⟩:=AA q;have H:j<rs0.length:=by have:=congrArg DB b.nm;rw[Ab,Ab]at this;rw[<- this];exact(Ac.mp f).1
 have k:rs0[j]?=some rs0[j]:=Ae H;have en:rs0[j].name=r.name:=by
  have d:(rs.map RR.name)[j]?=some r.name:=by rw[Af,f];rfl
  rw[b.nm,Af,k]at d;exact A5 d
 have A:rs0[j].base=r.base:=by
  have d:(rs.map RR.base)[j]?=some r.base:=by rw[Af,f];rfl
  rw[b.ba,Af,k]at d;exact A5 d
 obtain⟨a,c,l,m⟩:=t _ (Al k);rw[qc1 _ b.nm];exact o a c l j _ k m.symm y (by rw[A];exact n)
theorem wr_of {rs:List RR}(d:(rs.map RR.name).Nodup)(l:rs.length<=6):Wr (rs.map RR.name) (bsR rs):=⟨d,by unfold bsR;rw[Ab,Ab],by rw[Ab];exact l,λk b e=>by
 unfold bo bsR at e;rw[A4,Af]at e;cases a:rs[k]? with
 |none=>rw[a]at e;cases e
 |some r =>
  rw[a]at e;cases c:r.base with
  |none=>rw[show (Option.map (λr:RR=>r.base.bind (qaj rs)) (some r)).getD none=r.base.bind (qaj rs) from Z,c]at e;cases e
  |some y =>rw[show (Option.map (λr:RR=>r.base.bind (qaj rs)) (some r)).getD none=r.base.bind (qaj rs) from Z,c]at e;have e:qaj rs y=some b:=e;obtain⟨r2,f,_⟩:=qbu e;rw[Ab];exact(Ac.mp f).1⟩
theorem qvp {rs:List RR}(ok:qi5 rs){k:Nat}{r:RR}(h:rs[k]?=some r):qh9 (rs.map RR.name) (bo (bsR rs) k)=qdl r.base:=by
 unfold bo bsR;rw[A4,Af,h];show qh9 _ (r.base.bind (qaj rs))=_;cases a:r.base with
 |none=>rfl
 |some y =>
  have:=ok r (Al h) y a;show qh9 _ (qaj rs y)=.str y;cases ep:qaj rs y with
  |none=>rw[ep]at this;cases this
  |some j =>obtain⟨c,b,d⟩:=qbu ep;show V.str (nm (rs.map RR.name) j)=_;unfold nm;rw[A4,Af,b];show V.str c.name=_;rw[d]
def nm_R {rs:List RR}{k:Nat}{r:RR}(h:rs[k]?=some r):nm (rs.map RR.name) k=r.name:=by unfold nm;rw[A4,Af,h];rfl
structure Lng (ls:List Str):Prop where
 n:ls.length<=100
 c:∀l∈ls,l.cps.size<=200/\10∉l.cps.toList
 e:ls≠[wS ""]
theorem qyp {c:Nat}:∀{ps:List (List Nat)},(∀p∈ps,p.length<=200)->(jl c ps).length<=201*ps.length
 | [],_=>Ax _
 | [x],h=>by have:=h x Ak;show x.length<=201*1;lia
 |x::y::r,h=>by have h1:=h x Ak;have a:=qyp (c:=c) (ps:=y::r) λp b=>h p (Aq _ b);show (x++c::jl c (y::r)).length<=201*(r.length+1+1);rw[Ai,Am];rw[Am]at a;lia
def qvq {a:List Str}(h:Lng a):(qex a).cps.size<=20100:=by
 rw[<- AO,show (qex a).cps.toList=jl 10 (a.map λp=>p.cps.toList) from qdb 10 _];have:=qyp (c:=10) (ps:=a.map λp=>p.cps.toList) λp b=>by obtain⟨l,hl,rfl⟩:=A8.mp b;rw[AO];exact(h.c l hl).1
 rw[Ab]at this;have:=h.n;lia
theorem qx0 {a:List Str}(h:Lng a)(ne:a≠[]):(qex a).cps.size≠0:=by
 rw[<- AO,show (qex a).cps.toList=jl 10 (a.map λp=>p.cps.toList) from qdb 10 _];cases a with
 |nil=>exact absurd rfl ne
 |cons x r =>
  cases r with|nil =>intro z;have z:x.cps.toList.length=0:=z;exact h.e (by rw[str_ext (x:=x) (y:=wS "") (by rw[List.eq_nil_of_length_eq_zero z];decide +kernel)])|cons y r =>show (x.cps.toList++10::jl 10 _).length≠0;rw[Ai,Am];lia
def spLnG:Sp:=λvs H Q _=>∃ls:List Str,vs=[.str (qex ls)]/\Lng ls/\∀(q:Addr)(H':Hp),H q=none->Same H H'->H' q=some (.lst (ls.map V.str))->Q (.ref q) H'
def BkX (a:Adr)(H:Hp)(x:Addr)(rs:List RR)(As:List RA)(os:List Nat):Prop:=∃dx po d:Addr,H x=some (.ins a.kF dx (bfs po d))/\H po=some (.lst ((os.map (nm (rs.map RR.name))).map V.str))/\H d=some (.dK (dcR rs As))
structure BkAt (a:Adr)(H:Hp)(x:Addr)(rs:List RR)(As:List RA)(os:List Nat):Prop where
 bk:BkX a H x rs As os
 ln:As.length=rs.length
 nn:(rs.map RR.name).Nodup
 l6:rs.length<=6
 ru:∀(i:Nat)(r:RR)(A:RA),rs[i]?=some r->As[i]?=some A->RuX a.k7 H A r
 os:Ors (bsR rs) rs.length os
 ba:qi5 rs
def BkX.same {a:Adr}{H b:Hp}{x:Addr}{rs:List RR}{e:List RA}{c:List Nat}(h:BkX a H x rs e c)(s:Same H b):BkX a b x rs e c:=by obtain⟨dx,f,d,j,g,i⟩:=h;exact⟨dx,f,d,s _ _ j,s _ _ g,s _ _ i⟩
def BkAt.same {a:Adr}{H b:Hp}{x:Addr}{rs:List RR}{c:List RA}{os:List Nat}(h:BkAt a H x rs c os)(s:Same H b):BkAt a b x rs c os:=⟨h.bk.same s,h.ln,h.nn,h.l6,λi r A e d=>(h.ru i r A e d).same s,h.os,h.ba⟩
def spBIG (a:Adr):Sp:=λvs H Q E=>∃(x dx pr:Addr)(rs:List RR)(As:List RA),vs=[.ref x,.ref pr]/\H x=some (.ins a.kF dx [])/\H pr=some (.lst (As.map λA=>.ref A.p))/\As.length=rs.length/\(rs.map RR.name).Nodup/\rs.length<=6/\qi5 rs/\(∀(i:Nat)(r:RR)(A:RA),rs[i]?=some r->As[i]?=some A->RuX a.k7 H A r) /\
 (∀H' os,SameBut x H H'->BkX a H' x rs As os->Ors (bsR rs) rs.length os->Q .non H')/\OutR a (rs.map RR.name) (bsR rs) H E
def spTn (a:Adr):Sp:=λvs H Q _=>∃(x:Addr)(rs:List RR)(As:List RA)(os:List Nat),vs=[.ref x]/\BkX a H x rs As os/\As.length=rs.length/\rs.length<=6/\∀(q:Addr)(H':Hp),H q=none->Same H H'->H' q=some (.lst ((rs.map RR.name).map V.str))->Q (.ref q) H'
def spBkG (a:Adr):Sp:=λvs H Q E=>∃ls:List Str,vs=[.str (qex ls)]/\Lng ls/\(∀rs,qg8 ls=.ok rs->(∀(x:Addr)(H':Hp)(As:List RA)(os:List Nat),Same H H'->BkAt a H' x rs As os->Q (.ref x) H')/\OutR a (rs.map RR.name) (bsR rs) H E)/\∀e,qg8 ls=.error e->OutE a e H E
def Ru_of {a:Adr}{H:Hp}{A:RA}{r:RR}(h:RuX a.k7 H A r):Ru a.k7 H (.ref A.p) r.name (qdl r.base):=by obtain⟨v,us,h⟩:=h;exact⟨A.p,A.dx,_,Z,h.hx,Z,Z⟩
theorem rus_of {a:Adr}{H:Hp}{rs:List RR}{b:List RA}(f:b.length=rs.length)(ok:qi5 rs)(g:∀(i:Nat) (r:RR) (A:RA),rs[i]?=some r->b[i]?=some A->RuX a.k7 H A r):Rus a.k7 H (b.map λA=>.ref A.p) (rs.map RR.name) (bsR rs):=by
 refine⟨by rw[Ab,Ab,f],λj y e=>?_⟩;rw[Af]at e;cases c:b[j]? with
 |none=>rw[c]at e;cases e
 |some A =>
  rw[c]at e;cases e;have h:j<rs.length:=by rw[<- f];exact(Ac.mp c).1
  have d:rs[j]?=some rs[j]:=Ae h;rw[nm_R d,qvp ok d];exact Ru_of (g j _ A d c)
def Sta.inn {C:Addr}{H:Hp}{d:Addr}{rs:List RR}{g:List RA}(st:Sta C H d rs g):∀z∈d::g.flatMap own,H z≠none:=λz hz e=>by
 rcases Ap.mp hz with rfl|hz
 .rw[st.hd]at e;cases e
 .obtain⟨i,h,c⟩:=B6.mp hz;obtain⟨f,b⟩:=AA h;have j:f<rs.length:=by rw[<- st.ln];exact(Ac.mp b).1
  obtain⟨v',us',a⟩:=st.ru f _ i (Ae j) b;simp only[own,Ap,Av,or_false]at c;rcases c with rfl|rfl|rfl|rfl|rfl
  .rw[a.hx]at e;cases e
  .rw[a.he]at e;cases e
  .rw[a.ha]at e;cases e
  .rw[a.hl]at e;cases e
  .rw[a.hy]at e;cases e
def Sta.keep {C:Addr}{H b:Hp}{d:Addr}{rs:List RR}{a:List RA}{S:List Addr}(st:Sta C H d rs a)(k:KeepT S H b)(n:∀z∈d::a.flatMap own,z∉S):Sta C b d rs a :=
 ⟨k _ _ (.inl (n d Ak)) st.hd,st.ln,st.nd,st.nn,λi r A e c=>(st.ru i r A e c).keep k λz hz=>n z (Aq _ (qm9 c z hz))⟩
structure RB (a:Adr)(H0 H:Hp)(d q ql:Addr)(ls:List Str)(i:Nat)(rs:List RR)(As:List RA)(rv:List V)(rows:List Rw7):Prop where
 sm:Same H0 H
 hl:H ql=some (.lst (ls.map V.str))
 st:Sta a.k7 H d rs As
 hq:H q=some (.lst rv)
 rl:rv.length=rows.length
 rr:∀(j:Nat)(y:V),rv[j]?=some y->∃p row,y=.ref p/\rows[j]?=some row/\H p=some (.lst (qcs row))/\p∉d::As.flatMap own/\p≠q
 ro:(qjp ls).take i=rows.map some
 rd:qao [] 0 ((qjp ls).take i)=.ok rs
 bn:Bn i rs
 l6:rs.length<=6
 ht:qxy rs rows
 nm:∀row∈rows,(qaj rs (qar row)).isSome=true
 qo:q∉d::As.flatMap own
 lo:ql∉d::As.flatMap own
 nq:ql≠q
 fr:∀z∈q::d::As.flatMap own,H0 z=none
def RB.same {a:Adr}{g H f:Hp}{d q m:Addr}{k:List Str}{i:Nat}{rs:List RR}{l:List RA}{n:List V}{c:List Rw7}(b:RB a g H d q m k i rs l n c)(s:Same H f):RB a g f d q m k i rs l n c :=
 ⟨b.sm.trans s,s _ _ b.hl,b.st.same s,s _ _ b.hq,b.rl,λj y e=>by obtain⟨p,h,r,t,o,u⟩:=b.rr j y e;exact⟨p,h,r,t,s _ _ o,u⟩,b.ro,b.rd,b.bn,b.l6,b.ht,b.nm,b.qo,b.lo,b.nq,b.fr⟩
theorem RB.next {a:Adr}{P u w:Hp}{d q O l:Addr}{N:List Str}{i:Nat}{rs B:List RR}{v A:List RA}{m:List V}{t:List Rw7}{s:Rw7}(b:RB a P u d q O N i rs v m t)(F:u l=some (.lst (qcs s)))(H:l∉d::v.flatMap own)(E:l≠q)(I:(qjp N)[i]?=some (some s))(R:i≠40)(G:qcu rs i s=.ok B)
  (k:KeepT (d::v.flatMap own) u w)(f:Frs u v A)(W:Sta a.k7 w d B A):RB a P (upd w q (.lst (m++[.ref l]))) d q O N (i+1) B A (m++[.ref l]) (t++[s]):=by
 have n:=qov G;have D:∀z,z∉d::v.flatMap own->u z≠none->z∉d::A.flatMap own:=λz hz hn h=>by
  rcases Ap.mp h with e|h
  .exact hz (by rw[e];exact Ak)
  .rcases f z h with g|g
   .exact hz (Aq _ g)
   .exact hn g
 have nq:u q≠none:=λz=>by rw[b.hq]at z;cases z
 have Y:w q=some (.lst m):=k _ _ (.inl b.qo) b.hq;have qo:=D q b.qo nq;have kq:KeepT [q] w (upd w q (.lst (m++[.ref l]))):=KeepT.put (Ao.mpr Z) Y (λ_ z=>nomatch z);have J:∀{p:Addr}{xs:List V},u p=some (.lst xs)->p∉d::v.flatMap own->p≠q->upd w q (.lst (m++[.ref l])) p=some (.lst xs):=λL M C=>by rw[ze C];exact k _ _ (.inl M) L
 refine⟨λx o e=>?_,J b.hl b.lo b.nq,W.keep kq λz hz U=>qo (by rw[<- Ao.mp U];exact hz),qu,by rw[Ai,Ai,b.rl];rfl,λj y e=>?_,by rw[qa6 I,b.ro,Ar];rfl,?_,n.bn b.bn,n.len b.l6,n.hasT b.ht,λr X=>?_,qo,D O b.lo (λz=>by rw[b.hl]at z;cases z),b.nq,λz hz=>?_⟩
 .have S:∀z∈q::d::v.flatMap own,x≠z:=λz hz q=>by rw[q,b.fr z hz]at e;cases e
  rw[ze (S q Ak)];exact k _ _ (.inl λz=>S x (Aq _ z) Z) (b.sm _ _ e)
 .by_cases c:j<m.length
  .rw[Ba c]at e;obtain⟨p,K,L,M,C,T,Q⟩:=b.rr j y e;exact⟨p,K,L,by rw[Ba (by rw[<- b.rl];exact c)];exact M,J C T Q,D p T (λz=>by rw[C]at z;cases z),Q⟩
  .rw[AS (by lia)]at e;have l1:j-m.length<1:=(Ac.mp e).1;have l2:=b.rl;rw[show j-m.length=0 by lia]at e;cases e;exact⟨l,s,Z,by rw[AS (by lia),show j-t.length=0 by lia];rfl,J F H E,D l H (λz=>by rw[F]at z;cases z),E⟩
 .rw[(qjg b.rd I).2,qft R G []];rfl
 .rcases A9.mp X with z|z
  .exact n.has.2 _ (b.nm r z)
  .rw[Ao.mp z];exact n.has.1
 .rcases Ap.mp hz with e|hz
  .rw[e];exact b.fr q Ak
  .rcases Ap.mp hz with e|hz
   .rw[e];exact b.fr d (Aq _ Ak)
   .rcases f z hz with g|g
    .exact b.fr z (Aq _ (Aq _ g))
    .exact b.sm.free g
structure SB (a:Adr)(H0 H:Hp)(d q:Addr)(i:Nat)(rs0 rs:List RR)(As:List RA)(rv:List V)(rows:List Rw7):Prop where
 sm:Same H0 H
 st:Sta a.k7 H d rs As
 hq:H q=some (.lst rv)
 rl:rv.length=rows.length
 rr:∀(j:Nat)(y:V),rv[j]?=some y->∃p row,y=.ref p/\rows[j]?=some row/\H p=some (.lst (qcs row))/\p∉d::As.flatMap own/\p≠q
 sd:SetDid rs0 rs
 se:qas rs0 0 (rows.take i)=.ok rs
 bn:Bn (100+i) rs
 nm:∀row∈rows,(qaj rs (qar row)).isSome=true
 qo:q∉d::As.flatMap own
 fr:∀z∈q::d::As.flatMap own,H0 z=none
def SB.same {a:Adr}{g H f:Hp}{d q:Addr}{i:Nat}{rs0 rs:List RR}{k:List RA}{l:List V}{c:List Rw7}(b:SB a g H d q i rs0 rs k l c)(s:Same H f):SB a g f d q i rs0 rs k l c :=
 ⟨b.sm.trans s,b.st.same s,s _ _ b.hq,b.rl,λj y e=>by obtain⟨p,h,n,o,m,r⟩:=b.rr j y e;exact⟨p,h,n,o,s _ _ m,r⟩,b.sd,b.se,b.bn,b.nm,b.qo,b.fr⟩
def SB.next {a:Adr}{t H s:Hp}{d q:Addr}{i:Nat}{rs0 rs g:List RR}{l:List RA}{w:List V}{c:List Rw7}{m:Rw7}(b:SB a t H d q i rs0 rs l w c)(A:c[i]?=some m)(h:qbz rs i m=.ok g)(k:KeepT (d::l.flatMap own) H s)(v:Sta a.k7 s d g l):SB a t s d q (i+1) rs0 g l w c:=by
 obtain⟨f,bn⟩:=qk2 h;refine⟨λx o e=>k _ _ (.inl λz=>?_) (b.sm _ _ e),v,k _ _ (.inl b.qo) b.hq,b.rl,λj y e=>?_,⟨f.nm.trans b.sd.nm,f.ba.trans b.sd.ba⟩,?_,bn _ b.bn,λr C=>by rw[qc1 _ f.nm];exact b.nm r C,b.qo,b.fr⟩
 .rw[b.fr x (Aq _ z)]at e;cases e
 .obtain⟨p,n,D,F,B,u,E⟩:=b.rr j y e;exact⟨p,n,D,F,k _ _ (.inl u) B,u,E⟩
 .rw[(qhq b.se A).2,qff h []];rfl
theorem qna {α:Type}(l:List α):(l.map some).filterMap id=l:=by
 induction l with
 |nil=>rfl
 |cons x l ih=>rw[At,Ca];dsimp only[id];rw[ih]
noncomputable def owA (ns:List Int)(k:Nat):Nat:=(cell ns (3+5*(k:Int)) % 3).toNat
noncomputable def rkA (ns:List Int)(k:Nat):Int:=((k:Int)*(1+cell ns 0 / 21 % 6)+cell ns 0 / 21 / 6) % 7
def sgn_ed {c:Int}{e i:Nat}(a:c % 2=(e:Int)):(c / 128+(i:Int) / (1+c % 2)) % 26=(((sgn (c / 128) e i-97:Nat)):Int):=by
 rw[a];unfold sgn;have:(i:Int) / (1+(e:Int))=((i / (1+e):Nat):Int):=by rw[Int.natCast_ediv];rfl
 rw[this];clear this a;lia
def sgn_26 {t:Int}{e i:Nat}:sgn t e i-97<26:=by unfold sgn;lia
def sgn_97 {t:Int}{e i:Nat}:97+(sgn t e i-97)=sgn t e i:=by unfold sgn;lia
def md (c:Int)(m:Nat)(h:0<m):∃j:Nat,c % (m:Int)=(j:Int)/\j<m:=by have z0:=Ee c (show (m:Int)≠0 by lia);have z1:=DA c (show (0:Int)<(m:Int) by lia);exact⟨(c % (m:Int)).toNat,by lia,by lia⟩
def mdl (c:Int)(m:Nat):∃j:Nat,c % ((m+1:Nat):Int)=(j:Int)/\j<=m:=by obtain⟨j,e,h⟩:=md c (m+1) (DL _);exact⟨j,e,Nat.le_of_lt_succ h⟩
def num46 (c:Int):∃z n e:Nat,1+c % 2+c / 2 % (8-c % 2)=(z:Int)/\c / 16 % ((z:Int)-c % 2)=(n:Int)/\c % 2=(e:Int)/\e<=1/\n+1+e<=z/\z<=8/\0<8-c % 2/\0<(z:Int)-c % 2:=by have g:=sizeB c;obtain⟨e,b,h⟩:=mdl c 1;have b:c % 2=(e:Int):=b;obtain⟨z,f⟩:=Int.eq_ofNat_of_zero_le (a:=1+c % 2+c / 2 % (8-c % 2)) (by lia);rw[f]at g |-;obtain⟨n,d,hn⟩:=md (c / 16) (z-e) (by lia);rw[show ((z-e:Nat):Int)=(z:Int)-c % 2 by lia]at d;exact⟨z,n,e,Z,d,b,h,by lia,by lia,by lia,by lia⟩
def cd2 {c i:Int}{e:Nat}(ee:c % 2=(e:Int))(he:e<=1):qwm i (1+c % 2):=⟨by lia,by lia⟩
def eo1 {c:Int}{e:Nat}(ee:c % 2=(e:Int))(h:c % 2=1):e=1:=by lia
def io1 {i:Nat}(h:(i:Int) % 2=1):i % 2=1:=by lia
def ne1 {c:Int}{e:Nat}(ee:c % 2=(e:Int))(h:¬c % 2=1):¬e=1:=by lia
def ni1 {i:Nat}(h:¬(i:Int) % 2=1):¬i % 2=1:=by lia
def cdA {c:Int}{i g:Nat}(h:i<g)(k:g<=2):qwm c (40+811*(i:Int)):=⟨by lia,by lia⟩
def cdB {c:Int}{i g:Nat}(h:i<g)(k:g<=2):qwm c (797+13*(i:Int)):=⟨by lia,by lia⟩
def om (x:Int){m:Int}(h:0<m):1<=1+x % m/\1+x % m<=m:=by have z0:=Ee x (show m≠0 by lia);have z1:=DA x h;lia
def qrd {a:List Int}{k:Nat}:cell a (3+5*(k:Int)) % 3=((owA a k:Nat):Int):=by unfold owA;lia
def owA_l {a:List Int}{k:Nat}:owA a k<3:=by unfold owA;lia
structure YlOk (names:List Str)(ow:Nat->Nat)(k:Nat)(ys:List Str):Prop where
 nd:ys.Nodup
 ok:∀y∈ys,∃b,b<names.length/\y=nm names b/\b≠k/\ow b=ow k
def spYl (K:Ag):Sp:=λvs H Q _=>∃(l pn:Addr)(ns:List Int)(k:Nat)(names:List Str),vs=[.ref l,.int (k:Int),.ref pn]/\SqL K H l (ns.map V.int)/\H pn=some (.lst (names.map V.str))/\names.Nodup/\k<names.length/\names.length<=6/\∀(q:Addr)(H':Hp)(ys:List Str),H q=none->Same H H'->H' q=some (.lst (ys.map V.str))->YlOk names (owA ns) k ys->Q (.ref q) H'
def spBaL (K:Ag):Sp:=λvs H Q _=>∃(l pn:Addr)(ns:List Int)(k:Nat)(names:List Str),vs=[.ref l,.int (k:Int),.ref pn]/\SqL K H l (ns.map V.int)/\H pn=some (.lst (names.map V.str))/\k<names.length/\names.length<=6/\∀(H':Hp)(o:Option Nat),Same H H'->(∀b,o=some b->b<names.length/\rkA ns b<rkA ns k)->Q (qh9 names o) H'
def pos12 (j:Nat)(h:j<6):∃m:Int,atI [V.int 1,V.int 2,V.int 4,V.int 8,V.int 16,V.int 32] (j:Int)=some (.int m)/\1<=m/\m<=32:=by
 rcases (by lia:j=0\/j=1\/j=2\/j=3\/j=4\/j=5) with rfl|rfl|rfl|rfl|rfl|rfl
 .exact⟨1,Z,En,En⟩
 .exact⟨2,Z,En,En⟩
 .exact⟨4,Z,En,En⟩
 .exact⟨8,Z,En,En⟩
 .exact⟨16,Z,En,En⟩
 .exact⟨32,Z,En,En⟩
def qvr {names:List Str}{a:Nat->Nat}{k:Nat}{ys:List Str}(h:YlOk names a k ys):YlOk names a k ys.reverse:=⟨List.pairwise_reverse.mpr (h.nd.imp Bc),λy b=>h.ok y (DV.mp b)⟩
noncomputable def qfu (r:RR)(pe pa pl:Addr)(sv:V)(py:Addr):List V:=[.str r.name,.str r.who,.str r.owes,qdl r.opens,qdl r.base,.int r.many,.str r.unit,.ref pe,.ref pa,.ref pl,sv,.ref py]
structure LR1 (H:Hp)(q:Addr)(r:RR)(pe pa pl py:Addr)(sv:V)(us:List V):Prop where
 hq:H q=some (.lst (qfu r pe pa pl sv py))
 he:H pe=some (.lst (r.ends.map V.str))
 ha:H pa=some (.lst (r.anew.map V.str))
 hl:H pl=some (.lst us)
 tl:Tups H us (r.longer.map qop)
 hs:StAt H sv r.still
 hy:H py=some (.lst (r.yields.map V.str))
def LR (H:Hp)(q:Addr)(r:RR):Prop:=∃pe pa pl py sv us,LR1 H q r pe pa pl py sv us
def LR1.ne {H:Hp}{q:Addr}{r:RR}{o m pl s:Addr}{v:V}{us:List V}(h:LR1 H q r o m pl s v us){c:Addr}{r':RR}{j d g k:Addr}{f:V}(h':H c=some (.lst (qfu r' j d g f k))):o≠c/\m≠c/\pl≠c/\s≠c:=by
 have st:∀{p:Addr}{xs:List Str},H p=some (.lst (xs.map V.str))->p≠c:=λ{p xs} a e=>by
  rw[e,h']at a;injection a with a;injection a with a;have:=congrArg (λl=>l[5]?) a;rw[show (qfu r' j d g f k)[5]?=some (.int r'.many) from Z,Af]at this;cases n:xs[5]? with|none=>rw[n]at this;cases this|some y=>rw[n]at this;cases this
 refine⟨st h.he,st h.ha,λe=>?_,st h.hy⟩;have hl:=h.hl;rw[e,h']at hl;injection hl with hl;injection hl with hl;have tl:=h.tl;rw[<- hl]at tl;obtain⟨b,t,u,_,_⟩:=tl.get' (i:=0) rfl;cases u
def LR1.upd {H:Hp}{q:Addr}{r:RR}{i f pl k:Addr}{l:V}{us:List V}(h:LR1 H q r i f pl k l us){a:Addr}{r':RR}{g b d j:Addr}{c:V}{o:HO}(h':H a=some (.lst (qfu r' g b d c j)))(n:q≠a):LR1 (L2.upd H a o) q r i f pl k l us:=by obtain⟨p,m,s,t⟩:=h.ne h';have e:KeepT [a] H (L2.upd H a o):=KeepT.put (Ao.mpr Z) h' (λ_ z=>nomatch z);exact⟨(ze n).trans h.hq,(ze p).trans h.he,(ze m).trans h.ha,(ze s).trans h.hl,qbt h.tl e,h.hs.keep e,(ze t).trans h.hy⟩
def LR1.same {H a:Hp}{q:Addr}{r:RR}{c b pl d:Addr}{e:V}{us:List V}(h:LR1 H q r c b pl d e us)(s:Same H a):LR1 a q r c b pl d e us:=⟨s _ _ h.hq,s _ _ h.he,s _ _ h.ha,s _ _ h.hl,h.tl.same s,h.hs.same s,s _ _ h.hy⟩
def LR.same {H a:Hp}{q:Addr}{r:RR}(h:LR H q r)(s:Same H a):LR a q r:=by obtain⟨c,b,pl,d,e,us,h⟩:=h;exact⟨c,b,pl,d,e,us,h.same s⟩
noncomputable abbrev nm9:=nm
structure GR (names:List Str)(ow:Nat->Nat)(rk:Nat->Int)(kinds:List Str)(k:Nat)(r:RR):Prop where
 nm:r.name=nm names k
 wh:qbq r.who
 os:r.owes=nm9 kinds (ow k)
 kd:(qau r).Nodup
 kn:∀x∈qau r,qbq x
 ks:∀x∈qau r,x∈kinds.take 12
 bo:(∃b,b<names.length/\r.base=some (nm9 names b)/\rk b<rk k/\r.opens=none)\/(r.base=none/\∃o,r.opens=some o)
 mn:1<=r.many/\r.many<=40
 un:r.unit∈qcf
 lg:r.longer.length<=2/\∀t∈r.longer,(1<=t.2.1/\t.2.1<=20)/\1<=t.2.2/\t.2.2<=3
 ln:r.ends.length<=3/\r.anew.length<=2
 yl:YlOk names ow k r.yields
def spLrl (K:Ag):Sp:=λvs H Q _=>∃(l pn pk:Addr)(ns:List Int)(k:Nat)(names kinds:List Str),vs=[.ref l,.int (k:Int),.ref pn,.ref pk]/\SqL K H l (ns.map V.int)/\H pn=some (.lst (names.map V.str))/\H pk=some (.lst (kinds.map V.str))/\names.Nodup/\k<names.length/\names.length<=6/\kinds.Nodup/\12<=kinds.length/\kinds.length<=60/\(∀x∈kinds,qbq x) /\
 ∀(q:Addr)(H':Hp)(r:RR)(pe pa pl py:Addr)(sv:V)(us:List V),H q=none->H pe=none->H pa=none->H pl=none->H py=none->Same H H'->LR1 H' q r pe pa pl py sv us->GR names (owA ns) (rkA ns) kinds k r->Q (.ref q) H'
theorem eleven {M:List Str}(h:M.length=11):∃m0 m1 m2 m3 m4 m5 m6 m7 m8 m9 m10,M=[m0,m1,m2,m3,m4,m5,m6,m7,m8,m9,m10]:=by
 match M,h with
 | [m0,m1,m2,m3,m4,m5,m6,m7,m8,m9,m10],_=>exact⟨_,_,_,_,_,_,_,_,_,_,_,Z⟩
def qx1 {c:List Str}{o t:Nat}(k:c.Nodup)(l:12<=c.length)(ho:o<3)(ht:t<11)(p:∀x∈c,qbq x):∃M:List Str,((c.take o++(c.take 12).drop (o+1)).drop t++(c.take o++(c.take 12).drop (o+1)).take t)=M/\M.length=11/\M.Nodup/\(∀x∈M,qbq x/\x∈c.take 12)/\nm c o∉M/\nm c o∈c.take 12:=by
 refine⟨_,Z,?_,?_,?_,?_,?_⟩;all_goals
  have n:(c.take o++(c.take 12).drop (o+1)).length=11:=by rw[Ai,A6,Bv,A6];lia
  have d:c.take 12=c.take o++nm c o::(c.take 12).drop (o+1):=by
   have e:=BO o (c.take 12);rw[List.take_take,Nat.min_eq_left (by lia),BY (by rw[A6];lia)]at e;refine e.symm.trans ?_;have r:(c.take 12)[o]'(by rw[A6];lia)=nm c o:=by rw[List.getElem_take];unfold nm;rw[A4,Ae (by lia)];rfl
   rw[r]
  have f:(c.take 12).Nodup:=(Cd _ _).nodup k
  rw[d,AV,AK]at f
  obtain⟨s,⟨q,u⟩,j⟩:=f
  have i:(c.take o++(c.take 12).drop (o+1)).Nodup:=AV.mpr ⟨s,u,λa m b v=>j a m b (Aq _ v)⟩
  have h:((c.take o++(c.take 12).drop (o+1)).drop t++(c.take o++(c.take 12).drop (o+1)).take t).Perm (c.take o++(c.take 12).drop (o+1)):=by
   have:=List.perm_append_comm (l₁:=(c.take o++(c.take 12).drop (o+1)).drop t) (l₂:=(c.take o++(c.take 12).drop (o+1)).take t)
   rwa [BO]at this
 .rw[h.length_eq,n]
 .exact h.nodup_iff.mpr i
 .intro x g;have g:=h.mem_iff.mp g;have:x∈c.take 12:=by
   rw[d];rcases A9.mp g with z|z
   .exact B7 _ z
   .exact Ay _ (Aq _ z)
  exact⟨p x (Du this),this⟩
 .intro g;rcases A9.mp (h.mem_iff.mp g) with z|z
  .exact j _ z _ Ak rfl
  .exact q z
 .rw[d];exact Ay _ Ak
noncomputable def qfv (c:Int):Str:=if c % 3=0 then wS "days" else if c % 3=1 then wS "weeks" else wS "court"
def qx2 (c:Int):atI [V.str (Aa "days"),V.str (Aa "weeks"),V.str (Aa "court")] (c % 3)=some (.str (qfv c))/\qfv c∈qcf:=by
 unfold qfv;rcases (by lia:c % 3=0\/c % 3=1\/c % 3=2) with e|e|e <;>rw[e]
 .exact⟨Z,by simp[qcf]⟩
 .exact⟨Z,by simp[qcf]⟩
 .exact⟨Z,by simp[qcf]⟩
def cut2 (vs:List V)(a b:Nat)(h:a<=vs.length)(h2:b<=vs.length):qe9 vs (some (a:Int)) (some (b:Int))=(vs.take b).drop a:=by
 have c:HT.sIx vs.length 0 (some (a:Int))=a:=by simp only[HT.sIx];split <;>lia
 have d:HT.sIx vs.length vs.length (some (b:Int))=b:=by simp only[HT.sIx];split <;>lia
 unfold qe9;rw[c,d];rw[List.drop_take]
def qvs {w c m p d l b f j k i n:Str}{e a g o s:List Str}(r:[c,m,p,d,l,b,f,j,k,i,n].Nodup)(t:w∉[c,m,p,d,l,b,f,j,k,i,n])(he:e.Sublist [m,p,d])(ha:a.Sublist [l,b])(X:g.Sublist [f,j])(ho:o.Sublist [c])(hs:s.Sublist [k,i]):(([w]++e++a++g)++o++s).Nodup/\∀x∈(([w]++e++a++g)++o++s),x=w\/x∈[c,m,p,d,l,b,f,j,k,i,n]:=by
 have q:(([w]++e++a++g)++o++s).Sublist (([w]++[m,p,d]++[l,b]++[f,j])++[c]++[k,i]):=((((((Ce _).append he).append ha).append X).append ho).append hs);constructor
 .refine q.nodup ?_;simp only[Bb,AG,AK,Ap,Av,or_false,not_or]at r t |-;obtain⟨⟨a1,a2,a3,a4,a5,a6,a7,a8,a9,a10⟩,⟨P,S,b4,U,b6,v,b8,b9,b10⟩,⟨D,E,c5,c6,G,c8,z,c10⟩,⟨d4,H,d6,K,J,u,d10⟩,⟨Q,V,I,M,e9,e10⟩,⟨f6,f7,C,f9,f10⟩,⟨W,y,g9,g10⟩,⟨h8,h9,h10⟩,⟨R,i10⟩,_⟩:=r;obtain⟨F,T,L,w3,N,w5,B,O,w8,A,w10⟩:=t;exact⟨⟨T,L,w3,N,w5,B,O,F,w8,A⟩,⟨P,S,b4,U,b6,v,Bc a1,b8,b9⟩,⟨D,E,c5,c6,G,Bc a2,c8,z⟩,⟨d4,H,d6,K,Bc a3,J,u⟩,⟨Q,V,I,Bc a4,M,e9⟩,⟨f6,f7,Bc a5,C,f9⟩,⟨W,Bc a6,y,g9⟩,⟨Bc a7,h8,h9⟩,⟨a8,a9⟩,R,not_false,.nil⟩
 .intro x Y;have:=q.subset Y;simp only[Bb,AG,Ap,Av,or_false]at this |-;rcases this with h|h|h|h|h|h|h|h|h|h|h <;>simp[h]
def useV {p G:Option V->Prop}{R:Prop}(m:(∀x,p x->G x)->R)(l:∀x,p x->G x):R:=m l
noncomputable def off (p:Addr)(H:Hp):Hp:=λb=>if b=p then none else H b
def qhr {p b:Addr}{H:Hp}{o:HO}(n:b≠p)(h:H b=some o):off p H b=some o:=by unfold off;rw[if_neg n];exact h
def qgn {p:Addr}{H:Hp}:Same (off p H) H:=λb o e=>by
 unfold off at e;by_cases c:b=p
 .rw[if_pos c]at e;cases e
 .rw[if_neg c]at e;exact e
def qox {p:Addr}{H a:Hp}(k:∀b o,b≠p->H b=some o->a b=some o):Same (off p H) (off p a):=λb o e=>by
 unfold off at e |-;by_cases c:b=p
 .rw[if_pos c]at e;cases e
 .rw[if_neg c]at e |-;exact k b o c e
theorem LR1.offp {H:Hp}{q:Addr}{r:RR}{c a pl d:Addr}{g:V}{us:List V}(h:LR1 H q r c a pl d g us){p:Addr}{m:List V}(j:H p=some (.lst m))(k:q≠p)(n:c≠p)(i:a≠p)(u:pl≠p)(w:d≠p):LR1 (off p H) q r c a pl d g us:=by
 have f:∀{b:Addr}{t:List V},H b=some (.tup t)->off p H b=some (.tup t):=λ{b t} e=>qhr (λz=>by rw[z,j]at e;cases e) e;have v:∀{us:List V}{ts:List (List V)},Tups H us ts->Tups (off p H) us ts:=λ{us ts} t=>by
  induction t with
  |nil=>exact .nil
  |cons h _ ih=>exact .cons (f h) ih
 refine⟨qhr k h.hq,qhr n h.he,qhr i h.ha,qhr u h.hl,v h.tl,?_,qhr w h.hy⟩;have hs:=h.hs;cases e:r.still with
 |none=>rw[e]at hs;exact hs
 |some s=>rw[e]at hs;obtain⟨b,l,o⟩:=hs;exact⟨b,l,f o⟩
structure LRs (H0 H:Hp)(p:Addr)(qs:List Addr)(rs:List RR):Prop where
 sm:Same H0 H
 hp:H p=some (.lst (qs.map V.ref))
 ln:qs.length=rs.length
 nd:qs.Nodup
 np:∀q∈qs,q≠p/\H0 q=none
 pn:H0 p=none
 lr:∀(i:Nat)(q:Addr)(r:RR),qs[i]?=some q->rs[i]?=some r->LR H q r
def LRs.same {d H c:Hp}{p:Addr}{a:List Addr}{rs:List RR}(b:LRs d H p a rs)(s:Same H c):LRs d c p a rs:=⟨b.sm.trans s,s _ _ b.hp,b.ln,b.nd,b.np,b.pn,λi q r f e=>(b.lr i q r f e).same s⟩
def LRs.put {k H:Hp}{p:Addr}{f:List Addr}{rs:List RR}{j:Nat}{q:Addr}{r r':RR}{B y pl D:Addr}{E:V}{o:HO}(b:LRs k H p f rs)(e:f[j]?=some q)(n:H q=some (.lst (qfu r B y pl E D)))(x:LR (upd H q o) q r'):LRs k (upd H q o) p f (rs.set j r'):=by
 obtain⟨np,v⟩:=b.np q (Al e);refine⟨qag b.sm v,(ze (Bc np)).trans b.hp,by rw[Bz];exact b.ln,b.nd,b.np,b.pn,λi w A d a=>?_⟩;rw[BA]at a;by_cases c:j=i
 .subst c;rw[if_pos Z]at a;rw[e]at d;cases d;split at a
  .cases a;exact x
  .cases a
 .rw[if_neg c]at a;obtain⟨t,l,s,u,m,g,h⟩:=b.lr i w A d a;refine⟨t,l,s,u,m,g,h.upd n λz=>c ?_⟩;rw[z]at d;have C:=(Ac.mp e).1;exact(Dn C b.nd).mp (e.trans d.symm)
def GRs (names:List Str)(ow:Nat->Nat)(rk:Nat->Int)(kinds:List Str)(rs:List RR):Prop:=∀(k:Nat)(r:RR),rs[k]?=some r->GR names ow rk kinds k r
structure Fewer (r r':RR):Prop where
 nm:r'.name=r.name
 wh:r'.who=r.who
 os:r'.owes=r.owes
 op:r'.opens=r.opens
 ba:r'.base=r.base
 mn:r'.many=r.many
 un:r'.unit=r.unit
 en:r'.ends.Sublist r.ends
 an:r'.anew.Sublist r.anew
 lg:r'.longer.Sublist r.longer
 st:r'.still=r.still\/r'.still=none
 yl:r'.yields.Sublist r.yields
def GR.fewer {names:List Str}{d:Nat->Nat}{h:Nat->Int}{a:List Str}{k:Nat}{r r':RR}(g:GR names d h a k r)(f:Fewer r r'):GR names d h a k r':=by
 have c:(qau r').Sublist (qau r):=by
  unfold qau;rw[f.os,f.op];refine((((((Ce _).append f.en).append f.an).append (f.lg.map _)).append (Ce _)).append ?_);rcases f.st with e|e
  .rw[e];exact Ce _
  .rw[e];exact List.nil_sublist _
 refine⟨f.nm.trans g.nm,by rw[f.wh];exact g.wh,f.os.trans g.os,c.nodup g.kd,λx b=>g.kn x (c.subset b),λx b=>g.ks x (c.subset b),by rw[f.ba,f.op];exact g.bo,by rw[f.mn];exact g.mn,by rw[f.un];exact g.un,⟨A2 f.lg.length_le g.lg.1,λt i=>g.lg.2 t (f.lg.subset i)⟩,⟨A2 f.en.length_le g.ln.1,A2 f.an.length_le g.ln.2⟩,⟨f.yl.nodup g.yl.nd,λy j=>g.yl.ok y (f.yl.subset j)⟩⟩
noncomputable def stN:Option (Str×Str)->Nat
 |none=>0
 |some _=>1
noncomputable def exR (r:RR):Nat:=r.ends.length+r.anew.length+r.longer.length+r.yields.length+stN r.still
noncomputable def qds (t:Nat)(n:Nat)(r:RR):RR:=match t with
 |0=>{r with ends:=r.ends.take n}
 |1=>{r with anew:=r.anew.take n}
 |2=>{r with longer:=r.longer.take n}
 |_=>{r with yields:=r.yields.take n}
noncomputable def qif (t:Nat)(r:RR):Nat:=match t with
 |0=>r.ends.length
 |1=>r.anew.length
 |2=>r.longer.length
 |_=>r.yields.length
noncomputable def qnb (t:Nat)(r:RR):Nat:=match t with
 |0=>0
 |1=>r.ends.length
 |2=>r.ends.length+r.anew.length
 |3=>r.ends.length+r.anew.length+r.longer.length
 |_=>r.ends.length+r.anew.length+r.longer.length+r.yields.length
theorem qig (t n:Nat)(r:RR):Fewer r (qds t n r):=by
 have R:∀{α:Type}(l:List α),l.Sublist l:=λl=>Ce l
 match t with
 |0=>exact⟨Z,Z,Z,Z,Z,Z,Z,Cd _ _,R _,R _,.inl Z,R _⟩
 |1=>exact⟨Z,Z,Z,Z,Z,Z,Z,R _,Cd _ _,R _,.inl Z,R _⟩
 |2=>exact⟨Z,Z,Z,Z,Z,Z,Z,R _,R _,Cd _ _,.inl Z,R _⟩
 |t+3=>exact⟨Z,Z,Z,Z,Z,Z,Z,R _,R _,R _,.inl Z,Cd _ _⟩
def qih {t n:Nat}(ht:t<4)(r:RR):qnb (t+1) (qds t n r)=qnb t r+qif t (qds t n r)/\qif t (qds t n r)<=n:=by
 rcases (by lia:t=0\/t=1\/t=2\/t=3) with rfl|rfl|rfl|rfl
 .exact⟨(CO _).symm,Dz _ _⟩
 .exact⟨Z,Dz _ _⟩
 .exact⟨Z,Dz _ _⟩
 .exact⟨Z,Dz _ _⟩
def spLrs (K:Ag):Sp:=λvs H Q _=>∃(l pn pk:Addr)(ns:List Int)(names kinds:List Str)(mo:Nat),vs=[.ref l,.ref pn,.ref pk,.int (mo:Int)]/\SqL K H l (ns.map V.int)/\H pn=some (.lst (names.map V.str))/\H pk=some (.lst (kinds.map V.str))/\names.Nodup/\names.length<=6/\kinds.Nodup/\12<=kinds.length/\kinds.length<=60/\(∀x∈kinds,qbq x)/\6<=mo/\mo<=100 /\
 ∀(p:Addr)(H':Hp)(qs:List Addr)(rs:List RR),LRs H H' p qs rs->rs.length=names.length->GRs names (owA ns) (rkA ns) kinds rs->(rs.map exR).sum+names.length<=mo->Q (.ref p) H'
def qk3 {rs:List RR}{j:Nat}{r:RR}(h:rs[j]?=some r):((rs.take (j+1)).map exR).sum=((rs.take j).map exR).sum+exR r:=by rw[qa6 h,Ar,List.sum_append];simp
def take_set' {rs:List RR}{j:Nat}{r:RR}:(rs.set j r).take j=rs.take j:=by rw[List.take_set_of_le (Ax _)]
def qs7 (vs:List V)(n:Nat):qe9 vs none (some (n:Int))=vs.take n:=by
 by_cases h:n<=vs.length
 .exact qkw vs n h
 .rw[BW (by lia)];unfold qe9;have a:HT.sIx vs.length vs.length (some (n:Int))=vs.length:=by simp only[HT.sIx];split <;>lia
  rw[show HT.sIx vs.length 0 none=0 from Z,a];simp
theorem qs8 {H:Hp}{us:List V}{ts:List (List V)}(t:Tups H us ts):∀n,Tups H (us.take n) (ts.take n):=by
 induction t with
 |nil=>intro n;rw[List.take_nil,List.take_nil];exact .nil
 |cons h _ ih =>
  intro n;cases n with|zero=>exact .nil|succ n=>exact .cons h (ih n)
theorem qii {names:List Str}{e:Nat->Nat}{d:Nat->Int}{b:List Str}{rs:List RR}{j:Nat}{r r':RR}(g:GRs names e d b rs)(h:rs[j]?=some r)(f:Fewer r r'):GRs names e d b (rs.set j r'):=λk i a=>by
 rw[BA]at a;by_cases c:j=k
 .subst c;rw[if_pos Z]at a;split at a
  .cases a;exact(g j r h).fewer f
  .cases a
 .rw[if_neg c]at a;exact g k i a
noncomputable def nS (n:Int):Str:=Aa (toString n)
noncomputable def qat:Rw7->List Str
 |.term x w o d y m u=>[wS "term",x,wS "of",w,wS "due",o,fbS d,y,nS m,u]
 |.ends x k=>[wS "ends",x,k]
 |.anew x k=>[wS "anew",x,k]
 |.longer x k u t=>[wS "longer",x,k,nS u,wS "times",nS t]
 |.still x k l=>[wS "still",x,k,l]
 |.yields x y=>[wS "yields",x,y]
noncomputable def qal (row:Rw7):Str:=DZ ⟨#[32]⟩ (qat row)
def qc5:Rw7->Prop
 |.term x w o _ y m u=>qbq x/\qbq w/\qbq o/\qbq y/\(1<=m/\m<=40)/\u∈qcf
 |.ends x k=>qbq x/\qbq k
 |.anew x k=>qbq x/\qbq k
 |.longer x k u t=>qbq x/\qbq k/\(1<=u/\u<=20)/\(1<=t/\t<=3)
 |.still x k l=>qbq x/\qbq k/\qbq l
 |.yields x y=>qbq x/\qbq y
def nS_all:∀n:Fin 41,1<=n.val->due (nS (n.val:Int)) 40=true/\nv (nS (n.val:Int))=(n.val:Int)/\((nS (n.val:Int)).cps.toList.all λd=>decide (d≠32) && decide (d≠10))=true/\(nS (n.val:Int)).cps.size<=2/\(n.val<=20->due (nS (n.val:Int)) 20=true)/\(n.val<=3->due (nS (n.val:Int)) 3=true):=Ek
def qgo {m:Int}(h1:1<=m)(h2:m<=40):due (nS m) 40=true/\nv (nS m)=m/\(∀c,c=32\/c=10->c∉(nS m).cps.toList)/\(nS m).cps.size<=2/\(m<=20->due (nS m) 20=true)/\(m<=3->due (nS m) 3=true):=by
 have h:=nS_all ⟨m.toNat,by lia⟩ (by show 1<=m.toNat;lia);have e:((m.toNat:Nat):Int)=m:=by lia
 dsimp only at h;rw[e]at h;obtain⟨b,d,j,i,f,g⟩:=h;refine⟨b,d,λc a z=>?_,i,λh=>f (by lia),λh=>g (by lia)⟩;have:=Bk.mp j c z;simp only[AN,decide_eq_true_eq]at this;rcases a with rfl|rfl
 .exact this.1 rfl
 .exact this.2 rfl
def qnc {u:Str}(h:u∈qcf):qcf.contains u=true/\(∀c,c=32\/c=10->c∉u.cps.toList)/\u.cps.size<=5:=by
 have d:∀w∈qcf,(w.cps.toList.all λd=>decide (d≠32) && decide (d≠10))=true/\w.cps.size<=5:=Ek;obtain⟨e,b⟩:=d u h;refine⟨Cz.mpr h,λc a z=>?_,b⟩;have:=Bk.mp e c z;simp only[AN,decide_eq_true_eq]at this;rcases a with rfl|rfl
 .exact this.1 rfl
 .exact this.2 rfl
def qre {w:Str}(h:w∈[wS "term",wS "of",wS "due",wS "from",wS "behind",wS "ends",wS "anew",wS "longer",wS "times",wS "still",wS "yields"]):(∀c,c=32\/c=10->c∉w.cps.toList)/\w.cps.size<=6:=by
 have d:∀w∈[wS "term",wS "of",wS "due",wS "from",wS "behind",wS "ends",wS "anew",wS "longer",wS "times",wS "still",wS "yields"],(w.cps.toList.all λd=>decide (d≠32) && decide (d≠10))=true/\w.cps.size<=6:=Ek;obtain⟨e,b⟩:=d w h;refine⟨λc a z=>?_,b⟩;have:=Bk.mp e c z;simp only[AN,decide_eq_true_eq]at this;rcases a with rfl|rfl
 .exact this.1 rfl
 .exact this.2 rfl
def qdh {x:Str}(h:qbq x):(∀c,c=32\/c=10->c∉x.cps.toList)/\x.cps.size<=8:=⟨λc hc=>qxt h (by lia),h.2.1⟩
theorem qij {e:Rw7}(h:qc5 e):∀w∈qat e,(∀c,c=32\/c=10->c∉w.cps.toList)/\w.cps.size<=8:=by
 have b:∀{w:Str},w∈[wS "term",wS "of",wS "due",wS "from",wS "behind",wS "ends",wS "anew",wS "longer",wS "times",wS "still",wS "yields"]->(∀c,c=32\/c=10->c∉w.cps.toList)/\w.cps.size<=8:=λh=>⟨(qre h).1,by have:=(qre h).2;lia⟩;intro w a;cases e with
 |term x w1 o d y m u =>
  obtain⟨g,j,f,p,⟨i,q⟩,s⟩:=h;obtain⟨_,_,n,z,_⟩:=qgo i q;obtain⟨_,r,u3⟩:=qnc s;simp only[qat,Ap,Av,or_false]at a;rcases a with rfl|rfl|rfl|rfl|rfl|rfl|rfl|rfl|rfl|rfl
  .exact b (by simp)
  .exact qdh g
  .exact b (by simp)
  .exact qdh j
  .exact b (by simp)
  .exact qdh f
  .cases d <;>exact b (by simp[fbS])
  .exact qdh p
  .exact⟨n,by lia⟩
  .exact⟨r,by lia⟩
 |ends x k =>
  simp only[qat,Ap,Av,or_false]at a;rcases a with rfl|rfl|rfl
  .exact b (by simp)
  .exact qdh h.1
  .exact qdh h.2
 |anew x k =>
  simp only[qat,Ap,Av,or_false]at a;rcases a with rfl|rfl|rfl
  .exact b (by simp)
  .exact qdh h.1
  .exact qdh h.2
 |yields x k =>
  simp only[qat,Ap,Av,or_false]at a;rcases a with rfl|rfl|rfl
  .exact b (by simp)
  .exact qdh h.1
  .exact qdh h.2
 |longer x k u t =>
  obtain⟨g,j,⟨f,p⟩,i,q⟩:=h;obtain⟨_,_,n,z,_⟩:=qgo f (by lia);obtain⟨_,_,v,m4,_⟩:=qgo i (by lia);simp only[qat,Ap,Av,or_false]at a;rcases a with rfl|rfl|rfl|rfl|rfl|rfl
  .exact b (by simp)
  .exact qdh g
  .exact qdh j
  .exact⟨n,by lia⟩
  .exact b (by simp)
  .exact⟨v,by lia⟩
 |still x k l =>
  simp only[qat,Ap,Av,or_false]at a;rcases a with rfl|rfl|rfl|rfl
  .exact b (by simp)
  .exact qdh h.1
  .exact qdh h.2.1
  .exact qdh h.2.2
def qvt (a:Rw7):qat a≠[]:=by cases a <;>exact CV _ _
def qs9 (a:Rw7):(qat a).length<=10:=by cases a <;>simp[qat]
def qqc {a:Rw7}(h:qc5 a):Cp (qal a) (wS " ")=qat a:=by rw[qq8];exact qki 32 (qvt a) λp b=>(qij h p b).1 32 (.inl Z)
theorem qqd {a:Rw7}(h:qc5 a):qgk (qat a)=some a:=by
 cases a with
 |term x w1 o d y m u =>
  obtain⟨j,f,g,i,⟨c,b⟩,q⟩:=h;obtain⟨r,e,_⟩:=qgo c b;show qgk [wS "term",x,wS "of",w1,wS "due",o,fbS d,y,nS m,u]=_;rw[qrb,if_pos ⟨Z,qc6.mpr j,Z,qc6.mpr f,Z,qc6.mpr g,by cases d <;>simp[fbS],qc6.mpr i,r,(qnc q).1⟩,e];cases d
  .rw[show decide (fbS false=wS "behind")=false by decide +kernel]
  .rw[show decide (fbS true=wS "behind")=true by decide +kernel]
 |ends x k =>show qgk [wS "ends",x,k]=_;rw[qm7,if_pos ⟨qc6.mpr h.1,qc6.mpr h.2⟩,if_pos Z]
 |anew x k =>show qgk [wS "anew",x,k]=_;rw[qm7,if_pos ⟨qc6.mpr h.1,qc6.mpr h.2⟩,if_neg Ek,if_pos Z]
 |yields x k =>show qgk [wS "yields",x,k]=_;rw[qm7,if_pos ⟨qc6.mpr h.1,qc6.mpr h.2⟩,if_neg Ek,if_neg Ek,if_pos Z]
 |longer x k u t =>obtain⟨j,f,⟨g,i⟩,c,b⟩:=h;obtain⟨_,e,_,_,p,_⟩:=qgo g (by lia);obtain⟨_,s,_,_,_,n⟩:=qgo c (by lia);show qgk [wS "longer",x,k,nS u,wS "times",nS t]=_;rw[qvl,if_pos ⟨Z,qc6.mpr j,qc6.mpr f,p i,Z,n b⟩,e,s]
 |still x k l =>show qgk [wS "still",x,k,l]=_;rw[qvm,if_pos ⟨Z,qc6.mpr h.1,qc6.mpr h.2.1,qc6.mpr h.2.2⟩]
def qnd {a:Rw7}(h:qc5 a):opR (qal a)=some a:=by unfold opR;rw[qqc h,qqd h]
theorem jl9 {c n:Nat}:∀{ps:List (List Nat)},(∀p∈ps,p.length<=n)->(jl c ps).length<=(n+1)*ps.length
 | [],_=>Ax _
 | [x],h=>by have:=h x Ak;show x.length<=(n+1)*1;lia
 |x::y::r,h=>by have h1:=h x Ak;have h2:=jl9 (c:=c) (ps:=y::r) λp a=>h p (Aq _ a);show (x++c::jl c (y::r)).length<=(n+1)*((y::r).length+1);rw[Ai,Am,Nat.mul_succ];lia
theorem qvu {c d:Nat}(n:c≠d):∀{ps:List (List Nat)},(∀p∈ps,d∉p)->d∉jl c ps
 | [],_=>Av
 | [x],h=>h x Ak
 |x::y::r,h=>by
  show d∉x++c::jl c (y::r);rw[A9,Ap];rintro (z|z|z)
  .exact h x Ak z
  .exact n z.symm
  .exact qvu n (λp a=>h p (Aq _ a)) z
theorem qik {a:Rw7}(h:qc5 a):(qal a).cps.size<=90/\10∉(qal a).cps.toList/\(qal a).cps.size≠0:=by
 have e:(qal a).cps.toList=jl 32 ((qat a).map λp=>p.cps.toList):=qdb 32 _;refine⟨?_,?_,?_⟩
 .rw[<- AO,e];have:=jl9 (c:=32) (n:=8) (ps:=(qat a).map λp=>p.cps.toList) λp d=>by obtain⟨w,b,rfl⟩:=A8.mp d;rw[AO];exact(qij h w b).2
  rw[Ab]at this;have:=qs9 a;lia
 .rw[e];refine qvu En λp d=>?_;obtain⟨w,b,rfl⟩:=A8.mp d;exact(qij h w b).1 10 (.inr Z)
 .rw[<- AO,e];cases a <;>(simp only[qat,At,BE,jl,Ai,Am];lia)
noncomputable def qae (r:RR):Rw7:=match r.base with
 |some y=>.term r.name r.who r.owes true y r.many r.unit
 |none=>.term r.name r.who r.owes false (r.opens.getD "None") r.many r.unit
noncomputable def qcv (x:Str):Option (Str×Str)->List Rw7
 |none=>[]
 |some s=>[.still x s.1 s.2]
noncomputable def qb7 (r:RR):List (List Rw7):=[[qae r],r.ends.map (.ends r.name),r.anew.map (.anew r.name),r.longer.map (λt=>.longer r.name t.1 t.2.1 t.2.2),qcv r.name r.still,r.yields.map (.yields r.name)]
noncomputable def qbr (r:RR):List Rw7:=(qb7 r).flatten
structure RrOk (r:RR):Prop where
 nm:qbq r.name
 wh:qbq r.who
 kn:∀x∈qau r,qbq x
 ba:∀y,r.base=some y->qbq y
 bo:r.base=none->∃o,r.opens=some o
 bn:∀y,r.base=some y->r.opens=none
 yl:∀y∈r.yields,qbq y
 mn:1<=r.many/\r.many<=40
 un:r.unit∈qcf
 lg:∀t∈r.longer,(1<=t.2.1/\t.2.1<=20)/\1<=t.2.2/\t.2.2<=3
 sz:r.ends.length<=100/\r.anew.length<=100/\r.longer.length<=100/\r.yields.length<=100
def RrOk.kin {r:RR}(h:RrOk r):qbq r.owes/\(∀x∈r.ends,qbq x)/\(∀x∈r.anew,qbq x)/\(∀t∈r.longer,qbq t.1)/\(∀x,r.opens=some x->qbq x)/\∀s,r.still=some s->qbq s.1/\qbq s.2:=by
 have m:∀x,x∈qau r↔x=r.owes\/x∈r.ends\/x∈r.anew\/x∈r.longer.map (·.1)\/x∈r.opens.toList\/x∈stL r.still:=λx=>by unfold qau;simp only[A9,Ao,or_assoc]
 refine⟨h.kn _ ((m _).mpr (.inl Z)),λx a=>h.kn _ ((m _).mpr (.inr (.inl a))),λx a=>h.kn _ ((m _).mpr (.inr (.inr (.inl a)))),λt b=>h.kn _ ((m _).mpr (.inr (.inr (.inr (.inl (A8.mpr ⟨t,b,Z⟩)))))),λx a=>h.kn _ ((m _).mpr (.inr (.inr (.inr (.inr (.inl (by rw[a];simp))))))),λs hs=>?_⟩;exact⟨h.kn _ ((m _).mpr (.inr (.inr (.inr (.inr (.inr (by rw[hs];simp[stL]))))))),h.kn _ ((m _).mpr (.inr (.inr (.inr (.inr (.inr (by rw[hs];simp[stL])))))))⟩
theorem qx3 {r:RR}(h:RrOk r):qc5 (qae r):=by
 unfold qae;cases a:r.base with
 |some y=>exact⟨h.nm,h.wh,h.kin.1,h.ba y a,h.mn,h.un⟩
 |none =>obtain⟨o,b⟩:=h.bo a;dsimp only;rw[b];exact⟨h.nm,h.wh,h.kin.1,h.kin.2.2.2.2.1 o b,h.mn,h.un⟩
theorem qx4 {r:RR}(h:RrOk r):∀a∈qbr r,qc5 a:=by
 obtain⟨k1,e,g,j,k5,i⟩:=h.kin;intro a c;unfold qbr qb7 at c;simp only[List.flatten_cons,List.flatten_nil,AW,A9,A8,Ao]at c;rcases c with rfl|⟨k,hk,rfl⟩|⟨k,hk,rfl⟩|⟨t,d,rfl⟩|hs|⟨y,f,rfl⟩
 .exact qx3 h
 .exact⟨h.nm,e k hk⟩
 .exact⟨h.nm,g k hk⟩
 .exact⟨h.nm,j t d,(h.lg t d).1,(h.lg t d).2⟩
 .cases b:r.still with
  |none=>rw[b]at hs;cases hs
  |some s =>rw[b]at hs;rw[Ao.mp hs];exact⟨h.nm,i s b⟩
 .exact⟨h.nm,h.yl y f⟩
theorem nd_sub {l m:List Str}(b:l.Nodup)(h:∀x∈l,x∈m):l.length<=m.length:=by
 induction l generalizing m with
 |nil=>exact Bj _
 |cons a l ih =>rw[AK]at b;have:=ih (m:=m.erase a) b.2 λx c=>(List.mem_erase_of_ne (show x≠a from λe=>b.1 (by rw[<- e];exact c))).mpr (h x (Aq _ c));rw[List.length_erase_of_mem (h a Ak)]at this;have:1<=m.length:=List.length_pos_of_mem (h a Ak);rw[Am];lia
def GR.rrok {names:List Str}{j:Nat->Nat}{l:Nat->Int}{f:List Str}{k:Nat}{r:RR}(g:GR names j l f k r)(m:∀x∈names,qbq x)(hk:k<names.length)(l6:names.length<=6):RrOk r:=by
 have d:∀b,b<names.length->qbq (nm9 names b):=λb c=>m _ (Al (qh8 c));have yn:r.yields.length<=names.length:=by refine nd_sub g.yl.nd λy a=>?_;obtain⟨b,c,e,_⟩:=g.yl.ok y a;rw[e];exact Al (qh8 c)
 refine⟨by rw[g.nm];exact d k hk,g.wh,g.kn,λy a=>?_,λc=>?_,λy a=>?_,λy a=>?_,g.mn,g.un,g.lg.2,⟨by have:=g.ln.1;lia,by have:=g.ln.2;lia,by have:=g.lg.1;lia,by lia⟩⟩
 .rcases g.bo with ⟨b,c,e,_⟩|⟨e,_⟩
  .rw[e]at a;cases a;exact d b c
  .rw[e]at a;cases a
 .rcases g.bo with ⟨b,h,e,_⟩|⟨_,e⟩
  .rw[e]at c;cases c
  .exact e
 .rcases g.bo with ⟨b,h,e,_,i⟩|⟨e,_⟩
  .exact i
  .rw[e]at a;cases a
 .obtain⟨b,c,e,_⟩:=g.yl.ok y a;rw[e];exact d b c
def qg2:(wS "term ").cps.toList=(wS "term").cps.toList++[32]/\(wS " of ").cps.toList=32::((wS "of").cps.toList++[32])/\(wS " due ").cps.toList=32::((wS "due").cps.toList++[32])/\(wS "from ").cps.toList=(wS "from").cps.toList++[32]/\(wS "behind ").cps.toList=(wS "behind").cps.toList++[32]/\(wS " ").cps.toList=[32]/\(wS "ends ").cps.toList=(wS "ends").cps.toList++[32]/\(wS "anew ").cps.toList=(wS "anew").cps.toList++[32]/\(wS "longer ").cps.toList=(wS "longer").cps.toList++[32]/\(wS " times ").cps.toList=32::((wS "times").cps.toList++[32])/\(wS "still ").cps.toList=(wS "still").cps.toList++[32]/\(wS "yields ").cps.toList=(wS "yields").cps.toList++[32]:=Ek
def hl0 {a b:Str}(d:a.length<=50000)(c:b.length<=50000):a.length+b.length<=100000:=Nat.add_le_add d c
def hl {a b:Str}{n:Nat}(ha:a.length<=n / 2)(hb:b.length<=n / 2):(a++b).length<=n:=by rw[qaw];lia
def fz {n:Nat}(h:n<=100000:=by first | (refine hl0 ?_ ?_ <;>(repeat' refine hl ?_ ?_) <;>first|exact A2 (by assumption) En|decide)|lia | (simp only[qaw];lia)):n<=Au:=qad h
theorem t_lens:(Aa "term ").length=5/\(Aa " of ").length=4/\(Aa " due ").length=5/\(Aa "from ").length=5/\(Aa "behind ").length=7/\(Aa " ").length=1/\(Aa "ends ").length=5/\(Aa "anew ").length=5/\(Aa "longer ").length=7/\(Aa " times ").length=7/\(Aa "still ").length=6/\(Aa "yields ").length=7/\(Aa "None").length=4:=Ek
noncomputable def qls (r:RR):Str:=match r.base with
 |some y=>wS "behind " ++ y
 |none=>wS "from " ++ r.opens.getD "None"
def qta (r:RR):wS "term " ++ r.name++wS " of " ++ r.who++wS " due " ++ r.owes++wS " " ++ qls r++wS " " ++ nS r.many++wS " " ++ r.unit=qal (qae r):=by
 obtain⟨d,b,c,f,e,a,_⟩:=qg2;refine str_ext ?_;rw[show (qal (qae r)).cps.toList=jl 32 ((qat (qae r)).map λp=>p.cps.toList) from qdb 32 _];unfold qls qae;cases r.base with|some y =>dsimp only;simp only[qdq,d,b,c,e,a,qat,fbS,if_pos,At,BE,jl,AB,Bb,AG]|none =>dsimp only;simp only[qdq,d,b,c,f,a,qat,fbS,Db,if_false,At,BE,jl,AB,Bb,AG]
def qmg (x k:Str):wS "ends " ++ x++wS " " ++ k=qal (.ends x k):=by obtain⟨_,_,_,_,_,b,a,_⟩:=qg2;refine str_ext ?_;rw[show (qal (.ends x k)).cps.toList=jl 32 ((qat (.ends x k)).map λp=>p.cps.toList) from qdb 32 _];simp only[qdq,b,a,qat,At,BE,jl,AB,Bb,AG]
def qmh (x k:Str):wS "anew " ++ x++wS " " ++ k=qal (.anew x k):=by obtain⟨_,_,_,_,_,b,_,a,_⟩:=qg2;refine str_ext ?_;rw[show (qal (.anew x k)).cps.toList=jl 32 ((qat (.anew x k)).map λp=>p.cps.toList) from qdb 32 _];simp only[qdq,b,a,qat,At,BE,jl,AB,Bb,AG]
def qji (x k:Str):wS "yields " ++ x++wS " " ++ k=qal (.yields x k):=by obtain⟨_,_,_,_,_,b,_,_,_,_,_,a⟩:=qg2;refine str_ext ?_;rw[show (qal (.yields x k)).cps.toList=jl 32 ((qat (.yields x k)).map λp=>p.cps.toList) from qdb 32 _];simp only[qdq,b,a,qat,At,BE,jl,AB,Bb,AG]
def qjj (x k:Str)(u t:Int):wS "longer " ++ x++wS " " ++ k++wS " " ++ nS u++wS " times " ++ nS t=qal (.longer x k u t):=by obtain⟨_,_,_,_,_,b,_,_,c,a,_⟩:=qg2;refine str_ext ?_;rw[show (qal (.longer x k u t)).cps.toList=jl 32 ((qat (.longer x k u t)).map λp=>p.cps.toList) from qdb 32 _];simp only[qdq,b,c,a,qat,At,BE,jl,AB,Bb,AG]
def qqe (x k l:Str):wS "still " ++ x++wS " " ++ k++wS " " ++ l=qal (.still x k l):=by obtain⟨_,_,_,_,_,b,_,_,_,_,a,_⟩:=qg2;refine str_ext ?_;rw[show (qal (.still x k l)).cps.toList=jl 32 ((qat (.still x k l)).map λp=>p.cps.toList) from qdb 32 _];simp only[qdq,b,a,qat,At,BE,jl,AB,Bb,AG]
noncomputable def qaq (rows:List Rw7):List V:=(rows.map qal).map V.str
def spSo:Sp:=λvs H Q _=>∃(p:Addr)(r:RR),vs=[.ref p]/\LR H p r/\RrOk r/\∀(q:Addr)(H':Hp)(us:List V),H q=none->Same H H'->H' q=some (.lst us)->us.length=6->(∀(i:Nat)(v:V)(rw:List Rw7),us[i]?=some v->(qb7 r)[i]?=some rw->∃b,v=.ref b/\H' b=some (.lst (qaq rw)))->Q (.ref q) H'
def spRws:Sp:=λvs H Q _=>∃(p:Addr)(r:RR),vs=[.ref p]/\LR H p r/\RrOk r/\∀(q:Addr)(H':Hp),H q=none->Same H H'->H' q=some (.lst (qaq (qbr r)))->Q (.ref q) H'
def qqf {n:Int}(h:n.natAbs<=100):n.natAbs.log2<1920:=Da (DW _) (by lia)
theorem qk4 {r:RR}(h:RrOk r):∀rw∈qb7 r,rw.length<=100:=by
 obtain⟨e,d,b,c⟩:=h.sz;intro rw a;simp only[qb7,Ap,Av,or_false]at a;rcases a with rfl|rfl|rfl|rfl|rfl|rfl
 .simp
 .rw[Ab];exact e
 .rw[Ab];exact d
 .rw[Ab];exact b
 .cases r.still <;>simp[qcv]
 .rw[Ab];exact c
def qtb:RR->List Rw7->Prop
 |_,[]=>True
 |r,row::t=>isT row=false/\qar row=r.name/\qho r row=false/\qtb (qa4 r row) t
def qvv {rs0:List RR}{r:RR}(h:qaj rs0 r.name=none):qaj (rs0++[r]) r.name=some rs0.length:=by rw[qie,h];dsimp only;rw[if_pos Z]
def qtc {rs0:List RR}{r r':RR}:(rs0++[r]).set rs0.length r'=rs0++[r']:=by rw[List.set_append_right _ _ (Ax _),Dx];rfl
def qtd {rs0:List RR}{r:RR}:(rs0++[r])[rs0.length]?=some r:=by rw[AS (Ax _),Dx];rfl
theorem qg9:∀{a:List Rw7}{rs0:List RR}{r:RR}{i:Nat}{t:List (Option Rw7)},qaj rs0 r.name=none->qtb r a->i+a.length<=40->qao (rs0++[r]) i (a.map some++t)=qao (rs0++[a.foldl qa4 r]) (i+a.length) t
 | [],_,_,_,_,_,_,_=>rfl
 |row::a,rs0,r,i,t,hp,f,hi=>by
  obtain⟨c,b,d,e⟩:=f;rw[Am]at hi;have h:qcu (rs0++[r]) i row=.ok (rs0++[qa4 r row]):=by rw[qg1 c,qkz (by rw[b];exact qvv hp) qtd d,qtc]
  show qao (rs0++[r]) i (some row::(a.map some++t))=_;rw[qft (by lia) h,qg9 (by rw[qfq];exact hp) e (by lia),Am,show i+1+a.length=i+(a.length+1) by lia];rfl
noncomputable def nLg:List Rw7->Nat
 | []=>0
 |.longer _ _ _ _::t=>nLg t+1
 |_::t=>nLg t
noncomputable def nSt:List Rw7->Nat
 | []=>0
 |.still _ _ _::t=>nSt t+1
 |_::t=>nSt t
theorem qte (r:RR){a:Rw7}(h:isT a=false)(hs:nSt [a]+stN r.still<=1):(qau (qa4 r a)).Perm (qau r++kin a):=by
 refine Ej.mpr λx=>?_;cases a with
 |term=>cases h
 |ends y k=>simp only[qau,qa4,kin,Ct];lia
 |anew y k=>simp only[qau,qa4,kin,Ct];lia
 |longer y k u t=>simp only[qau,qa4,kin,Ct,Ar,At,BE];lia
 |still y k l =>
  have e:r.still=none:=by
   cases b:r.still with|none=>rfl|some s=>rw[b]at hs;have hs:1+1<=1:=hs;lia
  simp only[qau,qa4,kin,Ct,e,stL,List.count_nil];lia
 |yields y k=>simp only[qau,qa4,kin,Ct,List.count_nil];lia
def qk5 (a:Rw7)(t:List Rw7):nLg (a::t)=nLg [a]+nLg t:=by cases a <;>simp[nLg] <;>lia
def qk6 (a:Rw7)(t:List Rw7):nSt (a::t)=nSt [a]+nSt t:=by cases a <;>simp[nSt] <;>lia
def qx5 (r:RR)(a:Rw7):(qa4 r a).longer.length=r.longer.length+nLg [a]:=by cases a <;>simp[qa4,nLg]
def qx6 (r:RR)(a:Rw7)(h:nSt [a]+stN r.still<=1):stN (qa4 r a).still=stN r.still+nSt [a]:=by
 cases a with|still y k l =>show 1=stN r.still+1;have h:1+stN r.still<=1:=h;lia|_=>rfl
theorem qne:∀{a:List Rw7}{r:RR},(∀row∈a,isT row=false/\qar row=r.name)->(qau r++a.flatMap kin).Nodup->r.longer.length+nLg a<=2->stN r.still+nSt a<=1->qtb r a
 | [],_,_,_,_,_=>trivial
 |row::a,r,ha,nd,hl,hs=>by
  obtain⟨f,j⟩:=ha row Ak;rw[qk5]at hl;rw[qk6]at hs;have i:=qte r f (by lia);rw[Bg,<- AB]at nd;have c:=(AV.mp nd).1;obtain⟨n1,d,g⟩:=AV.mp c;refine⟨f,j,?_,qne (λb h=>by rw[qfq];exact ha b (Aq _ h)) ?_ (by rw[qx5];lia) (by rw[qx6 r row (by lia)];lia)⟩
  .unfold qho;rw[Bool.or_eq_false_iff];constructor
   .rw[List.any_eq_false];intro k hk z;exact g k (Cz.mp z) k hk rfl
   .cases row with
    |still y k l =>
     show (r.still.isSome || decide (k=l))=false;have e:r.still=none:=by
      cases m:r.still with|none=>rfl|some s=>rw[m]at hs;have hs:1+(1+nSt a)<=1:=hs;lia
     rw[e,decide_eq_false]
     .rfl
     .intro z;rw[z]at d;simp[kin]at d
    |longer y k u t =>show decide (r.longer.length=2)=false;rw[decide_eq_false];intro z;have hl:r.longer.length+(1+nLg a)<=2:=hl;lia
    |_=>rfl
  .exact(i.append_right _).nodup_iff.mpr nd
noncomputable def noY (r:RR):RR:={r with yields:=[]}
theorem qeg (x:Str):∀(ks:List Str)(r:RR),(ks.map (.ends x)).foldl qa4 r={r with ends:=r.ends++ks}
 | [],r=>by rw[AW];rfl
 |k::ks,r=>by show (ks.map (.ends x)).foldl qa4 {r with ends:=r.ends++[k]}=_;rw[qeg x ks];simp only[AB,Bb,AG]
theorem qeh (x:Str):∀(ks:List Str)(r:RR),(ks.map (.anew x)).foldl qa4 r={r with anew:=r.anew++ks}
 | [],r=>by rw[AW];rfl
 |k::ks,r=>by show (ks.map (.anew x)).foldl qa4 {r with anew:=r.anew++[k]}=_;rw[qeh x ks];simp only[AB,Bb,AG]
theorem qdi (x:Str):∀(ks:List (Str×Int×Int))(r:RR),(ks.map λt=>Rw7.longer x t.1 t.2.1 t.2.2).foldl qa4 r={r with longer:=r.longer++ks}
 | [],r=>by rw[AW];rfl
 |k::ks,r=>by show (ks.map λt=>Rw7.longer x t.1 t.2.1 t.2.2).foldl qa4 {r with longer:=r.longer++[(k.1,k.2.1,k.2.2)]}=_;rw[qdi x ks];simp only[AB,Bb,AG]
theorem qdj (x:Str):∀(ks:List Str)(r:RR),(ks.map (.yields x)).foldl qa4 r=r
 | [],r=>rfl
 |k::ks,r=>qdj x ks r
def qet (x:Str)(o:Option (Str×Str))(r:RR)(h:r.still=none):(qcv x o).foldl qa4 r={r with still:=o}:=by
 cases o with|none=>show r={r with still:=none};rw[<- h]|some s=>rfl
noncomputable def qbc (r:RR):List Rw7:=r.ends.map (.ends r.name)++(r.anew.map (.anew r.name)++(r.longer.map (λt=>.longer r.name t.1 t.2.1 t.2.2)++(qcv r.name r.still++r.yields.map (.yields r.name))))
def qc4 (r:RR):qbr r=qae r::qbc r:=by unfold qbr qb7 qbc;simp only[List.flatten_cons,List.flatten_nil,AW,Bb,AG]
noncomputable def qbo (r:RR):RR:=⟨r.name,r.who,r.owes,r.opens,r.base,r.many,r.unit,[],[],[],none,[]⟩
def qmi (r:RR):(qbc r).foldl qa4 (qbo r)=noY r:=by unfold qbc;rw[Cf,qeg,Cf,qeh,Cf,qdi,Cf,qet _ _ _ Z,qdj];simp only[qbo,noY,AG]
theorem qrf (r:RR):∀a∈qbc r,isT a=false/\qar a=r.name:=by
 intro a h;unfold qbc at h;simp only[A9,A8]at h;rcases h with ⟨k,_,rfl⟩|⟨k,_,rfl⟩|⟨k,_,rfl⟩|h|⟨k,_,rfl⟩
 .exact⟨Z,Z⟩
 .exact⟨Z,Z⟩
 .exact⟨Z,Z⟩
 .cases b:r.still with
  |none=>rw[b]at h;cases h
  |some s=>rw[b]at h;rw[Ao.mp h];exact⟨Z,Z⟩
 .exact⟨Z,Z⟩
def qoy (r:RR):(qbc r).flatMap kin=r.ends++(r.anew++(r.longer.map (·.1)++stL r.still)):=by
 have a:∀ks:List Str,(ks.map (Rw7.ends r.name)).flatMap kin=ks:=λks=>by induction ks with|nil=>rfl|cons k ks ih=>rw[At,Bg,ih];rfl
 have c:∀ks:List Str,(ks.map (Rw7.anew r.name)).flatMap kin=ks:=λks=>by induction ks with|nil=>rfl|cons k ks ih=>rw[At,Bg,ih];rfl
 have d:∀ks:List (Str×Int×Int),(ks.map λt=>Rw7.longer r.name t.1 t.2.1 t.2.2).flatMap kin=ks.map (·.1):=λks=>by induction ks with|nil=>rfl|cons k ks ih=>rw[At,Bg,ih];rfl
 have b:∀ks:List Str,(ks.map (Rw7.yields r.name)).flatMap kin=[]:=λks=>by induction ks with|nil=>rfl|cons k ks ih=>rw[At,Bg,ih];rfl
 unfold qbc;rw[AL,AL,AL,AL,a,c,d,b,AW];cases r.still <;>rfl
theorem qfw:∀a b:List Rw7,nLg (a++b)=nLg a+nLg b
 | [],b=>(CO _).symm
 |x::a,b=>by rw[Bb,qk5,qk5 x a,qfw a b];lia
theorem qfx:∀a b:List Rw7,nSt (a++b)=nSt a+nSt b
 | [],b=>(CO _).symm
 |x::a,b=>by rw[Bb,qk6,qk6 x a,qfx a b];lia
theorem qvw (r:RR):nLg (qbc r)=r.longer.length/\nSt (qbc r)=stN r.still:=by
 have a:∀ks:List Str,nLg (ks.map (Rw7.ends r.name))=0/\nSt (ks.map (Rw7.ends r.name))=0/\nLg (ks.map (Rw7.anew r.name))=0/\nSt (ks.map (Rw7.anew r.name))=0/\nLg (ks.map (Rw7.yields r.name))=0/\nSt (ks.map (Rw7.yields r.name))=0:=λks=>by
  induction ks with
  |nil=>exact⟨Z,Z,Z,Z,Z,Z⟩
  |cons k ks ih=>exact ih
 have b:∀ks:List (Str×Int×Int),nLg (ks.map λt=>Rw7.longer r.name t.1 t.2.1 t.2.2)=ks.length/\nSt (ks.map λt=>Rw7.longer r.name t.1 t.2.1 t.2.2)=0:=λks=>by
  induction ks with
  |nil=>exact⟨Z,Z⟩
  |cons k ks ih=>exact⟨congrArg (· + 1) ih.1,ih.2⟩
 have c:∀o:Option (Str×Str),nLg (qcv r.name o)=0/\nSt (qcv r.name o)=stN o:=λo=>by cases o <;>exact⟨Z,Z⟩
 unfold qbc;rw[qfw,qfw,qfw,qfw,qfx,qfx,qfx,qfx,(a r.ends).1,(a r.ends).2.1,(a r.anew).2.2.1,(a r.anew).2.2.2.1,(b r.longer).1,(b r.longer).2,(c r.still).1,(c r.still).2,(a r.yields).2.2.2.2.1,(a r.yields).2.2.2.2.2];lia
def qtf {r:RR}(c:(qau r).Nodup)(l2:r.longer.length<=2):qtb (qbo r) (qbc r):=by obtain⟨b,a⟩:=qvw r;refine qne (qrf r) ?_ (by rw[b];show 0+_<=2;lia) (by rw[a];show 0+_<=1;cases r.still <;>simp[stN]);rw[qoy];refine(List.Perm.nodup_iff (Ej.mpr λx=>?_)).mpr c;simp only[qau,qbo,Ct,BE,List.count_nil,stL];lia
theorem qoz {rs0:List RR}{r:RR}{i:Nat}(ok:RrOk r)(c:(qau r).Nodup)(f:qaj rs0 r.name=none)(e:rs0.length≠6):qcu rs0 i (qae r)=.ok (rs0++[qbo r]):=by
 unfold qae;cases a:r.base with
 |some y =>show qec rs0 i r.name r.who r.owes true y r.many r.unit=_;rw[qgl (d:=true) f (λz=>z.elim e λz=>nomatch z.1)];unfold qm8 qbo;rw[a,ok.bn y a];rfl
 |none =>
  obtain⟨o,b⟩:=ok.bo a;show qec rs0 i r.name r.who r.owes false (r.opens.getD "None") r.many r.unit=_;rw[b];have ne:r.owes≠o:=λz=>by unfold qau at c;rw[b,z]at c;simp at c
  show qec rs0 i r.name r.who r.owes false o r.many r.unit=_;rw[qgl f (λz=>z.elim e λz=>ne z.2)];unfold qm8 qbo;rw[a,b];rfl
def qlt {rs0:List RR}{r:RR}{i:Nat}{t:List (Option Rw7)}(ok:RrOk r)(c:(qau r).Nodup)(e:r.longer.length<=2)(b:qaj rs0 r.name=none)(d:rs0.length≠6)(a:i+(qbr r).length<=40):qao rs0 i ((qbr r).map some++t)=qao (rs0++[noY r]) (i+(qbr r).length) t:=by rw[qc4]at a |-;rw[Am]at a |-;show qao rs0 i (some (qae r)::((qbc r).map some++t))=_;rw[qft (by lia) (qoz ok c b d),qg9 (r:=qbo r) b (qtf c e) (by lia),qmi,show i+1+(qbc r).length=i+((qbc r).length+1) by lia]
noncomputable def qai (rs:List RR):List Rw7:=rs.flatMap qbr
structure GT (rs:List RR):Prop where
 ok:∀r∈rs,RrOk r
 kd:∀r∈rs,(qau r).Nodup
 l2:∀r∈rs,r.longer.length<=2
 nn:(rs.map RR.name).Nodup
 l6:rs.length<=6
 ba:qi5 rs
 yl:∀r∈rs,r.yields.Nodup/\∀y∈r.yields,y≠r.name/\∃s∈rs,s.name=y/\s.owes=r.owes
 ln:(qai rs).length<=40
theorem qil:∀{rs rs0:List RR}{i:Nat}{t:List (Option Rw7)},(∀r∈rs,RrOk r/\(qau r).Nodup/\r.longer.length<=2)->((rs0++rs).map RR.name).Nodup->(rs0++rs).length<=6->i+(qai rs).length<=40->qao rs0 i ((qai rs).map some++t)=qao (rs0++rs.map noY) (i+(qai rs).length) t
 | [],rs0,i,t,_,_,_,_=>by show qao rs0 i t=qao (rs0++[]) (i+0) t;rw[AW];rfl
 |r::rs,rs0,i,t,ok,nn,l6,h40=>by
  have b:qai (r::rs)=qbr r++qai rs:=Bg;rw[b,Ai]at h40;obtain⟨c,d,f⟩:=ok r Ak;have e:qaj rs0 r.name=none:=qcp.mpr λz=>by rw[Ar,AV]at nn;exact nn.2.2 _ z r.name (by simp) rfl
  have a:(((rs0++[noY r])++rs).map RR.name).Nodup:=by
   rw[AB];have:((rs0++([noY r]++rs)).map RR.name)=(rs0++r::rs).map RR.name:=by simp[noY]
   rw[this];exact nn
  rw[Ai,Am]at l6;rw[b,Ar,AB,qlt c d f e (by lia) (by lia),qil (λs hs=>ok s (Aq _ hs)) a (by rw[Ai,Ai];show _+1+_<=6;lia) (by lia),Ai,AB,Nat.add_assoc];rfl
def qvx {rs:List RR}(g:GT rs):qao [] 0 ((qai rs).map some)=.ok (rs.map noY):=by have:=qil (rs:=rs) (rs0:=[]) (i:=0) (t:=[]) (λr a=>⟨g.ok r a,g.kd r a,g.l2 r a⟩) g.nn g.l6 (by have:=g.ln;lia);rw[AW,AG]at this;rw[this];rfl
theorem qjk:∀{a:List Rw7}{rs:List RR}{i:Nat}{t:List Rw7},(∀row∈a,isT row=false/\∀x y,row ≠ .yields x y)->qas rs i (a++t)=qas rs (i+a.length) t
 | [],_,_,_,_=>rfl
 |row::a,rs,i,t,h=>by obtain⟨e,d⟩:=h row Ak;show qas rs i (row::(a++t))=_;rw[qff (qvo e d),qjk λb c=>h b (Aq _ c),Am,show i+1+a.length=i+(a.length+1) by lia]
theorem qk7:∀{ys:List Str}{rs:List RR}{r:RR}{i j:Nat}{t:List Rw7},(rs.map RR.name).Nodup->rs[j]?=some r->(r.yields++ys).Nodup->(∀y∈ys,y≠r.name/\∃s∈rs,s.name=y/\s.owes=r.owes)->qas rs i (ys.map (.yields r.name)++t)=qas (rs.set j {r with yields:=r.yields++ys}) (i+ys.length) t
 | [],rs,r,i,j,t,_,hj,_,_=>by
  show qas rs i t=qas (rs.set j {r with yields:=r.yields++[]}) (i+0) t;rw[AW];have:rs.set j r=rs:=by
   apply B0;intro k;rw[BA];by_cases c:j=k
   .subst c;rw[if_pos Z,if_pos (Ac.mp hj).1,hj]
   .rw[if_neg c]
  rw[this];rfl
 |y::ys,rs,r,i,j,t,nn,hj,nd,hy=>by
  obtain⟨o,s,hs,m,x⟩:=hy y Ak;obtain⟨l,hl⟩:=AA hs;have pl:qaj rs y=some l:=by rw[<- m];exact qd4 nn hl
  have w:y∉r.yields:=λz=>by rw[AV]at nd;exact nd.2.2 y z y Ak rfl
  have h:qbz rs i (.yields r.name y)=.ok (rs.set j {r with yields:=r.yields++[y]}):=by rw[qk1 (qd4 nn hj),qhp pl hj hl λz=>z.elim o λz=>z.elim w λz=>z x]
  have u:({r with yields:=r.yields++[y]}:RR).name=r.name:=rfl;show qas rs i (.yields r.name y::(ys.map (.yields r.name)++t))=_;have v:=qk7 (ys:=ys) (rs:=rs.set j {r with yields:=r.yields++[y]}) (r:={r with yields:=r.yields++[y]}) (i:=i+1) (j:=j) (t:=t) (by rw[qi4 hj u];exact nn) (B8 (Ac.mp hj).1) (by show ((r.yields++[y])++ys).Nodup;rw[AB];exact nd) (λn f=>by
   obtain⟨d,p,e,g,q⟩:=hy n (Aq _ f);obtain⟨b,a⟩:=AA e;by_cases c:b=j
   .subst c;rw[hj]at a;cases a;exact absurd g.symm d
   .exact⟨d,p,Al (i:=b) (by rw[BA,if_neg (Bc c)];exact a),g,q⟩)
  rw[qff h];refine v.trans ?_;rw[List.set_set,Am,show i+1+ys.length=i+(ys.length+1) by lia];simp only[AB,Bb,AG]
def qk8 (r:RR):∃x w o d y m u,qae r=.term x w o d y m u/\x=r.name:=by
 unfold qae;cases r.base with|some y=>exact⟨_,_,_,_,_,_,_,Z,Z⟩|none=>exact⟨_,_,_,_,_,_,_,Z,Z⟩
def qo0 {rs:List RR}{r r':RR}{i j:Nat}(c:(rs.map RR.name).Nodup)(a:rs[j]?=some r')(g:r'.name=r.name)(b:∀y,r'.base=some y->(qaj rs y).isSome=true):qbz rs i (qae r)=.ok rs:=by
 obtain⟨x,w,o,d,y,m,u,e,ex⟩:=qk8 r;rw[e,qid (j:=j) (r:=r') (by rw[ex,<- g];exact qd4 c a) a];cases f:r'.base with|none=>rfl|some z=>dsimp only;rw[if_pos (b z f)]
def qnf {rs:List RR}{r:RR}{i j:Nat}{t:List Rw7}(b:(rs.map RR.name).Nodup)(a:rs[j]?=some (noY r))(d:∀y,r.base=some y->(qaj rs y).isSome=true)(g:r.yields.Nodup)(f:∀y∈r.yields,y≠r.name/\∃s∈rs,s.name=y/\s.owes=r.owes):qas rs i (qbr r++t)=qas (rs.set j r) (i+(qbr r).length) t:=by
 have e:qbr r=qae r::((r.ends.map (.ends r.name)++(r.anew.map (.anew r.name)++(r.longer.map (λt=>.longer r.name t.1 t.2.1 t.2.2)++qcv r.name r.still)))++r.yields.map (.yields r.name)):=by rw[qc4];unfold qbc;simp only[AB]
 rw[e];show qas rs i (qae r::(_++t))=_;refine(qff (qo0 (r:=r) (r':=noY r) b a Z d) _).trans ?_;rw[AB];refine(qjk λrow h=>?_).trans ((qk7 (ys:=r.yields) (r:=noY r) b a g f).trans ?_)
 .simp only[A9,A8]at h;rcases h with ⟨k,_,rfl⟩|⟨k,_,rfl⟩|⟨k,_,rfl⟩|h
  .exact⟨Z,λ_ _ z=>nomatch z⟩
  .exact⟨Z,λ_ _ z=>nomatch z⟩
  .exact⟨Z,λ_ _ z=>nomatch z⟩
  .cases c:r.still with
   |none=>rw[c]at h;cases h
   |some s=>rw[c]at h;rw[Ao.mp h];exact⟨Z,λ_ _ z=>nomatch z⟩
 .have:({noY r with yields:=(noY r).yields++r.yields}:RR)=r:=rfl;rw[this]
  congr 1
  simp only[Am,Ai,Ab];lia
def qtg (rs:List RR):(rs.map noY).map RR.name=rs.map RR.name:=by rw[AM];rfl
def qo1 {rs:List RR}(g:GT rs):qas (rs.map noY) 0 (qai rs)=.ok rs:=by
 have w:∀k,k<=rs.length->qas (rs.map noY) 0 (qai rs)=qas (rs.take k++(rs.drop k).map noY) (qai (rs.take k)).length (qai (rs.drop k)):=by
  intro k
  induction k with
  |zero=>intro _;rw[DM,List.drop_zero,AG];rfl
  |succ k ih =>
   intro hk;rw[ih (by lia)];have lk:k<rs.length:=by lia
   have e:rs[k]?=some rs[k]:=Ae lk;have c:rs[k]∈rs:=Bw lk;have b:rs.drop k=rs[k]::rs.drop (k+1):=BY lk;have lt:(rs.take k).length=k:=by rw[A6];lia
   have nms:(rs.take k++(rs.drop k).map noY).map RR.name=rs.map RR.name:=by rw[Ar,qtg,<- Ar,BO]
   have nn:((rs.take k++(rs.drop k).map noY).map RR.name).Nodup:=by rw[nms];exact g.nn
   have h:(rs.take k++(rs.drop k).map noY)[k]?=some (noY rs[k]):=by rw[AS (by lia),lt,Dx,b];rfl
   have i:qai (rs.drop k)=qbr rs[k]++qai (rs.drop (k+1)):=by rw[b];exact Bg
   rw[i,qnf nn h (λy a=>by rw[qc1 y nms];exact g.ba _ c y a) (g.yl _ c).1 (λy a=>?_)]
   .have m:(rs.take k++(rs.drop k).map noY).set k rs[k]=rs.take (k+1)++(rs.drop (k+1)).map noY:=by
     rw[List.set_append_right _ _ (by lia),lt,Dx,b,qa6 e,AB];rfl
    have j:(qai (rs.take k)).length+(qbr rs[k]).length=(qai (rs.take (k+1))).length:=by rw[qa6 e];unfold qai;rw[AL,Ai];simp
    rw[m,j]
   .obtain⟨l,s,hs,d,f⟩:=(g.yl _ c).2 y a;refine⟨l,?_⟩;rw[<- BO k rs]at hs;rcases A9.mp hs with z|z
    .exact⟨s,B7 _ z,d,f⟩
    .exact⟨noY s,Ay _ (A8.mpr ⟨s,z,Z⟩),d,f⟩
 rw[w _ (Ax _),Be,List.drop_length];show qas (rs++[]) _ []=_;rw[AW];rfl
def qmj {a:List Rw7}(h:∀b∈a,qc5 b):qjp (a.map qal)=a.map some:=by unfold qjp;rw[AM];exact List.map_congr_left λb c=>qnd (h b c)
def qhs {rs:List RR}(g:∀r∈rs,RrOk r):∀a∈qai rs,qc5 a:=λa b=>by obtain⟨r,d,c⟩:=B6.mp b;exact qx4 (g r d) a c
def qmk {rs:List RR}(g:GT rs):qg8 ((qai rs).map qal)=.ok rs:=by unfold qg8;rw[qmj (qhs g.ok),qvx g];dsimp only;rw[qna,qo1 g]
def qrg {f:Nat->Option Nat}{n:Nat}{d:Nat->Int}(h:∀k b,f k=some b->d b<d k){r:List Nat}(e:Rg f n r):False:=by
 have l1:1<=r.length:=List.length_pos_iff.mpr e.ne;have w:∀i,(c:i<r.length)->d (r[i])+(i:Int)<=d (r[0]'(by lia)):=by
  intro i
  induction i with
  |zero=>intro c;lia
  |succ i ih =>intro c;have g:=ih (by lia);have a:=e.nx i r[i] (Ae (by lia));rw[Nat.mod_eq_of_lt c,Ae c]at a;have:=h _ _ a;lia
 have g:=w (r.length-1) (by lia);have a:=e.nx (r.length-1) r[r.length-1] (Ae (by lia));rw[show r.length-1+1=r.length by lia,Nat.mod_self,Ae (by lia)]at a;have:=h _ _ a;lia
def gt_of {names f:List Str}{n:Nat->Nat}{w:Nat->Int}{rs:List RR}(g:GRs names n w f rs)(B:rs.length=names.length)(F:∀x∈names,qbq x)(p:names.Nodup)(C:names.length<=6){o:Nat}(hm:o<=40)(hs:(rs.map exR).sum+names.length<=o):GT rs:=by
 have m:∀r∈rs,∃k,k<names.length/\rs[k]?=some r/\GR names n w f k r:=λr a=>by obtain⟨k,hk⟩:=AA a;exact⟨k,by rw[<- B];exact(Ac.mp hk).1,hk,g k r hk⟩
 have A:rs.map RR.name=names:=by
  apply B0;intro k;rw[Af];by_cases c:k<names.length
  .have a:rs[k]?=some (rs[k]'(by lia)):=Ae (by lia);rw[a,qh8 c];show some (rs[k]'(by lia)).name=_;rw[(g k _ a).nm]
  .rw[B4 (by lia),B4 (by lia)];rfl
 have v:∀b,b<names.length->∃s∈rs,s.name=nm9 names b/\s.owes=nm9 f (n b):=λb i=>by have a:rs[b]?=some (rs[b]'(by lia)):=Ae (by lia);exact⟨_,Al a,(g b _ a).nm,(g b _ a).os⟩
 refine⟨λr a=>?_,λr a=>?_,λr a=>?_,by rw[A];exact p,by lia,λr a y h=>?_,λr a=>?_,?_⟩
 .obtain⟨k,hk,_,d⟩:=m r a;exact d.rrok F hk C
 .obtain⟨k,hk,_,d⟩:=m r a;exact d.kd
 .obtain⟨k,hk,_,d⟩:=m r a;exact d.lg.1
 .obtain⟨k,hk,_,d⟩:=m r a;rcases d.bo with ⟨b,i,e,_⟩|⟨e,_⟩
  .rw[e]at h;cases h;cases ep:qaj rs (nm9 names b) with|some j=>rfl|none =>have:=qcp.mp ep;rw[A]at this;exact absurd (Al (qh8 i)) this
  .rw[e]at h;cases h
 .obtain⟨k,hk,_,d⟩:=m r a;refine⟨d.yl.nd,λy h=>?_⟩;obtain⟨b,i,e,bk,E⟩:=d.yl.ok y h;refine⟨λz=>bk ?_,?_⟩
  .rw[e,d.nm]at z;exact qi3 p i hk z
  .obtain⟨s,t,q,u⟩:=v b i;exact⟨s,t,by rw[q,e],by rw[u,E,d.os]⟩
 .have D:∀l:List RR,(qai l).length=(l.map exR).sum+l.length:=by
   intro l
   induction l with
   |nil=>rfl
   |cons r l ih =>
    have:qai (r::l)=qbr r++qai l:=Bg;rw[this,Ai,ih,At,List.sum_cons,Am,qc4,Am];have:(qbc r).length=exR r:=by
     unfold qbc exR;simp only[Ai,Ab];have:(qcv r.name r.still).length=stN r.still:=by cases r.still <;>rfl
     lia
    lia
  rw[D,B];lia
theorem qvy {names a:List Str}{n:Nat->Nat}{f:Nat->Int}{rs:List RR}(g:GRs names n f a rs)(p:rs.length=names.length)(l:names.Nodup):∀k b,bo (bsR rs) k=some b->f b<f k:=λk b e=>by
 unfold bo bsR at e;rw[A4,Af]at e;cases c:rs[k]? with
 |none=>rw[c]at e;cases e
 |some r =>
  rw[c]at e;have e:r.base.bind (qaj rs)=some b:=e;rcases (g k r c).bo with ⟨i,h,d,m,_⟩|⟨d,_⟩
  .rw[d]at e;have e:qaj rs (nm9 names i)=some b:=e;obtain⟨s,hs,j⟩:=qbu e;have:s.name=nm9 names b:=(g b s hs).nm;have o:b<names.length:=by rw[<- p];exact(Ac.mp hs).1
   have:=qi3 l o h (this.symm.trans j);rw[this];exact m
  .rw[d]at e;cases e
noncomputable def tk:Rw7->List Str
 |.term _ _ o d y _ _=>o::(if d=true then [] else [y])
 |row=>kin row
def qng (r:RR):isT (qae r)=true/\qar (qae r)=r.name:=by obtain⟨x,w,o,d,y,m,u,e,ex⟩:=qk8 r;rw[e];exact⟨Z,ex⟩
noncomputable def hd (rs:List RR)(k:Nat):Nat:=(qai (rs.take k)).length
def qvz {rs:List RR}{j k:Nat}(h:j<=k):hd rs j<=hd rs k:=by unfold hd qai;obtain⟨d,rfl⟩:∃d,k=j+d:=⟨k-j,by lia⟩;rw[List.take_add,AL,Ai];lia
section
variable {rs:List RR}(g:GT rs){n:Nat}(hn:n<=(qai rs).length)
include g hn
end
def qim {a:List Str}(h:Lng a):JoinOk (wS "\n") a=true/\Txt.join (wS "\n") a=qex a:=by
 constructor
 .unfold JoinOk;rw[StrLaws.joinFits (B:=200) (λp b=>(h.c p b).1) (by have:=h.n;rw[show (wS "\n").length=1 by decide +kernel];show a.length*200+a.length*1<=16777216;lia)];rfl
 .show AX.Str.glued _ _=_;rw[StrLaws.glued_eq_join,newl];rfl
theorem qg3 {a:List Rw7}(h:∀b∈a,qc5 b)(n:a.length<=100):Lng (a.map qal):=by
 refine⟨by rw[Ab];exact n,λl hl=>?_,λe=>?_⟩
 .obtain⟨b,c,rfl⟩:=A8.mp hl;have:=qik (h b c);exact⟨by lia,this.2.1⟩
 .cases a with
  |nil=>cases e
  |cons r t =>rw[At]at e;injection e with e1 _;have:=(qik (h r Ak)).2.2;rw[e1]at this;exact this Ek
def qcl (z:List Rw7):(qaq z).length=z.length:=by unfold qaq;rw[Ab,Ab]
def spRuO (a:Adr):Sp:=λvs H Q E=>∃(x:Addr)(rs:List RR)(As:List RA)(os:List Nat)(y:Str),vs=[.ref x,.str y]/\BkAt a H x rs As os/\(∀(j:Nat)(A:RA),qaj rs y=some j->As[j]?=some A->Q (.ref A.p) H)/\(qaj rs y=none->OutE a (.term y) H E)
def alg {H a:Hp}{p:Addr}{o:HO}(h:upd H p o=a)(n:H p=none):Same H a/\a p=some o:=by subst h;exact⟨zi n,qu⟩
def useHp {p G:Hp->Prop}{R:Prop}(m:(∀x,p x->G x)->R)(l:∀x,p x->G x):R:=m l
def spTrs (a:Adr):Sp:=λvs H Q _=>∃(A:RA)(r:RR),vs=[.ref A.p]/\RuX a.k7 H A r/\RrOk r/\∀H',Same H H'->Q (.str (qal (qae r))) H'
def spRsh (a:Adr):Sp:=λvs H Q _=>∃(A:RA)(r:RR),vs=[.ref A.p]/\RuX a.k7 H A r/\RrOk r/\∀(q:Addr)(H':Hp),H q=none->Same H H'->H' q=some (.lst (qaq (qbr r)))->Q (.ref q) H'
def spShw (a:Adr):Sp:=λvs H Q _=>∃(x:Addr)(rs:List RR)(As:List RA)(os:List Nat),vs=[.ref x]/\BkAt a H x rs As os/\(∀r∈rs,RrOk r)/\(qai rs).length<=100/\∀H',Same H H'->Q (.str (qex ((qai rs).map qal))) H'
def qml (r:RR)(h:RrOk r):∀y∈r.ends++r.anew++r.yields,qbq y:=λy b=>by
 obtain⟨_,c,a,_⟩:=h.kin;rcases A9.mp b with q|q
 .rcases A9.mp q with q|q
  .exact c y q
  .exact a y q
 .exact h.yl y q
def qx7 {K:Ag}{i j k:Nat}:∀(x:V)(σ':L2.St)(b:Hp)(R a:L2.St->Hp->Prop),(∀σ3 H3,R σ3 H3->a σ3 H3)->qrw K 3 (qj0 (qe6 i) (qj0 (qe6 j) (qj0 (qe6 k) qyy))) x σ' b R->qrw K 3 (qj0 (qe6 i) (qj0 (qe6 j) (qj0 (qe6 k) qyy))) x σ' b a:=qup λxs σ' b R a h z=>by obtain⟨l,g,p,n,m,d,f,o,e,c,z⟩:=z;exact⟨l,g,p,n,m,d,f,o,e,c,h _ _ z⟩
def useH1 {p G:Hp->Option V->Prop}{R:Prop}(m:(∀x a,p x a->G x a)->R)(l:∀x a,p x a->G x a):R:=m l
def qyq {a:Rw7}(h:qc5 a)(hl:(qat a).length<=10):JoinOk (wS " ") (qat a)=true/\Txt.join (wS " ") (qat a)=qal a:=by
 constructor
 .unfold JoinOk;rw[StrLaws.joinFits (B:=200) (λp b=>A2 (qij h p b).2 En) (by rw[show (wS " ").length=1 by decide +kernel];show (qat a).length*200+(qat a).length*1<=16777216;lia)];rfl
 .show AX.Str.glued _ _=_;rw[StrLaws.glued_eq_join,qq8];rfl
def qjv (x:Str):Co++x=x:=str_ext (by rw[qdq];rfl)
def qv4 {r:RR}(h:RrOk r):qc5 (qae r):=qhs (rs:=[r]) (λz hz=>by rw[Ao.mp hz];exact h) _ (B6.mpr ⟨r,Ao.mpr Z,by rw[qc4];exact Ak⟩)
theorem qv5 {r:RR}(h:RrOk r):∃(d:Bool)(y:Str),qae r=.term r.name r.who r.owes d y r.many r.unit/\((r.base=none/\d=false/\r.opens=some y)\/(r.base=some y/\d=true)):=by
 unfold qae;cases e:r.base with
 |some y=>exact⟨true,y,Z,.inr ⟨Z,Z⟩⟩
 |none =>obtain⟨o,a⟩:=h.bo e;exact⟨false,o,by rw[a];rfl,.inl ⟨Z,Z,a⟩⟩
noncomputable def lk (S:List RR)(x:Str):Option RR:=S.find? λr=>decide (r.name=x)
def qd5 (r:RR)(S:List RR)(x:Str):lk (r::S) x=if r.name=x then some r else lk S x:=by
 unfold lk;rw[CB];by_cases c:r.name=x
 .rw[if_pos c,decide_eq_true c]
 .rw[if_neg c,decide_eq_false c]
theorem qnh {S:List RR}{x:Str}:qaj S x=none↔lk S x=none:=by
 induction S with
 |nil=>exact⟨λ_=>rfl,λ_=>rfl⟩
 |cons r S ih =>
  rw[qd5];show (if r.name=x then some 0 else (qaj S x).map (· + 1))=none↔_;by_cases c:r.name=x
  .rw[if_pos c,if_pos c];simp
  .rw[if_neg c,if_neg c,Option.map_eq_none_iff];exact ih
theorem qjw {S:List RR}{x:Str}{j:Nat}(h:qaj S x=some j):lk S x=some (S.getD j r0)/\(S.getD j r0).name=x/\j<S.length:=by
 induction S generalizing j with
 |nil=>cases h
 |cons r S ih =>
  rw[qd5];have h:(if r.name=x then some 0 else (qaj S x).map (· + 1))=some j:=h;by_cases c:r.name=x
  .rw[if_pos c]at h |-;cases h;exact⟨Z,c,DL _⟩
  .rw[if_neg c]at h |-;obtain⟨d,g,a⟩:=DH.mp h;obtain⟨b,e,f⟩:=ih g;have a:d+1=j:=a;rw[<- a];exact⟨b,e,Nat.succ_lt_succ f⟩
def qmm {S:List RR}{x:Str}{r:RR}(h:lk S x=some r):∃j,qaj S x=some j/\S.getD j r0=r:=by
 cases e:qaj S x with|none=>rw[qnh.mp e]at h;cases h|some j=>exact⟨j,Z,by rw[(qjw e).1]at h;exact A5 h⟩
def qo2 {S:List RR}{x:Str}{r:RR}(h:lk S x=some r):r.name=x/\r∈S:=⟨by have:=List.find?_some h;exact of_decide_eq_true this,List.mem_of_find?_eq_some h⟩
theorem qht {S:List RR}{x:Str}:(∃r,lk S x=some r)↔x∈S.map RR.name:=by
 constructor
 .rintro⟨r,h⟩;exact A8.mpr ⟨r,(qo2 h).2,(qo2 h).1⟩
 .intro h;cases e:lk S x with
  |some r=>exact⟨r,Z⟩
  |none =>obtain⟨r,b,a⟩:=A8.mp h;have:=List.find?_eq_none.mp e r b;exact absurd (decide_eq_true a) this
theorem qqg {S:List RR}{x:Str}{j:Nat}{r:RR}(h:qaj S x=some j)(b:r.name=x)(y:Str):lk (S.set j r) y=if y=x then some r else lk S y:=by
 induction S generalizing j with
 |nil=>cases h
 |cons s S ih =>
  have h:(if s.name=x then some 0 else (qaj S x).map (· + 1))=some j:=h;by_cases c:s.name=x
  .rw[if_pos c]at h;cases h;rw[List.set_cons_zero,qd5,qd5,b,c];by_cases d:y=x
   .rw[if_pos d,if_pos d.symm]
   .rw[if_neg d,if_neg (λz=>d z.symm),if_neg (λz=>d z.symm)]
  .rw[if_neg c]at h;obtain⟨e,f,a⟩:=DH.mp h;have a:e+1=j:=a;rw[<- a,List.set_cons_succ,qd5,qd5,ih f];by_cases d:y=x
   .rw[if_pos d,if_pos d,if_neg (λz=>c (z.trans d))]
   .rw[if_neg d,if_neg d]
def qqh {S:List RR}{x:Str}{j:Nat}{r:RR}(h:qaj S x=some j)(d:r.name=x):(S.set j r).map RR.name=S.map RR.name:=by
 obtain⟨_,b,a⟩:=qjw h;rw[List.map_set];apply B0;intro i;rw[BA];by_cases c:j=i
 .rw[if_pos c,<- c,Ab,if_pos a,Af,Ae a];rw[A4,Ae a]at b;show some r.name=some (S[j].name);rw[d,show S[j].name=x from b]
 .rw[if_neg c]
noncomputable def ylO (R:List Rw7)(x:Str):List Str:=R.filterMap λrow=>match row with | .yields a b=>if a=x then some b else none|_=>none
theorem qc2 (R:List Rw7)(d:Rw7)(x:Str):ylO (R++[d]) x=ylO R x++(match d with | .yields a b=>if a=x then [b] else [] | _=>[]):=by
 unfold ylO;rw[Dk]
 congr 1
 cases d with|yields a b=>by_cases c:a=x <;>simp[c]|_=>rfl
structure Sv (S0:List RR)(P:List Rw7)(S:List RR):Prop where
 nm:S.map RR.name=S0.map RR.name
 fd:∀x r,lk S0 x=some r->∃s,lk S x=some s/\s.owes=r.owes/\s.base=r.base/\s.yields=ylO P x
def qv6 (S0:List RR)(P:List Rw7):Rw7->Prop
 |.term x _ _ _ _ _ _=>∀r y,lk S0 x=some r->r.base=some y->y∈S0.map RR.name
 |.yields x y=>y∈S0.map RR.name/\y≠x/\y∉ylO P x/\∀r s,lk S0 x=some r->lk S0 y=some s->s.owes=r.owes
 |_=>True
def Sv.mem {S0 S:List RR}{P:List Rw7}(v:Sv S0 P S)(y:Str):y∈S0.map RR.name↔(qaj S y).isSome=true:=by
 rw[<- v.nm,<- qht];cases e:qaj S y with|none=>rw[qnh.mp e];simp|some j=>rw[(qjw e).1];simp
theorem Sv.step {S0 S:List RR}{P:List Rw7}{a:Rw7}(v:Sv S0 P S)(f:qv6 S0 P a)(M:qar a∈S0.map RR.name)(i:Nat):∃S',qbz S i a=.ok S'/\Sv S0 (P++[a]) S':=by
 have same:(∀x,ylO (P++[a]) x=ylO P x)->Sv S0 (P++[a]) S:=λe=>⟨v.nm,λx r h=>by obtain⟨s,n,p,l,t⟩:=v.fd x r h;exact⟨s,n,p,l,by rw[t,e]⟩⟩;obtain⟨r,k⟩:=qht.mpr M;obtain⟨s,n,p,l,t⟩:=v.fd _ r k;obtain⟨j,g,C⟩:=qmm n;cases a with
 |term x w o d y m u =>
  refine⟨S,?_,same λz=>by rw[qc2];simp⟩;have g:qaj S x=some j:=g;show (match qaj S x with|none=>CK S|some j=>match (S.getD j r0).base with|none=>.ok S|some y=>if (qaj S y).isSome=true then .ok S else .error (Er.term y))=_;rw[g];dsimp only;rw[C,l];cases e:r.base with|none=>rfl|some b =>dsimp only;rw[if_pos ((v.mem b).mp (f r b k e))]
 |yields x y =>
  obtain⟨T,L,G,H⟩:=f;have k:lk S0 x=some r:=k;have g:qaj S x=some j:=g;obtain⟨D,A⟩:=qht.mpr T;obtain⟨s2,R,E,k3,k4⟩:=v.fd _ D A;obtain⟨j2,U,F⟩:=qmm R;have B:s.name=x:=(qo2 n).1;have e:qbz S i (.yields x y)=.ok (S.set j {s with yields:=s.yields++[y]}):=by
   show (match qaj S x with|none=>CK S|some j=>qca S i j y)=_;rw[g];dsimp only;unfold qca;rw[U];dsimp only;rw[C,F,if_neg];rintro (z|z|z)
   .exact L (z.trans B)
   .rw[t]at z;exact G z
   .exact z (by rw[E,p];exact H r D k A)
  refine⟨_,e,by rw[qqh (r:={s with yields:=s.yields++[y]}) g B];exact v.nm,λz N h=>?_⟩;rw[qqg (r:={s with yields:=s.yields++[y]}) g B];by_cases c:z=x
  .rw[if_pos c];rw[c,k]at h;cases h;refine⟨_,Z,p,l,?_⟩;show s.yields++[y]=_;rw[t,qc2,c];simp[qar]
  .rw[if_neg c];obtain⟨O,K,J,Q,I⟩:=v.fd z N h;refine⟨O,K,J,Q,?_⟩;rw[I,qc2];dsimp only;rw[if_neg (λq=>c q.symm),AW]
 |_=>exact⟨S,Z,same λz=>by rw[qc2];simp⟩
def qrh (S:List RR)(r:RR)(x:Str):lk (S++[r]) x=(lk S x).or (if r.name=x then some r else none):=by
 unfold lk;rw[List.find?_append]
 congr 1
 show List.find? _ [r]=_;rw[CB];by_cases c:r.name=x
 .rw[if_pos c,decide_eq_true c]
 .rw[if_neg c,decide_eq_false c];rfl
def qv7 {S:List RR}{i:Nat}{a:Rw7}{r:RR}(h:lk S (qar a)=some r)(u:qho r a=false):∃j,qaj S (qar a)=some j/\qg7 S i a=.ok (S.set j (qa4 r a)):=by obtain⟨j,b,c⟩:=qmm h;refine⟨j,b,?_⟩;unfold qg7;rw[b];dsimp only;rw[c,if_neg (by rw[u];decide)]
def qqi {α:Type}{l:List α}(b:l.Nodup){i j:Nat}(a:i<l.length)(h:l[i]?=l[j]?):i=j:=(Dn a b).mp h
def qqj {S:List RR}(e:(S.map RR.name).Nodup){k:Nat}{r:RR}(h:S[k]?=some r):qaj S r.name=some k/\lk S r.name=some r:=by
 have f:r.name∈S.map RR.name:=Cb (Al h);obtain⟨s,hs⟩:=qht.mpr f;obtain⟨j,a,b⟩:=qmm hs;obtain⟨q1,d,c⟩:=qjw a;have hk:=(Ac.mp h).1;have g:j=k:=by refine qqi e (by rw[Ab];exact c) ?_;rw[Af,Af,h,Ae c];rw[A4,Ae c]at d;exact congrArg some d
 rw[g]at a b;rw[A4,h]at b;exact⟨a,by rw[hs,<- b];rfl⟩
noncomputable def nmd (r:RR)(row:Rw7):Bool:=decide (qar row=r.name)
structure Tn (r:RR)(Zq:List Rw7):Prop where
 ft:qtb (qbo r) Zq
 fo:Zq.foldl qa4 (qbo r)=noY r
 yl:ylO Zq r.name=r.yields
 nt:∀row∈Zq,isT row=false/\qar row=r.name
structure Mix (rs:List RR)(M:List Rw7):Prop where
 nm:∀row∈M,∃r∈rs,qar row=r.name
 ow:∀r∈rs,∃Zq,M.filter (nmd r)=qae r::Zq/\Tn r Zq
 l:M.length<=40
theorem qv8 {S T:List RR}(a:S.map RR.name=T.map RR.name)(i:(S.map RR.name).Nodup)(h:∀x∈S.map RR.name,lk S x=lk T x):S=T:=by
 induction S generalizing T with
 |nil =>
  cases T with|nil=>rfl|cons t T=>cases a
 |cons s S ih =>
  cases T with
  |nil=>cases a
  |cons t T =>
   rw[At,At]at a;obtain⟨c,g⟩:=Cr a;obtain⟨e,f⟩:=AK.mp i;have b:=h s.name Ak;rw[qd5,qd5,if_pos Z,if_pos c.symm]at b;have b:=A5 b;rw[b]
   congr 1
   refine ih g f λx d=>?_;have:=h x (Aq _ d);have ne:s.name≠x:=λz=>e (by rw[z];exact d);rw[qd5,qd5,if_neg ne,if_neg (by rw[<- c];exact ne)]at this;exact this
structure Rd1 (rs:List RR)(P:List Rw7)(S:List RR):Prop where
 nm:S.map RR.name=(P.filter isT).map qar
 nd:(S.map RR.name).Nodup
 rl:∀r∈rs,∀Zq,P.filter (nmd r)=qae r::Zq->lk S r.name=some (Zq.foldl qa4 (qbo r))
theorem qri (r:RR):∀Zq:List Rw7,(Zq.foldl qa4 r).name=r.name
 | []=>rfl
 |z::Zq=>by rw[List.foldl_cons,qri (qa4 r z) Zq,qfq]
theorem qrj:∀{A B:List Rw7}{r:RR}{a:Rw7},qtb r (A++a::B)->qho (A.foldl qa4 r) a=false
 | [],_,_,_,h=>h.2.2.1
 |_::A,_,_,_,h=>qrj (A:=A) h.2.2.2
def qfy {r:RR}{a:Rw7}:nmd r a=true↔qar a=r.name:=decide_eq_true_iff
def qin {rs:List RR}(c:(rs.map RR.name).Nodup){r r':RR}(h:r∈rs)(h':r'∈rs)(e:r.name=r'.name):r=r':=by obtain⟨i,a⟩:=AA h;obtain⟨j,b⟩:=AA h';have:i=j:=qqi c (by rw[Ab];exact(Ac.mp a).1) (by rw[Af,Af,a,b];exact congrArg some e);rw[this,b]at a;exact(A5 a).symm
theorem qth {r:RR}(h:RrOk r)(a:(qau r).Nodup)(S:List RR)(i:Nat)(c:qaj S r.name=none)(l:S.length<6):qcu S i (qae r)=.ok (S++[qbo r]):=by
 unfold qae;cases e:r.base with
 |some y =>show qec S i r.name r.who r.owes true y r.many r.unit=_;unfold qec;rw[if_neg (by rw[c];decide),if_neg (λz=>z.elim (λq=>by lia) λq=>nomatch q.1)];unfold qm8 qbo;rw[if_pos Z,if_pos Z,e,h.bn y e]
 |none =>
  obtain⟨o,b⟩:=h.bo e;rw[b];show qec S i r.name r.who r.owes false o r.many r.unit=_;unfold qec;have ne:r.owes≠o:=λz=>by unfold qau at a;rw[b,<- z]at a;exact(AV.mp (AV.mp a).1).2.2 r.owes (by simp) r.owes (by simp) rfl
  rw[if_neg (by rw[c];decide),if_neg (λz=>z.elim (λq=>by lia) λq=>ne q.2)];unfold qm8 qbo;rw[if_neg En,if_neg En,e,b]
theorem qv9 {rs:List RR}(g:GT rs){M P:List Rw7}{f:Rw7}{Q:List Rw7}(A:Mix rs M)(e:M=P++f::Q){S:List RR}(s:Rd1 rs P S)(i:Nat):∃S',qcu S i f=.ok S'/\Rd1 rs (P++[f]) S':=by
 obtain⟨r,k,D⟩:=A.nm f (by rw[e];simp);obtain⟨Zq,hz,C⟩:=A.ow r k;have B:nmd r f=true:=qfy.mpr D;rw[e,BI,By,if_pos B]at hz;have u:∀r'∈rs,r'≠r->(P++[f]).filter (nmd r')=P.filter (nmd r'):=λr' h' ne=>by rw[BI,By,if_neg (λz=>ne (qin g.nn h' k ((qfy.mp z).symm.trans D)))];simp
 cases l:P.filter (nmd r) with
 |nil =>
  rw[l,AG]at hz;obtain⟨p,v⟩:=Cr hz;have n:r.name∉S.map RR.name:=λz=>by rw[s.nm]at z;obtain⟨h,w,x⟩:=A8.mp z;have:h∈P.filter (nmd r):=Bh.mpr ⟨(Bh.mp w).1,qfy.mpr x⟩;rw[l]at this;cases this
  have l6:S.length<6:=by
   have sub:∀z∈r.name::S.map RR.name,z∈rs.map RR.name:=λz hz=>by
    rcases Ap.mp hz with q|q
    .rw[q];exact Cb k
    .rw[s.nm]at q;obtain⟨h,w,x⟩:=A8.mp q;obtain⟨r',H,K⟩:=A.nm h (by rw[e];exact B7 _ (Bh.mp w).1);rw[<- x,K];exact Cb H
   have:=(AK.mpr ⟨n,s.nd⟩).length_le_of_subset sub;rw[Am,Ab,Ab]at this;have:=g.l6;lia
  rw[p];refine⟨_,qth (g.ok r k) (g.kd r k) S i (qcp.mpr n) l6,?_,?_,λr' h' m d=>?_⟩
  .rw[Ar,s.nm,BI,Ar,By,if_pos (qng r).1];show _++[r.name]=_++[qar (qae r)];rw[(qng r).2]
  .rw[Ar];exact AV.mpr ⟨s.nd,by simp,λa G b L z=>n (by rw[Ao.mp L]at z;rw[<- show r.name=(qbo r).name from Z,<- z]at *;exact G)⟩
  .rw[<- p]at d;by_cases c:r'=r
   .subst c;rw[BI,l,AG,By,if_pos B]at d;have d:=(Cr d).2;rw[List.filter_nil]at d;rw[<- d,qrh,qnh.mp (qcp.mpr n)];show (if (qbo r').name=r'.name then some (qbo r') else none)=_;exact if_pos rfl
   .rw[u r' h' c]at d;rw[qrh,s.rl r' h' m d];rfl
 |cons t Z1 =>
  rw[l,Bb]at hz;obtain⟨p,v⟩:=Cr hz;rw[p]at l;have J:=s.rl r k Z1 l;have tr:=C.nt f (by rw[<- v];simp);have I:qho (Z1.foldl qa4 (qbo r)) f=false:=qrj (by rw[v];exact C.ft);obtain⟨j,E,F⟩:=qv7 (i:=i) (by rw[tr.2];exact J) I;have y:qaj S r.name=some j:=by rw[<- tr.2];exact E
  have o:(qa4 (Z1.foldl qa4 (qbo r)) f).name=r.name:=by rw[qfq,qri];rfl
  refine⟨_,(qg1 tr.1).trans F,?_,?_,λr' h' m d=>?_⟩
  .rw[qqh y o,s.nm,BI,By,if_neg (by rw[tr.1];decide)];simp
  .rw[qqh y o];exact s.nd
  .rw[qqg y o];by_cases c:r'=r
   .subst c;rw[if_pos Z];rw[BI,l,By,if_pos B]at d;have d:=(Cr d).2;rw[List.filter_nil]at d;have d:Z1++[f]=m:=d;rw[<- d,Cf];rfl
   .rw[if_neg (λz=>c (qin g.nn h' k z))];rw[u r' h' c]at d;exact s.rl r' h' m d
theorem qrk {rs:List RR}(g:GT rs){M:List Rw7}(a:Mix rs M):∀(Q P:List Rw7)(S:List RR),M=P++Q->Rd1 rs P S->∃S',qao S P.length (Q.map some)=.ok S'/\Rd1 rs M S'
 | [],P,S,e,s=>⟨S,Z,by rw[e,AW];exact s⟩
 |row::Q,P,S,e,s=>by
  obtain⟨f,h,c⟩:=qv9 g a e s P.length;obtain⟨S2,b,d⟩:=qrk g a Q (P++[row]) f (by rw[e];simp) c;refine⟨S2,?_,d⟩;have l:P.length<40:=by have:=a.l;rw[e,Ai,Am]at this;lia
  show qao S P.length (some row::Q.map some)=_;rw[qft (by lia) h];rw[Ai]at b;exact b
theorem qo3 {α:Type}:∀{l m:List α},l.Nodup->m.Nodup->(∀x∈l,x∈m)->(∀x∈m,x∈l)->l.Perm m
 | [],m,_,_,_,h=>by
  cases m with|nil=>exact List.Perm.refl _|cons x m=>cases h x Ak
 |x::l,m,nl,nm,h1,h2=>by
  obtain⟨A,B,e⟩:=List.append_of_mem (h1 x Ak);subst e;obtain⟨c,b⟩:=AK.mp nl;have a:=List.perm_middle.nodup_iff.mp nm;obtain⟨f,d⟩:=AK.mp a;refine((List.perm_cons x).mpr (qo3 b d (λz hz=>?_) λz hz=>?_)).trans List.perm_middle.symm
  .have:=h1 z (Aq _ hz);rcases A9.mp this with q|q
   .exact B7 _ q
   .rcases Ap.mp q with q|q
    .exact absurd hz (by rw[q];exact c)
    .exact Ay _ q
  .have:=h2 z (List.perm_middle.mem_iff.mpr (Aq _ hz));rcases Ap.mp this with q|q
   .exact absurd hz (by rw[q];exact f)
   .exact q
def qti {rs:List RR}(g:GT rs){M:List Rw7}(l:Mix rs M):∃hs:List RR,hs.Perm rs/\hs.map qae=M.filter isT/\qao [] 0 (M.map some)=.ok (hs.map noY):=by
 obtain⟨S,h,s⟩:=qrk g l M [] [] rfl ⟨Z,List.nodup_nil,λr _ m hz=>nomatch hz⟩;have tin:∀r∈rs,qae r∈M:=λr b=>by obtain⟨m,hz,_⟩:=l.ow r b;exact(Bh.mp (by rw[hz];exact Ak:qae r∈M.filter (nmd r))).1
 have look:∀r∈rs,lk S r.name=some (noY r):=λr b=>by obtain⟨m,hz,p⟩:=l.ow r b;rw[s.rl r b m hz,p.fo]
 have A:∀a∈M,isT a=true->∃r∈rs,a=qae r:=λa f t=>by
  obtain⟨r,b,C⟩:=l.nm a f;obtain⟨m,hz,p⟩:=l.ow r b;have:a∈M.filter (nmd r):=Bh.mpr ⟨f,qfy.mpr C⟩;rw[hz]at this;rcases Ap.mp this with q|q
  .exact⟨r,b,q⟩
  .rw[(p.nt a q).1]at t;cases t
 obtain⟨hs,e1,e2⟩:∃hs:List RR,hs.map qae=M.filter isT/\∀r∈hs,r∈rs:=by
  have:∀L:List Rw7,(∀a∈L,∃r∈rs,a=qae r)->∃hs:List RR,hs.map qae=L/\∀r∈hs,r∈rs:=λL=>by
   induction L with
   |nil=>intro _;exact⟨[],Z,λ_ h=>nomatch h⟩
   |cons a L ih =>intro h;obtain⟨r,b,w⟩:=h a Ak;obtain⟨hs,d,j⟩:=ih λz hz=>h z (Aq _ hz);exact⟨r::hs,by rw[At,d,w],λz hz=>(Ap.mp hz).elim (λq=>by rw[q];exact b) (j z)⟩
  exact this _ λa h=>A a (Bh.mp h).1 (Bh.mp h).2
 have n:hs.map RR.name=S.map RR.name:=by rw[s.nm,<- e1,AM];exact List.map_congr_left λr _=>(qng r).2.symm
 have o:(hs.map RR.name).Nodup:=by rw[n];exact s.nd
 have D:hs.Perm rs:=by
  refine qo3 ((BP.mp o).imp λh e=>h (congrArg RR.name e)) ((BP.mp g.nn).imp λh e=>h (congrArg RR.name e)) e2 λr c=>?_;have:r.name∈hs.map RR.name:=by rw[n];exact qht.mp ⟨_,look r c⟩
  obtain⟨r',d,j⟩:=A8.mp this;rw[<- qin g.nn (e2 r' d) c j];exact d
 refine⟨hs,D,e1,?_⟩;have B:S=hs.map noY:=by
  refine qv8 (by rw[AM,<- n];rfl) s.nd λx v=>?_;rw[<- n]at v;obtain⟨r,d,j⟩:=A8.mp v;rw[<- j,look r (e2 r d)];have:lk (hs.map noY) r.name=some (noY r):=by
   obtain⟨i,y⟩:=AA d;have u:((hs.map noY).map RR.name).Nodup:=by rw[AM];exact o
   exact(qqj u (k:=i) (r:=noY r) (by rw[Af,y];rfl)).2
  exact this.symm
 rw[<- B];exact h
structure Sf (S0:List RR)(P:List Rw7)(S:List RR):Prop where
 nm:S.map RR.name=S0.map RR.name
 fd:∀x r,lk S0 x=some r->lk S x=some {r with yields:=ylO P x}
theorem Sf.step {S0 S:List RR}{P:List Rw7}{p:Rw7}(v:Sf S0 P S)(f:qv6 S0 P p)(F:qar p∈S0.map RR.name)(i:Nat):∃q,qbz S i p=.ok q/\Sf S0 (P++[p]) q:=by
 have K:Sv S0 P S:=⟨v.nm,λx r h=>⟨_,v.fd x r h,Z,Z,Z⟩⟩;obtain⟨q,g,J⟩:=K.step f F i;refine⟨q,g,J.nm,λx r C=>?_⟩;have same:(∀x,ylO (P++[p]) x=ylO P x)->q=S->lk q x=some {r with yields:=ylO (P++[p]) x}:=λe H=>by rw[H,e,v.fd x r C]
 cases p with
 |yields a b =>
  obtain⟨s,n⟩:=qht.mpr F;obtain⟨j,A,E⟩:=qmm (v.fd _ s n);obtain⟨rb,B⟩:=qht.mpr f.1;obtain⟨l,G,I⟩:=qmm (v.fd _ rb B);have A:qaj S a=some j:=A;have D:s.name=a:=(qo2 n).1;have st:qbz S i (.yields a b)=.ok (S.set j {S.getD j r0 with yields:=(S.getD j r0).yields++[b]}):=by
   show (match qaj S a with|none=>(CK S:Except Er (List RR))|some j=>qca S i j b)=_;rw[A];show qca S i j b=_;unfold qca;rw[G];dsimp only;rw[if_neg];rw[E,I];rintro (z|z|z)
   .exact f.2.1 (z.trans D)
   .exact f.2.2.1 z
   .exact z (f.2.2.2 s rb n B)
  rw[st]at g;have g:=(CK.inj g).symm;rw[g,E];show lk (S.set j {s with yields:=ylO P a++[b]}) x=_;rw[qqg A (show ({s with yields:=ylO P a++[b]}:RR).name=a from D)];by_cases c:x=a
  .subst c;rw[if_pos Z];have n:lk S0 x=some s:=n;have:r=s:=by rw[C]at n;exact A5 n
   rw[this,qc2];simp
  .rw[if_neg c,v.fd x r C,qc2];dsimp only;rw[if_neg (λz=>c z.symm),AW]
 |term a w o d y m u =>
  refine same (λx=>by rw[qc2];simp) ?_;have g:(match qaj S a with|none=>(CK S:Except Er (List RR))|some j=>match (S.getD j r0).base with|none=>.ok S|some y=>if (qaj S y).isSome=true then .ok S else .error (.term y))=CK q:=g;split at g
  .exact(CK.inj g).symm
  .split at g
   .exact(CK.inj g).symm
   .split at g
    .exact(CK.inj g).symm
    .cases g
 |ends a k=>exact same (λx=>by rw[qc2];simp) (CK.inj g).symm
 |anew a k=>exact same (λx=>by rw[qc2];simp) (CK.inj g).symm
 |longer a k u t=>exact same (λx=>by rw[qc2];simp) (CK.inj g).symm
 |still a k l=>exact same (λx=>by rw[qc2];simp) (CK.inj g).symm
theorem Sf.run {S0:List RR}:∀{Q P:List Rw7}{S:List RR}{i:Nat},Sf S0 P S->(∀(A:List Rw7)(row:Rw7)(B:List Rw7),Q=A++row::B->qv6 S0 (P++A) row/\qar row∈S0.map RR.name)->∃S',qas S i Q=.ok S'/\Sf S0 (P++Q) S'
 | [],P,S,i,v,_=>⟨S,Z,by rw[AW];exact v⟩
 |row::Q,P,S,i,v,h=>by
  obtain⟨f,b⟩:=h [] row Q rfl;rw[AW]at f;obtain⟨S1,d,c⟩:=v.step f b i;obtain⟨S2,g,a⟩:=Sf.run (Q:=Q) (i:=i+1) c λA r B e=>by have:=h (row::A) r B (by rw[e];rfl);rw[AB];exact this
  refine⟨S2,?_,by rw[AB]at a;exact a⟩;rw[qdr,d];exact g
theorem qrl (r:RR):∀M:List Rw7,ylO (M.filter (nmd r)) r.name=ylO M r.name
 | []=>rfl
 |row::M=>by
  have d:=qrl r M;unfold ylO at d |-;rw[By];by_cases c:nmd r row=true
  .rw[if_pos c,Ca,Ca,d]
  .rw[if_neg c,d,Ca];cases row with|yields a b =>have:¬a=r.name:=λz=>c (qfy.mpr z);simp[this]|_=>rfl
def qwa (r:RR)(b:List Rw7)(x:Str):ylO (qae r::b) x=ylO b x:=by obtain⟨a,w,o,d,y,m,u,e,_⟩:=qk8 r;rw[e];rfl
def qwb {rs:List RR}(g:GT rs){M:List Rw7}(I:Mix rs M)(ok:∀n∈M,qc5 n):∃hs:List RR,hs.Perm rs/\hs.map qae=M.filter isT/\qg8 (M.map qal)=.ok hs:=by
 obtain⟨hs,D,X,h⟩:=qti g I;refine⟨hs,D,X,?_⟩;have E:(hs.map noY).map RR.name=hs.map RR.name:=by rw[AM];rfl
 have C:(hs.map RR.name).Nodup:=(D.map RR.name).nodup_iff.mpr g.nn;have look:∀r∈rs,lk (hs.map noY) r.name=some (noY r):=λr c=>by obtain⟨i,H⟩:=AA (D.mem_iff.mpr c);exact(qqj (by rw[E];exact C) (k:=i) (r:=noY r) (by rw[Af,H];rfl)).2
 have mem:∀x,x∈(hs.map noY).map RR.name↔x∈rs.map RR.name:=λx=>by rw[E];exact(D.map RR.name).mem_iff
 have L:∀r∈rs,ylO M r.name=r.yields:=λr c=>by obtain⟨Zq,hz,V⟩:=I.ow r c;rw[<- qrl,hz,qwa,V.yl]
 obtain⟨S,e,v⟩:=Sf.run (S0:=hs.map noY) (Q:=M) (P:=[]) (i:=0) ⟨Z,λx r c=>by
  obtain⟨r',l,t⟩:=A8.mp (qo2 c).2;rw[c,<- t];rfl⟩ λA n B q=>by
  rw[AG];have G:n∈M:=by rw[q];simp
  obtain⟨r,c,f⟩:=I.nm n G;refine⟨?_,by rw[mem,f];exact Cb c⟩;cases n with
  |term a w o d y m u =>
   intro s z p Y;have f:a=r.name:=f;rw[f,look r c]at p;cases p;rw[mem];have:=g.ba r c z Y;cases e:qaj rs z with
   |none=>rw[e]at this;cases this
   |some j=>obtain⟨W,l,t⟩:=qbu e;rw[<- t];exact Cb (Al l)
  |yields a b =>
   have f:a=r.name:=f;have O:=L r c;rw[q,show A++Rw7.yields a b::B=A++[Rw7.yields a b]++B by simp]at O;have F:ylO A r.name++b::ylO B r.name=r.yields:=by rw[<- O];unfold ylO;rw[Dk,Dk];simp[f]
   obtain⟨K,T⟩:=g.yl r c;have N:b∈r.yields:=by rw[<- F];simp
   obtain⟨ne,s,p,J,so⟩:=T b N
   refine⟨by rw[mem,<- J];exact Cb p,by rw[f];exact ne,λz=>?_,λr1 W l t=>?_⟩
   .rw[f]at z;rw[<- F]at K;exact(AV.mp K).2.2 b z b Ak rfl
   .rw[f,look r c]at l;rw[<- J,look s p]at t;cases l;cases t;exact so
  |_=>trivial
 have U:S=hs:=by refine qv8 (by rw[v.nm,E]) (by rw[v.nm,E];exact C) λx R=>?_;rw[v.nm,mem]at R;obtain⟨r,l,t⟩:=A8.mp R;rw[<- t,v.fd _ _ (look r l),AG,L r l];obtain⟨i,H⟩:=AA (D.mem_iff.mpr l);rw[(qqj C H).2];rfl
 unfold qg8;rw[qmj ok,h];dsimp only;rw[qna,e,U]
noncomputable def trn (r:RR)(t k:Nat):List Rw7:=(AR k).flatMap λi=>(qb7 r).getD (1+(i+t) % 5) []
theorem qni (x z:Str):∀ks:List Str,ylO (ks.map (Rw7.ends x)) z=[]/\ylO (ks.map (Rw7.anew x)) z=[]
 | []=>⟨Z,Z⟩
 |_::ks=>qni x z ks
theorem qei (x z:Str):∀ks:List (Str×Int×Int),ylO (ks.map λt=>Rw7.longer x t.1 t.2.1 t.2.2) z=[]
 | []=>rfl
 |_::ks=>qei x z ks
def qgp (x z:Str)(o:Option (Str×Str)):ylO (qcv x o) z=[]:=by cases o <;>rfl
theorem qej (x:Str):∀ks:List Str,ylO (ks.map (Rw7.yields x)) x=ks
 | []=>rfl
 |k::ks=>by have a:=qej x ks;unfold ylO at a |-;rw[At,Ca];simp only[if_true];rw[a]
def qo4 {r:RR}(g:(qau r).Nodup)(l2:r.longer.length<=2){P Q:List Rw7}(e:qbc r=P++Q)(j:(Q++P).foldl qa4 (qbo r)=noY r)(k:ylO (Q++P) r.name=r.yields):Tn r (Q++P):=by have d:∀a∈Q++P,isT a=false/\qar a=r.name:=λa h=>qrf r a (by rw[e];exact A9.mpr (A9.mp h).symm);obtain⟨i,b⟩:=qvw r;rw[e,qfw]at i;rw[e,qfx]at b;refine⟨qne d ?_ (by rw[qfw];show 0+_<=2;lia) (by rw[qfx];show 0+_<=1;cases h:r.still <;>rw[h]at b <;>simp[stN]at b <;>lia),j,k,d⟩;have f:=qoy r;rw[e,AL]at f;refine(List.Perm.nodup_iff (Ej.mpr λx=>?_)).mpr g;have c:=congrArg (List.count x) f;simp only[Ct]at c;simp only[qau,qbo,AL,Ct,BE,List.count_nil,show stL none=[] from Z];lia
def tn_trn {r:RR}(a:(qau r).Nodup)(b:r.longer.length<=2){t:Nat}(ht:t<5):Tn r (trn r t 5):=by
 have d:=λks=>(qni r.name r.name ks).1;have e:=λks=>(qni r.name r.name ks).2;have c:∀A B:List Rw7,ylO (A++B) r.name=ylO A r.name++ylO B r.name:=λA B=>by unfold ylO;rw[Dk]
 rcases (by lia:t=0\/t=1\/t=2\/t=3\/t=4) with rfl|rfl|rfl|rfl|rfl
 .rw[show trn r 0 5=qbc r++[] by unfold trn qb7 qbc;simp[Cw,AL]];refine qo4 a b (P:=[]) rfl (by rw[AW];exact qmi r) ?_;unfold qbc;simp only[c,d,e,qei,qgp,qej,AW,AG]
 .rw[show trn r 1 5=(r.anew.map (.anew r.name)++(r.longer.map (λt=>.longer r.name t.1 t.2.1 t.2.2)++(qcv r.name r.still++r.yields.map (.yields r.name))))++r.ends.map (.ends r.name) by unfold trn qb7;simp[Cw,AL]];refine qo4 a b rfl ?_ ?_
  .simp only[Cf,qeh,qdi];rw[qet _ _ _ Z,qdj,qeg];simp only[qbo,noY,AG]
  .simp only[c,d,e,qei,qgp,qej,AW,AG]
 .rw[show trn r 2 5=(r.longer.map (λt=>.longer r.name t.1 t.2.1 t.2.2)++(qcv r.name r.still++r.yields.map (.yields r.name)))++(r.ends.map (.ends r.name)++r.anew.map (.anew r.name)) by unfold trn qb7;simp[Cw,AL]];refine qo4 a b (by unfold qbc;simp only[AB]) ?_ ?_
  .simp only[Cf,qdi];rw[qet _ _ _ Z,qdj,qeg,qeh];simp only[qbo,noY,AG]
  .simp only[c,d,e,qei,qgp,qej,AW,AG]
 .rw[show trn r 3 5=(qcv r.name r.still++r.yields.map (.yields r.name))++(r.ends.map (.ends r.name)++(r.anew.map (.anew r.name)++r.longer.map (λt=>.longer r.name t.1 t.2.1 t.2.2))) by unfold trn qb7;simp[Cw,AL]];refine qo4 a b (by unfold qbc;simp only[AB]) ?_ ?_
  .simp only[Cf];rw[qet _ _ _ Z,qdj,qeg,qeh,qdi];simp only[qbo,noY,AG]
  .simp only[c,d,e,qei,qgp,qej,AW,AG]
 .rw[show trn r 4 5=r.yields.map (.yields r.name)++(r.ends.map (.ends r.name)++(r.anew.map (.anew r.name)++(r.longer.map (λt=>.longer r.name t.1 t.2.1 t.2.2)++qcv r.name r.still))) by unfold trn qb7;simp[Cw,AL]];refine qo4 a b (by unfold qbc;simp only[AB]) ?_ ?_
  .simp only[Cf];rw[qdj,qeg,qeh,qdi,qet _ _ _ Z];simp only[qbo,noY,AG]
  .simp only[c,d,e,qei,qgp,qej,AW,AG]
def spKp2:Sp:=λvs H Q _=>∃(p:Addr)(c:Int)(ws:List Str),vs=[.ref p,.int c]/\H p=some (.lst (ws.map V.str))/\ws.Nodup/\(∀x∈ws,qbq x)/\ws.length<=100/\∀(q:Addr)(H':Hp)(ws':List Str),Same H H'->H' q=some (.lst (ws'.map V.str))->ws'.length=ws.length->ws'.Nodup->(∀x∈ws',qbq x)->Q (.ref q) H'
noncomputable def qio:List Str:=[wS "term",wS "of",wS "due",wS "from",wS "behind",wS "times",wS "days",wS "weeks",wS "court",wS "ends",wS "anew",wS "longer",wS "still",wS "yields"]
def qwc:∀x∈qio,qbq x:=by
 intro x hx;apply qc6.mp
 revert x
 decide +kernel
structure WsOk (n:Nat)(ws:List Str):Prop where
 l:ws.length=n
 nd:ws.Nodup
 ok:∀x∈ws,qbq x
def WsOk.put {n:Nat}{ws:List Str}(h:WsOk n ws){i:Nat}(g:i<ws.length){x:Str}(f:x∉ws)(k:qbq x):WsOk n (ws.take i++[x]++ws.drop (i+1)):=by
 have nd:=h.nd;rw[<- BO i ws,BY g]at nd;obtain⟨a,b,c⟩:=AV.mp nd;obtain⟨b1,j⟩:=AK.mp b;refine⟨?_,?_,λz hz=>?_⟩
 .rw[Ai,Ai,A6,Bv,B3,<- h.l];lia
 .rw[AB];refine AV.mpr ⟨a,AK.mpr ⟨λz=>f (Dt z),j⟩,λy d z hz e=>?_⟩;rcases Ap.mp hz with q|q
  .exact f (by rw[<- q,<- e];exact Du d)
  .exact c y d z (Aq _ q) e
 .rcases A9.mp hz with q|q
  .rcases A9.mp q with q|q
   .exact h.ok z (Du q)
   .rw[Ao.mp q];exact k
  .exact h.ok z (Dt q)
def spTu3:Sp:=λvs H Q _=>∃(p:Addr)(t:Nat)(r:RR),vs=[.ref p,.int (t:Int)]/\LR H p r/\RrOk r/\∀(q:Addr)(H':Hp),H q=none->Same H H'->H' q=some (.lst (qaq (qae r::trn r t 5)))->Q (.ref q) H'
def spTx3:Sp:=λvs H Q _=>∃x:Str,vs=[.str x,.str x]/\Q (.bl true) H
def qo5 (r:RR)(t k:Nat):trn r t (k+1)=trn r t k++(qb7 r).getD (1+(k+t) % 5) []:=by unfold trn;rw[Cw,AL];simp[Bg]
theorem qrm {r:RR}(h:RrOk r)(t:Nat):∀k,(trn r t k).length<=100*k
 |0=>Ax _
 |k+1=>by
  rw[qo5,Ai];have:=qrm h t k;have:((qb7 r).getD (1+(k+t) % 5) []).length<=100:=by
   have l:1+(k+t) % 5<(qb7 r).length:=by show 1+(k+t) % 5<6;lia
   rw[A4,Ae l];exact qk4 h _ (Bw l)
  lia
structure MxI (rs:List RR)(T:RR->List Rw7)(P:List Rw7)(L:List (RR×List Rw7)):Prop where
 mem:∀x∈L,x.1∈rs
 nd:(L.map λx=>x.1.name).Nodup
 ow:∀x∈L,P.filter (nmd x.1)++x.2=T x.1
 dn:∀r∈rs,r.name∉(L.map λx=>x.1.name)->P.filter (nmd r)=T r
 nm:∀row∈P,∃r∈rs,qar row=r.name
def MxI.put {rs:List RR}{T:RR->List Rw7}{P:List Rw7}{L:List (RR×List Rw7)}(m:MxI rs T P L)(p:∀r∈rs,∀a∈T r,qar a=r.name){t:Nat}{r:RR}{a:Rw7}{R:List Rw7}(h:L[t]?=some (r,a::R)):MxI rs T (P++[a]) (L.set t (r,R)):=by
 have f:=Al h;have e:=m.mem _ f;have lt:=(Ac.mp h).1;have k:=m.ow _ f;have j:qar a=r.name:=p r e a (by rw[<- k];simp);have s:nmd r a=true:=qfy.mpr j;have n:(L.set t (r,R)).map (λx=>x.1.name)=L.map λx=>x.1.name:=by
  rw[List.map_set];apply B0;intro i;rw[BA];by_cases c:t=i
  .rw[if_pos c,<- c,Ab,if_pos lt,Af,h];rfl
  .rw[if_neg c]
 have l:∀r':RR,r'.name≠r.name->(P++[a]).filter (nmd r')=P.filter (nmd r'):=λr' ne=>by rw[BI,By,if_neg (λz=>ne ((qfy.mp z).symm.trans j))];simp
 have o:(P++[a]).filter (nmd r)=P.filter (nmd r)++[a]:=by rw[BI,By,if_pos s];rfl
 refine⟨λx g=>?_,by rw[n];exact m.nd,λx g=>?_,λr' h' d=>?_,λz hz=>?_⟩
 .rcases Cy g with q|q
  .exact m.mem x q
  .rw[q];exact e
 .obtain⟨i,b⟩:=AA g;rw[BA]at b;by_cases c:t=i
  .rw[if_pos c,if_pos lt]at b;cases b;show (P++[a]).filter (nmd r)++R=T r;rw[o,AB];exact k
  .rw[if_neg c]at b;have ne:x.1.name≠r.name:=λz=>c (qqi m.nd (by rw[Ab];exact lt) (by rw[Af,Af,h,b];exact congrArg some z.symm));rw[l x.1 ne];exact m.ow x (Al b)
 .rw[n]at d;have ne:r'.name≠r.name:=λz=>d (by rw[z];exact A8.mpr ⟨_,f,Z⟩);rw[l r' ne];exact m.dn r' h' d
 .rcases A9.mp hz with q|q
  .exact m.nm z q
  .rw[Ao.mp q];exact⟨r,e,j⟩
def MxI.drop {rs:List RR}{T:RR->List Rw7}{P:List Rw7}{L:List (RR×List Rw7)}(m:MxI rs T P L)(j:(rs.map RR.name).Nodup):MxI rs T P (L.filter λx=>!x.2.isEmpty):=by
 refine⟨λx d=>m.mem x (Bh.mp d).1,B5.sublist (List.Sublist.map _ List.filter_sublist) m.nd,λx d=>m.ow x (Bh.mp d).1,λr f g=>?_,m.nm⟩;by_cases c:r.name∈L.map λx=>x.1.name
 .obtain⟨x,d,e⟩:=A8.mp c;have i:x.1=r:=qin j (m.mem x d) f e;cases h:x.2 with|nil =>have:=m.ow x d;rw[h,AW,i]at this;exact this|cons a b=>exact absurd (A8.mpr ⟨x,Bh.mpr ⟨d,by rw[h];rfl⟩,e⟩) g
 .exact m.dn r f c
def mix_of {rs:List RR}{T:RR->List Rw7}{M:List Rw7}(m:MxI rs T M [])(c:∀r∈rs,∃a,T r=qae r::a/\Tn r a)(l:M.length<=40):Mix rs M :=
 ⟨m.nm,λr b=>by obtain⟨a,e,d⟩:=c r b;exact⟨a,by rw[m.dn r b Av,e],d⟩,l⟩
noncomputable def szL (L:List (RR×List Rw7)):Nat:=(L.map λx=>x.2.length).sum
theorem qro:∀{L:List (RR×List Rw7)}{t:Nat}{r:RR}{a:Rw7}{R:List Rw7},L[t]?=some (r,a::R)->szL (L.set t (r,R))+1=szL L
 |x::L,0,r,a,R,h=>by cases h;show (R.length+_)+1=(R.length+1)+_;lia
 |x::L,t+1,r,a,R,h=>by have:=qro (L:=L) (t:=t) h;show (x.2.length+szL (L.set t (r,R)))+1=x.2.length+szL L;lia
theorem qo6:∀L:List (RR×List Rw7),szL (L.filter λx=>!x.2.isEmpty)=szL L
 | []=>rfl
 |x::L=>by
  have c:=qo6 L;rw[By];cases h:x.2 with|nil =>rw[if_neg (by simp)];show _=x.2.length+szL L;rw[h,c];simp|cons a b =>rw[if_pos (by rfl)];show x.2.length+szL _=x.2.length+szL L;rw[c]
structure LsA (H:Hp)(pl:Addr)(bs:List Addr)(L:List (RR×List Rw7)):Prop where
 hp:H pl=some (.lst (bs.map V.ref))
 ln:bs.length=L.length
 at':∀(i:Nat)(b:Addr)(x:RR×List Rw7),bs[i]?=some b->L[i]?=some x->H b=some (.lst (qaq x.2))
theorem LsA.same {H a:Hp}{pl:Addr}{bs:List Addr}{L:List (RR×List Rw7)}(h:LsA H pl bs L)(s:Same H a):LsA a pl bs L:=⟨s _ _ h.hp,h.ln,λi b x d c=>s _ _ (h.at' i b x d c)⟩
def spMx3 (K:Ag):Sp:=λvs H Q _=>∃(l pl:Addr)(ns:List Int)(rs:List RR)(T:RR->List Rw7)(bs:List Addr)(L:List (RR×List Rw7)),vs=[.ref l,.ref pl]/\SqL K H l (ns.map V.int)/\LsA H pl bs L/\(rs.map RR.name).Nodup/\(∀r∈rs,∀row∈T r,qar row=r.name)/\MxI rs T [] L/\(∀x∈L,x.2≠[])/\L.length<=6/\szL L<=40/\∀(q:Addr)(H':Hp)(M:List Rw7),H q=none->Same H H'->H' q=some (.lst (qaq M))->MxI rs T M []->M.length<=40->Q (.ref q) H'
structure WxI (H J:Hp)(rs:List RR)(T:RR->List Rw7)(q:Addr)(P:List Rw7)(pl:Addr)(bs:List Addr)(L:List (RR×List Rw7)):Prop where
 sm:Same H J
 hq:J q=some (.lst (qaq P))
 ls:LsA J pl bs L
 mx:MxI rs T P L
 ne:∀x∈L,x.2≠[]
 l6:L.length<=6
 sz:P.length+szL L<=40
 np:pl≠q
 nb:∀b∈bs,b≠q
noncomputable def kpB (J:Hp):V->Bool
 |.ref a=>match J a with
  |some (.lst xs)=>!xs.isEmpty
  |_=>false
 |_=>false
def qx8 (R:List Rw7):(qaq R).isEmpty=R.isEmpty:=by cases R <;>rfl
theorem qo7 {J:Hp}:∀{bs:List Addr}{L:List (RR×List Rw7)},bs.length=L.length->(∀(i:Nat)(b:Addr)(x:RR×List Rw7),bs[i]?=some b->L[i]?=some x->J b=some (.lst (qaq x.2)))->∃d:List Addr,(bs.map V.ref).filter (kpB J)=d.map V.ref/\d.length=(L.filter λx=>!x.2.isEmpty).length/\(∀(i:Nat)(b:Addr)(x:RR×List Rw7),d[i]?=some b->(L.filter λx=>!x.2.isEmpty)[i]?=some x->J b=some (.lst (qaq x.2)))/\∀b∈d,b∈bs
 | [],[],_,_=>⟨[],Z,Z,(λi b x h=>nomatch h),λb h=>nomatch h⟩
 |a::bs,x::L,hl,h=>by
  obtain⟨d,l,m,k,n⟩:=qo7 (bs:=bs) (L:=L) (C2 hl) λi b y f e=>h (i+1) b y f e;have j:=h 0 a x rfl rfl;have o:kpB J (.ref a) = !x.2.isEmpty:=by show (match J a with|some (.lst xs)=>!xs.isEmpty|_=>false)=_;rw[j];show (!(qaq x.2).isEmpty)=_;rw[qx8]
  rw[At,By,By,o];cases c:x.2.isEmpty with
  |true =>refine⟨d,by rw[if_neg (by simp),l],by rw[if_neg (by simp),m],λi b y f e=>?_,λb g=>Aq _ (n b g)⟩;rw[if_neg (by simp)]at e;exact k i b y f e
  |false =>
   refine⟨a::d,by rw[if_pos (by simp),l];rfl,by rw[if_pos (by simp),Am,Am,m],λi b y f e=>?_,λb g=>?_⟩
   .rw[if_pos (by simp)]at e;cases i with|zero=>cases f;cases e;exact j|succ i=>exact k i b y f e
   .rcases Ap.mp g with z|z
    .rw[z];exact Ak
    .exact Aq _ (n b z)
def qx9 {α:Type}{l:List α}{t:Nat}(h:t<l.length)(a:α):l.take t++[a]++l.drop (t+1)=l.set t a:=by rw[List.set_eq_take_append_cons_drop,if_pos h,AB];rfl
def qwd {a b:Rw7}(d:qc5 a)(c:qc5 b)(h:qal a=qal b):a=b:=by have e:=qnd d;rw[h,qnd c]at e;exact(A5 e).symm
def qrp {rs:List RR}{k:Nat}{r:RR}(h:rs[k]?=some r):hd rs (k+1)=hd rs k+(qbr r).length:=by unfold hd qai;rw[qa6 h,AL,Ai];simp[Bg]
def qnj (K:Ag)(Pt:Addr):Sp:=λvs H Q _=>∃(a:Addr)(ns:List Int),vs=[.ref a]/\SqL K H a (ns.map V.int)/\ns.length<=63/\H Pt=some (.tbl #[])/\∀H',Q (.bl true) H'
theorem qk9:∀{a:List Addr}{rs:List RR}{i:Nat}{q:Addr}{r:RR},a.Nodup->a[i]?=some q->rs[i]?=some r->(a.zip rs).lookup q=some r
 | [],_,i,_,_,_,h,_=>by cases h
 |_::_,[],i,_,_,_,_,h=>by cases h
 |q0::a,r0::rs,0,q,r,_,b,c=>by cases b;cases c;rw[D9,Bx];simp
 |q0::a,r0::rs,i+1,q,r,nd,b,c=>by have b:a[i]?=some q:=b;have c:rs[i]?=some r:=c;have ne:q≠q0:=λz=>(AK.mp nd).1 (z ▸ Al b);rw[D9,Bx,show (q == q0)=false from beq_false_of_ne ne];exact qk9 (AK.mp nd).2 b c
theorem qwe {α:Type}[DecidableEq α]{l:List α}{x:α}(h:x∈l):∃j:Nat,l[j]?=some x/\∀i,i<j->l[i]? ≠ some x:=by
 induction l with
 |nil=>cases h
 |cons y l ih =>
  by_cases e:y=x
  .exact⟨0,by rw[e];rfl,λi a=>absurd a (De _)⟩
  .obtain⟨j,c,b⟩:=ih ((Ap.mp h).resolve_left λz=>e z.symm);refine⟨j+1,c,λi a=>?_⟩;cases i with|zero=>exact λz=>e (A5 z)|succ i=>exact b i (by lia)
theorem qo8 {α β:Type}(F:α->β){f e:List β}(p:f.Perm e):∀{l:List α},e=l.map F->∃ks:List α,ks.Perm l/\f=ks.map F:=by
 induction p with
 |nil=>intro l h;exact⟨[],by rw[Eh.mp h.symm],Z⟩
 |cons y _ ih =>
  intro l h;cases l with
  |nil=>cases h
  |cons a l =>rw[At]at h;injection h with h1 h2;obtain⟨ks,c,d⟩:=ih h2;exact⟨a::ks,c.cons a,by rw[At,<- d,h1]⟩
 |swap y z l' =>
  intro l h;cases l with
  |nil=>cases h
  |cons a l =>
   cases l with
   |nil=>rw[At]at h;injection h with _ h;cases h
   |cons b l =>rw[At,At]at h;injection h with h1 h2;injection h2 with h2 h3;exact⟨b::a::l,.swap _ _ _,by rw[At,At,h1,h2,h3]⟩
 |trans _ _ ih1 ih2 =>intro l h;obtain⟨k1,c,g⟩:=ih2 h;obtain⟨i,d,j⟩:=ih1 g;exact⟨i,d.trans c,j⟩
def At1 {α:Type}(M:List α)(x:α)(j:Nat):Prop:=M[j]?=some x/\∀i,i<j->M[i]? ≠ some x
def At1.uniq {α:Type}{M:List α}{x:α}{i j:Nat}(h:At1 M x i)(g:At1 M x j):i=j:=by
 rcases Nat.lt_trichotomy i j with c|c|c
 .exact absurd h.1 (g.2 i c)
 .exact c
 .exact absurd g.1 (h.2 j c)
def At1.cons {α:Type}{M:List α}{x y:α}{j:Nat}(h:At1 (y::M) x j)(ne:x≠y):∃i,j=i+1/\At1 M x i:=by
 cases j with|zero=>exact absurd (A5 h.1).symm ne|succ i=>exact⟨i,Z,h.1,λk hk=>h.2 (k+1) (by lia)⟩
theorem qla {α:Type}{p:α->Bool}:∀{M:List α},(M.filter p).Nodup->(M.filter p).Pairwise λa b=>∀i j,At1 M a i->At1 M b j->i<=j
 | [],_=>.nil
 |x::M,nd=>by
  by_cases c:p x=true
  .rw[List.filter_cons_of_pos c]at nd |-;obtain⟨o,r⟩:=AK.mp nd;refine List.pairwise_cons.mpr ⟨λb d i j h g=>?_,?_⟩
   .have:i=0:=h.uniq ⟨Z,λk hk=>absurd hk (De _)⟩;lia
   .refine(qla r).imp_of_mem λ{a b} f d l i j h g=>?_;obtain⟨e,rfl,h'⟩:=h.cons λz=>o (z ▸ f);obtain⟨m,rfl,g'⟩:=g.cons λz=>o (z ▸ d);exact CD (l e m h' g')
  .rw[List.filter_cons_of_neg c]at nd |-;refine(qla nd).imp_of_mem λ{a b} f d l i j h g=>?_;have n:=(Bh.mp f).2;have q:=(Bh.mp d).2;obtain⟨e,rfl,h'⟩:=h.cons λz=>c (z ▸ n);obtain⟨m,rfl,g'⟩:=g.cons λz=>c (z ▸ q);exact CD (l e m h' g')
theorem ord_hs {rs hs:List RR}{M:List Rw7}{ks:List Nat}{o:Nat->Nat}(d:RR)(A:(rs.map RR.name).Nodup)(m:hs.Perm rs)(t:hs.map qae=M.filter isT)(inj:∀r∈rs,∀s∈rs,qae r=qae s->r=s)
  (hk:∀k r,rs[k]?=some r->At1 M (qae r) (o k))(v:ks.Perm (AR rs.length))(E:ks.Pairwise λa b=>o a<=o b):ks.map (λk=>rs.getD k d)=hs:=by
 have u:rs.Nodup:=(BP.mp A).imp λh e=>h (congrArg RR.name e);have q:hs.Nodup:=m.nodup_iff.mpr u;have w:(ks.map λk=>rs.getD k d).Perm rs:=by have:=v.map λk=>rs.getD k d;rw[qpu]at this;exact this
 have at':∀k∈ks,At1 M (qae (rs.getD k d)) (o k):=λk n=>by have lt:k<rs.length:=C4.mp (v.mem_iff.mp n);refine hk k _ ?_;rw[Ae lt,A4,Ae lt];rfl
 have D:(ks.map λk=>rs.getD k d).Pairwise λa b=>∀i j,At1 M (qae a) i->At1 M (qae b) j->i<=j:=BP.mpr (E.imp_of_mem λ{a b} c f h i j l g=>by rw[l.uniq (at' a c),g.uniq (at' b f)];exact h);have z:(hs.map qae).Nodup:=BP.mpr (q.imp_of_mem λ{a b} c f h e=>h (inj a (m.mem_iff.mp c) b (m.mem_iff.mp f) e));have B:hs.Pairwise λa b=>∀i j,At1 M (qae a) i->At1 M (qae b) j->i<=j:=by have:=qla (p:=isT) (M:=M) (by rw[<- t];exact z);rw[<- t]at this;exact BP.mp this
 have pos:∀r∈rs,∃i,At1 M (qae r) i:=λr C=>by obtain⟨k,n⟩:=AA C;exact⟨_,hk k r n⟩
 refine List.Perm.eq_of_pairwise (le:=λa b=>∀i j,At1 M (qae a) i->At1 M (qae b) j->i<=j) (λa b c f x y=>?_) D B (w.trans m.symm);have c:=w.mem_iff.mp c;have f:=m.mem_iff.mp f;obtain⟨i,l⟩:=pos a c;obtain⟨j,g⟩:=pos b f;have e:i=j:=Nat.le_antisymm (x i j l g) (y j i g l);subst e;exact inj a c b f (A5 (l.1.symm.trans g.1))
def qwf {r:RR}{t:Nat}(ht:t<5):(trn r t 5).length=(qbc r).length:=by
 have a:AR 5=[0,1,2,3,4]:=rfl;unfold trn qbc;rw[a];rcases t with _|_|_|_|_|t
 .simp[qb7]
 .simp[qb7];lia
 .simp[qb7];lia
 .simp[qb7];lia
 .simp[qb7];lia
 .lia
def trn_in {r:RR}{t:Nat}{a:Rw7}(h:a∈trn r t 5):a∈qbr r:=by
 unfold trn at h;obtain⟨i,_,b⟩:=B6.mp h;unfold qbr;refine List.mem_flatten.mpr ⟨_,?_,b⟩;have lt:1+(i+t) % 5<(qb7 r).length:=by show 1+(i+t) % 5<6;lia
 rw[A4,Ae lt];exact Bw lt
theorem qrr {T:RR->List Rw7}:∀{rs:List RR},(∀r∈rs,(T r).length=(qbr r).length)->szL (rs.map λr=>(r,T r))=(qai rs).length
 | [],_=>rfl
 |r::rs,h=>by have a:=qrr (T:=T) (rs:=rs) λq b=>h q (Aq _ b);have c:=h r Ak;unfold szL at a |-;rw[At,At,List.sum_cons,a];show (T r).length+(qai rs).length=(qbr r++qai rs).length;rw[Ai,c]
def mx_ok {rs:List RR}{T:RR->List Rw7}{M:List Rw7}(g:∀r∈rs,RrOk r)(m:MxI rs T M [])(c:∀r∈rs,∀a∈T r,a∈qbr r):∀a∈M,qc5 a:=λa h=>by
 obtain⟨r,b,e⟩:=m.nm a h;have:a∈T r:=by rw[<- m.dn r b (λz=>nomatch z)];exact Bh.mpr ⟨h,by unfold nmd;simp[e]⟩
 exact qhs g a (B6.mpr ⟨r,b,c r b a this⟩)
def qwg {rs:List RR}(d:(rs.map RR.name).Nodup):∀r∈rs,∀s∈rs,qae r=qae s->r=s:=λr h s hs e=>by
 have f:∀r:RR,qar (qae r)=r.name:=λr=>by unfold qae;split <;>rfl
 have g:r.name=s.name:=by rw[<- f r,<- f s,e]
 obtain⟨i,c⟩:=AA h;obtain⟨j,a⟩:=AA hs;have b:=qd4 d c;have k:=qd4 d a;rw[g,k]at b;cases b;rw[c]at a;exact A5 a
def qya {rs hs:List RR}(g:GT rs)(p:hs.Perm rs):GT hs:=by
 have m:∀{r},r∈hs->r∈rs:=λh=>p.mem_iff.mp h;have nn:(hs.map RR.name).Nodup:=(p.map RR.name).nodup_iff.mpr g.nn;refine⟨λr d=>g.ok r (m d),λr d=>g.kd r (m d),λr d=>g.l2 r (m d),nn,by rw[p.length_eq];exact g.l6,λr d y e=>?_,λr d=>?_,?_⟩
 .have:=g.ba r (m d) y e;cases q:qaj hs y with|some j=>rfl|none =>have n:=qcp.mp q;have k:y∉rs.map RR.name:=λz=>n ((p.map RR.name).mem_iff.mpr z);rw[qcp.mpr k]at this;cases this
 .obtain⟨l,o⟩:=g.yl r (m d);refine⟨l,λy i=>?_⟩;obtain⟨a,s,f,b,c⟩:=o y i;exact⟨a,s,p.mem_iff.mpr f,b,c⟩
 .have e:(qai hs).length=(qai rs).length:=by
   unfold qai
   exact(p.flatMap_right _).length_eq
  rw[e]
  exact g.ln
theorem qtj {rs hs:List RR}{ks:List Nat}(o:(rs.map RR.name).Nodup)(g:∀(i:Nat) (r:RR),hs[i]?=some r->∃k,ks[i]?=some k/\rs[k]?=some r)(h:∃a:Nat->Int,∀k b,bo (bsR rs) k=some b->a b<a k):∃a:Nat->Int,∀k b,bo (bsR hs) k=some b->a b<a k:=by
 obtain⟨a,j⟩:=h;refine⟨λi=>a (ks.getD i 0),λi b e=>?_⟩;unfold bo bsR at e;rw[A4,Af]at e;cases c:hs[i]? with
 |none=>rw[c]at e;cases e
 |some r =>
  rw[c]at e;have e:r.base.bind (qaj hs)=some b:=e;cases f:r.base with
  |none=>rw[f]at e;cases e
  |some y =>rw[f]at e;have e:qaj hs y=some b:=e;obtain⟨s,l,q⟩:=qbu e;obtain⟨k,t,m⟩:=g i r c;obtain⟨d,n,p⟩:=g b s l;have:=j k d (by unfold bo bsR;rw[A4,Af,m];show r.base.bind (qaj rs)=some d;rw[f];show qaj rs y=some d;rw[<- q];exact qd4 o p);show a (ks.getD b 0)<a (ks.getD i 0);rw[A4,A4,t,n];exact this
def gn2 {i:Nat}{k:L2.St->Hp->Prop}{v:V}{σ σ':L2.St}{H:Hp}(e:σ.set i (some v)=σ')(h:k σ' H):qe6 i v σ H k:=by subst e;exact h
def useHV2 {p G:Hp->Option V->Option V->Prop}{R:Prop}(m:(∀x y z,p x y z->G x y z)->R)(l:∀x y z,p x y z->G x y z):R:=m l
def RuX.offp {C:Addr}{H:Hp}{A:RA}{r:RR}(h:RuX C H A r){p:Addr}{a:List V}(c:H p=some (.lst a))(n:∀z∈own A,z≠p):RuX C (off p H) A r :=
 h.keep (S:=[p]) (λb o m e=>qhr (λz=>by
  rcases m with m|⟨t,rfl⟩
  .exact m (Ao.mpr z)
  .rw[z,c]at e;cases e) e) λz hz m=>n z hz (Ao.mp m)
theorem BkX.but {a:Adr}{H i:Hp}{x g:Addr}{rs:List RR}{e:List RA}{f:List Nat}(h:BkX a H x rs e f)(m:H g=some (.lst (e.map λA=>.ref A.p)))(ln:e.length=rs.length)(k:∀b o,b≠g->H b=some o->i b=some o)(q:e=[]->i g=some (.lst [])):BkX a i x rs e f:=by
 obtain⟨dx,n,d,l,c,j⟩:=h;refine⟨dx,n,d,k _ _ (λz=>by rw[z,m]at l;cases l) l,?_,k _ _ (λz=>by rw[z,m]at j;cases j) j⟩;by_cases z:n=g
 .rw[z,m]at c;rw[z];cases e with
  |nil =>rw[q Z];exact c
  |cons A e =>
   cases f with
   |nil=>cases c
   |cons o f =>injection c with c;injection c with c;rw[At,At,At]at c;injection c with c _;cases c
 .exact k _ _ z c
theorem as_ex {n:Nat}{bs:List Addr}{P:Nat->RA->Prop}(b:bs.length=n)(h:∀(j:Nat) (q:Addr),bs[j]?=some q->∃A:RA,q=A.p/\P j A):∃a:List RA,a.length=n/\(a.map λA=>A.p)=bs/\∀(j:Nat)(A:RA),a[j]?=some A->P j A:=by
 induction bs generalizing n P with
 |nil=>exact⟨[],b,Z,λj A e=>by cases e⟩
 |cons q bs ih =>
  cases n with
  |zero=>cases b
  |succ n =>
   obtain⟨A,e,g⟩:=h 0 q rfl;obtain⟨a,k,f,i⟩:=ih (n:=n) (P:=λj A=>P (j+1) A) (C2 b) λj q d=>h (j+1) q d;refine⟨A::a,by rw[Am,k],by rw[At,f,e],λj B c=>?_⟩;cases j with|zero=>cases c;exact g|succ j=>exact i j B c
def spOb3 (a:Adr):Sp:=λvs H Q _=>∃(p:Addr)(r:RR),vs=[.ref p]/\LR H p r/\RrOk r/\∀(A:RA)(H':Hp),Same H H'->(∀z∈own A,H z=none)->(own A).Nodup->RuX a.k7 H' A r->Q (.ref A.p) H'
section
variable {P:AH}{w:World}{K:Ag}{mg:Str->Option Value}{base:Heap}{a:Adr}
set_option maxHeartbeats 4000000
theorem qqk (T:Txt K mg a):FnOk P w K mg base CX0 1 a.nJ a.nM ["sign"] spFig:=by
 refine T.bU.fn.ok qp3 (λvs H Q E h=>?_) (λcdv A outer s H vs Q E hr h=>?_)
 .obtain⟨_,rfl,_⟩:=h
  all_goals rfl
 .obtain⟨c,rfl,k⟩:=h;refine⟨_,(qt (zc (qnr qgv qgv zq (pv 0) zq))),?_⟩;refine(nmc Z ⟨_,_,Z,Z,(nmc Z ?_)⟩);have b:Q (.bl (fig c)) H:=k;unfold fig at b;show if (!decide ((⟨#[c]⟩:Str).cps.toList<(Aa "0").cps.toList))=true then _ else _;rw[le_0];by_cases d:48<=c
  .rw[decide_eq_true d,Dg]at b;rw[decide_eq_true d];refine qdw ⟨_,_,Z,Z,?_⟩;show Q (.bl (!decide ((Aa "9").cps.toList<(⟨#[c]⟩:Str).cps.toList))) H;rw[le_9];exact b
  .rw[decide_eq_false d,C5]at b;rw[decide_eq_false d];exact qcr b
theorem qip (T:Txt K mg a):FnOk P w K mg base CX0 2 a.mF a.fD ["text","most_figures"] spWn:=by
 refine T.bJ.fn.ok qh7 (λvs H Q E h=>?_) (λcdv A outer s H vs Q E t h=>?_)
 .obtain⟨_,_,rfl,_⟩:=h
  all_goals rfl
 .obtain⟨x,m,rfl,hx,k⟩:=h;refine⟨_,(qj (zm (qf2 (qj2 qlw qlw qp (zo qa9 (by rfl) T.kE qa5 (qh (pv 0) qm qi)) (pv 1))) (qt (zc qjy)) qan)
   (qj (zm (qf2 (zp (zo (ql5 Z) (by rfl) T.mS qoj (qh (qd1 (N:=["sign"]) (js:=[none]) (XN:=["text","most_figures"]) (xs:=qaa qc3) Z Z Z Ek (qqz (pv 0)) (λ_ _ _ _ _ _=>(qam (i:=0) (show B5 (["sign"]:List Str) from by decide +kernel) Z (A0 Z) (Cj Z))) (λ_ _ _ _ _ _=>qb4) (λ_ _ _ _ _ _=>(zn (qqk T) (t.mono En) Z T.bU.mgx T.bU.fn.kp T.bU.bd .nil qap (qh (pv 0) qm qi)))) qm qh0)))) (qt (zc qjy)) qan)
   (qt (zc (qyc (qb3 qbk (pv 0) zq (qah _)) (qhb (qyw (qbv BB PySem.F.slot_str_startswith PySem.F.type_str_startswith qlm (pv 0) (qh zq qm zb))))))))),?_⟩
  have hz:x.length<=Au:=qad (by lia);refine(nmc Z ⟨_,_,Z,⟨hz,Z⟩,(iic Z Z (nmc Z ?_))⟩);have g:=k H (Same.refl H);unfold wnm at g;refine qdk (λc=>?_) (λc=>?_)
  .have r:1<=(x.cps.size:Int):=of_decide_eq_true c;refine(nmc Z (iic Z Z (nmc Z ?_)));refine qdk (λd=>?_) (λd=>?_)
   .have l:decide ((x.cps.size:Int)<=m)=false:=nbF d;have d':=of_decide_eq_false l;rw[decide_eq_false d',Dp,C5]at g;exact g
   .have l:decide ((x.cps.size:Int)<=m)=true:=nbT d;have d':=of_decide_eq_true l;refine(nmc Z ⟨_,Z,?_⟩);refine qb0 (λv=>match v with | .str y=>.bl (fig (y.cps.getD 0 0))|_=>.non) (λσ'=>∃v,σ'=[v]) qke ?_ ?_ (λv σ' H' R u sm n q=>?_) qb5 λp B=>?_
    .rw[Ab,AO];exact hz
    .exact⟨none,Z⟩
    .obtain⟨c,hc,rfl⟩:=A8.mp u;obtain⟨v0,rfl⟩:=n;exact(nmc Z ⟨c,Z,q _ ⟨_,Z⟩⟩)
    refine⟨p,x.cps.toList.map fig,Z,SqL.of (by rw[qu,AM,AM];rfl),(nmc Z ?_)⟩;have f:=k _ (zi (o:=.lst ((x.cps.toList.map λc=>V.str ⟨#[c]⟩).map λv=>match v with | .str y=>.bl (fig (y.cps.getD 0 0))|_=>.non)) B);unfold wnm at f;rw[decide_eq_true (show 1<=x.cps.size by lia),decide_eq_true d',Dg,Dg]at f;show if (!((x.cps.toList.map fig).all λb=>b))=true then _ else _;rw[DI];show if (!(x.cps.toList.all fig))=true then _ else _;cases e:x.cps.toList.all fig with
    |false =>rw[e]at f;exact qdw f
    |true =>
     rw[e,Dg]at f;refine qcr (nmc Z ⟨Z,(nmc Z ?_)⟩);show if decide (V.str x=V.str (Aa "0"))=true then _ else _;unfold Wri.plain at f;by_cases j:x=Aa "0"
     .rw[decide_eq_true j,Bool.true_or]at f;rw[decide_eq_true (congrArg V.str j)];exact qdw f
     .rw[decide_eq_false j,Bool.false_or]at f;rw[decide_eq_false λz=>j (V.str.inj z)];refine qcr (nmc Z ⟨Z,_,_,Z,Z,(nmc Z ?_)⟩);show Q (.bl (!Txt.startswith x (Aa "0"))) _;rw[qxs];exact f
  .have r:¬1<=(x.cps.size:Int):=λz=>c (decide_eq_true z);rw[decide_eq_false (show ¬1<=x.cps.size by lia),C5,C5]at g;exact(nmc Z (qdw g))
theorem qwh (T:Txt K mg a):FnOk P w K mg base CX0 3 a.hX a.lZ ["text","most"] qvf:=by
 refine T.bV.fn.ok qok (λvs H Q E h=>?_) (λcdv A outer s H vs Q E o h=>?_)
 .obtain⟨_,_,rfl,_⟩:=h
  all_goals rfl
 .obtain⟨x,m,rfl,hx,m1,l,k,g⟩:=h;refine⟨_,(qj (zm (qf2 (zp (zn (qip T) (o.mono En) Z T.bJ.mgx T.bJ.fn.kp T.bJ.bd .nil qap (qh (pv 0) (qh (zo qa9 (by rfl) T.kE qa5 (qh (qbs qdo (by rfl) T.kU qd6 (qh (pv 1) qm qi)) qm zu)) qm zu) qi)))) (qt (zc qa8)) qan)
   (qj (zg (i:=2) qok.nd Z (A0 Z) (qbs qse (by rfl) T.dX qkt (qh (pv 0) qm qi)))
   (qt (zc (qdm (qj2 qlw qlw qp (pv 2) (pv 1)) (pv 2) qa8))))),?_⟩
  have q:(ts m).length<=62:=ts_len (by lia) En l;refine(nmc Z (nmc Z ⟨_,Z,log_ok 62 Ek (by lia) l,_,_,Z,⟨qad (A2 q En),Z⟩,x,_,Z,by lia,λd b=>?_⟩));refine(nmc Z ?_);show if (!wnm x ((ts m).length:Nat))=true then _ else _;cases e:wnm x ((ts m).length:Nat) with
  |false=>exact qdw (g (by unfold due;rw[e];rfl) d b)
  |true =>
   have f:=e;unfold wnm at f;simp only[AN,decide_eq_true_eq]at f;obtain⟨⟨n,g2⟩,p,g4⟩:=f;refine qcr (nmc Z ⟨_,_,Z,qzf p n (by lia),(by show x.cps.size<=640;lia),(nmc Z (iic Z Z (nmc Z ?_)))⟩);refine qdk (λc=>?_) (λc=>?_)
   .refine(nmc Z (iic Z Z (nmc Z ?_)));refine qdk (λj=>?_) (λj=>?_)
    .exact(nmc Z (k (by unfold due;rw[e,c,j];rfl) d b))
    .exact g (by unfold due;rw[e,c,Bool.eq_false_iff.mpr j];rfl) d b
   .exact(nmc Z (qcr (g (by unfold due;rw[e,Bool.eq_false_iff.mpr c];rfl) d b)))
theorem qql (T:Txt K mg a):FnOk P w K mg base CX0 1 a.fA a.nL ["self","names"] (spIL K):=by
 refine T.dN.fn.ok qp4 (λvs H Q E h=>?_) (λcdv A outer s H vs Q E hr h=>?_)
 .obtain⟨_,_,_,_,_,rfl,_⟩:=h
  all_goals rfl
 .obtain⟨x,C,l,c,y,rfl,B,hl,u,D,k⟩:=h;refine⟨_,(qj (zj (qga T.gI Z T.gJ (qh (pv 0) (qh (qbs qfj (by rfl) T.gC qdy (qh (pv 1) qm qi)) qm zu) qi)))
   (qt (qh1 (pv 0) (qbs qfj (by rfl) T.gC qdy (qh (pv 1) qm qi)) Z))),?_⟩
  have j:∀{p:Addr},H p=none->p≠x:=λr z=>by rw[z,B]at r;cases r
  refine(nmc Z (nmc Z ⟨l,c,Z,.inl hl,λi f=>?_⟩));have n:upd H i (.lst c) x=some (exO x C none true):=by rw[ze (Bc (j f))];exact B
  refine⟨x,C,none,[.ref i],y,Z,n,u.xc,qad (show 1<=100000 by decide),?_⟩;have q:SqL K (upd H i (.lst c)) l c:=(zi f).seq hl;refine(nmc Z ⟨l,c,Z,.inl q,λg m=>?_⟩);have d:H g=none:=(zi f).free m;have n31:g≠i:=λz=>by rw[z,qu]at m;cases m
  have t:upd (upd H i (.lst c)) g (.lst c) x=some (exO x C none true):=by rw[ze (Bc (j d))];exact n
  refine(nmc Z ⟨x,C,true,Z,u.set D,.inl ⟨t,λdx hd=>?_⟩⟩);have hd0:H dx=none:=((zi f).trans (zi m)).free hd;have v:g≠dx:=λz=>by rw[<- z,qu]at hd;cases hd
  exact k dx g _ hd0 d (λb o F e=>by rw[ze F,ze (qab e hd0),ze (qab e d),ze (qab e f)];exact e) qu (by rw[ze (j hd0)];exact qu) (by rw[ze (j d),ze v];exact qu)
theorem qtk (T:Txt K mg a):FnOk P w K mg base (CX1 P w) 3 a.fQ a.fG ["name","bases","taken"] (spUn7 a):=by
 refine okX T.bA.fn qgz (λvs H Q E h=>?_) (λcdv A outer s H vs Q E hr h=>?_)
 .obtain⟨_,_,_,_,_,_,_,rfl,_⟩:=h
  all_goals rfl
 .obtain⟨d,t,kvs,nms,bs,B,v,rfl,hd,ht,p,G,hk,X,k,kx⟩:=h;refine⟨_,(qj (zg (i:=3) qgz.nd Z (A0 Z) (zr qm))
   (qj (zg (i:=4) qgz.nd Z (A0 Z) (pv 0))
   (qj (qnq BF.leaving (PW.pt (qfg (zf qdn (pv 4) qa8 (qah _)) (qgs (zf qfi (pv 4) (pv 2) (by with_unfolding_all rfl))))) (qj (zm (zf qgt (pv 4) (pv 3) (by with_unfolding_all rfl)) (qt (qc8 Z (Takes.at qbg) (qd2 T.dE.xc T.dN.ty (qql T) (hr.mono En) Z T.pG T.dE.kp T.dN.bd .nil qap (qh (qba qb9 (pv 3) (qa7 (qbv A7 PySem.F.slot_list_index PySem.F.type_list_index qma (pv 3) (qh (pv 4) qm qi))) qct) qm zx)))) qan)
   (qj (zj (qbv A7 AY AZ qbh (pv 3) (qh (pv 4) qm qi)))
   (qt (zg (i:=4) qgz.nd Z (A0 Z) (qhz (qfb hr) (pv 1) (pv 4) (λ_ _=>rfl)))))))
   (qt (zc (pv 3)))))),?_⟩
  refine⟨qdg,λq C=>?_⟩;obtain⟨W,h0⟩:=alc (o:=.lst []) C;generalize upd H q _=H0 at W h0 |-;refine(nmc Z ?_);refine⟨λm σ' g=>Same H g/\∃(c:List Nat)(o:Option Nat),σ'=[some (.str (nm nms v)),some (.ref d),some (.ref t),some (.ref q),some (qh9 nms o)]/\g q=some (.lst ((c.map (nm nms)).map V.str))/\Ch (bo bs) c o/\c.Nodup/\(∀j∈c,j<nms.length/\j∉B)/\(∀j,o=some j->j<nms.length)/\(c++o.toList)[0]?=some v/\m+c.length=7,⟨7,W,[],some v,Z,h0,(λi k e=>by cases e),.nil,(λj l=>absurd l Av),(λj e=>by cases e;exact hk),Z,Z⟩,?_⟩;rintro m σ' g ⟨u,c,o,rfl,n,ch,nd,lt,lo,st,hm⟩;cases o with
  |none=>exact(nmc Z ⟨Z,(nmc Z (qew Z (qcr (nmc Z (k q g c none C u n ch nd lt st (λj z=>nomatch z))))))⟩)
  |some j =>
   have l:=lo j rfl;dsimp only[qh9];refine(nmc Z ⟨Z,(nmc Z (qfc (λz=>nomatch z) (nmc Z (nmc Z ⟨_,_,Z,.inl (SqL.of (u _ _ ht)),Z,qfe _,(nmc Z ?_)⟩))))⟩);show if (!inV (.str (nm nms j)) ((B.map (nm nms)).map V.str))=true then _ else _;rw[qfd];cases R:(B.map (nm nms)).contains (nm nms j) with
   |true=>exact qcr (nmc Z (k q g c (some j) C u n ch nd lt st (λi z=>by cases z;exact(qm6 p.nd G l).mp R)))
   |false =>
    have nj:j∉B:=λz=>by rw[(qm6 p.nd G l).mpr z]at R;cases R
    have ln:=qve nd λk hk=>(lt k hk).1;have sm:=p.sm;obtain⟨m,rfl⟩:∃f,m=f+1:=⟨m-1,by lia⟩;have r:∀k∈c,k<nms.length:=λk hk=>(lt k hk).1;refine qdw ⟨λσ' g=>Same H g/\∃(c:List Nat)(o:Option Nat),σ'=[some (.str (nm nms v)),some (.ref d),some (.ref t),some (.ref q),some (qh9 nms o)]/\g q=some (.lst ((c.map (nm nms)).map V.str))/\Ch (bo bs) c o/\c.Nodup/\(∀j∈c,j<nms.length/\j∉B)/\(∀j,o=some j->j<nms.length)/\(c++o.toList)[0]?=some v/\m+c.length=7,λσ2 H2 z=>⟨m,CC m,z⟩,?_⟩;refine(nmc Z (nmc Z ⟨_,_,Z,.inl (SqL.of n),Z,qfe _,(nmc Z ?_)⟩));show if (inV (.str (nm nms j)) ((c.map (nm nms)).map V.str))=true then _ else _;rw[qfd];cases ep:(c.map (nm nms)).contains (nm nms j) with
    |true =>
     have L:=(qm6 p.nd r l).mp ep;obtain⟨x,U,g2,g3⟩:=nm_ix p.nd r l nd L;have ld:((c.map (nm nms)).map V.str).drop x=((c.drop x).map (nm nms)).map V.str:=by rw[Dh,Dh]
     refine qdw (nmc Z (nmc Z ⟨.inl ⟨Z,_,SqL.of n⟩,(nmc Z ⟨q,_,_,x,Z,Z,n,g2,g3,(nmc Z ⟨_,_,Z,SqL.of n,λp5 h5=>?_⟩)⟩)⟩));have li:x<c.length:=(Ac.mp U).1;rw[qgj _ _ (by rw[Ab,Ab];lia),ld];obtain⟨M,e5⟩:=alc (o:=.lst (((c.drop x).map (nm nms)).map V.str)) h5;generalize upd g p5 _=H5 at M e5 |-;refine⟨qad (show 1<=100000 by decide),λy O=>⟨y,a.gG,p5,_,_,Z,qu,SqL.of (zi O _ _ e5),T.dE,zd T.pJ En,λS l1 H6 J D kp o1 I Y=>⟨Z,?_⟩⟩⟩;have s6:Same H5 H6:=qbb O kp;have aa:S≠y:=λz=>by rw[z,qu]at J;cases J
     have a0:l1≠y:=λz=>by rw[z,qu]at D;cases D
     exact⟨y,_,some S,Z,o1,⟨_,I⟩,T.pD,kx y S l1 _ _ (qag (u.trans (M.trans s6)) ((u.trans M).free O)) qu ((ze aa).trans I) ((ze a0).trans Y) (ch_rg ch nd r U)⟩
    |false =>
     have L:j∉c:=λz=>by rw[(qm6 p.nd r l).mpr z]at ep;cases ep
     have lz:((c.map (nm nms)).map V.str).length<=90000:=by rw[Ab,Ab];lia
     refine qcr (nmc Z ⟨.inl ⟨Z,_,SqL.of n⟩,(nmc Z ⟨_,_,_,Z,Z,n,qc0 lz,?_⟩)⟩);have N:Same H (upd g q (.lst ((c.map (nm nms)).map V.str++[V.str (nm nms j)]))):=qag u C;have h2:upd g q (.lst ((c.map (nm nms)).map V.str++[V.str (nm nms j)])) q=some (.lst (((c++[j]).map (nm nms)).map V.str)):=by rw[qu,Ar,Ar];rfl
     generalize upd g q _=H2 at N h2 |-;refine(nmc Z (nmc Z ⟨d,_,Z,(X j l) ▸ DGet.k (k:=.inr (nm nms j)) (N _ _ hd),?_⟩));refine⟨N,c++[j],bo bs j,Z,h2,ch.snoc,?_,λi hi=>?_,λi e=>p.ok j i e,?_,by rw[Ai,B3];lia⟩
     .rw[AV];exact⟨nd,AK.mpr ⟨Av,.nil⟩,λa ha b hb e=>L (by rw[<- Ao.mp hb,<- e];exact ha)⟩
     .rcases A9.mp hi with z|z
      .exact lt i z
      .rw[Ao.mp z];exact⟨l,nj⟩
     .have e:(c++[j])[0]?=some v:=st;rw[Ba (by rw[Ai,B3];lia)];exact e
theorem qlb (T:Txt K mg a):FnOk P w K mg base (CX1 P w) 4 a.lQ a.nE ["rules"] (spHa7 a):=by
 refine okX T.bW.fn qce (λvs H Q E h=>?_) (λcdv A outer s H vs Q E hr h=>?_)
 .obtain⟨_,_,_,_,rfl,_⟩:=h
  all_goals rfl
 .obtain⟨M,us,nms,bs,rfl,I,m,S,k,kx⟩:=h;refine⟨_,(qj (zg (i:=1) qce.nd Z (A0 Z) qj9)
   (qj (qcd BF.leaving Z (qbd (pv 0)) (qam (i:=2) qce.nd Z (A0 Z)) (qt (qmv (qfb hr) (pv 1) (qak (pv 2) Z) (qak (pv 2) Z) Z)))
   (qj (zg (i:=3) qce.nd Z (A0 Z) (zr qm))
   (qj (qcd BF.leaving Z (qbd (pv 0)) (qam (i:=2) qce.nd Z (A0 Z)) (qt (qiq (i:=3) qce.nd Z (A0 Z) (qkj Z (by rfl) T.gC (by rfl) T.mI qdy (qh (qen (qtk T) (hr.mono En) Z T.bA.mgx T.bA.fn.kp T.bA.bd .nil (Takes.at qbg) (qh (qak (pv 2) Z) (qh (pv 1) (qh (pv 3) qm qi) qi) qb6)) qm zu)) qit)))
   (qt (zc (pv 3))))))),?_⟩
  refine λd hd=>?_;obtain⟨R,h0⟩:=alc (o:=.dK []) hd;generalize upd H d _=H0 at R h0 |-;have sm:=S.sm;refine(nmc Z ⟨_,Z,⟨_,SqL.of (R _ _ I)⟩,qc7 (K:=K) (a:=M) (xs:=us) (λi σ f=>Same H f/\∃(u:Option V)(kvs:List (Key×V)),σ=[some (.ref M),some (.ref d),u,none]/\f d=some (.dK kvs)/\kvs.length<=i/\∀k<i,qdx kvs (.inr (nm nms k))=some (qh9 nms (bo bs k)))
   ⟨R,none,[],Z,h0,Ax _,λk hk=>absurd hk (De _)⟩ (λi σ f _ h=>SqL.of (h.1 _ _ I)) ?_ ?_⟩)
  .rintro i x σ f C ⟨g,u,kvs,rfl,q,hl,L⟩;have X:i<nms.length:=by rw[<- m.1];exact(Ac.mp C).1
   obtain⟨p,dx,fs,rfl,G,W,r3⟩:=(m.2 i x C).same g;refine(nmc Z (flc (G) (T.kA) (zd T.kC En) (r3) (nmc Z (nmc Z (flc (G) (T.kA) (zd T.kC En) (W) ⟨d,_,Z,DPut.k (k:=.inr (nm nms i)) q (by rw[Bd];lia),?_⟩)))));exact⟨qag g hd,_,_,Z,qu,A2 (qf6 _ _ _) (CD hl),qxm S.nd X L⟩
  .rintro σ H1 ⟨g,u,kvs,rfl,q,hl,L⟩;rw[m.1]at L;refine⟨qdg,λt y=>?_⟩;have U:=g.trans (zi (o:=.lst []) y);have h2:=zi (o:=.lst []) y _ _ q;have r:=qu (H:=H1) (a:=t) (o:=.lst []);have nt:=g.free y;have aa:d≠t:=λz=>by rw[<- z,q]at y;cases y
   generalize upd H1 t _=H2 at U h2 r |-;refine(nmc Z ⟨_,Z,⟨_,SqL.of (U _ _ I)⟩,qc7 (K:=K) (a:=M) (xs:=us) (λi σ f=>Same H f/\f d=some (.dK kvs)/\(∃l:List Nat,f t=some (.lst ((l.map (nm nms)).map V.str))/\l.Nodup/\(∀j∈l,j<nms.length)/\Od (bo bs) l/\∀j,j<i->j∈l)/\∃u:Option V,σ=[some (.ref M),some (.ref d),u,some (.ref t)])
    ⟨U,h2,⟨[],r,.nil,(λj v=>absurd v Av),(λp k e=>by cases e),λj v=>absurd v (De _)⟩,_,Z⟩ (λi σ f _ h=>SqL.of (h.1 _ _ I)) ?_ ?_⟩)
   .rintro i x σ f C ⟨g,q,⟨l,r,nd,n,O,J⟩,u,rfl⟩;have X:i<nms.length:=by rw[<- m.1];exact(Ac.mp C).1
    obtain⟨p,dx,fs,rfl,G,W,r3⟩:=(m.2 i x C).same g;refine(nmc Z (nmc Z (flc (G) (T.kA) (zd T.kC En) (W) (nmc Z (nmc Z ⟨_,_,_,nms,bs,l,i,Z,q,r,S,n,X,L,λq1 H3 D o n1 z1 e1 ch N B a0 ho=>?_,kx.same g⟩)))));refine⟨_,_,Z,SqL.of e1,λq2 Y=>?_⟩;have er:((D.map (nm nms)).map V.str).reverse=((D.reverse.map (nm nms)).map V.str):=by rw[List.map_reverse,List.map_reverse]
    rw[er];have F:=z1.trans (zi (o:=.lst ((D.reverse.map (nm nms)).map V.str)) Y);have e2:=qu (H:=H3) (a:=q2) (o:=.lst ((D.reverse.map (nm nms)).map V.str));generalize upd H3 q2 _=H4 at F e2 |-;have lo:=qve nd n;have li:=qve N λk hk=>(B k hk).1;refine⟨_,_,_,_,Z,Z,F _ _ r,e2,qad (by rw[Ab,Ab,Ab,Ab,Cv];lia),?_⟩;refine⟨qag (g.trans F) nt,(ze aa).trans (F _ _ q),⟨l++D.reverse,?_,?_,λj v=>?_,od_app O ch ho,λj v=>?_⟩,_,Z⟩
    .rw[qu,Ar,Ar]
    .rw[AV];exact⟨nd,List.pairwise_reverse.mpr (N.imp Bc),λa ha b hb e=>(B b (DV.mp hb)).2 (e ▸ ha)⟩
    .rcases A9.mp v with z|z
     .exact n j z
     .exact(B j (DV.mp z)).1
    .by_cases c:j=i
     .rw[c];exact ch_hd a0 ho
     .exact A9.mpr (.inl (J j (by lia)))
   .rintro σ f ⟨g,q,⟨l,r,nd,n,O,J⟩,u,rfl⟩;rw[m.1]at J;exact(nmc Z (k t f l nt g r nd n O J))
theorem qjq (T:Txt K mg a):FnOk P w K mg base CX0 1 a.fP a.mC ["sign"] spLow:=by
 refine T.bK.fn.ok qjn (λvs H Q E h=>?_) (λcdv A outer s H vs Q E hr h=>?_)
 .obtain⟨_,rfl,_⟩:=h
  all_goals rfl
 .obtain⟨c,rfl,k⟩:=h;refine⟨_,(qt (zc (qnr qgv qgv zq (pv 0) zq))),?_⟩;refine(nmc Z ⟨_,_,Z,Z,(nmc Z ?_)⟩);have b:Q (.bl (low c)) H:=k;unfold low at b;show if (!decide ((⟨#[c]⟩:Str).cps.toList<(Aa "a").cps.toList))=true then _ else _;rw[le_a];by_cases d:97<=c
  .rw[decide_eq_true d,Dg]at b;rw[decide_eq_true d];refine qdw ⟨_,_,Z,Z,?_⟩;show Q (.bl (!decide ((Aa "z").cps.toList<(⟨#[c]⟩:Str).cps.toList))) H;rw[le_z];exact b
  .rw[decide_eq_false d,C5]at b;rw[decide_eq_false d];exact qcr b
theorem qwi (T:Txt K mg a):FnOk P w K mg base CX0 2 a.mD a.lA ["thing"] spNmG:=by
 refine T.bX.fn.ok qvb (λvs H Q E h=>?_) (λcdv A outer s H vs Q E n h=>?_)
 .obtain⟨_,rfl,_⟩:=h
  all_goals rfl
 .obtain⟨x,rfl,u,k⟩:=h;refine⟨_,(qj (zm (qf2 (zp (zo qka (by rfl) T.dI qea (qh (pv 0) (qh (qmp (v:=.ty "str") Z T.kU qd6 Z) qm qi) qi)))) (qt (zc qjy)) qan)
   (qj (zm (qf2 (qj2 qlw qlw qp (zo qa9 (by rfl) T.kE qa5 (qh (pv 0) qm qi)) (qgr (v:=.int 8) Z T.nY.choose_spec ⟨_,Z⟩))) (qt (zc qjy)) qan)
   (qt (zc (zo (ql5 Z) (by rfl) T.mS qoj (qh (qd1 (N:=["sign"]) (js:=[none]) (XN:=["thing"]) (xs:=qaa qjs) Z Z Z Ek (qqz (pv 0)) (λ_ _ _ _ _ _=>(qam (i:=0) (show B5 (["sign"]:List Str) from by decide +kernel) Z (A0 Z) (Cj Z))) (λ_ _ _ _ _ _=>qb4) (λ_ _ _ _ _ _=>(zn (qjq T) (n.mono En) Z T.bK.mgx T.bK.fn.kp T.bK.bd .nil qap (qh (pv 0) qm qi)))) qm qh0)))))),?_⟩
  have hz:x.length<=Au:=qad (A2 u En);refine(nmc Z ⟨_,_,_,_,Z,.str _,qjb,(nmc Z (qcr ?_))⟩);refine(nmc Z ⟨_,_,Z,⟨hz,Z⟩,(iic Z Z (nmc Z ?_))⟩);have f:=k H (Same.refl H);unfold nmB at f;refine qdk (λc=>?_) (λc=>?_)
  .have m:1<=(x.cps.size:Int):=of_decide_eq_true c;refine(iic Z Z (nmc Z ?_));refine qdk (λd=>?_) (λd=>?_)
   .have g:decide ((x.cps.size:Int)<=8)=false:=by
     cases q:decide ((x.cps.size:Int)<=8) with|false=>rfl|true =>have e:(!decide ((x.cps.size:Int)<=8))=true:=d;rw[q]at e;cases e
    have d':=of_decide_eq_false g
    rw[decide_eq_false (show ¬x.cps.size<=8 by lia),Dp,C5]at f
    exact f
   .have g:decide ((x.cps.size:Int)<=8)=true:=by
     cases q:decide ((x.cps.size:Int)<=8) with|true=>rfl|false =>have e:¬(!decide ((x.cps.size:Int)<=8))=true:=d;rw[q]at e;exact absurd rfl e
    have d':=of_decide_eq_true g
    refine(nmc Z ⟨_,Z,?_⟩)
    refine qb0 (λv=>match v with | .str y=>.bl (low (y.cps.getD 0 0))|_=>.non) (λσ'=>∃v,σ'=[v]) qke ?_ ?_ (λv σ' H' R r sm l q=>?_) qb5 λp t=>?_
    .rw[Ab,AO];exact hz
    .exact⟨none,Z⟩
    .obtain⟨c,hc,rfl⟩:=A8.mp r;obtain⟨v0,rfl⟩:=l;exact(nmc Z ⟨c,Z,q _ ⟨_,Z⟩⟩)
    refine⟨p,x.cps.toList.map low,Z,SqL.of (by rw[qu,AM,AM];rfl),?_⟩
    have j:=k _ (zi (o:=.lst ((x.cps.toList.map λc=>V.str ⟨#[c]⟩).map λv=>match v with | .str y=>.bl (low (y.cps.getD 0 0))|_=>.non)) t)
    unfold nmB at j
    rw[decide_eq_true (show 1<=x.cps.size by lia),decide_eq_true (show x.cps.size<=8 by lia),Dg,Dg]at j
    show Q (.bl ((x.cps.toList.map low).all λb=>b)) _
    rw[DI]
    exact j
  .have m:¬1<=(x.cps.size:Int):=λz=>c (decide_eq_true z);rw[decide_eq_false (show ¬1<=x.cps.size by lia),C5,C5]at f;exact(nmc Z (qdw f))
theorem qlc (T:Txt K mg a):FnOk P w K mg base (CX1 P w) 5 a.dB a.mP ["self","rules"] (spBIG a):=by
 refine okX T.dJ.fn qku (λvs H Q E h=>?_) (λcdv A outer s H vs Q E hr h=>?_)
 .obtain⟨_,_,_,_,_,rfl,_⟩:=h
  all_goals rfl
 .obtain⟨x,dx,Y,rs,g,rfl,hx,l,q,nn,l6,a0,ru,k,kx⟩:=h;refine⟨_,(qj (qdc (pv 0) (qen (qlb T) (hr.mono En) Z T.bW.mgx T.bW.fn.kp T.bW.bd .nil (Takes.at qbg) (qh (pv 1) qm qi)) Z)
   (qj (qdc (pv 0) qj9 Z)
   (qt (qcd BF.leaving Z (qbd (pv 1)) (qam (i:=2) qku.nd Z (A0 Z)) (qt (qmv (qfb hr) (qak (pv 0) Z) (qak (pv 2) Z) (pv 2) Z)))))),?_⟩
  have wr:=wr_of nn l6;have sm:=l6;have ac:=rus_of q a0 ru;refine(nmc Z ⟨_,_,_,_,Z,l,ac,wr,λf R os no s1 e1 nd G od al=>?_,kx⟩);have x1:=s1 _ _ hx;refine(nmc Z ⟨_,_,_,_,Z,x1,T.kT,zd T.gA En,En,?_⟩);rw[put1];have J:f≠x:=λz=>by rw[z,hx]at no;cases no
  have S:SameBut x H (upd R x (.ins a.kF dx [(Aa "order",.ref f)])):=(SameBut.of s1).set;have M:=qu (H:=R) (a:=x) (o:=.ins a.kF dx [(Aa "order",.ref f)]);have N:=(ze (o:=.ins a.kF dx [(Aa "order",.ref f)]) J).trans e1;generalize upd R x _=H2 at S M N |-;refine λd hd=>?_;obtain⟨L,d3⟩:=alc (o:=.dK []) hd;have x3:=L _ _ M;have m:d≠x:=λz=>by rw[z,M]at hd;cases hd
  have aa:f≠d:=λz=>by rw[<- z,N]at hd;cases hd
  have ad:=S.free m hd;refine(nmc Z ⟨_,_,_,_,Z,x3,T.kT,zd T.gA En,(show 1<1000 by decide),?_⟩);rw[put2 _ _ Ek];have W:SameBut x H (upd (upd H2 d (.dK [])) x (.ins a.kF dx (bfs f d))):=(S.trans (SameBut.of L)).set;have x4:=qu (H:=upd H2 d (.dK [])) (a:=x) (o:=.ins a.kF dx (bfs f d));have o4:=(ze (o:=.ins a.kF dx (bfs f d)) J).trans (L _ _ N);have d4:=(ze (o:=.ins a.kF dx (bfs f d)) m).trans d3;generalize upd (upd H2 d (.dK [])) x _=H4 at W x4 o4 d4 |-;have F:Y≠x:=λz=>by rw[z,hx]at l;cases l
  have rule:∀{c:Hp}{i:Nat}{y:V},SameBut x H c->(g.map λA=>V.ref A.p)[i]?=some y->∃r A,rs[i]?=some r/\g[i]?=some A/\y=.ref A.p/\∃v,c A.p=some (.ins a.k7 A.dx (rlR A r v)):=λ{c i y} b e=>by
   rw[Af]at e;cases B:g[i]? with
   |none=>rw[B]at e;cases e
   |some A =>rw[B]at e;cases e;have U:=(Ac.mp B).1;rw[q]at U;obtain⟨v,us,h⟩:=ru _ _ A (Ae U) B;refine⟨_,A,Ae U,Z,Z,v,b _ _ (λz=>?_) h.hx⟩;have C:=h.hx;rw[z,hx]at C;injection C with C;injection C with _ _ h5;cases h5
  refine(nmc Z ⟨_,Z,⟨_,SqL.of (W _ _ F l)⟩,qc7 (K:=K) (a:=Y) (xs:=g.map λA=>.ref A.p) (λi σ c=>SameBut x H c/\c x=some (.ins a.kF dx (bfs f d))/\c f=some (.lst ((os.map (nm (rs.map RR.name))).map V.str))/\c d=some (.dK (dcR (rs.take i) (g.take i)))/\∃X:Option V,σ=[some (.ref x),some (.ref Y),X])
   ⟨W,x4,o4,(by rw[DM,DM];exact d4),none,Z⟩ (λi σ c _ h=>SqL.of (h.1 _ _ F l)) ?_ ?_⟩)
  .rintro i y σ c hy ⟨u,D,O,t,X,rfl⟩;obtain⟨r,A,j,hA,rfl,v,r1⟩:=rule u hy;have hi:i<rs.length:=(Ac.mp j).1;have lt:(g.take i).length=(rs.take i).length:=by rw[A6,A6,q]
   have ep:qfk (dcR (rs.take i) (g.take i)) (.inr r.name) (.ref A.p)=dcR (rs.take (i+1)) (g.take (i+1)):=by
    rw[qa6 j,qa6 hA,qky r A lt];refine qj7 _ ?_;rw[qfo _ lt,qcp.mpr]
    .rfl
    .intro z;rw[C3]at z;have I:=nn;rw[<- BO i (rs.map RR.name),AV]at I;refine I.2.2 _ z r.name ?_ rfl;rw[<- Dh,BY hi,At];rw[Ae hi]at j;cases j;exact Ak
   refine(nmc Z (nmc Z (flc (D) (T.kT) (zd T.gA En) (rfl) (nmc Z (flc (r1) (T.kA) (zd T.kC En) (rfl) ⟨d,_,Z,DPut.k (k:=.inr r.name) t (by rw[Bd,qju lt,A6];lia),?_⟩)))));rw[ep];exact⟨λb o n e=>by rw[ze (qab e ad)];exact u b o n e,(ze m.symm).trans D,(ze aa).trans O,qu,_,Z⟩
  .rintro σ c ⟨u,D,O,t,X,rfl⟩;rw[Ab,q,Be,BW (Cn q)]at t;rw[Ab]at G;exact k c os u ⟨dx,f,d,D,O,t⟩ ⟨nd,G,od,by rw[Ab]at al;exact al⟩
theorem qtl (T:Txt K mg a):FnOk P w K mg base CX0 1 a.lK a.fR ["text"] spLnG:=by
 refine T.bT.fn.ok qs0 (λvs H Q E h=>?_) (λcdv A outer s H vs Q E hr h=>?_)
 .obtain⟨_,rfl,_⟩:=h
  all_goals rfl
 .obtain⟨b,rfl,hl,k⟩:=h;refine⟨_,(qt (zc (qdm (qxg (pv 0)) (qbv BB PySem.F.slot_str_split PySem.F.type_str_split qoa (pv 0) (qh zq qm zb)) (zr qm)))),?_⟩;have ll:(qex b).length<=20100:=qvq hl;refine(nmc Z ⟨_,Z,qad (by lia),?_⟩);by_cases c:b=[]
  .subst c;refine iteF' Ek ⟨qdg,λq g=>?_⟩;exact k q _ g (zi g) qu
  .have e:Cp (qex b) (wS "\n")=b:=by rw[newl];exact qki 10 c λp d=>(hl.c p d).2
   have f:=qjd (qex b) 10;rw[<- newl]at f;have hn:=hl.n;refine iteT' (decide_eq_true (qx0 hl c)) (nmc Z ⟨Z,_,_,Z,Z,Z,qad (by lia),qad (by rw[e];lia),qad (A2 f (by lia)),λp d=>?_⟩);rw[e];exact k p _ d (zi d) qu
theorem qtm (T:Txt K mg a):FnOk P w K mg base CX0 4 a.mH a.mU ["word","asked"] spValG:=by
 refine T.bQ.fn.ok qs1 (λvs H Q E h=>?_) (λcdv A outer s H vs Q E g h=>?_)
 .obtain⟨_,_,rfl,_⟩:=h
  all_goals rfl
 .obtain⟨o,q,rfl,ok,i,k⟩:=h;refine⟨_,(qj (zm (zp (zo qka (by rfl) T.dI qea (qh (pv 1) (qh (qmp (v:=.ty "int") Z T.dX qkt Z) qm qi) qi))) (qt (zc (zn (qwh T) (g.mono En) Z T.bV.mgx T.bV.fn.kp T.bV.bd .nil qap (qh (pv 0) (qh (pv 1) qm qi) qi)))) qan)
   (qj (zm (zf qbk (pv 1) zq (qah _)) (qt (zc (qdm (zp (zn (qwi T) (g.mono En) Z T.bX.mgx T.bX.fn.kp T.bX.bd .nil qap (qh (pv 0) qm qi))) (pv 0) qa8))) qan)
   (qj (zm (zf qbk (pv 1) zq (qah _)) (qt (zc (qdm (zf qgt (pv 0) (qgr (v:=.ref a.dH) Z T.nZ Z) (by with_unfolding_all rfl)) (pv 0) qa8))) qan)
   (qt (zc (qdm (zf qbk (pv 0) (pv 1) (qah _)) (pv 0) qa8)))))),?_⟩
  cases q with
  |num m =>
   obtain⟨j,p⟩:=ok;unfold qda at k;dsimp only at k;refine(nmc Z ⟨_,_,_,_,Z,.int _,qn0,(nmc Z (qdw (nmc Z (nmc Z ⟨_,_,Z,A2 i En,j,p,λe d b=>?_,λe d b=>?_⟩))))⟩)
   .have:=k d b;rw[if_pos e]at this;exact this
   .have:=k d b;rw[if_neg (by rw[e];decide)]at this;exact this
  |name =>
   unfold qda at k;dsimp only at k;refine(nmc Z ⟨_,_,_,_,Z,.str _,qf8,(nmc Z (qcr (nmc Z ⟨Z,(nmc Z (qe5 Z ?_))⟩)))⟩);refine(nmc Z ⟨_,Z,i,λd b=>(nmc Z ?_)⟩);have:=k d b;refine qdk (λc=>?_) (λc=>?_)
   .rw[if_pos c]at this;exact(nmc Z this)
   .rw[if_neg c]at this;exact this
  |unit =>
   unfold qda at k;dsimp only at k;refine(nmc Z ⟨_,_,_,_,Z,.str _,qf8,(nmc Z (qcr (nmc Z ⟨Z,(nmc Z (qay Ek (nmc Z ⟨Z,(nmc Z (qe5 Z (nmc Z ⟨_,_,Z,.inr (T.pE H),Z,Z,(nmc Z ?_)⟩)))⟩)))⟩)))⟩);show if inV (.str o) (qcf.map V.str)=true then _ else _;rw[qfd];have:=k H (Same.refl H);refine qdk (λc=>?_) (λc=>?_)
   .rw[if_pos c]at this;exact(nmc Z this)
   .rw[if_neg c]at this;exact this
  |lit c =>
   obtain⟨l,n⟩:=ok;unfold qda at k;dsimp only at k;refine(nmc Z ⟨_,_,_,_,Z,.str _,qf8,(nmc Z (qcr (nmc Z ⟨Z,(nmc Z (qay (λz=>l (V.str.inj z)) (nmc Z ⟨Z,(nmc Z (qay (λz=>n (V.str.inj z)) ?_))⟩)))⟩)))⟩);have:=k H (Same.refl H);refine(nmc Z (nmc Z ⟨Z,(nmc Z (qdk (λf=>?_) (λf=>?_)))⟩))
   .rw[if_pos (V.str.inj (of_decide_eq_true f))]at this;exact(nmc Z this)
   .rw[if_neg (λz=>f (decide_eq_true (by rw[z];rfl)))]at this;exact this
theorem qyb (T:Txt K mg a):FnOk P w K mg base CX0 5 a.mV a.mK ["line"] spRowG:=by
 refine T.gP.fn.ok qjt (λvs H Q E h=>?_) (λcdv A outer s H vs Q E hr h=>?_)
 .obtain⟨_,rfl,_⟩:=h
  all_goals rfl
 .obtain⟨l,rfl,hl,k,kn⟩:=h;refine⟨_,(qj (zg (i:=1) qjt.nd Z (A0 Z) (qbv BB PySem.F.slot_str_split PySem.F.type_str_split qoa (pv 0) (qh zq qm zb)))
   (qj (qcd Bo Z (qy1 (qgr (v:=.ref a.gM) Z T.pR Z)) (qam (i:=2) qjt.nd Z (A0 Z)) (qt (zm (zf qbk (zo qa9 (by rfl) T.kE qa5 (qh (pv 1) qm qi)) (zo qa9 (by rfl) T.kE qa5 (qh (pv 2) qm qi)) (qah _)) (qj (qck (i:=3) qjt.nd Z Z (N:=["word","asked"]) (js:=[none,none]) (XN:=["line","words","form","row"]) (xs:=qaa qm1) Z Z Z Ek (qzk Z T.pO (qh (pv 1) (qh (pv 2) qm qi) qi)) (λ_ _ _ _ _ _=>(qq5 (K:=K) Z (n:=2) Z (qcm (qam (i:=0) (show B5 (["word","asked"]:List Str) from by decide +kernel) Z (A0 Z) (Cj Z)) (qcm (qam (i:=1) (show B5 (["word","asked"]:List Str) from by decide +kernel) Z (A0 Z) (Cj Z)) qhw)))) (λ_ _ _ _ _ _=>qb4) (λ_ _ _ _ _ _=>(zn (qtm T) (hr.mono En) Z T.bQ.mgx T.bQ.fn.kp T.bQ.bd .nil qap (qh (pv 0) (qh (pv 1) qm qi) qi))))
   (qt (zm (zf qfi qa8 (pv 3) (by with_unfolding_all rfl)) (qt (zc (pv 3))) qan))) qan)))
   (qt (zc qa8)))),?_⟩
  obtain⟨u,x⟩:=qsi l 32;rw[<- qq8]at u x;have eb:=qjd l 32;rw[<- qq8]at eb;refine(nmc Z ⟨Z,_,_,Z,Z,Z,qad (A2 hl En),qad (A2 u (by lia)),qad (A2 eb (by lia)),λp hp=>?_⟩);generalize Cp l (wS " ")=ws at u x k kn hp |-;obtain⟨I,M⟩:=alc (o:=.lst (ws.map V.str)) hp;generalize upd H p _=H1 at I M |-;have ft:∀(i:Nat)(v:V),[.ref a.bP,.ref a.gQ,.ref a.bS,.ref a.gZ,.ref a.bG,.ref a.bN,.ref a.bB][i]?=some v->∃(f:List Ask)(t:Addr),qkx[i]?=some f/\v=.ref t/\∀H,SqT K H t (f.map askV):=λi v e=>by
   have hi:i<7:=(Ac.mp e).1;rcases (by lia:i=0\/i=1\/i=2\/i=3\/i=4\/i=5\/i=6) with rfl|rfl|rfl|rfl|rfl|rfl|rfl
   .cases e;exact⟨_,_,Z,Z,λH=>T.nW H⟩
   .cases e;exact⟨_,_,Z,Z,λH=>T.pI H⟩
   .cases e;exact⟨_,_,Z,Z,λH=>T.pQ H⟩
   .cases e;exact⟨_,_,Z,Z,λH=>T.pK H⟩
   .cases e;exact⟨_,_,Z,Z,λH=>T.pH H⟩
   .cases e;exact⟨_,_,Z,Z,λH=>T.pC H⟩
   .cases e;exact⟨_,_,Z,Z,λH=>T.pZ H⟩
  refine⟨_,Z,⟨_,T.mT _⟩,qwl (K:=K) (a:=a.gM) (xs:=[.ref a.bP,.ref a.gQ,.ref a.bS,.ref a.gZ,.ref a.bG,.ref a.bN,.ref a.bB]) (λi σ m=>Same H1 m/\(∀j f,j<i->qkx[j]?=some f->qch ws f=none)/\∃v2 v3:Option V,σ=[some (.str l),some (.ref p),v2,v3]) ⟨Same.refl H1,λj f r=>absurd r (De _),none,none,Z⟩ (λi σ m _ h=>T.mT _) ?_ ?_⟩
  .rintro i v σ m hv ⟨b,R,v2,v3,rfl⟩;obtain⟨f,t,C,rfl,X⟩:=ft i v hv;have B:=b _ _ M;have next:qch ws f=none->∀j g,j<i+1->qkx[j]?=some g->qch ws g=none:=λe j g r hg=>by
    by_cases c:j=i
    .rw[c,C]at hg;cases hg;exact e
    .exact R j g (by lia) hg
   refine(nmc Z ⟨_,_,Z,.inl ⟨_,SqL.of B,Z⟩,(nmc Z ⟨_,_,Z,.inr ⟨_,X _,Z⟩,Z,(nmc Z ?_)⟩)⟩);rw[Ab,Ab];by_cases d:ws.length=f.length
   .refine qe5 (by rw[d]) ?_;refine(nmc Z (nmc Z ⟨_,_,_,_,Z,B,X _,quz (zsG ws f) (λσ'=>∃v v',σ'=[v,v']) (SqL.of B) (X _) (by rw[Ab,Ab,d]) (by rw[qxv d,Ab]) (qad (by rw[Ab];lia)) ⟨none,none,Z⟩ (λj y av z t' σ' J RR D G h3 sm a0 s4 qq=>?_) (qup λxs σ' m RR RR' hh z=>?_) λq H2 nq L W=>?_⟩))
    .obtain⟨v,v',rfl⟩:=s4;rw[Af]at D G;cases S:ws[j]? with
     |none=>rw[S]at D;cases D
     |some w1 =>
      cases U:f[j]? with
      |none=>rw[U]at G;cases G
      |some qa =>
       rw[S]at D;rw[U]at G;cases D;cases G;have hz:z=(qda w1 qa).getD .non:=by unfold zsG at h3;rw[Af,show (ws.zip f)[j]?=some (w1,qa) from List.getElem?_zip_eq_some.mpr ⟨S,U⟩]at h3;exact(A5 h3).symm
       subst hz;exact⟨_,_,Z,SqT.of a0,Z,_,_,Z,_,_,Z,Z,(nmc Z (nmc Z ⟨w1,qa,Z,qvi f (Al C) qa (Al U),A2 (x _ (Al S)) (by lia),λJ2 L=>qq _ _ ⟨_,_,Z⟩ L⟩))⟩
    .obtain⟨x1,y1,M,x2,y2,B,z⟩:=z;exact⟨x1,y1,M,x2,y2,B,⟨z.1,hh _ _ z.2⟩⟩
    .refine(nmc Z ⟨_,_,Z,.inl (SqL.of W),Z,qvh ws f,(nmc Z ?_)⟩);have O:=qq9 d;show if (!inV .non (zsG ws f))=true then _ else _;cases ec:inV .non (zsG ws f) with
     |true =>rw[ec]at O;exact qcr ⟨b.trans L,next O,_,_,Z⟩
     |false =>
      rw[ec]at O;have Y:qia ws=some (zsG ws f):=by unfold qia;exact qra C O R
      exact qdw (nmc Z (k q H2 _ ((I.trans b).free nq) ((I.trans b).trans L) Y W))
   .exact qay (λz=>d (D6 (V.int.inj z))) ⟨b,next (qax d),_,_,Z⟩
  .rintro σ m ⟨b,R,v2,v3,rfl⟩;have Y:qia ws=none:=by unfold qia;rw[List.findSome?_eq_none_iff];intro f C;obtain⟨j,r⟩:=AA C;exact R j f (by have:=(Ac.mp r).1;exact this) r
   exact kn Y m (I.trans b)
theorem qhu (T:Txt K mg a):FnOk P w K mg base CX0 1 a.dO a.bD ["self","name","who","owes","opens","base","many","unit","still"] (spRlG a):=by
 refine T.pS.fn.ok qp5 (λvs H Q E h=>?_) (λcdv A outer s H vs Q E hr h=>?_)
 .obtain⟨_,_,_,_,_,_,_,_,_,_,rfl,_⟩:=h
  all_goals rfl
 .obtain⟨x,dx,b,c,d,f,i,l,m,g,rfl,hx,k⟩:=h;refine⟨_,(qj (qdc (pv 0) (pv 1) Z)
   (qj (qdc (pv 0) (pv 2) Z)
   (qj (qdc (pv 0) (pv 3) Z)
   (qj (qdc (pv 0) (pv 4) Z)
   (qj (qdc (pv 0) (pv 5) Z)
   (qj (qdc (pv 0) (pv 6) Z)
   (qj (qdc (pv 0) (pv 7) Z)
   (qj (qdc (pv 0) (pv 8) Z)
   (qj (qdc (pv 0) (zr qm) Z)
   (qj (qdc (pv 0) (zr qm) Z)
   (qj (qdc (pv 0) (zr qm) Z)
   (qt (qdc (pv 0) (zr qm) Z))))))))))))),?_⟩
  have b0:SameBut x H H:=λ_ _ _ e=>e;have x0:=hx;refine(nmc Z (nmc Z ⟨_,_,_,_,Z,x0,T.kA,zd T.kC En,(show 0<1000 by decide),?_⟩));rw[show qcw (Aa "name") b []=(rq1 b) by with_unfolding_all rfl];have b1:SameBut x H (upd H x (.ins a.k7 dx (rq1 b))):=b0.set;have x1:=qu (H:=H) (a:=x) (o:=.ins a.k7 dx (rq1 b));generalize upd H x _=H1 at b1 x1 |-;refine(nmc Z (nmc Z ⟨_,_,_,_,Z,x1,T.kA,zd T.kC En,(show 1<1000 by decide),?_⟩));rw[show qcw (Aa "who") c (rq1 b)=(rq2 b c) by with_unfolding_all rfl];have b2:SameBut x H (upd H1 x (.ins a.k7 dx (rq2 b c))):=b1.set;have x2:=qu (H:=H1) (a:=x) (o:=.ins a.k7 dx (rq2 b c));generalize upd H1 x _=H2 at b2 x2 |-;refine(nmc Z (nmc Z ⟨_,_,_,_,Z,x2,T.kA,zd T.kC En,(show 2<1000 by decide),?_⟩));rw[show qcw (Aa "owes") d (rq2 b c)=(rq3 b c d) by with_unfolding_all rfl];have b3:SameBut x H (upd H2 x (.ins a.k7 dx (rq3 b c d))):=b2.set;have x3:=qu (H:=H2) (a:=x) (o:=.ins a.k7 dx (rq3 b c d));generalize upd H2 x _=H3 at b3 x3 |-;refine(nmc Z (nmc Z ⟨_,_,_,_,Z,x3,T.kA,zd T.kC En,(show 3<1000 by decide),?_⟩));rw[show qcw (Aa "opens") f (rq3 b c d)=(rq4 b c d f) by with_unfolding_all rfl];have b4:SameBut x H (upd H3 x (.ins a.k7 dx (rq4 b c d f))):=b3.set;have x4:=qu (H:=H3) (a:=x) (o:=.ins a.k7 dx (rq4 b c d f));generalize upd H3 x _=H4 at b4 x4 |-;refine(nmc Z (nmc Z ⟨_,_,_,_,Z,x4,T.kA,zd T.kC En,(show 4<1000 by decide),?_⟩));rw[show qcw (Aa "base") i (rq4 b c d f)=(rq5 b c d f i) by with_unfolding_all rfl];have b5:SameBut x H (upd H4 x (.ins a.k7 dx (rq5 b c d f i))):=b4.set;have x5:=qu (H:=H4) (a:=x) (o:=.ins a.k7 dx (rq5 b c d f i));generalize upd H4 x _=H5 at b5 x5 |-;refine(nmc Z (nmc Z ⟨_,_,_,_,Z,x5,T.kA,zd T.kC En,(show 5<1000 by decide),?_⟩));rw[show qcw (Aa "many") l (rq5 b c d f i)=(rq6 b c d f i l) by with_unfolding_all rfl];have b6:SameBut x H (upd H5 x (.ins a.k7 dx (rq6 b c d f i l))):=b5.set;have x6:=qu (H:=H5) (a:=x) (o:=.ins a.k7 dx (rq6 b c d f i l));generalize upd H5 x _=H6 at b6 x6 |-;refine(nmc Z (nmc Z ⟨_,_,_,_,Z,x6,T.kA,zd T.kC En,(show 6<1000 by decide),?_⟩));rw[show qcw (Aa "unit") m (rq6 b c d f i l)=(rq7 b c d f i l m) by with_unfolding_all rfl];have b7:SameBut x H (upd H6 x (.ins a.k7 dx (rq7 b c d f i l m))):=b6.set;have x7:=qu (H:=H6) (a:=x) (o:=.ins a.k7 dx (rq7 b c d f i l m));generalize upd H6 x _=H7 at b7 x7 |-;refine(nmc Z (nmc Z ⟨_,_,_,_,Z,x7,T.kA,zd T.kC En,(show 7<1000 by decide),?_⟩));rw[show qcw (Aa "still") g (rq7 b c d f i l m)=(rq8 b c d f i l m g) by with_unfolding_all rfl];have b8:SameBut x H (upd H7 x (.ins a.k7 dx (rq8 b c d f i l m g))):=b7.set;have x8:=qu (H:=H7) (a:=x) (o:=.ins a.k7 dx (rq8 b c d f i l m g));generalize upd H7 x _=H8 at b8 x8 |-;refine⟨qdg,λn L=>?_⟩;obtain⟨s8,j⟩:=alc (o:=.lst []) L;have ag:=s8 _ _ x8;have t:n≠x:=λz=>by rw[z,x8]at L;cases L
  have ao:H n=none:=b8.free t L;have ae:=b8.trans (SameBut.of s8);generalize upd H8 n _=J8 at s8 j ag ae  |-;refine(nmc Z ⟨_,_,_,_,Z,ag,T.kA,zd T.kC En,(show 8<1000 by decide),?_⟩);rw[show qcw (Aa "ends") (.ref n) (rq8 b c d f i l m g)=(rq9 b c d f i l m g (.ref n)) by with_unfolding_all rfl];have b9:SameBut x H (upd J8 x (.ins a.k7 dx (rq9 b c d f i l m g (.ref n)))):=ae.set;have x9:=qu (H:=J8) (a:=x) (o:=.ins a.k7 dx (rq9 b c d f i l m g (.ref n)));have j:=(ze (o:=.ins a.k7 dx (rq9 b c d f i l m g (.ref n))) t).trans j;generalize upd J8 x _=H9 at b9 x9 j  |-;refine⟨qdg,λq F=>?_⟩;obtain⟨s9,p⟩:=alc (o:=.lst []) F;have ak:=s9 _ _ x9;have v:q≠x:=λz=>by rw[z,x9]at F;cases F
  have aq:H q=none:=b9.free v F;have Y:=qab j F;have j:=s9 _ _ j;have am:=b9.trans (SameBut.of s9);generalize upd H9 q _=J9 at s9 p ak am j |-;refine(nmc Z ⟨_,_,_,_,Z,ak,T.kA,zd T.kC En,(show 9<1000 by decide),?_⟩);rw[show qcw (Aa "anew") (.ref q) (rq9 b c d f i l m g (.ref n))=(qp7 b c d f i l m g (.ref n) (.ref q)) by with_unfolding_all rfl];have O:SameBut x H (upd J9 x (.ins a.k7 dx (qp7 b c d f i l m g (.ref n) (.ref q)))):=am.set;have S:=qu (H:=J9) (a:=x) (o:=.ins a.k7 dx (qp7 b c d f i l m g (.ref n) (.ref q)));have p:=(ze (o:=.ins a.k7 dx (qp7 b c d f i l m g (.ref n) (.ref q))) v).trans p;have j:=(ze (o:=.ins a.k7 dx (qp7 b c d f i l m g (.ref n) (.ref q))) t).trans j;generalize upd J9 x _=H10 at O S p j |-;refine⟨qdg,λpl C=>?_⟩;obtain⟨G,r⟩:=alc (o:=.lst []) C;have W:=G _ _ S;have D:pl≠x:=λz=>by rw[z,S]at C;cases C
  have ar:H pl=none:=O.free D C;have ad:=qab j C;have ac:=qab p C;have j:=G _ _ j;have p:=G _ _ p;have U:=O.trans (SameBut.of G);generalize upd H10 pl _=J10 at G r W U j p |-;refine(nmc Z ⟨_,_,_,_,Z,W,T.kA,zd T.kC En,(show 10<1000 by decide),?_⟩);rw[show qcw (Aa "longer") (.ref pl) (qp7 b c d f i l m g (.ref n) (.ref q))=(qoo b c d f i l m g (.ref n) (.ref q) (.ref pl)) by with_unfolding_all rfl];have M:SameBut x H (upd J10 x (.ins a.k7 dx (qoo b c d f i l m g (.ref n) (.ref q) (.ref pl)))):=U.set;have V:=qu (H:=J10) (a:=x) (o:=.ins a.k7 dx (qoo b c d f i l m g (.ref n) (.ref q) (.ref pl)));have r:=(ze (o:=.ins a.k7 dx (qoo b c d f i l m g (.ref n) (.ref q) (.ref pl))) D).trans r;have j:=(ze (o:=.ins a.k7 dx (qoo b c d f i l m g (.ref n) (.ref q) (.ref pl))) t).trans j;have p:=(ze (o:=.ins a.k7 dx (qoo b c d f i l m g (.ref n) (.ref q) (.ref pl))) v).trans p;generalize upd J10 x _=H11 at M V r j p |-;refine⟨qdg,λu y=>?_⟩;obtain⟨B,I⟩:=alc (o:=.lst []) y;have R:=B _ _ V;have J:u≠x:=λz=>by rw[z,V]at y;cases y
  have au:H u=none:=M.free J y;have aa:=qab j y;have a0:=qab p y;have X:=qab r y;have j:=B _ _ j;have p:=B _ _ p;have r:=B _ _ r;have N:=M.trans (SameBut.of B);generalize upd H11 u _=J11 at B I R N j p r |-;refine(nmc Z ⟨_,_,_,_,Z,R,T.kA,zd T.kC En,(show 11<1000 by decide),?_⟩);rw[show qcw (Aa "yields") (.ref u) (qoo b c d f i l m g (.ref n) (.ref q) (.ref pl))=(qp8 b c d f i l m g (.ref n) (.ref q) (.ref pl) (.ref u)) by with_unfolding_all rfl];have af:SameBut x H (upd J11 x (.ins a.k7 dx (qp8 b c d f i l m g (.ref n) (.ref q) (.ref pl) (.ref u)))):=N.set;have ah:=qu (H:=J11) (a:=x) (o:=.ins a.k7 dx (qp8 b c d f i l m g (.ref n) (.ref q) (.ref pl) (.ref u)));have I:=(ze (o:=.ins a.k7 dx (qp8 b c d f i l m g (.ref n) (.ref q) (.ref pl) (.ref u))) J).trans I;have j:=(ze (o:=.ins a.k7 dx (qp8 b c d f i l m g (.ref n) (.ref q) (.ref pl) (.ref u))) t).trans j;have p:=(ze (o:=.ins a.k7 dx (qp8 b c d f i l m g (.ref n) (.ref q) (.ref pl) (.ref u))) v).trans p;have r:=(ze (o:=.ins a.k7 dx (qp8 b c d f i l m g (.ref n) (.ref q) (.ref pl) (.ref u))) D).trans r;generalize upd J11 x _=H12 at af ah I j p r |-;refine k H12 n q pl u af ao aq ar au ah j p r I ?_;simp only[AK,Ap,Av,or_false,not_or];exact⟨⟨t.symm,v.symm,D.symm,J.symm⟩,⟨Y,ad,aa⟩,⟨ac,a0⟩,X,not_false,.nil⟩
theorem qo9 (T:Txt K mg a):FnOk P w K mg base CX0 1 a.dC a.lC ["self","name"] (qxu K "name"):=by
 refine T.dW.fn.ok qol (λvs H Q E h=>?_) (λcdv A outer s H vs Q E hr h=>?_)
 .obtain⟨_,_,_,_,rfl,_⟩:=h
  all_goals rfl
 .obtain⟨x,C,y,f,rfl,c,d,g,k⟩:=h;refine⟨_,(qj (zj (qga T.gI Z T.gJ (qh (pv 0) (qh (pv 1) qm qi) qi)))
   (qt (qh1 (pv 0) (pv 1) Z))),?_⟩
  refine(nmc Z (nmc Z ⟨x,C,none,[y],f,Z,c,d.xc,qad (show 1<=100000 by decide),?_⟩));refine(nmc Z (nmc Z ⟨x,C,true,Z,d.set g,.inl ⟨c,λdx hd=>?_⟩⟩));have ne:dx≠x:=λz=>by rw[z,c]at hd;cases hd
  exact k dx _ hd (λb o i e=>by rw[ze i,ze (qab e hd)];exact e) qu (by rw[ze ne];exact qu)
theorem qgq (T:Txt K mg a):FnOk P w K mg base CX0 1 a.dS a.fW ["self","at"] (qxu K "at"):=by
 refine T.kX.fn.ok qom (λvs H Q E h=>?_) (λcdv A outer s H vs Q E hr h=>?_)
 .obtain⟨_,_,_,_,rfl,_⟩:=h
  all_goals rfl
 .obtain⟨x,C,y,f,rfl,c,d,g,k⟩:=h;refine⟨_,(qj (zj (qga T.gI Z T.gJ (qh (pv 0) (qh (pv 1) qm qi) qi)))
   (qt (qh1 (pv 0) (pv 1) Z))),?_⟩
  refine(nmc Z (nmc Z ⟨x,C,none,[y],f,Z,c,d.xc,qad (show 1<=100000 by decide),?_⟩));refine(nmc Z (nmc Z ⟨x,C,true,Z,d.set g,.inl ⟨c,λdx hd=>?_⟩⟩));have ne:dx≠x:=λz=>by rw[z,c]at hd;cases hd
  exact k dx _ hd (λb o i e=>by rw[ze i,ze (qab e hd)];exact e) qu (by rw[ze ne];exact qu)
theorem qqm (T:Txt K mg a):FnOk P w K mg base (CX1 P w) 3 a.lR a.fV ["told","at","row"] (spTm a):=by
 refine okX T.bL.fn qeq (λvs H Q E h=>?_) (λcdv A outer s H vs Q E hr h=>?_)
 .obtain⟨_,_,_,_,_,_,_,_,_,_,_,_,rfl,_⟩:=h
  all_goals rfl
 .obtain⟨d,p,i,rs,D,x,w1,o,dd,y,m,u,rfl,st,l6,B,k,kx⟩:=h;refine⟨_,(qj (zg (i:=3) qeq.nd Z (A0 Z) (ja jc (pv 2) qp (λ_ _=>rfl)))
   (qj (zm (qjz (qy7 (qfb hr) (pv 3) (pv 0))) (qt (qc8 Z (Takes.at qbg) (qd2 T.dY.xc T.dW.ty (qo9 T) (hr.mono En) Z T.nV T.dY.kp T.dW.bd .nil qap (qh (pv 3) qm qi)))) qan)
   (qj (zg (i:=4) qeq.nd Z (A0 Z) (qdm (zf qbk (ja jc (pv 2) qp (λ_ _=>rfl)) zq (qah _)) (ja jc (pv 2) qp (λ_ _=>rfl)) qa8))
   (qj (zg (i:=5) qeq.nd Z (A0 Z) (qdm (zf qbk (ja jc (pv 2) qp (λ_ _=>rfl)) zq (qah _)) (ja jc (pv 2) qp (λ_ _=>rfl)) qa8))
   (qj (zg (i:=6) qeq.nd Z (A0 Z) (qms T.dQ (qhu T) (hr.mono En) Z T.bZ T.mW (dvs:=[.non]) (.cons Z .nil) qap (qh (pv 3) (qh (ja jc (pv 2) qp (λ_ _=>rfl)) (qh (ja jc (pv 2) qp (λ_ _=>rfl)) (qh (pv 4) (qh (pv 5) (qh (ja jc (pv 2) qp (λ_ _=>rfl)) (qh (ja jc (pv 2) qp (λ_ _=>rfl)) qm zx) zx) qi) qi) zx) zx) qi)))
   (qj (zm (PW.pt (qnp (zf qbk (zo qss (by rfl) T.kE qa5 (qh (pv 0) qm qi)) (qgr (v:=.int 6) Z T.nU.choose_spec ⟨_,Z⟩) (qah _)) (qmq (zf qbk (qak (pv 6) Z) (qak (pv 6) Z) (qah _))))) (qt (qc8 Z (Takes.at qbg) (qd2 T.kH.xc T.kX.ty (qgq T) (hr.mono En) Z T.dZ T.kH.kp T.kX.bd .nil qap (qh (pv 1) qm qi)))) qan)
   (qt (qmv (qfb hr) (pv 0) (pv 3) (pv 6) Z)))))))),?_⟩
  refine(nmc Z (lxo (B) Z ?_));cases pn:qaj rs x with
  |some j =>obtain⟨r,A,_,_,_,_,g⟩:=st.get pn;refine(nmc Z (nmc Z ⟨d,_,Z,g,(nmc Z (qdw ?_))⟩));exact(nmc Z ⟨qad (show 1<=100000 by decide),λt J=>⟨t,a.gH,_,_,Z,qu,T.dY,zd T.pV En,λN H9 f kp o1 n=>⟨Z,t,_,some N,Z,o1,⟨_,n⟩,T.pL,(kx _ (qos (by rw[pn];rfl))) t N _ (qag (((Same.refl H)).trans (qbb J kp)) (((Same.refl H)).free J)) qu ((ze (λz=>by rw[z,qu]at f;cases f)).trans n)⟩⟩⟩)
  |none =>
   refine(nmc Z (nmc Z ⟨d,_,Z,st.non pn,(nmc Z (qcr ?_))⟩));cases dd with
   |false =>
    refine(nmc Z (lxo (B) Z ⟨Z,(nmc Z (qe5 Z (nmc Z (lxo (B) Z ?_))))⟩));refine(nmc Z (lxo (B) Z ⟨Z,(nmc Z (qay Ek ?_))⟩));refine(nmc Z (nmc Z (lxo (B) Z (nmc Z (lxo (B) Z (nmc Z (nmc Z (nmc Z (lxo (B) Z (nmc Z (lxo (B) Z (λl dx nx nd ne=>?_))))))))))));refine⟨l,dx,_,_,_,_,_,_,_,_,Z,qu,λR G M pl I b1 ne1 ae ah ad F ak ac a0 ag af=>⟨Z,?_⟩⟩;have keep:Same H (upd (upd H dx (.own l)) l (.ins a.k7 dx [])):=λb u e=>by rw[ze (qab e nx),ze (qab e nd)];exact e
    have C:Same H R:=b1.made nx nd;have fe:=keep.free ne1;have fa:=keep.free ae;have fl:=keep.free ah;have fy:=keep.free ad;have f:=C _ _ st.hd;have lk:=qju st.ln;dsimp only[];refine(nmc Z ⟨d,_,Z,f,Z,(nmc Z (qdk (λc=>?_) (λc=>?_)))⟩)
    .have c:((dcR rs D).length:Int)=6:=V.int.inj (of_decide_eq_true c);exact(nmc Z ⟨qad (show 1<=100000 by decide),λt J=>⟨t,a.kK,_,_,Z,qu,T.kH,zd T.gE En,λN H9 f kp o1 n=>⟨Z,t,_,some N,Z,o1,⟨_,n⟩,T.gB,(kx _ (qic (d:=false) pn (.inl (by lia)))) t N _ (qag ((C).trans (qbb J kp)) ((C).free J)) qu ((ze (λz=>by rw[z,qu]at f;cases f)).trans n)⟩⟩⟩)
    have c6:rs.length≠6:=λz=>c (decide_eq_true (by rw[lk,z];rfl));refine(nmc Z (flc (F) (T.kA) (zd T.kC En) (rfl) (nmc Z (flc (F) (T.kA) (zd T.kC En) (rfl) ⟨Z,(nmc Z (qdk (λX=>?_) (λX=>?_)))⟩))))
    .have X:o=y:=V.str.inj (of_decide_eq_true X);exact(nmc Z ⟨qad (show 1<=100000 by decide),λt J=>⟨t,a.kK,_,_,Z,qu,T.kH,zd T.gE En,λN H9 f kp o1 n=>⟨Z,t,_,some N,Z,o1,⟨_,n⟩,T.gB,(kx _ (qic (d:=false) pn (.inr ⟨Z,X⟩))) t N _ (qag ((C).trans (qbb J kp)) ((C).free J)) qu ((ze (λz=>by rw[z,qu]at f;cases f)).trans n)⟩⟩⟩)
    have c7:¬(rs.length=6\/(false=false/\o=y)):=λz=>z.elim c6 λz=>X (decide_eq_true (by rw[z.2]));refine(nmc Z (nmc Z (nmc Z ⟨d,_,Z,DPut.k (k:=.inr x) f (by rw[Bd,lk];lia),?_⟩)));have ep:qfk (dcR rs D) (.inr x) (.ref l)=dcR rs D++[(.inr x,.ref l)]:=qj7 _ (by rw[qfo x st.ln,pn];rfl);rw[ep];have Y:KeepT [d] R (upd R d (.dK (dcR rs D++[(.inr x,.ref l)]))):=KeepT.put (Ao.mpr Z) f (λ_ z=>nomatch z);have ho:∀z∈own ⟨l,dx,G,M,pl,I⟩,H z=none:=λz hz=>by
     simp only[own,Ap,Av,or_false]at hz;rcases hz with rfl|rfl|rfl|rfl|rfl
     .exact nx
     .exact fe
     .exact fa
     .exact fl
     .exact fy
    have S:∀z∈d::D.flatMap own,H z≠none:=λz hz e=>by
     rcases Ap.mp hz with rfl|hz
     .rw[st.hd]at e;cases e
     .obtain⟨A',aa,W⟩:=B6.mp hz;obtain⟨jA,U⟩:=AA aa;have lj:jA<rs.length:=by rw[<- st.ln];exact(Ac.mp U).1
      obtain⟨v',am,L⟩:=st.ru jA _ A' (Ae lj) U;simp only[own,Ap,Av,or_false]at W;rcases W with rfl|rfl|rfl|rfl|rfl
      .rw[L.hx]at e;cases e
      .rw[L.he]at e;cases e
      .rw[L.ha]at e;cases e
      .rw[L.hl]at e;cases e
      .rw[L.hy]at e;cases e
    have nz:∀z∈own ⟨l,dx,G,M,pl,I⟩,z≠d:=λz hz e=>S d Ak (e ▸ ho z hz);have ux:RuX a.k7 R ⟨l,dx,G,M,pl,I⟩ (qm8 x w1 o false y m u):=⟨.non,[],F,Z,ak,ac,a0,.nil,ag⟩;refine k _ (qgl pn c7) _ (D++[⟨l,dx,G,M,pl,I⟩]) ((KeepT.of C).trans (Y.sub λz hz=>by rw[Ao.mp hz];exact Ak)) (λz hz=>?_) ((st.same C).snoc Y qu (ux.keep Y λz hz O=>nz z hz (Ao.mp O)) pn (show (own ⟨l,dx,G,M,pl,I⟩).Nodup from af) λz hz=>⟨nz z hz,λO=>S z (Aq _ O) (ho z hz)⟩);rw[AL]at hz;rcases A9.mp hz with q|q
    .exact .inl q
    .exact .inr (ho z (by simpa using q))
   |true =>
    refine(nmc Z (lxo (B) Z ⟨Z,(nmc Z (qay Ek ?_))⟩));refine(nmc Z (lxo (B) Z ⟨Z,(nmc Z (qe5 Z (nmc Z (lxo (B) Z ?_))))⟩));refine(nmc Z (nmc Z (lxo (B) Z (nmc Z (lxo (B) Z (nmc Z (nmc Z (nmc Z (lxo (B) Z (nmc Z (lxo (B) Z (λl dx nx nd ne=>?_))))))))))));refine⟨l,dx,_,_,_,_,_,_,_,_,Z,qu,λR G M pl I b1 ne1 ae ah ad F ak ac a0 ag af=>⟨Z,?_⟩⟩;have keep:Same H (upd (upd H dx (.own l)) l (.ins a.k7 dx [])):=λb u e=>by rw[ze (qab e nx),ze (qab e nd)];exact e
    have C:Same H R:=b1.made nx nd;have fe:=keep.free ne1;have fa:=keep.free ae;have fl:=keep.free ah;have fy:=keep.free ad;have f:=C _ _ st.hd;have lk:=qju st.ln;dsimp only[];refine(nmc Z ⟨d,_,Z,f,Z,(nmc Z (qdk (λc=>?_) (λc=>?_)))⟩)
    .have c:((dcR rs D).length:Int)=6:=V.int.inj (of_decide_eq_true c);exact(nmc Z ⟨qad (show 1<=100000 by decide),λt J=>⟨t,a.kK,_,_,Z,qu,T.kH,zd T.gE En,λN H9 f kp o1 n=>⟨Z,t,_,some N,Z,o1,⟨_,n⟩,T.gB,(kx _ (qic (d:=true) pn (.inl (by lia)))) t N _ (qag ((C).trans (qbb J kp)) ((C).free J)) qu ((ze (λz=>by rw[z,qu]at f;cases f)).trans n)⟩⟩⟩)
    have c6:rs.length≠6:=λz=>c (decide_eq_true (by rw[lk,z];rfl));refine(nmc Z (flc (F) (T.kA) (zd T.kC En) (rfl) (nmc Z (flc (F) (T.kA) (zd T.kC En) (rfl) ⟨Z,(nmc Z (qdk (λX=>?_) (λX=>?_)))⟩))))
    .exact nomatch of_decide_eq_true X
    have c7:¬(rs.length=6\/(true=false/\o=y)):=λz=>z.elim c6 λz=>nomatch z.1;refine(nmc Z (nmc Z (nmc Z ⟨d,_,Z,DPut.k (k:=.inr x) f (by rw[Bd,lk];lia),?_⟩)));have ep:qfk (dcR rs D) (.inr x) (.ref l)=dcR rs D++[(.inr x,.ref l)]:=qj7 _ (by rw[qfo x st.ln,pn];rfl);rw[ep];have Y:KeepT [d] R (upd R d (.dK (dcR rs D++[(.inr x,.ref l)]))):=KeepT.put (Ao.mpr Z) f (λ_ z=>nomatch z);have ho:∀z∈own ⟨l,dx,G,M,pl,I⟩,H z=none:=λz hz=>by
     simp only[own,Ap,Av,or_false]at hz;rcases hz with rfl|rfl|rfl|rfl|rfl
     .exact nx
     .exact fe
     .exact fa
     .exact fl
     .exact fy
    have S:∀z∈d::D.flatMap own,H z≠none:=λz hz e=>by
     rcases Ap.mp hz with rfl|hz
     .rw[st.hd]at e;cases e
     .obtain⟨A',aa,W⟩:=B6.mp hz;obtain⟨jA,U⟩:=AA aa;have lj:jA<rs.length:=by rw[<- st.ln];exact(Ac.mp U).1
      obtain⟨v',am,L⟩:=st.ru jA _ A' (Ae lj) U;simp only[own,Ap,Av,or_false]at W;rcases W with rfl|rfl|rfl|rfl|rfl
      .rw[L.hx]at e;cases e
      .rw[L.he]at e;cases e
      .rw[L.ha]at e;cases e
      .rw[L.hl]at e;cases e
      .rw[L.hy]at e;cases e
    have nz:∀z∈own ⟨l,dx,G,M,pl,I⟩,z≠d:=λz hz e=>S d Ak (e ▸ ho z hz);have ux:RuX a.k7 R ⟨l,dx,G,M,pl,I⟩ (qm8 x w1 o true y m u):=⟨.non,[],F,Z,ak,ac,a0,.nil,ag⟩;refine k _ (qgl pn c7) _ (D++[⟨l,dx,G,M,pl,I⟩]) ((KeepT.of C).trans (Y.sub λz hz=>by rw[Ao.mp hz];exact Ak)) (λz hz=>?_) ((st.same C).snoc Y qu (ux.keep Y λz hz O=>nz z hz (Ao.mp O)) pn (show (own ⟨l,dx,G,M,pl,I⟩).Nodup from af) λz hz=>⟨nz z hz,λO=>S z (Aq _ O) (ho z hz)⟩);rw[AL]at hz;rcases A9.mp hz with q|q
    .exact .inl q
    .exact .inr (ho z (by simpa using q))
theorem qed (T:Txt K mg a):FnOk P w K mg base CX0 1 a.dA a.nB ["self","name"] (qxu K "name"):=by
 refine T.kQ.fn.ok qm2 (λvs H Q E h=>?_) (λcdv A outer s H vs Q E hr h=>?_)
 .obtain⟨_,_,_,_,rfl,_⟩:=h
  all_goals rfl
 .obtain⟨x,C,y,f,rfl,c,d,g,k⟩:=h;refine⟨_,(qj (zj (qga T.gI Z T.gJ (qh (pv 0) (qh (pv 1) qm qi) qi)))
   (qt (qh1 (pv 0) (pv 1) Z))),?_⟩
  refine(nmc Z (nmc Z ⟨x,C,none,[y],f,Z,c,d.xc,qad (show 1<=100000 by decide),?_⟩));refine(nmc Z (nmc Z ⟨x,C,true,Z,d.set g,.inl ⟨c,λdx hd=>?_⟩⟩));have ne:dx≠x:=λz=>by rw[z,c]at hd;cases hd
  exact k dx _ hd (λb o i e=>by rw[ze i,ze (qab e hd)];exact e) qu (by rw[ze ne];exact qu)
theorem qld (T:Txt K mg a):FnOk P w K mg base CX0 1 a.dU a.lI ["self"] (spAk a):=by
 refine T.fY.fn.ok qgh (λvs H Q E h=>?_) (λcdv A outer s H vs Q E hr h=>?_)
 .obtain⟨_,_,rfl,_⟩:=h
  all_goals rfl
 .obtain⟨A,r,rfl,ru,l1,l2,l3,k⟩:=h;refine⟨_,(qj (zg (i:=1) qgh.nd Z (A0 Z) (zh qci (zh qci (zh qci (zr (qh (qak (pv 0) Z) qm qb6)) (qak (pv 0) Z)) (qak (pv 0) Z)) (qd1 (N:=["row"]) (js:=[none]) (XN:=["self","kinds"]) (xs:=qaa qd3) Z Z Z Ek (qbd (qak (pv 0) Z)) (λ_ _ _ _ _ _=>(qam (i:=0) (show B5 (["row"]:List Str) from by decide +kernel) Z (A0 Z) (Cj Z))) (λ_ _ _ _ _ _=>qb4) (λ_ _ _ _ _ _=>(ja (qw8 (K:=K) Z) (pv 0) qp (λ_ _=>rfl))))))
   (qj (zm (zf qdn (qak (pv 0) Z) qa8 (qah _)) (qt (zj (qbv A7 AY AZ qbh (pv 1) (qh (qak (pv 0) Z) qm qb6)))) qan)
   (qj (zm (zf qdn (qak (pv 0) Z) qa8 (qah _)) (qt (zj (qbv A7 Ck Cm qpx (pv 1) (qh (qak (pv 0) Z) qm qb6)))) qan)
   (qt (zc (pv 1)))))),?_⟩
  obtain⟨v,us,u,hs,he,ha,hl,tl,hy⟩:=ru;have lu:us.length=r.longer.length:=by rw[tl.length,Ab]
  refine(nmc Z (flc (u) (T.kA) (zd T.kC En) (rfl) ⟨qad (show 1<=100000 by decide),λq1 n1=>?_⟩));obtain⟨I,e1⟩:=alc (o:=.lst [V.str r.owes]) n1;generalize upd H q1 _=H1 at I e1 |-;refine(nmc Z (flc (I _ _ u) (T.kA) (zd T.kC En) (rfl) ⟨_,_,_,_,Z,Z,e1,I _ _ he,qad (by rw[Ab];show 1+_<=_;lia),λq2 n2=>?_⟩));obtain⟨s2,e2⟩:=alc (o:=.lst ([V.str r.owes]++r.ends.map V.str)) n2;generalize upd H1 q2 _=H2 at s2 e2 |-;have C:=I.trans s2;refine(nmc Z (flc (C _ _ u) (T.kA) (zd T.kC En) (rfl) ⟨_,_,_,_,Z,Z,e2,C _ _ ha,qad (by rw[Ai,Ab,Ab];show 1+_+_<=_;lia),λq3 n3=>?_⟩));obtain⟨s3,e3⟩:=alc (o:=.lst ([V.str r.owes]++r.ends.map V.str++r.anew.map V.str)) n3;generalize upd H2 q3 _=H3 at s3 e3 |-;have d:=C.trans s3;have U:=tl.same d;refine(nmc Z (flc (d _ _ u) (T.kA) (zd T.kC En) (rfl) ⟨_,Z,⟨_,SqL.of (d _ _ hl)⟩,?_⟩));let f:V->V:=λv=>match v with
   |.ref b=>match H3 b with
    |some (.tup [.str y,.int _,.int _])=>.str y
    |_=>.non
   |_=>.non
  refine qb0 f (λσ'=>∃v,σ'=[v]) (qbn (K:=K) (SqL.of (d _ _ hl))) (qad (by lia)) ⟨none,Z⟩ (λv σ' H' RR' hv sm s4 q=>?_) qb5 λp5 aa=>?_
  .obtain⟨v0,rfl⟩:=s4;obtain⟨j,hj⟩:=AA hv;obtain⟨b,t,rfl,e,J⟩:=U.get' hj;rw[Af]at e;cases x:r.longer[j]? with
   |none=>rw[x]at e;cases e
   |some rr =>
    rw[x]at e;cases e;have ef:f (.ref b)=.str rr.1:=by show (match H3 b with|some (.tup [.str y,.int _,.int _])=>V.str y|_=>.non)=_;rw[J];rfl
    have q:=q [some (.ref b)] ⟨_,Z⟩;rw[ef]at q;exact(nmc Z (txo (sm _ _ J) Z q))
  have em:us.map f=(r.longer.map (·.1)).map V.str:=by
   refine B0 λj=>?_;rw[Af,Af,Af];cases x:r.longer[j]? with
   |none=>rw[B4 (by rw[lu];exact BG.mp x)];rfl
   |some rr =>obtain⟨b,e,J⟩:=U.get (i:=j) (r:=qop rr) (by rw[Af,x];rfl);rw[e];show some (match H3 b with|some (.tup [.str y,.int _,.int _])=>V.str y|_=>.non)=_;rw[J];rfl
  rw[em];obtain⟨s5,e5⟩:=alc (o:=.lst ((r.longer.map (·.1)).map V.str)) aa;generalize upd H3 p5 _=H5 at s5 e5 |-;refine⟨_,_,_,_,Z,Z,s5 _ _ e3,e5,qad (by simp only[Ai,Ab,Am,Bf];lia),λq n6=>?_⟩;have eb:([V.str r.owes]++r.ends.map V.str++r.anew.map V.str)++(r.longer.map (·.1)).map V.str=([r.owes]++r.ends++r.anew++r.longer.map (·.1)).map V.str:=by simp only[Ar,At,BE]
  rw[eb];generalize eB:[r.owes]++r.ends++r.anew++r.longer.map (·.1)=B;have lB:B.length<=4000:=by rw[<- eB];simp only[Ai,Ab,Am,Bf];lia
  have ek:qau r=B++r.opens.toList++stL r.still:=by unfold qau;rw[eB]
  have W:=d.trans s5;obtain⟨s6,M⟩:=alc (o:=.lst (B.map V.str)) n6;generalize upd H5 q _=H6 at s6 M |-;have m:=W.trans s6;have L:=W.free n6;have D:=m _ _ u;have hs6:=hs.same m;have ho:r.opens=none \/ ∃o,r.opens=some o:=by
   cases r.opens with|none=>exact .inl rfl|some o=>exact .inr ⟨o,Z⟩
  apply useH (p:=λ(R:Hp)=>∃c:List Str,Same H R/\c.length<=4001/\R q=some (.lst (c.map V.str))/\qau r=c++stL r.still)
  .intro X;refine ho.elim (λg=>?_) (λg=>?_)
   .refine(nmc Z (flc (D) (T.kA) (zd T.kC En) (rfl) ⟨Z,(nmc Z (qew (by rw[g];rfl) ?_))⟩));have G:∃c:List Str,Same H H6/\c.length<=4001/\H6 q=some (.lst (c.map V.str))/\qau r=c++stL r.still:=⟨B,m,by lia,M,by rw[ek,g];simp⟩;generalize H6=W6 at G |-;exact X W6 G
   .obtain⟨o,g⟩:=g;have S:qdl r.opens=.str o:=by rw[g];rfl
    refine(nmc Z (flc (D) (T.kA) (zd T.kC En) (rfl) ⟨Z,(nmc Z (qfc (λz=>by rw[S]at z;cases z) ?_))⟩));refine(nmc Z ⟨.inl ⟨Z,_,SqL.of M⟩,(nmc Z (flc (D) (T.kA) (zd T.kC En) (rfl) ⟨_,_,_,Z,Z,M,qc0 (by rw[Ab];lia),?_⟩))⟩);have G:∃c:List Str,Same H (upd H6 q (.lst (B.map V.str++[qdl r.opens])))/\c.length<=4001/\upd H6 q (.lst (B.map V.str++[qdl r.opens])) q=some (.lst (c.map V.str))/\qau r=c++stL r.still:=⟨B++[o],qag m L,by rw[Ai];show _+1<=_;lia,by rw[qu,Ar,S];rfl,by rw[ek,g];rfl⟩;exact X _ G
  .rintro R ⟨c,O,l7,Y,l⟩;have F:=O _ _ u;have n:=hs.same O;cases es:r.still with
   |none =>rw[es]at n l;cases n;refine(nmc Z (flc (F) (T.kA) (zd T.kC En) (rfl) ⟨Z,(nmc Z (qew Z (nmc Z (k q R L O (by rw[l,Y];simp[stL])))))⟩))
   |some sv =>rw[es]at n l;obtain⟨ps,rfl,a0⟩:=n;refine(nmc Z (flc (F) (T.kA) (zd T.kC En) (rfl) ⟨Z,(nmc Z (qfc (λz=>nomatch z) ?_))⟩));refine(nmc Z ⟨.inl ⟨Z,_,SqL.of Y⟩,(nmc Z (flc (F) (T.kA) (zd T.kC En) (rfl) ⟨_,_,_,_,Z,Z,Y,SqT.of a0,qad (by rw[Ab];show _+2<=_;lia),?_⟩))⟩);exact(nmc Z (k q _ L (qag O L) (by rw[qu,l,Ar];rfl)))
theorem qtn (T:Txt K mg a):FnOk P w K mg base CX0 1 a.mG a.fF ["row"] spKi:=by
 refine T.gT.fn.ok qs2 (λvs H Q E h=>?_) (λcdv A outer s H vs Q E hr h=>?_)
 .obtain⟨_,_,rfl,_⟩:=h
  all_goals rfl
 .obtain⟨p,d,rfl,c,e,k⟩:=h;refine⟨_,(qj (zm (zf qbk (ja jc (pv 0) qp (λ_ _=>rfl)) zq (qah _)) (qt (zc (zr qm))) qan)
   (qt (zc (qdm (zf qbk (ja jc (pv 0) qp (λ_ _=>rfl)) zq (qah _)) (qba qb9 (pv 0) (qa7 qp) (qa7 qp)) (qba qb9 (pv 0) (qa7 qp) (qa7 qp)))))),?_⟩
  cases d with|term=>cases e|ends x k =>refine(nmc Z (lxo (c) Z ⟨Z,(nmc Z (qay Ek ?_))⟩));refine(nmc Z (lxo (c) Z ⟨Z,(nmc Z (qay Ek (nmc Z ⟨_,Z,_,Z,_,_,Z,SqL.of c,λq b=>?_⟩)))⟩));exact k q _ b (zi b) qu|anew x k =>refine(nmc Z (lxo (c) Z ⟨Z,(nmc Z (qay Ek ?_))⟩));refine(nmc Z (lxo (c) Z ⟨Z,(nmc Z (qay Ek (nmc Z ⟨_,Z,_,Z,_,_,Z,SqL.of c,λq b=>?_⟩)))⟩));exact k q _ b (zi b) qu|longer x k u t =>refine(nmc Z (lxo (c) Z ⟨Z,(nmc Z (qay Ek ?_))⟩));refine(nmc Z (lxo (c) Z ⟨Z,(nmc Z (qay Ek (nmc Z ⟨_,Z,_,Z,_,_,Z,SqL.of c,λq b=>?_⟩)))⟩));exact k q _ b (zi b) qu|still x k l =>refine(nmc Z (lxo (c) Z ⟨Z,(nmc Z (qay Ek ?_))⟩));refine(nmc Z (lxo (c) Z ⟨Z,(nmc Z (qe5 Z (nmc Z ⟨_,Z,_,Z,_,_,Z,SqL.of c,λq b=>?_⟩)))⟩));exact k q _ b (zi b) qu|yields x y =>refine(nmc Z (lxo (c) Z ⟨Z,(nmc Z (qe5 Z ⟨qdg,λq b=>k q _ b (zi b) qu⟩))⟩))
theorem qto (T:Txt K mg a):FnOk P w K mg base CX0 2 a.mE a.lY ["rule","row"] (spUf a):=by
 refine T.bH.fn.ok qmc (λvs H Q E h=>?_) (λcdv A outer s H vs Q E M h=>?_)
 .obtain⟨_,_,_,_,rfl,_⟩:=h
  all_goals rfl
 .obtain⟨A,r,p,f,rfl,B,l1,l2,l3,R,U,k⟩:=h;refine⟨_,(qj (zg (i:=2) qmc.nd Z (Cj Z) (qns (pv 0) T.kA T.pF (qld T) (M.mono En) T.fY.bd .nil qap))
   (qj (zm (zp (zo (qsl Z) (by rfl) T.pB qu9 (qh (qd1 (N:=["kind","taken"]) (js:=[none,some 2]) (XN:=["rule","row","taken"]) (xs:=qaa qh3) Z Z Z Ek (qbd (zn (qtn T) (M.mono En) Z T.gT.mgx T.gT.fn.kp T.gT.bd .nil qap (qh (pv 1) qm qi))) (λ_ _ _ _ _ _=>(qam (i:=0) (show B5 (["kind","taken"]:List Str) from by decide +kernel) Z (A0 Z) (Cj Z))) (λ_ _ _ _ _ _=>qb4) (λ_ _ _ _ _ _=>(qb3 (qpt (K:=K) Z) (pv 0) (pv 1) (by with_unfolding_all rfl)))) qm qh0))) (qt (zc qjy)) qan)
   (qj (zm (zf qbk (ja jc (pv 1) qp (λ_ _=>rfl)) zq (qah _)) (qt (zc (qyc (qb3 qdn (qak (pv 0) Z) qa8 (qah _)) (qhb (qb3 qbk (ja jc (pv 1) qp (λ_ _=>rfl)) (ja jc (pv 1) qp (λ_ _=>rfl)) (qah _)))))) qan)
   (qt (zc (qez (qb3 qbk (ja jc (pv 1) qp (λ_ _=>rfl)) zq (qah _)) (qhb (qb3 qbk (zo qa9 (by rfl) T.kE qa5 (qh (qak (pv 0) Z) qm qb6)) (qgr (v:=.int 2) Z T.pX.choose_spec ⟨_,Z⟩) (qah _))))))))),?_⟩
  have O:=B;obtain⟨v,us,X,hs,he,ha,hl,tl,hy⟩:=B;refine(nmc Z ⟨A.p,A.dx,_,Z,X,Z,A,r,Z,O,l1,l2,l3,λq H1 nq D e1=>?_⟩);have kl:=qxx r;refine(nmc Z ⟨p,f,Z,D _ _ R,U,λq2 H2 n2 L I=>?_⟩);have G:=D.trans L;refine⟨_,Z,⟨_,SqL.of I⟩,?_⟩;have Y:=L _ _ e1;have lk:(kin f).length<=2:=by cases f <;>simp[kin]
  refine qb0 (λv=>match v with | .str y=>.bl ((qau r).contains y)|_=>.non) (λσ'=>∃v,σ'=[v,some (.ref q)]) (qbn (K:=K) (SqL.of I)) (qad (by rw[Ab];lia)) ⟨none,Z⟩ (λv σ' H' RR' hv sm s4 l=>?_) qb5 λW c=>?_
  .obtain⟨v0,rfl⟩:=s4;obtain⟨y,_,rfl⟩:=A8.mp hv;have l:=l [some (.str y),some (.ref q)] ⟨_,Z⟩;dsimp only at l;refine(nmc Z (nmc Z ⟨_,_,Z,.inl (SqL.of (sm _ _ Y)),Z,qfe _,?_⟩));rw[<- qfd]at l;exact l
  have em:((kin f).map V.str).map (λv=>match v with | .str y=>V.bl ((qau r).contains y)|_=>.non)=((kin f).map λy=>(qau r).contains y).map V.bl:=by rw[AM,AM];rfl
  rw[em];obtain⟨J,S⟩:=alc (o:=.lst (((kin f).map λy=>(qau r).contains y).map V.bl)) c;generalize upd H2 W _=H5 at J S |-;have g:=G.trans J;refine⟨W,_,Z,SqL.of S,(nmc Z ?_)⟩;have c:=g _ _ R;have m:=g _ _ X;have j:=hs.same g;have F:=g _ _ hl;have lu:us.length=r.longer.length:=by rw[tl.length,Ab]
  have d:=k H5 g;unfold qho at d;rw[<- any_map]at d;cases C:(((kin f).map λy=>(qau r).contains y).any λb=>b) with
  |true =>rw[C,Bool.true_or]at d;exact qdw d
  |false =>
   rw[C,Bool.false_or]at d;refine qcr ?_;cases f with
   |term=>cases U
   |ends x k'=>exact(nmc Z (lxo (c) Z ⟨Z,(nmc Z (qay Ek (nmc Z (lxo (c) Z ⟨Z,(nmc Z (qay Ek d))⟩))))⟩))
   |anew x k'=>exact(nmc Z (lxo (c) Z ⟨Z,(nmc Z (qay Ek (nmc Z (lxo (c) Z ⟨Z,(nmc Z (qay Ek d))⟩))))⟩))
   |yields x k'=>exact(nmc Z (lxo (c) Z ⟨Z,(nmc Z (qay Ek (nmc Z (lxo (c) Z ⟨Z,(nmc Z (qay Ek d))⟩))))⟩))
   |longer x k' u t =>refine(nmc Z (lxo (c) Z ⟨Z,(nmc Z (qay Ek (nmc Z (lxo (c) Z ⟨Z,(nmc Z (qe5 Z (nmc Z (flc (m) (T.kA) (zd T.kC En) (rfl) ⟨_,_,Z,.inl ⟨_,SqL.of F,Z⟩,Z,?_⟩))))⟩))))⟩));show Q (.bl (decide (V.int (us.length:Int)=V.int 2))) H5;have e:decide (V.int (us.length:Int)=V.int 2)=decide (r.longer.length=2):=decide_eq_decide.mpr ⟨λz=>by have:=V.int.inj z;lia,λz=>by rw[lu,z];rfl⟩;rw[e];exact d
   |still x k' l' =>
    refine(nmc Z (lxo (c) Z ⟨Z,(nmc Z (qe5 Z ?_))⟩));cases n:r.still with
    |some sv =>rw[n]at j;obtain⟨ps,rfl,hps⟩:=j;refine(nmc Z (flc (m) (T.kA) (zd T.kC En) (rfl) ⟨Z,(nmc Z (qfc (λz=>nomatch z) ?_))⟩));unfold unfX at d;rw[n]at d;exact d
    |none =>rw[n]at j;cases j;refine(nmc Z (flc (m) (T.kA) (zd T.kC En) (rfl) ⟨Z,(nmc Z (qew Z (nmc Z (lxo (c) Z (nmc Z (lxo (c) Z ⟨Z,?_⟩))))))⟩));unfold unfX at d;rw[n]at d;have e:decide (V.str k'=V.str l')=decide (k'=l'):=decide_eq_decide.mpr ⟨λz=>V.str.inj z,λz=>by rw[z]⟩;show Q (.bl (decide (V.str k'=V.str l'))) H5;rw[e];exact d
theorem qqn (T:Txt K mg a):FnOk P w K mg base (CX1 P w) 3 a.lH a.mY ["rule","at","row"] (spMo a):=by
 refine okX T.bO.fn qp6 (λvs H Q E h=>?_) (λcdv A outer s H vs Q E W h=>?_)
 .obtain⟨_,_,_,_,_,rfl,_⟩:=h
  all_goals rfl
 .obtain⟨A,r,i,p,q,rfl,ru,R,l1,l2,l3,b,nt,k,kx⟩:=h;refine⟨_,(qj (zm (zp (zn (qto T) (W.mono En) Z T.bH.mgx T.bH.fn.kp T.bH.bd .nil qap (qh (pv 0) (qh (pv 2) qm qi) qi))) (qt (qc8 Z (Takes.at qbg) (qd2 T.kH.xc T.kX.ty (qgq T) (W.mono En) Z T.dZ T.kH.kp T.kX.bd .nil qap (qh (pv 1) qm qi)))) qan)
   (qt (zm (zf qbk (ja jc (pv 2) qp (λ_ _=>rfl)) zq (qah _)) (qt (zj (qbv A7 AY AZ qbh (qak (pv 0) Z) (qh (ja jc (pv 2) qp (λ_ _=>rfl)) qm zx)))) (qt (zm (zf qbk (ja jc (pv 2) qp (λ_ _=>rfl)) zq (qah _)) (qt (zj (qbv A7 AY AZ qbh (qak (pv 0) Z) (qh (ja jc (pv 2) qp (λ_ _=>rfl)) qm zx)))) (qt (zm (zf qbk (ja jc (pv 2) qp (λ_ _=>rfl)) zq (qah _)) (qt (zj (qbv A7 AY AZ qbh (qak (pv 0) Z) (qh (zt (qh (ja jc (pv 2) qp (λ_ _=>rfl)) (qh (ja jc (pv 2) qp (λ_ _=>rfl)) (qh (ja jc (pv 2) qp (λ_ _=>rfl)) qm zx) zx) zx)) qm zy)))) (qt (zm (zf qbk (ja jc (pv 2) qp (λ_ _=>rfl)) zq (qah _)) (qt (qdc (pv 0) (zt (qh (ja jc (pv 2) qp (λ_ _=>rfl)) (qh (ja jc (pv 2) qp (λ_ _=>rfl)) qm zx) zx)) Z)) qan))))))))),?_⟩
  have y:=ru;refine(nmc Z (nmc Z ⟨A,r,p,q,Z,y,l1,l2,l3,b,nt,λH1 g=>(nmc Z ?_)⟩));cases l:qho r q with
  |true=>exact qdw (nmc Z ⟨qad (show 1<=100000 by decide),λM n1=>⟨M,a.kK,_,_,Z,qu,T.kH,zd T.gE En,λB H9 L kp o1 G=>⟨Z,M,_,some B,Z,o1,⟨_,G⟩,T.gB,kx l M B _ (qag ((g).trans (qbb n1 kp)) ((g).free n1)) qu ((ze (λz=>by rw[z,qu]at L;cases L)).trans G)⟩⟩⟩)
  |false =>
   refine qcr ?_;obtain⟨v,us,f,hs,m,j,hl,C,F⟩:=y.same g;have b:=g _ _ b;have ks:=KeepT.of (S:=own A) g;have lu:us.length=r.longer.length:=by rw[C.length,Ab]
   simp only[own,AK,Ap,Av,or_false,not_or]at R;obtain⟨⟨B,X,d3,d4⟩,⟨d5,U,d7⟩,⟨O,d9⟩,Y,_⟩:=R;cases q with
   |term=>cases nt
   |ends x k' =>refine(nmc Z (lxo (b) Z ⟨Z,(nmc Z (qe5 Z (nmc Z (flc (f) (T.kA) (zd T.kC En) (rfl) ⟨.inl ⟨Z,_,SqL.of m⟩,(nmc Z (lxo (b) Z ⟨_,_,_,Z,Z,m,qc0 (by rw[Ab];lia),?_⟩))⟩))))⟩));have d:=KeepT.put (o':=.lst (r.ends.map V.str++[V.str k'])) (show A.pe∈own A by simp[own]) m (λ_ z=>nomatch z);exact k l _ (ks.trans d) ⟨v,us,(ze B).trans f,hs.keep d,by rw[qu];show _=some (HO.lst ((r.ends++[k']).map V.str));rw[Ar];rfl,(ze (Bc d5)).trans j,(ze (Bc U)).trans hl,qbt C d,(ze (Bc d7)).trans F⟩
   |anew x k' =>refine(nmc Z (lxo (b) Z ⟨Z,(nmc Z (qay Ek (nmc Z (lxo (b) Z ⟨Z,(nmc Z (qe5 Z (nmc Z (flc (f) (T.kA) (zd T.kC En) (rfl) ⟨.inl ⟨Z,_,SqL.of j⟩,(nmc Z (lxo (b) Z ⟨_,_,_,Z,Z,j,qc0 (by rw[Ab];lia),?_⟩))⟩))))⟩))))⟩));have d:=KeepT.put (o':=.lst (r.anew.map V.str++[V.str k'])) (show A.pa∈own A by simp[own]) j (λ_ z=>nomatch z);exact k l _ (ks.trans d) ⟨v,us,(ze X).trans f,hs.keep d,(ze d5).trans m,by rw[qu];show _=some (HO.lst ((r.anew++[k']).map V.str));rw[Ar];rfl,(ze (Bc O)).trans hl,qbt C d,(ze (Bc d9)).trans F⟩
   |longer x k' u t =>refine(nmc Z (lxo (b) Z ⟨Z,(nmc Z (qay Ek (nmc Z (lxo (b) Z ⟨Z,(nmc Z (qay Ek (nmc Z (lxo (b) Z ⟨Z,(nmc Z (qe5 Z (nmc Z (flc (f) (T.kA) (zd T.kC En) (rfl) ⟨.inl ⟨Z,_,SqL.of hl⟩,(nmc Z (lxo (b) Z (nmc Z (lxo (b) Z (nmc Z (lxo (b) Z ⟨qxl _ _ _,λe N=>?_⟩))))))⟩))))⟩))))⟩))))⟩));obtain⟨c,n⟩:=alc (o:=.tup [V.str k',V.int u,V.int t]) N;generalize upd H1 e _=H2 at c n |-;have I:=c _ _ hl;refine⟨_,_,_,Z,Z,I,qc0 (by lia),?_⟩;have d:=KeepT.put (o':=.lst (us++[V.ref e])) (show A.pl∈own A by simp[own]) I (λ_ z=>nomatch z);have D:=KeepT.of (S:=own A) c;refine k l _ (ks.trans (D.trans d)) ⟨v,us++[.ref e],(ze d3).trans (c _ _ f),hs.keep (D.trans d),(ze U).trans (c _ _ m),(ze O).trans (c _ _ j),qu,?_,(ze (Bc Y)).trans (c _ _ F)⟩;show Tups _ _ ((r.longer++[(k',u,t)]).map qop);rw[Ar];exact qbt ((C.same c).snoc n) d
   |still x k' l' =>refine(nmc Z (lxo (b) Z ⟨Z,(nmc Z (qay Ek (nmc Z (lxo (b) Z ⟨Z,(nmc Z (qay Ek (nmc Z (lxo (b) Z ⟨Z,(nmc Z (qay Ek (nmc Z (lxo (b) Z ⟨Z,(nmc Z (qe5 Z (nmc Z (lxo (b) Z (nmc Z (lxo (b) Z ⟨fit2 _ _,λe N=>?_⟩))))))⟩))))⟩))))⟩))))⟩));obtain⟨c,n⟩:=alc (o:=.tup [V.str k',V.str l']) N;generalize upd H1 e _=H2 at c n |-;have J:=c _ _ f;refine(nmc Z ⟨_,_,_,_,Z,J,T.kA,zd T.kC En,(show 12<1000 by decide),?_⟩);rw[show qcw (Aa "still") (.ref e) (rlR A r v)=rlR A (qa4 r (.still x k' l')) (.ref e) by with_unfolding_all rfl];have d:=KeepT.put (o':=.ins a.k7 A.dx (rlR A (qa4 r (.still x k' l')) (.ref e))) (show A.p∈own A by simp[own]) J (λ_ z=>nomatch z);have D:=KeepT.of (S:=own A) c;exact k l _ (ks.trans (D.trans d)) ⟨.ref e,us,qu,⟨e,Z,d _ _ (.inr ⟨_,Z⟩) n⟩,(ze (Bc B)).trans (c _ _ m),(ze (Bc X)).trans (c _ _ j),(ze (Bc d3)).trans (c _ _ hl),qbt (C.same c) d,(ze (Bc d4)).trans (c _ _ F)⟩
   |yields x k' =>exact(nmc Z (lxo (b) Z ⟨Z,(nmc Z (qay Ek (nmc Z (lxo (b) Z ⟨Z,(nmc Z (qay Ek (nmc Z (lxo (b) Z ⟨Z,(nmc Z (qay Ek (nmc Z (lxo (b) Z ⟨Z,(nmc Z (qay Ek (k l _ ks (y.same g))))⟩))))⟩))))⟩))))⟩))
theorem qtp (T:Txt K mg a):FnOk P w K mg base (CX1 P w) 4 a.fE a.mQ ["told","at","row"] (spRo a):=by
 refine okX T.bE.fn qs3 (λvs H Q E h=>?_) (λcdv A outer s H vs Q E l h=>?_)
 .obtain⟨_,_,_,_,_,_,rfl,_⟩:=h
  all_goals rfl
 .obtain⟨d,p,i,rs,M,b,rfl,st,S,bn,e,k,q⟩:=h;refine⟨_,(qt (zm (zf qbk (ja jc (pv 2) qp (λ_ _=>rfl)) zq (qah _)) (qt (zj (qen (qqm T) (l.mono En) Z T.bL.mgx T.bL.fn.kp T.bL.bd .nil (Takes.at qbg) (qh (pv 0) (qh (pv 1) (qh (pv 2) qm qi) qi) qi)))) (qt (zm (qjz (qgu (qfb l) (ja jc (pv 2) qp (λ_ _=>rfl)) (pv 0))) (qt (qc8 Z (Takes.at qbg) (qd2 T.kM.xc T.kQ.ty (qed T) (l.mono En) Z T.gU T.kM.kp T.kQ.bd .nil qap (qh (ja jc (pv 2) qp (λ_ _=>rfl)) qm zx)))) (qt (zj (qen (qqn T) (l.mono En) Z T.bO.mgx T.bO.fn.kp T.bO.bd .nil (Takes.at qbg) (qh (qhz (qfb l) (pv 0) (ja jc (pv 2) qp (λ_ _=>rfl)) (λ_ _=>rfl)) (qh (pv 1) (qh (pv 2) qm qi) qi) zx)))))))),?_⟩;cases c:isT b with
  |true =>
   cases b with|term x w1 o dd y m u=>exact(nmc Z (lxo (e) Z ⟨Z,(nmc Z (qe5 Z (nmc Z (nmc Z (nmc Z ⟨d,p,i,rs,M,x,w1,o,dd,y,m,u,Z,st,S,e,k,q⟩)))))⟩))|ends=>cases c|anew=>cases c|longer=>cases c|still=>cases c|yields=>cases c
  |false =>
   have C:∃z,atI (qcs b) 0=some (.str z)/\z≠wS "term" := by
    cases b with|term=>cases c|ends=>exact⟨_,Z,Ek⟩|anew=>exact⟨_,Z,Ek⟩|longer=>exact⟨_,Z,Ek⟩|still=>exact⟨_,Z,Ek⟩|yields=>exact⟨_,Z,Ek⟩
   have n:atI (qcs b) 1=some (.str (qar b)):=by cases b <;>rfl
   obtain⟨z0,C,J⟩:=C;rw[qg1 c]at k q;refine(nmc Z (lxo (e) C ⟨Z,(nmc Z (qay (λz=>J (V.str.inj z)) ?_))⟩));cases pn:qaj rs (qar b) with
   |none =>refine(nmc Z (lxo (e) n (nmc Z ⟨d,_,Z,st.non pn,(nmc Z (qdw ?_))⟩)));exact(nmc Z (lxo (e) n ⟨qad (show 1<=100000 by decide),λB L=>⟨B,a.kO,_,_,Z,qu,T.kM,zd T.bR En,λF H9 v kp Y t=>⟨Z,B,_,some F,Z,Y,⟨_,t⟩,T.gS,(q _ (qot pn)) B F _ (qag (((Same.refl H)).trans (qbb L kp)) (((Same.refl H)).free L)) qu ((ze (λz=>by rw[z,qu]at v;cases v)).trans t)⟩⟩⟩))
   |some j =>obtain⟨r,A,f,D,hn,N,g⟩:=st.get pn;have G:=(AK.mp st.nd).2;obtain⟨O,U,X,b4⟩:=bn r (Al f);refine(nmc Z (lxo (e) n (nmc Z ⟨d,_,Z,g,(nmc Z (qcr ?_))⟩)));refine(nmc Z (nmc Z (lxo (e) n ⟨d,_,Z,g,(nmc Z (nmc Z ⟨A,r,i,p,b,Z,N,qvn G D,O,U,X,e,c,λu R I W=>?_,λu=>q _ (qou pn f u)⟩))⟩)));exact k _ (qkz pn f u) R M (I.sub λz hz=>Aq _ (qm9 D z hz)) (λz hz=>.inl hz) (st.chg f D I W (qfq r b))
theorem qle (T:Txt K mg a):FnOk P w K mg base (CX1 P w) 3 a.nN a.mJ ["told","rule","at","other"] (spSy a):=by
 refine okX T.gO.fn qkv (λvs H Q E h=>?_) (λcdv A outer s H vs Q E C h=>?_)
 .obtain⟨_,_,_,_,_,_,_,_,rfl,_⟩:=h
  all_goals rfl
 .obtain⟨d,i,j,rs,As,r,A,y,rfl,st,bn,n,G,k,I⟩:=h;refine⟨_,(qj (zm (qjz (qgu (qfb C) (pv 3) (pv 0))) (qt (qc8 Z (Takes.at qbg) (qd2 T.kM.xc T.kQ.ty (qed T) (C.mono En) Z T.gU T.kM.kp T.kQ.bd .nil qap (qh (pv 3) qm qi)))) qan)
   (qj (zm (PW.pt (qnp (zf qbk (pv 3) (qak (pv 1) Z) (qah _)) (qnp (zf qgt (pv 3) (qak (pv 1) Z) (by with_unfolding_all rfl)) (qmq (zf qye (qak (qhz (qfb C) (pv 0) (pv 3) (λ_ _=>rfl)) Z) (qak (pv 1) Z) (qah _)))))) (qt (qc8 Z (Takes.at qbg) (qd2 T.kH.xc T.kX.ty (qgq T) (C.mono En) Z T.dZ T.kH.kp T.kX.bd .nil qap (qh (pv 2) qm qi)))) qan)
   (qt (zj (qbv A7 AY AZ qbh (qak (pv 1) Z) (qh (pv 3) qm qi)))))),?_⟩
  obtain⟨v,us,t,hs,he,X,hl,tl,x⟩:=st.ru j r A n G;have M:=(AK.mp st.nd).2;obtain⟨b1,b2,b3,b4⟩:=bn r (Al n);cases pn:qaj rs y with
  |none =>refine(nmc Z (nmc Z ⟨d,_,Z,st.non pn,(nmc Z (qdw ?_))⟩));exact(nmc Z ⟨qad (show 1<=100000 by decide),λf o=>⟨f,a.kO,_,_,Z,qu,T.kM,zd T.bR En,λm J e kp p b=>⟨Z,f,_,some m,Z,p,⟨_,b⟩,T.gS,(I _ (qk0 pn)) f m _ (qag (((Same.refl H)).trans (qbb o kp)) (((Same.refl H)).free o)) qu ((ze (λz=>by rw[z,qu]at e;cases e)).trans b)⟩⟩⟩)
  |some l =>
   obtain⟨s,B,q,hB,hn,R,g⟩:=st.get pn;obtain⟨v2,us2,L,_⟩:=R;refine(nmc Z (nmc Z ⟨d,_,Z,g,(nmc Z (qcr ?_))⟩));refine(nmc Z (nmc Z (flc (t) (T.kA) (zd T.kC En) (rfl) ⟨Z,(nmc Z (qdk (λc=>?_) (λc=>?_)))⟩)))
   .have c:=V.str.inj (of_decide_eq_true c);exact(nmc Z ⟨qad (show 1<=100000 by decide),λf o=>⟨f,a.kK,_,_,Z,qu,T.kH,zd T.gE En,λm J e kp p b=>⟨Z,f,_,some m,Z,p,⟨_,b⟩,T.gB,(I _ (qfr pn n q (.inl c))) f m _ (qag (((Same.refl H)).trans (qbb o kp)) (((Same.refl H)).free o)) qu ((ze (λz=>by rw[z,qu]at e;cases e)).trans b)⟩⟩⟩)
   have c1:¬y=r.name:=λz=>c (decide_eq_true (congrArg V.str z));refine(nmc Z (nmc Z (flc (t) (T.kA) (zd T.kC En) (rfl) ⟨_,_,Z,.inl (SqL.of x),Z,qfe _,(nmc Z ?_)⟩)));show if inV (.str y) (r.yields.map V.str)=true then _ else _;rw[qfd];refine qdk (λu=>?_) (λu=>?_)
   .exact(nmc Z ⟨qad (show 1<=100000 by decide),λf o=>⟨f,a.kK,_,_,Z,qu,T.kH,zd T.gE En,λm J e kp p b=>⟨Z,f,_,some m,Z,p,⟨_,b⟩,T.gB,(I _ (qfr pn n q (.inr (.inl (Cz.mp u))))) f m _ (qag (((Same.refl H)).trans (qbb o kp)) (((Same.refl H)).free o)) qu ((ze (λz=>by rw[z,qu]at e;cases e)).trans b)⟩⟩⟩)
   have u:¬y∈r.yields:=λz=>u (Cz.mpr z);refine(nmc Z (nmc Z ⟨d,_,Z,g,(flc (L) (T.kA) (zd T.kC En) (rfl) (nmc Z (flc (t) (T.kA) (zd T.kC En) (rfl) ⟨Z,(nmc Z ?_)⟩)))⟩));show if (!decide (V.str s.owes=V.str r.owes))=true then _ else _;by_cases F:s.owes=r.owes
   .refine qew (congrArg V.str F) ?_;refine(nmc Z (flc (t) (T.kA) (zd T.kC En) (rfl) ⟨.inl ⟨Z,_,SqL.of x⟩,(nmc Z ⟨_,_,_,Z,Z,x,qc0 (by rw[Ab];lia),?_⟩)⟩));have O:=qvn M G;simp only[own,AK,Ap,Av,or_false,not_or]at O;obtain⟨⟨m,d2,d3,Y⟩,⟨d5,d6,U⟩,⟨d8,W⟩,N,_⟩:=O;have D:=KeepT.put (S:=own A) (o':=.lst (r.yields.map V.str++[V.str y])) (show A.py∈own A by simp[own]) x (λ_ z=>nomatch z);refine k _ (qhp pn n q λz=>z.elim c1 λz=>z.elim u λz=>z F) _ (D.sub λz hz=>Aq _ (qm9 G z hz)) (st.chg n G D ⟨v,us,(ze Y).trans t,hs.keep D,(ze U).trans he,(ze W).trans X,(ze N).trans hl,qbt tl D,?_⟩ Z);rw[qu];show _=some (HO.lst ((r.yields++[y]).map V.str));rw[Ar];rfl
   .refine qfc (λz=>F (V.str.inj z)) ?_;exact(nmc Z ⟨qad (show 1<=100000 by decide),λf o=>⟨f,a.kK,_,_,Z,qu,T.kH,zd T.gE En,λm J e kp p b=>⟨Z,f,_,some m,Z,p,⟨_,b⟩,T.gB,(I _ (qfr pn n q (.inr (.inr F)))) f m _ (qag (((Same.refl H)).trans (qbb o kp)) (((Same.refl H)).free o)) qu ((ze (λz=>by rw[z,qu]at e;cases e)).trans b)⟩⟩⟩)
theorem qlu (T:Txt K mg a):FnOk P w K mg base (CX1 P w) 4 a.mM a.fK ["told","at","row"] (spSn a):=by
 refine okX T.gR.fn qg6 (λvs H Q E h=>?_) (λcdv A outer s H vs Q E D h=>?_)
 .obtain⟨_,_,_,_,_,_,rfl,_⟩:=h
  all_goals rfl
 .obtain⟨d,p,i,rs,N,c,rfl,st,bn,b,hs,k,n⟩:=h;refine⟨_,(qj (zg (i:=3) qg6.nd Z (A0 Z) (qhz (qfb D) (pv 0) (ja jc (pv 2) qp (λ_ _=>rfl)) (λ_ _=>rfl)))
   (qj (zm (PW.pt (qfg (zf qbk (ja jc (pv 2) qp (λ_ _=>rfl)) zq (qah _)) (qfg (zf qdn (qak (pv 3) Z) qa8 (qah _)) (qgs (qjz (qgu (qfb D) (qak (pv 3) Z) (pv 0))))))) (qt (qc8 Z (Takes.at qbg) (qd2 T.kM.xc T.kQ.ty (qed T) (D.mono En) Z T.gU T.kM.kp T.kQ.bd .nil qap (qh (qak (pv 3) Z) qm qb6)))) qan)
   (qt (zm (zf qbk (ja jc (pv 2) qp (λ_ _=>rfl)) zq (qah _)) (qt (zj (qen (qle T) (D.mono En) Z T.gO.mgx T.gO.fn.kp T.gO.bd .nil (Takes.at qbg) (qh (pv 0) (qh (pv 3) (qh (pv 1) (qh (ja jc (pv 2) qp (λ_ _=>rfl)) qm zx) qi) qi) qi)))) qan)))),?_⟩
  have W:atI (qcs c) 1=some (.str (qar c)):=by cases c <;>rfl
  cases pn:qaj rs (qar c) with
  |none=>rw[pn]at hs;cases hs
  |some j =>
   obtain⟨r,A,G,U,hn,O,g⟩:=st.get pn;obtain⟨v,us,B,_⟩:=id O;refine(nmc Z (nmc Z (lxo (b) W ⟨d,_,Z,g,?_⟩)));dsimp only[];have l:=KeepT.of (S:=d::N.flatMap own) (Same.refl H);cases c with
   |term x w1 o dd y m u =>
    have e:=qid (x:=x) (i:=i) (w:=w1) (o:=o) (d:=dd) (y:=y) (m:=m) (u:=u) pn G;rw[e]at k n;refine(nmc Z (lxo (b) Z ⟨Z,(nmc Z (qe5 Z ?_))⟩));cases f:r.base with
    |none =>rw[f]at k;refine(nmc Z (flc (B) (T.kA) (zd T.kC En) (rfl) ⟨Z,(nmc Z (qew (by rw[f];rfl) (qcr (nmc Z (lxo (b) Z ⟨Z,(nmc Z (qay Ek (k _ Z H l st)))⟩)))))⟩))
    |some z =>
     rw[f]at k n;dsimp only at k n;refine(nmc Z (flc (B) (T.kA) (zd T.kC En) (rfl) ⟨Z,(nmc Z (qfc (λz=>by rw[f]at z;cases z) ?_))⟩));cases C:qaj rs z with
     |none =>
      have q:DGet H d (qdl r.base) none:=by rw[f];exact st.non C
      refine(nmc Z (flc (B) (T.kA) (zd T.kC En) (rfl) (nmc Z ⟨d,_,Z,q,(nmc Z (qdw ?_))⟩)));have kz:∀(x d:Addr)(H':Hp),Same H H'->H' x=some (exO x a.kO (some d) false)->H' d=some (exD d [("name",qdl r.base)])->E (.ref x) (some d) H':=by rw[f];exact n (.term z) (by rw[C];rfl)
      exact(nmc Z (flc (B) (T.kA) (zd T.kC En) (rfl) ⟨qad (show 1<=100000 by decide),λJ M=>⟨J,a.kO,_,_,Z,qu,T.kM,zd T.bR En,λL H9 I kp V F=>⟨Z,J,_,some L,Z,V,⟨_,F⟩,T.gS,kz J L _ (qag (((Same.refl H)).trans (qbb M kp)) (((Same.refl H)).free M)) qu ((ze (λz=>by rw[z,qu]at I;cases I)).trans F)⟩⟩⟩))
     |some jz =>
      obtain⟨_,R,_,_,_,_,q⟩:=st.get C;have q:DGet H d (qdl r.base) (some (.ref R.p)):=by rw[f];exact q
      refine(nmc Z (flc (B) (T.kA) (zd T.kC En) (rfl) (nmc Z ⟨d,_,Z,q,(nmc Z (qcr (nmc Z (lxo (b) Z ⟨Z,(nmc Z (qay Ek (k _ (by rw[C];rfl) H l st)))⟩))))⟩)))
   |yields x y =>rw[qk1 (x:=x) pn]at k n;refine(nmc Z (lxo (b) Z ⟨Z,(nmc Z (qay Ek (qcr (nmc Z (lxo (b) Z ⟨Z,(nmc Z (qe5 Z ?_))⟩)))))⟩));exact(nmc Z (nmc Z (nmc Z (nmc Z (lxo (b) Z ⟨d,i,j,rs,N,r,A,y,Z,st,bn,G,U,k,n⟩)))))
   |ends x y =>exact(nmc Z (lxo (b) Z ⟨Z,(nmc Z (qay Ek (qcr (nmc Z (lxo (b) Z ⟨Z,(nmc Z (qay Ek (k _ Z H l st)))⟩)))))⟩))
   |anew x y =>exact(nmc Z (lxo (b) Z ⟨Z,(nmc Z (qay Ek (qcr (nmc Z (lxo (b) Z ⟨Z,(nmc Z (qay Ek (k _ Z H l st)))⟩)))))⟩))
   |longer x y u t =>exact(nmc Z (lxo (b) Z ⟨Z,(nmc Z (qay Ek (qcr (nmc Z (lxo (b) Z ⟨Z,(nmc Z (qay Ek (k _ Z H l st)))⟩)))))⟩))
   |still x y z =>exact(nmc Z (lxo (b) Z ⟨Z,(nmc Z (qay Ek (qcr (nmc Z (lxo (b) Z ⟨Z,(nmc Z (qay Ek (k _ Z H l st)))⟩)))))⟩))
theorem qnk (T:Txt K mg a):FnOk P w K mg base CX0 1 a.dL a.lD ["self","at"] (qxu K "at"):=by
 refine T.dM.fn.ok qm3 (λvs H Q E h=>?_) (λcdv A outer s H vs Q E hr h=>?_)
 .obtain⟨_,_,_,_,rfl,_⟩:=h
  all_goals rfl
 .obtain⟨x,C,y,f,rfl,c,d,g,k⟩:=h;refine⟨_,(qj (zj (qga T.gI Z T.gJ (qh (pv 0) (qh (pv 1) qm qi) qi)))
   (qt (qh1 (pv 0) (pv 1) Z))),?_⟩
  refine(nmc Z (nmc Z ⟨x,C,none,[y],f,Z,c,d.xc,qad (show 1<=100000 by decide),?_⟩));refine(nmc Z (nmc Z ⟨x,C,true,Z,d.set g,.inl ⟨c,λdx hd=>?_⟩⟩));have ne:dx≠x:=λz=>by rw[z,c]at hd;cases hd
  exact k dx _ hd (λb o i e=>by rw[ze i,ze (qab e hd)];exact e) qu (by rw[ze ne];exact qu)
theorem qlf (T:Txt K mg a):FnOk P w K mg base (CX1 P w) 7 a.mL a.nQ ["text"] (spBkG a):=by
 refine okX T.kY.fn qcx (λvs H Q E h=>?_) (λcdv A outer s H vs Q E m h=>?_)
 .obtain⟨_,rfl,_⟩:=h
  all_goals rfl
 .obtain⟨t,rfl,ag,k,kx⟩:=h;refine⟨_,(qj (zg (i:=1) qcx.nd Z (A0 Z) qj9)
   (qj (zg (i:=2) qcx.nd Z (A0 Z) (zr qm))
   (qj (qcd BF.leaving Z (qq4 Z T.lF (qh (zn (qtl T) (m.mono En) Z T.bT.mgx T.bT.fn.kp T.bT.bd .nil qap (qh (pv 0) qm qi)) qm zu)) (qmr Z (qcm (qam (i:=3) qcx.nd Z (A0 Z)) (qcm (qam (i:=4) qcx.nd Z (A0 Z)) qhw))) (qj (zg (i:=5) qcx.nd Z (A0 Z) (zn (qyb T) (m.mono En) Z T.gP.mgx T.gP.fn.kp T.gP.bd .nil qap (qh (pv 4) qm qi)))
   (qj (zm (PW.pt (qnp (zf qbk (pv 3) (qgr (v:=.int 40) Z T.pA.choose_spec ⟨_,Z⟩) (qah _)) (qmq (zf qpg (pv 5) qa8 (qah _))))) (qt (qc8 Z (Takes.at qbg) (qd2 T.gK.xc T.dM.ty (qnk T) (m.mono En) Z T.pM T.gK.kp T.dM.bd .nil qap (qh (pv 3) qm qi)))) qan)
   (qj (zj (qen (qtp T) (m.mono En) Z T.bE.mgx T.bE.fn.kp T.bE.bd .nil (Takes.at qbg) (qh (pv 1) (qh (pv 3) (qh (pv 5) qm qi) qi) qi)))
   (qt (zj (qbv A7 AY AZ qbh (pv 2) (qh (pv 5) qm qi))))))))
   (qj (qcd BF.leaving Z (qq4 Z T.lF (qh (pv 2) qm qi)) (qmr Z (qcm (qam (i:=3) qcx.nd Z (A0 Z)) (qcm (qam (i:=5) qcx.nd Z (A0 Z)) qhw))) (qt (zj (qen (qlu T) (m.mono En) Z T.gR.mgx T.gR.fn.kp T.gR.bd .nil (Takes.at qbg) (qh (pv 1) (qh (pv 3) (qh (pv 5) qm qi) qi) qi)))))
   (qt (zc (quk T.fM (qlc T) (m.mono En) Z T.nH T.dJ.bd .nil (Takes.at qbg) (qh (qog Z (by rfl) T.gC qdy (pv 1)) qm zu)))))))),?_⟩
  refine λd hd=>?_;obtain⟨s0,h0⟩:=alc (o:=.dK []) hd;generalize upd H d _=H0 at s0 h0 |-;refine⟨qdg,λq hq=>?_⟩;obtain⟨s1,M⟩:=alc (o:=.lst []) hq;have g:=s1 _ _ h0;generalize upd H0 q _=H1 at s1 M g |-;have dq:d≠q:=λz=>by rw[<- z,h0]at hq;cases hq
  have au:=s0.trans s1;have bg:=s0.free hq;refine(nmc Z ⟨t,Z,ag,λql H2 ad s2 e2=>?_⟩);have ay:ql≠d:=λz=>by rw[z,g]at ad;cases ad
  have bi:ql≠q:=λz=>by rw[z,M]at ad;cases ad
  have b0:RB a H H2 d q ql t 0 [] [] [] []:=⟨au.trans s2,e2,⟨s2 _ _ g,Z,by simp,by simp,(λi r A h=>by cases h)⟩,s2 _ _ M,Z,(λj y e=>by cases e),Z,Z,(λr m=>by cases m),En,(λr m=>by cases m),(λr m=>by cases m),by simp[Bc dq],by simp[ay],bi,λz hz=>by
   simp only[List.flatMap_nil,Ap,Av,or_false]at hz;rcases hz with rfl|rfl
   .exact bg
   .exact hd⟩
  have lo:(qjp t).length=t.length:=by unfold qjp;rw[Ab]
  have hn:=ag.n;refine⟨_,_,Z,e2,qod (K:=K) (a:=ql) (xs:=t.map V.str) (λi σ H'=>(∃rs F rv f,RB a H H' d q ql t i rs F rv f)/\∃v3 X Y:Option V,σ=[some (.str (qex t)),some (.ref d),some (.ref q),v3,X,Y]) ⟨⟨_,_,_,_,b0⟩,none,none,none,Z⟩ (λi σ H' _ h=>by obtain⟨⟨_,_,_,_,b⟩,_⟩:=h;exact SqL.of b.hl) ?_ ?_⟩
  .rintro i v t0 σ H' S ⟨⟨rs,F,rv,f,b⟩,v3,X,Y,rfl⟩ ae;rw[Af]at S;cases el:t[i]? with
   |none=>rw[el]at S;cases S
   |some l =>
   rw[el]at S;cases S;have hi:i<t.length:=(Ac.mp el).1;obtain⟨ll,_⟩:=ag.c l (Al el);have ac:(qjp t)[i]?=some (opR l):=by unfold qjp;rw[Af,el];rfl
   obtain⟨ra,_⟩:=qjg b.rd ac;obtain⟨st,et⟩:=alc (o:=.tup [V.int i,V.str l]) ae;generalize upd H' t0 _=J0 at st et |-;refine⟨_,_,Z,SqT.of et,Z,_,_,Z,_,_,Z,Z,?_⟩;have x:=rowV_R (Cp l (wS " "));have er:∀{e:Er},qao [] 0 (qjp t)=.error e->qg8 t=.error e:=λh=>by unfold qg8;rw[h]
   refine(nmc Z ⟨l,Z,(by show l.cps.size<=1000;lia),λqr J1 us af sr N ao=>?_,λN J1 sr=>?_⟩)
   .have R:=(b.same st).same sr;cases I:opR l with
    |none=>unfold opR at I;rw[I]at x;rw[N]at x;cases x
    |some L =>
    have eu:us=qcs L:=by unfold opR at I;rw[I]at x;rw[N]at x;exact A5 x
    subst eu;rw[I]at ac ra;refine(nmc Z ⟨Z,(nmc Z (qdk (λc=>?_) (λc=>?_)))⟩)
    .have c:(i:Int)=40:=V.int.inj (of_decide_eq_true c);exact(nmc Z ⟨qad (show 1<=100000 by decide),λG U=>⟨G,a.kW,_,_,Z,qu,T.gK,zd T.dG En,λW H9 g kp o1 C=>⟨Z,G,_,some W,Z,o1,⟨_,C⟩,T.dF,(kx _ (er (ra.trans (qjh (by lia) _ _)))) G W _ (qag (((b.sm.trans (st.trans sr))).trans (qbb U kp)) (((b.sm.trans (st.trans sr))).free U)) qu ((ze (λz=>by rw[z,qu]at g;cases g)).trans C)⟩⟩⟩)
    have aa:i≠40:=λz=>c (decide_eq_true (by rw[z];rfl));refine(nmc Z ⟨Z,(nmc Z (qay (λz=>nomatch z) ?_))⟩);have ax:qr∉d::F.flatMap own:=λz=>(b.same st).st.inn qr z af;have bf:qr≠q:=λz=>by rw[z,(b.same st).hq]at af;cases af
    refine(nmc Z (nmc Z (nmc Z ⟨d,qr,i,rs,F,L,Z,R.st,R.l6,(λr m=>by obtain⟨g1,g2,g3,g4⟩:=R.bn r m;exact⟨by lia,by lia,by lia,by lia⟩),ao,λbc e H3 As' kt fr ak=>?_,λe h=>(kx e (er (ra.trans (qqa aa h _)))).same R.sm⟩)));have ar:H3 q=some (.lst rv):=kt _ _ (.inl R.qo) R.hq;have rl:=R.rl;have lr:f.length<=i:=by have:=congrArg DB R.ro;rw[Ab,A6]at this;lia
    refine(nmc Z ⟨.inl ⟨Z,_,SqL.of ar⟩,(nmc Z ⟨_,_,_,Z,Z,ar,qc0 (by lia),?_⟩)⟩);exact⟨⟨_,_,_,_,R.next ao ax bf ac aa e kt fr ak⟩,_,_,_,Z⟩
   .have I:opR l=none:=by
     cases I:opR l with|none=>rfl|some L=>unfold opR at I;rw[I]at x;rw[N]at x;cases x
    rw[I]at ac ra
    have sA:=b.sm.trans (st.trans sr)
    refine(nmc Z ⟨Z,(nmc Z (qdk (λc=>?_) (λc=>?_)))⟩)
    .have c:(i:Int)=40:=V.int.inj (of_decide_eq_true c);exact(nmc Z ⟨qad (show 1<=100000 by decide),λG U=>⟨G,a.kW,_,_,Z,qu,T.gK,zd T.dG En,λW H9 g kp o1 C=>⟨Z,G,_,some W,Z,o1,⟨_,C⟩,T.dF,(kx _ (er (ra.trans (qjh (by lia) _ _)))) G W _ (qag ((sA).trans (qbb U kp)) ((sA).free U)) qu ((ze (λz=>by rw[z,qu]at g;cases g)).trans C)⟩⟩⟩)
    have aa:i≠40:=λz=>c (decide_eq_true (by rw[z];rfl))
    refine(nmc Z ⟨Z,(nmc Z (qe5 Z ?_))⟩)
    exact(nmc Z ⟨qad (show 1<=100000 by decide),λG U=>⟨G,a.kW,_,_,Z,qu,T.gK,zd T.dG En,λW H9 g kp o1 C=>⟨Z,G,_,some W,Z,o1,⟨_,C⟩,T.dF,(kx _ (er (ra.trans (qqb aa _)))) G W _ (qag ((sA).trans (qbb U kp)) ((sA).free U)) qu ((ze (λz=>by rw[z,qu]at g;cases g)).trans C)⟩⟩⟩)
  .rintro σ H' ⟨⟨rs0,F,rv,f,b⟩,v3,X,Y,rfl⟩;have bd:=b.rd;have bo:=b.ro;rw[Ab,<- lo,Be]at bd bo;have lr:f.length=t.length:=by rw[<- lo,bo,Ab]
   have rf:qg8 t=qas rs0 0 f:=by unfold qg8;rw[bd,bo];dsimp only;rw[qna]
   have c0:SB a H H' d q 0 rs0 rs0 F rv f:=⟨b.sm,b.st,b.hq,b.rl,b.rr,⟨Z,Z⟩,Z,λr m=>by obtain⟨g1,g2,g3,g4⟩:=b.bn r m;rw[Ab]at g1 g2 g3 g4;exact⟨by lia,by lia,by lia,by lia⟩,b.nm,b.qo,b.fr⟩;refine(nmc Z ⟨_,_,Z,b.hq,qod (K:=K) (a:=q) (xs:=rv) (λi σ J=>(∃rs,SB a H J d q i rs0 rs F rv f)/\∃v3 X Y:Option V,σ=[some (.str (qex t)),some (.ref d),some (.ref q),v3,X,Y]) ⟨⟨_,c0⟩,_,_,_,Z⟩ (λi σ J _ h=>by obtain⟨⟨_,b⟩,_⟩:=h;exact SqL.of b.hq) ?_ ?_⟩)
   .rintro i v t0 σ J S ⟨⟨rs,B⟩,v3,X,Y,rfl⟩ ae;have hi:i<f.length:=by rw[<- b.rl];exact(Ac.mp S).1
    obtain⟨p,L,rfl,O,_,_,_⟩:=B.rr i v S;obtain⟨st,et⟩:=alc (o:=.tup [V.int i,V.ref p]) ae;generalize upd J t0 _=J0 at st et |-;have D:=B.same st;obtain⟨p2,row2,aw,a0,hp,_,_⟩:=D.rr i _ S;cases aw;rw[O]at a0;cases a0;obtain⟨sa,_⟩:=qhq D.se O;refine⟨_,_,Z,SqT.of et,Z,_,_,Z,_,_,Z,Z,?_⟩;refine(nmc Z (nmc Z (nmc Z ⟨d,p,i,rs,F,L,Z,D.st,(λr m=>by obtain⟨g1,g2,g3,g4⟩:=D.bn r m;exact⟨by lia,by lia,by lia,by lia⟩),hp,D.nm L (Al O),λbc e H3 kt ak=>?_,λe h=>(kx e (rf.trans (sa.trans (qmf h _)))).same D.sm⟩)));exact⟨⟨_,D.next O e kt ak⟩,_,_,_,Z⟩
   .rintro σ J ⟨⟨rs,B⟩,v3,X,Y,rfl⟩;have se:=B.se;rw[b.rl,Be]at se;have bp:=rf.trans se;obtain⟨kq,ko⟩:=k rs bp;have am:=qxz se b.st.nn b.ht;have l6:rs.length<=6:=by have:=congrArg DB B.sd.nm;rw[Ab,Ab]at this;rw[this];exact b.l6
    refine(nmc Z ⟨d,_,Z,B.st.hd,λqv bh=>?_⟩);rw[qoq B.st.ln];obtain⟨sv,ev⟩:=alc (o:=.lst (F.map λA=>V.ref A.p)) bh;generalize upd J qv _=J1 at sv ev |-;refine λxb dx nx nd ne=>?_;have keep:Same J1 (upd (upd J1 dx (.own xb)) xb (.ins a.kF dx [])):=λb u e=>by rw[ze (qab e nx),ze (qab e nd)];exact e
    have ah:=B.sm.trans sv;have aq:=λi r A M h2=>((B.st.ru i r A M h2).same sv);refine⟨xb,dx,qv,rs,F,Z,qu,keep _ _ ev,B.st.ln,B.st.nn,l6,am,λi r A M h2=>(aq i r A M h2).same keep,λH9 os b9 bb bj=>⟨Z,kq xb H9 F os (ah.trans (b9.made nx nd)) ⟨bb,B.st.ln,B.st.nn,l6,λi r A M h2=>(aq i r A M h2).same (b9.made nx nd),bj,am⟩⟩,ko.same (ah.trans keep)⟩
theorem qjr (T:Txt K mg a):FnOk P w K mg base CX0 1 a.dR a.nD ["self"] (spTn a):=by
 refine T.nO.fn.ok qjo (λvs H Q E h=>?_) (λcdv A outer s H vs Q E hr h=>?_)
 .obtain⟨_,_,_,_,rfl,_⟩:=h
  all_goals rfl
 .obtain⟨x,rs,f,os,rfl,g,i,l6,k⟩:=h;refine⟨_,(qt (zc (qbs (qpv Z) (by rfl) T.gC qdy (qh (qak (pv 0) Z) qm qb6)))),?_⟩;obtain⟨dx,po,pd,d,h2,c⟩:=g;have e:(dcR rs f).map (λb=>L2.kV b.1)=(rs.map RR.name).map V.str:=by rw[show (λb:Key×V=>L2.kV b.1)=L2.kV ∘ Prod.fst from Z,<- AM,qor i,AM,AM];rfl
  refine(nmc Z (flc (d) (T.kT) (zd T.gA En) (rfl) ⟨_,_,Z,c,λl hl=>?_⟩));exact k l _ hl (zi hl) (by rw[qu];exact congrArg (λz=>some (HO.lst z)) e)
theorem qlg (T:Txt K mg a):FnOk P w K mg base CX0 1 a.hZ a.fO ["rule"] (spTrs a):=by
 refine T.gY.fn.ok qgi (λvs H Q E h=>?_) (λcdv A outer s H vs Q E hr h=>?_)
 .obtain⟨_,_,rfl,_⟩:=h
  all_goals rfl
 .obtain⟨A,r,rfl,L,l,k⟩:=h;refine⟨_,(qj (zg (i:=1) qgi.nd Z (A0 Z) (qdm (zf qpg (qak (pv 0) Z) qa8 (qah _)) (zr (qh zq (qh (qak (pv 0) Z) qm qb6) zb)) (zr (qh zq (qh (qak (pv 0) Z) qm qb6) zb))))
   (qt (zc (qbv BB C0 C1 qgw zq (qh (zh qci (zh qci (zr (qh zq (qh (qak (pv 0) Z) (qh zq (qh (qak (pv 0) Z) (qh zq (qh (qak (pv 0) Z) qm qb6) zb) qb6) zb) qb6) zb)) (pv 1)) (zr (qh (qbs qdo (by rfl) T.kU qd6 (qh (qak (pv 0) Z) qm qb6)) (qh (qak (pv 0) Z) qm qb6) zu))) qm zw))))),?_⟩
  obtain⟨v,us,h1⟩:=id L;have hx:=h1.hx;obtain⟨d,y,R,cs⟩:=qv5 l;have x:=qv4 l;rw[R]at x k;apply useH1 (p:=λJ z=>Same H J/\∃e,z=some (.ref e)/\J e=some (.lst [.str (fbS d),.str y]))
  .intro m;refine cs.elim (λc=>?_) (λc=>?_)
   .have g:qdl r.base=.non:=by rw[c.1];rfl
    have B:qdl r.opens=.str y:=by rw[c.2.2];rfl
    have n:=c.2.1;refine(nmc Z (flc (hx) (T.kA) (zd T.kC En) (rfl) ⟨Z,(nmc Z (qe5 g (nmc Z (flc (hx) (T.kA) (zd T.kC En) (rfl) ⟨qad (show 2<=100000 by decide),λe o=>?_⟩))))⟩));rw[B];generalize b:upd H e _=H1;obtain⟨N,q⟩:=alg b o;clear b;have D:Same H H1/\∃z,some (V.ref e)=some (.ref z)/\H1 z=some (.lst [.str (fbS d),.str y]):=⟨N,e,Z,by rw[q,n];rfl⟩;show qyd _ [some (.ref A.p),some (.ref e)] H1;generalize some (V.ref e)=z1 at D |-;exact m H1 z1 D
   .have g:qdl r.base=.str y:=by rw[c.1];rfl
    have n:=c.2;refine(nmc Z (flc (hx) (T.kA) (zd T.kC En) (rfl) ⟨Z,(nmc Z (qay (λz=>by rw[g]at z;cases z) (nmc Z (flc (hx) (T.kA) (zd T.kC En) (rfl) ⟨qad (show 2<=100000 by decide),λe o=>?_⟩))))⟩));rw[g];exact m _ _ ⟨zi o,e,Z,by rw[qu,n];rfl⟩
  rintro J z ⟨C,e,rfl,q⟩;have f:=C _ _ hx;refine⟨Z,(nmc Z (flc (f) (T.kA) (zd T.kC En) (rfl) (nmc Z (flc (f) (T.kA) (zd T.kC En) (rfl) (nmc Z (flc (f) (T.kA) (zd T.kC En) (rfl) ⟨qad (show 6<=100000 by decide),λq2 Y=>?_⟩))))))⟩;generalize b:upd J q2 _=H2;obtain⟨t,S⟩:=alg b Y;clear b;refine(nmc Z ⟨_,_,_,_,Z,Z,S,t _ _ q,qad (show 6+2<=100000 by decide),λq3 n3=>?_⟩);generalize b:upd H2 q3 _=H3;obtain⟨M,W⟩:=alg b n3;clear b;have j:=t.trans M;have I:r.many.natAbs.log2<1920:=by have m1:=l.mn;have:r.many.natAbs.log2<=r.many.natAbs:=DW _;lia
  refine(nmc Z (flc (j _ _ f) (T.kA) (zd T.kC En) (rfl) ⟨_,Z,I,(nmc Z (flc (j _ _ f) (T.kA) (zd T.kC En) (rfl) ⟨qad (show 2<=100000 by decide),λX n4=>?_⟩))⟩));generalize b:upd H3 X _=H4;obtain⟨G,O⟩:=alg b n4;clear b;refine⟨_,_,_,_,Z,Z,G _ _ W,O,qad (show 8+2<=100000 by decide),λu n5=>?_⟩;generalize b:upd H4 u _=H5;obtain⟨U,e5⟩:=alg b n5;clear b;have F:=qyq x (Ax _);refine⟨_,u,qat (.term r.name r.who r.owes d y r.many r.unit),Z,Z,SqL.of e5,F.1,?_⟩;rw[F.2];exact k H5 (C.trans (j.trans (G.trans U)))
theorem qpa (T:Txt K mg a):FnOk P w K mg base CX0 2 a.lW a.lJ ["rule"] (spRsh a):=by
 refine T.bY.fn.ok qcy (λvs H Q E h=>?_) (λcdv A outer s H vs Q E hr h=>?_)
 .obtain⟨_,_,rfl,_⟩:=h
  all_goals rfl
 .obtain⟨A,r,rfl,ru,c,k⟩:=h;refine⟨_,(qj (zg (i:=1) qcy.nd Z (Cj Z) (qak (pv 0) Z))
   (qj (zg (i:=2) qcy.nd Z (A0 Z) (zr (qh (zn (qlg T) (hr.mono En) Z T.gY.mgx T.gY.fn.kp T.gY.bd .nil qap (qh (pv 0) qm qi)) qm zu)))
   (qj (qiq (i:=2) qcy.nd Z (A0 Z) (qd1 (N:=["kind","name"]) (js:=[none,some 1]) (XN:=["rule","name","rows"]) (xs:=qaa qde) Z Z Z Ek (qbd (qak (pv 0) Z)) (λ_ _ _ _ _ _=>(qam (i:=0) (show B5 (["kind","name"]:List Str) from by decide +kernel) Z (A0 Z) (Cj Z))) (λ_ _ _ _ _ _=>qb4) (λ_ _ _ _ _ _=>(qq2 (qbl zq (qbl (qe1 (pv 1)) (qbl zq (qbl (qe1 (pv 0)) qmx))))))) qit)
   (qj (qiq (i:=2) qcy.nd Z (A0 Z) (qd1 (N:=["kind","name"]) (js:=[none,some 1]) (XN:=["rule","name","rows"]) (xs:=qaa qde) Z Z Z Ek (qbd (qak (pv 0) Z)) (λ_ _ _ _ _ _=>(qam (i:=0) (show B5 (["kind","name"]:List Str) from by decide +kernel) Z (A0 Z) (Cj Z))) (λ_ _ _ _ _ _=>qb4) (λ_ _ _ _ _ _=>(qq2 (qbl zq (qbl (qe1 (pv 1)) (qbl zq (qbl (qe1 (pv 0)) qmx))))))) qit)
   (qj (qiq (i:=2) qcy.nd Z (A0 Z) (qd1 (N:=["kind","units","times","name"]) (js:=[none,none,none,some 1]) (XN:=["rule","name","rows"]) (xs:=qaa qde) Z Z Z Ek (qbd (qak (pv 0) Z)) (λ_ _ _ _ _ _=>(qq5 (K:=K) Z (n:=3) Z (qcm (qam (i:=0) (show B5 (["kind","units","times","name"]:List Str) from by decide +kernel) Z (A0 Z) (Cj Z)) (qcm (qam (i:=1) (show B5 (["kind","units","times","name"]:List Str) from by decide +kernel) Z (A0 Z) (Cj Z)) (qcm (qam (i:=2) (show B5 (["kind","units","times","name"]:List Str) from by decide +kernel) Z (A0 Z) (Cj Z)) qhw))))) (λ_ _ _ _ _ _=>qb4) (λ_ _ _ _ _ _=>(qq2 (qbl zq (qbl (qe1 (pv 3)) (qbl zq (qbl (qe1 (pv 0)) (qbl zq (qbl (qe1 (pv 1)) (qbl zq (qbl (qe1 (pv 2)) qmx))))))))))) qit)
   (qj (zm (zf qdn (qak (pv 0) Z) qa8 (qah _)) (qt (zj (qbv A7 AY AZ qbh (pv 2) (qh (qbv BB C0 C1 qgw zq (qh (zr (qh zq (qh (pv 1) (qh (ja jb (qak (pv 0) Z) qp (λ_ _=>rfl)) (qh (ja jb (qak (pv 0) Z) qp (λ_ _=>rfl)) qm zx) zx) qi) zb)) qm qn4)) qm zu)))) qan)
   (qj (qiq (i:=2) qcy.nd Z (A0 Z) (qd1 (N:=["other","name"]) (js:=[none,some 1]) (XN:=["rule","name","rows"]) (xs:=qaa qde) Z Z Z Ek (qbd (qak (pv 0) Z)) (λ_ _ _ _ _ _=>(qam (i:=0) (show B5 (["other","name"]:List Str) from by decide +kernel) Z (A0 Z) (Cj Z))) (λ_ _ _ _ _ _=>qb4) (λ_ _ _ _ _ _=>(qq2 (qbl zq (qbl (qe1 (pv 1)) (qbl zq (qbl (qe1 (pv 0)) qmx))))))) qit)
   (qt (zc (pv 2)))))))))),?_⟩
  obtain⟨v,us,x⟩:=id ru;have hx:=x.hx;obtain⟨b1,b2,b3,b4⟩:=c.sz;have n8:r.name.length<=8:=c.nm.2.1;refine(nmc Z (flc (hx) (T.kA) (zd T.kC En) (rfl) (nmc Z ⟨A,r,Z,ru,c,λH1 s1=>⟨qad (show 1<=100000 by decide),λq n1=>?_⟩⟩)));have L:=s1.free n1;generalize e:upd H1 q _=H2;obtain⟨s2,e2⟩:=alg e n1;clear e;have S:=s1.trans s2;have e2:H2 q=some (.lst (qaq [qae r])):=e2;have ax:=S _ _ hx;have ad:=S _ _ x.he;refine(nmc Z (nmc Z (flc (ax) (T.kA) (zd T.kC En) (rfl) ⟨_,Z,⟨_,SqL.of ad⟩,?_⟩)));refine qb0 (λv=>match v with | .str y=>.str (qal (.ends r.name y))|_=>.non) (λσ'=>∃v,σ'=[v,some (.str r.name)]) (qbn (K:=K) (SqL.of ad)) (qad (by rw[Ab];lia)) ⟨none,Z⟩ (λv σ' H' U D sm C d=>?_) qb5 λp3 ah=>?_
  .obtain⟨W,rfl⟩:=C;obtain⟨y,hy,rfl⟩:=A8.mp D;have y8:y.length<=8:=(qml r c _ (by simp[hy])).2.1;have d:=d [some (.str y),some (.str r.name)] ⟨_,Z⟩;have O:(qal (.ends r.name y)).length<=90:=(qik (show qc5 (.ends r.name y) from ⟨c.nm,qml r c _ (by simp[hy])⟩)).1;have z1:(Aa "ends ").length<=10:=Ek;have z2:(Aa " ").length<=10:=Ek;have z0:Co.length=0:=rfl;clear O;refine⟨_,Z,qad (by simp only[qaw];lia),(nmc Z (.inr ⟨_,Z,qad (by lia),_,Z,qad (by simp only[qaw];lia),_,Z,qad (by simp only[qaw];lia),(nmc Z (.inr ⟨_,Z,qad (by lia),_,Z,qad (by simp only[qaw];lia),qad (by simp only[qaw];lia),?_⟩))⟩))⟩;rw[show Co++Aa "ends " ++ r.name++Aa " " ++ y=qal (.ends r.name y) by rw[qjv];exact qmg _ _];exact d
  rw[show ((r.ends.map V.str).map λv=>match v with | .str y=>V.str (qal (.ends r.name y))|_=>.non)=qaq (r.ends.map (Rw7.ends r.name)) by unfold qaq;rw[AM,AM,AM];rfl];generalize e:upd H2 p3 _=F3;obtain⟨t3,f3⟩:=alg e ah;clear e;refine⟨q,p3,_,_,Z,Z,t3 _ _ e2,f3,qad (by simp only[qcl,Ai,Ab,Am,Bf];lia),?_⟩;have F:=qag (o:=.lst (qaq ([qae r])++qaq (r.ends.map (Rw7.ends r.name)))) (S.trans t3) L;have e3:upd F3 q (.lst (qaq ([qae r])++qaq (r.ends.map (Rw7.ends r.name)))) q=some (.lst (qaq ([qae r]++r.ends.map (Rw7.ends r.name)))):=by rw[qu];unfold qaq;simp only[Ar]
  generalize upd F3 q _=G3 at F e3 |-;have ao:=F _ _ hx;have aa:=F _ _ x.ha;refine(nmc Z (nmc Z (flc (ao) (T.kA) (zd T.kC En) (rfl) ⟨_,Z,⟨_,SqL.of aa⟩,?_⟩)));refine qb0 (λv=>match v with | .str y=>.str (qal (.anew r.name y))|_=>.non) (λσ'=>∃v,σ'=[v,some (.str r.name)]) (qbn (K:=K) (SqL.of aa)) (qad (by rw[Ab];lia)) ⟨none,Z⟩ (λv σ' H' U D sm C d=>?_) qb5 λp4 am=>?_
  .obtain⟨W,rfl⟩:=C;obtain⟨y,hy,rfl⟩:=A8.mp D;have y8:y.length<=8:=(qml r c _ (by simp[hy])).2.1;have d:=d [some (.str y),some (.str r.name)] ⟨_,Z⟩;have O:(qal (.anew r.name y)).length<=90:=(qik (show qc5 (.anew r.name y) from ⟨c.nm,qml r c _ (by simp[hy])⟩)).1;have z1:(Aa "anew ").length<=10:=Ek;have z2:(Aa " ").length<=10:=Ek;have z0:Co.length=0:=rfl;clear O;refine⟨_,Z,qad (by simp only[qaw];lia),(nmc Z (.inr ⟨_,Z,qad (by lia),_,Z,qad (by simp only[qaw];lia),_,Z,qad (by simp only[qaw];lia),(nmc Z (.inr ⟨_,Z,qad (by lia),_,Z,qad (by simp only[qaw];lia),qad (by simp only[qaw];lia),?_⟩))⟩))⟩;rw[show Co++Aa "anew " ++ r.name++Aa " " ++ y=qal (.anew r.name y) by rw[qjv];exact qmh _ _];exact d
  rw[show ((r.anew.map V.str).map λv=>match v with | .str y=>V.str (qal (.anew r.name y))|_=>.non)=qaq (r.anew.map (Rw7.anew r.name)) by unfold qaq;rw[AM,AM,AM];rfl];generalize e:upd G3 p4 _=F4;obtain⟨t4,f4⟩:=alg e am;clear e;refine⟨q,p4,_,_,Z,Z,t4 _ _ e3,f4,qad (by simp only[qcl,Ai,Ab,Am,Bf];lia),?_⟩;have m:=qag (o:=.lst (qaq ([qae r]++r.ends.map (Rw7.ends r.name))++qaq (r.anew.map (Rw7.anew r.name)))) (F.trans t4) L;have e4:upd F4 q (.lst (qaq ([qae r]++r.ends.map (Rw7.ends r.name))++qaq (r.anew.map (Rw7.anew r.name)))) q=some (.lst (qaq ([qae r]++r.ends.map (Rw7.ends r.name)++r.anew.map (Rw7.anew r.name)))):=by rw[qu];unfold qaq;simp only[Ar]
  generalize upd F4 q _=G4 at m e4 |-;have ar:=m _ _ hx;have ac:=m _ _ x.hl;have ae:=x.tl.same m;have lu:us.length=r.longer.length:=by rw[x.tl.length,Ab]
  refine(nmc Z (nmc Z (flc (ar) (T.kA) (zd T.kC En) (rfl) ⟨_,Z,⟨_,SqL.of ac⟩,?_⟩)));let f:V->V:=λv=>match v with
   |.ref b=>match G4 b with
    |some (.tup [.str y,.int u,.int t])=>.str (qal (.longer r.name y u t))
    |_=>.non
   |_=>.non
  refine qb0 f (λσ'=>∃W v1 v2,σ'=[W,v1,v2,some (.str r.name)]) (qbn (K:=K) (SqL.of ac)) (qad (by lia)) ⟨none,none,none,Z⟩ (λv σ' H' U D sm C d=>?_) qx7 λp5 aq=>?_
  .obtain⟨w0,w1,w2,rfl⟩:=C;obtain⟨j,hj⟩:=AA D;obtain⟨b,t,rfl,B,X⟩:=ae.get' hj;rw[Af]at B;cases I:r.longer[j]? with
   |none=>rw[I]at B;cases B
   |some rr =>
    rw[I]at B;cases B;have ef:f (.ref b)=.str (qal (.longer r.name rr.1 rr.2.1 rr.2.2)):=by show (match G4 b with|some (.tup [.str y,.int u,.int t])=>V.str (qal (.longer r.name y u t))|_=>.non)=_;rw[X];rfl
    have d:=d [some (.str rr.1),some (.int rr.2.1),some (.int rr.2.2),some (.str r.name)] ⟨_,_,_,Z⟩;rw[ef]at d;have mem:=Al I;obtain⟨⟨u1,u2⟩,t1,t2⟩:=c.lg rr mem;have y8:rr.1.length<=8:=(c.kin.2.2.2.1 rr mem).2.1;have nu:(Aa (toString rr.2.1)).length<=8:=A2 (qgo u1 (Int.le_trans u2 En)).2.2.2.1 En;have nt:(Aa (toString rr.2.2)).length<=8:=A2 (qgo t1 (Int.le_trans t2 En)).2.2.2.1 En;have ak:rr.2.1.natAbs.log2<1920:=Da (DW _) (by lia);have au:rr.2.2.natAbs.log2<1920:=Da (DW _) (by lia);have z1:(Aa "longer ").length<=10:=Ek;have z2:(Aa " ").length<=10:=Ek;have z3:(Aa " times ").length<=10:=Ek;have z0:Co.length=0:=rfl;refine⟨_,_,Z,SqT.of (sm _ _ X),Z,_,_,Z,_,_,Z,_,_,Z,Z,?_⟩;refine⟨_,Z,qad (by simp only[qaw];lia),(nmc Z (.inr ⟨_,Z,qad (by lia),_,Z,qad (by simp only[qaw];lia),_,Z,qad (by simp only[qaw];lia),(nmc Z (.inr ⟨_,Z,qad (by lia),_,Z,qad (by simp only[qaw];lia),_,Z,qad (by simp only[qaw];lia),?_⟩))⟩))⟩;refine(nmc Z (.inl ⟨_,Z,ak,_,Z,qad (by simp only[qaw];lia),_,Z,qad (by simp only[qaw];lia),(nmc Z (.inl ⟨_,Z,au,_,Z,qad (by simp only[qaw];lia),qad (by simp only[qaw];lia),?_⟩))⟩));rw[show Co++Aa "longer " ++ r.name++Aa " " ++ rr.1++Aa " " ++ Aa (toString rr.2.1)++Aa " times " ++ Aa (toString rr.2.2)=qal (.longer r.name rr.1 rr.2.1 rr.2.2) by rw[qjv];exact qjj _ _ _ _];exact d
  rw[show us.map f=qaq (r.longer.map (λt=>Rw7.longer r.name t.1 t.2.1 t.2.2)) by
   unfold qaq;refine B0 λj=>?_;rw[Af,Af,Af,Af];cases I:r.longer[j]? with
   |none=>rw[B4 (by rw[lu];exact BG.mp I)];rfl
   |some rr =>obtain⟨b,B,X⟩:=ae.get (i:=j) (r:=qop rr) (by rw[Af,I];rfl);rw[B];show some (match G4 b with|some (.tup [.str y,.int u,.int t])=>V.str (qal (.longer r.name y u t))|_=>.non)=_;rw[X];rfl]
  generalize e:upd G4 p5 _=F5;obtain⟨t5,f5⟩:=alg e aq;clear e;refine⟨q,p5,_,_,Z,Z,t5 _ _ e4,f5,qad (by simp only[qcl,Ai,Ab,Am,Bf];lia),?_⟩;have l:=qag (o:=.lst (qaq ([qae r]++r.ends.map (Rw7.ends r.name)++r.anew.map (Rw7.anew r.name))++qaq (r.longer.map (λt=>Rw7.longer r.name t.1 t.2.1 t.2.2)))) (m.trans t5) L;have Y:upd F5 q (.lst (qaq ([qae r]++r.ends.map (Rw7.ends r.name)++r.anew.map (Rw7.anew r.name))++qaq (r.longer.map (λt=>Rw7.longer r.name t.1 t.2.1 t.2.2)))) q=some (.lst (qaq ([qae r]++r.ends.map (Rw7.ends r.name)++r.anew.map (Rw7.anew r.name)++r.longer.map (λt=>Rw7.longer r.name t.1 t.2.1 t.2.2)))):=by rw[qu];unfold qaq;simp only[Ar]
  generalize upd F5 q _=G5 at l Y |-;have G:=l _ _ hx;have g:=x.hs.same l;apply useHp (p:=λJ=>Same H J/\J q=some (.lst (qaq ([qae r]++r.ends.map (Rw7.ends r.name)++r.anew.map (Rw7.anew r.name)++r.longer.map (λt=>Rw7.longer r.name t.1 t.2.1 t.2.2)++qcv r.name r.still))))
  .intro ag;cases M:r.still with
   |none =>rw[M]at g;have g:v=.non:=g;subst g;refine(nmc Z (flc (G) (T.kA) (zd T.kC En) (rfl) ⟨Z,(nmc Z (qew Z ?_))⟩));have d:Same H G5/\G5 q=some (.lst (qaq ([qae r]++r.ends.map (Rw7.ends r.name)++r.anew.map (Rw7.anew r.name)++r.longer.map (λt=>Rw7.longer r.name t.1 t.2.1 t.2.2)++qcv r.name r.still))):=⟨l,by rw[Y,M];simp[qcv]⟩;generalize G5=W5 at d |-;exact ag W5 d
   |some z =>rw[M]at g;obtain⟨pz,rfl,hz⟩:=g;have zk:=c.kin.2.2.2.2.2 z M;have ro:qc5 (.still r.name z.1 z.2):=⟨c.nm,zk.1,zk.2⟩;have jw:=qyq ro (show 4<=10 by decide);refine(nmc Z (flc (G) (T.kA) (zd T.kC En) (rfl) ⟨Z,(nmc Z (qfc (λz=>nomatch z) (nmc Z ⟨.inl ⟨Z,_,SqL.of Y⟩,Z,(nmc Z (nmc Z (flc (G) (T.kA) (zd T.kC En) (rfl) (txo (hz) Z (nmc Z (flc (G) (T.kA) (zd T.kC En) (rfl) (txo (hz) Z ⟨qad (show 4<=100000 by decide),λp6 n6=>?_⟩)))))))⟩)))⟩));generalize e:upd G5 p6 _=F6;obtain⟨t6,f6⟩:=alg e n6;clear e;refine⟨_,p6,qat (.still r.name z.1 z.2),Z,Z,SqL.of f6,jw.1,?_⟩;rw[jw.2];have aw:=t6 _ _ Y;refine⟨_,_,_,Z,Z,aw,qc0 (by simp only[qcl,Ai,Ab,Am,Bf];lia),?_⟩;exact ag _ ⟨qag (l.trans t6) L,by rw[qu,M];unfold qaq qcv;simp only[Ar,At,BE,AB]⟩
  rintro G6 ⟨R,e6⟩;have lst:(qcv r.name r.still).length<=1:=by cases r.still <;>simp[qcv]
  have ay:=R _ _ hx;have af:=R _ _ x.hy;refine(nmc Z (nmc Z (flc (ay) (T.kA) (zd T.kC En) (rfl) ⟨_,Z,⟨_,SqL.of af⟩,?_⟩)));refine qb0 (λv=>match v with | .str y=>.str (qal (.yields r.name y))|_=>.non) (λσ'=>∃v,σ'=[v,some (.str r.name)]) (qbn (K:=K) (SqL.of af)) (qad (by rw[Ab];lia)) ⟨none,Z⟩ (λv σ' H' U D sm C d=>?_) qb5 λp7 bb=>?_
  .obtain⟨W,rfl⟩:=C;obtain⟨y,hy,rfl⟩:=A8.mp D;have y8:y.length<=8:=(qml r c _ (by simp[hy])).2.1;have d:=d [some (.str y),some (.str r.name)] ⟨_,Z⟩;have O:(qal (.yields r.name y)).length<=90:=(qik (show qc5 (.yields r.name y) from ⟨c.nm,qml r c _ (by simp[hy])⟩)).1;have z1:(Aa "yields ").length<=10:=Ek;have z2:(Aa " ").length<=10:=Ek;have z0:Co.length=0:=rfl;clear O;refine⟨_,Z,qad (by simp only[qaw];lia),(nmc Z (.inr ⟨_,Z,qad (by lia),_,Z,qad (by simp only[qaw];lia),_,Z,qad (by simp only[qaw];lia),(nmc Z (.inr ⟨_,Z,qad (by lia),_,Z,qad (by simp only[qaw];lia),qad (by simp only[qaw];lia),?_⟩))⟩))⟩;rw[show Co++Aa "yields " ++ r.name++Aa " " ++ y=qal (.yields r.name y) by rw[qjv];exact qji _ _];exact d
  rw[show ((r.yields.map V.str).map λv=>match v with | .str y=>V.str (qal (.yields r.name y))|_=>.non)=qaq (r.yields.map (Rw7.yields r.name)) by unfold qaq;rw[AM,AM,AM];rfl];generalize e:upd G6 p7 _=F7;obtain⟨t7,f7⟩:=alg e bb;clear e;refine⟨q,p7,_,_,Z,Z,t7 _ _ e6,f7,qad (by simp only[qcl,Ai,Ab,Am,Bf];lia),?_⟩;have a0:=qag (o:=.lst (qaq ([qae r]++r.ends.map (Rw7.ends r.name)++r.anew.map (Rw7.anew r.name)++r.longer.map (λt=>Rw7.longer r.name t.1 t.2.1 t.2.2)++qcv r.name r.still)++qaq (r.yields.map (Rw7.yields r.name)))) (R.trans t7) L;have e7:upd F7 q (.lst (qaq ([qae r]++r.ends.map (Rw7.ends r.name)++r.anew.map (Rw7.anew r.name)++r.longer.map (λt=>Rw7.longer r.name t.1 t.2.1 t.2.2)++qcv r.name r.still)++qaq (r.yields.map (Rw7.yields r.name)))) q=some (.lst (qaq ([qae r]++r.ends.map (Rw7.ends r.name)++r.anew.map (Rw7.anew r.name)++r.longer.map (λt=>Rw7.longer r.name t.1 t.2.1 t.2.2)++qcv r.name r.still++r.yields.map (Rw7.yields r.name)))):=by rw[qu];unfold qaq;simp only[Ar]
  generalize upd F7 q _=G7 at a0 e7 |-;refine(nmc Z (k q G7 L a0 ?_));rw[e7,qc4];unfold qbc;simp only[AB,List.singleton_append,Bb,AG]
theorem qnl (T:Txt K mg a):FnOk P w K mg base (CX1 P w) 3 a.dP a.mR ["self","name"] (spRuO a):=by
 refine okX T.lG.fn qm4 (λvs H Q E h=>?_) (λcdv A outer s H vs Q E f h=>?_)
 .obtain⟨_,_,_,_,_,rfl,_⟩:=h
  all_goals rfl
 .obtain⟨x,rs,l,os,y,rfl,bk,k,u⟩:=h;refine⟨_,(qj (zm (qjz (qgu (qfb f) (pv 1) (qak (pv 0) Z))) (qt (qc8 Z (Takes.at qbg) (qd2 T.kM.xc T.kQ.ty (qed T) (f.mono En) Z T.gU T.kM.kp T.kQ.bd .nil qap (qh (pv 1) qm qi)))) qan)
   (qt (zc (qhz (qfb f) (qak (pv 0) Z) (pv 1) (λ_ _=>rfl))))),?_⟩
  obtain⟨dx,po,d,i,h2,q⟩:=bk.bk;have g:=DGet.k (k:=.inr y) q;rw[qfo y bk.ln]at g;cases pn:qaj rs y with
  |none =>rw[pn]at g;refine(nmc Z (nmc Z (flc (i) (T.kT) (zd T.gA En) (rfl) ⟨d,_,Z,g,(nmc Z (qdw ?_))⟩)));exact(nmc Z ⟨qad (show 1<=100000 by decide),λe o=>⟨e,a.kO,_,_,Z,qu,T.kM,zd T.bR En,λm H9 c kp t b=>⟨Z,e,_,some m,Z,t,⟨_,b⟩,T.gS,(u pn) e m _ (qag (((Same.refl H)).trans (qbb o kp)) (((Same.refl H)).free o)) qu ((ze (λz=>by rw[z,qu]at c;cases c)).trans b)⟩⟩⟩)
  |some j =>
   obtain⟨r,n,hn⟩:=qbu pn;have lt:j<l.length:=by rw[bk.ln];exact(Ac.mp n).1
   rw[pn,show (some j).bind (λj=>(l[j]?).map λA=>V.ref A.p)=(l[j]?).map λA=>V.ref A.p from Z,Ae lt]at g;exact(nmc Z (nmc Z (flc (i) (T.kT) (zd T.gA En) (rfl) ⟨d,_,Z,g,(nmc Z (qcr (nmc Z (flc (i) (T.kT) (zd T.gA En) (rfl) (nmc Z ⟨d,_,Z,g,k j _ pn (Ae lt)⟩)))))⟩)))
theorem qfz (T:Txt K mg a):FnOk P w K mg base CX0 4 a.lT a.fH ["book"] (spShw a):=by
 refine T.kG.fn.ok qfn (λvs H Q E h=>?_) (λcdv A outer s H vs Q E p h=>?_)
 .obtain⟨_,_,_,_,rfl,_⟩:=h
  all_goals rfl
 .obtain⟨x,rs,N,u,rfl,bk,n,U,k⟩:=h;refine⟨_,(qj (zg (i:=1) qfn.nd Z (A0 Z) (zr qm))
   (qj (qcd Bo Z (qbd (qns (pv 0) T.kT T.pN (qjr T) (p.mono En) T.nO.bd .nil qap)) (qam (i:=2) qfn.nd Z (A0 Z)) (qt (qiq (i:=1) qfn.nd Z (A0 Z) (zn (qpa T) (p.mono En) Z T.bY.mgx T.bY.fn.kp T.bY.bd .nil qap (qh (qwq (pv 0) T.kT T.pP (qnl T) (p.mono En) T.lG.bd .nil qq1 (qh (pv 2) qm qi)) qm zu)) qit)))
   (qt (zc (qbv BB C0 C1 qgw zq (qh (pv 1) qm qi)))))),?_⟩
  obtain⟨dx,po,pd,m,hx2,hx3⟩:=id bk.bk;have l6:=bk.l6;refine⟨qdg,λq G=>?_⟩;generalize I:upd H q _=H1;obtain⟨o,S⟩:=alg I G;clear I;refine(nmc Z ⟨x,dx,_,Z,o _ _ m,Z,x,rs,N,u,Z,(bk.same o).bk,bk.ln,bk.l6,λpn H2 nn B y=>?_⟩);have R:pn≠q:=λz=>by rw[z,S]at nn;cases nn
  have M:=o.trans B;refine⟨_,Z,⟨_,SqL.of y⟩,qc7 (K:=K) (a:=pn) (xs:=(rs.map RR.name).map V.str) (λi σ J=>Same H J/\J pn=some (.lst ((rs.map RR.name).map V.str))/\J q=some (.lst (qaq (qai (rs.take i))))/\∃t:Option V,σ=[some (.ref x),some (.ref q),t]) ⟨M,y,B _ _ S,none,Z⟩ (λi σ J _ h=>SqL.of h.2.1) ?_ ?_⟩
  .rintro i v σ J c ⟨d,O,g,t,rfl⟩;rw[Af,Af]at c;cases b:rs[i]? with
   |none=>rw[b]at c;cases c
   |some r =>
   rw[b]at c;cases c;have l:=bk.same d;refine(nmc Z (nmc Z ⟨x,dx,_,Z,d _ _ m,Z,(nmc Z ⟨x,rs,N,u,r.name,Z,l,λj A L X=>?_,λD=>absurd (Cb (f:=RR.name) (Al b)) (qcp.mp D)⟩)⟩));rw[qd4 bk.nn b]at L;cases L;have hnx:(qai (rs.take (i+1))).length=(qai (rs.take i)).length+(qbr r).length:=by rw[qa6 b];unfold qai;rw[AL,Ai];simp[Bg]
   have hll:(qai (rs.take (i+1))).length<=100:=by have:=qvz (rs:=rs) (j:=i+1) (k:=rs.length) (Ac.mp b).1;unfold hd at this;rw[Be]at this;lia
   refine⟨A,r,Z,l.ru i r A b X,n r (Al b),λW J2 n2 e F=>?_⟩;refine⟨q,W,_,_,Z,Z,e _ _ g,F,qad (by rw[qcl,qcl];lia),?_⟩;refine⟨qag (d.trans e) G,by rw[ze R];exact e _ _ O,?_,_,Z⟩;rw[qu,qa6 b];unfold qai qaq;rw[AL,Ar,Ar];simp[Bg]
  .rintro σ J ⟨d,O,g,t,rfl⟩;rw[Ab,Ab,Be]at g;have C:=qim (qg3 (qhs n) U);refine⟨Z,(nmc Z ⟨_,q,(qai rs).map qal,Z,Z,SqL.of g,C.1,?_⟩)⟩;rw[C.2];exact k J d
theorem qa1 (T:Txt K mg a):FnOk P w K mg base CX0 1 a.fS a.nF ["_law_script","_law_k"] (spCell K):=by
 refine T.kD.fn.ok qon (λvs H Q E h=>?_) (λcdv A outer s H vs Q E hr h=>?_)
 .obtain⟨_,_,_,rfl,_⟩:=h
  all_goals rfl
 .obtain⟨l,d,i,rfl,b,f,k⟩:=h;refine⟨_,(qj (zm (zf qtw (pv 1) (zo qa9 (by rfl) T.kE qa5 (qh (pv 0) qm qi)) (qah _)) (qt (zc (ja jc (pv 0) (pv 1) (λ_ _=>rfl)))) qan)
   (qt (zc qp))),?_⟩
  refine(nmc Z (nmc Z ⟨_,_,Z,.inl ⟨_,b,Z⟩,(iic Z Z (nmc Z ?_))⟩));refine qdk (λc=>?_) (λc=>?_)
  .exact(nmc Z (nmc Z ⟨_,_,_,_,Z,Z,b,qvc f (of_decide_eq_true c),k⟩))
  .have e:cell d i=0:=qvd (λz=>c (decide_eq_true z));rw[e]at k;exact k
theorem qlh (T:Txt K mg a):FnOk P w K mg base CX0 1 a.nK a.lO ["_law_cell","_law_many"] spWo7:=by
 refine T.gF.fn.ok qbj (λvs H Q E h=>?_) (λcdv A outer s H vs Q E hr h=>?_)
 .obtain⟨_,_,rfl,_⟩:=h
  all_goals rfl
 .obtain⟨c,m,rfl,hm,k⟩:=h;refine⟨_,(qj (zg (i:=2) qbj.nd Z (A0 Z) zq)
   (qj (zg (i:=3) qbj.nd Z (A0 Z) (zh qa3 (zh qa3 qp (zh qav (pv 0) qp)) (zh qav (zh qbe (pv 0) qp) (zh qir qp (zh qav (pv 0) qp)))))
   (qj (zg (i:=4) qbj.nd Z (A0 Z) (zh qav (zh qbe (pv 0) qp) (zh qir (pv 3) (zh qav (pv 0) qp))))
   (qj (zg (i:=5) qbj.nd Z (A0 Z) (zr (qh qp (qh qp (qh qp (qh qp (qh qp (qh qp (qh qp (qh qp qm zb) zb) zb) zb) zb) zb) zb) zb)))
   (qj (zg (i:=6) qbj.nd Z (A0 Z) zq)
   (qj (qcd Bo Z (qcc Z T.kL (qh (pv 3) qm qi)) (qam (i:=7) qbj.nd Z (A0 Z)) (qt (zg (i:=6) qbj.nd Z (A0 Z) (zh qac (pv 6) (ja qt0 (pv 2) (zh qav (zh qav (zh qdv (pv 0) qp) (ja jc (pv 5) (pv 7) (λ_ _=>rfl))) qp) (λ_ _=>rfl))))))
   (qj (zg (i:=8) qbj.nd Z (A0 Z) (zr qm))
   (qj (qcd Bo Z (qcc Z T.kL (qh (pv 1) qm qi)) (qam (i:=7) qbj.nd Z (A0 Z)) (qj (zg (i:=9) qbj.nd Z (A0 Z) (zh qav (zh qa3 (zh qbe (pv 0) qp) (zh qbe (pv 7) (zh qa3 qp (zh qav (pv 0) qp)))) qp))
   (qj (zg (i:=10) qbj.nd Z (A0 Z) (zh qac (zh qac (qba qpr (pv 6) qct (qa7 (pv 4))) (ja qt0 (pv 2) (pv 9) (λ_ _=>rfl))) (qba qpr (pv 6) (qa7 (zh qa3 (pv 4) qp)) qct)))
   (qj (zm (PW.pt (qfg (zf qbk (zh qav (pv 0) qp) qp (qah _)) (qgs (zf qbk (zh qav (pv 7) qp) qp (qah _))))) (qt (zg (i:=10) qbj.nd Z (A0 Z) (qba qpr (pv 10) qct (qa7 (zh qa3 (pv 4) qp))))) qan)
   (qt (zj (qbv A7 AY AZ qbh (pv 8) (qh (pv 10) qm qi))))))))
   (qt (zc (pv 8))))))))))),?_⟩
  have za:=az_len;obtain⟨z,n,e,eS,en,B,U,R,hz,g1,g2⟩:=num46 c;have G:m<=52:=hm.elim (λh=>A2 h En) (·.2);refine(nmc Z (icc Z Z (pos En) (iic Z Z (nmc Z (icc Z Z ⟨En,En⟩ (nmc Z (icc Z Z (pos En) (iic Z Z (iic Z Z ⟨(pos g1),(iic Z Z ?_)⟩)))))))));dsimp only[];rw[eS];refine(nmc Z (icc Z Z ⟨En,En⟩ (nmc Z (nmc Z (icc Z Z (pos En) (iic Z Z (iic Z Z ⟨(pos g2),?_⟩)))))));dsimp only[];rw[en];refine⟨qad (show 8<=100000 by decide),λd Y=>?_⟩;have M:=zi (o:=.lst (prL.map V.int)) Y;have S:upd H d (.lst (prL.map V.int)) d=some (.lst (prL.map V.int)):=qu;change _ at S;have e0:upd H d (.lst [V.int 100003,V.int 100019,V.int 100043,V.int 100049,V.int 100057,V.int 100069,V.int 100103,V.int 100109])=upd H d (.lst (prL.map V.int)):=rfl;rw[e0];generalize upd H d (.lst (prL.map V.int))=H0 at M S |-;have F:=rb (n:=z) (A2 hz En);refine(nmc Z ⟨_,Z,F.1,F.2,qdu (lo:=0) (n:=((z:Int)).toNat) (λi σ b=>b=H0/\∃(x:Str)(f:Option V),σ=[some (.int c),some (.int (m:Int)),some (.str az),some (.int (z:Int)),some (.int (n:Int)),some (.ref d),some (.str x),f,none,none,none]/\x.length=i/\x.cps.toList.all low=true)
   ⟨Z,Aa "",none,Z,Ek,Ek⟩ ?_ ?_⟩)
  .rintro i σ b r ⟨rfl,x,f,rfl,hl,t⟩;have r:i<z:=r;rw[BX];obtain⟨p,p0,pa⟩:=pr_at (k:=i) (AC r hz);obtain⟨j,ej,j26⟩:∃j:Nat,c*48271 % p % 26=(j:Int)/\j<26:=md _ 26 En;refine(nmc Z (nmc Z (nmc Z (iic Z Z ⟨.inr ⟨En,En⟩,(nmc Z (nmc Z (lxo (S) (qbp pa) (iic Z Z ⟨(pos p0),(icc Z Z (pos En) ⟨_,_,_,Z,Z,qad (by rw[za];decide),(show atI az.cps.toList (c*48271 % p % 26)=_ by rw[ej];exact qyn j26),_,_,Z,Z,qad (show x.length+1<=100000 by lia),?_⟩)⟩))))⟩))));refine⟨Z,_,_,Z,?_,?_⟩
   .rw[qaw,hl];rfl
   .rw[qdq,List.all_append,t];show (true && [97+j].all low)=true;rw[D3,low26 j26];rfl
  .rintro σ b ⟨rfl,st,f,rfl,hl,t⟩;have hl:st.length=z:=hl;refine⟨qdg,λq hq=>?_⟩;have W:=M.trans (zi (o:=.lst []) hq);have h1:=qu (H:=b) (a:=q) (o:=.lst []);have nq:=M.free hq;generalize upd b q _=H1 at W h1 |-;have bm:=rb (n:=m) (A2 G En);refine(nmc Z ⟨_,Z,bm.1,bm.2,qdu (lo:=0) (n:=((m:Int)).toNat) (λi σ b=>Same H b/\∃f u g:Option V,σ=[some (.int c),some (.int (m:Int)),some (.str az),some (.int (z:Int)),some (.int (n:Int)),some (.ref d),some (.str st),f,some (.ref q),u,g]/\b q=some (.lst (((AR i).map (wdS st.cps.toList n e (c / 128))).map V.str)))
    ⟨W,_,none,none,Z,h1⟩ ?_ ?_⟩)
   .rintro i σ b r ⟨L,f,u,g,rfl,l⟩;have r:i<m:=r;rw[BX];have I:((((AR i).map (wdS st.cps.toList n e (c / 128))).map V.str)).length<=90000:=by rw[Ab,Ab,Bm];exact A2 (Nat.le_of_lt r) (A2 G En)
    have ed:(c / 128+(i:Int) / (1+c % 2)) % 26=(((sgn (c / 128) e i-97:Nat)):Int):=sgn_ed B;have N:sgn (c / 128) e i-97<26:=sgn_26;have O:97+(sgn (c / 128) e i-97)=sgn (c / 128) e i:=sgn_97;refine(nmc Z (icc Z Z ⟨En,En⟩ (nmc Z (nmc Z (icc Z Z (pos En) (iic Z Z (iic Z Z ⟨cd2 B U,(iic Z Z (icc Z Z (pos En) ?_))⟩)))))));dsimp only[];rw[ed];have D:=qyn N;rw[O]at D;have X:=A2 (DJ st none (some (n:Int))) (Cn hl);have t2:=A2 (DJ st (some ((n:Int)+1)) none) (Cn hl);refine(nmc Z (nmc Z ⟨_,Z,_,Z,qad (A2 (Cn hl) (A2 hz En)),(nmc Z (nmc Z ⟨_,_,_,Z,Z,qad (by rw[za];decide),D,_,_,Z,Z,qad (A2 (CD X) (A2 (CD hz) En)),(nmc Z (nmc Z (iic Z Z ⟨_,Z,_,Z,qad (A2 (Cn hl) (A2 hz En)),_,_,Z,Z,qad (by rw[qaw];exact A2 (Nat.add_le_add (CD X) t2) (A2 (Nat.add_le_add (CD hz) hz) En)),?_⟩)))⟩))⟩));dsimp only[];rw[qxo (st:=st) (n:=n) (c:=sgn (c / 128) e i) (by rw[hl];exact A2 (Nat.le_add_right _ _) R)];have J:st.cps.toList.length=z:=by rw[AO];exact hl
    have lw:(⟨(wdL st.cps.toList n (sgn (c / 128) e i)).toArray⟩:Str).length<=100000:=by show (wdL st.cps.toList n (sgn (c / 128) e i)).toArray.size<=100000;rw[An];unfold wdL;rw[Ai,Am,A6,Bv,J];lia
    have v:∀w:Str,w=wdS st.cps.toList n e (c / 128) i->∀u:Option V,Same H (upd b q (.lst ((((AR i).map (wdS st.cps.toList n e (c / 128))).map V.str)++[V.str w])))/\∃f v9' g:Option V,[some (V.int c),some (.int (m:Int)),some (.str az),some (.int (z:Int)),some (.int (n:Int)),some (.ref d),some (.str st),some (.int (i:Int)),some (.ref q),u,some (.str w)]=[some (V.int c),some (.int (m:Int)),some (.str az),some (.int (z:Int)),some (.int (n:Int)),some (.ref d),some (.str st),f,some (.ref q),v9',g]/\upd b q (.lst ((((AR i).map (wdS st.cps.toList n e (c / 128))).map V.str)++[V.str w])) q=some (.lst (((AR (i+1)).map (wdS st.cps.toList n e (c / 128))).map V.str)):=λw hw u=>by refine⟨qag L nq,_,_,_,Z,?_⟩;rw[qu,Cw,Ar,Ar,hw];rfl
    refine(nmc Z (icc Z Z (pos En) ⟨Z,(nmc Z ?_)⟩));by_cases y:c % 2=1
    .refine qe5 (congrArg V.int y) (nmc Z (icc Z Z (pos En) ⟨Z,(nmc Z ?_)⟩));by_cases C:(i:Int) % 2=1
     .refine qe5 (congrArg V.int C) (nmc Z (nmc Z (iic Z Z ⟨_,Z,_,Z,qad lw,?_⟩)));dsimp only[];rw[cut_eq (by rw[J];exact A2 (Nat.le_add_right _ _) R)];refine(nmc Z ⟨.inl ⟨Z,_,SqL.of l⟩,(nmc Z ⟨_,_,_,Z,Z,l,qc0 I,?_⟩)⟩);exact v _ (by unfold wdS;rw[if_pos ⟨eo1 B y,io1 C⟩]) _
     .refine qay (λz=>C (V.int.inj z)) (nmc Z ⟨.inl ⟨Z,_,SqL.of l⟩,(nmc Z ⟨_,_,_,Z,Z,l,qc0 I,?_⟩)⟩);exact v _ (by unfold wdS;rw[if_neg (λz=>ni1 C z.2)]) _
    .refine qay (λz=>y (V.int.inj z)) (qcr (nmc Z ⟨.inl ⟨Z,_,SqL.of l⟩,(nmc Z ⟨_,_,_,Z,Z,l,qc0 I,?_⟩)⟩));exact v _ (by unfold wdS;rw[if_neg (λz=>ne1 B y z.1)]) _
   .rintro σ b ⟨L,f,u,g,rfl,l⟩;refine(nmc Z (k q b _ nq L l (by rw[Ab,Bm];rfl) (wds_nd U (by rw[AO];show n+1+e<=st.length;rw[hl];exact R) (λk hk=>?_)) (λx hx=>?_)))
    .rcases Nat.le_one_iff_eq_zero_or_eq_one.mp U with rfl|rfl
     .rw[Nat.div_one];lia
     .lia
    obtain⟨j,_,rfl⟩:=A8.mp hx;have J:st.cps.toList.length=z:=by rw[AO];exact hl
    exact wds_ok t (by lia) (by lia) j
theorem qha (T:Txt K mg a):FnOk P w K mg base CX0 1 a.nG a.fN ["_law_words_here","_law_cell"] spKp2:=by
 refine T.kZ.fn.ok qb8 (λvs H Q E h=>?_) (λcdv A outer s H vs Q E hr h=>?_)
 .obtain⟨_,_,_,rfl,_⟩:=h
  all_goals rfl
 .obtain⟨p,c,ws,rfl,hp,nd,ok,l100,k⟩:=h;refine⟨_,(qj (zg (i:=2) qb8.nd Z (A0 Z) (zr (qh zq (qh zq (qh zq (qh zq (qh zq (qh zq (qh zq (qh zq qm zb) zb) zb) zb) zb) zb) zb) zb)))
   (qj (zg (i:=2) qb8.nd Z (A0 Z) (zh qci (pv 2) (zr (qh zq (qh zq (qh zq (qh zq (qh zq (qh zq qm zb) zb) zb) zb) zb) zb))))
   (qj (qcd Bo Z (qcc Z T.kL (qh qp qm zb)) (qam (i:=3) qb8.nd Z (A0 Z)) (qj (zg (i:=4) qb8.nd Z (A0 Z) (ja jc (pv 2) (zh qav (zh qbe (pv 1) (zh qa3 qp (zh qdv qp (pv 3)))) qp) (λ_ _=>rfl)))
   (qj (zg (i:=5) qb8.nd Z (A0 Z) (zh qav (zh qa3 (zh qdv (zh qbe (pv 1) qp) qp) (zh qdv qp (pv 3))) (zo (qrz Z) (by rfl) T.pU qva (qh qp (qh (zo qa9 (by rfl) T.kE qa5 (qh (pv 0) qm qi)) qm zu) zb))))
   (qt (zm (PW.pt (qfg (zf qbk (zh qav (pv 1) qp) qp (qah _)) (qfg (zf qtw (pv 5) (zo qa9 (by rfl) T.kE qa5 (qh (pv 0) qm qi)) (qah _)) (qgs (zf qfi (pv 4) (pv 0) (by with_unfolding_all rfl)))))) (qt (zg (i:=0) qb8.nd Z (A0 Z) (zh qci (zh qci (qba qb9 (pv 0) qct (qa7 (pv 5))) (zr (qh (pv 4) qm qi))) (qba qb9 (pv 0) (qa7 (zh qa3 (pv 5) qp)) qct)))) qan)))))
   (qt (zc (pv 0)))))),?_⟩
  refine⟨qad (show 8<=100000 by decide),λq1 n1=>?_⟩;generalize b:upd H q1 _=H1;obtain⟨s1,e1⟩:=alg b n1;clear b;refine(nmc Z ⟨qad (show 6<=100000 by decide),λq2 n2=>?_⟩);generalize b:upd H1 q2 _=H2;obtain⟨O,e2⟩:=alg b n2;clear b;refine⟨_,_,_,_,Z,Z,O _ _ e1,e2,qad (show 8+6<=100000 by decide),λu n3=>?_⟩;generalize b:upd H2 u _=H3;obtain⟨X,G⟩:=alg b n3;clear b;have G:H3 u=some (.lst (qio.map V.str)):=G;have v:=s1.trans (O.trans X);have x:=rb (n:=2) En;refine⟨_,Z,x.1,x.2,qdu (lo:=0) (n:=2) (λi σ J=>Same H J/\J u=some (.lst (qio.map V.str))/\∃(g:Addr)(d:List Str)(L F I:Option V),J g=some (.lst (d.map V.str))/\WsOk ws.length d/\σ=[some (.ref g),some (.int c),some (.ref u),L,F,I]) ⟨v,G,p,ws,none,none,none,v _ _ hp,⟨Z,nd,ok⟩,Z⟩ ?_ ?_⟩
  .rintro i σ J S ⟨q,r,g,d,L,F,I,e,f,rfl⟩;have lz:=f.l;rw[BX];obtain⟨j,ej,hj⟩:∃j:Nat,c / (5+9*(i:Int)) % 14=(j:Int)/\j<14:=md _ 14 En;have S:i<2:=S;have hk:qio[j]?=some (qio[j]'hj):=Ae hj;have C:qbq (qio[j]'hj):=qwc _ (Bw hj);have aj:atI (qio.map V.str) (j:Int)=some (.str (qio[j]'hj)):=qbp (by rw[Af,hk];rfl);refine(nmc Z (nmc Z (nmc Z (iic Z Z ⟨.inl ⟨En,En⟩,(iic Z Z (iic Z Z ⟨⟨by lia,by lia⟩,(icc Z Z (pos En) ?_)⟩))⟩))));dsimp only[];rw[ej];refine⟨_,_,_,_,Z,Z,SqL.of r,aj,?_⟩;generalize qio[j]'hj=wd at C;have m:(d.map V.str).length=d.length:=Ab _;have N:(if (((d.map V.str).length:Nat):Int) > 1 then (((d.map V.str).length:Nat):Int) else 1)=((if d.length > 1 then d.length else 1:Nat):Int):=by
    rw[m];by_cases o:d.length > 1
    .rw[if_pos o,if_pos (by lia)]
    .rw[if_neg o,if_neg (by lia)];rfl
   have pm:0<(if d.length > 1 then d.length else 1):=by
    by_cases o:d.length > 1
    .rw[if_pos o];lia
    .rw[if_neg o];decide
   obtain⟨t,Y,ht⟩:=md (c / 5*7+5*(i:Int)) _ pm;refine(nmc Z (icc Z Z ⟨En,En⟩ (iic Z Z ⟨.inr ⟨En,En⟩,(nmc Z (iic Z Z ⟨.inl ⟨En,En⟩,(iic Z Z (nmc Z ⟨_,_,Z,.inl ⟨_,SqL.of e,Z⟩,_,_,Z,(iic Z Z ⟨pos (by rw[N];lia),?_⟩)⟩))⟩))⟩)));dsimp only[];rw[N,Y];refine(nmc Z (icc Z Z (pos En) ⟨Z,(nmc Z (qdk (λo=>?_) (λo=>?_)))⟩))
   .refine(nmc Z (nmc Z ⟨_,_,Z,.inl ⟨_,SqL.of e,Z⟩,(iic Z Z (nmc Z (qdk (λR=>?_) (λR=>?_))))⟩))
    .have tl:t<d.length:=by
      have:=of_decide_eq_true R
      rw[m]at this
      lia
     refine(nmc Z (nmc Z ⟨_,_,Z,.inl (SqL.of e),Z,qfe _,(nmc Z ?_)⟩))
     show if (!inV (.str wd) (d.map V.str))=true then _ else _
     rw[qfd]
     refine qdk (λD=>?_) (λD=>?_)
     .have nm:wd∉d:=λz=>by
       rw[Cz.mpr z]at D
       cases D
      refine(nmc Z (nmc Z ⟨_,Z,_,_,Z,SqL.of e,λp5 n5=>?_⟩))
      rw[qs7]
      generalize b:upd J p5 _=J5
      obtain⟨s5,e5⟩:=alg b n5
      clear b
      refine(nmc Z ⟨qad (show 1<=100000 by decide),λp6 n6=>?_⟩)
      generalize b:upd J5 p6 _=J6
      obtain⟨U,e6⟩:=alg b n6
      clear b
      refine⟨_,_,_,_,Z,Z,U _ _ e5,e6,qad (by rw[A6,m];show _+1<=_;lia),λp7 n7=>?_⟩
      generalize b:upd J6 p7 _=J7
      obtain⟨s7,e7⟩:=alg b n7
      clear b
      have B:=s5.trans (U.trans s7)
      refine(nmc Z (nmc Z (iic Z Z ⟨_,Z,_,_,Z,SqL.of (B _ _ e),λp8 n8=>?_⟩)))
      rw[show (t:Int)+1=((t+1:Nat):Int) from Z,qgj _ (t+1) (by rw[m];lia)]
      generalize b:upd J7 p8 _=J8
      obtain⟨M,e8⟩:=alg b n8
      clear b
      refine⟨_,_,_,_,Z,Z,M _ _ e7,e8,qad (by rw[Ai,A6,Bv,m];show _+1+_<=_;lia),λW n9=>?_⟩
      generalize b:upd J8 W _=J9
      obtain⟨s9,e9⟩:=alg b n9
      clear b
      have y:=B.trans (M.trans s9)
      refine⟨q.trans y,y _ _ r,W,_,_,_,_,?_,f.put tl nm C,Z⟩
      rw[e9]
      simp only[Ar,C3,Dh,At,BE]
     .exact⟨q,r,g,d,_,_,_,e,f,Z⟩
    .exact qcr ⟨q,r,g,d,_,_,_,e,f,Z⟩
   .exact qcr ⟨q,r,g,d,_,_,_,e,f,Z⟩
  .rintro σ J ⟨q,r,g,d,L,F,I,e,f,rfl⟩;exact(nmc Z (k g J d q e f.l f.nd f.ok))
theorem qpb (T:Txt K mg a):FnOk P w K mg base CX0 2 a.fJ a.mO ["_law_script","_law_at","_law_names"] (spYl K):=by
 refine T.gW.fn.ok qcz (λvs H Q E h=>?_) (λcdv A outer s H vs Q E M h=>?_)
 .obtain⟨_,_,_,_,_,rfl,_⟩:=h
  all_goals rfl
 .obtain⟨l,pn,d,g,names,rfl,O,hn,Y,hk,l6,k⟩:=h;refine⟨_,(qj (zg (i:=3) qcz.nd Z (A0 Z) (zn (qa1 T) (M.mono En) Z T.kD.mgx T.kD.fn.kp T.kD.bd .nil qap (qh (pv 0) (qh (zh qa3 qp (zh qdv qp (pv 1))) qm zw) qi)))
   (qj (zg (i:=4) qcz.nd Z (A0 Z) (zh qav (zn (qa1 T) (M.mono En) Z T.kD.mgx T.kD.fn.kp T.kD.bd .nil qap (qh (pv 0) (qh (zh qa3 qp (zh qdv qp (pv 1))) qm zw) qi)) qp))
   (qj (zg (i:=5) qcz.nd Z (A0 Z) (zr qm))
   (qj (qcd Bo Z (qcc Z T.kL (qh (zo qa9 (by rfl) T.kE qa5 (qh (pv 2) qm qi)) qm zu)) (qam (i:=6) qcz.nd Z (A0 Z)) (qj (zg (i:=7) qcz.nd Z (A0 Z) (zh qav (zh qbe (pv 3) (zh qdv qp (ja jc (zr (qh qp (qh qp (qh qp (qh qp (qh qp (qh qp qm zb) zb) zb) zb) zb) zb)) (pv 6) (λ_ _=>rfl)))) qp))
   (qj (zg (i:=8) qcz.nd Z (A0 Z) (zh qav (zn (qa1 T) (M.mono En) Z T.kD.mgx T.kD.fn.kp T.kD.bd .nil qap (qh (pv 0) (qh (zh qa3 qp (zh qdv qp (pv 6))) qm zw) qi)) qp))
   (qt (zm (PW.pt (qfg (zf qye (pv 6) (pv 1) (qah _)) (qfg (zf qbk (pv 8) (pv 4) (qah _)) (qgs (zf qbk (pv 7) qp (qah _)))))) (qt (zj (qbv A7 AY AZ qbh (pv 5) (qh (ja jc (pv 2) (pv 6) (λ_ _=>rfl)) qm zx)))) qan)))))
   (qj (zm (zf qbk (zh qav (zh qbe (pv 3) qp) qp) qp (qah _)) (qt (zc (qkj Z (by rfl) T.gC (by rfl) T.mI qdy (qh (pv 5) qm qi)))) qan)
   (qt (zc (pv 5)))))))),?_⟩
  have s0:=Same.refl H;refine(nmc Z (nmc Z (icc Z Z (qpp En En) (iic Z Z ⟨_,_,_,Z,O,by lia,?_⟩))));dsimp only[];generalize cell d (7+5*(g:Int))=c;refine(nmc Z (nmc Z (icc Z Z (qpp En En) (iic Z Z ⟨_,_,_,Z,O,by lia,(icc Z Z (pos En) ?_)⟩))));refine⟨qdg,λq W=>?_⟩;obtain⟨F,R⟩:=alc (o:=.lst []) W;generalize upd H q _=H1 at F R |-;have ln:(names.map V.str).length=names.length:=Ab _;have D:=rb (n:=(names.map V.str).length) (by lia);have N:((cell d (3+5*(g:Int)) % 3:Int))=((owA d g:Nat):Int):=qrd;dsimp only[];rw[N];refine(nmc Z ⟨_,_,Z,.inl ⟨_,SqL.of (F _ _ hn),Z⟩,_,Z,D.1,D.2,qdu (lo:=0) (n:=(((names.map V.str).length:Int)).toNat) (λi σ p=>Same H p/\(∃ys:List Str,p q=some (.lst (ys.map V.str))/\ys.length<=i/\YlOk names (owA d) g ys/\∀y∈ys,∃b,b<i/\y=nm names b)/\∃I U L:Option V,σ=[some (.ref l),some (.int (g:Int)),some (.ref pn),some (.int c),some (.int ((owA d g:Nat):Int)),some (.ref q),I,U,L]) ⟨F,⟨[],R,Ax _,⟨.nil,λy f=>absurd f Av⟩,λy f=>absurd f Av⟩,none,none,none,Z⟩ ?_ ?_⟩)
  .rintro i σ p u ⟨x,⟨ys,t,ly,r,S⟩,I,U,L,rfl⟩;have u:i<names.length:=by rw[ln]at u;lia
   rw[BX];obtain⟨m,em,m1,m32⟩:=pos12 i (by lia);refine(nmc Z ⟨qad (show 6<=100000 by decide),λpp a0=>?_⟩);obtain⟨G,e3⟩:=alc (o:=.lst [V.int 1,V.int 2,V.int 4,V.int 8,V.int 16,V.int 32]) a0;generalize upd p pp _=H3 at G e3 |-;have j:=x.trans G;refine(nmc Z (lxo (e3) em (iic Z Z ⟨.inl ⟨En,En⟩,(iic Z Z ⟨⟨by lia,by lia⟩,(icc Z Z (pos En) ?_)⟩)⟩)));refine(nmc Z (nmc Z (icc Z Z (qpp En En) (iic Z Z ⟨_,_,_,Z,j.seq O,by lia,(icc Z Z (pos En) ?_)⟩))));dsimp only[];have B:((cell d (3+5*(i:Int)) % 3:Int))=((owA d i:Nat):Int):=qrd;rw[B];have J:=G _ _ t;have up:∀y∈ys,∃b,b<i+1/\y=nm names b:=λy f=>by obtain⟨b,R,t⟩:=S y f;exact⟨b,by lia,t⟩
   have stay:Same H H3/\(∃ys:List Str,H3 q=some (.lst (ys.map V.str))/\ys.length<=i+1/\YlOk names (owA d) g ys/\∀y∈ys,∃b,b<i+1/\y=nm names b):=⟨j,ys,J,by lia,r,up⟩;refine(nmc Z (nmc Z ⟨Z,(nmc Z ?_)⟩));by_cases v:i=g
   .exact qew (by rw[v]) (qcr ⟨stay.1,stay.2,_,_,_,Z⟩)
   .refine qfc (λz=>v (D6 (V.int.inj z))) (nmc Z (nmc Z ⟨Z,(nmc Z ?_)⟩));by_cases X:owA d i=owA d g
    .refine qe5 (by rw[X]) (nmc Z ⟨Z,(nmc Z (qdk (λc3=>?_) (λc3=>⟨stay.1,stay.2,_,_,_,Z⟩)))⟩);refine(nmc Z ⟨.inl ⟨Z,_,SqL.of J⟩,(nmc Z (nmc Z (lxo (j _ _ hn) (qbp (nmV u)) ⟨_,_,_,Z,Z,J,qc0 (by rw[Ab];lia),?_⟩)))⟩);refine⟨qag j W,⟨ys++[nm names i],by rw[qu,Ar];rfl,by rw[Ai];show _+1<=_;lia,⟨?_,λy f=>?_⟩,λy f=>?_⟩,_,_,_,Z⟩
     .rw[AV];refine⟨r.nd,by simp,λa ha b hb e=>?_⟩;obtain⟨b',hb',eb⟩:=S a ha;rw[e,Ao.mp hb]at eb;have:=qi3 Y u (by lia) eb;lia
     .rcases A9.mp f with z|z
      .exact r.ok y z
      .rw[Ao.mp z];exact⟨i,u,Z,v,X⟩
     .rcases A9.mp f with z|z
      .exact up y z
      .rw[Ao.mp z];exact⟨i,by lia,Z⟩
    .exact qay (λz=>X (D6 (V.int.inj z))) (qcr ⟨stay.1,stay.2,_,_,_,Z⟩)
  .rintro σ p ⟨x,⟨ys,t,ly,r,S⟩,I,U,L,rfl⟩;refine(nmc Z (icc Z Z ⟨En,En⟩ (icc Z Z (pos En) ⟨Z,(nmc Z (qdk (λv=>?_) (λv=>?_)))⟩)))
   .refine(nmc Z ⟨_,_,Z,SqL.of t,λq2 C=>?_⟩);rw[<- List.map_reverse];exact k q2 _ _ (x.free C) (x.trans (zi C)) qu (qvr r)
   .exact(nmc Z (k q p ys W x t r))
theorem qtq (T:Txt K mg a):FnOk P w K mg base CX0 2 a.hV a.mZ ["_law_script","_law_at","_law_names"] (spBaL K):=by
 refine T.bC.fn.ok qef (λvs H Q E h=>?_) (λcdv A outer s H vs Q E L h=>?_)
 .obtain⟨_,_,_,_,_,rfl,_⟩:=h
  all_goals rfl
 .obtain⟨l,pn,d,f,names,rfl,X,O,hk,l6,k⟩:=h;refine⟨_,(qj (zg (i:=3) qef.nd Z (A0 Z) (zh qbe (zn (qa1 T) (L.mono En) Z T.kD.mgx T.kD.fn.kp T.kD.bd .nil qap (qh (pv 0) (qh qp qm zb) qi)) qp))
   (qj (zg (i:=4) qef.nd Z (A0 Z) (zn (qa1 T) (L.mono En) Z T.kD.mgx T.kD.fn.kp T.kD.bd .nil qap (qh (pv 0) (qh (zh qa3 qp (zh qdv qp (pv 1))) qm zw) qi)))
   (qj (zg (i:=5) qef.nd Z (Cj Z) (zr qm))
   (qj (qcd Bo Z (qcc Z T.kL (qh (zo qa9 (by rfl) T.kE qa5 (qh (pv 2) qm qi)) qm zu)) (qam (i:=6) qef.nd Z (A0 Z)) (qt (zj (qbv A7 AY AZ qbh (pv 5) (qh (zh qav (zh qa3 (zh qdv (pv 6) (zh qa3 qp (zh qav (pv 3) qp))) (zh qbe (pv 3) qp)) qp) qm zw)))))
   (qj (qck (i:=7) qef.nd Z Z (N:=["_law_k","_law_ranks","_law_at"]) (js:=[none,some 5,some 1]) (XN:=["_law_script","_law_at","_law_names","_law_turn","_law_cell","_law_ranks","_law_k","_law_below"]) (xs:=qaa qh4) Z Z Z Ek (qcc Z T.kL (qh (zo qa9 (by rfl) T.kE qa5 (qh (pv 2) qm qi)) qm zu)) (λ_ _ _ _ _ _=>(qam (i:=0) (show B5 (["_law_k","_law_ranks","_law_at"]:List Str) from by decide +kernel) Z (A0 Z) (Cj Z))) (λ_ _ _ _ _ _=>(qqy (zf qtw (ja (qgc (K:=K) Z) (pv 1) (pv 0) (λ_ _=>rfl)) (ja (qgc (K:=K) Z) (pv 1) (pv 2) (λ_ _=>rfl)) (qah _)))) (λ_ _ _ _ _ _=>(pv 0)))
   (qj (zm (PW.pt (qfg (zf qbk (zh qav (pv 4) qp) qp (qah _)) (qgs (zf (qza L.units0) (pv 7) (zr qm) (qah _))))) (qt (zc (ja jc (pv 2) (ja jc (pv 7) (zh qav (zh qbe (pv 4) qp) (zo qa9 (by rfl) T.kE qa5 (qh (pv 7) qm qi))) (λ_ _=>rfl)) (λ_ _=>rfl)))) qan)
   (qt (zc qa8)))))))),?_⟩
  have s0:=Same.refl H;refine(nmc Z ⟨_,_,_,Z,X,En,(icc Z Z ⟨En,En⟩ ?_)⟩);dsimp only[];have D:∀j:Nat,((j:Int)*(1+cell d 0 / 21 % 6)+cell d 0 / 21 / 6) % 7=rkA d j:=λ_=>rfl;generalize cell d 0 / 21=tn at D |-;refine(nmc Z (nmc Z (icc Z Z (qpp En En) (iic Z Z ⟨_,_,_,Z,X,by lia,?_⟩))));dsimp only[];generalize cell d (4+5*(f:Int))=c;refine⟨qdg,λq hq=>?_⟩;obtain⟨G,h1⟩:=alc (o:=.lst []) hq;generalize upd H q _=H1 at G h1 |-;have B:(names.map V.str).length=names.length:=Ab _;have m:=rb (n:=(names.map V.str).length) (by lia);refine(nmc Z ⟨_,_,Z,.inl ⟨_,SqL.of (G _ _ O),Z⟩,_,Z,m.1,m.2,qdu (lo:=0) (n:=(((names.map V.str).length:Int)).toNat) (λi σ r=>Same H r/\r q=some (.lst (((AR i).map (rkA d)).map V.int))/\∃I:Option V,σ=[some (.ref l),some (.int (f:Int)),some (.ref pn),some (.int tn),some (.int c),some (.ref q),I,none]) ⟨G,h1,none,Z⟩ ?_ ?_⟩)
  .rintro i σ r S ⟨y,p,I,rfl⟩;have S:i<names.length:=by rw[B]at S;lia
   rw[BX];refine(nmc Z ⟨.inl ⟨Z,_,SqL.of p⟩,(nmc Z (nmc Z (icc Z Z (pos En) (iic Z Z (iic Z Z ⟨.inl ⟨by lia,by lia⟩,(nmc Z (icc Z Z ⟨En,En⟩ (iic Z Z (icc Z Z (pos En) ⟨_,_,_,Z,Z,p,qc0 (by rw[Ab,Ab,Bm];lia),?_⟩))))⟩)))))⟩);dsimp only[];rw[D];refine⟨qag y hq,?_,_,Z⟩;rw[qu,Cw,Ar,Ar];rfl
  .rintro σ r ⟨y,p,I,rfl⟩;rw[B,C8]at p;have C:∀j:Nat,j<names.length->atI (((AR names.length).map (rkA d)).map V.int) (j:Int)=some (.int (rkA d j)):=λj g=>qbp (by rw[Af,Af,CT g];rfl);refine(nmc Z ⟨_,_,Z,.inl ⟨_,SqL.of (y _ _ O),Z⟩,_,Z,m.1,m.2,?_⟩);refine qsh (λv=>match v with | .int j=>decide (rkA d j.toNat<rkA d f)|_=>false) (λv=>v) (λσ'=>∃v,σ'=[v,some (.ref q),some (.int (f:Int))]) qev (qad (by rw[Ab,Bm];lia)) ⟨none,Z⟩ (λv σ' J N RR hv U s4 kn ky=>?_) qb5 λp5 aa=>?_
   .obtain⟨v0,rfl⟩:=s4;obtain⟨j,g,rfl⟩:=A8.mp hv;have g:j<names.length:=by have:=C4.mp g;rw[B]at this;lia
    have R:(0:Int)+(j:Int)=(j:Int):=BX _;rw[R]at kn ky |-;refine(nmc Z (nmc Z (lxo (U _ _ p) (C j g) (nmc Z (nmc Z (lxo (U _ _ p) (C f hk) (iic Z Z (nmc Z (qdk (λt=>?_) (λt=>?_))))))))))
    .exact(nmc Z (ky _ ⟨_,Z⟩ t))
    .exact kn _ ⟨_,Z⟩ (by cases e:decide (rkA d j<rkA d f) with|true=>exact absurd e t|false=>exact e)
   obtain⟨bl,ebl,hbl⟩:∃bl:List Nat,((((AR (((names.map V.str).length:Int)).toNat).map λi=>V.int (0+(i:Nat))).filter λv=>match v with | .int j=>decide (rkA d j.toNat<rkA d f)|_=>false).map λv=>v)=bl.map (λb:Nat=>V.int (b:Int))/\∀b∈bl,b<names.length/\rkA d b<rkA d f:=by
    refine⟨(AR names.length).filter λj=>decide (rkA d j<rkA d f),?_,λb z=>?_⟩
    .rw[List.map_id',B,C8,List.filter_map];have:(λi:Nat=>V.int (0+(i:Int)))=λi:Nat=>V.int (i:Int):=by funext i;rw[BX]
     rw[this]
     congr 1
    .have:=Bh.mp z;exact⟨C4.mp this.1,of_decide_eq_true this.2⟩
   rw[ebl];obtain⟨W,e5⟩:=alc (o:=.lst (bl.map λb:Nat=>V.int (b:Int))) aa;generalize upd r p5 _=H5 at W e5 |-;have F:=y.trans W;have a0:(bl.map λb:Nat=>V.int (b:Int)).all qeb=true:=by rw[DI];exact Bk.mpr λ_ _=>rfl
   refine(nmc Z (icc Z Z (pos En) ⟨Z,(nmc Z (qdk (λt=>?_) (λt=>?_)))⟩))
   .refine(nmc Z ⟨qdg,λpe Y=>?_⟩);obtain⟨M,e6⟩:=alc (o:=.lst []) Y;generalize upd H5 pe _=H6 at M e6 |-;have x:=F.trans M;have u:=M _ _ e5;refine⟨_,_,_,_,Z,Z,SqL.of u,SqL.of e6,a0,Z,(nmc Z (qdk (λc2=>?_) (λc2=>?_)))⟩
    .have l1:1<=bl.length:=by
      cases bl with|nil=>exact absurd c2 En|cons _ _=>exact DL _
     have z0:=Ee (c / 3) (show ((bl.length:Nat):Int)≠0 by lia)
     have z1:=DA (c / 3) (show (0:Int)<(bl.length:Nat) by lia)
     obtain⟨j,R⟩:∃j:Nat,c / 3 % ((bl.length:Nat):Int)=(j:Int):=⟨(c / 3 % ((bl.length:Nat):Int)).toNat,by lia⟩
     have g:j<bl.length:=by lia
     have z:=hbl _ (Bw g)
     refine(nmc Z (nmc Z (nmc Z (icc Z Z ⟨En,En⟩ (nmc Z ⟨_,_,Z,.inl ⟨_,SqL.of u,Z⟩,(iic Z Z ⟨(pos (by rw[Ab];lia)),?_⟩)⟩)))))
     dsimp only[]
     rw[Ab,R]
     refine⟨_,_,_,_,Z,Z,SqL.of u,qbp (by rw[Af,Ae g];rfl),_,_,_,_,Z,Z,SqL.of (x _ _ O),qbp (nmV z.1),?_⟩
     exact k H6 (some bl[j]) x λb e=>by cases e;exact z
    .exact k H6 none x λb e=>nomatch e
   .exact qcr (k H5 none F λb e=>nomatch e)
theorem qtr (T:Txt K mg a):FnOk P w K mg base CX0 3 a.nI a.fZ ["_law_script","_law_at","_law_names","_law_kinds"] (spLrl K):=by
 refine T.gN.fn.ok qa2 (λvs H Q E h=>?_) (λcdv A outer s H vs Q E hr h=>?_)
 .obtain⟨_,_,_,_,_,_,_,rfl,_⟩:=h
  all_goals rfl
 .obtain⟨l,pn,pk,m,d,names,c,rfl,hS,hn,ad,de,hk,l6,knd,cm,k60,aw,k⟩:=h;refine⟨_,(qj (qck (i:=4) qa2.nd Z Z (N:=["_law_k","_law_script","_law_at"]) (js:=[none,some 0,some 1]) (XN:=["_law_script","_law_at","_law_names","_law_kinds","_law_cells","_law_owed","_law_rest","_law_turn","_law_base_here","_law_opens","_law_unit","_law_longer","_law_k","_law_units","_law_stays","_law_rule_here"]) (xs:=qaa qh5) Z Z Z Ek (qcc Z T.kL (qh qp qm zb)) (λ_ _ _ _ _ _=>(qam (i:=0) (show B5 (["_law_k","_law_script","_law_at"]:List Str) from by decide +kernel) Z (A0 Z) (Cj Z))) (λ_ _ _ _ _ _=>qb4) (λ_ _ _ _ _ _=>(zn (qa1 T) (hr.mono En) Z T.kD.mgx T.kD.fn.kp T.kD.bd .nil qap (qh (pv 1) (qh (zh qa3 (zh qa3 qp (zh qdv qp (pv 2))) (pv 0)) qm zw) qi))))
   (qj (zg (i:=5) qa2.nd Z (A0 Z) (zh qav (ja jc (pv 4) qp (λ_ _=>rfl)) qp))
   (qj (zg (i:=6) qa2.nd Z (A0 Z) (zh qci (qba qb9 (pv 3) qct (qa7 (pv 5))) (qba qb9 (pv 3) (qa7 (zh qa3 (pv 5) qp)) (qa7 qp))))
   (qj (zg (i:=7) qa2.nd Z (A0 Z) (zh qav (zh qbe (ja jc (pv 4) qp (λ_ _=>rfl)) qp) qp))
   (qj (zg (i:=6) qa2.nd Z (A0 Z) (zh qci (qba qb9 (pv 6) (qa7 (pv 7)) qct) (qba qb9 (pv 6) qct (qa7 (pv 7)))))
   (qj (zg (i:=8) qa2.nd Z (A0 Z) (zn (qtq T) (hr.mono En) Z T.bC.mgx T.bC.fn.kp T.bC.bd .nil qap (qh (pv 0) (qh (pv 1) (qh (pv 2) qm qi) qi) qi)))
   (qj (zg (i:=9) qa2.nd Z (A0 Z) (ja jc (pv 6) qp (λ_ _=>rfl)))
   (qj (zm (zf qdn (pv 8) qa8 (qah _)) (qt (zg (i:=9) qa2.nd Z (A0 Z) qa8)) qan)
   (qj (zg (i:=10) qa2.nd Z (A0 Z) (ja jc (zr (qh zq (qh zq (qh zq qm zb) zb) zb)) (zh qav (zh qbe (ja jc (pv 4) qp (λ_ _=>rfl)) qp) qp) (λ_ _=>rfl)))
   (qj (zg (i:=11) qa2.nd Z (A0 Z) (zr qm))
   (qj (qcd Bo Z (qcc Z T.kL (qh (zh qav (zh qbe (ja jc (pv 4) qp (λ_ _=>rfl)) qp) qp) qm zw)) (qam (i:=12) qa2.nd Z (A0 Z)) (qj (zg (i:=13) qa2.nd Z (A0 Z) (zh qa3 qp (zh qav (zh qbe (ja jc (pv 4) qp (λ_ _=>rfl)) (zh qa3 qp (zh qdv qp (pv 12)))) qp)))
   (qt (zj (qbv A7 AY AZ qbh (pv 11) (qh (zt (qh (ja jc (pv 6) (zh qa3 qp (pv 12)) (λ_ _=>rfl)) (qh (pv 13) (qh (zh qa3 qp (zh qav (zh qbe (ja jc (pv 4) qp (λ_ _=>rfl)) (zh qa3 qp (zh qdv qp (pv 12)))) qp)) qm zw) qi) zx)) qm zy))))))
   (qj (zg (i:=14) qa2.nd Z (A0 Z) qa8)
   (qj (zm (zf qbk (zh qav (zh qbe (ja jc (pv 4) qp (λ_ _=>rfl)) qp) qp) qp (qah _)) (qt (zg (i:=14) qa2.nd Z (A0 Z) (zt (qh (ja jc (pv 6) qp (λ_ _=>rfl)) (qh (ja jc (pv 6) qp (λ_ _=>rfl)) qm zx) zx)))) qan)
   (qj (zg (i:=15) qa2.nd Z (A0 Z) (zr (qh (ja jc (pv 2) (pv 1) (λ_ _=>rfl)) (qh (ja jc (pv 3) (zh qav (ja jc (pv 4) qp (λ_ _=>rfl)) qp) (λ_ _=>rfl)) (qh (ja jc (pv 3) (pv 5) (λ_ _=>rfl)) (qh (pv 9) (qh (pv 8) qm qi) qi) zx) zx) zx)))
   (qj (zg (i:=15) qa2.nd Z (A0 Z) (zh qci (pv 15) (zr (qh (zh qa3 qp (zh qav (ja jc (pv 4) qp (λ_ _=>rfl)) qp)) (qh (pv 10) (qh (qba qb9 (pv 6) (qa7 qp) (qa7 (zh qa3 qp (zh qav (ja jc (pv 4) qp (λ_ _=>rfl)) qp)))) qm zx) qi) zw))))
   (qj (zg (i:=15) qa2.nd Z (A0 Z) (zh qci (pv 15) (zr (qh (qba qb9 (pv 6) (qa7 qp) (qa7 (zh qa3 qp (zh qav (zh qbe (ja jc (pv 4) qp (λ_ _=>rfl)) qp) qp)))) (qh (pv 11) (qh (pv 14) qm qi) qi) zx))))
   (qt (zc (zh qci (pv 15) (zr (qh (zn (qpb T) (hr.mono En) Z T.gW.mgx T.gW.fn.kp T.gW.bd .nil qap (qh (pv 0) (qh (pv 1) (qh (pv 2) qm qi) qi) qi)) qm zu))))))))))))))))))))),?_⟩
  have l12:(c.map V.str).length=c.length:=Ab _;refine⟨_,Z,En,En,?_⟩;refine qb0 (λv=>match v with | .int j=>.int (cell m (3+5*(d:Int)+j))|_=>.non) (λσ'=>∃v,σ'=[v,some (.ref l),some (.int (d:Int))]) qev (qad (by rw[Ab,Bm];decide)) ⟨none,Z⟩ (λv σ' H' RR' hv sm s4 q=>?_) qb5 λp1 n1=>?_
  .obtain⟨v0,rfl⟩:=s4;obtain⟨j,hj,rfl⟩:=A8.mp hv;have q:=q [some (.int (0+(j:Int))),some (.ref l),some (.int (d:Int))] ⟨_,Z⟩;exact(nmc Z (nmc Z (icc Z Z (qpp En En) (iic Z Z (nmc Z (iic Z Z ⟨_,_,_,Z,sm.seq hS,by lia,q⟩))))))
  obtain⟨c0,ec0⟩:∃c0,c0=cell m (3+5*(d:Int)):=⟨_,Z⟩;obtain⟨c1,ec1⟩:∃c1,c1=cell m (3+5*(d:Int)+1):=⟨_,Z⟩;obtain⟨c2,ec2⟩:∃c2,c2=cell m (3+5*(d:Int)+2):=⟨_,Z⟩;obtain⟨c3,ec3⟩:∃c3,c3=cell m (3+5*(d:Int)+3):=⟨_,Z⟩;obtain⟨c4,ec4⟩:∃c4,c4=cell m (3+5*(d:Int)+4):=⟨_,Z⟩;have cu:((AR ((5:Int)).toNat).map λi=>V.int (0+(i:Nat))).map (λv=>match v with | .int j=>V.int (cell m (3+5*(d:Int)+j))|_=>.non)=[V.int c0,V.int c1,V.int c2,V.int c3,V.int c4]:=by rw[ec0,ec1,ec2,ec3,ec4];show [V.int _,V.int _,V.int _,V.int _,V.int _]=_;simp
  rw[cu];obtain⟨s1,C⟩:=alc (o:=.lst [V.int c0,V.int c1,V.int c2,V.int c3,V.int c4]) n1;generalize upd H p1 _=H1 at s1 C |-;refine(nmc Z (lxo (C) Z (icc Z Z (pos En) ?_)));dsimp only[];have eo:c0 % 3=((owA m d:Nat):Int):=by rw[ec0];exact qrd
  have ho:owA m d<3:=owA_l;rw[eo];generalize owA m d=o at ho eo |-;refine(nmc Z (nmc Z ⟨_,Z,_,_,Z,SqL.of (s1 _ _ ad),λp2 n2=>?_⟩));rw[qkw _ o (by lia),<- C3];obtain⟨S,e2⟩:=alc (o:=.lst ((c.take o).map V.str)) n2;generalize upd H1 p2 _=H2 at S e2 |-;have am:=s1.trans S;refine(nmc Z (nmc Z (iic Z Z ⟨_,Z,_,Z,_,_,Z,SqL.of (am _ _ ad),λp3 n3=>?_⟩)));have ec:qe9 (c.map V.str) (some ((o:Int)+1)) (some 12)=((c.take 12).drop (o+1)).map V.str:=by rw[show ((o:Int)+1)=((o+1:Nat):Int) from Z,show (12:Int)=((12:Nat):Int) from Z,cut2 _ _ _ (by lia) (by lia),<- C3,<- Dh]
  rw[ec];obtain⟨r,U⟩:=alc (o:=.lst (((c.take 12).drop (o+1)).map V.str)) n3;generalize upd H2 p3 _=H3 at r U |-;have bq:=am.trans r;refine⟨_,_,_,_,Z,Z,r _ _ e2,U,qad (by rw[Ab,Ab,A6,Bv,A6];lia),λp4 n4=>?_⟩;rw[<- Ar];have lL:(c.take o++(c.take 12).drop (o+1)).length=11:=by rw[Ai,A6,Bv,A6];lia
  obtain⟨s4,e4⟩:=alc (o:=.lst ((c.take o++(c.take 12).drop (o+1)).map V.str)) n4;generalize upd H3 p4 _=H4 at s4 e4 |-;have bf:=bq.trans s4;have ak:=S.trans (r.trans s4);refine(nmc Z (lxo (ak _ _ C) Z (icc Z Z ⟨En,En⟩ (icc Z Z (pos En) ?_))));dsimp only[];obtain⟨t,et,ht⟩:∃t:Nat,c0 / 3 % 11=(t:Int)/\t<11:=md _ 11 En;rw[et];obtain⟨M',eM,lM,cw,bt,dg,cz⟩:=qx1 (o:=o) (t:=t) knd cm ho ht aw;refine(nmc Z (nmc Z ⟨_,Z,_,_,Z,SqL.of e4,λp5 n5=>?_⟩));rw[qgj _ t (by rw[Ab,lL];lia),<- Dh];obtain⟨s5,e5⟩:=alc (o:=.lst (((c.take o++(c.take 12).drop (o+1)).drop t).map V.str)) n5;generalize upd H4 p5 _=H5 at s5 e5 |-;refine(nmc Z (nmc Z ⟨_,Z,_,_,Z,SqL.of (s5 _ _ e4),λp6 n6=>?_⟩));rw[qkw _ t (by rw[Ab,lL];lia),<- C3];obtain⟨s6,e6⟩:=alc (o:=.lst (((c.take o++(c.take 12).drop (o+1)).take t).map V.str)) n6;generalize upd H5 p6 _=H6 at s6 e6 |-;refine⟨_,_,_,_,Z,Z,s6 _ _ e5,e6,qad (by rw[Ab,Ab,Bv,A6,lL];lia),λp7 n7=>?_⟩;rw[<- Ar,eM];clear eM;obtain⟨O,L,M,G,J,F,R,X,Y,W,aa,rfl⟩:=eleven lM;have bp:=bf.trans (s5.trans s6);have n7H:=bp.free n7;obtain⟨s7,e7⟩:=alc (o:=.lst ([O,L,M,G,J,F,R,X,Y,W,aa].map V.str)) n7;generalize upd H6 p7 _=H7 at s7 e7 |-;have au:=bp.trans s7;have cv:=ak.trans (s5.trans (s6.trans s7));have cq:=cv _ _ C;clear s1 S r s4 s5 s6 e2 U e4 e5 e6 am bq bf ak lL;refine(nmc Z (nmc Z (nmc Z ⟨l,pn,m,d,names,Z,au.seq hS,au _ _ hn,hk,l6,λH8 f s8 bj=>?_⟩)));have ax:=au.trans s8;have e8:=s8 _ _ e7;have c8:=s8 _ _ cq;refine(nmc Z (lxo (e8) Z ?_));have gb:qh9 names f=qdl (f.map (nm names)):=by cases f <;>rfl
  rw[gb];have cf:f=none \/ ∃b,f=some b:=by
   cases f with|none=>exact .inl rfl|some b=>exact .inr ⟨b,Z⟩
  apply useV (p:=λx=>∃opn:Option Str,x=some (qdl opn)/\((f=none/\opn=some O)\/((∃b,f=some b)/\opn=none)))
  .intro a0;refine cf.elim (λz=>?_) (λz=>?_)
   .refine(nmc Z ⟨Z,(nmc Z (qew (by rw[z];rfl) ?_))⟩);generalize hx:(some (V.str O):Option V)=x9;exact a0 x9 ⟨some O,hx.symm,.inl ⟨z,Z⟩⟩
   .obtain⟨b,eb⟩:=z;refine(nmc Z ⟨Z,(nmc Z (qfc (λz=>by rw[eb]at z;cases z) ?_))⟩);exact a0 (some .non) ⟨none,Z,.inr ⟨⟨b,eb⟩,Z⟩⟩
  .rintro x9 ⟨opn,rfl,ag⟩;obtain⟨u1,u2⟩:=qx2 (c1 / 18);refine⟨qad (show 3<=100000 by decide),λpu nu=>?_⟩;obtain⟨s9,e9⟩:=alc (o:=.lst [V.str (Aa "days"),V.str (Aa "weeks"),V.str (Aa "court")]) nu;generalize upd H8 pu _=H9 at s9 e9 |-;have bh:=ax.trans s9;refine(nmc Z (lxo (s9 _ _ c8) Z (icc Z Z ⟨En,En⟩ (icc Z Z (pos En) (lxo (e9) u1 ?_)))));refine⟨qdg,λpl ah=>?_⟩;obtain⟨sa,ea⟩:=alc (o:=.lst []) ah;generalize upd H9 pl _=Ha at sa ea |-;have s1a:=bh.trans sa;have cj:=bh.free ah;have bg:=s9.trans sa;obtain⟨g,eg,hg⟩:∃g:Nat,c3 / 12 % 3=(g:Int)/\g<=2:=mdl _ 2;have dc:(c3 / 12 % 3).toNat=g:=by rw[eg];exact C8 g
   refine(nmc Z (lxo (bg _ _ c8) Z (icc Z Z ⟨En,En⟩ (icc Z Z (pos En) ⟨_,Z,(by lia),(by lia),qdu (lo:=0) (n:=(c3 / 12 % 3).toNat) (λi σ H'=>Same H8 H'/\(∃(us:List V)(I:List (Str×Int×Int)),H' pl=some (.lst us)/\Tups H' us (I.map qop)/\I.map (·.1)=[R,X].take i/\us.length=i/\∀t∈I,(1<=t.2.1/\t.2.1<=20)/\1<=t.2.2/\t.2.2<=3)/\∃ao af:Option V,σ=[some (.ref l),some (.int (d:Int)),some (.ref pn),some (.ref pk),some (.ref p1),some (.int (o:Int)),some (.ref p7),some (.int (t:Int)),some (qdl (f.map (nm names))),some (qdl opn),some (.str (qfv (c1 / 18))),some (.ref pl),ao,af,none,none]) ⟨bg,⟨[],[],ea,.nil,Z,Z,λt h=>absurd h Av⟩,none,none,Z⟩ ?_ ?_⟩))))
   .rintro i σ H' hi ⟨S,⟨us,I,h2,t2,f2,l2,r2⟩,ao,af,rfl⟩;have hi:i<g:=by lia
    rw[BX];have cB:=S _ _ c8;have eB:=S _ _ e8;obtain⟨mk,emk,fmk⟩:∃mk:Str,atI ([O,L,M,G,J,F,R,X,Y,W,aa].map V.str) (6+(i:Int))=some (.str mk)/\[R,X].take (i+1)=[R,X].take i++[mk]:=by
     rcases (by lia:i=0\/i=1) with rfl|rfl
     .exact⟨R,Z,Z⟩
     .exact⟨X,Z,Z⟩
    refine(nmc Z (lxo (cB) Z (nmc Z (icc Z Z (qpp En En) (iic Z Z (iic Z Z ⟨cdA hi hg,(icc Z Z (pos En) (iic Z Z ?_))⟩))))));refine(nmc Z ⟨.inl ⟨Z,_,SqL.of h2⟩,(nmc Z (nmc Z (iic Z Z (lxo (eB) emk (nmc Z (nmc Z (lxo (cB) Z (nmc Z (icc Z Z (qpp En En) (iic Z Z (iic Z Z ⟨cdB hi hg,(icc Z Z (pos En) (iic Z Z ⟨qxl _ _ _,λq2 n2=>?_⟩))⟩)))))))))))⟩);dsimp only[];have b1:1<=1+c2 / (40+811*(i:Int)) % 20/\1+c2 / (40+811*(i:Int)) % 20<=20:=om _ En;have b2:1<=1+c2 / (797+13*(i:Int)) % 3/\1+c2 / (797+13*(i:Int)) % 3<=3:=om _ En;generalize 1+c2 / (40+811*(i:Int)) % 20=u9 at b1 n2 |-;generalize 1+c2 / (797+13*(i:Int)) % 3=t9 at b2 n2 |-;obtain⟨r,U⟩:=alc (o:=.tup [V.str mk,V.int u9,V.int t9]) n2;generalize upd H' q2 _=H3 at r U |-;have h3:=r _ _ h2;refine⟨_,_,_,Z,Z,h3,qc0 (by lia),?_⟩;have kp:Same H8 (upd H3 pl (.lst (us++[V.ref q2]))):=qag (S.trans r) (s9.free ah);refine⟨kp,⟨us++[.ref q2],I++[(mk,u9,t9)],qu,?_,?_,by rw[Ai,l2];rfl,λz hz=>?_⟩,_,_,Z⟩
    .rw[Ar];exact((t2.same r).snoc (show H3 q2=some (.tup (qop (mk,u9,t9))) from U)).upd h3
    .rw[Ar,f2,fmk];rfl
    .rcases A9.mp hz with y|y
     .exact r2 z y
     .rw[Ao.mp y];exact⟨b1,b2⟩
   .rintro σ Hb ⟨sb,⟨us,I,hl,tl,fl,ll,rl⟩,ao,af,rfl⟩;rw[dc]at fl ll;have dh:=ax.trans sb;have cB:=sb _ _ c8;have eB:=sb _ _ e8;apply use2 (p:=λ(u:Hp)(x:Option V)=>∃(D:V)(B:Option (Str×Str)),x=some D/\Same Hb u/\StAt u D B/\(B=none\/B=some (Y,W)))
    .intro a0;refine(nmc Z (lxo (cB) Z (icc Z Z ⟨En,En⟩ (icc Z Z (pos En) ⟨Z,(nmc Z (qdk (λ_=>?_) (λ_=>?_)))⟩))))
     rotate_left
     .obtain⟨u,hHc⟩:∃u,u=Hb:=⟨_,Z⟩;have qq:∃(D:V)(B:Option (Str×Str)),some V.non=some D/\Same Hb u/\StAt u D B/\(B=none\/B=some (Y,W)):=⟨.non,none,Z,by rw[hHc];exact Same.refl _,Z,.inl Z⟩;rw[<- hHc];generalize (some V.non:Option V)=bu at qq |-;exact a0 u bu qq
     .refine(nmc Z (lxo (eB) Z (nmc Z (lxo (eB) Z ⟨fit2 _ _,λq3 n3=>?_⟩))));obtain⟨r,U⟩:=alc (o:=.tup [V.str Y,V.str W]) n3;exact a0 _ (some (V.ref q3)) ⟨.ref q3,some (Y,W),Z,r,⟨q3,Z,U⟩,.inr Z⟩
    .rintro u bu ⟨D,B,rfl,sc,cr,dj⟩;have ar:=dh.trans sc;have cC:=sc _ _ cB;have eC:=sc _ _ eB;have cn:=ar _ _ hn;have cb:=ar _ _ ad;obtain⟨j4,ej4,hj4⟩:∃j:Nat,c4 % 12=(j:Int)/\j<12:=md _ 12 En;refine(nmc Z (nmc Z (lxo (cn) (qbp (nmV hk)) (nmc Z (nmc Z (lxo (cC) Z (icc Z Z (pos En) ?_)))))));dsimp only[];rw[ej4];refine(lxo (cb) (qbp (nmV (nms:=c) (by lia))) (nmc Z (nmc Z (lxo (cb) (qbp (nmV (nms:=c) (by lia))) (nmc Z (nmc Z ⟨qad (show 5<=100000 by decide),λqa na=>?_⟩))))));obtain⟨sd,ed⟩:=alc (o:=.lst [V.str (nm names d),V.str (nm c j4),V.str (nm c o),qdl opn,qdl (f.map (nm names))]) na;generalize upd u qa _=Hd at sd ed |-;have bz:=ar.trans sd;obtain⟨x3,ex3,hx3⟩:∃x:Nat,c3 % 4=(x:Int)/\x<=3:=mdl _ 3;obtain⟨y3,ey3,hy3⟩:∃x:Nat,c3 / 4 % 3=(x:Int)/\x<=2:=mdl _ 2;refine(nmc Z (nmc Z (lxo (sd _ _ cC) Z (icc Z Z (pos En) (iic Z Z (nmc Z (nmc Z ⟨_,Z,(nmc Z (lxo (sd _ _ cC) Z (icc Z Z (pos En) (iic Z Z ?_))))⟩)))))));dsimp only[];rw[ex3];refine⟨_,Z,_,_,Z,SqL.of (sd _ _ eC),λpe bc=>?_⟩;have ce:qe9 ([O,L,M,G,J,F,R,X,Y,W,aa].map V.str) (some 1) (some (1+(x3:Int)))=([L,M,G].take x3).map V.str:=by rcases (by lia:x3=0\/x3=1\/x3=2\/x3=3) with rfl|rfl|rfl|rfl <;>rfl
     rw[ce];obtain⟨se,ee⟩:=alc (o:=.lst (([L,M,G].take x3).map V.str)) bc;generalize upd Hd pe _=He at se ee |-;have df:=bz.trans se;refine⟨qxl _ _ _,λqb nb=>?_⟩;have bv:1<=1+c2 % 40/\1+c2 % 40<=40:=om _ En;generalize 1+c2 % 40=mny at bv nb |-;obtain⟨sf,ef⟩:=alc (o:=.lst [V.int mny,V.str (qfv (c1 / 18)),V.ref pe]) nb;generalize upd He qb _=Hf at sf ef |-;have ck:=df.trans sf;refine⟨_,_,_,_,Z,Z,sf _ _ (se _ _ ed),ef,qad (show 8<=100000 by decide),λqc nc=>?_⟩;obtain⟨sg,br⟩:=alc (o:=.lst ([V.str (nm names d),V.str (nm c j4),V.str (nm c o),qdl opn,qdl (f.map (nm names))]++[V.int mny,V.str (qfv (c1 / 18)),V.ref pe])) nc;generalize upd Hf qc _=Hg at sg br |-;have bw:=ck.trans sg;have bx:=sd.trans (se.trans (sf.trans sg));refine(nmc Z (nmc Z ⟨_,Z,(nmc Z (lxo (bx _ _ cC) Z (icc Z Z ⟨En,En⟩ (icc Z Z (pos En) (iic Z Z ?_)))))⟩));dsimp only[];rw[ey3];refine⟨_,Z,_,_,Z,SqL.of (bx _ _ eC),λpa ay=>?_⟩;have ca:qe9 ([O,L,M,G,J,F,R,X,Y,W,aa].map V.str) (some 4) (some (4+(y3:Int)))=([J,F].take y3).map V.str:=by rcases (by lia:y3=0\/y3=1\/y3=2) with rfl|rfl|rfl <;>rfl
     rw[ca];obtain⟨sh,eh⟩:=alc (o:=.lst (([J,F].take y3).map V.str)) ay;generalize upd Hg pa _=Hh at sh eh |-;have cp:=bw.trans sh;refine(nmc Z (nmc Z ⟨qxl _ _ _,λqd nd=>?_⟩));obtain⟨si,ei⟩:=alc (o:=.lst [V.ref pa,V.ref pl,D]) nd;generalize upd Hh qd _=Hi at si ei |-;have cx:=cp.trans si;refine⟨_,_,_,_,Z,Z,si _ _ (sh _ _ br),ei,qad (show 11<=100000 by decide),λqe ne=>?_⟩;obtain⟨sj,ej⟩:=alc (o:=.lst (([V.str (nm names d),V.str (nm c j4),V.str (nm c o),qdl opn,qdl (f.map (nm names))]++[V.int mny,V.str (qfv (c1 / 18)),V.ref pe])++[V.ref pa,V.ref pl,D])) ne;generalize upd Hi qe _=Hj at sj ej |-;have ac:=cx.trans sj;refine(nmc Z (nmc Z (nmc Z (nmc Z ⟨l,pn,m,d,names,Z,ac.seq hS,ac _ _ hn,de,hk,l6,λpy Hk ys di sk ek cy=>?_⟩))));have db:=ac.trans sk;refine⟨qad (show 1<=100000 by decide),λqf nf=>?_⟩;obtain⟨sl,el⟩:=alc (o:=.lst [V.ref py]) nf;generalize upd Hk qf _=Hl at sl el |-;have bb:=db.trans sl;refine⟨_,_,_,_,Z,Z,sl _ _ (sk _ _ ej),el,qad (show 12<=100000 by decide),λqg ng=>?_⟩;obtain⟨sm,em⟩:=alc (o:=.lst (((([V.str (nm names d),V.str (nm c j4),V.str (nm c o),qdl opn,qdl (f.map (nm names))]++[V.int mny,V.str (qfv (c1 / 18)),V.ref pe])++[V.ref pa,V.ref pl,D]))++[V.ref py])) ng;generalize upd Hl qg _=Hm at sm em |-;have bi:=sg.trans (sh.trans (si.trans (sj.trans (sk.trans (sl.trans sm)))));have dk:=sj.trans (sk.trans (sl.trans sm));have ae:=sd.trans (se.trans (sf.trans bi));have kk:owA m d=o:=by
      have:((owA m d:Nat):Int)=(o:Int):=by rw[<- qrd,<- ec0];assumption
      exact D6 this
     obtain⟨cg,aq⟩:=qvs (w:=nm c o) (e:=[L,M,G].take x3) (a:=[J,F].take y3) (g:=I.map (·.1)) (o:=opn.toList) (s:=stL B) cw dg (Cd _ _) (Cd _ _) (by rw[fl];exact Cd _ _) (by rcases ag with ⟨_,e⟩|⟨_,e⟩ <;>rw[e] <;>simp) (by rcases dj with e|e <;>rw[e] <;>simp[stL]);refine k qg Hm ⟨nm names d,nm c j4,nm c o,opn,f.map (nm names),mny,qfv (c1 / 18),[L,M,G].take x3,[J,F].take y3,I,B,ys⟩ pe pa pl py D us (bb.free ng) (bz.free bc) (bw.free ay) cj (ac.free di) (bb.trans sm) ⟨em,(sf.trans bi) _ _ ee,(si.trans dk) _ _ eh,(sc.trans ae) _ _ hl,tl.same (sc.trans ae),cr.same ae,(sl.trans sm) _ _ ek⟩ ⟨Z,aw _ (Al (qh8 (by lia))),by show nm c o=_;rw[kk],cg,λx hx=>?_,λx hx=>?_,?_,bv,u2,⟨?_,rl⟩,⟨by show ([L,M,G].take x3).length<=3;rw[A6];show min x3 3<=3;lia,by show ([J,F].take y3).length<=2;rw[A6];show min y3 2<=2;lia⟩,cy⟩
     .rcases aq x hx with e|e
      .rw[e];exact aw _ (Al (qh8 (by lia)))
      .exact(bt x e).1
     .rcases aq x hx with e|e
      .rw[e];exact cz
      .exact(bt x e).2
     .rcases ag with ⟨C,e2⟩|⟨⟨b,C⟩,e2⟩
      .exact .inr ⟨by show f.map (nm names)=none;rw[C];rfl,O,e2⟩
      .exact .inl ⟨b,(bj b C).1,by show f.map (nm names)=_;rw[C];rfl,(bj b C).2,e2⟩
     .have:=congrArg DB fl;rw[Ab,A6]at this;show I.length<=2;rw[this];exact Nat.min_le_right _ _
theorem qqo (T:Txt K mg a):FnOk P w K mg base CX0 4 a.lU a.lN ["_law_script","_law_names","_law_kinds","_law_most"] (spLrs K):=by
 refine T.bF.fn.ok qdf (λvs H Q E h=>?_) (λcdv A outer s H vs Q E hr h=>?_)
 .obtain⟨_,_,_,_,_,_,_,rfl,_⟩:=h
  all_goals rfl
 .obtain⟨l,pn,pk,W,names,M,mo,rfl,hS,hn,bp,bw,l6,knd,bi,br,bz,m6,m100,k⟩:=h;refine⟨_,(qj (qck (i:=4) qdf.nd Z Z (N:=["_law_at","_law_script","_law_names","_law_kinds"]) (js:=[none,some 0,some 1,some 2]) (XN:=["_law_script","_law_names","_law_kinds","_law_most","_law_rules_here","_law_room","_law_rule_here","_law_sort"]) (xs:=qaa qgx) Z Z Z Ek (qcc Z T.kL (qh (zo qa9 (by rfl) T.kE qa5 (qh (pv 1) qm qi)) qm zu)) (λ_ _ _ _ _ _=>(qam (i:=0) (show B5 (["_law_at","_law_script","_law_names","_law_kinds"]:List Str) from by decide +kernel) Z (A0 Z) (Cj Z))) (λ_ _ _ _ _ _=>qb4) (λ_ _ _ _ _ _=>(zn (qtr T) (hr.mono En) Z T.gN.mgx T.gN.fn.kp T.gN.bd .nil qap (qh (pv 1) (qh (pv 0) (qh (pv 2) (qh (pv 3) qm qi) qi) qi) qi))))
   (qj (zg (i:=5) qdf.nd Z (A0 Z) (zh qir (pv 3) (zo qa9 (by rfl) T.kE qa5 (qh (pv 4) qm qi))))
   (qj (qcd Bo Z (qbd (pv 4)) (qam (i:=6) qdf.nd Z (A0 Z)) (qj (qcd Bo Z (qbd (zr (qh qp (qh qp (qh qp (qh qp qm zb) zb) zb) zb))) (qam (i:=7) qdf.nd Z (A0 Z)) (qj (qtt (qba qb9 (ja jc (pv 6) (pv 7) (λ_ _=>rfl)) qct (qa7 (pv 5))) (qts (pv 6) (pv 7) qnu))
   (qt (zg (i:=5) qdf.nd Z (A0 Z) (zh qir (pv 5) (zo qa9 (by rfl) T.kE qa5 (qh (ja jc (pv 6) (pv 7) (λ_ _=>rfl)) qm zx)))))))
   (qj (zm (zf qbk (pv 5) qp (qah _)) (qt (qtt qa8 (qts (pv 6) qp qnu))) qan)
   (qt (zm (zf qdn (ja jc (pv 6) qp (λ_ _=>rfl)) qa8 (qah _)) (qt (zg (i:=5) qdf.nd Z (A0 Z) (zh qir (pv 5) qp))) qan)))))
   (qt (zc (pv 4)))))),?_⟩
  have ln:(names.map V.str).length=names.length:=Ab _;have bc:=rb (n:=(names.map V.str).length) (by lia);refine(nmc Z ⟨_,_,Z,.inl ⟨_,SqL.of hn,Z⟩,_,Z,bc.1,bc.2,?_⟩);refine qkk (λp x q H=>∃(k:Nat)(r:RR)(y D pl B:Addr)(C:V)(us:List V),x=.int (k:Int)/\LR1 (off p H) q r y D pl B C us/\GR names (owA W) (rkA W) M k r) (λp x q H H' kp=>?_) (λp x q H g=>?_) (λσ'=>∃v,σ'=[v,some (.ref l),some (.ref pn),some (.ref pk)]) qev (qad (by rw[Ab,Bm];lia)) ⟨none,Z⟩ (λp v σ' H' RR' hv hp sm bu s4 qq=>?_) qb5 λp H1 qs hp s1 e1 lq bh gq=>?_
  .rintro⟨k',r,y,D,pl,B,C,us,e,h,g⟩;exact⟨k',r,y,D,pl,B,C,us,e,h.same (qox kp),g⟩
  .obtain⟨k',r,y,D,pl,B,C,us,e,h,g⟩:=g;intro z;have:=qgn _ _ h.hq;rw[z]at this;cases this
  .obtain⟨v0,rfl⟩:=s4;obtain⟨j,hj,rfl⟩:=A8.mp hv;have hj:j<names.length:=by have:=C4.mp hj;rw[ln]at this;lia
   obtain⟨zs,bf⟩:=bu;refine(nmc Z (nmc Z (nmc Z (nmc Z ⟨l,pn,pk,W,j,names,M,by rw[BX];rfl,sm.seq hS,sm _ _ hn,sm _ _ bp,bw,hj,l6,knd,bi,br,bz,λq H5 r y D pl B C us nq n1 n2 n3 n4 s5 x g=>?_⟩))));have ne:∀{z:Addr},H' z=none->z≠p:=λh e=>by rw[e,bf]at h;cases h
   exact qq _ q H5 ⟨_,Z⟩ s5 nq ⟨j,r,y,D,pl,B,C,us,by rw[BX],x.offp (s5 _ _ bf) (ne nq) (ne n1) (ne n2) (ne n3) (ne n4),g⟩
  rw[Ab,Bm,ln,C8]at lq;have gj:∀j:Nat,j<names.length->∃(q:Addr)(r:RR),qs[j]?=some q/\LR H1 q r/\GR names (owA W) (rkA W) M j r/\q≠p/\H q=none:=λj hj=>by
   have ex:((AR (((names.map V.str).length:Int)).toNat).map λi=>V.int (0+(i:Nat)))[j]?=some (.int (0+(j:Int))):=by rw[Af,CT (by rw[ln];lia)];rfl
   have eq:qs[j]?=some (qs[j]'(by lia)):=Ae (by lia);obtain⟨⟨k',r,y,D,pl,B,C,us,e,h,g⟩,g2,g3⟩:=gq j _ _ ex eq;rw[BX]at e;have e:j=k':=D6 (V.int.inj e);subst e;exact⟨_,r,eq,⟨y,D,pl,B,C,us,h.same qgn⟩,g,g2,g3⟩
  obtain⟨rs0,lr0,hr0⟩:∃rs:List RR,rs.length=names.length/\∀(j:Nat)(r:RR),rs[j]?=some r->∃q,qs[j]?=some q/\LR H1 q r/\GR names (owA W) (rkA W) M j r/\q≠p/\H q=none:=by
   have w:∀n,n<=names.length->∃rs:List RR,rs.length=n/\∀(j:Nat)(r:RR),rs[j]?=some r->∃q,qs[j]?=some q/\LR H1 q r/\GR names (owA W) (rkA W) M j r/\q≠p/\H q=none:=by
    intro n
    induction n with
    |zero=>exact λ_=>⟨[],Z,λj r h=>by cases h⟩
    |succ n ih =>
     intro hn;obtain⟨rs,m,h2⟩:=ih (by lia);obtain⟨q,r,S,g2⟩:=gj n (by lia);refine⟨rs++[r],by rw[Ai,m];rfl,λj r' h=>?_⟩;by_cases c:j<rs.length
     .rw[Ba c]at h;exact h2 j r' h
     .rw[AS (by lia)]at h;have:j-rs.length<1:=(Ac.mp h).1;rw[show j-rs.length=0 by lia]at h;cases h;rw[show j=n by lia];exact⟨q,S,g2⟩
   exact w _ (Ax _)
  have b0:LRs H H1 p qs rs0:=⟨s1,e1,by rw[lq,lr0],bh,λq hq=>by
   obtain⟨j,hj⟩:=AA hq;have lj:=(Ac.mp hj).1;obtain⟨q',_,S,_,_,g4,g5⟩:=gj j (by lia);rw[hj]at S;cases S;exact⟨g4,g5⟩,hp,λi q r m h2=>by
   obtain⟨q',S,g2,_⟩:=hr0 i r h2;rw[m]at S;cases S;exact g2⟩
  have g0:GRs names (owA W) (rkA W) M rs0:=λkk r h=>by obtain⟨_,_,_,g,_⟩:=hr0 kk r h;exact g
  refine(nmc Z (nmc Z ⟨_,_,Z,.inl ⟨_,SqL.of e1,Z⟩,(iic Z Z ?_)⟩));have bx:(mo:Int)-((qs.map V.ref).length:Int)=((mo-names.length:Nat):Int):=by rw[Ab,lq];lia
  refine(nmc Z ⟨_,Z,⟨_,SqL.of e1⟩,qc7 (K:=K) (a:=p) (xs:=qs.map V.ref) (λj σ H'=>∃(rs:List RR)(d:Nat),LRs H H' p qs rs/\rs.length=names.length/\GRs names (owA W) (rkA W) M rs/\d+((rs.take j).map exR).sum+names.length=mo/\∃v6 v7:Option V,σ=[some (.ref l),some (.ref pn),some (.ref pk),some (.int (mo:Int)),some (.ref p),some (.int (d:Int)),v6,v7]) ⟨rs0,mo-names.length,b0,lr0,g0,by rw[DM];show _+0+_=_;lia,none,none,by rw[<- bx];rfl⟩ (λj σ H' _ h=>by obtain⟨_,_,b,_⟩:=h;exact SqL.of b.hp) ?_ ?_⟩)
  .rintro j v σ H' hv ⟨rs,ag,ay,ak,bb,ar,v6,v7,rfl⟩;rw[Af]at hv;cases O:qs[j]? with
   |none=>rw[O]at hv;cases hv
   |some q =>
   rw[O]at hv;cases hv;have lj:j<rs.length:=by have:=(Ac.mp O).1;have:=ay.ln;lia
   obtain⟨r,hrj⟩:∃r,rs[j]?=some r:=⟨_,Ae lj⟩;refine⟨qad (show 4<=100000 by decide),λaq ax=>?_⟩;obtain⟨bg,aw⟩:=alc (o:=.lst [V.int 7,V.int 8,V.int 9,V.int 11]) ax;have au:aq≠q:=λz=>by obtain⟨_,_,_,_,_,_,m⟩:=ay.lr j q r O hrj;rw[z,m.hq]at ax;cases ax
   generalize upd H' aq _=H1' at bg aw |-;refine⟨_,Z,⟨_,SqL.of aw⟩,qc7 (K:=K) (a:=aq) (xs:=[V.int 7,V.int 8,V.int 9,V.int 11]) (λt σ Y=>Y aq=some (.lst [V.int 7,V.int 8,V.int 9,V.int 11])/\∃(J:List RR)(f:RR)(d:Nat),LRs H Y p qs J/\J.length=names.length/\GRs names (owA W) (rkA W) M J/\J[j]?=some f/\J.take j=rs.take j/\d+qnb t f=ag/\∃v7:Option V,∃vr:V,vr=.int (d:Int)/\σ=[some (.ref l),some (.ref pn),some (.ref pk),some (.int (mo:Int)),some (.ref p),some vr,some (.ref q),v7]) ⟨aw,rs,r,ag,ay.same bg,ak,bb,hrj,Z,Z,_,_,Z,Z⟩ (λt σ Y _ h=>SqL.of h.1) ?_ ?_⟩
   .rintro t v σ Y hv ⟨ah,J,f,d,bl,a0,S,I,aa,am,v7,vr,rfl,rfl⟩;have ht:t<4:=(Ac.mp hv).1;obtain⟨y,D,pl,B,C,us,m⟩:=bl.lr j q f O I;rcases (by lia:t=0\/t=1\/t=2\/t=3) with rfl|rfl|rfl|rfl
    .cases hv;refine(nmc Z (nmc Z (lxo (m.hq) Z (nmc Z ⟨_,Z,_,_,Z,SqL.of m.he,λF U=>?_⟩))));rw[qs7 _ d,<- C3];obtain⟨sz,ez⟩:=alc (o:=.lst ((f.ends.take d).map V.str)) U;have ac:F≠q:=λz=>by rw[z,m.hq]at U;cases U
     generalize upd Y F _=H3 at sz ez |-;have u:=sz _ _ m.hq;refine(nmc Z (nmc Z ⟨_,_,_,7,Z,Z,u,Z,?_⟩));have X:KeepT [q] H3 (upd H3 q (.lst ((qfu f y D pl C B).set 7 (V.ref F)))):=KeepT.put (Ao.mpr Z) u (λ_ z=>nomatch z);obtain⟨n0,n1,n2,n3⟩:=(m.same sz).ne u;have G:LR1 (upd H3 q (.lst ((qfu f y D pl C B).set 7 (V.ref F)))) q (qds 0 d f) F D pl B C us:=⟨qu,(ze ac).trans ez,(ze n1).trans (sz _ _ m.ha),(ze n2).trans (sz _ _ m.hl),qbt (m.tl.same sz) X,(m.hs.same sz).keep X,(ze n3).trans (sz _ _ m.hy)⟩;have L:=(bl.same sz).put O u ⟨_,_,_,_,_,_,G⟩;have lt:qif 0 (qds 0 d f)=((f.ends.take d).map V.str).length:=by rw[Ab];rfl
     have R:=(ze (o:=.lst ((qfu f y D pl C B).set 7 (V.ref F))) au).trans (sz _ _ ah);generalize upd H3 q _=H4 at G L R |-;obtain⟨ae,af⟩:=qih (t:=0) (n:=d) En f;refine(nmc Z (nmc Z (nmc Z (lxo (G.hq) Z ⟨_,_,Z,.inl ⟨_,SqL.of G.he,Z⟩,(iic Z Z ?_)⟩))));have ad:V.int ((d:Int)-(((f.ends.take d).map V.str).length:Int))=V.int ((d-qif 0 (qds 0 d f):Nat):Int):=by rw[<- lt,Int.ofNat_sub af]
     exact⟨R,⟨J.set j (qds 0 d f),qds 0 d f,d-qif 0 (qds 0 d f),L,by rw[Bz];exact a0,qii S I (qig 0 d f),B8 (Ac.mp I).1,by rw[take_set'];exact aa,by rw[ae];lia,_,V.int ((d:Int)-(((f.ends.take d).map V.str).length:Int)),ad,Z⟩⟩
    .cases hv;refine(nmc Z (nmc Z (lxo (m.hq) Z (nmc Z ⟨_,Z,_,_,Z,SqL.of m.ha,λF U=>?_⟩))));rw[qs7 _ d,<- C3];obtain⟨sz,ez⟩:=alc (o:=.lst ((f.anew.take d).map V.str)) U;have ac:F≠q:=λz=>by rw[z,m.hq]at U;cases U
     generalize upd Y F _=H3 at sz ez |-;have u:=sz _ _ m.hq;refine(nmc Z (nmc Z ⟨_,_,_,8,Z,Z,u,Z,?_⟩));have X:KeepT [q] H3 (upd H3 q (.lst ((qfu f y D pl C B).set 8 (V.ref F)))):=KeepT.put (Ao.mpr Z) u (λ_ z=>nomatch z);obtain⟨n0,n1,n2,n3⟩:=(m.same sz).ne u;have G:LR1 (upd H3 q (.lst ((qfu f y D pl C B).set 8 (V.ref F)))) q (qds 1 d f) y F pl B C us:=⟨qu,(ze n0).trans (sz _ _ m.he),(ze ac).trans ez,(ze n2).trans (sz _ _ m.hl),qbt (m.tl.same sz) X,(m.hs.same sz).keep X,(ze n3).trans (sz _ _ m.hy)⟩;have L:=(bl.same sz).put O u ⟨_,_,_,_,_,_,G⟩;have lt:qif 1 (qds 1 d f)=((f.anew.take d).map V.str).length:=by rw[Ab];rfl
     have R:=(ze (o:=.lst ((qfu f y D pl C B).set 8 (V.ref F))) au).trans (sz _ _ ah);generalize upd H3 q _=H4 at G L R |-;obtain⟨ae,af⟩:=qih (t:=1) (n:=d) En f;refine(nmc Z (nmc Z (nmc Z (lxo (G.hq) Z ⟨_,_,Z,.inl ⟨_,SqL.of G.ha,Z⟩,(iic Z Z ?_)⟩))));have ad:V.int ((d:Int)-(((f.anew.take d).map V.str).length:Int))=V.int ((d-qif 1 (qds 1 d f):Nat):Int):=by rw[<- lt,Int.ofNat_sub af]
     exact⟨R,⟨J.set j (qds 1 d f),qds 1 d f,d-qif 1 (qds 1 d f),L,by rw[Bz];exact a0,qii S I (qig 1 d f),B8 (Ac.mp I).1,by rw[take_set'];exact aa,by rw[ae];lia,_,V.int ((d:Int)-(((f.anew.take d).map V.str).length:Int)),ad,Z⟩⟩
    .cases hv;refine(nmc Z (nmc Z (lxo (m.hq) Z (nmc Z ⟨_,Z,_,_,Z,SqL.of m.hl,λF U=>?_⟩))));rw[qs7 _ d];obtain⟨sz,ez⟩:=alc (o:=.lst (us.take d)) U;have ac:F≠q:=λz=>by rw[z,m.hq]at U;cases U
     generalize upd Y F _=H3 at sz ez |-;have u:=sz _ _ m.hq;refine(nmc Z (nmc Z ⟨_,_,_,9,Z,Z,u,Z,?_⟩));have X:KeepT [q] H3 (upd H3 q (.lst ((qfu f y D pl C B).set 9 (V.ref F)))):=KeepT.put (Ao.mpr Z) u (λ_ z=>nomatch z);obtain⟨n0,n1,n2,n3⟩:=(m.same sz).ne u;have G:LR1 (upd H3 q (.lst ((qfu f y D pl C B).set 9 (V.ref F)))) q (qds 2 d f) y D F B C (us.take d):=⟨qu,(ze n0).trans (sz _ _ m.he),(ze n1).trans (sz _ _ m.ha),(ze ac).trans ez,(by show Tups _ _ ((f.longer.take d).map qop);rw[C3];exact qbt (qs8 (m.tl.same sz) d) X),(m.hs.same sz).keep X,(ze n3).trans (sz _ _ m.hy)⟩;have L:=(bl.same sz).put O u ⟨_,_,_,_,_,_,G⟩;have lt:qif 2 (qds 2 d f)=(us.take d).length:=by show (f.longer.take d).length=_;rw[A6,A6,show us.length=f.longer.length by rw[m.tl.length,Ab]]
     have R:=(ze (o:=.lst ((qfu f y D pl C B).set 9 (V.ref F))) au).trans (sz _ _ ah);generalize upd H3 q _=H4 at G L R |-;obtain⟨ae,af⟩:=qih (t:=2) (n:=d) En f;refine(nmc Z (nmc Z (nmc Z (lxo (G.hq) Z ⟨_,_,Z,.inl ⟨_,SqL.of G.hl,Z⟩,(iic Z Z ?_)⟩))));have ad:V.int ((d:Int)-((us.take d).length:Int))=V.int ((d-qif 2 (qds 2 d f):Nat):Int):=by rw[<- lt,Int.ofNat_sub af]
     exact⟨R,⟨J.set j (qds 2 d f),qds 2 d f,d-qif 2 (qds 2 d f),L,by rw[Bz];exact a0,qii S I (qig 2 d f),B8 (Ac.mp I).1,by rw[take_set'];exact aa,by rw[ae];lia,_,V.int ((d:Int)-((us.take d).length:Int)),ad,Z⟩⟩
    .cases hv;refine(nmc Z (nmc Z (lxo (m.hq) Z (nmc Z ⟨_,Z,_,_,Z,SqL.of m.hy,λF U=>?_⟩))));rw[qs7 _ d,<- C3];obtain⟨sz,ez⟩:=alc (o:=.lst ((f.yields.take d).map V.str)) U;have ac:F≠q:=λz=>by rw[z,m.hq]at U;cases U
     generalize upd Y F _=H3 at sz ez |-;have u:=sz _ _ m.hq;refine(nmc Z (nmc Z ⟨_,_,_,11,Z,Z,u,Z,?_⟩));have X:KeepT [q] H3 (upd H3 q (.lst ((qfu f y D pl C B).set 11 (V.ref F)))):=KeepT.put (Ao.mpr Z) u (λ_ z=>nomatch z);obtain⟨n0,n1,n2,n3⟩:=(m.same sz).ne u;have G:LR1 (upd H3 q (.lst ((qfu f y D pl C B).set 11 (V.ref F)))) q (qds 3 d f) y D pl F C us:=⟨qu,(ze n0).trans (sz _ _ m.he),(ze n1).trans (sz _ _ m.ha),(ze n2).trans (sz _ _ m.hl),qbt (m.tl.same sz) X,(m.hs.same sz).keep X,(ze ac).trans ez⟩;have L:=(bl.same sz).put O u ⟨_,_,_,_,_,_,G⟩;have lt:qif 3 (qds 3 d f)=((f.yields.take d).map V.str).length:=by rw[Ab];rfl
     have R:=(ze (o:=.lst ((qfu f y D pl C B).set 11 (V.ref F))) au).trans (sz _ _ ah);generalize upd H3 q _=H4 at G L R |-;obtain⟨ae,af⟩:=qih (t:=3) (n:=d) En f;refine(nmc Z (nmc Z (nmc Z (lxo (G.hq) Z ⟨_,_,Z,.inl ⟨_,SqL.of G.hy,Z⟩,(iic Z Z ?_)⟩))));have ad:V.int ((d:Int)-(((f.yields.take d).map V.str).length:Int))=V.int ((d-qif 3 (qds 3 d f):Nat):Int):=by rw[<- lt,Int.ofNat_sub af]
     exact⟨R,⟨J.set j (qds 3 d f),qds 3 d f,d-qif 3 (qds 3 d f),L,by rw[Bz];exact a0,qii S I (qig 3 d f),B8 (Ac.mp I).1,by rw[take_set'];exact aa,by rw[ae];lia,_,V.int ((d:Int)-(((f.yields.take d).map V.str).length:Int)),ad,Z⟩⟩
   .rintro σ Y ⟨ah,J,f,d,bl,a0,S,I,aa,am,v7,vr,rfl,rfl⟩;have am:d+qnb 4 f=ag:=am;obtain⟨y,D,pl,B,C,us,m⟩:=bl.lr j q f O I;have bj:=(Ac.mp I).1;have bq:f.still=none->exR f=qnb 4 f:=λe=>by unfold exR qnb;rw[e];rfl
    have bv:∀s,f.still=some s->exR f=qnb 4 f+1:=λs e=>by unfold exR qnb;rw[e];rfl
    refine(nmc Z ⟨Z,(nmc Z (qdk (λc=>?_) (λc=>?_)))⟩)
    .have c:(d:Int)=0:=V.int.inj (of_decide_eq_true c);refine(nmc Z ⟨_,_,_,10,Z,Z,m.hq,Z,?_⟩);have X:KeepT [q] Y (upd Y q (.lst ((qfu f y D pl C B).set 10 V.non))):=KeepT.put (Ao.mpr Z) m.hq (λ_ z=>nomatch z);obtain⟨n0,n1,n2,n3⟩:=m.ne m.hq;have bt:Fewer f {f with still:=none}:=⟨Z,Z,Z,Z,Z,Z,Z,Ce _,Ce _,Ce _,.inr Z,Ce _⟩;have G:LR1 (upd Y q (.lst ((qfu f y D pl C B).set 10 V.non))) q {f with still:=none} y D pl B .non us:=⟨qu,(ze n0).trans m.he,(ze n1).trans m.ha,(ze n2).trans m.hl,qbt m.tl X,Z,(ze n3).trans m.hy⟩;have L:=bl.put O m.hq ⟨_,_,_,_,_,_,G⟩;generalize upd Y q _=H4 at G L |-;refine(nmc Z (lxo (G.hq) Z ⟨Z,(nmc Z (qew Z ?_))⟩));have hx:(J.set j {f with still:=none})[j]?=some {f with still:=none}:=B8 bj;refine⟨_,d,L,by rw[Bz];exact a0,qii S I bt,?_,_,_,Z⟩;rw[qk3 hx,take_set',aa];have:exR {f with still:=none}=qnb 4 f:=rfl;rw[this];lia
    .have c:d≠0:=λz=>c (decide_eq_true (by rw[z];rfl));have ao:=m.hs;cases es:f.still with
     |none =>rw[es]at ao;cases ao;refine(nmc Z (lxo (m.hq) Z ⟨Z,(nmc Z (qew Z ?_))⟩));exact⟨J,d,bl,a0,S,by rw[qk3 I,aa,bq es];lia,_,_,Z⟩
     |some sp =>rw[es]at ao;obtain⟨ps,rfl,_⟩:=ao;refine(nmc Z (lxo (m.hq) Z ⟨Z,(nmc Z (qfc (λz=>nomatch z) (nmc Z (iic Z Z ?_))))⟩));exact⟨J,d-1,bl,a0,S,by rw[qk3 I,aa,bv _ es];lia,_,_,by rw[show ((d-1:Nat):Int)=(d:Int)-1 by lia];rfl⟩
  .rintro σ H' ⟨rs,d,bl,ak,bb,ar,v6,v7,rfl⟩;rw[Ab,lq,<- ak,Be]at ar;exact(nmc Z (k p H' qs rs bl ak bb (by rw[<- ak];lia)))
theorem qli (T:Txt K mg a):FnOk P w K mg base CX0 1 a.fL a.fB ["_law_rule_here"] spSo:=by
 refine T.gD.fn.ok qa0 (λvs H Q E h=>?_) (λcdv A outer s H vs Q E hr h=>?_)
 .obtain⟨_,_,rfl,_⟩:=h
  all_goals rfl
 .obtain⟨p,r,rfl,lr,ok,k⟩:=h;refine⟨_,(qj (zg (i:=1) qa0.nd Z (Cj Z) (ja jc (pv 0) qp (λ_ _=>rfl)))
   (qj (zg (i:=2) qa0.nd Z (A0 Z) (zh qac zq (qbs qst (by rfl) T.kU qd6 (qh (ja jc (pv 0) qp (λ_ _=>rfl)) qm zx))))
   (qj (zm (zf qdn (ja jc (pv 0) qp (λ_ _=>rfl)) qa8 (qah _)) (qt (zg (i:=2) qa0.nd Z (A0 Z) (zh qac zq (ja jc (pv 0) qp (λ_ _=>rfl))))) qan)
   (qj (zg (i:=3) qa0.nd Z (A0 Z) (zh qac (zh qac (zh qac (zh qac (zh qac zq (pv 1)) zq) (ja jc (pv 0) qp (λ_ _=>rfl))) zq) (ja jc (pv 0) qp (λ_ _=>rfl))))
   (qj (zg (i:=3) qa0.nd Z (A0 Z) (zh qac (zh qac (zh qac (zh qac (zh qac (zh qac (pv 3) zq) (pv 2)) zq) (qbs qdo (by rfl) T.kU qd6 (qh (ja jc (pv 0) qp (λ_ _=>rfl)) qm zx))) zq) (ja jc (pv 0) qp (λ_ _=>rfl))))
   (qj (qck (i:=4) qa0.nd Z Z (N:=["_law_kind","_law_name"]) (js:=[none,some 1]) (XN:=["_law_rule_here","_law_name","_law_way","_law_head","_law_ends","_law_anew","_law_longer","_law_kind","_law_units","_law_times","_law_row","_law_stays","_law_yields_here"]) (xs:=qaa qee) Z Z Z Ek (qbd (ja jc (pv 0) qp (λ_ _=>rfl))) (λ_ _ _ _ _ _=>(qam (i:=0) (show B5 (["_law_kind","_law_name"]:List Str) from by decide +kernel) Z (A0 Z) (Cj Z))) (λ_ _ _ _ _ _=>qb4) (λ_ _ _ _ _ _=>(zh qac (zh qac (zh qac zq (pv 1)) zq) (pv 0))))
   (qj (qck (i:=5) qa0.nd Z Z (N:=["_law_kind","_law_name"]) (js:=[none,some 1]) (XN:=["_law_rule_here","_law_name","_law_way","_law_head","_law_ends","_law_anew","_law_longer","_law_kind","_law_units","_law_times","_law_row","_law_stays","_law_yields_here"]) (xs:=qaa qee) Z Z Z Ek (qbd (ja jc (pv 0) qp (λ_ _=>rfl))) (λ_ _ _ _ _ _=>(qam (i:=0) (show B5 (["_law_kind","_law_name"]:List Str) from by decide +kernel) Z (A0 Z) (Cj Z))) (λ_ _ _ _ _ _=>qb4) (λ_ _ _ _ _ _=>(zh qac (zh qac (zh qac zq (pv 1)) zq) (pv 0))))
   (qj (zg (i:=6) qa0.nd Z (A0 Z) (zr qm))
   (qj (qcd Bo Z (qbd (ja jc (pv 0) qp (λ_ _=>rfl))) (qmr Z (qcm (qam (i:=7) qa0.nd Z (A0 Z)) (qcm (qam (i:=8) qa0.nd Z (A0 Z)) (qcm (qam (i:=9) qa0.nd Z (A0 Z)) qhw)))) (qj (zg (i:=10) qa0.nd Z (A0 Z) (zh qac (zh qac (zh qac (zh qac (zh qac zq (pv 1)) zq) (pv 7)) zq) (qbs qdo (by rfl) T.kU qd6 (qh (pv 8) qm qi))))
   (qt (zj (qbv A7 AY AZ qbh (pv 6) (qh (zh qac (zh qac (pv 10) zq) (qbs qdo (by rfl) T.kU qd6 (qh (pv 9) qm qi))) qm zw))))))
   (qj (zg (i:=11) qa0.nd Z (A0 Z) (zr qm))
   (qj (zm (zf qdn (ja jc (pv 0) qp (λ_ _=>rfl)) qa8 (qah _)) (qt (zg (i:=11) qa0.nd Z (A0 Z) (zr (qh (zh qac (zh qac (zh qac (zh qac (zh qac zq (pv 1)) zq) (ja jb (ja jc (pv 0) qp (λ_ _=>rfl)) qp (λ_ _=>rfl))) zq) (ja jb (ja jc (pv 0) qp (λ_ _=>rfl)) qp (λ_ _=>rfl))) qm zw)))) qan)
   (qj (qck (i:=12) qa0.nd Z Z (N:=["_law_other","_law_name"]) (js:=[none,some 1]) (XN:=["_law_rule_here","_law_name","_law_way","_law_head","_law_ends","_law_anew","_law_longer","_law_kind","_law_units","_law_times","_law_row","_law_stays","_law_yields_here"]) (xs:=qaa qee) Z Z Z Ek (qbd (ja jc (pv 0) qp (λ_ _=>rfl))) (λ_ _ _ _ _ _=>(qam (i:=0) (show B5 (["_law_other","_law_name"]:List Str) from by decide +kernel) Z (A0 Z) (Cj Z))) (λ_ _ _ _ _ _=>qb4) (λ_ _ _ _ _ _=>(zh qac (zh qac (zh qac zq (pv 1)) zq) (pv 0))))
   (qt (zc (zr (qh (zr (qh (pv 3) qm qi)) (qh (pv 4) (qh (pv 5) (qh (pv 6) (qh (pv 11) (qh (pv 12) qm qi) qi) qi) qi) qi) qn4)))))))))))))))),?_⟩
  obtain⟨pe,pa,pl,py,sv,us,c⟩:=lr;obtain⟨l1,l2,l3,l4,l5,l6,l7,l8,l9,l10,l11,l12,l13⟩:=t_lens;obtain⟨k1,k2,k3,k4,k5,k6⟩:=ok.kin;obtain⟨z1,z2,z3,z4⟩:=ok.sz;have n8:r.name.length<=8:=ok.nm.2.1;have w8:r.who.length<=8:=ok.wh.2.1;have o8:r.owes.length<=8:=k1.2.1;have u8:r.unit.length<=5:=(qnc ok.un).2.2;have m8:(Aa (toString r.many)).length<=2:=(qgo ok.mn.1 ok.mn.2).2.2.2.1;have op8:(r.opens.getD "None").length<=8:=by
   cases eo:r.opens with|none=>show (Aa "None").length<=8;lia|some x=>exact(k5 x eo).2.1
  refine(nmc Z (lxo (c.hq) Z ?_));refine(nmc Z (lxo (c.hq) Z ⟨r.opens,by cases r.opens <;>rfl,_,_,Z,Z,fz,?_⟩));have ak:r.base=none \/ ∃y,r.base=some y:=by
   cases r.base with|none=>exact .inl rfl|some y=>exact .inr ⟨y,Z⟩
  have way8:(qls r).length<=15:=by
   unfold qls;cases I:r.base with|none=>show (Aa "from " ++ r.opens.getD "None").length<=15;rw[qaw];lia|some y=>have:y.length<=8:=(ok.ba y I).2.1;show (Aa "behind " ++ y).length<=15;rw[qaw];lia
  apply useV (p:=λx=>x=some (.str (qls r)))
  .intro u;refine ak.elim (λz=>?_) (λz=>?_)
   .refine(nmc Z (lxo (c.hq) Z ⟨Z,(nmc Z (qew (by rw[z];rfl) ?_))⟩));have ew:(some (V.str (Aa "from " ++ r.opens.getD "None")):Option V)=some (.str (qls r)):=by unfold qls;rw[z]
    generalize (some (V.str (Aa "from " ++ r.opens.getD "None")):Option V)=x2 at ew |-;exact u x2 ew
   .obtain⟨y,I⟩:=z;have a0:qdl r.base=.str y:=by rw[I];rfl
    have y8:y.length<=8:=(ok.ba y I).2.1;refine(nmc Z (lxo (c.hq) Z ⟨Z,(nmc Z (qfc (λz=>by rw[a0]at z;cases z) ?_))⟩));refine(nmc Z (lxo (c.hq) Z ⟨_,y,Z,a0,qad (by lia),?_⟩));exact u _ (by unfold qls;rw[I])
  rintro x2 rfl;refine(nmc Z ⟨_,_,Z,Z,fz,_,_,Z,Z,fz,(nmc Z (lxo (c.hq) Z ⟨_,_,Z,Z,fz,_,_,Z,Z,fz,(nmc Z (lxo (c.hq) Z ⟨_,_,Z,Z,fz,?_⟩))⟩))⟩);refine(nmc Z ⟨_,_,Z,Z,fz,(nmc Z ⟨_,_,Z,Z,fz,_,_,Z,Z,fz,(nmc Z (lxo (c.hq) Z ⟨_,Z,qqf (by have:=ok.mn;lia),_,_,Z,Z,fz,_,_,Z,Z,fz,(nmc Z (lxo (c.hq) Z ⟨_,_,Z,Z,fz,?_⟩))⟩))⟩)⟩);have aq:=qta r;have G:=Same.refl H;rw[show (Aa "term " ++ r.name++Aa " of " ++ r.who++Aa " due " ++ r.owes++Aa " " ++ qls r++Aa " " ++ Aa (toString r.many)++Aa " " ++ r.unit)=qal (qae r) from aq];refine(nmc Z (lxo (G _ _ c.hq) Z ⟨_,Z,⟨_,SqL.of (G _ _ c.he)⟩,?_⟩));refine qb0 (λv=>match v with | .str y=>.str (qal (.ends r.name y))|_=>.non) (λσ'=>∃v,σ'=[v,some (.str r.name)]) (qbn (K:=K) (SqL.of (G _ _ c.he))) (qad (by rw[Ab];lia)) ⟨none,Z⟩ (λv σ' J ag e sm n d=>?_) qb5 λW aw=>?_
  .obtain⟨v0,rfl⟩:=n;obtain⟨y,hy,rfl⟩:=A8.mp e;have y8:y.length<=8:=(k2 y hy).2.1;have d:=d [some (.str y),some (.str r.name)] ⟨_,Z⟩;dsimp only at d;rw[<- qmg]at d;exact(nmc Z ⟨_,_,Z,Z,fz,_,_,Z,Z,fz,(nmc Z ⟨_,_,Z,Z,fz,d⟩)⟩)
  rw[show ((r.ends).map V.str).map (λv=>match v with | .str y=>V.str (qal (.ends r.name y))|_=>.non)=qaq ((r.ends).map (.ends r.name)) by unfold qaq;rw[AM,AM,AM];rfl];obtain⟨s0,e1⟩:=alc (o:=.lst (qaq ((r.ends).map (.ends r.name)))) aw;generalize upd H W _=H1 at s0 e1 |-;have C:=s0;refine(nmc Z (lxo (C _ _ c.hq) Z ⟨_,Z,⟨_,SqL.of (C _ _ c.ha)⟩,?_⟩));refine qb0 (λv=>match v with | .str y=>.str (qal (.anew r.name y))|_=>.non) (λσ'=>∃v,σ'=[v,some (.str r.name)]) (qbn (K:=K) (SqL.of (C _ _ c.ha))) (qad (by rw[Ab];lia)) ⟨none,Z⟩ (λv σ' J ag e sm n d=>?_) qb5 λS ao=>?_
  .obtain⟨v0,rfl⟩:=n;obtain⟨y,hy,rfl⟩:=A8.mp e;have y8:y.length<=8:=(k3 y hy).2.1;have d:=d [some (.str y),some (.str r.name)] ⟨_,Z⟩;dsimp only at d;rw[<- qmh]at d;exact(nmc Z ⟨_,_,Z,Z,fz,_,_,Z,Z,fz,(nmc Z ⟨_,_,Z,Z,fz,d⟩)⟩)
  rw[show ((r.anew).map V.str).map (λv=>match v with | .str y=>V.str (qal (.anew r.name y))|_=>.non)=qaq ((r.anew).map (.anew r.name)) by unfold qaq;rw[AM,AM,AM];rfl];obtain⟨s1,e2⟩:=alc (o:=.lst (qaq ((r.anew).map (.anew r.name)))) ao;generalize upd H1 S _=H2 at s1 e2 |-;have B:=C.trans s1;refine⟨qdg,λO n3=>?_⟩;obtain⟨s2,e3⟩:=alc (o:=.lst []) n3;generalize upd H2 O _=H3 at s2 e3 |-;have aa:=B.trans s2;have lu:us.length=r.longer.length:=by rw[c.tl.length,Ab]
  refine(nmc Z (lxo (aa _ _ c.hq) Z ⟨_,Z,⟨_,SqL.of (aa _ _ c.hl)⟩,qc7 (K:=K) (a:=pl) (xs:=us) (λi σ J=>Same H2 J/\J O=some (.lst (qaq ((r.longer.take i).map λt=>.longer r.name t.1 t.2.1 t.2.2)))/\∃v7 v8 v9 L:Option V,σ=[some (.ref p),some (.str r.name),some (.str (qls r)),some (.str (qal (qae r))),some (.ref W),some (.ref S),some (.ref O),v7,v8,v9,L,none,none]) ⟨s2,e3,none,none,none,none,Z⟩ (λi σ J _ h=>SqL.of ((B.trans h.1) _ _ c.hl)) ?_ ?_⟩))
  .rintro i v σ J e ⟨sJ,hJ,v7,v8,v9,L,rfl⟩;obtain⟨b,t,rfl,F,g2⟩:=c.tl.get' e;rw[Af]at F;cases M:r.longer[i]? with
   |none=>rw[M]at F;cases F
   |some tr =>
   rw[M]at F;cases F;have hi:i<r.longer.length:=(Ac.mp M).1;have tm:=Al M;obtain⟨⟨b1,b2⟩,b3,b4⟩:=ok.lg tr tm;have t8:tr.1.length<=8:=(k4 tr tm).2.1;have a2:(Aa (toString tr.2.1)).length<=2:=(qgo b1 (by lia)).2.2.2.1;have a3:(Aa (toString tr.2.2)).length<=2:=(qgo b3 (by lia)).2.2.2.1;refine⟨_,_,Z,SqT.of ((B.trans sJ) _ _ g2),Z,_,_,Z,_,_,Z,_,_,Z,Z,?_⟩;refine(nmc Z ⟨_,_,Z,Z,fz,_,_,Z,Z,fz,(nmc Z ⟨_,_,Z,Z,fz,_,_,Z,Z,fz,(nmc Z ⟨_,Z,qqf (by lia),_,_,Z,Z,fz,?_⟩)⟩)⟩);refine(nmc Z ⟨.inl ⟨Z,_,SqL.of hJ⟩,(nmc Z ⟨_,_,Z,Z,fz,(nmc Z ⟨_,Z,qqf (by lia),_,_,Z,Z,fz,_,_,_,Z,Z,hJ,qc0 (by unfold qaq;rw[Ab,Ab,Ab,A6];lia),?_⟩)⟩)⟩);refine⟨qag sJ n3,?_,_,_,_,_,Z⟩;rw[qu,qa6 M,Ar];unfold qaq;rw[Ar,Ar];show some (HO.lst (_++[V.str (wS "longer " ++ r.name++wS " " ++ tr.1++wS " " ++ nS tr.2.1++wS " times " ++ nS tr.2.2)]))=_;rw[qjj];rfl
  .rintro σ H4 ⟨n,e4,v7,v8,v9,L,rfl⟩;rw[lu,Be]at e4;have am:=B.trans n;refine⟨qdg,λU n5=>?_⟩;obtain⟨s5,e5⟩:=alc (o:=.lst []) n5;generalize upd H4 U _=H5 at s5 e5 |-;have l:=am.trans s5;have f:=c.hs.same l;have ah:r.still=none \/ ∃s,r.still=some s:=by
    cases r.still with|none=>exact .inl rfl|some s=>exact .inr ⟨s,Z⟩
   apply use2 (p:=λ(j:Hp)(x:Option V)=>∃g,x=some (.ref g)/\Same H5 j/\j g=some (.lst (qaq (qcv r.name r.still))))
   .intro u;refine ah.elim (λz=>?_) (λz=>?_)
    .rw[z]at f;have f:sv=.non:=f;refine(nmc Z (lxo (l _ _ c.hq) Z ⟨Z,(nmc Z (qew f ?_))⟩));obtain⟨j,hH6⟩:∃j,j=H5:=⟨_,Z⟩;have d:∃g,some (V.ref U)=some (.ref g)/\Same H5 j/\j g=some (.lst (qaq (qcv r.name r.still))):=⟨U,Z,by rw[hH6];exact Same.refl _,by rw[hH6,z,e5];rfl⟩;rw[<- hH6];generalize (some (V.ref U):Option V)=ad at d |-;exact u j ad d
    .obtain⟨s,es⟩:=z;rw[es]at f;obtain⟨b,hb,f⟩:=f;obtain⟨q1,q2⟩:=k6 s es;have q1:s.1.length<=8:=q1.2.1;have q2:s.2.length<=8:=q2.2.1;refine(nmc Z (lxo (l _ _ c.hq) Z ⟨Z,(nmc Z (qfc (λz=>by rw[hb]at z;cases z) ?_))⟩));refine(nmc Z ⟨_,_,Z,Z,fz,_,_,Z,Z,fz,(nmc Z (lxo (l _ _ c.hq) Z ⟨_,_,_,_,hb,Z,SqT.of f,Z,_,_,Z,Z,fz,_,_,Z,Z,fz,(nmc Z (lxo (l _ _ c.hq) Z ⟨_,_,_,_,hb,Z,SqT.of f,Z,_,_,Z,Z,fz,qad (show 1<=100000 by decide),λg n6=>?_⟩))⟩))⟩);refine u _ (some (.ref g)) ⟨g,Z,zi n6,?_⟩;rw[qu,es];show some (HO.lst [V.str (wS "still " ++ r.name++wS " " ++ s.1++wS " " ++ s.2)])=_;rw[qqe];rfl
   rintro j ad ⟨g,rfl,s6,e6⟩;have D:=l.trans s6;have z4':=z4;refine(nmc Z (lxo (D _ _ c.hq) Z ⟨_,Z,⟨_,SqL.of (D _ _ c.hy)⟩,?_⟩));refine qb0 (λv=>match v with | .str y=>.str (qal (.yields r.name y))|_=>.non) (λσ'=>∃v,σ'=[v,some (.str r.name)]) (qbn (K:=K) (SqL.of (D _ _ c.hy))) (qad (by rw[Ab];lia)) ⟨none,Z⟩ (λv σ' J ag e sm n d=>?_) qb5 λp7 ay=>?_
   .obtain⟨v0,rfl⟩:=n;obtain⟨y,hy,rfl⟩:=A8.mp e;have y8:y.length<=8:=(ok.yl y hy).2.1;have d:=d [some (.str y),some (.str r.name)] ⟨_,Z⟩;dsimp only at d;rw[<- qji]at d;exact(nmc Z ⟨_,_,Z,Z,fz,_,_,Z,Z,fz,(nmc Z ⟨_,_,Z,Z,fz,d⟩)⟩)
   rw[show ((r.yields).map V.str).map (λv=>match v with | .str y=>V.str (qal (.yields r.name y))|_=>.non)=qaq ((r.yields).map (.yields r.name)) by unfold qaq;rw[AM,AM,AM];rfl];obtain⟨R,e7⟩:=alc (o:=.lst (qaq ((r.yields).map (.yields r.name)))) ay;generalize upd j p7 _=H7 at R e7 |-;have ar:=D.trans R;refine(nmc Z ⟨qad (show 1<=100000 by decide),λp8 au=>?_⟩);obtain⟨s8,e8⟩:=alc (o:=.lst [V.str (qal (qae r))]) au;generalize upd H7 p8 _=H8 at s8 e8 |-;have af:=ar.trans s8;refine(nmc Z (nmc Z (nmc Z (nmc Z (nmc Z ⟨qad (show 6<=100000 by decide),λq nq=>?_⟩)))));have s9:=zi (o:=.lst [V.ref p8,V.ref W,V.ref S,V.ref O,V.ref g,V.ref p7]) nq;have X:=s8.trans s9;have Y:=R.trans X;have ax:=s6.trans Y;have ac:=s5.trans ax;have ae:=n.trans ac;refine k q _ _ (af.free nq) (af.trans s9) qu rfl λi v rw e m=>?_;have hi:i<6:=(Ac.mp e).1;rcases (by lia:i=0\/i=1\/i=2\/i=3\/i=4\/i=5) with rfl|rfl|rfl|rfl|rfl|rfl
   .cases e;cases m;exact⟨p8,Z,s9 _ _ e8⟩
   .cases e;cases m;exact⟨W,Z,(s1.trans ae) _ _ e1⟩
   .cases e;cases m;exact⟨S,Z,ae _ _ e2⟩
   .cases e;cases m;exact⟨O,Z,ac _ _ e4⟩
   .cases e;cases m;exact⟨g,Z,Y _ _ e6⟩
   .cases e;cases m;exact⟨p7,Z,X _ _ e7⟩
theorem qi6 (T:Txt K mg a):FnOk P w K mg base CX0 2 a.fC a.fX ["_law_rule_here"] spRws:=by
 refine T.kP.fn.ok qg0 (λvs H Q E h=>?_) (λcdv A outer s H vs Q E L h=>?_)
 .obtain⟨_,_,rfl,_⟩:=h
  all_goals rfl
 .obtain⟨p,r,rfl,M,ok,k⟩:=h;refine⟨_,(qj (zg (i:=1) qg0.nd Z (A0 Z) (zr qm))
   (qj (qcd Bo Z (qbd (zn (qli T) (L.mono En) Z T.gD.mgx T.gD.fn.kp T.gD.bd .nil qap (qh (pv 0) qm qi))) (qam (i:=2) qg0.nd Z (A0 Z)) (qt (zg (i:=1) qg0.nd Z (A0 Z) (zh qci (pv 1) (pv 2)))))
   (qt (zc (pv 1))))),?_⟩
  refine⟨qdg,λD B=>?_⟩;obtain⟨g,y⟩:=alc (o:=.lst []) B;generalize upd H D _=H0 at g y |-;refine(nmc Z ⟨p,r,Z,M.same g,ok,λps N us nps l n f t=>?_⟩);have e:=g.trans l;have sl:=qk4 ok;have F:(qb7 r).length=6:=rfl;refine⟨_,Z,⟨_,SqL.of n⟩,qc7 (K:=K) (a:=ps) (xs:=us) (λi σ J=>Same N J/\(∃q,J q=some (.lst (qaq ((qb7 r).take i).flatten))/\H q=none/\∃j:Option V,σ=[some (.ref p),some (.ref q),j])/\((qb7 r).take i).flatten.length<=100*i) ⟨Same.refl _,⟨D,l _ _ y,B,none,Z⟩,by simp⟩ (λi σ J _ h=>SqL.of (h.1 _ _ n)) ?_ ?_⟩
  .rintro i v σ J u ⟨c,⟨q,d,C,j,rfl⟩,I⟩;have G:i<6:=by rw[<- f];exact(Ac.mp u).1
   obtain⟨rw',hrw⟩:∃rw',(qb7 r)[i]?=some rw':=⟨_,Ae (by rw[F];exact G)⟩;obtain⟨b,rfl,R⟩:=t i v rw' u hrw;have lb:=sl rw' (Al hrw);have m:∀z:List Rw7,(qaq z).length=z.length:=λz=>by unfold qaq;rw[Ab,Ab]
   refine(nmc Z (nmc Z ⟨_,_,_,_,Z,Z,d,c _ _ R,qad (by rw[m,m];lia),λO x=>?_⟩));refine⟨c.trans (zi x),⟨O,?_,(e.trans c).free x,_,Z⟩,?_⟩
   .rw[qu,qa6 hrw,List.flatten_append];unfold qaq;rw[Ar,Ar];simp
   .rw[qa6 hrw,List.flatten_append,Ai];simp only[List.flatten_cons,List.flatten_nil,AW];lia
  .rintro σ J ⟨c,⟨q,d,C,j,rfl⟩,I⟩;rw[f,<- F,Be]at d;exact(nmc Z (k q J C (e.trans c) d))
theorem qpc (T:Txt K mg a):FnOk P w K mg base CX0 2 a.nR a.hG ["_law_rule_here","_law_turn"] spTu3:=by
 refine T.gX.fn.ok qd7 (λvs H Q E h=>?_) (λcdv A outer s H vs Q E U h=>?_)
 .obtain⟨_,_,_,rfl,_⟩:=h
  all_goals rfl
 .obtain⟨p,t,r,rfl,W,f,k⟩:=h;refine⟨_,(qj (zg (i:=2) qd7.nd Z (A0 Z) (zn (qli T) (U.mono En) Z T.gD.mgx T.gD.fn.kp T.gD.bd .nil qap (qh (pv 0) qm qi)))
   (qj (zg (i:=3) qd7.nd Z (A0 Z) (qbs qfj (by rfl) T.gC qdy (qh (ja jc (pv 2) qp (λ_ _=>rfl)) qm zx)))
   (qj (qcd Bo Z (qcc Z T.kL (qh qp qm zb)) (qam (i:=4) qd7.nd Z (A0 Z)) (qt (zg (i:=3) qd7.nd Z (A0 Z) (zh qci (pv 3) (ja jc (pv 2) (zh qa3 qp (zh qav (zh qa3 (pv 4) (pv 1)) qp)) (λ_ _=>rfl))))))
   (qt (zc (pv 3)))))),?_⟩
  refine(nmc Z ⟨p,r,Z,W,f,λqs u us nq g M l6 S=>?_⟩);have q:∀i,i<6->∃b,us[i]?=some (V.ref b)/\u b=some (.lst (qaq ((qb7 r).getD i []))):=λi m=>by have F:us[i]?=some (us[i]'(by lia)):=Ae (by lia);have l:i<(qb7 r).length:=m;obtain⟨b,e,y⟩:=S i _ _ F (Ae l);exact⟨b,by rw[F,e],by rw[y,A4,Ae l];rfl⟩
  obtain⟨b0,u0,N⟩:=q 0 En;refine(nmc Z (lxo (M) (qbp (j:=0) u0) ⟨_,_,Z,.inl (SqL.of N),λL G=>?_⟩));generalize I:upd u L _=H2;obtain⟨C,R⟩:=alg I G;clear I;have s02:=g.trans C;have z:=g.free G;have o:=rb (n:=5) En;refine⟨_,Z,o.1,o.2,qdu (lo:=0) (n:=5) (λi σ J=>Same u J/\∃(c:Addr)(x:Option V),H c=none/\J c=some (.lst (qaq (qae r::trn r t i)))/\σ=[some (.ref p),some (.int (t:Int)),some (.ref qs),some (.ref c),x]) ⟨C,L,none,z,R,Z⟩ ?_ ?_⟩
  .rintro i σ J m ⟨d,c,x,B,v,rfl⟩;have m:i<5:=m;rw[BX];obtain⟨b,O,y⟩:=q (1+(i+t) % 5) (by lia);have X:1+((i:Int)+(t:Int)) % 5=((1+(i+t) % 5:Nat):Int):=by lia
   have ll:=qrm f t i;have l1:((qb7 r).getD (1+(i+t) % 5) []).length<=100:=by
    have l:1+(i+t) % 5<(qb7 r).length:=by show 1+(i+t) % 5<6;lia
    rw[A4,Ae l];exact qk4 f _ (Bw l)
   refine(nmc Z (nmc Z (nmc Z (nmc Z (iic Z Z (icc Z Z (pos En) (iic Z Z ?_)))))));dsimp only[];rw[X];refine⟨_,_,_,_,Z,Z,SqL.of (d _ _ M),qbp O,_,_,_,_,Z,Z,v,d _ _ y,qad (by rw[qcl,qcl,Am];lia),λY D=>?_⟩;refine⟨d.trans (zi D),Y,_,(g.trans d).free D,?_,Z⟩;rw[qu,qo5];unfold qaq;simp only[At,Ar,Bb]
  .rintro σ J ⟨d,c,x,B,v,rfl⟩;exact(nmc Z (k c J B (g.trans d) v))
theorem qqp (T:Txt K mg a):FnOk P w K mg base CX0 2 a.hM a.fT ["_law_script","_law_lists"] (spMx3 K):=by
 refine T.bM.fn.ok qdz (λvs H Q E h=>?_) (λcdv A outer s H vs Q E hr h=>?_)
 .obtain⟨_,_,_,_,_,_,_,rfl,_⟩:=h
  all_goals rfl
 .obtain⟨l,pl,ns,rs,T',bs,L,rfl,hS,hl,nn,hT,mx,ne,l6,sz,k⟩:=h;refine⟨_,(qj (zg (i:=2) qdz.nd Z (A0 Z) (zr qm))
   (qj (qnq Bo (zf (qoh hr.units) (pv 1) (zr qm) (qah _)) (qj (zg (i:=3) qdz.nd Z (A0 Z) (zh qbe (zn (qa1 T) (hr.mono En) Z T.kD.mgx T.kD.fn.kp T.kD.bd .nil qap (qh (pv 0) (qh (zh qa3 qp (zh qav (zo qa9 (by rfl) T.kE qa5 (qh (pv 2) qm qi)) qp)) qm zw) qi)) (zh qa3 qp (zh qbe (zo qa9 (by rfl) T.kE qa5 (qh (pv 2) qm qi)) qp))))
   (qj (zg (i:=4) qdz.nd Z (A0 Z) (zh qav (pv 3) (zo qa9 (by rfl) T.kE qa5 (qh (pv 1) qm qi))))
   (qj (zj (qbv A7 AY AZ qbh (pv 2) (qh (ja jc (ja jc (pv 1) (pv 4) (λ_ _=>rfl)) qp (λ_ _=>rfl)) qm zx)))
   (qj (zg (i:=1) qdz.nd Z (A0 Z) (zh qci (zh qci (qba qb9 (pv 1) qct (qa7 (pv 4))) (zr (qh (qba qb9 (ja jc (pv 1) (pv 4) (λ_ _=>rfl)) (qa7 qp) qct) qm zx))) (qba qb9 (pv 1) (qa7 (zh qa3 (pv 4) qp)) qct)))
   (qt (qck (i:=1) qdz.nd Z Z (N:=["_law_one"]) (js:=[none]) (XN:=["_law_script","_law_lists","_law_rows_here","_law_cell","_law_turn"]) (xs:=qaa qgy) Z Z Z Ek (qbd (pv 1)) (λ_ _ _ _ _ _=>(qam (i:=0) (show B5 (["_law_one"]:List Str) from by decide +kernel) Z (A0 Z) (Cj Z))) (λ_ _ _ _ _ _=>(qqy (zf (qsu (K:=K) Z hr.units) (pv 0) (zr qm) (qah _)))) (λ_ _ _ _ _ _=>(pv 0)))))))))
   (qt (zc (pv 2))))),?_⟩
  refine⟨qdg,λq M=>?_⟩;generalize e:upd H q _=H1;obtain⟨s1,e1⟩:=alg e M;clear e;refine⟨λm σ J=>∃(P:List Rw7)(p':Addr)(d:List Addr)(n:List (RR×List Rw7))(v3 v4:Option V),m=szL n/\WxI H J rs T' q P p' d n/\σ=[some (.ref l),some (.ref p'),some (.ref q),v3,v4],⟨_,[],pl,bs,L,none,none,Z,⟨s1,e1,hl.same s1,mx,ne,l6,by rw[Bf];lia,λz=>(by rw[z]at hl;rw[hl.hp]at M;cases M),λb hb z=>(by obtain⟨i,hi⟩:=AA hb;have li:=(Ac.mp hi).1;have:=hl.at' i b _ hi (Ae (by rw[<- hl.ln];exact li));rw[z,M]at this;cases this)⟩,Z⟩,?_⟩;rintro m σ J ⟨P,p',d,n,v3,v4,rfl,f,rfl⟩;refine(nmc Z ⟨qdg,λpz a0=>?_⟩);generalize e:upd J pz _=J1;obtain⟨I,e2⟩:=alg e a0;clear e;have lb:=f.ls.ln;refine⟨_,_,_,Z,Z,SqL.of (I _ _ f.ls.hp),SqL.of e2,(nmc Z (qdk (λc=>?_) (λc=>?_)))⟩
  .refine⟨_,λσ' H' h=>h,?_⟩;have lP:(qaq P).length=P.length:=qcl _;have szz:=f.sz;have l6':=f.l6;have ao:=f.sm.trans I;have F:=I _ _ f.hq;have p:=f.ls.same I;have ax:0<d.length:=by
    cases d with|nil=>exact absurd c En|cons _ _=>exact DL _
   refine(nmc Z (nmc Z ⟨_,_,Z,.inl ⟨_,SqL.of F,Z⟩,(icc Z Z (pos En) (iic Z Z ⟨_,_,_,Z,ao.seq hS,by lia,(nmc Z ⟨_,_,Z,.inl ⟨_,SqL.of F,Z⟩,(icc Z Z ⟨En,En⟩ (iic Z Z (iic Z Z ⟨⟨by lia,by lia⟩,?_⟩)))⟩)⟩))⟩));dsimp only[];generalize cell ns _ / _=c0;obtain⟨t,et,ht⟩:∃t:Nat,c0 % (((d.map V.ref).length:Nat):Int)=(t:Int)/\t<d.length:=by rw[Ab];exact md _ _ ax
   refine(nmc Z (nmc Z ⟨_,_,Z,.inl ⟨_,SqL.of p.hp,Z⟩,(iic Z Z ⟨pos (by rw[Ab];lia),?_⟩)⟩));dsimp only[];rw[et];have hb:d[t]?=some d[t]:=Ae ht;have O:n[t]?=some (n[t]'(by lia)):=Ae (by lia);have au:=p.at' t _ _ hb O;obtain⟨⟨r,R0⟩,eL⟩:∃x,x=n[t]'(by lia):=⟨_,Z⟩;rw[<- eL]at O au;have am:=f.ne _ (Al O);obtain⟨row,R,eR⟩:∃row R,R0=row::R:=by
    cases R0 with|nil=>exact absurd rfl am|cons a b=>exact⟨a,b,Z⟩
   subst eR;clear eL am;have ab:atI (d.map V.ref) (t:Int)=some (.ref d[t]):=qbp (by rw[Af,hb];rfl);refine(nmc Z ⟨.inl ⟨Z,_,SqL.of F⟩,(nmc Z (nmc Z (lxo (p.hp) ab (lxo (au) (qbp (j:=0) Z) ⟨_,_,_,Z,Z,F,qc0 (by rw[lP];lia),?_⟩))))⟩);have ar:=qag (o:=.lst (qaq P++[V.str (qal row)])) ao M;have C:upd J1 q (.lst (qaq P++[V.str (qal row)])) q=some (.lst (qaq (P++[row]))):=by rw[qu];unfold qaq;rw[Ar,Ar];rfl
   have D:upd J1 q (.lst (qaq P++[V.str (qal row)])) p'=some (.lst (d.map V.ref)):=by rw[ze f.np];exact p.hp
   have aa:∀(i:Nat)(b:Addr)(x:RR×List Rw7),d[i]?=some b->n[i]?=some x->upd J1 q (.lst (qaq P++[V.str (qal row)])) b=some (.lst (qaq x.2)):=λi b x e1 e2=>by rw[ze (f.nb b (Al e1))];exact p.at' i b x e1 e2
   have ak:upd J1 q (.lst (qaq P++[V.str (qal row)])) d[t]=some (.lst (qaq (row::R))):=aa t _ _ hb O;have aw:qe9 (qaq (row::R)) (some 1) none=qaq R:=qgj (qaq (row::R)) 1 (by rw[qcl];exact DL _);generalize upd J1 q _=J2 at ar C D aa ak |-;refine(nmc Z (nmc Z ⟨_,Z,_,_,Z,SqL.of D,λp5 n5=>?_⟩));rw[qs7];generalize e:upd J2 p5 _=J5;obtain⟨s5,e5⟩:=alg e n5;clear e;refine(nmc Z (nmc Z (lxo (s5 _ _ D) ab ⟨_,Z,_,_,Z,SqL.of (s5 _ _ ak),λS n6=>?_⟩)));rw[aw];generalize e:upd J5 S _=J6;obtain⟨s6,e6⟩:=alg e n6;clear e;have e6:J6 S=some (.lst (qaq R)):=e6;refine⟨qad (show 1<=100000 by decide),λp7 n7=>?_⟩;generalize e:upd J6 p7 _=J7;obtain⟨s7,e7⟩:=alg e n7;clear e;refine⟨_,_,_,_,Z,Z,(s6.trans s7) _ _ e5,e7,qad (by rw[A6,Ab];show _+1<=_;lia),λp8 n8=>?_⟩;generalize e:upd J7 p8 _=J8;obtain⟨s8,e8⟩:=alg e n8;clear e;have af:=s5.trans (s6.trans (s7.trans s8));refine(nmc Z (nmc Z (iic Z Z ⟨_,Z,_,_,Z,SqL.of (af _ _ D),λp9 n9=>?_⟩)));rw[show (t:Int)+1=((t+1:Nat):Int) from Z,qgj _ (t+1) (by rw[Ab];lia)];generalize e:upd J8 p9 _=J9;obtain⟨s9,e9⟩:=alg e n9;clear e;refine⟨_,_,_,_,Z,Z,s9 _ _ e8,e9,qad (by rw[Ai,A6,Bv,Ab];show _+1+_<=_;lia),λae bf=>?_⟩;generalize e:upd J9 ae _=J10;obtain⟨ag,G⟩:=alg e bf;clear e;have B:=af.trans (s9.trans ag);have G:J10 ae=some (.lst ((d.set t S).map V.ref)):=by rw[G,<- qx9 ht S];simp only[Ar,C3,Dh,At,BE]
   have Y:∀(i:Nat)(b:Addr)(x:RR×List Rw7),(d.set t S)[i]?=some b->(n.set t (r,R))[i]?=some x->J10 b=some (.lst (qaq x.2)):=λi b x u y=>by
    rw[BA]at u y;by_cases ci:t=i
    .rw[if_pos ci,if_pos ht]at u;rw[if_pos ci,if_pos (by lia)]at y;cases u;cases y;exact(s7.trans (s8.trans (s9.trans ag))) _ _ e6
    .rw[if_neg ci]at u y;exact B _ _ (aa i b x u y)
   obtain⟨bc,h1,h2,h3,h4⟩:=qo7 (J:=J10) (bs:=d.set t S) (L:=n.set t (r,R)) (by rw[Bz,Bz];exact lb) Y;refine(nmc Z ⟨_,Z,⟨_,SqL.of G⟩,?_⟩);refine qpy (kpB J10) (λv=>v) (λσ'=>∃v,σ'=[v]) (qbn (K:=K) (SqL.of G)) (qad (by rw[Ab,Bz];lia)) ⟨none,Z⟩ (λv σ' H' N RR' hv sm s4 kN kR=>?_) qb5 λay J11 aq ac ah=>?_
   .obtain⟨v0,rfl⟩:=s4;obtain⟨b,W,rfl⟩:=A8.mp hv;obtain⟨i,hi⟩:=AA W;have li:i<(n.set t (r,R)).length:=by have:=(Ac.mp hi).1;rw[Bz]at this |-;lia
    have ad:=Y i b _ hi (Ae li);have kb:kpB J10 (.ref b) = !(qaq ((n.set t (r,R))[i]).2).isEmpty:=by show (match J10 b with|some (.lst xs)=>!xs.isEmpty|_=>false)=_;rw[ad]
    refine(nmc Z ⟨qdg,λpz a0=>?_⟩);have U:=zi (o:=.lst []) a0;refine⟨_,_,_,Z,Z,SqL.of (U _ _ (sm _ _ ad)),SqL.of qu,(nmc Z ?_)⟩;rw[<- kb];refine qdk (λcc=>?_) (λcc=>?_)
    .exact(nmc Z (kR _ _ ⟨_,Z⟩ U cc))
    .exact kN _ _ ⟨_,Z⟩ U (by cases hk:kpB J10 (.ref b) with|false=>rfl|true=>exact absurd hk cc)
   .rw[h1,List.map_id']at ah;have X:=B.trans ac;have bh:=(f.mx.put hT O).drop nn;have szs:=qro O;have bb:=qo6 (n.set t (r,R));refine⟨szL ((n.set t (r,R)).filter λx=>!x.2.isEmpty),by lia,P++[row],ay,bc,_,_,_,Z,⟨ar.trans X,X _ _ C,⟨ah,h2,λi b x u y=>ac _ _ (h3 i b x u y)⟩,bh,λx hx=>?_,?_,?_,?_,λb W z=>?_⟩,Z⟩
    .have:=(Bh.mp hx).2;intro z;rw[z]at this;cases this
    .have:=DP (λx:RR×List Rw7=>!x.2.isEmpty) (n.set t (r,R));rw[Bz]at this;lia
    .rw[Ai,bb];show _+1+_<=40;lia
    .intro z;rw[z,B _ _ C]at aq;cases aq
    .have bg:=h4 b W;rcases Cy bg with g|g
     .exact f.nb b g z
     .rw[<- g,z,s5 _ _ C]at n6;cases n6
  .have eb:d=[]:=by
    cases d with|nil=>rfl|cons _ _=>exact absurd rfl c
   have eL:n=[]:=by rw[eb]at lb;exact List.length_eq_zero_iff.mp lb.symm
   have mz:=f.mx
   rw[eL]at mz
   exact(nmc Z (k q J1 P M (f.sm.trans I) (I _ _ f.hq) mz (by have:=f.sz;lia)))
theorem qpd (T:Txt K mg a):FnOk P w K mg base CX0 4 a.nC a.lV ["_law_rule_here"] (spOb3 a):=by
 refine T.bI.fn.ok qd8 (λvs H Q E h=>?_) (λcdv A outer s H vs Q E D h=>?_)
 .obtain⟨_,_,rfl,_⟩:=h
  all_goals rfl
 .obtain⟨p,r,rfl,lr,dj,k⟩:=h;refine⟨_,(qj (zg (i:=1) qd8.nd Z (A0 Z) (qms T.dQ (qhu T) (D.mono En) Z T.bZ T.mW (dvs:=[.non]) (.cons Z .nil) qap (qh (ja jc (pv 0) qp (λ_ _=>rfl)) (qh (ja jc (pv 0) qp (λ_ _=>rfl)) (qh (ja jc (pv 0) qp (λ_ _=>rfl)) (qh (ja jc (pv 0) qp (λ_ _=>rfl)) (qh (ja jc (pv 0) qp (λ_ _=>rfl)) (qh (ja jc (pv 0) qp (λ_ _=>rfl)) (qh (ja jc (pv 0) qp (λ_ _=>rfl)) qm zx) zx) zx) zx) zx) zx) zx)))
   (qj (zg (i:=2) qd8.nd Z (A0 Z) (qez (qb3 (qgb D.units0) (qak (pv 1) Z) (zr qm) (qah _)) (qez (qb3 (qgb D.units0) (qak (pv 1) Z) (zr qm) (qah _)) (qez (qb3 (qgb D.units0) (qak (pv 1) Z) (zr qm) (qah _)) (qez (qb3 (qgb D.units0) (qak (pv 1) Z) (zr qm) (qah _)) (qhb (qb3 qpg (qak (pv 1) Z) qa8 (qah _))))))))
   (qj (zm (zf qdn (ja jc (pv 0) qp (λ_ _=>rfl)) qa8 (qah _)) (qj (zg (i:=1) qd8.nd Z (A0 Z) (qut T.dQ (qhu T) (D.mono En) Z T.bZ T.nX qap (qh (ja jc (pv 0) qp (λ_ _=>rfl)) (qh (ja jc (pv 0) qp (λ_ _=>rfl)) (qh (ja jc (pv 0) qp (λ_ _=>rfl)) (qh (ja jc (pv 0) qp (λ_ _=>rfl)) (qh (ja jc (pv 0) qp (λ_ _=>rfl)) (qh (ja jc (pv 0) qp (λ_ _=>rfl)) (qh (ja jc (pv 0) qp (λ_ _=>rfl)) qm zx) zx) zx) zx) zx) zx) zx) (qwr (ja jc (pv 0) qp (λ_ _=>rfl)) qy4)))
   (qt (zg (i:=2) qd8.nd Z (A0 Z) (qez (qb3 (qgb D.units0) (qak (pv 1) Z) (zr qm) (qah _)) (qez (qb3 (qgb D.units0) (qak (pv 1) Z) (zr qm) (qah _)) (qez (qb3 (qgb D.units0) (qak (pv 1) Z) (zr qm) (qah _)) (qhb (qb3 (qgb D.units0) (qak (pv 1) Z) (zr qm) (qah _))))))))) qan)
   (qj (zm (qf2 (zp (pv 2))) (qt (zc qa8)) qan)
   (qj (zj (qbv A7 Ck Cm qfa (qak (pv 1) Z) (qh (ja jc (pv 0) qp (λ_ _=>rfl)) qm zx)))
   (qj (zj (qbv A7 Ck Cm qfa (qak (pv 1) Z) (qh (ja jc (pv 0) qp (λ_ _=>rfl)) qm zx)))
   (qj (zj (qbv A7 Ck Cm qfa (qak (pv 1) Z) (qh (ja jc (pv 0) qp (λ_ _=>rfl)) qm zx)))
   (qj (zj (qbv A7 Ck Cm qfa (qak (pv 1) Z) (qh (ja jc (pv 0) qp (λ_ _=>rfl)) qm zx)))
   (qt (zc (pv 1))))))))))),?_⟩
  obtain⟨pe0,pa0,pl0,py0,sv,us,g⟩:=id lr;refine(nmc Z (lxo (g.hq) Z (nmc Z (lxo (g.hq) Z (nmc Z (lxo (g.hq) Z (nmc Z (lxo (g.hq) Z (nmc Z (lxo (g.hq) Z (nmc Z (lxo (g.hq) Z (nmc Z (lxo (g.hq) Z (λxr dx nx nd ne=>?_)))))))))))))));refine⟨xr,dx,_,_,_,_,_,_,_,_,Z,qu,λH1 pe pa pl py b1 ne1 db du cz t bb L a0 aa de=>⟨Z,?_⟩⟩;have keep:Same H (upd (upd H dx (.own xr)) xr (.ins a.k7 dx [])):=λb u e=>by rw[ze (qab e nx),ze (qab e nd)];exact e
  have s1:Same H H1:=b1.made nx nd;have fe:=keep.free ne1;have fa:=keep.free db;have fl:=keep.free du;have fy:=keep.free cz;refine(nmc Z (flc (t) (T.kA) (zd T.kC En) (rfl) ⟨qdg,λcu cf=>?_⟩));generalize d:upd H1 cu _=Ju0;obtain⟨br,bf⟩:=alg d cf;clear d;have W:=br;refine⟨_,_,_,_,Z,Z,SqL.of (W _ _ bb),SqL.of bf,Z,Z,(nmc Z (qdw ?_))⟩;refine(nmc Z (flc ((W _ _ t)) (T.kA) (zd T.kC En) (rfl) ⟨qdg,λdc bq=>?_⟩));generalize d:upd Ju0 dc _=Ju1;obtain⟨cm,bj⟩:=alg d bq;clear d;have Y:=W.trans cm;refine⟨_,_,_,_,Z,Z,SqL.of (Y _ _ L),SqL.of bj,Z,Z,(nmc Z (qdw ?_))⟩;refine(nmc Z (flc ((Y _ _ t)) (T.kA) (zd T.kC En) (rfl) ⟨qdg,λdz bz=>?_⟩));generalize d:upd Ju1 dz _=Ju2;obtain⟨bx,bp⟩:=alg d bz;clear d;have X:=Y.trans bx;refine⟨_,_,_,_,Z,Z,SqL.of (X _ _ a0),SqL.of bp,Z,Z,(nmc Z (qdw ?_))⟩;refine(nmc Z (flc ((X _ _ t)) (T.kA) (zd T.kC En) (rfl) ⟨qdg,λdl cr=>?_⟩));generalize d:upd Ju2 dl _=Ju3;obtain⟨bh,bg⟩:=alg d cr;clear d;have l:=X.trans bh;refine⟨_,_,_,_,Z,Z,SqL.of (l _ _ aa),SqL.of bg,Z,Z,(nmc Z (qdw ?_))⟩;refine(nmc Z (flc ((l _ _ t)) (T.kA) (zd T.kC En) (rfl) ⟨Z,?_⟩));have ho:r.still=none \/ ∃z,r.still=some z:=by
   cases r.still with|none=>exact .inl rfl|some z=>exact .inr ⟨z,Z⟩
  have G:=s1.trans l;apply useHV2 (p:=λ(J:Hp)(v w:Option V)=>∃(A:RA)(u:V),v=some (.ref A.p)/\w=some (.bl true)/\Same H J/\(∀z∈own A,H z=none)/\(own A).Nodup/\J A.p=some (.ins a.k7 A.dx (rlF (.str r.name) (.str r.who) (.str r.owes) (qdl r.opens) (qdl r.base) (.int r.many) (.str r.unit) u (.ref A.pe) (.ref A.pa) (.ref A.pl) (.ref A.py)))/\J A.pe=some (.lst [])/\J A.pa=some (.lst [])/\J A.pl=some (.lst [])/\J A.py=some (.lst [])/\StAt J u r.still)
  .intro ay;refine ho.symm.elim (λO=>?_) (λO=>?_)
   .obtain⟨z,O⟩:=O;have B:=g.hs;rw[O]at B;obtain⟨ps,bc,dh⟩:=B;have hq:=G _ _ g.hq;refine(nmc Z (lxo (hq) Z ⟨Z,(nmc Z (qfc (λz=>by rw[bc]at z;cases z) ?_))⟩));refine(nmc Z (lxo (hq) Z (nmc Z (lxo (hq) Z (nmc Z (lxo (hq) Z (nmc Z (lxo (hq) Z (nmc Z (lxo (hq) Z (nmc Z (lxo (hq) Z (nmc Z (lxo (hq) Z (nmc Z (lxo (hq) Z (λxs ds mx md me=>?_)))))))))))))))));refine⟨xs,ds,_,_,_,_,_,_,_,_,Z,qu,λH2 ke ka kl ky c1 dv cw cy df N aq am ax ag dg=>⟨Z,?_⟩⟩;have y:Same Ju3 (upd (upd Ju3 ds (.own xs)) xs (.ins a.k7 ds [])):=λb u e=>by rw[ze (qab e mx),ze (qab e md)];exact e
    have w1:Same Ju3 H2:=c1.made mx md;have au:=G.trans w1;refine(nmc Z (flc (N) (T.kA) (zd T.kC En) (rfl) ⟨qdg,λcv cg=>?_⟩));generalize d:upd H2 cv _=Jv0;obtain⟨cn,bi⟩:=alg d cg;clear d;have S:=cn;refine⟨_,_,_,_,Z,Z,SqL.of (S _ _ aq),SqL.of bi,Z,Z,(nmc Z (qdw ?_))⟩;refine(nmc Z (flc ((S _ _ N)) (T.kA) (zd T.kC En) (rfl) ⟨qdg,λfb bt=>?_⟩));generalize d:upd Jv0 fb _=Jv1;obtain⟨bw,bu⟩:=alg d bt;clear d;have U:=S.trans bw;refine⟨_,_,_,_,Z,Z,SqL.of (U _ _ am),SqL.of bu,Z,Z,(nmc Z (qdw ?_))⟩;refine(nmc Z (flc ((U _ _ N)) (T.kA) (zd T.kC En) (rfl) ⟨qdg,λdi cb=>?_⟩));generalize d:upd Jv1 di _=Jv2;obtain⟨bv,cq⟩:=alg d cb;clear d;have R:=U.trans bv;refine⟨_,_,_,_,Z,Z,SqL.of (R _ _ ax),SqL.of cq,Z,Z,(nmc Z (qdw ?_))⟩;refine(nmc Z (flc ((R _ _ N)) (T.kA) (zd T.kC En) (rfl) ⟨qdg,λdt cj=>?_⟩));generalize d:upd Jv2 dt _=Jv3;obtain⟨cp,ck⟩:=alg d cj;clear d;have j:=R.trans cp;refine⟨_,_,_,_,Z,Z,SqL.of (j _ _ ag),SqL.of ck,Z,Z,?_⟩;obtain⟨v1,ev1⟩:∃v1:Option V,v1=some (.ref xs):=⟨_,Z⟩;obtain⟨v2,ev2⟩:∃v2:Option V,v2=some (.bl true):=⟨_,Z⟩;refine gn2 (σ':=[some (.ref p),v1,v2]) (by rw[ev1,ev2];rfl) ?_;refine ay Jv3 v1 v2 ⟨⟨xs,ds,ke,ka,kl,ky⟩,sv,ev1,ev2,au.trans j,(λz hz=>?_),dg,j _ _ N,j _ _ aq,j _ _ am,j _ _ ax,j _ _ ag,by rw[O];exact⟨ps,bc,(au.trans j) _ _ dh⟩⟩;simp only[own,Ap,Av,or_false]at hz;rcases hz with rfl|rfl|rfl|rfl|rfl
    .exact G.free mx
    .exact G.free (y.free dv)
    .exact G.free (y.free cw)
    .exact G.free (y.free cy)
    .exact G.free (y.free df)
   .have B:=g.hs;rw[O]at B;have B:sv=.non:=B;refine(nmc Z (lxo (((G _ _ g.hq))) Z ⟨Z,(nmc Z (qew (by rw[B]) ?_))⟩));refine ay Ju3 (some (.ref xr)) (some (.bl true)) ⟨⟨xr,dx,pe,pa,pl,py⟩,.non,Z,Z,G,(λz hz=>?_),de,l _ _ t,l _ _ bb,l _ _ L,l _ _ a0,l _ _ aa,by rw[O];rfl⟩;simp only[own,Ap,Av,or_false]at hz;rcases hz with rfl|rfl|rfl|rfl|rfl
    .exact nx
    .exact fe
    .exact fa
    .exact fl
    .exact fy
  .rintro J v w ⟨A,u,rfl,rfl,F,nn,ac,hx,he,ha,hl,hy,hs⟩;have hq:=F _ _ g.hq;obtain⟨z1,z2,z3,z4⟩:=dj.sz;have dk:us.length=r.longer.length:=by have:=g.tl.length;rw[Ab]at this;exact this
   refine(nmc Z (nmc Z (qcr ?_)));unfold own at ac;simp only[AK,Ap,Av,or_false,not_or]at ac;obtain⟨⟨n1,n2,n3,n4⟩,⟨n5,n6,n7⟩,⟨n8,n9⟩,ad,_⟩:=ac;have ng:∀b o,H b=some o->b≠A.pe/\b≠A.pa/\b≠A.pl/\b≠A.py:=λb o e=>by have f:=λ(c:Addr)(m:c∈own A)=>qab e (nn c m);exact⟨f _ (by simp[own]),f _ (by simp[own]),f _ (by simp[own]),f _ (by simp[own])⟩
   have y1:([]:List V).length+(r.ends.map V.str).length<=Au:=qad (by rw[Ab,Bf];lia);have y2:([]:List V).length+(r.anew.map V.str).length<=Au:=qad (by rw[Ab,Bf];lia);have y3:([]:List V).length+us.length<=Au:=qad (by rw[dk,Bf];lia);have y4:([]:List V).length+(r.yields.map V.str).length<=Au:=qad (by rw[Ab,Bf];lia);have be:=F _ _ g.he;have ba:=F _ _ g.ha;have bl:=F _ _ g.hl;have dy:=F _ _ g.hy
   have ge:=ng _ _ g.he;have ga:=ng _ _ g.ha;have gl:=ng _ _ g.hl;have gy:=ng _ _ g.hy;have gq:=ng _ _ g.hq;refine(nmc Z (flc (hx) (T.kA) (zd T.kC En) (rfl) ⟨.inl ⟨Z,_,SqL.of he⟩,(nmc Z (lxo (hq) Z ⟨_,_,_,_,Z,Z,he,be,y1,?_⟩))⟩));have C:∀b o,b≠A.pe->J b=some o->upd J A.pe (.lst ([]++r.ends.map V.str)) b=some o:=λb o n e=>by rw[ze n];exact e
   have e1:=qu (H:=J) (a:=A.pe) (o:=.lst ([]++r.ends.map V.str));generalize upd J A.pe _=J1 at C e1 |-;have t:=C _ _ n1 hx;have L:=C _ _ (Bc n5) ha;have a0:=C _ _ (Bc n6) hl;have aa:=C _ _ (Bc n7) hy;have ar:=C _ _ gq.1 hq;refine(nmc Z (flc (t) (T.kA) (zd T.kC En) (rfl) ⟨.inl ⟨Z,_,SqL.of L⟩,(nmc Z (lxo (ar) Z ⟨_,_,_,_,Z,Z,L,C _ _ ga.1 ba,y2,?_⟩))⟩));have I:∀b o,b≠A.pa->J1 b=some o->upd J1 A.pa (.lst ([]++r.anew.map V.str)) b=some o:=λb o n e=>by rw[ze n];exact e
   have e2:=qu (H:=J1) (a:=A.pa) (o:=.lst ([]++r.anew.map V.str));generalize upd J1 A.pa _=J2 at I e2 |-;have af:=I _ _ n2 t;have ae:=I _ _ (Bc n8) a0;have cx:=I _ _ (Bc n9) aa;have ak:=I _ _ gq.2.1 ar;refine(nmc Z (flc (af) (T.kA) (zd T.kC En) (rfl) ⟨.inl ⟨Z,_,SqL.of ae⟩,(nmc Z (lxo (ak) Z ⟨_,_,_,_,Z,Z,ae,I _ _ gl.2.1 (C _ _ gl.1 bl),y3,?_⟩))⟩));have M:∀b o,b≠A.pl->J2 b=some o->upd J2 A.pl (.lst ([]++us)) b=some o:=λb o n e=>by rw[ze n];exact e
   have e3:=qu (H:=J2) (a:=A.pl) (o:=.lst ([]++us));generalize upd J2 A.pl _=J3 at M e3 |-;have aw:=M _ _ n3 af;have ao:=M _ _ (Bc ad) cx;have dw:=M _ _ gq.2.2.1 ak;refine(nmc Z (flc (aw) (T.kA) (zd T.kC En) (rfl) ⟨.inl ⟨Z,_,SqL.of ao⟩,(nmc Z (lxo (dw) Z ⟨_,_,_,_,Z,Z,ao,M _ _ gy.2.2.1 (I _ _ gy.2.1 (C _ _ gy.1 dy)),y4,?_⟩))⟩));have k4:∀b o,b≠A.py->J3 b=some o->upd J3 A.py (.lst ([]++r.yields.map V.str)) b=some o:=λb o n e=>by rw[ze n];exact e
   have e4:=qu (H:=J3) (a:=A.py) (o:=.lst ([]++r.yields.map V.str));generalize upd J3 A.py _=J4 at k4 e4 |-;have ah:∀b o,b≠A.pe->b≠A.pa->b≠A.pl->b≠A.py->J b=some o->J4 b=some o:=λb o m1 m2 m3 m4 e=>k4 _ _ m4 (M _ _ m3 (I _ _ m2 (C _ _ m1 e)));have s4:Same H J4:=λb o e=>by obtain⟨m1,m2,m3,m4⟩:=ng b o e;exact ah b o m1 m2 m3 m4 (F _ _ e)
   have tp:∀b x,J b=some (.tup x)->J4 b=some (.tup x):=λb x e=>ah b _ (λq=>by rw[q,he]at e;cases e) (λq=>by rw[q,ha]at e;cases e) (λq=>by rw[q,hl]at e;cases e) (λq=>by rw[q,hy]at e;cases e) e;have dm:StAt J4 u r.still:=by
    cases e:r.still with
    |none=>rw[e]at hs;exact hs
    |some z=>rw[e]at hs;obtain⟨b,b1,b2⟩:=hs;exact⟨b,b1,tp _ _ b2⟩
   refine(nmc Z (k A J4 s4 nn ?_ ⟨u,us,k4 _ _ n4 aw,dm,k4 _ _ n7 (M _ _ n6 (I _ _ n5 e1)),k4 _ _ n9 (M _ _ n8 e2),k4 _ _ ad e3,g.tl.same s4,e4⟩));unfold own;simp only[AK,Ap,Av,or_false,not_or];exact⟨⟨n1,n2,n3,n4⟩,⟨n5,n6,n7⟩,⟨n8,n9⟩,ad,not_false,.nil⟩
theorem qg4 (T:Txt K mg a):FnOk P w K mg base CX0 1 a.hU a.fU ["_law_found","_law_due"] spTx3:=by
 refine T.kI.fn.ok qs4 (λvs H Q E h=>?_) (λcdv A outer s H vs Q E hr h=>?_)
 .obtain⟨_,rfl,_⟩:=h
  all_goals rfl
 .obtain⟨x,rfl,k⟩:=h;refine⟨_,(qt (zc (qez (zo qka (by rfl) T.dI qea (qh (pv 0) (qh (qmp (v:=.ty "str") Z T.kU qd6 Z) qm qi) qi)) (qhb (qb3 qbk (pv 0) (pv 1) (qah _)))))),?_⟩;refine(nmc Z ⟨_,_,_,_,Z,.str _,qjb,(nmc Z (qdw (nmc Z (nmc Z ⟨Z,?_⟩))))⟩);rw[decide_eq_true Z];exact k
theorem okLaw (T:Txt K mg a){cL Pt:Addr}(hcl:a.dD.code=.ref cL)(LF:Lam.LamF mg base cL Pt):FnOk P w K mg base CX0 10 a.lE a.dD ["_law_script"] (qnj K Pt):=by
 refine Lam.okT T.pT.fn hcl qc9 (λvs H Q E h=>?_) (λcdv gu A outer s H vs Q E c h=>?_)
 .obtain⟨_,_,rfl,_⟩:=h
  all_goals rfl
 .obtain⟨l,ns,rfl,hS,hlen,ju,k⟩:=h;refine⟨_,(qj (zg (i:=1) qc9.nd Z (A0 Z) (zh qav (zn (qa1 T) (c.mono En) Z T.kD.mgx T.kD.fn.kp T.kD.bd .nil qap (qh (pv 0) (qh qp qm zb) qi)) qp))
   (qj (zg (i:=2) qc9.nd Z (A0 Z) (zn (qlh T) (c.mono En) Z T.gF.mgx T.gF.fn.kp T.gF.bd .nil qap (qh (zn (qa1 T) (c.mono En) Z T.kD.mgx T.kD.fn.kp T.kD.bd .nil qap (qh (pv 0) (qh qp qm zb) qi)) (qh (pv 1) qm qi) zu)))
   (qj (zg (i:=2) qc9.nd Z (A0 Z) (zn (qha T) (c.mono En) Z T.kZ.mgx T.kZ.fn.kp T.kZ.bd .nil qap (qh (pv 2) (qh (zn (qa1 T) (c.mono En) Z T.kD.mgx T.kD.fn.kp T.kD.bd .nil qap (qh (pv 0) (qh qp qm zb) qi)) qm zu) qi)))
   (qj (zg (i:=3) qc9.nd Z (A0 Z) (zn (qlh T) (c.mono En) Z T.gF.mgx T.gF.fn.kp T.gF.bd .nil qap (qh (zn (qa1 T) (c.mono En) Z T.kD.mgx T.kD.fn.kp T.kD.bd .nil qap (qh (pv 0) (qh (zh qir qp (qbs qr0 (by rfl) T.dX qkt (qh (qb3 qbk (zh qav (zh qbe (zn (qa1 T) (c.mono En) Z T.kD.mgx T.kD.fn.kp T.kD.bd .nil qap (qh (pv 0) (qh qp qm zb) qi)) qp) qp) qp (qah _)) qm qt9))) qm zw) qi)) (qh qp qm zb) zu)))
   (qj (zg (i:=3) qc9.nd Z (A0 Z) (zn (qha T) (c.mono En) Z T.kZ.mgx T.kZ.fn.kp T.kZ.bd .nil qap (qh (pv 3) (qh (zn (qa1 T) (c.mono En) Z T.kD.mgx T.kD.fn.kp T.kD.bd .nil qap (qh (pv 0) (qh qp qm zb) qi)) qm zu) qi)))
   (qj (zg (i:=4) qc9.nd Z (Cj Z) (zn (qqo T) (c.mono En) Z T.bF.mgx T.bF.fn.kp T.bF.bd .nil qap (qh (pv 0) (qh (pv 2) (qh (pv 3) (qh qp qm zb) qi) qi) qi)))
   (qj (zg (i:=5) qc9.nd Z (Cj Z) (zn (qa1 T) (c.mono En) Z T.kD.mgx T.kD.fn.kp T.kD.bd .nil qap (qh (pv 0) (qh qp qm zb) qi)))
   (qj (zg (i:=6) qc9.nd Z (Cj Z) (zn (qqp T) (c.mono En) Z T.bM.mgx T.bM.fn.kp T.bM.bd .nil qap (qh (pv 0) (qh (qd1 (N:=["_law_k","_law_rules_here","_law_turn"]) (js:=[none,some 4,some 5]) (XN:=["_law_script","_law_many","_law_names","_law_kinds","_law_rules_here","_law_turn","_law_mixed_here","_law_heads","_law_order","_law_rows_here","_law_k","_law_due","_law_book","_law_made","_law_other","_law_straight","_law_rule_here"]) (xs:=qaa qlr) Z Z Z Ek (qcc Z T.kL (qh (pv 1) qm qi)) (λ_ _ _ _ _ _=>(qam (i:=0) (show B5 (["_law_k","_law_rules_here","_law_turn"]:List Str) from by decide +kernel) Z (A0 Z) (Cj Z))) (λ_ _ _ _ _ _=>qb4) (λ_ _ _ _ _ _=>(zn (qpc T) (c.mono En) Z T.gX.mgx T.gX.fn.kp T.gX.bd .nil qap (qh (ja (qgc (K:=K) Z) (pv 1) (pv 0) (λ_ _=>rfl)) (qh (zh qav (zh qbe (pv 2) (zh qa3 (pv 0) qp)) qp) qm zw) zx)))) qm qh0) qi)))
   (qj (zg (i:=7) qc9.nd Z (Cj Z) (qd1 (N:=["_law_rule_here"]) (js:=[none]) (XN:=["_law_script","_law_many","_law_names","_law_kinds","_law_rules_here","_law_turn","_law_mixed_here","_law_heads","_law_order","_law_rows_here","_law_k","_law_due","_law_book","_law_made","_law_other","_law_straight","_law_rule_here"]) (xs:=qaa qlr) Z Z Z Ek (qbd (pv 4)) (λ_ _ _ _ _ _=>(qam (i:=0) (show B5 (["_law_rule_here"]:List Str) from by decide +kernel) Z (A0 Z) (Cj Z))) (λ_ _ _ _ _ _=>qb4) (λ_ _ _ _ _ _=>(ja (qgc (K:=K) Z) (zn (qi6 T) (c.mono En) Z T.kP.mgx T.kP.fn.kp T.kP.bd .nil qap (qh (pv 0) qm qi)) qp (λ_ _=>rfl)))))
   (qj (zg (i:=8) qc9.nd Z (A0 Z) (Lam.pe_sortLam (N:=["_law_k","_law_mixed_here","_law_heads"]) (js:=[none,some 6,some 7]) (XN:=["_law_script","_law_many","_law_names","_law_kinds","_law_rules_here","_law_turn","_law_mixed_here","_law_heads","_law_order","_law_rows_here","_law_k","_law_due","_law_book","_law_made","_law_other","_law_straight","_law_rule_here"]) (xs:=qaa qlr) Z (c.mono En) (by rfl) T.pW (qh (qbs Lam.call_rangeV (by rfl) T.kL qp2 (qh (pv 1) qm qi)) qm zu) LF gu Z Z Ek Z Z Ek Z Z Z (λ_ _ _ _ _=>rfl) (λ_ _ _ _ _ _=>(Lam.pe_bmK (K:=K) Z A7 PySem.F.slot_list_index PySem.F.type_list_index qma (pv 1) (qh (ja (qgc (K:=K) Z) (pv 2) (pv 0) (λ_ _=>rfl)) qm zx)))))
   (qj (zg (i:=9) qc9.nd Z (A0 Z) (zr qm))
   (qj (qcd Bo Z (qbd (pv 8)) (qam (i:=10) qc9.nd Z (A0 Z)) (qt (zg (i:=9) qc9.nd Z (A0 Z) (zh qci (pv 9) (zn (qi6 T) (c.mono En) Z T.kP.mgx T.kP.fn.kp T.kP.bd .nil qap (qh (ja jc (pv 4) (pv 10) (λ_ _=>rfl)) qm zx))))))
   (qj (zg (i:=11) qc9.nd Z (A0 Z) (qbv BB C0 C1 qgw zq (qh (pv 9) qm qi)))
   (qj (zg (i:=12) qc9.nd Z (A0 Z) (zn (qlf T) (c.mono En) Z T.kY.mgx T.kY.fn.kp T.kY.bd .nil qq1 (qh (qbv BB C0 C1 qgw zq (qh (pv 6) qm qi)) qm zu)))
   (qj (zm (PW.pt (qnp (qf2 (zp (zn (qg4 T) (c.mono En) Z T.kI.mgx T.kI.fn.kp T.kI.bd .nil qap (qh (zn (qfz T) (c.mono En) Z T.kG.mgx T.kG.fn.kp T.kG.bd .nil qap (qh (pv 12) qm qi)) (qh (pv 11) qm qi) zu)))) (qmq (qf2 (zp (zn (qg4 T) (c.mono En) Z T.kI.mgx T.kI.fn.kp T.kI.bd .nil qap (qh (zn (qfz T) (c.mono En) Z T.kG.mgx T.kG.fn.kp T.kG.bd .nil qap (qh (zn (qlf T) (c.mono En) Z T.kY.mgx T.kY.fn.kp T.kY.bd .nil qq1 (qh (pv 11) qm qi)) qm zu)) (qh (pv 11) qm qi) zu))))))) (qt (zc qjy)) qan)
   (qj (qck (i:=13) qc9.nd Z Z (N:=["_law_rule_here"]) (js:=[none]) (XN:=["_law_script","_law_many","_law_names","_law_kinds","_law_rules_here","_law_turn","_law_mixed_here","_law_heads","_law_order","_law_rows_here","_law_k","_law_due","_law_book","_law_made","_law_other","_law_straight","_law_rule_here"]) (xs:=qaa qlr) Z Z Z Ek (qbd (pv 4)) (λ_ _ _ _ _ _=>(qam (i:=0) (show B5 (["_law_rule_here"]:List Str) from by decide +kernel) Z (A0 Z) (Cj Z))) (λ_ _ _ _ _ _=>qb4) (λ_ _ _ _ _ _=>(zn (qpd T) (c.mono En) Z T.bI.mgx T.bI.fn.kp T.bI.bd .nil qap (qh (pv 0) qm qi))))
   (qj (zm (zf (op_inO c.units) qa8 (pv 13) (by with_unfolding_all rfl)) (qt (zc qjy)) qan)
   (qj (zg (i:=14) qc9.nd Z (A0 Z) (qms T.fM (qlc T) (c.mono En) Z T.nH T.dJ.bd .nil qq1 (qh (pv 13) qm qi)))
   (qj (zj (qy5 A7 PySem.F.slot_list_reverse PySem.F.type_list_reverse qpn (pv 13)))
   (qj (zj (qbv A7 Ck Cm qfa (pv 13) (qh (qba qb9 (pv 13) qct (qa7 qp)) qm zx)))
   (qj (zg (i:=15) qc9.nd Z (A0 Z) (zr qm))
   (qj (qcd Bo Z (qbd (pv 4)) (qam (i:=16) qc9.nd Z (A0 Z)) (qt (zg (i:=15) qc9.nd Z (A0 Z) (zh qci (pv 15) (zn (qi6 T) (c.mono En) Z T.kP.mgx T.kP.fn.kp T.kP.bd .nil qap (qh (pv 16) qm qi))))))
   (qt (zc (qez (zn (qg4 T) (c.mono En) Z T.kI.mgx T.kI.fn.kp T.kI.bd .nil qap (qh (zn (qfz T) (c.mono En) Z T.kG.mgx T.kG.fn.kp T.kG.bd .nil qap (qh (pv 14) qm qi)) (qh (qbv BB C0 C1 qgw zq (qh (pv 15) qm qi)) qm zu) zu)) (qhb (zn (qg4 T) (c.mono En) Z T.kI.mgx T.kI.fn.kp T.kI.bd .nil qap (qh (zn (qfz T) (c.mono En) Z T.kG.mgx T.kG.fn.kp T.kG.bd .nil qap (qh (pv 12) qm qi)) (qh (pv 11) qm qi) zu)))))))))))))))))))))))))))),?_⟩
  obtain⟨m,em,hm⟩:=mdl (cell ns 0) 6;refine(nmc Z ⟨_,_,_,Z,hS,En,(icc Z Z (pos En) ?_)⟩);dsimp only[];rw[show cell ns 0 % 7=(m:Int) from em];refine(nmc Z ⟨_,_,_,Z,hS,En,(nmc Z ?_)⟩);dsimp only[];refine⟨_,m,Z,.inl (by lia),λp1 H1 gn n1 s1 Y l1 im gs=>?_⟩;refine(nmc Z (nmc Z ⟨_,_,_,Z,s1.seq hS,En,?_⟩));dsimp only[];refine⟨p1,_,gn,Z,Y,im,gs,by lia,λp2 H2 nms s2 e2 l2 aw ix=>?_⟩;have bv:=s1.trans s2;refine(nmc Z (nmc Z ⟨_,_,_,Z,bv.seq hS,En,(icc Z Z ⟨En,En⟩ (icc Z Z (pos En) ⟨Z,.inr ⟨_,Z,?_⟩⟩))⟩));dsimp only[];obtain⟨sm,es,hs0,hs1⟩:∃sm:Int,(if decide (V.int (cell ns 0 / 7 % 3)=V.int 1)=true then (1:Int) else 0)=sm/\0<=sm/\sm<=1:=⟨_,Z,by split <;>decide,by split <;>decide⟩;rw[es];refine(iic Z Z ⟨_,_,_,Z,bv.seq hS,by lia,?_⟩);dsimp only[];refine⟨_,14,Z,.inl En,λp3 H3 iq n3 s3 e3 l3 jj io=>?_⟩;have di:=bv.trans s3;refine(nmc Z (nmc Z ⟨_,_,_,Z,di.seq hS,En,?_⟩));dsimp only[];refine⟨p3,_,iq,Z,e3,jj,io,by lia,λp4 H4 cu s4 e4 l4 gx ii=>?_⟩;have fu:=di.trans s4;have bf:=(s3.trans s4) _ _ e2;refine(nmc Z (nmc Z (nmc Z ⟨l,p2,p4,ns,nms,cu,40,Z,fu.seq hS,bf,e4,aw,by lia,gx,by lia,by lia,ii,En,En,λp6 H6 D rs W ax bw gz=>?_⟩)));have g:GT rs:=gt_of bw ax ix aw (by lia) En gz;have lq:=W.ln;have lm:rs.length=m:=by rw[ax,l2,l1]
  have bt:=fu.trans W.sm;refine(nmc Z ⟨_,_,_,Z,bt.seq hS,En,?_⟩);dsimp only[];generalize cell ns 33=c33;have bm:=rb (n:=m) (by lia);have tn:((m:Int)).toNat=m:=C8 m;refine(nmc Z (nmc Z ⟨_,Z,bm.1,bm.2,?_⟩));refine qkk (λp x q H=>∃(k:Nat)(r:RR),x=.int (k:Int)/\rs[k]?=some r/\q≠p/\H q=some (.lst (qaq (qae r::trn r (c33 / ((k:Int)+1) % 5).toNat 5)))) (λp x q H H' kp=>?_) (λp x q H g=>?_) (λσ'=>∃v,σ'=[v,some (.ref p6),some (.int c33)]) qev (qad (by rw[Ab,Bm];lia)) ⟨none,Z⟩ (λp x σ' H' df G i6 a0 bx af qq=>?_) qb5 λpl H7 bs npl s7 e7 l7 nd7 g7=>?_
  .rintro⟨k',r,Y,e2,e3,e4⟩;exact⟨k',r,Y,e2,e3,kp _ _ e3 e4⟩
  .obtain⟨k',r,Y,e2,e3,e4⟩:=g;rw[e4];exact λz=>nomatch z
  .obtain⟨v0,rfl⟩:=af;obtain⟨j,hj,rfl⟩:=A8.mp G;have hj:j<rs.length:=by have:=C4.mp hj;rw[tn]at this;lia
   obtain⟨zs,ar⟩:=bx;obtain⟨q0,eq0⟩:∃q0,D[j]?=some q0:=⟨_,Ae (by lia)⟩;obtain⟨r,d⟩:∃r,rs[j]?=some r:=⟨_,Ae hj⟩;have i8:atI (D.map V.ref) (j:Int)=some (.ref q0):=qbp (by rw[Af,eq0];rfl);have nz:(0:Int)<=c33 / ((j:Int)+1) % 5:=Ee _ En;rw[BX]at qq |-;refine(nmc Z (nmc Z (lxo (a0 _ _ W.hp) i8 (nmc Z (nmc Z (iic Z Z (iic Z Z ⟨⟨by lia,by lia⟩,(icc Z Z (pos En) ?_)⟩)))))));exact⟨q0,(c33 / ((j:Int)+1) % 5).toNat,r,by rw[Int.toNat_of_nonneg nz];rfl,(W.lr j q0 r eq0 d).same a0,g.ok r (Al d),λq H5 nq s5 e5=>qq _ q H5 ⟨_,Z⟩ s5 nq ⟨j,r,Z,d,(λz=>by rw[z,ar]at nq;cases nq),e5⟩⟩
  have fk:∀k:Nat,(c33 / ((k:Int)+1) % 5).toNat<5:=λk=>by have:=DA (c33 / ((k:Int)+1)) (show (0:Int)<5 by decide);lia
  obtain⟨tt,ett⟩:∃tt:Nat->Nat,∀k:Nat,(c33 / ((k:Int)+1) % 5).toNat=tt k:=⟨_,λ_=>rfl⟩;obtain⟨T',eT⟩:∃T':RR->List Rw7,∀r,T' r=qae r::trn r (tt ((qaj rs r.name).getD 0)) 5:=⟨_,λ_=>rfl⟩;have fb:∀r∈rs,Tn r (trn r (tt ((qaj rs r.name).getD 0)) 5):=λr c=>tn_trn (g.kd r c) (g.l2 r c) (by rw[<- ett];exact fk _);have nT:∀r:RR,qar (qae r)=r.name:=λr=>by unfold qae;split <;>rfl
  have hT:∀r∈rs,∀S∈T' r,qar S=r.name:=λr c S h=>by
   rw[eT]at h;rcases Ap.mp h with rfl|h
   .exact nT r
   .exact((fb r c).nt S h).2
  have xj:∀j:Nat,j<m->((AR ((m:Int)).toNat).map λi=>V.int (0+(i:Nat)))[j]?=some (.int (j:Int)):=λj hj=>by rw[Af,CT (by rw[tn];exact hj)];show some (V.int (0+(j:Int)))=_;rw[BX]
  have ji:bs.length=rs.length:=by rw[l7,Ab,Bm,tn,lm]
  have la:LsA H7 pl bs (rs.map λr=>(r,T' r)):=by
   refine⟨e7,by rw[ji,Ab],λi b x hb hx=>?_⟩;rw[Af]at hx;cases d:rs[i]? with
   |none=>rw[d]at hx;cases hx
   |some r =>rw[d]at hx;cases hx;have O:=(Ac.mp d).1;obtain⟨⟨k',r',B,C,h3,h4⟩,_⟩:=g7 i _ b (xj i (by lia)) hb;have e:i=k':=D6 (V.int.inj B);subst e;rw[d]at C;cases C;show H7 b=some (.lst (qaq (T' r)));rw[eT,qd4 g.nn d,h4,ett];rfl
  have gv:MxI rs T' [] (rs.map λr=>(r,T' r)):=by
   refine⟨λx hx=>?_,by rw[AM];exact g.nn,λx hx=>?_,λr c hn=>?_,λS h=>nomatch h⟩
   .obtain⟨r,c,rfl⟩:=A8.mp hx;exact c
   .obtain⟨r,c,rfl⟩:=A8.mp hx;rfl
   .exact absurd (A8.mpr ⟨(r,T' r),A8.mpr ⟨r,c,Z⟩,Z⟩) hn
  have j3:szL (rs.map λr=>(r,T' r))<=40:=by
   rw[qrr λr c=>?_]
   .exact g.ln
   .rw[eT,qc4,Am,Am,qwf (by rw[<- ett];exact fk _)]
  have l6:=g.l6;refine⟨l,pl,ns,rs,T',bs,_,Z,(bt.trans s7).seq hS,la,g.nn,hT,gv,(λx hx=>?_),by rw[Ab];lia,j3,λq8 H8 M n8 s8 e8 cx lM=>?_⟩
  .obtain⟨r,c,rfl⟩:=A8.mp hx;show T' r≠[];rw[eT];exact λz=>nomatch z
  have ib:=bt.trans s7;have j5:=ib.trans s8;have bp:=(s7.trans s8) _ _ W.hp;have fv:∀(i:Nat)(q:Addr)(r:RR),D[i]?=some q->rs[i]?=some r->LR H8 q r:=λi q r B C=>(W.lr i q r B C).same (s7.trans s8);refine(nmc Z ⟨_,Z,⟨_,SqL.of bp⟩,?_⟩);let f:V->V:=λv=>match v with
   |.ref q=>(match (D.zip rs).lookup q with
    |some r=>.str (qal (qae r))
    |none=>.non)
   |_=>.non
  have fq:∀(i:Nat)(q:Addr)(r:RR),D[i]?=some q->rs[i]?=some r->f (.ref q)=.str (qal (qae r)):=λi q r B C=>by
   show (match (D.zip rs).lookup q with
    |some r=>V.str (qal (qae r))
    |none=>.non)=_
   rw[qk9 W.nd B C]
  have ef:(D.map V.ref).map f=((rs.map λr=>qal (qae r)).map V.str):=by
   apply B0;intro i;rw[Af,Af,Af,Af];cases Y:D[i]? with
   |none=>rw[B4 (by rw[<- lq];exact BG.mp Y)];rfl
   |some q =>
    have O:i<rs.length:=by rw[<- lq];exact(Ac.mp Y).1
    rw[Ae O];exact congrArg some (fq i q _ Y (Ae O))
  refine qsg f (λσ'=>∃v,σ'=[v]) (qbn (K:=K) (SqL.of bp)) (qad (by rw[Ab,lq];lia)) ⟨none,Z⟩ (λx σ' H' df G a0 af qq=>?_) qb5 λph H9 nh s9 e9=>?_
  .obtain⟨v0,rfl⟩:=af;obtain⟨q,j7,rfl⟩:=A8.mp G;obtain⟨i,O⟩:=AA j7;have li:i<rs.length:=by rw[<- lq];exact(Ac.mp O).1
   have d:=Ae li;generalize rs[i]=r at d;have qq:=qq [some (.ref q)];rw[fq i q r O d]at qq;refine(nmc Z ⟨q,r,Z,(fv i q r O d).same a0,g.ok r (Al d),λqz Hz nz sz ez=>⟨_,_,_,_,Z,Z,SqL.of ez,?_,qq Hz ⟨_,Z⟩ sz⟩⟩);rw[qc4];exact qbp (j:=0) rfl
  rw[ef]at e9;have ic:=j5.trans s9;have ak:=ic _ _ ju;refine(nmc Z ⟨(m:Int),Z,λrr nr=>?_⟩);have jr:∀r∈rs,∃Zq,T' r=qae r::Zq/\Tn r Zq:=λr c=>⟨_,eT r,fb r c⟩;have dt:=mix_of cx jr lM;have q9:=s9 _ _ e8;have gt:Pt≠rr:=λz=>by rw[z]at ak;rw[ak]at nr;cases nr
  refine⟨rr,m,Z,qu,by lia,#[],by rw[ze gt];exact ak,trivial,Z,λqa4 X ag=>?_⟩;have jd:∀r∈rs,qal (qae r)∈M.map qal:=λr c=>by
   obtain⟨Zq,B,_⟩:=dt.ow r c;have:qae r∈M.filter (nmd r):=by rw[B];exact Ak
   exact Cb (Bh.mp this).1
  have kx:∀k:Nat,∃j:Nat,∀r,rs[k]?=some r->(M.map qal)[j]?=some (qal (qae r))/\∀i,i<j->(M.map qal)[i]? ≠ some (qal (qae r)):=λk=>by
   cases e:rs[k]? with
   |none=>exact⟨0,λr h=>nomatch h⟩
   |some r =>obtain⟨j,B,C⟩:=qwe (jd r (Al e));exact⟨j,λr' h=>by cases h;exact⟨B,C⟩⟩
  obtain⟨L,cp⟩:=Classical.axiomOfChoice kx;have b0:∀b o,b≠Pt->H9 b=some o->upd (upd H9 rr (.rng 0 (m:Int))) Pt (.tbl (#[]++qa4)) b=some o:=λb o n e=>by rw[ze n,ze (λz=>by rw[z,nr]at e;cases e)];exact e
  have nP:∀b zs,H9 b=some (.lst zs)->b≠Pt:=λb zs e z=>by rw[z,ak]at e;cases e
  generalize upd (upd H9 rr _) Pt _=HB at b0 ag |-;have c8:=b0 _ _ (nP _ _ q9) q9;have c9:=b0 _ _ (nP _ _ e9) e9;have lx:((AR m).map λi=>V.int ((i:Nat):Int)).length=m:=by rw[Ab,Bm]
  refine⟨λi H'=>H'=upd HB X (.lst (((AR i).map λk=>((L k:Nat):Int)).map V.int)),Z,λi x H' hx w=>?_,λH' w=>?_⟩
  .subst w;have O:i<m:=by have:=(Ac.mp hx).1;rw[lx]at this;exact this
   rw[Af,CT O]at hx;cases hx;obtain⟨r,d⟩:∃r,rs[i]?=some r:=⟨_,Ae (by lia)⟩;have k8:upd HB X (.lst (((AR i).map λk=>((L k:Nat):Int)).map V.int)) q8=some (.lst ((M.map qal).map V.str)):=by rw[ze (qab c8 ag)];exact c8
   have k9:upd HB X (.lst (((AR i).map λk=>((L k:Nat):Int)).map V.int)) ph=some (.lst ((rs.map λr=>qal (qae r)).map V.str)):=by rw[ze (qab c9 ag)];exact c9
   have ai:atI ((rs.map λr=>qal (qae r)).map V.str) (i:Int)=some (.str (qal (qae r))):=qbp (by rw[Af,Af,d];rfl);refine(nmc Z ⟨.inl ⟨Z,_,SqL.of k8⟩,(nmc Z (nmc Z (lxo (k9) ai ⟨q8,M.map qal,qal (qae r),L i,Z,Z,k8,(cp i r d).1,(cp i r d).2,_,qu,qc0 (by rw[Ab,Ab,Bm];lia),?_⟩)))⟩);rw[qmn];show _=upd HB X (.lst (((AR (i+1)).map λk=>((L k:Nat):Int)).map V.int));rw[Cw,Ar,Ar];rfl
  .subst w;rw[lx];refine⟨(AR m).map λk=>((L k:Nat):Int),qu,by rw[Ab,Bm],λos q po pw nq=>?_⟩;have zz:((AR m).map λk=>((L k:Nat):Int)).zip ((AR m).map λi=>V.int ((i:Nat):Int))=(AR m).map λk=>(((L k:Nat):Int),V.int ((k:Nat):Int)):=List.zip_map' ..;rw[zz]at po;obtain⟨ks,pk,rfl⟩:=qo8 (λk:Nat=>(((L k:Nat):Int),V.int ((k:Nat):Int))) po rfl;have j8:ks.Pairwise λa b=>L a<=L b:=(BP.mp pw).imp λh=>Int.ofNat_le.mp h;have cb:∀S∈M,qc5 S:=mx_ok g.ok cx λr c S h=>by
    rw[eT]at h;rcases Ap.mp h with rfl|h
    .rw[qc4];exact Ak
    .exact trn_in h
   obtain⟨hs,bj,eh,rd⟩:=qwb g dt cb;have iz:∀k r,rs[k]?=some r->At1 M (qae r) (L k):=λk r d=>by
    obtain⟨B,C⟩:=cp k r d;have iw:qc5 (qae r):=qhs g.ok _ (B6.mpr ⟨r,Al d,by rw[qc4];exact Ak⟩);rw[Af]at B;cases e:M[L k]? with|none=>rw[e]at B;cases B|some S =>rw[e]at B;have:=qwd (cb S (Al e)) iw (A5 B);refine⟨by rw[e,this],λi O z=>C i O ?_⟩;rw[Af,z];rfl
   have d0:RR:=⟨Co,Co,Co,none,none,0,Co,[],[],[],none,[]⟩;have eo:=ord_hs d0 g.nn bj eh (qwg g.nn) iz (by rw[lm];exact pk) j8;have ij:HB q=none/\q≠X:=by
    by_cases z:q=X
    .rw[z,qu]at nq;cases nq
    .rw[ze z]at nq;exact⟨nq,z⟩
   have kt:KeepT [Pt] H9 (upd (upd (upd HB X (.lst (((AR m).map λk=>((L k:Nat):Int)).map V.int))) X (.lst [])) q (.lst ((ks.map λk:Nat=>(((L k:Nat):Int),V.int ((k:Nat):Int))).map Prod.snd))):=λb o n e=>by
    have nb:b≠Pt:=by
     rcases n with n|⟨t,rfl⟩
     .exact λz=>n (Ao.mpr z)
     .intro z;rw[z,ak]at e;cases e
    have eB:=b0 b o nb e;rw[ze (qab eB ij.1),ze (qab eB ag),ze (qab eB ag)];exact eB
   have ad:=qu (H:=upd (upd HB X (.lst (((AR m).map λk=>((L k:Nat):Int)).map V.int))) X (.lst [])) (a:=q) (o:=.lst ((ks.map λk:Nat=>(((L k:Nat):Int),V.int ((k:Nat):Int))).map Prod.snd));generalize upd (upd (upd HB X _) X _) q _=H10 at kt ad |-;have ad:H10 q=some (.lst (ks.map λk:Nat=>V.int ((k:Nat):Int))):=by rw[AM]at ad;exact ad
   have U:∀b zs,H9 b=some (.lst zs)->H10 b=some (.lst zs):=λb zs e=>kt b _ (.inl λz=>nP b zs e (Ao.mp z)) e;have aq:∀(i:Nat)(q:Addr)(r:RR),D[i]?=some q->rs[i]?=some r->LR H10 q r:=λi q r B C=>by obtain⟨pe,pa,jh,py,sv,us,h⟩:=(fv i q r B C).same s9;exact⟨pe,pa,jh,py,sv,us,U _ _ h.hq,U _ _ h.he,U _ _ h.ha,U _ _ h.hl,qbt h.tl kt,h.hs.keep kt,U _ _ h.hy⟩
   have ae:=U _ _ (s9 _ _ bp);have j6:=U _ _ q9;clear kt U b0;refine⟨qdg,λfc iu=>?_⟩;generalize hh:upd H10 fc _=H11;obtain⟨cv,ig⟩:=alg hh iu;clear hh;have gh:GT hs:=qya g bj;have il:ks.length=m:=by rw[pk.length_eq,Bm]
   have je:hs.length=m:=by rw[bj.length_eq,lm]
   have l40:(qai hs).length<=40:=gh.ln;have fw:∀(i k:Nat),ks[i]?=some k->∃(r:RR)(qk:Addr),rs[k]?=some r/\D[k]?=some qk/\hs[i]?=some r:=λi k h=>by
    have lt:k<rs.length:=by rw[lm];exact C4.mp (pk.mem_iff.mp (Al h))
    refine⟨rs[k],D[k]'(by lia),Ae lt,Ae (by lia),?_⟩;rw[<- eo,Af,h];show some (rs.getD k d0)=_;rw[A4,Ae lt];rfl
   refine(nmc Z ⟨_,Z,⟨_,SqL.of (cv _ _ ad)⟩,qc7 (K:=K) (a:=q) (xs:=ks.map λk:Nat=>V.int ((k:Nat):Int)) (λi σ J=>Same H10 J/\∃qw,J qw=some (.lst (qaq (qai (hs.take i))))/\∃bh:Option V,σ=[some (.ref l),some (.int (m:Int)),some (.ref p2),some (.ref p4),some (.ref p6),some (.int c33),some (.ref q8),some (.ref ph),some (.ref q),some (.ref qw),bh,none,none,none,none,none,none]) ⟨cv,fc,ig,none,Z⟩ (λi σ J _ h=>SqL.of (h.1 _ _ ad)) ?_ ?_⟩)
   .rintro i v σ J G ⟨sJ,qw,hw,bh,rfl⟩;rw[Af]at G;cases ek:ks[i]? with
    |none=>rw[ek]at G;cases G
    |some kk =>
    rw[ek]at G;cases G;obtain⟨r,qk,d,dz,ck⟩:=fw i kk ek;have cj:=qrp ck;have bu:hd hs (i+1)<=(qai hs).length:=by have:=qvz (rs:=hs) (show i+1<=hs.length by have:=(Ac.mp ck).1;lia);unfold hd at this;rw[Be]at this;exact this
    unfold hd at cj bu;have i3:atI (D.map V.ref) (kk:Int)=some (.ref qk):=qbp (by rw[Af,dz];rfl);refine(nmc Z (nmc Z (nmc Z (lxo (sJ _ _ ae) i3 ⟨qk,r,Z,(aq kk qk r dz d).same sJ,g.ok r (Al d),λpz J3 nz am ez=>⟨_,_,_,_,Z,Z,am _ _ hw,ez,qad (by rw[qcl,qcl];lia),λq2 cq=>?_⟩⟩))));refine⟨sJ.trans (am.trans (zi cq)),q2,?_,_,Z⟩;rw[qu,qa6 ck];unfold qai qaq;rw[AL,Ar,Ar];simp[Bg]
   rintro σ J ⟨sJ,qw,hw,bh,rfl⟩;rw[Ab,il,<- je,Be]at hw;have j9:=qhs gh.ok;have lg:=qg3 j9 (by lia);have jg:=qim lg;refine⟨Z,(nmc Z ⟨_,qw,(qai hs).map qal,Z,Z,SqL.of hw,jg.1,?_⟩)⟩;rw[jg.2];have gc:=qg3 cb (by lia);have jM:=qim gc;refine⟨Z,(nmc Z ⟨_,q8,M.map qal,Z,Z,SqL.of (sJ _ _ j6),jM.1,?_⟩)⟩;rw[jM.2];refine⟨_,Z,gc,λjf ok=>?_,(λd h=>(by rw[rd]at h;cases h))⟩;rw[rd]at ok;cases ok;have dv:∀r',¬Rg (bo (bsR hs)) (hs.map RR.name).length r':=λr' rg=>by obtain⟨rk',ik⟩:=qtj (hs:=hs) (ks:=ks) g.nn (λi r h=>by have li:=(Ac.mp h).1;have ek:=Ae (show i<ks.length by lia);obtain⟨r2,qk,d,_,dm⟩:=fw i _ ek;rw[h]at dm;cases dm;exact⟨_,ek,d⟩) ⟨_,qvy bw ax aw⟩;exact qrg ik rg
   refine⟨λxb HB2 Bs dh sB bk=>?_,λx5 d5 l5 gd r5 _ _ _ _ rg=>(dv _ rg).elim⟩;refine(nmc Z ⟨xb,hs,Bs,dh,Z,bk,gh.ok,by lia,λJ3 s3=>(nmc Z ⟨_,Z,(nmc Z (qcr ?_))⟩)⟩);refine(nmc Z ⟨_,Z,lg,λjf ok=>?_,(λd h=>(by rw[qmk gh]at h;cases h))⟩);rw[qmk gh]at ok;cases ok;refine⟨λx2 H2b ip jk dc gw=>⟨x2,hs,ip,jk,Z,gw,gh.ok,by lia,λJ5 s5=>(nmc Z ⟨_,Z,(nmc Z (qcr ?_))⟩)⟩,λx5 d5 l5 gd r5 _ _ _ _ rg=>(dv _ rg).elim⟩;have sA:=sJ.trans (sB.trans (s3.trans (dc.trans s5)));have i7:=bk.same (s3.trans (dc.trans s5));refine(nmc Z ⟨_,Z,⟨_,SqL.of (sA _ _ ae)⟩,?_⟩);refine qkk (λp x q H=>∃A:RA,q=A.p/\q≠p/\H q≠none/\∀(i:Nat)(r:RR),(D.map V.ref)[i]?=some x->rs[i]?=some r->RuX a.k7 (off p H) A r) (λp x q H H' kp=>?_) (λp x q H g=>?_) (λσ'=>∃v,σ'=[v]) (qbn (K:=K) (SqL.of (sA _ _ ae))) (qad (by rw[Ab,lq];lia)) ⟨none,Z⟩ (λp x σ' H' df G i6 a0 bx af qq=>?_) qb5 λI aa du cw dk bc cy nd20 i4=>?_
   .rintro⟨A,z1,z2,z3,z4⟩;refine⟨A,z1,z2,?_,λi r B C=>(z4 i r B C).same (qox kp)⟩;cases e:H q with|none=>exact absurd e z3|some o=>rw[kp _ _ z2 e];exact λz=>nomatch z
   .obtain⟨A,_,_,z3,_⟩:=g;exact z3
   .obtain⟨v0,rfl⟩:=af;obtain⟨q0,ir,rfl⟩:=A8.mp G;obtain⟨i,O⟩:=AA ir;have li:i<rs.length:=by rw[<- lq];exact(Ac.mp O).1
    have d:=Ae li;generalize rs[i]=r at d;obtain⟨zs,ar⟩:=bx;refine(nmc Z ⟨q0,r,Z,(aq i q0 r O d).same (sA.trans a0),g.ok r (Al d),λA H5 dl nA ndA ru=>?_⟩);have de:∀z∈own A,z≠p:=λz hz e=>by have:=nA z hz;rw[e,ar]at this;cases this
    obtain⟨vv,uu,bz⟩:=id ru;refine qq _ A.p H5 ⟨_,Z⟩ dl (nA _ (by simp[own])) ⟨A,Z,de _ (by simp[own]),(by rw[bz.hx];exact λz=>nomatch z),λi' r' B C=>?_⟩;rw[Af]at B;have Y:D[i']?=some q0:=by
     cases e:D[i']? with|none=>rw[e]at B;cases B|some q'=>rw[e]at B;cases B;rfl
    have ei:i'=i:=(Dn (Ac.mp Y).1 W.nd).mp (Y.trans O.symm);subst ei;rw[d]at C;cases C;exact ru.offp (dl _ _ ar) de
   rw[Ab]at cy;obtain⟨R,cn,j1,hAs⟩:=as_ex (n:=rs.length) (bs:=du) (P:=λj A=>∀r,rs[j]?=some r->RuX a.k7 (off I aa) A r) (by rw[cy,lq]) λj q hq=>by have lj:=(Ac.mp hq).1;obtain⟨⟨A,z1,_,_,z4⟩,_⟩:=i4 j _ q (by rw[Af,Ae (show j<D.length by lia)];rfl) hq;exact⟨A,z1,λr c=>z4 j r (by rw[Af,Ae (show j<D.length by lia)];rfl) c⟩
   have iy:du.map V.ref=R.map λA=>V.ref A.p:=by rw[<- j1,AM];rfl
   rw[iy]at bc;refine(nmc Z ⟨I,_,a.k7,Z,Z,SqL.of bc,(λv G=>?_),T.pY,(nmc Z (qcr ?_))⟩)
   .obtain⟨A,hA,rfl⟩:=A8.mp G;obtain⟨j,hj⟩:=AA hA;have lj:=(Ac.mp hj).1;obtain⟨vv,uu,bz⟩:=hAs j A hj _ (Ae (show j<rs.length by lia));exact⟨A.p,_,_,Z,qgn _ _ bz.hx⟩
   refine(nmc Z (λxo cm dg dj neo=>?_));have bg:Same aa (upd (upd aa cm (.own xo)) xo (.ins a.kF cm [])):=λb u e=>by rw[ze (qab e dg),ze (qab e dj)];exact e
   have bi:∀(i:Nat)(r:RR)(A:RA),rs[i]?=some r->R[i]?=some A->RuX a.k7 (off I aa) A r:=λi r A B C=>hAs i A C r B;refine⟨xo,cm,I,rs,R,Z,qu,bg _ _ bc,cn,g.nn,g.l6,(λr c y e=>g.ba r c y e),(λi r A B C=>(bi i r A B C).same (qgn.trans bg)),λac cf jp gg gi=>⟨Z,?_⟩,λx5 d5 l5 gd r5 _ _ _ _ rg=>(qrg (qvy bw ax aw) rg).elim⟩;have ay:Same aa ac:=jp.made dg dj;have cr:=ay _ _ bc;refine(nmc Z ⟨.inl ⟨Z,_,SqL.of cr⟩,I,_,Z,Z,cr,?_⟩);have fm:∀b o,b≠I->ac b=some o->upd ac I (.lst (R.map λA=>V.ref A.p).reverse) b=some o:=λb o n e=>by rw[ze n];exact e
   have bb:=qu (H:=ac) (a:=I) (o:=.lst (R.map λA=>V.ref A.p).reverse);generalize upd ac I _=H22 at fm bb |-;refine(nmc Z ⟨.inl ⟨Z,_,SqL.of bb⟩,(nmc Z ⟨1,Z,I,_,Z,SqL.of bb,λdw jt=>?_⟩)⟩);obtain⟨cg,dy⟩:=alc (o:=.lst (qe9 (R.map λA=>V.ref A.p).reverse none (some 1))) jt;generalize upd H22 dw _=H23 at cg dy |-;have lcut:(qe9 (R.map λA=>V.ref A.p).reverse none (some 1)).length<=6:=by refine A2 (qi8 _ _ _) ?_;rw[Cv,Ab];lia
   refine⟨I,dw,_,_,Z,Z,cg _ _ bb,dy,qad (by rw[Cv,Ab];lia),?_⟩;have cz:∀b o,b≠I->H23 b=some o->upd H23 I (.lst ((R.map λA=>V.ref A.p).reverse++qe9 (R.map λA=>V.ref A.p).reverse none (some 1))) b=some o:=λb o n e=>by rw[ze n];exact e
   have bf:=qu (H:=H23) (a:=I) (o:=.lst ((R.map λA=>V.ref A.p).reverse++qe9 (R.map λA=>V.ref A.p).reverse none (some 1)));generalize upd H23 I _=H24 at cz bf |-;have kB:∀b o,b≠I->ac b=some o->H24 b=some o:=λb o n e=>cz b o n (cg _ _ (fm b o n e));have gm:BkX a H24 xo rs R cf:=gg.but cr cn kB λz=>by rw[bf,z];rfl
   have sO:Same (off I aa) H24:=λb o e=>kB b o (λq=>by rw[q]at e;unfold off at e;rw[if_pos Z]at e;cases e) (ay _ _ (qgn _ _ e));have gf:BkAt a H24 xo rs R cf:=⟨gm,cn,g.nn,g.l6,λi r A B C=>(bi i r A B C).same sO,gi,g.ba⟩;have fj:Same H10 H24:=λb o e=>kB b o (qab (sA _ _ e) cw) (ay _ _ (dk _ _ (sA _ _ e)));have i5:Same J5 H24:=λb o e=>kB b o (qab e cw) (ay _ _ (dk _ _ e));refine⟨qdg,λdb ie=>?_⟩;generalize hh:upd H24 db _=H25;obtain⟨fh,jq⟩:=alg hh ie;clear hh;have br:=fj _ _ ae;refine(nmc Z ⟨_,Z,⟨_,SqL.of (fh _ _ br)⟩,qc7 (K:=K) (a:=p6) (xs:=D.map V.ref) (λi σ J=>Same H24 J/\∃ao,J ao=some (.lst (qaq (qai (rs.take i))))/\∃bq:Option V,σ=[some (.ref l),some (.int (m:Int)),some (.ref p2),some (.ref p4),some (.ref p6),some (.int c33),some (.ref q8),some (.ref ph),some (.ref q),some (.ref qw),bh,some (.str (qex ((qai hs).map qal))),some (.ref xb),some (.ref I),some (.ref xo),some (.ref ao),bq]) ⟨fh,db,jq,none,Z⟩ (λi σ J _ h=>SqL.of (h.1 _ _ br)) ?_ ?_⟩)
   .rintro i v σ J G ⟨ah,ao,au,bq,rfl⟩;rw[Af]at G;cases ek:D[i]? with
    |none=>rw[ek]at G;cases G
    |some qk =>
    rw[ek]at G;cases G;have li:i<rs.length:=by rw[<- lq];exact(Ac.mp ek).1
    have d:=Ae li;generalize rs[i]=r at d;have cj:=qrp d;have bu:hd rs (i+1)<=(qai rs).length:=by have:=qvz (rs:=rs) (show i+1<=rs.length by lia);unfold hd at this;rw[Be]at this;exact this
    have gp:=g.ln;unfold hd at cj bu;refine(nmc Z (nmc Z ⟨qk,r,Z,(aq i qk r ek d).same (fj.trans ah),g.ok r (Al d),λpz J3 nz am ez=>⟨_,_,_,_,Z,Z,am _ _ au,ez,qad (by rw[qcl,qcl];lia),λq2 cq=>?_⟩⟩));refine⟨ah.trans (am.trans (zi cq)),q2,?_,_,Z⟩;rw[qu,qa6 d];unfold qai qaq;rw[AL,Ar,Ar];simp[Bg]
   rintro σ J ⟨ah,ao,au,bq,rfl⟩;rw[Ab,lq,Be]at au;have gp:=g.ln;have jm:=qg3 (qhs g.ok) (by lia);have fg:=qim jm;refine(nmc Z ⟨xo,rs,R,cf,Z,gf.same ah,g.ok,by lia,λJ6 s6=>?_⟩);refine⟨Z,(nmc Z ⟨_,ao,(qai rs).map qal,Z,Z,SqL.of (s6 _ _ au),fg.1,?_⟩)⟩;rw[fg.2];refine⟨_,Z,true,Z,?_⟩;refine qdw (nmc Z ⟨xb,hs,Bs,dh,Z,(i7.same i5).same (ah.trans s6),gh.ok,by lia,λJ7 s7'=>(nmc Z ⟨_,Z,k _⟩)⟩)
end
set_option maxHeartbeats 4000000 in
theorem all_mk {l:PySem.W.OpenLaw}{w:World}{K:Ag}{h:Heap}{mg:Str->Option Value}{fa:Addr}(X:K.In h)(G:h.Ns AD mg)(hfa:mg "law"=some (.ref fa))
  {D1 Em E2 E3 Eu E1 E9 El f0 f1 f2 f3 f4 f5 f6 f7 f8 f9 f10 f11 f12:Addr}{Hq Gi:Option Addr}{Hr:Array (Option Value)}{Hs Gj Gk Gm Fx Go Gp:Value}{f13 f14 f15 f16 f17 f18 f19 f20 f21 f22 f23 f24 f25 f26 f27 f28 f29 f30 f31 f32 f33 f34 f35 f36 f37 f38 f39 f40 f41 f42 f43 f44:Addr}{Ht Hu:Option Addr}{Hv:Array (Option Value)}{Hw Hx Hy HA HC:Value}{Fd Fy Fw ED:Tok}{Fe:Addr}{GX:Option Addr}{GY:Nat}{GU GV GW:Tok}{GZ:Array (Option Value)}{Ff:Addr}{Hc:Option Addr}{Hn:Nat}{Ho:Array (Option Value)}{EE:Addr}{Gq:Option Addr}{Gr:Nat}{FA FB FC FD FE FF FG FH FI FJ:Tok}{Gs:Array (Option Value)}{EF:Addr}{Gt:Option Addr}{Gu:Nat}{FK FL FM FN FO FP FQ FR FS FT:Tok}{Gv:Array (Option Value)}{EG:Addr}{Gw:Option Addr}{Gx:Nat}{FU FV FW:Tok}{Gy:Array (Option Value)}{EH:Addr}{Gz:Option Addr}{GA:Nat}{FX FY FZ:Tok}{GB:Array (Option Value)}{EI:Addr}{GC:Option Addr}{GD:Nat}{G0 G1 G2 G8 G9 Ga:Tok}{GE:Array (Option Value)}{EJ:Addr}{GF:Option Addr}{GG:Nat}{Gb Gc Gd Ge:Tok}{GH:Array (Option Value)}{EK:Addr}{GI:Option Addr}{GJ:Nat}{Gf Gg Gh:Tok}{GK:Array (Option Value)}{cL PL:Addr}{ocL:Value}{odL:Option Addr}{vsL:Array Value}{slL:Array (Option Value)}
  (Fg:AT K AD "Book"=some (some (.ref D1)))(E6:AT K AD "CourtError"=some (some (.ref Em)))(EL:AT K AD "NoRule"=some (some (.ref E2)))(EM:AT K AD "NoTerm"=some (some (.ref E3)))(Fh:AT K AD "Ring"=some (some (.ref Eu)))(Fi:AT K AD "Rule"=some (some (.ref E1)))(EU:AT K AD "Twice"=some (some (.ref E9)))(EV:AT K AD "Unfit"=some (some (.ref El)))(p0:Pd K "is_figure" qiv f0)(p1:Pd K "is_written_number" qc3 f1)(p2:Pd K "number" qm0 f2)(p3:Pm K Eu "__init__" "Ring.__init__" qiw f3)(p4:Pd K "untaken" qkm f4)(p5:Pd K "hanging_order" qe2 f5)(p6:Pd K "is_small_letter" qeo f6)(p7:Pd K "is_name" qjs f7)(p8:Pm K D1 "__init__" "Book.__init__" qix f8)(p9:Pd K "lines_of" qkn f9)(p10:Pd K "value_of" qko f10)(p11:Pd K "row_of" qm1 f11)(a12:AU K (.ref E1) "__init__"=some (some (.ref f12)))(t12:Cs K (.ref f12)=some (.type "function"))(l12:K.lookup f12=some ⟨Hs,Hq,.func (Bt "__init__" "Rule.__init__" (qby qbi) (qbf qbi) (qaa qbi) Gp Gj Gk Gm Gi Fx Go),Hr⟩)(c12:Ci K Fx "Rule.__init__"=true)(k12:Bi K (.ref f12)=true)(pk12:∀(u0 u1 u2 u3 u4 u5 u6 u7 u8:Value)(S:Setting),PySem.W.peek K S (bindArgs (Bt "__init__" "Rule.__init__" (qby qbi) (qbf qbi) (qaa qbi) Gp Gj Gk Gm Gi Fx Go) ⟨[u0,u1,u2,u3,u4,u5,u6,u7,u8],[]⟩)=some [(Aa "self",u0),(Aa "name",u1),(Aa "who",u2),(Aa "owes",u3),(Aa "opens",u4),(Aa "base",u5),(Aa "many",u6),(Aa "unit",u7),(Aa "still",u8)])(E7:∀(u0 u1 u2 u3 u4 u5 u6 u7:Value)(S:Setting),PySem.W.peek K S (bindArgs (Bt "__init__" "Rule.__init__" (qby qbi) (qbf qbi) (qaa qbi) Gp Gj Gk Gm Gi Fx Go) ⟨[u0,u1,u2,u3,u4,u5,u6,u7],[]⟩)=some [(Aa "self",u0),(Aa "name",u1),(Aa "who",u2),(Aa "owes",u3),(Aa "opens",u4),(Aa "base",u5),(Aa "many",u6),(Aa "unit",u7),(Aa "still",BZ)])(B2:∀(u0 u1 u2 u3 u4 u5 u6 u7 still:Value)(S:Setting),PySem.W.peek K S (bindArgs (Bt "__init__" "Rule.__init__" (qby qbi) (qbf qbi) (qaa qbi) Gp Gj Gk Gm Gi Fx Go) ⟨[u0,u1,u2,u3,u4,u5,u6,u7],[(Aa "still",still)]⟩)=some [(Aa "self",u0),(Aa "name",u1),(Aa "who",u2),(Aa "owes",u3),(Aa "opens",u4),(Aa "base",u5),(Aa "many",u6),(Aa "unit",u7),(Aa "still",still)])(p13:Pm K E9 "__init__" "Twice.__init__" qhi f13)(p14:Pm K El "__init__" "Unfit.__init__" qhj f14)(p15:Pd K "read_term" qiy f15)(p16:Pm K E3 "__init__" "NoTerm.__init__" qgd f16)(p17:Pm K E1 "all_kinds" "Rule.all_kinds" qd3 f17)(p18:Pd K "kinds_in" qkp f18)(p19:Pd K "is_unfit" qh3 f19)(p20:Pd K "read_more" qiz f20)(p21:Pd K "read_row" qkq f21)(p22:Pd K "settle_yields" qe3 f22)(p23:Pd K "settle_names" qfl f23)(p24:Pm K E2 "__init__" "NoRule.__init__" qge f24)(p25:Pd K "read_book" qi0 f25)(p26:Pm K D1 "term_names" "Book.term_names" qep f26)(p27:Pd K "term_row_shown" qe4 f27)(p28:Pd K "rows_shown" qde f28)(p29:Pm K D1 "rule_of" "Book.rule_of" qgf f29)(p30:Pd K "show_book" qi1 f30)(p31:Pd K "_law_cell_at" qhk f31)(p32:Pd K "_law_words" qi2 f32)(p33:Pd K "_law_some_kept" qfm f33)(p34:Pd K "_law_yields" qhl f34)(p35:Pd K "_law_base" qh4 f35)(p36:Pd K "_law_rule" qh5 f36)(p37:Pd K "_law_rules" qgx f37)(p38:Pd K "_law_sorts" qee f38)(p39:Pd K "_law_rows" qkr f39)(p40:Pd K "_law_turned" qhm f40)(p41:Pd K "_law_mixed" qgy f41)(p42:Pd K "_law_object" qhn f42)(p43:Pd K "_law_text" qks f43)(a44:AT K AD "law"=some (some (.ref f44)))(l44:K.lookup f44=some ⟨Hw,Ht,.func (Bt "law" "law" (qby qlr) (qbf qlr) (qaa qlr) .none Hx Hy HA Hu (.ref cL) HC),Hv⟩)(c44:Ci K (.ref cL) "law"=true)(k44:Bi K (.ref f44)=true)(GL:AT K AD "all"=some none)(GM:AT K AD "any"=some none)(Es:AT K AD "enumerate"=some none)(GN:AT K AD "int"=some none)(Eo:AT K AD "isinstance"=some none)(GO:AT K AD "len"=some none)(Fz:AT K AD "list"=some none)(GP:AT K AD "max"=some none)(Fj:AT K AD "range"=some none)(Ev:AT K AD "reversed"=some none)(EW:AT K AD "sorted"=some none)(GQ:AT K AD "str"=some none)(GS:AT K AD "zip"=some none)(E4:AT K AD "LONGEST_NAME"=some (some (.int 8 Fd)))(Et:AT K AD "MOST_ROWS"=some (some (.int 40 Fy)))(Ep:AT K AD "MOST_TERMS"=some (some (.int 6 Fw)))(BT:AT K AD "MOST_LONGER_ROWS"=some (some (.int 2 ED)))(Fk:AT K AD "UNITS"=some (some (.ref Fe)))(EY:K.lookup Fe=some ⟨.type "tuple",GX,.seq #[.str (Aa "days") GU,.str (Aa "weeks") GV,.str (Aa "court") GW] GY,GZ⟩)(Fl:AT K AD "FORMS"=some (some (.ref Ff)))(EZ:K.lookup Ff=some ⟨.type "tuple",Hc,.seq #[.ref EE,.ref EF,.ref EG,.ref EH,.ref EI,.ref EJ,.ref EK] Hn,Ho⟩)(Ew:K.lookup EE=some ⟨.type "tuple",Gq,.seq #[.str (Aa "term") FA,.str (Aa "NAME") FB,.str (Aa "of") FC,.str (Aa "NAME") FD,.str (Aa "due") FE,.str (Aa "NAME") FF,.str (Aa "from") FG,.str (Aa "NAME") FH,.int 40 FI,.str (Aa "UNIT") FJ] Gr,Gs⟩)(Ex:K.lookup EF=some ⟨.type "tuple",Gt,.seq #[.str (Aa "term") FK,.str (Aa "NAME") FL,.str (Aa "of") FM,.str (Aa "NAME") FN,.str (Aa "due") FO,.str (Aa "NAME") FP,.str (Aa "behind") FQ,.str (Aa "NAME") FR,.int 40 FS,.str (Aa "UNIT") FT] Gu,Gv⟩)(Ey:K.lookup EG=some ⟨.type "tuple",Gw,.seq #[.str (Aa "ends") FU,.str (Aa "NAME") FV,.str (Aa "NAME") FW] Gx,Gy⟩)(Ez:K.lookup EH=some ⟨.type "tuple",Gz,.seq #[.str (Aa "anew") FX,.str (Aa "NAME") FY,.str (Aa "NAME") FZ] GA,GB⟩)(EA:K.lookup EI=some ⟨.type "tuple",GC,.seq #[.str (Aa "longer") G0,.str (Aa "NAME") G1,.str (Aa "NAME") G2,.int 20 G8,.str (Aa "times") G9,.int 3 Ga] GD,GE⟩)(EB:K.lookup EJ=some ⟨.type "tuple",GF,.seq #[.str (Aa "still") Gb,.str (Aa "NAME") Gc,.str (Aa "NAME") Gd,.str (Aa "NAME") Ge] GG,GH⟩)(EC:K.lookup EK=some ⟨.type "tuple",GI,.seq #[.str (Aa "yields") Gf,.str (Aa "NAME") Gg,.str (Aa "NAME") Gh] GJ,GK⟩)(lcL:K.lookup cL=some ⟨ocL,odL,.fields vsL,slL⟩)(vL:vsL[11]?=some (.ref PL))(Fm:qw5 K D1=true)(Fn:mkB K D1 f8=true)(Fo:xNo K D1 ["name","who","owes","opens","base","many","unit","still","ends","anew","longer","yields","order","by_name","names","at"]=true)(Cl:qob K D1 "term_names" f26=true)(E5:qob K D1 "rule_of" f29=true)(E8:qui K Em=true)(EN:qps K E2 (some (.ref f24))=true)(EO:xNo K E2 ["name","who","owes","opens","base","many","unit","still","ends","anew","longer","yields","order","by_name","names","at"]=true)(EQ:qps K E3 (some (.ref f16))=true)(ER:xNo K E3 ["name","who","owes","opens","base","many","unit","still","ends","anew","longer","yields","order","by_name","names","at"]=true)(Fp:qps K Eu (some (.ref f3))=true)(Fq:xNo K Eu ["name","who","owes","opens","base","many","unit","still","ends","anew","longer","yields","order","by_name","names","at"]=true)(Fr:qw5 K E1=true)(Fs:mkB K E1 f12=true)(Ft:xNo K E1 ["name","who","owes","opens","base","many","unit","still","ends","anew","longer","yields","order","by_name","names","at"]=true)(Fu:qsz K E1=true)(D2:qob K E1 "all_kinds" f17=true)(F0:qps K E9 (some (.ref f13))=true)(F8:xNo K E9 ["name","who","owes","opens","base","many","unit","still","ends","anew","longer","yields","order","by_name","names","at"]=true)(F9:qps K El (some (.ref f14))=true)(Fa:xNo K El ["name","who","owes","opens","base","many","unit","still","ends","anew","longer","yields","order","by_name","names","at"]=true)(ES:qhf K E2=true)(ET:qhf K E3=true)(Fv:qhf K Eu=true)(Fb:qhf K E9=true)(Fc:qhf K El=true)(tnL:K.lookup PL=none)
  : ∃(fd:AF)(c Pt:Addr),(∀(s:Ah)(v:Value),BindsTo s fd ⟨[v],[]⟩ [("_law_script",v)])/\PySem.W.tabIn K "law"=some (c,Pt)/\K.lookup Pt=none/\∀base:Heap,K.In base->base.Ns AD mg->Lam.LamF mg base c Pt->FnOk l.prog w K mg base CX0 10 fa fd ["_law_script"] (qnj K Pt):=by
 have e:=hfa.symm.trans (Bu X G a44);cases e;obtain⟨g0,d0⟩:=qbm X G p0 (ps:=["sign"]) λ_ _ _ _ _ _=>qgg λ_=>rfl;obtain⟨g1,d1⟩:=qbm X G p1 (ps:=["text","most_figures"]) λ_ _ _ _ _ _=>qf1 λ_ _=>rfl;obtain⟨g2,d2⟩:=qbm X G p2 (ps:=["text","most"]) λ_ _ _ _ _ _=>qf1 λ_ _=>rfl;obtain⟨g3,d3⟩:=qh6 p3 (ps:=["self","names"]) λ_ _ _ _ _ _=>qf1 λ_ _=>rfl;obtain⟨g4,d4⟩:=qbm X G p4 (ps:=["name","bases","taken"]) λ_ _ _ _ _ _=>qoi λ_ _ _=>rfl;obtain⟨g5,d5⟩:=qbm X G p5 (ps:=["rules"]) λ_ _ _ _ _ _=>qgg λ_=>rfl;obtain⟨g6,d6⟩:=qbm X G p6 (ps:=["sign"]) λ_ _ _ _ _ _=>qgg λ_=>rfl;obtain⟨g7,d7⟩:=qbm X G p7 (ps:=["thing"]) λ_ _ _ _ _ _=>qgg λ_=>rfl;obtain⟨g8,d8⟩:=qh6 p8 (ps:=["self","rules"]) λ_ _ _ _ _ _=>qf1 λ_ _=>rfl;obtain⟨g9,d9⟩:=qbm X G p9 (ps:=["text"]) λ_ _ _ _ _ _=>qgg λ_=>rfl;obtain⟨g10,d10⟩:=qbm X G p10 (ps:=["word","asked"]) λ_ _ _ _ _ _=>qf1 λ_ _=>rfl;obtain⟨g11,d11⟩:=qbm X G p11 (ps:=["line"]) λ_ _ _ _ _ _=>qgg λ_=>rfl;obtain⟨g13,d13⟩:=qh6 p13 (ps:=["self","name"]) λ_ _ _ _ _ _=>qf1 λ_ _=>rfl;obtain⟨g14,d14⟩:=qh6 p14 (ps:=["self","at"]) λ_ _ _ _ _ _=>qf1 λ_ _=>rfl;obtain⟨g15,d15⟩:=qbm X G p15 (ps:=["told","at","row"]) λ_ _ _ _ _ _=>qoi λ_ _ _=>rfl;obtain⟨g16,d16⟩:=qh6 p16 (ps:=["self","name"]) λ_ _ _ _ _ _=>qf1 λ_ _=>rfl;obtain⟨g17,d17⟩:=qh6 p17 (ps:=["self"]) λ_ _ _ _ _ _=>qgg λ_=>rfl;obtain⟨g18,d18⟩:=qbm X G p18 (ps:=["row"]) λ_ _ _ _ _ _=>qgg λ_=>rfl;obtain⟨g19,d19⟩:=qbm X G p19 (ps:=["rule","row"]) λ_ _ _ _ _ _=>qf1 λ_ _=>rfl;obtain⟨g20,d20⟩:=qbm X G p20 (ps:=["rule","at","row"]) λ_ _ _ _ _ _=>qoi λ_ _ _=>rfl;obtain⟨g21,d21⟩:=qbm X G p21 (ps:=["told","at","row"]) λ_ _ _ _ _ _=>qoi λ_ _ _=>rfl;obtain⟨g22,d22⟩:=qbm X G p22 (ps:=["told","rule","at","other"]) λ_ _ _ _ _ _=>arg4 λ_ _ _ _=>rfl;obtain⟨g23,d23⟩:=qbm X G p23 (ps:=["told","at","row"]) λ_ _ _ _ _ _=>qoi λ_ _ _=>rfl;obtain⟨g24,d24⟩:=qh6 p24 (ps:=["self","at"]) λ_ _ _ _ _ _=>qf1 λ_ _=>rfl;obtain⟨g25,d25⟩:=qbm X G p25 (ps:=["text"]) λ_ _ _ _ _ _=>qgg λ_=>rfl;obtain⟨g26,d26⟩:=qh6 p26 (ps:=["self"]) λ_ _ _ _ _ _=>qgg λ_=>rfl;obtain⟨g27,d27⟩:=qbm X G p27 (ps:=["rule"]) λ_ _ _ _ _ _=>qgg λ_=>rfl;obtain⟨g28,d28⟩:=qbm X G p28 (ps:=["rule"]) λ_ _ _ _ _ _=>qgg λ_=>rfl;obtain⟨g29,d29⟩:=qh6 p29 (ps:=["self","name"]) λ_ _ _ _ _ _=>qf1 λ_ _=>rfl;obtain⟨g30,d30⟩:=qbm X G p30 (ps:=["book"]) λ_ _ _ _ _ _=>qgg λ_=>rfl;obtain⟨g31,d31⟩:=qbm X G p31 (ps:=["_law_script","_law_k"]) λ_ _ _ _ _ _=>qf1 λ_ _=>rfl;obtain⟨g32,d32⟩:=qbm X G p32 (ps:=["_law_cell","_law_many"]) λ_ _ _ _ _ _=>qf1 λ_ _=>rfl;obtain⟨g33,d33⟩:=qbm X G p33 (ps:=["_law_words_here","_law_cell"]) λ_ _ _ _ _ _=>qf1 λ_ _=>rfl;obtain⟨g34,d34⟩:=qbm X G p34 (ps:=["_law_script","_law_at","_law_names"]) λ_ _ _ _ _ _=>qoi λ_ _ _=>rfl;obtain⟨g35,d35⟩:=qbm X G p35 (ps:=["_law_script","_law_at","_law_names"]) λ_ _ _ _ _ _=>qoi λ_ _ _=>rfl;obtain⟨g36,d36⟩:=qbm X G p36 (ps:=["_law_script","_law_at","_law_names","_law_kinds"]) λ_ _ _ _ _ _=>arg4 λ_ _ _ _=>rfl;obtain⟨g37,d37⟩:=qbm X G p37 (ps:=["_law_script","_law_names","_law_kinds","_law_most"]) λ_ _ _ _ _ _=>arg4 λ_ _ _ _=>rfl;obtain⟨g38,d38⟩:=qbm X G p38 (ps:=["_law_rule_here"]) λ_ _ _ _ _ _=>qgg λ_=>rfl;obtain⟨g39,d39⟩:=qbm X G p39 (ps:=["_law_rule_here"]) λ_ _ _ _ _ _=>qgg λ_=>rfl;obtain⟨g40,d40⟩:=qbm X G p40 (ps:=["_law_rule_here","_law_turn"]) λ_ _ _ _ _ _=>qf1 λ_ _=>rfl;obtain⟨g41,d41⟩:=qbm X G p41 (ps:=["_law_script","_law_lists"]) λ_ _ _ _ _ _=>qf1 λ_ _=>rfl;obtain⟨g42,d42⟩:=qbm X G p42 (ps:=["_law_rule_here"]) λ_ _ _ _ _ _=>qgg λ_=>rfl;obtain⟨g43,d43⟩:=qbm X G p43 (ps:=["_law_found","_law_due"]) λ_ _ _ _ _ _=>qf1 λ_ _=>rfl;have F12:=qw9 (st:=qbi) l12 c12 k12;have b12:Binds K _ ["self","name","who","owes","opens","base","many","unit","still"] []:=quq (ds:=[]) λus hl S=>match us,hl with | [u0,u1,u2,u3,u4,u5,u6,u7,u8],_=>pk12 u0 u1 u2 u3 u4 u5 u6 u7 u8 S
 have F44:=qpo (st:=qlr) l44 c44 k44;have b44:=F44.binds (ps:=["_law_script"]) λ_ _ _ _ _ _ us hl=>match us,hl with | [_],_=>rfl
 have he_RuleInit_8:Binds K _ ["self","name","who","owes","opens","base","many","unit","still"] [.none]:=quq λus hl S=>match us,(show us.length=8 by rw[Ai]at hl;exact Nat.add_right_cancel hl) with | [u0,u1,u2,u3,u4,u5,u6,u7],_=>E7 u0 u1 u2 u3 u4 u5 u6 u7 S
 have he_RuleInit_8still:KBinds K _ ["self","name","who","owes","opens","base","many","unit","still"] ["still"] Lam.gL Lam.gL:=Lam.kbL En λus w S hl=>match us,(show us.length=8 from C2 hl) with | [u0,u1,u2,u3,u4,u5,u6,u7],_=>B2 u0 u1 u2 u3 u4 u5 u6 u7 w S
 have T:Txt K mg {nJ:=f0,nM:=g0,mF:=f1,fD:=g1,hX:=f2,lZ:=g2,fA:=f3,nL:=g3,fQ:=f4,fG:=g4,lQ:=f5,nE:=g5,fP:=f6,mC:=g6,mD:=f7,lA:=g7,dB:=f8,mP:=g8,lK:=f9,fR:=g9,mH:=f10,mU:=g10,mV:=f11,mK:=g11,dO:=f12,bD:=_,dC:=f13,lC:=g13,dS:=f14,fW:=g14,lR:=f15,fV:=g15,dA:=f16,nB:=g16,dU:=f17,lI:=g17,mG:=f18,fF:=g18,mE:=f19,lY:=g19,lH:=f20,mY:=g20,fE:=f21,mQ:=g21,nN:=f22,mJ:=g22,mM:=f23,fK:=g23,dL:=f24,lD:=g24,mL:=f25,nQ:=g25,dR:=f26,nD:=g26,hZ:=f27,fO:=g27,lW:=f28,lJ:=g28,dP:=f29,mR:=g29,lT:=f30,fH:=g30,fS:=f31,nF:=g31,nK:=f32,lO:=g32,nG:=f33,fN:=g33,fJ:=f34,mO:=g34,hV:=f35,mZ:=g35,nI:=f36,fZ:=g36,lU:=f37,lN:=g37,fL:=f38,fB:=g38,fC:=f39,fX:=g39,nR:=f40,hG:=g40,hM:=f41,fT:=g41,nC:=f42,lV:=g42,hU:=f43,fU:=g43,lE:=fa,dD:=_,kF:=D1,mB:=Em,kW:=E2,kO:=E3,gG:=Eu,k7:=E1,gH:=E9,kK:=El,dH:=Fe,gM:=Ff,bP:=EE,gQ:=EF,bS:=EG,gZ:=EH,bG:=EI,bN:=EJ,bB:=EK}:={
  bU:=d0,
  bJ:=d1,
  bV:=d2,
  dN:=d3,
  bA:=d4,
  bW:=d5,
  bK:=d6,
  bX:=d7,
  dJ:=d8,
  bT:=d9,
  bQ:=d10,
  gP:=d11,
  pS:=⟨F12,b12,t12⟩,
  dW:=d13,
  kX:=d14,
  bL:=d15,
  kQ:=d16,
  fY:=d17,
  gT:=d18,
  bH:=d19,
  bO:=d20,
  bE:=d21,
  gO:=d22,
  gR:=d23,
  dM:=d24,
  kY:=d25,
  nO:=d26,
  gY:=d27,
  bY:=d28,
  lG:=d29,
  kG:=d30,
  kD:=d31,
  gF:=d32,
  kZ:=d33,
  gW:=d34,
  bC:=d35,
  gN:=d36,
  bF:=d37,
  gD:=d38,
  kP:=d39,
  gX:=d40,
  bM:=d41,
  bI:=d42,
  kI:=d43,
  pT:=⟨F44,Bu X G a44,b44⟩,
  nH:=Bu X G Fg,
  kT:=qul Fm,
  fM:=qym Fn,
  gA:=Fo,
  pN:=qmy Cl,
  pP:=qmy E5,
  gJ:=Bu X G E6,
  gI:=xb_of E8,
  pM:=Bu X G EL,
  gK:=qn8 EN,
  dG:=EO,
  gU:=Bu X G EM,
  kM:=qn8 EQ,
  bR:=ER,
  pG:=Bu X G Fh,
  dE:=qn8 Fp,
  pJ:=Fq,
  bZ:=Bu X G Fi,
  kA:=qul Fr,
  dQ:=qym Fs,
  kC:=Ft,
  pY:=Fu,
  pF:=qmy D2,
  nV:=Bu X G EU,
  dY:=qn8 F0,
  pV:=F8,
  dZ:=Bu X G EV,
  kH:=qn8 F9,
  gE:=Fa,
  dF:=qn9 ES,
  gS:=qn9 ET,
  pD:=qn9 Fv,
  pL:=qn9 Fb,
  gB:=qn9 Fc,
  mW:=he_RuleInit_8,
  nX:=he_RuleInit_8still,
  mS:=Bp X G GL,
  pB:=Bp X G GM,
  lF:=Bp X G Es,
  dX:=Bp X G GN,
  dI:=Bp X G Eo,
  kE:=Bp X G GO,
  gC:=Bp X G Fz,
  pU:=Bp X G GP,
  kL:=Bp X G Fj,
  mI:=Bp X G Ev,
  pW:=Bp X G EW,
  kU:=Bp X G GQ,
  pO:=Bp X G GS,
  nY:=⟨_,Bu X G E4⟩,
  pA:=⟨_,Bu X G Et⟩,
  nU:=⟨_,Bu X G Ep⟩,
  pX:=⟨_,Bu X G BT⟩,
  nZ:=Bu X G Fk,pE:=λH=>.inr ⟨_,_,_,EY,rfl,rfl,by show 3<=Au;rw[Bd];decide,.cons ⟨_,rfl⟩ (.cons ⟨_,rfl⟩ (.cons ⟨_,rfl⟩ (.nil)))⟩,
  pR:=Bu X G Fl,mT:=λH=>.inr ⟨_,_,_,EZ,rfl,rfl,by show 7<=Au;rw[Bd];decide,.cons rfl (.cons rfl (.cons rfl (.cons rfl (.cons rfl (.cons rfl (.cons rfl (.nil)))))))⟩,
  nW:=λH=>.inr ⟨_,_,_,Ew,rfl,rfl,by show 10<=Au;rw[Bd];decide,.cons ⟨_,rfl⟩ (.cons ⟨_,rfl⟩ (.cons ⟨_,rfl⟩ (.cons ⟨_,rfl⟩ (.cons ⟨_,rfl⟩ (.cons ⟨_,rfl⟩ (.cons ⟨_,rfl⟩ (.cons ⟨_,rfl⟩ (.cons ⟨_,rfl⟩ (.cons ⟨_,rfl⟩ (.nil))))))))))⟩,
  pI:=λH=>.inr ⟨_,_,_,Ex,rfl,rfl,by show 10<=Au;rw[Bd];decide,.cons ⟨_,rfl⟩ (.cons ⟨_,rfl⟩ (.cons ⟨_,rfl⟩ (.cons ⟨_,rfl⟩ (.cons ⟨_,rfl⟩ (.cons ⟨_,rfl⟩ (.cons ⟨_,rfl⟩ (.cons ⟨_,rfl⟩ (.cons ⟨_,rfl⟩ (.cons ⟨_,rfl⟩ (.nil))))))))))⟩,
  pQ:=λH=>.inr ⟨_,_,_,Ey,rfl,rfl,by show 3<=Au;rw[Bd];decide,.cons ⟨_,rfl⟩ (.cons ⟨_,rfl⟩ (.cons ⟨_,rfl⟩ (.nil)))⟩,
  pK:=λH=>.inr ⟨_,_,_,Ez,rfl,rfl,by show 3<=Au;rw[Bd];decide,.cons ⟨_,rfl⟩ (.cons ⟨_,rfl⟩ (.cons ⟨_,rfl⟩ (.nil)))⟩,
  pH:=λH=>.inr ⟨_,_,_,EA,rfl,rfl,by show 6<=Au;rw[Bd];decide,.cons ⟨_,rfl⟩ (.cons ⟨_,rfl⟩ (.cons ⟨_,rfl⟩ (.cons ⟨_,rfl⟩ (.cons ⟨_,rfl⟩ (.cons ⟨_,rfl⟩ (.nil))))))⟩,
  pC:=λH=>.inr ⟨_,_,_,EB,rfl,rfl,by show 4<=Au;rw[Bd];decide,.cons ⟨_,rfl⟩ (.cons ⟨_,rfl⟩ (.cons ⟨_,rfl⟩ (.cons ⟨_,rfl⟩ (.nil))))⟩,
  pZ:=λH=>.inr ⟨_,_,_,EC,rfl,rfl,by show 3<=Au;rw[Bd];decide,.cons ⟨_,rfl⟩ (.cons ⟨_,rfl⟩ (.cons ⟨_,rfl⟩ (.nil)))⟩}
 exact⟨_,cL,PL,λs v=>.of_eq rfl,Lam.tab_mk a44 l44 rfl lcL vL,tnL,λbase _ _ LF=>okLaw T rfl LF⟩
theorem walk {l:PySem.W.OpenLaw}{q:AH}{loose:List Str}{XP:(Str->Option Value)->Heap->Prop}{YP:World->Heap->Prop}{d d':DefRec}{K:Params->Ag}(hn:l.most=some 63)(hdf:d.params.defaults=[])(hrec:(PyProof.Rows.recsOf q).find? (λe=>e.name == ("law" : Str))=some d')
  (hY:∀(w:World)(h:Heap),YP w h->(K w.params).In h)
  (F:∀(w:World)(mg:Str->Option Value)(fa:Addr)(h:Heap),(K w.params).In h->h.Ns AD mg->mg d.name=some (.ref fa) ->
   ∃(fd:AF)(c Pt:Addr),(∀(s:Ah)(u:Value),BindsTo s fd ⟨[u],[]⟩ [("_law_script",u)])/\PySem.W.tabIn (K w.params) "law"=some (c,Pt)/\(K w.params).lookup Pt=none /\
    ∀base:Heap,(K w.params).In base->base.Ns AD mg->Lam.LamF mg base c Pt->FnOk l.prog w (K w.params) mg base CX0 10 fa fd ["_law_script"] (qnj (K w.params) Pt)) :
  PySem.W.WalkO q loose XP YP l.row.toRowW d [] (λf vs=>PySem.call f vs) :=
 Lam.walk_tab (n:=63) (k:=10) (x := "_law_script") (dn := "law") (CX:=λ_=>CX0) (sp:=λw Pt=>qnj (K w.params) Pt) hn En hdf ⟨rfl,En,En⟩ hrec hY F (λ_ _ a Pt ns hl hP hS=>⟨a,ns,rfl,hS,hl,hP,λ_=>rfl⟩) λ_ _ _ _ _ z=>z
end K43
namespace PySem.W.Fast
def tw2707512444815750757:=()
def tw17511078485285913130:=()
def tw910427692553320722:=()
def tw14160292591919428582:=()
def tw16884469142572559535:=()
def tw8761005296266773041:=()
def tw8665141293766833094:=()
def tw3469238288019278252:=()
def tw13442914865563601363:=()
def tw1418844514390591716:=()
def tw8348410056512832408:=()
def tw15850633775755849225:=()
def tw99174420646068901:=()
def tw17393233833134055051:=()
def tw1392214036292339596:=()
def tw15998468652678706143:=()
def tw18040989863916199978:=()
def tw11203816835798128391:=()
def tw12992108555813492486:=()
def tw17209760360989477190:=()
def tw8185378221633055906:=()
def tw9045992778431059426:=()
def tw14036133170491411419:=()
def tw14157085732206120314:=()
def tw6276014032974567323:=()
def tw7715242285783553437:=()
def tw2557625622925676342:=()
def tw7429282904002600895:=()
def tw4727661367464649758:=()
def tw1151029665787870913:=()
def tw2612637019721210835:=()
def tw6244371517593210248:=()
def tw11735696450705111925:=()
def tw12612644306262803768:=()
def tw2630226418380162299:=()
def tw4595275032906306655:=()
def tw14644171448463843308:=()
def tw4300561341729215935:=()
def tw7758936087975316996:=()
def tw11950692173603215112:=()
def tw2295238447847131544:=()
def tw221255315341537875:=()
def tw14324524040489002673:=()
def tw6061134064508802511:=()
def tw16916781436051788371:=()
def tw9930870456479138796:=()
def tw16777535632313966558:=()
def tw15747408207154157897:=()
def tw5915529168893851137:=()
def tw3427331684750748340:=()
def tw10679498933967946634:=()
def tw948347751728168308:=()
def tw4025761768905420727:=()
def tw14387059977353154714:=()
def tw14336499796489870881:=()
def tw5190666053649623438:=()
def tw4603451228148415207:=()
def tw15679715393895609490:=()
def tw17081901419494503117:=()
def tw114619554822643755:=()
def tw14501508958228931565:=()
def tw13092585203830919891:=()
def tw12250332987417340695:=()
def tw2575832920164831064:=()
def tw12377028968533439568:=()
def tw126303778773798070:=()
def tw316113852082322733:=()
def tw6010298666364319045:=()
def tw13166251570932062641:=()
def tw2648538788158539540:=()
def tw12978959103102373551:=()
def tw11756026408630939871:=()
def tw16819914150401017532:=()
def tw4197184591737714853:=()
def tw11468292620247961528:=()
def tw2757796510181279864:=()
def tw3172492666264390366:=()
def tw4170257548481007765:=()
def tw3284501727468947441:=()
def tw17882058112454968980:=()
def tw14886586384678415624:=()
def tw7944345835390315581:=()
def tw9419427595949589725:=()
def tw5410980508183731517:=()
def tw9893576864920253918:=()
def tw5131066109588819098:=()
def tw801412790875601200:=()
def tw5514341278178917982:=()
def tw1467173505153491027:=()
def tw1155133604100344272:=()
def tw1153695183418327523:=()
def tw3907839033067267878:=()
def tw3952936920834386623:=()
def tw2549533787435528781:=()
def tw2277382726662266646:=()
def tw4651138990431370062:=()
end PySem.W.Fast
open PySem PySem.W PyProof.Rows
set_option maxRecDepth 100000 in
set_option maxHeartbeats 0 in
theorem PySem.Challenge.cw_termcourt_k43_shown_and_read_holds : PySem.Challenge.rw_termcourt_k43_shown_and_read.Holds := by
 w_on; o_law; k_head; (case hw=>w_witness2)
 k_fill
 refine K43.walk (l:=PySem.Challenge.rw_termcourt_k43_shown_and_read) rfl rfl (by rfl) (λw h Y=>PySem.W.km_in_of Y) ?F
 case F =>
  intro w mg fa h KX G hmg
  refine' K43.all_mk KX G hmg ?Fg ?E6 ?EL ?EM ?Fh ?Fi ?EU ?EV ?p0 ?p1 ?p2 ?p3 ?p4 ?p5 ?p6 ?p7 ?p8 ?p9 ?p10 ?p11 ?a12 ?t12 ?l12 ?c12 ?k12 ?pk12 ?E7 ?B2 ?p13 ?p14 ?p15 ?p16 ?p17 ?p18 ?p19 ?p20 ?p21 ?p22 ?p23 ?p24 ?p25 ?p26 ?p27 ?p28 ?p29 ?p30 ?p31 ?p32 ?p33 ?p34 ?p35 ?p36 ?p37 ?p38 ?p39 ?p40 ?p41 ?p42 ?p43 ?a44 ?l44 ?c44 ?k44 ?GL ?GM ?Es ?GN ?Eo ?GO ?Fz ?GP ?Fj ?Ev ?EW ?GQ ?GS ?E4 ?Et ?Ep ?BT ?Fk ?EY ?Fl ?EZ ?Ew ?Ex ?Ey ?Ez ?EA ?EB ?EC ?lcL ?vL ?Fm ?Fn ?Fo ?Cl ?E5 ?E8 ?EN ?EO ?EQ ?ER ?Fp ?Fq ?Fr ?Fs ?Ft ?Fu ?D2 ?F0 ?F8 ?F9 ?Fa ?ES ?ET ?Fv ?Fb ?Fc ?tnL
  (case Fg|E6|EL|EM|Fh|Fi|EU|EV=>k_is)
  (case p0|p1|p2=>refine' K43.pd_of ?pa ?pl ?pc ?pk; (case pa|pl|pc|pk=>k_is))
  (case p3=>refine' K43.pm_of ?pa ?pt ?pl ?pc ?pk; (case pa|pt|pl|pc|pk=>k_is))
  (case p4|p5|p6|p7=>refine' K43.pd_of ?pa ?pl ?pc ?pk; (case pa|pl|pc|pk=>k_is))
  (case p8=>refine' K43.pm_of ?pa ?pt ?pl ?pc ?pk; (case pa|pt|pl|pc|pk=>k_is))
  (case p9|p10|p11=>refine' K43.pd_of ?pa ?pl ?pc ?pk; (case pa|pl|pc|pk=>k_is))
  (case a12|t12|l12|c12|k12=>k_is)
  (case pk12|E7|B2=>intros; kernel_rfl)
  (case p13|p14=>refine' K43.pm_of ?pa ?pt ?pl ?pc ?pk; (case pa|pt|pl|pc|pk=>k_is))
  (case p15=>refine' K43.pd_of ?pa ?pl ?pc ?pk; (case pa|pl|pc|pk=>k_is))
  (case p16|p17=>refine' K43.pm_of ?pa ?pt ?pl ?pc ?pk; (case pa|pt|pl|pc|pk=>k_is))
  (case p18|p19|p20|p21|p22|p23=>refine' K43.pd_of ?pa ?pl ?pc ?pk; (case pa|pl|pc|pk=>k_is))
  (case p24=>refine' K43.pm_of ?pa ?pt ?pl ?pc ?pk; (case pa|pt|pl|pc|pk=>k_is))
  (case p25=>refine' K43.pd_of ?pa ?pl ?pc ?pk; (case pa|pl|pc|pk=>k_is))
  (case p26=>refine' K43.pm_of ?pa ?pt ?pl ?pc ?pk; (case pa|pt|pl|pc|pk=>k_is))
  (case p27|p28=>refine' K43.pd_of ?pa ?pl ?pc ?pk; (case pa|pl|pc|pk=>k_is))
  (case p29=>refine' K43.pm_of ?pa ?pt ?pl ?pc ?pk; (case pa|pt|pl|pc|pk=>k_is))
  (case p30|p31|p32|p33|p34|p35|p36|p37|p38|p39|p40|p41|p42|p43=>refine' K43.pd_of ?pa ?pl ?pc ?pk; (case pa|pl|pc|pk=>k_is))
  (case a44|l44|c44|k44|GL|GM|Es|GN|Eo|GO|Fz|GP|Fj|Ev|EW|GQ|GS|E4|Et|Ep|BT|Fk|EY|Fl|EZ|Ew|Ex|Ey|Ez|EA|EB|EC|lcL=>k_is)
  (case vL=>exact rfl)
  (case Fm|Fn|Fo|Cl|E5|E8|EN|EO|EQ|ER|Fp|Fq|Fr|Fs|Ft|Fu|D2|F0|F8|F9|Fa|ES|ET|Fv|Fb|Fc|tnL=>kernel_rfl)
