import PyProof.Rows.All
import Wide.All
import OpenK.AllK
import Wide.FinOn
import Lean
import PyProof.EqAt
import PyProof.EqKinds
import PyProof.TupleCall
import PySem.Challenge.RW_termcourt_k42_rows_read
set_option Elab.async false
set_option linter.all false
set_option maxRecDepth 100000
/-! THE HAND LAYER,for ints,bools,texts,own classes,LISTS and tuples (index,slices,in,append,pop ..),calls,loops. Paste it whole ahead of your own text; what your proof does not reach may be deleted. -/
local macro_rules|`(Ek)=>`(by decide +kernel)|`(En)=>`(by decide)
open PySem renaming wpAny_bind->Aa,Shared->Af,wpAny_pure->Al,Spec->Az,sizeLine->A0,mainGlobals->A5,FuncData->AB,Program->AF,Builtin->AG,Around->AL,sizeLine_eq->Bg,NameKind->Bt,PassesOwn->Bw,wpAny_Call_Name_kw->B0,wpAny_callSpecial?_slot->B3,wpAny_holding->BC,wpAny_call_entry->BF,wpAny_truthy_bool->BG,wpAny_field->BI,wpAny_passesOwn->BM,wpAny_setField->BP,SetTable->BW,wpAny_mono->BY,wpAny_seqItems->BZ,wpAny_newObj_type->Cf,wpAny_setState_of->Cu,wpAny_askSetting->C2,wpAny_setEntries_of->C7,codeAny_mono->C8,wpAny_attempt->CA,builtinLookup_eq_fast->CG,wpAny_call->CO,mem_of_lookup->CU,wpAny_getItem_str_slice->CY,wpAny_setField_rec->Dh,wpAny_execs_nil->Dl,wpAny_pyIter_list->Dr,codeAny_call_builtin->Dv,Within->Dz,typeLookup_type->DJ,codeAny_builtin->DK,Paired->DM,call_meets->DN,tupleKind_room_in1->DO,wpAny_Call_method0_late->DR,wpAny_fieldsOf->DW,plainObj_wpAny_Assign_Attribute->DZ,wpAny_isInstance->Ec,wpAny_rule->Ed,IsPair->Ee
open PySem.Str renaming ofString->Ab,cps_append->Dx
open List renaming length_map->Ac,getElem?_eq_some_iff->Ag,getElem?_map->Ai,length_append->Aj,getElem?_eq_getElem->Ak,mem_cons_self->Am,mem_singleton->An,size_toArray->Ao,mem_cons->Ap,mem_cons_of_mem->Aq,length_cons->At,not_mem_nil->Av,mem_of_getElem?->Ay,map_append->A1,length_take->A2,map_cons->AA,mem_append->AH,mem_append_right->AK,getElem?_append_right->AM,append_assoc->AN,getElem?_eq_none->AO,nodup_append->AQ,getElem?_append_left->AT,all_eq_true->AV,mem_map->AW,nodup_cons->AX,getElem?_of_mem->Ba,getElem_mem->Bb,getD_eq_getElem?_getD->Be,cons_append->Bf,range->Bh,map_map->Bi,nil_append->Bk,ext_getElem?->Bq,length_singleton->Br,flatMap_append->Bu,take_length->Bx,flatMap_cons->By,getElem?_eq_none_iff->B6,append_nil->B8,length_drop->B9,getElem?_set_self->BA,take_append_drop->BD,lookup_cons->BE,drop_eq_getElem_cons->BJ,mem_flatMap->BQ,cons_lt_cons_iff->BR,take_sublist->BU,map_nil->BV,length_range->BX,length_nil->Ca,take_of_length_le->Cc,Nodup->Cd,mem_append_left->Cj,mem_of_mem_take->Co,map_take->Cp,getElem?_set->Cv,length_set->Cw,contains_iff_mem->C0,all_cons->C9,getElem?_toArray->CH,lookup->CJ,all_map->CK,take_add_one->CL,count_append->CM,mem_range->CV,cons_ne_nil->Da,Perm->Db,length_eq_zero_iff->Dc,find?_cons->Dm,foldl_append->Du,mem_of_mem_drop->Dy,mem_or_eq_of_mem_set->D7,filterMap_cons->D9,length_reverse->DA,getElem?_range->DB,length_take_le->DC,any_cons->DF,length_erase_of_mem->DH,map_drop->DI,length->DQ,take_zero->DY,getElem?_reverse->Ea,mem_reverse->Ef
open PySem.W renaming exmOne->Ad,Frag->Ae,nsIn->A9,findIn->AJ,mg_of->AU,mg_none_of->AY,keepIn->Bj,fnOf->B1,Looks->BH,kitOne->BN,kia_one->BO,emptyDict->Ce,codeIn->Ci,typeIn->Cr,callWith_K->C1,instObj->C5,hasDictIn->CI,methodCall_KW->Dq,specialIn->Ds,plainGet->D3,mroIn->DE,lookIn->DU
open PySem.Heap renaming get?_push_of_some->Ah,get?_push_size->Au,lt_size->Aw,SameBut->Bc,get?_update_self->Bd,get?_update_other->Bm,size_push->Bp,ExtBut->DS
open PySem.Value renaming ref->Ar,none->B5,type->BK,isStrOf_shape->D8,isStrOf->DD,str->DP
open Nat renaming le_refl->Ax,le_trans->A3,lt_of_lt_of_le->A8,ne_of_lt->AD,zero_le->Bs,lt_irrefl->B4,le_of_eq->BS,lt_succ_self->Cb,le_succ->Ck,ne_of_gt->Cq,lt_succ_of_lt->Cs,lt_of_succ_lt_succ->Dj,le_of_lt->D0,sub_self->D4,zero_add->D5,succ_le_succ->D6,not_lt_zero->DL
open Or renaming inl->A4,inr->CQ
open Array renaming length_toList->A6,getElem?_eq_getElem->B7,getElem?_toList->Cz,getElem?_eq_some_iff->CD,getElem?_eq_none->DX
open Option.some renaming inj->A7
open Bool renaming false_ne_true->AC,and_eq_true->AE,false_and->C4,eq_iff_iff->C6,and_false->CZ,false_eq_true->Df,true_and->Dp
open PySem.F renaming plainAttrs_list->AI,slot_list_append->AR,type_list_append->AS,slot_tuple_iterator_next->CF,slot_dict_values->CS,called_set->Di,plainAttrs_str->Dk,excBase_ValueError->Dw
open Ne renaming symm->AZ
open PySem.PassesOwn renaming never->Bl
open PySem.NameKind renaming free->Bo
open PyProof.Rows renaming callWith_type1->Bv,callWith_builtin1->CW
open PySem.SeqAt renaming EqAt->Bz
open False renaming elim->BB
open PySem.Obj renaming data_mapFields->BL,isFreed_of_fields->Cy,mapFields->CB,mapSeq->CC
open List.Sublist renaming refl->Cg
open Option renaming bind_some->Cm,isSome_iff_exists->CP,map_some->Dn
open PySem.Txt renaming split->Cn,slice_le->DV,slice->Eb
open Int renaming toNat_natCast->Ct,zero_add->C3
open True renaming intro->CN
open Sum renaming inr->CT
open PySem.Calls renaming spliced_cons->Dd,callWith_builtin->De,spliced_nil->Dt
open Nat.succ renaming inj->Dg
open ForInStep renaming yield->Do
open List.cons renaming inj->DG
open PyProof.Rows.F renaming plain_set_update_loop->DT
namespace L2
open PySem PySem.Spec PyProof.Rows
noncomputable abbrev Key:=Sum Int Str
noncomputable def qle:Key->Value->Bool
 |.inl k,v=>Value.isInt k v
 |.inr x,v=>DD x v
noncomputable def keyH (w:World):Key->Int
 |.inl k=>hashInt k
 |.inr x=>hashStr w x
theorem qbt:∀{k:Key}{v:Value},qle k v=true->(∃i t,k=Sum.inl i/\v=Value.int i t)\/(∃x t,k=CT x/\v=DP x t)
 |.inl i,v,h=>by
  obtain⟨t,e⟩:=Value.isInt_shape (k:=i) (v:=v) h
  exact .inl ⟨i,t,rfl,e⟩
 |.inr x,v,h=>by
  obtain⟨t,e⟩:=D8 (x:=x) (v:=v) h
  exact .inr ⟨x,t,rfl,e⟩
theorem qq5 (i:Int)(t:Tok):qle (.inl i) (.int i t)=true:=by simp[qle,Value.isInt]
theorem qq6 (x:Str)(t:Tok):qle (.inr x) (.str x t)=true:=by simp[qle,DD]
theorem qyz (a b:Int):decide ((Sum.inl a:Key)=Sum.inl b)=(a == b):=by
 by_cases e:a=b
 .subst e;simp
 .have h:¬(Sum.inl a:Key)=Sum.inl b:=λq=>e (Sum.inl.inj q)
  rw[decide_eq_false h]
  exact(beq_eq_false_iff_ne.mpr e).symm
theorem qy0 (a b:Str):decide ((CT a:Key)=CT b)=decide (a=b):=by
 by_cases e:a=b
 .subst e;simp
 .have h:¬(CT a:Key)=CT b:=λq=>e (CT.inj q)
  rw[decide_eq_false h,decide_eq_false e]
theorem qy1 (a:Int)(b:Str):decide ((Sum.inl a:Key)=CT b)=false:=decide_eq_false (λq=>nomatch q)
theorem qy2 (a:Str)(b:Int):decide ((CT a:Key)=Sum.inl b)=false:=decide_eq_false (λq=>nomatch q)
noncomputable def qbb (prog:AF)(w:World):PySem.KeyKind prog w Key where
 is:=qle
 hash:=keyH w
 inj:=λv a b ha hb=>by
  rcases qbt ha with ⟨i,t,rfl,rfl⟩|⟨x,t,rfl,rfl⟩
  .rcases qbt hb with ⟨j,u,rfl,e⟩|⟨y,u,rfl,e⟩
   .injection e with e1 _;rw[e1]
   .exact nomatch e
  .rcases qbt hb with ⟨j,u,rfl,e⟩|⟨y,u,rfl,e⟩
   .exact nomatch e
   .injection e with e1 _;rw[e1]
 byValue:=λk v h=>by
  rcases qbt h with ⟨i,t,rfl,rfl⟩|⟨x,t,rfl,rfl⟩ <;>rfl
 pyHash:=λhv h=>by
  rcases qbt hv with ⟨i,t,rfl,rfl⟩|⟨x,t,rfl,rfl⟩
  .exact wpAny_pyHash_int h
  .exact wpAny_pyHash_str h
 eqBool:=λhu hv h=>by
  rcases qbt hu with ⟨i,t,rfl,rfl⟩|⟨x,t,rfl,rfl⟩
  .rcases qbt hv with ⟨j,u,rfl,rfl⟩|⟨y,u,rfl,rfl⟩
   .rw[qyz]at h;exact wpAny_eqBool_int h
   .rw[qy1]at h;exact Bz.int_str i t y u _ _ _ _ h
  .rcases qbt hv with ⟨j,u,rfl,rfl⟩|⟨y,u,rfl,rfl⟩
   .rw[qy2]at h;exact Bz.str_int x t j u _ _ _ _ h
   .rw[qy0]at h;exact wpAny_eqBool_str h
 «strs» := λk x t v h=>by
  rcases qbt h with ⟨i,u,rfl,e⟩|⟨y,u,rfl,e⟩
  .exact nomatch e
  .injection e with e1 _
   subst e1
   cases v <;>rfl
theorem qm3 (prog:AF)(w:World)(i:Int)(t:Tok):(qbb prog w).is (.inl i) (.int i t)=true:=qq5 i t
theorem qm4 (prog:AF)(w:World)(x:Str)(t:Tok):(qbb prog w).is (.inr x) (.str x t)=true:=qq6 x t
end L2
namespace L2
open PySem PySem.Spec PyProof.Rows
inductive V where
 |non|bl (b:Bool)|int (i:Int)|str (x:Str)|byt (b:Array UInt8)|flt (b:UInt64)|ref (a:Addr)|ty (n:String)
 deriving DecidableEq
noncomputable def RelV:V->Value->Prop
 |.non,u=>u=B5
 |.bl b,u=>u=Value.bool b
 |.int i,u=>∃t,u=Value.int i t
 |.str x,u=>∃t,u=DP x t
 |.byt b,u=>∃t,u=Value.bytes b t
 |.flt b,u=>∃t,u=Value.float b t
 |.ref a,u=>u=Ar a
 |.ty n,u=>u=BK n
noncomputable abbrev Vals:List V->List Value->Prop:=DM RelV
theorem Vals.length {xs:List V}{us:List Value}(r:Vals xs us):xs.length=us.length:=DM.length r
theorem Vals.get:∀{xs:List V}{us:List Value}{i:Nat}{x:V},Vals xs us->xs[i]?=some x->∃u,us[i]?=some u/\RelV x u
 |_,_,_,_,.nil,e=>by simp at e
 |_,_,0,_,.cons r _,e=>by simp at e;subst e;exact⟨_,rfl,r⟩
 |_,_,i+1,x,.cons _ t,e=>by
  obtain⟨u,h1,h2⟩:=Vals.get (i:=i) (x:=x) t (by simpa using e)
  exact⟨u,by simpa using h1,h2⟩
theorem Vals.set {x:V}{u:Value}(r:RelV x u):∀{xs:List V}{us:List Value}(i:Nat),Vals xs us->Vals (xs.set i x) (us.set i u)
 |_,_,_,.nil=>.nil
 |_,_,0,.cons _ t=>.cons r t
 |_,_,i+1,.cons q t=>.cons q (Vals.set r i t)
theorem Vals.append:∀{xs ys:List V}{us ws:List Value},Vals xs us->Vals ys ws->Vals (xs++ys) (us++ws)
 |_,_,_,_,.nil,s=>s
 |_,_,_,_,.cons r t,s=>.cons r (Vals.append t s)
theorem Vals.take:∀{xs:List V}{us:List Value}(n:Nat),Vals xs us->Vals (xs.take n) (us.take n)
 |_,_,0,_=>.nil
 |_,_,_+1,.nil=>.nil
 |_,_,n+1,.cons r t=>.cons r (Vals.take n t)
theorem Vals.drop:∀{xs:List V}{us:List Value}(n:Nat),Vals xs us->Vals (xs.drop n) (us.drop n)
 |_,_,0,r=>r
 |_,_,_+1,.nil=>.nil
 |_,_,n+1,.cons _ t=>Vals.drop n t
noncomputable def RelO:Option V->Option Value->Prop
 |some v,some u=>RelV v u
 |none,none=>True
 |_,_=>False
noncomputable def KV {κ:Type}:List (κ×V)->List (κ×Value)->Prop:=DM λ(p:κ×V)(q:κ×Value)=>p.1=q.1/\RelV p.2 q.2
noncomputable def kV:Key->V
 |.inl i=>.int i
 |.inr x=>.str x
inductive HO where
 /-- a list -/
 |lst (xs:List V)
 /-- a tuple (never changes) -/
 |tup (xs:List V)
 /-- a dict whose keys are ints and texts;one whose keys are tuples of ints and texts (the empty one is both) -/
 |dK (kvs:List (Key×V))|dT (kvs:List (List Key×V))
 /-- a set of ints: its members,its size -/
 |set (S:Int->Bool) (n:Nat)
 /-- an instance of the class at C,its dict at dx,its attributes -/
 |ins (C dx:Addr) (fs:List (Str×V))
 /-- the dict of the instance at x -/
 |own (x:Addr)
 /-- the dict of an exception -/
 |xd (fs:List (Str×V))
 /-- a bound method,f of x -/
 |met (f x:Addr)
 /-- a range object lo,lo+1,.. below hi -/
 |rng (lo hi:Int)
 /-- a thing that is known to the object (the script;a dict while a loop qyv it): read,never written while it is so -/
 |frz (o:Obj) (u:HO)
 /-- a code object's table -/
 |tbl (ps:Array Value)
 /-- any other thing,by what is true of its one object (a def of one's own: SetO a S n:=HO.ext λh=>..) -/
 |ext (φ:Heap->Prop)
noncomputable abbrev Hp:=Addr->Option HO
noncomputable def upd (H:Hp)(a:Addr)(o:HO):Hp:=λb=>if b=a then some o else H b
theorem qz {H:Hp}{a:Addr}{o:HO}:upd H a o a=some o:=by unfold upd;rw[if_pos rfl]
theorem ze {H:Hp}{a b:Addr}{o:HO}(h:b≠a):upd H a o b=H b:=by unfold upd;rw[if_neg h]
theorem qp6 {H:Hp}{a:Addr}{o u:HO}:upd (upd H a o) a u=upd H a u:=by
 funext b;unfold upd;split <;>rfl
theorem ne_of {H:Hp}{a b:Addr}{o u:HO}(h:H a=some o)(h':H b=some u)(d:o≠u):a≠b:=by
 intro e;subst e;rw[h]at h';exact d (A7 h')
theorem qad {H:Hp}{a b:Addr}{o:HO}(h:H a=some o)(h':H b=none):a≠b:=by
 intro e;subst e;rw[h]at h';cases h'
section
variable (P:AF)(w:World)
noncomputable def ObjOk (H:Hp)(h:Heap)(a:Addr):HO->Prop
 |.lst xs=>xs.length<=A0/\∃(its:List Value)(n:Nat),Vals xs its/\h.get? a=some { cls:=.type "list",data:=.seq its.toArray n }
 |.tup xs=>xs.length<=A0/\∃its:List Value,Vals xs its/\IsTup h a its.toArray
 |.dK kvs=>kvs.length<=A0/\(a == sysModules)=false/\∃vs,KV kvs vs/\h.DictOf (qbb P w) a vs
 |.dT kvs=>kvs.length<=A0/\(a == sysModules)=false/\∃xs:List (List Key×Addr×Value),
   DM (λ(p:List Key×V)(q:List Key×Addr×Value)=>p.1=q.1/\H q.2.1=some (.tup (p.1.map kV))/\RelV p.2 q.2.2) kvs xs /\
   ∃o es ep,h.get? a=some o/\o.ExactDict/\o.data=.dict es ep/\es.toList=xs.map (entryOfKey (tupleKind (qbb P w)))/\(xs.map (·.1)).Nodup
 |.set S n=>h.SetOf (intKind P w) a S n
 |.ins C dx fs=>H dx=some (.own a)/\fs.length<=1000/\dx≠a/\h.get? a=some (C5 C dx) /\
   ∃mA,h.Ns1 dx mA/\(∀f,RelO (fs.lookup f) (mA f))/\Dz mA (fs.map (·.1))
 |.own _=>∃o,h.get? a=some o
 |.xd fs=>∃mA,h.Ns1 a mA/\∀f,RelO (fs.lookup f) (mA f)
 |.rng lo hi=>∃t u v,h.get? a=some { cls:=.type "range",data:=.fields #[.int lo t,.int hi u,.int 1 v] }
 |.frz o u=>h.get? a=some o/\ObjOk H h a u
 |.tbl ps=>h.get? a=some { cls:=.none,data:=.fields ps }
 |.met f x=>h.get? a=some (PySem.W.methodObj (.ref f) (.ref x))
 |.ext φ=>φ h/\(∃o,h.get? a=some o)/\∀h1 h2:Heap,φ h1->(∀o,h1.get? a=some o->h2.get? a=some o)->φ h2
noncomputable def HOk (H:Hp)(h:Heap):Prop:=∀a o,H a=some o->ObjOk P w H h a o
end
section
variable {P:AF}{w:World}{H H':Hp}{h h':Heap}{a:Addr}{o:HO}
theorem ObjOk.lt (x:ObjOk P w H h a o):a<h.objs.size:=by
 cases o with
 |lst xs=>obtain⟨_,_,_,_,e⟩:=x;exact Aw e
 |tup xs=>obtain⟨_,_,_,p⟩:=x;exact p.lt
 |dK kvs=>obtain⟨_,_,_,_,o,_,_,e,_⟩:=x;exact Aw e
 |dT kvs=>obtain⟨_,_,_,_,o,_,_,e,_⟩:=x;exact Aw e
 |set S n=>obtain⟨o,_,_,_,e,_⟩:=x;exact Aw e
 |ins C dx fs=>obtain⟨_,_,_,e,_⟩:=x;exact Aw e
 |own y=>obtain⟨_,e⟩:=x;exact Aw e
 |xd fs=>obtain⟨_,⟨_,_,_,e,_⟩,_⟩:=x;exact Aw e
 |rng lo hi=>obtain⟨_,_,_,e⟩:=x;exact Aw e
 |frz ob u=>obtain⟨e,_⟩:=x;exact Aw e
 |tbl ps=>exact Aw (show h.get? a=some _ from x)
 |met f y=>exact Aw (show h.get? a=some _ from x)
 |ext φ=>obtain⟨_,⟨_,e⟩,_⟩:=x;exact Aw e
theorem DM.mapP {α β:Type}{F G:α->β->Prop}:∀{l₁:List α}{l₂:List β},DM F l₁ l₂->(∀a b,F a b->G a b)->DM G l₁ l₂
 |_,_,.nil,_=>.nil
 |_,_,.cons r t,f=>.cons (f _ _ r) (DM.mapP t f)
theorem ObjOk.stay (x:ObjOk P w H h a o)(k:∀b u,(b=a\/H b=some (.own a))->h.get? b=some u->h'.get? b=some u)
  (ho:∀b,H b=some (.own a)->H' b=some (.own a)) (ht:∀b xs,H b=some (.tup xs)->H' b=some (.tup xs)):ObjOk P w H' h' a o:=by
 induction o with
 |lst xs=>obtain⟨z,its,n,r,e⟩:=x;exact⟨z,its,n,r,k _ _ (.inl rfl) e⟩
 |tup xs=>obtain⟨z,its,r,ob,e,c⟩:=x;exact⟨z,its,r,ob,k _ _ (.inl rfl) e,c⟩
 |dK kvs=>obtain⟨z,y,vs,r,ob,es,ep,e,c⟩:=x;exact⟨z,y,vs,r,ob,es,ep,k _ _ (.inl rfl) e,c⟩
 |dT kvs =>
  obtain⟨z,y,xs,r,ob,es,ep,e,c⟩:=x
  exact⟨z,y,xs,DM.mapP r λp q z=>⟨z.1,ht _ _ z.2.1,z.2.2⟩,ob,es,ep,k _ _ (.inl rfl) e,c⟩
 |set S n=>obtain⟨ob,es,ep,t,e,c⟩:=x;exact⟨ob,es,ep,t,k _ _ (.inl rfl) e,c⟩
 |ins C dx fs =>
  obtain⟨d,z,ne,e,mA,⟨od,es,ep,e2,c⟩,r⟩:=x
  exact⟨ho _ d,z,ne,k _ _ (.inl rfl) e,mA,⟨od,es,ep,k _ _ (.inr d) e2,c⟩,r⟩
 |own y=>obtain⟨ob,e⟩:=x;exact⟨ob,k _ _ (.inl rfl) e⟩
 |xd fs=>obtain⟨mA,⟨od,es,ep,e,c⟩,r⟩:=x;exact⟨mA,⟨od,es,ep,k _ _ (.inl rfl) e,c⟩,r⟩
 |rng lo hi=>obtain⟨t,u,v,e⟩:=x;exact⟨t,u,v,k _ _ (.inl rfl) e⟩
 |frz ob u ih=>obtain⟨e,q⟩:=x;exact⟨k _ _ (.inl rfl) e,ih q⟩
 |tbl ps =>
  have e:h.get? a=some { cls:=.none,data:=.fields ps }:=x
  show h'.get? a=some { cls:=.none,data:=.fields ps }
  exact k a _ (.inl rfl) e
 |met f y =>
  have e:h.get? a=some (PySem.W.methodObj (.ref f) (.ref y)):=x
  show h'.get? a=some (PySem.W.methodObj (.ref f) (.ref y))
  exact k a _ (.inl rfl) e
 |ext φ=>obtain⟨p,⟨o,e⟩,st⟩:=x;exact⟨st _ _ p λo q=>k _ _ (.inl rfl) q,⟨o,k _ _ (.inl rfl) e⟩,st⟩
theorem HOk.lt (x:HOk P w H h)(e:H a=some o):a<h.objs.size:=(x a o e).lt
theorem HOk.fresh (x:HOk P w H h)(e:h.objs.size<=a):H a=none:=by
 cases q:H a with
 |none=>rfl
 |some u=>exact absurd (A8 (x.lt q) e) (B4 _)
theorem HOk.kept (x:HOk P w H h)(k:∀b u,h.get? b=some u->h'.get? b=some u):HOk P w H h':=λa o e =>
 (x a o e).stay (λb u _ q=>k b u q) (λ_ q=>q) λ_ _ q=>q
theorem HOk.laid (x:HOk P w H h)(k:∀b u,h.get? b=some u->h'.get? b=some u)(hp:h.objs.size<=a)(new:ObjOk P w (upd H a o) h' a o):HOk P w (upd H a o) h':=λb u e=>by
 have hn:=x.fresh hp
 by_cases hb:b=a
 .subst hb;rw[qz]at e;cases e;exact new
 .rw[ze hb]at e
  exact(x b u e).stay (λc v _ q=>k c v q) (λc q=>by rw[ze (qad q hn)];exact q) λc xs q=>by rw[ze (qad q hn)];exact q
end
noncomputable def Rd (H:Hp)(a:Addr)(u:HO):Prop:=H a=some u \/ ∃o,H a=some (.frz o u)
theorem Rd.ok {P:AF}{w:World}{H:Hp}{h:Heap}{a:Addr}{u:HO}(r:Rd H a u)(x:HOk P w H h):ObjOk P w H h a u:=by
 rcases r with r|⟨o,r⟩
 .exact x a u r
 .obtain⟨_,q⟩:=x a _ r
  exact q
noncomputable def Mut:Option HO->Prop
 |some (.lst _)=>True
 |some (.dK _)=>True
 |some (.dT _)=>True
 |some (.set _ _)=>True
 |some (.ins _ _ _)=>True
 |some (.ext _)=>True
 |_=>False
section
variable {P:AF}{w:World}{H:Hp}{h h':Heap}{x e:Addr}{o':HO}
theorem HOk.write (ok:HOk P w H h)(mu:Mut (H x))(he:e=x\/H e=some (.own x))(k:∀b u,b≠e->h.get? b=some u->h'.get? b=some u)(heo:∃u,h'.get? e=some u)
  (new:ObjOk P w (upd H x o') h' x o'):HOk P w (upd H x o') h':=λb u q=>by
 have nown:∀c y,H c=some (.own y)->c≠x:=λc y r z=>by subst z;rw[r]at mu;exact mu
 have ntup:∀c xs,H c=some (.tup xs)->c≠x:=λc xs r z=>by subst z;rw[r]at mu;exact mu
 by_cases hb:b=x
 .subst hb;rw[qz]at q;cases q;exact new
 .rw[ze hb]at q
  by_cases hbe:b=e
  .have q':H b=some (.own x):=by
    rcases he with z|z
    .exact absurd (hbe.trans z) hb
    .rw[hbe];exact z
   rw[q]at q';cases q'
   obtain⟨v,hv⟩:=heo
   exact⟨v,by rw[hbe];exact hv⟩
  .refine(ok b u q).stay (λc v hc r=>k c v ?_ r) (λc r=>by rw[ze (nown c b r)];exact r) λc xs r=>by rw[ze (ntup c xs r)];exact r
   rcases hc with rfl|hc
   .exact hbe
   .rintro rfl
    rcases he with z|z
    .exact nown c b hc z
    .rw[hc]at z;cases z;exact hb rfl
end
structure Un (fs ex:List Addr)(H H':Hp)(h h':Heap):Prop where
 keep:∀b o,h.get? b=some o->H b=none->b∉fs->b∉ex->h'.get? b=some o
 slot:∀b o,h.get? b=some o->H b=none->b∈fs->b∉ex->∃sl,h'.get? b=some { o with slots:=sl }
 free:∀b o,h.get? b=some o->H b=none->b∉ex->H' b=none
 there:∀b o,h.get? b=some o->b∉ex->∃o',h'.get? b=some o'
 tups:∀b xs,H b=some (.tup xs)->H' b=some (.tup xs)
 frzs:∀b o u,H b=some (.frz o u)->H' b=some (.frz o u)
 tbls:∀b ps,H b=some (.tbl ps)->∃qcz,H' b=some (.tbl (ps++qcz))
section
variable {fs fs' ex ex':List Addr}{H H1 H2:Hp}{h h1 h2 h':Heap}{a x e:Addr}{o:HO}
theorem Un.any (u:Un fs ex H H1 h h1){b:Addr}{ob:Obj}(q:h.get? b=some ob)(n:H b=none)(hx:b∉ex):∃sl,h1.get? b=some { ob with slots:=sl }:=by
 by_cases hb:b∈fs
 .exact u.slot b ob q n hb hx
 .exact⟨ob.slots,u.keep b ob q n hb hx⟩
theorem Un.kept (k:∀b u,h.get? b=some u->h'.get? b=some u):Un fs ex H H h h' :=
 ⟨λb ob q _ _ _=>k b ob q,λb ob q _ _ _=>⟨ob.slots,k b ob q⟩,λ_ _ _ n _=>n,λb ob q _=>⟨ob,k b ob q⟩,λ_ _ q=>q,λ_ _ _ q=>q,λ_ ps q=>⟨#[],by rw[q];simp⟩⟩
theorem Un.refl:Un fs ex H H h h:=Un.kept λ_ _ q=>q
theorem Un.laid (k:∀b u,h.get? b=some u->h'.get? b=some u)(hp:h.objs.size<=a)(hn:H a=none):Un fs ex H (upd H a o) h h' where
 keep:=λb u q _ _ _=>k b u q
 slot:=λb u q _ _ _=>⟨u.slots,k b u q⟩
 free:=λb u q n _=>by rw[ze (AD (A8 (Aw q) hp))];exact n
 there:=λb u q _=>⟨u,k b u q⟩
 tups:=λb xs q=>by rw[ze (qad q hn)];exact q
 frzs:=λb u xs q=>by rw[ze (qad q hn)];exact q
 tbls:=λb ps q=>⟨#[],by rw[ze (qad q hn),q];simp⟩
theorem Un.write (mu:Mut (H x))(he:e=x\/H e=some (.own x))(k:∀b u,b≠e->h.get? b=some u->h'.get? b=some u)(heo:∃u,h'.get? e=some u):Un fs ex H (upd H x o) h h':=by
 have hx:∀b,H b=none->b≠x:=λb n z=>by subst z;rw[n]at mu;exact mu
 have hb:∀b,H b=none->b≠e:=λb n z=>by
  subst z
  rcases he with r|r
  .exact hx b n r
  .rw[n]at r;cases r
 have hm:∀b u,H b=some u->¬Mut (some u)->b≠x:=λb u q nm z=>by subst z;rw[q]at mu;exact nm mu
 refine⟨λb u q n _ _=>k b u (hb b n) q,λb u q n _ _=>⟨u.slots,k b u (hb b n) q⟩,λb u q n _=>by rw[ze (hx b n)];exact n,λb u q _=>?_,
  λb xs q=>by rw[ze (hm b _ q λz=>z)];exact q,λb u xs q=>by rw[ze (hm b _ q λz=>z)];exact q,λb ps q=>⟨#[],by rw[ze (hm b _ q λz=>z),q];simp⟩⟩
 by_cases hbe:b=e
 .subst hbe;exact heo
 .exact⟨u,k b u hbe q⟩
end
noncomputable def trk (h:Heap)(H:Hp):List Addr:=(Bh h.objs.size).filter λa=>(H a).isSome
noncomputable def ql9 (h:Heap)(H:Hp):Heap:=PySem.W.hideAll h (trk h H)
theorem qq7 (h:Heap)(H:Hp):(ql9 h H).objs.size=h.objs.size:=PySem.W.hideAll_size _ _
theorem qtb {h:Heap}{H:Hp}{b:Addr}{o:Obj}(e:h.get? b=some o)(n:H b=none):(ql9 h H).get? b=some o :=
 PySem.W.hideAll_get _ e λhm=>by
  have q:(H b).isSome=true:=(List.mem_filter.mp hm).2
  rw[n]at q;simp at q
theorem qwb {h:Heap}{H:Hp}{b:Addr}{o:Obj}(e:(ql9 h H).get? b=some o):h.get? b=some o/\H b=none:=by
 have e':h.get? b=some o:=PySem.W.of_hideAll (trk h H) e
 refine⟨e',?_⟩
 cases q:H b with
 |none=>rfl
 |some x =>
  have hm:b∈trk h H:=List.mem_filter.mpr ⟨CV.mpr (Aw e'),by simp[q]⟩
  have z:(ql9 h H).get? b=none:=PySem.W.hideAll_none (trk h H) hm
  rw[z]at e;cases e
noncomputable def qwc (g h:Heap)(L:Addr):List (Addr×Obj):=(Bh h.objs.size).filterMap λa=>if a=L\/(g.get? a).isSome=true then none else (h.get? a).map λo=>(a,o)
noncomputable def qa9 (g h:Heap)(L d:Addr):List (Addr×Obj):=(qwc g h L).filter λp=>decide (p.1≠d)
end L2
namespace L2
open PySem PySem.Spec PyProof.Rows
structure Mod (K:Ae)(mg:Str->Option Value)(base:Heap):Prop where
 kin:K.In base
 glob:base.Ns A5 mg
 blt:∃mb,base.Ns builtinsNs mb/\∀x:Str,x ≠ "__name__" -> mb x=bootBuiltins x
 nolimit:base.NoLimit
structure Cx where
 prog:AF
 w:World
 K:Ae
 mg:Str->Option Value
 base:Heap
 A:AL
 N:List Str
 s₀:Af
 H₀:Hp
 env:Env
 outer:List Env
 stack:List Env
 ex:List Addr
 fn:Str->Bool
 calm:Bool
 pn:List (Addr×Obj)
 xe:Value->Af->Prop
noncomputable def frs (l:List Env):List Addr:=l.filterMap (·.frame)
noncomputable abbrev Cx.fs (X:Cx):List Addr:=frs X.outer
noncomputable def Vis (sc:Scope)(x:Str):Prop:=sc.names.lookup x=some .local\/sc.names.lookup x=some .cell\/sc.names.lookup x=some .free
noncomputable def Loc (sc:Scope)(x:Str):Prop:=sc.names.lookup x=some .local\/sc.names.lookup x=some .cell
noncomputable def Look (env:Env)(h:Heap)(m:Str->Option Value)(x:Str)(u:Value):Prop :=
 (env.kindOf x=some .local/\m x=some u)\/((env.kindOf x=some .cell\/env.kindOf x=some .free)/\∃c,env.cells.lookup x=some c/\h.IsCell c (some u))
structure Cx.Ok (X:Cx):Prop where
 mod:Mod X.K X.mg X.base
 kind:X.env.scope.kind=.function
 glob:X.env.globals=A5
 blt:X.env.builtins=builtinsNs
 above:X.s₀.heap.objs.size<=X.env.locals
 inj:∀x y c,X.env.cells.lookup x=some c->X.env.cells.lookup y=some c->x=y
 has:∀x,(X.env.kindOf x=some .cell\/X.env.kindOf x=some .free)->∃c,X.env.cells.lookup x=some c
 cab:∀x c,X.fn x=true->X.env.cells.lookup x=some c->X.s₀.heap.objs.size<=c
 hd:X.calm=true->X.A.handled=none
 frames:X.A.frames=some X.stack
 stk:X.stack=X.outer\/(X.stack=X.env::X.outer/\X.env.frame=some X.env.locals)
 exf:∀b∈X.ex,b≠X.env.locals/\∀x c,X.env.cells.lookup x=some c->c≠b
 bs:∀b o,X.base.get? b=some o->X.s₀.heap.get? b=some o/\X.H₀ b=none
 bsz:X.base.objs.size<=X.s₀.heap.objs.size
 noex:∀b o,X.base.get? b=some o->b∉X.ex
 exfs:∀b∈X.ex,b∉X.fs
 funs:X.s₀.heap.FunFrames X.base X.outer
 frf:∀b∈X.fs,X.H₀ b=none
structure Inv (X:Cx)(pins:List (Addr×Obj))(σ:List (Option V))(H:Hp)(s:Af):Prop where
 ok:X.Ok
 os:s.os=X.s₀.os
 bare:AllBare s.gens
 base:Un X.fs X.ex X.H₀ H X.s₀.heap s.heap
 loc:∃m,s.heap.Ns X.env.locals m/\∀(i:Nat)(x:Str)(v:V),X.N[i]?=some x->σ[i]?=some (some v)->Vis X.env.scope x->∃u,RelV v u/\Look X.env s.heap m x u
 cell:∀x c,X.env.cells.lookup x=some c->∃v,s.heap.IsCell c v
 free:H X.env.locals=none
 freeC:∀x c,X.env.cells.lookup x=some c->H c=none
 pin:∀p∈X.pn++pins,s.heap.get? p.1=some p.2/\H p.1=none/\p.1≠X.env.locals/\p.1∉X.fs/\∀v,p.2.data ≠ .cell v
 hok:HOk X.prog X.w H s.heap
 len:σ.length=X.N.length
section
variable {X:Cx}{pins:List (Addr×Obj)}{σ:List (Option V)}{H H':Hp}{s:Af}{h':Heap}
theorem Cx.Ok.nofr (ok:X.Ok){b:Addr}{o:Obj}(e:X.base.get? b=some o):b∉X.fs:=λhb=>by
 have:=(ok.funs.mem hb).1
 rw[e]at this;cases this
theorem Inv.bs (I:Inv X pins σ H s):∀b o,X.base.get? b=some o->s.heap.get? b=some o/\H b=none:=λb o e =>
 ⟨I.base.keep b o (I.ok.bs b o e).1 (I.ok.bs b o e).2 (I.ok.nofr e) (I.ok.noex b o e),I.base.free b o (I.ok.bs b o e).1 (I.ok.bs b o e).2 (I.ok.noex b o e)⟩
theorem Inv.bk (I:Inv X pins σ H s):∀b o,X.base.get? b=some o->s.heap.get? b=some o:=λb o e=>(I.bs b o e).1
theorem Inv.mod (I:Inv X pins σ H s):Mod X.K X.mg X.base:=I.ok.mod
theorem Inv.kIn (I:Inv X pins σ H s):X.K.In s.heap:=I.ok.mod.kin.keeps I.bk
theorem Inv.lt (I:Inv X pins σ H s):X.env.locals<s.heap.objs.size:=let ⟨_,hn,_⟩:=I.loc;hn.lt
theorem Inv.sz (I:Inv X pins σ H s):X.s₀.heap.objs.size<=s.heap.objs.size:=A3 I.ok.above (D0 I.lt)
theorem Inv.nofs (I:Inv X pins σ H s){a:Addr}(h:s.heap.objs.size<=a):a∉X.fs:=λhb=>by
 obtain⟨_,o,ho,_⟩:=I.ok.funs.mem hb
 exact absurd (A8 (Aw ho) (A3 I.sz h)) (B4 _)
theorem Inv.cne (I:Inv X pins σ H s):∀x c,X.env.cells.lookup x=some c->c≠X.env.locals:=λx c e z=>by
 obtain⟨v,o,ho,hd⟩:=I.cell x c e
 obtain⟨m,⟨o',es,ep,ho',hd',_⟩,_⟩:=I.loc
 rw[z,ho']at ho;cases ho;rw[hd']at hd;cases hd
theorem Inv.funs (I:Inv X pins σ H s):s.heap.FunFrames X.base X.outer:=by
 have all:∀(l:List Env),(∀b∈frs l,b∈X.fs)->X.s₀.heap.FunFrames X.base l->s.heap.FunFrames X.base l:=by
  intro l
  induction l with
  |nil=>intro _ _;trivial
  |cons env r ih =>
   intro hs hl
   obtain⟨hk,⟨L,o,hf,hn,ho,hd⟩,hr⟩:=hl
   have hL:L∈X.fs:=hs L (by unfold frs;rw[D9,hf];exact Am)
   obtain⟨sl,e⟩:=I.base.slot L o ho (I.ok.frf L hL) hL λz=>I.ok.exfs L z hL
   exact⟨hk,⟨L,_,hf,hn,e,hd⟩,ih (λb hb=>hs b (by unfold frs;rw[D9,hf];exact Aq _ hb)) hr⟩
 exact all X.outer (λ_ hb=>hb) I.ok.funs
theorem Inv.stack (I:Inv X pins σ H s):s.heap.FunFrames X.base X.stack:=by
 rcases I.ok.stk with e|⟨e,hf⟩
 .rw[e];exact I.funs
 .rw[e]
  obtain⟨m,hn,_⟩:=I.loc
  refine .cons (by rw[I.ok.kind];decide) hf hn ?_ I.funs
  exact Heap.get?_none_of_le (A3 I.ok.bsz I.ok.above)
theorem Inv.stkSub (I:Inv X pins σ H s):∀b∈frs X.stack,b∈X.env.locals::X.fs:=λb hb=>by
 rcases I.ok.stk with e|⟨e,hf⟩
 .rw[e]at hb;exact Aq _ hb
 .rw[e]at hb
  unfold frs at hb
  rw[D9,hf]at hb
  exact hb
theorem Inv.stkFree (I:Inv X pins σ H s):∀b∈frs X.stack,H b=none:=λb hb=>by
 rcases Ap.mp (I.stkSub b hb) with e|hb
 .rw[e];exact I.free
 .obtain⟨_,o,ho,_⟩:=I.ok.funs.mem hb
  exact I.base.free b o ho (I.ok.frf b hb) λz=>I.ok.exfs b z hb
theorem Inv.step {g':Array GenState}{t':Nat}{d':Drawn}{ch:List Addr}(I:Inv X pins σ H s)
  (hch:∀b∈ch,(b∈X.ex\/X.s₀.heap.objs.size<=b)/\b≠X.env.locals/\(∀x c,X.env.cells.lookup x=some c->c≠b)/\∀p∈X.pn++pins,p.1≠b)
  (keep:∀b o,b≠X.env.locals->b∉X.fs->b∉ch->s.heap.get? b=some o->H b=none->h'.get? b=some o)
  (slot:∀b o,b≠X.env.locals->b∈X.fs->b∉ch->s.heap.get? b=some o->H b=none->∃sl,h'.get? b=some { o with slots:=sl }) (free:∀b o,b∉ch->s.heap.get? b=some o->H b=none->H' b=none)
  (there:∀b o,b∉ch->s.heap.get? b=some o->∃o',h'.get? b=some o')
  (tups:∀b xs,H b=some (.tup xs)->H' b=some (.tup xs)) (frzs:∀b o u,H b=some (.frz o u)->H' b=some (.frz o u)) (tbls:∀b ps,H b=some (.tbl ps)->∃qcz,H' b=some (.tbl (ps++qcz)))
  (ns:∀m,s.heap.Ns X.env.locals m->h'.Ns X.env.locals m) (hok:HOk X.prog X.w H' h') (hg:AllBare g') :
  Inv X pins σ H' { s with heap:=h',gens:=g',drawn:=d',toks:=t' }:=by
 have neL:∀b o,X.s₀.heap.get? b=some o->b≠X.env.locals:=λb o e=>AD (A8 (Aw e) I.ok.above)
 have neC:∀b o,X.s₀.heap.get? b=some o->b∉X.ex->b∉ch:=λb o e hx hb=>by
  rcases (hch b hb).1 with z|z
  .exact hx z
  .exact absurd (A8 (Aw e) z) (B4 _)
 have cellK:∀x c,X.env.cells.lookup x=some c->∀v,s.heap.IsCell c v->h'.IsCell c v:=λx c e v ⟨o,ho,hd⟩=>by
  have nch:c∉ch:=λz=>(hch c z).2.2.1 x c e rfl
  by_cases hc:c∈X.fs
  .obtain⟨sl,q⟩:=slot c o (I.cne x c e) hc nch ho (I.freeC x c e)
   exact⟨_,q,hd⟩
  .exact⟨o,keep c o (I.cne x c e) hc nch ho (I.freeC x c e),hd⟩
 refine⟨I.ok,I.os,hg,⟨λb o e n hb hx=>?_,λb o e n hb hx=>?_,λb o e n hx=>?_,λb o e hx=>?_,λb xs e=>tups b xs (I.base.tups b xs e),λb o xs e=>frzs b o xs (I.base.frzs b o xs e),λb ps e=>?_⟩,?_,λx c e=>?_,?_,λx c e=>?_,λp hp=>?_,hok,I.len⟩
 .exact keep b o (neL b o e) hb (neC b o e hx) (I.base.keep b o e n hb hx) (I.base.free b o e n hx)
 .obtain⟨sl,e1⟩:=I.base.slot b o e n hb hx
  obtain⟨sl',e2⟩:=slot b _ (neL b o e) hb (neC b o e hx) e1 (I.base.free b o e n hx)
  exact⟨sl',e2⟩
 .obtain⟨o',e1⟩:=I.base.there b o e hx
  exact free b o' (neC b o e hx) e1 (I.base.free b o e n hx)
 .obtain⟨o',e1⟩:=I.base.there b o e hx
  exact there b o' (neC b o e hx) e1
 .obtain⟨m1,e1⟩:=I.base.tbls b ps e
  obtain⟨m2,e2⟩:=tbls b _ e1
  exact⟨m1++m2,by rw[e2,Array.append_assoc]⟩
 .obtain⟨m,hn,hl⟩:=I.loc
  refine⟨m,ns m hn,λi x v e1 e2 e3=>?_⟩
  obtain⟨u,r,l⟩:=hl i x v e1 e2 e3
  refine⟨u,r,?_⟩
  rcases l with l|⟨k,c,e,z⟩
  .exact .inl l
  .exact .inr ⟨k,c,e,cellK x c e _ z⟩
 .obtain⟨v,z⟩:=I.cell x c e
  exact⟨v,cellK x c e v z⟩
 .obtain⟨m,⟨o,_,_,ho,_⟩,_⟩:=I.loc
  exact free _ o (λz=>(hch _ z).2.1 rfl) ho I.free
 .obtain⟨v,o,ho,hd⟩:=I.cell x c e
  exact free c o (λz=>(hch c z).2.2.1 x c e rfl) ho (I.freeC x c e)
 .obtain⟨e,n,ne,nf,d⟩:=I.pin p hp
  have nch:p.1∉ch:=λz=>(hch p.1 z).2.2.2 p hp rfl
  exact⟨keep p.1 p.2 ne nf nch e n,free p.1 p.2 nch e n,ne,nf,d⟩
theorem Inv.un {t':Nat}(I:Inv X pins σ H s)(u:Un X.fs [] H H' s.heap h')(hok:HOk X.prog X.w H' h'):Inv X pins σ H' { s with heap:=h',toks:=t' }:=by
 obtain⟨m,⟨o,es,ep,ho,r⟩,_⟩:=id I.loc
 obtain⟨sl,hL⟩:=u.any ho I.free (by simp)
 exact I.step (g':=s.gens) (d':=s.drawn) (ch:=[]) (λ_ z=>nomatch z) (λb o _ hb _ e n=>u.keep b o e n hb (by simp)) (λb o _ hb _ e n=>u.slot b o e n hb (by simp)) (λb o _ e n=>u.free b o e n (by simp)) (λb o _ e=>u.there b o e (by simp)) u.tups u.frzs u.tbls (λm' hm=>by
  obtain⟨o',es',ep',ho',r'⟩:=hm
  rw[ho]at ho';cases ho'
  exact⟨_,es',ep',hL,r'⟩) hok I.bare
theorem Inv.call {g':Array GenState}{t':Nat}{d':Drawn}{ch:List Addr}(I:Inv X pins σ H s)(u:Un (frs X.stack) ch H H' s.heap h')(hok:HOk X.prog X.w H' h')(hg:AllBare g')
  (hch:∀b∈ch,(b∈X.ex\/X.s₀.heap.objs.size<=b)/\b≠X.env.locals/\(∀x c,X.env.cells.lookup x=some c->c≠b)/\∀p∈X.pn++pins,p.1≠b) :
  Inv X pins σ H' { s with heap:=h',gens:=g',drawn:=d',toks:=t' }:=by
 obtain⟨m,⟨o,es,ep,ho,r⟩,_⟩:=id I.loc
 obtain⟨sl,hL⟩:=u.any ho I.free λz=>(hch _ z).2.1 rfl
 exact I.step (ch:=ch) hch (λb o hL hb hc e n=>u.keep b o e n (λz=>(Ap.mp (I.stkSub b z)).elim hL hb) hc) (λb o _ _ hc e n=>u.any e n hc) (λb o hc e n=>u.free b o e n hc) (λb o hc e=>u.there b o e hc) u.tups u.frzs u.tbls (λm' hm=>by
  obtain⟨o',es',ep',ho',r'⟩:=hm
  rw[ho]at ho';cases ho'
  exact⟨_,es',ep',hL,r'⟩) hok hg
theorem Inv.turned {t':Nat}{it:Addr}(I:Inv X pins σ H s)(k:∀b o,b≠it->s.heap.get? b=some o->h'.get? b=some o)(hn:H it=none)(hL:it≠X.env.locals)
  (h1:it∈X.ex\/X.s₀.heap.objs.size<=it) (h2:∀x c,X.env.cells.lookup x=some c->c≠it) (h3:∀p∈X.pn++pins,p.1≠it):Inv X pins σ H { s with heap:=h',toks:=t' }:=by
 have nit:∀b u,H b=some u->b≠it:=λb u e z=>by rw[z,hn]at e;cases e
 refine I.step (g':=s.gens) (d':=s.drawn) (ch:=[it]) (λb hb=>?_) (λb o _ _ hc e _=>k b o (λz=>hc (by simp[z])) e) (λb o _ _ hc e _=>⟨o.slots,k b o (λz=>hc (by simp[z])) e⟩) (λ_ _ _ _ n=>n)
  (λb o hc e=>⟨o,k b o (λz=>hc (by simp[z])) e⟩) (λ_ _ e=>e) (λ_ _ _ e=>e) (λb ps e=>⟨#[],by rw[e];simp⟩) (λm hm=>?_) (λb u e=>?_) I.bare
 .have e:b=it:=by simpa using hb
  subst e
  exact⟨h1,hL,h2,h3⟩
 .obtain⟨o,es,ep,ho,r⟩:=hm
  exact⟨o,es,ep,k _ o (AZ hL) ho,r⟩
 .refine(I.hok b u e).stay (λc v hc q=>k c v ?_ q) (λ_ q=>q) λ_ _ q=>q
  rcases hc with z|z
  .rw[z];exact nit b u e
  .exact nit c _ z
theorem Inv.tok (I:Inv X pins σ H s)(t:Nat):Inv X pins σ H { s with toks:=t }:=I.un (h':=s.heap) (t':=t) Un.refl I.hok
theorem Inv.kept {t':Nat}(I:Inv X pins σ H s)(k:∀b u,s.heap.get? b=some u->h'.get? b=some u):Inv X pins σ H { s with heap:=h',toks:=t' }:=I.un (Un.kept k) (I.hok.kept k)
theorem Inv.laid {a:Addr}{o:HO}{t':Nat}(I:Inv X pins σ H s)(k:∀b u,s.heap.get? b=some u->h'.get? b=some u)(hp:s.heap.objs.size<=a)(new:ObjOk X.prog X.w (upd H a o) h' a o) :
  Inv X pins σ (upd H a o) { s with heap:=h',toks:=t' }:=I.un (Un.laid k hp (I.hok.fresh hp)) (I.hok.laid k hp new)
theorem Inv.write {x e:Addr}{o:HO}{t':Nat}(I:Inv X pins σ H s)(mu:Mut (H x))(he:e=x\/H e=some (.own x))(k:∀b u,b≠e->s.heap.get? b=some u->h'.get? b=some u)(heo:∃u,h'.get? e=some u)
  (new:ObjOk X.prog X.w (upd H x o) h' x o):Inv X pins σ (upd H x o) { s with heap:=h',toks:=t' }:=I.un (Un.write mu he k heo) (I.hok.write mu he k heo new)
theorem Inv.pins_of {pins':List (Addr×Obj)}(I:Inv X pins σ H s)(h:∀p∈pins',s.heap.get? p.1=some p.2/\H p.1=none/\p.1≠X.env.locals/\p.1∉X.fs/\∀v,p.2.data ≠ .cell v):Inv X pins' σ H s :=
 ⟨I.ok,I.os,I.bare,I.base,I.loc,I.cell,I.free,I.freeC,λp hp=>(AH.mp hp).elim (λz=>I.pin p (Cj _ z)) (h p),I.hok,I.len⟩
theorem qjs {N:List Str}(hN:N.Nodup){i j:Nat}{x:Str}(a:N[i]?=some x)(b:N[j]?=some x):i=j:=by
 obtain⟨h1,e1⟩:=Ag.mp a
 obtain⟨h2,e2⟩:=Ag.mp b
 exact(List.getElem_inj hN).mp (e1.trans e2.symm)
theorem qq8 {M:Model}{A:AL}{E:Value->Af->Prop}{i:Nat}{x:Str}{v:V}{u:Value}{Q:Unit->Af->Prop}(I:Inv X pins σ H s)(hN:X.N.Nodup)(hi:X.N[i]?=some x)(hx:Loc X.env.scope x)(r:RelV v u)
  (h:∀s',Inv X pins (σ.set i (some v)) H s'->(∃a,Bc a s.heap s'.heap/\(a=X.env.locals\/X.env.cells.lookup x=some a))->Q () s') (hf:X.fn x=true\/X.env.scope.names.lookup x=some .local:=by first|exact .inl rfl|exact .inr rfl|assumption):wpAny M A (storeName X.env x u) Q E s:=by
 obtain⟨m,hn,hl⟩:=id I.loc
 have hcls:(X.env.scope.kind == .class || (X.env.scope.kind == .module && X.env.locals != X.env.globals))=false:=by rw[I.ok.kind];rfl
 have hiσ:i<σ.length:=by rw[I.len];exact(Ag.mp hi).1
 have cne:=I.cne
 have tracked:∀{a:Addr}{h':Heap},(∃o,s.heap.get? a=some o/\H a=none)->Bc a s.heap h'->HOk X.prog X.w H h':=λ{a h'} ha hs b ob e=>by
  obtain⟨_,_,hfree⟩:=ha
  refine(I.hok b ob e).stay (λc w' hc q=>(hs.2 c ?_).trans q) (λ_ q=>q) λ_ _ q=>q
  rintro rfl
  rcases hc with rfl|hc
  .rw[hfree]at e;cases e
  .rw[hfree]at hc;cases hc
 rcases hx with hk|hk
 .refine wpAny_storeName_local hk hn (λh' hn' hs=>?_) hcls
  obtain⟨oL,_,_,hoL,_⟩:=id hn
  refine h _ ⟨I.ok,I.os,I.bare,⟨λb o e n hb hx=>?_,λb o e n hb hx=>?_,I.base.free,λb o e hx=>?_,I.base.tups,I.base.frzs,I.base.tbls⟩,⟨_,hn',λj y v' e1 e2 e3=>?_⟩,λy c e=>?_,I.free,I.freeC,λp hp=>?_,tracked ⟨oL,hoL,I.free⟩ hs,by simpa using I.len⟩ ⟨_,hs,.inl rfl⟩
  .exact(hs.2 b (AD (A8 (Aw e) I.ok.above))).trans (I.base.keep b o e n hb hx)
  .obtain⟨sl,e1⟩:=I.base.slot b o e n hb hx
   exact⟨sl,(hs.2 b (AD (A8 (Aw e) I.ok.above))).trans e1⟩
  .obtain⟨o',e1⟩:=I.base.there b o e hx
   exact⟨o',(hs.2 b (AD (A8 (Aw e) I.ok.above))).trans e1⟩
  .by_cases hj:j=i
   .subst hj
    rw[hi]at e1;cases e1
    rw[BA hiσ]at e2
    cases e2
    exact⟨u,r,.inl ⟨hk,by simp⟩⟩
   .rw[List.getElem?_set_ne (AZ hj)]at e2
    obtain⟨u',r',q⟩:=hl j y v' e1 e2 e3
    refine⟨u',r',?_⟩
    rcases q with ⟨k,e⟩|⟨k,c,e,z⟩
    .refine .inl ⟨k,?_⟩
     have:y≠x:=λe=>hj (qjs hN e1 (e ▸ hi))
     simp[this,e]
    .exact .inr ⟨k,c,e,z.sameBut hs (cne y c e)⟩
  .obtain⟨w',z⟩:=I.cell y c e
   exact⟨w',z.sameBut hs (cne y c e)⟩
  .obtain⟨e,n,ne,nf,d⟩:=I.pin p hp
   exact⟨(hs.2 p.1 ne).trans e,n,ne,nf,d⟩
 .have hfn:X.fn x=true:=by
   rcases hf with z|z
   .exact z
   .rw[z]at hk;cases hk
  obtain⟨c,hc⟩:=I.ok.has x (.inl hk)
  obtain⟨w',z⟩:=I.cell x c hc
  refine wpAny_storeName_cell I.ok.kind hk hc z (λh' hc' hs=>?_)
  obtain⟨oc,hoc,hocd⟩:=id z
  refine h { s with heap:=h' } ⟨I.ok,I.os,I.bare,⟨λb o e n hb hx=>?_,λb o e n hb hx=>?_,I.base.free,λb o e hx=>?_,I.base.tups,I.base.frzs,I.base.tbls⟩,⟨m,hn.sameBut hs (AZ (cne x c hc)),λj y v' e1 e2 e3=>?_⟩,λy c' e=>?_,I.free,I.freeC,λp hp=>?_,tracked ⟨oc,hoc,I.freeC x c hc⟩ hs,by simpa using I.len⟩ ⟨c,hs,.inr hc⟩
  .exact(hs.2 b (AD (A8 (Aw e) (I.ok.cab x c hfn hc)))).trans (I.base.keep b o e n hb hx)
  .obtain⟨sl,e1⟩:=I.base.slot b o e n hb hx
   exact⟨sl,(hs.2 b (AD (A8 (Aw e) (I.ok.cab x c hfn hc)))).trans e1⟩
  .obtain⟨o',e1⟩:=I.base.there b o e hx
   exact⟨o',(hs.2 b (AD (A8 (Aw e) (I.ok.cab x c hfn hc)))).trans e1⟩
  .by_cases hj:j=i
   .subst hj
    rw[hi]at e1;cases e1
    rw[BA hiσ]at e2
    cases e2
    exact⟨u,r,.inr ⟨.inl hk,c,hc,hc'⟩⟩
   .rw[List.getElem?_set_ne (AZ hj)]at e2
    obtain⟨u',r',q⟩:=hl j y v' e1 e2 e3
    refine⟨u',r',?_⟩
    rcases q with q|⟨k,c',e,z'⟩
    .exact .inl q
    .refine .inr ⟨k,c',e,z'.sameBut hs ?_⟩
     rintro rfl
     exact hj (qjs hN e1 (I.ok.inj _ _ _ e hc ▸ hi))
  .by_cases hcc:c'=c
   .subst hcc;exact⟨_,hc'⟩
   .obtain⟨w2,z2⟩:=I.cell y c' e
    exact⟨w2,z2.sameBut hs hcc⟩
  .obtain⟨e,n,ne,nf,d⟩:=I.pin p hp
   refine⟨(hs.2 p.1 ?_).trans e,n,ne,nf,d⟩
   intro q
   rw[q,hoc]at e
   have q':oc=p.2:=A7 e
   exact d w' (by rw[<- q'];exact hocd)
theorem qha {M:Model}{A:AL}{E:Value->Af->Prop}{i:Nat}{x:Str}{v:V}{u:Value}{Q:Unit->Af->Prop}(I:Inv X pins σ H s)(hN:X.N.Nodup)(hi:X.N[i]?=some x)(hx:Loc X.env.scope x)(r:RelV v u)
  (h:∀s',Inv X pins (σ.set i (some v)) H s'->Q () s') (hf:X.fn x=true\/X.env.scope.names.lookup x=some .local:=by first|exact .inl rfl|exact .inr rfl|assumption):wpAny M A (storeName X.env x u) Q E s :=
 qq8 I hN hi hx r (λs' I' _=>h s' I') hf
theorem Inv.call' {s':Af}{ch:List Addr}(I:Inv X pins σ H s)(ho:s'.os=s.os)(u:Un (frs X.stack) ch H H' s.heap s'.heap)(hok:HOk X.prog X.w H' s'.heap)(hg:AllBare s'.gens)
  (hch:∀b∈ch,(b∈X.ex\/X.s₀.heap.objs.size<=b)/\b≠X.env.locals/\(∀x c,X.env.cells.lookup x=some c->c≠b)/\∀p∈X.pn++pins,p.1≠b):Inv X pins σ H' s':=by
 obtain⟨h',g',d',t',o'⟩:=s'
 have e:o'=s.os:=ho
 subst e
 exact I.call (g':=g') (t':=t') (d':=d') u hok hg hch
end
noncomputable abbrev XK:=Value->Option Addr->Hp->Prop
noncomputable abbrev St:=List (Option V)
noncomputable abbrev VK:=V->Hp->Prop
noncomputable abbrev TE:=St->Hp->VK->Prop
noncomputable abbrev TT:=St->Hp->(Bool->Hp->Prop)->Prop
noncomputable abbrev TA:=St->Hp->(List V->Hp->Prop)->Prop
structure Ends where
 nx:St->Hp->Prop
 rt:VK
 bk:St->Hp->Prop:=λ_ _=>False
 ct:St->Hp->Prop:=λ_ _=>False
noncomputable abbrev TS:=Ends->St->Hp->Prop
noncomputable def EP (X:Cx)(pins:List (Addr×Obj))(σ:St)(Q:VK)(u:Value)(s':Af):Prop:=∃v H',Inv X pins σ H' s'/\RelV v u/\Q v H'
noncomputable def TP (X:Cx)(pins:List (Addr×Obj))(σ:St)(Q:Bool->Hp->Prop)(b:Bool)(s':Af):Prop:=∃H',Inv X pins σ H' s'/\Q b H'
noncomputable def AP (X:Cx)(pins:List (Addr×Obj))(σ:St)(Q:List V->Hp->Prop)(us:List Value)(s':Af):Prop:=∃vs H',Inv X pins σ H' s'/\Vals vs us/\Q vs H'
noncomputable def SP (X:Cx)(pins:List (Addr×Obj))(D:Ends)(f:Flow)(s':Af):Prop :=
 match f with
 |.next=>∃σ' H',Inv X pins σ' H' s'/\D.nx σ' H'
 |.brk=>∃σ' H',Inv X pins σ' H' s'/\D.bk σ' H'
 |.cont=>∃σ' H',Inv X pins σ' H' s'/\D.ct σ' H'
 |.ret u=>∃v σ' H',Inv X pins σ' H' s'/\RelV v u/\D.rt v H'
noncomputable def PE (X:Cx)(e:Expr)(t:TE):Prop :=
 ∀(pins:List (Addr×Obj))(s:Af)(σ:St)(H:Hp)(Q:VK),Inv X pins σ H s->t σ H Q->wpAny (model X.prog X.w) X.A (eval e X.env) (EP X pins σ Q) X.xe s
noncomputable def PT (X:Cx)(e:Expr)(t:TT):Prop :=
 ∀(pins:List (Addr×Obj))(s:Af)(σ:St)(H:Hp)(Q:Bool->Hp->Prop),Inv X pins σ H s->t σ H Q->wpAny (model X.prog X.w) X.A (isTrue e X.env (eval e X.env)) (TP X pins σ Q) X.xe s
noncomputable def PW (X:Cx)(e:Expr)(t:TT):Prop :=
 ∀(whole:Sem Value)(pins:List (Addr×Obj))(s:Af)(σ:St)(H:Hp)(Q:Bool->Hp->Prop),Inv X pins σ H s->t σ H Q->wpAny (model X.prog X.w) X.A (isTrue e X.env whole) (TP X pins σ Q) X.xe s
theorem PW.pt {X:Cx}{e:Expr}{t:TT}(h:PW X e t):PT X e t:=h _
noncomputable def PA (X:Cx)(es:List Expr)(t:TA):Prop :=
 ∀(pos:Pos)(pins:List (Addr×Obj))(s:Af)(σ:St)(H:Hp)(Q:List V->Hp->Prop),Inv X pins σ H s->t σ H Q->wpAny (model X.prog X.w) X.A (spliced (backTo pos (starEach es X.env))) (AP X pins σ Q) X.xe s
noncomputable def PS (X:Cx)(st:Stmt)(t:TS):Prop :=
 ∀(pins:List (Addr×Obj))(s:Af)(σ:St)(H:Hp)(D:Ends),Inv X pins σ H s->t D σ H->wpAny (model X.prog X.w) X.A (exec st X.env) (SP X pins D) X.xe s
noncomputable def PSs (X:Cx)(st:List Stmt)(t:TS):Prop :=
 ∀(pins:List (Addr×Obj))(s:Af)(σ:St)(H:Hp)(D:Ends),Inv X pins σ H s->t D σ H->wpAny (model X.prog X.w) X.A (execs st X.env) (SP X pins D) X.xe s
theorem thn {α:Type}{t:Sem α}{Q Q':α->Af->Prop}{M:Model}{A:AL}{E:Value->Af->Prop}{s:Af}(h:wpAny M A t Q E s)(hQ:∀a s,Q a s->Q' a s):wpAny M A t Q' E s:=BY h hQ λ_ _ x=>x
end L2
namespace L2
open PySem PySem.Spec PyProof.Rows
section
variable {X:Cx}
noncomputable def tVar (i:Nat):TE:=λσ H Q=>∃v,σ[i]?=some (some v)/\Q v H
noncomputable def tC (v:V):TE:=λ_ H Q=>Q v H
theorem qy3 {i:Nat}{x:Str}{pos:Pos}(hN:X.N[i]?=some x)(hv:Vis X.env.scope x)(hd:(x == ("__debug__" : Str))=false:=by decide)(hcd:(x == ("__classdict__" : Str))=false:=by decide):PE X (.Name x pos) (tVar i):=by
 intro pins s σ H Q I h
 obtain⟨v,e,h⟩:=h
 obtain⟨m,hn,hl⟩:=I.loc
 obtain⟨u,r,l⟩:=hl i x v hN e hv
 have fin:EP X pins σ Q u s:=⟨v,H,I,r,h⟩
 rcases l with ⟨hk,hm⟩|⟨hk,c,hc,hcell⟩
 .exact wpAny_Name (wpAny_loadName_local I.ok.kind hk hn hm fin) hd
 .rcases hk with hk|hk
  .exact wpAny_Name (wpAny_loadName_cell I.ok.kind hk hc hcell fin) hd
  .exact wpAny_Name (wpAny_loadName_free I.ok.kind hk hc hcell fin hcd) hd
theorem qp {i j pos}:PE X (.Constant (.int i) j pos) (tC (.int i)):=λ_ _ _ H _ I h=>wpAny_Constant_int ⟨.int i,H,I.tok _,⟨_,rfl⟩,h⟩
theorem qc0 {b j pos}:PE X (.Constant (.bool b) j pos) (tC (.bl b)):=λ_ _ _ H _ I h=>Constant_bool ⟨.bl b,H,I,rfl,h⟩
theorem qay {j pos}:PE X (.Constant .none j pos) (tC .non):=λ_ _ _ H _ I h=>Constant_none ⟨.non,H,I,rfl,h⟩
theorem zp {x j pos}:PE X (.Constant (.str x) j pos) (tC (.str x)):=λ_ _ _ H _ I h=>Calls.Constant_str ⟨.str x,H,I.tok _,⟨_,rfl⟩,h⟩
noncomputable def Gl (X:Cx)(x:Str):Prop:=X.env.kindOf x=some .globalImplicit
theorem qeo {E:Value->Af->Prop}{pins:List (Addr×Obj)}{s:Af}{σ:St}{H:Hp}{x:Str}{u:Value}{pos:Pos}{Q:Value->Af->Prop}(I:Inv X pins σ H s)(hg:Gl X x)(hm:X.mg x=some u)(h:Q u s)
  (hd:(x == ("__debug__" : Str))=false:=by decide):wpAny (model X.prog X.w) X.A (eval (.Name x pos) X.env) Q E s :=
 Calls.Name_function_global I.ok.kind hg (Calls.loadGlobal_global (by rw[I.ok.glob];exact I.mod.glob.keeps I.bk) hm h) hd
theorem qee {E:Value->Af->Prop}{pins:List (Addr×Obj)}{s:Af}{σ:St}{H:Hp}{x:Str}{u:Value}{pos:Pos}{Q:Value->Af->Prop}(I:Inv X pins σ H s)(hg:Gl X x)(hm:X.mg x=none)(hv:bootBuiltins x=some u)(h:Q u s)
  (hn:x ≠ "__name__" := by decide) (hd:(x == ("__debug__" : Str))=false:=by decide):wpAny (model X.prog X.w) X.A (eval (.Name x pos) X.env) Q E s:=by
 obtain⟨mb,h1,h2⟩:=I.mod.blt
 exact Calls.Name_function_global I.ok.kind hg (Calls.loadGlobal_builtin (by rw[I.ok.glob];exact I.mod.glob.keeps I.bk) hm (by rw[I.ok.blt];exact h1.keeps I.bk) ((h2 x hn).trans hv) h) hd
theorem qep {x:Str}{v:V}{u:Value}{pos:Pos}(hg:Gl X x)(hm:X.mg x=some u)(r:RelV v u)(hd:(x == ("__debug__" : Str))=false:=by decide):PE X (.Name x pos) (tC v) :=
 λ_ _ _ H _ I h=>qeo I hg hm ⟨v,H,I,r,h⟩ hd
theorem qc5 {x:Str}{v:V}{u:Value}{pos:Pos}(hg:Gl X x)(hm:X.mg x=none)(hv:bootBuiltins x=some u)(r:RelV v u)(hn:x ≠ "__name__" := by decide)(hd:(x == ("__debug__" : Str))=false:=by decide):PE X (.Name x pos) (tC v) :=
 λ_ _ _ H _ I h=>qee I hg hm hv ⟨v,H,I,r,h⟩ hn hd
variable {a b:Expr}{ta tb:TE}{pos:Pos}
noncomputable def PC (X:Cx)(op:CmpOp)(a b:Expr)(t:TE):Prop :=
 ∀(pins:List (Addr×Obj))(s:Af)(σ:St)(H:Hp)(Q:VK),Inv X pins σ H s->t σ H Q ->
  wpAny (model X.prog X.w) X.A (eval a X.env) (λv s₁=>wpAny (model X.prog X.w) X.A (eval b X.env) (λu s₂=>wpAny (model X.prog X.w) X.A (compareOp op v u) (EP X pins σ Q) X.xe s₂) X.xe s₁) X.xe s
noncomputable def tB (t:TE):TT:=λσ H Q=>t σ H λx H1=>∃c,x=.bl c/\Q c H1
theorem qjt {op:CmpOp}{t:TE}(h:PC X op a b t)(h1:behindInMarks op b=false:=by first|exact nobehind _ En En|rfl):PT X (.Compare a [op] [b] pos) (tB t):=by
 intro pins s σ H Q I hw
 refine wpAny_isTrue_Compare1 (thn (h pins s σ H _ I hw) λv s1 h1=>thn h1 λu s2 h2=>thn h2 λc s3 hh9=>?_) h1
 obtain⟨x,H1,I1,r1,q1⟩:=hh9
 obtain⟨d,rfl,q⟩:=q1
 cases r1
 exact BG ⟨H1,I1,q⟩
theorem zo {e:Expr}{t:TE}(h:PE X e t)(he:∀whole,isTrue e X.env whole=(do let v <- whole;standAt e.pos;holding [v] (truthy v)):=by intro _;rfl):PT X e (tB t):=by
 intro pins s σ H Q I hw
 refine isTrue_plain (thn (h pins s σ H _ I hw) λv s1 hh9=>?_) (he _)
 obtain⟨x,H1,I1,r1,q1⟩:=hh9
 obtain⟨d,rfl,q⟩:=q1
 cases r1
 exact BG ⟨H1,I1,q⟩
variable {tA tB':TT}{qa9:List Expr}
noncomputable def tAnd (t u:TT):TT:=λσ H Q=>t σ H λc H1=>if c=true then u σ H1 Q else Q false H1
noncomputable def tOr (t u:TT):TT:=λσ H Q=>t σ H λc H1=>if c=true then Q true H1 else u σ H1 Q
noncomputable def tNot (t:TT):TT:=λσ H Q=>t σ H λc H1=>Q (!c) H1
theorem qd5 (ha:PT X a tA):PW X (.BoolOp .And [a] pos) tA:=by
 intro wh pins s σ H Q I h
 refine isTrue_and (thn (ha pins s σ H Q I h) λc s1 e=>?_)
 cases c with
 |true=>exact isTrue_and_nil e
 |false=>exact e
theorem qc9 (ha:PT X a tA):PW X (.BoolOp .Or [a] pos) tA:=by
 intro wh pins s σ H Q I h
 refine isTrue_or (thn (ha pins s σ H Q I h) λc s1 e=>?_)
 cases c with
 |false=>exact isTrue_or_nil e
 |true=>exact e
theorem qd1 (ha:PT X a tA)(hb:PW X (.BoolOp .And (b::qa9) pos) tB'):PW X (.BoolOp .And (a::b::qa9) pos) (tAnd tA tB'):=by
 intro wh pins s σ H Q I h
 refine isTrue_and (thn (ha pins s σ H _ I h) λc s1 hh9=>?_)
 obtain⟨H1,I1,q1⟩:=hh9
 cases c with
 |true=>exact hb wh pins s1 σ H1 Q I1 q1
 |false=>exact⟨H1,I1,q1⟩
theorem qd3 (ha:PT X a tA)(hb:PW X (.BoolOp .Or (b::qa9) pos) tB'):PW X (.BoolOp .Or (a::b::qa9) pos) (tOr tA tB'):=by
 intro wh pins s σ H Q I h
 refine isTrue_or (thn (ha pins s σ H _ I h) λc s1 hh9=>?_)
 obtain⟨H1,I1,q1⟩:=hh9
 cases c with
 |true=>exact⟨H1,I1,q1⟩
 |false=>exact hb wh pins s1 σ H1 Q I1 q1
theorem qbm (ha:PT X a tA):PT X (.UnaryOp .Not a pos) (tNot tA):=by
 intro pins s σ H Q I h
 exact isTrue_not (ha pins s σ H (λc H1=>Q (!c) H1) I h)
noncomputable def tAndV (ta tb:TE):TE:=λσ H Q=>ta σ H λx H1=>∃c,x=.bl c/\if c=true then tb σ H1 Q else Q (.bl false) H1
noncomputable def tOrV (ta tb:TE):TE:=λσ H Q=>ta σ H λx H1=>∃c,x=.bl c/\if c=true then Q (.bl true) H1 else tb σ H1 Q
noncomputable def tNotV (ta:TE):TE:=λσ H Q=>ta σ H λx H1=>∃c,x=.bl c/\Q (.bl (!c)) H1
theorem qma {op}{t:TE}(h:PE X a t):PE X (.BoolOp op [a] pos) t:=λpins s σ H Q I hw=>BoolOp_one (h pins s σ H Q I hw)
theorem qtc (ha:PE X a ta)(hb:PE X (.BoolOp .And (b::qa9) pos) tb):PE X (.BoolOp .And (a::b::qa9) pos) (tAndV ta tb):=by
 intro pins s σ H Q I h
 refine BoolOp_and (thn (ha pins s σ H _ I h) λv s1 hh9=>?_)
 obtain⟨x,H1,I1,r1,q1⟩:=hh9
 obtain⟨c,rfl,q1⟩:=q1
 cases r1
 refine BG ?_
 cases c with
 |true=>exact hb pins s1 σ H1 Q I1 q1
 |false=>exact⟨.bl false,H1,I1,rfl,q1⟩
theorem qym (ha:PE X a ta)(hb:PE X (.BoolOp .Or (b::qa9) pos) tb):PE X (.BoolOp .Or (a::b::qa9) pos) (tOrV ta tb):=by
 intro pins s σ H Q I h
 refine BoolOp_or (thn (ha pins s σ H _ I h) λv s1 hh9=>?_)
 obtain⟨x,H1,I1,r1,q1⟩:=hh9
 obtain⟨c,rfl,q1⟩:=q1
 cases r1
 refine BG ?_
 cases c with
 |false=>exact hb pins s1 σ H1 Q I1 q1
 |true=>exact⟨.bl true,H1,I1,rfl,q1⟩
theorem qtd (ha:PE X a ta):PE X (.UnaryOp .Not a pos) (tNotV ta):=by
 intro pins s σ H Q I h
 refine UnaryOp_ (thn (ha pins s σ H _ I h) λv s1 hh9=>?_)
 obtain⟨x,H1,I1,r1,q1⟩:=hh9
 obtain⟨c,rfl,q1⟩:=q1
 cases r1
 exact not_of (BG ⟨.bl (!c),H1,I1,rfl,q1⟩)
noncomputable def tIf (t:TT)(ta tb:TE):TE:=λσ H Q=>t σ H λc H1=>if c=true then ta σ H1 Q else tb σ H1 Q
theorem qdg {c:Expr}(hc:PT X c tA)(ha:PE X a ta)(hb:PE X b tb):PE X (.IfExp c a b pos) (tIf tA ta tb):=by
 intro pins s σ H Q I h
 refine wpAny_IfExp (thn (hc pins s σ H _ I h) λd s1 hh9=>?_)
 obtain⟨H1,I1,q1⟩:=hh9
 cases d with
 |true=>exact ha pins s1 σ H1 Q I1 q1
 |false=>exact hb pins s1 σ H1 Q I1 q1
end
end L2
namespace L2
open PySem PySem.Spec PyProof.Rows
noncomputable def SqL (K:Ae)(H:Hp)(a:Addr)(xs:List V):Prop :=
 Rd H a (.lst xs) \/
  ∃(o:Obj)(its:Array Value)(n:Nat),K.lookup a=some o/\o.cls=.type "list" /\ o.dict=none/\o.data=.seq its n/\its.size<=A0/\Vals xs its.toList
noncomputable def SqT (K:Ae)(H:Hp)(a:Addr)(xs:List V):Prop :=
 Rd H a (.tup xs) \/
  ∃(o:Obj)(its:Array Value)(n:Nat),K.lookup a=some o/\o.cls=.type "tuple" /\ o.data=.seq its n/\its.size<=A0/\Vals xs its.toList
noncomputable def absV:Value->Option V
 |.none=>some .non
 |.bool b=>some (.bl b)
 |.int i _=>some (.int i)
 |.str x _=>some (.str x)
 |.bytes b _=>some (.byt b)
 |.float b _=>some (.flt b)
 |.ref a=>some (.ref a)
 |.type n=>some (.ty n)
 |_=>none
theorem RelV.abs {x:V}{u:Value}(r:RelV x u):absV u=some x:=by
 cases x with
 |non=>cases r;rfl
 |bl _=>cases r;rfl
 |int _=>obtain⟨t,rfl⟩:=r;rfl
 |str _=>obtain⟨t,rfl⟩:=r;rfl
 |byt _=>obtain⟨t,rfl⟩:=r;rfl
 |flt _=>obtain⟨t,rfl⟩:=r;rfl
 |ref _=>cases r;rfl
 |ty _=>cases r;rfl
theorem RelV.inj {x y:V}{u:Value}(r:RelV x u)(q:RelV y u):x=y:=A7 (r.abs.symm.trans q.abs)
theorem Vals.inj:∀{xs ys:List V}{us:List Value},Vals xs us->Vals ys us->xs=ys
 |_,_,_,.nil,.nil=>rfl
 |_,_,_,.cons r t,.cons r' t'=>by rw[r.inj r',Vals.inj t t']
section
variable {X:Cx}{pins:List (Addr×Obj)}{σ:St}{H:Hp}{s:Af}{a:Addr}{xs ys:List V}
theorem SqL.of {K:Ae}(h:H a=some (.lst xs)):SqL K H a xs:=.inl (.inl h)
theorem SqT.of {K:Ae}(h:H a=some (.tup xs)):SqT K H a xs:=.inl (.inl h)
theorem Inv.list (I:Inv X pins σ H s)(h:SqL X.K H a xs):∃its:List Value,Vals xs its/\PlainL s.heap a its.toArray/\xs.length<=A0:=by
 rcases h with h|⟨o,its,n,hk,hc,hd,hs,hz,r⟩
 .obtain⟨z,its,n,r,e⟩:=h.ok I.hok
  exact⟨its,r,⟨_,n,e,rfl,rfl,rfl⟩,z⟩
 .refine⟨its.toList,r,⟨o,n,I.kIn a o hk,hc,hd,by simpa using hs⟩,?_⟩
  have e:=r.length
  simp only[A6]at e
  lia
theorem Inv.tuple (I:Inv X pins σ H s)(h:SqT X.K H a xs):∃its:List Value,Vals xs its/\IsTup s.heap a its.toArray/\xs.length<=A0:=by
 rcases h with h|⟨o,its,n,hk,hc,hs,hz,r⟩
 .obtain⟨z,its,r,p⟩:=h.ok I.hok
  exact⟨its,r,p,z⟩
 .refine⟨its.toList,r,⟨o,I.kIn a o hk,hc,n,by simpa using hs⟩,?_⟩
  have e:=r.length
  simp only[A6]at e
  lia
theorem Inv.list_inj (I:Inv X pins σ H s)(h:SqL X.K H a xs)(h':SqL X.K H a ys):xs=ys:=by
 obtain⟨its,r,⟨o,n,e,_,_,d⟩,_⟩:=I.list h
 obtain⟨its',r',⟨o',n',e',_,_,d'⟩,_⟩:=I.list h'
 rw[e]at e';cases e'
 rw[d]at d'
 injection d' with d1 _
 have:its=its':=by simpa using congrArg Array.toList d1
 subst this
 exact r.inj r'
theorem Inv.tuple_inj (I:Inv X pins σ H s)(h:SqT X.K H a xs)(h':SqT X.K H a ys):xs=ys:=by
 obtain⟨its,r,⟨o,e,_,n,d⟩,_⟩:=I.tuple h
 obtain⟨its',r',⟨o',e',_,n',d'⟩,_⟩:=I.tuple h'
 rw[e]at e';cases e'
 rw[d]at d'
 injection d' with d1 _
 have:its=its':=by simpa using congrArg Array.toList d1
 subst this
 exact r.inj r'
end
noncomputable abbrev Cx.wish (X:Cx)(E:Value->Af->Prop):Cx:={ X with xe:=E }
noncomputable abbrev Cx.nox (X:Cx):Cx:=X.wish λ_ _=>False
theorem Cx.Ok.wish {X:Cx}(ok:X.Ok)(E:Value->Af->Prop):(X.wish E).Ok :=
 ⟨ok.mod,ok.kind,ok.glob,ok.blt,ok.above,ok.inj,ok.has,ok.cab,ok.hd,ok.frames,ok.stk,ok.exf,ok.bs,ok.bsz,ok.noex,ok.exfs,ok.funs,ok.frf⟩
theorem Cx.Ok.unwish {X:Cx}{E:Value->Af->Prop}(ok:(X.wish E).Ok):X.Ok :=
 ⟨ok.mod,ok.kind,ok.glob,ok.blt,ok.above,ok.inj,ok.has,ok.cab,ok.hd,ok.frames,ok.stk,ok.exf,ok.bs,ok.bsz,ok.noex,ok.exfs,ok.funs,ok.frf⟩
section
variable {X:Cx}{pins:List (Addr×Obj)}{σ:St}{H:Hp}{s:Af}{E:Value->Af->Prop}
theorem Inv.wish (I:Inv X pins σ H s)(E:Value->Af->Prop):Inv (X.wish E) pins σ H s:=⟨I.ok.wish E,I.os,I.bare,I.base,I.loc,I.cell,I.free,I.freeC,I.pin,I.hok,I.len⟩
theorem Inv.unwish (I:Inv (X.wish E) pins σ H s):Inv X pins σ H s:=⟨I.ok.unwish,I.os,I.bare,I.base,I.loc,I.cell,I.free,I.freeC,I.pin,I.hok,I.len⟩
theorem SP.unwish {D:Ends}{f:Flow}{s':Af}(h:SP (X.wish E) pins D f s'):SP X pins D f s':=by
 cases f with
 |next=>obtain⟨σ',H',I,q⟩:=h;exact⟨σ',H',I.unwish,q⟩
 |brk=>obtain⟨σ',H',I,q⟩:=h;exact⟨σ',H',I.unwish,q⟩
 |cont=>obtain⟨σ',H',I,q⟩:=h;exact⟨σ',H',I.unwish,q⟩
 |ret u=>obtain⟨v,σ',H',I,r,q⟩:=h;exact⟨v,σ',H',I.unwish,r,q⟩
theorem PSs.nox {st:List Stmt}{t:TS}(h:PSs X.nox st t):PSs X st t:=λpins s σ H D I hw =>
 BY (h pins s σ H D (I.wish _) hw) (λ_ _ q=>q.unwish) λ_ _ z=>BB z
end
section
variable {X:Cx}{st:Stmt}{qa9:List Stmt}{t u:TS}{e:Expr}{te:TE}{pos:Pos}
noncomputable def tNext:TS:=λD σ H=>D.nx σ H
noncomputable def tSeq (t u:TS):TS:=λD σ H=>t { D with nx:=u D } σ H
theorem qab:PSs X [] tNext:=λ_ _ σ H _ I h=>Dl ⟨σ,H,I,h⟩
theorem qk (h1:PS X st t)(h2:PSs X qa9 u):PSs X (st::qa9) (tSeq t u):=by
 intro pins s σ H D I h
 refine wpAny_execs_cons (thn (h1 pins s σ H { D with nx:=u D } I h) λf s1 q=>?_)
 cases f with
 |next =>
  obtain⟨σ',H',I',q⟩:=q
  exact h2 pins s1 σ' H' D I' q
 |ret v=>exact q
 |brk=>exact q
 |cont=>exact q
theorem qu (h1:PS X st t):PSs X [st] t:=by
 intro pins s σ H D I h
 refine wpAny_execs_cons (thn (h1 pins s σ H D I h) λf s1 q=>?_)
 cases f with
 |next=>exact Dl q
 |ret v=>exact q
 |brk=>exact q
 |cont=>exact q
theorem Inv.quiet {pins:List (Addr×Obj)}{σ:St}{H:Hp}{s:Af}(I:Inv X pins σ H s):interactive X.env=false:=by simp[interactive,I.ok.kind]
noncomputable def tDrop (te:TE):TS:=λD σ H=>te σ H λ_ H1=>D.nx σ H1
theorem zj (he:PE X e te)(hs:swapsWith e none pos.line X.env=pure false:=by rfl):PS X (.Expr e pos) (tDrop te):=by
 intro pins s σ H D I h
 exact wpAny_Expr_any (thn (he pins s σ H _ I h) λv s1 ⟨x,H1,I1,r1,q1⟩=>⟨σ,H1,I1,q1⟩) I.quiet hs
noncomputable def tRet (te:TE):TS:=λD σ H=>te σ H D.rt
theorem zc (he:PE X e te):PS X (.Return (some e) pos) (tRet te):=by
 intro pins s σ H D I h
 exact wpAny_Return_some (thn (he pins s σ H _ I h) λv s1 ⟨x,H1,I1,r1,q1⟩=>⟨x,σ,H1,I1,r1,q1⟩)
noncomputable def tIfS (c:TT)(t u:TS):TS:=λD σ H=>c σ H λb H1=>if b=true then t D σ H1 else u D σ H1
theorem zk {c:Expr}{a b:List Stmt}{tc:TT}(hc:PT X c tc)(ha:PSs X a t)(hb:PSs X b u):PS X (.If c a b pos) (tIfS tc t u):=by
 intro pins s σ H D I h
 refine wpAny_If (thn (hc pins s σ H _ I h) λd s1 hh9=>?_)
 obtain⟨H1,I1,q1⟩:=hh9
 cases d with
 |true=>exact ha pins s1 σ H1 D I1 q1
 |false=>exact hb pins s1 σ H1 D I1 q1
end
noncomputable abbrev TG:=V->St->Hp->(St->Hp->Prop)->Prop
noncomputable abbrev TGs:=List V->St->Hp->(St->Hp->Prop)->Prop
noncomputable def PG (X:Cx)(target:Expr)(t:TG):Prop :=
 ∀(pins:List (Addr×Obj))(s:Af)(σ:St)(H:Hp)(v:V)(u:Value)(Q:St->Hp->Prop),Inv X pins σ H s->RelV v u->t v σ H Q ->
  wpAny (model X.prog X.w) X.A (assign target X.env u) (λ_ s'=>∃σ' H',Inv X pins σ' H' s'/\Q σ' H') X.xe s
noncomputable def PGs (X:Cx)(ts:List Expr)(t:TGs):Prop :=
 ∀(pins:List (Addr×Obj))(s:Af)(σ:St)(H:Hp)(vs:List V)(us:List Value)(Q:St->Hp->Prop),Inv X pins σ H s->Vals vs us->t vs σ H Q ->
  wpAny (model X.prog X.w) X.A (assignInOrder ((assignEach ts X.env).map (·.2)) us) (λ_ s'=>∃σ' H',Inv X pins σ' H' s'/\Q σ' H') X.xe s
noncomputable abbrev qy4:=V->V->V->Hp->(Hp->Prop)->Prop
noncomputable def PSet (X:Cx)(t:qy4):Prop :=
 ∀(pins:List (Addr×Obj))(s:Af)(σ:St)(H:Hp)(o i v:V)(ov iv u:Value)(Q:Hp->Prop),Inv X pins σ H s->RelV o ov->RelV i iv->RelV v u->t o i v H Q ->
  wpAny (model X.prog X.w) X.A (setItem ov iv u) (λ_ s'=>∃H',Inv X pins σ H' s'/\Q H') X.xe s
noncomputable abbrev TIp:=V->V->Hp->VK->Prop
noncomputable def PIp (X:Cx)(op:Operator)(t:TIp):Prop :=
 ∀(pins:List (Addr×Obj))(s:Af)(σ:St)(H:Hp)(x y:V)(v u:Value)(Q:VK),Inv X pins σ H s->RelV x v->RelV y u->t x y H Q ->
  wpAny (model X.prog X.w) X.A (inplaceOp op v u) (EP X pins σ Q) X.xe s
section
variable {X:Cx}{pos:Pos}
noncomputable def qlf (i:Nat):TG:=λv σ H Q=>Q (σ.set i (some v)) H
theorem qai {i:Nat}{x:Str}(hN:X.N.Nodup)(hi:X.N[i]?=some x)(hx:Loc X.env.scope x)(hf:X.fn x=true\/X.env.scope.names.lookup x=some .local:=by first|exact .inl rfl|exact .inr rfl|assumption):PG X (.Name x pos) (qlf i):=by
 intro pins s σ H v u Q I r h
 exact wpAny_assign_Name (qha I hN hi hx r (λs' I'=>⟨_,H,I',h⟩) hf)
noncomputable def gNil:TGs:=λvs σ H Q=>vs=[]/\Q σ H
noncomputable def gCons (t:TG)(u:TGs):TGs:=λvs σ H Q=>∃v r,vs=v::r/\t v σ H λσ' H'=>u r σ' H' Q
theorem qjm:PGs X [] gNil:=by
 intro pins s σ H vs us Q I r h
 obtain⟨e,h⟩:=h
 subst e
 cases r
 exact assignInOrder_nil ⟨σ,H,I,h⟩
theorem qdh {e:Expr}{es:List Expr}{t:TG}{u:TGs}(h1:PG X e t)(h2:PGs X es u)
  (hs:(assignEach (e::es) X.env).map (·.2)=assign e X.env::(assignEach es X.env).map (·.2):=by rfl):PGs X (e::es) (gCons t u):=by
 intro pins s σ H vs us Q I r h
 obtain⟨v,vr,e1,h⟩:=h
 subst e1
 cases r with
 |cons r rr =>
  rw[hs]
  refine assignInOrder_cons (thn (h1 pins s σ H _ _ _ I r h) λ_ s1 hh9=>?_)
  obtain⟨σ1,H1,I1,q1⟩:=hh9
  exact h2 pins s1 σ1 H1 _ _ Q I1 rr q1
noncomputable def qwd (K:Ae)(n:Nat)(t:TGs):TG:=λv σ H Q=>∃a xs,v=.ref a/\SqT K H a xs/\xs.length=n/\t xs σ H Q
theorem qmb {es:List Expr}{k:Nat}{t:TGs}{n:Nat}(hc:X.calm=true)(h:PGs X es t)
  (hn:(assignEach es X.env).length=n:=by rfl) (hst:(assignEach es X.env).findIdx? (·.1)=none:=by rfl):PG X (.Tuple es k pos) (qwd X.K n t):=by
 intro pins s σ H v u Q I r hw
 obtain⟨a,xs,e1,hq,hl,hw⟩:=hw
 subst e1
 cases r
 obtain⟨its,rv,ht,hz⟩:=I.tuple hq
 refine assign_Tuple_tuple (I.ok.hd hc) ht (by simp[hn,<- hl,rv.length]) hst λh' hx=>?_
 have I1:Inv X pins σ H { s with heap:=h' }:=I.kept (t':=s.toks) λb o e=>hx b o (AD (Aw e)) e
 exact h pins _ σ H xs _ Q I1 (by simpa using rv) hw
noncomputable def gSub (to ti:TE)(t:qy4):TG:=λv σ H Q=>to σ H λo H1=>ti σ H1 λi H2=>t o i v H2 λH3=>Q σ H3
theorem qte {o i:Expr}{to ti:TE}{t:qy4}(ho:PE X o to)(hi:PE X i ti)(hs:PSet X t)
  (ha:∀v,assign (.Subscript o i pos) X.env v=(do
   let ov <- holding [v] (eval o X.env)
   let iv <- holding [v,ov] (eval i X.env)
   standAt pos
   holding [v,ov,iv] (setItem ov iv v)
   release [v,ov,iv] []):=by intro _;rfl):PG X (.Subscript o i pos) (gSub to ti t):=by
 intro pins s σ H v u Q I r h
 rw[ha]
 refine Aa (BC (thn (ho pins s σ H _ I h) λov s1 hh9=>?_))
 obtain⟨x,H1,I1,r1,q1⟩:=hh9
 refine Aa (BC (thn (hi pins s1 σ H1 _ I1 q1) λiv s2 hh9=>?_))
 obtain⟨y,H2,I2,r2,q2⟩:=hh9
 refine Aa (wpAny_standAt (Aa (BC (thn (hs pins s2 σ H2 x y v ov iv u _ I2 r1 r2 r q2) λ_ s3 hh9=>?_))))
 obtain⟨H3,I3,q3⟩:=hh9
 exact wpAny_release ⟨σ,H3,I3,q3⟩
noncomputable def qy5 (te:TE)(g:TG):TS:=λD σ H=>te σ H λx H1=>g x σ H1 D.nx
theorem qtf {tg e:Expr}{te:TE}{g:TG}(he:PE X e te)(hg:PG X tg g)(hs:swapsWithSole [tg] e pos.line X.env=pure false:=by rfl)(hw:swappedStores [tg] e X.env=pure none:=by rfl)
  (h1:(assignEach [tg] X.env).map (·.2)=[assign tg X.env]:=by rfl):PS X (.Assign [tg] e pos) (qy5 te g):=by
 intro pins s σ H D I h
 refine wpAny_Assign_stores (thn (he pins s σ H _ I h) λv s1 hh9=>?_) hs hw
 obtain⟨x,H1,I1,r1,q1⟩:=hh9
 rw[h1]
 exact thn (hg pins s1 σ H1 x v _ I1 r1 q1) λ_ s2 q=>q
theorem zg {i:Nat}{x:Str}{e:Expr}{te:TE}{pos':Pos}(hN:X.N.Nodup)(hi:X.N[i]?=some x)(hx:Loc X.env.scope x)(he:PE X e te)(hs:swapsWith e (some (.Name x pos')) pos.line X.env=pure false:=by rfl)(hf:X.fn x=true\/X.env.scope.names.lookup x=some .local:=by first|exact .inl rfl|exact .inr rfl|assumption) :
  PS X (.Assign [.Name x pos'] e pos) (qy5 te (qlf i)):=by
 intro pins s σ H D I h
 refine wpAny_Assign_Name (thn (he pins s σ H _ I h) λv s1 hh9=>?_) hs
 obtain⟨y,H1,I1,r1,q1⟩:=hh9
 exact qha I1 hN hi hx r1 (λs2 I2=>⟨_,H1,I2,q1⟩) hf
noncomputable def tAug (i:Nat)(te:TE)(ti:TIp):TS:=λD σ H=>∃x,σ[i]?=some (some x)/\te σ H λy H1=>ti x y H1 λz H2=>D.nx (σ.set i (some z)) H2
theorem qtg {i:Nat}{x:Str}{e:Expr}{te:TE}{op:Operator}{ti:TIp}{pos':Pos}(hN:X.N.Nodup)(hi:X.N[i]?=some x)(hx:Loc X.env.scope x)(he:PE X e te)(ho:PIp X op ti)(hf:X.fn x=true\/X.env.scope.names.lookup x=some .local:=by first|exact .inl rfl|exact .inr rfl|assumption) :
  PS X (.AugAssign (.Name x pos') op e pos) (tAug i te ti):=by
 intro pins s σ H D I h
 obtain⟨v,e1,h⟩:=h
 obtain⟨m,hn,hl⟩:=I.loc
 have vis:Vis X.env.scope x:=by rcases hx with k|k;exact .inl k;exact .inr (.inl k)
 obtain⟨u,r,l⟩:=hl i x v hi e1 vis
 refine wpAny_AugAssign_Name ?_
 have go:wpAny (model X.prog X.w) X.A (eval e X.env) (λw s₂=>wpAny (model X.prog X.w) X.A (inplaceOp op u w) (λr s₃=>wpAny (model X.prog X.w) X.A (storeName X.env x r) (λ_=>SP X pins D .next) X.xe s₃) X.xe s₂) X.xe s:=by
  refine thn (he pins s σ H _ I h) λw s1 hh9=>?_
  obtain⟨y,H1,I1,r1,q1⟩:=hh9
  refine thn (ho pins s1 σ H1 v y u w _ I1 r r1 q1) λz s2 hh9=>?_
  obtain⟨zv,H2,I2,r2,q2⟩:=hh9
  exact qha I2 hN hi hx r2 (λs3 I3=>⟨_,H2,I3,q2⟩) hf
 rcases l with ⟨hk,hm⟩|⟨hk,c,hc,hcell⟩
 .exact wpAny_loadName_local I.ok.kind hk hn hm go
 .rcases hk with hk|hk
  .exact wpAny_loadName_cell I.ok.kind hk hc hcell go
  .rcases hx with k|k
   .have:X.env.scope.names.lookup x=some .free:=hk
    rw[k]at this;cases this
   .have:X.env.scope.names.lookup x=some .free:=hk
    rw[k]at this;cases this
end
section
variable {X:Cx}{pos:Pos}
noncomputable def qy6 (c:TT)(tb:TS):TS:=λD σ H=>∃W:Nat->St->Hp->Prop,(∃m,W m σ H)/\∀m σ H,W m σ H ->
 c σ H λb H1=>if b=true then ∃N:St->Hp->Prop,(∀σ' H',N σ' H'->∃m',m'<m/\W m' σ' H')/\tb { D with nx:=N,ct:=N,bk:=D.nx } σ H1 else D.nx σ H1
theorem qth {c:Expr}{body:List Stmt}{tc:TT}{tb:TS}(hp:Bw (model X.prog X.w) X.A X.env X.xe)(hc:PT X c tc)(hb:PSs X body tb):PS X (.While c body [] pos) (qy6 tc tb):=by
 intro pins s σ H D I h
 obtain⟨W,⟨m0,w0⟩,turn⟩:=h
 refine wpAny_While (codeAny_whileLoop (λn s'=>∃σ' H',Inv X pins σ' H' s'/\W n σ' H') ?_ m0 ⟨σ,H,I,w0⟩)
 rintro n s1 ⟨σ1,H1,I1,w1⟩
 refine BM hp (thn (hc pins s1 σ1 H1 _ I1 (turn n σ1 H1 w1)) λb s2 hh9=>?_)
 obtain⟨H2,I2,q2⟩:=hh9
 cases b with
 |true =>
  obtain⟨N,hN,q2⟩:=q2
  rw[if_pos rfl]
  refine BM hp (thn (hb pins s2 σ1 H2 _ I2 q2) λf s3 q3=>?_)
  cases f with
  |next =>
   obtain⟨σ3,H3,I3,n3⟩:=q3
   obtain⟨m',hm,w3⟩:=hN σ3 H3 n3
   exact⟨m',hm,σ3,H3,I3,w3⟩
  |cont =>
   obtain⟨σ3,H3,I3,n3⟩:=q3
   obtain⟨m',hm,w3⟩:=hN σ3 H3 n3
   exact⟨m',hm,σ3,H3,I3,w3⟩
  |brk=>exact q3
  |ret v=>exact q3
 |false =>
  rw[if_neg AC]
  exact Dl ⟨σ1,H2,I2,q2⟩
end
structure It where
 go:Nat->Hp->Prop
 yld:Nat->Hp->V->Hp->Prop
 stop:Nat->Hp->Prop
noncomputable def qd6 (X:Cx)(pins:List (Addr×Obj))(H:Hp)(b:Addr):Prop :=
 H b=none/\b≠X.env.locals/\b∉X.fs/\(b∈X.ex\/X.s₀.heap.objs.size<=b)/\(∀x c,X.env.cells.lookup x=some c->c≠b)/\∀p∈X.pn++pins,p.1≠b
theorem Inv.fpOk {X:Cx}{pins:List (Addr×Obj)}{σ:St}{H H':Hp}{s:Af}{b:Addr}(I:Inv X pins σ H s)(hb:s.heap.objs.size<=b)(hn:H' b=none):qd6 X pins H' b:=by
 refine⟨hn,Cq (A8 I.lt hb),I.nofs hb,.inr (A3 I.sz hb),λx c e z=>?_,λp hp z=>?_⟩
 .obtain⟨v,q⟩:=I.cell x c e
  exact absurd (A8 q.lt (by rw[z];exact hb)) (B4 _)
 .exact absurd (A8 (Aw (I.pin p hp).1) (by rw[z];exact hb)) (B4 _)
structure Turn (P:AF)(w:World)(K:Ae)(tg:Expr)(J:It)(fp:List Addr)(it:Addr)(tn:Nat->Heap->Prop):Prop where
 mem:it∈fp
 obj:∀i h,tn i h->∀b∈fp,∃o,h.get? b=some o/\∀v,o.data ≠ .cell v
 keep:∀i h h',tn i h->(∀b∈fp,∀o,h.get? b=some o->h'.get? b=some o)->tn i h'
 item:∀(X:Cx),X.prog=P->X.w=w->X.K=K->X.calm=true->∀(i:Nat)(pins:List (Addr×Obj))(s:Af)(σ:St)(H:Hp)(E:Value->Af->Prop),Inv X pins σ H s->(∀b∈fp,qd6 X pins H b)->tn i s.heap->J.go i H ->
  wpAny (model P w) X.A (pyNext (.ref it)) (λr s1=>∃u,r=some u /\
   wpAny (model P w) X.A (letOwnedTupleGo tg (.ref it) u) (λ_ s2=>∃x H',Inv X pins σ H' s2/\RelV x u/\J.yld i H x H'/\tn (i+1) s2.heap/\∀b∈fp,H' b=none) E s1) E s
 done:∀(X:Cx),X.prog=P->X.w=w->X.K=K->X.calm=true->∀(i:Nat)(pins:List (Addr×Obj))(s:Af)(σ:St)(H:Hp)(E:Value->Af->Prop),Inv X pins σ H s->(∀b∈fp,qd6 X pins H b)->tn i s.heap->J.stop i H ->
  wpAny (model P w) X.A (pyNext (.ref it)) (λr s1=>r=none/\Inv X pins σ H s1) E s
 self:∀(A:AL)(i:Nat)(s:Af)(Q:Value->Af->Prop)(E:Value->Af->Prop),tn i s.heap->Q (.ref it) s->wpAny (model P w) A (pyIter (.ref it)) Q E s
noncomputable abbrev TI:=St->Hp->(It->Hp->Prop)->Prop
noncomputable def PIE (X:Cx)(pins:List (Addr×Obj))(σ:St)(tg:Expr)(R:It->Hp->Prop)(itv:Value)(s2:Af):Prop :=
 ∃(it:Addr)(fp:List Addr)(tn:Nat->Heap->Prop)(J:It)(H':Hp),itv=.ref it/\Inv X pins σ H' s2/\Turn X.prog X.w X.K tg J fp it tn/\tn 0 s2.heap/\(∀b∈fp,qd6 X pins H' b)/\R J H'
noncomputable def PI (X:Cx)(tg iter:Expr)(wi:TI):Prop :=
 ∀(pins:List (Addr×Obj))(s:Af)(σ:St)(H:Hp)(R:It->Hp->Prop),Inv X pins σ H s->wi σ H R ->
  wpAny (model X.prog X.w) X.A (eval iter X.env) (λv s1=>wpAny (model X.prog X.w) X.A (pyIter v) (PIE X pins σ tg R) X.xe s1) X.xe s
theorem qp7 {M:Model}{A:AL}{E:Value->Af->Prop}{s:Af}{tg:Expr}{it:Addr}{u:Value}{o:Obj}{n:String}{vs:Array Value}{Q:Unit->Af->Prop}(ho:s.heap.get? it=some o)(hc:o.cls=.type n)(hd:o.data=.fields vs)
  (hn:["enumerate", "zip", "dict_itemiterator", "dict_reverseitemiterator", "odict_iterator", "itertools.zip_longest", "itertools.pairwise"].contains n=false) (hQ:Q () s):wpAny M A (letOwnedTupleGo tg (.ref it) u) Q E s:=by
 unfold letOwnedTupleGo
 cases tg <;>first
  |exact Al hQ
  | (cases u <;>first
    |exact Al hQ
    | (refine Aa (wpAny_load ho ?_)
       rw[hc,hd]
       show wpAny M A (if (["enumerate", "zip", "dict_itemiterator", "dict_reverseitemiterator", "odict_iterator", "itertools.zip_longest", "itertools.pairwise"].contains n && vs[0]? == some (rawInt _))=true then _ else _) Q E s
       rw[if_neg (by intro h;rw[hn,C4]at h;cases h)]
       exact Al hQ))
noncomputable def Itl (K:Ae)(a:Addr):It :=
 ⟨λi H=>∃xs x,SqL K H a xs/\xs[i]?=some x,λi H x H'=>H'=H/\∀xs,SqL K H a xs->xs[i]?=some x,λi H=>∃xs,SqL K H a xs/\xs.length<=i⟩
noncomputable def Itt (K:Ae)(a:Addr):It :=
 ⟨λi H=>∃xs x,SqT K H a xs/\xs[i]?=some x,λi H x H'=>H'=H/\∀xs,SqT K H a xs->xs[i]?=some x,λi H=>∃xs,SqT K H a xs/\xs.length<=i⟩
noncomputable def Itr (lo:Int)(n:Nat):It:=⟨λi _=>i<n,λi H x H'=>H'=H/\x=.int (lo+i),λi _=>n<=i⟩
theorem qq9 {P:AF}{w:World}{K:Ae}{tg:Expr}(a it:Addr):Turn P w K tg (Itl K a) [it] it (λi h=>h.IsListIter it a i) where
 mem:=by simp
 obj:=λi h st b hb=>by
  have e:b=it:=by simpa using hb
  subst e
  obtain⟨o,e,c,d⟩:=st
  exact⟨o,e,λv z=>by rw[d]at z;cases z⟩
 keep:=λi h h' st k=>st.at λo e=>k it (by simp) o e
 item:=by
  intro X hP hw hK hc i pins s σ H E I hf st hg
  subst hP hw hK
  obtain⟨xs,x,hq,hx⟩:=hg
  obtain⟨its,rv,p,hz⟩:=I.list hq
  obtain⟨u,hu,ru⟩:=rv.get hx
  obtain⟨f0,f1,f2,f3,f4,f5⟩:=hf it (by simp)
  refine wpAny_pyNext_list_item st p.isList (x:=u) (by simpa using hu) λh' st' sb=>?_
  have I1:Inv X pins σ H { s with heap:=h' }:=I.turned (t':=s.toks) (λb o hb e=>(sb.2 b hb).trans e) f0 f1 f3 f4 f5
  obtain⟨o,e,c,d⟩:=id st'
  exact⟨u,rfl,qp7 (s:={ s with heap:=h' }) e c d En ⟨x,H,I1,ru,⟨rfl,λys hy=>by rw[I.list_inj hy hq];exact hx⟩,st',λb hb=>(hf b hb).1⟩⟩
 done:=by
  intro X hP hw hK hc i pins s σ H E I hf st hg
  subst hP hw hK
  obtain⟨xs,hq,hx⟩:=hg
  obtain⟨its,rv,p,hz⟩:=I.list hq
  obtain⟨f0,f1,f2,f3,f4,f5⟩:=hf it (by simp)
  have hl:=rv.length
  exact wpAny_pyNext_list_end (I.ok.hd hc) st p.isList (by simp;lia) λh' eb=>⟨rfl,I.turned (t':=s.toks) (λb o hb e=>eb b o hb e) f0 f1 f3 f4 f5⟩
 self:=λ_ _ _ _ _ st h=>wpAny_pyIter_listiter st h
theorem qoq {P:AF}{w:World}{K:Ae}{tg:Expr}(a it:Addr):Turn P w K tg (Itt K a) [it] it (λi h=>h.IsTupleIter it a i) where
 mem:=by simp
 obj:=λi h st b hb=>by
  have e:b=it:=by simpa using hb
  subst e
  obtain⟨o,e,c,d⟩:=st
  exact⟨o,e,λv z=>by rw[d]at z;cases z⟩
 keep:=λi h h' st k=>st.at λo e=>k it (by simp) o e
 item:=by
  intro X hP hw hK hc i pins s σ H E I hf st hg
  subst hP hw hK
  obtain⟨xs,x,hq,hx⟩:=hg
  obtain⟨its,rv,p,hz⟩:=I.tuple hq
  obtain⟨u,hu,ru⟩:=rv.get hx
  obtain⟨f0,f1,f2,f3,f4,f5⟩:=hf it (by simp)
  refine wpAny_pyNext_tuple_item st (show s.heap.IsTuple a its.toArray from p) (x:=u) (by simpa using hu) λh' st' sb=>?_
  have I1:Inv X pins σ H { s with heap:=h' }:=I.turned (t':=s.toks) (λb o hb e=>(sb.2 b hb).trans e) f0 f1 f3 f4 f5
  obtain⟨o,e,c,d⟩:=id st'
  exact⟨u,rfl,qp7 (s:={ s with heap:=h' }) e c d En ⟨x,H,I1,ru,⟨rfl,λys hy=>by rw[I.tuple_inj hy hq];exact hx⟩,st',λb hb=>(hf b hb).1⟩⟩
 done:=by
  intro X hP hw hK hc i pins s σ H E I hf st hg
  subst hP hw hK
  obtain⟨xs,hq,hx⟩:=hg
  obtain⟨its,rv,p,hz⟩:=I.tuple hq
  obtain⟨f0,f1,f2,f3,f4,f5⟩:=hf it (by simp)
  have hl:=rv.length
  exact wpAny_pyNext_tuple_end (I.ok.hd hc) st (show s.heap.IsTuple a its.toArray from p) (by simp;lia) λh' eb=>⟨rfl,I.turned (t':=s.toks) (λb o hb e=>eb b o hb e) f0 f1 f3 f4 f5⟩
 self:=λ_ _ _ _ _ st h=>wpAny_pyIter_tupleiter st h
theorem qor {P:AF}{w:World}{K:Ae}{tg:Expr}(it:Addr)(lo:Int)(n:Nat):Turn P w K tg (Itr lo n) [it] it (λi h=>IsRangeIter h it (lo+(i:Nat)*1) ((n:Int)-(i:Nat)) 1) where
 mem:=by simp
 obj:=λi h st b hb=>by
  have e:b=it:=by simpa using hb
  subst e
  exact⟨_,st,λv z=>by
   have z':Data.fields _=Data.cell v:=z
   cases z'⟩
 keep:=λi h h' st k=>k it (by simp) _ st
 item:=by
  intro X hP hw hK hc i pins s σ H E I hf st hg
  subst hP hw hK
  obtain⟨f0,f1,f2,f3,f4,f5⟩:=hf it (by simp)
  have W:=Walks.range (prog:=X.prog) (w:=X.w) (I.ok.hd hc) it lo 1 n
  refine W.item i s _ _ hg st λv h' tk hv st' kk=>?_
  obtain⟨t,rfl⟩:=hv
  have I1:Inv X pins σ H { s with heap:=h',toks:=tk }:=I.turned (λb o hb e=>kk b o (by simpa using hb) e) f0 f1 f3 f4 f5
  refine⟨_,rfl,qp7 (s:={ s with heap:=h',toks:=tk }) (n := "range_iterator") st' rfl rfl En ⟨.int (lo+i),H,I1,⟨t,?_⟩,⟨rfl,rfl⟩,st',λb hb=>(hf b hb).1⟩⟩
  rw[Int.mul_one]
 done:=by
  intro X hP hw hK hc i pins s σ H E I hf st hg
  subst hP hw hK
  obtain⟨f0,f1,f2,f3,f4,f5⟩:=hf it (by simp)
  exact wpAny_pyNext_range_end (I.ok.hd hc) st (by have:n<=i:=hg;lia) λh' eb=>⟨rfl,I.turned (t':=s.toks) (λb o hb e=>eb b o hb e) f0 f1 f3 f4 f5⟩
 self:=λ_ _ _ _ _ st h=>wpAny_pyIter_rangeiter st h
end L2
namespace L2
open PySem PySem.Spec PyProof.Rows
section
variable {X:Cx}{tg:Expr}
noncomputable def iList (K:Ae)(tl:TE):TI:=λσ H R=>tl σ H λx H1=>∃a,x=.ref a/\(∃xs,SqL K H1 a xs)/\R (Itl K a) H1
noncomputable def iTup (K:Ae)(tl:TE):TI:=λσ H R=>tl σ H λx H1=>∃a,x=.ref a/\(∃xs,SqT K H1 a xs)/\R (Itt K a) H1
theorem qbc {l:Expr}{tl:TE}(hl:PE X l tl):PI X tg l (iList X.K tl):=by
 intro pins s σ H R I h
 refine thn (hl pins s σ H _ I h) λv s1 hh9=>?_
 obtain⟨x,H1,I1,r1,q1⟩:=hh9
 obtain⟨a,e,⟨xs,hq⟩,q⟩:=q1
 subst e
 cases r1
 obtain⟨its,rv,p,hz⟩:=I1.list hq
 refine Dr p.isList ?_
 refine⟨s1.heap.objs.size,[s1.heap.objs.size],_,_,H1,rfl,I1.kept (t':=s1.toks) λb o e=>Ah _ e,qq9 a _,⟨_,Au _ rfl,rfl,rfl⟩,λb hb=>?_,q⟩
 have e:b=s1.heap.objs.size:=by simpa using hb
 subst e
 exact I1.fpOk (Ax _) (I1.hok.fresh (Ax _))
theorem qy7 {l:Expr}{tl:TE}(hl:PE X l tl):PI X tg l (iTup X.K tl):=by
 intro pins s σ H R I h
 refine thn (hl pins s σ H _ I h) λv s1 hh9=>?_
 obtain⟨x,H1,I1,r1,q1⟩:=hh9
 obtain⟨a,e,⟨xs,hq⟩,q⟩:=q1
 subst e
 cases r1
 obtain⟨its,rv,p,hz⟩:=I1.tuple hq
 refine wpAny_pyIter_tuple (show s1.heap.IsTuple a its.toArray from p) ?_
 refine⟨s1.heap.objs.size,[s1.heap.objs.size],_,_,H1,rfl,I1.kept (t':=s1.toks) λb o e=>Ah _ e,qoq a _,⟨_,Au _ rfl,rfl,rfl⟩,λb hb=>?_,q⟩
 have e:b=s1.heap.objs.size:=by simpa using hb
 subst e
 exact I1.fpOk (Ax _) (I1.hok.fresh (Ax _))
theorem qti {pins:List (Addr×Obj)}{σ:St}{H:Hp}{s:Af}{R:It->Hp->Prop}{E:Value->Af->Prop}{lo hi:Int}{t u v:Tok}{tk:Nat}(I:Inv X pins σ H s)(h1 : -(2 ^ 62)<=lo)(h2:lo<2 ^ 62)(h3 : -(2 ^ 62)<=hi)(h4:hi<2 ^ 62)
  (q:R (Itr lo (hi-lo).toNat) H):wpAny (model X.prog X.w) X.A (pyIter (.ref s.heap.objs.size)) (PIE X pins σ tg R) E { s with heap:=s.heap.push { cls:=.type "range",data:=.fields #[.int lo t,.int hi u,.int 1 v] },toks:=tk }:=by
 refine wpAny_pyIter_range (IsRange.new ..) (small_one h1 h2 h3 h4) ?_
 have I1:Inv X pins σ H { s with heap:=s.heap.push { cls:=.type "range",data:=.fields #[.int lo t,.int hi u,.int 1 v] },toks:=tk }:=I.kept λb o e=>Ah _ e
 refine⟨(s.heap.push { cls:=.type "range",data:=.fields #[.int lo t,.int hi u,.int 1 v] }).objs.size,[(s.heap.push { cls:=.type "range",data:=.fields #[.int lo t,.int hi u,.int 1 v] }).objs.size],_,_,H,rfl,
  I1.kept (t':=tk) λb o e=>Ah _ e,qor _ lo (hi-lo).toNat,?_,λb hb=>?_,q⟩
 .have e1:lo+((0:Nat):Int)*1=lo:=by simp
  have e2:(((hi-lo).toNat:Nat):Int)-((0:Nat):Int)=AG.Range.rangeSize lo hi 1:=by rw[rangeSize_one];split <;>lia
  show IsRangeIter _ _ (lo+((0:Nat):Int)*1) ((((hi-lo).toNat:Nat):Int)-((0:Nat):Int)) 1
  rw[e1,e2]
  exact Au _ rfl
 .have e:b=(s.heap.push { cls:=.type "range",data:=.fields #[.int lo t,.int hi u,.int 1 v] }).objs.size:=by simpa using hb
  subst e
  exact I1.fpOk (Ax _) (I1.hok.fresh (Ax _))
noncomputable def iRng1 (ta:TA):TI:=λσ H R=>ta σ H λvs H1=>∃j:Int,vs=[.int j] /\ -(2 ^ 62)<=j/\j<2 ^ 62/\R (Itr 0 j.toNat) H1
theorem qca {a:Expr}{ta:TA}{p pos:Pos}(hg:Gl X "range")(hm:X.mg "range" = none)(ha:PA X [a] ta)(hs:starEach [a] X.env=[(false,eval a X.env)]:=by rfl):PI X tg (.Call (.Name "range" p) [a] [] pos) (iRng1 ta):=by
 intro pins s σ H R I h
 refine Call_ (qee I hg hm boot_range (Bv (thn (ha pos pins s σ H _ I h) λus s1 hh9=>?_) hs rfl))
 obtain⟨vs,H1,I1,r1,q1⟩:=hh9
 obtain⟨j,e,q1,q2,q⟩:=q1
 subst e
 cases r1 with
 |cons r rr =>
  cases rr
  obtain⟨t,rfl⟩:=r
  exact call_range_1 (qti I1 (by lia) (by lia) q1 q2 (by simpa using q))
noncomputable def tFor (wi:TI)(g:TG)(tb:TS):TS:=λD σ H=>wi σ H λJ H1=>∃W:Nat->Nat->St->Hp->Prop,(∃m,W 0 m σ H1)/\∀i m σ H,W i m σ H ->
 (J.stop i H/\D.nx σ H)\/(J.go i H/\∃N:St->Hp->Prop,(∀σ' H',N σ' H'->∃m',m'<m/\W (i+1) m' σ' H')/\∀x H',J.yld i H x H'->g x σ H' λσ2 H2=>tb { D with nx:=N,ct:=N,bk:=D.nx } σ2 H2)
noncomputable def qid (fp:List Addr)(h:Heap):List (Addr×Obj):=fp.filterMap λb=>(h.get? b).map λo=>(b,o)
theorem qef {fp:List Addr}{h:Heap}{b:Addr}{o:Obj}(hb:b∈fp)(e:h.get? b=some o):(b,o)∈qid fp h:=List.mem_filterMap.mpr ⟨b,hb,by rw[e];rfl⟩
theorem qra {fp:List Addr}{h:Heap}{p:Addr×Obj}(hp:p∈qid fp h):p.1∈fp/\h.get? p.1=some p.2:=by
 obtain⟨b,hb,e⟩:=List.mem_filterMap.mp hp
 cases q:h.get? b with
 |none=>rw[q]at e;cases e
 |some o =>
  rw[q]at e
  have e':(b,o)=p:=A7 e
  subst e'
  exact⟨hb,q⟩
theorem Inv.pinned {pins:List (Addr×Obj)}{σ:St}{H:Hp}{s:Af}{fp:List Addr}(I:Inv X pins σ H s)(hf:∀b∈fp,qd6 X pins H b)(ho:∀b∈fp,∃o,s.heap.get? b=some o/\∀v,o.data ≠ .cell v):Inv X (pins++qid fp s.heap) σ H s :=
 I.pins_of λp hp=>(AH.mp hp).elim (λz=>I.pin p (AK _ z)) λz=>by
  obtain⟨hb,e⟩:=qra z
  obtain⟨f0,f1,f2,_⟩:=hf p.1 hb
  obtain⟨o,e',d⟩:=ho p.1 hb
  rw[e]at e';cases e'
  exact⟨e,f0,f1,f2,d⟩
theorem Inv.unpinned {pins pl:List (Addr×Obj)}{σ:St}{H:Hp}{s:Af}(I:Inv X (pins++pl) σ H s):Inv X pins σ H s:=I.pins_of λp hp=>I.pin p (AK _ (Cj _ hp))
theorem qbv {iter:Expr}{body:List Stmt}{wi:TI}{g:TG}{tb:TS}{pos:Pos}(hp:Bw (model X.prog X.w) X.A X.env X.xe)(hc:X.calm=true)(hi:PI X tg iter wi)(hg:PG X tg g)(hb:PSs X body tb)
  (hs:∀x,foldedSetIterable iter X.env x=pure x:=by intro _;rfl):PS X (.For tg iter body [] pos) (tFor wi g tb):=by
 intro pins s σ H D I h
 refine wpAny_For (thn (hi pins s σ H _ I h) λv s1 h1=>thn h1 λitv s2 h2=>?_) hs
 obtain⟨it,fp,tn,J,H2,e,I2,T,st2,f2,W,⟨m0,w0⟩,turn⟩:=h2
 subst e
 -- what stays true of the iterator's objects through the loop
 have stat:∀{H':Hp},(∀b∈fp,H' b=none)->∀b∈fp,qd6 X pins H' b:=λhn b hb=>⟨hn b hb,(f2 b hb).2⟩
 refine codeAny_forLoop_any (λn s'=>∃i σ' H',Inv X pins σ' H' s'/\tn i s'.heap/\(∀b∈fp,H' b=none)/\W i n σ' H') ?_ m0 ⟨0,σ,H2,I2,st2,λb hb=>(f2 b hb).1,w0⟩
 rintro n s3 ⟨i,σ3,H3,I3,st3,fr3,w3⟩
 rcases turn i n σ3 H3 w3 with ⟨stop,qn⟩|⟨go,N,hN,step⟩
 .refine BM hp (thn (T.done X rfl rfl rfl hc i pins s3 σ3 H3 X.xe I3 (stat fr3) st3 stop) λr s4 hh9=>?_)
  obtain⟨hr,I4⟩:=hh9
  subst hr
  exact Dl ⟨σ3,H3,I4,qn⟩
 .refine BM hp (thn (T.item X rfl rfl rfl hc i pins s3 σ3 H3 X.xe I3 (stat fr3) st3 go) λr s4 hh9=>?_)
  obtain⟨u,hr,h4⟩:=hh9
  subst hr
  refine BM hp (thn h4 λ_ s5 hh9=>?_)
  obtain⟨x,H5,I5,r5,y5,st5,fr5⟩:=hh9
  have I5':=I5.pinned (stat fr5) (T.obj _ _ st5)
  refine BM hp (thn (hg _ s5 σ3 H5 x u _ I5' r5 (step x H5 y5)) λ_ s6 hh9=>?_)
  obtain⟨σ6,H6,I6,q6⟩:=hh9
  refine BM hp (thn (hb _ s6 σ6 H6 _ I6 q6) λf s7 q7=>?_)
  have again:∀{σ7:St}{H7:Hp},Inv X (pins++qid fp s5.heap) σ7 H7 s7->N σ7 H7->∃m,m<n/\∃i σ' H',Inv X pins σ' H' s7/\tn i s7.heap/\(∀b∈fp,H' b=none)/\W i m σ' H':=λ{σ7 H7} I7 n7=>by
   obtain⟨m',hm,w7⟩:=hN σ7 H7 n7
   refine⟨m',hm,i+1,σ7,H7,I7.unpinned,T.keep _ _ _ st5 λb hb o e=>(I7.pin (b,o) (AK _ (AK _ (qef hb e)))).1,λb hb=>?_,w7⟩
   obtain⟨o,e,d⟩:=T.obj _ _ st5 b hb
   exact(I7.pin (b,o) (AK _ (AK _ (qef hb e)))).2.1
  cases f with
  |next=>obtain⟨σ7,H7,I7,n7⟩:=q7;exact again I7 n7
  |cont=>obtain⟨σ7,H7,I7,n7⟩:=q7;exact again I7 n7
  |brk=>obtain⟨σ7,H7,I7,q7⟩:=q7;exact⟨σ7,H7,I7.unpinned,q7⟩
  |ret v=>obtain⟨x7,σ7,H7,I7,r7,q7⟩:=q7;exact⟨x7,σ7,H7,I7.unpinned,r7,q7⟩
end
theorem qcl {K:Ae}{a:Addr}{xs:List V}{g:TG}{tb:TS}{D:Ends}{σ:St}{H:Hp}(Pv:Nat->St->Hp->Prop)(h0:Pv 0 σ H)(hl:∀i σ H,i<=xs.length->Pv i σ H->SqL K H a xs)
  (hs:∀i x σ H,xs[i]?=some x->Pv i σ H->g x σ H λσ2 H2=>tb { D with nx:=Pv (i+1),ct:=Pv (i+1),bk:=D.nx } σ2 H2) (hd:∀σ H,Pv xs.length σ H->D.nx σ H) :
  ∃W:Nat->Nat->St->Hp->Prop,(∃m,W 0 m σ H)/\∀i m σ H,W i m σ H ->
   ((Itl K a).stop i H/\D.nx σ H)\/((Itl K a).go i H/\∃N:St->Hp->Prop,(∀σ' H',N σ' H'->∃m',m'<m/\W (i+1) m' σ' H')/\∀x H',(Itl K a).yld i H x H'->g x σ H' λσ2 H2=>tb { D with nx:=N,ct:=N,bk:=D.nx } σ2 H2):=by
 refine⟨λi m σ H=>m=xs.length-i/\i<=xs.length/\Pv i σ H,⟨xs.length,by simp,Bs _,h0⟩,?_⟩
 rintro i m σ H ⟨rfl,hi,p⟩
 have q:=hl i σ H hi p
 by_cases hlt:i<xs.length
 .refine .inr ⟨⟨xs,xs[i],q,by simp[hlt]⟩,Pv (i+1),λσ' H' p'=>⟨xs.length-(i+1),by lia,rfl,hlt,p'⟩,λx H' y=>?_⟩
  obtain⟨e,y⟩:=y
  subst e
  exact hs i x σ _ (y xs q) p
 .have e:i=xs.length:=by lia
  subst e
  exact .inl ⟨⟨xs,q,Ax _⟩,hd σ H p⟩
theorem qwe {K:Ae}{a:Addr}{xs:List V}{g:TG}{tb:TS}{D:Ends}{σ:St}{H:Hp}(Pv:Nat->St->Hp->Prop)(h0:Pv 0 σ H)(hl:∀i σ H,i<=xs.length->Pv i σ H->SqT K H a xs)
  (hs:∀i x σ H,xs[i]?=some x->Pv i σ H->g x σ H λσ2 H2=>tb { D with nx:=Pv (i+1),ct:=Pv (i+1),bk:=D.nx } σ2 H2) (hd:∀σ H,Pv xs.length σ H->D.nx σ H) :
  ∃W:Nat->Nat->St->Hp->Prop,(∃m,W 0 m σ H)/\∀i m σ H,W i m σ H ->
   ((Itt K a).stop i H/\D.nx σ H)\/((Itt K a).go i H/\∃N:St->Hp->Prop,(∀σ' H',N σ' H'->∃m',m'<m/\W (i+1) m' σ' H')/\∀x H',(Itt K a).yld i H x H'->g x σ H' λσ2 H2=>tb { D with nx:=N,ct:=N,bk:=D.nx } σ2 H2):=by
 refine⟨λi m σ H=>m=xs.length-i/\i<=xs.length/\Pv i σ H,⟨xs.length,by simp,Bs _,h0⟩,?_⟩
 rintro i m σ H ⟨rfl,hi,p⟩
 have q:=hl i σ H hi p
 by_cases hlt:i<xs.length
 .refine .inr ⟨⟨xs,xs[i],q,by simp[hlt]⟩,Pv (i+1),λσ' H' p'=>⟨xs.length-(i+1),by lia,rfl,hlt,p'⟩,λx H' y=>?_⟩
  obtain⟨e,y⟩:=y
  subst e
  exact hs i x σ _ (y xs q) p
 .have e:i=xs.length:=by lia
  subst e
  exact .inl ⟨⟨xs,q,Ax _⟩,hd σ H p⟩
theorem qdo {lo:Int}{n:Nat}{g:TG}{tb:TS}{D:Ends}{σ:St}{H:Hp}(Pv:Nat->St->Hp->Prop)(h0:Pv 0 σ H)
  (hs:∀i σ H,i<n->Pv i σ H->g (.int (lo+i)) σ H λσ2 H2=>tb { D with nx:=Pv (i+1),ct:=Pv (i+1),bk:=D.nx } σ2 H2) (hd:∀σ H,Pv n σ H->D.nx σ H) :
  ∃W:Nat->Nat->St->Hp->Prop,(∃m,W 0 m σ H)/\∀i m σ H,W i m σ H ->
   ((Itr lo n).stop i H/\D.nx σ H)\/((Itr lo n).go i H/\∃N:St->Hp->Prop,(∀σ' H',N σ' H'->∃m',m'<m/\W (i+1) m' σ' H')/\∀x H',(Itr lo n).yld i H x H'->g x σ H' λσ2 H2=>tb { D with nx:=N,ct:=N,bk:=D.nx } σ2 H2):=by
 refine⟨λi m σ H=>m=n-i/\i<=n/\Pv i σ H,⟨n,by simp,Bs _,h0⟩,?_⟩
 rintro i m σ H ⟨rfl,hi,p⟩
 by_cases hlt:i<n
 .refine .inr ⟨hlt,Pv (i+1),λσ' H' p'=>⟨n-(i+1),by lia,rfl,hlt,p'⟩,λx H' y=>?_⟩
  obtain⟨e,y⟩:=y
  subst e y
  exact hs i σ _ hlt p
 .have e:i=n:=by lia
  subst e
  exact .inl ⟨Ax _,hd σ H p⟩
end L2
namespace L2
open PySem PySem.Spec PyProof.Rows
noncomputable abbrev R2:=V->V->Hp->VK->Prop
noncomputable def OpR (X:Cx)(f:Value->Value->Sem Value)(r:R2):Prop :=
 ∀(pins:List (Addr×Obj))(s:Af)(σ:St)(H:Hp)(x y:V)(v u:Value)(Q:VK),Inv X pins σ H s->RelV x v->RelV y u->r x y H Q ->
  wpAny (model X.prog X.w) X.A (f v u) (EP X pins σ Q) X.xe s
noncomputable def qdw (X:Cx)(f:Value)(r:List V->Hp->VK->Prop):Prop :=
 ∀(pins:List (Addr×Obj))(s:Af)(σ:St)(H:Hp)(xs:List V)(us:List Value)(Q:VK),Inv X pins σ H s->Vals xs us->r xs H Q ->
  wpAny (model X.prog X.w) X.A (call f us) (EP X pins σ Q) X.xe s
noncomputable def tOp (r:R2)(ta tb:TE):TE:=λσ H Q=>ta σ H λx H1=>tb σ H1 λy H2=>r x y H2 Q
noncomputable def rI (C:Int->Int->Prop)(g:Int->Int->V):R2:=λx y H Q=>∃i j,x=.int i/\y=.int j/\C i j/\Q (g i j) H
noncomputable def rI0 (g:Int->Int->V):R2:=λx y H Q=>∃i j,x=.int i/\y=.int j/\Q (g i j) H
section
variable {X:Cx}{a b c:Expr}{ta tb tc:TE}{pos:Pos}
theorem qy8 (ha:PE X a ta)(hb:PE X b tb){pins:List (Addr×Obj)}{s:Af}{σ:St}{H:Hp}{R:V->V->Hp->Prop}(I:Inv X pins σ H s)
  (h:ta σ H λx H1=>tb σ H1 λy H2=>R x y H2) {Q:Value->Af->Prop} {f:Value->Value->Sem Value}
  (hf:∀v u s2 x y H2,Inv X pins σ H2 s2->RelV x v->RelV y u->R x y H2->wpAny (model X.prog X.w) X.A (f v u) Q X.xe s2) :
  wpAny (model X.prog X.w) X.A (eval a X.env) (λv s₁=>wpAny (model X.prog X.w) X.A (eval b X.env) (λu s₂=>wpAny (model X.prog X.w) X.A (f v u) Q X.xe s₂) X.xe s₁) X.xe s:=by
 refine thn (ha pins s σ H _ I h) λv s1 hh9=>?_
 obtain⟨x,H1,I1,r1,q1⟩:=hh9
 refine thn (hb pins s1 σ H1 _ I1 q1) λu s2 hh9=>?_
 obtain⟨y,H2,I2,r2,q2⟩:=hh9
 exact hf v u s2 x y H2 I2 r1 r2 q2
theorem zh {op:Operator}{r:R2}(ho:OpR X (binaryOp op) r)(ha:PE X a ta)(hb:PE X b tb):PE X (.BinOp a op b pos) (tOp r ta tb):=by
 intro pins s σ H Q I h
 exact wpAny_BinOp (qy8 ha hb I h λv u s2 x y H2 I2 rx ry q=>ho pins s2 σ H2 x y v u Q I2 rx ry q)
theorem opI {f:Value->Value->Sem Value}{C:Int->Int->Prop}{g:Int->Int->Int}
  (rule:∀(i j:Int)(t u:Tok)(s:Af)(Q:Value->Af->Prop)(E:Value->Af->Prop),C i j->Q (.int (g i j) s.toks) { s with toks:=s.toks+1 }->wpAny (model X.prog X.w) X.A (f (.int i t) (.int j u)) Q E s) :
  OpR X f (rI C λi j=>.int (g i j)):=by
 intro pins s σ H x y v u Q I rx ry h
 obtain⟨i,j,rfl,rfl,hc,q⟩:=h
 obtain⟨t,rfl⟩:=rx
 obtain⟨t',rfl⟩:=ry
 exact rule i j t t' s _ _ hc ⟨.int (g i j),H,I.tok _,⟨_,rfl⟩,q⟩
theorem opI0 {f:Value->Value->Sem Value}{g:Int->Int->Int}
  (rule:∀(i j:Int)(t u:Tok)(s:Af)(Q:Value->Af->Prop)(E:Value->Af->Prop),Q (.int (g i j) s.toks) { s with toks:=s.toks+1 }->wpAny (model X.prog X.w) X.A (f (.int i t) (.int j u)) Q E s) :
  OpR X f (rI0 λi j=>.int (g i j)):=by
 intro pins s σ H x y v u Q I rx ry h
 obtain⟨i,j,rfl,rfl,q⟩:=h
 obtain⟨t,rfl⟩:=rx
 obtain⟨t',rfl⟩:=ry
 exact rule i j t t' s _ _ ⟨.int (g i j),H,I.tok _,⟨_,rfl⟩,q⟩
theorem opB0 {f:Value->Value->Sem Value}{g:Int->Int->Bool}
  (rule:∀(i j:Int)(t u:Tok)(s:Af)(Q:Value->Af->Prop)(E:Value->Af->Prop),Q (.bool (g i j)) s->wpAny (model X.prog X.w) X.A (f (.int i t) (.int j u)) Q E s) :
  OpR X f (rI0 λi j=>.bl (g i j)):=by
 intro pins s σ H x y v u Q I rx ry h
 obtain⟨i,j,rfl,rfl,q⟩:=h
 obtain⟨t,rfl⟩:=rx
 obtain⟨t',rfl⟩:=ry
 exact rule i j t t' s _ _ ⟨.bl (g i j),H,I,rfl,q⟩
noncomputable def qwf (i j:Int):Prop:=0<j/\j<1073741824
noncomputable def CMul (i j:Int):Prop:=(-(2 ^ 64)<i/\i<2 ^ 64)\/(-(2 ^ 64)<j/\j<2 ^ 64)
theorem CMul.ok {i j:Int}(h:CMul i j):IntMulOk i j:=by
 rcases h with ⟨h1,h2⟩|⟨h1,h2⟩
 .exact .of_left (intBits_le_64 h1 h2)
 .exact .of_right (intBits_le_64 h1 h2)
theorem qa6:OpR X (binaryOp .Add) (rI0 λi j=>.int (i+j)):=opI0 λ_ _ _ _ _ _ _ q=>add_int q
theorem qie:OpR X (binaryOp .Sub) (rI0 λi j=>.int (i-j)):=opI0 λ_ _ _ _ _ _ _ q=>sub_int q
theorem qdp:OpR X (binaryOp .Mult) (rI CMul λi j=>.int (i*j)):=opI λ_ _ _ _ _ _ _ hc q=>mul_int q hc.ok
theorem qbj:OpR X (binaryOp .FloorDiv) (rI qwf λi j=>.int (i / j)):=opI λi j _ _ _ _ _ hc q=>by
 have h1:(0:Int)<j:=hc.1
 have h2:j<1073741824:=hc.2
 exact floordiv_int (by lia) (by rw[Int.fdiv_eq_ediv_of_nonneg i (by lia)];exact q) (.inl (PyProof.noPylong_small (by lia)))
theorem qas:OpR X (binaryOp .Mod) (rI (λ_ j=>0<j) λi j=>.int (i % j)):=opI λi j _ _ _ _ _ hc q=>by
 have h1:(0:Int)<j:=hc
 exact mod_int' (by lia) (by rw[Int.fmod_eq_emod_of_nonneg i (by lia)];exact q)
end
noncomputable def scal:V->V->Bool
 |.non,.non=>true | .non,.int _=>true | .int _,.non=>true | .non,.bl _=>true | .bl _,.non=>true | .non,.str _=>true | .str _,.non=>true
 |.int _,.int _=>true | .bl _,.bl _=>true | .str _,.str _=>true | .byt _,.byt _=>true
 |.int _,.str _=>true | .str _,.int _=>true | .bl _,.str _=>true | .str _,.bl _=>true
 |_,_=>false
noncomputable def rEq:R2:=λx y H Q=>scal x y=true/\Q (.bl (decide (x=y))) H
noncomputable def rNe:R2:=λx y H Q=>scal x y=true/\Q (.bl (!decide (x=y))) H
theorem qp8 {i j:Int}:decide (V.int i=V.int j)=(i == j):=by
 rw[C6]
 simp
theorem qtj {i j:Bool}:decide (V.bl i=V.bl j)=(i == j):=by
 rw[C6]
 simp
theorem qp9 {i j:Str}:decide (V.str i=V.str j)=(i == j):=by
 rw[C6]
 simp
theorem qqa {i j:Array UInt8}:decide (V.byt i=V.byt j)=(i.toList == j.toList):=by
 rw[C6]
 cases i
 cases j
 simp
section
variable {X:Cx}{a b c:Expr}{ta tb tc:TE}{pos:Pos}
theorem qau {pins:List (Addr×Obj)}{σ:St}{H:Hp}{s:Af}{Q:VK}{k k':Bool}(I:Inv X pins σ H s)(q:Q (.bl k) H)(e:k=k'):EP X pins σ Q (.bool k') s:=by
 subst e
 exact⟨.bl k,H,I,rfl,q⟩
theorem qaz:OpR X (compareOp .Eq) rEq:=by
 intro pins s σ H x y v u Q I rx ry h
 obtain⟨hs,q⟩:=h
 cases x with
 |non =>
  cases rx
  cases y with
  |non=>cases ry;exact PySem.EqNone.eq_none_none (qau I q (by simp))
  |bl j=>cases ry;exact PySem.EqNone.eq_none_bool (qau I q (by simp))
  |int j=>obtain⟨t',rfl⟩:=ry;exact PySem.EqNone.eq_none_int (qau I q (by simp))
  |str j=>obtain⟨t',rfl⟩:=ry;exact PySem.EqNone.eq_none_str (qau I q (by simp))
  |_=>exact absurd (show false=true from hs) AC
 |bl i =>
  cases rx
  cases y with
  |non=>cases ry;exact PySem.EqNone.eq_bool_none (qau I q (by simp))
  |bl j=>cases ry;exact eq_bool (qau I q qtj)
  |str j=>obtain⟨t',rfl⟩:=ry;exact PySem.EqMixed.eq_bool_str (qau I q (by simp))
  |_=>exact absurd (show false=true from hs) AC
 |int i =>
  obtain⟨t,rfl⟩:=rx
  cases y with
  |non=>cases ry;exact PySem.EqNone.eq_int_none (qau I q (by simp))
  |int j=>obtain⟨t',rfl⟩:=ry;exact eq_int (qau I q qp8)
  |str j=>obtain⟨t',rfl⟩:=ry;exact PySem.EqMixed.eq_int_str (qau I q (by simp))
  |_=>exact absurd (show false=true from hs) AC
 |str i =>
  obtain⟨t,rfl⟩:=rx
  cases y with
  |non=>cases ry;exact PySem.EqNone.eq_str_none (qau I q (by simp))
  |bl j=>cases ry;exact PySem.EqMixed.eq_str_bool (qau I q (by simp))
  |int j=>obtain⟨t',rfl⟩:=ry;exact PySem.EqMixed.eq_str_int (qau I q (by simp))
  |str j=>obtain⟨t',rfl⟩:=ry;exact eq_str (qau I q qp9)
  |_=>exact absurd (show false=true from hs) AC
 |byt i =>
  obtain⟨t,rfl⟩:=rx
  cases y with
  |byt j=>obtain⟨t',rfl⟩:=ry;exact PySem.W.eq_bytes (qau I q qqa)
  |_=>exact absurd (show false=true from hs) AC
 |_=>cases y <;>exact absurd (show false=true from hs) AC
theorem qqb:OpR X (compareOp .NotEq) rNe:=by
 intro pins s σ H x y v u Q I rx ry h
 obtain⟨hs,q⟩:=h
 cases x with
 |non =>
  cases rx
  cases y with
  |non=>cases ry;exact PySem.EqNone.ne_none_none (qau I q (by simp))
  |bl j=>cases ry;exact PySem.EqNone.ne_none_bool (qau I q (by simp))
  |int j=>obtain⟨t',rfl⟩:=ry;exact PySem.EqNone.ne_none_int (qau I q (by simp))
  |str j=>obtain⟨t',rfl⟩:=ry;exact PySem.EqNone.ne_none_str (qau I q (by simp))
  |_=>exact absurd (show false=true from hs) AC
 |bl i =>
  cases rx
  cases y with
  |non=>cases ry;exact PySem.EqNone.ne_bool_none (qau I q (by simp))
  |bl j=>cases ry;exact ne_bool (qau I q (congrArg not qtj))
  |str j=>obtain⟨t',rfl⟩:=ry;exact PySem.EqMixed.ne_bool_str (qau I q (by simp))
  |_=>exact absurd (show false=true from hs) AC
 |int i =>
  obtain⟨t,rfl⟩:=rx
  cases y with
  |non=>cases ry;exact PySem.EqNone.ne_int_none (qau I q (by simp))
  |int j=>obtain⟨t',rfl⟩:=ry;exact ne_int (qau I q (congrArg not qp8))
  |str j=>obtain⟨t',rfl⟩:=ry;exact PySem.EqMixed.ne_int_str (qau I q (by simp))
  |_=>exact absurd (show false=true from hs) AC
 |str i =>
  obtain⟨t,rfl⟩:=rx
  cases y with
  |non=>cases ry;exact PySem.EqNone.ne_str_none (qau I q (by simp))
  |bl j=>cases ry;exact PySem.EqMixed.ne_str_bool (qau I q (by simp))
  |int j=>obtain⟨t',rfl⟩:=ry;exact PySem.EqMixed.ne_str_int (qau I q (by simp))
  |str j=>obtain⟨t',rfl⟩:=ry;exact ne_str (qau I q (congrArg not qp9))
  |_=>exact absurd (show false=true from hs) AC
 |byt i =>
  obtain⟨t,rfl⟩:=rx
  cases y with
  |byt j=>obtain⟨t',rfl⟩:=ry;exact PySem.W.ne_bytes (qau I q (congrArg not qqa))
  |_=>exact absurd (show false=true from hs) AC
 |_=>cases y <;>exact absurd (show false=true from hs) AC
theorem qtk:OpR X (compareOp .Lt) (rI0 λi j=>.bl (decide (i<j))):=opB0 λ_ _ _ _ _ _ _ q=>lt_int q
theorem qlg:OpR X (compareOp .LtE) (rI0 λi j=>.bl (decide (i<=j))):=opB0 λ_ _ _ _ _ _ _ q=>le_int q
theorem qtl:OpR X (compareOp .Is) (λx y H Q=>y=.non/\Q (.bl (decide (x=.non))) H):=by
 intro pins s σ H x y v u Q I rx ry h
 obtain⟨rfl,q⟩:=h
 cases ry
 refine is_none_gen (qau I q ?_)
 cases x <;>first
  | (cases rx;rfl)
  | (obtain⟨t,rfl⟩:=rx;rfl)
theorem qci:OpR X (compareOp .IsNot) (λx y H Q=>y=.non/\Q (.bl (!decide (x=.non))) H):=by
 intro pins s σ H x y v u Q I rx ry h
 obtain⟨rfl,q⟩:=h
 cases ry
 refine isnot_none_gen (qau I q ?_)
 cases x <;>first
  | (cases rx;rfl)
  | (obtain⟨t,rfl⟩:=rx;rfl)
theorem qaf (b:Expr){op:CmpOp}(h:op ≠ .In:=by decide)(h2:op ≠ .NotIn:=by decide):behindInMarks op b=false:=by
 have e1:(op == CmpOp.In)=false:=by cases op <;>first|rfl|exact absurd rfl h
 have e2:(op == CmpOp.NotIn)=false:=by cases op <;>first|rfl|exact absurd rfl h2
 cases b <;>simp[behindInMarks,e1,e2]
theorem qd7 {op:CmpOp}{r:R2}(ho:OpR X (compareOp op) r)(ha:PE X a ta)(hb:PE X b tb)(hm:behindInMarks op b=false):PE X (.Compare a [op] [b] pos) (tOp r ta tb):=by
 intro pins s σ H Q I h
 exact wpAny_Compare1 (qy8 ha hb I h λv u s2 x y H2 I2 rx ry q=>ho pins s2 σ H2 x y v u Q I2 rx ry q) hm
noncomputable def qyn (t:TE):TT:=λσ H Q=>t σ H λx H'=>∃k,x=.bl k/\Q k H'
theorem zf {op:CmpOp}{r:R2}(ho:OpR X (compareOp op) r)(ha:PE X a ta)(hb:PE X b tb)(hm:behindInMarks op b=false):PT X (.Compare a [op] [b] pos) (qyn (tOp r ta tb)):=by
 intro pins s σ H Q I h
 refine wpAny_isTrue_Compare1 (thn (ha pins s σ H _ I h) λv s1 ⟨x,H1,I1,r1,q1⟩=>thn (hb pins s1 σ H1 _ I1 q1) λu s2 ⟨y,H2,I2,r2,q2⟩ =>
  thn (ho pins s2 σ H2 x y v u _ I2 r1 r2 q2) λc s3 ⟨z,H3,I3,r3,k,e,q3⟩=>?_) hm
 subst e
 cases r3
 exact BG ⟨H3,I3,q3⟩
noncomputable def qtm (r r':R2)(ta tb tc:TE):TE:=λσ H Q=>ta σ H λx H1=>tb σ H1 λy H2=>r x y H2 λz H3=>∃k,z=.bl k /\
 (if k=true then tc σ H3 λw' H4=>r' y w' H4 Q else Q (.bl false) H3)
theorem qm5 {op op':CmpOp}{r r':R2}(ho:OpR X (compareOp op) r)(ho':OpR X (compareOp op') r')(ha:PE X a ta)(hb:PE X b tb)(hc:PE X c tc)
  (hm:lastMarks [op,op'] [b,c]=false:=by with_unfolding_all rfl):PE X (.Compare a [op,op'] [b,c] pos) (qtm r r' ta tb tc):=by
 intro pins s σ H Q I h
 refine Compare_chain (thn (ha pins s σ H _ I h) λv s1 ⟨x,H1,I1,r1,q1⟩=>chain_link (thn (hb pins s1 σ H1 _ I1 q1) λu s2 ⟨y,H2,I2,r2,q2⟩ =>
  thn (ho pins s2 σ H2 x y v u _ I2 r1 r2 q2) λd s3 ⟨z,H3,I3,r3,k,e,q3⟩=>?_)) hm
 subst e
 cases r3
 refine BG ?_
 cases k with
 |false=>exact ite_ff ⟨.bl false,H3,I3,rfl,q3⟩
 |true=>exact ite_tt (chain_last (thn (hc pins s3 σ H3 _ I3 q3) λw' s4 ⟨z',H4,I4,r4,q4⟩=>ho' pins s4 σ H4 y z' u w' Q I4 r2 r4 q4))
theorem qju {op op':CmpOp}{r r':R2}(ho:OpR X (compareOp op) r)(ho':OpR X (compareOp op') r')(ha:PE X a ta)(hb:PE X b tb)(hc:PE X c tc)
  (hm:lastMarks [op,op'] [b,c]=false:=by with_unfolding_all rfl):PT X (.Compare a [op,op'] [b,c] pos) (qyn (qtm r r' ta tb tc)):=by
 intro pins s σ H Q I h
 refine isTrue_chain (thn (ha pins s σ H _ I h) λv s1 ⟨x,H1,I1,r1,q1⟩=>test_link (thn (hb pins s1 σ H1 _ I1 q1) λu s2 ⟨y,H2,I2,r2,q2⟩ =>
  thn (ho pins s2 σ H2 x y v u _ I2 r1 r2 q2) λd s3 ⟨z,H3,I3,r3,k,e,q3⟩=>?_)) hm
 subst e
 cases r3
 refine BG ?_
 cases k with
 |false =>
  obtain⟨k',e',q'⟩:=q3
  cases e'
  exact ite_ff ⟨H3,I3,q'⟩
 |true =>
  refine ite_tt (test_last (thn (hc pins s3 σ H3 _ I3 q3) λw' s4 ⟨z',H4,I4,r4,q4⟩=>thn (ho' pins s4 σ H4 y z' u w' _ I4 r2 r4 q4) λd' s5 hh9=>?_))
  obtain⟨z2,H5,I5,r5,k2,e2,q5⟩:=hh9
  subst e2
  cases r5
  exact BG ⟨H5,I5,q5⟩
theorem qjv:(A0:Nat)<2 ^ 63:=by rw[Bg];decide
theorem qac:OpR X (binaryOp .Add) (λx y H Q=>∃i j,x=.str i/\y=.str j/\i.length+j.length<=A0/\Q (.str (i++j)) H):=by
 intro pins s σ H x y v u Q I rx ry h
 obtain⟨i,j,rfl,rfl,hz,q⟩:=h
 obtain⟨t,rfl⟩:=rx
 obtain⟨t',rfl⟩:=ry
 exact add_str (λt' tk=>⟨.str (i++j),H,I.tok _,⟨_,rfl⟩,q⟩) hz
theorem qe0 {x:V}{us:List Value}(r:Vals [x] us):∃u,us=[u]/\RelV x u:=by
 cases r with
 |cons r1 r2=>cases r2;exact⟨_,rfl,r1⟩
theorem vals2 {x y:V}{us:List Value}(r:Vals [x,y] us):∃u w',us=[u,w']/\RelV x u/\RelV y w':=by
 cases r with
 |cons r1 r2 =>
  cases r2 with
  |cons r3 r4=>cases r4;exact⟨_,_,rfl,r1,r3⟩
theorem qrb (hc:X.calm=true):qdw X (.builtin "max") (λxs H Q=>∃i j,xs=[.int i,.int j]/\Q (.int (if j > i then j else i)) H):=by
 intro pins s σ H xs us Q I r h
 obtain⟨i,j,rfl,q⟩:=h
 obtain⟨u,w',rfl,⟨t,rfl⟩,⟨t',rfl⟩⟩:=vals2 r
 refine max_two_ints (I.ok.hd hc) λh' tk k=>⟨_,H,I.kept k,?_,q⟩
 by_cases hj:j > i
 .rw[if_pos hj,if_pos hj];exact⟨_,rfl⟩
 .rw[if_neg hj,if_neg hj];exact⟨_,rfl⟩
theorem qrc:qdw X (.type "int") (λxs H Q=>(∃i,xs=[.int i]/\Q (.int i) H) \/ ∃k,xs=[.bl k]/\Q (.int (if k then 1 else 0)) H):=by
 intro pins s σ H xs us Q I r h
 rcases h with ⟨i,rfl,q⟩|⟨k,rfl,q⟩
 .obtain⟨u,rfl,t,rfl⟩:=qe0 r
  exact call_int_int ⟨.int i,H,I,⟨_,rfl⟩,q⟩
 .obtain⟨u,rfl,r1⟩:=qe0 r
  cases r1
  exact call_int_bool ⟨.int (if k then 1 else 0),H,I.tok _,⟨_,rfl⟩,q⟩
theorem qd8:qdw X (.type "str") (λxs H Q=>∃i,xs=[.int i]/\i.natAbs.log2<1920/\Q (.str (toString i)) H):=by
 intro pins s σ H xs us Q I r h
 obtain⟨i,rfl,hz,q⟩:=h
 obtain⟨u,rfl,t,rfl⟩:=qe0 r
 exact PySem.P.str_of_int hz ⟨.str _,H,I.tok _,⟨_,rfl⟩,q⟩
noncomputable def LenV (K:Ae)(x:V)(H:Hp)(n:Nat):Prop :=
 match x with
 |.str y=>y.length<=A0/\n=y.length
 |.byt y=>y.size<=A0/\n=y.size
 |.ref p=>(∃xs,SqL K H p xs/\n=xs.length) \/ ∃xs,SqT K H p xs/\n=xs.length
 |_=>False
theorem qbi:qdw X (.builtin "len") (λxs H Q=>∃x n,xs=[x]/\LenV X.K x H n/\Q (.int n) H):=by
 intro pins s σ H xs us Q I r h
 obtain⟨x,n,rfl,e,q⟩:=h
 obtain⟨u,rfl,rx⟩:=qe0 r
 have hl:=qjv
 have hs:A0=16777216:=Bg
 cases x with
 |str y =>
  obtain⟨t,rfl⟩:=rx
  obtain⟨hy,e'⟩:y.length<=A0/\n=y.length:=e
  subst e'
  exact len_str (by lia) ⟨.int _,H,I.tok _,⟨_,rfl⟩,q⟩
 |byt y =>
  obtain⟨t,rfl⟩:=rx
  obtain⟨hy,e'⟩:y.size<=A0/\n=y.size:=e
  subst e'
  exact PySem.W.len_bytes (by lia) ⟨.int _,H,I.tok _,⟨_,rfl⟩,q⟩
 |ref p =>
  cases rx
  have e':(∃xs,SqL X.K H p xs/\n=xs.length) \/ ∃xs,SqT X.K H p xs/\n=xs.length:=e
  rcases e' with ⟨xs,hx,e'⟩|⟨xs,hx,e'⟩
  .subst e'
   obtain⟨its,r',pl,hz⟩:=I.list hx
   have hlen:=r'.length
   exact Calls.call_len_list pl.isList (by simp only[Ao];lia) ⟨.int xs.length,H,I.tok _,⟨_,by simp only[Ao];rw[hlen]⟩,q⟩
  .subst e'
   obtain⟨its,r',pl,hz⟩:=I.tuple hx
   have hlen:=r'.length
   exact len_tuple pl (by simp only[Ao];lia) ⟨.int xs.length,H,I.tok _,⟨_,by simp only[Ao];rw[hlen]⟩,q⟩
 |_=>exact(show False from e).elim
end
end L2
namespace L2
open PySem PySem.Spec PyProof.Rows
structure ObjM (h:Heap)(x dx C:Addr)(mA:Str->Option Value):Prop where
 obj:h.get? x=some (C5 C dx)
 ns:h.Ns1 dx mA
 ne:dx≠x
theorem qlh {h:Heap}{dx:Addr}{mA:Str->Option Value}(n:h.Ns1 dx mA):∃od,h.get? dx=some od/\∀name,DU name od=some (mA name):=by
 obtain⟨o,es,ep,ho,hd,hk,_,hm⟩:=n
 refine⟨o,ho,λname=>?_⟩
 have e:=hm name
 unfold nsFind findBy at e
 rw[<- Array.find?_toList]at e
 unfold DU
 rw[hd]
 dsimp only
 split
 .rename_i y q
  rw[q]at e
  exact congrArg some e
 .rename_i q
  rw[q]at e
  have a:es.toList.any (·.refKey)=false:=by
   rw[List.any_eq_false]
   intro y hy
   obtain⟨z,t,hkey⟩:=hk y (Array.mem_toList_iff.mp hy)
   simp[DictEntry.refKey,hkey]
  have a':¬es.toList.any (·.refKey)=true:=by rw[a];exact AC
  rw[if_neg a']
  exact congrArg some e
theorem ObjM.look {h:Heap}{x dx C:Addr}{mA:Str->Option Value}(I:ObjM h x dx C mA):∃od,PySem.W.InstAt h x (C5 C dx) C (some od)/\∀name,DU name od=some (mA name) :=
 let ⟨od,ho,hl⟩:=qlh I.ns
 ⟨od,⟨I.obj,rfl,rfl,ho⟩,hl⟩
section
variable {prog:AF}{w:World}{A:AL}{E:Value->Af->Prop}{s:Af}{K:Ae}{x dx C f:Addr}{mA:Str->Option Value}{name:Str}{v:Value}
theorem qwg {expr:Bool}{Q:Value->Af->Prop}(X:K.In s.heap)(I:ObjM s.heap x dx C mA)(hg:D3 K C name=true)(hh:CI K C=true)
  (ha:AJ K (.ref C) name=some none) (hv:mA name=some v) (hv':PySem.W.handedIn v=true) (h:Q v { s with toks:=s.toks+1 }) :
  wpAny (model prog w) A (getAttr (.ref x) name expr) Q E s:=by
 obtain⟨od,J,hl⟩:=I.look
 exact PySem.W.get_value X J (PySem.W.plainGet_of hg).1 (PySem.W.findObj_own hh ha rfl (by rw[hl,hv])) hv' h
theorem qtn {pl:Sem Bool}{Q:Value×List Value->Af->Prop}(X:K.In s.heap)(I:ObjM s.heap x dx C mA)(hg:D3 K C name=true)
  (hf:AJ K (.ref C) name=some (some (.ref f))) (ht:PySem.W.isFn K (.ref f)=true) (hv:mA name=none) (h:Q (.ref f,[.ref x]) s) :
  wpAny (model prog w) A (getMethod (.ref x) name pl) Q E s:=by
 obtain⟨od,J,hl⟩:=I.look
 exact PySem.W.method_fn X J (PySem.W.plainGet_of hg).1 (PySem.W.plainGet_of hg).2 hf (beq_iff_eq.mp ht) (by show (DU name od).map (·.isSome)=some false;rw[hl,hv];rfl) h
theorem qwh {ns:List Str}{Q:Unit->Af->Prop}(X:K.In s.heap)(I:ObjM s.heap x dx C mA)
  (hs:AJ K (.ref C) "__setattr__" = some (some (.builtin "object.__setattr__"))) (hp:PySem.W.plainOver K C=true) (ht:PySem.W.takerIn K C name=some none) (hh:CI K C=true)
  (hw:Dz mA ns) (hsz:ns.length<=A0)
  (h:∀h',ObjM h' x dx C (λy=>if y=name then some v else mA y)->Bc dx s.heap h'->Q () { s with heap:=h',toks:=s.toks+2 }) :
  wpAny (model prog w) A (setAttr (.ref x) name v) Q E s:=by
 obtain⟨od,J,hl⟩:=I.look
 refine PySem.W.set_plain X J hs (PySem.W.osa_open (s:={ s with toks:=s.toks+1 }) (r:=none) X J hp ht λb=>?_)
 obtain⟨cd,hc,hd'⟩:=PySem.W.any_some hh
 have hx:s.heap.get? x=some ⟨.ref C,some dx,.plain,#[]⟩:=I.obj
 refine Aa (Al (Aa (Aa (wpAny_loadPart hx (Aa (BH.here (s:={ s with toks:=s.toks+1 }) (PySem.W.looks_clsIn X hc) ?_))))))
 rw[hd']
 refine Al (a:=some dx) (Aa (Al (Aa ?_)))
 refine wpAny_nsSet1 (s:={ s with toks:=s.toks+1 }) I.ns λh' hn2 hs2=>?_
 obtain⟨oD,esD,epD,hoD,hdD,hcD⟩:=hn2.count (Dz.cons name v hw)
 refine Aa (wpAny_lookBehind hoD (by rw[hdD];exact pastItsLine_dict (A3 hcD (by rw[At];lia))) ?_)
 exact Al (h _ ⟨(hs2.2 _ (AZ I.ne)).trans I.obj,hn2,I.ne⟩ hs2)
theorem qm6 {R:Result->Af->Prop}{vs:List Value}{kw:List (Str×Value)}(X:K.In s.heap)(hm:PySem.W.makesIn K C=true)
  (hi:AJ K (.ref C) "__init__" = some (some (.ref f))) (hf:Cr K (.ref f)=some (.type "function"))
  (h:codeAny (model prog w) (A.under (.builtin "type.__call__" ⟨.ref C::vs,kw⟩)) (.call (.ref f) ⟨.ref (s.heap.objs.size+1)::vs,kw⟩) (PySem.W.InitBack (s.heap.objs.size+1) R)
   { s with heap:=(s.heap.push Ce).push (C5 C s.heap.objs.size) }) :
  codeAny (model prog w) A (.call (.ref C) ⟨vs,kw⟩) R s:=by
 obtain⟨hh,g,d,t,os⟩:=s
 exact PySem.W.make_core (PySem.W.makes_of X hm) (PySem.W.looks_findIn X hi) (λself=>PySem.W.bind_fn X self hf) (.inl rfl) h
end
noncomputable def qcm (f:Str)(v:V):List (Str×V)->List (Str×V)
 | []=>[(f,v)]
 | (g,x)::r=>if g=f then (g,v)::r else (g,x)::qcm f v r
theorem qfm (f g:Str)(v:V):∀fs:List (Str×V),(qcm f v fs).lookup g=if g=f then some v else fs.lookup g
 | []=>by
  show CJ g [(f,v)]=_
  by_cases h:g=f
  .have hb:(g == f)=true:=beq_iff_eq.mpr h
   simp only[CJ,hb,if_pos h]
  .have hb:(g == f)=false:=beq_eq_false_iff_ne.mpr h
   simp only[CJ,hb,if_neg h]
 | (k,x)::r=>by
  have ih:=qfm f g v r
  rw[show qcm f v ((k,x)::r)=(if k=f then (k,v)::r else (k,x)::qcm f v r) from rfl]
  by_cases hk:k=f
  .rw[if_pos hk]
   by_cases h:g=k
   .have hb:(g == k)=true:=beq_iff_eq.mpr h
    simp only[CJ,hb,if_pos (h.trans hk)]
   .have hb:(g == k)=false:=beq_eq_false_iff_ne.mpr h
    simp only[CJ,hb,if_neg (λe:g=f=>h (e.trans hk.symm))]
  .rw[if_neg hk]
   by_cases h:g=k
   .have hb:(g == k)=true:=beq_iff_eq.mpr h
    simp only[CJ,hb,if_neg (λe:g=f=>hk (h.symm.trans e))]
   .have hb:(g == k)=false:=beq_eq_false_iff_ne.mpr h
    simp only[CJ,hb]
    exact ih
theorem qe1 (f:Str)(v:V):∀fs:List (Str×V),f∈(qcm f v fs).map (·.1)/\∀g,g∈fs.map (·.1)->g∈(qcm f v fs).map (·.1)
 | []=>⟨by simp[qcm],λg h=>by simp at h⟩
 | (k,x)::r=>by
  obtain⟨i1,i2⟩:=qe1 f v r
  rw[show qcm f v ((k,x)::r)=(if k=f then (k,v)::r else (k,x)::qcm f v r) from rfl]
  by_cases hk:k=f
  .rw[if_pos hk]
   subst hk
   exact⟨by simp,λg h=>by simpa using h⟩
  .rw[if_neg hk]
   refine⟨?_,λg h=>?_⟩
   .rw[AA]
    exact Aq _ i1
   .rw[AA]at h |-
    rcases Ap.mp h with e|e
    .exact Ap.mpr (.inl e)
    .exact Aq _ (i2 g e)
theorem qiw (f:Str)(v:V):∀fs:List (Str×V),(qcm f v fs).length<=fs.length+1
 | []=>by simp[qcm]
 | (k,x)::r=>by
  have ih:=qiw f v r
  rw[show qcm f v ((k,x)::r)=(if k=f then (k,v)::r else (k,x)::qcm f v r) from rfl]
  by_cases hk:k=f
  .rw[if_pos hk,At,At];lia
  .rw[if_neg hk,At,At];lia
theorem RelO.some_of {v:V}{o:Option Value}(r:RelO (some v) o):∃u,o=some u/\RelV v u:=by
 cases o with
 |none=>exact(show False from r).elim
 |some u=>exact⟨u,rfl,r⟩
theorem RelO.none_of {o:Option Value}(r:RelO none o):o=none:=by
 cases o with
 |none=>rfl
 |some u=>exact(show False from r).elim
theorem qli {v:V}{u:Value}(r:RelV v u):PySem.W.handedIn u=true:=by
 cases v with
 |non=>cases (show u=B5 from r);rfl
 |bl b=>cases (show u=Value.bool b from r);rfl
 |int i=>obtain⟨t,e⟩:=(show ∃t,u=Value.int i t from r);cases e;rfl
 |str x=>obtain⟨t,e⟩:=(show ∃t,u=DP x t from r);cases e;rfl
 |byt b=>obtain⟨t,e⟩:=(show ∃t,u=Value.bytes b t from r);cases e;rfl
 |flt b=>obtain⟨t,e⟩:=(show ∃t,u=Value.float b t from r);cases e;rfl
 |ref a=>cases (show u=Ar a from r);rfl
 |ty n=>cases (show u=BK n from r);rfl
section
variable {P:AF}{w:World}{H H':Hp}{h h':Heap}{a C dx:Addr}{fs fs':List (Str×V)}
theorem qjn (hok:HOk P w H h)(e:H a=some (.ins C dx fs)):∃mA,ObjM h a dx C mA/\(∀f,RelO (fs.lookup f) (mA f))/\Dz mA (fs.map (·.1))/\fs.length<=1000/\H dx=some (.own a):=by
 obtain⟨d,z,ne,ob,mA,n,r,q⟩:=(show ObjOk P w H h a (.ins C dx fs) from hok a _ e)
 exact⟨mA,⟨ob,n,ne⟩,r,q,z,d⟩
end
structure Cls (K:Ae)(C:Addr):Prop where
 pg:D3 K C Str.empty=true
 hd:CI K C=true
 po:PySem.W.plainOver K C=true
 sa:AJ K (.ref C) "__setattr__" = some (some (.builtin "object.__setattr__"))
theorem Cls.get {K:Ae}{C:Addr}(c:Cls K C)(f:Str):D3 K C f=true:=c.pg
noncomputable def NoAttr (K:Ae)(C:Addr)(f:Str):Prop:=AJ K (.ref C) f=some none
theorem NoAttr.taker {K:Ae}{C:Addr}{f:Str}(n:NoAttr K C f):PySem.W.takerIn K C f=some none:=by
 unfold PySem.W.takerIn
 rw[show AJ K (.ref C) f=some none from n]
 rfl
structure Meth (K:Ae)(C:Addr)(m:Str)(f:Addr):Prop where
 at_:AJ K (.ref C) m=some (some (.ref f))
 fn:PySem.W.isFn K (.ref f)=true
 kp:Bj K (.ref f)=true
section
variable {X:Cx}{pins:List (Addr×Obj)}{σ:St}{H:Hp}{s:Af}{a C dx:Addr}{fs:List (Str×V)}{f:Str}{v:V}{A:AL}{E:Value->Af->Prop}
theorem qos {b:Bool}{Q:Value->Af->Prop}(I:Inv X pins σ H s)(e:H a=some (.ins C dx fs))(c:Cls X.K C)(n:NoAttr X.K C f)(l:fs.lookup f=some v)
  (h:∀u s',Inv X pins σ H s'->RelV v u->Q u s'):wpAny (model X.prog X.w) A (getAttr (.ref a) f b) Q E s:=by
 obtain⟨mA,O,r,_,_,_⟩:=qjn I.hok e
 obtain⟨u,hu,ru⟩:=RelO.some_of (v:=v) (o:=mA f) (by rw[<- l];exact r f)
 exact qwg I.kIn O (c.get f) c.hd n hu (qli ru) (h u _ (I.tok _) ru)
theorem qgu {m:Str}{g:Addr}{pl:Sem Bool}{Q:Value×List Value->Af->Prop}(I:Inv X pins σ H s)(e:H a=some (.ins C dx fs))(c:Cls X.K C)(k:Meth X.K C m g)(l:fs.lookup m=none)
  (h:Q (.ref g,[.ref a]) s):wpAny (model X.prog X.w) A (getMethod (.ref a) m pl) Q E s:=by
 obtain⟨mA,O,r,_,_,_⟩:=qjn I.hok e
 have hn:mA m=none:=RelO.none_of (by rw[<- l];exact r m)
 exact qtn I.kIn O (c.get m) k.at_ k.fn hn h
theorem qot {y:V}{u:Value}{Q:Unit->Af->Prop}(I:Inv X pins σ H s)(e:H a=some (.ins C dx fs))(c:Cls X.K C)(n:NoAttr X.K C f)(hl:fs.length<1000)(ry:RelV y u)
  (h:∀s',Inv X pins σ (upd H a (.ins C dx (qcm f y fs))) s'->Q () s'):wpAny (model X.prog X.w) A (setAttr (.ref a) f u) Q E s:=by
 obtain⟨mA,O,r,wi,_,ho⟩:=qjn I.hok e
 have hz:(fs.map (·.1)).length<=A0:=by rw[Ac,Bg];lia
 refine qwh I.kIn O c.sa c.po n.taker c.hd wi hz λh' O' sb=>h _ ?_
 have hd:∃o,h'.get? dx=some o:=let ⟨o,_,_,e',_⟩:=O'.ns;⟨o,e'⟩
 refine I.write (x:=a) (e:=dx) (by rw[e];exact CN) (.inr ho) (λb q hb z=>(sb.2 b hb).trans z) hd ?_
 refine⟨by rw[ze O.ne];exact ho,?_,O.ne,O'.obj,_,O'.ns,λg=>?_,λg hg=>?_⟩
 .have:=qiw f y fs;lia
 .show RelO ((qcm f y fs).lookup g) (if g=f then some u else mA g)
  rw[qfm]
  by_cases q:g=f
  .rw[if_pos q,if_pos q];exact ry
  .rw[if_neg q,if_neg q];exact r g
 .by_cases q:g=f
  .rw[q];exact(qe1 f y fs).1
  .refine(qe1 f y fs).2 g (wi g λz=>hg ?_)
   show (if g=f then some u else mA g)=none
   rw[if_neg q];exact z
theorem Inv.made (I:Inv X pins σ H s):Inv X pins σ (upd (upd H s.heap.objs.size (.own (s.heap.objs.size+1))) (s.heap.objs.size+1) (.ins C s.heap.objs.size []))
  { s with heap:=(s.heap.push Ce).push (C5 C s.heap.objs.size) }:=by
 have e1:(s.heap.push Ce).get? s.heap.objs.size=some Ce:=Au s.heap rfl
 have e2:((s.heap.push Ce).push (C5 C s.heap.objs.size)).get? (s.heap.objs.size+1)=some (C5 C s.heap.objs.size):=by
  have:=Au (s.heap.push Ce) (o:=C5 C s.heap.objs.size) rfl
  rwa [Bp]at this
 have e3:(s.heap.push Ce).Ns s.heap.objs.size (λ_=>none):=⟨Ce,#[],_,e1,rfl,(λe he=>absurd he (by simp)),λ_=>rfl⟩
 have I1:=I.laid (a:=s.heap.objs.size) (o:=.own (s.heap.objs.size+1)) (h':=s.heap.push Ce) (t':=s.toks) (λb u q=>Ah _ q) (Ax _) ⟨_,e1⟩
 refine I1.laid (a:=s.heap.objs.size+1) (o:=.ins C s.heap.objs.size []) (t':=s.toks) (λb u q=>Ah _ q) (BS (Bp _ _)) ?_
 have ne:s.heap.objs.size≠s.heap.objs.size+1:=AD (Cb _)
 refine⟨by rw[ze ne,qz],Bs _,ne,e2,λ_=>none,(Heap.Ns1.of_empty e3).at λo q=>Ah _ q,λ_=>CN,λy hy=>absurd rfl hy⟩
theorem qqc {prog:AF}{w:World}{env:Env}{e:Expr}{f:Str}{pos:Pos}{s:Af}{Q:Value->Af->Prop}(hb:attributeBase e f env (eval e env)=eval e env)
  (h:wpAny (model prog w) A (eval e env) (λo s₁=>wpAny (model prog w) A (getAttr o f true) Q E s₁) E s):wpAny (model prog w) A (eval (.Attribute e f pos) env) Q E s :=
 Attribute_any_ h (by rw[arm_eval_Attribute,hb])
end
noncomputable def tFld (K:Ae)(ta:TE)(f:Str):TE:=λσ H Q=>ta σ H λx H1=>∃a C dx fs v,x=.ref a/\H1 a=some (.ins C dx fs)/\Cls K C/\NoAttr K C f/\fs.lookup f=some v/\Q v H1
noncomputable def sFld (K:Ae)(ta tv:TE)(f:Str):TS:=λD σ H=>tv σ H λy H1=>ta σ H1 λx H2=>∃a C dx fs,x=.ref a/\H2 a=some (.ins C dx fs)/\Cls K C/\NoAttr K C f/\fs.length<1000 /\
 D.nx σ (upd H2 a (.ins C dx (qcm f y fs)))
section
variable {X:Cx}{o e value:Expr}{f:Str}{pos pos' tpos:Pos}{ta tv:TE}
theorem qaj (he:PE X e ta)(hb:attributeBase e f X.env (eval e X.env)=eval e X.env):PE X (.Attribute e f pos) (tFld X.K ta f):=by
 intro pins s σ H Q I h
 refine qqc hb (thn (he pins s σ H _ I h) λu s1 hh9=>?_)
 obtain⟨x,H1,I1,rx,a,C,dx,fs,v,ex,ea,c,n,l,q⟩:=hh9
 subst ex
 obtain rfl:u=Ar a:=rx
 exact qos I1 ea c n l λu' s2 I2 ru=>⟨v,H1,I2,ru,q⟩
theorem qda (ha:PE X o ta)(hv:PE X value tv)(hs:swapsWith value (some (.Attribute o f pos')) pos.line X.env=pure false):PS X (.Assign [.Attribute o f pos'] value pos) (sFld X.K ta tv f):=by
 intro pins s σ H D I h
 refine DZ (thn (hv pins s σ H _ I h) λu s1 ⟨y,H1,I1,ry,q⟩=>thn (ha pins s1 σ H1 _ I1 q) λov s2 hh9=>?_) hs
 obtain⟨x,H2,I2,rx,a,C,dx,fs,ex,ea,c,n,l,q2⟩:=hh9
 subst ex
 obtain rfl:ov=Ar a:=rx
 exact qot I2 ea c n l ry λs3 I3=>⟨σ,_,I3,q2⟩
end
section
variable {X:Cx}{pins:List (Addr×Obj)}{σ:St}{H:Hp}{s:Af}{A:AL}{E Q:Value->Af->Prop}{c:Value}{b:Bool}
inductive TyOf (K:Ae) (H:Hp):V->Value->Prop where
 |non:TyOf K H .non (.type "NoneType")
 |bl (x:Bool):TyOf K H (.bl x) (.type "bool")
 |int (i:Int):TyOf K H (.int i) (.type "int")
 |str (x:Str):TyOf K H (.str x) (.type "str")
 |flt (x:UInt64):TyOf K H (.flt x) (.type "float")
 |lst {a:Addr} {xs:List V} (e:H a=some (.lst xs)):TyOf K H (.ref a) (.type "list")
 |frz {a:Addr} {o:Obj} {xs:List V} (e:H a=some (.frz o (.lst xs))):TyOf K H (.ref a) (.type "list")
 |tup {a:Addr} {xs:List V} (e:H a=some (.tup xs)):TyOf K H (.ref a) (.type "tuple")
 |dK {a:Addr} {kvs:List (Key×V)} (e:H a=some (.dK kvs)):TyOf K H (.ref a) (.type "dict")
 |dT {a:Addr} {kvs:List (List Key×V)} (e:H a=some (.dT kvs)):TyOf K H (.ref a) (.type "dict")
 |ins {a C dx:Addr} {fs:List (Str×V)} (e:H a=some (.ins C dx fs)) (cl:Cls K C) (ha:AJ K (.ref C) "__class__" = some (some (.builtin "object.__class__")))
   (hn:Ds K (.builtin "object.__class__") "__get__" = some (some (.builtin "getset_descriptor.__get__"))) (htk:PySem.W.takesIn K (.builtin "object.__class__")=some true)
   (hm:DE K C (.type "object")=some true):TyOf K H (.ref a) (.ref C)
theorem qlj {x:V}{u t:Value}(I:Inv X pins σ H s)(rx:RelV x u)(ty:TyOf X.K H x t)(e:BN X.K t c=some b)(h:∀tk,Q (.bool b) { s with toks:=tk }) :
  wpAny (model X.prog X.w) A (call (.builtin "isinstance") [u,c]) Q E s:=by
 cases ty with
 |non=>cases (show u=B5 from rx);exact BO PySem.W.kitx_none I.kIn CN e (λz=>nomatch z) h
 |bl y=>cases (show u=Value.bool y from rx);exact BO PySem.W.kitx_bool I.kIn CN e (λz=>nomatch z) h
 |int i=>obtain⟨t,q⟩:=(show ∃t,u=Value.int i t from rx);cases q;exact BO PySem.W.kitx_int I.kIn CN e (λz=>nomatch z) h
 |str y=>obtain⟨t,q⟩:=(show ∃t,u=DP y t from rx);cases q;exact BO PySem.W.kitx_str I.kIn CN e (λz=>nomatch z) h
 |flt y=>obtain⟨t,q⟩:=(show ∃t,u=Value.float y t from rx);cases q;exact BO PySem.W.kitx_float I.kIn CN e (λz=>nomatch z) h
 | @lst a xs ea =>
  cases (show u=Ar a from rx)
  obtain⟨_,_,n,_,h1⟩:=(show ObjOk X.prog X.w H s.heap a (.lst xs) from I.hok a _ ea)
  exact BO PySem.W.kitx_list I.kIn ⟨_,h1,rfl⟩ e (λz=>nomatch z) h
 | @frz a ob xs ea =>
  cases (show u=Ar a from rx)
  obtain⟨_,_,_,n,_,h1⟩:=(show ObjOk X.prog X.w H s.heap a (.frz ob (.lst xs)) from I.hok a _ ea)
  exact BO PySem.W.kitx_list I.kIn ⟨_,h1,rfl⟩ e (λz=>nomatch z) h
 | @tup a xs ea =>
  cases (show u=Ar a from rx)
  obtain⟨_,_,_,p⟩:=(show ObjOk X.prog X.w H s.heap a (.tup xs) from I.hok a _ ea)
  obtain⟨o,h1,h2,_⟩:=p
  exact BO PySem.W.kitx_tuple I.kIn ⟨o,h1,h2⟩ e (λz=>nomatch z) h
 | @dK a kvs ea =>
  cases (show u=Ar a from rx)
  obtain⟨_,_,vs,_,p⟩:=(show ObjOk X.prog X.w H s.heap a (.dK kvs) from I.hok a _ ea)
  obtain⟨o,es,ep,h1,h2,_⟩:=p
  exact BO PySem.W.kitx_dict I.kIn ⟨o,h1,h2.1⟩ e (λz=>nomatch z) h
 | @dT a kvs ea =>
  cases (show u=Ar a from rx)
  obtain⟨_,_,xs,_,o,es,ep,h1,h2,_⟩:=(show ObjOk X.prog X.w H s.heap a (.dT kvs) from I.hok a _ ea)
  exact BO PySem.W.kitx_dict I.kIn ⟨o,h1,h2.1⟩ e (λz=>nomatch z) h
 | @ins a C dx fs ea cl ha hn htk hm =>
  cases (show u=Ar a from rx)
  obtain⟨mA,O,_⟩:=qjn I.hok ea
  obtain⟨od,J,_⟩:=O.look
  exact BO (PySem.W.kitx_own (cl.get _) cl.hd ha hn htk hm) I.kIn J e (λz=>nomatch z) h
end
end L2
namespace L2
open PySem PySem.Spec PyProof.Rows
structure Room (k:Nat)(A:AL):Prop where
 hd:A.handled=none
 dp:A.depth+3*k+5<recursionLimit
 un:A.units+16*k+200<cLine
theorem Room.mono {j k:Nat}{A:AL}(r:Room k A)(h:j<=k):Room j A:=⟨r.hd,by have:=r.dp;lia,by have:=r.un;lia⟩
theorem Room.deeper {k:Nat}{A:AL}(r:Room (k+1) A)(env:Env):Room k (A.deeper env) :=
 ⟨r.hd,by have:=r.dp;show A.depth+1+3*k+5<_;lia,by have:=r.un;show A.units+3+16*k+200<_;lia⟩
theorem qou {A:AL}{C:Addr}{us:List Value}{kw:List (Str×Value)}:(A.under (.builtin "type.__call__" ⟨.ref C::us,kw⟩)).depth=A.depth+1:=by
 first|rfl|simp[AL.under,Code.weight,Code.isCreation,Code.isGuard,Code.isCaller,Code.frames,Code.isFrame,guardIds]
theorem qov {A:AL}{C:Addr}{us:List Value}{kw:List (Str×Value)}:(A.under (.builtin "type.__call__" ⟨.ref C::us,kw⟩)).units=A.units+1:=by
 first|rfl|simp[AL.under,Code.cUnits,Code.frames,Code.isFrame]
theorem Room.make {k:Nat}{A:AL}(r:Room (k+1) A)(C:Addr)(us:List Value)(kw:List (Str×Value)):Room k (A.under (.builtin "type.__call__" ⟨.ref C::us,kw⟩)) :=
 ⟨r.hd,by have:=r.dp;rw[qou];lia,by have:=r.un;rw[qov];lia⟩
theorem Room.depth {k:Nat}{A:AL}(r:Room k A):A.depth<recursionLimit:=by have:=r.dp;lia
theorem Room.units {k:Nat}{A:AL}(r:Room k A):A.units+64<cLine:=by have:=r.un;lia
theorem Room.units0 {k:Nat}{A:AL}(r:Room k A):A.units<cLine:=by have:=r.un;lia
noncomputable def tNil:TA:=λ_ H Q=>Q [] H
noncomputable def tCons (ta:TE)(tr:TA):TA:=λσ H Q=>ta σ H λx H1=>tr σ H1 λxs H2=>Q (x::xs) H2
section
variable {X:Cx}{e:Expr}{es:List Expr}{te:TE}{t:TA}{pos:Pos}
theorem qm:PA X [] tNil:=λ_ _ _ _ H Q I h=>Dt ⟨[],H,I,.nil,h⟩
theorem qh (ha:PE X e te)(hr:PA X es t)(hs:starEach (e::es) X.env=(false,eval e X.env)::starEach es X.env:=by rfl):PA X (e::es) (tCons te t):=by
 intro pos pins s σ H Q I h
 rw[hs]
 show wpAny _ _ (spliced ((false,eval e X.env)::backTo pos (starEach es X.env))) _ _ s
 refine Dd (thn (ha pins s σ H _ I h) λu s1 hh9=>?_)
 obtain⟨x,H1,I1,r1,q1⟩:=hh9
 exact thn (hr pos pins s1 σ H1 _ I1 q1) λus s2 ⟨xs,H2,I2,r2,q2⟩=>⟨x::xs,H2,I2,.cons r1 r2,q2⟩
noncomputable def tTup (t:TA):TE:=λσ H Q=>t σ H λxs H1=>xs.length<=A0/\∀p,H1 p=none->Q (.ref p) (upd H1 p (.tup xs))
noncomputable def tLst (t:TA):TE:=λσ H Q=>t σ H λxs H1=>xs.length<=A0/\∀p,H1 p=none->Q (.ref p) (upd H1 p (.lst xs))
theorem zr {x1}(h:PA X es t):PE X (.Tuple es x1 pos) (tTup t):=by
 intro pins s σ H Q I hq
 refine wpAny_Tuple_spliced (thn (h pos pins s σ H _ I hq) λus s1 ⟨xs,H1,I1,r,z,q⟩=>⟨by rw[<- r.length];exact z,?_⟩)
 have hf:H1 s1.heap.objs.size=none:=I1.hok.fresh (Ax _)
 refine⟨.ref s1.heap.objs.size,upd H1 s1.heap.objs.size (.tup xs),I1.laid (t':=s1.toks) (λb u e=>Ah _ e) (Ax _) ?_,rfl,q _ hf⟩
 exact⟨z,us,r,⟨_,Au _ rfl,rfl,_,rfl⟩⟩
theorem zq (h:PA X es t):PE X (.List es pos) (tLst t):=by
 intro pins s σ H Q I hq
 refine wpAny_List_spliced (thn (h pos pins s σ H _ I hq) λus s1 ⟨xs,H1,I1,r,z,q⟩=>⟨by rw[<- r.length];exact z,?_⟩)
 have hf:H1 s1.heap.objs.size=none:=I1.hok.fresh (Ax _)
 refine⟨.ref s1.heap.objs.size,upd H1 s1.heap.objs.size (.lst xs),I1.laid (t':=s1.toks) (λb u e=>Ah _ e) (Ax _) ?_,rfl,q _ hf⟩
 exact⟨z,us,0,r,Au _ rfl⟩
end
noncomputable abbrev Sp:=List V->Hp->VK->XK->Prop
noncomputable abbrev CXT:=List Env->Hp->Af->XK->Value->Af->Prop
structure Env0 (P:AF)(w:World)(K:Ae)(mg:Str->Option Value)(base:Heap)(A:AL)(outer:List Env)(s:Af)(H:Hp):Prop where
 frames:A.frames=some outer
 mod:Mod K mg base
 bs:∀b o,base.get? b=some o->s.heap.get? b=some o/\H b=none
 bsz:base.objs.size<=s.heap.objs.size
 funs:s.heap.FunFrames base outer
 frf:∀b∈frs outer,H b=none
 hok:HOk P w H s.heap
 bare:AllBare s.gens
noncomputable def CE (outer:List Env)(P:AF)(w:World)(H:Hp)(s:Af)(Q:VK)(u:Value)(s':Af):Prop :=
 ∃v H',s'.os=s.os/\AllBare s'.gens/\Un (frs outer) [] H H' s.heap s'.heap/\HOk P w H' s'.heap/\RelV v u/\Q v H'
noncomputable def CR (CX:CXT)(outer:List Env)(P:AF)(w:World)(H:Hp)(s:Af)(Q:VK)(E:XK)(r:Result)(s':Af):Prop :=
 match r with
 |.ok (.ret u)=>CE outer P w H s Q u s'
 |.ok _=>False
 |.error e=>CX outer H s E e s'
structure FnOk (P:AF)(w:World)(K:Ae)(mg:Str->Option Value)(base:Heap)(CX:CXT)(k:Nat)(f:Addr)(fd:AB)(ps:List Str)(sp:Sp):Prop where
 len:∀vs H Q E,sp vs H Q E->vs.length=ps.length
 run:∀(A:AL)(outer:List Env)(s:Af)(H:Hp)(args:Args)(us:List Value)(vs:List V)(Q:VK)(E:XK),Room k A->Env0 P w K mg base A outer s H->BindsTo s fd args (ps.zip us)->Vals vs us->sp vs H Q E ->
  codeAny (model P w) A (.call (.ref f) args) (CR CX outer P w H s Q E) s
theorem Env0.make {P:AF}{w:World}{K:Ae}{mg:Str->Option Value}{base:Heap}{A:AL}{outer:List Env}{s:Af}{H:Hp}(e:Env0 P w K mg base A outer s H)(C:Addr)(us:List Value)(kw:List (Str×Value)) :
  Env0 P w K mg base (A.under (.builtin "type.__call__" ⟨.ref C::us,kw⟩)) outer s H:=⟨by first|exact e.frames | (simpa [AL.under,Code.envs,Code.isFrame,pushEnvs] using e.frames),e.mod,e.bs,e.bsz,e.funs,e.frf,e.hok,e.bare⟩
section
variable {X:Cx}{pins:List (Addr×Obj)}{σ:St}{H:Hp}{s s':Af}
theorem Inv.env0 (I:Inv X pins σ H s):Env0 X.prog X.w X.K X.mg X.base X.A X.stack s H :=
 ⟨I.ok.frames,I.ok.mod,I.bs,A3 I.ok.bsz I.sz,I.stack,I.stkFree,I.hok,I.bare⟩
theorem Inv.after {Q:VK}{u:Value}(I:Inv X pins σ H s)(h:CE X.stack X.prog X.w H s Q u s'):EP X pins σ Q u s':=by
 obtain⟨v,H',os,bare,un,hok,r,q⟩:=h
 obtain⟨hh,g,d,t,os'⟩:=s'
 obtain rfl:os'=s.os:=os
 exact⟨v,H',I.call (h':=hh) (g':=g) (d':=d) (t':=t) (ch:=[]) un hok bare (λb z=>absurd z (by simp)),r,q⟩
end
noncomputable def tCall (sp:Sp)(dvs:List V)(E:XK)(t:TA):TE:=λσ H Q=>t σ H λvs H1=>sp (vs++dvs) H1 Q E
noncomputable def qyo (C:Addr)(m:Str)(sp:Sp)(dvs:List V)(E:XK)(ta:TE)(t:TA):TE:=λσ H Q=>ta σ H λx H1=>∃a dx fs,x=.ref a/\H1 a=some (.ins C dx fs)/\fs.lookup m=none /\
 t σ H1 λvs H2=>sp (x::(vs++dvs)) H2 Q E
noncomputable def tMake (C:Addr)(sp:Sp)(dvs:List V)(E:XK)(t:TA):TE:=λσ H Q=>t σ H λvs H1=>∀x dx,H1 x=none->H1 dx=none->dx≠x ->
 sp (.ref x::(vs++dvs)) (upd (upd H1 dx (.own x)) x (.ins C dx [])) (λv H2=>v=.non/\Q (.ref x) H2) E
noncomputable def Binds (K:Ae)(fd:AB)(ps:List Str)(ds:List Value):Prop :=
 ∀(s:Af)(us:List Value),K.In s.heap->(us++ds).length=ps.length->BindsTo s fd ⟨us,[]⟩ (ps.zip (us++ds))
theorem Binds.all {K:Ae}{fd:AB}{ps:List Str}(h:∀us:List Value,us.length=ps.length->bindArgs fd ⟨us,[]⟩=pure (ps.zip us)):Binds K fd ps []:=λs us _ hl=>by
 rw[B8]at hl |-
 exact .of_eq (h us hl)
noncomputable def qe5 (CX:CXT)(X:Cx)(E:XK):Prop:=∀(pins:List (Addr×Obj))(σ:St)(H:Hp)(s:Af)(e:Value)(s':Af),Inv X pins σ H s->CX X.stack H s E e s'->X.xe e s'
section
variable {X:Cx}{CX:CXT}{k:Nat}{f C:Addr}{fd:AB}{ps:List Str}{sp:Sp}{dvs:List V}{ds:List Value}{E:XK}{x m:Str}{p pos apos:Pos}{e o:Expr}{es:List Expr}{ta:TE}{t:TA}
theorem qow {pins:List (Addr×Obj)}{σ:St}{H:Hp}{s:Af}{Q:VK}{us:List Value}{vs:List V}(F:FnOk X.prog X.w X.K X.mg X.base CX k f fd ps sp)(hr:Room k X.A)(hb:Binds X.K fd ps ds)(hd:Vals dvs ds)(hx:qe5 CX X E)
  (I:Inv X pins σ H s) (r:Vals vs us) (h:sp (vs++dvs) H Q E):wpAny (model X.prog X.w) X.A (call (.ref f) us) (EP X pins σ Q) X.xe s:=by
 have r2:Vals (vs++dvs) (us++ds):=r.append hd
 have hl:(us++ds).length=ps.length:=by rw[<- r2.length];exact F.len _ _ _ _ h
 refine CO (C8 (F.run X.A X.stack s H ⟨us,[]⟩ (us++ds) (vs++dvs) Q E hr I.env0 (hb s us I.kIn hl) r2 h) λr s' hq=>?_)
 cases r with
 |error e=>exact hx pins σ H s e s' I hq
 |ok fl =>
  cases fl with
  |ret u=>exact I.after hq
  |next=>exact BB hq
  |brk=>exact BB hq
  |cont=>exact BB hq
theorem zm (F:FnOk X.prog X.w X.K X.mg X.base CX k f fd ps sp)(hr:Room k X.A)(hg:Gl X x)(hm:X.mg x=some (.ref f))(hk:Bj X.K (.ref f)=true)(hb:Binds X.K fd ps ds)(hd:Vals dvs ds)(hx:qe5 CX X E)
  (ha:PA X (e::es) t) (hdb:(x == ("__debug__" : Str))=false:=by decide) (he:starEach (e::es) X.env=(false,eval e X.env)::starEach es X.env:=by rfl) (hpl:(backTo pos (starEach es X.env)).any (·.1)=false:=by rfl) :
  PE X (.Call (.Name x p) (e::es) [] pos) (tCall sp dvs E t):=by
 intro pins s σ H Q I h
 refine B0 (qeo I hg hm ?_ hdb)
 refine C1 (h₀:=X.base) I.ok.mod.kin hk (thn (ha pos pins s σ H _ I h) λus s1 ⟨vs,H1,I1,r,q⟩=>⟨I1.kIn,?_⟩) he hpl
 exact qow F hr hb hd hx I1 r q
theorem qmc {pl:Sem Bool}(he:PE X o ta)(c:Cls X.K C)(hm:Meth X.K C m f)(F:FnOk X.prog X.w X.K X.mg X.base CX k f fd ps sp)(hr:Room k X.A)(hb:Binds X.K fd ps ds)(hd:Vals dvs ds)(hx:qe5 CX X E)(ha:PA X (e::es) t)
  (hst:starEach (e::es) X.env=(false,eval e X.env)::starEach es X.env:=by rfl) (hpl:(backTo pos (starEach es X.env)).any (·.1)=false:=by rfl)
  (ht:eval (.Call (.Attribute o m apos) (e::es) [] pos) X.env=(do
   let ov <- eval o X.env
   standAt apos.atName
   let (f,first) <- holding [ov] (getMethod ov m pl)
   callWith pos f first (backTo pos (starEach (e::es) X.env)) (backToKw pos (keywordEach [] X.env))):=by rfl) :
  PE X (.Call (.Attribute o m apos) (e::es) [] pos) (qyo C m sp dvs E ta t):=by
 intro pins s σ H Q I h
 refine Dq (pl:=pl) (thn (he pins s σ H _ I h) λu s1 hh9=>?_) ht
 obtain⟨x,H1,I1,rx,a,dx,fs,ex,ea,l,q⟩:=hh9
 subst ex
 obtain rfl:u=Ar a:=rx
 refine qgu I1 ea c hm l ?_
 refine C1 (first:=[.ref a]) (h₀:=X.base) I.ok.mod.kin hm.kp (thn (ha pos pins s1 σ H1 _ I1 q) λus s2 ⟨vs,H2,I2,r,q2⟩=>⟨I2.kIn,?_⟩) hst hpl
 exact qow (us:=.ref a::us) (vs:=.ref a::vs) F hr hb hd hx I2 (.cons rfl r) q2
theorem qhb {pl:Sem Bool}(he:PE X o ta)(c:Cls X.K C)(hm:Meth X.K C m f)(F:FnOk X.prog X.w X.K X.mg X.base CX k f fd ps sp)(hr:Room k X.A)(hb:Binds X.K fd ps ds)(hd:Vals dvs ds)(hx:qe5 CX X E)
  (ht:eval (.Call (.Attribute o m apos) [] [] pos) X.env=(do
   let ov <- eval o X.env
   standAt apos.atName
   let (f,first) <- holding [ov] (getMethod ov m pl)
   callWith pos f first (backTo pos (starEach [] X.env)) (backToKw pos (keywordEach [] X.env))):=by rfl) :
  PE X (.Call (.Attribute o m apos) [] [] pos) (qyo C m sp dvs E ta tNil):=by
 intro pins s σ H Q I h
 refine Dq (pl:=pl) (thn (he pins s σ H _ I h) λu s1 hh9=>?_) ht
 obtain⟨x,H1,I1,rx,a,dx,fs,ex,ea,l,q⟩:=hh9
 subst ex
 obtain rfl:u=Ar a:=rx
 refine qgu I1 ea c hm l ?_
 exact PySem.W.callWith_K0 (first:=[.ref a]) I1.kIn hm.kp (qow (us:=[.ref a]) (vs:=[.ref a]) F hr hb hd hx I1 (.cons rfl .nil) q)
structure Mk (K:Ae)(C f:Addr):Prop where
 makes:PySem.W.makesIn K C=true
 init:AJ K (.ref C) "__init__" = some (some (.ref f))
 fn:PySem.W.isFn K (.ref f)=true
 kp:Bj K (.ref C)=true
theorem qto {pins:List (Addr×Obj)}{σ:St}{H:Hp}{s:Af}{Q:VK}{us:List Value}{vs:List V}(M:Mk X.K C f)(F:FnOk X.prog X.w X.K X.mg X.base CX k f fd ps sp)(hr:Room (k+1) X.A)(hb:Binds X.K fd ps ds)(hd:Vals dvs ds)
  (hx:qe5 CX X E) (I:Inv X pins σ H s) (r:Vals vs us)
  (h:∀x dx,H x=none->H dx=none->dx≠x->sp (.ref x::(vs++dvs)) (upd (upd H dx (.own x)) x (.ins C dx [])) (λv H2=>v=.non/\Q (.ref x) H2) E) :
  wpAny (model X.prog X.w) X.A (call (.ref C) us) (EP X pins σ Q) X.xe s:=by
 have hq:=h (s.heap.objs.size+1) s.heap.objs.size (I.hok.fresh (Ck _)) (I.hok.fresh (Ax _)) (AD (Cb _))
 have I2:=Inv.made (C:=C) I
 have r2:Vals (V.ref (s.heap.objs.size+1)::(vs++dvs)) (Ar (s.heap.objs.size+1)::(us++ds)):=.cons rfl (r.append hd)
 have hl:(Ar (s.heap.objs.size+1)::us++ds).length=ps.length:=by
  have e:=r2.length
  rw[F.len _ _ _ _ hq]at e
  exact e.symm
 refine CO (qm6 (f:=f) I.kIn M.makes M.init (beq_iff_eq.mp M.fn) (C8 (F.run _ X.stack _ _ ⟨Ar (s.heap.objs.size+1)::us,[]⟩ (Ar (s.heap.objs.size+1)::(us++ds)) _ _ E (hr.make C us [])
  (I2.env0.make C us []) (hb _ (Ar (s.heap.objs.size+1)::us) I2.kIn hl) r2 hq) λr s' hq'=>?_))
 cases r with
 |error e=>exact hx pins σ _ _ e s' I2 hq'
 |ok fl =>
  cases fl with
  |ret u =>
   obtain⟨v,H',I3,rv,ev,q3⟩:=I2.after hq'
   subst ev
   exact⟨rv,⟨V.ref (s.heap.objs.size+1),H',I3,rfl,q3⟩⟩
  |next=>exact BB hq'
  |brk=>exact BB hq'
  |cont=>exact BB hq'
theorem qwi (M:Mk X.K C f)(F:FnOk X.prog X.w X.K X.mg X.base CX k f fd ps sp)(hr:Room (k+1) X.A)(hg:Gl X x)(hm:X.mg x=some (.ref C))(hb:Binds X.K fd ps ds)(hd:Vals dvs ds)(hx:qe5 CX X E)
  (ha:PA X (e::es) t) (hdb:(x == ("__debug__" : Str))=false:=by decide) (he:starEach (e::es) X.env=(false,eval e X.env)::starEach es X.env:=by rfl) (hpl:(backTo pos (starEach es X.env)).any (·.1)=false:=by rfl) :
  PE X (.Call (.Name x p) (e::es) [] pos) (tMake C sp dvs E t):=by
 intro pins s σ H Q I h
 refine B0 (qeo I hg hm ?_ hdb)
 refine C1 (h₀:=X.base) I.ok.mod.kin M.kp (thn (ha pos pins s σ H _ I h) λus s1 ⟨vs,H1,I1,r,q⟩=>⟨I1.kIn,?_⟩) he hpl
 exact qto M F hr hb hd hx I1 r q
end
section
variable {X:Cx}{CX:CXT}{k:Nat}{f C:Addr}{fd:AB}{ps ks:List Str}{sp:Sp}{E:XK}{x m:Str}{p pos apos kpos:Pos}{e o:Expr}{es:List Expr}{kws:List Keyword}{te ta:TE}{t tk:TA}{nm:Option Str}
variable {g:List Value->List Value->List Value}{gV:List V->List V->List V}
end
structure FnScope (N P:List Str)(sc:Scope):Prop where
 kind:sc.kind=.function
 co:sc.isCoroutine=false
 gen:sc.isGenerator=false
 nd:N.Nodup
 pre:N.take P.length=P
 par:∀x∈P,sc.names.lookup x=some .local\/sc.names.lookup x=some .cell
 nofree:∀y∈sc.names,y.2 ≠ .free
theorem qlk {kindOf:Str->Option Bt}{x:Str}:∀{binds:List (Str×Value)}{m:Str->Option Value},(∀v,(x,v)∉binds)->bindL kindOf binds m x=m x
 | [],_,_=>rfl
 | (n,v)::r,m,h=>by
  unfold bindL
  rw[qlk λw hw=>h w (Aq _ hw)]
  split
  .have:x≠n:=by rintro rfl;exact h v Am
   simp[this]
  .rfl
theorem qll {kindOf:Str->Option Bt}{x:Str}:∀{binds:List (Str×Value)}{m:Str->Option Value},(∀v,(x,v)∉binds)->bindC kindOf binds m x=m x
 | [],_,_=>rfl
 | (n,v)::r,m,h=>by
  unfold bindC
  rw[qll λw hw=>h w (Aq _ hw)]
  split
  .rfl
  .have:x≠n:=by rintro rfl;exact h v Am
   simp[this]
theorem qlm {kindOf:Str->Option Bt}{x:Str}{v:Value}:∀{P:List Str}{vs:List Value}{i:Nat}{m:Str->Option Value},P.Nodup->P[i]?=some x->vs[i]?=some v->kindOf x=some .local ->
  bindL kindOf (P.zip vs) m x=some v
 | [],_,_,_,_,h,_,_=>by simp at h
 |_::_,[],_,_,_,_,h,_=>by simp at h
 |p::P,w::vs,0,m,nd,h1,h2,hk=>by
  simp at h1 h2;subst h1;subst h2
  show bindL kindOf ((p,w)::P.zip vs) m p=_
  unfold bindL
  rw[qlk λv hv=>(AX.mp nd).1 (List.of_mem_zip hv).1,if_pos hk]
  simp
 |p::P,w::vs,i+1,m,nd,h1,h2,hk=>by
  show bindL kindOf ((p,w)::P.zip vs) m x=_
  unfold bindL
  exact qlm (i:=i) (AX.mp nd).2 (by simpa using h1) (by simpa using h2) hk
theorem qln {kindOf:Str->Option Bt}{x:Str}{v:Value}:∀{P:List Str}{vs:List Value}{i:Nat}{m:Str->Option Value},P.Nodup->P[i]?=some x->vs[i]?=some v->kindOf x≠some .local ->
  bindC kindOf (P.zip vs) m x=some v
 | [],_,_,_,_,h,_,_=>by simp at h
 |_::_,[],_,_,_,_,h,_=>by simp at h
 |p::P,w::vs,0,m,nd,h1,h2,hk=>by
  simp at h1 h2;subst h1;subst h2
  show bindC kindOf ((p,w)::P.zip vs) m p=_
  unfold bindC
  rw[qll λv hv=>(AX.mp nd).1 (List.of_mem_zip hv).1,if_neg hk]
  simp
 |p::P,w::vs,i+1,m,nd,h1,h2,hk=>by
  show bindC kindOf ((p,w)::P.zip vs) m x=_
  unfold bindC
  exact qln (i:=i) (AX.mp nd).2 (by simpa using h1) (by simpa using h2) hk
noncomputable def qfh (N:List Str)(vs:List V):St:=vs.map some++List.replicate (N.length-vs.length) none
noncomputable def qmd (CX:CXT)(P:AF)(w:World)(K:Ae)(mg:Str->Option Value)(base:Heap)(N:List Str)(qual:Str)(scope:Scope)(f:Addr)(cd:Value)(A:AL)(outer:List Env)(s:Af)(H:Hp)(E:XK):Cx where
 prog:=P
 w:=w
 K:=K
 mg:=mg
 base:=base
 A:=A.deeper (envOfC qual scope s.heap.objs.size f cd)
 N:=N
 s₀:=s
 H₀:=H
 env:=envOfC qual scope s.heap.objs.size f cd
 outer:=outer
 stack:=envOfC qual scope s.heap.objs.size f cd::outer
 ex:=[]
 calm:=true
 fn:=λ_=>true
 pn:=[]
 xe:=λe s'=>wpAny (model P w) (A.deeper (envOfC qual scope s.heap.objs.size f cd)) (leaving (envOfC qual scope s.heap.objs.size f cd) e) (λ_ s''=>CX outer H s E e s'') (λe' s''=>CX outer H s E e' s'') s'
theorem qm7 {sc:Scope}{n:Nat}{x:Str}(h:sc.names.lookup x=some .cell):∃c,(cellsFrom n sc.names []).lookup x=some c:=by
 have q:=PySem.W.cellsFrom_some sc.names n [] (.inl h)
 exact CP.mp q
theorem qrd {CX:CXT}{P:AF}{w:World}{K:Ae}{mg:Str->Option Value}{base:Heap}{N ps:List Str}{qual:Str}{scope:Scope}{f:Addr}{cd:Value}{A:AL}{outer:List Env}{s s1:Af}{H:Hp}{E:XK}{us:List Value}{vs:List V}
  (S:FnScope N ps scope) (hd:A.handled=none) (e0:Env0 P w K mg base A outer s H) (hl:vs.length=ps.length) (r:Vals vs us)
  (x:InCallC s s.heap.objs.size (bindL (envOfC qual scope s.heap.objs.size f cd).kindOf (ps.zip us) λ_=>none) (cellsFrom (s.heap.objs.size+1) scope.names []) (bindC (envOfC qual scope s.heap.objs.size f cd).kindOf (ps.zip us) λ_=>none) s1) :
  Inv (qmd CX P w K mg base N qual scope f cd A outer s H E) [] (qfh N vs) H s1:=by
 have hpl:ps.length<=N.length:=by have:=congrArg DQ S.pre;rw[A2]at this;lia
 obtain⟨h1,tk,rfl,hk⟩:=x.done
 have noA:∀b:Addr,b∉(qmd CX P w K mg base N qual scope f cd A outer s H E).ex:=λb z=>absurd (show b∈([]:List Addr) from z) (by simp)
 refine⟨⟨e0.mod,S.kind,rfl,rfl,Ax _,λy z c h1 h2=>?_,λy hy=>?_,λy c _ h=>?_,λ_=>hd,AL.frames_deeper e0.frames,.inr ⟨rfl,rfl⟩,λb z=>absurd z (noA b),e0.bs,e0.bsz,λb _ _=>noA b,λb z=>absurd z (noA b),e0.funs,e0.frf⟩,
  rfl,e0.bare,Un.kept hk,⟨_,x.toInCall.ns,λi y v h1 h2 h3=>?_⟩,λy c h=>⟨_,x.cell y c h⟩,e0.hok.fresh (Ax _),λy c h=>?_,λp hp=>absurd (show p∈([]:List (Addr×Obj)) from hp) (by simp),e0.hok.kept hk,?_⟩
 .exact name_of_addr x.apart (CU h1) (CU h2)
 .have hy:scope.names.lookup y=some .cell\/scope.names.lookup y=some .free:=hy
  rcases hy with hy|hy
  .exact qm7 hy
  .exact absurd rfl (S.nofree _ (CU hy))
 .exact D0 (x.above y c (CU h))
 .have hi:i<vs.length:=by
   unfold qfh at h2
   by_cases hi:i<vs.length
   .exact hi
   .rw[AM (by simpa using hi)]at h2
    rw[List.getElem?_replicate]at h2
    split at h2 <;>cases h2
  have ha:vs[i]?=some v:=by
   unfold qfh at h2
   rw[AT (by simpa using hi),Ai]at h2
   cases e:vs[i]? with
   |none=>rw[e]at h2;cases h2
   |some a=>rw[e]at h2;cases h2;rfl
  obtain⟨u,hu,rv⟩:=r.get ha
  have hp:ps[i]?=some y:=by
   rw[<- S.pre,List.getElem?_take_of_lt (by lia)];exact h1
  have ndP:ps.Nodup:=by rw[<- S.pre];exact S.nd.sublist (BU _ _)
  refine⟨u,rv,?_⟩
  rcases S.par y (Ay hp) with k|k
  .exact .inl ⟨k,qlm ndP hp hu k⟩
  .obtain⟨c,e⟩:=qm7 (n:=s.heap.objs.size+1) k
   refine .inr ⟨.inl k,c,e,?_⟩
   have q:=x.cell y c e
   rw[qln ndP hp hu (by show scope.names.lookup y≠_;rw[k];decide)]at q
   exact q
 .exact e0.hok.fresh (D0 (x.above y c (CU h)))
 .unfold qfh
  show _=N.length
  rw[Aj,Ac,List.length_replicate]
  lia
theorem qtp {CX:CXT}{P:AF}{w:World}{K:Ae}{mg:Str->Option Value}{base:Heap}{k:Nat}{f:Addr}{name qual:Str}{params:Arguments}{body:List Stmt}{scope:Scope}{dV kV doc pm cdv ct oc:Value}{an od:Option Addr}
  {osl:Array (Option Value)} {N ps:List Str} {sp:Sp} (lk:K.lookup f=some ⟨oc,od,.func (B1 name qual params body scope dV kV doc pm an cdv ct),osl⟩) (hcd:Ci K cdv qual=true) (S:FnScope N ps scope)
  (len:∀vs H Q E,sp vs H Q E->vs.length=ps.length)
  (hbody:∀(A:AL)(outer:List Env)(s:Af)(H:Hp)(vs:List V)(Q:VK)(E:XK),Room k (A.deeper (envOfC qual scope s.heap.objs.size f cdv))->sp vs H Q E ->
   ∃t,PSs (qmd CX P w K mg base N qual scope f cdv A outer s H E) body t/\t { nx:=λ_ H'=>Q .non H',rt:=Q } (qfh N vs) H) :
  FnOk P w K mg base CX (k+1) f (B1 name qual params body scope dV kV doc pm an cdv ct) ps sp:=by
 refine⟨len,λA outer s H args us vs Q E hr e0 hb r hsp=>?_⟩
 have hl:=len _ _ _ _ hsp
 have KX:K.In s.heap:=e0.mod.kin.keeps λb o e=>(e0.bs b o e).1
 have lim:s.heap.NoLimit:=e0.mod.nolimit.keeps λb o e=>(e0.bs b o e).1
 have hkind:∀y∈ps.zip us,scope.names.lookup y.1=some .local\/(scope.names.lookup y.1=some .cell/\((cellsFrom (s.heap.objs.size+1) scope.names []).lookup y.1).isSome=true):=λ⟨n,v⟩ hy=>by
  rcases S.par n (List.of_mem_zip hy).1 with q|q
  .exact .inl q
  .exact .inr ⟨q,PySem.W.cellsFrom_some _ _ _ (.inl q)⟩
 refine codeAny_call_function hr.depth (KX _ _ lk) rfl S.co S.gen rfl (PySem.W.codeRec_of KX hcd) (hb _ _ _ _ ?_)
 refine wpAny_newFunctionEnv_cells S.kind hkind λenv he s1 x=>?_
 subst he
 refine⟨lim.keeps x.toInCall.keep,codeAny_func ?_⟩
 obtain⟨t,ht,hq⟩:=hbody A outer s H vs Q E (hr.deeper _) hsp
 have I:Inv (qmd CX P w K mg base N qual scope f cdv A outer s H E) [] (qfh N vs) H s1:=qrd S hr.hd e0 hl r x
 refine BY (ht [] s1 (qfh N vs) H _ I hq) (λfl s' hs=>?_) λe s' hs=>hs
 have fin:∀{σ':St}{H':Hp}{v:V}{u:Value},Inv (qmd CX P w K mg base N qual scope f cdv A outer s H E) [] σ' H' s'->RelV v u->Q v H'->CE outer P w H s Q u s' :=
  λ{σ' H' v u} J rv q=>⟨v,H',J.os,J.bare,J.base,J.hok,rv,q⟩
 cases fl with
 |ret u =>
  obtain⟨v,σ',H',J,rv,q⟩:=hs
  exact fin J rv q
 |next =>
  obtain⟨σ',H',J,q⟩:=hs
  exact fin (v:=V.non) (u:=B5) J rfl q
 |brk =>
  obtain⟨_,_,_,q⟩:=hs
  exact BB q
 |cont =>
  obtain⟨_,_,_,q⟩:=hs
  exact BB q
end L2
namespace L2
open PySem PySem.Spec PyProof.Rows
section
variable {X:Cx}{x:Str}{p pos:Pos}{e:Expr}{es:List Expr}{t:TA}{id T:String}{r:List V->Hp->VK->Prop}
noncomputable def tCB (r:List V->Hp->VK->Prop)(t:TA):TE:=λσ H Q=>t σ H λvs H1=>r vs H1 Q
theorem zn (hc:qdw X (.builtin id) r)(hg:Gl X x)(hm:X.mg x=none)(hv:bootBuiltins x=some (.builtin id))(ha:PA X (e::es) t)(hn:x ≠ "__name__" := by decide)(hdb:(x == ("__debug__" : Str))=false:=by decide)
  (he:starEach (e::es) X.env=(false,eval e X.env)::starEach es X.env:=by rfl) (hpl:(backTo pos (starEach es X.env)).any (·.1)=false:=by rfl):PE X (.Call (.Name x p) (e::es) [] pos) (tCB r t):=by
 intro pins s σ H Q I h
 refine B0 (qee I hg hm hv ?_ hn hdb)
 exact CW (thn (ha pos pins s σ H _ I h) λus s1 ⟨vs,H1,I1,r1,q1⟩=>hc pins s1 σ H1 vs us Q I1 r1 q1) he hpl
theorem qcb (hc:qdw X (.type T) r)(hg:Gl X x)(hm:X.mg x=none)(hv:bootBuiltins x=some (.type T))(ha:PA X (e::es) t)(hn:x ≠ "__name__" := by decide)(hdb:(x == ("__debug__" : Str))=false:=by decide)
  (he:starEach (e::es) X.env=(false,eval e X.env)::starEach es X.env:=by rfl) (hpl:(backTo pos (starEach es X.env)).any (·.1)=false:=by rfl):PE X (.Call (.Name x p) (e::es) [] pos) (tCB r t):=by
 intro pins s σ H Q I h
 refine B0 (qee I hg hm hv ?_ hn hdb)
 exact Bv (thn (ha pos pins s σ H _ I h) λus s1 ⟨vs,H1,I1,r1,q1⟩=>hc pins s1 σ H1 vs us Q I1 r1 q1) he hpl
end
end L2
namespace HT
open PySem PyProof.Rows
section
open PySem.SeqAt
open PySem.AutoSeq1 (wpAny_loadPart')
open PySem.MeetsSeq PySem.MeetsSeq2 PySem.MeetsSeq3
end
section
variable {prog:AF}{w:World}{A:AL}{E:Value->Af->Prop}{s:Af}
noncomputable def sIx (n d:Nat):Option Int->Nat
 |none=>d
 |some v=>if v<0 then (v+(n:Int)).toNat else min v.toNat n
end
end HT
namespace L2
open PySem PySem.Spec PyProof.Rows
noncomputable abbrev TO:=St->Hp->(Option Int->Hp->Prop)->Prop
noncomputable def PO (X:Cx)(e:Option Expr)(t:TO):Prop :=
 ∀(pins:List (Addr×Obj))(s:Af)(σ:St)(H:Hp)(Q:Option Int->Hp->Prop),Inv X pins σ H s->t σ H Q ->
  wpAny (model X.prog X.w) X.A (evalPart e X.env) (λu s'=>∃o H',Inv X pins σ H' s'/\IsPart u o/\Q o H') X.xe s
noncomputable def qwj:TO:=λ_ H Q=>Q none H
noncomputable def tPart (t:TE):TO:=λσ H Q=>t σ H λx H1=>∃i,x=.int i/\Q (some i) H1
section
variable {X:Cx}{e:Expr}{te:TE}{lo hi:Option Expr}{tl th:TO}{pos p2:Pos}
theorem qcs:PO X none qwj:=by
 intro pins s σ H Q I h
 rw[evalPart_none]
 exact Al ⟨none,H,I,.none,h⟩
theorem qa0 (h:PE X e te):PO X (some e) (tPart te):=by
 intro pins s σ H Q I hw
 rw[evalPart_some]
 refine thn (h pins s σ H _ I hw) λu s1 hh9=>?_
 obtain⟨x,H1,I1,r1,q1⟩:=hh9
 obtain⟨i,rfl,q⟩:=q1
 obtain⟨t,rfl⟩:=r1
 exact⟨some i,H1,I1,.int i t,q⟩
noncomputable def SlR (X:Cx)(r:V->Option Int->Option Int->Hp->VK->Prop):Prop :=
 ∀(pins:List (Addr×Obj))(s:Af)(σ:St)(H:Hp)(x:V)(v vl vu:Value)(lo hi:Option Int)(sl:Addr)(Q:VK),Inv X pins σ H s->RelV x v->s.heap.IsSliceOf sl vl vu .none->IsPart vl lo->IsPart vu hi->r x lo hi H Q ->
  ∃T id,typeLookup (.type T) "__getitem__" = pure (some (.builtin id))/\s.TypeIs v T/\wpAny (model X.prog X.w) X.A (getItem v (.ref sl)) (EP X pins σ Q) X.xe s
noncomputable def tSl (r:V->Option Int->Option Int->Hp->VK->Prop)(te:TE)(tl th:TO):TE:=λσ H Q=>te σ H λx H1=>tl σ H1 λl H2=>th σ H2 λu H3=>r x l u H3 Q
theorem qa4 {r:V->Option Int->Option Int->Hp->VK->Prop}(hr:SlR X r)(he:PE X e te)(hl:PO X lo tl)(hu:PO X hi th):PE X (.Subscript e (.Slice lo hi none p2) pos) (tSl r te tl th):=by
 intro pins s σ H Q I h
 refine Subscript_ (thn (he pins s σ H _ I h) λv s1 hh9=>?_)
 obtain⟨x,H1,I1,r1,q1⟩:=hh9
 refine wpAny_Slice (thn (hl pins s1 σ H1 _ I1 q1) λvl s2 ⟨l,H2,I2,pl,q2⟩=>thn (hu pins s2 σ H2 _ I2 q2) λvu s3 hh9=>?_)
 obtain⟨u,H3,I3,pu,q3⟩:=hh9
 rw[evalPart_none]
 refine Al ?_
 have I4:Inv X pins σ H3 { s3 with heap:=s3.heap.push { cls:=.type "slice",data:=.fields #[vl,vu,.none] } }:=I3.kept (t':=s3.toks) λb ob q=>Ah _ q
 obtain⟨T,id,hT,ht,hg⟩:=hr pins { s3 with heap:=s3.heap.push { cls:=.type "slice",data:=.fields #[vl,vu,.none] } } σ H3 x v vl vu l u s3.heap.objs.size Q I4 r1 (Heap.IsSliceOf.new ..) pl pu q3
 show wpAny (model X.prog X.w) X.A (subscriptTail e (.Slice lo hi none p2) v (.ref s3.heap.objs.size)) (EP X pins σ Q) X.xe { s3 with heap:=s3.heap.push { cls:=.type "slice",data:=.fields #[vl,vu,.none] } }
 exact tail_any (ops:=[.ref s3.heap.objs.size,v]) ht hT hg (by with_unfolding_all rfl)
noncomputable def qgv (xs:List V)(lo hi:Option Int):List V:=(xs.drop (HT.sIx xs.length 0 lo)).take (HT.sIx xs.length xs.length hi-HT.sIx xs.length 0 lo)
theorem qm8 (xs:List V)(lo hi:Option Int):(qgv xs lo hi).length<=xs.length:=by
 unfold qgv
 rw[A2,B9]
 lia
end
end L2
namespace L2
open PySem PySem.Spec PyProof.Rows
noncomputable def ixN (n:Nat)(i:Int):Option Nat:=if 0<=i then (if i<n then some i.toNat else none) else if -(n:Int)<=i then some (i+n).toNat else none
noncomputable def atI {α:Type}(xs:List α)(i:Int):Option α:=(ixN xs.length i).bind λj=>xs[j]?
theorem qqd {n:Nat}{i:Int}{j:Nat}(h:ixN n i=some j):seqIndex? i n=some j/\j<n /\ -(n:Int)<=i/\i<n:=by
 unfold ixN at h
 by_cases h0:0<=i
 .rw[if_pos h0]at h
  by_cases h1:i<n
  .rw[if_pos h1]at h
   have e:i.toNat=j:=A7 h
   exact⟨by rw[seqIndex_of h0 h1,e],by lia,by lia,h1⟩
  .rw[if_neg h1]at h;cases h
 .rw[if_neg h0]at h
  by_cases h1 : -(n:Int)<=i
  .rw[if_pos h1]at h
   have e:(i+n).toNat=j:=A7 h
   exact⟨by rw[seqIndex_neg (by lia) h1,e],by lia,h1,by lia⟩
  .rw[if_neg h1]at h;cases h
theorem qme {α:Type}{xs:List α}{i:Int}{v:α}(h:atI xs i=some v):∃j,seqIndex? i xs.length=some j/\xs[j]?=some v/\j<xs.length /\ -(xs.length:Int)<=i/\i<xs.length:=by
 unfold atI at h
 cases e:ixN xs.length i with
 |none=>rw[e]at h;cases h
 |some j =>
  rw[e]at h
  obtain⟨h1,h2,h3,h4⟩:=qqd e
  exact⟨j,h1,h,h2,h3,h4⟩
theorem qc6 {α:Type}{xs:List α}{j:Nat}{v:α}(h:xs[j]?=some v):atI xs (j:Int)=some v:=by
 have hj:j<xs.length:=(Ag.mp h).1
 have e:ixN xs.length (j:Int)=some j:=by
  unfold ixN
  rw[if_pos (by lia),if_pos (by lia)];simp
 unfold atI;rw[e];exact h
noncomputable def qwk (b:Expr):Prop:=∀o i,subscripted b false o i=operate [o,i] (getItem o i)
noncomputable def IxR (X:Cx)(r:R2):Prop :=
 ∀(value slice:Expr)(pins:List (Addr×Obj))(s:Af)(σ:St)(H:Hp)(x y:V)(v u:Value)(Q:VK),Inv X pins σ H s->RelV x v->RelV y u->r x y H Q ->
  subscripted slice false v u=operate [v,u] (getItem v u)->wpAny (model X.prog X.w) X.A (subscriptTail value slice v u) (EP X pins σ Q) X.xe s
noncomputable def MtR (X:Cx)(id:String)(r:V->List V->Hp->VK->Prop):Prop :=
 ∀(pins:List (Addr×Obj))(s:Af)(σ:St)(H:Hp)(x:V)(xs:List V)(v:Value)(us:List Value)(Q:VK),Inv X pins σ H s->RelV x v->Vals xs us->r x xs H Q ->
  wpAny (model X.prog X.w) X.A (call (.builtin id) (v::us)) (EP X pins σ Q) X.xe s
section
variable {X:Cx}{a b:Expr}{ta tb:TE}{pos:Pos}
theorem zy {r:R2}(hr:IxR X r)(ha:PE X a ta)(hb:PE X b tb)(hs:qwk b):PE X (.Subscript a b pos) (tOp r ta tb):=by
 intro pins s σ H Q I h
 exact Subscript_ (qy8 ha hb I h λv u s2 x y H2 I2 rx ry q=>hr a b pins s2 σ H2 x y v u Q I2 rx ry q (hs _ _))
noncomputable def rIxL (K:Ae):R2:=λx y H Q=>∃p xs i v,x=.ref p/\y=.int i/\SqL K H p xs/\atI xs i=some v/\Q v H
noncomputable def rIxT (K:Ae):R2:=λx y H Q=>∃p xs i v,x=.ref p/\y=.int i/\SqT K H p xs/\atI xs i=some v/\Q v H
noncomputable def rIxS:R2:=λx y H Q=>∃z i c,x=.str z/\y=.int i/\z.length<=A0/\atI z.cps.toList i=some c/\Q (.str ⟨#[c]⟩) H
theorem jb:IxR X (rIxL X.K):=by
 intro value slice pins s σ H x y v u Q I rx ry h hs
 obtain⟨p,xs,i,z,rfl,rfl,hq,he,q⟩:=h
 cases rx
 obtain⟨t,rfl⟩:=ry
 obtain⟨its,r,pl,hz⟩:=I.list hq
 obtain⟨j,h1,h2,h3,h4,h5⟩:=qme he
 obtain⟨w,ew,rw'⟩:=r.get h2
 have hl:=r.length
 have hn:=qjv
 have fin:EP X pins σ Q w s:=⟨z,H,I,rw',q⟩
 by_cases h0:0<=i
 .have hj:i.toNat=j:=by
   rw[seqIndex_of h0 h5]at h1
   exact A7 h1
  exact item_listR pl.isList h0 (by lia) (by rw[hj];simpa using ew) fin hs
 .have hj:(i+(its.toArray.size:Int)).toNat=j:=by
   rw[seqIndex_neg (by lia) h4]at h1
   rw[Ao,<- hl]
   exact A7 h1
  exact subscriptTail_builtinR (x:=w) pl.isList.typeIs slot_list_getitem.lookup
   (wpAny_getItem_list_neg (Q:=λr s'=>r=w/\EP X pins σ Q r s') pl.isList (by lia) (by rw[Ao] <;>lia) (by lia) (by rw[hj];simpa using ew) ⟨rfl,fin⟩) hs
theorem ja:IxR X (rIxT X.K):=by
 intro value slice pins s σ H x y v u Q I rx ry h hs
 obtain⟨p,xs,i,z,rfl,rfl,hq,he,q⟩:=h
 cases rx
 obtain⟨t,rfl⟩:=ry
 obtain⟨its,r,pl,hz⟩:=I.tuple hq
 obtain⟨j,h1,h2,h3,h4,h5⟩:=qme he
 obtain⟨w,ew,rw'⟩:=r.get h2
 have hl:=r.length
 have hn:=qjv
 have fin:EP X pins σ Q w s:=⟨z,H,I,rw',q⟩
 exact subscriptTail_builtinR (x:=w) pl.typeIs slot_tuple_getitem.lookup
  (getItem_tuple (j:=j) (Q:=λr s'=>r=w/\EP X pins σ Q r s') pl (by lia) (by lia) (by rw[Ao,<- hl];exact h1) (by simpa using ew) ⟨rfl,fin⟩) hs
theorem qtq:IxR X rIxS:=by
 intro value slice pins s σ H x y v u Q I rx ry h hs
 obtain⟨z,i,c,rfl,rfl,hz,he,q⟩:=h
 obtain⟨t,rfl⟩:=rx
 obtain⟨t',rfl⟩:=ry
 obtain⟨j,h1,h2,h3,h4,h5⟩:=qme he
 have hl:z.cps.toList.length=z.length:=by simp[Str.length]
 rw[hl]at h1 h4 h5
 have hn:=qjv
 exact tail_any (typeIs_str s z t) slot_str_getitem.lookup (getItem_str (c:=c) (by
  have e1:decide (i < -(2 ^ 63:Int))=false:=decide_eq_false (by lia)
  have e2:decide (i ≥ 2 ^ 63)=false:=decide_eq_false (by lia)
  rw[e1,e2,Bool.or_false]) (by rw[h1];simpa using h2) ⟨.str ⟨#[c]⟩,H,I.tok _,⟨_,rfl⟩,q⟩) hs
theorem qox (its:List Value)(n j:Nat)(u:Value):CC (·.setIfInBounds j u) { cls:=.type "list",data:=.seq its.toArray n }={ cls:=.type "list",data:=.seq (its.set j u).toArray n }:=by
 simp[CC]
theorem Inv.lst {pins:List (Addr×Obj)}{σ:St}{H:Hp}{s:Af}{p:Addr}{xs:List V}(I:Inv X pins σ H s)(h:H p=some (.lst xs)) :
  ∃(its:List Value)(n:Nat),Vals xs its/\s.heap.get? p=some { cls:=.type "list",data:=.seq its.toArray n }/\xs.length<=A0:=by
 obtain⟨z,its,n,r,e⟩:=I.hok p _ h
 exact⟨its,n,r,e,z⟩
theorem Inv.lstUpd {pins:List (Addr×Obj)}{σ:St}{H:Hp}{s:Af}{p:Addr}{xs ys:List V}{its its':List Value}{n n':Nat}{f:Obj->Obj}(I:Inv X pins σ H s)(h:H p=some (.lst xs))
  (ho:s.heap.get? p=some { cls:=.type "list",data:=.seq its.toArray n }) (hf:f { cls:=.type "list",data:=.seq its.toArray n }={ cls:=.type "list",data:=.seq its'.toArray n' }) (r:Vals ys its') (hz:ys.length<=A0) (t:Nat) :
  Inv X pins σ (upd H p (.lst ys)) { s with heap:=s.heap.update p f,toks:=t }:=by
 have e:(s.heap.update p f).get? p=some { cls:=.type "list",data:=.seq its'.toArray n' }:=by
  rw[Bd f ho (by rw[hf] <;>rfl),hf]
 refine I.write (x:=p) (e:=p) (by rw[h];trivial) (.inl rfl) (λb u hb q=>(Bm _ _ (AZ hb)).trans q) ⟨_,e⟩ ?_
 exact⟨hz,its',n',r,e⟩
noncomputable def rSetL:V->V->V->Hp->(Hp->Prop)->Prop:=λo i v H Q=>∃p xs k j,o=.ref p/\i=.int k/\H p=some (.lst xs)/\ixN xs.length k=some j/\Q (upd H p (.lst (xs.set j v)))
theorem qm9:PSet X rSetL:=by
 intro pins s σ H o i v ov iv u Q I ro ri rv h
 obtain⟨p,xs,k,j,rfl,rfl,hp,hj,q⟩:=h
 cases ro
 obtain⟨t,rfl⟩:=ri
 obtain⟨its,n,r,ho,hz⟩:=I.lst hp
 obtain⟨h1,h2,h3,h4⟩:=qqd hj
 have hl:=r.length
 have hn:=qjv
 have I':Inv X pins σ (upd H p (.lst (xs.set j v))) { s with heap:=s.heap.update p (CC (·.setIfInBounds j u)) } :=
  I.lstUpd hp ho (qox its n j u) (r.set rv j) (by rw[Cw];exact hz) s.toks
 by_cases h0:0<=k
 .have hk:k.toNat=j:=by
   rw[seqIndex_of h0 h4]at h1
   exact A7 h1
  exact PySem.W.ki_setAt ho h0 (by lia) (by rw[Ao,<- hl];exact h4) (by rw[hk];exact⟨_,I',q⟩)
 .have hk:(k+(its.toArray.size:Int)).toNat=j:=by
   rw[seqIndex_neg (by lia) h3]at h1
   rw[Ao,<- hl]
   exact A7 h1
  exact PySem.W.ki_setBack ho (by lia) (by rw[Ao,<- hl];exact h3) (by lia) (by rw[hk];exact⟨_,I',q⟩)
theorem qmf (lo hi:Option Int)(n:Nat):(sliceBounds lo hi none n).1=((HT.sIx n 0 lo:Nat):Int)/\(sliceBounds lo hi none n).2.1=((HT.sIx n n hi:Nat):Int)/\(sliceBounds lo hi none n).2.2=1:=by
 refine⟨?_,?_,rfl⟩
 .cases lo with
  |none=>simp[sliceBounds,HT.sIx]
  |some i =>
   simp only[sliceBounds,HT.sIx,Option.getD_none,show (1:Int) > 0 by decide,if_true]
   by_cases h:i<0
   .simp only[h,if_true] <;>lia
   .simp only[h,if_false] <;>lia
 .cases hi with
  |none=>simp[sliceBounds,HT.sIx]
  |some i =>
   simp only[sliceBounds,HT.sIx,Option.getD_none,show (1:Int) > 0 by decide,if_true]
   by_cases h:i<0
   .simp only[h,if_true] <;>lia
   .simp only[h,if_false] <;>lia
theorem qk4 (its:List Value)(lo hi:Option Int):slicePick its.toArray lo hi none=((its.drop (HT.sIx its.length 0 lo)).take (HT.sIx its.length its.length hi-HT.sIx its.length 0 lo)).toArray:=by
 obtain⟨h1,h2,h3⟩:=qmf lo hi its.toArray.size
 unfold slicePick
 rw[h1,h2,h3]
 simp only[sliceRange_one,pick_run,Ao] <;>rfl
noncomputable def rSlL (K:Ae):V->Option Int->Option Int->Hp->VK->Prop:=λx lo hi H Q=>∃a xs,x=.ref a/\SqL K H a xs/\∀p,H p=none->Q (.ref p) (upd H p (.lst (qgv xs lo hi)))
theorem qb3:SlR X (rSlL X.K):=by
 intro pins s σ H x v vl vu lo hi sl Q I rx hs pl pu h
 obtain⟨a,xs,rfl,hx,q⟩:=h
 cases rx
 obtain⟨its,r,ht,hz⟩:=I.list hx
 have hlen:=r.length
 refine⟨"list",_,slot_list_getitem.lookup,ht.isList.typeIs,?_⟩
 refine wpAny_getItem_list_slice ht.isList hs pl pu .none (by simp) ?_ (by rw[Ao] <;>lia)
 rw[qk4,<- hlen]
 refine⟨.ref s.heap.objs.size,_,I.laid (t':=s.toks) (o:=.lst (qgv xs lo hi)) (λb ob q=>Ah _ q) (Ax _) ?_,rfl,q _ (I.hok.fresh (Ax _))⟩
 exact⟨A3 (qm8 xs lo hi) hz,_,0,(r.drop (HT.sIx xs.length 0 lo)).take (HT.sIx xs.length xs.length hi-HT.sIx xs.length 0 lo),Au _ rfl⟩
noncomputable def qbn:V->Bool
 |.non=>true
 |.bl _=>true
 |.int _=>true
 |.str _=>true
 |_=>false
noncomputable def eqV:V->V->Bool
 |.non,.non=>true
 |.bl a,.bl b=>a == b
 |.bl a,.int b=>(if a then 1 else 0) == b
 |.int a,.bl b=>a == (if b then 1 else 0)
 |.int a,.int b=>a == b
 |.str a,.str b=>a == b
 |_,_=>false
theorem qtr {A:AL}{s:Af}{y x:V}{u v:Value}(ry:RelV y u)(rx:RelV x v)(fy:qbn y=true)(fx:qbn x=true):Bz A s u v (eqV y x):=by
 cases y with
 |non =>
  cases ry
  cases x with
  |non=>cases rx;exact Bz.same _
  |bl b=>cases rx;exact Bz.none_bool b
  |int b=>obtain⟨t,rfl⟩:=rx;exact Bz.none_int b t
  |str b=>obtain⟨t,rfl⟩:=rx;exact Bz.none_str b t
  |_=>exact absurd (show false=true from fx) AC
 |bl a =>
  cases ry
  cases x with
  |non=>cases rx;exact Bz.bool_none a
  |bl b=>cases rx;exact Bz.bool_bool a b
  |int b=>obtain⟨t,rfl⟩:=rx;exact Bz.bool_int a b t
  |str b=>obtain⟨t,rfl⟩:=rx;exact Bz.bool_str a b t
  |_=>exact absurd (show false=true from fx) AC
 |int a =>
  obtain⟨t',rfl⟩:=ry
  cases x with
  |non=>cases rx;exact Bz.int_none a t'
  |bl b=>cases rx;exact Bz.int_bool a t' b
  |int b=>obtain⟨t,rfl⟩:=rx;exact Bz.int_int a t' b t
  |str b=>obtain⟨t,rfl⟩:=rx;exact Bz.int_str a t' b t
  |_=>exact absurd (show false=true from fx) AC
 |str a =>
  obtain⟨t',rfl⟩:=ry
  cases x with
  |non=>cases rx;exact Bz.str_none a t'
  |bl b=>cases rx;exact Bz.str_bool a t' b
  |int b=>obtain⟨t,rfl⟩:=rx;exact Bz.str_int a t' b t
  |str b=>obtain⟨t,rfl⟩:=rx;exact Bz.str_str a t' b t
  |_=>exact absurd (show false=true from fx) AC
 |_=>exact absurd (show false=true from fy) AC
noncomputable def eqU (x:V)(u:Value):Bool:=match u with
 |.none=>eqV .non x
 |.bool b=>eqV (.bl b) x
 |.int i _=>eqV (.int i) x
 |.str z _=>eqV (.str z) x
 |_=>false
theorem qts {x y:V}{u:Value}(r:RelV y u)(f:qbn y=true):eqU x u=eqV y x:=by
 cases y with
 |non=>cases r;rfl
 |bl b=>cases r;rfl
 |int i=>obtain⟨t,rfl⟩:=r;rfl
 |str z=>obtain⟨t,rfl⟩:=r;rfl
 |_=>exact absurd (show false=true from f) AC
theorem qhc {x:V}:∀{xs:List V}{us:List Value},Vals xs us->xs.all qbn=true->us.any (eqU x)=xs.any λy=>eqV y x
 |_,_,.nil,_=>rfl
 |y::xs,u::us,.cons r t,f=>by
  rw[C9,AE]at f
  rw[DF,DF,qts r f.1,qhc t f.2]
theorem qfn {A:AL}{s:Af}{x:V}{v:Value}(rx:RelV x v)(fx:qbn x=true):∀{xs:List V}{us:List Value},Vals xs us->xs.all qbn=true->∀u∈us,Bz A s u v (eqU x u)
 |_,_,.nil,_=>λu hu=>by cases hu
 |y::xs,u::us,.cons r t,f=>λu' hu=>by
  rw[C9,AE]at f
  rcases Ap.mp hu with rfl|hu
  .rw[qts r f.1];exact qtr r rx f.1 fx
  .exact qfn rx fx t f.2 u' hu
noncomputable def inV (x:V)(xs:List V):Bool:=xs.any λy=>eqV y x
noncomputable def rIn (K:Ae)(neg:Bool):R2:=λx y H Q=>∃p xs,y=.ref p/\(SqL K H p xs\/SqT K H p xs)/\qbn x=true/\xs.all qbn=true/\Q (.bl (if neg then !inV x xs else inV x xs)) H
theorem qcc:OpR X (compareOp .In) (rIn X.K false):=by
 intro pins s σ H x y v u Q I rx ry h
 obtain⟨p,xs,rfl,hq,fx,fs,q⟩:=h
 cases ry
 rcases hq with hq|hq
 .obtain⟨its,r,pl,hz⟩:=I.list hq
  refine SeqAt.in_listAt (eqU x) pl.isList (λw hw=>qfn rx fx r fs w (by simpa using hw)) ⟨.bl _,H,I,rfl,?_⟩
  rw[show its.toArray.any (eqU x)=its.any (eqU x) by simp,qhc r fs]
  exact q
 .obtain⟨its,r,pl,hz⟩:=I.tuple hq
  refine SeqAt.in_tupleAt (eqU x) pl (λw hw=>qfn rx fx r fs w (by simpa using hw)) ⟨.bl _,H,I,rfl,?_⟩
  rw[show its.toArray.any (eqU x)=its.any (eqU x) by simp,qhc r fs]
  exact q
theorem qe6:OpR X (compareOp .NotIn) (rIn X.K true):=by
 intro pins s σ H x y v u Q I rx ry h
 obtain⟨p,xs,rfl,hq,fx,fs,q⟩:=h
 cases ry
 rcases hq with hq|hq
 .obtain⟨its,r,pl,hz⟩:=I.list hq
  refine SeqAt.notIn_listAt (eqU x) pl.isList (λw hw=>qfn rx fx r fs w (by simpa using hw)) ⟨.bl _,H,I,rfl,?_⟩
  rw[show its.toArray.any (eqU x)=its.any (eqU x) by simp,qhc r fs]
  exact q
 .obtain⟨its,r,pl,hz⟩:=I.tuple hq
  refine SeqAt.notIn_tupleAt (eqU x) pl (λw hw=>qfn rx fx r fs w (by simpa using hw)) ⟨.bl _,H,I,rfl,?_⟩
  rw[show its.toArray.any (eqU x)=its.any (eqU x) by simp,qhc r fs]
  exact q
theorem qhd:qdw X (.type "list") (λxs H Q=>∃p ys,xs=[.ref p]/\(SqL X.K H p ys\/SqT X.K H p ys)/\∀l,H l=none->Q (.ref l) (upd H l (.lst ys))):=by
 intro pins s σ H xs us Q I r h
 obtain⟨p,ys,rfl,hq,q⟩:=h
 obtain⟨u,rfl,rx⟩:=qe0 r
 cases rx
 have fin:∀(its:List Value),Vals ys its->ys.length<=A0->∀(h':Heap)(c':Nat),(∀b o',s.heap.get? b=some o'->h'.get? b=some o') ->
   h'.get? s.heap.objs.size=some { cls:=.type "list",dict:=none,data:=.seq its.toArray c',slots:=#[] }->EP X pins σ Q (.ref s.heap.objs.size) { s with heap:=h' }:=λits r' hz h' c' kp e =>
  ⟨.ref s.heap.objs.size,_,I.laid (t':=s.toks) kp (Ax _) (show ObjOk X.prog X.w _ h' _ (.lst ys) from ⟨hz,its,c',r',e⟩),rfl,q _ (I.hok.fresh (Ax _))⟩
 rcases hq with hq|hq
 .obtain⟨its,r',pl,hz⟩:=I.list hq
  have hlen:=r'.length
  obtain⟨o,ho,hc,n,hd⟩:=pl.isList
  exact call_list_seq p (.inl rfl) ho hc hd (λh' c' kp e=>fin its r' hz h' c' kp e) (by simp only[Ao] <;>lia)
 .obtain⟨its,r',pl,hz⟩:=I.tuple hq
  have hlen:=r'.length
  obtain⟨o,ho,hc,n,hd⟩:=pl
  exact call_list_seq p (.inr rfl) ho hc hd (λh' c' kp e=>fin its r' hz h' c' kp e) (by simp only[Ao] <;>lia)
noncomputable def tyV (K:Ae)(T:String)(x:V)(H:Hp):Prop:=match x with
 |.str _=>T = "str"
 |.int _=>T = "int"
 |.ref p=>(T = "list" /\ ∃xs,SqL K H p xs)\/(T = "tuple" /\ ∃o,K.lookup p=some o/\o.cls=.type "tuple" /\ o.dict=none) \/
   (T = "dict" /\ ((∃kvs,H p=some (.dK kvs)) \/ ∃kvs,H p=some (.dT kvs)))\/(T = "set" /\ ∃S n,H p=some (.set S n))
 |_=>False
theorem qtt {pins:List (Addr×Obj)}{σ:St}{H:Hp}{s:Af}{T:String}{x:V}{v:Value}(I:Inv X pins σ H s)(r:RelV x v)(ty:tyV X.K T x H) :
  s.TypeIs v T/\∀a,v=.ref a->∃ob,s.heap.get? a=some ob/\ob.dict=none:=by
 cases x with
 |str z =>
  obtain⟨t,rfl⟩:=r
  cases (show T = "str" from ty)
  exact⟨typeIs_str s z t,λ_ e=>nomatch e⟩
 |int i =>
  obtain⟨t,rfl⟩:=r
  cases (show T = "int" from ty)
  exact⟨typeIs_int s i t,λ_ e=>nomatch e⟩
 |ref p =>
  cases r
  rcases ty with ⟨rfl,xs,hq⟩|⟨rfl,o,hk,hc,hd⟩|⟨rfl,hk⟩|⟨rfl,S,n,hk⟩
  .obtain⟨its,_,pl,_⟩:=I.list hq
   refine⟨pl.isList.typeIs,λa e=>?_⟩
   cases e
   obtain⟨o,n,e,c,hd,_⟩:=pl
   exact⟨o,e,hd⟩
  .refine⟨⟨o,I.kIn p o hk,hc⟩,λa e=>?_⟩
   cases e
   exact⟨o,I.kIn _ o hk,hd⟩
  .have z:∃o,s.heap.get? p=some o/\o.ExactDict:=by
    rcases hk with ⟨kvs,hk⟩|⟨kvs,hk⟩
    .obtain⟨_,_,_,_,o,_,_,e,ex,_⟩:=I.hok p _ hk
     exact⟨o,e,ex⟩
    .obtain⟨_,_,_,_,o,_,_,e,ex,_⟩:=I.hok p _ hk
     exact⟨o,e,ex⟩
   obtain⟨o,e,ex⟩:=z
   refine⟨⟨o,e,ex.1⟩,λa e2=>?_⟩
   cases e2
   exact⟨o,e,ex.2.1⟩
  .obtain⟨o,_,_,_,e,ex,_⟩:=I.hok p _ hk
   refine⟨⟨o,e,ex.1⟩,λa e2=>?_⟩
   cases e2
   exact⟨o,e,ex.2.1⟩
 |_=>exact BB ty
noncomputable def tBM0 (K:Ae)(T:String)(r:V->List V->Hp->VK->Prop)(to:TE):TE:=λσ H Q=>to σ H λx H1=>tyV K T x H1/\r x [] H1 Q
noncomputable def tBM (K:Ae)(T:String)(r:V->List V->Hp->VK->Prop)(to:TE)(t:TA):TE:=λσ H Q=>to σ H λx H1=>tyV K T x H1/\t σ H1 λxs H2=>r x xs H2 Q
variable {o e:Expr}{es:List Expr}{to:TE}{t:TA}{name:Str}{apos cpos:Pos}{T id:String}{r:V->List V->Hp->VK->Prop}
theorem qy9 (pa:PlainAttrs T)(slot:Slot T name id)(hty:typeOf (.builtin id)=pure (.type "method_descriptor"))(hm:MtR X id r)(ho:PE X o to)
  (hbase:attributeBase o name X.env (eval o X.env)=eval o X.env:=by rfl) (hline:(apos.endLine == cpos.line)=true:=by rfl):PE X (.Call (.Attribute o name apos) [] [] cpos) (tBM0 X.K T r to):=by
 intro pins s σ H Q I h
 refine DR hbase hline (thn (ho pins s σ H _ I h) λv s1 hh9=>?_)
 obtain⟨x,H1,I1,r1,ty,q1⟩:=hh9
 obtain⟨h1,h2⟩:=qtt I1 r1 ty
 exact⟨T,id,pa,slot,hty,h1,h2,De rfl (PySem.evalArgs_none (hm pins s1 σ H1 x [] v [] Q I1 r1 .nil q1))⟩
theorem qde (pa:PlainAttrs T)(slot:Slot T name id)(hty:typeOf (.builtin id)=pure (.type "method_descriptor"))(hm:MtR X id r)(ho:PE X o to)(ha:PA X (e::es) t)
  (hbase:attributeBase o name X.env (eval o X.env)=eval o X.env:=by rfl)
  (hfew:((backTo cpos (starEach (e::es) X.env)).all (λx=>!x.1) && (backToKw cpos (keywordEach [] X.env)).all (λx=>x.1.isSome)
   && decide ((e::es).length+([]:List Keyword).length+(if ([]:List Keyword).isEmpty then 0 else 1)<30))=true:=by rfl)
  (hline:(apos.endLine == cpos.line)=true:=by rfl) (hs:starEach (e::es) X.env=(false,eval e X.env)::starEach es X.env:=by rfl) (hplain:(backTo cpos (starEach es X.env)).any (·.1)=false:=by rfl) :
  PE X (.Call (.Attribute o name apos) (e::es) [] cpos) (tBM X.K T r to t):=by
 intro pins s σ H Q I h
 refine wpAny_Call_method_late hbase hfew hline rfl (thn (ho pins s σ H _ I h) λv s1 hh9=>?_)
 obtain⟨x,H1,I1,r1,ty,q1⟩:=hh9
 obtain⟨h1,h2⟩:=qtt I1 r1 ty
 refine⟨T,id,pa,slot,hty,h1,h2,?_⟩
 have hA:=ha cpos pins s1 σ H1 _ I1 q1
 rw[hs]at hA |-
 refine De (by show (false || (backTo cpos (starEach es X.env)).any (·.1))=false;rw[hplain] <;>rfl) (Calls.evalArgs_plain ?_)
 exact thn hA λus s2 ⟨vs,H2,I2,r2,q2⟩=>hm pins s2 σ H2 x vs v us Q I2 r1 r2 q2
/- xs.append(e),list.index on a module's tuple .. are MtR facts of 06m -/
end
end L2
namespace L2
open PySem PySem.Spec PyProof.Rows
noncomputable def MtM (X:Cx)(id:String)(r:V->List V->Hp->VK->Prop):Prop :=
 ∀(pins:List (Addr×Obj))(s:Af)(σ:St)(H:Hp)(x:V)(xs:List V)(v:Value)(us:List Value)(Q:VK),Inv X pins σ H s->RelV x v->Vals xs us->r x xs H Q ->
  wpAny (model X.prog X.w) X.A (call (.builtin id) (v::us)) (EP X pins σ Q) X.xe s
theorem Vals.one {x:V}{us:List Value}(h:Vals [x] us):∃u,us=[u]/\RelV x u:=by
 cases h with|cons r t=>cases t;exact⟨_,rfl,r⟩
theorem Vals.two {x y:V}{us:List Value}(h:Vals [x,y] us):∃u v,us=[u,v]/\RelV x u/\RelV y v:=by
 cases h with|cons r t=>cases t with|cons q t=>cases t;exact⟨_,_,rfl,r,q⟩
theorem Vals.zero:∀{us:List Value},Vals [] us->us=[]
 |_,.nil=>rfl
section
variable {X:Cx}{pins:List (Addr×Obj)}{σ:St}{H:Hp}{s:Af}{l b:Addr}{xs ys zs:List V}
theorem Inv.lset {its its':List Value}{n:Nat}{f:Array Value->Array Value}{t':Nat}(I:Inv X pins σ H s)(hH:H l=some (.lst xs))
  (e:s.heap.get? l=some { cls:=.type "list",data:=.seq its.toArray n }) (hf:f its.toArray=its'.toArray) (hv:Vals ys its') (hz:ys.length<=A0) :
  Inv X pins σ (upd H l (.lst ys)) { s with heap:=s.heap.update l (CC f),toks:=t' }:=by
 have q:=PySem.IsL.update e f
 rw[hf]at q
 refine I.write (x:=l) (e:=l) (by rw[hH];exact trivial) (.inl rfl) (λb' u hb hu=>(Bm s.heap (CC f) (AZ hb)).trans hu) ⟨_,q⟩ ?_
 exact⟨hz,its',_,hv,q⟩
theorem Inv.lnew {its:List Value}{t':Nat}(I:Inv X pins σ H s)(hv:Vals ys its)(hz:ys.length<=A0) :
  Inv X pins σ (upd H s.heap.objs.size (.lst ys)) { s with heap:=s.heap.push { cls:=.type "list",data:=.seq its.toArray },toks:=t' } :=
 I.laid (λ_ _ q=>Ah _ q) (Ax _) ⟨hz,its,0,hv,Au _ rfl⟩
theorem Inv.fresh (I:Inv X pins σ H s):H s.heap.objs.size=none:=I.hok.fresh (Ax _)
theorem Inv.lstM (I:Inv X pins σ H s)(hH:H l=some (.lst xs)):xs.length<=A0/\∃(its:List Value)(n:Nat),Vals xs its/\xs.length=its.length/\s.heap.get? l=some { cls:=.type "list",data:=.seq its.toArray n }:=by
 obtain⟨z,its,n,r,e⟩:=I.hok l _ hH
 exact⟨z,its,n,r,r.length,e⟩
theorem qna {n:Nat}(h:n<=A0):AG.List.listTooLong n=false:=by
 unfold AG.List.listTooLong
 exact decide_eq_false (by lia)
end
section
variable {X:Cx}
noncomputable def qwl:V->List V->Hp->VK->Prop:=λx vs H Q=>∃l xs y,x=.ref l/\vs=[y]/\H l=some (.lst xs)/\xs.length<A0/\Q .non (upd H l (.lst (xs++[y])))
theorem qa7:MtM X "list.append" qwl:=by
 intro pins s σ H x vs v us Q I rx rv h
 obtain⟨l,xs,y,rfl,rfl,hH,hz,q⟩:=h
 cases rx
 obtain⟨u,rfl,ru⟩:=rv.one
 obtain⟨z,its,n,r,hl,e⟩:=I.lstM hH
 refine DN F.slot_list_append ⟨_,e,rfl⟩ F.entry_list_append (F.args_list_append_2 _ _) (PySem.list_append l its.toArray n u (by rw[Ao];lia)) ⟨e,?_⟩
 refine⟨.non,_,I.lset (its':=its++[u]) hH e (by simp) (r.append (.cons ru .nil)) ?_,rfl,q⟩
 rw[Aj,Br]
 lia
noncomputable def qza:V->List V->Hp->VK->Prop:=λx vs H Q=>∃l xs,x=.ref l/\vs=[]/\H l=some (.lst xs)/\Q .non (upd H l (.lst []))
theorem qtu:MtM X "list.clear" qza:=by
 intro pins s σ H x vs v us Q I rx rv h
 obtain⟨l,xs,rfl,rfl,hH,q⟩:=h
 cases rx
 have hus:=rv.zero
 subst hus
 obtain⟨z,its,n,r,hl,e⟩:=I.lstM hH
 refine DN F.slot_list_clear ⟨_,e,rfl⟩ F.entry_list_clear (F.args_list_clear_1 _) (AutoSeq1.list_clear_list_0 l its.toArray n (by rw[Ao];lia)) ⟨e,?_⟩
 exact⟨.non,_,I.lset (its':=[]) (ys:=[]) hH e rfl .nil (Bs _),rfl,q⟩
noncomputable def rCat:R2:=λx y H Q=>∃l b xs zs,x=.ref l/\y=.ref b/\H l=some (.lst xs)/\H b=some (.lst zs)/\xs.length+zs.length<=A0/\∀p,H p=none->Q (.ref p) (upd H p (.lst (xs++zs)))
theorem qce:OpR X (binaryOp .Add) rCat:=by
 intro pins s σ H x y v u Q I rx ry h
 obtain⟨l,b,xs,zs,rfl,rfl,hH,hB,hz,q⟩:=h
 cases rx
 cases ry
 obtain⟨z,its,n,r,hl,e⟩:=I.lstM hH
 obtain⟨z2,its2,n2,r2,hl2,e2⟩:=I.lstM hB
 refine PySem.P.add_list e e2 ?_ (by rw[Ao,Ao];lia)
 have ea:its.toArray++its2.toArray=(its++its2).toArray:=by simp
 rw[ea]
 exact⟨.ref _,_,I.lnew (t':=s.toks) (r.append r2) (by rw[Aj];lia),rfl,q _ I.fresh⟩
end
section
variable {prog:AF}{w:World}{A:AL}{E:Value->Af->Prop}{s:Af}
end
section
variable {X:Cx}
end
end L2
namespace Att
open PySem PySem.W PySem.Calls PyProof.Rows
theorem qjd {P:Params}{h:Heap}:∀(ns:List Int)(vs:List Value),WellAll P h vs (ns.map WData.int)->IntsAre vs ns:=by
 intro ns
 induction ns with
 |nil =>
  intro vs w
  rw[BV]at w
  cases w
  exact .nil
 |cons n ns ih =>
  intro vs w
  rw[AA]at w
  cases w with
  |cons a b =>
   cases a
   exact .cons _ _ (ih _ b)
theorem qre {l:OpenLaw}{n:Nat}(hn:l.most=some n){P:Params}{h:Heap}{args:List WData}{qb2:List Value}
  (hpre:l.row.toRowW.claim.pre args=true) (hwl:WellAll P h qb2 args) :
  ∃a vs ns,qb2=[Ar a]/\args=[WData.list (ns.map WData.int)]/\h.get? a=some { cls:=.type "list",data:=.seq vs.toArray }/\IntsAre vs ns/\ns.length<=n:=by
 have hsh:WShape.hasAll [] args [.list .int]=true:=(pre_splitW hpre).1
 have hc:l.pre.holds [] { args:=args }=true:=(pre_splitW hpre).2
 obtain⟨d,r,rfl,h1,h2⟩:=hasAllW_cons hsh
 obtain rfl:=hasAllW_nil h2
 obtain⟨xs,rfl,h3⟩:=hasW_list h1
 obtain⟨ns,rfl⟩:=items_int h3
 have hlen:ns.length<=n:=by
  unfold OpenLaw.pre at hc
  have h4:(WTm.not (.lt (.lit (.int (n:Int))) (.len (.arg 0)))).holds [] { args:=[.list (ns.map .int)] }=true:=by
   have h4:=(holds_andW hc).1
   rw[hn]at h4
   exact h4
  have h5:=condW_of h4 (w_not (w_lt w_lit (w_len_list (w_arg rfl))))
  rw[Ac]at h5
  refine Nat.le_of_not_lt λq=>?_
  have q':(n:Int)<((ns.length:Nat):Int):=by lia
  first
   | (rw[decide_eq_true q']at h5;exact absurd h5 En)
   | (simp at h5;lia)
 cases hwl with
 |cons w1 w2 =>
  cases w2
  cases w1 with
  |list ho hall=>exact⟨_,_,ns,rfl,rfl,ho,qjd ns _ hall,hlen⟩
theorem qrf (l:OpenLaw)(args:List WData):l.row.toRowW.claim.post args (.bool true) args=true :=
 postW_of (r:=l.row.toRowW) (X:=(true == true))
  (show WShape.has [] (.bool true) .bool=true by first|rfl|decide|simp[WShape.has,WShape.arms,WShape.armsAll])
  (show (WTm.eq .res (.lit (.bool true))).value [] { args:=args,res:=some (.bool true),after:=args }=some (.bool (true == true)) from w_eq_bool (w_res rfl) w_lit) rfl
theorem attach_call {l:OpenLaw}{n:Nat}{q:AF}{loose:List Str}{XP:(Str->Option Value)->Heap->Prop}{YP:World->Heap->Prop}{d:DefRec}
  (hn:l.most=some n) (hdf:d.params.defaults=[])
  (call:∀(w:World)(s₀ s₁:Af)(mg mb:Str->Option Value)(fa:Addr)(o:Obj)(pm cd doc:Value)(a:Addr)(vs:List Value)(ns:List Int),
   Ground q loose [] XP w s₀ mg mb s₁.heap->YP w s₁.heap ->
   s₁.heap.get? fa=some o->o.data=.func (docDef d.name d.params d.body d.scope pm cd doc)->s₁.heap.CodeRec cd d.name->mg d.name=some (.ref fa) ->
   s₁.heap.get? a=some { cls:=.type "list",data:=.seq vs.toArray }->IntsAre vs ns->ns.length<=n->s₁.gens=#[] ->
   codeAny (model l.prog w) callerA (.call (.ref fa) ⟨[.ref a],[]⟩) (λr s'=>r=.ok (.ret (.bool true))/\OldK s₁.heap s'.heap/\s'.os=s₁.os/\AllBare s'.gens) s₁) :
  WalkO q loose XP YP l.row.toRowW d [] (λf vs=>PySem.call f vs):=by
 intro w s₀ s₁ mg mb G Y fa o pm cd doc dV kV ho hd hcd hD hmg hg args qb2 as hpre hlay hrd hwl hlo
 obtain rfl:dV=.none:=Dflts.none hD hdf
 obtain rfl:kV=.none:=Dflts.noKw hD
 obtain⟨a,vs,ns,rfl,rfl,hobj,hints,hlen⟩:=qre hn hpre hwl
 refine enter_call (C8 (call w s₀ s₁ mg mb fa o pm cd doc a vs ns G Y ho (fd_plain hd) hcd hmg hobj hints hlen hg) λr s' hq=>?_)
 obtain⟨rfl,h2,h3,h4⟩:=hq
 exact⟨.inl ⟨.bool true,.bool true,[],rfl,λ_=>rfl,.bool true,qrf l _,λ_=>⟨List.Pairwise.nil,λ_ hm=>(nomatch hm)⟩⟩,h2,h3,h4⟩
section
variable {prog:AF}{w:World}{A:AL}{E:Value->Af->Prop}{s:Af}{K:Frag}
noncomputable def ledger (h:Heap)(L d:Addr):List (Addr×Obj):=(Bh h.objs.size).filterMap λa=>if a=L\/a=d then none else (h.get? a).map λo=>(a,o)
end
end Att
namespace L2
open PySem PySem.Spec PyProof.Rows
theorem qlo:∀{vs:List Value}{ns:List Int},IntsAre vs ns->Vals (ns.map V.int) vs
 |_,_,.nil=>.nil
 |_,_,.cons n t h=>.cons ⟨t,rfl⟩ (qlo h)
noncomputable def qzb (H:Hp):Prop:=∀b,H b=none \/ ∃o xs,H b=some (.frz o (.lst xs))
theorem qtv {P:AF}{w:World}{K:Ae}{mg mb:Str->Option Value}{CX:CXT}{k:Nat}{fa a:Addr}{fd:AB}{x:Str}{sp:Sp}{s₁:Af}{vs:List Value}{ns:List Int}
  (KX:K.In s₁.heap) (hns:s₁.heap.Ns A5 mg) (hb:s₁.heap.Ns builtinsNs mb) (hbb:∀x:Str,x ≠ "__name__" -> mb x=bootBuiltins x) (hlim:s₁.heap.NoLimit) (hg:s₁.gens=#[])
  (ha:s₁.heap.get? a=some { cls:=.type "list",data:=.seq vs.toArray }) (hi:IntsAre vs ns) (hl:ns.length<=A0) (hr:Room k callerA)
  (F:∀base:Heap,K.In base->base.Ns A5 mg->FnOk P w K mg base CX k fa fd [x] sp) (hbind:∀(s:Af)(u:Value),BindsTo s fd ⟨[u],[]⟩ [(x,u)])
  (hsp:∀H:Hp,qzb H->SqL K H a (ns.map V.int)->sp [.ref a] H (λv _=>v=.bl true) λ_ _ _=>False)
  (hCX:∀H e s',CX [] H s₁ (λ_ _ _=>False) e s'->False) :
  codeAny (model P w) callerA (.call (.ref fa) ⟨[.ref a],[]⟩) (λr s'=>r=.ok (.ret (.bool true))/\OldK s₁.heap s'.heap/\s'.os=s₁.os/\AllBare s'.gens) s₁:=by
 have rv:=qlo hi
 have lenV:=hi.length
 -- from an abstract heap in which nothing but the script may be tracked
 have core:∀H:Hp,qzb H->SqL K H a (ns.map V.int)->HOk P w H s₁.heap->(∀b,H b≠none->b=a)->(H a≠none->K.lookup a=none) ->
   codeAny (model P w) callerA (.call (.ref fa) ⟨[.ref a],[]⟩) (λr s'=>r=.ok (.ret (.bool true))/\OldK s₁.heap s'.heap/\s'.os=s₁.os/\AllBare s'.gens) s₁:=by
  intro H hO hS hok hA hK
  have base_of:∀{b:Addr}{o:Obj},s₁.heap.get? b=some o->H b=none->(ql9 s₁.heap H).get? b=some o:=λe n=>qtb e n
  have noA:∀{b:Addr}{o:Obj}{es:Array DictEntry}{ep:Nat},s₁.heap.get? b=some o->o.data=.dict es ep->H b=none:=λ{b o es ep} e d=>by
   cases q:H b with
   |none=>rfl
   |some u =>
    have e':b=a:=hA b (by rw[q];simp)
    subst e'
    rw[ha]at e;cases e
    have d':Data.seq vs.toArray _=Data.dict es ep:=d
    cases d'
  have nsK:∀{b:Addr}{m:Str->Option Value},s₁.heap.Ns b m->(ql9 s₁.heap H).Ns b m:=λ{b m} ⟨o,es,ep,e,d,r⟩=>⟨o,es,ep,base_of e (noA e d),d,r⟩
  have hKb:K.In (ql9 s₁.heap H):=λb o e=>base_of (KX b o e) (by
   cases q:H b with
   |none=>rfl
   |some u =>
    have e':b=a:=hA b (by rw[q];simp)
    subst e'
    rw[hK (by rw[q];simp)]at e;cases e)
  have hM:Mod K mg (ql9 s₁.heap H):=⟨hKb,nsK hns,⟨mb,nsK hb,hbb⟩,let ⟨mc,h1,h2⟩:=hlim;⟨mc,nsK h1,h2⟩⟩
  have e0:Env0 P w K mg (ql9 s₁.heap H) callerA [] s₁ H:=⟨rfl,hM,λb o e=>qwb e,BS (qq7 _ _),trivial,λb hb=>absurd (show b∈([]:List Addr) from hb) (by simp),hok,.of_eq hg⟩
  refine C8 ((F _ hKb (nsK hns)).run callerA [] s₁ H ⟨[.ref a],[]⟩ [.ref a] [.ref a] _ _ hr e0 (hbind s₁ (.ref a)) (.cons rfl .nil) (hsp H hO hS)) λr s' h=>?_
  cases r with
  |error e=>exact(hCX H e s' h).elim
  |ok fl =>
   cases fl with
   |next=>exact BB h
   |brk=>exact BB h
   |cont=>exact BB h
   |ret u =>
    obtain⟨v,H',os,bare,un,hok',r',q⟩:=h
    have q':v=.bl true:=q
    subst q'
    obtain rfl:u=Value.bool true:=r'
    refine⟨rfl,OldK.of_keep λb o e=>?_,os,bare⟩
    cases q:H b with
    |none=>exact un.keep b o e q (by intro z;exact absurd (show b∈([]:List Addr) from z) (by simp)) (by simp)
    |some u =>
     rcases hO b with z|⟨ob,xs,z⟩
     .rw[q]at z;cases z
     .have z2:=un.frzs b ob _ z
      obtain⟨e1,_⟩:=hok b _ z
      obtain⟨e2,_⟩:=hok' b _ z2
      rw[e]at e1;cases e1
      exact e2
 cases hk:K.lookup a with
 |some o =>
  -- the script is one of the module's own objects
  have e:=KX a o hk
  rw[ha]at e
  cases e
  refine core (λ_=>none) (λ_=>.inl rfl) (.inr ⟨_,vs.toArray,_,hk,rfl,rfl,rfl,by rw[Ao,lenV];exact hl,by simpa using rv⟩) (λb u z=>by have z':(none:Option HO)=some u:=z;cases z') (λb z=>absurd rfl z) λz=>absurd rfl z
 |none =>
  refine core (λb=>if b=a then some (.frz { cls:=.type "list",data:=.seq vs.toArray } (.lst (ns.map V.int))) else none) (λb=>?_) (.inl (.inr ⟨{ cls:=.type "list",data:=.seq vs.toArray },if_pos rfl⟩)) (λb u z=>?_) (λb z=>?_) λ_=>hk
  .by_cases hb:b=a
   .exact .inr ⟨_,_,if_pos hb⟩
   .exact .inl (if_neg hb)
  .by_cases hb:b=a
   .have z':=(if_pos hb).symm.trans z
    cases z'
    subst hb
    exact⟨ha,by rw[Ac];exact hl,vs,_,rv,ha⟩
   .have z':=(if_neg hb).symm.trans z
    cases z'
  .by_cases hb:b=a
   .exact hb
   .exact absurd (if_neg hb) z
end L2
namespace L2
open PySem PySem.Spec PyProof.Rows
noncomputable abbrev KOf {K:Ae}{h:Heap}(_:K.In h):Ae:=K
theorem walk_of {l:PySem.W.OpenLaw}{n k:Nat}{q:AF}{loose:List Str}{XP:(Str->Option Value)->Heap->Prop}{YP:World->Heap->Prop}{d:DefRec}{K:Params->Ae}{CX:World->CXT}{sp:World->Sp}{x:Str}
  (hn:l.most=some n) (hn2:n<=A0) (hdf:d.params.defaults=[]) (hr:Room k callerA)
  (hY:∀(w:World)(h:Heap),YP w h->(K w.params).In h)
  (F:∀(w:World)(mg:Str->Option Value)(fa:Addr)(h:Heap),(K w.params).In h->h.Ns A5 mg->mg d.name=some (.ref fa) ->
   ∃fd:AB,(∀(s:Af)(u:Value),BindsTo s fd ⟨[u],[]⟩ [(x,u)]) /\
    ∀base:Heap,(K w.params).In base->base.Ns A5 mg->FnOk l.prog w (K w.params) mg base (CX w) k fa fd [x] (sp w))
  (hsp:∀(w:World)(H:Hp)(a:Addr)(ns:List Int),ns.length<=n->qzb H->SqL (K w.params) H a (ns.map V.int)->sp w [.ref a] H (λv _=>v=.bl true) λ_ _ _=>False)
  (hCX:∀(w:World)(H:Hp)(s:Af)(e:Value)(s':Af),CX w [] H s (λ_ _ _=>False) e s'->False) :
  PySem.W.WalkO q loose XP YP l.row.toRowW d [] (λf vs=>PySem.call f vs):=by
 refine Att.attach_call hn hdf λw s₀ s₁ mg mb fa o pm cd doc a vs ns G Y ho hd hcd hmg hobj hints hlen hg=>?_
 have KX:=hY w _ Y
 obtain⟨fd,hb,hF⟩:=F w mg fa _ KX G.T.g hmg
 exact qtv KX G.T.g G.T.b G.T.builtins G.T.nolimit hg hobj hints (A3 hlen hn2) hr hF hb (λH hO hS=>hsp w H a ns hlen hO hS) λH e s'=>hCX w H s₁ e s'
end L2
/- THE LAST THEOREM (shape;LID,My.* are yours):
   My.Adr: a structure of the addresses that your layer names (classes,functions);My.Txt K t: a structure (Prop) of the equations over K;
   My.txt_mk:{K} {implicit addresses ..} (e1:nsIn K A5 "law" = some (some (.ref f))) (e2:K.lookup f=some ⟨oc,od,.func (fnOf "law" "law" params body scope dV kV doc pm an cdv ct),sl⟩) (e3:codeIn K cdv "law" = true) .. : ∃t,My.Txt K t
set_option maxRecDepth 100000 in
set_option maxHeartbeats 0 in
theorem PySem.Challenge.cw_LID_holds : PySem.Challenge.rw_LID.Holds:=by
 w_on;o_law;k_head;(case hw=>w_witness2)
 k_fill
 refine L2.walk_of (l:=PySem.Challenge.rw_LID) (n:=63) (k:=40) (x := "script") (CX:=λw=>..) (sp:=λ_=>My.sp_law) rfl En rfl ⟨rfl,En,En⟩ (λw h Y=>PySem.W.kIn_of Y) ?F ?S ?C
 case F =>
  intro w mg fa h KX G hmg
  have T:∃t,My.Txt (L2.KOf KX) t:=by
   dsimp only[L2.KOf]                          -- K must stand as «<heap const> w.params» for k_is
   refine' My.txt_mk ?e1 ?e2 ?e3 ..
   (case e1=>PySem.W.k_is)                    -- in the order: a name->its address->its object->its parts
   (case e2=>PySem.W.k_is)
   ..
  obtain⟨t,T⟩:=T
  have e0:=hmg.symm.trans (AU KX G T.law)
  cases e0                                       -- fa is the law's own address
  exact⟨_,λs u=>.of_eq rfl,λbase kb nb=>My.law_fn T kb nb⟩     -- if «.of_eq rfl» comes too early: refine' ⟨_,?b,λbase kb nb=>My.law_fn T kb nb⟩;exact λs u=>.of_eq rfl
 case S=>exact λw H a ns hl hO hS=>..
 case C=>exact ..
(the tactic k_is has no namespace: write k_is) -/
namespace L2
open PySem PySem.Spec PyProof.Rows
noncomputable def qct (s:Stmt)(j:Nat):Stmt:=match s with
 |.ClassDef _ _ _ body _ _ _ _ _ _ _=>body.getD j (.Pass ⟨0,0,0,0⟩)
 |_=>.Pass ⟨0,0,0,0⟩
noncomputable def qbu (s:Stmt):Arguments:=match s with
 |.FunctionDef _ a _ _ _ _ _ _ _ _=>a
 |_=>{ posonlyargs:=[],args:=[],vararg:=none,kwonlyargs:=[],kw_defaults:=[],kwarg:=none,defaults:=[] }
noncomputable def qbd (s:Stmt):List Stmt:=match s with
 |.FunctionDef _ _ b _ _ _ _ _ _ _=>b
 |_=>[]
noncomputable def qaa (s:Stmt):Scope:=match s with
 |.FunctionDef _ _ _ _ _ _ sc _ _ _=>sc
 |_=>{ kind:=.function,names:=[],isGenerator:=false,isCoroutine:=false }
noncomputable abbrev CX0:CXT:=λ_ _ _ _ _ _=>False
noncomputable abbrev E0:XK:=λ_ _ _=>False
theorem qan {X:Cx}:qe5 CX0 X E0:=λ_ _ _ _ _ _ _ h=>h.elim
structure Fun (K:Ae)(x qual:Str)(st:Stmt)(f:Addr)(fd:AB):Prop where
 ex:∃(oc:Value)(od:Option Addr)(kV doc pm:Value)(an:Option Addr)(cdv ct:Value)(osl:Array (Option Value)),
  fd=B1 x qual (qbu st) (qbd st) (qaa st) .none kV doc pm an cdv ct/\K.lookup f=some ⟨oc,od,.func fd,osl⟩/\Ci K cdv qual=true
 kp:Bj K (.ref f)=true
section
variable {P:AF}{w:World}{K:Ae}{mg:Str->Option Value}{base:Heap}
theorem Fun.ok {x qual:Str}{st:Stmt}{f:Addr}{fd:AB}{N ps:List Str}{k:Nat}{sp:Sp}(F:Fun K x qual st f fd)(S:FnScope N ps (qaa st))(len:∀vs H Q E,sp vs H Q E->vs.length=ps.length)
  (hbody:∀(cdv:Value)(A:AL)(outer:List Env)(s:Af)(H:Hp)(vs:List V)(Q:VK)(E:XK),Room k (A.deeper (envOfC qual (qaa st) s.heap.objs.size f cdv))->sp vs H Q E ->
   ∃t,PSs (qmd CX0 P w K mg base N qual (qaa st) f cdv A outer s H E).nox (qbd st) t/\t { nx:=λ_ H'=>Q .non H',rt:=Q } (qfh N vs) H):FnOk P w K mg base CX0 (k+1) f fd ps sp:=by
 obtain⟨oc,od,kV,doc,pm,an,cdv,ct,osl,rfl,lk,hcd⟩:=F.ex
 refine qtp lk hcd S len λA outer s H vs Q E hr hsp=>?_
 obtain⟨t,h,q⟩:=hbody cdv A outer s H vs Q E hr hsp
 exact⟨t,h.nox,q⟩
theorem Fun.binds {x qual:Str}{st:Stmt}{f:Addr}{fd:AB}{ps:List Str}(F:Fun K x qual st f fd)
  (h:∀(kV doc pm:Value)(an:Option Addr)(cdv ct:Value)(us:List Value),us.length=ps.length->bindArgs (B1 x qual (qbu st) (qbd st) (qaa st) .none kV doc pm an cdv ct) ⟨us,[]⟩=pure (ps.zip us)):Binds K fd ps []:=by
 obtain⟨oc,od,kV,doc,pm,an,cdv,ct,osl,rfl,lk,hcd⟩:=F.ex
 exact .all (h kV doc pm an cdv ct)
theorem qoy {x qual:Str}{st:Stmt}{f:Addr}{oc:Value}{od an:Option Addr}{osl:Array (Option Value)}{kV doc pm cdv ct:Value}(l:K.lookup f=some ⟨oc,od,.func (B1 x qual (qbu st) (qbd st) (qaa st) .none kV doc pm an cdv ct),osl⟩)
  (c:Ci K cdv qual=true) (k:Bj K (.ref f)=true):Fun K x qual st f (B1 x qual (qbu st) (qbd st) (qaa st) .none kV doc pm an cdv ct):=⟨⟨oc,od,kV,doc,pm,an,cdv,ct,osl,rfl,l,c⟩,k⟩
end
theorem qe2 {A:AL}{k:Nat}(hr:Room k A):A.units+1<cLine:=Nat.lt_of_le_of_lt (Nat.add_le_add_left (by decide:1<=64) _) hr.units
theorem qrg {n:Nat}(h:n<=1000):n<A0:=Nat.lt_of_le_of_lt h En
section
variable {X:Cx}
theorem pv (i:Nat){x:Str}{pos:Pos}(hN:X.N[i]?=some x:=by rfl)(hv:Vis X.env.scope x:=by first|exact A4 rfl|exact CQ (A4 rfl)|exact CQ (CQ rfl))(hd:(x == ("__debug__" : Str))=false:=by decide)
  (hcd:(x == ("__classdict__" : Str))=false:=by decide):PE X (.Name x pos) (tVar i):=qy3 hN hv hd hcd
end
theorem qa1 {A B:Prop}(h:B):if false=true then A else B:=by
 rw[if_neg AC]
 exact h
theorem qet {A B:Prop}(h:A):if true=true then A else B:=by
 rw[if_pos rfl]
 exact h
theorem qb1 {c A B:Prop}[Decidable c](h1:c->A)(h2:¬c->B):if c then A else B:=by
 by_cases h:c
 .rw[if_pos h]
  exact h1 h
 .rw[if_neg h]
  exact h2 h
noncomputable def Same (H H':Hp):Prop:=∀b o,H b=some o->H' b=some o
theorem Same.refl (H:Hp):Same H H:=λ_ _ h=>h
theorem Same.trans {H H1 H2:Hp}(a:Same H H1)(b:Same H1 H2):Same H H2:=λc o h=>b c o (a c o h)
theorem Same.free {H H':Hp}(e:Same H H'){l:Addr}(h:H' l=Option.none):H l=Option.none:=by
 cases q:H l with
 |none=>rfl
 |some o =>
  rw[e l o q]at h
  cases h
theorem Same.seq {K:Ae}{H H':Hp}{a:Addr}{xs:List V}(e:Same H H')(h:SqL K H a xs):SqL K H' a xs:=by
 rcases h with (h|⟨o,h⟩)|h
 .exact .inl (.inl (e _ _ h))
 .exact .inl (.inr ⟨o,e _ _ h⟩)
 .exact .inr h
end L2
namespace L2
open PySem PySem.Spec PyProof.Rows
section
variable {κ:Type}[DecidableEq κ]
noncomputable def qdq (kvs:List (κ×V))(k:κ):Option V:=(kvs.find? λkv=>decide (kv.1=k)).map (·.2)
noncomputable def qe7 (kvs:List (κ×V))(k:κ)(v:V):List (κ×V) :=
 if (kvs.any λkv=>decide (kv.1=k))=true then kvs.map (λkv=>if kv.1=k then (kv.1,v) else kv) else kvs++[(k,v)]
theorem qb6 {p:κ×V}{r:List (κ×V)}{k:κ}(e:p.1=k):qdq (p::r) k=some p.2:=by simp[qdq,Dm,e]
theorem qb7 {p:κ×V}{r:List (κ×V)}{k:κ}(e:¬p.1=k):qdq (p::r) k=qdq r k:=by simp[qdq,Dm,e]
theorem qfo (k:κ):∀kvs:List (κ×V),(kvs.any λkv=>decide (kv.1=k))=(qdq kvs k).isSome
 | []=>rfl
 |p::r=>by
  rw[DF]
  by_cases e:p.1=k
  .simp only[qb6 e,decide_eq_true e,Bool.true_or,Option.isSome_some]
  .rw[qb7 e,decide_eq_false e,Bool.false_or];exact qfo k r
theorem qnb (k j:κ)(y:V):∀kvs:List (κ×V),qdq (kvs.map λkv=>if kv.1=k then (kv.1,y) else kv) j=(qdq kvs j).map λx=>if j=k then y else x
 | []=>rfl
 |p::r=>by
  have ih:=qnb k j y r
  rw[AA]
  by_cases h:p.1=k
  .rw[if_pos h]
   by_cases e:p.1=j
   .rw[qb6 (p:=(p.1,y)) e,qb6 e,Dn,if_pos (e.symm.trans h)]
   .rw[qb7 (p:=(p.1,y)) e,qb7 e,ih]
  .rw[if_neg h]
   by_cases e:p.1=j
   .rw[qb6 (p:=p) e,qb6 e,Dn,if_neg (λz=>h (e.trans z))]
   .rw[qb7 (p:=p) e,qb7 e,ih]
theorem qlp (k j:κ)(y:V):∀kvs:List (κ×V),qdq kvs k=none->qdq (kvs++[(k,y)]) j=if j=k then some y else qdq kvs j
 | [],_=>by
  by_cases e:k=j
  .rw[if_pos e.symm];exact qb6 (p:=(k,y)) e
  .rw[if_neg (λz=>e z.symm)];exact qb7 (p:=(k,y)) e
 |p::r,hn=>by
  rw[Bf]
  have hk:¬p.1=k:=λz=>by rw[qb6 z]at hn;cases hn
  rw[qb7 hk]at hn
  have ih:=qlp k j y r hn
  by_cases e:p.1=j
  .rw[qb6 e,qb6 e,if_neg (λz=>hk (e.trans z))]
  .rw[qb7 e,qb7 e,ih]
theorem qtw (kvs:List (κ×V))(k j:κ)(y:V):qdq (qe7 kvs k y) j=if j=k then some y else qdq kvs j:=by
 unfold qe7
 by_cases a:(kvs.any λkv=>decide (kv.1=k))=true
 .rw[if_pos a,qnb]
  rw[qfo]at a
  by_cases e:j=k
  .obtain⟨x,hx⟩:=CP.mp a
   rw[if_pos e,e,hx,Dn,if_pos rfl]
  .rw[if_neg e]
   cases qdq kvs j with
   |none=>rfl
   |some x=>rw[Dn,if_neg e]
 .rw[if_neg a]
  refine qlp k j y kvs ?_
  rw[qfo]at a
  cases q:qdq kvs k with
  |none=>rfl
  |some x=>rw[q]at a;exact(a rfl).elim
theorem qfp (kvs:List (κ×V))(k:κ)(v:V):(qe7 kvs k v).length<=kvs.length+1:=by
 unfold qe7
 split
 .rw[Ac];lia
 .rw[Aj,At,Ca];lia
theorem qjw {kvs:List (κ×V)}{k:κ}(v:V)(h:qdq kvs k=none):qe7 kvs k v=kvs++[(k,v)]:=by
 unfold qe7
 rw[qfo,h]
 exact if_neg En
theorem RelO.isSome_eq {o:Option V}{u:Option Value}(r:RelO o u):o.isSome=u.isSome:=by
 cases o with
 |none=>cases u with
  |none=>rfl
  |some _=>exact(show False from r).elim
 |some _=>cases u with
  |none=>exact(show False from r).elim
  |some _=>rfl
theorem KV.val {kvs:List (κ×V)}{vs:List (κ×Value)}(r:KV kvs vs)(k:κ):RelO (qdq kvs k) (valueAt vs k):=by
 unfold KV at r
 induction r with
 |nil=>exact CN
 | @cons p q ps qs h t ih =>
  obtain⟨h1,h2⟩:=h
  by_cases e:p.1=k
  .have e':q.1=k:=h1.symm.trans e
   have b:valueAt (q::qs) k=some q.2:=by simp[valueAt,Dm,e']
   rw[qb6 e,b];exact h2
  .have e':¬q.1=k:=λz=>e (h1.trans z)
   have b:valueAt (q::qs) k=valueAt qs k:=by simp[valueAt,Dm,e']
   rw[qb7 e,b];exact ih
theorem KV.any {kvs:List (κ×V)}{vs:List (κ×Value)}(r:KV kvs vs)(k:κ):(kvs.any λkv=>decide (kv.1=k))=vs.any λkv=>decide (kv.1=k):=by
 unfold KV at r
 induction r with
 |nil=>rfl
 |cons h t ih=>rw[DF,DF,ih,h.1]
theorem KV.repl {kvs:List (κ×V)}{vs:List (κ×Value)}(r:KV kvs vs)(k:κ){y:V}{u:Value}(ry:RelV y u) :
  KV (kvs.map λkv=>if kv.1=k then (kv.1,y) else kv) (vs.map λkv=>if kv.1=k then (kv.1,u) else kv):=by
 unfold KV at r |-
 induction r with
 |nil=>exact .nil
 | @cons p q ps qs h t ih =>
  rw[AA,AA]
  refine .cons ?_ ih
  obtain⟨h1,h2⟩:=h
  by_cases e:p.1=k
  .rw[if_pos e,if_pos (h1.symm.trans e)];exact⟨h1,ry⟩
  .rw[if_neg e,if_neg (λz=>e (h1.trans z))];exact⟨h1,h2⟩
theorem KV.put {kvs:List (κ×V)}{vs:List (κ×Value)}(r:KV kvs vs)(k:κ){y:V}{u:Value}(ry:RelV y u):KV (qe7 kvs k y) (stored vs k u):=by
 unfold qe7 stored
 rw[r.any k]
 by_cases e:(vs.any λkv=>decide (kv.1=k))=true
 .rw[if_pos e,if_pos e];exact r.repl k ry
 .rw[if_neg e,if_neg e];exact DM.snoc r ⟨rfl,ry⟩
theorem KV.keys {kvs:List (κ×V)}{vs:List (κ×Value)}(r:KV kvs vs):kvs.map (·.1)=vs.map (·.1):=by
 unfold KV at r
 induction r with
 |nil=>rfl
 |cons h t ih=>rw[AA,AA,ih,h.1]
theorem KV.length {kvs:List (κ×V)}{vs:List (κ×Value)}(r:KV kvs vs):kvs.length=vs.length:=DM.length r
end
theorem qnc {P:AF}{w:World}{k:Key}{u:Value}(r:RelV (kV k) u):(qbb P w).is k u=true:=by
 cases k with
 |inl i=>obtain⟨t,e⟩:=(show ∃t,u=Value.int i t from r);subst e;exact qm3 P w i t
 |inr x=>obtain⟨t,e⟩:=(show ∃t,u=DP x t from r);subst e;exact qm4 P w x t
theorem qlq {P:AF}{w:World}:∀{ks:List Key}{us:List Value},Vals (ks.map kV) us->ItemsAre (qbb P w) ks us
 | [],_,r=>by rw[BV]at r;cases r;exact .nil
 |k::ks,_,r=>by
  rw[AA]at r
  cases r with
  |cons h t=>exact .cons (qnc h) (qlq t)
noncomputable abbrev KT (H:Hp):List (List Key×V)->List (List Key×Addr×Value)->Prop:=DM λp q=>p.1=q.1/\H q.2.1=some (.tup (p.1.map kV))/\RelV p.2 q.2.2
theorem KT.val {H:Hp}{kvs:List (List Key×V)}{xs:List (List Key×Addr×Value)}(r:KT H kvs xs)(k:List Key):RelO (qdq kvs k) ((atKey xs k).map (·.2)):=by
 induction r with
 |nil=>exact CN
 | @cons p q ps qs h t ih =>
  obtain⟨h1,_,h2⟩:=h
  by_cases e:p.1=k
  .have e':q.1=k:=h1.symm.trans e
   have b:atKey (q::qs) k=some q.2:=by simp[atKey,Dm,e']
   rw[qb6 e,b];exact h2
  .have e':¬q.1=k:=λz=>e (h1.trans z)
   have b:atKey (q::qs) k=atKey qs k:=by simp[atKey,Dm,e']
   rw[qb7 e,b];exact ih
theorem KT.repl {H:Hp}{kvs:List (List Key×V)}{xs:List (List Key×Addr×Value)}(r:KT H kvs xs)(k:List Key){y:V}{u:Value}(ry:RelV y u) :
  KT H (kvs.map λkv=>if kv.1=k then (kv.1,y) else kv) (xs.map (putAt k u)):=by
 induction r with
 |nil=>exact .nil
 | @cons p q ps qs h t ih =>
  rw[AA,AA]
  refine .cons ?_ ih
  obtain⟨h1,h2,h3⟩:=h
  unfold putAt
  by_cases e:p.1=k
  .rw[if_pos e,if_pos (h1.symm.trans e)];exact⟨h1,h2,ry⟩
  .rw[if_neg e,if_neg (λz=>e (h1.trans z))];exact⟨h1,h2,h3⟩
theorem KT.put {H:Hp}{kvs:List (List Key×V)}{xs:List (List Key×Addr×Value)}(r:KT H kvs xs)(k:List Key){b:Addr}{y:V}{u:Value}(hb:H b=some (.tup (k.map kV)))(ry:RelV y u) :
  KT H (qe7 kvs k y) (storedH xs k b u):=by
 have e:(kvs.any λkv=>decide (kv.1=k))=(atKey xs k).isSome:=by
  rw[qfo,(r.val k).isSome_eq,Option.isSome_map]
 unfold qe7 storedH
 rw[e]
 by_cases q:(atKey xs k).isSome=true
 .rw[if_pos q,if_pos q];exact r.repl k ry
 .rw[if_neg q,if_neg q];exact DM.snoc r ⟨rfl,hb,ry⟩
theorem KT.keeps {H H':Hp}{kvs:List (List Key×V)}{xs:List (List Key×Addr×Value)}(r:KT H kvs xs)(ht:∀b ys,H b=some (.tup ys)->H' b=some (.tup ys)):KT H' kvs xs :=
 DM.mapP r λ_ _ z=>⟨z.1,ht _ _ z.2.1,z.2.2⟩
section
variable {P:AF}{w:World}{H:Hp}{h:Heap}{a:Addr}
theorem qyp {u:HO}(ok:HOk P w H h)(e:Rd H a u):ObjOk P w H h a u:=e.ok ok
theorem qnd {kvs:List (Key×V)}(ok:HOk P w H h)(e:Rd H a (.dK kvs)):kvs.length<=A0/\(a == sysModules)=false/\∃vs,KV kvs vs/\h.DictOf (qbb P w) a vs :=
 show ObjOk P w H h a (.dK kvs) from qyp ok e
theorem qne {kvs:List (Key×V)}(ok:HOk P w H h)(e:H a=some (.dK kvs)):kvs.length<=A0/\(a == sysModules)=false/\∃vs,KV kvs vs/\h.DictOf (qbb P w) a vs:=qnd ok (.inl e)
theorem qjx {ks:List Key}(ok:HOk P w H h)(e:H a=some (.tup (ks.map kV))):(tupleKind (qbb P w)).is h ks a:=by
 obtain⟨_,its,r,o,h1,h2,n,h3⟩:=(show ObjOk P w H h a (.tup (ks.map kV)) from ok a _ e)
 exact⟨o,its.toArray,n,h1,h2,h3,by simpa using qlq r⟩
theorem qnf {kvs:List (List Key×V)}(ok:HOk P w H h)(e:Rd H a (.dT kvs)):kvs.length<=A0/\(a == sysModules)=false /\
  ∃xs,KT H kvs xs/\h.DictOfH (tupleKind (qbb P w)) a xs:=by
 obtain⟨z,y,xs,r,o,es,ep,h1,h2,h3,h4,h5⟩:=(show ObjOk P w H h a (.dT kvs) from qyp ok e)
 refine⟨z,y,xs,r,o,es,ep,h1,h2,h3,h4,λx hx=>?_,h5⟩
 have all:∀{l:List (List Key×V)}{m:List (List Key×Addr×Value)},KT H l m->∀x∈m,(tupleKind (qbb P w)).is h x.1 x.2.1:=by
  intro l m q
  induction q with
  |nil=>intro x hx;exact nomatch hx
  | @cons p q ps qs hq t ih =>
   intro x hx
   rcases Ap.mp hx with e|hx
   .subst e
    exact qjx ok (by rw[<- hq.1];exact hq.2.1)
   .exact ih x hx
 exact all r x hx
theorem dt_of {kvs:List (List Key×V)}(ok:HOk P w H h)(e:H a=some (.dT kvs)):kvs.length<=A0/\(a == sysModules)=false /\
  ∃xs,KT H kvs xs/\h.DictOfH (tupleKind (qbb P w)) a xs:=qnf ok (.inl e)
end
noncomputable def DGet (H:Hp)(a:Addr)(y:V)(r:Option V):Prop :=
 (∃kvs k,Rd H a (.dK kvs)/\y=kV k/\r=qdq kvs k) \/ ∃kvs k b,Rd H a (.dT kvs)/\y=.ref b/\H b=some (.tup (k.map kV))/\r=qdq kvs k
noncomputable def DPut (H:Hp)(a:Addr)(y v:V)(H':Hp):Prop :=
 (∃kvs k,H a=some (.dK kvs)/\y=kV k/\kvs.length<A0/\H'=upd H a (.dK (qe7 kvs k v))) \/
 ∃kvs k b,H a=some (.dT kvs)/\y=.ref b/\H b=some (.tup (k.map kV))/\kvs.length<A0/\H'=upd H a (.dT (qe7 kvs k v))
theorem DGet.k {H:Hp}{a:Addr}{kvs:List (Key×V)}{k:Key}(e:H a=some (.dK kvs)):DGet H a (kV k) (qdq kvs k):=.inl ⟨kvs,k,.inl e,rfl,rfl⟩
theorem DPut.k {H:Hp}{a:Addr}{kvs:List (Key×V)}{k:Key}{v:V}(e:H a=some (.dK kvs))(hl:kvs.length<A0):DPut H a (kV k) v (upd H a (.dK (qe7 kvs k v))):=.inl ⟨kvs,k,e,rfl,hl,rfl⟩
section
variable {X:Cx}{pins:List (Addr×Obj)}{σ:St}{H:Hp}{s:Af}{a:Addr}{y v:V}{u r:Value}{o:Option V}{A:AL}{E:Value->Af->Prop}
theorem Inv.big (I:Inv X pins σ H s):sysModules<s.heap.objs.size:=by
 have h:A5<s.heap.objs.size:=(I.mod.glob.keeps I.bk).lt
 exact Nat.lt_trans En h
theorem qrh {Q:Value->Af->Prop}(hu:A.units+1<cLine)(I:Inv X pins σ H s)(g:DGet H a y (some v))(ry:RelV y u)(h:∀w' s',Inv X pins σ H s'->RelV v w'->Q w' s') :
  wpAny (model X.prog X.w) A (getItem (.ref a) u) Q E s:=by
 rcases g with ⟨kvs,k,e,ey,l⟩|⟨kvs,k,b,e,ey,eb,l⟩
 .subst ey
  obtain⟨z,hd,vs,rel,dd⟩:=qnd I.hok e
  obtain⟨w',hw,rw'⟩:=RelO.some_of (v:=v) (o:=valueAt vs k) (by rw[l];exact rel.val k)
  exact wpAny_getItem_of (qnc ry) dd.mapOf hw (h w' _ (I.tok _) rw')
 .subst ey
  cases (show u=Ar b from ry)
  obtain⟨z,hd,xs,rel,dd⟩:=qnf I.hok e
  obtain⟨w',hw,rw'⟩:=RelO.some_of (v:=v) (o:=(atKey xs k).map (·.2)) (by rw[l];exact rel.val k)
  obtain⟨p,hp,hp2⟩:=Option.map_eq_some_iff.mp hw
  refine wpAny_getItem_heap (DO hu) (qjx I.hok eb) dd hp ?_
  rw[hp2]
  exact h w' _ (I.tok _) rw'
theorem d_in {Q:Value->Af->Prop}(hu:A.units+1<cLine)(I:Inv X pins σ H s)(g:DGet H a y o)(ry:RelV y u)(h:∀s',Inv X pins σ H s'->Q (.bool o.isSome) s') :
  wpAny (model X.prog X.w) A (compareOp .In u (.ref a)) Q E s:=by
 rcases g with ⟨kvs,k,e,ey,l⟩|⟨kvs,k,b,e,ey,eb,l⟩
 .subst ey
  obtain⟨z,hd,vs,rel,dd⟩:=qnd I.hok e
  refine wpAny_in_of (qnc ry) hd dd.mapOf ?_
  rw[<- (rel.val k).isSome_eq,<- l]
  exact h _ (I.tok _)
 .subst ey
  cases (show u=Ar b from ry)
  obtain⟨z,hd,xs,rel,dd⟩:=qnf I.hok e
  refine wpAny_in_heap (DO hu) (qjx I.hok eb) hd dd ?_
  have q:=(rel.val k).isSome_eq
  rw[Option.isSome_map]at q
  rw[<- q,<- l]
  exact h _ (I.tok _)
theorem qwm {Q:Value->Af->Prop}(hu:A.units+1<cLine)(I:Inv X pins σ H s)(g:DGet H a y o)(ry:RelV y u)(h:∀s',Inv X pins σ H s'->Q (.bool (!o.isSome)) s') :
  wpAny (model X.prog X.w) A (compareOp .NotIn u (.ref a)) Q E s:=by
 rcases g with ⟨kvs,k,e,ey,l⟩|⟨kvs,k,b,e,ey,eb,l⟩
 .subst ey
  obtain⟨z,hd,vs,rel,dd⟩:=qnd I.hok e
  refine wpAny_notIn_of (qnc ry) hd dd.mapOf ?_
  rw[<- (rel.val k).isSome_eq,<- l]
  exact h _ (I.tok _)
 .subst ey
  cases (show u=Ar b from ry)
  obtain⟨z,hd,xs,rel,dd⟩:=qnf I.hok e
  refine wpAny_notIn_heap (DO hu) (qjx I.hok eb) hd dd ?_
  have q:=(rel.val k).isSome_eq
  rw[Option.isSome_map]at q
  rw[<- q,<- l]
  exact h _ (I.tok _)
theorem qqe {h':Heap}{t':Nat}{ob:HO}(I:Inv X pins σ H s)(mu:Mut (H a))(hs:Bc a s.heap h')(he:∃q,h'.get? a=some q)(new:ObjOk X.prog X.w (upd H a ob) h' a ob) :
  Inv X pins σ (upd H a ob) { s with heap:=h',toks:=t' } :=
 I.write (x:=a) (e:=a) mu (.inl rfl) (λb q hb z=>(hs.2 b hb).trans z) he new
theorem dk_new {P:AF}{w:World}{H':Hp}{h':Heap}{kvs:List (Key×V)}{vs:List (Key×Value)}(z:kvs.length<=A0)(hd:(a == sysModules)=false)(rel:KV kvs vs)(dd:h'.DictOf (qbb P w) a vs) :
  ObjOk P w H' h' a (.dK kvs):=⟨z,hd,vs,rel,dd⟩
theorem qri {H':Hp}{Q:Unit->Af->Prop}(hu:A.units+1<cLine)(I:Inv X pins σ H s)(g:DPut H a y v H')(ry:RelV y u)(rv:RelV v r)(h:∀s',Inv X pins σ H' s'->Q () s') :
  wpAny (model X.prog X.w) A (setItem (.ref a) u r) Q E s:=by
 rcases g with ⟨kvs,k,e,ey,l,eH⟩|⟨kvs,k,b,e,ey,eb,l,eH⟩
 .subst ey eH
  obtain⟨z,hd,vs,rel,dd⟩:=qne I.hok e
  have hz:vs.length<=A0:=by rw[<- rel.length];exact z
  have hl:(qe7 kvs k v).length<=A0:=by have:=qfp kvs k v;lia
  refine wpAny_setItem_pairs (hsz:=hz) (qnc ry) dd λh' dd' hs=>h _ ?_
  have he:∃q,h'.get? a=some q:=let ⟨q,_,_,hq,_⟩:=dd';⟨q,hq⟩
  exact qqe I (by rw[e];exact CN) hs he (dk_new hl hd (rel.put k rv) dd')
 .subst ey eH
  cases (show u=Ar b from ry)
  obtain⟨z,hd,xs,rel,dd⟩:=dt_of I.hok e
  have hz:xs.length<=A0:=by rw[<- DM.length rel];exact z
  have hl:(qe7 kvs k v).length<=A0:=by have:=qfp kvs k v;lia
  refine wpAny_setItem_heap (hsz:=hz) (DO hu) (qjx I.hok eb) dd λh' dd' hs=>h _ ?_
  obtain⟨q,es,ep,hq,h2,h3,h4,_,h5⟩:=dd'
  refine qqe I (by rw[e];exact CN) hs ⟨q,hq⟩ ⟨hl,hd,_,(rel.put k eb rv).keeps λc ys ec=>?_,q,es,ep,hq,h2,h3,h4,h5⟩
  rw[ze (ne_of ec e (λz=>nomatch z))]
  exact ec
end
section
variable {X:Cx}{pins:List (Addr×Obj)}{σ:St}{H:Hp}{s:Af}{a:Addr}{kvs:List (Key×V)}{k:Key}{u:Value}{A:AL}{E:Value->Af->Prop}
end
noncomputable def NoSl (i:Expr):Prop:=∀ov iv,subscripted i false ov iv=operate [ov,iv] (getItem ov iv)
theorem qwn {prog:AF}{w:World}{A:AL}{E:Value->Af->Prop}{s:Af}{env:Env}{value slice:Expr}{pos:Pos}{T id:String}{Q:Value->Af->Prop}
  (hl:typeLookup (.type T) "__getitem__" = pure (some (.builtin id))) (hs:NoSl slice)
  (h:wpAny (model prog w) A (eval value env) (λo s₁=>wpAny (model prog w) A (eval slice env) (λi s₂=>s₂.TypeIs o T/\wpAny (model prog w) A (getItem o i) Q E s₂) E s₁) E s) :
  wpAny (model prog w) A (eval (.Subscript value slice pos) env) Q E s:=by
 refine Subscript_ (BY h (λo s₁ h₁=>BY h₁ (λi s₂ h₂=>?_) λ_ _ x=>x) λ_ _ x=>x)
 obtain⟨hT,h₂⟩:=h₂
 unfold subscriptTail
 refine Aa ?_
 rw[getitemInPython_of_ne hT.not_modules]
 refine Aa (wpAny_specialOf hT hl ?_)
 have fin:wpAny (model prog w) A (subscripted slice false o i) (λr s₃=>wpAny (model prog w) A (letTemporaryGo value o r >>= λ_=>pure r) Q E s₃) E s₂:=by
  rw[hs o i]
  exact wpAny_operating (BY h₂ (λr s₃ h₃=>Aa (wpAny_letTemporaryGo (Al h₃))) λ_ _ x=>x)
 first
  |exact Al (Aa fin)
  |exact Aa (Al (Aa fin))
  |exact Aa fin
theorem qng {X:Cx}{pins:List (Addr×Obj)}{σ:St}{H:Hp}{s:Af}{a:Addr}{y:V}{o:Option V}(I:Inv X pins σ H s)(g:DGet H a y o):s.TypeIs (.ref a) "dict" := by
 rcases g with ⟨kvs,k,e,_,_⟩|⟨kvs,k,b,e,_,_,_⟩
 .obtain⟨_,_,vs,_,dd⟩:=qnd I.hok e
  exact dd.typeIs
 .obtain⟨_,_,xs,_,dd⟩:=qnf I.hok e
  exact dd.typeIs
noncomputable def tDGet (td ty:TE):TE:=λσ H Q=>td σ H λx H1=>ty σ H1 λy H2=>∃a v,x=.ref a/\DGet H2 a y (some v)/\Q v H2
noncomputable def tDIn (ty td:TE):TE:=λσ H Q=>ty σ H λy H1=>td σ H1 λx H2=>∃a o,x=.ref a/\DGet H2 a y o/\Q (.bl o.isSome) H2
noncomputable def qwo (ty td:TE):TE:=λσ H Q=>ty σ H λy H1=>td σ H1 λx H2=>∃a o,x=.ref a/\DGet H2 a y o/\Q (.bl (!o.isSome)) H2
noncomputable def sDPut (td ty tv:TE):TS:=λD σ H=>tv σ H λv H1=>td σ H1 λx H2=>ty σ H2 λy H3=>∃a H4,x=.ref a/\DPut H3 a y v H4/\D.nx σ H4
section
variable {X:Cx}{o i e value:Expr}{pos pos' tpos:Pos}{td ty tv:TE}
theorem qhe (hu:X.A.units+1<cLine)(ho:PE X o td)(hi:PE X i ty)(hs:NoSl i):PE X (.Subscript o i pos) (tDGet td ty):=by
 intro pins s σ H Q I h
 refine qwn PySem.F.slot_dict_getitem.lookup hs (thn (ho pins s σ H _ I h) λu s1 ⟨x,H1,I1,rx,q1⟩=>thn (hi pins s1 σ H1 _ I1 q1) λiv s2 hh9=>?_)
 obtain⟨y,H2,I2,ry,a,v,ex,g,q2⟩:=hh9
 subst ex
 obtain rfl:u=Ar a:=rx
 exact⟨qng I2 g,qrh hu I2 g ry λw' s3 I3 rw'=>⟨v,H2,I3,rw',q2⟩⟩
theorem pc_din (hu:X.A.units+1<cLine)(hi:PE X i ty)(ho:PE X o td):PC X .In i o (tDIn ty td):=by
 intro pins s σ H Q I h
 refine thn (hi pins s σ H _ I h) λiv s1 ⟨y,H1,I1,ry,q1⟩=>thn (ho pins s1 σ H1 _ I1 q1) λu s2 hh9=>?_
 obtain⟨x,H2,I2,rx,a,ov,ex,g,q2⟩:=hh9
 subst ex
 obtain rfl:u=Ar a:=rx
 exact d_in hu I2 g ry λs3 I3=>⟨.bl ov.isSome,H2,I3,rfl,q2⟩
theorem qf8 (hu:X.A.units+1<cLine)(hi:PE X i ty)(ho:PE X o td):PC X .NotIn i o (qwo ty td):=by
 intro pins s σ H Q I h
 refine thn (hi pins s σ H _ I h) λiv s1 ⟨y,H1,I1,ry,q1⟩=>thn (ho pins s1 σ H1 _ I1 q1) λu s2 hh9=>?_
 obtain⟨x,H2,I2,rx,a,ov,ex,g,q2⟩:=hh9
 subst ex
 obtain rfl:u=Ar a:=rx
 exact qwm hu I2 g ry λs3 I3=>⟨.bl (!ov.isSome),H2,I3,rfl,q2⟩
theorem qmg (hu:X.A.units+1<cLine)(ho:PE X o td)(hi:PE X i ty)(hv:PE X value tv)(hs:swapsWith value (some (.Subscript o i pos')) pos.line X.env=pure false) :
  PS X (.Assign [.Subscript o i pos'] value pos) (sDPut td ty tv):=by
 intro pins s σ H D I h
 refine wpAny_Assign_Subscript (thn (hv pins s σ H _ I h) λr s1 ⟨v,H1,I1,rv,q1⟩=>thn (ho pins s1 σ H1 _ I1 q1) λu s2 ⟨x,H2,I2,rx,q2⟩=>thn (hi pins s2 σ H2 _ I2 q2) λiv s3 hh9=>?_) hs
 obtain⟨y,H3,I3,ry,a,H4,ex,g,q3⟩:=hh9
 subst ex
 obtain rfl:u=Ar a:=rx
 exact qri hu I3 g ry rv λs4 I4=>⟨σ,H4,I4,q3⟩
end
theorem qtx {P:AF}{w:World}{H:Hp}(h:Heap)(hb:sysModules<h.objs.size):ObjOk P w H (h.push { cls:=.type "dict",data:=.dict #[] }) h.objs.size (.dK []) :=
 ⟨Bs _,beq_eq_false_iff_ne.mpr (AZ (AD hb)),[],.nil,Heap.DictOf.new h⟩
noncomputable def tDNewK:TE:=λ_ H Q=>∀p,H p=none->Q (.ref p) (upd H p (.dK []))
section
variable {X:Cx}{pos:Pos}
theorem qjy:PE X (.Dict [] [] pos) tDNewK:=λpins s σ H Q I h =>
 wpAny_Dict_empty ⟨.ref s.heap.objs.size,_,I.laid (a:=s.heap.objs.size) (o:=.dK []) (t':=s.toks) (λ_ _ q=>Ah _ q) (Ax _) (qtx s.heap I.big),rfl,h _ (I.hok.fresh (Ax _))⟩
end
section
variable {X:Cx}{pins:List (Addr×Obj)}{σ:St}{H:Hp}{s:Af}{a:Addr}{y d:V}{u r:Value}{o:Option V}{A:AL}{E:Value->Af->Prop}
end
section
variable {X:Cx}{o e f:Expr}{apos cpos:Pos}{td ty tx:TE}
end
section
variable {X:Cx}{pins:List (Addr×Obj)}{σ:St}{H:Hp}{s:Af}{a:Addr}{kvs:List (Key×V)}{A:AL}{E:Value->Af->Prop}
end
section
variable {X:Cx}{pins:List (Addr×Obj)}{σ:St}{H:Hp}{s:Af}{a:Addr}{y:V}{u:Value}{A:AL}{E:Value->Af->Prop}
end
end L2
namespace L2
open PySem PySem.Spec PyProof.Rows
section
variable {κ:Type}[DecidableEq κ]
end
end L2
namespace Add
open PySem PySem.Spec PyProof.Rows L2
theorem pos {j:Int}(h:0<j):0<j:=h
theorem qoz {i j:Int}(h : -1000000<i)(h':i<1000000):CMul i j:=.inl ⟨by lia,by lia⟩
section
variable {K:Ae}
theorem qix:BN K (.type "int") (.type "int")=some true:=by kernel_rfl
theorem qmh:BN K (.type "int") (.type "bool")=some false:=by kernel_rfl
theorem qfi:BN K (.type "tuple") (.type "tuple")=some true:=by kernel_rfl
end
section
variable {X:Cx}
theorem qcn:qdw X (.builtin "isinstance") (λxs H Q=>∃x t c b,xs=[x,.ty c]/\TyOf X.K H x t/\BN X.K t (.type c)=some b/\Q (.bl b) H):=by
 intro pins s σ H xs us Q I r h
 obtain⟨x,t,c,b,rfl,ty,e,q⟩:=h
 obtain⟨u,u',rfl,r1,r2⟩:=Vals.two r
 cases (show u'=BK c from r2)
 exact qlj I r1 ty e λtk=>⟨.bl b,H,I.tok tk,rfl,q⟩
noncomputable def qd2:List V->List V->Bool
 | [],[]=>true
 |x::xs,y::ys=>eqV x y && qd2 xs ys
 |_,_=>false
noncomputable def eAt (xs ys:List V)(j:Nat):Bool:=match xs[j]?,ys[j]? with
 |some x,some y=>eqV x y
 |_,_=>false
theorem qjz:∀(xs ys:List V),((Bh (min xs.length ys.length)).all (eAt xs ys) && (xs.length == ys.length))=qd2 xs ys
 | [],[]=>rfl
 | [],_::_=>by simp[qd2]
 |_::_,[]=>by simp[qd2]
 |x::xs,y::ys=>by
  have ih:=qjz xs ys
  have e:min (x::xs).length (y::ys).length=min xs.length ys.length+1:=by simp only[At];lia
  rw[e,List.range_succ_eq_map,C9,CK]
  have f:(eAt (x::xs) (y::ys) ∘ Nat.succ)=eAt xs ys:=by funext j;simp[eAt,Function.comp]
  have g:((x::xs).length == (y::ys).length)=(xs.length == ys.length):=by simp
  rw[f,g]
  show ((eqV x y && (Bh (min xs.length ys.length)).all (eAt xs ys)) && (xs.length == ys.length))=(eqV x y && qd2 xs ys)
  rw[<- ih,Bool.and_assoc]
theorem items_eq {A:AL}{s:Af}{xs ys:List V}{us ws:List Value}(r:Vals xs us)(r':Vals ys ws)(fx:xs.all qbn=true)(fy:ys.all qbn=true) :
  ∀j (h1:j<us.toArray.size) (h2:j<ws.toArray.size),Bz A s us.toArray[j] ws.toArray[j] (eAt xs ys j):=by
 intro j h1 h2
 have g1:j<xs.length:=by rw[r.length];simpa using h1
 have g2:j<ys.length:=by rw[r'.length];simpa using h2
 obtain⟨u,hu,ru⟩:=r.get (i:=j) (x:=xs[j]) (by simp[g1])
 obtain⟨w,hw,rw'⟩:=r'.get (i:=j) (x:=ys[j]) (by simp[g2])
 have e1:us.toArray[j]=u:=by
  have:us[j]?=some us[j]:=by simp
  rw[this]at hu
  simpa using A7 hu
 have e2:ws.toArray[j]=w:=by
  have:ws[j]?=some ws[j]:=by simp
  rw[this]at hw
  simpa using A7 hw
 have e3:eAt xs ys j=eqV xs[j] ys[j]:=by simp[eAt,g1,g2]
 rw[e1,e2,e3]
 exact qtr ru rw' (AV.mp fx _ (Bb g1)) (AV.mp fy _ (Bb g2))
noncomputable def rEqT (K:Ae)(f:Bool->Bool):R2:=λx y H Q=>∃a b xs ys,x=.ref a/\y=.ref b/\SqT K H a xs/\SqT K H b ys/\xs.all qbn=true/\ys.all qbn=true/\Q (.bl (f (qd2 xs ys))) H
theorem op_eqT (hu:X.A.units<cLine):OpR X (compareOp .Eq) (rEqT X.K λz=>z):=by
 intro pins s σ H x y v u Q I rx ry h
 obtain⟨a,b,xs,ys,rfl,rfl,ha,hb,fx,fy,q⟩:=h
 cases rx
 cases ry
 obtain⟨its,r1,p1,_⟩:=I.tuple ha
 obtain⟨its2,r2,p2,_⟩:=I.tuple hb
 refine SeqAt.eq_tupleAt (show s.heap.IsTuple a its.toArray from p1) (show s.heap.IsTuple b its2.toArray from p2) hu (items_eq r1 r2 fx fy) ?_
 have e:((Bh (min its.toArray.size its2.toArray.size)).all (eAt xs ys) && (its.toArray.size == its2.toArray.size))=qd2 xs ys:=by
  rw[<- qjz xs ys,Ao,Ao,r1.length,r2.length]
 rw[e]
 exact⟨.bl (qd2 xs ys),H,I,rfl,q⟩
theorem op_neT (hu:X.A.units<cLine):OpR X (compareOp .NotEq) (rEqT X.K λz=>!z):=by
 intro pins s σ H x y v u Q I rx ry h
 obtain⟨a,b,xs,ys,rfl,rfl,ha,hb,fx,fy,q⟩:=h
 cases rx
 cases ry
 obtain⟨its,r1,p1,_⟩:=I.tuple ha
 obtain⟨its2,r2,p2,_⟩:=I.tuple hb
 refine SeqAt.RcNeAt.tuples (show s.heap.IsTuple a its.toArray from p1) (show s.heap.IsTuple b its2.toArray from p2) hu (items_eq r1 r2 fx fy) _ _ _ _ ?_
 have e:((Bh (min its.toArray.size its2.toArray.size)).all (eAt xs ys) && (its.toArray.size == its2.toArray.size))=qd2 xs ys:=by
  rw[<- qjz xs ys,Ao,Ao,r1.length,r2.length]
 rw[e]
 exact⟨.bl (!qd2 xs ys),H,I,rfl,q⟩
end
section
variable {X:Cx}{tg:Expr}
end
section
open PySem.SeqAt
open PySem.AutoSeq1 (wpAny_loadPart')
open PySem.MeetsSeq PySem.MeetsSeq2 PySem.MeetsSeq3
open HT
end
section
variable {prog:AF}{w:World}{A:AL}{E:Value->Af->Prop}{s:Af}
end
section
variable {X:Cx}
end
theorem qgw {env:Env}:∀(names:List (Str×Bt))(acc:List (Str×Addr)),(∀x∈names,x.2=.free->∃c,env.cells.lookup x.1=some c) ->
  (∀x c,acc.lookup x=some c->env.cells.lookup x=some c) ->
  ∃cl,(forIn names acc λ(x:Str×Bt)(cs:List (Str×Addr))=>if (x.2 == Bo)=true then (do let a <- cellOf env x.1;pure (Do ((x.1,a)::cs))) else (pure (Do cs):Sem (ForInStep (List (Str×Addr)))))=pure cl /\
   (∀x c,cl.lookup x=some c->env.cells.lookup x=some c)/\(∀x,(acc.lookup x).isSome=true->(cl.lookup x).isSome=true)/\∀x∈names,x.2=.free->(cl.lookup x.1).isSome=true
 | [],acc,_,ha=>⟨acc,rfl,ha,λ_ h=>h,λ_ h=>absurd h (by simp)⟩
 | (n,k)::r,acc,hf,ha=>by
  have hr:∀x∈r,x.2=.free->∃c,env.cells.lookup x.1=some c:=λx hx=>hf x (Aq _ hx)
  rw[List.forIn_cons]
  cases hk:(k == Bo) with
  |false =>
   obtain⟨cl,e,c1,c2,c3⟩:=qgw r acc hr ha
   refine⟨cl,?_,c1,c2,λx hx hx2=>?_⟩
   .simp only[hk,Df,if_false]
    exact e
   .rcases Ap.mp hx with z|z
    .subst z
     have z2:k=.free:=hx2
     subst z2
     exact absurd hk En
    .exact c3 x z hx2
  |true =>
   have hk':k=.free:=by simpa using hk
   obtain⟨c,hc⟩:=hf (n,k) Am hk'
   have ha':∀x d,((n,c)::acc).lookup x=some d->env.cells.lookup x=some d:=λx d e=>by
    rw[BE]at e
    cases q:x == n with
    |true =>
     rw[q]at e
     have q':x=n:=by simpa using q
     subst q'
     rw[hc];exact e
    |false=>rw[q]at e;exact ha x d e
   obtain⟨cl,e,c1,c2,c3⟩:=qgw r ((n,c)::acc) hr ha'
   have there:((((n,c)::acc).lookup n).isSome)=true:=by simp
   refine⟨cl,?_,c1,λx hx=>c2 x ?_,λx hx hx2=>?_⟩
   .have hcell:cellOf env n=pure c:=by unfold cellOf;rw[hc]
    simp only[hk,if_true,hcell]
    exact e
   .rw[BE]
    cases q:x == n with
    |true=>rfl
    |false=>exact hx
   .rcases Ap.mp hx with z|z
    .subst z;exact c2 n there
    .exact c3 x z hx2
theorem qj0 {env:Env}{scope:Scope}(hf:∀x∈scope.names,x.2=.free->∃c,env.cells.lookup x.1=some c) :
  ∃cl,closureFor scope env=pure cl/\(∀x c,cl.lookup x=some c->env.cells.lookup x=some c)/\∀x∈scope.names,x.2=.free->(cl.lookup x.1).isSome=true:=by
 obtain⟨cl,e,c1,_,c3⟩:=qgw scope.names [] hf (λx c h=>absurd h (by simp))
 refine⟨cl,?_,c1,c3⟩
 unfold closureFor
 exact(congrArg (λz=>z >>= λcs=>(pure cs:Sem (List (Str×Addr)))) e).trans rfl
noncomputable def qmi (N:List Str)(js:List (Option Nat))(XN:List Str)(xs scope:Scope):Bool :=
 (scope.kind == .function) && (scope.names.all λx=>x.2 != .cell) && (scope.names.all λx=>x.2 != .local || (scope.names.lookup x.1 == some .local)) &&
 (scope.names.all λx=>x.2 != .free || (xs.names.lookup x.1 == some .cell || xs.names.lookup x.1 == some .free)) && (N.length == js.length) &&
 ((N.zip js).all λp=>match p.2 with|none=>true|some j=>(XN[j]? == some p.1) && (xs.names.lookup p.1 == some .cell || xs.names.lookup p.1 == some .free) && (scope.names.any λx=>x.1 == p.1 && x.2 == .free) && (scope.names.lookup p.1 == some .free))
structure CompNm (N:List Str)(js:List (Option Nat))(XN:List Str)(xs scope:Scope):Prop where
 kind:scope.kind=.function
 nocell:∀x∈scope.names,x.2 ≠ .cell
 names:∀x∈scope.names,x.2=.local->scope.names.lookup x.1=some .local
 clos:∀x∈scope.names,x.2=.free->(xs.names.lookup x.1=some .cell\/xs.names.lookup x.1=some .free)
 len:N.length=js.length
 free:∀(i j:Nat)(x:Str),N[i]?=some x->js[i]?=some (some j)->XN[j]?=some x/\(xs.names.lookup x=some .cell\/xs.names.lookup x=some .free)/\(x,Bo)∈scope.names/\scope.names.lookup x=some .free
theorem qlr {N:List Str}{js:List (Option Nat)}{XN:List Str}{xs scope:Scope}(h:qmi N js XN xs scope=true):CompNm N js XN xs scope:=by
 unfold qmi at h
 simp only[AE,AV,beq_iff_eq,Bool.or_eq_true,bne_iff_ne,ne_eq]at h
 obtain⟨⟨⟨⟨⟨h1,h2⟩,h3⟩,h4⟩,h5⟩,h6⟩:=h
 refine⟨h1,λx hx=>h2 x hx,λx hx e=>?_,λx hx e=>?_,h5,λi j x e1 e2=>?_⟩
 .rcases h3 x hx with z|z
  .exact absurd e z
  .exact z
 .rcases h4 x hx with z|z
  .exact absurd e z
  .exact z
 .have hz:(N.zip js)[i]?=some (x,some j):=by rw[List.getElem?_zip_eq_some];exact⟨e1,e2⟩
  have:=h6 _ (Ay hz)
  simp only[AE,beq_iff_eq,Bool.or_eq_true,List.any_eq_true]at this
  obtain⟨⟨⟨a1,a2⟩,y,hy,b1,b2⟩,a4⟩:=this
  refine⟨a1,a2,?_,a4⟩
  obtain⟨y1,y2⟩:=y
  have b1':y1=x:=b1
  have b2':y2=.free:=b2
  subst b1' b2'
  exact hy
theorem qnh {env:Env}{scope:Scope}{x:Str}(h:scope.names.lookup x=some .free):(relabel scope env).names.lookup x=some .cell\/(relabel scope env).names.lookup x=some .free:=by
 have gen:∀(l:List (Str×Bt)),l.lookup x=some .free->((l.map λ(n,k)=>if (k == Bo && env.scope.kind == .function && env.kindOf n == some .cell) then (n,Bt.cell) else (n,k)).lookup x=some .cell\/(l.map λ(n,k)=>if (k == Bo && env.scope.kind == .function && env.kindOf n == some .cell) then (n,Bt.cell) else (n,k)).lookup x=some .free):=by
  intro l
  induction l with
  |nil=>intro h;simp at h
  |cons y r ih =>
   obtain⟨n,k⟩:=y
   intro h
   rw[BE]at h
   rw[AA]
   cases q:x == n with
   |false =>
    rw[q]at h
    have:=ih h
    by_cases hc:(k == Bo && env.scope.kind == .function && env.kindOf n == some .cell)=true
    .simpa [hc,BE,q] using this
    .simpa [hc,BE,q] using this
   |true =>
    rw[q]at h
    have h':k=.free:=A7 h
    subst h'
    by_cases hc:(Bo == Bo && env.scope.kind == .function && env.kindOf n == some .cell)=true
    .exact .inl (by show CJ x ((if (Bo == Bo && env.scope.kind == .function && env.kindOf n == some .cell)=true then (n,Bt.cell) else (n,Bo))::_)=_;rw[if_pos hc,BE,q])
    .exact .inr (by show CJ x ((if (Bo == Bo && env.scope.kind == .function && env.kindOf n == some .cell)=true then (n,Bt.cell) else (n,Bo))::_)=_;rw[if_neg hc,BE,q])
 exact gen scope.names h
noncomputable def qb4 (X:Cx)(N:List Str)(scope:Scope)(cl:List (Str×Addr))(C:Addr)(s:Af)(H:Hp)(fp:List Addr)(E:Value->Af->Prop):Cx :=
 { X with N:=N,s₀:=s,H₀:=H,env:=compEnvC scope cl C X.env,outer:=X.stack,ex:=fp,fn:=λ_=>false,pn:=[],xe:=E }
noncomputable def qe8 (js:List (Option Nat))(σ:L2.St):L2.St:=js.map λj=>j.bind λk=>(σ[k]?).join
section
variable {prog:AF}{w:World}{A:AL}{R:Result->Af->Prop}{s:Af}
theorem qo0 {elt target iter:Expr}{ifs:List Expr}{scope:Scope}{pos:Pos}{it acc:Value}{env:Env}(I:Nat->Af->Prop)
  (turn:∀n s,I n s->wpAny (model prog w) A (pyNext it) (λr s₁=>match r with
   |none=>R (.ok .next) s₁
   |some v=>wpAny (model prog w) A (letOwnedTupleGo target it v) (λ_ s₁'=>wpAny (model prog w) A (assign target env v) (λ_ s₂ =>
     wpAny (model prog w) A (forIn ifs true λc r=>if r=true then do let ok <- isTrue c env (eval c env);pure (Do ok) else pure (Do r)) (λok s₃ =>
      if ok=true then wpAny (model prog w) A (eval elt env) (λx s₄ =>
       wpAny (model prog w) A (call (.builtin "list.append") [acc,x]) (λ_ s₅=>∃m,m<n/\I m s₅) (notedBy (model prog w) A env λe s'=>R (.error e) s') s₄) (notedBy (model prog w) A env λe s'=>R (.error e) s') s₃
      else ∃m,m<n/\I m s₃) (notedBy (model prog w) A env λe s'=>R (.error e) s') s₂) (notedBy (model prog w) A env λe s'=>R (.error e) s') s₁')
     (notedBy (model prog w) A env λe s'=>R (.error e) s') s₁) (notedBy (model prog w) A env λe s'=>R (.error e) s') s)
  (n:Nat) (h:I n s):codeAny (model prog w) A (.compLoop (.ListComp elt [⟨target,iter,ifs,0⟩] scope pos) 0 it acc env) R s:=by
 refine codeAny_loop rfl I (λn s hI=>?_) n h
 show wpAny _ A ((compTurn (.ListComp elt [⟨target,iter,ifs,0⟩] scope pos) 0 it acc env).onRaise (λx=>do noteFrame x env;theTreesLotGoes x)) _ _ s
 refine wpAny_noted ?_
 rw[compTurn_list]
 refine Aa (wpAny_standAt (Aa (BY (turn n s hI) (λr s₁ h₁=>?_) λ_ _ h'=>h')))
 cases r with
 |none=>exact Al h₁
 |some v =>
  refine Aa (BY h₁ (λ_ s₁' h₁'=>?_) λ_ _ h'=>h')
  refine Aa (BY h₁' (λ_ s₂ h₂=>Aa (BY h₂ (λok s₃ h₃=>?_) λ_ _ h'=>h')) λ_ _ h'=>h')
  cases ok with
  |false=>exact Al ⟨rfl,h₃⟩
  |true =>
   exact Aa (Aa (BY h₃ (λx s₄ h₄=>Aa (BY h₄ (λ_ s₅ h₅=>Al (Al ⟨rfl,h₅⟩)) λ_ _ h'=>h')) λ_ _ h'=>h'))
end
noncomputable def PTs (X:Cx)(ifs:List Expr)(t:TT):Prop :=
 ∀(pins:List (Addr×Obj))(s:Af)(σ:L2.St)(H:Hp)(Q:Bool->Hp->Prop),Inv X pins σ H s->t σ H Q ->
  wpAny (model X.prog X.w) X.A (forIn ifs true λc r=>if r=true then do let ok <- isTrue c X.env (eval c X.env);pure (Do ok) else pure (Do r)) (TP X pins σ Q) X.xe s
noncomputable def qqf:TT:=λ_ H Q=>Q true H
theorem qcj {X:Cx}:PTs X [] qqf:=λ_ _ _ H _ I h=>wpAny_tests_nil ⟨H,I,h⟩
theorem qwp {X:Cx}{c:Expr}{t:TT}(hc:PT X c t):PTs X [c] t:=λpins s σ H Q I h=>wpAny_tests_one (hc pins s σ H Q I h)
noncomputable def qif (js:List (Option Nat))(g:TG)(tc:TT)(te:TE)(σ:L2.St)(Q:VK)(J:It)(H1:Hp):Prop:=∀p,H1 p=none ->
 ∃W:Nat->Nat->L2.St->Hp->Prop,(∃m,W 0 m (qe8 js σ) (upd H1 p (.lst [])))/\∀i m σ' H',W i m σ' H' ->
  (J.stop i H'/\Q (.ref p) H')\/(J.go i H'/\∃N:L2.St->Hp->Prop,(∀σ2 H2,N σ2 H2->∃m',m'<m/\W (i+1) m' σ2 H2) /\
   ∀x H2,J.yld i H' x H2->g x σ' H2 λσ3 H3=>tc σ3 H3 λk H4=>if k=true then te σ3 H4 λv H5=>∃xs,H5 p=some (.lst xs)/\xs.length<A0/\N σ3 (upd H5 p (.lst (xs++[v]))) else N σ3 H4)
noncomputable def qyq (js:List (Option Nat))(wi:TI)(g:TG)(tc:TT)(te:TE):TE:=λσ H Q=>wi σ H (qif js g tc te σ Q)
section
variable {X:Cx}{N XN:List Str}{js:List (Option Nat)}{xs scope:Scope}{elt target iter:Expr}{ifs:List Expr}{pos:Pos}{g:TG}{tc:TT}{te:TE}
theorem qj1 {pins:List (Addr×Obj)}{σ:L2.St}{H2:Hp}{s2:Af}{it:Addr}{fp:List Addr}{tn:Nat->Heap->Prop}{J:It}{cl:List (Str×Addr)}{Q:V->Hp->Prop}{RR:Value->Addr->Result->Af->Prop}{E:Value->Af->Prop}
  (hc:X.calm=true) (hN:X.N=XN) (hS:X.env.scope=xs) (nm:CompNm N js XN xs scope) (hcl1:∀x c,cl.lookup x=some c->X.env.cells.lookup x=some c) (hcl2:∀x∈scope.names,x.2=.free->(cl.lookup x.1).isSome=true)
  (hg:∀(cl:List (Str×Addr))(C:Addr)(s:Af)(H:Hp)(fp:List Addr)(E:Value->Af->Prop),PG (qb4 X N scope cl C s H fp E) target g)
  (ht:∀(cl:List (Str×Addr))(C:Addr)(s:Af)(H:Hp)(fp:List Addr)(E:Value->Af->Prop),PTs (qb4 X N scope cl C s H fp E) ifs tc)
  (he:∀(cl:List (Str×Addr))(C:Addr)(s:Af)(H:Hp)(fp:List Addr)(E:Value->Af->Prop),PE (qb4 X N scope cl C s H fp E) elt te)
  (I2:Inv X pins σ H2 s2) (T:Turn X.prog X.w X.K target J fp it tn) (st2:tn 0 s2.heap) (f2:∀b∈fp,qd6 X pins H2 b)
  (hW:qif js g tc te σ Q J H2)
  (fin:∀(p C:Addr)(H':Hp)(s':Af)(m:Str->Option Value),Inv X pins σ H' s'->s'.heap.Ns C m->s2.heap.objs.size<=C->H' C=none->Q (.ref p) H'->RR (.ref p) C (.ok .next) s') :
  wpAny (model X.prog X.w) X.A (newList []) (λacc s₃=>wpAny (model X.prog X.w) X.A (newFunctionEnv scope X.env.globals cl [] X.env.qual none .none (some X.env)) (λcenv s₄ =>
   codeAny (model X.prog X.w) X.A (.compStart (.ListComp elt [⟨target,iter,ifs,0⟩] scope pos) 0 (.ref it) acc { cenv with scope:=relabel scope X.env }) (RR acc cenv.locals) s₄) E s₃) E s2:=by
 refine Cf (wpAny_newFunctionEnv nm.nocell (by intro y hy;simp at hy) (λh₁ hns₁ hsb₁=>?_) nm.kind)
 obtain⟨W,⟨m0,w0⟩,turn⟩:=hW s2.heap.objs.size I2.fresh
 have I3:Inv X pins σ (upd H2 s2.heap.objs.size (.lst [])) { s2 with heap:=s2.heap.push { cls:=.type "list",data:=.seq ([]:List Value).toArray } }:=I2.lnew (ys:=[]) (its:=[]) (t':=s2.toks) .nil (Bs _)
 generalize hs3:({ s2 with heap:=s2.heap.push { cls:=.type "list",data:=.seq ([]:List Value).toArray } }:Af)=s3 at I3 hns₁ hsb₁ |-
 have hh3:s3.heap=s2.heap.push { cls:=.type "list",data:=.seq ([]:List Value).toArray }:=by rw[<- hs3]
 have z3:s3.heap.objs.size=s2.heap.objs.size+1:=by rw[hh3,Bp]
 generalize hP:s2.heap.objs.size=P at w0 turn I3 z3 |-
 have hH3:∀b∈fp,upd H2 P (.lst []) b=none:=λb hb=>by
  have nb:b≠P:=by
   obtain⟨o,eo,_⟩:=T.obj 0 s2.heap st2 b hb
   have:=Aw eo
   rw[hP]at this
   exact AD this
  rw[ze nb]
  exact(f2 b hb).1
 generalize hH:upd H2 P (.lst [])=H3 at w0 I3 hH3
 have f3:∀b∈fp,b≠X.env.locals/\b∉X.fs/\(b∈X.ex\/X.s₀.heap.objs.size<=b)/\(∀x c,X.env.cells.lookup x=some c->c≠b)/\∀p∈X.pn++pins,p.1≠b:=λb hb=>(f2 b hb).2
 have fpl:∀b∈fp,b<s3.heap.objs.size:=λb hb=>by
  obtain⟨o,eo,_⟩:=T.obj 0 s2.heap st2 b hb
  have hl:=Aw eo
  exact A8 hl (by rw[z3,hP];exact Ck _)
 have st3:tn 0 s3.heap:=T.keep 0 _ _ st2 λb _ o e=>by rw[hh3];exact Ah _ e
 generalize hC:s3.heap.objs.size=C at hns₁ hsb₁ z3 fpl |-
 have old:∀b o,s3.heap.get? b=some o->h₁.get? b=some o:=λb o e=>hsb₁.extBut b o (by have hl:=Aw e;rw[hC]at hl;exact AD hl) (Ah _ e)
 have stk:∀b∈fp,b∉frs X.stack:=λb hb z=>by
  rcases Ap.mp (I3.stkSub b z) with q|q
  .exact(f3 b hb).1 q
  .exact(f3 b hb).2.1 q
 have ok:∀E',(qb4 X N scope cl C s3 H3 fp E').Ok:=λE'=>{
  mod:=I3.ok.mod
  kind:=nm.kind
  glob:=I3.ok.glob
  blt:=I3.ok.blt
  above:=BS hC
  inj:=λx y c h1 h2=>I3.ok.inj x y c (hcl1 x c h1) (hcl1 y c h2)
  has:=λx hx=>by
   have key:(x,Bo)∈scope.names:=by
    have hl:(relabel scope X.env).names.lookup x=some .cell\/(relabel scope X.env).names.lookup x=some .free:=hx
    have gen:∀(l:List (Str×Bt)),(∀y∈l,y.2 ≠ .cell)->((l.map λ(n,k)=>if (k == Bo && X.env.scope.kind == .function && X.env.kindOf n == some .cell) then (n,Bt.cell) else (n,k)).lookup x=some .cell\/(l.map λ(n,k)=>if (k == Bo && X.env.scope.kind == .function && X.env.kindOf n == some .cell) then (n,Bt.cell) else (n,k)).lookup x=some .free)->(x,Bo)∈l:=by
     intro l
     induction l with
     |nil=>intro _ h;rcases h with h|h <;>simp at h
     |cons y r ih =>
      obtain⟨n,k⟩:=y
      intro hn h
      have hr:=ih (λy hy=>hn y (Aq _ hy))
      have hk:k ≠ .cell:=hn (n,k) Am
      rw[AA]at h
      cases q:x == n with
      |false =>
       refine Aq _ (hr ?_)
       by_cases hc:(k == Bo && X.env.scope.kind == .function && X.env.kindOf n == some .cell)=true
       .simpa [hc,BE,q] using h
       .simpa [hc,BE,q] using h
      |true =>
       have q':x=n:=by simpa using q
       subst q'
       by_cases hc:(k == Bo && X.env.scope.kind == .function && X.env.kindOf x == some .cell)=true
       .have:k=.free:=by
         simp only[AE,beq_iff_eq]at hc
         exact hc.1.1
        subst this
        exact Am
       .have h':k=.cell\/k=.free:=by simpa [hc,BE] using h
        rcases h' with z|z
        .exact absurd z hk
        .subst z;exact Am
    exact gen scope.names nm.nocell hl
   exact CP.mp (hcl2 _ key rfl)
  cab:=λ_ _ h _=>nomatch h
  hd:=I3.ok.hd
  frames:=I3.ok.frames
  stk:=.inl rfl
  exf:=λb hb=>⟨AD (fpl b hb),λx c e=>(f3 b hb).2.2.2.1 x c (hcl1 x c e)⟩
  bs:=I3.bs
  bsz:=A3 I3.ok.bsz I3.sz
  noex:=λb o e hb=>by
   rcases (f3 b hb).2.2.1 with z|z
   .exact I3.ok.noex b o e z
   .have h1:=Aw e
    have h2:=I3.ok.bsz
    exact absurd (A8 h1 (A3 h2 z)) (B4 _)
  exfs:=stk
  funs:=I3.stack
  frf:=I3.stkFree }
 have qfh:∀E',Inv (qb4 X N scope cl C s3 H3 fp E') [] (qe8 js σ) H3 { s3 with heap:=h₁,toks:=s3.toks+([]:List (Str×Value)).length }:=λE'=>{
  ok:=ok E'
  os:=rfl
  bare:=I3.bare
  base:=Un.kept old
  loc:=by
   refine⟨_,hns₁,λi x v e1 e2 e3=>?_⟩
   have e2':((js[i]?).map λj=>j.bind λk=>(σ[k]?).join)=some (some v):=by
    have:=e2
    unfold qe8 at this
    rwa [Ai]at this
   cases hj:js[i]? with
   |none=>rw[hj]at e2';cases e2'
   |some jo =>
    rw[hj]at e2'
    cases jo with
    |none=>cases e2'
    |some j =>
     have e2'':(σ[j]?).join=some v:=A7 e2'
     have e4:σ[j]?=some (some v):=by
      cases q:σ[j]? with
      |none=>rw[q]at e2'';cases e2''
      |some o=>rw[q]at e2'';cases o with
       |none=>cases e2''
       |some y=>cases e2'';rfl
     obtain⟨a1,a2,a3,a4⟩:=nm.free i j x e1 hj
     obtain⟨mX,hnX,lX⟩:=I3.loc
     have vis:Vis X.env.scope x:=by rw[hS];exact .inr a2
     obtain⟨u,ru,lu⟩:=lX j x v (by rw[hN];exact a1) e4 vis
     refine⟨u,ru,?_⟩
     rcases lu with ⟨k1,_⟩|⟨k1,c,e5,z⟩
     .exfalso
      have k1':X.env.scope.names.lookup x=some .local:=k1
      rw[hS]at k1'
      rcases a2 with q|q <;>rw[q]at k1' <;>cases k1'
     .obtain⟨c',e6⟩:=CP.mp (hcl2 _ a3 rfl)
      have e7:=hcl1 x c' e6
      rw[e5]at e7
      cases e7
      refine .inr ⟨?_,c,e6,?_⟩
      .rcases e3 with q|q|q
       .exfalso
        have:=qnh (env:=X.env) a4
        rcases this with t|t <;>(have q':(relabel scope X.env).names.lookup x=some .local:=q;rw[t]at q';cases q')
       .exact .inl q
       .exact .inr q
      .obtain⟨o,ho,hd⟩:=z
       exact⟨o,old c o ho,hd⟩
  cell:=λx c e=>by
   obtain⟨v,o,ho,hd⟩:=I3.cell x c (hcl1 x c e)
   exact⟨v,o,old c o ho,hd⟩
  free:=I3.hok.fresh (BS hC)
  freeC:=λx c e=>I3.freeC x c (hcl1 x c e)
  pin:=λp hp=>absurd (show p∈([]:List (Addr×Obj)) from hp) (by simp)
  hok:=I3.hok.kept old
  len:=by unfold qe8;rw[Ac];exact nm.len.symm }
 have done:∀{E':Value->Af->Prop}{σ':L2.St}{H':Hp}{s':Af},Inv (qb4 X N scope cl C s3 H3 fp E') [] σ' H' s'->Q (.ref P) H'->RR (.ref P) C (.ok .next) s':=λ{E' σ' H' s'} J' q=>by
  obtain⟨m',hn',_⟩:=J'.loc
  refine fin P C H' s' m' (I3.call' (ch:=fp) J'.os J'.base J'.hok J'.bare λb hb=>⟨(f3 b hb).2.2.1,(f3 b hb).1,(f3 b hb).2.2.2.1,(f3 b hb).2.2.2.2⟩) hn' (by rw[z3,hP];exact Ck _) J'.free q
 have loop:∀s₄:Af,s₄={ s3 with heap:=h₁,toks:=s3.toks+([]:List (Str×Value)).length } ->
   codeAny (model X.prog X.w) X.A (.compLoop (.ListComp elt [⟨target,iter,ifs,0⟩] scope pos) 0 (.ref it) (.ref P) (compEnvC scope cl C X.env)) (RR (.ref P) C) s₄:=by
  rintro s₄ rfl
  generalize hNB:notedBy (model X.prog X.w) X.A (compEnvC scope cl C X.env) (λe s'=>RR (.ref P) C (.error e) s')=NB
  have stat:∀{H':Hp},(∀b∈fp,H' b=none)->∀b∈fp,qd6 (qb4 X N scope cl C s3 H3 fp NB) [] H' b:=λhn b hb =>
   ⟨hn b hb,AD (fpl b hb),stk b hb,.inl hb,λx c e=>(f3 b hb).2.2.2.1 x c (hcl1 x c e),λp hp=>absurd (show p∈([]:List (Addr×Obj)) from hp) (by simp)⟩
  refine qo0 (λn s'=>∃i σ' H',Inv (qb4 X N scope cl C s3 H3 fp NB) [] σ' H' s'/\tn i s'.heap/\(∀b∈fp,H' b=none)/\W i n σ' H') ?_ m0 ⟨0,qe8 js σ,H3,qfh NB,T.keep 0 _ _ st3 λb _ o e=>old b o e,hH3,w0⟩
  rw[hNB]
  rintro n s5 ⟨i,σ5,H5,I5,st5,fr5,w5⟩
  rcases turn i n σ5 H5 w5 with ⟨stop,qn⟩|⟨go,Nx,hNx,step⟩
  .refine thn (T.done (qb4 X N scope cl C s3 H3 fp NB) rfl rfl rfl hc i [] s5 σ5 H5 NB I5 (stat fr5) st5 stop) λr s6 ⟨hr,I6⟩=>?_
   subst hr
   exact done I6 qn
  .refine thn (T.item (qb4 X N scope cl C s3 H3 fp NB) rfl rfl rfl hc i [] s5 σ5 H5 NB I5 (stat fr5) st5 go) λr s6 ⟨u,hr,h6⟩=>?_
   subst hr
   refine thn h6 λ_ s7 ⟨x,H7,I7,r7,y7,st7,fr7⟩=>?_
   have I7':=I7.pinned (stat fr7) (T.obj _ _ st7)
   have again:∀{σ8:L2.St}{H8:Hp}{s8:Af},Inv (qb4 X N scope cl C s3 H3 fp NB) ([]++qid fp s7.heap) σ8 H8 s8->Nx σ8 H8->∃m,m<n/\∃i σ' H',Inv (qb4 X N scope cl C s3 H3 fp NB) [] σ' H' s8/\tn i s8.heap/\(∀b∈fp,H' b=none)/\W i m σ' H':=λ{σ8 H8 s8} I8 n8=>by
    obtain⟨m',hm,w8⟩:=hNx σ8 H8 n8
    refine⟨m',hm,i+1,σ8,H8,I8.unpinned,T.keep _ _ _ st7 λb hb o e=>(I8.pin (b,o) (AK _ (AK _ (qef hb e)))).1,λb hb=>?_,w8⟩
    obtain⟨o,e,d⟩:=T.obj _ _ st7 b hb
    exact(I8.pin (b,o) (AK _ (AK _ (qef hb e)))).2.1
   refine thn (hg cl C s3 H3 fp NB _ s7 σ5 H7 x u _ I7' r7 (step x H7 y7)) λ_ s8 ⟨σ8,H8,I8,q8⟩=>?_
   refine thn (ht cl C s3 H3 fp NB _ s8 σ8 H8 _ I8 q8) λk s9 ⟨H9,I9,q9⟩=>?_
   cases k with
   |false =>
    rw[if_neg En]at q9 |-
    exact again I9 q9
   |true =>
    rw[if_pos rfl]at q9 |-
    refine thn (he cl C s3 H3 fp NB _ s9 σ8 H9 _ I9 q9) λuv s10 ⟨v,H10,I10,r10,xs',hx1,hx2,q10⟩=>?_
    refine thn (qa7 (X:=qb4 X N scope cl C s3 H3 fp NB) _ s10 σ8 H10 (.ref P) [v] (.ref P) [uv] (λ_ H11=>Nx σ8 H11) I10 rfl (.cons r10 .nil) ⟨P,xs',v,rfl,rfl,hx1,hx2,q10⟩) λ_ s11 ⟨_,H11,I11,_,q11⟩=>?_
    exact again I11 q11
 exact codeAny_compStart_list (loop _ rfl) (T.self _ 0 _ _ _ (T.keep 0 _ _ st3 λb _ o e=>old b o e) (loop _ rfl))
end
section
variable {X:Cx}{N XN:List Str}{js:List (Option Nat)}{xs scope:Scope}{elt target iter:Expr}{ifs:List Expr}{pos:Pos}{wi:TI}{g:TG}{tc:TT}{te:TE}
theorem qiy {pins:List (Addr×Obj)}{σ σ':L2.St}{H H':Hp}{s s':Af}{C:Addr}{h':Heap}(I2:Inv X pins σ H s)(J:Inv X pins σ' H' s')(hC:s.heap.objs.size<=C)(hn:H' C=none)(sb:Bc C s'.heap h'):Inv X pins σ' H' { s' with heap:=h' } :=
 J.turned (t':=s'.toks) (it:=C) (λb o hb e=>sb.extBut b o hb e) hn (Cq (A8 I2.lt hC)) (.inr (A3 I2.sz hC))
  (λx c e=>by
   obtain⟨v,q⟩:=I2.cell x c e
   exact AD (A8 q.lt hC)) λp hp=>AD (A8 (Aw (I2.pin p hp).1) hC)
theorem qeq (hc:X.calm=true)(hN:X.N=XN)(hS:X.env.scope=xs)(hok:qmi N js XN xs scope=true)(hi:PI X target iter wi)
  (hg:∀(cl:List (Str×Addr))(C:Addr)(s:Af)(H:Hp)(fp:List Addr)(E:Value->Af->Prop),PG (qb4 X N scope cl C s H fp E) target g)
  (ht:∀(cl:List (Str×Addr))(C:Addr)(s:Af)(H:Hp)(fp:List Addr)(E:Value->Af->Prop),PTs (qb4 X N scope cl C s H fp E) ifs tc)
  (he:∀(cl:List (Str×Addr))(C:Addr)(s:Af)(H:Hp)(fp:List Addr)(E:Value->Af->Prop),PE (qb4 X N scope cl C s H fp E) elt te)
  (hs:∀x,foldedSetIterable iter X.env x=pure x:=by intro _;rfl):PE X (.ListComp elt [⟨target,iter,ifs,0⟩] scope pos) (qyq js wi g tc te):=by
 intro pins s σ H Q I h
 have nm:=qlr hok
 obtain⟨cl,hcl,c1,c2⟩:=qj0 (env:=X.env) (scope:=scope) λx hx e=>I.ok.has x.1 (by
  rcases nm.clos x hx e with q|q
  .exact .inl (by show X.env.scope.names.lookup _=_;rw[hS];exact q)
  .exact .inr (by show X.env.scope.names.lookup _=_;rw[hS];exact q))
 rw[eval_ListComp]
 refine wpAny_comprehension_free (use:=none) rfl hs hcl nm.kind nm.names (thn (hi pins s σ H _ I h) λv s1 h1=>thn h1 λitv s2 h2=>?_)
 obtain⟨it,fp,tn,J,H2,e,I2,T,st2,f2,hW⟩:=h2
 subst e
 refine qj1 (RR:=λacc C=>compPost (model X.prog X.w) X.A X.xe none (EP X pins σ Q) acc C) hc hN hS nm c1 c2 hg ht he I2 T st2 f2 hW λp C H' s' m J' hn hC hCf q=>?_
 exact⟨m,hn,λh' hs'=>⟨.ref p,H',qiy I2 J' hC hCf hs',rfl,q⟩⟩
theorem qdb {i:Nat}{x:Str}{px spos:Pos}(hNd:X.N.Nodup)(hix:X.N[i]?=some x)(hloc:X.env.scope.names.lookup x=some .local)(hc:X.calm=true)(hN:X.N=XN)(hS:X.env.scope=xs)(hok:qmi N js XN xs scope=true)(hi:PI X target iter wi)
  (hg:∀(cl:List (Str×Addr))(C:Addr)(s:Af)(H:Hp)(fp:List Addr)(E:Value->Af->Prop),PG (qb4 X N scope cl C s H fp E) target g)
  (ht:∀(cl:List (Str×Addr))(C:Addr)(s:Af)(H:Hp)(fp:List Addr)(E:Value->Af->Prop),PTs (qb4 X N scope cl C s H fp E) ifs tc)
  (he:∀(cl:List (Str×Addr))(C:Addr)(s:Af)(H:Hp)(fp:List Addr)(E:Value->Af->Prop),PE (qb4 X N scope cl C s H fp E) elt te)
  (hsw:swapsWith (.ListComp elt [⟨target,iter,ifs,0⟩] scope pos) (some (.Name x px)) spos.line X.env=pure true:=by rfl)
  (hs:∀x,foldedSetIterable iter X.env x=pure x:=by intro _;rfl):PS X (.Assign [.Name x px] (.ListComp elt [⟨target,iter,ifs,0⟩] scope pos) spos) (qy5 (qyq js wi g tc te) (qlf i)):=by
 intro pins s σ H D I h
 have nm:=qlr hok
 obtain⟨cl,hcl,c1,c2⟩:=qj0 (env:=X.env) (scope:=scope) λx hx e=>I.ok.has x.1 (by
  rcases nm.clos x hx e with q|q
  .exact .inl (by show X.env.scope.names.lookup _=_;rw[hS];exact q)
  .exact .inr (by show X.env.scope.names.lookup _=_;rw[hS];exact q))
 rw[exec_Assign_Name_used _ _ _ _ hsw]
 refine Aa (wpAny_standAt (Aa ?_))
 show wpAny _ X.A (do let _ <- comprehension (.ListComp elt [⟨target,iter,ifs,0⟩] scope pos) scope X.env _ (newList []) false (eval iter X.env) (some (assign (.Name x px) X.env))) _ _ s
 refine Aa (BY (wpAny_comprehension_free (use:=some (assign (.Name x px) X.env)) (Q:=λ_ s'=>SP X pins D .next s') rfl hs hcl nm.kind nm.names
  (thn (hi pins s σ H _ I h) λv s1 h1=>thn h1 λitv s2 h2=>?_)) (λ_ s' hq=>Al (Al hq)) λ_ _ e=>e)
 obtain⟨it,fp,tn,J,H2,e,I2,T,st2,f2,hW⟩:=h2
 subst e
 refine qj1 (Q:=λx H1=>qlf i x σ H1 D.nx) (RR:=λacc C=>compPost (model X.prog X.w) X.A X.xe (some (assign (.Name x px) X.env)) (λ_ s'=>SP X pins D .next s') acc C) hc hN hS nm c1 c2 hg ht he I2 T st2 f2 hW λp C H' s' m J' hn hC hCf q=>?_
 obtain⟨o,es,ep,ho,hd,hr⟩:=id hn
 have Jp:Inv X (pins++[(C,o)]) σ H' s':=J'.pins_of λz hz=>(AH.mp hz).elim (λy=>J'.pin z (AK _ y)) λy=>by
  have e:z=(C,o):=by simpa using y
  subst e
  exact⟨ho,hCf,Cq (A8 I2.lt hC),I2.nofs hC,λv z=>by rw[hd]at z;cases z⟩
 refine thn (qai (X:=X) (pos:=px) hNd hix (.inl hloc) (.inr hloc) (pins++[(C,o)]) s' σ H' (.ref p) (.ref p) _ Jp rfl q) λ_ s'' ⟨σ'',H'',Js,q''⟩=>?_
 have pc:=Js.pin (C,o) (AK _ (AK _ (by simp)))
 refine⟨m,⟨o,es,ep,pc.1,hd,hr⟩,λh' hs'=>⟨σ'',H'',qiy I2 Js.unpinned hC pc.2.1 hs',q''⟩⟩
end
noncomputable def qls (J:It)(H:Hp)(xs:List V):Prop:=∀H',Same H H'->(∀i x,xs[i]?=some x->J.go i H'/\∀y H2,J.yld i H' y H2->y=x/\H2=H')/\J.stop xs.length H'
theorem qb5 {K:Ae}{H:Hp}{a:Addr}{xs:List V}(h:SqL K H a xs):qls (Itl K a) H xs:=λH' e =>
 ⟨λi x hx=>⟨⟨xs,x,e.seq h,hx⟩,λy H2 hy=>by
  obtain⟨e1,e2⟩:=hy
  have:=e2 xs (e.seq h)
  rw[hx]at this
  exact⟨(A7 this).symm,e1⟩⟩,⟨xs,e.seq h,Ax _⟩⟩
theorem qfq {H:Hp}{lo:Int}{n:Nat}:qls (Itr lo n) H ((Bh n).map λi=>V.int (lo+(i:Nat))):=λH' _ =>
 ⟨λi x hx=>by
  rw[Ai]at hx
  cases q:(Bh n)[i]? with
  |none=>rw[q]at hx;cases hx
  |some j =>
   have hi:i<n:=by
    obtain⟨h1,_⟩:=Ag.mp q
    simpa using h1
   have hj:j=i:=by
    obtain⟨_,h2⟩:=Ag.mp q
    simpa using h2.symm
   rw[q]at hx
   subst hj
   exact⟨hi,λy H2 hy=>⟨hy.2.trans (A7 hx),hy.1⟩⟩,by show n<=_;simp⟩
theorem qbq {js:List (Option Nat)}{g:TG}{te:TE}{J:It}{σ:L2.St}{H:Hp}{Q:VK}{xs:List V}(f:V->V)(Sv:L2.St->Prop)(F:qls J H xs)(hz:xs.length<=A0)(h0:Sv (qe8 js σ))
  (step:∀(x:V)(σ':L2.St)(H':Hp)(R:L2.St->VK),x∈xs->Same H H'->Sv σ'->(∀σ3,Sv σ3->R σ3 (f x) H')->g x σ' H' λσ3 H3=>te σ3 H3 (R σ3))
  (gk:∀(x:V)(σ':L2.St)(H':Hp)(R R':L2.St->Hp->Prop),(∀σ3 H3,R σ3 H3->R' σ3 H3)->g x σ' H' R->g x σ' H' R')
  (fin:∀p,H p=none->Q (.ref p) (upd H p (.lst (xs.map f)))) :
  qif js g qqf te σ Q J H:=by
 intro p hp
 have sm:∀o,Same H (upd H p o):=λo b u e=>by rw[ze (qad e hp)];exact e
 refine⟨λi m σ' H'=>m=xs.length-i/\i<=xs.length/\Sv σ'/\H'=upd H p (.lst ((xs.take i).map f)),⟨xs.length,by simp,Bs _,h0,by simp⟩,?_⟩
 rintro i m σ' H' ⟨rfl,hi,hv,rfl⟩
 obtain⟨F1,F2⟩:=F _ (sm (.lst ((xs.take i).map f)))
 by_cases hlt:i<xs.length
 .have ex:xs[i]?=some xs[i]:=by simp[hlt]
  obtain⟨go,yl⟩:=F1 i _ ex
  refine .inr ⟨go,λσ2 H2=>Sv σ2/\H2=upd H p (.lst ((xs.take (i+1)).map f)),λσ2 H2 ⟨a,b⟩=>⟨xs.length-(i+1),by lia,rfl,hlt,a,b⟩,λx H2 hy=>?_⟩
  obtain⟨rfl,rfl⟩:=yl x H2 hy
  refine gk _ _ _ _ _ (λσ3 H3 z=>?_) (step xs[i] σ' _ (λσ3 v H5=>∃ys,H5 p=some (.lst ys)/\ys.length<A0/\(Sv σ3/\upd H5 p (.lst (ys++[v]))=upd H p (.lst ((xs.take (i+1)).map f)))) (Bb hlt) (sm _) hv λσ3 hs3=>?_)
  .exact z
  .refine⟨_,qz,?_,hs3,?_⟩
   .rw[Ac,A2];lia
   .rw[qp6,CL,ex,A1];rfl
 .have e:i=xs.length:=by lia
  subst e
  refine .inl ⟨F2,?_⟩
  rw[Bx]
  exact fin p hp
theorem qck {i:Nat}(x:V)(σ':L2.St)(H':Hp)(R R':L2.St->Hp->Prop)(h:∀σ3 H3,R σ3 H3->R' σ3 H3)(z:qlf i x σ' H' R):qlf i x σ' H' R':=h _ _ z
noncomputable def Ixs (x:Str):It:=⟨λi _=>i<x.cps.size,λi H v H'=>H'=H/\∃c,x.cps[i]?=some c/\v=.str ⟨#[c]⟩,λi _=>i=x.cps.size⟩
theorem qlt {P:AF}{w:World}{K:Ae}{tg:Expr}{it:Addr}{x:Str}{t:Tok}{ty:String}
  (hty:["enumerate", "zip", "dict_itemiterator", "dict_reverseitemiterator", "odict_iterator", "itertools.zip_longest", "itertools.pairwise"].contains ty=false)
  (W:∀A':AL,A'.handled=none->Walks P w A' it [it] [it] x.cps.size (SignAt x) (λi h=>h.IsStrIter it ty x t i))
  (self:∀(A:AL)(i:Nat)(s:Af)(Q:Value->Af->Prop)(E:Value->Af->Prop),s.heap.IsStrIter it ty x t i->Q (.ref it) s->wpAny (model P w) A (pyIter (.ref it)) Q E s) :
  Turn P w K tg (Ixs x) [it] it (λi h=>h.IsStrIter it ty x t i) where
 mem:=by simp
 obj:=λi h st b hb=>by
  have e:b=it:=by simpa using hb
  subst e
  obtain⟨o,ho,_,hd⟩:=st
  exact⟨o,ho,λv z=>by rw[hd]at z;cases z⟩
 keep:=λi h h' st k=>let ⟨o,ho,r⟩:=st;⟨o,k it (by simp) o ho,r⟩
 item:=by
  intro X hP hw hK hc i pins s σ H E I hf st hg
  subst hP hw hK
  obtain⟨f0,f1,f2,f3,f4,f5⟩:=hf it (by simp)
  refine(W X.A (I.ok.hd hc)).item i s _ _ hg st λv h' tk hv st' kk=>?_
  obtain⟨c,u,hcx,rfl⟩:=hv
  have I1:Inv X pins σ H { s with heap:=h',toks:=tk }:=I.turned (λb o hb e=>kk b o (by simpa using hb) e) f0 f1 f3 f4 f5
  obtain⟨o,ho,hcl,hd⟩:=id st'
  exact⟨_,rfl,qp7 (s:={ s with heap:=h',toks:=tk }) ho hcl hd hty ⟨.str ⟨#[c]⟩,H,I1,⟨u,rfl⟩,⟨rfl,c,hcx,rfl⟩,st',λb hb=>(hf b hb).1⟩⟩
 done:=by
  intro X hP hw hK hc i pins s σ H E I hf st hg
  subst hP hw hK
  obtain⟨f0,f1,f2,f3,f4,f5⟩:=hf it (by simp)
  have e:i=x.cps.size:=hg
  subst e
  exact(W X.A (I.ok.hd hc)).done s _ _ st λh' tk kk=>⟨rfl,I.turned (t':=tk) (λb o hb e=>kk b o (by simpa using hb) e) f0 f1 f3 f4 f5⟩
 self:=self
section
variable {X:Cx}{tg:Expr}
noncomputable def iText (tl:TE):TI:=λσ H R=>tl σ H λv H1=>∃x,v=.str x/\R (Ixs x) H1
theorem qqg {l:Expr}{tl:TE}(hl:PE X l tl):PI X tg l (iText tl):=by
 intro pins s σ H R I h
 refine thn (hl pins s σ H _ I h) λv s1 ⟨y,H1,I1,r1,q1⟩=>?_
 obtain⟨x,e,q⟩:=q1
 subst e
 obtain⟨t,rfl⟩:=r1
 have fo:∀b∈[s1.heap.objs.size],qd6 X pins H1 b:=λb hb=>by
  have e:b=s1.heap.objs.size:=by simpa using hb
  subst e
  exact I1.fpOk (Ax _) (I1.hok.fresh (Ax _))
 cases ha:x.cps.all (· < 128)
 .exact wpAny_pyIter_wide ha ⟨s1.heap.objs.size,[s1.heap.objs.size],_,_,H1,rfl,I1.kept (t':=s1.toks) λb o e=>Ah _ e,
   qlt (ty := "str_iterator") (t:=t) En (λA' hA=>Walks.strWide hA _ x t) (λ_ _ _ _ _ st h=>wpAny_pyIter_striter_wide st h),⟨_,Au _ rfl,rfl,rfl⟩,fo,q⟩
 .exact wpAny_pyIter_ascii ha ⟨s1.heap.objs.size,[s1.heap.objs.size],_,_,H1,rfl,I1.kept (t':=s1.toks) λb o e=>Ah _ e,
   qlt (ty := "str_ascii_iterator") (t:=t) En (λA' hA=>Walks.strAscii hA _ x t) (λ_ _ _ _ _ st h=>wpAny_pyIter_striter_ascii st h),⟨_,Au _ rfl,rfl,rfl⟩,fo,q⟩
end
theorem qj2 {H:Hp}{x:Str}:qls (Ixs x) H (x.cps.toList.map λc=>V.str ⟨#[c]⟩):=λH' _ =>
 ⟨λi v hv=>by
  rw[Ai]at hv
  cases q:x.cps.toList[i]? with
  |none=>rw[q]at hv;cases hv
  |some c =>
   rw[q]at hv
   have q':x.cps[i]?=some c:=by simpa using q
   have hi:i<x.cps.size:=(CD.mp q').1
   refine⟨hi,λy H2 hy=>⟨?_,hy.1⟩⟩
   obtain⟨_,d,hd,rfl⟩:=hy
   rw[q']at hd
   cases hd
   exact A7 hv,by show _=x.cps.size;simp⟩
section
variable {X:Cx}
theorem qty (bs:List Bool):((Bh bs.length).all λj=>(bs[j]?).getD true)=bs.all λb=>b:=by
 rw[<- all_rangeD bs λb=>b]
 congr 1
theorem qig (hc:X.calm=true):qdw X (.builtin "all") (λxs H Q=>∃(p:Addr)(bs:List Bool),xs=[V.ref p]/\SqL X.K H p (bs.map V.bl)/\Q (.bl (bs.all λb=>b)) H):=by
 intro pins s σ H xs us Q I r h
 obtain⟨p,bs,rfl,hS,q⟩:=h
 obtain⟨u,rfl,ru⟩:=Vals.one r
 cases ru
 obtain⟨its,rv,pl,hz⟩:=I.list hS
 have hl:=rv.length
 rw[Ac]at hl
 have hne:p≠s.heap.objs.size:=by
  obtain⟨o,ho,_⟩:=pl.isList
  exact AD (Aw ho)
 refine call_all_walk (Dr pl.isList ⟨s.heap.objs.size,_,_,its.toArray.size,_,_,λj=>(bs[j]?).getD true,rfl,Walks.list (show X.A.in1.handled=none from I.ok.hd hc) _ p hne its.toArray,
  ⟨⟨_,Au _ rfl,rfl,rfl⟩,pl.isList.at λo e=>Ah _ e⟩,?_,λh' tk hk=>?_⟩)
 .intro i v s' Q' E' hv hq
  have hv':its[i]?=some v:=by simpa using hv
  cases e:bs[i]? with
  |none =>
   exfalso
   have h1:its.length<=i:=by rw[<- hl];exact B6.mp e
   rw[B6.mpr h1]at hv'
   cases hv'
  |some b =>
   obtain⟨u,hu,ru⟩:=rv.get (i:=i) (x:=.bl b) (by rw[Ai,e];rfl)
   rw[hv']at hu
   cases hu
   cases (show v=Value.bool b from ru)
   dsimp only at hq
   rw[e]at hq
   exact BG hq
 .refine⟨.bl _,H,I.kept (t':=tk) λb o e=>hk b o (λz=>?_) (Ah _ e),rfl,?_⟩
  .have z':b=s.heap.objs.size:=by simpa using z
   exact absurd (Aw e) (by rw[z'];exact B4 _)
  .have e:its.toArray.size=bs.length:=by rw[Ao,hl]
   rw[e]
   rw[qty]
   exact q
theorem qf9:OpR X (compareOp .LtE) (λx y H Q=>∃i j,x=.str i/\y=.str j/\Q (.bl (!decide (j.cps.toList<i.cps.toList))) H):=by
 intro pins s σ H x y v u Q I rx ry h
 obtain⟨i,j,rfl,rfl,q⟩:=h
 obtain⟨t,rfl⟩:=rx
 obtain⟨t',rfl⟩:=ry
 exact PySem.P.le_str (qau I q rfl)
theorem qo1:SlR X (λx lo hi H Q=>∃z,x=.str z/\z.length<=A0/\Q (.str (Eb z lo hi)) H):=by
 intro pins s σ H x v vl vu lo hi sl Q I rx hs pl pu h
 obtain⟨z,rfl,hz,q⟩:=h
 obtain⟨t,rfl⟩:=rx
 refine⟨"str",_,F.slot_str_getitem.lookup,typeIs_str _ _ _,?_⟩
 have fin:∀t' k,EP X pins σ Q (.str (Eb z lo hi) t') { s with toks:=k }:=λt' k=>⟨.str _,H,I.tok k,⟨t',rfl⟩,q⟩
 cases pl with
 |none =>
  cases pu with
  |none=>exact CY (l:=none) (u:=none) (st:=none) hs rfl (post_val_or_str ⟨A3 (DV z _ _) hz,fin⟩)
  |int j uj=>exact CY (l:=none) (u:=some (j,uj)) (st:=none) hs rfl (post_val_or_str ⟨A3 (DV z _ _) hz,fin⟩)
 |int i ui =>
  cases pu with
  |none=>exact CY (l:=some (i,ui)) (u:=none) (st:=none) hs rfl (post_val_or_str ⟨A3 (DV z _ _) hz,fin⟩)
  |int j uj=>exact CY (l:=some (i,ui)) (u:=some (j,uj)) (st:=none) hs rfl (post_val_or_str ⟨A3 (DV z _ _) hz,fin⟩)
theorem qtz {a b}{es:List Expr}{env:Env}:starEach (.List a b::es) env=(false,eval (.List a b) env)::starEach es env:=by rw[starEach];intro e p' h;cases h
theorem zx {a b c}{es:List Expr}{env:Env}:starEach (.Tuple a b c::es) env=(false,eval (.Tuple a b c) env)::starEach es env:=by rw[starEach];intro e p' h;cases h
theorem qhf {a b c d}{es:List Expr}{env:Env}:starEach (.ListComp a b c d::es) env=(false,eval (.ListComp a b c d) env)::starEach es env:=by rw[starEach];intro e p' h;cases h
theorem zb {a b c}{es:List Expr}{env:Env}:starEach (.Constant a b c::es) env=(false,eval (.Constant a b c) env)::starEach es env:=by rw[starEach];intro e p' h;cases h
theorem qj {a b}{es:List Expr}{env:Env}:starEach (.Name a b::es) env=(false,eval (.Name a b) env)::starEach es env:=by rw[starEach];intro e p' h;cases h
theorem zt {a b c d}{es:List Expr}{env:Env}:starEach (.Call a b c d::es) env=(false,eval (.Call a b c d) env)::starEach es env:=by rw[starEach];intro e p' h;cases h
theorem zu {a b c d}{es:List Expr}{env:Env}:starEach (.BinOp a b c d::es) env=(false,eval (.BinOp a b c d) env)::starEach es env:=by rw[starEach];intro e p' h;cases h
theorem qt0 {a b c d}{es:List Expr}{env:Env}:starEach (.Compare a b c d::es) env=(false,eval (.Compare a b c d) env)::starEach es env:=by rw[starEach];intro e p' h;cases h
theorem zw {a b c}{es:List Expr}{env:Env}:starEach (.Subscript a b c::es) env=(false,eval (.Subscript a b c) env)::starEach es env:=by rw[starEach];intro e p' h;cases h
theorem qax {a b c}{es:List Expr}{env:Env}:starEach (.Attribute a b c::es) env=(false,eval (.Attribute a b c) env)::starEach es env:=by rw[starEach];intro e p' h;cases h
end
section
variable {K:Ae}
theorem qer:BN K (.type "str") (.type "str")=some true:=by kernel_rfl
theorem qfr:BN K (.type "str") (.type "int")=some false:=by kernel_rfl
theorem qiz:BN K (.type "list") (.type "list")=some true:=by kernel_rfl
end
section
variable {prog:AF}{w:World}{A:AL}{E:Value->Af->Prop}{h:Heap}{g:Array GenState}{d:Drawn}{t:Nat}{os:OsState}
variable {nm q:Str}{C N:Addr}{bs bm bmB:List Value}{hdct:Bool}{sn:List Str}{sub:List Value}{ab:Bool}{col:Option Bool}{dd:Option Addr}{k0 k1 k2 k3 k5:Option Value}{B Bn newId nid initId inN:String}{bmN:List Value}
noncomputable abbrev qfs (qa9:List Value):Obj:={ cls:=.type "tuple",data:=.seq qa9.toArray }
noncomputable abbrev qeg (C t:Addr):Obj:={ cls:=.ref C,data:=.fields #[.ref t,.none,.none,.none,.bool false,.none] }
theorem qk5 (Fn:ExcBaseFacts Bn newId inN bmN)(hBn:bmB.contains (.type Bn)=true)(F:ExcBaseFacts B nid initId bmB)(T:OwnTail h bmB bm){mN:Str->Option Value}{qa9:List Value}{R:Result->Af->Prop}{fI:Addr}{A':AL}
  (hC:h.get? C=some (excClassObj nm q C N bs bm hdct sn sub ab col dd k0 k1 k2 k3 k5 newId)) (hn:h.Ns N mN) (hni:mN "__init__" = some (.ref fI)) (hb:∀self,BH (model prog w) h (bindSpecial (.ref fI) self) (.ref fI,[self]))
  (hq:codeAny (model prog w) A (.call (.ref fI) ⟨.ref (h.objs.size+1)::qa9,[]⟩) (PySem.W.InitBack (h.objs.size+1) R) ⟨(h.push (qfs qa9)).push (qeg C h.objs.size),g,d,t,os⟩) (hrest:qa9.length<=A0) :
  wpAny (model prog w) A (AG.«type.__call__» ⟨.ref C::qa9,[]⟩) (λfin s'=>match fin with | .done f=>R (.ok f) s' | .again c'=>c'.quiet=true/\codeAny (model prog w) A' c' R s') (λe s'=>R (.error e) s') ⟨h,g,d,t,os⟩:=by
 repeat (first|with_reducible refine wpAny_loadPart_at hC ?_|with_reducible refine wpAny_madeBy_exc hC ?_|wp_step)
 refine codeAny_call_builtin_code (Code.quiet_builtin _ Fn.quiet) (wpAny_check_new_subU Fn hBn T hC ?_)
 refine codeAny_exc_new_subU Fn hBn F T hC ?_ hrest
 show wpAny _ _ _ _ _ _
 have kk:∀b o,h.get? b=some o->((h.push (qfs qa9)).push (qeg C h.objs.size)).get? b=some o:=λb o e=>Ah _ (Ah _ e)
 have hC₁:=kk _ _ hC
 have hn₁:((h.push (qfs qa9)).push (qeg C h.objs.size)).Ns N mN:=let ⟨o,es,ep,e,r⟩:=hn;⟨o,es,ep,kk _ _ e,r⟩
 have hget:((h.push (qfs qa9)).push (qeg C h.objs.size)).get? (h.objs.size+1)=some (qeg C h.objs.size):=by heap_get
 have hcC:(Ar C::bm).contains (.ref C)=true:=by simp
 have T₁:=T.keeps (h':=(h.push (qfs qa9)).push (qeg C h.objs.size)) kk
 have b1:=(hb (.ref (h.objs.size+1))).keeps kk
 unfold isInstance
 repeat (first|with_reducible refine wpAny_loadPart_at hget ?_ | (with_reducible refine wpAny_isSubtype_exc hC₁ ?_;rw[hcC])|wp_step)
 show wpAny _ _ (typeLookup (.ref C) _) _ _ _
 refine wpAny_typeLookup_tail hC₁ hn₁ T₁ F.mroIs F.init.lookup ?_
 rw[hni]
 refine BC (Aa (b1.here ?_))
 refine Aa (CO (C8 hq λr s' z=>?_))
 rcases r with e | (v|_|_|_) <;>first|exact z|exact z.elim|skip
 obtain⟨rfl,z⟩:=z
 exact Al (Al z)
end
section
open PySem.W
variable {prog:AF}{w:World}{A:AL}{E:Value->Af->Prop}{s:Af}{K:Frag}{x C:Addr}{ox:Obj}{od:Option Obj}{name:Str}{expr:Bool}
theorem qwq:builtinKind "BaseException.__getattribute__" = some .slot:=Ek
theorem qt1:splitId "BaseException.__getattribute__" = some ("BaseException", "__getattribute__"):=Ek
theorem ga_not:(Value.builtin "BaseException.__getattribute__" == Value.builtin "object.__getattribute__")=false:=Ek
structure XGet (K:Frag)(C:Addr):Prop where
 ga:findIn K (.ref C) "__getattribute__" = some (some (.builtin "BaseException.__getattribute__"))
 hk:findIn K (.ref C) "__getattr__" = some none
 sub:mroIn K C (.type "BaseException")=some true
theorem qt2 {fill:Bool}{tk:Tok}{Q:Value->Af->Prop}(X:K.In s.heap)(I:InstAt s.heap x ox C od)(c:XGet K C)
  (h:wpAny (model prog w) A.in1 (AG.«object.__getattribute__» ⟨[.ref x,.str name tk],[]⟩)
   (λfin s'=>match fin with | .done (.ret v)=>wpAny (model prog w) A (handedOut v) Q E s'|_=>False) (λ_ _=>False) s) :
  wpAny (model prog w) A (getAttrBy (.ref x) (.str name tk) fill expr) Q E s:=by
 obtain⟨hh,g,d,t,os⟩:=s
 have L0:=I.type (M:=model prog w)
 have L1:=looks_findIn (M:=model prog w) X c.ga
 have L2:=looks_findIn (M:=model prog w) X c.hk
 have sb:Looks (model prog w) hh (isInstance (.ref x) (.type "BaseException")) true:=L0.andThen (looks_mroIn X c.sub)
 unfold getAttrBy
 refine BC (Aa (L0.at (Aa (L1.at ?_))))
 dsimp only
 rw[ga_not,CZ,if_neg En]
 unfold getAttrByItsOwn hookBefore
 refine Aa ?_
 show wpAny _ _ (typeLookup (.ref C) "__getattr__") _ _ _
 refine L2.at (Aa (CA (BC ?_)))
 have e1:callGetattribute (.ref x) (.str name tk) (.builtin "BaseException.__getattribute__") expr=boundAndCalled (.builtin "BaseException.__getattribute__") (.ref x) (.str name tk):=by
  cases expr <;>rfl
 rw[e1]
 unfold boundAndCalled
 rw[PySem.F.attr_ValueError.ga.bind (.ref x)]
 refine Aa (Al (CO ?_))
 refine Dv PySem.F.attr_ValueError.ga.plain PySem.F.entry_bexc_ga (@check_slot (model prog w) _ _ ⟨hh,g,d,t,os⟩ "BaseException.__getattribute__" "BaseException" "__getattribute__" (.ref x) [.str name tk] [] _ qwq qt1 sb (PySem.F.args_bexc_ga (.ref x) (.str name tk)) ?_)
 refine BY h (λfin s' z=>?_) λ_ _ z=>z.elim
 rcases fin with (_|_|_|_)|_ <;>first|exact z|exact z.elim
theorem qt3 {Q:Value->Af->Prop}(X:K.In s.heap)(I:InstAt s.heap x ox C od)(c:XGet K C)
  (h:wpAny (model prog w) A.in1 (AG.«object.__getattribute__» ⟨[.ref x,.str name s.toks],[]⟩)
   (λfin s'=>match fin with | .done (.ret v)=>wpAny (model prog w) A (handedOut v) Q E s'|_=>False) (λ_ _=>False) { s with toks:=s.toks+1 }) :
  wpAny (model prog w) A (getAttr (.ref x) name expr) Q E s:=by
 unfold getAttr
 exact Aa (wpAny_mkText (qt2 (s:={ s with toks:=s.toks+1 }) X I c h))
theorem qrj {v:Value}{Q:Value->Af->Prop}(X:K.In s.heap)(I:InstAt s.heap x ox C od)(c:XGet K C)(hf:findObj K C od name=some (.value v))(hh:handedIn v=true)(h:Q v { s with toks:=s.toks+1 }) :
  wpAny (model prog w) A (getAttr (.ref x) name expr) Q E s:=by
 refine qt3 X I c ?_
 obtain⟨hh',g,d,t,os⟩:=s
 have L0:=I.type (M:=model prog w)
 have L1:=looks_find (M:=model prog w) X I hf
 unfold AG.«object.__getattribute__»
 refine Aa (Al (Aa (Al (Aa (L0.at (Aa (L1.at ?_)))))))
 refine Al ?_
 show wpAny _ _ (handedOut v) _ _ _
 rw[handedOut_of hh];exact Al h
end
section
open PySem.W
variable {prog:AF}{w:World}{A:AL}{E:Value->Af->Prop}{s:Af}{K:Frag}{x C:Addr}{ox:Obj}{od:Option Obj}{name:Str}{expr:Bool}
structure XIs (K:Frag)(C:Addr):Prop extends XGet K C where
 dct:hasDictIn K C=true
 cls:findIn K (.ref C) "__class__" = some (some (.builtin "object.__class__"))
 get:specialIn K (.builtin "object.__class__") "__get__" = some (some (.builtin "getset_descriptor.__get__"))
 tak:takesIn K (.builtin "object.__class__")=some true
 obj:mroIn K C (.type "object")=some true
theorem qo2 (c:XIs K C):findObj K C od "__class__" = some (.bind (.builtin "getset_descriptor.__get__") (.builtin "object.__class__")):=by
 obtain⟨cd,hc,_⟩:=any_some c.dct
 unfold findObj
 rw[hc,Cm,c.cls,Cm]
 dsimp only
 rw[c.get,Cm]
 dsimp only
 rw[c.tak,Cm]
theorem qo3 {M:Model}{h:Heap}(c:hasDictIn K C=true)(X:K.In h):Looks M h (isType (.ref C)) true:=by
 obtain⟨cd,hc,_⟩:=any_some c
 unfold clsIn at hc
 split at hc
 .rename_i c' d' cd' sl' ho
  intro A' Q' E' s' k q
  unfold isType loadHead
  exact Aa (wpAny_loadPart (k _ _ (X _ _ ho)) (Al q))
 .cases hc
theorem qwr {h:Heap}{tp:Addr}{dd:Option Addr}{its:List Value}{n:Nat}{sl:Array (Option Value)}(c:hasDictIn K C=true)(X:K.In h)(htp:h.get? tp=some ⟨.type "tuple",dd,.seq its.toArray n,sl⟩):(Ar C == .ref tp)=false:=by
 obtain⟨cd,hc,_⟩:=any_some c
 refine Bool.eq_false_iff.mpr λq=>?_
 have e:C=tp:=Ar.inj (beq_iff_eq.mp q)
 subst e
 unfold clsIn at hc
 split at hc
 .rename_i c' d' cd' sl' ho
  have z:=(X _ _ ho).symm.trans htp
  cases z
 .cases hc
theorem qrk {Q:Option Value->Af->Prop}(X:K.In s.heap)(I:InstAt s.heap x ox C od)(c:XIs K C)(h:Q (some (.ref C)) { s with toks:=s.toks+1 }):wpAny (model prog w) A (getAttr? (.ref x) "__class__") Q E s:=by
 unfold getAttr? getAttrBy?
 refine Aa (wpAny_mkText (Aa (CA (qt2 (s:={ s with toks:=s.toks+1 }) X I c.toXGet ?_))))
 obtain⟨hh',g,d,t,os⟩:=s
 have L0:=I.type (M:=model prog w)
 have L1:=looks_find (M:=model prog w) X I (qo2 (od:=od) c)
 unfold AG.«object.__getattribute__»
 refine Aa (Al (Aa (Al (Aa (L0.at (Aa (L1.at ?_)))))))
 show wpAny _ _ (AG.ObjectAttr.bindTo (.builtin "getset_descriptor.__get__") (.builtin "object.__class__") (.ref x) (.ref C)) _ _ _
 unfold AG.ObjectAttr.bindTo
 refine Aa (BC (CO (class_get (s:=⟨hh',g,d,t+1,os⟩) (ox:=ox) (od:=od) X I c.obj ?_)))
 refine Al ?_
 show wpAny _ _ (handedOut (.ref C)) _ _ _
 rw[handedOut_of rfl]
 exact Al (Al h)
theorem qt4 (c:XIs K C):KitX K (.ref x) (.ref C) (λh=>∃ox od,InstAt h x ox C od) where
 ty:=λ_ _ _ ⟨_,_,I⟩=>I.type
 it:=λ_ _ X _=>qo3 c.dct X
 ne:=λh tp dd its n sl X htp=>qwr c.dct X htp
 ca:=λX ⟨_,_,I⟩ k=>qrk X I c k
noncomputable abbrev VE:List Value:=[.type "ValueError",.type "Exception",.type "BaseException",.type "object"]
noncomputable def qni:List Value->Bool
 |.ref _::r=>qni r
 |l=>l == VE
theorem qj3 (self:Value):∀{l:List Value},qni l=true->refuseLoop self "__setattr__" l=pure ()/\l.isEmpty=false/\l.contains (.type "object")=true
 | [],e=>by cases e
 |.ref c::r,e=>by
  obtain⟨a,b,d⟩:=qj3 self (l:=r) e
  exact⟨by rw[refuseLoop_ref];exact a,rfl,by rw[List.contains_cons,d,Bool.or_true]⟩
 |.type n::r,e=>by
  have e':(.type n::r:List Value)=VE:=beq_iff_eq.mp e
  rw[e']
  exact⟨PySem.F.store_ValueError.passes self,rfl,En⟩
 |.none::r,e=>by have e':=beq_iff_eq.mp (show ((.none::r:List Value) == VE)=true from e);cases e'
 |.bool _::r,e=>by have e':=beq_iff_eq.mp (show ((.bool _::r:List Value) == VE)=true from e);cases e'
 |.int _ _::r,e=>by have e':=beq_iff_eq.mp (show ((.int _ _::r:List Value) == VE)=true from e);cases e'
 |.float _ _::r,e=>by have e':=beq_iff_eq.mp (show ((.float _ _::r:List Value) == VE)=true from e);cases e'
 |.str _ _::r,e=>by have e':=beq_iff_eq.mp (show ((.str _ _::r:List Value) == VE)=true from e);cases e'
 |.bytes _ _::r,e=>by have e':=beq_iff_eq.mp (show ((.bytes _ _::r:List Value) == VE)=true from e);cases e'
 |.builtin _::r,e=>by have e':=beq_iff_eq.mp (show ((.builtin _::r:List Value) == VE)=true from e);cases e'
end
section
open PySem.W
variable {prog:AF}{w:World}{A:AL}{E:Value->Af->Prop}{s:Af}{K:Frag}{x C:Addr}{o:Obj}{name:Str}{v:Value}
structure XSet (K:Frag)(C:Addr)(name:Str):Prop where
 sa:findIn K (.ref C) "__setattr__" = some (some (.builtin "object.__setattr__"))
 no:findIn K (.ref C) name=some none
 cd:((clsIn K C).any λcd=>qni cd.mro && cd.hasDict)=true
theorem qws {tk:Tok}{R:Result->Af->Prop}(X:K.In s.heap)(hx:s.heap.get? x=some o)(hc:o.cls=.ref C)(c:XSet K C name)
  (h:wpAny (model prog w) A.in1 (AG.ObjectAttr.storeInOwnDict (.ref x) (.ref C) (.str name tk) name v false)
   (λfin s'=>match fin with | .done f=>R (.ok f) s' | .again c'=>c'.quiet=true/\codeAny (model prog w) A c' R s') (λe s'=>R (.error e) s') s) :
  codeAny (model prog w) A (.call (.builtin "object.__setattr__") ⟨[.ref x,.str name tk,v],[]⟩) R s:=by
 have SF:=PySem.F.store_object
 obtain⟨cd,hcd,ho⟩:=any_some c.cd
 simp only[AE]at ho
 obtain⟨rf,ne,has⟩:=qj3 (.ref x) ho.1
 have L0:Looks (model prog w) s.heap (typeOf (.ref x)) (.ref C):=hc ▸ (Looks.ld hx).andThen .now
 have sub:Looks (model prog w) s.heap (isInstance (.ref x) (.type "object")) true:=L0.andThen (looks_mroIn X (by unfold mroIn;rw[hcd,Cm,if_neg (by rw[ne];decide),has]))
 have hm:Looks (model prog w) s.heap (mroOf (.ref C)) cd.mro:=(looks_clsIn X hcd).andThen .now
 have LN:=looks_findIn (M:=model prog w) X c.no
 refine Dv SF.slot.plain SF.entry (@check_slot (model prog w) _ _ s "object.__setattr__" "object" "__setattr__" (.ref x) [.str name tk,v] [] _ SF.kind SF.split sub (SF.args (.ref x) (.str name tk) v) ?_)
 rw[osa_eq,refuse_eq]
 refine Aa (Aa (L0.here (Aa (hm.here ?_))))
 rw[rf]
 refine Al (Aa (L0.here (Aa (LN.here (Aa (Al ?_))))))
 exact h
noncomputable abbrev qc1 (C:Addr)(od:Option Addr)(vs:Array Value)(sl:Array (Option Value)):Obj:={ cls:=.ref C,dict:=od,data:=.fields vs,slots:=sl }
theorem qt5 {Q:Unit->Af->Prop}{od:Option Addr}{vs:Array Value}{sl:Array (Option Value)}(X:K.In s.heap)(hx:s.heap.get? x=some (qc1 C od vs sl))(c:XSet K C name)
  (h:wpAny (model prog w) A.in1 (AG.ObjectAttr.storeInOwnDict (.ref x) (.ref C) (.str name s.toks) name v false) (λfin s'=>fin=.done (.ret .none)/\Q () s') (λ_ _=>False) { s with toks:=s.toks+1 }) :
  wpAny (model prog w) A (setAttr (.ref x) name v) Q E s:=by
 have L0:Looks (model prog w) s.heap (typeOf (.ref x)) (.ref C):=(Looks.ld hx).andThen .now
 have LS:=looks_findIn (M:=model prog w) X c.sa
 refine Aa (wpAny_mkText (Aa (Aa (Aa (L0 _ _ _ _ (λ_ _ e=>e) (LS _ _ _ _ (λ_ _ e=>e) (BC ?_)))))))
 rw[PySem.F.store_object.slot.bind]
 refine Aa (Al (Aa (CO (qws (s:={ s with toks:=s.toks+1 }) X hx rfl c (BY h (λfin s' z=>?_) λ_ _ z=>z.elim)))))
 obtain⟨rfl,z⟩:=z
 exact Al (Al z)
theorem qt6 {Q:Unit->Af->Prop}{vs:Array Value}{sl:Array (Option Value)}(X:K.In s.heap)(hx:s.heap.get? x=some (qc1 C none vs sl))(c:XSet K C name)
  (h:∀h' tk',h'.get? x=some (qc1 C (some s.heap.objs.size) vs sl)->h'.Ns1 s.heap.objs.size (λy=>if y=name then some v else none)->(∀b ob,b≠x->s.heap.get? b=some ob->h'.get? b=some ob)->Q () { s with heap:=h',toks:=tk' }) :
  wpAny (model prog w) A (setAttr (.ref x) name v) Q E s:=by
 obtain⟨cd,hcd,ho⟩:=any_some c.cd
 simp only[AE]at ho
 refine qt5 X hx c ?_
 obtain⟨hp,g,d,t,os⟩:=s
 unfold AG.ObjectAttr.storeInOwnDict AG.ObjectAttr.ownDictForStores instanceDict
 refine Aa (Al (Aa (Aa (wpAny_loadPart hx (Aa ((looks_clsIn X hcd).at ?_))))))
 rw[ho.2]
 have hxs:x≠hp.objs.size:=AD (Aw hx)
 have hx1:(hp.push emptyDict).get? x=some (qc1 C none vs sl):=Ah _ hx
 show wpAny _ _ (alloc emptyDict >>= _) _ _ _
 refine Aa (wpAny_alloc' (Aa (wpAny_update' hx1 ?_)))
 refine Al ?_
 have hgd:((hp.push emptyDict).update x λo=>{ cls:=o.cls,dict:=some hp.objs.size,data:=o.data,slots:=o.slots }).get? hp.objs.size=some emptyDict:=(Heap.get?_update_ne _ _ _ _ hxs.symm).trans (Heap.get?_push_at rfl rfl)
 have hnd:((hp.push emptyDict).update x λo=>{ cls:=o.cls,dict:=some hp.objs.size,data:=o.data,slots:=o.slots }).Ns hp.objs.size (λ_=>none):=⟨_,#[],_,hgd,rfl,λe he=>absurd he (by simp),λ_=>rfl⟩
 show wpAny _ _ (AG.ObjectAttr.storeInDict hp.objs.size (.str name t) name v) _ _ _
 unfold AG.ObjectAttr.storeInDict AG.ObjectAttr.newKeyGuard
 refine Aa (Al (Aa (wpAny_nsSet1 (Heap.Ns1.of_empty hnd) λh' hn' hs=>?_)))
 obtain⟨oD,esD,epD,hoD,hdD,hcD⟩:=hn'.count (Within.cons name v Within.nil)
 refine Aa (wpAny_lookBehind hoD (by rw[hdD];exact pastItsLine_dict (A3 hcD (by rw[At,Ca,Bg];lia))) ?_)
 refine Al ⟨rfl,h h' _ ?_ hn' λb ob hb e=>?_⟩
 .exact(hs.2 x hxs).trans (Bd _ hx1 rfl)
 .exact(hs.2 b (AD (Aw e))).trans ((Heap.get?_update_ne _ _ _ _ hb).trans (Ah _ e))
theorem qt7 {Q:Unit->Af->Prop}{dx:Addr}{vs:Array Value}{sl:Array (Option Value)}{mA:Str->Option Value}{ns:List Str}(X:K.In s.heap)(hx:s.heap.get? x=some (qc1 C (some dx) vs sl))(hn:s.heap.Ns1 dx mA)(hne:dx≠x)(hw:Within mA ns)(hsz:ns.length<=1000)(c:XSet K C name)
  (h:∀h' tk',h'.Ns1 dx (λy=>if y=name then some v else mA y)->Bc dx s.heap h'->Q () { s with heap:=h',toks:=tk' }) :
  wpAny (model prog w) A (setAttr (.ref x) name v) Q E s:=by
 obtain⟨cd,hcd,ho⟩:=any_some c.cd
 simp only[AE]at ho
 refine qt5 X hx c ?_
 obtain⟨hp,g,d,t,os⟩:=s
 unfold AG.ObjectAttr.storeInOwnDict AG.ObjectAttr.ownDictForStores instanceDict
 refine Aa (Al (Aa (Aa (wpAny_loadPart hx (Aa ((looks_clsIn X hcd).at ?_))))))
 rw[ho.2]
 refine Al (a:=some dx) ?_
 show wpAny _ _ (AG.ObjectAttr.storeInDict dx (.str name t) name v) _ _ _
 unfold AG.ObjectAttr.storeInDict AG.ObjectAttr.newKeyGuard
 refine Aa (Al (Aa (wpAny_nsSet1 hn λh' hn' hs=>?_)))
 obtain⟨oD,esD,epD,hoD,hdD,hcD⟩:=hn'.count (Within.cons name v hw)
 refine Aa (wpAny_lookBehind hoD (by rw[hdD];exact pastItsLine_dict (A3 hcD (by rw[At,Bg];lia))) ?_)
 exact Al ⟨rfl,h h' _ hn' hs⟩
end
noncomputable def qnj (K:Ae)(C:Addr)(ini:Option Value):Bool:=match K.lookup C with
 |some ⟨.type "type",_,.cls cd,sl⟩=>(match cd.mro,sl.toList with
  |.ref C'::bm,[_,_,_,_,some (.builtin n),_]=>C' == C && n == "ValueError.__new__" && !cd.hasDel && PySem.W.tailIn K VE bm && PySem.W.nsOkIn K cd.ns && A9 K cd.ns "__init__" == some ini
  |_,_=>false)
 |_=>false
theorem ns_in {K:Ae}{h:Heap}{N:Addr}{mg:Str->Option Value}{n:Str}{v:Value}(X:K.In h)(G:h.Ns N mg)(e:A9 K N n=some (some v)):mg n=some v:=by
 obtain⟨o,es,ep,ho,hd,_,hf⟩:=G
 unfold A9 at e
 split at e
 .rename_i c d es' n' sl q
  have:=X _ _ q
  rw[ho]at this
  cases this
  cases hd
  split at e
  .rename_i en he
   cases e
   rw[<- hf]
   unfold nsFind findBy
   rw[<- Array.find?_toList,he]
   rfl
  .split at e <;>cases e
 .cases e
theorem qyr {K:Ae}{h:Heap}{C:Addr}{ini:Option Value}(X:K.In h)(q:qnj K C ini=true):∃(bm:List Value)(N:Addr)(nm qn:Str)(bs:List Value)(hd:Bool)(sn:List Str)(sub:List Value)(ab:Bool)(col:Option Bool)(dd:Option Addr)(k0 k1 k2 k3 k5:Option Value)(mN:Str->Option Value),
  h.get? C=some (excClassObj nm qn C N bs bm hd sn sub ab col dd k0 k1 k2 k3 k5 "ValueError.__new__")/\h.Ns N mN/\mN "__init__" = ini/\OwnTail h VE bm:=by
 unfold qnj at q
 split at q
 .rename_i dd cd sl ho
  split at q
  .rename_i C' bm k0 k1 k2 k3 n k5 hm hs
   simp only[AE,beq_iff_eq,Bool.not_eq_true']at q
   obtain⟨⟨⟨⟨⟨rfl,rfl⟩,hdel⟩,ht⟩,hok⟩,hni⟩:=q
   obtain⟨nm,bs,mro,ns,qn,hd,sn,sub,ab,col,del⟩:=cd
   dsimp only at hm hdel hok hni
   subst hm hdel
   have hsl:sl=#[k0,k1,k2,k3,some (.builtin "ValueError.__new__"),k5]:=by
    obtain⟨l⟩:=sl
    simp only at hs
    rw[hs]
   subst hsl
   have G:h.Ns ns (h.nsMap ns):=.of_isNs (PySem.W.isNs_of_in X hok)
   refine⟨bm,ns,nm,qn,bs,hd,sn,sub,ab,col,dd,k0,k1,k2,k3,k5,_,X _ _ ho,G,?_,PySem.W.tail_of_in X ht⟩
   cases ini with
   |none=>exact PySem.W.ns_none_of X G hni
   |some v=>exact ns_in X G hni
  .cases q
 .cases q
section
variable {prog:AF}{w:World}{A:AL}{E:Value->Af->Prop}{K:Ae}{C fI:Addr}{s:Af}{qa9:List Value}
theorem qt8 {R:Result->Af->Prop}{nm q:Str}{N:Addr}{bs bm:List Value}{hdct:Bool}{sn:List Str}{sub:List Value}{ab:Bool}{col:Option Bool}{dd:Option Addr}{k0 k1 k2 k3 k5:Option Value}{newId:String}
  (hC:s.heap.get? C=some (excClassObj nm q C N bs bm hdct sn sub ab col dd k0 k1 k2 k3 k5 newId))
  (h:wpAny (model prog w) (A.under (.builtin "type.__call__" ⟨.ref C::qa9,[]⟩)) (AG.«type.__call__» ⟨.ref C::qa9,[]⟩)
   (λfin s'=>match fin with | .done f=>R (.ok f) s' | .again c'=>c'.quiet=true/\codeAny (model prog w) A c' R s') (λe s'=>R (.error e) s') s) :
  codeAny (model prog w) A (.call (.ref C) ⟨qa9,[]⟩) R s:=by
 obtain⟨hp,g,d,t,os⟩:=s
 have f1:=tc_lookup
 have f2:=tc_bind (.ref C)
 have hT:(⟨hp,g,d,t,os⟩:Af).TypeIs (.ref C) "type" := ⟨_,hC,rfl⟩
 refine codeAny_of_tree ?_
 show wpAny _ _ (callAny (.ref C) _) _ _ _
 repeat (any_goals (first|assumption|with_reducible refine wpAny_loadPart_at hC ?_|wp_step))
 refine⟨rfl,?_⟩
 exact codeAny_call_builtin_at (Code.quiet_builtin _ Ek) entry_typeCall (wpAny_check_type_call_sub hC h)
theorem qt9 {R:Result->Af->Prop}(X:K.In s.heap)(c:qnj K C (some (.ref fI))=true)(hf:Cr K (.ref fI)=some (.type "function"))(hrest:qa9.length<=A0)
  (h:codeAny (model prog w) (A.under (.builtin "type.__call__" ⟨.ref C::qa9,[]⟩)) (.call (.ref fI) ⟨.ref (s.heap.objs.size+1)::qa9,[]⟩) (PySem.W.InitBack (s.heap.objs.size+1) R)
   { s with heap:=(s.heap.push (qfs qa9)).push (qeg C s.heap.objs.size) }) :
  codeAny (model prog w) A (.call (.ref C) ⟨qa9,[]⟩) R s:=by
 obtain⟨bm,N,nm,qn,bs,hd,sn,sub,ab,col,dd,k0,k1,k2,k3,k5,mN,hC,hn,hi,T⟩:=qyr X c
 obtain⟨hp,g,d,t,os⟩:=s
 exact qt8 hC (qk5 Dw En Dw T hC hn hi (λself=>PySem.W.bind_fn X self hf) h hrest)
end
noncomputable abbrev Sz6 (vs:Array Value):Prop:=vs.size=6/\vs[2]?=some .none
noncomputable def exO (x C:Addr)(od:Option Addr)(fr:Bool):HO:=.ext λh=>∃(vs:Array Value)(sl:Array (Option Value)),h.get? x=some (qc1 C od vs sl)/\Sz6 vs/\(fr=true->sl=#[]/\∃t:Addr,vs=#[.ref t,.none,.none,.none,.bool false,.none])
noncomputable def exD (dx:Addr)(fs:List (Str×V)):HO:=.ext λh=>∃mA,h.Ns1 dx mA/\(∀f,RelO (fs.lookup f) (mA f))/\Dz mA (fs.map (·.1))
section
variable {P:AF}{w:World}{H:Hp}{h:Heap}{x C dx:Addr}{od:Option Addr}{fr:Bool}{fs:List (Str×V)}
theorem qmj {vs:Array Value}{sl:Array (Option Value)}(e:h.get? x=some (qc1 C od vs sl))(z:Sz6 vs)(f:fr=true->sl=#[]/\∃t:Addr,vs=#[.ref t,.none,.none,.none,.bool false,.none]):ObjOk P w H h x (exO x C od fr) :=
 ⟨⟨vs,sl,e,z,f⟩,⟨_,e⟩,λ_ h2 ⟨vs,sl,e,z,f⟩ k=>⟨vs,sl,k _ e,z,f⟩⟩
theorem qua {mA:Str->Option Value}(n:h.Ns1 dx mA)(r:∀f,RelO (fs.lookup f) (mA f))(wi:Dz mA (fs.map (·.1))):ObjOk P w H h dx (exD dx fs) :=
 ⟨⟨mA,n,r,wi⟩,let ⟨o,_,_,e,_⟩:=n;⟨o,e⟩,λ_ h2 ⟨mA,n,r,wi⟩ k=>⟨mA,n.at λo q=>k o q,r,wi⟩⟩
theorem qeu (ok:HOk P w H h)(e:H x=some (exO x C od fr)):∃vs sl,h.get? x=some (qc1 C od vs sl)/\Sz6 vs/\(fr=true->sl=#[]/\∃t:Addr,vs=#[.ref t,.none,.none,.none,.bool false,.none]):=(ok x _ e).1
theorem qmk (ok:HOk P w H h)(e:H dx=some (exD dx fs)):∃mA,h.Ns1 dx mA/\(∀f,RelO (fs.lookup f) (mA f))/\Dz mA (fs.map (·.1)):=(ok dx _ e).1
theorem qys (ok:HOk P w H h)(e:H x=some (exO x C od fr))(e':H dx=some (exD dx fs)):dx≠x:=λz=>by
 obtain⟨vs,sl,q,_⟩:=qeu ok e
 obtain⟨mA,⟨o,es,ep,q',d,_⟩,_⟩:=qmk ok e'
 rw[z,q]at q'
 cases q'
 cases d
end
theorem qnk {H:Hp}{a:Addr}{o:HO}(h:H a=some o):upd H a o=H:=by
 funext b
 unfold upd
 by_cases e:b=a
 .rw[if_pos e,e,h]
 .rw[if_neg e]
section
variable {X:Cx}{pins:List (Addr×Obj)}{σ:L2.St}{H:Hp}{s:Af}{A:AL}{E:Value->Af->Prop}
theorem qwt {C t:Addr}{h':Heap}{tk:Nat}(I:Inv X pins σ H s)(k:∀b o,s.heap.get? b=some o->h'.get? b=some o)(e:h'.get? (s.heap.objs.size+1)=some (qeg C t)) :
  Inv X pins σ (upd H (s.heap.objs.size+1) (exO (s.heap.objs.size+1) C none true)) { s with heap:=h',toks:=tk } :=
 I.laid (a:=s.heap.objs.size+1) k (Ck _) (qmj (vs:=#[.ref t,.none,.none,.none,.bool false,.none]) (sl:=#[]) e ⟨rfl,rfl⟩ λ_=>⟨rfl,t,rfl⟩)
noncomputable def tExcI (C:Addr)(sp:Sp)(dvs:List V)(E:XK)(t:TA):TE:=λσ H Q=>t σ H λvs H1=>vs.length<=A0/\∀x,H1 x=none->sp (.ref x::(vs++dvs)) (upd H1 x (exO x C none true)) (λv H2=>v=.non/\Q (.ref x) H2) E
variable {CX:CXT}{k:Nat}{f:Addr}{fd:AB}{ps:List Str}{sp:Sp}{ds:List Value}{dvs:List V}{EX:XK}
theorem qdu {C:Addr}{x:Str}{p pos:Pos}{e:Expr}{es:List Expr}{t:TA}(c:qnj X.K C (some (.ref f))=true)(hf:Cr X.K (.ref f)=some (.type "function"))(F:FnOk X.prog X.w X.K X.mg X.base CX k f fd ps sp)(hr:Room (k+1) X.A)(hg:Gl X x)(hm:X.mg x=some (.ref C))
  (hk:Bj X.K (.ref C)=true) (hb:Binds X.K fd ps ds) (hd:Vals dvs ds) (hx:qe5 CX X EX) (ha:PA X (e::es) t)
  (hdb:(x == ("__debug__" : Str))=false:=by decide) (he:starEach (e::es) X.env=(false,eval e X.env)::starEach es X.env:=by rfl) (hpl:(backTo pos (starEach es X.env)).any (·.1)=false:=by rfl) :
  PE X (.Call (.Name x p) (e::es) [] pos) (tExcI C sp dvs EX t):=by
 intro pins s0 σ H0 Q I0 h
 refine B0 (qeo I0 hg hm ?_ hdb)
 refine C1 (h₀:=X.base) I0.ok.mod.kin hk (thn (ha pos pins s0 σ H0 _ I0 h) λus s ⟨vs,H,I,r,hz,q⟩=>⟨I.kIn,?_⟩) he hpl
 have hl0:=r.length
 have hq:=q (s.heap.objs.size+1) (I.hok.fresh (Ck _))
 have hget:((s.heap.push (qfs us)).push (qeg C s.heap.objs.size)).get? (s.heap.objs.size+1)=some (qeg C s.heap.objs.size):=by heap_get
 have I2:=qwt (C:=C) (t:=s.heap.objs.size) (h':=(s.heap.push (qfs us)).push (qeg C s.heap.objs.size)) (tk:=s.toks) I (λb o e=>Ah _ (Ah _ e)) hget
 have r2:Vals (V.ref (s.heap.objs.size+1)::(vs++dvs)) (Ar (s.heap.objs.size+1)::(us++ds)):=.cons rfl (r.append hd)
 have hl:(Ar (s.heap.objs.size+1)::us++ds).length=ps.length:=by
  have e:=r2.length
  rw[F.len _ _ _ _ hq]at e
  exact e.symm
 refine CO (qt9 I.kIn c hf (by show us.length<=_;lia) (C8 (F.run _ X.stack _ _ ⟨Ar (s.heap.objs.size+1)::us,[]⟩ (Ar (s.heap.objs.size+1)::(us++ds)) _ _ EX (hr.make C us [])
  (I2.env0.make C us []) (hb _ (Ar (s.heap.objs.size+1)::us) I2.kIn hl) r2 hq) λr s' hq'=>?_))
 cases r with
 |error e=>exact hx pins σ _ _ e s' I2 hq'
 |ok fl =>
  cases fl with
  |ret u =>
   obtain⟨v,H',I3,rv,ev,q3⟩:=I2.after hq'
   subst ev
   exact⟨rv,⟨V.ref (s.heap.objs.size+1),H',I3,rfl,q3⟩⟩
  |next=>exact BB hq'
  |brk=>exact BB hq'
  |cont=>exact BB hq'
theorem qwu {h:Heap}{x C:Addr}{od:Option Addr}{vs:Array Value}{sl:Array (Option Value)}(e:h.get? x=some (qc1 C od vs sl))(d:∀dx,od=some dx->∃o,h.get? dx=some o):∃ox od,PySem.W.InstAt h x ox C od:=by
 cases od with
 |none=>exact⟨_,none,e,rfl,rfl,trivial⟩
 |some dx =>
  obtain⟨o,ho⟩:=d dx rfl
  exact⟨_,some o,e,rfl,rfl,ho⟩
noncomputable def exHas (H:Hp):Option Addr->Prop
 |none=>True
 |some dx=>∃fs,H dx=some (exD dx fs)
theorem exHas.at {P:AF}{w:World}{H:Hp}{h:Heap}{od:Option Addr}(ok:HOk P w H h)(e:exHas H od):∀dx,od=some dx->∃o,h.get? dx=some o:=λdx z=>by
 subst z
 obtain⟨fs,q⟩:=e
 obtain⟨mA,⟨o,_,_,e,_⟩,_⟩:=qmk ok q
 exact⟨o,e⟩
theorem qnl:qdw X (.builtin "isinstance") (λxs H Q=>∃(x C:Addr)(od:Option Addr)(fr:Bool)(c:V)(cv:Value)(b:Bool),xs=[.ref x,c]/\H x=some (exO x C od fr)/\exHas H od/\XIs X.K C/\((∃n,c=.ty n/\cv=.type n) \/ ∃D,c=.ref D/\cv=.ref D) /\
  BN X.K (.ref C) cv=some b/\Q (.bl b) H):=by
 intro pins s σ H xs us Q I r h
 obtain⟨x,C,od,fr,c,cv,b,rfl,e,hs,ci,hc,kk,q⟩:=h
 obtain⟨u,u',rfl,r1,r2⟩:=Vals.two r
 cases r1
 have hu:u'=cv:=by
  rcases hc with ⟨n,rfl,rfl⟩|⟨D,rfl,rfl⟩
  .exact r2
  .exact r2
 subst hu
 obtain⟨vs,sl,e1,_⟩:=qeu I.hok e
 exact BO (qt4 ci) I.kIn (qwu e1 (exHas.at I.hok hs)) kk (λz=>nomatch z) λtk=>⟨.bl b,H,I.tok tk,rfl,q⟩
end
section
variable {X:Cx}{pins:List (Addr×Obj)}{σ:L2.St}{H:Hp}{s:Af}{E:Value->Af->Prop}
structure XBase (K:Ae)(B:Addr):Prop where
 ga:Ds K (.ref B) "__getattribute__" = some (some (.builtin "type.__getattribute__"))
 rd:PySem.W.readsIn K B (.type "type")=true
 at_:PySem.W.findCls K (.ref B) (.type "type") "__init__" = some (.val (.builtin "ValueError.__init__"))
noncomputable def tBInit (K:Ae)(t:TA):TE:=λσ H Q=>t σ H λvs H1=>∃(x C:Addr)(od:Option Addr)(qa9:List V)(ini:Option Value),vs=.ref x::qa9/\H1 x=some (exO x C od true)/\qnj K C ini=true/\qa9.length<=A0/\Q .non H1
theorem qrl {A:AL}{x C:Addr}{od:Option Addr}{qa9:List Value}{ini:Option Value}{Q:Value->Af->Prop}{K:Ae}{prog:AF}{w:World}{t:Addr}(KX:K.In s.heap)(c:qnj K C ini=true)
  (hx:s.heap.get? x=some (qc1 C od #[.ref t,.none,.none,.none,.bool false,.none] #[])) (hrest:qa9.length<=A0)
  (h:∀h' t',h'.get? x=some (qc1 C od #[.ref t',.none,.none,.none,.bool false,.none] #[])->(∀b o,b≠x->s.heap.get? b=some o->h'.get? b=some o)->Q .none { s with heap:=h' }) :
  wpAny (model prog w) A (call (.builtin "ValueError.__init__") (.ref x::qa9)) Q E s:=by
 obtain⟨bm,N,nm,qn,bs,hd,sn,sub,ab,col,dd,k0,k1,k2,k3,k5,mN,hC,hn,hni,T⟩:=qyr KX c
 obtain⟨hp,g,d,tk,os⟩:=s
 have F:=Dw
 refine CO (Dv F.init.plain F.initEntry (wpAny_check_init_subU F T hC hx rfl ?_))
 wp_walk
 refine h _ hp.objs.size ?_ λb o hb e=>?_
 .rw[Bd _ (Ah _ hx) rfl]
  rfl
 .rw[Bm _ _ (AZ hb)]
  exact Ah _ e
theorem qft {B:Addr}{x:Str}{p apos pos:Pos}{e:Expr}{es:List Expr}{t:TA}{pl:Sem Bool}(c:XBase X.K B)(hg:Gl X x)(hm:X.mg x=some (.ref B))(ha:PA X (e::es) t)(hdb:(x == ("__debug__" : Str))=false:=by decide)
  (hst:starEach (e::es) X.env=(false,eval e X.env)::starEach es X.env:=by rfl) (hpl:(backTo pos (starEach es X.env)).any (·.1)=false:=by rfl)
  (ht:eval (.Call (.Attribute (.Name x p) "__init__" apos) (e::es) [] pos) X.env=(do
   let ov <- eval (.Name x p) X.env
   standAt apos.atName
   let (f,first) <- holding [ov] (getMethod ov "__init__" pl)
   callWith pos f first (backTo pos (starEach (e::es) X.env)) (backToKw pos (keywordEach [] X.env))):=by rfl) :
  PE X (.Call (.Attribute (.Name x p) "__init__" apos) (e::es) [] pos) (tBInit X.K t):=by
 intro pins s σ H Q I h
 refine Dq (pl:=pl) (qeo I hg hm ?_ hdb) ht
 refine PySem.W.method_cls I.kIn c.ga (PySem.W.cls_value I.kIn c.rd c.at_ rfl ?_)
 have I1:=I.tok (s.toks+1)
 refine CW (thn (ha pos pins _ σ H _ I1 h) λus s1 ⟨vs,H1,I2,r1,q1⟩=>?_) hst hpl
 obtain⟨x',C,od,qa9,ini,rfl,e1,ci,hz,q⟩:=q1
 cases r1 with
 |cons ra rr =>
  cases ra
  obtain⟨ws,sl,ex,z6,ff⟩:=qeu I2.hok e1
  obtain⟨rfl,t',rfl⟩:=ff rfl
  have hl:=rr.length
  refine qrl I2.kIn ci ex (by lia) λh' t2 ex' kk=>?_
  refine⟨.non,H1,?_,rfl,q⟩
  have J:=I2.write (x:=x') (e:=x') (o:=exO x' C od true) (t':=s1.toks) (h':=h') (by rw[e1];exact trivial) (.inl rfl) (λb u hb hu=>kk b u hb hu) ⟨_,ex'⟩ (qmj ex' ⟨rfl,rfl⟩ λ_=>⟨rfl,t2,rfl⟩)
  rw[qnk e1]at J
  exact J
noncomputable def tXFld (K:Ae)(ta:TE)(f:Str):TE:=λσ H Q=>ta σ H λv H1=>∃(x C dx:Addr)(fr:Bool)(fs:List (Str×V))(y:V),v=.ref x/\H1 x=some (exO x C (some dx) fr)/\H1 dx=some (exD dx fs)/\XIs K C/\AJ K (.ref C) f=some none/\fs.lookup f=some y/\Q y H1
theorem qub {K:Ae}{C:Addr}{o:Obj}{f:Str}{u:Value}(c:CI K C=true)(n:AJ K (.ref C) f=some none)(l:DU f o=some (some u)):PySem.W.findObj K C (some o) f=some (.value u):=by
 obtain⟨cd,hc,hd⟩:=PySem.W.any_some c
 unfold PySem.W.findObj
 rw[hc,Cm,n,Cm]
 dsimp only
 simp only[Cm]
 unfold PySem.W.ownOf
 rw[hd,if_pos rfl]
 dsimp only
 rw[l,Cm]
theorem qwv {e:Expr}{f:Str}{pos:Pos}{ta:TE}(he:PE X e ta)(hb:attributeBase e f X.env (eval e X.env)=eval e X.env):PE X (.Attribute e f pos) (tXFld X.K ta f):=by
 intro pins s σ H Q I h
 refine qqc hb (thn (he pins s σ H _ I h) λu s1 ⟨v,H1,I1,rv,x,C,dx,fr,fs,y,ev,ex,ed,c,n,l,q⟩=>?_)
 subst ev
 obtain rfl:u=Ar x:=rv
 obtain⟨vs,sl,e1,_⟩:=qeu I1.hok ex
 obtain⟨mA,hn,r,_⟩:=qmk I1.hok ed
 obtain⟨od,hod,hl⟩:=qlh hn
 obtain⟨uv,hu,ru⟩:=RelO.some_of (v:=y) (o:=mA f) (by rw[<- l];exact r f)
 exact qrj I1.kIn (ox:=qc1 C (some dx) vs sl) (od:=some od) ⟨e1,rfl,rfl,hod⟩ c.toXGet (qub c.dct n (by rw[hl,hu])) (qli ru) ⟨y,H1,I1.tok _,ru,q⟩
theorem quc {x dx:Addr}{o o':HO}{h':Heap}{tk:Nat}(I:Inv X pins σ H s)(mu:Mut (H x))(hd:s.heap.objs.size<=dx)(hne:dx≠x)(k:∀b u,b≠x->s.heap.get? b=some u->h'.get? b=some u)(hx:∃u,h'.get? x=some u)
  (n1:ObjOk X.prog X.w (upd (upd H dx o') x o) h' x o) (n2:ObjOk X.prog X.w (upd (upd H dx o') x o) h' dx o'):Inv X pins σ (upd (upd H dx o') x o) { s with heap:=h',toks:=tk }:=by
 have hdn:H dx=none:=I.hok.fresh hd
 have hxn:∀b,H b=none->b≠x:=λb n z=>by subst z;rw[n]at mu;exact mu
 have nm:∀b u,H b=some u->¬Mut (some u)->b≠x:=λb u q nm z=>by subst z;rw[q]at mu;exact nm mu
 have nd:∀b u,H b=some u->b≠dx:=λb u q=>qad q hdn
 have old:∀b u,s.heap.get? b=some u->b≠dx:=λb u q=>AD (A8 (Aw q) hd)
 have stay:∀b u,H b=some u->b≠x->upd (upd H dx o') x o b=some u:=λb u q hb=>by rw[ze hb,ze (nd b u q)];exact q
 refine I.un ⟨λb u q n _ _=>k b u (hxn b n) q,λb u q n _ _=>⟨u.slots,k b u (hxn b n) q⟩,λb u q n _=>by rw[ze (hxn b n),ze (old b u q)];exact n,λb u q _=>?_,λb xs q=>stay b _ q (nm b _ q λz=>z),λb u xs q=>stay b _ q (nm b _ q λz=>z),λb ps q=>⟨#[],by rw[stay b _ q (nm b _ q λz=>z)];simp⟩⟩ ?_
 .by_cases hb:b=x
  .subst hb;exact hx
  .exact⟨u,k b u hb q⟩
 .intro b u q
  by_cases hb:b=x
  .subst hb
   rw[qz]at q
   cases q
   exact n1
  .rw[ze hb]at q
   by_cases hb':b=dx
   .subst hb'
    rw[qz]at q
    cases q
    exact n2
   .rw[ze hb']at q
    refine(I.hok b u q).stay (λc v hc r=>k c v ?_ r) (λc r=>stay c _ r (nm c _ r λz=>z)) λc xs r=>stay c _ r (nm c _ r λz=>z)
    rcases hc with rfl|hc
    .exact hb
    .exact nm c _ hc λz=>z
noncomputable def sXFld (K:Ae)(ta tv:TE)(f:Str):TS:=λD σ H=>tv σ H λy H1=>ta σ H1 λv H2=>∃(x C:Addr)(fr:Bool),v=.ref x/\XSet K C f /\
 ((H2 x=some (exO x C none fr)/\∀dx,H2 dx=none->D.nx σ (upd (upd H2 dx (exD dx [(f,y)])) x (exO x C (some dx) fr))) \/
  (∃dx fs,H2 x=some (exO x C (some dx) fr)/\H2 dx=some (exD dx fs)/\fs.length<900/\D.nx σ (upd H2 dx (exD dx (qcm f y fs)))))
theorem qhg {o value:Expr}{f:Str}{pos pos':Pos}{ta tv:TE}(ha:PE X o ta)(hv:PE X value tv)(hs:swapsWith value (some (.Attribute o f pos')) pos.line X.env=pure false):PS X (.Assign [.Attribute o f pos'] value pos) (sXFld X.K ta tv f):=by
 intro pins s0 σ H0 D I0 h
 refine DZ (thn (hv pins s0 σ H0 _ I0 h) λu s1 ⟨y,H1,I1,ry,q⟩=>thn (ha pins s1 σ H1 _ I1 q) λov s ⟨v,H,I,rv,x,C,fr,ev,c,q2⟩=>?_) hs
 subst ev
 obtain rfl:ov=Ar x:=rv
 rcases q2 with ⟨ex,nx⟩|⟨dx,fs,ex,ed,hl,nx⟩
 .obtain⟨vs,sl,e1,z6,ff⟩:=qeu I.hok ex
  refine qt6 I.kIn e1 c λh' tk' e2 hn kk=>?_
  have hne:s.heap.objs.size≠x:=Cq (Aw e1)
  refine⟨σ,_,quc (x:=x) (dx:=s.heap.objs.size) (o:=exO x C (some s.heap.objs.size) fr) (o':=exD s.heap.objs.size [(f,y)]) I (by rw[ex];exact trivial) (Ax _) hne (λb ob hb e=>kk b ob hb e) ⟨_,e2⟩ (qmj e2 z6 ff) (qua hn (λg=>?_) λg hg=>?_),nx _ (I.hok.fresh (Ax _))⟩
  .show RelO (CJ g [(f,y)]) (if g=f then some u else none)
   by_cases q:g=f
   .subst q
    rw[if_pos rfl,BE,beq_self_eq_true]
    exact ry
   .have q':(g == f)=false:=by simpa using q
    rw[if_neg q,BE,q']
    exact trivial
  .by_cases q:g=f
   .subst q;simp
   .exact absurd (if_neg q) hg
 .obtain⟨vs,sl,e1,z6,ff⟩:=qeu I.hok ex
  obtain⟨mA,hn,r,wi⟩:=qmk I.hok ed
  refine qt7 I.kIn e1 hn (qys I.hok ex ed) wi (by rw[Ac];lia) c λh' tk' hn' sb=>?_
  have hd:∃o,h'.get? dx=some o:=let ⟨o,_,_,e',_⟩:=hn';⟨o,e'⟩
  refine⟨σ,_,I.write (x:=dx) (e:=dx) (o:=exD dx (qcm f y fs)) (t':=tk') (by rw[ed];exact trivial) (.inl rfl) (λb ob hb z=>(sb.2 b hb).trans z) hd (qua hn' (λg=>?_) λg hg=>?_),nx⟩
  .show RelO ((qcm f y fs).lookup g) (if g=f then some u else mA g)
   rw[qfm]
   by_cases q:g=f
   .rw[if_pos q,if_pos q];exact ry
   .rw[if_neg q,if_neg q];exact r g
  .by_cases q:g=f
   .rw[q];exact(qe1 f y fs).1
   .refine(qe1 f y fs).2 g (wi g λz=>hg ?_)
    show (if g=f then some u else mA g)=none
    rw[if_neg q];exact z
end
section
variable {X:Cx}
noncomputable def rEqL (K:Ae)(f:Bool->Bool):R2:=λx y H Q=>∃a b xs ys,x=.ref a/\y=.ref b/\SqL K H a xs/\SqL K H b ys/\xs.all qbn=true/\ys.all qbn=true/\Q (.bl (f (qd2 xs ys))) H
theorem qj4:∀{xs ys:List V},xs.length≠ys.length->qd2 xs ys=false
 | [],[],h=>absurd rfl h
 | [],_::_,_=>rfl
 |_::_,[],_=>rfl
 |x::xs,y::ys,h=>by
  show (eqV x y && qd2 xs ys)=false
  rw[qj4 (λz=>h (by rw[At,At,z])),CZ]
theorem qi0 {xs ys:List V}(h:xs.length=ys.length):(Bh xs.length).all (eAt xs ys)=qd2 xs ys:=by
 rw[<- qjz xs ys,<- h,Nat.min_self]
 simp
theorem op_eqL (hu:X.A.units<cLine):OpR X (compareOp .Eq) (rEqL X.K λz=>z):=by
 intro pins s σ H x y v u Q I rx ry h
 obtain⟨a,b,xs,ys,rfl,rfl,ha,hb,fx,fy,q⟩:=h
 cases rx
 cases ry
 obtain⟨its,r1,p1,_⟩:=I.list ha
 obtain⟨its2,r2,p2,_⟩:=I.list hb
 have l1:=r1.length
 have l2:=r2.length
 by_cases hz:xs.length=ys.length
 .refine SeqAt.eq_listAt p1.isList p2.isList (by rw[Ao,Ao];lia) hu (items_eq r1 r2 fx fy) ?_
  rw[Ao,<- l1,qi0 hz]
  exact⟨.bl (qd2 xs ys),H,I,rfl,q⟩
 .refine SeqAt.eq_list_lengthsAt p1.isList p2.isList (bne_iff_ne.mpr (by rw[Ao,Ao];lia)) hu ?_
  rw[qj4 hz]at q
  exact⟨.bl false,H,I,rfl,q⟩
theorem qud (hu:X.A.units<cLine):OpR X (compareOp .NotEq) (rEqL X.K λz=>!z):=by
 intro pins s σ H x y v u Q I rx ry h
 obtain⟨a,b,xs,ys,rfl,rfl,ha,hb,fx,fy,q⟩:=h
 cases rx
 cases ry
 obtain⟨its,r1,p1,_⟩:=I.list ha
 obtain⟨its2,r2,p2,_⟩:=I.list hb
 have l1:=r1.length
 have l2:=r2.length
 by_cases hz:xs.length=ys.length
 .refine SeqAt.RcNeAt.lists p1.isList p2.isList (by rw[Ao,Ao];lia) hu (items_eq r1 r2 fx fy) _ _ _ _ ?_
  rw[Ao,<- l1,qi0 hz]
  exact⟨.bl (!qd2 xs ys),H,I,rfl,q⟩
 .refine SeqAt.RcNeAt.lists_lengths p1.isList p2.isList (bne_iff_ne.mpr (by rw[Ao,Ao];lia)) hu _ _ _ _ ?_
  rw[qj4 hz]at q
  exact⟨.bl true,H,I,rfl,q⟩
theorem que:∀{x:V},qbn x=true->eqV x x=true
 |.non,_=>rfl
 |.bl b,_=>by cases b <;>rfl
 |.int i,_=>by simp[eqV]
 |.str y,_=>by simp[eqV]
 |.byt _,h=>by simp[qbn]at h
 |.flt _,h=>by simp[qbn]at h
 |.ref _,h=>by simp[qbn]at h
 |.ty _,h=>by simp[qbn]at h
theorem qdr:∀{xs:List V},xs.all qbn=true->qd2 xs xs=true
 | [],_=>rfl
 |x::xs,h=>by
  rw[C9,AE]at h
  show (eqV x x && qd2 xs xs)=true
  rw[que h.1,qdr h.2];rfl
end
noncomputable def qo4 (K:Ae)(C:Addr)(ini:Option Value):Bool:=qnj K C ini && Bj K (.ref C) && (AJ K (.ref C) "__getattribute__" == some (some (.builtin "BaseException.__getattribute__"))) && (AJ K (.ref C) "__getattr__" == some none) &&
 (DE K C (.type "BaseException") == some true) && CI K C && (AJ K (.ref C) "__class__" == some (some (.builtin "object.__class__"))) &&
 (Ds K (.builtin "object.__class__") "__get__" == some (some (.builtin "getset_descriptor.__get__"))) && (PySem.W.takesIn K (.builtin "object.__class__") == some true) && (DE K C (.type "object") == some true) &&
 (AJ K (.ref C) "__setattr__" == some (some (.builtin "object.__setattr__"))) && ((PySem.W.clsIn K C).any λcd=>qni cd.mro && cd.hasDict)
structure XA (K:Ae)(C:Addr)(ini:Option Value):Prop where
 xc:qnj K C ini=true
 kp:Bj K (.ref C)=true
 is:XIs K C
 sa:AJ K (.ref C) "__setattr__" = some (some (.builtin "object.__setattr__"))
 cd:((PySem.W.clsIn K C).any λcd=>qni cd.mro && cd.hasDict)=true
theorem qnm {K:Ae}{C:Addr}{ini:Option Value}(h:qo4 K C ini=true):XA K C ini:=by
 unfold qo4 at h
 rw[AE]at h
 obtain⟨h,hcd⟩:=h
 simp only[AE,beq_iff_eq]at h
 obtain⟨⟨⟨⟨⟨⟨⟨⟨⟨⟨h1,h2⟩,h3⟩,h4⟩,h5⟩,h6⟩,h7⟩,h8⟩,h9⟩,h10⟩,h11⟩:=h
 exact⟨h1,h2,{ ga:=h3,hk:=h4,sub:=h5,dct:=h6,cls:=h7,get:=h8,tak:=h9,obj:=h10 },h11,hcd⟩
theorem XA.set {K:Ae}{C:Addr}{ini:Option Value}{name:Str}(a:XA K C ini)(no:AJ K (.ref C) name=some none):XSet K C name:=⟨a.sa,no,a.cd⟩
noncomputable def xNo (K:Ae)(C:Addr)(ns:List Str):Bool:=ns.all λn=>AJ K (.ref C) n == some none
theorem zd {K:Ae}{C:Addr}{ns:List Str}{n:Str}(h:xNo K C ns=true)(m:n∈ns):AJ K (.ref C) n=some none:=beq_iff_eq.mp (AV.mp h n m)
noncomputable def qfu (K:Ae)(C:Addr)(cs:List Value)(bs:List Bool):Bool:=(cs.map λc=>BN K (.ref C) c) == bs.map some
theorem qnn {K:Ae}{C:Addr}{cs:List Value}{bs:List Bool}(h:qfu K C cs bs=true){i:Nat}{c:Value}{b:Bool}(hc:cs[i]?=some c)(hb:bs[i]?=some b):BN K (.ref C) c=some b:=by
 have e:=congrArg (λl=>l[i]?) (beq_iff_eq.mp h)
 simp only[Ai,hc,hb,Dn]at e
 exact A7 e
noncomputable def quf (K:Ae)(B:Addr):Bool:=(Ds K (.ref B) "__getattribute__" == some (some (.builtin "type.__getattribute__"))) && PySem.W.readsIn K B (.type "type") &&
 (match PySem.W.findCls K (.ref B) (.type "type") "__init__" with|some (.val (.builtin n))=>n == "ValueError.__init__" |_=>false)
theorem xb_of {K:Ae}{B:Addr}(h:quf K B=true):XBase K B:=by
 unfold quf at h
 simp only[AE,beq_iff_eq]at h
 obtain⟨⟨h1,h2⟩,h3⟩:=h
 refine⟨h1,h2,?_⟩
 split at h3
 .rename_i n e
  rw[e,beq_iff_eq.mp h3]
 .cases h3
structure MethAt (K:Ae)(x qual:Str)(st:Stmt)(ps:List Str)(f:Addr)(fd:AB):Prop where
 fn:Fun K x qual st f fd
 bd:Binds K fd ps []
 ty:Cr K (.ref f)=some (.type "function")
section
variable {X:Cx}{K:Ae}
theorem qo5 (hK:X.K=K):OpR X (compareOp .In) (rIn K false):=hK ▸ qcc
end
structure Notes (fs:List Addr)(x C:Addr)(od:Option Addr)(sl:Array (Option Value))(told:List Addr)(T:Addr)(fl:Value)(h h':Heap):Prop where
 rc:∃vs:Array Value,Sz6 vs/\h'.get? x=some (qc1 C od vs sl)/\vs[1]?=some (.ref T)
 tb:∃oT ts,h'.get? T=some oT/\oT.data=.fields ts/\ts[3]?=some fl
 new:h.objs.size<=T
 ne:T≠x
 keep:∀b o,b≠x->b∉told->b∉fs->h.get? b=some o->h'.get? b=some o
 slot:∀b o,b≠x->b∉told->h.get? b=some o->∃s,h'.get? b=some { o with slots:=s }
 old:∀b∈told,∃o,h'.get? b=some o
section
variable {M:Model}{A:AL}{E:Value->Af->Prop}{s:Af}{base:Heap}{env:Env}{outer:List Env}{L x C:Addr}{od:Option Addr}{vs:Array Value}{sl:Array (Option Value)}
theorem qqh {head:Value}{hadNext:Bool}{Q:Unit->Af->Prop}(hfr:A.frames=some (env::outer))(hl:s.heap.FunFrames base (env::outer))(hf:env.frame=some L)(he:s.heap.get? x=some (qc1 C od vs sl))(hz:Sz6 vs)
  (h:∀h' T,Notes (frs (env::outer)) x C od sl [] T (rawInt L) s.heap h'->Q () { s with heap:=h' }) :
  wpAny M A (do let a <- frameOf env;let pl <- entryPlaceOf L hadNext;let b <- EntryCells.newEntry head a .none (rawInt L) .none pl;setField (.ref x) 1 b) Q E s:=by
 have hene:x∉(env::outer).filterMap (·.frame):=λhm=>by
  obtain⟨_,o,ho,hnf⟩:=hl.mem hm
  rw[he]at ho;cases ho;exact hnf vs rfl
 refine Aa (wpAny_frameOf_fun hfr hl hf λh₁ hs₁=>?_)
 refine Aa (wpAny_entryPlaceOf λpl hpl=>?_)
 unfold EntryCells.newEntry newFields
 refine Aa (Cf ?_ (hpl.sizeOk5 _ _ _ _ _))
 generalize hO:({ cls:=.type "traceback",dict:=none,data:=.fields ([head,.ref L,.none,rawInt L,.none]++(if pl.isEmpty then List.replicate 6 B5 else pl)).toArray }:Obj)=oT
 have he₁:h₁.get? x=some (qc1 C od vs sl):=(hs₁.2.1 x hene).trans he
 have he₂:=Ah (h:=h₁) oT he₁
 have hd₂:(qc1 C od vs sl).data=.fields vs:=rfl
 refine BP he₂ hd₂ (by lia) (h _ h₁.objs.size ?_)
 have hTx:h₁.objs.size≠x:=Cq (Aw he₁)
 have hd₃:=BL hd₂ (·.setIfInBounds 1 (Ar h₁.objs.size))
 have he₃:=Bd (CB (·.setIfInBounds 1 (Ar h₁.objs.size))) he₂ (Cy hd₃)
 have hT₃:((h₁.push oT).update x (CB (·.setIfInBounds 1 (Ar h₁.objs.size)))).get? h₁.objs.size=some oT :=
  (Bm _ _ (AZ hTx)).trans (Au h₁ (by rw[<- hO];rfl))
 have kp:∀b o,b≠x->h₁.get? b=some o->((h₁.push oT).update x (CB (·.setIfInBounds 1 (Ar h₁.objs.size)))).get? b=some o:=λb o hb e=>by
  rw[Bm _ _ (AZ hb)]
  exact Ah _ e
 refine⟨⟨vs.setIfInBounds 1 (.ref h₁.objs.size),⟨by rw[Array.size_setIfInBounds];exact hz.1,by rw[Array.getElem?_setIfInBounds_ne En];exact hz.2⟩,he₃,by simp[hz.1]⟩,⟨oT,_,hT₃,by rw[<- hO],?_⟩,?_,hTx,λb o hb _ hbf e=>kp b o hb ((hs₁.2.1 b hbf).trans e),λb o hb _ e=>?_,λb hb=>absurd hb (by simp)⟩
 .first | (simp;done) | (rcases hpl with rfl|⟨_,_,_,_,_,_,_,rfl⟩ <;>simp)
 .exact BS hs₁.1.symm
 .obtain⟨sl',e'⟩:=hs₁.2.2 b o e
  exact⟨sl',kp b _ hb e'⟩
theorem qug {Q:Unit->Af->Prop}(hfr:A.frames=some (env::outer))(hl:s.heap.FunFrames base (env::outer))(hf:env.frame=some L)(he:s.heap.get? x=some (qc1 C od vs sl))(hz:Sz6 vs)(h1:vs[1]?=some .none)
  (h:∀h' T,Notes (frs (env::outer)) x C od sl [] T (rawInt L) s.heap h'->Q () { s with heap:=h' }):wpAny M A (noteFrame (.ref x) env) Q E s:=by
 unfold noteFrame
 simp only[hf]
 refine Aa (BI he rfl h1 ?_)
 rw[if_neg En]
 exact qqh hfr hl hf he hz h
theorem qrm {Q:Unit->Af->Prop}{T:Addr}{oT:Obj}{ts:Array Value}(hfr:A.frames=some (env::outer))(hl:s.heap.FunFrames base (env::outer))(hf:env.frame=some L)(he:s.heap.get? x=some (qc1 C od vs sl))(hz:Sz6 vs)(h1:vs[1]?=some (.ref T))
  (hTx:T≠x) (hT:s.heap.get? T=some oT) (hd:oT.data=.fields ts) (h3:ts[3]?=some .none)
  (h:∀h' T',Notes (frs (env::outer)) x C od sl [T] T' (rawInt L) s.heap h'->Q () { s with heap:=h' }):wpAny M A (noteFrame (.ref x) env) Q E s:=by
 unfold noteFrame
 simp only[hf]
 refine Aa (BI he rfl h1 ?_)
 rw[if_pos (show (Ar T != B5)=true from by simp)]
 refine Aa (BI hT hd h3 ?_)
 rw[if_neg (show ¬((B5 == rawInt L)=true) from by simp[rawInt])]
 refine Aa (BP hT hd (CD.mp h3).1 ?_)
 have other:∀b,b≠T->(s.heap.update T (CB (·.setIfInBounds 3 B5))).get? b=s.heap.get? b:=λb hb=>Bm _ _ (AZ hb)
 have hTT:∃o,(s.heap.update T (CB (·.setIfInBounds 3 B5))).get? T=some o:=⟨_,Bd _ hT (Cy (BL hd _))⟩
 have nr:∀b o,s.heap.get? b=some o->(∀vs,o.data ≠ .fields vs)->b≠T:=λb o hb hnf q=>by
  rw[q,hT]at hb;cases hb;exact hnf ts hd
 have nf:T∉frs (env::outer):=λhm=>by
  obtain⟨_,o,ho,hnf⟩:=hl.mem hm
  rw[hT]at ho;cases ho;exact hnf ts hd
 refine qqh hfr (hl.of_keeps λb o hb hnf=>⟨o,(other b (nr b o hb hnf)).trans hb,rfl⟩) hf ((other x (AZ hTx)).trans he) hz λh' T' N=>h h' T' ?_
 obtain⟨o,ho⟩:=hTT
 refine⟨N.rc,N.tb,A3 (BS (Heap.size_update ..).symm) N.new,N.ne,λb o hb hb' hbf e=>N.keep b o hb (by simp) hbf ((other b (by simpa using hb')).trans e),λb o hb hb' e=>N.slot b o hb (by simp) ((other b (by simpa using hb')).trans e),λb hb=>?_⟩
 have e:b=T:=by simpa using hb
 subst e
 exact⟨o,N.keep b o hTx (by simp) nf ho⟩
theorem land_x {Q:Unit->Af->Prop}{fs told:List Addr}{T:Addr}{fl:Value}{h0:Heap}(N:Notes fs x C od sl told T fl h0 s.heap)(nt:T∉told)(h:∀h',Notes fs x C od sl told T .none h0 h'->Q () { s with heap:=h' }):wpAny M A (setFlight (.ref x) none) Q E s:=by
 obtain⟨vs,hz,he,h1⟩:=N.rc
 obtain⟨oT,ts,hT,hd,h3⟩:=N.tb
 have hs3:=(CD.mp h3).1
 unfold setFlight
 refine Aa (BI he rfl h1 ?_)
 rw[if_pos (show (Ar T != B5)=true from by simp)]
 refine BP hT hd hs3 (h _ ?_)
 have other:∀b,b≠T->(s.heap.update T (CB (·.setIfInBounds 3 ((none:Option Addr).elim B5 λf=>rawInt f)))).get? b=s.heap.get? b:=λb hb=>Bm _ _ (AZ hb)
 have lt:∀b o,h0.get? b=some o->b≠T:=λb o e=>AD (A8 (Aw e) N.new)
 refine⟨⟨vs,hz,(other x (AZ N.ne)).trans he,h1⟩,⟨_,_,Bd _ hT (Cy (BL hd _)),BL hd _,by simp[hs3]⟩,N.new,N.ne,λb o hb hb' hbf e=>(other b (lt b o e)).trans (N.keep b o hb hb' hbf e),λb o hb hb' e=>?_,λb hb=>?_⟩
 .obtain⟨s',e'⟩:=N.slot b o hb hb' e
  exact⟨s',(other b (lt b o e)).trans e'⟩
 .obtain⟨o,e⟩:=N.old b hb
  exact⟨o,(other b λz=>nt (z ▸ hb)).trans e⟩
end
noncomputable def qo6 (X:Cx)(pins:List (Addr×Obj))(H:Hp)(h:Heap)(x C:Addr)(od:Option Addr):Prop:=H x=some (exO x C od false)/\∃(vs:Array Value)(sl:Array (Option Value))(T:Addr)(oT:Obj)(ts:Array Value),
 h.get? x=some (qc1 C od vs sl)/\vs[1]?=some (.ref T)/\h.get? T=some oT/\oT.data=.fields ts/\ts[3]?=some .none/\qd6 X pins H T
noncomputable def Fly (X:Cx)(pins:List (Addr×Obj))(H:Hp)(h:Heap)(x C:Addr)(od:Option Addr):Prop:=H x=some (exO x C od true)\/qo6 X pins H h x C od
theorem qqi {P:AF}{w:World}{H:Hp}{h:Heap}{x C:Addr}{od:Option Addr}{fr fr':Bool}(ok:HOk P w H h)(e:H x=some (exO x C od fr))(a:exHas H od):exHas (upd H x (exO x C od fr')) od:=by
 cases od with
 |none=>exact trivial
 |some dx =>
  obtain⟨fs,q⟩:=a
  exact⟨fs,by rw[ze (qys ok e q)];exact q⟩
section
variable {X:Cx}{pins:List (Addr×Obj)}{σ:L2.St}{H:Hp}{s:Af}{E:Value->Af->Prop}{x C:Addr}{od:Option Addr}
theorem qro {fr:Bool}{sl:Array (Option Value)}{told:List Addr}{T:Addr}{fl:Value}{h':Heap}(I:Inv X pins σ H s)(e:H x=some (exO x C od fr))(N:Notes (frs X.stack) x C od sl told T fl s.heap h')(ht:∀b∈told,qd6 X pins H b) :
  Inv X pins σ (upd H x (exO x C od false)) { s with heap:=h' }/\qd6 X pins (upd H x (exO x C od false)) T:=by
 have nx:∀b,H b=none->b≠x:=λb n z=>by rw[z,e]at n;cases n
 have nt:∀b u,H b=some u->b∉told:=λb u q z=>by rw[(ht b z).1]at q;cases q
 have nf:∀b u,H b=some u->b∉frs X.stack:=λb u q z=>by rw[I.stkFree b z]at q;cases q
 have hx':∀b u,H b=some u->u≠exO x C od fr->b≠x:=λb u q n z=>n (by rw[z,e]at q;exact(A7 q).symm)
 have sub:∀b,b≠X.env.locals->b∉X.fs->b∉frs X.stack:=λb h1 h2 z=>by
  rcases Ap.mp (I.stkSub b z) with q|q
  .exact h1 q
  .exact h2 q
 refine⟨I.step (g':=s.gens) (d':=s.drawn) (t':=s.toks) (ch:=told) (λb hb=>⟨(ht b hb).2.2.2.1,(ht b hb).2.1,(ht b hb).2.2.2.2.1,(ht b hb).2.2.2.2.2⟩) (λb o h1 h2 hc q n=>N.keep b o (nx b n) hc (sub b h1 h2) q) (λb o _ _ hc q n=>N.slot b o (nx b n) hc q)
  (λb o _ _ n=>by rw[ze (nx b n)];exact n) (λb o hc q=>?_) (λb xs q=>?_) (λb o u q=>?_) (λb ps q=>?_) (λm hm=>?_) (λb u q=>?_) I.bare,?_⟩
 .by_cases hb:b=x
  .subst hb
   obtain⟨vs,_,r,_⟩:=N.rc
   exact⟨_,r⟩
  .obtain⟨s',q'⟩:=N.slot b o hb hc q
   exact⟨_,q'⟩
 .rw[ze (hx' b _ q (by unfold exO;intro z;cases z))];exact q
 .rw[ze (hx' b _ q (by unfold exO;intro z;cases z))];exact q
 .exact⟨#[],by rw[ze (hx' b _ q (by unfold exO;intro z;cases z)),q];simp⟩
 .obtain⟨o,es,ep,ho,r⟩:=hm
  obtain⟨s',q'⟩:=N.slot _ o (nx _ I.free) (λz=>(ht _ z).2.1 rfl) ho
  exact⟨_,es,ep,q',r⟩
 .by_cases hb:b=x
  .subst hb
   rw[qz]at q
   cases q
   obtain⟨vs,hz,r,_⟩:=N.rc
   exact qmj r hz λz=>nomatch z
  .rw[ze hb]at q
   refine(I.hok b u q).stay (λc v hc r=>?_) (λc r=>?_) λc xs r=>?_
   .rcases hc with rfl|hc
    .exact N.keep c v hb (nt c u q) (nf c u q) r
    .exact N.keep c v (hx' c _ hc (by unfold exO;intro z;cases z)) (nt c _ hc) (nf c _ hc) r
   .rw[ze (hx' c _ r (by unfold exO;intro z;cases z))];exact r
   .rw[ze (hx' c _ r (by unfold exO;intro z;cases z))];exact r
 .exact I.fpOk N.new (by rw[ze N.ne];exact I.hok.fresh N.new)
theorem qlu {Q:Af->Prop}(hst:X.stack=X.env::X.outer/\X.env.frame=some X.env.locals)(I:Inv X pins σ H s)(f:Fly X pins H s.heap x C od)
  (h:∀s',Inv X pins σ (upd H x (exO x C od false)) s'->qo6 X pins (upd H x (exO x C od false)) s'.heap x C od->Q s') :
  wpAny (model X.prog X.w) X.A (noteFrame (.ref x) X.env) (λ_ s2=>wpAny (model X.prog X.w) X.A (setFlight (.ref x) none) (λ_ s3=>Q s3) E s2) E s:=by
 have hfr:X.A.frames=some (X.env::X.outer):=by rw[I.ok.frames,hst.1]
 have hl:s.heap.FunFrames X.base (X.env::X.outer):=by rw[<- hst.1];exact I.stack
 have fin:∀{fr:Bool}{sl:Array (Option Value)}{told:List Addr}{T:Addr}{fl:Value}{h':Heap},H x=some (exO x C od fr)->(∀b∈told,qd6 X pins H b)->(∀b∈told,∃o,s.heap.get? b=some o)->Notes (frs (X.env::X.outer)) x C od sl told T fl s.heap h' ->
   wpAny (model X.prog X.w) X.A (setFlight (.ref x) none) (λ_ s3=>Q s3) E { s with heap:=h' }:=by
  intro fr sl told T fl h' e ht hex N
  refine land_x (s:={ s with heap:=h' }) N (λz=>?_) λh2 N2=>?_
  .obtain⟨o,q⟩:=hex T z
   exact absurd (Aw q) (Nat.not_lt.mpr N.new)
  .rw[<- hst.1]at N2
   obtain⟨J,fp⟩:=qro I e N2 ht
   obtain⟨vs,hz,r,h1⟩:=N2.rc
   obtain⟨oT,ts,hT,hd,h3⟩:=N2.tb
   exact h _ J ⟨qz,vs,sl,T,oT,ts,r,h1,hT,hd,h3,fp⟩
 rcases f with e|⟨e,vs,sl,T,oT,ts,he,h1,hT,hd,h3,fp⟩
 .obtain⟨vs,sl,he,hz,ff⟩:=qeu I.hok e
  obtain⟨rfl,t,rfl⟩:=ff rfl
  exact qug hfr hl hst.2 he ⟨rfl,rfl⟩ rfl λh' T N=>fin e (λb hb=>absurd hb (by simp)) (λb hb=>absurd hb (by simp)) N
 .have hz:Sz6 vs:=by
   obtain⟨vs',sl',he',hz,_⟩:=qeu I.hok e
   rw[he]at he'
   cases he'
   exact hz
  have hTx:T≠x:=λz=>by
   have:=fp.1
   rw[z,e]at this
   cases this
  have one:∀b∈[T],b=T:=λb hb=>by simpa using hb
  exact qrm hfr hl hst.2 he hz h1 hTx hT hd h3 λh' T' N=>fin e (λb hb=>by rw[one b hb];exact fp) (λb hb=>by rw[one b hb];exact⟨_,hT⟩) N
end
noncomputable def CX1 (P:AF)(w:World):CXT:=λouter H s E e s'=>∃(x C:Addr)(od:Option Addr)(H':Hp)(vs:Array Value)(sl:Array (Option Value))(T:Addr)(oT:Obj)(ts:Array Value),e=.ref x/\H' x=some (exO x C od false)/\exHas H' od/\s'.heap.get? x=some (qc1 C od vs sl)/\vs[1]?=some (.ref T) /\
 s'.heap.get? T=some oT/\oT.data=.fields ts/\ts[3]?=some .none/\H' T=none/\s.heap.objs.size<=T/\s'.os=s.os/\AllBare s'.gens/\Un (frs outer) [] H H' s.heap s'.heap/\HOk P w H' s'.heap/\E (.ref x) od H'
noncomputable def Takes (X:Cx)(E:XK):Prop:=∀(pins:List (Addr×Obj))(σ:L2.St)(H:Hp)(s:Af)(x C:Addr)(od:Option Addr),Inv X pins σ H s->Fly X pins H s.heap x C od->exHas H od->E (.ref x) od (upd H x (exO x C od false))->X.xe (.ref x) s
theorem qa5 {P:AF}{w:World}{K:Ae}{mg:Str->Option Value}{base:Heap}{N:List Str}{qual:Str}{scope:Scope}{f:Addr}{cd:Value}{A:AL}{outer:List Env}{s:Af}{H:Hp}{E:XK} :
  Takes (qmd (CX1 P w) P w K mg base N qual scope f cd A outer s H E) E:=by
 intro pins σ H1 s1 x C od I fl has q
 show wpAny _ _ (leaving _ _) _ _ _
 unfold leaving
 refine Aa (qlu ⟨rfl,rfl⟩ I fl λs2 J ft=>?_)
 obtain⟨e,vs,sl,T,oT,ts,hx,h1,hT,hd,h3,fp⟩:=ft
 have hTs:s.heap.objs.size<=T:=by
  rcases fp.2.2.2.1 with z|z
  .exact absurd (show T∈([]:List Addr) from z) (by simp)
  .exact z
 have e1:∃fr,H1 x=some (exO x C od fr):=by
  rcases fl with z|z
  .exact⟨_,z⟩
  .exact⟨_,z.1⟩
 obtain⟨fr,e1⟩:=e1
 exact⟨x,C,od,_,vs,sl,T,oT,ts,rfl,e,qqi I.hok e1 has,hx,h1,hT,hd,h3,fp.1,hTs,J.os,J.bare,J.base,J.hok,q⟩
section
variable {P:AF}{w:World}{K:Ae}{mg:Str->Option Value}{base:Heap}
theorem okX {x qual:Str}{st:Stmt}{f:Addr}{fd:AB}{N ps:List Str}{k:Nat}{sp:Sp}(F:Fun K x qual st f fd)(S:FnScope N ps (qaa st))(len:∀vs H Q E,sp vs H Q E->vs.length=ps.length)
  (hbody:∀(cdv:Value)(A:AL)(outer:List Env)(s:Af)(H:Hp)(vs:List V)(Q:VK)(E:XK),Room k (A.deeper (envOfC qual (qaa st) s.heap.objs.size f cdv))->sp vs H Q E ->
   ∃t,PSs (qmd (CX1 P w) P w K mg base N qual (qaa st) f cdv A outer s H E) (qbd st) t/\t { nx:=λ_ H'=>Q .non H',rt:=Q } (qfh N vs) H):FnOk P w K mg base (CX1 P w) (k+1) f fd ps sp:=by
 obtain⟨oc,od,kV,doc,pm,an,cdv,ct,osl,rfl,lk,hcd⟩:=F.ex
 exact qtp lk hcd S len λA outer s H vs Q E hr hsp=>hbody cdv A outer s H vs Q E hr hsp
end
theorem qyt {X:Cx}{P:AF}{w:World}:qe5 (CX1 P w) X E0:=λ_ _ _ _ _ _ _ h=>by
 obtain⟨_,_,_,_,_,_,_,_,_,_,_,_,_,_,_,_,_,_,_,_,_,_,_,q⟩:=h
 exact q.elim
noncomputable def TakesAt (X:Cx)(EX:L2.St->XK):Prop:=∀(pins:List (Addr×Obj))(σ:L2.St)(H:Hp)(s:Af)(x C:Addr)(od:Option Addr),Inv X pins σ H s->Fly X pins H s.heap x C od->exHas H od->EX σ (.ref x) od (upd H x (exO x C od false))->X.xe (.ref x) s
theorem Takes.at {X:Cx}{E:XK}(t:Takes X E):TakesAt X λ_=>E:=t
theorem TakesAt.pass {X:Cx}{EX:L2.St->XK}{pins:List (Addr×Obj)}{σ:L2.St}{H:Hp}{s s':Af}{e:Value}(t:TakesAt X EX)(I:Inv X pins σ H s)(c:CX1 X.prog X.w X.stack H s (EX σ) e s'):X.xe e s':=by
 obtain⟨x,C,od,H',vs,sl,T,oT,ts,rfl,ex,has,hx,h1,hT,hd,h3,hn,hz,ho,hb,un,ok,q⟩:=c
 have J:=I.call' (ch:=[]) ho un ok hb λb hb=>absurd hb (by simp)
 refine t pins σ H' s' x C od J (.inr ⟨ex,vs,sl,T,oT,ts,hx,h1,hT,hd,h3,I.fpOk hz hn⟩) has ?_
 rw[qnk ex]
 exact q
noncomputable def tCallX (sp:Sp)(dvs:List V)(EX:L2.St->XK)(t:TA):TE:=λσ H Q=>t σ H λvs H1=>sp (vs++dvs) H1 Q (EX σ)
noncomputable def tMethX (C:Addr)(m:Str)(sp:Sp)(dvs:List V)(EX:L2.St->XK)(ta:TE)(t:TA):TE:=λσ H Q=>ta σ H λx H1=>∃a dx fs,x=.ref a/\H1 a=some (.ins C dx fs)/\fs.lookup m=none /\
 t σ H1 λvs H2=>sp (x::(vs++dvs)) H2 Q (EX σ)
noncomputable def tMakeX (C:Addr)(sp:Sp)(dvs:List V)(EX:L2.St->XK)(t:TA):TE:=λσ H Q=>t σ H λvs H1=>∀x dx,H1 x=none->H1 dx=none->dx≠x ->
 sp (.ref x::(vs++dvs)) (upd (upd H1 dx (.own x)) x (.ins C dx [])) (λv H2=>v=.non/\Q (.ref x) H2) (EX σ)
section
variable {X:Cx}{k:Nat}{f C:Addr}{fd:AB}{ps:List Str}{sp:Sp}{dvs:List V}{ds:List Value}{EX:L2.St->XK}{x m:Str}{p pos apos:Pos}{e o:Expr}{es:List Expr}{ta:TE}{t:TA}
theorem qqj {pins:List (Addr×Obj)}{σ:L2.St}{H:Hp}{s:Af}{Q:VK}{us:List Value}{vs:List V}(F:FnOk X.prog X.w X.K X.mg X.base (CX1 X.prog X.w) k f fd ps sp)(hr:Room k X.A)(hb:Binds X.K fd ps ds)(hd:Vals dvs ds)(hx:TakesAt X EX)
  (I:Inv X pins σ H s) (r:Vals vs us) (h:sp (vs++dvs) H Q (EX σ)):wpAny (model X.prog X.w) X.A (call (.ref f) us) (EP X pins σ Q) X.xe s:=by
 have r2:Vals (vs++dvs) (us++ds):=r.append hd
 have hl:(us++ds).length=ps.length:=by rw[<- r2.length];exact F.len _ _ _ _ h
 refine CO (C8 (F.run X.A X.stack s H ⟨us,[]⟩ (us++ds) (vs++dvs) Q (EX σ) hr I.env0 (hb s us I.kIn hl) r2 h) λr s' hq=>?_)
 cases r with
 |error e=>exact hx.pass I hq
 |ok fl =>
  cases fl with
  |ret u=>exact I.after hq
  |next=>exact BB hq
  |brk=>exact BB hq
  |cont=>exact BB hq
theorem qeh (F:FnOk X.prog X.w X.K X.mg X.base (CX1 X.prog X.w) k f fd ps sp)(hr:Room k X.A)(hg:Gl X x)(hm:X.mg x=some (.ref f))(hk:Bj X.K (.ref f)=true)(hb:Binds X.K fd ps ds)(hd:Vals dvs ds)(hx:TakesAt X EX)
  (ha:PA X (e::es) t) (hdb:(x == ("__debug__" : Str))=false:=by decide) (he:starEach (e::es) X.env=(false,eval e X.env)::starEach es X.env:=by rfl) (hpl:(backTo pos (starEach es X.env)).any (·.1)=false:=by rfl) :
  PE X (.Call (.Name x p) (e::es) [] pos) (tCallX sp dvs EX t):=by
 intro pins s σ H Q I h
 refine B0 (qeo I hg hm ?_ hdb)
 refine C1 (h₀:=X.base) I.ok.mod.kin hk (thn (ha pos pins s σ H _ I h) λus s1 ⟨vs,H1,I1,r,q⟩=>⟨I1.kIn,?_⟩) he hpl
 exact qqj F hr hb hd hx I1 r q
theorem quh {pl:Sem Bool}(he:PE X o ta)(c:Cls X.K C)(hm:Meth X.K C m f)(F:FnOk X.prog X.w X.K X.mg X.base (CX1 X.prog X.w) k f fd ps sp)(hr:Room k X.A)(hb:Binds X.K fd ps ds)(hd:Vals dvs ds)(hx:TakesAt X EX)(ha:PA X (e::es) t)
  (hst:starEach (e::es) X.env=(false,eval e X.env)::starEach es X.env:=by rfl) (hpl:(backTo pos (starEach es X.env)).any (·.1)=false:=by rfl)
  (ht:eval (.Call (.Attribute o m apos) (e::es) [] pos) X.env=(do
   let ov <- eval o X.env
   standAt apos.atName
   let (f,first) <- holding [ov] (getMethod ov m pl)
   callWith pos f first (backTo pos (starEach (e::es) X.env)) (backToKw pos (keywordEach [] X.env))):=by rfl) :
  PE X (.Call (.Attribute o m apos) (e::es) [] pos) (tMethX C m sp dvs EX ta t):=by
 intro pins s σ H Q I h
 refine Dq (pl:=pl) (thn (he pins s σ H _ I h) λu s1 ⟨x,H1,I1,rx,a,dx,fs,ex,ea,l,q⟩=>?_) ht
 subst ex
 obtain rfl:u=Ar a:=rx
 refine qgu I1 ea c hm l ?_
 refine C1 (first:=[.ref a]) (h₀:=X.base) I.ok.mod.kin hm.kp (thn (ha pos pins s1 σ H1 _ I1 q) λus s2 ⟨vs,H2,I2,r,q2⟩=>⟨I2.kIn,?_⟩) hst hpl
 exact qqj (us:=.ref a::us) (vs:=.ref a::vs) F hr hb hd hx I2 (.cons rfl r) q2
theorem qrp {pins:List (Addr×Obj)}{σ:L2.St}{H:Hp}{s:Af}{Q:VK}{us:List Value}{vs:List V}(M:Mk X.K C f)(F:FnOk X.prog X.w X.K X.mg X.base (CX1 X.prog X.w) k f fd ps sp)(hr:Room (k+1) X.A)(hb:Binds X.K fd ps ds)(hd:Vals dvs ds)
  (hx:TakesAt X EX) (I:Inv X pins σ H s) (r:Vals vs us)
  (h:∀x dx,H x=none->H dx=none->dx≠x->sp (.ref x::(vs++dvs)) (upd (upd H dx (.own x)) x (.ins C dx [])) (λv H2=>v=.non/\Q (.ref x) H2) (EX σ)) :
  wpAny (model X.prog X.w) X.A (call (.ref C) us) (EP X pins σ Q) X.xe s:=by
 have hq:=h (s.heap.objs.size+1) s.heap.objs.size (I.hok.fresh (Ck _)) (I.hok.fresh (Ax _)) (AD (Cb _))
 have I2:=Inv.made (C:=C) I
 have r2:Vals (V.ref (s.heap.objs.size+1)::(vs++dvs)) (Ar (s.heap.objs.size+1)::(us++ds)):=.cons rfl (r.append hd)
 have hl:(Ar (s.heap.objs.size+1)::us++ds).length=ps.length:=by
  have e:=r2.length
  rw[F.len _ _ _ _ hq]at e
  exact e.symm
 refine CO (qm6 (f:=f) I.kIn M.makes M.init (beq_iff_eq.mp M.fn) (C8 (F.run _ X.stack _ _ ⟨Ar (s.heap.objs.size+1)::us,[]⟩ (Ar (s.heap.objs.size+1)::(us++ds)) _ _ (EX σ) (hr.make C us [])
  (I2.env0.make C us []) (hb _ (Ar (s.heap.objs.size+1)::us) I2.kIn hl) r2 hq) λr s' hq'=>?_))
 cases r with
 |error e=>exact hx.pass I2 hq'
 |ok fl =>
  cases fl with
  |ret u =>
   obtain⟨v,H',I3,rv,ev,q3⟩:=I2.after hq'
   subst ev
   exact⟨rv,⟨V.ref (s.heap.objs.size+1),H',I3,rfl,q3⟩⟩
  |next=>exact BB hq'
  |brk=>exact BB hq'
  |cont=>exact BB hq'
theorem qui (M:Mk X.K C f)(F:FnOk X.prog X.w X.K X.mg X.base (CX1 X.prog X.w) k f fd ps sp)(hr:Room (k+1) X.A)(hg:Gl X x)(hm:X.mg x=some (.ref C))(hb:Binds X.K fd ps ds)(hd:Vals dvs ds)(hx:TakesAt X EX)
  (ha:PA X (e::es) t) (hdb:(x == ("__debug__" : Str))=false:=by decide) (he:starEach (e::es) X.env=(false,eval e X.env)::starEach es X.env:=by rfl) (hpl:(backTo pos (starEach es X.env)).any (·.1)=false:=by rfl) :
  PE X (.Call (.Name x p) (e::es) [] pos) (tMakeX C sp dvs EX t):=by
 intro pins s σ H Q I h
 refine B0 (qeo I hg hm ?_ hdb)
 refine C1 (h₀:=X.base) I.ok.mod.kin M.kp (thn (ha pos pins s σ H _ I h) λus s1 ⟨vs,H1,I1,r,q⟩=>⟨I1.kIn,?_⟩) he hpl
 exact qrp M F hr hb hd hx I1 r q
end
noncomputable abbrev _root_.L2.Cx.tr (X:Cx)(pins:List (Addr×Obj))(W:Value->Af->Prop):Cx:={ X with pn:=X.pn++pins,xe:=W }
noncomputable abbrev _root_.L2.Cx.sup (X:Cx)(e:Value)(W:Value->Af->Prop):Cx:={ X with A:=X.A.mark (some e),calm:=false,xe:=W }
section
variable {X:Cx}{pins pins':List (Addr×Obj)}{σ:L2.St}{H:Hp}{s:Af}{W:Value->Af->Prop}{e:Value}
theorem ok_tr (ok:X.Ok):(X.tr pins W).Ok:=⟨ok.mod,ok.kind,ok.glob,ok.blt,ok.above,ok.inj,ok.has,ok.cab,ok.hd,ok.frames,ok.stk,ok.exf,ok.bs,ok.bsz,ok.noex,ok.exfs,ok.funs,ok.frf⟩
theorem qww (ok:(X.tr pins W).Ok):X.Ok:=⟨ok.mod,ok.kind,ok.glob,ok.blt,ok.above,ok.inj,ok.has,ok.cab,ok.hd,ok.frames,ok.stk,ok.exf,ok.bs,ok.bsz,ok.noex,ok.exfs,ok.funs,ok.frf⟩
theorem inv_tr (I:Inv X pins σ H s):Inv (X.tr pins W) [] σ H s:=⟨ok_tr I.ok,I.os,I.bare,I.base,I.loc,I.cell,I.free,I.freeC,λp hp=>I.pin p (by rw[B8]at hp;exact hp),I.hok,I.len⟩
theorem qfv (I:Inv (X.tr pins W) pins' σ H s):Inv X pins σ H s:=⟨qww I.ok,I.os,I.bare,I.base,I.loc,I.cell,I.free,I.freeC,λp hp=>I.pin p (Cj _ hp),I.hok,I.len⟩
theorem qwx {b:Addr}(f:qd6 (X.tr pins W) pins' H b):qd6 X pins H b:=⟨f.1,f.2.1,f.2.2.1,f.2.2.2.1,f.2.2.2.2.1,λp hp=>f.2.2.2.2.2 p (Cj _ hp)⟩
theorem quj {h:Heap}{x C:Addr}{od:Option Addr}(f:Fly (X.tr pins W) pins' H h x C od):Fly X pins H h x C od:=by
 rcases f with z|⟨e,vs,sl,T,oT,ts,h1,h2,h3,h4,h5,h6⟩
 .exact .inl z
 .exact .inr ⟨e,vs,sl,T,oT,ts,h1,h2,h3,h4,h5,qwx h6⟩
theorem qwy {D:Ends}{f:Flow}{s':Af}(h:SP (X.tr pins W) [] D f s'):SP X pins D f s':=by
 cases f with
 |next=>obtain⟨σ',H',I,q⟩:=h;exact⟨σ',H',qfv I,q⟩
 |brk=>obtain⟨σ',H',I,q⟩:=h;exact⟨σ',H',qfv I,q⟩
 |cont=>obtain⟨σ',H',I,q⟩:=h;exact⟨σ',H',qfv I,q⟩
 |ret u=>obtain⟨v,σ',H',I,r,q⟩:=h;exact⟨v,σ',H',qfv I,r,q⟩
theorem ok_sup (ok:X.Ok):(X.sup e W).Ok:=⟨ok.mod,ok.kind,ok.glob,ok.blt,ok.above,ok.inj,ok.has,ok.cab,(λz=>nomatch z),ok.frames,ok.stk,ok.exf,ok.bs,ok.bsz,ok.noex,ok.exfs,ok.funs,ok.frf⟩
theorem qqk (I:Inv X pins σ H s):Inv (X.sup e W) pins σ H s:=⟨ok_sup I.ok,I.os,I.bare,I.base,I.loc,I.cell,I.free,I.freeC,I.pin,I.hok,I.len⟩
theorem qga (ok:X.Ok)(I:Inv (X.sup e W) pins σ H s):Inv X pins σ H s:=⟨ok,I.os,I.bare,I.base,I.loc,I.cell,I.free,I.freeC,I.pin,I.hok,I.len⟩
theorem quk {D:Ends}{f:Flow}{s':Af}(ok:X.Ok)(h:SP (X.sup e W) pins D f s'):SP X pins D f s':=by
 cases f with
 |next=>obtain⟨σ',H',I,q⟩:=h;exact⟨σ',H',qga ok I,q⟩
 |brk=>obtain⟨σ',H',I,q⟩:=h;exact⟨σ',H',qga ok I,q⟩
 |cont=>obtain⟨σ',H',I,q⟩:=h;exact⟨σ',H',qga ok I,q⟩
 |ret u=>obtain⟨v,σ',H',I,r,q⟩:=h;exact⟨v,σ',H',qga ok I,r,q⟩
end
noncomputable abbrev TH:=Ends->L2.St->Addr->Addr->Option Addr->Hp->Prop
noncomputable def PH (X:Cx)(hs:List ExceptHandler)(th:TH):Prop:=∀(pins:List (Addr×Obj))(s:Af)(σ:L2.St)(H:Hp)(D:Ends)(x C:Addr)(od:Option Addr),Inv X pins σ H s->qo6 X pins H s.heap x C od->exHas H od->th D σ x C od H ->
 wpAny (model X.prog X.w) X.A (handleBy (.ref x) X.env hs) (SP X pins D) X.xe s
noncomputable def EXof (th:TH)(D:Ends):L2.St->XK:=λσ v od H=>∃x C,v=.ref x/\H x=some (exO x C od false)/\th D σ x C od H
noncomputable def tTry (tb:(L2.St->XK)->TS)(th:TH):TS:=λD σ H=>tb (EXof th D) D σ H
theorem ps_try {X:Cx}{body:List Stmt}{h₀:ExceptHandler}{hs:List ExceptHandler}{pos:Pos}{tb:(L2.St->XK)->TS}{th:TH}(hst:X.stack=X.env::X.outer/\X.env.frame=some X.env.locals)
  (hb:∀pins W EX,TakesAt (X.tr pins W) EX->Bw (model X.prog X.w) X.A X.env W->PSs (X.tr pins W) body (tb EX)) (hh:PH X (h₀::hs) th):PS X (.Try body (h₀::hs) [] [] pos) (tTry tb th):=by
 intro pins s σ H D I h
 refine wpAny_Try_except ?_
 have ok:=I.ok
 let W:Value->Af->Prop:=λe s₁=>wpAny (model X.prog X.w) X.A (noteFrame e X.env) (λ_ s₂=>wpAny (model X.prog X.w) X.A (setFlight e none) (λ_ s₃=>wpAny (model X.prog X.w) X.A (handleBy e X.env (h₀::hs)) (SP X pins D) X.xe s₃) X.xe s₂) X.xe s₁
 have T:TakesAt (X.tr pins W) (EXof th D):=by
  intro pins' σ' H' s' x C od I' fl has q
  obtain⟨x',C',ex',eq',q⟩:=q
  cases ex'
  have J:=qfv I'
  have fl':=quj fl
  have e1:∃fr,H' x=some (exO x C od fr):=by
   rcases fl' with z|z
   .exact⟨_,z⟩
   .exact⟨_,z.1⟩
  obtain⟨fr,e1⟩:=e1
  refine qlu hst J fl' λs2 J2 ft=>?_
  obtain⟨_,_,z,_⟩:=qeu J2.hok eq'
  have ft':=ft
  obtain⟨_,_,_,_,_,_,z',_⟩:=ft'
  rw[z']at z
  cases z
  exact hh pins s2 σ' _ D x C od J2 ft (qqi J.hok e1 has) q
 refine BY (hb pins W _ T Bw.looking [] s σ H D (inv_tr I) h) (λf s₁ q=>?_) λe s₁ q=>q
 have q:=qwy q
 cases f with
 |next=>exact Dl q
 |_=>exact q
theorem ph_nil {X:Cx}:PH X [] λ_ _ _ _ _ _=>False:=λ_ _ _ _ _ _ _ _ _ _ _ h=>h.elim
section
variable {X:Cx}{pins:List (Addr×Obj)}{σ:L2.St}{H:Hp}{s:Af}{E:Value->Af->Prop}
theorem qo7 {M:Model}{A:AL}{x C:Addr}{od:Option Addr}{Q:Unit->Af->Prop}(I:Inv X pins σ H s)(f:qo6 X pins H s.heap x C od)(h:∀s',Inv X pins σ H s'->qo6 X pins H s'.heap x C od->Q () s'):wpAny M A (setFlight (.ref x) none) Q E s:=by
 obtain⟨e,vs,sl,T,oT,ts,hx,h1,hT,hd,h3,fp⟩:=f
 have hs3:=(CD.mp h3).1
 unfold setFlight
 refine Aa (BI hx rfl h1 ?_)
 rw[if_pos (show (Ar T != B5)=true from by simp)]
 refine BP hT hd hs3 ?_
 have other:∀b,b≠T->(s.heap.update T (CB (·.setIfInBounds 3 ((none:Option Addr).elim B5 λf=>rawInt f)))).get? b=s.heap.get? b:=λb hb=>Bm _ _ (AZ hb)
 have hTT:=Bd (CB (·.setIfInBounds 3 ((none:Option Addr).elim B5 λf=>rawInt f))) hT (Cy (BL hd _))
 have nT:∀b u,H b=some u->b≠T:=λb u q z=>by rw[z,fp.1]at q;cases q
 have one:∀b,b∉[T]->b≠T:=λb hb z=>hb (by rw[z];simp)
 refine h _ (I.step (g':=s.gens) (d':=s.drawn) (t':=s.toks) (ch:=[T]) (λb hb=>?_) (λb o _ _ hc q _=>(other b (one b hc)).trans q) (λb o _ _ hc q _=>⟨o.slots,(other b (one b hc)).trans q⟩) (λb o _ _ n=>n) (λb o hc q=>⟨o,(other b (one b hc)).trans q⟩)
  (λb xs q=>q) (λb o u q=>q) (λb ps q=>⟨#[],by rw[q];simp⟩) (λm hm=>?_) (λb u q=>?_) I.bare) ⟨e,vs,sl,T,_,_,(other x (nT x _ e)).trans hx,h1,hTT,BL hd _,by simp[hs3],fp⟩
 .have z:b=T:=by simpa using hb
  subst z
  exact⟨fp.2.2.2.1,fp.2.1,fp.2.2.2.2.1,fp.2.2.2.2.2⟩
 .obtain⟨o,es,ep,ho,r⟩:=hm
  exact⟨o,es,ep,(other _ (AZ fp.2.1)).trans ho,r⟩
 .exact(I.hok b u q).stay (λc v hc r=>(other c (by
   rcases hc with rfl|hc
   .exact nT c u q
   .exact nT c _ hc)).trans r) (λ_ r=>r) λ_ _ r=>r
theorem qjo {M:Model}{A:AL}{i:Nat}{n:Str}{pos:Pos}{Q:Unit->Af->Prop}(I:Inv X pins σ H s)(hN:X.N.Nodup)(hi:X.N[i]?=some n)(hk:X.env.scope.names.lookup n=some .local)
  (h:∀s',Inv X pins (σ.set i none) H s'->Q () s'):wpAny M A (do bindName X.env n .none;unbindBehindTheSuite X.env n pos) Q E s:=by
 obtain⟨m,hn,hl⟩:=id I.loc
 have hcls:(X.env.scope.kind == .class || (X.env.scope.kind == .module && X.env.locals != X.env.globals))=false:=by rw[I.ok.kind];rfl
 have cne:=I.cne
 refine wpAny_nameGoes_keeps hk hn hcls λh' v hn' hs=>?_
 obtain⟨oL,_,_,hoL,_⟩:=id hn
 have tracked:HOk X.prog X.w H h':=λb ob e=>by
  refine(I.hok b ob e).stay (λc w' hc q=>(hs.2 c ?_).trans q) (λ_ q=>q) λ_ _ q=>q
  rintro rfl
  rcases hc with rfl|hc
  .rw[I.free]at e;cases e
  .rw[I.free]at hc;cases hc
 refine h _ ⟨I.ok,I.os,I.bare,⟨λb o e n hb hx=>?_,λb o e n hb hx=>?_,I.base.free,λb o e hx=>?_,I.base.tups,I.base.frzs,I.base.tbls⟩,⟨_,hn',λj y v' e1 e2 e3=>?_⟩,λy c e=>?_,I.free,I.freeC,λp hp=>?_,tracked,by simpa using I.len⟩
 .exact(hs.2 b (AD (A8 (Aw e) I.ok.above))).trans (I.base.keep b o e n hb hx)
 .obtain⟨sl,e1⟩:=I.base.slot b o e n hb hx
  exact⟨sl,(hs.2 b (AD (A8 (Aw e) I.ok.above))).trans e1⟩
 .obtain⟨o',e1⟩:=I.base.there b o e hx
  exact⟨o',(hs.2 b (AD (A8 (Aw e) I.ok.above))).trans e1⟩
 .have hj:j≠i:=λz=>by
   subst z
   rw[BA (by rw[I.len];exact(Ag.mp hi).1)]at e2
   cases e2
  rw[List.getElem?_set_ne (AZ hj)]at e2
  obtain⟨u',r',q⟩:=hl j y v' e1 e2 e3
  refine⟨u',r',?_⟩
  rcases q with ⟨k,e⟩|⟨k,c,e,z⟩
  .refine .inl ⟨k,?_⟩
   have:y≠n:=λe=>hj (qjs hN e1 (e ▸ hi))
   simp[this,e]
  .exact .inr ⟨k,c,e,z.sameBut hs (cne y c e)⟩
 .obtain⟨w',z⟩:=I.cell y c e
  exact⟨w',z.sameBut hs (cne y c e)⟩
 .obtain⟨e,n,ne,nf,d⟩:=I.pin p hp
  exact⟨(hs.2 p.1 ne).trans e,n,ne,nf,d⟩
end
noncomputable def PC (X:Cx)(t:Expr)(c:Value):Prop:=∀(e:Value)(E:Value->Af->Prop)(pins:List (Addr×Obj))(s:Af)(σ:L2.St)(H:Hp)(Q:Value->Af->Prop),Inv X pins σ H s->Q c s->wpAny (model X.prog X.w) (X.A.mark (some e)) (eval t X.env) Q E s
theorem qcu {X:Cx}{x:Str}{u:Value}{pos:Pos}(hg:Gl X x)(hm:X.mg x=some u)(hd:(x == ("__debug__" : Str))=false:=by decide):PC X (.Name x pos) u:=λe E pins s σ H Q I h =>
 qeo (X:=X.sup e E) (qqk I) hg hm h hd
noncomputable def hCl (K:Ae)(c:Value)(suite qa9:TH):TH:=λD σ x C od H=>match Ad K (.ref C) c with
 |some true=>suite D σ x C od H
 |some false=>qa9 D σ x C od H
 |none=>False
noncomputable def hAs (i:Nat)(ts:Addr->TS):TH:=λD σ x _ _ H=>ts x { nx:=λσ' H'=>D.nx (σ'.set i none) H',rt:=D.rt,bk:=λσ' H'=>D.bk (σ'.set i none) H',ct:=λσ' H'=>D.ct (σ'.set i none) H' } (σ.set i (some (.ref x))) H
section
variable {X:Cx}{t:Expr}{b₀:Stmt}{body:List Stmt}{pos:Pos}{qa9:List ExceptHandler}{c:Value}{ts:Addr->TS}{tr:TH}
theorem qo8 {pins:List (Addr×Obj)}{H:Hp}{h:Heap}{x C:Addr}{od:Option Addr}(fl:qo6 X pins H h x C od):BH (model X.prog X.w) h (typeOf (.ref x)) (.ref C):=by
 obtain⟨e,vs,sl,T,oT,tsl,hx,_⟩:=fl
 exact(BH.ld hx).andThen .now
theorem ph_as {i:Nat}{n:Str}(hN:X.N.Nodup)(hi:X.N[i]?=some n)(hk:X.env.scope.names.lookup n=some .local)(hc:PC X t c)(hb:∀x,PSs (X.sup (.ref x) λ_ _=>False) (b₀::body) (ts x))(hr:PH X qa9 tr) :
  PH X (.ExceptHandler (some t) (some n) (b₀::body) pos::qa9) (hCl X.K c (hAs i ts) tr):=by
 intro pins s σ H D x C od I fl has h
 refine wpAny_handleBy_cons (codeAny_handlers_test (hc (.ref x) _ pins s σ H _ I ?_)) (by intro q;cases q)
 unfold hCl at h
 split at h
 .rename_i he
  refine(PySem.W.exm_one I.kIn (qo8 fl) he).here ?_
  refine codeAny_handlers_suite_as (qo7 I fl λs2 I2 f2=>?_)
  refine qha I2 hN hi (.inl hk) (v:=.ref x) rfl (λs3 I3=>?_) (.inr hk)
  refine BY (hb x pins s3 _ H _ (qqk I3) h) (λf s4 q=>?_) λ_ _ z=>z.elim
  have q:=quk I.ok q
  cases f with
  |next=>obtain⟨σ',H',J,q⟩:=q;exact qjo J hN hi hk λs5 J5=>⟨_,H',J5,q⟩
  |brk=>obtain⟨σ',H',J,q⟩:=q;exact qjo J hN hi hk λs5 J5=>⟨_,H',J5,q⟩
  |cont=>obtain⟨σ',H',J,q⟩:=q;exact qjo J hN hi hk λs5 J5=>⟨_,H',J5,q⟩
  |ret u=>obtain⟨v,σ',H',J,r,q⟩:=q;exact qjo J hN hi hk λs5 J5=>⟨v,_,H',J5,r,q⟩
 .rename_i he
  refine(PySem.W.exm_one I.kIn (qo8 fl) he).here ?_
  exact hr pins s σ H D x C od I fl has h
 .exact h.elim
end
structure XRaise (K:Ae)(C:Addr):Prop where
 sub:DE K C (.type "BaseException")=some true
 ty:Cr K (.ref C)=some (.type "type")
noncomputable def qgx (K:Ae)(C:Addr):Bool:=(DE K C (.type "BaseException") == some true) && (Cr K (.ref C) == some (.type "type"))
theorem qno {K:Ae}{C:Addr}(h:qgx K C=true):XRaise K C:=by
 unfold qgx at h
 simp only[AE,beq_iff_eq]at h
 exact⟨h.1,h.2⟩
theorem qwz {prog:AF}{w:World}{A:AL}{E:Value->Af->Prop}{s:Af}{env:Env}{K:Ae}{m:Sem Value}{Q:Flow->Af->Prop}(hh:A.handled=none)
  (h:wpAny (model prog w) A m (λv s₁=>∃x C od vs sl,v=.ref x/\K.In s₁.heap/\XRaise K C/\s₁.heap.get? x=some (qc1 C od vs sl)/\vs[1]?=some .none/\E (.ref x) s₁) E s) :
  wpAny (model prog w) A (raiseStmt env (some m) none) Q E s:=by
 unfold raiseStmt
 refine Aa (BY h (λv s₁ h₁=>?_) λ_ _ x=>x)
 obtain⟨x,C,od,vs,sl,rfl,KX,c,hx,h1,hE⟩:=h₁
 have LT:BH (model prog w) s₁.heap (typeOf (.ref x)) (.ref C):=(BH.ld hx).andThen .now
 have LB:BH (model prog w) s₁.heap (isInstance (.ref x) (.type "BaseException")) true:=LT.andThen (PySem.W.looks_mroIn KX c.sub)
 have LN:BH (model prog w) s₁.heap (isType (.ref x)) false:=(BH.ld hx).andThen .now
 have LC:BH (model prog w) s₁.heap (typeOf (.ref C)) (.type "type"):=PySem.W.looks_typeIn KX c.ty
 refine Aa (Al ?_)
 refine Aa (BC ?_)
 unfold excFromValue isExcClass
 refine Aa (Aa (LN.here ?_))
 rw[if_neg En]
 refine Al ?_
 rw[if_neg En]
 refine Aa (LB.here ?_)
 rw[if_pos rfl]
 refine Al ?_
 refine Aa (LN.here ?_)
 rw[if_neg En]
 refine Aa ?_
 unfold raisedInstance
 refine Aa (LT.here (Aa (LC.here ?_)))
 rw[if_pos (beq_self_eq_true _)]
 refine Al ?_
 refine Aa ?_
 unfold setFlight
 refine Aa (BI hx rfl h1 ?_)
 rw[if_neg En]
 exact Al (wpAny_raiseNew_none hh hE)
noncomputable def tRaise (K:Ae)(te:TE)(EX:L2.St->XK):TS:=λ_ σ H=>te σ H λv H1=>∃x C od,v=.ref x/\H1 x=some (exO x C od true)/\exHas H1 od/\XRaise K C/\EX σ (.ref x) od (upd H1 x (exO x C od false))
theorem qc2 {X:Cx}{e:Expr}{te:TE}{pos:Pos}{EX:L2.St->XK}(hc:X.calm=true)(hx:TakesAt X EX)(he:PE X e te):PS X (.Raise (some e) none pos) (tRaise X.K te EX):=by
 intro pins s σ H D I h
 rw[arm_exec_Raise]
 refine Aa (wpAny_standAt ?_)
 show wpAny _ _ (raiseStmt X.env (some (do let v <- eval e X.env;standAt pos;pure v)) none) _ _ _
 refine qwz (K:=X.K) (I.ok.hd hc) (Aa (thn (he pins s σ H _ I h) λv s1 ⟨u,H1,I1,r,x,C,od,eu,ex,has,c,q⟩=>Aa (wpAny_standAt (Al ?_))))
 subst eu
 obtain rfl:v=Ar x:=r
 obtain⟨vs,sl,e1,z6,ff⟩:=qeu I1.hok ex
 obtain⟨rfl,t,rfl⟩:=ff rfl
 exact⟨x,C,od,_,_,rfl,I1.kIn,c,e1,rfl,hx pins σ H1 s1 x C od I1 (.inl ex) has q⟩
section
variable {X:Cx}
end
noncomputable abbrev TJ:=Str->TE
section
variable {X:Cx}{e:Expr}{es:List Expr}{te:TE}{tj:TJ}{pos:Pos}
end
open Builtin Builtin.Str
section
variable {X:Cx}
theorem qlv:∀(l:List (Str×Tok)),Vals (l.map λp=>V.str p.1) (strValues l)
 | []=>.nil
 |p::l=>.cons ⟨p.2,rfl⟩ (qlv l)
theorem qgy {pins:List (Addr×Obj)}{s:Af}{σ:L2.St}{H:Hp}{Q:VK}{ys:List Str}(I:Inv X pins σ H s)(k:Nat)(l:List (Str×Tok))(e:l.map (·.1)=ys)(z:ys.length<=A0)(q:∀p,H p=none->Q (.ref p) (upd H p (.lst (ys.map V.str)))) :
  EP X pins σ Q (.ref s.heap.objs.size) { s with heap:=s.heap.push { cls:=.type "list",data:=.seq (strValues l).toArray },toks:=k }:=by
 have hf:H s.heap.objs.size=none:=I.hok.fresh (Ax _)
 refine⟨.ref s.heap.objs.size,upd H s.heap.objs.size (.lst (ys.map V.str)),I.laid (t':=k) (λb u e=>Ah _ e) (Ax _) ?_,rfl,q _ hf⟩
 refine⟨by rw[Ac];exact z,strValues l,0,?_,Au _ rfl⟩
 rw[<- e,Bi]
 exact qlv l
theorem qnp:MtR X "str.split" (λx vs H Q=>∃a y:Str,x=.str a/\vs=[.str y]/\(y.length == 0)=false/\a.length<=A0/\(Cn a y).length<=A0/\(partsBetween a (occurrences a y 0 a.length (a.length+1)) y.length).length<=A0 /\
  ∀p,H p=none->Q (.ref p) (upd H p (.lst ((Cn a y).map V.str)))):=by
 intro pins s σ H x vs v us Q I rx rv h
 obtain⟨a,y,rfl,rfl,hy,hx,hz,hn,q⟩:=h
 obtain⟨t,rfl⟩:=rx
 obtain⟨u',rfl,u,rfl⟩:=rv.one
 cases h1:(decide (a.length<y.length) || decide (strKind a<strKind y))
 .cases hf:(occurrences a y 0 a.length (a.length+1)).isEmpty
  .refine DN F.slot_str_split (typeIs_str _ _ _) F.entry_str_split (F.args_str_split_2 _ _) (meets_str_split_sep a y t u h1 hy hf hx hn) ?_
   show wants _ _ _ { s with toks:=_,heap:=s.heap.push { cls:=.type "list",data:=.seq (strsFrom s.toks (partsBetween a (occurrences a y 0 a.length (a.length+1)) y.length)).toArray } }
   rw[strsFrom_eq]
   exact qgy I _ _ ((numbered_texts _ _).trans ((if_neg (ne_true_of_eq_false h1)).trans (if_neg (ne_true_of_eq_false hf))).symm) hz q
  .exact DN F.slot_str_split (typeIs_str _ _ _) F.entry_str_split (F.args_str_split_2 _ _) (meets_str_split_not_found a y t u h1 hy hf) (qgy I s.toks [(a,t)] ((if_neg (ne_true_of_eq_false h1)).trans (if_pos hf)).symm hz q)
 .exact DN F.slot_str_split (typeIs_str _ _ _) F.entry_str_split (F.args_str_split_2 _ _) (meets_str_split_cannot_occur a y t u h1) (qgy I s.toks [(a,t)] (if_pos h1).symm hz q)
end
end Add
namespace Add
open PySem PySem.Spec PyProof.Rows L2
theorem qrr {X:Cx}:qdw X (.type "int") (λxs H Q=>∃(x:Str)(n:Int),xs=[.str x]/\PySem.intText? x=some n/\x.length<=640/\Q (.int n) H):=by
 intro pins s σ H xs us Q I r h
 obtain⟨x,n,rfl,hn,hl,q⟩:=h
 obtain⟨u,rfl,t,rfl⟩:=qe0 r
 exact PySem.W.KIN.call_text hn hl ⟨.int n,H,I.tok _,⟨_,rfl⟩,q⟩
section
variable {K:Ae}{C f:Addr}{m:Str}
noncomputable def qw0 (K:Ae)(C:Addr):Bool:=D3 K C Str.empty && CI K C && PySem.W.plainOver K C && (AJ K (.ref C) "__setattr__" == some (some (.builtin "object.__setattr__")))
theorem qul (h:qw0 K C=true):Cls K C:=by
 unfold qw0 at h
 simp only[AE,beq_iff_eq]at h
 obtain⟨⟨⟨h1,h2⟩,h3⟩,h4⟩:=h
 exact⟨h1,h2,h3,h4⟩
noncomputable def mkB (K:Ae)(C f:Addr):Bool:=PySem.W.makesIn K C && (AJ K (.ref C) "__init__" == some (some (.ref f))) && PySem.W.isFn K (.ref f) && Bj K (.ref C)
theorem qyu (h:mkB K C f=true):Mk K C f:=by
 unfold mkB at h
 simp only[AE,beq_iff_eq]at h
 obtain⟨⟨⟨h1,h2⟩,h3⟩,h4⟩:=h
 exact⟨h1,h2,h3,h4⟩
noncomputable def qi1 (K:Ae)(C:Addr)(m:Str)(f:Addr):Bool:=(AJ K (.ref C) m == some (some (.ref f))) && PySem.W.isFn K (.ref f) && Bj K (.ref f)
theorem qgb (h:qi1 K C m f=true):Meth K C m f:=by
 unfold qi1 at h
 simp only[AE,beq_iff_eq]at h
 obtain⟨⟨h1,h2⟩,h3⟩:=h
 exact⟨h1,h2,h3⟩
end
open Builtin Builtin.Str
section
variable {X:Cx}
theorem qk6:MtR X "str.startswith" (λx vs H Q=>∃a y:Str,x=.str a/\vs=[.str y]/\Q (.bl (Txt.startswith a y)) H):=by
 intro pins s σ H x vs v us Q I rx rv h
 obtain⟨a,y,rfl,rfl,q⟩:=h
 obtain⟨t,rfl⟩:=rx
 obtain⟨u',rfl,u,rfl⟩:=rv.one
 exact SC.startswith ⟨.bl _,H,I,rfl,q⟩
theorem qlw:∀{ys:List Str}{us:List Value},Vals (ys.map V.str) us->∃l:List (Str×Tok),strValues l=us/\l.map (·.1)=ys
 | [],us,r=>by cases r;exact⟨[],rfl,rfl⟩
 |y::ys,us,r=>by
  cases r with
  |cons h r =>
   obtain⟨t,rfl⟩:=h
   obtain⟨l,h1,h2⟩:=qlw r
   exact⟨(y,t)::l,by rw[<- h1];rfl,by rw[<- h2];rfl⟩
theorem qw1:MtR X "str.join" (λx vs H Q=>∃(a:Str)(p:Addr)(ys:List Str),x=.str a/\vs=[.ref p]/\SqL X.K H p (ys.map V.str)/\JoinOk a ys=true/\Q (.str (Txt.join a ys)) H):=by
 intro pins s σ H x vs v us Q I rx rv h
 obtain⟨a,p,ys,rfl,rfl,hq,hj,q⟩:=h
 obtain⟨t,rfl⟩:=rx
 obtain⟨u',rfl,hu⟩:=rv.one
 cases hu
 obtain⟨its,r,pl,hz⟩:=I.list hq
 obtain⟨l,rfl,h2⟩:=qlw r
 exact SC.join pl.isList h2 hj λt' k=>⟨.str _,H,I.tok _,⟨_,rfl⟩,q⟩
end
end Add
namespace Add
open PySem PySem.Spec PyProof.Rows L2
open Builtin Builtin.Str
end Add
namespace Add
open PySem PySem.Spec PyProof.Rows L2
theorem qah {H H':Hp}{p:Addr}{o:HO}(s:Same H H')(n:H p=none):Same H (upd H' p o):=λb u e=>by rw[ze (qad e n)];exact s _ _ e
theorem qrs {K:Ae}{H H':Hp}{a:Addr}{xs:List V}(e:Same H H')(h:SqT K H a xs):SqT K H' a xs:=by
 rcases h with (h|h)|h
 .exact .inl (.inl (e _ _ h))
 .obtain⟨o,h⟩:=h;exact .inl (.inr ⟨o,e _ _ h⟩)
 .exact .inr h
theorem qrt {js:List (Option Nat)}{g:TG}{tc:TT}{te:TE}{J:It}{σ:L2.St}{H:Hp}{Q:VK}{xs:List V}(b:V->Bool)(f:V->V)(Sv:L2.St->Prop)(F:qls J H xs)(hz:xs.length<=A0)(h0:Sv (qe8 js σ))
  (step:∀(x:V)(σ':L2.St)(H':Hp)(N:L2.St->Hp->Prop)(R:L2.St->VK),x∈xs->Same H H'->Sv σ'->(∀σ3,Sv σ3->b x=false->N σ3 H')->(∀σ3,Sv σ3->b x=true->R σ3 (f x) H') ->
   g x σ' H' λσ3 H3=>tc σ3 H3 λk H4=>if k=true then te σ3 H4 (R σ3) else N σ3 H4)
  (gk:∀(x:V)(σ':L2.St)(H':Hp)(R R':L2.St->Hp->Prop),(∀σ3 H3,R σ3 H3->R' σ3 H3)->g x σ' H' R->g x σ' H' R')
  (fin:∀p,H p=none->Q (.ref p) (upd H p (.lst ((xs.filter b).map f)))) :
  qif js g tc te σ Q J H:=by
 intro p hp
 have sm:∀o,Same H (upd H p o):=λo=>qah (Same.refl H) hp
 have fl:∀i,((xs.take i).filter b).length<=i:=λi=>A3 (List.length_filter_le b (xs.take i)) (by rw[A2];lia)
 refine⟨λi m σ' H'=>m=xs.length-i/\i<=xs.length/\Sv σ'/\H'=upd H p (.lst (((xs.take i).filter b).map f)),⟨xs.length,by simp,Bs _,h0,by simp⟩,?_⟩
 rintro i m σ' H' ⟨rfl,hi,hv,rfl⟩
 obtain⟨F1,F2⟩:=F _ (sm (.lst (((xs.take i).filter b).map f)))
 by_cases hlt:i<xs.length
 .have ex:xs[i]?=some xs[i]:=by simp[hlt]
  obtain⟨go,yl⟩:=F1 i _ ex
  have et:(xs.take (i+1)).filter b=(xs.take i).filter b++(if b xs[i]=true then [xs[i]] else []):=by
   rw[CL,ex,List.filter_append]
   congr 1
   show List.filter b [xs[i]]=_
   rw[List.filter_cons]
   rfl
  refine .inr ⟨go,λσ2 H2=>Sv σ2/\H2=upd H p (.lst (((xs.take (i+1)).filter b).map f)),λσ2 H2 ⟨a,b⟩=>⟨xs.length-(i+1),by lia,rfl,hlt,a,b⟩,λx H2 hy=>?_⟩
  obtain⟨rfl,rfl⟩:=yl x H2 hy
  refine gk _ _ _ _ _ (λσ3 H3 z=>?_) (step xs[i] σ' _ (λσ2 H2=>Sv σ2/\H2=upd H p (.lst (((xs.take (i+1)).filter b).map f))) (λσ3 v H5=>∃ys,H5 p=some (.lst ys)/\ys.length<A0/\(Sv σ3/\upd H5 p (.lst (ys++[v]))=upd H p (.lst (((xs.take (i+1)).filter b).map f)))) (Bb hlt) (sm _) hv (λσ3 hs3 hb=>?_) λσ3 hs3 hb=>?_)
  .exact z
  .refine⟨hs3,?_⟩
   rw[et,hb]
   simp
  .refine⟨_,qz,?_,hs3,?_⟩
   .rw[Ac];have:=fl i;lia
   .rw[qp6,et,hb,if_pos rfl,A1];rfl
 .have e:i=xs.length:=by lia
  subst e
  refine .inl ⟨F2,?_⟩
  rw[Bx]
  exact fin p hp
end Add
namespace Wri
open PySem PySem.Spec PyProof.Rows PySem.W PySem.W.KIN PySem.NumText
theorem cut_eq (c:Nat):∀{a b r t:List Nat},c∉a->c∉b->a++c::r=b++c::t->a=b/\r=t
 | [],[],_,_,_,_,e=>⟨rfl,(DG e).2⟩
 | [],y::b,_,_,_,hb,e=>absurd (DG e).1 λz=>hb (by rw[z];exact Am)
 |x::a,[],_,_,ha,_,e=>absurd (DG e).1 λz=>ha (by rw[<- z];exact Am)
 |x::a,y::b,_,_,ha,hb,e=>by
  obtain⟨h1,h2⟩:=DG e
  obtain⟨h3,h4⟩:=cut_eq c (λz=>ha (Aq _ z)) (λz=>hb (Aq _ z)) h2
  exact⟨by rw[h1,h3],h4⟩
noncomputable def jl (c:Nat):List (List Nat)->List Nat
 | []=>[]
 | [x]=>x
 |x::y::r=>x++c::jl c (y::r)
theorem qum (c:Nat):∀{ps qs:List (List Nat)},ps≠[]->qs≠[]->(∀p∈ps,c∉p)->(∀q∈qs,c∉q)->jl c ps=jl c qs->ps=qs
 | [],_,h,_,_,_,_=>absurd rfl h
 |_,[],_,h,_,_,_=>absurd rfl h
 | [x],[y],_,_,_,_,e=>by rw[show x=y from e]
 | [x],y::z::r,_,_,hp,_,e=>absurd (show c∈x by rw[show x=y++c::jl c (z::r) from e];simp) (hp x Am)
 |x::z::r,[y],_,_,_,hq,e=>absurd (show c∈y by rw[show y=x++c::jl c (z::r) from e.symm];simp) (hq y Am)
 |x::u::r,y::v::t,_,_,hp,hq,e=>by
  obtain⟨h1,h2⟩:=cut_eq c (hp x Am) (hq y Am) (show x++c::jl c (u::r)=y++c::jl c (v::t) from e)
  rw[h1,qum c (Da _ _) (Da _ _) (λp h=>hp p (Aq _ h)) (λp h=>hq p (Aq _ h)) h2]
theorem qc7 (c:Nat):∀ps:List Str,(Str.join ⟨#[c]⟩ ps).cps.toList=jl c (ps.map λp=>p.cps.toList)
 | []=>rfl
 | [x]=>rfl
 |x::y::r=>by
  show (x++⟨#[c]⟩++Str.join ⟨#[c]⟩ (y::r)).cps.toList=_
  rw[Dx,Dx,Array.toList_append,Array.toList_append,qc7 c (y::r),AN]
  rfl
theorem str_ext {x y:Str}(h:x.cps.toList=y.cps.toList):x=y:=by
 cases x;cases y;congr;exact Array.toList_inj.mp h
theorem qj5 (x:Str)(c:Nat):Cn x ⟨#[c]⟩≠[]:=by
 unfold Cn
 split
 .exact Da _ _
 .split
  .exact Da _ _
  .intro h
   have:=length_partsBetween x (AG.Str.occurrences x ⟨#[c]⟩ 0 x.length (x.length+1)) (⟨#[c]⟩:Str).length
   rw[h]at this
   cases this
theorem qj6 (c:Nat){ps:List Str}(h0:ps≠[])(h:∀p∈ps,c∉p.cps.toList):Cn (Str.join ⟨#[c]⟩ ps) ⟨#[c]⟩=ps:=by
 have e:(Cn (Str.join ⟨#[c]⟩ ps) ⟨#[c]⟩).map (λp=>p.cps.toList)=ps.map λp=>p.cps.toList:=by
  refine qum c (λz=>qj5 _ c (List.map_eq_nil_iff.mp z)) (λz=>h0 (List.map_eq_nil_iff.mp z)) (λp hp=>?_) (λp hp=>?_) ?_
  .obtain⟨q,hq,rfl⟩:=AW.mp hp
   exact StrLaws.split_free _ c q hq
  .obtain⟨q,hq,rfl⟩:=AW.mp hp
   exact h q hq
  .rw[<- qc7,<- qc7,StrLaws.join_split]
 exact List.map_inj_right (λ_ _ z=>str_ext z) |>.mp e
theorem qw2 {l:List Nat}{n:Nat}(h:n∈l):n<=l.sum:=by
 induction l with
 |nil=>cases h
 |cons a l ih =>
  rw[List.sum_cons]
  rcases Ap.mp h with rfl|h
  .lia
  .have:=ih h;lia
theorem qnq (c:Nat):∀ps:List Str,ps≠[]->(ps.map (·.length)).sum+ps.length<=(Str.join ⟨#[c]⟩ ps).length+1
 | [],h=>absurd rfl h
 | [x],_=>by simp[Str.join]
 |x::y::r,_=>by
  have ih:=qnq c (y::r) (Da _ _)
  show _<=(x++⟨#[c]⟩++Str.join ⟨#[c]⟩ (y::r)).length+1
  rw[Str.length_append,Str.length_append]
  have:(⟨#[c]⟩:Str).length=1:=rfl
  simp only[AA,List.sum_cons,At]at ih |-
  lia
theorem qru (x:Str)(c:Nat):(Cn x ⟨#[c]⟩).length<=x.length+1/\∀p∈Cn x ⟨#[c]⟩,p.length<=x.length:=by
 have h:=qnq c (Cn x ⟨#[c]⟩) (qj5 x c)
 rw[StrLaws.join_split]at h
 refine⟨by lia,λp hp=>?_⟩
 have h2:=qw2 (AW.mpr ⟨p,hp,rfl⟩:p.length∈(Cn x ⟨#[c]⟩).map (·.length))
 have h3:1<=(Cn x ⟨#[c]⟩).length:=List.length_pos_iff.mpr (qj5 x c)
 lia
theorem qi2 (x:Str)(c:Nat):(AG.Str.partsBetween x (AG.Str.occurrences x ⟨#[c]⟩ 0 x.length (x.length+1)) (⟨#[c]⟩:Str).length).length<=x.length+2:=by
 rw[length_partsBetween]
 have:=StrLaws.occ_length_le x ⟨#[c]⟩ 0 x.length (x.length+1)
 lia
noncomputable def fig (c:Nat):Bool:=decide (48<=c) && decide (c<=57)
noncomputable def nv (x:Str):Int:=((digitsVal x.cps.toList:Nat):Int)
noncomputable def plain (x:Str):Bool:=decide (x=Ab "0") || !decide (x.cps.toList.head?=some 48)
theorem qw3 {x:Str}(h:x.cps.toList.all fig=true):AllDigits x.cps.toList:=λc hc=>by
 have:=AV.mp h c hc
 unfold fig at this
 simp only[AE,decide_eq_true_eq]at this
 exact this
theorem int_of {x:Str}(h:x.cps.toList.all fig=true)(h1:1<=x.cps.size)(h2:x.cps.size<=4300):PySem.intText? x=some (nv x):=by
 refine intText_digits (qw3 h) (λz=>?_) h2
 have:x.cps.toList.length=0:=by rw[z];rfl
 rw[A6]at this
 lia
end Wri
namespace Add
open PySem PySem.Spec PyProof.Rows L2
inductive Tups (H:Hp):List V->List (List V)->Prop where
 |nil:Tups H [] []
 |cons {a:Addr} {r vs:List V} {rs:List (List V)} (h:H a=some (.tup r)) (t:Tups H vs rs):Tups H (.ref a::vs) (r::rs)
theorem Tups.same {H H':Hp}{vs:List V}{rs:List (List V)}(t:Tups H vs rs)(s:Same H H'):Tups H' vs rs:=by
 induction t with
 |nil=>exact .nil
 |cons h _ ih=>exact .cons (s _ _ h) ih
theorem Tups.length {H:Hp}{vs:List V}{rs:List (List V)}(t:Tups H vs rs):vs.length=rs.length:=by
 induction t with
 |nil=>rfl
 |cons _ _ ih=>rw[At,At,ih]
theorem Tups.get {H:Hp}{vs:List V}{rs:List (List V)}(t:Tups H vs rs):∀{i:Nat}{r:List V},rs[i]?=some r->∃a,vs[i]?=some (.ref a)/\H a=some (.tup r):=by
 induction t with
 |nil=>intro i r h;cases i <;>cases h
 |cons h _ ih =>
  intro i r' h'
  cases i with
  |zero=>cases h';exact⟨_,rfl,h⟩
  |succ i=>exact ih (i:=i) h'
theorem Tups.get' {H:Hp}{vs:List V}{rs:List (List V)}(t:Tups H vs rs){i:Nat}{v:V}(h:vs[i]?=some v):∃a r,v=.ref a/\rs[i]?=some r/\H a=some (.tup r):=by
 have hi:i<rs.length:=by rw[<- t.length];exact(Ag.mp h).1
 obtain⟨a,e,q⟩:=t.get (i:=i) (r:=rs[i]) (by simp[hi])
 rw[h]at e
 cases e
 exact⟨a,_,rfl,by simp[hi],q⟩
theorem Tups.app {H:Hp}{vs us:List V}{rs ts:List (List V)}(t:Tups H vs rs)(u:Tups H us ts):Tups H (vs++us) (rs++ts):=by
 induction t with
 |nil=>exact u
 |cons h _ ih=>exact .cons h ih
theorem Tups.snoc {H:Hp}{vs:List V}{rs:List (List V)}{a:Addr}{r:List V}(t:Tups H vs rs)(h:H a=some (.tup r)):Tups H (vs++[.ref a]) (rs++[r]):=t.app (.cons h .nil)
theorem Tups.upd {H:Hp}{vs:List V}{rs:List (List V)}{p:Addr}{xs:List V}{o:HO}(t:Tups H vs rs)(hp:H p=some (.lst xs)):Tups (L2.upd H p o) vs rs:=by
 induction t with
 |nil=>exact .nil
 |cons h _ ih=>exact .cons (by rw[ze (λz=>by rw[z,hp]at h;cases h)];exact h) ih
noncomputable def qml:List (List V)->List (List V)->Bool
 | [],[]=>true
 |x::xs,y::ys=>qd2 x y && qml xs ys
 |_,_=>false
theorem qnr:∀{xs ys:List (List V)},xs.length≠ys.length->qml xs ys=false
 | [],[],h=>absurd rfl h
 | [],_::_,_=>rfl
 |_::_,[],_=>rfl
 |x::xs,y::ys,h=>by
  show (qd2 x y && qml xs ys)=false
  rw[qnr (λz=>h (by rw[At,At,z])),CZ]
theorem qlx:∀{xs:List (List V)},xs.all (·.all qbn)=true->qml xs xs=true
 | [],_=>rfl
 |x::xs,h=>by
  rw[C9,AE]at h
  show (qd2 x x && qml xs xs)=true
  rw[qdr h.1,qlx h.2];rfl
noncomputable def eTs (xs ys:List (List V))(j:Nat):Bool:=qd2 (xs.getD j []) (ys.getD j [])
theorem qql:∀{xs ys:List (List V)},xs.length=ys.length->(Bh xs.length).all (eTs xs ys)=qml xs ys
 | [],[],_=>rfl
 |x::xs,y::ys,h=>by
  have ih:=qql (xs:=xs) (ys:=ys) (by simpa using h)
  show (Bh (xs.length+1)).all _=(qd2 x y && qml xs ys)
  rw[List.range_succ_eq_map,C9,CK,<- ih]
  rfl
section
variable {X:Cx}
theorem qhh {a:Addr}{u:Value}(r:RelV (.ref a) u):u=.ref a:=by cases r;rfl
theorem qw4 {A:AL}{pins:List (Addr×Obj)}{σ:L2.St}{H:Hp}{s:Af}(I:Inv X pins σ H s)(hu:A.units<cLine){vs us:List V}{ts rs:List (List V)}{its its2:List Value}(r1:Vals vs its)(r2:Vals us its2)(t1:Tups H vs ts)(t2:Tups H us rs)
  (f1:ts.all (·.all qbn)=true) (f2:rs.all (·.all qbn)=true):∀j (h1:j<its.toArray.size) (h2:j<its2.toArray.size),Bz A s its.toArray[j] its2.toArray[j] (eTs ts rs j):=by
 intro j h1 h2
 have l1:=r1.length
 have l2:=r2.length
 have m1:=t1.length
 have m2:=t2.length
 have g1:j<ts.length:=by rw[Ao]at h1;lia
 have g2:j<rs.length:=by rw[Ao]at h2;lia
 obtain⟨a,ea,qa⟩:=t1.get (i:=j) (r:=ts[j]) (by simp[g1])
 obtain⟨b,eb,qb⟩:=t2.get (i:=j) (r:=rs[j]) (by simp[g2])
 obtain⟨u,hu1,ru⟩:=r1.get ea
 obtain⟨w,hw1,rw'⟩:=r2.get eb
 have e1:its.toArray[j]=.ref a:=by
  have:its[j]?=some its[j]:=by simp
  rw[this]at hu1
  rw[<- qhh ru]
  simpa using A7 hu1
 have e2:its2.toArray[j]=.ref b:=by
  have:its2[j]?=some its2[j]:=by simp
  rw[this]at hw1
  rw[<- qhh rw']
  simpa using A7 hw1
 have k1:=AV.mp f1 _ (Bb g1)
 have k2:=AV.mp f2 _ (Bb g2)
 have e3:eTs ts rs j=qd2 ts[j] rs[j]:=by simp[eTs,g1,g2]
 rw[e1,e2,e3]
 by_cases hab:a=b
 .subst hab
  rw[qa]at qb
  have:ts[j]=rs[j]:=by injection qb with qb;injection qb
  rw[<- this,qdr k1]
  exact Bz.same _
 .refine Bz.of_refs hab ?_
  obtain⟨i1,c1,p1,_⟩:=I.tuple (SqT.of qa)
  obtain⟨i2,c2,p2,_⟩:=I.tuple (SqT.of qb)
  have z:=SeqAt.RcAt.tuples (A:=A) (show s.heap.IsTuple a i1.toArray from p1) (show s.heap.IsTuple b i2.toArray from p2) hu (items_eq c1 c2 k1 k2)
  rw[Ao,Ao,<- c1.length,<- c2.length,qjz]at z
  exact z
noncomputable def rEqLT (K:Ae)(f:Bool->Bool):R2:=λx y H Q=>∃a b vs us ts rs,x=.ref a/\y=.ref b/\SqL K H a vs/\SqL K H b us/\Tups H vs ts/\Tups H us rs/\ts.all (·.all qbn)=true/\rs.all (·.all qbn)=true/\Q (.bl (f (qml ts rs))) H
theorem qw5 (hu:X.A.units+64<cLine):OpR X (compareOp .NotEq) (rEqLT X.K λz=>!z):=by
 intro pins s σ H x y v u Q I rx ry h
 obtain⟨a,b,vs,us,ts,rs,rfl,rfl,ha,hb,t1,t2,f1,f2,q⟩:=h
 cases rx
 cases ry
 obtain⟨its,r1,p1,_⟩:=I.list ha
 obtain⟨its2,r2,p2,_⟩:=I.list hb
 have l1:=r1.length
 have l2:=r2.length
 have m1:=t1.length
 have m2:=t2.length
 by_cases hz:ts.length=rs.length
 .refine SeqAt.RcNeAt.lists p1.isList p2.isList (by rw[Ao,Ao];lia) (by lia) (qw4 I (by have:X.A.in1.units=X.A.units+1:=rfl;lia) r1 r2 t1 t2 f1 f2) _ _ _ _ ?_
  rw[Ao,<- l1,m1,qql hz]
  exact⟨.bl (!qml ts rs),H,I,rfl,q⟩
 .refine SeqAt.RcNeAt.lists_lengths p1.isList p2.isList (bne_iff_ne.mpr (by rw[Ao,Ao];lia)) (by lia) _ _ _ _ ?_
  rw[qnr hz]at q
  exact⟨.bl true,H,I,rfl,q⟩
theorem qjp {K:Ae}(h:X.K=K):IxR X (rIxT K):=by subst h;exact ja
theorem qns {K:Ae}(h:X.K=K):IxR X (rIxL K):=by subst h;exact jb
end
end Add
namespace Lay
section
variable {W:Type}[DecidableEq W]
noncomputable abbrev Row (W:Type):=Int×Int×W
noncomputable abbrev ends (rs:List (Row W)):List Int:=rs.map λr=>r.2.1
noncomputable def left (rs:List (Row W))(f:Int):List (Row W):=rs.filterMap λr=>if r.1<f then some (r.1,min r.2.1 (f-1),r.2.2) else none
noncomputable def right (rs:List (Row W))(l:Int):List (Row W):=rs.filterMap λr=>if l<r.2.1 then some (max r.1 (l+1),r.2.1,r.2.2) else none
noncomputable def over (rs:List (Row W))(f l:Int)(w:W):List (Row W):=left rs f++(f,l,w)::right rs l
noncomputable def jn1 (told:List (Row W))(r:Row W):List (Row W):=match told.getLast? with
 |some t=>if t.2.2=r.2.2/\t.2.1+1=r.1 then told.dropLast++[(t.1,r.2.1,r.2.2)] else told++[r]
 |none=>told++[r]
noncomputable def Nx (r s:Row W):Prop:=r.2.1<s.1/\(s.1=r.2.1+1->r.2.2≠s.2.2)
noncomputable def jn (rs:List (Row W)):List (Row W):=rs.foldl jn1 []
noncomputable def lay (rs:List (Row W)):List (Row W):=rs.foldl (λlaid r=>over laid r.1 r.2.1 r.2.2) []
noncomputable def ov (rs:List (Row W)):List (Row W):=jn (lay rs)
end
end Lay
namespace Srt
open PySem PySem.W PyProof.Rows
section
variable {n:Nat}{r:Nat->Nat->Bool}
noncomputable abbrev at' (p:Array Nat)(i:Nat):Nat:=p.getD i 0
end
end Srt
namespace Srt
open PySem PySem.W PySem.Calls PyProof.Rows
section
variable {prog:AF}{w:World}{A:AL}{E:Value->Af->Prop}{s:Af}
end
end Srt
namespace Add
open PySem PySem.Spec PyProof.Rows L2 Srt PySem.W
section
variable {X:Cx}{pins:List (Addr×Obj)}{σ:L2.St}{H:Hp}{s:Af}
end
end Add
namespace Mrg
noncomputable abbrev S2:=Int×Int
noncomputable def inB (rs:List S2)(d:Int):Bool:=rs.any λr=>decide (r.1<=d) && decide (d<=r.2)
noncomputable def mg1 (told:List S2)(r:S2):List S2:=match told.getLast? with
 |some t=>if r.1<=t.2+1 then told.dropLast++[(t.1,if r.2 > t.2 then r.2 else t.2)] else told++[r]
 |none=>told++[r]
noncomputable def mg (rs:List S2):List S2:=rs.foldl mg1 []
end Mrg
namespace Add
open PySem PySem.Spec PyProof.Rows L2
theorem qqm {X:Cx}{pins:List (Addr×Obj)}{σ:L2.St}{H:Hp}{s:Af}{h':Heap}{t':Nat}{e it:Addr}(I:Inv X pins σ H s)(k:∀b o,b≠e->b≠it->s.heap.get? b=some o->h'.get? b=some o)(f1:qd6 X pins H e)(f2:qd6 X pins H it) :
  Inv X pins σ H { s with heap:=h',toks:=t' }:=by
 have n1:∀b u,H b=some u->b≠e:=λb u q z=>by rw[z,f1.1]at q;cases q
 have n2:∀b u,H b=some u->b≠it:=λb u q z=>by rw[z,f2.1]at q;cases q
 have out:∀b,b∉[e,it]->b≠e/\b≠it:=λb hb=>⟨λz=>hb (by simp[z]),λz=>hb (by simp[z])⟩
 refine I.step (g':=s.gens) (d':=s.drawn) (ch:=[e,it]) (λb hb=>?_) (λb o _ _ hc q _=>k b o (out b hc).1 (out b hc).2 q) (λb o _ _ hc q _=>⟨o.slots,k b o (out b hc).1 (out b hc).2 q⟩) (λ_ _ _ _ n=>n)
  (λb o hc q=>⟨o,k b o (out b hc).1 (out b hc).2 q⟩) (λ_ _ q=>q) (λ_ _ _ q=>q) (λb ps q=>⟨#[],by rw[q];simp⟩) (λm hm=>?_) (λb u q=>?_) I.bare
 .rcases Ap.mp hb with rfl|hb
  .exact⟨f1.2.2.2.1,f1.2.1,f1.2.2.2.2.1,f1.2.2.2.2.2⟩
  .cases An.mp hb
   exact⟨f2.2.2.2.1,f2.2.1,f2.2.2.2.2.1,f2.2.2.2.2.2⟩
 .obtain⟨o,es,ep,ho,r⟩:=hm
  exact⟨o,es,ep,k _ o (AZ f1.2.1) (AZ f2.2.1) ho,r⟩
 .refine(I.hok b u q).stay (λc v hc z=>k c v ?_ ?_ z) (λ_ z=>z) λ_ _ z=>z
  .rcases hc with rfl|hc
   .exact n1 _ u q
   .exact n1 c _ hc
  .rcases hc with rfl|hc
   .exact n2 _ u q
   .exact n2 c _ hc
noncomputable def Ite (K:Ae)(a:Addr):It :=
 ⟨λi H=>∃xs x,SqL K H a xs/\xs[i]?=some x,λi H x H'=>∀xs,SqL K H a xs->∃y t,xs[i]?=some y/\H t=none/\x=.ref t/\H'=upd H t (.tup [.int i,y]),λi H=>∃xs,SqL K H a xs/\xs.length<=i⟩
theorem qun {X:Cx}{pins:List (Addr×Obj)}{H:Hp}{b t:Addr}{o:HO}(f:qd6 X pins H b)(ne:b≠t):qd6 X pins (L2.upd H t o) b:=⟨by rw[ze ne];exact f.1,f.2⟩
theorem qrv {P:AF}{w:World}{K:Ae}{es:List Expr}{kk pos}(a e it:Addr)(hne:e≠it):Turn P w K (.Tuple es kk pos) (Ite K a) [e,it] e (λi h=>∃old,IsEnum h e it i old/\h.IsListIter it a i) where
 mem:=by simp
 obj:=λi h st b hb=>by
  obtain⟨old,h1,o,h2,c,d⟩:=st
  rcases Ap.mp hb with rfl|hb
  .exact⟨_,h1,λv z=>by cases z⟩
  .cases An.mp hb
   exact⟨o,h2,λv z=>by rw[d]at z;cases z⟩
 keep:=λi h h' st k=>by
  obtain⟨old,h1,h2⟩:=st
  exact⟨old,k e (by simp) _ h1,h2.at λo q=>k it (by simp) o q⟩
 item:=by
  intro X hP hw hK hc i pins s σ H E I hf st hg
  subst hP hw hK
  obtain⟨old,he,hit⟩:=st
  obtain⟨xs,x,hq,hx⟩:=hg
  obtain⟨its,rv,p,hz⟩:=I.list hq
  obtain⟨u,hu,ru⟩:=rv.get hx
  have f1:=hf e (by simp)
  have f2:=hf it (by simp)
  refine wpAny_pyNext_enum_item he hit p.isList (x:=u) (by simpa using hu) hne λh1 ho hit1 ht hsz keep=>⟨_,rfl,?_⟩
  refine wpAny_letOwnedTupleGo_enum ho λh2 he2 sb=>?_
  replace sb:Bc e h1 h2:=sb
  have hel:e<s.heap.objs.size:=Aw he
  obtain⟨oi,hoi,_⟩:=id hit
  have hil:it<s.heap.objs.size:=Aw hoi
  have ht2:h2.get? s.heap.objs.size=some { cls:=.type "tuple",data:=.seq #[.int i s.toks,u] }:=(sb.2 _ (Cq hel)).trans ht
  have hfr:H s.heap.objs.size=none:=I.hok.fresh (Ax _)
  have I1:=I.laid (a:=s.heap.objs.size) (o:=.tup [.int i,x]) (h':=s.heap.push { cls:=.type "tuple",data:=.seq #[.int i s.toks,u] }) (t':=s.toks) (λb o q=>Ah _ q) (Ax _) ⟨show 2<=A0 by rw[Bg];decide,[.int i s.toks,u],.cons ⟨_,rfl⟩ (.cons ru .nil),⟨_,Au _ rfl,rfl,_,rfl⟩⟩
  have I2:=qqm (h':=h2) (t':=s.toks+1) I1 (λb o n1 n2 q=>by
   by_cases z:b=s.heap.objs.size
   .subst z
    rw[Au _ rfl]at q
    cases q
    exact ht2
   .rw[Heap.get?_push_ne _ _ _ z]at q
    exact(sb.2 b n1).trans (keep b o n1 n2 q)) (qun f1 (AD hel)) (qun f2 (AD hil))
  refine⟨.ref s.heap.objs.size,_,I2,rfl,λys hy=>?_,⟨u,he2,hit1.at λo q=>(sb.2 it (AZ hne)).trans q⟩,λb hb=>?_⟩
  .rw[I.list_inj hy hq]
   exact⟨x,_,hx,hfr,rfl,rfl⟩
  .rcases Ap.mp hb with rfl|hb
   .rw[ze (AD hel)];exact f1.1
   .cases An.mp hb
    rw[ze (AD hil)];exact f2.1
 done:=by
  intro X hP hw hK hc i pins s σ H E I hf st hg
  subst hP hw hK
  obtain⟨old,he,hit⟩:=st
  obtain⟨xs,hq,hx⟩:=hg
  obtain⟨its,rv,p,hz⟩:=I.list hq
  have hl:=rv.length
  have f1:=hf e (by simp)
  have f2:=hf it (by simp)
  exact wpAny_pyNext_enum_end (I.ok.hd hc) he hit p.isList (by simp;lia) λh' eb=>⟨rfl,qqm (t':=s.toks) I (λb o n1 n2 q=>eb b o n2 q) f1 f2⟩
 self:=λA i s Q E st h=>by
  obtain⟨old,he,hit⟩:=st
  exact wpAny_pyIter_enum he h
noncomputable def iEnum (K:Ae)(ta:TA):TI:=λσ H R=>ta σ H λvs H1=>∃a xs,vs=[.ref a]/\H1 a=some (.lst xs)/\R (Ite K a) H1
theorem qrw:bootBuiltins "enumerate" = some (.type "enumerate"):=Ek
theorem qqn {X:Cx}{es:List Expr}{kk:_}{pos':Pos}{a:Expr}{ta:TA}{p pos:Pos}(hg:Gl X "enumerate")(hm:X.mg "enumerate" = none)(ha:PA X [a] ta)(hs:starEach [a] X.env=[(false,eval a X.env)]:=by rfl):PI X (.Tuple es kk pos') (.Call (.Name "enumerate" p) [a] [] pos) (iEnum X.K ta):=by
 intro pins s σ H R I h
 refine Call_ (qee I hg hm qrw (Bv (thn (ha pos pins s σ H _ I h) λus s1 ⟨vs,H1,I1,r1,q1⟩=>?_) hs rfl))
 obtain⟨l,xs,e,hl,q⟩:=q1
 subst e
 obtain⟨u,rfl,hu⟩:=qe0 r1
 cases qhh hu
 obtain⟨z,its,n,rv,hz,e⟩:=I1.lstM hl
 refine call_enumerate_1 e λh' he hit hsz keep=>wpAny_pyIter_enum he ?_
 have I2:Inv X pins σ H1 { s1 with heap:=h' }:=I1.kept (t':=s1.toks) keep
 refine⟨s1.heap.objs.size+1,[s1.heap.objs.size+1,s1.heap.objs.size],_,_,H1,rfl,I2,qrv l _ _ (Cq (Cb _)),⟨.none,he,hit⟩,λb hb=>?_,q⟩
 rcases Ap.mp hb with rfl|hb
 .exact I1.fpOk (Ck _) (I1.hok.fresh (Ck _))
 .cases An.mp hb
  exact I1.fpOk (Ax _) (I1.hok.fresh (Ax _))
theorem qnt {K:Ae}{a:Addr}{xs:List V}{g:TG}{tb:TS}{D:Ends}{σ:L2.St}{H:Hp}(Pv:Nat->L2.St->Hp->Prop)(h0:Pv 0 σ H)(hl:∀i σ H,i<=xs.length->Pv i σ H->SqL K H a xs)
  (hs:∀i x t σ H,xs[i]?=some x->Pv i σ H->H t=none->g (.ref t) σ (upd H t (.tup [.int i,x])) λσ2 H2=>tb { D with nx:=Pv (i+1),ct:=Pv (i+1),bk:=D.nx } σ2 H2) (hd:∀σ H,Pv xs.length σ H->D.nx σ H) :
  ∃W:Nat->Nat->L2.St->Hp->Prop,(∃m,W 0 m σ H)/\∀i m σ H,W i m σ H ->
   ((Ite K a).stop i H/\D.nx σ H)\/((Ite K a).go i H/\∃N:L2.St->Hp->Prop,(∀σ' H',N σ' H'->∃m',m'<m/\W (i+1) m' σ' H')/\∀x H',(Ite K a).yld i H x H'->g x σ H' λσ2 H2=>tb { D with nx:=N,ct:=N,bk:=D.nx } σ2 H2):=by
 refine⟨λi m σ H=>m=xs.length-i/\i<=xs.length/\Pv i σ H,⟨xs.length,by simp,Bs _,h0⟩,?_⟩
 rintro i m σ H ⟨rfl,hi,p⟩
 have hq:=hl i σ H hi p
 by_cases hlt:i<xs.length
 .have ex:xs[i]?=some xs[i]:=by simp[hlt]
  refine .inr ⟨⟨xs,xs[i],hq,ex⟩,Pv (i+1),λσ' H' n=>⟨xs.length-(i+1),by lia,rfl,hlt,n⟩,λx H' hy=>?_⟩
  obtain⟨y,t,e1,ht,rfl,rfl⟩:=hy xs hq
  exact hs i y t σ H e1 p ht
 .have e:i=xs.length:=by lia
  subst e
  exact .inl ⟨⟨xs,hq,Ax _⟩,hd σ H p⟩
end Add
namespace Add
open PySem PySem.Spec PyProof.Rows L2
section
variable {X:Cx}
theorem quo (bs:List Bool):((Bh bs.length).any λj=>(bs[j]?).getD true)=bs.any λb=>b:=by
 rw[C6,List.any_eq_true,List.any_eq_true]
 constructor
 .rintro⟨j,hj,e⟩
  have hj':j<bs.length:=by simpa using hj
  rw[Ak hj']at e
  exact⟨bs[j],Bb hj',e⟩
 .rintro⟨b,hb,e⟩
  obtain⟨j,hj,rfl⟩:=List.getElem_of_mem hb
  exact⟨j,by simpa using hj,by rw[Ak hj];exact e⟩
theorem qrx (hc:X.calm=true):qdw X (.builtin "any") (λxs H Q=>∃(p:Addr)(bs:List Bool),xs=[V.ref p]/\SqL X.K H p (bs.map V.bl)/\Q (.bl (bs.any λb=>b)) H):=by
 intro pins s σ H xs us Q I r h
 obtain⟨p,bs,rfl,hS,q⟩:=h
 obtain⟨u,rfl,ru⟩:=Vals.one r
 cases ru
 obtain⟨its,rv,pl,hz⟩:=I.list hS
 have hl:=rv.length
 rw[Ac]at hl
 have hne:p≠s.heap.objs.size:=by
  obtain⟨o,ho,_⟩:=pl.isList
  exact AD (Aw ho)
 refine call_any_walk (Dr pl.isList ⟨s.heap.objs.size,_,_,its.toArray.size,_,_,λj=>(bs[j]?).getD true,rfl,Walks.list (show X.A.in1.handled=none from I.ok.hd hc) _ p hne its.toArray,
  ⟨⟨_,Au _ rfl,rfl,rfl⟩,pl.isList.at λo e=>Ah _ e⟩,?_,λh' tk hk=>?_⟩)
 .intro i v s' Q' E' hv hq
  have hv':its[i]?=some v:=by simpa using hv
  cases e:bs[i]? with
  |none =>
   exfalso
   have h1:its.length<=i:=by rw[<- hl];exact B6.mp e
   rw[B6.mpr h1]at hv'
   cases hv'
  |some b =>
   obtain⟨u,hu,ru⟩:=rv.get (i:=i) (x:=.bl b) (by rw[Ai,e];rfl)
   rw[hv']at hu
   cases hu
   cases (show v=Value.bool b from ru)
   dsimp only at hq
   rw[e]at hq
   exact BG hq
 .refine⟨.bl _,H,I.kept (t':=tk) λb o e=>hk b o (λz=>?_) (Ah _ e),rfl,?_⟩
  .have z':b=s.heap.objs.size:=by simpa using z
   exact absurd (Aw e) (by rw[z'];exact B4 _)
  .have e:its.toArray.size=bs.length:=by rw[Ao,hl]
   rw[e,quo]
   exact q
theorem gk_tup {K:Ae}{n:Nat}{t:TGs}(ht:∀xs σ' H' R R',(∀σ3 H3,R σ3 H3->R' σ3 H3)->t xs σ' H' R->t xs σ' H' R')(x:V)(σ':L2.St)(H':Hp)(R R':L2.St->Hp->Prop)(h:∀σ3 H3,R σ3 H3->R' σ3 H3)(z:qwd K n t x σ' H' R):qwd K n t x σ' H' R':=by
 obtain⟨a,xs,e,hq,hl,z⟩:=z
 exact⟨a,xs,e,hq,hl,ht _ _ _ _ _ h z⟩
end
structure FunD (K:Ae)(x qual:Str)(st:Stmt)(f:Addr)(fd:AB):Prop where
 ex:∃(oc dV kV doc pm cdv ct:Value)(od an:Option Addr)(osl:Array (Option Value)),
  fd=B1 x qual (qbu st) (qbd st) (qaa st) dV kV doc pm an cdv ct/\K.lookup f=some ⟨oc,od,.func fd,osl⟩/\Ci K cdv qual=true
 kp:Bj K (.ref f)=true
section
variable {P:AF}{w:World}{K:Ae}{mg:Str->Option Value}{base:Heap}
theorem FunD.ok {x qual:Str}{st:Stmt}{f:Addr}{fd:AB}{N ps:List Str}{k:Nat}{sp:Sp}(F:FunD K x qual st f fd)(S:FnScope N ps (qaa st))(len:∀vs H Q E,sp vs H Q E->vs.length=ps.length)
  (hbody:∀(cdv:Value)(A:AL)(outer:List Env)(s:Af)(H:Hp)(vs:List V)(Q:VK)(E:XK),Room k (A.deeper (envOfC qual (qaa st) s.heap.objs.size f cdv))->sp vs H Q E ->
   ∃t,PSs (qmd CX0 P w K mg base N qual (qaa st) f cdv A outer s H E).nox (qbd st) t/\t { nx:=λ_ H'=>Q .non H',rt:=Q } (qfh N vs) H):FnOk P w K mg base CX0 (k+1) f fd ps sp:=by
 obtain⟨oc,dV,kV,doc,pm,cdv,ct,od,an,osl,rfl,lk,hcd⟩:=F.ex
 refine qtp lk hcd S len λA outer s H vs Q E hr hsp=>?_
 obtain⟨t,h,q⟩:=hbody cdv A outer s H vs Q E hr hsp
 exact⟨t,h.nox,q⟩
theorem qw6 {x qual:Str}{st:Stmt}{f:Addr}{oc:Value}{od an:Option Addr}{osl:Array (Option Value)}{dV kV doc pm cdv ct:Value}(l:K.lookup f=some ⟨oc,od,.func (B1 x qual (qbu st) (qbd st) (qaa st) dV kV doc pm an cdv ct),osl⟩)
  (c:Ci K cdv qual=true) (k:Bj K (.ref f)=true):FunD K x qual st f (B1 x qual (qbu st) (qbd st) (qaa st) dV kV doc pm an cdv ct):=⟨⟨oc,dV,kV,doc,pm,cdv,ct,od,an,osl,rfl,l,c⟩,k⟩
theorem qup {fd:AB}{ps:List Str}{ds:List Value}(h:∀us:List Value,(us++ds).length=ps.length->∀S,PySem.W.peek K S (bindArgs fd ⟨us,[]⟩)=some (ps.zip (us++ds))):Binds K fd ps ds:=λs us X hl=>PySem.W.kp_binds X (h us hl)
end
structure MethD (K:Ae)(x qual:Str)(st:Stmt)(ps:List Str)(f:Addr)(fd:AB):Prop where
 fn:FunD K x qual st f fd
 bd:Binds K fd ps []
 ty:Cr K (.ref f)=some (.type "function")
section
variable {X:Cx}{a b c d:Expr}{ta tb tc td:TE}{pos:Pos}
end
theorem qw7 {X:Cx}{K:Ae}(hK:X.K=K){es:List Expr}{kk:_}{pos:Pos}{t:TGs}{n:Nat}(hc:X.calm=true)(h:PGs X es t)
  (hn:(assignEach es X.env).length=n:=by rfl) (hst:(assignEach es X.env).findIdx? (·.1)=none:=by rfl):PG X (.Tuple es kk pos) (qwd K n t):=by
 subst hK;exact qmb hc h hn hst
end Add
namespace Tab
open Mrg Lay
noncomputable def fy (wk:List Int)(yr:List S2)(i:Int):Bool:=wk.contains (i % 7+1) || inB yr i
noncomputable def opn (bs:List Bool)(k:Nat):Int:=(((bs.take k).filter λb=>!b).length:Nat)
end Tab
namespace Add
open PySem PySem.Spec PyProof.Rows L2
section
variable {X:Cx}{tg:Expr}
end
end Add
namespace Rev
open PySem PyProof.Rows
set_option maxRecDepth 100000
theorem no_len:typeLookup (.type "list_reverseiterator") "__len__" = pure none:=by rw[DJ,CG];kernel_rfl
theorem quq:typeLookup (.type "list_reverseiterator") "__length_hint__" = pure (some (.builtin "list_reverseiterator.__length_hint__")):=by rw[DJ,CG];kernel_rfl
section
variable {prog:AF}{w:World}{A:AL}{s:Af}{R:Result->Af->Prop}{E:Value->Af->Prop}
variable {I:Addr}{fp wr:List Addr}{G:Array GenState->Array GenState->Prop}{n:Nat}{P:Nat->Value->Prop}{St:Nat->Af->Prop}
theorem qw8 {x:Value}{Q:Bool->Af->Prop}(hT:s.TypeIs x "list_reverseiterator")(h:Q false s):wpAny (model prog w) A (AG.List.listLengthHint x) Q E s:=by
 unfold AG.List.listLengthHint
 refine Aa (wpAny_specialOf hT no_len ?_)
 show wpAny _ A (specialOf x (Ab "__length_hint__") >>= _) _ _ _
 refine Aa (wpAny_specialOf hT quq ?_)
 generalize hid:("list_reverseiterator.__length_hint__" : String)=id0
 wp_delta
 rw[show splitId id0=some ("list_reverseiterator", "__length_hint__") from by subst hid;decide +kernel]
 subst hid
 refine Aa (Ec (b:=true) hT (by rw[isSubtype_type];kernel_rfl) ?_)
 exact Al h
theorem qry (W:WalksS prog w A.in1 I fp wr G n P St)(hT:∀i s,St i s->s.TypeIs (.ref I) "list_reverseiterator")(S:Addr)(res:Value)(c₀:Nat)(hst:St 0 s)(hSf:S∉fp)(hI:I∈fp)
  (hS:s.heap.get? S=some { cls:=.type "list",data:=.seq #[] c₀ })
  (hR:∀s' acc' c',Moved (S::wr) G s s'->s'.heap.get? S=some { cls:=.type "list",dict:=none,data:=.seq acc' c',slots:=#[] }->ItemsOf P acc' n->R (.ok (.ret res)) s') (hn:n<=A0) :
  wpAny (model prog w) A.in1 (AG.List.listExtendWith (.ref S) (.ref I) res)
   (λfin s'=>match fin with | .done f=>R (.ok f) s' | .again c'=>c'.quiet=true/\codeAny (model prog w) A c' R s') (λe s'=>R (.error e) s') s:=by
 have hSI:S≠I:=λe=>hSf (e ▸ hI)
 unfold AG.List.listExtendWith
 refine Aa (wpAny_typeOf (hT 0 _ hst) ?_)
 have h1:AG.List.listSameRef (.ref S) (.ref I)=false:=by simp[AG.List.listSameRef,hSI]
 have h2:(BK "list_reverseiterator" == BK "list")=false:=by decide
 have h3:(BK "list_reverseiterator" == BK "tuple")=false:=by decide
 simp only[h1,h2,h3,Bool.or_false,Df,if_false]
 refine Aa (W.self 0 _ _ _ hst ?_)
 refine Aa (BC (qw8 (hT 0 _ hst) ?_))
 rw[if_neg En]
 exact Al ⟨plainId_quiet F.plain_extend_loop _,codeAny_extend_loopS W hn _ hSf _ n 0 _ _ _ rfl (Bs _) hst hS (ItemsOf.nil P) λs' acc' c' hm hS' hacc=>hR s' acc' c' hm hS' hacc⟩
theorem qw9 (W:WalksS prog w A.in1 I fp wr G n P St)(hT:∀i s,St i s->s.TypeIs (.ref I) "list_reverseiterator")(S:Addr)(hst:St 0 s)(hSf:S∉fp)(hI:I∈fp)
  (hS:s.heap.get? S=some { cls:=.type "list",data:=.seq #[] })
  (hR:∀s' acc' c',Moved (S::wr) G s s'->s'.heap.get? S=some { cls:=.type "list",dict:=none,data:=.seq acc' c',slots:=#[] }->ItemsOf P acc' n->R (.ok (.ret .none)) s') (hn:n<=A0) :
  wpAny (model prog w) A.in1 (AG.«list.__init__» ⟨[.ref S,.ref I],[]⟩)
   (λfin s'=>match fin with | .done f=>R (.ok f) s' | .again c'=>c'.quiet=true/\codeAny (model prog w) A c' R s') (λe s'=>R (.error e) s') s:=by
 show wpAny _ A.in1 (AG.List.listItems (.ref S) >>= λold=>AG.List.listUpdate (.ref S) (λ_=>#[]) >>= λ_=>letGo old.toList.reverse >>= λ_=>AG.List.listExtendWith (.ref S) (.ref I) .none) _ _ s
 refine Aa ?_
 unfold AG.List.listItems
 refine Aa (BZ hS rfl (Al ?_))
 refine Aa (wpAny_updateSeq hS rfl ?_)
 have hS2:=Bd (CC (λ_=>(#[]:Array Value))) hS rfl
 have oth:∀b o,b≠S->s.heap.get? b=some o->(s.heap.update S (CC (λ_=>(#[]:Array Value)))).get? b=some o:=λb o hb e=>(Bm _ _ (AZ hb)).trans e
 refine Aa (wpAny_letGo ?_)
 refine qry W hT S .none _ (W.frame 0 s _ s.toks hst (Ax _) λb hb o e=>oth b o (λh=>hSf (h ▸ hb)) e) hSf hI hS2 (λs' acc' c' hm hS' hacc=>?_) hn
 exact hR s' acc' c' (Moved.trans W.gtrans ((Moved.refl W.grefl).then_heap (Ax _) λb o hb e=>oth b o (λh=>hb (h ▸ Am)) e) hm) hS' hacc
theorem list_ok {Q:Value->Af->Prop}(W:WalksS prog w A.in1.in1 I fp wr G n P St)(hT:∀i s,St i s->s.TypeIs (.ref I) "list_reverseiterator")(hst:St 0 s)(hfp:∀b∈fp,b<s.heap.objs.size)(hI:I∈fp)
  (hQ:∀s' acc' c',Moved (s.heap.objs.size::wr) G { s with heap:=s.heap.push { cls:=.type "list",data:=.seq #[] } } s' ->
   s'.heap.get? s.heap.objs.size=some { cls:=.type "list",dict:=none,data:=.seq acc' c',slots:=#[] }->ItemsOf P acc' n->Q (.ref s.heap.objs.size) s') (hn:n<=A0) :
  wpAny (model prog w) A (call (.type "list") [.ref I]) Q E s:=by
 have hSf:s.heap.objs.size∉fp:=λhm=>B4 _ (hfp _ hm)
 refine callType_codes (Q₁:=λobj s₁=>obj=.ref s.heap.objs.size/\s₁={ s with heap:=s.heap.push { cls:=.type "list",data:=.seq #[] } }) F.called_list (F.typeCall_list_1 _) F.entry_list_init (code_list_new _ ⟨rfl,rfl⟩) λobj s₁ h₁=>?_
 obtain⟨rfl,rfl⟩:=h₁
 have hS:(s.heap.push { cls:=.type "list",data:=.seq #[] }).get? s.heap.objs.size=some { cls:=.type "list",data:=.seq #[] }:=Au _ rfl
 exact⟨⟨_,hS,rfl⟩,F.args_list_init_2 _ _,qw9 W hT _ (W.frame 0 s _ s.toks hst (Ax _) λb _ o e=>Ah _ e) hSf hI hS (λs' acc' c' hm hS' hacc=>⟨rfl,hQ s' acc' c' hm hS' hacc⟩) hn⟩
end
end Rev
namespace Add
open PySem PySem.Spec PyProof.Rows L2
theorem qk7:bootBuiltins "reversed" = some (.type "reversed"):=Ek
theorem qrz {xs:List V}{us:List Value}{x:V}{u:Value}(h:Vals xs us)(r:RelV x u):Vals (xs++[x]) (us++[u]):=by
 induction h with
 |nil=>exact .cons r .nil
 |cons r' _ ih=>exact .cons r' ih
theorem qur {xs:List V}{us:List Value}(h:Vals xs us):Vals xs.reverse us.reverse:=by
 induction h with
 |nil=>exact .nil
 |cons r _ ih=>rw[List.reverse_cons,List.reverse_cons];exact qrz ih r
theorem qr0 {its:List Value}{acc:Array Value}(h:ItemsOf (λi v=>its.toArray[its.toArray.size-1-i]?=some v) acc its.toArray.size):acc=its.reverse.toArray:=by
 obtain⟨h1,h2⟩:=h
 have e:acc.toList=its.reverse:=by
  refine Bq λi=>?_
  have hs:acc.size=its.length:=by rw[h1];simp
  by_cases c:i<its.length
  .have hi:i<acc.size:=by lia
   have hg:acc[i]?=some acc[i]:=B7 hi
   have:=h2 i _ hg
   rw[Cz,hg,<- this,Ea c]
   simp
  .rw[AO (by rw[A6];lia),AO (by rw[DA];lia)]
 rw[<- e]
section
variable {X:Cx}
noncomputable def tLR (K:Ae)(t:TA):TE:=λσ H Q=>t σ H λvs H1=>∃l ys,vs=[.ref l]/\SqL K H1 l ys/\∀q,H1 q=none->Q (.ref q) (upd H1 q (.lst ys.reverse))
theorem qj7 {e:Expr}{t:TA}{p p2 pos pos2:Pos}(hca:X.calm=true)(hgl:Gl X "list")(hml:X.mg "list" = none)(hgr:Gl X "reversed")(hmr:X.mg "reversed" = none)(hbl:bootBuiltins "list" = some (.type "list"))(ha:PA X [e] t)
  (he:starEach [e] X.env=(false,eval e X.env)::starEach [] X.env:=by rfl):PE X (.Call (.Name "list" p) [.Call (.Name "reversed" p2) [e] [] pos2] [] pos) (tLR X.K t):=by
 intro pins s σ H Q I h
 refine B0 (qee I hgl hml hbl ?_)
 refine Bv ?_ rfl rfl
 show wpAny _ _ (spliced ((false,eval (.Call (.Name "reversed" p2) [e] [] pos2) X.env)::[])) _ _ s
 refine Dd ?_
 refine B0 (qee I hgr hmr qk7 ?_)
 refine Bv (thn (ha pos2 pins s σ H _ I h) λus s1 ⟨vs,H1,I1,r1,q1⟩=>?_) he rfl
 obtain⟨l,ys,rfl,hq,q⟩:=q1
 obtain⟨u,rfl,rx⟩:=qe0 r1
 cases rx
 obtain⟨its,r',pl,hz⟩:=I1.list hq
 refine call_reversed_list pl.isList (Dt ?_)
 have hl1:=pl.isList
 have hll:l<s1.heap.objs.size:=by obtain⟨o,ho,_⟩:=hl1;exact Aw ho
 have hh:X.A.handled=none:=I.ok.hd hca
 have W:=(Walks.listRev (prog:=X.prog) (w:=X.w) (A:=X.A.in1.in1) hh s1.heap.objs.size l (AD hll) its.toArray).toS
 refine Rev.list_ok W (λi s st=>st.2.1.typeIs) ⟨Bs _,?_,hl1.at λo e=>Ah _ e⟩ (λb hb=>?_) (by simp) (λs' acc' c' hm hS' hacc=>?_) ?_
 .refine⟨_,Au _ rfl,rfl,?_⟩
  rw[show ((its.toArray.size:Nat):Int)-1-((0:Nat):Int)=(its.toArray.size:Int)-1 by lia]
  rfl
 .show b<(s1.heap.push _).objs.size
  rw[Bp]
  rcases Ap.mp hb with z|z
  .rw[z];exact Cb _
  .rw[An.mp z];exact Cs hll
 .have sz:(s1.heap.push (revObj l ((its.toArray.size:Int)-1))).objs.size=s1.heap.objs.size+1:=Bp _ _
  have kp:∀b o,s1.heap.get? b=some o->s'.heap.get? b=some o:=λb o e=>by
   have hb:=Aw e
   refine hm.heap b o (λz=>?_) (Ah _ (Ah _ e))
   rcases Ap.mp z with z|z
   .rw[z]at hb
    exact absurd hb (by show ¬((s1.heap.push (revObj l ((its.toArray.size:Int)-1))).objs.size<s1.heap.objs.size);rw[sz];exact Nat.not_lt_of_le (Ck _))
   .rw[An.mp z]at hb
    exact B4 _ hb
  have es:s'={ s1 with heap:=s'.heap,toks:=s'.toks }:=by
   have g1:=hm.gens
   have g2:=hm.drawn
   have g3:=hm.os
   cases s'
   cases s1
   simp_all
  have le:s1.heap.objs.size<=(s1.heap.push (revObj l ((its.toArray.size:Int)-1))).objs.size:=by rw[sz];exact Ck _
  rw[qr0 hacc]at hS'
  have new:ObjOk X.prog X.w (upd H1 (s1.heap.push (revObj l ((its.toArray.size:Int)-1))).objs.size (.lst ys.reverse)) s'.heap (s1.heap.push (revObj l ((its.toArray.size:Int)-1))).objs.size (.lst ys.reverse) :=
   ⟨by rw[DA];exact hz,its.reverse,c',qur r',hS'⟩
  have I3:=I1.laid (t':=s'.toks) kp le new
  rw[<- es]at I3
  exact⟨.ref _,_,I3,rfl,q _ (I1.hok.fresh le)⟩
 .have:=r'.length
  simp only[Ao]
  lia
end
end Add
namespace Lay
end Lay
namespace Add
open PySem PySem.Spec PyProof.Rows L2
end Add
namespace Add
open PySem PySem.Spec PyProof.Rows L2
section
variable {X:Cx}{CX:CXT}{k:Nat}{f C:Addr}{fd:AB}{ps ks:List Str}{sp:Sp}{E:XK}{x:Str}{p pos:Pos}{e:Expr}{es:List Expr}{kws:List Keyword}{t tk:TA}{g:List Value->List Value->List Value}{gV:List V->List V->List V}
end
noncomputable def g21 {α:Type}(n:α):List α->List α->List α
 | [a,b],[c]=>[a,b,n,c]
 |_,_=>[]
section
variable {X:Cx}
end
section
variable {X:Cx}
noncomputable def ipL:TIp:=λx y H Q=>∃l b xs zs,x=.ref l/\y=.ref b/\H l=some (.lst xs)/\H b=some (.lst zs)/\xs.length+zs.length<=A0/\Q (.ref l) (upd H l (.lst (xs++zs)))
theorem qje:fillsInplaceSlot (.type "list") "add" (Operator.Add == .Add)=pure false:=by
 unfold fillsInplaceSlot
 show (typeLookup (.type "list") (dunderI "add") >>= λfi=>pure (fi.isSome && !isSeqSlot fi))=pure false
 rw[F.slot_list_iadd.lookup]
 rfl
theorem qk8:seqSlot? (.type "list") (dunderI "add")=pure (some (.builtin "list.__iadd__")):=PySem.seqSlot_of F.slot_list_iadd.lookup Ek
theorem qus:PIp X .Add ipL:=by
 intro pins s σ H x y v u Q I rx ry h
 obtain⟨l,b,xs,zs,rfl,rfl,hH,hB,hz,q⟩:=h
 cases rx
 cases ry
 obtain⟨z,its,n,r,hl,e⟩:=I.lstM hH
 obtain⟨z2,its2,n2,r2,hl2,e2⟩:=I.lstM hB
 have hsz:its.toArray.size+its2.toArray.size<=A0:=by rw[Ao,Ao];lia
 have hlong:¬(!its.toArray.isEmpty && AG.List.listTooLong (its.toArray.size+its2.toArray.size))=true:=by
  rw[qna hsz,CZ]
  exact AC
 unfold inplaceOp
 refine BC ?_
 have ta:s.TypeIs (.ref l) "list" := ⟨_,e,rfl⟩
 have tb:s.TypeIs (.ref b) "list" := ⟨_,e2,rfl⟩
 refine Aa (wpAny_typeOf ta (Aa (wpAny_of_eq qje ?_)))
 show wpAny _ _ (if false=true then _ else _) _ _ s
 rw[if_neg AC]
 refine Aa (wpAny_binaryOp1_none (nm := "add") ta tb noFill_list_add ?_)
 refine Aa (wpAny_of_eq qk8 ?_)
 refine Aa (Ed ?_)
 refine DN F.slot_list_iadd ta F.entry_list_iadd (F.args_list_iadd_2 _ _)
  (AutoSeq1.list___iadd___list_list_0 l its.toArray n b its2.toArray n2 hlong (by rw[Ao];lia) (by lia)) ⟨e,e2,?_⟩
 refine⟨.ref l,_,I.lset (its':=its++its2) hH e (by simp) (r.append r2) ?_,rfl,q⟩
 rw[Aj]
 lia
theorem qly {α β:Type}{F:α->β->Prop}:∀{l:List α}{m:List β},l.length=m.length->(∀(j:Nat)(x:α)(u:β),l[j]?=some x->m[j]?=some u->F x u)->DM F l m
 | [],[],_,_=>.nil
 |x::l,u::m,h,f=>.cons (f 0 x u rfl rfl) (qly (Dg h) λj y v hy hv=>f (j+1) y v hy hv)
theorem is_kV {P:AF}{w:World}{k:Key}{u:Value}(h:(qbb P w).is k u=true):RelV (kV k) u:=by
 cases k with
 |inl i=>exact Value.isInt_shape h
 |inr x=>exact D8 h
theorem qo9 (hc:X.calm=true):qdw X (.type "list") (λxs H Q=>∃(d:Addr)(kvs:List (Key×V)),xs=[.ref d]/\H d=some (.dK kvs)/\∀l,H l=none->Q (.ref l) (upd H l (.lst (kvs.map λkv=>kV kv.1)))):=by
 intro pins s σ H xs us Q I r h
 obtain⟨d,kvs,rfl,hd,q⟩:=h
 obtain⟨u,rfl,rx⟩:=qe0 r
 cases rx
 obtain⟨z,lo,vs,kv,hD⟩:=qne I.hok hd
 obtain⟨ep,hat⟩:=hD.dictAt
 refine PySem.W.kdl_call (PySem.W.kdl_dict (knd:=qbb X.prog X.w) (kvs:=vs) (ep:=ep) lo) (I.ok.hd hc) hat (by rw[<- kv.length];exact z) λh' tk acc c kp e ia=>?_
 have rv:Vals (kvs.map λkv=>kV kv.1) acc.toList:=by
  have hl:(kvs.map λkv=>kV kv.1).length=acc.toList.length:=(Ac _).trans (kv.length.trans (ia.1.symm.trans A6.symm))
  refine qly hl λj x u hx hu=>?_
  obtain⟨k,y,hk,hi⟩:=ia.2 j u (by rw[<- Cz];exact hu)
  rw[Ai]at hx
  have ek:=congrArg (·[j]?) kv.keys
  simp only[Ai,hk,Dn]at ek
  cases ej:kvs[j]? with
  |none=>rw[ej]at hx;cases hx
  |some p =>
   rw[ej]at hx ek
   cases hx
   cases A7 ek
   exact is_kV hi
 exact⟨.ref s.heap.objs.size,_,I.laid (t':=tk) kp (Ax _) (show ObjOk X.prog X.w _ h' _ (.lst (kvs.map λkv=>kV kv.1)) from ⟨by rw[Ac];exact z,acc.toList,c,rv,by simpa using e⟩),rfl,q _ (I.hok.fresh (Ax _))⟩
end
noncomputable def KeepN (H H':Hp):Prop:=∀b o,(∀l,o ≠ .lst l)->H b=some o->H' b=some o
theorem KeepN.of {H H':Hp}(s:Same H H'):KeepN H H':=λb o _ e=>s b o e
theorem qr1 {X:Cx}{K:Ae}(h:X.K=K):qdw X (.builtin "isinstance") (λxs H Q=>∃x t c b,xs=[x,.ty c]/\TyOf K H x t/\BN K t (.type c)=some b/\Q (.bl b) H):=by subst h;exact qcn
section
variable {X:Cx}{CX:CXT}{ι:Type}{k:ι->Nat}{f C:ι->Addr}{fd:ι->AB}{ps:ι->List Str}{sp:ι->Sp}{dvs:List V}{ds:List Value}{E:XK}{m:Str}{pos apos:Pos}{e o:Expr}{es:List Expr}{ta:TE}{t:TA}
end
section
variable {X:Cx}
end
section
variable {K:Ae}{C:Addr}
end
section
variable {X:Cx}{tg:Expr}
end
section
variable {X:Cx}
theorem qj8:∀{ss:List Str}{its:List Value},Vals (ss.map V.str) its->StrsAre its ss
 | [],_,.nil=>.nil
 |y::ss,_,.cons a r=>by
  obtain⟨t,rfl⟩:=a
  exact .cons y t (qj8 r)
theorem qnu:∀{ss:List Str}{its:List Value},StrsAre its ss->Vals (ss.map V.str) its
 | [],_,.nil=>.nil
 |_::_,_,.cons y t h=>.cons ⟨t,rfl⟩ (qnu h)
end
section
variable {X:Cx}
noncomputable def qxa:V->List V->Hp->VK->Prop:=λx vs H Q=>∃(l:Addr)(ss:List Str)(k:Str)(j:Nat),x=.ref l/\vs=[.str k]/\H l=some (.lst (ss.map V.str))/\ss[j]?=some k/\(∀m,m<j->ss[m]? ≠ some k)/\Q (.int (j:Int)) H
theorem are_at {its:List Value}{ss:List Str}(r:StrsAre its ss):∀{m:Nat}{z:Str},ss[m]?=some z->∃t,its[m]?=some (.str z t):=by
 induction r with
 |nil=>intro m z h;cases h
 |cons y t _ ih =>
  intro m z h
  cases m with
  |zero=>cases h;exact⟨_,rfl⟩
  |succ m=>exact ih h
theorem qxb {its:List Value}{ss:List Str}(r:StrsAre its ss):its.length=ss.length:=by
 induction r with
 |nil=>rfl
 |cons _ _ _ ih=>rw[At,At,ih]
theorem qr2:MtR X "list.index" qxa:=by
 intro pins s σ H x vs v us Q I rx rv h
 obtain⟨l,ss,k,j,rfl,rfl,hH,hj,hno,q⟩:=h
 cases rx
 obtain⟨u,rfl,ru⟩:=rv.one
 obtain⟨t,rfl⟩:=ru
 obtain⟨z,its,n,r,hl,e⟩:=I.lstM hH
 have sa:=qj8 r
 have la:=qxb sa
 obtain⟨hjl,_⟩:=Ag.mp hj
 rw[Ac,Bg]at z
 have at':∀{m:Nat}(hm:m<its.toArray.size){y:Str},ss[m]?=some y->isStrOf k its.toArray[m]=(y == k):=λ{m} hm {y} h=>by
  obtain⟨t',e'⟩:=are_at sa h
  have:its.toArray[m]=.str y t':=by
   have h2:its[m]?=some its[m]:=by simp
   rw[h2]at e'
   simpa using A7 e'
  rw[this];rfl
 refine DN F.slot_list_index ⟨_,e,rfl⟩ F.entry_list_index (F.args_list_index_2 _ _)
  (SeqAt.list_indexAt l its.toArray n _ _ (.str k t) (isStrOf k) j (by rw[Ao];lia) (by lia) ?_ ?_) ⟨e,λy hy=>(eq_isStrOf k t sa y (by simpa using hy)).at _ _,?_⟩
 .rw[at' _ hj];exact beq_self_eq_true k
 .intro m hm hlt
  obtain⟨y,hy⟩:∃y,ss[m]?=some y:=⟨_,Ak (by lia)⟩
  rw[at' hm hy]
  cases eb:y == k with
  |false=>rfl
  |true=>rw[eq_of_beq eb]at hy;exact absurd hy (hno m hlt)
 .exact⟨.int (j:Int),H,I.tok _,⟨_,rfl⟩,q⟩
end
section
end
section
variable {prog:AF}{w:World}{A:AL}{E:Value->Af->Prop}{s:Af}
theorem qpa {it t:Addr}{i:Nat}{items:Array Value}{x:Value}{Q:Value->Af->Prop}(hi:s.heap.IsTupleIter it t i)(ht:s.heap.IsTuple t items)(hx:items[i]?=some x)
  (hQ:∀h',h'.IsTupleIter it t (i+1)->Bc it s.heap h'->Q x { s with heap:=h' }):wpAny (model prog w) A (AG.SmallTypes.nextOf (.ref it)) Q E s:=by
 obtain⟨o,ho,hc,hd⟩:=id hi
 obtain⟨_,hol,_,_,hdl⟩:=ht
 unfold AG.SmallTypes.nextOf
 refine Aa (B3 (name:=Ab "__next__") hi.typeIs CF (BF CF hi.typeIs F.entry_tuple_iterator_next ?_ (F.args_tuple_iterator_next_1 _)))
 show wpAny _ _ (field (.ref it) 0 >>= _) _ _ s
 refine Aa (BI ho hd (x:=.ref t) rfl ?_)
 show wpAny _ _ (if (Ar t == B5)=true then _ else _) _ _ s
 rw[if_neg (show ¬((Ar t == B5)=true) from AC)]
 show wpAny _ _ (field (.ref it) 1 >>= _) _ _ s
 refine Aa (BI ho hd (x:=.int i 0) rfl ?_)
 show wpAny _ _ (seqItems? (.ref t) >>= _) _ _ s
 refine Aa (BZ hol hdl ?_)
 simp only[Ct,hx]
 exact Aa (BP ho hd (by simp) (Al ⟨x,rfl,Al (hQ _ ⟨_,Bd _ ho (Cy (BL hd _)),(Obj.cls_mapFields ..).trans hc,by rw[BL hd];simp[rawInt]⟩ (Bc.update ..))⟩))
theorem qk9 {it t:Addr}{i:Nat}{items:Array Value}{Q:Value->Af->Prop}(hh:A.handled=none)(hi:s.heap.IsTupleIter it t i)(ht:s.heap.IsTuple t items)(hx:items[i]?=none)
  (hE:∀h' e,DS it s.heap h'->(∃o,h'.get? e=some o/\o.cls=.type "StopIteration")->E (.ref e) { s with heap:=h' }):wpAny (model prog w) A (AG.SmallTypes.nextOf (.ref it)) Q E s:=by
 obtain⟨o,ho,hc,hd⟩:=id hi
 obtain⟨_,hol,_,_,hdl⟩:=ht
 unfold AG.SmallTypes.nextOf
 refine Aa (B3 (name:=Ab "__next__") hi.typeIs CF (BF CF hi.typeIs F.entry_tuple_iterator_next ?_ (F.args_tuple_iterator_next_1 _)))
 show wpAny _ _ (field (.ref it) 0 >>= _) _ _ s
 refine Aa (BI ho hd (x:=.ref t) rfl ?_)
 show wpAny _ _ (if (Ar t == B5)=true then _ else _) _ _ s
 rw[if_neg (show ¬((Ar t == B5)=true) from AC)]
 show wpAny _ _ (field (.ref it) 1 >>= _) _ _ s
 refine Aa (BI ho hd (x:=.int i 0) rfl ?_)
 show wpAny _ _ (seqItems? (.ref t) >>= _) _ _ s
 refine Aa (BZ hol hdl ?_)
 simp only[Ct,hx]
 refine Aa (Ed (Aa (BP ho hd (by simp) ?_)))
 show wpAny _ _ (newExc (.type "StopIteration") [] >>= _) _ _ _
 refine Aa ?_
 simp only[newExc,newTuple]
 refine Aa (Cf (Aa (m:=firstArgMember _ _) (wpAny_of_eq (a:=B5) (by first|rfl | (simp only[firstArgMember];rfl)) (Cf ?_ (by size_fits)))) (by size_fits))
 exact wpAny_raiseNew_none hh (hE _ _ (((Bc.update ..).extBut.push _).push _) ⟨_,Au _ rfl,rfl⟩)
theorem qr3 (hh:A.handled=none)(it t:Addr)(ne:t≠it)(items:Array Value):Draws prog w A it [it,t] items.size (λi v=>items[i]?=some v) (λi h=>h.IsTupleIter it t i/\h.IsTuple t items) where
 live:=λ_ _ st=>let ⟨o,ho,_⟩:=st.1;⟨o,ho⟩
 frame:=λ_ _ _ ⟨⟨o,ho,r⟩,⟨q,hq,r2⟩⟩ hk=>⟨⟨o,hk it (by simp) o ho,r⟩,⟨q,hk t (by simp) q hq,r2⟩⟩
 item:=λi s Q E hi st hQ=>qpa st.1 st.2 (x:=items[i]) (by simp[hi]) λh' h1 h2=>hQ _ h' s.toks (by simp[hi]) ⟨h1,st.2.extBut h2.extBut ne⟩ h2
 done:=λs Q E st hE=>qk9 hh st.1 st.2 (by simp) hE
end
structure Zap (z TI TO i1 i2:Addr)(f1 f2:List Addr):Prop where
 tz:TI≠z
 oz:TO≠z
 to:TI≠TO
 m1:i1∈f1
 m2:i2∈f2
 z1:z∉f1
 z2:z∉f2
 o1:TO∉f1
 o2:TO∉f2
 t1:TI∉f1
 t2:TI∉f2
 x1:i1∉f2
 x2:i2∉f1
noncomputable def qlz (z TI TO i1 i2:Addr)(S1 S2:Nat->Heap->Prop)(f0:Value)(k:Nat)(h:Heap):Prop:=IsZip h z TI TO f0/\Ee h TI (.ref i1) (.ref i2)/\(∃a b,Ee h TO a b)/\S1 k h/\S2 k h
section
variable {prog:AF}{w:World}{A:AL}{E:Value->Af->Prop}{s:Af}{z TI TO i1 i2:Addr}{f1 f2:List Addr}{n n2 k:Nat}{P1 P2:Nat->Value->Prop}{S1 S2:Nat->Heap->Prop}
theorem qut {Q:Value->Af->Prop}(D1:Draws prog w A i1 f1 n P1 S1)(D2:Draws prog w A i2 f2 n2 P2 S2)(ap:Zap z TI TO i1 i2 f1 f2)(st:qlz z TI TO i1 i2 S1 S2 .none k s.heap)(hk:k<n)(hk2:k<n2)
  (hQ:∀h' tk x y,P1 k x->P2 k y->qlz z TI TO i1 i2 S1 S2 (rawInt s.heap.objs.size) (k+1) h'->Ee h' s.heap.objs.size x y->(∀c o,c≠z->c≠TO->c≠i1->c≠i2->s.heap.get? c=some o->h'.get? c=some o)->Q (.ref s.heap.objs.size) { s with heap:=h',toks:=tk }) :
  wpAny (model prog w) A (AG.«zip.__next__» ⟨[.ref z],[]⟩) (λfin s'=>∃v,fin=.done (.ret v)/\Q v s') E s:=by
 obtain⟨hz,hTI,⟨a,b,hTO⟩,h1,h2⟩:=st
 have n1:∀b∈f1,b≠z/\b≠TO/\b≠i2:=λb hb=>⟨λe=>ap.z1 (e ▸ hb),λe=>ap.o1 (e ▸ hb),λe=>ap.x2 (e ▸ hb)⟩
 have m2:∀b∈f2,b≠z/\b≠TO/\b≠i1:=λb hb=>⟨λe=>ap.z2 (e ▸ hb),λe=>ap.o2 (e ▸ hb),λe=>ap.x1 (e ▸ hb)⟩
 have zi1:z≠i1:=λe=>(n1 i1 ap.m1).1 e.symm
 have zi2:z≠i2:=λe=>(m2 i2 ap.m2).1 e.symm
 have oi1:TO≠i1:=λe=>(n1 i1 ap.m1).2.1 e.symm
 have oi2:TO≠i2:=λe=>(m2 i2 ap.m2).2.1 e.symm
 have ti1:TI≠i1:=λe=>ap.t1 (e ▸ ap.m1)
 have ti2:TI≠i2:=λe=>ap.t2 (e ▸ ap.m2)
 show wpAny _ _ (field (.ref z) 2 >>= _) _ _ _
 refine Aa (BI hz rfl (x:=.bool false) rfl ?_)
 show wpAny _ _ (field (.ref z) 3 >>= _) _ _ _
 refine Aa (BI hz rfl (x:=.ref TI) rfl (Aa (BZ hTI rfl ?_)))
 show wpAny _ _ (AG.SmallTypes.ownedTupleIsFree (.ref z) >>= _) _ _ _
 refine Aa ?_
 unfold AG.SmallTypes.ownedTupleIsFree
 refine Aa (BI hz rfl (x:=.none) rfl (Al ?_))
 simp only[if_true]
 refine Aa (Ed (Aa (BI hz rfl (x:=.ref TO) rfl (Aa (Dh hz (by simp) λh3 hz3 b3=>Aa ?_)))))
 have z3:IsZip h3 z TI TO .ellipsis:=hz3
 simp only[List.zipIdx_cons,List.zipIdx_nil,List.forIn_cons,List.forIn_nil]
 refine Aa (Aa (wpAny_onRaise (Aa (D1.item k _ _ _ hk (D1.frame _ _ _ h1 λb hb o e=>b3.extBut b o (n1 b hb).1 e) λx h4 tk px s4 b4=>Al ?_))))
 have o4:Ee h4 TO a b:=b4.extBut _ _ oi1 (b3.extBut _ _ ap.oz hTO)
 refine Aa (BZ o4 rfl (Aa (wpAny_updateSeq_pair o4 λh5 ho5 b5=>Aa (wpAny_letGo (Al ?_)))))
 have o5:Ee h5 TO x b:=ho5
 refine Aa (Aa (wpAny_onRaise (Aa (D2.item k _ _ _ hk2 (D2.frame _ _ _ h2 λb hb o e=>b5.extBut b o (m2 b hb).2.1 (b4.extBut b o (m2 b hb).2.2 (b3.extBut b o (m2 b hb).1 e))) λy h6 tk2 py s6 b6=>Al ?_))))
 have o6:Ee h6 TO x b:=b6.extBut _ _ oi2 o5
 refine Aa (BZ o6 rfl (Aa (wpAny_updateSeq_pair o6 λh7 ho7 b7=>Aa (wpAny_letGo (Al (Al ?_))))))
 have o7:Ee h7 TO x y:=ho7
 have sz:h7.objs.size=s.heap.objs.size:=by rw[b7.1,b6.1,b5.1,b4.1,b3.1]
 have kp:∀c o,c≠z->c≠TO->c≠i1->c≠i2->s.heap.get? c=some o->h7.get? c=some o:=λc o c1 c2 c3 c4 e=>b7.extBut _ _ c2 (b6.extBut _ _ c4 (b5.extBut _ _ c2 (b4.extBut _ _ c3 (b3.extBut _ _ c1 e))))
 have z7:IsZip h7 z TI TO .ellipsis:=b7.extBut _ _ ap.oz.symm (b6.extBut _ _ zi2 (b5.extBut _ _ ap.oz.symm (b4.extBut _ _ zi1 z3)))
 refine Aa (BZ o7 rfl (Aa (wpAny_newTuple (Aa ?_))))
 unfold AG.SmallTypes.ownedTupleHandOut
 refine Aa (Dh (Ah _ z7) (by simp) λh8 hz8 b8=>?_)
 have z8:IsZip h8 z TI TO (rawInt h7.objs.size):=hz8
 refine Dh z8 (by simp) λh9 hz9 b9=>Al ⟨_,rfl,?_⟩
 have z9:IsZip h9 z TI TO (rawInt h7.objs.size):=hz9
 have up:∀c o,c≠z->h7.get? c=some o->h9.get? c=some o:=λc o c1 e=>b9.extBut _ _ c1 (b8.extBut _ _ c1 (Ah _ e))
 have zl:z<h7.objs.size:=Aw z7
 have p9:Ee h9 h7.objs.size x y:=b9.extBut _ _ (Cq zl) (b8.extBut _ _ (Cq zl) (Au _ rfl))
 show Q (.ref h7.objs.size) _
 rw[sz]at z9 p9 |-
 refine hQ h9 _ x y px py ⟨z9,up _ _ ap.tz (kp _ _ ap.tz ap.to ti1 ti2 hTI),⟨x,y,up _ _ ap.oz o7⟩,?_,?_⟩ p9 λc o c1 c2 c3 c4 e=>up c o c1 (kp c o c1 c2 c3 c4 e)
 .exact D1.frame _ _ _ s4 λb hb o e=>up b o (n1 b hb).1 (b7.extBut _ _ (n1 b hb).2.1 (b6.extBut _ _ (n1 b hb).2.2 (b5.extBut _ _ (n1 b hb).2.1 e)))
 .exact D2.frame _ _ _ s6 λb hb o e=>up b o (m2 b hb).1 (b7.extBut _ _ (m2 b hb).2.1 e)
theorem qxc {Q:Fin->Af->Prop}(D1:Draws prog w A i1 f1 n P1 S1)(m1:i1∈f1)(z1:z∉f1)(st:qlz z TI TO i1 i2 S1 S2 .none n s.heap)
  (hE:∀h' e,(∀c o,c≠z->c≠TO->c≠i1->c≠i2->s.heap.get? c=some o->h'.get? c=some o)->(∃o,h'.get? e=some o/\o.cls=.type "StopIteration")->E (.ref e) { s with heap:=h' }) :
  wpAny (model prog w) A (AG.«zip.__next__» ⟨[.ref z],[]⟩) Q E s:=by
 obtain⟨hz,hTI,⟨a,b,hTO⟩,h1,h2⟩:=st
 have n1:∀b∈f1,b≠z:=λb hb e=>z1 (e ▸ hb)
 show wpAny _ _ (field (.ref z) 2 >>= _) _ _ _
 refine Aa (BI hz rfl (x:=.bool false) rfl ?_)
 show wpAny _ _ (field (.ref z) 3 >>= _) _ _ _
 refine Aa (BI hz rfl (x:=.ref TI) rfl (Aa (BZ hTI rfl ?_)))
 show wpAny _ _ (AG.SmallTypes.ownedTupleIsFree (.ref z) >>= _) _ _ _
 refine Aa ?_
 unfold AG.SmallTypes.ownedTupleIsFree
 refine Aa (BI hz rfl (x:=.none) rfl (Al ?_))
 simp only[if_true]
 refine Aa (Ed (Aa (BI hz rfl (x:=.ref TO) rfl (Aa (Dh hz (by simp) λh3 hz3 b3=>Aa ?_)))))
 have z3:IsZip h3 z TI TO .ellipsis:=hz3
 simp only[List.zipIdx_cons,List.zipIdx_nil,List.forIn_cons,List.forIn_nil]
 refine Aa (Aa (wpAny_onRaise (Aa (D1.done _ _ _ (D1.frame _ _ _ h1 λb hb o e=>b3.extBut b o (n1 b hb) e) λh4 e b4 he=>?_))))
 obtain⟨oe,hoe,hce⟩:=he
 have z4:IsZip h4 z TI TO .ellipsis:=b4 _ _ (λe=>n1 i1 m1 e.symm) z3
 have ez:e≠z:=λq=>by subst q;rw[z4]at hoe;cases hoe;simp at hce
 exact Dh z4 (by simp) λh5 _ b5=>hE h5 e (λc o c1 _ c3 _ q=>b5.extBut _ _ c1 (b4 _ _ c3 (b3.extBut _ _ c1 q))) ⟨oe,b5.extBut _ _ ez hoe,hce⟩
theorem quu {Q:Option Value->Af->Prop}(D1:Draws prog w A.in1 i1 f1 n P1 S1)(D2:Draws prog w A.in1 i2 f2 n2 P2 S2)(ap:Zap z TI TO i1 i2 f1 f2)(st:qlz z TI TO i1 i2 S1 S2 .none k s.heap)(hk:k<n)(hk2:k<n2)
  (hQ:∀h' tk x y,P1 k x->P2 k y->qlz z TI TO i1 i2 S1 S2 (rawInt s.heap.objs.size) (k+1) h'->Ee h' s.heap.objs.size x y->(∀c o,c≠z->c≠TO->c≠i1->c≠i2->s.heap.get? c=some o->h'.get? c=some o)->Q (some (.ref s.heap.objs.size)) { s with heap:=h',toks:=tk }) :
  wpAny (model prog w) A (pyNext (.ref z)) Q E s:=by
 have hT:s.TypeIs (.ref z) "zip" := ⟨_,st.1,rfl⟩
 unfold pyNext
 exact Aa (CA (B3 (name:=Ab "__next__") hT F.slot_zip_next (BF F.slot_zip_next hT F.entry_zip_next (qut D1 D2 ap st hk hk2 λh' tk x y a1 a2 a3 a4 a5=>Al (hQ h' tk x y a1 a2 a3 a4 a5)) (F.args_zip_next_1 _))))
theorem qnv {Q:Option Value->Af->Prop}(D1:Draws prog w A.in1 i1 f1 n P1 S1)(m1:i1∈f1)(z1:z∉f1)(st:qlz z TI TO i1 i2 S1 S2 .none n s.heap)
  (hQ:∀h',(∀c o,c≠z->c≠TO->c≠i1->c≠i2->s.heap.get? c=some o->h'.get? c=some o)->Q none { s with heap:=h' }):wpAny (model prog w) A (pyNext (.ref z)) Q E s:=by
 have hT:s.TypeIs (.ref z) "zip" := ⟨_,st.1,rfl⟩
 unfold pyNext
 refine Aa (CA (B3 (name:=Ab "__next__") hT F.slot_zip_next (BF F.slot_zip_next hT F.entry_zip_next (qxc D1 m1 z1 st λh' e kp he=>?_) (F.args_zip_next_1 _))))
 obtain⟨o,ho,hc⟩:=he
 exact Aa (Ec (T := "StopIteration") (b:=true) ⟨o,ho,hc⟩ isSubtype_stop (Al (hQ _ kp)))
end
theorem qqo {X:Cx}{pins:List (Addr×Obj)}{σ:L2.St}{H:Hp}{s:Af}{h':Heap}{t':Nat}{ch:List Addr}(I:Inv X pins σ H s)(k:∀b o,b∉ch->s.heap.get? b=some o->h'.get? b=some o)(f:∀b∈ch,qd6 X pins H b):Inv X pins σ H { s with heap:=h',toks:=t' }:=by
 refine I.step (g':=s.gens) (d':=s.drawn) (ch:=ch) (λb hb=>⟨(f b hb).2.2.2.1,(f b hb).2.1,(f b hb).2.2.2.2.1,(f b hb).2.2.2.2.2⟩) (λb o _ _ hc q _=>k b o hc q) (λb o _ _ hc q _=>⟨o.slots,k b o hc q⟩) (λ_ _ _ _ n=>n)
  (λb o hc q=>⟨o,k b o hc q⟩) (λ_ _ q=>q) (λ_ _ _ q=>q) (λb ps q=>⟨#[],by rw[q];simp⟩) (λm hm=>?_) (λb u q=>?_) I.bare
 .obtain⟨o,es,ep,ho,r⟩:=hm
  exact⟨o,es,ep,k _ o (λz=>(f _ z).2.1 rfl) ho,r⟩
 .refine(I.hok b u q).stay (λc v hc z=>k c v (λm=>?_) z) (λ_ z=>z) λ_ _ z=>z
  rcases hc with rfl|hc
  .rw[(f _ m).1]at q;cases q
  .rw[(f c m).1]at hc;cases hc
theorem fp_neT {X:Cx}{pins:List (Addr×Obj)}{σ:L2.St}{H:Hp}{s:Af}{a b:Addr}{xs:List V}(I:Inv X pins σ H s)(f:qd6 X pins H b)(h:SqT X.K H a xs):a≠b:=λe=>by
 subst e
 rcases h with h|⟨o,its,n,hk,_⟩
 .have:=f.1
  rcases h with h|⟨u,h⟩ <;>(rw[this]at h;cases h)
 .have hb:=I.ok.mod.kin a o hk
  rcases f.2.2.2.1 with z|z
  .exact I.ok.noex a o hb z
  .exact absurd (A8 (Aw hb) (A3 I.ok.bsz z)) (B4 _)
noncomputable def Itz (K:Ae)(a b:Addr):It :=
 ⟨λi H=>∃xs ys,SqL K H a xs/\SqT K H b ys/\xs.length=ys.length/\i<xs.length,
  λi H x H'=>∀xs ys,SqL K H a xs->SqT K H b ys->∃y1 y2 t,xs[i]?=some y1/\ys[i]?=some y2/\H t=none/\x=.ref t/\H'=upd H t (.tup [y1,y2]),
  λi H=>∃xs,SqL K H a xs/\xs.length=i⟩
theorem fp_upd' {X:Cx}{pins:List (Addr×Obj)}{H:Hp}{b t:Addr}{o:HO}(f:qd6 X pins H b)(ne:b≠t):qd6 X pins (L2.upd H t o) b:=⟨by rw[ze ne];exact f.1,f.2⟩
theorem quv {P:AF}{w:World}{K:Ae}{es:List Expr}{kk pos}(l t z TI TO i1 i2:Addr)(nd:[z,TI,TO,i1,i2].Nodup) :
  Turn P w K (.Tuple es kk pos) (Itz K l t) [z,TI,TO,i1,i2] z (λi h=>IsZip h z TI TO .none/\Ee h TI (.ref i1) (.ref i2)/\(∃a b,Ee h TO a b)/\h.IsListIter i1 l i/\h.IsTupleIter i2 t i) where
 mem:=by simp
 obj:=λi h st b hb=>by
  obtain⟨h1,h2,⟨_,_,h3⟩,⟨o4,h4,_,d4⟩,⟨o5,h5,_,d5⟩⟩:=st
  simp only[Ap,Av,or_false]at hb
  rcases hb with rfl|rfl|rfl|rfl|rfl
  .exact⟨_,h1,λv z=>by cases z⟩
  .exact⟨_,h2,λv z=>by cases z⟩
  .exact⟨_,h3,λv z=>by cases z⟩
  .exact⟨o4,h4,λv z=>by rw[d4]at z;cases z⟩
  .exact⟨o5,h5,λv z=>by rw[d5]at z;cases z⟩
 keep:=λi h h' st k=>by
  obtain⟨h1,h2,⟨a,b,h3⟩,⟨o4,h4,r4⟩,⟨o5,h5,r5⟩⟩:=st
  exact⟨k z (by simp) _ h1,k TI (by simp) _ h2,⟨a,b,k TO (by simp) _ h3⟩,⟨o4,k i1 (by simp) _ h4,r4⟩,⟨o5,k i2 (by simp) _ h5,r5⟩⟩
 item:=by
  intro X hP hw hK hc i pins s σ H E I hf st hg
  subst hP hw hK
  obtain⟨hz,hTI,hTO,h1,h2⟩:=st
  obtain⟨xs,ys,hq,ht,hl,hi⟩:=hg
  obtain⟨its,rv,p,_⟩:=I.list hq
  obtain⟨jts,rw',p2,_⟩:=I.tuple ht
  have l1:=rv.length
  have l2:=rw'.length
  have hh:X.A.in1.handled=none:=I.ok.hd hc
  have nl:l≠i1:=λe=>by
   obtain⟨o,g,c,_⟩:=h1
   obtain⟨o',g',c',_⟩:=p.isList
   rw[e,g]at g';cases g';rw[c]at c';simp at c'
  have nlz:l∉[z,TI,TO,i1,i2]:=λe=>by
   obtain⟨o',g',c',_⟩:=p.isList
   simp only[Ap,Av,or_false]at e
   rcases e with e|e|e|e|e
   .rw[e,hz]at g';cases g';simp at c'
   .rw[e,hTI]at g';cases g';simp at c'
   .obtain⟨_,_,h3⟩:=hTO
    rw[e,h3]at g';cases g';simp at c'
   .exact nl e
   .obtain⟨o,g,c,_⟩:=h2
    rw[e,g]at g';cases g';rw[c]at c';simp at c'
  have ntz:t∉[z,TI,TO,i1,i2]:=λe=>fp_neT I (hf t e) ht rfl
  simp only[AX,Ap,Av,or_false,not_or]at nd nlz ntz
  obtain⟨⟨a1,a2,a3,a4⟩,⟨a5,a6,a7⟩,⟨a8,a9⟩,a10,_⟩:=nd
  obtain⟨c1,c2,c3,c4,c5⟩:=nlz
  obtain⟨d1,d2,d3,d4,d5⟩:=ntz
  have ap:Zap z TI TO i1 i2 [i1,l] [i2,t]:=by
   constructor <;>simp only[Ap,Av,or_false,not_or,ne_eq] <;>first|exact .inl rfl|exact .inl trivial | (refine⟨?_,?_⟩ <;>(intro e;first|exact a1 e|exact a2 e|exact a3 e|exact a4 e|exact a5 e|exact a6 e|exact a7 e|exact a8 e|exact a9 e|exact a10 e|exact a10 e.symm|exact c1 e.symm|exact c2 e.symm|exact c3 e.symm|exact c5 e.symm|exact d1 e.symm|exact d2 e.symm|exact d3 e.symm|exact d4 e.symm)) | (intro e;first|exact a1 e.symm|exact a2 e.symm|exact a5 e)
  refine quu (Draws.list hh i1 l nl its.toArray) (qr3 hh i2 t d5 jts.toArray) ap ⟨hz,hTI,hTO,⟨h1,p.isList⟩,⟨h2,p2⟩⟩ (k:=i) (by simp;lia) (by simp;lia) λh' tk u v px py st' hp kp=>⟨_,rfl,?_⟩
  refine wpAny_letOwnedTupleGo_zip st'.1 λh3 hz3 sb=>?_
  replace sb:Bc z h' h3:=sb
  obtain⟨x,hx⟩:∃x,xs[i]?=some x:=⟨_,Ak hi⟩
  obtain⟨y,hy⟩:∃y,ys[i]?=some y:=⟨_,Ak (by lia)⟩
  obtain⟨u',hu,ru⟩:=rv.get hx
  obtain⟨v',hv,rv'⟩:=rw'.get hy
  obtain rfl:u=u':=by
   have px:its.toArray[i]?=some u:=px
   simp only[CH]at px
   rw[hu]at px;exact(A7 px).symm
  obtain rfl:v=v':=by
   have py:jts.toArray[i]?=some v:=py
   simp only[CH]at py
   rw[hv]at py;exact(A7 py).symm
  have lt:∀b∈[z,TI,TO,i1,i2],b<s.heap.objs.size:=λb hb=>by
   obtain⟨_,_,h3⟩:=hTO
   obtain⟨_,g1,_⟩:=h1
   obtain⟨_,g2,_⟩:=h2
   simp only[Ap,Av,or_false]at hb
   rcases hb with rfl|rfl|rfl|rfl|rfl
   .exact Aw hz
   .exact Aw hTI
   .exact Aw h3
   .exact Aw g1
   .exact Aw g2
  have zl:z<s.heap.objs.size:=Aw hz
  have hp3:Ee h3 s.heap.objs.size u v:=(sb.2 _ (Cq zl)).trans hp
  have hfr:H s.heap.objs.size=none:=I.hok.fresh (Ax _)
  have I1:=I.laid (a:=s.heap.objs.size) (o:=.tup [x,y]) (h':=s.heap.push { cls:=.type "tuple",data:=.seq #[u,v] }) (t':=s.toks) (λb o q=>Ah _ q) (Ax _) ⟨show 2<=A0 by rw[Bg];decide,[u,v],.cons ru (.cons rv' .nil),⟨_,Au _ rfl,rfl,_,rfl⟩⟩
  have I2:=qqo (ch:=[z,TI,TO,i1,i2]) (h':=h3) (t':=tk) I1 (λb o n q=>by
   simp only[Ap,Av,or_false,not_or]at n
   by_cases e:b=s.heap.objs.size
   .subst e
    rw[Au _ rfl]at q
    cases q
    exact hp3
   .rw[Heap.get?_push_ne _ _ _ e]at q
    exact(sb.2 b n.1).trans (kp b o n.1 n.2.2.1 n.2.2.2.1 n.2.2.2.2 q)) (λb hb=>fp_upd' (hf b hb) (AD (lt b hb)))
  obtain⟨_,s2,⟨a',b',s3⟩,⟨s4,_⟩,⟨s5,_⟩⟩:=st'
  refine⟨.ref s.heap.objs.size,_,I2,rfl,λxs' ys' hx' hy'=>?_,⟨hz3,(sb.2 _ (AZ a1)).trans s2,⟨a',b',(sb.2 _ (AZ a2)).trans s3⟩,s4.at λo q=>(sb.2 _ (AZ a3)).trans q,?_⟩,λb hb=>?_⟩
  .rw[I.list_inj hx' hq,I.tuple_inj hy' ht]
   exact⟨x,y,_,hx,hy,hfr,rfl,rfl⟩
  .obtain⟨o5,g5,r5⟩:=s5
   exact⟨o5,(sb.2 _ (AZ a4)).trans g5,r5⟩
  .rw[ze (AD (lt b hb))];exact(hf b hb).1
 done:=by
  intro X hP hw hK hc i pins s σ H E I hf st hg
  subst hP hw hK
  obtain⟨hz,hTI,hTO,h1,h2⟩:=st
  obtain⟨xs,hq,hi⟩:=hg
  obtain⟨its,rv,p,_⟩:=I.list hq
  have l1:=rv.length
  have hh:X.A.in1.handled=none:=I.ok.hd hc
  have nl:l≠i1:=λe=>by
   obtain⟨o,g,c,_⟩:=h1
   obtain⟨o',g',c',_⟩:=p.isList
   rw[e,g]at g';cases g';rw[c]at c';simp at c'
  have ei:i=its.toArray.size:=by simp;lia
  subst ei
  have nz:z∉[i1,l]:=λe=>by
   rcases Ap.mp e with e|e
   .obtain⟨o,g,c,_⟩:=h1
    rw[<- e,hz]at g;cases g;simp at c
   .obtain⟨o',g',c',_⟩:=p.isList
    rw[<- An.mp e,hz]at g';cases g';simp at c'
  refine qnv (S2:=λk h=>h.IsTupleIter i2 t k) (Draws.list hh i1 l nl its.toArray) (by simp) nz ⟨hz,hTI,hTO,⟨h1,p.isList⟩,h2⟩ λh' kp=>⟨rfl,qqo (ch:=[z,TI,TO,i1,i2]) (t':=s.toks) I (λb o n q=>?_) hf⟩
  simp only[Ap,Av,or_false,not_or]at n
  exact kp b o n.1 n.2.2.1 n.2.2.2.1 n.2.2.2.2 q
 self:=λA i s Q E st h=>wpAny_pyIter_zip st.1 h
section
noncomputable abbrev zl1 (h:Heap)(l:Addr):Heap:=h.push { cls:=.type "list_iterator",data:=.fields #[.ref l,.int 0 0] }
noncomputable abbrev zl2 (h:Heap)(l t:Addr):Heap:=(zl1 h l).push { cls:=.type "tuple_iterator",data:=.fields #[.ref t,.int 0 0] }
noncomputable abbrev zl3 (h:Heap)(l t:Addr):Heap:=(zl2 h l t).push { cls:=.type "tuple",data:=.seq #[.ref h.objs.size,.ref (zl1 h l).objs.size] }
noncomputable abbrev zl4 (h:Heap)(l t:Addr):Heap:=(zl3 h l t).push { cls:=.type "tuple",data:=.seq #[.none,.none] }
noncomputable abbrev zl5 (h:Heap)(l t:Addr):Heap:=(zl4 h l t).push { cls:=.type "zip",data:=.fields #[.none,.bool false,.bool false,.ref (zl2 h l t).objs.size,.ref (zl3 h l t).objs.size] }
theorem quw (l t:Addr)(xs ys:Array Value):Meets (AG.«zip.__new__» ⟨[.type "zip",.ref l,.ref t],[]⟩) (λ_ R s=>s.heap.IsList l xs/\s.heap.IsTuple t ys/\R (.ok (.ret (.ref (zl4 s.heap l t).objs.size))) { s with heap:=zl5 s.heap l t }) :=
 .of_wp λprog w A R s h=>by
  obtain⟨hp,g,d,tk,os⟩:=s
  obtain⟨h1,h2,h⟩:=h
  have hsub:=sub_zip
  have hL1:Heap.IsList (Af.heap ⟨hp,g,d,tk,os⟩) l xs:=h1
  have hL2:Heap.IsTuple (Af.heap ⟨zl1 hp l,g,d,tk,os⟩) t ys:=Heap.IsTuple.push h2 _
  wp_walk using Dr hL1,wpAny_pyIter_tuple hL2
  exact⟨_,rfl,h⟩
theorem qr4 {prog:AF}{w:World}{A:AL}{E:Value->Af->Prop}{s:Af}{l t:Addr}{xs ys:Array Value}{Q:Value->Af->Prop}(h1:s.heap.IsList l xs)(h2:s.heap.IsTuple t ys)
  (h:∀h',IsZip h' (s.heap.objs.size+4) (s.heap.objs.size+2) (s.heap.objs.size+3) .none->Ee h' (s.heap.objs.size+2) (.ref s.heap.objs.size) (.ref (s.heap.objs.size+1))->Ee h' (s.heap.objs.size+3) .none .none ->
   h'.IsListIter s.heap.objs.size l 0->h'.IsTupleIter (s.heap.objs.size+1) t 0->(∀c o,s.heap.get? c=some o->h'.get? c=some o)->Q (.ref (s.heap.objs.size+4)) { s with heap:=h' }):wpAny (model prog w) A (call (.type "zip") [.ref l,.ref t]) Q E s:=by
 refine callType_new F.called_zip En (F.typeCall_zip_2 _ _) (F.newCall_zip_2 _ _) (λobj=>F.args_object_init_3 obj _ _) F.entry_zip_new (quw l t xs ys) ⟨h1,h2,?_⟩
 have y1:(zl1 s.heap l).objs.size=s.heap.objs.size+1:=Bp ..
 have y2:(zl2 s.heap l t).objs.size=s.heap.objs.size+2:=by rw[Bp,y1]
 have y3:(zl3 s.heap l t).objs.size=s.heap.objs.size+3:=by rw[Bp,y2]
 have y4:(zl4 s.heap l t).objs.size=s.heap.objs.size+4:=by rw[Bp,y3]
 have up:∀{h:Heap}{c:Addr}{o o':Obj},h.get? c=some o->(h.push o').get? c=some o:=λe=>Ah _ e
 have g5:(zl5 s.heap l t).get? (zl4 s.heap l t).objs.size=some _:=Au _ rfl
 have g4:(zl5 s.heap l t).get? (zl3 s.heap l t).objs.size=some _:=up (Au _ rfl)
 have g3:(zl5 s.heap l t).get? (zl2 s.heap l t).objs.size=some _:=up (up (Au _ rfl))
 have g2:(zl5 s.heap l t).get? (zl1 s.heap l).objs.size=some _:=up (up (up (Au _ rfl)))
 have g1:(zl5 s.heap l t).get? s.heap.objs.size=some _:=up (up (up (up (Au _ rfl))))
 rw[y2,y3,y4]at g5
 rw[y1,y2]at g3
 rw[y3]at g4
 rw[y1]at g2
 show _/\_
 rw[y4]
 exact⟨⟨_,g5,rfl⟩,h _ g5 g3 g4 ⟨_,g1,rfl,rfl⟩ ⟨_,g2,rfl,rfl⟩ λc o e=>up (up (up (up (up e))))⟩
end
noncomputable def iZip (K:Ae)(ta:TA):TI:=λσ H R=>ta σ H λvs H1=>∃a b xs ys,vs=[.ref a,.ref b]/\H1 a=some (.lst xs)/\SqT K H1 b ys/\R (Itz K a b) H1
theorem boot_zip':bootBuiltins "zip" = some (.type "zip"):=Ek
theorem pi_zip {X:Cx}{es:List Expr}{kk:_}{pos':Pos}{a b:Expr}{ta:TA}{p pos:Pos}(hg:Gl X "zip")(hm:X.mg "zip" = none)(ha:PA X [a,b] ta)(hs:starEach [a,b] X.env=(false,eval a X.env)::starEach [b] X.env:=by rfl)(hb:(backTo pos (starEach [b] X.env)).any (·.1)=false:=by rfl):PI X (.Tuple es kk pos') (.Call (.Name "zip" p) [a,b] [] pos) (iZip X.K ta):=by
 intro pins s σ H R I h
 refine Call_ (qee I hg hm boot_zip' (Bv (thn (ha pos pins s σ H _ I h) λus s1 ⟨vs,H1,I1,r1,q1⟩=>?_) hs hb))
 obtain⟨l,t,xs,ys,e,hl,ht,q⟩:=q1
 subst e
 obtain⟨u,v,rfl,hu,hv⟩:=Vals.two r1
 cases qhh hu
 cases qhh hv
 obtain⟨z,its,n,rv,hz,e⟩:=I1.lstM hl
 obtain⟨jts,_,p2,_⟩:=I1.tuple ht
 refine qr4 ⟨_,e,rfl,n,rfl⟩ p2 λh' a1 a2 a3 a4 a5 keep=>wpAny_pyIter_zip a1 ?_
 have I2:Inv X pins σ H1 { s1 with heap:=h' }:=I1.kept (t':=s1.toks) keep
 refine⟨s1.heap.objs.size+4,[s1.heap.objs.size+4,s1.heap.objs.size+2,s1.heap.objs.size+3,s1.heap.objs.size,s1.heap.objs.size+1],_,_,H1,rfl,I2,quv l t _ _ _ _ _ (by simp),⟨a1,a2,⟨_,_,a3⟩,a4,a5⟩,λb hb=>?_,q⟩
 have lb:s1.heap.objs.size<=b:=by
  simp only[Ap,Av,or_false]at hb
  rcases hb with rfl|rfl|rfl|rfl|rfl <;>first|exact Nat.le_add_right _ _|exact Ax _
 exact I1.fpOk lb (I1.hok.fresh lb)
section
variable {X:Cx}
theorem qxd {kvs:List (Key×V)}{vs:List (Key×Value)}(h:KV kvs vs):Vals (kvs.map (·.2)) (vs.map (·.2)):=by
 induction h with
 |nil=>exact .nil
 |cons r _ ih=>exact .cons r.2 ih
noncomputable def tLV (te:TE):TE:=λσ H Q=>te σ H λx H1=>∃(d:Addr)(kvs:List (Key×V)),x=.ref d/\H1 d=some (.dK kvs)/\∀q,H1 q=none->Q (.ref q) (upd H1 q (.lst (kvs.map (·.2))))
theorem qnw {e:Expr}{te:TE}{p apos cpos pos:Pos}(hca:X.calm=true)(hgl:Gl X "list")(hml:X.mg "list" = none)(hbl:bootBuiltins "list" = some (.type "list"))(he:PE X e te)
  (hbase:attributeBase e "values" X.env (eval e X.env)=eval e X.env:=by rfl) (hline:(apos.endLine == cpos.line)=true:=by rfl):PE X (.Call (.Name "list" p) [.Call (.Attribute e "values" apos) [] [] cpos] [] pos) (tLV te):=by
 intro pins s σ H Q I h
 refine B0 (qee I hgl hml hbl ?_)
 refine Bv ?_ rfl rfl
 show wpAny _ _ (spliced ((false,eval (.Call (.Attribute e "values" apos) [] [] cpos) X.env)::[])) _ _ s
 refine Dd ?_
 refine DR hbase hline (thn (he pins s σ H _ I h) λv s1 ⟨x,H1,I1,r1,q1⟩=>?_)
 obtain⟨d,kvs,rfl,hd,q⟩:=q1
 cases r1
 obtain⟨z,lo,vs,kv,hD⟩:=qne I1.hok hd
 refine⟨"dict", "dict.values",PySem.F.plainAttrs_dict,CS,PySem.F.type_dict_values,hD.typeIs,?_,De rfl (PySem.evalArgs_none ?_)⟩
 .exact hD.mapOf.noDict
 refine call_meetsIn CS hD.typeIs PySem.F.entry_dict_values (PySem.F.args_dict_values_1 _) (meets_dict_values (qbb X.prog X.w) d lo) ⟨⟨vs,hD⟩,?_⟩
 refine Dt ?_
 obtain⟨ep,hat⟩:=hD.dictAt
 have I2:Inv X pins σ H1 { s1 with heap:=s1.heap.push { cls:=.type "dict_values",data:=.fields #[.ref d] } }:=I1.kept (t':=s1.toks) λb o q=>Ah _ q
 refine PySem.W.kdl_call (PySem.W.kdl_values (knd:=qbb X.prog X.w) (kvs:=vs) (ep:=ep)) (I.ok.hd hca) ⟨⟨_,Au _ rfl,rfl,rfl⟩,hat.push _⟩ (by rw[<- kv.length];exact z) λh' tk acc c kp e ia=>?_
 have ea:acc.toList=vs.map (·.2):=Bq λj=>by
  rw[Ai]
  by_cases hj:j<vs.length
  .have hja:j<acc.size:=by rw[ia.1];exact hj
   have g:acc[j]?=some acc[j]:=B7 hja
   obtain⟨k,hk⟩:=ia.2 j _ g
   rw[Cz,g,hk];rfl
  .rw[AO (by rw[A6,ia.1];lia),AO (by lia)];rfl
 have rv:Vals (kvs.map (·.2)) acc.toList:=by rw[ea];exact qxd kv
 exact⟨.ref (s1.heap.push { cls:=.type "dict_values",data:=.fields #[.ref d] }).objs.size,_,I2.laid (t':=tk) kp (Ax _) (show ObjOk X.prog X.w _ h' _ (.lst (kvs.map (·.2))) from ⟨by rw[Ac];exact z,acc.toList,c,rv,by simpa using e⟩),rfl,q _ (I2.hok.fresh (Ax _))⟩
end
theorem qj9 {M:Model}{A:AL}{E:Value->Af->Prop}{s:Af}{β:Type}{f:Value->β->Sem (ForInStep β)}{b:β}:∀{cs:List Value},(∀c∈cs,∀Q:ForInStep β->Af->Prop,Q (.yield b) s->wpAny M A (f c b) Q E s)->∀{Q:β->Af->Prop},Q b s->wpAny M A (forIn cs b f) Q E s
 | [],_,_,h=>by rw[List.forIn_nil];exact Al h
 |c::cs,hf,Q,h=>by
  rw[List.forIn_cons]
  exact Aa (hf c Am _ (qj9 (λd hd=>hf d (Aq _ hd)) h))
theorem exm_no {M:Model}{K:Ae}{cls:Value}{tp e:Addr}{h:Heap}{cs:List Value}(X:K.In h)(LT:BH M h (typeOf (.ref e)) cls)(hp:h.get? tp=some { cls:=.type "tuple",data:=.seq cs.toArray })(hx:∀c∈cs,Ad K cls c=some false) :
  BH M h (excMatches (.ref e) (.ref tp)) false:=by
 intro A Q E s k₀ q
 obtain⟨hh,g,d,tk,os⟩:=s
 have k:∀b o,h.get? b=some o->hh.get? b=some o:=k₀
 have LT0:BH M h (isInstance (.ref tp) (.type "tuple")) true:=((BH.ld hp).andThen .now).andThen (BH.of_pure isSubtype_tuple_tuple)
 have LT:=LT.keeps k
 have LT0:=LT0.keeps k
 have hp':=k _ _ hp
 unfold excMatches
 refine Aa (LT0.at ?_)
 dsimp only
 rw[if_pos rfl]
 first
  |refine Aa (BZ hp' rfl ?_)
  |refine Aa (Aa (BZ hp' rfl (Al ?_)))
 dsimp only[Option.getD_some,Option.getD]
 refine Aa (Al (Aa (qj9 (λc hc Q hq=>?_) ?_)))
 .obtain⟨e1,_⟩:=PySem.W.exm_cls (M:=M) X (hx c (by simpa using hc))
  refine Aa ((e1.keeps k).at ?_)
  simp only[Bool.not_true,Df,if_false]
  exact Al hq
 .refine Aa (LT.at (Aa (qj9 (λc hc Q hq=>?_) ?_)))
  .obtain⟨_,S1⟩:=PySem.W.exm_cls (M:=M) X (hx c (by simpa using hc))
   refine Aa ((S1.keeps k).at ?_)
   simp only[Df,if_false]
   exact Al hq
  .exact Al q
noncomputable def PCs (X:Cx)(es:List Expr)(us:List Value):Prop:=∀(e:Value)(E:Value->Af->Prop)(pos:Pos)(pins:List (Addr×Obj))(s:Af)(σ:L2.St)(H:Hp)(Q:List Value->Af->Prop),Inv X pins σ H s->Q us s ->
 wpAny (model X.prog X.w) (X.A.mark (some e)) (spliced (backTo pos (starEach es X.env))) Q E s
section
variable {X:Cx}{t:Expr}{es:List Expr}{c:Value}{us:List Value}{qa9:List ExceptHandler}{tr:TH}{body:List Stmt}{pos pos':Pos}
theorem qxe:PCs X [] []:=λ_ _ _ _ _ _ _ _ _ h=>Dt h
theorem qb8 (hc:PC X t c)(hr:PCs X es us)(hs:starEach (t::es) X.env=(false,eval t X.env)::starEach es X.env:=by rfl):PCs X (t::es) (c::us):=by
 intro e E pos pins s σ H Q I h
 rw[hs]
 show wpAny _ _ (spliced ((false,eval t X.env)::backTo pos (starEach es X.env))) _ _ s
 exact Dd (hc e E pins s σ H _ I (hr e E pos pins s σ H _ I h))
noncomputable def hNo (K:Ae)(cs:List Value)(qa9:TH):TH:=λD σ x C od H=>(cs.length<=A0/\∀c∈cs,Ad K (.ref C) c=some false)/\qa9 D σ x C od H
theorem ph_no {x1}(hc:PCs X es us)(hr:PH X qa9 tr):PH X (.ExceptHandler (some (.Tuple es x1 pos')) none body pos::qa9) (hNo X.K us tr):=by
 intro pins s σ H D x C od I fl has h
 obtain⟨⟨hz,hx⟩,h⟩:=h
 refine wpAny_handleBy_cons (codeAny_handlers_test (wpAny_Tuple_spliced (hc (.ref x) _ pos' pins s σ H _ I ⟨hz,?_⟩))) (by intro q;cases q)
 have I2:Inv X pins σ H { s with heap:=s.heap.push { cls:=.type "tuple",data:=.seq us.toArray } }:=I.kept (t':=s.toks) λb o q=>Ah _ q
 have fl2:qo6 X pins H (s.heap.push { cls:=.type "tuple",data:=.seq us.toArray }) x C od:=by
  obtain⟨e,vs,sl,T,oT,ts,h1,h2,h3,h4,h5,h6⟩:=fl
  exact⟨e,vs,sl,T,oT,ts,Ah _ h1,h2,Ah _ h3,h4,h5,h6⟩
 refine(exm_no I2.kIn (qo8 fl2) (Au _ rfl) hx).here ?_
 exact hr pins _ σ H D x C od I2 fl2 has h
end
theorem qux {K:Ae}{js:List (Option Nat)}{g:TG}{te:TE}{σ:L2.St}{H:Hp}{Q:VK}{a b:Addr}{xs ys:List V}(zs:List V)(Sv:L2.St->Prop)(hx:SqL K H a xs)(hy:SqT K H b ys)(le:xs.length=ys.length)(lz:zs.length=xs.length)(hz:xs.length<=A0)(h0:Sv (qe8 js σ))
  (step:∀(i:Nat)(x y z:V)(t:Addr)(σ':L2.St)(H':Hp)(R:L2.St->VK),xs[i]?=some x->ys[i]?=some y->zs[i]?=some z->Same H H'->H' t=some (.tup [x,y])->Sv σ'->(∀σ3 H5,Sv σ3->Same H' H5->R σ3 z H5)->g (.ref t) σ' H' λσ3 H3=>te σ3 H3 (R σ3))
  (gk:∀(x:V)(σ':L2.St)(H':Hp)(R R':L2.St->Hp->Prop),(∀σ3 H3,R σ3 H3->R' σ3 H3)->g x σ' H' R->g x σ' H' R')
  (fin:∀p H',H p=none->Same H H'->H' p=some (.lst zs)->Q (.ref p) H'):qif js g qqf te σ Q (Itz K a b) H:=by
 intro p hp
 refine⟨λi m σ' H'=>m=xs.length-i/\i<=xs.length/\Sv σ'/\Same H H'/\H' p=some (.lst (zs.take i)),⟨xs.length,by simp,Bs _,h0,qah (Same.refl H) hp,by rw[qz];rfl⟩,?_⟩
 rintro i m σ' H' ⟨rfl,hi,hv,sm,hh⟩
 have qx:=sm.seq hx
 have qy:=qrs sm hy
 by_cases hlt:i<xs.length
 .obtain⟨z,ez⟩:∃z,zs[i]?=some z:=⟨_,Ak (by lia)⟩
  refine .inr ⟨⟨xs,ys,qx,qy,le,hlt⟩,λσ2 H2=>Sv σ2/\Same H H2/\H2 p=some (.lst (zs.take (i+1))),λσ2 H2 ⟨a,b,c⟩=>⟨xs.length-(i+1),by lia,rfl,hlt,a,b,c⟩,λx H2 hy=>?_⟩
  obtain⟨y1,y2,t,e1,e2,ht,rfl,rfl⟩:=hy xs ys qx qy
  have st:Same H' (upd H' t (.tup [y1,y2])):=qah (Same.refl H') ht
  refine gk _ _ _ _ _ (λσ3 H3 z=>?_) (step i y1 y2 z t σ' _ (λσ3 v H5=>∃ys,H5 p=some (.lst ys)/\ys.length<A0/\(Sv σ3/\Same H (upd H5 p (.lst (ys++[v])))/\upd H5 p (.lst (ys++[v])) p=some (.lst (zs.take (i+1))))) e1 e2 ez (sm.trans st) qz hv λσ3 H5 hs3 s5=>?_)
  .exact z
  .refine⟨_,s5 _ _ (st _ _ hh),?_,hs3,qah (sm.trans (st.trans s5)) hp,?_⟩
   .rw[A2];lia
   .rw[qz,CL,ez];rfl
 .have e:i=xs.length:=by lia
  subst e
  refine .inl ⟨⟨xs,qx,rfl⟩,?_⟩
  rw[Cc (by lia)]at hh
  exact fin p _ hp sm hh
section
variable {X:Cx}
noncomputable def tBS (t:TE):TT:=λσ H Q=>t σ H λx H1=>∃y:Str,x=.str y/\y.length<=A0/\Q (decide (y.length≠0)) H1
theorem qxf {e:Expr}{t:TE}(h:PE X e t)(he:∀whole,isTrue e X.env whole=(do let v <- whole;standAt e.pos;holding [v] (truthy v)):=by intro _;rfl):PT X e (tBS t):=by
 intro pins s σ H Q I hw
 refine isTrue_plain (thn (h pins s σ H _ I hw) λv s1 ⟨x,H1,I1,r1,q1⟩=>?_) (he _)
 obtain⟨y,rfl,hy,q⟩:=q1
 obtain⟨t',rfl⟩:=r1
 have hs:A0=16777216:=Bg
 refine PySem.P.truthy_str (by lia) ?_
 have e:((y.length:Int) != 0)=decide (y.length≠0):=by
  rw[C6,bne_iff_ne,decide_eq_true_eq];lia
 rw[e]
 exact⟨H1,I1.tok _,q⟩
theorem qr5 {X:Cx}:qdw X (.builtin "len") (λxs H Q=>∃(d:Addr)(kvs:List (Key×V)),xs=[.ref d]/\H d=some (.dK kvs)/\Q (.int kvs.length) H):=by
 intro pins s σ H xs us Q I r h
 obtain⟨d,kvs,rfl,hd,q⟩:=h
 obtain⟨u,rfl,rx⟩:=qe0 r
 cases rx
 obtain⟨z,lo,vs,kv,hD⟩:=qne I.hok hd
 have hs:A0=16777216:=Bg
 refine PySem.call_len_dict lo hD (by rw[<- kv.length];lia) ?_
 exact⟨.int kvs.length,H,I.tok _,⟨_,by rw[kv.length]⟩,q⟩
end
noncomputable def leS (a b:Str):Prop:=a.cps.toList<=b.cps.toList
theorem ql0:∀{l:List Str}{x:Str},risingS x l=true->(x::l).Pairwise leS
 | [],x,_=>List.pairwise_cons.mpr ⟨λ_ h=>absurd h Av,.nil⟩
 |y::r,x,h=>by
  have h:(!ltCps y.cps.toList x.cps.toList && risingS y r)=true:=h
  rw[AE]at h
  have ih:=ql0 h.2
  have h1:leS x y:=by
   have e:ltCps y.cps.toList x.cps.toList=false:=by cases q:ltCps y.cps.toList x.cps.toList with|false=>rfl|true=>rw[q]at h;cases h.1
   rw[ltCps_eq]at e
   exact List.not_lt.mp (of_decide_eq_false e)
  refine List.pairwise_cons.mpr ⟨λz hz=>?_,ih⟩
  rcases Ap.mp hz with rfl|hz
  .exact h1
  .exact List.le_trans h1 ((List.pairwise_cons.mp ih).1 z hz)
theorem qr6 {l:List Str}(h:sortedS l=true):l.Pairwise leS:=by
 cases l with
 |nil=>exact .nil
 |cons x r=>exact ql0 h
theorem quy {l m:List Str}(h1:l.Pairwise leS)(h2:m.Pairwise leS)(p:l.Perm m):l=m:=Db.eq_of_pairwise (le:=leS) (λa b _ _ x y=>by
 have e:=List.le_antisymm x y
 cases a;cases b
 simp only at e
 exact congrArg Str.mk (Array.toList_inj.mp e)) h1 h2 p
section
variable {X:Cx}
end
section
variable {prog:AF}{w:World}{A:AL}{E:Value->Af->Prop}{s:Af}
end
noncomputable abbrev Hd (x:Addr)(H:Hp):Prop:=∃C od,H x=some (exO x C od false)
section
variable {P:AF}{w:World}{K:Ae}{mg:Str->Option Value}{base:Heap}
end
section
variable {X:Cx}
end
section
variable {X:Cx}
theorem qxg (l b:Addr)(as bs:Array Value)(n m:Nat)(dd:Option Addr)(ss:Array (Option Value))(h0:¬(!as.isEmpty && AG.List.listTooLong (as.size+bs.size))=true)(h1:as.size<=A0)(h2:as.size+bs.size<=A0+1) :
  Meets (AG.«list.extend» ⟨[.ref l,.ref b],[]⟩) (λ_ R s=>s.heap.get? l=some ⟨.type "list",none,.seq as n,#[]⟩/\s.heap.get? b=some ⟨.type "tuple",dd,.seq bs m,ss⟩/\R (.ok (.ret .none)) { s with heap:=s.heap.update l (CC λx=>x++bs),toks:=s.toks }):=by
 refine .of_wp λprog w A R s h=>?_
 obtain⟨hp,g,d,tk,os⟩:=s
 obtain⟨hl,hb,h⟩:=h
 have k1:=AutoSeq1.idx_int
 have k2:=AutoSeq1.sub_tuple_tuple
 have k3:=AutoSeq1.sub_list_list
 have k4:=AutoSeq1.sub_tuple_list
 have k5:=AutoSeq1.sub_list_tuple
 have hz':(as++bs).size<=A0+1:=A3 (BS Array.size_append) h2
 wp_walk using (wpAny_updateSeq hl rfl (hz:=h1) (_hz':=hz')),wpAny_loadPart' hl,wpAny_loadPart' hb
 exact⟨_,rfl,h⟩
noncomputable def quz (K:Ae):V->List V->Hp->VK->Prop:=λx vs H Q=>∃l b xs zs,x=.ref l/\vs=[.ref b]/\H l=some (.lst xs)/\SqT K H b zs/\xs.length+zs.length<=A0/\Q .non (upd H l (.lst (xs++zs)))
theorem qpb:MtM X "list.extend" (quz X.K):=by
 intro pins s σ H x vs v us Q I rx rv h
 obtain⟨l,b,xs,zs,rfl,rfl,hH,hB,hz,q⟩:=h
 cases rx
 obtain⟨u,rfl,ru⟩:=rv.one
 cases ru
 obtain⟨z,its,n,r,hl,e⟩:=I.lstM hH
 obtain⟨its2,r2,t2,hz2⟩:=I.tuple hB
 have hl2:=r2.length
 obtain⟨⟨cl,dd,da,ss⟩,e2,rfl,n2,rfl⟩:=t2
 have hsz:its.toArray.size+its2.toArray.size<=A0:=by rw[Ao,Ao];lia
 have hlong:¬(!its.toArray.isEmpty && AG.List.listTooLong (its.toArray.size+its2.toArray.size))=true:=by
  rw[qna hsz,CZ]
  exact AC
 refine DN F.slot_list_extend ⟨_,e,rfl⟩ F.entry_list_extend (F.args_list_extend_2 _ _)
  (qxg l b its.toArray its2.toArray n n2 dd ss hlong (by rw[Ao];lia) (by lia)) ⟨e,e2,?_⟩
 refine⟨.non,_,I.lset (its':=its++its2) hH e (by simp) (r.append r2) ?_,rfl,q⟩
 rw[Aj]
 lia
noncomputable def strN:Option Str->V
 |none=>.non
 |some y=>.str y
theorem qr7:qdw X (.type "str") (λxs H Q=>∃o:Option Str,xs=[strN o]/\Q (.str (o.getD "None")) H):=by
 intro pins s σ H xs us Q I r h
 obtain⟨o,rfl,q⟩:=h
 cases o with
 |none =>
  obtain⟨u,rfl,e⟩:=qe0 r
  cases e
  exact PySem.P.str_of_none ⟨.str _,H,I.tok _,⟨_,rfl⟩,q⟩
 |some y =>
  obtain⟨u,rfl,t,rfl⟩:=qe0 r
  exact PySem.P.str_of_str ⟨.str _,H,I,⟨_,rfl⟩,q⟩
end
theorem qu0 {js:List (Option Nat)}{g:TG}{te:TE}{J:It}{σ:L2.St}{H:Hp}{Q:VK}{xs:List V}(G:Addr->V->Addr->Hp->Prop)(Gk:∀p x q H H',(∀b o,b≠p->H b=some o->H' b=some o)->G p x q H->G p x q H')(Gn:∀p x q H,G p x q H->H q≠none)
  (Sv:L2.St->Prop) (F:qls J H xs) (hz:xs.length<=A0) (h0:Sv (qe8 js σ))
  (step:∀(p:Addr)(x:V)(σ':L2.St)(H':Hp)(RR:L2.St->VK),x∈xs->H p=none->Same H H'->(∃zs,H' p=some (.lst zs))->Sv σ'->(∀σ3 q H5,Sv σ3->Same H' H5->H' q=none->G p x q H5->RR σ3 (.ref q) H5)->g x σ' H' λσ3 H3=>te σ3 H3 (RR σ3))
  (gk:∀(x:V)(σ':L2.St)(H':Hp)(R R':L2.St->Hp->Prop),(∀σ3 H3,R σ3 H3->R' σ3 H3)->g x σ' H' R->g x σ' H' R')
  (fin:∀(p:Addr)(H':Hp)(qs:List Addr),H p=none->Same H H'->H' p=some (.lst (qs.map V.ref))->qs.length=xs.length->qs.Nodup->(∀(j:Nat)(x:V)(q:Addr),xs[j]?=some x->qs[j]?=some q->G p x q H'/\q≠p/\H q=none)->Q (.ref p) H') :
  qif js g qqf te σ Q J H:=by
 intro p hp
 refine⟨λi m σ' H'=>m=xs.length-i/\i<=xs.length/\Sv σ'/\Same H H'/\∃ys:List Addr,H' p=some (.lst (ys.map V.ref))/\ys.length=i/\ys.Nodup/\∀(j:Nat)(x:V)(q:Addr),xs[j]?=some x->ys[j]?=some q->G p x q H'/\q≠p/\H q=none,⟨xs.length,by simp,Bs _,h0,qah (Same.refl H) hp,[],qz,rfl,.nil,λj x y _ hy=>by cases hy⟩,?_⟩
 rintro i m σ' H' ⟨rfl,hi,hv,sm,us,hh,hl,nd,tt⟩
 obtain⟨F1,F2⟩:=F _ sm
 by_cases hlt:i<xs.length
 .have ex:xs[i]?=some xs[i]:=by simp[hlt]
  obtain⟨go,yl⟩:=F1 i _ ex
  refine .inr ⟨go,λσ2 H2=>Sv σ2/\Same H H2/\∃ys:List Addr,H2 p=some (.lst (ys.map V.ref))/\ys.length=i+1/\ys.Nodup/\∀(j:Nat)(x:V)(q:Addr),xs[j]?=some x->ys[j]?=some q->G p x q H2/\q≠p/\H q=none,λσ2 H2 ⟨a,b,c⟩=>⟨xs.length-(i+1),by lia,rfl,hlt,a,b,c⟩,λx H2 hy=>?_⟩
  obtain⟨rfl,rfl⟩:=yl x H2 hy
  refine gk _ _ _ _ _ (λσ3 H3 z=>?_) (step p xs[i] σ' _ (λσ3 v H5=>∃zs,H5 p=some (.lst zs)/\zs.length<A0/\(Sv σ3/\Same H (upd H5 p (.lst (zs++[v])))/\∃ys:List Addr,upd H5 p (.lst (zs++[v])) p=some (.lst (ys.map V.ref))/\ys.length=i+1/\ys.Nodup/\∀(j:Nat)(x:V)(q:Addr),xs[j]?=some x->ys[j]?=some q->G p x q (upd H5 p (.lst (zs++[v])))/\q≠p/\H q=none)) (Bb hlt) hp sm ⟨_,hh⟩ hv λσ3 q H5 hs3 s5 nq hq=>?_)
  .exact z
  .have h5:=s5 _ _ hh
   have nqp:q≠p:=λz=>by rw[z,hh]at nq;cases nq
   have keep:∀b o,b≠p->H5 b=some o->upd H5 p (.lst (us.map V.ref++[V.ref q])) b=some o:=λb o n e=>by rw[ze n];exact e
   refine⟨_,h5,?_,hs3,qah (sm.trans s5) hp,us++[q],?_,?_,?_,λj x y hx hyy=>?_⟩
   .rw[Ac];lia
   .rw[qz,A1];rfl
   .rw[Aj,hl];rfl
   .refine AQ.mpr ⟨nd,List.pairwise_singleton _ _,λa ha b hb e=>?_⟩
    obtain⟨j,hj⟩:=Ba ha
    have lj:=(Ag.mp hj).1
    obtain⟨g1,_⟩:=tt j _ a (Ak (by lia)) hj
    have:=Gn _ _ _ _ g1
    rw[e,An.mp hb]at this
    exact this nq
   .by_cases hj:j<us.length
    .rw[AT hj]at hyy
     obtain⟨g1,g2,g3⟩:=tt j x y hx hyy
     exact⟨Gk _ _ _ _ _ (λb o n e=>keep b o n (s5 _ _ e)) g1,g2,g3⟩
    .rw[AM (Nat.not_lt.mp hj)]at hyy
     have ej:j=i:=by
      have:=(Ag.mp hyy).1
      simp at this
      lia
     subst ej
     rw[hl,D4]at hyy
     rw[ex]at hx
     cases hx
     cases hyy
     exact⟨Gk _ _ _ _ _ keep hq,nqp,sm.free nq⟩
 .have e:i=xs.length:=by lia
  subst e
  exact .inl ⟨F2,fin p _ us hp sm hh hl nd tt⟩
section
variable {X:Cx}
end
end Add
namespace Sts
open PySem PyProof.Rows
section
variable {prog:AF}{w:World}{A:AL}{E:Value->Af->Prop}{s:Af}
noncomputable def SetP (prog:AF)(w:World)(h:Heap)(a:Addr)(S:Str->Bool)(n:Nat):Prop :=
 ∃o es ep t,h.get? a=some o/\o.ExactSet/\o.data=.set es ep t/\ElemsOf (strKind prog w) es.toList/\(∀k,S k=true ↔ ∃e∈es.toList,(strKind prog w).is k e.2=true)
  /\ es.size<scanBound/\t.fits es.size=true/\es.size=n/\(es.size=0\/t.plain=false)
theorem qnx {t:BW}{es:Array (Int×Value)}{k:Nat}(h:t.plain=false):(relayAll t es k).2.1.plain=false:=by
 unfold relayAll
 split
 .rename_i t' order q
  dsimp only
  split
  .unfold BW.relaid BW.laid at q
   simp only[Option.bind_eq_bind,Option.bind_eq_some_iff,Option.pure_def,Option.some.injEq,Prod.mk.injEq]at q
   obtain⟨live,_,q1,_⟩:=q
   rw[<- q1];exact h
  .rfl
 .rfl
theorem qu1 {h:Heap}{a:Addr}{o:Obj}{es es':Array (Int×Value)}{ep:Nat}{t t':BW}(ho:h.get? a=some o)(hd:o.data=.set es ep t):(h.update a (Obj.putSet es' t')).get? a=some { o with data:=.set es' (ep+1) t' }:=by
 have:=Bd (Obj.putSet es' t') ho (by rw[putSet_of es' t' hd];rfl)
 rw[putSet_of es' t' hd]at this
 exact this
theorem qu2 (k:Str)(tok:Tok):(strKind prog w).is k (.str k tok)=true:=by
 show DD k (.str k tok)=true
 simp[DD]
theorem qxh {a:Addr}{S:Str->Bool}{n:Nat}{k:Str}{tok:Tok}{Q:Bool->Af->Prop}(hS:SetP prog w s.heap a S n)(room:n+1<scanBound)
  (fin:∀h',Bc a s.heap h'->SetP prog w h' a (λz=>S z || decide (z=k)) (if S k then n else n+1)->Q (!S k) { s with heap:=h' }) :
  wpAny (model prog w) A (setAddHashed a (.str k tok) ((strKind prog w).hash k)) Q E s:=by
 obtain⟨o,es,ep,t,ho,hex,hd,hel,hmem,hb,hf,hn,hpl⟩:=hS
 have hk:=qu2 (prog:=prog) (w:=w) k tok
 unfold setAddHashed setAddHashedIn
 refine BC (Aa (Cu ho hd hf ?_))
 dsimp only
 rw[byScan_of (x:=DP k tok) rfl hb hel,if_pos rfl]
 unfold setAddByScan
 refine Aa (Aa (Ed (Aa (wpAny_setScan_of (knd:=strKind prog w) hk ho hd hf hel ?_))))
 cases hr:es.toList.findIdx? (λe=>(strKind prog w).is k e.2) with
 |some j =>
  obtain⟨hj,hpj,_⟩:=List.findIdx?_eq_some_iff_getElem.mp hr
  have sk:S k=true:=(hmem k).mpr ⟨_,Bb hj,hpj⟩
  rw[sk]at fin
  refine Al (Al (fin s.heap (Bc.refl a s.heap) ⟨o,es,ep,t,ho,hex,hd,hel,λz=>?_,hb,hf,hn,hpl⟩))
  rw[<- hmem z,Bool.or_eq_true,decide_eq_true_eq]
  exact⟨λq=>q.elim id λe=>by rw[e];exact sk,.inl⟩
 |none =>
  have sk:S k=false:=by
   cases c:S k with
   |false=>rfl
   |true =>
    obtain⟨e,he,hp⟩:=(hmem k).mp c
    rw[List.findIdx?_eq_none_iff.mp hr e he]at hp
    cases hp
  rw[sk]at fin
  dsimp only
  have lp:=layNew_perm t es ((strKind prog w).hash k) (.str k tok)
  have lf:=layNew_fits t es ((strKind prog w).hash k) (.str k tok)
  generalize layNew t es ((strKind prog w).hash k) (.str k tok)=L at lp lf |-
  obtain⟨es1,t1,wd,gv⟩:=L
  dsimp only at lp lf |-
  rw[Array.toList_push]at lp
  have el1:=(hel.push hk (x:=.str k tok) rfl).perm lp
  have mem1:=mem_push_iff hk hmem lp
  have sz1:es1.size=n+1:=by rw[<- A6,lp.length_eq,Aj,A6,hn];rfl
  have b1:es1.size<scanBound:=by lia
  have gw:∀(b:Bool){s1:Af}{Q':Unit->Af->Prop},Q' () s1->wpAny (model prog w) A (match b with|true=>rule "set.scan.the-table-gave-way" |false=>pure ()) Q' E s1:=λb s1 Q' hq=>by
   cases b
   .exact Al hq
   .exact Ed hq
  have last:∀(h':Heap)(es2:Array (Int×Value))(ep':Nat)(t2:BW),Bc a s.heap h'->h'.get? a=some { o with data:=.set es2 ep' t2 }->es2.toList.Perm es1.toList->t2.fits es2.size=true->t2.plain=false->Q true { s with heap:=h' }:=λh' es2 ep' t2 sb g p f pl=>by
   have sz:es2.size=es1.size:=by rw[<- A6,p.length_eq,A6]
   exact fin h' sb ⟨_,es2,ep',t2,g,hex,rfl,el1.perm p,λz=>(mem1 z).trans ⟨λ⟨e,he,q⟩=>⟨e,p.mem_iff.mpr he,q⟩,λ⟨e,he,q⟩=>⟨e,p.mem_iff.mp he,q⟩⟩,by lia,f,by rw[sz,sz1];rfl,.inr pl⟩
  have tail:∀(g:Bool->Sem Unit)(t2:BW),(∀(b:Bool)(s1:Af)(Q':Unit->Af->Prop),Q' () s1->wpAny (model prog w) A (g b) Q' E s1)->t2.plain=false->t2.fits es1.size=true ->
    wpAny (model prog w) A (do
     storeSet a es1 t2
     if (!wd && t2.tooFull)=true then do
       g (relayAll t2 es1 (BW.grown es1.size)).2.2
       storeSet a (relayAll t2 es1 (BW.grown es1.size)).1 (relayAll t2 es1 (BW.grown es1.size)).2.1
       pure (some true)
      else pure (some true)) (λr s1=>wpAny (model prog w) A (match r with|some added=>pure added|none=>setAddHashedIn a (.str k tok) ((strKind prog w).hash k) 99999) Q E s1) E s:=λg t2 hg pl2 f2=>by
   refine Aa (wpAny_storeSet_of ho hd ?_ (fits_of_scanBound b1))
   have g1:=qu1 (es':=es1) (t':=t2) ho hd
   have sb1:=Bc.update s.heap a (Obj.putSet es1 t2)
   split
   .have rp:=relayAll_perm t2 es1 (BW.grown es1.size)
    have rf:=relayAll_fits t2 es1 (BW.grown es1.size)
    have rl:=qnx (es:=es1) (k:=BW.grown es1.size) pl2
    generalize relayAll t2 es1 (BW.grown es1.size)=Rl at rp rf rl |-
    obtain⟨es2,t3,gv2⟩:=Rl
    have z2:es2.size<scanBound:=by
     have:es2.size=es1.size:=by rw[<- A6,rp.length_eq,A6]
     lia
    refine Aa (hg _ _ _ ?_)
    refine Aa (wpAny_storeSet_of g1 rfl ?_ (fits_of_scanBound z2))
    exact Al (Al (last _ es2 _ t3 (sb1.trans (Bc.update _ a _)) (qu1 (o:={ o with data:=.set es1 (ep+1) t2 }) g1 rfl) rp rf rl))
   .exact Al (Al (last _ es1 _ t2 sb1 g1 (Db.refl _) f2 pl2))
  refine Aa (gw _ ?_)
  split
  .refine Aa ?_
   rw[hashByValue_scannable 8 (x:=DP k tok) rfl]
   refine Al (tail _ _ (λb s1 Q' hq=>gw b hq) rfl (BW.fits_plain_off lf))
  .rename_i np
   exact Aa (Al (tail _ t1 (λb s1 Q' hq=>gw b hq) (by cases c:t1.plain;rfl;exact absurd c np) lf))
theorem SetP.congr {h:Heap}{a:Addr}{S S':Str->Bool}{n n':Nat}(hS:SetP prog w h a S n)(e:∀k,S k=S' k)(en:n=n'):SetP prog w h a S' n':=by
 rw[<- en,<- (funext e:S=S')]
 exact hS
theorem SetP.keep {h h':Heap}{a:Addr}{S:Str->Bool}{n:Nat}(hS:SetP prog w h a S n)(k:∀o,h.get? a=some o->h'.get? a=some o):SetP prog w h' a S n:=by
 obtain⟨o,es,ep,t,ho,qa9⟩:=hS
 exact⟨o,es,ep,t,k o ho,qa9⟩
noncomputable def qla (acc:List Str)(x:Str):List Str:=if x∈acc then acc else acc++[x]
noncomputable def onceL (l:List Str):List Str:=l.foldl qla []
theorem qny (acc:List Str)(x z:Str):z∈qla acc x↔z∈acc\/z=x:=by
 unfold qla
 by_cases c:x∈acc
 .rw[if_pos c]
  exact⟨.inl,λq=>q.elim id λe=>by rw[e];exact c⟩
 .rw[if_neg c,AH,An]
theorem qu3 (acc:List Str)(x:Str):(qla acc x).length=if x∈acc then acc.length else acc.length+1:=by
 unfold qla
 by_cases c:x∈acc
 .rw[if_pos c,if_pos c]
 .rw[if_neg c,if_neg c,Aj];rfl
theorem qxi {acc:List Str}(h:acc.Nodup)(x:Str):(qla acc x).Nodup:=by
 unfold qla
 by_cases c:x∈acc
 .rw[if_pos c];exact h
 .rw[if_neg c]
  exact AQ.mpr ⟨h,by simp,λa ha b hb e=>c (by rw[<- An.mp hb,<- e];exact ha)⟩
theorem qka (l:List Str)(x:Str):onceL (l++[x])=qla (onceL l) x:=by
 unfold onceL
 rw[Du];rfl
theorem onceL_mem (l:List Str)(z:Str):z∈onceL l↔z∈l:=by
 have h:∀(l acc:List Str),z∈l.foldl qla acc↔z∈acc\/z∈l:=λl=>by
  induction l with
  |nil=>intro acc;simp
  |cons x l ih =>
   intro acc
   rw[List.foldl_cons,ih,qny,Ap,or_assoc]
 rw[onceL,h];simp
theorem onceL_nd (l:List Str):(onceL l).Nodup:=by
 have h:∀(l acc:List Str),acc.Nodup->(l.foldl qla acc).Nodup:=λl=>by
  induction l with
  |nil=>intro acc h;exact h
  |cons x l ih=>intro acc h;exact ih _ (qxi h x)
 exact h l [] List.nodup_nil
theorem qu4 (l:List Str):(onceL l).length<=l.length:=(onceL_nd l).length_le_of_subset λz hz=>(onceL_mem l z).mp hz
end
section
variable {prog:AF}{w:World}{A:AL}{R:Result->Af->Prop}{I:Addr}{fp wr:List Addr}{G:Array GenState->Array GenState->Prop}{n:Nat}{P:Nat->Value->Prop}{St:Nat->Af->Prop}
theorem fill (W:WalksS prog w A.in1 I fp wr G n P St)(T:Addr)(hT:T∉fp)(ss:List Str)(hn:ss.length=n)(hval:∀i v,P i v->∃k t,ss[i]?=some k/\v=.str k t)(hb:n+1<scanBound) :
  ∀(m i:Nat)(s:Af),n-i=m->i<=n->St i s->SetP prog w s.heap T (λz=>decide (z∈onceL (ss.take i))) (onceL (ss.take i)).length ->
   (∀s',Moved (T::wr) G s s'->SetP prog w s'.heap T (λz=>decide (z∈onceL ss)) (onceL ss).length->R (.ok (.ret .none)) s') ->
   codeAny (model prog w) A (.builtin "set.update.loop" ⟨[.ref T,.ref I],[]⟩) R s:=by
 have tw:T∉wr:=λq=>hT (W.sub _ q)
 have sub:∀b∈wr,b∈T::wr:=λb q=>Aq _ q
 intro m
 induction m with
 |zero =>
  intro i s hm hi hst hS fin
  have e:i=n:=by lia
  subst e
  rw[<- hn,Bx]at hS
  refine DK F.entry_set_update_loop ?_
  rw[AL.under_plainId DT _]
  show wpAny _ A.in1 (pyNext (.ref I) >>= _) _ _ s
  refine Aa (W.done s _ _ hst λs' mv=>?_)
  exact Al (fin s' (mv.mono sub) (hS.keep λo ho=>mv.heap T o tw ho))
 |succ m ih =>
  intro i s hm hi hst hS fin
  have lt:i<n:=by lia
  refine DK F.entry_set_update_loop ?_
  rw[AL.under_plainId DT _]
  show wpAny _ A.in1 (pyNext (.ref I) >>= _) _ _ s
  refine Aa (W.item i s _ _ lt hst λv s' hP hst' mv=>?_)
  obtain⟨k,t,hk,rfl⟩:=hval i v hP
  have tk:ss.take (i+1)=ss.take i++[k]:=by
   rw[CL,hk];rfl
  have hS':=hS.keep (h':=s'.heap) λo ho=>mv.heap T o tw ho
  have ll:=qu4 (ss.take i)
  rw[A2]at ll
  show wpAny _ A.in1 (holding [DP k t] (setAdd T (.str k t)) >>= _) _ _ s'
  refine Aa (BC ?_)
  unfold setAdd
  refine BC (Aa ((strKind prog w).pyHash (k:=k) (qu2 k t) ?_))
  refine qxh (s:={ s' with toks:=s'.toks+1 }) hS' (by lia) λh' sb hS2=>?_
  have hS3:SetP prog w h' T (λz=>decide (z∈onceL (ss.take (i+1)))) (onceL (ss.take (i+1))).length:=hS2.congr (λz=>by
   rw[tk,qka,<- Bool.decide_or]
   exact decide_eq_decide.mpr (qny _ _ _).symm) (by
   rw[tk,qka,qu3]
   by_cases c:k∈onceL (ss.take i)
   .rw[if_pos c,if_pos (decide_eq_true c)]
   .rw[if_neg c,if_neg (by simp[c])])
  refine Al ⟨plainId_quiet DT _,ih (i+1) _ (by lia) lt (W.frame _ s' _ _ hst' (Ck _) λb hb o e=>?_) hS3 λs2 mv2 hS4=>?_⟩
  .rw[sb.2 b (λq:b=T=>hT (by rw[<- q];exact hb))];exact e
  .refine fin s2 (Moved.trans W.gtrans ((mv.mono sub).then_heap (Ck _) λb o hb e=>?_) mv2) hS4
   rw[sb.2 b (λq:b=T=>hb (by rw[q];exact Am))];exact e
end
end Sts
namespace Sts
open PySem PyProof.Rows
set_option maxRecDepth 100000
section
variable {prog:AF}{w:World}{A:AL}{E:Value->Af->Prop}{s:Af}
noncomputable abbrev qfw (led:Bool):Obj:={ cls:=.type "set",dict:=none,data:=.set #[] 0 (.fresh 0 0 led) }
set_option maxHeartbeats 3200000 in
theorem qr8 {a:Value}{Q:Value->Af->Prop}
  (nx:∀led:Bool,wpAny (model prog w) A.in1.in1 (AG.«set.__init__» ⟨[.ref s.heap.objs.size,a],[]⟩)
    (λfin s'=>match fin with | .done f=>wants (λr s₂=>r=.none/\Q (.ref s.heap.objs.size) s₂) E (.ok f) s' | .again c'=>c'.quiet=true/\codeAny (model prog w) A.in1 c' (wants (λr s₂=>r=.none/\Q (.ref s.heap.objs.size) s₂) E) s')
    (λe s'=>wants (λr s₂=>r=.none/\Q (.ref s.heap.objs.size) s₂) E (.error e) s') { s with heap:=s.heap.push (qfw led) }) :
  wpAny (model prog w) A (call (.type "set") [a]) Q E s:=by
 obtain⟨c,tl,hmro⟩:=Di.mro
 have k1:=Di.made
 have k2:=Di.sub
 have k3:=Di.notType
 have k4:=Di.canCreate
 have k5:=F.typeCall_set_1 a
 refine CO (codeAny_of_tree ?_)
 show wpAny _ _ (callAny (.type "set") _) _ _ _
 refine Al ⟨Code.quiet_builtin _ Ek,DK F.entry_type_call ?_⟩
 rw[AL.under_plain (weight_type_call_type "set" [a] []) rfl]
 repeat (any_goals (first|assumption|wp_step))
 refine C8 (code_set_new_1 a (E:=E) (Q₁:=λobj s₁=>∃led:Bool,obj=.ref s.heap.objs.size/\s₁={ s with heap:=s.heap.push (qfw led) }) λled=>⟨led,rfl,rfl⟩) λr s₁ hr=>?_
 rcases r with e|fl
 .exact hr
 rcases fl with _|_|_|obj
 all_goals (try exact hr.elim)
 obtain⟨led,rfl,rfl⟩:=hr
 have hT:Af.TypeIs { s with heap:=s.heap.push (qfw led) } (.ref s.heap.objs.size) "set" := ⟨_,Au _ rfl,rfl⟩
 have k6:=Di.init.lookup
 have k7:=Di.init.bind (.ref s.heap.objs.size)
 repeat (any_goals (first|assumption|wp_step))
 refine C8 (Dv Di.init.plain F.entry_set_init (check_set_init_1 hT (nx led))) λr₂ s₂ hr₂=>?_
 rcases r₂ with e|fl₂
 .exact hr₂
 rcases fl₂ with _|_|_|r
 all_goals (try exact hr₂.elim)
 obtain⟨rfl,hq⟩:=hr₂
 repeat (any_goals (first|assumption|wp_step))
end
end Sts
namespace Sts
open PySem PyProof.Rows
set_option maxRecDepth 100000
section
variable {prog:AF}{w:World}{A:AL}{E:Value->Af->Prop}{s:Af}
theorem qxj {h:Heap}{a:Addr}{led:Bool}(g:h.get? a=some (qfw led)):SetP prog w h a (λ_=>false) 0 :=
 ⟨_,#[],0,_,g,⟨rfl,rfl,rfl⟩,rfl,(λ_ q=>nomatch q),λk=>⟨(λq=>nomatch q),λ⟨_,q,_⟩=>nomatch q⟩,En,rfl,rfl,.inl rfl⟩
set_option maxHeartbeats 3200000 in
theorem call_set_str {l:Addr}{items:Array Value}{ss:List Str}{Q:Value->Af->Prop}(hh:A.handled=none)(hl:s.heap.IsList l items)(hi:∀(i:Nat) (v:Value),items[i]?=some v->∃k t,ss[i]?=some k/\v=.str k t)(hn:ss.length=items.size)(hb:items.size+1<scanBound)
  (fin:∀(h':Heap)(tk:Nat),SetP prog w h' s.heap.objs.size (λz=>decide (z∈onceL ss)) (onceL ss).length->(∀b o,s.heap.get? b=some o->h'.get? b=some o)->s.toks<=tk->Q (.ref s.heap.objs.size) { s with heap:=h',toks:=tk }) :
  wpAny (model prog w) A (call (.type "set") [.ref l]) Q E s:=by
 refine qr8 λled=>?_
 obtain⟨⟨oc,od,odt,osl⟩,hol,hcl,nl,hdl⟩:=hl
 simp only at hcl hdl
 subst hcl;subst hdl
 have hS:(s.heap.push (qfw led)).get? s.heap.objs.size=some (qfw led):=Au _ rfl
 have hol1:=Ah (qfw led) hol
 have hl1:(s.heap.push (qfw led)).IsList l items:=⟨_,hol1,rfl,nl,rfl⟩
 have f1:=F.sub_list_set
 have f2:=F.sub_list_frozenset
 have f3:(BK "list" == BK "dict")=false:=by decide
 have lS:=Aw hol
 unfold AG.«set.__init__» noKeywords AG.Frozenset.updateFrom
 generalize hp:pyIter=PI
 wp_walk
 subst hp
 refine Dr hl1 (Aa (wpAny_runValue ?_))
 have sz:(s.heap.push (qfw led)).objs.size=s.heap.objs.size+1:=Bp _ _
 have nI:l≠(s.heap.push (qfw led)).objs.size:=by rw[sz];exact AD (Cs lS)
 have nT:s.heap.objs.size∉[(s.heap.push (qfw led)).objs.size,l]:=by
  rw[sz]
  simp only[Ap,Av,or_false,not_or]
  exact⟨AD (Cb _),Cq lS⟩
 refine fill ((Walks.list (A:=A.in1.in1.in1) (by simp[hh]) _ l nI items).toS) s.heap.objs.size nT ss hn hi hb items.size 0 _ (by lia) (Bs _) ⟨⟨_,Au _ rfl,rfl,rfl⟩,hl1.push _⟩ ?_ λs' mv hS'=>?_
 .exact(qxj (led:=led) (Ah _ hS)).congr (λ_=>rfl) rfl
 .obtain⟨h',g',d',tk',os'⟩:=s'
  have e1:g'=s.gens:=mv.gens
  have e2:d'=s.drawn:=mv.drawn
  have e3:os'=s.os:=mv.os
  subst e1;subst e2;subst e3
  show wpAny _ _ _ _ _ _
  refine Al (Al ⟨rfl,fin h' tk' hS' (λb o e=>?_) mv.toks⟩)
  have hb':=Aw e
  refine mv.heap b o ?_ (Ah _ (Ah _ e))
  simp only[Ap,Av,or_false,not_or]
  exact⟨AD hb',by rw[sz];exact AD (Cs hb')⟩
end
end Sts
namespace Sts
open PySem PyProof.Rows
set_option maxRecDepth 100000
theorem qqp:Slot "set" "__iter__" "set.__iter__" := F.slot_set_iter
theorem qcv:Slot "set_iterator" "__next__" "set_iterator.__next__" :=
 .of (owner := "set_iterator") (n := "__next__") (by rw[DJ,CG];kernel_rfl) Ek Ek Ek
  (by first|exact .inl Ek|exact .inr Ek) (by rw[isSubtype_type];kernel_rfl)
theorem qqq:Slot "set_iterator" "__iter__" "set_iterator.__iter__" :=
 .of (owner := "set_iterator") (n := "__iter__") (by rw[DJ,CG];kernel_rfl) Ek Ek Ek
  (by first|exact .inl Ek|exact .inr Ek) (by rw[isSubtype_type];kernel_rfl)
theorem qxk:entryFor table "set.__iter__" = some AG.«frozenset.__iter__» := entryFor_alias (id' := "frozenset.__iter__") (by kernel_rfl) rfl Ek (by kernel_rfl)
theorem qhi:entryFor table "set_iterator.__next__" = some AG.«set_iterator.__next__» := entryFor_of_tree (by kernel_rfl)
theorem qxl:entryFor table "set_iterator.__iter__" = some AG.«dict_keyiterator.__iter__» := entryFor_alias (id' := "dict_keyiterator.__iter__") (by kernel_rfl) rfl Ek (by kernel_rfl)
theorem qxm (a:Value):argsOk "set.__iter__" ⟨[a],[]⟩:=F.args_set_iter_1 a
theorem qhj (a:Value):argsOk "set_iterator.__next__" ⟨[a],[]⟩:=by unfold argsOk;kernel_rfl
theorem qxn (a:Value):argsOk "set_iterator.__iter__" ⟨[a],[]⟩:=by unfold argsOk;kernel_rfl
theorem qxo:typeLookup (.type "set") "__len__" = pure (some (.builtin "set.__len__")):=by rw[DJ,CG];kernel_rfl
theorem qqr:∀{l:List Nat}{i:Nat}(hi:i<l.length),(l[i]::l.eraseIdx i).Perm l
 |x::l,0,_=>Db.refl _
 |x::l,i+1,hi=>(Db.swap x (l[i]'(Dj hi)) (l.eraseIdx i)).trans ((List.perm_cons x).mpr (qqr (Dj hi)))
section
variable {M:Model}{A:AL}{E:Value->Af->Prop}{s:Af}
theorem qr9 {src:Source}{n:Nat}{Q:Nat->Af->Prop}(hn:n≠0)(h:∀i d,i<n->Q i { s with drawn:=d }):wpAny M A (choose src n) Q E s:=λΓ p hΓ=>by
 unfold choose
 rw[Sem.wp_choose]
 exact⟨hn,h _ _ (Nat.mod_lt _ (Nat.pos_of_ne_zero hn))⟩
theorem qqs:∀(n:Nat){xs:List Nat}{s:Af}{Q:List Nat->Af->Prop},xs.length=n->(∀ys d,ys.Perm xs->Q ys { s with drawn:=d })->wpAny M A (drawOrder n xs) Q E s
 |0,xs,s,Q,hl,h=>by
  unfold drawOrder
  have e:xs=[]:=Dc.mp hl
  subst e
  exact Al (h [] s.drawn (Db.refl _))
 |n+1,[],s,Q,hl,h=>by cases hl
 |n+1,x::xs,s,Q,hl,h=>by
  unfold drawOrder
  refine Aa (qr9 (by simp) λi d hi=>?_)
  have hg:(x::xs)[i]?=some (x::xs)[i]:=Ak hi
  rw[hg]
  refine Aa (qqs n (by rw[List.length_eraseIdx_of_lt hi,hl];rfl) λys d2 p=>Al ?_)
  exact h _ d2 (((List.perm_cons _).mpr p).trans (qqr hi))
end
end Sts
namespace Sts
open PySem PyProof.Rows
set_option maxRecDepth 100000
section
variable {prog:AF}{w:World}{A:AL}{E:Value->Af->Prop}{s:Af}
noncomputable def IsIt (h:Heap)(it:Addr)(first:Value)(S:Addr)(i n ep:Nat):Prop:=∃o,h.get? it=some o/\o.cls=.type "set_iterator" /\ o.data=.fields #[first,.int i 0,.ref S,.int n 0,.int ep 0]
noncomputable def qmm (h:Heap)(S:Addr)(es:Array (Int×Value))(ep:Nat)(t:BW):Prop:=∃o,h.get? S=some o/\o.cls=.type "set" /\ o.data=.set es ep t
theorem IsIt.ty {it S:Addr}{first:Value}{i n ep:Nat}(h:IsIt s.heap it first S i n ep):s.TypeIs (.ref it) "set_iterator" := by
 obtain⟨o,ho,hc,_⟩:=h
 exact⟨o,ho,hc⟩
theorem IsIt.set {h:Heap}{it S:Addr}{first:Value}{i n ep:Nat}(H:IsIt h it first S i n ep){k:Nat}{x:Value}{a:Array Value}(e:(#[first,.int i 0,.ref S,.int n 0,.int ep 0]:Array Value).setIfInBounds k x=a):∃o,(h.update it (CB (·.setIfInBounds k x))).get? it=some o/\o.cls=.type "set_iterator" /\ o.data=.fields a:=by
 obtain⟨o,ho,hc,hd⟩:=H
 exact⟨_,Bd _ ho (Cy (BL hd _)),(Obj.cls_mapFields ..).trans hc,by rw[BL hd,e]⟩
theorem itemT {it S:Addr}{i ep:Nat}{es:Array (Int×Value)}{t:BW}{e:Int×Value}{Q:Option Value->Af->Prop}(hit:IsIt s.heap it (.int 0 0) S i es.size ep)(hS:qmm s.heap S es ep t)(hf:t.fits es.size=true)(hT:w.params.followText "set-order" = true)
  (hx:(pickOrder (w.params.setOrder S ep) es)[i]?=some e) (hQ:∀h',IsIt h' it (.int 0 0) S (i+1) es.size ep->Bc it s.heap h'->Q (some e.2) { s with heap:=h' }) :
  wpAny (model prog w) A (pyNext (.ref it)) Q E s:=by
 obtain⟨o,ho,hc,hd⟩:=id hit
 obtain⟨oS,hoS,_,hdS⟩:=hS
 unfold pyNext
 refine Aa (CA (B3 (name:=Ab "__next__") hit.ty qcv
  (BF qcv hit.ty qhi ?_ (qhj _))))
 show wpAny _ _ (fieldsOf (.ref it) >>= _) _ _ s
 refine Aa (DW ho hd ?_)
 show wpAny _ _ (setEntries S >>= _) _ _ s
 refine Aa (C7 hoS hdS hf ?_)
 rw[if_neg (by simp)]
 show wpAny _ _ (setNext S 0 (i:Int).toNat (ep:Int).toNat >>= _) _ _ s
 refine Aa ?_
 unfold setNext
 refine Aa (Cu hoS hdS hf ?_)
 unfold setsByText
 refine Aa (Aa (C2 (Al ?_)))
 dsimp only
 rw[if_pos (show (model prog w).w.params.followText "set-order" = true from hT),if_neg (by simp)]
 refine Aa ?_
 unfold setWalk
 refine Aa (Cu hoS hdS hf ?_)
 unfold setsByText
 refine Aa (Aa (C2 (Al ?_)))
 dsimp only
 rw[if_pos (show (model prog w).w.params.followText "set-order" = true from hT)]
 refine Aa (C2 (Al (Al ?_)))
 have hx':(pickOrder ((model prog w).w.params.setOrder S ep) es)[(i:Int).toNat]?=some e:=hx
 rw[hx']
 dsimp only[Option.map]
 obtain⟨o1,ho1,hc1,hd1⟩:=hit.set (k:=0) (x:=rawInt ((0:Nat):Int)) (a:=#[.int 0 0,.int i 0,.ref S,.int es.size 0,.int ep 0]) rfl
 obtain⟨o2,ho2,hc2,hd2⟩:=(show IsIt _ it (.int 0 0) S i es.size ep from ⟨o1,ho1,hc1,hd1⟩).set (k:=1) (x:=rawInt ((i:Int)+1)) (a:=#[.int 0 0,.int ((i+1:Nat):Int) 0,.ref S,.int es.size 0,.int ep 0]) rfl
 refine Aa (BP ho hd (Nat.zero_lt_succ _) ?_)
 refine Aa (BP ho1 hd1 (show 1<5 by decide) (Al ⟨_,rfl,Al (hQ _ ⟨o2,ho2,hc2,hd2⟩ ((Bc.update ..).trans (Bc.update ..)))⟩))
theorem itemD {it S tp:Addr}{i ep n':Nat}{es:Array (Int×Value)}{t:BW}{ot:Obj}{ys:List Nat}{j:Nat}{e:Int×Value}{Q:Option Value->Af->Prop}(hit:IsIt s.heap it (.ref tp) S i es.size ep)(hS:qmm s.heap S es ep t)(hf:t.fits es.size=true)
  (htp:s.heap.get? tp=some ot) (hdt:ot.data=.seq (ys.map λ(k:Nat)=>rawInt k).toArray n') (hj:ys[i]?=some j) (hx:es[j]?=some e) (hQ:∀h',IsIt h' it (.ref tp) S (i+1) es.size ep->Bc it s.heap h'->Q (some e.2) { s with heap:=h' }) :
  wpAny (model prog w) A (pyNext (.ref it)) Q E s:=by
 obtain⟨o,ho,hc,hd⟩:=id hit
 obtain⟨oS,hoS,_,hdS⟩:=hS
 unfold pyNext
 refine Aa (CA (B3 (name:=Ab "__next__") hit.ty qcv
  (BF qcv hit.ty qhi ?_ (qhj _))))
 show wpAny _ _ (fieldsOf (.ref it) >>= _) _ _ s
 refine Aa (DW ho hd ?_)
 show wpAny _ _ (setEntries S >>= _) _ _ s
 refine Aa (C7 hoS hdS hf ?_)
 rw[if_neg (by simp)]
 show wpAny _ _ (seqItems? (.ref tp) >>= _) _ _ s
 refine Aa (BZ htp hdt ?_)
 dsimp only
 have hg:(ys.map λ(k:Nat)=>rawInt k).toArray[(i:Int).toNat]?=some (rawInt (j:Int)):=by
  rw[Ct,CH,Ai,hj];rfl
 rw[hg]
 dsimp only[rawInt]
 refine Aa ?_
 unfold setNextDrawn
 refine Aa (Cu hoS hdS hf ?_)
 dsimp only
 rw[if_neg (by simp)]
 have hx':es[(j:Int).toNat]?=some (e.1,e.2):=hx
 rw[hx']
 refine Al ?_
 obtain⟨o2,ho2,hc2,hd2⟩:=hit.set (k:=1) (x:=rawInt ((i:Int)+1)) (a:=#[.ref tp,.int ((i+1:Nat):Int) 0,.ref S,.int es.size 0,.int ep 0]) rfl
 refine Aa (BP ho hd (show 1<5 by decide) (Al ⟨_,rfl,Al (hQ _ ⟨o2,ho2,hc2,hd2⟩ (Bc.update ..))⟩))
theorem qmn {Q:Option Value->Af->Prop}{s0:Af}{it:Addr}(hh:A.handled=none)(eb:DS it s0.heap s.heap)(hQ:∀h',DS it s0.heap h'->Q none { s with heap:=h' }) :
  wpAny (model prog w) A.in1 (do let e <- newExc (.type "StopIteration") [];raiseNew e:Sem Fin) (λfin s'=>∃v,fin=Fin.done (Flow.ret v)/\wpAny (model prog w) A (pure (some v)) Q E s')
   (λe s'=>wpAny (model prog w) A (do let b <- isInstance e (BK "StopIteration");if b=true then pure none else throw e) Q E s') s:=by
 refine Aa ?_
 simp only[newExc,newTuple]
 refine Aa (Cf ?_ (by size_fits))
 refine Aa (m:=firstArgMember _ _) (wpAny_of_eq (a:=B5) (by first|rfl | (simp only[firstArgMember];rfl)) ?_)
 refine Cf ?_ (by size_fits)
 simp only[raiseNew]
 refine Aa (wpAny_handled ?_)
 rw[show A.in1.handled=none from hh]
 refine Aa (Al (wpAny_throw ?_))
 refine Aa (Ec (T := "StopIteration") (b:=true) ⟨_,Au _ rfl,rfl⟩ isSubtype_stop ?_)
 exact Al (hQ _ ((eb.push _).push _))
theorem doneT {it S:Addr}{i ep:Nat}{es:Array (Int×Value)}{t:BW}{Q:Option Value->Af->Prop}(hh:A.handled=none)(hit:IsIt s.heap it (.int 0 0) S i es.size ep)(hS:qmm s.heap S es ep t)(hf:t.fits es.size=true)(hT:w.params.followText "set-order" = true)
  (hx:(pickOrder (w.params.setOrder S ep) es)[i]?=none) (hQ:∀h',DS it s.heap h'->Q none { s with heap:=h' }) :
  wpAny (model prog w) A (pyNext (.ref it)) Q E s:=by
 obtain⟨o,ho,hc,hd⟩:=id hit
 obtain⟨oS,hoS,_,hdS⟩:=hS
 unfold pyNext
 refine Aa (CA (B3 (name:=Ab "__next__") hit.ty qcv
  (BF qcv hit.ty qhi ?_ (qhj _))))
 show wpAny _ _ (fieldsOf (.ref it) >>= _) _ _ s
 refine Aa (DW ho hd ?_)
 show wpAny _ _ (setEntries S >>= _) _ _ s
 refine Aa (C7 hoS hdS hf ?_)
 rw[if_neg (by simp)]
 show wpAny _ _ (setNext S 0 (i:Int).toNat (ep:Int).toNat >>= _) _ _ s
 refine Aa ?_
 unfold setNext
 refine Aa (Cu hoS hdS hf ?_)
 unfold setsByText
 refine Aa (Aa (C2 (Al ?_)))
 dsimp only
 rw[if_pos (show (model prog w).w.params.followText "set-order" = true from hT),if_neg (by simp)]
 refine Aa ?_
 unfold setWalk
 refine Aa (Cu hoS hdS hf ?_)
 unfold setsByText
 refine Aa (Aa (C2 (Al ?_)))
 dsimp only
 rw[if_pos (show (model prog w).w.params.followText "set-order" = true from hT)]
 refine Aa (C2 (Al (Al ?_)))
 have hx':(pickOrder ((model prog w).w.params.setOrder S ep) es)[(i:Int).toNat]?=none:=hx
 rw[hx']
 dsimp only[Option.map]
 refine Aa (BP ho hd (show 2<5 by decide) ?_)
 exact qmn (s0:=s) hh (Bc.update ..).extBut hQ
theorem doneE {it S:Addr}{i ep:Nat}{es:Array (Int×Value)}{t:BW}{Q:Option Value->Af->Prop}(hh:A.handled=none)(hit:IsIt s.heap it (.int 0 0) S i es.size ep)(hS:qmm s.heap S es ep t)(hf:t.fits es.size=true)(hT:w.params.followText "set-order" = false)
  (h0:es=#[]) (hQ:∀h',DS it s.heap h'->Q none { s with heap:=h' }) :
  wpAny (model prog w) A (pyNext (.ref it)) Q E s:=by
 subst h0
 obtain⟨o,ho,hc,hd⟩:=id hit
 obtain⟨oS,hoS,_,hdS⟩:=hS
 unfold pyNext
 refine Aa (CA (B3 (name:=Ab "__next__") hit.ty qcv
  (BF qcv hit.ty qhi ?_ (qhj _))))
 show wpAny _ _ (fieldsOf (.ref it) >>= _) _ _ s
 refine Aa (DW ho hd ?_)
 show wpAny _ _ (setEntries S >>= _) _ _ s
 refine Aa (C7 hoS hdS hf ?_)
 rw[if_neg (by simp)]
 show wpAny _ _ (setNext S 0 (i:Int).toNat (ep:Int).toNat >>= _) _ _ s
 refine Aa ?_
 unfold setNext
 refine Aa (Cu hoS hdS hf ?_)
 unfold setsByText
 refine Aa (Aa (C2 (Al ?_)))
 dsimp only
 rw[if_neg (show ¬(model prog w).w.params.followText "set-order" = true by rw[show (model prog w).w.params.followText "set-order" = false from hT];decide)]
 rw[if_neg (λz=>by
  have:((!t.plain && decide ((#[]:Array (Int×Value)).size > 1))=true):=z
  simp at this)]
 refine Aa (m:=(_:Sem Unit)) (wpAny_of_eq (a:=()) (by show (if (!t.led && !true)=true then _ else pure ())=_;simp) ?_)
 refine Al ?_
 refine Aa (BP ho hd (show 2<5 by decide) ?_)
 exact qmn (s0:=s) hh (Bc.update ..).extBut hQ
theorem doneD {it S tp:Addr}{i ep n':Nat}{es:Array (Int×Value)}{t:BW}{ot:Obj}{ys:List Nat}{Q:Option Value->Af->Prop}(hh:A.handled=none)(hit:IsIt s.heap it (.ref tp) S i es.size ep)(hS:qmm s.heap S es ep t)(hf:t.fits es.size=true)
  (htp:s.heap.get? tp=some ot) (hdt:ot.data=.seq (ys.map λ(k:Nat)=>rawInt k).toArray n') (hj:ys[i]?=none) (hQ:∀h',DS it s.heap h'->Q none { s with heap:=h' }) :
  wpAny (model prog w) A (pyNext (.ref it)) Q E s:=by
 obtain⟨o,ho,hc,hd⟩:=id hit
 obtain⟨oS,hoS,_,hdS⟩:=hS
 unfold pyNext
 refine Aa (CA (B3 (name:=Ab "__next__") hit.ty qcv
  (BF qcv hit.ty qhi ?_ (qhj _))))
 show wpAny _ _ (fieldsOf (.ref it) >>= _) _ _ s
 refine Aa (DW ho hd ?_)
 show wpAny _ _ (setEntries S >>= _) _ _ s
 refine Aa (C7 hoS hdS hf ?_)
 rw[if_neg (by simp)]
 show wpAny _ _ (seqItems? (.ref tp) >>= _) _ _ s
 refine Aa (BZ htp hdt ?_)
 dsimp only
 have hg:(ys.map λ(k:Nat)=>rawInt k).toArray[(i:Int).toNat]?=none:=by
  rw[Ct,CH,Ai,hj];rfl
 rw[hg]
 dsimp only
 obtain⟨o1,ho1,hc1,hd1⟩:=hit.set (k:=0) (x:=rawInt 0) (a:=#[.int 0 0,.int i 0,.ref S,.int es.size 0,.int ep 0]) rfl
 refine Aa (BP ho hd (Nat.zero_lt_succ _) ?_)
 refine Aa (BP ho1 hd1 (show 2<5 by decide) ?_)
 exact qmn (s0:=s) hh ((Bc.update ..).trans (Bc.update ..)).extBut hQ
end
end Sts
namespace Sts
open PySem PyProof.Rows
set_option maxRecDepth 100000
theorem qnz {α:Type}:∀{l:List α}{i:Nat}(hi:i<l.length),(l[i]::l.eraseIdx i).Perm l
 |x::l,0,_=>Db.refl _
 |x::l,i+1,hi=>(Db.swap x (l[i]'(Dj hi)) (l.eraseIdx i)).trans ((List.perm_cons x).mpr (qnz (Dj hi)))
theorem qqt {α:Type}(f:Nat->Nat):∀(fuel k:Nat)(left:List α)(out:Array α),left.length=fuel->(pickOrder.go f fuel k left out).toList.Perm (out.toList++left)
 |0,k,left,out,hl=>by
  rw[Dc.mp hl,B8]
  unfold pickOrder.go
  exact Db.refl _
 |fuel+1,k,left,out,hl=>by
  unfold pickOrder.go
  have hi:f k % left.length<left.length:=Nat.mod_lt _ (by lia)
  rw[Ak hi]
  dsimp only
  refine(qqt f fuel (k+1) _ _ (by rw[List.length_eraseIdx_of_lt hi,hl];rfl)).trans ?_
  rw[Array.toList_push,AN]
  exact Db.append_left _ (qnz hi)
theorem qsa {α:Type}(f:Nat->Nat)(xs:Array α):(pickOrder f xs).toList.Perm xs.toList:=by
 unfold pickOrder
 exact qqt f xs.size 0 xs.toList #[] (by rw[A6])
noncomputable def atE (es:Array (Int×Value))(j:Nat):Value:=(es[j]?.map (·.2)).getD .none
theorem qxp {es:Array (Int×Value)}{ys:List Nat}(p:ys.Perm (Bh es.size)):(ys.map (atE es)).Perm (es.toList.map (·.2)):=by
 refine(p.map _).trans (Db.of_eq ?_)
 refine Bq λi=>?_
 have et:es.toList[i]?=es[i]?:=Cz
 rw[Ai,Ai,et]
 by_cases c:i<es.size
 .rw[DB c,B7 c]
  show some (atE es i)=_
  unfold atE
  rw[B7 c];rfl
 .rw[AO (by rw[BX];lia),DX (by lia)];rfl
section
variable {prog:AF}{w:World}{A:AL}{E:Value->Af->Prop}{s:Af}
inductive Md (w:World) (S:Addr) (es:Array (Int×Value)) (ep:Nat):Value->List Addr->List Nat->List Value->Prop where
 |text (h:w.params.followText "set-order" = true):Md w S es ep (.int 0 0) [] [] ((pickOrder (w.params.setOrder S ep) es).toList.map (·.2))
 |drawn (tp:Addr) (ys:List Nat) (p:ys.Perm (Bh es.size)):Md w S es ep (.ref tp) [tp] ys (ys.map (atE es))
 |none (h:w.params.followText "set-order" = false) (h0:es=#[]):Md w S es ep (.int 0 0) [] [] []
theorem Md.perm {S:Addr}{es:Array (Int×Value)}{ep:Nat}{first:Value}{xs:List Addr}{ys:List Nat}{vs:List Value}(m:Md w S es ep first xs ys vs):vs.Perm (es.toList.map (·.2)):=by
 cases m with
 |text h=>exact(qsa _ _).map _
 |drawn tp ys p=>exact qxp p
 |none h h0=>rw[h0];exact Db.refl _
theorem Md.len {S:Addr}{es:Array (Int×Value)}{ep:Nat}{first:Value}{xs:List Addr}{ys:List Nat}{vs:List Value}(m:Md w S es ep first xs ys vs):vs.length=es.size:=by rw[m.perm.length_eq,Ac,A6]
noncomputable def TpAt (h:Heap)(xs:List Addr)(ys:List Nat):Prop:=∀tp∈xs,∃ot n',h.get? tp=some ot/\ot.data=.seq (ys.map λ(k:Nat)=>rawInt k).toArray n'
noncomputable def StI (I S:Addr)(es:Array (Int×Value))(ep:Nat)(t:BW)(first:Value)(xs:List Addr)(ys:List Nat)(i:Nat)(s:Af):Prop:=IsIt s.heap I first S i es.size ep/\qmm s.heap S es ep t/\TpAt s.heap xs ys
theorem StI.fr {I S:Addr}{es:Array (Int×Value)}{ep:Nat}{t:BW}{first:Value}{xs:List Addr}{ys:List Nat}{i:Nat}(st:StI I S es ep t first xs ys i s){s':Af}(k:∀b∈I::S::xs,∀o,s.heap.get? b=some o->s'.heap.get? b=some o):StI I S es ep t first xs ys i s':=by
 obtain⟨⟨o,h1,h2⟩,⟨o2,g1,g2⟩,tp⟩:=st
 refine⟨⟨o,k I Am o h1,h2⟩,⟨o2,k S (Aq _ Am) o2 g1,g2⟩,λx hx=>?_⟩
 obtain⟨ot,n',q1,q2⟩:=tp x hx
 exact⟨ot,n',k x (Aq _ (Aq _ hx)) ot q1,q2⟩
theorem qyv (hh:A.handled=none){I S:Addr}{es:Array (Int×Value)}{ep:Nat}{t:BW}{first:Value}{xs:List Addr}{ys:List Nat}{vs:List Value}(hf:t.fits es.size=true)(m:Md w S es ep first xs ys vs)(nS:S≠I)(nX:I∉xs) :
  WalksS prog w A I (I::S::xs) [I] (λa b=>b=a) vs.length (λi v=>vs[i]?=some v) (StI I S es ep t first xs ys) where
 sub:=λb hb=>by rw[An.mp hb];exact Am
 grefl:=λ_=>rfl
 gtrans:=λ_ _ _ h1 h2=>h2.trans h1
 frame:=λi s h' tk st _ k=>st.fr k
 item:=λi s Q E hi st hQ=>by
  have go:∀(v:Value) h',vs[i]?=some v->IsIt h' I first S (i+1) es.size ep->Bc I s.heap h'->Q (some v) { s with heap:=h' }:=λv h' hv it sb=>by
   have k:∀b o,b≠I->s.heap.get? b=some o->h'.get? b=some o:=λb o hb e=>by rw[sb.2 b hb];exact e
   refine hQ v _ hv ⟨it,?_,λx hx=>?_⟩ ⟨λb o hb e=>k b o (λz=>hb (An.mpr z)) e,rfl,rfl,rfl,Ax _⟩
   .obtain⟨o2,g1,g2⟩:=st.2.1
    exact⟨o2,k S o2 nS g1,g2⟩
   .obtain⟨ot,n',q1,q2⟩:=st.2.2 x hx
    exact⟨ot,n',k x ot (λz=>nX (by rw[<- z];exact hx)) q1,q2⟩
  cases m with
  |text h =>
   rw[Ac,A6]at hi
   have hg:=B7 hi
   exact itemT st.1 st.2.1 hf h hg λh' it sb=>go _ h' (by rw[Ai,Cz,hg];rfl) it sb
  |drawn tp ys p =>
   rw[Ac]at hi
   have hj:ys[i]?=some ys[i]:=Ak hi
   have hl:ys[i]<es.size:=CV.mp (p.mem_iff.mp (Bb hi))
   obtain⟨ot,n',q1,q2⟩:=st.2.2 tp Am
   exact itemD st.1 st.2.1 hf q1 q2 hj (B7 hl) λh' it sb=>go _ h' (by
    rw[Ai,hj]
    show some (atE es ys[i])=_
    unfold atE
    rw[B7 hl];rfl) it sb
  |none h h0=>exact absurd hi (DL _)
 done:=λs Q E st hQ=>by
  have go:∀h',DS I s.heap h'->Q none { s with heap:=h' }:=λh' eb=>hQ _ ⟨λb o hb e=>eb b o (λz=>hb (An.mpr z)) e,rfl,rfl,rfl,Ax _⟩
  cases m with
  |text h=>exact doneT hh st.1 st.2.1 hf h (DX (by rw[Ac,A6];exact Ax _)) go
  |drawn tp ys p =>
   obtain⟨ot,n',q1,q2⟩:=st.2.2 tp Am
   exact doneD hh st.1 st.2.1 hf q1 q2 (AO (by rw[Ac];exact Ax _)) go
  |none h h0=>exact doneE hh st.1 st.2.1 hf h h0 go
 self:=λi s Q E st hQ=>by
  refine wpAny_pyIter_slot st.1.ty qqq (BF qqq st.1.ty qxl ?_ (qxn _))
  show wpAny _ _ (ret (.ref I)) _ _ s
  exact Al ⟨_,rfl, "set_iterator",_,st.1.ty,qcv.lookup,hQ⟩
end
end Sts
namespace Sts
open PySem PyProof.Rows
set_option maxRecDepth 100000
section
variable {prog:AF}{w:World}{A:AL}{E:Value->Af->Prop}{s:Af}
structure Went (s s':Af):Prop where
 keep:∀b o,s.heap.get? b=some o->s'.heap.get? b=some o
 gens:s'.gens=s.gens
 os:s'.os=s.os
 toks:s.toks<=s'.toks
theorem qu5 {S:Addr}{es:Array (Int×Value)}{ep:Nat}{t:BW}{Q:Value->Af->Prop}(hS:qmm s.heap S es ep t)(hf:t.fits es.size=true)(hp:es.size=0\/t.plain=false)(h1:es.size≠1)(hz:es.size<=A0)
  (hQ:∀s' I first xs ys vs,Md w S es ep first xs ys vs->StI I S es ep t first xs ys 0 s'->(∀b∈I::S::xs,b<s'.heap.objs.size)->(∀b∈I::xs,s.heap.objs.size<=b)->I∉xs->Went s s'->Q (.ref I) s') :
  wpAny (model prog w) A (pyIter (.ref S)) Q E s:=by
 obtain⟨oS,hoS,hcS,hdS⟩:=id hS
 have ty:s.TypeIs (.ref S) "set" := ⟨oS,hoS,hcS⟩
 have lS:=Aw hoS
 refine wpAny_pyIter_slot ty qqp (BF qqp ty qxk ?_ (qxm _))
 show wpAny _ _ (AG.Frozenset.sizeOf S >>= _) _ _ s
 refine Aa ?_
 unfold AG.Frozenset.sizeOf
 refine Aa (C7 hoS hdS hf (Al ?_))
 refine Aa ?_
 unfold setDrawn
 refine Aa (Cu hoS hdS hf ?_)
 unfold setsByText
 refine Aa (Aa (C2 (Al (Al ?_))))
 dsimp only
 have plain:∀(g:Md w S es ep (.int 0 0) [] [] (match w.params.followText "set-order" with|true=>(pickOrder (w.params.setOrder S ep) es).toList.map (·.2)|false=>[])),wpAny (model prog w) A.in1 (do ret (<- newFields "set_iterator" [rawInt 0,rawInt 0,.ref S,rawInt es.size,rawInt (<- setEpoch S)])) (λfin s'=>∃v,fin=Fin.done (Flow.ret v)/\∃T' r,s'.TypeIs v T'/\typeLookup (.type T') "__next__" = pure (some r)/\Q v s') E s:=λg=>by
  refine Aa (wpAny_setEpoch_of hoS hdS hf ?_)
  refine Aa (Cf (Al ⟨_,rfl, "set_iterator",_,⟨_,Au _ rfl,rfl⟩,qcv.lookup,?_⟩) (by size_fits))
  refine hQ _ _ _ _ _ _ g ⟨⟨_,Au _ rfl,rfl,rfl⟩,⟨oS,Ah _ hoS,hcS,hdS⟩,(λ_ q=>nomatch q)⟩ (λb hb=>?_) (λb hb=>?_) (λq=>nomatch q) ⟨λb o e=>Ah _ e,rfl,rfl,Ax _⟩
  .show b<(s.heap.push _).objs.size
   rw[Bp]
   rcases Ap.mp hb with z|z
   .rw[z];exact Cb _
   .rw[An.mp z];exact Cs lS
  .rw[An.mp hb];exact Ax _
 cases hT:w.params.followText "set-order" with
 |true =>
  rw[hT]at plain
  rw[if_neg (by
   show ¬((!(w.params.followText "set-order") && _)=true)
   rw[hT];simp)]
  exact Aa (Al (plain (.text hT)))
 |false =>
  rw[hT]at plain
  by_cases c:es.size=0
  .rw[if_neg (by
    show ¬((!(w.params.followText "set-order") && (!t.plain && decide (es.size > 1)))=true)
    rw[c];simp)]
   exact Aa (Al (plain (.none hT (Array.eq_empty_of_size_eq_zero c))))
  .have pf:t.plain=false:=hp.resolve_left c
   rw[if_pos (by
    show (!(w.params.followText "set-order") && (!t.plain && decide (es.size > 1)))=true
    rw[hT,pf];simp;lia)]
   refine Aa (qqs es.size (BX) λys d p=>?_)
   refine Aa (wpAny_newTuple (items:=ys.map λ(i:Nat)=>rawInt i) ?_ (by rw[Ac,p.length_eq,BX];exact hz))
   refine Aa (wpAny_setEpoch_of (Ah _ hoS) hdS hf ?_)
   refine Aa (Cf (Al ⟨_,rfl, "set_iterator",_,⟨_,Au _ rfl,rfl⟩,qcv.lookup,?_⟩) (by size_fits))
   refine hQ _ _ _ _ _ _ (.drawn _ ys p) ⟨⟨_,Au _ rfl,rfl,rfl⟩,⟨oS,Ah _ (Ah _ hoS),hcS,hdS⟩,λtp q=>?_⟩ (λb hb=>?_) (λb hb=>?_) (λq=>?_) ⟨λb o e=>Ah _ (Ah _ e),rfl,rfl,Ax _⟩
   .rw[An.mp q]
    exact⟨_,0,Ah _ (Au _ rfl),rfl⟩
   .show b<((s.heap.push _).push _).objs.size
    rw[Bp,Bp]
    rcases Ap.mp hb with z|z
    .rw[z]
     show (s.heap.push _).objs.size<_
     rw[Bp];exact Cb _
    rcases Ap.mp z with z|z
    .rw[z];exact Cs (Cs lS)
    .rw[An.mp z];exact Cs (Cb _)
   .rcases Ap.mp hb with z|z
    .rw[z]
     show _<=(s.heap.push _).objs.size
     rw[Bp];exact Ck _
    .rw[An.mp z];exact Ax _
   .have q:=An.mp q
    have:(s.heap.push _).objs.size=s.heap.objs.size:=q
    rw[Bp]at this
    exact absurd this (Nat.succ_ne_self _)
end
end Sts
namespace Sts
open PySem PyProof.Rows
set_option maxRecDepth 100000
section
variable {prog:AF}{w:World}{A:AL}{E:Value->Af->Prop}{s:Af}
theorem qu6 {x:Value}{Q:Bool->Af->Prop}(hT:s.TypeIs x "set")(h:Q false s):wpAny (model prog w) A (AG.List.listLengthHint x) Q E s:=by
 unfold AG.List.listLengthHint
 refine Aa (wpAny_specialOf hT qxo ?_)
 generalize hid:("set.__len__" : String)=id0
 wp_delta
 rw[show splitId id0=some ("set", "__len__") from by subst hid;decide +kernel]
 subst hid
 refine Aa (Ec (b:=true) hT (by rw[isSubtype_type];kernel_rfl) ?_)
 refine Aa (wpAny_typeOf hT ?_)
 exact Al h
noncomputable abbrev qkb:Obj:={ cls:=.type "list",data:=.seq ([]:List Value).toArray }
theorem items_eq {vs:List Value}{acc:Array Value}(h:ItemsOf (λi v=>vs[i]?=some v) acc vs.length):acc.toList=vs:=by
 obtain⟨h1,h2⟩:=h
 refine Bq λi=>?_
 rw[Cz]
 by_cases c:i<vs.length
 .have hg:acc[i]?=some acc[i]:=B7 (by lia)
  rw[hg];exact(h2 i _ hg).symm
 .rw[DX (by lia),AO (by lia)]
theorem qn0 {S:Addr}{es:Array (Int×Value)}{ep:Nat}{t:BW}{Q:List Value->Af->Prop}(hh:A.handled=none)(hS:qmm s.heap S es ep t)(hf:t.fits es.size=true)(hp:es.size=0\/t.plain=false)(h1:es.size≠1)(hz:es.size<=A0)
  (hQ:∀s' vs,vs.Perm (es.toList.map (·.2))->Went s s'->s.heap.objs.size<=s'.heap.objs.size->Q vs s'):wpAny (model prog w) A (collect (.ref S)) Q E s:=by
 obtain⟨oS,hoS,hcS,hdS⟩:=id hS
 have lS:=Aw hoS
 have hS1:qmm (s.heap.push qkb) S es ep t:=⟨oS,Ah _ hoS,hcS,hdS⟩
 have hL1:(s.heap.push qkb).get? s.heap.objs.size=some qkb:=Au _ rfl
 unfold collect
 refine Aa (wpAny_runValue (DK F.entry_proto_collect ?_))
 rw[AL.under_plainId F.plain_proto_collect _]
 show wpAny _ A.in1 (newList [] >>= λl=>again (.builtin "list.__iadd__" ⟨[l,.ref S],[]⟩)) _ _ s
 refine Aa (Cf (Al ⟨plainId_quiet F.plain_list_iadd _,DK F.entry_list_iadd ?_⟩))
 rw[AL.under_plainId F.plain_list_iadd _]
 show wpAny _ A.in1 (AG.List.listExtendWith (.ref s.heap.objs.size) (.ref S) (.ref s.heap.objs.size)) _ _ { s with heap:=s.heap.push qkb }
 unfold AG.List.listExtendWith
 refine Aa (wpAny_typeOf (T := "set") ⟨oS,Ah _ hoS,hcS⟩ ?_)
 rw[if_neg (by
  have e:AG.List.listSameRef (.ref s.heap.objs.size) (.ref S)=false:=by simp[AG.List.listSameRef];exact Cq lS
  rw[e];decide)]
 refine Aa (qu5 hS1 hf hp h1 hz λs' I first xs ys vs md st lt ge nx wt=>?_)
 have szL:(s.heap.push qkb).objs.size=s.heap.objs.size+1:=Bp _ _
 have ge':∀b∈I::xs,s.heap.objs.size+1<=b:=λb hb=>by rw[<- szL];exact ge b hb
 have nL:s.heap.objs.size∉I::S::xs:=λq=>by
  rcases Ap.mp q with z|q
  .have:=ge' I Am
   rw[<- z]at this
   exact B4 _ this
  rcases Ap.mp q with z|q
  .rw[<- z]at lS;exact B4 _ lS
  .exact B4 _ (ge' _ (Aq _ q))
 have nS:S≠I:=λz=>by
  have:=ge' I Am
  rw[<- z]at this
  exact B4 _ (A8 lS (Nat.le_of_succ_le this))
 obtain⟨oS',hoS',hcS',_⟩:=st.2.1
 refine Aa (BC (qu6 ⟨oS',hoS',hcS'⟩ ?_))
 show wpAny _ A.in1 (rule "list.extend.makes-room" >>= λ_=>AG.List.listTouch (.ref s.heap.objs.size) >>= λ_ =>
  again (.builtin "list.extend.loop" ⟨[.ref s.heap.objs.size,.ref I,.ref s.heap.objs.size],[]⟩)) _ _ _
 have k1:=wt.keep _ _ hL1
 refine Aa (Ed (Aa ?_))
 show wpAny _ A.in1 (updateSeq s.heap.objs.size (·.push .none) >>= λ_=>updateSeq s.heap.objs.size (·.pop)) _ _ _
 refine Aa (wpAny_updateSeq k1 rfl ?_)
 have k2:=Bd (CC (·.push B5)) k1 rfl
 refine wpAny_updateSeq k2 rfl ?_
 have k3:=Bd (CC (·.pop)) k2 rfl
 have oth:∀b o,b≠s.heap.objs.size->s'.heap.get? b=some o->((s'.heap.update s.heap.objs.size (CC (·.push B5))).update s.heap.objs.size (CC (·.pop))).get? b=some o :=
  λb o hb e=>(Bm _ _ (AZ hb)).trans ((Bm _ _ (AZ hb)).trans e)
 have W:=qyv (prog:=prog) (A:=A.in1) (by simpa using hh) hf md nS nx
 refine Al ⟨plainId_quiet F.plain_extend_loop _,codeAny_extend_loopS W (by rw[md.len];exact hz) _ nL _ _ 0 _ _ _ rfl (Bs _) (st.fr λb hb o e=>oth b o (λz=>nL (by rw[<- z];exact hb)) e) k3 (ItemsOf.nil _) λs2 acc c mv k4 hacc=>?_⟩
 show wpAny _ A (load s.heap.objs.size >>= _) _ _ s2
 refine Aa (wpAny_load k4 (Al ?_))
 show Q acc.toList s2
 rw[items_eq hacc]
 refine hQ s2 vs md.perm ⟨λb o e=>?_,mv.gens.trans wt.gens,mv.os.trans wt.os,A3 wt.toks mv.toks⟩ (D0 (Aw k4))
 have hb:=Aw e
 have nb:b≠s.heap.objs.size:=AD hb
 refine mv.heap b o (λz=>?_) (oth b o nb (wt.keep b o (Ah _ e)))
 rcases Ap.mp z with z|z
 .exact nb z
 .have:=ge' I Am
  rw[<- An.mp z]at this
  exact B4 _ (A8 hb (Nat.le_of_succ_le this))
end
end Sts
namespace Sts
open PySem PyProof.Rows
set_option maxRecDepth 100000
theorem qxq {D ks:List Str}(nd:D.Nodup)(sub:∀z∈D,z∈ks)(l:ks.length<=D.length):ks.Perm D:=by
 induction D generalizing ks with
 |nil=>rw[Dc.mp (Nat.le_zero.mp l)]
 |cons d D ih =>
  obtain⟨nd1,nd2⟩:=AX.mp nd
  have hd:=sub d Am
  refine(List.perm_cons_erase hd).trans ((List.perm_cons d).mpr (ih nd2 (λz hz=>?_) ?_))
  .exact(List.mem_erase_of_ne (λe=>nd1 (by rw[<- e];exact hz))).mpr (sub z (Aq _ hz))
  .rw[DH hd]
   have:(d::D).length=D.length+1:=rfl
   lia
theorem qn1:∀{vs:List Value},(∀v∈vs,∃k t,v=.str k t)->∃ks,StrsAre vs ks/\∀k t,DP k t∈vs->k∈ks
 | [],_=>⟨[],.nil,λ_ _ h=>nomatch h⟩
 |v::vs,h=>by
  obtain⟨k,t,rfl⟩:=h v Am
  obtain⟨ks,h1,h2⟩:=qn1 λv hv=>h v (Aq _ hv)
  refine⟨k::ks,.cons k t h1,λk' t' hm=>?_⟩
  rcases Ap.mp hm with z|z
  .cases z;exact Am
  .exact Aq _ (h2 k' t' z)
section
variable {prog:AF}{w:World}{A:AL}{E:Value->Af->Prop}{s:Af}
set_option maxHeartbeats 1000000 in
theorem sorted_setP {S:Addr}{ss:List Str}{Q:Value->Af->Prop}(hh:A.handled=none)(hS:SetP prog w s.heap S (λz=>decide (z∈onceL ss)) (onceL ss).length)(n1:(onceL ss).length≠1)(h64:(onceL ss).length<64)
  (hQ:∀s' q out ss' e,Went s s'->s.heap.objs.size<=q->s'.heap.get? q=some (seqObj "list" out e)->StrsAre out.toList ss'->ss'.Perm (onceL ss)->sortedS ss'=true->Q (.ref q) s') :
  wpAny (model prog w) A (call (.builtin "sorted") [.ref S]) Q E s:=by
 obtain⟨o,es,ep,t,ho,hex,hd,hel,hmem,hb,hf,hn,hpl⟩:=hS
 refine Calls.call_function_entry kind_sorted plain_sorted entry_sorted (args_sorted1 _) ?_
 unfold AG.«sorted»
 refine Aa (m:=checkCount "sorted" 1 1 _) (Al ?_)
 refine Aa (qn0 (by simpa using hh) ⟨o,ho,hex.1,hd⟩ hf hpl (by lia) (fits_of_scanBound hb) λs1 vs pm wt ge=>?_)
 have lv:vs.length=(onceL ss).length:=by rw[pm.length_eq,Ac,A6,hn]
 obtain⟨ks,k1,k2⟩:=qn1 (vs:=vs) λv hv=>by
  obtain⟨e,he,rfl⟩:=AW.mp (pm.mem_iff.mp hv)
  obtain⟨k,hk,_⟩:=(hel e he).1
  obtain⟨t,ht⟩:=D8 (show DD k e.2=true from hk)
  exact⟨k,t,ht⟩
 have kp:ks.Perm (onceL ss):=qxq (onceL_nd ss) (λz hz=>by
  obtain⟨e,he,hk⟩:=(hmem z).mp (decide_eq_true hz)
  obtain⟨t,ht⟩:=D8 (show DD z e.2=true from hk)
  exact k2 z t (pm.mem_iff.mpr (AW.mpr ⟨e,he,ht⟩))) (by rw[<- k1.len_eq,lv];exact Ax _)
 refine Aa (wpAny_newList ?_ (by rw[Bg];lia))
 have hoL:(s1.heap.push (seqObj "list" vs.toArray 0)).get? s1.heap.objs.size=some (seqObj "list" vs.toArray 0):=Au _ rfl
 show wpAny _ _ _ _ _ { s1 with heap:=s1.heap.push (seqObj "list" vs.toArray 0) }
 refine Aa (BC (BF slot_list_sort ⟨_,hoL,rfl⟩ entry_list_sort (list_sort_treeK (s:={ s1 with heap:=s1.heap.push (seqObj "list" vs.toArray 0) }) strKind_oneLt hoL k1.keysOf (λv1 v2 qa9 e=>keyKind_strs (by rw[<- e];exact k1)) (by lia) λst' hp hs=>⟨_,rfl,?_⟩) (args_list_sort _)))
 obtain⟨ss',h1,h2,h3⟩:=sorted_out_str k1 hp hs
 obtain⟨e,he⟩:=sortedHeap_at (out:=(arrOf st').map (·.2)) hoL
 refine Al ⟨_,rfl,hQ _ _ _ ss' e ⟨λb u q=>?_,wt.gens,wt.os,wt.toks⟩ ge he h1 (h2.trans kp) h3⟩
 have q1:=wt.keep b u q
 have lt:=Aw q1
 show (sortedHeap _ _ _ _).get? b=some u
 rw[sortedHeap_old (AD lt) (by show b<(s1.heap.push _).objs.size;rw[Bp];exact Cs lt)]
 exact Ah _ q1
end
end Sts
namespace Add
open PySem PySem.Spec PyProof.Rows L2
theorem qn2:bootBuiltins "sorted" = some (.builtin "sorted"):=Ek
theorem qu7:bootBuiltins "set" = some (.type "set"):=Ek
section
variable {X:Cx}
noncomputable def tSS (K:Ae)(t:TA):TE:=λσ H Q=>t σ H λvs H1=>∃(l:Addr)(ss:List Str),vs=[.ref l]/\SqL K H1 l (ss.map V.str)/\ss.length<=4000/\(Sts.onceL ss).length≠1/\(Sts.onceL ss).length<64/\∀(q:Addr)(ss':List Str),H1 q=none->ss'.Perm (Sts.onceL ss)->ss'.Pairwise leS->Q (.ref q) (upd H1 q (.lst (ss'.map V.str)))
theorem qhk {e:Expr}{t:TA}{p p2 pos pos2:Pos}(hca:X.calm=true)(hgl:Gl X "sorted")(hml:X.mg "sorted" = none)(hgr:Gl X "set")(hmr:X.mg "set" = none)(ha:PA X [e] t)
  (he:starEach [e] X.env=(false,eval e X.env)::starEach [] X.env:=by rfl):PE X (.Call (.Name "sorted" p) [.Call (.Name "set" p2) [e] [] pos2] [] pos) (tSS X.K t):=by
 intro pins s σ H Q I h
 refine B0 (qee I hgl hml qn2 ?_)
 refine CW ?_ rfl rfl
 show wpAny _ _ (spliced ((false,eval (.Call (.Name "set" p2) [e] [] pos2) X.env)::[])) _ _ s
 refine Dd ?_
 refine B0 (qee I hgr hmr qu7 ?_)
 refine Bv (thn (ha pos2 pins s σ H _ I h) λus s1 ⟨vs,H1,I1,r1,q1⟩=>?_) he rfl
 obtain⟨l,ss,rfl,hq,l4,n1,h64,q⟩:=q1
 obtain⟨u,rfl,rx⟩:=qe0 r1
 cases rx
 obtain⟨its,r',pl,hz⟩:=I1.list hq
 have sa:=qj8 r'
 have la:=sa.len_eq
 have hh:X.A.handled=none:=I.ok.hd hca
 refine Sts.call_set_str (ss:=ss) hh pl.isList (λi v hv=>?_) (by rw[Ao];exact la.symm) (by rw[Ao,la];unfold scanBound;lia) λh' tk hS kp tl=>Dt ?_
 .obtain⟨k,t,e1,e2⟩:=sa.item i v (by rw[CH]at hv;exact hv)
  exact⟨k,t,e2,e1⟩
 refine Sts.sorted_setP hh hS n1 h64 λs' qa out ss' c wt ge hg so sp ss1=>?_
 have ge':s1.heap.objs.size<=qa:=by
  obtain⟨o,es,ep,t,ho,_⟩:=hS
  exact A3 (D0 (Aw ho)) ge
 have new:ObjOk X.prog X.w (upd H1 qa (.lst (ss'.map V.str))) s'.heap qa (.lst (ss'.map V.str)):=by
  have hl:=sp.length_eq
  exact⟨by rw[Ac,hl];exact D0 (qrg (by lia)),out.toList,c,qnu so,hg⟩
 have I3:=I1.laid (t':=s'.toks) (λb o e=>wt.keep b o (kp b o e)) ge' new
 have I4:Inv X pins σ (upd H1 qa (.lst (ss'.map V.str))) s':=⟨I3.ok,by rw[wt.os];exact I3.os,by rw[wt.gens];exact I3.bare,I3.base,I3.loc,I3.cell,I3.free,I3.freeC,I3.pin,I3.hok,I3.len⟩
 exact⟨.ref _,_,I4,rfl,q _ ss' (I1.hok.fresh ge') sp (qr6 ss1)⟩
end
end Add
namespace Add
open PySem PySem.Spec PyProof.Rows L2
section
variable {X:Cx}{pins:List (Addr×Obj)}{σ:L2.St}{H:Hp}{s:Af}
theorem qxr {d:Addr}{o:Obj}{kvs:List (Key×V)}(I:Inv X pins σ H s)(hd:H d=some (.dK kvs))(ho:s.heap.get? d=some o):Inv X pins σ (upd H d (.frz o (.dK kvs))) s:=by
 have ne:∀b u,H b=some u->(∀k,u ≠ .dK k)->b≠d:=λb u e n z=>by
  rw[z,hd]at e
  exact n kvs (A7 e).symm
 have nn:∀b,H b=none->b≠d:=λb e z=>by rw[z,hd]at e;cases e
 refine⟨I.ok,I.os,I.bare,⟨I.base.keep,I.base.slot,λb u e n hx=>?_,I.base.there,λb xs e=>?_,λb u v e=>?_,λb ps e=>?_⟩,I.loc,I.cell,?_,λx c e=>?_,λp hp=>?_,λb u e=>?_,I.len⟩
 .have:=I.base.free b u e n hx
  rw[ze (nn b this)];exact this
 .have:=I.base.tups b xs e
  rw[ze (ne b _ this λk z=>nomatch z)];exact this
 .have:=I.base.frzs b u v e
  rw[ze (ne b _ this λk z=>nomatch z)];exact this
 .obtain⟨m,this⟩:=I.base.tbls b ps e
  exact⟨m,by rw[ze (ne b _ this λk z=>nomatch z)];exact this⟩
 .rw[ze (nn _ I.free)];exact I.free
 .rw[ze (nn _ (I.freeC x c e))];exact I.freeC x c e
 .obtain⟨q1,q2,q3⟩:=I.pin p hp
  exact⟨q1,by rw[ze (nn _ q2)];exact q2,q3⟩
 .have st:∀{b u},ObjOk X.prog X.w H s.heap b u->ObjOk X.prog X.w (upd H d (.frz o (.dK kvs))) s.heap b u:=λ{b u} q=>q.stay (λ_ _ _ e=>e) (λc e=>by rw[ze (ne c _ e λk z=>nomatch z)];exact e) λc xs e=>by rw[ze (ne c _ e λk z=>nomatch z)];exact e
  by_cases z:b=d
  .rw[z]at e |-
   rw[qz]at e
   cases e
   exact⟨ho,st (I.hok d _ hd)⟩
  .rw[ze z]at e
   exact st (I.hok b u e)
theorem qu8 {d:Addr}{o:Obj}{kvs:List (Key×V)}(I:Inv X pins σ H s)(hd:H d=some (.frz o (.dK kvs)))(h0:∀u v,X.H₀ d≠some (.frz u v)):Inv X pins σ (upd H d (.dK kvs)) s:=by
 have ne:∀b u,H b=some u->(∀k v,u ≠ .frz k v)->b≠d:=λb u e n z=>by
  rw[z,hd]at e
  exact n _ _ (A7 e).symm
 have nn:∀b,H b=none->b≠d:=λb e z=>by rw[z,hd]at e;cases e
 refine⟨I.ok,I.os,I.bare,⟨I.base.keep,I.base.slot,λb u e n hx=>?_,I.base.there,λb xs e=>?_,λb u v e=>?_,λb ps e=>?_⟩,I.loc,I.cell,?_,λx c e=>?_,λp hp=>?_,λb u e=>?_,I.len⟩
 .have:=I.base.free b u e n hx
  rw[ze (nn b this)];exact this
 .have:=I.base.tups b xs e
  rw[ze (ne b _ this λk v z=>nomatch z)];exact this
 .have:=I.base.frzs b u v e
  rw[ze (λz=>h0 u v (by rw[<- z];exact e))];exact this
 .obtain⟨m,this⟩:=I.base.tbls b ps e
  exact⟨m,by rw[ze (ne b _ this λk v z=>nomatch z)];exact this⟩
 .rw[ze (nn _ I.free)];exact I.free
 .rw[ze (nn _ (I.freeC x c e))];exact I.freeC x c e
 .obtain⟨q1,q2,q3⟩:=I.pin p hp
  exact⟨q1,by rw[ze (nn _ q2)];exact q2,q3⟩
 .have st:∀{b u},ObjOk X.prog X.w H s.heap b u->ObjOk X.prog X.w (upd H d (.dK kvs)) s.heap b u:=λ{b u} q=>q.stay (λ_ _ _ e=>e) (λc e=>by rw[ze (ne c _ e λk v z=>nomatch z)];exact e) λc xs e=>by rw[ze (ne c _ e λk v z=>nomatch z)];exact e
  by_cases z:b=d
  .rw[z]at e |-
   rw[qz]at e
   cases e
   exact st (I.hok d _ hd).2
  .rw[ze z]at e
   exact st (I.hok b u e)
noncomputable def tForV (te:TE)(g:TG)(tb:TS):TS:=λD σ H=>te σ H λx H1=>∃(d:Addr)(kvs:List (Key×V)),x=.ref d/\H1 d=some (.dK kvs)/\∀o:Obj,∃Pv:Nat->L2.St->Hp->Prop,Pv 0 σ (upd H1 d (.frz o (.dK kvs)))/\(∀i σ H,Pv i σ H->H d=some (.frz o (.dK kvs))) /\
 (∀(i:Nat)(kv:Key×V)(σ:L2.St)(H:Hp),kvs[i]?=some kv->Pv i σ H->g kv.2 σ H λσ2 H2=>tb { nx:=Pv (i+1),rt:=λ_ _=>False,ct:=Pv (i+1) } σ2 H2)/\∀σ H,Pv kvs.length σ H->D.nx σ (upd H d (.dK kvs))
theorem kv_at {kvs:List (Key×V)}{vs:List (Key×Value)}(h:KV kvs vs){i:Nat}{kv:Key×V}(e:kvs[i]?=some kv):∃k u,vs[i]?=some (k,u)/\RelV kv.2 u:=by
 induction h generalizing i with
 |nil=>cases e
 |cons r _ ih =>
  cases i with
  |zero=>cases e;exact⟨_,_,rfl,r.2⟩
  |succ i=>exact ih e
theorem qpc {tg e:Expr}{body:List Stmt}{te:TE}{g:TG}{tb:TS}{pos apos cpos:Pos}(hp:Bw (model X.prog X.w) X.A X.env X.xe)(hca:X.calm=true)(he:PE X e te)(hg:PG X tg g)(hb:PSs X body tb)
  (hbase:attributeBase e "values" X.env (eval e X.env)=eval e X.env:=by rfl) (hline:(apos.endLine == cpos.line)=true:=by rfl)
  (hs:∀x,foldedSetIterable (.Call (.Attribute e "values" apos) [] [] cpos) X.env x=pure x:=by intro _;rfl):PS X (.For tg (.Call (.Attribute e "values" apos) [] [] cpos) body [] pos) (tForV te g tb):=by
 intro pins s σ H D I h
 refine wpAny_For ?_ hs
 refine DR hbase hline (thn (he pins s σ H _ I h) λv s1 ⟨x,H1,I1,r1,q1⟩=>?_)
 obtain⟨d,kvs,rfl,hd,q⟩:=q1
 cases r1
 obtain⟨z,lo,vs,kv,hD⟩:=qne I1.hok hd
 refine⟨"dict", "dict.values",PySem.F.plainAttrs_dict,CS,PySem.F.type_dict_values,hD.typeIs,hD.mapOf.noDict,De rfl (PySem.evalArgs_none ?_)⟩
 refine call_meetsIn CS hD.typeIs PySem.F.entry_dict_values (PySem.F.args_dict_values_1 _) (meets_dict_values (qbb X.prog X.w) d lo) ⟨⟨vs,hD⟩,?_⟩
 obtain⟨ep,hat⟩:=hD.dictAt
 obtain⟨o,es,ho,hx,hdt,r1,r2,r3⟩:=id hat
 have I2:Inv X pins σ H1 { s1 with heap:=s1.heap.push { cls:=.type "dict_values",data:=.fields #[.ref d] } }:=I1.kept (t':=s1.toks) λb o q=>Ah _ q
 refine wpAny_pyIter_values (knd:=qbb X.prog X.w) (kvs:=vs) (ep:=ep) ⟨_,Au _ rfl,rfl,rfl⟩ (hat.push _) ?_
 obtain⟨Pv,p0,pd,step,fin⟩:=q o
 have lk:kvs.length=vs.length:=kv.length
 have h0:∀u v,X.H₀ d≠some (.frz u v):=λu v e=>by
  have:=I1.base.frzs d u v e
  rw[hd]at this;cases this
 have hh:X.A.handled=none:=I.ok.hd hca
 generalize hit:(s1.heap.push { cls:=.type "dict_values",data:=.fields #[.ref d] }).objs.size=it
 have I3:Inv X pins σ H1 { s1 with heap:=(s1.heap.push { cls:=.type "dict_values",data:=.fields #[.ref d] }).push { cls:=.type "dict_valueiterator",data:=.fields #[.ref d,.int 0 0,.int vs.length 0,.int ep 0] } }:=I2.kept (t':=s1.toks) λb o q=>Ah _ q
 have I4:=qxr I3 hd (Ah _ (Ah _ ho))
 have nit:upd H1 d (.frz o (.dK kvs)) it=none:=by
  rw[ze (λe=>?_),<- hit]
  .exact I2.hok.fresh (Ax _)
  .have:=I2.hok.fresh (a:=it) (BS hit)
   rw[e,hd]at this;cases this
 have fp:∀{H':Hp},H' it=none->qd6 X pins H' it:=λn=>⟨n,(I2.fpOk (H':=upd H1 d (.frz o (.dK kvs))) (BS hit) nit).2⟩
 refine codeAny_forLoop_any (λn s'=>∃i σ' H',n=vs.length-i/\i<=vs.length/\Inv X pins σ' H' s'/\s'.heap.IsValIter it d i vs.length ep/\H' it=none/\Pv i σ' H') ?_ vs.length ⟨0,σ,_,rfl,Bs _,I4,⟨_,by rw[<- hit];exact Au _ rfl,rfl,rfl⟩,nit,p0⟩
 rintro n s5 ⟨i,σ5,H5,rfl,hi,I5,st5,n5,p5⟩
 have hd5:=pd i σ5 H5 p5
 have ho5:s5.heap.get? d=some o:=(show ObjOk X.prog X.w H5 s5.heap d (.frz o (.dK kvs)) from I5.hok d _ hd5).1
 have hat5:s5.heap.DictAt (qbb X.prog X.w) d vs ep:=⟨o,es,ho5,hx,hdt,r1,r2,r3⟩
 obtain⟨f0,f1,f2,f3,f4,f5⟩:=fp n5
 by_cases c:i<vs.length
 .have hk:kvs[i]?=some (kvs[i]'(by lia)):=Ak (by lia)
  obtain⟨k,u,e1,ru⟩:=kv_at kv hk
  refine BM hp (wpAny_pyNext_values_item st5 hat5 e1 λh' st6 sb=>?_)
  have I6:Inv X pins σ5 H5 { s5 with heap:=h' }:=I5.turned (t':=s5.toks) (λb o hb e=>(sb.2 b hb).trans e) f0 f1 f3 f4 f5
  refine BM hp (letGo_valiter st6 ?_)
  obtain⟨oi,hoi,hci,hdi⟩:=id st6
  have I6':=I6.pinned (fp:=[it]) (λb hb=>by rw[An.mp hb];exact fp n5) (λb hb=>by rw[An.mp hb];exact⟨oi,hoi,λv e=>by rw[hdi]at e;cases e⟩)
  refine BM hp (thn (hg _ _ σ5 H5 _ u _ I6' ru (step i _ σ5 H5 hk p5)) λ_ s6 ⟨σ6,H6,I7,q6⟩=>?_)
  refine BM hp (thn (hb _ s6 σ6 H6 _ I7 q6) λf s7 q7=>?_)
  have again:∀{σ7:L2.St}{H7:Hp},Inv X (pins++qid [it] h') σ7 H7 s7->Pv (i+1) σ7 H7->∃m,m<vs.length-i/\∃i σ' H',m=vs.length-i/\i<=vs.length/\Inv X pins σ' H' s7/\s7.heap.IsValIter it d i vs.length ep/\H' it=none/\Pv i σ' H':=λ{σ7 H7} I8 n7=>by
   have pn:=I8.pin (it,oi) (AK _ (AK _ (qef (An.mpr rfl) hoi)))
   exact⟨vs.length-(i+1),by lia,i+1,σ7,H7,rfl,by lia,I8.unpinned,⟨oi,pn.1,hci,hdi⟩,pn.2.1,n7⟩
  cases f with
  |next=>obtain⟨σ7,H7,I7,n7⟩:=q7;exact again I7 n7
  |cont=>obtain⟨σ7,H7,I7,n7⟩:=q7;exact again I7 n7
  |brk=>obtain⟨σ7,H7,I7,n7⟩:=q7;exact n7.elim
  |ret v=>obtain⟨x7,σ7,H7,I7,r7,n7⟩:=q7;exact n7.elim
 .have ei:i=vs.length:=by lia
  refine BM hp (wpAny_pyNext_values_end hh st5 hat5 (AO (by lia)) λh' eb=>?_)
  have I6:Inv X pins σ5 H5 { s5 with heap:=h' }:=I5.turned (t':=s5.toks) (λb o hb e=>eb b o hb e) f0 f1 f3 f4 f5
  exact Dl ⟨σ5,_,qu8 I6 hd5 h0,fin σ5 H5 (by rw[lk,<- ei];exact p5)⟩
end
noncomputable def isB (K:Ae)(C:Addr):Bool:=(AJ K (.ref C) "__class__" == some (some (.builtin "object.__class__"))) && (Ds K (.builtin "object.__class__") "__get__" == some (some (.builtin "getset_descriptor.__get__"))) && (PySem.W.takesIn K (.builtin "object.__class__") == some true) && (DE K C (.type "object") == some true) && (BN K (.ref C) (.ref C) == some true)
theorem qsb {X:Cx}:qdw X (.builtin "isinstance") (λxs H Q=>∃(x C dx:Addr)(fs:List (Str×V)),xs=[.ref x,.ref C]/\H x=some (.ins C dx fs)/\Cls X.K C/\isB X.K C=true/\Q (.bl true) H):=by
 intro pins s σ H xs us Q I r h
 obtain⟨x,C,dx,fs,rfl,e,cl,b,q⟩:=h
 unfold isB at b
 simp only[AE,beq_iff_eq]at b
 obtain⟨⟨⟨⟨b1,b2⟩,b3⟩,b4⟩,b5⟩:=b
 obtain⟨u,u',rfl,r1,r2⟩:=Vals.two r
 cases (show u'=Ar C from r2)
 exact qlj I r1 (.ins e cl b1 b2 b3 b4) b5 λtk=>⟨.bl true,H,I.tok tk,rfl,q⟩
theorem op_alt {X:Cx}{f:Value->Value->Sem Value}{r1 r2:R2}(h1:OpR X f r1)(h2:OpR X f r2):OpR X f (λx y H Q=>r1 x y H Q\/r2 x y H Q):=by
 intro pins s σ H x y v u Q I rx ry h
 rcases h with h|h
 .exact h1 pins s σ H x y v u Q I rx ry h
 .exact h2 pins s σ H x y v u Q I rx ry h
end Add
namespace K42
open PySem L2 Add
noncomputable def top (i:Nat):Stmt:=PySem.Challenge.pw_termcourt_k42_rows_read.main.body.getD i (.Pass ⟨0,0,0,0⟩)
noncomputable abbrev qih:Stmt:=top 18
noncomputable abbrev qcw:Stmt:=top 17
noncomputable abbrev qmo:Stmt:=top 16
noncomputable abbrev qii:Stmt:=qct (top 9) 0
noncomputable abbrev qkc:Stmt:=top 21
noncomputable abbrev qev:Stmt:=top 20
noncomputable abbrev qei:Stmt:=top 27
noncomputable abbrev qjq:Stmt:=top 26
noncomputable abbrev qij:Stmt:=qct (top 34) 0
noncomputable abbrev qkd:Stmt:=top 36
noncomputable abbrev qke:Stmt:=top 38
noncomputable abbrev qmp:Stmt:=top 37
noncomputable abbrev qbr:Stmt:=qct (top 23) 0
noncomputable abbrev qgz:Stmt:=qct (top 10) 0
noncomputable abbrev qg0:Stmt:=qct (top 8) 0
noncomputable abbrev qik:Stmt:=top 40
noncomputable abbrev qfx:Stmt:=qct (top 7) 0
noncomputable abbrev qdv:Stmt:=qct (top 23) 3
noncomputable abbrev qkf:Stmt:=top 43
noncomputable abbrev qhl:Stmt:=top 42
noncomputable abbrev qil:Stmt:=top 41
noncomputable abbrev qkg:Stmt:=top 39
noncomputable abbrev qew:Stmt:=top 45
noncomputable abbrev qe9:Stmt:=top 44
noncomputable abbrev qfy:Stmt:=qct (top 6) 0
noncomputable abbrev qim:Stmt:=top 35
noncomputable abbrev qg1:Stmt:=top 47
noncomputable abbrev qin:Stmt:=top 48
noncomputable abbrev qfa:Stmt:=top 49
noncomputable abbrev qg2:Stmt:=top 50
noncomputable abbrev qhm:Stmt:=top 51
noncomputable abbrev qhn:Stmt:=top 52
noncomputable abbrev qgc:Stmt:=top 53
noncomputable abbrev qec:Stmt:=top 54
noncomputable abbrev qkh:Stmt:=top 55
noncomputable abbrev qgd:Stmt:=top 56
noncomputable abbrev qho:Stmt:=top 57
noncomputable abbrev qio:Stmt:=top 58
noncomputable abbrev qge:Stmt:=top 59
noncomputable abbrev qg3:Stmt:=top 60
noncomputable abbrev qds:Stmt:=qct (top 23) 2
noncomputable abbrev qgf:Stmt:=qct (top 23) 1
noncomputable abbrev qki:Stmt:=top 61
noncomputable abbrev qfz:Stmt:=qct (top 34) 3
noncomputable abbrev qg4:Stmt:=top 62
noncomputable abbrev qej:Stmt:=qct (top 34) 1
noncomputable abbrev qex:Stmt:=qct (top 34) 4
noncomputable abbrev qsc:Stmt:=top 63
structure DefAt (K:Ae)(mg:Str->Option Value)(x:Str)(st:Stmt)(ps:List Str)(f:Addr)(fd:AB):Prop where
 fn:Fun K x x st f fd
 mgx:mg x=some (.ref f)
 bd:Binds K fd ps []
noncomputable abbrev Pd (K:Ae)(x:Str)(st:Stmt)(f:Addr):Prop:=∃(oc:Value)(od:Option Addr)(kV doc pm:Value)(an:Option Addr)(cdv ct:Value)(osl:Array (Option Value)),A9 K A5 x=some (some (.ref f))/\K.lookup f=some ⟨oc,od,.func (B1 x x (qbu st) (qbd st) (qaa st) .none kV doc pm an cdv ct),osl⟩/\Ci K cdv x=true/\Bj K (.ref f)=true
noncomputable abbrev Pm (K:Ae)(C:Addr)(x q:Str)(st:Stmt)(f:Addr):Prop:=∃(oc:Value)(od:Option Addr)(kV doc pm:Value)(an:Option Addr)(cdv ct:Value)(osl:Array (Option Value)),AJ K (.ref C) x=some (some (.ref f))/\Cr K (.ref f)=some (.type "function")/\K.lookup f=some ⟨oc,od,.func (B1 x q (qbu st) (qbd st) (qaa st) .none kV doc pm an cdv ct),osl⟩/\Ci K cdv q=true/\Bj K (.ref f)=true
theorem pd_of {K:Ae}{x:Str}{st:Stmt}{f:Addr}{oc:Value}{od:Option Addr}{kV doc pm:Value}{an:Option Addr}{cdv ct:Value}{osl:Array (Option Value)}(a:A9 K A5 x=some (some (.ref f)))(l:K.lookup f=some ⟨oc,od,.func (B1 x x (qbu st) (qbd st) (qaa st) .none kV doc pm an cdv ct),osl⟩)(c:Ci K cdv x=true)(k:Bj K (.ref f)=true):Pd K x st f:=⟨oc,od,kV,doc,pm,an,cdv,ct,osl,a,l,c,k⟩
theorem pm_of {K:Ae}{C:Addr}{x q:Str}{st:Stmt}{f:Addr}{oc:Value}{od:Option Addr}{kV doc pm:Value}{an:Option Addr}{cdv ct:Value}{osl:Array (Option Value)}(a:AJ K (.ref C) x=some (some (.ref f)))(t:Cr K (.ref f)=some (.type "function"))(l:K.lookup f=some ⟨oc,od,.func (B1 x q (qbu st) (qbd st) (qaa st) .none kV doc pm an cdv ct),osl⟩)(c:Ci K cdv q=true)(k:Bj K (.ref f)=true):Pm K C x q st f:=⟨oc,od,kV,doc,pm,an,cdv,ct,osl,a,t,l,c,k⟩
theorem qbe {K:Ae}{h:Heap}{mg:Str->Option Value}{x:Str}{st:Stmt}{f:Addr}(X:K.In h)(G:h.Ns A5 mg)(p:Pd K x st f){ps:List Str}(b:∀(kV doc pm:Value) (an:Option Addr) (cdv ct:Value) (us:List Value),us.length=ps.length->bindArgs (B1 x x (qbu st) (qbd st) (qaa st) .none kV doc pm an cdv ct) ⟨us,[]⟩=pure (ps.zip us)):∃fd,DefAt K mg x st ps f fd:=by
 obtain⟨oc,od,kV,doc,pm,an,cdv,ct,osl,a,l,c,k⟩:=p
 have F:=qoy (st:=st) l c k
 exact⟨_,F,AU X G a,F.binds b⟩
theorem qfj {K:Ae}{C:Addr}{x q:Str}{st:Stmt}{f:Addr}(p:Pm K C x q st f){ps:List Str}(b:∀(kV doc pm:Value) (an:Option Addr) (cdv ct:Value) (us:List Value),us.length=ps.length->bindArgs (B1 x q (qbu st) (qbd st) (qaa st) .none kV doc pm an cdv ct) ⟨us,[]⟩=pure (ps.zip us)):∃fd,MethAt K x q st ps f fd:=by
 obtain⟨oc,od,kV,doc,pm,an,cdv,ct,osl,a,t,l,c,k⟩:=p
 have F:=qoy (st:=st) l c k
 exact⟨_,F,F.binds b,t⟩
theorem qgm {p:List Value->Prop}(h:∀x0,p [x0]):∀us,us.length=1->p us:=λus hl=>by obtain⟨x,rfl⟩:=List.length_eq_one_iff.mp hl;exact h x
theorem argS {p:List Value->Prop}{n:Nat}(h:∀x t,t.length=n->p (x::t)):∀us,us.length=n+1->p us:=λus hl=>by obtain⟨x,t,rfl⟩:=List.exists_cons_of_length_eq_add_one hl;exact h x t (Dg hl)
theorem qey {p:List Value->Prop}(h:∀x0 x1,p [x0,x1]):∀us,us.length=2->p us:=argS λx=>qgm (h x)
theorem qmq {p:List Value->Prop}(h:∀x0 x1 x2,p [x0,x1,x2]):∀us,us.length=3->p us:=argS λx=>qey (h x)
theorem arg4 {p:List Value->Prop}(h:∀x0 x1 x2 x3,p [x0,x1,x2,x3]):∀us,us.length=4->p us:=argS λx=>qmq (h x)
set_option genInjectivity false
set_option genSizeOf false
set_option genSizeOfSpec false
structure Adr where
 fX:Addr
 lZ:AB
 lU:Addr
 nK:AB
 nQ:Addr
 nM:AB
 dJ:Addr
 pL:AB
 fU:Addr
 hU:AB
 hV:Addr
 nA:AB
 lY:Addr
 mE:AB
 fO:Addr
 hZ:AB
 fE:Addr
 pE:AB
 mQ:Addr
 lN:AB
 nP:Addr
 nG:AB
 lE:Addr
 nR:AB
 dS:Addr
 dF:AB
 dP:Addr
 fG:AB
 dZ:Addr
 pJ:AB
 fV:Addr
 mZ:AB
 dG:Addr
 lT:AB
 dH:Addr
 mJ:AB
 mC:Addr
 mT:AB
 fP:Addr
 hX:AB
 nW:Addr
 lA:AB
 pB:Addr
 mF:AB
 fQ:Addr
 mL:AB
 fN:Addr
 hG:AB
 dR:Addr
 fY:AB
 pM:Addr
 nF:AB
 lG:Addr
 lW:AB
 lP:Addr
 mM:AB
 lO:Addr
 mO:AB
 nZ:Addr
 pA:AB
 pG:Addr
 fK:AB
 fT:Addr
 nV:AB
 nY:Addr
 fL:AB
 nE:Addr
 lF:AB
 pF:Addr
 pI:AB
 mV:Addr
 mW:AB
 lV:Addr
 mD:AB
 nU:Addr
 mY:AB
 fM:Addr
 fW:AB
 nB:Addr
 pK:AB
 dY:Addr
 fR:AB
 dU:Addr
 pN:AB
 mG:Addr
 mK:AB
 dQ:Addr
 fZ:AB
 nO:Addr
 lJ:AB
 dO:Addr
 pH:AB
 fB:Addr
 lK:AB
 lC:Addr
 mH:AB
 gC:Addr
 kH:Addr
 kW:Addr
 gK:Addr
 gH:Addr
 gE:Addr
 gD:Addr
 gG:Addr
 kE:Addr
 gF:Addr
 kD:Addr
 gI:Addr
 kG:Addr
 k8:Addr
 kF:Addr
 kC:Addr
 dW:Addr
 bF:Addr
 gW:Addr
 bU:Addr
 gP:Addr
 gU:Addr
 bX:Addr
 bC:Addr
 bA:Addr
structure Txt (K:Ae)(mg:Str->Option Value)(a:Adr):Prop where
 bJ:DefAt K mg "is_figure" qih ["sign"] a.fX a.lZ
 gZ:DefAt K mg "is_written_number" qcw ["text", "most_figures"] a.lU a.nK
 gQ:DefAt K mg "number" qmo ["text", "most"] a.nQ a.nM
 fA:MethAt K "__init__" "Ring.__init__" qii ["self", "names"] a.dJ a.pL
 gY:DefAt K mg "untaken" qkc ["name", "bases", "taken"] a.fU a.hU
 bO:DefAt K mg "hanging_order" qev ["rules"] a.hV a.nA
 bN:DefAt K mg "is_small_letter" qei ["sign"] a.lY a.mE
 gS:DefAt K mg "is_name" qjq ["thing"] a.fO a.hZ
 nJ:MethAt K "__init__" "Book.__init__" qij ["self", "rules"] a.fE a.pE
 dD:DefAt K mg "lines_of" qkd ["text"] a.mQ a.lN
 bG:DefAt K mg "value_of" qke ["word", "asked"] a.nP a.nG
 bP:DefAt K mg "row_of" qmp ["line"] a.lE a.nR
 pX:MethD K "__init__" "Rule.__init__" qbr ["self", "name", "who", "owes", "opens", "base", "many", "unit", "still"] a.dS a.dF
 dM:MethAt K "__init__" "Twice.__init__" qgz ["self", "name"] a.dP a.fG
 kY:MethAt K "__init__" "Unfit.__init__" qg0 ["self", "at"] a.dZ a.pJ
 dA:DefAt K mg "read_term" qik ["told", "at", "row"] a.fV a.mZ
 kS:MethAt K "__init__" "NoTerm.__init__" qfx ["self", "name"] a.dG a.lT
 dN:MethAt K "all_kinds" "Rule.all_kinds" qdv ["self"] a.dH a.mJ
 dB:DefAt K mg "kinds_in" qkf ["row"] a.mC a.mT
 bL:DefAt K mg "is_unfit" qhl ["rule", "row"] a.fP a.hX
 bK:DefAt K mg "read_more" qil ["rule", "at", "row"] a.nW a.lA
 bB:DefAt K mg "read_row" qkg ["told", "at", "row"] a.pB a.mF
 gT:DefAt K mg "settle_yields" qew ["told", "rule", "at", "other"] a.fQ a.mL
 bZ:DefAt K mg "settle_names" qe9 ["told", "at", "row"] a.fN a.hG
 fF:MethAt K "__init__" "NoRule.__init__" qfy ["self", "at"] a.dR a.fY
 bQ:DefAt K mg "read_book" qim ["text"] a.pM a.nF
 kB:DefAt K mg "_law_cell_at" qg1 ["_law_script", "_law_k"] a.lG a.lW
 gA:DefAt K mg "_law_words" qin ["_law_cell", "_law_many"] a.lP a.mM
 kX:DefAt K mg "_law_some_kept" qfa ["_law_words_here", "_law_cell"] a.lO a.mO
 bR:DefAt K mg "_law_yields" qg2 ["_law_script", "_law_at", "_law_names"] a.nZ a.pA
 bY:DefAt K mg "_law_base" qhm ["_law_script", "_law_at", "_law_names"] a.pG a.fK
 bM:DefAt K mg "_law_rule" qhn ["_law_script", "_law_at", "_law_names", "_law_kinds_here"] a.fT a.nV
 dC:DefAt K mg "_law_rules" qgc ["_law_script", "_law_names", "_law_kinds_here", "_law_most"] a.nY a.fL
 bE:DefAt K mg "_law_sorts" qec ["_law_rule_here"] a.nE a.lF
 gX:DefAt K mg "_law_rows" qkh ["_law_rule_here"] a.pF a.pI
 bS:DefAt K mg "_law_kinds" qgd ["_law_rule_here"] a.mV a.mW
 bH:DefAt K mg "_law_role" qho ["_law_rule_here", "_law_kind"] a.lV a.mD
 kP:DefAt K mg "_law_whole" qio ["_law_found"] a.nU a.mY
 kK:DefAt K mg "_law_texts" qge ["_law_found", "_law_due"] a.fM a.fW
 bT:DefAt K mg "_law_longer" qg3 ["_law_found", "_law_due"] a.nB a.pK
 mR:MethAt K "role_in_still" "Rule.role_in_still" qds ["self", "kind"] a.dY a.fR
 mI:MethAt K "role" "Rule.role" qgf ["self", "kind"] a.dU a.pN
 gR:DefAt K mg "_law_same" qki ["_law_found", "_law_rule_here", "_law_kinds_here"] a.mG a.mK
 dE:MethAt K "rule_of" "Book.rule_of" qfz ["self", "name"] a.dQ a.fZ
 bV:DefAt K mg "_law_no_term" qg4 ["_law_book", "_law_name"] a.nO a.lJ
 nN:MethAt K "term_names" "Book.term_names" qej ["self"] a.dO a.pH
 lD:MethAt K "act_kinds" "Book.act_kinds" qex ["self"] a.fB a.lK
 rD:DefAt K mg "law" qsc ["_law_script"] a.lC a.mH
 r8:Binds K a.dF ["self", "name", "who", "owes", "opens", "base", "many", "unit", "still"] [.none]
 sL:mg "Adrift" = some (.ref a.gC)
 pY:mg "Book" = some (.ref a.kH)
 kO:Cls K a.kH
 rS:Mk K a.kH a.fE
 kT:xNo K a.kH ["name", "who", "owes", "opens", "base", "many", "unit", "still", "ends", "anew", "longer", "yields", "order", "by_name", "names", "at"]=true
 nH:Meth K a.kH "rule_of" a.dQ
 pW:Meth K a.kH "term_names" a.dO
 sK:Meth K a.kH "act_kinds" a.fB
 gJ:mg "CourtError" = some (.ref a.kW)
 gO:XBase K a.kW
 sS:mg "Full" = some (.ref a.gK)
 rX:mg "NoAct" = some (.ref a.gH)
 rT:mg "NoDay" = some (.ref a.gE)
 rY:mg "NoName" = some (.ref a.gD)
 sG:mg "NoRow" = some (.ref a.gG)
 nC:mg "NoRule" = some (.ref a.kE)
 gN:XA K a.kE (some (.ref a.dR))
 fC:xNo K a.kE ["name", "who", "owes", "opens", "base", "many", "unit", "still", "ends", "anew", "longer", "yields", "order", "by_name", "names", "at"]=true
 sW:qfu K a.kE [Ar a.kW,BK "ValueError",Ar a.kE,Ar a.kD,Ar a.kF,Ar a.kC,Ar a.kG] [true,true,true,false,false,false,false]=true
 sR:mg "NoTable" = some (.ref a.gF)
 gM:mg "NoTerm" = some (.ref a.kD)
 kL:XA K a.kD (some (.ref a.dG))
 gL:xNo K a.kD ["name", "who", "owes", "opens", "base", "many", "unit", "still", "ends", "anew", "longer", "yields", "order", "by_name", "names", "at"]=true
 mP:qfu K a.kD [Ar a.kW,BK "ValueError",Ar a.kE,Ar a.kD,Ar a.kF,Ar a.kC,Ar a.kG] [true,true,false,true,false,false,false]=true
 sC:mg "Parted" = some (.ref a.gI)
 lI:mg "Ring" = some (.ref a.kG)
 fD:XA K a.kG (some (.ref a.dJ))
 rJ:xNo K a.kG ["name", "who", "owes", "opens", "base", "many", "unit", "still", "ends", "anew", "longer", "yields", "order", "by_name", "names", "at"]=true
 tV:qfu K a.kG [Ar a.kW,BK "ValueError",Ar a.kE,Ar a.kD,Ar a.kF,Ar a.kC,Ar a.kG] [true,true,false,false,false,false,true]=true
 mB:mg "Rule" = some (.ref a.k8)
 k9:Cls K a.k8
 sE:Mk K a.k8 a.dS
 kA:xNo K a.k8 ["name", "who", "owes", "opens", "base", "many", "unit", "still", "ends", "anew", "longer", "yields", "order", "by_name", "names", "at"]=true
 sT:isB K a.k8=true
 mU:Meth K a.k8 "all_kinds" a.dH
 rC:Meth K a.k8 "role_in_still" a.dY
 sP:Meth K a.k8 "role" a.dU
 lH:mg "Twice" = some (.ref a.kF)
 dX:XA K a.kF (some (.ref a.dP))
 pP:xNo K a.kF ["name", "who", "owes", "opens", "base", "many", "unit", "still", "ends", "anew", "longer", "yields", "order", "by_name", "names", "at"]=true
 sZ:qfu K a.kF [Ar a.kW,BK "ValueError",Ar a.kE,Ar a.kD,Ar a.kF,Ar a.kC,Ar a.kG] [true,true,false,false,true,false,false]=true
 bI:mg "Unfit" = some (.ref a.kC)
 kN:XA K a.kC (some (.ref a.dZ))
 gB:xNo K a.kC ["name", "who", "owes", "opens", "base", "many", "unit", "still", "ends", "anew", "longer", "yields", "order", "by_name", "names", "at"]=true
 tK:qfu K a.kC [Ar a.kW,BK "ValueError",Ar a.kE,Ar a.kD,Ar a.kF,Ar a.kC,Ar a.kG] [true,true,false,false,false,true,false]=true
 dI:XRaise K a.kE
 xU:Ad K (.ref a.kE) (.ref a.gC)=some false
 xJ:Ad K (.ref a.kE) (.ref a.gK)=some false
 tJ:Ad K (.ref a.kE) (.ref a.gH)=some false
 xP:Ad K (.ref a.kE) (.ref a.gE)=some false
 tF:Ad K (.ref a.kE) (.ref a.gD)=some false
 xF:Ad K (.ref a.kE) (.ref a.gG)=some false
 tP:Ad K (.ref a.kE) (.ref a.kE)=some true
 xW:Ad K (.ref a.kE) (.ref a.gF)=some false
 xC:Ad K (.ref a.kE) (.ref a.kD)=some false
 tG:Ad K (.ref a.kE) (.ref a.gI)=some false
 xQ:Ad K (.ref a.kE) (.ref a.kG)=some false
 tU:Ad K (.ref a.kE) (.ref a.kF)=some false
 xT:Ad K (.ref a.kE) (.ref a.kC)=some false
 bD:XRaise K a.kD
 rO:Ad K (.ref a.kD) (.ref a.gC)=some false
 r9:Ad K (.ref a.kD) (.ref a.gK)=some false
 rB:Ad K (.ref a.kD) (.ref a.gH)=some false
 pV:Ad K (.ref a.kD) (.ref a.gE)=some false
 rA:Ad K (.ref a.kD) (.ref a.gD)=some false
 pO:Ad K (.ref a.kD) (.ref a.gG)=some false
 rG:Ad K (.ref a.kD) (.ref a.kE)=some false
 sF:Ad K (.ref a.kD) (.ref a.gF)=some false
 rR:Ad K (.ref a.kD) (.ref a.kD)=some true
 rE:Ad K (.ref a.kD) (.ref a.gI)=some false
 rW:Ad K (.ref a.kD) (.ref a.kG)=some false
 rV:Ad K (.ref a.kD) (.ref a.kF)=some false
 sN:Ad K (.ref a.kD) (.ref a.kC)=some false
 rM:XRaise K a.kG
 tZ:Ad K (.ref a.kG) (.ref a.gC)=some false
 tO:Ad K (.ref a.kG) (.ref a.gK)=some false
 tR:Ad K (.ref a.kG) (.ref a.gH)=some false
 tT:Ad K (.ref a.kG) (.ref a.gE)=some false
 tW:Ad K (.ref a.kG) (.ref a.gD)=some false
 xA:Ad K (.ref a.kG) (.ref a.gG)=some false
 y0:Ad K (.ref a.kG) (.ref a.kE)=some false
 tX:Ad K (.ref a.kG) (.ref a.gF)=some false
 tL:Ad K (.ref a.kG) (.ref a.kD)=some false
 xS:Ad K (.ref a.kG) (.ref a.gI)=some false
 sU:Ad K (.ref a.kG) (.ref a.kG)=some true
 sY:Ad K (.ref a.kG) (.ref a.kF)=some false
 sX:Ad K (.ref a.kG) (.ref a.kC)=some false
 pZ:XRaise K a.kF
 xM:Ad K (.ref a.kF) (.ref a.gC)=some false
 xO:Ad K (.ref a.kF) (.ref a.gK)=some false
 xX:Ad K (.ref a.kF) (.ref a.gH)=some false
 tE:Ad K (.ref a.kF) (.ref a.gE)=some false
 xN:Ad K (.ref a.kF) (.ref a.gD)=some false
 xK:Ad K (.ref a.kF) (.ref a.gG)=some false
 xZ:Ad K (.ref a.kF) (.ref a.kE)=some false
 xL:Ad K (.ref a.kF) (.ref a.gF)=some false
 xR:Ad K (.ref a.kF) (.ref a.kD)=some false
 sV:Ad K (.ref a.kF) (.ref a.gI)=some false
 tI:Ad K (.ref a.kF) (.ref a.kG)=some false
 tD:Ad K (.ref a.kF) (.ref a.kF)=some true
 tM:Ad K (.ref a.kF) (.ref a.kC)=some false
 kZ:XRaise K a.kC
 tH:Ad K (.ref a.kC) (.ref a.gC)=some false
 xV:Ad K (.ref a.kC) (.ref a.gK)=some false
 tN:Ad K (.ref a.kC) (.ref a.gH)=some false
 tS:Ad K (.ref a.kC) (.ref a.gE)=some false
 xI:Ad K (.ref a.kC) (.ref a.gD)=some false
 tQ:Ad K (.ref a.kC) (.ref a.gG)=some false
 xE:Ad K (.ref a.kC) (.ref a.kE)=some false
 xD:Ad K (.ref a.kC) (.ref a.gF)=some false
 xB:Ad K (.ref a.kC) (.ref a.kD)=some false
 xG:Ad K (.ref a.kC) (.ref a.gI)=some false
 tY:Ad K (.ref a.kC) (.ref a.kG)=some false
 xH:Ad K (.ref a.kC) (.ref a.kF)=some false
 xY:Ad K (.ref a.kC) (.ref a.kC)=some true
 rK:mg "ValueError" = none
 dL:mg "all" = none
 rH:mg "any" = none
 sM:mg "bool" = none
 fH:mg "enumerate" = none
 bW:mg "int" = none
 kM:mg "isinstance" = none
 kI:mg "len" = none
 kU:mg "list" = none
 sO:mg "max" = none
 kQ:mg "range" = none
 mS:mg "reversed" = none
 pC:mg "set" = none
 fS:mg "sorted" = none
 kR:mg "str" = none
 lQ:mg "tuple" = none
 rF:mg "zip" = none
 pT:∃t,mg "LONGEST_NAME" = some (.int 8 t)
 r6:∃t,mg "MOST_ROWS" = some (.int 40 t)
 rZ:∃t,mg "MOST_TERMS" = some (.int 6 t)
 rP:∃t,mg "MOST_LONGER_ROWS" = some (.int 2 t)
 rU:mg "UNITS" = some (.ref a.dW)
 rQ:∀H,SqT K H a.dW [.str (Ab "days"),.str (Ab "weeks"),.str (Ab "court")]
 rL:mg "FORMS" = some (.ref a.bF)
 lR:∀H,SqT K H a.bF [.ref a.gW,.ref a.bU,.ref a.gP,.ref a.gU,.ref a.bX,.ref a.bC,.ref a.bA]
 pQ:∀H,SqT K H a.gW [.str (Ab "term"),.str (Ab "NAME"),.str (Ab "of"),.str (Ab "NAME"),.str (Ab "due"),.str (Ab "NAME"),.str (Ab "from"),.str (Ab "NAME"),.int 40,.str (Ab "UNIT")]
 rN:∀H,SqT K H a.bU [.str (Ab "term"),.str (Ab "NAME"),.str (Ab "of"),.str (Ab "NAME"),.str (Ab "due"),.str (Ab "NAME"),.str (Ab "behind"),.str (Ab "NAME"),.int 40,.str (Ab "UNIT")]
 sI:∀H,SqT K H a.gP [.str (Ab "ends"),.str (Ab "NAME"),.str (Ab "NAME")]
 pS:∀H,SqT K H a.gU [.str (Ab "anew"),.str (Ab "NAME"),.str (Ab "NAME")]
 sQ:∀H,SqT K H a.bX [.str (Ab "longer"),.str (Ab "NAME"),.str (Ab "NAME"),.int 20,.str (Ab "times"),.int 3]
 pU:∀H,SqT K H a.bC [.str (Ab "still"),.str (Ab "NAME"),.str (Ab "NAME"),.str (Ab "NAME")]
 pR:∀H,SqT K H a.bA [.str (Ab "yields"),.str (Ab "NAME"),.str (Ab "NAME")]
theorem qjf:bootBuiltins "ValueError" = some (.type "ValueError"):=Ek
theorem qkj:bootBuiltins "all" = some (.builtin "all"):=Ek
theorem qu9:bootBuiltins "any" = some (.builtin "any"):=Ek
theorem qsd:bootBuiltins "bool" = some (.type "bool"):=Ek
theorem qhp:bootBuiltins "int" = some (.type "int"):=Ek
theorem qak:bootBuiltins "isinstance" = some (.builtin "isinstance"):=Ek
theorem qba:bootBuiltins "len" = some (.builtin "len"):=Ek
theorem qdf:bootBuiltins "list" = some (.type "list"):=Ek
theorem qva:bootBuiltins "max" = some (.builtin "max"):=Ek
theorem qdi:bootBuiltins "str" = some (.type "str"):=Ek
theorem qkk:bootBuiltins "tuple" = some (.type "tuple"):=Ek
theorem qpd:FnScope ["sign"] ["sign"] (qaa qih):=⟨rfl,rfl,rfl,Ek,rfl,Ek,Ek⟩
theorem qhq:FnScope ["text", "most_figures"] ["text", "most_figures"] (qaa qcw):=⟨rfl,rfl,rfl,Ek,rfl,Ek,Ek⟩
theorem qn3:FnScope ["text", "most", "written"] ["text", "most"] (qaa qmo):=⟨rfl,rfl,rfl,Ek,rfl,Ek,Ek⟩
theorem qpe:FnScope ["self", "names"] ["self", "names"] (qaa qii):=⟨rfl,rfl,rfl,Ek,rfl,Ek,Ek⟩
theorem qgg:FnScope ["name", "bases", "taken", "path", "above"] ["name", "bases", "taken"] (qaa qkc):=⟨rfl,rfl,rfl,Ek,rfl,Ek,Ek⟩
theorem qbx:FnScope ["rules", "bases", "rule", "taken"] ["rules"] (qaa qev):=⟨rfl,rfl,rfl,Ek,rfl,Ek,Ek⟩
theorem qjg:FnScope ["sign"] ["sign"] (qaa qei):=⟨rfl,rfl,rfl,Ek,rfl,Ek,Ek⟩
theorem qvb:FnScope ["thing"] ["thing"] (qaa qjq):=⟨rfl,rfl,rfl,Ek,rfl,Ek,Ek⟩
theorem qkl:FnScope ["self", "rules", "rule"] ["self", "rules"] (qaa qij):=⟨rfl,rfl,rfl,Ek,rfl,Ek,Ek⟩
theorem qse:FnScope ["text"] ["text"] (qaa qkd):=⟨rfl,rfl,rfl,Ek,rfl,Ek,Ek⟩
theorem qsf:FnScope ["word", "asked"] ["word", "asked"] (qaa qke):=⟨rfl,rfl,rfl,Ek,rfl,Ek,Ek⟩
theorem qjr:FnScope ["line", "words", "form", "row"] ["line"] (qaa qmp):=⟨rfl,rfl,rfl,Ek,rfl,Ek,Ek⟩
theorem qpf:FnScope ["self", "name", "who", "owes", "opens", "base", "many", "unit", "still"] ["self", "name", "who", "owes", "opens", "base", "many", "unit", "still"] (qaa qbr):=⟨rfl,rfl,rfl,Ek,rfl,Ek,Ek⟩
theorem qn4:FnScope ["self", "name"] ["self", "name"] (qaa qgz):=⟨rfl,rfl,rfl,Ek,rfl,Ek,Ek⟩
theorem qn5:FnScope ["self", "at"] ["self", "at"] (qaa qg0):=⟨rfl,rfl,rfl,Ek,rfl,Ek,Ek⟩
theorem qek:FnScope ["told", "at", "row", "name", "opens", "base", "rule"] ["told", "at", "row"] (qaa qik):=⟨rfl,rfl,rfl,Ek,rfl,Ek,Ek⟩
theorem qmr:FnScope ["self", "name"] ["self", "name"] (qaa qfx):=⟨rfl,rfl,rfl,Ek,rfl,Ek,Ek⟩
theorem qf0:FnScope ["self", "kinds"] ["self"] (qaa qdv):=⟨rfl,rfl,rfl,Ek,rfl,Ek,Ek⟩
theorem qsg:FnScope ["row"] ["row"] (qaa qkf):=⟨rfl,rfl,rfl,Ek,rfl,Ek,Ek⟩
theorem ql1:FnScope ["rule", "row", "taken"] ["rule", "row"] (qaa qhl):=⟨rfl,rfl,rfl,Ek,rfl,Ek,Ek⟩
theorem qpg:FnScope ["rule", "at", "row"] ["rule", "at", "row"] (qaa qil):=⟨rfl,rfl,rfl,Ek,rfl,Ek,Ek⟩
theorem qsh:FnScope ["told", "at", "row"] ["told", "at", "row"] (qaa qkg):=⟨rfl,rfl,rfl,Ek,rfl,Ek,Ek⟩
theorem qkm:FnScope ["told", "rule", "at", "other"] ["told", "rule", "at", "other"] (qaa qew):=⟨rfl,rfl,rfl,Ek,rfl,Ek,Ek⟩
theorem qgn:FnScope ["told", "at", "row", "rule"] ["told", "at", "row"] (qaa qe9):=⟨rfl,rfl,rfl,Ek,rfl,Ek,Ek⟩
theorem qms:FnScope ["self", "at"] ["self", "at"] (qaa qfy):=⟨rfl,rfl,rfl,Ek,rfl,Ek,Ek⟩
theorem qco:FnScope ["text", "told", "rows", "at", "line", "row"] ["text"] (qaa qim):=⟨rfl,rfl,rfl,Ek,rfl,Ek,Ek⟩
theorem qn6:FnScope ["_law_script", "_law_k"] ["_law_script", "_law_k"] (qaa qg1):=⟨rfl,rfl,rfl,Ek,rfl,Ek,Ek⟩
theorem qa8:FnScope ["_law_cell", "_law_many", "_law_some", "_law_size", "_law_at", "_law_primes", "_law_stem", "_law_k", "_law_words_here", "_law_turn", "_law_word"] ["_law_cell", "_law_many"] (qaa qin):=⟨rfl,rfl,rfl,Ek,rfl,Ek,Ek⟩
theorem qbw:FnScope ["_law_words_here", "_law_cell", "_law_kept", "_law_k", "_law_word", "_law_at"] ["_law_words_here", "_law_cell"] (qaa qfa):=⟨rfl,rfl,rfl,Ek,rfl,Ek,Ek⟩
theorem qcp:FnScope ["_law_script", "_law_at", "_law_names", "_law_cell", "_law_mine", "_law_yields_here", "_law_other", "_law_bit", "_law_theirs"] ["_law_script", "_law_at", "_law_names"] (qaa qg2):=⟨rfl,rfl,rfl,Ek,rfl,Ek,Ek⟩
theorem qed:FnScope ["_law_script", "_law_at", "_law_names", "_law_turn", "_law_cell", "_law_ranks", "_law_k", "_law_below"] ["_law_script", "_law_at", "_law_names"] (qaa qhm):=⟨rfl,rfl,rfl,Ek,rfl,Ek,Ek⟩
theorem qaw:FnScope ["_law_script", "_law_at", "_law_names", "_law_kinds_here", "_law_cells", "_law_owed", "_law_rest", "_law_turn", "_law_base_here", "_law_opens", "_law_unit", "_law_longer_here", "_law_k", "_law_units", "_law_still", "_law_rule_here"] ["_law_script", "_law_at", "_law_names", "_law_kinds_here"] (qaa qhn):=⟨rfl,rfl,rfl,Ek,rfl,Ek,Ek⟩
theorem qdc:FnScope ["_law_script", "_law_names", "_law_kinds_here", "_law_most", "_law_rules_here", "_law_room", "_law_rule_here", "_law_sort"] ["_law_script", "_law_names", "_law_kinds_here", "_law_most"] (qaa qgc):=⟨rfl,rfl,rfl,Ek,rfl,Ek,Ek⟩
theorem qav:FnScope ["_law_rule_here", "_law_name", "_law_way", "_law_head", "_law_ends", "_law_anew", "_law_longer_here", "_law_kind", "_law_units", "_law_times", "_law_row", "_law_still", "_law_yields_here"] ["_law_rule_here"] (qaa qec):=⟨rfl,rfl,rfl,Ek,rfl,Ek,Ek⟩
theorem qgh:FnScope ["_law_rule_here", "_law_rows_here", "_law_sort"] ["_law_rule_here"] (qaa qkh):=⟨rfl,rfl,rfl,Ek,rfl,Ek,Ek⟩
theorem qg5:FnScope ["_law_rule_here", "_law_kinds_here"] ["_law_rule_here"] (qaa qgd):=⟨rfl,rfl,rfl,Ek,rfl,Ek,Ek⟩
theorem qsi:FnScope ["_law_rule_here", "_law_kind"] ["_law_rule_here", "_law_kind"] (qaa qho):=⟨rfl,rfl,rfl,Ek,rfl,Ek,Ek⟩
theorem qph:FnScope ["_law_found"] ["_law_found"] (qaa qio):=⟨rfl,rfl,rfl,Ek,rfl,Ek,Ek⟩
theorem qpi:FnScope ["_law_found", "_law_due"] ["_law_found", "_law_due"] (qaa qge):=⟨rfl,rfl,rfl,Ek,rfl,Ek,Ek⟩
theorem qi3:FnScope ["_law_found", "_law_due", "_law_row"] ["_law_found", "_law_due"] (qaa qg3):=⟨rfl,rfl,rfl,Ek,rfl,Ek,Ek⟩
theorem qhr:FnScope ["self", "kind"] ["self", "kind"] (qaa qds):=⟨rfl,rfl,rfl,Ek,rfl,Ek,Ek⟩
theorem qpj:FnScope ["self", "kind"] ["self", "kind"] (qaa qgf):=⟨rfl,rfl,rfl,Ek,rfl,Ek,Ek⟩
theorem qgi:FnScope ["_law_found", "_law_rule_here", "_law_kinds_here", "_law_told", "_law_kind", "_law_role_here"] ["_law_found", "_law_rule_here", "_law_kinds_here"] (qaa qki):=⟨rfl,rfl,rfl,Ek,rfl,Ek,Ek⟩
theorem qmt:FnScope ["self", "name"] ["self", "name"] (qaa qfz):=⟨rfl,rfl,rfl,Ek,rfl,Ek,Ek⟩
theorem qes:FnScope ["_law_book", "_law_name", "_law_found", "e"] ["_law_book", "_law_name"] (qaa qg4):=⟨rfl,rfl,rfl,Ek,rfl,Ek,Ek⟩
theorem qjh:FnScope ["self"] ["self"] (qaa qej):=⟨rfl,rfl,rfl,Ek,rfl,Ek,Ek⟩
theorem qdj:FnScope ["self", "kinds", "rule"] ["self"] (qaa qex):=⟨rfl,rfl,rfl,Ek,rfl,Ek,Ek⟩
theorem qdx:FnScope ["_law_script", "_law_many", "_law_names", "_law_kinds_here", "_law_rules_here", "_law_rows_here", "_law_due", "_law_rule_here", "_law_book", "_law_k", "_law_terms", "_law_told"] ["_law_script"] (qaa qsc):=⟨rfl,rfl,rfl,Ek,rfl,Ek,Ek⟩
seal PySem.Sem.wp
open Add Lay Mrg Tab
theorem use {p G R:Prop}(m:(p->G)->R)(l:p->G):R:=m l
theorem useH {p G:Hp->Prop}{R:Prop}(m:(∀x,p x->G x)->R)(l:∀x,p x->G x):R:=m l
theorem use2 {S T:Type}{p G:S->T->Prop}{R:Prop}(m:(∀x y,p x y->G x y)->R)(l:∀x y,p x y->G x y):R:=m l
theorem qez {c A B:Prop}[Decidable c](hc:c)(h:A):if decide c=true then A else B:=by rw[if_pos (decide_eq_true hc)];exact h
theorem qat {c A B:Prop}[Decidable c](hc:¬c)(h:B):if decide c=true then A else B:=by rw[decide_eq_false hc];exact h
theorem qdy {c A B:Prop}[Decidable c](hc:c)(h:B):if (!decide c)=true then A else B:=by rw[decide_eq_true hc];exact h
theorem zi {H:Hp}{p:Addr}{o:HO}(hp:H p=none):Same H (upd H p o):=λb u e=>by rw[ze (qad e hp)];exact e
theorem alc {H:Hp}{p:Addr}{o:HO}(hp:H p=none):Same H (upd H p o)/\upd H p o p=some o:=⟨zi hp,qz⟩
theorem fits {n:Nat}(h:n<=100000):n<=A0:=by rw[Bg];lia
theorem qcx {xs:List V}(h:xs.length<=90000):xs.length<A0:=by rw[Bg];lia
theorem qe3:([]:List V).length<=A0:=fits En
theorem fit2 (x y:V):[x,y].length<=A0:=fits (show 2<=100000 by decide)
theorem qsj (x y z:V):[x,y,z].length<=A0:=fits (show 3<=100000 by decide)
theorem atI_of {vs:List V}{k:Int}{j:Nat}{v:V}(h:vs[j]?=some v)(e:k=(j:Int)):atI vs k=some v:=by rw[e];exact qc6 h
theorem qkn (vs:List V)(b:Nat)(h:b<=vs.length):qgv vs none (some (b:Int))=vs.take b:=by
 unfold qgv
 have e1:HT.sIx vs.length 0 none=0:=rfl
 have e2:HT.sIx vs.length vs.length (some (b:Int))=b:=by
  simp only[HT.sIx]
  split <;>lia
 rw[e1,e2]
 simp
theorem qko (vs:List V)(b:Nat)(h:b<=vs.length):qgv vs (some (b:Int)) none=vs.drop b:=by
 unfold qgv
 have e1:HT.sIx vs.length vs.length none=vs.length:=rfl
 have e2:HT.sIx vs.length 0 (some (b:Int))=b:=by
  simp only[HT.sIx]
  split <;>lia
 rw[e1,e2]
 rw[Cc (by rw[B9];lia)]
theorem qbf {α:Type}{xs:List α}{i:Nat}{x:α}(h:xs[i]?=some x):xs.take (i+1)=xs.take i++[x]:=by rw[CL,h];rfl
theorem qd4 {c A B:Prop}[Decidable c](hc:¬c)(h:A):if (!decide c)=true then A else B:=by rw[decide_eq_false hc];exact h
noncomputable def cell (ns:List Int)(k:Int):Int:=ns.getD k.toNat 0
theorem qvc {ns:List Int}{k:Int}(h0:0<=k)(h:k<((ns.map V.int).length:Int)):atI (ns.map V.int) k=some (V.int (cell ns k)):=by
 rw[Ac]at h
 have hk:k.toNat<ns.length:=(Int.toNat_lt h0).mpr h
 refine atI_of (j:=k.toNat) ?_ (Int.toNat_of_nonneg h0).symm
 rw[Ai,Ak hk]
 unfold cell
 rw[Be,Ak hk]
 rfl
theorem qvd {ns:List Int}{k:Int}(h:¬k<((ns.map V.int).length:Int)):cell ns k=0:=by
 rw[Ac]at h
 unfold cell
 rw[Be,AO (Int.ofNat_le.mp (Int.le_trans (Int.not_lt.mp h) (Int.self_le_toNat k)))]
 rfl
noncomputable def spCell (K:Ae):Sp:=λvs H Q _=>∃(a:Addr)(ns:List Int)(k:Int),vs=[.ref a,.int k]/\SqL K H a (ns.map V.int)/\0<=k/\Q (.int (cell ns k)) H
theorem qb9 (x:Str)(xs:List Str):inV (.str x) (xs.map V.str)=xs.contains x:=by
 unfold inV
 rw[List.any_map,List.contains_eq_any_beq]
 congr 1
 funext y
 show (y == x)=(x == y)
 rw[C6,beq_iff_eq,beq_iff_eq]
 exact eq_comm
theorem qbg (xs:List Str):(xs.map V.str).all qbn=true:=by rw[CK];exact AV.mpr λ_ _=>rfl
noncomputable def nm (nms:List Str)(k:Nat):Str:=nms.getD k Str.empty
noncomputable def bo (bs:List (Option Nat))(k:Nat):Option Nat:=bs.getD k none
theorem qgo {nms:List Str}{k:Nat}(h:k<nms.length):nms[k]?=some (nm nms k):=by
 unfold nm
 rw[Be,Ak h]
 rfl
theorem qip {nms:List Str}(nd:nms.Nodup){j k:Nat}(hj:j<nms.length)(hk:k<nms.length)(e:nm nms j=nm nms k):j=k:=by
 have a:=qgo hj
 rw[e,<- qgo hk]at a
 exact(List.getElem?_inj hj nd).mp a
noncomputable def qhs (nms:List Str):Option Nat->V
 |none=>.non
 |some b=>.str (nm nms b)
noncomputable def DicOk (kvs:List (Key×V))(nms:List Str)(bs:List (Option Nat)):Prop:=∀k<nms.length,qdq kvs (.inr (nm nms k))=some (qhs nms (bo bs k))
noncomputable def SameBut (x:Addr)(H H':Hp):Prop:=∀b o,b≠x->H b=some o->H' b=some o
theorem SameBut.of {x:Addr}{H H':Hp}(s:Same H H'):SameBut x H H':=λb o _ e=>s b o e
theorem SameBut.trans {x:Addr}{H H1 H2:Hp}(a:SameBut x H H1)(b:SameBut x H1 H2):SameBut x H H2:=λc o n e=>b c o n (a c o n e)
theorem SameBut.set {x:Addr}{H H':Hp}{o:HO}(a:SameBut x H H'):SameBut x H (upd H' x o):=λb u n e=>by rw[ze n];exact a b u n e
theorem SameBut.made {x dx:Addr}{H H':Hp}{o u:HO}(a:SameBut x (upd (upd H dx u) x o) H')(hx:H x=none)(hd:H dx=none):Same H H':=λb v e =>
 a b v (qad e hx) (by rw[ze (qad e hx),ze (qad e hd)];exact e)
theorem SameBut.free {x q:Addr}{H H':Hp}(b:SameBut x H H')(n:q≠x)(h:H' q=none):H q=none:=by
 cases e:H q with
 |none=>rfl
 |some o=>rw[b q o n e]at h;cases h
theorem qxs {kvs:List (Key×V)}{nms:List Str}{bs:List (Option Nat)}{i:Nat}(nd:nms.Nodup)(hi:i<nms.length)(h:∀k<i,qdq kvs (.inr (nm nms k))=some (qhs nms (bo bs k))):∀k<i+1,qdq (qe7 kvs (.inr (nm nms i)) (qhs nms (bo bs i))) (.inr (nm nms k))=some (qhs nms (bo bs k)):=λk hk=>by
 rw[qtw]
 by_cases e:k=i
 .subst e
  rw[if_pos rfl]
 .rw[if_neg (λz=>e (qip nd (by lia) hi (CT.inj z)))]
  exact h k (by lia)
theorem nmV {nms:List Str}{k:Nat}(h:k<nms.length):(nms.map V.str)[k]?=some (.str (nm nms k)):=by rw[Ai,qgo h];rfl
theorem rb {n:Nat}(h:n<=1000) : -2 ^ 62<=(n:Int)/\(n:Int)<2 ^ 62:=by lia
noncomputable abbrev bfs (po pd:Addr):List (Str×V):=[(Ab "order",.ref po),(Ab "by_name",.ref pd)]
theorem put1 (f:Str)(u:V):qcm f u []=[(f,u)]:=rfl
theorem put2 {f g:Str}(u v:V)(h:f≠g):qcm g v [(f,u)]=[(f,u),(g,v)]:=by unfold qcm;rw[if_neg h];rfl
noncomputable abbrev az:Str:=Ab "abcdefghijklmnopqrstuvwxyz"
theorem az_len:az.length=26:=Ek
theorem qxt:az.cps.toList=(Bh 26).map (λj=>97+j):=Ek
theorem qyw {j:Nat}(h:j<26):atI az.cps.toList (j:Int)=some (97+j):=qc6 (by rw[qxt,Ai,DB h];rfl)
theorem qgj (x y:Str):(x++y).length=x.length+y.length:=by
 show (x++y).cps.size=_
 rw[Dx,Array.size_append];rfl
noncomputable def wdL (L:List Nat)(n c:Nat):List Nat:=L.take n++c::L.drop (n+1)
theorem qxu {st:Str}{n c:Nat}(h:n+1<=st.length):Eb st none (some (n:Int))++(⟨#[c]⟩:Str)++Eb st (some ((n:Int)+1)) none=⟨(wdL st.cps.toList n c).toArray⟩:=by
 have hl:st.cps.toList.length=st.length:=A6
 have e1:Eb st none (some (n:Int))=⟨((st.cps.toList.drop 0).take ((n:Int)-0).toNat).toArray⟩:=PySem.StrLaws.sliceText_to ⟨Int.natCast_nonneg n,by lia⟩
 have e2:Eb st (some ((n:Int)+1)) none=⟨((st.cps.toList.drop ((n:Int)+1).toNat).take ((st.cps.toList.length:Int)-((n:Int)+1)).toNat).toArray⟩:=PySem.StrLaws.sliceText_from ⟨by lia,by lia⟩
 have e3:((n:Int)+1).toNat=n+1:=by lia
 rw[e1,e2,e3,Cc (l:=st.cps.toList.drop (n+1)) (by rw[B9];lia)]
 apply Str.ext'
 rw[Dx,Dx]
 show ((st.cps.toList.drop 0).take ((n:Int)-0).toNat).toArray ++ #[c]++(st.cps.toList.drop (n+1)).toArray=_
 unfold wdL
 rw[List.drop_zero,show ((n:Int)-0).toNat=n by lia]
 simp
theorem cut_eq {L:List Nat}{n c:Nat}(h:n<L.length):Eb ⟨(wdL L n c).toArray⟩ none (some ((n:Int)+1))=⟨(L.take n++[c]).toArray⟩:=by
 have lt:(L.take n).length=n:=by rw[A2];lia
 have e1:Eb ⟨(wdL L n c).toArray⟩ none (some ((n:Int)+1))=⟨(((wdL L n c).toArray.toList.drop 0).take ((n:Int)+1-0).toNat).toArray⟩:=PySem.StrLaws.sliceText_to ⟨by lia,by
  show (n:Int)+1<=((wdL L n c).toArray.toList.length:Int)
  rw[List.toList_toArray]
  unfold wdL
  rw[Aj,At,lt]
  lia⟩
 rw[e1,List.toList_toArray,List.drop_zero,show ((n:Int)+1-0).toNat=n+1 by lia]
 unfold wdL
 rw[List.take_append,lt,Cc (A3 (BS lt) (Ck n)),show n+1-n=1 by lia]
 rfl
noncomputable def sgn (t:Int)(e k:Nat):Nat:=97+((t+((k / (1+e):Nat):Int)) % 26).toNat
noncomputable def wdS (L:List Nat)(n e:Nat)(t:Int)(k:Nat):Str:=if e=1/\k % 2=1 then ⟨(L.take n++[sgn t e k]).toArray⟩ else ⟨(wdL L n (sgn t e k)).toArray⟩
theorem qmu {x y:List Nat}(h:(⟨x.toArray⟩:Str)=⟨y.toArray⟩):x=y:=by
 have:=congrArg (λz:Str=>z.cps.toList) h
 simpa using this
theorem qxv {L:List Nat}{n c d:Nat}(h:wdL L n c=wdL L n d):c=d:=by
 unfold wdL at h
 exact(DG (List.append_cancel_left h)).1
theorem qxw {t:Int}{e k j:Nat}(he:e<=1)(hk:k / (1+e)<26)(hj:j / (1+e)<26)(h:sgn t e k=sgn t e j):k / (1+e)=j / (1+e):=by
 have h:(t+((k / (1+e):Nat):Int)) % 26=(t+((j / (1+e):Nat):Int)) % 26:=by unfold sgn at h;lia
 generalize k / (1+e)=x at *
 generalize j / (1+e)=y at *
 lia
theorem qxx {L:List Nat}{n e:Nat}{t:Int}(he:e<=1)(hn:n+1+e<=L.length){k j:Nat}(hk:k / (1+e)<26)(hj:j / (1+e)<26)(h:wdS L n e t k=wdS L n e t j):k=j:=by
 have lt:(L.take n).length=n:=by rw[A2];lia
 have ld:(L.drop (n+1)).length=L.length-(n+1):=B9
 have key:sgn t e k=sgn t e j/\(e=1->k % 2=j % 2):=by
  unfold wdS at h
  by_cases c1:e=1/\k % 2=1
  .rw[if_pos c1]at h
   by_cases c2:e=1/\j % 2=1
   .rw[if_pos c2]at h
    exact⟨(DG (List.append_cancel_left (qmu h))).1,λ_=>by lia⟩
   .rw[if_neg c2]at h
    have hl:=congrArg DQ (qmu h)
    unfold wdL at hl
    rw[Aj,Aj,At,At,Ca,ld]at hl
    lia
  .rw[if_neg c1]at h
   by_cases c2:e=1/\j % 2=1
   .rw[if_pos c2]at h
    have hl:=congrArg DQ (qmu h)
    unfold wdL at hl
    rw[Aj,Aj,At,At,Ca,ld]at hl
    lia
   .rw[if_neg c2]at h
    exact⟨qxv (qmu h),λz=>by lia⟩
 have q:=qxw he hk hj key.1
 rcases (by lia:e=0\/e=1) with z|z
 .rw[z]at q
  simpa using q
 .have:=key.2 z
  rw[z]at q
  lia
theorem wds_nd {L:List Nat}{n e:Nat}{t:Int}(he:e<=1)(hn:n+1+e<=L.length){m:Nat}(hm:∀k,k<m->k / (1+e)<26):((Bh m).map (wdS L n e t)).Nodup:=by
 rw[List.nodup_iff_pairwise_ne,List.pairwise_map]
 refine(List.Pairwise.and_mem.mp (List.nodup_iff_pairwise_ne.mp List.nodup_range)).imp λ{a b} h z=>?_
 have h1:=CV.mp h.1
 have h2:=CV.mp h.2.1
 exact h.2.2 (qxx he hn (hm _ h1) (hm _ h2) z)
theorem sizeB (c:Int):1+c % 2<=1+c % 2+c / 2 % (8-c % 2)/\1+c % 2+c / 2 % (8-c % 2)<=8:=by
 rcases (by lia:c % 2=0\/c % 2=1) with e|e <;>rw[e]
 .rw[show (8:Int)-0=8 from rfl];lia
 .rw[show (8:Int)-1=7 from rfl];lia
noncomputable def prL:List Int:=[100003,100019,100043,100049,100057,100069,100103,100109]
theorem pr_at {k:Nat}(h:k<8):∃p:Int,0<p/\(prL.map V.int)[k]?=some (V.int p):=by
 rcases (by lia:k=0\/k=1\/k=2\/k=3\/k=4\/k=5\/k=6\/k=7) with e|e|e|e|e|e|e|e <;>subst e <;>exact⟨_,En,rfl⟩
noncomputable def qqu (K:Ae):Sp:=λvs H Q _=>∃(a:Addr)(ns:List Int),vs=[.ref a]/\SqL K H a (ns.map V.int)/\ns.length<=63/\∀H',Q (.bl true) H'
section
variable {f:Nat->Option Nat}{n:Nat}
noncomputable def Ch (f:Nat->Option Nat)(is:List Nat)(o:Option Nat):Prop:=∀i k,is[i]?=some k->f k=(is++o.toList)[i+1]?
theorem Ch.snoc {is:List Nat}{j:Nat}(h:Ch f is (some j)):Ch f (is++[j]) (f j):=by
 intro i k e
 by_cases c:i<is.length
 .rw[AT c]at e
  rw[h i k e]
  exact(AT (by show i+1<(is++[j]).length;rw[Aj,Br];lia)).symm
 .have l:i<(is++[j]).length:=(Ag.mp e).1
  rw[Aj,Br]at l
  obtain rfl:i=is.length:=by lia
  rw[AM (Ax _),D4]at e
  cases e
  rw[AM (by rw[Aj,Br];lia),Aj,Br,D4]
  cases f j <;>rfl
structure Rg (f:Nat->Option Nat)(n:Nat)(r:List Nat):Prop where
 ne:r≠[]
 nd:r.Nodup
 lt:∀k∈r,k<n
 nx:∀i k,r[i]?=some k->f k=r[(i+1) % r.length]?
theorem ch_rg {is:List Nat}{j i0:Nat}(h:Ch f is (some j))(nd:is.Nodup)(lt:∀k∈is,k<n)(e:is[i0]?=some j):Rg f n (is.drop i0):=by
 have l0:=(Ag.mp e).1
 have ll:(is.drop i0).length=is.length-i0:=B9
 refine⟨λz=>?_,(List.drop_sublist _ _).nodup nd,λk hk=>lt k (Dy hk),λi k ek=>?_⟩
 .rw[z]at ll;have:0=is.length-i0:=ll;lia
 .have li:=(Ag.mp ek).1
  rw[ll]at li
  rw[List.getElem?_drop]at ek
  rw[h _ k ek,ll]
  by_cases c:i+1<is.length-i0
  .rw[Nat.mod_eq_of_lt c,List.getElem?_drop,AT (by lia),Nat.add_assoc]
  .rw[show i+1=is.length-i0 by lia,Nat.mod_self,List.getElem?_drop,show i0+0=i0 from rfl,e,AM (by lia),show i0+i+1-is.length=0 by lia];rfl
noncomputable def Od (f:Nat->Option Nat)(os:List Nat):Prop:=∀p k,os[p]?=some k->∀b,f k=some b->b∈os.take p
theorem od_app {os is:List Nat}{o:Option Nat}(h:Od f os)(c:Ch f is o)(ho:∀j,o=some j->j∈os):Od f (os++is.reverse):=by
 intro p k e b eb
 by_cases hp:p<os.length
 .rw[AT hp]at e
  have:=h p k e b eb
  rw[List.take_append_of_le_length (by lia)]
  exact this
 .rw[AM (by lia)]at e
  have lp:=(Ag.mp e).1
  rw[DA]at lp
  rw[Ea lp]at e
  have g:=c _ k e
  rw[eb]at g
  rw[List.take_append,AH]
  by_cases z:is.length-1-(p-os.length)+1<is.length
  .rw[AT z]at g
   right
   rw[List.mem_iff_getElem?]
   refine⟨is.length-1-(is.length-1-(p-os.length)+1),?_⟩
   rw[List.getElem?_take_of_lt (by lia),Ea (by lia),show is.length-1-(is.length-1-(is.length-1-(p-os.length)+1))=is.length-1-(p-os.length)+1 by lia]
   exact g.symm
  .rw[AM (by lia),show is.length-1-(p-os.length)+1-is.length=0 by lia]at g
   left
   rw[Cc (by lia)]
   refine ho b ?_
   cases o with
   |none=>cases g
   |some j=>exact g.symm
theorem qve {l:List Nat}(nd:l.Nodup)(lt:∀k∈l,k<n):l.length<=n:=by
 induction n generalizing l with
 |zero =>
  cases l with
  |nil=>exact Ax _
  |cons a l=>exact absurd (lt a Am) (DL _)
 |succ n ih =>
  have h:=ih (l:=l.erase n) (nd.erase n) (λk hk=>by
   have h1:=lt k (List.mem_of_mem_erase hk)
   have h2:k≠n:=λz=>by rw[z]at hk;exact nd.not_mem_erase hk
   lia)
  by_cases m:n∈l
  .rw[DH m]at h;lia
  .rw[List.erase_of_not_mem m]at h;lia
end
structure Wr (nms:List Str)(bs:List (Option Nat)):Prop where
 nd:nms.Nodup
 len:bs.length=nms.length
 sm:nms.length<=6
 ok:∀k b,bo bs k=some b->b<nms.length
theorem qa2 {H H':Hp}{x:Addr}{o0:HO}(hx:H x=none)(keep:∀b o,b≠x->upd H x o0 b=some o->H' b=some o):Same H H':=λb o e=>keep b o (qad e hx) (by rw[ze (qad e hx)];exact e)
noncomputable def spIL (K:Ae):Sp:=λvs H Q _=>∃(x C l:Addr)(zs:List V)(ini:Option Value),vs=[.ref x,.ref l]/\H x=some (exO x C none true)/\SqL K H l zs/\XA K C ini/\AJ K (.ref C) "names" = some none /\
 ∀(dx l':Addr)(H':Hp),H dx=none->H l'=none->(∀b o,b≠x->H b=some o->H' b=some o)->H' x=some (exO x C (some dx) true)->H' dx=some (exD dx [("names",.ref l')])->H' l'=some (.lst zs)->Q .non H'
noncomputable def OutR (a:Adr)(nms:List Str)(bs:List (Option Nat))(H:Hp)(E:XK):Prop:=∀(x d l:Addr)(H':Hp)(r:List Nat),Same H H'->H' x=some (exO x a.kG (some d) false)->H' d=some (exD d [("names",.ref l)])->H' l=some (.lst ((r.map (nm nms)).map V.str))->Rg (bo bs) nms.length r->E (.ref x) (some d) H'
theorem OutR.same {a:Adr}{nms:List Str}{bs:List (Option Nat)}{H H':Hp}{E:XK}(o:OutR a nms bs H E)(s:Same H H'):OutR a nms bs H' E:=λx d l H2 r z=>o x d l H2 r (s.trans z)
noncomputable def spUn7 (a:Adr):Sp:=λvs H Q E=>∃(d t:Addr)(kvs:List (Key×V))(nms:List Str)(bs:List (Option Nat))(os:List Nat)(k:Nat),vs=[.str (nm nms k),.ref d,.ref t]/\H d=some (.dK kvs)/\H t=some (.lst ((os.map (nm nms)).map V.str))/\Wr nms bs/\(∀j∈os,j<nms.length)/\k<nms.length/\DicOk kvs nms bs /\
 (∀(q:Addr)(H':Hp)(is:List Nat)(o:Option Nat),H q=none->Same H H'->H' q=some (.lst ((is.map (nm nms)).map V.str))->Ch (bo bs) is o->is.Nodup->(∀j∈is,j<nms.length/\j∉os)->(is++o.toList)[0]?=some k->(∀j,o=some j->j∈os)->Q (.ref q) H')/\OutR a nms bs H E
theorem qmv {nms:List Str}{os:List Nat}{j:Nat}(nd:nms.Nodup)(lt:∀k∈os,k<nms.length)(hj:j<nms.length):(os.map (nm nms)).contains (nm nms j)=true↔j∈os:=by
 rw[C0,AW]
 constructor
 .rintro⟨k,hk,e⟩
  rw[<- qip nd (lt k hk) hj e];exact hk
 .exact λh=>⟨j,h,rfl⟩
theorem nm_ix {nms:List Str}{os:List Nat}{j:Nat}(nd:nms.Nodup)(lt:∀k∈os,k<nms.length)(hj:j<nms.length)(ndo:os.Nodup)(h:j∈os):∃i:Nat,os[i]?=some j/\(os.map (nm nms))[i]?=some (nm nms j)/\∀m,m<i->(os.map (nm nms))[m]? ≠ some (nm nms j):=by
 obtain⟨i,hi,e⟩:=List.getElem_of_mem h
 have e:os[i]?=some j:=by rw[Ak hi,e]
 refine⟨i,e,by rw[Ai,e];rfl,λm hm z=>?_⟩
 rw[Ai]at z
 cases em:os[m]? with
 |none=>rw[em]at z;cases z
 |some k =>
  rw[em]at z
  have:=qip nd (lt k (Ay em)) hj (A7 z)
  rw[this,<- e]at em
  have:=(List.getElem?_inj (by lia) ndo).mp em
  lia
noncomputable def Ru (C:Addr)(H:Hp)(v:V)(x:Str)(b:V):Prop:=∃(p dx:Addr)(fs:List (Str×V)),v=.ref p/\H p=some (.ins C dx fs)/\fs.lookup (Ab "name")=some (.str x)/\fs.lookup (Ab "base")=some b
theorem Ru.keep {C:Addr}{H H':Hp}{v:V}{x:Str}{b:V}(h:Ru C H v x b)(k:KeepN H H'):Ru C H' v x b:=by
 obtain⟨p,dx,fs,e,h1,h2⟩:=h
 exact⟨p,dx,fs,e,k _ _ (λl z=>by cases z) h1,h2⟩
theorem Ru.same {C:Addr}{H H':Hp}{v:V}{x:Str}{b:V}(h:Ru C H v x b)(s:Same H H'):Ru C H' v x b:=h.keep (KeepN.of s)
noncomputable def Rus (C:Addr)(H:Hp)(us:List V)(nms:List Str)(bs:List (Option Nat)):Prop:=us.length=nms.length/\∀(j:Nat)(y:V),us[j]?=some y->Ru C H y (nm nms j) (qhs nms (bo bs j))
noncomputable def spHa7 (a:Adr):Sp:=λvs H Q E=>∃(pr:Addr)(us:List V)(nms:List Str)(bs:List (Option Nat)),vs=[.ref pr]/\H pr=some (.lst us)/\Rus a.k8 H us nms bs/\Wr nms bs /\
 (∀(q:Addr)(H':Hp)(os:List Nat),H q=none->Same H H'->H' q=some (.lst ((os.map (nm nms)).map V.str))->os.Nodup->(∀j∈os,j<nms.length)->Od (bo bs) os->(∀j,j<nms.length->j∈os)->Q (.ref q) H')/\OutR a nms bs H E
theorem ch_hd {is:List Nat}{o:Option Nat}{k:Nat}{os:List Nat}(st:(is++o.toList)[0]?=some k)(ho:∀j,o=some j->j∈os):k∈os++is.reverse:=by
 rw[AH,Ef]
 cases is with
 |nil =>
  left
  cases o with
  |none=>cases st
  |some j=>exact ho k (by rw[<- show some j=some k from st])
 |cons j is =>
  right
  rw[<- show j=k from A7 st]
  exact Am
structure Ors (bs:List (Option Nat))(n:Nat)(os:List Nat):Prop where
 nd:os.Nodup
 lt:∀j∈os,j<n
 od:Od (bo bs) os
 al:∀j,j<n->j∈os
open Wri
noncomputable abbrev ts (n:Int):Str:=Ab (toString n)
theorem le_0 (c:Nat):(!decide ((⟨#[c]⟩:Str).cps.toList<(Ab "0").cps.toList))=decide (48<=c):=by
 have e:(Ab "0").cps.toList=[48]:=Ek
 rw[e]
 show (!decide ([c]<[48]))=decide (48<=c)
 by_cases h:48<=c
 .have n:¬ [c]<[48]:=by simp[BR];lia
  simp[n,h]
 .have n:[c]<[48]:=by simp[BR];lia
  simp[n,h]
theorem le_9 (c:Nat):(!decide ((Ab "9").cps.toList<(⟨#[c]⟩:Str).cps.toList))=decide (c<=57):=by
 have e:(Ab "9").cps.toList=[57]:=Ek
 rw[e]
 show (!decide ([57]<[c]))=decide (c<=57)
 by_cases h:c<=57
 .have n:¬ [57]<[c]:=by simp[BR];lia
  simp[n,h]
 .have n:[57]<[c]:=by simp[BR];lia
  simp[n,h]
theorem nought:Ab "0" = ⟨#[48]⟩:=Ek
theorem qxy (x:Str):Txt.startswith x (Ab "0")=decide (x.cps.toList.head?=some 48):=by
 rw[nought,List.head?_eq_getElem?]
 have:=StrLaws.subAt_one x 48 0
 unfold Txt.startswith
 rw[C6,decide_eq_true_eq,<- this,AE,decide_eq_true_eq]
theorem nbF {b:Bool}(h:(!b)=true):b=false:=by cases b with|false=>rfl|true=>cases h
theorem nbT {b:Bool}(h:¬(!b)=true):b=true:=by cases b with|true=>rfl|false=>exact absurd rfl h
noncomputable def spFig:Sp:=λvs H Q _=>∃c:Nat,vs=[.str ⟨#[c]⟩]/\Q (.bl (fig c)) H
noncomputable def wnm (x:Str)(m:Int):Bool:=(decide (1<=x.cps.size) && decide ((x.cps.size:Int)<=m)) && (x.cps.toList.all fig && Wri.plain x)
noncomputable def spWn:Sp:=λvs H Q _=>∃(x:Str)(m:Int),vs=[.str x,.int m]/\x.length<=100000/\∀H',Same H H'->Q (.bl (wnm x m)) H'
theorem log_ok {n:Int}(k:Nat)(hk:(10:Nat) ^ k<2 ^ 1920)(h0:0<=n)(h:n<10 ^ k):n.natAbs.log2<1920:=by
 by_cases z:n.natAbs=0
 .rw[z];decide
 .rw[Nat.log2_lt z]
  have:n.natAbs<10 ^ k:=by
   have e:((n.natAbs:Nat):Int)=n:=Int.natAbs_of_nonneg h0
   have:((n.natAbs:Nat):Int)<((10 ^ k:Nat):Int):=by rw[e,Int.natCast_pow];exact h
   exact Int.ofNat_lt.mp this
  exact Nat.lt_trans this hk
theorem ts_len {n:Int}{k:Nat}(h0:0<=n)(hk:0<k)(h:n<10 ^ k):(ts n).length<=k:=PyProof.Rows.toString_length_le h0 hk h
noncomputable def due (x:Str)(m:Int):Bool:=wnm x ((ts m).length:Nat) && (decide (1<=nv x) && decide (nv x<=m))
noncomputable def qvf:Sp:=λvs H Q _=>∃(x:Str)(m:Int),vs=[.str x,.int m]/\x.length<=50000/\1<=m/\m<10 ^ 62/\(due x m=true->∀H',Same H H'->Q (.int (nv x)) H')/\(due x m=false->∀H',Same H H'->Q .non H')
noncomputable def low (c:Nat):Bool:=decide (97<=c) && decide (c<=122)
noncomputable def spLow:Sp:=λvs H Q _=>∃c:Nat,vs=[.str ⟨#[c]⟩]/\Q (.bl (low c)) H
theorem le_a (c:Nat):(!decide ((⟨#[c]⟩:Str).cps.toList<(Ab "a").cps.toList))=decide (97<=c):=by
 have e:(Ab "a").cps.toList=[97]:=Ek
 rw[e]
 show (!decide ([c]<[97]))=decide (97<=c)
 by_cases h:97<=c
 .have n:¬ [c]<[97]:=by simp[BR];lia
  simp[n,h]
 .have n:[c]<[97]:=by simp[BR];lia
  simp[n,h]
theorem le_z (c:Nat):(!decide ((Ab "z").cps.toList<(⟨#[c]⟩:Str).cps.toList))=decide (c<=122):=by
 have e:(Ab "z").cps.toList=[122]:=Ek
 rw[e]
 show (!decide ([122]<[c]))=decide (c<=122)
 by_cases h:c<=122
 .have n:¬ [122]<[c]:=by simp[BR];lia
  simp[n,h]
 .have n:[122]<[c]:=by simp[BR];lia
  simp[n,h]
noncomputable def qbk (x:Str):Prop:=1<=x.cps.size/\x.cps.size<=8/\x.cps.toList.all low=true
noncomputable abbrev wS (s:String):Str:=Ab s
theorem iteT' {c:Prop}[Decidable c]{A B:Prop}(h:c)(a:A):if c then A else B:=by rw[if_pos h];exact a
theorem qvg:wS " " = ⟨#[32]⟩:=Ek
theorem qxz {x:Str}(h:qbk x){c:Nat}(hc:c<97):c∉x.cps.toList:=λz=>by
 have:=AV.mp h.2.2 c z
 unfold low at this
 simp only[AE,decide_eq_true_eq]at this
 lia
noncomputable def qfk (ls:List Str):Str:=Str.join ⟨#[10]⟩ ls
theorem newl:wS "\n" = ⟨#[10]⟩:=Ek
noncomputable def qc3:Option Str->V
 |none=>.non
 |some y=>.str y
theorem iteF' {c:Prop}[Decidable c]{A B:Prop}(h:¬c)(a:B):if c then A else B:=by rw[if_neg h];exact a
theorem str_ext {x y:Str}(h:x.cps.toList=y.cps.toList):x=y:=by
 cases x;cases y
 simp only at h
 exact congrArg Str.mk (Array.toList_inj.mp h)
theorem qdz (x y:Str):(x++y).cps.toList=x.cps.toList++y.cps.toList:=by rw[Dx,Array.toList_append]
theorem wds_ok {L:List Nat}{n e:Nat}{t:Int}(hL:L.all low=true)(hn:n+1<=L.length)(h8:L.length<=8)(k:Nat):qbk (wdS L n e t k):=by
 have sg:low (sgn t e k)=true:=by
  unfold low sgn
  rw[decide_eq_true (show 97<=97+_ by lia),decide_eq_true (show 97+((t+((k / (1+e):Nat):Int)) % 26).toNat<=122 by lia)];rfl
 have tk:∀m,(L.take m).all low=true:=λm=>AV.mpr λx hx=>AV.mp hL x (Co hx)
 have dr:∀m,(L.drop m).all low=true:=λm=>AV.mpr λx hx=>AV.mp hL x (Dy hx)
 unfold wdS
 split
 .refine⟨?_,?_,?_⟩
  .show 1<=(L.take n++[sgn t e k]).toArray.size
   rw[Ao,Aj,Br];lia
  .show (L.take n++[sgn t e k]).toArray.size<=8
   rw[Ao,Aj,Br,A2];lia
  .show (L.take n++[sgn t e k]).all low=true
   rw[List.all_append,tk,C9,sg];rfl
 .refine⟨?_,?_,?_⟩
  .show 1<=(wdL L n (sgn t e k)).toArray.size
   rw[Ao];unfold wdL;rw[Aj,At];lia
  .show (wdL L n (sgn t e k)).toArray.size<=8
   rw[Ao];unfold wdL;rw[Aj,At,A2,B9];lia
  .show (wdL L n (sgn t e k)).all low=true
   unfold wdL;rw[List.all_append,tk,C9,sg,dr];rfl
noncomputable def spWo7:Sp:=λvs H Q _=>∃(c:Int)(m:Nat),vs=[.int c,.int (m:Int)]/\(m<=26\/(c % 2=1/\m<=52))/\∀(q:Addr)(H':Hp)(nms:List Str),H q=none->Same H H'->H' q=some (.lst (nms.map V.str))->nms.length=m->nms.Nodup->(∀x∈nms,qbk x)->Q (.ref q) H'
theorem low26 {j:Nat}(h:j<26):low (97+j)=true:=by
 unfold low
 rw[decide_eq_true (by lia),decide_eq_true (by lia)];rfl
noncomputable abbrev rlF (nm w o op b m u s pe pa pl py:V):List (Str×V):=[(Ab "name",nm),(Ab "who",w),(Ab "owes",o),(Ab "opens",op),(Ab "base",b),(Ab "many",m),(Ab "unit",u),(Ab "still",s),(Ab "ends",pe),(Ab "anew",pa),(Ab "longer",pl),(Ab "yields",py)]
noncomputable abbrev rq1 (a1:V):List (Str×V):=[(Ab "name",a1)]
noncomputable abbrev rq2 (a1 a2:V):List (Str×V):=rq1 a1++[(Ab "who",a2)]
noncomputable abbrev rq3 (a1 a2 a3:V):List (Str×V):=rq2 a1 a2++[(Ab "owes",a3)]
noncomputable abbrev rq4 (a1 a2 a3 a4:V):List (Str×V):=rq3 a1 a2 a3++[(Ab "opens",a4)]
noncomputable abbrev rq5 (a1 a2 a3 a4 a5:V):List (Str×V):=rq4 a1 a2 a3 a4++[(Ab "base",a5)]
noncomputable abbrev rq6 (a1 a2 a3 a4 a5 a6:V):List (Str×V):=rq5 a1 a2 a3 a4 a5++[(Ab "many",a6)]
noncomputable abbrev rq7 (a1 a2 a3 a4 a5 a6 a7:V):List (Str×V):=rq6 a1 a2 a3 a4 a5 a6++[(Ab "unit",a7)]
noncomputable abbrev rq8 (a1 a2 a3 a4 a5 a6 a7 a8:V):List (Str×V):=rq7 a1 a2 a3 a4 a5 a6 a7++[(Ab "still",a8)]
noncomputable abbrev rq9 (a1 a2 a3 a4 a5 a6 a7 a8 a9:V):List (Str×V):=rq8 a1 a2 a3 a4 a5 a6 a7 a8++[(Ab "ends",a9)]
noncomputable abbrev qpk (a1 a2 a3 a4 a5 a6 a7 a8 a9 a10:V):List (Str×V):=rq9 a1 a2 a3 a4 a5 a6 a7 a8 a9++[(Ab "anew",a10)]
noncomputable abbrev qn7 (a1 a2 a3 a4 a5 a6 a7 a8 a9 a10 a11:V):List (Str×V):=qpk a1 a2 a3 a4 a5 a6 a7 a8 a9 a10++[(Ab "longer",a11)]
noncomputable abbrev qpl (a1 a2 a3 a4 a5 a6 a7 a8 a9 a10 a11 a12:V):List (Str×V):=qn7 a1 a2 a3 a4 a5 a6 a7 a8 a9 a10 a11++[(Ab "yields",a12)]
noncomputable def qiq (r:Str×Int×Int):List V:=[.str r.1,.int r.2.1,.int r.2.2]
noncomputable def StAt (H:Hp)(v:V):Option (Str×Str)->Prop
 |none=>v=.non
 |some s=>∃p,v=.ref p/\H p=some (.tup [.str s.1,.str s.2])
theorem StAt.same {H H':Hp}{v:V}{o:Option (Str×Str)}(h:StAt H v o)(z:Same H H'):StAt H' v o:=by
 cases o with
 |none=>exact h
 |some s=>obtain⟨p,h1,h2⟩:=h;exact⟨p,h1,z _ _ h2⟩
noncomputable def qx0 (K:Ae)(f:Str):Sp:=λvs H Q _=>∃(x C:Addr)(y:V)(ini:Option Value),vs=[.ref x,y]/\H x=some (exO x C none true)/\XA K C ini/\AJ K (.ref C) f=some none /\
 ∀(dx:Addr)(H':Hp),H dx=none->(∀b o,b≠x->H b=some o->H' b=some o)->H' x=some (exO x C (some dx) true)->H' dx=some (exD dx [(f,y)])->Q .non H'
noncomputable def nmB (x:Str):Bool:=(decide (1<=x.cps.size) && decide (x.cps.size<=8)) && x.cps.toList.all low
theorem qcy {x:Str}:nmB x=true↔qbk x:=by
 unfold nmB qbk
 rw[AE,AE,decide_eq_true_eq,decide_eq_true_eq,and_assoc]
noncomputable def spNmG:Sp:=λvs H Q _=>∃x:Str,vs=[.str x]/\x.length<=2000/\∀H',Same H H'->Q (.bl (nmB x)) H'
noncomputable def qby:List Str:=[wS "days",wS "weeks",wS "court"]
inductive Ask where
 |num (m:Int)
 |name
 |unit
 |lit (c:Str)
noncomputable def askV:Ask->V
 |.num m=>.int m
 |.name=>.str (wS "NAME")
 |.unit=>.str (wS "UNIT")
 |.lit c=>.str c
noncomputable def qvh:Ask->Prop
 |.num m=>1<=m/\m<10 ^ 62
 |.name=>True
 |.unit=>True
 |.lit c=>c≠wS "NAME" /\ c≠wS "UNIT"
noncomputable def qc4 (w:Str):Ask->Option V
 |.num m=>if due w m=true then some (.int (nv w)) else none
 |.name=>if nmB w=true then some (.str w) else none
 |.unit=>if qby.contains w=true then some (.str w) else none
 |.lit c=>if w=c then some (.str w) else none
noncomputable def spValG:Sp:=λvs H Q _=>∃(w:Str)(q:Ask),vs=[.str w,askV q]/\qvh q/\w.length<=2000/\∀H',Same H H'->Q ((qc4 w q).getD .non) H'
noncomputable def qb2:List Str->List Ask->Option (List V)
 | [],[]=>some []
 |w::ws,q::qs=>(qc4 w q).bind λv=>(qb2 ws qs).map (v :: ·)
 |_,_=>none
noncomputable def qdn (d:Str):List Ask:=[.lit (wS "term"),.name,.lit (wS "of"),.name,.lit (wS "due"),.name,.lit d,.name,.num 40,.unit]
noncomputable def qkp:List (List Ask):=[qdn (wS "from"),qdn (wS "behind"),[.lit (wS "ends"),.name,.name],[.lit (wS "anew"),.name,.name],[.lit (wS "longer"),.name,.name,.num 20,.lit (wS "times"),.num 3],[.lit (wS "still"),.name,.name,.name],[.lit (wS "yields"),.name,.name]]
noncomputable def qht (ws:List Str):Option (List V):=qkp.findSome? (qb2 ws)
noncomputable def zsG (ws:List Str)(f:List Ask):List V:=(ws.zip f).map λp=>(qc4 p.1 p.2).getD .non
theorem qx1 {ws:List Str}{f:List Ask}(h:ws.length=f.length):(zsG ws f).length=ws.length:=by
 unfold zsG;rw[Ac,List.length_zip,h,Nat.min_self]
theorem ql2 (w:Str)(q:Ask):qbn ((qc4 w q).getD .non)=true/\(qc4 w q=none->(qc4 w q).getD .non=.non)/\∀v,qc4 w q=some v->eqV v .non=false:=by
 cases q <;>(unfold qc4;dsimp only;split <;>exact⟨rfl,λz=>(by first|rfl|cases z),λv z=>by first | (cases z;rfl)|cases z⟩)
theorem qvi (ws:List Str)(f:List Ask):(zsG ws f).all qbn=true:=by
 unfold zsG
 rw[CK,AV]
 exact λp _=>(ql2 p.1 p.2).1
theorem qqv:∀{ws:List Str}{f:List Ask},ws.length=f.length->qb2 ws f=if inV .non (zsG ws f)=true then none else some (zsG ws f)
 | [],[],_=>rfl
 |w::ws,q::qs,h=>by
  have ih:=qqv (ws:=ws) (f:=qs) (Dg h)
  obtain⟨_,h1,h2⟩:=ql2 w q
  have e:inV .non (zsG (w::ws) (q::qs))=(eqV ((qc4 w q).getD .non) .non || inV .non (zsG ws qs)):=by
   unfold inV zsG
   rw[List.zip_cons_cons,AA,DF]
  rw[e]
  show (qc4 w q).bind (λv=>(qb2 ws qs).map (v :: ·))=_
  cases ev:qc4 w q with
  |none=>rfl
  |some v =>
   have:=h2 v ev
   show (qb2 ws qs).map (v :: ·)=if (eqV v .non || inV .non (zsG ws qs))=true then none else some (zsG (w::ws) (q::qs))
   rw[this,Bool.false_or,ih]
   have ez:zsG (w::ws) (q::qs)=v::zsG ws qs:=by unfold zsG;rw[List.zip_cons_cons,AA,ev];rfl
   rw[ez]
   split <;>rfl
theorem qap:∀{ws:List Str}{f:List Ask},ws.length≠f.length->qb2 ws f=none
 | [],[],h=>absurd rfl h
 | [],_::_,_=>rfl
 |_::_,[],_=>rfl
 |w::ws,q::qs,h=>by
  show (qc4 w q).bind (λv=>(qb2 ws qs).map (v :: ·))=none
  rw[qap (λz=>h (by rw[At,At,z]))]
  cases qc4 w q <;>rfl
theorem qvj:∀f∈qkp,∀q∈f,qvh q:=by
 have t:∀d,d≠wS "NAME" -> d≠wS "UNIT" -> ∀q∈qdn d,qvh q:=λd h1 h2 q hq=>by
  simp only[qdn,Ap,Av,or_false]at hq
  rcases hq with rfl|rfl|rfl|rfl|rfl|rfl|rfl|rfl|rfl|rfl
  all_goals first|trivial|exact⟨h1,h2⟩|exact⟨En,En⟩|exact⟨Ek,Ek⟩
 intro f hf
 simp only[qkp,Ap,Av,or_false]at hf
 rcases hf with rfl|rfl|rfl|rfl|rfl|rfl|rfl
 .exact t _ Ek Ek
 .exact t _ Ek Ek
 .intro q hq
  simp only[Ap,Av,or_false]at hq
  rcases hq with rfl|rfl|rfl
  all_goals first|trivial|exact⟨En,En⟩|exact⟨Ek,Ek⟩
 .intro q hq
  simp only[Ap,Av,or_false]at hq
  rcases hq with rfl|rfl|rfl
  all_goals first|trivial|exact⟨En,En⟩|exact⟨Ek,Ek⟩
 .intro q hq
  simp only[Ap,Av,or_false]at hq
  rcases hq with rfl|rfl|rfl|rfl|rfl|rfl
  all_goals first|trivial|exact⟨En,En⟩|exact⟨Ek,Ek⟩
 .intro q hq
  simp only[Ap,Av,or_false]at hq
  rcases hq with rfl|rfl|rfl|rfl
  all_goals first|trivial|exact⟨En,En⟩|exact⟨Ek,Ek⟩
 .intro q hq
  simp only[Ap,Av,or_false]at hq
  rcases hq with rfl|rfl|rfl
  all_goals first|trivial|exact⟨En,En⟩|exact⟨Ek,Ek⟩
noncomputable def spRowG:Sp:=λvs H Q _=>∃l:Str,vs=[.str l]/\l.length<=1000/\(∀(q:Addr)(H':Hp)(us:List V),H q=none->Same H H'->qht (Cn l (wS " "))=some us->H' q=some (.lst us)->Q (.ref q) H')/\(qht (Cn l (wS " "))=none->∀H',Same H H'->Q .non H')
inductive Rw7 where
 |term (x w o:Str) (d:Bool) (y:Str) (m:Int) (u:Str)
 |ends (x k:Str)
 |anew (x k:Str)
 |longer (x k:Str) (u t:Int)
 |still (x k l:Str)
 |yields (x y:Str)
noncomputable def fbS (d:Bool):Str:=if d=true then wS "behind" else wS "from"
noncomputable def qcf:Rw7->List V
 |.term x w o d y m u=>[.str (wS "term"),.str x,.str (wS "of"),.str w,.str (wS "due"),.str o,.str (fbS d),.str y,.int m,.str u]
 |.ends x k=>[.str (wS "ends"),.str x,.str k]
 |.anew x k=>[.str (wS "anew"),.str x,.str k]
 |.longer x k u t=>[.str (wS "longer"),.str x,.str k,.int u,.str (wS "times"),.int t]
 |.still x k l=>[.str (wS "still"),.str x,.str k,.str l]
 |.yields x y=>[.str (wS "yields"),.str x,.str y]
noncomputable def qf1:List Str->Option Rw7
 | [a,x,b,w,c,o,d,y,m,u]=>if a=wS "term" /\ nmB x=true/\b=wS "of" /\ nmB w=true/\c=wS "due" /\ nmB o=true/\(d=wS "from" \/ d=wS "behind")/\nmB y=true/\due m 40=true/\qby.contains u=true then some (.term x w o (decide (d=wS "behind")) y (nv m) u) else none
 | [a,x,k]=>if nmB x=true/\nmB k=true then (if a=wS "ends" then some (.ends x k) else if a=wS "anew" then some (.anew x k) else if a=wS "yields" then some (.yields x k) else none) else none
 | [a,x,k,u,t,n]=>if a=wS "longer" /\ nmB x=true/\nmB k=true/\due u 20=true/\t=wS "times" /\ due n 3=true then some (.longer x k (nv u) (nv n)) else none
 | [a,x,k,l]=>if a=wS "still" /\ nmB x=true/\nmB k=true/\nmB l=true then some (.still x k l) else none
 |_=>none
theorem qqw {α β:Type}{g:α->Option β}:∀{l:List α}{i:Nat}{x:α}{y:β},l[i]?=some x->g x=some y->(∀j z,j<i->l[j]?=some z->g z=none)->l.findSome? g=some y
 | [],i,_,_,h,_,_=>by cases i <;>cases h
 |z::l,0,x,y,h,e,_=>by
  cases h
  rw[List.findSome?_cons,e]
 |z::l,i+1,x,y,h,e,al=>by
  rw[List.findSome?_cons,al 0 z (Nat.succ_pos _) rfl]
  exact qqw (l:=l) (i:=i) h e λj w hj hw=>al (j+1) w (Nat.succ_lt_succ hj) hw
theorem qi4 {w c:Str}(h:w=c):qc4 w (.lit c)=some (.str w):=if_pos h
theorem qi5 {w c:Str}(h:¬w=c):qc4 w (.lit c)=none:=if_neg h
theorem qel {w:Str}(h:nmB w=true):qc4 w .name=some (.str w):=if_pos h
theorem qem {w:Str}(h:¬nmB w=true):qc4 w .name=none:=if_neg h
theorem qvk {w:Str}{m:Int}(h:due w m=true):qc4 w (.num m)=some (.int (nv w)):=if_pos h
theorem qvl {w:Str}{m:Int}(h:¬due w m=true):qc4 w (.num m)=none:=if_neg h
theorem unit_t {w:Str}(h:qby.contains w=true):qc4 w .unit=some (.str w):=if_pos h
theorem unit_f {w:Str}(h:¬qby.contains w=true):qc4 w .unit=none:=if_neg h
theorem qbo {w:Str}{q:Ask}{v:V}{ws:List Str}{qs:List Ask}{vs:List V}(h:qc4 w q=some v)(t:qb2 ws qs=some vs):qb2 (w::ws) (q::qs)=some (v::vs):=by
 show (qc4 w q).bind (λv=>(qb2 ws qs).map (v :: ·))=_
 rw[h,t];rfl
theorem qbp {w:Str}{q:Ask}{ws:List Str}{qs:List Ask}(h:qc4 w q=none):qb2 (w::ws) (q::qs)=none:=by
 show (qc4 w q).bind (λv=>(qb2 ws qs).map (v :: ·))=_
 rw[h];rfl
theorem qae {w:Str}{q:Ask}{ws:List Str}{qs:List Ask}(t:qb2 ws qs=none):qb2 (w::ws) (q::qs)=none:=by
 show (qc4 w q).bind (λv=>(qb2 ws qs).map (v :: ·))=_
 rw[t];cases qc4 w q <;>rfl
theorem ql3 {a x b w c o d y m u e:Str}:qb2 [a,x,b,w,c,o,d,y,m,u] (qdn e)=if a=wS "term" /\ nmB x=true/\b=wS "of" /\ nmB w=true/\c=wS "due" /\ nmB o=true/\d=e/\nmB y=true/\due m 40=true/\qby.contains u=true then some [.str a,.str x,.str b,.str w,.str c,.str o,.str d,.str y,.int (nv m),.str u] else none:=by
 unfold qdn
 by_cases h0:a=wS "term"
 .by_cases h1:nmB x=true
  .by_cases h2:b=wS "of"
   .by_cases h3:nmB w=true
    .by_cases h4:c=wS "due"
     .by_cases h5:nmB o=true
      .by_cases h6:d=e
       .by_cases h7:nmB y=true
        .by_cases h8:due m 40=true
         .by_cases h9:qby.contains u=true
          .rw[if_pos ⟨h0,h1,h2,h3,h4,h5,h6,h7,h8,h9⟩]
           exact qbo (qi4 h0) (qbo (qel h1) (qbo (qi4 h2) (qbo (qel h3) (qbo (qi4 h4) (qbo (qel h5) (qbo (qi4 h6) (qbo (qel h7) (qbo (qvk h8) (qbo (unit_t h9) rfl)))))))))
          .rw[if_neg λz=>h9 z.2.2.2.2.2.2.2.2.2]
           exact qae (qae (qae (qae (qae (qae (qae (qae (qae (qbp (unit_f h9))))))))))
         .rw[if_neg λz=>h8 z.2.2.2.2.2.2.2.2.1]
          exact qae (qae (qae (qae (qae (qae (qae (qae (qbp (qvl h8)))))))))
        .rw[if_neg λz=>h7 z.2.2.2.2.2.2.2.1]
         exact qae (qae (qae (qae (qae (qae (qae (qbp (qem h7))))))))
       .rw[if_neg λz=>h6 z.2.2.2.2.2.2.1]
        exact qae (qae (qae (qae (qae (qae (qbp (qi5 h6)))))))
      .rw[if_neg λz=>h5 z.2.2.2.2.2.1]
       exact qae (qae (qae (qae (qae (qbp (qem h5))))))
     .rw[if_neg λz=>h4 z.2.2.2.2.1]
      exact qae (qae (qae (qae (qbp (qi5 h4)))))
    .rw[if_neg λz=>h3 z.2.2.2.1]
     exact qae (qae (qae (qbp (qem h3))))
   .rw[if_neg λz=>h2 z.2.2.1]
    exact qae (qae (qbp (qi5 h2)))
  .rw[if_neg λz=>h1 z.2.1]
   exact qae (qbp (qem h1))
 .rw[if_neg λz=>h0 z.1]
  exact qbp (qi5 h0)
theorem qpm {a x k e:Str}:qb2 [a,x,k] [.lit e,.name,.name]=if a=e/\nmB x=true/\nmB k=true then some [.str a,.str x,.str k] else none:=by
 by_cases h0:a=e
 .by_cases h1:nmB x=true
  .by_cases h2:nmB k=true
   .rw[if_pos ⟨h0,h1,h2⟩]
    exact qbo (qi4 h0) (qbo (qel h1) (qbo (qel h2) rfl))
   .rw[if_neg λz=>h2 z.2.2]
    exact qae (qae (qbp (qem h2)))
  .rw[if_neg λz=>h1 z.2.1]
   exact qae (qbp (qem h1))
 .rw[if_neg λz=>h0 z.1]
  exact qbp (qi5 h0)
theorem vals_4 {a x k l e:Str}:qb2 [a,x,k,l] [.lit e,.name,.name,.name]=if a=e/\nmB x=true/\nmB k=true/\nmB l=true then some [.str a,.str x,.str k,.str l] else none:=by
 by_cases h0:a=e
 .by_cases h1:nmB x=true
  .by_cases h2:nmB k=true
   .by_cases h3:nmB l=true
    .rw[if_pos ⟨h0,h1,h2,h3⟩]
     exact qbo (qi4 h0) (qbo (qel h1) (qbo (qel h2) (qbo (qel h3) rfl)))
    .rw[if_neg λz=>h3 z.2.2.2]
     exact qae (qae (qae (qbp (qem h3))))
   .rw[if_neg λz=>h2 z.2.2.1]
    exact qae (qae (qbp (qem h2)))
  .rw[if_neg λz=>h1 z.2.1]
   exact qae (qbp (qem h1))
 .rw[if_neg λz=>h0 z.1]
  exact qbp (qi5 h0)
theorem vals_6 {a x k u t n:Str}:qb2 [a,x,k,u,t,n] [.lit (wS "longer"),.name,.name,.num 20,.lit (wS "times"),.num 3]=if a=wS "longer" /\ nmB x=true/\nmB k=true/\due u 20=true/\t=wS "times" /\ due n 3=true then some [.str a,.str x,.str k,.int (nv u),.str t,.int (nv n)] else none:=by
 by_cases h0:a=wS "longer"
 .by_cases h1:nmB x=true
  .by_cases h2:nmB k=true
   .by_cases h3:due u 20=true
    .by_cases h4:t=wS "times"
     .by_cases h5:due n 3=true
      .rw[if_pos ⟨h0,h1,h2,h3,h4,h5⟩]
       exact qbo (qi4 h0) (qbo (qel h1) (qbo (qel h2) (qbo (qvk h3) (qbo (qi4 h4) (qbo (qvk h5) rfl)))))
      .rw[if_neg λz=>h5 z.2.2.2.2.2]
       exact qae (qae (qae (qae (qae (qbp (qvl h5))))))
     .rw[if_neg λz=>h4 z.2.2.2.2.1]
      exact qae (qae (qae (qae (qbp (qi5 h4)))))
    .rw[if_neg λz=>h3 z.2.2.2.1]
     exact qae (qae (qae (qbp (qvl h3))))
   .rw[if_neg λz=>h2 z.2.2.1]
    exact qae (qae (qbp (qem h2)))
  .rw[if_neg λz=>h1 z.2.1]
   exact qae (qbp (qem h1))
 .rw[if_neg λz=>h0 z.1]
  exact qbp (qi5 h0)
theorem qhu (ws:List Str):qht ws=(qb2 ws (qdn (wS "from"))).or ((qb2 ws (qdn (wS "behind"))).or ((qb2 ws [.lit (wS "ends"),.name,.name]).or ((qb2 ws [.lit (wS "anew"),.name,.name]).or ((qb2 ws [.lit (wS "longer"),.name,.name,.num 20,.lit (wS "times"),.num 3]).or ((qb2 ws [.lit (wS "still"),.name,.name,.name]).or (qb2 ws [.lit (wS "yields"),.name,.name])))))):=by
 unfold qht qkp
 simp only[List.findSome?_cons,List.findSome?_nil]
 cases qb2 ws (qdn (wS "from")) with
 |some v=>rfl
 |none =>
  cases qb2 ws (qdn (wS "behind")) with
  |some v=>rfl
  |none =>
   cases qb2 ws [.lit (wS "ends"),.name,.name] with
   |some v=>rfl
   |none =>
    cases qb2 ws [.lit (wS "anew"),.name,.name] with
    |some v=>rfl
    |none =>
     cases qb2 ws [.lit (wS "longer"),.name,.name,.num 20,.lit (wS "times"),.num 3] with
     |some v=>rfl
     |none =>
      cases qb2 ws [.lit (wS "still"),.name,.name,.name] with
      |some v=>rfl
      |none=>cases qb2 ws [.lit (wS "yields"),.name,.name] <;>rfl
theorem qd0 {ws:List Str}(h:ws.length≠10/\ws.length≠3/\ws.length≠6/\ws.length≠4):qht ws=none:=by
 rw[qhu,qap (f:=qdn (wS "from")) h.1,qap (f:=qdn (wS "behind")) h.1,qap (f:=[.lit (wS "ends"),.name,.name]) h.2.1,qap (f:=[.lit (wS "anew"),.name,.name]) h.2.1,qap (f:=[.lit (wS "longer"),.name,.name,.num 20,.lit (wS "times"),.num 3]) h.2.2.1,qap (f:=[.lit (wS "still"),.name,.name,.name]) h.2.2.2,qap (f:=[.lit (wS "yields"),.name,.name]) h.2.1]
 rfl
theorem qqx (a x b w c o d y m u:Str):qf1 [a,x,b,w,c,o,d,y,m,u]=if a=wS "term" /\ nmB x=true/\b=wS "of" /\ nmB w=true/\c=wS "due" /\ nmB o=true/\(d=wS "from" \/ d=wS "behind")/\nmB y=true/\due m 40=true/\qby.contains u=true then some (.term x w o (decide (d=wS "behind")) y (nv m) u) else none:=rfl
theorem qmw (a x k:Str):qf1 [a,x,k]=if nmB x=true/\nmB k=true then (if a=wS "ends" then some (.ends x k) else if a=wS "anew" then some (.anew x k) else if a=wS "yields" then some (.yields x k) else none) else none:=rfl
theorem qvm (a x k u t n:Str):qf1 [a,x,k,u,t,n]=if a=wS "longer" /\ nmB x=true/\nmB k=true/\due u 20=true/\t=wS "times" /\ due n 3=true then some (.longer x k (nv u) (nv n)) else none:=rfl
theorem qvn (a x k l:Str):qf1 [a,x,k,l]=if a=wS "still" /\ nmB x=true/\nmB k=true/\nmB l=true then some (.still x k l) else none:=rfl
theorem qx2 {a x b w c o d y m u:Str}:qht [a,x,b,w,c,o,d,y,m,u]=(qf1 [a,x,b,w,c,o,d,y,m,u]).map qcf:=by
 have l:([a,x,b,w,c,o,d,y,m,u]:List Str).length=10:=rfl
 rw[qhu,ql3,ql3,qap (f:=[.lit (wS "ends"),.name,.name]) (by rw[l];decide),qap (f:=[.lit (wS "anew"),.name,.name]) (by rw[l];decide),qap (f:=[.lit (wS "longer"),.name,.name,.num 20,.lit (wS "times"),.num 3]) (by rw[l];decide),qap (f:=[.lit (wS "still"),.name,.name,.name]) (by rw[l];decide),qap (f:=[.lit (wS "yields"),.name,.name]) (by rw[l];decide)]
 rw[qqx]
 have nb:wS "from" ≠ wS "behind" := by decide +kernel
 by_cases h1:a=wS "term" /\ nmB x=true/\b=wS "of" /\ nmB w=true/\c=wS "due" /\ nmB o=true/\d=wS "from" /\ nmB y=true/\due m 40=true/\qby.contains u=true
 .obtain⟨h0,h1,h2,h3,h4,h5,h6,h7⟩:=h1
  rw[if_pos ⟨h0,h1,h2,h3,h4,h5,h6,h7⟩,if_neg (λz=>nb (h6.symm.trans z.2.2.2.2.2.2.1)),if_pos ⟨h0,h1,h2,h3,h4,h5,.inl h6,h7⟩]
  subst h0 h2 h4 h6
  rw[decide_eq_false nb]
  rfl
 .rw[if_neg h1]
  by_cases h2:a=wS "term" /\ nmB x=true/\b=wS "of" /\ nmB w=true/\c=wS "due" /\ nmB o=true/\d=wS "behind" /\ nmB y=true/\due m 40=true/\qby.contains u=true
  .obtain⟨h0,h1,h2,h3,h4,h5,h6,h7⟩:=h2
   rw[if_pos ⟨h0,h1,h2,h3,h4,h5,h6,h7⟩,if_pos ⟨h0,h1,h2,h3,h4,h5,.inr h6,h7⟩]
   subst h0 h2 h4 h6
   rw[decide_eq_true rfl]
   rfl
  .rw[if_neg h2,if_neg λz=>by
    obtain⟨g0,g1,g2,g3,g4,g5,g6,g7⟩:=z
    rcases g6 with g6|g6
    .exact h1 ⟨g0,g1,g2,g3,g4,g5,g6,g7⟩
    .exact h2 ⟨g0,g1,g2,g3,g4,g5,g6,g7⟩]
   rfl
theorem rowV_3 {a x k:Str}:qht [a,x,k]=(qf1 [a,x,k]).map qcf:=by
 have l:([a,x,k]:List Str).length=3:=rfl
 rw[qhu,qap (f:=qdn (wS "from")) (by rw[l];decide),qap (f:=qdn (wS "behind")) (by rw[l];decide),qpm,qpm,qap (f:=[.lit (wS "longer"),.name,.name,.num 20,.lit (wS "times"),.num 3]) (by rw[l];decide),qap (f:=[.lit (wS "still"),.name,.name,.name]) (by rw[l];decide),qpm]
 rw[qmw]
 by_cases h:nmB x=true/\nmB k=true
 .rw[if_pos h]
  by_cases h1:a=wS "ends"
  .rw[if_pos ⟨h1,h⟩,if_pos h1]
   subst h1;rfl
  .rw[if_neg (λz=>h1 z.1),if_neg h1]
   by_cases h2:a=wS "anew"
   .rw[if_pos ⟨h2,h⟩,if_pos h2]
    subst h2;rfl
   .rw[if_neg (λz=>h2 z.1),if_neg h2]
    by_cases h3:a=wS "yields"
    .rw[if_pos ⟨h3,h⟩,if_pos h3]
     subst h3;rfl
    .rw[if_neg (λz=>h3 z.1),if_neg h3]
     rfl
 .rw[if_neg h,if_neg (λz=>h z.2),if_neg (λz=>h z.2),if_neg (λz=>h z.2)]
  rfl
theorem rowV_4 {a x k e:Str}:qht [a,x,k,e]=(qf1 [a,x,k,e]).map qcf:=by
 have l:([a,x,k,e]:List Str).length=4:=rfl
 rw[qhu,qap (f:=qdn (wS "from")) (by rw[l];decide),qap (f:=qdn (wS "behind")) (by rw[l];decide),qap (f:=[.lit (wS "ends"),.name,.name]) (by rw[l];decide),qap (f:=[.lit (wS "anew"),.name,.name]) (by rw[l];decide),qap (f:=[.lit (wS "longer"),.name,.name,.num 20,.lit (wS "times"),.num 3]) (by rw[l];decide),vals_4,qap (f:=[.lit (wS "yields"),.name,.name]) (by rw[l];decide)]
 rw[qvn]
 by_cases h:a=wS "still" /\ nmB x=true/\nmB k=true/\nmB e=true
 .rw[if_pos h,if_pos h]
  obtain⟨h0,_⟩:=h
  subst h0;rfl
 .rw[if_neg h,if_neg h]
  rfl
theorem rowV_6 {a x k u t n:Str}:qht [a,x,k,u,t,n]=(qf1 [a,x,k,u,t,n]).map qcf:=by
 have l:([a,x,k,u,t,n]:List Str).length=6:=rfl
 rw[qhu,qap (f:=qdn (wS "from")) (by rw[l];decide),qap (f:=qdn (wS "behind")) (by rw[l];decide),qap (f:=[.lit (wS "ends"),.name,.name]) (by rw[l];decide),qap (f:=[.lit (wS "anew"),.name,.name]) (by rw[l];decide),vals_6,qap (f:=[.lit (wS "still"),.name,.name,.name]) (by rw[l];decide),qap (f:=[.lit (wS "yields"),.name,.name]) (by rw[l];decide)]
 rw[qvm]
 by_cases h:a=wS "longer" /\ nmB x=true/\nmB k=true/\due u 20=true/\t=wS "times" /\ due n 3=true
 .rw[if_pos h,if_pos h]
  obtain⟨h0,_,_,_,h4,_⟩:=h
  subst h0 h4;rfl
 .rw[if_neg h,if_neg h]
  rfl
theorem rowV_R:∀ws:List Str,qht ws=(qf1 ws).map qcf
 | [a,x,b,w,c,o,d,y,m,u]=>qx2
 | [a,x,k]=>rowV_3
 | [a,x,k,u,t,n]=>rowV_6
 | [a,x,k,l]=>rowV_4
 | []=>qd0 (by simp)
 | [_]=>qd0 (by simp)
 | [_,_]=>qd0 (by simp)
 | [_,_,_,_,_]=>qd0 (by simp)
 | [_,_,_,_,_,_,_]=>qd0 (by simp)
 | [_,_,_,_,_,_,_,_]=>qd0 (by simp)
 | [_,_,_,_,_,_,_,_,_]=>qd0 (by simp)
 |_::_::_::_::_::_::_::_::_::_::_::r=>qd0 (by simp only[At];lia)
structure RR where
 name:Str
 who:Str
 owes:Str
 opens:Option Str
 base:Option Str
 many:Int
 unit:Str
 ends:List Str
 anew:List Str
 longer:List (Str×Int×Int)
 still:Option (Str×Str)
 yields:List Str
noncomputable def r0:RR:=⟨wS "",wS "",wS "",none,none,0,wS "",[],[],[],none,[]⟩
noncomputable def stL:Option (Str×Str)->List Str
 |none=>[]
 |some s=>[s.1,s.2]
noncomputable def qag (r:RR):List Str:=([r.owes]++r.ends++r.anew++r.longer.map (·.1))++r.opens.toList++stL r.still
inductive Er where
 |rule (i:Nat)
 |term (x:Str)
 |twice (x:Str)
 |unfit (i:Nat)
noncomputable def qam:List RR->Str->Option Nat
 | [],_=>none
 |r::rs,x=>if r.name=x then some 0 else (qam rs x).map (· + 1)
noncomputable def kin:Rw7->List Str
 |.term _ _ _ _ _ _ _=>[]
 |.ends _ k=>[k]
 |.anew _ k=>[k]
 |.longer _ k _ _=>[k]
 |.still _ k l=>[k,l]
 |.yields _ _=>[]
noncomputable def unfX (r:RR):Rw7->Bool
 |.still _ k l=>r.still.isSome || decide (k=l)
 |.longer _ _ _ _=>decide (r.longer.length=2)
 |_=>false
noncomputable def qji (r:RR)(row:Rw7):Bool:=((kin row).any λk=>(qag r).contains k) || unfX r row
noncomputable def qcz (r:RR):Rw7->RR
 |.ends _ k=>{ r with ends:=r.ends++[k] }
 |.anew _ k=>{ r with anew:=r.anew++[k] }
 |.longer _ k u t=>{ r with longer:=r.longer++[(k,u,t)] }
 |.still _ k l=>{ r with still:=some (k,l) }
 |_=>r
noncomputable def qpn (x w o:Str)(d:Bool)(y:Str)(m:Int)(u:Str):RR:=⟨x,w,o,if d=true then none else some y,if d=true then some y else none,m,u,[],[],[],none,[]⟩
noncomputable def qbh:Rw7->Str
 |.term x _ _ _ _ _ _=>x
 |.ends x _=>x
 |.anew x _=>x
 |.longer x _ _ _=>x
 |.still x _ _=>x
 |.yields x _=>x
noncomputable def isT:Rw7->Bool
 |.term _ _ _ _ _ _ _=>true
 |_=>false
noncomputable def qfl (rs:List RR)(i:Nat)(x w o:Str)(d:Bool)(y:Str)(m:Int)(u:Str):Except Er (List RR) :=
 if (qam rs x).isSome=true then .error (.twice x) else if rs.length=6\/(d=false/\o=y) then .error (.unfit i) else .ok (rs++[qpn x w o d y m u])
noncomputable def qi6 (rs:List RR)(i:Nat)(row:Rw7):Except Er (List RR) :=
 match qam rs (qbh row) with
 |none=>.error (.term (qbh row))
 |some j=>if qji (rs.getD j r0) row=true then .error (.unfit i) else .ok (rs.set j (qcz (rs.getD j r0) row))
noncomputable def qc8 (rs:List RR)(i:Nat):Rw7->Except Er (List RR)
 |.term x w o d y m u=>qfl rs i x w o d y m u
 |row=>qi6 rs i row
noncomputable def qdk (rs:List RR)(i j:Nat)(y:Str):Except Er (List RR) :=
 match qam rs y with
 |none=>.error (.term y)
 |some l=>if y=(rs.getD j r0).name\/y∈(rs.getD j r0).yields\/(rs.getD l r0).owes≠(rs.getD j r0).owes then .error (.unfit i) else .ok (rs.set j { rs.getD j r0 with yields:=(rs.getD j r0).yields++[y] })
noncomputable def qcg (rs:List RR)(i:Nat):Rw7->Except Er (List RR)
 |.term x _ _ _ _ _ _=>match qam rs x with
  |none=>.ok rs
  |some j=>match (rs.getD j r0).base with
   |none=>.ok rs
   |some y=>if (qam rs y).isSome=true then .ok rs else .error (.term y)
 |.yields x y=>match qam rs x with
  |none=>.ok rs
  |some j=>qdk rs i j y
 |_=>.ok rs
structure RA where
 p:Addr
 dx:Addr
 pe:Addr
 pa:Addr
 pl:Addr
 py:Addr
noncomputable def own (A:RA):List Addr:=[A.p,A.pe,A.pa,A.pl,A.py]
noncomputable def KeepT (S:List Addr)(H H':Hp):Prop:=∀b o,(b∉S \/ ∃t,o=.tup t)->H b=some o->H' b=some o
theorem KeepT.of {S:List Addr}{H H':Hp}(s:Same H H'):KeepT S H H':=λb o _ e=>s b o e
theorem KeepT.trans {S:List Addr}{H H1 H2:Hp}(a:KeepT S H H1)(b:KeepT S H1 H2):KeepT S H H2:=λc o n e=>b c o n (a c o n e)
theorem KeepT.sub {S S':List Addr}{H H':Hp}(a:KeepT S H H')(h:∀z∈S,z∈S'):KeepT S' H H':=λc o n e=>a c o (n.imp (λm z=>m (h c z)) id) e
theorem KeepT.put {S:List Addr}{H:Hp}{z:Addr}{o o':HO}(hz:z∈S)(e:H z=some o)(nt:∀t,o ≠ .tup t):KeepT S H (upd H z o'):=λb u n h=>by
 have ne:b≠z:=λq=>by
  rcases n with n|⟨t,rfl⟩
  .exact n (q ▸ hz)
  .rw[q,e]at h;injection h with h;exact nt t h
 rw[ze ne];exact h
theorem StAt.keep {S:List Addr}{H H':Hp}{v:V}{o:Option (Str×Str)}(h:StAt H v o)(k:KeepT S H H'):StAt H' v o:=by
 cases o with
 |none=>exact h
 |some s=>obtain⟨p,h1,h2⟩:=h;exact⟨p,h1,k _ _ (.inr ⟨_,rfl⟩) h2⟩
theorem qbs {S:List Addr}{H H':Hp}{us:List V}{ts:List (List V)}(t:Tups H us ts)(k:KeepT S H H'):Tups H' us ts:=by
 induction t with
 |nil=>exact .nil
 |cons h _ ih=>exact .cons (k _ _ (.inr ⟨_,rfl⟩) h) ih
noncomputable abbrev rlR (A:RA)(r:RR)(v:V):List (Str×V):=rlF (.str r.name) (.str r.who) (.str r.owes) (qc3 r.opens) (qc3 r.base) (.int r.many) (.str r.unit) v (.ref A.pe) (.ref A.pa) (.ref A.pl) (.ref A.py)
structure RuY (C:Addr)(H:Hp)(A:RA)(r:RR)(v:V)(us:List V):Prop where
 hx:H A.p=some (.ins C A.dx (rlR A r v))
 hs:StAt H v r.still
 he:H A.pe=some (.lst (r.ends.map V.str))
 ha:H A.pa=some (.lst (r.anew.map V.str))
 hl:H A.pl=some (.lst us)
 tl:Tups H us (r.longer.map qiq)
 hy:H A.py=some (.lst (r.yields.map V.str))
noncomputable def RuX (C:Addr)(H:Hp)(A:RA)(r:RR):Prop:=∃v us,RuY C H A r v us
theorem RuX.keep {C:Addr}{S:List Addr}{H H':Hp}{A:RA}{r:RR}(h:RuX C H A r)(k:KeepT S H H')(n:∀z∈own A,z∉S):RuX C H' A r:=by
 obtain⟨v,us,h⟩:=h
 exact⟨v,us,k _ _ (.inl (n _ (by simp[own]))) h.hx,h.hs.keep k,k _ _ (.inl (n _ (by simp[own]))) h.he,k _ _ (.inl (n _ (by simp[own]))) h.ha,k _ _ (.inl (n _ (by simp[own]))) h.hl,qbs h.tl k,k _ _ (.inl (n _ (by simp[own]))) h.hy⟩
theorem RuX.same {C:Addr}{H H':Hp}{A:RA}{r:RR}(h:RuX C H A r)(s:Same H H'):RuX C H' A r:=h.keep (S:=[]) (KeepT.of s) (λ_ _=>Av)
noncomputable def dcR:List RR->List RA->List (Key×V)
 |r::rs,A::As=>(.inr r.name,.ref A.p)::dcR rs As
 |_,_=>[]
structure Sta (C:Addr)(H:Hp)(d:Addr)(rs:List RR)(As:List RA):Prop where
 hd:H d=some (.dK (dcR rs As))
 ln:As.length=rs.length
 nd:(d::As.flatMap own).Nodup
 nn:(rs.map RR.name).Nodup
 ru:∀(i:Nat)(r:RR)(A:RA),rs[i]?=some r->As[i]?=some A->RuX C H A r
theorem qbz (r:RR)(rs:List RR)(x:Str):qam (r::rs) x=if r.name=x then some 0 else (qam rs x).map (· + 1):=rfl
theorem qfb:∀{rs:List RR}{As:List RA}(x:Str),As.length=rs.length->qdq (dcR rs As) (.inr x)=(qam rs x).bind λj=>(As[j]?).map λA=>.ref A.p
 | [],[],_,_=>rfl
 |r::rs,A::As,x,h=>by
  show qdq ((CT r.name,V.ref A.p)::dcR rs As) (.inr x)=_
  by_cases c:r.name=x
  .rw[qb6 (by show (CT r.name:Key)=_;rw[c])]
   rw[qbz,if_pos c]
   rfl
  .rw[qb7 (λz=>c (CT.inj z)),qfb x (Dg h)]
   rw[qbz,if_neg c]
   cases qam rs x <;>rfl
theorem qhv:∀{rs:List RR}{As:List RA},As.length=rs.length->(dcR rs As).length=rs.length
 | [],[],_=>rfl
 |r::rs,A::As,h=>by
  show (dcR rs As).length+1=_
  rw[qhv (Dg h)];rfl
theorem qkq:∀{rs:List RR}{As:List RA}(r:RR)(A:RA),As.length=rs.length->dcR (rs++[r]) (As++[A])=dcR rs As++[(.inr r.name,.ref A.p)]
 | [],[],_,_,_=>rfl
 |r'::rs,A'::As,r,A,h=>by
  show (CT r'.name,V.ref A'.p)::dcR (rs++[r]) (As++[A])=_
  rw[qkq r A (Dg h)];rfl
theorem qqy:∀{rs:List RR}{As:List RA}(j:Nat)(r:RR),(∀s,rs[j]?=some s->s.name=r.name)->dcR (rs.set j r) As=dcR rs As
 | [],_,_,_,_=>rfl
 |r'::rs,[],j,r,_=>by cases j <;>rfl
 |r'::rs,A::As,0,r,h=>by
  show (CT r.name,V.ref A.p)::dcR rs As=(CT r'.name,V.ref A.p)::dcR rs As
  rw[h r' rfl]
 |r'::rs,A::As,j+1,r,h=>by
  show (CT r'.name,V.ref A.p)::dcR (rs.set j r) As=_
  rw[qqy j r (λs e=>h s e)];rfl
theorem qn8:∀{rs:List RR}{As:List RA},As.length=rs.length->(dcR rs As).map (·.2)=As.map λA=>.ref A.p
 | [],[],_=>rfl
 |r::rs,A::As,h=>by
  show V.ref A.p::(dcR rs As).map (·.2)=_
  rw[qn8 (Dg h)];rfl
theorem qn9:∀{rs:List RR}{As:List RA},As.length=rs.length->(dcR rs As).map (·.1)=rs.map λr=>.inr r.name
 | [],[],_=>rfl
 |r::rs,A::As,h=>by
  show (CT r.name:Key)::(dcR rs As).map (·.1)=_
  rw[qn9 (Dg h)];rfl
theorem qb0:∀{rs:List RR}{x:Str}{j:Nat},qam rs x=some j->∃r,rs[j]?=some r/\r.name=x
 | [],_,_,h=>by cases h
 |r::rs,x,j,h=>by
  rw[qbz]at h
  by_cases c:r.name=x
  .rw[if_pos c]at h;cases h;exact⟨r,rfl,c⟩
  .rw[if_neg c]at h
   cases e:qam rs x with
   |none=>rw[e]at h;cases h
   |some i =>
    rw[e]at h
    cases h
    obtain⟨r',h1,h2⟩:=qb0 e
    exact⟨r',h1,h2⟩
theorem qdt:∀{rs:List RR}{x:Str},qam rs x=none↔x∉rs.map RR.name
 | [],_=>⟨λ_=>Av,λ_=>rfl⟩
 |r::rs,x=>by
  rw[qbz,AA,Ap]
  by_cases c:r.name=x
  .rw[if_pos c]
   exact⟨(λz=>nomatch z),λz=>absurd (.inl c.symm) z⟩
  .rw[if_neg c]
   have ih:=qdt (rs:=rs) (x:=x)
   constructor
   .rintro h (z|z)
    .exact c z.symm
    .cases e:qam rs x with
     |none=>exact ih.mp e z
     |some i=>rw[e]at h;cases h
   .intro h
    rw[ih.mpr λz=>h (.inr z)];rfl
theorem qgk:∀{rs:List RR}{j:Nat}{r:RR},(rs.map RR.name).Nodup->rs[j]?=some r->qam rs r.name=some j
 | [],j,_,_,h=>by cases j <;>cases h
 |r'::rs,0,r,_,h=>by
  cases h
  rw[qbz,if_pos rfl]
 |r'::rs,j+1,r,nd,h=>by
  rw[AA,AX]at nd
  rw[qbz,if_neg (λz=>nd.1 (by rw[z];exact AW.mpr ⟨r,Ay h,rfl⟩)),qgk nd.2 h];rfl
theorem qfc {rs:List RR}{j:Nat}{r:RR}(h:rs[j]?=some r):rs.getD j r0=r:=by rw[Be,h];rfl
theorem Sta.same {C:Addr}{H H':Hp}{d:Addr}{rs:List RR}{As:List RA}(s:Sta C H d rs As)(z:Same H H'):Sta C H' d rs As:=⟨z _ _ s.hd,s.ln,s.nd,s.nn,λi r A h1 h2=>(s.ru i r A h1 h2).same z⟩
theorem Sta.get {C:Addr}{H:Hp}{d:Addr}{rs:List RR}{As:List RA}(s:Sta C H d rs As){x:Str}{j:Nat}(h:qam rs x=some j):∃r A,rs[j]?=some r/\As[j]?=some A/\r.name=x/\RuX C H A r/\DGet H d (.str x) (some (.ref A.p)):=by
 obtain⟨r,hr,hn⟩:=qb0 h
 have lt:j<As.length:=by rw[s.ln];exact(Ag.mp hr).1
 refine⟨r,As[j],hr,Ak lt,hn,s.ru j r _ hr (Ak lt),?_⟩
 have g:=DGet.k (k:=.inr x) s.hd
 rw[qfb x s.ln,h]at g
 rw[show (some j).bind (λj=>(As[j]?).map λA=>V.ref A.p)=(As[j]?).map λA=>V.ref A.p from rfl,Ak lt]at g
 exact g
theorem Sta.non {C:Addr}{H:Hp}{d:Addr}{rs:List RR}{As:List RA}(s:Sta C H d rs As){x:Str}(h:qam rs x=none):DGet H d (.str x) none:=by
 have g:=DGet.k (k:=.inr x) s.hd
 rw[qfb x s.ln,h]at g
 exact g
theorem qyx {α:Type}{f:RA->List α}:∀{As:List RA}{i j:Nat}{A B:RA}{z:α},(As.flatMap f).Nodup->As[i]?=some A->As[j]?=some B->i≠j->z∈f A->z∉f B
 | [],i,_,_,_,_,_,h,_,_,_=>by cases i <;>cases h
 |C::As,i,j,A,B,z,nd,hi,hj,ne,hz=>by
  rw[By,AQ]at nd
  intro hz2
  cases i with
  |zero =>
   cases hi
   cases j with
   |zero=>exact ne rfl
   |succ j=>exact nd.2.2 z hz z (BQ.mpr ⟨B,Ay hj,hz2⟩) rfl
  |succ i =>
   cases j with
   |zero =>
    cases hj
    exact nd.2.2 z hz2 z (BQ.mpr ⟨A,Ay hi,hz⟩) rfl
   |succ j=>exact qyx nd.2.1 hi hj (λe=>ne (by rw[e])) hz hz2
theorem Sta.chg {C:Addr}{H H':Hp}{d:Addr}{rs:List RR}{As:List RA}{j:Nat}{r r':RR}{A:RA}(s:Sta C H d rs As)(hr:rs[j]?=some r)(hA:As[j]?=some A)(k:KeepT (own A) H H')(x:RuX C H' A r')(hn:r'.name=r.name):Sta C H' d (rs.set j r') As:=by
 have nd:=AX.mp s.nd
 have mem:∀z∈own A,z∈As.flatMap own:=λz hz=>BQ.mpr ⟨A,Ay hA,hz⟩
 refine⟨?_,by rw[Cw];exact s.ln,s.nd,?_,λi r2 B h1 h2=>?_⟩
 .rw[qqy j r' (λz e=>by rw[hr]at e;cases e;exact hn.symm)]
  exact k _ _ (.inl λz=>nd.1 (mem _ z)) s.hd
 .have e:(rs.set j r').map RR.name=rs.map RR.name:=by
   rw[List.map_set,hn]
   apply Bq
   intro i
   rw[Cv,Ai]
   by_cases c:j=i
   .subst c
    rw[if_pos rfl,hr,if_pos (by rw[Ac];exact(Ag.mp hr).1)];rfl
   .rw[if_neg c]
  rw[e];exact s.nn
 .rw[Cv]at h1
  by_cases c:j=i
  .subst c
   rw[if_pos rfl]at h1
   split at h1
   .cases h1;rw[hA]at h2;cases h2;exact x
   .cases h1
  .rw[if_neg c]at h1
   exact(s.ru i r2 B h1 h2).keep k λz hz hz2=>qyx nd.2 h2 hA (AZ c) hz hz2
noncomputable def erC (a:Adr):Er->Addr
 |.rule _=>a.kE
 |.term _=>a.kD
 |.twice _=>a.kF
 |.unfit _=>a.kC
noncomputable def erF:Er->Str×V
 |.rule i=>("at",.int (i:Int))
 |.term x=>("name",.str x)
 |.twice x=>("name",.str x)
 |.unfit i=>("at",.int (i:Int))
noncomputable def OutE (a:Adr)(e:Er)(H:Hp)(E:XK):Prop:=∀(x d:Addr)(H':Hp),Same H H'->H' x=some (exO x (erC a e) (some d) false)->H' d=some (exD d [erF e])->E (.ref x) (some d) H'
theorem OutE.same {a:Adr}{e:Er}{H H':Hp}{E:XK}(o:OutE a e H E)(s:Same H H'):OutE a e H' E:=λx d H2 z=>o x d H2 (s.trans z)
noncomputable def Bn (n:Nat)(rs:List RR):Prop:=∀r∈rs,r.ends.length<=n/\r.anew.length<=n/\r.longer.length<=n/\r.yields.length<=n
noncomputable def spRlG (a:Adr):Sp:=λvs H Q _=>∃(x dx:Addr)(vn vw vo vp vb vm vu vs':V),vs=[.ref x,vn,vw,vo,vp,vb,vm,vu,vs']/\H x=some (.ins a.k8 dx []) /\
 ∀(H':Hp)(pe pa pl py:Addr),SameBut x H H'->H pe=none->H pa=none->H pl=none->H py=none->H' x=some (.ins a.k8 dx (rlF vn vw vo vp vb vm vu vs' (.ref pe) (.ref pa) (.ref pl) (.ref py)))->H' pe=some (.lst [])->H' pa=some (.lst [])->H' pl=some (.lst [])->H' py=some (.lst [])->[x,pe,pa,pl,py].Nodup->Q .non H'
noncomputable def spAk (a:Adr):Sp:=λvs H Q _=>∃(A:RA)(r:RR),vs=[.ref A.p]/\RuX a.k8 H A r/\r.ends.length<=1000/\r.anew.length<=1000/\r.longer.length<=1000/\∀(q:Addr)(H':Hp),H q=none->Same H H'->H' q=some (.lst ((qag r).map V.str))->Q (.ref q) H'
noncomputable def spKi:Sp:=λvs H Q _=>∃(p:Addr)(row:Rw7),vs=[.ref p]/\H p=some (.lst (qcf row))/\isT row=false/\∀(q:Addr)(H':Hp),H q=none->Same H H'->H' q=some (.lst ((kin row).map V.str))->Q (.ref q) H'
noncomputable def spUf (a:Adr):Sp:=λvs H Q _=>∃(A:RA)(r:RR)(p:Addr)(row:Rw7),vs=[.ref A.p,.ref p]/\RuX a.k8 H A r/\r.ends.length<=1000/\r.anew.length<=1000/\r.longer.length<=1000/\H p=some (.lst (qcf row))/\isT row=false/\∀H',Same H H'->Q (.bl (qji r row)) H'
noncomputable def spMo (a:Adr):Sp:=λvs H Q E=>∃(A:RA)(r:RR)(i:Nat)(p:Addr)(row:Rw7),vs=[.ref A.p,.int (i:Int),.ref p]/\RuX a.k8 H A r/\(own A).Nodup/\r.ends.length<=1000/\r.anew.length<=1000/\r.longer.length<=1000/\H p=some (.lst (qcf row))/\isT row=false /\
 (qji r row=false->∀H',KeepT (own A) H H'->RuX a.k8 H' A (qcz r row)->Q .non H')/\(qji r row=true->OutE a (.unfit i) H E)
noncomputable def Frs (H:Hp)(As As':List RA):Prop:=∀z∈As'.flatMap own,z∈As.flatMap own\/H z=none
noncomputable def spTm (a:Adr):Sp:=λvs H Q E=>∃(d p:Addr)(i:Nat)(rs:List RR)(As:List RA)(x w o:Str)(dd:Bool)(y:Str)(m:Int)(u:Str),vs=[.ref d,.int (i:Int),.ref p]/\Sta a.k8 H d rs As/\rs.length<=6/\H p=some (.lst (qcf (.term x w o dd y m u))) /\
 (∀rs',qfl rs i x w o dd y m u=.ok rs'->∀H' As',KeepT (d::As.flatMap own) H H'->Frs H As As'->Sta a.k8 H' d rs' As'->Q .non H')/\∀e,qfl rs i x w o dd y m u=.error e->OutE a e H E
noncomputable def spRo (a:Adr):Sp:=λvs H Q E=>∃(d p:Addr)(i:Nat)(rs:List RR)(As:List RA)(row:Rw7),vs=[.ref d,.int (i:Int),.ref p]/\Sta a.k8 H d rs As/\rs.length<=6/\Bn 1000 rs/\H p=some (.lst (qcf row)) /\
 (∀rs',qc8 rs i row=.ok rs'->∀H' As',KeepT (d::As.flatMap own) H H'->Frs H As As'->Sta a.k8 H' d rs' As'->Q .non H')/\∀e,qc8 rs i row=.error e->OutE a e H E
noncomputable def spSy (a:Adr):Sp:=λvs H Q E=>∃(d:Addr)(i j:Nat)(rs:List RR)(As:List RA)(r:RR)(A:RA)(y:Str),vs=[.ref d,.ref A.p,.int (i:Int),.str y]/\Sta a.k8 H d rs As/\Bn 1000 rs/\rs[j]?=some r/\As[j]?=some A /\
 (∀rs',qdk rs i j y=.ok rs'->∀H',KeepT (d::As.flatMap own) H H'->Sta a.k8 H' d rs' As->Q .non H')/\∀e,qdk rs i j y=.error e->OutE a e H E
noncomputable def spSn (a:Adr):Sp:=λvs H Q E=>∃(d p:Addr)(i:Nat)(rs:List RR)(As:List RA)(row:Rw7),vs=[.ref d,.int (i:Int),.ref p]/\Sta a.k8 H d rs As/\Bn 1000 rs/\H p=some (.lst (qcf row))/\(qam rs (qbh row)).isSome=true /\
 (∀rs',qcg rs i row=.ok rs'->∀H',KeepT (d::As.flatMap own) H H'->Sta a.k8 H' d rs' As->Q .non H')/\∀e,qcg rs i row=.error e->OutE a e H E
theorem qx3 (r:RR):(qag r).length<=4+r.ends.length+r.anew.length+r.longer.length:=by
 unfold qag
 simp only[Aj,Ac,At,Ca]
 have h1:r.opens.toList.length<=1:=by cases r.opens <;>simp
 have h2:(stL r.still).length<=2:=by cases r.still <;>simp[stL]
 lia
theorem any_map {ks B:List Str}:((ks.map λk=>B.contains k).any λb=>b)=ks.any λk=>B.contains k:=by rw[List.any_map];rfl
theorem Sta.snoc {C:Addr}{H H':Hp}{d:Addr}{rs:List RR}{As:List RA}{r:RR}{A:RA}(s:Sta C H d rs As)(k:KeepT [d] H H')(hd:H' d=some (.dK (dcR rs As++[(.inr r.name,.ref A.p)])))(x:RuX C H' A r)(nm:qam rs r.name=none)(nd:(own A).Nodup)(nf:∀z∈own A,z≠d/\z∉As.flatMap own):Sta C H' d (rs++[r]) (As++[A]):=by
 have n0:=AX.mp s.nd
 refine⟨by rw[qkq r A s.ln];exact hd,by rw[Aj,Aj,s.ln];rfl,?_,?_,λi r2 B h1 h2=>?_⟩
 .rw[Bu,AX,AH,AQ]
  have e:[A].flatMap own=own A:=by simp
  rw[e]
  exact⟨λz=>z.elim n0.1 λq=>(nf d q).1 rfl,n0.2,nd,λa ha b hb q=>(nf b hb).2 (q ▸ ha)⟩
 .rw[A1,AQ]
  exact⟨s.nn,by simp,λa ha b hb q=>qdt.mp nm (by rw[<- An.mp hb,<- q];exact ha)⟩
 .by_cases c:i<rs.length
  .rw[AT c]at h1
   rw[AT (by rw[s.ln];exact c)]at h2
   refine(s.ru i r2 B h1 h2).keep k λz hz hz2=>n0.1 ?_
   rw[<- An.mp hz2]
   exact BQ.mpr ⟨B,Ay h2,hz⟩
  .rw[AM (by lia)]at h1
   rw[AM (by rw[s.ln];lia),s.ln]at h2
   have l1:i-rs.length<1:=(Ag.mp h1).1
   rw[show i-rs.length=0 by lia]at h1 h2
   cases h1
   cases h2
   exact x
theorem qoa {rs:List RR}{i:Nat}{x w o:Str}{d:Bool}{y:Str}{m:Int}{u:Str}(h:(qam rs x).isSome=true):qfl rs i x w o d y m u=.error (.twice x):=if_pos h
theorem qhw {rs:List RR}{i:Nat}{x w o:Str}{d:Bool}{y:Str}{m:Int}{u:Str}(h:qam rs x=none)(c:rs.length=6\/(d=false/\o=y)):qfl rs i x w o d y m u=.error (.unfit i):=by
 unfold qfl;rw[h,if_neg En,if_pos c]
theorem qf2 {rs:List RR}{i:Nat}{x w o:Str}{d:Bool}{y:Str}{m:Int}{u:Str}(h:qam rs x=none)(c:¬(rs.length=6\/(d=false/\o=y))):qfl rs i x w o d y m u=.ok (rs++[qpn x w o d y m u]):=by
 unfold qfl;rw[h,if_neg En,if_neg c]
theorem qob {rs:List RR}{i:Nat}{row:Rw7}(h:qam rs (qbh row)=none):qi6 rs i row=.error (.term (qbh row)):=by unfold qi6;rw[h]
theorem qoc {rs:List RR}{i j:Nat}{row:Rw7}{r:RR}(h:qam rs (qbh row)=some j)(hr:rs[j]?=some r)(u:qji r row=true):qi6 rs i row=.error (.unfit i):=by
 unfold qi6;rw[h];dsimp only;rw[qfc hr,if_pos u]
theorem qkr {rs:List RR}{i j:Nat}{row:Rw7}{r:RR}(h:qam rs (qbh row)=some j)(hr:rs[j]?=some r)(u:qji r row=false):qi6 rs i row=.ok (rs.set j (qcz r row)):=by
 unfold qi6;rw[h];dsimp only;rw[qfc hr,u,if_neg En]
theorem qir {rs:List RR}{i:Nat}{row:Rw7}(h:isT row=false):qc8 rs i row=qi6 rs i row:=by
 cases row with
 |term=>cases h
 |_=>rfl
theorem qhx (r:RR)(row:Rw7):(qcz r row).name=r.name:=by cases row <;>rfl
theorem qmx {As:List RA}{j:Nat}{A:RA}(h:As[j]?=some A):∀z∈own A,z∈As.flatMap own:=λz hz=>BQ.mpr ⟨A,Ay h,hz⟩
theorem qvo {As:List RA}{j:Nat}{A:RA}(nd:(As.flatMap own).Nodup)(h:As[j]?=some A):(own A).Nodup:=by
 induction As generalizing j with
 |nil=>cases j <;>cases h
 |cons B As ih =>
  rw[By,AQ]at nd
  cases j with
  |zero=>cases h;exact nd.1
  |succ j=>exact ih nd.2.1 h
theorem qks {rs:List RR}{i j:Nat}{y:Str}(h:qam rs y=none):qdk rs i j y=.error (.term y):=by unfold qdk;rw[h]
theorem qfd {rs:List RR}{i j l:Nat}{y:Str}{r s:RR}(h:qam rs y=some l)(hr:rs[j]?=some r)(hs:rs[l]?=some s)(c:y=r.name\/y∈r.yields\/s.owes≠r.owes):qdk rs i j y=.error (.unfit i):=by
 unfold qdk;rw[h];dsimp only;rw[qfc hr,qfc hs,if_pos c]
theorem qg6 {rs:List RR}{i j l:Nat}{y:Str}{r s:RR}(h:qam rs y=some l)(hr:rs[j]?=some r)(hs:rs[l]?=some s)(c:¬(y=r.name\/y∈r.yields\/s.owes≠r.owes)):qdk rs i j y=.ok (rs.set j { r with yields:=r.yields++[y] }):=by
 unfold qdk;rw[h];dsimp only;rw[qfc hr,qfc hs,if_neg c]
theorem qvp {rs:List RR}{i:Nat}{row:Rw7}(h:isT row=false)(h2:∀x y,row ≠ .yields x y):qcg rs i row=.ok rs:=by
 cases row with
 |yields x y=>exact absurd rfl (h2 x y)
 |term=>cases h
 |_=>rfl
theorem qkt {rs:List RR}{i j:Nat}{x y:Str}(h:qam rs x=some j):qcg rs i (.yields x y)=qdk rs i j y:=by
 show (match qam rs x with|none=>_|some j=>qdk rs i j y)=_
 rw[h]
theorem qhy {rs:List RR}{i j:Nat}{x w o:Str}{d:Bool}{y:Str}{m:Int}{u:Str}{r:RR}(h:qam rs x=some j)(hr:rs[j]?=some r):qcg rs i (.term x w o d y m u)=match r.base with|none=>.ok rs|some y=>if (qam rs y).isSome=true then .ok rs else .error (.term y):=by
 show (match qam rs x with|none=>_|some j=>_)=_
 rw[h]
 dsimp only
 rw[qfc hr]
noncomputable def qal:List RR->Nat->List (Option Rw7)->Except Er (List RR)
 |rs,_,[]=>.ok rs
 |rs,i,o::t=>if i=40 then .error (.rule i) else match o with
  |none=>.error (.rule i)
  |some row=>match qc8 rs i row with
   |.error e=>.error e
   |.ok rs'=>qal rs' (i+1) t
noncomputable def qao:List RR->Nat->List Rw7->Except Er (List RR)
 |rs,_,[]=>.ok rs
 |rs,i,row::t=>match qcg rs i row with
  |.error e=>.error e
  |.ok rs'=>qao rs' (i+1) t
noncomputable def opR (l:Str):Option Rw7:=qf1 (Cn l (wS " "))
noncomputable def qjj (ls:List Str):List (Option Rw7):=ls.map opR
noncomputable def qi7 (ls:List Str):Except Er (List RR):=match qal [] 0 (qjj ls) with
 |.error e=>.error e
 |.ok rs=>qao rs 0 ((qjj ls).filterMap id)
theorem qcd (rs:List RR)(i:Nat)(o:Option Rw7)(t:List (Option Rw7)):qal rs i (o::t)=if i=40 then .error (.rule i) else match o with
  |none=>.error (.rule i)
  |some row=>match qc8 rs i row with
   |.error e=>.error e
   |.ok rs'=>qal rs' (i+1) t:=rfl
theorem qd9 (rs:List RR)(i:Nat)(row:Rw7)(t:List Rw7):qao rs i (row::t)=match qcg rs i row with
  |.error e=>.error e
  |.ok rs'=>qao rs' (i+1) t:=rfl
theorem qfe:∀(xs ys:List (Option Rw7))(rs:List RR)(i:Nat),qal rs i (xs++ys)=match qal rs i xs with | .error e=>.error e | .ok rs'=>qal rs' (i+xs.length) ys
 | [],ys,rs,i=>rfl
 |o::xs,ys,rs,i=>by
  show qal rs i (o::(xs++ys))=_
  rw[qcd,qcd]
  by_cases c:i=40
  .rw[if_pos c,if_pos c]
  .rw[if_neg c,if_neg c]
   cases o with
   |none=>rfl
   |some row =>
    dsimp only
    cases qc8 rs i row with
    |error e=>rfl
    |ok rs' =>
     dsimp only
     rw[qfe xs ys rs' (i+1),At,show i+1+xs.length=i+(xs.length+1) by lia]
theorem qf3:∀(xs ys:List Rw7)(rs:List RR)(i:Nat),qao rs i (xs++ys)=match qao rs i xs with | .error e=>.error e | .ok rs'=>qao rs' (i+xs.length) ys
 | [],ys,rs,i=>rfl
 |row::xs,ys,rs,i=>by
  show qao rs i (row::(xs++ys))=_
  rw[qd9,qd9]
  cases qcg rs i row with
  |error e=>rfl
  |ok rs' =>
   dsimp only
   rw[qf3 xs ys rs' (i+1),At,show i+1+xs.length=i+(xs.length+1) by lia]
theorem qi8 {os:List (Option Rw7)}{i:Nat}{rs:List RR}{o:Option Rw7}(h:qal [] 0 (os.take i)=.ok rs)(hi:os[i]?=some o):qal [] 0 os=qal rs i (o::os.drop (i+1))/\qal [] 0 (os.take (i+1))=qal rs i [o]:=by
 have lt:=(Ag.mp hi).1
 have e:os=os.take i++(o::os.drop (i+1)):=by
  have:=BD i os
  rw[BJ lt]at this
  rw[Ak lt]at hi
  cases hi
  exact this.symm
 have l:(os.take i).length=i:=by rw[A2];lia
 constructor
 .conv=>lhs;rw[e]
  rw[qfe,h]
  dsimp only
  rw[l,D5]
 .rw[qbf hi,qfe,h]
  dsimp only
  rw[l,D5]
theorem qg7 {rw:List Rw7}{i:Nat}{rs0 rs:List RR}{row:Rw7}(h:qao rs0 0 (rw.take i)=.ok rs)(hi:rw[i]?=some row):qao rs0 0 rw=qao rs i (row::rw.drop (i+1))/\qao rs0 0 (rw.take (i+1))=qao rs i [row]:=by
 have lt:=(Ag.mp hi).1
 have e:rw=rw.take i++(row::rw.drop (i+1)):=by
  have:=BD i rw
  rw[BJ lt]at this
  rw[Ak lt]at hi
  cases hi
  exact this.symm
 have l:(rw.take i).length=i:=by rw[A2];lia
 constructor
 .conv=>lhs;rw[e]
  rw[qf3,h]
  dsimp only
  rw[l,D5]
 .rw[qbf hi,qf3,h]
  dsimp only
  rw[l,D5]
theorem qg8 {rs rs':List RR}{i:Nat}{row:Rw7}(n:i≠40)(h:qc8 rs i row=.ok rs')(t:List (Option Rw7)):qal rs i (some row::t)=qal rs' (i+1) t:=by
 rw[qcd,if_neg n];dsimp only;rw[h]
theorem qpo {rs:List RR}{i:Nat}{row:Rw7}{e:Er}(n:i≠40)(h:qc8 rs i row=.error e)(t:List (Option Rw7)):qal rs i (some row::t)=.error e:=by
 rw[qcd,if_neg n];dsimp only;rw[h]
theorem qi9 {rs:List RR}{i:Nat}(n:i=40)(o:Option Rw7)(t:List (Option Rw7)):qal rs i (o::t)=.error (.rule i):=by
 rw[qcd,if_pos n]
theorem qpp {rs:List RR}{i:Nat}(n:i≠40)(t:List (Option Rw7)):qal rs i (none::t)=.error (.rule i):=by
 rw[qcd,if_neg n]
theorem qe4 {rs rs':List RR}{i:Nat}{row:Rw7}(h:qcg rs i row=.ok rs')(t:List Rw7):qao rs i (row::t)=qao rs' (i+1) t:=by
 rw[qd9,h]
theorem ql4 {rs:List RR}{i:Nat}{row:Rw7}{e:Er}(h:qcg rs i row=.error e)(t:List Rw7):qao rs i (row::t)=.error e:=by
 rw[qd9,h]
theorem qsk {rs:List RR}{i:Nat}{x w o:Str}{d:Bool}{y:Str}{m:Int}{u:Str}(h:qam rs x=none):qcg rs i (.term x w o d y m u)=.ok rs:=by
 show (match qam rs x with|none=>_|some j=>_)=_
 rw[h]
theorem qsl {rs:List RR}{i:Nat}{x y:Str}(h:qam rs x=none):qcg rs i (.yields x y)=.ok rs:=by
 show (match qam rs x with|none=>_|some j=>_)=_
 rw[h]
theorem qcq:∀{rs rs':List RR}(x:Str),rs.map RR.name=rs'.map RR.name->qam rs x=qam rs' x
 | [],[],_,_=>rfl
 |r::rs,[],_,h=>by cases h
 | [],r::rs,_,h=>by cases h
 |r::rs,r'::rs',x,h=>by
  rw[AA,AA]at h
  injection h with h1 h2
  rw[qbz,qbz,h1,qcq x h2]
theorem qhz:∀(rs:List RR)(r:RR)(x:Str),qam (rs++[r]) x=match qam rs x with|some j=>some j|none=>if r.name=x then some rs.length else none
 | [],r,x=>by
  show qam [r] x=_
  rw[qbz]
  show (if r.name=x then some 0 else none)=if r.name=x then some 0 else none
  rfl
 |r'::rs,r,x=>by
  show qam (r'::(rs++[r])) x=_
  rw[qbz,qbz,qhz rs r x]
  by_cases c:r'.name=x
  .rw[if_pos c,if_pos c]
  .rw[if_neg c,if_neg c]
   cases qam rs x with
   |some j=>rfl
   |none =>
    dsimp only
    by_cases c2:r.name=x
    .rw[if_pos c2];show some _=if r.name=x then some _ else none;rw[if_pos c2];rfl
    .rw[if_neg c2];show none=if r.name=x then some _ else none;rw[if_neg c2]
theorem qis {rs:List RR}{j:Nat}{r r':RR}(hr:rs[j]?=some r)(hn:r'.name=r.name):(rs.set j r').map RR.name=rs.map RR.name:=by
 rw[List.map_set,hn]
 apply Bq
 intro i
 rw[Cv,Ai]
 by_cases c:j=i
 .subst c
  rw[if_pos rfl,hr,if_pos (by rw[Ac];exact(Ag.mp hr).1)];rfl
 .rw[if_neg c]
inductive RowDid (rs:List RR) (row:Rw7) (rs':List RR):Prop where
 |new (r:RR) (t:isT row=true) (n:r.name=qbh row) (z:qam rs r.name=none) (e:rs'=rs++[r]) (l:rs.length≠6) (m:r.ends=[]/\r.anew=[]/\r.longer=[]/\r.yields=[])
 |old (j:Nat) (r:RR) (t:isT row=false) (p:qam rs (qbh row)=some j) (h:rs[j]?=some r) (u:qji r row=false) (e:rs'=rs.set j (qcz r row))
theorem qod {rs rs':List RR}{i:Nat}{row:Rw7}(h:qc8 rs i row=.ok rs'):RowDid rs row rs':=by
 cases ht:isT row with
 |true =>
  cases row with
  |term x w o d y m u =>
   have h:qfl rs i x w o d y m u=.ok rs':=h
   cases pn:qam rs x with
   |some j=>rw[qoa (by rw[pn];rfl)]at h;cases h
   |none =>
    by_cases c:rs.length=6\/(d=false/\o=y)
    .rw[qhw pn c]at h;cases h
    .rw[qf2 pn c]at h
     cases h
     exact .new (qpn x w o d y m u) rfl rfl pn rfl (λz=>c (.inl z)) ⟨rfl,rfl,rfl,rfl⟩
  |_=>cases ht
 |false =>
  rw[qir ht]at h
  cases pn:qam rs (qbh row) with
  |none=>rw[qob pn]at h;cases h
  |some j =>
   obtain⟨r,hr,_⟩:=qb0 pn
   cases u:qji r row with
   |true=>rw[qoc pn hr u]at h;cases h
   |false =>
    rw[qkr pn hr u]at h
    cases h
    exact .old j r ht pn hr u rfl
theorem RowDid.len {rs rs':List RR}{row:Rw7}(h:RowDid rs row rs')(l:rs.length<=6):rs'.length<=6:=by
 cases h with
 |new r _ _ _ e n _=>rw[e,Aj];show _+1<=6;lia
 |old j r _ _ _ _ e=>rw[e,Cw];exact l
theorem RowDid.bn {rs rs':List RR}{row:Rw7}{n:Nat}(h:RowDid rs row rs')(b:Bn n rs):Bn (n+1) rs':=by
 have up:∀r∈rs,r.ends.length<=n+1/\r.anew.length<=n+1/\r.longer.length<=n+1/\r.yields.length<=n+1:=λr hr=>by
  obtain⟨h1,h2,h3,h4⟩:=b r hr
  exact⟨by lia,by lia,by lia,by lia⟩
 cases h with
 |new r _ _ _ e _ m =>
  obtain⟨m1,m2,m3,m4⟩:=m
  intro r2 h2
  rw[e]at h2
  rcases AH.mp h2 with z|z
  .exact up r2 z
  .rw[An.mp z,m1,m2,m3,m4];exact⟨Bs _,Bs _,Bs _,Bs _⟩
 |old j r t _ hr _ e =>
  intro r2 h2
  rw[e]at h2
  rcases D7 h2 with z|z
  .exact up r2 z
  .rw[z]
   obtain⟨h1,h2,h3,h4⟩:=b r (Ay hr)
   cases row <;>(simp only[qcz,Aj,At,Ca];lia)
theorem RowDid.has {rs rs':List RR}{row:Rw7}(h:RowDid rs row rs'):(qam rs' (qbh row)).isSome=true/\∀x,(qam rs x).isSome=true->(qam rs' x).isSome=true:=by
 cases h with
 |new r t n z e _ _ =>
  rw[e]
  refine⟨?_,λx hx=>?_⟩
  .rw[qhz,<- n,z];dsimp only;rw[if_pos rfl];rfl
  .rw[qhz]
   cases p:qam rs x with
   |none=>rw[p]at hx;cases hx
   |some j=>rfl
 |old j r t p hr u e =>
  have en:=qis hr (qhx r row)
  rw[e]
  exact⟨by rw[qcq _ en,p];rfl,λx hx=>by rw[qcq _ en];exact hx⟩
noncomputable def qx4 (rs:List RR)(rw:List Rw7):Prop:=∀r∈rs,∃row∈rw,isT row=true/\qbh row=r.name
theorem RowDid.hasT {rs rs':List RR}{row:Rw7}{rw:List Rw7}(h:RowDid rs row rs')(b:qx4 rs rw):qx4 rs' (rw++[row]):=by
 have up:∀r∈rs,∃row'∈rw++[row],isT row'=true/\qbh row'=r.name:=λr hr=>by
  obtain⟨q,h1,h2⟩:=b r hr
  exact⟨q,Cj _ h1,h2⟩
 cases h with
 |new r t n z e _ _ =>
  intro r2 h2
  rw[e]at h2
  rcases AH.mp h2 with q|q
  .exact up r2 q
  .rw[An.mp q];exact⟨row,by simp,t,n.symm⟩
 |old j r t p hr u e =>
  intro r2 h2
  rw[e]at h2
  rcases D7 h2 with q|q
  .exact up r2 q
  .rw[q,qhx];exact up r (Ay hr)
structure SetDid (rs rs':List RR):Prop where
 nm:rs'.map RR.name=rs.map RR.name
 ba:rs'.map RR.base=rs.map RR.base
theorem qku {rs rs':List RR}{i:Nat}{row:Rw7}(h:qcg rs i row=.ok rs'):SetDid rs rs'/\∀n,Bn n rs->Bn (n+1) rs':=by
 have same:rs'=rs->SetDid rs rs'/\∀n,Bn n rs->Bn (n+1) rs':=λe=>by
  subst e
  exact⟨⟨rfl,rfl⟩,λn b r hr=>by obtain⟨h1,h2,h3,h4⟩:=b r hr;exact⟨by lia,by lia,by lia,by lia⟩⟩
 cases row with
 |term x w o d y m u =>
  cases pn:qam rs x with
  |none =>
   rw[qsk pn]at h
   cases h;exact same rfl
  |some j =>
   obtain⟨r,hr,_⟩:=qb0 pn
   rw[qhy pn hr]at h
   cases eb:r.base with
   |none=>rw[eb]at h;cases h;exact same rfl
   |some z =>
    rw[eb]at h
    dsimp only at h
    split at h
    .cases h;exact same rfl
    .cases h
 |yields x y =>
  cases pn:qam rs x with
  |none =>
   rw[qsl pn]at h
   cases h;exact same rfl
  |some j =>
   obtain⟨r,hr,_⟩:=qb0 pn
   rw[qkt pn]at h
   cases py:qam rs y with
   |none=>rw[qks py]at h;cases h
   |some l =>
    obtain⟨s,hs,_⟩:=qb0 py
    by_cases c:y=r.name\/y∈r.yields\/s.owes≠r.owes
    .rw[qfd py hr hs c]at h;cases h
    .rw[qg6 py hr hs c]at h
     cases h
     refine⟨⟨qis hr rfl,?_⟩,λn b r2 h2=>?_⟩
     .rw[List.map_set]
      apply Bq
      intro i
      rw[Cv,Ai]
      by_cases c:j=i
      .subst c
       rw[if_pos rfl,hr,if_pos (by rw[Ac];exact(Ag.mp hr).1)];rfl
      .rw[if_neg c]
     .rcases D7 h2 with z|z
      .obtain⟨h1,h2,h3,h4⟩:=b r2 z;exact⟨by lia,by lia,by lia,by lia⟩
      .rw[z]
       obtain⟨h1,h2,h3,h4⟩:=b r (Ay hr)
       simp only[Aj,At,Ca]
       lia
 |ends=>cases h;exact same rfl
 |anew=>cases h;exact same rfl
 |longer=>cases h;exact same rfl
 |still=>cases h;exact same rfl
theorem qoe {rs rs':List RR}{i:Nat}{row:Rw7}(h:qcg rs i row=.ok rs')(t:isT row=true){j:Nat}{r:RR}(p:qam rs (qbh row)=some j)(hr:rs[j]?=some r):∀y,r.base=some y->(qam rs y).isSome=true:=by
 cases row with
 |term x w o d y m u =>
  intro z eb
  rw[qhy (x:=x) p hr,eb]at h
  dsimp only at h
  by_cases c:(qam rs z).isSome=true
  .exact c
  .rw[if_neg c]at h;cases h
 |_=>cases t
noncomputable def bsR (rs:List RR):List (Option Nat):=rs.map λr=>r.base.bind (qam rs)
noncomputable def qit (rs:List RR):Prop:=∀r∈rs,∀y,r.base=some y->(qam rs y).isSome=true
theorem qx5 {rs0 rs:List RR}{rw:List Rw7}(h:qao rs0 0 rw=.ok rs)(nn:(rs0.map RR.name).Nodup)(t:qx4 rs0 rw):qit rs:=by
 have w:∀i,i<=rw.length->∃ri,qao rs0 0 (rw.take i)=.ok ri/\SetDid rs0 ri/\∀row∈rw.take i,isT row=true->∀(j:Nat)(r:RR),rs0[j]?=some r->r.name=qbh row->∀y,r.base=some y->(qam rs0 y).isSome=true:=by
  intro i
  induction i with
  |zero=>exact λ_=>⟨rs0,rfl,⟨rfl,rfl⟩,λrow hr=>by rw[DY]at hr;cases hr⟩
  |succ i ih =>
   intro hi
   obtain⟨ri,h1,h2,h3⟩:=ih (by lia)
   obtain⟨row,hrow⟩:∃row,rw[i]?=some row:=⟨_,Ak (by lia)⟩
   obtain⟨e1,e2⟩:=qg7 h1 hrow
   cases es:qcg ri i row with
   |error e=>rw[e1,ql4 es]at h;cases h
   |ok r' =>
    rw[qe4 es]at e2
    obtain⟨d1,_⟩:=qku es
    refine⟨r',e2,⟨d1.nm.trans h2.nm,d1.ba.trans h2.ba⟩,λrow' hr' ht j r hj hn y hy=>?_⟩
    rw[qbf hrow]at hr'
    rcases AH.mp hr' with z|z
    .exact h3 row' z ht j r hj hn y hy
    .rw[An.mp z]at ht hn
     have pj:qam ri (qbh row)=some j:=by rw[qcq _ h2.nm,<- hn];exact qgk nn hj
     obtain⟨r2,hr2,_⟩:=qb0 pj
     have eb:r2.base=r.base:=by
      have q1:(ri.map RR.base)[j]?=some r2.base:=by rw[Ai,hr2];rfl
      rw[h2.ba,Ai,hj]at q1
      exact(A7 q1).symm
     have:=qoe es ht pj hr2 y (by rw[eb];exact hy)
     rw[qcq _ h2.nm]at this
     exact this
 obtain⟨ri,h1,h2,h3⟩:=w _ (Ax _)
 rw[Bx]at h1 h3
 rw[h1]at h
 cases h
 intro r hr y hy
 obtain⟨j,hj⟩:=Ba hr
 have lj:j<rs0.length:=by
  have:=congrArg DQ h2.nm
  rw[Ac,Ac]at this
  rw[<- this];exact(Ag.mp hj).1
 have hj0:rs0[j]?=some rs0[j]:=Ak lj
 have en:rs0[j].name=r.name:=by
  have q1:(rs.map RR.name)[j]?=some r.name:=by rw[Ai,hj];rfl
  rw[h2.nm,Ai,hj0]at q1
  exact A7 q1
 have eb:rs0[j].base=r.base:=by
  have q1:(rs.map RR.base)[j]?=some r.base:=by rw[Ai,hj];rfl
  rw[h2.ba,Ai,hj0]at q1
  exact A7 q1
 obtain⟨row,hrow,ht,hn⟩:=t _ (Ay hj0)
 rw[qcq _ h2.nm]
 exact h3 row hrow ht j _ hj0 hn.symm y (by rw[eb];exact hy)
theorem wr_of {rs:List RR}(nn:(rs.map RR.name).Nodup)(l:rs.length<=6):Wr (rs.map RR.name) (bsR rs):=⟨nn,by unfold bsR;rw[Ac,Ac],by rw[Ac];exact l,λk b e=>by
 unfold bo bsR at e
 rw[Be,Ai]at e
 cases er:rs[k]? with
 |none=>rw[er]at e;cases e
 |some r =>
  rw[er]at e
  cases eb:r.base with
  |none=>rw[show (Option.map (λr:RR=>r.base.bind (qam rs)) (some r)).getD none=r.base.bind (qam rs) from rfl,eb]at e;cases e
  |some y =>
   rw[show (Option.map (λr:RR=>r.base.bind (qam rs)) (some r)).getD none=r.base.bind (qam rs) from rfl,eb]at e
   have e:qam rs y=some b:=e
   obtain⟨r2,h2,_⟩:=qb0 e
   rw[Ac]
   exact(Ag.mp h2).1⟩
theorem qvq {rs:List RR}(ok:qit rs){k:Nat}{r:RR}(h:rs[k]?=some r):qhs (rs.map RR.name) (bo (bsR rs) k)=qc3 r.base:=by
 unfold bo bsR
 rw[Be,Ai,h]
 show qhs _ (r.base.bind (qam rs))=_
 cases eb:r.base with
 |none=>rfl
 |some y =>
  have:=ok r (Ay h) y eb
  show qhs _ (qam rs y)=.str y
  cases ep:qam rs y with
  |none=>rw[ep]at this;cases this
  |some j =>
   obtain⟨r2,h2,h3⟩:=qb0 ep
   show V.str (nm (rs.map RR.name) j)=_
   unfold nm
   rw[Be,Ai,h2]
   show V.str r2.name=_
   rw[h3]
theorem nm_R {rs:List RR}{k:Nat}{r:RR}(h:rs[k]?=some r):nm (rs.map RR.name) k=r.name:=by
 unfold nm
 rw[Be,Ai,h];rfl
structure Lng (ls:List Str):Prop where
 n:ls.length<=100
 c:∀l∈ls,l.cps.size<=200/\10∉l.cps.toList
 e:ls≠[wS ""]
theorem qyy {c:Nat}:∀{ps:List (List Nat)},(∀p∈ps,p.length<=200)->(jl c ps).length<=201*ps.length
 | [],_=>Ax _
 | [x],h=>by
  have:=h x Am
  show x.length<=201*1
  lia
 |x::y::r,h=>by
  have h1:=h x Am
  have h2:=qyy (c:=c) (ps:=y::r) λp hp=>h p (Aq _ hp)
  show (x++c::jl c (y::r)).length<=201*(r.length+1+1)
  rw[Aj,At]
  rw[At]at h2
  lia
theorem qvr {ls:List Str}(h:Lng ls):(qfk ls).cps.size<=20100:=by
 rw[<- A6,show (qfk ls).cps.toList=jl 10 (ls.map λp=>p.cps.toList) from qc7 10 _]
 have:=qyy (c:=10) (ps:=ls.map λp=>p.cps.toList) λp hp=>by
  obtain⟨l,hl,rfl⟩:=AW.mp hp
  rw[A6];exact(h.c l hl).1
 rw[Ac]at this
 have:=h.n
 lia
theorem qx6 {ls:List Str}(h:Lng ls)(ne:ls≠[]):(qfk ls).cps.size≠0:=by
 rw[<- A6,show (qfk ls).cps.toList=jl 10 (ls.map λp=>p.cps.toList) from qc7 10 _]
 cases ls with
 |nil=>exact absurd rfl ne
 |cons x r =>
  cases r with
  |nil =>
   intro z
   have z:x.cps.toList.length=0:=z
   exact h.e (by rw[str_ext (x:=x) (y:=wS "") (by rw[List.eq_nil_of_length_eq_zero z];decide +kernel)])
  |cons y r =>
   show (x.cps.toList++10::jl 10 _).length≠0
   rw[Aj,At];lia
noncomputable def spLnG:Sp:=λvs H Q _=>∃ls:List Str,vs=[.str (qfk ls)]/\Lng ls/\∀(q:Addr)(H':Hp),H q=none->Same H H'->H' q=some (.lst (ls.map V.str))->Q (.ref q) H'
noncomputable def BkX (a:Adr)(H:Hp)(x:Addr)(rs:List RR)(As:List RA)(os:List Nat):Prop:=∃dx po d:Addr,H x=some (.ins a.kH dx (bfs po d))/\H po=some (.lst ((os.map (nm (rs.map RR.name))).map V.str))/\H d=some (.dK (dcR rs As))
structure BkAt (a:Adr)(H:Hp)(x:Addr)(rs:List RR)(As:List RA)(os:List Nat):Prop where
 bk:BkX a H x rs As os
 ln:As.length=rs.length
 nn:(rs.map RR.name).Nodup
 l6:rs.length<=6
 ru:∀(i:Nat)(r:RR)(A:RA),rs[i]?=some r->As[i]?=some A->RuX a.k8 H A r
 os:Ors (bsR rs) rs.length os
 ba:qit rs
theorem BkX.same {a:Adr}{H H':Hp}{x:Addr}{rs:List RR}{As:List RA}{os:List Nat}(h:BkX a H x rs As os)(s:Same H H'):BkX a H' x rs As os:=by
 obtain⟨dx,po,d,h1,h2,h3⟩:=h
 exact⟨dx,po,d,s _ _ h1,s _ _ h2,s _ _ h3⟩
theorem BkAt.same {a:Adr}{H H':Hp}{x:Addr}{rs:List RR}{As:List RA}{os:List Nat}(h:BkAt a H x rs As os)(s:Same H H'):BkAt a H' x rs As os:=⟨h.bk.same s,h.ln,h.nn,h.l6,λi r A h1 h2=>(h.ru i r A h1 h2).same s,h.os,h.ba⟩
noncomputable def spBIG (a:Adr):Sp:=λvs H Q E=>∃(x dx pr:Addr)(rs:List RR)(As:List RA),vs=[.ref x,.ref pr]/\H x=some (.ins a.kH dx [])/\H pr=some (.lst (As.map λA=>.ref A.p))/\As.length=rs.length/\(rs.map RR.name).Nodup/\rs.length<=6/\qit rs/\(∀(i:Nat)(r:RR)(A:RA),rs[i]?=some r->As[i]?=some A->RuX a.k8 H A r) /\
 (∀H' os,SameBut x H H'->BkX a H' x rs As os->Ors (bsR rs) rs.length os->Q .non H')/\OutR a (rs.map RR.name) (bsR rs) H E
noncomputable def spTn (a:Adr):Sp:=λvs H Q _=>∃(x:Addr)(rs:List RR)(As:List RA)(os:List Nat),vs=[.ref x]/\BkX a H x rs As os/\As.length=rs.length/\rs.length<=6/\∀(q:Addr)(H':Hp),H q=none->Same H H'->H' q=some (.lst ((rs.map RR.name).map V.str))->Q (.ref q) H'
noncomputable def spBkG (a:Adr):Sp:=λvs H Q E=>∃ls:List Str,vs=[.str (qfk ls)]/\Lng ls/\(∀rs,qi7 ls=.ok rs->(∀(x:Addr)(H':Hp)(As:List RA)(os:List Nat),Same H H'->BkAt a H' x rs As os->Q (.ref x) H')/\OutR a (rs.map RR.name) (bsR rs) H E)/\∀e,qi7 ls=.error e->OutE a e H E
theorem Ru_of {a:Adr}{H:Hp}{A:RA}{r:RR}(h:RuX a.k8 H A r):Ru a.k8 H (.ref A.p) r.name (qc3 r.base):=by
 obtain⟨v,us,h⟩:=h
 exact⟨A.p,A.dx,_,rfl,h.hx,rfl,rfl⟩
theorem rus_of {a:Adr}{H:Hp}{rs:List RR}{As:List RA}(ln:As.length=rs.length)(ok:qit rs)(ru:∀(i:Nat) (r:RR) (A:RA),rs[i]?=some r->As[i]?=some A->RuX a.k8 H A r):Rus a.k8 H (As.map λA=>.ref A.p) (rs.map RR.name) (bsR rs):=by
 refine⟨by rw[Ac,Ac,ln],λj y e=>?_⟩
 rw[Ai]at e
 cases eA:As[j]? with
 |none=>rw[eA]at e;cases e
 |some A =>
  rw[eA]at e
  cases e
  have lj:j<rs.length:=by rw[<- ln];exact(Ag.mp eA).1
  have hr:rs[j]?=some rs[j]:=Ak lj
  rw[nm_R hr,qvq ok hr]
  exact Ru_of (ru j _ A hr eA)
theorem Sta.inn {C:Addr}{H:Hp}{d:Addr}{rs:List RR}{As:List RA}(st:Sta C H d rs As):∀z∈d::As.flatMap own,H z≠none:=λz hz e=>by
 rcases Ap.mp hz with rfl|hz
 .rw[st.hd]at e;cases e
 .obtain⟨A',hA',hz'⟩:=BQ.mp hz
  obtain⟨jA,hjA⟩:=Ba hA'
  have lj:jA<rs.length:=by rw[<- st.ln];exact(Ag.mp hjA).1
  obtain⟨v',us',ry⟩:=st.ru jA _ A' (Ak lj) hjA
  simp only[own,Ap,Av,or_false]at hz'
  rcases hz' with rfl|rfl|rfl|rfl|rfl
  .rw[ry.hx]at e;cases e
  .rw[ry.he]at e;cases e
  .rw[ry.ha]at e;cases e
  .rw[ry.hl]at e;cases e
  .rw[ry.hy]at e;cases e
theorem Sta.keep {C:Addr}{H H':Hp}{d:Addr}{rs:List RR}{As:List RA}{S:List Addr}(st:Sta C H d rs As)(k:KeepT S H H')(n:∀z∈d::As.flatMap own,z∉S):Sta C H' d rs As :=
 ⟨k _ _ (.inl (n d Am)) st.hd,st.ln,st.nd,st.nn,λi r A h1 h2=>(st.ru i r A h1 h2).keep k λz hz=>n z (Aq _ (qmx h2 z hz))⟩
structure RB (a:Adr)(H0 H:Hp)(d q ql:Addr)(ls:List Str)(i:Nat)(rs:List RR)(As:List RA)(rv:List V)(rows:List Rw7):Prop where
 sm:Same H0 H
 hl:H ql=some (.lst (ls.map V.str))
 st:Sta a.k8 H d rs As
 hq:H q=some (.lst rv)
 rl:rv.length=rows.length
 rr:∀(j:Nat)(y:V),rv[j]?=some y->∃p row,y=.ref p/\rows[j]?=some row/\H p=some (.lst (qcf row))/\p∉d::As.flatMap own/\p≠q
 ro:(qjj ls).take i=rows.map some
 rd:qal [] 0 ((qjj ls).take i)=.ok rs
 bn:Bn i rs
 l6:rs.length<=6
 ht:qx4 rs rows
 nm:∀row∈rows,(qam rs (qbh row)).isSome=true
 qo:q∉d::As.flatMap own
 lo:ql∉d::As.flatMap own
 nq:ql≠q
 fr:∀z∈q::d::As.flatMap own,H0 z=none
theorem RB.same {a:Adr}{H0 H H':Hp}{d q ql:Addr}{ls:List Str}{i:Nat}{rs:List RR}{As:List RA}{rv:List V}{rows:List Rw7}(b:RB a H0 H d q ql ls i rs As rv rows)(s:Same H H'):RB a H0 H' d q ql ls i rs As rv rows :=
 ⟨b.sm.trans s,s _ _ b.hl,b.st.same s,s _ _ b.hq,b.rl,λj y e=>by obtain⟨p,row,h1,h2,h3,h4⟩:=b.rr j y e;exact⟨p,row,h1,h2,s _ _ h3,h4⟩,b.ro,b.rd,b.bn,b.l6,b.ht,b.nm,b.qo,b.lo,b.nq,b.fr⟩
theorem RB.next {a:Adr}{H0 J1 H2:Hp}{d q ql qr:Addr}{ls:List Str}{i:Nat}{rs rs':List RR}{As As':List RA}{rv:List V}{rows:List Rw7}{row:Rw7}(b:RB a H0 J1 d q ql ls i rs As rv rows)(hqr:J1 qr=some (.lst (qcf row)))(nqr:qr∉d::As.flatMap own)(nqq:qr≠q)(hop:(qjj ls)[i]?=some (some row))(n40:i≠40)(rd':qc8 rs i row=.ok rs')
  (k:KeepT (d::As.flatMap own) J1 H2) (f:Frs J1 As As') (st':Sta a.k8 H2 d rs' As'):RB a H0 (upd H2 q (.lst (rv++[.ref qr]))) d q ql ls (i+1) rs' As' (rv++[.ref qr]) (rows++[row]):=by
 have did:=qod rd'
 have ap:∀z,z∉d::As.flatMap own->J1 z≠none->z∉d::As'.flatMap own:=λz hz hn h=>by
  rcases Ap.mp h with e|h
  .exact hz (by rw[e];exact Am)
  .rcases f z h with g|g
   .exact hz (Aq _ g)
   .exact hn g
 have nq:J1 q≠none:=λz=>by rw[b.hq]at z;cases z
 have q2:H2 q=some (.lst rv):=k _ _ (.inl b.qo) b.hq
 have qo:=ap q b.qo nq
 have kq:KeepT [q] H2 (upd H2 q (.lst (rv++[.ref qr]))):=KeepT.put (An.mpr rfl) q2 (λ_ z=>nomatch z)
 have kl:∀{p:Addr}{xs:List V},J1 p=some (.lst xs)->p∉d::As.flatMap own->p≠q->upd H2 q (.lst (rv++[.ref qr])) p=some (.lst xs):=λh1 h2 h3=>by
  rw[ze h3];exact k _ _ (.inl h2) h1
 refine⟨λx o e=>?_,kl b.hl b.lo b.nq,st'.keep kq λz hz hz2=>qo (by rw[<- An.mp hz2];exact hz),qz,by rw[Aj,Aj,b.rl];rfl,λj y e=>?_,by rw[qbf hop,b.ro,A1];rfl,?_,did.bn b.bn,did.len b.l6,did.hasT b.ht,λr hr=>?_,qo,ap ql b.lo (λz=>by rw[b.hl]at z;cases z),b.nq,λz hz=>?_⟩
 .have nz:∀z∈q::d::As.flatMap own,x≠z:=λz hz q=>by rw[q,b.fr z hz]at e;cases e
  rw[ze (nz q Am)]
  exact k _ _ (.inl λz=>nz x (Aq _ z) rfl) (b.sm _ _ e)
 .by_cases c:j<rv.length
  .rw[AT c]at e
   obtain⟨p,row',h1,h2,h3,h4,h5⟩:=b.rr j y e
   exact⟨p,row',h1,by rw[AT (by rw[<- b.rl];exact c)];exact h2,kl h3 h4 h5,ap p h4 (λz=>by rw[h3]at z;cases z),h5⟩
  .rw[AM (by lia)]at e
   have l1:j-rv.length<1:=(Ag.mp e).1
   have l2:=b.rl
   rw[show j-rv.length=0 by lia]at e
   cases e
   exact⟨qr,row,rfl,by rw[AM (by lia),show j-rows.length=0 by lia];rfl,kl hqr nqr nqq,ap qr nqr (λz=>by rw[hqr]at z;cases z),nqq⟩
 .rw[(qi8 b.rd hop).2,qg8 n40 rd' []];rfl
 .rcases AH.mp hr with z|z
  .exact did.has.2 _ (b.nm r z)
  .rw[An.mp z];exact did.has.1
 .rcases Ap.mp hz with e|hz
  .rw[e];exact b.fr q Am
  .rcases Ap.mp hz with e|hz
   .rw[e];exact b.fr d (Aq _ Am)
   .rcases f z hz with g|g
    .exact b.fr z (Aq _ (Aq _ g))
    .exact b.sm.free g
structure SB (a:Adr)(H0 H:Hp)(d q:Addr)(i:Nat)(rs0 rs:List RR)(As:List RA)(rv:List V)(rows:List Rw7):Prop where
 sm:Same H0 H
 st:Sta a.k8 H d rs As
 hq:H q=some (.lst rv)
 rl:rv.length=rows.length
 rr:∀(j:Nat)(y:V),rv[j]?=some y->∃p row,y=.ref p/\rows[j]?=some row/\H p=some (.lst (qcf row))/\p∉d::As.flatMap own/\p≠q
 sd:SetDid rs0 rs
 se:qao rs0 0 (rows.take i)=.ok rs
 bn:Bn (100+i) rs
 nm:∀row∈rows,(qam rs (qbh row)).isSome=true
 qo:q∉d::As.flatMap own
 fr:∀z∈q::d::As.flatMap own,H0 z=none
theorem SB.same {a:Adr}{H0 H H':Hp}{d q:Addr}{i:Nat}{rs0 rs:List RR}{As:List RA}{rv:List V}{rows:List Rw7}(b:SB a H0 H d q i rs0 rs As rv rows)(s:Same H H'):SB a H0 H' d q i rs0 rs As rv rows :=
 ⟨b.sm.trans s,b.st.same s,s _ _ b.hq,b.rl,λj y e=>by obtain⟨p,row,h1,h2,h3,h4⟩:=b.rr j y e;exact⟨p,row,h1,h2,s _ _ h3,h4⟩,b.sd,b.se,b.bn,b.nm,b.qo,b.fr⟩
theorem SB.next {a:Adr}{H0 H H2:Hp}{d q:Addr}{i:Nat}{rs0 rs rs':List RR}{As:List RA}{rv:List V}{rows:List Rw7}{row:Rw7}(b:SB a H0 H d q i rs0 rs As rv rows)(hi:rows[i]?=some row)(h:qcg rs i row=.ok rs')(k:KeepT (d::As.flatMap own) H H2)(st':Sta a.k8 H2 d rs' As):SB a H0 H2 d q (i+1) rs0 rs' As rv rows:=by
 obtain⟨did,bn⟩:=qku h
 refine⟨λx o e=>k _ _ (.inl λz=>?_) (b.sm _ _ e),st',k _ _ (.inl b.qo) b.hq,b.rl,λj y e=>?_,⟨did.nm.trans b.sd.nm,did.ba.trans b.sd.ba⟩,?_,bn _ b.bn,λr hr=>by rw[qcq _ did.nm];exact b.nm r hr,b.qo,b.fr⟩
 .rw[b.fr x (Aq _ z)]at e;cases e
 .obtain⟨p,row',h1,h2,h3,h4,h5⟩:=b.rr j y e
  exact⟨p,row',h1,h2,k _ _ (.inl h4) h3,h4,h5⟩
 .rw[(qg7 b.se hi).2,qe4 h []];rfl
theorem qqz {α:Type}(l:List α):(l.map some).filterMap id=l:=by
 induction l with
 |nil=>rfl
 |cons x l ih=>rw[AA,D9];dsimp only[id];rw[ih]
noncomputable def owA (ns:List Int)(k:Nat):Nat:=(cell ns (3+5*(k:Int)) % 3).toNat
noncomputable def rkA (ns:List Int)(k:Nat):Int:=((k:Int)*(1+cell ns 0 / 21 % 6)+cell ns 0 / 21 / 6) % 7
theorem sgn_ed {c:Int}{e i:Nat}(ee:c % 2=(e:Int)):(c / 128+(i:Int) / (1+c % 2)) % 26=(((sgn (c / 128) e i-97:Nat)):Int):=by
 rw[ee]
 unfold sgn
 have:(i:Int) / (1+(e:Int))=((i / (1+e):Nat):Int):=by
  rw[Int.natCast_ediv]
  rfl
 rw[this]
 clear this ee
 lia
theorem sgn_26 {t:Int}{e i:Nat}:sgn t e i-97<26:=by unfold sgn;lia
theorem sgn_97 {t:Int}{e i:Nat}:97+(sgn t e i-97)=sgn t e i:=by unfold sgn;lia
theorem md (c:Int)(m:Nat)(h:0<m):∃j:Nat,c % (m:Int)=(j:Int)/\j<m:=by
 have z0:=Int.emod_nonneg c (show (m:Int)≠0 by lia)
 have z1:=Int.emod_lt_of_pos c (show (0:Int)<(m:Int) by lia)
 exact⟨(c % (m:Int)).toNat,by lia,by lia⟩
theorem mdl (c:Int)(m:Nat):∃j:Nat,c % ((m+1:Nat):Int)=(j:Int)/\j<=m:=by
 obtain⟨j,e,h⟩:=md c (m+1) (Nat.succ_pos _)
 exact⟨j,e,Nat.le_of_lt_succ h⟩
theorem num46 (c:Int):∃z n e:Nat,1+c % 2+c / 2 % (8-c % 2)=(z:Int)/\c / 16 % ((z:Int)-c % 2)=(n:Int)/\c % 2=(e:Int)/\e<=1/\n+1+e<=z/\z<=8/\0<8-c % 2/\0<(z:Int)-c % 2:=by
 have sB:=sizeB c
 obtain⟨e,ee,he⟩:=mdl c 1
 have ee:c % 2=(e:Int):=ee
 obtain⟨z,ez⟩:=Int.eq_ofNat_of_zero_le (a:=1+c % 2+c / 2 % (8-c % 2)) (by lia)
 rw[ez]at sB |-
 obtain⟨n,en,hn⟩:=md (c / 16) (z-e) (by lia)
 rw[show ((z-e:Nat):Int)=(z:Int)-c % 2 by lia]at en
 exact⟨z,n,e,rfl,en,ee,he,by lia,by lia,by lia,by lia⟩
theorem cd2 {c i:Int}{e:Nat}(ee:c % 2=(e:Int))(he:e<=1):qwf i (1+c % 2):=⟨by lia,by lia⟩
theorem eo1 {c:Int}{e:Nat}(ee:c % 2=(e:Int))(h:c % 2=1):e=1:=by lia
theorem io1 {i:Nat}(h:(i:Int) % 2=1):i % 2=1:=by lia
theorem ne1 {c:Int}{e:Nat}(ee:c % 2=(e:Int))(h:¬c % 2=1):¬e=1:=by lia
theorem ni1 {i:Nat}(h:¬(i:Int) % 2=1):¬i % 2=1:=by lia
theorem cdA {c:Int}{i g:Nat}(h:i<g)(k:g<=2):qwf c (40+811*(i:Int)):=⟨by lia,by lia⟩
theorem cdB {c:Int}{i g:Nat}(h:i<g)(k:g<=2):qwf c (797+13*(i:Int)):=⟨by lia,by lia⟩
theorem om (x:Int){m:Int}(h:0<m):1<=1+x % m/\1+x % m<=m:=by
 have z0:=Int.emod_nonneg x (show m≠0 by lia)
 have z1:=Int.emod_lt_of_pos x h
 lia
theorem qq0 {ns:List Int}{k:Nat}:cell ns (3+5*(k:Int)) % 3=((owA ns k:Nat):Int):=by unfold owA;lia
theorem owA_l {ns:List Int}{k:Nat}:owA ns k<3:=by unfold owA;lia
structure YlOk (names:List Str)(ow:Nat->Nat)(k:Nat)(ys:List Str):Prop where
 nd:ys.Nodup
 ok:∀y∈ys,∃b,b<names.length/\y=nm names b/\b≠k/\ow b=ow k
noncomputable def spYl (K:Ae):Sp:=λvs H Q _=>∃(l pn:Addr)(ns:List Int)(k:Nat)(names:List Str),vs=[.ref l,.int (k:Int),.ref pn]/\SqL K H l (ns.map V.int)/\H pn=some (.lst (names.map V.str))/\names.Nodup/\k<names.length/\names.length<=6/\∀(q:Addr)(H':Hp)(ys:List Str),H q=none->Same H H'->H' q=some (.lst (ys.map V.str))->YlOk names (owA ns) k ys->Q (.ref q) H'
noncomputable def spBaL (K:Ae):Sp:=λvs H Q _=>∃(l pn:Addr)(ns:List Int)(k:Nat)(names:List Str),vs=[.ref l,.int (k:Int),.ref pn]/\SqL K H l (ns.map V.int)/\H pn=some (.lst (names.map V.str))/\k<names.length/\names.length<=6/\∀(H':Hp)(o:Option Nat),Same H H'->(∀b,o=some b->b<names.length/\rkA ns b<rkA ns k)->Q (qhs names o) H'
theorem pos12 (j:Nat)(h:j<6):∃m:Int,atI [V.int 1,V.int 2,V.int 4,V.int 8,V.int 16,V.int 32] (j:Int)=some (.int m)/\1<=m/\m<=32:=by
 rcases (by lia:j=0\/j=1\/j=2\/j=3\/j=4\/j=5) with rfl|rfl|rfl|rfl|rfl|rfl
 .exact⟨1,rfl,En,En⟩
 .exact⟨2,rfl,En,En⟩
 .exact⟨4,rfl,En,En⟩
 .exact⟨8,rfl,En,En⟩
 .exact⟨16,rfl,En,En⟩
 .exact⟨32,rfl,En,En⟩
theorem qvs {names:List Str}{ow:Nat->Nat}{k:Nat}{ys:List Str}(h:YlOk names ow k ys):YlOk names ow k ys.reverse:=⟨List.pairwise_reverse.mpr (h.nd.imp AZ),λy hy=>h.ok y (Ef.mp hy)⟩
noncomputable def qff (r:RR)(pe pa pl:Addr)(sv:V)(py:Addr):List V:=[.str r.name,.str r.who,.str r.owes,qc3 r.opens,qc3 r.base,.int r.many,.str r.unit,.ref pe,.ref pa,.ref pl,sv,.ref py]
structure LR1 (H:Hp)(q:Addr)(r:RR)(pe pa pl py:Addr)(sv:V)(us:List V):Prop where
 hq:H q=some (.lst (qff r pe pa pl sv py))
 he:H pe=some (.lst (r.ends.map V.str))
 ha:H pa=some (.lst (r.anew.map V.str))
 hl:H pl=some (.lst us)
 tl:Tups H us (r.longer.map qiq)
 hs:StAt H sv r.still
 hy:H py=some (.lst (r.yields.map V.str))
noncomputable def LR (H:Hp)(q:Addr)(r:RR):Prop:=∃pe pa pl py sv us,LR1 H q r pe pa pl py sv us
theorem LR1.ne {H:Hp}{q:Addr}{r:RR}{pe pa pl py:Addr}{sv:V}{us:List V}(h:LR1 H q r pe pa pl py sv us){q':Addr}{r':RR}{pe' pa' pl' py':Addr}{sv':V}(h':H q'=some (.lst (qff r' pe' pa' pl' sv' py'))):pe≠q'/\pa≠q'/\pl≠q'/\py≠q':=by
 have st:∀{p:Addr}{xs:List Str},H p=some (.lst (xs.map V.str))->p≠q':=λ{p xs} hp e=>by
  rw[e,h']at hp
  injection hp with hp
  injection hp with hp
  have:=congrArg (λl=>l[5]?) hp
  rw[show (qff r' pe' pa' pl' sv' py')[5]?=some (.int r'.many) from rfl,Ai]at this
  cases e5:xs[5]? with
  |none=>rw[e5]at this;cases this
  |some y=>rw[e5]at this;cases this
 refine⟨st h.he,st h.ha,λe=>?_,st h.hy⟩
 have hl:=h.hl
 rw[e,h']at hl
 injection hl with hl
 injection hl with hl
 have tl:=h.tl
 rw[<- hl]at tl
 obtain⟨b,t,e0,_,_⟩:=tl.get' (i:=0) rfl
 cases e0
theorem LR1.upd {H:Hp}{q:Addr}{r:RR}{pe pa pl py:Addr}{sv:V}{us:List V}(h:LR1 H q r pe pa pl py sv us){q':Addr}{r':RR}{pe' pa' pl' py':Addr}{sv':V}{o:HO}(h':H q'=some (.lst (qff r' pe' pa' pl' sv' py')))(n:q≠q'):LR1 (L2.upd H q' o) q r pe pa pl py sv us:=by
 obtain⟨n1,n2,n3,n4⟩:=h.ne h'
 have kt:KeepT [q'] H (L2.upd H q' o):=KeepT.put (An.mpr rfl) h' (λ_ z=>nomatch z)
 exact⟨(ze n).trans h.hq,(ze n1).trans h.he,(ze n2).trans h.ha,(ze n3).trans h.hl,qbs h.tl kt,h.hs.keep kt,(ze n4).trans h.hy⟩
theorem LR1.same {H H':Hp}{q:Addr}{r:RR}{pe pa pl py:Addr}{sv:V}{us:List V}(h:LR1 H q r pe pa pl py sv us)(s:Same H H'):LR1 H' q r pe pa pl py sv us:=⟨s _ _ h.hq,s _ _ h.he,s _ _ h.ha,s _ _ h.hl,h.tl.same s,h.hs.same s,s _ _ h.hy⟩
theorem LR.same {H H':Hp}{q:Addr}{r:RR}(h:LR H q r)(s:Same H H'):LR H' q r:=by
 obtain⟨pe,pa,pl,py,sv,us,h⟩:=h
 exact⟨pe,pa,pl,py,sv,us,h.same s⟩
noncomputable abbrev nm9:=nm
structure GR (names:List Str)(ow:Nat->Nat)(rk:Nat->Int)(kinds:List Str)(k:Nat)(r:RR):Prop where
 nm:r.name=nm names k
 wh:qbk r.who
 os:r.owes=nm9 kinds (ow k)
 kd:(qag r).Nodup
 kn:∀x∈qag r,qbk x
 ks:∀x∈qag r,x∈kinds.take 12
 bo:(∃b,b<names.length/\r.base=some (nm9 names b)/\rk b<rk k/\r.opens=none)\/(r.base=none/\∃o,r.opens=some o)
 mn:1<=r.many/\r.many<=40
 un:r.unit∈qby
 lg:r.longer.length<=2/\∀t∈r.longer,(1<=t.2.1/\t.2.1<=20)/\1<=t.2.2/\t.2.2<=3
 ln:r.ends.length<=3/\r.anew.length<=2
 yl:YlOk names ow k r.yields
noncomputable def spLrl (K:Ae):Sp:=λvs H Q _=>∃(l pn pk:Addr)(ns:List Int)(k:Nat)(names kinds:List Str),vs=[.ref l,.int (k:Int),.ref pn,.ref pk]/\SqL K H l (ns.map V.int)/\H pn=some (.lst (names.map V.str))/\H pk=some (.lst (kinds.map V.str))/\names.Nodup/\k<names.length/\names.length<=6/\kinds.Nodup/\12<=kinds.length/\kinds.length<=60/\(∀x∈kinds,qbk x) /\
 ∀(q:Addr)(H':Hp)(r:RR)(pe pa pl py:Addr)(sv:V)(us:List V),H q=none->H pe=none->H pa=none->H pl=none->H py=none->Same H H'->LR1 H' q r pe pa pl py sv us->GR names (owA ns) (rkA ns) kinds k r->Q (.ref q) H'
theorem eleven {M:List Str}(h:M.length=11):∃m0 m1 m2 m3 m4 m5 m6 m7 m8 m9 m10,M=[m0,m1,m2,m3,m4,m5,m6,m7,m8,m9,m10]:=by
 match M,h with
 | [m0,m1,m2,m3,m4,m5,m6,m7,m8,m9,m10],_=>exact⟨_,_,_,_,_,_,_,_,_,_,_,rfl⟩
theorem qx7 {kinds:List Str}{o t:Nat}(nd:kinds.Nodup)(l:12<=kinds.length)(ho:o<3)(ht:t<11)(nk:∀x∈kinds,qbk x):∃M:List Str,((kinds.take o++(kinds.take 12).drop (o+1)).drop t++(kinds.take o++(kinds.take 12).drop (o+1)).take t)=M/\M.length=11/\M.Nodup/\(∀x∈M,qbk x/\x∈kinds.take 12)/\nm kinds o∉M/\nm kinds o∈kinds.take 12:=by
 refine⟨_,rfl,?_,?_,?_,?_,?_⟩
 all_goals
  have lL:(kinds.take o++(kinds.take 12).drop (o+1)).length=11:=by
   rw[Aj,A2,B9,A2];lia
  have e12:kinds.take 12=kinds.take o++nm kinds o::(kinds.take 12).drop (o+1):=by
   have e:=BD o (kinds.take 12)
   rw[List.take_take,Nat.min_eq_left (by lia),BJ (by rw[A2];lia)]at e
   refine e.symm.trans ?_
   have eo:(kinds.take 12)[o]'(by rw[A2];lia)=nm kinds o:=by
    rw[List.getElem_take]
    unfold nm
    rw[Be,Ak (by lia)];rfl
   rw[eo]
  have nd12:(kinds.take 12).Nodup:=(BU _ _).nodup nd
  rw[e12,AQ,AX]at nd12
  obtain⟨n1,⟨n2,n3⟩,n4⟩:=nd12
  have ndL:(kinds.take o++(kinds.take 12).drop (o+1)).Nodup:=AQ.mpr ⟨n1,n3,λa ha b hb=>n4 a ha b (Aq _ hb)⟩
  have pm:((kinds.take o++(kinds.take 12).drop (o+1)).drop t++(kinds.take o++(kinds.take 12).drop (o+1)).take t).Perm (kinds.take o++(kinds.take 12).drop (o+1)):=by
   have:=List.perm_append_comm (l₁:=(kinds.take o++(kinds.take 12).drop (o+1)).drop t) (l₂:=(kinds.take o++(kinds.take 12).drop (o+1)).take t)
   rwa [BD]at this
 .rw[pm.length_eq,lL]
 .exact pm.nodup_iff.mpr ndL
 .intro x hx
  have hx:=pm.mem_iff.mp hx
  have:x∈kinds.take 12:=by
   rw[e12]
   rcases AH.mp hx with z|z
   .exact Cj _ z
   .exact AK _ (Aq _ z)
  exact⟨nk x (Co this),this⟩
 .intro hx
  rcases AH.mp (pm.mem_iff.mp hx) with z|z
  .exact n4 _ z _ Am rfl
  .exact n2 z
 .rw[e12];exact AK _ Am
noncomputable def qfg (c:Int):Str:=if c % 3=0 then wS "days" else if c % 3=1 then wS "weeks" else wS "court"
theorem qx8 (c:Int):atI [V.str (Ab "days"),V.str (Ab "weeks"),V.str (Ab "court")] (c % 3)=some (.str (qfg c))/\qfg c∈qby:=by
 unfold qfg
 rcases (by lia:c % 3=0\/c % 3=1\/c % 3=2) with e|e|e <;>rw[e]
 .exact⟨rfl,by simp[qby]⟩
 .exact⟨rfl,by simp[qby]⟩
 .exact⟨rfl,by simp[qby]⟩
theorem cut2 (vs:List V)(a b:Nat)(h:a<=vs.length)(h2:b<=vs.length):qgv vs (some (a:Int)) (some (b:Int))=(vs.take b).drop a:=by
 have e1:HT.sIx vs.length 0 (some (a:Int))=a:=by
  simp only[HT.sIx]
  split <;>lia
 have e2:HT.sIx vs.length vs.length (some (b:Int))=b:=by
  simp only[HT.sIx]
  split <;>lia
 unfold qgv
 rw[e1,e2]
 rw[List.drop_take]
theorem qvt {w m0 m1 m2 m3 m4 m5 m6 m7 m8 m9 m10:Str}{e a g o s:List Str}(nd:[m0,m1,m2,m3,m4,m5,m6,m7,m8,m9,m10].Nodup)(nw:w∉[m0,m1,m2,m3,m4,m5,m6,m7,m8,m9,m10])(he:e.Sublist [m1,m2,m3])(ha:a.Sublist [m4,m5])(hg:g.Sublist [m6,m7])(ho:o.Sublist [m0])(hs:s.Sublist [m8,m9]):(([w]++e++a++g)++o++s).Nodup/\∀x∈(([w]++e++a++g)++o++s),x=w\/x∈[m0,m1,m2,m3,m4,m5,m6,m7,m8,m9,m10]:=by
 have sb:(([w]++e++a++g)++o++s).Sublist (([w]++[m1,m2,m3]++[m4,m5]++[m6,m7])++[m0]++[m8,m9]):=((((((Cg _).append he).append ha).append hg).append ho).append hs)
 constructor
 .refine sb.nodup ?_
  simp only[Bf,Bk,AX,Ap,Av,or_false,not_or]at nd nw |-
  obtain⟨⟨a1,a2,a3,a4,a5,a6,a7,a8,a9,a10⟩,⟨b2,b3,b4,b5,b6,b7,b8,b9,b10⟩,⟨c3,c4,c5,c6,c7,c8,c9,c10⟩,⟨d4,d5,d6,d7,d8,d9,d10⟩,⟨e5,e6,e7,e8,e9,e10⟩,⟨f6,f7,f8,f9,f10⟩,⟨g7,g8,g9,g10⟩,⟨h8,h9,h10⟩,⟨i9,i10⟩,_⟩:=nd
  obtain⟨w0,w1,w2,w3,w4,w5,w6,w7,w8,w9,w10⟩:=nw
  exact⟨⟨w1,w2,w3,w4,w5,w6,w7,w0,w8,w9⟩,⟨b2,b3,b4,b5,b6,b7,AZ a1,b8,b9⟩,⟨c3,c4,c5,c6,c7,AZ a2,c8,c9⟩,⟨d4,d5,d6,d7,AZ a3,d8,d9⟩,⟨e5,e6,e7,AZ a4,e8,e9⟩,⟨f6,f7,AZ a5,f8,f9⟩,⟨g7,AZ a6,g8,g9⟩,⟨AZ a7,h8,h9⟩,⟨a8,a9⟩,i9,not_false,.nil⟩
 .intro x hx
  have:=sb.subset hx
  simp only[Bf,Bk,Ap,Av,or_false]at this |-
  rcases this with h|h|h|h|h|h|h|h|h|h|h <;>simp[h]
theorem useV {p G:Option V->Prop}{R:Prop}(m:(∀x,p x->G x)->R)(l:∀x,p x->G x):R:=m l
noncomputable def off (p:Addr)(H:Hp):Hp:=λb=>if b=p then none else H b
theorem qiu {p b:Addr}{H:Hp}{o:HO}(n:b≠p)(h:H b=some o):off p H b=some o:=by unfold off;rw[if_neg n];exact h
theorem qof {p:Addr}{H:Hp}:Same (off p H) H:=λb o e=>by
 unfold off at e
 by_cases c:b=p
 .rw[if_pos c]at e;cases e
 .rw[if_neg c]at e;exact e
theorem qvu {p:Addr}{H H':Hp}(k:∀b o,b≠p->H b=some o->H' b=some o):Same (off p H) (off p H'):=λb o e=>by
 unfold off at e |-
 by_cases c:b=p
 .rw[if_pos c]at e;cases e
 .rw[if_neg c]at e |-;exact k b o c e
theorem LR1.offp {H:Hp}{q:Addr}{r:RR}{pe pa pl py:Addr}{sv:V}{us:List V}(h:LR1 H q r pe pa pl py sv us){p:Addr}{zs:List V}(hp:H p=some (.lst zs))(n0:q≠p)(n1:pe≠p)(n2:pa≠p)(n3:pl≠p)(n4:py≠p):LR1 (off p H) q r pe pa pl py sv us:=by
 have tt:∀{b:Addr}{t:List V},H b=some (.tup t)->off p H b=some (.tup t):=λ{b t} e=>qiu (λz=>by rw[z,hp]at e;cases e) e
 have tu:∀{us:List V}{ts:List (List V)},Tups H us ts->Tups (off p H) us ts:=λ{us ts} t=>by
  induction t with
  |nil=>exact .nil
  |cons h _ ih=>exact .cons (tt h) ih
 refine⟨qiu n0 h.hq,qiu n1 h.he,qiu n2 h.ha,qiu n3 h.hl,tu h.tl,?_,qiu n4 h.hy⟩
 have hs:=h.hs
 cases e:r.still with
 |none=>rw[e]at hs;exact hs
 |some s=>rw[e]at hs;obtain⟨b,h1,h2⟩:=hs;exact⟨b,h1,tt h2⟩
structure LRs (H0 H:Hp)(p:Addr)(qs:List Addr)(rs:List RR):Prop where
 sm:Same H0 H
 hp:H p=some (.lst (qs.map V.ref))
 ln:qs.length=rs.length
 nd:qs.Nodup
 np:∀q∈qs,q≠p/\H0 q=none
 pn:H0 p=none
 lr:∀(i:Nat)(q:Addr)(r:RR),qs[i]?=some q->rs[i]?=some r->LR H q r
theorem LRs.same {H0 H H':Hp}{p:Addr}{qs:List Addr}{rs:List RR}(b:LRs H0 H p qs rs)(s:Same H H'):LRs H0 H' p qs rs:=⟨b.sm.trans s,s _ _ b.hp,b.ln,b.nd,b.np,b.pn,λi q r h1 h2=>(b.lr i q r h1 h2).same s⟩
theorem LRs.put {H0 H:Hp}{p:Addr}{qs:List Addr}{rs:List RR}{j:Nat}{q:Addr}{r r':RR}{pe pa pl py:Addr}{sv:V}{o:HO}(b:LRs H0 H p qs rs)(hj:qs[j]?=some q)(old:H q=some (.lst (qff r pe pa pl sv py)))(x:LR (upd H q o) q r'):LRs H0 (upd H q o) p qs (rs.set j r'):=by
 obtain⟨np,nf⟩:=b.np q (Ay hj)
 refine⟨qah b.sm nf,(ze (AZ np)).trans b.hp,by rw[Cw];exact b.ln,b.nd,b.np,b.pn,λi q2 r2 h1 h2=>?_⟩
 rw[Cv]at h2
 by_cases c:j=i
 .subst c
  rw[if_pos rfl]at h2
  rw[hj]at h1
  cases h1
  split at h2
  .cases h2;exact x
  .cases h2
 .rw[if_neg c]at h2
  obtain⟨pe',pa',pl',py',sv',us',h⟩:=b.lr i q2 r2 h1 h2
  refine⟨pe',pa',pl',py',sv',us',h.upd old λz=>c ?_⟩
  rw[z]at h1
  have lj:=(Ag.mp hj).1
  exact(List.getElem?_inj lj b.nd).mp (hj.trans h1.symm)
noncomputable def GRs (names:List Str)(ow:Nat->Nat)(rk:Nat->Int)(kinds:List Str)(rs:List RR):Prop:=∀(k:Nat)(r:RR),rs[k]?=some r->GR names ow rk kinds k r
structure Fewer (r r':RR):Prop where
 nm:r'.name=r.name
 wh:r'.who=r.who
 os:r'.owes=r.owes
 op:r'.opens=r.opens
 ba:r'.base=r.base
 mn:r'.many=r.many
 un:r'.unit=r.unit
 en:r'.ends.Sublist r.ends
 an:r'.anew.Sublist r.anew
 lg:r'.longer.Sublist r.longer
 st:r'.still=r.still\/r'.still=none
 yl:r'.yields.Sublist r.yields
theorem GR.fewer {names:List Str}{ow:Nat->Nat}{rk:Nat->Int}{kinds:List Str}{k:Nat}{r r':RR}(g:GR names ow rk kinds k r)(f:Fewer r r'):GR names ow rk kinds k r':=by
 have sb:(qag r').Sublist (qag r):=by
  unfold qag
  rw[f.os,f.op]
  refine((((((Cg _).append f.en).append f.an).append (f.lg.map _)).append (Cg _)).append ?_)
  rcases f.st with e|e
  .rw[e];exact Cg _
  .rw[e];exact List.nil_sublist _
 refine⟨f.nm.trans g.nm,by rw[f.wh];exact g.wh,f.os.trans g.os,sb.nodup g.kd,λx hx=>g.kn x (sb.subset hx),λx hx=>g.ks x (sb.subset hx),by rw[f.ba,f.op];exact g.bo,by rw[f.mn];exact g.mn,by rw[f.un];exact g.un,⟨A3 f.lg.length_le g.lg.1,λt ht=>g.lg.2 t (f.lg.subset ht)⟩,⟨A3 f.en.length_le g.ln.1,A3 f.an.length_le g.ln.2⟩,⟨f.yl.nodup g.yl.nd,λy hy=>g.yl.ok y (f.yl.subset hy)⟩⟩
noncomputable def stN:Option (Str×Str)->Nat
 |none=>0
 |some _=>1
noncomputable def exR (r:RR):Nat:=r.ends.length+r.anew.length+r.longer.length+r.yields.length+stN r.still
noncomputable def qdm (t:Nat)(n:Nat)(r:RR):RR:=match t with
 |0=>{ r with ends:=r.ends.take n }
 |1=>{ r with anew:=r.anew.take n }
 |2=>{ r with longer:=r.longer.take n }
 |_=>{ r with yields:=r.yields.take n }
noncomputable def qh0 (t:Nat)(r:RR):Nat:=match t with
 |0=>r.ends.length
 |1=>r.anew.length
 |2=>r.longer.length
 |_=>r.yields.length
noncomputable def qmy (t:Nat)(r:RR):Nat:=match t with
 |0=>0
 |1=>r.ends.length
 |2=>r.ends.length+r.anew.length
 |3=>r.ends.length+r.anew.length+r.longer.length
 |_=>r.ends.length+r.anew.length+r.longer.length+r.yields.length
theorem qh1 (t n:Nat)(r:RR):Fewer r (qdm t n r):=by
 have R:∀{α:Type}(l:List α),l.Sublist l:=λl=>Cg l
 match t with
 |0=>exact⟨rfl,rfl,rfl,rfl,rfl,rfl,rfl,BU _ _,R _,R _,.inl rfl,R _⟩
 |1=>exact⟨rfl,rfl,rfl,rfl,rfl,rfl,rfl,R _,BU _ _,R _,.inl rfl,R _⟩
 |2=>exact⟨rfl,rfl,rfl,rfl,rfl,rfl,rfl,R _,R _,BU _ _,.inl rfl,R _⟩
 |t+3=>exact⟨rfl,rfl,rfl,rfl,rfl,rfl,rfl,R _,R _,R _,.inl rfl,BU _ _⟩
theorem qh2 {t n:Nat}(ht:t<4)(r:RR):qmy (t+1) (qdm t n r)=qmy t r+qh0 t (qdm t n r)/\qh0 t (qdm t n r)<=n:=by
 rcases (by lia:t=0\/t=1\/t=2\/t=3) with rfl|rfl|rfl|rfl
 .exact⟨(D5 _).symm,DC _ _⟩
 .exact⟨rfl,DC _ _⟩
 .exact⟨rfl,DC _ _⟩
 .exact⟨rfl,DC _ _⟩
noncomputable def spLrs (K:Ae):Sp:=λvs H Q _=>∃(l pn pk:Addr)(ns:List Int)(names kinds:List Str)(mo:Nat),vs=[.ref l,.ref pn,.ref pk,.int (mo:Int)]/\SqL K H l (ns.map V.int)/\H pn=some (.lst (names.map V.str))/\H pk=some (.lst (kinds.map V.str))/\names.Nodup/\names.length<=6/\kinds.Nodup/\12<=kinds.length/\kinds.length<=60/\(∀x∈kinds,qbk x)/\6<=mo/\mo<=100 /\
 ∀(p:Addr)(H':Hp)(qs:List Addr)(rs:List RR),LRs H H' p qs rs->rs.length=names.length->GRs names (owA ns) (rkA ns) kinds rs->(rs.map exR).sum+names.length<=mo->Q (.ref p) H'
theorem qkv {rs:List RR}{j:Nat}{r:RR}(h:rs[j]?=some r):((rs.take (j+1)).map exR).sum=((rs.take j).map exR).sum+exR r:=by
 rw[qbf h,A1,List.sum_append];simp
theorem take_set' {rs:List RR}{j:Nat}{r:RR}:(rs.set j r).take j=rs.take j:=by
 rw[List.take_set_of_le (Ax _)]
theorem qog (vs:List V)(n:Nat):qgv vs none (some (n:Int))=vs.take n:=by
 by_cases h:n<=vs.length
 .exact qkn vs n h
 .rw[Cc (by lia)]
  unfold qgv
  have e2:HT.sIx vs.length vs.length (some (n:Int))=vs.length:=by
   simp only[HT.sIx]
   split <;>lia
  rw[show HT.sIx vs.length 0 none=0 from rfl,e2]
  simp
theorem qsm {H:Hp}{us:List V}{ts:List (List V)}(t:Tups H us ts):∀n,Tups H (us.take n) (ts.take n):=by
 induction t with
 |nil=>intro n;rw[List.take_nil,List.take_nil];exact .nil
 |cons h _ ih =>
  intro n
  cases n with
  |zero=>exact .nil
  |succ n=>exact .cons h (ih n)
theorem qh3 {names:List Str}{ow:Nat->Nat}{rk:Nat->Int}{kinds:List Str}{rs:List RR}{j:Nat}{r r':RR}(g:GRs names ow rk kinds rs)(h:rs[j]?=some r)(f:Fewer r r'):GRs names ow rk kinds (rs.set j r'):=λk r2 h2=>by
 rw[Cv]at h2
 by_cases c:j=k
 .subst c
  rw[if_pos rfl]at h2
  split at h2
  .cases h2;exact(g j r h).fewer f
  .cases h2
 .rw[if_neg c]at h2;exact g k r2 h2
noncomputable def nS (n:Int):Str:=Ab (toString n)
noncomputable def qar:Rw7->List Str
 |.term x w o d y m u=>[wS "term",x,wS "of",w,wS "due",o,fbS d,y,nS m,u]
 |.ends x k=>[wS "ends",x,k]
 |.anew x k=>[wS "anew",x,k]
 |.longer x k u t=>[wS "longer",x,k,nS u,wS "times",nS t]
 |.still x k l=>[wS "still",x,k,l]
 |.yields x y=>[wS "yields",x,y]
noncomputable def qbl (row:Rw7):Str:=Str.join ⟨#[32]⟩ (qar row)
noncomputable def qgp:Rw7->Prop
 |.term x w o _ y m u=>qbk x/\qbk w/\qbk o/\qbk y/\(1<=m/\m<=40)/\u∈qby
 |.ends x k=>qbk x/\qbk k
 |.anew x k=>qbk x/\qbk k
 |.longer x k u t=>qbk x/\qbk k/\(1<=u/\u<=20)/\(1<=t/\t<=3)
 |.still x k l=>qbk x/\qbk k/\qbk l
 |.yields x y=>qbk x/\qbk y
theorem nS_all:∀n:Fin 41,1<=n.val->due (nS (n.val:Int)) 40=true/\nv (nS (n.val:Int))=(n.val:Int)/\((nS (n.val:Int)).cps.toList.all λd=>decide (d≠32) && decide (d≠10))=true/\(nS (n.val:Int)).cps.size<=2/\(n.val<=20->due (nS (n.val:Int)) 20=true)/\(n.val<=3->due (nS (n.val:Int)) 3=true):=Ek
theorem qh4 {m:Int}(h1:1<=m)(h2:m<=40):due (nS m) 40=true/\nv (nS m)=m/\(∀c,c=32\/c=10->c∉(nS m).cps.toList)/\(nS m).cps.size<=2/\(m<=20->due (nS m) 20=true)/\(m<=3->due (nS m) 3=true):=by
 have h:=nS_all ⟨m.toNat,by lia⟩ (by show 1<=m.toNat;lia)
 have e:((m.toNat:Nat):Int)=m:=by lia
 dsimp only at h
 rw[e]at h
 obtain⟨g1,g2,g3,g4,g5,g6⟩:=h
 refine⟨g1,g2,λc hc z=>?_,g4,λh=>g5 (by lia),λh=>g6 (by lia)⟩
 have:=AV.mp g3 c z
 simp only[AE,decide_eq_true_eq]at this
 rcases hc with rfl|rfl
 .exact this.1 rfl
 .exact this.2 rfl
theorem qmz {u:Str}(h:u∈qby):qby.contains u=true/\(∀c,c=32\/c=10->c∉u.cps.toList)/\u.cps.size<=5:=by
 have d:∀w∈qby,(w.cps.toList.all λd=>decide (d≠32) && decide (d≠10))=true/\w.cps.size<=5:=Ek
 obtain⟨d1,d2⟩:=d u h
 refine⟨C0.mpr h,λc hc z=>?_,d2⟩
 have:=AV.mp d1 c z
 simp only[AE,decide_eq_true_eq]at this
 rcases hc with rfl|rfl
 .exact this.1 rfl
 .exact this.2 rfl
theorem qq1 {w:Str}(h:w∈[wS "term",wS "of",wS "due",wS "from",wS "behind",wS "ends",wS "anew",wS "longer",wS "times",wS "still",wS "yields"]):(∀c,c=32\/c=10->c∉w.cps.toList)/\w.cps.size<=6:=by
 have d:∀w∈[wS "term",wS "of",wS "due",wS "from",wS "behind",wS "ends",wS "anew",wS "longer",wS "times",wS "still",wS "yields"],(w.cps.toList.all λd=>decide (d≠32) && decide (d≠10))=true/\w.cps.size<=6:=Ek
 obtain⟨d1,d2⟩:=d w h
 refine⟨λc hc z=>?_,d2⟩
 have:=AV.mp d1 c z
 simp only[AE,decide_eq_true_eq]at this
 rcases hc with rfl|rfl
 .exact this.1 rfl
 .exact this.2 rfl
theorem qdd {x:Str}(h:qbk x):(∀c,c=32\/c=10->c∉x.cps.toList)/\x.cps.size<=8:=⟨λc hc=>qxz h (by lia),h.2.1⟩
theorem qkw {row:Rw7}(h:qgp row):∀w∈qar row,(∀c,c=32\/c=10->c∉w.cps.toList)/\w.cps.size<=8:=by
 have kp:∀{w:Str},w∈[wS "term",wS "of",wS "due",wS "from",wS "behind",wS "ends",wS "anew",wS "longer",wS "times",wS "still",wS "yields"]->(∀c,c=32\/c=10->c∉w.cps.toList)/\w.cps.size<=8:=λh=>⟨(qq1 h).1,by have:=(qq1 h).2;lia⟩
 intro w hw
 cases row with
 |term x w1 o d y m u =>
  obtain⟨h1,h2,h3,h4,⟨h5,h6⟩,h7⟩:=h
  obtain⟨_,_,n3,n4,_⟩:=qh4 h5 h6
  obtain⟨_,u2,u3⟩:=qmz h7
  simp only[qar,Ap,Av,or_false]at hw
  rcases hw with rfl|rfl|rfl|rfl|rfl|rfl|rfl|rfl|rfl|rfl
  .exact kp (by simp)
  .exact qdd h1
  .exact kp (by simp)
  .exact qdd h2
  .exact kp (by simp)
  .exact qdd h3
  .cases d <;>exact kp (by simp[fbS])
  .exact qdd h4
  .exact⟨n3,by lia⟩
  .exact⟨u2,by lia⟩
 |ends x k =>
  simp only[qar,Ap,Av,or_false]at hw
  rcases hw with rfl|rfl|rfl
  .exact kp (by simp)
  .exact qdd h.1
  .exact qdd h.2
 |anew x k =>
  simp only[qar,Ap,Av,or_false]at hw
  rcases hw with rfl|rfl|rfl
  .exact kp (by simp)
  .exact qdd h.1
  .exact qdd h.2
 |yields x k =>
  simp only[qar,Ap,Av,or_false]at hw
  rcases hw with rfl|rfl|rfl
  .exact kp (by simp)
  .exact qdd h.1
  .exact qdd h.2
 |longer x k u t =>
  obtain⟨h1,h2,⟨h3,h4⟩,h5,h6⟩:=h
  obtain⟨_,_,n3,n4,_⟩:=qh4 h3 (by lia)
  obtain⟨_,_,m3,m4,_⟩:=qh4 h5 (by lia)
  simp only[qar,Ap,Av,or_false]at hw
  rcases hw with rfl|rfl|rfl|rfl|rfl|rfl
  .exact kp (by simp)
  .exact qdd h1
  .exact qdd h2
  .exact⟨n3,by lia⟩
  .exact kp (by simp)
  .exact⟨m3,by lia⟩
 |still x k l =>
  simp only[qar,Ap,Av,or_false]at hw
  rcases hw with rfl|rfl|rfl|rfl
  .exact kp (by simp)
  .exact qdd h.1
  .exact qdd h.2.1
  .exact qdd h.2.2
theorem qvv (row:Rw7):qar row≠[]:=by cases row <;>exact Da _ _
theorem qsn (row:Rw7):(qar row).length<=10:=by cases row <;>simp[qar]
theorem qpq {row:Rw7}(h:qgp row):Cn (qbl row) (wS " ")=qar row:=by
 rw[qvg];exact qj6 32 (qvv row) λp hp=>(qkw h p hp).1 32 (.inl rfl)
theorem qpr {row:Rw7}(h:qgp row):qf1 (qar row)=some row:=by
 cases row with
 |term x w1 o d y m u =>
  obtain⟨h1,h2,h3,h4,⟨h5,h6⟩,h7⟩:=h
  obtain⟨n1,n2,_⟩:=qh4 h5 h6
  show qf1 [wS "term",x,wS "of",w1,wS "due",o,fbS d,y,nS m,u]=_
  rw[qqx,if_pos ⟨rfl,qcy.mpr h1,rfl,qcy.mpr h2,rfl,qcy.mpr h3,by cases d <;>simp[fbS],qcy.mpr h4,n1,(qmz h7).1⟩,n2]
  cases d
  .rw[show decide (fbS false=wS "behind")=false by decide +kernel]
  .rw[show decide (fbS true=wS "behind")=true by decide +kernel]
 |ends x k =>
  show qf1 [wS "ends",x,k]=_
  rw[qmw,if_pos ⟨qcy.mpr h.1,qcy.mpr h.2⟩,if_pos rfl]
 |anew x k =>
  show qf1 [wS "anew",x,k]=_
  rw[qmw,if_pos ⟨qcy.mpr h.1,qcy.mpr h.2⟩,if_neg Ek,if_pos rfl]
 |yields x k =>
  show qf1 [wS "yields",x,k]=_
  rw[qmw,if_pos ⟨qcy.mpr h.1,qcy.mpr h.2⟩,if_neg Ek,if_neg Ek,if_pos rfl]
 |longer x k u t =>
  obtain⟨h1,h2,⟨h3,h4⟩,h5,h6⟩:=h
  obtain⟨_,n2,_,_,n5,_⟩:=qh4 h3 (by lia)
  obtain⟨_,m2,_,_,_,m6⟩:=qh4 h5 (by lia)
  show qf1 [wS "longer",x,k,nS u,wS "times",nS t]=_
  rw[qvm,if_pos ⟨rfl,qcy.mpr h1,qcy.mpr h2,n5 h4,rfl,m6 h6⟩,n2,m2]
 |still x k l =>
  show qf1 [wS "still",x,k,l]=_
  rw[qvn,if_pos ⟨rfl,qcy.mpr h.1,qcy.mpr h.2.1,qcy.mpr h.2.2⟩]
theorem qx9 {row:Rw7}(h:qgp row):opR (qbl row)=some row:=by
 unfold opR
 rw[qpq h,qpr h]
theorem jl9 {c n:Nat}:∀{ps:List (List Nat)},(∀p∈ps,p.length<=n)->(jl c ps).length<=(n+1)*ps.length
 | [],_=>Ax _
 | [x],h=>by
  have:=h x Am
  show x.length<=(n+1)*1
  lia
 |x::y::r,h=>by
  have h1:=h x Am
  have h2:=jl9 (c:=c) (ps:=y::r) λp hp=>h p (Aq _ hp)
  show (x++c::jl c (y::r)).length<=(n+1)*((y::r).length+1)
  rw[Aj,At,Nat.mul_succ]
  lia
theorem qvw {c d:Nat}(n:c≠d):∀{ps:List (List Nat)},(∀p∈ps,d∉p)->d∉jl c ps
 | [],_=>Av
 | [x],h=>h x Am
 |x::y::r,h=>by
  show d∉x++c::jl c (y::r)
  rw[AH,Ap]
  rintro (z|z|z)
  .exact h x Am z
  .exact n z.symm
  .exact qvw n (λp hp=>h p (Aq _ hp)) z
theorem qq2 {row:Rw7}(h:qgp row):(qbl row).cps.size<=90/\10∉(qbl row).cps.toList/\(qbl row).cps.size≠0:=by
 have e:(qbl row).cps.toList=jl 32 ((qar row).map λp=>p.cps.toList):=qc7 32 _
 refine⟨?_,?_,?_⟩
 .rw[<- A6,e]
  have:=jl9 (c:=32) (n:=8) (ps:=(qar row).map λp=>p.cps.toList) λp hp=>by
   obtain⟨w,hw,rfl⟩:=AW.mp hp
   rw[A6];exact(qkw h w hw).2
  rw[Ac]at this
  have:=qsn row
  lia
 .rw[e]
  refine qvw En λp hp=>?_
  obtain⟨w,hw,rfl⟩:=AW.mp hp
  exact(qkw h w hw).1 10 (.inr rfl)
 .rw[<- A6,e]
  cases row <;>(simp only[qar,AA,BV,jl,Aj,At];lia)
noncomputable def qdl (r:RR):Rw7:=match r.base with
 |some y=>.term r.name r.who r.owes true y r.many r.unit
 |none=>.term r.name r.who r.owes false (r.opens.getD "None") r.many r.unit
noncomputable def qgq (x:Str):Option (Str×Str)->List Rw7
 |none=>[]
 |some s=>[.still x s.1 s.2]
noncomputable def qgr (r:RR):List (List Rw7):=[[qdl r],r.ends.map (.ends r.name),r.anew.map (.anew r.name),r.longer.map (λt=>.longer r.name t.1 t.2.1 t.2.2),qgq r.name r.still,r.yields.map (.yields r.name)]
noncomputable def qcr (r:RR):List Rw7:=(qgr r).flatten
structure RrOk (r:RR):Prop where
 nm:qbk r.name
 wh:qbk r.who
 kn:∀x∈qag r,qbk x
 ba:∀y,r.base=some y->qbk y
 bo:r.base=none->∃o,r.opens=some o
 bn:∀y,r.base=some y->r.opens=none
 yl:∀y∈r.yields,qbk y
 mn:1<=r.many/\r.many<=40
 un:r.unit∈qby
 lg:∀t∈r.longer,(1<=t.2.1/\t.2.1<=20)/\1<=t.2.2/\t.2.2<=3
 sz:r.ends.length<=100/\r.anew.length<=100/\r.longer.length<=100/\r.yields.length<=100
theorem RrOk.kin {r:RR}(h:RrOk r):qbk r.owes/\(∀x∈r.ends,qbk x)/\(∀x∈r.anew,qbk x)/\(∀t∈r.longer,qbk t.1)/\(∀x,r.opens=some x->qbk x)/\∀s,r.still=some s->qbk s.1/\qbk s.2:=by
 have m:∀x,x∈qag r↔x=r.owes\/x∈r.ends\/x∈r.anew\/x∈r.longer.map (·.1)\/x∈r.opens.toList\/x∈stL r.still:=λx=>by
  unfold qag
  simp only[AH,An,or_assoc]
 refine⟨h.kn _ ((m _).mpr (.inl rfl)),λx hx=>h.kn _ ((m _).mpr (.inr (.inl hx))),λx hx=>h.kn _ ((m _).mpr (.inr (.inr (.inl hx)))),λt ht=>h.kn _ ((m _).mpr (.inr (.inr (.inr (.inl (AW.mpr ⟨t,ht,rfl⟩)))))),λx hx=>h.kn _ ((m _).mpr (.inr (.inr (.inr (.inr (.inl (by rw[hx];simp))))))),λs hs=>?_⟩
 exact⟨h.kn _ ((m _).mpr (.inr (.inr (.inr (.inr (.inr (by rw[hs];simp[stL]))))))),h.kn _ ((m _).mpr (.inr (.inr (.inr (.inr (.inr (by rw[hs];simp[stL])))))))⟩
theorem qya {r:RR}(h:RrOk r):qgp (qdl r):=by
 unfold qdl
 cases eb:r.base with
 |some y=>exact⟨h.nm,h.wh,h.kin.1,h.ba y eb,h.mn,h.un⟩
 |none =>
  obtain⟨o,eo⟩:=h.bo eb
  dsimp only
  rw[eo]
  exact⟨h.nm,h.wh,h.kin.1,h.kin.2.2.2.2.1 o eo,h.mn,h.un⟩
theorem qyb {r:RR}(h:RrOk r):∀row∈qcr r,qgp row:=by
 obtain⟨k1,k2,k3,k4,k5,k6⟩:=h.kin
 intro row hr
 unfold qcr qgr at hr
 simp only[List.flatten_cons,List.flatten_nil,B8,AH,AW,An]at hr
 rcases hr with rfl|⟨k,hk,rfl⟩|⟨k,hk,rfl⟩|⟨t,ht,rfl⟩|hs|⟨y,hy,rfl⟩
 .exact qya h
 .exact⟨h.nm,k2 k hk⟩
 .exact⟨h.nm,k3 k hk⟩
 .exact⟨h.nm,k4 t ht,(h.lg t ht).1,(h.lg t ht).2⟩
 .cases es:r.still with
  |none=>rw[es]at hs;cases hs
  |some s =>
   rw[es]at hs
   rw[An.mp hs]
   exact⟨h.nm,k6 s es⟩
 .exact⟨h.nm,h.yl y hy⟩
theorem nd_sub {l m:List Str}(nd:l.Nodup)(h:∀x∈l,x∈m):l.length<=m.length:=by
 induction l generalizing m with
 |nil=>exact Bs _
 |cons a l ih =>
  rw[AX]at nd
  have:=ih (m:=m.erase a) nd.2 λx hx=>(List.mem_erase_of_ne (show x≠a from λe=>nd.1 (by rw[<- e];exact hx))).mpr (h x (Aq _ hx))
  rw[DH (h a Am)]at this
  have:1<=m.length:=List.length_pos_of_mem (h a Am)
  rw[At];lia
theorem GR.rrok {names:List Str}{ow:Nat->Nat}{rk:Nat->Int}{kinds:List Str}{k:Nat}{r:RR}(g:GR names ow rk kinds k r)(no:∀x∈names,qbk x)(hk:k<names.length)(l6:names.length<=6):RrOk r:=by
 have nmk:∀b,b<names.length->qbk (nm9 names b):=λb hb=>no _ (Ay (qgo hb))
 have yn:r.yields.length<=names.length:=by
  refine nd_sub g.yl.nd λy hy=>?_
  obtain⟨b,hb,e,_⟩:=g.yl.ok y hy
  rw[e];exact Ay (qgo hb)
 refine⟨by rw[g.nm];exact nmk k hk,g.wh,g.kn,λy hy=>?_,λhb=>?_,λy hy=>?_,λy hy=>?_,g.mn,g.un,g.lg.2,⟨by have:=g.ln.1;lia,by have:=g.ln.2;lia,by have:=g.lg.1;lia,by lia⟩⟩
 .rcases g.bo with ⟨b,hb,e,_⟩|⟨e,_⟩
  .rw[e]at hy;cases hy;exact nmk b hb
  .rw[e]at hy;cases hy
 .rcases g.bo with ⟨b,hb',e,_⟩|⟨_,e⟩
  .rw[e]at hb;cases hb
  .exact e
 .rcases g.bo with ⟨b,hb',e,_,e2⟩|⟨e,_⟩
  .exact e2
  .rw[e]at hy;cases hy
 .obtain⟨b,hb,e,_⟩:=g.yl.ok y hy
  rw[e];exact nmk b hb
theorem qgl:(wS "term ").cps.toList=(wS "term").cps.toList++[32]/\(wS " of ").cps.toList=32::((wS "of").cps.toList++[32])/\(wS " due ").cps.toList=32::((wS "due").cps.toList++[32])/\(wS "from ").cps.toList=(wS "from").cps.toList++[32]/\(wS "behind ").cps.toList=(wS "behind").cps.toList++[32]/\(wS " ").cps.toList=[32]/\(wS "ends ").cps.toList=(wS "ends").cps.toList++[32]/\(wS "anew ").cps.toList=(wS "anew").cps.toList++[32]/\(wS "longer ").cps.toList=(wS "longer").cps.toList++[32]/\(wS " times ").cps.toList=32::((wS "times").cps.toList++[32])/\(wS "still ").cps.toList=(wS "still").cps.toList++[32]/\(wS "yields ").cps.toList=(wS "yields").cps.toList++[32]:=Ek
theorem hl0 {a b:Str}(ha:a.length<=50000)(hb:b.length<=50000):a.length+b.length<=100000:=Nat.add_le_add ha hb
theorem hl {a b:Str}{n:Nat}(ha:a.length<=n / 2)(hb:b.length<=n / 2):(a++b).length<=n:=by rw[qgj];lia
theorem fz {n:Nat}(h:n<=100000:=by first | (refine hl0 ?_ ?_ <;>(repeat' refine hl ?_ ?_) <;>first|exact A3 (by assumption) En|decide)|lia | (simp only[qgj];lia)):n<=A0:=fits h
theorem t_lens:(Ab "term ").length=5/\(Ab " of ").length=4/\(Ab " due ").length=5/\(Ab "from ").length=5/\(Ab "behind ").length=7/\(Ab " ").length=1/\(Ab "ends ").length=5/\(Ab "anew ").length=5/\(Ab "longer ").length=7/\(Ab " times ").length=7/\(Ab "still ").length=6/\(Ab "yields ").length=7/\(Ab "None").length=4:=Ek
noncomputable def qlb (r:RR):Str:=match r.base with
 |some y=>wS "behind " ++ y
 |none=>wS "from " ++ r.opens.getD "None"
theorem qso (r:RR):wS "term " ++ r.name++wS " of " ++ r.who++wS " due " ++ r.owes++wS " " ++ qlb r++wS " " ++ nS r.many++wS " " ++ r.unit=qbl (qdl r):=by
 obtain⟨t1,t2,t3,t4,t5,t6,_⟩:=qgl
 refine str_ext ?_
 rw[show (qbl (qdl r)).cps.toList=jl 32 ((qar (qdl r)).map λp=>p.cps.toList) from qc7 32 _]
 unfold qlb qdl
 cases r.base with
 |some y =>
  dsimp only
  simp only[qdz,t1,t2,t3,t5,t6,qar,fbS,if_pos,AA,BV,jl,AN,Bf,Bk]
 |none =>
  dsimp only
  simp only[qdz,t1,t2,t3,t4,t6,qar,fbS,Df,if_false,AA,BV,jl,AN,Bf,Bk]
theorem qsp (x k:Str):wS "ends " ++ x++wS " " ++ k=qbl (.ends x k):=by
 obtain⟨_,_,_,_,_,t6,t7,_⟩:=qgl
 refine str_ext ?_
 rw[show (qbl (.ends x k)).cps.toList=jl 32 ((qar (.ends x k)).map λp=>p.cps.toList) from qc7 32 _]
 simp only[qdz,t6,t7,qar,AA,BV,jl,AN,Bf,Bk]
theorem qsq (x k:Str):wS "anew " ++ x++wS " " ++ k=qbl (.anew x k):=by
 obtain⟨_,_,_,_,_,t6,_,t8,_⟩:=qgl
 refine str_ext ?_
 rw[show (qbl (.anew x k)).cps.toList=jl 32 ((qar (.anew x k)).map λp=>p.cps.toList) from qc7 32 _]
 simp only[qdz,t6,t8,qar,AA,BV,jl,AN,Bf,Bk]
theorem qoh (x k:Str):wS "yields " ++ x++wS " " ++ k=qbl (.yields x k):=by
 obtain⟨_,_,_,_,_,t6,_,_,_,_,_,t12⟩:=qgl
 refine str_ext ?_
 rw[show (qbl (.yields x k)).cps.toList=jl 32 ((qar (.yields x k)).map λp=>p.cps.toList) from qc7 32 _]
 simp only[qdz,t6,t12,qar,AA,BV,jl,AN,Bf,Bk]
theorem qoi (x k:Str)(u t:Int):wS "longer " ++ x++wS " " ++ k++wS " " ++ nS u++wS " times " ++ nS t=qbl (.longer x k u t):=by
 obtain⟨_,_,_,_,_,t6,_,_,t9,t10,_⟩:=qgl
 refine str_ext ?_
 rw[show (qbl (.longer x k u t)).cps.toList=jl 32 ((qar (.longer x k u t)).map λp=>p.cps.toList) from qc7 32 _]
 simp only[qdz,t6,t9,t10,qar,AA,BV,jl,AN,Bf,Bk]
theorem qps (x k l:Str):wS "still " ++ x++wS " " ++ k++wS " " ++ l=qbl (.still x k l):=by
 obtain⟨_,_,_,_,_,t6,_,_,_,_,t11,_⟩:=qgl
 refine str_ext ?_
 rw[show (qbl (.still x k l)).cps.toList=jl 32 ((qar (.still x k l)).map λp=>p.cps.toList) from qc7 32 _]
 simp only[qdz,t6,t11,qar,AA,BV,jl,AN,Bf,Bk]
noncomputable def qea (rows:List Rw7):List V:=(rows.map qbl).map V.str
noncomputable def spSo:Sp:=λvs H Q _=>∃(p:Addr)(r:RR),vs=[.ref p]/\LR H p r/\RrOk r/\∀(q:Addr)(H':Hp)(us:List V),H q=none->Same H H'->H' q=some (.lst us)->us.length=6->(∀(i:Nat)(v:V)(rw:List Rw7),us[i]?=some v->(qgr r)[i]?=some rw->∃b,v=.ref b/\H' b=some (.lst (qea rw)))->Q (.ref q) H'
noncomputable def spRws:Sp:=λvs H Q _=>∃(p:Addr)(r:RR),vs=[.ref p]/\LR H p r/\RrOk r/\∀(q:Addr)(H':Hp),H q=none->Same H H'->H' q=some (.lst (qea (qcr r)))->Q (.ref q) H'
theorem qpt {n:Int}(h:n.natAbs<=100):n.natAbs.log2<1920:=Nat.lt_of_le_of_lt (Nat.log2_le_self _) (by lia)
theorem qvx {r:RR}(h:RrOk r):∀rw∈qgr r,rw.length<=100:=by
 obtain⟨z1,z2,z3,z4⟩:=h.sz
 intro rw hr
 simp only[qgr,Ap,Av,or_false]at hr
 rcases hr with rfl|rfl|rfl|rfl|rfl|rfl
 .simp
 .rw[Ac];exact z1
 .rw[Ac];exact z2
 .rw[Ac];exact z3
 .cases r.still <;>simp[qgq]
 .rw[Ac];exact z4
noncomputable def qyc:RR->List Rw7->Prop
 |_,[]=>True
 |r,row::t=>isT row=false/\qbh row=r.name/\qji r row=false/\qyc (qcz r row) t
theorem qvy {rs0:List RR}{r:RR}(h:qam rs0 r.name=none):qam (rs0++[r]) r.name=some rs0.length:=by
 rw[qhz,h];dsimp only;rw[if_pos rfl]
theorem qsr {rs0:List RR}{r r':RR}:(rs0++[r]).set rs0.length r'=rs0++[r']:=by
 rw[List.set_append_right _ _ (Ax _),D4];rfl
theorem qss {rs0:List RR}{r:RR}:(rs0++[r])[rs0.length]?=some r:=by
 rw[AM (Ax _),D4];rfl
theorem qgs:∀{rows:List Rw7}{rs0:List RR}{r:RR}{i:Nat}{t:List (Option Rw7)},qam rs0 r.name=none->qyc r rows->i+rows.length<=40->qal (rs0++[r]) i (rows.map some++t)=qal (rs0++[rows.foldl qcz r]) (i+rows.length) t
 | [],_,_,_,_,_,_,_=>rfl
 |row::rows,rs0,r,i,t,hp,f,hi=>by
  obtain⟨f1,f2,f3,f4⟩:=f
  rw[At]at hi
  have h:qc8 (rs0++[r]) i row=.ok (rs0++[qcz r row]):=by
   rw[qir f1,qkr (by rw[f2];exact qvy hp) qss f3,qsr]
  show qal (rs0++[r]) i (some row::(rows.map some++t))=_
  rw[qg8 (by lia) h,qgs (by rw[qhx];exact hp) f4 (by lia),At,show i+1+rows.length=i+(rows.length+1) by lia]
  rfl
noncomputable def nLg:List Rw7->Nat
 | []=>0
 |.longer _ _ _ _::t=>nLg t+1
 |_::t=>nLg t
noncomputable def nSt:List Rw7->Nat
 | []=>0
 |.still _ _ _::t=>nSt t+1
 |_::t=>nSt t
theorem qst (r:RR){row:Rw7}(h:isT row=false)(hs:nSt [row]+stN r.still<=1):(qag (qcz r row)).Perm (qag r++kin row):=by
 refine List.perm_iff_count.mpr λx=>?_
 cases row with
 |term=>cases h
 |ends y k=>simp only[qag,qcz,kin,CM];lia
 |anew y k=>simp only[qag,qcz,kin,CM];lia
 |longer y k u t=>simp only[qag,qcz,kin,CM,A1,AA,BV];lia
 |still y k l =>
  have e:r.still=none:=by
   cases es:r.still with
   |none=>rfl
   |some s=>rw[es]at hs;have hs:1+1<=1:=hs;lia
  simp only[qag,qcz,kin,CM,e,stL,List.count_nil];lia
 |yields y k=>simp only[qag,qcz,kin,CM,List.count_nil];lia
theorem qkx (row:Rw7)(t:List Rw7):nLg (row::t)=nLg [row]+nLg t:=by cases row <;>simp[nLg] <;>lia
theorem qky (row:Rw7)(t:List Rw7):nSt (row::t)=nSt [row]+nSt t:=by cases row <;>simp[nSt] <;>lia
theorem qyd (r:RR)(row:Rw7):(qcz r row).longer.length=r.longer.length+nLg [row]:=by cases row <;>simp[qcz,nLg]
theorem qye (r:RR)(row:Rw7)(h:nSt [row]+stN r.still<=1):stN (qcz r row).still=stN r.still+nSt [row]:=by
 cases row with
 |still y k l =>
  show 1=stN r.still+1
  have h:1+stN r.still<=1:=h
  lia
 |_=>rfl
theorem qq3:∀{rows:List Rw7}{r:RR},(∀row∈rows,isT row=false/\qbh row=r.name)->(qag r++rows.flatMap kin).Nodup->r.longer.length+nLg rows<=2->stN r.still+nSt rows<=1->qyc r rows
 | [],_,_,_,_,_=>trivial
 |row::rows,r,ha,nd,hl,hs=>by
  obtain⟨a1,a2⟩:=ha row Am
  rw[qkx]at hl
  rw[qky]at hs
  have pm:=qst r a1 (by lia)
  rw[By,<- AN]at nd
  have nd1:=(AQ.mp nd).1
  obtain⟨n1,n2,n3⟩:=AQ.mp nd1
  refine⟨a1,a2,?_,qq3 (λrow' hr=>by rw[qhx];exact ha row' (Aq _ hr)) ?_ (by rw[qyd];lia) (by rw[qye r row (by lia)];lia)⟩
  .unfold qji
   rw[Bool.or_eq_false_iff]
   constructor
   .rw[List.any_eq_false]
    intro k hk z
    exact n3 k (C0.mp z) k hk rfl
   .cases row with
    |still y k l =>
     show (r.still.isSome || decide (k=l))=false
     have e:r.still=none:=by
      cases es:r.still with
      |none=>rfl
      |some s=>rw[es]at hs;have hs:1+(1+nSt rows)<=1:=hs;lia
     rw[e,decide_eq_false]
     .rfl
     .intro z
      rw[z]at n2
      simp[kin]at n2
    |longer y k u t =>
     show decide (r.longer.length=2)=false
     rw[decide_eq_false]
     intro z
     have hl:r.longer.length+(1+nLg rows)<=2:=hl
     lia
    |_=>rfl
  .exact(pm.append_right _).nodup_iff.mpr nd
noncomputable def noY (r:RR):RR:={ r with yields:=[] }
theorem ql5 (x:Str):∀(ks:List Str)(r:RR),(ks.map (.ends x)).foldl qcz r={ r with ends:=r.ends++ks }
 | [],r=>by rw[B8];rfl
 |k::ks,r=>by
  show (ks.map (.ends x)).foldl qcz { r with ends:=r.ends++[k] }=_
  rw[ql5 x ks]
  simp only[AN,Bf,Bk]
theorem ql6 (x:Str):∀(ks:List Str)(r:RR),(ks.map (.anew x)).foldl qcz r={ r with anew:=r.anew++ks }
 | [],r=>by rw[B8];rfl
 |k::ks,r=>by
  show (ks.map (.anew x)).foldl qcz { r with anew:=r.anew++[k] }=_
  rw[ql6 x ks]
  simp only[AN,Bf,Bk]
theorem qja (x:Str):∀(ks:List (Str×Int×Int))(r:RR),(ks.map λt=>Rw7.longer x t.1 t.2.1 t.2.2).foldl qcz r={ r with longer:=r.longer++ks }
 | [],r=>by rw[B8];rfl
 |k::ks,r=>by
  show (ks.map λt=>Rw7.longer x t.1 t.2.1 t.2.2).foldl qcz { r with longer:=r.longer++[(k.1,k.2.1,k.2.2)] }=_
  rw[qja x ks]
  simp only[AN,Bf,Bk]
theorem qjb (x:Str):∀(ks:List Str)(r:RR),(ks.map (.yields x)).foldl qcz r=r
 | [],r=>rfl
 |k::ks,r=>qjb x ks r
theorem qpu (x:Str)(o:Option (Str×Str))(r:RR)(h:r.still=none):(qgq x o).foldl qcz r={ r with still:=o }:=by
 cases o with
 |none=>show r={ r with still:=none };rw[<- h]
 |some s=>rfl
noncomputable def qch (r:RR):List Rw7:=r.ends.map (.ends r.name)++(r.anew.map (.anew r.name)++(r.longer.map (λt=>.longer r.name t.1 t.2.1 t.2.2)++(qgq r.name r.still++r.yields.map (.yields r.name))))
theorem qiv (r:RR):qcr r=qdl r::qch r:=by
 unfold qcr qgr qch
 simp only[List.flatten_cons,List.flatten_nil,B8,Bf,Bk]
noncomputable def qf4 (r:RR):RR:=⟨r.name,r.who,r.owes,r.opens,r.base,r.many,r.unit,[],[],[],none,[]⟩
theorem qsu (r:RR):(qch r).foldl qcz (qf4 r)=noY r:=by
 unfold qch
 rw[Du,ql5,Du,ql6,Du,qja,Du,qpu _ _ _ rfl,qjb]
 simp only[qf4,noY,Bk]
theorem qyf (r:RR):∀row∈qch r,isT row=false/\qbh row=r.name:=by
 intro row h
 unfold qch at h
 simp only[AH,AW]at h
 rcases h with ⟨k,_,rfl⟩|⟨k,_,rfl⟩|⟨k,_,rfl⟩|h|⟨k,_,rfl⟩
 .exact⟨rfl,rfl⟩
 .exact⟨rfl,rfl⟩
 .exact⟨rfl,rfl⟩
 .cases es:r.still with
  |none=>rw[es]at h;cases h
  |some s=>rw[es]at h;rw[An.mp h];exact⟨rfl,rfl⟩
 .exact⟨rfl,rfl⟩
theorem qvz (r:RR):(qch r).flatMap kin=r.ends++(r.anew++(r.longer.map (·.1)++stL r.still)):=by
 have e1:∀ks:List Str,(ks.map (Rw7.ends r.name)).flatMap kin=ks:=λks=>by induction ks with|nil=>rfl|cons k ks ih=>rw[AA,By,ih];rfl
 have e2:∀ks:List Str,(ks.map (Rw7.anew r.name)).flatMap kin=ks:=λks=>by induction ks with|nil=>rfl|cons k ks ih=>rw[AA,By,ih];rfl
 have e3:∀ks:List (Str×Int×Int),(ks.map λt=>Rw7.longer r.name t.1 t.2.1 t.2.2).flatMap kin=ks.map (·.1):=λks=>by induction ks with|nil=>rfl|cons k ks ih=>rw[AA,By,ih];rfl
 have e4:∀ks:List Str,(ks.map (Rw7.yields r.name)).flatMap kin=[]:=λks=>by induction ks with|nil=>rfl|cons k ks ih=>rw[AA,By,ih];rfl
 unfold qch
 rw[Bu,Bu,Bu,Bu,e1,e2,e3,e4,B8]
 cases r.still <;>rfl
theorem qh5:∀a b:List Rw7,nLg (a++b)=nLg a+nLg b
 | [],b=>(D5 _).symm
 |x::a,b=>by rw[Bf,qkx,qkx x a,qh5 a b];lia
theorem qh6:∀a b:List Rw7,nSt (a++b)=nSt a+nSt b
 | [],b=>(D5 _).symm
 |x::a,b=>by rw[Bf,qky,qky x a,qh6 a b];lia
theorem n_rest (r:RR):nLg (qch r)=r.longer.length/\nSt (qch r)=stN r.still:=by
 have a:∀ks:List Str,nLg (ks.map (Rw7.ends r.name))=0/\nSt (ks.map (Rw7.ends r.name))=0/\nLg (ks.map (Rw7.anew r.name))=0/\nSt (ks.map (Rw7.anew r.name))=0/\nLg (ks.map (Rw7.yields r.name))=0/\nSt (ks.map (Rw7.yields r.name))=0:=λks=>by
  induction ks with
  |nil=>exact⟨rfl,rfl,rfl,rfl,rfl,rfl⟩
  |cons k ks ih=>exact ih
 have b:∀ks:List (Str×Int×Int),nLg (ks.map λt=>Rw7.longer r.name t.1 t.2.1 t.2.2)=ks.length/\nSt (ks.map λt=>Rw7.longer r.name t.1 t.2.1 t.2.2)=0:=λks=>by
  induction ks with
  |nil=>exact⟨rfl,rfl⟩
  |cons k ks ih=>exact⟨congrArg (· + 1) ih.1,ih.2⟩
 have c:∀o:Option (Str×Str),nLg (qgq r.name o)=0/\nSt (qgq r.name o)=stN o:=λo=>by cases o <;>exact⟨rfl,rfl⟩
 unfold qch
 rw[qh5,qh5,qh5,qh5,qh6,qh6,qh6,qh6,(a r.ends).1,(a r.ends).2.1,(a r.anew).2.2.1,(a r.anew).2.2.2.1,(b r.longer).1,(b r.longer).2,(c r.still).1,(c r.still).2,(a r.yields).2.2.2.2.1,(a r.yields).2.2.2.2.2]
 lia
theorem qsv {r:RR}(nd:(qag r).Nodup)(l2:r.longer.length<=2):qyc (qf4 r) (qch r):=by
 obtain⟨n1,n2⟩:=n_rest r
 refine qq3 (qyf r) ?_ (by rw[n1];show 0+_<=2;lia) (by rw[n2];show 0+_<=1;cases r.still <;>simp[stN])
 rw[qvz]
 refine(Db.nodup_iff (List.perm_iff_count.mpr λx=>?_)).mpr nd
 simp only[qag,qf4,CM,BV,List.count_nil,stL]
 lia
theorem qoj {rs0:List RR}{r:RR}{i:Nat}(ok:RrOk r)(nd:(qag r).Nodup)(hp:qam rs0 r.name=none)(h6:rs0.length≠6):qc8 rs0 i (qdl r)=.ok (rs0++[qf4 r]):=by
 unfold qdl
 cases eb:r.base with
 |some y =>
  show qfl rs0 i r.name r.who r.owes true y r.many r.unit=_
  rw[qf2 (d:=true) hp (λz=>z.elim h6 λz=>nomatch z.1)]
  unfold qpn qf4
  rw[eb,ok.bn y eb];rfl
 |none =>
  obtain⟨o,eo⟩:=ok.bo eb
  show qfl rs0 i r.name r.who r.owes false (r.opens.getD "None") r.many r.unit=_
  rw[eo]
  have ne:r.owes≠o:=λz=>by
   unfold qag at nd
   rw[eo,z]at nd
   simp at nd
  show qfl rs0 i r.name r.who r.owes false o r.many r.unit=_
  rw[qf2 hp (λz=>z.elim h6 λz=>ne z.2)]
  unfold qpn qf4
  rw[eb,eo];rfl
theorem qlc {rs0:List RR}{r:RR}{i:Nat}{t:List (Option Rw7)}(ok:RrOk r)(nd:(qag r).Nodup)(l2:r.longer.length<=2)(hp:qam rs0 r.name=none)(h6:rs0.length≠6)(h40:i+(qcr r).length<=40):qal rs0 i ((qcr r).map some++t)=qal (rs0++[noY r]) (i+(qcr r).length) t:=by
 rw[qiv]at h40 |-
 rw[At]at h40 |-
 show qal rs0 i (some (qdl r)::((qch r).map some++t))=_
 rw[qg8 (by lia) (qoj ok nd hp h6),qgs (r:=qf4 r) hp (qsv nd l2) (by lia),qsu,show i+1+(qch r).length=i+((qch r).length+1) by lia]
noncomputable def qaq (rs:List RR):List Rw7:=rs.flatMap qcr
structure GT (rs:List RR):Prop where
 ok:∀r∈rs,RrOk r
 kd:∀r∈rs,(qag r).Nodup
 l2:∀r∈rs,r.longer.length<=2
 nn:(rs.map RR.name).Nodup
 l6:rs.length<=6
 ba:qit rs
 yl:∀r∈rs,r.yields.Nodup/\∀y∈r.yields,y≠r.name/\∃s∈rs,s.name=y/\s.owes=r.owes
 ln:(qaq rs).length<=40
theorem qh7:∀{rs rs0:List RR}{i:Nat}{t:List (Option Rw7)},(∀r∈rs,RrOk r/\(qag r).Nodup/\r.longer.length<=2)->((rs0++rs).map RR.name).Nodup->(rs0++rs).length<=6->i+(qaq rs).length<=40->qal rs0 i ((qaq rs).map some++t)=qal (rs0++rs.map noY) (i+(qaq rs).length) t
 | [],rs0,i,t,_,_,_,_=>by
  show qal rs0 i t=qal (rs0++[]) (i+0) t
  rw[B8];rfl
 |r::rs,rs0,i,t,ok,nn,l6,h40=>by
  have el:qaq (r::rs)=qcr r++qaq rs:=By
  rw[el,Aj]at h40
  obtain⟨o1,o2,o3⟩:=ok r Am
  have hp:qam rs0 r.name=none:=qdt.mpr λz=>by
   rw[A1,AQ]at nn
   exact nn.2.2 _ z r.name (by simp) rfl
  have nn':(((rs0++[noY r])++rs).map RR.name).Nodup:=by
   rw[AN]
   have:((rs0++([noY r]++rs)).map RR.name)=(rs0++r::rs).map RR.name:=by simp[noY]
   rw[this];exact nn
  rw[Aj,At]at l6
  rw[el,A1,AN,qlc o1 o2 o3 hp (by lia) (by lia),qh7 (λs hs=>ok s (Aq _ hs)) nn' (by rw[Aj,Aj];show _+1+_<=6;lia) (by lia),Aj,AN,Nat.add_assoc]
  rfl
theorem qv0 {rs:List RR}(g:GT rs):qal [] 0 ((qaq rs).map some)=.ok (rs.map noY):=by
 have:=qh7 (rs:=rs) (rs0:=[]) (i:=0) (t:=[]) (λr hr=>⟨g.ok r hr,g.kd r hr,g.l2 r hr⟩) g.nn g.l6 (by have:=g.ln;lia)
 rw[B8,Bk]at this
 rw[this];rfl
theorem qjc:∀{rows:List Rw7}{rs:List RR}{i:Nat}{t:List Rw7},(∀row∈rows,isT row=false/\∀x y,row ≠ .yields x y)->qao rs i (rows++t)=qao rs (i+rows.length) t
 | [],_,_,_,_=>rfl
 |row::rows,rs,i,t,h=>by
  obtain⟨h1,h2⟩:=h row Am
  show qao rs i (row::(rows++t))=_
  rw[qe4 (qvp h1 h2),qjc λrow' hr=>h row' (Aq _ hr),At,show i+1+rows.length=i+(rows.length+1) by lia]
theorem qkz:∀{ys:List Str}{rs:List RR}{r:RR}{i j:Nat}{t:List Rw7},(rs.map RR.name).Nodup->rs[j]?=some r->(r.yields++ys).Nodup->(∀y∈ys,y≠r.name/\∃s∈rs,s.name=y/\s.owes=r.owes)->qao rs i (ys.map (.yields r.name)++t)=qao (rs.set j { r with yields:=r.yields++ys }) (i+ys.length) t
 | [],rs,r,i,j,t,_,hj,_,_=>by
  show qao rs i t=qao (rs.set j { r with yields:=r.yields++[] }) (i+0) t
  rw[B8]
  have:rs.set j r=rs:=by
   apply Bq
   intro k
   rw[Cv]
   by_cases c:j=k
   .subst c
    rw[if_pos rfl,if_pos (Ag.mp hj).1,hj]
   .rw[if_neg c]
  rw[this];rfl
 |y::ys,rs,r,i,j,t,nn,hj,nd,hy=>by
  obtain⟨y1,s,hs,sn,so⟩:=hy y Am
  obtain⟨l,hl⟩:=Ba hs
  have pl:qam rs y=some l:=by rw[<- sn];exact qgk nn hl
  have ny:y∉r.yields:=λz=>by
   rw[AQ]at nd
   exact nd.2.2 y z y Am rfl
  have h:qcg rs i (.yields r.name y)=.ok (rs.set j { r with yields:=r.yields++[y] }):=by
   rw[qkt (qgk nn hj),qg6 pl hj hl λz=>z.elim y1 λz=>z.elim ny λz=>z so]
  have en:({ r with yields:=r.yields++[y] }:RR).name=r.name:=rfl
  show qao rs i (.yields r.name y::(ys.map (.yields r.name)++t))=_
  have ih:=qkz (ys:=ys) (rs:=rs.set j { r with yields:=r.yields++[y] }) (r:={ r with yields:=r.yields++[y] }) (i:=i+1) (j:=j) (t:=t) (by rw[qis hj en];exact nn) (BA (Ag.mp hj).1) (by show ((r.yields++[y])++ys).Nodup;rw[AN];exact nd) (λy' hy'=>by
   obtain⟨a1,s',hs',a2,a3⟩:=hy y' (Aq _ hy')
   obtain⟨l',hl'⟩:=Ba hs'
   by_cases c:l'=j
   .subst c
    rw[hj]at hl';cases hl'
    exact absurd a2.symm a1
   .exact⟨a1,s',Ay (i:=l') (by rw[Cv,if_neg (AZ c)];exact hl'),a2,a3⟩)
  rw[qe4 h]
  refine ih.trans ?_
  rw[List.set_set,At,show i+1+ys.length=i+(ys.length+1) by lia]
  simp only[AN,Bf,Bk]
theorem qv1 (r:RR):∃x w o d y m u,qdl r=.term x w o d y m u/\x=r.name:=by
 unfold qdl
 cases r.base with
 |some y=>exact⟨_,_,_,_,_,_,_,rfl,rfl⟩
 |none=>exact⟨_,_,_,_,_,_,_,rfl,rfl⟩
theorem qok {rs:List RR}{r r':RR}{i j:Nat}(nn:(rs.map RR.name).Nodup)(hj:rs[j]?=some r')(en:r'.name=r.name)(ba:∀y,r'.base=some y->(qam rs y).isSome=true):qcg rs i (qdl r)=.ok rs:=by
 obtain⟨x,w,o,d,y,m,u,e,ex⟩:=qv1 r
 rw[e,qhy (j:=j) (r:=r') (by rw[ex,<- en];exact qgk nn hj) hj]
 cases eb:r'.base with
 |none=>rfl
 |some z=>dsimp only;rw[if_pos (ba z eb)]
theorem qm0 {rs:List RR}{r:RR}{i j:Nat}{t:List Rw7}(nn:(rs.map RR.name).Nodup)(hj:rs[j]?=some (noY r))(ba:∀y,r.base=some y->(qam rs y).isSome=true)(nd:r.yields.Nodup)(hy:∀y∈r.yields,y≠r.name/\∃s∈rs,s.name=y/\s.owes=r.owes):qao rs i (qcr r++t)=qao (rs.set j r) (i+(qcr r).length) t:=by
 have e:qcr r=qdl r::((r.ends.map (.ends r.name)++(r.anew.map (.anew r.name)++(r.longer.map (λt=>.longer r.name t.1 t.2.1 t.2.2)++qgq r.name r.still)))++r.yields.map (.yields r.name)):=by
  rw[qiv];unfold qch;simp only[AN]
 rw[e]
 show qao rs i (qdl r::(_++t))=_
 refine(qe4 (qok (r:=r) (r':=noY r) nn hj rfl ba) _).trans ?_
 rw[AN]
 refine(qjc λrow h=>?_).trans ((qkz (ys:=r.yields) (r:=noY r) nn hj nd hy).trans ?_)
 .simp only[AH,AW]at h
  rcases h with ⟨k,_,rfl⟩|⟨k,_,rfl⟩|⟨k,_,rfl⟩|h
  .exact⟨rfl,λ_ _ z=>nomatch z⟩
  .exact⟨rfl,λ_ _ z=>nomatch z⟩
  .exact⟨rfl,λ_ _ z=>nomatch z⟩
  .cases es:r.still with
   |none=>rw[es]at h;cases h
   |some s=>rw[es]at h;rw[An.mp h];exact⟨rfl,λ_ _ z=>nomatch z⟩
 .have:({ noY r with yields:=(noY r).yields++r.yields }:RR)=r:=rfl
  rw[this]
  congr 1
  simp only[At,Aj,Ac]
  lia
theorem qsw (rs:List RR):(rs.map noY).map RR.name=rs.map RR.name:=by rw[Bi];rfl
theorem qol {rs:List RR}(g:GT rs):qao (rs.map noY) 0 (qaq rs)=.ok rs:=by
 have w:∀k,k<=rs.length->qao (rs.map noY) 0 (qaq rs)=qao (rs.take k++(rs.drop k).map noY) (qaq (rs.take k)).length (qaq (rs.drop k)):=by
  intro k
  induction k with
  |zero=>intro _;rw[DY,List.drop_zero,Bk];rfl
  |succ k ih =>
   intro hk
   rw[ih (by lia)]
   have lk:k<rs.length:=by lia
   have hr:rs[k]?=some rs[k]:=Ak lk
   have hm:rs[k]∈rs:=Bb lk
   have ed:rs.drop k=rs[k]::rs.drop (k+1):=BJ lk
   have lt:(rs.take k).length=k:=by rw[A2];lia
   have nms:(rs.take k++(rs.drop k).map noY).map RR.name=rs.map RR.name:=by
    rw[A1,qsw,<- A1,BD]
   have nn:((rs.take k++(rs.drop k).map noY).map RR.name).Nodup:=by rw[nms];exact g.nn
   have hj:(rs.take k++(rs.drop k).map noY)[k]?=some (noY rs[k]):=by
    rw[AM (by lia),lt,D4,ed];rfl
   have ea:qaq (rs.drop k)=qcr rs[k]++qaq (rs.drop (k+1)):=by rw[ed];exact By
   rw[ea,qm0 nn hj (λy hy=>by rw[qcq y nms];exact g.ba _ hm y hy) (g.yl _ hm).1 (λy hy=>?_)]
   .have e1:(rs.take k++(rs.drop k).map noY).set k rs[k]=rs.take (k+1)++(rs.drop (k+1)).map noY:=by
     rw[List.set_append_right _ _ (by lia),lt,D4,ed,qbf hr,AN];rfl
    have e2:(qaq (rs.take k)).length+(qcr rs[k]).length=(qaq (rs.take (k+1))).length:=by
     rw[qbf hr];unfold qaq;rw[Bu,Aj];simp
    rw[e1,e2]
   .obtain⟨y1,s,hs,y2,y3⟩:=(g.yl _ hm).2 y hy
    refine⟨y1,?_⟩
    rw[<- BD k rs]at hs
    rcases AH.mp hs with z|z
    .exact⟨s,Cj _ z,y2,y3⟩
    .exact⟨noY s,AK _ (AW.mpr ⟨s,z,rfl⟩),y2,y3⟩
 rw[w _ (Ax _),Bx,List.drop_length]
 show qao (rs++[]) _ []=_
 rw[B8];rfl
theorem qsx {rows:List Rw7}(h:∀row∈rows,qgp row):qjj (rows.map qbl)=rows.map some:=by
 unfold qjj
 rw[Bi]
 exact List.map_congr_left λrow hr=>qx9 (h row hr)
theorem qv2 {rs:List RR}(g:∀r∈rs,RrOk r):∀row∈qaq rs,qgp row:=λrow hr=>by
 obtain⟨r,h1,h2⟩:=BQ.mp hr
 exact qyb (g r h1) row h2
theorem ql7 {rs:List RR}(g:GT rs):qi7 ((qaq rs).map qbl)=.ok rs:=by
 unfold qi7
 rw[qsx (qv2 g.ok),qv0 g]
 dsimp only
 rw[qqz,qol g]
theorem qyg {f:Nat->Option Nat}{n:Nat}{rk:Nat->Int}(h:∀k b,f k=some b->rk b<rk k){r:List Nat}(rg:Rg f n r):False:=by
 have l1:1<=r.length:=List.length_pos_iff.mpr rg.ne
 have w:∀i,(hi:i<r.length)->rk (r[i])+(i:Int)<=rk (r[0]'(by lia)):=by
  intro i
  induction i with
  |zero=>intro hi;lia
  |succ i ih =>
   intro hi
   have h1:=ih (by lia)
   have h2:=rg.nx i r[i] (Ak (by lia))
   rw[Nat.mod_eq_of_lt hi,Ak hi]at h2
   have:=h _ _ h2
   lia
 have h1:=w (r.length-1) (by lia)
 have h2:=rg.nx (r.length-1) r[r.length-1] (Ak (by lia))
 rw[show r.length-1+1=r.length by lia,Nat.mod_self,Ak (by lia)]at h2
 have:=h _ _ h2
 lia
theorem gt_of {names kinds:List Str}{ow:Nat->Nat}{rk:Nat->Int}{rs:List RR}(g:GRs names ow rk kinds rs)(ln:rs.length=names.length)(no:∀x∈names,qbk x)(nn:names.Nodup)(l6:names.length<=6){mo:Nat}(hm:mo<=40)(hs:(rs.map exR).sum+names.length<=mo):GT rs:=by
 have ri:∀r∈rs,∃k,k<names.length/\rs[k]?=some r/\GR names ow rk kinds k r:=λr hr=>by
  obtain⟨k,hk⟩:=Ba hr
  exact⟨k,by rw[<- ln];exact(Ag.mp hk).1,hk,g k r hk⟩
 have en:rs.map RR.name=names:=by
  apply Bq
  intro k
  rw[Ai]
  by_cases c:k<names.length
  .have hr:rs[k]?=some (rs[k]'(by lia)):=Ak (by lia)
   rw[hr,qgo c]
   show some (rs[k]'(by lia)).name=_
   rw[(g k _ hr).nm]
  .rw[AO (by lia),AO (by lia)];rfl
 have at_:∀b,b<names.length->∃s∈rs,s.name=nm9 names b/\s.owes=nm9 kinds (ow b):=λb hb=>by
  have hr:rs[b]?=some (rs[b]'(by lia)):=Ak (by lia)
  exact⟨_,Ay hr,(g b _ hr).nm,(g b _ hr).os⟩
 refine⟨λr hr=>?_,λr hr=>?_,λr hr=>?_,by rw[en];exact nn,by lia,λr hr y hy=>?_,λr hr=>?_,?_⟩
 .obtain⟨k,hk,_,gr⟩:=ri r hr;exact gr.rrok no hk l6
 .obtain⟨k,hk,_,gr⟩:=ri r hr;exact gr.kd
 .obtain⟨k,hk,_,gr⟩:=ri r hr;exact gr.lg.1
 .obtain⟨k,hk,_,gr⟩:=ri r hr
  rcases gr.bo with ⟨b,hb,e,_⟩|⟨e,_⟩
  .rw[e]at hy
   cases hy
   cases ep:qam rs (nm9 names b) with
   |some j=>rfl
   |none =>
    have:=qdt.mp ep
    rw[en]at this
    exact absurd (Ay (qgo hb)) this
  .rw[e]at hy;cases hy
 .obtain⟨k,hk,_,gr⟩:=ri r hr
  refine⟨gr.yl.nd,λy hy=>?_⟩
  obtain⟨b,hb,e,bk,ob⟩:=gr.yl.ok y hy
  refine⟨λz=>bk ?_,?_⟩
  .rw[e,gr.nm]at z
   exact qip nn hb hk z
  .obtain⟨s,hs1,hs2,hs3⟩:=at_ b hb
   exact⟨s,hs1,by rw[hs2,e],by rw[hs3,ob,gr.os]⟩
 .have el:∀l:List RR,(qaq l).length=(l.map exR).sum+l.length:=by
   intro l
   induction l with
   |nil=>rfl
   |cons r l ih =>
    have:qaq (r::l)=qcr r++qaq l:=By
    rw[this,Aj,ih,AA,List.sum_cons,At,qiv,At]
    have:(qch r).length=exR r:=by
     unfold qch exR
     simp only[Aj,Ac]
     have:(qgq r.name r.still).length=stN r.still:=by cases r.still <;>rfl
     lia
    lia
  rw[el,ln];lia
theorem ranked {names kinds:List Str}{ow:Nat->Nat}{rk:Nat->Int}{rs:List RR}(g:GRs names ow rk kinds rs)(ln:rs.length=names.length)(nn:names.Nodup):∀k b,bo (bsR rs) k=some b->rk b<rk k:=λk b e=>by
 unfold bo bsR at e
 rw[Be,Ai]at e
 cases er:rs[k]? with
 |none=>rw[er]at e;cases e
 |some r =>
  rw[er]at e
  have e:r.base.bind (qam rs)=some b:=e
  rcases (g k r er).bo with ⟨b',hb',eb,hr,_⟩|⟨eb,_⟩
  .rw[eb]at e
   have e:qam rs (nm9 names b')=some b:=e
   obtain⟨s,hs,sn⟩:=qb0 e
   have:s.name=nm9 names b:=(g b s hs).nm
   have hb:b<names.length:=by rw[<- ln];exact(Ag.mp hs).1
   have:=qip nn hb hb' (this.symm.trans sn)
   rw[this];exact hr
  .rw[eb]at e;cases e
theorem qv3 {K:Ae}{c:Value}{suite qa9:TH}{D:Ends}{σ:L2.St}{x C:Addr}{od:Option Addr}{H:Hp}(e:Ad K (.ref C) c=some true)(h:suite D σ x C od H):hCl K c suite qa9 D σ x C od H:=by
 unfold hCl;rw[e];exact h
noncomputable def tk:Rw7->List Str
 |.term _ _ o d y _ _=>o::(if d=true then [] else [y])
 |row=>kin row
noncomputable def hd (rs:List RR)(k:Nat):Nat:=(qaq (rs.take k)).length
theorem hd_le {rs:List RR}{j k:Nat}(h:j<=k):hd rs j<=hd rs k:=by
 unfold hd qaq
 obtain⟨d,rfl⟩:∃d,k=j+d:=⟨k-j,by lia⟩
 rw[List.take_add,Bu,Aj];lia
section
variable {rs:List RR}(g:GT rs){n:Nat}(hn:n<=(qaq rs).length)
include g hn
end
theorem qsy {names kinds:List Str}{ow:Nat->Nat}{rk:Nat->Int}{rs:List RR}(g:GRs names ow rk kinds rs)(ln:rs.length=names.length):rs.map RR.name=names:=by
 apply Bq
 intro k
 rw[Ai]
 by_cases c:k<names.length
 .have hr:rs[k]?=some (rs[k]'(by lia)):=Ak (by lia)
  rw[hr,qgo c]
  show some (rs[k]'(by lia)).name=_
  rw[(g k _ hr).nm]
 .rw[AO (by lia),AO (by lia)];rfl
theorem qv4 {ls:List Str}(h:Lng ls):JoinOk (wS "\n") ls=true/\Txt.join (wS "\n") ls=qfk ls:=by
 constructor
 .unfold JoinOk
  rw[StrLaws.joinFits (B:=200) (λp hp=>(h.c p hp).1) (by
   have:=h.n
   rw[show (wS "\n").length=1 by decide +kernel]
   show ls.length*200+ls.length*1<=16777216
   lia)]
  rfl
 .show AG.Str.glued _ _=_
  rw[StrLaws.glued_eq_join,newl]
  rfl
theorem qsz {rows:List Rw7}(h:∀row∈rows,qgp row)(n:rows.length<=100):Lng (rows.map qbl):=by
 refine⟨by rw[Ac];exact n,λl hl=>?_,λe=>?_⟩
 .obtain⟨row,hr,rfl⟩:=AW.mp hl
  have:=qq2 (h row hr)
  exact⟨by lia,this.2.1⟩
 .cases rows with
  |nil=>cases e
  |cons r t =>
   rw[AA]at e
   injection e with e1 _
   have:=(qq2 (h r Am)).2.2
   rw[e1]at this
   exact this Ek
noncomputable def qm1 (o:Option (Str×Str))(k:Str):Str:=match o with
 |none=>Ab ""
 |some s=>if k=s.1 then Ab "still" else if k=s.2 then Ab "goes on" else Ab ""
noncomputable def roR (r:RR)(k:Str):Str:=if k=r.owes\/r.ends.contains k=true then Ab "ends" else if r.anew.contains k=true then Ab "anew" else if (r.longer.map (·.1)).contains k=true then Ab "longer" else qm1 r.still k
noncomputable def spStl2 (a:Adr):Sp:=λvs H Q _=>∃(A:RA)(k:Str)(r:RR),vs=[.ref A.p,.str k]/\RuX a.k8 H A r/\Q (.str (qm1 r.still k)) H
noncomputable def qyh (a:Adr):Sp:=λvs H Q _=>∃(A:RA)(k:Str)(r:RR),vs=[.ref A.p,.str k]/\RuX a.k8 H A r/\r.longer.length<=1000/\∀H',Same H H'->Q (.str (roR r k)) H'
noncomputable def spRuO (a:Adr):Sp:=λvs H Q E=>∃(x:Addr)(rs:List RR)(As:List RA)(os:List Nat)(y:Str),vs=[.ref x,.str y]/\BkAt a H x rs As os/\(∀(j:Nat)(A:RA),qam rs y=some j->As[j]?=some A->Q (.ref A.p) H)/\(qam rs y=none->OutE a (.term y) H E)
noncomputable def qf5 (rs:List RR):List Str:=rs.flatMap qag
noncomputable def spActK (a:Adr):Sp:=λvs H Q _=>∃(x:Addr)(rs:List RR)(As:List RA)(os:List Nat),vs=[.ref x]/\BkAt a H x rs As os/\Bn 100 rs/\(Sts.onceL (qf5 rs)).length≠1/\(Sts.onceL (qf5 rs)).length<64/\∀(q:Addr)(H':Hp)(ss:List Str),H q=none->Same H H'->ss.Perm (Sts.onceL (qf5 rs))->ss.Pairwise leS->H' q=some (.lst (ss.map V.str))->Q (.ref q) H'
theorem qv5 {r:RR}{n:Nat}(h:r.ends.length<=n/\r.anew.length<=n/\r.longer.length<=n/\r.yields.length<=n):(qag r).length<=3*n+4:=by
 have h1:r.opens.toList.length<=1:=by cases r.opens <;>simp
 have h2:(stL r.still).length<=2:=by cases r.still <;>simp[stL]
 unfold qag
 simp only[Aj,Ac,Br]
 lia
theorem qv6:∀{rs:List RR}{As:List RA}{i:Nat}{kv:Key×V},(dcR rs As)[i]?=some kv->∃r A,rs[i]?=some r/\As[i]?=some A/\kv.2=.ref A.p
 |r::rs,A::As,0,kv,h=>by cases h;exact⟨r,A,rfl,rfl,rfl⟩
 |r::rs,A::As,i+1,kv,h=>qv6 (rs:=rs) (As:=As) h
 | [],_,_,_,h=>by cases h
 |_::_,[],_,_,h=>by cases h
theorem qyi {H J:Hp}{us:List V}{ts:List (List V)}(h:Tups H us ts)(k:∀b t,H b=some (.tup t)->J b=some (.tup t)):Tups J us ts:=by
 induction h with
 |nil=>exact .nil
 |cons h _ ih=>exact .cons (k _ _ h) ih
theorem ql8 {rs:List RR}{i:Nat}{r:RR}(h:rs[i]?=some r):qf5 (rs.take (i+1))=qf5 (rs.take i)++qag r:=by
 unfold qf5
 rw[CL,h,Bu]
 simp[By]
theorem qh8 {rs:List RR}{n:Nat}(h:Bn n rs):(qf5 rs).length<=rs.length*(3*n+4):=by
 induction rs with
 |nil=>exact Bs _
 |cons r rs ih =>
  have:=ih λq hq=>h q (Aq _ hq)
  have h1:=qv5 (h r Am)
  show (qag r++qf5 rs).length<=(rs.length+1)*_
  rw[Aj,Nat.add_mul]
  lia
noncomputable def spKin2:Sp:=λvs H Q _=>∃(p:Addr)(r:RR),vs=[.ref p]/\LR H p r/\r.ends.length<=1000/\r.anew.length<=1000/\r.longer.length<=1000/\∀(q:Addr)(H':Hp),H q=none->Same H H'->H' q=some (.lst ((qag r).map V.str))->Q (.ref q) H'
noncomputable def spRo2:Sp:=λvs H Q _=>∃(p:Addr)(k:Str)(r:RR),vs=[.ref p,.str k]/\LR H p r/\r.longer.length<=1000/\∀H',Same H H'->Q (.str (roR r k)) H'
noncomputable def spWh2:Sp:=λvs H Q _=>∃i:Int,vs=[.int i]/\Q (.bl true) H
noncomputable def spTx2 (K:Ae):Sp:=λvs H Q _=>∃(p q:Addr)(xs:List Str),vs=[.ref p,.ref q]/\H p=some (.lst (xs.map V.str))/\H q=some (.lst (xs.map V.str))/\xs.length<=1000/\∀H',Same H H'->Q (.bl true) H'
noncomputable def spLo2:Sp:=λvs H Q _=>∃(p q:Addr)(us vs':List V)(ls:List (Str×Int×Int)),vs=[.ref p,.ref q]/\H p=some (.lst us)/\Tups H us (ls.map qiq)/\H q=some (.lst vs')/\Tups H vs' (ls.map qiq)/\∀H',Same H H'->Q (.bl true) H'
theorem alg {H H1:Hp}{p:Addr}{o:HO}(h:upd H p o=H1)(n:H p=none):Same H H1/\H1 p=some o:=by subst h;exact⟨zi n,qz⟩
theorem useHp {p G:Hp->Prop}{R:Prop}(m:(∀x,p x->G x)->R)(l:∀x,p x->G x):R:=m l
structure RL2 (r:RR):Prop where
 e:r.ends.length<=100
 a:r.anew.length<=100
 l:r.longer.length<=100
 y:r.yields.length<=100
noncomputable def spSm2 (a:Adr):Sp:=λvs H Q _=>∃(A:RA)(p pk:Addr)(r:RR)(ks:List Str),vs=[.ref A.p,.ref p,.ref pk]/\RuX a.k8 H A r/\LR H p r/\RL2 r/\H pk=some (.lst (ks.map V.str))/\∀H',Same H H'->Q (.bl true) H'
noncomputable def spNt2 (a:Adr):Sp:=λvs H Q _=>∃(x:Addr)(rs:List RR)(As:List RA)(os:List Nat)(y:Str),vs=[.ref x,.str y]/\BkAt a H x rs As os/\qam rs y=none/\∀H',Same H H'->Q (.bl true) H'
noncomputable def spKp2:Sp:=λvs H Q _=>∃(p:Addr)(c:Int)(ws:List Str),vs=[.ref p,.int c]/\H p=some (.lst (ws.map V.str))/\ws.Nodup/\(∀x∈ws,qbk x)/\ws.length<=100/\∀(q:Addr)(H':Hp)(ws':List Str),Same H H'->H' q=some (.lst (ws'.map V.str))->ws'.length=ws.length->ws'.Nodup->(∀x∈ws',qbk x)->Q (.ref q) H'
noncomputable def qh9:List Str:=[wS "term",wS "of",wS "due",wS "from",wS "behind",wS "times",wS "days",wS "weeks",wS "court",wS "ends",wS "anew",wS "longer",wS "still",wS "yields"]
theorem qv7:∀x∈qh9,qbk x:=by
 intro x hx
 apply qcy.mp
 revert x
 decide +kernel
structure WsOk (n:Nat)(ws:List Str):Prop where
 l:ws.length=n
 nd:ws.Nodup
 ok:∀x∈ws,qbk x
theorem WsOk.put {n:Nat}{ws:List Str}(h:WsOk n ws){i:Nat}(hi:i<ws.length){x:Str}(hx:x∉ws)(ox:qbk x):WsOk n (ws.take i++[x]++ws.drop (i+1)):=by
 have nd:=h.nd
 rw[<- BD i ws,BJ hi]at nd
 obtain⟨a,b,c⟩:=AQ.mp nd
 obtain⟨b1,b2⟩:=AX.mp b
 refine⟨?_,?_,λz hz=>?_⟩
 .rw[Aj,Aj,A2,B9,Br,<- h.l];lia
 .rw[AN]
  refine AQ.mpr ⟨a,AX.mpr ⟨λz=>hx (Dy z),b2⟩,λy hy z hz e=>?_⟩
  rcases Ap.mp hz with q|q
  .exact hx (by rw[<- q,<- e];exact Co hy)
  .exact c y hy z (Aq _ q) e
 .rcases AH.mp hz with q|q
  .rcases AH.mp q with q|q
   .exact h.ok z (Co q)
   .rw[An.mp q];exact ox
  .exact h.ok z (Dy q)
theorem qyj {rs:List RR}{k:Nat}{r:RR}(h:rs[k]?=some r):hd rs (k+1)=hd rs k+(qcr r).length:=by
 unfold hd qaq
 rw[qbf h,Bu,Aj]
 simp[By]
theorem qq4 (z:List Rw7):(qea z).length=z.length:=by unfold qea;rw[Ac,Ac]
theorem qv8 (rk:Nat->Int):∀n:Nat,0<n->∃k,k<n/\∀b,b<n->rk k<=rk b
 |0,h=>absurd h (B4 _)
 |1,_=>⟨0,En,λb hb=>by rw[Nat.lt_one_iff.mp hb];exact Int.le_refl _⟩
 |n+2,_=>by
  obtain⟨k,hk,h⟩:=qv8 rk (n+1) (Nat.succ_pos _)
  by_cases c:rk k<=rk (n+1)
  .exact⟨k,by lia,λb hb=>by
    rcases Nat.lt_succ_iff_lt_or_eq.mp hb with q|q
    .exact h b q
    .rw[q];exact c⟩
  .refine⟨n+1,by lia,λb hb=>?_⟩
   rcases Nat.lt_succ_iff_lt_or_eq.mp hb with q|q
   .have:=h b q;lia
   .rw[q];exact Int.le_refl _
theorem qyk {names kinds:List Str}{ow:Nat->Nat}{rk:Nat->Int}{rs:List RR}(g:GRs names ow rk kinds rs)(ln:rs.length=names.length):(Sts.onceL (qf5 rs)).length≠1/\(Sts.onceL (qf5 rs)).length<64:=by
 constructor
 .by_cases c:rs.length=0
  .rw[Dc.mp c];decide
  .obtain⟨k,hk,lo⟩:=qv8 rk rs.length (by lia)
   have hr:rs[k]?=some rs[k]:=Ak hk
   have G:=g k _ hr
   rcases G.bo with ⟨b,hb,_,hlt,_⟩|⟨_,o,ho⟩
   .have:=lo b (by lia);lia
   .have kd:=G.kd
    have m1:rs[k].owes∈qag rs[k]:=by unfold qag;simp
    have m2:o∈qag rs[k]:=by unfold qag;rw[ho];simp
    have ne:rs[k].owes≠o:=λe=>by
     unfold qag at kd
     rw[ho,<- e]at kd
     have:=(AQ.mp (AQ.mp kd).1).2.2 rs[k].owes (by simp) rs[k].owes (by simp)
     exact this rfl
    have inn:∀z∈qag rs[k],z∈Sts.onceL (qf5 rs):=λz hz=>(Sts.onceL_mem _ _).mpr (BQ.mpr ⟨_,Bb hk,hz⟩)
    have nd2:[rs[k].owes,o].Nodup:=by simp[ne]
    have:=nd2.length_le_of_subset (l₂:=Sts.onceL (qf5 rs)) (λz hz=>by
     rcases Ap.mp hz with q|q
     .rw[q];exact inn _ m1
     .rw[An.mp q];exact inn _ m2)
    have l2:[rs[k].owes,o].length=2:=rfl
    lia
 .have:=(Sts.onceL_nd (qf5 rs)).length_le_of_subset (l₂:=kinds.take 12) λz hz=>by
   obtain⟨r,hr,hz⟩:=BQ.mp ((Sts.onceL_mem _ _).mp hz)
   obtain⟨k,hk⟩:=Ba hr
   exact(g k r hk).ks z hz
  rw[A2]at this
  lia
section
variable {P:AF}{w:World}{K:Ae}{mg:Str->Option Value}{base:Heap}{a:Adr}
set_option maxHeartbeats 4000000
theorem qpv (T:Txt K mg a):FnOk P w K mg base CX0 1 a.fX a.lZ ["sign"] spFig:=by
 refine T.bJ.fn.ok qpd (λvs H Q E h=>?_) (λcdv A outer s H vs Q E hr h=>?_)
 .obtain⟨_,rfl,_⟩:=h
  all_goals rfl
 .obtain⟨c,rfl,k⟩:=h
  refine⟨_,(qu (zc (qm5 qf9 qf9 zp (pv 0) zp))),?_⟩
  refine⟨_,rfl,_,_,rfl,rfl,_,rfl,?_⟩
  have k':Q (.bl (fig c)) H:=k
  unfold fig at k'
  show if (!decide ((⟨#[c]⟩:Str).cps.toList<(Ab "0").cps.toList))=true then _ else _
  rw[le_0]
  by_cases h1:48<=c
  .rw[decide_eq_true h1,Dp]at k'
   rw[decide_eq_true h1]
   refine qet ⟨_,_,rfl,rfl,?_⟩
   show Q (.bl (!decide ((Ab "9").cps.toList<(⟨#[c]⟩:Str).cps.toList))) H
   rw[le_9];exact k'
  .rw[decide_eq_false h1,C4]at k'
   rw[decide_eq_false h1]
   exact qa1 k'
theorem qia (T:Txt K mg a):FnOk P w K mg base CX0 2 a.lU a.nK ["text", "most_figures"] spWn:=by
 refine T.gZ.fn.ok qhq (λvs H Q E h=>?_) (λcdv A outer s H vs Q E hr h=>?_)
 .obtain⟨_,_,rfl,_⟩:=h
  all_goals rfl
 .obtain⟨x,m,rfl,hx,k⟩:=h
  refine⟨_,(qk (zk (qbm (qju qlg qlg qp (zn qbi (by rfl) T.kI qba (qh (pv 0) qm qj)) (pv 1))) (qu (zc qc0)) qab)
   (qk (zk (qbm (zo (zn (qig rfl) (by rfl) T.dL qkj (qh (qeq (N:=["sign"]) (js:=[none]) (XN:=["text", "most_figures"]) (xs:=qaa qcw) rfl rfl rfl Ek (qqg (pv 0)) (λ_ _ _ _ _ _=>(qai (i:=0) (show Cd (["sign"]:List Str) from by decide +kernel) rfl (A4 rfl) (CQ rfl))) (λ_ _ _ _ _ _=>qcj) (λ_ _ _ _ _ _=>(zm (qpv T) (hr.mono En) rfl T.bJ.mgx T.bJ.fn.kp T.bJ.bd .nil qan (qh (pv 0) qm qj)))) qm qhf)))) (qu (zc qc0)) qab)
   (qu (zc (qym (qd7 qaz (pv 0) zp (qaf _)) (qma (qtd (qde Dk PySem.F.slot_str_startswith PySem.F.type_str_startswith qk6 (pv 0) (qh zp qm zb))))))))),?_⟩
  have hz:x.length<=A0:=fits (by lia)
  refine⟨_,rfl,_,_,rfl,⟨hz,rfl⟩,_,_,rfl,rfl,_,rfl,?_⟩
  have k0:=k H (Same.refl H)
  unfold wnm at k0
  refine qb1 (λc=>?_) (λc=>?_)
  .have c':1<=(x.cps.size:Int):=of_decide_eq_true c
   refine⟨_,rfl,_,_,rfl,rfl,_,rfl,?_⟩
   refine qb1 (λd=>?_) (λd=>?_)
   .have d1:decide ((x.cps.size:Int)<=m)=false:=nbF d
    have d':=of_decide_eq_false d1
    rw[decide_eq_false d',CZ,C4]at k0
    exact k0
   .have d1:decide ((x.cps.size:Int)<=m)=true:=nbT d
    have d':=of_decide_eq_true d1
    refine⟨_,rfl,_,rfl,?_⟩
    refine qbq (λv=>match v with | .str y=>.bl (fig (y.cps.getD 0 0))|_=>.non) (λσ'=>∃v,σ'=[v]) qj2 ?_ ?_ (λv σ' H' R hv sm s1 q=>?_) qck λp hp=>?_
    .rw[Ac,A6];exact hz
    .exact⟨none,rfl⟩
    .obtain⟨c,hc,rfl⟩:=AW.mp hv
     obtain⟨v0,rfl⟩:=s1
     exact⟨_,rfl,c,rfl,q _ ⟨_,rfl⟩⟩
    refine⟨p,x.cps.toList.map fig,rfl,SqL.of (by rw[qz,Bi,Bi];rfl),_,rfl,?_⟩
    have k1:=k _ (zi (o:=.lst ((x.cps.toList.map λc=>V.str ⟨#[c]⟩).map λv=>match v with | .str y=>.bl (fig (y.cps.getD 0 0))|_=>.non)) hp)
    unfold wnm at k1
    rw[decide_eq_true (show 1<=x.cps.size by lia),decide_eq_true d',Dp,Dp]at k1
    show if (!((x.cps.toList.map fig).all λb=>b))=true then _ else _
    rw[CK]
    show if (!(x.cps.toList.all fig))=true then _ else _
    cases e:x.cps.toList.all fig with
    |false =>
     rw[e]at k1
     exact qet k1
    |true =>
     rw[e,Dp]at k1
     refine qa1 ⟨_,rfl,rfl,_,rfl,?_⟩
     show if decide (V.str x=V.str (Ab "0"))=true then _ else _
     unfold Wri.plain at k1
     by_cases h0:x=Ab "0"
     .rw[decide_eq_true h0,Bool.true_or]at k1
      rw[decide_eq_true (congrArg V.str h0)]
      exact qet k1
     .rw[decide_eq_false h0,Bool.false_or]at k1
      rw[decide_eq_false λz=>h0 (V.str.inj z)]
      refine qa1 ⟨_,rfl,rfl,_,_,rfl,rfl,_,rfl,?_⟩
      show Q (.bl (!Txt.startswith x (Ab "0"))) _
      rw[qxy]
      exact k1
  .have c':¬1<=(x.cps.size:Int):=λz=>c (decide_eq_true z)
   rw[decide_eq_false (show ¬1<=x.cps.size by lia),C4,C4]at k0
   exact⟨_,rfl,qet k0⟩
theorem qv9 (T:Txt K mg a):FnOk P w K mg base CX0 3 a.nQ a.nM ["text", "most"] qvf:=by
 refine T.gQ.fn.ok qn3 (λvs H Q E h=>?_) (λcdv A outer s H vs Q E hr h=>?_)
 .obtain⟨_,_,rfl,_⟩:=h
  all_goals rfl
 .obtain⟨x,m,rfl,hx,m1,m2,k,kn⟩:=h
  refine⟨_,(qk (zk (qbm (zo (zm (qia T) (hr.mono En) rfl T.gZ.mgx T.gZ.fn.kp T.gZ.bd .nil qan (qh (pv 0) (qh (zn qbi (by rfl) T.kI qba (qh (qcb qd8 (by rfl) T.kR qdi (qh (pv 1) qm qj)) qm zt)) qm zt) qj)))) (qu (zc qay)) qab)
   (qk (zg (i:=2) qn3.nd rfl (A4 rfl) (qcb qrr (by rfl) T.bW qhp (qh (pv 0) qm qj)))
   (qu (zc (qdg (qju qlg qlg qp (pv 2) (pv 1)) (pv 2) qay))))),?_⟩
  have hL:(ts m).length<=62:=ts_len (by lia) En m2
  refine⟨_,rfl,_,rfl,_,rfl,log_ok 62 Ek (by lia) m2,_,_,rfl,⟨fits (A3 hL En),rfl⟩,x,_,rfl,by lia,λH1 s1=>?_⟩
  refine⟨_,rfl,?_⟩
  show if (!wnm x ((ts m).length:Nat))=true then _ else _
  cases e:wnm x ((ts m).length:Nat) with
  |false=>exact qet (kn (by unfold due;rw[e];rfl) H1 s1)
  |true =>
   have e':=e
   unfold wnm at e'
   simp only[AE,decide_eq_true_eq]at e'
   obtain⟨⟨g1,g2⟩,g3,g4⟩:=e'
   refine qa1 ⟨_,rfl,_,_,rfl,int_of g3 g1 (by lia),(by show x.cps.size<=640;lia),_,rfl,_,_,rfl,rfl,_,rfl,?_⟩
   refine qb1 (λc1=>?_) (λc1=>?_)
   .refine⟨_,rfl,_,_,rfl,rfl,_,rfl,?_⟩
    refine qb1 (λc2=>?_) (λc2=>?_)
    .exact⟨_,rfl,k (by unfold due;rw[e,c1,c2];rfl) H1 s1⟩
    .exact kn (by unfold due;rw[e,c1,Bool.eq_false_iff.mpr c2];rfl) H1 s1
   .exact⟨_,rfl,qa1 (kn (by unfold due;rw[e,Bool.eq_false_iff.mpr c1];rfl) H1 s1)⟩
theorem qpw (T:Txt K mg a):FnOk P w K mg base CX0 1 a.dJ a.pL ["self", "names"] (spIL K):=by
 refine T.fA.fn.ok qpe (λvs H Q E h=>?_) (λcdv A outer s H vs Q E hr h=>?_)
 .obtain⟨_,_,_,_,_,rfl,_⟩:=h
  all_goals rfl
 .obtain⟨x,C,l,zs,ini,rfl,hx,hl,xa,n1,k⟩:=h
  refine⟨_,(qk (zj (qft T.gO rfl T.gJ (qh (pv 0) (qh (qcb qhd (by rfl) T.kU qdf (qh (pv 1) qm qj)) qm zt) qj)))
   (qu (qhg (pv 0) (qcb qhd (by rfl) T.kU qdf (qh (pv 1) qm qj)) rfl))),?_⟩
  have nl:∀{p:Addr},H p=none->p≠x:=λhp z=>by rw[z,hx]at hp;cases hp
  refine⟨_,rfl,_,rfl,l,zs,rfl,.inl hl,λp1 h1=>?_⟩
  have hx1:upd H p1 (.lst zs) x=some (exO x C none true):=by rw[ze (AZ (nl h1))];exact hx
  refine⟨x,C,none,[.ref p1],ini,rfl,hx1,xa.xc,fits (show 1<=100000 by decide),?_⟩
  have hl2:SqL K (upd H p1 (.lst zs)) l zs:=(zi h1).seq hl
  refine⟨_,rfl,l,zs,rfl,.inl hl2,λp3 h3=>?_⟩
  have h30:H p3=none:=(zi h1).free h3
  have n31:p3≠p1:=λz=>by rw[z,qz]at h3;cases h3
  have hx3:upd (upd H p1 (.lst zs)) p3 (.lst zs) x=some (exO x C none true):=by rw[ze (AZ (nl h30))];exact hx1
  refine⟨_,rfl,x,C,true,rfl,xa.set n1,.inl ⟨hx3,λdx hd=>?_⟩⟩
  have hd0:H dx=none:=((zi h1).trans (zi h3)).free hd
  have nd3:p3≠dx:=λz=>by rw[<- z,qz]at hd;cases hd
  exact k dx p3 _ hd0 h30 (λb o hb e=>by rw[ze hb,ze (qad e hd0),ze (qad e h30),ze (qad e h1)];exact e) qz (by rw[ze (nl hd0)];exact qz) (by rw[ze (nl h30),ze nd3];exact qz)
theorem qs0 (T:Txt K mg a):FnOk P w K mg base (CX1 P w) 3 a.fU a.hU ["name", "bases", "taken"] (spUn7 a):=by
 refine okX T.gY.fn qgg (λvs H Q E h=>?_) (λcdv A outer s H vs Q E hr h=>?_)
 .obtain⟨_,_,_,_,_,_,_,rfl,_⟩:=h
  all_goals rfl
 .obtain⟨d,t,kvs,nms,bs,os,k0,rfl,hd,ht,wr,lto,hk,dic,k,kx⟩:=h
  refine⟨_,(qk (zg (i:=3) qgg.nd rfl (A4 rfl) (zq qm))
   (qk (zg (i:=4) qgg.nd rfl (A4 rfl) (pv 0))
   (qk (qth Bw.leaving (PW.pt (qd1 (zf qci (pv 4) qay (qaf _)) (qd5 (zf qe6 (pv 4) (pv 2) (by with_unfolding_all rfl))))) (qk (zk (zf qcc (pv 4) (pv 3) (by with_unfolding_all rfl)) (qu (qc2 rfl (Takes.at qa5) (qdu T.fD.xc T.fA.ty (qpw T) (hr.mono En) rfl T.lI T.fD.kp T.fA.bd .nil qan (qh (qa4 qb3 (pv 3) (qa0 (qde AI PySem.F.slot_list_index PySem.F.type_list_index qr2 (pv 3) (qh (pv 4) qm qj))) qcs) qm zw)))) qab)
   (qk (zj (qde AI AR AS qa7 (pv 3) (qh (pv 4) qm qj)))
   (qu (zg (i:=4) qgg.nd rfl (A4 rfl) (qhe (qe2 hr) (pv 1) (pv 4) (λ_ _=>rfl)))))))
   (qu (zc (pv 3)))))),?_⟩
  refine⟨qe3,λq hq=>?_⟩
  obtain⟨s0,h0⟩:=alc (o:=.lst []) hq
  generalize upd H q _=H0 at s0 h0 |-
  refine⟨_,rfl,?_⟩
  refine⟨λm σ' H'=>Same H H'/\∃(is:List Nat)(o:Option Nat),σ'=[some (.str (nm nms k0)),some (.ref d),some (.ref t),some (.ref q),some (qhs nms o)]/\H' q=some (.lst ((is.map (nm nms)).map V.str))/\Ch (bo bs) is o/\is.Nodup/\(∀j∈is,j<nms.length/\j∉os)/\(∀j,o=some j->j<nms.length)/\(is++o.toList)[0]?=some k0/\m+is.length=7,⟨7,s0,[],some k0,rfl,h0,(λi k e=>by cases e),.nil,(λj hj=>absurd hj Av),(λj e=>by cases e;exact hk),rfl,rfl⟩,?_⟩
  rintro m σ' H' ⟨s1,is,o,rfl,h1,ch,nd,lt,lo,st,hm⟩
  cases o with
  |none=>exact⟨_,rfl,rfl,_,rfl,qdy rfl (qa1 ⟨_,rfl,k q H' is none hq s1 h1 ch nd lt st (λj z=>nomatch z)⟩)⟩
  |some j =>
   have hj:=lo j rfl
   dsimp only[qhs]
   refine⟨_,rfl,rfl,_,rfl,qd4 (λz=>nomatch z) ⟨_,rfl,_,rfl,_,_,rfl,.inl (SqL.of (s1 _ _ ht)),rfl,qbg _,_,rfl,?_⟩⟩
   show if (!inV (.str (nm nms j)) ((os.map (nm nms)).map V.str))=true then _ else _
   rw[qb9]
   cases ec:(os.map (nm nms)).contains (nm nms j) with
   |true=>exact qa1 ⟨_,rfl,k q H' is (some j) hq s1 h1 ch nd lt st (λi z=>by cases z;exact(qmv wr.nd lto hj).mp ec)⟩
   |false =>
    have nj:j∉os:=λz=>by rw[(qmv wr.nd lto hj).mpr z]at ec;cases ec
    have ln:=qve nd λk hk=>(lt k hk).1
    have sm:=wr.sm
    obtain⟨m,rfl⟩:∃f,m=f+1:=⟨m-1,by lia⟩
    have lti:∀k∈is,k<nms.length:=λk hk=>(lt k hk).1
    refine qet ⟨λσ' H'=>Same H H'/\∃(is:List Nat)(o:Option Nat),σ'=[some (.str (nm nms k0)),some (.ref d),some (.ref t),some (.ref q),some (qhs nms o)]/\H' q=some (.lst ((is.map (nm nms)).map V.str))/\Ch (bo bs) is o/\is.Nodup/\(∀j∈is,j<nms.length/\j∉os)/\(∀j,o=some j->j<nms.length)/\(is++o.toList)[0]?=some k0/\m+is.length=7,λσ2 H2 z=>⟨m,Cb m,z⟩,?_⟩
    refine⟨_,rfl,_,rfl,_,_,rfl,.inl (SqL.of h1),rfl,qbg _,_,rfl,?_⟩
    show if (inV (.str (nm nms j)) ((is.map (nm nms)).map V.str))=true then _ else _
    rw[qb9]
    cases ep:(is.map (nm nms)).contains (nm nms j) with
    |true =>
     have mj:=(qmv wr.nd lti hj).mp ep
     obtain⟨i0,g1,g2,g3⟩:=nm_ix wr.nd lti hj nd mj
     have ld:((is.map (nm nms)).map V.str).drop i0=((is.drop i0).map (nm nms)).map V.str:=by rw[DI,DI]
     refine qet ⟨_,rfl,_,rfl,.inl ⟨rfl,_,SqL.of h1⟩,_,rfl,q,_,_,i0,rfl,rfl,h1,g2,g3,_,rfl,_,_,rfl,SqL.of h1,λp5 h5=>?_⟩
     have li:i0<is.length:=(Ag.mp g1).1
     rw[qko _ _ (by rw[Ac,Ac];lia),ld]
     obtain⟨s5,e5⟩:=alc (o:=.lst (((is.drop i0).map (nm nms)).map V.str)) h5
     generalize upd H' p5 _=H5 at s5 e5 |-
     refine⟨fits (show 1<=100000 by decide),λx1 n1=>⟨x1,a.kG,p5,_,_,rfl,qz,SqL.of (zi n1 _ _ e5),T.fD,zd T.rJ En,λd1 l1 H6 hd1 hl1 kp o1 od1 ol1=>⟨rfl,?_⟩⟩⟩
     have s6:Same H5 H6:=qa2 n1 kp
     have nx1:d1≠x1:=λz=>by rw[z,qz]at hd1;cases hd1
     have nl1:l1≠x1:=λz=>by rw[z,qz]at hl1;cases hl1
     exact⟨x1,_,some d1,rfl,o1,⟨_,od1⟩,T.rM,kx x1 d1 l1 _ _ (qah (s1.trans (s5.trans s6)) ((s1.trans s5).free n1)) qz ((ze nx1).trans od1) ((ze nl1).trans ol1) (ch_rg ch nd lti g1)⟩
    |false =>
     have mj:j∉is:=λz=>by rw[(qmv wr.nd lti hj).mpr z]at ep;cases ep
     have lz:((is.map (nm nms)).map V.str).length<=90000:=by rw[Ac,Ac];lia
     refine qa1 ⟨_,rfl,.inl ⟨rfl,_,SqL.of h1⟩,_,rfl,_,_,_,rfl,rfl,h1,qcx lz,?_⟩
     have s2:Same H (upd H' q (.lst ((is.map (nm nms)).map V.str++[V.str (nm nms j)]))):=qah s1 hq
     have h2:upd H' q (.lst ((is.map (nm nms)).map V.str++[V.str (nm nms j)])) q=some (.lst (((is++[j]).map (nm nms)).map V.str)):=by rw[qz,A1,A1];rfl
     generalize upd H' q _=H2 at s2 h2 |-
     refine⟨_,rfl,_,rfl,d,_,rfl,(dic j hj) ▸ DGet.k (k:=.inr (nm nms j)) (s2 _ _ hd),?_⟩
     refine⟨s2,is++[j],bo bs j,rfl,h2,ch.snoc,?_,λi hi=>?_,λi e=>wr.ok j i e,?_,by rw[Aj,Br];lia⟩
     .rw[AQ]
      exact⟨nd,AX.mpr ⟨Av,.nil⟩,λa ha b hb e=>mj (by rw[<- An.mp hb,<- e];exact ha)⟩
     .rcases AH.mp hi with z|z
      .exact lt i z
      .rw[An.mp z];exact⟨hj,nj⟩
     .have e:(is++[j])[0]?=some k0:=st
      rw[AT (by rw[Aj,Br];lia)]
      exact e
theorem qk0 (T:Txt K mg a):FnOk P w K mg base (CX1 P w) 4 a.hV a.nA ["rules"] (spHa7 a):=by
 refine okX T.bO.fn qbx (λvs H Q E h=>?_) (λcdv A outer s H vs Q E hr h=>?_)
 .obtain⟨_,_,_,_,rfl,_⟩:=h
  all_goals rfl
 .obtain⟨pr,us,nms,bs,rfl,hp,hrl,wr,k,kx⟩:=h
  refine⟨_,(qk (zg (i:=1) qbx.nd rfl (A4 rfl) qjy)
   (qk (qbv Bw.leaving rfl (qbc (pv 0)) (qai (i:=2) qbx.nd rfl (A4 rfl)) (qu (qmg (qe2 hr) (pv 1) (qaj (pv 2) rfl) (qaj (pv 2) rfl) rfl)))
   (qk (zg (i:=3) qbx.nd rfl (A4 rfl) (zq qm))
   (qk (qbv Bw.leaving rfl (qbc (pv 0)) (qai (i:=2) qbx.nd rfl (A4 rfl)) (qu (qtg (i:=3) qbx.nd rfl (A4 rfl) (qj7 rfl (by rfl) T.kU (by rfl) T.mS qdf (qh (qeh (qs0 T) (hr.mono En) rfl T.gY.mgx T.gY.fn.kp T.gY.bd .nil (Takes.at qa5) (qh (qaj (pv 2) rfl) (qh (pv 1) (qh (pv 3) qm qj) qj) qax)) qm zt)) qus)))
   (qu (zc (pv 3))))))),?_⟩
  refine λd hd=>?_
  obtain⟨s0,h0⟩:=alc (o:=.dK []) hd
  generalize upd H d _=H0 at s0 h0 |-
  have sm:=wr.sm
  refine⟨_,rfl,_,rfl,⟨_,SqL.of (s0 _ _ hp)⟩,qcl (K:=K) (a:=pr) (xs:=us) (λi σ H'=>Same H H'/\∃(v2:Option V)(kvs:List (Key×V)),σ=[some (.ref pr),some (.ref d),v2,none]/\H' d=some (.dK kvs)/\kvs.length<=i/\∀k<i,qdq kvs (.inr (nm nms k))=some (qhs nms (bo bs k)))
   ⟨s0,none,[],rfl,h0,Ax _,λk hk=>absurd hk (DL _)⟩ (λi σ H' _ h=>SqL.of (h.1 _ _ hp)) ?_ ?_⟩
  .rintro i x σ H' hx ⟨s1,v2,kvs,rfl,h1,hl,hv⟩
   have hi:i<nms.length:=by rw[<- hrl.1];exact(Ag.mp hx).1
   obtain⟨p,dx,fs,rfl,r1,r2,r3⟩:=(hrl.2 i x hx).same s1
   refine⟨_,rfl,_,_,_,_,_,rfl,r1,T.k9,zd T.kA En,r3,_,rfl,_,rfl,_,_,_,_,_,rfl,r1,T.k9,zd T.kA En,r2,d,_,rfl,DPut.k (k:=.inr (nm nms i)) h1 (by rw[Bg];lia),?_⟩
   exact⟨qah s1 hd,_,_,rfl,qz,A3 (qfp _ _ _) (D6 hl),qxs wr.nd hi hv⟩
  .rintro σ H1 ⟨s1,v2,kvs,rfl,h1,hl,hv⟩
   rw[hrl.1]at hv
   refine⟨qe3,λt ht=>?_⟩
   have s2:=s1.trans (zi (o:=.lst []) ht)
   have h2:=zi (o:=.lst []) ht _ _ h1
   have h3:=qz (H:=H1) (a:=t) (o:=.lst [])
   have nt:=s1.free ht
   have ntd:d≠t:=λz=>by rw[<- z,h1]at ht;cases ht
   generalize upd H1 t _=H2 at s2 h2 h3 |-
   refine⟨_,rfl,_,rfl,⟨_,SqL.of (s2 _ _ hp)⟩,qcl (K:=K) (a:=pr) (xs:=us) (λi σ H'=>Same H H'/\H' d=some (.dK kvs)/\(∃os:List Nat,H' t=some (.lst ((os.map (nm nms)).map V.str))/\os.Nodup/\(∀j∈os,j<nms.length)/\Od (bo bs) os/\∀j,j<i->j∈os)/\∃v2:Option V,σ=[some (.ref pr),some (.ref d),v2,some (.ref t)])
    ⟨s2,h2,⟨[],h3,.nil,(λj hj=>absurd hj Av),(λp k e=>by cases e),λj hj=>absurd hj (DL _)⟩,_,rfl⟩ (λi σ H' _ h=>SqL.of (h.1 _ _ hp)) ?_ ?_⟩
   .rintro i x σ H' hx ⟨s1,h1,⟨os,h3,nd,lto,od,al⟩,v2,rfl⟩
    have hi:i<nms.length:=by rw[<- hrl.1];exact(Ag.mp hx).1
    obtain⟨p,dx,fs,rfl,r1,r2,r3⟩:=(hrl.2 i x hx).same s1
    refine⟨_,rfl,_,rfl,_,_,_,_,_,rfl,r1,T.k9,zd T.kA En,r2,_,rfl,_,rfl,_,_,_,nms,bs,os,i,rfl,h1,h3,wr,lto,hi,hv,λq1 H3 is o n1 z1 e1 ch nd1 lt1 st1 ho=>?_,kx.same s1⟩
    refine⟨_,_,rfl,SqL.of e1,λq2 hq2=>?_⟩
    have er:((is.map (nm nms)).map V.str).reverse=((is.reverse.map (nm nms)).map V.str):=by rw[List.map_reverse,List.map_reverse]
    rw[er]
    have z2:=z1.trans (zi (o:=.lst ((is.reverse.map (nm nms)).map V.str)) hq2)
    have e2:=qz (H:=H3) (a:=q2) (o:=.lst ((is.reverse.map (nm nms)).map V.str))
    generalize upd H3 q2 _=H4 at z2 e2 |-
    have lo:=qve nd lto
    have li:=qve nd1 λk hk=>(lt1 k hk).1
    refine⟨_,_,_,_,rfl,rfl,z2 _ _ h3,e2,fits (by rw[Ac,Ac,Ac,Ac,DA];lia),?_⟩
    refine⟨qah (s1.trans z2) nt,(ze ntd).trans (z2 _ _ h1),⟨os++is.reverse,?_,?_,λj hj=>?_,od_app od ch ho,λj hj=>?_⟩,_,rfl⟩
    .rw[qz,A1,A1]
    .rw[AQ]
     exact⟨nd,List.pairwise_reverse.mpr (nd1.imp AZ),λa ha b hb e=>(lt1 b (Ef.mp hb)).2 (e ▸ ha)⟩
    .rcases AH.mp hj with z|z
     .exact lto j z
     .exact(lt1 j (Ef.mp z)).1
    .by_cases c:j=i
     .rw[c];exact ch_hd st1 ho
     .exact AH.mpr (.inl (al j (by lia)))
   .rintro σ H' ⟨s1,h1,⟨os,h3,nd,lto,od,al⟩,v2,rfl⟩
    rw[hrl.1]at al
    exact⟨_,rfl,k t H' os nt s1 h3 nd lto od al⟩
theorem qjk (T:Txt K mg a):FnOk P w K mg base CX0 1 a.lY a.mE ["sign"] spLow:=by
 refine T.bN.fn.ok qjg (λvs H Q E h=>?_) (λcdv A outer s H vs Q E hr h=>?_)
 .obtain⟨_,rfl,_⟩:=h
  all_goals rfl
 .obtain⟨c,rfl,k⟩:=h
  refine⟨_,(qu (zc (qm5 qf9 qf9 zp (pv 0) zp))),?_⟩
  refine⟨_,rfl,_,_,rfl,rfl,_,rfl,?_⟩
  have k':Q (.bl (low c)) H:=k
  unfold low at k'
  show if (!decide ((⟨#[c]⟩:Str).cps.toList<(Ab "a").cps.toList))=true then _ else _
  rw[le_a]
  by_cases h1:97<=c
  .rw[decide_eq_true h1,Dp]at k'
   rw[decide_eq_true h1]
   refine qet ⟨_,_,rfl,rfl,?_⟩
   show Q (.bl (!decide ((Ab "z").cps.toList<(⟨#[c]⟩:Str).cps.toList))) H
   rw[le_z];exact k'
  .rw[decide_eq_false h1,C4]at k'
   rw[decide_eq_false h1]
   exact qa1 k'
theorem qwa (T:Txt K mg a):FnOk P w K mg base CX0 2 a.fO a.hZ ["thing"] spNmG:=by
 refine T.gS.fn.ok qvb (λvs H Q E h=>?_) (λcdv A outer s H vs Q E hr h=>?_)
 .obtain⟨_,rfl,_⟩:=h
  all_goals rfl
 .obtain⟨x,rfl,hx,k⟩:=h
  refine⟨_,(qk (zk (qbm (zo (zn qcn (by rfl) T.kM qak (qh (pv 0) (qh (qc5 (v:=.ty "str") rfl T.kR qdi rfl) qm qj) qj)))) (qu (zc qc0)) qab)
   (qk (zk (qbm (qju qlg qlg qp (zn qbi (by rfl) T.kI qba (qh (pv 0) qm qj)) (qep (v:=.int 8) rfl T.pT.choose_spec ⟨_,rfl⟩))) (qu (zc qc0)) qab)
   (qu (zc (zn (qig rfl) (by rfl) T.dL qkj (qh (qeq (N:=["sign"]) (js:=[none]) (XN:=["thing"]) (xs:=qaa qjq) rfl rfl rfl Ek (qqg (pv 0)) (λ_ _ _ _ _ _=>(qai (i:=0) (show Cd (["sign"]:List Str) from by decide +kernel) rfl (A4 rfl) (CQ rfl))) (λ_ _ _ _ _ _=>qcj) (λ_ _ _ _ _ _=>(zm (qjk T) (hr.mono En) rfl T.bN.mgx T.bN.fn.kp T.bN.bd .nil qan (qh (pv 0) qm qj)))) qm qhf)))))),?_⟩
  have hz:x.length<=A0:=fits (A3 hx En)
  refine⟨_,rfl,_,_,_,_,rfl,.str _,qer,_,rfl,qa1 ?_⟩
  refine⟨_,rfl,_,_,rfl,⟨hz,rfl⟩,_,_,rfl,rfl,_,rfl,?_⟩
  have k0:=k H (Same.refl H)
  unfold nmB at k0
  refine qb1 (λc=>?_) (λc=>?_)
  .have c':1<=(x.cps.size:Int):=of_decide_eq_true c
   refine⟨_,_,rfl,rfl,_,rfl,?_⟩
   refine qb1 (λd=>?_) (λd=>?_)
   .have d1:decide ((x.cps.size:Int)<=8)=false:=by
     cases q:decide ((x.cps.size:Int)<=8) with
     |false=>rfl
     |true =>
      have d2:(!decide ((x.cps.size:Int)<=8))=true:=d
      rw[q]at d2;cases d2
    have d':=of_decide_eq_false d1
    rw[decide_eq_false (show ¬x.cps.size<=8 by lia),CZ,C4]at k0
    exact k0
   .have d1:decide ((x.cps.size:Int)<=8)=true:=by
     cases q:decide ((x.cps.size:Int)<=8) with
     |true=>rfl
     |false =>
      have d2:¬(!decide ((x.cps.size:Int)<=8))=true:=d
      rw[q]at d2;exact absurd rfl d2
    have d':=of_decide_eq_true d1
    refine⟨_,rfl,_,rfl,?_⟩
    refine qbq (λv=>match v with | .str y=>.bl (low (y.cps.getD 0 0))|_=>.non) (λσ'=>∃v,σ'=[v]) qj2 ?_ ?_ (λv σ' H' R hv sm s1 q=>?_) qck λp hp=>?_
    .rw[Ac,A6];exact hz
    .exact⟨none,rfl⟩
    .obtain⟨c,hc,rfl⟩:=AW.mp hv
     obtain⟨v0,rfl⟩:=s1
     exact⟨_,rfl,c,rfl,q _ ⟨_,rfl⟩⟩
    refine⟨p,x.cps.toList.map low,rfl,SqL.of (by rw[qz,Bi,Bi];rfl),?_⟩
    have k1:=k _ (zi (o:=.lst ((x.cps.toList.map λc=>V.str ⟨#[c]⟩).map λv=>match v with | .str y=>.bl (low (y.cps.getD 0 0))|_=>.non)) hp)
    unfold nmB at k1
    rw[decide_eq_true (show 1<=x.cps.size by lia),decide_eq_true (show x.cps.size<=8 by lia),Dp,Dp]at k1
    show Q (.bl ((x.cps.toList.map low).all λb=>b)) _
    rw[CK]
    exact k1
  .have c':¬1<=(x.cps.size:Int):=λz=>c (decide_eq_true z)
   rw[decide_eq_false (show ¬1<=x.cps.size by lia),C4,C4]at k0
   exact⟨_,rfl,qet k0⟩
theorem qpx (T:Txt K mg a):FnOk P w K mg base (CX1 P w) 5 a.fE a.pE ["self", "rules"] (spBIG a):=by
 refine okX T.nJ.fn qkl (λvs H Q E h=>?_) (λcdv A outer s H vs Q E hr h=>?_)
 .obtain⟨_,_,_,_,_,rfl,_⟩:=h
  all_goals rfl
 .obtain⟨x,dx,pr,rs,As,rfl,hx,hp,ln,nn,l6,bok,ru,k,kx⟩:=h
  refine⟨_,(qk (qda (pv 0) (qeh (qk0 T) (hr.mono En) rfl T.bO.mgx T.bO.fn.kp T.bO.bd .nil (Takes.at qa5) (qh (pv 1) qm qj)) rfl)
   (qk (qda (pv 0) qjy rfl)
   (qu (qbv Bw.leaving rfl (qbc (pv 1)) (qai (i:=2) qkl.nd rfl (A4 rfl)) (qu (qmg (qe2 hr) (qaj (pv 0) rfl) (qaj (pv 2) rfl) (pv 2) rfl)))))),?_⟩
  have wr:=wr_of nn l6
  have sm:=l6
  have hrl:=rus_of ln bok ru
  refine⟨_,rfl,_,_,_,_,rfl,hp,hrl,wr,λpo H1 os no s1 e1 nd lto od al=>?_,kx⟩
  have x1:=s1 _ _ hx
  refine⟨_,rfl,_,_,_,_,rfl,x1,T.kO,zd T.kT En,En,?_⟩
  rw[put1]
  have npo:po≠x:=λz=>by rw[z,hx]at no;cases no
  have b2:SameBut x H (upd H1 x (.ins a.kH dx [(Ab "order",.ref po)])):=(SameBut.of s1).set
  have x2:=qz (H:=H1) (a:=x) (o:=.ins a.kH dx [(Ab "order",.ref po)])
  have o2:=(ze (o:=.ins a.kH dx [(Ab "order",.ref po)]) npo).trans e1
  generalize upd H1 x _=H2 at b2 x2 o2 |-
  refine λd hd=>?_
  obtain⟨s3,d3⟩:=alc (o:=.dK []) hd
  have x3:=s3 _ _ x2
  have ndx:d≠x:=λz=>by rw[z,x2]at hd;cases hd
  have ndo:po≠d:=λz=>by rw[<- z,o2]at hd;cases hd
  have ndH:=b2.free ndx hd
  refine⟨_,rfl,_,_,_,_,rfl,x3,T.kO,zd T.kT En,(show 1<1000 by decide),?_⟩
  rw[put2 _ _ Ek]
  have b4:SameBut x H (upd (upd H2 d (.dK [])) x (.ins a.kH dx (bfs po d))):=(b2.trans (SameBut.of s3)).set
  have x4:=qz (H:=upd H2 d (.dK [])) (a:=x) (o:=.ins a.kH dx (bfs po d))
  have o4:=(ze (o:=.ins a.kH dx (bfs po d)) npo).trans (s3 _ _ o2)
  have d4:=(ze (o:=.ins a.kH dx (bfs po d)) ndx).trans d3
  generalize upd (upd H2 d (.dK [])) x _=H4 at b4 x4 o4 d4 |-
  have npx:pr≠x:=λz=>by rw[z,hx]at hp;cases hp
  have rule:∀{H':Hp}{i:Nat}{y:V},SameBut x H H'->(As.map λA=>V.ref A.p)[i]?=some y->∃r A,rs[i]?=some r/\As[i]?=some A/\y=.ref A.p/\∃v,H' A.p=some (.ins a.k8 A.dx (rlR A r v)):=λ{H' i y} b e=>by
   rw[Ai]at e
   cases eA:As[i]? with
   |none=>rw[eA]at e;cases e
   |some A =>
    rw[eA]at e
    cases e
    have lj:=(Ag.mp eA).1
    rw[ln]at lj
    obtain⟨v,us,h⟩:=ru _ _ A (Ak lj) eA
    refine⟨_,A,Ak lj,rfl,rfl,v,b _ _ (λz=>?_) h.hx⟩
    have h1:=h.hx
    rw[z,hx]at h1
    injection h1 with h1
    injection h1 with _ _ h5
    cases h5
  refine⟨_,rfl,_,rfl,⟨_,SqL.of (b4 _ _ npx hp)⟩,qcl (K:=K) (a:=pr) (xs:=As.map λA=>.ref A.p) (λi σ H'=>SameBut x H H'/\H' x=some (.ins a.kH dx (bfs po d))/\H' po=some (.lst ((os.map (nm (rs.map RR.name))).map V.str))/\H' d=some (.dK (dcR (rs.take i) (As.take i)))/\∃v2:Option V,σ=[some (.ref x),some (.ref pr),v2])
   ⟨b4,x4,o4,(by rw[DY,DY];exact d4),none,rfl⟩ (λi σ H' _ h=>SqL.of (h.1 _ _ npx hp)) ?_ ?_⟩
  .rintro i y σ H' hy ⟨b5,x5,o5,d5,v2,rfl⟩
   obtain⟨r,A,hr',hA,rfl,v,r1⟩:=rule b5 hy
   have hi:i<rs.length:=(Ag.mp hr').1
   have lt:(As.take i).length=(rs.take i).length:=by rw[A2,A2,ln]
   have ep:qe7 (dcR (rs.take i) (As.take i)) (.inr r.name) (.ref A.p)=dcR (rs.take (i+1)) (As.take (i+1)):=by
    rw[qbf hr',qbf hA,qkq r A lt]
    refine qjw _ ?_
    rw[qfb _ lt,qdt.mpr]
    .rfl
    .intro z
     rw[Cp]at z
     have nd2:=nn
     rw[<- BD i (rs.map RR.name),AQ]at nd2
     refine nd2.2.2 _ z r.name ?_ rfl
     rw[<- DI,BJ hi,AA]
     rw[Ak hi]at hr'
     cases hr'
     exact Am
   refine⟨_,rfl,_,rfl,_,_,_,_,_,rfl,x5,T.kO,zd T.kT En,rfl,_,rfl,_,_,_,_,_,rfl,r1,T.k9,zd T.kA En,rfl,d,_,rfl,DPut.k (k:=.inr r.name) d5 (by rw[Bg,qhv lt,A2];lia),?_⟩
   rw[ep]
   exact⟨λb o n e=>by rw[ze (qad e ndH)];exact b5 b o n e,(ze ndx.symm).trans x5,(ze ndo).trans o5,qz,_,rfl⟩
  .rintro σ H' ⟨b5,x5,o5,d5,v2,rfl⟩
   rw[Ac,ln,Bx,Cc (BS ln)]at d5
   rw[Ac]at lto
   exact k H' os b5 ⟨dx,po,d,x5,o5,d5⟩ ⟨nd,lto,od,by rw[Ac]at al;exact al⟩
theorem qs1 (T:Txt K mg a):FnOk P w K mg base CX0 1 a.mQ a.lN ["text"] spLnG:=by
 refine T.dD.fn.ok qse (λvs H Q E h=>?_) (λcdv A outer s H vs Q E hr h=>?_)
 .obtain⟨_,rfl,_⟩:=h
  all_goals rfl
 .obtain⟨ls,rfl,hl,k⟩:=h
  refine⟨_,(qu (zc (qdg (qxf (pv 0)) (qde Dk PySem.F.slot_str_split PySem.F.type_str_split qnp (pv 0) (qh zp qm zb)) (zq qm)))),?_⟩
  have ll:(qfk ls).length<=20100:=qvr hl
  refine⟨_,rfl,_,rfl,fits (by lia),?_⟩
  by_cases c:ls=[]
  .subst c
   refine iteF' Ek ⟨qe3,λq hq=>?_⟩
   exact k q _ hq (zi hq) qz
  .have es:Cn (qfk ls) (wS "\n")=ls:=by rw[newl];exact qj6 10 c λp hp=>(hl.c p hp).2
   have eb:=qi2 (qfk ls) 10
   rw[<- newl]at eb
   have hn:=hl.n
   refine iteT' (decide_eq_true (qx6 hl c)) ⟨_,rfl,rfl,_,_,rfl,rfl,rfl,fits (by lia),fits (by rw[es];lia),fits (A3 eb (by lia)),λp hp=>?_⟩
   rw[es]
   exact k p _ hp (zi hp) qz
theorem qs2 (T:Txt K mg a):FnOk P w K mg base CX0 4 a.nP a.nG ["word", "asked"] spValG:=by
 refine T.bG.fn.ok qsf (λvs H Q E h=>?_) (λcdv A outer s H vs Q E hr h=>?_)
 .obtain⟨_,_,rfl,_⟩:=h
  all_goals rfl
 .obtain⟨w1,q,rfl,ok,hw,k⟩:=h
  refine⟨_,(qk (zk (zo (zn qcn (by rfl) T.kM qak (qh (pv 1) (qh (qc5 (v:=.ty "int") rfl T.bW qhp rfl) qm qj) qj))) (qu (zc (zm (qv9 T) (hr.mono En) rfl T.gQ.mgx T.gQ.fn.kp T.gQ.bd .nil qan (qh (pv 0) (qh (pv 1) qm qj) qj)))) qab)
   (qk (zk (zf qaz (pv 1) zp (qaf _)) (qu (zc (qdg (zo (zm (qwa T) (hr.mono En) rfl T.gS.mgx T.gS.fn.kp T.gS.bd .nil qan (qh (pv 0) qm qj))) (pv 0) qay))) qab)
   (qk (zk (zf qaz (pv 1) zp (qaf _)) (qu (zc (qdg (zf qcc (pv 0) (qep (v:=.ref a.dW) rfl T.rU rfl) (by with_unfolding_all rfl)) (pv 0) qay))) qab)
   (qu (zc (qdg (zf qaz (pv 0) (pv 1) (qaf _)) (pv 0) qay)))))),?_⟩
  cases q with
  |num m =>
   obtain⟨m1,m2⟩:=ok
   unfold qc4 at k
   dsimp only at k
   refine⟨_,rfl,_,_,_,_,rfl,.int _,qix,_,rfl,qet ⟨_,rfl,_,rfl,_,_,rfl,A3 hw En,m1,m2,λe H1 s1=>?_,λe H1 s1=>?_⟩⟩
   .have:=k H1 s1
    rw[if_pos e]at this
    exact this
   .have:=k H1 s1
    rw[if_neg (by rw[e];decide)]at this
    exact this
  |name =>
   unfold qc4 at k
   dsimp only at k
   refine⟨_,rfl,_,_,_,_,rfl,.str _,qfr,_,rfl,qa1 ⟨_,rfl,rfl,_,rfl,qez rfl ?_⟩⟩
   refine⟨_,rfl,_,rfl,hw,λH1 s1=>⟨_,rfl,?_⟩⟩
   have:=k H1 s1
   refine qb1 (λc=>?_) (λc=>?_)
   .rw[if_pos c]at this
    exact⟨_,rfl,this⟩
   .rw[if_neg c]at this
    exact this
  |unit =>
   unfold qc4 at k
   dsimp only at k
   refine⟨_,rfl,_,_,_,_,rfl,.str _,qfr,_,rfl,qa1 ⟨_,rfl,rfl,_,rfl,qat Ek ⟨_,rfl,rfl,_,rfl,qez rfl ⟨_,rfl,_,_,rfl,.inr (T.rQ H),rfl,rfl,_,rfl,?_⟩⟩⟩⟩
   show if inV (.str w1) (qby.map V.str)=true then _ else _
   rw[qb9]
   have:=k H (Same.refl H)
   refine qb1 (λc=>?_) (λc=>?_)
   .rw[if_pos c]at this
    exact⟨_,rfl,this⟩
   .rw[if_neg c]at this
    exact this
  |lit c =>
   obtain⟨h1,h2⟩:=ok
   unfold qc4 at k
   dsimp only at k
   refine⟨_,rfl,_,_,_,_,rfl,.str _,qfr,_,rfl,qa1 ⟨_,rfl,rfl,_,rfl,qat (λz=>h1 (V.str.inj z)) ⟨_,rfl,rfl,_,rfl,qat (λz=>h2 (V.str.inj z)) ?_⟩⟩⟩
   have:=k H (Same.refl H)
   refine⟨_,rfl,_,rfl,rfl,_,rfl,qb1 (λc1=>?_) (λc1=>?_)⟩
   .rw[if_pos (V.str.inj (of_decide_eq_true c1))]at this
    exact⟨_,rfl,this⟩
   .rw[if_neg (λz=>c1 (decide_eq_true (by rw[z];rfl)))]at this
    exact this
theorem qyl (T:Txt K mg a):FnOk P w K mg base CX0 5 a.lE a.nR ["line"] spRowG:=by
 refine T.bP.fn.ok qjr (λvs H Q E h=>?_) (λcdv A outer s H vs Q E hr h=>?_)
 .obtain⟨_,rfl,_⟩:=h
  all_goals rfl
 .obtain⟨l,rfl,hl,k,kn⟩:=h
  refine⟨_,(qk (zg (i:=1) qjr.nd rfl (A4 rfl) (qde Dk PySem.F.slot_str_split PySem.F.type_str_split qnp (pv 0) (qh zp qm zb)))
   (qk (qbv Bl rfl (qy7 (qep (v:=.ref a.bF) rfl T.rL rfl)) (qai (i:=2) qjr.nd rfl (A4 rfl)) (qu (zk (zf qaz (zn qbi (by rfl) T.kI qba (qh (pv 1) qm qj)) (zn qbi (by rfl) T.kI qba (qh (pv 2) qm qj)) (qaf _)) (qk (qdb (i:=3) qjr.nd rfl rfl (N:=["word", "asked"]) (js:=[none,none]) (XN:=["line", "words", "form", "row"]) (xs:=qaa qmp) rfl rfl rfl Ek (pi_zip rfl T.rF (qh (pv 1) (qh (pv 2) qm qj) qj)) (λ_ _ _ _ _ _=>(qw7 (K:=K) rfl (n:=2) rfl (qdh (qai (i:=0) (show Cd (["word", "asked"]:List Str) from by decide +kernel) rfl (A4 rfl) (CQ rfl)) (qdh (qai (i:=1) (show Cd (["word", "asked"]:List Str) from by decide +kernel) rfl (A4 rfl) (CQ rfl)) qjm)))) (λ_ _ _ _ _ _=>qcj) (λ_ _ _ _ _ _=>(zm (qs2 T) (hr.mono En) rfl T.bG.mgx T.bG.fn.kp T.bG.bd .nil qan (qh (pv 0) (qh (pv 1) qm qj) qj))))
   (qu (zk (zf qe6 qay (pv 3) (by with_unfolding_all rfl)) (qu (zc (pv 3))) qab))) qab)))
   (qu (zc qay)))),?_⟩
  obtain⟨sl1,sl2⟩:=qru l 32
  rw[<- qvg]at sl1 sl2
  have eb:=qi2 l 32
  rw[<- qvg]at eb
  refine⟨_,rfl,rfl,_,_,rfl,rfl,rfl,fits (A3 hl En),fits (A3 sl1 (by lia)),fits (A3 eb (by lia)),λp hp=>?_⟩
  generalize Cn l (wS " ")=ws at sl1 sl2 k kn hp |-
  obtain⟨s1,e1⟩:=alc (o:=.lst (ws.map V.str)) hp
  generalize upd H p _=H1 at s1 e1 |-
  have ft:∀(i:Nat)(v:V),[.ref a.gW,.ref a.bU,.ref a.gP,.ref a.gU,.ref a.bX,.ref a.bC,.ref a.bA][i]?=some v->∃(f:List Ask)(t:Addr),qkp[i]?=some f/\v=.ref t/\∀H,SqT K H t (f.map askV):=λi v e=>by
   have hi:i<7:=(Ag.mp e).1
   rcases (by lia:i=0\/i=1\/i=2\/i=3\/i=4\/i=5\/i=6) with rfl|rfl|rfl|rfl|rfl|rfl|rfl
   .cases e;exact⟨_,_,rfl,rfl,λH=>T.pQ H⟩
   .cases e;exact⟨_,_,rfl,rfl,λH=>T.rN H⟩
   .cases e;exact⟨_,_,rfl,rfl,λH=>T.sI H⟩
   .cases e;exact⟨_,_,rfl,rfl,λH=>T.pS H⟩
   .cases e;exact⟨_,_,rfl,rfl,λH=>T.sQ H⟩
   .cases e;exact⟨_,_,rfl,rfl,λH=>T.pU H⟩
   .cases e;exact⟨_,_,rfl,rfl,λH=>T.pR H⟩
  refine⟨_,rfl,⟨_,T.lR _⟩,qwe (K:=K) (a:=a.bF) (xs:=[.ref a.gW,.ref a.bU,.ref a.gP,.ref a.gU,.ref a.bX,.ref a.bC,.ref a.bA]) (λi σ H'=>Same H1 H'/\(∀j f,j<i->qkp[j]?=some f->qb2 ws f=none)/\∃v2 v3:Option V,σ=[some (.str l),some (.ref p),v2,v3]) ⟨Same.refl H1,λj f hj=>absurd hj (DL _),none,none,rfl⟩ (λi σ H' _ h=>T.lR _) ?_ ?_⟩
  .rintro i v σ H' hv ⟨sH,al,v2,v3,rfl⟩
   obtain⟨f,t,hf,rfl,ht⟩:=ft i v hv
   have e2:=sH _ _ e1
   have next:qb2 ws f=none->∀j g,j<i+1->qkp[j]?=some g->qb2 ws g=none:=λe j g hj hg=>by
    by_cases c:j=i
    .rw[c,hf]at hg;cases hg;exact e
    .exact al j g (by lia) hg
   refine⟨_,rfl,_,_,rfl,.inl ⟨_,SqL.of e2,rfl⟩,_,rfl,_,_,rfl,.inr ⟨_,ht _,rfl⟩,rfl,_,rfl,?_⟩
   rw[Ac,Ac]
   by_cases cl:ws.length=f.length
   .refine qez (by rw[cl]) ?_
    refine⟨_,rfl,_,rfl,_,_,_,_,rfl,e2,ht _,qux (zsG ws f) (λσ'=>∃v v',σ'=[v,v']) (SqL.of e2) (ht _) (by rw[Ac,Ac,cl]) (by rw[qx1 cl,Ac]) (fits (by rw[Ac];lia)) ⟨none,none,rfl⟩ (λj y av z t' σ' J RR h1 h2 h3 sm ht' s4 qq=>?_) (gk_tup λxs σ' H' RR RR' hh z=>?_) λq H2 nq s2 eq2=>?_⟩
    .obtain⟨v,v',rfl⟩:=s4
     rw[Ai]at h1 h2
     cases ew:ws[j]? with
     |none=>rw[ew]at h1;cases h1
     |some w1 =>
      cases ef:f[j]? with
      |none=>rw[ef]at h2;cases h2
      |some qa =>
       rw[ew]at h1
       rw[ef]at h2
       cases h1
       cases h2
       have hz:z=(qc4 w1 qa).getD .non:=by
        unfold zsG at h3
        rw[Ai,show (ws.zip f)[j]?=some (w1,qa) from List.getElem?_zip_eq_some.mpr ⟨ew,ef⟩]at h3
        exact(A7 h3).symm
       subst hz
       exact⟨_,_,rfl,SqT.of ht',rfl,_,_,rfl,_,_,rfl,rfl,_,rfl,_,rfl,w1,qa,rfl,qvj f (Ay hf) qa (Ay ef),A3 (sl2 _ (Ay ew)) (by lia),λJ2 s2=>qq _ _ ⟨_,_,rfl⟩ s2⟩
    .obtain⟨x1,y1,e1,x2,y2,e2,z⟩:=z
     exact⟨x1,y1,e1,x2,y2,e2,⟨z.1,hh _ _ z.2⟩⟩
    .refine⟨_,rfl,_,_,rfl,.inl (SqL.of eq2),rfl,qvi ws f,_,rfl,?_⟩
     have ev:=qqv cl
     show if (!inV .non (zsG ws f))=true then _ else _
     cases ec:inV .non (zsG ws f) with
     |true =>
      rw[ec]at ev
      exact qa1 ⟨sH.trans s2,next ev,_,_,rfl⟩
     |false =>
      rw[ec]at ev
      have er:qht ws=some (zsG ws f):=by
       unfold qht
       exact qqw hf ev al
      exact qet ⟨_,rfl,k q H2 _ ((s1.trans sH).free nq) ((s1.trans sH).trans s2) er eq2⟩
   .exact qat (λz=>cl (Int.ofNat.inj (V.int.inj z))) ⟨sH,next (qap cl),_,_,rfl⟩
  .rintro σ H' ⟨sH,al,v2,v3,rfl⟩
   have er:qht ws=none:=by
    unfold qht
    rw[List.findSome?_eq_none_iff]
    intro f hf
    obtain⟨j,hj⟩:=Ba hf
    exact al j f (by have:=(Ag.mp hj).1;exact this) hj
   exact kn er H' (s1.trans sH)
theorem qpy (T:Txt K mg a):FnOk P w K mg base CX0 1 a.dS a.dF ["self", "name", "who", "owes", "opens", "base", "many", "unit", "still"] (spRlG a):=by
 refine T.pX.fn.ok qpf (λvs H Q E h=>?_) (λcdv A outer s H vs Q E hr h=>?_)
 .obtain⟨_,_,_,_,_,_,_,_,_,_,rfl,_⟩:=h
  all_goals rfl
 .obtain⟨x,dx,vn,vw,vo,vp,vb,vm,vu,vs',rfl,hx,k⟩:=h
  refine⟨_,(qk (qda (pv 0) (pv 1) rfl)
   (qk (qda (pv 0) (pv 2) rfl)
   (qk (qda (pv 0) (pv 3) rfl)
   (qk (qda (pv 0) (pv 4) rfl)
   (qk (qda (pv 0) (pv 5) rfl)
   (qk (qda (pv 0) (pv 6) rfl)
   (qk (qda (pv 0) (pv 7) rfl)
   (qk (qda (pv 0) (pv 8) rfl)
   (qk (qda (pv 0) (zq qm) rfl)
   (qk (qda (pv 0) (zq qm) rfl)
   (qk (qda (pv 0) (zq qm) rfl)
   (qu (qda (pv 0) (zq qm) rfl))))))))))))),?_⟩
  have b0:SameBut x H H:=λ_ _ _ e=>e
  have x0:=hx
  refine⟨_,rfl,_,rfl,_,_,_,_,rfl,x0,T.k9,zd T.kA En,(show 0<1000 by decide),?_⟩
  rw[show qcm (Ab "name") vn []=(rq1 vn) by with_unfolding_all rfl]
  have b1:SameBut x H (upd H x (.ins a.k8 dx (rq1 vn))):=b0.set
  have x1:=qz (H:=H) (a:=x) (o:=.ins a.k8 dx (rq1 vn))
  generalize upd H x _=H1 at b1 x1 |-
  refine⟨_,rfl,_,rfl,_,_,_,_,rfl,x1,T.k9,zd T.kA En,(show 1<1000 by decide),?_⟩
  rw[show qcm (Ab "who") vw (rq1 vn)=(rq2 vn vw) by with_unfolding_all rfl]
  have b2:SameBut x H (upd H1 x (.ins a.k8 dx (rq2 vn vw))):=b1.set
  have x2:=qz (H:=H1) (a:=x) (o:=.ins a.k8 dx (rq2 vn vw))
  generalize upd H1 x _=H2 at b2 x2 |-
  refine⟨_,rfl,_,rfl,_,_,_,_,rfl,x2,T.k9,zd T.kA En,(show 2<1000 by decide),?_⟩
  rw[show qcm (Ab "owes") vo (rq2 vn vw)=(rq3 vn vw vo) by with_unfolding_all rfl]
  have b3:SameBut x H (upd H2 x (.ins a.k8 dx (rq3 vn vw vo))):=b2.set
  have x3:=qz (H:=H2) (a:=x) (o:=.ins a.k8 dx (rq3 vn vw vo))
  generalize upd H2 x _=H3 at b3 x3 |-
  refine⟨_,rfl,_,rfl,_,_,_,_,rfl,x3,T.k9,zd T.kA En,(show 3<1000 by decide),?_⟩
  rw[show qcm (Ab "opens") vp (rq3 vn vw vo)=(rq4 vn vw vo vp) by with_unfolding_all rfl]
  have b4:SameBut x H (upd H3 x (.ins a.k8 dx (rq4 vn vw vo vp))):=b3.set
  have x4:=qz (H:=H3) (a:=x) (o:=.ins a.k8 dx (rq4 vn vw vo vp))
  generalize upd H3 x _=H4 at b4 x4 |-
  refine⟨_,rfl,_,rfl,_,_,_,_,rfl,x4,T.k9,zd T.kA En,(show 4<1000 by decide),?_⟩
  rw[show qcm (Ab "base") vb (rq4 vn vw vo vp)=(rq5 vn vw vo vp vb) by with_unfolding_all rfl]
  have b5:SameBut x H (upd H4 x (.ins a.k8 dx (rq5 vn vw vo vp vb))):=b4.set
  have x5:=qz (H:=H4) (a:=x) (o:=.ins a.k8 dx (rq5 vn vw vo vp vb))
  generalize upd H4 x _=H5 at b5 x5 |-
  refine⟨_,rfl,_,rfl,_,_,_,_,rfl,x5,T.k9,zd T.kA En,(show 5<1000 by decide),?_⟩
  rw[show qcm (Ab "many") vm (rq5 vn vw vo vp vb)=(rq6 vn vw vo vp vb vm) by with_unfolding_all rfl]
  have b6:SameBut x H (upd H5 x (.ins a.k8 dx (rq6 vn vw vo vp vb vm))):=b5.set
  have x6:=qz (H:=H5) (a:=x) (o:=.ins a.k8 dx (rq6 vn vw vo vp vb vm))
  generalize upd H5 x _=H6 at b6 x6 |-
  refine⟨_,rfl,_,rfl,_,_,_,_,rfl,x6,T.k9,zd T.kA En,(show 6<1000 by decide),?_⟩
  rw[show qcm (Ab "unit") vu (rq6 vn vw vo vp vb vm)=(rq7 vn vw vo vp vb vm vu) by with_unfolding_all rfl]
  have b7:SameBut x H (upd H6 x (.ins a.k8 dx (rq7 vn vw vo vp vb vm vu))):=b6.set
  have x7:=qz (H:=H6) (a:=x) (o:=.ins a.k8 dx (rq7 vn vw vo vp vb vm vu))
  generalize upd H6 x _=H7 at b7 x7 |-
  refine⟨_,rfl,_,rfl,_,_,_,_,rfl,x7,T.k9,zd T.kA En,(show 7<1000 by decide),?_⟩
  rw[show qcm (Ab "still") vs' (rq7 vn vw vo vp vb vm vu)=(rq8 vn vw vo vp vb vm vu vs') by with_unfolding_all rfl]
  have b8:SameBut x H (upd H7 x (.ins a.k8 dx (rq8 vn vw vo vp vb vm vu vs'))):=b7.set
  have x8:=qz (H:=H7) (a:=x) (o:=.ins a.k8 dx (rq8 vn vw vo vp vb vm vu vs'))
  generalize upd H7 x _=H8 at b8 x8 |-
  refine⟨qe3,λpe npe=>?_⟩
  obtain⟨s8,epe⟩:=alc (o:=.lst []) npe
  have x8':=s8 _ _ x8
  have nepe:pe≠x:=λz=>by rw[z,x8]at npe;cases npe
  have fpe:H pe=none:=b8.free nepe npe
  have b8':=b8.trans (SameBut.of s8)
  generalize upd H8 pe _=J8 at s8 epe x8' b8'  |-
  refine⟨_,rfl,_,_,_,_,rfl,x8',T.k9,zd T.kA En,(show 8<1000 by decide),?_⟩
  rw[show qcm (Ab "ends") (.ref pe) (rq8 vn vw vo vp vb vm vu vs')=(rq9 vn vw vo vp vb vm vu vs' (.ref pe)) by with_unfolding_all rfl]
  have b9:SameBut x H (upd J8 x (.ins a.k8 dx (rq9 vn vw vo vp vb vm vu vs' (.ref pe)))):=b8'.set
  have x9:=qz (H:=J8) (a:=x) (o:=.ins a.k8 dx (rq9 vn vw vo vp vb vm vu vs' (.ref pe)))
  have epe:=(ze (o:=.ins a.k8 dx (rq9 vn vw vo vp vb vm vu vs' (.ref pe))) nepe).trans epe
  generalize upd J8 x _=H9 at b9 x9 epe  |-
  refine⟨qe3,λpa npa=>?_⟩
  obtain⟨s9,epa⟩:=alc (o:=.lst []) npa
  have x9':=s9 _ _ x9
  have nepa:pa≠x:=λz=>by rw[z,x9]at npa;cases npa
  have fpa:H pa=none:=b9.free nepa npa
  have dpepa:=qad epe npa
  have epe:=s9 _ _ epe
  have b9':=b9.trans (SameBut.of s9)
  generalize upd H9 pa _=J9 at s9 epa x9' b9' epe |-
  refine⟨_,rfl,_,_,_,_,rfl,x9',T.k9,zd T.kA En,(show 9<1000 by decide),?_⟩
  rw[show qcm (Ab "anew") (.ref pa) (rq9 vn vw vo vp vb vm vu vs' (.ref pe))=(qpk vn vw vo vp vb vm vu vs' (.ref pe) (.ref pa)) by with_unfolding_all rfl]
  have b10:SameBut x H (upd J9 x (.ins a.k8 dx (qpk vn vw vo vp vb vm vu vs' (.ref pe) (.ref pa)))):=b9'.set
  have x10:=qz (H:=J9) (a:=x) (o:=.ins a.k8 dx (qpk vn vw vo vp vb vm vu vs' (.ref pe) (.ref pa)))
  have epa:=(ze (o:=.ins a.k8 dx (qpk vn vw vo vp vb vm vu vs' (.ref pe) (.ref pa))) nepa).trans epa
  have epe:=(ze (o:=.ins a.k8 dx (qpk vn vw vo vp vb vm vu vs' (.ref pe) (.ref pa))) nepe).trans epe
  generalize upd J9 x _=H10 at b10 x10 epa epe |-
  refine⟨qe3,λpl npl=>?_⟩
  obtain⟨s10,epl⟩:=alc (o:=.lst []) npl
  have x10':=s10 _ _ x10
  have nepl:pl≠x:=λz=>by rw[z,x10]at npl;cases npl
  have fpl:H pl=none:=b10.free nepl npl
  have dpepl:=qad epe npl
  have dpapl:=qad epa npl
  have epe:=s10 _ _ epe
  have epa:=s10 _ _ epa
  have b10':=b10.trans (SameBut.of s10)
  generalize upd H10 pl _=J10 at s10 epl x10' b10' epe epa |-
  refine⟨_,rfl,_,_,_,_,rfl,x10',T.k9,zd T.kA En,(show 10<1000 by decide),?_⟩
  rw[show qcm (Ab "longer") (.ref pl) (qpk vn vw vo vp vb vm vu vs' (.ref pe) (.ref pa))=(qn7 vn vw vo vp vb vm vu vs' (.ref pe) (.ref pa) (.ref pl)) by with_unfolding_all rfl]
  have b11:SameBut x H (upd J10 x (.ins a.k8 dx (qn7 vn vw vo vp vb vm vu vs' (.ref pe) (.ref pa) (.ref pl)))):=b10'.set
  have x11:=qz (H:=J10) (a:=x) (o:=.ins a.k8 dx (qn7 vn vw vo vp vb vm vu vs' (.ref pe) (.ref pa) (.ref pl)))
  have epl:=(ze (o:=.ins a.k8 dx (qn7 vn vw vo vp vb vm vu vs' (.ref pe) (.ref pa) (.ref pl))) nepl).trans epl
  have epe:=(ze (o:=.ins a.k8 dx (qn7 vn vw vo vp vb vm vu vs' (.ref pe) (.ref pa) (.ref pl))) nepe).trans epe
  have epa:=(ze (o:=.ins a.k8 dx (qn7 vn vw vo vp vb vm vu vs' (.ref pe) (.ref pa) (.ref pl))) nepa).trans epa
  generalize upd J10 x _=H11 at b11 x11 epl epe epa |-
  refine⟨qe3,λpy npy=>?_⟩
  obtain⟨s11,epy⟩:=alc (o:=.lst []) npy
  have x11':=s11 _ _ x11
  have nepy:py≠x:=λz=>by rw[z,x11]at npy;cases npy
  have fpy:H py=none:=b11.free nepy npy
  have dpepy:=qad epe npy
  have dpapy:=qad epa npy
  have dplpy:=qad epl npy
  have epe:=s11 _ _ epe
  have epa:=s11 _ _ epa
  have epl:=s11 _ _ epl
  have b11':=b11.trans (SameBut.of s11)
  generalize upd H11 py _=J11 at s11 epy x11' b11' epe epa epl |-
  refine⟨_,rfl,_,_,_,_,rfl,x11',T.k9,zd T.kA En,(show 11<1000 by decide),?_⟩
  rw[show qcm (Ab "yields") (.ref py) (qn7 vn vw vo vp vb vm vu vs' (.ref pe) (.ref pa) (.ref pl))=(qpl vn vw vo vp vb vm vu vs' (.ref pe) (.ref pa) (.ref pl) (.ref py)) by with_unfolding_all rfl]
  have b12:SameBut x H (upd J11 x (.ins a.k8 dx (qpl vn vw vo vp vb vm vu vs' (.ref pe) (.ref pa) (.ref pl) (.ref py)))):=b11'.set
  have x12:=qz (H:=J11) (a:=x) (o:=.ins a.k8 dx (qpl vn vw vo vp vb vm vu vs' (.ref pe) (.ref pa) (.ref pl) (.ref py)))
  have epy:=(ze (o:=.ins a.k8 dx (qpl vn vw vo vp vb vm vu vs' (.ref pe) (.ref pa) (.ref pl) (.ref py))) nepy).trans epy
  have epe:=(ze (o:=.ins a.k8 dx (qpl vn vw vo vp vb vm vu vs' (.ref pe) (.ref pa) (.ref pl) (.ref py))) nepe).trans epe
  have epa:=(ze (o:=.ins a.k8 dx (qpl vn vw vo vp vb vm vu vs' (.ref pe) (.ref pa) (.ref pl) (.ref py))) nepa).trans epa
  have epl:=(ze (o:=.ins a.k8 dx (qpl vn vw vo vp vb vm vu vs' (.ref pe) (.ref pa) (.ref pl) (.ref py))) nepl).trans epl
  generalize upd J11 x _=H12 at b12 x12 epy epe epa epl |-
  refine k H12 pe pa pl py b12 fpe fpa fpl fpy x12 epe epa epl epy ?_
  simp only[AX,Ap,Av,or_false,not_or]
  exact⟨⟨nepe.symm,nepa.symm,nepl.symm,nepy.symm⟩,⟨dpepa,dpepl,dpepy⟩,⟨dpapl,dpapy⟩,dplpy,not_false,.nil⟩
theorem qom (T:Txt K mg a):FnOk P w K mg base CX0 1 a.dP a.fG ["self", "name"] (qx0 K "name"):=by
 refine T.dM.fn.ok qn4 (λvs H Q E h=>?_) (λcdv A outer s H vs Q E hr h=>?_)
 .obtain⟨_,_,_,_,rfl,_⟩:=h
  all_goals rfl
 .obtain⟨x,C,y,ini,rfl,hx,xa,no,k⟩:=h
  refine⟨_,(qk (zj (qft T.gO rfl T.gJ (qh (pv 0) (qh (pv 1) qm qj) qj)))
   (qu (qhg (pv 0) (pv 1) rfl))),?_⟩
  refine⟨_,rfl,_,rfl,x,C,none,[y],ini,rfl,hx,xa.xc,fits (show 1<=100000 by decide),?_⟩
  refine⟨_,rfl,_,rfl,x,C,true,rfl,xa.set no,.inl ⟨hx,λdx hd=>?_⟩⟩
  have ne:dx≠x:=λz=>by rw[z,hx]at hd;cases hd
  exact k dx _ hd (λb o hb e=>by rw[ze hb,ze (qad e hd)];exact e) qz (by rw[ze ne];exact qz)
theorem qf6 (T:Txt K mg a):FnOk P w K mg base CX0 1 a.dZ a.pJ ["self", "at"] (qx0 K "at"):=by
 refine T.kY.fn.ok qn5 (λvs H Q E h=>?_) (λcdv A outer s H vs Q E hr h=>?_)
 .obtain⟨_,_,_,_,rfl,_⟩:=h
  all_goals rfl
 .obtain⟨x,C,y,ini,rfl,hx,xa,no,k⟩:=h
  refine⟨_,(qk (zj (qft T.gO rfl T.gJ (qh (pv 0) (qh (pv 1) qm qj) qj)))
   (qu (qhg (pv 0) (pv 1) rfl))),?_⟩
  refine⟨_,rfl,_,rfl,x,C,none,[y],ini,rfl,hx,xa.xc,fits (show 1<=100000 by decide),?_⟩
  refine⟨_,rfl,_,rfl,x,C,true,rfl,xa.set no,.inl ⟨hx,λdx hd=>?_⟩⟩
  have ne:dx≠x:=λz=>by rw[z,hx]at hd;cases hd
  exact k dx _ hd (λb o hb e=>by rw[ze hb,ze (qad e hd)];exact e) qz (by rw[ze ne];exact qz)
theorem qpz (T:Txt K mg a):FnOk P w K mg base (CX1 P w) 3 a.fV a.mZ ["told", "at", "row"] (spTm a):=by
 refine okX T.dA.fn qek (λvs H Q E h=>?_) (λcdv A outer s H vs Q E hr h=>?_)
 .obtain⟨_,_,_,_,_,_,_,_,_,_,_,_,rfl,_⟩:=h
  all_goals rfl
 .obtain⟨d,p,i,rs,As,x,w1,o,dd,y,m,u,rfl,st,l6,hp,k,kx⟩:=h
  refine⟨_,(qk (zg (i:=3) qek.nd rfl (A4 rfl) (zy jb (pv 2) qp (λ_ _=>rfl)))
   (qk (zk (qjt (pc_din (qe2 hr) (pv 3) (pv 0))) (qu (qc2 rfl (Takes.at qa5) (qdu T.dX.xc T.dM.ty (qom T) (hr.mono En) rfl T.lH T.dX.kp T.dM.bd .nil qan (qh (pv 3) qm qj)))) qab)
   (qk (zg (i:=4) qek.nd rfl (A4 rfl) (qdg (zf qaz (zy jb (pv 2) qp (λ_ _=>rfl)) zp (qaf _)) (zy jb (pv 2) qp (λ_ _=>rfl)) qay))
   (qk (zg (i:=5) qek.nd rfl (A4 rfl) (qdg (zf qaz (zy jb (pv 2) qp (λ_ _=>rfl)) zp (qaf _)) (zy jb (pv 2) qp (λ_ _=>rfl)) qay))
   (qk (zg (i:=6) qek.nd rfl (A4 rfl) (qwi T.sE (qpy T) (hr.mono En) rfl T.mB T.r8 (dvs:=[.non]) (.cons rfl .nil) qan (qh (pv 3) (qh (zy jb (pv 2) qp (λ_ _=>rfl)) (qh (zy jb (pv 2) qp (λ_ _=>rfl)) (qh (pv 4) (qh (pv 5) (qh (zy jb (pv 2) qp (λ_ _=>rfl)) (qh (zy jb (pv 2) qp (λ_ _=>rfl)) qm zw) zw) qj) qj) zw) zw) qj)))
   (qk (zk (PW.pt (qd3 (zf qaz (zn qr5 (by rfl) T.kI qba (qh (pv 0) qm qj)) (qep (v:=.int 6) rfl T.rZ.choose_spec ⟨_,rfl⟩) (qaf _)) (qc9 (zf qaz (qaj (pv 6) rfl) (qaj (pv 6) rfl) (qaf _))))) (qu (qc2 rfl (Takes.at qa5) (qdu T.kN.xc T.kY.ty (qf6 T) (hr.mono En) rfl T.bI T.kN.kp T.kY.bd .nil qan (qh (pv 1) qm qj)))) qab)
   (qu (qmg (qe2 hr) (pv 0) (pv 3) (pv 6) rfl)))))))),?_⟩
  refine⟨_,rfl,_,_,_,_,rfl,rfl,SqL.of (hp),rfl,?_⟩
  cases pn:qam rs x with
  |some j =>
   obtain⟨r,A,_,_,_,_,g⟩:=st.get pn
   refine⟨_,rfl,_,rfl,d,_,rfl,g,_,rfl,qet ?_⟩
   exact⟨_,rfl,fits (show 1<=100000 by decide),λx1 n1=>⟨x1,a.kF,_,_,rfl,qz,T.dX,zd T.pP En,λd1 H9 hd1 kp o1 od1=>⟨rfl,x1,_,some d1,rfl,o1,⟨_,od1⟩,T.pZ,(kx _ (qoa (by rw[pn];rfl))) x1 d1 _ (qah (((Same.refl H)).trans (qa2 n1 kp)) (((Same.refl H)).free n1)) qz ((ze (λz=>by rw[z,qz]at hd1;cases hd1)).trans od1)⟩⟩⟩
  |none =>
   refine⟨_,rfl,_,rfl,d,_,rfl,st.non pn,_,rfl,qa1 ?_⟩
   cases dd with
   |false =>
    refine⟨_,rfl,_,_,_,_,rfl,rfl,SqL.of (hp),rfl,rfl,_,rfl,qez rfl ⟨_,rfl,_,_,_,_,rfl,rfl,SqL.of (hp),rfl,?_⟩⟩
    refine⟨_,rfl,_,_,_,_,rfl,rfl,SqL.of (hp),rfl,rfl,_,rfl,qat Ek ?_⟩
    refine⟨_,rfl,_,rfl,_,_,_,_,rfl,rfl,SqL.of (hp),rfl,_,rfl,_,_,_,_,rfl,rfl,SqL.of (hp),rfl,_,rfl,_,rfl,_,rfl,_,_,_,_,rfl,rfl,SqL.of (hp),rfl,_,rfl,_,_,_,_,rfl,rfl,SqL.of (hp),rfl,λxr dx nx nd ne=>?_⟩
    refine⟨xr,dx,_,_,_,_,_,_,_,_,rfl,qz,λH1 pe pa pl py b1 ne1 na1 nl1 ny1 hx1 he1 ha1 hl1 hy1 nd5=>⟨rfl,?_⟩⟩
    have keep:Same H (upd (upd H dx (.own xr)) xr (.ins a.k8 dx [])):=λb u e=>by rw[ze (qad e nx),ze (qad e nd)];exact e
    have s1:Same H H1:=b1.made nx nd
    have fe:=keep.free ne1
    have fa:=keep.free na1
    have fl:=keep.free nl1
    have fy:=keep.free ny1
    have hd1:=s1 _ _ st.hd
    have lk:=qhv st.ln
    dsimp only[]
    refine⟨_,rfl,d,_,rfl,hd1,rfl,_,rfl,qb1 (λc=>?_) (λc=>?_)⟩
    .have c:((dcR rs As).length:Int)=6:=V.int.inj (of_decide_eq_true c)
     exact⟨_,rfl,fits (show 1<=100000 by decide),λx1 n1=>⟨x1,a.kC,_,_,rfl,qz,T.kN,zd T.gB En,λd1 H9 hd1 kp o1 od1=>⟨rfl,x1,_,some d1,rfl,o1,⟨_,od1⟩,T.kZ,(kx _ (qhw (d:=false) pn (.inl (by lia)))) x1 d1 _ (qah ((s1).trans (qa2 n1 kp)) ((s1).free n1)) qz ((ze (λz=>by rw[z,qz]at hd1;cases hd1)).trans od1)⟩⟩⟩
    have c6:rs.length≠6:=λz=>c (decide_eq_true (by rw[lk,z];rfl))
    refine⟨_,rfl,_,_,_,_,_,rfl,hx1,T.k9,zd T.kA En,rfl,_,rfl,_,_,_,_,_,rfl,hx1,T.k9,zd T.kA En,rfl,rfl,_,rfl,qb1 (λc2=>?_) (λc2=>?_)⟩
    .have c2:o=y:=V.str.inj (of_decide_eq_true c2)
     exact⟨_,rfl,fits (show 1<=100000 by decide),λx1 n1=>⟨x1,a.kC,_,_,rfl,qz,T.kN,zd T.gB En,λd1 H9 hd1 kp o1 od1=>⟨rfl,x1,_,some d1,rfl,o1,⟨_,od1⟩,T.kZ,(kx _ (qhw (d:=false) pn (.inr ⟨rfl,c2⟩))) x1 d1 _ (qah ((s1).trans (qa2 n1 kp)) ((s1).free n1)) qz ((ze (λz=>by rw[z,qz]at hd1;cases hd1)).trans od1)⟩⟩⟩
    have c7:¬(rs.length=6\/(false=false/\o=y)):=λz=>z.elim c6 λz=>c2 (decide_eq_true (by rw[z.2]))
    refine⟨_,rfl,_,rfl,_,rfl,d,_,rfl,DPut.k (k:=.inr x) hd1 (by rw[Bg,lk];lia),?_⟩
    have ep:qe7 (dcR rs As) (.inr x) (.ref xr)=dcR rs As++[(.inr x,.ref xr)]:=qjw _ (by rw[qfb x st.ln,pn];rfl)
    rw[ep]
    have kd:KeepT [d] H1 (upd H1 d (.dK (dcR rs As++[(.inr x,.ref xr)]))):=KeepT.put (An.mpr rfl) hd1 (λ_ z=>nomatch z)
    have ho:∀z∈own ⟨xr,dx,pe,pa,pl,py⟩,H z=none:=λz hz=>by
     simp only[own,Ap,Av,or_false]at hz
     rcases hz with rfl|rfl|rfl|rfl|rfl
     .exact nx
     .exact fe
     .exact fa
     .exact fl
     .exact fy
    have hin:∀z∈d::As.flatMap own,H z≠none:=λz hz e=>by
     rcases Ap.mp hz with rfl|hz
     .rw[st.hd]at e;cases e
     .obtain⟨A',hA',hz'⟩:=BQ.mp hz
      obtain⟨jA,hjA⟩:=Ba hA'
      have lj:jA<rs.length:=by rw[<- st.ln];exact(Ag.mp hjA).1
      obtain⟨v',us',ry⟩:=st.ru jA _ A' (Ak lj) hjA
      simp only[own,Ap,Av,or_false]at hz'
      rcases hz' with rfl|rfl|rfl|rfl|rfl
      .rw[ry.hx]at e;cases e
      .rw[ry.he]at e;cases e
      .rw[ry.ha]at e;cases e
      .rw[ry.hl]at e;cases e
      .rw[ry.hy]at e;cases e
    have nz:∀z∈own ⟨xr,dx,pe,pa,pl,py⟩,z≠d:=λz hz e=>hin d Am (e ▸ ho z hz)
    have ux:RuX a.k8 H1 ⟨xr,dx,pe,pa,pl,py⟩ (qpn x w1 o false y m u):=⟨.non,[],hx1,rfl,he1,ha1,hl1,.nil,hy1⟩
    refine k _ (qf2 pn c7) _ (As++[⟨xr,dx,pe,pa,pl,py⟩]) ((KeepT.of s1).trans (kd.sub λz hz=>by rw[An.mp hz];exact Am)) (λz hz=>?_) ((st.same s1).snoc kd qz (ux.keep kd λz hz hz2=>nz z hz (An.mp hz2)) pn (show (own ⟨xr,dx,pe,pa,pl,py⟩).Nodup from nd5) λz hz=>⟨nz z hz,λhz2=>hin z (Aq _ hz2) (ho z hz)⟩)
    rw[Bu]at hz
    rcases AH.mp hz with q|q
    .exact .inl q
    .exact .inr (ho z (by simpa using q))
   |true =>
    refine⟨_,rfl,_,_,_,_,rfl,rfl,SqL.of (hp),rfl,rfl,_,rfl,qat Ek ?_⟩
    refine⟨_,rfl,_,_,_,_,rfl,rfl,SqL.of (hp),rfl,rfl,_,rfl,qez rfl ⟨_,rfl,_,_,_,_,rfl,rfl,SqL.of (hp),rfl,?_⟩⟩
    refine⟨_,rfl,_,rfl,_,_,_,_,rfl,rfl,SqL.of (hp),rfl,_,rfl,_,_,_,_,rfl,rfl,SqL.of (hp),rfl,_,rfl,_,rfl,_,rfl,_,_,_,_,rfl,rfl,SqL.of (hp),rfl,_,rfl,_,_,_,_,rfl,rfl,SqL.of (hp),rfl,λxr dx nx nd ne=>?_⟩
    refine⟨xr,dx,_,_,_,_,_,_,_,_,rfl,qz,λH1 pe pa pl py b1 ne1 na1 nl1 ny1 hx1 he1 ha1 hl1 hy1 nd5=>⟨rfl,?_⟩⟩
    have keep:Same H (upd (upd H dx (.own xr)) xr (.ins a.k8 dx [])):=λb u e=>by rw[ze (qad e nx),ze (qad e nd)];exact e
    have s1:Same H H1:=b1.made nx nd
    have fe:=keep.free ne1
    have fa:=keep.free na1
    have fl:=keep.free nl1
    have fy:=keep.free ny1
    have hd1:=s1 _ _ st.hd
    have lk:=qhv st.ln
    dsimp only[]
    refine⟨_,rfl,d,_,rfl,hd1,rfl,_,rfl,qb1 (λc=>?_) (λc=>?_)⟩
    .have c:((dcR rs As).length:Int)=6:=V.int.inj (of_decide_eq_true c)
     exact⟨_,rfl,fits (show 1<=100000 by decide),λx1 n1=>⟨x1,a.kC,_,_,rfl,qz,T.kN,zd T.gB En,λd1 H9 hd1 kp o1 od1=>⟨rfl,x1,_,some d1,rfl,o1,⟨_,od1⟩,T.kZ,(kx _ (qhw (d:=true) pn (.inl (by lia)))) x1 d1 _ (qah ((s1).trans (qa2 n1 kp)) ((s1).free n1)) qz ((ze (λz=>by rw[z,qz]at hd1;cases hd1)).trans od1)⟩⟩⟩
    have c6:rs.length≠6:=λz=>c (decide_eq_true (by rw[lk,z];rfl))
    refine⟨_,rfl,_,_,_,_,_,rfl,hx1,T.k9,zd T.kA En,rfl,_,rfl,_,_,_,_,_,rfl,hx1,T.k9,zd T.kA En,rfl,rfl,_,rfl,qb1 (λc2=>?_) (λc2=>?_)⟩
    .exact nomatch of_decide_eq_true c2
    have c7:¬(rs.length=6\/(true=false/\o=y)):=λz=>z.elim c6 λz=>nomatch z.1
    refine⟨_,rfl,_,rfl,_,rfl,d,_,rfl,DPut.k (k:=.inr x) hd1 (by rw[Bg,lk];lia),?_⟩
    have ep:qe7 (dcR rs As) (.inr x) (.ref xr)=dcR rs As++[(.inr x,.ref xr)]:=qjw _ (by rw[qfb x st.ln,pn];rfl)
    rw[ep]
    have kd:KeepT [d] H1 (upd H1 d (.dK (dcR rs As++[(.inr x,.ref xr)]))):=KeepT.put (An.mpr rfl) hd1 (λ_ z=>nomatch z)
    have ho:∀z∈own ⟨xr,dx,pe,pa,pl,py⟩,H z=none:=λz hz=>by
     simp only[own,Ap,Av,or_false]at hz
     rcases hz with rfl|rfl|rfl|rfl|rfl
     .exact nx
     .exact fe
     .exact fa
     .exact fl
     .exact fy
    have hin:∀z∈d::As.flatMap own,H z≠none:=λz hz e=>by
     rcases Ap.mp hz with rfl|hz
     .rw[st.hd]at e;cases e
     .obtain⟨A',hA',hz'⟩:=BQ.mp hz
      obtain⟨jA,hjA⟩:=Ba hA'
      have lj:jA<rs.length:=by rw[<- st.ln];exact(Ag.mp hjA).1
      obtain⟨v',us',ry⟩:=st.ru jA _ A' (Ak lj) hjA
      simp only[own,Ap,Av,or_false]at hz'
      rcases hz' with rfl|rfl|rfl|rfl|rfl
      .rw[ry.hx]at e;cases e
      .rw[ry.he]at e;cases e
      .rw[ry.ha]at e;cases e
      .rw[ry.hl]at e;cases e
      .rw[ry.hy]at e;cases e
    have nz:∀z∈own ⟨xr,dx,pe,pa,pl,py⟩,z≠d:=λz hz e=>hin d Am (e ▸ ho z hz)
    have ux:RuX a.k8 H1 ⟨xr,dx,pe,pa,pl,py⟩ (qpn x w1 o true y m u):=⟨.non,[],hx1,rfl,he1,ha1,hl1,.nil,hy1⟩
    refine k _ (qf2 pn c7) _ (As++[⟨xr,dx,pe,pa,pl,py⟩]) ((KeepT.of s1).trans (kd.sub λz hz=>by rw[An.mp hz];exact Am)) (λz hz=>?_) ((st.same s1).snoc kd qz (ux.keep kd λz hz hz2=>nz z hz (An.mp hz2)) pn (show (own ⟨xr,dx,pe,pa,pl,py⟩).Nodup from nd5) λz hz=>⟨nz z hz,λhz2=>hin z (Aq _ hz2) (ho z hz)⟩)
    rw[Bu]at hz
    rcases AH.mp hz with q|q
    .exact .inl q
    .exact .inr (ho z (by simpa using q))
theorem qeb (T:Txt K mg a):FnOk P w K mg base CX0 1 a.dG a.lT ["self", "name"] (qx0 K "name"):=by
 refine T.kS.fn.ok qmr (λvs H Q E h=>?_) (λcdv A outer s H vs Q E hr h=>?_)
 .obtain⟨_,_,_,_,rfl,_⟩:=h
  all_goals rfl
 .obtain⟨x,C,y,ini,rfl,hx,xa,no,k⟩:=h
  refine⟨_,(qk (zj (qft T.gO rfl T.gJ (qh (pv 0) (qh (pv 1) qm qj) qj)))
   (qu (qhg (pv 0) (pv 1) rfl))),?_⟩
  refine⟨_,rfl,_,rfl,x,C,none,[y],ini,rfl,hx,xa.xc,fits (show 1<=100000 by decide),?_⟩
  refine⟨_,rfl,_,rfl,x,C,true,rfl,xa.set no,.inl ⟨hx,λdx hd=>?_⟩⟩
  have ne:dx≠x:=λz=>by rw[z,hx]at hd;cases hd
  exact k dx _ hd (λb o hb e=>by rw[ze hb,ze (qad e hd)];exact e) qz (by rw[ze ne];exact qz)
theorem qf7 (T:Txt K mg a):FnOk P w K mg base CX0 1 a.dH a.mJ ["self"] (spAk a):=by
 refine T.dN.fn.ok qf0 (λvs H Q E h=>?_) (λcdv A outer s H vs Q E hr h=>?_)
 .obtain⟨_,_,rfl,_⟩:=h
  all_goals rfl
 .obtain⟨A,r,rfl,ru,l1,l2,l3,k⟩:=h
  refine⟨_,(qk (zg (i:=1) qf0.nd rfl (A4 rfl) (zh qce (zh qce (zh qce (zq (qh (qaj (pv 0) rfl) qm qax)) (qaj (pv 0) rfl)) (qaj (pv 0) rfl)) (qeq (N:=["row"]) (js:=[none]) (XN:=["self", "kinds"]) (xs:=qaa qdv) rfl rfl rfl Ek (qbc (qaj (pv 0) rfl)) (λ_ _ _ _ _ _=>(qai (i:=0) (show Cd (["row"]:List Str) from by decide +kernel) rfl (A4 rfl) (CQ rfl))) (λ_ _ _ _ _ _=>qcj) (λ_ _ _ _ _ _=>(zy (qjp (K:=K) rfl) (pv 0) qp (λ_ _=>rfl))))))
   (qk (zk (zf qci (qaj (pv 0) rfl) qay (qaf _)) (qu (zj (qde AI AR AS qa7 (pv 1) (qh (qaj (pv 0) rfl) qm qax)))) qab)
   (qk (zk (zf qci (qaj (pv 0) rfl) qay (qaf _)) (qu (zj (qde AI PySem.F.slot_list_extend PySem.F.type_list_extend qpb (pv 1) (qh (qaj (pv 0) rfl) qm qax)))) qab)
   (qu (zc (pv 1)))))),?_⟩
  obtain⟨v,us,hx,hs,he,ha,hl,tl,hy⟩:=ru
  have lu:us.length=r.longer.length:=by rw[tl.length,Ac]
  refine⟨_,rfl,_,_,_,_,_,rfl,hx,T.k9,zd T.kA En,rfl,fits (show 1<=100000 by decide),λq1 n1=>?_⟩
  obtain⟨s1,e1⟩:=alc (o:=.lst [V.str r.owes]) n1
  generalize upd H q1 _=H1 at s1 e1 |-
  refine⟨_,rfl,_,_,_,_,_,rfl,s1 _ _ hx,T.k9,zd T.kA En,rfl,_,_,_,_,rfl,rfl,e1,s1 _ _ he,fits (by rw[Ac];show 1+_<=_;lia),λq2 n2=>?_⟩
  obtain⟨s2,e2⟩:=alc (o:=.lst ([V.str r.owes]++r.ends.map V.str)) n2
  generalize upd H1 q2 _=H2 at s2 e2 |-
  have s12:=s1.trans s2
  refine⟨_,rfl,_,_,_,_,_,rfl,s12 _ _ hx,T.k9,zd T.kA En,rfl,_,_,_,_,rfl,rfl,e2,s12 _ _ ha,fits (by rw[Aj,Ac,Ac];show 1+_+_<=_;lia),λq3 n3=>?_⟩
  obtain⟨s3,e3⟩:=alc (o:=.lst ([V.str r.owes]++r.ends.map V.str++r.anew.map V.str)) n3
  generalize upd H2 q3 _=H3 at s3 e3 |-
  have s13:=s12.trans s3
  have tl3:=tl.same s13
  refine⟨_,rfl,_,_,_,_,_,rfl,s13 _ _ hx,T.k9,zd T.kA En,rfl,_,rfl,⟨_,SqL.of (s13 _ _ hl)⟩,?_⟩
  let f:V->V:=λv=>match v with
   |.ref b=>match H3 b with
    |some (.tup [.str y,.int _,.int _])=>.str y
    |_=>.non
   |_=>.non
  refine qbq f (λσ'=>∃v,σ'=[v]) (qb5 (K:=K) (SqL.of (s13 _ _ hl))) (fits (by lia)) ⟨none,rfl⟩ (λv σ' H' RR' hv sm s4 q=>?_) qck λp5 hp5=>?_
  .obtain⟨v0,rfl⟩:=s4
   obtain⟨j,hj⟩:=Ba hv
   obtain⟨b,t,rfl,g1,g2⟩:=tl3.get' hj
   rw[Ai]at g1
   cases eg:r.longer[j]? with
   |none=>rw[eg]at g1;cases g1
   |some rr =>
    rw[eg]at g1
    cases g1
    have ef:f (.ref b)=.str rr.1:=by show (match H3 b with|some (.tup [.str y,.int _,.int _])=>V.str y|_=>.non)=_;rw[g2];rfl
    have q:=q [some (.ref b)] ⟨_,rfl⟩
    rw[ef]at q
    exact⟨_,rfl,_,_,_,_,rfl,rfl,SqT.of (sm _ _ g2),rfl,q⟩
  have em:us.map f=(r.longer.map (·.1)).map V.str:=by
   refine Bq λj=>?_
   rw[Ai,Ai,Ai]
   cases eg:r.longer[j]? with
   |none=>rw[AO (by rw[lu];exact B6.mp eg)];rfl
   |some rr =>
    obtain⟨b,g1,g2⟩:=tl3.get (i:=j) (r:=qiq rr) (by rw[Ai,eg];rfl)
    rw[g1]
    show some (match H3 b with|some (.tup [.str y,.int _,.int _])=>V.str y|_=>.non)=_
    rw[g2];rfl
  rw[em]
  obtain⟨s5,e5⟩:=alc (o:=.lst ((r.longer.map (·.1)).map V.str)) hp5
  generalize upd H3 p5 _=H5 at s5 e5 |-
  refine⟨_,_,_,_,rfl,rfl,s5 _ _ e3,e5,fits (by simp only[Aj,Ac,At,Ca];lia),λq n6=>?_⟩
  have eb:([V.str r.owes]++r.ends.map V.str++r.anew.map V.str)++(r.longer.map (·.1)).map V.str=([r.owes]++r.ends++r.anew++r.longer.map (·.1)).map V.str:=by simp only[A1,AA,BV]
  rw[eb]
  generalize eB:[r.owes]++r.ends++r.anew++r.longer.map (·.1)=B
  have lB:B.length<=4000:=by rw[<- eB];simp only[Aj,Ac,At,Ca];lia
  have ek:qag r=B++r.opens.toList++stL r.still:=by unfold qag;rw[eB]
  have s15:=s13.trans s5
  obtain⟨s6,e6⟩:=alc (o:=.lst (B.map V.str)) n6
  generalize upd H5 q _=H6 at s6 e6 |-
  have s16:=s15.trans s6
  have nq:=s15.free n6
  have hx6:=s16 _ _ hx
  have hs6:=hs.same s16
  have ho:r.opens=none \/ ∃o,r.opens=some o:=by
   cases r.opens with
   |none=>exact .inl rfl
   |some o=>exact .inr ⟨o,rfl⟩
  apply useH (p:=λ(H7:Hp)=>∃B':List Str,Same H H7/\B'.length<=4001/\H7 q=some (.lst (B'.map V.str))/\qag r=B'++stL r.still)
  .intro fin
   refine ho.elim (λeo=>?_) (λeo=>?_)
   .refine⟨_,rfl,_,_,_,_,_,rfl,hx6,T.k9,zd T.kA En,rfl,rfl,_,rfl,qdy (by rw[eo];rfl) ?_⟩
    have qq:∃B':List Str,Same H H6/\B'.length<=4001/\H6 q=some (.lst (B'.map V.str))/\qag r=B'++stL r.still:=⟨B,s16,by lia,e6,by rw[ek,eo];simp⟩
    generalize H6=W6 at qq |-
    exact fin W6 qq
   .obtain⟨o,eo⟩:=eo
    have eo':qc3 r.opens=.str o:=by rw[eo];rfl
    refine⟨_,rfl,_,_,_,_,_,rfl,hx6,T.k9,zd T.kA En,rfl,rfl,_,rfl,qd4 (λz=>by rw[eo']at z;cases z) ?_⟩
    refine⟨_,rfl,.inl ⟨rfl,_,SqL.of e6⟩,_,rfl,_,_,_,_,_,rfl,hx6,T.k9,zd T.kA En,rfl,_,_,_,rfl,rfl,e6,qcx (by rw[Ac];lia),?_⟩
    have qq:∃B':List Str,Same H (upd H6 q (.lst (B.map V.str++[qc3 r.opens])))/\B'.length<=4001/\upd H6 q (.lst (B.map V.str++[qc3 r.opens])) q=some (.lst (B'.map V.str))/\qag r=B'++stL r.still:=⟨B++[o],qah s16 nq,by rw[Aj];show _+1<=_;lia,by rw[qz,A1,eo'];rfl,by rw[ek,eo];rfl⟩
    exact fin _ qq
  .rintro H7 ⟨B',s7,l7,e7,ek'⟩
   have hx7:=s7 _ _ hx
   have hs7:=hs.same s7
   cases es:r.still with
   |none =>
    rw[es]at hs7 ek'
    cases hs7
    refine⟨_,rfl,_,_,_,_,_,rfl,hx7,T.k9,zd T.kA En,rfl,rfl,_,rfl,qdy rfl ⟨_,rfl,k q H7 nq s7 (by rw[ek',e7];simp[stL])⟩⟩
   |some sv =>
    rw[es]at hs7 ek'
    obtain⟨ps,rfl,hps⟩:=hs7
    refine⟨_,rfl,_,_,_,_,_,rfl,hx7,T.k9,zd T.kA En,rfl,rfl,_,rfl,qd4 (λz=>nomatch z) ?_⟩
    refine⟨_,rfl,.inl ⟨rfl,_,SqL.of e7⟩,_,rfl,_,_,_,_,_,rfl,hx7,T.k9,zd T.kA En,rfl,_,_,_,_,rfl,rfl,e7,SqT.of hps,fits (by rw[Ac];show _+2<=_;lia),?_⟩
    exact⟨_,rfl,k q _ nq (qah s7 nq) (by rw[qz,ek',A1];rfl)⟩
theorem qs3 (T:Txt K mg a):FnOk P w K mg base CX0 1 a.mC a.mT ["row"] spKi:=by
 refine T.dB.fn.ok qsg (λvs H Q E h=>?_) (λcdv A outer s H vs Q E hr h=>?_)
 .obtain⟨_,_,rfl,_⟩:=h
  all_goals rfl
 .obtain⟨p,row,rfl,hp,nt,k⟩:=h
  refine⟨_,(qk (zk (zf qaz (zy jb (pv 0) qp (λ_ _=>rfl)) zp (qaf _)) (qu (zc (zq qm))) qab)
   (qu (zc (qdg (zf qaz (zy jb (pv 0) qp (λ_ _=>rfl)) zp (qaf _)) (qa4 qb3 (pv 0) (qa0 qp) (qa0 qp)) (qa4 qb3 (pv 0) (qa0 qp) (qa0 qp)))))),?_⟩
  cases row with
  |term=>cases nt
  |ends x k =>
   refine⟨_,rfl,_,_,_,_,rfl,rfl,SqL.of (hp),rfl,rfl,_,rfl,qat Ek ?_⟩
   refine⟨_,rfl,_,_,_,_,rfl,rfl,SqL.of (hp),rfl,rfl,_,rfl,qat Ek ⟨_,rfl,_,rfl,_,rfl,_,_,rfl,SqL.of hp,λq hq=>?_⟩⟩
   exact k q _ hq (zi hq) qz
  |anew x k =>
   refine⟨_,rfl,_,_,_,_,rfl,rfl,SqL.of (hp),rfl,rfl,_,rfl,qat Ek ?_⟩
   refine⟨_,rfl,_,_,_,_,rfl,rfl,SqL.of (hp),rfl,rfl,_,rfl,qat Ek ⟨_,rfl,_,rfl,_,rfl,_,_,rfl,SqL.of hp,λq hq=>?_⟩⟩
   exact k q _ hq (zi hq) qz
  |longer x k u t =>
   refine⟨_,rfl,_,_,_,_,rfl,rfl,SqL.of (hp),rfl,rfl,_,rfl,qat Ek ?_⟩
   refine⟨_,rfl,_,_,_,_,rfl,rfl,SqL.of (hp),rfl,rfl,_,rfl,qat Ek ⟨_,rfl,_,rfl,_,rfl,_,_,rfl,SqL.of hp,λq hq=>?_⟩⟩
   exact k q _ hq (zi hq) qz
  |still x k l =>
   refine⟨_,rfl,_,_,_,_,rfl,rfl,SqL.of (hp),rfl,rfl,_,rfl,qat Ek ?_⟩
   refine⟨_,rfl,_,_,_,_,rfl,rfl,SqL.of (hp),rfl,rfl,_,rfl,qez rfl ⟨_,rfl,_,rfl,_,rfl,_,_,rfl,SqL.of hp,λq hq=>?_⟩⟩
   exact k q _ hq (zi hq) qz
  |yields x y =>
   refine⟨_,rfl,_,_,_,_,rfl,rfl,SqL.of (hp),rfl,rfl,_,rfl,qez rfl ⟨qe3,λq hq=>k q _ hq (zi hq) qz⟩⟩
theorem qs4 (T:Txt K mg a):FnOk P w K mg base CX0 2 a.fP a.hX ["rule", "row"] (spUf a):=by
 refine T.bL.fn.ok ql1 (λvs H Q E h=>?_) (λcdv A outer s H vs Q E hr h=>?_)
 .obtain⟨_,_,_,_,rfl,_⟩:=h
  all_goals rfl
 .obtain⟨A,r,p,row,rfl,ru,l1,l2,l3,hp,nt,k⟩:=h
  refine⟨_,(qk (zg (i:=2) ql1.nd rfl (CQ rfl) (qhb (pv 0) T.k9 T.mU (qf7 T) (hr.mono En) T.dN.bd .nil qan))
   (qk (zk (zo (zn (qrx rfl) (by rfl) T.rH qu9 (qh (qeq (N:=["kind", "taken"]) (js:=[none,some 2]) (XN:=["rule", "row", "taken"]) (xs:=qaa qhl) rfl rfl rfl Ek (qbc (zm (qs3 T) (hr.mono En) rfl T.dB.mgx T.dB.fn.kp T.dB.bd .nil qan (qh (pv 1) qm qj))) (λ_ _ _ _ _ _=>(qai (i:=0) (show Cd (["kind", "taken"]:List Str) from by decide +kernel) rfl (A4 rfl) (CQ rfl))) (λ_ _ _ _ _ _=>qcj) (λ_ _ _ _ _ _=>(qd7 (qo5 (K:=K) rfl) (pv 0) (pv 1) (by with_unfolding_all rfl)))) qm qhf))) (qu (zc qc0)) qab)
   (qk (zk (zf qaz (zy jb (pv 1) qp (λ_ _=>rfl)) zp (qaf _)) (qu (zc (qym (qd7 qci (qaj (pv 0) rfl) qay (qaf _)) (qma (qd7 qaz (zy jb (pv 1) qp (λ_ _=>rfl)) (zy jb (pv 1) qp (λ_ _=>rfl)) (qaf _)))))) qab)
   (qu (zc (qtc (qd7 qaz (zy jb (pv 1) qp (λ_ _=>rfl)) zp (qaf _)) (qma (qd7 qaz (zn qbi (by rfl) T.kI qba (qh (qaj (pv 0) rfl) qm qax)) (qep (v:=.int 2) rfl T.rP.choose_spec ⟨_,rfl⟩) (qaf _))))))))),?_⟩
  have ru0:=ru
  obtain⟨v,us,hx,hs,he,ha,hl,tl,hy⟩:=ru
  refine⟨_,rfl,A.p,A.dx,_,rfl,hx,rfl,A,r,rfl,ru0,l1,l2,l3,λq H1 nq s1 e1=>?_⟩
  have kl:=qx3 r
  refine⟨_,rfl,p,row,rfl,s1 _ _ hp,nt,λq2 H2 n2 s2 e2=>?_⟩
  have s12:=s1.trans s2
  refine⟨_,rfl,⟨_,SqL.of e2⟩,?_⟩
  have e12:=s2 _ _ e1
  have lk:(kin row).length<=2:=by cases row <;>simp[kin]
  refine qbq (λv=>match v with | .str y=>.bl ((qag r).contains y)|_=>.non) (λσ'=>∃v,σ'=[v,some (.ref q)]) (qb5 (K:=K) (SqL.of e2)) (fits (by rw[Ac];lia)) ⟨none,rfl⟩ (λv σ' H' RR' hv sm s4 qq=>?_) qck λp5 hp5=>?_
  .obtain⟨v0,rfl⟩:=s4
   obtain⟨y,_,rfl⟩:=AW.mp hv
   have qq:=qq [some (.str y),some (.ref q)] ⟨_,rfl⟩
   dsimp only at qq
   refine⟨_,rfl,_,rfl,_,_,rfl,.inl (SqL.of (sm _ _ e12)),rfl,qbg _,?_⟩
   rw[<- qb9]at qq
   exact qq
  have em:((kin row).map V.str).map (λv=>match v with | .str y=>V.bl ((qag r).contains y)|_=>.non)=((kin row).map λy=>(qag r).contains y).map V.bl:=by
   rw[Bi,Bi];rfl
  rw[em]
  obtain⟨s5,e5⟩:=alc (o:=.lst (((kin row).map λy=>(qag r).contains y).map V.bl)) hp5
  generalize upd H2 p5 _=H5 at s5 e5 |-
  have s15:=s12.trans s5
  refine⟨p5,_,rfl,SqL.of e5,_,rfl,?_⟩
  have hp5:=s15 _ _ hp
  have hx5:=s15 _ _ hx
  have hs5:=hs.same s15
  have hl5:=s15 _ _ hl
  have lu:us.length=r.longer.length:=by rw[tl.length,Ac]
  have kk:=k H5 s15
  unfold qji at kk
  rw[<- any_map]at kk
  cases ea:(((kin row).map λy=>(qag r).contains y).any λb=>b) with
  |true =>
   rw[ea,Bool.true_or]at kk
   exact qet kk
  |false =>
   rw[ea,Bool.false_or]at kk
   refine qa1 ?_
   cases row with
   |term=>cases nt
   |ends x k'=>exact⟨_,rfl,_,_,_,_,rfl,rfl,SqL.of (hp5),rfl,rfl,_,rfl,qat Ek ⟨_,rfl,_,_,_,_,rfl,rfl,SqL.of (hp5),rfl,rfl,_,rfl,qat Ek kk⟩⟩
   |anew x k'=>exact⟨_,rfl,_,_,_,_,rfl,rfl,SqL.of (hp5),rfl,rfl,_,rfl,qat Ek ⟨_,rfl,_,_,_,_,rfl,rfl,SqL.of (hp5),rfl,rfl,_,rfl,qat Ek kk⟩⟩
   |yields x k'=>exact⟨_,rfl,_,_,_,_,rfl,rfl,SqL.of (hp5),rfl,rfl,_,rfl,qat Ek ⟨_,rfl,_,_,_,_,rfl,rfl,SqL.of (hp5),rfl,rfl,_,rfl,qat Ek kk⟩⟩
   |longer x k' u t =>
    refine⟨_,rfl,_,_,_,_,rfl,rfl,SqL.of (hp5),rfl,rfl,_,rfl,qat Ek ⟨_,rfl,_,_,_,_,rfl,rfl,SqL.of (hp5),rfl,rfl,_,rfl,qez rfl ⟨_,rfl,_,_,_,_,_,rfl,hx5,T.k9,zd T.kA En,rfl,_,_,rfl,.inl ⟨_,SqL.of hl5,rfl⟩,rfl,?_⟩⟩⟩
    show Q (.bl (decide (V.int (us.length:Int)=V.int 2))) H5
    have e:decide (V.int (us.length:Int)=V.int 2)=decide (r.longer.length=2):=decide_eq_decide.mpr ⟨λz=>by have:=V.int.inj z;lia,λz=>by rw[lu,z];rfl⟩
    rw[e]
    exact kk
   |still x k' l' =>
    refine⟨_,rfl,_,_,_,_,rfl,rfl,SqL.of (hp5),rfl,rfl,_,rfl,qez rfl ?_⟩
    cases es:r.still with
    |some sv =>
     rw[es]at hs5
     obtain⟨ps,rfl,hps⟩:=hs5
     refine⟨_,rfl,_,_,_,_,_,rfl,hx5,T.k9,zd T.kA En,rfl,rfl,_,rfl,qd4 (λz=>nomatch z) ?_⟩
     unfold unfX at kk
     rw[es]at kk
     exact kk
    |none =>
     rw[es]at hs5
     cases hs5
     refine⟨_,rfl,_,_,_,_,_,rfl,hx5,T.k9,zd T.kA En,rfl,rfl,_,rfl,qdy rfl ⟨_,rfl,_,_,_,_,rfl,rfl,SqL.of (hp5),rfl,_,rfl,_,_,_,_,rfl,rfl,SqL.of (hp5),rfl,rfl,?_⟩⟩
     unfold unfX at kk
     rw[es]at kk
     have e:decide (V.str k'=V.str l')=decide (k'=l'):=decide_eq_decide.mpr ⟨λz=>V.str.inj z,λz=>by rw[z]⟩
     show Q (.bl (decide (V.str k'=V.str l'))) H5
     rw[e]
     exact kk
theorem qp0 (T:Txt K mg a):FnOk P w K mg base (CX1 P w) 3 a.nW a.lA ["rule", "at", "row"] (spMo a):=by
 refine okX T.bK.fn qpg (λvs H Q E h=>?_) (λcdv A outer s H vs Q E hr h=>?_)
 .obtain⟨_,_,_,_,_,rfl,_⟩:=h
  all_goals rfl
 .obtain⟨A,r,i,p,row,rfl,ru,nd,l1,l2,l3,hp,nt,k,kx⟩:=h
  refine⟨_,(qk (zk (zo (zm (qs4 T) (hr.mono En) rfl T.bL.mgx T.bL.fn.kp T.bL.bd .nil qan (qh (pv 0) (qh (pv 2) qm qj) qj))) (qu (qc2 rfl (Takes.at qa5) (qdu T.kN.xc T.kY.ty (qf6 T) (hr.mono En) rfl T.bI T.kN.kp T.kY.bd .nil qan (qh (pv 1) qm qj)))) qab)
   (qu (zk (zf qaz (zy jb (pv 2) qp (λ_ _=>rfl)) zp (qaf _)) (qu (zj (qde AI AR AS qa7 (qaj (pv 0) rfl) (qh (zy jb (pv 2) qp (λ_ _=>rfl)) qm zw)))) (qu (zk (zf qaz (zy jb (pv 2) qp (λ_ _=>rfl)) zp (qaf _)) (qu (zj (qde AI AR AS qa7 (qaj (pv 0) rfl) (qh (zy jb (pv 2) qp (λ_ _=>rfl)) qm zw)))) (qu (zk (zf qaz (zy jb (pv 2) qp (λ_ _=>rfl)) zp (qaf _)) (qu (zj (qde AI AR AS qa7 (qaj (pv 0) rfl) (qh (zr (qh (zy jb (pv 2) qp (λ_ _=>rfl)) (qh (zy jb (pv 2) qp (λ_ _=>rfl)) (qh (zy jb (pv 2) qp (λ_ _=>rfl)) qm zw) zw) zw)) qm zx)))) (qu (zk (zf qaz (zy jb (pv 2) qp (λ_ _=>rfl)) zp (qaf _)) (qu (qda (pv 0) (zr (qh (zy jb (pv 2) qp (λ_ _=>rfl)) (qh (zy jb (pv 2) qp (λ_ _=>rfl)) qm zw) zw)) rfl)) qab))))))))),?_⟩
  have ru0:=ru
  refine⟨_,rfl,_,rfl,A,r,p,row,rfl,ru0,l1,l2,l3,hp,nt,λH1 s1=>⟨_,rfl,?_⟩⟩
  cases eu:qji r row with
  |true=>exact qet ⟨_,rfl,fits (show 1<=100000 by decide),λx1 n1=>⟨x1,a.kC,_,_,rfl,qz,T.kN,zd T.gB En,λd1 H9 hd1 kp o1 od1=>⟨rfl,x1,_,some d1,rfl,o1,⟨_,od1⟩,T.kZ,kx eu x1 d1 _ (qah ((s1).trans (qa2 n1 kp)) ((s1).free n1)) qz ((ze (λz=>by rw[z,qz]at hd1;cases hd1)).trans od1)⟩⟩⟩
  |false =>
   refine qa1 ?_
   obtain⟨v,us,hx,hs,he,ha,hl,tl,hy⟩:=ru0.same s1
   have hp:=s1 _ _ hp
   have ks:=KeepT.of (S:=own A) s1
   have lu:us.length=r.longer.length:=by rw[tl.length,Ac]
   simp only[own,AX,Ap,Av,or_false,not_or]at nd
   obtain⟨⟨d1,d2,d3,d4⟩,⟨d5,d6,d7⟩,⟨d8,d9⟩,d10,_⟩:=nd
   cases row with
   |term=>cases nt
   |ends x k' =>
    refine⟨_,rfl,_,_,_,_,rfl,rfl,SqL.of (hp),rfl,rfl,_,rfl,qez rfl ⟨_,rfl,_,_,_,_,_,rfl,hx,T.k9,zd T.kA En,rfl,.inl ⟨rfl,_,SqL.of he⟩,_,rfl,_,_,_,_,rfl,rfl,SqL.of (hp),rfl,_,_,_,rfl,rfl,he,qcx (by rw[Ac];lia),?_⟩⟩
    have kt:=KeepT.put (o':=.lst (r.ends.map V.str++[V.str k'])) (show A.pe∈own A by simp[own]) he (λ_ z=>nomatch z)
    exact k eu _ (ks.trans kt) ⟨v,us,(ze d1).trans hx,hs.keep kt,by rw[qz];show _=some (HO.lst ((r.ends++[k']).map V.str));rw[A1];rfl,(ze (AZ d5)).trans ha,(ze (AZ d6)).trans hl,qbs tl kt,(ze (AZ d7)).trans hy⟩
   |anew x k' =>
    refine⟨_,rfl,_,_,_,_,rfl,rfl,SqL.of (hp),rfl,rfl,_,rfl,qat Ek ⟨_,rfl,_,_,_,_,rfl,rfl,SqL.of (hp),rfl,rfl,_,rfl,qez rfl ⟨_,rfl,_,_,_,_,_,rfl,hx,T.k9,zd T.kA En,rfl,.inl ⟨rfl,_,SqL.of ha⟩,_,rfl,_,_,_,_,rfl,rfl,SqL.of (hp),rfl,_,_,_,rfl,rfl,ha,qcx (by rw[Ac];lia),?_⟩⟩⟩
    have kt:=KeepT.put (o':=.lst (r.anew.map V.str++[V.str k'])) (show A.pa∈own A by simp[own]) ha (λ_ z=>nomatch z)
    exact k eu _ (ks.trans kt) ⟨v,us,(ze d2).trans hx,hs.keep kt,(ze d5).trans he,by rw[qz];show _=some (HO.lst ((r.anew++[k']).map V.str));rw[A1];rfl,(ze (AZ d8)).trans hl,qbs tl kt,(ze (AZ d9)).trans hy⟩
   |longer x k' u t =>
    refine⟨_,rfl,_,_,_,_,rfl,rfl,SqL.of (hp),rfl,rfl,_,rfl,qat Ek ⟨_,rfl,_,_,_,_,rfl,rfl,SqL.of (hp),rfl,rfl,_,rfl,qat Ek ⟨_,rfl,_,_,_,_,rfl,rfl,SqL.of (hp),rfl,rfl,_,rfl,qez rfl ⟨_,rfl,_,_,_,_,_,rfl,hx,T.k9,zd T.kA En,rfl,.inl ⟨rfl,_,SqL.of hl⟩,_,rfl,_,_,_,_,rfl,rfl,SqL.of (hp),rfl,_,rfl,_,_,_,_,rfl,rfl,SqL.of (hp),rfl,_,rfl,_,_,_,_,rfl,rfl,SqL.of (hp),rfl,qsj _ _ _,λq2 n2=>?_⟩⟩⟩⟩
    obtain⟨s2,e2⟩:=alc (o:=.tup [V.str k',V.int u,V.int t]) n2
    generalize upd H1 q2 _=H2 at s2 e2 |-
    have hl2:=s2 _ _ hl
    refine⟨_,_,_,rfl,rfl,hl2,qcx (by lia),?_⟩
    have kt:=KeepT.put (o':=.lst (us++[V.ref q2])) (show A.pl∈own A by simp[own]) hl2 (λ_ z=>nomatch z)
    have k2:=KeepT.of (S:=own A) s2
    refine k eu _ (ks.trans (k2.trans kt)) ⟨v,us++[.ref q2],(ze d3).trans (s2 _ _ hx),hs.keep (k2.trans kt),(ze d6).trans (s2 _ _ he),(ze d8).trans (s2 _ _ ha),qz,?_,(ze (AZ d10)).trans (s2 _ _ hy)⟩
    show Tups _ _ ((r.longer++[(k',u,t)]).map qiq)
    rw[A1]
    exact qbs ((tl.same s2).snoc e2) kt
   |still x k' l' =>
    refine⟨_,rfl,_,_,_,_,rfl,rfl,SqL.of (hp),rfl,rfl,_,rfl,qat Ek ⟨_,rfl,_,_,_,_,rfl,rfl,SqL.of (hp),rfl,rfl,_,rfl,qat Ek ⟨_,rfl,_,_,_,_,rfl,rfl,SqL.of (hp),rfl,rfl,_,rfl,qat Ek ⟨_,rfl,_,_,_,_,rfl,rfl,SqL.of (hp),rfl,rfl,_,rfl,qez rfl ⟨_,rfl,_,_,_,_,rfl,rfl,SqL.of (hp),rfl,_,rfl,_,_,_,_,rfl,rfl,SqL.of (hp),rfl,fit2 _ _,λq2 n2=>?_⟩⟩⟩⟩⟩
    obtain⟨s2,e2⟩:=alc (o:=.tup [V.str k',V.str l']) n2
    generalize upd H1 q2 _=H2 at s2 e2 |-
    have hx2:=s2 _ _ hx
    refine⟨_,rfl,_,_,_,_,rfl,hx2,T.k9,zd T.kA En,(show 12<1000 by decide),?_⟩
    rw[show qcm (Ab "still") (.ref q2) (rlR A r v)=rlR A (qcz r (.still x k' l')) (.ref q2) by with_unfolding_all rfl]
    have kt:=KeepT.put (o':=.ins a.k8 A.dx (rlR A (qcz r (.still x k' l')) (.ref q2))) (show A.p∈own A by simp[own]) hx2 (λ_ z=>nomatch z)
    have k2:=KeepT.of (S:=own A) s2
    exact k eu _ (ks.trans (k2.trans kt)) ⟨.ref q2,us,qz,⟨q2,rfl,kt _ _ (.inr ⟨_,rfl⟩) e2⟩,(ze (AZ d1)).trans (s2 _ _ he),(ze (AZ d2)).trans (s2 _ _ ha),(ze (AZ d3)).trans (s2 _ _ hl),qbs (tl.same s2) kt,(ze (AZ d4)).trans (s2 _ _ hy)⟩
   |yields x k' =>
    exact⟨_,rfl,_,_,_,_,rfl,rfl,SqL.of (hp),rfl,rfl,_,rfl,qat Ek ⟨_,rfl,_,_,_,_,rfl,rfl,SqL.of (hp),rfl,rfl,_,rfl,qat Ek ⟨_,rfl,_,_,_,_,rfl,rfl,SqL.of (hp),rfl,rfl,_,rfl,qat Ek ⟨_,rfl,_,_,_,_,rfl,rfl,SqL.of (hp),rfl,rfl,_,rfl,qat Ek (k eu _ ks (ru0.same s1))⟩⟩⟩⟩
theorem qs5 (T:Txt K mg a):FnOk P w K mg base (CX1 P w) 4 a.pB a.mF ["told", "at", "row"] (spRo a):=by
 refine okX T.bB.fn qsh (λvs H Q E h=>?_) (λcdv A outer s H vs Q E hr h=>?_)
 .obtain⟨_,_,_,_,_,_,rfl,_⟩:=h
  all_goals rfl
 .obtain⟨d,p,i,rs,As,row,rfl,st,l6,bn,hp,k,kx⟩:=h
  refine⟨_,(qu (zk (zf qaz (zy jb (pv 2) qp (λ_ _=>rfl)) zp (qaf _)) (qu (zj (qeh (qpz T) (hr.mono En) rfl T.dA.mgx T.dA.fn.kp T.dA.bd .nil (Takes.at qa5) (qh (pv 0) (qh (pv 1) (qh (pv 2) qm qj) qj) qj)))) (qu (zk (qjt (qf8 (qe2 hr) (zy jb (pv 2) qp (λ_ _=>rfl)) (pv 0))) (qu (qc2 rfl (Takes.at qa5) (qdu T.kL.xc T.kS.ty (qeb T) (hr.mono En) rfl T.gM T.kL.kp T.kS.bd .nil qan (qh (zy jb (pv 2) qp (λ_ _=>rfl)) qm zw)))) (qu (zj (qeh (qp0 T) (hr.mono En) rfl T.bK.mgx T.bK.fn.kp T.bK.bd .nil (Takes.at qa5) (qh (qhe (qe2 hr) (pv 0) (zy jb (pv 2) qp (λ_ _=>rfl)) (λ_ _=>rfl)) (qh (pv 1) (qh (pv 2) qm qj) qj) zw)))))))),?_⟩
  cases ht:isT row with
  |true =>
   cases row with
   |term x w1 o dd y m u=>exact⟨_,rfl,_,_,_,_,rfl,rfl,SqL.of (hp),rfl,rfl,_,rfl,qez rfl ⟨_,rfl,_,rfl,_,rfl,d,p,i,rs,As,x,w1,o,dd,y,m,u,rfl,st,l6,hp,k,kx⟩⟩
   |ends=>cases ht
   |anew=>cases ht
   |longer=>cases ht
   |still=>cases ht
   |yields=>cases ht
  |false =>
   have e0:∃z,atI (qcf row) 0=some (.str z)/\z≠wS "term" := by
    cases row with
    |term=>cases ht
    |ends=>exact⟨_,rfl,Ek⟩
    |anew=>exact⟨_,rfl,Ek⟩
    |longer=>exact⟨_,rfl,Ek⟩
    |still=>exact⟨_,rfl,Ek⟩
    |yields=>exact⟨_,rfl,Ek⟩
   have e1:atI (qcf row) 1=some (.str (qbh row)):=by cases row <;>rfl
   obtain⟨z0,e0,nz0⟩:=e0
   rw[qir ht]at k kx
   refine⟨_,rfl,_,_,_,_,rfl,rfl,SqL.of (hp),e0,rfl,_,rfl,qat (λz=>nz0 (V.str.inj z)) ?_⟩
   cases pn:qam rs (qbh row) with
   |none =>
    refine⟨_,rfl,_,_,_,_,rfl,rfl,SqL.of (hp),e1,_,rfl,d,_,rfl,st.non pn,_,rfl,qet ?_⟩
    exact⟨_,rfl,_,_,_,_,rfl,rfl,SqL.of (hp),e1,fits (show 1<=100000 by decide),λx1 n1=>⟨x1,a.kD,_,_,rfl,qz,T.kL,zd T.gL En,λd1 H9 hd1 kp o1 od1=>⟨rfl,x1,_,some d1,rfl,o1,⟨_,od1⟩,T.bD,(kx _ (qob pn)) x1 d1 _ (qah (((Same.refl H)).trans (qa2 n1 kp)) (((Same.refl H)).free n1)) qz ((ze (λz=>by rw[z,qz]at hd1;cases hd1)).trans od1)⟩⟩⟩
   |some j =>
    obtain⟨r,A,hr',hA,hn,ru,g⟩:=st.get pn
    have nd0:=(AX.mp st.nd).2
    obtain⟨b1,b2,b3,b4⟩:=bn r (Ay hr')
    refine⟨_,rfl,_,_,_,_,rfl,rfl,SqL.of (hp),e1,_,rfl,d,_,rfl,g,_,rfl,qa1 ?_⟩
    refine⟨_,rfl,_,rfl,_,_,_,_,rfl,rfl,SqL.of (hp),e1,d,_,rfl,g,_,rfl,_,rfl,A,r,i,p,row,rfl,ru,qvo nd0 hA,b1,b2,b3,hp,ht,λu H' kt ux=>?_,λu=>kx _ (qoc pn hr' u)⟩
    exact k _ (qkr pn hr' u) H' As (kt.sub λz hz=>Aq _ (qmx hA z hz)) (λz hz=>.inl hz) (st.chg hr' hA kt ux (qhx r row))
theorem qk1 (T:Txt K mg a):FnOk P w K mg base (CX1 P w) 3 a.fQ a.mL ["told", "rule", "at", "other"] (spSy a):=by
 refine okX T.gT.fn qkm (λvs H Q E h=>?_) (λcdv A outer s H vs Q E hr h=>?_)
 .obtain⟨_,_,_,_,_,_,_,_,rfl,_⟩:=h
  all_goals rfl
 .obtain⟨d,i,j,rs,As,r,A,y,rfl,st,bn,hr',hA,k,kx⟩:=h
  refine⟨_,(qk (zk (qjt (qf8 (qe2 hr) (pv 3) (pv 0))) (qu (qc2 rfl (Takes.at qa5) (qdu T.kL.xc T.kS.ty (qeb T) (hr.mono En) rfl T.gM T.kL.kp T.kS.bd .nil qan (qh (pv 3) qm qj)))) qab)
   (qk (zk (PW.pt (qd3 (zf qaz (pv 3) (qaj (pv 1) rfl) (qaf _)) (qd3 (zf qcc (pv 3) (qaj (pv 1) rfl) (by with_unfolding_all rfl)) (qc9 (zf qqb (qaj (qhe (qe2 hr) (pv 0) (pv 3) (λ_ _=>rfl)) rfl) (qaj (pv 1) rfl) (qaf _)))))) (qu (qc2 rfl (Takes.at qa5) (qdu T.kN.xc T.kY.ty (qf6 T) (hr.mono En) rfl T.bI T.kN.kp T.kY.bd .nil qan (qh (pv 2) qm qj)))) qab)
   (qu (zj (qde AI AR AS qa7 (qaj (pv 1) rfl) (qh (pv 3) qm qj)))))),?_⟩
  obtain⟨v,us,hx,hs,he,ha,hl,tl,hy⟩:=st.ru j r A hr' hA
  have nd0:=(AX.mp st.nd).2
  obtain⟨b1,b2,b3,b4⟩:=bn r (Ay hr')
  cases pn:qam rs y with
  |none =>
   refine⟨_,rfl,_,rfl,d,_,rfl,st.non pn,_,rfl,qet ?_⟩
   exact⟨_,rfl,fits (show 1<=100000 by decide),λx1 n1=>⟨x1,a.kD,_,_,rfl,qz,T.kL,zd T.gL En,λd1 H9 hd1 kp o1 od1=>⟨rfl,x1,_,some d1,rfl,o1,⟨_,od1⟩,T.bD,(kx _ (qks pn)) x1 d1 _ (qah (((Same.refl H)).trans (qa2 n1 kp)) (((Same.refl H)).free n1)) qz ((ze (λz=>by rw[z,qz]at hd1;cases hd1)).trans od1)⟩⟩⟩
  |some l =>
   obtain⟨s,B,hs',hB,hn,rs',g⟩:=st.get pn
   obtain⟨v2,us2,hx2,_⟩:=rs'
   refine⟨_,rfl,_,rfl,d,_,rfl,g,_,rfl,qa1 ?_⟩
   refine⟨_,rfl,_,rfl,_,_,_,_,_,rfl,hx,T.k9,zd T.kA En,rfl,rfl,_,rfl,qb1 (λc=>?_) (λc=>?_)⟩
   .have c:=V.str.inj (of_decide_eq_true c)
    exact⟨_,rfl,fits (show 1<=100000 by decide),λx1 n1=>⟨x1,a.kC,_,_,rfl,qz,T.kN,zd T.gB En,λd1 H9 hd1 kp o1 od1=>⟨rfl,x1,_,some d1,rfl,o1,⟨_,od1⟩,T.kZ,(kx _ (qfd pn hr' hs' (.inl c))) x1 d1 _ (qah (((Same.refl H)).trans (qa2 n1 kp)) (((Same.refl H)).free n1)) qz ((ze (λz=>by rw[z,qz]at hd1;cases hd1)).trans od1)⟩⟩⟩
   have c1:¬y=r.name:=λz=>c (decide_eq_true (congrArg V.str z))
   refine⟨_,rfl,_,rfl,_,_,_,_,_,rfl,hx,T.k9,zd T.kA En,rfl,_,_,rfl,.inl (SqL.of hy),rfl,qbg _,_,rfl,?_⟩
   show if inV (.str y) (r.yields.map V.str)=true then _ else _
   rw[qb9]
   refine qb1 (λc2=>?_) (λc2=>?_)
   .exact⟨_,rfl,fits (show 1<=100000 by decide),λx1 n1=>⟨x1,a.kC,_,_,rfl,qz,T.kN,zd T.gB En,λd1 H9 hd1 kp o1 od1=>⟨rfl,x1,_,some d1,rfl,o1,⟨_,od1⟩,T.kZ,(kx _ (qfd pn hr' hs' (.inr (.inl (C0.mp c2))))) x1 d1 _ (qah (((Same.refl H)).trans (qa2 n1 kp)) (((Same.refl H)).free n1)) qz ((ze (λz=>by rw[z,qz]at hd1;cases hd1)).trans od1)⟩⟩⟩
   have c2:¬y∈r.yields:=λz=>c2 (C0.mpr z)
   refine⟨_,rfl,_,rfl,d,_,rfl,g,_,_,_,_,_,rfl,hx2,T.k9,zd T.kA En,rfl,_,rfl,_,_,_,_,_,rfl,hx,T.k9,zd T.kA En,rfl,rfl,_,rfl,?_⟩
   show if (!decide (V.str s.owes=V.str r.owes))=true then _ else _
   by_cases c3:s.owes=r.owes
   .refine qdy (congrArg V.str c3) ?_
    refine⟨_,rfl,_,_,_,_,_,rfl,hx,T.k9,zd T.kA En,rfl,.inl ⟨rfl,_,SqL.of hy⟩,_,rfl,_,_,_,rfl,rfl,hy,qcx (by rw[Ac];lia),?_⟩
    have no:=qvo nd0 hA
    simp only[own,AX,Ap,Av,or_false,not_or]at no
    obtain⟨⟨d1,d2,d3,d4⟩,⟨d5,d6,d7⟩,⟨d8,d9⟩,d10,_⟩:=no
    have kt:=KeepT.put (S:=own A) (o':=.lst (r.yields.map V.str++[V.str y])) (show A.py∈own A by simp[own]) hy (λ_ z=>nomatch z)
    refine k _ (qg6 pn hr' hs' λz=>z.elim c1 λz=>z.elim c2 λz=>z c3) _ (kt.sub λz hz=>Aq _ (qmx hA z hz)) (st.chg hr' hA kt ⟨v,us,(ze d4).trans hx,hs.keep kt,(ze d7).trans he,(ze d9).trans ha,(ze d10).trans hl,qbs tl kt,?_⟩ rfl)
    rw[qz]
    show _=some (HO.lst ((r.yields++[y]).map V.str))
    rw[A1];rfl
   .refine qd4 (λz=>c3 (V.str.inj z)) ?_
    exact⟨_,rfl,fits (show 1<=100000 by decide),λx1 n1=>⟨x1,a.kC,_,_,rfl,qz,T.kN,zd T.gB En,λd1 H9 hd1 kp o1 od1=>⟨rfl,x1,_,some d1,rfl,o1,⟨_,od1⟩,T.kZ,(kx _ (qfd pn hr' hs' (.inr (.inr c3)))) x1 d1 _ (qah (((Same.refl H)).trans (qa2 n1 kp)) (((Same.refl H)).free n1)) qz ((ze (λz=>by rw[z,qz]at hd1;cases hd1)).trans od1)⟩⟩⟩
theorem qld (T:Txt K mg a):FnOk P w K mg base (CX1 P w) 4 a.fN a.hG ["told", "at", "row"] (spSn a):=by
 refine okX T.bZ.fn qgn (λvs H Q E h=>?_) (λcdv A outer s H vs Q E hr h=>?_)
 .obtain⟨_,_,_,_,_,_,rfl,_⟩:=h
  all_goals rfl
 .obtain⟨d,p,i,rs,As,row,rfl,st,bn,hp,hs,k,kx⟩:=h
  refine⟨_,(qk (zg (i:=3) qgn.nd rfl (A4 rfl) (qhe (qe2 hr) (pv 0) (zy jb (pv 2) qp (λ_ _=>rfl)) (λ_ _=>rfl)))
   (qk (zk (PW.pt (qd1 (zf qaz (zy jb (pv 2) qp (λ_ _=>rfl)) zp (qaf _)) (qd1 (zf qci (qaj (pv 3) rfl) qay (qaf _)) (qd5 (qjt (qf8 (qe2 hr) (qaj (pv 3) rfl) (pv 0))))))) (qu (qc2 rfl (Takes.at qa5) (qdu T.kL.xc T.kS.ty (qeb T) (hr.mono En) rfl T.gM T.kL.kp T.kS.bd .nil qan (qh (qaj (pv 3) rfl) qm qax)))) qab)
   (qu (zk (zf qaz (zy jb (pv 2) qp (λ_ _=>rfl)) zp (qaf _)) (qu (zj (qeh (qk1 T) (hr.mono En) rfl T.gT.mgx T.gT.fn.kp T.gT.bd .nil (Takes.at qa5) (qh (pv 0) (qh (pv 3) (qh (pv 1) (qh (zy jb (pv 2) qp (λ_ _=>rfl)) qm zw) qj) qj) qj)))) qab)))),?_⟩
  have e1:atI (qcf row) 1=some (.str (qbh row)):=by cases row <;>rfl
  cases pn:qam rs (qbh row) with
  |none=>rw[pn]at hs;cases hs
  |some j =>
   obtain⟨r,A,hr',hA,hn,ru,g⟩:=st.get pn
   obtain⟨v,us,hx,_⟩:=id ru
   refine⟨_,rfl,_,rfl,_,_,_,_,rfl,rfl,SqL.of (hp),e1,d,_,rfl,g,?_⟩
   dsimp only[]
   have kr:=KeepT.of (S:=d::As.flatMap own) (Same.refl H)
   cases row with
   |term x w1 o dd y m u =>
    have e:=qhy (x:=x) (i:=i) (w:=w1) (o:=o) (d:=dd) (y:=y) (m:=m) (u:=u) pn hr'
    rw[e]at k kx
    refine⟨_,rfl,_,_,_,_,rfl,rfl,SqL.of (hp),rfl,rfl,_,rfl,qez rfl ?_⟩
    cases eb:r.base with
    |none =>
     rw[eb]at k
     refine⟨_,rfl,_,_,_,_,_,rfl,hx,T.k9,zd T.kA En,rfl,rfl,_,rfl,qdy (by rw[eb];rfl) (qa1 ⟨_,rfl,_,_,_,_,rfl,rfl,SqL.of (hp),rfl,rfl,_,rfl,qat Ek (k _ rfl H kr st)⟩)⟩
    |some z =>
     rw[eb]at k kx
     dsimp only at k kx
     refine⟨_,rfl,_,_,_,_,_,rfl,hx,T.k9,zd T.kA En,rfl,rfl,_,rfl,qd4 (λz=>by rw[eb]at z;cases z) ?_⟩
     cases pz:qam rs z with
     |none =>
      have g2:DGet H d (qc3 r.base) none:=by rw[eb];exact st.non pz
      refine⟨_,rfl,_,_,_,_,_,rfl,hx,T.k9,zd T.kA En,rfl,_,rfl,d,_,rfl,g2,_,rfl,qet ?_⟩
      have kz:∀(x d:Addr)(H':Hp),Same H H'->H' x=some (exO x a.kD (some d) false)->H' d=some (exD d [("name",qc3 r.base)])->E (.ref x) (some d) H':=by
       rw[eb]
       exact kx (.term z) (by rw[pz];rfl)
      exact⟨_,rfl,_,_,_,_,_,rfl,hx,T.k9,zd T.kA En,rfl,fits (show 1<=100000 by decide),λx1 n1=>⟨x1,a.kD,_,_,rfl,qz,T.kL,zd T.gL En,λd1 H9 hd1 kp o1 od1=>⟨rfl,x1,_,some d1,rfl,o1,⟨_,od1⟩,T.bD,kz x1 d1 _ (qah (((Same.refl H)).trans (qa2 n1 kp)) (((Same.refl H)).free n1)) qz ((ze (λz=>by rw[z,qz]at hd1;cases hd1)).trans od1)⟩⟩⟩
     |some jz =>
      obtain⟨_,B2,_,_,_,_,g2⟩:=st.get pz
      have g2:DGet H d (qc3 r.base) (some (.ref B2.p)):=by rw[eb];exact g2
      refine⟨_,rfl,_,_,_,_,_,rfl,hx,T.k9,zd T.kA En,rfl,_,rfl,d,_,rfl,g2,_,rfl,qa1 ⟨_,rfl,_,_,_,_,rfl,rfl,SqL.of (hp),rfl,rfl,_,rfl,qat Ek (k _ (by rw[pz];rfl) H kr st)⟩⟩
   |yields x y =>
    rw[qkt (x:=x) pn]at k kx
    refine⟨_,rfl,_,_,_,_,rfl,rfl,SqL.of (hp),rfl,rfl,_,rfl,qat Ek (qa1 ⟨_,rfl,_,_,_,_,rfl,rfl,SqL.of (hp),rfl,rfl,_,rfl,qez rfl ?_⟩)⟩
    exact⟨_,rfl,_,rfl,_,rfl,_,rfl,_,_,_,_,rfl,rfl,SqL.of (hp),rfl,d,i,j,rs,As,r,A,y,rfl,st,bn,hr',hA,k,kx⟩
   |ends x y =>
    exact⟨_,rfl,_,_,_,_,rfl,rfl,SqL.of (hp),rfl,rfl,_,rfl,qat Ek (qa1 ⟨_,rfl,_,_,_,_,rfl,rfl,SqL.of (hp),rfl,rfl,_,rfl,qat Ek (k _ rfl H kr st)⟩)⟩
   |anew x y =>
    exact⟨_,rfl,_,_,_,_,rfl,rfl,SqL.of (hp),rfl,rfl,_,rfl,qat Ek (qa1 ⟨_,rfl,_,_,_,_,rfl,rfl,SqL.of (hp),rfl,rfl,_,rfl,qat Ek (k _ rfl H kr st)⟩)⟩
   |longer x y u t =>
    exact⟨_,rfl,_,_,_,_,rfl,rfl,SqL.of (hp),rfl,rfl,_,rfl,qat Ek (qa1 ⟨_,rfl,_,_,_,_,rfl,rfl,SqL.of (hp),rfl,rfl,_,rfl,qat Ek (k _ rfl H kr st)⟩)⟩
   |still x y z =>
    exact⟨_,rfl,_,_,_,_,rfl,rfl,SqL.of (hp),rfl,rfl,_,rfl,qat Ek (qa1 ⟨_,rfl,_,_,_,_,rfl,rfl,SqL.of (hp),rfl,rfl,_,rfl,qat Ek (k _ rfl H kr st)⟩)⟩
theorem qm2 (T:Txt K mg a):FnOk P w K mg base CX0 1 a.dR a.fY ["self", "at"] (qx0 K "at"):=by
 refine T.fF.fn.ok qms (λvs H Q E h=>?_) (λcdv A outer s H vs Q E hr h=>?_)
 .obtain⟨_,_,_,_,rfl,_⟩:=h
  all_goals rfl
 .obtain⟨x,C,y,ini,rfl,hx,xa,no,k⟩:=h
  refine⟨_,(qk (zj (qft T.gO rfl T.gJ (qh (pv 0) (qh (pv 1) qm qj) qj)))
   (qu (qhg (pv 0) (pv 1) rfl))),?_⟩
  refine⟨_,rfl,_,rfl,x,C,none,[y],ini,rfl,hx,xa.xc,fits (show 1<=100000 by decide),?_⟩
  refine⟨_,rfl,_,rfl,x,C,true,rfl,xa.set no,.inl ⟨hx,λdx hd=>?_⟩⟩
  have ne:dx≠x:=λz=>by rw[z,hx]at hd;cases hd
  exact k dx _ hd (λb o hb e=>by rw[ze hb,ze (qad e hd)];exact e) qz (by rw[ze ne];exact qz)
theorem qp1 (T:Txt K mg a):FnOk P w K mg base (CX1 P w) 7 a.pM a.nF ["text"] (spBkG a):=by
 refine okX T.bQ.fn qco (λvs H Q E h=>?_) (λcdv A outer s H vs Q E hr h=>?_)
 .obtain⟨_,rfl,_⟩:=h
  all_goals rfl
 .obtain⟨ls,rfl,hls,k,kx⟩:=h
  refine⟨_,(qk (zg (i:=1) qco.nd rfl (A4 rfl) qjy)
   (qk (zg (i:=2) qco.nd rfl (A4 rfl) (zq qm))
   (qk (qbv Bw.leaving rfl (qqn rfl T.fH (qh (zm (qs1 T) (hr.mono En) rfl T.dD.mgx T.dD.fn.kp T.dD.bd .nil qan (qh (pv 0) qm qj)) qm zt)) (qmb rfl (qdh (qai (i:=3) qco.nd rfl (A4 rfl)) (qdh (qai (i:=4) qco.nd rfl (A4 rfl)) qjm))) (qk (zg (i:=5) qco.nd rfl (A4 rfl) (zm (qyl T) (hr.mono En) rfl T.bP.mgx T.bP.fn.kp T.bP.bd .nil qan (qh (pv 4) qm qj)))
   (qk (zk (PW.pt (qd3 (zf qaz (pv 3) (qep (v:=.int 40) rfl T.r6.choose_spec ⟨_,rfl⟩) (qaf _)) (qc9 (zf qtl (pv 5) qay (qaf _))))) (qu (qc2 rfl (Takes.at qa5) (qdu T.gN.xc T.fF.ty (qm2 T) (hr.mono En) rfl T.nC T.gN.kp T.fF.bd .nil qan (qh (pv 3) qm qj)))) qab)
   (qk (zj (qeh (qs5 T) (hr.mono En) rfl T.bB.mgx T.bB.fn.kp T.bB.bd .nil (Takes.at qa5) (qh (pv 1) (qh (pv 3) (qh (pv 5) qm qj) qj) qj)))
   (qu (zj (qde AI AR AS qa7 (pv 2) (qh (pv 5) qm qj))))))))
   (qk (qbv Bw.leaving rfl (qqn rfl T.fH (qh (pv 2) qm qj)) (qmb rfl (qdh (qai (i:=3) qco.nd rfl (A4 rfl)) (qdh (qai (i:=5) qco.nd rfl (A4 rfl)) qjm))) (qu (zj (qeh (qld T) (hr.mono En) rfl T.bZ.mgx T.bZ.fn.kp T.bZ.bd .nil (Takes.at qa5) (qh (pv 1) (qh (pv 3) (qh (pv 5) qm qj) qj) qj)))))
   (qu (zc (qui T.rS (qpx T) (hr.mono En) rfl T.pY T.nJ.bd .nil (Takes.at qa5) (qh (qnw rfl (by rfl) T.kU qdf (pv 1)) qm zt)))))))),?_⟩
  refine λd hd=>?_
  obtain⟨s0,h0⟩:=alc (o:=.dK []) hd
  generalize upd H d _=H0 at s0 h0 |-
  refine⟨qe3,λq hq=>?_⟩
  obtain⟨s1,h1⟩:=alc (o:=.lst []) hq
  have hd1:=s1 _ _ h0
  generalize upd H0 q _=H1 at s1 h1 hd1 |-
  have dq:d≠q:=λz=>by rw[<- z,h0]at hq;cases hq
  have s01:=s0.trans s1
  have nqH:=s0.free hq
  refine⟨_,rfl,ls,rfl,hls,λql H2 nql s2 e2=>?_⟩
  have ndl:ql≠d:=λz=>by rw[z,hd1]at nql;cases nql
  have nlq:ql≠q:=λz=>by rw[z,h1]at nql;cases nql
  have b0:RB a H H2 d q ql ls 0 [] [] [] []:=⟨s01.trans s2,e2,⟨s2 _ _ hd1,rfl,by simp,by simp,(λi r A h=>by cases h)⟩,s2 _ _ h1,rfl,(λj y e=>by cases e),rfl,rfl,(λr hr=>by cases hr),En,(λr hr=>by cases hr),(λr hr=>by cases hr),by simp[AZ dq],by simp[ndl],nlq,λz hz=>by
   simp only[List.flatMap_nil,Ap,Av,or_false]at hz
   rcases hz with rfl|rfl
   .exact nqH
   .exact hd⟩
  have lo:(qjj ls).length=ls.length:=by unfold qjj;rw[Ac]
  have hn:=hls.n
  refine⟨_,_,rfl,e2,qnt (K:=K) (a:=ql) (xs:=ls.map V.str) (λi σ H'=>(∃rs As rv rows,RB a H H' d q ql ls i rs As rv rows)/\∃v3 v4 v5:Option V,σ=[some (.str (qfk ls)),some (.ref d),some (.ref q),v3,v4,v5]) ⟨⟨_,_,_,_,b0⟩,none,none,none,rfl⟩ (λi σ H' _ h=>by obtain⟨⟨_,_,_,_,b⟩,_⟩:=h;exact SqL.of b.hl) ?_ ?_⟩
  .rintro i v t0 σ H' hv ⟨⟨rs,As,rv,rows,b⟩,v3,v4,v5,rfl⟩ ht0
   rw[Ai]at hv
   cases el:ls[i]? with
   |none=>rw[el]at hv;cases hv
   |some l =>
   rw[el]at hv
   cases hv
   have hi:i<ls.length:=(Ag.mp el).1
   obtain⟨ll,_⟩:=hls.c l (Ay el)
   have hop:(qjj ls)[i]?=some (opR l):=by unfold qjj;rw[Ai,el];rfl
   obtain⟨ra,_⟩:=qi8 b.rd hop
   obtain⟨st,et⟩:=alc (o:=.tup [V.int i,V.str l]) ht0
   generalize upd H' t0 _=J0 at st et |-
   refine⟨_,_,rfl,SqT.of et,rfl,_,_,rfl,_,_,rfl,rfl,?_⟩
   have rv':=rowV_R (Cn l (wS " "))
   have er:∀{e:Er},qal [] 0 (qjj ls)=.error e->qi7 ls=.error e:=λh=>by unfold qi7;rw[h]
   refine⟨_,rfl,l,rfl,(by show l.cps.size<=1000;lia),λqr J1 us nqr sr erow eqr=>?_,λerow J1 sr=>?_⟩
   .have b1:=(b.same st).same sr
    cases eo:opR l with
    |none=>unfold opR at eo;rw[eo]at rv';rw[erow]at rv';cases rv'
    |some row =>
    have eu:us=qcf row:=by unfold opR at eo;rw[eo]at rv';rw[erow]at rv';exact A7 rv'
    subst eu
    rw[eo]at hop ra
    refine⟨_,rfl,rfl,_,rfl,qb1 (λc=>?_) (λc=>?_)⟩
    .have c:(i:Int)=40:=V.int.inj (of_decide_eq_true c)
     exact⟨_,rfl,fits (show 1<=100000 by decide),λx1 n1=>⟨x1,a.kE,_,_,rfl,qz,T.gN,zd T.fC En,λd1 H9 hd1 kp o1 od1=>⟨rfl,x1,_,some d1,rfl,o1,⟨_,od1⟩,T.dI,(kx _ (er (ra.trans (qi9 (by lia) _ _)))) x1 d1 _ (qah (((b.sm.trans (st.trans sr))).trans (qa2 n1 kp)) (((b.sm.trans (st.trans sr))).free n1)) qz ((ze (λz=>by rw[z,qz]at hd1;cases hd1)).trans od1)⟩⟩⟩
    have n40:i≠40:=λz=>c (decide_eq_true (by rw[z];rfl))
    refine⟨_,rfl,rfl,_,rfl,qat (λz=>nomatch z) ?_⟩
    have qrn:qr∉d::As.flatMap own:=λz=>(b.same st).st.inn qr z nqr
    have qrq:qr≠q:=λz=>by rw[z,(b.same st).hq]at nqr;cases nqr
    refine⟨_,rfl,_,rfl,_,rfl,d,qr,i,rs,As,row,rfl,b1.st,b1.l6,(λr hr=>by obtain⟨g1,g2,g3,g4⟩:=b1.bn r hr;exact⟨by lia,by lia,by lia,by lia⟩),eqr,λrs' e H3 As' kt fr st'=>?_,λe h=>(kx e (er (ra.trans (qpo n40 h _)))).same b1.sm⟩
    have hq3:H3 q=some (.lst rv):=kt _ _ (.inl b1.qo) b1.hq
    have rl:=b1.rl
    have lr:rows.length<=i:=by
     have:=congrArg DQ b1.ro
     rw[Ac,A2]at this
     lia
    refine⟨_,rfl,.inl ⟨rfl,_,SqL.of hq3⟩,_,rfl,_,_,_,rfl,rfl,hq3,qcx (by lia),?_⟩
    exact⟨⟨_,_,_,_,b1.next eqr qrn qrq hop n40 e kt fr st'⟩,_,_,_,rfl⟩
   .have eo:opR l=none:=by
     cases eo:opR l with
     |none=>rfl
     |some row=>unfold opR at eo;rw[eo]at rv';rw[erow]at rv';cases rv'
    rw[eo]at hop ra
    have sA:=b.sm.trans (st.trans sr)
    refine⟨_,rfl,rfl,_,rfl,qb1 (λc=>?_) (λc=>?_)⟩
    .have c:(i:Int)=40:=V.int.inj (of_decide_eq_true c)
     exact⟨_,rfl,fits (show 1<=100000 by decide),λx1 n1=>⟨x1,a.kE,_,_,rfl,qz,T.gN,zd T.fC En,λd1 H9 hd1 kp o1 od1=>⟨rfl,x1,_,some d1,rfl,o1,⟨_,od1⟩,T.dI,(kx _ (er (ra.trans (qi9 (by lia) _ _)))) x1 d1 _ (qah ((sA).trans (qa2 n1 kp)) ((sA).free n1)) qz ((ze (λz=>by rw[z,qz]at hd1;cases hd1)).trans od1)⟩⟩⟩
    have n40:i≠40:=λz=>c (decide_eq_true (by rw[z];rfl))
    refine⟨_,rfl,rfl,_,rfl,qez rfl ?_⟩
    exact⟨_,rfl,fits (show 1<=100000 by decide),λx1 n1=>⟨x1,a.kE,_,_,rfl,qz,T.gN,zd T.fC En,λd1 H9 hd1 kp o1 od1=>⟨rfl,x1,_,some d1,rfl,o1,⟨_,od1⟩,T.dI,(kx _ (er (ra.trans (qpp n40 _)))) x1 d1 _ (qah ((sA).trans (qa2 n1 kp)) ((sA).free n1)) qz ((ze (λz=>by rw[z,qz]at hd1;cases hd1)).trans od1)⟩⟩⟩
  .rintro σ H' ⟨⟨rs0,As,rv,rows,b⟩,v3,v4,v5,rfl⟩
   have bd:=b.rd
   have bo:=b.ro
   rw[Ac,<- lo,Bx]at bd bo
   have lr:rows.length=ls.length:=by rw[<- lo,bo,Ac]
   have rf:qi7 ls=qao rs0 0 rows:=by
    unfold qi7
    rw[bd,bo]
    dsimp only
    rw[qqz]
   have c0:SB a H H' d q 0 rs0 rs0 As rv rows:=⟨b.sm,b.st,b.hq,b.rl,b.rr,⟨rfl,rfl⟩,rfl,λr hr=>by obtain⟨g1,g2,g3,g4⟩:=b.bn r hr;rw[Ac]at g1 g2 g3 g4;exact⟨by lia,by lia,by lia,by lia⟩,b.nm,b.qo,b.fr⟩
   refine⟨_,rfl,_,_,rfl,b.hq,qnt (K:=K) (a:=q) (xs:=rv) (λi σ J=>(∃rs,SB a H J d q i rs0 rs As rv rows)/\∃v3 v4 v5:Option V,σ=[some (.str (qfk ls)),some (.ref d),some (.ref q),v3,v4,v5]) ⟨⟨_,c0⟩,_,_,_,rfl⟩ (λi σ J _ h=>by obtain⟨⟨_,b⟩,_⟩:=h;exact SqL.of b.hq) ?_ ?_⟩
   .rintro i v t0 σ J hv ⟨⟨rs,sb⟩,v3,v4,v5,rfl⟩ ht0
    have hi:i<rows.length:=by rw[<- b.rl];exact(Ag.mp hv).1
    obtain⟨p,row,rfl,hrow,_,_,_⟩:=sb.rr i v hv
    obtain⟨st,et⟩:=alc (o:=.tup [V.int i,V.ref p]) ht0
    generalize upd J t0 _=J0 at st et |-
    have sb1:=sb.same st
    obtain⟨p2,row2,e2',hrow2,hp,_,_⟩:=sb1.rr i _ hv
    cases e2'
    rw[hrow]at hrow2
    cases hrow2
    obtain⟨sa,_⟩:=qg7 sb1.se hrow
    refine⟨_,_,rfl,SqT.of et,rfl,_,_,rfl,_,_,rfl,rfl,?_⟩
    refine⟨_,rfl,_,rfl,_,rfl,d,p,i,rs,As,row,rfl,sb1.st,(λr hr=>by obtain⟨g1,g2,g3,g4⟩:=sb1.bn r hr;exact⟨by lia,by lia,by lia,by lia⟩),hp,sb1.nm row (Ay hrow),λrs' e H3 kt st'=>?_,λe h=>(kx e (rf.trans (sa.trans (ql4 h _)))).same sb1.sm⟩
    exact⟨⟨_,sb1.next hrow e kt st'⟩,_,_,_,rfl⟩
   .rintro σ J ⟨⟨rs,sb⟩,v3,v4,v5,rfl⟩
    have se:=sb.se
    rw[b.rl,Bx]at se
    have rok:=rf.trans se
    obtain⟨kq,ko⟩:=k rs rok
    have bok:=qx5 se b.st.nn b.ht
    have l6:rs.length<=6:=by
     have:=congrArg DQ sb.sd.nm
     rw[Ac,Ac]at this
     rw[this];exact b.l6
    refine⟨_,rfl,d,_,rfl,sb.st.hd,λqv nqv=>?_⟩
    rw[qn8 sb.st.ln]
    obtain⟨sv,ev⟩:=alc (o:=.lst (As.map λA=>V.ref A.p)) nqv
    generalize upd J qv _=J1 at sv ev |-
    refine λxb dx nx nd ne=>?_
    have keep:Same J1 (upd (upd J1 dx (.own xb)) xb (.ins a.kH dx [])):=λb u e=>by rw[ze (qad e nx),ze (qad e nd)];exact e
    have sAll:=sb.sm.trans sv
    have ruJ:=λi r A h1 h2=>((sb.st.ru i r A h1 h2).same sv)
    refine⟨xb,dx,qv,rs,As,rfl,qz,keep _ _ ev,sb.st.ln,sb.st.nn,l6,bok,λi r A h1 h2=>(ruJ i r A h1 h2).same keep,λH9 os b9 bk9 ors=>⟨rfl,kq xb H9 As os (sAll.trans (b9.made nx nd)) ⟨bk9,sb.st.ln,sb.st.nn,l6,λi r A h1 h2=>(ruJ i r A h1 h2).same (b9.made nx nd),ors,bok⟩⟩,ko.same (sAll.trans keep)⟩
theorem qa3 (T:Txt K mg a):FnOk P w K mg base CX0 1 a.lG a.lW ["_law_script", "_law_k"] (spCell K):=by
 refine T.kB.fn.ok qn6 (λvs H Q E h=>?_) (λcdv A outer s H vs Q E hr h=>?_)
 .obtain⟨_,_,_,rfl,_⟩:=h
  all_goals rfl
 .obtain⟨l,ns,i,rfl,hS,h0,k⟩:=h
  refine⟨_,(qk (zk (zf qtk (pv 1) (zn qbi (by rfl) T.kI qba (qh (pv 0) qm qj)) (qaf _)) (qu (zc (zy jb (pv 0) (pv 1) (λ_ _=>rfl)))) qab)
   (qu (zc qp))),?_⟩
  refine⟨_,rfl,_,rfl,_,_,rfl,.inl ⟨_,hS,rfl⟩,_,_,rfl,rfl,_,rfl,?_⟩
  refine qb1 (λc=>?_) (λc=>?_)
  .exact⟨_,rfl,_,rfl,_,_,_,_,rfl,rfl,hS,qvc h0 (of_decide_eq_true c),k⟩
  .have e:cell ns i=0:=qvd (λz=>c (decide_eq_true z))
   rw[e]at k;exact k
theorem qk2 (T:Txt K mg a):FnOk P w K mg base CX0 1 a.lP a.mM ["_law_cell", "_law_many"] spWo7:=by
 refine T.gA.fn.ok qa8 (λvs H Q E h=>?_) (λcdv A outer s H vs Q E hr h=>?_)
 .obtain⟨_,_,rfl,_⟩:=h
  all_goals rfl
 .obtain⟨c,m,rfl,hm,k⟩:=h
  refine⟨_,(qk (zg (i:=2) qa8.nd rfl (A4 rfl) zp)
   (qk (zg (i:=3) qa8.nd rfl (A4 rfl) (zh qa6 (zh qa6 qp (zh qas (pv 0) qp)) (zh qas (zh qbj (pv 0) qp) (zh qie qp (zh qas (pv 0) qp)))))
   (qk (zg (i:=4) qa8.nd rfl (A4 rfl) (zh qas (zh qbj (pv 0) qp) (zh qie (pv 3) (zh qas (pv 0) qp))))
   (qk (zg (i:=5) qa8.nd rfl (A4 rfl) (zq (qh qp (qh qp (qh qp (qh qp (qh qp (qh qp (qh qp (qh qp qm zb) zb) zb) zb) zb) zb) zb) zb)))
   (qk (zg (i:=6) qa8.nd rfl (A4 rfl) zp)
   (qk (qbv Bl rfl (qca rfl T.kQ (qh (pv 3) qm qj)) (qai (i:=7) qa8.nd rfl (A4 rfl)) (qu (zg (i:=6) qa8.nd rfl (A4 rfl) (zh qac (pv 6) (zy qtq (pv 2) (zh qas (zh qas (zh qdp (pv 0) qp) (zy jb (pv 5) (pv 7) (λ_ _=>rfl))) qp) (λ_ _=>rfl))))))
   (qk (zg (i:=8) qa8.nd rfl (A4 rfl) (zq qm))
   (qk (qbv Bl rfl (qca rfl T.kQ (qh (pv 1) qm qj)) (qai (i:=7) qa8.nd rfl (A4 rfl)) (qk (zg (i:=9) qa8.nd rfl (A4 rfl) (zh qas (zh qa6 (zh qbj (pv 0) qp) (zh qbj (pv 7) (zh qa6 qp (zh qas (pv 0) qp)))) qp))
   (qk (zg (i:=10) qa8.nd rfl (A4 rfl) (zh qac (zh qac (qa4 qo1 (pv 6) qcs (qa0 (pv 4))) (zy qtq (pv 2) (pv 9) (λ_ _=>rfl))) (qa4 qo1 (pv 6) (qa0 (zh qa6 (pv 4) qp)) qcs)))
   (qk (zk (PW.pt (qd1 (zf qaz (zh qas (pv 0) qp) qp (qaf _)) (qd5 (zf qaz (zh qas (pv 7) qp) qp (qaf _))))) (qu (zg (i:=10) qa8.nd rfl (A4 rfl) (qa4 qo1 (pv 10) qcs (qa0 (zh qa6 (pv 4) qp))))) qab)
   (qu (zj (qde AI AR AS qa7 (pv 8) (qh (pv 10) qm qj))))))))
   (qu (zc (pv 8))))))))))),?_⟩
  have za:=az_len
  obtain⟨z,n,e,eS,en,ee,he,hn,hz,g1,g2⟩:=num46 c
  have m52:m<=52:=hm.elim (λh=>A3 h En) (·.2)
  refine⟨_,rfl,_,_,rfl,rfl,(pos En),_,_,rfl,rfl,_,rfl,_,_,rfl,rfl,⟨En,En⟩,_,rfl,_,_,rfl,rfl,(pos En),_,_,rfl,rfl,_,_,rfl,rfl,(pos g1),_,_,rfl,rfl,?_⟩
  dsimp only[]
  rw[eS]
  refine⟨_,rfl,_,_,rfl,rfl,⟨En,En⟩,_,rfl,_,rfl,_,_,rfl,rfl,(pos En),_,_,rfl,rfl,_,_,rfl,rfl,(pos g2),?_⟩
  dsimp only[]
  rw[en]
  refine⟨fits (show 8<=100000 by decide),λpp hpp=>?_⟩
  have s0:=zi (o:=.lst (prL.map V.int)) hpp
  have h0:upd H pp (.lst (prL.map V.int)) pp=some (.lst (prL.map V.int)):=qz
  change _ at h0
  have e0:upd H pp (.lst [V.int 100003,V.int 100019,V.int 100043,V.int 100049,V.int 100057,V.int 100069,V.int 100103,V.int 100109])=upd H pp (.lst (prL.map V.int)):=rfl
  rw[e0]
  generalize upd H pp (.lst (prL.map V.int))=H0 at s0 h0 |-
  have bnd:=rb (n:=z) (A3 hz En)
  refine⟨_,rfl,_,rfl,bnd.1,bnd.2,qdo (lo:=0) (n:=((z:Int)).toNat) (λi σ H'=>H'=H0/\∃(x:Str)(v7:Option V),σ=[some (.int c),some (.int (m:Int)),some (.str az),some (.int (z:Int)),some (.int (n:Int)),some (.ref pp),some (.str x),v7,none,none,none]/\x.length=i/\x.cps.toList.all low=true)
   ⟨rfl,Ab "",none,rfl,Ek,Ek⟩ ?_ ?_⟩
  .rintro i σ H' hi ⟨rfl,x,v7,rfl,hl,hlow⟩
   have hi:i<z:=hi
   rw[C3]
   obtain⟨p,p0,pa⟩:=pr_at (k:=i) (A8 hi hz)
   obtain⟨j,ej,j26⟩:∃j:Nat,c*48271 % p % 26=(j:Int)/\j<26:=md _ 26 En
   refine⟨_,rfl,_,rfl,_,rfl,_,_,rfl,rfl,.inr ⟨En,En⟩,_,rfl,_,rfl,_,_,_,_,rfl,rfl,SqL.of h0,qc6 pa,_,_,rfl,rfl,(pos p0),_,_,rfl,rfl,(pos En),_,_,_,rfl,rfl,fits (by rw[za];decide),(show atI az.cps.toList (c*48271 % p % 26)=_ by rw[ej];exact qyw j26),_,_,rfl,rfl,fits (show x.length+1<=100000 by lia),?_⟩
   refine⟨rfl,_,_,rfl,?_,?_⟩
   .rw[qgj,hl]
    rfl
   .rw[qdz,List.all_append,hlow]
    show (true && [97+j].all low)=true
    rw[C9,low26 j26];rfl
  .rintro σ H' ⟨rfl,st,v7,rfl,hl,hlow⟩
   have hl:st.length=z:=hl
   refine⟨qe3,λq hq=>?_⟩
   have s1:=s0.trans (zi (o:=.lst []) hq)
   have h1:=qz (H:=H') (a:=q) (o:=.lst [])
   have nq:=s0.free hq
   generalize upd H' q _=H1 at s1 h1 |-
   have bm:=rb (n:=m) (A3 m52 En)
   refine⟨_,rfl,_,rfl,bm.1,bm.2,qdo (lo:=0) (n:=((m:Int)).toNat) (λi σ H'=>Same H H'/\∃v7 v9 v10:Option V,σ=[some (.int c),some (.int (m:Int)),some (.str az),some (.int (z:Int)),some (.int (n:Int)),some (.ref pp),some (.str st),v7,some (.ref q),v9,v10]/\H' q=some (.lst (((Bh i).map (wdS st.cps.toList n e (c / 128))).map V.str)))
    ⟨s1,_,none,none,rfl,h1⟩ ?_ ?_⟩
   .rintro i σ H' hi ⟨s2,v7,v9,v10,rfl,h2⟩
    have hi:i<m:=hi
    rw[C3]
    have lz:((((Bh i).map (wdS st.cps.toList n e (c / 128))).map V.str)).length<=90000:=by rw[Ac,Ac,BX];exact A3 (D0 hi) (A3 m52 En)
    have ed:(c / 128+(i:Int) / (1+c % 2)) % 26=(((sgn (c / 128) e i-97:Nat)):Int):=sgn_ed ee
    have sg26:sgn (c / 128) e i-97<26:=sgn_26
    have sg97:97+(sgn (c / 128) e i-97)=sgn (c / 128) e i:=sgn_97
    refine⟨_,rfl,_,_,rfl,rfl,⟨En,En⟩,_,rfl,_,rfl,_,_,rfl,rfl,(pos En),_,_,rfl,rfl,_,_,rfl,rfl,cd2 ee he,_,_,rfl,rfl,_,_,rfl,rfl,(pos En),?_⟩
    dsimp only[]
    rw[ed]
    have cat:=qyw sg26
    rw[sg97]at cat
    have t1:=A3 (DV st none (some (n:Int))) (BS hl)
    have t2:=A3 (DV st (some ((n:Int)+1)) none) (BS hl)
    refine⟨_,rfl,_,rfl,_,rfl,_,rfl,fits (A3 (BS hl) (A3 hz En)),_,rfl,_,rfl,_,_,_,rfl,rfl,fits (by rw[za];decide),cat,_,_,rfl,rfl,fits (A3 (D6 t1) (A3 (D6 hz) En)),_,rfl,_,rfl,_,_,rfl,rfl,_,rfl,_,rfl,fits (A3 (BS hl) (A3 hz En)),_,_,rfl,rfl,fits (by rw[qgj];exact A3 (Nat.add_le_add (D6 t1) t2) (A3 (Nat.add_le_add (D6 hz) hz) En)),?_⟩
    dsimp only[]
    rw[qxu (st:=st) (n:=n) (c:=sgn (c / 128) e i) (by rw[hl];exact A3 (Nat.le_add_right _ _) hn)]
    have lL:st.cps.toList.length=z:=by rw[A6];exact hl
    have lw:(⟨(wdL st.cps.toList n (sgn (c / 128) e i)).toArray⟩:Str).length<=100000:=by
     show (wdL st.cps.toList n (sgn (c / 128) e i)).toArray.size<=100000
     rw[Ao]
     unfold wdL
     rw[Aj,At,A2,B9,lL]
     lia
    have fin:∀w:Str,w=wdS st.cps.toList n e (c / 128) i->∀v9:Option V,Same H (upd H' q (.lst ((((Bh i).map (wdS st.cps.toList n e (c / 128))).map V.str)++[V.str w])))/\∃v7 v9' v10:Option V,[some (V.int c),some (.int (m:Int)),some (.str az),some (.int (z:Int)),some (.int (n:Int)),some (.ref pp),some (.str st),some (.int (i:Int)),some (.ref q),v9,some (.str w)]=[some (V.int c),some (.int (m:Int)),some (.str az),some (.int (z:Int)),some (.int (n:Int)),some (.ref pp),some (.str st),v7,some (.ref q),v9',v10]/\upd H' q (.lst ((((Bh i).map (wdS st.cps.toList n e (c / 128))).map V.str)++[V.str w])) q=some (.lst (((Bh (i+1)).map (wdS st.cps.toList n e (c / 128))).map V.str)):=λw hw v9=>by
     refine⟨qah s2 nq,_,_,_,rfl,?_⟩
     rw[qz,List.range_succ,A1,A1,hw]
     rfl
    refine⟨_,rfl,_,_,rfl,rfl,(pos En),rfl,_,rfl,?_⟩
    by_cases c1:c % 2=1
    .refine qez (congrArg V.int c1) ⟨_,rfl,_,_,rfl,rfl,(pos En),rfl,_,rfl,?_⟩
     by_cases c2:(i:Int) % 2=1
     .refine qez (congrArg V.int c2) ⟨_,rfl,_,rfl,_,_,rfl,rfl,_,rfl,_,rfl,fits lw,?_⟩
      dsimp only[]
      rw[cut_eq (by rw[lL];exact A3 (Nat.le_add_right _ _) hn)]
      refine⟨_,rfl,.inl ⟨rfl,_,SqL.of h2⟩,_,rfl,_,_,_,rfl,rfl,h2,qcx lz,?_⟩
      exact fin _ (by unfold wdS;rw[if_pos ⟨eo1 ee c1,io1 c2⟩]) _
     .refine qat (λz=>c2 (V.int.inj z)) ⟨_,rfl,.inl ⟨rfl,_,SqL.of h2⟩,_,rfl,_,_,_,rfl,rfl,h2,qcx lz,?_⟩
      exact fin _ (by unfold wdS;rw[if_neg (λz=>ni1 c2 z.2)]) _
    .refine qat (λz=>c1 (V.int.inj z)) (qa1 ⟨_,rfl,.inl ⟨rfl,_,SqL.of h2⟩,_,rfl,_,_,_,rfl,rfl,h2,qcx lz,?_⟩)
     exact fin _ (by unfold wdS;rw[if_neg (λz=>ne1 ee c1 z.1)]) _
   .rintro σ H' ⟨s2,v7,v9,v10,rfl,h2⟩
    refine⟨_,rfl,k q H' _ nq s2 h2 (by rw[Ac,BX];rfl) (wds_nd he (by rw[A6];show n+1+e<=st.length;rw[hl];exact hn) (λk hk=>?_)) (λx hx=>?_)⟩
    .rcases Nat.le_one_iff_eq_zero_or_eq_one.mp he with rfl|rfl
     .rw[Nat.div_one];lia
     .lia
    obtain⟨j,_,rfl⟩:=AW.mp hx
    have lL:st.cps.toList.length=z:=by rw[A6];exact hl
    exact wds_ok hlow (by lia) (by lia) j
theorem qgt (T:Txt K mg a):FnOk P w K mg base CX0 1 a.lO a.mO ["_law_words_here", "_law_cell"] spKp2:=by
 refine T.kX.fn.ok qbw (λvs H Q E h=>?_) (λcdv A outer s H vs Q E hr h=>?_)
 .obtain⟨_,_,_,rfl,_⟩:=h
  all_goals rfl
 .obtain⟨p,c,ws,rfl,hp,nd,ok,l100,k⟩:=h
  refine⟨_,(qk (zg (i:=2) qbw.nd rfl (A4 rfl) (zq (qh zp (qh zp (qh zp (qh zp (qh zp (qh zp (qh zp (qh zp qm zb) zb) zb) zb) zb) zb) zb) zb)))
   (qk (zg (i:=2) qbw.nd rfl (A4 rfl) (zh qce (pv 2) (zq (qh zp (qh zp (qh zp (qh zp (qh zp (qh zp qm zb) zb) zb) zb) zb) zb))))
   (qk (qbv Bl rfl (qca rfl T.kQ (qh qp qm zb)) (qai (i:=3) qbw.nd rfl (A4 rfl)) (qk (zg (i:=4) qbw.nd rfl (A4 rfl) (zy jb (pv 2) (zh qas (zh qbj (pv 1) (zh qa6 qp (zh qdp qp (pv 3)))) qp) (λ_ _=>rfl)))
   (qk (zg (i:=5) qbw.nd rfl (A4 rfl) (zh qas (zh qa6 (zh qdp (zh qbj (pv 1) qp) qp) (zh qdp qp (pv 3))) (zn (qrb rfl) (by rfl) T.sO qva (qh qp (qh (zn qbi (by rfl) T.kI qba (qh (pv 0) qm qj)) qm zt) zb))))
   (qu (zk (PW.pt (qd1 (zf qaz (zh qas (pv 1) qp) qp (qaf _)) (qd1 (zf qtk (pv 5) (zn qbi (by rfl) T.kI qba (qh (pv 0) qm qj)) (qaf _)) (qd5 (zf qe6 (pv 4) (pv 0) (by with_unfolding_all rfl)))))) (qu (zg (i:=0) qbw.nd rfl (A4 rfl) (zh qce (zh qce (qa4 qb3 (pv 0) qcs (qa0 (pv 5))) (zq (qh (pv 4) qm qj))) (qa4 qb3 (pv 0) (qa0 (zh qa6 (pv 5) qp)) qcs)))) qab)))))
   (qu (zc (pv 0)))))),?_⟩
  refine⟨fits (show 8<=100000 by decide),λq1 n1=>?_⟩
  generalize hh:upd H q1 _=H1
  obtain⟨s1,e1⟩:=alg hh n1
  clear hh
  refine⟨_,rfl,fits (show 6<=100000 by decide),λq2 n2=>?_⟩
  generalize hh:upd H1 q2 _=H2
  obtain⟨s2,e2⟩:=alg hh n2
  clear hh
  refine⟨_,_,_,_,rfl,rfl,s2 _ _ e1,e2,fits (show 8+6<=100000 by decide),λq3 n3=>?_⟩
  generalize hh:upd H2 q3 _=H3
  obtain⟨s3,e3⟩:=alg hh n3
  clear hh
  have e3:H3 q3=some (.lst (qh9.map V.str)):=e3
  have s03:=s1.trans (s2.trans s3)
  have bnd:=rb (n:=2) En
  refine⟨_,rfl,bnd.1,bnd.2,qdo (lo:=0) (n:=2) (λi σ J=>Same H J/\J q3=some (.lst (qh9.map V.str))/\∃(qw:Addr)(zs:List Str)(v3 v4 v5:Option V),J qw=some (.lst (zs.map V.str))/\WsOk ws.length zs/\σ=[some (.ref qw),some (.int c),some (.ref q3),v3,v4,v5]) ⟨s03,e3,p,ws,none,none,none,s03 _ _ hp,⟨rfl,nd,ok⟩,rfl⟩ ?_ ?_⟩
  .rintro i σ J hi ⟨sJ,kJ,qw,zs,v3,v4,v5,hw,wo,rfl⟩
   have lz:=wo.l
   rw[C3]
   obtain⟨j,ej,hj⟩:∃j:Nat,c / (5+9*(i:Int)) % 14=(j:Int)/\j<14:=md _ 14 En
   have hi:i<2:=hi
   have hk:qh9[j]?=some (qh9[j]'hj):=Ak hj
   have kok:qbk (qh9[j]'hj):=qv7 _ (Bb hj)
   have aj:atI (qh9.map V.str) (j:Int)=some (.str (qh9[j]'hj)):=qc6 (by rw[Ai,hk];rfl)
   refine⟨_,rfl,_,rfl,_,rfl,_,_,rfl,rfl,.inl ⟨En,En⟩,_,_,rfl,rfl,_,_,rfl,rfl,⟨by lia,by lia⟩,_,_,rfl,rfl,(pos En),?_⟩
   dsimp only[]
   rw[ej]
   refine⟨_,_,_,_,rfl,rfl,SqL.of kJ,aj,?_⟩
   generalize qh9[j]'hj=wd at kok
   have lzs:(zs.map V.str).length=zs.length:=Ac _
   have em:(if (((zs.map V.str).length:Nat):Int) > 1 then (((zs.map V.str).length:Nat):Int) else 1)=((if zs.length > 1 then zs.length else 1:Nat):Int):=by
    rw[lzs]
    by_cases c1:zs.length > 1
    .rw[if_pos c1,if_pos (by lia)]
    .rw[if_neg c1,if_neg (by lia)];rfl
   have pm:0<(if zs.length > 1 then zs.length else 1):=by
    by_cases c1:zs.length > 1
    .rw[if_pos c1];lia
    .rw[if_neg c1];decide
   obtain⟨t,et,ht⟩:=md (c / 5*7+5*(i:Int)) _ pm
   refine⟨_,rfl,_,_,rfl,rfl,⟨En,En⟩,_,_,rfl,rfl,.inr ⟨En,En⟩,_,rfl,_,_,rfl,rfl,.inl ⟨En,En⟩,_,_,rfl,rfl,_,rfl,_,_,rfl,.inl ⟨_,SqL.of hw,rfl⟩,_,_,rfl,_,_,rfl,rfl,pos (by rw[em];lia),?_⟩
   dsimp only[]
   rw[em,et]
   refine⟨_,rfl,_,_,rfl,rfl,(pos En),rfl,_,rfl,qb1 (λc1=>?_) (λc1=>?_)⟩
   .refine⟨_,rfl,_,rfl,_,_,rfl,.inl ⟨_,SqL.of hw,rfl⟩,_,_,rfl,rfl,_,rfl,qb1 (λc2=>?_) (λc2=>?_)⟩
    .have tl:t<zs.length:=by
      have:=of_decide_eq_true c2
      rw[lzs]at this
      lia
     refine⟨_,rfl,_,rfl,_,_,rfl,.inl (SqL.of hw),rfl,qbg _,_,rfl,?_⟩
     show if (!inV (.str wd) (zs.map V.str))=true then _ else _
     rw[qb9]
     refine qb1 (λc3=>?_) (λc3=>?_)
     .have nm:wd∉zs:=λz=>by
       rw[C0.mpr z]at c3
       cases c3
      refine⟨_,rfl,_,rfl,_,rfl,_,_,rfl,SqL.of hw,λp5 n5=>?_⟩
      rw[qog]
      generalize hh:upd J p5 _=J5
      obtain⟨s5,e5⟩:=alg hh n5
      clear hh
      refine⟨_,rfl,fits (show 1<=100000 by decide),λp6 n6=>?_⟩
      generalize hh:upd J5 p6 _=J6
      obtain⟨s6,e6⟩:=alg hh n6
      clear hh
      refine⟨_,_,_,_,rfl,rfl,s6 _ _ e5,e6,fits (by rw[A2,lzs];show _+1<=_;lia),λp7 n7=>?_⟩
      generalize hh:upd J6 p7 _=J7
      obtain⟨s7,e7⟩:=alg hh n7
      clear hh
      have s47:=s5.trans (s6.trans s7)
      refine⟨_,rfl,_,rfl,_,_,rfl,rfl,_,rfl,_,_,rfl,SqL.of (s47 _ _ hw),λp8 n8=>?_⟩
      rw[show (t:Int)+1=((t+1:Nat):Int) from rfl,qko _ (t+1) (by rw[lzs];lia)]
      generalize hh:upd J7 p8 _=J8
      obtain⟨s8,e8⟩:=alg hh n8
      clear hh
      refine⟨_,_,_,_,rfl,rfl,s8 _ _ e7,e8,fits (by rw[Aj,A2,B9,lzs];show _+1+_<=_;lia),λp9 n9=>?_⟩
      generalize hh:upd J8 p9 _=J9
      obtain⟨s9,e9⟩:=alg hh n9
      clear hh
      have s49:=s47.trans (s8.trans s9)
      refine⟨sJ.trans s49,s49 _ _ kJ,p9,_,_,_,_,?_,wo.put tl nm kok,rfl⟩
      rw[e9]
      simp only[A1,Cp,DI,AA,BV]
     .exact⟨sJ,kJ,qw,zs,_,_,_,hw,wo,rfl⟩
    .exact qa1 ⟨sJ,kJ,qw,zs,_,_,_,hw,wo,rfl⟩
   .exact qa1 ⟨sJ,kJ,qw,zs,_,_,_,hw,wo,rfl⟩
  .rintro σ J ⟨sJ,kJ,qw,zs,v3,v4,v5,hw,wo,rfl⟩
   exact⟨_,rfl,k qw J zs sJ hw wo.l wo.nd wo.ok⟩
theorem qon (T:Txt K mg a):FnOk P w K mg base CX0 2 a.nZ a.pA ["_law_script", "_law_at", "_law_names"] (spYl K):=by
 refine T.bR.fn.ok qcp (λvs H Q E h=>?_) (λcdv A outer s H vs Q E hr h=>?_)
 .obtain⟨_,_,_,_,_,rfl,_⟩:=h
  all_goals rfl
 .obtain⟨l,pn,ns,k0,names,rfl,hS,hn,nnd,hk,l6,k⟩:=h
  refine⟨_,(qk (zg (i:=3) qcp.nd rfl (A4 rfl) (zm (qa3 T) (hr.mono En) rfl T.kB.mgx T.kB.fn.kp T.kB.bd .nil qan (qh (pv 0) (qh (zh qa6 qp (zh qdp qp (pv 1))) qm zu) qj)))
   (qk (zg (i:=4) qcp.nd rfl (A4 rfl) (zh qas (zm (qa3 T) (hr.mono En) rfl T.kB.mgx T.kB.fn.kp T.kB.bd .nil qan (qh (pv 0) (qh (zh qa6 qp (zh qdp qp (pv 1))) qm zu) qj)) qp))
   (qk (zg (i:=5) qcp.nd rfl (A4 rfl) (zq qm))
   (qk (qbv Bl rfl (qca rfl T.kQ (qh (zn qbi (by rfl) T.kI qba (qh (pv 2) qm qj)) qm zt)) (qai (i:=6) qcp.nd rfl (A4 rfl)) (qk (zg (i:=7) qcp.nd rfl (A4 rfl) (zh qas (zh qbj (pv 3) (zh qdp qp (zy jb (zq (qh qp (qh qp (qh qp (qh qp (qh qp (qh qp qm zb) zb) zb) zb) zb) zb)) (pv 6) (λ_ _=>rfl)))) qp))
   (qk (zg (i:=8) qcp.nd rfl (A4 rfl) (zh qas (zm (qa3 T) (hr.mono En) rfl T.kB.mgx T.kB.fn.kp T.kB.bd .nil qan (qh (pv 0) (qh (zh qa6 qp (zh qdp qp (pv 6))) qm zu) qj)) qp))
   (qu (zk (PW.pt (qd1 (zf qqb (pv 6) (pv 1) (qaf _)) (qd1 (zf qaz (pv 8) (pv 4) (qaf _)) (qd5 (zf qaz (pv 7) qp (qaf _)))))) (qu (zj (qde AI AR AS qa7 (pv 5) (qh (zy jb (pv 2) (pv 6) (λ_ _=>rfl)) qm zw)))) qab)))))
   (qk (zk (zf qaz (zh qas (zh qbj (pv 3) qp) qp) qp (qaf _)) (qu (zc (qj7 rfl (by rfl) T.kU (by rfl) T.mS qdf (qh (pv 5) qm qj)))) qab)
   (qu (zc (pv 5)))))))),?_⟩
  have s0:=Same.refl H
  refine⟨_,rfl,_,rfl,_,_,rfl,rfl,qoz En En,_,_,rfl,rfl,_,_,_,rfl,hS,by lia,?_⟩
  dsimp only[]
  generalize cell ns (7+5*(k0:Int))=c
  refine⟨_,rfl,_,rfl,_,_,rfl,rfl,qoz En En,_,_,rfl,rfl,_,_,_,rfl,hS,by lia,_,_,rfl,rfl,(pos En),?_⟩
  refine⟨qe3,λq hq=>?_⟩
  obtain⟨s1,h1⟩:=alc (o:=.lst []) hq
  generalize upd H q _=H1 at s1 h1 |-
  have ln:(names.map V.str).length=names.length:=Ac _
  have bnd:=rb (n:=(names.map V.str).length) (by lia)
  have mine:((cell ns (3+5*(k0:Int)) % 3:Int))=((owA ns k0:Nat):Int):=qq0
  dsimp only[]
  rw[mine]
  refine⟨_,rfl,_,_,rfl,.inl ⟨_,SqL.of (s1 _ _ hn),rfl⟩,_,rfl,bnd.1,bnd.2,qdo (lo:=0) (n:=(((names.map V.str).length:Int)).toNat) (λi σ H'=>Same H H'/\(∃ys:List Str,H' q=some (.lst (ys.map V.str))/\ys.length<=i/\YlOk names (owA ns) k0 ys/\∀y∈ys,∃b,b<i/\y=nm names b)/\∃v6 v7 v8:Option V,σ=[some (.ref l),some (.int (k0:Int)),some (.ref pn),some (.int c),some (.int ((owA ns k0:Nat):Int)),some (.ref q),v6,v7,v8]) ⟨s1,⟨[],h1,Ax _,⟨.nil,λy hy=>absurd hy Av⟩,λy hy=>absurd hy Av⟩,none,none,none,rfl⟩ ?_ ?_⟩
  .rintro i σ H' hi ⟨s2,⟨ys,h2,ly,yo,yb⟩,v6,v7,v8,rfl⟩
   have hi:i<names.length:=by rw[ln]at hi;lia
   rw[C3]
   obtain⟨m,em,m1,m32⟩:=pos12 i (by lia)
   refine⟨_,rfl,fits (show 6<=100000 by decide),λpp npp=>?_⟩
   obtain⟨s3,e3⟩:=alc (o:=.lst [V.int 1,V.int 2,V.int 4,V.int 8,V.int 16,V.int 32]) npp
   generalize upd H' pp _=H3 at s3 e3 |-
   have s23:=s2.trans s3
   refine⟨_,rfl,_,_,_,_,rfl,rfl,SqL.of e3,em,_,_,rfl,rfl,.inl ⟨En,En⟩,_,_,rfl,rfl,⟨by lia,by lia⟩,_,_,rfl,rfl,(pos En),?_⟩
   refine⟨_,rfl,_,rfl,_,_,rfl,rfl,qoz En En,_,_,rfl,rfl,_,_,_,rfl,s23.seq hS,by lia,_,_,rfl,rfl,(pos En),?_⟩
   dsimp only[]
   have theirs:((cell ns (3+5*(i:Int)) % 3:Int))=((owA ns i:Nat):Int):=qq0
   rw[theirs]
   have h3:=s3 _ _ h2
   have up:∀y∈ys,∃b,b<i+1/\y=nm names b:=λy hy=>by obtain⟨b,h1,h2⟩:=yb y hy;exact⟨b,by lia,h2⟩
   have stay:Same H H3/\(∃ys:List Str,H3 q=some (.lst (ys.map V.str))/\ys.length<=i+1/\YlOk names (owA ns) k0 ys/\∀y∈ys,∃b,b<i+1/\y=nm names b):=⟨s23,ys,h3,by lia,yo,up⟩
   refine⟨_,rfl,_,rfl,rfl,_,rfl,?_⟩
   by_cases c1:i=k0
   .exact qdy (by rw[c1]) (qa1 ⟨stay.1,stay.2,_,_,_,rfl⟩)
   .refine qd4 (λz=>c1 (Int.ofNat.inj (V.int.inj z))) ⟨_,rfl,_,rfl,rfl,_,rfl,?_⟩
    by_cases c2:owA ns i=owA ns k0
    .refine qez (by rw[c2]) ⟨_,rfl,rfl,_,rfl,qb1 (λc3=>?_) (λc3=>⟨stay.1,stay.2,_,_,_,rfl⟩)⟩
     refine⟨_,rfl,.inl ⟨rfl,_,SqL.of h3⟩,_,rfl,_,rfl,_,_,_,_,rfl,rfl,SqL.of (s23 _ _ hn),qc6 (nmV hi),_,_,_,rfl,rfl,h3,qcx (by rw[Ac];lia),?_⟩
     refine⟨qah s23 hq,⟨ys++[nm names i],by rw[qz,A1];rfl,by rw[Aj];show _+1<=_;lia,⟨?_,λy hy=>?_⟩,λy hy=>?_⟩,_,_,_,rfl⟩
     .rw[AQ]
      refine⟨yo.nd,by simp,λa ha b hb e=>?_⟩
      obtain⟨b',hb',eb⟩:=yb a ha
      rw[e,An.mp hb]at eb
      have:=qip nnd hi (by lia) eb
      lia
     .rcases AH.mp hy with z|z
      .exact yo.ok y z
      .rw[An.mp z];exact⟨i,hi,rfl,c1,c2⟩
     .rcases AH.mp hy with z|z
      .exact up y z
      .rw[An.mp z];exact⟨i,by lia,rfl⟩
    .exact qat (λz=>c2 (Int.ofNat.inj (V.int.inj z))) (qa1 ⟨stay.1,stay.2,_,_,_,rfl⟩)
  .rintro σ H' ⟨s2,⟨ys,h2,ly,yo,yb⟩,v6,v7,v8,rfl⟩
   refine⟨_,rfl,_,_,rfl,rfl,⟨En,En⟩,_,_,rfl,rfl,(pos En),rfl,_,rfl,qb1 (λc1=>?_) (λc1=>?_)⟩
   .refine⟨_,rfl,_,_,rfl,SqL.of h2,λq2 hq2=>?_⟩
    rw[<- List.map_reverse]
    exact k q2 _ _ (s2.free hq2) (s2.trans (zi hq2)) qz (qvs yo)
   .exact⟨_,rfl,k q H' ys hq s2 h2 yo⟩
theorem qs6 (T:Txt K mg a):FnOk P w K mg base CX0 2 a.pG a.fK ["_law_script", "_law_at", "_law_names"] (spBaL K):=by
 refine T.bY.fn.ok qed (λvs H Q E h=>?_) (λcdv A outer s H vs Q E hr h=>?_)
 .obtain⟨_,_,_,_,_,rfl,_⟩:=h
  all_goals rfl
 .obtain⟨l,pn,ns,k0,names,rfl,hS,hn,hk,l6,k⟩:=h
  refine⟨_,(qk (zg (i:=3) qed.nd rfl (A4 rfl) (zh qbj (zm (qa3 T) (hr.mono En) rfl T.kB.mgx T.kB.fn.kp T.kB.bd .nil qan (qh (pv 0) (qh qp qm zb) qj)) qp))
   (qk (zg (i:=4) qed.nd rfl (A4 rfl) (zm (qa3 T) (hr.mono En) rfl T.kB.mgx T.kB.fn.kp T.kB.bd .nil qan (qh (pv 0) (qh (zh qa6 qp (zh qdp qp (pv 1))) qm zu) qj)))
   (qk (zg (i:=5) qed.nd rfl (CQ rfl) (zq qm))
   (qk (qbv Bl rfl (qca rfl T.kQ (qh (zn qbi (by rfl) T.kI qba (qh (pv 2) qm qj)) qm zt)) (qai (i:=6) qed.nd rfl (A4 rfl)) (qu (zj (qde AI AR AS qa7 (pv 5) (qh (zh qas (zh qa6 (zh qdp (pv 6) (zh qa6 qp (zh qas (pv 3) qp))) (zh qbj (pv 3) qp)) qp) qm zu)))))
   (qk (qdb (i:=7) qed.nd rfl rfl (N:=["_law_k", "_law_ranks", "_law_at"]) (js:=[none,some 5,some 1]) (XN:=["_law_script", "_law_at", "_law_names", "_law_turn", "_law_cell", "_law_ranks", "_law_k", "_law_below"]) (xs:=qaa qhm) rfl rfl rfl Ek (qca rfl T.kQ (qh (zn qbi (by rfl) T.kI qba (qh (pv 2) qm qj)) qm zt)) (λ_ _ _ _ _ _=>(qai (i:=0) (show Cd (["_law_k", "_law_ranks", "_law_at"]:List Str) from by decide +kernel) rfl (A4 rfl) (CQ rfl))) (λ_ _ _ _ _ _=>(qwp (zf qtk (zy (qns (K:=K) rfl) (pv 1) (pv 0) (λ_ _=>rfl)) (zy (qns (K:=K) rfl) (pv 1) (pv 2) (λ_ _=>rfl)) (qaf _)))) (λ_ _ _ _ _ _=>(pv 0)))
   (qk (zk (PW.pt (qd1 (zf qaz (zh qas (pv 4) qp) qp (qaf _)) (qd5 (zf (qud hr.units0) (pv 7) (zq qm) (qaf _))))) (qu (zc (zy jb (pv 2) (zy jb (pv 7) (zh qas (zh qbj (pv 4) qp) (zn qbi (by rfl) T.kI qba (qh (pv 7) qm qj))) (λ_ _=>rfl)) (λ_ _=>rfl)))) qab)
   (qu (zc qay)))))))),?_⟩
  have s0:=Same.refl H
  refine⟨_,rfl,_,_,_,rfl,hS,En,_,_,rfl,rfl,⟨En,En⟩,?_⟩
  dsimp only[]
  have rkd:∀j:Nat,((j:Int)*(1+cell ns 0 / 21 % 6)+cell ns 0 / 21 / 6) % 7=rkA ns j:=λ_=>rfl
  generalize cell ns 0 / 21=tn at rkd |-
  refine⟨_,rfl,_,rfl,_,_,rfl,rfl,qoz En En,_,_,rfl,rfl,_,_,_,rfl,hS,by lia,?_⟩
  dsimp only[]
  generalize cell ns (4+5*(k0:Int))=c
  refine⟨qe3,λq hq=>?_⟩
  obtain⟨s1,h1⟩:=alc (o:=.lst []) hq
  generalize upd H q _=H1 at s1 h1 |-
  have ln:(names.map V.str).length=names.length:=Ac _
  have bnd:=rb (n:=(names.map V.str).length) (by lia)
  refine⟨_,rfl,_,_,rfl,.inl ⟨_,SqL.of (s1 _ _ hn),rfl⟩,_,rfl,bnd.1,bnd.2,qdo (lo:=0) (n:=(((names.map V.str).length:Int)).toNat) (λi σ H'=>Same H H'/\H' q=some (.lst (((Bh i).map (rkA ns)).map V.int))/\∃v6:Option V,σ=[some (.ref l),some (.int (k0:Int)),some (.ref pn),some (.int tn),some (.int c),some (.ref q),v6,none]) ⟨s1,h1,none,rfl⟩ ?_ ?_⟩
  .rintro i σ H' hi ⟨s2,h2,v6,rfl⟩
   have hi:i<names.length:=by rw[ln]at hi;lia
   rw[C3]
   refine⟨_,rfl,.inl ⟨rfl,_,SqL.of h2⟩,_,rfl,_,rfl,_,_,rfl,rfl,(pos En),_,_,rfl,rfl,_,_,rfl,rfl,.inl ⟨by lia,by lia⟩,_,rfl,_,_,rfl,rfl,⟨En,En⟩,_,_,rfl,rfl,_,_,rfl,rfl,(pos En),_,_,_,rfl,rfl,h2,qcx (by rw[Ac,Ac,BX];lia),?_⟩
   dsimp only[]
   rw[rkd]
   refine⟨qah s2 hq,?_,_,rfl⟩
   rw[qz,List.range_succ,A1,A1];rfl
  .rintro σ H' ⟨s2,h2,v6,rfl⟩
   rw[ln,Ct]at h2
   have rat:∀j:Nat,j<names.length->atI (((Bh names.length).map (rkA ns)).map V.int) (j:Int)=some (.int (rkA ns j)):=λj hj=>qc6 (by rw[Ai,Ai,DB hj];rfl)
   refine⟨_,rfl,_,_,rfl,.inl ⟨_,SqL.of (s2 _ _ hn),rfl⟩,_,rfl,bnd.1,bnd.2,?_⟩
   refine qrt (λv=>match v with | .int j=>decide (rkA ns j.toNat<rkA ns k0)|_=>false) (λv=>v) (λσ'=>∃v,σ'=[v,some (.ref q),some (.int (k0:Int))]) qfq (fits (by rw[Ac,BX];lia)) ⟨none,rfl⟩ (λv σ' J N RR hv sm s4 kn ky=>?_) qck λp5 hp5=>?_
   .obtain⟨v0,rfl⟩:=s4
    obtain⟨j,hj,rfl⟩:=AW.mp hv
    have hj:j<names.length:=by have:=CV.mp hj;rw[ln]at this;lia
    have ej:(0:Int)+(j:Int)=(j:Int):=C3 _
    rw[ej]at kn ky |-
    refine⟨_,rfl,_,rfl,_,_,_,_,rfl,rfl,SqL.of (sm _ _ h2),rat j hj,_,rfl,_,rfl,_,_,_,_,rfl,rfl,SqL.of (sm _ _ h2),rat k0 hk,_,_,rfl,rfl,_,rfl,qb1 (λc1=>?_) (λc1=>?_)⟩
    .exact⟨_,rfl,ky _ ⟨_,rfl⟩ c1⟩
    .exact kn _ ⟨_,rfl⟩ (by cases e:decide (rkA ns j<rkA ns k0) with|true=>exact absurd e c1|false=>exact e)
   obtain⟨bl,ebl,hbl⟩:∃bl:List Nat,((((Bh (((names.map V.str).length:Int)).toNat).map λi=>V.int (0+(i:Nat))).filter λv=>match v with | .int j=>decide (rkA ns j.toNat<rkA ns k0)|_=>false).map λv=>v)=bl.map (λb:Nat=>V.int (b:Int))/\∀b∈bl,b<names.length/\rkA ns b<rkA ns k0:=by
    refine⟨(Bh names.length).filter λj=>decide (rkA ns j<rkA ns k0),?_,λb hb=>?_⟩
    .rw[List.map_id',ln,Ct,List.filter_map]
     have:(λi:Nat=>V.int (0+(i:Int)))=λi:Nat=>V.int (i:Int):=by funext i;rw[C3]
     rw[this]
     congr 1
    .have:=List.mem_filter.mp hb
     exact⟨CV.mp this.1,of_decide_eq_true this.2⟩
   rw[ebl]
   obtain⟨s5,e5⟩:=alc (o:=.lst (bl.map λb:Nat=>V.int (b:Int))) hp5
   generalize upd H' p5 _=H5 at s5 e5 |-
   have s25:=s2.trans s5
   have flb:(bl.map λb:Nat=>V.int (b:Int)).all qbn=true:=by rw[CK];exact AV.mpr λ_ _=>rfl
   refine⟨_,rfl,_,_,rfl,rfl,(pos En),rfl,_,rfl,qb1 (λc1=>?_) (λc1=>?_)⟩
   .refine⟨_,rfl,qe3,λpe npe=>?_⟩
    obtain⟨s6,e6⟩:=alc (o:=.lst []) npe
    generalize upd H5 pe _=H6 at s6 e6 |-
    have s26:=s25.trans s6
    have e56:=s6 _ _ e5
    refine⟨_,_,_,_,rfl,rfl,SqL.of e56,SqL.of e6,flb,rfl,_,rfl,qb1 (λc2=>?_) (λc2=>?_)⟩
    .have l1:1<=bl.length:=by
      cases bl with
      |nil=>exact absurd c2 En
      |cons _ _=>exact Nat.succ_pos _
     have z0:=Int.emod_nonneg (c / 3) (show ((bl.length:Nat):Int)≠0 by lia)
     have z1:=Int.emod_lt_of_pos (c / 3) (show (0:Int)<(bl.length:Nat) by lia)
     obtain⟨j,ej⟩:∃j:Nat,c / 3 % ((bl.length:Nat):Int)=(j:Int):=⟨(c / 3 % ((bl.length:Nat):Int)).toNat,by lia⟩
     have hj:j<bl.length:=by lia
     have hb:=hbl _ (Bb hj)
     refine⟨_,rfl,_,rfl,_,rfl,_,_,rfl,rfl,⟨En,En⟩,_,rfl,_,_,rfl,.inl ⟨_,SqL.of e56,rfl⟩,_,_,rfl,rfl,(pos (by rw[Ac];lia)),?_⟩
     dsimp only[]
     rw[Ac,ej]
     refine⟨_,_,_,_,rfl,rfl,SqL.of e56,qc6 (by rw[Ai,Ak hj];rfl),_,_,_,_,rfl,rfl,SqL.of (s26 _ _ hn),qc6 (nmV hb.1),?_⟩
     exact k H6 (some bl[j]) s26 λb e=>by cases e;exact hb
    .exact k H6 none s26 λb e=>nomatch e
   .exact qa1 (k H5 none s25 λb e=>nomatch e)
theorem qs7 (T:Txt K mg a):FnOk P w K mg base CX0 3 a.fT a.nV ["_law_script", "_law_at", "_law_names", "_law_kinds_here"] (spLrl K):=by
 refine T.bM.fn.ok qaw (λvs H Q E h=>?_) (λcdv A outer s H vs Q E hr h=>?_)
 .obtain⟨_,_,_,_,_,_,_,rfl,_⟩:=h
  all_goals rfl
 .obtain⟨l,pn,pk,ns,k0,names,kinds,rfl,hS,hn,hk',nnd,hk,l6,knd,k12,k60,kok,k⟩:=h
  refine⟨_,(qk (qdb (i:=4) qaw.nd rfl rfl (N:=["_law_k", "_law_script", "_law_at"]) (js:=[none,some 0,some 1]) (XN:=["_law_script", "_law_at", "_law_names", "_law_kinds_here", "_law_cells", "_law_owed", "_law_rest", "_law_turn", "_law_base_here", "_law_opens", "_law_unit", "_law_longer_here", "_law_k", "_law_units", "_law_still", "_law_rule_here"]) (xs:=qaa qhn) rfl rfl rfl Ek (qca rfl T.kQ (qh qp qm zb)) (λ_ _ _ _ _ _=>(qai (i:=0) (show Cd (["_law_k", "_law_script", "_law_at"]:List Str) from by decide +kernel) rfl (A4 rfl) (CQ rfl))) (λ_ _ _ _ _ _=>qcj) (λ_ _ _ _ _ _=>(zm (qa3 T) (hr.mono En) rfl T.kB.mgx T.kB.fn.kp T.kB.bd .nil qan (qh (pv 1) (qh (zh qa6 (zh qa6 qp (zh qdp qp (pv 2))) (pv 0)) qm zu) qj))))
   (qk (zg (i:=5) qaw.nd rfl (A4 rfl) (zh qas (zy jb (pv 4) qp (λ_ _=>rfl)) qp))
   (qk (zg (i:=6) qaw.nd rfl (A4 rfl) (zh qce (qa4 qb3 (pv 3) qcs (qa0 (pv 5))) (qa4 qb3 (pv 3) (qa0 (zh qa6 (pv 5) qp)) (qa0 qp))))
   (qk (zg (i:=7) qaw.nd rfl (A4 rfl) (zh qas (zh qbj (zy jb (pv 4) qp (λ_ _=>rfl)) qp) qp))
   (qk (zg (i:=6) qaw.nd rfl (A4 rfl) (zh qce (qa4 qb3 (pv 6) (qa0 (pv 7)) qcs) (qa4 qb3 (pv 6) qcs (qa0 (pv 7)))))
   (qk (zg (i:=8) qaw.nd rfl (A4 rfl) (zm (qs6 T) (hr.mono En) rfl T.bY.mgx T.bY.fn.kp T.bY.bd .nil qan (qh (pv 0) (qh (pv 1) (qh (pv 2) qm qj) qj) qj)))
   (qk (zg (i:=9) qaw.nd rfl (A4 rfl) (zy jb (pv 6) qp (λ_ _=>rfl)))
   (qk (zk (zf qci (pv 8) qay (qaf _)) (qu (zg (i:=9) qaw.nd rfl (A4 rfl) qay)) qab)
   (qk (zg (i:=10) qaw.nd rfl (A4 rfl) (zy jb (zq (qh zp (qh zp (qh zp qm zb) zb) zb)) (zh qas (zh qbj (zy jb (pv 4) qp (λ_ _=>rfl)) qp) qp) (λ_ _=>rfl)))
   (qk (zg (i:=11) qaw.nd rfl (A4 rfl) (zq qm))
   (qk (qbv Bl rfl (qca rfl T.kQ (qh (zh qas (zh qbj (zy jb (pv 4) qp (λ_ _=>rfl)) qp) qp) qm zu)) (qai (i:=12) qaw.nd rfl (A4 rfl)) (qk (zg (i:=13) qaw.nd rfl (A4 rfl) (zh qa6 qp (zh qas (zh qbj (zy jb (pv 4) qp (λ_ _=>rfl)) (zh qa6 qp (zh qdp qp (pv 12)))) qp)))
   (qu (zj (qde AI AR AS qa7 (pv 11) (qh (zr (qh (zy jb (pv 6) (zh qa6 qp (pv 12)) (λ_ _=>rfl)) (qh (pv 13) (qh (zh qa6 qp (zh qas (zh qbj (zy jb (pv 4) qp (λ_ _=>rfl)) (zh qa6 qp (zh qdp qp (pv 12)))) qp)) qm zu) qj) zw)) qm zx))))))
   (qk (zg (i:=14) qaw.nd rfl (A4 rfl) qay)
   (qk (zk (zf qaz (zh qas (zh qbj (zy jb (pv 4) qp (λ_ _=>rfl)) qp) qp) qp (qaf _)) (qu (zg (i:=14) qaw.nd rfl (A4 rfl) (zr (qh (zy jb (pv 6) qp (λ_ _=>rfl)) (qh (zy jb (pv 6) qp (λ_ _=>rfl)) qm zw) zw)))) qab)
   (qk (zg (i:=15) qaw.nd rfl (A4 rfl) (zq (qh (zy jb (pv 2) (pv 1) (λ_ _=>rfl)) (qh (zy jb (pv 3) (zh qas (zy jb (pv 4) qp (λ_ _=>rfl)) qp) (λ_ _=>rfl)) (qh (zy jb (pv 3) (pv 5) (λ_ _=>rfl)) (qh (pv 9) (qh (pv 8) qm qj) qj) zw) zw) zw)))
   (qk (zg (i:=15) qaw.nd rfl (A4 rfl) (zh qce (pv 15) (zq (qh (zh qa6 qp (zh qas (zy jb (pv 4) qp (λ_ _=>rfl)) qp)) (qh (pv 10) (qh (qa4 qb3 (pv 6) (qa0 qp) (qa0 (zh qa6 qp (zh qas (zy jb (pv 4) qp (λ_ _=>rfl)) qp)))) qm zw) qj) zu))))
   (qk (zg (i:=15) qaw.nd rfl (A4 rfl) (zh qce (pv 15) (zq (qh (qa4 qb3 (pv 6) (qa0 qp) (qa0 (zh qa6 qp (zh qas (zh qbj (zy jb (pv 4) qp (λ_ _=>rfl)) qp) qp)))) (qh (pv 11) (qh (pv 14) qm qj) qj) zw))))
   (qu (zc (zh qce (pv 15) (zq (qh (zm (qon T) (hr.mono En) rfl T.bR.mgx T.bR.fn.kp T.bR.bd .nil qan (qh (pv 0) (qh (pv 1) (qh (pv 2) qm qj) qj) qj)) qm zt))))))))))))))))))))),?_⟩
  have l12:(kinds.map V.str).length=kinds.length:=Ac _
  refine⟨_,rfl,En,En,?_⟩
  refine qbq (λv=>match v with | .int j=>.int (cell ns (3+5*(k0:Int)+j))|_=>.non) (λσ'=>∃v,σ'=[v,some (.ref l),some (.int (k0:Int))]) qfq (fits (by rw[Ac,BX];decide)) ⟨none,rfl⟩ (λv σ' H' RR' hv sm s4 q=>?_) qck λp1 n1=>?_
  .obtain⟨v0,rfl⟩:=s4
   obtain⟨j,hj,rfl⟩:=AW.mp hv
   have q:=q [some (.int (0+(j:Int))),some (.ref l),some (.int (k0:Int))] ⟨_,rfl⟩
   exact⟨_,rfl,_,rfl,_,_,rfl,rfl,qoz En En,_,_,rfl,rfl,_,rfl,_,_,rfl,rfl,_,_,_,rfl,sm.seq hS,by lia,q⟩
  obtain⟨c0,ec0⟩:∃c0,c0=cell ns (3+5*(k0:Int)):=⟨_,rfl⟩
  obtain⟨c1,ec1⟩:∃c1,c1=cell ns (3+5*(k0:Int)+1):=⟨_,rfl⟩
  obtain⟨c2,ec2⟩:∃c2,c2=cell ns (3+5*(k0:Int)+2):=⟨_,rfl⟩
  obtain⟨c3,ec3⟩:∃c3,c3=cell ns (3+5*(k0:Int)+3):=⟨_,rfl⟩
  obtain⟨c4,ec4⟩:∃c4,c4=cell ns (3+5*(k0:Int)+4):=⟨_,rfl⟩
  have ecs:((Bh ((5:Int)).toNat).map λi=>V.int (0+(i:Nat))).map (λv=>match v with | .int j=>V.int (cell ns (3+5*(k0:Int)+j))|_=>.non)=[V.int c0,V.int c1,V.int c2,V.int c3,V.int c4]:=by
   rw[ec0,ec1,ec2,ec3,ec4]
   show [V.int _,V.int _,V.int _,V.int _,V.int _]=_
   simp
  rw[ecs]
  obtain⟨s1,e1⟩:=alc (o:=.lst [V.int c0,V.int c1,V.int c2,V.int c3,V.int c4]) n1
  generalize upd H p1 _=H1 at s1 e1 |-
  refine⟨_,rfl,_,_,_,_,rfl,rfl,SqL.of (e1),rfl,_,_,rfl,rfl,(pos En),?_⟩
  dsimp only[]
  have eo:c0 % 3=((owA ns k0:Nat):Int):=by rw[ec0];exact qq0
  have ho:owA ns k0<3:=owA_l
  rw[eo]
  generalize owA ns k0=o at ho eo |-
  refine⟨_,rfl,_,rfl,_,rfl,_,_,rfl,SqL.of (s1 _ _ hk'),λp2 n2=>?_⟩
  rw[qkn _ o (by lia),<- Cp]
  obtain⟨s2,e2⟩:=alc (o:=.lst ((kinds.take o).map V.str)) n2
  generalize upd H1 p2 _=H2 at s2 e2 |-
  have s12:=s1.trans s2
  refine⟨_,rfl,_,rfl,_,_,rfl,rfl,_,rfl,_,rfl,_,_,rfl,SqL.of (s12 _ _ hk'),λp3 n3=>?_⟩
  have ec:qgv (kinds.map V.str) (some ((o:Int)+1)) (some 12)=((kinds.take 12).drop (o+1)).map V.str:=by
   rw[show ((o:Int)+1)=((o+1:Nat):Int) from rfl,show (12:Int)=((12:Nat):Int) from rfl,cut2 _ _ _ (by lia) (by lia),<- Cp,<- DI]
  rw[ec]
  obtain⟨s3,e3⟩:=alc (o:=.lst (((kinds.take 12).drop (o+1)).map V.str)) n3
  generalize upd H2 p3 _=H3 at s3 e3 |-
  have s13:=s12.trans s3
  refine⟨_,_,_,_,rfl,rfl,s3 _ _ e2,e3,fits (by rw[Ac,Ac,A2,B9,A2];lia),λp4 n4=>?_⟩
  rw[<- A1]
  have lL:(kinds.take o++(kinds.take 12).drop (o+1)).length=11:=by rw[Aj,A2,B9,A2];lia
  obtain⟨s4,e4⟩:=alc (o:=.lst ((kinds.take o++(kinds.take 12).drop (o+1)).map V.str)) n4
  generalize upd H3 p4 _=H4 at s4 e4 |-
  have s14:=s13.trans s4
  have s24:=s2.trans (s3.trans s4)
  refine⟨_,rfl,_,_,_,_,rfl,rfl,SqL.of (s24 _ _ e1),rfl,_,_,rfl,rfl,⟨En,En⟩,_,_,rfl,rfl,(pos En),?_⟩
  dsimp only[]
  obtain⟨t,et,ht⟩:∃t:Nat,c0 / 3 % 11=(t:Int)/\t<11:=md _ 11 En
  rw[et]
  obtain⟨M',eM,lM,ndM,okM,nwM,w12⟩:=qx7 (o:=o) (t:=t) knd k12 ho ht kok
  refine⟨_,rfl,_,rfl,_,rfl,_,_,rfl,SqL.of e4,λp5 n5=>?_⟩
  rw[qko _ t (by rw[Ac,lL];lia),<- DI]
  obtain⟨s5,e5⟩:=alc (o:=.lst (((kinds.take o++(kinds.take 12).drop (o+1)).drop t).map V.str)) n5
  generalize upd H4 p5 _=H5 at s5 e5 |-
  refine⟨_,rfl,_,rfl,_,rfl,_,_,rfl,SqL.of (s5 _ _ e4),λp6 n6=>?_⟩
  rw[qkn _ t (by rw[Ac,lL];lia),<- Cp]
  obtain⟨s6,e6⟩:=alc (o:=.lst (((kinds.take o++(kinds.take 12).drop (o+1)).take t).map V.str)) n6
  generalize upd H5 p6 _=H6 at s6 e6 |-
  refine⟨_,_,_,_,rfl,rfl,s6 _ _ e5,e6,fits (by rw[Ac,Ac,B9,A2,lL];lia),λp7 n7=>?_⟩
  rw[<- A1,eM]
  clear eM
  obtain⟨m0,  m1,  m2,  m3,  m4,  m5,  m6,  m7,  m8,  m9,  m10,rfl⟩:=eleven lM
  have s16:=s14.trans (s5.trans s6)
  have n7H:=s16.free n7
  obtain⟨s7,e7⟩:=alc (o:=.lst ([m0,m1,m2,m3,m4,m5,m6,m7,m8,m9,m10].map V.str)) n7
  generalize upd H6 p7 _=H7 at s7 e7 |-
  have s17:=s16.trans s7
  have s27:=s24.trans (s5.trans (s6.trans s7))
  have ec7:=s27 _ _ e1
  clear s1 s2 s3 s4 s5 s6 e2 e3 e4 e5 e6 s12 s13 s14 s24 lL
  refine⟨_,rfl,_,rfl,_,rfl,l,pn,ns,k0,names,rfl,s17.seq hS,s17 _ _ hn,hk,l6,λH8 ob s8 hob=>?_⟩
  have s18:=s17.trans s8
  have e8:=s8 _ _ e7
  have c8:=s8 _ _ ec7
  refine⟨_,rfl,_,_,_,_,rfl,rfl,SqL.of (e8),rfl,?_⟩
  have gb:qhs names ob=qc3 (ob.map (nm names)):=by cases ob <;>rfl
  rw[gb]
  have hob':ob=none \/ ∃b,ob=some b:=by
   cases ob with
   |none=>exact .inl rfl
   |some b=>exact .inr ⟨b,rfl⟩
  apply useV (p:=λx=>∃opn:Option Str,x=some (qc3 opn)/\((ob=none/\opn=some m0)\/((∃b,ob=some b)/\opn=none)))
  .intro fin
   refine hob'.elim (λz=>?_) (λz=>?_)
   .refine⟨_,rfl,rfl,_,rfl,qdy (by rw[z];rfl) ?_⟩
    generalize hx:(some (V.str m0):Option V)=x9
    exact fin x9 ⟨some m0,hx.symm,.inl ⟨z,rfl⟩⟩
   .obtain⟨b,eb⟩:=z
    refine⟨_,rfl,rfl,_,rfl,qd4 (λz=>by rw[eb]at z;cases z) ?_⟩
    exact fin (some .non) ⟨none,rfl,.inr ⟨⟨b,eb⟩,rfl⟩⟩
  .rintro x9 ⟨opn,rfl,hopn⟩
   obtain⟨u1,u2⟩:=qx8 (c1 / 18)
   refine⟨fits (show 3<=100000 by decide),λpu nu=>?_⟩
   obtain⟨s9,e9⟩:=alc (o:=.lst [V.str (Ab "days"),V.str (Ab "weeks"),V.str (Ab "court")]) nu
   generalize upd H8 pu _=H9 at s9 e9 |-
   have s19:=s18.trans s9
   refine⟨_,rfl,_,_,_,_,rfl,rfl,SqL.of (s9 _ _ c8),rfl,_,_,rfl,rfl,⟨En,En⟩,_,_,rfl,rfl,(pos En),_,_,_,_,rfl,rfl,SqL.of e9,u1,?_⟩
   refine⟨qe3,λpl npl=>?_⟩
   obtain⟨sa,ea⟩:=alc (o:=.lst []) npl
   generalize upd H9 pl _=Ha at sa ea |-
   have s1a:=s19.trans sa
   have nplH:=s19.free npl
   have s8a:=s9.trans sa
   obtain⟨g,eg,hg⟩:∃g:Nat,c3 / 12 % 3=(g:Int)/\g<=2:=mdl _ 2
   have eg2:(c3 / 12 % 3).toNat=g:=by rw[eg];exact Ct g
   refine⟨_,rfl,_,_,_,_,rfl,rfl,SqL.of (s8a _ _ c8),rfl,_,_,rfl,rfl,⟨En,En⟩,_,_,rfl,rfl,(pos En),_,rfl,(by lia),(by lia),qdo (lo:=0) (n:=(c3 / 12 % 3).toNat) (λi σ H'=>Same H8 H'/\(∃(us:List V)(lg:List (Str×Int×Int)),H' pl=some (.lst us)/\Tups H' us (lg.map qiq)/\lg.map (·.1)=[m6,m7].take i/\us.length=i/\∀t∈lg,(1<=t.2.1/\t.2.1<=20)/\1<=t.2.2/\t.2.2<=3)/\∃v12 v13:Option V,σ=[some (.ref l),some (.int (k0:Int)),some (.ref pn),some (.ref pk),some (.ref p1),some (.int (o:Int)),some (.ref p7),some (.int (t:Int)),some (qc3 (ob.map (nm names))),some (qc3 opn),some (.str (qfg (c1 / 18))),some (.ref pl),v12,v13,none,none]) ⟨s8a,⟨[],[],ea,.nil,rfl,rfl,λt h=>absurd h Av⟩,none,none,rfl⟩ ?_ ?_⟩
   .rintro i σ H' hi ⟨s2,⟨us,lg,h2,t2,f2,l2,r2⟩,v12,v13,rfl⟩
    have hi:i<g:=by lia
    rw[C3]
    have cB:=s2 _ _ c8
    have eB:=s2 _ _ e8
    obtain⟨mk,emk,fmk⟩:∃mk:Str,atI ([m0,m1,m2,m3,m4,m5,m6,m7,m8,m9,m10].map V.str) (6+(i:Int))=some (.str mk)/\[m6,m7].take (i+1)=[m6,m7].take i++[mk]:=by
     rcases (by lia:i=0\/i=1) with rfl|rfl
     .exact⟨m6,rfl,rfl⟩
     .exact⟨m7,rfl,rfl⟩
    refine⟨_,rfl,_,_,_,_,rfl,rfl,SqL.of (cB),rfl,_,rfl,_,_,rfl,rfl,qoz En En,_,_,rfl,rfl,_,_,rfl,rfl,cdA hi hg,_,_,rfl,rfl,(pos En),_,_,rfl,rfl,?_⟩
    refine⟨_,rfl,.inl ⟨rfl,_,SqL.of h2⟩,_,rfl,_,rfl,_,_,rfl,rfl,_,_,_,_,rfl,rfl,SqL.of eB,emk,_,rfl,_,rfl,_,_,_,_,rfl,rfl,SqL.of (cB),rfl,_,rfl,_,_,rfl,rfl,qoz En En,_,_,rfl,rfl,_,_,rfl,rfl,cdB hi hg,_,_,rfl,rfl,(pos En),_,_,rfl,rfl,qsj _ _ _,λq2 n2=>?_⟩
    dsimp only[]
    have b1:1<=1+c2 / (40+811*(i:Int)) % 20/\1+c2 / (40+811*(i:Int)) % 20<=20:=om _ En
    have b2:1<=1+c2 / (797+13*(i:Int)) % 3/\1+c2 / (797+13*(i:Int)) % 3<=3:=om _ En
    generalize 1+c2 / (40+811*(i:Int)) % 20=u9 at b1 n2 |-
    generalize 1+c2 / (797+13*(i:Int)) % 3=t9 at b2 n2 |-
    obtain⟨s3,e3⟩:=alc (o:=.tup [V.str mk,V.int u9,V.int t9]) n2
    generalize upd H' q2 _=H3 at s3 e3 |-
    have h3:=s3 _ _ h2
    refine⟨_,_,_,rfl,rfl,h3,qcx (by lia),?_⟩
    have kp:Same H8 (upd H3 pl (.lst (us++[V.ref q2]))):=qah (s2.trans s3) (s9.free npl)
    refine⟨kp,⟨us++[.ref q2],lg++[(mk,u9,t9)],qz,?_,?_,by rw[Aj,l2];rfl,λz hz=>?_⟩,_,_,rfl⟩
    .rw[A1]
     exact((t2.same s3).snoc (show H3 q2=some (.tup (qiq (mk,u9,t9))) from e3)).upd h3
    .rw[A1,f2,fmk];rfl
    .rcases AH.mp hz with y|y
     .exact r2 z y
     .rw[An.mp y];exact⟨b1,b2⟩
   .rintro σ Hb ⟨sb,⟨us,lg,hl,tl,fl,ll,rl⟩,v12,v13,rfl⟩
    rw[eg2]at fl ll
    have s1b:=s18.trans sb
    have cB:=sb _ _ c8
    have eB:=sb _ _ e8
    apply use2 (p:=λ(Hc:Hp)(x:Option V)=>∃(sv:V)(so:Option (Str×Str)),x=some sv/\Same Hb Hc/\StAt Hc sv so/\(so=none\/so=some (m8,m9)))
    .intro fin
     refine⟨_,rfl,_,_,_,_,rfl,rfl,SqL.of (cB),rfl,_,_,rfl,rfl,⟨En,En⟩,_,_,rfl,rfl,(pos En),rfl,_,rfl,qb1 (λ_=>?_) (λ_=>?_)⟩
     rotate_left
     .obtain⟨Hc,hHc⟩:∃Hc,Hc=Hb:=⟨_,rfl⟩
      have qq:∃(sv:V)(so:Option (Str×Str)),some V.non=some sv/\Same Hb Hc/\StAt Hc sv so/\(so=none\/so=some (m8,m9)):=⟨.non,none,rfl,by rw[hHc];exact Same.refl _,rfl,.inl rfl⟩
      rw[<- hHc]
      generalize (some V.non:Option V)=x14 at qq |-
      exact fin Hc x14 qq
     .refine⟨_,rfl,_,_,_,_,rfl,rfl,SqL.of (eB),rfl,_,rfl,_,_,_,_,rfl,rfl,SqL.of (eB),rfl,fit2 _ _,λq3 n3=>?_⟩
      obtain⟨s3,e3⟩:=alc (o:=.tup [V.str m8,V.str m9]) n3
      exact fin _ (some (V.ref q3)) ⟨.ref q3,some (m8,m9),rfl,s3,⟨q3,rfl,e3⟩,.inr rfl⟩
    .rintro Hc x14 ⟨sv,so,rfl,sc,hst,hso⟩
     have s1c:=s1b.trans sc
     have cC:=sc _ _ cB
     have eC:=sc _ _ eB
     have hnC:=s1c _ _ hn
     have hkC:=s1c _ _ hk'
     obtain⟨j4,ej4,hj4⟩:∃j:Nat,c4 % 12=(j:Int)/\j<12:=md _ 12 En
     refine⟨_,rfl,_,rfl,_,_,_,_,rfl,rfl,SqL.of hnC,qc6 (nmV hk),_,rfl,_,rfl,_,_,_,_,rfl,rfl,SqL.of (cC),rfl,_,_,rfl,rfl,(pos En),?_⟩
     dsimp only[]
     rw[ej4]
     refine⟨_,_,_,_,rfl,rfl,SqL.of hkC,qc6 (nmV (nms:=kinds) (by lia)),_,rfl,_,rfl,_,_,_,_,rfl,rfl,SqL.of hkC,qc6 (nmV (nms:=kinds) (by lia)),_,rfl,_,rfl,fits (show 5<=100000 by decide),λqa na=>?_⟩
     obtain⟨sd,ed⟩:=alc (o:=.lst [V.str (nm names k0),V.str (nm kinds j4),V.str (nm kinds o),qc3 opn,qc3 (ob.map (nm names))]) na
     generalize upd Hc qa _=Hd at sd ed |-
     have s1d:=s1c.trans sd
     obtain⟨x3,ex3,hx3⟩:∃x:Nat,c3 % 4=(x:Int)/\x<=3:=mdl _ 3
     obtain⟨y3,ey3,hy3⟩:∃x:Nat,c3 / 4 % 3=(x:Int)/\x<=2:=mdl _ 2
     refine⟨_,rfl,_,rfl,_,_,_,_,rfl,rfl,SqL.of (sd _ _ cC),rfl,_,_,rfl,rfl,(pos En),_,_,rfl,rfl,_,rfl,_,rfl,_,rfl,_,rfl,_,_,_,_,rfl,rfl,SqL.of (sd _ _ cC),rfl,_,_,rfl,rfl,(pos En),_,_,rfl,rfl,?_⟩
     dsimp only[]
     rw[ex3]
     refine⟨_,rfl,_,_,rfl,SqL.of (sd _ _ eC),λpe npe=>?_⟩
     have ce:qgv ([m0,m1,m2,m3,m4,m5,m6,m7,m8,m9,m10].map V.str) (some 1) (some (1+(x3:Int)))=([m1,m2,m3].take x3).map V.str:=by
      rcases (by lia:x3=0\/x3=1\/x3=2\/x3=3) with rfl|rfl|rfl|rfl <;>rfl
     rw[ce]
     obtain⟨se,ee⟩:=alc (o:=.lst (([m1,m2,m3].take x3).map V.str)) npe
     generalize upd Hd pe _=He at se ee |-
     have s1e:=s1d.trans se
     refine⟨qsj _ _ _,λqb nb=>?_⟩
     have b40:1<=1+c2 % 40/\1+c2 % 40<=40:=om _ En
     generalize 1+c2 % 40=mny at b40 nb |-
     obtain⟨sf,ef⟩:=alc (o:=.lst [V.int mny,V.str (qfg (c1 / 18)),V.ref pe]) nb
     generalize upd He qb _=Hf at sf ef |-
     have s1f:=s1e.trans sf
     refine⟨_,_,_,_,rfl,rfl,sf _ _ (se _ _ ed),ef,fits (show 8<=100000 by decide),λqc nc=>?_⟩
     obtain⟨sg,eg'⟩:=alc (o:=.lst ([V.str (nm names k0),V.str (nm kinds j4),V.str (nm kinds o),qc3 opn,qc3 (ob.map (nm names))]++[V.int mny,V.str (qfg (c1 / 18)),V.ref pe])) nc
     generalize upd Hf qc _=Hg at sg eg' |-
     have s1g:=s1f.trans sg
     have sdg:=sd.trans (se.trans (sf.trans sg))
     refine⟨_,rfl,_,rfl,_,rfl,_,rfl,_,_,_,_,rfl,rfl,SqL.of (sdg _ _ cC),rfl,_,_,rfl,rfl,⟨En,En⟩,_,_,rfl,rfl,(pos En),_,_,rfl,rfl,?_⟩
     dsimp only[]
     rw[ey3]
     refine⟨_,rfl,_,_,rfl,SqL.of (sdg _ _ eC),λpa npa=>?_⟩
     have ca:qgv ([m0,m1,m2,m3,m4,m5,m6,m7,m8,m9,m10].map V.str) (some 4) (some (4+(y3:Int)))=([m4,m5].take y3).map V.str:=by
      rcases (by lia:y3=0\/y3=1\/y3=2) with rfl|rfl|rfl <;>rfl
     rw[ca]
     obtain⟨sh,eh⟩:=alc (o:=.lst (([m4,m5].take y3).map V.str)) npa
     generalize upd Hg pa _=Hh at sh eh |-
     have s1h:=s1g.trans sh
     refine⟨_,rfl,_,rfl,qsj _ _ _,λqd nd=>?_⟩
     obtain⟨si,ei⟩:=alc (o:=.lst [V.ref pa,V.ref pl,sv]) nd
     generalize upd Hh qd _=Hi at si ei |-
     have s1i:=s1h.trans si
     refine⟨_,_,_,_,rfl,rfl,si _ _ (sh _ _ eg'),ei,fits (show 11<=100000 by decide),λqe ne=>?_⟩
     obtain⟨sj,ej⟩:=alc (o:=.lst (([V.str (nm names k0),V.str (nm kinds j4),V.str (nm kinds o),qc3 opn,qc3 (ob.map (nm names))]++[V.int mny,V.str (qfg (c1 / 18)),V.ref pe])++[V.ref pa,V.ref pl,sv])) ne
     generalize upd Hi qe _=Hj at sj ej |-
     have s1j:=s1i.trans sj
     refine⟨_,rfl,_,rfl,_,rfl,_,rfl,l,pn,ns,k0,names,rfl,s1j.seq hS,s1j _ _ hn,nnd,hk,l6,λpy Hk ys npy sk ek yok=>?_⟩
     have s1k:=s1j.trans sk
     refine⟨fits (show 1<=100000 by decide),λqf nf=>?_⟩
     obtain⟨sl,el⟩:=alc (o:=.lst [V.ref py]) nf
     generalize upd Hk qf _=Hl at sl el |-
     have s1l:=s1k.trans sl
     refine⟨_,_,_,_,rfl,rfl,sl _ _ (sk _ _ ej),el,fits (show 12<=100000 by decide),λqg ng=>?_⟩
     obtain⟨sm,em⟩:=alc (o:=.lst (((([V.str (nm names k0),V.str (nm kinds j4),V.str (nm kinds o),qc3 opn,qc3 (ob.map (nm names))]++[V.int mny,V.str (qfg (c1 / 18)),V.ref pe])++[V.ref pa,V.ref pl,sv]))++[V.ref py])) ng
     generalize upd Hl qg _=Hm at sm em |-
     have sfm:=sg.trans (sh.trans (si.trans (sj.trans (sk.trans (sl.trans sm)))))
     have sim:=sj.trans (sk.trans (sl.trans sm))
     have scm:=sd.trans (se.trans (sf.trans sfm))
     have kk:owA ns k0=o:=by
      have:((owA ns k0:Nat):Int)=(o:Int):=by rw[<- qq0,<- ec0];assumption
      exact Int.ofNat.inj this
     obtain⟨knd9,kin9⟩:=qvt (w:=nm kinds o) (e:=[m1,m2,m3].take x3) (a:=[m4,m5].take y3) (g:=lg.map (·.1)) (o:=opn.toList) (s:=stL so) ndM nwM (BU _ _) (BU _ _) (by rw[fl];exact BU _ _) (by rcases hopn with ⟨_,e⟩|⟨_,e⟩ <;>rw[e] <;>simp) (by rcases hso with e|e <;>rw[e] <;>simp[stL])
     refine k qg Hm ⟨nm names k0,nm kinds j4,nm kinds o,opn,ob.map (nm names),mny,qfg (c1 / 18),[m1,m2,m3].take x3,[m4,m5].take y3,lg,so,ys⟩ pe pa pl py sv us (s1l.free ng) (s1d.free npe) (s1g.free npa) nplH (s1j.free npy) (s1l.trans sm) ⟨em,(sf.trans sfm) _ _ ee,(si.trans sim) _ _ eh,(sc.trans scm) _ _ hl,tl.same (sc.trans scm),hst.same scm,(sl.trans sm) _ _ ek⟩ ⟨rfl,kok _ (Ay (qgo (by lia))),by show nm kinds o=_;rw[kk],knd9,λx hx=>?_,λx hx=>?_,?_,b40,u2,⟨?_,rl⟩,⟨by show ([m1,m2,m3].take x3).length<=3;rw[A2];show min x3 3<=3;lia,by show ([m4,m5].take y3).length<=2;rw[A2];show min y3 2<=2;lia⟩,yok⟩
     .rcases kin9 x hx with e|e
      .rw[e];exact kok _ (Ay (qgo (by lia)))
      .exact(okM x e).1
     .rcases kin9 x hx with e|e
      .rw[e];exact w12
      .exact(okM x e).2
     .rcases hopn with ⟨e1,e2⟩|⟨⟨b,e1⟩,e2⟩
      .exact .inr ⟨by show ob.map (nm names)=none;rw[e1];rfl,m0,e2⟩
      .exact .inl ⟨b,(hob b e1).1,by show ob.map (nm names)=_;rw[e1];rfl,(hob b e1).2,e2⟩
     .have:=congrArg DQ fl
      rw[Ac,A2]at this
      show lg.length<=2
      rw[this];exact Nat.min_le_right _ _
theorem qp2 (T:Txt K mg a):FnOk P w K mg base CX0 4 a.nY a.fL ["_law_script", "_law_names", "_law_kinds_here", "_law_most"] (spLrs K):=by
 refine T.dC.fn.ok qdc (λvs H Q E h=>?_) (λcdv A outer s H vs Q E hr h=>?_)
 .obtain⟨_,_,_,_,_,_,_,rfl,_⟩:=h
  all_goals rfl
 .obtain⟨l,pn,pk,ns,names,kinds,mo,rfl,hS,hn,hk',nnd,l6,knd,k12,k60,kok,m6,m100,k⟩:=h
  refine⟨_,(qk (qdb (i:=4) qdc.nd rfl rfl (N:=["_law_at", "_law_script", "_law_names", "_law_kinds_here"]) (js:=[none,some 0,some 1,some 2]) (XN:=["_law_script", "_law_names", "_law_kinds_here", "_law_most", "_law_rules_here", "_law_room", "_law_rule_here", "_law_sort"]) (xs:=qaa qgc) rfl rfl rfl Ek (qca rfl T.kQ (qh (zn qbi (by rfl) T.kI qba (qh (pv 1) qm qj)) qm zt)) (λ_ _ _ _ _ _=>(qai (i:=0) (show Cd (["_law_at", "_law_script", "_law_names", "_law_kinds_here"]:List Str) from by decide +kernel) rfl (A4 rfl) (CQ rfl))) (λ_ _ _ _ _ _=>qcj) (λ_ _ _ _ _ _=>(zm (qs7 T) (hr.mono En) rfl T.bM.mgx T.bM.fn.kp T.bM.bd .nil qan (qh (pv 1) (qh (pv 0) (qh (pv 2) (qh (pv 3) qm qj) qj) qj) qj))))
   (qk (zg (i:=5) qdc.nd rfl (A4 rfl) (zh qie (pv 3) (zn qbi (by rfl) T.kI qba (qh (pv 4) qm qj))))
   (qk (qbv Bl rfl (qbc (pv 4)) (qai (i:=6) qdc.nd rfl (A4 rfl)) (qk (qbv Bl rfl (qbc (zq (qh qp (qh qp (qh qp (qh qp qm zb) zb) zb) zb))) (qai (i:=7) qdc.nd rfl (A4 rfl)) (qk (qtf (qa4 qb3 (zy jb (pv 6) (pv 7) (λ_ _=>rfl)) qcs (qa0 (pv 5))) (qte (pv 6) (pv 7) qm9))
   (qu (zg (i:=5) qdc.nd rfl (A4 rfl) (zh qie (pv 5) (zn qbi (by rfl) T.kI qba (qh (zy jb (pv 6) (pv 7) (λ_ _=>rfl)) qm zw)))))))
   (qk (zk (zf qaz (pv 5) qp (qaf _)) (qu (qtf qay (qte (pv 6) qp qm9))) qab)
   (qu (zk (zf qci (zy jb (pv 6) qp (λ_ _=>rfl)) qay (qaf _)) (qu (zg (i:=5) qdc.nd rfl (A4 rfl) (zh qie (pv 5) qp))) qab)))))
   (qu (zc (pv 4)))))),?_⟩
  have ln:(names.map V.str).length=names.length:=Ac _
  have bnd:=rb (n:=(names.map V.str).length) (by lia)
  refine⟨_,rfl,_,_,rfl,.inl ⟨_,SqL.of hn,rfl⟩,_,rfl,bnd.1,bnd.2,?_⟩
  refine qu0 (λp x q H=>∃(k:Nat)(r:RR)(pe pa pl py:Addr)(sv:V)(us:List V),x=.int (k:Int)/\LR1 (off p H) q r pe pa pl py sv us/\GR names (owA ns) (rkA ns) kinds k r) (λp x q H H' kp=>?_) (λp x q H g=>?_) (λσ'=>∃v,σ'=[v,some (.ref l),some (.ref pn),some (.ref pk)]) qfq (fits (by rw[Ac,BX];lia)) ⟨none,rfl⟩ (λp v σ' H' RR' hv hp sm hp' s4 qq=>?_) qck λp H1 qs hp s1 e1 lq ndq gq=>?_
  .rintro⟨k',r,pe,pa,pl,py,sv,us,e,h,g⟩
   exact⟨k',r,pe,pa,pl,py,sv,us,e,h.same (qvu kp),g⟩
  .obtain⟨k',r,pe,pa,pl,py,sv,us,e,h,g⟩:=g
   intro z
   have:=qof _ _ h.hq
   rw[z]at this;cases this
  .obtain⟨v0,rfl⟩:=s4
   obtain⟨j,hj,rfl⟩:=AW.mp hv
   have hj:j<names.length:=by have:=CV.mp hj;rw[ln]at this;lia
   obtain⟨zs,hzs⟩:=hp'
   refine⟨_,rfl,_,rfl,_,rfl,_,rfl,l,pn,pk,ns,j,names,kinds,by rw[C3];rfl,sm.seq hS,sm _ _ hn,sm _ _ hk',nnd,hj,l6,knd,k12,k60,kok,λq H5 r pe pa pl py sv us nq n1 n2 n3 n4 s5 x g=>?_⟩
   have ne:∀{z:Addr},H' z=none->z≠p:=λh e=>by rw[e,hzs]at h;cases h
   exact qq _ q H5 ⟨_,rfl⟩ s5 nq ⟨j,r,pe,pa,pl,py,sv,us,by rw[C3],x.offp (s5 _ _ hzs) (ne nq) (ne n1) (ne n2) (ne n3) (ne n4),g⟩
  rw[Ac,BX,ln,Ct]at lq
  have gj:∀j:Nat,j<names.length->∃(q:Addr)(r:RR),qs[j]?=some q/\LR H1 q r/\GR names (owA ns) (rkA ns) kinds j r/\q≠p/\H q=none:=λj hj=>by
   have ex:((Bh (((names.map V.str).length:Int)).toNat).map λi=>V.int (0+(i:Nat)))[j]?=some (.int (0+(j:Int))):=by
    rw[Ai,DB (by rw[ln];lia)];rfl
   have eq:qs[j]?=some (qs[j]'(by lia)):=Ak (by lia)
   obtain⟨⟨k',r,pe,pa,pl,py,sv,us,e,h,g⟩,g2,g3⟩:=gq j _ _ ex eq
   rw[C3]at e
   have e:j=k':=Int.ofNat.inj (V.int.inj e)
   subst e
   exact⟨_,r,eq,⟨pe,pa,pl,py,sv,us,h.same qof⟩,g,g2,g3⟩
  obtain⟨rs0,lr0,hr0⟩:∃rs:List RR,rs.length=names.length/\∀(j:Nat)(r:RR),rs[j]?=some r->∃q,qs[j]?=some q/\LR H1 q r/\GR names (owA ns) (rkA ns) kinds j r/\q≠p/\H q=none:=by
   have w:∀n,n<=names.length->∃rs:List RR,rs.length=n/\∀(j:Nat)(r:RR),rs[j]?=some r->∃q,qs[j]?=some q/\LR H1 q r/\GR names (owA ns) (rkA ns) kinds j r/\q≠p/\H q=none:=by
    intro n
    induction n with
    |zero=>exact λ_=>⟨[],rfl,λj r h=>by cases h⟩
    |succ n ih =>
     intro hn
     obtain⟨rs,h1,h2⟩:=ih (by lia)
     obtain⟨q,r,g1,g2⟩:=gj n (by lia)
     refine⟨rs++[r],by rw[Aj,h1];rfl,λj r' h=>?_⟩
     by_cases c:j<rs.length
     .rw[AT c]at h;exact h2 j r' h
     .rw[AM (by lia)]at h
      have:j-rs.length<1:=(Ag.mp h).1
      rw[show j-rs.length=0 by lia]at h
      cases h
      rw[show j=n by lia]
      exact⟨q,g1,g2⟩
   exact w _ (Ax _)
  have b0:LRs H H1 p qs rs0:=⟨s1,e1,by rw[lq,lr0],ndq,λq hq=>by
   obtain⟨j,hj⟩:=Ba hq
   have lj:=(Ag.mp hj).1
   obtain⟨q',_,g1,_,_,g4,g5⟩:=gj j (by lia)
   rw[hj]at g1;cases g1;exact⟨g4,g5⟩,hp,λi q r h1 h2=>by
   obtain⟨q',g1,g2,_⟩:=hr0 i r h2
   rw[h1]at g1;cases g1;exact g2⟩
  have g0:GRs names (owA ns) (rkA ns) kinds rs0:=λkk r h=>by obtain⟨_,_,_,g,_⟩:=hr0 kk r h;exact g
  refine⟨_,rfl,_,rfl,_,_,rfl,.inl ⟨_,SqL.of e1,rfl⟩,_,_,rfl,rfl,?_⟩
  have er0:(mo:Int)-((qs.map V.ref).length:Int)=((mo-names.length:Nat):Int):=by rw[Ac,lq];lia
  refine⟨_,rfl,_,rfl,⟨_,SqL.of e1⟩,qcl (K:=K) (a:=p) (xs:=qs.map V.ref) (λj σ H'=>∃(rs:List RR)(room:Nat),LRs H H' p qs rs/\rs.length=names.length/\GRs names (owA ns) (rkA ns) kinds rs/\room+((rs.take j).map exR).sum+names.length=mo/\∃v6 v7:Option V,σ=[some (.ref l),some (.ref pn),some (.ref pk),some (.int (mo:Int)),some (.ref p),some (.int (room:Int)),v6,v7]) ⟨rs0,mo-names.length,b0,lr0,g0,by rw[DY];show _+0+_=_;lia,none,none,by rw[<- er0];rfl⟩ (λj σ H' _ h=>by obtain⟨_,_,b,_⟩:=h;exact SqL.of b.hp) ?_ ?_⟩
  .rintro j v σ H' hv ⟨rs,room0,bl0,lrs,grs,hroom,v6,v7,rfl⟩
   rw[Ai]at hv
   cases hqj:qs[j]? with
   |none=>rw[hqj]at hv;cases hv
   |some q =>
   rw[hqj]at hv
   cases hv
   have lj:j<rs.length:=by have:=(Ag.mp hqj).1;have:=bl0.ln;lia
   obtain⟨r,hrj⟩:∃r,rs[j]?=some r:=⟨_,Ak lj⟩
   refine⟨fits (show 4<=100000 by decide),λpz0 nz0=>?_⟩
   obtain⟨sz0,ez0⟩:=alc (o:=.lst [V.int 7,V.int 8,V.int 9,V.int 11]) nz0
   have nzl:pz0≠q:=λz=>by obtain⟨_,_,_,_,_,_,h1⟩:=bl0.lr j q r hqj hrj;rw[z,h1.hq]at nz0;cases nz0
   generalize upd H' pz0 _=H1' at sz0 ez0 |-
   refine⟨_,rfl,⟨_,SqL.of ez0⟩,qcl (K:=K) (a:=pz0) (xs:=[V.int 7,V.int 8,V.int 9,V.int 11]) (λt σ H2=>H2 pz0=some (.lst [V.int 7,V.int 8,V.int 9,V.int 11])/\∃(rs1:List RR)(r1:RR)(room:Nat),LRs H H2 p qs rs1/\rs1.length=names.length/\GRs names (owA ns) (rkA ns) kinds rs1/\rs1[j]?=some r1/\rs1.take j=rs.take j/\room+qmy t r1=room0/\∃v7:Option V,∃vr:V,vr=.int (room:Int)/\σ=[some (.ref l),some (.ref pn),some (.ref pk),some (.int (mo:Int)),some (.ref p),some vr,some (.ref q),v7]) ⟨ez0,rs,r,room0,bl0.same sz0,lrs,grs,hrj,rfl,rfl,_,_,rfl,rfl⟩ (λt σ H2 _ h=>SqL.of h.1) ?_ ?_⟩
   .rintro t v σ H2 hv ⟨hpz,rs1,r1,room,bl,ln1,g1,hr1,tk1,hsum,v7,vr,rfl,rfl⟩
    have ht:t<4:=(Ag.mp hv).1
    obtain⟨pe,pa,pl,py,sv,us,h1⟩:=bl.lr j q r1 hqj hr1
    rcases (by lia:t=0\/t=1\/t=2\/t=3) with rfl|rfl|rfl|rfl
    .cases hv
     refine⟨_,rfl,_,rfl,_,_,_,_,rfl,rfl,SqL.of h1.hq,rfl,_,rfl,_,rfl,_,_,rfl,SqL.of h1.he,λpz nz=>?_⟩
     rw[qog _ room,<- Cp]
     obtain⟨sz,ez⟩:=alc (o:=.lst ((r1.ends.take room).map V.str)) nz
     have nzq:pz≠q:=λz=>by rw[z,h1.hq]at nz;cases nz
     generalize upd H2 pz _=H3 at sz ez |-
     have hq3:=sz _ _ h1.hq
     refine⟨_,rfl,_,rfl,_,_,_,7,rfl,rfl,hq3,rfl,?_⟩
     have kt:KeepT [q] H3 (upd H3 q (.lst ((qff r1 pe pa pl sv py).set 7 (V.ref pz)))):=KeepT.put (An.mpr rfl) hq3 (λ_ z=>nomatch z)
     obtain⟨n0,n1,n2,n3⟩:=(h1.same sz).ne hq3
     have x4:LR1 (upd H3 q (.lst ((qff r1 pe pa pl sv py).set 7 (V.ref pz)))) q (qdm 0 room r1) pz pa pl py sv us:=⟨qz,(ze nzq).trans ez,(ze n1).trans (sz _ _ h1.ha),(ze n2).trans (sz _ _ h1.hl),qbs (h1.tl.same sz) kt,(h1.hs.same sz).keep kt,(ze n3).trans (sz _ _ h1.hy)⟩
     have bl4:=(bl.same sz).put hqj hq3 ⟨_,_,_,_,_,_,x4⟩
     have lt:qh0 0 (qdm 0 room r1)=((r1.ends.take room).map V.str).length:=by rw[Ac];rfl
     have hz4:=(ze (o:=.lst ((qff r1 pe pa pl sv py).set 7 (V.ref pz))) nzl).trans (sz _ _ hpz)
     generalize upd H3 q _=H4 at x4 bl4 hz4 |-
     obtain⟨cs1,cs2⟩:=qh2 (t:=0) (n:=room) En r1
     refine⟨_,rfl,_,rfl,_,rfl,_,_,_,_,rfl,rfl,SqL.of x4.hq,rfl,_,_,rfl,.inl ⟨_,SqL.of x4.he,rfl⟩,_,_,rfl,rfl,?_⟩
     have hvr:V.int ((room:Int)-(((r1.ends.take room).map V.str).length:Int))=V.int ((room-qh0 0 (qdm 0 room r1):Nat):Int):=by rw[<- lt,Int.ofNat_sub cs2]
     exact⟨hz4,⟨rs1.set j (qdm 0 room r1),qdm 0 room r1,room-qh0 0 (qdm 0 room r1),bl4,by rw[Cw];exact ln1,qh3 g1 hr1 (qh1 0 room r1),BA (Ag.mp hr1).1,by rw[take_set'];exact tk1,by rw[cs1];lia,_,V.int ((room:Int)-(((r1.ends.take room).map V.str).length:Int)),hvr,rfl⟩⟩
    .cases hv
     refine⟨_,rfl,_,rfl,_,_,_,_,rfl,rfl,SqL.of h1.hq,rfl,_,rfl,_,rfl,_,_,rfl,SqL.of h1.ha,λpz nz=>?_⟩
     rw[qog _ room,<- Cp]
     obtain⟨sz,ez⟩:=alc (o:=.lst ((r1.anew.take room).map V.str)) nz
     have nzq:pz≠q:=λz=>by rw[z,h1.hq]at nz;cases nz
     generalize upd H2 pz _=H3 at sz ez |-
     have hq3:=sz _ _ h1.hq
     refine⟨_,rfl,_,rfl,_,_,_,8,rfl,rfl,hq3,rfl,?_⟩
     have kt:KeepT [q] H3 (upd H3 q (.lst ((qff r1 pe pa pl sv py).set 8 (V.ref pz)))):=KeepT.put (An.mpr rfl) hq3 (λ_ z=>nomatch z)
     obtain⟨n0,n1,n2,n3⟩:=(h1.same sz).ne hq3
     have x4:LR1 (upd H3 q (.lst ((qff r1 pe pa pl sv py).set 8 (V.ref pz)))) q (qdm 1 room r1) pe pz pl py sv us:=⟨qz,(ze n0).trans (sz _ _ h1.he),(ze nzq).trans ez,(ze n2).trans (sz _ _ h1.hl),qbs (h1.tl.same sz) kt,(h1.hs.same sz).keep kt,(ze n3).trans (sz _ _ h1.hy)⟩
     have bl4:=(bl.same sz).put hqj hq3 ⟨_,_,_,_,_,_,x4⟩
     have lt:qh0 1 (qdm 1 room r1)=((r1.anew.take room).map V.str).length:=by rw[Ac];rfl
     have hz4:=(ze (o:=.lst ((qff r1 pe pa pl sv py).set 8 (V.ref pz))) nzl).trans (sz _ _ hpz)
     generalize upd H3 q _=H4 at x4 bl4 hz4 |-
     obtain⟨cs1,cs2⟩:=qh2 (t:=1) (n:=room) En r1
     refine⟨_,rfl,_,rfl,_,rfl,_,_,_,_,rfl,rfl,SqL.of x4.hq,rfl,_,_,rfl,.inl ⟨_,SqL.of x4.ha,rfl⟩,_,_,rfl,rfl,?_⟩
     have hvr:V.int ((room:Int)-(((r1.anew.take room).map V.str).length:Int))=V.int ((room-qh0 1 (qdm 1 room r1):Nat):Int):=by rw[<- lt,Int.ofNat_sub cs2]
     exact⟨hz4,⟨rs1.set j (qdm 1 room r1),qdm 1 room r1,room-qh0 1 (qdm 1 room r1),bl4,by rw[Cw];exact ln1,qh3 g1 hr1 (qh1 1 room r1),BA (Ag.mp hr1).1,by rw[take_set'];exact tk1,by rw[cs1];lia,_,V.int ((room:Int)-(((r1.anew.take room).map V.str).length:Int)),hvr,rfl⟩⟩
    .cases hv
     refine⟨_,rfl,_,rfl,_,_,_,_,rfl,rfl,SqL.of h1.hq,rfl,_,rfl,_,rfl,_,_,rfl,SqL.of h1.hl,λpz nz=>?_⟩
     rw[qog _ room]
     obtain⟨sz,ez⟩:=alc (o:=.lst (us.take room)) nz
     have nzq:pz≠q:=λz=>by rw[z,h1.hq]at nz;cases nz
     generalize upd H2 pz _=H3 at sz ez |-
     have hq3:=sz _ _ h1.hq
     refine⟨_,rfl,_,rfl,_,_,_,9,rfl,rfl,hq3,rfl,?_⟩
     have kt:KeepT [q] H3 (upd H3 q (.lst ((qff r1 pe pa pl sv py).set 9 (V.ref pz)))):=KeepT.put (An.mpr rfl) hq3 (λ_ z=>nomatch z)
     obtain⟨n0,n1,n2,n3⟩:=(h1.same sz).ne hq3
     have x4:LR1 (upd H3 q (.lst ((qff r1 pe pa pl sv py).set 9 (V.ref pz)))) q (qdm 2 room r1) pe pa pz py sv (us.take room):=⟨qz,(ze n0).trans (sz _ _ h1.he),(ze n1).trans (sz _ _ h1.ha),(ze nzq).trans ez,(by show Tups _ _ ((r1.longer.take room).map qiq);rw[Cp];exact qbs (qsm (h1.tl.same sz) room) kt),(h1.hs.same sz).keep kt,(ze n3).trans (sz _ _ h1.hy)⟩
     have bl4:=(bl.same sz).put hqj hq3 ⟨_,_,_,_,_,_,x4⟩
     have lt:qh0 2 (qdm 2 room r1)=(us.take room).length:=by show (r1.longer.take room).length=_;rw[A2,A2,show us.length=r1.longer.length by rw[h1.tl.length,Ac]]
     have hz4:=(ze (o:=.lst ((qff r1 pe pa pl sv py).set 9 (V.ref pz))) nzl).trans (sz _ _ hpz)
     generalize upd H3 q _=H4 at x4 bl4 hz4 |-
     obtain⟨cs1,cs2⟩:=qh2 (t:=2) (n:=room) En r1
     refine⟨_,rfl,_,rfl,_,rfl,_,_,_,_,rfl,rfl,SqL.of x4.hq,rfl,_,_,rfl,.inl ⟨_,SqL.of x4.hl,rfl⟩,_,_,rfl,rfl,?_⟩
     have hvr:V.int ((room:Int)-((us.take room).length:Int))=V.int ((room-qh0 2 (qdm 2 room r1):Nat):Int):=by rw[<- lt,Int.ofNat_sub cs2]
     exact⟨hz4,⟨rs1.set j (qdm 2 room r1),qdm 2 room r1,room-qh0 2 (qdm 2 room r1),bl4,by rw[Cw];exact ln1,qh3 g1 hr1 (qh1 2 room r1),BA (Ag.mp hr1).1,by rw[take_set'];exact tk1,by rw[cs1];lia,_,V.int ((room:Int)-((us.take room).length:Int)),hvr,rfl⟩⟩
    .cases hv
     refine⟨_,rfl,_,rfl,_,_,_,_,rfl,rfl,SqL.of h1.hq,rfl,_,rfl,_,rfl,_,_,rfl,SqL.of h1.hy,λpz nz=>?_⟩
     rw[qog _ room,<- Cp]
     obtain⟨sz,ez⟩:=alc (o:=.lst ((r1.yields.take room).map V.str)) nz
     have nzq:pz≠q:=λz=>by rw[z,h1.hq]at nz;cases nz
     generalize upd H2 pz _=H3 at sz ez |-
     have hq3:=sz _ _ h1.hq
     refine⟨_,rfl,_,rfl,_,_,_,11,rfl,rfl,hq3,rfl,?_⟩
     have kt:KeepT [q] H3 (upd H3 q (.lst ((qff r1 pe pa pl sv py).set 11 (V.ref pz)))):=KeepT.put (An.mpr rfl) hq3 (λ_ z=>nomatch z)
     obtain⟨n0,n1,n2,n3⟩:=(h1.same sz).ne hq3
     have x4:LR1 (upd H3 q (.lst ((qff r1 pe pa pl sv py).set 11 (V.ref pz)))) q (qdm 3 room r1) pe pa pl pz sv us:=⟨qz,(ze n0).trans (sz _ _ h1.he),(ze n1).trans (sz _ _ h1.ha),(ze n2).trans (sz _ _ h1.hl),qbs (h1.tl.same sz) kt,(h1.hs.same sz).keep kt,(ze nzq).trans ez⟩
     have bl4:=(bl.same sz).put hqj hq3 ⟨_,_,_,_,_,_,x4⟩
     have lt:qh0 3 (qdm 3 room r1)=((r1.yields.take room).map V.str).length:=by rw[Ac];rfl
     have hz4:=(ze (o:=.lst ((qff r1 pe pa pl sv py).set 11 (V.ref pz))) nzl).trans (sz _ _ hpz)
     generalize upd H3 q _=H4 at x4 bl4 hz4 |-
     obtain⟨cs1,cs2⟩:=qh2 (t:=3) (n:=room) En r1
     refine⟨_,rfl,_,rfl,_,rfl,_,_,_,_,rfl,rfl,SqL.of x4.hq,rfl,_,_,rfl,.inl ⟨_,SqL.of x4.hy,rfl⟩,_,_,rfl,rfl,?_⟩
     have hvr:V.int ((room:Int)-(((r1.yields.take room).map V.str).length:Int))=V.int ((room-qh0 3 (qdm 3 room r1):Nat):Int):=by rw[<- lt,Int.ofNat_sub cs2]
     exact⟨hz4,⟨rs1.set j (qdm 3 room r1),qdm 3 room r1,room-qh0 3 (qdm 3 room r1),bl4,by rw[Cw];exact ln1,qh3 g1 hr1 (qh1 3 room r1),BA (Ag.mp hr1).1,by rw[take_set'];exact tk1,by rw[cs1];lia,_,V.int ((room:Int)-(((r1.yields.take room).map V.str).length:Int)),hvr,rfl⟩⟩
   .rintro σ H2 ⟨hpz,rs1,r1,room,bl,ln1,g1,hr1,tk1,hsum,v7,vr,rfl,rfl⟩
    have hsum:room+qmy 4 r1=room0:=hsum
    obtain⟨pe,pa,pl,py,sv,us,h1⟩:=bl.lr j q r1 hqj hr1
    have lj1:=(Ag.mp hr1).1
    have ex0:r1.still=none->exR r1=qmy 4 r1:=λe=>by unfold exR qmy;rw[e];rfl
    have ex1:∀s,r1.still=some s->exR r1=qmy 4 r1+1:=λs e=>by unfold exR qmy;rw[e];rfl
    refine⟨_,rfl,rfl,_,rfl,qb1 (λc=>?_) (λc=>?_)⟩
    .have c:(room:Int)=0:=V.int.inj (of_decide_eq_true c)
     refine⟨_,rfl,_,_,_,10,rfl,rfl,h1.hq,rfl,?_⟩
     have kt:KeepT [q] H2 (upd H2 q (.lst ((qff r1 pe pa pl sv py).set 10 V.non))):=KeepT.put (An.mpr rfl) h1.hq (λ_ z=>nomatch z)
     obtain⟨n0,n1,n2,n3⟩:=h1.ne h1.hq
     have few:Fewer r1 { r1 with still:=none }:=⟨rfl,rfl,rfl,rfl,rfl,rfl,rfl,Cg _,Cg _,Cg _,.inr rfl,Cg _⟩
     have x4:LR1 (upd H2 q (.lst ((qff r1 pe pa pl sv py).set 10 V.non))) q { r1 with still:=none } pe pa pl py .non us:=⟨qz,(ze n0).trans h1.he,(ze n1).trans h1.ha,(ze n2).trans h1.hl,qbs h1.tl kt,rfl,(ze n3).trans h1.hy⟩
     have bl4:=bl.put hqj h1.hq ⟨_,_,_,_,_,_,x4⟩
     generalize upd H2 q _=H4 at x4 bl4 |-
     refine⟨_,rfl,_,_,_,_,rfl,rfl,SqL.of x4.hq,rfl,rfl,_,rfl,qdy rfl ?_⟩
     have hx:(rs1.set j { r1 with still:=none })[j]?=some { r1 with still:=none }:=BA lj1
     refine⟨_,room,bl4,by rw[Cw];exact ln1,qh3 g1 hr1 few,?_,_,_,rfl⟩
     rw[qkv hx,take_set',tk1]
     have:exR { r1 with still:=none }=qmy 4 r1:=rfl
     rw[this];lia
    .have c:room≠0:=λz=>c (decide_eq_true (by rw[z];rfl))
     have hst:=h1.hs
     cases es:r1.still with
     |none =>
      rw[es]at hst
      cases hst
      refine⟨_,rfl,_,_,_,_,rfl,rfl,SqL.of h1.hq,rfl,rfl,_,rfl,qdy rfl ?_⟩
      exact⟨rs1,room,bl,ln1,g1,by rw[qkv hr1,tk1,ex0 es];lia,_,_,rfl⟩
     |some sp =>
      rw[es]at hst
      obtain⟨ps,rfl,_⟩:=hst
      refine⟨_,rfl,_,_,_,_,rfl,rfl,SqL.of h1.hq,rfl,rfl,_,rfl,qd4 (λz=>nomatch z) ⟨_,rfl,_,_,rfl,rfl,?_⟩⟩
      exact⟨rs1,room-1,bl,ln1,g1,by rw[qkv hr1,tk1,ex1 _ es];lia,_,_,by rw[show ((room-1:Nat):Int)=(room:Int)-1 by lia];rfl⟩
  .rintro σ H' ⟨rs,room,bl,lrs,grs,hroom,v6,v7,rfl⟩
   rw[Ac,lq,<- lrs,Bx]at hroom
   exact⟨_,rfl,k p H' qs rs bl lrs grs (by rw[<- lrs];lia)⟩
theorem qp3 (T:Txt K mg a):FnOk P w K mg base CX0 1 a.nE a.lF ["_law_rule_here"] spSo:=by
 refine T.bE.fn.ok qav (λvs H Q E h=>?_) (λcdv A outer s H vs Q E hr h=>?_)
 .obtain⟨_,_,rfl,_⟩:=h
  all_goals rfl
 .obtain⟨p,r,rfl,lr,ok,k⟩:=h
  refine⟨_,(qk (zg (i:=1) qav.nd rfl (CQ rfl) (zy jb (pv 0) qp (λ_ _=>rfl)))
   (qk (zg (i:=2) qav.nd rfl (A4 rfl) (zh qac zp (qcb qr7 (by rfl) T.kR qdi (qh (zy jb (pv 0) qp (λ_ _=>rfl)) qm zw))))
   (qk (zk (zf qci (zy jb (pv 0) qp (λ_ _=>rfl)) qay (qaf _)) (qu (zg (i:=2) qav.nd rfl (A4 rfl) (zh qac zp (zy jb (pv 0) qp (λ_ _=>rfl))))) qab)
   (qk (zg (i:=3) qav.nd rfl (A4 rfl) (zh qac (zh qac (zh qac (zh qac (zh qac zp (pv 1)) zp) (zy jb (pv 0) qp (λ_ _=>rfl))) zp) (zy jb (pv 0) qp (λ_ _=>rfl))))
   (qk (zg (i:=3) qav.nd rfl (A4 rfl) (zh qac (zh qac (zh qac (zh qac (zh qac (zh qac (pv 3) zp) (pv 2)) zp) (qcb qd8 (by rfl) T.kR qdi (qh (zy jb (pv 0) qp (λ_ _=>rfl)) qm zw))) zp) (zy jb (pv 0) qp (λ_ _=>rfl))))
   (qk (qdb (i:=4) qav.nd rfl rfl (N:=["_law_kind", "_law_name"]) (js:=[none,some 1]) (XN:=["_law_rule_here", "_law_name", "_law_way", "_law_head", "_law_ends", "_law_anew", "_law_longer_here", "_law_kind", "_law_units", "_law_times", "_law_row", "_law_still", "_law_yields_here"]) (xs:=qaa qec) rfl rfl rfl Ek (qbc (zy jb (pv 0) qp (λ_ _=>rfl))) (λ_ _ _ _ _ _=>(qai (i:=0) (show Cd (["_law_kind", "_law_name"]:List Str) from by decide +kernel) rfl (A4 rfl) (CQ rfl))) (λ_ _ _ _ _ _=>qcj) (λ_ _ _ _ _ _=>(zh qac (zh qac (zh qac zp (pv 1)) zp) (pv 0))))
   (qk (qdb (i:=5) qav.nd rfl rfl (N:=["_law_kind", "_law_name"]) (js:=[none,some 1]) (XN:=["_law_rule_here", "_law_name", "_law_way", "_law_head", "_law_ends", "_law_anew", "_law_longer_here", "_law_kind", "_law_units", "_law_times", "_law_row", "_law_still", "_law_yields_here"]) (xs:=qaa qec) rfl rfl rfl Ek (qbc (zy jb (pv 0) qp (λ_ _=>rfl))) (λ_ _ _ _ _ _=>(qai (i:=0) (show Cd (["_law_kind", "_law_name"]:List Str) from by decide +kernel) rfl (A4 rfl) (CQ rfl))) (λ_ _ _ _ _ _=>qcj) (λ_ _ _ _ _ _=>(zh qac (zh qac (zh qac zp (pv 1)) zp) (pv 0))))
   (qk (zg (i:=6) qav.nd rfl (A4 rfl) (zq qm))
   (qk (qbv Bl rfl (qbc (zy jb (pv 0) qp (λ_ _=>rfl))) (qmb rfl (qdh (qai (i:=7) qav.nd rfl (A4 rfl)) (qdh (qai (i:=8) qav.nd rfl (A4 rfl)) (qdh (qai (i:=9) qav.nd rfl (A4 rfl)) qjm)))) (qk (zg (i:=10) qav.nd rfl (A4 rfl) (zh qac (zh qac (zh qac (zh qac (zh qac zp (pv 1)) zp) (pv 7)) zp) (qcb qd8 (by rfl) T.kR qdi (qh (pv 8) qm qj))))
   (qu (zj (qde AI AR AS qa7 (pv 6) (qh (zh qac (zh qac (pv 10) zp) (qcb qd8 (by rfl) T.kR qdi (qh (pv 9) qm qj))) qm zu))))))
   (qk (zg (i:=11) qav.nd rfl (A4 rfl) (zq qm))
   (qk (zk (zf qci (zy jb (pv 0) qp (λ_ _=>rfl)) qay (qaf _)) (qu (zg (i:=11) qav.nd rfl (A4 rfl) (zq (qh (zh qac (zh qac (zh qac (zh qac (zh qac zp (pv 1)) zp) (zy ja (zy jb (pv 0) qp (λ_ _=>rfl)) qp (λ_ _=>rfl))) zp) (zy ja (zy jb (pv 0) qp (λ_ _=>rfl)) qp (λ_ _=>rfl))) qm zu)))) qab)
   (qk (qdb (i:=12) qav.nd rfl rfl (N:=["_law_other", "_law_name"]) (js:=[none,some 1]) (XN:=["_law_rule_here", "_law_name", "_law_way", "_law_head", "_law_ends", "_law_anew", "_law_longer_here", "_law_kind", "_law_units", "_law_times", "_law_row", "_law_still", "_law_yields_here"]) (xs:=qaa qec) rfl rfl rfl Ek (qbc (zy jb (pv 0) qp (λ_ _=>rfl))) (λ_ _ _ _ _ _=>(qai (i:=0) (show Cd (["_law_other", "_law_name"]:List Str) from by decide +kernel) rfl (A4 rfl) (CQ rfl))) (λ_ _ _ _ _ _=>qcj) (λ_ _ _ _ _ _=>(zh qac (zh qac (zh qac zp (pv 1)) zp) (pv 0))))
   (qu (zc (zq (qh (zq (qh (pv 3) qm qj)) (qh (pv 4) (qh (pv 5) (qh (pv 6) (qh (pv 11) (qh (pv 12) qm qj) qj) qj) qj) qj) qtz)))))))))))))))),?_⟩
  obtain⟨pe,pa,pl,py,sv,us,h1⟩:=lr
  obtain⟨l1,l2,l3,l4,l5,l6,l7,l8,l9,l10,l11,l12,l13⟩:=t_lens
  obtain⟨k1,k2,k3,k4,k5,k6⟩:=ok.kin
  obtain⟨z1,z2,z3,z4⟩:=ok.sz
  have n8:r.name.length<=8:=ok.nm.2.1
  have w8:r.who.length<=8:=ok.wh.2.1
  have o8:r.owes.length<=8:=k1.2.1
  have u8:r.unit.length<=5:=(qmz ok.un).2.2
  have m8:(Ab (toString r.many)).length<=2:=(qh4 ok.mn.1 ok.mn.2).2.2.2.1
  have op8:(r.opens.getD "None").length<=8:=by
   cases eo:r.opens with
   |none=>show (Ab "None").length<=8;lia
   |some x=>exact(k5 x eo).2.1
  refine⟨_,rfl,_,_,_,_,rfl,rfl,SqL.of (h1.hq),rfl,?_⟩
  refine⟨_,rfl,_,_,_,_,rfl,rfl,SqL.of (h1.hq),rfl,r.opens,by cases r.opens <;>rfl,_,_,rfl,rfl,fz,?_⟩
  have hb':r.base=none \/ ∃y,r.base=some y:=by
   cases r.base with
   |none=>exact .inl rfl
   |some y=>exact .inr ⟨y,rfl⟩
  have way8:(qlb r).length<=15:=by
   unfold qlb
   cases eb:r.base with
   |none=>show (Ab "from " ++ r.opens.getD "None").length<=15;rw[qgj];lia
   |some y=>have:y.length<=8:=(ok.ba y eb).2.1;show (Ab "behind " ++ y).length<=15;rw[qgj];lia
  apply useV (p:=λx=>x=some (.str (qlb r)))
  .intro fin
   refine hb'.elim (λz=>?_) (λz=>?_)
   .refine⟨_,rfl,_,_,_,_,rfl,rfl,SqL.of (h1.hq),rfl,rfl,_,rfl,qdy (by rw[z];rfl) ?_⟩
    have ew:(some (V.str (Ab "from " ++ r.opens.getD "None")):Option V)=some (.str (qlb r)):=by unfold qlb;rw[z]
    generalize (some (V.str (Ab "from " ++ r.opens.getD "None")):Option V)=x2 at ew |-
    exact fin x2 ew
   .obtain⟨y,eb⟩:=z
    have eb':qc3 r.base=.str y:=by rw[eb];rfl
    have y8:y.length<=8:=(ok.ba y eb).2.1
    refine⟨_,rfl,_,_,_,_,rfl,rfl,SqL.of (h1.hq),rfl,rfl,_,rfl,qd4 (λz=>by rw[eb']at z;cases z) ?_⟩
    refine⟨_,rfl,_,_,_,_,rfl,rfl,SqL.of (h1.hq),rfl,_,y,rfl,eb',fits (by lia),?_⟩
    exact fin _ (by unfold qlb;rw[eb])
  rintro x2 rfl
  refine⟨_,rfl,_,_,rfl,rfl,fz,_,_,rfl,rfl,fz,_,rfl,_,_,_,_,rfl,rfl,SqL.of (h1.hq),rfl,_,_,rfl,rfl,fz,_,_,rfl,rfl,fz,_,rfl,_,_,_,_,rfl,rfl,SqL.of (h1.hq),rfl,_,_,rfl,rfl,fz,?_⟩
  refine⟨_,rfl,_,_,rfl,rfl,fz,_,rfl,_,_,rfl,rfl,fz,_,_,rfl,rfl,fz,_,rfl,_,_,_,_,rfl,rfl,SqL.of (h1.hq),rfl,_,rfl,qpt (by have:=ok.mn;lia),_,_,rfl,rfl,fz,_,_,rfl,rfl,fz,_,rfl,_,_,_,_,rfl,rfl,SqL.of (h1.hq),rfl,_,_,rfl,rfl,fz,?_⟩
  have elt:=qso r
  have s00:=Same.refl H
  rw[show (Ab "term " ++ r.name++Ab " of " ++ r.who++Ab " due " ++ r.owes++Ab " " ++ qlb r++Ab " " ++ Ab (toString r.many)++Ab " " ++ r.unit)=qbl (qdl r) from elt]
  refine⟨_,rfl,_,_,_,_,rfl,rfl,SqL.of (s00 _ _ h1.hq),rfl,_,rfl,⟨_,SqL.of (s00 _ _ h1.he)⟩,?_⟩
  refine qbq (λv=>match v with | .str y=>.str (qbl (.ends r.name y))|_=>.non) (λσ'=>∃v,σ'=[v,some (.str r.name)]) (qb5 (K:=K) (SqL.of (s00 _ _ h1.he))) (fits (by rw[Ac];lia)) ⟨none,rfl⟩ (λv σ' J RR' hv sm s4 qq=>?_) qck λp1 np1=>?_
  .obtain⟨v0,rfl⟩:=s4
   obtain⟨y,hy,rfl⟩:=AW.mp hv
   have y8:y.length<=8:=(k2 y hy).2.1
   have qq:=qq [some (.str y),some (.str r.name)] ⟨_,rfl⟩
   dsimp only at qq
   rw[<- qsp]at qq
   exact⟨_,rfl,_,_,rfl,rfl,fz,_,_,rfl,rfl,fz,_,rfl,_,_,rfl,rfl,fz,qq⟩
  rw[show ((r.ends).map V.str).map (λv=>match v with | .str y=>V.str (qbl (.ends r.name y))|_=>.non)=qea ((r.ends).map (.ends r.name)) by unfold qea;rw[Bi,Bi,Bi];rfl]
  obtain⟨s0,e1⟩:=alc (o:=.lst (qea ((r.ends).map (.ends r.name)))) np1
  generalize upd H p1 _=H1 at s0 e1 |-
  have s10:=s0
  refine⟨_,rfl,_,_,_,_,rfl,rfl,SqL.of (s10 _ _ h1.hq),rfl,_,rfl,⟨_,SqL.of (s10 _ _ h1.ha)⟩,?_⟩
  refine qbq (λv=>match v with | .str y=>.str (qbl (.anew r.name y))|_=>.non) (λσ'=>∃v,σ'=[v,some (.str r.name)]) (qb5 (K:=K) (SqL.of (s10 _ _ h1.ha))) (fits (by rw[Ac];lia)) ⟨none,rfl⟩ (λv σ' J RR' hv sm s4 qq=>?_) qck λp2 np2=>?_
  .obtain⟨v0,rfl⟩:=s4
   obtain⟨y,hy,rfl⟩:=AW.mp hv
   have y8:y.length<=8:=(k3 y hy).2.1
   have qq:=qq [some (.str y),some (.str r.name)] ⟨_,rfl⟩
   dsimp only at qq
   rw[<- qsq]at qq
   exact⟨_,rfl,_,_,rfl,rfl,fz,_,_,rfl,rfl,fz,_,rfl,_,_,rfl,rfl,fz,qq⟩
  rw[show ((r.anew).map V.str).map (λv=>match v with | .str y=>V.str (qbl (.anew r.name y))|_=>.non)=qea ((r.anew).map (.anew r.name)) by unfold qea;rw[Bi,Bi,Bi];rfl]
  obtain⟨s1,e2⟩:=alc (o:=.lst (qea ((r.anew).map (.anew r.name)))) np2
  generalize upd H1 p2 _=H2 at s1 e2 |-
  have s20:=s10.trans s1
  refine⟨qe3,λp3 n3=>?_⟩
  obtain⟨s2,e3⟩:=alc (o:=.lst []) n3
  generalize upd H2 p3 _=H3 at s2 e3 |-
  have s30:=s20.trans s2
  have lu:us.length=r.longer.length:=by rw[h1.tl.length,Ac]
  refine⟨_,rfl,_,_,_,_,rfl,rfl,SqL.of (s30 _ _ h1.hq),rfl,_,rfl,⟨_,SqL.of (s30 _ _ h1.hl)⟩,qcl (K:=K) (a:=pl) (xs:=us) (λi σ J=>Same H2 J/\J p3=some (.lst (qea ((r.longer.take i).map λt=>.longer r.name t.1 t.2.1 t.2.2)))/\∃v7 v8 v9 v10:Option V,σ=[some (.ref p),some (.str r.name),some (.str (qlb r)),some (.str (qbl (qdl r))),some (.ref p1),some (.ref p2),some (.ref p3),v7,v8,v9,v10,none,none]) ⟨s2,e3,none,none,none,none,rfl⟩ (λi σ J _ h=>SqL.of ((s20.trans h.1) _ _ h1.hl)) ?_ ?_⟩
  .rintro i v σ J hv ⟨sJ,hJ,v7,v8,v9,v10,rfl⟩
   obtain⟨b,t,rfl,g1,g2⟩:=h1.tl.get' hv
   rw[Ai]at g1
   cases eg:r.longer[i]? with
   |none=>rw[eg]at g1;cases g1
   |some tr =>
   rw[eg]at g1
   cases g1
   have hi:i<r.longer.length:=(Ag.mp eg).1
   have tm:=Ay eg
   obtain⟨⟨b1,b2⟩,b3,b4⟩:=ok.lg tr tm
   have t8:tr.1.length<=8:=(k4 tr tm).2.1
   have a2:(Ab (toString tr.2.1)).length<=2:=(qh4 b1 (by lia)).2.2.2.1
   have a3:(Ab (toString tr.2.2)).length<=2:=(qh4 b3 (by lia)).2.2.2.1
   refine⟨_,_,rfl,SqT.of ((s20.trans sJ) _ _ g2),rfl,_,_,rfl,_,_,rfl,_,_,rfl,rfl,?_⟩
   refine⟨_,rfl,_,_,rfl,rfl,fz,_,_,rfl,rfl,fz,_,rfl,_,_,rfl,rfl,fz,_,_,rfl,rfl,fz,_,rfl,_,rfl,qpt (by lia),_,_,rfl,rfl,fz,?_⟩
   refine⟨_,rfl,.inl ⟨rfl,_,SqL.of hJ⟩,_,rfl,_,_,rfl,rfl,fz,_,rfl,_,rfl,qpt (by lia),_,_,rfl,rfl,fz,_,_,_,rfl,rfl,hJ,qcx (by unfold qea;rw[Ac,Ac,Ac,A2];lia),?_⟩
   refine⟨qah sJ n3,?_,_,_,_,_,rfl⟩
   rw[qz,qbf eg,A1]
   unfold qea
   rw[A1,A1]
   show some (HO.lst (_++[V.str (wS "longer " ++ r.name++wS " " ++ tr.1++wS " " ++ nS tr.2.1++wS " times " ++ nS tr.2.2)]))=_
   rw[qoi];rfl
  .rintro σ H4 ⟨s4,e4,v7,v8,v9,v10,rfl⟩
   rw[lu,Bx]at e4
   have s40:=s20.trans s4
   refine⟨qe3,λp5 n5=>?_⟩
   obtain⟨s5,e5⟩:=alc (o:=.lst []) n5
   generalize upd H4 p5 _=H5 at s5 e5 |-
   have s50:=s40.trans s5
   have hs5:=h1.hs.same s50
   have hst':r.still=none \/ ∃s,r.still=some s:=by
    cases r.still with
    |none=>exact .inl rfl
    |some s=>exact .inr ⟨s,rfl⟩
   apply use2 (p:=λ(H6:Hp)(x:Option V)=>∃p6,x=some (.ref p6)/\Same H5 H6/\H6 p6=some (.lst (qea (qgq r.name r.still))))
   .intro fin
    refine hst'.elim (λz=>?_) (λz=>?_)
    .rw[z]at hs5
     have hs5:sv=.non:=hs5
     refine⟨_,rfl,_,_,_,_,rfl,rfl,SqL.of (s50 _ _ h1.hq),rfl,rfl,_,rfl,qdy hs5 ?_⟩
     obtain⟨H6,hH6⟩:∃H6,H6=H5:=⟨_,rfl⟩
     have qq:∃p6,some (V.ref p5)=some (.ref p6)/\Same H5 H6/\H6 p6=some (.lst (qea (qgq r.name r.still))):=⟨p5,rfl,by rw[hH6];exact Same.refl _,by rw[hH6,z,e5];rfl⟩
     rw[<- hH6]
     generalize (some (V.ref p5):Option V)=x11 at qq |-
     exact fin H6 x11 qq
    .obtain⟨s,es⟩:=z
     rw[es]at hs5
     obtain⟨b,hb,hs5⟩:=hs5
     obtain⟨q1,q2⟩:=k6 s es
     have q1:s.1.length<=8:=q1.2.1
     have q2:s.2.length<=8:=q2.2.1
     refine⟨_,rfl,_,_,_,_,rfl,rfl,SqL.of (s50 _ _ h1.hq),rfl,rfl,_,rfl,qd4 (λz=>by rw[hb]at z;cases z) ?_⟩
     refine⟨_,rfl,_,_,rfl,rfl,fz,_,_,rfl,rfl,fz,_,rfl,_,_,_,_,rfl,rfl,SqL.of (s50 _ _ h1.hq),rfl,_,_,_,_,hb,rfl,SqT.of hs5,rfl,_,_,rfl,rfl,fz,_,_,rfl,rfl,fz,_,rfl,_,_,_,_,rfl,rfl,SqL.of (s50 _ _ h1.hq),rfl,_,_,_,_,hb,rfl,SqT.of hs5,rfl,_,_,rfl,rfl,fz,fits (show 1<=100000 by decide),λp6 n6=>?_⟩
     refine fin _ (some (.ref p6)) ⟨p6,rfl,zi n6,?_⟩
     rw[qz,es]
     show some (HO.lst [V.str (wS "still " ++ r.name++wS " " ++ s.1++wS " " ++ s.2)])=_
     rw[qps];rfl
   rintro H6 x11 ⟨p6,rfl,s6,e6⟩
   have s60:=s50.trans s6
   have z4':=z4
   refine⟨_,rfl,_,_,_,_,rfl,rfl,SqL.of (s60 _ _ h1.hq),rfl,_,rfl,⟨_,SqL.of (s60 _ _ h1.hy)⟩,?_⟩
   refine qbq (λv=>match v with | .str y=>.str (qbl (.yields r.name y))|_=>.non) (λσ'=>∃v,σ'=[v,some (.str r.name)]) (qb5 (K:=K) (SqL.of (s60 _ _ h1.hy))) (fits (by rw[Ac];lia)) ⟨none,rfl⟩ (λv σ' J RR' hv sm s4 qq=>?_) qck λp7 np7=>?_
   .obtain⟨v0,rfl⟩:=s4
    obtain⟨y,hy,rfl⟩:=AW.mp hv
    have y8:y.length<=8:=(ok.yl y hy).2.1
    have qq:=qq [some (.str y),some (.str r.name)] ⟨_,rfl⟩
    dsimp only at qq
    rw[<- qoh]at qq
    exact⟨_,rfl,_,_,rfl,rfl,fz,_,_,rfl,rfl,fz,_,rfl,_,_,rfl,rfl,fz,qq⟩
   rw[show ((r.yields).map V.str).map (λv=>match v with | .str y=>V.str (qbl (.yields r.name y))|_=>.non)=qea ((r.yields).map (.yields r.name)) by unfold qea;rw[Bi,Bi,Bi];rfl]
   obtain⟨s6',e7⟩:=alc (o:=.lst (qea ((r.yields).map (.yields r.name)))) np7
   generalize upd H6 p7 _=H7 at s6' e7 |-
   have s70:=s60.trans s6'
   refine⟨_,rfl,fits (show 1<=100000 by decide),λp8 n8'=>?_⟩
   obtain⟨s8,e8⟩:=alc (o:=.lst [V.str (qbl (qdl r))]) n8'
   generalize upd H7 p8 _=H8 at s8 e8 |-
   have s80:=s70.trans s8
   refine⟨_,rfl,_,rfl,_,rfl,_,rfl,_,rfl,fits (show 6<=100000 by decide),λq nq=>?_⟩
   have s9:=zi (o:=.lst [V.ref p8,V.ref p1,V.ref p2,V.ref p3,V.ref p6,V.ref p7]) nq
   have s89:=s8.trans s9
   have s79:=s6'.trans s89
   have s59:=s6.trans s79
   have s49:=s5.trans s59
   have s29:=s4.trans s49
   refine k q _ _ (s80.free nq) (s80.trans s9) qz rfl λi v rw hv hrw=>?_
   have hi:i<6:=(Ag.mp hv).1
   rcases (by lia:i=0\/i=1\/i=2\/i=3\/i=4\/i=5) with rfl|rfl|rfl|rfl|rfl|rfl
   .cases hv;cases hrw;exact⟨p8,rfl,s9 _ _ e8⟩
   .cases hv;cases hrw;exact⟨p1,rfl,(s1.trans s29) _ _ e1⟩
   .cases hv;cases hrw;exact⟨p2,rfl,s29 _ _ e2⟩
   .cases hv;cases hrw;exact⟨p3,rfl,s49 _ _ e4⟩
   .cases hv;cases hrw;exact⟨p6,rfl,s79 _ _ e6⟩
   .cases hv;cases hrw;exact⟨p7,rfl,s89 _ _ e7⟩
theorem qs8 (T:Txt K mg a):FnOk P w K mg base CX0 2 a.pF a.pI ["_law_rule_here"] spRws:=by
 refine T.gX.fn.ok qgh (λvs H Q E h=>?_) (λcdv A outer s H vs Q E hr h=>?_)
 .obtain⟨_,_,rfl,_⟩:=h
  all_goals rfl
 .obtain⟨p,r,rfl,lr,ok,k⟩:=h
  refine⟨_,(qk (zg (i:=1) qgh.nd rfl (A4 rfl) (zq qm))
   (qk (qbv Bl rfl (qbc (zm (qp3 T) (hr.mono En) rfl T.bE.mgx T.bE.fn.kp T.bE.bd .nil qan (qh (pv 0) qm qj))) (qai (i:=2) qgh.nd rfl (A4 rfl)) (qu (zg (i:=1) qgh.nd rfl (A4 rfl) (zh qce (pv 1) (pv 2)))))
   (qu (zc (pv 1))))),?_⟩
  refine⟨qe3,λq0 n0=>?_⟩
  obtain⟨s0,e0⟩:=alc (o:=.lst []) n0
  generalize upd H q0 _=H0 at s0 e0 |-
  refine⟨_,rfl,p,r,rfl,lr.same s0,ok,λps H1 us nps s1 es lus hus=>?_⟩
  have s01:=s0.trans s1
  have sl:=qvx ok
  have lS:(qgr r).length=6:=rfl
  refine⟨_,rfl,⟨_,SqL.of es⟩,qcl (K:=K) (a:=ps) (xs:=us) (λi σ J=>Same H1 J/\(∃q,J q=some (.lst (qea ((qgr r).take i).flatten))/\H q=none/\∃v2:Option V,σ=[some (.ref p),some (.ref q),v2])/\((qgr r).take i).flatten.length<=100*i) ⟨Same.refl _,⟨q0,s1 _ _ e0,n0,none,rfl⟩,by simp⟩ (λi σ J _ h=>SqL.of (h.1 _ _ es)) ?_ ?_⟩
  .rintro i v σ J hv ⟨sJ,⟨q,hq,nq,v2,rfl⟩,li⟩
   have hi:i<6:=by rw[<- lus];exact(Ag.mp hv).1
   obtain⟨rw',hrw⟩:∃rw',(qgr r)[i]?=some rw':=⟨_,Ak (by rw[lS];exact hi)⟩
   obtain⟨b,rfl,hb⟩:=hus i v rw' hv hrw
   have lb:=sl rw' (Ay hrw)
   have lz:∀z:List Rw7,(qea z).length=z.length:=λz=>by unfold qea;rw[Ac,Ac]
   refine⟨_,rfl,_,rfl,_,_,_,_,rfl,rfl,hq,sJ _ _ hb,fits (by rw[lz,lz];lia),λq2 n2=>?_⟩
   refine⟨sJ.trans (zi n2),⟨q2,?_,(s01.trans sJ).free n2,_,rfl⟩,?_⟩
   .rw[qz,qbf hrw,List.flatten_append]
    unfold qea
    rw[A1,A1]
    simp
   .rw[qbf hrw,List.flatten_append,Aj]
    simp only[List.flatten_cons,List.flatten_nil,B8]
    lia
  .rintro σ J ⟨sJ,⟨q,hq,nq,v2,rfl⟩,li⟩
   rw[lus,<- lS,Bx]at hq
   exact⟨_,rfl,k q J nq (s01.trans sJ) hq⟩
theorem qp4 (T:Txt K mg a):FnOk P w K mg base CX0 1 a.mV a.mW ["_law_rule_here"] spKin2:=by
 refine T.bS.fn.ok qg5 (λvs H Q E h=>?_) (λcdv A outer s H vs Q E hr h=>?_)
 .obtain⟨_,_,rfl,_⟩:=h
  all_goals rfl
 .obtain⟨p,r,rfl,lr,l1,l2,l3,k⟩:=h
  refine⟨_,(qk (zg (i:=1) qg5.nd rfl (A4 rfl) (zh qce (zh qce (zh qce (zq (qh (zy jb (pv 0) qp (λ_ _=>rfl)) qm zw)) (zy jb (pv 0) qp (λ_ _=>rfl))) (zy jb (pv 0) qp (λ_ _=>rfl))) (qeq (N:=["_law_row"]) (js:=[none]) (XN:=["_law_rule_here", "_law_kinds_here"]) (xs:=qaa qgd) rfl rfl rfl Ek (qbc (zy jb (pv 0) qp (λ_ _=>rfl))) (λ_ _ _ _ _ _=>(qai (i:=0) (show Cd (["_law_row"]:List Str) from by decide +kernel) rfl (A4 rfl) (CQ rfl))) (λ_ _ _ _ _ _=>qcj) (λ_ _ _ _ _ _=>(zy (qjp (K:=K) rfl) (pv 0) qp (λ_ _=>rfl))))))
   (qk (zk (zf qci (zy jb (pv 0) qp (λ_ _=>rfl)) qay (qaf _)) (qu (zj (qde AI AR AS qa7 (pv 1) (qh (zy jb (pv 0) qp (λ_ _=>rfl)) qm zw)))) qab)
   (qk (zk (zf qci (zy jb (pv 0) qp (λ_ _=>rfl)) qay (qaf _)) (qu (zg (i:=1) qg5.nd rfl (A4 rfl) (zh qce (pv 1) (zq (qh (zy ja (zy jb (pv 0) qp (λ_ _=>rfl)) qp (λ_ _=>rfl)) (qh (zy ja (zy jb (pv 0) qp (λ_ _=>rfl)) qp (λ_ _=>rfl)) qm zw) zw))))) qab)
   (qu (zc (pv 1)))))),?_⟩
  obtain⟨pe,pa,pl,py,v,us,hx,he,ha,hl,tl,hs,hy⟩:=lr
  have lu:us.length=r.longer.length:=by rw[tl.length,Ac]
  refine⟨_,rfl,_,_,_,_,rfl,rfl,SqL.of (hx),rfl,fits (show 1<=100000 by decide),λq1 n1=>?_⟩
  obtain⟨s1,e1⟩:=alc (o:=.lst [V.str r.owes]) n1
  generalize upd H q1 _=H1 at s1 e1 |-
  refine⟨_,rfl,_,_,_,_,rfl,rfl,SqL.of (s1 _ _ hx),rfl,_,_,_,_,rfl,rfl,e1,s1 _ _ he,fits (by rw[Ac];show 1+_<=_;lia),λq2 n2=>?_⟩
  obtain⟨s2,e2⟩:=alc (o:=.lst ([V.str r.owes]++r.ends.map V.str)) n2
  generalize upd H1 q2 _=H2 at s2 e2 |-
  have s12:=s1.trans s2
  refine⟨_,rfl,_,_,_,_,rfl,rfl,SqL.of (s12 _ _ hx),rfl,_,_,_,_,rfl,rfl,e2,s12 _ _ ha,fits (by rw[Aj,Ac,Ac];show 1+_+_<=_;lia),λq3 n3=>?_⟩
  obtain⟨s3,e3⟩:=alc (o:=.lst ([V.str r.owes]++r.ends.map V.str++r.anew.map V.str)) n3
  generalize upd H2 q3 _=H3 at s3 e3 |-
  have s13:=s12.trans s3
  have tl3:=tl.same s13
  refine⟨_,rfl,_,_,_,_,rfl,rfl,SqL.of (s13 _ _ hx),rfl,_,rfl,⟨_,SqL.of (s13 _ _ hl)⟩,?_⟩
  let f:V->V:=λv=>match v with
   |.ref b=>match H3 b with
    |some (.tup [.str y,.int _,.int _])=>.str y
    |_=>.non
   |_=>.non
  refine qbq f (λσ'=>∃v,σ'=[v]) (qb5 (K:=K) (SqL.of (s13 _ _ hl))) (fits (by lia)) ⟨none,rfl⟩ (λv σ' H' RR' hv sm s4 q=>?_) qck λp5 hp5=>?_
  .obtain⟨v0,rfl⟩:=s4
   obtain⟨j,hj⟩:=Ba hv
   obtain⟨b,t,rfl,g1,g2⟩:=tl3.get' hj
   rw[Ai]at g1
   cases eg:r.longer[j]? with
   |none=>rw[eg]at g1;cases g1
   |some rr =>
    rw[eg]at g1
    cases g1
    have ef:f (.ref b)=.str rr.1:=by show (match H3 b with|some (.tup [.str y,.int _,.int _])=>V.str y|_=>.non)=_;rw[g2];rfl
    have q:=q [some (.ref b)] ⟨_,rfl⟩
    rw[ef]at q
    exact⟨_,rfl,_,_,_,_,rfl,rfl,SqT.of (sm _ _ g2),rfl,q⟩
  have em:us.map f=(r.longer.map (·.1)).map V.str:=by
   refine Bq λj=>?_
   rw[Ai,Ai,Ai]
   cases eg:r.longer[j]? with
   |none=>rw[AO (by rw[lu];exact B6.mp eg)];rfl
   |some rr =>
    obtain⟨b,g1,g2⟩:=tl3.get (i:=j) (r:=qiq rr) (by rw[Ai,eg];rfl)
    rw[g1]
    show some (match H3 b with|some (.tup [.str y,.int _,.int _])=>V.str y|_=>.non)=_
    rw[g2];rfl
  rw[em]
  obtain⟨s5,e5⟩:=alc (o:=.lst ((r.longer.map (·.1)).map V.str)) hp5
  generalize upd H3 p5 _=H5 at s5 e5 |-
  refine⟨_,_,_,_,rfl,rfl,s5 _ _ e3,e5,fits (by simp only[Aj,Ac,At,Ca];lia),λq n6=>?_⟩
  have eb:([V.str r.owes]++r.ends.map V.str++r.anew.map V.str)++(r.longer.map (·.1)).map V.str=([r.owes]++r.ends++r.anew++r.longer.map (·.1)).map V.str:=by simp only[A1,AA,BV]
  rw[eb]
  generalize eB:[r.owes]++r.ends++r.anew++r.longer.map (·.1)=B
  have lB:B.length<=4000:=by rw[<- eB];simp only[Aj,Ac,At,Ca];lia
  have ek:qag r=B++r.opens.toList++stL r.still:=by unfold qag;rw[eB]
  have s15:=s13.trans s5
  obtain⟨s6,e6⟩:=alc (o:=.lst (B.map V.str)) n6
  generalize upd H5 q _=H6 at s6 e6 |-
  have s16:=s15.trans s6
  have nq:=s15.free n6
  have hx6:=s16 _ _ hx
  have hs6:=hs.same s16
  have ho:r.opens=none \/ ∃o,r.opens=some o:=by
   cases r.opens with
   |none=>exact .inl rfl
   |some o=>exact .inr ⟨o,rfl⟩
  apply useH (p:=λ(H7:Hp)=>∃B':List Str,Same H H7/\B'.length<=4001/\H7 q=some (.lst (B'.map V.str))/\qag r=B'++stL r.still)
  .intro fin
   refine ho.elim (λeo=>?_) (λeo=>?_)
   .refine⟨_,rfl,_,_,_,_,rfl,rfl,SqL.of (hx6),rfl,rfl,_,rfl,qdy (by rw[eo];rfl) ?_⟩
    have qq:∃B':List Str,Same H H6/\B'.length<=4001/\H6 q=some (.lst (B'.map V.str))/\qag r=B'++stL r.still:=⟨B,s16,by lia,e6,by rw[ek,eo];simp⟩
    generalize H6=W6 at qq |-
    exact fin W6 qq
   .obtain⟨o,eo⟩:=eo
    have eo':qc3 r.opens=.str o:=by rw[eo];rfl
    refine⟨_,rfl,_,_,_,_,rfl,rfl,SqL.of (hx6),rfl,rfl,_,rfl,qd4 (λz=>by rw[eo']at z;cases z) ?_⟩
    refine⟨_,rfl,.inl ⟨rfl,_,SqL.of e6⟩,_,rfl,_,_,_,_,rfl,rfl,SqL.of (hx6),rfl,_,_,_,rfl,rfl,e6,qcx (by rw[Ac];lia),?_⟩
    have qq:∃B':List Str,Same H (upd H6 q (.lst (B.map V.str++[qc3 r.opens])))/\B'.length<=4001/\upd H6 q (.lst (B.map V.str++[qc3 r.opens])) q=some (.lst (B'.map V.str))/\qag r=B'++stL r.still:=⟨B++[o],qah s16 nq,by rw[Aj];show _+1<=_;lia,by rw[qz,A1,eo'];rfl,by rw[ek,eo];rfl⟩
    exact fin _ qq
  .rintro H7 ⟨B',s7,l7,e7,ek'⟩
   have hx7:=s7 _ _ hx
   have hs7:=hs.same s7
   cases es:r.still with
   |none =>
    rw[es]at hs7 ek'
    cases hs7
    refine⟨_,rfl,_,_,_,_,rfl,rfl,SqL.of (hx7),rfl,rfl,_,rfl,qdy rfl ⟨_,rfl,k q H7 nq s7 (by rw[ek',e7];simp[stL])⟩⟩
   |some sv =>
    rw[es]at hs7 ek'
    obtain⟨ps,rfl,hps⟩:=hs7
    refine⟨_,rfl,_,_,_,_,rfl,rfl,SqL.of (hx7),rfl,rfl,_,rfl,qd4 (λz=>nomatch z) ?_⟩
    refine⟨_,rfl,_,rfl,_,_,_,_,rfl,rfl,SqL.of (hx7),rfl,_,_,_,_,rfl,rfl,SqT.of hps,rfl,_,rfl,_,_,_,_,rfl,rfl,SqL.of (hx7),rfl,_,_,_,_,rfl,rfl,SqT.of hps,rfl,fits (show 2<=100000 by decide),λq8 n8=>?_⟩
    obtain⟨s8,e8⟩:=alc (o:=.lst [V.str sv.1,V.str sv.2]) n8
    generalize upd H7 q8 _=H8 at s8 e8 |-
    refine⟨_,_,_,_,rfl,rfl,s8 _ _ e7,e8,fits (by rw[Ac];show _+2<=_;lia),λq9 n9=>?_⟩
    exact⟨_,rfl,k q9 _ ((s7.trans s8).free n9) ((s7.trans s8).trans (zi n9)) (by rw[qz,ek',A1];rfl)⟩
theorem qs9 (T:Txt K mg a):FnOk P w K mg base CX0 1 a.lV a.mD ["_law_rule_here", "_law_kind"] spRo2:=by
 refine T.bH.fn.ok qsi (λvs H Q E h=>?_) (λcdv A outer s H vs Q E hr h=>?_)
 .obtain⟨_,_,_,rfl,_⟩:=h
  all_goals rfl
 .obtain⟨p,k1,r,rfl,lr,ll,k⟩:=h
  refine⟨_,(qk (zk (PW.pt (qd3 (zf qaz (pv 1) (zy jb (pv 0) qp (λ_ _=>rfl)) (qaf _)) (qc9 (zf qcc (pv 1) (zy jb (pv 0) qp (λ_ _=>rfl)) (by with_unfolding_all rfl))))) (qu (zc zp)) qab)
   (qk (zk (zf qcc (pv 1) (zy jb (pv 0) qp (λ_ _=>rfl)) (by with_unfolding_all rfl)) (qu (zc zp)) qab)
   (qk (zk (zf qcc (pv 1) (qeq (N:=["_law_row"]) (js:=[none]) (XN:=["_law_rule_here", "_law_kind"]) (xs:=qaa qho) rfl rfl rfl Ek (qbc (zy jb (pv 0) qp (λ_ _=>rfl))) (λ_ _ _ _ _ _=>(qai (i:=0) (show Cd (["_law_row"]:List Str) from by decide +kernel) rfl (A4 rfl) (CQ rfl))) (λ_ _ _ _ _ _=>qcj) (λ_ _ _ _ _ _=>(zy (qjp (K:=K) rfl) (pv 0) qp (λ_ _=>rfl)))) (by with_unfolding_all rfl)) (qu (zc zp)) qab)
   (qk (zk (PW.pt (qd1 (zf qci (zy jb (pv 0) qp (λ_ _=>rfl)) qay (qaf _)) (qd5 (zf qaz (pv 1) (zy ja (zy jb (pv 0) qp (λ_ _=>rfl)) qp (λ_ _=>rfl)) (qaf _))))) (qu (zc zp)) qab)
   (qk (zk (PW.pt (qd1 (zf qci (zy jb (pv 0) qp (λ_ _=>rfl)) qay (qaf _)) (qd5 (zf qaz (pv 1) (zy ja (zy jb (pv 0) qp (λ_ _=>rfl)) qp (λ_ _=>rfl)) (qaf _))))) (qu (zc zp)) qab)
   (qu (zc zp))))))),?_⟩
  have hr2:=lr
  obtain⟨pe,pa,pl,py,sv,us,h1,h3,h4,h5,h6,h2,h7⟩:=id lr
  apply use (p:=¬(k1=r.owes\/r.ends.contains k1=true))
  .intro mm
   have fin:k1=r.owes\/r.ends.contains k1=true->Q (.str (Ab "ends")) H:=λz=>by
    have:=k H (Same.refl H)
    unfold roR at this
    rw[if_pos z]at this
    exact this
   refine⟨_,rfl,_,rfl,_,_,_,_,rfl,rfl,SqL.of (h1),rfl,rfl,_,rfl,qb1 (λc=>qet (fin (.inl (V.str.inj (of_decide_eq_true c))))) (λc=>⟨_,rfl,_,rfl,_,_,_,_,rfl,rfl,SqL.of (h1),rfl,_,_,rfl,.inl (SqL.of h3),rfl,qbg _,_,rfl,?_⟩)⟩
   show if inV (.str k1) (r.ends.map V.str)=true then _ else _
   rw[qb9]
   exact qb1 (λc2=>fin (.inr c2)) (λc2=>mm λz=>by
    rcases z with z|z
    .exact c (decide_eq_true (congrArg V.str z))
    .exact c2 z)
  .intro c1
   refine⟨_,rfl,_,rfl,_,_,_,_,rfl,rfl,SqL.of (h1),rfl,_,_,rfl,.inl (SqL.of h4),rfl,qbg _,_,rfl,?_⟩
   show if inV (.str k1) (r.anew.map V.str)=true then _ else _
   rw[qb9]
   refine qb1 (λc2=>?_) (λc2=>?_)
   .have:=k H (Same.refl H)
    unfold roR at this
    rw[if_neg c1,if_pos c2]at this
    exact this
   .have lu:us.length=r.longer.length:=by rw[h6.length,Ac]
    have hll:=ll
    refine⟨_,rfl,_,rfl,_,_,_,_,rfl,rfl,SqL.of (h1),rfl,_,rfl,⟨_,SqL.of h5⟩,?_⟩
    let f:V->V:=λv=>match v with
     |.ref b=>match H b with
      |some (.tup [.str y,.int _,.int _])=>.str y
      |_=>.non
     |_=>.non
    refine qbq f (λσ'=>∃v,σ'=[v]) (qb5 (K:=K) (SqL.of h5)) (fits (by lia)) ⟨none,rfl⟩ (λv σ' H' RR' hv sm s4 q=>?_) qck λp5 hp5=>?_
    .obtain⟨v0,rfl⟩:=s4
     obtain⟨j,hj⟩:=Ba hv
     obtain⟨b,t,rfl,g1,g2⟩:=h6.get' hj
     rw[Ai]at g1
     cases eg:r.longer[j]? with
     |none=>rw[eg]at g1;cases g1
     |some rr =>
      rw[eg]at g1
      cases g1
      have ef:f (.ref b)=.str rr.1:=by show (match H b with|some (.tup [.str y,.int _,.int _])=>V.str y|_=>.non)=_;rw[g2];rfl
      have q:=q [some (.ref b)] ⟨_,rfl⟩
      rw[ef]at q
      exact⟨_,rfl,_,_,_,_,rfl,rfl,SqT.of (sm _ _ g2),rfl,q⟩
    have em:us.map f=(r.longer.map (·.1)).map V.str:=by
     refine Bq λj=>?_
     rw[Ai,Ai,Ai]
     cases eg:r.longer[j]? with
     |none=>rw[AO (by rw[lu];exact B6.mp eg)];rfl
     |some rr =>
      obtain⟨b,g1,g2⟩:=h6.get (i:=j) (r:=qiq rr) (by rw[Ai,eg];rfl)
      rw[g1]
      show some (match H b with|some (.tup [.str y,.int _,.int _])=>V.str y|_=>.non)=_
      rw[g2];rfl
    have s5:=zi (o:=.lst (us.map f)) hp5
    refine⟨_,_,rfl,.inl (SqL.of qz),rfl,by rw[em];exact qbg _,_,rfl,?_⟩
    show if inV (.str k1) (us.map f)=true then _ else _
    rw[em,qb9]
    rw[em]at s5
    refine qb1 (λc3=>?_) (λc3=>?_)
    .have:=k _ s5
     unfold roR at this
     rw[if_neg c1,if_neg c2,if_pos c3]at this
     exact this
    .have fin:=k _ s5
     unfold roR at fin
     rw[if_neg c1,if_neg c2,if_neg c3]at fin
     have h15:=s5 _ _ h1
     have h25:=h2.same s5
     generalize upd H p5 _=H5 at s5 h15 h25 fin |-
     cases e:r.still with
     |none =>
      rw[e]at h25 fin
      cases h25
      exact⟨_,rfl,_,_,_,_,rfl,rfl,SqL.of (h15),rfl,rfl,_,rfl,qdy rfl (qa1 ⟨_,rfl,_,_,_,_,rfl,rfl,SqL.of (h15),rfl,rfl,_,rfl,qdy rfl (qa1 fin)⟩)⟩
     |some z =>
      obtain⟨z1,z2⟩:=z
      rw[e]at h25 fin
      obtain⟨pz,rfl,hz⟩:=h25
      unfold qm1 at fin
      simp only at fin
      refine⟨_,rfl,_,_,_,_,rfl,rfl,SqL.of (h15),rfl,rfl,_,rfl,qd4 (λz=>nomatch z) ⟨_,rfl,_,rfl,_,_,_,_,rfl,rfl,SqL.of (h15),rfl,_,_,_,_,rfl,rfl,SqT.of hz,rfl,rfl,_,rfl,qb1 (λc=>?_) (λc=>?_)⟩⟩
      .rw[if_pos (V.str.inj (of_decide_eq_true c))]at fin
       exact fin
      .rw[if_neg (λq=>c (decide_eq_true (congrArg V.str q)))]at fin
       refine⟨_,rfl,_,_,_,_,rfl,rfl,SqL.of (h15),rfl,rfl,_,rfl,qd4 (λz=>nomatch z) ⟨_,rfl,_,rfl,_,_,_,_,rfl,rfl,SqL.of (h15),rfl,_,_,_,_,rfl,rfl,SqT.of hz,rfl,rfl,_,rfl,qb1 (λc=>?_) (λc=>?_)⟩⟩
       .rw[if_pos (V.str.inj (of_decide_eq_true c))]at fin
        exact fin
       .rw[if_neg (λq=>c (decide_eq_true (congrArg V.str q)))]at fin
        exact fin
theorem qg9 (T:Txt K mg a):FnOk P w K mg base CX0 1 a.nU a.mY ["_law_found"] spWh2:=by
 refine T.kP.fn.ok qph (λvs H Q E h=>?_) (λcdv A outer s H vs Q E hr h=>?_)
 .obtain⟨_,rfl,_⟩:=h
  all_goals rfl
 .obtain⟨i,rfl,k⟩:=h
  refine⟨_,(qu (zc (qtc (zn qcn (by rfl) T.kM qak (qh (pv 0) (qh (qc5 (v:=.ty "int") rfl T.bW qhp rfl) qm qj) qj)) (qma (qtd (zn qcn (by rfl) T.kM qak (qh (pv 0) (qh (qc5 (v:=.ty "bool") rfl T.sM qsd rfl) qm qj) qj))))))),?_⟩
  exact⟨_,rfl,_,_,_,_,rfl,.int _,qix,_,rfl,qet ⟨_,rfl,_,_,_,_,rfl,.int _,qmh,_,rfl,k⟩⟩
theorem qen (T:Txt K mg a):FnOk P w K mg base CX0 1 a.fM a.fW ["_law_found", "_law_due"] (spTx2 K):=by
 refine T.kK.fn.ok qpi (λvs H Q E h=>?_) (λcdv A outer s H vs Q E hr h=>?_)
 .obtain⟨_,_,_,rfl,_⟩:=h
  all_goals rfl
 .obtain⟨p,q,xs,rfl,hp,hq,lx,k⟩:=h
  refine⟨_,(qk (zk (PW.pt (qd3 (qbm (zo (zn qcn (by rfl) T.kM qak (qh (pv 0) (qh (qc5 (v:=.ty "list") rfl T.kU qdf rfl) qm qj) qj)))) (qc9 (qbm (zo (zn (qig rfl) (by rfl) T.dL qkj (qh (qeq (N:=["_law_word"]) (js:=[none]) (XN:=["_law_found", "_law_due"]) (xs:=qaa qge) rfl rfl rfl Ek (qbc (pv 0)) (λ_ _ _ _ _ _=>(qai (i:=0) (show Cd (["_law_word"]:List Str) from by decide +kernel) rfl (A4 rfl) (CQ rfl))) (λ_ _ _ _ _ _=>qcj) (λ_ _ _ _ _ _=>(zn (qr1 (K:=K) rfl) (by rfl) T.kM qak (qh (pv 0) (qh (qc5 (v:=.ty "str") rfl T.kR qdi rfl) qm qj) qj)))) qm qhf))))))) (qu (zc qc0)) qab)
   (qu (zc (qd7 (op_eqL hr.units0) (pv 0) (pv 1) (qaf _))))),?_⟩
  refine⟨_,rfl,_,_,_,_,rfl,.lst hp,qiz,_,rfl,qa1 ?_⟩
  refine⟨_,rfl,_,rfl,⟨_,SqL.of hp⟩,?_⟩
  refine qbq (λ_=>.bl true) (λσ'=>∃v,σ'=[v]) (qb5 (K:=K) (SqL.of hp)) (fits (by rw[Ac];exact A3 lx En)) ⟨none,rfl⟩ (λv σ' H' RR' hv sm s4 q=>?_) qck λp5 hp5=>?_
  .obtain⟨v0,rfl⟩:=s4
   obtain⟨x,_,rfl⟩:=AW.mp hv
   exact⟨_,rfl,_,_,_,_,rfl,.str _,qer,q _ ⟨_,rfl⟩⟩
  have e5:((xs.map V.str).map λ_=>V.bl true)=(xs.map λ_=>true).map V.bl:=by rw[Bi,Bi];rfl
  rw[e5]
  have s1:=zi (o:=.lst ((xs.map λ_=>true).map V.bl)) hp5
  have ea:(xs.map λ_=>true).all (λb=>b)=true:=by rw[CK];exact AV.mpr λ_ _=>rfl
  refine⟨_,_,rfl,SqL.of qz,?_⟩
  rw[ea]
  refine⟨_,rfl,qa1 ⟨_,rfl,_,rfl,_,_,_,_,rfl,rfl,SqL.of (s1 _ _ hp),SqL.of (s1 _ _ hq),qbg _,qbg _,?_⟩⟩
  show Q (.bl (qd2 (xs.map V.str) (xs.map V.str))) _
  rw[qdr (qbg _)]
  exact k _ s1
theorem qoo (T:Txt K mg a):FnOk P w K mg base CX0 2 a.nB a.pK ["_law_found", "_law_due"] spLo2:=by
 refine T.bT.fn.ok qi3 (λvs H Q E h=>?_) (λcdv A outer s H vs Q E hr h=>?_)
 .obtain⟨_,_,_,_,_,rfl,_⟩:=h
  all_goals rfl
 .obtain⟨p,q,us,us2,ls,rfl,hp,tp,hq,tq,k⟩:=h
  refine⟨_,(qk (zk (PW.pt (qd3 (qbm (zo (zn qcn (by rfl) T.kM qak (qh (pv 0) (qh (qc5 (v:=.ty "list") rfl T.kU qdf rfl) qm qj) qj)))) (qc9 (zf (qw5 hr.units) (pv 0) (pv 1) (qaf _))))) (qu (zc qc0)) qab)
   (qk (qbv Bl rfl (qbc (pv 0)) (qai (i:=2) qi3.nd rfl (A4 rfl)) (qk (zk (PW.pt (qd3 (qbm (zo (zn qcn (by rfl) T.kM qak (qh (pv 2) (qh (qc5 (v:=.ty "tuple") rfl T.lQ qkk rfl) qm qj) qj)))) (qc9 (qbm (zo (zn qcn (by rfl) T.kM qak (qh (zy ja (pv 2) qp (λ_ _=>rfl)) (qh (qc5 (v:=.ty "str") rfl T.kR qdi rfl) qm qj) zw))))))) (qu (zc qc0)) qab)
   (qu (zk (PW.pt (qd3 (qbm (zo (zm (qg9 T) (hr.mono En) rfl T.kP.mgx T.kP.fn.kp T.kP.bd .nil qan (qh (zy ja (pv 2) qp (λ_ _=>rfl)) qm zw)))) (qc9 (qbm (zo (zm (qg9 T) (hr.mono En) rfl T.kP.mgx T.kP.fn.kp T.kP.bd .nil qan (qh (zy ja (pv 2) qp (λ_ _=>rfl)) qm zw))))))) (qu (zc qc0)) qab))))
   (qu (zc qc0)))),?_⟩
  refine⟨_,rfl,_,_,_,_,rfl,.lst hp,qiz,_,rfl,qa1 ?_⟩
  have fl:(ls.map qiq).all (·.all qbn)=true:=by rw[CK];exact AV.mpr λ_ _=>rfl
  refine⟨_,rfl,_,rfl,_,_,_,_,_,_,rfl,rfl,SqL.of hp,SqL.of hq,tp,tq,fl,fl,_,rfl,?_⟩
  rw[qlx fl]
  refine qa1 ⟨_,rfl,_,rfl,⟨_,SqL.of hp⟩,qcl (K:=K) (a:=p) (xs:=us) (λi σ J=>Same H J/\∃v2:Option V,σ=[some (.ref p),some (.ref q),v2]) ⟨Same.refl H,none,rfl⟩ (λi σ J _ h=>SqL.of (h.1 _ _ hp)) ?_ ?_⟩
  .rintro i v σ J hv ⟨sJ,v2,rfl⟩
   obtain⟨b,t,rfl,g1,g2⟩:=tp.get' hv
   rw[Ai]at g1
   cases eg:ls[i]? with
   |none=>rw[eg]at g1;cases g1
   |some rr =>
    rw[eg]at g1
    cases g1
    have g2:=sJ _ _ g2
    refine⟨_,rfl,_,_,_,_,rfl,.tup g2,qfi,_,rfl,qa1 ⟨_,rfl,_,_,_,_,rfl,rfl,SqT.of g2,rfl,_,_,_,_,rfl,.str _,qer,_,rfl,qa1 ?_⟩⟩
    exact⟨_,rfl,_,_,_,_,rfl,rfl,SqT.of g2,rfl,_,rfl,_,rfl,qa1 ⟨_,rfl,_,_,_,_,rfl,rfl,SqT.of g2,rfl,_,rfl,_,rfl,qa1 ⟨sJ,_,rfl⟩⟩⟩
  .rintro σ J ⟨sJ,v2,rfl⟩
   exact k J sJ
theorem qib (T:Txt K mg a):FnOk P w K mg base CX0 1 a.dY a.fR ["self", "kind"] (spStl2 a):=by
 refine T.mR.fn.ok qhr (λvs H Q E h=>?_) (λcdv A outer s H vs Q E hr h=>?_)
 .obtain⟨_,_,_,rfl,_⟩:=h
  all_goals rfl
 .obtain⟨A,k1,r,rfl,ru,k⟩:=h
  refine⟨_,(qk (zk (zf qtl (qaj (pv 0) rfl) qay (qaf _)) (qu (zc zp)) qab)
   (qk (zk (zf qaz (pv 1) (zy ja (qaj (pv 0) rfl) qp (λ_ _=>rfl)) (qaf _)) (qu (zc zp)) qab)
   (qu (zc (qdg (zf qaz (pv 1) (zy ja (qaj (pv 0) rfl) qp (λ_ _=>rfl)) (qaf _)) zp zp))))),?_⟩
  obtain⟨sv,us,h1,h2,h3,h4,h5,h6,h7⟩:=ru
  cases e:r.still with
  |none =>
   rw[e]at h2 k
   cases h2
   exact⟨_,rfl,_,_,_,_,_,rfl,h1,T.k9,zd T.kA En,rfl,rfl,_,rfl,qez rfl k⟩
  |some z =>
   obtain⟨z1,z2⟩:=z
   rw[e]at h2 k
   obtain⟨p,rfl,hp⟩:=h2
   refine⟨_,rfl,_,_,_,_,_,rfl,h1,T.k9,zd T.kA En,rfl,rfl,_,rfl,qat (λz=>nomatch z) ⟨_,rfl,_,rfl,_,_,_,_,_,rfl,h1,T.k9,zd T.kA En,rfl,_,_,_,_,rfl,rfl,SqT.of hp,rfl,rfl,_,rfl,qb1 (λc=>?_) (λc=>?_)⟩⟩
   .have c:=V.str.inj (of_decide_eq_true c)
    rw[show qm1 (some (z1,z2)) k1=Ab "still" by unfold qm1;simp only;rw[if_pos c]]at k
    exact k
   .have c:¬k1=z1:=λq=>c (decide_eq_true (congrArg V.str q))
    refine⟨_,rfl,_,rfl,_,_,_,_,_,rfl,h1,T.k9,zd T.kA En,rfl,_,_,_,_,rfl,rfl,SqT.of hp,rfl,rfl,_,rfl,qb1 (λc2=>?_) (λc2=>?_)⟩
    .have c2:=V.str.inj (of_decide_eq_true c2)
     rw[show qm1 (some (z1,z2)) k1=Ab "goes on" by unfold qm1;simp only;rw[if_neg c,if_pos c2]]at k
     exact k
    .have c2:¬k1=z2:=λq=>c2 (decide_eq_true (congrArg V.str q))
     rw[show qm1 (some (z1,z2)) k1=Ab "" by unfold qm1;simp only;rw[if_neg c,if_neg c2]]at k
     exact k
theorem qp5 (T:Txt K mg a):FnOk P w K mg base CX0 2 a.dU a.pN ["self", "kind"] (qyh a):=by
 refine T.mI.fn.ok qpj (λvs H Q E h=>?_) (λcdv A outer s H vs Q E hr h=>?_)
 .obtain⟨_,_,_,rfl,_⟩:=h
  all_goals rfl
 .obtain⟨A,k1,r,rfl,ru,ll,k⟩:=h
  refine⟨_,(qk (zk (PW.pt (qd3 (zf qaz (pv 1) (qaj (pv 0) rfl) (qaf _)) (qc9 (zf qcc (pv 1) (qaj (pv 0) rfl) (by with_unfolding_all rfl))))) (qu (zc zp)) qab)
   (qk (zk (zf qcc (pv 1) (qaj (pv 0) rfl) (by with_unfolding_all rfl)) (qu (zc zp)) qab)
   (qk (zk (zf qcc (pv 1) (qeq (N:=["row"]) (js:=[none]) (XN:=["self", "kind"]) (xs:=qaa qgf) rfl rfl rfl Ek (qbc (qaj (pv 0) rfl)) (λ_ _ _ _ _ _=>(qai (i:=0) (show Cd (["row"]:List Str) from by decide +kernel) rfl (A4 rfl) (CQ rfl))) (λ_ _ _ _ _ _=>qcj) (λ_ _ _ _ _ _=>(zy (qjp (K:=K) rfl) (pv 0) qp (λ_ _=>rfl)))) (by with_unfolding_all rfl)) (qu (zc zp)) qab)
   (qu (zc (qmc (pv 0) T.k9 T.rC (qib T) (hr.mono En) T.mR.bd .nil qan (qh (pv 1) qm qj))))))),?_⟩
  have hr2:=ru
  obtain⟨sv,us,h1,h2,h3,h4,h5,h6,h7⟩:=id ru
  apply use (p:=¬(k1=r.owes\/r.ends.contains k1=true))
  .intro mm
   have fin:k1=r.owes\/r.ends.contains k1=true->Q (.str (Ab "ends")) H:=λz=>by
    have:=k H (Same.refl H)
    unfold roR at this
    rw[if_pos z]at this
    exact this
   refine⟨_,rfl,_,rfl,_,_,_,_,_,rfl,h1,T.k9,zd T.kA En,rfl,rfl,_,rfl,qb1 (λc=>qet (fin (.inl (V.str.inj (of_decide_eq_true c))))) (λc=>⟨_,rfl,_,rfl,_,_,_,_,_,rfl,h1,T.k9,zd T.kA En,rfl,_,_,rfl,.inl (SqL.of h3),rfl,qbg _,_,rfl,?_⟩)⟩
   show if inV (.str k1) (r.ends.map V.str)=true then _ else _
   rw[qb9]
   exact qb1 (λc2=>fin (.inr c2)) (λc2=>mm λz=>by
    rcases z with z|z
    .exact c (decide_eq_true (congrArg V.str z))
    .exact c2 z)
  .intro c1
   refine⟨_,rfl,_,rfl,_,_,_,_,_,rfl,h1,T.k9,zd T.kA En,rfl,_,_,rfl,.inl (SqL.of h4),rfl,qbg _,_,rfl,?_⟩
   show if inV (.str k1) (r.anew.map V.str)=true then _ else _
   rw[qb9]
   refine qb1 (λc2=>?_) (λc2=>?_)
   .have:=k H (Same.refl H)
    unfold roR at this
    rw[if_neg c1,if_pos c2]at this
    exact this
   .have lu:us.length=r.longer.length:=by rw[h6.length,Ac]
    have hll:=ll
    refine⟨_,rfl,_,rfl,_,_,_,_,_,rfl,h1,T.k9,zd T.kA En,rfl,_,rfl,⟨_,SqL.of h5⟩,?_⟩
    let f:V->V:=λv=>match v with
     |.ref b=>match H b with
      |some (.tup [.str y,.int _,.int _])=>.str y
      |_=>.non
     |_=>.non
    refine qbq f (λσ'=>∃v,σ'=[v]) (qb5 (K:=K) (SqL.of h5)) (fits (by lia)) ⟨none,rfl⟩ (λv σ' H' RR' hv sm s4 q=>?_) qck λp5 hp5=>?_
    .obtain⟨v0,rfl⟩:=s4
     obtain⟨j,hj⟩:=Ba hv
     obtain⟨b,t,rfl,g1,g2⟩:=h6.get' hj
     rw[Ai]at g1
     cases eg:r.longer[j]? with
     |none=>rw[eg]at g1;cases g1
     |some rr =>
      rw[eg]at g1
      cases g1
      have ef:f (.ref b)=.str rr.1:=by show (match H b with|some (.tup [.str y,.int _,.int _])=>V.str y|_=>.non)=_;rw[g2];rfl
      have q:=q [some (.ref b)] ⟨_,rfl⟩
      rw[ef]at q
      exact⟨_,rfl,_,_,_,_,rfl,rfl,SqT.of (sm _ _ g2),rfl,q⟩
    have em:us.map f=(r.longer.map (·.1)).map V.str:=by
     refine Bq λj=>?_
     rw[Ai,Ai,Ai]
     cases eg:r.longer[j]? with
     |none=>rw[AO (by rw[lu];exact B6.mp eg)];rfl
     |some rr =>
      obtain⟨b,g1,g2⟩:=h6.get (i:=j) (r:=qiq rr) (by rw[Ai,eg];rfl)
      rw[g1]
      show some (match H b with|some (.tup [.str y,.int _,.int _])=>V.str y|_=>.non)=_
      rw[g2];rfl
    have s5:=zi (o:=.lst (us.map f)) hp5
    refine⟨_,_,rfl,.inl (SqL.of qz),rfl,by rw[em];exact qbg _,_,rfl,?_⟩
    show if inV (.str k1) (us.map f)=true then _ else _
    rw[em,qb9]
    rw[em]at s5
    refine qb1 (λc3=>?_) (λc3=>?_)
    .have:=k _ s5
     unfold roR at this
     rw[if_neg c1,if_neg c2,if_pos c3]at this
     exact this
    .have:=k _ s5
     unfold roR at this
     rw[if_neg c1,if_neg c2,if_neg c3]at this
     exact⟨_,rfl,_,_,_,rfl,s5 _ _ h1,rfl,_,rfl,A,k1,r,rfl,hr2.same s5,this⟩
theorem qta (T:Txt K mg a):FnOk P w K mg base CX0 3 a.mG a.mK ["_law_found", "_law_rule_here", "_law_kinds_here"] (spSm2 a):=by
 refine T.gR.fn.ok qgi (λvs H Q E h=>?_) (λcdv A outer s H vs Q E hr h=>?_)
 .obtain⟨_,_,_,_,_,rfl,_⟩:=h
  all_goals rfl
 .obtain⟨A,p,pk,r,ks,rfl,ru,lr,rl,hk,k⟩:=h
  refine⟨_,(qk (zk (qbm (zo (zn qsb (by rfl) T.kM qak (qh (pv 0) (qh (qep (v:=.ref a.k8) rfl T.mB rfl) qm qj) qj)))) (qu (zc qc0)) qab)
   (qk (zg (i:=3) qgi.nd rfl (A4 rfl) (zq (qh (qaj (pv 0) rfl) (qh (qaj (pv 0) rfl) (qh (qaj (pv 0) rfl) (qh (qaj (pv 0) rfl) (qh (qaj (pv 0) rfl) (qh (qaj (pv 0) rfl) (qh (qaj (pv 0) rfl) qm qax) qax) qax) qax) qax) qax) qax)))
   (qk (zk (PW.pt (qd3 (zf (qud hr.units0) (pv 3) (qa4 qb3 (pv 1) qcs (qa0 qp)) (qaf _)) (qc9 (qbm (zo (zm (qg9 T) (hr.mono En) rfl T.kP.mgx T.kP.fn.kp T.kP.bd .nil qan (qh (qaj (pv 0) rfl) qm qax))))))) (qu (zc qc0)) qab)
   (qk (zk (PW.pt (qd3 (qbm (zo (zm (qen T) (hr.mono En) rfl T.kK.mgx T.kK.fn.kp T.kK.bd .nil qan (qh (qaj (pv 0) rfl) (qh (zy jb (pv 1) qp (λ_ _=>rfl)) qm zw) qax)))) (qc9 (qbm (zo (zm (qen T) (hr.mono En) rfl T.kK.mgx T.kK.fn.kp T.kK.bd .nil qan (qh (qaj (pv 0) rfl) (qh (zy jb (pv 1) qp (λ_ _=>rfl)) qm zw) qax))))))) (qu (zc qc0)) qab)
   (qk (zk (PW.pt (qd3 (qbm (zo (zm (qoo T) (hr.mono En) rfl T.bT.mgx T.bT.fn.kp T.bT.bd .nil qan (qh (qaj (pv 0) rfl) (qh (zy jb (pv 1) qp (λ_ _=>rfl)) qm zw) qax)))) (qc9 (qbm (zo (zm (qen T) (hr.mono En) rfl T.kK.mgx T.kK.fn.kp T.kK.bd .nil qan (qh (qaj (pv 0) rfl) (qh (zy jb (pv 1) qp (λ_ _=>rfl)) qm zw) qax))))))) (qu (zc qc0)) qab)
   (qk (zk (PW.pt (qd3 (zf (op_alt qqb (op_neT hr.units0)) (qaj (pv 0) rfl) (zy jb (pv 1) qp (λ_ _=>rfl)) (qaf _)) (qc9 (PW.pt (qd1 (zf qci (qaj (pv 0) rfl) qay (qaf _)) (qd5 (qbm (zo (zn qcn (by rfl) T.kM qak (qh (qaj (pv 0) rfl) (qh (qc5 (v:=.ty "tuple") rfl T.lQ qkk rfl) qm qj) qax)))))))))) (qu (zc qc0)) qab)
   (qk (qbv Bl rfl (qbc (pv 2)) (qai (i:=4) qgi.nd rfl (A4 rfl)) (qk (zg (i:=5) qgi.nd rfl (A4 rfl) (qmc (pv 0) T.k9 T.sP (qp5 T) (hr.mono En) T.mI.bd .nil qan (qh (pv 4) qm qj)))
   (qu (zk (PW.pt (qd3 (qbm (zo (zn qcn (by rfl) T.kM qak (qh (pv 5) (qh (qc5 (v:=.ty "str") rfl T.kR qdi rfl) qm qj) qj)))) (qc9 (zf qqb (pv 5) (zm (qs9 T) (hr.mono En) rfl T.bH.mgx T.bH.fn.kp T.bH.bd .nil qan (qh (pv 1) (qh (pv 4) qm qj) qj)) (qaf _))))) (qu (zc qc0)) qab))))
   (qu (zc qc0))))))))),?_⟩
  obtain⟨v,us,h1⟩:=id ru
  obtain⟨pe,pa,pl,py,sv,us2,g1⟩:=id lr
  have hx:=h1.hx
  have hq:=g1.hq
  have re:=rl.e
  have ra:=rl.a
  have rll:=rl.l
  have ry:=rl.y
  refine⟨_,rfl,_,_,_,_,rfl,hx,T.k9,T.sT,_,rfl,qa1 ?_⟩
  refine⟨_,rfl,_,_,_,_,_,rfl,hx,T.k9,zd T.kA En,rfl,_,rfl,_,_,_,_,_,rfl,hx,T.k9,zd T.kA En,rfl,_,rfl,_,_,_,_,_,rfl,hx,T.k9,zd T.kA En,rfl,_,rfl,_,_,_,_,_,rfl,hx,T.k9,zd T.kA En,rfl,_,rfl,_,_,_,_,_,rfl,hx,T.k9,zd T.kA En,rfl,_,rfl,_,_,_,_,_,rfl,hx,T.k9,zd T.kA En,rfl,_,rfl,_,_,_,_,_,rfl,hx,T.k9,zd T.kA En,rfl,fits (show 7<=100000 by decide),λq1 n1=>?_⟩
  generalize hh:upd H q1 _=H1
  obtain⟨s1,e1⟩:=alg hh n1
  clear hh
  refine⟨_,rfl,_,rfl,_,rfl,_,_,rfl,SqL.of (s1 _ _ hq),λq2 n2=>?_⟩
  generalize hh:upd H1 q2 _=H2
  obtain⟨s2,e2⟩:=alg hh n2
  clear hh
  have e2:H2 q2=some (.lst [.str r.name,.str r.who,.str r.owes,qc3 r.opens,qc3 r.base,.int r.many,.str r.unit]):=by rw[e2,show (7:Int)=((7:Nat):Int) from rfl,qog];rfl
  have s02:=s1.trans s2
  have fl:[V.str r.name,.str r.who,.str r.owes,qc3 r.opens,qc3 r.base,.int r.many,.str r.unit].all qbn=true:=by cases r.opens <;>cases r.base <;>rfl
  refine⟨_,_,_,_,rfl,rfl,SqL.of (s2 _ _ e1),SqL.of e2,fl,fl,_,rfl,?_⟩
  rw[qdr fl]
  refine qa1 ⟨_,rfl,_,_,_,_,_,rfl,s02 _ _ hx,T.k9,zd T.kA En,rfl,_,rfl,_,rfl,qa1 ?_⟩
  refine⟨_,rfl,_,_,_,_,_,rfl,s02 _ _ hx,T.k9,zd T.kA En,rfl,_,rfl,_,_,_,_,rfl,rfl,SqL.of (s02 _ _ hq),rfl,_,_,r.ends,rfl,s02 _ _ h1.he,s02 _ _ g1.he,by lia,λH3 s3=>⟨_,rfl,qa1 ?_⟩⟩
  have s03:=s02.trans s3
  refine⟨_,rfl,_,_,_,_,_,rfl,s03 _ _ hx,T.k9,zd T.kA En,rfl,_,rfl,_,_,_,_,rfl,rfl,SqL.of (s03 _ _ hq),rfl,_,_,r.anew,rfl,s03 _ _ h1.ha,s03 _ _ g1.ha,by lia,λH4 s4=>⟨_,rfl,qa1 ?_⟩⟩
  have s04:=s03.trans s4
  refine⟨_,rfl,_,_,_,_,_,rfl,s04 _ _ hx,T.k9,zd T.kA En,rfl,_,rfl,_,_,_,_,rfl,rfl,SqL.of (s04 _ _ hq),rfl,_,_,us,us2,r.longer,rfl,s04 _ _ h1.hl,h1.tl.same s04,s04 _ _ g1.hl,g1.tl.same s04,λH5 s5=>⟨_,rfl,qa1 ?_⟩⟩
  have s05:=s04.trans s5
  refine⟨_,rfl,_,_,_,_,_,rfl,s05 _ _ hx,T.k9,zd T.kA En,rfl,_,rfl,_,_,_,_,rfl,rfl,SqL.of (s05 _ _ hq),rfl,_,_,r.yields,rfl,s05 _ _ h1.hy,s05 _ _ g1.hy,by lia,λH6 s6=>⟨_,rfl,qa1 ?_⟩⟩
  have s06:=s05.trans s6
  have hx6:=s06 _ _ hx
  have hq6:=s06 _ _ hq
  have st1:=h1.hs.same s06
  have st2:=g1.hs.same s06
  apply useHp (p:=λJ=>Same H6 J)
  .intro fin
   cases es:r.still with
   |none =>
    rw[es]at st1 st2
    have st1:v=.non:=st1
    have st2:sv=.non:=st2
    subst st1
    subst st2
    refine⟨_,rfl,_,_,_,_,_,rfl,hx6,T.k9,zd T.kA En,rfl,_,rfl,_,_,_,_,rfl,rfl,SqL.of (hq6),rfl,.inl ⟨rfl,_,rfl,qa1 ⟨_,rfl,_,_,_,_,_,rfl,hx6,T.k9,zd T.kA En,rfl,rfl,_,rfl,qdy rfl (qa1 ?_)⟩⟩⟩
    exact fin H6 (Same.refl H6)
   |some z =>
    rw[es]at st1 st2
    obtain⟨p1,rfl,z1⟩:=st1
    obtain⟨p2,rfl,z2⟩:=st2
    refine⟨_,rfl,_,_,_,_,_,rfl,hx6,T.k9,zd T.kA En,rfl,_,rfl,_,_,_,_,rfl,rfl,SqL.of (hq6),rfl,.inr ⟨_,_,_,_,rfl,rfl,SqT.of z1,SqT.of z2,rfl,rfl,_,rfl,?_⟩⟩
    rw[qdr rfl]
    exact qa1 ⟨_,rfl,_,_,_,_,_,rfl,hx6,T.k9,zd T.kA En,rfl,rfl,_,rfl,qd4 (λz=>nomatch z) ⟨_,rfl,_,_,_,_,_,rfl,hx6,T.k9,zd T.kA En,rfl,_,_,_,_,rfl,.tup z1,qfi,_,rfl,qa1 (fin H6 (Same.refl H6))⟩⟩
  intro J6 sJ6
  have s0J:=s06.trans sJ6
  refine⟨_,rfl,_,rfl,⟨_,SqL.of (s0J _ _ hk)⟩,qcl (K:=K) (a:=pk) (xs:=ks.map V.str) (λi σ J=>Same H J/\∃v4 v5:Option V,σ=[some (.ref A.p),some (.ref p),some (.ref pk),some (.ref q1),v4,v5]) ⟨s0J,none,none,rfl⟩ (λi σ J _ h=>SqL.of (h.1 _ _ hk)) ?_ ?_⟩
  .rintro i v σ J hv ⟨sJ,v4,v5,rfl⟩
   obtain⟨k1,_,rfl⟩:=AW.mp (Ay hv)
   refine⟨_,rfl,A.p,A.dx,_,rfl,sJ _ _ hx,rfl,_,rfl,A,k1,r,rfl,ru.same sJ,by lia,λH7 s7=>?_⟩
   refine⟨_,rfl,_,_,_,_,rfl,.str _,qer,_,rfl,qa1 ⟨_,rfl,_,rfl,_,rfl,p,k1,r,rfl,lr.same (sJ.trans s7),by lia,λH8 s8=>⟨rfl,_,rfl,?_⟩⟩⟩
   rw[decide_eq_true rfl]
   exact qa1 ⟨(sJ.trans s7).trans s8,_,_,rfl⟩
  .rintro σ J ⟨sJ,v4,v5,rfl⟩
   exact k J sJ
theorem qic (T:Txt K mg a):FnOk P w K mg base (CX1 P w) 3 a.dQ a.fZ ["self", "name"] (spRuO a):=by
 refine okX T.dE.fn qmt (λvs H Q E h=>?_) (λcdv A outer s H vs Q E hr h=>?_)
 .obtain⟨_,_,_,_,_,rfl,_⟩:=h
  all_goals rfl
 .obtain⟨x,rs,As,os,y,rfl,bk,k,kx⟩:=h
  refine⟨_,(qk (zk (qjt (qf8 (qe2 hr) (pv 1) (qaj (pv 0) rfl))) (qu (qc2 rfl (Takes.at qa5) (qdu T.kL.xc T.kS.ty (qeb T) (hr.mono En) rfl T.gM T.kL.kp T.kS.bd .nil qan (qh (pv 1) qm qj)))) qab)
   (qu (zc (qhe (qe2 hr) (qaj (pv 0) rfl) (pv 1) (λ_ _=>rfl))))),?_⟩
  obtain⟨dx,po,d,h1,h2,h3⟩:=bk.bk
  have g:=DGet.k (k:=.inr y) h3
  rw[qfb y bk.ln]at g
  cases pn:qam rs y with
  |none =>
   rw[pn]at g
   refine⟨_,rfl,_,rfl,_,_,_,_,_,rfl,h1,T.kO,zd T.kT En,rfl,d,_,rfl,g,_,rfl,qet ?_⟩
   exact⟨_,rfl,fits (show 1<=100000 by decide),λx1 n1=>⟨x1,a.kD,_,_,rfl,qz,T.kL,zd T.gL En,λd1 H9 hd1 kp o1 od1=>⟨rfl,x1,_,some d1,rfl,o1,⟨_,od1⟩,T.bD,(kx pn) x1 d1 _ (qah (((Same.refl H)).trans (qa2 n1 kp)) (((Same.refl H)).free n1)) qz ((ze (λz=>by rw[z,qz]at hd1;cases hd1)).trans od1)⟩⟩⟩
  |some j =>
   obtain⟨r,hr',hn⟩:=qb0 pn
   have lt:j<As.length:=by rw[bk.ln];exact(Ag.mp hr').1
   rw[pn,show (some j).bind (λj=>(As[j]?).map λA=>V.ref A.p)=(As[j]?).map λA=>V.ref A.p from rfl,Ak lt]at g
   exact⟨_,rfl,_,rfl,_,_,_,_,_,rfl,h1,T.kO,zd T.kT En,rfl,d,_,rfl,g,_,rfl,qa1 ⟨_,rfl,_,_,_,_,_,rfl,h1,T.kO,zd T.kT En,rfl,_,rfl,d,_,rfl,g,k j _ pn (Ak lt)⟩⟩
theorem qop (T:Txt K mg a):FnOk P w K mg base CX0 4 a.nO a.lJ ["_law_book", "_law_name"] (spNt2 a):=by
 refine T.bV.fn.ok qes (λvs H Q E h=>?_) (λcdv A outer s H vs Q E hr h=>?_)
 .obtain⟨_,_,_,_,_,rfl,_⟩:=h
  all_goals rfl
 .obtain⟨x,rs,As,os,y,rfl,bk,pn,k⟩:=h
  refine⟨_,(qk (zg (i:=2) qes.nd rfl (A4 rfl) qay)
   (qk (ps_try ⟨rfl,rfl⟩ (λ_ _ _ hx hp=>(qu (zj (quh (pv 0) T.kO T.nH (qic T) (hr.mono En) T.dE.bd .nil hx (qh (pv 1) qm qj))))) (ph_no (qb8 (qcu rfl T.sL) (qb8 (qcu rfl T.sS) (qb8 (qcu rfl T.rX) (qb8 (qcu rfl T.rT) (qb8 (qcu rfl T.rY) (qb8 (qcu rfl T.sG) (qb8 (qcu rfl T.nC) (qb8 (qcu rfl T.sR) (qb8 (qcu rfl T.sC) (qb8 (qcu rfl T.lI) (qb8 (qcu rfl T.lH) (qb8 (qcu rfl T.bI) qxe)))))))))))) (ph_as (i:=3) qes.nd rfl rfl (qcu rfl T.gM) (λ_=>(qu (zg (i:=2) qes.nd rfl (A4 rfl) (zr (qh (qwv (pv 3) rfl) (qh (zn qnl (by rfl) T.kM qak (qh (pv 3) (qh (qep (v:=.ref a.kW) rfl T.gJ rfl) qm qj) qj)) (qh (zn qnl (by rfl) T.kM qak (qh (pv 3) (qh (qc5 (v:=.ty "ValueError") rfl T.rK qjf rfl) qm qj) qj)) qm zt) zt) qax))))) ph_nil)))
   (qu (zc (qd7 (op_eqT hr.units0) (pv 2) (zr (qh (pv 1) (qh qc0 (qh qc0 qm zb) zb) qj)) (qaf _)))))),?_⟩
  obtain⟨dx,po,d,h1,h2,h3⟩:=id bk.bk
  refine⟨_,rfl,x,dx,_,rfl,h1,rfl,_,rfl,x,rs,As,os,y,rfl,bk,(λj A pj hA=>(by rw[pn]at pj;cases pj)),λ_ x1 d0 H9 s9 ex ed=>?_⟩
  refine⟨x1,_,rfl,ex,⟨⟨fits (show 12<=100000 by decide),λc hc=>?_⟩,?_⟩⟩
  .simp only[Ap,Av,or_false]at hc
   rcases hc with rfl|rfl|rfl|rfl|rfl|rfl|rfl|rfl|rfl|rfl|rfl|rfl
   .exact T.rO
   .exact T.r9
   .exact T.rB
   .exact T.pV
   .exact T.rA
   .exact T.pO
   .exact T.rG
   .exact T.sF
   .exact T.rE
   .exact T.rW
   .exact T.rV
   .exact T.sN
  refine qv3 T.rR ?_
  refine⟨_,rfl,x1,_,d0,false,_,_,rfl,ex,ed,T.kL.is,zd T.gL En,rfl,_,rfl,_,_,_,_,_,_,_,rfl,ex,⟨_,ed⟩,T.kL.is,.inr ⟨_,rfl,rfl⟩,qnn T.mP (i:=0) rfl rfl,_,rfl,_,_,_,_,_,_,_,rfl,ex,⟨_,ed⟩,T.kL.is,.inl ⟨_,rfl,rfl⟩,qnn T.mP (i:=1) rfl rfl,qsj _ _ _,λt ht=>?_⟩
  generalize hh:upd H9 t _=H10
  obtain⟨s10,e10⟩:=alg hh ht
  clear hh
  refine⟨_,rfl,_,rfl,qsj _ _ _,λt2 n2=>?_⟩
  generalize hh:upd H10 t2 _=H11
  obtain⟨s11,e11⟩:=alg hh n2
  clear hh
  refine⟨_,_,_,_,rfl,rfl,SqT.of (s11 _ _ e10),SqT.of e11,rfl,rfl,?_⟩
  rw[qdr (xs:=[V.str y,V.bl true,V.bl true]) rfl]
  exact k _ (s9.trans (s10.trans s11))
theorem qjl (T:Txt K mg a):FnOk P w K mg base CX0 1 a.dO a.pH ["self"] (spTn a):=by
 refine T.nN.fn.ok qjh (λvs H Q E h=>?_) (λcdv A outer s H vs Q E hr h=>?_)
 .obtain⟨_,_,_,_,rfl,_⟩:=h
  all_goals rfl
 .obtain⟨x,rs,As,os,rfl,hb,ln,l6,k⟩:=h
  refine⟨_,(qu (zc (qcb (qo9 rfl) (by rfl) T.kU qdf (qh (qaj (pv 0) rfl) qm qax)))),?_⟩
  obtain⟨dx,po,pd,h1,h2,h3⟩:=hb
  have e:(dcR rs As).map (λkv=>L2.kV kv.1)=(rs.map RR.name).map V.str:=by
   rw[show (λkv:Key×V=>L2.kV kv.1)=L2.kV ∘ Prod.fst from rfl,<- Bi,qn9 ln,Bi,Bi];rfl
  refine⟨_,rfl,_,_,_,_,_,rfl,h1,T.kO,zd T.kT En,rfl,_,_,rfl,h3,λl hl=>?_⟩
  exact k l _ hl (zi hl) (by rw[qz];exact congrArg (λz=>some (HO.lst z)) e)
theorem qk3 (T:Txt K mg a):FnOk P w K mg base CX0 2 a.fB a.lK ["self"] (spActK a):=by
 refine T.lD.fn.ok qdj (λvs H Q E h=>?_) (λcdv A outer s H vs Q E hr h=>?_)
 .obtain⟨_,_,_,_,rfl,_⟩:=h
  all_goals rfl
 .obtain⟨x,rs,As,os,rfl,bk,bn,n1,h64,k⟩:=h
  refine⟨_,(qk (zg (i:=1) qdj.nd rfl (A4 rfl) (zq qm))
   (qk (qpc Bl rfl (qaj (pv 0) rfl) (qai (i:=2) qdj.nd rfl (A4 rfl)) (qu (qtg (i:=1) qdj.nd rfl (A4 rfl) (qhb (pv 2) T.k9 T.mU (qf7 T) (hr.mono En) T.dN.bd .nil qan) qus)))
   (qu (zc (qhk rfl (by rfl) T.fS (by rfl) T.pC (qh (pv 1) qm qj)))))),?_⟩
  obtain⟨dx,po,d,h1,h2,h3⟩:=bk.bk
  have l6:=bk.l6
  have ln:=bk.ln
  have ru:=bk.ru
  refine⟨qe3,λq0 n0=>?_⟩
  generalize hh:upd H q0 _=H1
  have s1:Same H H1:=by rw[<- hh];exact zi n0
  have e1:H1 q0=some (.lst []):=by rw[<- hh];exact qz
  clear hh
  have nq:q0≠d:=λz=>by rw[z,h3]at n0;cases n0
  refine⟨_,rfl,_,_,_,_,_,rfl,s1 _ _ h1,T.kO,zd T.kT En,rfl,d,dcR rs As,rfl,s1 _ _ h3,λo=>⟨λi σ J=>(∀b u,b≠d->H b=some u->J b=some u)/\J d=some (.frz o (.dK (dcR rs As)))/\J q0=some (.lst ((qf5 (rs.take i)).map V.str))/\∃v2:Option V,σ=[some (.ref x),some (.ref q0),v2],?_,λi σ J h=>h.2.1,?_,?_⟩⟩
  .refine⟨λb u nb e=>by rw[ze nb];exact s1 _ _ e,qz,by rw[ze nq];exact e1,none,rfl⟩
  .rintro i kv σ J hk ⟨kJ,fJ,qJ,v2,rfl⟩
   obtain⟨r,A,hr',hA,ekv⟩:=qv6 hk
   rw[ekv]
   have bnr:=bn r (Ay hr')
   have ruA:RuX a.k8 J A r:=by
    have nd:∀b u,H b=some u->(∀z,u ≠ .dK z)->b≠d:=λb u e n z=>by rw[z,h3]at e;exact n _ (A7 e).symm
    obtain⟨v,us,g⟩:=ru i r A hr' hA
    refine⟨v,us,kJ _ _ (nd _ _ g.hx λz q=>nomatch q) g.hx,?_,kJ _ _ (nd _ _ g.he λz q=>nomatch q) g.he,kJ _ _ (nd _ _ g.ha λz q=>nomatch q) g.ha,kJ _ _ (nd _ _ g.hl λz q=>nomatch q) g.hl,?_,kJ _ _ (nd _ _ g.hy λz q=>nomatch q) g.hy⟩
    .have hs:=g.hs
     cases e:r.still with
     |none=>rw[e]at hs;exact hs
     |some st =>
      rw[e]at hs
      obtain⟨p,e1,e2⟩:=hs
      exact⟨p,e1,kJ _ _ (nd _ _ e2 λz q=>nomatch q) e2⟩
    .exact qyi g.tl λb t e=>kJ _ _ (nd _ _ e λz q=>nomatch q) e
   obtain⟨v,us,g⟩:=id ruA
   have hxA:=g.hx
   refine⟨_,rfl,_,rfl,A.p,A.dx,_,rfl,hxA,rfl,A,r,rfl,ruA,by lia,by lia,by lia,λq2 J2 n2 s2 e2=>?_⟩
   have lt:=qh8 (rs:=rs.take i) (n:=100) λz hz=>bn z (Co hz)
   rw[A2]at lt
   have lk:=qv5 bnr
   refine⟨q0,q2,_,_,rfl,rfl,s2 _ _ qJ,e2,fits (by rw[Ac,Ac];lia),?_⟩
   have nq0:∀b u,H b=some u->b≠q0:=λb u e z=>by rw[z,n0]at e;cases e
   refine⟨λb u nb e=>by rw[ze (nq0 b u e)];exact s2 _ _ (kJ b u nb e),by rw[ze (AZ nq)];exact s2 _ _ fJ,by rw[qz,ql8 hr',A1],_,rfl⟩
  .rintro σ J ⟨kJ,fJ,qJ,v2,rfl⟩
   rw[qhv ln,Bx]at qJ
   have lt:=qh8 bn
   have sJ:Same H (upd J d (.dK (dcR rs As))):=λb u e=>by
    by_cases z:b=d
    .rw[z]at e |-;rw[h3]at e;cases e;exact qz
    .rw[ze z];exact kJ b u z e
   refine⟨_,rfl,q0,qf5 rs,rfl,SqL.of (by rw[ze nq];exact qJ),by lia,n1,h64,λq2 ss n2 pm pw=>?_⟩
   have hq:H q2=none:=by
    cases e:H q2 with
    |none=>rfl
    |some u=>rw[sJ _ _ e]at n2;cases n2
   exact k q2 _ ss hq (sJ.trans (zi n2)) pm pw qz
theorem okLaw (T:Txt K mg a):FnOk P w K mg base CX0 9 a.lC a.mH ["_law_script"] (qqu K):=by
 refine T.rD.fn.ok qdx (λvs H Q E h=>?_) (λcdv A outer s H vs Q E hr h=>?_)
 .obtain⟨_,_,rfl,_⟩:=h
  all_goals rfl
 .obtain⟨l,ns,rfl,hS,hlen,k⟩:=h
  refine⟨_,(qk (zg (i:=1) qdx.nd rfl (A4 rfl) (zh qas (zm (qa3 T) (hr.mono En) rfl T.kB.mgx T.kB.fn.kp T.kB.bd .nil qan (qh (pv 0) (qh qp qm zb) qj)) qp))
   (qk (zg (i:=2) qdx.nd rfl (A4 rfl) (zm (qgt T) (hr.mono En) rfl T.kX.mgx T.kX.fn.kp T.kX.bd .nil qan (qh (zm (qk2 T) (hr.mono En) rfl T.gA.mgx T.gA.fn.kp T.gA.bd .nil qan (qh (zm (qa3 T) (hr.mono En) rfl T.kB.mgx T.kB.fn.kp T.kB.bd .nil qan (qh (pv 0) (qh qp qm zb) qj)) (qh (zh qa6 (pv 1) qp) qm zu) zt)) (qh (zm (qa3 T) (hr.mono En) rfl T.kB.mgx T.kB.fn.kp T.kB.bd .nil qan (qh (pv 0) (qh qp qm zb) qj)) qm zt) zt)))
   (qk (zg (i:=3) qdx.nd rfl (A4 rfl) (zm (qk2 T) (hr.mono En) rfl T.gA.mgx T.gA.fn.kp T.gA.bd .nil qan (qh (zm (qa3 T) (hr.mono En) rfl T.kB.mgx T.kB.fn.kp T.kB.bd .nil qan (qh (pv 0) (qh (zh qie qp (qcb qrc (by rfl) T.bW qhp (qh (qd7 qaz (zh qas (zh qbj (zm (qa3 T) (hr.mono En) rfl T.kB.mgx T.kB.fn.kp T.kB.bd .nil qan (qh (pv 0) (qh qp qm zb) qj)) qp) qp) qp (qaf _)) qm qt0))) qm zu) qj)) (qh qp qm zb) zt)))
   (qk (zg (i:=3) qdx.nd rfl (A4 rfl) (zm (qgt T) (hr.mono En) rfl T.kX.mgx T.kX.fn.kp T.kX.bd .nil qan (qh (pv 3) (qh (zm (qa3 T) (hr.mono En) rfl T.kB.mgx T.kB.fn.kp T.kB.bd .nil qan (qh (pv 0) (qh qp qm zb) qj)) qm zt) qj)))
   (qk (zg (i:=4) qdx.nd rfl (A4 rfl) (zm (qp2 T) (hr.mono En) rfl T.dC.mgx T.dC.fn.kp T.dC.bd .nil qan (qh (pv 0) (qh (qa4 qb3 (pv 2) qcs (qa0 (pv 1))) (qh (pv 3) (qh qp qm zb) qj) zw) qj)))
   (qk (zg (i:=5) qdx.nd rfl (A4 rfl) (zq qm))
   (qk (zg (i:=6) qdx.nd rfl (A4 rfl) (zq qm))
   (qk (qbv Bl rfl (qbc (pv 4)) (qai (i:=7) qdx.nd rfl (A4 rfl)) (qk (zg (i:=5) qdx.nd rfl (A4 rfl) (zh qce (pv 5) (zm (qs8 T) (hr.mono En) rfl T.gX.mgx T.gX.fn.kp T.gX.bd .nil qan (qh (pv 7) qm qj))))
   (qu (zg (i:=6) qdx.nd rfl (A4 rfl) (zh qce (pv 6) (zm (qp4 T) (hr.mono En) rfl T.bS.mgx T.bS.fn.kp T.bS.bd .nil qan (qh (pv 7) qm qj)))))))
   (qk (zg (i:=8) qdx.nd rfl (A4 rfl) (zm (qp1 T) (hr.mono En) rfl T.bQ.mgx T.bQ.fn.kp T.bQ.bd .nil qyt (qh (qde Dk PySem.F.slot_str_join PySem.F.type_str_join qw1 zp (qh (pv 5) qm qj)) qm zt)))
   (qk (zg (i:=6) qdx.nd rfl (A4 rfl) (qhk rfl (by rfl) T.fS (by rfl) T.pC (qh (pv 6) qm qj)))
   (qk (qbv Bl rfl (qca rfl T.kQ (qh qp qm zb)) (qai (i:=9) qdx.nd rfl (A4 rfl)) (qk (zg (i:=10) qdx.nd rfl (A4 rfl) (qhb (pv 8) T.kO T.pW (qjl T) (hr.mono En) T.nN.bd .nil qan))
   (qk (zg (i:=11) qdx.nd rfl (A4 rfl) (qhb (pv 8) T.kO T.sK (qk3 T) (hr.mono En) T.lD.bd .nil qan))
   (qk (zk (PW.pt (qd3 (qbm (zo (zm (qen T) (hr.mono En) rfl T.kK.mgx T.kK.fn.kp T.kK.bd .nil qan (qh (pv 10) (qh (qa4 qb3 (pv 2) qcs (qa0 (pv 1))) qm zw) qj)))) (qc9 (qbm (zo (zm (qen T) (hr.mono En) rfl T.kK.mgx T.kK.fn.kp T.kK.bd .nil qan (qh (pv 11) (qh (pv 6) qm qj) qj))))))) (qu (zc qc0)) qab)
   (qk (zj (qde AI AR AS qa7 (pv 10) (qh zp qm zb)))
   (qk (zj (qy9 AI PySem.F.slot_list_clear PySem.F.type_list_clear qtu (pv 11)))
   (qu (qbv Bl rfl (qbc (pv 4)) (qai (i:=7) qdx.nd rfl (A4 rfl)) (qu (zk (qbm (zo (zm (qta T) (hr.mono En) rfl T.gR.mgx T.gR.fn.kp T.gR.bd .nil qan (qh (qmc (pv 8) T.kO T.nH (qic T) (hr.mono En) T.dE.bd .nil qyt (qh (zy jb (pv 7) qp (λ_ _=>rfl)) qm zw)) (qh (pv 7) (qh (pv 3) qm qj) qj) zt)))) (qu (zc qc0)) qab))))))))))
   (qu (zc (zm (qop T) (hr.mono En) rfl T.bV.mgx T.bV.fn.kp T.bV.bd .nil qan (qh (pv 8) (qh (zy jb (pv 2) (pv 1) (λ_ _=>rfl)) qm zw) qj))))))))))))))),?_⟩
  refine⟨_,rfl,_,_,_,rfl,hS,En,_,_,rfl,rfl,(pos En),?_⟩
  dsimp only[]
  obtain⟨m,em,hm⟩:=mdl (cell ns 0) 6
  rw[show cell ns 0 % 7=(m:Int) from em]
  refine⟨_,rfl,_,_,_,rfl,hS,En,_,rfl,_,_,rfl,rfl,?_⟩
  dsimp only[]
  refine⟨_,m+1,rfl,.inl (by lia),λp1 H1 nms0 n1 s1 e1 l1 nd1 ok1=>?_⟩
  refine⟨_,rfl,_,_,_,rfl,s1.seq hS,En,?_⟩
  dsimp only[]
  refine⟨p1,_,nms0,rfl,e1,nd1,ok1,by lia,λp2 H2 nms s2 e2 l2 nd2 ok2=>?_⟩
  have s02:=s1.trans s2
  refine⟨_,rfl,_,rfl,_,_,_,rfl,s02.seq hS,En,_,_,rfl,rfl,⟨En,En⟩,_,_,rfl,rfl,(pos En),rfl,.inr ⟨_,rfl,?_⟩⟩
  dsimp only[]
  obtain⟨sm,es,hs0,hs1⟩:∃sm:Int,(if decide (V.int (cell ns 0 / 7 % 3)=V.int 1)=true then (1:Int) else 0)=sm/\0<=sm/\sm<=1:=⟨_,rfl,by split <;>decide,by split <;>decide⟩
  rw[es]
  refine⟨_,_,rfl,rfl,_,_,_,rfl,s02.seq hS,by lia,?_⟩
  dsimp only[]
  refine⟨_,14,rfl,.inl En,λp3 H3 kn0 n3 s3 e3 l3 nd3 ok3=>?_⟩
  have s03:=s02.trans s3
  refine⟨_,rfl,_,rfl,_,_,_,rfl,s03.seq hS,En,?_⟩
  dsimp only[]
  refine⟨p3,_,kn0,rfl,e3,nd3,ok3,by lia,λp4 H4 kinds s4 e4 l4 nd4 ok4=>?_⟩
  have s04:=s03.trans s4
  have e24:=(s3.trans s4) _ _ e2
  refine⟨_,rfl,_,rfl,_,rfl,_,rfl,_,_,rfl,SqL.of e24,λp5 n5=>?_⟩
  rw[qog,<- Cp]
  generalize hh:upd H4 p5 _=H5
  obtain⟨s5,e5⟩:=alg hh n5
  clear hh
  have s05:=s04.trans s5
  have ltm:(nms.take m).length=m:=by rw[A2];lia
  have ndt:(nms.take m).Nodup:=Cd.sublist (BU _ _) nd2
  have okt:∀x∈nms.take m,qbk x:=λx hx=>ok2 x (Co hx)
  refine⟨_,rfl,l,p5,p4,ns,nms.take m,kinds,40,rfl,s05.seq hS,e5,s5 _ _ e4,ndt,by lia,nd4,by lia,by lia,ok4,En,En,λp6 H6 qs rs lrs lnr grs sum=>?_⟩
  have g:GT rs:=gt_of grs lnr okt ndt (by lia) En sum
  have gn:=qsy grs lnr
  have rkd:=ranked grs lnr ndt
  obtain⟨z1,z64⟩:=qyk grs lnr
  have l40:(qaq rs).length<=40:=g.ln
  have l6:=g.l6
  have aok:=qv2 g.ok
  have bn:Bn 100 rs:=λr hr=>(g.ok r hr).sz
  have hp6:=lrs.hp
  have lq:=lrs.ln
  have hlr:=lrs.lr
  have e26:=(s5.trans lrs.sm) _ _ e24
  have e46:=(s5.trans lrs.sm) _ _ e4
  refine⟨qe3,λq0 n0=>?_⟩
  generalize hh:upd H6 q0 _=H7
  obtain⟨s7,e7⟩:=alg hh n0
  clear hh
  refine⟨qe3,λq8 n8=>?_⟩
  generalize hh:upd H7 q8 _=H8
  obtain⟨s8,e8⟩:=alg hh n8
  clear hh
  have s68:=s7.trans s8
  refine⟨_,rfl,_,rfl,⟨_,SqL.of (s68 _ _ hp6)⟩,qcl (K:=K) (a:=p6) (xs:=qs.map V.ref) (λi σ J=>Same H6 J/\∃qw qd,J qw=some (.lst (qea (qaq (rs.take i))))/\J qd=some (.lst ((qf5 (rs.take i)).map V.str))/\∃v7:Option V,σ=[some (.ref l),some (.int (m:Int)),some (.ref p2),some (.ref p4),some (.ref p6),some (.ref qw),some (.ref qd),v7,none,none,none,none]) ⟨s68,q0,q8,s8 _ _ e7,e8,none,rfl⟩ (λi σ J _ h=>SqL.of (h.1 _ _ hp6)) ?_ ?_⟩
  .rintro i v σ J hv ⟨sJ,qw,qd,hw,hd',v7,rfl⟩
   rw[Ai]at hv
   cases eq:qs[i]? with
   |none=>rw[eq]at hv;cases hv
   |some qi =>
   rw[eq]at hv
   cases hv
   have hi:i<rs.length:=by rw[<- lq];exact(Ag.mp eq).1
   have hr:rs[i]?=some rs[i]:=Ak hi
   have hnx:=qyj hr
   have hll:hd rs (i+1)<=(qaq rs).length:=by
    have:=hd_le (rs:=rs) (show i+1<=rs.length by lia)
    unfold hd at this
    rw[Bx]at this
    exact this
   unfold hd at hnx hll
   have rok:=g.ok _ (Bb hi)
   refine⟨_,rfl,_,rfl,qi,rs[i],rfl,(hlr i qi _ eq hr).same sJ,rok,λpz J3 nz s3' ez=>⟨_,_,_,_,rfl,rfl,s3' _ _ hw,ez,fits (by rw[qq4,qq4];lia),λq2 n2'=>?_⟩⟩
   generalize hh:upd J3 q2 _=J4
   obtain⟨s4',e4'⟩:=alg hh n2'
   clear hh
   have sJ4:=sJ.trans (s3'.trans s4')
   have lt:=qh8 (rs:=rs.take i) (n:=100) λz hz=>bn z (Co hz)
   rw[A2]at lt
   have lk:=qv5 (bn _ (Bb hi))
   obtain⟨b1,b2,b3,b4⟩:=bn _ (Bb hi)
   refine⟨_,rfl,_,rfl,qi,rs[i],rfl,(hlr i qi _ eq hr).same sJ4,by lia,by lia,by lia,λpk J5 nk s5' ek=>⟨_,_,_,_,rfl,rfl,(s3'.trans (s4'.trans s5')) _ _ hd',ek,fits (by rw[Ac,Ac];lia),λq3 n3'=>?_⟩⟩
   refine⟨sJ4.trans (s5'.trans (zi n3')),q2,q3,?_,by rw[qz,ql8 hr,A1],_,rfl⟩
   rw[(s5'.trans (zi n3')) _ _ e4',qbf hr]
   unfold qaq qea
   rw[Bu,A1,A1]
   simp[By]
  rintro σ H9 ⟨s9,qw,qd,hw,hqd,v7,rfl⟩
  rw[Ac,lq,Bx]at hw hqd
  have lg:=qsz aok (by lia)
  have jg:=qv4 lg
  refine⟨rfl,_,rfl,_,qw,(qaq rs).map qbl,rfl,rfl,SqL.of hw,jg.1,?_⟩
  rw[jg.2]
  refine⟨_,rfl,lg,λrs' ok=>?_,(λer h=>(by rw[ql7 g]at h;cases h))⟩
  rw[ql7 g]at ok
  cases ok
  refine⟨λxb HB As os sB bk=>?_,λx5 d5 l5 H5' r5 _ _ _ _ rg=>(qyg rkd rg).elim⟩
  have lt:=qh8 bn
  refine⟨_,rfl,qd,qf5 rs,rfl,SqL.of (sB _ _ hqd),by lia,z1,z64,λqD ss nD pD wD=>?_⟩
  generalize hh:upd HB qD _=HD
  obtain⟨sD,eD⟩:=alg hh nD
  clear hh
  have s6D:=s9.trans (sB.trans sD)
  have bkD:=bk.same sD
  have e2D:=s6D _ _ e26
  have e4D:=s6D _ _ e46
  have hpD:=s6D _ _ hp6
  have lss:ss.length<=1000:=by rw[pD.length_eq];lia
  have bnd:=rb (n:=2) En
  refine⟨_,rfl,bnd.1,bnd.2,qdo (lo:=0) (n:=2) (λi σ J=>Same HD J/\∃v7 v9 v10 v11:Option V,σ=[some (.ref l),some (.int (m:Int)),some (.ref p2),some (.ref p4),some (.ref p6),some (.ref qw),some (.ref qD),v7,some (.ref xb),v9,v10,v11]) ⟨Same.refl HD,v7,none,none,none,rfl⟩ ?_ ?_⟩
  .clear v7
   rintro i σ J hi ⟨sJ,v7,v9,v10,v11,rfl⟩
   have bkJ:=bkD.same sJ
   obtain⟨dx,po,pd,hx1,hx2,hx3⟩:=id bkJ.bk
   refine⟨_,rfl,xb,dx,_,rfl,hx1,rfl,xb,rs,As,os,rfl,bkJ.bk,bkJ.ln,bkJ.l6,λqn J1 nn s1' eC=>?_⟩
   have bk1:=bkJ.same s1'
   refine⟨_,rfl,xb,dx,_,rfl,s1' _ _ hx1,rfl,xb,rs,As,os,rfl,bk1,bn,z1,z64,λqt J2 st nt s2' pt wt et=>?_⟩
   rw[quy wt wD (pt.trans pD.symm)]at et
   rw[gn]at eC
   have nqt:qt≠qn:=λz=>by rw[z,eC]at nt;cases nt
   have hDn:HD qn=none:=sJ.free nn
   have hDt:HD qt=none:=(sJ.trans s1').free nt
   have sJ2:=sJ.trans (s1'.trans s2')
   have eC2:=s2' _ _ eC
   refine⟨_,rfl,_,rfl,_,rfl,_,rfl,_,_,rfl,SqL.of (sJ2 _ _ e2D),λp7 n7=>?_⟩
   rw[qog,<- Cp]
   generalize hh:upd J2 p7 _=J3
   obtain⟨s3',e7'⟩:=alg hh n7
   clear hh
   refine⟨_,_,nms.take m,rfl,s3' _ _ eC2,e7',by lia,λJ4 s4'=>⟨_,rfl,qa1 ?_⟩⟩
   have s24:=s3'.trans s4'
   have sJ4:=sJ2.trans s24
   refine⟨_,rfl,_,rfl,_,_,ss,rfl,s24 _ _ et,sJ4 _ _ eD,lss,λJ5 s5'=>⟨_,rfl,qa1 ?_⟩⟩
   have s25:=s24.trans s5'
   have sJ5:=sJ2.trans s25
   have eC5:=s25 _ _ eC2
   have et5:=s25 _ _ et
   refine⟨_,rfl,.inl ⟨rfl,_,SqL.of eC5⟩,_,_,_,rfl,rfl,eC5,qcx (by rw[Ac];lia),?_⟩
   have sJ6:=qah (o:=.lst ((nms.take m).map V.str++[V.str (Ab "zz")])) sJ5 hDn
   have et6:upd J5 qn (.lst ((nms.take m).map V.str++[V.str (Ab "zz")])) qt=some (.lst (ss.map V.str)):=by rw[ze nqt];exact et5
   generalize upd J5 qn _=J6 at sJ6 et6 |-
   refine⟨_,rfl,.inl ⟨rfl,_,SqL.of et6⟩,_,_,rfl,rfl,et6,?_⟩
   have sJ7:=qah (o:=.lst []) sJ6 hDt
   generalize upd J6 qt _=J7 at sJ7 |-
   refine⟨_,rfl,_,rfl,⟨_,SqL.of (sJ7 _ _ hpD)⟩,qcl (K:=K) (a:=p6) (xs:=qs.map V.ref) (λj σ J'=>Same HD J'/\∃v7 v9 v10 v11:Option V,σ=[some (.ref l),some (.int (m:Int)),some (.ref p2),some (.ref p4),some (.ref p6),some (.ref qw),some (.ref qD),v7,some (.ref xb),v9,v10,v11]) ⟨sJ7,_,_,_,_,rfl⟩ (λi σ J _ h=>SqL.of (h.1 _ _ hpD)) ?_ ?_⟩
   .rintro j v σ J' hv ⟨sJ',w7,w9,w10,w11,rfl⟩
    rw[Ai]at hv
    cases eq:qs[j]? with
    |none=>rw[eq]at hv;cases hv
    |some qi =>
    rw[eq]at hv
    cases hv
    have hj:j<rs.length:=by rw[<- lq];exact(Ag.mp eq).1
    have hr:rs[j]?=some rs[j]:=Ak hj
    have lrj:=(hlr j qi _ eq hr).same (s6D.trans sJ')
    obtain⟨pe,pa,pl,py,sv,us,g1⟩:=id lrj
    have bk':=bkD.same sJ'
    obtain⟨dx',po',pd',hx1',_,_⟩:=id bk'.bk
    obtain⟨b1,b2,b3,b4⟩:=bn _ (Bb hj)
    refine⟨_,rfl,xb,dx',_,rfl,hx1',rfl,_,rfl,_,_,_,_,rfl,rfl,SqL.of (g1.hq),rfl,xb,rs,As,os,rs[j].name,rfl,bk',λjj A pj hA=>?_,λpn=>absurd (List.mem_map_of_mem (f:=RR.name) (Bb hj)) (qdt.mp pn)⟩
    have ej:jj=j:=by rw[qgk g.nn hr]at pj;exact(A7 pj).symm
    rw[ej]at hA
    exact⟨_,rfl,_,rfl,A,qi,p4,rs[j],kinds,rfl,bk'.ru j _ A hr hA,lrj,⟨b1,b2,b3,b4⟩,sJ' _ _ e4D,λJ9 s9'=>⟨_,rfl,qa1 ⟨sJ'.trans s9',_,_,_,_,rfl⟩⟩⟩
   .rintro σ J' ⟨sJ',w7,w9,w10,w11,rfl⟩
    exact⟨sJ',_,_,_,_,rfl⟩
  .clear v7
   rintro σ J ⟨sJ,v7,v9,v10,v11,rfl⟩
   have lm:m<nms.length:=by lia
   have hm':nms[m]?=some nms[m]:=Ak lm
   refine⟨_,rfl,_,rfl,_,rfl,_,_,_,_,rfl,rfl,SqL.of (sJ _ _ e2D),qc6 (by rw[Ai,hm'];rfl),xb,rs,As,os,nms[m],rfl,bkD.same sJ,qdt.mpr λz=>?_,λH' _=>k H'⟩
   rw[gn]at z
   rw[<- BD m nms,BJ lm]at nd2
   exact(AQ.mp nd2).2.2 _ z _ Am rfl
end
set_option maxHeartbeats 4000000 in
theorem all_mk {l:PySem.W.OpenLaw}{w:World}{K:Ae}{h:Heap}{mg:Str->Option Value}{fa:Addr}(X:K.In h)(G:h.Ns A5 mg)(hfa:mg "law" = some (.ref fa))
  {C_Adrift C_Book C_CourtError C_Full C_NoAct C_NoDay C_NoName C_NoRow C_NoRule C_NoTable C_NoTerm C_Parted C_Ring C_Rule C_Twice C_Unfit f0 f1 f2 f3 f4 f5 f6 f7 f8 f9 f10 f11 f12:Addr} {od12 an12:Option Addr} {sl12:Array (Option Value)} {oc12 kV12 dc12 pm12 cd12 ct12 dV12:Value} {f13 f14 f15 f16 f17 f18 f19 f20 f21 f22 f23 f24 f25 f26 f27 f28 f29 f30 f31 f32 f33 f34 f35 f36 f37 f38 f39 f40 f41 f42 f43 f44 f45 f46 f47:Addr} {od47 an47:Option Addr} {sl47:Array (Option Value)} {oc47 kV47 dc47 pm47 cd47 ct47:Value} {tk_LONGEST_NAME tk_MOST_ROWS tk_MOST_TERMS tk_MOST_LONGER_ROWS:Tok} {A_UNITS:Addr} {oa_UNITS:Option Addr} {na_UNITS:Nat} {tt0_UNITS tt1_UNITS tt2_UNITS:Tok} {sa_UNITS:Array (Option Value)} {A_FORMS:Addr} {oa_FORMS:Option Addr} {na_FORMS:Nat} {sa_FORMS:Array (Option Value)} {A_FORMS_0:Addr} {oa_FORMS_0:Option Addr} {na_FORMS_0:Nat} {tt0_FORMS_0 tt1_FORMS_0 tt2_FORMS_0 tt3_FORMS_0 tt4_FORMS_0 tt5_FORMS_0 tt6_FORMS_0 tt7_FORMS_0 tt8_FORMS_0 tt9_FORMS_0:Tok} {sa_FORMS_0:Array (Option Value)} {A_FORMS_1:Addr} {oa_FORMS_1:Option Addr} {na_FORMS_1:Nat} {tt0_FORMS_1 tt1_FORMS_1 tt2_FORMS_1 tt3_FORMS_1 tt4_FORMS_1 tt5_FORMS_1 tt6_FORMS_1 tt7_FORMS_1 tt8_FORMS_1 tt9_FORMS_1:Tok} {sa_FORMS_1:Array (Option Value)} {A_FORMS_2:Addr} {oa_FORMS_2:Option Addr} {na_FORMS_2:Nat} {tt0_FORMS_2 tt1_FORMS_2 tt2_FORMS_2:Tok} {sa_FORMS_2:Array (Option Value)} {A_FORMS_3:Addr} {oa_FORMS_3:Option Addr} {na_FORMS_3:Nat} {tt0_FORMS_3 tt1_FORMS_3 tt2_FORMS_3:Tok} {sa_FORMS_3:Array (Option Value)} {A_FORMS_4:Addr} {oa_FORMS_4:Option Addr} {na_FORMS_4:Nat} {tt0_FORMS_4 tt1_FORMS_4 tt2_FORMS_4 tt3_FORMS_4 tt4_FORMS_4 tt5_FORMS_4:Tok} {sa_FORMS_4:Array (Option Value)} {A_FORMS_5:Addr} {oa_FORMS_5:Option Addr} {na_FORMS_5:Nat} {tt0_FORMS_5 tt1_FORMS_5 tt2_FORMS_5 tt3_FORMS_5:Tok} {sa_FORMS_5:Array (Option Value)} {A_FORMS_6:Addr} {oa_FORMS_6:Option Addr} {na_FORMS_6:Nat} {tt0_FORMS_6 tt1_FORMS_6 tt2_FORMS_6:Tok} {sa_FORMS_6:Array (Option Value)}
  (ca_Adrift:A9 K A5 "Adrift" = some (some (.ref C_Adrift))) (ca_Book:A9 K A5 "Book" = some (some (.ref C_Book))) (ca_CourtError:A9 K A5 "CourtError" = some (some (.ref C_CourtError))) (ca_Full:A9 K A5 "Full" = some (some (.ref C_Full))) (ca_NoAct:A9 K A5 "NoAct" = some (some (.ref C_NoAct))) (ca_NoDay:A9 K A5 "NoDay" = some (some (.ref C_NoDay))) (ca_NoName:A9 K A5 "NoName" = some (some (.ref C_NoName))) (ca_NoRow:A9 K A5 "NoRow" = some (some (.ref C_NoRow))) (ca_NoRule:A9 K A5 "NoRule" = some (some (.ref C_NoRule))) (ca_NoTable:A9 K A5 "NoTable" = some (some (.ref C_NoTable))) (ca_NoTerm:A9 K A5 "NoTerm" = some (some (.ref C_NoTerm))) (ca_Parted:A9 K A5 "Parted" = some (some (.ref C_Parted))) (ca_Ring:A9 K A5 "Ring" = some (some (.ref C_Ring))) (ca_Rule:A9 K A5 "Rule" = some (some (.ref C_Rule))) (ca_Twice:A9 K A5 "Twice" = some (some (.ref C_Twice))) (ca_Unfit:A9 K A5 "Unfit" = some (some (.ref C_Unfit))) (p0:Pd K "is_figure" qih f0) (p1:Pd K "is_written_number" qcw f1) (p2:Pd K "number" qmo f2) (p3:Pm K C_Ring "__init__" "Ring.__init__" qii f3) (p4:Pd K "untaken" qkc f4) (p5:Pd K "hanging_order" qev f5) (p6:Pd K "is_small_letter" qei f6) (p7:Pd K "is_name" qjq f7) (p8:Pm K C_Book "__init__" "Book.__init__" qij f8) (p9:Pd K "lines_of" qkd f9) (p10:Pd K "value_of" qke f10) (p11:Pd K "row_of" qmp f11) (a12:AJ K (.ref C_Rule) "__init__" = some (some (.ref f12))) (t12:Cr K (.ref f12)=some (.type "function")) (l12:K.lookup f12=some ⟨oc12,od12,.func (B1 "__init__" "Rule.__init__" (qbu qbr) (qbd qbr) (qaa qbr) dV12 kV12 dc12 pm12 an12 cd12 ct12),sl12⟩) (c12:Ci K cd12 "Rule.__init__" = true) (k12:Bj K (.ref f12)=true) (pk12:∀(u0 u1 u2 u3 u4 u5 u6 u7 u8:Value)(S:Setting),PySem.W.peek K S (bindArgs (B1 "__init__" "Rule.__init__" (qbu qbr) (qbd qbr) (qaa qbr) dV12 kV12 dc12 pm12 an12 cd12 ct12) ⟨[u0,u1,u2,u3,u4,u5,u6,u7,u8],[]⟩)=some [(Ab "self",u0),(Ab "name",u1),(Ab "who",u2),(Ab "owes",u3),(Ab "opens",u4),(Ab "base",u5),(Ab "many",u6),(Ab "unit",u7),(Ab "still",u8)]) (pe_RuleInit_8:∀(u0 u1 u2 u3 u4 u5 u6 u7:Value)(S:Setting),PySem.W.peek K S (bindArgs (B1 "__init__" "Rule.__init__" (qbu qbr) (qbd qbr) (qaa qbr) dV12 kV12 dc12 pm12 an12 cd12 ct12) ⟨[u0,u1,u2,u3,u4,u5,u6,u7],[]⟩)=some [(Ab "self",u0),(Ab "name",u1),(Ab "who",u2),(Ab "owes",u3),(Ab "opens",u4),(Ab "base",u5),(Ab "many",u6),(Ab "unit",u7),(Ab "still",B5)]) (p13:Pm K C_Twice "__init__" "Twice.__init__" qgz f13) (p14:Pm K C_Unfit "__init__" "Unfit.__init__" qg0 f14) (p15:Pd K "read_term" qik f15) (p16:Pm K C_NoTerm "__init__" "NoTerm.__init__" qfx f16) (p17:Pm K C_Rule "all_kinds" "Rule.all_kinds" qdv f17) (p18:Pd K "kinds_in" qkf f18) (p19:Pd K "is_unfit" qhl f19) (p20:Pd K "read_more" qil f20) (p21:Pd K "read_row" qkg f21) (p22:Pd K "settle_yields" qew f22) (p23:Pd K "settle_names" qe9 f23) (p24:Pm K C_NoRule "__init__" "NoRule.__init__" qfy f24) (p25:Pd K "read_book" qim f25) (p26:Pd K "_law_cell_at" qg1 f26) (p27:Pd K "_law_words" qin f27) (p28:Pd K "_law_some_kept" qfa f28) (p29:Pd K "_law_yields" qg2 f29) (p30:Pd K "_law_base" qhm f30) (p31:Pd K "_law_rule" qhn f31) (p32:Pd K "_law_rules" qgc f32) (p33:Pd K "_law_sorts" qec f33) (p34:Pd K "_law_rows" qkh f34) (p35:Pd K "_law_kinds" qgd f35) (p36:Pd K "_law_role" qho f36) (p37:Pd K "_law_whole" qio f37) (p38:Pd K "_law_texts" qge f38) (p39:Pd K "_law_longer" qg3 f39) (p40:Pm K C_Rule "role_in_still" "Rule.role_in_still" qds f40) (p41:Pm K C_Rule "role" "Rule.role" qgf f41) (p42:Pd K "_law_same" qki f42) (p43:Pm K C_Book "rule_of" "Book.rule_of" qfz f43) (p44:Pd K "_law_no_term" qg4 f44) (p45:Pm K C_Book "term_names" "Book.term_names" qej f45) (p46:Pm K C_Book "act_kinds" "Book.act_kinds" qex f46) (a47:A9 K A5 "law" = some (some (.ref f47))) (l47:K.lookup f47=some ⟨oc47,od47,.func (B1 "law" "law" (qbu qsc) (qbd qsc) (qaa qsc) .none kV47 dc47 pm47 an47 cd47 ct47),sl47⟩) (c47:Ci K cd47 "law" = true) (k47:Bj K (.ref f47)=true) (z_ValueError:A9 K A5 "ValueError" = some none) (z_all:A9 K A5 "all" = some none) (z_any:A9 K A5 "any" = some none) (z_bool:A9 K A5 "bool" = some none) (z_enumerate:A9 K A5 "enumerate" = some none) (z_int:A9 K A5 "int" = some none) (z_isinstance:A9 K A5 "isinstance" = some none) (z_len:A9 K A5 "len" = some none) (z_list:A9 K A5 "list" = some none) (z_max:A9 K A5 "max" = some none) (z_range:A9 K A5 "range" = some none) (z_reversed:A9 K A5 "reversed" = some none) (z_set:A9 K A5 "set" = some none) (z_sorted:A9 K A5 "sorted" = some none) (z_str:A9 K A5 "str" = some none) (z_tuple:A9 K A5 "tuple" = some none) (z_zip:A9 K A5 "zip" = some none) (q_LONGEST_NAME:A9 K A5 "LONGEST_NAME" = some (some (.int 8 tk_LONGEST_NAME))) (q_MOST_ROWS:A9 K A5 "MOST_ROWS" = some (some (.int 40 tk_MOST_ROWS))) (q_MOST_TERMS:A9 K A5 "MOST_TERMS" = some (some (.int 6 tk_MOST_TERMS))) (q_MOST_LONGER_ROWS:A9 K A5 "MOST_LONGER_ROWS" = some (some (.int 2 tk_MOST_LONGER_ROWS))) (q_UNITS:A9 K A5 "UNITS" = some (some (.ref A_UNITS))) (lt_UNITS:K.lookup A_UNITS=some ⟨.type "tuple",oa_UNITS,.seq #[.str (Ab "days") tt0_UNITS,.str (Ab "weeks") tt1_UNITS,.str (Ab "court") tt2_UNITS] na_UNITS,sa_UNITS⟩) (q_FORMS:A9 K A5 "FORMS" = some (some (.ref A_FORMS))) (lt_FORMS:K.lookup A_FORMS=some ⟨.type "tuple",oa_FORMS,.seq #[.ref A_FORMS_0,.ref A_FORMS_1,.ref A_FORMS_2,.ref A_FORMS_3,.ref A_FORMS_4,.ref A_FORMS_5,.ref A_FORMS_6] na_FORMS,sa_FORMS⟩) (lt_FORMS_0:K.lookup A_FORMS_0=some ⟨.type "tuple",oa_FORMS_0,.seq #[.str (Ab "term") tt0_FORMS_0,.str (Ab "NAME") tt1_FORMS_0,.str (Ab "of") tt2_FORMS_0,.str (Ab "NAME") tt3_FORMS_0,.str (Ab "due") tt4_FORMS_0,.str (Ab "NAME") tt5_FORMS_0,.str (Ab "from") tt6_FORMS_0,.str (Ab "NAME") tt7_FORMS_0,.int 40 tt8_FORMS_0,.str (Ab "UNIT") tt9_FORMS_0] na_FORMS_0,sa_FORMS_0⟩) (lt_FORMS_1:K.lookup A_FORMS_1=some ⟨.type "tuple",oa_FORMS_1,.seq #[.str (Ab "term") tt0_FORMS_1,.str (Ab "NAME") tt1_FORMS_1,.str (Ab "of") tt2_FORMS_1,.str (Ab "NAME") tt3_FORMS_1,.str (Ab "due") tt4_FORMS_1,.str (Ab "NAME") tt5_FORMS_1,.str (Ab "behind") tt6_FORMS_1,.str (Ab "NAME") tt7_FORMS_1,.int 40 tt8_FORMS_1,.str (Ab "UNIT") tt9_FORMS_1] na_FORMS_1,sa_FORMS_1⟩) (lt_FORMS_2:K.lookup A_FORMS_2=some ⟨.type "tuple",oa_FORMS_2,.seq #[.str (Ab "ends") tt0_FORMS_2,.str (Ab "NAME") tt1_FORMS_2,.str (Ab "NAME") tt2_FORMS_2] na_FORMS_2,sa_FORMS_2⟩) (lt_FORMS_3:K.lookup A_FORMS_3=some ⟨.type "tuple",oa_FORMS_3,.seq #[.str (Ab "anew") tt0_FORMS_3,.str (Ab "NAME") tt1_FORMS_3,.str (Ab "NAME") tt2_FORMS_3] na_FORMS_3,sa_FORMS_3⟩) (lt_FORMS_4:K.lookup A_FORMS_4=some ⟨.type "tuple",oa_FORMS_4,.seq #[.str (Ab "longer") tt0_FORMS_4,.str (Ab "NAME") tt1_FORMS_4,.str (Ab "NAME") tt2_FORMS_4,.int 20 tt3_FORMS_4,.str (Ab "times") tt4_FORMS_4,.int 3 tt5_FORMS_4] na_FORMS_4,sa_FORMS_4⟩) (lt_FORMS_5:K.lookup A_FORMS_5=some ⟨.type "tuple",oa_FORMS_5,.seq #[.str (Ab "still") tt0_FORMS_5,.str (Ab "NAME") tt1_FORMS_5,.str (Ab "NAME") tt2_FORMS_5,.str (Ab "NAME") tt3_FORMS_5] na_FORMS_5,sa_FORMS_5⟩) (lt_FORMS_6:K.lookup A_FORMS_6=some ⟨.type "tuple",oa_FORMS_6,.seq #[.str (Ab "yields") tt0_FORMS_6,.str (Ab "NAME") tt1_FORMS_6,.str (Ab "NAME") tt2_FORMS_6] na_FORMS_6,sa_FORMS_6⟩) (cc_Book:qw0 K C_Book=true) (cm_Book:mkB K C_Book f8=true) (cn_Book:xNo K C_Book ["name", "who", "owes", "opens", "base", "many", "unit", "still", "ends", "anew", "longer", "yields", "order", "by_name", "names", "at"]=true) (ct_dBookRuleOf:qi1 K C_Book "rule_of" f43=true) (ct_dBookTermNames:qi1 K C_Book "term_names" f45=true) (ct_dBookActKinds:qi1 K C_Book "act_kinds" f46=true) (cb_CourtError:quf K C_CourtError=true) (cx_NoRule:qo4 K C_NoRule (some (.ref f24))=true) (cn_NoRule:xNo K C_NoRule ["name", "who", "owes", "opens", "base", "many", "unit", "still", "ends", "anew", "longer", "yields", "order", "by_name", "names", "at"]=true) (ck_NoRule:qfu K C_NoRule [Ar C_CourtError,BK "ValueError",Ar C_NoRule,Ar C_NoTerm,Ar C_Twice,Ar C_Unfit,Ar C_Ring] [true,true,true,false,false,false,false]=true) (cx_NoTerm:qo4 K C_NoTerm (some (.ref f16))=true) (cn_NoTerm:xNo K C_NoTerm ["name", "who", "owes", "opens", "base", "many", "unit", "still", "ends", "anew", "longer", "yields", "order", "by_name", "names", "at"]=true) (ck_NoTerm:qfu K C_NoTerm [Ar C_CourtError,BK "ValueError",Ar C_NoRule,Ar C_NoTerm,Ar C_Twice,Ar C_Unfit,Ar C_Ring] [true,true,false,true,false,false,false]=true) (cx_Ring:qo4 K C_Ring (some (.ref f3))=true) (cn_Ring:xNo K C_Ring ["name", "who", "owes", "opens", "base", "many", "unit", "still", "ends", "anew", "longer", "yields", "order", "by_name", "names", "at"]=true) (ck_Ring:qfu K C_Ring [Ar C_CourtError,BK "ValueError",Ar C_NoRule,Ar C_NoTerm,Ar C_Twice,Ar C_Unfit,Ar C_Ring] [true,true,false,false,false,false,true]=true) (cc_Rule:qw0 K C_Rule=true) (cm_Rule:mkB K C_Rule f12=true) (cn_Rule:xNo K C_Rule ["name", "who", "owes", "opens", "base", "many", "unit", "still", "ends", "anew", "longer", "yields", "order", "by_name", "names", "at"]=true) (ci_Rule:isB K C_Rule=true) (ct_dRuleAllKinds:qi1 K C_Rule "all_kinds" f17=true) (ct_dRuleRoleInStill:qi1 K C_Rule "role_in_still" f40=true) (ct_dRuleRole:qi1 K C_Rule "role" f41=true) (cx_Twice:qo4 K C_Twice (some (.ref f13))=true) (cn_Twice:xNo K C_Twice ["name", "who", "owes", "opens", "base", "many", "unit", "still", "ends", "anew", "longer", "yields", "order", "by_name", "names", "at"]=true) (ck_Twice:qfu K C_Twice [Ar C_CourtError,BK "ValueError",Ar C_NoRule,Ar C_NoTerm,Ar C_Twice,Ar C_Unfit,Ar C_Ring] [true,true,false,false,true,false,false]=true) (cx_Unfit:qo4 K C_Unfit (some (.ref f14))=true) (cn_Unfit:xNo K C_Unfit ["name", "who", "owes", "opens", "base", "many", "unit", "still", "ends", "anew", "longer", "yields", "order", "by_name", "names", "at"]=true) (ck_Unfit:qfu K C_Unfit [Ar C_CourtError,BK "ValueError",Ar C_NoRule,Ar C_NoTerm,Ar C_Twice,Ar C_Unfit,Ar C_Ring] [true,true,false,false,false,true,false]=true) (cr_NoRule:qgx K C_NoRule=true) (ch_NoRule_Adrift:(Ad K (.ref C_NoRule) (.ref C_Adrift) == some false)=true) (ch_NoRule_Full:(Ad K (.ref C_NoRule) (.ref C_Full) == some false)=true) (ch_NoRule_NoAct:(Ad K (.ref C_NoRule) (.ref C_NoAct) == some false)=true) (ch_NoRule_NoDay:(Ad K (.ref C_NoRule) (.ref C_NoDay) == some false)=true) (ch_NoRule_NoName:(Ad K (.ref C_NoRule) (.ref C_NoName) == some false)=true) (ch_NoRule_NoRow:(Ad K (.ref C_NoRule) (.ref C_NoRow) == some false)=true) (ch_NoRule_NoRule:(Ad K (.ref C_NoRule) (.ref C_NoRule) == some true)=true) (ch_NoRule_NoTable:(Ad K (.ref C_NoRule) (.ref C_NoTable) == some false)=true) (ch_NoRule_NoTerm:(Ad K (.ref C_NoRule) (.ref C_NoTerm) == some false)=true) (ch_NoRule_Parted:(Ad K (.ref C_NoRule) (.ref C_Parted) == some false)=true) (ch_NoRule_Ring:(Ad K (.ref C_NoRule) (.ref C_Ring) == some false)=true) (ch_NoRule_Twice:(Ad K (.ref C_NoRule) (.ref C_Twice) == some false)=true) (ch_NoRule_Unfit:(Ad K (.ref C_NoRule) (.ref C_Unfit) == some false)=true) (cr_NoTerm:qgx K C_NoTerm=true) (ch_NoTerm_Adrift:(Ad K (.ref C_NoTerm) (.ref C_Adrift) == some false)=true) (ch_NoTerm_Full:(Ad K (.ref C_NoTerm) (.ref C_Full) == some false)=true) (ch_NoTerm_NoAct:(Ad K (.ref C_NoTerm) (.ref C_NoAct) == some false)=true) (ch_NoTerm_NoDay:(Ad K (.ref C_NoTerm) (.ref C_NoDay) == some false)=true) (ch_NoTerm_NoName:(Ad K (.ref C_NoTerm) (.ref C_NoName) == some false)=true) (ch_NoTerm_NoRow:(Ad K (.ref C_NoTerm) (.ref C_NoRow) == some false)=true) (ch_NoTerm_NoRule:(Ad K (.ref C_NoTerm) (.ref C_NoRule) == some false)=true) (ch_NoTerm_NoTable:(Ad K (.ref C_NoTerm) (.ref C_NoTable) == some false)=true) (ch_NoTerm_NoTerm:(Ad K (.ref C_NoTerm) (.ref C_NoTerm) == some true)=true) (ch_NoTerm_Parted:(Ad K (.ref C_NoTerm) (.ref C_Parted) == some false)=true) (ch_NoTerm_Ring:(Ad K (.ref C_NoTerm) (.ref C_Ring) == some false)=true) (ch_NoTerm_Twice:(Ad K (.ref C_NoTerm) (.ref C_Twice) == some false)=true) (ch_NoTerm_Unfit:(Ad K (.ref C_NoTerm) (.ref C_Unfit) == some false)=true) (cr_Ring:qgx K C_Ring=true) (ch_Ring_Adrift:(Ad K (.ref C_Ring) (.ref C_Adrift) == some false)=true) (ch_Ring_Full:(Ad K (.ref C_Ring) (.ref C_Full) == some false)=true) (ch_Ring_NoAct:(Ad K (.ref C_Ring) (.ref C_NoAct) == some false)=true) (ch_Ring_NoDay:(Ad K (.ref C_Ring) (.ref C_NoDay) == some false)=true) (ch_Ring_NoName:(Ad K (.ref C_Ring) (.ref C_NoName) == some false)=true) (ch_Ring_NoRow:(Ad K (.ref C_Ring) (.ref C_NoRow) == some false)=true) (ch_Ring_NoRule:(Ad K (.ref C_Ring) (.ref C_NoRule) == some false)=true) (ch_Ring_NoTable:(Ad K (.ref C_Ring) (.ref C_NoTable) == some false)=true) (ch_Ring_NoTerm:(Ad K (.ref C_Ring) (.ref C_NoTerm) == some false)=true) (ch_Ring_Parted:(Ad K (.ref C_Ring) (.ref C_Parted) == some false)=true) (ch_Ring_Ring:(Ad K (.ref C_Ring) (.ref C_Ring) == some true)=true) (ch_Ring_Twice:(Ad K (.ref C_Ring) (.ref C_Twice) == some false)=true) (ch_Ring_Unfit:(Ad K (.ref C_Ring) (.ref C_Unfit) == some false)=true) (cr_Twice:qgx K C_Twice=true) (ch_Twice_Adrift:(Ad K (.ref C_Twice) (.ref C_Adrift) == some false)=true) (ch_Twice_Full:(Ad K (.ref C_Twice) (.ref C_Full) == some false)=true) (ch_Twice_NoAct:(Ad K (.ref C_Twice) (.ref C_NoAct) == some false)=true) (ch_Twice_NoDay:(Ad K (.ref C_Twice) (.ref C_NoDay) == some false)=true) (ch_Twice_NoName:(Ad K (.ref C_Twice) (.ref C_NoName) == some false)=true) (ch_Twice_NoRow:(Ad K (.ref C_Twice) (.ref C_NoRow) == some false)=true) (ch_Twice_NoRule:(Ad K (.ref C_Twice) (.ref C_NoRule) == some false)=true) (ch_Twice_NoTable:(Ad K (.ref C_Twice) (.ref C_NoTable) == some false)=true) (ch_Twice_NoTerm:(Ad K (.ref C_Twice) (.ref C_NoTerm) == some false)=true) (ch_Twice_Parted:(Ad K (.ref C_Twice) (.ref C_Parted) == some false)=true) (ch_Twice_Ring:(Ad K (.ref C_Twice) (.ref C_Ring) == some false)=true) (ch_Twice_Twice:(Ad K (.ref C_Twice) (.ref C_Twice) == some true)=true) (ch_Twice_Unfit:(Ad K (.ref C_Twice) (.ref C_Unfit) == some false)=true) (cr_Unfit:qgx K C_Unfit=true) (ch_Unfit_Adrift:(Ad K (.ref C_Unfit) (.ref C_Adrift) == some false)=true) (ch_Unfit_Full:(Ad K (.ref C_Unfit) (.ref C_Full) == some false)=true) (ch_Unfit_NoAct:(Ad K (.ref C_Unfit) (.ref C_NoAct) == some false)=true) (ch_Unfit_NoDay:(Ad K (.ref C_Unfit) (.ref C_NoDay) == some false)=true) (ch_Unfit_NoName:(Ad K (.ref C_Unfit) (.ref C_NoName) == some false)=true) (ch_Unfit_NoRow:(Ad K (.ref C_Unfit) (.ref C_NoRow) == some false)=true) (ch_Unfit_NoRule:(Ad K (.ref C_Unfit) (.ref C_NoRule) == some false)=true) (ch_Unfit_NoTable:(Ad K (.ref C_Unfit) (.ref C_NoTable) == some false)=true) (ch_Unfit_NoTerm:(Ad K (.ref C_Unfit) (.ref C_NoTerm) == some false)=true) (ch_Unfit_Parted:(Ad K (.ref C_Unfit) (.ref C_Parted) == some false)=true) (ch_Unfit_Ring:(Ad K (.ref C_Unfit) (.ref C_Ring) == some false)=true) (ch_Unfit_Twice:(Ad K (.ref C_Unfit) (.ref C_Twice) == some false)=true) (ch_Unfit_Unfit:(Ad K (.ref C_Unfit) (.ref C_Unfit) == some true)=true)
  : ∃fd:AB,(∀(s:Af)(v:Value),BindsTo s fd ⟨[v],[]⟩ [("_law_script",v)])/\∀base:Heap,K.In base->base.Ns A5 mg->FnOk l.prog w K mg base CX0 9 fa fd ["_law_script"] (qqu K):=by
 have e:=hfa.symm.trans (AU X G a47)
 cases e
 obtain⟨g0,d0⟩:=qbe X G p0 (ps:=["sign"]) λ_ _ _ _ _ _=>qgm λ_=>rfl
 obtain⟨g1,d1⟩:=qbe X G p1 (ps:=["text", "most_figures"]) λ_ _ _ _ _ _=>qey λ_ _=>rfl
 obtain⟨g2,d2⟩:=qbe X G p2 (ps:=["text", "most"]) λ_ _ _ _ _ _=>qey λ_ _=>rfl
 obtain⟨g3,d3⟩:=qfj p3 (ps:=["self", "names"]) λ_ _ _ _ _ _=>qey λ_ _=>rfl
 obtain⟨g4,d4⟩:=qbe X G p4 (ps:=["name", "bases", "taken"]) λ_ _ _ _ _ _=>qmq λ_ _ _=>rfl
 obtain⟨g5,d5⟩:=qbe X G p5 (ps:=["rules"]) λ_ _ _ _ _ _=>qgm λ_=>rfl
 obtain⟨g6,d6⟩:=qbe X G p6 (ps:=["sign"]) λ_ _ _ _ _ _=>qgm λ_=>rfl
 obtain⟨g7,d7⟩:=qbe X G p7 (ps:=["thing"]) λ_ _ _ _ _ _=>qgm λ_=>rfl
 obtain⟨g8,d8⟩:=qfj p8 (ps:=["self", "rules"]) λ_ _ _ _ _ _=>qey λ_ _=>rfl
 obtain⟨g9,d9⟩:=qbe X G p9 (ps:=["text"]) λ_ _ _ _ _ _=>qgm λ_=>rfl
 obtain⟨g10,d10⟩:=qbe X G p10 (ps:=["word", "asked"]) λ_ _ _ _ _ _=>qey λ_ _=>rfl
 obtain⟨g11,d11⟩:=qbe X G p11 (ps:=["line"]) λ_ _ _ _ _ _=>qgm λ_=>rfl
 obtain⟨g13,d13⟩:=qfj p13 (ps:=["self", "name"]) λ_ _ _ _ _ _=>qey λ_ _=>rfl
 obtain⟨g14,d14⟩:=qfj p14 (ps:=["self", "at"]) λ_ _ _ _ _ _=>qey λ_ _=>rfl
 obtain⟨g15,d15⟩:=qbe X G p15 (ps:=["told", "at", "row"]) λ_ _ _ _ _ _=>qmq λ_ _ _=>rfl
 obtain⟨g16,d16⟩:=qfj p16 (ps:=["self", "name"]) λ_ _ _ _ _ _=>qey λ_ _=>rfl
 obtain⟨g17,d17⟩:=qfj p17 (ps:=["self"]) λ_ _ _ _ _ _=>qgm λ_=>rfl
 obtain⟨g18,d18⟩:=qbe X G p18 (ps:=["row"]) λ_ _ _ _ _ _=>qgm λ_=>rfl
 obtain⟨g19,d19⟩:=qbe X G p19 (ps:=["rule", "row"]) λ_ _ _ _ _ _=>qey λ_ _=>rfl
 obtain⟨g20,d20⟩:=qbe X G p20 (ps:=["rule", "at", "row"]) λ_ _ _ _ _ _=>qmq λ_ _ _=>rfl
 obtain⟨g21,d21⟩:=qbe X G p21 (ps:=["told", "at", "row"]) λ_ _ _ _ _ _=>qmq λ_ _ _=>rfl
 obtain⟨g22,d22⟩:=qbe X G p22 (ps:=["told", "rule", "at", "other"]) λ_ _ _ _ _ _=>arg4 λ_ _ _ _=>rfl
 obtain⟨g23,d23⟩:=qbe X G p23 (ps:=["told", "at", "row"]) λ_ _ _ _ _ _=>qmq λ_ _ _=>rfl
 obtain⟨g24,d24⟩:=qfj p24 (ps:=["self", "at"]) λ_ _ _ _ _ _=>qey λ_ _=>rfl
 obtain⟨g25,d25⟩:=qbe X G p25 (ps:=["text"]) λ_ _ _ _ _ _=>qgm λ_=>rfl
 obtain⟨g26,d26⟩:=qbe X G p26 (ps:=["_law_script", "_law_k"]) λ_ _ _ _ _ _=>qey λ_ _=>rfl
 obtain⟨g27,d27⟩:=qbe X G p27 (ps:=["_law_cell", "_law_many"]) λ_ _ _ _ _ _=>qey λ_ _=>rfl
 obtain⟨g28,d28⟩:=qbe X G p28 (ps:=["_law_words_here", "_law_cell"]) λ_ _ _ _ _ _=>qey λ_ _=>rfl
 obtain⟨g29,d29⟩:=qbe X G p29 (ps:=["_law_script", "_law_at", "_law_names"]) λ_ _ _ _ _ _=>qmq λ_ _ _=>rfl
 obtain⟨g30,d30⟩:=qbe X G p30 (ps:=["_law_script", "_law_at", "_law_names"]) λ_ _ _ _ _ _=>qmq λ_ _ _=>rfl
 obtain⟨g31,d31⟩:=qbe X G p31 (ps:=["_law_script", "_law_at", "_law_names", "_law_kinds_here"]) λ_ _ _ _ _ _=>arg4 λ_ _ _ _=>rfl
 obtain⟨g32,d32⟩:=qbe X G p32 (ps:=["_law_script", "_law_names", "_law_kinds_here", "_law_most"]) λ_ _ _ _ _ _=>arg4 λ_ _ _ _=>rfl
 obtain⟨g33,d33⟩:=qbe X G p33 (ps:=["_law_rule_here"]) λ_ _ _ _ _ _=>qgm λ_=>rfl
 obtain⟨g34,d34⟩:=qbe X G p34 (ps:=["_law_rule_here"]) λ_ _ _ _ _ _=>qgm λ_=>rfl
 obtain⟨g35,d35⟩:=qbe X G p35 (ps:=["_law_rule_here"]) λ_ _ _ _ _ _=>qgm λ_=>rfl
 obtain⟨g36,d36⟩:=qbe X G p36 (ps:=["_law_rule_here", "_law_kind"]) λ_ _ _ _ _ _=>qey λ_ _=>rfl
 obtain⟨g37,d37⟩:=qbe X G p37 (ps:=["_law_found"]) λ_ _ _ _ _ _=>qgm λ_=>rfl
 obtain⟨g38,d38⟩:=qbe X G p38 (ps:=["_law_found", "_law_due"]) λ_ _ _ _ _ _=>qey λ_ _=>rfl
 obtain⟨g39,d39⟩:=qbe X G p39 (ps:=["_law_found", "_law_due"]) λ_ _ _ _ _ _=>qey λ_ _=>rfl
 obtain⟨g40,d40⟩:=qfj p40 (ps:=["self", "kind"]) λ_ _ _ _ _ _=>qey λ_ _=>rfl
 obtain⟨g41,d41⟩:=qfj p41 (ps:=["self", "kind"]) λ_ _ _ _ _ _=>qey λ_ _=>rfl
 obtain⟨g42,d42⟩:=qbe X G p42 (ps:=["_law_found", "_law_rule_here", "_law_kinds_here"]) λ_ _ _ _ _ _=>qmq λ_ _ _=>rfl
 obtain⟨g43,d43⟩:=qfj p43 (ps:=["self", "name"]) λ_ _ _ _ _ _=>qey λ_ _=>rfl
 obtain⟨g44,d44⟩:=qbe X G p44 (ps:=["_law_book", "_law_name"]) λ_ _ _ _ _ _=>qey λ_ _=>rfl
 obtain⟨g45,d45⟩:=qfj p45 (ps:=["self"]) λ_ _ _ _ _ _=>qgm λ_=>rfl
 obtain⟨g46,d46⟩:=qfj p46 (ps:=["self"]) λ_ _ _ _ _ _=>qgm λ_=>rfl
 have F12:=qw6 (st:=qbr) l12 c12 k12
 have b12:Binds K _ ["self", "name", "who", "owes", "opens", "base", "many", "unit", "still"] []:=qup (ds:=[]) λus hl S=>match us,hl with | [u0,u1,u2,u3,u4,u5,u6,u7,u8],_=>pk12 u0 u1 u2 u3 u4 u5 u6 u7 u8 S
 have F47:=qoy (st:=qsc) l47 c47 k47
 have b47:=F47.binds (ps:=["_law_script"]) λ_ _ _ _ _ _ us hl=>match us,hl with | [_],_=>rfl
 have he_RuleInit_8:Binds K _ ["self", "name", "who", "owes", "opens", "base", "many", "unit", "still"] [.none]:=qup λus hl S=>match us,(show us.length=8 by rw[Aj]at hl;exact Nat.add_right_cancel hl) with | [u0,u1,u2,u3,u4,u5,u6,u7],_=>pe_RuleInit_8 u0 u1 u2 u3 u4 u5 u6 u7 S
 have T:Txt K mg { fX:=f0,lZ:=g0,lU:=f1,nK:=g1,nQ:=f2,nM:=g2,dJ:=f3,pL:=g3,fU:=f4,hU:=g4,hV:=f5,nA:=g5,lY:=f6,mE:=g6,fO:=f7,hZ:=g7,fE:=f8,pE:=g8,mQ:=f9,lN:=g9,nP:=f10,nG:=g10,lE:=f11,nR:=g11,dS:=f12,dF:=_,dP:=f13,fG:=g13,dZ:=f14,pJ:=g14,fV:=f15,mZ:=g15,dG:=f16,lT:=g16,dH:=f17,mJ:=g17,mC:=f18,mT:=g18,fP:=f19,hX:=g19,nW:=f20,lA:=g20,pB:=f21,mF:=g21,fQ:=f22,mL:=g22,fN:=f23,hG:=g23,dR:=f24,fY:=g24,pM:=f25,nF:=g25,lG:=f26,lW:=g26,lP:=f27,mM:=g27,lO:=f28,mO:=g28,nZ:=f29,pA:=g29,pG:=f30,fK:=g30,fT:=f31,nV:=g31,nY:=f32,fL:=g32,nE:=f33,lF:=g33,pF:=f34,pI:=g34,mV:=f35,mW:=g35,lV:=f36,mD:=g36,nU:=f37,mY:=g37,fM:=f38,fW:=g38,nB:=f39,pK:=g39,dY:=f40,fR:=g40,dU:=f41,pN:=g41,mG:=f42,mK:=g42,dQ:=f43,fZ:=g43,nO:=f44,lJ:=g44,dO:=f45,pH:=g45,fB:=f46,lK:=g46,lC:=fa,mH:=_,gC:=C_Adrift,kH:=C_Book,kW:=C_CourtError,gK:=C_Full,gH:=C_NoAct,gE:=C_NoDay,gD:=C_NoName,gG:=C_NoRow,kE:=C_NoRule,gF:=C_NoTable,kD:=C_NoTerm,gI:=C_Parted,kG:=C_Ring,k8:=C_Rule,kF:=C_Twice,kC:=C_Unfit,dW:=A_UNITS,bF:=A_FORMS,gW:=A_FORMS_0,bU:=A_FORMS_1,gP:=A_FORMS_2,gU:=A_FORMS_3,bX:=A_FORMS_4,bC:=A_FORMS_5,bA:=A_FORMS_6 }:={
  bJ:=d0,
  gZ:=d1,
  gQ:=d2,
  fA:=d3,
  gY:=d4,
  bO:=d5,
  bN:=d6,
  gS:=d7,
  nJ:=d8,
  dD:=d9,
  bG:=d10,
  bP:=d11,
  pX:=⟨F12,b12,t12⟩,
  dM:=d13,
  kY:=d14,
  dA:=d15,
  kS:=d16,
  dN:=d17,
  dB:=d18,
  bL:=d19,
  bK:=d20,
  bB:=d21,
  gT:=d22,
  bZ:=d23,
  fF:=d24,
  bQ:=d25,
  kB:=d26,
  gA:=d27,
  kX:=d28,
  bR:=d29,
  bY:=d30,
  bM:=d31,
  dC:=d32,
  bE:=d33,
  gX:=d34,
  bS:=d35,
  bH:=d36,
  kP:=d37,
  kK:=d38,
  bT:=d39,
  mR:=d40,
  mI:=d41,
  gR:=d42,
  dE:=d43,
  bV:=d44,
  nN:=d45,
  lD:=d46,
  rD:=⟨F47,AU X G a47,b47⟩,
  sL:=AU X G ca_Adrift,
  pY:=AU X G ca_Book,
  kO:=qul cc_Book,
  rS:=qyu cm_Book,
  kT:=cn_Book,
  nH:=qgb ct_dBookRuleOf,
  pW:=qgb ct_dBookTermNames,
  sK:=qgb ct_dBookActKinds,
  gJ:=AU X G ca_CourtError,
  gO:=xb_of cb_CourtError,
  sS:=AU X G ca_Full,
  rX:=AU X G ca_NoAct,
  rT:=AU X G ca_NoDay,
  rY:=AU X G ca_NoName,
  sG:=AU X G ca_NoRow,
  nC:=AU X G ca_NoRule,
  gN:=qnm cx_NoRule,
  fC:=cn_NoRule,
  sW:=ck_NoRule,
  sR:=AU X G ca_NoTable,
  gM:=AU X G ca_NoTerm,
  kL:=qnm cx_NoTerm,
  gL:=cn_NoTerm,
  mP:=ck_NoTerm,
  sC:=AU X G ca_Parted,
  lI:=AU X G ca_Ring,
  fD:=qnm cx_Ring,
  rJ:=cn_Ring,
  tV:=ck_Ring,
  mB:=AU X G ca_Rule,
  k9:=qul cc_Rule,
  sE:=qyu cm_Rule,
  kA:=cn_Rule,
  sT:=ci_Rule,
  mU:=qgb ct_dRuleAllKinds,
  rC:=qgb ct_dRuleRoleInStill,
  sP:=qgb ct_dRuleRole,
  lH:=AU X G ca_Twice,
  dX:=qnm cx_Twice,
  pP:=cn_Twice,
  sZ:=ck_Twice,
  bI:=AU X G ca_Unfit,
  kN:=qnm cx_Unfit,
  gB:=cn_Unfit,
  tK:=ck_Unfit,
  dI:=qno cr_NoRule,
  xU:=beq_iff_eq.mp ch_NoRule_Adrift,
  xJ:=beq_iff_eq.mp ch_NoRule_Full,
  tJ:=beq_iff_eq.mp ch_NoRule_NoAct,
  xP:=beq_iff_eq.mp ch_NoRule_NoDay,
  tF:=beq_iff_eq.mp ch_NoRule_NoName,
  xF:=beq_iff_eq.mp ch_NoRule_NoRow,
  tP:=beq_iff_eq.mp ch_NoRule_NoRule,
  xW:=beq_iff_eq.mp ch_NoRule_NoTable,
  xC:=beq_iff_eq.mp ch_NoRule_NoTerm,
  tG:=beq_iff_eq.mp ch_NoRule_Parted,
  xQ:=beq_iff_eq.mp ch_NoRule_Ring,
  tU:=beq_iff_eq.mp ch_NoRule_Twice,
  xT:=beq_iff_eq.mp ch_NoRule_Unfit,
  bD:=qno cr_NoTerm,
  rO:=beq_iff_eq.mp ch_NoTerm_Adrift,
  r9:=beq_iff_eq.mp ch_NoTerm_Full,
  rB:=beq_iff_eq.mp ch_NoTerm_NoAct,
  pV:=beq_iff_eq.mp ch_NoTerm_NoDay,
  rA:=beq_iff_eq.mp ch_NoTerm_NoName,
  pO:=beq_iff_eq.mp ch_NoTerm_NoRow,
  rG:=beq_iff_eq.mp ch_NoTerm_NoRule,
  sF:=beq_iff_eq.mp ch_NoTerm_NoTable,
  rR:=beq_iff_eq.mp ch_NoTerm_NoTerm,
  rE:=beq_iff_eq.mp ch_NoTerm_Parted,
  rW:=beq_iff_eq.mp ch_NoTerm_Ring,
  rV:=beq_iff_eq.mp ch_NoTerm_Twice,
  sN:=beq_iff_eq.mp ch_NoTerm_Unfit,
  rM:=qno cr_Ring,
  tZ:=beq_iff_eq.mp ch_Ring_Adrift,
  tO:=beq_iff_eq.mp ch_Ring_Full,
  tR:=beq_iff_eq.mp ch_Ring_NoAct,
  tT:=beq_iff_eq.mp ch_Ring_NoDay,
  tW:=beq_iff_eq.mp ch_Ring_NoName,
  xA:=beq_iff_eq.mp ch_Ring_NoRow,
  y0:=beq_iff_eq.mp ch_Ring_NoRule,
  tX:=beq_iff_eq.mp ch_Ring_NoTable,
  tL:=beq_iff_eq.mp ch_Ring_NoTerm,
  xS:=beq_iff_eq.mp ch_Ring_Parted,
  sU:=beq_iff_eq.mp ch_Ring_Ring,
  sY:=beq_iff_eq.mp ch_Ring_Twice,
  sX:=beq_iff_eq.mp ch_Ring_Unfit,
  pZ:=qno cr_Twice,
  xM:=beq_iff_eq.mp ch_Twice_Adrift,
  xO:=beq_iff_eq.mp ch_Twice_Full,
  xX:=beq_iff_eq.mp ch_Twice_NoAct,
  tE:=beq_iff_eq.mp ch_Twice_NoDay,
  xN:=beq_iff_eq.mp ch_Twice_NoName,
  xK:=beq_iff_eq.mp ch_Twice_NoRow,
  xZ:=beq_iff_eq.mp ch_Twice_NoRule,
  xL:=beq_iff_eq.mp ch_Twice_NoTable,
  xR:=beq_iff_eq.mp ch_Twice_NoTerm,
  sV:=beq_iff_eq.mp ch_Twice_Parted,
  tI:=beq_iff_eq.mp ch_Twice_Ring,
  tD:=beq_iff_eq.mp ch_Twice_Twice,
  tM:=beq_iff_eq.mp ch_Twice_Unfit,
  kZ:=qno cr_Unfit,
  tH:=beq_iff_eq.mp ch_Unfit_Adrift,
  xV:=beq_iff_eq.mp ch_Unfit_Full,
  tN:=beq_iff_eq.mp ch_Unfit_NoAct,
  tS:=beq_iff_eq.mp ch_Unfit_NoDay,
  xI:=beq_iff_eq.mp ch_Unfit_NoName,
  tQ:=beq_iff_eq.mp ch_Unfit_NoRow,
  xE:=beq_iff_eq.mp ch_Unfit_NoRule,
  xD:=beq_iff_eq.mp ch_Unfit_NoTable,
  xB:=beq_iff_eq.mp ch_Unfit_NoTerm,
  xG:=beq_iff_eq.mp ch_Unfit_Parted,
  tY:=beq_iff_eq.mp ch_Unfit_Ring,
  xH:=beq_iff_eq.mp ch_Unfit_Twice,
  xY:=beq_iff_eq.mp ch_Unfit_Unfit,
  r8:=he_RuleInit_8,
  rK:=AY X G z_ValueError,
  dL:=AY X G z_all,
  rH:=AY X G z_any,
  sM:=AY X G z_bool,
  fH:=AY X G z_enumerate,
  bW:=AY X G z_int,
  kM:=AY X G z_isinstance,
  kI:=AY X G z_len,
  kU:=AY X G z_list,
  sO:=AY X G z_max,
  kQ:=AY X G z_range,
  mS:=AY X G z_reversed,
  pC:=AY X G z_set,
  fS:=AY X G z_sorted,
  kR:=AY X G z_str,
  lQ:=AY X G z_tuple,
  rF:=AY X G z_zip,
  pT:=⟨_,AU X G q_LONGEST_NAME⟩,
  r6:=⟨_,AU X G q_MOST_ROWS⟩,
  rZ:=⟨_,AU X G q_MOST_TERMS⟩,
  rP:=⟨_,AU X G q_MOST_LONGER_ROWS⟩,
  rU:=AU X G q_UNITS,rQ:=λH=>.inr ⟨_,_,_,lt_UNITS,rfl,rfl,by show 3<=A0;rw[Bg];decide,.cons ⟨_,rfl⟩ (.cons ⟨_,rfl⟩ (.cons ⟨_,rfl⟩ (.nil)))⟩,
  rL:=AU X G q_FORMS,lR:=λH=>.inr ⟨_,_,_,lt_FORMS,rfl,rfl,by show 7<=A0;rw[Bg];decide,.cons rfl (.cons rfl (.cons rfl (.cons rfl (.cons rfl (.cons rfl (.cons rfl (.nil)))))))⟩,
  pQ:=λH=>.inr ⟨_,_,_,lt_FORMS_0,rfl,rfl,by show 10<=A0;rw[Bg];decide,.cons ⟨_,rfl⟩ (.cons ⟨_,rfl⟩ (.cons ⟨_,rfl⟩ (.cons ⟨_,rfl⟩ (.cons ⟨_,rfl⟩ (.cons ⟨_,rfl⟩ (.cons ⟨_,rfl⟩ (.cons ⟨_,rfl⟩ (.cons ⟨_,rfl⟩ (.cons ⟨_,rfl⟩ (.nil))))))))))⟩,
  rN:=λH=>.inr ⟨_,_,_,lt_FORMS_1,rfl,rfl,by show 10<=A0;rw[Bg];decide,.cons ⟨_,rfl⟩ (.cons ⟨_,rfl⟩ (.cons ⟨_,rfl⟩ (.cons ⟨_,rfl⟩ (.cons ⟨_,rfl⟩ (.cons ⟨_,rfl⟩ (.cons ⟨_,rfl⟩ (.cons ⟨_,rfl⟩ (.cons ⟨_,rfl⟩ (.cons ⟨_,rfl⟩ (.nil))))))))))⟩,
  sI:=λH=>.inr ⟨_,_,_,lt_FORMS_2,rfl,rfl,by show 3<=A0;rw[Bg];decide,.cons ⟨_,rfl⟩ (.cons ⟨_,rfl⟩ (.cons ⟨_,rfl⟩ (.nil)))⟩,
  pS:=λH=>.inr ⟨_,_,_,lt_FORMS_3,rfl,rfl,by show 3<=A0;rw[Bg];decide,.cons ⟨_,rfl⟩ (.cons ⟨_,rfl⟩ (.cons ⟨_,rfl⟩ (.nil)))⟩,
  sQ:=λH=>.inr ⟨_,_,_,lt_FORMS_4,rfl,rfl,by show 6<=A0;rw[Bg];decide,.cons ⟨_,rfl⟩ (.cons ⟨_,rfl⟩ (.cons ⟨_,rfl⟩ (.cons ⟨_,rfl⟩ (.cons ⟨_,rfl⟩ (.cons ⟨_,rfl⟩ (.nil))))))⟩,
  pU:=λH=>.inr ⟨_,_,_,lt_FORMS_5,rfl,rfl,by show 4<=A0;rw[Bg];decide,.cons ⟨_,rfl⟩ (.cons ⟨_,rfl⟩ (.cons ⟨_,rfl⟩ (.cons ⟨_,rfl⟩ (.nil))))⟩,
  pR:=λH=>.inr ⟨_,_,_,lt_FORMS_6,rfl,rfl,by show 3<=A0;rw[Bg];decide,.cons ⟨_,rfl⟩ (.cons ⟨_,rfl⟩ (.cons ⟨_,rfl⟩ (.nil)))⟩ }
 exact⟨_,λs v=>.of_eq rfl,λbase _ _=>okLaw T⟩
theorem walk {l:PySem.W.OpenLaw}{q:AF}{loose:List Str}{XP:(Str->Option Value)->Heap->Prop}{YP:World->Heap->Prop}{d:DefRec}{K:Params->Ae}(hn:l.most=some 63)(hdf:d.params.defaults=[])
  (hY:∀(w:World)(h:Heap),YP w h->(K w.params).In h)
  (F:∀(w:World)(mg:Str->Option Value)(fa:Addr)(h:Heap),(K w.params).In h->h.Ns A5 mg->mg d.name=some (.ref fa) ->
   ∃fd:AB,(∀(s:Af)(u:Value),BindsTo s fd ⟨[u],[]⟩ [("_law_script",u)])/\∀base:Heap,(K w.params).In base->base.Ns A5 mg->FnOk l.prog w (K w.params) mg base CX0 9 fa fd ["_law_script"] (qqu (K w.params))) :
  PySem.W.WalkO q loose XP YP l.row.toRowW d [] (λf vs=>PySem.call f vs) :=
 L2.walk_of (n:=63) (k:=9) (x := "_law_script") (CX:=λ_=>CX0) (sp:=λw=>qqu (K w.params)) hn En hdf ⟨rfl,En,En⟩ hY F (λ_ _ a ns hl _ hS=>⟨a,ns,rfl,hS,hl,λ_=>rfl⟩) λ_ _ _ _ _ z=>z
end K42
namespace PySem.W.Fast
noncomputable def tw8855244492255493054:Unit:=()
noncomputable def tw14142951017678625506:Unit:=()
noncomputable def tw8453359402664685866:Unit:=()
noncomputable def tw2577101443967221143:Unit:=()
noncomputable def tw16138884043668587423:Unit:=()
noncomputable def tw12379012059971845319:Unit:=()
noncomputable def tw11265888133505125226:Unit:=()
noncomputable def tw3476815777867996784:Unit:=()
noncomputable def tw1129363383811925356:Unit:=()
noncomputable def tw8049823706575822485:Unit:=()
noncomputable def tw6699202397103675117:Unit:=()
noncomputable def tw6529175651259393159:Unit:=()
noncomputable def tw5745113857508664869:Unit:=()
noncomputable def tw10748482454395254576:Unit:=()
noncomputable def tw14576817006507776309:Unit:=()
noncomputable def tw3671378479855022839:Unit:=()
noncomputable def tw13007121647456100507:Unit:=()
noncomputable def tw6039842552492316471:Unit:=()
noncomputable def tw11667394166135151378:Unit:=()
noncomputable def tw8764873499134828329:Unit:=()
noncomputable def tw9123841831124177468:Unit:=()
noncomputable def tw4501967060415032630:Unit:=()
noncomputable def tw8665768905122774083:Unit:=()
noncomputable def tw17894773943667109008:Unit:=()
noncomputable def tw12831328297128560623:Unit:=()
noncomputable def tw4609464802925727432:Unit:=()
noncomputable def tw1019611953570857320:Unit:=()
noncomputable def tw17487752537201698696:Unit:=()
noncomputable def tw8405788347162127106:Unit:=()
noncomputable def tw12869978728609353001:Unit:=()
noncomputable def tw10470351240483709596:Unit:=()
noncomputable def tw18140833429275294473:Unit:=()
noncomputable def tw14171431196801232457:Unit:=()
noncomputable def tw9515260937232590674:Unit:=()
noncomputable def tw16200663919771566318:Unit:=()
noncomputable def tw1019920953919354772:Unit:=()
noncomputable def tw15482095493084035316:Unit:=()
noncomputable def tw18335392191850662997:Unit:=()
noncomputable def tw8388466195974317540:Unit:=()
noncomputable def tw4312057321996622325:Unit:=()
noncomputable def tw13427819396522660878:Unit:=()
noncomputable def tw7292921437647651915:Unit:=()
noncomputable def tw8153108601695556446:Unit:=()
noncomputable def tw9690643054576942205:Unit:=()
noncomputable def tw12669124504111276596:Unit:=()
noncomputable def tw4838780921133073615:Unit:=()
noncomputable def tw12718548265530551033:Unit:=()
noncomputable def tw16985073315145198948:Unit:=()
noncomputable def tw12386131387846752389:Unit:=()
noncomputable def tw6640921334125359666:Unit:=()
noncomputable def tw9896727314748935993:Unit:=()
noncomputable def tw199951308497966005:Unit:=()
noncomputable def tw14448376675604947294:Unit:=()
noncomputable def tw17344550163078615002:Unit:=()
noncomputable def tw9954199906063644697:Unit:=()
noncomputable def tw16191907313440008976:Unit:=()
noncomputable def tw566571470543542847:Unit:=()
noncomputable def tw8990810418278552609:Unit:=()
noncomputable def tw15056081945759122824:Unit:=()
noncomputable def tw8677426734259838497:Unit:=()
noncomputable def tw12157695723680667470:Unit:=()
noncomputable def tw7855235527215837617:Unit:=()
noncomputable def tw5083286189943686251:Unit:=()
noncomputable def tw9858787254436519128:Unit:=()
noncomputable def tw12339726717321138297:Unit:=()
noncomputable def tw718362328526215206:Unit:=()
noncomputable def tw8720681637969103600:Unit:=()
noncomputable def tw8408124450396408288:Unit:=()
noncomputable def tw51883059456850782:Unit:=()
noncomputable def tw2657810330825516555:Unit:=()
noncomputable def tw3439146778685940128:Unit:=()
noncomputable def tw13285923118528529601:Unit:=()
noncomputable def tw17131441186506027041:Unit:=()
noncomputable def tw3894931748416608584:Unit:=()
noncomputable def tw17060753490625392490:Unit:=()
noncomputable def tw10449595176510978593:Unit:=()
noncomputable def tw13517528878422381910:Unit:=()
noncomputable def tw8513560935335978874:Unit:=()
noncomputable def tw12022619921782729684:Unit:=()
noncomputable def tw16650534857609012273:Unit:=()
noncomputable def tw8756678175004752423:Unit:=()
noncomputable def tw319215623384904668:Unit:=()
noncomputable def tw9269344994274864567:Unit:=()
noncomputable def tw16204101126836192677:Unit:=()
noncomputable def tw9531508166808510538:Unit:=()
noncomputable def tw15374851442151706863:Unit:=()
noncomputable def tw7774868091638544397:Unit:=()
noncomputable def tw1140384254049196310:Unit:=()
noncomputable def tw6392479625966186255:Unit:=()
noncomputable def tw17417393948036059537:Unit:=()
noncomputable def tw17166068838752764950:Unit:=()
noncomputable def tw5609756348772573037:Unit:=()
noncomputable def tw16619741394468763810:Unit:=()
noncomputable def tw11440194305411835141:Unit:=()
noncomputable def tw13856772885866515522:Unit:=()
noncomputable def tw9554171036313981678:Unit:=()
noncomputable def tw5557269477144371963:Unit:=()
noncomputable def tw8655344982120065386:Unit:=()
noncomputable def tw7491672687034177924:Unit:=()
noncomputable def tw1060991186723207560:Unit:=()
noncomputable def tw15532636536615836796:Unit:=()
noncomputable def tw7806234038765152853:Unit:=()
noncomputable def tw974542268972199503:Unit:=()
noncomputable def tw1033140793638914699:Unit:=()
noncomputable def tw9007590868238294034:Unit:=()
noncomputable def tw5243369007089148950:Unit:=()
noncomputable def tw651973648216923381:Unit:=()
noncomputable def tw962233428182861585:Unit:=()
noncomputable def tw14668577162427908753:Unit:=()
noncomputable def tw15648066148574916957:Unit:=()
noncomputable def tw14775335450138501809:Unit:=()
noncomputable def tw14929368770960769814:Unit:=()
noncomputable def tw13239435353760287633:Unit:=()
noncomputable def tw2837352722188992793:Unit:=()
end PySem.W.Fast
open PySem PySem.W PyProof.Rows
set_option maxRecDepth 100000 in
set_option maxHeartbeats 0 in
theorem PySem.Challenge.cw_termcourt_k42_rows_read_holds : PySem.Challenge.rw_termcourt_k42_rows_read.Holds := by
 w_on; o_law; k_head; (case hw=>w_witness2)
 k_fill
 refine K42.walk (l:=PySem.Challenge.rw_termcourt_k42_rows_read) rfl rfl (λw h Y=>PySem.W.kIn_of Y) ?F
 case F =>
  intro w mg fa h KX G hmg
  refine' K42.all_mk KX G hmg ?ca_Adrift ?ca_Book ?ca_CourtError ?ca_Full ?ca_NoAct ?ca_NoDay ?ca_NoName ?ca_NoRow ?ca_NoRule ?ca_NoTable ?ca_NoTerm ?ca_Parted ?ca_Ring ?ca_Rule ?ca_Twice ?ca_Unfit ?p0 ?p1 ?p2 ?p3 ?p4 ?p5 ?p6 ?p7 ?p8 ?p9 ?p10 ?p11 ?a12 ?t12 ?l12 ?c12 ?k12 ?pk12 ?pe_RuleInit_8 ?p13 ?p14 ?p15 ?p16 ?p17 ?p18 ?p19 ?p20 ?p21 ?p22 ?p23 ?p24 ?p25 ?p26 ?p27 ?p28 ?p29 ?p30 ?p31 ?p32 ?p33 ?p34 ?p35 ?p36 ?p37 ?p38 ?p39 ?p40 ?p41 ?p42 ?p43 ?p44 ?p45 ?p46 ?a47 ?l47 ?c47 ?k47 ?z_ValueError ?z_all ?z_any ?z_bool ?z_enumerate ?z_int ?z_isinstance ?z_len ?z_list ?z_max ?z_range ?z_reversed ?z_set ?z_sorted ?z_str ?z_tuple ?z_zip ?q_LONGEST_NAME ?q_MOST_ROWS ?q_MOST_TERMS ?q_MOST_LONGER_ROWS ?q_UNITS ?lt_UNITS ?q_FORMS ?lt_FORMS ?lt_FORMS_0 ?lt_FORMS_1 ?lt_FORMS_2 ?lt_FORMS_3 ?lt_FORMS_4 ?lt_FORMS_5 ?lt_FORMS_6 ?cc_Book ?cm_Book ?cn_Book ?ct_dBookRuleOf ?ct_dBookTermNames ?ct_dBookActKinds ?cb_CourtError ?cx_NoRule ?cn_NoRule ?ck_NoRule ?cx_NoTerm ?cn_NoTerm ?ck_NoTerm ?cx_Ring ?cn_Ring ?ck_Ring ?cc_Rule ?cm_Rule ?cn_Rule ?ci_Rule ?ct_dRuleAllKinds ?ct_dRuleRoleInStill ?ct_dRuleRole ?cx_Twice ?cn_Twice ?ck_Twice ?cx_Unfit ?cn_Unfit ?ck_Unfit ?cr_NoRule ?ch_NoRule_Adrift ?ch_NoRule_Full ?ch_NoRule_NoAct ?ch_NoRule_NoDay ?ch_NoRule_NoName ?ch_NoRule_NoRow ?ch_NoRule_NoRule ?ch_NoRule_NoTable ?ch_NoRule_NoTerm ?ch_NoRule_Parted ?ch_NoRule_Ring ?ch_NoRule_Twice ?ch_NoRule_Unfit ?cr_NoTerm ?ch_NoTerm_Adrift ?ch_NoTerm_Full ?ch_NoTerm_NoAct ?ch_NoTerm_NoDay ?ch_NoTerm_NoName ?ch_NoTerm_NoRow ?ch_NoTerm_NoRule ?ch_NoTerm_NoTable ?ch_NoTerm_NoTerm ?ch_NoTerm_Parted ?ch_NoTerm_Ring ?ch_NoTerm_Twice ?ch_NoTerm_Unfit ?cr_Ring ?ch_Ring_Adrift ?ch_Ring_Full ?ch_Ring_NoAct ?ch_Ring_NoDay ?ch_Ring_NoName ?ch_Ring_NoRow ?ch_Ring_NoRule ?ch_Ring_NoTable ?ch_Ring_NoTerm ?ch_Ring_Parted ?ch_Ring_Ring ?ch_Ring_Twice ?ch_Ring_Unfit ?cr_Twice ?ch_Twice_Adrift ?ch_Twice_Full ?ch_Twice_NoAct ?ch_Twice_NoDay ?ch_Twice_NoName ?ch_Twice_NoRow ?ch_Twice_NoRule ?ch_Twice_NoTable ?ch_Twice_NoTerm ?ch_Twice_Parted ?ch_Twice_Ring ?ch_Twice_Twice ?ch_Twice_Unfit ?cr_Unfit ?ch_Unfit_Adrift ?ch_Unfit_Full ?ch_Unfit_NoAct ?ch_Unfit_NoDay ?ch_Unfit_NoName ?ch_Unfit_NoRow ?ch_Unfit_NoRule ?ch_Unfit_NoTable ?ch_Unfit_NoTerm ?ch_Unfit_Parted ?ch_Unfit_Ring ?ch_Unfit_Twice ?ch_Unfit_Unfit
  (case ca_Adrift | ca_Book | ca_CourtError | ca_Full | ca_NoAct | ca_NoDay | ca_NoName | ca_NoRow | ca_NoRule | ca_NoTable | ca_NoTerm | ca_Parted | ca_Ring | ca_Rule | ca_Twice | ca_Unfit=>k_is)
  (case p0 | p1 | p2=>refine' K42.pd_of ?pa ?pl ?pc ?pk; (case pa | pl | pc | pk=>k_is))
  (case p3=>refine' K42.pm_of ?pa ?pt ?pl ?pc ?pk; (case pa | pt | pl | pc | pk=>k_is))
  (case p4 | p5 | p6 | p7=>refine' K42.pd_of ?pa ?pl ?pc ?pk; (case pa | pl | pc | pk=>k_is))
  (case p8=>refine' K42.pm_of ?pa ?pt ?pl ?pc ?pk; (case pa | pt | pl | pc | pk=>k_is))
  (case p9 | p10 | p11=>refine' K42.pd_of ?pa ?pl ?pc ?pk; (case pa | pl | pc | pk=>k_is))
  (case a12 | t12 | l12 | c12 | k12=>k_is)
  (case pk12 | pe_RuleInit_8=>intros; kernel_rfl)
  (case p13 | p14=>refine' K42.pm_of ?pa ?pt ?pl ?pc ?pk; (case pa | pt | pl | pc | pk=>k_is))
  (case p15=>refine' K42.pd_of ?pa ?pl ?pc ?pk; (case pa | pl | pc | pk=>k_is))
  (case p16 | p17=>refine' K42.pm_of ?pa ?pt ?pl ?pc ?pk; (case pa | pt | pl | pc | pk=>k_is))
  (case p18 | p19 | p20 | p21 | p22 | p23=>refine' K42.pd_of ?pa ?pl ?pc ?pk; (case pa | pl | pc | pk=>k_is))
  (case p24=>refine' K42.pm_of ?pa ?pt ?pl ?pc ?pk; (case pa | pt | pl | pc | pk=>k_is))
  (case p25 | p26 | p27 | p28 | p29 | p30 | p31 | p32 | p33 | p34 | p35 | p36 | p37 | p38 | p39=>refine' K42.pd_of ?pa ?pl ?pc ?pk; (case pa | pl | pc | pk=>k_is))
  (case p40 | p41=>refine' K42.pm_of ?pa ?pt ?pl ?pc ?pk; (case pa | pt | pl | pc | pk=>k_is))
  (case p42=>refine' K42.pd_of ?pa ?pl ?pc ?pk; (case pa | pl | pc | pk=>k_is))
  (case p43=>refine' K42.pm_of ?pa ?pt ?pl ?pc ?pk; (case pa | pt | pl | pc | pk=>k_is))
  (case p44=>refine' K42.pd_of ?pa ?pl ?pc ?pk; (case pa | pl | pc | pk=>k_is))
  (case p45 | p46=>refine' K42.pm_of ?pa ?pt ?pl ?pc ?pk; (case pa | pt | pl | pc | pk=>k_is))
  (case a47 | l47 | c47 | k47 | z_ValueError | z_all | z_any | z_bool | z_enumerate | z_int | z_isinstance | z_len | z_list | z_max | z_range | z_reversed | z_set | z_sorted | z_str | z_tuple | z_zip | q_LONGEST_NAME | q_MOST_ROWS | q_MOST_TERMS | q_MOST_LONGER_ROWS | q_UNITS | lt_UNITS | q_FORMS | lt_FORMS | lt_FORMS_0 | lt_FORMS_1 | lt_FORMS_2 | lt_FORMS_3 | lt_FORMS_4 | lt_FORMS_5 | lt_FORMS_6=>k_is)
  (case cc_Book | cm_Book | cn_Book | ct_dBookRuleOf | ct_dBookTermNames | ct_dBookActKinds | cb_CourtError | cx_NoRule | cn_NoRule | ck_NoRule | cx_NoTerm | cn_NoTerm | ck_NoTerm | cx_Ring | cn_Ring | ck_Ring | cc_Rule | cm_Rule | cn_Rule | ci_Rule | ct_dRuleAllKinds | ct_dRuleRoleInStill | ct_dRuleRole | cx_Twice | cn_Twice | ck_Twice | cx_Unfit | cn_Unfit | ck_Unfit | cr_NoRule | ch_NoRule_Adrift | ch_NoRule_Full | ch_NoRule_NoAct | ch_NoRule_NoDay | ch_NoRule_NoName | ch_NoRule_NoRow | ch_NoRule_NoRule | ch_NoRule_NoTable | ch_NoRule_NoTerm | ch_NoRule_Parted | ch_NoRule_Ring | ch_NoRule_Twice | ch_NoRule_Unfit | cr_NoTerm | ch_NoTerm_Adrift | ch_NoTerm_Full | ch_NoTerm_NoAct | ch_NoTerm_NoDay | ch_NoTerm_NoName | ch_NoTerm_NoRow | ch_NoTerm_NoRule | ch_NoTerm_NoTable | ch_NoTerm_NoTerm | ch_NoTerm_Parted | ch_NoTerm_Ring | ch_NoTerm_Twice | ch_NoTerm_Unfit | cr_Ring | ch_Ring_Adrift | ch_Ring_Full | ch_Ring_NoAct | ch_Ring_NoDay | ch_Ring_NoName | ch_Ring_NoRow | ch_Ring_NoRule | ch_Ring_NoTable | ch_Ring_NoTerm | ch_Ring_Parted | ch_Ring_Ring | ch_Ring_Twice | ch_Ring_Unfit | cr_Twice | ch_Twice_Adrift | ch_Twice_Full | ch_Twice_NoAct | ch_Twice_NoDay | ch_Twice_NoName | ch_Twice_NoRow | ch_Twice_NoRule | ch_Twice_NoTable | ch_Twice_NoTerm | ch_Twice_Parted | ch_Twice_Ring | ch_Twice_Twice | ch_Twice_Unfit | cr_Unfit | ch_Unfit_Adrift | ch_Unfit_Full | ch_Unfit_NoAct | ch_Unfit_NoDay | ch_Unfit_NoName | ch_Unfit_NoRow | ch_Unfit_NoRule | ch_Unfit_NoTable | ch_Unfit_NoTerm | ch_Unfit_Parted | ch_Unfit_Ring | ch_Unfit_Twice | ch_Unfit_Unfit=>kernel_rfl)
