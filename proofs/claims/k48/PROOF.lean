import PyProof.Rows.All
import Wide.All
import OpenK.AllK
import Wide.FinOn
import Lean
import PyProof.EqAt
import PyProof.EqKinds
import PyProof.TupleCall
import PySem.Challenge.RW_termcourt_k48_when_all_is_read
set_option Elab.async false
set_option linter.all false
set_option maxRecDepth 100000
/-! THE HAND LAYER,for ints,bools,texts,own classes,LISTS and tuples (index,slices,in,append,pop ..),calls,loops. Paste it whole ahead of your own text; what your proof does not reach may be deleted. -/
local macro_rules|`(Ez)=>`(by decide +kernel)|`(Ex)=>`(by decide)
open PySem.Str renaming ofString->Aa,empty->AS,cps_append->Dq,join->DM
open List renaming length_map->Ab,getElem?_eq_some_iff->Ac,getElem?_eq_getElem->Ae,length_append->Ah,mem_of_getElem?->Ai,mem_singleton->Ak,getElem?_map->Al,mem_cons_self->Am,mem_cons->An,map_append->Aq,mem_cons_of_mem->Ar,length_cons->At,mem_append->Au,length_take->Av,size_toArray->Aw,not_mem_nil->Ax,mem_append_right->Ay,map_cons->A4,getElem?_append_right->A9,append_assoc->AB,getD_eq_getElem?_getD->AC,getElem?_append_left->AF,take_append_drop->AK,mem_map->AM,mem_append_left->AO,append_nil->AV,nodup_append->AZ,length_drop->Ba,getElem?_of_mem->Bb,nil_append->Bd,all_eq_true->Bf,nodup_cons->Bg,cons_append->Bi,getElem?_eq_none->Bj,flatMap_cons->Bk,range->Bl,map_map->Bm,getElem_mem->Bq,mem_flatMap->Bs,length_singleton->Bt,flatMap_append->Bw,getElem?_set_self->Bx,take_of_length_le->By,take_length->B0,getElem?_take_of_lt->B5,mem_map_of_mem->B9,lookup_cons->BD,ext_getElem?->BG,take_append_of_le_length->BI,map_nil->BL,length_set->BN,map_take->BO,cons_lt_cons_iff->BP,take_sublist->BQ,getElem?_set->BW,Nodup->Ck,length_range->Cm,length_nil->Cn,getElem?_eq_none_iff->Co,drop_eq_getElem_cons->Cp,mem_or_eq_of_mem_set->Cq,map_drop->Cs,length->Cv,find?_cons->Cz,filterMap_cons->C0,cons_ne_nil->C5,filter_append->C7,contains_iff_mem->CA,lookup->CF,all_map->CG,mem_of_mem_take->CI,count_append->CK,take_take->CU,mem_filterMap->CV,getElem?_drop->Dd,all_cons->Dg,mem_range->Dm,mem_of_mem_drop->Dr,filter_cons->Dw,take_append->Dx,length_reverse->Dz,getElem?_range->D0,length_take_le->D3,any_cons->D4,take_add_one->DL,getElem?_inj->DN,take_zero->DO,foldl_append->DP,getElem?_reverse->DS,singleton_append->DT,mem_reverse->DY,getElem?_set_ne->Ec,mem_filter->Ee,forIn_cons->Ef,map_eq_nil_iff->El,findSome?_cons->Em
open PySem.W renaming exmOne->Ad,Frag->Ag,nsIn->AJ,findIn->AT,mg_of->Bc,keepIn->Bo,mg_none_of->Bu,fnOf->Bz,kitOne->BC,Looks->BF,kia_one->BM,emptyDict->BV,codeIn->BY,typeIn->Ci,instObj->Cw,hasDictIn->CD,callWith_K->CZ,plainGet->Du,lookIn->DG,specialIn->DH,mroIn->Ea,plainGet_of->Ej
open PySem renaming wpAny_bind->Af,Shared->Aj,sizeLine->A5,wpAny_pure->A6,Spec->A8,mainGlobals->AE,FuncData->AH,Program->AU,Builtin->AY,Around->Be,sizeLine_eq->Bp,NameKind->Bv,PassesOwn->BB,wpAny_truthy_bool->BE,wpAny_field->BH,wpAny_Call_Name_kw->BK,wpAny_mono->BR,wpAny_holding->Cg,wpAny_seqItems->Cj,wpAny_passesOwn->CB,mem_of_lookup->CP,wpAny_getItem_str_slice->CS,wpAny_callSpecial?_slot->CT,wpAny_call->CW,codeAny_mono->CY,wpAny_setField_rec->Dc,wpAny_setField->Dp,Within->Dt,wpAny_execs_nil->D5,Paired->D7,tupleKind_room_in1->DA,wpAny_pyIter_list->DF,wpAny_newObj_type->DK,plainObj_wpAny_Assign_Attribute->DQ,call_meets->DV,wpAny_call_entry->DW,IsPair->DX,wpAny_standAt->DZ,codeAny_call_builtin->Ed,post_val_or_str->Eg
open PySem.Value renaming ref->Ao,none->BJ,type->BU
open PySem.Heap renaming get?_push_of_some->Ap,lt_size->A7,get?_push_size->AA,get?_update_other->B3,get?_update_self->B8,SameBut->Cr,size_push->Cu
open Or renaming inl->Az,inr->Dj
open Nat renaming le_trans->A0,le_refl->A3,lt_of_lt_of_le->AG,ne_of_lt->AR,zero_le->B7,le_of_eq->BZ,sub_self->Ca,lt_irrefl->Cf,ne_of_gt->C1,succ_pos->C2,le_succ->C4,min_eq_left->CC,zero_add->CJ,lt_succ_self->CQ,succ_le_succ->Dy,not_lt_zero->D6,le_of_lt->DE
open Option.some renaming inj->AD
open Bool renaming false_ne_true->AI,and_eq_true->AN,false_and->Ct,eq_iff_iff->Cy,false_eq_true->Da,true_and->Di,and_false->Dn
open PySem.F renaming plainAttrs_list->AL,slot_list_append->AW,type_list_append->AX,plainAttrs_str->BS,slot_tuple_iterator_next->C8,slot_str_join->Dk,type_str_join->Dl,excBase_ValueError->Do,slot_list_index->DC,type_list_index->DD,slot_zip_next->Eh
open Array renaming length_toList->AQ,getElem?_eq_some_iff->C6,getElem?_toList->DR,toList_append->Ek
open Ne renaming symm->Bh
open PySem.NameKind renaming free->Br
open PySem.PassesOwn renaming never->B1
open False renaming elim->B4
open PyProof.Rows renaming callWith_type1->B6,callWith_builtin1->DU,AllBare->En
open PySem.SeqAt renaming EqAt->BA
open List.Sublist renaming refl->BX
open PySem.Obj renaming data_mapFields->Cb,isFreed_of_fields->C9,mapFields->CN,mapSeq->D9
open PySem.Txt renaming slice->Cc,split->Ce,slice_le->Dv
open Option renaming bind_some->Cd,isSome_iff_exists->CM,map_some->De,map_eq_some_iff->DJ
open Int renaming zero_add->C3,toNat_natCast->CH,emod_lt_of_pos->DB,emod_nonneg->Ei
open True renaming intro->CL
open Sum renaming inr->CO
open Nat.succ renaming inj->Db
open ForInStep renaming yield->Df
open List.cons renaming inj->Dh
open PySem.Calls renaming spliced_cons->D8,spliced_nil->DI
open Int.ofNat renaming inj->Eb
namespace L2
open PySem PySem.Spec PyProof.Rows
noncomputable abbrev Key:=Sum Int Str
noncomputable def qmd:Key->Value->Bool
 |.inl k,v=>Value.isInt k v
 |.inr x,v=>Value.isStrOf x v
noncomputable def keyH (w:World):Key->Int
 |.inl k=>hashInt k
 |.inr x=>hashStr w x
theorem qb5:∀{k:Key}{v:Value},qmd k v=true->(∃i t,k=Sum.inl i/\v=Value.int i t)\/(∃x t,k=CO x/\v=Value.str x t)
 |.inl i,v,h=>by
  obtain⟨t,e⟩:=Value.isInt_shape (k:=i) (v:=v) h
  exact .inl ⟨i,t,rfl,e⟩
 |.inr x,v,h=>by
  obtain⟨t,e⟩:=Value.isStrOf_shape (x:=x) (v:=v) h
  exact .inr ⟨x,t,rfl,e⟩
theorem qsk (i:Int)(t:Tok):qmd (.inl i) (.int i t)=true:=by simp[qmd,Value.isInt]
theorem qsl (x:Str)(t:Tok):qmd (.inr x) (.str x t)=true:=by simp[qmd,Value.isStrOf]
theorem qzb (a b:Int):decide ((Sum.inl a:Key)=Sum.inl b)=(a == b):=by
 by_cases e:a=b
 .subst e;simp
 .have h:¬(Sum.inl a:Key)=Sum.inl b:=λq=>e (Sum.inl.inj q)
  rw[decide_eq_false h]
  exact(beq_eq_false_iff_ne.mpr e).symm
theorem key_rr (a b:Str):decide ((CO a:Key)=CO b)=decide (a=b):=by
 by_cases e:a=b
 .subst e;simp
 .have h:¬(CO a:Key)=CO b:=λq=>e (CO.inj q)
  rw[decide_eq_false h,decide_eq_false e]
theorem key_lr (a:Int)(b:Str):decide ((Sum.inl a:Key)=CO b)=false:=decide_eq_false (λq=>nomatch q)
theorem key_rl (a:Str)(b:Int):decide ((CO a:Key)=Sum.inl b)=false:=decide_eq_false (λq=>nomatch q)
noncomputable def qb6 (prog:AU)(w:World):PySem.KeyKind prog w Key where
 is:=qmd
 hash:=keyH w
 inj:=λv a b ha hb=>by
  rcases qb5 ha with ⟨i,t,rfl,rfl⟩|⟨x,t,rfl,rfl⟩
  .rcases qb5 hb with ⟨j,u,rfl,e⟩|⟨y,u,rfl,e⟩
   .injection e with e1 _;rw[e1]
   .exact nomatch e
  .rcases qb5 hb with ⟨j,u,rfl,e⟩|⟨y,u,rfl,e⟩
   .exact nomatch e
   .injection e with e1 _;rw[e1]
 byValue:=λk v h=>by
  rcases qb5 h with ⟨i,t,rfl,rfl⟩|⟨x,t,rfl,rfl⟩ <;>rfl
 pyHash:=λhv h=>by
  rcases qb5 hv with ⟨i,t,rfl,rfl⟩|⟨x,t,rfl,rfl⟩
  .exact wpAny_pyHash_int h
  .exact wpAny_pyHash_str h
 eqBool:=λhu hv h=>by
  rcases qb5 hu with ⟨i,t,rfl,rfl⟩|⟨x,t,rfl,rfl⟩
  .rcases qb5 hv with ⟨j,u,rfl,rfl⟩|⟨y,u,rfl,rfl⟩
   .rw[qzb]at h;exact wpAny_eqBool_int h
   .rw[key_lr]at h;exact BA.int_str i t y u _ _ _ _ h
  .rcases qb5 hv with ⟨j,u,rfl,rfl⟩|⟨y,u,rfl,rfl⟩
   .rw[key_rl]at h;exact BA.str_int x t j u _ _ _ _ h
   .rw[key_rr]at h;exact wpAny_eqBool_str h
 «strs» := λk x t v h=>by
  rcases qb5 h with ⟨i,u,rfl,e⟩|⟨y,u,rfl,e⟩
  .exact nomatch e
  .injection e with e1 _
   subst e1
   cases v <;>rfl
theorem qn9 (prog:AU)(w:World)(i:Int)(t:Tok):(qb6 prog w).is (.inl i) (.int i t)=true:=qsk i t
theorem qoa (prog:AU)(w:World)(x:Str)(t:Tok):(qb6 prog w).is (.inr x) (.str x t)=true:=qsl x t
end L2
namespace L2
open PySem PySem.Spec PyProof.Rows
inductive V where
 |non|bl (b:Bool)|int (i:Int)|str (x:Str)|byt (b:Array UInt8)|flt (b:UInt64)|ref (a:Addr)|ty (n:String)
 deriving DecidableEq
noncomputable def RelV:V->Value->Prop
 |.non,u=>u=BJ
 |.bl b,u=>u=Value.bool b
 |.int i,u=>∃t,u=Value.int i t
 |.str x,u=>∃t,u=Value.str x t
 |.byt b,u=>∃t,u=Value.bytes b t
 |.flt b,u=>∃t,u=Value.float b t
 |.ref a,u=>u=Ao a
 |.ty n,u=>u=BU n
noncomputable abbrev Vals:List V->List Value->Prop:=D7 RelV
theorem Vals.length {xs:List V}{us:List Value}(r:Vals xs us):xs.length=us.length:=D7.length r
theorem Vals.get:∀{xs:List V}{us:List Value}{i:Nat}{x:V},Vals xs us->xs[i]?=some x->∃u,us[i]?=some u/\RelV x u
 |_,_,_,_,.nil,e=>by simp at e
 |_,_,0,_,.cons r _,e=>by simp at e;subst e;exact⟨_,rfl,r⟩
 |_,_,i+1,x,.cons _ t,e=>by
  obtain⟨u,h1,h2⟩:=Vals.get (i:=i) (x:=x) t (by simpa using e)
  exact⟨u,by simpa using h1,h2⟩
theorem Vals.set {x:V}{u:Value}(r:RelV x u):∀{xs:List V}{us:List Value}(i:Nat),Vals xs us->Vals (xs.set i x) (us.set i u)
 |_,_,_,.nil=>.nil
 |_,_,0,.cons _ t=>.cons r t
 |_,_,i+1,.cons q t=>.cons q (Vals.set r i t)
theorem Vals.append:∀{xs ys:List V}{us ws:List Value},Vals xs us->Vals ys ws->Vals (xs++ys) (us++ws)
 |_,_,_,_,.nil,s=>s
 |_,_,_,_,.cons r t,s=>.cons r (Vals.append t s)
theorem Vals.take:∀{xs:List V}{us:List Value}(n:Nat),Vals xs us->Vals (xs.take n) (us.take n)
 |_,_,0,_=>.nil
 |_,_,_+1,.nil=>.nil
 |_,_,n+1,.cons r t=>.cons r (Vals.take n t)
theorem Vals.drop:∀{xs:List V}{us:List Value}(n:Nat),Vals xs us->Vals (xs.drop n) (us.drop n)
 |_,_,0,r=>r
 |_,_,_+1,.nil=>.nil
 |_,_,n+1,.cons _ t=>Vals.drop n t
noncomputable def RelO:Option V->Option Value->Prop
 |some v,some u=>RelV v u
 |none,none=>True
 |_,_=>False
noncomputable def KV {κ:Type}:List (κ×V)->List (κ×Value)->Prop:=D7 λ(p:κ×V)(q:κ×Value)=>p.1=q.1/\RelV p.2 q.2
noncomputable def kV:Key->V
 |.inl i=>.int i
 |.inr x=>.str x
inductive HO where
 /-- a list -/
 |lst (xs:List V)
 /-- a tuple (never changes) -/
 |tup (xs:List V)
 /-- a dict whose keys are ints and texts;one whose keys are tuples of ints and texts (the empty one is both) -/
 |dK (kvs:List (Key×V))|dT (kvs:List (List Key×V))
 /-- a set of ints: its members,its size -/
 |set (S:Int->Bool) (n:Nat)
 /-- an instance of the class at C,its dict at dx,its attributes -/
 |ins (C dx:Addr) (fs:List (Str×V))
 /-- the dict of the instance at x -/
 |own (x:Addr)
 /-- the dict of an exception -/
 |xd (fs:List (Str×V))
 /-- a bound method,f of x -/
 |met (f x:Addr)
 /-- a range object lo,lo+1,.. below hi -/
 |rng (lo hi:Int)
 /-- a thing that is known to the object (the script;a dict while a loop walks it): read,never written while it is so -/
 |frz (o:Obj) (u:HO)
 /-- a code object's table -/
 |tbl (ps:Array Value)
 /-- any other thing,by what is true of its one object (a def of one's own: SetO a S n:=HO.ext λh=>..) -/
 |ext (φ:Heap->Prop)
noncomputable abbrev Hp:=Addr->Option HO
noncomputable def upd (H:Hp)(a:Addr)(o:HO):Hp:=λb=>if b=a then some o else H b
theorem zd {H:Hp}{a:Addr}{o:HO}:upd H a o a=some o:=by unfold upd;rw[if_pos rfl]
theorem zh {H:Hp}{a b:Addr}{o:HO}(h:b≠a):upd H a o b=H b:=by unfold upd;rw[if_neg h]
theorem qre {H:Hp}{a:Addr}{o u:HO}:upd (upd H a o) a u=upd H a u:=by
 funext b;unfold upd;split <;>rfl
theorem ne_of {H:Hp}{a b:Addr}{o u:HO}(h:H a=some o)(h':H b=some u)(d:o≠u):a≠b:=by
 intro e;subst e;rw[h]at h';exact d (AD h')
theorem qah {H:Hp}{a b:Addr}{o:HO}(h:H a=some o)(h':H b=none):a≠b:=by
 intro e;subst e;rw[h]at h';cases h'
section
variable (P:AU)(w:World)
noncomputable def ObjOk (H:Hp)(h:Heap)(a:Addr):HO->Prop
 |.lst xs=>xs.length<=A5/\∃(its:List Value)(n:Nat),Vals xs its/\h.get? a=some { cls:=.type "list",data:=.seq its.toArray n }
 |.tup xs=>xs.length<=A5/\∃its:List Value,Vals xs its/\IsTup h a its.toArray
 |.dK kvs=>kvs.length<=A5/\(a == sysModules)=false/\∃vs,KV kvs vs/\h.DictOf (qb6 P w) a vs
 |.dT kvs=>kvs.length<=A5/\(a == sysModules)=false/\∃xs:List (List Key×Addr×Value),
   D7 (λ(p:List Key×V)(q:List Key×Addr×Value)=>p.1=q.1/\H q.2.1=some (.tup (p.1.map kV))/\RelV p.2 q.2.2) kvs xs /\
   ∃o es ep,h.get? a=some o/\o.ExactDict/\o.data=.dict es ep/\es.toList=xs.map (entryOfKey (tupleKind (qb6 P w)))/\(xs.map (·.1)).Nodup
 |.set S n=>h.SetOf (intKind P w) a S n
 |.ins C dx fs=>H dx=some (.own a)/\fs.length<=1000/\dx≠a/\h.get? a=some (Cw C dx) /\
   ∃mA,h.Ns1 dx mA/\(∀f,RelO (fs.lookup f) (mA f))/\Dt mA (fs.map (·.1))
 |.own _=>∃o,h.get? a=some o
 |.xd fs=>∃mA,h.Ns1 a mA/\∀f,RelO (fs.lookup f) (mA f)
 |.rng lo hi=>∃t u v,h.get? a=some { cls:=.type "range",data:=.fields #[.int lo t,.int hi u,.int 1 v] }
 |.frz o u=>h.get? a=some o/\ObjOk H h a u
 |.tbl ps=>h.get? a=some { cls:=.none,data:=.fields ps }
 |.met f x=>h.get? a=some (PySem.W.methodObj (.ref f) (.ref x))
 |.ext φ=>φ h/\(∃o,h.get? a=some o)/\∀h1 h2:Heap,φ h1->(∀o,h1.get? a=some o->h2.get? a=some o)->φ h2
noncomputable def HOk (H:Hp)(h:Heap):Prop:=∀a o,H a=some o->ObjOk P w H h a o
end
section
variable {P:AU}{w:World}{H H':Hp}{h h':Heap}{a:Addr}{o:HO}
theorem ObjOk.lt (x:ObjOk P w H h a o):a<h.objs.size:=by
 cases o with
 |lst xs=>obtain⟨_,_,_,_,e⟩:=x;exact A7 e
 |tup xs=>obtain⟨_,_,_,p⟩:=x;exact p.lt
 |dK kvs=>obtain⟨_,_,_,_,o,_,_,e,_⟩:=x;exact A7 e
 |dT kvs=>obtain⟨_,_,_,_,o,_,_,e,_⟩:=x;exact A7 e
 |set S n=>obtain⟨o,_,_,_,e,_⟩:=x;exact A7 e
 |ins C dx fs=>obtain⟨_,_,_,e,_⟩:=x;exact A7 e
 |own y=>obtain⟨_,e⟩:=x;exact A7 e
 |xd fs=>obtain⟨_,⟨_,_,_,e,_⟩,_⟩:=x;exact A7 e
 |rng lo hi=>obtain⟨_,_,_,e⟩:=x;exact A7 e
 |frz ob u=>obtain⟨e,_⟩:=x;exact A7 e
 |tbl ps=>exact A7 (show h.get? a=some _ from x)
 |met f y=>exact A7 (show h.get? a=some _ from x)
 |ext φ=>obtain⟨_,⟨_,e⟩,_⟩:=x;exact A7 e
theorem D7.mapP {α β:Type}{F G:α->β->Prop}:∀{l₁:List α}{l₂:List β},D7 F l₁ l₂->(∀a b,F a b->G a b)->D7 G l₁ l₂
 |_,_,.nil,_=>.nil
 |_,_,.cons r t,f=>.cons (f _ _ r) (D7.mapP t f)
theorem ObjOk.stay (x:ObjOk P w H h a o)(k:∀b u,(b=a\/H b=some (.own a))->h.get? b=some u->h'.get? b=some u)
  (ho:∀b,H b=some (.own a)->H' b=some (.own a)) (ht:∀b xs,H b=some (.tup xs)->H' b=some (.tup xs)):ObjOk P w H' h' a o:=by
 induction o with
 |lst xs=>obtain⟨z,its,n,r,e⟩:=x;exact⟨z,its,n,r,k _ _ (.inl rfl) e⟩
 |tup xs=>obtain⟨z,its,r,ob,e,c⟩:=x;exact⟨z,its,r,ob,k _ _ (.inl rfl) e,c⟩
 |dK kvs=>obtain⟨z,y,vs,r,ob,es,ep,e,c⟩:=x;exact⟨z,y,vs,r,ob,es,ep,k _ _ (.inl rfl) e,c⟩
 |dT kvs =>
  obtain⟨z,y,xs,r,ob,es,ep,e,c⟩:=x
  exact⟨z,y,xs,D7.mapP r λp q z=>⟨z.1,ht _ _ z.2.1,z.2.2⟩,ob,es,ep,k _ _ (.inl rfl) e,c⟩
 |set S n=>obtain⟨ob,es,ep,t,e,c⟩:=x;exact⟨ob,es,ep,t,k _ _ (.inl rfl) e,c⟩
 |ins C dx fs =>
  obtain⟨d,z,ne,e,mA,⟨od,es,ep,e2,c⟩,r⟩:=x
  exact⟨ho _ d,z,ne,k _ _ (.inl rfl) e,mA,⟨od,es,ep,k _ _ (.inr d) e2,c⟩,r⟩
 |own y=>obtain⟨ob,e⟩:=x;exact⟨ob,k _ _ (.inl rfl) e⟩
 |xd fs=>obtain⟨mA,⟨od,es,ep,e,c⟩,r⟩:=x;exact⟨mA,⟨od,es,ep,k _ _ (.inl rfl) e,c⟩,r⟩
 |rng lo hi=>obtain⟨t,u,v,e⟩:=x;exact⟨t,u,v,k _ _ (.inl rfl) e⟩
 |frz ob u ih=>obtain⟨e,q⟩:=x;exact⟨k _ _ (.inl rfl) e,ih q⟩
 |tbl ps =>
  have e:h.get? a=some { cls:=.none,data:=.fields ps }:=x
  show h'.get? a=some { cls:=.none,data:=.fields ps }
  exact k a _ (.inl rfl) e
 |met f y =>
  have e:h.get? a=some (PySem.W.methodObj (.ref f) (.ref y)):=x
  show h'.get? a=some (PySem.W.methodObj (.ref f) (.ref y))
  exact k a _ (.inl rfl) e
 |ext φ=>obtain⟨p,⟨o,e⟩,st⟩:=x;exact⟨st _ _ p λo q=>k _ _ (.inl rfl) q,⟨o,k _ _ (.inl rfl) e⟩,st⟩
theorem HOk.lt (x:HOk P w H h)(e:H a=some o):a<h.objs.size:=(x a o e).lt
theorem HOk.fresh (x:HOk P w H h)(e:h.objs.size<=a):H a=none:=by
 cases q:H a with
 |none=>rfl
 |some u=>exact absurd (AG (x.lt q) e) (Cf _)
theorem HOk.kept (x:HOk P w H h)(k:∀b u,h.get? b=some u->h'.get? b=some u):HOk P w H h':=λa o e =>
 (x a o e).stay (λb u _ q=>k b u q) (λ_ q=>q) λ_ _ q=>q
theorem HOk.laid (x:HOk P w H h)(k:∀b u,h.get? b=some u->h'.get? b=some u)(hp:h.objs.size<=a)(new:ObjOk P w (upd H a o) h' a o):HOk P w (upd H a o) h':=λb u e=>by
 have hn:=x.fresh hp
 by_cases hb:b=a
 .subst hb;rw[zd]at e;cases e;exact new
 .rw[zh hb]at e
  exact(x b u e).stay (λc v _ q=>k c v q) (λc q=>by rw[zh (qah q hn)];exact q) λc xs q=>by rw[zh (qah q hn)];exact q
end
noncomputable def Rd (H:Hp)(a:Addr)(u:HO):Prop:=H a=some u \/ ∃o,H a=some (.frz o u)
theorem Rd.ok {P:AU}{w:World}{H:Hp}{h:Heap}{a:Addr}{u:HO}(r:Rd H a u)(x:HOk P w H h):ObjOk P w H h a u:=by
 rcases r with r|⟨o,r⟩
 .exact x a u r
 .obtain⟨_,q⟩:=x a _ r
  exact q
noncomputable def Mut:Option HO->Prop
 |some (.lst _)=>True
 |some (.dK _)=>True
 |some (.dT _)=>True
 |some (.set _ _)=>True
 |some (.ins _ _ _)=>True
 |some (.ext _)=>True
 |_=>False
section
variable {P:AU}{w:World}{H:Hp}{h h':Heap}{x e:Addr}{o':HO}
theorem HOk.write (ok:HOk P w H h)(mu:Mut (H x))(he:e=x\/H e=some (.own x))(k:∀b u,b≠e->h.get? b=some u->h'.get? b=some u)(heo:∃u,h'.get? e=some u)
  (new:ObjOk P w (upd H x o') h' x o'):HOk P w (upd H x o') h':=λb u q=>by
 have nown:∀c y,H c=some (.own y)->c≠x:=λc y r z=>by subst z;rw[r]at mu;exact mu
 have ntup:∀c xs,H c=some (.tup xs)->c≠x:=λc xs r z=>by subst z;rw[r]at mu;exact mu
 by_cases hb:b=x
 .subst hb;rw[zd]at q;cases q;exact new
 .rw[zh hb]at q
  by_cases hbe:b=e
  .have q':H b=some (.own x):=by
    rcases he with z|z
    .exact absurd (hbe.trans z) hb
    .rw[hbe];exact z
   rw[q]at q';cases q'
   obtain⟨v,hv⟩:=heo
   exact⟨v,by rw[hbe];exact hv⟩
  .refine(ok b u q).stay (λc v hc r=>k c v ?_ r) (λc r=>by rw[zh (nown c b r)];exact r) λc xs r=>by rw[zh (ntup c xs r)];exact r
   rcases hc with rfl|hc
   .exact hbe
   .rintro rfl
    rcases he with z|z
    .exact nown c b hc z
    .rw[hc]at z;cases z;exact hb rfl
end
structure Un (fs ex:List Addr)(H H':Hp)(h h':Heap):Prop where
 keep:∀b o,h.get? b=some o->H b=none->b∉fs->b∉ex->h'.get? b=some o
 slot:∀b o,h.get? b=some o->H b=none->b∈fs->b∉ex->∃sl,h'.get? b=some { o with slots:=sl }
 free:∀b o,h.get? b=some o->H b=none->b∉ex->H' b=none
 there:∀b o,h.get? b=some o->b∉ex->∃o',h'.get? b=some o'
 tups:∀b xs,H b=some (.tup xs)->H' b=some (.tup xs)
 frzs:∀b o u,H b=some (.frz o u)->H' b=some (.frz o u)
 tbls:∀b ps,H b=some (.tbl ps)->∃qcd,H' b=some (.tbl (ps++qcd))
section
variable {fs fs' ex ex':List Addr}{H H1 H2:Hp}{h h1 h2 h':Heap}{a x e:Addr}{o:HO}
theorem Un.any (u:Un fs ex H H1 h h1){b:Addr}{ob:Obj}(q:h.get? b=some ob)(n:H b=none)(hx:b∉ex):∃sl,h1.get? b=some { ob with slots:=sl }:=by
 by_cases hb:b∈fs
 .exact u.slot b ob q n hb hx
 .exact⟨ob.slots,u.keep b ob q n hb hx⟩
theorem Un.kept (k:∀b u,h.get? b=some u->h'.get? b=some u):Un fs ex H H h h' :=
 ⟨λb ob q _ _ _=>k b ob q,λb ob q _ _ _=>⟨ob.slots,k b ob q⟩,λ_ _ _ n _=>n,λb ob q _=>⟨ob,k b ob q⟩,λ_ _ q=>q,λ_ _ _ q=>q,λ_ ps q=>⟨#[],by rw[q];simp⟩⟩
theorem Un.refl:Un fs ex H H h h:=Un.kept λ_ _ q=>q
theorem Un.laid (k:∀b u,h.get? b=some u->h'.get? b=some u)(hp:h.objs.size<=a)(hn:H a=none):Un fs ex H (upd H a o) h h' where
 keep:=λb u q _ _ _=>k b u q
 slot:=λb u q _ _ _=>⟨u.slots,k b u q⟩
 free:=λb u q n _=>by rw[zh (AR (AG (A7 q) hp))];exact n
 there:=λb u q _=>⟨u,k b u q⟩
 tups:=λb xs q=>by rw[zh (qah q hn)];exact q
 frzs:=λb u xs q=>by rw[zh (qah q hn)];exact q
 tbls:=λb ps q=>⟨#[],by rw[zh (qah q hn),q];simp⟩
theorem Un.write (mu:Mut (H x))(he:e=x\/H e=some (.own x))(k:∀b u,b≠e->h.get? b=some u->h'.get? b=some u)(heo:∃u,h'.get? e=some u):Un fs ex H (upd H x o) h h':=by
 have hx:∀b,H b=none->b≠x:=λb n z=>by subst z;rw[n]at mu;exact mu
 have hb:∀b,H b=none->b≠e:=λb n z=>by
  subst z
  rcases he with r|r
  .exact hx b n r
  .rw[n]at r;cases r
 have hm:∀b u,H b=some u->¬Mut (some u)->b≠x:=λb u q nm z=>by subst z;rw[q]at mu;exact nm mu
 refine⟨λb u q n _ _=>k b u (hb b n) q,λb u q n _ _=>⟨u.slots,k b u (hb b n) q⟩,λb u q n _=>by rw[zh (hx b n)];exact n,λb u q _=>?_,
  λb xs q=>by rw[zh (hm b _ q λz=>z)];exact q,λb u xs q=>by rw[zh (hm b _ q λz=>z)];exact q,λb ps q=>⟨#[],by rw[zh (hm b _ q λz=>z),q];simp⟩⟩
 by_cases hbe:b=e
 .subst hbe;exact heo
 .exact⟨u,k b u hbe q⟩
end
noncomputable def trk (h:Heap)(H:Hp):List Addr:=(Bl h.objs.size).filter λa=>(H a).isSome
noncomputable def qni (h:Heap)(H:Hp):Heap:=PySem.W.hideAll h (trk h H)
theorem qsm (h:Heap)(H:Hp):(qni h H).objs.size=h.objs.size:=PySem.W.hideAll_size _ _
theorem qt9 {h:Heap}{H:Hp}{b:Addr}{o:Obj}(e:h.get? b=some o)(n:H b=none):(qni h H).get? b=some o :=
 PySem.W.hideAll_get _ e λhm=>by
  have q:(H b).isSome=true:=(Ee.mp hm).2
  rw[n]at q;simp at q
theorem qwy {h:Heap}{H:Hp}{b:Addr}{o:Obj}(e:(qni h H).get? b=some o):h.get? b=some o/\H b=none:=by
 have e':h.get? b=some o:=PySem.W.of_hideAll (trk h H) e
 refine⟨e',?_⟩
 cases q:H b with
 |none=>rfl
 |some x =>
  have hm:b∈trk h H:=Ee.mpr ⟨Dm.mpr (A7 e'),by simp[q]⟩
  have z:(qni h H).get? b=none:=PySem.W.hideAll_none (trk h H) hm
  rw[z]at e;cases e
noncomputable def qwz (g h:Heap)(L:Addr):List (Addr×Obj):=(Bl h.objs.size).filterMap λa=>if a=L\/(g.get? a).isSome=true then none else (h.get? a).map λo=>(a,o)
noncomputable def qbm (g h:Heap)(L d:Addr):List (Addr×Obj):=(qwz g h L).filter λp=>decide (p.1≠d)
end L2
namespace L2
open PySem PySem.Spec PyProof.Rows
structure Mod (K:Ag)(mg:Str->Option Value)(base:Heap):Prop where
 kin:K.In base
 glob:base.Ns AE mg
 blt:∃mb,base.Ns builtinsNs mb/\∀x:Str,x ≠ "__name__" -> mb x=bootBuiltins x
 nolimit:base.NoLimit
structure Cx where
 prog:AU
 w:World
 K:Ag
 mg:Str->Option Value
 base:Heap
 A:Be
 N:List Str
 s₀:Aj
 H₀:Hp
 env:Env
 outer:List Env
 stack:List Env
 ex:List Addr
 fn:Str->Bool
 calm:Bool
 pn:List (Addr×Obj)
 xe:Value->Aj->Prop
noncomputable def frs (l:List Env):List Addr:=l.filterMap (·.frame)
noncomputable abbrev Cx.fs (X:Cx):List Addr:=frs X.outer
noncomputable def Vis (sc:Scope)(x:Str):Prop:=sc.names.lookup x=some .local\/sc.names.lookup x=some .cell\/sc.names.lookup x=some .free
noncomputable def Loc (sc:Scope)(x:Str):Prop:=sc.names.lookup x=some .local\/sc.names.lookup x=some .cell
noncomputable def Look (env:Env)(h:Heap)(m:Str->Option Value)(x:Str)(u:Value):Prop :=
 (env.kindOf x=some .local/\m x=some u)\/((env.kindOf x=some .cell\/env.kindOf x=some .free)/\∃c,env.cells.lookup x=some c/\h.IsCell c (some u))
structure Cx.Ok (X:Cx):Prop where
 mod:Mod X.K X.mg X.base
 kind:X.env.scope.kind=.function
 glob:X.env.globals=AE
 blt:X.env.builtins=builtinsNs
 above:X.s₀.heap.objs.size<=X.env.locals
 inj:∀x y c,X.env.cells.lookup x=some c->X.env.cells.lookup y=some c->x=y
 has:∀x,(X.env.kindOf x=some .cell\/X.env.kindOf x=some .free)->∃c,X.env.cells.lookup x=some c
 cab:∀x c,X.fn x=true->X.env.cells.lookup x=some c->X.s₀.heap.objs.size<=c
 hd:X.calm=true->X.A.handled=none
 frames:X.A.frames=some X.stack
 stk:X.stack=X.outer\/(X.stack=X.env::X.outer/\X.env.frame=some X.env.locals)
 exf:∀b∈X.ex,b≠X.env.locals/\∀x c,X.env.cells.lookup x=some c->c≠b
 bs:∀b o,X.base.get? b=some o->X.s₀.heap.get? b=some o/\X.H₀ b=none
 bsz:X.base.objs.size<=X.s₀.heap.objs.size
 noex:∀b o,X.base.get? b=some o->b∉X.ex
 exfs:∀b∈X.ex,b∉X.fs
 funs:X.s₀.heap.FunFrames X.base X.outer
 frf:∀b∈X.fs,X.H₀ b=none
structure Inv (X:Cx)(pins:List (Addr×Obj))(σ:List (Option V))(H:Hp)(s:Aj):Prop where
 ok:X.Ok
 os:s.os=X.s₀.os
 bare:En s.gens
 base:Un X.fs X.ex X.H₀ H X.s₀.heap s.heap
 loc:∃m,s.heap.Ns X.env.locals m/\∀(i:Nat)(x:Str)(v:V),X.N[i]?=some x->σ[i]?=some (some v)->Vis X.env.scope x->∃u,RelV v u/\Look X.env s.heap m x u
 cell:∀x c,X.env.cells.lookup x=some c->∃v,s.heap.IsCell c v
 free:H X.env.locals=none
 freeC:∀x c,X.env.cells.lookup x=some c->H c=none
 pin:∀p∈X.pn++pins,s.heap.get? p.1=some p.2/\H p.1=none/\p.1≠X.env.locals/\p.1∉X.fs/\∀v,p.2.data ≠ .cell v
 hok:HOk X.prog X.w H s.heap
 len:σ.length=X.N.length
section
variable {X:Cx}{pins:List (Addr×Obj)}{σ:List (Option V)}{H H':Hp}{s:Aj}{h':Heap}
theorem Cx.Ok.nofr (ok:X.Ok){b:Addr}{o:Obj}(e:X.base.get? b=some o):b∉X.fs:=λhb=>by
 have:=(ok.funs.mem hb).1
 rw[e]at this;cases this
theorem Inv.bs (I:Inv X pins σ H s):∀b o,X.base.get? b=some o->s.heap.get? b=some o/\H b=none:=λb o e =>
 ⟨I.base.keep b o (I.ok.bs b o e).1 (I.ok.bs b o e).2 (I.ok.nofr e) (I.ok.noex b o e),I.base.free b o (I.ok.bs b o e).1 (I.ok.bs b o e).2 (I.ok.noex b o e)⟩
theorem Inv.bk (I:Inv X pins σ H s):∀b o,X.base.get? b=some o->s.heap.get? b=some o:=λb o e=>(I.bs b o e).1
theorem Inv.mod (I:Inv X pins σ H s):Mod X.K X.mg X.base:=I.ok.mod
theorem Inv.kIn (I:Inv X pins σ H s):X.K.In s.heap:=I.ok.mod.kin.keeps I.bk
theorem Inv.lt (I:Inv X pins σ H s):X.env.locals<s.heap.objs.size:=let ⟨_,hn,_⟩:=I.loc;hn.lt
theorem Inv.sz (I:Inv X pins σ H s):X.s₀.heap.objs.size<=s.heap.objs.size:=A0 I.ok.above (DE I.lt)
theorem Inv.nofs (I:Inv X pins σ H s){a:Addr}(h:s.heap.objs.size<=a):a∉X.fs:=λhb=>by
 obtain⟨_,o,ho,_⟩:=I.ok.funs.mem hb
 exact absurd (AG (A7 ho) (A0 I.sz h)) (Cf _)
theorem Inv.cne (I:Inv X pins σ H s):∀x c,X.env.cells.lookup x=some c->c≠X.env.locals:=λx c e z=>by
 obtain⟨v,o,ho,hd⟩:=I.cell x c e
 obtain⟨m,⟨o',es,ep,ho',hd',_⟩,_⟩:=I.loc
 rw[z,ho']at ho;cases ho;rw[hd']at hd;cases hd
theorem Inv.funs (I:Inv X pins σ H s):s.heap.FunFrames X.base X.outer:=by
 have all:∀(l:List Env),(∀b∈frs l,b∈X.fs)->X.s₀.heap.FunFrames X.base l->s.heap.FunFrames X.base l:=by
  intro l
  induction l with
  |nil=>intro _ _;trivial
  |cons env r ih =>
   intro hs hl
   obtain⟨hk,⟨L,o,hf,hn,ho,hd⟩,hr⟩:=hl
   have hL:L∈X.fs:=hs L (by unfold frs;rw[C0,hf];exact Am)
   obtain⟨sl,e⟩:=I.base.slot L o ho (I.ok.frf L hL) hL λz=>I.ok.exfs L z hL
   exact⟨hk,⟨L,_,hf,hn,e,hd⟩,ih (λb hb=>hs b (by unfold frs;rw[C0,hf];exact Ar _ hb)) hr⟩
 exact all X.outer (λ_ hb=>hb) I.ok.funs
theorem Inv.stack (I:Inv X pins σ H s):s.heap.FunFrames X.base X.stack:=by
 rcases I.ok.stk with e|⟨e,hf⟩
 .rw[e];exact I.funs
 .rw[e]
  obtain⟨m,hn,_⟩:=I.loc
  refine .cons (by rw[I.ok.kind];decide) hf hn ?_ I.funs
  exact Heap.get?_none_of_le (A0 I.ok.bsz I.ok.above)
theorem Inv.stkSub (I:Inv X pins σ H s):∀b∈frs X.stack,b∈X.env.locals::X.fs:=λb hb=>by
 rcases I.ok.stk with e|⟨e,hf⟩
 .rw[e]at hb;exact Ar _ hb
 .rw[e]at hb
  unfold frs at hb
  rw[C0,hf]at hb
  exact hb
theorem Inv.stkFree (I:Inv X pins σ H s):∀b∈frs X.stack,H b=none:=λb hb=>by
 rcases An.mp (I.stkSub b hb) with e|hb
 .rw[e];exact I.free
 .obtain⟨_,o,ho,_⟩:=I.ok.funs.mem hb
  exact I.base.free b o ho (I.ok.frf b hb) λz=>I.ok.exfs b z hb
theorem Inv.step {g':Array GenState}{t':Nat}{d':Drawn}{ch:List Addr}(I:Inv X pins σ H s)
  (hch:∀b∈ch,(b∈X.ex\/X.s₀.heap.objs.size<=b)/\b≠X.env.locals/\(∀x c,X.env.cells.lookup x=some c->c≠b)/\∀p∈X.pn++pins,p.1≠b)
  (keep:∀b o,b≠X.env.locals->b∉X.fs->b∉ch->s.heap.get? b=some o->H b=none->h'.get? b=some o)
  (slot:∀b o,b≠X.env.locals->b∈X.fs->b∉ch->s.heap.get? b=some o->H b=none->∃sl,h'.get? b=some { o with slots:=sl }) (free:∀b o,b∉ch->s.heap.get? b=some o->H b=none->H' b=none)
  (there:∀b o,b∉ch->s.heap.get? b=some o->∃o',h'.get? b=some o')
  (tups:∀b xs,H b=some (.tup xs)->H' b=some (.tup xs)) (frzs:∀b o u,H b=some (.frz o u)->H' b=some (.frz o u)) (tbls:∀b ps,H b=some (.tbl ps)->∃qcd,H' b=some (.tbl (ps++qcd)))
  (ns:∀m,s.heap.Ns X.env.locals m->h'.Ns X.env.locals m) (hok:HOk X.prog X.w H' h') (hg:En g') :
  Inv X pins σ H' { s with heap:=h',gens:=g',drawn:=d',toks:=t' }:=by
 have neL:∀b o,X.s₀.heap.get? b=some o->b≠X.env.locals:=λb o e=>AR (AG (A7 e) I.ok.above)
 have neC:∀b o,X.s₀.heap.get? b=some o->b∉X.ex->b∉ch:=λb o e hx hb=>by
  rcases (hch b hb).1 with z|z
  .exact hx z
  .exact absurd (AG (A7 e) z) (Cf _)
 have cellK:∀x c,X.env.cells.lookup x=some c->∀v,s.heap.IsCell c v->h'.IsCell c v:=λx c e v ⟨o,ho,hd⟩=>by
  have nch:c∉ch:=λz=>(hch c z).2.2.1 x c e rfl
  by_cases hc:c∈X.fs
  .obtain⟨sl,q⟩:=slot c o (I.cne x c e) hc nch ho (I.freeC x c e)
   exact⟨_,q,hd⟩
  .exact⟨o,keep c o (I.cne x c e) hc nch ho (I.freeC x c e),hd⟩
 refine⟨I.ok,I.os,hg,⟨λb o e n hb hx=>?_,λb o e n hb hx=>?_,λb o e n hx=>?_,λb o e hx=>?_,λb xs e=>tups b xs (I.base.tups b xs e),λb o xs e=>frzs b o xs (I.base.frzs b o xs e),λb ps e=>?_⟩,?_,λx c e=>?_,?_,λx c e=>?_,λp hp=>?_,hok,I.len⟩
 .exact keep b o (neL b o e) hb (neC b o e hx) (I.base.keep b o e n hb hx) (I.base.free b o e n hx)
 .obtain⟨sl,e1⟩:=I.base.slot b o e n hb hx
  obtain⟨sl',e2⟩:=slot b _ (neL b o e) hb (neC b o e hx) e1 (I.base.free b o e n hx)
  exact⟨sl',e2⟩
 .obtain⟨o',e1⟩:=I.base.there b o e hx
  exact free b o' (neC b o e hx) e1 (I.base.free b o e n hx)
 .obtain⟨o',e1⟩:=I.base.there b o e hx
  exact there b o' (neC b o e hx) e1
 .obtain⟨m1,e1⟩:=I.base.tbls b ps e
  obtain⟨m2,e2⟩:=tbls b _ e1
  exact⟨m1++m2,by rw[e2,Array.append_assoc]⟩
 .obtain⟨m,hn,hl⟩:=I.loc
  refine⟨m,ns m hn,λi x v e1 e2 e3=>?_⟩
  obtain⟨u,r,l⟩:=hl i x v e1 e2 e3
  refine⟨u,r,?_⟩
  rcases l with l|⟨k,c,e,z⟩
  .exact .inl l
  .exact .inr ⟨k,c,e,cellK x c e _ z⟩
 .obtain⟨v,z⟩:=I.cell x c e
  exact⟨v,cellK x c e v z⟩
 .obtain⟨m,⟨o,_,_,ho,_⟩,_⟩:=I.loc
  exact free _ o (λz=>(hch _ z).2.1 rfl) ho I.free
 .obtain⟨v,o,ho,hd⟩:=I.cell x c e
  exact free c o (λz=>(hch c z).2.2.1 x c e rfl) ho (I.freeC x c e)
 .obtain⟨e,n,ne,nf,d⟩:=I.pin p hp
  have nch:p.1∉ch:=λz=>(hch p.1 z).2.2.2 p hp rfl
  exact⟨keep p.1 p.2 ne nf nch e n,free p.1 p.2 nch e n,ne,nf,d⟩
theorem Inv.un {t':Nat}(I:Inv X pins σ H s)(u:Un X.fs [] H H' s.heap h')(hok:HOk X.prog X.w H' h'):Inv X pins σ H' { s with heap:=h',toks:=t' }:=by
 obtain⟨m,⟨o,es,ep,ho,r⟩,_⟩:=id I.loc
 obtain⟨sl,hL⟩:=u.any ho I.free (by simp)
 exact I.step (g':=s.gens) (d':=s.drawn) (ch:=[]) (λ_ z=>nomatch z) (λb o _ hb _ e n=>u.keep b o e n hb (by simp)) (λb o _ hb _ e n=>u.slot b o e n hb (by simp)) (λb o _ e n=>u.free b o e n (by simp)) (λb o _ e=>u.there b o e (by simp)) u.tups u.frzs u.tbls (λm' hm=>by
  obtain⟨o',es',ep',ho',r'⟩:=hm
  rw[ho]at ho';cases ho'
  exact⟨_,es',ep',hL,r'⟩) hok I.bare
theorem Inv.call {g':Array GenState}{t':Nat}{d':Drawn}{ch:List Addr}(I:Inv X pins σ H s)(u:Un (frs X.stack) ch H H' s.heap h')(hok:HOk X.prog X.w H' h')(hg:En g')
  (hch:∀b∈ch,(b∈X.ex\/X.s₀.heap.objs.size<=b)/\b≠X.env.locals/\(∀x c,X.env.cells.lookup x=some c->c≠b)/\∀p∈X.pn++pins,p.1≠b) :
  Inv X pins σ H' { s with heap:=h',gens:=g',drawn:=d',toks:=t' }:=by
 obtain⟨m,⟨o,es,ep,ho,r⟩,_⟩:=id I.loc
 obtain⟨sl,hL⟩:=u.any ho I.free λz=>(hch _ z).2.1 rfl
 exact I.step (ch:=ch) hch (λb o hL hb hc e n=>u.keep b o e n (λz=>(An.mp (I.stkSub b z)).elim hL hb) hc) (λb o _ _ hc e n=>u.any e n hc) (λb o hc e n=>u.free b o e n hc) (λb o hc e=>u.there b o e hc) u.tups u.frzs u.tbls (λm' hm=>by
  obtain⟨o',es',ep',ho',r'⟩:=hm
  rw[ho]at ho';cases ho'
  exact⟨_,es',ep',hL,r'⟩) hok hg
theorem Inv.turned {t':Nat}{it:Addr}(I:Inv X pins σ H s)(k:∀b o,b≠it->s.heap.get? b=some o->h'.get? b=some o)(hn:H it=none)(hL:it≠X.env.locals)
  (h1:it∈X.ex\/X.s₀.heap.objs.size<=it) (h2:∀x c,X.env.cells.lookup x=some c->c≠it) (h3:∀p∈X.pn++pins,p.1≠it):Inv X pins σ H { s with heap:=h',toks:=t' }:=by
 have nit:∀b u,H b=some u->b≠it:=λb u e z=>by rw[z,hn]at e;cases e
 refine I.step (g':=s.gens) (d':=s.drawn) (ch:=[it]) (λb hb=>?_) (λb o _ _ hc e _=>k b o (λz=>hc (by simp[z])) e) (λb o _ _ hc e _=>⟨o.slots,k b o (λz=>hc (by simp[z])) e⟩) (λ_ _ _ _ n=>n)
  (λb o hc e=>⟨o,k b o (λz=>hc (by simp[z])) e⟩) (λ_ _ e=>e) (λ_ _ _ e=>e) (λb ps e=>⟨#[],by rw[e];simp⟩) (λm hm=>?_) (λb u e=>?_) I.bare
 .have e:b=it:=by simpa using hb
  subst e
  exact⟨h1,hL,h2,h3⟩
 .obtain⟨o,es,ep,ho,r⟩:=hm
  exact⟨o,es,ep,k _ o (Bh hL) ho,r⟩
 .refine(I.hok b u e).stay (λc v hc q=>k c v ?_ q) (λ_ q=>q) λ_ _ q=>q
  rcases hc with z|z
  .rw[z];exact nit b u e
  .exact nit c _ z
theorem Inv.tok (I:Inv X pins σ H s)(t:Nat):Inv X pins σ H { s with toks:=t }:=I.un (h':=s.heap) (t':=t) Un.refl I.hok
theorem Inv.kept {t':Nat}(I:Inv X pins σ H s)(k:∀b u,s.heap.get? b=some u->h'.get? b=some u):Inv X pins σ H { s with heap:=h',toks:=t' }:=I.un (Un.kept k) (I.hok.kept k)
theorem Inv.laid {a:Addr}{o:HO}{t':Nat}(I:Inv X pins σ H s)(k:∀b u,s.heap.get? b=some u->h'.get? b=some u)(hp:s.heap.objs.size<=a)(new:ObjOk X.prog X.w (upd H a o) h' a o) :
  Inv X pins σ (upd H a o) { s with heap:=h',toks:=t' }:=I.un (Un.laid k hp (I.hok.fresh hp)) (I.hok.laid k hp new)
theorem Inv.write {x e:Addr}{o:HO}{t':Nat}(I:Inv X pins σ H s)(mu:Mut (H x))(he:e=x\/H e=some (.own x))(k:∀b u,b≠e->s.heap.get? b=some u->h'.get? b=some u)(heo:∃u,h'.get? e=some u)
  (new:ObjOk X.prog X.w (upd H x o) h' x o):Inv X pins σ (upd H x o) { s with heap:=h',toks:=t' }:=I.un (Un.write mu he k heo) (I.hok.write mu he k heo new)
theorem Inv.pins_of {pins':List (Addr×Obj)}(I:Inv X pins σ H s)(h:∀p∈pins',s.heap.get? p.1=some p.2/\H p.1=none/\p.1≠X.env.locals/\p.1∉X.fs/\∀v,p.2.data ≠ .cell v):Inv X pins' σ H s :=
 ⟨I.ok,I.os,I.bare,I.base,I.loc,I.cell,I.free,I.freeC,λp hp=>(Au.mp hp).elim (λz=>I.pin p (AO _ z)) (h p),I.hok,I.len⟩
theorem qkd {N:List Str}(hN:N.Nodup){i j:Nat}{x:Str}(a:N[i]?=some x)(b:N[j]?=some x):i=j:=by
 obtain⟨h1,e1⟩:=Ac.mp a
 obtain⟨h2,e2⟩:=Ac.mp b
 exact(List.getElem_inj hN).mp (e1.trans e2.symm)
theorem qsn {M:Model}{A:Be}{E:Value->Aj->Prop}{i:Nat}{x:Str}{v:V}{u:Value}{Q:Unit->Aj->Prop}(I:Inv X pins σ H s)(hN:X.N.Nodup)(hi:X.N[i]?=some x)(hx:Loc X.env.scope x)(r:RelV v u)
  (h:∀s',Inv X pins (σ.set i (some v)) H s'->(∃a,Cr a s.heap s'.heap/\(a=X.env.locals\/X.env.cells.lookup x=some a))->Q () s') (hf:X.fn x=true\/X.env.scope.names.lookup x=some .local:=by first|exact .inl rfl|exact .inr rfl|assumption):wpAny M A (storeName X.env x u) Q E s:=by
 obtain⟨m,hn,hl⟩:=id I.loc
 have hcls:(X.env.scope.kind == .class || (X.env.scope.kind == .module && X.env.locals != X.env.globals))=false:=by rw[I.ok.kind];rfl
 have hiσ:i<σ.length:=by rw[I.len];exact(Ac.mp hi).1
 have cne:=I.cne
 have tracked:∀{a:Addr}{h':Heap},(∃o,s.heap.get? a=some o/\H a=none)->Cr a s.heap h'->HOk X.prog X.w H h':=λ{a h'} ha hs b ob e=>by
  obtain⟨_,_,hfree⟩:=ha
  refine(I.hok b ob e).stay (λc w' hc q=>(hs.2 c ?_).trans q) (λ_ q=>q) λ_ _ q=>q
  rintro rfl
  rcases hc with rfl|hc
  .rw[hfree]at e;cases e
  .rw[hfree]at hc;cases hc
 rcases hx with hk|hk
 .refine wpAny_storeName_local hk hn (λh' hn' hs=>?_) hcls
  obtain⟨oL,_,_,hoL,_⟩:=id hn
  refine h _ ⟨I.ok,I.os,I.bare,⟨λb o e n hb hx=>?_,λb o e n hb hx=>?_,I.base.free,λb o e hx=>?_,I.base.tups,I.base.frzs,I.base.tbls⟩,⟨_,hn',λj y v' e1 e2 e3=>?_⟩,λy c e=>?_,I.free,I.freeC,λp hp=>?_,tracked ⟨oL,hoL,I.free⟩ hs,by simpa using I.len⟩ ⟨_,hs,.inl rfl⟩
  .exact(hs.2 b (AR (AG (A7 e) I.ok.above))).trans (I.base.keep b o e n hb hx)
  .obtain⟨sl,e1⟩:=I.base.slot b o e n hb hx
   exact⟨sl,(hs.2 b (AR (AG (A7 e) I.ok.above))).trans e1⟩
  .obtain⟨o',e1⟩:=I.base.there b o e hx
   exact⟨o',(hs.2 b (AR (AG (A7 e) I.ok.above))).trans e1⟩
  .by_cases hj:j=i
   .subst hj
    rw[hi]at e1;cases e1
    rw[Bx hiσ]at e2
    cases e2
    exact⟨u,r,.inl ⟨hk,by simp⟩⟩
   .rw[Ec (Bh hj)]at e2
    obtain⟨u',r',q⟩:=hl j y v' e1 e2 e3
    refine⟨u',r',?_⟩
    rcases q with ⟨k,e⟩|⟨k,c,e,z⟩
    .refine .inl ⟨k,?_⟩
     have:y≠x:=λe=>hj (qkd hN e1 (e ▸ hi))
     simp[this,e]
    .exact .inr ⟨k,c,e,z.sameBut hs (cne y c e)⟩
  .obtain⟨w',z⟩:=I.cell y c e
   exact⟨w',z.sameBut hs (cne y c e)⟩
  .obtain⟨e,n,ne,nf,d⟩:=I.pin p hp
   exact⟨(hs.2 p.1 ne).trans e,n,ne,nf,d⟩
 .have hfn:X.fn x=true:=by
   rcases hf with z|z
   .exact z
   .rw[z]at hk;cases hk
  obtain⟨c,hc⟩:=I.ok.has x (.inl hk)
  obtain⟨w',z⟩:=I.cell x c hc
  refine wpAny_storeName_cell I.ok.kind hk hc z (λh' hc' hs=>?_)
  obtain⟨oc,hoc,hocd⟩:=id z
  refine h { s with heap:=h' } ⟨I.ok,I.os,I.bare,⟨λb o e n hb hx=>?_,λb o e n hb hx=>?_,I.base.free,λb o e hx=>?_,I.base.tups,I.base.frzs,I.base.tbls⟩,⟨m,hn.sameBut hs (Bh (cne x c hc)),λj y v' e1 e2 e3=>?_⟩,λy c' e=>?_,I.free,I.freeC,λp hp=>?_,tracked ⟨oc,hoc,I.freeC x c hc⟩ hs,by simpa using I.len⟩ ⟨c,hs,.inr hc⟩
  .exact(hs.2 b (AR (AG (A7 e) (I.ok.cab x c hfn hc)))).trans (I.base.keep b o e n hb hx)
  .obtain⟨sl,e1⟩:=I.base.slot b o e n hb hx
   exact⟨sl,(hs.2 b (AR (AG (A7 e) (I.ok.cab x c hfn hc)))).trans e1⟩
  .obtain⟨o',e1⟩:=I.base.there b o e hx
   exact⟨o',(hs.2 b (AR (AG (A7 e) (I.ok.cab x c hfn hc)))).trans e1⟩
  .by_cases hj:j=i
   .subst hj
    rw[hi]at e1;cases e1
    rw[Bx hiσ]at e2
    cases e2
    exact⟨u,r,.inr ⟨.inl hk,c,hc,hc'⟩⟩
   .rw[Ec (Bh hj)]at e2
    obtain⟨u',r',q⟩:=hl j y v' e1 e2 e3
    refine⟨u',r',?_⟩
    rcases q with q|⟨k,c',e,z'⟩
    .exact .inl q
    .refine .inr ⟨k,c',e,z'.sameBut hs ?_⟩
     rintro rfl
     exact hj (qkd hN e1 (I.ok.inj _ _ _ e hc ▸ hi))
  .by_cases hcc:c'=c
   .subst hcc;exact⟨_,hc'⟩
   .obtain⟨w2,z2⟩:=I.cell y c' e
    exact⟨w2,z2.sameBut hs hcc⟩
  .obtain⟨e,n,ne,nf,d⟩:=I.pin p hp
   refine⟨(hs.2 p.1 ?_).trans e,n,ne,nf,d⟩
   intro q
   rw[q,hoc]at e
   have q':oc=p.2:=AD e
   exact d w' (by rw[<- q'];exact hocd)
theorem qhu {M:Model}{A:Be}{E:Value->Aj->Prop}{i:Nat}{x:Str}{v:V}{u:Value}{Q:Unit->Aj->Prop}(I:Inv X pins σ H s)(hN:X.N.Nodup)(hi:X.N[i]?=some x)(hx:Loc X.env.scope x)(r:RelV v u)
  (h:∀s',Inv X pins (σ.set i (some v)) H s'->Q () s') (hf:X.fn x=true\/X.env.scope.names.lookup x=some .local:=by first|exact .inl rfl|exact .inr rfl|assumption):wpAny M A (storeName X.env x u) Q E s :=
 qsn I hN hi hx r (λs' I' _=>h s' I') hf
theorem Inv.call' {s':Aj}{ch:List Addr}(I:Inv X pins σ H s)(ho:s'.os=s.os)(u:Un (frs X.stack) ch H H' s.heap s'.heap)(hok:HOk X.prog X.w H' s'.heap)(hg:En s'.gens)
  (hch:∀b∈ch,(b∈X.ex\/X.s₀.heap.objs.size<=b)/\b≠X.env.locals/\(∀x c,X.env.cells.lookup x=some c->c≠b)/\∀p∈X.pn++pins,p.1≠b):Inv X pins σ H' s':=by
 obtain⟨h',g',d',t',o'⟩:=s'
 have e:o'=s.os:=ho
 subst e
 exact I.call (g':=g') (t':=t') (d':=d') u hok hg hch
end
noncomputable abbrev XK:=Value->Option Addr->Hp->Prop
noncomputable abbrev St:=List (Option V)
noncomputable abbrev VK:=V->Hp->Prop
noncomputable abbrev TE:=St->Hp->VK->Prop
noncomputable abbrev TT:=St->Hp->(Bool->Hp->Prop)->Prop
noncomputable abbrev TA:=St->Hp->(List V->Hp->Prop)->Prop
structure Ends where
 nx:St->Hp->Prop
 rt:VK
 bk:St->Hp->Prop:=λ_ _=>False
 ct:St->Hp->Prop:=λ_ _=>False
noncomputable abbrev TS:=Ends->St->Hp->Prop
noncomputable def EP (X:Cx)(pins:List (Addr×Obj))(σ:St)(Q:VK)(u:Value)(s':Aj):Prop:=∃v H',Inv X pins σ H' s'/\RelV v u/\Q v H'
noncomputable def TP (X:Cx)(pins:List (Addr×Obj))(σ:St)(Q:Bool->Hp->Prop)(b:Bool)(s':Aj):Prop:=∃H',Inv X pins σ H' s'/\Q b H'
noncomputable def AP (X:Cx)(pins:List (Addr×Obj))(σ:St)(Q:List V->Hp->Prop)(us:List Value)(s':Aj):Prop:=∃vs H',Inv X pins σ H' s'/\Vals vs us/\Q vs H'
noncomputable def SP (X:Cx)(pins:List (Addr×Obj))(D:Ends)(f:Flow)(s':Aj):Prop :=
 match f with
 |.next=>∃σ' H',Inv X pins σ' H' s'/\D.nx σ' H'
 |.brk=>∃σ' H',Inv X pins σ' H' s'/\D.bk σ' H'
 |.cont=>∃σ' H',Inv X pins σ' H' s'/\D.ct σ' H'
 |.ret u=>∃v σ' H',Inv X pins σ' H' s'/\RelV v u/\D.rt v H'
noncomputable def PE (X:Cx)(e:Expr)(t:TE):Prop :=
 ∀(pins:List (Addr×Obj))(s:Aj)(σ:St)(H:Hp)(Q:VK),Inv X pins σ H s->t σ H Q->wpAny (model X.prog X.w) X.A (eval e X.env) (EP X pins σ Q) X.xe s
noncomputable def PT (X:Cx)(e:Expr)(t:TT):Prop :=
 ∀(pins:List (Addr×Obj))(s:Aj)(σ:St)(H:Hp)(Q:Bool->Hp->Prop),Inv X pins σ H s->t σ H Q->wpAny (model X.prog X.w) X.A (isTrue e X.env (eval e X.env)) (TP X pins σ Q) X.xe s
noncomputable def PW (X:Cx)(e:Expr)(t:TT):Prop :=
 ∀(whole:Sem Value)(pins:List (Addr×Obj))(s:Aj)(σ:St)(H:Hp)(Q:Bool->Hp->Prop),Inv X pins σ H s->t σ H Q->wpAny (model X.prog X.w) X.A (isTrue e X.env whole) (TP X pins σ Q) X.xe s
theorem PW.pt {X:Cx}{e:Expr}{t:TT}(h:PW X e t):PT X e t:=h _
noncomputable def PA (X:Cx)(es:List Expr)(t:TA):Prop :=
 ∀(pos:Pos)(pins:List (Addr×Obj))(s:Aj)(σ:St)(H:Hp)(Q:List V->Hp->Prop),Inv X pins σ H s->t σ H Q->wpAny (model X.prog X.w) X.A (spliced (backTo pos (starEach es X.env))) (AP X pins σ Q) X.xe s
noncomputable def PS (X:Cx)(st:Stmt)(t:TS):Prop :=
 ∀(pins:List (Addr×Obj))(s:Aj)(σ:St)(H:Hp)(D:Ends),Inv X pins σ H s->t D σ H->wpAny (model X.prog X.w) X.A (exec st X.env) (SP X pins D) X.xe s
noncomputable def PSs (X:Cx)(st:List Stmt)(t:TS):Prop :=
 ∀(pins:List (Addr×Obj))(s:Aj)(σ:St)(H:Hp)(D:Ends),Inv X pins σ H s->t D σ H->wpAny (model X.prog X.w) X.A (execs st X.env) (SP X pins D) X.xe s
theorem thn {α:Type}{t:Sem α}{Q Q':α->Aj->Prop}{M:Model}{A:Be}{E:Value->Aj->Prop}{s:Aj}(h:wpAny M A t Q E s)(hQ:∀a s,Q a s->Q' a s):wpAny M A t Q' E s:=BR h hQ λ_ _ x=>x
end L2
namespace L2
open PySem PySem.Spec PyProof.Rows
section
variable {X:Cx}
noncomputable def tVar (i:Nat):TE:=λσ H Q=>∃v,σ[i]?=some (some v)/\Q v H
noncomputable def tC (v:V):TE:=λ_ H Q=>Q v H
theorem pe_var {i:Nat}{x:Str}{pos:Pos}(hN:X.N[i]?=some x)(hv:Vis X.env.scope x)(hd:(x == ("__debug__" : Str))=false:=by decide)(hcd:(x == ("__classdict__" : Str))=false:=by decide):PE X (.Name x pos) (tVar i):=by
 intro pins s σ H Q I h
 obtain⟨v,e,h⟩:=h
 obtain⟨m,hn,hl⟩:=I.loc
 obtain⟨u,r,l⟩:=hl i x v hN e hv
 have fin:EP X pins σ Q u s:=⟨v,H,I,r,h⟩
 rcases l with ⟨hk,hm⟩|⟨hk,c,hc,hcell⟩
 .exact wpAny_Name (wpAny_loadName_local I.ok.kind hk hn hm fin) hd
 .rcases hk with hk|hk
  .exact wpAny_Name (wpAny_loadName_cell I.ok.kind hk hc hcell fin) hd
  .exact wpAny_Name (wpAny_loadName_free I.ok.kind hk hc hcell fin hcd) hd
theorem zb {i j pos}:PE X (.Constant (.int i) j pos) (tC (.int i)):=λ_ _ _ H _ I h=>wpAny_Constant_int ⟨.int i,H,I.tok _,⟨_,rfl⟩,h⟩
theorem qfx {b j pos}:PE X (.Constant (.bool b) j pos) (tC (.bl b)):=λ_ _ _ H _ I h=>Constant_bool ⟨.bl b,H,I,rfl,h⟩
theorem qbt {j pos}:PE X (.Constant .none j pos) (tC .non):=λ_ _ _ H _ I h=>Constant_none ⟨.non,H,I,rfl,h⟩
theorem zt {x j pos}:PE X (.Constant (.str x) j pos) (tC (.str x)):=λ_ _ _ H _ I h=>Calls.Constant_str ⟨.str x,H,I.tok _,⟨_,rfl⟩,h⟩
noncomputable def Gl (X:Cx)(x:Str):Prop:=X.env.kindOf x=some .globalImplicit
theorem qe1 {E:Value->Aj->Prop}{pins:List (Addr×Obj)}{s:Aj}{σ:St}{H:Hp}{x:Str}{u:Value}{pos:Pos}{Q:Value->Aj->Prop}(I:Inv X pins σ H s)(hg:Gl X x)(hm:X.mg x=some u)(h:Q u s)
  (hd:(x == ("__debug__" : Str))=false:=by decide):wpAny (model X.prog X.w) X.A (eval (.Name x pos) X.env) Q E s :=
 Calls.Name_function_global I.ok.kind hg (Calls.loadGlobal_global (by rw[I.ok.glob];exact I.mod.glob.keeps I.bk) hm h) hd
theorem qfl {E:Value->Aj->Prop}{pins:List (Addr×Obj)}{s:Aj}{σ:St}{H:Hp}{x:Str}{u:Value}{pos:Pos}{Q:Value->Aj->Prop}(I:Inv X pins σ H s)(hg:Gl X x)(hm:X.mg x=none)(hv:bootBuiltins x=some u)(h:Q u s)
  (hn:x ≠ "__name__" := by decide) (hd:(x == ("__debug__" : Str))=false:=by decide):wpAny (model X.prog X.w) X.A (eval (.Name x pos) X.env) Q E s:=by
 obtain⟨mb,h1,h2⟩:=I.mod.blt
 exact Calls.Name_function_global I.ok.kind hg (Calls.loadGlobal_builtin (by rw[I.ok.glob];exact I.mod.glob.keeps I.bk) hm (by rw[I.ok.blt];exact h1.keeps I.bk) ((h2 x hn).trans hv) h) hd
theorem qbn {x:Str}{v:V}{u:Value}{pos:Pos}(hg:Gl X x)(hm:X.mg x=some u)(r:RelV v u)(hd:(x == ("__debug__" : Str))=false:=by decide):PE X (.Name x pos) (tC v) :=
 λ_ _ _ H _ I h=>qe1 I hg hm ⟨v,H,I,r,h⟩ hd
theorem qd1 {x:Str}{v:V}{u:Value}{pos:Pos}(hg:Gl X x)(hm:X.mg x=none)(hv:bootBuiltins x=some u)(r:RelV v u)(hn:x ≠ "__name__" := by decide)(hd:(x == ("__debug__" : Str))=false:=by decide):PE X (.Name x pos) (tC v) :=
 λ_ _ _ H _ I h=>qfl I hg hm hv ⟨v,H,I,r,h⟩ hn hd
variable {a b:Expr}{ta tb:TE}{pos:Pos}
noncomputable def PC (X:Cx)(op:CmpOp)(a b:Expr)(t:TE):Prop :=
 ∀(pins:List (Addr×Obj))(s:Aj)(σ:St)(H:Hp)(Q:VK),Inv X pins σ H s->t σ H Q ->
  wpAny (model X.prog X.w) X.A (eval a X.env) (λv s₁=>wpAny (model X.prog X.w) X.A (eval b X.env) (λu s₂=>wpAny (model X.prog X.w) X.A (compareOp op v u) (EP X pins σ Q) X.xe s₂) X.xe s₁) X.xe s
noncomputable def tB (t:TE):TT:=λσ H Q=>t σ H λx H1=>∃c,x=.bl c/\Q c H1
theorem qnj {op:CmpOp}{t:TE}(h:PC X op a b t)(h1:behindInMarks op b=false:=by first|exact nobehind _ Ex Ex|rfl):PT X (.Compare a [op] [b] pos) (tB t):=by
 intro pins s σ H Q I hw
 refine wpAny_isTrue_Compare1 (thn (h pins s σ H _ I hw) λv s1 h1=>thn h1 λu s2 h2=>thn h2 λc s3 hh9=>?_) h1
 obtain⟨x,H1,I1,r1,q1⟩:=hh9
 obtain⟨d,rfl,q⟩:=q1
 cases r1
 exact BE ⟨H1,I1,q⟩
theorem zr {e:Expr}{t:TE}(h:PE X e t)(he:∀whole,isTrue e X.env whole=(do let v <- whole;standAt e.pos;holding [v] (truthy v)):=by intro _;rfl):PT X e (tB t):=by
 intro pins s σ H Q I hw
 refine isTrue_plain (thn (h pins s σ H _ I hw) λv s1 hh9=>?_) (he _)
 obtain⟨x,H1,I1,r1,q1⟩:=hh9
 obtain⟨d,rfl,q⟩:=q1
 cases r1
 exact BE ⟨H1,I1,q⟩
variable {tA tB':TT}{qbm:List Expr}
noncomputable def tAnd (t u:TT):TT:=λσ H Q=>t σ H λc H1=>if c=true then u σ H1 Q else Q false H1
noncomputable def tOr (t u:TT):TT:=λσ H Q=>t σ H λc H1=>if c=true then Q true H1 else u σ H1 Q
noncomputable def tNot (t:TT):TT:=λσ H Q=>t σ H λc H1=>Q (!c) H1
theorem qdi (ha:PT X a tA):PW X (.BoolOp .And [a] pos) tA:=by
 intro wh pins s σ H Q I h
 refine isTrue_and (thn (ha pins s σ H Q I h) λc s1 e=>?_)
 cases c with
 |true=>exact isTrue_and_nil e
 |false=>exact e
theorem qir (ha:PT X a tA):PW X (.BoolOp .Or [a] pos) tA:=by
 intro wh pins s σ H Q I h
 refine isTrue_or (thn (ha pins s σ H Q I h) λc s1 e=>?_)
 cases c with
 |false=>exact isTrue_or_nil e
 |true=>exact e
theorem qdr (ha:PT X a tA)(hb:PW X (.BoolOp .And (b::qbm) pos) tB'):PW X (.BoolOp .And (a::b::qbm) pos) (tAnd tA tB'):=by
 intro wh pins s σ H Q I h
 refine isTrue_and (thn (ha pins s σ H _ I h) λc s1 hh9=>?_)
 obtain⟨H1,I1,q1⟩:=hh9
 cases c with
 |true=>exact hb wh pins s1 σ H1 Q I1 q1
 |false=>exact⟨H1,I1,q1⟩
theorem qji (ha:PT X a tA)(hb:PW X (.BoolOp .Or (b::qbm) pos) tB'):PW X (.BoolOp .Or (a::b::qbm) pos) (tOr tA tB'):=by
 intro wh pins s σ H Q I h
 refine isTrue_or (thn (ha pins s σ H _ I h) λc s1 hh9=>?_)
 obtain⟨H1,I1,q1⟩:=hh9
 cases c with
 |true=>exact⟨H1,I1,q1⟩
 |false=>exact hb wh pins s1 σ H1 Q I1 q1
theorem qis (ha:PT X a tA):PT X (.UnaryOp .Not a pos) (tNot tA):=by
 intro pins s σ H Q I h
 exact isTrue_not (ha pins s σ H (λc H1=>Q (!c) H1) I h)
noncomputable def tAndV (ta tb:TE):TE:=λσ H Q=>ta σ H λx H1=>∃c,x=.bl c/\if c=true then tb σ H1 Q else Q (.bl false) H1
noncomputable def tOrV (ta tb:TE):TE:=λσ H Q=>ta σ H λx H1=>∃c,x=.bl c/\if c=true then Q (.bl true) H1 else tb σ H1 Q
noncomputable def tNotV (ta:TE):TE:=λσ H Q=>ta σ H λx H1=>∃c,x=.bl c/\Q (.bl (!c)) H1
theorem qd7 {op}{t:TE}(h:PE X a t):PE X (.BoolOp op [a] pos) t:=λpins s σ H Q I hw=>BoolOp_one (h pins s σ H Q I hw)
theorem qdk (ha:PE X a ta)(hb:PE X (.BoolOp .And (b::qbm) pos) tb):PE X (.BoolOp .And (a::b::qbm) pos) (tAndV ta tb):=by
 intro pins s σ H Q I h
 refine BoolOp_and (thn (ha pins s σ H _ I h) λv s1 hh9=>?_)
 obtain⟨x,H1,I1,r1,q1⟩:=hh9
 obtain⟨c,rfl,q1⟩:=q1
 cases r1
 refine BE ?_
 cases c with
 |true=>exact hb pins s1 σ H1 Q I1 q1
 |false=>exact⟨.bl false,H1,I1,rfl,q1⟩
theorem qyx (ha:PE X a ta)(hb:PE X (.BoolOp .Or (b::qbm) pos) tb):PE X (.BoolOp .Or (a::b::qbm) pos) (tOrV ta tb):=by
 intro pins s σ H Q I h
 refine BoolOp_or (thn (ha pins s σ H _ I h) λv s1 hh9=>?_)
 obtain⟨x,H1,I1,r1,q1⟩:=hh9
 obtain⟨c,rfl,q1⟩:=q1
 cases r1
 refine BE ?_
 cases c with
 |false=>exact hb pins s1 σ H1 Q I1 q1
 |true=>exact⟨.bl true,H1,I1,rfl,q1⟩
theorem qke (ha:PE X a ta):PE X (.UnaryOp .Not a pos) (tNotV ta):=by
 intro pins s σ H Q I h
 refine UnaryOp_ (thn (ha pins s σ H _ I h) λv s1 hh9=>?_)
 obtain⟨x,H1,I1,r1,q1⟩:=hh9
 obtain⟨c,rfl,q1⟩:=q1
 cases r1
 exact not_of (BE ⟨.bl (!c),H1,I1,rfl,q1⟩)
noncomputable def tIf (t:TT)(ta tb:TE):TE:=λσ H Q=>t σ H λc H1=>if c=true then ta σ H1 Q else tb σ H1 Q
theorem qd3 {c:Expr}(hc:PT X c tA)(ha:PE X a ta)(hb:PE X b tb):PE X (.IfExp c a b pos) (tIf tA ta tb):=by
 intro pins s σ H Q I h
 refine wpAny_IfExp (thn (hc pins s σ H _ I h) λd s1 hh9=>?_)
 obtain⟨H1,I1,q1⟩:=hh9
 cases d with
 |true=>exact ha pins s1 σ H1 Q I1 q1
 |false=>exact hb pins s1 σ H1 Q I1 q1
end
end L2
namespace L2
open PySem PySem.Spec PyProof.Rows
noncomputable def SqL (K:Ag)(H:Hp)(a:Addr)(xs:List V):Prop :=
 Rd H a (.lst xs) \/
  ∃(o:Obj)(its:Array Value)(n:Nat),K.lookup a=some o/\o.cls=.type "list" /\ o.dict=none/\o.data=.seq its n/\its.size<=A5/\Vals xs its.toList
noncomputable def SqT (K:Ag)(H:Hp)(a:Addr)(xs:List V):Prop :=
 Rd H a (.tup xs) \/
  ∃(o:Obj)(its:Array Value)(n:Nat),K.lookup a=some o/\o.cls=.type "tuple" /\ o.data=.seq its n/\its.size<=A5/\Vals xs its.toList
noncomputable def absV:Value->Option V
 |.none=>some .non
 |.bool b=>some (.bl b)
 |.int i _=>some (.int i)
 |.str x _=>some (.str x)
 |.bytes b _=>some (.byt b)
 |.float b _=>some (.flt b)
 |.ref a=>some (.ref a)
 |.type n=>some (.ty n)
 |_=>none
theorem RelV.abs {x:V}{u:Value}(r:RelV x u):absV u=some x:=by
 cases x with
 |non=>cases r;rfl
 |bl _=>cases r;rfl
 |int _=>obtain⟨t,rfl⟩:=r;rfl
 |str _=>obtain⟨t,rfl⟩:=r;rfl
 |byt _=>obtain⟨t,rfl⟩:=r;rfl
 |flt _=>obtain⟨t,rfl⟩:=r;rfl
 |ref _=>cases r;rfl
 |ty _=>cases r;rfl
theorem RelV.inj {x y:V}{u:Value}(r:RelV x u)(q:RelV y u):x=y:=AD (r.abs.symm.trans q.abs)
theorem Vals.inj:∀{xs ys:List V}{us:List Value},Vals xs us->Vals ys us->xs=ys
 |_,_,_,.nil,.nil=>rfl
 |_,_,_,.cons r t,.cons r' t'=>by rw[r.inj r',Vals.inj t t']
section
variable {X:Cx}{pins:List (Addr×Obj)}{σ:St}{H:Hp}{s:Aj}{a:Addr}{xs ys:List V}
theorem SqL.of {K:Ag}(h:H a=some (.lst xs)):SqL K H a xs:=.inl (.inl h)
theorem SqT.of {K:Ag}(h:H a=some (.tup xs)):SqT K H a xs:=.inl (.inl h)
theorem Inv.list (I:Inv X pins σ H s)(h:SqL X.K H a xs):∃its:List Value,Vals xs its/\PlainL s.heap a its.toArray/\xs.length<=A5:=by
 rcases h with h|⟨o,its,n,hk,hc,hd,hs,hz,r⟩
 .obtain⟨z,its,n,r,e⟩:=h.ok I.hok
  exact⟨its,r,⟨_,n,e,rfl,rfl,rfl⟩,z⟩
 .refine⟨its.toList,r,⟨o,n,I.kIn a o hk,hc,hd,by simpa using hs⟩,?_⟩
  have e:=r.length
  simp only[AQ]at e
  lia
theorem Inv.tuple (I:Inv X pins σ H s)(h:SqT X.K H a xs):∃its:List Value,Vals xs its/\IsTup s.heap a its.toArray/\xs.length<=A5:=by
 rcases h with h|⟨o,its,n,hk,hc,hs,hz,r⟩
 .obtain⟨z,its,r,p⟩:=h.ok I.hok
  exact⟨its,r,p,z⟩
 .refine⟨its.toList,r,⟨o,I.kIn a o hk,hc,n,by simpa using hs⟩,?_⟩
  have e:=r.length
  simp only[AQ]at e
  lia
theorem Inv.list_inj (I:Inv X pins σ H s)(h:SqL X.K H a xs)(h':SqL X.K H a ys):xs=ys:=by
 obtain⟨its,r,⟨o,n,e,_,_,d⟩,_⟩:=I.list h
 obtain⟨its',r',⟨o',n',e',_,_,d'⟩,_⟩:=I.list h'
 rw[e]at e';cases e'
 rw[d]at d'
 injection d' with d1 _
 have:its=its':=by simpa using congrArg Array.toList d1
 subst this
 exact r.inj r'
theorem Inv.tuple_inj (I:Inv X pins σ H s)(h:SqT X.K H a xs)(h':SqT X.K H a ys):xs=ys:=by
 obtain⟨its,r,⟨o,e,_,n,d⟩,_⟩:=I.tuple h
 obtain⟨its',r',⟨o',e',_,n',d'⟩,_⟩:=I.tuple h'
 rw[e]at e';cases e'
 rw[d]at d'
 injection d' with d1 _
 have:its=its':=by simpa using congrArg Array.toList d1
 subst this
 exact r.inj r'
end
noncomputable abbrev Cx.wish (X:Cx)(E:Value->Aj->Prop):Cx:={ X with xe:=E }
noncomputable abbrev Cx.nox (X:Cx):Cx:=X.wish λ_ _=>False
theorem Cx.Ok.wish {X:Cx}(ok:X.Ok)(E:Value->Aj->Prop):(X.wish E).Ok :=
 ⟨ok.mod,ok.kind,ok.glob,ok.blt,ok.above,ok.inj,ok.has,ok.cab,ok.hd,ok.frames,ok.stk,ok.exf,ok.bs,ok.bsz,ok.noex,ok.exfs,ok.funs,ok.frf⟩
theorem Cx.Ok.unwish {X:Cx}{E:Value->Aj->Prop}(ok:(X.wish E).Ok):X.Ok :=
 ⟨ok.mod,ok.kind,ok.glob,ok.blt,ok.above,ok.inj,ok.has,ok.cab,ok.hd,ok.frames,ok.stk,ok.exf,ok.bs,ok.bsz,ok.noex,ok.exfs,ok.funs,ok.frf⟩
section
variable {X:Cx}{pins:List (Addr×Obj)}{σ:St}{H:Hp}{s:Aj}{E:Value->Aj->Prop}
theorem Inv.wish (I:Inv X pins σ H s)(E:Value->Aj->Prop):Inv (X.wish E) pins σ H s:=⟨I.ok.wish E,I.os,I.bare,I.base,I.loc,I.cell,I.free,I.freeC,I.pin,I.hok,I.len⟩
theorem Inv.unwish (I:Inv (X.wish E) pins σ H s):Inv X pins σ H s:=⟨I.ok.unwish,I.os,I.bare,I.base,I.loc,I.cell,I.free,I.freeC,I.pin,I.hok,I.len⟩
theorem SP.unwish {D:Ends}{f:Flow}{s':Aj}(h:SP (X.wish E) pins D f s'):SP X pins D f s':=by
 cases f with
 |next=>obtain⟨σ',H',I,q⟩:=h;exact⟨σ',H',I.unwish,q⟩
 |brk=>obtain⟨σ',H',I,q⟩:=h;exact⟨σ',H',I.unwish,q⟩
 |cont=>obtain⟨σ',H',I,q⟩:=h;exact⟨σ',H',I.unwish,q⟩
 |ret u=>obtain⟨v,σ',H',I,r,q⟩:=h;exact⟨v,σ',H',I.unwish,r,q⟩
theorem PSs.nox {st:List Stmt}{t:TS}(h:PSs X.nox st t):PSs X st t:=λpins s σ H D I hw =>
 BR (h pins s σ H D (I.wish _) hw) (λ_ _ q=>q.unwish) λ_ _ z=>B4 z
end
section
variable {X:Cx}{st:Stmt}{qbm:List Stmt}{t u:TS}{e:Expr}{te:TE}{pos:Pos}
noncomputable def qua:TS:=λD σ H=>D.nx σ H
noncomputable def tSeq (t u:TS):TS:=λD σ H=>t { D with nx:=u D } σ H
theorem qai:PSs X [] qua:=λ_ _ σ H _ I h=>D5 ⟨σ,H,I,h⟩
theorem qu (h1:PS X st t)(h2:PSs X qbm u):PSs X (st::qbm) (tSeq t u):=by
 intro pins s σ H D I h
 refine wpAny_execs_cons (thn (h1 pins s σ H { D with nx:=u D } I h) λf s1 q=>?_)
 cases f with
 |next =>
  obtain⟨σ',H',I',q⟩:=q
  exact h2 pins s1 σ' H' D I' q
 |ret v=>exact q
 |brk=>exact q
 |cont=>exact q
theorem zc (h1:PS X st t):PSs X [st] t:=by
 intro pins s σ H D I h
 refine wpAny_execs_cons (thn (h1 pins s σ H D I h) λf s1 q=>?_)
 cases f with
 |next=>exact D5 q
 |ret v=>exact q
 |brk=>exact q
 |cont=>exact q
theorem Inv.quiet {pins:List (Addr×Obj)}{σ:St}{H:Hp}{s:Aj}(I:Inv X pins σ H s):interactive X.env=false:=by simp[interactive,I.ok.kind]
noncomputable def tDrop (te:TE):TS:=λD σ H=>te σ H λ_ H1=>D.nx σ H1
theorem zn (he:PE X e te)(hs:swapsWith e none pos.line X.env=pure false:=by rfl):PS X (.Expr e pos) (tDrop te):=by
 intro pins s σ H D I h
 exact wpAny_Expr_any (thn (he pins s σ H _ I h) λv s1 ⟨x,H1,I1,r1,q1⟩=>⟨σ,H1,I1,q1⟩) I.quiet hs
noncomputable def tRet (te:TE):TS:=λD σ H=>te σ H D.rt
theorem zf (he:PE X e te):PS X (.Return (some e) pos) (tRet te):=by
 intro pins s σ H D I h
 exact wpAny_Return_some (thn (he pins s σ H _ I h) λv s1 ⟨x,H1,I1,r1,q1⟩=>⟨x,σ,H1,I1,r1,q1⟩)
noncomputable def tIfS (c:TT)(t u:TS):TS:=λD σ H=>c σ H λb H1=>if b=true then t D σ H1 else u D σ H1
theorem zo {c:Expr}{a b:List Stmt}{tc:TT}(hc:PT X c tc)(ha:PSs X a t)(hb:PSs X b u):PS X (.If c a b pos) (tIfS tc t u):=by
 intro pins s σ H D I h
 refine wpAny_If (thn (hc pins s σ H _ I h) λd s1 hh9=>?_)
 obtain⟨H1,I1,q1⟩:=hh9
 cases d with
 |true=>exact ha pins s1 σ H1 D I1 q1
 |false=>exact hb pins s1 σ H1 D I1 q1
end
noncomputable abbrev TG:=V->St->Hp->(St->Hp->Prop)->Prop
noncomputable abbrev TGs:=List V->St->Hp->(St->Hp->Prop)->Prop
noncomputable def PG (X:Cx)(target:Expr)(t:TG):Prop :=
 ∀(pins:List (Addr×Obj))(s:Aj)(σ:St)(H:Hp)(v:V)(u:Value)(Q:St->Hp->Prop),Inv X pins σ H s->RelV v u->t v σ H Q ->
  wpAny (model X.prog X.w) X.A (assign target X.env u) (λ_ s'=>∃σ' H',Inv X pins σ' H' s'/\Q σ' H') X.xe s
noncomputable def PGs (X:Cx)(ts:List Expr)(t:TGs):Prop :=
 ∀(pins:List (Addr×Obj))(s:Aj)(σ:St)(H:Hp)(vs:List V)(us:List Value)(Q:St->Hp->Prop),Inv X pins σ H s->Vals vs us->t vs σ H Q ->
  wpAny (model X.prog X.w) X.A (assignInOrder ((assignEach ts X.env).map (·.2)) us) (λ_ s'=>∃σ' H',Inv X pins σ' H' s'/\Q σ' H') X.xe s
noncomputable abbrev TSet:=V->V->V->Hp->(Hp->Prop)->Prop
noncomputable def PSet (X:Cx)(t:TSet):Prop :=
 ∀(pins:List (Addr×Obj))(s:Aj)(σ:St)(H:Hp)(o i v:V)(ov iv u:Value)(Q:Hp->Prop),Inv X pins σ H s->RelV o ov->RelV i iv->RelV v u->t o i v H Q ->
  wpAny (model X.prog X.w) X.A (setItem ov iv u) (λ_ s'=>∃H',Inv X pins σ H' s'/\Q H') X.xe s
noncomputable abbrev TIp:=V->V->Hp->VK->Prop
noncomputable def PIp (X:Cx)(op:Operator)(t:TIp):Prop :=
 ∀(pins:List (Addr×Obj))(s:Aj)(σ:St)(H:Hp)(x y:V)(v u:Value)(Q:VK),Inv X pins σ H s->RelV x v->RelV y u->t x y H Q ->
  wpAny (model X.prog X.w) X.A (inplaceOp op v u) (EP X pins σ Q) X.xe s
section
variable {X:Cx}{pos:Pos}
noncomputable def qme (i:Nat):TG:=λv σ H Q=>Q (σ.set i (some v)) H
theorem qam {i:Nat}{x:Str}(hN:X.N.Nodup)(hi:X.N[i]?=some x)(hx:Loc X.env.scope x)(hf:X.fn x=true\/X.env.scope.names.lookup x=some .local:=by first|exact .inl rfl|exact .inr rfl|assumption):PG X (.Name x pos) (qme i):=by
 intro pins s σ H v u Q I r h
 exact wpAny_assign_Name (qhu I hN hi hx r (λs' I'=>⟨_,H,I',h⟩) hf)
noncomputable def gNil:TGs:=λvs σ H Q=>vs=[]/\Q σ H
noncomputable def gCons (t:TG)(u:TGs):TGs:=λvs σ H Q=>∃v r,vs=v::r/\t v σ H λσ' H'=>u r σ' H' Q
theorem qe2:PGs X [] gNil:=by
 intro pins s σ H vs us Q I r h
 obtain⟨e,h⟩:=h
 subst e
 cases r
 exact assignInOrder_nil ⟨σ,H,I,h⟩
theorem qa8 {e:Expr}{es:List Expr}{t:TG}{u:TGs}(h1:PG X e t)(h2:PGs X es u)
  (hs:(assignEach (e::es) X.env).map (·.2)=assign e X.env::(assignEach es X.env).map (·.2):=by rfl):PGs X (e::es) (gCons t u):=by
 intro pins s σ H vs us Q I r h
 obtain⟨v,vr,e1,h⟩:=h
 subst e1
 cases r with
 |cons r rr =>
  rw[hs]
  refine assignInOrder_cons (thn (h1 pins s σ H _ _ _ I r h) λ_ s1 hh9=>?_)
  obtain⟨σ1,H1,I1,q1⟩:=hh9
  exact h2 pins s1 σ1 H1 _ _ Q I1 rr q1
noncomputable def qw0 (K:Ag)(n:Nat)(t:TGs):TG:=λv σ H Q=>∃a xs,v=.ref a/\SqT K H a xs/\xs.length=n/\t xs σ H Q
theorem qf0 {es:List Expr}{k:Nat}{t:TGs}{n:Nat}(hc:X.calm=true)(h:PGs X es t)
  (hn:(assignEach es X.env).length=n:=by rfl) (hst:(assignEach es X.env).findIdx? (·.1)=none:=by rfl):PG X (.Tuple es k pos) (qw0 X.K n t):=by
 intro pins s σ H v u Q I r hw
 obtain⟨a,xs,e1,hq,hl,hw⟩:=hw
 subst e1
 cases r
 obtain⟨its,rv,ht,hz⟩:=I.tuple hq
 refine assign_Tuple_tuple (I.ok.hd hc) ht (by simp[hn,<- hl,rv.length]) hst λh' hx=>?_
 have I1:Inv X pins σ H { s with heap:=h' }:=I.kept (t':=s.toks) λb o e=>hx b o (AR (A7 e)) e
 exact h pins _ σ H xs _ Q I1 (by simpa using rv) hw
noncomputable def gSub (to ti:TE)(t:TSet):TG:=λv σ H Q=>to σ H λo H1=>ti σ H1 λi H2=>t o i v H2 λH3=>Q σ H3
theorem qub {o i:Expr}{to ti:TE}{t:TSet}(ho:PE X o to)(hi:PE X i ti)(hs:PSet X t)
  (ha:∀v,assign (.Subscript o i pos) X.env v=(do
   let ov <- holding [v] (eval o X.env)
   let iv <- holding [v,ov] (eval i X.env)
   standAt pos
   holding [v,ov,iv] (setItem ov iv v)
   release [v,ov,iv] []):=by intro _;rfl):PG X (.Subscript o i pos) (gSub to ti t):=by
 intro pins s σ H v u Q I r h
 rw[ha]
 refine Af (Cg (thn (ho pins s σ H _ I h) λov s1 hh9=>?_))
 obtain⟨x,H1,I1,r1,q1⟩:=hh9
 refine Af (Cg (thn (hi pins s1 σ H1 _ I1 q1) λiv s2 hh9=>?_))
 obtain⟨y,H2,I2,r2,q2⟩:=hh9
 refine Af (DZ (Af (Cg (thn (hs pins s2 σ H2 x y v ov iv u _ I2 r1 r2 r q2) λ_ s3 hh9=>?_))))
 obtain⟨H3,I3,q3⟩:=hh9
 exact wpAny_release ⟨σ,H3,I3,q3⟩
noncomputable def tAsg (te:TE)(g:TG):TS:=λD σ H=>te σ H λx H1=>g x σ H1 D.nx
theorem qit {tg e:Expr}{te:TE}{g:TG}(he:PE X e te)(hg:PG X tg g)(hs:swapsWithSole [tg] e pos.line X.env=pure false:=by rfl)(hw:swappedStores [tg] e X.env=pure none:=by rfl)
  (h1:(assignEach [tg] X.env).map (·.2)=[assign tg X.env]:=by rfl):PS X (.Assign [tg] e pos) (tAsg te g):=by
 intro pins s σ H D I h
 refine wpAny_Assign_stores (thn (he pins s σ H _ I h) λv s1 hh9=>?_) hs hw
 obtain⟨x,H1,I1,r1,q1⟩:=hh9
 rw[h1]
 exact thn (hg pins s1 σ H1 x v _ I1 r1 q1) λ_ s2 q=>q
theorem zj {i:Nat}{x:Str}{e:Expr}{te:TE}{pos':Pos}(hN:X.N.Nodup)(hi:X.N[i]?=some x)(hx:Loc X.env.scope x)(he:PE X e te)(hs:swapsWith e (some (.Name x pos')) pos.line X.env=pure false:=by rfl)(hf:X.fn x=true\/X.env.scope.names.lookup x=some .local:=by first|exact .inl rfl|exact .inr rfl|assumption) :
  PS X (.Assign [.Name x pos'] e pos) (tAsg te (qme i)):=by
 intro pins s σ H D I h
 refine wpAny_Assign_Name (thn (he pins s σ H _ I h) λv s1 hh9=>?_) hs
 obtain⟨y,H1,I1,r1,q1⟩:=hh9
 exact qhu I1 hN hi hx r1 (λs2 I2=>⟨_,H1,I2,q1⟩) hf
noncomputable def tAug (i:Nat)(te:TE)(ti:TIp):TS:=λD σ H=>∃x,σ[i]?=some (some x)/\te σ H λy H1=>ti x y H1 λz H2=>D.nx (σ.set i (some z)) H2
theorem ps_aug {i:Nat}{x:Str}{e:Expr}{te:TE}{op:Operator}{ti:TIp}{pos':Pos}(hN:X.N.Nodup)(hi:X.N[i]?=some x)(hx:Loc X.env.scope x)(he:PE X e te)(ho:PIp X op ti)(hf:X.fn x=true\/X.env.scope.names.lookup x=some .local:=by first|exact .inl rfl|exact .inr rfl|assumption) :
  PS X (.AugAssign (.Name x pos') op e pos) (tAug i te ti):=by
 intro pins s σ H D I h
 obtain⟨v,e1,h⟩:=h
 obtain⟨m,hn,hl⟩:=I.loc
 have vis:Vis X.env.scope x:=by rcases hx with k|k;exact .inl k;exact .inr (.inl k)
 obtain⟨u,r,l⟩:=hl i x v hi e1 vis
 refine wpAny_AugAssign_Name ?_
 have go:wpAny (model X.prog X.w) X.A (eval e X.env) (λw s₂=>wpAny (model X.prog X.w) X.A (inplaceOp op u w) (λr s₃=>wpAny (model X.prog X.w) X.A (storeName X.env x r) (λ_=>SP X pins D .next) X.xe s₃) X.xe s₂) X.xe s:=by
  refine thn (he pins s σ H _ I h) λw s1 hh9=>?_
  obtain⟨y,H1,I1,r1,q1⟩:=hh9
  refine thn (ho pins s1 σ H1 v y u w _ I1 r r1 q1) λz s2 hh9=>?_
  obtain⟨zv,H2,I2,r2,q2⟩:=hh9
  exact qhu I2 hN hi hx r2 (λs3 I3=>⟨_,H2,I3,q2⟩) hf
 rcases l with ⟨hk,hm⟩|⟨hk,c,hc,hcell⟩
 .exact wpAny_loadName_local I.ok.kind hk hn hm go
 .rcases hk with hk|hk
  .exact wpAny_loadName_cell I.ok.kind hk hc hcell go
  .rcases hx with k|k
   .have:X.env.scope.names.lookup x=some .free:=hk
    rw[k]at this;cases this
   .have:X.env.scope.names.lookup x=some .free:=hk
    rw[k]at this;cases this
end
section
variable {X:Cx}{pos:Pos}
noncomputable def tWhile (c:TT)(tb:TS):TS:=λD σ H=>∃W:Nat->St->Hp->Prop,(∃m,W m σ H)/\∀m σ H,W m σ H ->
 c σ H λb H1=>if b=true then ∃N:St->Hp->Prop,(∀σ' H',N σ' H'->∃m',m'<m/\W m' σ' H')/\tb { D with nx:=N,ct:=N,bk:=D.nx } σ H1 else D.nx σ H1
theorem quc {c:Expr}{body:List Stmt}{tc:TT}{tb:TS}(hp:BB (model X.prog X.w) X.A X.env X.xe)(hc:PT X c tc)(hb:PSs X body tb):PS X (.While c body [] pos) (tWhile tc tb):=by
 intro pins s σ H D I h
 obtain⟨W,⟨m0,w0⟩,turn⟩:=h
 refine wpAny_While (codeAny_whileLoop (λn s'=>∃σ' H',Inv X pins σ' H' s'/\W n σ' H') ?_ m0 ⟨σ,H,I,w0⟩)
 rintro n s1 ⟨σ1,H1,I1,w1⟩
 refine CB hp (thn (hc pins s1 σ1 H1 _ I1 (turn n σ1 H1 w1)) λb s2 hh9=>?_)
 obtain⟨H2,I2,q2⟩:=hh9
 cases b with
 |true =>
  obtain⟨N,hN,q2⟩:=q2
  rw[if_pos rfl]
  refine CB hp (thn (hb pins s2 σ1 H2 _ I2 q2) λf s3 q3=>?_)
  cases f with
  |next =>
   obtain⟨σ3,H3,I3,n3⟩:=q3
   obtain⟨m',hm,w3⟩:=hN σ3 H3 n3
   exact⟨m',hm,σ3,H3,I3,w3⟩
  |cont =>
   obtain⟨σ3,H3,I3,n3⟩:=q3
   obtain⟨m',hm,w3⟩:=hN σ3 H3 n3
   exact⟨m',hm,σ3,H3,I3,w3⟩
  |brk=>exact q3
  |ret v=>exact q3
 |false =>
  rw[if_neg AI]
  exact D5 ⟨σ1,H2,I2,q2⟩
end
structure It where
 go:Nat->Hp->Prop
 yld:Nat->Hp->V->Hp->Prop
 stop:Nat->Hp->Prop
noncomputable def qel (X:Cx)(pins:List (Addr×Obj))(H:Hp)(b:Addr):Prop :=
 H b=none/\b≠X.env.locals/\b∉X.fs/\(b∈X.ex\/X.s₀.heap.objs.size<=b)/\(∀x c,X.env.cells.lookup x=some c->c≠b)/\∀p∈X.pn++pins,p.1≠b
theorem Inv.fpOk {X:Cx}{pins:List (Addr×Obj)}{σ:St}{H H':Hp}{s:Aj}{b:Addr}(I:Inv X pins σ H s)(hb:s.heap.objs.size<=b)(hn:H' b=none):qel X pins H' b:=by
 refine⟨hn,C1 (AG I.lt hb),I.nofs hb,.inr (A0 I.sz hb),λx c e z=>?_,λp hp z=>?_⟩
 .obtain⟨v,q⟩:=I.cell x c e
  exact absurd (AG q.lt (by rw[z];exact hb)) (Cf _)
 .exact absurd (AG (A7 (I.pin p hp).1) (by rw[z];exact hb)) (Cf _)
structure Turn (P:AU)(w:World)(K:Ag)(tg:Expr)(J:It)(fp:List Addr)(it:Addr)(tn:Nat->Heap->Prop):Prop where
 mem:it∈fp
 obj:∀i h,tn i h->∀b∈fp,∃o,h.get? b=some o/\∀v,o.data ≠ .cell v
 keep:∀i h h',tn i h->(∀b∈fp,∀o,h.get? b=some o->h'.get? b=some o)->tn i h'
 item:∀(X:Cx),X.prog=P->X.w=w->X.K=K->X.calm=true->∀(i:Nat)(pins:List (Addr×Obj))(s:Aj)(σ:St)(H:Hp)(E:Value->Aj->Prop),Inv X pins σ H s->(∀b∈fp,qel X pins H b)->tn i s.heap->J.go i H ->
  wpAny (model P w) X.A (pyNext (.ref it)) (λr s1=>∃u,r=some u /\
   wpAny (model P w) X.A (letOwnedTupleGo tg (.ref it) u) (λ_ s2=>∃x H',Inv X pins σ H' s2/\RelV x u/\J.yld i H x H'/\tn (i+1) s2.heap/\∀b∈fp,H' b=none) E s1) E s
 done:∀(X:Cx),X.prog=P->X.w=w->X.K=K->X.calm=true->∀(i:Nat)(pins:List (Addr×Obj))(s:Aj)(σ:St)(H:Hp)(E:Value->Aj->Prop),Inv X pins σ H s->(∀b∈fp,qel X pins H b)->tn i s.heap->J.stop i H ->
  wpAny (model P w) X.A (pyNext (.ref it)) (λr s1=>r=none/\Inv X pins σ H s1) E s
 self:∀(A:Be)(i:Nat)(s:Aj)(Q:Value->Aj->Prop)(E:Value->Aj->Prop),tn i s.heap->Q (.ref it) s->wpAny (model P w) A (pyIter (.ref it)) Q E s
noncomputable abbrev TI:=St->Hp->(It->Hp->Prop)->Prop
noncomputable def PIE (X:Cx)(pins:List (Addr×Obj))(σ:St)(tg:Expr)(R:It->Hp->Prop)(itv:Value)(s2:Aj):Prop :=
 ∃(it:Addr)(fp:List Addr)(tn:Nat->Heap->Prop)(J:It)(H':Hp),itv=.ref it/\Inv X pins σ H' s2/\Turn X.prog X.w X.K tg J fp it tn/\tn 0 s2.heap/\(∀b∈fp,qel X pins H' b)/\R J H'
noncomputable def PI (X:Cx)(tg iter:Expr)(wi:TI):Prop :=
 ∀(pins:List (Addr×Obj))(s:Aj)(σ:St)(H:Hp)(R:It->Hp->Prop),Inv X pins σ H s->wi σ H R ->
  wpAny (model X.prog X.w) X.A (eval iter X.env) (λv s1=>wpAny (model X.prog X.w) X.A (pyIter v) (PIE X pins σ tg R) X.xe s1) X.xe s
theorem qrf {M:Model}{A:Be}{E:Value->Aj->Prop}{s:Aj}{tg:Expr}{it:Addr}{u:Value}{o:Obj}{n:String}{vs:Array Value}{Q:Unit->Aj->Prop}(ho:s.heap.get? it=some o)(hc:o.cls=.type n)(hd:o.data=.fields vs)
  (hn:["enumerate", "zip", "dict_itemiterator", "dict_reverseitemiterator", "odict_iterator", "itertools.zip_longest", "itertools.pairwise"].contains n=false) (hQ:Q () s):wpAny M A (letOwnedTupleGo tg (.ref it) u) Q E s:=by
 unfold letOwnedTupleGo
 cases tg <;>first
  |exact A6 hQ
  | (cases u <;>first
    |exact A6 hQ
    | (refine Af (wpAny_load ho ?_)
       rw[hc,hd]
       show wpAny M A (if (["enumerate", "zip", "dict_itemiterator", "dict_reverseitemiterator", "odict_iterator", "itertools.zip_longest", "itertools.pairwise"].contains n && vs[0]? == some (rawInt _))=true then _ else _) Q E s
       rw[if_neg (by intro h;rw[hn,Ct]at h;cases h)]
       exact A6 hQ))
noncomputable def Itl (K:Ag)(a:Addr):It :=
 ⟨λi H=>∃xs x,SqL K H a xs/\xs[i]?=some x,λi H x H'=>H'=H/\∀xs,SqL K H a xs->xs[i]?=some x,λi H=>∃xs,SqL K H a xs/\xs.length<=i⟩
noncomputable def Itt (K:Ag)(a:Addr):It :=
 ⟨λi H=>∃xs x,SqT K H a xs/\xs[i]?=some x,λi H x H'=>H'=H/\∀xs,SqT K H a xs->xs[i]?=some x,λi H=>∃xs,SqT K H a xs/\xs.length<=i⟩
noncomputable def Itr (lo:Int)(n:Nat):It:=⟨λi _=>i<n,λi H x H'=>H'=H/\x=.int (lo+i),λi _=>n<=i⟩
theorem qso {P:AU}{w:World}{K:Ag}{tg:Expr}(a it:Addr):Turn P w K tg (Itl K a) [it] it (λi h=>h.IsListIter it a i) where
 mem:=by simp
 obj:=λi h st b hb=>by
  have e:b=it:=by simpa using hb
  subst e
  obtain⟨o,e,c,d⟩:=st
  exact⟨o,e,λv z=>by rw[d]at z;cases z⟩
 keep:=λi h h' st k=>st.at λo e=>k it (by simp) o e
 item:=by
  intro X hP hw hK hc i pins s σ H E I hf st hg
  subst hP hw hK
  obtain⟨xs,x,hq,hx⟩:=hg
  obtain⟨its,rv,p,hz⟩:=I.list hq
  obtain⟨u,hu,ru⟩:=rv.get hx
  obtain⟨f0,f1,f2,f3,f4,f5⟩:=hf it (by simp)
  refine wpAny_pyNext_list_item st p.isList (x:=u) (by simpa using hu) λh' st' sb=>?_
  have I1:Inv X pins σ H { s with heap:=h' }:=I.turned (t':=s.toks) (λb o hb e=>(sb.2 b hb).trans e) f0 f1 f3 f4 f5
  obtain⟨o,e,c,d⟩:=id st'
  exact⟨u,rfl,qrf (s:={ s with heap:=h' }) e c d Ex ⟨x,H,I1,ru,⟨rfl,λys hy=>by rw[I.list_inj hy hq];exact hx⟩,st',λb hb=>(hf b hb).1⟩⟩
 done:=by
  intro X hP hw hK hc i pins s σ H E I hf st hg
  subst hP hw hK
  obtain⟨xs,hq,hx⟩:=hg
  obtain⟨its,rv,p,hz⟩:=I.list hq
  obtain⟨f0,f1,f2,f3,f4,f5⟩:=hf it (by simp)
  have hl:=rv.length
  exact wpAny_pyNext_list_end (I.ok.hd hc) st p.isList (by simp;lia) λh' eb=>⟨rfl,I.turned (t':=s.toks) (λb o hb e=>eb b o hb e) f0 f1 f3 f4 f5⟩
 self:=λ_ _ _ _ _ st h=>wpAny_pyIter_listiter st h
theorem qpy {P:AU}{w:World}{K:Ag}{tg:Expr}(a it:Addr):Turn P w K tg (Itt K a) [it] it (λi h=>h.IsTupleIter it a i) where
 mem:=by simp
 obj:=λi h st b hb=>by
  have e:b=it:=by simpa using hb
  subst e
  obtain⟨o,e,c,d⟩:=st
  exact⟨o,e,λv z=>by rw[d]at z;cases z⟩
 keep:=λi h h' st k=>st.at λo e=>k it (by simp) o e
 item:=by
  intro X hP hw hK hc i pins s σ H E I hf st hg
  subst hP hw hK
  obtain⟨xs,x,hq,hx⟩:=hg
  obtain⟨its,rv,p,hz⟩:=I.tuple hq
  obtain⟨u,hu,ru⟩:=rv.get hx
  obtain⟨f0,f1,f2,f3,f4,f5⟩:=hf it (by simp)
  refine wpAny_pyNext_tuple_item st (show s.heap.IsTuple a its.toArray from p) (x:=u) (by simpa using hu) λh' st' sb=>?_
  have I1:Inv X pins σ H { s with heap:=h' }:=I.turned (t':=s.toks) (λb o hb e=>(sb.2 b hb).trans e) f0 f1 f3 f4 f5
  obtain⟨o,e,c,d⟩:=id st'
  exact⟨u,rfl,qrf (s:={ s with heap:=h' }) e c d Ex ⟨x,H,I1,ru,⟨rfl,λys hy=>by rw[I.tuple_inj hy hq];exact hx⟩,st',λb hb=>(hf b hb).1⟩⟩
 done:=by
  intro X hP hw hK hc i pins s σ H E I hf st hg
  subst hP hw hK
  obtain⟨xs,hq,hx⟩:=hg
  obtain⟨its,rv,p,hz⟩:=I.tuple hq
  obtain⟨f0,f1,f2,f3,f4,f5⟩:=hf it (by simp)
  have hl:=rv.length
  exact wpAny_pyNext_tuple_end (I.ok.hd hc) st (show s.heap.IsTuple a its.toArray from p) (by simp;lia) λh' eb=>⟨rfl,I.turned (t':=s.toks) (λb o hb e=>eb b o hb e) f0 f1 f3 f4 f5⟩
 self:=λ_ _ _ _ _ st h=>wpAny_pyIter_tupleiter st h
theorem qpz {P:AU}{w:World}{K:Ag}{tg:Expr}(it:Addr)(lo:Int)(n:Nat):Turn P w K tg (Itr lo n) [it] it (λi h=>IsRangeIter h it (lo+(i:Nat)*1) ((n:Int)-(i:Nat)) 1) where
 mem:=by simp
 obj:=λi h st b hb=>by
  have e:b=it:=by simpa using hb
  subst e
  exact⟨_,st,λv z=>by
   have z':Data.fields _=Data.cell v:=z
   cases z'⟩
 keep:=λi h h' st k=>k it (by simp) _ st
 item:=by
  intro X hP hw hK hc i pins s σ H E I hf st hg
  subst hP hw hK
  obtain⟨f0,f1,f2,f3,f4,f5⟩:=hf it (by simp)
  have W:=Walks.range (prog:=X.prog) (w:=X.w) (I.ok.hd hc) it lo 1 n
  refine W.item i s _ _ hg st λv h' tk hv st' kk=>?_
  obtain⟨t,rfl⟩:=hv
  have I1:Inv X pins σ H { s with heap:=h',toks:=tk }:=I.turned (λb o hb e=>kk b o (by simpa using hb) e) f0 f1 f3 f4 f5
  refine⟨_,rfl,qrf (s:={ s with heap:=h',toks:=tk }) (n := "range_iterator") st' rfl rfl Ex ⟨.int (lo+i),H,I1,⟨t,?_⟩,⟨rfl,rfl⟩,st',λb hb=>(hf b hb).1⟩⟩
  rw[Int.mul_one]
 done:=by
  intro X hP hw hK hc i pins s σ H E I hf st hg
  subst hP hw hK
  obtain⟨f0,f1,f2,f3,f4,f5⟩:=hf it (by simp)
  exact wpAny_pyNext_range_end (I.ok.hd hc) st (by have:n<=i:=hg;lia) λh' eb=>⟨rfl,I.turned (t':=s.toks) (λb o hb e=>eb b o hb e) f0 f1 f3 f4 f5⟩
 self:=λ_ _ _ _ _ st h=>wpAny_pyIter_rangeiter st h
end L2
namespace L2
open PySem PySem.Spec PyProof.Rows
section
variable {X:Cx}{tg:Expr}
noncomputable def iList (K:Ag)(tl:TE):TI:=λσ H R=>tl σ H λx H1=>∃a,x=.ref a/\(∃xs,SqL K H1 a xs)/\R (Itl K a) H1
noncomputable def iTup (K:Ag)(tl:TE):TI:=λσ H R=>tl σ H λx H1=>∃a,x=.ref a/\(∃xs,SqT K H1 a xs)/\R (Itt K a) H1
theorem qb7 {l:Expr}{tl:TE}(hl:PE X l tl):PI X tg l (iList X.K tl):=by
 intro pins s σ H R I h
 refine thn (hl pins s σ H _ I h) λv s1 hh9=>?_
 obtain⟨x,H1,I1,r1,q1⟩:=hh9
 obtain⟨a,e,⟨xs,hq⟩,q⟩:=q1
 subst e
 cases r1
 obtain⟨its,rv,p,hz⟩:=I1.list hq
 refine DF p.isList ?_
 refine⟨s1.heap.objs.size,[s1.heap.objs.size],_,_,H1,rfl,I1.kept (t':=s1.toks) λb o e=>Ap _ e,qso a _,⟨_,AA _ rfl,rfl,rfl⟩,λb hb=>?_,q⟩
 have e:b=s1.heap.objs.size:=by simpa using hb
 subst e
 exact I1.fpOk (A3 _) (I1.hok.fresh (A3 _))
theorem pi_tup {l:Expr}{tl:TE}(hl:PE X l tl):PI X tg l (iTup X.K tl):=by
 intro pins s σ H R I h
 refine thn (hl pins s σ H _ I h) λv s1 hh9=>?_
 obtain⟨x,H1,I1,r1,q1⟩:=hh9
 obtain⟨a,e,⟨xs,hq⟩,q⟩:=q1
 subst e
 cases r1
 obtain⟨its,rv,p,hz⟩:=I1.tuple hq
 refine wpAny_pyIter_tuple (show s1.heap.IsTuple a its.toArray from p) ?_
 refine⟨s1.heap.objs.size,[s1.heap.objs.size],_,_,H1,rfl,I1.kept (t':=s1.toks) λb o e=>Ap _ e,qpy a _,⟨_,AA _ rfl,rfl,rfl⟩,λb hb=>?_,q⟩
 have e:b=s1.heap.objs.size:=by simpa using hb
 subst e
 exact I1.fpOk (A3 _) (I1.hok.fresh (A3 _))
theorem qud {pins:List (Addr×Obj)}{σ:St}{H:Hp}{s:Aj}{R:It->Hp->Prop}{E:Value->Aj->Prop}{lo hi:Int}{t u v:Tok}{tk:Nat}(I:Inv X pins σ H s)(h1 : -(2 ^ 62)<=lo)(h2:lo<2 ^ 62)(h3 : -(2 ^ 62)<=hi)(h4:hi<2 ^ 62)
  (q:R (Itr lo (hi-lo).toNat) H):wpAny (model X.prog X.w) X.A (pyIter (.ref s.heap.objs.size)) (PIE X pins σ tg R) E { s with heap:=s.heap.push { cls:=.type "range",data:=.fields #[.int lo t,.int hi u,.int 1 v] },toks:=tk }:=by
 refine wpAny_pyIter_range (IsRange.new ..) (small_one h1 h2 h3 h4) ?_
 have I1:Inv X pins σ H { s with heap:=s.heap.push { cls:=.type "range",data:=.fields #[.int lo t,.int hi u,.int 1 v] },toks:=tk }:=I.kept λb o e=>Ap _ e
 refine⟨(s.heap.push { cls:=.type "range",data:=.fields #[.int lo t,.int hi u,.int 1 v] }).objs.size,[(s.heap.push { cls:=.type "range",data:=.fields #[.int lo t,.int hi u,.int 1 v] }).objs.size],_,_,H,rfl,
  I1.kept (t':=tk) λb o e=>Ap _ e,qpz _ lo (hi-lo).toNat,?_,λb hb=>?_,q⟩
 .have e1:lo+((0:Nat):Int)*1=lo:=by simp
  have e2:(((hi-lo).toNat:Nat):Int)-((0:Nat):Int)=AY.Range.rangeSize lo hi 1:=by rw[rangeSize_one];split <;>lia
  show IsRangeIter _ _ (lo+((0:Nat):Int)*1) ((((hi-lo).toNat:Nat):Int)-((0:Nat):Int)) 1
  rw[e1,e2]
  exact AA _ rfl
 .have e:b=(s.heap.push { cls:=.type "range",data:=.fields #[.int lo t,.int hi u,.int 1 v] }).objs.size:=by simpa using hb
  subst e
  exact I1.fpOk (A3 _) (I1.hok.fresh (A3 _))
noncomputable def iRng1 (ta:TA):TI:=λσ H R=>ta σ H λvs H1=>∃j:Int,vs=[.int j] /\ -(2 ^ 62)<=j/\j<2 ^ 62/\R (Itr 0 j.toNat) H1
theorem qdq {a:Expr}{ta:TA}{p pos:Pos}(hg:Gl X "range")(hm:X.mg "range" = none)(ha:PA X [a] ta)(hs:starEach [a] X.env=[(false,eval a X.env)]:=by rfl):PI X tg (.Call (.Name "range" p) [a] [] pos) (iRng1 ta):=by
 intro pins s σ H R I h
 refine Call_ (qfl I hg hm boot_range (B6 (thn (ha pos pins s σ H _ I h) λus s1 hh9=>?_) hs rfl))
 obtain⟨vs,H1,I1,r1,q1⟩:=hh9
 obtain⟨j,e,q1,q2,q⟩:=q1
 subst e
 cases r1 with
 |cons r rr =>
  cases rr
  obtain⟨t,rfl⟩:=r
  exact call_range_1 (qud I1 (by lia) (by lia) q1 q2 (by simpa using q))
noncomputable def tFor (wi:TI)(g:TG)(tb:TS):TS:=λD σ H=>wi σ H λJ H1=>∃W:Nat->Nat->St->Hp->Prop,(∃m,W 0 m σ H1)/\∀i m σ H,W i m σ H ->
 (J.stop i H/\D.nx σ H)\/(J.go i H/\∃N:St->Hp->Prop,(∀σ' H',N σ' H'->∃m',m'<m/\W (i+1) m' σ' H')/\∀x H',J.yld i H x H'->g x σ H' λσ2 H2=>tb { D with nx:=N,ct:=N,bk:=D.nx } σ2 H2)
noncomputable def qkf (fp:List Addr)(h:Heap):List (Addr×Obj):=fp.filterMap λb=>(h.get? b).map λo=>(b,o)
theorem qfm {fp:List Addr}{h:Heap}{b:Addr}{o:Obj}(hb:b∈fp)(e:h.get? b=some o):(b,o)∈qkf fp h:=CV.mpr ⟨b,hb,by rw[e];rfl⟩
theorem qsp {fp:List Addr}{h:Heap}{p:Addr×Obj}(hp:p∈qkf fp h):p.1∈fp/\h.get? p.1=some p.2:=by
 obtain⟨b,hb,e⟩:=CV.mp hp
 cases q:h.get? b with
 |none=>rw[q]at e;cases e
 |some o =>
  rw[q]at e
  have e':(b,o)=p:=AD e
  subst e'
  exact⟨hb,q⟩
theorem Inv.pinned {pins:List (Addr×Obj)}{σ:St}{H:Hp}{s:Aj}{fp:List Addr}(I:Inv X pins σ H s)(hf:∀b∈fp,qel X pins H b)(ho:∀b∈fp,∃o,s.heap.get? b=some o/\∀v,o.data ≠ .cell v):Inv X (pins++qkf fp s.heap) σ H s :=
 I.pins_of λp hp=>(Au.mp hp).elim (λz=>I.pin p (Ay _ z)) λz=>by
  obtain⟨hb,e⟩:=qsp z
  obtain⟨f0,f1,f2,_⟩:=hf p.1 hb
  obtain⟨o,e',d⟩:=ho p.1 hb
  rw[e]at e';cases e'
  exact⟨e,f0,f1,f2,d⟩
theorem Inv.unpinned {pins pl:List (Addr×Obj)}{σ:St}{H:Hp}{s:Aj}(I:Inv X (pins++pl) σ H s):Inv X pins σ H s:=I.pins_of λp hp=>I.pin p (Ay _ (AO _ hp))
theorem qcn {iter:Expr}{body:List Stmt}{wi:TI}{g:TG}{tb:TS}{pos:Pos}(hp:BB (model X.prog X.w) X.A X.env X.xe)(hc:X.calm=true)(hi:PI X tg iter wi)(hg:PG X tg g)(hb:PSs X body tb)
  (hs:∀x,foldedSetIterable iter X.env x=pure x:=by intro _;rfl):PS X (.For tg iter body [] pos) (tFor wi g tb):=by
 intro pins s σ H D I h
 refine wpAny_For (thn (hi pins s σ H _ I h) λv s1 h1=>thn h1 λitv s2 h2=>?_) hs
 obtain⟨it,fp,tn,J,H2,e,I2,T,st2,f2,W,⟨m0,w0⟩,turn⟩:=h2
 subst e
 -- what stays true of the iterator's objects through the loop
 have stat:∀{H':Hp},(∀b∈fp,H' b=none)->∀b∈fp,qel X pins H' b:=λhn b hb=>⟨hn b hb,(f2 b hb).2⟩
 refine codeAny_forLoop_any (λn s'=>∃i σ' H',Inv X pins σ' H' s'/\tn i s'.heap/\(∀b∈fp,H' b=none)/\W i n σ' H') ?_ m0 ⟨0,σ,H2,I2,st2,λb hb=>(f2 b hb).1,w0⟩
 rintro n s3 ⟨i,σ3,H3,I3,st3,fr3,w3⟩
 rcases turn i n σ3 H3 w3 with ⟨stop,qn⟩|⟨go,N,hN,step⟩
 .refine CB hp (thn (T.done X rfl rfl rfl hc i pins s3 σ3 H3 X.xe I3 (stat fr3) st3 stop) λr s4 hh9=>?_)
  obtain⟨hr,I4⟩:=hh9
  subst hr
  exact D5 ⟨σ3,H3,I4,qn⟩
 .refine CB hp (thn (T.item X rfl rfl rfl hc i pins s3 σ3 H3 X.xe I3 (stat fr3) st3 go) λr s4 hh9=>?_)
  obtain⟨u,hr,h4⟩:=hh9
  subst hr
  refine CB hp (thn h4 λ_ s5 hh9=>?_)
  obtain⟨x,H5,I5,r5,y5,st5,fr5⟩:=hh9
  have I5':=I5.pinned (stat fr5) (T.obj _ _ st5)
  refine CB hp (thn (hg _ s5 σ3 H5 x u _ I5' r5 (step x H5 y5)) λ_ s6 hh9=>?_)
  obtain⟨σ6,H6,I6,q6⟩:=hh9
  refine CB hp (thn (hb _ s6 σ6 H6 _ I6 q6) λf s7 q7=>?_)
  have again:∀{σ7:St}{H7:Hp},Inv X (pins++qkf fp s5.heap) σ7 H7 s7->N σ7 H7->∃m,m<n/\∃i σ' H',Inv X pins σ' H' s7/\tn i s7.heap/\(∀b∈fp,H' b=none)/\W i m σ' H':=λ{σ7 H7} I7 n7=>by
   obtain⟨m',hm,w7⟩:=hN σ7 H7 n7
   refine⟨m',hm,i+1,σ7,H7,I7.unpinned,T.keep _ _ _ st5 λb hb o e=>(I7.pin (b,o) (Ay _ (Ay _ (qfm hb e)))).1,λb hb=>?_,w7⟩
   obtain⟨o,e,d⟩:=T.obj _ _ st5 b hb
   exact(I7.pin (b,o) (Ay _ (Ay _ (qfm hb e)))).2.1
  cases f with
  |next=>obtain⟨σ7,H7,I7,n7⟩:=q7;exact again I7 n7
  |cont=>obtain⟨σ7,H7,I7,n7⟩:=q7;exact again I7 n7
  |brk=>obtain⟨σ7,H7,I7,q7⟩:=q7;exact⟨σ7,H7,I7.unpinned,q7⟩
  |ret v=>obtain⟨x7,σ7,H7,I7,r7,q7⟩:=q7;exact⟨x7,σ7,H7,I7.unpinned,r7,q7⟩
end
theorem qc2 {K:Ag}{a:Addr}{xs:List V}{g:TG}{tb:TS}{D:Ends}{σ:St}{H:Hp}(Pv:Nat->St->Hp->Prop)(h0:Pv 0 σ H)(hl:∀i σ H,i<=xs.length->Pv i σ H->SqL K H a xs)
  (hs:∀i x σ H,xs[i]?=some x->Pv i σ H->g x σ H λσ2 H2=>tb { D with nx:=Pv (i+1),ct:=Pv (i+1),bk:=D.nx } σ2 H2) (hd:∀σ H,Pv xs.length σ H->D.nx σ H) :
  ∃W:Nat->Nat->St->Hp->Prop,(∃m,W 0 m σ H)/\∀i m σ H,W i m σ H ->
   ((Itl K a).stop i H/\D.nx σ H)\/((Itl K a).go i H/\∃N:St->Hp->Prop,(∀σ' H',N σ' H'->∃m',m'<m/\W (i+1) m' σ' H')/\∀x H',(Itl K a).yld i H x H'->g x σ H' λσ2 H2=>tb { D with nx:=N,ct:=N,bk:=D.nx } σ2 H2):=by
 refine⟨λi m σ H=>m=xs.length-i/\i<=xs.length/\Pv i σ H,⟨xs.length,by simp,B7 _,h0⟩,?_⟩
 rintro i m σ H ⟨rfl,hi,p⟩
 have q:=hl i σ H hi p
 by_cases hlt:i<xs.length
 .refine .inr ⟨⟨xs,xs[i],q,by simp[hlt]⟩,Pv (i+1),λσ' H' p'=>⟨xs.length-(i+1),by lia,rfl,hlt,p'⟩,λx H' y=>?_⟩
  obtain⟨e,y⟩:=y
  subst e
  exact hs i x σ _ (y xs q) p
 .have e:i=xs.length:=by lia
  subst e
  exact .inl ⟨⟨xs,q,A3 _⟩,hd σ H p⟩
theorem qw1 {K:Ag}{a:Addr}{xs:List V}{g:TG}{tb:TS}{D:Ends}{σ:St}{H:Hp}(Pv:Nat->St->Hp->Prop)(h0:Pv 0 σ H)(hl:∀i σ H,i<=xs.length->Pv i σ H->SqT K H a xs)
  (hs:∀i x σ H,xs[i]?=some x->Pv i σ H->g x σ H λσ2 H2=>tb { D with nx:=Pv (i+1),ct:=Pv (i+1),bk:=D.nx } σ2 H2) (hd:∀σ H,Pv xs.length σ H->D.nx σ H) :
  ∃W:Nat->Nat->St->Hp->Prop,(∃m,W 0 m σ H)/\∀i m σ H,W i m σ H ->
   ((Itt K a).stop i H/\D.nx σ H)\/((Itt K a).go i H/\∃N:St->Hp->Prop,(∀σ' H',N σ' H'->∃m',m'<m/\W (i+1) m' σ' H')/\∀x H',(Itt K a).yld i H x H'->g x σ H' λσ2 H2=>tb { D with nx:=N,ct:=N,bk:=D.nx } σ2 H2):=by
 refine⟨λi m σ H=>m=xs.length-i/\i<=xs.length/\Pv i σ H,⟨xs.length,by simp,B7 _,h0⟩,?_⟩
 rintro i m σ H ⟨rfl,hi,p⟩
 have q:=hl i σ H hi p
 by_cases hlt:i<xs.length
 .refine .inr ⟨⟨xs,xs[i],q,by simp[hlt]⟩,Pv (i+1),λσ' H' p'=>⟨xs.length-(i+1),by lia,rfl,hlt,p'⟩,λx H' y=>?_⟩
  obtain⟨e,y⟩:=y
  subst e
  exact hs i x σ _ (y xs q) p
 .have e:i=xs.length:=by lia
  subst e
  exact .inl ⟨⟨xs,q,A3 _⟩,hd σ H p⟩
theorem qfc {lo:Int}{n:Nat}{g:TG}{tb:TS}{D:Ends}{σ:St}{H:Hp}(Pv:Nat->St->Hp->Prop)(h0:Pv 0 σ H)
  (hs:∀i σ H,i<n->Pv i σ H->g (.int (lo+i)) σ H λσ2 H2=>tb { D with nx:=Pv (i+1),ct:=Pv (i+1),bk:=D.nx } σ2 H2) (hd:∀σ H,Pv n σ H->D.nx σ H) :
  ∃W:Nat->Nat->St->Hp->Prop,(∃m,W 0 m σ H)/\∀i m σ H,W i m σ H ->
   ((Itr lo n).stop i H/\D.nx σ H)\/((Itr lo n).go i H/\∃N:St->Hp->Prop,(∀σ' H',N σ' H'->∃m',m'<m/\W (i+1) m' σ' H')/\∀x H',(Itr lo n).yld i H x H'->g x σ H' λσ2 H2=>tb { D with nx:=N,ct:=N,bk:=D.nx } σ2 H2):=by
 refine⟨λi m σ H=>m=n-i/\i<=n/\Pv i σ H,⟨n,by simp,B7 _,h0⟩,?_⟩
 rintro i m σ H ⟨rfl,hi,p⟩
 by_cases hlt:i<n
 .refine .inr ⟨hlt,Pv (i+1),λσ' H' p'=>⟨n-(i+1),by lia,rfl,hlt,p'⟩,λx H' y=>?_⟩
  obtain⟨e,y⟩:=y
  subst e y
  exact hs i σ _ hlt p
 .have e:i=n:=by lia
  subst e
  exact .inl ⟨A3 _,hd σ H p⟩
end L2
namespace L2
open PySem PySem.Spec PyProof.Rows
noncomputable abbrev R2:=V->V->Hp->VK->Prop
noncomputable def OpR (X:Cx)(f:Value->Value->Sem Value)(r:R2):Prop :=
 ∀(pins:List (Addr×Obj))(s:Aj)(σ:St)(H:Hp)(x y:V)(v u:Value)(Q:VK),Inv X pins σ H s->RelV x v->RelV y u->r x y H Q ->
  wpAny (model X.prog X.w) X.A (f v u) (EP X pins σ Q) X.xe s
noncomputable def qem (X:Cx)(f:Value)(r:List V->Hp->VK->Prop):Prop :=
 ∀(pins:List (Addr×Obj))(s:Aj)(σ:St)(H:Hp)(xs:List V)(us:List Value)(Q:VK),Inv X pins σ H s->Vals xs us->r xs H Q ->
  wpAny (model X.prog X.w) X.A (call f us) (EP X pins σ Q) X.xe s
noncomputable def tOp (r:R2)(ta tb:TE):TE:=λσ H Q=>ta σ H λx H1=>tb σ H1 λy H2=>r x y H2 Q
noncomputable def rI (C:Int->Int->Prop)(g:Int->Int->V):R2:=λx y H Q=>∃i j,x=.int i/\y=.int j/\C i j/\Q (g i j) H
noncomputable def rI0 (g:Int->Int->V):R2:=λx y H Q=>∃i j,x=.int i/\y=.int j/\Q (g i j) H
section
variable {X:Cx}{a b c:Expr}{ta tb tc:TE}{pos:Pos}
theorem binT (ha:PE X a ta)(hb:PE X b tb){pins:List (Addr×Obj)}{s:Aj}{σ:St}{H:Hp}{R:V->V->Hp->Prop}(I:Inv X pins σ H s)
  (h:ta σ H λx H1=>tb σ H1 λy H2=>R x y H2) {Q:Value->Aj->Prop} {f:Value->Value->Sem Value}
  (hf:∀v u s2 x y H2,Inv X pins σ H2 s2->RelV x v->RelV y u->R x y H2->wpAny (model X.prog X.w) X.A (f v u) Q X.xe s2) :
  wpAny (model X.prog X.w) X.A (eval a X.env) (λv s₁=>wpAny (model X.prog X.w) X.A (eval b X.env) (λu s₂=>wpAny (model X.prog X.w) X.A (f v u) Q X.xe s₂) X.xe s₁) X.xe s:=by
 refine thn (ha pins s σ H _ I h) λv s1 hh9=>?_
 obtain⟨x,H1,I1,r1,q1⟩:=hh9
 refine thn (hb pins s1 σ H1 _ I1 q1) λu s2 hh9=>?_
 obtain⟨y,H2,I2,r2,q2⟩:=hh9
 exact hf v u s2 x y H2 I2 r1 r2 q2
theorem zk {op:Operator}{r:R2}(ho:OpR X (binaryOp op) r)(ha:PE X a ta)(hb:PE X b tb):PE X (.BinOp a op b pos) (tOp r ta tb):=by
 intro pins s σ H Q I h
 exact wpAny_BinOp (binT ha hb I h λv u s2 x y H2 I2 rx ry q=>ho pins s2 σ H2 x y v u Q I2 rx ry q)
theorem opI {f:Value->Value->Sem Value}{C:Int->Int->Prop}{g:Int->Int->Int}
  (rule:∀(i j:Int)(t u:Tok)(s:Aj)(Q:Value->Aj->Prop)(E:Value->Aj->Prop),C i j->Q (.int (g i j) s.toks) { s with toks:=s.toks+1 }->wpAny (model X.prog X.w) X.A (f (.int i t) (.int j u)) Q E s) :
  OpR X f (rI C λi j=>.int (g i j)):=by
 intro pins s σ H x y v u Q I rx ry h
 obtain⟨i,j,rfl,rfl,hc,q⟩:=h
 obtain⟨t,rfl⟩:=rx
 obtain⟨t',rfl⟩:=ry
 exact rule i j t t' s _ _ hc ⟨.int (g i j),H,I.tok _,⟨_,rfl⟩,q⟩
theorem opI0 {f:Value->Value->Sem Value}{g:Int->Int->Int}
  (rule:∀(i j:Int)(t u:Tok)(s:Aj)(Q:Value->Aj->Prop)(E:Value->Aj->Prop),Q (.int (g i j) s.toks) { s with toks:=s.toks+1 }->wpAny (model X.prog X.w) X.A (f (.int i t) (.int j u)) Q E s) :
  OpR X f (rI0 λi j=>.int (g i j)):=by
 intro pins s σ H x y v u Q I rx ry h
 obtain⟨i,j,rfl,rfl,q⟩:=h
 obtain⟨t,rfl⟩:=rx
 obtain⟨t',rfl⟩:=ry
 exact rule i j t t' s _ _ ⟨.int (g i j),H,I.tok _,⟨_,rfl⟩,q⟩
theorem opB0 {f:Value->Value->Sem Value}{g:Int->Int->Bool}
  (rule:∀(i j:Int)(t u:Tok)(s:Aj)(Q:Value->Aj->Prop)(E:Value->Aj->Prop),Q (.bool (g i j)) s->wpAny (model X.prog X.w) X.A (f (.int i t) (.int j u)) Q E s) :
  OpR X f (rI0 λi j=>.bl (g i j)):=by
 intro pins s σ H x y v u Q I rx ry h
 obtain⟨i,j,rfl,rfl,q⟩:=h
 obtain⟨t,rfl⟩:=rx
 obtain⟨t',rfl⟩:=ry
 exact rule i j t t' s _ _ ⟨.bl (g i j),H,I,rfl,q⟩
noncomputable def qw2 (i j:Int):Prop:=0<j/\j<1073741824
noncomputable def CMul (i j:Int):Prop:=(-(2 ^ 64)<i/\i<2 ^ 64)\/(-(2 ^ 64)<j/\j<2 ^ 64)
theorem CMul.ok {i j:Int}(h:CMul i j):IntMulOk i j:=by
 rcases h with ⟨h1,h2⟩|⟨h1,h2⟩
 .exact .of_left (intBits_le_64 h1 h2)
 .exact .of_right (intBits_le_64 h1 h2)
theorem qa1:OpR X (binaryOp .Add) (rI0 λi j=>.int (i+j)):=opI0 λ_ _ _ _ _ _ _ q=>add_int q
theorem qf1:OpR X (binaryOp .Sub) (rI0 λi j=>.int (i-j)):=opI0 λ_ _ _ _ _ _ _ q=>sub_int q
theorem qe7:OpR X (binaryOp .Mult) (rI CMul λi j=>.int (i*j)):=opI λ_ _ _ _ _ _ _ hc q=>mul_int q hc.ok
theorem qbc:OpR X (binaryOp .FloorDiv) (rI qw2 λi j=>.int (i / j)):=opI λi j _ _ _ _ _ hc q=>by
 have h1:(0:Int)<j:=hc.1
 have h2:j<1073741824:=hc.2
 exact floordiv_int (by lia) (by rw[Int.fdiv_eq_ediv_of_nonneg i (by lia)];exact q) (.inl (PyProof.noPylong_small (by lia)))
theorem qar:OpR X (binaryOp .Mod) (rI (λ_ j=>0<j) λi j=>.int (i % j)):=opI λi j _ _ _ _ _ hc q=>by
 have h1:(0:Int)<j:=hc
 exact mod_int' (by lia) (by rw[Int.fmod_eq_emod_of_nonneg i (by lia)];exact q)
end
noncomputable def scal:V->V->Bool
 |.non,.non=>true | .non,.int _=>true | .int _,.non=>true | .non,.bl _=>true | .bl _,.non=>true | .non,.str _=>true | .str _,.non=>true
 |.int _,.int _=>true | .bl _,.bl _=>true | .str _,.str _=>true | .byt _,.byt _=>true
 |.int _,.str _=>true | .str _,.int _=>true | .bl _,.str _=>true | .str _,.bl _=>true
 |_,_=>false
noncomputable def rEq:R2:=λx y H Q=>scal x y=true/\Q (.bl (decide (x=y))) H
noncomputable def rNe:R2:=λx y H Q=>scal x y=true/\Q (.bl (!decide (x=y))) H
theorem qrg {i j:Int}:decide (V.int i=V.int j)=(i == j):=by
 rw[Cy]
 simp
theorem que {i j:Bool}:decide (V.bl i=V.bl j)=(i == j):=by
 rw[Cy]
 simp
theorem qrh {i j:Str}:decide (V.str i=V.str j)=(i == j):=by
 rw[Cy]
 simp
theorem qri {i j:Array UInt8}:decide (V.byt i=V.byt j)=(i.toList == j.toList):=by
 rw[Cy]
 cases i
 cases j
 simp
section
variable {X:Cx}{a b c:Expr}{ta tb tc:TE}{pos:Pos}
theorem qa4 {pins:List (Addr×Obj)}{σ:St}{H:Hp}{s:Aj}{Q:VK}{k k':Bool}(I:Inv X pins σ H s)(q:Q (.bl k) H)(e:k=k'):EP X pins σ Q (.bool k') s:=by
 subst e
 exact⟨.bl k,H,I,rfl,q⟩
theorem qaz:OpR X (compareOp .Eq) rEq:=by
 intro pins s σ H x y v u Q I rx ry h
 obtain⟨hs,q⟩:=h
 cases x with
 |non =>
  cases rx
  cases y with
  |non=>cases ry;exact PySem.EqNone.eq_none_none (qa4 I q (by simp))
  |bl j=>cases ry;exact PySem.EqNone.eq_none_bool (qa4 I q (by simp))
  |int j=>obtain⟨t',rfl⟩:=ry;exact PySem.EqNone.eq_none_int (qa4 I q (by simp))
  |str j=>obtain⟨t',rfl⟩:=ry;exact PySem.EqNone.eq_none_str (qa4 I q (by simp))
  |_=>exact absurd (show false=true from hs) AI
 |bl i =>
  cases rx
  cases y with
  |non=>cases ry;exact PySem.EqNone.eq_bool_none (qa4 I q (by simp))
  |bl j=>cases ry;exact eq_bool (qa4 I q que)
  |str j=>obtain⟨t',rfl⟩:=ry;exact PySem.EqMixed.eq_bool_str (qa4 I q (by simp))
  |_=>exact absurd (show false=true from hs) AI
 |int i =>
  obtain⟨t,rfl⟩:=rx
  cases y with
  |non=>cases ry;exact PySem.EqNone.eq_int_none (qa4 I q (by simp))
  |int j=>obtain⟨t',rfl⟩:=ry;exact eq_int (qa4 I q qrg)
  |str j=>obtain⟨t',rfl⟩:=ry;exact PySem.EqMixed.eq_int_str (qa4 I q (by simp))
  |_=>exact absurd (show false=true from hs) AI
 |str i =>
  obtain⟨t,rfl⟩:=rx
  cases y with
  |non=>cases ry;exact PySem.EqNone.eq_str_none (qa4 I q (by simp))
  |bl j=>cases ry;exact PySem.EqMixed.eq_str_bool (qa4 I q (by simp))
  |int j=>obtain⟨t',rfl⟩:=ry;exact PySem.EqMixed.eq_str_int (qa4 I q (by simp))
  |str j=>obtain⟨t',rfl⟩:=ry;exact eq_str (qa4 I q qrh)
  |_=>exact absurd (show false=true from hs) AI
 |byt i =>
  obtain⟨t,rfl⟩:=rx
  cases y with
  |byt j=>obtain⟨t',rfl⟩:=ry;exact PySem.W.eq_bytes (qa4 I q qri)
  |_=>exact absurd (show false=true from hs) AI
 |_=>cases y <;>exact absurd (show false=true from hs) AI
theorem qrj:OpR X (compareOp .NotEq) rNe:=by
 intro pins s σ H x y v u Q I rx ry h
 obtain⟨hs,q⟩:=h
 cases x with
 |non =>
  cases rx
  cases y with
  |non=>cases ry;exact PySem.EqNone.ne_none_none (qa4 I q (by simp))
  |bl j=>cases ry;exact PySem.EqNone.ne_none_bool (qa4 I q (by simp))
  |int j=>obtain⟨t',rfl⟩:=ry;exact PySem.EqNone.ne_none_int (qa4 I q (by simp))
  |str j=>obtain⟨t',rfl⟩:=ry;exact PySem.EqNone.ne_none_str (qa4 I q (by simp))
  |_=>exact absurd (show false=true from hs) AI
 |bl i =>
  cases rx
  cases y with
  |non=>cases ry;exact PySem.EqNone.ne_bool_none (qa4 I q (by simp))
  |bl j=>cases ry;exact ne_bool (qa4 I q (congrArg not que))
  |str j=>obtain⟨t',rfl⟩:=ry;exact PySem.EqMixed.ne_bool_str (qa4 I q (by simp))
  |_=>exact absurd (show false=true from hs) AI
 |int i =>
  obtain⟨t,rfl⟩:=rx
  cases y with
  |non=>cases ry;exact PySem.EqNone.ne_int_none (qa4 I q (by simp))
  |int j=>obtain⟨t',rfl⟩:=ry;exact ne_int (qa4 I q (congrArg not qrg))
  |str j=>obtain⟨t',rfl⟩:=ry;exact PySem.EqMixed.ne_int_str (qa4 I q (by simp))
  |_=>exact absurd (show false=true from hs) AI
 |str i =>
  obtain⟨t,rfl⟩:=rx
  cases y with
  |non=>cases ry;exact PySem.EqNone.ne_str_none (qa4 I q (by simp))
  |bl j=>cases ry;exact PySem.EqMixed.ne_str_bool (qa4 I q (by simp))
  |int j=>obtain⟨t',rfl⟩:=ry;exact PySem.EqMixed.ne_str_int (qa4 I q (by simp))
  |str j=>obtain⟨t',rfl⟩:=ry;exact ne_str (qa4 I q (congrArg not qrh))
  |_=>exact absurd (show false=true from hs) AI
 |byt i =>
  obtain⟨t,rfl⟩:=rx
  cases y with
  |byt j=>obtain⟨t',rfl⟩:=ry;exact PySem.W.ne_bytes (qa4 I q (congrArg not qri))
  |_=>exact absurd (show false=true from hs) AI
 |_=>cases y <;>exact absurd (show false=true from hs) AI
theorem qob:OpR X (compareOp .Lt) (rI0 λi j=>.bl (decide (i<j))):=opB0 λ_ _ _ _ _ _ _ q=>lt_int q
theorem qjj:OpR X (compareOp .LtE) (rI0 λi j=>.bl (decide (i<=j))):=opB0 λ_ _ _ _ _ _ _ q=>le_int q
theorem qyy:OpR X (compareOp .Gt) (rI0 λi j=>.bl (decide (j<i))):=opB0 λ_ _ _ _ _ _ _ q=>gt_int q
theorem op_isN:OpR X (compareOp .Is) (λx y H Q=>y=.non/\Q (.bl (decide (x=.non))) H):=by
 intro pins s σ H x y v u Q I rx ry h
 obtain⟨rfl,q⟩:=h
 cases ry
 refine is_none_gen (qa4 I q ?_)
 cases x <;>first
  | (cases rx;rfl)
  | (obtain⟨t,rfl⟩:=rx;rfl)
theorem qea:OpR X (compareOp .IsNot) (λx y H Q=>y=.non/\Q (.bl (!decide (x=.non))) H):=by
 intro pins s σ H x y v u Q I rx ry h
 obtain⟨rfl,q⟩:=h
 cases ry
 refine isnot_none_gen (qa4 I q ?_)
 cases x <;>first
  | (cases rx;rfl)
  | (obtain⟨t,rfl⟩:=rx;rfl)
theorem qae (b:Expr){op:CmpOp}(h:op ≠ .In:=by decide)(h2:op ≠ .NotIn:=by decide):behindInMarks op b=false:=by
 have e1:(op == CmpOp.In)=false:=by cases op <;>first|rfl|exact absurd rfl h
 have e2:(op == CmpOp.NotIn)=false:=by cases op <;>first|rfl|exact absurd rfl h2
 cases b <;>simp[behindInMarks,e1,e2]
theorem qcz {op:CmpOp}{r:R2}(ho:OpR X (compareOp op) r)(ha:PE X a ta)(hb:PE X b tb)(hm:behindInMarks op b=false):PE X (.Compare a [op] [b] pos) (tOp r ta tb):=by
 intro pins s σ H Q I h
 exact wpAny_Compare1 (binT ha hb I h λv u s2 x y H2 I2 rx ry q=>ho pins s2 σ H2 x y v u Q I2 rx ry q) hm
noncomputable def qyz (t:TE):TT:=λσ H Q=>t σ H λx H'=>∃k,x=.bl k/\Q k H'
theorem zi {op:CmpOp}{r:R2}(ho:OpR X (compareOp op) r)(ha:PE X a ta)(hb:PE X b tb)(hm:behindInMarks op b=false):PT X (.Compare a [op] [b] pos) (qyz (tOp r ta tb)):=by
 intro pins s σ H Q I h
 refine wpAny_isTrue_Compare1 (thn (ha pins s σ H _ I h) λv s1 ⟨x,H1,I1,r1,q1⟩=>thn (hb pins s1 σ H1 _ I1 q1) λu s2 ⟨y,H2,I2,r2,q2⟩ =>
  thn (ho pins s2 σ H2 x y v u _ I2 r1 r2 q2) λc s3 ⟨z,H3,I3,r3,k,e,q3⟩=>?_) hm
 subst e
 cases r3
 exact BE ⟨H3,I3,q3⟩
noncomputable def quf (r r':R2)(ta tb tc:TE):TE:=λσ H Q=>ta σ H λx H1=>tb σ H1 λy H2=>r x y H2 λz H3=>∃k,z=.bl k /\
 (if k=true then tc σ H3 λw' H4=>r' y w' H4 Q else Q (.bl false) H3)
theorem qoc {op op':CmpOp}{r r':R2}(ho:OpR X (compareOp op) r)(ho':OpR X (compareOp op') r')(ha:PE X a ta)(hb:PE X b tb)(hc:PE X c tc)
  (hm:lastMarks [op,op'] [b,c]=false:=by with_unfolding_all rfl):PE X (.Compare a [op,op'] [b,c] pos) (quf r r' ta tb tc):=by
 intro pins s σ H Q I h
 refine Compare_chain (thn (ha pins s σ H _ I h) λv s1 ⟨x,H1,I1,r1,q1⟩=>chain_link (thn (hb pins s1 σ H1 _ I1 q1) λu s2 ⟨y,H2,I2,r2,q2⟩ =>
  thn (ho pins s2 σ H2 x y v u _ I2 r1 r2 q2) λd s3 ⟨z,H3,I3,r3,k,e,q3⟩=>?_)) hm
 subst e
 cases r3
 refine BE ?_
 cases k with
 |false=>exact ite_ff ⟨.bl false,H3,I3,rfl,q3⟩
 |true=>exact ite_tt (chain_last (thn (hc pins s3 σ H3 _ I3 q3) λw' s4 ⟨z',H4,I4,r4,q4⟩=>ho' pins s4 σ H4 y z' u w' Q I4 r2 r4 q4))
theorem qkg {op op':CmpOp}{r r':R2}(ho:OpR X (compareOp op) r)(ho':OpR X (compareOp op') r')(ha:PE X a ta)(hb:PE X b tb)(hc:PE X c tc)
  (hm:lastMarks [op,op'] [b,c]=false:=by with_unfolding_all rfl):PT X (.Compare a [op,op'] [b,c] pos) (qyz (quf r r' ta tb tc)):=by
 intro pins s σ H Q I h
 refine isTrue_chain (thn (ha pins s σ H _ I h) λv s1 ⟨x,H1,I1,r1,q1⟩=>test_link (thn (hb pins s1 σ H1 _ I1 q1) λu s2 ⟨y,H2,I2,r2,q2⟩ =>
  thn (ho pins s2 σ H2 x y v u _ I2 r1 r2 q2) λd s3 ⟨z,H3,I3,r3,k,e,q3⟩=>?_)) hm
 subst e
 cases r3
 refine BE ?_
 cases k with
 |false =>
  obtain⟨k',e',q'⟩:=q3
  cases e'
  exact ite_ff ⟨H3,I3,q'⟩
 |true =>
  refine ite_tt (test_last (thn (hc pins s3 σ H3 _ I3 q3) λw' s4 ⟨z',H4,I4,r4,q4⟩=>thn (ho' pins s4 σ H4 y z' u w' _ I4 r2 r4 q4) λd' s5 hh9=>?_))
  obtain⟨z2,H5,I5,r5,k2,e2,q5⟩:=hh9
  subst e2
  cases r5
  exact BE ⟨H5,I5,q5⟩
theorem qkh:(A5:Nat)<2 ^ 63:=by rw[Bp];decide
theorem qab:OpR X (binaryOp .Add) (λx y H Q=>∃i j,x=.str i/\y=.str j/\i.length+j.length<=A5/\Q (.str (i++j)) H):=by
 intro pins s σ H x y v u Q I rx ry h
 obtain⟨i,j,rfl,rfl,hz,q⟩:=h
 obtain⟨t,rfl⟩:=rx
 obtain⟨t',rfl⟩:=ry
 exact add_str (λt' tk=>⟨.str (i++j),H,I.tok _,⟨_,rfl⟩,q⟩) hz
theorem qfy {x:V}{us:List Value}(r:Vals [x] us):∃u,us=[u]/\RelV x u:=by
 cases r with
 |cons r1 r2=>cases r2;exact⟨_,rfl,r1⟩
theorem qmf:qem X (.type "int") (λxs H Q=>(∃i,xs=[.int i]/\Q (.int i) H) \/ ∃k,xs=[.bl k]/\Q (.int (if k then 1 else 0)) H):=by
 intro pins s σ H xs us Q I r h
 rcases h with ⟨i,rfl,q⟩|⟨k,rfl,q⟩
 .obtain⟨u,rfl,t,rfl⟩:=qfy r
  exact call_int_int ⟨.int i,H,I,⟨_,rfl⟩,q⟩
 .obtain⟨u,rfl,r1⟩:=qfy r
  cases r1
  exact call_int_bool ⟨.int (if k then 1 else 0),H,I.tok _,⟨_,rfl⟩,q⟩
theorem qeb:qem X (.type "str") (λxs H Q=>∃i,xs=[.int i]/\i.natAbs.log2<1920/\Q (.str (toString i)) H):=by
 intro pins s σ H xs us Q I r h
 obtain⟨i,rfl,hz,q⟩:=h
 obtain⟨u,rfl,t,rfl⟩:=qfy r
 exact PySem.P.str_of_int hz ⟨.str _,H,I.tok _,⟨_,rfl⟩,q⟩
noncomputable def LenV (K:Ag)(x:V)(H:Hp)(n:Nat):Prop :=
 match x with
 |.str y=>y.length<=A5/\n=y.length
 |.byt y=>y.size<=A5/\n=y.size
 |.ref p=>(∃xs,SqL K H p xs/\n=xs.length) \/ ∃xs,SqT K H p xs/\n=xs.length
 |_=>False
theorem qaq:qem X (.builtin "len") (λxs H Q=>∃x n,xs=[x]/\LenV X.K x H n/\Q (.int n) H):=by
 intro pins s σ H xs us Q I r h
 obtain⟨x,n,rfl,e,q⟩:=h
 obtain⟨u,rfl,rx⟩:=qfy r
 have hl:=qkh
 have hs:A5=16777216:=Bp
 cases x with
 |str y =>
  obtain⟨t,rfl⟩:=rx
  obtain⟨hy,e'⟩:y.length<=A5/\n=y.length:=e
  subst e'
  exact len_str (by lia) ⟨.int _,H,I.tok _,⟨_,rfl⟩,q⟩
 |byt y =>
  obtain⟨t,rfl⟩:=rx
  obtain⟨hy,e'⟩:y.size<=A5/\n=y.size:=e
  subst e'
  exact PySem.W.len_bytes (by lia) ⟨.int _,H,I.tok _,⟨_,rfl⟩,q⟩
 |ref p =>
  cases rx
  have e':(∃xs,SqL X.K H p xs/\n=xs.length) \/ ∃xs,SqT X.K H p xs/\n=xs.length:=e
  rcases e' with ⟨xs,hx,e'⟩|⟨xs,hx,e'⟩
  .subst e'
   obtain⟨its,r',pl,hz⟩:=I.list hx
   have hlen:=r'.length
   exact Calls.call_len_list pl.isList (by simp only[Aw];lia) ⟨.int xs.length,H,I.tok _,⟨_,by simp only[Aw];rw[hlen]⟩,q⟩
  .subst e'
   obtain⟨its,r',pl,hz⟩:=I.tuple hx
   have hlen:=r'.length
   exact len_tuple pl (by simp only[Aw];lia) ⟨.int xs.length,H,I.tok _,⟨_,by simp only[Aw];rw[hlen]⟩,q⟩
 |_=>exact(show False from e).elim
end
end L2
namespace L2
open PySem PySem.Spec PyProof.Rows
structure ObjM (h:Heap)(x dx C:Addr)(mA:Str->Option Value):Prop where
 obj:h.get? x=some (Cw C dx)
 ns:h.Ns1 dx mA
 ne:dx≠x
theorem qmg {h:Heap}{dx:Addr}{mA:Str->Option Value}(n:h.Ns1 dx mA):∃od,h.get? dx=some od/\∀name,DG name od=some (mA name):=by
 obtain⟨o,es,ep,ho,hd,hk,_,hm⟩:=n
 refine⟨o,ho,λname=>?_⟩
 have e:=hm name
 unfold nsFind findBy at e
 rw[<- Array.find?_toList]at e
 unfold DG
 rw[hd]
 dsimp only
 split
 .rename_i y q
  rw[q]at e
  exact congrArg some e
 .rename_i q
  rw[q]at e
  have a:es.toList.any (·.refKey)=false:=by
   rw[List.any_eq_false]
   intro y hy
   obtain⟨z,t,hkey⟩:=hk y (Array.mem_toList_iff.mp hy)
   simp[DictEntry.refKey,hkey]
  have a':¬es.toList.any (·.refKey)=true:=by rw[a];exact AI
  rw[if_neg a']
  exact congrArg some e
theorem ObjM.look {h:Heap}{x dx C:Addr}{mA:Str->Option Value}(I:ObjM h x dx C mA):∃od,PySem.W.InstAt h x (Cw C dx) C (some od)/\∀name,DG name od=some (mA name) :=
 let ⟨od,ho,hl⟩:=qmg I.ns
 ⟨od,⟨I.obj,rfl,rfl,ho⟩,hl⟩
section
variable {prog:AU}{w:World}{A:Be}{E:Value->Aj->Prop}{s:Aj}{K:Ag}{x dx C f:Addr}{mA:Str->Option Value}{name:Str}{v:Value}
theorem qw3 {expr:Bool}{Q:Value->Aj->Prop}(X:K.In s.heap)(I:ObjM s.heap x dx C mA)(hg:Du K C name=true)(hh:CD K C=true)
  (ha:AT K (.ref C) name=some none) (hv:mA name=some v) (hv':PySem.W.handedIn v=true) (h:Q v { s with toks:=s.toks+1 }) :
  wpAny (model prog w) A (getAttr (.ref x) name expr) Q E s:=by
 obtain⟨od,J,hl⟩:=I.look
 exact PySem.W.get_value X J (Ej hg).1 (PySem.W.findObj_own hh ha rfl (by rw[hl,hv])) hv' h
theorem qug {pl:Sem Bool}{Q:Value×List Value->Aj->Prop}(X:K.In s.heap)(I:ObjM s.heap x dx C mA)(hg:Du K C name=true)
  (hf:AT K (.ref C) name=some (some (.ref f))) (ht:PySem.W.isFn K (.ref f)=true) (hv:mA name=none) (h:Q (.ref f,[.ref x]) s) :
  wpAny (model prog w) A (getMethod (.ref x) name pl) Q E s:=by
 obtain⟨od,J,hl⟩:=I.look
 exact PySem.W.method_fn X J (Ej hg).1 (Ej hg).2 hf (beq_iff_eq.mp ht) (by show (DG name od).map (·.isSome)=some false;rw[hl,hv];rfl) h
theorem qw4 {ns:List Str}{Q:Unit->Aj->Prop}(X:K.In s.heap)(I:ObjM s.heap x dx C mA)
  (hs:AT K (.ref C) "__setattr__" = some (some (.builtin "object.__setattr__"))) (hp:PySem.W.plainOver K C=true) (ht:PySem.W.takerIn K C name=some none) (hh:CD K C=true)
  (hw:Dt mA ns) (hsz:ns.length<=A5)
  (h:∀h',ObjM h' x dx C (λy=>if y=name then some v else mA y)->Cr dx s.heap h'->Q () { s with heap:=h',toks:=s.toks+2 }) :
  wpAny (model prog w) A (setAttr (.ref x) name v) Q E s:=by
 obtain⟨od,J,hl⟩:=I.look
 refine PySem.W.set_plain X J hs (PySem.W.osa_open (s:={ s with toks:=s.toks+1 }) (r:=none) X J hp ht λb=>?_)
 obtain⟨cd,hc,hd'⟩:=PySem.W.any_some hh
 have hx:s.heap.get? x=some ⟨.ref C,some dx,.plain,#[]⟩:=I.obj
 refine Af (A6 (Af (Af (wpAny_loadPart hx (Af (BF.here (s:={ s with toks:=s.toks+1 }) (PySem.W.looks_clsIn X hc) ?_))))))
 rw[hd']
 refine A6 (a:=some dx) (Af (A6 (Af ?_)))
 refine wpAny_nsSet1 (s:={ s with toks:=s.toks+1 }) I.ns λh' hn2 hs2=>?_
 obtain⟨oD,esD,epD,hoD,hdD,hcD⟩:=hn2.count (Dt.cons name v hw)
 refine Af (wpAny_lookBehind hoD (by rw[hdD];exact pastItsLine_dict (A0 hcD (by rw[At];lia))) ?_)
 exact A6 (h _ ⟨(hs2.2 _ (Bh I.ne)).trans I.obj,hn2,I.ne⟩ hs2)
theorem qod {R:Result->Aj->Prop}{vs:List Value}{kw:List (Str×Value)}(X:K.In s.heap)(hm:PySem.W.makesIn K C=true)
  (hi:AT K (.ref C) "__init__" = some (some (.ref f))) (hf:Ci K (.ref f)=some (.type "function"))
  (h:codeAny (model prog w) (A.under (.builtin "type.__call__" ⟨.ref C::vs,kw⟩)) (.call (.ref f) ⟨.ref (s.heap.objs.size+1)::vs,kw⟩) (PySem.W.InitBack (s.heap.objs.size+1) R)
   { s with heap:=(s.heap.push BV).push (Cw C s.heap.objs.size) }) :
  codeAny (model prog w) A (.call (.ref C) ⟨vs,kw⟩) R s:=by
 obtain⟨hh,g,d,t,os⟩:=s
 exact PySem.W.make_core (PySem.W.makes_of X hm) (PySem.W.looks_findIn X hi) (λself=>PySem.W.bind_fn X self hf) (.inl rfl) h
end
noncomputable def qc3 (f:Str)(v:V):List (Str×V)->List (Str×V)
 | []=>[(f,v)]
 | (g,x)::r=>if g=f then (g,v)::r else (g,x)::qc3 f v r
theorem qf2 (f g:Str)(v:V):∀fs:List (Str×V),(qc3 f v fs).lookup g=if g=f then some v else fs.lookup g
 | []=>by
  show CF g [(f,v)]=_
  by_cases h:g=f
  .have hb:(g == f)=true:=beq_iff_eq.mpr h
   simp only[CF,hb,if_pos h]
  .have hb:(g == f)=false:=beq_eq_false_iff_ne.mpr h
   simp only[CF,hb,if_neg h]
 | (k,x)::r=>by
  have ih:=qf2 f g v r
  rw[show qc3 f v ((k,x)::r)=(if k=f then (k,v)::r else (k,x)::qc3 f v r) from rfl]
  by_cases hk:k=f
  .rw[if_pos hk]
   by_cases h:g=k
   .have hb:(g == k)=true:=beq_iff_eq.mpr h
    simp only[CF,hb,if_pos (h.trans hk)]
   .have hb:(g == k)=false:=beq_eq_false_iff_ne.mpr h
    simp only[CF,hb,if_neg (λe:g=f=>h (e.trans hk.symm))]
  .rw[if_neg hk]
   by_cases h:g=k
   .have hb:(g == k)=true:=beq_iff_eq.mpr h
    simp only[CF,hb,if_neg (λe:g=f=>hk (h.symm.trans e))]
   .have hb:(g == k)=false:=beq_eq_false_iff_ne.mpr h
    simp only[CF,hb]
    exact ih
theorem qfd (f:Str)(v:V):∀fs:List (Str×V),f∈(qc3 f v fs).map (·.1)/\∀g,g∈fs.map (·.1)->g∈(qc3 f v fs).map (·.1)
 | []=>⟨by simp[qc3],λg h=>by simp at h⟩
 | (k,x)::r=>by
  obtain⟨i1,i2⟩:=qfd f v r
  rw[show qc3 f v ((k,x)::r)=(if k=f then (k,v)::r else (k,x)::qc3 f v r) from rfl]
  by_cases hk:k=f
  .rw[if_pos hk]
   subst hk
   exact⟨by simp,λg h=>by simpa using h⟩
  .rw[if_neg hk]
   refine⟨?_,λg h=>?_⟩
   .rw[A4]
    exact Ar _ i1
   .rw[A4]at h |-
    rcases An.mp h with e|e
    .exact An.mpr (.inl e)
    .exact Ar _ (i2 g e)
theorem qjk (f:Str)(v:V):∀fs:List (Str×V),(qc3 f v fs).length<=fs.length+1
 | []=>by simp[qc3]
 | (k,x)::r=>by
  have ih:=qjk f v r
  rw[show qc3 f v ((k,x)::r)=(if k=f then (k,v)::r else (k,x)::qc3 f v r) from rfl]
  by_cases hk:k=f
  .rw[if_pos hk,At,At];lia
  .rw[if_neg hk,At,At];lia
theorem RelO.some_of {v:V}{o:Option Value}(r:RelO (some v) o):∃u,o=some u/\RelV v u:=by
 cases o with
 |none=>exact(show False from r).elim
 |some u=>exact⟨u,rfl,r⟩
theorem RelO.none_of {o:Option Value}(r:RelO none o):o=none:=by
 cases o with
 |none=>rfl
 |some u=>exact(show False from r).elim
theorem qmh {v:V}{u:Value}(r:RelV v u):PySem.W.handedIn u=true:=by
 cases v with
 |non=>cases (show u=BJ from r);rfl
 |bl b=>cases (show u=Value.bool b from r);rfl
 |int i=>obtain⟨t,e⟩:=(show ∃t,u=Value.int i t from r);cases e;rfl
 |str x=>obtain⟨t,e⟩:=(show ∃t,u=Value.str x t from r);cases e;rfl
 |byt b=>obtain⟨t,e⟩:=(show ∃t,u=Value.bytes b t from r);cases e;rfl
 |flt b=>obtain⟨t,e⟩:=(show ∃t,u=Value.float b t from r);cases e;rfl
 |ref a=>cases (show u=Ao a from r);rfl
 |ty n=>cases (show u=BU n from r);rfl
section
variable {P:AU}{w:World}{H H':Hp}{h h':Heap}{a C dx:Addr}{fs fs':List (Str×V)}
theorem qj4 (hok:HOk P w H h)(e:H a=some (.ins C dx fs)):∃mA,ObjM h a dx C mA/\(∀f,RelO (fs.lookup f) (mA f))/\Dt mA (fs.map (·.1))/\fs.length<=1000/\H dx=some (.own a):=by
 obtain⟨d,z,ne,ob,mA,n,r,q⟩:=(show ObjOk P w H h a (.ins C dx fs) from hok a _ e)
 exact⟨mA,⟨ob,n,ne⟩,r,q,z,d⟩
end
structure Cls (K:Ag)(C:Addr):Prop where
 pg:Du K C AS=true
 hd:CD K C=true
 po:PySem.W.plainOver K C=true
 sa:AT K (.ref C) "__setattr__" = some (some (.builtin "object.__setattr__"))
theorem Cls.get {K:Ag}{C:Addr}(c:Cls K C)(f:Str):Du K C f=true:=c.pg
noncomputable def NoAttr (K:Ag)(C:Addr)(f:Str):Prop:=AT K (.ref C) f=some none
theorem NoAttr.taker {K:Ag}{C:Addr}{f:Str}(n:NoAttr K C f):PySem.W.takerIn K C f=some none:=by
 unfold PySem.W.takerIn
 rw[show AT K (.ref C) f=some none from n]
 rfl
structure Meth (K:Ag)(C:Addr)(m:Str)(f:Addr):Prop where
 at_:AT K (.ref C) m=some (some (.ref f))
 fn:PySem.W.isFn K (.ref f)=true
 kp:Bo K (.ref f)=true
section
variable {X:Cx}{pins:List (Addr×Obj)}{σ:St}{H:Hp}{s:Aj}{a C dx:Addr}{fs:List (Str×V)}{f:Str}{v:V}{A:Be}{E:Value->Aj->Prop}
theorem qp0 {b:Bool}{Q:Value->Aj->Prop}(I:Inv X pins σ H s)(e:H a=some (.ins C dx fs))(c:Cls X.K C)(n:NoAttr X.K C f)(l:fs.lookup f=some v)
  (h:∀u s',Inv X pins σ H s'->RelV v u->Q u s'):wpAny (model X.prog X.w) A (getAttr (.ref a) f b) Q E s:=by
 obtain⟨mA,O,r,_,_,_⟩:=qj4 I.hok e
 obtain⟨u,hu,ru⟩:=RelO.some_of (v:=v) (o:=mA f) (by rw[<- l];exact r f)
 exact qw3 I.kIn O (c.get f) c.hd n hu (qmh ru) (h u _ (I.tok _) ru)
theorem qp1 {m:Str}{g:Addr}{pl:Sem Bool}{Q:Value×List Value->Aj->Prop}(I:Inv X pins σ H s)(e:H a=some (.ins C dx fs))(c:Cls X.K C)(k:Meth X.K C m g)(l:fs.lookup m=none)
  (h:Q (.ref g,[.ref a]) s):wpAny (model X.prog X.w) A (getMethod (.ref a) m pl) Q E s:=by
 obtain⟨mA,O,r,_,_,_⟩:=qj4 I.hok e
 have hn:mA m=none:=RelO.none_of (by rw[<- l];exact r m)
 exact qug I.kIn O (c.get m) k.at_ k.fn hn h
theorem qp2 {y:V}{u:Value}{Q:Unit->Aj->Prop}(I:Inv X pins σ H s)(e:H a=some (.ins C dx fs))(c:Cls X.K C)(n:NoAttr X.K C f)(hl:fs.length<1000)(ry:RelV y u)
  (h:∀s',Inv X pins σ (upd H a (.ins C dx (qc3 f y fs))) s'->Q () s'):wpAny (model X.prog X.w) A (setAttr (.ref a) f u) Q E s:=by
 obtain⟨mA,O,r,wi,_,ho⟩:=qj4 I.hok e
 have hz:(fs.map (·.1)).length<=A5:=by rw[Ab,Bp];lia
 refine qw4 I.kIn O c.sa c.po n.taker c.hd wi hz λh' O' sb=>h _ ?_
 have hd:∃o,h'.get? dx=some o:=let ⟨o,_,_,e',_⟩:=O'.ns;⟨o,e'⟩
 refine I.write (x:=a) (e:=dx) (by rw[e];exact CL) (.inr ho) (λb q hb z=>(sb.2 b hb).trans z) hd ?_
 refine⟨by rw[zh O.ne];exact ho,?_,O.ne,O'.obj,_,O'.ns,λg=>?_,λg hg=>?_⟩
 .have:=qjk f y fs;lia
 .show RelO ((qc3 f y fs).lookup g) (if g=f then some u else mA g)
  rw[qf2]
  by_cases q:g=f
  .rw[if_pos q,if_pos q];exact ry
  .rw[if_neg q,if_neg q];exact r g
 .by_cases q:g=f
  .rw[q];exact(qfd f y fs).1
  .refine(qfd f y fs).2 g (wi g λz=>hg ?_)
   show (if g=f then some u else mA g)=none
   rw[if_neg q];exact z
theorem Inv.made (I:Inv X pins σ H s):Inv X pins σ (upd (upd H s.heap.objs.size (.own (s.heap.objs.size+1))) (s.heap.objs.size+1) (.ins C s.heap.objs.size []))
  { s with heap:=(s.heap.push BV).push (Cw C s.heap.objs.size) }:=by
 have e1:(s.heap.push BV).get? s.heap.objs.size=some BV:=AA s.heap rfl
 have e2:((s.heap.push BV).push (Cw C s.heap.objs.size)).get? (s.heap.objs.size+1)=some (Cw C s.heap.objs.size):=by
  have:=AA (s.heap.push BV) (o:=Cw C s.heap.objs.size) rfl
  rwa [Cu]at this
 have e3:(s.heap.push BV).Ns s.heap.objs.size (λ_=>none):=⟨BV,#[],_,e1,rfl,(λe he=>absurd he (by simp)),λ_=>rfl⟩
 have I1:=I.laid (a:=s.heap.objs.size) (o:=.own (s.heap.objs.size+1)) (h':=s.heap.push BV) (t':=s.toks) (λb u q=>Ap _ q) (A3 _) ⟨_,e1⟩
 refine I1.laid (a:=s.heap.objs.size+1) (o:=.ins C s.heap.objs.size []) (t':=s.toks) (λb u q=>Ap _ q) (BZ (Cu _ _)) ?_
 have ne:s.heap.objs.size≠s.heap.objs.size+1:=AR (CQ _)
 refine⟨by rw[zh ne,zd],B7 _,ne,e2,λ_=>none,(Heap.Ns1.of_empty e3).at λo q=>Ap _ q,λ_=>CL,λy hy=>absurd rfl hy⟩
theorem qrk {prog:AU}{w:World}{env:Env}{e:Expr}{f:Str}{pos:Pos}{s:Aj}{Q:Value->Aj->Prop}(hb:attributeBase e f env (eval e env)=eval e env)
  (h:wpAny (model prog w) A (eval e env) (λo s₁=>wpAny (model prog w) A (getAttr o f true) Q E s₁) E s):wpAny (model prog w) A (eval (.Attribute e f pos) env) Q E s :=
 Attribute_any_ h (by rw[arm_eval_Attribute,hb])
end
noncomputable def tFld (K:Ag)(ta:TE)(f:Str):TE:=λσ H Q=>ta σ H λx H1=>∃a C dx fs v,x=.ref a/\H1 a=some (.ins C dx fs)/\Cls K C/\NoAttr K C f/\fs.lookup f=some v/\Q v H1
noncomputable def sFld (K:Ag)(ta tv:TE)(f:Str):TS:=λD σ H=>tv σ H λy H1=>ta σ H1 λx H2=>∃a C dx fs,x=.ref a/\H2 a=some (.ins C dx fs)/\Cls K C/\NoAttr K C f/\fs.length<1000 /\
 D.nx σ (upd H2 a (.ins C dx (qc3 f y fs)))
section
variable {X:Cx}{o e value:Expr}{f:Str}{pos pos' tpos:Pos}{ta tv:TE}
theorem qbd (he:PE X e ta)(hb:attributeBase e f X.env (eval e X.env)=eval e X.env):PE X (.Attribute e f pos) (tFld X.K ta f):=by
 intro pins s σ H Q I h
 refine qrk hb (thn (he pins s σ H _ I h) λu s1 hh9=>?_)
 obtain⟨x,H1,I1,rx,a,C,dx,fs,v,ex,ea,c,n,l,q⟩:=hh9
 subst ex
 obtain rfl:u=Ao a:=rx
 exact qp0 I1 ea c n l λu' s2 I2 ru=>⟨v,H1,I2,ru,q⟩
theorem qdl (ha:PE X o ta)(hv:PE X value tv)(hs:swapsWith value (some (.Attribute o f pos')) pos.line X.env=pure false):PS X (.Assign [.Attribute o f pos'] value pos) (sFld X.K ta tv f):=by
 intro pins s σ H D I h
 refine DQ (thn (hv pins s σ H _ I h) λu s1 ⟨y,H1,I1,ry,q⟩=>thn (ha pins s1 σ H1 _ I1 q) λov s2 hh9=>?_) hs
 obtain⟨x,H2,I2,rx,a,C,dx,fs,ex,ea,c,n,l,q2⟩:=hh9
 subst ex
 obtain rfl:ov=Ao a:=rx
 exact qp2 I2 ea c n l ry λs3 I3=>⟨σ,_,I3,q2⟩
end
section
variable {X:Cx}{pins:List (Addr×Obj)}{σ:St}{H:Hp}{s:Aj}{A:Be}{E Q:Value->Aj->Prop}{c:Value}{b:Bool}
inductive TyOf (K:Ag) (H:Hp):V->Value->Prop where
 |non:TyOf K H .non (.type "NoneType")
 |bl (x:Bool):TyOf K H (.bl x) (.type "bool")
 |int (i:Int):TyOf K H (.int i) (.type "int")
 |str (x:Str):TyOf K H (.str x) (.type "str")
 |flt (x:UInt64):TyOf K H (.flt x) (.type "float")
 |lst {a:Addr} {xs:List V} (e:H a=some (.lst xs)):TyOf K H (.ref a) (.type "list")
 |frz {a:Addr} {o:Obj} {xs:List V} (e:H a=some (.frz o (.lst xs))):TyOf K H (.ref a) (.type "list")
 |tup {a:Addr} {xs:List V} (e:H a=some (.tup xs)):TyOf K H (.ref a) (.type "tuple")
 |dK {a:Addr} {kvs:List (Key×V)} (e:H a=some (.dK kvs)):TyOf K H (.ref a) (.type "dict")
 |dT {a:Addr} {kvs:List (List Key×V)} (e:H a=some (.dT kvs)):TyOf K H (.ref a) (.type "dict")
 |ins {a C dx:Addr} {fs:List (Str×V)} (e:H a=some (.ins C dx fs)) (cl:Cls K C) (ha:AT K (.ref C) "__class__" = some (some (.builtin "object.__class__")))
   (hn:DH K (.builtin "object.__class__") "__get__" = some (some (.builtin "getset_descriptor.__get__"))) (htk:PySem.W.takesIn K (.builtin "object.__class__")=some true)
   (hm:Ea K C (.type "object")=some true):TyOf K H (.ref a) (.ref C)
theorem qsq {x:V}{u t:Value}(I:Inv X pins σ H s)(rx:RelV x u)(ty:TyOf X.K H x t)(e:BC X.K t c=some b)(h:∀tk,Q (.bool b) { s with toks:=tk }) :
  wpAny (model X.prog X.w) A (call (.builtin "isinstance") [u,c]) Q E s:=by
 cases ty with
 |non=>cases (show u=BJ from rx);exact BM PySem.W.kitx_none I.kIn CL e (λz=>nomatch z) h
 |bl y=>cases (show u=Value.bool y from rx);exact BM PySem.W.kitx_bool I.kIn CL e (λz=>nomatch z) h
 |int i=>obtain⟨t,q⟩:=(show ∃t,u=Value.int i t from rx);cases q;exact BM PySem.W.kitx_int I.kIn CL e (λz=>nomatch z) h
 |str y=>obtain⟨t,q⟩:=(show ∃t,u=Value.str y t from rx);cases q;exact BM PySem.W.kitx_str I.kIn CL e (λz=>nomatch z) h
 |flt y=>obtain⟨t,q⟩:=(show ∃t,u=Value.float y t from rx);cases q;exact BM PySem.W.kitx_float I.kIn CL e (λz=>nomatch z) h
 | @lst a xs ea =>
  cases (show u=Ao a from rx)
  obtain⟨_,_,n,_,h1⟩:=(show ObjOk X.prog X.w H s.heap a (.lst xs) from I.hok a _ ea)
  exact BM PySem.W.kitx_list I.kIn ⟨_,h1,rfl⟩ e (λz=>nomatch z) h
 | @frz a ob xs ea =>
  cases (show u=Ao a from rx)
  obtain⟨_,_,_,n,_,h1⟩:=(show ObjOk X.prog X.w H s.heap a (.frz ob (.lst xs)) from I.hok a _ ea)
  exact BM PySem.W.kitx_list I.kIn ⟨_,h1,rfl⟩ e (λz=>nomatch z) h
 | @tup a xs ea =>
  cases (show u=Ao a from rx)
  obtain⟨_,_,_,p⟩:=(show ObjOk X.prog X.w H s.heap a (.tup xs) from I.hok a _ ea)
  obtain⟨o,h1,h2,_⟩:=p
  exact BM PySem.W.kitx_tuple I.kIn ⟨o,h1,h2⟩ e (λz=>nomatch z) h
 | @dK a kvs ea =>
  cases (show u=Ao a from rx)
  obtain⟨_,_,vs,_,p⟩:=(show ObjOk X.prog X.w H s.heap a (.dK kvs) from I.hok a _ ea)
  obtain⟨o,es,ep,h1,h2,_⟩:=p
  exact BM PySem.W.kitx_dict I.kIn ⟨o,h1,h2.1⟩ e (λz=>nomatch z) h
 | @dT a kvs ea =>
  cases (show u=Ao a from rx)
  obtain⟨_,_,xs,_,o,es,ep,h1,h2,_⟩:=(show ObjOk X.prog X.w H s.heap a (.dT kvs) from I.hok a _ ea)
  exact BM PySem.W.kitx_dict I.kIn ⟨o,h1,h2.1⟩ e (λz=>nomatch z) h
 | @ins a C dx fs ea cl ha hn htk hm =>
  cases (show u=Ao a from rx)
  obtain⟨mA,O,_⟩:=qj4 I.hok ea
  obtain⟨od,J,_⟩:=O.look
  exact BM (PySem.W.kitx_own (cl.get _) cl.hd ha hn htk hm) I.kIn J e (λz=>nomatch z) h
end
end L2
namespace L2
open PySem PySem.Spec PyProof.Rows
structure Room (k:Nat)(A:Be):Prop where
 hd:A.handled=none
 dp:A.depth+3*k+5<recursionLimit
 un:A.units+16*k+200<cLine
theorem Room.mono {j k:Nat}{A:Be}(r:Room k A)(h:j<=k):Room j A:=⟨r.hd,by have:=r.dp;lia,by have:=r.un;lia⟩
theorem Room.deeper {k:Nat}{A:Be}(r:Room (k+1) A)(env:Env):Room k (A.deeper env) :=
 ⟨r.hd,by have:=r.dp;show A.depth+1+3*k+5<_;lia,by have:=r.un;show A.units+3+16*k+200<_;lia⟩
theorem qp3 {A:Be}{C:Addr}{us:List Value}{kw:List (Str×Value)}:(A.under (.builtin "type.__call__" ⟨.ref C::us,kw⟩)).depth=A.depth+1:=by
 first|rfl|simp[Be.under,Code.weight,Code.isCreation,Code.isGuard,Code.isCaller,Code.frames,Code.isFrame,guardIds]
theorem qp4 {A:Be}{C:Addr}{us:List Value}{kw:List (Str×Value)}:(A.under (.builtin "type.__call__" ⟨.ref C::us,kw⟩)).units=A.units+1:=by
 first|rfl|simp[Be.under,Code.cUnits,Code.frames,Code.isFrame]
theorem Room.make {k:Nat}{A:Be}(r:Room (k+1) A)(C:Addr)(us:List Value)(kw:List (Str×Value)):Room k (A.under (.builtin "type.__call__" ⟨.ref C::us,kw⟩)) :=
 ⟨r.hd,by have:=r.dp;rw[qp3];lia,by have:=r.un;rw[qp4];lia⟩
theorem Room.depth {k:Nat}{A:Be}(r:Room k A):A.depth<recursionLimit:=by have:=r.dp;lia
theorem Room.units {k:Nat}{A:Be}(r:Room k A):A.units+64<cLine:=by have:=r.un;lia
theorem Room.units0 {k:Nat}{A:Be}(r:Room k A):A.units<cLine:=by have:=r.un;lia
noncomputable def tNil:TA:=λ_ H Q=>Q [] H
noncomputable def tCons (ta:TE)(tr:TA):TA:=λσ H Q=>ta σ H λx H1=>tr σ H1 λxs H2=>Q (x::xs) H2
section
variable {X:Cx}{e:Expr}{es:List Expr}{te:TE}{t:TA}{pos:Pos}
theorem qz:PA X [] tNil:=λ_ _ _ _ H Q I h=>DI ⟨[],H,I,.nil,h⟩
theorem qk (ha:PE X e te)(hr:PA X es t)(hs:starEach (e::es) X.env=(false,eval e X.env)::starEach es X.env:=by rfl):PA X (e::es) (tCons te t):=by
 intro pos pins s σ H Q I h
 rw[hs]
 show wpAny _ _ (spliced ((false,eval e X.env)::backTo pos (starEach es X.env))) _ _ s
 refine D8 (thn (ha pins s σ H _ I h) λu s1 hh9=>?_)
 obtain⟨x,H1,I1,r1,q1⟩:=hh9
 exact thn (hr pos pins s1 σ H1 _ I1 q1) λus s2 ⟨xs,H2,I2,r2,q2⟩=>⟨x::xs,H2,I2,.cons r1 r2,q2⟩
noncomputable def tTup (t:TA):TE:=λσ H Q=>t σ H λxs H1=>xs.length<=A5/\∀p,H1 p=none->Q (.ref p) (upd H1 p (.tup xs))
noncomputable def tLst (t:TA):TE:=λσ H Q=>t σ H λxs H1=>xs.length<=A5/\∀p,H1 p=none->Q (.ref p) (upd H1 p (.lst xs))
theorem zw {x1}(h:PA X es t):PE X (.Tuple es x1 pos) (tTup t):=by
 intro pins s σ H Q I hq
 refine wpAny_Tuple_spliced (thn (h pos pins s σ H _ I hq) λus s1 ⟨xs,H1,I1,r,z,q⟩=>⟨by rw[<- r.length];exact z,?_⟩)
 have hf:H1 s1.heap.objs.size=none:=I1.hok.fresh (A3 _)
 refine⟨.ref s1.heap.objs.size,upd H1 s1.heap.objs.size (.tup xs),I1.laid (t':=s1.toks) (λb u e=>Ap _ e) (A3 _) ?_,rfl,q _ hf⟩
 exact⟨z,us,r,⟨_,AA _ rfl,rfl,_,rfl⟩⟩
theorem zu (h:PA X es t):PE X (.List es pos) (tLst t):=by
 intro pins s σ H Q I hq
 refine wpAny_List_spliced (thn (h pos pins s σ H _ I hq) λus s1 ⟨xs,H1,I1,r,z,q⟩=>⟨by rw[<- r.length];exact z,?_⟩)
 have hf:H1 s1.heap.objs.size=none:=I1.hok.fresh (A3 _)
 refine⟨.ref s1.heap.objs.size,upd H1 s1.heap.objs.size (.lst xs),I1.laid (t':=s1.toks) (λb u e=>Ap _ e) (A3 _) ?_,rfl,q _ hf⟩
 exact⟨z,us,0,r,AA _ rfl⟩
end
noncomputable abbrev Sp:=List V->Hp->VK->XK->Prop
noncomputable abbrev CXT:=List Env->Hp->Aj->XK->Value->Aj->Prop
structure Env0 (P:AU)(w:World)(K:Ag)(mg:Str->Option Value)(base:Heap)(A:Be)(outer:List Env)(s:Aj)(H:Hp):Prop where
 frames:A.frames=some outer
 mod:Mod K mg base
 bs:∀b o,base.get? b=some o->s.heap.get? b=some o/\H b=none
 bsz:base.objs.size<=s.heap.objs.size
 funs:s.heap.FunFrames base outer
 frf:∀b∈frs outer,H b=none
 hok:HOk P w H s.heap
 bare:En s.gens
noncomputable def CE (outer:List Env)(P:AU)(w:World)(H:Hp)(s:Aj)(Q:VK)(u:Value)(s':Aj):Prop :=
 ∃v H',s'.os=s.os/\En s'.gens/\Un (frs outer) [] H H' s.heap s'.heap/\HOk P w H' s'.heap/\RelV v u/\Q v H'
noncomputable def CR (CX:CXT)(outer:List Env)(P:AU)(w:World)(H:Hp)(s:Aj)(Q:VK)(E:XK)(r:Result)(s':Aj):Prop :=
 match r with
 |.ok (.ret u)=>CE outer P w H s Q u s'
 |.ok _=>False
 |.error e=>CX outer H s E e s'
structure FnOk (P:AU)(w:World)(K:Ag)(mg:Str->Option Value)(base:Heap)(CX:CXT)(k:Nat)(f:Addr)(fd:AH)(ps:List Str)(sp:Sp):Prop where
 len:∀vs H Q E,sp vs H Q E->vs.length=ps.length
 run:∀(A:Be)(outer:List Env)(s:Aj)(H:Hp)(args:Args)(us:List Value)(vs:List V)(Q:VK)(E:XK),Room k A->Env0 P w K mg base A outer s H->BindsTo s fd args (ps.zip us)->Vals vs us->sp vs H Q E ->
  codeAny (model P w) A (.call (.ref f) args) (CR CX outer P w H s Q E) s
theorem Env0.make {P:AU}{w:World}{K:Ag}{mg:Str->Option Value}{base:Heap}{A:Be}{outer:List Env}{s:Aj}{H:Hp}(e:Env0 P w K mg base A outer s H)(C:Addr)(us:List Value)(kw:List (Str×Value)) :
  Env0 P w K mg base (A.under (.builtin "type.__call__" ⟨.ref C::us,kw⟩)) outer s H:=⟨by first|exact e.frames | (simpa [Be.under,Code.envs,Code.isFrame,pushEnvs] using e.frames),e.mod,e.bs,e.bsz,e.funs,e.frf,e.hok,e.bare⟩
section
variable {X:Cx}{pins:List (Addr×Obj)}{σ:St}{H:Hp}{s s':Aj}
theorem Inv.env0 (I:Inv X pins σ H s):Env0 X.prog X.w X.K X.mg X.base X.A X.stack s H :=
 ⟨I.ok.frames,I.ok.mod,I.bs,A0 I.ok.bsz I.sz,I.stack,I.stkFree,I.hok,I.bare⟩
theorem Inv.after {Q:VK}{u:Value}(I:Inv X pins σ H s)(h:CE X.stack X.prog X.w H s Q u s'):EP X pins σ Q u s':=by
 obtain⟨v,H',os,bare,un,hok,r,q⟩:=h
 obtain⟨hh,g,d,t,os'⟩:=s'
 obtain rfl:os'=s.os:=os
 exact⟨v,H',I.call (h':=hh) (g':=g) (d':=d) (t':=t) (ch:=[]) un hok bare (λb z=>absurd z (by simp)),r,q⟩
end
noncomputable def tCall (sp:Sp)(dvs:List V)(E:XK)(t:TA):TE:=λσ H Q=>t σ H λvs H1=>sp (vs++dvs) H1 Q E
noncomputable def tMeth (C:Addr)(m:Str)(sp:Sp)(dvs:List V)(E:XK)(ta:TE)(t:TA):TE:=λσ H Q=>ta σ H λx H1=>∃a dx fs,x=.ref a/\H1 a=some (.ins C dx fs)/\fs.lookup m=none /\
 t σ H1 λvs H2=>sp (x::(vs++dvs)) H2 Q E
noncomputable def tMake (C:Addr)(sp:Sp)(dvs:List V)(E:XK)(t:TA):TE:=λσ H Q=>t σ H λvs H1=>∀x dx,H1 x=none->H1 dx=none->dx≠x ->
 sp (.ref x::(vs++dvs)) (upd (upd H1 dx (.own x)) x (.ins C dx [])) (λv H2=>v=.non/\Q (.ref x) H2) E
noncomputable def Binds (K:Ag)(fd:AH)(ps:List Str)(ds:List Value):Prop :=
 ∀(s:Aj)(us:List Value),K.In s.heap->(us++ds).length=ps.length->BindsTo s fd ⟨us,[]⟩ (ps.zip (us++ds))
theorem Binds.all {K:Ag}{fd:AH}{ps:List Str}(h:∀us:List Value,us.length=ps.length->bindArgs fd ⟨us,[]⟩=pure (ps.zip us)):Binds K fd ps []:=λs us _ hl=>by
 rw[AV]at hl |-
 exact .of_eq (h us hl)
noncomputable def qf3 (CX:CXT)(X:Cx)(E:XK):Prop:=∀(pins:List (Addr×Obj))(σ:St)(H:Hp)(s:Aj)(e:Value)(s':Aj),Inv X pins σ H s->CX X.stack H s E e s'->X.xe e s'
section
variable {X:Cx}{CX:CXT}{k:Nat}{f C:Addr}{fd:AH}{ps:List Str}{sp:Sp}{dvs:List V}{ds:List Value}{E:XK}{x m:Str}{p pos apos:Pos}{e o:Expr}{es:List Expr}{ta:TE}{t:TA}
theorem quh {pins:List (Addr×Obj)}{σ:St}{H:Hp}{s:Aj}{Q:VK}{us:List Value}{vs:List V}(F:FnOk X.prog X.w X.K X.mg X.base CX k f fd ps sp)(hr:Room k X.A)(hb:Binds X.K fd ps ds)(hd:Vals dvs ds)(hx:qf3 CX X E)
  (I:Inv X pins σ H s) (r:Vals vs us) (h:sp (vs++dvs) H Q E):wpAny (model X.prog X.w) X.A (call (.ref f) us) (EP X pins σ Q) X.xe s:=by
 have r2:Vals (vs++dvs) (us++ds):=r.append hd
 have hl:(us++ds).length=ps.length:=by rw[<- r2.length];exact F.len _ _ _ _ h
 refine CW (CY (F.run X.A X.stack s H ⟨us,[]⟩ (us++ds) (vs++dvs) Q E hr I.env0 (hb s us I.kIn hl) r2 h) λr s' hq=>?_)
 cases r with
 |error e=>exact hx pins σ H s e s' I hq
 |ok fl =>
  cases fl with
  |ret u=>exact I.after hq
  |next=>exact B4 hq
  |brk=>exact B4 hq
  |cont=>exact B4 hq
theorem zp (F:FnOk X.prog X.w X.K X.mg X.base CX k f fd ps sp)(hr:Room k X.A)(hg:Gl X x)(hm:X.mg x=some (.ref f))(hk:Bo X.K (.ref f)=true)(hb:Binds X.K fd ps ds)(hd:Vals dvs ds)(hx:qf3 CX X E)
  (ha:PA X (e::es) t) (hdb:(x == ("__debug__" : Str))=false:=by decide) (he:starEach (e::es) X.env=(false,eval e X.env)::starEach es X.env:=by rfl) (hpl:(backTo pos (starEach es X.env)).any (·.1)=false:=by rfl) :
  PE X (.Call (.Name x p) (e::es) [] pos) (tCall sp dvs E t):=by
 intro pins s σ H Q I h
 refine BK (qe1 I hg hm ?_ hdb)
 refine CZ (h₀:=X.base) I.ok.mod.kin hk (thn (ha pos pins s σ H _ I h) λus s1 ⟨vs,H1,I1,r,q⟩=>⟨I1.kIn,?_⟩) he hpl
 exact quh F hr hb hd hx I1 r q
theorem qoe {pl:Sem Bool}(he:PE X o ta)(c:Cls X.K C)(hm:Meth X.K C m f)(F:FnOk X.prog X.w X.K X.mg X.base CX k f fd ps sp)(hr:Room k X.A)(hb:Binds X.K fd ps ds)(hd:Vals dvs ds)(hx:qf3 CX X E)
  (ht:eval (.Call (.Attribute o m apos) [] [] pos) X.env=(do
   let ov <- eval o X.env
   standAt apos.atName
   let (f,first) <- holding [ov] (getMethod ov m pl)
   callWith pos f first (backTo pos (starEach [] X.env)) (backToKw pos (keywordEach [] X.env))):=by rfl) :
  PE X (.Call (.Attribute o m apos) [] [] pos) (tMeth C m sp dvs E ta tNil):=by
 intro pins s σ H Q I h
 refine PySem.W.methodCall_KW (pl:=pl) (thn (he pins s σ H _ I h) λu s1 hh9=>?_) ht
 obtain⟨x,H1,I1,rx,a,dx,fs,ex,ea,l,q⟩:=hh9
 subst ex
 obtain rfl:u=Ao a:=rx
 refine qp1 I1 ea c hm l ?_
 exact PySem.W.callWith_K0 (first:=[.ref a]) I1.kIn hm.kp (quh (us:=[.ref a]) (vs:=[.ref a]) F hr hb hd hx I1 (.cons rfl .nil) q)
structure Mk (K:Ag)(C f:Addr):Prop where
 makes:PySem.W.makesIn K C=true
 init:AT K (.ref C) "__init__" = some (some (.ref f))
 fn:PySem.W.isFn K (.ref f)=true
 kp:Bo K (.ref C)=true
theorem qui {pins:List (Addr×Obj)}{σ:St}{H:Hp}{s:Aj}{Q:VK}{us:List Value}{vs:List V}(M:Mk X.K C f)(F:FnOk X.prog X.w X.K X.mg X.base CX k f fd ps sp)(hr:Room (k+1) X.A)(hb:Binds X.K fd ps ds)(hd:Vals dvs ds)
  (hx:qf3 CX X E) (I:Inv X pins σ H s) (r:Vals vs us)
  (h:∀x dx,H x=none->H dx=none->dx≠x->sp (.ref x::(vs++dvs)) (upd (upd H dx (.own x)) x (.ins C dx [])) (λv H2=>v=.non/\Q (.ref x) H2) E) :
  wpAny (model X.prog X.w) X.A (call (.ref C) us) (EP X pins σ Q) X.xe s:=by
 have hq:=h (s.heap.objs.size+1) s.heap.objs.size (I.hok.fresh (C4 _)) (I.hok.fresh (A3 _)) (AR (CQ _))
 have I2:=Inv.made (C:=C) I
 have r2:Vals (V.ref (s.heap.objs.size+1)::(vs++dvs)) (Ao (s.heap.objs.size+1)::(us++ds)):=.cons rfl (r.append hd)
 have hl:(Ao (s.heap.objs.size+1)::us++ds).length=ps.length:=by
  have e:=r2.length
  rw[F.len _ _ _ _ hq]at e
  exact e.symm
 refine CW (qod (f:=f) I.kIn M.makes M.init (beq_iff_eq.mp M.fn) (CY (F.run _ X.stack _ _ ⟨Ao (s.heap.objs.size+1)::us,[]⟩ (Ao (s.heap.objs.size+1)::(us++ds)) _ _ E (hr.make C us [])
  (I2.env0.make C us []) (hb _ (Ao (s.heap.objs.size+1)::us) I2.kIn hl) r2 hq) λr s' hq'=>?_))
 cases r with
 |error e=>exact hx pins σ _ _ e s' I2 hq'
 |ok fl =>
  cases fl with
  |ret u =>
   obtain⟨v,H',I3,rv,ev,q3⟩:=I2.after hq'
   subst ev
   exact⟨rv,⟨V.ref (s.heap.objs.size+1),H',I3,rfl,q3⟩⟩
  |next=>exact B4 hq'
  |brk=>exact B4 hq'
  |cont=>exact B4 hq'
theorem qw5 (M:Mk X.K C f)(F:FnOk X.prog X.w X.K X.mg X.base CX k f fd ps sp)(hr:Room (k+1) X.A)(hg:Gl X x)(hm:X.mg x=some (.ref C))(hb:Binds X.K fd ps ds)(hd:Vals dvs ds)(hx:qf3 CX X E)
  (ha:PA X (e::es) t) (hdb:(x == ("__debug__" : Str))=false:=by decide) (he:starEach (e::es) X.env=(false,eval e X.env)::starEach es X.env:=by rfl) (hpl:(backTo pos (starEach es X.env)).any (·.1)=false:=by rfl) :
  PE X (.Call (.Name x p) (e::es) [] pos) (tMake C sp dvs E t):=by
 intro pins s σ H Q I h
 refine BK (qe1 I hg hm ?_ hdb)
 refine CZ (h₀:=X.base) I.ok.mod.kin M.kp (thn (ha pos pins s σ H _ I h) λus s1 ⟨vs,H1,I1,r,q⟩=>⟨I1.kIn,?_⟩) he hpl
 exact qui M F hr hb hd hx I1 r q
end
section
variable {X:Cx}{CX:CXT}{k:Nat}{f C:Addr}{fd:AH}{ps ks:List Str}{sp:Sp}{E:XK}{x m:Str}{p pos apos kpos:Pos}{e o:Expr}{es:List Expr}{kws:List Keyword}{te ta:TE}{t tk:TA}{nm:Option Str}
variable {g:List Value->List Value->List Value}{gV:List V->List V->List V}
end
structure FnScope (N P:List Str)(sc:Scope):Prop where
 kind:sc.kind=.function
 co:sc.isCoroutine=false
 gen:sc.isGenerator=false
 nd:N.Nodup
 pre:N.take P.length=P
 par:∀x∈P,sc.names.lookup x=some .local\/sc.names.lookup x=some .cell
 nofree:∀y∈sc.names,y.2 ≠ .free
theorem qmi {kindOf:Str->Option Bv}{x:Str}:∀{binds:List (Str×Value)}{m:Str->Option Value},(∀v,(x,v)∉binds)->bindL kindOf binds m x=m x
 | [],_,_=>rfl
 | (n,v)::r,m,h=>by
  unfold bindL
  rw[qmi λw hw=>h w (Ar _ hw)]
  split
  .have:x≠n:=by rintro rfl;exact h v Am
   simp[this]
  .rfl
theorem qmj {kindOf:Str->Option Bv}{x:Str}:∀{binds:List (Str×Value)}{m:Str->Option Value},(∀v,(x,v)∉binds)->bindC kindOf binds m x=m x
 | [],_,_=>rfl
 | (n,v)::r,m,h=>by
  unfold bindC
  rw[qmj λw hw=>h w (Ar _ hw)]
  split
  .rfl
  .have:x≠n:=by rintro rfl;exact h v Am
   simp[this]
theorem qmk {kindOf:Str->Option Bv}{x:Str}{v:Value}:∀{P:List Str}{vs:List Value}{i:Nat}{m:Str->Option Value},P.Nodup->P[i]?=some x->vs[i]?=some v->kindOf x=some .local ->
  bindL kindOf (P.zip vs) m x=some v
 | [],_,_,_,_,h,_,_=>by simp at h
 |_::_,[],_,_,_,_,h,_=>by simp at h
 |p::P,w::vs,0,m,nd,h1,h2,hk=>by
  simp at h1 h2;subst h1;subst h2
  show bindL kindOf ((p,w)::P.zip vs) m p=_
  unfold bindL
  rw[qmi λv hv=>(Bg.mp nd).1 (List.of_mem_zip hv).1,if_pos hk]
  simp
 |p::P,w::vs,i+1,m,nd,h1,h2,hk=>by
  show bindL kindOf ((p,w)::P.zip vs) m x=_
  unfold bindL
  exact qmk (i:=i) (Bg.mp nd).2 (by simpa using h1) (by simpa using h2) hk
theorem qml {kindOf:Str->Option Bv}{x:Str}{v:Value}:∀{P:List Str}{vs:List Value}{i:Nat}{m:Str->Option Value},P.Nodup->P[i]?=some x->vs[i]?=some v->kindOf x≠some .local ->
  bindC kindOf (P.zip vs) m x=some v
 | [],_,_,_,_,h,_,_=>by simp at h
 |_::_,[],_,_,_,_,h,_=>by simp at h
 |p::P,w::vs,0,m,nd,h1,h2,hk=>by
  simp at h1 h2;subst h1;subst h2
  show bindC kindOf ((p,w)::P.zip vs) m p=_
  unfold bindC
  rw[qmj λv hv=>(Bg.mp nd).1 (List.of_mem_zip hv).1,if_neg hk]
  simp
 |p::P,w::vs,i+1,m,nd,h1,h2,hk=>by
  show bindC kindOf ((p,w)::P.zip vs) m x=_
  unfold bindC
  exact qml (i:=i) (Bg.mp nd).2 (by simpa using h1) (by simpa using h2) hk
noncomputable def start (N:List Str)(vs:List V):St:=vs.map some++List.replicate (N.length-vs.length) none
noncomputable def qnk (CX:CXT)(P:AU)(w:World)(K:Ag)(mg:Str->Option Value)(base:Heap)(N:List Str)(qual:Str)(scope:Scope)(f:Addr)(cd:Value)(A:Be)(outer:List Env)(s:Aj)(H:Hp)(E:XK):Cx where
 prog:=P
 w:=w
 K:=K
 mg:=mg
 base:=base
 A:=A.deeper (envOfC qual scope s.heap.objs.size f cd)
 N:=N
 s₀:=s
 H₀:=H
 env:=envOfC qual scope s.heap.objs.size f cd
 outer:=outer
 stack:=envOfC qual scope s.heap.objs.size f cd::outer
 ex:=[]
 calm:=true
 fn:=λ_=>true
 pn:=[]
 xe:=λe s'=>wpAny (model P w) (A.deeper (envOfC qual scope s.heap.objs.size f cd)) (leaving (envOfC qual scope s.heap.objs.size f cd) e) (λ_ s''=>CX outer H s E e s'') (λe' s''=>CX outer H s E e' s'') s'
theorem qof {sc:Scope}{n:Nat}{x:Str}(h:sc.names.lookup x=some .cell):∃c,(cellsFrom n sc.names []).lookup x=some c:=by
 have q:=PySem.W.cellsFrom_some sc.names n [] (.inl h)
 exact CM.mp q
theorem qsr {CX:CXT}{P:AU}{w:World}{K:Ag}{mg:Str->Option Value}{base:Heap}{N ps:List Str}{qual:Str}{scope:Scope}{f:Addr}{cd:Value}{A:Be}{outer:List Env}{s s1:Aj}{H:Hp}{E:XK}{us:List Value}{vs:List V}
  (S:FnScope N ps scope) (hd:A.handled=none) (e0:Env0 P w K mg base A outer s H) (hl:vs.length=ps.length) (r:Vals vs us)
  (x:InCallC s s.heap.objs.size (bindL (envOfC qual scope s.heap.objs.size f cd).kindOf (ps.zip us) λ_=>none) (cellsFrom (s.heap.objs.size+1) scope.names []) (bindC (envOfC qual scope s.heap.objs.size f cd).kindOf (ps.zip us) λ_=>none) s1) :
  Inv (qnk CX P w K mg base N qual scope f cd A outer s H E) [] (start N vs) H s1:=by
 have hpl:ps.length<=N.length:=by have:=congrArg Cv S.pre;rw[Av]at this;lia
 obtain⟨h1,tk,rfl,hk⟩:=x.done
 have noA:∀b:Addr,b∉(qnk CX P w K mg base N qual scope f cd A outer s H E).ex:=λb z=>absurd (show b∈([]:List Addr) from z) (by simp)
 refine⟨⟨e0.mod,S.kind,rfl,rfl,A3 _,λy z c h1 h2=>?_,λy hy=>?_,λy c _ h=>?_,λ_=>hd,Be.frames_deeper e0.frames,.inr ⟨rfl,rfl⟩,λb z=>absurd z (noA b),e0.bs,e0.bsz,λb _ _=>noA b,λb z=>absurd z (noA b),e0.funs,e0.frf⟩,
  rfl,e0.bare,Un.kept hk,⟨_,x.toInCall.ns,λi y v h1 h2 h3=>?_⟩,λy c h=>⟨_,x.cell y c h⟩,e0.hok.fresh (A3 _),λy c h=>?_,λp hp=>absurd (show p∈([]:List (Addr×Obj)) from hp) (by simp),e0.hok.kept hk,?_⟩
 .exact name_of_addr x.apart (CP h1) (CP h2)
 .have hy:scope.names.lookup y=some .cell\/scope.names.lookup y=some .free:=hy
  rcases hy with hy|hy
  .exact qof hy
  .exact absurd rfl (S.nofree _ (CP hy))
 .exact DE (x.above y c (CP h))
 .have hi:i<vs.length:=by
   unfold start at h2
   by_cases hi:i<vs.length
   .exact hi
   .rw[A9 (by simpa using hi)]at h2
    rw[List.getElem?_replicate]at h2
    split at h2 <;>cases h2
  have ha:vs[i]?=some v:=by
   unfold start at h2
   rw[AF (by simpa using hi),Al]at h2
   cases e:vs[i]? with
   |none=>rw[e]at h2;cases h2
   |some a=>rw[e]at h2;cases h2;rfl
  obtain⟨u,hu,rv⟩:=r.get ha
  have hp:ps[i]?=some y:=by
   rw[<- S.pre,B5 (by lia)];exact h1
  have ndP:ps.Nodup:=by rw[<- S.pre];exact S.nd.sublist (BQ _ _)
  refine⟨u,rv,?_⟩
  rcases S.par y (Ai hp) with k|k
  .exact .inl ⟨k,qmk ndP hp hu k⟩
  .obtain⟨c,e⟩:=qof (n:=s.heap.objs.size+1) k
   refine .inr ⟨.inl k,c,e,?_⟩
   have q:=x.cell y c e
   rw[qml ndP hp hu (by show scope.names.lookup y≠_;rw[k];decide)]at q
   exact q
 .exact e0.hok.fresh (DE (x.above y c (CP h)))
 .unfold start
  show _=N.length
  rw[Ah,Ab,List.length_replicate]
  lia
theorem quj {CX:CXT}{P:AU}{w:World}{K:Ag}{mg:Str->Option Value}{base:Heap}{k:Nat}{f:Addr}{name qual:Str}{params:Arguments}{body:List Stmt}{scope:Scope}{dV kV doc pm cdv ct oc:Value}{an od:Option Addr}
  {osl:Array (Option Value)} {N ps:List Str} {sp:Sp} (lk:K.lookup f=some ⟨oc,od,.func (Bz name qual params body scope dV kV doc pm an cdv ct),osl⟩) (hcd:BY K cdv qual=true) (S:FnScope N ps scope)
  (len:∀vs H Q E,sp vs H Q E->vs.length=ps.length)
  (hbody:∀(A:Be)(outer:List Env)(s:Aj)(H:Hp)(vs:List V)(Q:VK)(E:XK),Room k (A.deeper (envOfC qual scope s.heap.objs.size f cdv))->sp vs H Q E ->
   ∃t,PSs (qnk CX P w K mg base N qual scope f cdv A outer s H E) body t/\t { nx:=λ_ H'=>Q .non H',rt:=Q } (start N vs) H) :
  FnOk P w K mg base CX (k+1) f (Bz name qual params body scope dV kV doc pm an cdv ct) ps sp:=by
 refine⟨len,λA outer s H args us vs Q E hr e0 hb r hsp=>?_⟩
 have hl:=len _ _ _ _ hsp
 have KX:K.In s.heap:=e0.mod.kin.keeps λb o e=>(e0.bs b o e).1
 have lim:s.heap.NoLimit:=e0.mod.nolimit.keeps λb o e=>(e0.bs b o e).1
 have hkind:∀y∈ps.zip us,scope.names.lookup y.1=some .local\/(scope.names.lookup y.1=some .cell/\((cellsFrom (s.heap.objs.size+1) scope.names []).lookup y.1).isSome=true):=λ⟨n,v⟩ hy=>by
  rcases S.par n (List.of_mem_zip hy).1 with q|q
  .exact .inl q
  .exact .inr ⟨q,PySem.W.cellsFrom_some _ _ _ (.inl q)⟩
 refine codeAny_call_function hr.depth (KX _ _ lk) rfl S.co S.gen rfl (PySem.W.codeRec_of KX hcd) (hb _ _ _ _ ?_)
 refine wpAny_newFunctionEnv_cells S.kind hkind λenv he s1 x=>?_
 subst he
 refine⟨lim.keeps x.toInCall.keep,codeAny_func ?_⟩
 obtain⟨t,ht,hq⟩:=hbody A outer s H vs Q E (hr.deeper _) hsp
 have I:Inv (qnk CX P w K mg base N qual scope f cdv A outer s H E) [] (start N vs) H s1:=qsr S hr.hd e0 hl r x
 refine BR (ht [] s1 (start N vs) H _ I hq) (λfl s' hs=>?_) λe s' hs=>hs
 have fin:∀{σ':St}{H':Hp}{v:V}{u:Value},Inv (qnk CX P w K mg base N qual scope f cdv A outer s H E) [] σ' H' s'->RelV v u->Q v H'->CE outer P w H s Q u s' :=
  λ{σ' H' v u} J rv q=>⟨v,H',J.os,J.bare,J.base,J.hok,rv,q⟩
 cases fl with
 |ret u =>
  obtain⟨v,σ',H',J,rv,q⟩:=hs
  exact fin J rv q
 |next =>
  obtain⟨σ',H',J,q⟩:=hs
  exact fin (v:=V.non) (u:=BJ) J rfl q
 |brk =>
  obtain⟨_,_,_,q⟩:=hs
  exact B4 q
 |cont =>
  obtain⟨_,_,_,q⟩:=hs
  exact B4 q
end L2
namespace L2
open PySem PySem.Spec PyProof.Rows
section
variable {X:Cx}{x:Str}{p pos:Pos}{e:Expr}{es:List Expr}{t:TA}{id T:String}{r:List V->Hp->VK->Prop}
noncomputable def tCB (r:List V->Hp->VK->Prop)(t:TA):TE:=λσ H Q=>t σ H λvs H1=>r vs H1 Q
theorem zq (hc:qem X (.builtin id) r)(hg:Gl X x)(hm:X.mg x=none)(hv:bootBuiltins x=some (.builtin id))(ha:PA X (e::es) t)(hn:x ≠ "__name__" := by decide)(hdb:(x == ("__debug__" : Str))=false:=by decide)
  (he:starEach (e::es) X.env=(false,eval e X.env)::starEach es X.env:=by rfl) (hpl:(backTo pos (starEach es X.env)).any (·.1)=false:=by rfl):PE X (.Call (.Name x p) (e::es) [] pos) (tCB r t):=by
 intro pins s σ H Q I h
 refine BK (qfl I hg hm hv ?_ hn hdb)
 exact DU (thn (ha pos pins s σ H _ I h) λus s1 ⟨vs,H1,I1,r1,q1⟩=>hc pins s1 σ H1 vs us Q I1 r1 q1) he hpl
theorem qcf (hc:qem X (.type T) r)(hg:Gl X x)(hm:X.mg x=none)(hv:bootBuiltins x=some (.type T))(ha:PA X (e::es) t)(hn:x ≠ "__name__" := by decide)(hdb:(x == ("__debug__" : Str))=false:=by decide)
  (he:starEach (e::es) X.env=(false,eval e X.env)::starEach es X.env:=by rfl) (hpl:(backTo pos (starEach es X.env)).any (·.1)=false:=by rfl):PE X (.Call (.Name x p) (e::es) [] pos) (tCB r t):=by
 intro pins s σ H Q I h
 refine BK (qfl I hg hm hv ?_ hn hdb)
 exact B6 (thn (ha pos pins s σ H _ I h) λus s1 ⟨vs,H1,I1,r1,q1⟩=>hc pins s1 σ H1 vs us Q I1 r1 q1) he hpl
end
end L2
namespace HT
open PySem PyProof.Rows
section
open PySem.SeqAt
open PySem.AutoSeq1 (wpAny_loadPart')
open PySem.MeetsSeq PySem.MeetsSeq2 PySem.MeetsSeq3
end
section
variable {prog:AU}{w:World}{A:Be}{E:Value->Aj->Prop}{s:Aj}
noncomputable def sIx (n d:Nat):Option Int->Nat
 |none=>d
 |some v=>if v<0 then (v+(n:Int)).toNat else min v.toNat n
end
end HT
namespace L2
open PySem PySem.Spec PyProof.Rows
noncomputable abbrev TO:=St->Hp->(Option Int->Hp->Prop)->Prop
noncomputable def PO (X:Cx)(e:Option Expr)(t:TO):Prop :=
 ∀(pins:List (Addr×Obj))(s:Aj)(σ:St)(H:Hp)(Q:Option Int->Hp->Prop),Inv X pins σ H s->t σ H Q ->
  wpAny (model X.prog X.w) X.A (evalPart e X.env) (λu s'=>∃o H',Inv X pins σ H' s'/\IsPart u o/\Q o H') X.xe s
noncomputable def qw6:TO:=λ_ H Q=>Q none H
noncomputable def tPart (t:TE):TO:=λσ H Q=>t σ H λx H1=>∃i,x=.int i/\Q (some i) H1
section
variable {X:Cx}{e:Expr}{te:TE}{lo hi:Option Expr}{tl th:TO}{pos p2:Pos}
theorem qb8:PO X none qw6:=by
 intro pins s σ H Q I h
 rw[evalPart_none]
 exact A6 ⟨none,H,I,.none,h⟩
theorem qa2 (h:PE X e te):PO X (some e) (tPart te):=by
 intro pins s σ H Q I hw
 rw[evalPart_some]
 refine thn (h pins s σ H _ I hw) λu s1 hh9=>?_
 obtain⟨x,H1,I1,r1,q1⟩:=hh9
 obtain⟨i,rfl,q⟩:=q1
 obtain⟨t,rfl⟩:=r1
 exact⟨some i,H1,I1,.int i t,q⟩
noncomputable def SlR (X:Cx)(r:V->Option Int->Option Int->Hp->VK->Prop):Prop :=
 ∀(pins:List (Addr×Obj))(s:Aj)(σ:St)(H:Hp)(x:V)(v vl vu:Value)(lo hi:Option Int)(sl:Addr)(Q:VK),Inv X pins σ H s->RelV x v->s.heap.IsSliceOf sl vl vu .none->IsPart vl lo->IsPart vu hi->r x lo hi H Q ->
  ∃T id,typeLookup (.type T) "__getitem__" = pure (some (.builtin id))/\s.TypeIs v T/\wpAny (model X.prog X.w) X.A (getItem v (.ref sl)) (EP X pins σ Q) X.xe s
noncomputable def tSl (r:V->Option Int->Option Int->Hp->VK->Prop)(te:TE)(tl th:TO):TE:=λσ H Q=>te σ H λx H1=>tl σ H1 λl H2=>th σ H2 λu H3=>r x l u H3 Q
theorem qa3 {r:V->Option Int->Option Int->Hp->VK->Prop}(hr:SlR X r)(he:PE X e te)(hl:PO X lo tl)(hu:PO X hi th):PE X (.Subscript e (.Slice lo hi none p2) pos) (tSl r te tl th):=by
 intro pins s σ H Q I h
 refine Subscript_ (thn (he pins s σ H _ I h) λv s1 hh9=>?_)
 obtain⟨x,H1,I1,r1,q1⟩:=hh9
 refine wpAny_Slice (thn (hl pins s1 σ H1 _ I1 q1) λvl s2 ⟨l,H2,I2,pl,q2⟩=>thn (hu pins s2 σ H2 _ I2 q2) λvu s3 hh9=>?_)
 obtain⟨u,H3,I3,pu,q3⟩:=hh9
 rw[evalPart_none]
 refine A6 ?_
 have I4:Inv X pins σ H3 { s3 with heap:=s3.heap.push { cls:=.type "slice",data:=.fields #[vl,vu,.none] } }:=I3.kept (t':=s3.toks) λb ob q=>Ap _ q
 obtain⟨T,id,hT,ht,hg⟩:=hr pins { s3 with heap:=s3.heap.push { cls:=.type "slice",data:=.fields #[vl,vu,.none] } } σ H3 x v vl vu l u s3.heap.objs.size Q I4 r1 (Heap.IsSliceOf.new ..) pl pu q3
 show wpAny (model X.prog X.w) X.A (subscriptTail e (.Slice lo hi none p2) v (.ref s3.heap.objs.size)) (EP X pins σ Q) X.xe { s3 with heap:=s3.heap.push { cls:=.type "slice",data:=.fields #[vl,vu,.none] } }
 exact tail_any (ops:=[.ref s3.heap.objs.size,v]) ht hT hg (by with_unfolding_all rfl)
noncomputable def qhf (xs:List V)(lo hi:Option Int):List V:=(xs.drop (HT.sIx xs.length 0 lo)).take (HT.sIx xs.length xs.length hi-HT.sIx xs.length 0 lo)
theorem qog (xs:List V)(lo hi:Option Int):(qhf xs lo hi).length<=xs.length:=by
 unfold qhf
 rw[Av,Ba]
 lia
end
end L2
namespace L2
open PySem PySem.Spec PyProof.Rows
noncomputable def ixN (n:Nat)(i:Int):Option Nat:=if 0<=i then (if i<n then some i.toNat else none) else if -(n:Int)<=i then some (i+n).toNat else none
noncomputable def atI {α:Type}(xs:List α)(i:Int):Option α:=(ixN xs.length i).bind λj=>xs[j]?
theorem qrl {n:Nat}{i:Int}{j:Nat}(h:ixN n i=some j):seqIndex? i n=some j/\j<n /\ -(n:Int)<=i/\i<n:=by
 unfold ixN at h
 by_cases h0:0<=i
 .rw[if_pos h0]at h
  by_cases h1:i<n
  .rw[if_pos h1]at h
   have e:i.toNat=j:=AD h
   exact⟨by rw[seqIndex_of h0 h1,e],by lia,by lia,h1⟩
  .rw[if_neg h1]at h;cases h
 .rw[if_neg h0]at h
  by_cases h1 : -(n:Int)<=i
  .rw[if_pos h1]at h
   have e:(i+n).toNat=j:=AD h
   exact⟨by rw[seqIndex_neg (by lia) h1,e],by lia,h1,by lia⟩
  .rw[if_neg h1]at h;cases h
theorem qnl {α:Type}{xs:List α}{i:Int}{v:α}(h:atI xs i=some v):∃j,seqIndex? i xs.length=some j/\xs[j]?=some v/\j<xs.length /\ -(xs.length:Int)<=i/\i<xs.length:=by
 unfold atI at h
 cases e:ixN xs.length i with
 |none=>rw[e]at h;cases h
 |some j =>
  rw[e]at h
  obtain⟨h1,h2,h3,h4⟩:=qrl e
  exact⟨j,h1,h,h2,h3,h4⟩
theorem qbu {α:Type}{xs:List α}{j:Nat}{v:α}(h:xs[j]?=some v):atI xs (j:Int)=some v:=by
 have hj:j<xs.length:=(Ac.mp h).1
 have e:ixN xs.length (j:Int)=some j:=by
  unfold ixN
  rw[if_pos (by lia),if_pos (by lia)];simp
 unfold atI;rw[e];exact h
noncomputable def qw7 (b:Expr):Prop:=∀o i,subscripted b false o i=operate [o,i] (getItem o i)
noncomputable def IxR (X:Cx)(r:R2):Prop :=
 ∀(value slice:Expr)(pins:List (Addr×Obj))(s:Aj)(σ:St)(H:Hp)(x y:V)(v u:Value)(Q:VK),Inv X pins σ H s->RelV x v->RelV y u->r x y H Q ->
  subscripted slice false v u=operate [v,u] (getItem v u)->wpAny (model X.prog X.w) X.A (subscriptTail value slice v u) (EP X pins σ Q) X.xe s
noncomputable def MtR (X:Cx)(id:String)(r:V->List V->Hp->VK->Prop):Prop :=
 ∀(pins:List (Addr×Obj))(s:Aj)(σ:St)(H:Hp)(x:V)(xs:List V)(v:Value)(us:List Value)(Q:VK),Inv X pins σ H s->RelV x v->Vals xs us->r x xs H Q ->
  wpAny (model X.prog X.w) X.A (call (.builtin id) (v::us)) (EP X pins σ Q) X.xe s
section
variable {X:Cx}{a b:Expr}{ta tb:TE}{pos:Pos}
theorem jb {r:R2}(hr:IxR X r)(ha:PE X a ta)(hb:PE X b tb)(hs:qw7 b):PE X (.Subscript a b pos) (tOp r ta tb):=by
 intro pins s σ H Q I h
 exact Subscript_ (binT ha hb I h λv u s2 x y H2 I2 rx ry q=>hr a b pins s2 σ H2 x y v u Q I2 rx ry q (hs _ _))
noncomputable def rIxL (K:Ag):R2:=λx y H Q=>∃p xs i v,x=.ref p/\y=.int i/\SqL K H p xs/\atI xs i=some v/\Q v H
noncomputable def rIxT (K:Ag):R2:=λx y H Q=>∃p xs i v,x=.ref p/\y=.int i/\SqT K H p xs/\atI xs i=some v/\Q v H
noncomputable def rIxS:R2:=λx y H Q=>∃z i c,x=.str z/\y=.int i/\z.length<=A5/\atI z.cps.toList i=some c/\Q (.str ⟨#[c]⟩) H
theorem jd:IxR X (rIxL X.K):=by
 intro value slice pins s σ H x y v u Q I rx ry h hs
 obtain⟨p,xs,i,z,rfl,rfl,hq,he,q⟩:=h
 cases rx
 obtain⟨t,rfl⟩:=ry
 obtain⟨its,r,pl,hz⟩:=I.list hq
 obtain⟨j,h1,h2,h3,h4,h5⟩:=qnl he
 obtain⟨w,ew,rw'⟩:=r.get h2
 have hl:=r.length
 have hn:=qkh
 have fin:EP X pins σ Q w s:=⟨z,H,I,rw',q⟩
 by_cases h0:0<=i
 .have hj:i.toNat=j:=by
   rw[seqIndex_of h0 h5]at h1
   exact AD h1
  exact item_listR pl.isList h0 (by lia) (by rw[hj];simpa using ew) fin hs
 .have hj:(i+(its.toArray.size:Int)).toNat=j:=by
   rw[seqIndex_neg (by lia) h4]at h1
   rw[Aw,<- hl]
   exact AD h1
  exact subscriptTail_builtinR (x:=w) pl.isList.typeIs slot_list_getitem.lookup
   (wpAny_getItem_list_neg (Q:=λr s'=>r=w/\EP X pins σ Q r s') pl.isList (by lia) (by rw[Aw] <;>lia) (by lia) (by rw[hj];simpa using ew) ⟨rfl,fin⟩) hs
theorem jc:IxR X (rIxT X.K):=by
 intro value slice pins s σ H x y v u Q I rx ry h hs
 obtain⟨p,xs,i,z,rfl,rfl,hq,he,q⟩:=h
 cases rx
 obtain⟨t,rfl⟩:=ry
 obtain⟨its,r,pl,hz⟩:=I.tuple hq
 obtain⟨j,h1,h2,h3,h4,h5⟩:=qnl he
 obtain⟨w,ew,rw'⟩:=r.get h2
 have hl:=r.length
 have hn:=qkh
 have fin:EP X pins σ Q w s:=⟨z,H,I,rw',q⟩
 exact subscriptTail_builtinR (x:=w) pl.typeIs slot_tuple_getitem.lookup
  (getItem_tuple (j:=j) (Q:=λr s'=>r=w/\EP X pins σ Q r s') pl (by lia) (by lia) (by rw[Aw,<- hl];exact h1) (by simpa using ew) ⟨rfl,fin⟩) hs
theorem quk:IxR X rIxS:=by
 intro value slice pins s σ H x y v u Q I rx ry h hs
 obtain⟨z,i,c,rfl,rfl,hz,he,q⟩:=h
 obtain⟨t,rfl⟩:=rx
 obtain⟨t',rfl⟩:=ry
 obtain⟨j,h1,h2,h3,h4,h5⟩:=qnl he
 have hl:z.cps.toList.length=z.length:=by simp[Str.length]
 rw[hl]at h1 h4 h5
 have hn:=qkh
 exact tail_any (typeIs_str s z t) slot_str_getitem.lookup (getItem_str (c:=c) (by
  have e1:decide (i < -(2 ^ 63:Int))=false:=decide_eq_false (by lia)
  have e2:decide (i ≥ 2 ^ 63)=false:=decide_eq_false (by lia)
  rw[e1,e2,Bool.or_false]) (by rw[h1];simpa using h2) ⟨.str ⟨#[c]⟩,H,I.tok _,⟨_,rfl⟩,q⟩) hs
theorem qp5 (its:List Value)(n j:Nat)(u:Value):D9 (·.setIfInBounds j u) { cls:=.type "list",data:=.seq its.toArray n }={ cls:=.type "list",data:=.seq (its.set j u).toArray n }:=by
 simp[D9]
theorem Inv.lst {pins:List (Addr×Obj)}{σ:St}{H:Hp}{s:Aj}{p:Addr}{xs:List V}(I:Inv X pins σ H s)(h:H p=some (.lst xs)) :
  ∃(its:List Value)(n:Nat),Vals xs its/\s.heap.get? p=some { cls:=.type "list",data:=.seq its.toArray n }/\xs.length<=A5:=by
 obtain⟨z,its,n,r,e⟩:=I.hok p _ h
 exact⟨its,n,r,e,z⟩
theorem Inv.lstUpd {pins:List (Addr×Obj)}{σ:St}{H:Hp}{s:Aj}{p:Addr}{xs ys:List V}{its its':List Value}{n n':Nat}{f:Obj->Obj}(I:Inv X pins σ H s)(h:H p=some (.lst xs))
  (ho:s.heap.get? p=some { cls:=.type "list",data:=.seq its.toArray n }) (hf:f { cls:=.type "list",data:=.seq its.toArray n }={ cls:=.type "list",data:=.seq its'.toArray n' }) (r:Vals ys its') (hz:ys.length<=A5) (t:Nat) :
  Inv X pins σ (upd H p (.lst ys)) { s with heap:=s.heap.update p f,toks:=t }:=by
 have e:(s.heap.update p f).get? p=some { cls:=.type "list",data:=.seq its'.toArray n' }:=by
  rw[B8 f ho (by rw[hf] <;>rfl),hf]
 refine I.write (x:=p) (e:=p) (by rw[h];trivial) (.inl rfl) (λb u hb q=>(B3 _ _ (Bh hb)).trans q) ⟨_,e⟩ ?_
 exact⟨hz,its',n',r,e⟩
noncomputable def rSetL:V->V->V->Hp->(Hp->Prop)->Prop:=λo i v H Q=>∃p xs k j,o=.ref p/\i=.int k/\H p=some (.lst xs)/\ixN xs.length k=some j/\Q (upd H p (.lst (xs.set j v)))
theorem qoh:PSet X rSetL:=by
 intro pins s σ H o i v ov iv u Q I ro ri rv h
 obtain⟨p,xs,k,j,rfl,rfl,hp,hj,q⟩:=h
 cases ro
 obtain⟨t,rfl⟩:=ri
 obtain⟨its,n,r,ho,hz⟩:=I.lst hp
 obtain⟨h1,h2,h3,h4⟩:=qrl hj
 have hl:=r.length
 have hn:=qkh
 have I':Inv X pins σ (upd H p (.lst (xs.set j v))) { s with heap:=s.heap.update p (D9 (·.setIfInBounds j u)) } :=
  I.lstUpd hp ho (qp5 its n j u) (r.set rv j) (by rw[BN];exact hz) s.toks
 by_cases h0:0<=k
 .have hk:k.toNat=j:=by
   rw[seqIndex_of h0 h4]at h1
   exact AD h1
  exact PySem.W.ki_setAt ho h0 (by lia) (by rw[Aw,<- hl];exact h4) (by rw[hk];exact⟨_,I',q⟩)
 .have hk:(k+(its.toArray.size:Int)).toNat=j:=by
   rw[seqIndex_neg (by lia) h3]at h1
   rw[Aw,<- hl]
   exact AD h1
  exact PySem.W.ki_setBack ho (by lia) (by rw[Aw,<- hl];exact h3) (by lia) (by rw[hk];exact⟨_,I',q⟩)
theorem qnm (lo hi:Option Int)(n:Nat):(sliceBounds lo hi none n).1=((HT.sIx n 0 lo:Nat):Int)/\(sliceBounds lo hi none n).2.1=((HT.sIx n n hi:Nat):Int)/\(sliceBounds lo hi none n).2.2=1:=by
 refine⟨?_,?_,rfl⟩
 .cases lo with
  |none=>simp[sliceBounds,HT.sIx]
  |some i =>
   simp only[sliceBounds,HT.sIx,Option.getD_none,show (1:Int) > 0 by decide,if_true]
   by_cases h:i<0
   .simp only[h,if_true] <;>lia
   .simp only[h,if_false] <;>lia
 .cases hi with
  |none=>simp[sliceBounds,HT.sIx]
  |some i =>
   simp only[sliceBounds,HT.sIx,Option.getD_none,show (1:Int) > 0 by decide,if_true]
   by_cases h:i<0
   .simp only[h,if_true] <;>lia
   .simp only[h,if_false] <;>lia
theorem ql4 (its:List Value)(lo hi:Option Int):slicePick its.toArray lo hi none=((its.drop (HT.sIx its.length 0 lo)).take (HT.sIx its.length its.length hi-HT.sIx its.length 0 lo)).toArray:=by
 obtain⟨h1,h2,h3⟩:=qnm lo hi its.toArray.size
 unfold slicePick
 rw[h1,h2,h3]
 simp only[sliceRange_one,pick_run,Aw] <;>rfl
noncomputable def rSlL (K:Ag):V->Option Int->Option Int->Hp->VK->Prop:=λx lo hi H Q=>∃a xs,x=.ref a/\SqL K H a xs/\∀p,H p=none->Q (.ref p) (upd H p (.lst (qhf xs lo hi)))
theorem qb2:SlR X (rSlL X.K):=by
 intro pins s σ H x v vl vu lo hi sl Q I rx hs pl pu h
 obtain⟨a,xs,rfl,hx,q⟩:=h
 cases rx
 obtain⟨its,r,ht,hz⟩:=I.list hx
 have hlen:=r.length
 refine⟨"list",_,slot_list_getitem.lookup,ht.isList.typeIs,?_⟩
 refine wpAny_getItem_list_slice ht.isList hs pl pu .none (by simp) ?_ (by rw[Aw] <;>lia)
 rw[ql4,<- hlen]
 refine⟨.ref s.heap.objs.size,_,I.laid (t':=s.toks) (o:=.lst (qhf xs lo hi)) (λb ob q=>Ap _ q) (A3 _) ?_,rfl,q _ (I.hok.fresh (A3 _))⟩
 exact⟨A0 (qog xs lo hi) hz,_,0,(r.drop (HT.sIx xs.length 0 lo)).take (HT.sIx xs.length xs.length hi-HT.sIx xs.length 0 lo),AA _ rfl⟩
noncomputable def qcr:V->Bool
 |.non=>true
 |.bl _=>true
 |.int _=>true
 |.str _=>true
 |_=>false
noncomputable def eqV:V->V->Bool
 |.non,.non=>true
 |.bl a,.bl b=>a == b
 |.bl a,.int b=>(if a then 1 else 0) == b
 |.int a,.bl b=>a == (if b then 1 else 0)
 |.int a,.int b=>a == b
 |.str a,.str b=>a == b
 |_,_=>false
theorem qul {A:Be}{s:Aj}{y x:V}{u v:Value}(ry:RelV y u)(rx:RelV x v)(fy:qcr y=true)(fx:qcr x=true):BA A s u v (eqV y x):=by
 cases y with
 |non =>
  cases ry
  cases x with
  |non=>cases rx;exact BA.same _
  |bl b=>cases rx;exact BA.none_bool b
  |int b=>obtain⟨t,rfl⟩:=rx;exact BA.none_int b t
  |str b=>obtain⟨t,rfl⟩:=rx;exact BA.none_str b t
  |_=>exact absurd (show false=true from fx) AI
 |bl a =>
  cases ry
  cases x with
  |non=>cases rx;exact BA.bool_none a
  |bl b=>cases rx;exact BA.bool_bool a b
  |int b=>obtain⟨t,rfl⟩:=rx;exact BA.bool_int a b t
  |str b=>obtain⟨t,rfl⟩:=rx;exact BA.bool_str a b t
  |_=>exact absurd (show false=true from fx) AI
 |int a =>
  obtain⟨t',rfl⟩:=ry
  cases x with
  |non=>cases rx;exact BA.int_none a t'
  |bl b=>cases rx;exact BA.int_bool a t' b
  |int b=>obtain⟨t,rfl⟩:=rx;exact BA.int_int a t' b t
  |str b=>obtain⟨t,rfl⟩:=rx;exact BA.int_str a t' b t
  |_=>exact absurd (show false=true from fx) AI
 |str a =>
  obtain⟨t',rfl⟩:=ry
  cases x with
  |non=>cases rx;exact BA.str_none a t'
  |bl b=>cases rx;exact BA.str_bool a t' b
  |int b=>obtain⟨t,rfl⟩:=rx;exact BA.str_int a t' b t
  |str b=>obtain⟨t,rfl⟩:=rx;exact BA.str_str a t' b t
  |_=>exact absurd (show false=true from fx) AI
 |_=>exact absurd (show false=true from fy) AI
noncomputable def eqU (x:V)(u:Value):Bool:=match u with
 |.none=>eqV .non x
 |.bool b=>eqV (.bl b) x
 |.int i _=>eqV (.int i) x
 |.str z _=>eqV (.str z) x
 |_=>false
theorem qum {x y:V}{u:Value}(r:RelV y u)(f:qcr y=true):eqU x u=eqV y x:=by
 cases y with
 |non=>cases r;rfl
 |bl b=>cases r;rfl
 |int i=>obtain⟨t,rfl⟩:=r;rfl
 |str z=>obtain⟨t,rfl⟩:=r;rfl
 |_=>exact absurd (show false=true from f) AI
theorem qhv {x:V}:∀{xs:List V}{us:List Value},Vals xs us->xs.all qcr=true->us.any (eqU x)=xs.any λy=>eqV y x
 |_,_,.nil,_=>rfl
 |y::xs,u::us,.cons r t,f=>by
  rw[Dg,AN]at f
  rw[D4,D4,qum r f.1,qhv t f.2]
theorem qf4 {A:Be}{s:Aj}{x:V}{v:Value}(rx:RelV x v)(fx:qcr x=true):∀{xs:List V}{us:List Value},Vals xs us->xs.all qcr=true->∀u∈us,BA A s u v (eqU x u)
 |_,_,.nil,_=>λu hu=>by cases hu
 |y::xs,u::us,.cons r t,f=>λu' hu=>by
  rw[Dg,AN]at f
  rcases An.mp hu with rfl|hu
  .rw[qum r f.1];exact qul r rx f.1 fx
  .exact qf4 rx fx t f.2 u' hu
noncomputable def inV (x:V)(xs:List V):Bool:=xs.any λy=>eqV y x
noncomputable def rIn (K:Ag)(neg:Bool):R2:=λx y H Q=>∃p xs,y=.ref p/\(SqL K H p xs\/SqT K H p xs)/\qcr x=true/\xs.all qcr=true/\Q (.bl (if neg then !inV x xs else inV x xs)) H
theorem qfe:OpR X (compareOp .In) (rIn X.K false):=by
 intro pins s σ H x y v u Q I rx ry h
 obtain⟨p,xs,rfl,hq,fx,fs,q⟩:=h
 cases ry
 rcases hq with hq|hq
 .obtain⟨its,r,pl,hz⟩:=I.list hq
  refine SeqAt.in_listAt (eqU x) pl.isList (λw hw=>qf4 rx fx r fs w (by simpa using hw)) ⟨.bl _,H,I,rfl,?_⟩
  rw[show its.toArray.any (eqU x)=its.any (eqU x) by simp,qhv r fs]
  exact q
 .obtain⟨its,r,pl,hz⟩:=I.tuple hq
  refine SeqAt.in_tupleAt (eqU x) pl (λw hw=>qf4 rx fx r fs w (by simpa using hw)) ⟨.bl _,H,I,rfl,?_⟩
  rw[show its.toArray.any (eqU x)=its.any (eqU x) by simp,qhv r fs]
  exact q
theorem qhw:OpR X (compareOp .NotIn) (rIn X.K true):=by
 intro pins s σ H x y v u Q I rx ry h
 obtain⟨p,xs,rfl,hq,fx,fs,q⟩:=h
 cases ry
 rcases hq with hq|hq
 .obtain⟨its,r,pl,hz⟩:=I.list hq
  refine SeqAt.notIn_listAt (eqU x) pl.isList (λw hw=>qf4 rx fx r fs w (by simpa using hw)) ⟨.bl _,H,I,rfl,?_⟩
  rw[show its.toArray.any (eqU x)=its.any (eqU x) by simp,qhv r fs]
  exact q
 .obtain⟨its,r,pl,hz⟩:=I.tuple hq
  refine SeqAt.notIn_tupleAt (eqU x) pl (λw hw=>qf4 rx fx r fs w (by simpa using hw)) ⟨.bl _,H,I,rfl,?_⟩
  rw[show its.toArray.any (eqU x)=its.any (eqU x) by simp,qhv r fs]
  exact q
theorem qhx:qem X (.type "list") (λxs H Q=>∃p ys,xs=[.ref p]/\(SqL X.K H p ys\/SqT X.K H p ys)/\∀l,H l=none->Q (.ref l) (upd H l (.lst ys))):=by
 intro pins s σ H xs us Q I r h
 obtain⟨p,ys,rfl,hq,q⟩:=h
 obtain⟨u,rfl,rx⟩:=qfy r
 cases rx
 have fin:∀(its:List Value),Vals ys its->ys.length<=A5->∀(h':Heap)(c':Nat),(∀b o',s.heap.get? b=some o'->h'.get? b=some o') ->
   h'.get? s.heap.objs.size=some { cls:=.type "list",dict:=none,data:=.seq its.toArray c',slots:=#[] }->EP X pins σ Q (.ref s.heap.objs.size) { s with heap:=h' }:=λits r' hz h' c' kp e =>
  ⟨.ref s.heap.objs.size,_,I.laid (t':=s.toks) kp (A3 _) (show ObjOk X.prog X.w _ h' _ (.lst ys) from ⟨hz,its,c',r',e⟩),rfl,q _ (I.hok.fresh (A3 _))⟩
 rcases hq with hq|hq
 .obtain⟨its,r',pl,hz⟩:=I.list hq
  have hlen:=r'.length
  obtain⟨o,ho,hc,n,hd⟩:=pl.isList
  exact call_list_seq p (.inl rfl) ho hc hd (λh' c' kp e=>fin its r' hz h' c' kp e) (by simp only[Aw] <;>lia)
 .obtain⟨its,r',pl,hz⟩:=I.tuple hq
  have hlen:=r'.length
  obtain⟨o,ho,hc,n,hd⟩:=pl
  exact call_list_seq p (.inr rfl) ho hc hd (λh' c' kp e=>fin its r' hz h' c' kp e) (by simp only[Aw] <;>lia)
noncomputable def tyV (K:Ag)(T:String)(x:V)(H:Hp):Prop:=match x with
 |.str _=>T = "str"
 |.int _=>T = "int"
 |.ref p=>(T = "list" /\ ∃xs,SqL K H p xs)\/(T = "tuple" /\ ∃o,K.lookup p=some o/\o.cls=.type "tuple" /\ o.dict=none) \/
   (T = "dict" /\ ((∃kvs,H p=some (.dK kvs)) \/ ∃kvs,H p=some (.dT kvs)))\/(T = "set" /\ ∃S n,H p=some (.set S n))
 |_=>False
theorem tyV_is {pins:List (Addr×Obj)}{σ:St}{H:Hp}{s:Aj}{T:String}{x:V}{v:Value}(I:Inv X pins σ H s)(r:RelV x v)(ty:tyV X.K T x H) :
  s.TypeIs v T/\∀a,v=.ref a->∃ob,s.heap.get? a=some ob/\ob.dict=none:=by
 cases x with
 |str z =>
  obtain⟨t,rfl⟩:=r
  cases (show T = "str" from ty)
  exact⟨typeIs_str s z t,λ_ e=>nomatch e⟩
 |int i =>
  obtain⟨t,rfl⟩:=r
  cases (show T = "int" from ty)
  exact⟨typeIs_int s i t,λ_ e=>nomatch e⟩
 |ref p =>
  cases r
  rcases ty with ⟨rfl,xs,hq⟩|⟨rfl,o,hk,hc,hd⟩|⟨rfl,hk⟩|⟨rfl,S,n,hk⟩
  .obtain⟨its,_,pl,_⟩:=I.list hq
   refine⟨pl.isList.typeIs,λa e=>?_⟩
   cases e
   obtain⟨o,n,e,c,hd,_⟩:=pl
   exact⟨o,e,hd⟩
  .refine⟨⟨o,I.kIn p o hk,hc⟩,λa e=>?_⟩
   cases e
   exact⟨o,I.kIn _ o hk,hd⟩
  .have z:∃o,s.heap.get? p=some o/\o.ExactDict:=by
    rcases hk with ⟨kvs,hk⟩|⟨kvs,hk⟩
    .obtain⟨_,_,_,_,o,_,_,e,ex,_⟩:=I.hok p _ hk
     exact⟨o,e,ex⟩
    .obtain⟨_,_,_,_,o,_,_,e,ex,_⟩:=I.hok p _ hk
     exact⟨o,e,ex⟩
   obtain⟨o,e,ex⟩:=z
   refine⟨⟨o,e,ex.1⟩,λa e2=>?_⟩
   cases e2
   exact⟨o,e,ex.2.1⟩
  .obtain⟨o,_,_,_,e,ex,_⟩:=I.hok p _ hk
   refine⟨⟨o,e,ex.1⟩,λa e2=>?_⟩
   cases e2
   exact⟨o,e,ex.2.1⟩
 |_=>exact B4 ty
noncomputable def tBM (K:Ag)(T:String)(r:V->List V->Hp->VK->Prop)(to:TE)(t:TA):TE:=λσ H Q=>to σ H λx H1=>tyV K T x H1/\t σ H1 λxs H2=>r x xs H2 Q
variable {o e:Expr}{es:List Expr}{to:TE}{t:TA}{name:Str}{apos cpos:Pos}{T id:String}{r:V->List V->Hp->VK->Prop}
theorem qcs (pa:PlainAttrs T)(slot:Slot T name id)(hty:typeOf (.builtin id)=pure (.type "method_descriptor"))(hm:MtR X id r)(ho:PE X o to)(ha:PA X (e::es) t)
  (hbase:attributeBase o name X.env (eval o X.env)=eval o X.env:=by rfl)
  (hfew:((backTo cpos (starEach (e::es) X.env)).all (λx=>!x.1) && (backToKw cpos (keywordEach [] X.env)).all (λx=>x.1.isSome)
   && decide ((e::es).length+([]:List Keyword).length+(if ([]:List Keyword).isEmpty then 0 else 1)<30))=true:=by rfl)
  (hline:(apos.endLine == cpos.line)=true:=by rfl) (hs:starEach (e::es) X.env=(false,eval e X.env)::starEach es X.env:=by rfl) (hplain:(backTo cpos (starEach es X.env)).any (·.1)=false:=by rfl) :
  PE X (.Call (.Attribute o name apos) (e::es) [] cpos) (tBM X.K T r to t):=by
 intro pins s σ H Q I h
 refine wpAny_Call_method_late hbase hfew hline rfl (thn (ho pins s σ H _ I h) λv s1 hh9=>?_)
 obtain⟨x,H1,I1,r1,ty,q1⟩:=hh9
 obtain⟨h1,h2⟩:=tyV_is I1 r1 ty
 refine⟨T,id,pa,slot,hty,h1,h2,?_⟩
 have hA:=ha cpos pins s1 σ H1 _ I1 q1
 rw[hs]at hA |-
 refine Calls.callWith_builtin (by show (false || (backTo cpos (starEach es X.env)).any (·.1))=false;rw[hplain] <;>rfl) (Calls.evalArgs_plain ?_)
 exact thn hA λus s2 ⟨vs,H2,I2,r2,q2⟩=>hm pins s2 σ H2 x vs v us Q I2 r1 r2 q2
/- xs.append(e),list.index on a module's tuple .. are MtR facts of 06m -/
end
end L2
namespace L2
open PySem PySem.Spec PyProof.Rows
noncomputable def MtM (X:Cx)(id:String)(r:V->List V->Hp->VK->Prop):Prop :=
 ∀(pins:List (Addr×Obj))(s:Aj)(σ:St)(H:Hp)(x:V)(xs:List V)(v:Value)(us:List Value)(Q:VK),Inv X pins σ H s->RelV x v->Vals xs us->r x xs H Q ->
  wpAny (model X.prog X.w) X.A (call (.builtin id) (v::us)) (EP X pins σ Q) X.xe s
theorem Vals.one {x:V}{us:List Value}(h:Vals [x] us):∃u,us=[u]/\RelV x u:=by
 cases h with|cons r t=>cases t;exact⟨_,rfl,r⟩
theorem Vals.two {x y:V}{us:List Value}(h:Vals [x,y] us):∃u v,us=[u,v]/\RelV x u/\RelV y v:=by
 cases h with|cons r t=>cases t with|cons q t=>cases t;exact⟨_,_,rfl,r,q⟩
section
variable {X:Cx}{pins:List (Addr×Obj)}{σ:St}{H:Hp}{s:Aj}{l b:Addr}{xs ys zs:List V}
theorem Inv.lset {its its':List Value}{n:Nat}{f:Array Value->Array Value}{t':Nat}(I:Inv X pins σ H s)(hH:H l=some (.lst xs))
  (e:s.heap.get? l=some { cls:=.type "list",data:=.seq its.toArray n }) (hf:f its.toArray=its'.toArray) (hv:Vals ys its') (hz:ys.length<=A5) :
  Inv X pins σ (upd H l (.lst ys)) { s with heap:=s.heap.update l (D9 f),toks:=t' }:=by
 have q:=PySem.IsL.update e f
 rw[hf]at q
 refine I.write (x:=l) (e:=l) (by rw[hH];exact trivial) (.inl rfl) (λb' u hb hu=>(B3 s.heap (D9 f) (Bh hb)).trans hu) ⟨_,q⟩ ?_
 exact⟨hz,its',_,hv,q⟩
theorem Inv.lnew {its:List Value}{t':Nat}(I:Inv X pins σ H s)(hv:Vals ys its)(hz:ys.length<=A5) :
  Inv X pins σ (upd H s.heap.objs.size (.lst ys)) { s with heap:=s.heap.push { cls:=.type "list",data:=.seq its.toArray },toks:=t' } :=
 I.laid (λ_ _ q=>Ap _ q) (A3 _) ⟨hz,its,0,hv,AA _ rfl⟩
theorem Inv.fresh (I:Inv X pins σ H s):H s.heap.objs.size=none:=I.hok.fresh (A3 _)
theorem Inv.lstM (I:Inv X pins σ H s)(hH:H l=some (.lst xs)):xs.length<=A5/\∃(its:List Value)(n:Nat),Vals xs its/\xs.length=its.length/\s.heap.get? l=some { cls:=.type "list",data:=.seq its.toArray n }:=by
 obtain⟨z,its,n,r,e⟩:=I.hok l _ hH
 exact⟨z,its,n,r,r.length,e⟩
theorem qoi {n:Nat}(h:n<=A5):AY.List.listTooLong n=false:=by
 unfold AY.List.listTooLong
 exact decide_eq_false (by lia)
end
section
variable {X:Cx}
noncomputable def qw8:V->List V->Hp->VK->Prop:=λx vs H Q=>∃l xs y,x=.ref l/\vs=[y]/\H l=some (.lst xs)/\xs.length<A5/\Q .non (upd H l (.lst (xs++[y])))
theorem qbj:MtM X "list.append" qw8:=by
 intro pins s σ H x vs v us Q I rx rv h
 obtain⟨l,xs,y,rfl,rfl,hH,hz,q⟩:=h
 cases rx
 obtain⟨u,rfl,ru⟩:=rv.one
 obtain⟨z,its,n,r,hl,e⟩:=I.lstM hH
 refine DV F.slot_list_append ⟨_,e,rfl⟩ F.entry_list_append (F.args_list_append_2 _ _) (PySem.list_append l its.toArray n u (by rw[Aw];lia)) ⟨e,?_⟩
 refine⟨.non,_,I.lset (its':=its++[u]) hH e (by simp) (r.append (.cons ru .nil)) ?_,rfl,q⟩
 rw[Ah,Bt]
 lia
noncomputable def rCat:R2:=λx y H Q=>∃l b xs zs,x=.ref l/\y=.ref b/\H l=some (.lst xs)/\H b=some (.lst zs)/\xs.length+zs.length<=A5/\∀p,H p=none->Q (.ref p) (upd H p (.lst (xs++zs)))
theorem qcb:OpR X (binaryOp .Add) rCat:=by
 intro pins s σ H x y v u Q I rx ry h
 obtain⟨l,b,xs,zs,rfl,rfl,hH,hB,hz,q⟩:=h
 cases rx
 cases ry
 obtain⟨z,its,n,r,hl,e⟩:=I.lstM hH
 obtain⟨z2,its2,n2,r2,hl2,e2⟩:=I.lstM hB
 refine PySem.P.add_list e e2 ?_ (by rw[Aw,Aw];lia)
 have ea:its.toArray++its2.toArray=(its++its2).toArray:=by simp
 rw[ea]
 exact⟨.ref _,_,I.lnew (t':=s.toks) (r.append r2) (by rw[Ah];lia),rfl,q _ I.fresh⟩
end
section
variable {prog:AU}{w:World}{A:Be}{E:Value->Aj->Prop}{s:Aj}
end
section
variable {X:Cx}
end
end L2
namespace Att
open PySem PySem.W PySem.Calls PyProof.Rows
theorem qjy {P:Params}{h:Heap}:∀(ns:List Int)(vs:List Value),WellAll P h vs (ns.map WData.int)->IntsAre vs ns:=by
 intro ns
 induction ns with
 |nil =>
  intro vs w
  rw[BL]at w
  cases w
  exact .nil
 |cons n ns ih =>
  intro vs w
  rw[A4]at w
  cases w with
  |cons a b =>
   cases a
   exact .cons _ _ (ih _ b)
theorem qss {l:OpenLaw}{n:Nat}(hn:l.most=some n){P:Params}{h:Heap}{args:List WData}{qcl:List Value}
  (hpre:l.row.toRowW.claim.pre args=true) (hwl:WellAll P h qcl args) :
  ∃a vs ns,qcl=[Ao a]/\args=[WData.list (ns.map WData.int)]/\h.get? a=some { cls:=.type "list",data:=.seq vs.toArray }/\IntsAre vs ns/\ns.length<=n:=by
 have hsh:WShape.hasAll [] args [.list .int]=true:=(pre_splitW hpre).1
 have hc:l.pre.holds [] { args:=args }=true:=(pre_splitW hpre).2
 obtain⟨d,r,rfl,h1,h2⟩:=hasAllW_cons hsh
 obtain rfl:=hasAllW_nil h2
 obtain⟨xs,rfl,h3⟩:=hasW_list h1
 obtain⟨ns,rfl⟩:=items_int h3
 have hlen:ns.length<=n:=by
  unfold OpenLaw.pre at hc
  have h4:(WTm.not (.lt (.lit (.int (n:Int))) (.len (.arg 0)))).holds [] { args:=[.list (ns.map .int)] }=true:=by
   have h4:=(holds_andW hc).1
   rw[hn]at h4
   exact h4
  have h5:=condW_of h4 (w_not (w_lt w_lit (w_len_list (w_arg rfl))))
  rw[Ab]at h5
  refine Nat.le_of_not_lt λq=>?_
  have q':(n:Int)<((ns.length:Nat):Int):=by lia
  first
   | (rw[decide_eq_true q']at h5;exact absurd h5 Ex)
   | (simp at h5;lia)
 cases hwl with
 |cons w1 w2 =>
  cases w2
  cases w1 with
  |list ho hall=>exact⟨_,_,ns,rfl,rfl,ho,qjy ns _ hall,hlen⟩
theorem qst (l:OpenLaw)(args:List WData):l.row.toRowW.claim.post args (.bool true) args=true :=
 postW_of (r:=l.row.toRowW) (X:=(true == true))
  (show WShape.has [] (.bool true) .bool=true by first|rfl|decide|simp[WShape.has,WShape.arms,WShape.armsAll])
  (show (WTm.eq .res (.lit (.bool true))).value [] { args:=args,res:=some (.bool true),after:=args }=some (.bool (true == true)) from w_eq_bool (w_res rfl) w_lit) rfl
theorem attach_call {l:OpenLaw}{n:Nat}{q:AU}{loose:List Str}{XP:(Str->Option Value)->Heap->Prop}{YP:World->Heap->Prop}{d:DefRec}
  (hn:l.most=some n) (hdf:d.params.defaults=[])
  (call:∀(w:World)(s₀ s₁:Aj)(mg mb:Str->Option Value)(fa:Addr)(o:Obj)(pm cd doc:Value)(a:Addr)(vs:List Value)(ns:List Int),
   Ground q loose [] XP w s₀ mg mb s₁.heap->YP w s₁.heap ->
   s₁.heap.get? fa=some o->o.data=.func (docDef d.name d.params d.body d.scope pm cd doc)->s₁.heap.CodeRec cd d.name->mg d.name=some (.ref fa) ->
   s₁.heap.get? a=some { cls:=.type "list",data:=.seq vs.toArray }->IntsAre vs ns->ns.length<=n->s₁.gens=#[] ->
   codeAny (model l.prog w) callerA (.call (.ref fa) ⟨[.ref a],[]⟩) (λr s'=>r=.ok (.ret (.bool true))/\OldK s₁.heap s'.heap/\s'.os=s₁.os/\En s'.gens) s₁) :
  WalkO q loose XP YP l.row.toRowW d [] (λf vs=>PySem.call f vs):=by
 intro w s₀ s₁ mg mb G Y fa o pm cd doc dV kV ho hd hcd hD hmg hg args qcl as hpre hlay hrd hwl hlo
 obtain rfl:dV=.none:=Dflts.none hD hdf
 obtain rfl:kV=.none:=Dflts.noKw hD
 obtain⟨a,vs,ns,rfl,rfl,hobj,hints,hlen⟩:=qss hn hpre hwl
 refine enter_call (CY (call w s₀ s₁ mg mb fa o pm cd doc a vs ns G Y ho (fd_plain hd) hcd hmg hobj hints hlen hg) λr s' hq=>?_)
 obtain⟨rfl,h2,h3,h4⟩:=hq
 exact⟨.inl ⟨.bool true,.bool true,[],rfl,λ_=>rfl,.bool true,qst l _,λ_=>⟨List.Pairwise.nil,λ_ hm=>(nomatch hm)⟩⟩,h2,h3,h4⟩
section
variable {prog:AU}{w:World}{A:Be}{E:Value->Aj->Prop}{s:Aj}{K:Frag}
noncomputable def ledger (h:Heap)(L d:Addr):List (Addr×Obj):=(Bl h.objs.size).filterMap λa=>if a=L\/a=d then none else (h.get? a).map λo=>(a,o)
end
end Att
namespace L2
open PySem PySem.Spec PyProof.Rows
theorem qmm:∀{vs:List Value}{ns:List Int},IntsAre vs ns->Vals (ns.map V.int) vs
 |_,_,.nil=>.nil
 |_,_,.cons n t h=>.cons ⟨t,rfl⟩ (qmm h)
noncomputable def Only (H:Hp):Prop:=∀b,H b=none \/ ∃o xs,H b=some (.frz o (.lst xs))
theorem qun {P:AU}{w:World}{K:Ag}{mg mb:Str->Option Value}{CX:CXT}{k:Nat}{fa a:Addr}{fd:AH}{x:Str}{sp:Sp}{s₁:Aj}{vs:List Value}{ns:List Int}
  (KX:K.In s₁.heap) (hns:s₁.heap.Ns AE mg) (hb:s₁.heap.Ns builtinsNs mb) (hbb:∀x:Str,x ≠ "__name__" -> mb x=bootBuiltins x) (hlim:s₁.heap.NoLimit) (hg:s₁.gens=#[])
  (ha:s₁.heap.get? a=some { cls:=.type "list",data:=.seq vs.toArray }) (hi:IntsAre vs ns) (hl:ns.length<=A5) (hr:Room k callerA)
  (F:∀base:Heap,K.In base->base.Ns AE mg->FnOk P w K mg base CX k fa fd [x] sp) (hbind:∀(s:Aj)(u:Value),BindsTo s fd ⟨[u],[]⟩ [(x,u)])
  (hsp:∀H:Hp,Only H->SqL K H a (ns.map V.int)->sp [.ref a] H (λv _=>v=.bl true) λ_ _ _=>False)
  (hCX:∀H e s',CX [] H s₁ (λ_ _ _=>False) e s'->False) :
  codeAny (model P w) callerA (.call (.ref fa) ⟨[.ref a],[]⟩) (λr s'=>r=.ok (.ret (.bool true))/\OldK s₁.heap s'.heap/\s'.os=s₁.os/\En s'.gens) s₁:=by
 have rv:=qmm hi
 have lenV:=hi.length
 -- from an abstract heap in which nothing but the script may be tracked
 have core:∀H:Hp,Only H->SqL K H a (ns.map V.int)->HOk P w H s₁.heap->(∀b,H b≠none->b=a)->(H a≠none->K.lookup a=none) ->
   codeAny (model P w) callerA (.call (.ref fa) ⟨[.ref a],[]⟩) (λr s'=>r=.ok (.ret (.bool true))/\OldK s₁.heap s'.heap/\s'.os=s₁.os/\En s'.gens) s₁:=by
  intro H hO hS hok hA hK
  have base_of:∀{b:Addr}{o:Obj},s₁.heap.get? b=some o->H b=none->(qni s₁.heap H).get? b=some o:=λe n=>qt9 e n
  have noA:∀{b:Addr}{o:Obj}{es:Array DictEntry}{ep:Nat},s₁.heap.get? b=some o->o.data=.dict es ep->H b=none:=λ{b o es ep} e d=>by
   cases q:H b with
   |none=>rfl
   |some u =>
    have e':b=a:=hA b (by rw[q];simp)
    subst e'
    rw[ha]at e;cases e
    have d':Data.seq vs.toArray _=Data.dict es ep:=d
    cases d'
  have nsK:∀{b:Addr}{m:Str->Option Value},s₁.heap.Ns b m->(qni s₁.heap H).Ns b m:=λ{b m} ⟨o,es,ep,e,d,r⟩=>⟨o,es,ep,base_of e (noA e d),d,r⟩
  have hKb:K.In (qni s₁.heap H):=λb o e=>base_of (KX b o e) (by
   cases q:H b with
   |none=>rfl
   |some u =>
    have e':b=a:=hA b (by rw[q];simp)
    subst e'
    rw[hK (by rw[q];simp)]at e;cases e)
  have hM:Mod K mg (qni s₁.heap H):=⟨hKb,nsK hns,⟨mb,nsK hb,hbb⟩,let ⟨mc,h1,h2⟩:=hlim;⟨mc,nsK h1,h2⟩⟩
  have e0:Env0 P w K mg (qni s₁.heap H) callerA [] s₁ H:=⟨rfl,hM,λb o e=>qwy e,BZ (qsm _ _),trivial,λb hb=>absurd (show b∈([]:List Addr) from hb) (by simp),hok,.of_eq hg⟩
  refine CY ((F _ hKb (nsK hns)).run callerA [] s₁ H ⟨[.ref a],[]⟩ [.ref a] [.ref a] _ _ hr e0 (hbind s₁ (.ref a)) (.cons rfl .nil) (hsp H hO hS)) λr s' h=>?_
  cases r with
  |error e=>exact(hCX H e s' h).elim
  |ok fl =>
   cases fl with
   |next=>exact B4 h
   |brk=>exact B4 h
   |cont=>exact B4 h
   |ret u =>
    obtain⟨v,H',os,bare,un,hok',r',q⟩:=h
    have q':v=.bl true:=q
    subst q'
    obtain rfl:u=Value.bool true:=r'
    refine⟨rfl,OldK.of_keep λb o e=>?_,os,bare⟩
    cases q:H b with
    |none=>exact un.keep b o e q (by intro z;exact absurd (show b∈([]:List Addr) from z) (by simp)) (by simp)
    |some u =>
     rcases hO b with z|⟨ob,xs,z⟩
     .rw[q]at z;cases z
     .have z2:=un.frzs b ob _ z
      obtain⟨e1,_⟩:=hok b _ z
      obtain⟨e2,_⟩:=hok' b _ z2
      rw[e]at e1;cases e1
      exact e2
 cases hk:K.lookup a with
 |some o =>
  -- the script is one of the module's own objects
  have e:=KX a o hk
  rw[ha]at e
  cases e
  refine core (λ_=>none) (λ_=>.inl rfl) (.inr ⟨_,vs.toArray,_,hk,rfl,rfl,rfl,by rw[Aw,lenV];exact hl,by simpa using rv⟩) (λb u z=>by have z':(none:Option HO)=some u:=z;cases z') (λb z=>absurd rfl z) λz=>absurd rfl z
 |none =>
  refine core (λb=>if b=a then some (.frz { cls:=.type "list",data:=.seq vs.toArray } (.lst (ns.map V.int))) else none) (λb=>?_) (.inl (.inr ⟨{ cls:=.type "list",data:=.seq vs.toArray },if_pos rfl⟩)) (λb u z=>?_) (λb z=>?_) λ_=>hk
  .by_cases hb:b=a
   .exact .inr ⟨_,_,if_pos hb⟩
   .exact .inl (if_neg hb)
  .by_cases hb:b=a
   .have z':=(if_pos hb).symm.trans z
    cases z'
    subst hb
    exact⟨ha,by rw[Ab];exact hl,vs,_,rv,ha⟩
   .have z':=(if_neg hb).symm.trans z
    cases z'
  .by_cases hb:b=a
   .exact hb
   .exact absurd (if_neg hb) z
end L2
namespace L2
open PySem PySem.Spec PyProof.Rows
noncomputable abbrev KOf {K:Ag}{h:Heap}(_:K.In h):Ag:=K
theorem walk_of {l:PySem.W.OpenLaw}{n k:Nat}{q:AU}{loose:List Str}{XP:(Str->Option Value)->Heap->Prop}{YP:World->Heap->Prop}{d:DefRec}{K:Params->Ag}{CX:World->CXT}{sp:World->Sp}{x:Str}
  (hn:l.most=some n) (hn2:n<=A5) (hdf:d.params.defaults=[]) (hr:Room k callerA)
  (hY:∀(w:World)(h:Heap),YP w h->(K w.params).In h)
  (F:∀(w:World)(mg:Str->Option Value)(fa:Addr)(h:Heap),(K w.params).In h->h.Ns AE mg->mg d.name=some (.ref fa) ->
   ∃fd:AH,(∀(s:Aj)(u:Value),BindsTo s fd ⟨[u],[]⟩ [(x,u)]) /\
    ∀base:Heap,(K w.params).In base->base.Ns AE mg->FnOk l.prog w (K w.params) mg base (CX w) k fa fd [x] (sp w))
  (hsp:∀(w:World)(H:Hp)(a:Addr)(ns:List Int),ns.length<=n->Only H->SqL (K w.params) H a (ns.map V.int)->sp w [.ref a] H (λv _=>v=.bl true) λ_ _ _=>False)
  (hCX:∀(w:World)(H:Hp)(s:Aj)(e:Value)(s':Aj),CX w [] H s (λ_ _ _=>False) e s'->False) :
  PySem.W.WalkO q loose XP YP l.row.toRowW d [] (λf vs=>PySem.call f vs):=by
 refine Att.attach_call hn hdf λw s₀ s₁ mg mb fa o pm cd doc a vs ns G Y ho hd hcd hmg hobj hints hlen hg=>?_
 have KX:=hY w _ Y
 obtain⟨fd,hb,hF⟩:=F w mg fa _ KX G.T.g hmg
 exact qun KX G.T.g G.T.b G.T.builtins G.T.nolimit hg hobj hints (A0 hlen hn2) hr hF hb (λH hO hS=>hsp w H a ns hlen hO hS) λH e s'=>hCX w H s₁ e s'
end L2
/- THE LAST THEOREM (shape;LID,My.* are yours):
   My.Adr: a structure of the addresses that your layer names (classes,functions);My.Txt K t: a structure (Prop) of the equations over K;
   My.txt_mk:{K} {implicit addresses ..} (e1:nsIn K AE "law" = some (some (.ref f))) (e2:K.lookup f=some ⟨oc,od,.func (fnOf "law" "law" params body scope dV kV doc pm an cdv ct),sl⟩) (e3:codeIn K cdv "law" = true) .. : ∃t,My.Txt K t
set_option maxRecDepth 100000 in
set_option maxHeartbeats 0 in
theorem PySem.Challenge.cw_LID_holds : PySem.Challenge.rw_LID.Holds:=by
 w_on;o_law;k_head;(case hw=>w_witness2)
 k_fill
 refine L2.walk_of (l:=PySem.Challenge.rw_LID) (n:=63) (k:=40) (x := "script") (CX:=λw=>..) (sp:=λ_=>My.sp_law) rfl Ex rfl ⟨rfl,Ex,Ex⟩ (λw h Y=>PySem.W.kIn_of Y) ?F ?S ?C
 case F =>
  intro w mg fa h KX G hmg
  have T:∃t,My.Txt (L2.KOf KX) t:=by
   dsimp only[L2.KOf]                          -- K must stand as «<heap const> w.params» for k_is
   refine' My.txt_mk ?e1 ?e2 ?e3 ..
   (case e1=>PySem.W.k_is)                    -- in the order: a name->its address->its object->its parts
   (case e2=>PySem.W.k_is)
   ..
  obtain⟨t,T⟩:=T
  have e0:=hmg.symm.trans (Bc KX G T.law)
  cases e0                                       -- fa is the law's own address
  exact⟨_,λs u=>.of_eq rfl,λbase kb nb=>My.law_fn T kb nb⟩     -- if «.of_eq rfl» comes too early: refine' ⟨_,?b,λbase kb nb=>My.law_fn T kb nb⟩;exact λs u=>.of_eq rfl
 case S=>exact λw H a ns hl hO hS=>..
 case C=>exact ..
(the tactic k_is has no namespace: write k_is) -/
namespace L2
open PySem PySem.Spec PyProof.Rows
noncomputable def qec (s:Stmt)(j:Nat):Stmt:=match s with
 |.ClassDef _ _ _ body _ _ _ _ _ _ _=>body.getD j (.Pass ⟨0,0,0,0⟩)
 |_=>.Pass ⟨0,0,0,0⟩
noncomputable def qb9 (s:Stmt):Arguments:=match s with
 |.FunctionDef _ a _ _ _ _ _ _ _ _=>a
 |_=>{ posonlyargs:=[],args:=[],vararg:=none,kwonlyargs:=[],kw_defaults:=[],kwarg:=none,defaults:=[] }
noncomputable def qbq (s:Stmt):List Stmt:=match s with
 |.FunctionDef _ _ b _ _ _ _ _ _ _=>b
 |_=>[]
noncomputable def qac (s:Stmt):Scope:=match s with
 |.FunctionDef _ _ _ _ _ _ sc _ _ _=>sc
 |_=>{ kind:=.function,names:=[],isGenerator:=false,isCoroutine:=false }
noncomputable abbrev CX0:CXT:=λ_ _ _ _ _ _=>False
noncomputable abbrev E0:XK:=λ_ _ _=>False
theorem qas {X:Cx}:qf3 CX0 X E0:=λ_ _ _ _ _ _ _ h=>h.elim
structure Fun (K:Ag)(x qual:Str)(st:Stmt)(f:Addr)(fd:AH):Prop where
 ex:∃(oc:Value)(od:Option Addr)(kV doc pm:Value)(an:Option Addr)(cdv ct:Value)(osl:Array (Option Value)),
  fd=Bz x qual (qb9 st) (qbq st) (qac st) .none kV doc pm an cdv ct/\K.lookup f=some ⟨oc,od,.func fd,osl⟩/\BY K cdv qual=true
 kp:Bo K (.ref f)=true
section
variable {P:AU}{w:World}{K:Ag}{mg:Str->Option Value}{base:Heap}
theorem Fun.ok {x qual:Str}{st:Stmt}{f:Addr}{fd:AH}{N ps:List Str}{k:Nat}{sp:Sp}(F:Fun K x qual st f fd)(S:FnScope N ps (qac st))(len:∀vs H Q E,sp vs H Q E->vs.length=ps.length)
  (hbody:∀(cdv:Value)(A:Be)(outer:List Env)(s:Aj)(H:Hp)(vs:List V)(Q:VK)(E:XK),Room k (A.deeper (envOfC qual (qac st) s.heap.objs.size f cdv))->sp vs H Q E ->
   ∃t,PSs (qnk CX0 P w K mg base N qual (qac st) f cdv A outer s H E).nox (qbq st) t/\t { nx:=λ_ H'=>Q .non H',rt:=Q } (start N vs) H):FnOk P w K mg base CX0 (k+1) f fd ps sp:=by
 obtain⟨oc,od,kV,doc,pm,an,cdv,ct,osl,rfl,lk,hcd⟩:=F.ex
 refine quj lk hcd S len λA outer s H vs Q E hr hsp=>?_
 obtain⟨t,h,q⟩:=hbody cdv A outer s H vs Q E hr hsp
 exact⟨t,h.nox,q⟩
theorem Fun.binds {x qual:Str}{st:Stmt}{f:Addr}{fd:AH}{ps:List Str}(F:Fun K x qual st f fd)
  (h:∀(kV doc pm:Value)(an:Option Addr)(cdv ct:Value)(us:List Value),us.length=ps.length->bindArgs (Bz x qual (qb9 st) (qbq st) (qac st) .none kV doc pm an cdv ct) ⟨us,[]⟩=pure (ps.zip us)):Binds K fd ps []:=by
 obtain⟨oc,od,kV,doc,pm,an,cdv,ct,osl,rfl,lk,hcd⟩:=F.ex
 exact .all (h kV doc pm an cdv ct)
theorem qp6 {x qual:Str}{st:Stmt}{f:Addr}{oc:Value}{od an:Option Addr}{osl:Array (Option Value)}{kV doc pm cdv ct:Value}(l:K.lookup f=some ⟨oc,od,.func (Bz x qual (qb9 st) (qbq st) (qac st) .none kV doc pm an cdv ct),osl⟩)
  (c:BY K cdv qual=true) (k:Bo K (.ref f)=true):Fun K x qual st f (Bz x qual (qb9 st) (qbq st) (qac st) .none kV doc pm an cdv ct):=⟨⟨oc,od,kV,doc,pm,an,cdv,ct,osl,rfl,l,c⟩,k⟩
end
theorem qf5 {A:Be}{k:Nat}(hr:Room k A):A.units+1<cLine:=Nat.lt_of_le_of_lt (Nat.add_le_add_left (by decide:1<=64) _) hr.units
section
variable {X:Cx}
theorem pv (i:Nat){x:Str}{pos:Pos}(hN:X.N[i]?=some x:=by rfl)(hv:Vis X.env.scope x:=by first|exact Az rfl|exact Dj (Az rfl)|exact Dj (Dj rfl))(hd:(x == ("__debug__" : Str))=false:=by decide)
  (hcd:(x == ("__classdict__" : Str))=false:=by decide):PE X (.Name x pos) (tVar i):=pe_var hN hv hd hcd
end
theorem qbv {A B:Prop}(h:B):if false=true then A else B:=by
 rw[if_neg AI]
 exact h
theorem qc1 {A B:Prop}(h:A):if true=true then A else B:=by
 rw[if_pos rfl]
 exact h
theorem qbw {c A B:Prop}[Decidable c](h1:c->A)(h2:¬c->B):if c then A else B:=by
 by_cases h:c
 .rw[if_pos h]
  exact h1 h
 .rw[if_neg h]
  exact h2 h
noncomputable def Same (H H':Hp):Prop:=∀b o,H b=some o->H' b=some o
theorem Same.refl (H:Hp):Same H H:=λ_ _ h=>h
theorem Same.trans {H H1 H2:Hp}(a:Same H H1)(b:Same H1 H2):Same H H2:=λc o h=>b c o (a c o h)
theorem Same.free {H H':Hp}(e:Same H H'){l:Addr}(h:H' l=Option.none):H l=Option.none:=by
 cases q:H l with
 |none=>rfl
 |some o =>
  rw[e l o q]at h
  cases h
theorem Same.seq {K:Ag}{H H':Hp}{a:Addr}{xs:List V}(e:Same H H')(h:SqL K H a xs):SqL K H' a xs:=by
 rcases h with (h|⟨o,h⟩)|h
 .exact .inl (.inl (e _ _ h))
 .exact .inl (.inr ⟨o,e _ _ h⟩)
 .exact .inr h
end L2
namespace L2
open PySem PySem.Spec PyProof.Rows
section
variable {κ:Type}[DecidableEq κ]
noncomputable def qdy (kvs:List (κ×V))(k:κ):Option V:=(kvs.find? λkv=>decide (kv.1=k)).map (·.2)
noncomputable def qfn (kvs:List (κ×V))(k:κ)(v:V):List (κ×V) :=
 if (kvs.any λkv=>decide (kv.1=k))=true then kvs.map (λkv=>if kv.1=k then (kv.1,v) else kv) else kvs++[(k,v)]
theorem qct {p:κ×V}{r:List (κ×V)}{k:κ}(e:p.1=k):qdy (p::r) k=some p.2:=by simp[qdy,Cz,e]
theorem qcu {p:κ×V}{r:List (κ×V)}{k:κ}(e:¬p.1=k):qdy (p::r) k=qdy r k:=by simp[qdy,Cz,e]
theorem qf6 (k:κ):∀kvs:List (κ×V),(kvs.any λkv=>decide (kv.1=k))=(qdy kvs k).isSome
 | []=>rfl
 |p::r=>by
  rw[D4]
  by_cases e:p.1=k
  .simp only[qct e,decide_eq_true e,Bool.true_or,Option.isSome_some]
  .rw[qcu e,decide_eq_false e,Bool.false_or];exact qf6 k r
theorem qoj (k j:κ)(y:V):∀kvs:List (κ×V),qdy (kvs.map λkv=>if kv.1=k then (kv.1,y) else kv) j=(qdy kvs j).map λx=>if j=k then y else x
 | []=>rfl
 |p::r=>by
  have ih:=qoj k j y r
  rw[A4]
  by_cases h:p.1=k
  .rw[if_pos h]
   by_cases e:p.1=j
   .rw[qct (p:=(p.1,y)) e,qct e,De,if_pos (e.symm.trans h)]
   .rw[qcu (p:=(p.1,y)) e,qcu e,ih]
  .rw[if_neg h]
   by_cases e:p.1=j
   .rw[qct (p:=p) e,qct e,De,if_neg (λz=>h (e.trans z))]
   .rw[qcu (p:=p) e,qcu e,ih]
theorem qmn (k j:κ)(y:V):∀kvs:List (κ×V),qdy kvs k=none->qdy (kvs++[(k,y)]) j=if j=k then some y else qdy kvs j
 | [],_=>by
  by_cases e:k=j
  .rw[if_pos e.symm];exact qct (p:=(k,y)) e
  .rw[if_neg (λz=>e z.symm)];exact qcu (p:=(k,y)) e
 |p::r,hn=>by
  rw[Bi]
  have hk:¬p.1=k:=λz=>by rw[qct z]at hn;cases hn
  rw[qcu hk]at hn
  have ih:=qmn k j y r hn
  by_cases e:p.1=j
  .rw[qct e,qct e,if_neg (λz=>hk (e.trans z))]
  .rw[qcu e,qcu e,ih]
theorem quo (kvs:List (κ×V))(k j:κ)(y:V):qdy (qfn kvs k y) j=if j=k then some y else qdy kvs j:=by
 unfold qfn
 by_cases a:(kvs.any λkv=>decide (kv.1=k))=true
 .rw[if_pos a,qoj]
  rw[qf6]at a
  by_cases e:j=k
  .obtain⟨x,hx⟩:=CM.mp a
   rw[if_pos e,e,hx,De,if_pos rfl]
  .rw[if_neg e]
   cases qdy kvs j with
   |none=>rfl
   |some x=>rw[De,if_neg e]
 .rw[if_neg a]
  refine qmn k j y kvs ?_
  rw[qf6]at a
  cases q:qdy kvs k with
  |none=>rfl
  |some x=>rw[q]at a;exact(a rfl).elim
theorem qf7 (kvs:List (κ×V))(k:κ)(v:V):(qfn kvs k v).length<=kvs.length+1:=by
 unfold qfn
 split
 .rw[Ab];lia
 .rw[Ah,At,Cn];lia
theorem qki {kvs:List (κ×V)}{k:κ}(v:V)(h:qdy kvs k=none):qfn kvs k v=kvs++[(k,v)]:=by
 unfold qfn
 rw[qf6,h]
 exact if_neg Ex
theorem RelO.isSome_eq {o:Option V}{u:Option Value}(r:RelO o u):o.isSome=u.isSome:=by
 cases o with
 |none=>cases u with
  |none=>rfl
  |some _=>exact(show False from r).elim
 |some _=>cases u with
  |none=>exact(show False from r).elim
  |some _=>rfl
theorem KV.val {kvs:List (κ×V)}{vs:List (κ×Value)}(r:KV kvs vs)(k:κ):RelO (qdy kvs k) (valueAt vs k):=by
 unfold KV at r
 induction r with
 |nil=>exact CL
 | @cons p q ps qs h t ih =>
  obtain⟨h1,h2⟩:=h
  by_cases e:p.1=k
  .have e':q.1=k:=h1.symm.trans e
   have b:valueAt (q::qs) k=some q.2:=by simp[valueAt,Cz,e']
   rw[qct e,b];exact h2
  .have e':¬q.1=k:=λz=>e (h1.trans z)
   have b:valueAt (q::qs) k=valueAt qs k:=by simp[valueAt,Cz,e']
   rw[qcu e,b];exact ih
theorem KV.any {kvs:List (κ×V)}{vs:List (κ×Value)}(r:KV kvs vs)(k:κ):(kvs.any λkv=>decide (kv.1=k))=vs.any λkv=>decide (kv.1=k):=by
 unfold KV at r
 induction r with
 |nil=>rfl
 |cons h t ih=>rw[D4,D4,ih,h.1]
theorem KV.repl {kvs:List (κ×V)}{vs:List (κ×Value)}(r:KV kvs vs)(k:κ){y:V}{u:Value}(ry:RelV y u) :
  KV (kvs.map λkv=>if kv.1=k then (kv.1,y) else kv) (vs.map λkv=>if kv.1=k then (kv.1,u) else kv):=by
 unfold KV at r |-
 induction r with
 |nil=>exact .nil
 | @cons p q ps qs h t ih =>
  rw[A4,A4]
  refine .cons ?_ ih
  obtain⟨h1,h2⟩:=h
  by_cases e:p.1=k
  .rw[if_pos e,if_pos (h1.symm.trans e)];exact⟨h1,ry⟩
  .rw[if_neg e,if_neg (λz=>e (h1.trans z))];exact⟨h1,h2⟩
theorem KV.put {kvs:List (κ×V)}{vs:List (κ×Value)}(r:KV kvs vs)(k:κ){y:V}{u:Value}(ry:RelV y u):KV (qfn kvs k y) (stored vs k u):=by
 unfold qfn stored
 rw[r.any k]
 by_cases e:(vs.any λkv=>decide (kv.1=k))=true
 .rw[if_pos e,if_pos e];exact r.repl k ry
 .rw[if_neg e,if_neg e];exact D7.snoc r ⟨rfl,ry⟩
theorem KV.keys {kvs:List (κ×V)}{vs:List (κ×Value)}(r:KV kvs vs):kvs.map (·.1)=vs.map (·.1):=by
 unfold KV at r
 induction r with
 |nil=>rfl
 |cons h t ih=>rw[A4,A4,ih,h.1]
theorem KV.length {kvs:List (κ×V)}{vs:List (κ×Value)}(r:KV kvs vs):kvs.length=vs.length:=D7.length r
end
theorem qok {P:AU}{w:World}{k:Key}{u:Value}(r:RelV (kV k) u):(qb6 P w).is k u=true:=by
 cases k with
 |inl i=>obtain⟨t,e⟩:=(show ∃t,u=Value.int i t from r);subst e;exact qn9 P w i t
 |inr x=>obtain⟨t,e⟩:=(show ∃t,u=Value.str x t from r);subst e;exact qoa P w x t
theorem qmo {P:AU}{w:World}:∀{ks:List Key}{us:List Value},Vals (ks.map kV) us->ItemsAre (qb6 P w) ks us
 | [],_,r=>by rw[BL]at r;cases r;exact .nil
 |k::ks,_,r=>by
  rw[A4]at r
  cases r with
  |cons h t=>exact .cons (qok h) (qmo t)
noncomputable abbrev KT (H:Hp):List (List Key×V)->List (List Key×Addr×Value)->Prop:=D7 λp q=>p.1=q.1/\H q.2.1=some (.tup (p.1.map kV))/\RelV p.2 q.2.2
theorem KT.val {H:Hp}{kvs:List (List Key×V)}{xs:List (List Key×Addr×Value)}(r:KT H kvs xs)(k:List Key):RelO (qdy kvs k) ((atKey xs k).map (·.2)):=by
 induction r with
 |nil=>exact CL
 | @cons p q ps qs h t ih =>
  obtain⟨h1,_,h2⟩:=h
  by_cases e:p.1=k
  .have e':q.1=k:=h1.symm.trans e
   have b:atKey (q::qs) k=some q.2:=by simp[atKey,Cz,e']
   rw[qct e,b];exact h2
  .have e':¬q.1=k:=λz=>e (h1.trans z)
   have b:atKey (q::qs) k=atKey qs k:=by simp[atKey,Cz,e']
   rw[qcu e,b];exact ih
theorem KT.repl {H:Hp}{kvs:List (List Key×V)}{xs:List (List Key×Addr×Value)}(r:KT H kvs xs)(k:List Key){y:V}{u:Value}(ry:RelV y u) :
  KT H (kvs.map λkv=>if kv.1=k then (kv.1,y) else kv) (xs.map (putAt k u)):=by
 induction r with
 |nil=>exact .nil
 | @cons p q ps qs h t ih =>
  rw[A4,A4]
  refine .cons ?_ ih
  obtain⟨h1,h2,h3⟩:=h
  unfold putAt
  by_cases e:p.1=k
  .rw[if_pos e,if_pos (h1.symm.trans e)];exact⟨h1,h2,ry⟩
  .rw[if_neg e,if_neg (λz=>e (h1.trans z))];exact⟨h1,h2,h3⟩
theorem KT.put {H:Hp}{kvs:List (List Key×V)}{xs:List (List Key×Addr×Value)}(r:KT H kvs xs)(k:List Key){b:Addr}{y:V}{u:Value}(hb:H b=some (.tup (k.map kV)))(ry:RelV y u) :
  KT H (qfn kvs k y) (storedH xs k b u):=by
 have e:(kvs.any λkv=>decide (kv.1=k))=(atKey xs k).isSome:=by
  rw[qf6,(r.val k).isSome_eq,Option.isSome_map]
 unfold qfn storedH
 rw[e]
 by_cases q:(atKey xs k).isSome=true
 .rw[if_pos q,if_pos q];exact r.repl k ry
 .rw[if_neg q,if_neg q];exact D7.snoc r ⟨rfl,hb,ry⟩
theorem KT.keeps {H H':Hp}{kvs:List (List Key×V)}{xs:List (List Key×Addr×Value)}(r:KT H kvs xs)(ht:∀b ys,H b=some (.tup ys)->H' b=some (.tup ys)):KT H' kvs xs :=
 D7.mapP r λ_ _ z=>⟨z.1,ht _ _ z.2.1,z.2.2⟩
section
variable {P:AU}{w:World}{H:Hp}{h:Heap}{a:Addr}
theorem qy0 {u:HO}(ok:HOk P w H h)(e:Rd H a u):ObjOk P w H h a u:=e.ok ok
theorem qol {kvs:List (Key×V)}(ok:HOk P w H h)(e:Rd H a (.dK kvs)):kvs.length<=A5/\(a == sysModules)=false/\∃vs,KV kvs vs/\h.DictOf (qb6 P w) a vs :=
 show ObjOk P w H h a (.dK kvs) from qy0 ok e
theorem qrm {kvs:List (Key×V)}(ok:HOk P w H h)(e:H a=some (.dK kvs)):kvs.length<=A5/\(a == sysModules)=false/\∃vs,KV kvs vs/\h.DictOf (qb6 P w) a vs:=qol ok (.inl e)
theorem qkj {ks:List Key}(ok:HOk P w H h)(e:H a=some (.tup (ks.map kV))):(tupleKind (qb6 P w)).is h ks a:=by
 obtain⟨_,its,r,o,h1,h2,n,h3⟩:=(show ObjOk P w H h a (.tup (ks.map kV)) from ok a _ e)
 exact⟨o,its.toArray,n,h1,h2,h3,by simpa using qmo r⟩
theorem qom {kvs:List (List Key×V)}(ok:HOk P w H h)(e:Rd H a (.dT kvs)):kvs.length<=A5/\(a == sysModules)=false /\
  ∃xs,KT H kvs xs/\h.DictOfH (tupleKind (qb6 P w)) a xs:=by
 obtain⟨z,y,xs,r,o,es,ep,h1,h2,h3,h4,h5⟩:=(show ObjOk P w H h a (.dT kvs) from qy0 ok e)
 refine⟨z,y,xs,r,o,es,ep,h1,h2,h3,h4,λx hx=>?_,h5⟩
 have all:∀{l:List (List Key×V)}{m:List (List Key×Addr×Value)},KT H l m->∀x∈m,(tupleKind (qb6 P w)).is h x.1 x.2.1:=by
  intro l m q
  induction q with
  |nil=>intro x hx;exact nomatch hx
  | @cons p q ps qs hq t ih =>
   intro x hx
   rcases An.mp hx with e|hx
   .subst e
    exact qkj ok (by rw[<- hq.1];exact hq.2.1)
   .exact ih x hx
 exact all r x hx
theorem dt_of {kvs:List (List Key×V)}(ok:HOk P w H h)(e:H a=some (.dT kvs)):kvs.length<=A5/\(a == sysModules)=false /\
  ∃xs,KT H kvs xs/\h.DictOfH (tupleKind (qb6 P w)) a xs:=qom ok (.inl e)
end
noncomputable def DGet (H:Hp)(a:Addr)(y:V)(r:Option V):Prop :=
 (∃kvs k,Rd H a (.dK kvs)/\y=kV k/\r=qdy kvs k) \/ ∃kvs k b,Rd H a (.dT kvs)/\y=.ref b/\H b=some (.tup (k.map kV))/\r=qdy kvs k
noncomputable def DPut (H:Hp)(a:Addr)(y v:V)(H':Hp):Prop :=
 (∃kvs k,H a=some (.dK kvs)/\y=kV k/\kvs.length<A5/\H'=upd H a (.dK (qfn kvs k v))) \/
 ∃kvs k b,H a=some (.dT kvs)/\y=.ref b/\H b=some (.tup (k.map kV))/\kvs.length<A5/\H'=upd H a (.dT (qfn kvs k v))
theorem DGet.k {H:Hp}{a:Addr}{kvs:List (Key×V)}{k:Key}(e:H a=some (.dK kvs)):DGet H a (kV k) (qdy kvs k):=.inl ⟨kvs,k,.inl e,rfl,rfl⟩
theorem DPut.k {H:Hp}{a:Addr}{kvs:List (Key×V)}{k:Key}{v:V}(e:H a=some (.dK kvs))(hl:kvs.length<A5):DPut H a (kV k) v (upd H a (.dK (qfn kvs k v))):=.inl ⟨kvs,k,e,rfl,hl,rfl⟩
section
variable {X:Cx}{pins:List (Addr×Obj)}{σ:St}{H:Hp}{s:Aj}{a:Addr}{y v:V}{u r:Value}{o:Option V}{A:Be}{E:Value->Aj->Prop}
theorem Inv.big (I:Inv X pins σ H s):sysModules<s.heap.objs.size:=by
 have h:AE<s.heap.objs.size:=(I.mod.glob.keeps I.bk).lt
 exact Nat.lt_trans Ex h
theorem qsu {Q:Value->Aj->Prop}(hu:A.units+1<cLine)(I:Inv X pins σ H s)(g:DGet H a y (some v))(ry:RelV y u)(h:∀w' s',Inv X pins σ H s'->RelV v w'->Q w' s') :
  wpAny (model X.prog X.w) A (getItem (.ref a) u) Q E s:=by
 rcases g with ⟨kvs,k,e,ey,l⟩|⟨kvs,k,b,e,ey,eb,l⟩
 .subst ey
  obtain⟨z,hd,vs,rel,dd⟩:=qol I.hok e
  obtain⟨w',hw,rw'⟩:=RelO.some_of (v:=v) (o:=valueAt vs k) (by rw[l];exact rel.val k)
  exact wpAny_getItem_of (qok ry) dd.mapOf hw (h w' _ (I.tok _) rw')
 .subst ey
  cases (show u=Ao b from ry)
  obtain⟨z,hd,xs,rel,dd⟩:=qom I.hok e
  obtain⟨w',hw,rw'⟩:=RelO.some_of (v:=v) (o:=(atKey xs k).map (·.2)) (by rw[l];exact rel.val k)
  obtain⟨p,hp,hp2⟩:=DJ.mp hw
  refine wpAny_getItem_heap (DA hu) (qkj I.hok eb) dd hp ?_
  rw[hp2]
  exact h w' _ (I.tok _) rw'
theorem d_in {Q:Value->Aj->Prop}(hu:A.units+1<cLine)(I:Inv X pins σ H s)(g:DGet H a y o)(ry:RelV y u)(h:∀s',Inv X pins σ H s'->Q (.bool o.isSome) s') :
  wpAny (model X.prog X.w) A (compareOp .In u (.ref a)) Q E s:=by
 rcases g with ⟨kvs,k,e,ey,l⟩|⟨kvs,k,b,e,ey,eb,l⟩
 .subst ey
  obtain⟨z,hd,vs,rel,dd⟩:=qol I.hok e
  refine wpAny_in_of (qok ry) hd dd.mapOf ?_
  rw[<- (rel.val k).isSome_eq,<- l]
  exact h _ (I.tok _)
 .subst ey
  cases (show u=Ao b from ry)
  obtain⟨z,hd,xs,rel,dd⟩:=qom I.hok e
  refine wpAny_in_heap (DA hu) (qkj I.hok eb) hd dd ?_
  have q:=(rel.val k).isSome_eq
  rw[Option.isSome_map]at q
  rw[<- q,<- l]
  exact h _ (I.tok _)
theorem qw9 {Q:Value->Aj->Prop}(hu:A.units+1<cLine)(I:Inv X pins σ H s)(g:DGet H a y o)(ry:RelV y u)(h:∀s',Inv X pins σ H s'->Q (.bool (!o.isSome)) s') :
  wpAny (model X.prog X.w) A (compareOp .NotIn u (.ref a)) Q E s:=by
 rcases g with ⟨kvs,k,e,ey,l⟩|⟨kvs,k,b,e,ey,eb,l⟩
 .subst ey
  obtain⟨z,hd,vs,rel,dd⟩:=qol I.hok e
  refine wpAny_notIn_of (qok ry) hd dd.mapOf ?_
  rw[<- (rel.val k).isSome_eq,<- l]
  exact h _ (I.tok _)
 .subst ey
  cases (show u=Ao b from ry)
  obtain⟨z,hd,xs,rel,dd⟩:=qom I.hok e
  refine wpAny_notIn_heap (DA hu) (qkj I.hok eb) hd dd ?_
  have q:=(rel.val k).isSome_eq
  rw[Option.isSome_map]at q
  rw[<- q,<- l]
  exact h _ (I.tok _)
theorem qro {h':Heap}{t':Nat}{ob:HO}(I:Inv X pins σ H s)(mu:Mut (H a))(hs:Cr a s.heap h')(he:∃q,h'.get? a=some q)(new:ObjOk X.prog X.w (upd H a ob) h' a ob) :
  Inv X pins σ (upd H a ob) { s with heap:=h',toks:=t' } :=
 I.write (x:=a) (e:=a) mu (.inl rfl) (λb q hb z=>(hs.2 b hb).trans z) he new
theorem dk_new {P:AU}{w:World}{H':Hp}{h':Heap}{kvs:List (Key×V)}{vs:List (Key×Value)}(z:kvs.length<=A5)(hd:(a == sysModules)=false)(rel:KV kvs vs)(dd:h'.DictOf (qb6 P w) a vs) :
  ObjOk P w H' h' a (.dK kvs):=⟨z,hd,vs,rel,dd⟩
theorem qsv {H':Hp}{Q:Unit->Aj->Prop}(hu:A.units+1<cLine)(I:Inv X pins σ H s)(g:DPut H a y v H')(ry:RelV y u)(rv:RelV v r)(h:∀s',Inv X pins σ H' s'->Q () s') :
  wpAny (model X.prog X.w) A (setItem (.ref a) u r) Q E s:=by
 rcases g with ⟨kvs,k,e,ey,l,eH⟩|⟨kvs,k,b,e,ey,eb,l,eH⟩
 .subst ey eH
  obtain⟨z,hd,vs,rel,dd⟩:=qrm I.hok e
  have hz:vs.length<=A5:=by rw[<- rel.length];exact z
  have hl:(qfn kvs k v).length<=A5:=by have:=qf7 kvs k v;lia
  refine wpAny_setItem_pairs (hsz:=hz) (qok ry) dd λh' dd' hs=>h _ ?_
  have he:∃q,h'.get? a=some q:=let ⟨q,_,_,hq,_⟩:=dd';⟨q,hq⟩
  exact qro I (by rw[e];exact CL) hs he (dk_new hl hd (rel.put k rv) dd')
 .subst ey eH
  cases (show u=Ao b from ry)
  obtain⟨z,hd,xs,rel,dd⟩:=dt_of I.hok e
  have hz:xs.length<=A5:=by rw[<- D7.length rel];exact z
  have hl:(qfn kvs k v).length<=A5:=by have:=qf7 kvs k v;lia
  refine wpAny_setItem_heap (hsz:=hz) (DA hu) (qkj I.hok eb) dd λh' dd' hs=>h _ ?_
  obtain⟨q,es,ep,hq,h2,h3,h4,_,h5⟩:=dd'
  refine qro I (by rw[e];exact CL) hs ⟨q,hq⟩ ⟨hl,hd,_,(rel.put k eb rv).keeps λc ys ec=>?_,q,es,ep,hq,h2,h3,h4,h5⟩
  rw[zh (ne_of ec e (λz=>nomatch z))]
  exact ec
end
section
variable {X:Cx}{pins:List (Addr×Obj)}{σ:St}{H:Hp}{s:Aj}{a:Addr}{kvs:List (Key×V)}{k:Key}{u:Value}{A:Be}{E:Value->Aj->Prop}
end
noncomputable def NoSl (i:Expr):Prop:=∀ov iv,subscripted i false ov iv=operate [ov,iv] (getItem ov iv)
theorem qxa {prog:AU}{w:World}{A:Be}{E:Value->Aj->Prop}{s:Aj}{env:Env}{value slice:Expr}{pos:Pos}{T id:String}{Q:Value->Aj->Prop}
  (hl:typeLookup (.type T) "__getitem__" = pure (some (.builtin id))) (hs:NoSl slice)
  (h:wpAny (model prog w) A (eval value env) (λo s₁=>wpAny (model prog w) A (eval slice env) (λi s₂=>s₂.TypeIs o T/\wpAny (model prog w) A (getItem o i) Q E s₂) E s₁) E s) :
  wpAny (model prog w) A (eval (.Subscript value slice pos) env) Q E s:=by
 refine Subscript_ (BR h (λo s₁ h₁=>BR h₁ (λi s₂ h₂=>?_) λ_ _ x=>x) λ_ _ x=>x)
 obtain⟨hT,h₂⟩:=h₂
 unfold subscriptTail
 refine Af ?_
 rw[getitemInPython_of_ne hT.not_modules]
 refine Af (wpAny_specialOf hT hl ?_)
 have fin:wpAny (model prog w) A (subscripted slice false o i) (λr s₃=>wpAny (model prog w) A (letTemporaryGo value o r >>= λ_=>pure r) Q E s₃) E s₂:=by
  rw[hs o i]
  exact wpAny_operating (BR h₂ (λr s₃ h₃=>Af (wpAny_letTemporaryGo (A6 h₃))) λ_ _ x=>x)
 first
  |exact A6 (Af fin)
  |exact Af (A6 (Af fin))
  |exact Af fin
theorem qon {X:Cx}{pins:List (Addr×Obj)}{σ:St}{H:Hp}{s:Aj}{a:Addr}{y:V}{o:Option V}(I:Inv X pins σ H s)(g:DGet H a y o):s.TypeIs (.ref a) "dict" := by
 rcases g with ⟨kvs,k,e,_,_⟩|⟨kvs,k,b,e,_,_,_⟩
 .obtain⟨_,_,vs,_,dd⟩:=qol I.hok e
  exact dd.typeIs
 .obtain⟨_,_,xs,_,dd⟩:=qom I.hok e
  exact dd.typeIs
noncomputable def tDGet (td ty:TE):TE:=λσ H Q=>td σ H λx H1=>ty σ H1 λy H2=>∃a v,x=.ref a/\DGet H2 a y (some v)/\Q v H2
noncomputable def tDIn (ty td:TE):TE:=λσ H Q=>ty σ H λy H1=>td σ H1 λx H2=>∃a o,x=.ref a/\DGet H2 a y o/\Q (.bl o.isSome) H2
noncomputable def qxb (ty td:TE):TE:=λσ H Q=>ty σ H λy H1=>td σ H1 λx H2=>∃a o,x=.ref a/\DGet H2 a y o/\Q (.bl (!o.isSome)) H2
noncomputable def sDPut (td ty tv:TE):TS:=λD σ H=>tv σ H λv H1=>td σ H1 λx H2=>ty σ H2 λy H3=>∃a H4,x=.ref a/\DPut H3 a y v H4/\D.nx σ H4
section
variable {X:Cx}{o i e value:Expr}{pos pos' tpos:Pos}{td ty tv:TE}
theorem qj5 (hu:X.A.units+1<cLine)(ho:PE X o td)(hi:PE X i ty)(hs:NoSl i):PE X (.Subscript o i pos) (tDGet td ty):=by
 intro pins s σ H Q I h
 refine qxa PySem.F.slot_dict_getitem.lookup hs (thn (ho pins s σ H _ I h) λu s1 ⟨x,H1,I1,rx,q1⟩=>thn (hi pins s1 σ H1 _ I1 q1) λiv s2 hh9=>?_)
 obtain⟨y,H2,I2,ry,a,v,ex,g,q2⟩:=hh9
 subst ex
 obtain rfl:u=Ao a:=rx
 exact⟨qon I2 g,qsu hu I2 g ry λw' s3 I3 rw'=>⟨v,H2,I3,rw',q2⟩⟩
theorem pc_din (hu:X.A.units+1<cLine)(hi:PE X i ty)(ho:PE X o td):PC X .In i o (tDIn ty td):=by
 intro pins s σ H Q I h
 refine thn (hi pins s σ H _ I h) λiv s1 ⟨y,H1,I1,ry,q1⟩=>thn (ho pins s1 σ H1 _ I1 q1) λu s2 hh9=>?_
 obtain⟨x,H2,I2,rx,a,ov,ex,g,q2⟩:=hh9
 subst ex
 obtain rfl:u=Ao a:=rx
 exact d_in hu I2 g ry λs3 I3=>⟨.bl ov.isSome,H2,I3,rfl,q2⟩
theorem qiu (hu:X.A.units+1<cLine)(hi:PE X i ty)(ho:PE X o td):PC X .NotIn i o (qxb ty td):=by
 intro pins s σ H Q I h
 refine thn (hi pins s σ H _ I h) λiv s1 ⟨y,H1,I1,ry,q1⟩=>thn (ho pins s1 σ H1 _ I1 q1) λu s2 hh9=>?_
 obtain⟨x,H2,I2,rx,a,ov,ex,g,q2⟩:=hh9
 subst ex
 obtain rfl:u=Ao a:=rx
 exact qw9 hu I2 g ry λs3 I3=>⟨.bl (!ov.isSome),H2,I3,rfl,q2⟩
theorem qnn (hu:X.A.units+1<cLine)(ho:PE X o td)(hi:PE X i ty)(hv:PE X value tv)(hs:swapsWith value (some (.Subscript o i pos')) pos.line X.env=pure false) :
  PS X (.Assign [.Subscript o i pos'] value pos) (sDPut td ty tv):=by
 intro pins s σ H D I h
 refine wpAny_Assign_Subscript (thn (hv pins s σ H _ I h) λr s1 ⟨v,H1,I1,rv,q1⟩=>thn (ho pins s1 σ H1 _ I1 q1) λu s2 ⟨x,H2,I2,rx,q2⟩=>thn (hi pins s2 σ H2 _ I2 q2) λiv s3 hh9=>?_) hs
 obtain⟨y,H3,I3,ry,a,H4,ex,g,q3⟩:=hh9
 subst ex
 obtain rfl:u=Ao a:=rx
 exact qsv hu I3 g ry rv λs4 I4=>⟨σ,H4,I4,q3⟩
end
theorem qup {P:AU}{w:World}{H:Hp}(h:Heap)(hb:sysModules<h.objs.size):ObjOk P w H (h.push { cls:=.type "dict",data:=.dict #[] }) h.objs.size (.dK []) :=
 ⟨B7 _,beq_eq_false_iff_ne.mpr (Bh (AR hb)),[],.nil,Heap.DictOf.new h⟩
noncomputable def tDNewK:TE:=λ_ H Q=>∀p,H p=none->Q (.ref p) (upd H p (.dK []))
section
variable {X:Cx}{pos:Pos}
theorem qkk:PE X (.Dict [] [] pos) tDNewK:=λpins s σ H Q I h =>
 wpAny_Dict_empty ⟨.ref s.heap.objs.size,_,I.laid (a:=s.heap.objs.size) (o:=.dK []) (t':=s.toks) (λ_ _ q=>Ap _ q) (A3 _) (qup s.heap I.big),rfl,h _ (I.hok.fresh (A3 _))⟩
end
section
variable {X:Cx}{pins:List (Addr×Obj)}{σ:St}{H:Hp}{s:Aj}{a:Addr}{y d:V}{u r:Value}{o:Option V}{A:Be}{E:Value->Aj->Prop}
end
section
variable {X:Cx}{o e f:Expr}{apos cpos:Pos}{td ty tx:TE}
end
section
variable {X:Cx}{pins:List (Addr×Obj)}{σ:St}{H:Hp}{s:Aj}{a:Addr}{kvs:List (Key×V)}{A:Be}{E:Value->Aj->Prop}
end
section
variable {X:Cx}{pins:List (Addr×Obj)}{σ:St}{H:Hp}{s:Aj}{a:Addr}{y:V}{u:Value}{A:Be}{E:Value->Aj->Prop}
end
end L2
namespace L2
open PySem PySem.Spec PyProof.Rows
section
variable {κ:Type}[DecidableEq κ]
end
end L2
namespace Add
open PySem PySem.Spec PyProof.Rows L2
theorem pos {j:Int}(h:0<j):0<j:=h
theorem qp7 {i j:Int}(h : -1000000<i)(h':i<1000000):CMul i j:=.inl ⟨by lia,by lia⟩
section
variable {K:Ag}
theorem qf8:BC K (.type "int") (.type "int")=some true:=by kernel_rfl
theorem qhy:BC K (.type "int") (.type "bool")=some false:=by kernel_rfl
end
section
variable {X:Cx}
theorem qf9:qem X (.builtin "isinstance") (λxs H Q=>∃x t c b,xs=[x,.ty c]/\TyOf X.K H x t/\BC X.K t (.type c)=some b/\Q (.bl b) H):=by
 intro pins s σ H xs us Q I r h
 obtain⟨x,t,c,b,rfl,ty,e,q⟩:=h
 obtain⟨u,u',rfl,r1,r2⟩:=Vals.two r
 cases (show u'=BU c from r2)
 exact qsq I r1 ty e λtk=>⟨.bl b,H,I.tok tk,rfl,q⟩
noncomputable def qiv:List V->List V->Bool
 | [],[]=>true
 |x::xs,y::ys=>eqV x y && qiv xs ys
 |_,_=>false
noncomputable def eAt (xs ys:List V)(j:Nat):Bool:=match xs[j]?,ys[j]? with
 |some x,some y=>eqV x y
 |_,_=>false
theorem quq:∀(xs ys:List V),((Bl (min xs.length ys.length)).all (eAt xs ys) && (xs.length == ys.length))=qiv xs ys
 | [],[]=>rfl
 | [],_::_=>by simp[qiv]
 |_::_,[]=>by simp[qiv]
 |x::xs,y::ys=>by
  have ih:=quq xs ys
  have e:min (x::xs).length (y::ys).length=min xs.length ys.length+1:=by simp only[At];lia
  rw[e,List.range_succ_eq_map,Dg,CG]
  have f:(eAt (x::xs) (y::ys) ∘ Nat.succ)=eAt xs ys:=by funext j;simp[eAt,Function.comp]
  have g:((x::xs).length == (y::ys).length)=(xs.length == ys.length):=by simp
  rw[f,g]
  show ((eqV x y && (Bl (min xs.length ys.length)).all (eAt xs ys)) && (xs.length == ys.length))=(eqV x y && qiv xs ys)
  rw[<- ih,Bool.and_assoc]
theorem qoo {A:Be}{s:Aj}{xs ys:List V}{us ws:List Value}(r:Vals xs us)(r':Vals ys ws)(fx:xs.all qcr=true)(fy:ys.all qcr=true) :
  ∀j (h1:j<us.toArray.size) (h2:j<ws.toArray.size),BA A s us.toArray[j] ws.toArray[j] (eAt xs ys j):=by
 intro j h1 h2
 have g1:j<xs.length:=by rw[r.length];simpa using h1
 have g2:j<ys.length:=by rw[r'.length];simpa using h2
 obtain⟨u,hu,ru⟩:=r.get (i:=j) (x:=xs[j]) (by simp[g1])
 obtain⟨w,hw,rw'⟩:=r'.get (i:=j) (x:=ys[j]) (by simp[g2])
 have e1:us.toArray[j]=u:=by
  have:us[j]?=some us[j]:=by simp
  rw[this]at hu
  simpa using AD hu
 have e2:ws.toArray[j]=w:=by
  have:ws[j]?=some ws[j]:=by simp
  rw[this]at hw
  simpa using AD hw
 have e3:eAt xs ys j=eqV xs[j] ys[j]:=by simp[eAt,g1,g2]
 rw[e1,e2,e3]
 exact qul ru rw' (Bf.mp fx _ (Bq g1)) (Bf.mp fy _ (Bq g2))
end
section
variable {X:Cx}{tg:Expr}
end
section
open PySem.SeqAt
open PySem.AutoSeq1 (wpAny_loadPart')
open PySem.MeetsSeq PySem.MeetsSeq2 PySem.MeetsSeq3
open HT
end
section
variable {prog:AU}{w:World}{A:Be}{E:Value->Aj->Prop}{s:Aj}
end
section
variable {X:Cx}
end
theorem qhg {env:Env}:∀(names:List (Str×Bv))(acc:List (Str×Addr)),(∀x∈names,x.2=.free->∃c,env.cells.lookup x.1=some c) ->
  (∀x c,acc.lookup x=some c->env.cells.lookup x=some c) ->
  ∃cl,(forIn names acc λ(x:Str×Bv)(cs:List (Str×Addr))=>if (x.2 == Br)=true then (do let a <- cellOf env x.1;pure (Df ((x.1,a)::cs))) else (pure (Df cs):Sem (ForInStep (List (Str×Addr)))))=pure cl /\
   (∀x c,cl.lookup x=some c->env.cells.lookup x=some c)/\(∀x,(acc.lookup x).isSome=true->(cl.lookup x).isSome=true)/\∀x∈names,x.2=.free->(cl.lookup x.1).isSome=true
 | [],acc,_,ha=>⟨acc,rfl,ha,λ_ h=>h,λ_ h=>absurd h (by simp)⟩
 | (n,k)::r,acc,hf,ha=>by
  have hr:∀x∈r,x.2=.free->∃c,env.cells.lookup x.1=some c:=λx hx=>hf x (Ar _ hx)
  rw[Ef]
  cases hk:(k == Br) with
  |false =>
   obtain⟨cl,e,c1,c2,c3⟩:=qhg r acc hr ha
   refine⟨cl,?_,c1,c2,λx hx hx2=>?_⟩
   .simp only[hk,Da,if_false]
    exact e
   .rcases An.mp hx with z|z
    .subst z
     have z2:k=.free:=hx2
     subst z2
     exact absurd hk Ex
    .exact c3 x z hx2
  |true =>
   have hk':k=.free:=by simpa using hk
   obtain⟨c,hc⟩:=hf (n,k) Am hk'
   have ha':∀x d,((n,c)::acc).lookup x=some d->env.cells.lookup x=some d:=λx d e=>by
    rw[BD]at e
    cases q:x == n with
    |true =>
     rw[q]at e
     have q':x=n:=by simpa using q
     subst q'
     rw[hc];exact e
    |false=>rw[q]at e;exact ha x d e
   obtain⟨cl,e,c1,c2,c3⟩:=qhg r ((n,c)::acc) hr ha'
   have there:((((n,c)::acc).lookup n).isSome)=true:=by simp
   refine⟨cl,?_,c1,λx hx=>c2 x ?_,λx hx hx2=>?_⟩
   .have hcell:cellOf env n=pure c:=by unfold cellOf;rw[hc]
    simp only[hk,if_true,hcell]
    exact e
   .rw[BD]
    cases q:x == n with
    |true=>rfl
    |false=>exact hx
   .rcases An.mp hx with z|z
    .subst z;exact c2 n there
    .exact c3 x z hx2
theorem qkl {env:Env}{scope:Scope}(hf:∀x∈scope.names,x.2=.free->∃c,env.cells.lookup x.1=some c) :
  ∃cl,closureFor scope env=pure cl/\(∀x c,cl.lookup x=some c->env.cells.lookup x=some c)/\∀x∈scope.names,x.2=.free->(cl.lookup x.1).isSome=true:=by
 obtain⟨cl,e,c1,_,c3⟩:=qhg scope.names [] hf (λx c h=>absurd h (by simp))
 refine⟨cl,?_,c1,c3⟩
 unfold closureFor
 exact(congrArg (λz=>z >>= λcs=>(pure cs:Sem (List (Str×Addr)))) e).trans rfl
noncomputable def qno (N:List Str)(js:List (Option Nat))(XN:List Str)(xs scope:Scope):Bool :=
 (scope.kind == .function) && (scope.names.all λx=>x.2 != .cell) && (scope.names.all λx=>x.2 != .local || (scope.names.lookup x.1 == some .local)) &&
 (scope.names.all λx=>x.2 != .free || (xs.names.lookup x.1 == some .cell || xs.names.lookup x.1 == some .free)) && (N.length == js.length) &&
 ((N.zip js).all λp=>match p.2 with|none=>true|some j=>(XN[j]? == some p.1) && (xs.names.lookup p.1 == some .cell || xs.names.lookup p.1 == some .free) && (scope.names.any λx=>x.1 == p.1 && x.2 == .free) && (scope.names.lookup p.1 == some .free))
structure CompNm (N:List Str)(js:List (Option Nat))(XN:List Str)(xs scope:Scope):Prop where
 kind:scope.kind=.function
 nocell:∀x∈scope.names,x.2 ≠ .cell
 names:∀x∈scope.names,x.2=.local->scope.names.lookup x.1=some .local
 clos:∀x∈scope.names,x.2=.free->(xs.names.lookup x.1=some .cell\/xs.names.lookup x.1=some .free)
 len:N.length=js.length
 free:∀(i j:Nat)(x:Str),N[i]?=some x->js[i]?=some (some j)->XN[j]?=some x/\(xs.names.lookup x=some .cell\/xs.names.lookup x=some .free)/\(x,Br)∈scope.names/\scope.names.lookup x=some .free
theorem qmp {N:List Str}{js:List (Option Nat)}{XN:List Str}{xs scope:Scope}(h:qno N js XN xs scope=true):CompNm N js XN xs scope:=by
 unfold qno at h
 simp only[AN,Bf,beq_iff_eq,Bool.or_eq_true,bne_iff_ne,ne_eq]at h
 obtain⟨⟨⟨⟨⟨h1,h2⟩,h3⟩,h4⟩,h5⟩,h6⟩:=h
 refine⟨h1,λx hx=>h2 x hx,λx hx e=>?_,λx hx e=>?_,h5,λi j x e1 e2=>?_⟩
 .rcases h3 x hx with z|z
  .exact absurd e z
  .exact z
 .rcases h4 x hx with z|z
  .exact absurd e z
  .exact z
 .have hz:(N.zip js)[i]?=some (x,some j):=by rw[List.getElem?_zip_eq_some];exact⟨e1,e2⟩
  have:=h6 _ (Ai hz)
  simp only[AN,beq_iff_eq,Bool.or_eq_true,List.any_eq_true]at this
  obtain⟨⟨⟨a1,a2⟩,y,hy,b1,b2⟩,a4⟩:=this
  refine⟨a1,a2,?_,a4⟩
  obtain⟨y1,y2⟩:=y
  have b1':y1=x:=b1
  have b2':y2=.free:=b2
  subst b1' b2'
  exact hy
theorem qop {env:Env}{scope:Scope}{x:Str}(h:scope.names.lookup x=some .free):(relabel scope env).names.lookup x=some .cell\/(relabel scope env).names.lookup x=some .free:=by
 have gen:∀(l:List (Str×Bv)),l.lookup x=some .free->((l.map λ(n,k)=>if (k == Br && env.scope.kind == .function && env.kindOf n == some .cell) then (n,Bv.cell) else (n,k)).lookup x=some .cell\/(l.map λ(n,k)=>if (k == Br && env.scope.kind == .function && env.kindOf n == some .cell) then (n,Bv.cell) else (n,k)).lookup x=some .free):=by
  intro l
  induction l with
  |nil=>intro h;simp at h
  |cons y r ih =>
   obtain⟨n,k⟩:=y
   intro h
   rw[BD]at h
   rw[A4]
   cases q:x == n with
   |false =>
    rw[q]at h
    have:=ih h
    by_cases hc:(k == Br && env.scope.kind == .function && env.kindOf n == some .cell)=true
    .simpa [hc,BD,q] using this
    .simpa [hc,BD,q] using this
   |true =>
    rw[q]at h
    have h':k=.free:=AD h
    subst h'
    by_cases hc:(Br == Br && env.scope.kind == .function && env.kindOf n == some .cell)=true
    .exact .inl (by show CF x ((if (Br == Br && env.scope.kind == .function && env.kindOf n == some .cell)=true then (n,Bv.cell) else (n,Br))::_)=_;rw[if_pos hc,BD,q])
    .exact .inr (by show CF x ((if (Br == Br && env.scope.kind == .function && env.kindOf n == some .cell)=true then (n,Bv.cell) else (n,Br))::_)=_;rw[if_neg hc,BD,q])
 exact gen scope.names h
noncomputable def qco (X:Cx)(N:List Str)(scope:Scope)(cl:List (Str×Addr))(C:Addr)(s:Aj)(H:Hp)(fp:List Addr)(E:Value->Aj->Prop):Cx :=
 { X with N:=N,s₀:=s,H₀:=H,env:=compEnvC scope cl C X.env,outer:=X.stack,ex:=fp,fn:=λ_=>false,pn:=[],xe:=E }
noncomputable def qfo (js:List (Option Nat))(σ:L2.St):L2.St:=js.map λj=>j.bind λk=>(σ[k]?).join
section
variable {prog:AU}{w:World}{A:Be}{R:Result->Aj->Prop}{s:Aj}
theorem qp8 {elt target iter:Expr}{ifs:List Expr}{scope:Scope}{pos:Pos}{it acc:Value}{env:Env}(I:Nat->Aj->Prop)
  (turn:∀n s,I n s->wpAny (model prog w) A (pyNext it) (λr s₁=>match r with
   |none=>R (.ok .next) s₁
   |some v=>wpAny (model prog w) A (letOwnedTupleGo target it v) (λ_ s₁'=>wpAny (model prog w) A (assign target env v) (λ_ s₂ =>
     wpAny (model prog w) A (forIn ifs true λc r=>if r=true then do let ok <- isTrue c env (eval c env);pure (Df ok) else pure (Df r)) (λok s₃ =>
      if ok=true then wpAny (model prog w) A (eval elt env) (λx s₄ =>
       wpAny (model prog w) A (call (.builtin "list.append") [acc,x]) (λ_ s₅=>∃m,m<n/\I m s₅) (notedBy (model prog w) A env λe s'=>R (.error e) s') s₄) (notedBy (model prog w) A env λe s'=>R (.error e) s') s₃
      else ∃m,m<n/\I m s₃) (notedBy (model prog w) A env λe s'=>R (.error e) s') s₂) (notedBy (model prog w) A env λe s'=>R (.error e) s') s₁')
     (notedBy (model prog w) A env λe s'=>R (.error e) s') s₁) (notedBy (model prog w) A env λe s'=>R (.error e) s') s)
  (n:Nat) (h:I n s):codeAny (model prog w) A (.compLoop (.ListComp elt [⟨target,iter,ifs,0⟩] scope pos) 0 it acc env) R s:=by
 refine codeAny_loop rfl I (λn s hI=>?_) n h
 show wpAny _ A ((compTurn (.ListComp elt [⟨target,iter,ifs,0⟩] scope pos) 0 it acc env).onRaise (λx=>do noteFrame x env;theTreesLotGoes x)) _ _ s
 refine wpAny_noted ?_
 rw[compTurn_list]
 refine Af (DZ (Af (BR (turn n s hI) (λr s₁ h₁=>?_) λ_ _ h'=>h')))
 cases r with
 |none=>exact A6 h₁
 |some v =>
  refine Af (BR h₁ (λ_ s₁' h₁'=>?_) λ_ _ h'=>h')
  refine Af (BR h₁' (λ_ s₂ h₂=>Af (BR h₂ (λok s₃ h₃=>?_) λ_ _ h'=>h')) λ_ _ h'=>h')
  cases ok with
  |false=>exact A6 ⟨rfl,h₃⟩
  |true =>
   exact Af (Af (BR h₃ (λx s₄ h₄=>Af (BR h₄ (λ_ s₅ h₅=>A6 (A6 ⟨rfl,h₅⟩)) λ_ _ h'=>h')) λ_ _ h'=>h'))
end
noncomputable def PTs (X:Cx)(ifs:List Expr)(t:TT):Prop :=
 ∀(pins:List (Addr×Obj))(s:Aj)(σ:L2.St)(H:Hp)(Q:Bool->Hp->Prop),Inv X pins σ H s->t σ H Q ->
  wpAny (model X.prog X.w) X.A (forIn ifs true λc r=>if r=true then do let ok <- isTrue c X.env (eval c X.env);pure (Df ok) else pure (Df r)) (TP X pins σ Q) X.xe s
noncomputable def qrp:TT:=λ_ H Q=>Q true H
theorem qds {X:Cx}:PTs X [] qrp:=λ_ _ _ H _ I h=>wpAny_tests_nil ⟨H,I,h⟩
theorem qxc {X:Cx}{c:Expr}{t:TT}(hc:PT X c t):PTs X [c] t:=λpins s σ H Q I h=>wpAny_tests_one (hc pins s σ H Q I h)
noncomputable def qiw (js:List (Option Nat))(g:TG)(tc:TT)(te:TE)(σ:L2.St)(Q:VK)(J:It)(H1:Hp):Prop:=∀p,H1 p=none ->
 ∃W:Nat->Nat->L2.St->Hp->Prop,(∃m,W 0 m (qfo js σ) (upd H1 p (.lst [])))/\∀i m σ' H',W i m σ' H' ->
  (J.stop i H'/\Q (.ref p) H')\/(J.go i H'/\∃N:L2.St->Hp->Prop,(∀σ2 H2,N σ2 H2->∃m',m'<m/\W (i+1) m' σ2 H2) /\
   ∀x H2,J.yld i H' x H2->g x σ' H2 λσ3 H3=>tc σ3 H3 λk H4=>if k=true then te σ3 H4 λv H5=>∃xs,H5 p=some (.lst xs)/\xs.length<A5/\N σ3 (upd H5 p (.lst (xs++[v]))) else N σ3 H4)
noncomputable def qy1 (js:List (Option Nat))(wi:TI)(g:TG)(tc:TT)(te:TE):TE:=λσ H Q=>wi σ H (qiw js g tc te σ Q)
section
variable {X:Cx}{N XN:List Str}{js:List (Option Nat)}{xs scope:Scope}{elt target iter:Expr}{ifs:List Expr}{pos:Pos}{g:TG}{tc:TT}{te:TE}
theorem qkm {pins:List (Addr×Obj)}{σ:L2.St}{H2:Hp}{s2:Aj}{it:Addr}{fp:List Addr}{tn:Nat->Heap->Prop}{J:It}{cl:List (Str×Addr)}{Q:V->Hp->Prop}{RR:Value->Addr->Result->Aj->Prop}{E:Value->Aj->Prop}
  (hc:X.calm=true) (hN:X.N=XN) (hS:X.env.scope=xs) (nm:CompNm N js XN xs scope) (hcl1:∀x c,cl.lookup x=some c->X.env.cells.lookup x=some c) (hcl2:∀x∈scope.names,x.2=.free->(cl.lookup x.1).isSome=true)
  (hg:∀(cl:List (Str×Addr))(C:Addr)(s:Aj)(H:Hp)(fp:List Addr)(E:Value->Aj->Prop),PG (qco X N scope cl C s H fp E) target g)
  (ht:∀(cl:List (Str×Addr))(C:Addr)(s:Aj)(H:Hp)(fp:List Addr)(E:Value->Aj->Prop),PTs (qco X N scope cl C s H fp E) ifs tc)
  (he:∀(cl:List (Str×Addr))(C:Addr)(s:Aj)(H:Hp)(fp:List Addr)(E:Value->Aj->Prop),PE (qco X N scope cl C s H fp E) elt te)
  (I2:Inv X pins σ H2 s2) (T:Turn X.prog X.w X.K target J fp it tn) (st2:tn 0 s2.heap) (f2:∀b∈fp,qel X pins H2 b)
  (hW:qiw js g tc te σ Q J H2)
  (fin:∀(p C:Addr)(H':Hp)(s':Aj)(m:Str->Option Value),Inv X pins σ H' s'->s'.heap.Ns C m->s2.heap.objs.size<=C->H' C=none->Q (.ref p) H'->RR (.ref p) C (.ok .next) s') :
  wpAny (model X.prog X.w) X.A (newList []) (λacc s₃=>wpAny (model X.prog X.w) X.A (newFunctionEnv scope X.env.globals cl [] X.env.qual none .none (some X.env)) (λcenv s₄ =>
   codeAny (model X.prog X.w) X.A (.compStart (.ListComp elt [⟨target,iter,ifs,0⟩] scope pos) 0 (.ref it) acc { cenv with scope:=relabel scope X.env }) (RR acc cenv.locals) s₄) E s₃) E s2:=by
 refine DK (wpAny_newFunctionEnv nm.nocell (by intro y hy;simp at hy) (λh₁ hns₁ hsb₁=>?_) nm.kind)
 obtain⟨W,⟨m0,w0⟩,turn⟩:=hW s2.heap.objs.size I2.fresh
 have I3:Inv X pins σ (upd H2 s2.heap.objs.size (.lst [])) { s2 with heap:=s2.heap.push { cls:=.type "list",data:=.seq ([]:List Value).toArray } }:=I2.lnew (ys:=[]) (its:=[]) (t':=s2.toks) .nil (B7 _)
 generalize hs3:({ s2 with heap:=s2.heap.push { cls:=.type "list",data:=.seq ([]:List Value).toArray } }:Aj)=s3 at I3 hns₁ hsb₁ |-
 have hh3:s3.heap=s2.heap.push { cls:=.type "list",data:=.seq ([]:List Value).toArray }:=by rw[<- hs3]
 have z3:s3.heap.objs.size=s2.heap.objs.size+1:=by rw[hh3,Cu]
 generalize hP:s2.heap.objs.size=P at w0 turn I3 z3 |-
 have hH3:∀b∈fp,upd H2 P (.lst []) b=none:=λb hb=>by
  have nb:b≠P:=by
   obtain⟨o,eo,_⟩:=T.obj 0 s2.heap st2 b hb
   have:=A7 eo
   rw[hP]at this
   exact AR this
  rw[zh nb]
  exact(f2 b hb).1
 generalize hH:upd H2 P (.lst [])=H3 at w0 I3 hH3
 have f3:∀b∈fp,b≠X.env.locals/\b∉X.fs/\(b∈X.ex\/X.s₀.heap.objs.size<=b)/\(∀x c,X.env.cells.lookup x=some c->c≠b)/\∀p∈X.pn++pins,p.1≠b:=λb hb=>(f2 b hb).2
 have fpl:∀b∈fp,b<s3.heap.objs.size:=λb hb=>by
  obtain⟨o,eo,_⟩:=T.obj 0 s2.heap st2 b hb
  have hl:=A7 eo
  exact AG hl (by rw[z3,hP];exact C4 _)
 have st3:tn 0 s3.heap:=T.keep 0 _ _ st2 λb _ o e=>by rw[hh3];exact Ap _ e
 generalize hC:s3.heap.objs.size=C at hns₁ hsb₁ z3 fpl |-
 have old:∀b o,s3.heap.get? b=some o->h₁.get? b=some o:=λb o e=>hsb₁.extBut b o (by have hl:=A7 e;rw[hC]at hl;exact AR hl) (Ap _ e)
 have stk:∀b∈fp,b∉frs X.stack:=λb hb z=>by
  rcases An.mp (I3.stkSub b z) with q|q
  .exact(f3 b hb).1 q
  .exact(f3 b hb).2.1 q
 have ok:∀E',(qco X N scope cl C s3 H3 fp E').Ok:=λE'=>{
  mod:=I3.ok.mod
  kind:=nm.kind
  glob:=I3.ok.glob
  blt:=I3.ok.blt
  above:=BZ hC
  inj:=λx y c h1 h2=>I3.ok.inj x y c (hcl1 x c h1) (hcl1 y c h2)
  has:=λx hx=>by
   have key:(x,Br)∈scope.names:=by
    have hl:(relabel scope X.env).names.lookup x=some .cell\/(relabel scope X.env).names.lookup x=some .free:=hx
    have gen:∀(l:List (Str×Bv)),(∀y∈l,y.2 ≠ .cell)->((l.map λ(n,k)=>if (k == Br && X.env.scope.kind == .function && X.env.kindOf n == some .cell) then (n,Bv.cell) else (n,k)).lookup x=some .cell\/(l.map λ(n,k)=>if (k == Br && X.env.scope.kind == .function && X.env.kindOf n == some .cell) then (n,Bv.cell) else (n,k)).lookup x=some .free)->(x,Br)∈l:=by
     intro l
     induction l with
     |nil=>intro _ h;rcases h with h|h <;>simp at h
     |cons y r ih =>
      obtain⟨n,k⟩:=y
      intro hn h
      have hr:=ih (λy hy=>hn y (Ar _ hy))
      have hk:k ≠ .cell:=hn (n,k) Am
      rw[A4]at h
      cases q:x == n with
      |false =>
       refine Ar _ (hr ?_)
       by_cases hc:(k == Br && X.env.scope.kind == .function && X.env.kindOf n == some .cell)=true
       .simpa [hc,BD,q] using h
       .simpa [hc,BD,q] using h
      |true =>
       have q':x=n:=by simpa using q
       subst q'
       by_cases hc:(k == Br && X.env.scope.kind == .function && X.env.kindOf x == some .cell)=true
       .have:k=.free:=by
         simp only[AN,beq_iff_eq]at hc
         exact hc.1.1
        subst this
        exact Am
       .have h':k=.cell\/k=.free:=by simpa [hc,BD] using h
        rcases h' with z|z
        .exact absurd z hk
        .subst z;exact Am
    exact gen scope.names nm.nocell hl
   exact CM.mp (hcl2 _ key rfl)
  cab:=λ_ _ h _=>nomatch h
  hd:=I3.ok.hd
  frames:=I3.ok.frames
  stk:=.inl rfl
  exf:=λb hb=>⟨AR (fpl b hb),λx c e=>(f3 b hb).2.2.2.1 x c (hcl1 x c e)⟩
  bs:=I3.bs
  bsz:=A0 I3.ok.bsz I3.sz
  noex:=λb o e hb=>by
   rcases (f3 b hb).2.2.1 with z|z
   .exact I3.ok.noex b o e z
   .have h1:=A7 e
    have h2:=I3.ok.bsz
    exact absurd (AG h1 (A0 h2 z)) (Cf _)
  exfs:=stk
  funs:=I3.stack
  frf:=I3.stkFree }
 have start:∀E',Inv (qco X N scope cl C s3 H3 fp E') [] (qfo js σ) H3 { s3 with heap:=h₁,toks:=s3.toks+([]:List (Str×Value)).length }:=λE'=>{
  ok:=ok E'
  os:=rfl
  bare:=I3.bare
  base:=Un.kept old
  loc:=by
   refine⟨_,hns₁,λi x v e1 e2 e3=>?_⟩
   have e2':((js[i]?).map λj=>j.bind λk=>(σ[k]?).join)=some (some v):=by
    have:=e2
    unfold qfo at this
    rwa [Al]at this
   cases hj:js[i]? with
   |none=>rw[hj]at e2';cases e2'
   |some jo =>
    rw[hj]at e2'
    cases jo with
    |none=>cases e2'
    |some j =>
     have e2'':(σ[j]?).join=some v:=AD e2'
     have e4:σ[j]?=some (some v):=by
      cases q:σ[j]? with
      |none=>rw[q]at e2'';cases e2''
      |some o=>rw[q]at e2'';cases o with
       |none=>cases e2''
       |some y=>cases e2'';rfl
     obtain⟨a1,a2,a3,a4⟩:=nm.free i j x e1 hj
     obtain⟨mX,hnX,lX⟩:=I3.loc
     have vis:Vis X.env.scope x:=by rw[hS];exact .inr a2
     obtain⟨u,ru,lu⟩:=lX j x v (by rw[hN];exact a1) e4 vis
     refine⟨u,ru,?_⟩
     rcases lu with ⟨k1,_⟩|⟨k1,c,e5,z⟩
     .exfalso
      have k1':X.env.scope.names.lookup x=some .local:=k1
      rw[hS]at k1'
      rcases a2 with q|q <;>rw[q]at k1' <;>cases k1'
     .obtain⟨c',e6⟩:=CM.mp (hcl2 _ a3 rfl)
      have e7:=hcl1 x c' e6
      rw[e5]at e7
      cases e7
      refine .inr ⟨?_,c,e6,?_⟩
      .rcases e3 with q|q|q
       .exfalso
        have:=qop (env:=X.env) a4
        rcases this with t|t <;>(have q':(relabel scope X.env).names.lookup x=some .local:=q;rw[t]at q';cases q')
       .exact .inl q
       .exact .inr q
      .obtain⟨o,ho,hd⟩:=z
       exact⟨o,old c o ho,hd⟩
  cell:=λx c e=>by
   obtain⟨v,o,ho,hd⟩:=I3.cell x c (hcl1 x c e)
   exact⟨v,o,old c o ho,hd⟩
  free:=I3.hok.fresh (BZ hC)
  freeC:=λx c e=>I3.freeC x c (hcl1 x c e)
  pin:=λp hp=>absurd (show p∈([]:List (Addr×Obj)) from hp) (by simp)
  hok:=I3.hok.kept old
  len:=by unfold qfo;rw[Ab];exact nm.len.symm }
 have done:∀{E':Value->Aj->Prop}{σ':L2.St}{H':Hp}{s':Aj},Inv (qco X N scope cl C s3 H3 fp E') [] σ' H' s'->Q (.ref P) H'->RR (.ref P) C (.ok .next) s':=λ{E' σ' H' s'} J' q=>by
  obtain⟨m',hn',_⟩:=J'.loc
  refine fin P C H' s' m' (I3.call' (ch:=fp) J'.os J'.base J'.hok J'.bare λb hb=>⟨(f3 b hb).2.2.1,(f3 b hb).1,(f3 b hb).2.2.2.1,(f3 b hb).2.2.2.2⟩) hn' (by rw[z3,hP];exact C4 _) J'.free q
 have loop:∀s₄:Aj,s₄={ s3 with heap:=h₁,toks:=s3.toks+([]:List (Str×Value)).length } ->
   codeAny (model X.prog X.w) X.A (.compLoop (.ListComp elt [⟨target,iter,ifs,0⟩] scope pos) 0 (.ref it) (.ref P) (compEnvC scope cl C X.env)) (RR (.ref P) C) s₄:=by
  rintro s₄ rfl
  generalize hNB:notedBy (model X.prog X.w) X.A (compEnvC scope cl C X.env) (λe s'=>RR (.ref P) C (.error e) s')=NB
  have stat:∀{H':Hp},(∀b∈fp,H' b=none)->∀b∈fp,qel (qco X N scope cl C s3 H3 fp NB) [] H' b:=λhn b hb =>
   ⟨hn b hb,AR (fpl b hb),stk b hb,.inl hb,λx c e=>(f3 b hb).2.2.2.1 x c (hcl1 x c e),λp hp=>absurd (show p∈([]:List (Addr×Obj)) from hp) (by simp)⟩
  refine qp8 (λn s'=>∃i σ' H',Inv (qco X N scope cl C s3 H3 fp NB) [] σ' H' s'/\tn i s'.heap/\(∀b∈fp,H' b=none)/\W i n σ' H') ?_ m0 ⟨0,qfo js σ,H3,start NB,T.keep 0 _ _ st3 λb _ o e=>old b o e,hH3,w0⟩
  rw[hNB]
  rintro n s5 ⟨i,σ5,H5,I5,st5,fr5,w5⟩
  rcases turn i n σ5 H5 w5 with ⟨stop,qn⟩|⟨go,Nx,hNx,step⟩
  .refine thn (T.done (qco X N scope cl C s3 H3 fp NB) rfl rfl rfl hc i [] s5 σ5 H5 NB I5 (stat fr5) st5 stop) λr s6 ⟨hr,I6⟩=>?_
   subst hr
   exact done I6 qn
  .refine thn (T.item (qco X N scope cl C s3 H3 fp NB) rfl rfl rfl hc i [] s5 σ5 H5 NB I5 (stat fr5) st5 go) λr s6 ⟨u,hr,h6⟩=>?_
   subst hr
   refine thn h6 λ_ s7 ⟨x,H7,I7,r7,y7,st7,fr7⟩=>?_
   have I7':=I7.pinned (stat fr7) (T.obj _ _ st7)
   have again:∀{σ8:L2.St}{H8:Hp}{s8:Aj},Inv (qco X N scope cl C s3 H3 fp NB) ([]++qkf fp s7.heap) σ8 H8 s8->Nx σ8 H8->∃m,m<n/\∃i σ' H',Inv (qco X N scope cl C s3 H3 fp NB) [] σ' H' s8/\tn i s8.heap/\(∀b∈fp,H' b=none)/\W i m σ' H':=λ{σ8 H8 s8} I8 n8=>by
    obtain⟨m',hm,w8⟩:=hNx σ8 H8 n8
    refine⟨m',hm,i+1,σ8,H8,I8.unpinned,T.keep _ _ _ st7 λb hb o e=>(I8.pin (b,o) (Ay _ (Ay _ (qfm hb e)))).1,λb hb=>?_,w8⟩
    obtain⟨o,e,d⟩:=T.obj _ _ st7 b hb
    exact(I8.pin (b,o) (Ay _ (Ay _ (qfm hb e)))).2.1
   refine thn (hg cl C s3 H3 fp NB _ s7 σ5 H7 x u _ I7' r7 (step x H7 y7)) λ_ s8 ⟨σ8,H8,I8,q8⟩=>?_
   refine thn (ht cl C s3 H3 fp NB _ s8 σ8 H8 _ I8 q8) λk s9 ⟨H9,I9,q9⟩=>?_
   cases k with
   |false =>
    rw[if_neg Ex]at q9 |-
    exact again I9 q9
   |true =>
    rw[if_pos rfl]at q9 |-
    refine thn (he cl C s3 H3 fp NB _ s9 σ8 H9 _ I9 q9) λuv s10 ⟨v,H10,I10,r10,xs',hx1,hx2,q10⟩=>?_
    refine thn (qbj (X:=qco X N scope cl C s3 H3 fp NB) _ s10 σ8 H10 (.ref P) [v] (.ref P) [uv] (λ_ H11=>Nx σ8 H11) I10 rfl (.cons r10 .nil) ⟨P,xs',v,rfl,rfl,hx1,hx2,q10⟩) λ_ s11 ⟨_,H11,I11,_,q11⟩=>?_
    exact again I11 q11
 exact codeAny_compStart_list (loop _ rfl) (T.self _ 0 _ _ _ (T.keep 0 _ _ st3 λb _ o e=>old b o e) (loop _ rfl))
end
section
variable {X:Cx}{N XN:List Str}{js:List (Option Nat)}{xs scope:Scope}{elt target iter:Expr}{ifs:List Expr}{pos:Pos}{wi:TI}{g:TG}{tc:TT}{te:TE}
theorem qjl {pins:List (Addr×Obj)}{σ σ':L2.St}{H H':Hp}{s s':Aj}{C:Addr}{h':Heap}(I2:Inv X pins σ H s)(J:Inv X pins σ' H' s')(hC:s.heap.objs.size<=C)(hn:H' C=none)(sb:Cr C s'.heap h'):Inv X pins σ' H' { s' with heap:=h' } :=
 J.turned (t':=s'.toks) (it:=C) (λb o hb e=>sb.extBut b o hb e) hn (C1 (AG I2.lt hC)) (.inr (A0 I2.sz hC))
  (λx c e=>by
   obtain⟨v,q⟩:=I2.cell x c e
   exact AR (AG q.lt hC)) λp hp=>AR (AG (A7 (I2.pin p hp).1) hC)
theorem qhz (hc:X.calm=true)(hN:X.N=XN)(hS:X.env.scope=xs)(hok:qno N js XN xs scope=true)(hi:PI X target iter wi)
  (hg:∀(cl:List (Str×Addr))(C:Addr)(s:Aj)(H:Hp)(fp:List Addr)(E:Value->Aj->Prop),PG (qco X N scope cl C s H fp E) target g)
  (ht:∀(cl:List (Str×Addr))(C:Addr)(s:Aj)(H:Hp)(fp:List Addr)(E:Value->Aj->Prop),PTs (qco X N scope cl C s H fp E) ifs tc)
  (he:∀(cl:List (Str×Addr))(C:Addr)(s:Aj)(H:Hp)(fp:List Addr)(E:Value->Aj->Prop),PE (qco X N scope cl C s H fp E) elt te)
  (hs:∀x,foldedSetIterable iter X.env x=pure x:=by intro _;rfl):PE X (.ListComp elt [⟨target,iter,ifs,0⟩] scope pos) (qy1 js wi g tc te):=by
 intro pins s σ H Q I h
 have nm:=qmp hok
 obtain⟨cl,hcl,c1,c2⟩:=qkl (env:=X.env) (scope:=scope) λx hx e=>I.ok.has x.1 (by
  rcases nm.clos x hx e with q|q
  .exact .inl (by show X.env.scope.names.lookup _=_;rw[hS];exact q)
  .exact .inr (by show X.env.scope.names.lookup _=_;rw[hS];exact q))
 rw[eval_ListComp]
 refine wpAny_comprehension_free (use:=none) rfl hs hcl nm.kind nm.names (thn (hi pins s σ H _ I h) λv s1 h1=>thn h1 λitv s2 h2=>?_)
 obtain⟨it,fp,tn,J,H2,e,I2,T,st2,f2,hW⟩:=h2
 subst e
 refine qkm (RR:=λacc C=>compPost (model X.prog X.w) X.A X.xe none (EP X pins σ Q) acc C) hc hN hS nm c1 c2 hg ht he I2 T st2 f2 hW λp C H' s' m J' hn hC hCf q=>?_
 exact⟨m,hn,λh' hs'=>⟨.ref p,H',qjl I2 J' hC hCf hs',rfl,q⟩⟩
theorem qdm {i:Nat}{x:Str}{px spos:Pos}(hNd:X.N.Nodup)(hix:X.N[i]?=some x)(hloc:X.env.scope.names.lookup x=some .local)(hc:X.calm=true)(hN:X.N=XN)(hS:X.env.scope=xs)(hok:qno N js XN xs scope=true)(hi:PI X target iter wi)
  (hg:∀(cl:List (Str×Addr))(C:Addr)(s:Aj)(H:Hp)(fp:List Addr)(E:Value->Aj->Prop),PG (qco X N scope cl C s H fp E) target g)
  (ht:∀(cl:List (Str×Addr))(C:Addr)(s:Aj)(H:Hp)(fp:List Addr)(E:Value->Aj->Prop),PTs (qco X N scope cl C s H fp E) ifs tc)
  (he:∀(cl:List (Str×Addr))(C:Addr)(s:Aj)(H:Hp)(fp:List Addr)(E:Value->Aj->Prop),PE (qco X N scope cl C s H fp E) elt te)
  (hsw:swapsWith (.ListComp elt [⟨target,iter,ifs,0⟩] scope pos) (some (.Name x px)) spos.line X.env=pure true:=by rfl)
  (hs:∀x,foldedSetIterable iter X.env x=pure x:=by intro _;rfl):PS X (.Assign [.Name x px] (.ListComp elt [⟨target,iter,ifs,0⟩] scope pos) spos) (tAsg (qy1 js wi g tc te) (qme i)):=by
 intro pins s σ H D I h
 have nm:=qmp hok
 obtain⟨cl,hcl,c1,c2⟩:=qkl (env:=X.env) (scope:=scope) λx hx e=>I.ok.has x.1 (by
  rcases nm.clos x hx e with q|q
  .exact .inl (by show X.env.scope.names.lookup _=_;rw[hS];exact q)
  .exact .inr (by show X.env.scope.names.lookup _=_;rw[hS];exact q))
 rw[exec_Assign_Name_used _ _ _ _ hsw]
 refine Af (DZ (Af ?_))
 show wpAny _ X.A (do let _ <- comprehension (.ListComp elt [⟨target,iter,ifs,0⟩] scope pos) scope X.env _ (newList []) false (eval iter X.env) (some (assign (.Name x px) X.env))) _ _ s
 refine Af (BR (wpAny_comprehension_free (use:=some (assign (.Name x px) X.env)) (Q:=λ_ s'=>SP X pins D .next s') rfl hs hcl nm.kind nm.names
  (thn (hi pins s σ H _ I h) λv s1 h1=>thn h1 λitv s2 h2=>?_)) (λ_ s' hq=>A6 (A6 hq)) λ_ _ e=>e)
 obtain⟨it,fp,tn,J,H2,e,I2,T,st2,f2,hW⟩:=h2
 subst e
 refine qkm (Q:=λx H1=>qme i x σ H1 D.nx) (RR:=λacc C=>compPost (model X.prog X.w) X.A X.xe (some (assign (.Name x px) X.env)) (λ_ s'=>SP X pins D .next s') acc C) hc hN hS nm c1 c2 hg ht he I2 T st2 f2 hW λp C H' s' m J' hn hC hCf q=>?_
 obtain⟨o,es,ep,ho,hd,hr⟩:=id hn
 have Jp:Inv X (pins++[(C,o)]) σ H' s':=J'.pins_of λz hz=>(Au.mp hz).elim (λy=>J'.pin z (Ay _ y)) λy=>by
  have e:z=(C,o):=by simpa using y
  subst e
  exact⟨ho,hCf,C1 (AG I2.lt hC),I2.nofs hC,λv z=>by rw[hd]at z;cases z⟩
 refine thn (qam (X:=X) (pos:=px) hNd hix (.inl hloc) (.inr hloc) (pins++[(C,o)]) s' σ H' (.ref p) (.ref p) _ Jp rfl q) λ_ s'' ⟨σ'',H'',Js,q''⟩=>?_
 have pc:=Js.pin (C,o) (Ay _ (Ay _ (by simp)))
 refine⟨m,⟨o,es,ep,pc.1,hd,hr⟩,λh' hs'=>⟨σ'',H'',qjl I2 Js.unpinned hC pc.2.1 hs',q''⟩⟩
end
noncomputable def qmq (J:It)(H:Hp)(xs:List V):Prop:=∀H',Same H H'->(∀i x,xs[i]?=some x->J.go i H'/\∀y H2,J.yld i H' y H2->y=x/\H2=H')/\J.stop xs.length H'
theorem qdz {K:Ag}{H:Hp}{a:Addr}{xs:List V}(h:SqL K H a xs):qmq (Itl K a) H xs:=λH' e =>
 ⟨λi x hx=>⟨⟨xs,x,e.seq h,hx⟩,λy H2 hy=>by
  obtain⟨e1,e2⟩:=hy
  have:=e2 xs (e.seq h)
  rw[hx]at this
  exact⟨(AD this).symm,e1⟩⟩,⟨xs,e.seq h,A3 _⟩⟩
theorem qga {H:Hp}{lo:Int}{n:Nat}:qmq (Itr lo n) H ((Bl n).map λi=>V.int (lo+(i:Nat))):=λH' _ =>
 ⟨λi x hx=>by
  rw[Al]at hx
  cases q:(Bl n)[i]? with
  |none=>rw[q]at hx;cases hx
  |some j =>
   have hi:i<n:=by
    obtain⟨h1,_⟩:=Ac.mp q
    simpa using h1
   have hj:j=i:=by
    obtain⟨_,h2⟩:=Ac.mp q
    simpa using h2.symm
   rw[q]at hx
   subst hj
   exact⟨hi,λy H2 hy=>⟨hy.2.trans (AD hx),hy.1⟩⟩,by show n<=_;simp⟩
theorem qc9 {js:List (Option Nat)}{g:TG}{te:TE}{J:It}{σ:L2.St}{H:Hp}{Q:VK}{xs:List V}(f:V->V)(Sv:L2.St->Prop)(F:qmq J H xs)(hz:xs.length<=A5)(h0:Sv (qfo js σ))
  (step:∀(x:V)(σ':L2.St)(H':Hp)(R:L2.St->VK),x∈xs->Same H H'->Sv σ'->(∀σ3,Sv σ3->R σ3 (f x) H')->g x σ' H' λσ3 H3=>te σ3 H3 (R σ3))
  (gk:∀(x:V)(σ':L2.St)(H':Hp)(R R':L2.St->Hp->Prop),(∀σ3 H3,R σ3 H3->R' σ3 H3)->g x σ' H' R->g x σ' H' R')
  (fin:∀p,H p=none->Q (.ref p) (upd H p (.lst (xs.map f)))) :
  qiw js g qrp te σ Q J H:=by
 intro p hp
 have sm:∀o,Same H (upd H p o):=λo b u e=>by rw[zh (qah e hp)];exact e
 refine⟨λi m σ' H'=>m=xs.length-i/\i<=xs.length/\Sv σ'/\H'=upd H p (.lst ((xs.take i).map f)),⟨xs.length,by simp,B7 _,h0,by simp⟩,?_⟩
 rintro i m σ' H' ⟨rfl,hi,hv,rfl⟩
 obtain⟨F1,F2⟩:=F _ (sm (.lst ((xs.take i).map f)))
 by_cases hlt:i<xs.length
 .have ex:xs[i]?=some xs[i]:=by simp[hlt]
  obtain⟨go,yl⟩:=F1 i _ ex
  refine .inr ⟨go,λσ2 H2=>Sv σ2/\H2=upd H p (.lst ((xs.take (i+1)).map f)),λσ2 H2 ⟨a,b⟩=>⟨xs.length-(i+1),by lia,rfl,hlt,a,b⟩,λx H2 hy=>?_⟩
  obtain⟨rfl,rfl⟩:=yl x H2 hy
  refine gk _ _ _ _ _ (λσ3 H3 z=>?_) (step xs[i] σ' _ (λσ3 v H5=>∃ys,H5 p=some (.lst ys)/\ys.length<A5/\(Sv σ3/\upd H5 p (.lst (ys++[v]))=upd H p (.lst ((xs.take (i+1)).map f)))) (Bq hlt) (sm _) hv λσ3 hs3=>?_)
  .exact z
  .refine⟨_,zd,?_,hs3,?_⟩
   .rw[Ab,Av];lia
   .rw[qre,DL,ex,Aq];rfl
 .have e:i=xs.length:=by lia
  subst e
  refine .inl ⟨F2,?_⟩
  rw[B0]
  exact fin p hp
theorem qdt {i:Nat}(x:V)(σ':L2.St)(H':Hp)(R R':L2.St->Hp->Prop)(h:∀σ3 H3,R σ3 H3->R' σ3 H3)(z:qme i x σ' H' R):qme i x σ' H' R':=h _ _ z
noncomputable def Ixs (x:Str):It:=⟨λi _=>i<x.cps.size,λi H v H'=>H'=H/\∃c,x.cps[i]?=some c/\v=.str ⟨#[c]⟩,λi _=>i=x.cps.size⟩
theorem qmr {P:AU}{w:World}{K:Ag}{tg:Expr}{it:Addr}{x:Str}{t:Tok}{ty:String}
  (hty:["enumerate", "zip", "dict_itemiterator", "dict_reverseitemiterator", "odict_iterator", "itertools.zip_longest", "itertools.pairwise"].contains ty=false)
  (W:∀A':Be,A'.handled=none->Walks P w A' it [it] [it] x.cps.size (SignAt x) (λi h=>h.IsStrIter it ty x t i))
  (self:∀(A:Be)(i:Nat)(s:Aj)(Q:Value->Aj->Prop)(E:Value->Aj->Prop),s.heap.IsStrIter it ty x t i->Q (.ref it) s->wpAny (model P w) A (pyIter (.ref it)) Q E s) :
  Turn P w K tg (Ixs x) [it] it (λi h=>h.IsStrIter it ty x t i) where
 mem:=by simp
 obj:=λi h st b hb=>by
  have e:b=it:=by simpa using hb
  subst e
  obtain⟨o,ho,_,hd⟩:=st
  exact⟨o,ho,λv z=>by rw[hd]at z;cases z⟩
 keep:=λi h h' st k=>let ⟨o,ho,r⟩:=st;⟨o,k it (by simp) o ho,r⟩
 item:=by
  intro X hP hw hK hc i pins s σ H E I hf st hg
  subst hP hw hK
  obtain⟨f0,f1,f2,f3,f4,f5⟩:=hf it (by simp)
  refine(W X.A (I.ok.hd hc)).item i s _ _ hg st λv h' tk hv st' kk=>?_
  obtain⟨c,u,hcx,rfl⟩:=hv
  have I1:Inv X pins σ H { s with heap:=h',toks:=tk }:=I.turned (λb o hb e=>kk b o (by simpa using hb) e) f0 f1 f3 f4 f5
  obtain⟨o,ho,hcl,hd⟩:=id st'
  exact⟨_,rfl,qrf (s:={ s with heap:=h',toks:=tk }) ho hcl hd hty ⟨.str ⟨#[c]⟩,H,I1,⟨u,rfl⟩,⟨rfl,c,hcx,rfl⟩,st',λb hb=>(hf b hb).1⟩⟩
 done:=by
  intro X hP hw hK hc i pins s σ H E I hf st hg
  subst hP hw hK
  obtain⟨f0,f1,f2,f3,f4,f5⟩:=hf it (by simp)
  have e:i=x.cps.size:=hg
  subst e
  exact(W X.A (I.ok.hd hc)).done s _ _ st λh' tk kk=>⟨rfl,I.turned (t':=tk) (λb o hb e=>kk b o (by simpa using hb) e) f0 f1 f3 f4 f5⟩
 self:=self
section
variable {X:Cx}{tg:Expr}
noncomputable def iText (tl:TE):TI:=λσ H R=>tl σ H λv H1=>∃x,v=.str x/\R (Ixs x) H1
theorem qrr {l:Expr}{tl:TE}(hl:PE X l tl):PI X tg l (iText tl):=by
 intro pins s σ H R I h
 refine thn (hl pins s σ H _ I h) λv s1 ⟨y,H1,I1,r1,q1⟩=>?_
 obtain⟨x,e,q⟩:=q1
 subst e
 obtain⟨t,rfl⟩:=r1
 have fo:∀b∈[s1.heap.objs.size],qel X pins H1 b:=λb hb=>by
  have e:b=s1.heap.objs.size:=by simpa using hb
  subst e
  exact I1.fpOk (A3 _) (I1.hok.fresh (A3 _))
 cases ha:x.cps.all (· < 128)
 .exact wpAny_pyIter_wide ha ⟨s1.heap.objs.size,[s1.heap.objs.size],_,_,H1,rfl,I1.kept (t':=s1.toks) λb o e=>Ap _ e,
   qmr (ty := "str_iterator") (t:=t) Ex (λA' hA=>Walks.strWide hA _ x t) (λ_ _ _ _ _ st h=>wpAny_pyIter_striter_wide st h),⟨_,AA _ rfl,rfl,rfl⟩,fo,q⟩
 .exact wpAny_pyIter_ascii ha ⟨s1.heap.objs.size,[s1.heap.objs.size],_,_,H1,rfl,I1.kept (t':=s1.toks) λb o e=>Ap _ e,
   qmr (ty := "str_ascii_iterator") (t:=t) Ex (λA' hA=>Walks.strAscii hA _ x t) (λ_ _ _ _ _ st h=>wpAny_pyIter_striter_ascii st h),⟨_,AA _ rfl,rfl,rfl⟩,fo,q⟩
end
theorem qkn {H:Hp}{x:Str}:qmq (Ixs x) H (x.cps.toList.map λc=>V.str ⟨#[c]⟩):=λH' _ =>
 ⟨λi v hv=>by
  rw[Al]at hv
  cases q:x.cps.toList[i]? with
  |none=>rw[q]at hv;cases hv
  |some c =>
   rw[q]at hv
   have q':x.cps[i]?=some c:=by simpa using q
   have hi:i<x.cps.size:=(C6.mp q').1
   refine⟨hi,λy H2 hy=>⟨?_,hy.1⟩⟩
   obtain⟨_,d,hd,rfl⟩:=hy
   rw[q']at hd
   cases hd
   exact AD hv,by show _=x.cps.size;simp⟩
section
variable {X:Cx}
theorem qur (bs:List Bool):((Bl bs.length).all λj=>(bs[j]?).getD true)=bs.all λb=>b:=by
 rw[<- all_rangeD bs λb=>b]
 congr 1
theorem qms (hc:X.calm=true):qem X (.builtin "all") (λxs H Q=>∃(p:Addr)(bs:List Bool),xs=[V.ref p]/\SqL X.K H p (bs.map V.bl)/\Q (.bl (bs.all λb=>b)) H):=by
 intro pins s σ H xs us Q I r h
 obtain⟨p,bs,rfl,hS,q⟩:=h
 obtain⟨u,rfl,ru⟩:=Vals.one r
 cases ru
 obtain⟨its,rv,pl,hz⟩:=I.list hS
 have hl:=rv.length
 rw[Ab]at hl
 have hne:p≠s.heap.objs.size:=by
  obtain⟨o,ho,_⟩:=pl.isList
  exact AR (A7 ho)
 refine call_all_walk (DF pl.isList ⟨s.heap.objs.size,_,_,its.toArray.size,_,_,λj=>(bs[j]?).getD true,rfl,Walks.list (show X.A.in1.handled=none from I.ok.hd hc) _ p hne its.toArray,
  ⟨⟨_,AA _ rfl,rfl,rfl⟩,pl.isList.at λo e=>Ap _ e⟩,?_,λh' tk hk=>?_⟩)
 .intro i v s' Q' E' hv hq
  have hv':its[i]?=some v:=by simpa using hv
  cases e:bs[i]? with
  |none =>
   exfalso
   have h1:its.length<=i:=by rw[<- hl];exact Co.mp e
   rw[Co.mpr h1]at hv'
   cases hv'
  |some b =>
   obtain⟨u,hu,ru⟩:=rv.get (i:=i) (x:=.bl b) (by rw[Al,e];rfl)
   rw[hv']at hu
   cases hu
   cases (show v=Value.bool b from ru)
   dsimp only at hq
   rw[e]at hq
   exact BE hq
 .refine⟨.bl _,H,I.kept (t':=tk) λb o e=>hk b o (λz=>?_) (Ap _ e),rfl,?_⟩
  .have z':b=s.heap.objs.size:=by simpa using z
   exact absurd (A7 e) (by rw[z'];exact Cf _)
  .have e:its.toArray.size=bs.length:=by rw[Aw,hl]
   rw[e]
   rw[qur]
   exact q
theorem qgy:OpR X (compareOp .LtE) (λx y H Q=>∃i j,x=.str i/\y=.str j/\Q (.bl (!decide (j.cps.toList<i.cps.toList))) H):=by
 intro pins s σ H x y v u Q I rx ry h
 obtain⟨i,j,rfl,rfl,q⟩:=h
 obtain⟨t,rfl⟩:=rx
 obtain⟨t',rfl⟩:=ry
 exact PySem.P.le_str (qa4 I q rfl)
theorem qnp:SlR X (λx lo hi H Q=>∃z,x=.str z/\z.length<=A5/\Q (.str (Cc z lo hi)) H):=by
 intro pins s σ H x v vl vu lo hi sl Q I rx hs pl pu h
 obtain⟨z,rfl,hz,q⟩:=h
 obtain⟨t,rfl⟩:=rx
 refine⟨"str",_,F.slot_str_getitem.lookup,typeIs_str _ _ _,?_⟩
 have fin:∀t' k,EP X pins σ Q (.str (Cc z lo hi) t') { s with toks:=k }:=λt' k=>⟨.str _,H,I.tok k,⟨t',rfl⟩,q⟩
 cases pl with
 |none =>
  cases pu with
  |none=>exact CS (l:=none) (u:=none) (st:=none) hs rfl (Eg ⟨A0 (Dv z _ _) hz,fin⟩)
  |int j uj=>exact CS (l:=none) (u:=some (j,uj)) (st:=none) hs rfl (Eg ⟨A0 (Dv z _ _) hz,fin⟩)
 |int i ui =>
  cases pu with
  |none=>exact CS (l:=some (i,ui)) (u:=none) (st:=none) hs rfl (Eg ⟨A0 (Dv z _ _) hz,fin⟩)
  |int j uj=>exact CS (l:=some (i,ui)) (u:=some (j,uj)) (st:=none) hs rfl (Eg ⟨A0 (Dv z _ _) hz,fin⟩)
theorem qus {a b}{es:List Expr}{env:Env}:starEach (.List a b::es) env=(false,eval (.List a b) env)::starEach es env:=by rw[starEach];intro e p' h;cases h
theorem ja {a b c}{es:List Expr}{env:Env}:starEach (.Tuple a b c::es) env=(false,eval (.Tuple a b c) env)::starEach es env:=by rw[starEach];intro e p' h;cases h
theorem qko {a b c d}{es:List Expr}{env:Env}:starEach (.ListComp a b c d::es) env=(false,eval (.ListComp a b c d) env)::starEach es env:=by rw[starEach];intro e p' h;cases h
theorem ze {a b c}{es:List Expr}{env:Env}:starEach (.Constant a b c::es) env=(false,eval (.Constant a b c) env)::starEach es env:=by rw[starEach];intro e p' h;cases h
theorem qt {a b}{es:List Expr}{env:Env}:starEach (.Name a b::es) env=(false,eval (.Name a b) env)::starEach es env:=by rw[starEach];intro e p' h;cases h
theorem zx {a b c d}{es:List Expr}{env:Env}:starEach (.Call a b c d::es) env=(false,eval (.Call a b c d) env)::starEach es env:=by rw[starEach];intro e p' h;cases h
theorem zy {a b c d}{es:List Expr}{env:Env}:starEach (.BinOp a b c d::es) env=(false,eval (.BinOp a b c d) env)::starEach es env:=by rw[starEach];intro e p' h;cases h
theorem qkp {a b c d}{es:List Expr}{env:Env}:starEach (.Compare a b c d::es) env=(false,eval (.Compare a b c d) env)::starEach es env:=by rw[starEach];intro e p' h;cases h
theorem zz {a b c}{es:List Expr}{env:Env}:starEach (.Subscript a b c::es) env=(false,eval (.Subscript a b c) env)::starEach es env:=by rw[starEach];intro e p' h;cases h
theorem qcv {a b c}{es:List Expr}{env:Env}:starEach (.Attribute a b c::es) env=(false,eval (.Attribute a b c) env)::starEach es env:=by rw[starEach];intro e p' h;cases h
theorem qgb {a b c}{es:List Expr}{env:Env}:starEach (.BoolOp a b c::es) env=(false,eval (.BoolOp a b c) env)::starEach es env:=by rw[starEach];intro e p' h;cases h
end
section
variable {K:Ag}
theorem qgc:BC K (.type "str") (.type "str")=some true:=by kernel_rfl
theorem qgd:BC K (.type "str") (.type "int")=some false:=by kernel_rfl
theorem qh0:BC K (.type "str") (.type "bool")=some false:=by kernel_rfl
end
section
variable {prog:AU}{w:World}{A:Be}{E:Value->Aj->Prop}{h:Heap}{g:Array GenState}{d:Drawn}{t:Nat}{os:OsState}
variable {nm q:Str}{C N:Addr}{bs bm bmB:List Value}{hdct:Bool}{sn:List Str}{sub:List Value}{ab:Bool}{col:Option Bool}{dd:Option Addr}{k0 k1 k2 k3 k5:Option Value}{B Bn newId nid initId inN:String}{bmN:List Value}
noncomputable abbrev qge (qbm:List Value):Obj:={ cls:=.type "tuple",data:=.seq qbm.toArray }
noncomputable abbrev qen (C t:Addr):Obj:={ cls:=.ref C,data:=.fields #[.ref t,.none,.none,.none,.bool false,.none] }
theorem ql5 (Fn:ExcBaseFacts Bn newId inN bmN)(hBn:bmB.contains (.type Bn)=true)(F:ExcBaseFacts B nid initId bmB)(T:OwnTail h bmB bm){mN:Str->Option Value}{qbm:List Value}{R:Result->Aj->Prop}{fI:Addr}{A':Be}
  (hC:h.get? C=some (excClassObj nm q C N bs bm hdct sn sub ab col dd k0 k1 k2 k3 k5 newId)) (hn:h.Ns N mN) (hni:mN "__init__" = some (.ref fI)) (hb:∀self,BF (model prog w) h (bindSpecial (.ref fI) self) (.ref fI,[self]))
  (hq:codeAny (model prog w) A (.call (.ref fI) ⟨.ref (h.objs.size+1)::qbm,[]⟩) (PySem.W.InitBack (h.objs.size+1) R) ⟨(h.push (qge qbm)).push (qen C h.objs.size),g,d,t,os⟩) (hrest:qbm.length<=A5) :
  wpAny (model prog w) A (AY.«type.__call__» ⟨.ref C::qbm,[]⟩) (λfin s'=>match fin with | .done f=>R (.ok f) s' | .again c'=>c'.quiet=true/\codeAny (model prog w) A' c' R s') (λe s'=>R (.error e) s') ⟨h,g,d,t,os⟩:=by
 repeat (first|with_reducible refine wpAny_loadPart_at hC ?_|with_reducible refine wpAny_madeBy_exc hC ?_|wp_step)
 refine codeAny_call_builtin_code (Code.quiet_builtin _ Fn.quiet) (wpAny_check_new_subU Fn hBn T hC ?_)
 refine codeAny_exc_new_subU Fn hBn F T hC ?_ hrest
 show wpAny _ _ _ _ _ _
 have kk:∀b o,h.get? b=some o->((h.push (qge qbm)).push (qen C h.objs.size)).get? b=some o:=λb o e=>Ap _ (Ap _ e)
 have hC₁:=kk _ _ hC
 have hn₁:((h.push (qge qbm)).push (qen C h.objs.size)).Ns N mN:=let ⟨o,es,ep,e,r⟩:=hn;⟨o,es,ep,kk _ _ e,r⟩
 have hget:((h.push (qge qbm)).push (qen C h.objs.size)).get? (h.objs.size+1)=some (qen C h.objs.size):=by heap_get
 have hcC:(Ao C::bm).contains (.ref C)=true:=by simp
 have T₁:=T.keeps (h':=(h.push (qge qbm)).push (qen C h.objs.size)) kk
 have b1:=(hb (.ref (h.objs.size+1))).keeps kk
 unfold isInstance
 repeat (first|with_reducible refine wpAny_loadPart_at hget ?_ | (with_reducible refine wpAny_isSubtype_exc hC₁ ?_;rw[hcC])|wp_step)
 show wpAny _ _ (typeLookup (.ref C) _) _ _ _
 refine wpAny_typeLookup_tail hC₁ hn₁ T₁ F.mroIs F.init.lookup ?_
 rw[hni]
 refine Cg (Af (b1.here ?_))
 refine Af (CW (CY hq λr s' z=>?_))
 rcases r with e | (v|_|_|_) <;>first|exact z|exact z.elim|skip
 obtain⟨rfl,z⟩:=z
 exact A6 (A6 z)
end
section
open PySem.W
variable {prog:AU}{w:World}{A:Be}{E:Value->Aj->Prop}{s:Aj}{K:Frag}{x C:Addr}{ox:Obj}{od:Option Obj}{name:Str}{expr:Bool}
theorem qxd:builtinKind "BaseException.__getattribute__" = some .slot:=Ez
theorem qut:splitId "BaseException.__getattribute__" = some ("BaseException", "__getattribute__"):=Ez
theorem ga_not:(Value.builtin "BaseException.__getattribute__" == Value.builtin "object.__getattribute__")=false:=Ez
structure XGet (K:Frag)(C:Addr):Prop where
 ga:findIn K (.ref C) "__getattribute__" = some (some (.builtin "BaseException.__getattribute__"))
 hk:findIn K (.ref C) "__getattr__" = some none
 sub:mroIn K C (.type "BaseException")=some true
theorem quu {fill:Bool}{tk:Tok}{Q:Value->Aj->Prop}(X:K.In s.heap)(I:InstAt s.heap x ox C od)(c:XGet K C)
  (h:wpAny (model prog w) A.in1 (AY.«object.__getattribute__» ⟨[.ref x,.str name tk],[]⟩)
   (λfin s'=>match fin with | .done (.ret v)=>wpAny (model prog w) A (handedOut v) Q E s'|_=>False) (λ_ _=>False) s) :
  wpAny (model prog w) A (getAttrBy (.ref x) (.str name tk) fill expr) Q E s:=by
 obtain⟨hh,g,d,t,os⟩:=s
 have L0:=I.type (M:=model prog w)
 have L1:=looks_findIn (M:=model prog w) X c.ga
 have L2:=looks_findIn (M:=model prog w) X c.hk
 have sb:Looks (model prog w) hh (isInstance (.ref x) (.type "BaseException")) true:=L0.andThen (looks_mroIn X c.sub)
 unfold getAttrBy
 refine Cg (Af (L0.at (Af (L1.at ?_))))
 dsimp only
 rw[ga_not,Dn,if_neg Ex]
 unfold getAttrByItsOwn hookBefore
 refine Af ?_
 show wpAny _ _ (typeLookup (.ref C) "__getattr__") _ _ _
 refine L2.at (Af (wpAny_attempt (Cg ?_)))
 have e1:callGetattribute (.ref x) (.str name tk) (.builtin "BaseException.__getattribute__") expr=boundAndCalled (.builtin "BaseException.__getattribute__") (.ref x) (.str name tk):=by
  cases expr <;>rfl
 rw[e1]
 unfold boundAndCalled
 rw[PySem.F.attr_ValueError.ga.bind (.ref x)]
 refine Af (A6 (CW ?_))
 refine Ed PySem.F.attr_ValueError.ga.plain PySem.F.entry_bexc_ga (@check_slot (model prog w) _ _ ⟨hh,g,d,t,os⟩ "BaseException.__getattribute__" "BaseException" "__getattribute__" (.ref x) [.str name tk] [] _ qxd qut sb (PySem.F.args_bexc_ga (.ref x) (.str name tk)) ?_)
 refine BR h (λfin s' z=>?_) λ_ _ z=>z.elim
 rcases fin with (_|_|_|_)|_ <;>first|exact z|exact z.elim
theorem quv {Q:Value->Aj->Prop}(X:K.In s.heap)(I:InstAt s.heap x ox C od)(c:XGet K C)
  (h:wpAny (model prog w) A.in1 (AY.«object.__getattribute__» ⟨[.ref x,.str name s.toks],[]⟩)
   (λfin s'=>match fin with | .done (.ret v)=>wpAny (model prog w) A (handedOut v) Q E s'|_=>False) (λ_ _=>False) { s with toks:=s.toks+1 }) :
  wpAny (model prog w) A (getAttr (.ref x) name expr) Q E s:=by
 unfold getAttr
 exact Af (wpAny_mkText (quu (s:={ s with toks:=s.toks+1 }) X I c h))
theorem qsw {v:Value}{Q:Value->Aj->Prop}(X:K.In s.heap)(I:InstAt s.heap x ox C od)(c:XGet K C)(hf:findObj K C od name=some (.value v))(hh:handedIn v=true)(h:Q v { s with toks:=s.toks+1 }) :
  wpAny (model prog w) A (getAttr (.ref x) name expr) Q E s:=by
 refine quv X I c ?_
 obtain⟨hh',g,d,t,os⟩:=s
 have L0:=I.type (M:=model prog w)
 have L1:=looks_find (M:=model prog w) X I hf
 unfold AY.«object.__getattribute__»
 refine Af (A6 (Af (A6 (Af (L0.at (Af (L1.at ?_)))))))
 refine A6 ?_
 show wpAny _ _ (handedOut v) _ _ _
 rw[handedOut_of hh];exact A6 h
end
section
open PySem.W
variable {prog:AU}{w:World}{A:Be}{E:Value->Aj->Prop}{s:Aj}{K:Frag}{x C:Addr}{ox:Obj}{od:Option Obj}{name:Str}{expr:Bool}
structure XIs (K:Frag)(C:Addr):Prop extends XGet K C where
 dct:hasDictIn K C=true
 cls:findIn K (.ref C) "__class__" = some (some (.builtin "object.__class__"))
 get:specialIn K (.builtin "object.__class__") "__get__" = some (some (.builtin "getset_descriptor.__get__"))
 tak:takesIn K (.builtin "object.__class__")=some true
 obj:mroIn K C (.type "object")=some true
theorem qp9 (c:XIs K C):findObj K C od "__class__" = some (.bind (.builtin "getset_descriptor.__get__") (.builtin "object.__class__")):=by
 obtain⟨cd,hc,_⟩:=any_some c.dct
 unfold findObj
 rw[hc,Cd,c.cls,Cd]
 dsimp only
 rw[c.get,Cd]
 dsimp only
 rw[c.tak,Cd]
theorem qqa {M:Model}{h:Heap}(c:hasDictIn K C=true)(X:K.In h):Looks M h (isType (.ref C)) true:=by
 obtain⟨cd,hc,_⟩:=any_some c
 unfold clsIn at hc
 split at hc
 .rename_i c' d' cd' sl' ho
  intro A' Q' E' s' k q
  unfold isType loadHead
  exact Af (wpAny_loadPart (k _ _ (X _ _ ho)) (A6 q))
 .cases hc
theorem qxe {h:Heap}{tp:Addr}{dd:Option Addr}{its:List Value}{n:Nat}{sl:Array (Option Value)}(c:hasDictIn K C=true)(X:K.In h)(htp:h.get? tp=some ⟨.type "tuple",dd,.seq its.toArray n,sl⟩):(Ao C == .ref tp)=false:=by
 obtain⟨cd,hc,_⟩:=any_some c
 refine Bool.eq_false_iff.mpr λq=>?_
 have e:C=tp:=Ao.inj (beq_iff_eq.mp q)
 subst e
 unfold clsIn at hc
 split at hc
 .rename_i c' d' cd' sl' ho
  have z:=(X _ _ ho).symm.trans htp
  cases z
 .cases hc
theorem qsx {Q:Option Value->Aj->Prop}(X:K.In s.heap)(I:InstAt s.heap x ox C od)(c:XIs K C)(h:Q (some (.ref C)) { s with toks:=s.toks+1 }):wpAny (model prog w) A (getAttr? (.ref x) "__class__") Q E s:=by
 unfold getAttr? getAttrBy?
 refine Af (wpAny_mkText (Af (wpAny_attempt (quu (s:={ s with toks:=s.toks+1 }) X I c.toXGet ?_))))
 obtain⟨hh',g,d,t,os⟩:=s
 have L0:=I.type (M:=model prog w)
 have L1:=looks_find (M:=model prog w) X I (qp9 (od:=od) c)
 unfold AY.«object.__getattribute__»
 refine Af (A6 (Af (A6 (Af (L0.at (Af (L1.at ?_)))))))
 show wpAny _ _ (AY.ObjectAttr.bindTo (.builtin "getset_descriptor.__get__") (.builtin "object.__class__") (.ref x) (.ref C)) _ _ _
 unfold AY.ObjectAttr.bindTo
 refine Af (Cg (CW (class_get (s:=⟨hh',g,d,t+1,os⟩) (ox:=ox) (od:=od) X I c.obj ?_)))
 refine A6 ?_
 show wpAny _ _ (handedOut (.ref C)) _ _ _
 rw[handedOut_of rfl]
 exact A6 (A6 h)
theorem qoq (c:XIs K C):KitX K (.ref x) (.ref C) (λh=>∃ox od,InstAt h x ox C od) where
 ty:=λ_ _ _ ⟨_,_,I⟩=>I.type
 it:=λ_ _ X _=>qqa c.dct X
 ne:=λh tp dd its n sl X htp=>qxe c.dct X htp
 ca:=λX ⟨_,_,I⟩ k=>qsx X I c k
noncomputable abbrev VE:List Value:=[.type "ValueError",.type "Exception",.type "BaseException",.type "object"]
noncomputable def qor:List Value->Bool
 |.ref _::r=>qor r
 |l=>l == VE
theorem qkq (self:Value):∀{l:List Value},qor l=true->refuseLoop self "__setattr__" l=pure ()/\l.isEmpty=false/\l.contains (.type "object")=true
 | [],e=>by cases e
 |.ref c::r,e=>by
  obtain⟨a,b,d⟩:=qkq self (l:=r) e
  exact⟨by rw[refuseLoop_ref];exact a,rfl,by rw[List.contains_cons,d,Bool.or_true]⟩
 |.type n::r,e=>by
  have e':(.type n::r:List Value)=VE:=beq_iff_eq.mp e
  rw[e']
  exact⟨PySem.F.store_ValueError.passes self,rfl,Ex⟩
 |.none::r,e=>by have e':=beq_iff_eq.mp (show ((.none::r:List Value) == VE)=true from e);cases e'
 |.bool _::r,e=>by have e':=beq_iff_eq.mp (show ((.bool _::r:List Value) == VE)=true from e);cases e'
 |.int _ _::r,e=>by have e':=beq_iff_eq.mp (show ((.int _ _::r:List Value) == VE)=true from e);cases e'
 |.float _ _::r,e=>by have e':=beq_iff_eq.mp (show ((.float _ _::r:List Value) == VE)=true from e);cases e'
 |.str _ _::r,e=>by have e':=beq_iff_eq.mp (show ((.str _ _::r:List Value) == VE)=true from e);cases e'
 |.bytes _ _::r,e=>by have e':=beq_iff_eq.mp (show ((.bytes _ _::r:List Value) == VE)=true from e);cases e'
 |.builtin _::r,e=>by have e':=beq_iff_eq.mp (show ((.builtin _::r:List Value) == VE)=true from e);cases e'
end
section
open PySem.W
variable {prog:AU}{w:World}{A:Be}{E:Value->Aj->Prop}{s:Aj}{K:Frag}{x C:Addr}{o:Obj}{name:Str}{v:Value}
structure XSet (K:Frag)(C:Addr)(name:Str):Prop where
 sa:findIn K (.ref C) "__setattr__" = some (some (.builtin "object.__setattr__"))
 no:findIn K (.ref C) name=some none
 cd:((clsIn K C).any λcd=>qor cd.mro && cd.hasDict)=true
theorem qxf {tk:Tok}{R:Result->Aj->Prop}(X:K.In s.heap)(hx:s.heap.get? x=some o)(hc:o.cls=.ref C)(c:XSet K C name)
  (h:wpAny (model prog w) A.in1 (AY.ObjectAttr.storeInOwnDict (.ref x) (.ref C) (.str name tk) name v false)
   (λfin s'=>match fin with | .done f=>R (.ok f) s' | .again c'=>c'.quiet=true/\codeAny (model prog w) A c' R s') (λe s'=>R (.error e) s') s) :
  codeAny (model prog w) A (.call (.builtin "object.__setattr__") ⟨[.ref x,.str name tk,v],[]⟩) R s:=by
 have SF:=PySem.F.store_object
 obtain⟨cd,hcd,ho⟩:=any_some c.cd
 simp only[AN]at ho
 obtain⟨rf,ne,has⟩:=qkq (.ref x) ho.1
 have L0:Looks (model prog w) s.heap (typeOf (.ref x)) (.ref C):=hc ▸ (Looks.ld hx).andThen .now
 have sub:Looks (model prog w) s.heap (isInstance (.ref x) (.type "object")) true:=L0.andThen (looks_mroIn X (by unfold mroIn;rw[hcd,Cd,if_neg (by rw[ne];decide),has]))
 have hm:Looks (model prog w) s.heap (mroOf (.ref C)) cd.mro:=(looks_clsIn X hcd).andThen .now
 have LN:=looks_findIn (M:=model prog w) X c.no
 refine Ed SF.slot.plain SF.entry (@check_slot (model prog w) _ _ s "object.__setattr__" "object" "__setattr__" (.ref x) [.str name tk,v] [] _ SF.kind SF.split sub (SF.args (.ref x) (.str name tk) v) ?_)
 rw[osa_eq,refuse_eq]
 refine Af (Af (L0.here (Af (hm.here ?_))))
 rw[rf]
 refine A6 (Af (L0.here (Af (LN.here (Af (A6 ?_))))))
 exact h
noncomputable abbrev qdf (C:Addr)(od:Option Addr)(vs:Array Value)(sl:Array (Option Value)):Obj:={ cls:=.ref C,dict:=od,data:=.fields vs,slots:=sl }
theorem quw {Q:Unit->Aj->Prop}{od:Option Addr}{vs:Array Value}{sl:Array (Option Value)}(X:K.In s.heap)(hx:s.heap.get? x=some (qdf C od vs sl))(c:XSet K C name)
  (h:wpAny (model prog w) A.in1 (AY.ObjectAttr.storeInOwnDict (.ref x) (.ref C) (.str name s.toks) name v false) (λfin s'=>fin=.done (.ret .none)/\Q () s') (λ_ _=>False) { s with toks:=s.toks+1 }) :
  wpAny (model prog w) A (setAttr (.ref x) name v) Q E s:=by
 have L0:Looks (model prog w) s.heap (typeOf (.ref x)) (.ref C):=(Looks.ld hx).andThen .now
 have LS:=looks_findIn (M:=model prog w) X c.sa
 refine Af (wpAny_mkText (Af (Af (Af (L0 _ _ _ _ (λ_ _ e=>e) (LS _ _ _ _ (λ_ _ e=>e) (Cg ?_)))))))
 rw[PySem.F.store_object.slot.bind]
 refine Af (A6 (Af (CW (qxf (s:={ s with toks:=s.toks+1 }) X hx rfl c (BR h (λfin s' z=>?_) λ_ _ z=>z.elim)))))
 obtain⟨rfl,z⟩:=z
 exact A6 (A6 z)
theorem qux {Q:Unit->Aj->Prop}{vs:Array Value}{sl:Array (Option Value)}(X:K.In s.heap)(hx:s.heap.get? x=some (qdf C none vs sl))(c:XSet K C name)
  (h:∀h' tk',h'.get? x=some (qdf C (some s.heap.objs.size) vs sl)->h'.Ns1 s.heap.objs.size (λy=>if y=name then some v else none)->(∀b ob,b≠x->s.heap.get? b=some ob->h'.get? b=some ob)->Q () { s with heap:=h',toks:=tk' }) :
  wpAny (model prog w) A (setAttr (.ref x) name v) Q E s:=by
 obtain⟨cd,hcd,ho⟩:=any_some c.cd
 simp only[AN]at ho
 refine quw X hx c ?_
 obtain⟨hp,g,d,t,os⟩:=s
 unfold AY.ObjectAttr.storeInOwnDict AY.ObjectAttr.ownDictForStores instanceDict
 refine Af (A6 (Af (Af (wpAny_loadPart hx (Af ((looks_clsIn X hcd).at ?_))))))
 rw[ho.2]
 have hxs:x≠hp.objs.size:=AR (A7 hx)
 have hx1:(hp.push emptyDict).get? x=some (qdf C none vs sl):=Ap _ hx
 show wpAny _ _ (alloc emptyDict >>= _) _ _ _
 refine Af (wpAny_alloc' (Af (wpAny_update' hx1 ?_)))
 refine A6 ?_
 have hgd:((hp.push emptyDict).update x λo=>{ cls:=o.cls,dict:=some hp.objs.size,data:=o.data,slots:=o.slots }).get? hp.objs.size=some emptyDict:=(Heap.get?_update_ne _ _ _ _ hxs.symm).trans (Heap.get?_push_at rfl rfl)
 have hnd:((hp.push emptyDict).update x λo=>{ cls:=o.cls,dict:=some hp.objs.size,data:=o.data,slots:=o.slots }).Ns hp.objs.size (λ_=>none):=⟨_,#[],_,hgd,rfl,λe he=>absurd he (by simp),λ_=>rfl⟩
 show wpAny _ _ (AY.ObjectAttr.storeInDict hp.objs.size (.str name t) name v) _ _ _
 unfold AY.ObjectAttr.storeInDict AY.ObjectAttr.newKeyGuard
 refine Af (A6 (Af (wpAny_nsSet1 (Heap.Ns1.of_empty hnd) λh' hn' hs=>?_)))
 obtain⟨oD,esD,epD,hoD,hdD,hcD⟩:=hn'.count (Within.cons name v Within.nil)
 refine Af (wpAny_lookBehind hoD (by rw[hdD];exact pastItsLine_dict (A0 hcD (by rw[At,Cn,Bp];lia))) ?_)
 refine A6 ⟨rfl,h h' _ ?_ hn' λb ob hb e=>?_⟩
 .exact(hs.2 x hxs).trans (B8 _ hx1 rfl)
 .exact(hs.2 b (AR (A7 e))).trans ((Heap.get?_update_ne _ _ _ _ hb).trans (Ap _ e))
theorem quy {Q:Unit->Aj->Prop}{dx:Addr}{vs:Array Value}{sl:Array (Option Value)}{mA:Str->Option Value}{ns:List Str}(X:K.In s.heap)(hx:s.heap.get? x=some (qdf C (some dx) vs sl))(hn:s.heap.Ns1 dx mA)(hne:dx≠x)(hw:Within mA ns)(hsz:ns.length<=1000)(c:XSet K C name)
  (h:∀h' tk',h'.Ns1 dx (λy=>if y=name then some v else mA y)->Cr dx s.heap h'->Q () { s with heap:=h',toks:=tk' }) :
  wpAny (model prog w) A (setAttr (.ref x) name v) Q E s:=by
 obtain⟨cd,hcd,ho⟩:=any_some c.cd
 simp only[AN]at ho
 refine quw X hx c ?_
 obtain⟨hp,g,d,t,os⟩:=s
 unfold AY.ObjectAttr.storeInOwnDict AY.ObjectAttr.ownDictForStores instanceDict
 refine Af (A6 (Af (Af (wpAny_loadPart hx (Af ((looks_clsIn X hcd).at ?_))))))
 rw[ho.2]
 refine A6 (a:=some dx) ?_
 show wpAny _ _ (AY.ObjectAttr.storeInDict dx (.str name t) name v) _ _ _
 unfold AY.ObjectAttr.storeInDict AY.ObjectAttr.newKeyGuard
 refine Af (A6 (Af (wpAny_nsSet1 hn λh' hn' hs=>?_)))
 obtain⟨oD,esD,epD,hoD,hdD,hcD⟩:=hn'.count (Within.cons name v hw)
 refine Af (wpAny_lookBehind hoD (by rw[hdD];exact pastItsLine_dict (A0 hcD (by rw[At,Bp];lia))) ?_)
 exact A6 ⟨rfl,h h' _ hn' hs⟩
end
noncomputable def qos (K:Ag)(C:Addr)(ini:Option Value):Bool:=match K.lookup C with
 |some ⟨.type "type",_,.cls cd,sl⟩=>(match cd.mro,sl.toList with
  |.ref C'::bm,[_,_,_,_,some (.builtin n),_]=>C' == C && n == "ValueError.__new__" && !cd.hasDel && PySem.W.tailIn K VE bm && PySem.W.nsOkIn K cd.ns && AJ K cd.ns "__init__" == some ini
  |_,_=>false)
 |_=>false
theorem ns_in {K:Ag}{h:Heap}{N:Addr}{mg:Str->Option Value}{n:Str}{v:Value}(X:K.In h)(G:h.Ns N mg)(e:AJ K N n=some (some v)):mg n=some v:=by
 obtain⟨o,es,ep,ho,hd,_,hf⟩:=G
 unfold AJ at e
 split at e
 .rename_i c d es' n' sl q
  have:=X _ _ q
  rw[ho]at this
  cases this
  cases hd
  split at e
  .rename_i en he
   cases e
   rw[<- hf]
   unfold nsFind findBy
   rw[<- Array.find?_toList,he]
   rfl
  .split at e <;>cases e
 .cases e
theorem qy2 {K:Ag}{h:Heap}{C:Addr}{ini:Option Value}(X:K.In h)(q:qos K C ini=true):∃(bm:List Value)(N:Addr)(nm qn:Str)(bs:List Value)(hd:Bool)(sn:List Str)(sub:List Value)(ab:Bool)(col:Option Bool)(dd:Option Addr)(k0 k1 k2 k3 k5:Option Value)(mN:Str->Option Value),
  h.get? C=some (excClassObj nm qn C N bs bm hd sn sub ab col dd k0 k1 k2 k3 k5 "ValueError.__new__")/\h.Ns N mN/\mN "__init__" = ini/\OwnTail h VE bm:=by
 unfold qos at q
 split at q
 .rename_i dd cd sl ho
  split at q
  .rename_i C' bm k0 k1 k2 k3 n k5 hm hs
   simp only[AN,beq_iff_eq,Bool.not_eq_true']at q
   obtain⟨⟨⟨⟨⟨rfl,rfl⟩,hdel⟩,ht⟩,hok⟩,hni⟩:=q
   obtain⟨nm,bs,mro,ns,qn,hd,sn,sub,ab,col,del⟩:=cd
   dsimp only at hm hdel hok hni
   subst hm hdel
   have hsl:sl=#[k0,k1,k2,k3,some (.builtin "ValueError.__new__"),k5]:=by
    obtain⟨l⟩:=sl
    simp only at hs
    rw[hs]
   subst hsl
   have G:h.Ns ns (h.nsMap ns):=.of_isNs (PySem.W.isNs_of_in X hok)
   refine⟨bm,ns,nm,qn,bs,hd,sn,sub,ab,col,dd,k0,k1,k2,k3,k5,_,X _ _ ho,G,?_,PySem.W.tail_of_in X ht⟩
   cases ini with
   |none=>exact PySem.W.ns_none_of X G hni
   |some v=>exact ns_in X G hni
  .cases q
 .cases q
section
variable {prog:AU}{w:World}{A:Be}{E:Value->Aj->Prop}{K:Ag}{C fI:Addr}{s:Aj}{qbm:List Value}
theorem quz {R:Result->Aj->Prop}{nm q:Str}{N:Addr}{bs bm:List Value}{hdct:Bool}{sn:List Str}{sub:List Value}{ab:Bool}{col:Option Bool}{dd:Option Addr}{k0 k1 k2 k3 k5:Option Value}{newId:String}
  (hC:s.heap.get? C=some (excClassObj nm q C N bs bm hdct sn sub ab col dd k0 k1 k2 k3 k5 newId))
  (h:wpAny (model prog w) (A.under (.builtin "type.__call__" ⟨.ref C::qbm,[]⟩)) (AY.«type.__call__» ⟨.ref C::qbm,[]⟩)
   (λfin s'=>match fin with | .done f=>R (.ok f) s' | .again c'=>c'.quiet=true/\codeAny (model prog w) A c' R s') (λe s'=>R (.error e) s') s) :
  codeAny (model prog w) A (.call (.ref C) ⟨qbm,[]⟩) R s:=by
 obtain⟨hp,g,d,t,os⟩:=s
 have f1:=tc_lookup
 have f2:=tc_bind (.ref C)
 have hT:(⟨hp,g,d,t,os⟩:Aj).TypeIs (.ref C) "type" := ⟨_,hC,rfl⟩
 refine codeAny_of_tree ?_
 show wpAny _ _ (callAny (.ref C) _) _ _ _
 repeat (any_goals (first|assumption|with_reducible refine wpAny_loadPart_at hC ?_|wp_step))
 refine⟨rfl,?_⟩
 exact codeAny_call_builtin_at (Code.quiet_builtin _ Ez) entry_typeCall (wpAny_check_type_call_sub hC h)
theorem qu0 {R:Result->Aj->Prop}(X:K.In s.heap)(c:qos K C (some (.ref fI))=true)(hf:Ci K (.ref fI)=some (.type "function"))(hrest:qbm.length<=A5)
  (h:codeAny (model prog w) (A.under (.builtin "type.__call__" ⟨.ref C::qbm,[]⟩)) (.call (.ref fI) ⟨.ref (s.heap.objs.size+1)::qbm,[]⟩) (PySem.W.InitBack (s.heap.objs.size+1) R)
   { s with heap:=(s.heap.push (qge qbm)).push (qen C s.heap.objs.size) }) :
  codeAny (model prog w) A (.call (.ref C) ⟨qbm,[]⟩) R s:=by
 obtain⟨bm,N,nm,qn,bs,hd,sn,sub,ab,col,dd,k0,k1,k2,k3,k5,mN,hC,hn,hi,T⟩:=qy2 X c
 obtain⟨hp,g,d,t,os⟩:=s
 exact quz hC (ql5 Do Ex Do T hC hn hi (λself=>PySem.W.bind_fn X self hf) h hrest)
end
noncomputable abbrev Sz6 (vs:Array Value):Prop:=vs.size=6/\vs[2]?=some .none
noncomputable def exO (x C:Addr)(od:Option Addr)(fr:Bool):HO:=.ext λh=>∃(vs:Array Value)(sl:Array (Option Value)),h.get? x=some (qdf C od vs sl)/\Sz6 vs/\(fr=true->sl=#[]/\∃t:Addr,vs=#[.ref t,.none,.none,.none,.bool false,.none])
noncomputable def exD (dx:Addr)(fs:List (Str×V)):HO:=.ext λh=>∃mA,h.Ns1 dx mA/\(∀f,RelO (fs.lookup f) (mA f))/\Dt mA (fs.map (·.1))
section
variable {P:AU}{w:World}{H:Hp}{h:Heap}{x C dx:Addr}{od:Option Addr}{fr:Bool}{fs:List (Str×V)}
theorem qnq {vs:Array Value}{sl:Array (Option Value)}(e:h.get? x=some (qdf C od vs sl))(z:Sz6 vs)(f:fr=true->sl=#[]/\∃t:Addr,vs=#[.ref t,.none,.none,.none,.bool false,.none]):ObjOk P w H h x (exO x C od fr) :=
 ⟨⟨vs,sl,e,z,f⟩,⟨_,e⟩,λ_ h2 ⟨vs,sl,e,z,f⟩ k=>⟨vs,sl,k _ e,z,f⟩⟩
theorem qu1 {mA:Str->Option Value}(n:h.Ns1 dx mA)(r:∀f,RelO (fs.lookup f) (mA f))(wi:Dt mA (fs.map (·.1))):ObjOk P w H h dx (exD dx fs) :=
 ⟨⟨mA,n,r,wi⟩,let ⟨o,_,_,e,_⟩:=n;⟨o,e⟩,λ_ h2 ⟨mA,n,r,wi⟩ k=>⟨mA,n.at λo q=>k o q,r,wi⟩⟩
theorem qeo (ok:HOk P w H h)(e:H x=some (exO x C od fr)):∃vs sl,h.get? x=some (qdf C od vs sl)/\Sz6 vs/\(fr=true->sl=#[]/\∃t:Addr,vs=#[.ref t,.none,.none,.none,.bool false,.none]):=(ok x _ e).1
theorem qnr (ok:HOk P w H h)(e:H dx=some (exD dx fs)):∃mA,h.Ns1 dx mA/\(∀f,RelO (fs.lookup f) (mA f))/\Dt mA (fs.map (·.1)):=(ok dx _ e).1
theorem qy3 (ok:HOk P w H h)(e:H x=some (exO x C od fr))(e':H dx=some (exD dx fs)):dx≠x:=λz=>by
 obtain⟨vs,sl,q,_⟩:=qeo ok e
 obtain⟨mA,⟨o,es,ep,q',d,_⟩,_⟩:=qnr ok e'
 rw[z,q]at q'
 cases q'
 cases d
end
theorem qot {H:Hp}{a:Addr}{o:HO}(h:H a=some o):upd H a o=H:=by
 funext b
 unfold upd
 by_cases e:b=a
 .rw[if_pos e,e,h]
 .rw[if_neg e]
section
variable {X:Cx}{pins:List (Addr×Obj)}{σ:L2.St}{H:Hp}{s:Aj}{A:Be}{E:Value->Aj->Prop}
theorem qxg {C t:Addr}{h':Heap}{tk:Nat}(I:Inv X pins σ H s)(k:∀b o,s.heap.get? b=some o->h'.get? b=some o)(e:h'.get? (s.heap.objs.size+1)=some (qen C t)) :
  Inv X pins σ (upd H (s.heap.objs.size+1) (exO (s.heap.objs.size+1) C none true)) { s with heap:=h',toks:=tk } :=
 I.laid (a:=s.heap.objs.size+1) k (C4 _) (qnq (vs:=#[.ref t,.none,.none,.none,.bool false,.none]) (sl:=#[]) e ⟨rfl,rfl⟩ λ_=>⟨rfl,t,rfl⟩)
noncomputable def tExcI (C:Addr)(sp:Sp)(dvs:List V)(E:XK)(t:TA):TE:=λσ H Q=>t σ H λvs H1=>vs.length<=A5/\∀x,H1 x=none->sp (.ref x::(vs++dvs)) (upd H1 x (exO x C none true)) (λv H2=>v=.non/\Q (.ref x) H2) E
variable {CX:CXT}{k:Nat}{f:Addr}{fd:AH}{ps:List Str}{sp:Sp}{ds:List Value}{dvs:List V}{EX:XK}
theorem qed {C:Addr}{x:Str}{p pos:Pos}{e:Expr}{es:List Expr}{t:TA}(c:qos X.K C (some (.ref f))=true)(hf:Ci X.K (.ref f)=some (.type "function"))(F:FnOk X.prog X.w X.K X.mg X.base CX k f fd ps sp)(hr:Room (k+1) X.A)(hg:Gl X x)(hm:X.mg x=some (.ref C))
  (hk:Bo X.K (.ref C)=true) (hb:Binds X.K fd ps ds) (hd:Vals dvs ds) (hx:qf3 CX X EX) (ha:PA X (e::es) t)
  (hdb:(x == ("__debug__" : Str))=false:=by decide) (he:starEach (e::es) X.env=(false,eval e X.env)::starEach es X.env:=by rfl) (hpl:(backTo pos (starEach es X.env)).any (·.1)=false:=by rfl) :
  PE X (.Call (.Name x p) (e::es) [] pos) (tExcI C sp dvs EX t):=by
 intro pins s0 σ H0 Q I0 h
 refine BK (qe1 I0 hg hm ?_ hdb)
 refine CZ (h₀:=X.base) I0.ok.mod.kin hk (thn (ha pos pins s0 σ H0 _ I0 h) λus s ⟨vs,H,I,r,hz,q⟩=>⟨I.kIn,?_⟩) he hpl
 have hl0:=r.length
 have hq:=q (s.heap.objs.size+1) (I.hok.fresh (C4 _))
 have hget:((s.heap.push (qge us)).push (qen C s.heap.objs.size)).get? (s.heap.objs.size+1)=some (qen C s.heap.objs.size):=by heap_get
 have I2:=qxg (C:=C) (t:=s.heap.objs.size) (h':=(s.heap.push (qge us)).push (qen C s.heap.objs.size)) (tk:=s.toks) I (λb o e=>Ap _ (Ap _ e)) hget
 have r2:Vals (V.ref (s.heap.objs.size+1)::(vs++dvs)) (Ao (s.heap.objs.size+1)::(us++ds)):=.cons rfl (r.append hd)
 have hl:(Ao (s.heap.objs.size+1)::us++ds).length=ps.length:=by
  have e:=r2.length
  rw[F.len _ _ _ _ hq]at e
  exact e.symm
 refine CW (qu0 I.kIn c hf (by show us.length<=_;lia) (CY (F.run _ X.stack _ _ ⟨Ao (s.heap.objs.size+1)::us,[]⟩ (Ao (s.heap.objs.size+1)::(us++ds)) _ _ EX (hr.make C us [])
  (I2.env0.make C us []) (hb _ (Ao (s.heap.objs.size+1)::us) I2.kIn hl) r2 hq) λr s' hq'=>?_))
 cases r with
 |error e=>exact hx pins σ _ _ e s' I2 hq'
 |ok fl =>
  cases fl with
  |ret u =>
   obtain⟨v,H',I3,rv,ev,q3⟩:=I2.after hq'
   subst ev
   exact⟨rv,⟨V.ref (s.heap.objs.size+1),H',I3,rfl,q3⟩⟩
  |next=>exact B4 hq'
  |brk=>exact B4 hq'
  |cont=>exact B4 hq'
theorem qrs {h:Heap}{x C:Addr}{od:Option Addr}{vs:Array Value}{sl:Array (Option Value)}(e:h.get? x=some (qdf C od vs sl))(d:∀dx,od=some dx->∃o,h.get? dx=some o):∃ox od,PySem.W.InstAt h x ox C od:=by
 cases od with
 |none=>exact⟨_,none,e,rfl,rfl,trivial⟩
 |some dx =>
  obtain⟨o,ho⟩:=d dx rfl
  exact⟨_,some o,e,rfl,rfl,ho⟩
noncomputable def exHas (H:Hp):Option Addr->Prop
 |none=>True
 |some dx=>∃fs,H dx=some (exD dx fs)
theorem exHas.at {P:AU}{w:World}{H:Hp}{h:Heap}{od:Option Addr}(ok:HOk P w H h)(e:exHas H od):∀dx,od=some dx->∃o,h.get? dx=some o:=λdx z=>by
 subst z
 obtain⟨fs,q⟩:=e
 obtain⟨mA,⟨o,_,_,e,_⟩,_⟩:=qnr ok q
 exact⟨o,e⟩
theorem qc4:qem X (.builtin "isinstance") (λxs H Q=>∃(x C:Addr)(od:Option Addr)(fr:Bool)(c:V)(cv:Value)(b:Bool),xs=[.ref x,c]/\H x=some (exO x C od fr)/\exHas H od/\XIs X.K C/\((∃n,c=.ty n/\cv=.type n) \/ ∃D,c=.ref D/\cv=.ref D) /\
  BC X.K (.ref C) cv=some b/\Q (.bl b) H):=by
 intro pins s σ H xs us Q I r h
 obtain⟨x,C,od,fr,c,cv,b,rfl,e,hs,ci,hc,kk,q⟩:=h
 obtain⟨u,u',rfl,r1,r2⟩:=Vals.two r
 cases r1
 have hu:u'=cv:=by
  rcases hc with ⟨n,rfl,rfl⟩|⟨D,rfl,rfl⟩
  .exact r2
  .exact r2
 subst hu
 obtain⟨vs,sl,e1,_⟩:=qeo I.hok e
 exact BM (qoq ci) I.kIn (qrs e1 (exHas.at I.hok hs)) kk (λz=>nomatch z) λtk=>⟨.bl b,H,I.tok tk,rfl,q⟩
end
section
variable {X:Cx}{pins:List (Addr×Obj)}{σ:L2.St}{H:Hp}{s:Aj}{E:Value->Aj->Prop}
structure XBase (K:Ag)(B:Addr):Prop where
 ga:DH K (.ref B) "__getattribute__" = some (some (.builtin "type.__getattribute__"))
 rd:PySem.W.readsIn K B (.type "type")=true
 at_:PySem.W.findCls K (.ref B) (.type "type") "__init__" = some (.val (.builtin "ValueError.__init__"))
noncomputable def tBInit (K:Ag)(t:TA):TE:=λσ H Q=>t σ H λvs H1=>∃(x C:Addr)(od:Option Addr)(qbm:List V)(ini:Option Value),vs=.ref x::qbm/\H1 x=some (exO x C od true)/\qos K C ini=true/\qbm.length<=A5/\Q .non H1
theorem qsy {A:Be}{x C:Addr}{od:Option Addr}{qbm:List Value}{ini:Option Value}{Q:Value->Aj->Prop}{K:Ag}{prog:AU}{w:World}{t:Addr}(KX:K.In s.heap)(c:qos K C ini=true)
  (hx:s.heap.get? x=some (qdf C od #[.ref t,.none,.none,.none,.bool false,.none] #[])) (hrest:qbm.length<=A5)
  (h:∀h' t',h'.get? x=some (qdf C od #[.ref t',.none,.none,.none,.bool false,.none] #[])->(∀b o,b≠x->s.heap.get? b=some o->h'.get? b=some o)->Q .none { s with heap:=h' }) :
  wpAny (model prog w) A (call (.builtin "ValueError.__init__") (.ref x::qbm)) Q E s:=by
 obtain⟨bm,N,nm,qn,bs,hd,sn,sub,ab,col,dd,k0,k1,k2,k3,k5,mN,hC,hn,hni,T⟩:=qy2 KX c
 obtain⟨hp,g,d,tk,os⟩:=s
 have F:=Do
 refine CW (Ed F.init.plain F.initEntry (wpAny_check_init_subU F T hC hx rfl ?_))
 wp_walk
 refine h _ hp.objs.size ?_ λb o hb e=>?_
 .rw[B8 _ (Ap _ hx) rfl]
  rfl
 .rw[B3 _ _ (Bh hb)]
  exact Ap _ e
theorem qgf {B:Addr}{x:Str}{p apos pos:Pos}{e:Expr}{es:List Expr}{t:TA}{pl:Sem Bool}(c:XBase X.K B)(hg:Gl X x)(hm:X.mg x=some (.ref B))(ha:PA X (e::es) t)(hdb:(x == ("__debug__" : Str))=false:=by decide)
  (hst:starEach (e::es) X.env=(false,eval e X.env)::starEach es X.env:=by rfl) (hpl:(backTo pos (starEach es X.env)).any (·.1)=false:=by rfl)
  (ht:eval (.Call (.Attribute (.Name x p) "__init__" apos) (e::es) [] pos) X.env=(do
   let ov <- eval (.Name x p) X.env
   standAt apos.atName
   let (f,first) <- holding [ov] (getMethod ov "__init__" pl)
   callWith pos f first (backTo pos (starEach (e::es) X.env)) (backToKw pos (keywordEach [] X.env))):=by rfl) :
  PE X (.Call (.Attribute (.Name x p) "__init__" apos) (e::es) [] pos) (tBInit X.K t):=by
 intro pins s σ H Q I h
 refine PySem.W.methodCall_KW (pl:=pl) (qe1 I hg hm ?_ hdb) ht
 refine PySem.W.method_cls I.kIn c.ga (PySem.W.cls_value I.kIn c.rd c.at_ rfl ?_)
 have I1:=I.tok (s.toks+1)
 refine DU (thn (ha pos pins _ σ H _ I1 h) λus s1 ⟨vs,H1,I2,r1,q1⟩=>?_) hst hpl
 obtain⟨x',C,od,qbm,ini,rfl,e1,ci,hz,q⟩:=q1
 cases r1 with
 |cons ra rr =>
  cases ra
  obtain⟨ws,sl,ex,z6,ff⟩:=qeo I2.hok e1
  obtain⟨rfl,t',rfl⟩:=ff rfl
  have hl:=rr.length
  refine qsy I2.kIn ci ex (by lia) λh' t2 ex' kk=>?_
  refine⟨.non,H1,?_,rfl,q⟩
  have J:=I2.write (x:=x') (e:=x') (o:=exO x' C od true) (t':=s1.toks) (h':=h') (by rw[e1];exact trivial) (.inl rfl) (λb u hb hu=>kk b u hb hu) ⟨_,ex'⟩ (qnq ex' ⟨rfl,rfl⟩ λ_=>⟨rfl,t2,rfl⟩)
  rw[qot e1]at J
  exact J
noncomputable def tXFld (K:Ag)(ta:TE)(f:Str):TE:=λσ H Q=>ta σ H λv H1=>∃(x C dx:Addr)(fr:Bool)(fs:List (Str×V))(y:V),v=.ref x/\H1 x=some (exO x C (some dx) fr)/\H1 dx=some (exD dx fs)/\XIs K C/\AT K (.ref C) f=some none/\fs.lookup f=some y/\Q y H1
theorem qu2 {K:Ag}{C:Addr}{o:Obj}{f:Str}{u:Value}(c:CD K C=true)(n:AT K (.ref C) f=some none)(l:DG f o=some (some u)):PySem.W.findObj K C (some o) f=some (.value u):=by
 obtain⟨cd,hc,hd⟩:=PySem.W.any_some c
 unfold PySem.W.findObj
 rw[hc,Cd,n,Cd]
 dsimp only
 simp only[Cd]
 unfold PySem.W.ownOf
 rw[hd,if_pos rfl]
 dsimp only
 rw[l,Cd]
theorem qh1 {e:Expr}{f:Str}{pos:Pos}{ta:TE}(he:PE X e ta)(hb:attributeBase e f X.env (eval e X.env)=eval e X.env):PE X (.Attribute e f pos) (tXFld X.K ta f):=by
 intro pins s σ H Q I h
 refine qrk hb (thn (he pins s σ H _ I h) λu s1 ⟨v,H1,I1,rv,x,C,dx,fr,fs,y,ev,ex,ed,c,n,l,q⟩=>?_)
 subst ev
 obtain rfl:u=Ao x:=rv
 obtain⟨vs,sl,e1,_⟩:=qeo I1.hok ex
 obtain⟨mA,hn,r,_⟩:=qnr I1.hok ed
 obtain⟨od,hod,hl⟩:=qmg hn
 obtain⟨uv,hu,ru⟩:=RelO.some_of (v:=y) (o:=mA f) (by rw[<- l];exact r f)
 exact qsw I1.kIn (ox:=qdf C (some dx) vs sl) (od:=some od) ⟨e1,rfl,rfl,hod⟩ c.toXGet (qu2 c.dct n (by rw[hl,hu])) (qmh ru) ⟨y,H1,I1.tok _,ru,q⟩
theorem qu3 {x dx:Addr}{o o':HO}{h':Heap}{tk:Nat}(I:Inv X pins σ H s)(mu:Mut (H x))(hd:s.heap.objs.size<=dx)(hne:dx≠x)(k:∀b u,b≠x->s.heap.get? b=some u->h'.get? b=some u)(hx:∃u,h'.get? x=some u)
  (n1:ObjOk X.prog X.w (upd (upd H dx o') x o) h' x o) (n2:ObjOk X.prog X.w (upd (upd H dx o') x o) h' dx o'):Inv X pins σ (upd (upd H dx o') x o) { s with heap:=h',toks:=tk }:=by
 have hdn:H dx=none:=I.hok.fresh hd
 have hxn:∀b,H b=none->b≠x:=λb n z=>by subst z;rw[n]at mu;exact mu
 have nm:∀b u,H b=some u->¬Mut (some u)->b≠x:=λb u q nm z=>by subst z;rw[q]at mu;exact nm mu
 have nd:∀b u,H b=some u->b≠dx:=λb u q=>qah q hdn
 have old:∀b u,s.heap.get? b=some u->b≠dx:=λb u q=>AR (AG (A7 q) hd)
 have stay:∀b u,H b=some u->b≠x->upd (upd H dx o') x o b=some u:=λb u q hb=>by rw[zh hb,zh (nd b u q)];exact q
 refine I.un ⟨λb u q n _ _=>k b u (hxn b n) q,λb u q n _ _=>⟨u.slots,k b u (hxn b n) q⟩,λb u q n _=>by rw[zh (hxn b n),zh (old b u q)];exact n,λb u q _=>?_,λb xs q=>stay b _ q (nm b _ q λz=>z),λb u xs q=>stay b _ q (nm b _ q λz=>z),λb ps q=>⟨#[],by rw[stay b _ q (nm b _ q λz=>z)];simp⟩⟩ ?_
 .by_cases hb:b=x
  .subst hb;exact hx
  .exact⟨u,k b u hb q⟩
 .intro b u q
  by_cases hb:b=x
  .subst hb
   rw[zd]at q
   cases q
   exact n1
  .rw[zh hb]at q
   by_cases hb':b=dx
   .subst hb'
    rw[zd]at q
    cases q
    exact n2
   .rw[zh hb']at q
    refine(I.hok b u q).stay (λc v hc r=>k c v ?_ r) (λc r=>stay c _ r (nm c _ r λz=>z)) λc xs r=>stay c _ r (nm c _ r λz=>z)
    rcases hc with rfl|hc
    .exact hb
    .exact nm c _ hc λz=>z
noncomputable def sXFld (K:Ag)(ta tv:TE)(f:Str):TS:=λD σ H=>tv σ H λy H1=>ta σ H1 λv H2=>∃(x C:Addr)(fr:Bool),v=.ref x/\XSet K C f /\
 ((H2 x=some (exO x C none fr)/\∀dx,H2 dx=none->D.nx σ (upd (upd H2 dx (exD dx [(f,y)])) x (exO x C (some dx) fr))) \/
  (∃dx fs,H2 x=some (exO x C (some dx) fr)/\H2 dx=some (exD dx fs)/\fs.length<900/\D.nx σ (upd H2 dx (exD dx (qc3 f y fs)))))
theorem qh2 {o value:Expr}{f:Str}{pos pos':Pos}{ta tv:TE}(ha:PE X o ta)(hv:PE X value tv)(hs:swapsWith value (some (.Attribute o f pos')) pos.line X.env=pure false):PS X (.Assign [.Attribute o f pos'] value pos) (sXFld X.K ta tv f):=by
 intro pins s0 σ H0 D I0 h
 refine DQ (thn (hv pins s0 σ H0 _ I0 h) λu s1 ⟨y,H1,I1,ry,q⟩=>thn (ha pins s1 σ H1 _ I1 q) λov s ⟨v,H,I,rv,x,C,fr,ev,c,q2⟩=>?_) hs
 subst ev
 obtain rfl:ov=Ao x:=rv
 rcases q2 with ⟨ex,nx⟩|⟨dx,fs,ex,ed,hl,nx⟩
 .obtain⟨vs,sl,e1,z6,ff⟩:=qeo I.hok ex
  refine qux I.kIn e1 c λh' tk' e2 hn kk=>?_
  have hne:s.heap.objs.size≠x:=C1 (A7 e1)
  refine⟨σ,_,qu3 (x:=x) (dx:=s.heap.objs.size) (o:=exO x C (some s.heap.objs.size) fr) (o':=exD s.heap.objs.size [(f,y)]) I (by rw[ex];exact trivial) (A3 _) hne (λb ob hb e=>kk b ob hb e) ⟨_,e2⟩ (qnq e2 z6 ff) (qu1 hn (λg=>?_) λg hg=>?_),nx _ (I.hok.fresh (A3 _))⟩
  .show RelO (CF g [(f,y)]) (if g=f then some u else none)
   by_cases q:g=f
   .subst q
    rw[if_pos rfl,BD,beq_self_eq_true]
    exact ry
   .have q':(g == f)=false:=by simpa using q
    rw[if_neg q,BD,q']
    exact trivial
  .by_cases q:g=f
   .subst q;simp
   .exact absurd (if_neg q) hg
 .obtain⟨vs,sl,e1,z6,ff⟩:=qeo I.hok ex
  obtain⟨mA,hn,r,wi⟩:=qnr I.hok ed
  refine quy I.kIn e1 hn (qy3 I.hok ex ed) wi (by rw[Ab];lia) c λh' tk' hn' sb=>?_
  have hd:∃o,h'.get? dx=some o:=let ⟨o,_,_,e',_⟩:=hn';⟨o,e'⟩
  refine⟨σ,_,I.write (x:=dx) (e:=dx) (o:=exD dx (qc3 f y fs)) (t':=tk') (by rw[ed];exact trivial) (.inl rfl) (λb ob hb z=>(sb.2 b hb).trans z) hd (qu1 hn' (λg=>?_) λg hg=>?_),nx⟩
  .show RelO ((qc3 f y fs).lookup g) (if g=f then some u else mA g)
   rw[qf2]
   by_cases q:g=f
   .rw[if_pos q,if_pos q];exact ry
   .rw[if_neg q,if_neg q];exact r g
  .by_cases q:g=f
   .rw[q];exact(qfd f y fs).1
   .refine(qfd f y fs).2 g (wi g λz=>hg ?_)
    show (if g=f then some u else mA g)=none
    rw[if_neg q];exact z
end
section
variable {X:Cx}
noncomputable def rEqL (K:Ag)(f:Bool->Bool):R2:=λx y H Q=>∃a b xs ys,x=.ref a/\y=.ref b/\SqL K H a xs/\SqL K H b ys/\xs.all qcr=true/\ys.all qcr=true/\Q (.bl (f (qiv xs ys))) H
theorem qkr:∀{xs ys:List V},xs.length≠ys.length->qiv xs ys=false
 | [],[],h=>absurd rfl h
 | [],_::_,_=>rfl
 |_::_,[],_=>rfl
 |x::xs,y::ys,h=>by
  show (eqV x y && qiv xs ys)=false
  rw[qkr (λz=>h (by rw[At,At,z])),Dn]
theorem qjm {xs ys:List V}(h:xs.length=ys.length):(Bl xs.length).all (eAt xs ys)=qiv xs ys:=by
 rw[<- quq xs ys,<- h,Nat.min_self]
 simp
theorem op_eqL (hu:X.A.units<cLine):OpR X (compareOp .Eq) (rEqL X.K λz=>z):=by
 intro pins s σ H x y v u Q I rx ry h
 obtain⟨a,b,xs,ys,rfl,rfl,ha,hb,fx,fy,q⟩:=h
 cases rx
 cases ry
 obtain⟨its,r1,p1,_⟩:=I.list ha
 obtain⟨its2,r2,p2,_⟩:=I.list hb
 have l1:=r1.length
 have l2:=r2.length
 by_cases hz:xs.length=ys.length
 .refine SeqAt.eq_listAt p1.isList p2.isList (by rw[Aw,Aw];lia) hu (qoo r1 r2 fx fy) ?_
  rw[Aw,<- l1,qjm hz]
  exact⟨.bl (qiv xs ys),H,I,rfl,q⟩
 .refine SeqAt.eq_list_lengthsAt p1.isList p2.isList (bne_iff_ne.mpr (by rw[Aw,Aw];lia)) hu ?_
  rw[qkr hz]at q
  exact⟨.bl false,H,I,rfl,q⟩
theorem qns (hu:X.A.units<cLine):OpR X (compareOp .NotEq) (rEqL X.K λz=>!z):=by
 intro pins s σ H x y v u Q I rx ry h
 obtain⟨a,b,xs,ys,rfl,rfl,ha,hb,fx,fy,q⟩:=h
 cases rx
 cases ry
 obtain⟨its,r1,p1,_⟩:=I.list ha
 obtain⟨its2,r2,p2,_⟩:=I.list hb
 have l1:=r1.length
 have l2:=r2.length
 by_cases hz:xs.length=ys.length
 .refine SeqAt.RcNeAt.lists p1.isList p2.isList (by rw[Aw,Aw];lia) hu (qoo r1 r2 fx fy) _ _ _ _ ?_
  rw[Aw,<- l1,qjm hz]
  exact⟨.bl (!qiv xs ys),H,I,rfl,q⟩
 .refine SeqAt.RcNeAt.lists_lengths p1.isList p2.isList (bne_iff_ne.mpr (by rw[Aw,Aw];lia)) hu _ _ _ _ ?_
  rw[qkr hz]at q
  exact⟨.bl true,H,I,rfl,q⟩
theorem qu4:∀{x:V},qcr x=true->eqV x x=true
 |.non,_=>rfl
 |.bl b,_=>by cases b <;>rfl
 |.int i,_=>by simp[eqV]
 |.str y,_=>by simp[eqV]
 |.byt _,h=>by simp[qcr]at h
 |.flt _,h=>by simp[qcr]at h
 |.ref _,h=>by simp[qcr]at h
 |.ty _,h=>by simp[qcr]at h
theorem qix:∀{xs:List V},xs.all qcr=true->qiv xs xs=true
 | [],_=>rfl
 |x::xs,h=>by
  rw[Dg,AN]at h
  show (eqV x x && qiv xs xs)=true
  rw[qu4 h.1,qix h.2];rfl
end
noncomputable def qqb (K:Ag)(C:Addr)(ini:Option Value):Bool:=qos K C ini && Bo K (.ref C) && (AT K (.ref C) "__getattribute__" == some (some (.builtin "BaseException.__getattribute__"))) && (AT K (.ref C) "__getattr__" == some none) &&
 (Ea K C (.type "BaseException") == some true) && CD K C && (AT K (.ref C) "__class__" == some (some (.builtin "object.__class__"))) &&
 (DH K (.builtin "object.__class__") "__get__" == some (some (.builtin "getset_descriptor.__get__"))) && (PySem.W.takesIn K (.builtin "object.__class__") == some true) && (Ea K C (.type "object") == some true) &&
 (AT K (.ref C) "__setattr__" == some (some (.builtin "object.__setattr__"))) && ((PySem.W.clsIn K C).any λcd=>qor cd.mro && cd.hasDict)
structure XA (K:Ag)(C:Addr)(ini:Option Value):Prop where
 xc:qos K C ini=true
 kp:Bo K (.ref C)=true
 is:XIs K C
 sa:AT K (.ref C) "__setattr__" = some (some (.builtin "object.__setattr__"))
 cd:((PySem.W.clsIn K C).any λcd=>qor cd.mro && cd.hasDict)=true
theorem qou {K:Ag}{C:Addr}{ini:Option Value}(h:qqb K C ini=true):XA K C ini:=by
 unfold qqb at h
 rw[AN]at h
 obtain⟨h,hcd⟩:=h
 simp only[AN,beq_iff_eq]at h
 obtain⟨⟨⟨⟨⟨⟨⟨⟨⟨⟨h1,h2⟩,h3⟩,h4⟩,h5⟩,h6⟩,h7⟩,h8⟩,h9⟩,h10⟩,h11⟩:=h
 exact⟨h1,h2,{ ga:=h3,hk:=h4,sub:=h5,dct:=h6,cls:=h7,get:=h8,tak:=h9,obj:=h10 },h11,hcd⟩
theorem XA.set {K:Ag}{C:Addr}{ini:Option Value}{name:Str}(a:XA K C ini)(no:AT K (.ref C) name=some none):XSet K C name:=⟨a.sa,no,a.cd⟩
noncomputable def xNo (K:Ag)(C:Addr)(ns:List Str):Bool:=ns.all λn=>AT K (.ref C) n == some none
theorem zg {K:Ag}{C:Addr}{ns:List Str}{n:Str}(h:xNo K C ns=true)(m:n∈ns):AT K (.ref C) n=some none:=beq_iff_eq.mp (Bf.mp h n m)
noncomputable def qgg (K:Ag)(C:Addr)(cs:List Value)(bs:List Bool):Bool:=(cs.map λc=>BC K (.ref C) c) == bs.map some
theorem qba {K:Ag}{C:Addr}{cs:List Value}{bs:List Bool}(h:qgg K C cs bs=true){i:Nat}{c:Value}{b:Bool}(hc:cs[i]?=some c)(hb:bs[i]?=some b):BC K (.ref C) c=some b:=by
 have e:=congrArg (λl=>l[i]?) (beq_iff_eq.mp h)
 simp only[Al,hc,hb,De]at e
 exact AD e
noncomputable def qu5 (K:Ag)(B:Addr):Bool:=(DH K (.ref B) "__getattribute__" == some (some (.builtin "type.__getattribute__"))) && PySem.W.readsIn K B (.type "type") &&
 (match PySem.W.findCls K (.ref B) (.type "type") "__init__" with|some (.val (.builtin n))=>n == "ValueError.__init__" |_=>false)
theorem xb_of {K:Ag}{B:Addr}(h:qu5 K B=true):XBase K B:=by
 unfold qu5 at h
 simp only[AN,beq_iff_eq]at h
 obtain⟨⟨h1,h2⟩,h3⟩:=h
 refine⟨h1,h2,?_⟩
 split at h3
 .rename_i n e
  rw[e,beq_iff_eq.mp h3]
 .cases h3
structure MethAt (K:Ag)(x qual:Str)(st:Stmt)(ps:List Str)(f:Addr)(fd:AH):Prop where
 fn:Fun K x qual st f fd
 bd:Binds K fd ps []
 ty:Ci K (.ref f)=some (.type "function")
section
variable {X:Cx}{K:Ag}
theorem qqc (hK:X.K=K):OpR X (compareOp .In) (rIn K false):=hK ▸ qfe
end
structure Notes (fs:List Addr)(x C:Addr)(od:Option Addr)(sl:Array (Option Value))(told:List Addr)(T:Addr)(fl:Value)(h h':Heap):Prop where
 rc:∃vs:Array Value,Sz6 vs/\h'.get? x=some (qdf C od vs sl)/\vs[1]?=some (.ref T)
 tb:∃oT ts,h'.get? T=some oT/\oT.data=.fields ts/\ts[3]?=some fl
 new:h.objs.size<=T
 ne:T≠x
 keep:∀b o,b≠x->b∉told->b∉fs->h.get? b=some o->h'.get? b=some o
 slot:∀b o,b≠x->b∉told->h.get? b=some o->∃s,h'.get? b=some { o with slots:=s }
 old:∀b∈told,∃o,h'.get? b=some o
section
variable {M:Model}{A:Be}{E:Value->Aj->Prop}{s:Aj}{base:Heap}{env:Env}{outer:List Env}{L x C:Addr}{od:Option Addr}{vs:Array Value}{sl:Array (Option Value)}
theorem qrt {head:Value}{hadNext:Bool}{Q:Unit->Aj->Prop}(hfr:A.frames=some (env::outer))(hl:s.heap.FunFrames base (env::outer))(hf:env.frame=some L)(he:s.heap.get? x=some (qdf C od vs sl))(hz:Sz6 vs)
  (h:∀h' T,Notes (frs (env::outer)) x C od sl [] T (rawInt L) s.heap h'->Q () { s with heap:=h' }) :
  wpAny M A (do let a <- frameOf env;let pl <- entryPlaceOf L hadNext;let b <- EntryCells.newEntry head a .none (rawInt L) .none pl;setField (.ref x) 1 b) Q E s:=by
 have hene:x∉(env::outer).filterMap (·.frame):=λhm=>by
  obtain⟨_,o,ho,hnf⟩:=hl.mem hm
  rw[he]at ho;cases ho;exact hnf vs rfl
 refine Af (wpAny_frameOf_fun hfr hl hf λh₁ hs₁=>?_)
 refine Af (wpAny_entryPlaceOf λpl hpl=>?_)
 unfold EntryCells.newEntry newFields
 refine Af (DK ?_ (hpl.sizeOk5 _ _ _ _ _))
 generalize hO:({ cls:=.type "traceback",dict:=none,data:=.fields ([head,.ref L,.none,rawInt L,.none]++(if pl.isEmpty then List.replicate 6 BJ else pl)).toArray }:Obj)=oT
 have he₁:h₁.get? x=some (qdf C od vs sl):=(hs₁.2.1 x hene).trans he
 have he₂:=Ap (h:=h₁) oT he₁
 have hd₂:(qdf C od vs sl).data=.fields vs:=rfl
 refine Dp he₂ hd₂ (by lia) (h _ h₁.objs.size ?_)
 have hTx:h₁.objs.size≠x:=C1 (A7 he₁)
 have hd₃:=Cb hd₂ (·.setIfInBounds 1 (Ao h₁.objs.size))
 have he₃:=B8 (CN (·.setIfInBounds 1 (Ao h₁.objs.size))) he₂ (C9 hd₃)
 have hT₃:((h₁.push oT).update x (CN (·.setIfInBounds 1 (Ao h₁.objs.size)))).get? h₁.objs.size=some oT :=
  (B3 _ _ (Bh hTx)).trans (AA h₁ (by rw[<- hO];rfl))
 have kp:∀b o,b≠x->h₁.get? b=some o->((h₁.push oT).update x (CN (·.setIfInBounds 1 (Ao h₁.objs.size)))).get? b=some o:=λb o hb e=>by
  rw[B3 _ _ (Bh hb)]
  exact Ap _ e
 refine⟨⟨vs.setIfInBounds 1 (.ref h₁.objs.size),⟨by rw[Array.size_setIfInBounds];exact hz.1,by rw[Array.getElem?_setIfInBounds_ne Ex];exact hz.2⟩,he₃,by simp[hz.1]⟩,⟨oT,_,hT₃,by rw[<- hO],?_⟩,?_,hTx,λb o hb _ hbf e=>kp b o hb ((hs₁.2.1 b hbf).trans e),λb o hb _ e=>?_,λb hb=>absurd hb (by simp)⟩
 .first | (simp;done) | (rcases hpl with rfl|⟨_,_,_,_,_,_,_,rfl⟩ <;>simp)
 .exact BZ hs₁.1.symm
 .obtain⟨sl',e'⟩:=hs₁.2.2 b o e
  exact⟨sl',kp b _ hb e'⟩
theorem qu6 {Q:Unit->Aj->Prop}(hfr:A.frames=some (env::outer))(hl:s.heap.FunFrames base (env::outer))(hf:env.frame=some L)(he:s.heap.get? x=some (qdf C od vs sl))(hz:Sz6 vs)(h1:vs[1]?=some .none)
  (h:∀h' T,Notes (frs (env::outer)) x C od sl [] T (rawInt L) s.heap h'->Q () { s with heap:=h' }):wpAny M A (noteFrame (.ref x) env) Q E s:=by
 unfold noteFrame
 simp only[hf]
 refine Af (BH he rfl h1 ?_)
 rw[if_neg Ex]
 exact qrt hfr hl hf he hz h
theorem qsz {Q:Unit->Aj->Prop}{T:Addr}{oT:Obj}{ts:Array Value}(hfr:A.frames=some (env::outer))(hl:s.heap.FunFrames base (env::outer))(hf:env.frame=some L)(he:s.heap.get? x=some (qdf C od vs sl))(hz:Sz6 vs)(h1:vs[1]?=some (.ref T))
  (hTx:T≠x) (hT:s.heap.get? T=some oT) (hd:oT.data=.fields ts) (h3:ts[3]?=some .none)
  (h:∀h' T',Notes (frs (env::outer)) x C od sl [T] T' (rawInt L) s.heap h'->Q () { s with heap:=h' }):wpAny M A (noteFrame (.ref x) env) Q E s:=by
 unfold noteFrame
 simp only[hf]
 refine Af (BH he rfl h1 ?_)
 rw[if_pos (show (Ao T != BJ)=true from by simp)]
 refine Af (BH hT hd h3 ?_)
 rw[if_neg (show ¬((BJ == rawInt L)=true) from by simp[rawInt])]
 refine Af (Dp hT hd (C6.mp h3).1 ?_)
 have other:∀b,b≠T->(s.heap.update T (CN (·.setIfInBounds 3 BJ))).get? b=s.heap.get? b:=λb hb=>B3 _ _ (Bh hb)
 have hTT:∃o,(s.heap.update T (CN (·.setIfInBounds 3 BJ))).get? T=some o:=⟨_,B8 _ hT (C9 (Cb hd _))⟩
 have nr:∀b o,s.heap.get? b=some o->(∀vs,o.data ≠ .fields vs)->b≠T:=λb o hb hnf q=>by
  rw[q,hT]at hb;cases hb;exact hnf ts hd
 have nf:T∉frs (env::outer):=λhm=>by
  obtain⟨_,o,ho,hnf⟩:=hl.mem hm
  rw[hT]at ho;cases ho;exact hnf ts hd
 refine qrt hfr (hl.of_keeps λb o hb hnf=>⟨o,(other b (nr b o hb hnf)).trans hb,rfl⟩) hf ((other x (Bh hTx)).trans he) hz λh' T' N=>h h' T' ?_
 obtain⟨o,ho⟩:=hTT
 refine⟨N.rc,N.tb,A0 (BZ (Heap.size_update ..).symm) N.new,N.ne,λb o hb hb' hbf e=>N.keep b o hb (by simp) hbf ((other b (by simpa using hb')).trans e),λb o hb hb' e=>N.slot b o hb (by simp) ((other b (by simpa using hb')).trans e),λb hb=>?_⟩
 have e:b=T:=by simpa using hb
 subst e
 exact⟨o,N.keep b o hTx (by simp) nf ho⟩
theorem land_x {Q:Unit->Aj->Prop}{fs told:List Addr}{T:Addr}{fl:Value}{h0:Heap}(N:Notes fs x C od sl told T fl h0 s.heap)(nt:T∉told)(h:∀h',Notes fs x C od sl told T .none h0 h'->Q () { s with heap:=h' }):wpAny M A (setFlight (.ref x) none) Q E s:=by
 obtain⟨vs,hz,he,h1⟩:=N.rc
 obtain⟨oT,ts,hT,hd,h3⟩:=N.tb
 have hs3:=(C6.mp h3).1
 unfold setFlight
 refine Af (BH he rfl h1 ?_)
 rw[if_pos (show (Ao T != BJ)=true from by simp)]
 refine Dp hT hd hs3 (h _ ?_)
 have other:∀b,b≠T->(s.heap.update T (CN (·.setIfInBounds 3 ((none:Option Addr).elim BJ λf=>rawInt f)))).get? b=s.heap.get? b:=λb hb=>B3 _ _ (Bh hb)
 have lt:∀b o,h0.get? b=some o->b≠T:=λb o e=>AR (AG (A7 e) N.new)
 refine⟨⟨vs,hz,(other x (Bh N.ne)).trans he,h1⟩,⟨_,_,B8 _ hT (C9 (Cb hd _)),Cb hd _,by simp[hs3]⟩,N.new,N.ne,λb o hb hb' hbf e=>(other b (lt b o e)).trans (N.keep b o hb hb' hbf e),λb o hb hb' e=>?_,λb hb=>?_⟩
 .obtain⟨s',e'⟩:=N.slot b o hb hb' e
  exact⟨s',(other b (lt b o e)).trans e'⟩
 .obtain⟨o,e⟩:=N.old b hb
  exact⟨o,(other b λz=>nt (z ▸ hb)).trans e⟩
end
noncomputable def qqd (X:Cx)(pins:List (Addr×Obj))(H:Hp)(h:Heap)(x C:Addr)(od:Option Addr):Prop:=H x=some (exO x C od false)/\∃(vs:Array Value)(sl:Array (Option Value))(T:Addr)(oT:Obj)(ts:Array Value),
 h.get? x=some (qdf C od vs sl)/\vs[1]?=some (.ref T)/\h.get? T=some oT/\oT.data=.fields ts/\ts[3]?=some .none/\qel X pins H T
noncomputable def Fly (X:Cx)(pins:List (Addr×Obj))(H:Hp)(h:Heap)(x C:Addr)(od:Option Addr):Prop:=H x=some (exO x C od true)\/qqd X pins H h x C od
theorem qru {P:AU}{w:World}{H:Hp}{h:Heap}{x C:Addr}{od:Option Addr}{fr fr':Bool}(ok:HOk P w H h)(e:H x=some (exO x C od fr))(a:exHas H od):exHas (upd H x (exO x C od fr')) od:=by
 cases od with
 |none=>exact trivial
 |some dx =>
  obtain⟨fs,q⟩:=a
  exact⟨fs,by rw[zh (qy3 ok e q)];exact q⟩
section
variable {X:Cx}{pins:List (Addr×Obj)}{σ:L2.St}{H:Hp}{s:Aj}{E:Value->Aj->Prop}{x C:Addr}{od:Option Addr}
theorem qs0 {fr:Bool}{sl:Array (Option Value)}{told:List Addr}{T:Addr}{fl:Value}{h':Heap}(I:Inv X pins σ H s)(e:H x=some (exO x C od fr))(N:Notes (frs X.stack) x C od sl told T fl s.heap h')(ht:∀b∈told,qel X pins H b) :
  Inv X pins σ (upd H x (exO x C od false)) { s with heap:=h' }/\qel X pins (upd H x (exO x C od false)) T:=by
 have nx:∀b,H b=none->b≠x:=λb n z=>by rw[z,e]at n;cases n
 have nt:∀b u,H b=some u->b∉told:=λb u q z=>by rw[(ht b z).1]at q;cases q
 have nf:∀b u,H b=some u->b∉frs X.stack:=λb u q z=>by rw[I.stkFree b z]at q;cases q
 have hx':∀b u,H b=some u->u≠exO x C od fr->b≠x:=λb u q n z=>n (by rw[z,e]at q;exact(AD q).symm)
 have sub:∀b,b≠X.env.locals->b∉X.fs->b∉frs X.stack:=λb h1 h2 z=>by
  rcases An.mp (I.stkSub b z) with q|q
  .exact h1 q
  .exact h2 q
 refine⟨I.step (g':=s.gens) (d':=s.drawn) (t':=s.toks) (ch:=told) (λb hb=>⟨(ht b hb).2.2.2.1,(ht b hb).2.1,(ht b hb).2.2.2.2.1,(ht b hb).2.2.2.2.2⟩) (λb o h1 h2 hc q n=>N.keep b o (nx b n) hc (sub b h1 h2) q) (λb o _ _ hc q n=>N.slot b o (nx b n) hc q)
  (λb o _ _ n=>by rw[zh (nx b n)];exact n) (λb o hc q=>?_) (λb xs q=>?_) (λb o u q=>?_) (λb ps q=>?_) (λm hm=>?_) (λb u q=>?_) I.bare,?_⟩
 .by_cases hb:b=x
  .subst hb
   obtain⟨vs,_,r,_⟩:=N.rc
   exact⟨_,r⟩
  .obtain⟨s',q'⟩:=N.slot b o hb hc q
   exact⟨_,q'⟩
 .rw[zh (hx' b _ q (by unfold exO;intro z;cases z))];exact q
 .rw[zh (hx' b _ q (by unfold exO;intro z;cases z))];exact q
 .exact⟨#[],by rw[zh (hx' b _ q (by unfold exO;intro z;cases z)),q];simp⟩
 .obtain⟨o,es,ep,ho,r⟩:=hm
  obtain⟨s',q'⟩:=N.slot _ o (nx _ I.free) (λz=>(ht _ z).2.1 rfl) ho
  exact⟨_,es,ep,q',r⟩
 .by_cases hb:b=x
  .subst hb
   rw[zd]at q
   cases q
   obtain⟨vs,hz,r,_⟩:=N.rc
   exact qnq r hz λz=>nomatch z
  .rw[zh hb]at q
   refine(I.hok b u q).stay (λc v hc r=>?_) (λc r=>?_) λc xs r=>?_
   .rcases hc with rfl|hc
    .exact N.keep c v hb (nt c u q) (nf c u q) r
    .exact N.keep c v (hx' c _ hc (by unfold exO;intro z;cases z)) (nt c _ hc) (nf c _ hc) r
   .rw[zh (hx' c _ r (by unfold exO;intro z;cases z))];exact r
   .rw[zh (hx' c _ r (by unfold exO;intro z;cases z))];exact r
 .exact I.fpOk N.new (by rw[zh N.ne];exact I.hok.fresh N.new)
theorem qmt {Q:Aj->Prop}(hst:X.stack=X.env::X.outer/\X.env.frame=some X.env.locals)(I:Inv X pins σ H s)(f:Fly X pins H s.heap x C od)
  (h:∀s',Inv X pins σ (upd H x (exO x C od false)) s'->qqd X pins (upd H x (exO x C od false)) s'.heap x C od->Q s') :
  wpAny (model X.prog X.w) X.A (noteFrame (.ref x) X.env) (λ_ s2=>wpAny (model X.prog X.w) X.A (setFlight (.ref x) none) (λ_ s3=>Q s3) E s2) E s:=by
 have hfr:X.A.frames=some (X.env::X.outer):=by rw[I.ok.frames,hst.1]
 have hl:s.heap.FunFrames X.base (X.env::X.outer):=by rw[<- hst.1];exact I.stack
 have fin:∀{fr:Bool}{sl:Array (Option Value)}{told:List Addr}{T:Addr}{fl:Value}{h':Heap},H x=some (exO x C od fr)->(∀b∈told,qel X pins H b)->(∀b∈told,∃o,s.heap.get? b=some o)->Notes (frs (X.env::X.outer)) x C od sl told T fl s.heap h' ->
   wpAny (model X.prog X.w) X.A (setFlight (.ref x) none) (λ_ s3=>Q s3) E { s with heap:=h' }:=by
  intro fr sl told T fl h' e ht hex N
  refine land_x (s:={ s with heap:=h' }) N (λz=>?_) λh2 N2=>?_
  .obtain⟨o,q⟩:=hex T z
   exact absurd (A7 q) (Nat.not_lt.mpr N.new)
  .rw[<- hst.1]at N2
   obtain⟨J,fp⟩:=qs0 I e N2 ht
   obtain⟨vs,hz,r,h1⟩:=N2.rc
   obtain⟨oT,ts,hT,hd,h3⟩:=N2.tb
   exact h _ J ⟨zd,vs,sl,T,oT,ts,r,h1,hT,hd,h3,fp⟩
 rcases f with e|⟨e,vs,sl,T,oT,ts,he,h1,hT,hd,h3,fp⟩
 .obtain⟨vs,sl,he,hz,ff⟩:=qeo I.hok e
  obtain⟨rfl,t,rfl⟩:=ff rfl
  exact qu6 hfr hl hst.2 he ⟨rfl,rfl⟩ rfl λh' T N=>fin e (λb hb=>absurd hb (by simp)) (λb hb=>absurd hb (by simp)) N
 .have hz:Sz6 vs:=by
   obtain⟨vs',sl',he',hz,_⟩:=qeo I.hok e
   rw[he]at he'
   cases he'
   exact hz
  have hTx:T≠x:=λz=>by
   have:=fp.1
   rw[z,e]at this
   cases this
  have one:∀b∈[T],b=T:=λb hb=>by simpa using hb
  exact qsz hfr hl hst.2 he hz h1 hTx hT hd h3 λh' T' N=>fin e (λb hb=>by rw[one b hb];exact fp) (λb hb=>by rw[one b hb];exact⟨_,hT⟩) N
end
noncomputable def CX1 (P:AU)(w:World):CXT:=λouter H s E e s'=>∃(x C:Addr)(od:Option Addr)(H':Hp)(vs:Array Value)(sl:Array (Option Value))(T:Addr)(oT:Obj)(ts:Array Value),e=.ref x/\H' x=some (exO x C od false)/\exHas H' od/\s'.heap.get? x=some (qdf C od vs sl)/\vs[1]?=some (.ref T) /\
 s'.heap.get? T=some oT/\oT.data=.fields ts/\ts[3]?=some .none/\H' T=none/\s.heap.objs.size<=T/\s'.os=s.os/\En s'.gens/\Un (frs outer) [] H H' s.heap s'.heap/\HOk P w H' s'.heap/\E (.ref x) od H'
noncomputable def Takes (X:Cx)(E:XK):Prop:=∀(pins:List (Addr×Obj))(σ:L2.St)(H:Hp)(s:Aj)(x C:Addr)(od:Option Addr),Inv X pins σ H s->Fly X pins H s.heap x C od->exHas H od->E (.ref x) od (upd H x (exO x C od false))->X.xe (.ref x) s
theorem qbo {P:AU}{w:World}{K:Ag}{mg:Str->Option Value}{base:Heap}{N:List Str}{qual:Str}{scope:Scope}{f:Addr}{cd:Value}{A:Be}{outer:List Env}{s:Aj}{H:Hp}{E:XK} :
  Takes (qnk (CX1 P w) P w K mg base N qual scope f cd A outer s H E) E:=by
 intro pins σ H1 s1 x C od I fl has q
 show wpAny _ _ (leaving _ _) _ _ _
 unfold leaving
 refine Af (qmt ⟨rfl,rfl⟩ I fl λs2 J ft=>?_)
 obtain⟨e,vs,sl,T,oT,ts,hx,h1,hT,hd,h3,fp⟩:=ft
 have hTs:s.heap.objs.size<=T:=by
  rcases fp.2.2.2.1 with z|z
  .exact absurd (show T∈([]:List Addr) from z) (by simp)
  .exact z
 have e1:∃fr,H1 x=some (exO x C od fr):=by
  rcases fl with z|z
  .exact⟨_,z⟩
  .exact⟨_,z.1⟩
 obtain⟨fr,e1⟩:=e1
 exact⟨x,C,od,_,vs,sl,T,oT,ts,rfl,e,qru I.hok e1 has,hx,h1,hT,hd,h3,fp.1,hTs,J.os,J.bare,J.base,J.hok,q⟩
section
variable {P:AU}{w:World}{K:Ag}{mg:Str->Option Value}{base:Heap}
theorem okX {x qual:Str}{st:Stmt}{f:Addr}{fd:AH}{N ps:List Str}{k:Nat}{sp:Sp}(F:Fun K x qual st f fd)(S:FnScope N ps (qac st))(len:∀vs H Q E,sp vs H Q E->vs.length=ps.length)
  (hbody:∀(cdv:Value)(A:Be)(outer:List Env)(s:Aj)(H:Hp)(vs:List V)(Q:VK)(E:XK),Room k (A.deeper (envOfC qual (qac st) s.heap.objs.size f cdv))->sp vs H Q E ->
   ∃t,PSs (qnk (CX1 P w) P w K mg base N qual (qac st) f cdv A outer s H E) (qbq st) t/\t { nx:=λ_ H'=>Q .non H',rt:=Q } (start N vs) H):FnOk P w K mg base (CX1 P w) (k+1) f fd ps sp:=by
 obtain⟨oc,od,kV,doc,pm,an,cdv,ct,osl,rfl,lk,hcd⟩:=F.ex
 exact quj lk hcd S len λA outer s H vs Q E hr hsp=>hbody cdv A outer s H vs Q E hr hsp
end
theorem passF {X:Cx}{P:AU}{w:World}:qf3 (CX1 P w) X E0:=λ_ _ _ _ _ _ _ h=>by
 obtain⟨_,_,_,_,_,_,_,_,_,_,_,_,_,_,_,_,_,_,_,_,_,_,_,q⟩:=h
 exact q.elim
noncomputable def TakesAt (X:Cx)(EX:L2.St->XK):Prop:=∀(pins:List (Addr×Obj))(σ:L2.St)(H:Hp)(s:Aj)(x C:Addr)(od:Option Addr),Inv X pins σ H s->Fly X pins H s.heap x C od->exHas H od->EX σ (.ref x) od (upd H x (exO x C od false))->X.xe (.ref x) s
theorem Takes.at {X:Cx}{E:XK}(t:Takes X E):TakesAt X λ_=>E:=t
theorem TakesAt.pass {X:Cx}{EX:L2.St->XK}{pins:List (Addr×Obj)}{σ:L2.St}{H:Hp}{s s':Aj}{e:Value}(t:TakesAt X EX)(I:Inv X pins σ H s)(c:CX1 X.prog X.w X.stack H s (EX σ) e s'):X.xe e s':=by
 obtain⟨x,C,od,H',vs,sl,T,oT,ts,rfl,ex,has,hx,h1,hT,hd,h3,hn,hz,ho,hb,un,ok,q⟩:=c
 have J:=I.call' (ch:=[]) ho un ok hb λb hb=>absurd hb (by simp)
 refine t pins σ H' s' x C od J (.inr ⟨ex,vs,sl,T,oT,ts,hx,h1,hT,hd,h3,I.fpOk hz hn⟩) has ?_
 rw[qot ex]
 exact q
noncomputable def tCallX (sp:Sp)(dvs:List V)(EX:L2.St->XK)(t:TA):TE:=λσ H Q=>t σ H λvs H1=>sp (vs++dvs) H1 Q (EX σ)
noncomputable def tMakeX (C:Addr)(sp:Sp)(dvs:List V)(EX:L2.St->XK)(t:TA):TE:=λσ H Q=>t σ H λvs H1=>∀x dx,H1 x=none->H1 dx=none->dx≠x ->
 sp (.ref x::(vs++dvs)) (upd (upd H1 dx (.own x)) x (.ins C dx [])) (λv H2=>v=.non/\Q (.ref x) H2) (EX σ)
section
variable {X:Cx}{k:Nat}{f C:Addr}{fd:AH}{ps:List Str}{sp:Sp}{dvs:List V}{ds:List Value}{EX:L2.St->XK}{x m:Str}{p pos apos:Pos}{e o:Expr}{es:List Expr}{ta:TE}{t:TA}
theorem qxh {pins:List (Addr×Obj)}{σ:L2.St}{H:Hp}{s:Aj}{Q:VK}{us:List Value}{vs:List V}(F:FnOk X.prog X.w X.K X.mg X.base (CX1 X.prog X.w) k f fd ps sp)(hr:Room k X.A)(hb:Binds X.K fd ps ds)(hd:Vals dvs ds)(hx:TakesAt X EX)
  (I:Inv X pins σ H s) (r:Vals vs us) (h:sp (vs++dvs) H Q (EX σ)):wpAny (model X.prog X.w) X.A (call (.ref f) us) (EP X pins σ Q) X.xe s:=by
 have r2:Vals (vs++dvs) (us++ds):=r.append hd
 have hl:(us++ds).length=ps.length:=by rw[<- r2.length];exact F.len _ _ _ _ h
 refine CW (CY (F.run X.A X.stack s H ⟨us,[]⟩ (us++ds) (vs++dvs) Q (EX σ) hr I.env0 (hb s us I.kIn hl) r2 h) λr s' hq=>?_)
 cases r with
 |error e=>exact hx.pass I hq
 |ok fl =>
  cases fl with
  |ret u=>exact I.after hq
  |next=>exact B4 hq
  |brk=>exact B4 hq
  |cont=>exact B4 hq
theorem qd4 (F:FnOk X.prog X.w X.K X.mg X.base (CX1 X.prog X.w) k f fd ps sp)(hr:Room k X.A)(hg:Gl X x)(hm:X.mg x=some (.ref f))(hk:Bo X.K (.ref f)=true)(hb:Binds X.K fd ps ds)(hd:Vals dvs ds)(hx:TakesAt X EX)
  (ha:PA X (e::es) t) (hdb:(x == ("__debug__" : Str))=false:=by decide) (he:starEach (e::es) X.env=(false,eval e X.env)::starEach es X.env:=by rfl) (hpl:(backTo pos (starEach es X.env)).any (·.1)=false:=by rfl) :
  PE X (.Call (.Name x p) (e::es) [] pos) (tCallX sp dvs EX t):=by
 intro pins s σ H Q I h
 refine BK (qe1 I hg hm ?_ hdb)
 refine CZ (h₀:=X.base) I.ok.mod.kin hk (thn (ha pos pins s σ H _ I h) λus s1 ⟨vs,H1,I1,r,q⟩=>⟨I1.kIn,?_⟩) he hpl
 exact qxh F hr hb hd hx I1 r q
theorem qs1 {pins:List (Addr×Obj)}{σ:L2.St}{H:Hp}{s:Aj}{Q:VK}{us:List Value}{vs:List V}(M:Mk X.K C f)(F:FnOk X.prog X.w X.K X.mg X.base (CX1 X.prog X.w) k f fd ps sp)(hr:Room (k+1) X.A)(hb:Binds X.K fd ps ds)(hd:Vals dvs ds)
  (hx:TakesAt X EX) (I:Inv X pins σ H s) (r:Vals vs us)
  (h:∀x dx,H x=none->H dx=none->dx≠x->sp (.ref x::(vs++dvs)) (upd (upd H dx (.own x)) x (.ins C dx [])) (λv H2=>v=.non/\Q (.ref x) H2) (EX σ)) :
  wpAny (model X.prog X.w) X.A (call (.ref C) us) (EP X pins σ Q) X.xe s:=by
 have hq:=h (s.heap.objs.size+1) s.heap.objs.size (I.hok.fresh (C4 _)) (I.hok.fresh (A3 _)) (AR (CQ _))
 have I2:=Inv.made (C:=C) I
 have r2:Vals (V.ref (s.heap.objs.size+1)::(vs++dvs)) (Ao (s.heap.objs.size+1)::(us++ds)):=.cons rfl (r.append hd)
 have hl:(Ao (s.heap.objs.size+1)::us++ds).length=ps.length:=by
  have e:=r2.length
  rw[F.len _ _ _ _ hq]at e
  exact e.symm
 refine CW (qod (f:=f) I.kIn M.makes M.init (beq_iff_eq.mp M.fn) (CY (F.run _ X.stack _ _ ⟨Ao (s.heap.objs.size+1)::us,[]⟩ (Ao (s.heap.objs.size+1)::(us++ds)) _ _ (EX σ) (hr.make C us [])
  (I2.env0.make C us []) (hb _ (Ao (s.heap.objs.size+1)::us) I2.kIn hl) r2 hq) λr s' hq'=>?_))
 cases r with
 |error e=>exact hx.pass I2 hq'
 |ok fl =>
  cases fl with
  |ret u =>
   obtain⟨v,H',I3,rv,ev,q3⟩:=I2.after hq'
   subst ev
   exact⟨rv,⟨V.ref (s.heap.objs.size+1),H',I3,rfl,q3⟩⟩
  |next=>exact B4 hq'
  |brk=>exact B4 hq'
  |cont=>exact B4 hq'
theorem qu7 (M:Mk X.K C f)(F:FnOk X.prog X.w X.K X.mg X.base (CX1 X.prog X.w) k f fd ps sp)(hr:Room (k+1) X.A)(hg:Gl X x)(hm:X.mg x=some (.ref C))(hb:Binds X.K fd ps ds)(hd:Vals dvs ds)(hx:TakesAt X EX)
  (ha:PA X (e::es) t) (hdb:(x == ("__debug__" : Str))=false:=by decide) (he:starEach (e::es) X.env=(false,eval e X.env)::starEach es X.env:=by rfl) (hpl:(backTo pos (starEach es X.env)).any (·.1)=false:=by rfl) :
  PE X (.Call (.Name x p) (e::es) [] pos) (tMakeX C sp dvs EX t):=by
 intro pins s σ H Q I h
 refine BK (qe1 I hg hm ?_ hdb)
 refine CZ (h₀:=X.base) I.ok.mod.kin M.kp (thn (ha pos pins s σ H _ I h) λus s1 ⟨vs,H1,I1,r,q⟩=>⟨I1.kIn,?_⟩) he hpl
 exact qs1 M F hr hb hd hx I1 r q
end
noncomputable abbrev _root_.L2.Cx.tr (X:Cx)(pins:List (Addr×Obj))(W:Value->Aj->Prop):Cx:={ X with pn:=X.pn++pins,xe:=W }
noncomputable abbrev _root_.L2.Cx.sup (X:Cx)(e:Value)(W:Value->Aj->Prop):Cx:={ X with A:=X.A.mark (some e),calm:=false,xe:=W }
section
variable {X:Cx}{pins pins':List (Addr×Obj)}{σ:L2.St}{H:Hp}{s:Aj}{W:Value->Aj->Prop}{e:Value}
theorem ok_tr (ok:X.Ok):(X.tr pins W).Ok:=⟨ok.mod,ok.kind,ok.glob,ok.blt,ok.above,ok.inj,ok.has,ok.cab,ok.hd,ok.frames,ok.stk,ok.exf,ok.bs,ok.bsz,ok.noex,ok.exfs,ok.funs,ok.frf⟩
theorem qxi (ok:(X.tr pins W).Ok):X.Ok:=⟨ok.mod,ok.kind,ok.glob,ok.blt,ok.above,ok.inj,ok.has,ok.cab,ok.hd,ok.frames,ok.stk,ok.exf,ok.bs,ok.bsz,ok.noex,ok.exfs,ok.funs,ok.frf⟩
theorem inv_tr (I:Inv X pins σ H s):Inv (X.tr pins W) [] σ H s:=⟨ok_tr I.ok,I.os,I.bare,I.base,I.loc,I.cell,I.free,I.freeC,λp hp=>I.pin p (by rw[AV]at hp;exact hp),I.hok,I.len⟩
theorem qgh (I:Inv (X.tr pins W) pins' σ H s):Inv X pins σ H s:=⟨qxi I.ok,I.os,I.bare,I.base,I.loc,I.cell,I.free,I.freeC,λp hp=>I.pin p (AO _ hp),I.hok,I.len⟩
theorem qxj {b:Addr}(f:qel (X.tr pins W) pins' H b):qel X pins H b:=⟨f.1,f.2.1,f.2.2.1,f.2.2.2.1,f.2.2.2.2.1,λp hp=>f.2.2.2.2.2 p (AO _ hp)⟩
theorem qu8 {h:Heap}{x C:Addr}{od:Option Addr}(f:Fly (X.tr pins W) pins' H h x C od):Fly X pins H h x C od:=by
 rcases f with z|⟨e,vs,sl,T,oT,ts,h1,h2,h3,h4,h5,h6⟩
 .exact .inl z
 .exact .inr ⟨e,vs,sl,T,oT,ts,h1,h2,h3,h4,h5,qxj h6⟩
theorem qxk {D:Ends}{f:Flow}{s':Aj}(h:SP (X.tr pins W) [] D f s'):SP X pins D f s':=by
 cases f with
 |next=>obtain⟨σ',H',I,q⟩:=h;exact⟨σ',H',qgh I,q⟩
 |brk=>obtain⟨σ',H',I,q⟩:=h;exact⟨σ',H',qgh I,q⟩
 |cont=>obtain⟨σ',H',I,q⟩:=h;exact⟨σ',H',qgh I,q⟩
 |ret u=>obtain⟨v,σ',H',I,r,q⟩:=h;exact⟨v,σ',H',qgh I,r,q⟩
theorem ok_sup (ok:X.Ok):(X.sup e W).Ok:=⟨ok.mod,ok.kind,ok.glob,ok.blt,ok.above,ok.inj,ok.has,ok.cab,(λz=>nomatch z),ok.frames,ok.stk,ok.exf,ok.bs,ok.bsz,ok.noex,ok.exfs,ok.funs,ok.frf⟩
theorem qrv (I:Inv X pins σ H s):Inv (X.sup e W) pins σ H s:=⟨ok_sup I.ok,I.os,I.bare,I.base,I.loc,I.cell,I.free,I.freeC,I.pin,I.hok,I.len⟩
theorem qgz (ok:X.Ok)(I:Inv (X.sup e W) pins σ H s):Inv X pins σ H s:=⟨ok,I.os,I.bare,I.base,I.loc,I.cell,I.free,I.freeC,I.pin,I.hok,I.len⟩
theorem qu9 {D:Ends}{f:Flow}{s':Aj}(ok:X.Ok)(h:SP (X.sup e W) pins D f s'):SP X pins D f s':=by
 cases f with
 |next=>obtain⟨σ',H',I,q⟩:=h;exact⟨σ',H',qgz ok I,q⟩
 |brk=>obtain⟨σ',H',I,q⟩:=h;exact⟨σ',H',qgz ok I,q⟩
 |cont=>obtain⟨σ',H',I,q⟩:=h;exact⟨σ',H',qgz ok I,q⟩
 |ret u=>obtain⟨v,σ',H',I,r,q⟩:=h;exact⟨v,σ',H',qgz ok I,r,q⟩
end
noncomputable abbrev TH:=Ends->L2.St->Addr->Addr->Option Addr->Hp->Prop
noncomputable def PH (X:Cx)(hs:List ExceptHandler)(th:TH):Prop:=∀(pins:List (Addr×Obj))(s:Aj)(σ:L2.St)(H:Hp)(D:Ends)(x C:Addr)(od:Option Addr),Inv X pins σ H s->qqd X pins H s.heap x C od->exHas H od->th D σ x C od H ->
 wpAny (model X.prog X.w) X.A (handleBy (.ref x) X.env hs) (SP X pins D) X.xe s
noncomputable def EXof (th:TH)(D:Ends):L2.St->XK:=λσ v od H=>∃x C,v=.ref x/\H x=some (exO x C od false)/\th D σ x C od H
noncomputable def tTry (tb:(L2.St->XK)->TS)(th:TH):TS:=λD σ H=>tb (EXof th D) D σ H
theorem ps_try {X:Cx}{body:List Stmt}{h₀:ExceptHandler}{hs:List ExceptHandler}{pos:Pos}{tb:(L2.St->XK)->TS}{th:TH}(hst:X.stack=X.env::X.outer/\X.env.frame=some X.env.locals)
  (hb:∀pins W EX,TakesAt (X.tr pins W) EX->BB (model X.prog X.w) X.A X.env W->PSs (X.tr pins W) body (tb EX)) (hh:PH X (h₀::hs) th):PS X (.Try body (h₀::hs) [] [] pos) (tTry tb th):=by
 intro pins s σ H D I h
 refine wpAny_Try_except ?_
 have ok:=I.ok
 let W:Value->Aj->Prop:=λe s₁=>wpAny (model X.prog X.w) X.A (noteFrame e X.env) (λ_ s₂=>wpAny (model X.prog X.w) X.A (setFlight e none) (λ_ s₃=>wpAny (model X.prog X.w) X.A (handleBy e X.env (h₀::hs)) (SP X pins D) X.xe s₃) X.xe s₂) X.xe s₁
 have T:TakesAt (X.tr pins W) (EXof th D):=by
  intro pins' σ' H' s' x C od I' fl has q
  obtain⟨x',C',ex',eq',q⟩:=q
  cases ex'
  have J:=qgh I'
  have fl':=qu8 fl
  have e1:∃fr,H' x=some (exO x C od fr):=by
   rcases fl' with z|z
   .exact⟨_,z⟩
   .exact⟨_,z.1⟩
  obtain⟨fr,e1⟩:=e1
  refine qmt hst J fl' λs2 J2 ft=>?_
  obtain⟨_,_,z,_⟩:=qeo J2.hok eq'
  have ft':=ft
  obtain⟨_,_,_,_,_,_,z',_⟩:=ft'
  rw[z']at z
  cases z
  exact hh pins s2 σ' _ D x C od J2 ft (qru J.hok e1 has) q
 refine BR (hb pins W _ T BB.looking [] s σ H D (inv_tr I) h) (λf s₁ q=>?_) λe s₁ q=>q
 have q:=qxk q
 cases f with
 |next=>exact D5 q
 |_=>exact q
theorem ph_nil {X:Cx}:PH X [] λ_ _ _ _ _ _=>False:=λ_ _ _ _ _ _ _ _ _ _ _ h=>h.elim
section
variable {X:Cx}{pins:List (Addr×Obj)}{σ:L2.St}{H:Hp}{s:Aj}{E:Value->Aj->Prop}
theorem qqe {M:Model}{A:Be}{x C:Addr}{od:Option Addr}{Q:Unit->Aj->Prop}(I:Inv X pins σ H s)(f:qqd X pins H s.heap x C od)(h:∀s',Inv X pins σ H s'->qqd X pins H s'.heap x C od->Q () s'):wpAny M A (setFlight (.ref x) none) Q E s:=by
 obtain⟨e,vs,sl,T,oT,ts,hx,h1,hT,hd,h3,fp⟩:=f
 have hs3:=(C6.mp h3).1
 unfold setFlight
 refine Af (BH hx rfl h1 ?_)
 rw[if_pos (show (Ao T != BJ)=true from by simp)]
 refine Dp hT hd hs3 ?_
 have other:∀b,b≠T->(s.heap.update T (CN (·.setIfInBounds 3 ((none:Option Addr).elim BJ λf=>rawInt f)))).get? b=s.heap.get? b:=λb hb=>B3 _ _ (Bh hb)
 have hTT:=B8 (CN (·.setIfInBounds 3 ((none:Option Addr).elim BJ λf=>rawInt f))) hT (C9 (Cb hd _))
 have nT:∀b u,H b=some u->b≠T:=λb u q z=>by rw[z,fp.1]at q;cases q
 have one:∀b,b∉[T]->b≠T:=λb hb z=>hb (by rw[z];simp)
 refine h _ (I.step (g':=s.gens) (d':=s.drawn) (t':=s.toks) (ch:=[T]) (λb hb=>?_) (λb o _ _ hc q _=>(other b (one b hc)).trans q) (λb o _ _ hc q _=>⟨o.slots,(other b (one b hc)).trans q⟩) (λb o _ _ n=>n) (λb o hc q=>⟨o,(other b (one b hc)).trans q⟩)
  (λb xs q=>q) (λb o u q=>q) (λb ps q=>⟨#[],by rw[q];simp⟩) (λm hm=>?_) (λb u q=>?_) I.bare) ⟨e,vs,sl,T,_,_,(other x (nT x _ e)).trans hx,h1,hTT,Cb hd _,by simp[hs3],fp⟩
 .have z:b=T:=by simpa using hb
  subst z
  exact⟨fp.2.2.2.1,fp.2.1,fp.2.2.2.2.1,fp.2.2.2.2.2⟩
 .obtain⟨o,es,ep,ho,r⟩:=hm
  exact⟨o,es,ep,(other _ (Bh fp.2.1)).trans ho,r⟩
 .exact(I.hok b u q).stay (λc v hc r=>(other c (by
   rcases hc with rfl|hc
   .exact nT c u q
   .exact nT c _ hc)).trans r) (λ_ r=>r) λ_ _ r=>r
theorem qj6 {M:Model}{A:Be}{i:Nat}{n:Str}{pos:Pos}{Q:Unit->Aj->Prop}(I:Inv X pins σ H s)(hN:X.N.Nodup)(hi:X.N[i]?=some n)(hk:X.env.scope.names.lookup n=some .local)
  (h:∀s',Inv X pins (σ.set i none) H s'->Q () s'):wpAny M A (do bindName X.env n .none;unbindBehindTheSuite X.env n pos) Q E s:=by
 obtain⟨m,hn,hl⟩:=id I.loc
 have hcls:(X.env.scope.kind == .class || (X.env.scope.kind == .module && X.env.locals != X.env.globals))=false:=by rw[I.ok.kind];rfl
 have cne:=I.cne
 refine wpAny_nameGoes_keeps hk hn hcls λh' v hn' hs=>?_
 obtain⟨oL,_,_,hoL,_⟩:=id hn
 have tracked:HOk X.prog X.w H h':=λb ob e=>by
  refine(I.hok b ob e).stay (λc w' hc q=>(hs.2 c ?_).trans q) (λ_ q=>q) λ_ _ q=>q
  rintro rfl
  rcases hc with rfl|hc
  .rw[I.free]at e;cases e
  .rw[I.free]at hc;cases hc
 refine h _ ⟨I.ok,I.os,I.bare,⟨λb o e n hb hx=>?_,λb o e n hb hx=>?_,I.base.free,λb o e hx=>?_,I.base.tups,I.base.frzs,I.base.tbls⟩,⟨_,hn',λj y v' e1 e2 e3=>?_⟩,λy c e=>?_,I.free,I.freeC,λp hp=>?_,tracked,by simpa using I.len⟩
 .exact(hs.2 b (AR (AG (A7 e) I.ok.above))).trans (I.base.keep b o e n hb hx)
 .obtain⟨sl,e1⟩:=I.base.slot b o e n hb hx
  exact⟨sl,(hs.2 b (AR (AG (A7 e) I.ok.above))).trans e1⟩
 .obtain⟨o',e1⟩:=I.base.there b o e hx
  exact⟨o',(hs.2 b (AR (AG (A7 e) I.ok.above))).trans e1⟩
 .have hj:j≠i:=λz=>by
   subst z
   rw[Bx (by rw[I.len];exact(Ac.mp hi).1)]at e2
   cases e2
  rw[Ec (Bh hj)]at e2
  obtain⟨u',r',q⟩:=hl j y v' e1 e2 e3
  refine⟨u',r',?_⟩
  rcases q with ⟨k,e⟩|⟨k,c,e,z⟩
  .refine .inl ⟨k,?_⟩
   have:y≠n:=λe=>hj (qkd hN e1 (e ▸ hi))
   simp[this,e]
  .exact .inr ⟨k,c,e,z.sameBut hs (cne y c e)⟩
 .obtain⟨w',z⟩:=I.cell y c e
  exact⟨w',z.sameBut hs (cne y c e)⟩
 .obtain⟨e,n,ne,nf,d⟩:=I.pin p hp
  exact⟨(hs.2 p.1 ne).trans e,n,ne,nf,d⟩
end
noncomputable def PC (X:Cx)(t:Expr)(c:Value):Prop:=∀(e:Value)(E:Value->Aj->Prop)(pins:List (Addr×Obj))(s:Aj)(σ:L2.St)(H:Hp)(Q:Value->Aj->Prop),Inv X pins σ H s->Q c s->wpAny (model X.prog X.w) (X.A.mark (some e)) (eval t X.env) Q E s
theorem qda {X:Cx}{x:Str}{u:Value}{pos:Pos}(hg:Gl X x)(hm:X.mg x=some u)(hd:(x == ("__debug__" : Str))=false:=by decide):PC X (.Name x pos) u:=λe E pins s σ H Q I h =>
 qe1 (X:=X.sup e E) (qrv I) hg hm h hd
noncomputable def hCl (K:Ag)(c:Value)(suite qbm:TH):TH:=λD σ x C od H=>match Ad K (.ref C) c with
 |some true=>suite D σ x C od H
 |some false=>qbm D σ x C od H
 |none=>False
noncomputable def hAs (i:Nat)(ts:Addr->TS):TH:=λD σ x _ _ H=>ts x { nx:=λσ' H'=>D.nx (σ'.set i none) H',rt:=D.rt,bk:=λσ' H'=>D.bk (σ'.set i none) H',ct:=λσ' H'=>D.ct (σ'.set i none) H' } (σ.set i (some (.ref x))) H
section
variable {X:Cx}{t:Expr}{b₀:Stmt}{body:List Stmt}{pos:Pos}{qbm:List ExceptHandler}{c:Value}{ts:Addr->TS}{tr:TH}
theorem qqf {pins:List (Addr×Obj)}{H:Hp}{h:Heap}{x C:Addr}{od:Option Addr}(fl:qqd X pins H h x C od):BF (model X.prog X.w) h (typeOf (.ref x)) (.ref C):=by
 obtain⟨e,vs,sl,T,oT,tsl,hx,_⟩:=fl
 exact(BF.ld hx).andThen .now
theorem qov {i:Nat}{n:Str}(hN:X.N.Nodup)(hi:X.N[i]?=some n)(hk:X.env.scope.names.lookup n=some .local)(hc:PC X t c)(hb:∀x,PSs (X.sup (.ref x) λ_ _=>False) (b₀::body) (ts x))(hr:PH X qbm tr) :
  PH X (.ExceptHandler (some t) (some n) (b₀::body) pos::qbm) (hCl X.K c (hAs i ts) tr):=by
 intro pins s σ H D x C od I fl has h
 refine wpAny_handleBy_cons (codeAny_handlers_test (hc (.ref x) _ pins s σ H _ I ?_)) (by intro q;cases q)
 unfold hCl at h
 split at h
 .rename_i he
  refine(PySem.W.exm_one I.kIn (qqf fl) he).here ?_
  refine codeAny_handlers_suite_as (qqe I fl λs2 I2 f2=>?_)
  refine qhu I2 hN hi (.inl hk) (v:=.ref x) rfl (λs3 I3=>?_) (.inr hk)
  refine BR (hb x pins s3 _ H _ (qrv I3) h) (λf s4 q=>?_) λ_ _ z=>z.elim
  have q:=qu9 I.ok q
  cases f with
  |next=>obtain⟨σ',H',J,q⟩:=q;exact qj6 J hN hi hk λs5 J5=>⟨_,H',J5,q⟩
  |brk=>obtain⟨σ',H',J,q⟩:=q;exact qj6 J hN hi hk λs5 J5=>⟨_,H',J5,q⟩
  |cont=>obtain⟨σ',H',J,q⟩:=q;exact qj6 J hN hi hk λs5 J5=>⟨_,H',J5,q⟩
  |ret u=>obtain⟨v,σ',H',J,r,q⟩:=q;exact qj6 J hN hi hk λs5 J5=>⟨v,_,H',J5,r,q⟩
 .rename_i he
  refine(PySem.W.exm_one I.kIn (qqf fl) he).here ?_
  exact hr pins s σ H D x C od I fl has h
 .exact h.elim
end
structure XRaise (K:Ag)(C:Addr):Prop where
 sub:Ea K C (.type "BaseException")=some true
 ty:Ci K (.ref C)=some (.type "type")
noncomputable def qhh (K:Ag)(C:Addr):Bool:=(Ea K C (.type "BaseException") == some true) && (Ci K (.ref C) == some (.type "type"))
theorem qow {K:Ag}{C:Addr}(h:qhh K C=true):XRaise K C:=by
 unfold qhh at h
 simp only[AN,beq_iff_eq]at h
 exact⟨h.1,h.2⟩
theorem qxl {prog:AU}{w:World}{A:Be}{E:Value->Aj->Prop}{s:Aj}{env:Env}{K:Ag}{m:Sem Value}{Q:Flow->Aj->Prop}(hh:A.handled=none)
  (h:wpAny (model prog w) A m (λv s₁=>∃x C od vs sl,v=.ref x/\K.In s₁.heap/\XRaise K C/\s₁.heap.get? x=some (qdf C od vs sl)/\vs[1]?=some .none/\E (.ref x) s₁) E s) :
  wpAny (model prog w) A (raiseStmt env (some m) none) Q E s:=by
 unfold raiseStmt
 refine Af (BR h (λv s₁ h₁=>?_) λ_ _ x=>x)
 obtain⟨x,C,od,vs,sl,rfl,KX,c,hx,h1,hE⟩:=h₁
 have LT:BF (model prog w) s₁.heap (typeOf (.ref x)) (.ref C):=(BF.ld hx).andThen .now
 have LB:BF (model prog w) s₁.heap (isInstance (.ref x) (.type "BaseException")) true:=LT.andThen (PySem.W.looks_mroIn KX c.sub)
 have LN:BF (model prog w) s₁.heap (isType (.ref x)) false:=(BF.ld hx).andThen .now
 have LC:BF (model prog w) s₁.heap (typeOf (.ref C)) (.type "type"):=PySem.W.looks_typeIn KX c.ty
 refine Af (A6 ?_)
 refine Af (Cg ?_)
 unfold excFromValue isExcClass
 refine Af (Af (LN.here ?_))
 rw[if_neg Ex]
 refine A6 ?_
 rw[if_neg Ex]
 refine Af (LB.here ?_)
 rw[if_pos rfl]
 refine A6 ?_
 refine Af (LN.here ?_)
 rw[if_neg Ex]
 refine Af ?_
 unfold raisedInstance
 refine Af (LT.here (Af (LC.here ?_)))
 rw[if_pos (beq_self_eq_true _)]
 refine A6 ?_
 refine Af ?_
 unfold setFlight
 refine Af (BH hx rfl h1 ?_)
 rw[if_neg Ex]
 exact A6 (wpAny_raiseNew_none hh hE)
noncomputable def tRaise (K:Ag)(te:TE)(EX:L2.St->XK):TS:=λ_ σ H=>te σ H λv H1=>∃x C od,v=.ref x/\H1 x=some (exO x C od true)/\exHas H1 od/\XRaise K C/\EX σ (.ref x) od (upd H1 x (exO x C od false))
theorem qdu {X:Cx}{e:Expr}{te:TE}{pos:Pos}{EX:L2.St->XK}(hc:X.calm=true)(hx:TakesAt X EX)(he:PE X e te):PS X (.Raise (some e) none pos) (tRaise X.K te EX):=by
 intro pins s σ H D I h
 rw[arm_exec_Raise]
 refine Af (DZ ?_)
 show wpAny _ _ (raiseStmt X.env (some (do let v <- eval e X.env;standAt pos;pure v)) none) _ _ _
 refine qxl (K:=X.K) (I.ok.hd hc) (Af (thn (he pins s σ H _ I h) λv s1 ⟨u,H1,I1,r,x,C,od,eu,ex,has,c,q⟩=>Af (DZ (A6 ?_))))
 subst eu
 obtain rfl:v=Ao x:=r
 obtain⟨vs,sl,e1,z6,ff⟩:=qeo I1.hok ex
 obtain⟨rfl,t,rfl⟩:=ff rfl
 exact⟨x,C,od,_,_,rfl,I1.kIn,c,e1,rfl,hx pins σ H1 s1 x C od I1 (.inl ex) has q⟩
theorem qmu:∀{Ds:List Addr}{its:List Value},Vals (Ds.map V.ref) its->its=Ds.map Ao
 | [],_,.nil=>rfl
 |D::Ds,_,.cons a r=>by
  have:=qmu r
  rw[A4,<- this]
  exact congrArg (· :: _) a
section
variable {X:Cx}
theorem qiy:qem X (.builtin "isinstance") (λxs H Q=>∃(x C tp:Addr)(od:Option Addr)(fr:Bool)(Ds:List Addr)(b:Bool),xs=[.ref x,.ref tp]/\H x=some (exO x C od fr)/\exHas H od/\XIs X.K C/\H tp=some (.tup (Ds.map V.ref)) /\
  PySem.W.kitAny X.K (.ref C) (Ds.map Ao)=some b/\Q (.bl b) H):=by
 intro pins s σ H xs us Q I r h
 obtain⟨x,C,tp,od,fr,Ds,b,rfl,e,hs,ci,et,kk,q⟩:=h
 obtain⟨u,u',rfl,r1,r2⟩:=Vals.two r
 cases r1
 cases r2
 obtain⟨vs,sl,e1,_⟩:=qeo I.hok e
 obtain⟨_,its,ri,p⟩:=(show ObjOk X.prog X.w H s.heap tp (.tup (Ds.map V.ref)) from I.hok tp _ et)
 cases qmu ri
 obtain⟨⟨oc,od',dt,sl'⟩,ho,hc,n,hd⟩:=p
 cases hc
 cases hd
 exact PySem.W.kia_tup (qoq ci) I.kIn (qrs e1 (exHas.at I.hok hs)) ho kk (λz=>nomatch z) λtk=>⟨.bl b,H,I.tok tk,rfl,q⟩
theorem qee {K:Ag}{t:Value}:∀{cs:List Value},(cs.map λc=>BC K t c)=cs.map (λ_=>some false)->PySem.W.kitAny K t cs=some false
 | [],_=>rfl
 |c::cs,h=>by
  rw[A4,A4]at h
  obtain⟨h1,h2⟩:=Dh h
  unfold PySem.W.kitAny
  rw[h1]
  exact qee h2
end
noncomputable abbrev TJ:=Str->TE
section
variable {X:Cx}{e:Expr}{es:List Expr}{te:TE}{tj:TJ}{pos:Pos}
end
open Builtin Builtin.Str
section
variable {X:Cx}
theorem qmv:∀(l:List (Str×Tok)),Vals (l.map λp=>V.str p.1) (strValues l)
 | []=>.nil
 |p::l=>.cons ⟨p.2,rfl⟩ (qmv l)
theorem qhi {pins:List (Addr×Obj)}{s:Aj}{σ:L2.St}{H:Hp}{Q:VK}{ys:List Str}(I:Inv X pins σ H s)(k:Nat)(l:List (Str×Tok))(e:l.map (·.1)=ys)(z:ys.length<=A5)(q:∀p,H p=none->Q (.ref p) (upd H p (.lst (ys.map V.str)))) :
  EP X pins σ Q (.ref s.heap.objs.size) { s with heap:=s.heap.push { cls:=.type "list",data:=.seq (strValues l).toArray },toks:=k }:=by
 have hf:H s.heap.objs.size=none:=I.hok.fresh (A3 _)
 refine⟨.ref s.heap.objs.size,upd H s.heap.objs.size (.lst (ys.map V.str)),I.laid (t':=k) (λb u e=>Ap _ e) (A3 _) ?_,rfl,q _ hf⟩
 refine⟨by rw[Ab];exact z,strValues l,0,?_,AA _ rfl⟩
 rw[<- e,Bm]
 exact qmv l
theorem qox:MtR X "str.split" (λx vs H Q=>∃a y:Str,x=.str a/\vs=[.str y]/\(y.length == 0)=false/\a.length<=A5/\(Ce a y).length<=A5/\(partsBetween a (occurrences a y 0 a.length (a.length+1)) y.length).length<=A5 /\
  ∀p,H p=none->Q (.ref p) (upd H p (.lst ((Ce a y).map V.str)))):=by
 intro pins s σ H x vs v us Q I rx rv h
 obtain⟨a,y,rfl,rfl,hy,hx,hz,hn,q⟩:=h
 obtain⟨t,rfl⟩:=rx
 obtain⟨u',rfl,u,rfl⟩:=rv.one
 cases h1:(decide (a.length<y.length) || decide (strKind a<strKind y))
 .cases hf:(occurrences a y 0 a.length (a.length+1)).isEmpty
  .refine DV F.slot_str_split (typeIs_str _ _ _) F.entry_str_split (F.args_str_split_2 _ _) (meets_str_split_sep a y t u h1 hy hf hx hn) ?_
   show wants _ _ _ { s with toks:=_,heap:=s.heap.push { cls:=.type "list",data:=.seq (strsFrom s.toks (partsBetween a (occurrences a y 0 a.length (a.length+1)) y.length)).toArray } }
   rw[strsFrom_eq]
   exact qhi I _ _ ((numbered_texts _ _).trans ((if_neg (ne_true_of_eq_false h1)).trans (if_neg (ne_true_of_eq_false hf))).symm) hz q
  .exact DV F.slot_str_split (typeIs_str _ _ _) F.entry_str_split (F.args_str_split_2 _ _) (meets_str_split_not_found a y t u h1 hy hf) (qhi I s.toks [(a,t)] ((if_neg (ne_true_of_eq_false h1)).trans (if_pos hf)).symm hz q)
 .exact DV F.slot_str_split (typeIs_str _ _ _) F.entry_str_split (F.args_str_split_2 _ _) (meets_str_split_cannot_occur a y t u h1) (qhi I s.toks [(a,t)] (if_pos h1).symm hz q)
end
end Add
namespace Add
open PySem PySem.Spec PyProof.Rows L2
theorem qs2 {X:Cx}:qem X (.type "int") (λxs H Q=>∃(x:Str)(n:Int),xs=[.str x]/\PySem.intText? x=some n/\x.length<=640/\Q (.int n) H):=by
 intro pins s σ H xs us Q I r h
 obtain⟨x,n,rfl,hn,hl,q⟩:=h
 obtain⟨u,rfl,t,rfl⟩:=qfy r
 exact PySem.W.KIN.call_text hn hl ⟨.int n,H,I.tok _,⟨_,rfl⟩,q⟩
section
variable {K:Ag}{C f:Addr}{m:Str}
noncomputable def qxm (K:Ag)(C:Addr):Bool:=Du K C AS && CD K C && PySem.W.plainOver K C && (AT K (.ref C) "__setattr__" == some (some (.builtin "object.__setattr__")))
theorem qva (h:qxm K C=true):Cls K C:=by
 unfold qxm at h
 simp only[AN,beq_iff_eq]at h
 obtain⟨⟨⟨h1,h2⟩,h3⟩,h4⟩:=h
 exact⟨h1,h2,h3,h4⟩
noncomputable def mkB (K:Ag)(C f:Addr):Bool:=PySem.W.makesIn K C && (AT K (.ref C) "__init__" == some (some (.ref f))) && PySem.W.isFn K (.ref f) && Bo K (.ref C)
theorem qy4 (h:mkB K C f=true):Mk K C f:=by
 unfold mkB at h
 simp only[AN,beq_iff_eq]at h
 obtain⟨⟨⟨h1,h2⟩,h3⟩,h4⟩:=h
 exact⟨h1,h2,h3,h4⟩
noncomputable def qrw (K:Ag)(C:Addr)(m:Str)(f:Addr):Bool:=(AT K (.ref C) m == some (some (.ref f))) && PySem.W.isFn K (.ref f) && Bo K (.ref f)
theorem qrx (h:qrw K C m f=true):Meth K C m f:=by
 unfold qrw at h
 simp only[AN,beq_iff_eq]at h
 obtain⟨⟨h1,h2⟩,h3⟩:=h
 exact⟨h1,h2,h3⟩
end
open Builtin Builtin.Str
section
variable {X:Cx}
theorem ql6:MtR X "str.startswith" (λx vs H Q=>∃a y:Str,x=.str a/\vs=[.str y]/\Q (.bl (Txt.startswith a y)) H):=by
 intro pins s σ H x vs v us Q I rx rv h
 obtain⟨a,y,rfl,rfl,q⟩:=h
 obtain⟨t,rfl⟩:=rx
 obtain⟨u',rfl,u,rfl⟩:=rv.one
 exact SC.startswith ⟨.bl _,H,I,rfl,q⟩
theorem qmw:∀{ys:List Str}{us:List Value},Vals (ys.map V.str) us->∃l:List (Str×Tok),strValues l=us/\l.map (·.1)=ys
 | [],us,r=>by cases r;exact⟨[],rfl,rfl⟩
 |y::ys,us,r=>by
  cases r with
  |cons h r =>
   obtain⟨t,rfl⟩:=h
   obtain⟨l,h1,h2⟩:=qmw r
   exact⟨(y,t)::l,by rw[<- h1];rfl,by rw[<- h2];rfl⟩
theorem qj7:MtR X "str.join" (λx vs H Q=>∃(a:Str)(p:Addr)(ys:List Str),x=.str a/\vs=[.ref p]/\SqL X.K H p (ys.map V.str)/\JoinOk a ys=true/\Q (.str (Txt.join a ys)) H):=by
 intro pins s σ H x vs v us Q I rx rv h
 obtain⟨a,p,ys,rfl,rfl,hq,hj,q⟩:=h
 obtain⟨t,rfl⟩:=rx
 obtain⟨u',rfl,hu⟩:=rv.one
 cases hu
 obtain⟨its,r,pl,hz⟩:=I.list hq
 obtain⟨l,rfl,h2⟩:=qmw r
 exact SC.join pl.isList h2 hj λt' k=>⟨.str _,H,I.tok _,⟨_,rfl⟩,q⟩
end
end Add
namespace Add
open PySem PySem.Spec PyProof.Rows L2
open Builtin Builtin.Str
end Add
namespace Add
open PySem PySem.Spec PyProof.Rows L2
theorem qao {H H':Hp}{p:Addr}{o:HO}(s:Same H H')(n:H p=none):Same H (upd H' p o):=λb u e=>by rw[zh (qah e n)];exact s _ _ e
theorem qs3 {K:Ag}{H H':Hp}{a:Addr}{xs:List V}(e:Same H H')(h:SqT K H a xs):SqT K H' a xs:=by
 rcases h with (h|h)|h
 .exact .inl (.inl (e _ _ h))
 .obtain⟨o,h⟩:=h;exact .inl (.inr ⟨o,e _ _ h⟩)
 .exact .inr h
theorem qs4 {js:List (Option Nat)}{g:TG}{tc:TT}{te:TE}{J:It}{σ:L2.St}{H:Hp}{Q:VK}{xs:List V}(b:V->Bool)(f:V->V)(Sv:L2.St->Prop)(F:qmq J H xs)(hz:xs.length<=A5)(h0:Sv (qfo js σ))
  (step:∀(x:V)(σ':L2.St)(H':Hp)(N:L2.St->Hp->Prop)(R:L2.St->VK),x∈xs->Same H H'->Sv σ'->(∀σ3,Sv σ3->b x=false->N σ3 H')->(∀σ3,Sv σ3->b x=true->R σ3 (f x) H') ->
   g x σ' H' λσ3 H3=>tc σ3 H3 λk H4=>if k=true then te σ3 H4 (R σ3) else N σ3 H4)
  (gk:∀(x:V)(σ':L2.St)(H':Hp)(R R':L2.St->Hp->Prop),(∀σ3 H3,R σ3 H3->R' σ3 H3)->g x σ' H' R->g x σ' H' R')
  (fin:∀p,H p=none->Q (.ref p) (upd H p (.lst ((xs.filter b).map f)))) :
  qiw js g tc te σ Q J H:=by
 intro p hp
 have sm:∀o,Same H (upd H p o):=λo=>qao (Same.refl H) hp
 have fl:∀i,((xs.take i).filter b).length<=i:=λi=>A0 (List.length_filter_le b (xs.take i)) (by rw[Av];lia)
 refine⟨λi m σ' H'=>m=xs.length-i/\i<=xs.length/\Sv σ'/\H'=upd H p (.lst (((xs.take i).filter b).map f)),⟨xs.length,by simp,B7 _,h0,by simp⟩,?_⟩
 rintro i m σ' H' ⟨rfl,hi,hv,rfl⟩
 obtain⟨F1,F2⟩:=F _ (sm (.lst (((xs.take i).filter b).map f)))
 by_cases hlt:i<xs.length
 .have ex:xs[i]?=some xs[i]:=by simp[hlt]
  obtain⟨go,yl⟩:=F1 i _ ex
  have et:(xs.take (i+1)).filter b=(xs.take i).filter b++(if b xs[i]=true then [xs[i]] else []):=by
   rw[DL,ex,C7]
   congr 1
   show List.filter b [xs[i]]=_
   rw[Dw]
   rfl
  refine .inr ⟨go,λσ2 H2=>Sv σ2/\H2=upd H p (.lst (((xs.take (i+1)).filter b).map f)),λσ2 H2 ⟨a,b⟩=>⟨xs.length-(i+1),by lia,rfl,hlt,a,b⟩,λx H2 hy=>?_⟩
  obtain⟨rfl,rfl⟩:=yl x H2 hy
  refine gk _ _ _ _ _ (λσ3 H3 z=>?_) (step xs[i] σ' _ (λσ2 H2=>Sv σ2/\H2=upd H p (.lst (((xs.take (i+1)).filter b).map f))) (λσ3 v H5=>∃ys,H5 p=some (.lst ys)/\ys.length<A5/\(Sv σ3/\upd H5 p (.lst (ys++[v]))=upd H p (.lst (((xs.take (i+1)).filter b).map f)))) (Bq hlt) (sm _) hv (λσ3 hs3 hb=>?_) λσ3 hs3 hb=>?_)
  .exact z
  .refine⟨hs3,?_⟩
   rw[et,hb]
   simp
  .refine⟨_,zd,?_,hs3,?_⟩
   .rw[Ab];have:=fl i;lia
   .rw[qre,et,hb,if_pos rfl,Aq];rfl
 .have e:i=xs.length:=by lia
  subst e
  refine .inl ⟨F2,?_⟩
  rw[B0]
  exact fin p hp
end Add
namespace Wri
open PySem PySem.Spec PyProof.Rows PySem.W PySem.W.KIN PySem.NumText
theorem cut_eq (c:Nat):∀{a b r t:List Nat},c∉a->c∉b->a++c::r=b++c::t->a=b/\r=t
 | [],[],_,_,_,_,e=>⟨rfl,(Dh e).2⟩
 | [],y::b,_,_,_,hb,e=>absurd (Dh e).1 λz=>hb (by rw[z];exact Am)
 |x::a,[],_,_,ha,_,e=>absurd (Dh e).1 λz=>ha (by rw[<- z];exact Am)
 |x::a,y::b,_,_,ha,hb,e=>by
  obtain⟨h1,h2⟩:=Dh e
  obtain⟨h3,h4⟩:=cut_eq c (λz=>ha (Ar _ z)) (λz=>hb (Ar _ z)) h2
  exact⟨by rw[h1,h3],h4⟩
noncomputable def jl (c:Nat):List (List Nat)->List Nat
 | []=>[]
 | [x]=>x
 |x::y::r=>x++c::jl c (y::r)
theorem qvb (c:Nat):∀{ps qs:List (List Nat)},ps≠[]->qs≠[]->(∀p∈ps,c∉p)->(∀q∈qs,c∉q)->jl c ps=jl c qs->ps=qs
 | [],_,h,_,_,_,_=>absurd rfl h
 |_,[],_,h,_,_,_=>absurd rfl h
 | [x],[y],_,_,_,_,e=>by rw[show x=y from e]
 | [x],y::z::r,_,_,hp,_,e=>absurd (show c∈x by rw[show x=y++c::jl c (z::r) from e];simp) (hp x Am)
 |x::z::r,[y],_,_,_,hq,e=>absurd (show c∈y by rw[show y=x++c::jl c (z::r) from e.symm];simp) (hq y Am)
 |x::u::r,y::v::t,_,_,hp,hq,e=>by
  obtain⟨h1,h2⟩:=cut_eq c (hp x Am) (hq y Am) (show x++c::jl c (u::r)=y++c::jl c (v::t) from e)
  rw[h1,qvb c (C5 _ _) (C5 _ _) (λp h=>hp p (Ar _ h)) (λp h=>hq p (Ar _ h)) h2]
theorem qc0 (c:Nat):∀ps:List Str,(DM ⟨#[c]⟩ ps).cps.toList=jl c (ps.map λp=>p.cps.toList)
 | []=>rfl
 | [x]=>rfl
 |x::y::r=>by
  show (x++⟨#[c]⟩++DM ⟨#[c]⟩ (y::r)).cps.toList=_
  rw[Dq,Dq,Ek,Ek,qc0 c (y::r),AB]
  rfl
theorem str_ext {x y:Str}(h:x.cps.toList=y.cps.toList):x=y:=by
 cases x;cases y;congr;exact Array.toList_inj.mp h
theorem qks (x:Str)(c:Nat):Ce x ⟨#[c]⟩≠[]:=by
 unfold Ce
 split
 .exact C5 _ _
 .split
  .exact C5 _ _
  .intro h
   have:=length_partsBetween x (AY.Str.occurrences x ⟨#[c]⟩ 0 x.length (x.length+1)) (⟨#[c]⟩:Str).length
   rw[h]at this
   cases this
theorem qhj (c:Nat){ps:List Str}(h0:ps≠[])(h:∀p∈ps,c∉p.cps.toList):Ce (DM ⟨#[c]⟩ ps) ⟨#[c]⟩=ps:=by
 have e:(Ce (DM ⟨#[c]⟩ ps) ⟨#[c]⟩).map (λp=>p.cps.toList)=ps.map λp=>p.cps.toList:=by
  refine qvb c (λz=>qks _ c (El.mp z)) (λz=>h0 (El.mp z)) (λp hp=>?_) (λp hp=>?_) ?_
  .obtain⟨q,hq,rfl⟩:=AM.mp hp
   exact StrLaws.split_free _ c q hq
  .obtain⟨q,hq,rfl⟩:=AM.mp hp
   exact h q hq
  .rw[<- qc0,<- qc0,StrLaws.join_split]
 exact List.map_inj_right (λ_ _ z=>str_ext z) |>.mp e
theorem qxn {l:List Nat}{n:Nat}(h:n∈l):n<=l.sum:=by
 induction l with
 |nil=>cases h
 |cons a l ih =>
  rw[List.sum_cons]
  rcases An.mp h with rfl|h
  .lia
  .have:=ih h;lia
theorem qoy (c:Nat):∀ps:List Str,ps≠[]->(ps.map (·.length)).sum+ps.length<=(DM ⟨#[c]⟩ ps).length+1
 | [],h=>absurd rfl h
 | [x],_=>by simp[DM]
 |x::y::r,_=>by
  have ih:=qoy c (y::r) (C5 _ _)
  show _<=(x++⟨#[c]⟩++DM ⟨#[c]⟩ (y::r)).length+1
  rw[Str.length_append,Str.length_append]
  have:(⟨#[c]⟩:Str).length=1:=rfl
  simp only[A4,List.sum_cons,At]at ih |-
  lia
theorem qs5 (x:Str)(c:Nat):(Ce x ⟨#[c]⟩).length<=x.length+1/\∀p∈Ce x ⟨#[c]⟩,p.length<=x.length:=by
 have h:=qoy c (Ce x ⟨#[c]⟩) (qks x c)
 rw[StrLaws.join_split]at h
 refine⟨by lia,λp hp=>?_⟩
 have h2:=qxn (AM.mpr ⟨p,hp,rfl⟩:p.length∈(Ce x ⟨#[c]⟩).map (·.length))
 have h3:1<=(Ce x ⟨#[c]⟩).length:=List.length_pos_iff.mpr (qks x c)
 lia
theorem qjn (x:Str)(c:Nat):(AY.Str.partsBetween x (AY.Str.occurrences x ⟨#[c]⟩ 0 x.length (x.length+1)) (⟨#[c]⟩:Str).length).length<=x.length+2:=by
 rw[length_partsBetween]
 have:=StrLaws.occ_length_le x ⟨#[c]⟩ 0 x.length (x.length+1)
 lia
noncomputable def fig (c:Nat):Bool:=decide (48<=c) && decide (c<=57)
noncomputable def nv (x:Str):Int:=((digitsVal x.cps.toList:Nat):Int)
noncomputable def plain (x:Str):Bool:=decide (x=Aa "0") || !decide (x.cps.toList.head?=some 48)
theorem qxo {x:Str}(h:x.cps.toList.all fig=true):AllDigits x.cps.toList:=λc hc=>by
 have:=Bf.mp h c hc
 unfold fig at this
 simp only[AN,decide_eq_true_eq]at this
 exact this
theorem int_of {x:Str}(h:x.cps.toList.all fig=true)(h1:1<=x.cps.size)(h2:x.cps.size<=4300):PySem.intText? x=some (nv x):=by
 refine intText_digits (qxo h) (λz=>?_) h2
 have:x.cps.toList.length=0:=by rw[z];rfl
 rw[AQ]at this
 lia
end Wri
namespace Add
open PySem PySem.Spec PyProof.Rows L2
inductive Tups (H:Hp):List V->List (List V)->Prop where
 |nil:Tups H [] []
 |cons {a:Addr} {r vs:List V} {rs:List (List V)} (h:H a=some (.tup r)) (t:Tups H vs rs):Tups H (.ref a::vs) (r::rs)
theorem Tups.same {H H':Hp}{vs:List V}{rs:List (List V)}(t:Tups H vs rs)(s:Same H H'):Tups H' vs rs:=by
 induction t with
 |nil=>exact .nil
 |cons h _ ih=>exact .cons (s _ _ h) ih
theorem Tups.length {H:Hp}{vs:List V}{rs:List (List V)}(t:Tups H vs rs):vs.length=rs.length:=by
 induction t with
 |nil=>rfl
 |cons _ _ ih=>rw[At,At,ih]
theorem Tups.get {H:Hp}{vs:List V}{rs:List (List V)}(t:Tups H vs rs):∀{i:Nat}{r:List V},rs[i]?=some r->∃a,vs[i]?=some (.ref a)/\H a=some (.tup r):=by
 induction t with
 |nil=>intro i r h;cases i <;>cases h
 |cons h _ ih =>
  intro i r' h'
  cases i with
  |zero=>cases h';exact⟨_,rfl,h⟩
  |succ i=>exact ih (i:=i) h'
theorem Tups.get' {H:Hp}{vs:List V}{rs:List (List V)}(t:Tups H vs rs){i:Nat}{v:V}(h:vs[i]?=some v):∃a r,v=.ref a/\rs[i]?=some r/\H a=some (.tup r):=by
 have hi:i<rs.length:=by rw[<- t.length];exact(Ac.mp h).1
 obtain⟨a,e,q⟩:=t.get (i:=i) (r:=rs[i]) (by simp[hi])
 rw[h]at e
 cases e
 exact⟨a,_,rfl,by simp[hi],q⟩
theorem Tups.app {H:Hp}{vs us:List V}{rs ts:List (List V)}(t:Tups H vs rs)(u:Tups H us ts):Tups H (vs++us) (rs++ts):=by
 induction t with
 |nil=>exact u
 |cons h _ ih=>exact .cons h ih
theorem Tups.snoc {H:Hp}{vs:List V}{rs:List (List V)}{a:Addr}{r:List V}(t:Tups H vs rs)(h:H a=some (.tup r)):Tups H (vs++[.ref a]) (rs++[r]):=t.app (.cons h .nil)
theorem Tups.upd {H:Hp}{vs:List V}{rs:List (List V)}{p:Addr}{xs:List V}{o:HO}(t:Tups H vs rs)(hp:H p=some (.lst xs)):Tups (L2.upd H p o) vs rs:=by
 induction t with
 |nil=>exact .nil
 |cons h _ ih=>exact .cons (by rw[zh (λz=>by rw[z,hp]at h;cases h)];exact h) ih
section
variable {X:Cx}
theorem qnt {a:Addr}{u:Value}(r:RelV (.ref a) u):u=.ref a:=by cases r;rfl
theorem qxp {K:Ag}(h:X.K=K):IxR X (rIxT K):=by subst h;exact jc
theorem qkt {K:Ag}(h:X.K=K):IxR X (rIxL K):=by subst h;exact jd
end
end Add
namespace Lay
section
variable {W:Type}[DecidableEq W]
noncomputable abbrev Row (W:Type):=Int×Int×W
noncomputable abbrev ends (rs:List (Row W)):List Int:=rs.map λr=>r.2.1
noncomputable def left (rs:List (Row W))(f:Int):List (Row W):=rs.filterMap λr=>if r.1<f then some (r.1,min r.2.1 (f-1),r.2.2) else none
noncomputable def right (rs:List (Row W))(l:Int):List (Row W):=rs.filterMap λr=>if l<r.2.1 then some (max r.1 (l+1),r.2.1,r.2.2) else none
noncomputable def over (rs:List (Row W))(f l:Int)(w:W):List (Row W):=left rs f++(f,l,w)::right rs l
noncomputable def jn1 (told:List (Row W))(r:Row W):List (Row W):=match told.getLast? with
 |some t=>if t.2.2=r.2.2/\t.2.1+1=r.1 then told.dropLast++[(t.1,r.2.1,r.2.2)] else told++[r]
 |none=>told++[r]
noncomputable def Nx (r s:Row W):Prop:=r.2.1<s.1/\(s.1=r.2.1+1->r.2.2≠s.2.2)
noncomputable def jn (rs:List (Row W)):List (Row W):=rs.foldl jn1 []
noncomputable def lay (rs:List (Row W)):List (Row W):=rs.foldl (λlaid r=>over laid r.1 r.2.1 r.2.2) []
noncomputable def ov (rs:List (Row W)):List (Row W):=jn (lay rs)
end
end Lay
namespace Srt
open PySem PySem.W PyProof.Rows
section
variable {n:Nat}{r:Nat->Nat->Bool}
noncomputable abbrev at' (p:Array Nat)(i:Nat):Nat:=p.getD i 0
end
end Srt
namespace Srt
open PySem PySem.W PySem.Calls PyProof.Rows
section
variable {prog:AU}{w:World}{A:Be}{E:Value->Aj->Prop}{s:Aj}
end
end Srt
namespace Add
open PySem PySem.Spec PyProof.Rows L2 Srt PySem.W
section
variable {X:Cx}{pins:List (Addr×Obj)}{σ:L2.St}{H:Hp}{s:Aj}
end
end Add
namespace Mrg
noncomputable abbrev S2:=Int×Int
noncomputable def inB (rs:List S2)(d:Int):Bool:=rs.any λr=>decide (r.1<=d) && decide (d<=r.2)
noncomputable def mg1 (told:List S2)(r:S2):List S2:=match told.getLast? with
 |some t=>if r.1<=t.2+1 then told.dropLast++[(t.1,if r.2 > t.2 then r.2 else t.2)] else told++[r]
 |none=>told++[r]
noncomputable def mg (rs:List S2):List S2:=rs.foldl mg1 []
end Mrg
namespace Add
open PySem PySem.Spec PyProof.Rows L2
theorem qry {X:Cx}{pins:List (Addr×Obj)}{σ:L2.St}{H:Hp}{s:Aj}{h':Heap}{t':Nat}{e it:Addr}(I:Inv X pins σ H s)(k:∀b o,b≠e->b≠it->s.heap.get? b=some o->h'.get? b=some o)(f1:qel X pins H e)(f2:qel X pins H it) :
  Inv X pins σ H { s with heap:=h',toks:=t' }:=by
 have n1:∀b u,H b=some u->b≠e:=λb u q z=>by rw[z,f1.1]at q;cases q
 have n2:∀b u,H b=some u->b≠it:=λb u q z=>by rw[z,f2.1]at q;cases q
 have out:∀b,b∉[e,it]->b≠e/\b≠it:=λb hb=>⟨λz=>hb (by simp[z]),λz=>hb (by simp[z])⟩
 refine I.step (g':=s.gens) (d':=s.drawn) (ch:=[e,it]) (λb hb=>?_) (λb o _ _ hc q _=>k b o (out b hc).1 (out b hc).2 q) (λb o _ _ hc q _=>⟨o.slots,k b o (out b hc).1 (out b hc).2 q⟩) (λ_ _ _ _ n=>n)
  (λb o hc q=>⟨o,k b o (out b hc).1 (out b hc).2 q⟩) (λ_ _ q=>q) (λ_ _ _ q=>q) (λb ps q=>⟨#[],by rw[q];simp⟩) (λm hm=>?_) (λb u q=>?_) I.bare
 .rcases An.mp hb with rfl|hb
  .exact⟨f1.2.2.2.1,f1.2.1,f1.2.2.2.2.1,f1.2.2.2.2.2⟩
  .cases Ak.mp hb
   exact⟨f2.2.2.2.1,f2.2.1,f2.2.2.2.2.1,f2.2.2.2.2.2⟩
 .obtain⟨o,es,ep,ho,r⟩:=hm
  exact⟨o,es,ep,k _ o (Bh f1.2.1) (Bh f2.2.1) ho,r⟩
 .refine(I.hok b u q).stay (λc v hc z=>k c v ?_ ?_ z) (λ_ z=>z) λ_ _ z=>z
  .rcases hc with rfl|hc
   .exact n1 _ u q
   .exact n1 c _ hc
  .rcases hc with rfl|hc
   .exact n2 _ u q
   .exact n2 c _ hc
noncomputable def Ite (K:Ag)(a:Addr):It :=
 ⟨λi H=>∃xs x,SqL K H a xs/\xs[i]?=some x,λi H x H'=>∀xs,SqL K H a xs->∃y t,xs[i]?=some y/\H t=none/\x=.ref t/\H'=upd H t (.tup [.int i,y]),λi H=>∃xs,SqL K H a xs/\xs.length<=i⟩
theorem qvc {X:Cx}{pins:List (Addr×Obj)}{H:Hp}{b t:Addr}{o:HO}(f:qel X pins H b)(ne:b≠t):qel X pins (L2.upd H t o) b:=⟨by rw[zh ne];exact f.1,f.2⟩
theorem qs6 {P:AU}{w:World}{K:Ag}{es:List Expr}{kk pos}(a e it:Addr)(hne:e≠it):Turn P w K (.Tuple es kk pos) (Ite K a) [e,it] e (λi h=>∃old,IsEnum h e it i old/\h.IsListIter it a i) where
 mem:=by simp
 obj:=λi h st b hb=>by
  obtain⟨old,h1,o,h2,c,d⟩:=st
  rcases An.mp hb with rfl|hb
  .exact⟨_,h1,λv z=>by cases z⟩
  .cases Ak.mp hb
   exact⟨o,h2,λv z=>by rw[d]at z;cases z⟩
 keep:=λi h h' st k=>by
  obtain⟨old,h1,h2⟩:=st
  exact⟨old,k e (by simp) _ h1,h2.at λo q=>k it (by simp) o q⟩
 item:=by
  intro X hP hw hK hc i pins s σ H E I hf st hg
  subst hP hw hK
  obtain⟨old,he,hit⟩:=st
  obtain⟨xs,x,hq,hx⟩:=hg
  obtain⟨its,rv,p,hz⟩:=I.list hq
  obtain⟨u,hu,ru⟩:=rv.get hx
  have f1:=hf e (by simp)
  have f2:=hf it (by simp)
  refine wpAny_pyNext_enum_item he hit p.isList (x:=u) (by simpa using hu) hne λh1 ho hit1 ht hsz keep=>⟨_,rfl,?_⟩
  refine wpAny_letOwnedTupleGo_enum ho λh2 he2 sb=>?_
  replace sb:Cr e h1 h2:=sb
  have hel:e<s.heap.objs.size:=A7 he
  obtain⟨oi,hoi,_⟩:=id hit
  have hil:it<s.heap.objs.size:=A7 hoi
  have ht2:h2.get? s.heap.objs.size=some { cls:=.type "tuple",data:=.seq #[.int i s.toks,u] }:=(sb.2 _ (C1 hel)).trans ht
  have hfr:H s.heap.objs.size=none:=I.hok.fresh (A3 _)
  have I1:=I.laid (a:=s.heap.objs.size) (o:=.tup [.int i,x]) (h':=s.heap.push { cls:=.type "tuple",data:=.seq #[.int i s.toks,u] }) (t':=s.toks) (λb o q=>Ap _ q) (A3 _) ⟨show 2<=A5 by rw[Bp];decide,[.int i s.toks,u],.cons ⟨_,rfl⟩ (.cons ru .nil),⟨_,AA _ rfl,rfl,_,rfl⟩⟩
  have I2:=qry (h':=h2) (t':=s.toks+1) I1 (λb o n1 n2 q=>by
   by_cases z:b=s.heap.objs.size
   .subst z
    rw[AA _ rfl]at q
    cases q
    exact ht2
   .rw[Heap.get?_push_ne _ _ _ z]at q
    exact(sb.2 b n1).trans (keep b o n1 n2 q)) (qvc f1 (AR hel)) (qvc f2 (AR hil))
  refine⟨.ref s.heap.objs.size,_,I2,rfl,λys hy=>?_,⟨u,he2,hit1.at λo q=>(sb.2 it (Bh hne)).trans q⟩,λb hb=>?_⟩
  .rw[I.list_inj hy hq]
   exact⟨x,_,hx,hfr,rfl,rfl⟩
  .rcases An.mp hb with rfl|hb
   .rw[zh (AR hel)];exact f1.1
   .cases Ak.mp hb
    rw[zh (AR hil)];exact f2.1
 done:=by
  intro X hP hw hK hc i pins s σ H E I hf st hg
  subst hP hw hK
  obtain⟨old,he,hit⟩:=st
  obtain⟨xs,hq,hx⟩:=hg
  obtain⟨its,rv,p,hz⟩:=I.list hq
  have hl:=rv.length
  have f1:=hf e (by simp)
  have f2:=hf it (by simp)
  exact wpAny_pyNext_enum_end (I.ok.hd hc) he hit p.isList (by simp;lia) λh' eb=>⟨rfl,qry (t':=s.toks) I (λb o n1 n2 q=>eb b o n2 q) f1 f2⟩
 self:=λA i s Q E st h=>by
  obtain⟨old,he,hit⟩:=st
  exact wpAny_pyIter_enum he h
noncomputable def iEnum (K:Ag)(ta:TA):TI:=λσ H R=>ta σ H λvs H1=>∃a xs,vs=[.ref a]/\H1 a=some (.lst xs)/\R (Ite K a) H1
theorem qs7:bootBuiltins "enumerate" = some (.type "enumerate"):=Ez
theorem qrz {X:Cx}{es:List Expr}{kk:_}{pos':Pos}{a:Expr}{ta:TA}{p pos:Pos}(hg:Gl X "enumerate")(hm:X.mg "enumerate" = none)(ha:PA X [a] ta)(hs:starEach [a] X.env=[(false,eval a X.env)]:=by rfl):PI X (.Tuple es kk pos') (.Call (.Name "enumerate" p) [a] [] pos) (iEnum X.K ta):=by
 intro pins s σ H R I h
 refine Call_ (qfl I hg hm qs7 (B6 (thn (ha pos pins s σ H _ I h) λus s1 ⟨vs,H1,I1,r1,q1⟩=>?_) hs rfl))
 obtain⟨l,xs,e,hl,q⟩:=q1
 subst e
 obtain⟨u,rfl,hu⟩:=qfy r1
 cases qnt hu
 obtain⟨z,its,n,rv,hz,e⟩:=I1.lstM hl
 refine call_enumerate_1 e λh' he hit hsz keep=>wpAny_pyIter_enum he ?_
 have I2:Inv X pins σ H1 { s1 with heap:=h' }:=I1.kept (t':=s1.toks) keep
 refine⟨s1.heap.objs.size+1,[s1.heap.objs.size+1,s1.heap.objs.size],_,_,H1,rfl,I2,qs6 l _ _ (C1 (CQ _)),⟨.none,he,hit⟩,λb hb=>?_,q⟩
 rcases An.mp hb with rfl|hb
 .exact I1.fpOk (C4 _) (I1.hok.fresh (C4 _))
 .cases Ak.mp hb
  exact I1.fpOk (A3 _) (I1.hok.fresh (A3 _))
theorem qoz {K:Ag}{a:Addr}{xs:List V}{g:TG}{tb:TS}{D:Ends}{σ:L2.St}{H:Hp}(Pv:Nat->L2.St->Hp->Prop)(h0:Pv 0 σ H)(hl:∀i σ H,i<=xs.length->Pv i σ H->SqL K H a xs)
  (hs:∀i x t σ H,xs[i]?=some x->Pv i σ H->H t=none->g (.ref t) σ (upd H t (.tup [.int i,x])) λσ2 H2=>tb { D with nx:=Pv (i+1),ct:=Pv (i+1),bk:=D.nx } σ2 H2) (hd:∀σ H,Pv xs.length σ H->D.nx σ H) :
  ∃W:Nat->Nat->L2.St->Hp->Prop,(∃m,W 0 m σ H)/\∀i m σ H,W i m σ H ->
   ((Ite K a).stop i H/\D.nx σ H)\/((Ite K a).go i H/\∃N:L2.St->Hp->Prop,(∀σ' H',N σ' H'->∃m',m'<m/\W (i+1) m' σ' H')/\∀x H',(Ite K a).yld i H x H'->g x σ H' λσ2 H2=>tb { D with nx:=N,ct:=N,bk:=D.nx } σ2 H2):=by
 refine⟨λi m σ H=>m=xs.length-i/\i<=xs.length/\Pv i σ H,⟨xs.length,by simp,B7 _,h0⟩,?_⟩
 rintro i m σ H ⟨rfl,hi,p⟩
 have hq:=hl i σ H hi p
 by_cases hlt:i<xs.length
 .have ex:xs[i]?=some xs[i]:=by simp[hlt]
  refine .inr ⟨⟨xs,xs[i],hq,ex⟩,Pv (i+1),λσ' H' n=>⟨xs.length-(i+1),by lia,rfl,hlt,n⟩,λx H' hy=>?_⟩
  obtain⟨y,t,e1,ht,rfl,rfl⟩:=hy xs hq
  exact hs i y t σ H e1 p ht
 .have e:i=xs.length:=by lia
  subst e
  exact .inl ⟨⟨xs,hq,A3 _⟩,hd σ H p⟩
end Add
namespace Add
open PySem PySem.Spec PyProof.Rows L2
section
variable {X:Cx}
theorem qvd (bs:List Bool):((Bl bs.length).any λj=>(bs[j]?).getD true)=bs.any λb=>b:=by
 rw[Cy,List.any_eq_true,List.any_eq_true]
 constructor
 .rintro⟨j,hj,e⟩
  have hj':j<bs.length:=by simpa using hj
  rw[Ae hj']at e
  exact⟨bs[j],Bq hj',e⟩
 .rintro⟨b,hb,e⟩
  obtain⟨j,hj,rfl⟩:=List.getElem_of_mem hb
  exact⟨j,by simpa using hj,by rw[Ae hj];exact e⟩
theorem qs8 (hc:X.calm=true):qem X (.builtin "any") (λxs H Q=>∃(p:Addr)(bs:List Bool),xs=[V.ref p]/\SqL X.K H p (bs.map V.bl)/\Q (.bl (bs.any λb=>b)) H):=by
 intro pins s σ H xs us Q I r h
 obtain⟨p,bs,rfl,hS,q⟩:=h
 obtain⟨u,rfl,ru⟩:=Vals.one r
 cases ru
 obtain⟨its,rv,pl,hz⟩:=I.list hS
 have hl:=rv.length
 rw[Ab]at hl
 have hne:p≠s.heap.objs.size:=by
  obtain⟨o,ho,_⟩:=pl.isList
  exact AR (A7 ho)
 refine call_any_walk (DF pl.isList ⟨s.heap.objs.size,_,_,its.toArray.size,_,_,λj=>(bs[j]?).getD true,rfl,Walks.list (show X.A.in1.handled=none from I.ok.hd hc) _ p hne its.toArray,
  ⟨⟨_,AA _ rfl,rfl,rfl⟩,pl.isList.at λo e=>Ap _ e⟩,?_,λh' tk hk=>?_⟩)
 .intro i v s' Q' E' hv hq
  have hv':its[i]?=some v:=by simpa using hv
  cases e:bs[i]? with
  |none =>
   exfalso
   have h1:its.length<=i:=by rw[<- hl];exact Co.mp e
   rw[Co.mpr h1]at hv'
   cases hv'
  |some b =>
   obtain⟨u,hu,ru⟩:=rv.get (i:=i) (x:=.bl b) (by rw[Al,e];rfl)
   rw[hv']at hu
   cases hu
   cases (show v=Value.bool b from ru)
   dsimp only at hq
   rw[e]at hq
   exact BE hq
 .refine⟨.bl _,H,I.kept (t':=tk) λb o e=>hk b o (λz=>?_) (Ap _ e),rfl,?_⟩
  .have z':b=s.heap.objs.size:=by simpa using z
   exact absurd (A7 e) (by rw[z'];exact Cf _)
  .have e:its.toArray.size=bs.length:=by rw[Aw,hl]
   rw[e,qvd]
   exact q
theorem gk_tup {K:Ag}{n:Nat}{t:TGs}(ht:∀xs σ' H' R R',(∀σ3 H3,R σ3 H3->R' σ3 H3)->t xs σ' H' R->t xs σ' H' R')(x:V)(σ':L2.St)(H':Hp)(R R':L2.St->Hp->Prop)(h:∀σ3 H3,R σ3 H3->R' σ3 H3)(z:qw0 K n t x σ' H' R):qw0 K n t x σ' H' R':=by
 obtain⟨a,xs,e,hq,hl,z⟩:=z
 exact⟨a,xs,e,hq,hl,ht _ _ _ _ _ h z⟩
end
structure FunD (K:Ag)(x qual:Str)(st:Stmt)(f:Addr)(fd:AH):Prop where
 ex:∃(oc dV kV doc pm cdv ct:Value)(od an:Option Addr)(osl:Array (Option Value)),
  fd=Bz x qual (qb9 st) (qbq st) (qac st) dV kV doc pm an cdv ct/\K.lookup f=some ⟨oc,od,.func fd,osl⟩/\BY K cdv qual=true
 kp:Bo K (.ref f)=true
section
variable {P:AU}{w:World}{K:Ag}{mg:Str->Option Value}{base:Heap}
theorem FunD.ok {x qual:Str}{st:Stmt}{f:Addr}{fd:AH}{N ps:List Str}{k:Nat}{sp:Sp}(F:FunD K x qual st f fd)(S:FnScope N ps (qac st))(len:∀vs H Q E,sp vs H Q E->vs.length=ps.length)
  (hbody:∀(cdv:Value)(A:Be)(outer:List Env)(s:Aj)(H:Hp)(vs:List V)(Q:VK)(E:XK),Room k (A.deeper (envOfC qual (qac st) s.heap.objs.size f cdv))->sp vs H Q E ->
   ∃t,PSs (qnk CX0 P w K mg base N qual (qac st) f cdv A outer s H E).nox (qbq st) t/\t { nx:=λ_ H'=>Q .non H',rt:=Q } (start N vs) H):FnOk P w K mg base CX0 (k+1) f fd ps sp:=by
 obtain⟨oc,dV,kV,doc,pm,cdv,ct,od,an,osl,rfl,lk,hcd⟩:=F.ex
 refine quj lk hcd S len λA outer s H vs Q E hr hsp=>?_
 obtain⟨t,h,q⟩:=hbody cdv A outer s H vs Q E hr hsp
 exact⟨t,h.nox,q⟩
theorem qxq {x qual:Str}{st:Stmt}{f:Addr}{oc:Value}{od an:Option Addr}{osl:Array (Option Value)}{dV kV doc pm cdv ct:Value}(l:K.lookup f=some ⟨oc,od,.func (Bz x qual (qb9 st) (qbq st) (qac st) dV kV doc pm an cdv ct),osl⟩)
  (c:BY K cdv qual=true) (k:Bo K (.ref f)=true):FunD K x qual st f (Bz x qual (qb9 st) (qbq st) (qac st) dV kV doc pm an cdv ct):=⟨⟨oc,dV,kV,doc,pm,cdv,ct,od,an,osl,rfl,l,c⟩,k⟩
theorem qve {fd:AH}{ps:List Str}{ds:List Value}(h:∀us:List Value,(us++ds).length=ps.length->∀S,PySem.W.peek K S (bindArgs fd ⟨us,[]⟩)=some (ps.zip (us++ds))):Binds K fd ps ds:=λs us X hl=>PySem.W.kp_binds X (h us hl)
end
structure MethD (K:Ag)(x qual:Str)(st:Stmt)(ps:List Str)(f:Addr)(fd:AH):Prop where
 fn:FunD K x qual st f fd
 bd:Binds K fd ps []
 ty:Ci K (.ref f)=some (.type "function")
section
variable {X:Cx}{a b c d:Expr}{ta tb tc td:TE}{pos:Pos}
end
theorem qxr {X:Cx}{K:Ag}(hK:X.K=K){es:List Expr}{kk:_}{pos:Pos}{t:TGs}{n:Nat}(hc:X.calm=true)(h:PGs X es t)
  (hn:(assignEach es X.env).length=n:=by rfl) (hst:(assignEach es X.env).findIdx? (·.1)=none:=by rfl):PG X (.Tuple es kk pos) (qw0 K n t):=by
 subst hK;exact qf0 hc h hn hst
end Add
namespace Tab
open Mrg Lay
noncomputable def fy (wk:List Int)(yr:List S2)(i:Int):Bool:=wk.contains (i % 7+1) || inB yr i
noncomputable def opn (bs:List Bool)(k:Nat):Int:=(((bs.take k).filter λb=>!b).length:Nat)
end Tab
namespace Add
open PySem PySem.Spec PyProof.Rows L2
section
variable {X:Cx}{tg:Expr}
end
end Add
namespace Rev
open PySem PyProof.Rows
set_option maxRecDepth 100000
theorem no_len:typeLookup (.type "list_reverseiterator") "__len__" = pure none:=by rw[typeLookup_type,builtinLookup_eq_fast];kernel_rfl
theorem qvf:typeLookup (.type "list_reverseiterator") "__length_hint__" = pure (some (.builtin "list_reverseiterator.__length_hint__")):=by rw[typeLookup_type,builtinLookup_eq_fast];kernel_rfl
section
variable {prog:AU}{w:World}{A:Be}{s:Aj}{R:Result->Aj->Prop}{E:Value->Aj->Prop}
variable {I:Addr}{fp wr:List Addr}{G:Array GenState->Array GenState->Prop}{n:Nat}{P:Nat->Value->Prop}{St:Nat->Aj->Prop}
theorem qxs {x:Value}{Q:Bool->Aj->Prop}(hT:s.TypeIs x "list_reverseiterator")(h:Q false s):wpAny (model prog w) A (AY.List.listLengthHint x) Q E s:=by
 unfold AY.List.listLengthHint
 refine Af (wpAny_specialOf hT no_len ?_)
 show wpAny _ A (specialOf x (Aa "__length_hint__") >>= _) _ _ _
 refine Af (wpAny_specialOf hT qvf ?_)
 generalize hid:("list_reverseiterator.__length_hint__" : String)=id0
 wp_delta
 rw[show splitId id0=some ("list_reverseiterator", "__length_hint__") from by subst hid;decide +kernel]
 subst hid
 refine Af (wpAny_isInstance (b:=true) hT (by rw[isSubtype_type];kernel_rfl) ?_)
 exact A6 h
theorem qs9 (W:WalksS prog w A.in1 I fp wr G n P St)(hT:∀i s,St i s->s.TypeIs (.ref I) "list_reverseiterator")(S:Addr)(res:Value)(c₀:Nat)(hst:St 0 s)(hSf:S∉fp)(hI:I∈fp)
  (hS:s.heap.get? S=some { cls:=.type "list",data:=.seq #[] c₀ })
  (hR:∀s' acc' c',Moved (S::wr) G s s'->s'.heap.get? S=some { cls:=.type "list",dict:=none,data:=.seq acc' c',slots:=#[] }->ItemsOf P acc' n->R (.ok (.ret res)) s') (hn:n<=A5) :
  wpAny (model prog w) A.in1 (AY.List.listExtendWith (.ref S) (.ref I) res)
   (λfin s'=>match fin with | .done f=>R (.ok f) s' | .again c'=>c'.quiet=true/\codeAny (model prog w) A c' R s') (λe s'=>R (.error e) s') s:=by
 have hSI:S≠I:=λe=>hSf (e ▸ hI)
 unfold AY.List.listExtendWith
 refine Af (wpAny_typeOf (hT 0 _ hst) ?_)
 have h1:AY.List.listSameRef (.ref S) (.ref I)=false:=by simp[AY.List.listSameRef,hSI]
 have h2:(BU "list_reverseiterator" == BU "list")=false:=by decide
 have h3:(BU "list_reverseiterator" == BU "tuple")=false:=by decide
 simp only[h1,h2,h3,Bool.or_false,Da,if_false]
 refine Af (W.self 0 _ _ _ hst ?_)
 refine Af (Cg (qxs (hT 0 _ hst) ?_))
 rw[if_neg Ex]
 exact A6 ⟨plainId_quiet F.plain_extend_loop _,codeAny_extend_loopS W hn _ hSf _ n 0 _ _ _ rfl (B7 _) hst hS (ItemsOf.nil P) λs' acc' c' hm hS' hacc=>hR s' acc' c' hm hS' hacc⟩
theorem qxt (W:WalksS prog w A.in1 I fp wr G n P St)(hT:∀i s,St i s->s.TypeIs (.ref I) "list_reverseiterator")(S:Addr)(hst:St 0 s)(hSf:S∉fp)(hI:I∈fp)
  (hS:s.heap.get? S=some { cls:=.type "list",data:=.seq #[] })
  (hR:∀s' acc' c',Moved (S::wr) G s s'->s'.heap.get? S=some { cls:=.type "list",dict:=none,data:=.seq acc' c',slots:=#[] }->ItemsOf P acc' n->R (.ok (.ret .none)) s') (hn:n<=A5) :
  wpAny (model prog w) A.in1 (AY.«list.__init__» ⟨[.ref S,.ref I],[]⟩)
   (λfin s'=>match fin with | .done f=>R (.ok f) s' | .again c'=>c'.quiet=true/\codeAny (model prog w) A c' R s') (λe s'=>R (.error e) s') s:=by
 show wpAny _ A.in1 (AY.List.listItems (.ref S) >>= λold=>AY.List.listUpdate (.ref S) (λ_=>#[]) >>= λ_=>letGo old.toList.reverse >>= λ_=>AY.List.listExtendWith (.ref S) (.ref I) .none) _ _ s
 refine Af ?_
 unfold AY.List.listItems
 refine Af (Cj hS rfl (A6 ?_))
 refine Af (wpAny_updateSeq hS rfl ?_)
 have hS2:=B8 (D9 (λ_=>(#[]:Array Value))) hS rfl
 have oth:∀b o,b≠S->s.heap.get? b=some o->(s.heap.update S (D9 (λ_=>(#[]:Array Value)))).get? b=some o:=λb o hb e=>(B3 _ _ (Bh hb)).trans e
 refine Af (wpAny_letGo ?_)
 refine qs9 W hT S .none _ (W.frame 0 s _ s.toks hst (A3 _) λb hb o e=>oth b o (λh=>hSf (h ▸ hb)) e) hSf hI hS2 (λs' acc' c' hm hS' hacc=>?_) hn
 exact hR s' acc' c' (Moved.trans W.gtrans ((Moved.refl W.grefl).then_heap (A3 _) λb o hb e=>oth b o (λh=>hb (h ▸ Am)) e) hm) hS' hacc
theorem list_ok {Q:Value->Aj->Prop}(W:WalksS prog w A.in1.in1 I fp wr G n P St)(hT:∀i s,St i s->s.TypeIs (.ref I) "list_reverseiterator")(hst:St 0 s)(hfp:∀b∈fp,b<s.heap.objs.size)(hI:I∈fp)
  (hQ:∀s' acc' c',Moved (s.heap.objs.size::wr) G { s with heap:=s.heap.push { cls:=.type "list",data:=.seq #[] } } s' ->
   s'.heap.get? s.heap.objs.size=some { cls:=.type "list",dict:=none,data:=.seq acc' c',slots:=#[] }->ItemsOf P acc' n->Q (.ref s.heap.objs.size) s') (hn:n<=A5) :
  wpAny (model prog w) A (call (.type "list") [.ref I]) Q E s:=by
 have hSf:s.heap.objs.size∉fp:=λhm=>Cf _ (hfp _ hm)
 refine callType_codes (Q₁:=λobj s₁=>obj=.ref s.heap.objs.size/\s₁={ s with heap:=s.heap.push { cls:=.type "list",data:=.seq #[] } }) F.called_list (F.typeCall_list_1 _) F.entry_list_init (code_list_new _ ⟨rfl,rfl⟩) λobj s₁ h₁=>?_
 obtain⟨rfl,rfl⟩:=h₁
 have hS:(s.heap.push { cls:=.type "list",data:=.seq #[] }).get? s.heap.objs.size=some { cls:=.type "list",data:=.seq #[] }:=AA _ rfl
 exact⟨⟨_,hS,rfl⟩,F.args_list_init_2 _ _,qxt W hT _ (W.frame 0 s _ s.toks hst (A3 _) λb _ o e=>Ap _ e) hSf hI hS (λs' acc' c' hm hS' hacc=>⟨rfl,hQ s' acc' c' hm hS' hacc⟩) hn⟩
end
end Rev
namespace Add
open PySem PySem.Spec PyProof.Rows L2
theorem ql7:bootBuiltins "reversed" = some (.type "reversed"):=Ez
theorem qta {xs:List V}{us:List Value}{x:V}{u:Value}(h:Vals xs us)(r:RelV x u):Vals (xs++[x]) (us++[u]):=by
 induction h with
 |nil=>exact .cons r .nil
 |cons r' _ ih=>exact .cons r' ih
theorem qvg {xs:List V}{us:List Value}(h:Vals xs us):Vals xs.reverse us.reverse:=by
 induction h with
 |nil=>exact .nil
 |cons r _ ih=>rw[List.reverse_cons,List.reverse_cons];exact qta ih r
theorem qtb {its:List Value}{acc:Array Value}(h:ItemsOf (λi v=>its.toArray[its.toArray.size-1-i]?=some v) acc its.toArray.size):acc=its.reverse.toArray:=by
 obtain⟨h1,h2⟩:=h
 have e:acc.toList=its.reverse:=by
  refine BG λi=>?_
  have hs:acc.size=its.length:=by rw[h1];simp
  by_cases c:i<its.length
  .have hi:i<acc.size:=by lia
   have hg:acc[i]?=some acc[i]:=Array.getElem?_eq_getElem hi
   have:=h2 i _ hg
   rw[DR,hg,<- this,DS c]
   simp
  .rw[Bj (by rw[AQ];lia),Bj (by rw[Dz];lia)]
 rw[<- e]
section
variable {X:Cx}
noncomputable def tLR (K:Ag)(t:TA):TE:=λσ H Q=>t σ H λvs H1=>∃l ys,vs=[.ref l]/\SqL K H1 l ys/\∀q,H1 q=none->Q (.ref q) (upd H1 q (.lst ys.reverse))
theorem qku {e:Expr}{t:TA}{p p2 pos pos2:Pos}(hca:X.calm=true)(hgl:Gl X "list")(hml:X.mg "list" = none)(hgr:Gl X "reversed")(hmr:X.mg "reversed" = none)(hbl:bootBuiltins "list" = some (.type "list"))(ha:PA X [e] t)
  (he:starEach [e] X.env=(false,eval e X.env)::starEach [] X.env:=by rfl):PE X (.Call (.Name "list" p) [.Call (.Name "reversed" p2) [e] [] pos2] [] pos) (tLR X.K t):=by
 intro pins s σ H Q I h
 refine BK (qfl I hgl hml hbl ?_)
 refine B6 ?_ rfl rfl
 show wpAny _ _ (spliced ((false,eval (.Call (.Name "reversed" p2) [e] [] pos2) X.env)::[])) _ _ s
 refine D8 ?_
 refine BK (qfl I hgr hmr ql7 ?_)
 refine B6 (thn (ha pos2 pins s σ H _ I h) λus s1 ⟨vs,H1,I1,r1,q1⟩=>?_) he rfl
 obtain⟨l,ys,rfl,hq,q⟩:=q1
 obtain⟨u,rfl,rx⟩:=qfy r1
 cases rx
 obtain⟨its,r',pl,hz⟩:=I1.list hq
 refine call_reversed_list pl.isList (DI ?_)
 have hl1:=pl.isList
 have hll:l<s1.heap.objs.size:=by obtain⟨o,ho,_⟩:=hl1;exact A7 ho
 have hh:X.A.handled=none:=I.ok.hd hca
 have W:=(Walks.listRev (prog:=X.prog) (w:=X.w) (A:=X.A.in1.in1) hh s1.heap.objs.size l (AR hll) its.toArray).toS
 refine Rev.list_ok W (λi s st=>st.2.1.typeIs) ⟨B7 _,?_,hl1.at λo e=>Ap _ e⟩ (λb hb=>?_) (by simp) (λs' acc' c' hm hS' hacc=>?_) ?_
 .refine⟨_,AA _ rfl,rfl,?_⟩
  rw[show ((its.toArray.size:Nat):Int)-1-((0:Nat):Int)=(its.toArray.size:Int)-1 by lia]
  rfl
 .show b<(s1.heap.push _).objs.size
  rw[Cu]
  rcases An.mp hb with z|z
  .rw[z];exact CQ _
  .rw[Ak.mp z];exact Nat.lt_succ_of_lt hll
 .have sz:(s1.heap.push (revObj l ((its.toArray.size:Int)-1))).objs.size=s1.heap.objs.size+1:=Cu _ _
  have kp:∀b o,s1.heap.get? b=some o->s'.heap.get? b=some o:=λb o e=>by
   have hb:=A7 e
   refine hm.heap b o (λz=>?_) (Ap _ (Ap _ e))
   rcases An.mp z with z|z
   .rw[z]at hb
    exact absurd hb (by show ¬((s1.heap.push (revObj l ((its.toArray.size:Int)-1))).objs.size<s1.heap.objs.size);rw[sz];exact Nat.not_lt_of_le (C4 _))
   .rw[Ak.mp z]at hb
    exact Cf _ hb
  have es:s'={ s1 with heap:=s'.heap,toks:=s'.toks }:=by
   have g1:=hm.gens
   have g2:=hm.drawn
   have g3:=hm.os
   cases s'
   cases s1
   simp_all
  have le:s1.heap.objs.size<=(s1.heap.push (revObj l ((its.toArray.size:Int)-1))).objs.size:=by rw[sz];exact C4 _
  rw[qtb hacc]at hS'
  have new:ObjOk X.prog X.w (upd H1 (s1.heap.push (revObj l ((its.toArray.size:Int)-1))).objs.size (.lst ys.reverse)) s'.heap (s1.heap.push (revObj l ((its.toArray.size:Int)-1))).objs.size (.lst ys.reverse) :=
   ⟨by rw[Dz];exact hz,its.reverse,c',qvg r',hS'⟩
  have I3:=I1.laid (t':=s'.toks) kp le new
  rw[<- es]at I3
  exact⟨.ref _,_,I3,rfl,q _ (I1.hok.fresh le)⟩
 .have:=r'.length
  simp only[Aw]
  lia
end
end Add
namespace Lay
noncomputable abbrev Rb:=Row Bool
end Lay
namespace Add
open PySem PySem.Spec PyProof.Rows L2
end Add
namespace Add
open PySem PySem.Spec PyProof.Rows L2
section
variable {X:Cx}{CX:CXT}{k:Nat}{f C:Addr}{fd:AH}{ps ks:List Str}{sp:Sp}{E:XK}{x:Str}{p pos:Pos}{e:Expr}{es:List Expr}{kws:List Keyword}{t tk:TA}{g:List Value->List Value->List Value}{gV:List V->List V->List V}
end
noncomputable def g21 {α:Type}(n:α):List α->List α->List α
 | [a,b],[c]=>[a,b,n,c]
 |_,_=>[]
section
variable {X:Cx}
theorem qvh (n:Nat):(Bl n).all (λ_=>true)=true:=by simp
end
section
variable {X:Cx}
noncomputable def ipL:TIp:=λx y H Q=>∃l b xs zs,x=.ref l/\y=.ref b/\H l=some (.lst xs)/\H b=some (.lst zs)/\xs.length+zs.length<=A5/\Q (.ref l) (upd H l (.lst (xs++zs)))
theorem qjz:fillsInplaceSlot (.type "list") "add" (Operator.Add == .Add)=pure false:=by
 unfold fillsInplaceSlot
 show (typeLookup (.type "list") (dunderI "add") >>= λfi=>pure (fi.isSome && !isSeqSlot fi))=pure false
 rw[F.slot_list_iadd.lookup]
 rfl
theorem ql8:seqSlot? (.type "list") (dunderI "add")=pure (some (.builtin "list.__iadd__")):=PySem.seqSlot_of F.slot_list_iadd.lookup Ez
theorem ip_ext:PIp X .Add ipL:=by
 intro pins s σ H x y v u Q I rx ry h
 obtain⟨l,b,xs,zs,rfl,rfl,hH,hB,hz,q⟩:=h
 cases rx
 cases ry
 obtain⟨z,its,n,r,hl,e⟩:=I.lstM hH
 obtain⟨z2,its2,n2,r2,hl2,e2⟩:=I.lstM hB
 have hsz:its.toArray.size+its2.toArray.size<=A5:=by rw[Aw,Aw];lia
 have hlong:¬(!its.toArray.isEmpty && AY.List.listTooLong (its.toArray.size+its2.toArray.size))=true:=by
  rw[qoi hsz,Dn]
  exact AI
 unfold inplaceOp
 refine Cg ?_
 have ta:s.TypeIs (.ref l) "list" := ⟨_,e,rfl⟩
 have tb:s.TypeIs (.ref b) "list" := ⟨_,e2,rfl⟩
 refine Af (wpAny_typeOf ta (Af (wpAny_of_eq qjz ?_)))
 show wpAny _ _ (if false=true then _ else _) _ _ s
 rw[if_neg AI]
 refine Af (wpAny_binaryOp1_none (nm := "add") ta tb noFill_list_add ?_)
 refine Af (wpAny_of_eq ql8 ?_)
 refine Af (wpAny_rule ?_)
 refine DV F.slot_list_iadd ta F.entry_list_iadd (F.args_list_iadd_2 _ _)
  (AutoSeq1.list___iadd___list_list_0 l its.toArray n b its2.toArray n2 hlong (by rw[Aw];lia) (by lia)) ⟨e,e2,?_⟩
 refine⟨.ref l,_,I.lset (its':=its++its2) hH e (by simp) (r.append r2) ?_,rfl,q⟩
 rw[Ah]
 lia
theorem qmx {α β:Type}{F:α->β->Prop}:∀{l:List α}{m:List β},l.length=m.length->(∀(j:Nat)(x:α)(u:β),l[j]?=some x->m[j]?=some u->F x u)->D7 F l m
 | [],[],_,_=>.nil
 |x::l,u::m,h,f=>.cons (f 0 x u rfl rfl) (qmx (Db h) λj y v hy hv=>f (j+1) y v hy hv)
theorem is_kV {P:AU}{w:World}{k:Key}{u:Value}(h:(qb6 P w).is k u=true):RelV (kV k) u:=by
 cases k with
 |inl i=>exact Value.isInt_shape h
 |inr x=>exact Value.isStrOf_shape h
theorem qqg (hc:X.calm=true):qem X (.type "list") (λxs H Q=>∃(d:Addr)(kvs:List (Key×V)),xs=[.ref d]/\H d=some (.dK kvs)/\∀l,H l=none->Q (.ref l) (upd H l (.lst (kvs.map λkv=>kV kv.1)))):=by
 intro pins s σ H xs us Q I r h
 obtain⟨d,kvs,rfl,hd,q⟩:=h
 obtain⟨u,rfl,rx⟩:=qfy r
 cases rx
 obtain⟨z,lo,vs,kv,hD⟩:=qrm I.hok hd
 obtain⟨ep,hat⟩:=hD.dictAt
 refine PySem.W.kdl_call (PySem.W.kdl_dict (knd:=qb6 X.prog X.w) (kvs:=vs) (ep:=ep) lo) (I.ok.hd hc) hat (by rw[<- kv.length];exact z) λh' tk acc c kp e ia=>?_
 have rv:Vals (kvs.map λkv=>kV kv.1) acc.toList:=by
  have hl:(kvs.map λkv=>kV kv.1).length=acc.toList.length:=(Ab _).trans (kv.length.trans (ia.1.symm.trans AQ.symm))
  refine qmx hl λj x u hx hu=>?_
  obtain⟨k,y,hk,hi⟩:=ia.2 j u (by rw[<- DR];exact hu)
  rw[Al]at hx
  have ek:=congrArg (·[j]?) kv.keys
  simp only[Al,hk,De]at ek
  cases ej:kvs[j]? with
  |none=>rw[ej]at hx;cases hx
  |some p =>
   rw[ej]at hx ek
   cases hx
   cases AD ek
   exact is_kV hi
 exact⟨.ref s.heap.objs.size,_,I.laid (t':=tk) kp (A3 _) (show ObjOk X.prog X.w _ h' _ (.lst (kvs.map λkv=>kV kv.1)) from ⟨by rw[Ab];exact z,acc.toList,c,rv,by simpa using e⟩),rfl,q _ (I.hok.fresh (A3 _))⟩
end
noncomputable def KeepN (H H':Hp):Prop:=∀b o,(∀l,o ≠ .lst l)->H b=some o->H' b=some o
theorem KeepN.of {H H':Hp}(s:Same H H'):KeepN H H':=λb o _ e=>s b o e
section
variable {X:Cx}{CX:CXT}{ι:Type}{k:ι->Nat}{f C:ι->Addr}{fd:ι->AH}{ps:ι->List Str}{sp:ι->Sp}{dvs:List V}{ds:List Value}{E:XK}{m:Str}{pos apos:Pos}{e o:Expr}{es:List Expr}{ta:TE}{t:TA}
end
section
variable {X:Cx}
end
section
variable {K:Ag}{C:Addr}
end
section
variable {X:Cx}{tg:Expr}
end
section
variable {X:Cx}
theorem qo0:∀{ss:List Str}{its:List Value},Vals (ss.map V.str) its->StrsAre its ss
 | [],_,.nil=>.nil
 |y::ss,_,.cons a r=>by
  obtain⟨t,rfl⟩:=a
  exact .cons y t (qo0 r)
theorem op_isB:OpR X (compareOp .Is) (λx y H Q=>∃b c:Bool,x=.bl b/\y=.bl c/\Q (.bl (b == c)) H):=by
 intro pins s σ H x y v u Q I rx ry h
 obtain⟨b,c,rfl,rfl,q⟩:=h
 cases rx
 cases ry
 exact PyProof.Rows.is_bool ⟨.bl (b == c),H,I,rfl,q⟩
theorem qxu:OpR X (compareOp .IsNot) (λx y H Q=>∃b c:Bool,x=.bl b/\y=.bl c/\Q (.bl (b != c)) H):=by
 intro pins s σ H x y v u Q I rx ry h
 obtain⟨b,c,rfl,rfl,q⟩:=h
 cases rx
 cases ry
 exact PyProof.Rows.isnot_bool ⟨.bl (b != c),H,I,rfl,q⟩
end
section
variable {X:Cx}
noncomputable def qxv:V->List V->Hp->VK->Prop:=λx vs H Q=>∃(l:Addr)(ss:List Str)(k:Str)(j:Nat),x=.ref l/\vs=[.str k]/\H l=some (.lst (ss.map V.str))/\ss[j]?=some k/\(∀m,m<j->ss[m]? ≠ some k)/\Q (.int (j:Int)) H
theorem are_at {its:List Value}{ss:List Str}(r:StrsAre its ss):∀{m:Nat}{z:Str},ss[m]?=some z->∃t,its[m]?=some (.str z t):=by
 induction r with
 |nil=>intro m z h;cases h
 |cons y t _ ih =>
  intro m z h
  cases m with
  |zero=>cases h;exact⟨_,rfl⟩
  |succ m=>exact ih h
theorem qxw {its:List Value}{ss:List Str}(r:StrsAre its ss):its.length=ss.length:=by
 induction r with
 |nil=>rfl
 |cons _ _ _ ih=>rw[At,At,ih]
theorem qiz:MtR X "list.index" qxv:=by
 intro pins s σ H x vs v us Q I rx rv h
 obtain⟨l,ss,k,j,rfl,rfl,hH,hj,hno,q⟩:=h
 cases rx
 obtain⟨u,rfl,ru⟩:=rv.one
 obtain⟨t,rfl⟩:=ru
 obtain⟨z,its,n,r,hl,e⟩:=I.lstM hH
 have sa:=qo0 r
 have la:=qxw sa
 obtain⟨hjl,_⟩:=Ac.mp hj
 rw[Ab,Bp]at z
 have at':∀{m:Nat}(hm:m<its.toArray.size){y:Str},ss[m]?=some y->isStrOf k its.toArray[m]=(y == k):=λ{m} hm {y} h=>by
  obtain⟨t',e'⟩:=are_at sa h
  have:its.toArray[m]=.str y t':=by
   have h2:its[m]?=some its[m]:=by simp
   rw[h2]at e'
   simpa using AD e'
  rw[this];rfl
 refine DV F.slot_list_index ⟨_,e,rfl⟩ F.entry_list_index (F.args_list_index_2 _ _)
  (SeqAt.list_indexAt l its.toArray n _ _ (.str k t) (isStrOf k) j (by rw[Aw];lia) (by lia) ?_ ?_) ⟨e,λy hy=>(eq_isStrOf k t sa y (by simpa using hy)).at _ _,?_⟩
 .rw[at' _ hj];exact beq_self_eq_true k
 .intro m hm hlt
  obtain⟨y,hy⟩:∃y,ss[m]?=some y:=⟨_,Ae (by lia)⟩
  rw[at' hm hy]
  cases eb:y == k with
  |false=>rfl
  |true=>rw[eq_of_beq eb]at hy;exact absurd hy (hno m hlt)
 .exact⟨.int (j:Int),H,I.tok _,⟨_,rfl⟩,q⟩
end
section
end
section
variable {prog:AU}{w:World}{A:Be}{E:Value->Aj->Prop}{s:Aj}
theorem qqh {it t:Addr}{i:Nat}{items:Array Value}{x:Value}{Q:Value->Aj->Prop}(hi:s.heap.IsTupleIter it t i)(ht:s.heap.IsTuple t items)(hx:items[i]?=some x)
  (hQ:∀h',h'.IsTupleIter it t (i+1)->Cr it s.heap h'->Q x { s with heap:=h' }):wpAny (model prog w) A (AY.SmallTypes.nextOf (.ref it)) Q E s:=by
 obtain⟨o,ho,hc,hd⟩:=id hi
 obtain⟨_,hol,_,_,hdl⟩:=ht
 unfold AY.SmallTypes.nextOf
 refine Af (CT (name:=Aa "__next__") hi.typeIs C8 (DW C8 hi.typeIs F.entry_tuple_iterator_next ?_ (F.args_tuple_iterator_next_1 _)))
 show wpAny _ _ (field (.ref it) 0 >>= _) _ _ s
 refine Af (BH ho hd (x:=.ref t) rfl ?_)
 show wpAny _ _ (if (Ao t == BJ)=true then _ else _) _ _ s
 rw[if_neg (show ¬((Ao t == BJ)=true) from AI)]
 show wpAny _ _ (field (.ref it) 1 >>= _) _ _ s
 refine Af (BH ho hd (x:=.int i 0) rfl ?_)
 show wpAny _ _ (seqItems? (.ref t) >>= _) _ _ s
 refine Af (Cj hol hdl ?_)
 simp only[CH,hx]
 exact Af (Dp ho hd (by simp) (A6 ⟨x,rfl,A6 (hQ _ ⟨_,B8 _ ho (C9 (Cb hd _)),(Obj.cls_mapFields ..).trans hc,by rw[Cb hd];simp[rawInt]⟩ (Cr.update ..))⟩))
theorem ql9 {it t:Addr}{i:Nat}{items:Array Value}{Q:Value->Aj->Prop}(hh:A.handled=none)(hi:s.heap.IsTupleIter it t i)(ht:s.heap.IsTuple t items)(hx:items[i]?=none)
  (hE:∀h' e,Heap.ExtBut it s.heap h'->(∃o,h'.get? e=some o/\o.cls=.type "StopIteration")->E (.ref e) { s with heap:=h' }):wpAny (model prog w) A (AY.SmallTypes.nextOf (.ref it)) Q E s:=by
 obtain⟨o,ho,hc,hd⟩:=id hi
 obtain⟨_,hol,_,_,hdl⟩:=ht
 unfold AY.SmallTypes.nextOf
 refine Af (CT (name:=Aa "__next__") hi.typeIs C8 (DW C8 hi.typeIs F.entry_tuple_iterator_next ?_ (F.args_tuple_iterator_next_1 _)))
 show wpAny _ _ (field (.ref it) 0 >>= _) _ _ s
 refine Af (BH ho hd (x:=.ref t) rfl ?_)
 show wpAny _ _ (if (Ao t == BJ)=true then _ else _) _ _ s
 rw[if_neg (show ¬((Ao t == BJ)=true) from AI)]
 show wpAny _ _ (field (.ref it) 1 >>= _) _ _ s
 refine Af (BH ho hd (x:=.int i 0) rfl ?_)
 show wpAny _ _ (seqItems? (.ref t) >>= _) _ _ s
 refine Af (Cj hol hdl ?_)
 simp only[CH,hx]
 refine Af (wpAny_rule (Af (Dp ho hd (by simp) ?_)))
 show wpAny _ _ (newExc (.type "StopIteration") [] >>= _) _ _ _
 refine Af ?_
 simp only[newExc,newTuple]
 refine Af (DK (Af (m:=firstArgMember _ _) (wpAny_of_eq (a:=BJ) (by first|rfl | (simp only[firstArgMember];rfl)) (DK ?_ (by size_fits)))) (by size_fits))
 exact wpAny_raiseNew_none hh (hE _ _ (((Cr.update ..).extBut.push _).push _) ⟨_,AA _ rfl,rfl⟩)
theorem qtc (hh:A.handled=none)(it t:Addr)(ne:t≠it)(items:Array Value):Draws prog w A it [it,t] items.size (λi v=>items[i]?=some v) (λi h=>h.IsTupleIter it t i/\h.IsTuple t items) where
 live:=λ_ _ st=>let ⟨o,ho,_⟩:=st.1;⟨o,ho⟩
 frame:=λ_ _ _ ⟨⟨o,ho,r⟩,⟨q,hq,r2⟩⟩ hk=>⟨⟨o,hk it (by simp) o ho,r⟩,⟨q,hk t (by simp) q hq,r2⟩⟩
 item:=λi s Q E hi st hQ=>qqh st.1 st.2 (x:=items[i]) (by simp[hi]) λh' h1 h2=>hQ _ h' s.toks (by simp[hi]) ⟨h1,st.2.extBut h2.extBut ne⟩ h2
 done:=λs Q E st hE=>ql9 hh st.1 st.2 (by simp) hE
end
structure Zap (z TI TO i1 i2:Addr)(f1 f2:List Addr):Prop where
 tz:TI≠z
 oz:TO≠z
 to:TI≠TO
 m1:i1∈f1
 m2:i2∈f2
 z1:z∉f1
 z2:z∉f2
 o1:TO∉f1
 o2:TO∉f2
 t1:TI∉f1
 t2:TI∉f2
 x1:i1∉f2
 x2:i2∉f1
noncomputable def qmy (z TI TO i1 i2:Addr)(S1 S2:Nat->Heap->Prop)(f0:Value)(k:Nat)(h:Heap):Prop:=IsZip h z TI TO f0/\DX h TI (.ref i1) (.ref i2)/\(∃a b,DX h TO a b)/\S1 k h/\S2 k h
section
variable {prog:AU}{w:World}{A:Be}{E:Value->Aj->Prop}{s:Aj}{z TI TO i1 i2:Addr}{f1 f2:List Addr}{n n2 k:Nat}{P1 P2:Nat->Value->Prop}{S1 S2:Nat->Heap->Prop}
theorem qvi {Q:Value->Aj->Prop}(D1:Draws prog w A i1 f1 n P1 S1)(D2:Draws prog w A i2 f2 n2 P2 S2)(ap:Zap z TI TO i1 i2 f1 f2)(st:qmy z TI TO i1 i2 S1 S2 .none k s.heap)(hk:k<n)(hk2:k<n2)
  (hQ:∀h' tk x y,P1 k x->P2 k y->qmy z TI TO i1 i2 S1 S2 (rawInt s.heap.objs.size) (k+1) h'->DX h' s.heap.objs.size x y->(∀c o,c≠z->c≠TO->c≠i1->c≠i2->s.heap.get? c=some o->h'.get? c=some o)->Q (.ref s.heap.objs.size) { s with heap:=h',toks:=tk }) :
  wpAny (model prog w) A (AY.«zip.__next__» ⟨[.ref z],[]⟩) (λfin s'=>∃v,fin=.done (.ret v)/\Q v s') E s:=by
 obtain⟨hz,hTI,⟨a,b,hTO⟩,h1,h2⟩:=st
 have n1:∀b∈f1,b≠z/\b≠TO/\b≠i2:=λb hb=>⟨λe=>ap.z1 (e ▸ hb),λe=>ap.o1 (e ▸ hb),λe=>ap.x2 (e ▸ hb)⟩
 have m2:∀b∈f2,b≠z/\b≠TO/\b≠i1:=λb hb=>⟨λe=>ap.z2 (e ▸ hb),λe=>ap.o2 (e ▸ hb),λe=>ap.x1 (e ▸ hb)⟩
 have zi1:z≠i1:=λe=>(n1 i1 ap.m1).1 e.symm
 have zi2:z≠i2:=λe=>(m2 i2 ap.m2).1 e.symm
 have oi1:TO≠i1:=λe=>(n1 i1 ap.m1).2.1 e.symm
 have oi2:TO≠i2:=λe=>(m2 i2 ap.m2).2.1 e.symm
 have ti1:TI≠i1:=λe=>ap.t1 (e ▸ ap.m1)
 have ti2:TI≠i2:=λe=>ap.t2 (e ▸ ap.m2)
 show wpAny _ _ (field (.ref z) 2 >>= _) _ _ _
 refine Af (BH hz rfl (x:=.bool false) rfl ?_)
 show wpAny _ _ (field (.ref z) 3 >>= _) _ _ _
 refine Af (BH hz rfl (x:=.ref TI) rfl (Af (Cj hTI rfl ?_)))
 show wpAny _ _ (AY.SmallTypes.ownedTupleIsFree (.ref z) >>= _) _ _ _
 refine Af ?_
 unfold AY.SmallTypes.ownedTupleIsFree
 refine Af (BH hz rfl (x:=.none) rfl (A6 ?_))
 simp only[if_true]
 refine Af (wpAny_rule (Af (BH hz rfl (x:=.ref TO) rfl (Af (Dc hz (by simp) λh3 hz3 b3=>Af ?_)))))
 have z3:IsZip h3 z TI TO .ellipsis:=hz3
 simp only[List.zipIdx_cons,List.zipIdx_nil,Ef,List.forIn_nil]
 refine Af (Af (wpAny_onRaise (Af (D1.item k _ _ _ hk (D1.frame _ _ _ h1 λb hb o e=>b3.extBut b o (n1 b hb).1 e) λx h4 tk px s4 b4=>A6 ?_))))
 have o4:DX h4 TO a b:=b4.extBut _ _ oi1 (b3.extBut _ _ ap.oz hTO)
 refine Af (Cj o4 rfl (Af (wpAny_updateSeq_pair o4 λh5 ho5 b5=>Af (wpAny_letGo (A6 ?_)))))
 have o5:DX h5 TO x b:=ho5
 refine Af (Af (wpAny_onRaise (Af (D2.item k _ _ _ hk2 (D2.frame _ _ _ h2 λb hb o e=>b5.extBut b o (m2 b hb).2.1 (b4.extBut b o (m2 b hb).2.2 (b3.extBut b o (m2 b hb).1 e))) λy h6 tk2 py s6 b6=>A6 ?_))))
 have o6:DX h6 TO x b:=b6.extBut _ _ oi2 o5
 refine Af (Cj o6 rfl (Af (wpAny_updateSeq_pair o6 λh7 ho7 b7=>Af (wpAny_letGo (A6 (A6 ?_))))))
 have o7:DX h7 TO x y:=ho7
 have sz:h7.objs.size=s.heap.objs.size:=by rw[b7.1,b6.1,b5.1,b4.1,b3.1]
 have kp:∀c o,c≠z->c≠TO->c≠i1->c≠i2->s.heap.get? c=some o->h7.get? c=some o:=λc o c1 c2 c3 c4 e=>b7.extBut _ _ c2 (b6.extBut _ _ c4 (b5.extBut _ _ c2 (b4.extBut _ _ c3 (b3.extBut _ _ c1 e))))
 have z7:IsZip h7 z TI TO .ellipsis:=b7.extBut _ _ ap.oz.symm (b6.extBut _ _ zi2 (b5.extBut _ _ ap.oz.symm (b4.extBut _ _ zi1 z3)))
 refine Af (Cj o7 rfl (Af (wpAny_newTuple (Af ?_))))
 unfold AY.SmallTypes.ownedTupleHandOut
 refine Af (Dc (Ap _ z7) (by simp) λh8 hz8 b8=>?_)
 have z8:IsZip h8 z TI TO (rawInt h7.objs.size):=hz8
 refine Dc z8 (by simp) λh9 hz9 b9=>A6 ⟨_,rfl,?_⟩
 have z9:IsZip h9 z TI TO (rawInt h7.objs.size):=hz9
 have up:∀c o,c≠z->h7.get? c=some o->h9.get? c=some o:=λc o c1 e=>b9.extBut _ _ c1 (b8.extBut _ _ c1 (Ap _ e))
 have zl:z<h7.objs.size:=A7 z7
 have p9:DX h9 h7.objs.size x y:=b9.extBut _ _ (C1 zl) (b8.extBut _ _ (C1 zl) (AA _ rfl))
 show Q (.ref h7.objs.size) _
 rw[sz]at z9 p9 |-
 refine hQ h9 _ x y px py ⟨z9,up _ _ ap.tz (kp _ _ ap.tz ap.to ti1 ti2 hTI),⟨x,y,up _ _ ap.oz o7⟩,?_,?_⟩ p9 λc o c1 c2 c3 c4 e=>up c o c1 (kp c o c1 c2 c3 c4 e)
 .exact D1.frame _ _ _ s4 λb hb o e=>up b o (n1 b hb).1 (b7.extBut _ _ (n1 b hb).2.1 (b6.extBut _ _ (n1 b hb).2.2 (b5.extBut _ _ (n1 b hb).2.1 e)))
 .exact D2.frame _ _ _ s6 λb hb o e=>up b o (m2 b hb).1 (b7.extBut _ _ (m2 b hb).2.1 e)
theorem qxx {Q:Fin->Aj->Prop}(D1:Draws prog w A i1 f1 n P1 S1)(m1:i1∈f1)(z1:z∉f1)(st:qmy z TI TO i1 i2 S1 S2 .none n s.heap)
  (hE:∀h' e,(∀c o,c≠z->c≠TO->c≠i1->c≠i2->s.heap.get? c=some o->h'.get? c=some o)->(∃o,h'.get? e=some o/\o.cls=.type "StopIteration")->E (.ref e) { s with heap:=h' }) :
  wpAny (model prog w) A (AY.«zip.__next__» ⟨[.ref z],[]⟩) Q E s:=by
 obtain⟨hz,hTI,⟨a,b,hTO⟩,h1,h2⟩:=st
 have n1:∀b∈f1,b≠z:=λb hb e=>z1 (e ▸ hb)
 show wpAny _ _ (field (.ref z) 2 >>= _) _ _ _
 refine Af (BH hz rfl (x:=.bool false) rfl ?_)
 show wpAny _ _ (field (.ref z) 3 >>= _) _ _ _
 refine Af (BH hz rfl (x:=.ref TI) rfl (Af (Cj hTI rfl ?_)))
 show wpAny _ _ (AY.SmallTypes.ownedTupleIsFree (.ref z) >>= _) _ _ _
 refine Af ?_
 unfold AY.SmallTypes.ownedTupleIsFree
 refine Af (BH hz rfl (x:=.none) rfl (A6 ?_))
 simp only[if_true]
 refine Af (wpAny_rule (Af (BH hz rfl (x:=.ref TO) rfl (Af (Dc hz (by simp) λh3 hz3 b3=>Af ?_)))))
 have z3:IsZip h3 z TI TO .ellipsis:=hz3
 simp only[List.zipIdx_cons,List.zipIdx_nil,Ef,List.forIn_nil]
 refine Af (Af (wpAny_onRaise (Af (D1.done _ _ _ (D1.frame _ _ _ h1 λb hb o e=>b3.extBut b o (n1 b hb) e) λh4 e b4 he=>?_))))
 obtain⟨oe,hoe,hce⟩:=he
 have z4:IsZip h4 z TI TO .ellipsis:=b4 _ _ (λe=>n1 i1 m1 e.symm) z3
 have ez:e≠z:=λq=>by subst q;rw[z4]at hoe;cases hoe;simp at hce
 exact Dc z4 (by simp) λh5 _ b5=>hE h5 e (λc o c1 _ c3 _ q=>b5.extBut _ _ c1 (b4 _ _ c3 (b3.extBut _ _ c1 q))) ⟨oe,b5.extBut _ _ ez hoe,hce⟩
theorem qvj {Q:Option Value->Aj->Prop}(D1:Draws prog w A.in1 i1 f1 n P1 S1)(D2:Draws prog w A.in1 i2 f2 n2 P2 S2)(ap:Zap z TI TO i1 i2 f1 f2)(st:qmy z TI TO i1 i2 S1 S2 .none k s.heap)(hk:k<n)(hk2:k<n2)
  (hQ:∀h' tk x y,P1 k x->P2 k y->qmy z TI TO i1 i2 S1 S2 (rawInt s.heap.objs.size) (k+1) h'->DX h' s.heap.objs.size x y->(∀c o,c≠z->c≠TO->c≠i1->c≠i2->s.heap.get? c=some o->h'.get? c=some o)->Q (some (.ref s.heap.objs.size)) { s with heap:=h',toks:=tk }) :
  wpAny (model prog w) A (pyNext (.ref z)) Q E s:=by
 have hT:s.TypeIs (.ref z) "zip" := ⟨_,st.1,rfl⟩
 unfold pyNext
 exact Af (wpAny_attempt (CT (name:=Aa "__next__") hT Eh (DW Eh hT F.entry_zip_next (qvi D1 D2 ap st hk hk2 λh' tk x y a1 a2 a3 a4 a5=>A6 (hQ h' tk x y a1 a2 a3 a4 a5)) (F.args_zip_next_1 _))))
theorem qo1 {Q:Option Value->Aj->Prop}(D1:Draws prog w A.in1 i1 f1 n P1 S1)(m1:i1∈f1)(z1:z∉f1)(st:qmy z TI TO i1 i2 S1 S2 .none n s.heap)
  (hQ:∀h',(∀c o,c≠z->c≠TO->c≠i1->c≠i2->s.heap.get? c=some o->h'.get? c=some o)->Q none { s with heap:=h' }):wpAny (model prog w) A (pyNext (.ref z)) Q E s:=by
 have hT:s.TypeIs (.ref z) "zip" := ⟨_,st.1,rfl⟩
 unfold pyNext
 refine Af (wpAny_attempt (CT (name:=Aa "__next__") hT Eh (DW Eh hT F.entry_zip_next (qxx D1 m1 z1 st λh' e kp he=>?_) (F.args_zip_next_1 _))))
 obtain⟨o,ho,hc⟩:=he
 exact Af (wpAny_isInstance (T := "StopIteration") (b:=true) ⟨o,ho,hc⟩ isSubtype_stop (A6 (hQ _ kp)))
end
theorem qr0 {X:Cx}{pins:List (Addr×Obj)}{σ:L2.St}{H:Hp}{s:Aj}{h':Heap}{t':Nat}{ch:List Addr}(I:Inv X pins σ H s)(k:∀b o,b∉ch->s.heap.get? b=some o->h'.get? b=some o)(f:∀b∈ch,qel X pins H b):Inv X pins σ H { s with heap:=h',toks:=t' }:=by
 refine I.step (g':=s.gens) (d':=s.drawn) (ch:=ch) (λb hb=>⟨(f b hb).2.2.2.1,(f b hb).2.1,(f b hb).2.2.2.2.1,(f b hb).2.2.2.2.2⟩) (λb o _ _ hc q _=>k b o hc q) (λb o _ _ hc q _=>⟨o.slots,k b o hc q⟩) (λ_ _ _ _ n=>n)
  (λb o hc q=>⟨o,k b o hc q⟩) (λ_ _ q=>q) (λ_ _ _ q=>q) (λb ps q=>⟨#[],by rw[q];simp⟩) (λm hm=>?_) (λb u q=>?_) I.bare
 .obtain⟨o,es,ep,ho,r⟩:=hm
  exact⟨o,es,ep,k _ o (λz=>(f _ z).2.1 rfl) ho,r⟩
 .refine(I.hok b u q).stay (λc v hc z=>k c v (λm=>?_) z) (λ_ z=>z) λ_ _ z=>z
  rcases hc with rfl|hc
  .rw[(f _ m).1]at q;cases q
  .rw[(f c m).1]at hc;cases hc
theorem fp_neT {X:Cx}{pins:List (Addr×Obj)}{σ:L2.St}{H:Hp}{s:Aj}{a b:Addr}{xs:List V}(I:Inv X pins σ H s)(f:qel X pins H b)(h:SqT X.K H a xs):a≠b:=λe=>by
 subst e
 rcases h with h|⟨o,its,n,hk,_⟩
 .have:=f.1
  rcases h with h|⟨u,h⟩ <;>(rw[this]at h;cases h)
 .have hb:=I.ok.mod.kin a o hk
  rcases f.2.2.2.1 with z|z
  .exact I.ok.noex a o hb z
  .exact absurd (AG (A7 hb) (A0 I.ok.bsz z)) (Cf _)
noncomputable def Itz (K:Ag)(a b:Addr):It :=
 ⟨λi H=>∃xs ys,SqL K H a xs/\SqT K H b ys/\xs.length=ys.length/\i<xs.length,
  λi H x H'=>∀xs ys,SqL K H a xs->SqT K H b ys->∃y1 y2 t,xs[i]?=some y1/\ys[i]?=some y2/\H t=none/\x=.ref t/\H'=upd H t (.tup [y1,y2]),
  λi H=>∃xs,SqL K H a xs/\xs.length=i⟩
theorem fp_upd' {X:Cx}{pins:List (Addr×Obj)}{H:Hp}{b t:Addr}{o:HO}(f:qel X pins H b)(ne:b≠t):qel X pins (L2.upd H t o) b:=⟨by rw[zh ne];exact f.1,f.2⟩
theorem qvk {P:AU}{w:World}{K:Ag}{es:List Expr}{kk pos}(l t z TI TO i1 i2:Addr)(nd:[z,TI,TO,i1,i2].Nodup) :
  Turn P w K (.Tuple es kk pos) (Itz K l t) [z,TI,TO,i1,i2] z (λi h=>IsZip h z TI TO .none/\DX h TI (.ref i1) (.ref i2)/\(∃a b,DX h TO a b)/\h.IsListIter i1 l i/\h.IsTupleIter i2 t i) where
 mem:=by simp
 obj:=λi h st b hb=>by
  obtain⟨h1,h2,⟨_,_,h3⟩,⟨o4,h4,_,d4⟩,⟨o5,h5,_,d5⟩⟩:=st
  simp only[An,Ax,or_false]at hb
  rcases hb with rfl|rfl|rfl|rfl|rfl
  .exact⟨_,h1,λv z=>by cases z⟩
  .exact⟨_,h2,λv z=>by cases z⟩
  .exact⟨_,h3,λv z=>by cases z⟩
  .exact⟨o4,h4,λv z=>by rw[d4]at z;cases z⟩
  .exact⟨o5,h5,λv z=>by rw[d5]at z;cases z⟩
 keep:=λi h h' st k=>by
  obtain⟨h1,h2,⟨a,b,h3⟩,⟨o4,h4,r4⟩,⟨o5,h5,r5⟩⟩:=st
  exact⟨k z (by simp) _ h1,k TI (by simp) _ h2,⟨a,b,k TO (by simp) _ h3⟩,⟨o4,k i1 (by simp) _ h4,r4⟩,⟨o5,k i2 (by simp) _ h5,r5⟩⟩
 item:=by
  intro X hP hw hK hc i pins s σ H E I hf st hg
  subst hP hw hK
  obtain⟨hz,hTI,hTO,h1,h2⟩:=st
  obtain⟨xs,ys,hq,ht,hl,hi⟩:=hg
  obtain⟨its,rv,p,_⟩:=I.list hq
  obtain⟨jts,rw',p2,_⟩:=I.tuple ht
  have l1:=rv.length
  have l2:=rw'.length
  have hh:X.A.in1.handled=none:=I.ok.hd hc
  have nl:l≠i1:=λe=>by
   obtain⟨o,g,c,_⟩:=h1
   obtain⟨o',g',c',_⟩:=p.isList
   rw[e,g]at g';cases g';rw[c]at c';simp at c'
  have nlz:l∉[z,TI,TO,i1,i2]:=λe=>by
   obtain⟨o',g',c',_⟩:=p.isList
   simp only[An,Ax,or_false]at e
   rcases e with e|e|e|e|e
   .rw[e,hz]at g';cases g';simp at c'
   .rw[e,hTI]at g';cases g';simp at c'
   .obtain⟨_,_,h3⟩:=hTO
    rw[e,h3]at g';cases g';simp at c'
   .exact nl e
   .obtain⟨o,g,c,_⟩:=h2
    rw[e,g]at g';cases g';rw[c]at c';simp at c'
  have ntz:t∉[z,TI,TO,i1,i2]:=λe=>fp_neT I (hf t e) ht rfl
  simp only[Bg,An,Ax,or_false,not_or]at nd nlz ntz
  obtain⟨⟨a1,a2,a3,a4⟩,⟨a5,a6,a7⟩,⟨a8,a9⟩,a10,_⟩:=nd
  obtain⟨c1,c2,c3,c4,c5⟩:=nlz
  obtain⟨d1,d2,d3,d4,d5⟩:=ntz
  have ap:Zap z TI TO i1 i2 [i1,l] [i2,t]:=by
   constructor <;>simp only[An,Ax,or_false,not_or,ne_eq] <;>first|exact .inl rfl|exact .inl trivial | (refine⟨?_,?_⟩ <;>(intro e;first|exact a1 e|exact a2 e|exact a3 e|exact a4 e|exact a5 e|exact a6 e|exact a7 e|exact a8 e|exact a9 e|exact a10 e|exact a10 e.symm|exact c1 e.symm|exact c2 e.symm|exact c3 e.symm|exact c5 e.symm|exact d1 e.symm|exact d2 e.symm|exact d3 e.symm|exact d4 e.symm)) | (intro e;first|exact a1 e.symm|exact a2 e.symm|exact a5 e)
  refine qvj (Draws.list hh i1 l nl its.toArray) (qtc hh i2 t d5 jts.toArray) ap ⟨hz,hTI,hTO,⟨h1,p.isList⟩,⟨h2,p2⟩⟩ (k:=i) (by simp;lia) (by simp;lia) λh' tk u v px py st' hp kp=>⟨_,rfl,?_⟩
  refine wpAny_letOwnedTupleGo_zip st'.1 λh3 hz3 sb=>?_
  replace sb:Cr z h' h3:=sb
  obtain⟨x,hx⟩:∃x,xs[i]?=some x:=⟨_,Ae hi⟩
  obtain⟨y,hy⟩:∃y,ys[i]?=some y:=⟨_,Ae (by lia)⟩
  obtain⟨u',hu,ru⟩:=rv.get hx
  obtain⟨v',hv,rv'⟩:=rw'.get hy
  obtain rfl:u=u':=by
   have px:its.toArray[i]?=some u:=px
   simp only[List.getElem?_toArray]at px
   rw[hu]at px;exact(AD px).symm
  obtain rfl:v=v':=by
   have py:jts.toArray[i]?=some v:=py
   simp only[List.getElem?_toArray]at py
   rw[hv]at py;exact(AD py).symm
  have lt:∀b∈[z,TI,TO,i1,i2],b<s.heap.objs.size:=λb hb=>by
   obtain⟨_,_,h3⟩:=hTO
   obtain⟨_,g1,_⟩:=h1
   obtain⟨_,g2,_⟩:=h2
   simp only[An,Ax,or_false]at hb
   rcases hb with rfl|rfl|rfl|rfl|rfl
   .exact A7 hz
   .exact A7 hTI
   .exact A7 h3
   .exact A7 g1
   .exact A7 g2
  have zl:z<s.heap.objs.size:=A7 hz
  have hp3:DX h3 s.heap.objs.size u v:=(sb.2 _ (C1 zl)).trans hp
  have hfr:H s.heap.objs.size=none:=I.hok.fresh (A3 _)
  have I1:=I.laid (a:=s.heap.objs.size) (o:=.tup [x,y]) (h':=s.heap.push { cls:=.type "tuple",data:=.seq #[u,v] }) (t':=s.toks) (λb o q=>Ap _ q) (A3 _) ⟨show 2<=A5 by rw[Bp];decide,[u,v],.cons ru (.cons rv' .nil),⟨_,AA _ rfl,rfl,_,rfl⟩⟩
  have I2:=qr0 (ch:=[z,TI,TO,i1,i2]) (h':=h3) (t':=tk) I1 (λb o n q=>by
   simp only[An,Ax,or_false,not_or]at n
   by_cases e:b=s.heap.objs.size
   .subst e
    rw[AA _ rfl]at q
    cases q
    exact hp3
   .rw[Heap.get?_push_ne _ _ _ e]at q
    exact(sb.2 b n.1).trans (kp b o n.1 n.2.2.1 n.2.2.2.1 n.2.2.2.2 q)) (λb hb=>fp_upd' (hf b hb) (AR (lt b hb)))
  obtain⟨_,s2,⟨a',b',s3⟩,⟨s4,_⟩,⟨s5,_⟩⟩:=st'
  refine⟨.ref s.heap.objs.size,_,I2,rfl,λxs' ys' hx' hy'=>?_,⟨hz3,(sb.2 _ (Bh a1)).trans s2,⟨a',b',(sb.2 _ (Bh a2)).trans s3⟩,s4.at λo q=>(sb.2 _ (Bh a3)).trans q,?_⟩,λb hb=>?_⟩
  .rw[I.list_inj hx' hq,I.tuple_inj hy' ht]
   exact⟨x,y,_,hx,hy,hfr,rfl,rfl⟩
  .obtain⟨o5,g5,r5⟩:=s5
   exact⟨o5,(sb.2 _ (Bh a4)).trans g5,r5⟩
  .rw[zh (AR (lt b hb))];exact(hf b hb).1
 done:=by
  intro X hP hw hK hc i pins s σ H E I hf st hg
  subst hP hw hK
  obtain⟨hz,hTI,hTO,h1,h2⟩:=st
  obtain⟨xs,hq,hi⟩:=hg
  obtain⟨its,rv,p,_⟩:=I.list hq
  have l1:=rv.length
  have hh:X.A.in1.handled=none:=I.ok.hd hc
  have nl:l≠i1:=λe=>by
   obtain⟨o,g,c,_⟩:=h1
   obtain⟨o',g',c',_⟩:=p.isList
   rw[e,g]at g';cases g';rw[c]at c';simp at c'
  have ei:i=its.toArray.size:=by simp;lia
  subst ei
  have nz:z∉[i1,l]:=λe=>by
   rcases An.mp e with e|e
   .obtain⟨o,g,c,_⟩:=h1
    rw[<- e,hz]at g;cases g;simp at c
   .obtain⟨o',g',c',_⟩:=p.isList
    rw[<- Ak.mp e,hz]at g';cases g';simp at c'
  refine qo1 (S2:=λk h=>h.IsTupleIter i2 t k) (Draws.list hh i1 l nl its.toArray) (by simp) nz ⟨hz,hTI,hTO,⟨h1,p.isList⟩,h2⟩ λh' kp=>⟨rfl,qr0 (ch:=[z,TI,TO,i1,i2]) (t':=s.toks) I (λb o n q=>?_) hf⟩
  simp only[An,Ax,or_false,not_or]at n
  exact kp b o n.1 n.2.2.1 n.2.2.2.1 n.2.2.2.2 q
 self:=λA i s Q E st h=>wpAny_pyIter_zip st.1 h
section
noncomputable abbrev zl1 (h:Heap)(l:Addr):Heap:=h.push { cls:=.type "list_iterator",data:=.fields #[.ref l,.int 0 0] }
noncomputable abbrev zl2 (h:Heap)(l t:Addr):Heap:=(zl1 h l).push { cls:=.type "tuple_iterator",data:=.fields #[.ref t,.int 0 0] }
noncomputable abbrev zl3 (h:Heap)(l t:Addr):Heap:=(zl2 h l t).push { cls:=.type "tuple",data:=.seq #[.ref h.objs.size,.ref (zl1 h l).objs.size] }
noncomputable abbrev zl4 (h:Heap)(l t:Addr):Heap:=(zl3 h l t).push { cls:=.type "tuple",data:=.seq #[.none,.none] }
noncomputable abbrev zl5 (h:Heap)(l t:Addr):Heap:=(zl4 h l t).push { cls:=.type "zip",data:=.fields #[.none,.bool false,.bool false,.ref (zl2 h l t).objs.size,.ref (zl3 h l t).objs.size] }
theorem qvl (l t:Addr)(xs ys:Array Value):Meets (AY.«zip.__new__» ⟨[.type "zip",.ref l,.ref t],[]⟩) (λ_ R s=>s.heap.IsList l xs/\s.heap.IsTuple t ys/\R (.ok (.ret (.ref (zl4 s.heap l t).objs.size))) { s with heap:=zl5 s.heap l t }) :=
 .of_wp λprog w A R s h=>by
  obtain⟨hp,g,d,tk,os⟩:=s
  obtain⟨h1,h2,h⟩:=h
  have hsub:=sub_zip
  have hL1:Heap.IsList (Aj.heap ⟨hp,g,d,tk,os⟩) l xs:=h1
  have hL2:Heap.IsTuple (Aj.heap ⟨zl1 hp l,g,d,tk,os⟩) t ys:=Heap.IsTuple.push h2 _
  wp_walk using DF hL1,wpAny_pyIter_tuple hL2
  exact⟨_,rfl,h⟩
theorem qtd {prog:AU}{w:World}{A:Be}{E:Value->Aj->Prop}{s:Aj}{l t:Addr}{xs ys:Array Value}{Q:Value->Aj->Prop}(h1:s.heap.IsList l xs)(h2:s.heap.IsTuple t ys)
  (h:∀h',IsZip h' (s.heap.objs.size+4) (s.heap.objs.size+2) (s.heap.objs.size+3) .none->DX h' (s.heap.objs.size+2) (.ref s.heap.objs.size) (.ref (s.heap.objs.size+1))->DX h' (s.heap.objs.size+3) .none .none ->
   h'.IsListIter s.heap.objs.size l 0->h'.IsTupleIter (s.heap.objs.size+1) t 0->(∀c o,s.heap.get? c=some o->h'.get? c=some o)->Q (.ref (s.heap.objs.size+4)) { s with heap:=h' }):wpAny (model prog w) A (call (.type "zip") [.ref l,.ref t]) Q E s:=by
 refine callType_new F.called_zip Ex (F.typeCall_zip_2 _ _) (F.newCall_zip_2 _ _) (λobj=>F.args_object_init_3 obj _ _) F.entry_zip_new (qvl l t xs ys) ⟨h1,h2,?_⟩
 have y1:(zl1 s.heap l).objs.size=s.heap.objs.size+1:=Cu ..
 have y2:(zl2 s.heap l t).objs.size=s.heap.objs.size+2:=by rw[Cu,y1]
 have y3:(zl3 s.heap l t).objs.size=s.heap.objs.size+3:=by rw[Cu,y2]
 have y4:(zl4 s.heap l t).objs.size=s.heap.objs.size+4:=by rw[Cu,y3]
 have up:∀{h:Heap}{c:Addr}{o o':Obj},h.get? c=some o->(h.push o').get? c=some o:=λe=>Ap _ e
 have g5:(zl5 s.heap l t).get? (zl4 s.heap l t).objs.size=some _:=AA _ rfl
 have g4:(zl5 s.heap l t).get? (zl3 s.heap l t).objs.size=some _:=up (AA _ rfl)
 have g3:(zl5 s.heap l t).get? (zl2 s.heap l t).objs.size=some _:=up (up (AA _ rfl))
 have g2:(zl5 s.heap l t).get? (zl1 s.heap l).objs.size=some _:=up (up (up (AA _ rfl)))
 have g1:(zl5 s.heap l t).get? s.heap.objs.size=some _:=up (up (up (up (AA _ rfl))))
 rw[y2,y3,y4]at g5
 rw[y1,y2]at g3
 rw[y3]at g4
 rw[y1]at g2
 show _/\_
 rw[y4]
 exact⟨⟨_,g5,rfl⟩,h _ g5 g3 g4 ⟨_,g1,rfl,rfl⟩ ⟨_,g2,rfl,rfl⟩ λc o e=>up (up (up (up (up e))))⟩
end
noncomputable def iZip (K:Ag)(ta:TA):TI:=λσ H R=>ta σ H λvs H1=>∃a b xs ys,vs=[.ref a,.ref b]/\H1 a=some (.lst xs)/\SqT K H1 b ys/\R (Itz K a b) H1
theorem boot_zip':bootBuiltins "zip" = some (.type "zip"):=Ez
theorem pi_zip {X:Cx}{es:List Expr}{kk:_}{pos':Pos}{a b:Expr}{ta:TA}{p pos:Pos}(hg:Gl X "zip")(hm:X.mg "zip" = none)(ha:PA X [a,b] ta)(hs:starEach [a,b] X.env=(false,eval a X.env)::starEach [b] X.env:=by rfl)(hb:(backTo pos (starEach [b] X.env)).any (·.1)=false:=by rfl):PI X (.Tuple es kk pos') (.Call (.Name "zip" p) [a,b] [] pos) (iZip X.K ta):=by
 intro pins s σ H R I h
 refine Call_ (qfl I hg hm boot_zip' (B6 (thn (ha pos pins s σ H _ I h) λus s1 ⟨vs,H1,I1,r1,q1⟩=>?_) hs hb))
 obtain⟨l,t,xs,ys,e,hl,ht,q⟩:=q1
 subst e
 obtain⟨u,v,rfl,hu,hv⟩:=Vals.two r1
 cases qnt hu
 cases qnt hv
 obtain⟨z,its,n,rv,hz,e⟩:=I1.lstM hl
 obtain⟨jts,_,p2,_⟩:=I1.tuple ht
 refine qtd ⟨_,e,rfl,n,rfl⟩ p2 λh' a1 a2 a3 a4 a5 keep=>wpAny_pyIter_zip a1 ?_
 have I2:Inv X pins σ H1 { s1 with heap:=h' }:=I1.kept (t':=s1.toks) keep
 refine⟨s1.heap.objs.size+4,[s1.heap.objs.size+4,s1.heap.objs.size+2,s1.heap.objs.size+3,s1.heap.objs.size,s1.heap.objs.size+1],_,_,H1,rfl,I2,qvk l t _ _ _ _ _ (by simp),⟨a1,a2,⟨_,_,a3⟩,a4,a5⟩,λb hb=>?_,q⟩
 have lb:s1.heap.objs.size<=b:=by
  simp only[An,Ax,or_false]at hb
  rcases hb with rfl|rfl|rfl|rfl|rfl <;>first|exact Nat.le_add_right _ _|exact A3 _
 exact I1.fpOk lb (I1.hok.fresh lb)
section
variable {X:Cx}
theorem qxy {kvs:List (Key×V)}{vs:List (Key×Value)}(h:KV kvs vs):Vals (kvs.map (·.2)) (vs.map (·.2)):=by
 induction h with
 |nil=>exact .nil
 |cons r _ ih=>exact .cons r.2 ih
noncomputable def tLV (te:TE):TE:=λσ H Q=>te σ H λx H1=>∃(d:Addr)(kvs:List (Key×V)),x=.ref d/\H1 d=some (.dK kvs)/\∀q,H1 q=none->Q (.ref q) (upd H1 q (.lst (kvs.map (·.2))))
theorem qo2 {e:Expr}{te:TE}{p apos cpos pos:Pos}(hca:X.calm=true)(hgl:Gl X "list")(hml:X.mg "list" = none)(hbl:bootBuiltins "list" = some (.type "list"))(he:PE X e te)
  (hbase:attributeBase e "values" X.env (eval e X.env)=eval e X.env:=by rfl) (hline:(apos.endLine == cpos.line)=true:=by rfl):PE X (.Call (.Name "list" p) [.Call (.Attribute e "values" apos) [] [] cpos] [] pos) (tLV te):=by
 intro pins s σ H Q I h
 refine BK (qfl I hgl hml hbl ?_)
 refine B6 ?_ rfl rfl
 show wpAny _ _ (spliced ((false,eval (.Call (.Attribute e "values" apos) [] [] cpos) X.env)::[])) _ _ s
 refine D8 ?_
 refine wpAny_Call_method0_late hbase hline (thn (he pins s σ H _ I h) λv s1 ⟨x,H1,I1,r1,q1⟩=>?_)
 obtain⟨d,kvs,rfl,hd,q⟩:=q1
 cases r1
 obtain⟨z,lo,vs,kv,hD⟩:=qrm I1.hok hd
 refine⟨"dict", "dict.values",PySem.F.plainAttrs_dict,PySem.F.slot_dict_values,PySem.F.type_dict_values,hD.typeIs,?_,Calls.callWith_builtin rfl (PySem.evalArgs_none ?_)⟩
 .exact hD.mapOf.noDict
 refine call_meetsIn PySem.F.slot_dict_values hD.typeIs PySem.F.entry_dict_values (PySem.F.args_dict_values_1 _) (meets_dict_values (qb6 X.prog X.w) d lo) ⟨⟨vs,hD⟩,?_⟩
 refine DI ?_
 obtain⟨ep,hat⟩:=hD.dictAt
 have I2:Inv X pins σ H1 { s1 with heap:=s1.heap.push { cls:=.type "dict_values",data:=.fields #[.ref d] } }:=I1.kept (t':=s1.toks) λb o q=>Ap _ q
 refine PySem.W.kdl_call (PySem.W.kdl_values (knd:=qb6 X.prog X.w) (kvs:=vs) (ep:=ep)) (I.ok.hd hca) ⟨⟨_,AA _ rfl,rfl,rfl⟩,hat.push _⟩ (by rw[<- kv.length];exact z) λh' tk acc c kp e ia=>?_
 have ea:acc.toList=vs.map (·.2):=BG λj=>by
  rw[Al]
  by_cases hj:j<vs.length
  .have hja:j<acc.size:=by rw[ia.1];exact hj
   have g:acc[j]?=some acc[j]:=Array.getElem?_eq_getElem hja
   obtain⟨k,hk⟩:=ia.2 j _ g
   rw[DR,g,hk];rfl
  .rw[Bj (by rw[AQ,ia.1];lia),Bj (by lia)];rfl
 have rv:Vals (kvs.map (·.2)) acc.toList:=by rw[ea];exact qxy kv
 exact⟨.ref (s1.heap.push { cls:=.type "dict_values",data:=.fields #[.ref d] }).objs.size,_,I2.laid (t':=tk) kp (A3 _) (show ObjOk X.prog X.w _ h' _ (.lst (kvs.map (·.2))) from ⟨by rw[Ab];exact z,acc.toList,c,rv,by simpa using e⟩),rfl,q _ (I2.hok.fresh (A3 _))⟩
end
theorem qkv {M:Model}{A:Be}{E:Value->Aj->Prop}{s:Aj}{β:Type}{f:Value->β->Sem (ForInStep β)}{b:β}:∀{cs:List Value},(∀c∈cs,∀Q:ForInStep β->Aj->Prop,Q (.yield b) s->wpAny M A (f c b) Q E s)->∀{Q:β->Aj->Prop},Q b s->wpAny M A (forIn cs b f) Q E s
 | [],_,_,h=>by rw[List.forIn_nil];exact A6 h
 |c::cs,hf,Q,h=>by
  rw[Ef]
  exact Af (hf c Am _ (qkv (λd hd=>hf d (Ar _ hd)) h))
theorem exm_no {M:Model}{K:Ag}{cls:Value}{tp e:Addr}{h:Heap}{cs:List Value}(X:K.In h)(LT:BF M h (typeOf (.ref e)) cls)(hp:h.get? tp=some { cls:=.type "tuple",data:=.seq cs.toArray })(hx:∀c∈cs,Ad K cls c=some false) :
  BF M h (excMatches (.ref e) (.ref tp)) false:=by
 intro A Q E s k₀ q
 obtain⟨hh,g,d,tk,os⟩:=s
 have k:∀b o,h.get? b=some o->hh.get? b=some o:=k₀
 have LT0:BF M h (isInstance (.ref tp) (.type "tuple")) true:=((BF.ld hp).andThen .now).andThen (BF.of_pure isSubtype_tuple_tuple)
 have LT:=LT.keeps k
 have LT0:=LT0.keeps k
 have hp':=k _ _ hp
 unfold excMatches
 refine Af (LT0.at ?_)
 dsimp only
 rw[if_pos rfl]
 first
  |refine Af (Cj hp' rfl ?_)
  |refine Af (Af (Cj hp' rfl (A6 ?_)))
 dsimp only[Option.getD_some,Option.getD]
 refine Af (A6 (Af (qkv (λc hc Q hq=>?_) ?_)))
 .obtain⟨e1,_⟩:=PySem.W.exm_cls (M:=M) X (hx c (by simpa using hc))
  refine Af ((e1.keeps k).at ?_)
  simp only[Bool.not_true,Da,if_false]
  exact A6 hq
 .refine Af (LT.at (Af (qkv (λc hc Q hq=>?_) ?_)))
  .obtain⟨_,S1⟩:=PySem.W.exm_cls (M:=M) X (hx c (by simpa using hc))
   refine Af ((S1.keeps k).at ?_)
   simp only[Da,if_false]
   exact A6 hq
  .exact A6 q
noncomputable def PCs (X:Cx)(es:List Expr)(us:List Value):Prop:=∀(e:Value)(E:Value->Aj->Prop)(pos:Pos)(pins:List (Addr×Obj))(s:Aj)(σ:L2.St)(H:Hp)(Q:List Value->Aj->Prop),Inv X pins σ H s->Q us s ->
 wpAny (model X.prog X.w) (X.A.mark (some e)) (spliced (backTo pos (starEach es X.env))) Q E s
section
variable {X:Cx}{t:Expr}{es:List Expr}{c:Value}{us:List Value}{qbm:List ExceptHandler}{tr:TH}{body:List Stmt}{pos pos':Pos}
theorem qxz:PCs X [] []:=λ_ _ _ _ _ _ _ _ _ h=>DI h
theorem qd5 (hc:PC X t c)(hr:PCs X es us)(hs:starEach (t::es) X.env=(false,eval t X.env)::starEach es X.env:=by rfl):PCs X (t::es) (c::us):=by
 intro e E pos pins s σ H Q I h
 rw[hs]
 show wpAny _ _ (spliced ((false,eval t X.env)::backTo pos (starEach es X.env))) _ _ s
 exact D8 (hc e E pins s σ H _ I (hr e E pos pins s σ H _ I h))
noncomputable def hNo (K:Ag)(cs:List Value)(qbm:TH):TH:=λD σ x C od H=>(cs.length<=A5/\∀c∈cs,Ad K (.ref C) c=some false)/\qbm D σ x C od H
theorem ph_no {x1}(hc:PCs X es us)(hr:PH X qbm tr):PH X (.ExceptHandler (some (.Tuple es x1 pos')) none body pos::qbm) (hNo X.K us tr):=by
 intro pins s σ H D x C od I fl has h
 obtain⟨⟨hz,hx⟩,h⟩:=h
 refine wpAny_handleBy_cons (codeAny_handlers_test (wpAny_Tuple_spliced (hc (.ref x) _ pos' pins s σ H _ I ⟨hz,?_⟩))) (by intro q;cases q)
 have I2:Inv X pins σ H { s with heap:=s.heap.push { cls:=.type "tuple",data:=.seq us.toArray } }:=I.kept (t':=s.toks) λb o q=>Ap _ q
 have fl2:qqd X pins H (s.heap.push { cls:=.type "tuple",data:=.seq us.toArray }) x C od:=by
  obtain⟨e,vs,sl,T,oT,ts,h1,h2,h3,h4,h5,h6⟩:=fl
  exact⟨e,vs,sl,T,oT,ts,Ap _ h1,h2,Ap _ h3,h4,h5,h6⟩
 refine(exm_no I2.kIn (qqf fl2) (AA _ rfl) hx).here ?_
 exact hr pins _ σ H D x C od I2 fl2 has h
end
theorem qvm {K:Ag}{js:List (Option Nat)}{g:TG}{te:TE}{σ:L2.St}{H:Hp}{Q:VK}{a b:Addr}{xs ys:List V}(zs:List V)(Sv:L2.St->Prop)(hx:SqL K H a xs)(hy:SqT K H b ys)(le:xs.length=ys.length)(lz:zs.length=xs.length)(hz:xs.length<=A5)(h0:Sv (qfo js σ))
  (step:∀(i:Nat)(x y z:V)(t:Addr)(σ':L2.St)(H':Hp)(R:L2.St->VK),xs[i]?=some x->ys[i]?=some y->zs[i]?=some z->Same H H'->H' t=some (.tup [x,y])->Sv σ'->(∀σ3 H5,Sv σ3->Same H' H5->R σ3 z H5)->g (.ref t) σ' H' λσ3 H3=>te σ3 H3 (R σ3))
  (gk:∀(x:V)(σ':L2.St)(H':Hp)(R R':L2.St->Hp->Prop),(∀σ3 H3,R σ3 H3->R' σ3 H3)->g x σ' H' R->g x σ' H' R')
  (fin:∀p H',H p=none->Same H H'->H' p=some (.lst zs)->Q (.ref p) H'):qiw js g qrp te σ Q (Itz K a b) H:=by
 intro p hp
 refine⟨λi m σ' H'=>m=xs.length-i/\i<=xs.length/\Sv σ'/\Same H H'/\H' p=some (.lst (zs.take i)),⟨xs.length,by simp,B7 _,h0,qao (Same.refl H) hp,by rw[zd];rfl⟩,?_⟩
 rintro i m σ' H' ⟨rfl,hi,hv,sm,hh⟩
 have qx:=sm.seq hx
 have qy:=qs3 sm hy
 by_cases hlt:i<xs.length
 .obtain⟨z,ez⟩:∃z,zs[i]?=some z:=⟨_,Ae (by lia)⟩
  refine .inr ⟨⟨xs,ys,qx,qy,le,hlt⟩,λσ2 H2=>Sv σ2/\Same H H2/\H2 p=some (.lst (zs.take (i+1))),λσ2 H2 ⟨a,b,c⟩=>⟨xs.length-(i+1),by lia,rfl,hlt,a,b,c⟩,λx H2 hy=>?_⟩
  obtain⟨y1,y2,t,e1,e2,ht,rfl,rfl⟩:=hy xs ys qx qy
  have st:Same H' (upd H' t (.tup [y1,y2])):=qao (Same.refl H') ht
  refine gk _ _ _ _ _ (λσ3 H3 z=>?_) (step i y1 y2 z t σ' _ (λσ3 v H5=>∃ys,H5 p=some (.lst ys)/\ys.length<A5/\(Sv σ3/\Same H (upd H5 p (.lst (ys++[v])))/\upd H5 p (.lst (ys++[v])) p=some (.lst (zs.take (i+1))))) e1 e2 ez (sm.trans st) zd hv λσ3 H5 hs3 s5=>?_)
  .exact z
  .refine⟨_,s5 _ _ (st _ _ hh),?_,hs3,qao (sm.trans (st.trans s5)) hp,?_⟩
   .rw[Av];lia
   .rw[zd,DL,ez];rfl
 .have e:i=xs.length:=by lia
  subst e
  refine .inl ⟨⟨xs,qx,rfl⟩,?_⟩
  rw[By (by lia)]at hh
  exact fin p _ hp sm hh
section
variable {X:Cx}
noncomputable def tBS (t:TE):TT:=λσ H Q=>t σ H λx H1=>∃y:Str,x=.str y/\y.length<=A5/\Q (decide (y.length≠0)) H1
theorem qx0 {e:Expr}{t:TE}(h:PE X e t)(he:∀whole,isTrue e X.env whole=(do let v <- whole;standAt e.pos;holding [v] (truthy v)):=by intro _;rfl):PT X e (tBS t):=by
 intro pins s σ H Q I hw
 refine isTrue_plain (thn (h pins s σ H _ I hw) λv s1 ⟨x,H1,I1,r1,q1⟩=>?_) (he _)
 obtain⟨y,rfl,hy,q⟩:=q1
 obtain⟨t',rfl⟩:=r1
 have hs:A5=16777216:=Bp
 refine PySem.P.truthy_str (by lia) ?_
 have e:((y.length:Int) != 0)=decide (y.length≠0):=by
  rw[Cy,bne_iff_ne,decide_eq_true_eq];lia
 rw[e]
 exact⟨H1,I1.tok _,q⟩
theorem qte {X:Cx}:qem X (.builtin "len") (λxs H Q=>∃(d:Addr)(kvs:List (Key×V)),xs=[.ref d]/\H d=some (.dK kvs)/\Q (.int kvs.length) H):=by
 intro pins s σ H xs us Q I r h
 obtain⟨d,kvs,rfl,hd,q⟩:=h
 obtain⟨u,rfl,rx⟩:=qfy r
 cases rx
 obtain⟨z,lo,vs,kv,hD⟩:=qrm I.hok hd
 have hs:A5=16777216:=Bp
 refine PySem.call_len_dict lo hD (by rw[<- kv.length];lia) ?_
 exact⟨.int kvs.length,H,I.tok _,⟨_,by rw[kv.length]⟩,q⟩
end
section
variable {X:Cx}
end
section
variable {prog:AU}{w:World}{A:Be}{E:Value->Aj->Prop}{s:Aj}
end
noncomputable abbrev Hd (x:Addr)(H:Hp):Prop:=∃C od,H x=some (exO x C od false)
section
variable {P:AU}{w:World}{K:Ag}{mg:Str->Option Value}{base:Heap}
end
section
variable {X:Cx}
noncomputable def rNeNil (K:Ag):R2:=λx y H Q=>∃a b xs,x=.ref a/\y=.ref b/\SqL K H a xs/\SqL K H b []/\Q (.bl (!xs.isEmpty)) H
theorem qo3 (hu:X.A.units+64<cLine):OpR X (compareOp .NotEq) (rNeNil X.K):=by
 intro pins s σ H x y v u Q I rx ry h
 obtain⟨a,b,xs,rfl,rfl,ha,hb,q⟩:=h
 cases rx
 cases ry
 obtain⟨its,r1,p1,_⟩:=I.list ha
 obtain⟨its2,r2,p2,_⟩:=I.list hb
 have l1:=r1.length
 have l2:=r2.length
 have l2:0=its2.length:=l2
 cases xs with
 |nil =>
  have l1:0=its.length:=l1
  refine SeqAt.RcNeAt.lists (e:=λ_=>true) p1.isList p2.isList (by rw[Aw,Aw];lia) (by lia) (λj h1 _=>absurd h1 (by rw[Aw];lia)) _ _ _ _ ?_
  rw[qvh]
  exact⟨.bl false,H,I,rfl,q⟩
 |cons z zs =>
  rw[At]at l1
  refine SeqAt.RcNeAt.lists_lengths p1.isList p2.isList (bne_iff_ne.mpr (by rw[Aw,Aw];lia)) (by lia) _ _ _ _ ?_
  exact⟨.bl true,H,I,rfl,q⟩
end
section
variable {X:Cx}
theorem qx1 (l b:Addr)(as bs:Array Value)(n m:Nat)(dd:Option Addr)(ss:Array (Option Value))(h0:¬(!as.isEmpty && AY.List.listTooLong (as.size+bs.size))=true)(h1:as.size<=A5)(h2:as.size+bs.size<=A5+1) :
  Meets (AY.«list.extend» ⟨[.ref l,.ref b],[]⟩) (λ_ R s=>s.heap.get? l=some ⟨.type "list",none,.seq as n,#[]⟩/\s.heap.get? b=some ⟨.type "tuple",dd,.seq bs m,ss⟩/\R (.ok (.ret .none)) { s with heap:=s.heap.update l (D9 λx=>x++bs),toks:=s.toks }):=by
 refine .of_wp λprog w A R s h=>?_
 obtain⟨hp,g,d,tk,os⟩:=s
 obtain⟨hl,hb,h⟩:=h
 have k1:=AutoSeq1.idx_int
 have k2:=AutoSeq1.sub_tuple_tuple
 have k3:=AutoSeq1.sub_list_list
 have k4:=AutoSeq1.sub_tuple_list
 have k5:=AutoSeq1.sub_list_tuple
 have hz':(as++bs).size<=A5+1:=A0 (BZ Array.size_append) h2
 wp_walk using (wpAny_updateSeq hl rfl (hz:=h1) (_hz':=hz')),wpAny_loadPart' hl,wpAny_loadPart' hb
 exact⟨_,rfl,h⟩
noncomputable def qvn (K:Ag):V->List V->Hp->VK->Prop:=λx vs H Q=>∃l b xs zs,x=.ref l/\vs=[.ref b]/\H l=some (.lst xs)/\SqT K H b zs/\xs.length+zs.length<=A5/\Q .non (upd H l (.lst (xs++zs)))
theorem qqi:MtM X "list.extend" (qvn X.K):=by
 intro pins s σ H x vs v us Q I rx rv h
 obtain⟨l,b,xs,zs,rfl,rfl,hH,hB,hz,q⟩:=h
 cases rx
 obtain⟨u,rfl,ru⟩:=rv.one
 cases ru
 obtain⟨z,its,n,r,hl,e⟩:=I.lstM hH
 obtain⟨its2,r2,t2,hz2⟩:=I.tuple hB
 have hl2:=r2.length
 obtain⟨⟨cl,dd,da,ss⟩,e2,rfl,n2,rfl⟩:=t2
 have hsz:its.toArray.size+its2.toArray.size<=A5:=by rw[Aw,Aw];lia
 have hlong:¬(!its.toArray.isEmpty && AY.List.listTooLong (its.toArray.size+its2.toArray.size))=true:=by
  rw[qoi hsz,Dn]
  exact AI
 refine DV F.slot_list_extend ⟨_,e,rfl⟩ F.entry_list_extend (F.args_list_extend_2 _ _)
  (qx1 l b its.toArray its2.toArray n n2 dd ss hlong (by rw[Aw];lia) (by lia)) ⟨e,e2,?_⟩
 refine⟨.non,_,I.lset (its':=its++its2) hH e (by simp) (r.append r2) ?_,rfl,q⟩
 rw[Ah]
 lia
noncomputable def strN:Option Str->V
 |none=>.non
 |some y=>.str y
theorem qtf:qem X (.type "str") (λxs H Q=>∃o:Option Str,xs=[strN o]/\Q (.str (o.getD "None")) H):=by
 intro pins s σ H xs us Q I r h
 obtain⟨o,rfl,q⟩:=h
 cases o with
 |none =>
  obtain⟨u,rfl,e⟩:=qfy r
  cases e
  exact PySem.P.str_of_none ⟨.str _,H,I.tok _,⟨_,rfl⟩,q⟩
 |some y =>
  obtain⟨u,rfl,t,rfl⟩:=qfy r
  exact PySem.P.str_of_str ⟨.str _,H,I,⟨_,rfl⟩,q⟩
end
theorem qvo {js:List (Option Nat)}{g:TG}{te:TE}{J:It}{σ:L2.St}{H:Hp}{Q:VK}{xs:List V}(G:Addr->V->Addr->Hp->Prop)(Gk:∀p x q H H',(∀b o,b≠p->H b=some o->H' b=some o)->G p x q H->G p x q H')(Gn:∀p x q H,G p x q H->H q≠none)
  (Sv:L2.St->Prop) (F:qmq J H xs) (hz:xs.length<=A5) (h0:Sv (qfo js σ))
  (step:∀(p:Addr)(x:V)(σ':L2.St)(H':Hp)(RR:L2.St->VK),x∈xs->H p=none->Same H H'->(∃zs,H' p=some (.lst zs))->Sv σ'->(∀σ3 q H5,Sv σ3->Same H' H5->H' q=none->G p x q H5->RR σ3 (.ref q) H5)->g x σ' H' λσ3 H3=>te σ3 H3 (RR σ3))
  (gk:∀(x:V)(σ':L2.St)(H':Hp)(R R':L2.St->Hp->Prop),(∀σ3 H3,R σ3 H3->R' σ3 H3)->g x σ' H' R->g x σ' H' R')
  (fin:∀(p:Addr)(H':Hp)(qs:List Addr),H p=none->Same H H'->H' p=some (.lst (qs.map V.ref))->qs.length=xs.length->qs.Nodup->(∀(j:Nat)(x:V)(q:Addr),xs[j]?=some x->qs[j]?=some q->G p x q H'/\q≠p/\H q=none)->Q (.ref p) H') :
  qiw js g qrp te σ Q J H:=by
 intro p hp
 refine⟨λi m σ' H'=>m=xs.length-i/\i<=xs.length/\Sv σ'/\Same H H'/\∃ys:List Addr,H' p=some (.lst (ys.map V.ref))/\ys.length=i/\ys.Nodup/\∀(j:Nat)(x:V)(q:Addr),xs[j]?=some x->ys[j]?=some q->G p x q H'/\q≠p/\H q=none,⟨xs.length,by simp,B7 _,h0,qao (Same.refl H) hp,[],zd,rfl,.nil,λj x y _ hy=>by cases hy⟩,?_⟩
 rintro i m σ' H' ⟨rfl,hi,hv,sm,us,hh,hl,nd,tt⟩
 obtain⟨F1,F2⟩:=F _ sm
 by_cases hlt:i<xs.length
 .have ex:xs[i]?=some xs[i]:=by simp[hlt]
  obtain⟨go,yl⟩:=F1 i _ ex
  refine .inr ⟨go,λσ2 H2=>Sv σ2/\Same H H2/\∃ys:List Addr,H2 p=some (.lst (ys.map V.ref))/\ys.length=i+1/\ys.Nodup/\∀(j:Nat)(x:V)(q:Addr),xs[j]?=some x->ys[j]?=some q->G p x q H2/\q≠p/\H q=none,λσ2 H2 ⟨a,b,c⟩=>⟨xs.length-(i+1),by lia,rfl,hlt,a,b,c⟩,λx H2 hy=>?_⟩
  obtain⟨rfl,rfl⟩:=yl x H2 hy
  refine gk _ _ _ _ _ (λσ3 H3 z=>?_) (step p xs[i] σ' _ (λσ3 v H5=>∃zs,H5 p=some (.lst zs)/\zs.length<A5/\(Sv σ3/\Same H (upd H5 p (.lst (zs++[v])))/\∃ys:List Addr,upd H5 p (.lst (zs++[v])) p=some (.lst (ys.map V.ref))/\ys.length=i+1/\ys.Nodup/\∀(j:Nat)(x:V)(q:Addr),xs[j]?=some x->ys[j]?=some q->G p x q (upd H5 p (.lst (zs++[v])))/\q≠p/\H q=none)) (Bq hlt) hp sm ⟨_,hh⟩ hv λσ3 q H5 hs3 s5 nq hq=>?_)
  .exact z
  .have h5:=s5 _ _ hh
   have nqp:q≠p:=λz=>by rw[z,hh]at nq;cases nq
   have keep:∀b o,b≠p->H5 b=some o->upd H5 p (.lst (us.map V.ref++[V.ref q])) b=some o:=λb o n e=>by rw[zh n];exact e
   refine⟨_,h5,?_,hs3,qao (sm.trans s5) hp,us++[q],?_,?_,?_,λj x y hx hyy=>?_⟩
   .rw[Ab];lia
   .rw[zd,Aq];rfl
   .rw[Ah,hl];rfl
   .refine AZ.mpr ⟨nd,List.pairwise_singleton _ _,λa ha b hb e=>?_⟩
    obtain⟨j,hj⟩:=Bb ha
    have lj:=(Ac.mp hj).1
    obtain⟨g1,_⟩:=tt j _ a (Ae (by lia)) hj
    have:=Gn _ _ _ _ g1
    rw[e,Ak.mp hb]at this
    exact this nq
   .by_cases hj:j<us.length
    .rw[AF hj]at hyy
     obtain⟨g1,g2,g3⟩:=tt j x y hx hyy
     exact⟨Gk _ _ _ _ _ (λb o n e=>keep b o n (s5 _ _ e)) g1,g2,g3⟩
    .rw[A9 (Nat.not_lt.mp hj)]at hyy
     have ej:j=i:=by
      have:=(Ac.mp hyy).1
      simp at this
      lia
     subst ej
     rw[hl,Ca]at hyy
     rw[ex]at hx
     cases hx
     cases hyy
     exact⟨Gk _ _ _ _ _ keep hq,nqp,sm.free nq⟩
 .have e:i=xs.length:=by lia
  subst e
  exact .inl ⟨F2,fin p _ us hp sm hh hl nd tt⟩
section
variable {X:Cx}
end
end Add
namespace K48
open PySem L2 Add
noncomputable def top (i:Nat):Stmt:=PySem.Challenge.pw_termcourt_k48_when_all_is_read.main.body.getD i (.Pass ⟨0,0,0,0⟩)
noncomputable abbrev qi0:Stmt:=top 19
noncomputable abbrev qdb:Stmt:=top 18
noncomputable abbrev qnu:Stmt:=top 17
noncomputable abbrev qi1:Stmt:=qec (top 10) 0
noncomputable abbrev qkw:Stmt:=top 22
noncomputable abbrev qe8:Stmt:=top 21
noncomputable abbrev qep:Stmt:=top 28
noncomputable abbrev qj8:Stmt:=top 27
noncomputable abbrev qi2:Stmt:=qec (top 35) 0
noncomputable abbrev qkx:Stmt:=top 37
noncomputable abbrev qky:Stmt:=top 39
noncomputable abbrev qnv:Stmt:=top 38
noncomputable abbrev qb3:Stmt:=qec (top 24) 0
noncomputable abbrev qhk:Stmt:=qec (top 11) 0
noncomputable abbrev qhl:Stmt:=qec (top 9) 0
noncomputable abbrev qi3:Stmt:=top 41
noncomputable abbrev qgi:Stmt:=qec (top 8) 0
noncomputable abbrev qd2:Stmt:=qec (top 24) 3
noncomputable abbrev qkz:Stmt:=top 44
noncomputable abbrev qh3:Stmt:=top 43
noncomputable abbrev qi4:Stmt:=top 42
noncomputable abbrev qk0:Stmt:=top 40
noncomputable abbrev qe9:Stmt:=top 46
noncomputable abbrev qfp:Stmt:=top 45
noncomputable abbrev qgj:Stmt:=qec (top 7) 0
noncomputable abbrev qi5:Stmt:=top 36
noncomputable abbrev qhm:Stmt:=top 48
noncomputable abbrev qi6:Stmt:=top 49
noncomputable abbrev qhn:Stmt:=top 50
noncomputable abbrev qh4:Stmt:=top 51
noncomputable abbrev qh5:Stmt:=top 52
noncomputable abbrev qg0:Stmt:=top 53
noncomputable abbrev qeh:Stmt:=top 54
noncomputable abbrev qk1:Stmt:=top 55
noncomputable abbrev qk2:Stmt:=top 56
noncomputable abbrev qi7:Stmt:=top 57
noncomputable abbrev qi8:Stmt:=top 58
noncomputable abbrev qk3:Stmt:=top 59
noncomputable abbrev qi9:Stmt:=top 60
noncomputable abbrev qja:Stmt:=top 61
noncomputable abbrev qfa:Stmt:=top 62
noncomputable abbrev qjb:Stmt:=top 63
noncomputable abbrev qho:Stmt:=top 64
noncomputable abbrev qhp:Stmt:=top 65
noncomputable abbrev qjc:Stmt:=top 66
noncomputable abbrev qeq:Stmt:=qec (top 35) 1
noncomputable abbrev qqj:Stmt:=top 67
structure DefAt (K:Ag)(mg:Str->Option Value)(x:Str)(st:Stmt)(ps:List Str)(f:Addr)(fd:AH):Prop where
 fn:Fun K x x st f fd
 mgx:mg x=some (.ref f)
 bd:Binds K fd ps []
noncomputable abbrev Pd (K:Ag)(x:Str)(st:Stmt)(f:Addr):Prop:=∃(oc:Value)(od:Option Addr)(kV doc pm:Value)(an:Option Addr)(cdv ct:Value)(osl:Array (Option Value)),AJ K AE x=some (some (.ref f))/\K.lookup f=some ⟨oc,od,.func (Bz x x (qb9 st) (qbq st) (qac st) .none kV doc pm an cdv ct),osl⟩/\BY K cdv x=true/\Bo K (.ref f)=true
noncomputable abbrev Pm (K:Ag)(C:Addr)(x q:Str)(st:Stmt)(f:Addr):Prop:=∃(oc:Value)(od:Option Addr)(kV doc pm:Value)(an:Option Addr)(cdv ct:Value)(osl:Array (Option Value)),AT K (.ref C) x=some (some (.ref f))/\Ci K (.ref f)=some (.type "function")/\K.lookup f=some ⟨oc,od,.func (Bz x q (qb9 st) (qbq st) (qac st) .none kV doc pm an cdv ct),osl⟩/\BY K cdv q=true/\Bo K (.ref f)=true
theorem pd_of {K:Ag}{x:Str}{st:Stmt}{f:Addr}{oc:Value}{od:Option Addr}{kV doc pm:Value}{an:Option Addr}{cdv ct:Value}{osl:Array (Option Value)}(a:AJ K AE x=some (some (.ref f)))(l:K.lookup f=some ⟨oc,od,.func (Bz x x (qb9 st) (qbq st) (qac st) .none kV doc pm an cdv ct),osl⟩)(c:BY K cdv x=true)(k:Bo K (.ref f)=true):Pd K x st f:=⟨oc,od,kV,doc,pm,an,cdv,ct,osl,a,l,c,k⟩
theorem pm_of {K:Ag}{C:Addr}{x q:Str}{st:Stmt}{f:Addr}{oc:Value}{od:Option Addr}{kV doc pm:Value}{an:Option Addr}{cdv ct:Value}{osl:Array (Option Value)}(a:AT K (.ref C) x=some (some (.ref f)))(t:Ci K (.ref f)=some (.type "function"))(l:K.lookup f=some ⟨oc,od,.func (Bz x q (qb9 st) (qbq st) (qac st) .none kV doc pm an cdv ct),osl⟩)(c:BY K cdv q=true)(k:Bo K (.ref f)=true):Pm K C x q st f:=⟨oc,od,kV,doc,pm,an,cdv,ct,osl,a,t,l,c,k⟩
theorem qbh {K:Ag}{h:Heap}{mg:Str->Option Value}{x:Str}{st:Stmt}{f:Addr}(X:K.In h)(G:h.Ns AE mg)(p:Pd K x st f){ps:List Str}(b:∀(kV doc pm:Value) (an:Option Addr) (cdv ct:Value) (us:List Value),us.length=ps.length->bindArgs (Bz x x (qb9 st) (qbq st) (qac st) .none kV doc pm an cdv ct) ⟨us,[]⟩=pure (ps.zip us)):∃fd,DefAt K mg x st ps f fd:=by
 obtain⟨oc,od,kV,doc,pm,an,cdv,ct,osl,a,l,c,k⟩:=p
 have F:=qp6 (st:=st) l c k
 exact⟨_,F,Bc X G a,F.binds b⟩
theorem qjo {K:Ag}{C:Addr}{x q:Str}{st:Stmt}{f:Addr}(p:Pm K C x q st f){ps:List Str}(b:∀(kV doc pm:Value) (an:Option Addr) (cdv ct:Value) (us:List Value),us.length=ps.length->bindArgs (Bz x q (qb9 st) (qbq st) (qac st) .none kV doc pm an cdv ct) ⟨us,[]⟩=pure (ps.zip us)):∃fd,MethAt K x q st ps f fd:=by
 obtain⟨oc,od,kV,doc,pm,an,cdv,ct,osl,a,t,l,c,k⟩:=p
 have F:=qp6 (st:=st) l c k
 exact⟨_,F,F.binds b,t⟩
theorem qgk {p:List Value->Prop}(h:∀x0,p [x0]):∀us,us.length=1->p us:=λus hl=>by obtain⟨x,rfl⟩:=List.length_eq_one_iff.mp hl;exact h x
theorem qx2 {p:List Value->Prop}{n:Nat}(h:∀x t,t.length=n->p (x::t)):∀us,us.length=n+1->p us:=λus hl=>by obtain⟨x,t,rfl⟩:=List.exists_cons_of_length_eq_add_one hl;exact h x t (Db hl)
theorem qh6 {p:List Value->Prop}(h:∀x0 x1,p [x0,x1]):∀us,us.length=2->p us:=qx2 λx=>qgk (h x)
theorem qma {p:List Value->Prop}(h:∀x0 x1 x2,p [x0,x1,x2]):∀us,us.length=3->p us:=qx2 λx=>qh6 (h x)
theorem qvp {p:List Value->Prop}(h:∀x0 x1 x2 x3,p [x0,x1,x2,x3]):∀us,us.length=4->p us:=qx2 λx=>qma (h x)
theorem arg5 {p:List Value->Prop}(h:∀x0 x1 x2 x3 x4,p [x0,x1,x2,x3,x4]):∀us,us.length=5->p us:=qx2 λx=>qvp (h x)
set_option genInjectivity false
set_option genSizeOf false
set_option genSizeOfSpec false
structure Adr where
 nZ:Addr
 nB:AH
 mU:Addr
 lN:AH
 fS:Addr
 pF:AH
 dZ:Addr
 mQ:AH
 nI:Addr
 nJ:AH
 fQ:Addr
 fH:AH
 nX:Addr
 mJ:AH
 fM:Addr
 mB:AH
 fF:Addr
 nR:AH
 hV:Addr
 nP:AH
 lJ:Addr
 mR:AH
 nY:Addr
 fR:AH
 fG:Addr
 fB:AH
 fC:Addr
 fX:AH
 dP:Addr
 fZ:AH
 nK:Addr
 pC:AH
 dX:Addr
 mM:AH
 dU:Addr
 mG:AH
 mL:Addr
 mH:AH
 mF:Addr
 nE:AH
 hU:Addr
 nA:AH
 mV:Addr
 lY:AH
 fY:Addr
 lE:AH
 fT:Addr
 mS:AH
 fE:Addr
 nC:AH
 nV:Addr
 lQ:AH
 mE:Addr
 pB:AH
 fN:Addr
 mK:AH
 fP:Addr
 lA:AH
 fW:Addr
 nG:AH
 lF:Addr
 mW:AH
 fO:Addr
 nU:AH
 lP:Addr
 mC:AH
 mZ:Addr
 pA:AH
 fV:Addr
 lV:AH
 lT:Addr
 nL:AH
 mY:Addr
 mD:AH
 lU:Addr
 nH:AH
 nQ:Addr
 hZ:AH
 nM:Addr
 mO:AH
 mP:Addr
 nN:AH
 nF:Addr
 mT:AH
 lK:Addr
 pG:AH
 fJ:Addr
 nW:AH
 fL:Addr
 fU:AH
 dW:Addr
 lG:AH
 lW:Addr
 hG:AH
 gM:Addr
 kJ:Addr
 kL:Addr
 gF:Addr
 gL:Addr
 gE:Addr
 gC:Addr
 gJ:Addr
 kF:Addr
 gK:Addr
 kE:Addr
 gG:Addr
 kA:Addr
 k7:Addr
 kD:Addr
 k9:Addr
 dY:Addr
 bW:Addr
 bJ:Addr
 gX:Addr
 bQ:Addr
 bO:Addr
 bV:Addr
 bU:Addr
 dF:Addr
structure Txt (K:Ag)(mg:Str->Option Value)(a:Adr):Prop where
 bF:DefAt K mg "is_figure" qi0 ["sign"] a.nZ a.nB
 bS:DefAt K mg "is_written_number" qdb ["text", "most_figures"] a.mU a.lN
 gU:DefAt K mg "number" qnu ["text", "most"] a.fS a.pF
 dQ:MethAt K "__init__" "Ring.__init__" qi1 ["self", "names"] a.dZ a.mQ
 bR:DefAt K mg "untaken" qkw ["name", "bases", "taken"] a.nI a.nJ
 bP:DefAt K mg "hanging_order" qe8 ["rules"] a.fQ a.fH
 bT:DefAt K mg "is_small_letter" qep ["sign"] a.nX a.mJ
 dD:DefAt K mg "is_name" qj8 ["thing"] a.fM a.mB
 lI:MethAt K "__init__" "Book.__init__" qi2 ["self", "rules"] a.fF a.nR
 dG:DefAt K mg "lines_of" qkx ["text"] a.hV a.nP
 bX:DefAt K mg "value_of" qky ["word", "asked"] a.lJ a.mR
 gW:DefAt K mg "row_of" qnv ["line"] a.nY a.fR
 tQ:MethD K "__init__" "Rule.__init__" qb3 ["self", "name", "who", "owes", "opens", "base", "many", "unit", "still"] a.fG a.fB
 dS:MethAt K "__init__" "Twice.__init__" qhk ["self", "name"] a.fC a.fX
 gA:MethAt K "__init__" "Unfit.__init__" qhl ["self", "at"] a.dP a.fZ
 dB:DefAt K mg "read_term" qi3 ["told", "at", "row"] a.nK a.pC
 kS:MethAt K "__init__" "NoTerm.__init__" qgi ["self", "name"] a.dX a.mM
 lC:MethAt K "all_kinds" "Rule.all_kinds" qd2 ["self"] a.dU a.mG
 bD:DefAt K mg "kinds_in" qkz ["row"] a.mL a.mH
 bL:DefAt K mg "is_unfit" qh3 ["rule", "row"] a.mF a.nE
 bN:DefAt K mg "read_more" qi4 ["rule", "at", "row"] a.hU a.nA
 dN:DefAt K mg "read_row" qk0 ["told", "at", "row"] a.mV a.lY
 bA:DefAt K mg "settle_yields" qe9 ["told", "rule", "at", "other"] a.fY a.lE
 dM:DefAt K mg "settle_names" qfp ["told", "at", "row"] a.fT a.mS
 dR:MethAt K "__init__" "NoRule.__init__" qgj ["self", "at"] a.fE a.nC
 kY:DefAt K mg "read_book" qi5 ["text"] a.nV a.lQ
 k8:DefAt K mg "_law_cell_at" qhm ["_law_script", "_law_k"] a.mE a.pB
 kU:DefAt K mg "_law_words" qi6 ["_law_cell", "_law_many"] a.fN a.mK
 dJ:DefAt K mg "_law_yields" qhn ["_law_script", "_law_at", "_law_names"] a.fP a.lA
 dH:DefAt K mg "_law_base" qh4 ["_law_script", "_law_at", "_law_names"] a.fW a.nG
 bC:DefAt K mg "_law_rule" qh5 ["_law_script", "_law_at", "_law_names", "_law_kinds"] a.lF a.mW
 bZ:DefAt K mg "_law_rules" qg0 ["_law_script", "_law_names", "_law_kinds", "_law_most"] a.fO a.nU
 gY:DefAt K mg "_law_sorts" qeh ["_law_rule_here"] a.lP a.mC
 kN:DefAt K mg "_law_rows" qk1 ["_law_rule_here"] a.mZ a.pA
 gB:DefAt K mg "_law_told" qk2 ["_law_text"] a.fV a.lV
 kR:DefAt K mg "_law_right" qi7 ["_law_text", "_law_word", "_law_field"] a.lT a.nL
 bY:DefAt K mg "_law_drawn" qi8 ["_law_script"] a.mY a.mD
 bB:DefAt K mg "_law_ring" qk3 ["_law_text", "_law_name"] a.lU a.nH
 dA:DefAt K mg "_law_heads" qi9 ["_law_rules_here"] a.nQ a.hZ
 bG:DefAt K mg "_law_pairs" qja ["_law_rules_here"] a.nM a.mO
 bM:DefAt K mg "_law_bad_yields" qfa ["_law_way", "_law_cell", "_law_rules_here", "_law_rows_here", "_law_spare"] a.mP a.nN
 dE:DefAt K mg "_law_fault" qjb ["_law_script", "_law_rules_here", "_law_rows_here", "_law_spare"] a.nF a.mT
 dC:DefAt K mg "_law_second" qho ["_law_script", "_law_rules_here", "_law_bad", "_law_spot", "_law_spare"] a.lK a.pG
 bK:DefAt K mg "_law_beside" qhp ["_law_script", "_law_rows_here", "_law_word", "_law_field", "_law_spare"] a.fJ a.nW
 bI:DefAt K mg "_law_alone" qjc ["_law_rules_here", "_law_rows_here", "_law_spare"] a.fL a.fU
 lD:MethAt K "term_names" "Book.term_names" qeq ["self"] a.dW a.lG
 sP:DefAt K mg "law" qqj ["_law_script"] a.lW a.hG
 rE:Binds K a.fB ["self", "name", "who", "owes", "opens", "base", "many", "unit", "still"] [.none]
 tJ:mg "Adrift" = some (.ref a.gM)
 tM:mg "Book" = some (.ref a.kJ)
 gT:Cls K a.kJ
 rZ:Mk K a.kJ a.fF
 bH:xNo K a.kJ ["name", "who", "owes", "opens", "base", "many", "unit", "still", "ends", "anew", "longer", "yields", "order", "by_name", "names", "at"]=true
 tI:Meth K a.kJ "term_names" a.dW
 kM:mg "CourtError" = some (.ref a.kL)
 gQ:XBase K a.kL
 rC:mg "Full" = some (.ref a.gF)
 tG:mg "NoAct" = some (.ref a.gL)
 tF:mg "NoDay" = some (.ref a.gE)
 sM:mg "NoName" = some (.ref a.gC)
 rG:mg "NoRow" = some (.ref a.gJ)
 nO:mg "NoRule" = some (.ref a.kF)
 kO:XA K a.kF (some (.ref a.fE))
 gZ:xNo K a.kF ["name", "who", "owes", "opens", "base", "many", "unit", "still", "ends", "anew", "longer", "yields", "order", "by_name", "names", "at"]=true
 gI:qgg K a.kF [Ao a.kL,BU "ValueError",Ao a.kF,Ao a.kE,Ao a.kD,Ao a.k9,Ao a.kA] [true,true,true,false,false,false,false]=true
 pU:mg "NoTable" = some (.ref a.gK)
 gP:mg "NoTerm" = some (.ref a.kE)
 kK:XA K a.kE (some (.ref a.dX))
 bE:xNo K a.kE ["name", "who", "owes", "opens", "base", "many", "unit", "still", "ends", "anew", "longer", "yields", "order", "by_name", "names", "at"]=true
 gO:qgg K a.kE [Ao a.kL,BU "ValueError",Ao a.kF,Ao a.kE,Ao a.kD,Ao a.k9,Ao a.kA] [true,true,false,true,false,false,false]=true
 pZ:mg "Parted" = some (.ref a.gG)
 gD:mg "Ring" = some (.ref a.kA)
 gN:XA K a.kA (some (.ref a.dZ))
 lO:xNo K a.kA ["name", "who", "owes", "opens", "base", "many", "unit", "still", "ends", "anew", "longer", "yields", "order", "by_name", "names", "at"]=true
 pE:qgg K a.kA [Ao a.kL,BU "ValueError",Ao a.kF,Ao a.kE,Ao a.kD,Ao a.k9,Ao a.kA] [true,true,false,false,false,false,true]=true
 rS:mg "Rule" = some (.ref a.k7)
 kB:Cls K a.k7
 xA:Mk K a.k7 a.fG
 kC:xNo K a.k7 ["name", "who", "owes", "opens", "base", "many", "unit", "still", "ends", "anew", "longer", "yields", "order", "by_name", "names", "at"]=true
 rJ:Meth K a.k7 "all_kinds" a.dU
 dI:mg "Twice" = some (.ref a.kD)
 kT:XA K a.kD (some (.ref a.fC))
 mI:xNo K a.kD ["name", "who", "owes", "opens", "base", "many", "unit", "still", "ends", "anew", "longer", "yields", "order", "by_name", "names", "at"]=true
 dL:qgg K a.kD [Ao a.kL,BU "ValueError",Ao a.kF,Ao a.kE,Ao a.kD,Ao a.k9,Ao a.kA] [true,true,false,false,true,false,false]=true
 kX:mg "Unfit" = some (.ref a.k9)
 kI:XA K a.k9 (some (.ref a.dP))
 kP:xNo K a.k9 ["name", "who", "owes", "opens", "base", "many", "unit", "still", "ends", "anew", "longer", "yields", "order", "by_name", "names", "at"]=true
 fA:qgg K a.k9 [Ao a.kL,BU "ValueError",Ao a.kF,Ao a.kE,Ao a.kD,Ao a.k9,Ao a.kA] [true,true,false,false,false,true,false]=true
 fD:XRaise K a.kF
 sO:Ad K (.ref a.kF) (.ref a.gM)=some false
 rK:Ad K (.ref a.kF) (.ref a.gF)=some false
 r8:Ad K (.ref a.kF) (.ref a.gL)=some false
 sN:Ad K (.ref a.kF) (.ref a.gE)=some false
 rM:Ad K (.ref a.kF) (.ref a.gC)=some false
 tK:Ad K (.ref a.kF) (.ref a.gJ)=some false
 rB:Ad K (.ref a.kF) (.ref a.kF)=some true
 tU:Ad K (.ref a.kF) (.ref a.gK)=some false
 xH:Ad K (.ref a.kF) (.ref a.kE)=some false
 rP:Ad K (.ref a.kF) (.ref a.gG)=some false
 xF:Ad K (.ref a.kF) (.ref a.kA)=some false
 xG:Ad K (.ref a.kF) (.ref a.kD)=some false
 xE:Ad K (.ref a.kF) (.ref a.k9)=some false
 dO:XRaise K a.kE
 tY:Ad K (.ref a.kE) (.ref a.gM)=some false
 sQ:Ad K (.ref a.kE) (.ref a.gF)=some false
 tO:Ad K (.ref a.kE) (.ref a.gL)=some false
 pJ:Ad K (.ref a.kE) (.ref a.gE)=some false
 sF:Ad K (.ref a.kE) (.ref a.gC)=some false
 sS:Ad K (.ref a.kE) (.ref a.gJ)=some false
 pR:Ad K (.ref a.kE) (.ref a.kF)=some false
 pH:Ad K (.ref a.kE) (.ref a.gK)=some false
 rY:Ad K (.ref a.kE) (.ref a.kE)=some true
 tH:Ad K (.ref a.kE) (.ref a.gG)=some false
 xD:Ad K (.ref a.kE) (.ref a.kA)=some false
 xC:Ad K (.ref a.kE) (.ref a.kD)=some false
 xL:Ad K (.ref a.kE) (.ref a.k9)=some false
 sK:XRaise K a.kA
 tV:Ad K (.ref a.kA) (.ref a.gM)=some false
 tL:Ad K (.ref a.kA) (.ref a.gF)=some false
 rT:Ad K (.ref a.kA) (.ref a.gL)=some false
 rA:Ad K (.ref a.kA) (.ref a.gE)=some false
 tX:Ad K (.ref a.kA) (.ref a.gC)=some false
 r6:Ad K (.ref a.kA) (.ref a.gJ)=some false
 pO:Ad K (.ref a.kA) (.ref a.kF)=some false
 sZ:Ad K (.ref a.kA) (.ref a.gK)=some false
 tE:Ad K (.ref a.kA) (.ref a.kE)=some false
 pK:Ad K (.ref a.kA) (.ref a.gG)=some false
 rD:Ad K (.ref a.kA) (.ref a.kA)=some true
 sW:Ad K (.ref a.kA) (.ref a.kD)=some false
 sR:Ad K (.ref a.kA) (.ref a.k9)=some false
 tD:XRaise K a.kD
 pS:Ad K (.ref a.kD) (.ref a.gM)=some false
 tP:Ad K (.ref a.kD) (.ref a.gF)=some false
 rX:Ad K (.ref a.kD) (.ref a.gL)=some false
 rQ:Ad K (.ref a.kD) (.ref a.gE)=some false
 r9:Ad K (.ref a.kD) (.ref a.gC)=some false
 sV:Ad K (.ref a.kD) (.ref a.gJ)=some false
 pM:Ad K (.ref a.kD) (.ref a.kF)=some false
 rH:Ad K (.ref a.kD) (.ref a.gK)=some false
 pT:Ad K (.ref a.kD) (.ref a.kE)=some false
 pX:Ad K (.ref a.kD) (.ref a.gG)=some false
 xK:Ad K (.ref a.kD) (.ref a.kA)=some false
 sG:Ad K (.ref a.kD) (.ref a.kD)=some true
 xJ:Ad K (.ref a.kD) (.ref a.k9)=some false
 kZ:XRaise K a.k9
 sI:Ad K (.ref a.k9) (.ref a.gM)=some false
 rF:Ad K (.ref a.k9) (.ref a.gF)=some false
 sT:Ad K (.ref a.k9) (.ref a.gL)=some false
 rN:Ad K (.ref a.k9) (.ref a.gE)=some false
 rL:Ad K (.ref a.k9) (.ref a.gC)=some false
 pI:Ad K (.ref a.k9) (.ref a.gJ)=some false
 pV:Ad K (.ref a.k9) (.ref a.kF)=some false
 sY:Ad K (.ref a.k9) (.ref a.gK)=some false
 pL:Ad K (.ref a.k9) (.ref a.kE)=some false
 rV:Ad K (.ref a.k9) (.ref a.gG)=some false
 xI:Ad K (.ref a.k9) (.ref a.kA)=some false
 tT:Ad K (.ref a.k9) (.ref a.kD)=some false
 tR:Ad K (.ref a.k9) (.ref a.k9)=some true
 gS:mg "ValueError" = none
 lH:mg "all" = none
 sU:mg "any" = none
 tN:mg "bool" = none
 lR:mg "enumerate" = none
 gR:mg "int" = none
 kH:mg "isinstance" = none
 kG:mg "len" = none
 gH:mg "list" = none
 kQ:mg "range" = none
 fK:mg "reversed" = none
 kW:mg "str" = none
 rW:mg "zip" = none
 pP:∃t,mg "LONGEST_NAME" = some (.int 8 t)
 pY:∃t,mg "MOST_ROWS" = some (.int 40 t)
 tZ:∃t,mg "MOST_TERMS" = some (.int 6 t)
 pQ:∃t,mg "MOST_LONGER_ROWS" = some (.int 2 t)
 tW:mg "UNITS" = some (.ref a.dY)
 sL:∀H,SqT K H a.dY [.str (Aa "days"),.str (Aa "weeks"),.str (Aa "court")]
 tS:mg "FORMS" = some (.ref a.bW)
 lZ:∀H,SqT K H a.bW [.ref a.bJ,.ref a.gX,.ref a.bQ,.ref a.bO,.ref a.bV,.ref a.bU,.ref a.dF]
 rR:∀H,SqT K H a.bJ [.str (Aa "term"),.str (Aa "NAME"),.str (Aa "of"),.str (Aa "NAME"),.str (Aa "due"),.str (Aa "NAME"),.str (Aa "from"),.str (Aa "NAME"),.int 40,.str (Aa "UNIT")]
 pN:∀H,SqT K H a.gX [.str (Aa "term"),.str (Aa "NAME"),.str (Aa "of"),.str (Aa "NAME"),.str (Aa "due"),.str (Aa "NAME"),.str (Aa "behind"),.str (Aa "NAME"),.int 40,.str (Aa "UNIT")]
 sX:∀H,SqT K H a.bQ [.str (Aa "ends"),.str (Aa "NAME"),.str (Aa "NAME")]
 pW:∀H,SqT K H a.bO [.str (Aa "anew"),.str (Aa "NAME"),.str (Aa "NAME")]
 rU:∀H,SqT K H a.bV [.str (Aa "longer"),.str (Aa "NAME"),.str (Aa "NAME"),.int 20,.str (Aa "times"),.int 3]
 rO:∀H,SqT K H a.bU [.str (Aa "still"),.str (Aa "NAME"),.str (Aa "NAME"),.str (Aa "NAME")]
 xB:∀H,SqT K H a.dF [.str (Aa "yields"),.str (Aa "NAME"),.str (Aa "NAME")]
theorem qcw:bootBuiltins "ValueError" = some (.type "ValueError"):=Ez
theorem qo4:bootBuiltins "all" = some (.builtin "all"):=Ez
theorem qvq:bootBuiltins "any" = some (.builtin "any"):=Ez
theorem qtg:bootBuiltins "bool" = some (.type "bool"):=Ez
theorem qgl:bootBuiltins "int" = some (.type "int"):=Ez
theorem qak:bootBuiltins "isinstance" = some (.builtin "isinstance"):=Ez
theorem qap:bootBuiltins "len" = some (.builtin "len"):=Ez
theorem qei:bootBuiltins "list" = some (.type "list"):=Ez
theorem qer:bootBuiltins "str" = some (.type "str"):=Ez
theorem qqk:FnScope ["sign"] ["sign"] (qac qi0):=⟨rfl,rfl,rfl,Ez,rfl,Ez,Ez⟩
theorem qh7:FnScope ["text", "most_figures"] ["text", "most_figures"] (qac qdb):=⟨rfl,rfl,rfl,Ez,rfl,Ez,Ez⟩
theorem qo5:FnScope ["text", "most", "written"] ["text", "most"] (qac qnu):=⟨rfl,rfl,rfl,Ez,rfl,Ez,Ez⟩
theorem qql:FnScope ["self", "names"] ["self", "names"] (qac qi1):=⟨rfl,rfl,rfl,Ez,rfl,Ez,Ez⟩
theorem qg1:FnScope ["name", "bases", "taken", "path", "above"] ["name", "bases", "taken"] (qac qkw):=⟨rfl,rfl,rfl,Ez,rfl,Ez,Ez⟩
theorem qcg:FnScope ["rules", "bases", "rule", "taken"] ["rules"] (qac qe8):=⟨rfl,rfl,rfl,Ez,rfl,Ez,Ez⟩
theorem qj0:FnScope ["sign"] ["sign"] (qac qep):=⟨rfl,rfl,rfl,Ez,rfl,Ez,Ez⟩
theorem qvr:FnScope ["thing"] ["thing"] (qac qj8):=⟨rfl,rfl,rfl,Ez,rfl,Ez,Ez⟩
theorem qk4:FnScope ["self", "rules", "rule"] ["self", "rules"] (qac qi2):=⟨rfl,rfl,rfl,Ez,rfl,Ez,Ez⟩
theorem qth:FnScope ["text"] ["text"] (qac qkx):=⟨rfl,rfl,rfl,Ez,rfl,Ez,Ez⟩
theorem qti:FnScope ["word", "asked"] ["word", "asked"] (qac qky):=⟨rfl,rfl,rfl,Ez,rfl,Ez,Ez⟩
theorem qj9:FnScope ["line", "words", "form", "row"] ["line"] (qac qnv):=⟨rfl,rfl,rfl,Ez,rfl,Ez,Ez⟩
theorem qqm:FnScope ["self", "name", "who", "owes", "opens", "base", "many", "unit", "still"] ["self", "name", "who", "owes", "opens", "base", "many", "unit", "still"] (qac qb3):=⟨rfl,rfl,rfl,Ez,rfl,Ez,Ez⟩
theorem qo6:FnScope ["self", "name"] ["self", "name"] (qac qhk):=⟨rfl,rfl,rfl,Ez,rfl,Ez,Ez⟩
theorem qo7:FnScope ["self", "at"] ["self", "at"] (qac qhl):=⟨rfl,rfl,rfl,Ez,rfl,Ez,Ez⟩
theorem qes:FnScope ["told", "at", "row", "name", "opens", "base", "rule"] ["told", "at", "row"] (qac qi3):=⟨rfl,rfl,rfl,Ez,rfl,Ez,Ez⟩
theorem qnw:FnScope ["self", "name"] ["self", "name"] (qac qgi):=⟨rfl,rfl,rfl,Ez,rfl,Ez,Ez⟩
theorem qgm:FnScope ["self", "kinds"] ["self"] (qac qd2):=⟨rfl,rfl,rfl,Ez,rfl,Ez,Ez⟩
theorem qtj:FnScope ["row"] ["row"] (qac qkz):=⟨rfl,rfl,rfl,Ez,rfl,Ez,Ez⟩
theorem qmz:FnScope ["rule", "row", "taken"] ["rule", "row"] (qac qh3):=⟨rfl,rfl,rfl,Ez,rfl,Ez,Ez⟩
theorem qqn:FnScope ["rule", "at", "row"] ["rule", "at", "row"] (qac qi4):=⟨rfl,rfl,rfl,Ez,rfl,Ez,Ez⟩
theorem qtk:FnScope ["told", "at", "row"] ["told", "at", "row"] (qac qk0):=⟨rfl,rfl,rfl,Ez,rfl,Ez,Ez⟩
theorem qk5:FnScope ["told", "rule", "at", "other"] ["told", "rule", "at", "other"] (qac qe9):=⟨rfl,rfl,rfl,Ez,rfl,Ez,Ez⟩
theorem qhb:FnScope ["told", "at", "row", "rule"] ["told", "at", "row"] (qac qfp):=⟨rfl,rfl,rfl,Ez,rfl,Ez,Ez⟩
theorem qnx:FnScope ["self", "at"] ["self", "at"] (qac qgj):=⟨rfl,rfl,rfl,Ez,rfl,Ez,Ez⟩
theorem qc5:FnScope ["text", "told", "rows", "at", "line", "row"] ["text"] (qac qi5):=⟨rfl,rfl,rfl,Ez,rfl,Ez,Ez⟩
theorem qo8:FnScope ["_law_script", "_law_k"] ["_law_script", "_law_k"] (qac qhm):=⟨rfl,rfl,rfl,Ez,rfl,Ez,Ez⟩
theorem qbk:FnScope ["_law_cell", "_law_many", "_law_some", "_law_size", "_law_at", "_law_primes", "_law_stem", "_law_k", "_law_words_here", "_law_turn", "_law_word"] ["_law_cell", "_law_many"] (qac qi6):=⟨rfl,rfl,rfl,Ez,rfl,Ez,Ez⟩
theorem qc6:FnScope ["_law_script", "_law_at", "_law_names", "_law_cell", "_law_mine", "_law_yields_here", "_law_other", "_law_bit", "_law_theirs"] ["_law_script", "_law_at", "_law_names"] (qac qhn):=⟨rfl,rfl,rfl,Ez,rfl,Ez,Ez⟩
theorem qej:FnScope ["_law_script", "_law_at", "_law_names", "_law_turn", "_law_cell", "_law_ranks", "_law_k", "_law_below"] ["_law_script", "_law_at", "_law_names"] (qac qh4):=⟨rfl,rfl,rfl,Ez,rfl,Ez,Ez⟩
theorem qa7:FnScope ["_law_script", "_law_at", "_law_names", "_law_kinds", "_law_cells", "_law_owed", "_law_rest", "_law_turn", "_law_base_here", "_law_opens", "_law_unit", "_law_longer", "_law_k", "_law_units", "_law_still", "_law_rule_here"] ["_law_script", "_law_at", "_law_names", "_law_kinds"] (qac qh5):=⟨rfl,rfl,rfl,Ez,rfl,Ez,Ez⟩
theorem qdn:FnScope ["_law_script", "_law_names", "_law_kinds", "_law_most", "_law_rules_here", "_law_room", "_law_rule_here", "_law_sort"] ["_law_script", "_law_names", "_law_kinds", "_law_most"] (qac qg0):=⟨rfl,rfl,rfl,Ez,rfl,Ez,Ez⟩
theorem qa5:FnScope ["_law_rule_here", "_law_name", "_law_way", "_law_head", "_law_ends", "_law_anew", "_law_longer", "_law_kind", "_law_units", "_law_times", "_law_row", "_law_still", "_law_yields_here"] ["_law_rule_here"] (qac qeh):=⟨rfl,rfl,rfl,Ez,rfl,Ez,Ez⟩
theorem qg2:FnScope ["_law_rule_here", "_law_rows_here", "_law_sort"] ["_law_rule_here"] (qac qk1):=⟨rfl,rfl,rfl,Ez,rfl,Ez,Ez⟩
theorem qbf:FnScope ["_law_text", "_law_found", "e", "_law_alone_here"] ["_law_text"] (qac qk2):=⟨rfl,rfl,rfl,Ez,rfl,Ez,Ez⟩
theorem qk6:FnScope ["_law_text", "_law_word", "_law_field", "_law_found"] ["_law_text", "_law_word", "_law_field"] (qac qi7):=⟨rfl,rfl,rfl,Ez,rfl,Ez,Ez⟩
theorem qd0:FnScope ["_law_script", "_law_many", "_law_names", "_law_same", "_law_kinds", "_law_rules_here"] ["_law_script"] (qac qi8):=⟨rfl,rfl,rfl,Ez,rfl,Ez,Ez⟩
theorem qm0:FnScope ["_law_text", "_law_name", "_law_found"] ["_law_text", "_law_name"] (qac qk3):=⟨rfl,rfl,rfl,Ez,rfl,Ez,Ez⟩
theorem qet:FnScope ["_law_rules_here", "_law_heads_here", "_law_rows_here", "_law_rule_here"] ["_law_rules_here"] (qac qi9):=⟨rfl,rfl,rfl,Ez,rfl,Ez,Ez⟩
theorem qfq:FnScope ["_law_rules_here", "_law_pairs_here", "_law_one", "_law_other"] ["_law_rules_here"] (qac qja):=⟨rfl,rfl,rfl,Ez,rfl,Ez,Ez⟩
theorem qa9:FnScope ["_law_way", "_law_cell", "_law_rules_here", "_law_rows_here", "_law_spare", "_law_heads_here", "_law_k", "_law_name", "_law_at", "_law_pairs_here", "_law_row", "_law_others", "_law_first"] ["_law_way", "_law_cell", "_law_rules_here", "_law_rows_here", "_law_spare"] (qac qfa):=⟨rfl,rfl,rfl,Ez,rfl,Ez,Ez⟩
theorem qeu:FnScope ["_law_script", "_law_rules_here", "_law_rows_here", "_law_spare", "_law_way", "_law_cell", "_law_at", "_law_row"] ["_law_script", "_law_rules_here", "_law_rows_here", "_law_spare"] (qac qjb):=⟨rfl,rfl,rfl,Ez,rfl,Ez,Ez⟩
theorem qcm:FnScope ["_law_script", "_law_rules_here", "_law_bad", "_law_spot", "_law_spare", "_law_cell", "_law_row", "_law_two", "_law_k", "_law_low"] ["_law_script", "_law_rules_here", "_law_bad", "_law_spot", "_law_spare"] (qac qho):=⟨rfl,rfl,rfl,Ez,rfl,Ez,Ez⟩
theorem qe3:FnScope ["_law_script", "_law_rows_here", "_law_word", "_law_field", "_law_spare", "_law_way", "_law_cell", "_law_at"] ["_law_script", "_law_rows_here", "_law_word", "_law_field", "_law_spare"] (qac qhp):=⟨rfl,rfl,rfl,Ez,rfl,Ez,Ez⟩
theorem qk7:FnScope ["_law_rules_here", "_law_rows_here", "_law_spare", "_law_row"] ["_law_rules_here", "_law_rows_here", "_law_spare"] (qac qjc):=⟨rfl,rfl,rfl,Ez,rfl,Ez,Ez⟩
theorem qj1:FnScope ["self"] ["self"] (qac qeq):=⟨rfl,rfl,rfl,Ez,rfl,Ez,Ez⟩
theorem qdg:FnScope ["_law_script", "_law_rules_here", "_law_spare", "_law_kinds", "_law_rows_here", "_law_rule_here", "_law_at", "_law_row", "_law_word", "_law_field", "_law_bad", "_law_spot", "_law_sooner", "_law_more"] ["_law_script"] (qac qqj):=⟨rfl,rfl,rfl,Ez,rfl,Ez,Ez⟩
seal PySem.Sem.wp
open Add Lay Mrg Tab
theorem useH {p G:Hp->Prop}{R:Prop}(m:(∀x,p x->G x)->R)(l:∀x,p x->G x):R:=m l
theorem use2 {S T:Type}{p G:S->T->Prop}{R:Prop}(m:(∀x y,p x y->G x y)->R)(l:∀x y,p x y->G x y):R:=m l
theorem qfb {c A B:Prop}[Decidable c](hc:c)(h:A):if decide c=true then A else B:=by rw[if_pos (decide_eq_true hc)];exact h
theorem qa0 {c A B:Prop}[Decidable c](hc:¬c)(h:B):if decide c=true then A else B:=by rw[decide_eq_false hc];exact h
theorem qd9 {c A B:Prop}[Decidable c](hc:c)(h:B):if (!decide c)=true then A else B:=by rw[decide_eq_true hc];exact h
theorem zm {H:Hp}{p:Addr}{o:HO}(hp:H p=none):Same H (upd H p o):=λb u e=>by rw[zh (qah e hp)];exact e
theorem alc {H:Hp}{p:Addr}{o:HO}(hp:H p=none):Same H (upd H p o)/\upd H p o p=some o:=⟨zm hp,zd⟩
theorem qan {n:Nat}(h:n<=100000):n<=A5:=by rw[Bp];lia
theorem qde {xs:List V}(h:xs.length<=90000):xs.length<A5:=by rw[Bp];lia
theorem qef:([]:List V).length<=A5:=qan Ex
theorem fit2 (x y:V):[x,y].length<=A5:=qan (show 2<=100000 by decide)
theorem qk8 (x y z:V):[x,y,z].length<=A5:=qan (show 3<=100000 by decide)
theorem atI_of {vs:List V}{k:Int}{j:Nat}{v:V}(h:vs[j]?=some v)(e:k=(j:Int)):atI vs k=some v:=by rw[e];exact qbu h
theorem qk9 (vs:List V)(b:Nat)(h:b<=vs.length):qhf vs none (some (b:Int))=vs.take b:=by
 unfold qhf
 have e1:HT.sIx vs.length 0 none=0:=rfl
 have e2:HT.sIx vs.length vs.length (some (b:Int))=b:=by
  simp only[HT.sIx]
  split <;>lia
 rw[e1,e2]
 simp
theorem qff (vs:List V)(b:Nat)(h:b<=vs.length):qhf vs (some (b:Int)) none=vs.drop b:=by
 unfold qhf
 have e1:HT.sIx vs.length vs.length none=vs.length:=rfl
 have e2:HT.sIx vs.length 0 (some (b:Int))=b:=by
  simp only[HT.sIx]
  split <;>lia
 rw[e1,e2]
 rw[By (by rw[Ba];lia)]
theorem qbb {α:Type}{xs:List α}{i:Nat}{x:α}(h:xs[i]?=some x):xs.take (i+1)=xs.take i++[x]:=by rw[DL,h];rfl
theorem qgn {c A B:Prop}[Decidable c](hc:¬c)(h:A):if (!decide c)=true then A else B:=by rw[decide_eq_false hc];exact h
noncomputable def cell (ns:List Int)(k:Int):Int:=ns.getD k.toNat 0
theorem qvs {ns:List Int}{k:Int}(h0:0<=k)(h:k<((ns.map V.int).length:Int)):atI (ns.map V.int) k=some (V.int (cell ns k)):=by
 rw[Ab]at h
 have hk:k.toNat<ns.length:=(Int.toNat_lt h0).mpr h
 refine atI_of (j:=k.toNat) ?_ (Int.toNat_of_nonneg h0).symm
 rw[Al,Ae hk]
 unfold cell
 rw[AC,Ae hk]
 rfl
theorem qvt {ns:List Int}{k:Int}(h:¬k<((ns.map V.int).length:Int)):cell ns k=0:=by
 rw[Ab]at h
 unfold cell
 rw[AC,Bj (Int.ofNat_le.mp (Int.le_trans (Int.not_lt.mp h) (Int.self_le_toNat k)))]
 rfl
noncomputable def spCell (K:Ag):Sp:=λvs H Q _=>∃(a:Addr)(ns:List Int)(k:Int),vs=[.ref a,.int k]/\SqL K H a (ns.map V.int)/\0<=k/\Q (.int (cell ns k)) H
theorem qgo (x:Str)(xs:List Str):inV (.str x) (xs.map V.str)=xs.contains x:=by
 unfold inV
 rw[List.any_map,List.contains_eq_any_beq]
 congr 1
 funext y
 show (y == x)=(x == y)
 rw[Cy,beq_iff_eq,beq_iff_eq]
 exact eq_comm
theorem qg3 (xs:List Str):(xs.map V.str).all qcr=true:=by rw[CG];exact Bf.mpr λ_ _=>rfl
noncomputable def nm (nms:List Str)(k:Nat):Str:=nms.getD k AS
noncomputable def bo (bs:List (Option Nat))(k:Nat):Option Nat:=bs.getD k none
theorem qhc {nms:List Str}{k:Nat}(h:k<nms.length):nms[k]?=some (nm nms k):=by
 unfold nm
 rw[AC,Ae h]
 rfl
theorem qjd {nms:List Str}(nd:nms.Nodup){j k:Nat}(hj:j<nms.length)(hk:k<nms.length)(e:nm nms j=nm nms k):j=k:=by
 have a:=qhc hj
 rw[e,<- qhc hk]at a
 exact(DN hj nd).mp a
noncomputable def qh8 (nms:List Str):Option Nat->V
 |none=>.non
 |some b=>.str (nm nms b)
noncomputable def DicOk (kvs:List (Key×V))(nms:List Str)(bs:List (Option Nat)):Prop:=∀k<nms.length,qdy kvs (.inr (nm nms k))=some (qh8 nms (bo bs k))
noncomputable def SameBut (x:Addr)(H H':Hp):Prop:=∀b o,b≠x->H b=some o->H' b=some o
theorem SameBut.of {x:Addr}{H H':Hp}(s:Same H H'):SameBut x H H':=λb o _ e=>s b o e
theorem SameBut.trans {x:Addr}{H H1 H2:Hp}(a:SameBut x H H1)(b:SameBut x H1 H2):SameBut x H H2:=λc o n e=>b c o n (a c o n e)
theorem SameBut.set {x:Addr}{H H':Hp}{o:HO}(a:SameBut x H H'):SameBut x H (upd H' x o):=λb u n e=>by rw[zh n];exact a b u n e
theorem SameBut.made {x dx:Addr}{H H':Hp}{o u:HO}(a:SameBut x (upd (upd H dx u) x o) H')(hx:H x=none)(hd:H dx=none):Same H H':=λb v e =>
 a b v (qah e hx) (by rw[zh (qah e hx),zh (qah e hd)];exact e)
theorem SameBut.free {x q:Addr}{H H':Hp}(b:SameBut x H H')(n:q≠x)(h:H' q=none):H q=none:=by
 cases e:H q with
 |none=>rfl
 |some o=>rw[b q o n e]at h;cases h
theorem qx3 {kvs:List (Key×V)}{nms:List Str}{bs:List (Option Nat)}{i:Nat}(nd:nms.Nodup)(hi:i<nms.length)(h:∀k<i,qdy kvs (.inr (nm nms k))=some (qh8 nms (bo bs k))):∀k<i+1,qdy (qfn kvs (.inr (nm nms i)) (qh8 nms (bo bs i))) (.inr (nm nms k))=some (qh8 nms (bo bs k)):=λk hk=>by
 rw[quo]
 by_cases e:k=i
 .subst e
  rw[if_pos rfl]
 .rw[if_neg (λz=>e (qjd nd (by lia) hi (CO.inj z)))]
  exact h k (by lia)
theorem nmV {nms:List Str}{k:Nat}(h:k<nms.length):(nms.map V.str)[k]?=some (.str (nm nms k)):=by rw[Al,qhc h];rfl
theorem rb {n:Nat}(h:n<=1000) : -2 ^ 62<=(n:Int)/\(n:Int)<2 ^ 62:=by lia
noncomputable abbrev bfs (po pd:Addr):List (Str×V):=[(Aa "order",.ref po),(Aa "by_name",.ref pd)]
theorem put1 (f:Str)(u:V):qc3 f u []=[(f,u)]:=rfl
theorem put2 {f g:Str}(u v:V)(h:f≠g):qc3 g v [(f,u)]=[(f,u),(g,v)]:=by unfold qc3;rw[if_neg h];rfl
noncomputable abbrev az:Str:=Aa "abcdefghijklmnopqrstuvwxyz"
theorem az_len:az.length=26:=Ez
theorem qx4:az.cps.toList=(Bl 26).map (λj=>97+j):=Ez
theorem qy5 {j:Nat}(h:j<26):atI az.cps.toList (j:Int)=some (97+j):=qbu (by rw[qx4,Al,D0 h];rfl)
theorem qg4 (x y:Str):(x++y).length=x.length+y.length:=by
 show (x++y).cps.size=_
 rw[Dq,Array.size_append];rfl
noncomputable def wdL (L:List Nat)(n c:Nat):List Nat:=L.take n++c::L.drop (n+1)
theorem qx5 {st:Str}{n c:Nat}(h:n+1<=st.length):Cc st none (some (n:Int))++(⟨#[c]⟩:Str)++Cc st (some ((n:Int)+1)) none=⟨(wdL st.cps.toList n c).toArray⟩:=by
 have hl:st.cps.toList.length=st.length:=AQ
 have e1:Cc st none (some (n:Int))=⟨((st.cps.toList.drop 0).take ((n:Int)-0).toNat).toArray⟩:=PySem.StrLaws.sliceText_to ⟨Int.natCast_nonneg n,by lia⟩
 have e2:Cc st (some ((n:Int)+1)) none=⟨((st.cps.toList.drop ((n:Int)+1).toNat).take ((st.cps.toList.length:Int)-((n:Int)+1)).toNat).toArray⟩:=PySem.StrLaws.sliceText_from ⟨by lia,by lia⟩
 have e3:((n:Int)+1).toNat=n+1:=by lia
 rw[e1,e2,e3,By (l:=st.cps.toList.drop (n+1)) (by rw[Ba];lia)]
 apply Str.ext'
 rw[Dq,Dq]
 show ((st.cps.toList.drop 0).take ((n:Int)-0).toNat).toArray ++ #[c]++(st.cps.toList.drop (n+1)).toArray=_
 unfold wdL
 rw[List.drop_zero,show ((n:Int)-0).toNat=n by lia]
 simp
theorem cut_eq {L:List Nat}{n c:Nat}(h:n<L.length):Cc ⟨(wdL L n c).toArray⟩ none (some ((n:Int)+1))=⟨(L.take n++[c]).toArray⟩:=by
 have lt:(L.take n).length=n:=by rw[Av];lia
 have e1:Cc ⟨(wdL L n c).toArray⟩ none (some ((n:Int)+1))=⟨(((wdL L n c).toArray.toList.drop 0).take ((n:Int)+1-0).toNat).toArray⟩:=PySem.StrLaws.sliceText_to ⟨by lia,by
  show (n:Int)+1<=((wdL L n c).toArray.toList.length:Int)
  rw[List.toList_toArray]
  unfold wdL
  rw[Ah,At,lt]
  lia⟩
 rw[e1,List.toList_toArray,List.drop_zero,show ((n:Int)+1-0).toNat=n+1 by lia]
 unfold wdL
 rw[Dx,lt,By (A0 (BZ lt) (C4 n)),show n+1-n=1 by lia]
 rfl
noncomputable def sgn (t:Int)(e k:Nat):Nat:=97+((t+((k / (1+e):Nat):Int)) % 26).toNat
noncomputable def wdS (L:List Nat)(n e:Nat)(t:Int)(k:Nat):Str:=if e=1/\k % 2=1 then ⟨(L.take n++[sgn t e k]).toArray⟩ else ⟨(wdL L n (sgn t e k)).toArray⟩
theorem qny {x y:List Nat}(h:(⟨x.toArray⟩:Str)=⟨y.toArray⟩):x=y:=by
 have:=congrArg (λz:Str=>z.cps.toList) h
 simpa using this
theorem qx6 {L:List Nat}{n c d:Nat}(h:wdL L n c=wdL L n d):c=d:=by
 unfold wdL at h
 exact(Dh (List.append_cancel_left h)).1
theorem qx7 {t:Int}{e k j:Nat}(he:e<=1)(hk:k / (1+e)<26)(hj:j / (1+e)<26)(h:sgn t e k=sgn t e j):k / (1+e)=j / (1+e):=by
 have h:(t+((k / (1+e):Nat):Int)) % 26=(t+((j / (1+e):Nat):Int)) % 26:=by unfold sgn at h;lia
 generalize k / (1+e)=x at *
 generalize j / (1+e)=y at *
 lia
theorem qx8 {L:List Nat}{n e:Nat}{t:Int}(he:e<=1)(hn:n+1+e<=L.length){k j:Nat}(hk:k / (1+e)<26)(hj:j / (1+e)<26)(h:wdS L n e t k=wdS L n e t j):k=j:=by
 have lt:(L.take n).length=n:=by rw[Av];lia
 have ld:(L.drop (n+1)).length=L.length-(n+1):=Ba
 have key:sgn t e k=sgn t e j/\(e=1->k % 2=j % 2):=by
  unfold wdS at h
  by_cases c1:e=1/\k % 2=1
  .rw[if_pos c1]at h
   by_cases c2:e=1/\j % 2=1
   .rw[if_pos c2]at h
    exact⟨(Dh (List.append_cancel_left (qny h))).1,λ_=>by lia⟩
   .rw[if_neg c2]at h
    have hl:=congrArg Cv (qny h)
    unfold wdL at hl
    rw[Ah,Ah,At,At,Cn,ld]at hl
    lia
  .rw[if_neg c1]at h
   by_cases c2:e=1/\j % 2=1
   .rw[if_pos c2]at h
    have hl:=congrArg Cv (qny h)
    unfold wdL at hl
    rw[Ah,Ah,At,At,Cn,ld]at hl
    lia
   .rw[if_neg c2]at h
    exact⟨qx6 (qny h),λz=>by lia⟩
 have q:=qx7 he hk hj key.1
 rcases (by lia:e=0\/e=1) with z|z
 .rw[z]at q
  simpa using q
 .have:=key.2 z
  rw[z]at q
  lia
theorem wds_nd {L:List Nat}{n e:Nat}{t:Int}(he:e<=1)(hn:n+1+e<=L.length){m:Nat}(hm:∀k,k<m->k / (1+e)<26):((Bl m).map (wdS L n e t)).Nodup:=by
 rw[List.nodup_iff_pairwise_ne,List.pairwise_map]
 refine(List.Pairwise.and_mem.mp (List.nodup_iff_pairwise_ne.mp List.nodup_range)).imp λ{a b} h z=>?_
 have h1:=Dm.mp h.1
 have h2:=Dm.mp h.2.1
 exact h.2.2 (qx8 he hn (hm _ h1) (hm _ h2) z)
theorem sizeB (c:Int):1+c % 2<=1+c % 2+c / 2 % (8-c % 2)/\1+c % 2+c / 2 % (8-c % 2)<=8:=by
 rcases (by lia:c % 2=0\/c % 2=1) with e|e <;>rw[e]
 .rw[show (8:Int)-0=8 from rfl];lia
 .rw[show (8:Int)-1=7 from rfl];lia
noncomputable def prL:List Int:=[100003,100019,100043,100049,100057,100069,100103,100109]
theorem pr_at {k:Nat}(h:k<8):∃p:Int,0<p/\(prL.map V.int)[k]?=some (V.int p):=by
 rcases (by lia:k=0\/k=1\/k=2\/k=3\/k=4\/k=5\/k=6\/k=7) with e|e|e|e|e|e|e|e <;>subst e <;>exact⟨_,Ex,rfl⟩
noncomputable def qr1 (K:Ag):Sp:=λvs H Q _=>∃(a:Addr)(ns:List Int),vs=[.ref a]/\SqL K H a (ns.map V.int)/\ns.length<=63/\∀H',Q (.bl true) H'
section
variable {f:Nat->Option Nat}{n:Nat}
noncomputable def Ch (f:Nat->Option Nat)(is:List Nat)(o:Option Nat):Prop:=∀i k,is[i]?=some k->f k=(is++o.toList)[i+1]?
theorem Ch.snoc {is:List Nat}{j:Nat}(h:Ch f is (some j)):Ch f (is++[j]) (f j):=by
 intro i k e
 by_cases c:i<is.length
 .rw[AF c]at e
  rw[h i k e]
  exact(AF (by show i+1<(is++[j]).length;rw[Ah,Bt];lia)).symm
 .have l:i<(is++[j]).length:=(Ac.mp e).1
  rw[Ah,Bt]at l
  obtain rfl:i=is.length:=by lia
  rw[A9 (A3 _),Ca]at e
  cases e
  rw[A9 (by rw[Ah,Bt];lia),Ah,Bt,Ca]
  cases f j <;>rfl
structure Rg (f:Nat->Option Nat)(n:Nat)(r:List Nat):Prop where
 ne:r≠[]
 nd:r.Nodup
 lt:∀k∈r,k<n
 nx:∀i k,r[i]?=some k->f k=r[(i+1) % r.length]?
theorem ch_rg {is:List Nat}{j i0:Nat}(h:Ch f is (some j))(nd:is.Nodup)(lt:∀k∈is,k<n)(e:is[i0]?=some j):Rg f n (is.drop i0):=by
 have l0:=(Ac.mp e).1
 have ll:(is.drop i0).length=is.length-i0:=Ba
 refine⟨λz=>?_,(List.drop_sublist _ _).nodup nd,λk hk=>lt k (Dr hk),λi k ek=>?_⟩
 .rw[z]at ll;have:0=is.length-i0:=ll;lia
 .have li:=(Ac.mp ek).1
  rw[ll]at li
  rw[Dd]at ek
  rw[h _ k ek,ll]
  by_cases c:i+1<is.length-i0
  .rw[Nat.mod_eq_of_lt c,Dd,AF (by lia),Nat.add_assoc]
  .rw[show i+1=is.length-i0 by lia,Nat.mod_self,Dd,show i0+0=i0 from rfl,e,A9 (by lia),show i0+i+1-is.length=0 by lia];rfl
noncomputable def Od (f:Nat->Option Nat)(os:List Nat):Prop:=∀p k,os[p]?=some k->∀b,f k=some b->b∈os.take p
theorem od_app {os is:List Nat}{o:Option Nat}(h:Od f os)(c:Ch f is o)(ho:∀j,o=some j->j∈os):Od f (os++is.reverse):=by
 intro p k e b eb
 by_cases hp:p<os.length
 .rw[AF hp]at e
  have:=h p k e b eb
  rw[BI (by lia)]
  exact this
 .rw[A9 (by lia)]at e
  have lp:=(Ac.mp e).1
  rw[Dz]at lp
  rw[DS lp]at e
  have g:=c _ k e
  rw[eb]at g
  rw[Dx,Au]
  by_cases z:is.length-1-(p-os.length)+1<is.length
  .rw[AF z]at g
   right
   rw[List.mem_iff_getElem?]
   refine⟨is.length-1-(is.length-1-(p-os.length)+1),?_⟩
   rw[B5 (by lia),DS (by lia),show is.length-1-(is.length-1-(is.length-1-(p-os.length)+1))=is.length-1-(p-os.length)+1 by lia]
   exact g.symm
  .rw[A9 (by lia),show is.length-1-(p-os.length)+1-is.length=0 by lia]at g
   left
   rw[By (by lia)]
   refine ho b ?_
   cases o with
   |none=>cases g
   |some j=>exact g.symm
theorem qvu {l:List Nat}(nd:l.Nodup)(lt:∀k∈l,k<n):l.length<=n:=by
 induction n generalizing l with
 |zero =>
  cases l with
  |nil=>exact A3 _
  |cons a l=>exact absurd (lt a Am) (D6 _)
 |succ n ih =>
  have h:=ih (l:=l.erase n) (nd.erase n) (λk hk=>by
   have h1:=lt k (List.mem_of_mem_erase hk)
   have h2:k≠n:=λz=>by rw[z]at hk;exact nd.not_mem_erase hk
   lia)
  by_cases m:n∈l
  .rw[List.length_erase_of_mem m]at h;lia
  .rw[List.erase_of_not_mem m]at h;lia
end
structure Wr (nms:List Str)(bs:List (Option Nat)):Prop where
 nd:nms.Nodup
 len:bs.length=nms.length
 sm:nms.length<=6
 ok:∀k b,bo bs k=some b->b<nms.length
theorem qbl {H H':Hp}{x:Addr}{o0:HO}(hx:H x=none)(keep:∀b o,b≠x->upd H x o0 b=some o->H' b=some o):Same H H':=λb o e=>keep b o (qah e hx) (by rw[zh (qah e hx)];exact e)
noncomputable def spIL (K:Ag):Sp:=λvs H Q _=>∃(x C l:Addr)(zs:List V)(ini:Option Value),vs=[.ref x,.ref l]/\H x=some (exO x C none true)/\SqL K H l zs/\XA K C ini/\AT K (.ref C) "names" = some none /\
 ∀(dx l':Addr)(H':Hp),H dx=none->H l'=none->(∀b o,b≠x->H b=some o->H' b=some o)->H' x=some (exO x C (some dx) true)->H' dx=some (exD dx [("names",.ref l')])->H' l'=some (.lst zs)->Q .non H'
noncomputable def OutR (a:Adr)(nms:List Str)(bs:List (Option Nat))(H:Hp)(E:XK):Prop:=∀(x d l:Addr)(H':Hp)(r:List Nat),Same H H'->H' x=some (exO x a.kA (some d) false)->H' d=some (exD d [("names",.ref l)])->H' l=some (.lst ((r.map (nm nms)).map V.str))->Rg (bo bs) nms.length r->E (.ref x) (some d) H'
theorem OutR.same {a:Adr}{nms:List Str}{bs:List (Option Nat)}{H H':Hp}{E:XK}(o:OutR a nms bs H E)(s:Same H H'):OutR a nms bs H' E:=λx d l H2 r z=>o x d l H2 r (s.trans z)
noncomputable def spUn7 (a:Adr):Sp:=λvs H Q E=>∃(d t:Addr)(kvs:List (Key×V))(nms:List Str)(bs:List (Option Nat))(os:List Nat)(k:Nat),vs=[.str (nm nms k),.ref d,.ref t]/\H d=some (.dK kvs)/\H t=some (.lst ((os.map (nm nms)).map V.str))/\Wr nms bs/\(∀j∈os,j<nms.length)/\k<nms.length/\DicOk kvs nms bs /\
 (∀(q:Addr)(H':Hp)(is:List Nat)(o:Option Nat),H q=none->Same H H'->H' q=some (.lst ((is.map (nm nms)).map V.str))->Ch (bo bs) is o->is.Nodup->(∀j∈is,j<nms.length/\j∉os)->(is++o.toList)[0]?=some k->(∀j,o=some j->j∈os)->Q (.ref q) H')/\OutR a nms bs H E
theorem qnz {nms:List Str}{os:List Nat}{j:Nat}(nd:nms.Nodup)(lt:∀k∈os,k<nms.length)(hj:j<nms.length):(os.map (nm nms)).contains (nm nms j)=true↔j∈os:=by
 rw[CA,AM]
 constructor
 .rintro⟨k,hk,e⟩
  rw[<- qjd nd (lt k hk) hj e];exact hk
 .exact λh=>⟨j,h,rfl⟩
theorem nm_ix {nms:List Str}{os:List Nat}{j:Nat}(nd:nms.Nodup)(lt:∀k∈os,k<nms.length)(hj:j<nms.length)(ndo:os.Nodup)(h:j∈os):∃i:Nat,os[i]?=some j/\(os.map (nm nms))[i]?=some (nm nms j)/\∀m,m<i->(os.map (nm nms))[m]? ≠ some (nm nms j):=by
 obtain⟨i,hi,e⟩:=List.getElem_of_mem h
 have e:os[i]?=some j:=by rw[Ae hi,e]
 refine⟨i,e,by rw[Al,e];rfl,λm hm z=>?_⟩
 rw[Al]at z
 cases em:os[m]? with
 |none=>rw[em]at z;cases z
 |some k =>
  rw[em]at z
  have:=qjd nd (lt k (Ai em)) hj (AD z)
  rw[this,<- e]at em
  have:=(DN (by lia) ndo).mp em
  lia
noncomputable def Ru (C:Addr)(H:Hp)(v:V)(x:Str)(b:V):Prop:=∃(p dx:Addr)(fs:List (Str×V)),v=.ref p/\H p=some (.ins C dx fs)/\fs.lookup (Aa "name")=some (.str x)/\fs.lookup (Aa "base")=some b
theorem Ru.keep {C:Addr}{H H':Hp}{v:V}{x:Str}{b:V}(h:Ru C H v x b)(k:KeepN H H'):Ru C H' v x b:=by
 obtain⟨p,dx,fs,e,h1,h2⟩:=h
 exact⟨p,dx,fs,e,k _ _ (λl z=>by cases z) h1,h2⟩
theorem Ru.same {C:Addr}{H H':Hp}{v:V}{x:Str}{b:V}(h:Ru C H v x b)(s:Same H H'):Ru C H' v x b:=h.keep (KeepN.of s)
noncomputable def Rus (C:Addr)(H:Hp)(us:List V)(nms:List Str)(bs:List (Option Nat)):Prop:=us.length=nms.length/\∀(j:Nat)(y:V),us[j]?=some y->Ru C H y (nm nms j) (qh8 nms (bo bs j))
noncomputable def spHa7 (a:Adr):Sp:=λvs H Q E=>∃(pr:Addr)(us:List V)(nms:List Str)(bs:List (Option Nat)),vs=[.ref pr]/\H pr=some (.lst us)/\Rus a.k7 H us nms bs/\Wr nms bs /\
 (∀(q:Addr)(H':Hp)(os:List Nat),H q=none->Same H H'->H' q=some (.lst ((os.map (nm nms)).map V.str))->os.Nodup->(∀j∈os,j<nms.length)->Od (bo bs) os->(∀j,j<nms.length->j∈os)->Q (.ref q) H')/\OutR a nms bs H E
theorem ch_hd {is:List Nat}{o:Option Nat}{k:Nat}{os:List Nat}(st:(is++o.toList)[0]?=some k)(ho:∀j,o=some j->j∈os):k∈os++is.reverse:=by
 rw[Au,DY]
 cases is with
 |nil =>
  left
  cases o with
  |none=>cases st
  |some j=>exact ho k (by rw[<- show some j=some k from st])
 |cons j is =>
  right
  rw[<- show j=k from AD st]
  exact Am
structure Ors (bs:List (Option Nat))(n:Nat)(os:List Nat):Prop where
 nd:os.Nodup
 lt:∀j∈os,j<n
 od:Od (bo bs) os
 al:∀j,j<n->j∈os
open Wri
noncomputable abbrev ts (n:Int):Str:=Aa (toString n)
theorem le_0 (c:Nat):(!decide ((⟨#[c]⟩:Str).cps.toList<(Aa "0").cps.toList))=decide (48<=c):=by
 have e:(Aa "0").cps.toList=[48]:=Ez
 rw[e]
 show (!decide ([c]<[48]))=decide (48<=c)
 by_cases h:48<=c
 .have n:¬ [c]<[48]:=by simp[BP];lia
  simp[n,h]
 .have n:[c]<[48]:=by simp[BP];lia
  simp[n,h]
theorem le_9 (c:Nat):(!decide ((Aa "9").cps.toList<(⟨#[c]⟩:Str).cps.toList))=decide (c<=57):=by
 have e:(Aa "9").cps.toList=[57]:=Ez
 rw[e]
 show (!decide ([57]<[c]))=decide (c<=57)
 by_cases h:c<=57
 .have n:¬ [57]<[c]:=by simp[BP];lia
  simp[n,h]
 .have n:[57]<[c]:=by simp[BP];lia
  simp[n,h]
theorem nought:Aa "0" = ⟨#[48]⟩:=Ez
theorem qx9 (x:Str):Txt.startswith x (Aa "0")=decide (x.cps.toList.head?=some 48):=by
 rw[nought,List.head?_eq_getElem?]
 have:=StrLaws.subAt_one x 48 0
 unfold Txt.startswith
 rw[Cy,decide_eq_true_eq,<- this,AN,decide_eq_true_eq]
theorem nbF {b:Bool}(h:(!b)=true):b=false:=by cases b with|false=>rfl|true=>cases h
theorem nbT {b:Bool}(h:¬(!b)=true):b=true:=by cases b with|true=>rfl|false=>exact absurd rfl h
noncomputable def spFig:Sp:=λvs H Q _=>∃c:Nat,vs=[.str ⟨#[c]⟩]/\Q (.bl (fig c)) H
noncomputable def wnm (x:Str)(m:Int):Bool:=(decide (1<=x.cps.size) && decide ((x.cps.size:Int)<=m)) && (x.cps.toList.all fig && Wri.plain x)
noncomputable def spWn:Sp:=λvs H Q _=>∃(x:Str)(m:Int),vs=[.str x,.int m]/\x.length<=100000/\∀H',Same H H'->Q (.bl (wnm x m)) H'
theorem log_ok {n:Int}(k:Nat)(hk:(10:Nat) ^ k<2 ^ 1920)(h0:0<=n)(h:n<10 ^ k):n.natAbs.log2<1920:=by
 by_cases z:n.natAbs=0
 .rw[z];decide
 .rw[Nat.log2_lt z]
  have:n.natAbs<10 ^ k:=by
   have e:((n.natAbs:Nat):Int)=n:=Int.natAbs_of_nonneg h0
   have:((n.natAbs:Nat):Int)<((10 ^ k:Nat):Int):=by rw[e,Int.natCast_pow];exact h
   exact Int.ofNat_lt.mp this
  exact Nat.lt_trans this hk
theorem ts_len {n:Int}{k:Nat}(h0:0<=n)(hk:0<k)(h:n<10 ^ k):(ts n).length<=k:=PyProof.Rows.toString_length_le h0 hk h
noncomputable def due (x:Str)(m:Int):Bool:=wnm x ((ts m).length:Nat) && (decide (1<=nv x) && decide (nv x<=m))
noncomputable def qvv:Sp:=λvs H Q _=>∃(x:Str)(m:Int),vs=[.str x,.int m]/\x.length<=50000/\1<=m/\m<10 ^ 62/\(due x m=true->∀H',Same H H'->Q (.int (nv x)) H')/\(due x m=false->∀H',Same H H'->Q .non H')
noncomputable def low (c:Nat):Bool:=decide (97<=c) && decide (c<=122)
noncomputable def spLow:Sp:=λvs H Q _=>∃c:Nat,vs=[.str ⟨#[c]⟩]/\Q (.bl (low c)) H
theorem le_a (c:Nat):(!decide ((⟨#[c]⟩:Str).cps.toList<(Aa "a").cps.toList))=decide (97<=c):=by
 have e:(Aa "a").cps.toList=[97]:=Ez
 rw[e]
 show (!decide ([c]<[97]))=decide (97<=c)
 by_cases h:97<=c
 .have n:¬ [c]<[97]:=by simp[BP];lia
  simp[n,h]
 .have n:[c]<[97]:=by simp[BP];lia
  simp[n,h]
theorem le_z (c:Nat):(!decide ((Aa "z").cps.toList<(⟨#[c]⟩:Str).cps.toList))=decide (c<=122):=by
 have e:(Aa "z").cps.toList=[122]:=Ez
 rw[e]
 show (!decide ([122]<[c]))=decide (c<=122)
 by_cases h:c<=122
 .have n:¬ [122]<[c]:=by simp[BP];lia
  simp[n,h]
 .have n:[122]<[c]:=by simp[BP];lia
  simp[n,h]
noncomputable def qbs (x:Str):Prop:=1<=x.cps.size/\x.cps.size<=8/\x.cps.toList.all low=true
noncomputable abbrev wS (s:String):Str:=Aa s
theorem iteT' {c:Prop}[Decidable c]{A B:Prop}(h:c)(a:A):if c then A else B:=by rw[if_pos h];exact a
theorem qr2:wS " " = ⟨#[32]⟩:=Ez
theorem qya {x:Str}(h:qbs x){c:Nat}(hc:c<97):c∉x.cps.toList:=λz=>by
 have:=Bf.mp h.2.2 c z
 unfold low at this
 simp only[AN,decide_eq_true_eq]at this
 lia
noncomputable def qev (ls:List Str):Str:=DM ⟨#[10]⟩ ls
theorem newl:wS "\n" = ⟨#[10]⟩:=Ez
noncomputable def qd8:Option Str->V
 |none=>.non
 |some y=>.str y
theorem iteF' {c:Prop}[Decidable c]{A B:Prop}(h:¬c)(a:B):if c then A else B:=by rw[if_neg h];exact a
theorem str_ext {x y:Str}(h:x.cps.toList=y.cps.toList):x=y:=by
 cases x;cases y
 simp only at h
 exact congrArg Str.mk (Array.toList_inj.mp h)
theorem qch (x y:Str):(x++y).cps.toList=x.cps.toList++y.cps.toList:=by rw[Dq,Ek]
theorem wds_ok {L:List Nat}{n e:Nat}{t:Int}(hL:L.all low=true)(hn:n+1<=L.length)(h8:L.length<=8)(k:Nat):qbs (wdS L n e t k):=by
 have sg:low (sgn t e k)=true:=by
  unfold low sgn
  rw[decide_eq_true (show 97<=97+_ by lia),decide_eq_true (show 97+((t+((k / (1+e):Nat):Int)) % 26).toNat<=122 by lia)];rfl
 have tk:∀m,(L.take m).all low=true:=λm=>Bf.mpr λx hx=>Bf.mp hL x (CI hx)
 have dr:∀m,(L.drop m).all low=true:=λm=>Bf.mpr λx hx=>Bf.mp hL x (Dr hx)
 unfold wdS
 split
 .refine⟨?_,?_,?_⟩
  .show 1<=(L.take n++[sgn t e k]).toArray.size
   rw[Aw,Ah,Bt];lia
  .show (L.take n++[sgn t e k]).toArray.size<=8
   rw[Aw,Ah,Bt,Av];lia
  .show (L.take n++[sgn t e k]).all low=true
   rw[List.all_append,tk,Dg,sg];rfl
 .refine⟨?_,?_,?_⟩
  .show 1<=(wdL L n (sgn t e k)).toArray.size
   rw[Aw];unfold wdL;rw[Ah,At];lia
  .show (wdL L n (sgn t e k)).toArray.size<=8
   rw[Aw];unfold wdL;rw[Ah,At,Av,Ba];lia
  .show (wdL L n (sgn t e k)).all low=true
   unfold wdL;rw[List.all_append,tk,Dg,sg,dr];rfl
noncomputable def spWo7:Sp:=λvs H Q _=>∃(c:Int)(m:Nat),vs=[.int c,.int (m:Int)]/\(m<=26\/(c % 2=1/\m<=52))/\∀(q:Addr)(H':Hp)(nms:List Str),H q=none->Same H H'->H' q=some (.lst (nms.map V.str))->nms.length=m->nms.Nodup->(∀x∈nms,qbs x)->Q (.ref q) H'
theorem low26 {j:Nat}(h:j<26):low (97+j)=true:=by
 unfold low
 rw[decide_eq_true (by lia),decide_eq_true (by lia)];rfl
noncomputable abbrev rlF (nm w o op b m u s pe pa pl py:V):List (Str×V):=[(Aa "name",nm),(Aa "who",w),(Aa "owes",o),(Aa "opens",op),(Aa "base",b),(Aa "many",m),(Aa "unit",u),(Aa "still",s),(Aa "ends",pe),(Aa "anew",pa),(Aa "longer",pl),(Aa "yields",py)]
noncomputable abbrev rq1 (a1:V):List (Str×V):=[(Aa "name",a1)]
noncomputable abbrev rq2 (a1 a2:V):List (Str×V):=rq1 a1++[(Aa "who",a2)]
noncomputable abbrev rq3 (a1 a2 a3:V):List (Str×V):=rq2 a1 a2++[(Aa "owes",a3)]
noncomputable abbrev rq4 (a1 a2 a3 a4:V):List (Str×V):=rq3 a1 a2 a3++[(Aa "opens",a4)]
noncomputable abbrev rq5 (a1 a2 a3 a4 a5:V):List (Str×V):=rq4 a1 a2 a3 a4++[(Aa "base",a5)]
noncomputable abbrev rq6 (a1 a2 a3 a4 a5 a6:V):List (Str×V):=rq5 a1 a2 a3 a4 a5++[(Aa "many",a6)]
noncomputable abbrev rq7 (a1 a2 a3 a4 a5 a6 a7:V):List (Str×V):=rq6 a1 a2 a3 a4 a5 a6++[(Aa "unit",a7)]
noncomputable abbrev rq8 (a1 a2 a3 a4 a5 a6 a7 a8:V):List (Str×V):=rq7 a1 a2 a3 a4 a5 a6 a7++[(Aa "still",a8)]
noncomputable abbrev rq9 (a1 a2 a3 a4 a5 a6 a7 a8 a9:V):List (Str×V):=rq8 a1 a2 a3 a4 a5 a6 a7 a8++[(Aa "ends",a9)]
noncomputable abbrev qqo (a1 a2 a3 a4 a5 a6 a7 a8 a9 a10:V):List (Str×V):=rq9 a1 a2 a3 a4 a5 a6 a7 a8 a9++[(Aa "anew",a10)]
noncomputable abbrev qo9 (a1 a2 a3 a4 a5 a6 a7 a8 a9 a10 a11:V):List (Str×V):=qqo a1 a2 a3 a4 a5 a6 a7 a8 a9 a10++[(Aa "longer",a11)]
noncomputable abbrev qqp (a1 a2 a3 a4 a5 a6 a7 a8 a9 a10 a11 a12:V):List (Str×V):=qo9 a1 a2 a3 a4 a5 a6 a7 a8 a9 a10 a11++[(Aa "yields",a12)]
noncomputable def qqq (r:Str×Int×Int):List V:=[.str r.1,.int r.2.1,.int r.2.2]
noncomputable def StAt (H:Hp)(v:V):Option (Str×Str)->Prop
 |none=>v=.non
 |some s=>∃p,v=.ref p/\H p=some (.tup [.str s.1,.str s.2])
theorem StAt.same {H H':Hp}{v:V}{o:Option (Str×Str)}(h:StAt H v o)(z:Same H H'):StAt H' v o:=by
 cases o with
 |none=>exact h
 |some s=>obtain⟨p,h1,h2⟩:=h;exact⟨p,h1,z _ _ h2⟩
noncomputable def qyb (K:Ag)(f:Str):Sp:=λvs H Q _=>∃(x C:Addr)(y:V)(ini:Option Value),vs=[.ref x,y]/\H x=some (exO x C none true)/\XA K C ini/\AT K (.ref C) f=some none /\
 ∀(dx:Addr)(H':Hp),H dx=none->(∀b o,b≠x->H b=some o->H' b=some o)->H' x=some (exO x C (some dx) true)->H' dx=some (exD dx [(f,y)])->Q .non H'
noncomputable def nmB (x:Str):Bool:=(decide (1<=x.cps.size) && decide (x.cps.size<=8)) && x.cps.toList.all low
theorem qdo {x:Str}:nmB x=true↔qbs x:=by
 unfold nmB qbs
 rw[AN,AN,decide_eq_true_eq,decide_eq_true_eq,and_assoc]
noncomputable def spNmG:Sp:=λvs H Q _=>∃x:Str,vs=[.str x]/\x.length<=2000/\∀H',Same H H'->Q (.bl (nmB x)) H'
noncomputable def qci:List Str:=[wS "days",wS "weeks",wS "court"]
inductive Ask where
 |num (m:Int)
 |name
 |unit
 |lit (c:Str)
noncomputable def askV:Ask->V
 |.num m=>.int m
 |.name=>.str (wS "NAME")
 |.unit=>.str (wS "UNIT")
 |.lit c=>.str c
noncomputable def qvw:Ask->Prop
 |.num m=>1<=m/\m<10 ^ 62
 |.name=>True
 |.unit=>True
 |.lit c=>c≠wS "NAME" /\ c≠wS "UNIT"
noncomputable def qdh (w:Str):Ask->Option V
 |.num m=>if due w m=true then some (.int (nv w)) else none
 |.name=>if nmB w=true then some (.str w) else none
 |.unit=>if qci.contains w=true then some (.str w) else none
 |.lit c=>if w=c then some (.str w) else none
noncomputable def spValG:Sp:=λvs H Q _=>∃(w:Str)(q:Ask),vs=[.str w,askV q]/\qvw q/\w.length<=2000/\∀H',Same H H'->Q ((qdh w q).getD .non) H'
noncomputable def qcl:List Str->List Ask->Option (List V)
 | [],[]=>some []
 |w::ws,q::qs=>(qdh w q).bind λv=>(qcl ws qs).map (v :: ·)
 |_,_=>none
noncomputable def qdx (d:Str):List Ask:=[.lit (wS "term"),.name,.lit (wS "of"),.name,.lit (wS "due"),.name,.lit d,.name,.num 40,.unit]
noncomputable def qla:List (List Ask):=[qdx (wS "from"),qdx (wS "behind"),[.lit (wS "ends"),.name,.name],[.lit (wS "anew"),.name,.name],[.lit (wS "longer"),.name,.name,.num 20,.lit (wS "times"),.num 3],[.lit (wS "still"),.name,.name,.name],[.lit (wS "yields"),.name,.name]]
noncomputable def qh9 (ws:List Str):Option (List V):=qla.findSome? (qcl ws)
noncomputable def zsG (ws:List Str)(f:List Ask):List V:=(ws.zip f).map λp=>(qdh p.1 p.2).getD .non
theorem qyc {ws:List Str}{f:List Ask}(h:ws.length=f.length):(zsG ws f).length=ws.length:=by
 unfold zsG;rw[Ab,List.length_zip,h,Nat.min_self]
theorem qm1 (w:Str)(q:Ask):qcr ((qdh w q).getD .non)=true/\(qdh w q=none->(qdh w q).getD .non=.non)/\∀v,qdh w q=some v->eqV v .non=false:=by
 cases q <;>(unfold qdh;dsimp only;split <;>exact⟨rfl,λz=>(by first|rfl|cases z),λv z=>by first | (cases z;rfl)|cases z⟩)
theorem qvx (ws:List Str)(f:List Ask):(zsG ws f).all qcr=true:=by
 unfold zsG
 rw[CG,Bf]
 exact λp _=>(qm1 p.1 p.2).1
theorem qr3:∀{ws:List Str}{f:List Ask},ws.length=f.length->qcl ws f=if inV .non (zsG ws f)=true then none else some (zsG ws f)
 | [],[],_=>rfl
 |w::ws,q::qs,h=>by
  have ih:=qr3 (ws:=ws) (f:=qs) (Db h)
  obtain⟨_,h1,h2⟩:=qm1 w q
  have e:inV .non (zsG (w::ws) (q::qs))=(eqV ((qdh w q).getD .non) .non || inV .non (zsG ws qs)):=by
   unfold inV zsG
   rw[List.zip_cons_cons,A4,D4]
  rw[e]
  show (qdh w q).bind (λv=>(qcl ws qs).map (v :: ·))=_
  cases ev:qdh w q with
  |none=>rfl
  |some v =>
   have:=h2 v ev
   show (qcl ws qs).map (v :: ·)=if (eqV v .non || inV .non (zsG ws qs))=true then none else some (zsG (w::ws) (q::qs))
   rw[this,Bool.false_or,ih]
   have ez:zsG (w::ws) (q::qs)=v::zsG ws qs:=by unfold zsG;rw[List.zip_cons_cons,A4,ev];rfl
   rw[ez]
   split <;>rfl
theorem qax:∀{ws:List Str}{f:List Ask},ws.length≠f.length->qcl ws f=none
 | [],[],h=>absurd rfl h
 | [],_::_,_=>rfl
 |_::_,[],_=>rfl
 |w::ws,q::qs,h=>by
  show (qdh w q).bind (λv=>(qcl ws qs).map (v :: ·))=none
  rw[qax (λz=>h (by rw[At,At,z]))]
  cases qdh w q <;>rfl
theorem qvy:∀f∈qla,∀q∈f,qvw q:=by
 have t:∀d,d≠wS "NAME" -> d≠wS "UNIT" -> ∀q∈qdx d,qvw q:=λd h1 h2 q hq=>by
  simp only[qdx,An,Ax,or_false]at hq
  rcases hq with rfl|rfl|rfl|rfl|rfl|rfl|rfl|rfl|rfl|rfl
  all_goals first|trivial|exact⟨h1,h2⟩|exact⟨Ex,Ex⟩|exact⟨Ez,Ez⟩
 intro f hf
 simp only[qla,An,Ax,or_false]at hf
 rcases hf with rfl|rfl|rfl|rfl|rfl|rfl|rfl
 .exact t _ Ez Ez
 .exact t _ Ez Ez
 .intro q hq
  simp only[An,Ax,or_false]at hq
  rcases hq with rfl|rfl|rfl
  all_goals first|trivial|exact⟨Ex,Ex⟩|exact⟨Ez,Ez⟩
 .intro q hq
  simp only[An,Ax,or_false]at hq
  rcases hq with rfl|rfl|rfl
  all_goals first|trivial|exact⟨Ex,Ex⟩|exact⟨Ez,Ez⟩
 .intro q hq
  simp only[An,Ax,or_false]at hq
  rcases hq with rfl|rfl|rfl|rfl|rfl|rfl
  all_goals first|trivial|exact⟨Ex,Ex⟩|exact⟨Ez,Ez⟩
 .intro q hq
  simp only[An,Ax,or_false]at hq
  rcases hq with rfl|rfl|rfl|rfl
  all_goals first|trivial|exact⟨Ex,Ex⟩|exact⟨Ez,Ez⟩
 .intro q hq
  simp only[An,Ax,or_false]at hq
  rcases hq with rfl|rfl|rfl
  all_goals first|trivial|exact⟨Ex,Ex⟩|exact⟨Ez,Ez⟩
noncomputable def spRowG:Sp:=λvs H Q _=>∃l:Str,vs=[.str l]/\l.length<=1000/\(∀(q:Addr)(H':Hp)(us:List V),H q=none->Same H H'->qh9 (Ce l (wS " "))=some us->H' q=some (.lst us)->Q (.ref q) H')/\(qh9 (Ce l (wS " "))=none->∀H',Same H H'->Q .non H')
inductive Rw7 where
 |term (x w o:Str) (d:Bool) (y:Str) (m:Int) (u:Str)
 |ends (x k:Str)
 |anew (x k:Str)
 |longer (x k:Str) (u t:Int)
 |still (x k l:Str)
 |yields (x y:Str)
noncomputable def fbS (d:Bool):Str:=if d=true then wS "behind" else wS "from"
noncomputable def qcy:Rw7->List V
 |.term x w o d y m u=>[.str (wS "term"),.str x,.str (wS "of"),.str w,.str (wS "due"),.str o,.str (fbS d),.str y,.int m,.str u]
 |.ends x k=>[.str (wS "ends"),.str x,.str k]
 |.anew x k=>[.str (wS "anew"),.str x,.str k]
 |.longer x k u t=>[.str (wS "longer"),.str x,.str k,.int u,.str (wS "times"),.int t]
 |.still x k l=>[.str (wS "still"),.str x,.str k,.str l]
 |.yields x y=>[.str (wS "yields"),.str x,.str y]
noncomputable def qgp:List Str->Option Rw7
 | [a,x,b,w,c,o,d,y,m,u]=>if a=wS "term" /\ nmB x=true/\b=wS "of" /\ nmB w=true/\c=wS "due" /\ nmB o=true/\(d=wS "from" \/ d=wS "behind")/\nmB y=true/\due m 40=true/\qci.contains u=true then some (.term x w o (decide (d=wS "behind")) y (nv m) u) else none
 | [a,x,k]=>if nmB x=true/\nmB k=true then (if a=wS "ends" then some (.ends x k) else if a=wS "anew" then some (.anew x k) else if a=wS "yields" then some (.yields x k) else none) else none
 | [a,x,k,u,t,n]=>if a=wS "longer" /\ nmB x=true/\nmB k=true/\due u 20=true/\t=wS "times" /\ due n 3=true then some (.longer x k (nv u) (nv n)) else none
 | [a,x,k,l]=>if a=wS "still" /\ nmB x=true/\nmB k=true/\nmB l=true then some (.still x k l) else none
 |_=>none
theorem qr4 {α β:Type}{g:α->Option β}:∀{l:List α}{i:Nat}{x:α}{y:β},l[i]?=some x->g x=some y->(∀j z,j<i->l[j]?=some z->g z=none)->l.findSome? g=some y
 | [],i,_,_,h,_,_=>by cases i <;>cases h
 |z::l,0,x,y,h,e,_=>by
  cases h
  rw[Em,e]
 |z::l,i+1,x,y,h,e,al=>by
  rw[Em,al 0 z (C2 _) rfl]
  exact qr4 (l:=l) (i:=i) h e λj w hj hw=>al (j+1) w (Nat.succ_lt_succ hj) hw
theorem qjp {w c:Str}(h:w=c):qdh w (.lit c)=some (.str w):=if_pos h
theorem qjq {w c:Str}(h:¬w=c):qdh w (.lit c)=none:=if_neg h
theorem qew {w:Str}(h:nmB w=true):qdh w .name=some (.str w):=if_pos h
theorem qex {w:Str}(h:¬nmB w=true):qdh w .name=none:=if_neg h
theorem qvz {w:Str}{m:Int}(h:due w m=true):qdh w (.num m)=some (.int (nv w)):=if_pos h
theorem qv0 {w:Str}{m:Int}(h:¬due w m=true):qdh w (.num m)=none:=if_neg h
theorem unit_t {w:Str}(h:qci.contains w=true):qdh w .unit=some (.str w):=if_pos h
theorem unit_f {w:Str}(h:¬qci.contains w=true):qdh w .unit=none:=if_neg h
theorem qbz {w:Str}{q:Ask}{v:V}{ws:List Str}{qs:List Ask}{vs:List V}(h:qdh w q=some v)(t:qcl ws qs=some vs):qcl (w::ws) (q::qs)=some (v::vs):=by
 show (qdh w q).bind (λv=>(qcl ws qs).map (v :: ·))=_
 rw[h,t];rfl
theorem qb0 {w:Str}{q:Ask}{ws:List Str}{qs:List Ask}(h:qdh w q=none):qcl (w::ws) (q::qs)=none:=by
 show (qdh w q).bind (λv=>(qcl ws qs).map (v :: ·))=_
 rw[h];rfl
theorem qaj {w:Str}{q:Ask}{ws:List Str}{qs:List Ask}(t:qcl ws qs=none):qcl (w::ws) (q::qs)=none:=by
 show (qdh w q).bind (λv=>(qcl ws qs).map (v :: ·))=_
 rw[t];cases qdh w q <;>rfl
theorem qm2 {a x b w c o d y m u e:Str}:qcl [a,x,b,w,c,o,d,y,m,u] (qdx e)=if a=wS "term" /\ nmB x=true/\b=wS "of" /\ nmB w=true/\c=wS "due" /\ nmB o=true/\d=e/\nmB y=true/\due m 40=true/\qci.contains u=true then some [.str a,.str x,.str b,.str w,.str c,.str o,.str d,.str y,.int (nv m),.str u] else none:=by
 unfold qdx
 by_cases h0:a=wS "term"
 .by_cases h1:nmB x=true
  .by_cases h2:b=wS "of"
   .by_cases h3:nmB w=true
    .by_cases h4:c=wS "due"
     .by_cases h5:nmB o=true
      .by_cases h6:d=e
       .by_cases h7:nmB y=true
        .by_cases h8:due m 40=true
         .by_cases h9:qci.contains u=true
          .rw[if_pos ⟨h0,h1,h2,h3,h4,h5,h6,h7,h8,h9⟩]
           exact qbz (qjp h0) (qbz (qew h1) (qbz (qjp h2) (qbz (qew h3) (qbz (qjp h4) (qbz (qew h5) (qbz (qjp h6) (qbz (qew h7) (qbz (qvz h8) (qbz (unit_t h9) rfl)))))))))
          .rw[if_neg λz=>h9 z.2.2.2.2.2.2.2.2.2]
           exact qaj (qaj (qaj (qaj (qaj (qaj (qaj (qaj (qaj (qb0 (unit_f h9))))))))))
         .rw[if_neg λz=>h8 z.2.2.2.2.2.2.2.2.1]
          exact qaj (qaj (qaj (qaj (qaj (qaj (qaj (qaj (qb0 (qv0 h8)))))))))
        .rw[if_neg λz=>h7 z.2.2.2.2.2.2.2.1]
         exact qaj (qaj (qaj (qaj (qaj (qaj (qaj (qb0 (qex h7))))))))
       .rw[if_neg λz=>h6 z.2.2.2.2.2.2.1]
        exact qaj (qaj (qaj (qaj (qaj (qaj (qb0 (qjq h6)))))))
      .rw[if_neg λz=>h5 z.2.2.2.2.2.1]
       exact qaj (qaj (qaj (qaj (qaj (qb0 (qex h5))))))
     .rw[if_neg λz=>h4 z.2.2.2.2.1]
      exact qaj (qaj (qaj (qaj (qb0 (qjq h4)))))
    .rw[if_neg λz=>h3 z.2.2.2.1]
     exact qaj (qaj (qaj (qb0 (qex h3))))
   .rw[if_neg λz=>h2 z.2.2.1]
    exact qaj (qaj (qb0 (qjq h2)))
  .rw[if_neg λz=>h1 z.2.1]
   exact qaj (qb0 (qex h1))
 .rw[if_neg λz=>h0 z.1]
  exact qb0 (qjq h0)
theorem qqr {a x k e:Str}:qcl [a,x,k] [.lit e,.name,.name]=if a=e/\nmB x=true/\nmB k=true then some [.str a,.str x,.str k] else none:=by
 by_cases h0:a=e
 .by_cases h1:nmB x=true
  .by_cases h2:nmB k=true
   .rw[if_pos ⟨h0,h1,h2⟩]
    exact qbz (qjp h0) (qbz (qew h1) (qbz (qew h2) rfl))
   .rw[if_neg λz=>h2 z.2.2]
    exact qaj (qaj (qb0 (qex h2)))
  .rw[if_neg λz=>h1 z.2.1]
   exact qaj (qb0 (qex h1))
 .rw[if_neg λz=>h0 z.1]
  exact qb0 (qjq h0)
theorem vals_4 {a x k l e:Str}:qcl [a,x,k,l] [.lit e,.name,.name,.name]=if a=e/\nmB x=true/\nmB k=true/\nmB l=true then some [.str a,.str x,.str k,.str l] else none:=by
 by_cases h0:a=e
 .by_cases h1:nmB x=true
  .by_cases h2:nmB k=true
   .by_cases h3:nmB l=true
    .rw[if_pos ⟨h0,h1,h2,h3⟩]
     exact qbz (qjp h0) (qbz (qew h1) (qbz (qew h2) (qbz (qew h3) rfl)))
    .rw[if_neg λz=>h3 z.2.2.2]
     exact qaj (qaj (qaj (qb0 (qex h3))))
   .rw[if_neg λz=>h2 z.2.2.1]
    exact qaj (qaj (qb0 (qex h2)))
  .rw[if_neg λz=>h1 z.2.1]
   exact qaj (qb0 (qex h1))
 .rw[if_neg λz=>h0 z.1]
  exact qb0 (qjq h0)
theorem vals_6 {a x k u t n:Str}:qcl [a,x,k,u,t,n] [.lit (wS "longer"),.name,.name,.num 20,.lit (wS "times"),.num 3]=if a=wS "longer" /\ nmB x=true/\nmB k=true/\due u 20=true/\t=wS "times" /\ due n 3=true then some [.str a,.str x,.str k,.int (nv u),.str t,.int (nv n)] else none:=by
 by_cases h0:a=wS "longer"
 .by_cases h1:nmB x=true
  .by_cases h2:nmB k=true
   .by_cases h3:due u 20=true
    .by_cases h4:t=wS "times"
     .by_cases h5:due n 3=true
      .rw[if_pos ⟨h0,h1,h2,h3,h4,h5⟩]
       exact qbz (qjp h0) (qbz (qew h1) (qbz (qew h2) (qbz (qvz h3) (qbz (qjp h4) (qbz (qvz h5) rfl)))))
      .rw[if_neg λz=>h5 z.2.2.2.2.2]
       exact qaj (qaj (qaj (qaj (qaj (qb0 (qv0 h5))))))
     .rw[if_neg λz=>h4 z.2.2.2.2.1]
      exact qaj (qaj (qaj (qaj (qb0 (qjq h4)))))
    .rw[if_neg λz=>h3 z.2.2.2.1]
     exact qaj (qaj (qaj (qb0 (qv0 h3))))
   .rw[if_neg λz=>h2 z.2.2.1]
    exact qaj (qaj (qb0 (qex h2)))
  .rw[if_neg λz=>h1 z.2.1]
   exact qaj (qb0 (qex h1))
 .rw[if_neg λz=>h0 z.1]
  exact qb0 (qjq h0)
theorem qia (ws:List Str):qh9 ws=(qcl ws (qdx (wS "from"))).or ((qcl ws (qdx (wS "behind"))).or ((qcl ws [.lit (wS "ends"),.name,.name]).or ((qcl ws [.lit (wS "anew"),.name,.name]).or ((qcl ws [.lit (wS "longer"),.name,.name,.num 20,.lit (wS "times"),.num 3]).or ((qcl ws [.lit (wS "still"),.name,.name,.name]).or (qcl ws [.lit (wS "yields"),.name,.name])))))):=by
 unfold qh9 qla
 simp only[Em,List.findSome?_nil]
 cases qcl ws (qdx (wS "from")) with
 |some v=>rfl
 |none =>
  cases qcl ws (qdx (wS "behind")) with
  |some v=>rfl
  |none =>
   cases qcl ws [.lit (wS "ends"),.name,.name] with
   |some v=>rfl
   |none =>
    cases qcl ws [.lit (wS "anew"),.name,.name] with
    |some v=>rfl
    |none =>
     cases qcl ws [.lit (wS "longer"),.name,.name,.num 20,.lit (wS "times"),.num 3] with
     |some v=>rfl
     |none =>
      cases qcl ws [.lit (wS "still"),.name,.name,.name] with
      |some v=>rfl
      |none=>cases qcl ws [.lit (wS "yields"),.name,.name] <;>rfl
theorem qd6 {ws:List Str}(h:ws.length≠10/\ws.length≠3/\ws.length≠6/\ws.length≠4):qh9 ws=none:=by
 rw[qia,qax (f:=qdx (wS "from")) h.1,qax (f:=qdx (wS "behind")) h.1,qax (f:=[.lit (wS "ends"),.name,.name]) h.2.1,qax (f:=[.lit (wS "anew"),.name,.name]) h.2.1,qax (f:=[.lit (wS "longer"),.name,.name,.num 20,.lit (wS "times"),.num 3]) h.2.2.1,qax (f:=[.lit (wS "still"),.name,.name,.name]) h.2.2.2,qax (f:=[.lit (wS "yields"),.name,.name]) h.2.1]
 rfl
theorem qn0 (a x b w c o d y m u:Str):qgp [a,x,b,w,c,o,d,y,m,u]=if a=wS "term" /\ nmB x=true/\b=wS "of" /\ nmB w=true/\c=wS "due" /\ nmB o=true/\(d=wS "from" \/ d=wS "behind")/\nmB y=true/\due m 40=true/\qci.contains u=true then some (.term x w o (decide (d=wS "behind")) y (nv m) u) else none:=rfl
theorem qn1 (a x k:Str):qgp [a,x,k]=if nmB x=true/\nmB k=true then (if a=wS "ends" then some (.ends x k) else if a=wS "anew" then some (.anew x k) else if a=wS "yields" then some (.yields x k) else none) else none:=rfl
theorem qv1 (a x k u t n:Str):qgp [a,x,k,u,t,n]=if a=wS "longer" /\ nmB x=true/\nmB k=true/\due u 20=true/\t=wS "times" /\ due n 3=true then some (.longer x k (nv u) (nv n)) else none:=rfl
theorem qv2 (a x k l:Str):qgp [a,x,k,l]=if a=wS "still" /\ nmB x=true/\nmB k=true/\nmB l=true then some (.still x k l) else none:=rfl
theorem qyd {a x b w c o d y m u:Str}:qh9 [a,x,b,w,c,o,d,y,m,u]=(qgp [a,x,b,w,c,o,d,y,m,u]).map qcy:=by
 have l:([a,x,b,w,c,o,d,y,m,u]:List Str).length=10:=rfl
 rw[qia,qm2,qm2,qax (f:=[.lit (wS "ends"),.name,.name]) (by rw[l];decide),qax (f:=[.lit (wS "anew"),.name,.name]) (by rw[l];decide),qax (f:=[.lit (wS "longer"),.name,.name,.num 20,.lit (wS "times"),.num 3]) (by rw[l];decide),qax (f:=[.lit (wS "still"),.name,.name,.name]) (by rw[l];decide),qax (f:=[.lit (wS "yields"),.name,.name]) (by rw[l];decide)]
 rw[qn0]
 have nb:wS "from" ≠ wS "behind" := by decide +kernel
 by_cases h1:a=wS "term" /\ nmB x=true/\b=wS "of" /\ nmB w=true/\c=wS "due" /\ nmB o=true/\d=wS "from" /\ nmB y=true/\due m 40=true/\qci.contains u=true
 .obtain⟨h0,h1,h2,h3,h4,h5,h6,h7⟩:=h1
  rw[if_pos ⟨h0,h1,h2,h3,h4,h5,h6,h7⟩,if_neg (λz=>nb (h6.symm.trans z.2.2.2.2.2.2.1)),if_pos ⟨h0,h1,h2,h3,h4,h5,.inl h6,h7⟩]
  subst h0 h2 h4 h6
  rw[decide_eq_false nb]
  rfl
 .rw[if_neg h1]
  by_cases h2:a=wS "term" /\ nmB x=true/\b=wS "of" /\ nmB w=true/\c=wS "due" /\ nmB o=true/\d=wS "behind" /\ nmB y=true/\due m 40=true/\qci.contains u=true
  .obtain⟨h0,h1,h2,h3,h4,h5,h6,h7⟩:=h2
   rw[if_pos ⟨h0,h1,h2,h3,h4,h5,h6,h7⟩,if_pos ⟨h0,h1,h2,h3,h4,h5,.inr h6,h7⟩]
   subst h0 h2 h4 h6
   rw[decide_eq_true rfl]
   rfl
  .rw[if_neg h2,if_neg λz=>by
    obtain⟨g0,g1,g2,g3,g4,g5,g6,g7⟩:=z
    rcases g6 with g6|g6
    .exact h1 ⟨g0,g1,g2,g3,g4,g5,g6,g7⟩
    .exact h2 ⟨g0,g1,g2,g3,g4,g5,g6,g7⟩]
   rfl
theorem rowV_3 {a x k:Str}:qh9 [a,x,k]=(qgp [a,x,k]).map qcy:=by
 have l:([a,x,k]:List Str).length=3:=rfl
 rw[qia,qax (f:=qdx (wS "from")) (by rw[l];decide),qax (f:=qdx (wS "behind")) (by rw[l];decide),qqr,qqr,qax (f:=[.lit (wS "longer"),.name,.name,.num 20,.lit (wS "times"),.num 3]) (by rw[l];decide),qax (f:=[.lit (wS "still"),.name,.name,.name]) (by rw[l];decide),qqr]
 rw[qn1]
 by_cases h:nmB x=true/\nmB k=true
 .rw[if_pos h]
  by_cases h1:a=wS "ends"
  .rw[if_pos ⟨h1,h⟩,if_pos h1]
   subst h1;rfl
  .rw[if_neg (λz=>h1 z.1),if_neg h1]
   by_cases h2:a=wS "anew"
   .rw[if_pos ⟨h2,h⟩,if_pos h2]
    subst h2;rfl
   .rw[if_neg (λz=>h2 z.1),if_neg h2]
    by_cases h3:a=wS "yields"
    .rw[if_pos ⟨h3,h⟩,if_pos h3]
     subst h3;rfl
    .rw[if_neg (λz=>h3 z.1),if_neg h3]
     rfl
 .rw[if_neg h,if_neg (λz=>h z.2),if_neg (λz=>h z.2),if_neg (λz=>h z.2)]
  rfl
theorem rowV_4 {a x k e:Str}:qh9 [a,x,k,e]=(qgp [a,x,k,e]).map qcy:=by
 have l:([a,x,k,e]:List Str).length=4:=rfl
 rw[qia,qax (f:=qdx (wS "from")) (by rw[l];decide),qax (f:=qdx (wS "behind")) (by rw[l];decide),qax (f:=[.lit (wS "ends"),.name,.name]) (by rw[l];decide),qax (f:=[.lit (wS "anew"),.name,.name]) (by rw[l];decide),qax (f:=[.lit (wS "longer"),.name,.name,.num 20,.lit (wS "times"),.num 3]) (by rw[l];decide),vals_4,qax (f:=[.lit (wS "yields"),.name,.name]) (by rw[l];decide)]
 rw[qv2]
 by_cases h:a=wS "still" /\ nmB x=true/\nmB k=true/\nmB e=true
 .rw[if_pos h,if_pos h]
  obtain⟨h0,_⟩:=h
  subst h0;rfl
 .rw[if_neg h,if_neg h]
  rfl
theorem rowV_6 {a x k u t n:Str}:qh9 [a,x,k,u,t,n]=(qgp [a,x,k,u,t,n]).map qcy:=by
 have l:([a,x,k,u,t,n]:List Str).length=6:=rfl
 rw[qia,qax (f:=qdx (wS "from")) (by rw[l];decide),qax (f:=qdx (wS "behind")) (by rw[l];decide),qax (f:=[.lit (wS "ends"),.name,.name]) (by rw[l];decide),qax (f:=[.lit (wS "anew"),.name,.name]) (by rw[l];decide),vals_6,qax (f:=[.lit (wS "still"),.name,.name,.name]) (by rw[l];decide),qax (f:=[.lit (wS "yields"),.name,.name]) (by rw[l];decide)]
 rw[qv1]
 by_cases h:a=wS "longer" /\ nmB x=true/\nmB k=true/\due u 20=true/\t=wS "times" /\ due n 3=true
 .rw[if_pos h,if_pos h]
  obtain⟨h0,_,_,_,h4,_⟩:=h
  subst h0 h4;rfl
 .rw[if_neg h,if_neg h]
  rfl
theorem rowV_R:∀ws:List Str,qh9 ws=(qgp ws).map qcy
 | [a,x,b,w,c,o,d,y,m,u]=>qyd
 | [a,x,k]=>rowV_3
 | [a,x,k,u,t,n]=>rowV_6
 | [a,x,k,l]=>rowV_4
 | []=>qd6 (by simp)
 | [_]=>qd6 (by simp)
 | [_,_]=>qd6 (by simp)
 | [_,_,_,_,_]=>qd6 (by simp)
 | [_,_,_,_,_,_,_]=>qd6 (by simp)
 | [_,_,_,_,_,_,_,_]=>qd6 (by simp)
 | [_,_,_,_,_,_,_,_,_]=>qd6 (by simp)
 |_::_::_::_::_::_::_::_::_::_::_::r=>qd6 (by simp only[At];lia)
structure RR where
 name:Str
 who:Str
 owes:Str
 opens:Option Str
 base:Option Str
 many:Int
 unit:Str
 ends:List Str
 anew:List Str
 longer:List (Str×Int×Int)
 still:Option (Str×Str)
 yields:List Str
noncomputable def r0:RR:=⟨wS "",wS "",wS "",none,none,0,wS "",[],[],[],none,[]⟩
noncomputable def stL:Option (Str×Str)->List Str
 |none=>[]
 |some s=>[s.1,s.2]
noncomputable def qav (r:RR):List Str:=([r.owes]++r.ends++r.anew++r.longer.map (·.1))++r.opens.toList++stL r.still
inductive Er where
 |rule (i:Nat)
 |term (x:Str)
 |twice (x:Str)
 |unfit (i:Nat)
noncomputable def qal:List RR->Str->Option Nat
 | [],_=>none
 |r::rs,x=>if r.name=x then some 0 else (qal rs x).map (· + 1)
noncomputable def kin:Rw7->List Str
 |.term _ _ _ _ _ _ _=>[]
 |.ends _ k=>[k]
 |.anew _ k=>[k]
 |.longer _ k _ _=>[k]
 |.still _ k l=>[k,l]
 |.yields _ _=>[]
noncomputable def qye (r:RR):Rw7->Bool
 |.still _ k l=>r.still.isSome || decide (k=l)
 |.longer _ _ _ _=>decide (r.longer.length=2)
 |_=>false
noncomputable def qgq (r:RR)(row:Rw7):Bool:=((kin row).any λk=>(qav r).contains k) || qye r row
noncomputable def qcd (r:RR):Rw7->RR
 |.ends _ k=>{ r with ends:=r.ends++[k] }
 |.anew _ k=>{ r with anew:=r.anew++[k] }
 |.longer _ k u t=>{ r with longer:=r.longer++[(k,u,t)] }
 |.still _ k l=>{ r with still:=some (k,l) }
 |_=>r
noncomputable def qey (x w o:Str)(d:Bool)(y:Str)(m:Int)(u:Str):RR:=⟨x,w,o,if d=true then none else some y,if d=true then some y else none,m,u,[],[],[],none,[]⟩
noncomputable def qaf:Rw7->Str
 |.term x _ _ _ _ _ _=>x
 |.ends x _=>x
 |.anew x _=>x
 |.longer x _ _ _=>x
 |.still x _ _=>x
 |.yields x _=>x
noncomputable def isT:Rw7->Bool
 |.term _ _ _ _ _ _ _=>true
 |_=>false
noncomputable def qc7 (rs:List RR)(i:Nat)(x w o:Str)(d:Bool)(y:Str)(m:Int)(u:Str):Except Er (List RR) :=
 if (qal rs x).isSome=true then .error (.twice x) else if rs.length=6\/(d=false/\o=y) then .error (.unfit i) else .ok (rs++[qey x w o d y m u])
noncomputable def qez (rs:List RR)(i:Nat)(row:Rw7):Except Er (List RR) :=
 match qal rs (qaf row) with
 |none=>.error (.term (qaf row))
 |some j=>if qgq (rs.getD j r0) row=true then .error (.unfit i) else .ok (rs.set j (qcd (rs.getD j r0) row))
noncomputable def qbx (rs:List RR)(i:Nat):Rw7->Except Er (List RR)
 |.term x w o d y m u=>qc7 rs i x w o d y m u
 |row=>qez rs i row
noncomputable def qca (rs:List RR)(i j:Nat)(y:Str):Except Er (List RR) :=
 match qal rs y with
 |none=>.error (.term y)
 |some l=>if y=(rs.getD j r0).name\/y∈(rs.getD j r0).yields\/(rs.getD l r0).owes≠(rs.getD j r0).owes then .error (.unfit i) else .ok (rs.set j { rs.getD j r0 with yields:=(rs.getD j r0).yields++[y] })
noncomputable def qbp (rs:List RR)(i:Nat):Rw7->Except Er (List RR)
 |.term x _ _ _ _ _ _=>match qal rs x with
  |none=>.ok rs
  |some j=>match (rs.getD j r0).base with
   |none=>.ok rs
   |some y=>if (qal rs y).isSome=true then .ok rs else .error (.term y)
 |.yields x y=>match qal rs x with
  |none=>.ok rs
  |some j=>qca rs i j y
 |_=>.ok rs
structure RA where
 p:Addr
 dx:Addr
 pe:Addr
 pa:Addr
 pl:Addr
 py:Addr
noncomputable def own (A:RA):List Addr:=[A.p,A.pe,A.pa,A.pl,A.py]
noncomputable def KeepT (S:List Addr)(H H':Hp):Prop:=∀b o,(b∉S \/ ∃t,o=.tup t)->H b=some o->H' b=some o
theorem KeepT.of {S:List Addr}{H H':Hp}(s:Same H H'):KeepT S H H':=λb o _ e=>s b o e
theorem KeepT.trans {S:List Addr}{H H1 H2:Hp}(a:KeepT S H H1)(b:KeepT S H1 H2):KeepT S H H2:=λc o n e=>b c o n (a c o n e)
theorem KeepT.sub {S S':List Addr}{H H':Hp}(a:KeepT S H H')(h:∀z∈S,z∈S'):KeepT S' H H':=λc o n e=>a c o (n.imp (λm z=>m (h c z)) id) e
theorem KeepT.put {S:List Addr}{H:Hp}{z:Addr}{o o':HO}(hz:z∈S)(e:H z=some o)(nt:∀t,o ≠ .tup t):KeepT S H (upd H z o'):=λb u n h=>by
 have ne:b≠z:=λq=>by
  rcases n with n|⟨t,rfl⟩
  .exact n (q ▸ hz)
  .rw[q,e]at h;injection h with h;exact nt t h
 rw[zh ne];exact h
theorem StAt.keep {S:List Addr}{H H':Hp}{v:V}{o:Option (Str×Str)}(h:StAt H v o)(k:KeepT S H H'):StAt H' v o:=by
 cases o with
 |none=>exact h
 |some s=>obtain⟨p,h1,h2⟩:=h;exact⟨p,h1,k _ _ (.inr ⟨_,rfl⟩) h2⟩
theorem qb4 {S:List Addr}{H H':Hp}{us:List V}{ts:List (List V)}(t:Tups H us ts)(k:KeepT S H H'):Tups H' us ts:=by
 induction t with
 |nil=>exact .nil
 |cons h _ ih=>exact .cons (k _ _ (.inr ⟨_,rfl⟩) h) ih
noncomputable abbrev rlR (A:RA)(r:RR)(v:V):List (Str×V):=rlF (.str r.name) (.str r.who) (.str r.owes) (qd8 r.opens) (qd8 r.base) (.int r.many) (.str r.unit) v (.ref A.pe) (.ref A.pa) (.ref A.pl) (.ref A.py)
structure RuY (C:Addr)(H:Hp)(A:RA)(r:RR)(v:V)(us:List V):Prop where
 hx:H A.p=some (.ins C A.dx (rlR A r v))
 hs:StAt H v r.still
 he:H A.pe=some (.lst (r.ends.map V.str))
 ha:H A.pa=some (.lst (r.anew.map V.str))
 hl:H A.pl=some (.lst us)
 tl:Tups H us (r.longer.map qqq)
 hy:H A.py=some (.lst (r.yields.map V.str))
noncomputable def RuX (C:Addr)(H:Hp)(A:RA)(r:RR):Prop:=∃v us,RuY C H A r v us
theorem RuX.keep {C:Addr}{S:List Addr}{H H':Hp}{A:RA}{r:RR}(h:RuX C H A r)(k:KeepT S H H')(n:∀z∈own A,z∉S):RuX C H' A r:=by
 obtain⟨v,us,h⟩:=h
 exact⟨v,us,k _ _ (.inl (n _ (by simp[own]))) h.hx,h.hs.keep k,k _ _ (.inl (n _ (by simp[own]))) h.he,k _ _ (.inl (n _ (by simp[own]))) h.ha,k _ _ (.inl (n _ (by simp[own]))) h.hl,qb4 h.tl k,k _ _ (.inl (n _ (by simp[own]))) h.hy⟩
theorem RuX.same {C:Addr}{H H':Hp}{A:RA}{r:RR}(h:RuX C H A r)(s:Same H H'):RuX C H' A r:=h.keep (S:=[]) (KeepT.of s) (λ_ _=>Ax)
noncomputable def dcR:List RR->List RA->List (Key×V)
 |r::rs,A::As=>(.inr r.name,.ref A.p)::dcR rs As
 |_,_=>[]
structure Sta (C:Addr)(H:Hp)(d:Addr)(rs:List RR)(As:List RA):Prop where
 hd:H d=some (.dK (dcR rs As))
 ln:As.length=rs.length
 nd:(d::As.flatMap own).Nodup
 nn:(rs.map RR.name).Nodup
 ru:∀(i:Nat)(r:RR)(A:RA),rs[i]?=some r->As[i]?=some A->RuX C H A r
theorem qcj (r:RR)(rs:List RR)(x:Str):qal (r::rs) x=if r.name=x then some 0 else (qal rs x).map (· + 1):=rfl
theorem qg5:∀{rs:List RR}{As:List RA}(x:Str),As.length=rs.length->qdy (dcR rs As) (.inr x)=(qal rs x).bind λj=>(As[j]?).map λA=>.ref A.p
 | [],[],_,_=>rfl
 |r::rs,A::As,x,h=>by
  show qdy ((CO r.name,V.ref A.p)::dcR rs As) (.inr x)=_
  by_cases c:r.name=x
  .rw[qct (by show (CO r.name:Key)=_;rw[c])]
   rw[qcj,if_pos c]
   rfl
  .rw[qcu (λz=>c (CO.inj z)),qg5 x (Db h)]
   rw[qcj,if_neg c]
   cases qal rs x <;>rfl
theorem qka:∀{rs:List RR}{As:List RA},As.length=rs.length->(dcR rs As).length=rs.length
 | [],[],_=>rfl
 |r::rs,A::As,h=>by
  show (dcR rs As).length+1=_
  rw[qka (Db h)];rfl
theorem qlb:∀{rs:List RR}{As:List RA}(r:RR)(A:RA),As.length=rs.length->dcR (rs++[r]) (As++[A])=dcR rs As++[(.inr r.name,.ref A.p)]
 | [],[],_,_,_=>rfl
 |r'::rs,A'::As,r,A,h=>by
  show (CO r'.name,V.ref A'.p)::dcR (rs++[r]) (As++[A])=_
  rw[qlb r A (Db h)];rfl
theorem qr5:∀{rs:List RR}{As:List RA}(j:Nat)(r:RR),(∀s,rs[j]?=some s->s.name=r.name)->dcR (rs.set j r) As=dcR rs As
 | [],_,_,_,_=>rfl
 |r'::rs,[],j,r,_=>by cases j <;>rfl
 |r'::rs,A::As,0,r,h=>by
  show (CO r.name,V.ref A.p)::dcR rs As=(CO r'.name,V.ref A.p)::dcR rs As
  rw[h r' rfl]
 |r'::rs,A::As,j+1,r,h=>by
  show (CO r'.name,V.ref A.p)::dcR (rs.set j r) As=_
  rw[qr5 j r (λs e=>h s e)];rfl
theorem qpa:∀{rs:List RR}{As:List RA},As.length=rs.length->(dcR rs As).map (·.2)=As.map λA=>.ref A.p
 | [],[],_=>rfl
 |r::rs,A::As,h=>by
  show V.ref A.p::(dcR rs As).map (·.2)=_
  rw[qpa (Db h)];rfl
theorem qpb:∀{rs:List RR}{As:List RA},As.length=rs.length->(dcR rs As).map (·.1)=rs.map λr=>.inr r.name
 | [],[],_=>rfl
 |r::rs,A::As,h=>by
  show (CO r.name:Key)::(dcR rs As).map (·.1)=_
  rw[qpb (Db h)];rfl
theorem qck:∀{rs:List RR}{x:Str}{j:Nat},qal rs x=some j->∃r,rs[j]?=some r/\r.name=x
 | [],_,_,h=>by cases h
 |r::rs,x,j,h=>by
  rw[qcj]at h
  by_cases c:r.name=x
  .rw[if_pos c]at h;cases h;exact⟨r,rfl,c⟩
  .rw[if_neg c]at h
   cases e:qal rs x with
   |none=>rw[e]at h;cases h
   |some i =>
    rw[e]at h
    cases h
    obtain⟨r',h1,h2⟩:=qck e
    exact⟨r',h1,h2⟩
theorem qek:∀{rs:List RR}{x:Str},qal rs x=none↔x∉rs.map RR.name
 | [],_=>⟨λ_=>Ax,λ_=>rfl⟩
 |r::rs,x=>by
  rw[qcj,A4,An]
  by_cases c:r.name=x
  .rw[if_pos c]
   exact⟨(λz=>nomatch z),λz=>absurd (.inl c.symm) z⟩
  .rw[if_neg c]
   have ih:=qek (rs:=rs) (x:=x)
   constructor
   .rintro h (z|z)
    .exact c z.symm
    .cases e:qal rs x with
     |none=>exact ih.mp e z
     |some i=>rw[e]at h;cases h
   .intro h
    rw[ih.mpr λz=>h (.inr z)];rfl
theorem qg6:∀{rs:List RR}{j:Nat}{r:RR},(rs.map RR.name).Nodup->rs[j]?=some r->qal rs r.name=some j
 | [],j,_,_,h=>by cases j <;>cases h
 |r'::rs,0,r,_,h=>by
  cases h
  rw[qcj,if_pos rfl]
 |r'::rs,j+1,r,nd,h=>by
  rw[A4,Bg]at nd
  rw[qcj,if_neg (λz=>nd.1 (by rw[z];exact AM.mpr ⟨r,Ai h,rfl⟩)),qg6 nd.2 h];rfl
theorem qfr {rs:List RR}{j:Nat}{r:RR}(h:rs[j]?=some r):rs.getD j r0=r:=by rw[AC,h];rfl
theorem Sta.same {C:Addr}{H H':Hp}{d:Addr}{rs:List RR}{As:List RA}(s:Sta C H d rs As)(z:Same H H'):Sta C H' d rs As:=⟨z _ _ s.hd,s.ln,s.nd,s.nn,λi r A h1 h2=>(s.ru i r A h1 h2).same z⟩
theorem Sta.get {C:Addr}{H:Hp}{d:Addr}{rs:List RR}{As:List RA}(s:Sta C H d rs As){x:Str}{j:Nat}(h:qal rs x=some j):∃r A,rs[j]?=some r/\As[j]?=some A/\r.name=x/\RuX C H A r/\DGet H d (.str x) (some (.ref A.p)):=by
 obtain⟨r,hr,hn⟩:=qck h
 have lt:j<As.length:=by rw[s.ln];exact(Ac.mp hr).1
 refine⟨r,As[j],hr,Ae lt,hn,s.ru j r _ hr (Ae lt),?_⟩
 have g:=DGet.k (k:=.inr x) s.hd
 rw[qg5 x s.ln,h]at g
 rw[show (some j).bind (λj=>(As[j]?).map λA=>V.ref A.p)=(As[j]?).map λA=>V.ref A.p from rfl,Ae lt]at g
 exact g
theorem Sta.non {C:Addr}{H:Hp}{d:Addr}{rs:List RR}{As:List RA}(s:Sta C H d rs As){x:Str}(h:qal rs x=none):DGet H d (.str x) none:=by
 have g:=DGet.k (k:=.inr x) s.hd
 rw[qg5 x s.ln,h]at g
 exact g
theorem qy6 {α:Type}{f:RA->List α}:∀{As:List RA}{i j:Nat}{A B:RA}{z:α},(As.flatMap f).Nodup->As[i]?=some A->As[j]?=some B->i≠j->z∈f A->z∉f B
 | [],i,_,_,_,_,_,h,_,_,_=>by cases i <;>cases h
 |C::As,i,j,A,B,z,nd,hi,hj,ne,hz=>by
  rw[Bk,AZ]at nd
  intro hz2
  cases i with
  |zero =>
   cases hi
   cases j with
   |zero=>exact ne rfl
   |succ j=>exact nd.2.2 z hz z (Bs.mpr ⟨B,Ai hj,hz2⟩) rfl
  |succ i =>
   cases j with
   |zero =>
    cases hj
    exact nd.2.2 z hz2 z (Bs.mpr ⟨A,Ai hi,hz⟩) rfl
   |succ j=>exact qy6 nd.2.1 hi hj (λe=>ne (by rw[e])) hz hz2
theorem Sta.chg {C:Addr}{H H':Hp}{d:Addr}{rs:List RR}{As:List RA}{j:Nat}{r r':RR}{A:RA}(s:Sta C H d rs As)(hr:rs[j]?=some r)(hA:As[j]?=some A)(k:KeepT (own A) H H')(x:RuX C H' A r')(hn:r'.name=r.name):Sta C H' d (rs.set j r') As:=by
 have nd:=Bg.mp s.nd
 have mem:∀z∈own A,z∈As.flatMap own:=λz hz=>Bs.mpr ⟨A,Ai hA,hz⟩
 refine⟨?_,by rw[BN];exact s.ln,s.nd,?_,λi r2 B h1 h2=>?_⟩
 .rw[qr5 j r' (λz e=>by rw[hr]at e;cases e;exact hn.symm)]
  exact k _ _ (.inl λz=>nd.1 (mem _ z)) s.hd
 .have e:(rs.set j r').map RR.name=rs.map RR.name:=by
   rw[List.map_set,hn]
   apply BG
   intro i
   rw[BW,Al]
   by_cases c:j=i
   .subst c
    rw[if_pos rfl,hr,if_pos (by rw[Ab];exact(Ac.mp hr).1)];rfl
   .rw[if_neg c]
  rw[e];exact s.nn
 .rw[BW]at h1
  by_cases c:j=i
  .subst c
   rw[if_pos rfl]at h1
   split at h1
   .cases h1;rw[hA]at h2;cases h2;exact x
   .cases h1
  .rw[if_neg c]at h1
   exact(s.ru i r2 B h1 h2).keep k λz hz hz2=>qy6 nd.2 h2 hA (Bh c) hz hz2
noncomputable def erC (a:Adr):Er->Addr
 |.rule _=>a.kF
 |.term _=>a.kE
 |.twice _=>a.kD
 |.unfit _=>a.k9
noncomputable def erF:Er->Str×V
 |.rule i=>("at",.int (i:Int))
 |.term x=>("name",.str x)
 |.twice x=>("name",.str x)
 |.unfit i=>("at",.int (i:Int))
noncomputable def OutE (a:Adr)(e:Er)(H:Hp)(E:XK):Prop:=∀(x d:Addr)(H':Hp),Same H H'->H' x=some (exO x (erC a e) (some d) false)->H' d=some (exD d [erF e])->E (.ref x) (some d) H'
theorem OutE.same {a:Adr}{e:Er}{H H':Hp}{E:XK}(o:OutE a e H E)(s:Same H H'):OutE a e H' E:=λx d H2 z=>o x d H2 (s.trans z)
noncomputable def Bn (n:Nat)(rs:List RR):Prop:=∀r∈rs,r.ends.length<=n/\r.anew.length<=n/\r.longer.length<=n/\r.yields.length<=n
noncomputable def spRlG (a:Adr):Sp:=λvs H Q _=>∃(x dx:Addr)(vn vw vo vp vb vm vu vs':V),vs=[.ref x,vn,vw,vo,vp,vb,vm,vu,vs']/\H x=some (.ins a.k7 dx []) /\
 ∀(H':Hp)(pe pa pl py:Addr),SameBut x H H'->H pe=none->H pa=none->H pl=none->H py=none->H' x=some (.ins a.k7 dx (rlF vn vw vo vp vb vm vu vs' (.ref pe) (.ref pa) (.ref pl) (.ref py)))->H' pe=some (.lst [])->H' pa=some (.lst [])->H' pl=some (.lst [])->H' py=some (.lst [])->[x,pe,pa,pl,py].Nodup->Q .non H'
noncomputable def spAk (a:Adr):Sp:=λvs H Q _=>∃(A:RA)(r:RR),vs=[.ref A.p]/\RuX a.k7 H A r/\r.ends.length<=1000/\r.anew.length<=1000/\r.longer.length<=1000/\∀(q:Addr)(H':Hp),H q=none->Same H H'->H' q=some (.lst ((qav r).map V.str))->Q (.ref q) H'
noncomputable def spKi:Sp:=λvs H Q _=>∃(p:Addr)(row:Rw7),vs=[.ref p]/\H p=some (.lst (qcy row))/\isT row=false/\∀(q:Addr)(H':Hp),H q=none->Same H H'->H' q=some (.lst ((kin row).map V.str))->Q (.ref q) H'
noncomputable def spUf (a:Adr):Sp:=λvs H Q _=>∃(A:RA)(r:RR)(p:Addr)(row:Rw7),vs=[.ref A.p,.ref p]/\RuX a.k7 H A r/\r.ends.length<=1000/\r.anew.length<=1000/\r.longer.length<=1000/\H p=some (.lst (qcy row))/\isT row=false/\∀H',Same H H'->Q (.bl (qgq r row)) H'
noncomputable def spMo (a:Adr):Sp:=λvs H Q E=>∃(A:RA)(r:RR)(i:Nat)(p:Addr)(row:Rw7),vs=[.ref A.p,.int (i:Int),.ref p]/\RuX a.k7 H A r/\(own A).Nodup/\r.ends.length<=1000/\r.anew.length<=1000/\r.longer.length<=1000/\H p=some (.lst (qcy row))/\isT row=false /\
 (qgq r row=false->∀H',KeepT (own A) H H'->RuX a.k7 H' A (qcd r row)->Q .non H')/\(qgq r row=true->OutE a (.unfit i) H E)
noncomputable def Frs (H:Hp)(As As':List RA):Prop:=∀z∈As'.flatMap own,z∈As.flatMap own\/H z=none
noncomputable def spTm (a:Adr):Sp:=λvs H Q E=>∃(d p:Addr)(i:Nat)(rs:List RR)(As:List RA)(x w o:Str)(dd:Bool)(y:Str)(m:Int)(u:Str),vs=[.ref d,.int (i:Int),.ref p]/\Sta a.k7 H d rs As/\rs.length<=6/\H p=some (.lst (qcy (.term x w o dd y m u))) /\
 (∀rs',qc7 rs i x w o dd y m u=.ok rs'->∀H' As',KeepT (d::As.flatMap own) H H'->Frs H As As'->Sta a.k7 H' d rs' As'->Q .non H')/\∀e,qc7 rs i x w o dd y m u=.error e->OutE a e H E
noncomputable def spRo (a:Adr):Sp:=λvs H Q E=>∃(d p:Addr)(i:Nat)(rs:List RR)(As:List RA)(row:Rw7),vs=[.ref d,.int (i:Int),.ref p]/\Sta a.k7 H d rs As/\rs.length<=6/\Bn 1000 rs/\H p=some (.lst (qcy row)) /\
 (∀rs',qbx rs i row=.ok rs'->∀H' As',KeepT (d::As.flatMap own) H H'->Frs H As As'->Sta a.k7 H' d rs' As'->Q .non H')/\∀e,qbx rs i row=.error e->OutE a e H E
noncomputable def spSy (a:Adr):Sp:=λvs H Q E=>∃(d:Addr)(i j:Nat)(rs:List RR)(As:List RA)(r:RR)(A:RA)(y:Str),vs=[.ref d,.ref A.p,.int (i:Int),.str y]/\Sta a.k7 H d rs As/\Bn 1000 rs/\rs[j]?=some r/\As[j]?=some A /\
 (∀rs',qca rs i j y=.ok rs'->∀H',KeepT (d::As.flatMap own) H H'->Sta a.k7 H' d rs' As->Q .non H')/\∀e,qca rs i j y=.error e->OutE a e H E
noncomputable def spSn (a:Adr):Sp:=λvs H Q E=>∃(d p:Addr)(i:Nat)(rs:List RR)(As:List RA)(row:Rw7),vs=[.ref d,.int (i:Int),.ref p]/\Sta a.k7 H d rs As/\Bn 1000 rs/\H p=some (.lst (qcy row))/\(qal rs (qaf row)).isSome=true /\
 (∀rs',qbp rs i row=.ok rs'->∀H',KeepT (d::As.flatMap own) H H'->Sta a.k7 H' d rs' As->Q .non H')/\∀e,qbp rs i row=.error e->OutE a e H E
theorem qyf (r:RR):(qav r).length<=4+r.ends.length+r.anew.length+r.longer.length:=by
 unfold qav
 simp only[Ah,Ab,At,Cn]
 have h1:r.opens.toList.length<=1:=by cases r.opens <;>simp
 have h2:(stL r.still).length<=2:=by cases r.still <;>simp[stL]
 lia
theorem any_map {ks B:List Str}:((ks.map λk=>B.contains k).any λb=>b)=ks.any λk=>B.contains k:=by rw[List.any_map];rfl
theorem Sta.snoc {C:Addr}{H H':Hp}{d:Addr}{rs:List RR}{As:List RA}{r:RR}{A:RA}(s:Sta C H d rs As)(k:KeepT [d] H H')(hd:H' d=some (.dK (dcR rs As++[(.inr r.name,.ref A.p)])))(x:RuX C H' A r)(nm:qal rs r.name=none)(nd:(own A).Nodup)(nf:∀z∈own A,z≠d/\z∉As.flatMap own):Sta C H' d (rs++[r]) (As++[A]):=by
 have n0:=Bg.mp s.nd
 refine⟨by rw[qlb r A s.ln];exact hd,by rw[Ah,Ah,s.ln];rfl,?_,?_,λi r2 B h1 h2=>?_⟩
 .rw[Bw,Bg,Au,AZ]
  have e:[A].flatMap own=own A:=by simp
  rw[e]
  exact⟨λz=>z.elim n0.1 λq=>(nf d q).1 rfl,n0.2,nd,λa ha b hb q=>(nf b hb).2 (q ▸ ha)⟩
 .rw[Aq,AZ]
  exact⟨s.nn,by simp,λa ha b hb q=>qek.mp nm (by rw[<- Ak.mp hb,<- q];exact ha)⟩
 .by_cases c:i<rs.length
  .rw[AF c]at h1
   rw[AF (by rw[s.ln];exact c)]at h2
   refine(s.ru i r2 B h1 h2).keep k λz hz hz2=>n0.1 ?_
   rw[<- Ak.mp hz2]
   exact Bs.mpr ⟨B,Ai h2,hz⟩
  .rw[A9 (by lia)]at h1
   rw[A9 (by rw[s.ln];lia),s.ln]at h2
   have l1:i-rs.length<1:=(Ac.mp h1).1
   rw[show i-rs.length=0 by lia]at h1 h2
   cases h1
   cases h2
   exact x
theorem qlc {rs:List RR}{i:Nat}{x w o:Str}{d:Bool}{y:Str}{m:Int}{u:Str}(h:(qal rs x).isSome=true):qc7 rs i x w o d y m u=.error (.twice x):=if_pos h
theorem qgr {rs:List RR}{i:Nat}{x w o:Str}{d:Bool}{y:Str}{m:Int}{u:Str}(h:qal rs x=none)(c:rs.length=6\/(d=false/\o=y)):qc7 rs i x w o d y m u=.error (.unfit i):=by
 unfold qc7;rw[h,if_neg Ex,if_pos c]
theorem qfg {rs:List RR}{i:Nat}{x w o:Str}{d:Bool}{y:Str}{m:Int}{u:Str}(h:qal rs x=none)(c:¬(rs.length=6\/(d=false/\o=y))):qc7 rs i x w o d y m u=.ok (rs++[qey x w o d y m u]):=by
 unfold qc7;rw[h,if_neg Ex,if_neg c]
theorem qld {rs:List RR}{i:Nat}{row:Rw7}(h:qal rs (qaf row)=none):qez rs i row=.error (.term (qaf row)):=by unfold qez;rw[h]
theorem qle {rs:List RR}{i j:Nat}{row:Rw7}{r:RR}(h:qal rs (qaf row)=some j)(hr:rs[j]?=some r)(u:qgq r row=true):qez rs i row=.error (.unfit i):=by
 unfold qez;rw[h];dsimp only;rw[qfr hr,if_pos u]
theorem qib {rs:List RR}{i j:Nat}{row:Rw7}{r:RR}(h:qal rs (qaf row)=some j)(hr:rs[j]?=some r)(u:qgq r row=false):qez rs i row=.ok (rs.set j (qcd r row)):=by
 unfold qez;rw[h];dsimp only;rw[qfr hr,u,if_neg Ex]
theorem qdc {rs:List RR}{i:Nat}{row:Rw7}(h:isT row=false):qbx rs i row=qez rs i row:=by
 cases row with
 |term=>cases h
 |_=>rfl
theorem qe4 (r:RR)(row:Rw7):(qcd r row).name=r.name:=by cases row <;>rfl
theorem qn2 {As:List RA}{j:Nat}{A:RA}(h:As[j]?=some A):∀z∈own A,z∈As.flatMap own:=λz hz=>Bs.mpr ⟨A,Ai h,hz⟩
theorem qv3 {As:List RA}{j:Nat}{A:RA}(nd:(As.flatMap own).Nodup)(h:As[j]?=some A):(own A).Nodup:=by
 induction As generalizing j with
 |nil=>cases j <;>cases h
 |cons B As ih =>
  rw[Bk,AZ]at nd
  cases j with
  |zero=>cases h;exact nd.1
  |succ j=>exact ih nd.2.1 h
theorem qlf {rs:List RR}{i j:Nat}{y:Str}(h:qal rs y=none):qca rs i j y=.error (.term y):=by unfold qca;rw[h]
theorem qfs {rs:List RR}{i j l:Nat}{y:Str}{r s:RR}(h:qal rs y=some l)(hr:rs[j]?=some r)(hs:rs[l]?=some s)(c:y=r.name\/y∈r.yields\/s.owes≠r.owes):qca rs i j y=.error (.unfit i):=by
 unfold qca;rw[h];dsimp only;rw[qfr hr,qfr hs,if_pos c]
theorem qhq {rs:List RR}{i j l:Nat}{y:Str}{r s:RR}(h:qal rs y=some l)(hr:rs[j]?=some r)(hs:rs[l]?=some s)(c:¬(y=r.name\/y∈r.yields\/s.owes≠r.owes)):qca rs i j y=.ok (rs.set j { r with yields:=r.yields++[y] }):=by
 unfold qca;rw[h];dsimp only;rw[qfr hr,qfr hs,if_neg c]
theorem qv4 {rs:List RR}{i:Nat}{row:Rw7}(h:isT row=false)(h2:∀x y,row ≠ .yields x y):qbp rs i row=.ok rs:=by
 cases row with
 |yields x y=>exact absurd rfl (h2 x y)
 |term=>cases h
 |_=>rfl
theorem qlg {rs:List RR}{i j:Nat}{x y:Str}(h:qal rs x=some j):qbp rs i (.yields x y)=qca rs i j y:=by
 show (match qal rs x with|none=>_|some j=>qca rs i j y)=_
 rw[h]
theorem qic {rs:List RR}{i j:Nat}{x w o:Str}{d:Bool}{y:Str}{m:Int}{u:Str}{r:RR}(h:qal rs x=some j)(hr:rs[j]?=some r):qbp rs i (.term x w o d y m u)=match r.base with|none=>.ok rs|some y=>if (qal rs y).isSome=true then .ok rs else .error (.term y):=by
 show (match qal rs x with|none=>_|some j=>_)=_
 rw[h]
 dsimp only
 rw[qfr hr]
noncomputable def qad:List RR->Nat->List (Option Rw7)->Except Er (List RR)
 |rs,_,[]=>.ok rs
 |rs,i,o::t=>if i=40 then .error (.rule i) else match o with
  |none=>.error (.rule i)
  |some row=>match qbx rs i row with
   |.error e=>.error e
   |.ok rs'=>qad rs' (i+1) t
noncomputable def qat:List RR->Nat->List Rw7->Except Er (List RR)
 |rs,_,[]=>.ok rs
 |rs,i,row::t=>match qbp rs i row with
  |.error e=>.error e
  |.ok rs'=>qat rs' (i+1) t
noncomputable def opR (l:Str):Option Rw7:=qgp (Ce l (wS " "))
noncomputable def qhr (ls:List Str):List (Option Rw7):=ls.map opR
noncomputable def qcc (ls:List Str):Except Er (List RR):=match qad [] 0 (qhr ls) with
 |.error e=>.error e
 |.ok rs=>qat rs 0 ((qhr ls).filterMap id)
theorem qaw (rs:List RR)(i:Nat)(o:Option Rw7)(t:List (Option Rw7)):qad rs i (o::t)=if i=40 then .error (.rule i) else match o with
  |none=>.error (.rule i)
  |some row=>match qbx rs i row with
   |.error e=>.error e
   |.ok rs'=>qad rs' (i+1) t:=rfl
theorem qdd (rs:List RR)(i:Nat)(row:Rw7)(t:List Rw7):qat rs i (row::t)=match qbp rs i row with
  |.error e=>.error e
  |.ok rs'=>qat rs' (i+1) t:=rfl
theorem qcp:∀(xs ys:List (Option Rw7))(rs:List RR)(i:Nat),qad rs i (xs++ys)=match qad rs i xs with | .error e=>.error e | .ok rs'=>qad rs' (i+xs.length) ys
 | [],ys,rs,i=>rfl
 |o::xs,ys,rs,i=>by
  show qad rs i (o::(xs++ys))=_
  rw[qaw,qaw]
  by_cases c:i=40
  .rw[if_pos c,if_pos c]
  .rw[if_neg c,if_neg c]
   cases o with
   |none=>rfl
   |some row =>
    dsimp only
    cases qbx rs i row with
    |error e=>rfl
    |ok rs' =>
     dsimp only
     rw[qcp xs ys rs' (i+1),At,show i+1+xs.length=i+(xs.length+1) by lia]
theorem qe5:∀(xs ys:List Rw7)(rs:List RR)(i:Nat),qat rs i (xs++ys)=match qat rs i xs with | .error e=>.error e | .ok rs'=>qat rs' (i+xs.length) ys
 | [],ys,rs,i=>rfl
 |row::xs,ys,rs,i=>by
  show qat rs i (row::(xs++ys))=_
  rw[qdd,qdd]
  cases qbp rs i row with
  |error e=>rfl
  |ok rs' =>
   dsimp only
   rw[qe5 xs ys rs' (i+1),At,show i+1+xs.length=i+(xs.length+1) by lia]
theorem qjr {os:List (Option Rw7)}{i:Nat}{rs:List RR}{o:Option Rw7}(h:qad [] 0 (os.take i)=.ok rs)(hi:os[i]?=some o):qad [] 0 os=qad rs i (o::os.drop (i+1))/\qad [] 0 (os.take (i+1))=qad rs i [o]:=by
 have lt:=(Ac.mp hi).1
 have e:os=os.take i++(o::os.drop (i+1)):=by
  have:=AK i os
  rw[Cp lt]at this
  rw[Ae lt]at hi
  cases hi
  exact this.symm
 have l:(os.take i).length=i:=by rw[Av];lia
 constructor
 .conv=>lhs;rw[e]
  rw[qcp,h]
  dsimp only
  rw[l,CJ]
 .rw[qbb hi,qcp,h]
  dsimp only
  rw[l,CJ]
theorem qhs {rw:List Rw7}{i:Nat}{rs0 rs:List RR}{row:Rw7}(h:qat rs0 0 (rw.take i)=.ok rs)(hi:rw[i]?=some row):qat rs0 0 rw=qat rs i (row::rw.drop (i+1))/\qat rs0 0 (rw.take (i+1))=qat rs i [row]:=by
 have lt:=(Ac.mp hi).1
 have e:rw=rw.take i++(row::rw.drop (i+1)):=by
  have:=AK i rw
  rw[Cp lt]at this
  rw[Ae lt]at hi
  cases hi
  exact this.symm
 have l:(rw.take i).length=i:=by rw[Av];lia
 constructor
 .conv=>lhs;rw[e]
  rw[qe5,h]
  dsimp only
  rw[l,CJ]
 .rw[qbb hi,qe5,h]
  dsimp only
  rw[l,CJ]
theorem qht {rs rs':List RR}{i:Nat}{row:Rw7}(n:i≠40)(h:qbx rs i row=.ok rs')(t:List (Option Rw7)):qad rs i (some row::t)=qad rs' (i+1) t:=by
 rw[qaw,if_neg n];dsimp only;rw[h]
theorem qlh {rs:List RR}{i:Nat}{row:Rw7}{e:Er}(n:i≠40)(h:qbx rs i row=.error e)(t:List (Option Rw7)):qad rs i (some row::t)=.error e:=by
 rw[qaw,if_neg n];dsimp only;rw[h]
theorem qjs {rs:List RR}{i:Nat}(n:i=40)(o:Option Rw7)(t:List (Option Rw7)):qad rs i (o::t)=.error (.rule i):=by
 rw[qaw,if_pos n]
theorem qqs {rs:List RR}{i:Nat}(n:i≠40)(t:List (Option Rw7)):qad rs i (none::t)=.error (.rule i):=by
 rw[qaw,if_neg n]
theorem qfh {rs rs':List RR}{i:Nat}{row:Rw7}(h:qbp rs i row=.ok rs')(t:List Rw7):qat rs i (row::t)=qat rs' (i+1) t:=by
 rw[qdd,h]
theorem qm3 {rs:List RR}{i:Nat}{row:Rw7}{e:Er}(h:qbp rs i row=.error e)(t:List Rw7):qat rs i (row::t)=.error e:=by
 rw[qdd,h]
theorem qtl {rs:List RR}{i:Nat}{x w o:Str}{d:Bool}{y:Str}{m:Int}{u:Str}(h:qal rs x=none):qbp rs i (.term x w o d y m u)=.ok rs:=by
 show (match qal rs x with|none=>_|some j=>_)=_
 rw[h]
theorem qtm {rs:List RR}{i:Nat}{x y:Str}(h:qal rs x=none):qbp rs i (.yields x y)=.ok rs:=by
 show (match qal rs x with|none=>_|some j=>_)=_
 rw[h]
theorem qcq:∀{rs rs':List RR}(x:Str),rs.map RR.name=rs'.map RR.name->qal rs x=qal rs' x
 | [],[],_,_=>rfl
 |r::rs,[],_,h=>by cases h
 | [],r::rs,_,h=>by cases h
 |r::rs,r'::rs',x,h=>by
  rw[A4,A4]at h
  injection h with h1 h2
  rw[qcj,qcj,h1,qcq x h2]
theorem qid:∀(rs:List RR)(r:RR)(x:Str),qal (rs++[r]) x=match qal rs x with|some j=>some j|none=>if r.name=x then some rs.length else none
 | [],r,x=>by
  show qal [r] x=_
  rw[qcj]
  show (if r.name=x then some 0 else none)=if r.name=x then some 0 else none
  rfl
 |r'::rs,r,x=>by
  show qal (r'::(rs++[r])) x=_
  rw[qcj,qcj,qid rs r x]
  by_cases c:r'.name=x
  .rw[if_pos c,if_pos c]
  .rw[if_neg c,if_neg c]
   cases qal rs x with
   |some j=>rfl
   |none =>
    dsimp only
    by_cases c2:r.name=x
    .rw[if_pos c2];show some _=if r.name=x then some _ else none;rw[if_pos c2];rfl
    .rw[if_neg c2];show none=if r.name=x then some _ else none;rw[if_neg c2]
theorem qg7 {rs:List RR}{j:Nat}{r r':RR}(hr:rs[j]?=some r)(hn:r'.name=r.name):(rs.set j r').map RR.name=rs.map RR.name:=by
 rw[List.map_set,hn]
 apply BG
 intro i
 rw[BW,Al]
 by_cases c:j=i
 .subst c
  rw[if_pos rfl,hr,if_pos (by rw[Ab];exact(Ac.mp hr).1)];rfl
 .rw[if_neg c]
inductive RowDid (rs:List RR) (row:Rw7) (rs':List RR):Prop where
 |new (r:RR) (t:isT row=true) (n:r.name=qaf row) (z:qal rs r.name=none) (e:rs'=rs++[r]) (l:rs.length≠6) (m:r.ends=[]/\r.anew=[]/\r.longer=[]/\r.yields=[])
 |old (j:Nat) (r:RR) (t:isT row=false) (p:qal rs (qaf row)=some j) (h:rs[j]?=some r) (u:qgq r row=false) (e:rs'=rs.set j (qcd r row))
theorem qpc {rs rs':List RR}{i:Nat}{row:Rw7}(h:qbx rs i row=.ok rs'):RowDid rs row rs':=by
 cases ht:isT row with
 |true =>
  cases row with
  |term x w o d y m u =>
   have h:qc7 rs i x w o d y m u=.ok rs':=h
   cases pn:qal rs x with
   |some j=>rw[qlc (by rw[pn];rfl)]at h;cases h
   |none =>
    by_cases c:rs.length=6\/(d=false/\o=y)
    .rw[qgr pn c]at h;cases h
    .rw[qfg pn c]at h
     cases h
     exact .new (qey x w o d y m u) rfl rfl pn rfl (λz=>c (.inl z)) ⟨rfl,rfl,rfl,rfl⟩
  |_=>cases ht
 |false =>
  rw[qdc ht]at h
  cases pn:qal rs (qaf row) with
  |none=>rw[qld pn]at h;cases h
  |some j =>
   obtain⟨r,hr,_⟩:=qck pn
   cases u:qgq r row with
   |true=>rw[qle pn hr u]at h;cases h
   |false =>
    rw[qib pn hr u]at h
    cases h
    exact .old j r ht pn hr u rfl
theorem RowDid.len {rs rs':List RR}{row:Rw7}(h:RowDid rs row rs')(l:rs.length<=6):rs'.length<=6:=by
 cases h with
 |new r _ _ _ e n _=>rw[e,Ah];show _+1<=6;lia
 |old j r _ _ _ _ e=>rw[e,BN];exact l
theorem RowDid.bn {rs rs':List RR}{row:Rw7}{n:Nat}(h:RowDid rs row rs')(b:Bn n rs):Bn (n+1) rs':=by
 have up:∀r∈rs,r.ends.length<=n+1/\r.anew.length<=n+1/\r.longer.length<=n+1/\r.yields.length<=n+1:=λr hr=>by
  obtain⟨h1,h2,h3,h4⟩:=b r hr
  exact⟨by lia,by lia,by lia,by lia⟩
 cases h with
 |new r _ _ _ e _ m =>
  obtain⟨m1,m2,m3,m4⟩:=m
  intro r2 h2
  rw[e]at h2
  rcases Au.mp h2 with z|z
  .exact up r2 z
  .rw[Ak.mp z,m1,m2,m3,m4];exact⟨B7 _,B7 _,B7 _,B7 _⟩
 |old j r t _ hr _ e =>
  intro r2 h2
  rw[e]at h2
  rcases Cq h2 with z|z
  .exact up r2 z
  .rw[z]
   obtain⟨h1,h2,h3,h4⟩:=b r (Ai hr)
   cases row <;>(simp only[qcd,Ah,At,Cn];lia)
theorem RowDid.has {rs rs':List RR}{row:Rw7}(h:RowDid rs row rs'):(qal rs' (qaf row)).isSome=true/\∀x,(qal rs x).isSome=true->(qal rs' x).isSome=true:=by
 cases h with
 |new r t n z e _ _ =>
  rw[e]
  refine⟨?_,λx hx=>?_⟩
  .rw[qid,<- n,z];dsimp only;rw[if_pos rfl];rfl
  .rw[qid]
   cases p:qal rs x with
   |none=>rw[p]at hx;cases hx
   |some j=>rfl
 |old j r t p hr u e =>
  have en:=qg7 hr (qe4 r row)
  rw[e]
  exact⟨by rw[qcq _ en,p];rfl,λx hx=>by rw[qcq _ en];exact hx⟩
noncomputable def qyg (rs:List RR)(rw:List Rw7):Prop:=∀r∈rs,∃row∈rw,isT row=true/\qaf row=r.name
theorem RowDid.hasT {rs rs':List RR}{row:Rw7}{rw:List Rw7}(h:RowDid rs row rs')(b:qyg rs rw):qyg rs' (rw++[row]):=by
 have up:∀r∈rs,∃row'∈rw++[row],isT row'=true/\qaf row'=r.name:=λr hr=>by
  obtain⟨q,h1,h2⟩:=b r hr
  exact⟨q,AO _ h1,h2⟩
 cases h with
 |new r t n z e _ _ =>
  intro r2 h2
  rw[e]at h2
  rcases Au.mp h2 with q|q
  .exact up r2 q
  .rw[Ak.mp q];exact⟨row,by simp,t,n.symm⟩
 |old j r t p hr u e =>
  intro r2 h2
  rw[e]at h2
  rcases Cq h2 with q|q
  .exact up r2 q
  .rw[q,qe4];exact up r (Ai hr)
structure SetDid (rs rs':List RR):Prop where
 nm:rs'.map RR.name=rs.map RR.name
 ba:rs'.map RR.base=rs.map RR.base
theorem qli {rs rs':List RR}{i:Nat}{row:Rw7}(h:qbp rs i row=.ok rs'):SetDid rs rs'/\∀n,Bn n rs->Bn (n+1) rs':=by
 have same:rs'=rs->SetDid rs rs'/\∀n,Bn n rs->Bn (n+1) rs':=λe=>by
  subst e
  exact⟨⟨rfl,rfl⟩,λn b r hr=>by obtain⟨h1,h2,h3,h4⟩:=b r hr;exact⟨by lia,by lia,by lia,by lia⟩⟩
 cases row with
 |term x w o d y m u =>
  cases pn:qal rs x with
  |none =>
   rw[qtl pn]at h
   cases h;exact same rfl
  |some j =>
   obtain⟨r,hr,_⟩:=qck pn
   rw[qic pn hr]at h
   cases eb:r.base with
   |none=>rw[eb]at h;cases h;exact same rfl
   |some z =>
    rw[eb]at h
    dsimp only at h
    split at h
    .cases h;exact same rfl
    .cases h
 |yields x y =>
  cases pn:qal rs x with
  |none =>
   rw[qtm pn]at h
   cases h;exact same rfl
  |some j =>
   obtain⟨r,hr,_⟩:=qck pn
   rw[qlg pn]at h
   cases py:qal rs y with
   |none=>rw[qlf py]at h;cases h
   |some l =>
    obtain⟨s,hs,_⟩:=qck py
    by_cases c:y=r.name\/y∈r.yields\/s.owes≠r.owes
    .rw[qfs py hr hs c]at h;cases h
    .rw[qhq py hr hs c]at h
     cases h
     refine⟨⟨qg7 hr rfl,?_⟩,λn b r2 h2=>?_⟩
     .rw[List.map_set]
      apply BG
      intro i
      rw[BW,Al]
      by_cases c:j=i
      .subst c
       rw[if_pos rfl,hr,if_pos (by rw[Ab];exact(Ac.mp hr).1)];rfl
      .rw[if_neg c]
     .rcases Cq h2 with z|z
      .obtain⟨h1,h2,h3,h4⟩:=b r2 z;exact⟨by lia,by lia,by lia,by lia⟩
      .rw[z]
       obtain⟨h1,h2,h3,h4⟩:=b r (Ai hr)
       simp only[Ah,At,Cn]
       lia
 |ends=>cases h;exact same rfl
 |anew=>cases h;exact same rfl
 |longer=>cases h;exact same rfl
 |still=>cases h;exact same rfl
theorem qpd {rs rs':List RR}{i:Nat}{row:Rw7}(h:qbp rs i row=.ok rs')(t:isT row=true){j:Nat}{r:RR}(p:qal rs (qaf row)=some j)(hr:rs[j]?=some r):∀y,r.base=some y->(qal rs y).isSome=true:=by
 cases row with
 |term x w o d y m u =>
  intro z eb
  rw[qic (x:=x) p hr,eb]at h
  dsimp only at h
  by_cases c:(qal rs z).isSome=true
  .exact c
  .rw[if_neg c]at h;cases h
 |_=>cases t
noncomputable def bsR (rs:List RR):List (Option Nat):=rs.map λr=>r.base.bind (qal rs)
noncomputable def qje (rs:List RR):Prop:=∀r∈rs,∀y,r.base=some y->(qal rs y).isSome=true
theorem qyh {rs0 rs:List RR}{rw:List Rw7}(h:qat rs0 0 rw=.ok rs)(nn:(rs0.map RR.name).Nodup)(t:qyg rs0 rw):qje rs:=by
 have w:∀i,i<=rw.length->∃ri,qat rs0 0 (rw.take i)=.ok ri/\SetDid rs0 ri/\∀row∈rw.take i,isT row=true->∀(j:Nat)(r:RR),rs0[j]?=some r->r.name=qaf row->∀y,r.base=some y->(qal rs0 y).isSome=true:=by
  intro i
  induction i with
  |zero=>exact λ_=>⟨rs0,rfl,⟨rfl,rfl⟩,λrow hr=>by rw[DO]at hr;cases hr⟩
  |succ i ih =>
   intro hi
   obtain⟨ri,h1,h2,h3⟩:=ih (by lia)
   obtain⟨row,hrow⟩:∃row,rw[i]?=some row:=⟨_,Ae (by lia)⟩
   obtain⟨e1,e2⟩:=qhs h1 hrow
   cases es:qbp ri i row with
   |error e=>rw[e1,qm3 es]at h;cases h
   |ok r' =>
    rw[qfh es]at e2
    obtain⟨d1,_⟩:=qli es
    refine⟨r',e2,⟨d1.nm.trans h2.nm,d1.ba.trans h2.ba⟩,λrow' hr' ht j r hj hn y hy=>?_⟩
    rw[qbb hrow]at hr'
    rcases Au.mp hr' with z|z
    .exact h3 row' z ht j r hj hn y hy
    .rw[Ak.mp z]at ht hn
     have pj:qal ri (qaf row)=some j:=by rw[qcq _ h2.nm,<- hn];exact qg6 nn hj
     obtain⟨r2,hr2,_⟩:=qck pj
     have eb:r2.base=r.base:=by
      have q1:(ri.map RR.base)[j]?=some r2.base:=by rw[Al,hr2];rfl
      rw[h2.ba,Al,hj]at q1
      exact(AD q1).symm
     have:=qpd es ht pj hr2 y (by rw[eb];exact hy)
     rw[qcq _ h2.nm]at this
     exact this
 obtain⟨ri,h1,h2,h3⟩:=w _ (A3 _)
 rw[B0]at h1 h3
 rw[h1]at h
 cases h
 intro r hr y hy
 obtain⟨j,hj⟩:=Bb hr
 have lj:j<rs0.length:=by
  have:=congrArg Cv h2.nm
  rw[Ab,Ab]at this
  rw[<- this];exact(Ac.mp hj).1
 have hj0:rs0[j]?=some rs0[j]:=Ae lj
 have en:rs0[j].name=r.name:=by
  have q1:(rs.map RR.name)[j]?=some r.name:=by rw[Al,hj];rfl
  rw[h2.nm,Al,hj0]at q1
  exact AD q1
 have eb:rs0[j].base=r.base:=by
  have q1:(rs.map RR.base)[j]?=some r.base:=by rw[Al,hj];rfl
  rw[h2.ba,Al,hj0]at q1
  exact AD q1
 obtain⟨row,hrow,ht,hn⟩:=t _ (Ai hj0)
 rw[qcq _ h2.nm]
 exact h3 row hrow ht j _ hj0 hn.symm y (by rw[eb];exact hy)
theorem wr_of {rs:List RR}(nn:(rs.map RR.name).Nodup)(l:rs.length<=6):Wr (rs.map RR.name) (bsR rs):=⟨nn,by unfold bsR;rw[Ab,Ab],by rw[Ab];exact l,λk b e=>by
 unfold bo bsR at e
 rw[AC,Al]at e
 cases er:rs[k]? with
 |none=>rw[er]at e;cases e
 |some r =>
  rw[er]at e
  cases eb:r.base with
  |none=>rw[show (Option.map (λr:RR=>r.base.bind (qal rs)) (some r)).getD none=r.base.bind (qal rs) from rfl,eb]at e;cases e
  |some y =>
   rw[show (Option.map (λr:RR=>r.base.bind (qal rs)) (some r)).getD none=r.base.bind (qal rs) from rfl,eb]at e
   have e:qal rs y=some b:=e
   obtain⟨r2,h2,_⟩:=qck e
   rw[Ab]
   exact(Ac.mp h2).1⟩
theorem qv5 {rs:List RR}(ok:qje rs){k:Nat}{r:RR}(h:rs[k]?=some r):qh8 (rs.map RR.name) (bo (bsR rs) k)=qd8 r.base:=by
 unfold bo bsR
 rw[AC,Al,h]
 show qh8 _ (r.base.bind (qal rs))=_
 cases eb:r.base with
 |none=>rfl
 |some y =>
  have:=ok r (Ai h) y eb
  show qh8 _ (qal rs y)=.str y
  cases ep:qal rs y with
  |none=>rw[ep]at this;cases this
  |some j =>
   obtain⟨r2,h2,h3⟩:=qck ep
   show V.str (nm (rs.map RR.name) j)=_
   unfold nm
   rw[AC,Al,h2]
   show V.str r2.name=_
   rw[h3]
theorem nm_R {rs:List RR}{k:Nat}{r:RR}(h:rs[k]?=some r):nm (rs.map RR.name) k=r.name:=by
 unfold nm
 rw[AC,Al,h];rfl
structure Lng (ls:List Str):Prop where
 n:ls.length<=100
 c:∀l∈ls,l.cps.size<=200/\10∉l.cps.toList
 e:ls≠[wS ""]
theorem qy7 {c:Nat}:∀{ps:List (List Nat)},(∀p∈ps,p.length<=200)->(jl c ps).length<=201*ps.length
 | [],_=>A3 _
 | [x],h=>by
  have:=h x Am
  show x.length<=201*1
  lia
 |x::y::r,h=>by
  have h1:=h x Am
  have h2:=qy7 (c:=c) (ps:=y::r) λp hp=>h p (Ar _ hp)
  show (x++c::jl c (y::r)).length<=201*(r.length+1+1)
  rw[Ah,At]
  rw[At]at h2
  lia
theorem qv6 {ls:List Str}(h:Lng ls):(qev ls).cps.size<=20100:=by
 rw[<- AQ,show (qev ls).cps.toList=jl 10 (ls.map λp=>p.cps.toList) from qc0 10 _]
 have:=qy7 (c:=10) (ps:=ls.map λp=>p.cps.toList) λp hp=>by
  obtain⟨l,hl,rfl⟩:=AM.mp hp
  rw[AQ];exact(h.c l hl).1
 rw[Ab]at this
 have:=h.n
 lia
theorem qyi {ls:List Str}(h:Lng ls)(ne:ls≠[]):(qev ls).cps.size≠0:=by
 rw[<- AQ,show (qev ls).cps.toList=jl 10 (ls.map λp=>p.cps.toList) from qc0 10 _]
 cases ls with
 |nil=>exact absurd rfl ne
 |cons x r =>
  cases r with
  |nil =>
   intro z
   have z:x.cps.toList.length=0:=z
   exact h.e (by rw[str_ext (x:=x) (y:=wS "") (by rw[List.eq_nil_of_length_eq_zero z];decide +kernel)])
  |cons y r =>
   show (x.cps.toList++10::jl 10 _).length≠0
   rw[Ah,At];lia
noncomputable def spLnG:Sp:=λvs H Q _=>∃ls:List Str,vs=[.str (qev ls)]/\Lng ls/\∀(q:Addr)(H':Hp),H q=none->Same H H'->H' q=some (.lst (ls.map V.str))->Q (.ref q) H'
noncomputable def BkX (a:Adr)(H:Hp)(x:Addr)(rs:List RR)(As:List RA)(os:List Nat):Prop:=∃dx po d:Addr,H x=some (.ins a.kJ dx (bfs po d))/\H po=some (.lst ((os.map (nm (rs.map RR.name))).map V.str))/\H d=some (.dK (dcR rs As))
structure BkAt (a:Adr)(H:Hp)(x:Addr)(rs:List RR)(As:List RA)(os:List Nat):Prop where
 bk:BkX a H x rs As os
 ln:As.length=rs.length
 nn:(rs.map RR.name).Nodup
 l6:rs.length<=6
 ru:∀(i:Nat)(r:RR)(A:RA),rs[i]?=some r->As[i]?=some A->RuX a.k7 H A r
 os:Ors (bsR rs) rs.length os
 ba:qje rs
noncomputable def spBIG (a:Adr):Sp:=λvs H Q E=>∃(x dx pr:Addr)(rs:List RR)(As:List RA),vs=[.ref x,.ref pr]/\H x=some (.ins a.kJ dx [])/\H pr=some (.lst (As.map λA=>.ref A.p))/\As.length=rs.length/\(rs.map RR.name).Nodup/\rs.length<=6/\qje rs/\(∀(i:Nat)(r:RR)(A:RA),rs[i]?=some r->As[i]?=some A->RuX a.k7 H A r) /\
 (∀H' os,SameBut x H H'->BkX a H' x rs As os->Ors (bsR rs) rs.length os->Q .non H')/\OutR a (rs.map RR.name) (bsR rs) H E
noncomputable def spTn (a:Adr):Sp:=λvs H Q _=>∃(x:Addr)(rs:List RR)(As:List RA)(os:List Nat),vs=[.ref x]/\BkX a H x rs As os/\As.length=rs.length/\rs.length<=6/\∀(q:Addr)(H':Hp),H q=none->Same H H'->H' q=some (.lst ((rs.map RR.name).map V.str))->Q (.ref q) H'
noncomputable def spBkG (a:Adr):Sp:=λvs H Q E=>∃ls:List Str,vs=[.str (qev ls)]/\Lng ls/\(∀rs,qcc ls=.ok rs->(∀(x:Addr)(H':Hp)(As:List RA)(os:List Nat),Same H H'->BkAt a H' x rs As os->Q (.ref x) H')/\OutR a (rs.map RR.name) (bsR rs) H E)/\∀e,qcc ls=.error e->OutE a e H E
theorem Ru_of {a:Adr}{H:Hp}{A:RA}{r:RR}(h:RuX a.k7 H A r):Ru a.k7 H (.ref A.p) r.name (qd8 r.base):=by
 obtain⟨v,us,h⟩:=h
 exact⟨A.p,A.dx,_,rfl,h.hx,rfl,rfl⟩
theorem rus_of {a:Adr}{H:Hp}{rs:List RR}{As:List RA}(ln:As.length=rs.length)(ok:qje rs)(ru:∀(i:Nat) (r:RR) (A:RA),rs[i]?=some r->As[i]?=some A->RuX a.k7 H A r):Rus a.k7 H (As.map λA=>.ref A.p) (rs.map RR.name) (bsR rs):=by
 refine⟨by rw[Ab,Ab,ln],λj y e=>?_⟩
 rw[Al]at e
 cases eA:As[j]? with
 |none=>rw[eA]at e;cases e
 |some A =>
  rw[eA]at e
  cases e
  have lj:j<rs.length:=by rw[<- ln];exact(Ac.mp eA).1
  have hr:rs[j]?=some rs[j]:=Ae lj
  rw[nm_R hr,qv5 ok hr]
  exact Ru_of (ru j _ A hr eA)
theorem Sta.inn {C:Addr}{H:Hp}{d:Addr}{rs:List RR}{As:List RA}(st:Sta C H d rs As):∀z∈d::As.flatMap own,H z≠none:=λz hz e=>by
 rcases An.mp hz with rfl|hz
 .rw[st.hd]at e;cases e
 .obtain⟨A',hA',hz'⟩:=Bs.mp hz
  obtain⟨jA,hjA⟩:=Bb hA'
  have lj:jA<rs.length:=by rw[<- st.ln];exact(Ac.mp hjA).1
  obtain⟨v',us',ry⟩:=st.ru jA _ A' (Ae lj) hjA
  simp only[own,An,Ax,or_false]at hz'
  rcases hz' with rfl|rfl|rfl|rfl|rfl
  .rw[ry.hx]at e;cases e
  .rw[ry.he]at e;cases e
  .rw[ry.ha]at e;cases e
  .rw[ry.hl]at e;cases e
  .rw[ry.hy]at e;cases e
theorem Sta.keep {C:Addr}{H H':Hp}{d:Addr}{rs:List RR}{As:List RA}{S:List Addr}(st:Sta C H d rs As)(k:KeepT S H H')(n:∀z∈d::As.flatMap own,z∉S):Sta C H' d rs As :=
 ⟨k _ _ (.inl (n d Am)) st.hd,st.ln,st.nd,st.nn,λi r A h1 h2=>(st.ru i r A h1 h2).keep k λz hz=>n z (Ar _ (qn2 h2 z hz))⟩
structure RB (a:Adr)(H0 H:Hp)(d q ql:Addr)(ls:List Str)(i:Nat)(rs:List RR)(As:List RA)(rv:List V)(rows:List Rw7):Prop where
 sm:Same H0 H
 hl:H ql=some (.lst (ls.map V.str))
 st:Sta a.k7 H d rs As
 hq:H q=some (.lst rv)
 rl:rv.length=rows.length
 rr:∀(j:Nat)(y:V),rv[j]?=some y->∃p row,y=.ref p/\rows[j]?=some row/\H p=some (.lst (qcy row))/\p∉d::As.flatMap own/\p≠q
 ro:(qhr ls).take i=rows.map some
 rd:qad [] 0 ((qhr ls).take i)=.ok rs
 bn:Bn i rs
 l6:rs.length<=6
 ht:qyg rs rows
 nm:∀row∈rows,(qal rs (qaf row)).isSome=true
 qo:q∉d::As.flatMap own
 lo:ql∉d::As.flatMap own
 nq:ql≠q
 fr:∀z∈q::d::As.flatMap own,H0 z=none
theorem RB.same {a:Adr}{H0 H H':Hp}{d q ql:Addr}{ls:List Str}{i:Nat}{rs:List RR}{As:List RA}{rv:List V}{rows:List Rw7}(b:RB a H0 H d q ql ls i rs As rv rows)(s:Same H H'):RB a H0 H' d q ql ls i rs As rv rows :=
 ⟨b.sm.trans s,s _ _ b.hl,b.st.same s,s _ _ b.hq,b.rl,λj y e=>by obtain⟨p,row,h1,h2,h3,h4⟩:=b.rr j y e;exact⟨p,row,h1,h2,s _ _ h3,h4⟩,b.ro,b.rd,b.bn,b.l6,b.ht,b.nm,b.qo,b.lo,b.nq,b.fr⟩
theorem RB.next {a:Adr}{H0 J1 H2:Hp}{d q ql qr:Addr}{ls:List Str}{i:Nat}{rs rs':List RR}{As As':List RA}{rv:List V}{rows:List Rw7}{row:Rw7}(b:RB a H0 J1 d q ql ls i rs As rv rows)(hqr:J1 qr=some (.lst (qcy row)))(nqr:qr∉d::As.flatMap own)(nqq:qr≠q)(hop:(qhr ls)[i]?=some (some row))(n40:i≠40)(rd':qbx rs i row=.ok rs')
  (k:KeepT (d::As.flatMap own) J1 H2) (f:Frs J1 As As') (st':Sta a.k7 H2 d rs' As'):RB a H0 (upd H2 q (.lst (rv++[.ref qr]))) d q ql ls (i+1) rs' As' (rv++[.ref qr]) (rows++[row]):=by
 have did:=qpc rd'
 have ap:∀z,z∉d::As.flatMap own->J1 z≠none->z∉d::As'.flatMap own:=λz hz hn h=>by
  rcases An.mp h with e|h
  .exact hz (by rw[e];exact Am)
  .rcases f z h with g|g
   .exact hz (Ar _ g)
   .exact hn g
 have nq:J1 q≠none:=λz=>by rw[b.hq]at z;cases z
 have q2:H2 q=some (.lst rv):=k _ _ (.inl b.qo) b.hq
 have qo:=ap q b.qo nq
 have kq:KeepT [q] H2 (upd H2 q (.lst (rv++[.ref qr]))):=KeepT.put (Ak.mpr rfl) q2 (λ_ z=>nomatch z)
 have kl:∀{p:Addr}{xs:List V},J1 p=some (.lst xs)->p∉d::As.flatMap own->p≠q->upd H2 q (.lst (rv++[.ref qr])) p=some (.lst xs):=λh1 h2 h3=>by
  rw[zh h3];exact k _ _ (.inl h2) h1
 refine⟨λx o e=>?_,kl b.hl b.lo b.nq,st'.keep kq λz hz hz2=>qo (by rw[<- Ak.mp hz2];exact hz),zd,by rw[Ah,Ah,b.rl];rfl,λj y e=>?_,by rw[qbb hop,b.ro,Aq];rfl,?_,did.bn b.bn,did.len b.l6,did.hasT b.ht,λr hr=>?_,qo,ap ql b.lo (λz=>by rw[b.hl]at z;cases z),b.nq,λz hz=>?_⟩
 .have nz:∀z∈q::d::As.flatMap own,x≠z:=λz hz q=>by rw[q,b.fr z hz]at e;cases e
  rw[zh (nz q Am)]
  exact k _ _ (.inl λz=>nz x (Ar _ z) rfl) (b.sm _ _ e)
 .by_cases c:j<rv.length
  .rw[AF c]at e
   obtain⟨p,row',h1,h2,h3,h4,h5⟩:=b.rr j y e
   exact⟨p,row',h1,by rw[AF (by rw[<- b.rl];exact c)];exact h2,kl h3 h4 h5,ap p h4 (λz=>by rw[h3]at z;cases z),h5⟩
  .rw[A9 (by lia)]at e
   have l1:j-rv.length<1:=(Ac.mp e).1
   have l2:=b.rl
   rw[show j-rv.length=0 by lia]at e
   cases e
   exact⟨qr,row,rfl,by rw[A9 (by lia),show j-rows.length=0 by lia];rfl,kl hqr nqr nqq,ap qr nqr (λz=>by rw[hqr]at z;cases z),nqq⟩
 .rw[(qjr b.rd hop).2,qht n40 rd' []];rfl
 .rcases Au.mp hr with z|z
  .exact did.has.2 _ (b.nm r z)
  .rw[Ak.mp z];exact did.has.1
 .rcases An.mp hz with e|hz
  .rw[e];exact b.fr q Am
  .rcases An.mp hz with e|hz
   .rw[e];exact b.fr d (Ar _ Am)
   .rcases f z hz with g|g
    .exact b.fr z (Ar _ (Ar _ g))
    .exact b.sm.free g
structure SB (a:Adr)(H0 H:Hp)(d q:Addr)(i:Nat)(rs0 rs:List RR)(As:List RA)(rv:List V)(rows:List Rw7):Prop where
 sm:Same H0 H
 st:Sta a.k7 H d rs As
 hq:H q=some (.lst rv)
 rl:rv.length=rows.length
 rr:∀(j:Nat)(y:V),rv[j]?=some y->∃p row,y=.ref p/\rows[j]?=some row/\H p=some (.lst (qcy row))/\p∉d::As.flatMap own/\p≠q
 sd:SetDid rs0 rs
 se:qat rs0 0 (rows.take i)=.ok rs
 bn:Bn (100+i) rs
 nm:∀row∈rows,(qal rs (qaf row)).isSome=true
 qo:q∉d::As.flatMap own
 fr:∀z∈q::d::As.flatMap own,H0 z=none
theorem SB.same {a:Adr}{H0 H H':Hp}{d q:Addr}{i:Nat}{rs0 rs:List RR}{As:List RA}{rv:List V}{rows:List Rw7}(b:SB a H0 H d q i rs0 rs As rv rows)(s:Same H H'):SB a H0 H' d q i rs0 rs As rv rows :=
 ⟨b.sm.trans s,b.st.same s,s _ _ b.hq,b.rl,λj y e=>by obtain⟨p,row,h1,h2,h3,h4⟩:=b.rr j y e;exact⟨p,row,h1,h2,s _ _ h3,h4⟩,b.sd,b.se,b.bn,b.nm,b.qo,b.fr⟩
theorem SB.next {a:Adr}{H0 H H2:Hp}{d q:Addr}{i:Nat}{rs0 rs rs':List RR}{As:List RA}{rv:List V}{rows:List Rw7}{row:Rw7}(b:SB a H0 H d q i rs0 rs As rv rows)(hi:rows[i]?=some row)(h:qbp rs i row=.ok rs')(k:KeepT (d::As.flatMap own) H H2)(st':Sta a.k7 H2 d rs' As):SB a H0 H2 d q (i+1) rs0 rs' As rv rows:=by
 obtain⟨did,bn⟩:=qli h
 refine⟨λx o e=>k _ _ (.inl λz=>?_) (b.sm _ _ e),st',k _ _ (.inl b.qo) b.hq,b.rl,λj y e=>?_,⟨did.nm.trans b.sd.nm,did.ba.trans b.sd.ba⟩,?_,bn _ b.bn,λr hr=>by rw[qcq _ did.nm];exact b.nm r hr,b.qo,b.fr⟩
 .rw[b.fr x (Ar _ z)]at e;cases e
 .obtain⟨p,row',h1,h2,h3,h4,h5⟩:=b.rr j y e
  exact⟨p,row',h1,h2,k _ _ (.inl h4) h3,h4,h5⟩
 .rw[(qhs b.se hi).2,qfh h []];rfl
theorem qkb {α:Type}(l:List α):(l.map some).filterMap id=l:=by
 induction l with
 |nil=>rfl
 |cons x l ih=>rw[A4,C0];dsimp only[id];rw[ih]
noncomputable def owA (ns:List Int)(k:Nat):Nat:=(cell ns (3+5*(k:Int)) % 3).toNat
noncomputable def rkA (ns:List Int)(k:Nat):Int:=((k:Int)*(1+cell ns 0 / 21 % 6)+cell ns 0 / 21 / 6) % 7
theorem sgn_ed {c:Int}{e i:Nat}(ee:c % 2=(e:Int)):(c / 128+(i:Int) / (1+c % 2)) % 26=(((sgn (c / 128) e i-97:Nat)):Int):=by
 rw[ee]
 unfold sgn
 have:(i:Int) / (1+(e:Int))=((i / (1+e):Nat):Int):=by
  rw[Int.natCast_ediv]
  rfl
 rw[this]
 clear this ee
 lia
theorem sgn_26 {t:Int}{e i:Nat}:sgn t e i-97<26:=by unfold sgn;lia
theorem sgn_97 {t:Int}{e i:Nat}:97+(sgn t e i-97)=sgn t e i:=by unfold sgn;lia
theorem md (c:Int)(m:Nat)(h:0<m):∃j:Nat,c % (m:Int)=(j:Int)/\j<m:=by
 have z0:=Ei c (show (m:Int)≠0 by lia)
 have z1:=DB c (show (0:Int)<(m:Int) by lia)
 exact⟨(c % (m:Int)).toNat,by lia,by lia⟩
theorem mdl (c:Int)(m:Nat):∃j:Nat,c % ((m+1:Nat):Int)=(j:Int)/\j<=m:=by
 obtain⟨j,e,h⟩:=md c (m+1) (C2 _)
 exact⟨j,e,Nat.le_of_lt_succ h⟩
theorem num46 (c:Int):∃z n e:Nat,1+c % 2+c / 2 % (8-c % 2)=(z:Int)/\c / 16 % ((z:Int)-c % 2)=(n:Int)/\c % 2=(e:Int)/\e<=1/\n+1+e<=z/\z<=8/\0<8-c % 2/\0<(z:Int)-c % 2:=by
 have sB:=sizeB c
 obtain⟨e,ee,he⟩:=mdl c 1
 have ee:c % 2=(e:Int):=ee
 obtain⟨z,ez⟩:=Int.eq_ofNat_of_zero_le (a:=1+c % 2+c / 2 % (8-c % 2)) (by lia)
 rw[ez]at sB |-
 obtain⟨n,en,hn⟩:=md (c / 16) (z-e) (by lia)
 rw[show ((z-e:Nat):Int)=(z:Int)-c % 2 by lia]at en
 exact⟨z,n,e,rfl,en,ee,he,by lia,by lia,by lia,by lia⟩
theorem cd2 {c i:Int}{e:Nat}(ee:c % 2=(e:Int))(he:e<=1):qw2 i (1+c % 2):=⟨by lia,by lia⟩
theorem eo1 {c:Int}{e:Nat}(ee:c % 2=(e:Int))(h:c % 2=1):e=1:=by lia
theorem io1 {i:Nat}(h:(i:Int) % 2=1):i % 2=1:=by lia
theorem ne1 {c:Int}{e:Nat}(ee:c % 2=(e:Int))(h:¬c % 2=1):¬e=1:=by lia
theorem ni1 {i:Nat}(h:¬(i:Int) % 2=1):¬i % 2=1:=by lia
theorem cdA {c:Int}{i g:Nat}(h:i<g)(k:g<=2):qw2 c (40+811*(i:Int)):=⟨by lia,by lia⟩
theorem cdB {c:Int}{i g:Nat}(h:i<g)(k:g<=2):qw2 c (797+13*(i:Int)):=⟨by lia,by lia⟩
theorem om (x:Int){m:Int}(h:0<m):1<=1+x % m/\1+x % m<=m:=by
 have z0:=Ei x (show m≠0 by lia)
 have z1:=DB x h
 lia
theorem qr6 {ns:List Int}{k:Nat}:cell ns (3+5*(k:Int)) % 3=((owA ns k:Nat):Int):=by unfold owA;lia
theorem owA_l {ns:List Int}{k:Nat}:owA ns k<3:=by unfold owA;lia
structure YlOk (names:List Str)(ow:Nat->Nat)(k:Nat)(ys:List Str):Prop where
 nd:ys.Nodup
 ok:∀y∈ys,∃b,b<names.length/\y=nm names b/\b≠k/\ow b=ow k
noncomputable def spYl (K:Ag):Sp:=λvs H Q _=>∃(l pn:Addr)(ns:List Int)(k:Nat)(names:List Str),vs=[.ref l,.int (k:Int),.ref pn]/\SqL K H l (ns.map V.int)/\H pn=some (.lst (names.map V.str))/\names.Nodup/\k<names.length/\names.length<=6/\∀(q:Addr)(H':Hp)(ys:List Str),H q=none->Same H H'->H' q=some (.lst (ys.map V.str))->YlOk names (owA ns) k ys->Q (.ref q) H'
noncomputable def spBaL (K:Ag):Sp:=λvs H Q _=>∃(l pn:Addr)(ns:List Int)(k:Nat)(names:List Str),vs=[.ref l,.int (k:Int),.ref pn]/\SqL K H l (ns.map V.int)/\H pn=some (.lst (names.map V.str))/\k<names.length/\names.length<=6/\∀(H':Hp)(o:Option Nat),Same H H'->(∀b,o=some b->b<names.length/\rkA ns b<rkA ns k)->Q (qh8 names o) H'
theorem pos12 (j:Nat)(h:j<6):∃m:Int,atI [V.int 1,V.int 2,V.int 4,V.int 8,V.int 16,V.int 32] (j:Int)=some (.int m)/\1<=m/\m<=32:=by
 rcases (by lia:j=0\/j=1\/j=2\/j=3\/j=4\/j=5) with rfl|rfl|rfl|rfl|rfl|rfl
 .exact⟨1,rfl,Ex,Ex⟩
 .exact⟨2,rfl,Ex,Ex⟩
 .exact⟨4,rfl,Ex,Ex⟩
 .exact⟨8,rfl,Ex,Ex⟩
 .exact⟨16,rfl,Ex,Ex⟩
 .exact⟨32,rfl,Ex,Ex⟩
theorem qv7 {names:List Str}{ow:Nat->Nat}{k:Nat}{ys:List Str}(h:YlOk names ow k ys):YlOk names ow k ys.reverse:=⟨List.pairwise_reverse.mpr (h.nd.imp Bh),λy hy=>h.ok y (DY.mp hy)⟩
noncomputable def qft (r:RR)(pe pa pl:Addr)(sv:V)(py:Addr):List V:=[.str r.name,.str r.who,.str r.owes,qd8 r.opens,qd8 r.base,.int r.many,.str r.unit,.ref pe,.ref pa,.ref pl,sv,.ref py]
structure LR1 (H:Hp)(q:Addr)(r:RR)(pe pa pl py:Addr)(sv:V)(us:List V):Prop where
 hq:H q=some (.lst (qft r pe pa pl sv py))
 he:H pe=some (.lst (r.ends.map V.str))
 ha:H pa=some (.lst (r.anew.map V.str))
 hl:H pl=some (.lst us)
 tl:Tups H us (r.longer.map qqq)
 hs:StAt H sv r.still
 hy:H py=some (.lst (r.yields.map V.str))
noncomputable def LR (H:Hp)(q:Addr)(r:RR):Prop:=∃pe pa pl py sv us,LR1 H q r pe pa pl py sv us
theorem LR1.ne {H:Hp}{q:Addr}{r:RR}{pe pa pl py:Addr}{sv:V}{us:List V}(h:LR1 H q r pe pa pl py sv us){q':Addr}{r':RR}{pe' pa' pl' py':Addr}{sv':V}(h':H q'=some (.lst (qft r' pe' pa' pl' sv' py'))):pe≠q'/\pa≠q'/\pl≠q'/\py≠q':=by
 have st:∀{p:Addr}{xs:List Str},H p=some (.lst (xs.map V.str))->p≠q':=λ{p xs} hp e=>by
  rw[e,h']at hp
  injection hp with hp
  injection hp with hp
  have:=congrArg (λl=>l[5]?) hp
  rw[show (qft r' pe' pa' pl' sv' py')[5]?=some (.int r'.many) from rfl,Al]at this
  cases e5:xs[5]? with
  |none=>rw[e5]at this;cases this
  |some y=>rw[e5]at this;cases this
 refine⟨st h.he,st h.ha,λe=>?_,st h.hy⟩
 have hl:=h.hl
 rw[e,h']at hl
 injection hl with hl
 injection hl with hl
 have tl:=h.tl
 rw[<- hl]at tl
 obtain⟨b,t,e0,_,_⟩:=tl.get' (i:=0) rfl
 cases e0
theorem LR1.upd {H:Hp}{q:Addr}{r:RR}{pe pa pl py:Addr}{sv:V}{us:List V}(h:LR1 H q r pe pa pl py sv us){q':Addr}{r':RR}{pe' pa' pl' py':Addr}{sv':V}{o:HO}(h':H q'=some (.lst (qft r' pe' pa' pl' sv' py')))(n:q≠q'):LR1 (L2.upd H q' o) q r pe pa pl py sv us:=by
 obtain⟨n1,n2,n3,n4⟩:=h.ne h'
 have kt:KeepT [q'] H (L2.upd H q' o):=KeepT.put (Ak.mpr rfl) h' (λ_ z=>nomatch z)
 exact⟨(zh n).trans h.hq,(zh n1).trans h.he,(zh n2).trans h.ha,(zh n3).trans h.hl,qb4 h.tl kt,h.hs.keep kt,(zh n4).trans h.hy⟩
theorem LR1.same {H H':Hp}{q:Addr}{r:RR}{pe pa pl py:Addr}{sv:V}{us:List V}(h:LR1 H q r pe pa pl py sv us)(s:Same H H'):LR1 H' q r pe pa pl py sv us:=⟨s _ _ h.hq,s _ _ h.he,s _ _ h.ha,s _ _ h.hl,h.tl.same s,h.hs.same s,s _ _ h.hy⟩
theorem LR.same {H H':Hp}{q:Addr}{r:RR}(h:LR H q r)(s:Same H H'):LR H' q r:=by
 obtain⟨pe,pa,pl,py,sv,us,h⟩:=h
 exact⟨pe,pa,pl,py,sv,us,h.same s⟩
noncomputable abbrev nm9:=nm
structure GR (names:List Str)(ow:Nat->Nat)(rk:Nat->Int)(kinds:List Str)(k:Nat)(r:RR):Prop where
 nm:r.name=nm names k
 wh:qbs r.who
 os:r.owes=nm9 kinds (ow k)
 kd:(qav r).Nodup
 kn:∀x∈qav r,qbs x
 ks:∀x∈qav r,x∈kinds.take 12
 bo:(∃b,b<names.length/\r.base=some (nm9 names b)/\rk b<rk k/\r.opens=none)\/(r.base=none/\∃o,r.opens=some o)
 mn:1<=r.many/\r.many<=40
 un:r.unit∈qci
 lg:r.longer.length<=2/\∀t∈r.longer,(1<=t.2.1/\t.2.1<=20)/\1<=t.2.2/\t.2.2<=3
 ln:r.ends.length<=3/\r.anew.length<=2
 yl:YlOk names ow k r.yields
noncomputable def spLrl (K:Ag):Sp:=λvs H Q _=>∃(l pn pk:Addr)(ns:List Int)(k:Nat)(names kinds:List Str),vs=[.ref l,.int (k:Int),.ref pn,.ref pk]/\SqL K H l (ns.map V.int)/\H pn=some (.lst (names.map V.str))/\H pk=some (.lst (kinds.map V.str))/\names.Nodup/\k<names.length/\names.length<=6/\kinds.Nodup/\12<=kinds.length/\kinds.length<=60/\(∀x∈kinds,qbs x) /\
 ∀(q:Addr)(H':Hp)(r:RR)(pe pa pl py:Addr)(sv:V)(us:List V),H q=none->H pe=none->H pa=none->H pl=none->H py=none->Same H H'->LR1 H' q r pe pa pl py sv us->GR names (owA ns) (rkA ns) kinds k r->Q (.ref q) H'
theorem eleven {M:List Str}(h:M.length=11):∃m0 m1 m2 m3 m4 m5 m6 m7 m8 m9 m10,M=[m0,m1,m2,m3,m4,m5,m6,m7,m8,m9,m10]:=by
 match M,h with
 | [m0,m1,m2,m3,m4,m5,m6,m7,m8,m9,m10],_=>exact⟨_,_,_,_,_,_,_,_,_,_,_,rfl⟩
theorem qyj {kinds:List Str}{o t:Nat}(nd:kinds.Nodup)(l:12<=kinds.length)(ho:o<3)(ht:t<11)(nk:∀x∈kinds,qbs x):∃M:List Str,((kinds.take o++(kinds.take 12).drop (o+1)).drop t++(kinds.take o++(kinds.take 12).drop (o+1)).take t)=M/\M.length=11/\M.Nodup/\(∀x∈M,qbs x/\x∈kinds.take 12)/\nm kinds o∉M/\nm kinds o∈kinds.take 12:=by
 refine⟨_,rfl,?_,?_,?_,?_,?_⟩
 all_goals
  have lL:(kinds.take o++(kinds.take 12).drop (o+1)).length=11:=by
   rw[Ah,Av,Ba,Av];lia
  have e12:kinds.take 12=kinds.take o++nm kinds o::(kinds.take 12).drop (o+1):=by
   have e:=AK o (kinds.take 12)
   rw[CU,CC (by lia),Cp (by rw[Av];lia)]at e
   refine e.symm.trans ?_
   have eo:(kinds.take 12)[o]'(by rw[Av];lia)=nm kinds o:=by
    rw[List.getElem_take]
    unfold nm
    rw[AC,Ae (by lia)];rfl
   rw[eo]
  have nd12:(kinds.take 12).Nodup:=(BQ _ _).nodup nd
  rw[e12,AZ,Bg]at nd12
  obtain⟨n1,⟨n2,n3⟩,n4⟩:=nd12
  have ndL:(kinds.take o++(kinds.take 12).drop (o+1)).Nodup:=AZ.mpr ⟨n1,n3,λa ha b hb=>n4 a ha b (Ar _ hb)⟩
  have pm:((kinds.take o++(kinds.take 12).drop (o+1)).drop t++(kinds.take o++(kinds.take 12).drop (o+1)).take t).Perm (kinds.take o++(kinds.take 12).drop (o+1)):=by
   have:=List.perm_append_comm (l₁:=(kinds.take o++(kinds.take 12).drop (o+1)).drop t) (l₂:=(kinds.take o++(kinds.take 12).drop (o+1)).take t)
   rwa [AK]at this
 .rw[pm.length_eq,lL]
 .exact pm.nodup_iff.mpr ndL
 .intro x hx
  have hx:=pm.mem_iff.mp hx
  have:x∈kinds.take 12:=by
   rw[e12]
   rcases Au.mp hx with z|z
   .exact AO _ z
   .exact Ay _ (Ar _ z)
  exact⟨nk x (CI this),this⟩
 .intro hx
  rcases Au.mp (pm.mem_iff.mp hx) with z|z
  .exact n4 _ z _ Am rfl
  .exact n2 z
 .rw[e12];exact Ay _ Am
noncomputable def qfu (c:Int):Str:=if c % 3=0 then wS "days" else if c % 3=1 then wS "weeks" else wS "court"
theorem qyk (c:Int):atI [V.str (Aa "days"),V.str (Aa "weeks"),V.str (Aa "court")] (c % 3)=some (.str (qfu c))/\qfu c∈qci:=by
 unfold qfu
 rcases (by lia:c % 3=0\/c % 3=1\/c % 3=2) with e|e|e <;>rw[e]
 .exact⟨rfl,by simp[qci]⟩
 .exact⟨rfl,by simp[qci]⟩
 .exact⟨rfl,by simp[qci]⟩
theorem cut2 (vs:List V)(a b:Nat)(h:a<=vs.length)(h2:b<=vs.length):qhf vs (some (a:Int)) (some (b:Int))=(vs.take b).drop a:=by
 have e1:HT.sIx vs.length 0 (some (a:Int))=a:=by
  simp only[HT.sIx]
  split <;>lia
 have e2:HT.sIx vs.length vs.length (some (b:Int))=b:=by
  simp only[HT.sIx]
  split <;>lia
 unfold qhf
 rw[e1,e2]
 rw[List.drop_take]
theorem qv8 {w m0 m1 m2 m3 m4 m5 m6 m7 m8 m9 m10:Str}{e a g o s:List Str}(nd:[m0,m1,m2,m3,m4,m5,m6,m7,m8,m9,m10].Nodup)(nw:w∉[m0,m1,m2,m3,m4,m5,m6,m7,m8,m9,m10])(he:e.Sublist [m1,m2,m3])(ha:a.Sublist [m4,m5])(hg:g.Sublist [m6,m7])(ho:o.Sublist [m0])(hs:s.Sublist [m8,m9]):(([w]++e++a++g)++o++s).Nodup/\∀x∈(([w]++e++a++g)++o++s),x=w\/x∈[m0,m1,m2,m3,m4,m5,m6,m7,m8,m9,m10]:=by
 have sb:(([w]++e++a++g)++o++s).Sublist (([w]++[m1,m2,m3]++[m4,m5]++[m6,m7])++[m0]++[m8,m9]):=((((((BX _).append he).append ha).append hg).append ho).append hs)
 constructor
 .refine sb.nodup ?_
  simp only[Bi,Bd,Bg,An,Ax,or_false,not_or]at nd nw |-
  obtain⟨⟨a1,a2,a3,a4,a5,a6,a7,a8,a9,a10⟩,⟨b2,b3,b4,b5,b6,b7,b8,b9,b10⟩,⟨c3,c4,c5,c6,c7,c8,c9,c10⟩,⟨d4,d5,d6,d7,d8,d9,d10⟩,⟨e5,e6,e7,e8,e9,e10⟩,⟨f6,f7,f8,f9,f10⟩,⟨g7,g8,g9,g10⟩,⟨h8,h9,h10⟩,⟨i9,i10⟩,_⟩:=nd
  obtain⟨w0,w1,w2,w3,w4,w5,w6,w7,w8,w9,w10⟩:=nw
  exact⟨⟨w1,w2,w3,w4,w5,w6,w7,w0,w8,w9⟩,⟨b2,b3,b4,b5,b6,b7,Bh a1,b8,b9⟩,⟨c3,c4,c5,c6,c7,Bh a2,c8,c9⟩,⟨d4,d5,d6,d7,Bh a3,d8,d9⟩,⟨e5,e6,e7,Bh a4,e8,e9⟩,⟨f6,f7,Bh a5,f8,f9⟩,⟨g7,Bh a6,g8,g9⟩,⟨Bh a7,h8,h9⟩,⟨a8,a9⟩,i9,not_false,.nil⟩
 .intro x hx
  have:=sb.subset hx
  simp only[Bi,Bd,An,Ax,or_false]at this |-
  rcases this with h|h|h|h|h|h|h|h|h|h|h <;>simp[h]
theorem useV {p G:Option V->Prop}{R:Prop}(m:(∀x,p x->G x)->R)(l:∀x,p x->G x):R:=m l
noncomputable def off (p:Addr)(H:Hp):Hp:=λb=>if b=p then none else H b
theorem qjf {p b:Addr}{H:Hp}{o:HO}(n:b≠p)(h:H b=some o):off p H b=some o:=by unfold off;rw[if_neg n];exact h
theorem qpe {p:Addr}{H:Hp}:Same (off p H) H:=λb o e=>by
 unfold off at e
 by_cases c:b=p
 .rw[if_pos c]at e;cases e
 .rw[if_neg c]at e;exact e
theorem qv9 {p:Addr}{H H':Hp}(k:∀b o,b≠p->H b=some o->H' b=some o):Same (off p H) (off p H'):=λb o e=>by
 unfold off at e |-
 by_cases c:b=p
 .rw[if_pos c]at e;cases e
 .rw[if_neg c]at e |-;exact k b o c e
theorem LR1.offp {H:Hp}{q:Addr}{r:RR}{pe pa pl py:Addr}{sv:V}{us:List V}(h:LR1 H q r pe pa pl py sv us){p:Addr}{zs:List V}(hp:H p=some (.lst zs))(n0:q≠p)(n1:pe≠p)(n2:pa≠p)(n3:pl≠p)(n4:py≠p):LR1 (off p H) q r pe pa pl py sv us:=by
 have tt:∀{b:Addr}{t:List V},H b=some (.tup t)->off p H b=some (.tup t):=λ{b t} e=>qjf (λz=>by rw[z,hp]at e;cases e) e
 have tu:∀{us:List V}{ts:List (List V)},Tups H us ts->Tups (off p H) us ts:=λ{us ts} t=>by
  induction t with
  |nil=>exact .nil
  |cons h _ ih=>exact .cons (tt h) ih
 refine⟨qjf n0 h.hq,qjf n1 h.he,qjf n2 h.ha,qjf n3 h.hl,tu h.tl,?_,qjf n4 h.hy⟩
 have hs:=h.hs
 cases e:r.still with
 |none=>rw[e]at hs;exact hs
 |some s=>rw[e]at hs;obtain⟨b,h1,h2⟩:=hs;exact⟨b,h1,tt h2⟩
structure LRs (H0 H:Hp)(p:Addr)(qs:List Addr)(rs:List RR):Prop where
 sm:Same H0 H
 hp:H p=some (.lst (qs.map V.ref))
 ln:qs.length=rs.length
 nd:qs.Nodup
 np:∀q∈qs,q≠p/\H0 q=none
 pn:H0 p=none
 lr:∀(i:Nat)(q:Addr)(r:RR),qs[i]?=some q->rs[i]?=some r->LR H q r
theorem LRs.same {H0 H H':Hp}{p:Addr}{qs:List Addr}{rs:List RR}(b:LRs H0 H p qs rs)(s:Same H H'):LRs H0 H' p qs rs:=⟨b.sm.trans s,s _ _ b.hp,b.ln,b.nd,b.np,b.pn,λi q r h1 h2=>(b.lr i q r h1 h2).same s⟩
theorem LRs.put {H0 H:Hp}{p:Addr}{qs:List Addr}{rs:List RR}{j:Nat}{q:Addr}{r r':RR}{pe pa pl py:Addr}{sv:V}{o:HO}(b:LRs H0 H p qs rs)(hj:qs[j]?=some q)(old:H q=some (.lst (qft r pe pa pl sv py)))(x:LR (upd H q o) q r'):LRs H0 (upd H q o) p qs (rs.set j r'):=by
 obtain⟨np,nf⟩:=b.np q (Ai hj)
 refine⟨qao b.sm nf,(zh (Bh np)).trans b.hp,by rw[BN];exact b.ln,b.nd,b.np,b.pn,λi q2 r2 h1 h2=>?_⟩
 rw[BW]at h2
 by_cases c:j=i
 .subst c
  rw[if_pos rfl]at h2
  rw[hj]at h1
  cases h1
  split at h2
  .cases h2;exact x
  .cases h2
 .rw[if_neg c]at h2
  obtain⟨pe',pa',pl',py',sv',us',h⟩:=b.lr i q2 r2 h1 h2
  refine⟨pe',pa',pl',py',sv',us',h.upd old λz=>c ?_⟩
  rw[z]at h1
  have lj:=(Ac.mp hj).1
  exact(DN lj b.nd).mp (hj.trans h1.symm)
noncomputable def GRs (names:List Str)(ow:Nat->Nat)(rk:Nat->Int)(kinds:List Str)(rs:List RR):Prop:=∀(k:Nat)(r:RR),rs[k]?=some r->GR names ow rk kinds k r
structure Fewer (r r':RR):Prop where
 nm:r'.name=r.name
 wh:r'.who=r.who
 os:r'.owes=r.owes
 op:r'.opens=r.opens
 ba:r'.base=r.base
 mn:r'.many=r.many
 un:r'.unit=r.unit
 en:r'.ends.Sublist r.ends
 an:r'.anew.Sublist r.anew
 lg:r'.longer.Sublist r.longer
 st:r'.still=r.still\/r'.still=none
 yl:r'.yields.Sublist r.yields
theorem GR.fewer {names:List Str}{ow:Nat->Nat}{rk:Nat->Int}{kinds:List Str}{k:Nat}{r r':RR}(g:GR names ow rk kinds k r)(f:Fewer r r'):GR names ow rk kinds k r':=by
 have sb:(qav r').Sublist (qav r):=by
  unfold qav
  rw[f.os,f.op]
  refine((((((BX _).append f.en).append f.an).append (f.lg.map _)).append (BX _)).append ?_)
  rcases f.st with e|e
  .rw[e];exact BX _
  .rw[e];exact List.nil_sublist _
 refine⟨f.nm.trans g.nm,by rw[f.wh];exact g.wh,f.os.trans g.os,sb.nodup g.kd,λx hx=>g.kn x (sb.subset hx),λx hx=>g.ks x (sb.subset hx),by rw[f.ba,f.op];exact g.bo,by rw[f.mn];exact g.mn,by rw[f.un];exact g.un,⟨A0 f.lg.length_le g.lg.1,λt ht=>g.lg.2 t (f.lg.subset ht)⟩,⟨A0 f.en.length_le g.ln.1,A0 f.an.length_le g.ln.2⟩,⟨f.yl.nodup g.yl.nd,λy hy=>g.yl.ok y (f.yl.subset hy)⟩⟩
noncomputable def stN:Option (Str×Str)->Nat
 |none=>0
 |some _=>1
noncomputable def exR (r:RR):Nat:=r.ends.length+r.anew.length+r.longer.length+r.yields.length+stN r.still
noncomputable def qdw (t:Nat)(n:Nat)(r:RR):RR:=match t with
 |0=>{ r with ends:=r.ends.take n }
 |1=>{ r with anew:=r.anew.take n }
 |2=>{ r with longer:=r.longer.take n }
 |_=>{ r with yields:=r.yields.take n }
noncomputable def qie (t:Nat)(r:RR):Nat:=match t with
 |0=>r.ends.length
 |1=>r.anew.length
 |2=>r.longer.length
 |_=>r.yields.length
noncomputable def qn3 (t:Nat)(r:RR):Nat:=match t with
 |0=>0
 |1=>r.ends.length
 |2=>r.ends.length+r.anew.length
 |3=>r.ends.length+r.anew.length+r.longer.length
 |_=>r.ends.length+r.anew.length+r.longer.length+r.yields.length
theorem qif (t n:Nat)(r:RR):Fewer r (qdw t n r):=by
 have R:∀{α:Type}(l:List α),l.Sublist l:=λl=>BX l
 match t with
 |0=>exact⟨rfl,rfl,rfl,rfl,rfl,rfl,rfl,BQ _ _,R _,R _,.inl rfl,R _⟩
 |1=>exact⟨rfl,rfl,rfl,rfl,rfl,rfl,rfl,R _,BQ _ _,R _,.inl rfl,R _⟩
 |2=>exact⟨rfl,rfl,rfl,rfl,rfl,rfl,rfl,R _,R _,BQ _ _,.inl rfl,R _⟩
 |t+3=>exact⟨rfl,rfl,rfl,rfl,rfl,rfl,rfl,R _,R _,R _,.inl rfl,BQ _ _⟩
theorem qig {t n:Nat}(ht:t<4)(r:RR):qn3 (t+1) (qdw t n r)=qn3 t r+qie t (qdw t n r)/\qie t (qdw t n r)<=n:=by
 rcases (by lia:t=0\/t=1\/t=2\/t=3) with rfl|rfl|rfl|rfl
 .exact⟨(CJ _).symm,D3 _ _⟩
 .exact⟨rfl,D3 _ _⟩
 .exact⟨rfl,D3 _ _⟩
 .exact⟨rfl,D3 _ _⟩
noncomputable def spLrs (K:Ag):Sp:=λvs H Q _=>∃(l pn pk:Addr)(ns:List Int)(names kinds:List Str)(mo:Nat),vs=[.ref l,.ref pn,.ref pk,.int (mo:Int)]/\SqL K H l (ns.map V.int)/\H pn=some (.lst (names.map V.str))/\H pk=some (.lst (kinds.map V.str))/\names.Nodup/\names.length<=6/\kinds.Nodup/\12<=kinds.length/\kinds.length<=60/\(∀x∈kinds,qbs x)/\6<=mo/\mo<=100 /\
 ∀(p:Addr)(H':Hp)(qs:List Addr)(rs:List RR),LRs H H' p qs rs->rs.length=names.length->GRs names (owA ns) (rkA ns) kinds rs->(rs.map exR).sum+names.length<=mo->Q (.ref p) H'
theorem qlj {rs:List RR}{j:Nat}{r:RR}(h:rs[j]?=some r):((rs.take (j+1)).map exR).sum=((rs.take j).map exR).sum+exR r:=by
 rw[qbb h,Aq,List.sum_append];simp
theorem take_set' {rs:List RR}{j:Nat}{r:RR}:(rs.set j r).take j=rs.take j:=by
 rw[List.take_set_of_le (A3 _)]
theorem qpf (vs:List V)(n:Nat):qhf vs none (some (n:Int))=vs.take n:=by
 by_cases h:n<=vs.length
 .exact qk9 vs n h
 .rw[By (by lia)]
  unfold qhf
  have e2:HT.sIx vs.length vs.length (some (n:Int))=vs.length:=by
   simp only[HT.sIx]
   split <;>lia
  rw[show HT.sIx vs.length 0 none=0 from rfl,e2]
  simp
theorem qtn {H:Hp}{us:List V}{ts:List (List V)}(t:Tups H us ts):∀n,Tups H (us.take n) (ts.take n):=by
 induction t with
 |nil=>intro n;rw[List.take_nil,List.take_nil];exact .nil
 |cons h _ ih =>
  intro n
  cases n with
  |zero=>exact .nil
  |succ n=>exact .cons h (ih n)
theorem qih {names:List Str}{ow:Nat->Nat}{rk:Nat->Int}{kinds:List Str}{rs:List RR}{j:Nat}{r r':RR}(g:GRs names ow rk kinds rs)(h:rs[j]?=some r)(f:Fewer r r'):GRs names ow rk kinds (rs.set j r'):=λk r2 h2=>by
 rw[BW]at h2
 by_cases c:j=k
 .subst c
  rw[if_pos rfl]at h2
  split at h2
  .cases h2;exact(g j r h).fewer f
  .cases h2
 .rw[if_neg c]at h2;exact g k r2 h2
noncomputable def nS (n:Int):Str:=Aa (toString n)
noncomputable def qay:Rw7->List Str
 |.term x w o d y m u=>[wS "term",x,wS "of",w,wS "due",o,fbS d,y,nS m,u]
 |.ends x k=>[wS "ends",x,k]
 |.anew x k=>[wS "anew",x,k]
 |.longer x k u t=>[wS "longer",x,k,nS u,wS "times",nS t]
 |.still x k l=>[wS "still",x,k,l]
 |.yields x y=>[wS "yields",x,y]
noncomputable def qag (row:Rw7):Str:=DM ⟨#[32]⟩ (qay row)
noncomputable def qbi:Rw7->Prop
 |.term x w o _ y m u=>qbs x/\qbs w/\qbs o/\qbs y/\(1<=m/\m<=40)/\u∈qci
 |.ends x k=>qbs x/\qbs k
 |.anew x k=>qbs x/\qbs k
 |.longer x k u t=>qbs x/\qbs k/\(1<=u/\u<=20)/\(1<=t/\t<=3)
 |.still x k l=>qbs x/\qbs k/\qbs l
 |.yields x y=>qbs x/\qbs y
theorem nS_all:∀n:Fin 41,1<=n.val->due (nS (n.val:Int)) 40=true/\nv (nS (n.val:Int))=(n.val:Int)/\((nS (n.val:Int)).cps.toList.all λd=>decide (d≠32) && decide (d≠10))=true/\(nS (n.val:Int)).cps.size<=2/\(n.val<=20->due (nS (n.val:Int)) 20=true)/\(n.val<=3->due (nS (n.val:Int)) 3=true):=Ez
theorem qii {m:Int}(h1:1<=m)(h2:m<=40):due (nS m) 40=true/\nv (nS m)=m/\(∀c,c=32\/c=10->c∉(nS m).cps.toList)/\(nS m).cps.size<=2/\(m<=20->due (nS m) 20=true)/\(m<=3->due (nS m) 3=true):=by
 have h:=nS_all ⟨m.toNat,by lia⟩ (by show 1<=m.toNat;lia)
 have e:((m.toNat:Nat):Int)=m:=by lia
 dsimp only at h
 rw[e]at h
 obtain⟨g1,g2,g3,g4,g5,g6⟩:=h
 refine⟨g1,g2,λc hc z=>?_,g4,λh=>g5 (by lia),λh=>g6 (by lia)⟩
 have:=Bf.mp g3 c z
 simp only[AN,decide_eq_true_eq]at this
 rcases hc with rfl|rfl
 .exact this.1 rfl
 .exact this.2 rfl
theorem qn4 {u:Str}(h:u∈qci):qci.contains u=true/\(∀c,c=32\/c=10->c∉u.cps.toList)/\u.cps.size<=5:=by
 have d:∀w∈qci,(w.cps.toList.all λd=>decide (d≠32) && decide (d≠10))=true/\w.cps.size<=5:=Ez
 obtain⟨d1,d2⟩:=d u h
 refine⟨CA.mpr h,λc hc z=>?_,d2⟩
 have:=Bf.mp d1 c z
 simp only[AN,decide_eq_true_eq]at this
 rcases hc with rfl|rfl
 .exact this.1 rfl
 .exact this.2 rfl
theorem qr7 {w:Str}(h:w∈[wS "term",wS "of",wS "due",wS "from",wS "behind",wS "ends",wS "anew",wS "longer",wS "times",wS "still",wS "yields"]):(∀c,c=32\/c=10->c∉w.cps.toList)/\w.cps.size<=6:=by
 have d:∀w∈[wS "term",wS "of",wS "due",wS "from",wS "behind",wS "ends",wS "anew",wS "longer",wS "times",wS "still",wS "yields"],(w.cps.toList.all λd=>decide (d≠32) && decide (d≠10))=true/\w.cps.size<=6:=Ez
 obtain⟨d1,d2⟩:=d w h
 refine⟨λc hc z=>?_,d2⟩
 have:=Bf.mp d1 c z
 simp only[AN,decide_eq_true_eq]at this
 rcases hc with rfl|rfl
 .exact this.1 rfl
 .exact this.2 rfl
theorem qdp {x:Str}(h:qbs x):(∀c,c=32\/c=10->c∉x.cps.toList)/\x.cps.size<=8:=⟨λc hc=>qya h (by lia),h.2.1⟩
theorem qij {row:Rw7}(h:qbi row):∀w∈qay row,(∀c,c=32\/c=10->c∉w.cps.toList)/\w.cps.size<=8:=by
 have kp:∀{w:Str},w∈[wS "term",wS "of",wS "due",wS "from",wS "behind",wS "ends",wS "anew",wS "longer",wS "times",wS "still",wS "yields"]->(∀c,c=32\/c=10->c∉w.cps.toList)/\w.cps.size<=8:=λh=>⟨(qr7 h).1,by have:=(qr7 h).2;lia⟩
 intro w hw
 cases row with
 |term x w1 o d y m u =>
  obtain⟨h1,h2,h3,h4,⟨h5,h6⟩,h7⟩:=h
  obtain⟨_,_,n3,n4,_⟩:=qii h5 h6
  obtain⟨_,u2,u3⟩:=qn4 h7
  simp only[qay,An,Ax,or_false]at hw
  rcases hw with rfl|rfl|rfl|rfl|rfl|rfl|rfl|rfl|rfl|rfl
  .exact kp (by simp)
  .exact qdp h1
  .exact kp (by simp)
  .exact qdp h2
  .exact kp (by simp)
  .exact qdp h3
  .cases d <;>exact kp (by simp[fbS])
  .exact qdp h4
  .exact⟨n3,by lia⟩
  .exact⟨u2,by lia⟩
 |ends x k =>
  simp only[qay,An,Ax,or_false]at hw
  rcases hw with rfl|rfl|rfl
  .exact kp (by simp)
  .exact qdp h.1
  .exact qdp h.2
 |anew x k =>
  simp only[qay,An,Ax,or_false]at hw
  rcases hw with rfl|rfl|rfl
  .exact kp (by simp)
  .exact qdp h.1
  .exact qdp h.2
 |yields x k =>
  simp only[qay,An,Ax,or_false]at hw
  rcases hw with rfl|rfl|rfl
  .exact kp (by simp)
  .exact qdp h.1
  .exact qdp h.2
 |longer x k u t =>
  obtain⟨h1,h2,⟨h3,h4⟩,h5,h6⟩:=h
  obtain⟨_,_,n3,n4,_⟩:=qii h3 (by lia)
  obtain⟨_,_,m3,m4,_⟩:=qii h5 (by lia)
  simp only[qay,An,Ax,or_false]at hw
  rcases hw with rfl|rfl|rfl|rfl|rfl|rfl
  .exact kp (by simp)
  .exact qdp h1
  .exact qdp h2
  .exact⟨n3,by lia⟩
  .exact kp (by simp)
  .exact⟨m3,by lia⟩
 |still x k l =>
  simp only[qay,An,Ax,or_false]at hw
  rcases hw with rfl|rfl|rfl|rfl
  .exact kp (by simp)
  .exact qdp h.1
  .exact qdp h.2.1
  .exact qdp h.2.2
theorem qwa (row:Rw7):qay row≠[]:=by cases row <;>exact C5 _ _
theorem qto (row:Rw7):(qay row).length<=10:=by cases row <;>simp[qay]
theorem qqt {row:Rw7}(h:qbi row):Ce (qag row) (wS " ")=qay row:=by
 rw[qr2];exact qhj 32 (qwa row) λp hp=>(qij h p hp).1 32 (.inl rfl)
theorem qqu {row:Rw7}(h:qbi row):qgp (qay row)=some row:=by
 cases row with
 |term x w1 o d y m u =>
  obtain⟨h1,h2,h3,h4,⟨h5,h6⟩,h7⟩:=h
  obtain⟨n1,n2,_⟩:=qii h5 h6
  show qgp [wS "term",x,wS "of",w1,wS "due",o,fbS d,y,nS m,u]=_
  rw[qn0,if_pos ⟨rfl,qdo.mpr h1,rfl,qdo.mpr h2,rfl,qdo.mpr h3,by cases d <;>simp[fbS],qdo.mpr h4,n1,(qn4 h7).1⟩,n2]
  cases d
  .rw[show decide (fbS false=wS "behind")=false by decide +kernel]
  .rw[show decide (fbS true=wS "behind")=true by decide +kernel]
 |ends x k =>
  show qgp [wS "ends",x,k]=_
  rw[qn1,if_pos ⟨qdo.mpr h.1,qdo.mpr h.2⟩,if_pos rfl]
 |anew x k =>
  show qgp [wS "anew",x,k]=_
  rw[qn1,if_pos ⟨qdo.mpr h.1,qdo.mpr h.2⟩,if_neg Ez,if_pos rfl]
 |yields x k =>
  show qgp [wS "yields",x,k]=_
  rw[qn1,if_pos ⟨qdo.mpr h.1,qdo.mpr h.2⟩,if_neg Ez,if_neg Ez,if_pos rfl]
 |longer x k u t =>
  obtain⟨h1,h2,⟨h3,h4⟩,h5,h6⟩:=h
  obtain⟨_,n2,_,_,n5,_⟩:=qii h3 (by lia)
  obtain⟨_,m2,_,_,_,m6⟩:=qii h5 (by lia)
  show qgp [wS "longer",x,k,nS u,wS "times",nS t]=_
  rw[qv1,if_pos ⟨rfl,qdo.mpr h1,qdo.mpr h2,n5 h4,rfl,m6 h6⟩,n2,m2]
 |still x k l =>
  show qgp [wS "still",x,k,l]=_
  rw[qv2,if_pos ⟨rfl,qdo.mpr h.1,qdo.mpr h.2.1,qdo.mpr h.2.2⟩]
theorem qn5 {row:Rw7}(h:qbi row):opR (qag row)=some row:=by
 unfold opR
 rw[qqt h,qqu h]
theorem jl9 {c n:Nat}:∀{ps:List (List Nat)},(∀p∈ps,p.length<=n)->(jl c ps).length<=(n+1)*ps.length
 | [],_=>A3 _
 | [x],h=>by
  have:=h x Am
  show x.length<=(n+1)*1
  lia
 |x::y::r,h=>by
  have h1:=h x Am
  have h2:=jl9 (c:=c) (ps:=y::r) λp hp=>h p (Ar _ hp)
  show (x++c::jl c (y::r)).length<=(n+1)*((y::r).length+1)
  rw[Ah,At,Nat.mul_succ]
  lia
theorem qwb {c d:Nat}(n:c≠d):∀{ps:List (List Nat)},(∀p∈ps,d∉p)->d∉jl c ps
 | [],_=>Ax
 | [x],h=>h x Am
 |x::y::r,h=>by
  show d∉x++c::jl c (y::r)
  rw[Au,An]
  rintro (z|z|z)
  .exact h x Am z
  .exact n z.symm
  .exact qwb n (λp hp=>h p (Ar _ hp)) z
theorem qg8 {row:Rw7}(h:qbi row):(qag row).cps.size<=90/\10∉(qag row).cps.toList/\(qag row).cps.size≠0:=by
 have e:(qag row).cps.toList=jl 32 ((qay row).map λp=>p.cps.toList):=qc0 32 _
 refine⟨?_,?_,?_⟩
 .rw[<- AQ,e]
  have:=jl9 (c:=32) (n:=8) (ps:=(qay row).map λp=>p.cps.toList) λp hp=>by
   obtain⟨w,hw,rfl⟩:=AM.mp hp
   rw[AQ];exact(qij h w hw).2
  rw[Ab]at this
  have:=qto row
  lia
 .rw[e]
  refine qwb Ex λp hp=>?_
  obtain⟨w,hw,rfl⟩:=AM.mp hp
  exact(qij h w hw).1 10 (.inr rfl)
 .rw[<- AQ,e]
  cases row <;>(simp only[qay,A4,BL,jl,Ah,At];lia)
noncomputable def qa6 (r:RR):Rw7:=match r.base with
 |some y=>.term r.name r.who r.owes true y r.many r.unit
 |none=>.term r.name r.who r.owes false (r.opens.getD "None") r.many r.unit
noncomputable def qfz (x:Str):Option (Str×Str)->List Rw7
 |none=>[]
 |some s=>[.still x s.1 s.2]
noncomputable def qhd (r:RR):List (List Rw7):=[[qa6 r],r.ends.map (.ends r.name),r.anew.map (.anew r.name),r.longer.map (λt=>.longer r.name t.1 t.2.1 t.2.2),qfz r.name r.still,r.yields.map (.yields r.name)]
noncomputable def qb1 (r:RR):List Rw7:=(qhd r).flatten
structure RrOk (r:RR):Prop where
 nm:qbs r.name
 wh:qbs r.who
 kn:∀x∈qav r,qbs x
 ba:∀y,r.base=some y->qbs y
 bo:r.base=none->∃o,r.opens=some o
 bn:∀y,r.base=some y->r.opens=none
 yl:∀y∈r.yields,qbs y
 mn:1<=r.many/\r.many<=40
 un:r.unit∈qci
 lg:∀t∈r.longer,(1<=t.2.1/\t.2.1<=20)/\1<=t.2.2/\t.2.2<=3
 sz:r.ends.length<=100/\r.anew.length<=100/\r.longer.length<=100/\r.yields.length<=100
theorem RrOk.kin {r:RR}(h:RrOk r):qbs r.owes/\(∀x∈r.ends,qbs x)/\(∀x∈r.anew,qbs x)/\(∀t∈r.longer,qbs t.1)/\(∀x,r.opens=some x->qbs x)/\∀s,r.still=some s->qbs s.1/\qbs s.2:=by
 have m:∀x,x∈qav r↔x=r.owes\/x∈r.ends\/x∈r.anew\/x∈r.longer.map (·.1)\/x∈r.opens.toList\/x∈stL r.still:=λx=>by
  unfold qav
  simp only[Au,Ak,or_assoc]
 refine⟨h.kn _ ((m _).mpr (.inl rfl)),λx hx=>h.kn _ ((m _).mpr (.inr (.inl hx))),λx hx=>h.kn _ ((m _).mpr (.inr (.inr (.inl hx)))),λt ht=>h.kn _ ((m _).mpr (.inr (.inr (.inr (.inl (AM.mpr ⟨t,ht,rfl⟩)))))),λx hx=>h.kn _ ((m _).mpr (.inr (.inr (.inr (.inr (.inl (by rw[hx];simp))))))),λs hs=>?_⟩
 exact⟨h.kn _ ((m _).mpr (.inr (.inr (.inr (.inr (.inr (by rw[hs];simp[stL]))))))),h.kn _ ((m _).mpr (.inr (.inr (.inr (.inr (.inr (by rw[hs];simp[stL])))))))⟩
theorem qyl {r:RR}(h:RrOk r):qbi (qa6 r):=by
 unfold qa6
 cases eb:r.base with
 |some y=>exact⟨h.nm,h.wh,h.kin.1,h.ba y eb,h.mn,h.un⟩
 |none =>
  obtain⟨o,eo⟩:=h.bo eb
  dsimp only
  rw[eo]
  exact⟨h.nm,h.wh,h.kin.1,h.kin.2.2.2.2.1 o eo,h.mn,h.un⟩
theorem qym {r:RR}(h:RrOk r):∀row∈qb1 r,qbi row:=by
 obtain⟨k1,k2,k3,k4,k5,k6⟩:=h.kin
 intro row hr
 unfold qb1 qhd at hr
 simp only[List.flatten_cons,List.flatten_nil,AV,Au,AM,Ak]at hr
 rcases hr with rfl|⟨k,hk,rfl⟩|⟨k,hk,rfl⟩|⟨t,ht,rfl⟩|hs|⟨y,hy,rfl⟩
 .exact qyl h
 .exact⟨h.nm,k2 k hk⟩
 .exact⟨h.nm,k3 k hk⟩
 .exact⟨h.nm,k4 t ht,(h.lg t ht).1,(h.lg t ht).2⟩
 .cases es:r.still with
  |none=>rw[es]at hs;cases hs
  |some s =>
   rw[es]at hs
   rw[Ak.mp hs]
   exact⟨h.nm,k6 s es⟩
 .exact⟨h.nm,h.yl y hy⟩
theorem nd_sub {l m:List Str}(nd:l.Nodup)(h:∀x∈l,x∈m):l.length<=m.length:=by
 induction l generalizing m with
 |nil=>exact B7 _
 |cons a l ih =>
  rw[Bg]at nd
  have:=ih (m:=m.erase a) nd.2 λx hx=>(List.mem_erase_of_ne (show x≠a from λe=>nd.1 (by rw[<- e];exact hx))).mpr (h x (Ar _ hx))
  rw[List.length_erase_of_mem (h a Am)]at this
  have:1<=m.length:=List.length_pos_of_mem (h a Am)
  rw[At];lia
theorem GR.rrok {names:List Str}{ow:Nat->Nat}{rk:Nat->Int}{kinds:List Str}{k:Nat}{r:RR}(g:GR names ow rk kinds k r)(no:∀x∈names,qbs x)(hk:k<names.length)(l6:names.length<=6):RrOk r:=by
 have nmk:∀b,b<names.length->qbs (nm9 names b):=λb hb=>no _ (Ai (qhc hb))
 have yn:r.yields.length<=names.length:=by
  refine nd_sub g.yl.nd λy hy=>?_
  obtain⟨b,hb,e,_⟩:=g.yl.ok y hy
  rw[e];exact Ai (qhc hb)
 refine⟨by rw[g.nm];exact nmk k hk,g.wh,g.kn,λy hy=>?_,λhb=>?_,λy hy=>?_,λy hy=>?_,g.mn,g.un,g.lg.2,⟨by have:=g.ln.1;lia,by have:=g.ln.2;lia,by have:=g.lg.1;lia,by lia⟩⟩
 .rcases g.bo with ⟨b,hb,e,_⟩|⟨e,_⟩
  .rw[e]at hy;cases hy;exact nmk b hb
  .rw[e]at hy;cases hy
 .rcases g.bo with ⟨b,hb',e,_⟩|⟨_,e⟩
  .rw[e]at hb;cases hb
  .exact e
 .rcases g.bo with ⟨b,hb',e,_,e2⟩|⟨e,_⟩
  .exact e2
  .rw[e]at hy;cases hy
 .obtain⟨b,hb,e,_⟩:=g.yl.ok y hy
  rw[e];exact nmk b hb
theorem qg9:(wS "term ").cps.toList=(wS "term").cps.toList++[32]/\(wS " of ").cps.toList=32::((wS "of").cps.toList++[32])/\(wS " due ").cps.toList=32::((wS "due").cps.toList++[32])/\(wS "from ").cps.toList=(wS "from").cps.toList++[32]/\(wS "behind ").cps.toList=(wS "behind").cps.toList++[32]/\(wS " ").cps.toList=[32]/\(wS "ends ").cps.toList=(wS "ends").cps.toList++[32]/\(wS "anew ").cps.toList=(wS "anew").cps.toList++[32]/\(wS "longer ").cps.toList=(wS "longer").cps.toList++[32]/\(wS " times ").cps.toList=32::((wS "times").cps.toList++[32])/\(wS "still ").cps.toList=(wS "still").cps.toList++[32]/\(wS "yields ").cps.toList=(wS "yields").cps.toList++[32]:=Ez
theorem hl0 {a b:Str}(ha:a.length<=50000)(hb:b.length<=50000):a.length+b.length<=100000:=Nat.add_le_add ha hb
theorem hl {a b:Str}{n:Nat}(ha:a.length<=n / 2)(hb:b.length<=n / 2):(a++b).length<=n:=by rw[qg4];lia
theorem fz {n:Nat}(h:n<=100000:=by first | (refine hl0 ?_ ?_ <;>(repeat' refine hl ?_ ?_) <;>first|exact A0 (by assumption) Ex|decide)|lia | (simp only[qg4];lia)):n<=A5:=qan h
theorem t_lens:(Aa "term ").length=5/\(Aa " of ").length=4/\(Aa " due ").length=5/\(Aa "from ").length=5/\(Aa "behind ").length=7/\(Aa " ").length=1/\(Aa "ends ").length=5/\(Aa "anew ").length=5/\(Aa "longer ").length=7/\(Aa " times ").length=7/\(Aa "still ").length=6/\(Aa "yields ").length=7/\(Aa "None").length=4:=Ez
noncomputable def qlk (r:RR):Str:=match r.base with
 |some y=>wS "behind " ++ y
 |none=>wS "from " ++ r.opens.getD "None"
theorem qm4 (r:RR):wS "term " ++ r.name++wS " of " ++ r.who++wS " due " ++ r.owes++wS " " ++ qlk r++wS " " ++ nS r.many++wS " " ++ r.unit=qag (qa6 r):=by
 obtain⟨t1,t2,t3,t4,t5,t6,_⟩:=qg9
 refine str_ext ?_
 rw[show (qag (qa6 r)).cps.toList=jl 32 ((qay (qa6 r)).map λp=>p.cps.toList) from qc0 32 _]
 unfold qlk qa6
 cases r.base with
 |some y =>
  dsimp only
  simp only[qch,t1,t2,t3,t5,t6,qay,fbS,if_pos,A4,BL,jl,AB,Bi,Bd]
 |none =>
  dsimp only
  simp only[qch,t1,t2,t3,t4,t6,qay,fbS,Da,if_false,A4,BL,jl,AB,Bi,Bd]
theorem qm5 (x k:Str):wS "ends " ++ x++wS " " ++ k=qag (.ends x k):=by
 obtain⟨_,_,_,_,_,t6,t7,_⟩:=qg9
 refine str_ext ?_
 rw[show (qag (.ends x k)).cps.toList=jl 32 ((qay (.ends x k)).map λp=>p.cps.toList) from qc0 32 _]
 simp only[qch,t6,t7,qay,A4,BL,jl,AB,Bi,Bd]
theorem qtp (x k:Str):wS "anew " ++ x++wS " " ++ k=qag (.anew x k):=by
 obtain⟨_,_,_,_,_,t6,_,t8,_⟩:=qg9
 refine str_ext ?_
 rw[show (qag (.anew x k)).cps.toList=jl 32 ((qay (.anew x k)).map λp=>p.cps.toList) from qc0 32 _]
 simp only[qch,t6,t8,qay,A4,BL,jl,AB,Bi,Bd]
theorem qc8 (x k:Str):wS "yields " ++ x++wS " " ++ k=qag (.yields x k):=by
 obtain⟨_,_,_,_,_,t6,_,_,_,_,_,t12⟩:=qg9
 refine str_ext ?_
 rw[show (qag (.yields x k)).cps.toList=jl 32 ((qay (.yields x k)).map λp=>p.cps.toList) from qc0 32 _]
 simp only[qch,t6,t12,qay,A4,BL,jl,AB,Bi,Bd]
theorem qpg (x k:Str)(u t:Int):wS "longer " ++ x++wS " " ++ k++wS " " ++ nS u++wS " times " ++ nS t=qag (.longer x k u t):=by
 obtain⟨_,_,_,_,_,t6,_,_,t9,t10,_⟩:=qg9
 refine str_ext ?_
 rw[show (qag (.longer x k u t)).cps.toList=jl 32 ((qay (.longer x k u t)).map λp=>p.cps.toList) from qc0 32 _]
 simp only[qch,t6,t9,t10,qay,A4,BL,jl,AB,Bi,Bd]
theorem qqv (x k l:Str):wS "still " ++ x++wS " " ++ k++wS " " ++ l=qag (.still x k l):=by
 obtain⟨_,_,_,_,_,t6,_,_,_,_,t11,_⟩:=qg9
 refine str_ext ?_
 rw[show (qag (.still x k l)).cps.toList=jl 32 ((qay (.still x k l)).map λp=>p.cps.toList) from qc0 32 _]
 simp only[qch,t6,t11,qay,A4,BL,jl,AB,Bi,Bd]
noncomputable def qbe (rows:List Rw7):List V:=(rows.map qag).map V.str
noncomputable def spSo:Sp:=λvs H Q _=>∃(p:Addr)(r:RR),vs=[.ref p]/\LR H p r/\RrOk r/\∀(q:Addr)(H':Hp)(us:List V),H q=none->Same H H'->H' q=some (.lst us)->us.length=6->(∀(i:Nat)(v:V)(rw:List Rw7),us[i]?=some v->(qhd r)[i]?=some rw->∃b,v=.ref b/\H' b=some (.lst (qbe rw)))->Q (.ref q) H'
noncomputable def spRws:Sp:=λvs H Q _=>∃(p:Addr)(r:RR),vs=[.ref p]/\LR H p r/\RrOk r/\∀(q:Addr)(H':Hp),H q=none->Same H H'->H' q=some (.lst (qbe (qb1 r)))->Q (.ref q) H'
theorem qqw {n:Int}(h:n.natAbs<=100):n.natAbs.log2<1920:=Nat.lt_of_le_of_lt (Nat.log2_le_self _) (by lia)
theorem qwc {r:RR}(h:RrOk r):∀rw∈qhd r,rw.length<=100:=by
 obtain⟨z1,z2,z3,z4⟩:=h.sz
 intro rw hr
 simp only[qhd,An,Ax,or_false]at hr
 rcases hr with rfl|rfl|rfl|rfl|rfl|rfl
 .simp
 .rw[Ab];exact z1
 .rw[Ab];exact z2
 .rw[Ab];exact z3
 .cases r.still <;>simp[qfz]
 .rw[Ab];exact z4
noncomputable def qyn:RR->List Rw7->Prop
 |_,[]=>True
 |r,row::t=>isT row=false/\qaf row=r.name/\qgq r row=false/\qyn (qcd r row) t
theorem qwd {rs0:List RR}{r:RR}(h:qal rs0 r.name=none):qal (rs0++[r]) r.name=some rs0.length:=by
 rw[qid,h];dsimp only;rw[if_pos rfl]
theorem qtq {rs0:List RR}{r r':RR}:(rs0++[r]).set rs0.length r'=rs0++[r']:=by
 rw[List.set_append_right _ _ (A3 _),Ca];rfl
theorem qtr {rs0:List RR}{r:RR}:(rs0++[r])[rs0.length]?=some r:=by
 rw[A9 (A3 _),Ca];rfl
theorem qhe:∀{rows:List Rw7}{rs0:List RR}{r:RR}{i:Nat}{t:List (Option Rw7)},qal rs0 r.name=none->qyn r rows->i+rows.length<=40->qad (rs0++[r]) i (rows.map some++t)=qad (rs0++[rows.foldl qcd r]) (i+rows.length) t
 | [],_,_,_,_,_,_,_=>rfl
 |row::rows,rs0,r,i,t,hp,f,hi=>by
  obtain⟨f1,f2,f3,f4⟩:=f
  rw[At]at hi
  have h:qbx (rs0++[r]) i row=.ok (rs0++[qcd r row]):=by
   rw[qdc f1,qib (by rw[f2];exact qwd hp) qtr f3,qtq]
  show qad (rs0++[r]) i (some row::(rows.map some++t))=_
  rw[qht (by lia) h,qhe (by rw[qe4];exact hp) f4 (by lia),At,show i+1+rows.length=i+(rows.length+1) by lia]
  rfl
noncomputable def nLg:List Rw7->Nat
 | []=>0
 |.longer _ _ _ _::t=>nLg t+1
 |_::t=>nLg t
noncomputable def nSt:List Rw7->Nat
 | []=>0
 |.still _ _ _::t=>nSt t+1
 |_::t=>nSt t
theorem qm6 (r:RR){row:Rw7}(h:isT row=false)(hs:nSt [row]+stN r.still<=1):(qav (qcd r row)).Perm (qav r++kin row):=by
 refine List.perm_iff_count.mpr λx=>?_
 cases row with
 |term=>cases h
 |ends y k=>simp only[qav,qcd,kin,CK];lia
 |anew y k=>simp only[qav,qcd,kin,CK];lia
 |longer y k u t=>simp only[qav,qcd,kin,CK,Aq,A4,BL];lia
 |still y k l =>
  have e:r.still=none:=by
   cases es:r.still with
   |none=>rfl
   |some s=>rw[es]at hs;have hs:1+1<=1:=hs;lia
  simp only[qav,qcd,kin,CK,e,stL,List.count_nil];lia
 |yields y k=>simp only[qav,qcd,kin,CK,List.count_nil];lia
theorem qll (row:Rw7)(t:List Rw7):nLg (row::t)=nLg [row]+nLg t:=by cases row <;>simp[nLg] <;>lia
theorem qlm (row:Rw7)(t:List Rw7):nSt (row::t)=nSt [row]+nSt t:=by cases row <;>simp[nSt] <;>lia
theorem qyo (r:RR)(row:Rw7):(qcd r row).longer.length=r.longer.length+nLg [row]:=by cases row <;>simp[qcd,nLg]
theorem qyp (r:RR)(row:Rw7)(h:nSt [row]+stN r.still<=1):stN (qcd r row).still=stN r.still+nSt [row]:=by
 cases row with
 |still y k l =>
  show 1=stN r.still+1
  have h:1+stN r.still<=1:=h
  lia
 |_=>rfl
theorem qr8:∀{rows:List Rw7}{r:RR},(∀row∈rows,isT row=false/\qaf row=r.name)->(qav r++rows.flatMap kin).Nodup->r.longer.length+nLg rows<=2->stN r.still+nSt rows<=1->qyn r rows
 | [],_,_,_,_,_=>trivial
 |row::rows,r,ha,nd,hl,hs=>by
  obtain⟨a1,a2⟩:=ha row Am
  rw[qll]at hl
  rw[qlm]at hs
  have pm:=qm6 r a1 (by lia)
  rw[Bk,<- AB]at nd
  have nd1:=(AZ.mp nd).1
  obtain⟨n1,n2,n3⟩:=AZ.mp nd1
  refine⟨a1,a2,?_,qr8 (λrow' hr=>by rw[qe4];exact ha row' (Ar _ hr)) ?_ (by rw[qyo];lia) (by rw[qyp r row (by lia)];lia)⟩
  .unfold qgq
   rw[Bool.or_eq_false_iff]
   constructor
   .rw[List.any_eq_false]
    intro k hk z
    exact n3 k (CA.mp z) k hk rfl
   .cases row with
    |still y k l =>
     show (r.still.isSome || decide (k=l))=false
     have e:r.still=none:=by
      cases es:r.still with
      |none=>rfl
      |some s=>rw[es]at hs;have hs:1+(1+nSt rows)<=1:=hs;lia
     rw[e,decide_eq_false]
     .rfl
     .intro z
      rw[z]at n2
      simp[kin]at n2
    |longer y k u t =>
     show decide (r.longer.length=2)=false
     rw[decide_eq_false]
     intro z
     have hl:r.longer.length+(1+nLg rows)<=2:=hl
     lia
    |_=>rfl
  .exact(pm.append_right _).nodup_iff.mpr nd
noncomputable def noY (r:RR):RR:={ r with yields:=[] }
theorem qm7 (x:Str):∀(ks:List Str)(r:RR),(ks.map (.ends x)).foldl qcd r={ r with ends:=r.ends++ks }
 | [],r=>by rw[AV];rfl
 |k::ks,r=>by
  show (ks.map (.ends x)).foldl qcd { r with ends:=r.ends++[k] }=_
  rw[qm7 x ks]
  simp only[AB,Bi,Bd]
theorem qm8 (x:Str):∀(ks:List Str)(r:RR),(ks.map (.anew x)).foldl qcd r={ r with anew:=r.anew++ks }
 | [],r=>by rw[AV];rfl
 |k::ks,r=>by
  show (ks.map (.anew x)).foldl qcd { r with anew:=r.anew++[k] }=_
  rw[qm8 x ks]
  simp only[AB,Bi,Bd]
theorem qjt (x:Str):∀(ks:List (Str×Int×Int))(r:RR),(ks.map λt=>Rw7.longer x t.1 t.2.1 t.2.2).foldl qcd r={ r with longer:=r.longer++ks }
 | [],r=>by rw[AV];rfl
 |k::ks,r=>by
  show (ks.map λt=>Rw7.longer x t.1 t.2.1 t.2.2).foldl qcd { r with longer:=r.longer++[(k.1,k.2.1,k.2.2)] }=_
  rw[qjt x ks]
  simp only[AB,Bi,Bd]
theorem qju (x:Str):∀(ks:List Str)(r:RR),(ks.map (.yields x)).foldl qcd r=r
 | [],r=>rfl
 |k::ks,r=>qju x ks r
theorem qqx (x:Str)(o:Option (Str×Str))(r:RR)(h:r.still=none):(qfz x o).foldl qcd r={ r with still:=o }:=by
 cases o with
 |none=>show r={ r with still:=none };rw[<- h]
 |some s=>rfl
noncomputable def qbg (r:RR):List Rw7:=r.ends.map (.ends r.name)++(r.anew.map (.anew r.name)++(r.longer.map (λt=>.longer r.name t.1 t.2.1 t.2.2)++(qfz r.name r.still++r.yields.map (.yields r.name))))
theorem qby (r:RR):qb1 r=qa6 r::qbg r:=by
 unfold qb1 qhd qbg
 simp only[List.flatten_cons,List.flatten_nil,AV,Bi,Bd]
noncomputable def qgs (r:RR):RR:=⟨r.name,r.who,r.owes,r.opens,r.base,r.many,r.unit,[],[],[],none,[]⟩
theorem qts (r:RR):(qbg r).foldl qcd (qgs r)=noY r:=by
 unfold qbg
 rw[DP,qm7,DP,qm8,DP,qjt,DP,qqx _ _ _ rfl,qju]
 simp only[qgs,noY,Bd]
theorem qn6 (r:RR):∀row∈qbg r,isT row=false/\qaf row=r.name:=by
 intro row h
 unfold qbg at h
 simp only[Au,AM]at h
 rcases h with ⟨k,_,rfl⟩|⟨k,_,rfl⟩|⟨k,_,rfl⟩|h|⟨k,_,rfl⟩
 .exact⟨rfl,rfl⟩
 .exact⟨rfl,rfl⟩
 .exact⟨rfl,rfl⟩
 .cases es:r.still with
  |none=>rw[es]at h;cases h
  |some s=>rw[es]at h;rw[Ak.mp h];exact⟨rfl,rfl⟩
 .exact⟨rfl,rfl⟩
theorem qwe (r:RR):(qbg r).flatMap kin=r.ends++(r.anew++(r.longer.map (·.1)++stL r.still)):=by
 have e1:∀ks:List Str,(ks.map (Rw7.ends r.name)).flatMap kin=ks:=λks=>by induction ks with|nil=>rfl|cons k ks ih=>rw[A4,Bk,ih];rfl
 have e2:∀ks:List Str,(ks.map (Rw7.anew r.name)).flatMap kin=ks:=λks=>by induction ks with|nil=>rfl|cons k ks ih=>rw[A4,Bk,ih];rfl
 have e3:∀ks:List (Str×Int×Int),(ks.map λt=>Rw7.longer r.name t.1 t.2.1 t.2.2).flatMap kin=ks.map (·.1):=λks=>by induction ks with|nil=>rfl|cons k ks ih=>rw[A4,Bk,ih];rfl
 have e4:∀ks:List Str,(ks.map (Rw7.yields r.name)).flatMap kin=[]:=λks=>by induction ks with|nil=>rfl|cons k ks ih=>rw[A4,Bk,ih];rfl
 unfold qbg
 rw[Bw,Bw,Bw,Bw,e1,e2,e3,e4,AV]
 cases r.still <;>rfl
theorem qik:∀a b:List Rw7,nLg (a++b)=nLg a+nLg b
 | [],b=>(CJ _).symm
 |x::a,b=>by rw[Bi,qll,qll x a,qik a b];lia
theorem qil:∀a b:List Rw7,nSt (a++b)=nSt a+nSt b
 | [],b=>(CJ _).symm
 |x::a,b=>by rw[Bi,qlm,qlm x a,qil a b];lia
theorem n_rest (r:RR):nLg (qbg r)=r.longer.length/\nSt (qbg r)=stN r.still:=by
 have a:∀ks:List Str,nLg (ks.map (Rw7.ends r.name))=0/\nSt (ks.map (Rw7.ends r.name))=0/\nLg (ks.map (Rw7.anew r.name))=0/\nSt (ks.map (Rw7.anew r.name))=0/\nLg (ks.map (Rw7.yields r.name))=0/\nSt (ks.map (Rw7.yields r.name))=0:=λks=>by
  induction ks with
  |nil=>exact⟨rfl,rfl,rfl,rfl,rfl,rfl⟩
  |cons k ks ih=>exact ih
 have b:∀ks:List (Str×Int×Int),nLg (ks.map λt=>Rw7.longer r.name t.1 t.2.1 t.2.2)=ks.length/\nSt (ks.map λt=>Rw7.longer r.name t.1 t.2.1 t.2.2)=0:=λks=>by
  induction ks with
  |nil=>exact⟨rfl,rfl⟩
  |cons k ks ih=>exact⟨congrArg (· + 1) ih.1,ih.2⟩
 have c:∀o:Option (Str×Str),nLg (qfz r.name o)=0/\nSt (qfz r.name o)=stN o:=λo=>by cases o <;>exact⟨rfl,rfl⟩
 unfold qbg
 rw[qik,qik,qik,qik,qil,qil,qil,qil,(a r.ends).1,(a r.ends).2.1,(a r.anew).2.2.1,(a r.anew).2.2.2.1,(b r.longer).1,(b r.longer).2,(c r.still).1,(c r.still).2,(a r.yields).2.2.2.2.1,(a r.yields).2.2.2.2.2]
 lia
theorem qtt {r:RR}(nd:(qav r).Nodup)(l2:r.longer.length<=2):qyn (qgs r) (qbg r):=by
 obtain⟨n1,n2⟩:=n_rest r
 refine qr8 (qn6 r) ?_ (by rw[n1];show 0+_<=2;lia) (by rw[n2];show 0+_<=1;cases r.still <;>simp[stN])
 rw[qwe]
 refine(List.Perm.nodup_iff (List.perm_iff_count.mpr λx=>?_)).mpr nd
 simp only[qav,qgs,CK,BL,List.count_nil,stL]
 lia
theorem qph {rs0:List RR}{r:RR}{i:Nat}(ok:RrOk r)(nd:(qav r).Nodup)(hp:qal rs0 r.name=none)(h6:rs0.length≠6):qbx rs0 i (qa6 r)=.ok (rs0++[qgs r]):=by
 unfold qa6
 cases eb:r.base with
 |some y =>
  show qc7 rs0 i r.name r.who r.owes true y r.many r.unit=_
  rw[qfg (d:=true) hp (λz=>z.elim h6 λz=>nomatch z.1)]
  unfold qey qgs
  rw[eb,ok.bn y eb];rfl
 |none =>
  obtain⟨o,eo⟩:=ok.bo eb
  show qc7 rs0 i r.name r.who r.owes false (r.opens.getD "None") r.many r.unit=_
  rw[eo]
  have ne:r.owes≠o:=λz=>by
   unfold qav at nd
   rw[eo,z]at nd
   simp at nd
  show qc7 rs0 i r.name r.who r.owes false o r.many r.unit=_
  rw[qfg hp (λz=>z.elim h6 λz=>ne z.2)]
  unfold qey qgs
  rw[eb,eo];rfl
theorem qmb {rs0:List RR}{r:RR}{i:Nat}{t:List (Option Rw7)}(ok:RrOk r)(nd:(qav r).Nodup)(l2:r.longer.length<=2)(hp:qal rs0 r.name=none)(h6:rs0.length≠6)(h40:i+(qb1 r).length<=40):qad rs0 i ((qb1 r).map some++t)=qad (rs0++[noY r]) (i+(qb1 r).length) t:=by
 rw[qby]at h40 |-
 rw[At]at h40 |-
 show qad rs0 i (some (qa6 r)::((qbg r).map some++t))=_
 rw[qht (by lia) (qph ok nd hp h6),qhe (r:=qgs r) hp (qtt nd l2) (by lia),qts,show i+1+(qbg r).length=i+((qbg r).length+1) by lia]
noncomputable def qaa (rs:List RR):List Rw7:=rs.flatMap qb1
structure GT (rs:List RR):Prop where
 ok:∀r∈rs,RrOk r
 kd:∀r∈rs,(qav r).Nodup
 l2:∀r∈rs,r.longer.length<=2
 nn:(rs.map RR.name).Nodup
 l6:rs.length<=6
 ba:qje rs
 yl:∀r∈rs,r.yields.Nodup/\∀y∈r.yields,y≠r.name/\∃s∈rs,s.name=y/\s.owes=r.owes
 ln:(qaa rs).length<=40
theorem qim:∀{rs rs0:List RR}{i:Nat}{t:List (Option Rw7)},(∀r∈rs,RrOk r/\(qav r).Nodup/\r.longer.length<=2)->((rs0++rs).map RR.name).Nodup->(rs0++rs).length<=6->i+(qaa rs).length<=40->qad rs0 i ((qaa rs).map some++t)=qad (rs0++rs.map noY) (i+(qaa rs).length) t
 | [],rs0,i,t,_,_,_,_=>by
  show qad rs0 i t=qad (rs0++[]) (i+0) t
  rw[AV];rfl
 |r::rs,rs0,i,t,ok,nn,l6,h40=>by
  have el:qaa (r::rs)=qb1 r++qaa rs:=Bk
  rw[el,Ah]at h40
  obtain⟨o1,o2,o3⟩:=ok r Am
  have hp:qal rs0 r.name=none:=qek.mpr λz=>by
   rw[Aq,AZ]at nn
   exact nn.2.2 _ z r.name (by simp) rfl
  have nn':(((rs0++[noY r])++rs).map RR.name).Nodup:=by
   rw[AB]
   have:((rs0++([noY r]++rs)).map RR.name)=(rs0++r::rs).map RR.name:=by simp[noY]
   rw[this];exact nn
  rw[Ah,At]at l6
  rw[el,Aq,AB,qmb o1 o2 o3 hp (by lia) (by lia),qim (λs hs=>ok s (Ar _ hs)) nn' (by rw[Ah,Ah];show _+1+_<=6;lia) (by lia),Ah,AB,Nat.add_assoc]
  rfl
theorem qln {rs:List RR}(g:GT rs):qad [] 0 ((qaa rs).map some)=.ok (rs.map noY):=by
 have:=qim (rs:=rs) (rs0:=[]) (i:=0) (t:=[]) (λr hr=>⟨g.ok r hr,g.kd r hr,g.l2 r hr⟩) g.nn g.l6 (by have:=g.ln;lia)
 rw[AV,Bd]at this
 rw[this];rfl
theorem qjv:∀{rows:List Rw7}{rs:List RR}{i:Nat}{t:List Rw7},(∀row∈rows,isT row=false/\∀x y,row ≠ .yields x y)->qat rs i (rows++t)=qat rs (i+rows.length) t
 | [],_,_,_,_=>rfl
 |row::rows,rs,i,t,h=>by
  obtain⟨h1,h2⟩:=h row Am
  show qat rs i (row::(rows++t))=_
  rw[qfh (qv4 h1 h2),qjv λrow' hr=>h row' (Ar _ hr),At,show i+1+rows.length=i+(rows.length+1) by lia]
theorem qlo:∀{ys:List Str}{rs:List RR}{r:RR}{i j:Nat}{t:List Rw7},(rs.map RR.name).Nodup->rs[j]?=some r->(r.yields++ys).Nodup->(∀y∈ys,y≠r.name/\∃s∈rs,s.name=y/\s.owes=r.owes)->qat rs i (ys.map (.yields r.name)++t)=qat (rs.set j { r with yields:=r.yields++ys }) (i+ys.length) t
 | [],rs,r,i,j,t,_,hj,_,_=>by
  show qat rs i t=qat (rs.set j { r with yields:=r.yields++[] }) (i+0) t
  rw[AV]
  have:rs.set j r=rs:=by
   apply BG
   intro k
   rw[BW]
   by_cases c:j=k
   .subst c
    rw[if_pos rfl,if_pos (Ac.mp hj).1,hj]
   .rw[if_neg c]
  rw[this];rfl
 |y::ys,rs,r,i,j,t,nn,hj,nd,hy=>by
  obtain⟨y1,s,hs,sn,so⟩:=hy y Am
  obtain⟨l,hl⟩:=Bb hs
  have pl:qal rs y=some l:=by rw[<- sn];exact qg6 nn hl
  have ny:y∉r.yields:=λz=>by
   rw[AZ]at nd
   exact nd.2.2 y z y Am rfl
  have h:qbp rs i (.yields r.name y)=.ok (rs.set j { r with yields:=r.yields++[y] }):=by
   rw[qlg (qg6 nn hj),qhq pl hj hl λz=>z.elim y1 λz=>z.elim ny λz=>z so]
  have en:({ r with yields:=r.yields++[y] }:RR).name=r.name:=rfl
  show qat rs i (.yields r.name y::(ys.map (.yields r.name)++t))=_
  have ih:=qlo (ys:=ys) (rs:=rs.set j { r with yields:=r.yields++[y] }) (r:={ r with yields:=r.yields++[y] }) (i:=i+1) (j:=j) (t:=t) (by rw[qg7 hj en];exact nn) (Bx (Ac.mp hj).1) (by show ((r.yields++[y])++ys).Nodup;rw[AB];exact nd) (λy' hy'=>by
   obtain⟨a1,s',hs',a2,a3⟩:=hy y' (Ar _ hy')
   obtain⟨l',hl'⟩:=Bb hs'
   by_cases c:l'=j
   .subst c
    rw[hj]at hl';cases hl'
    exact absurd a2.symm a1
   .exact⟨a1,s',Ai (i:=l') (by rw[BW,if_neg (Bh c)];exact hl'),a2,a3⟩)
  rw[qfh h]
  refine ih.trans ?_
  rw[List.set_set,At,show i+1+ys.length=i+(ys.length+1) by lia]
  simp only[AB,Bi,Bd]
theorem qpi (r:RR):∃x w o d y m u,qa6 r=.term x w o d y m u/\x=r.name:=by
 unfold qa6
 cases r.base with
 |some y=>exact⟨_,_,_,_,_,_,_,rfl,rfl⟩
 |none=>exact⟨_,_,_,_,_,_,_,rfl,rfl⟩
theorem qpj {rs:List RR}{r r':RR}{i j:Nat}(nn:(rs.map RR.name).Nodup)(hj:rs[j]?=some r')(en:r'.name=r.name)(ba:∀y,r'.base=some y->(qal rs y).isSome=true):qbp rs i (qa6 r)=.ok rs:=by
 obtain⟨x,w,o,d,y,m,u,e,ex⟩:=qpi r
 rw[e,qic (j:=j) (r:=r') (by rw[ex,<- en];exact qg6 nn hj) hj]
 cases eb:r'.base with
 |none=>rfl
 |some z=>dsimp only;rw[if_pos (ba z eb)]
theorem qn7 {rs:List RR}{r:RR}{i j:Nat}{t:List Rw7}(nn:(rs.map RR.name).Nodup)(hj:rs[j]?=some (noY r))(ba:∀y,r.base=some y->(qal rs y).isSome=true)(nd:r.yields.Nodup)(hy:∀y∈r.yields,y≠r.name/\∃s∈rs,s.name=y/\s.owes=r.owes):qat rs i (qb1 r++t)=qat (rs.set j r) (i+(qb1 r).length) t:=by
 have e:qb1 r=qa6 r::((r.ends.map (.ends r.name)++(r.anew.map (.anew r.name)++(r.longer.map (λt=>.longer r.name t.1 t.2.1 t.2.2)++qfz r.name r.still)))++r.yields.map (.yields r.name)):=by
  rw[qby];unfold qbg;simp only[AB]
 rw[e]
 show qat rs i (qa6 r::(_++t))=_
 refine(qfh (qpj (r:=r) (r':=noY r) nn hj rfl ba) _).trans ?_
 rw[AB]
 refine(qjv λrow h=>?_).trans ((qlo (ys:=r.yields) (r:=noY r) nn hj nd hy).trans ?_)
 .simp only[Au,AM]at h
  rcases h with ⟨k,_,rfl⟩|⟨k,_,rfl⟩|⟨k,_,rfl⟩|h
  .exact⟨rfl,λ_ _ z=>nomatch z⟩
  .exact⟨rfl,λ_ _ z=>nomatch z⟩
  .exact⟨rfl,λ_ _ z=>nomatch z⟩
  .cases es:r.still with
   |none=>rw[es]at h;cases h
   |some s=>rw[es]at h;rw[Ak.mp h];exact⟨rfl,λ_ _ z=>nomatch z⟩
 .have:({ noY r with yields:=(noY r).yields++r.yields }:RR)=r:=rfl
  rw[this]
  congr 1
  simp only[At,Ah,Ab]
  lia
theorem qtu (rs:List RR):(rs.map noY).map RR.name=rs.map RR.name:=by rw[Bm];rfl
theorem qpk {rs:List RR}(g:GT rs):qat (rs.map noY) 0 (qaa rs)=.ok rs:=by
 have w:∀k,k<=rs.length->qat (rs.map noY) 0 (qaa rs)=qat (rs.take k++(rs.drop k).map noY) (qaa (rs.take k)).length (qaa (rs.drop k)):=by
  intro k
  induction k with
  |zero=>intro _;rw[DO,List.drop_zero,Bd];rfl
  |succ k ih =>
   intro hk
   rw[ih (by lia)]
   have lk:k<rs.length:=by lia
   have hr:rs[k]?=some rs[k]:=Ae lk
   have hm:rs[k]∈rs:=Bq lk
   have ed:rs.drop k=rs[k]::rs.drop (k+1):=Cp lk
   have lt:(rs.take k).length=k:=by rw[Av];lia
   have nms:(rs.take k++(rs.drop k).map noY).map RR.name=rs.map RR.name:=by
    rw[Aq,qtu,<- Aq,AK]
   have nn:((rs.take k++(rs.drop k).map noY).map RR.name).Nodup:=by rw[nms];exact g.nn
   have hj:(rs.take k++(rs.drop k).map noY)[k]?=some (noY rs[k]):=by
    rw[A9 (by lia),lt,Ca,ed];rfl
   have ea:qaa (rs.drop k)=qb1 rs[k]++qaa (rs.drop (k+1)):=by rw[ed];exact Bk
   rw[ea,qn7 nn hj (λy hy=>by rw[qcq y nms];exact g.ba _ hm y hy) (g.yl _ hm).1 (λy hy=>?_)]
   .have e1:(rs.take k++(rs.drop k).map noY).set k rs[k]=rs.take (k+1)++(rs.drop (k+1)).map noY:=by
     rw[List.set_append_right _ _ (by lia),lt,Ca,ed,qbb hr,AB];rfl
    have e2:(qaa (rs.take k)).length+(qb1 rs[k]).length=(qaa (rs.take (k+1))).length:=by
     rw[qbb hr];unfold qaa;rw[Bw,Ah];simp
    rw[e1,e2]
   .obtain⟨y1,s,hs,y2,y3⟩:=(g.yl _ hm).2 y hy
    refine⟨y1,?_⟩
    rw[<- AK k rs]at hs
    rcases Au.mp hs with z|z
    .exact⟨s,AO _ z,y2,y3⟩
    .exact⟨noY s,Ay _ (AM.mpr ⟨s,z,rfl⟩),y2,y3⟩
 rw[w _ (A3 _),B0,List.drop_length]
 show qat (rs++[]) _ []=_
 rw[AV];rfl
theorem qfi {rows:List Rw7}(h:∀row∈rows,qbi row):qhr (rows.map qag)=rows.map some:=by
 unfold qhr
 rw[Bm]
 exact List.map_congr_left λrow hr=>qn5 (h row hr)
theorem qgt {rs:List RR}(g:∀r∈rs,RrOk r):∀row∈qaa rs,qbi row:=λrow hr=>by
 obtain⟨r,h1,h2⟩:=Bs.mp hr
 exact qym (g r h1) row h2
theorem qm9 {rs:List RR}(g:GT rs):qcc ((qaa rs).map qag)=.ok rs:=by
 unfold qcc
 rw[qfi (qgt g.ok),qln g]
 dsimp only
 rw[qkb,qpk g]
theorem qr9 {f:Nat->Option Nat}{n:Nat}{rk:Nat->Int}(h:∀k b,f k=some b->rk b<rk k){r:List Nat}(rg:Rg f n r):False:=by
 have l1:1<=r.length:=List.length_pos_iff.mpr rg.ne
 have w:∀i,(hi:i<r.length)->rk (r[i])+(i:Int)<=rk (r[0]'(by lia)):=by
  intro i
  induction i with
  |zero=>intro hi;lia
  |succ i ih =>
   intro hi
   have h1:=ih (by lia)
   have h2:=rg.nx i r[i] (Ae (by lia))
   rw[Nat.mod_eq_of_lt hi,Ae hi]at h2
   have:=h _ _ h2
   lia
 have h1:=w (r.length-1) (by lia)
 have h2:=rg.nx (r.length-1) r[r.length-1] (Ae (by lia))
 rw[show r.length-1+1=r.length by lia,Nat.mod_self,Ae (by lia)]at h2
 have:=h _ _ h2
 lia
theorem gt_of {names kinds:List Str}{ow:Nat->Nat}{rk:Nat->Int}{rs:List RR}(g:GRs names ow rk kinds rs)(ln:rs.length=names.length)(no:∀x∈names,qbs x)(nn:names.Nodup)(l6:names.length<=6){mo:Nat}(hm:mo<=40)(hs:(rs.map exR).sum+names.length<=mo):GT rs:=by
 have ri:∀r∈rs,∃k,k<names.length/\rs[k]?=some r/\GR names ow rk kinds k r:=λr hr=>by
  obtain⟨k,hk⟩:=Bb hr
  exact⟨k,by rw[<- ln];exact(Ac.mp hk).1,hk,g k r hk⟩
 have en:rs.map RR.name=names:=by
  apply BG
  intro k
  rw[Al]
  by_cases c:k<names.length
  .have hr:rs[k]?=some (rs[k]'(by lia)):=Ae (by lia)
   rw[hr,qhc c]
   show some (rs[k]'(by lia)).name=_
   rw[(g k _ hr).nm]
  .rw[Bj (by lia),Bj (by lia)];rfl
 have at_:∀b,b<names.length->∃s∈rs,s.name=nm9 names b/\s.owes=nm9 kinds (ow b):=λb hb=>by
  have hr:rs[b]?=some (rs[b]'(by lia)):=Ae (by lia)
  exact⟨_,Ai hr,(g b _ hr).nm,(g b _ hr).os⟩
 refine⟨λr hr=>?_,λr hr=>?_,λr hr=>?_,by rw[en];exact nn,by lia,λr hr y hy=>?_,λr hr=>?_,?_⟩
 .obtain⟨k,hk,_,gr⟩:=ri r hr;exact gr.rrok no hk l6
 .obtain⟨k,hk,_,gr⟩:=ri r hr;exact gr.kd
 .obtain⟨k,hk,_,gr⟩:=ri r hr;exact gr.lg.1
 .obtain⟨k,hk,_,gr⟩:=ri r hr
  rcases gr.bo with ⟨b,hb,e,_⟩|⟨e,_⟩
  .rw[e]at hy
   cases hy
   cases ep:qal rs (nm9 names b) with
   |some j=>rfl
   |none =>
    have:=qek.mp ep
    rw[en]at this
    exact absurd (Ai (qhc hb)) this
  .rw[e]at hy;cases hy
 .obtain⟨k,hk,_,gr⟩:=ri r hr
  refine⟨gr.yl.nd,λy hy=>?_⟩
  obtain⟨b,hb,e,bk,ob⟩:=gr.yl.ok y hy
  refine⟨λz=>bk ?_,?_⟩
  .rw[e,gr.nm]at z
   exact qjd nn hb hk z
  .obtain⟨s,hs1,hs2,hs3⟩:=at_ b hb
   exact⟨s,hs1,by rw[hs2,e],by rw[hs3,ob,gr.os]⟩
 .have el:∀l:List RR,(qaa l).length=(l.map exR).sum+l.length:=by
   intro l
   induction l with
   |nil=>rfl
   |cons r l ih =>
    have:qaa (r::l)=qb1 r++qaa l:=Bk
    rw[this,Ah,ih,A4,List.sum_cons,At,qby,At]
    have:(qbg r).length=exR r:=by
     unfold qbg exR
     simp only[Ah,Ab]
     have:(qfz r.name r.still).length=stN r.still:=by cases r.still <;>rfl
     lia
    lia
  rw[el,ln];lia
theorem ranked {names kinds:List Str}{ow:Nat->Nat}{rk:Nat->Int}{rs:List RR}(g:GRs names ow rk kinds rs)(ln:rs.length=names.length)(nn:names.Nodup):∀k b,bo (bsR rs) k=some b->rk b<rk k:=λk b e=>by
 unfold bo bsR at e
 rw[AC,Al]at e
 cases er:rs[k]? with
 |none=>rw[er]at e;cases e
 |some r =>
  rw[er]at e
  have e:r.base.bind (qal rs)=some b:=e
  rcases (g k r er).bo with ⟨b',hb',eb,hr,_⟩|⟨eb,_⟩
  .rw[eb]at e
   have e:qal rs (nm9 names b')=some b:=e
   obtain⟨s,hs,sn⟩:=qck e
   have:s.name=nm9 names b:=(g b s hs).nm
   have hb:b<names.length:=by rw[<- ln];exact(Ac.mp hs).1
   have:=qjd nn hb hb' (this.symm.trans sn)
   rw[this];exact hr
  .rw[eb]at e;cases e
theorem qgu {K:Ag}{c:Value}{suite qbm:TH}{D:Ends}{σ:L2.St}{x C:Addr}{od:Option Addr}{H:Hp}(e:Ad K (.ref C) c=some true)(h:suite D σ x C od H):hCl K c suite qbm D σ x C od H:=by
 unfold hCl;rw[e];exact h
theorem qcx {K:Ag}{c:Value}{suite qbm:TH}{D:Ends}{σ:L2.St}{x C:Addr}{od:Option Addr}{H:Hp}(e:Ad K (.ref C) c=some false)(h:qbm D σ x C od H):hCl K c suite qbm D σ x C od H:=by
 unfold hCl;rw[e];exact h
noncomputable def erW:Er->Str
 |.rule _=>wS "rule"
 |.term _=>wS "term"
 |.twice _=>wS "twice"
 |.unfit _=>wS "unfit"
noncomputable def spTo (a:Adr):Sp:=λvs H Q _=>∃ls:List Str,vs=[.str (qev ls)]/\Lng ls/\(∀rs,qcc ls=.ok rs->(∀(os:List Nat)(t:Addr)(H':Hp),Ors (bsR rs) rs.length os->Same H H'->H' t=some (.tup [.str (wS "read"),.non,.bl true])->Q (.ref t) H')/\∀(t l:Addr)(H':Hp)(r:List Nat),Same H H'->H' t=some (.tup [.str (wS "ring"),.ref l,.bl true])->H' l=some (.lst ((r.map (nm (rs.map RR.name))).map V.str))->Rg (bo (bsR rs)) (rs.map RR.name).length r->Q (.ref t) H') /\
 ∀e,qcc ls=.error e->∀(t:Addr)(H':Hp),Same H H'->H' t=some (.tup [.str (erW e),(erF e).2,.bl true])->Q (.ref t) H'
noncomputable def spRi:Sp:=λvs H Q _=>∃(ls:List Str)(e:Er),vs=[.str (qev ls),.str (erW e),(erF e).2]/\Lng ls/\qcc ls=.error e/\∀H',Same H H'->Q (.bl true) H'
noncomputable def tk:Rw7->List Str
 |.term _ _ o d y _ _=>o::(if d=true then [] else [y])
 |row=>kin row
structure Jn (rows:List Rw7)(S:List RR):Prop where
 nm:∀x,x∈S.map RR.name ↔ ∃row∈rows,isT row=true/\qaf row=x
 nd:(S.map RR.name).Nodup
 l6:S.length<=6
 hs:∀row∈rows,qaf row∈S.map RR.name
 kd:∀row∈rows,∀k∈tk row,∀s∈S,s.name=qaf row->k∈qav s
theorem tk_m {row:Rw7}(h:isT row=false):tk row=kin row:=by cases row <;>first|rfl|cases h
theorem unf_st {r:RR}{row:Rw7}(h:qgq r row=false):nSt [row]+stN r.still<=1:=by
 have s1:stN r.still<=1:=by cases r.still <;>simp[stN]
 cases row with
 |still x k l =>
  unfold qgq qye at h
  cases e:r.still with
  |none=>simp[nSt,stN]
  |some z=>rw[e]at h;simp at h
 |_=>simp only[nSt];lia
theorem qyq {rows:List Rw7}{S S':List RR}{i:Nat}{row:Rw7}(j:Jn rows S)(h:qbx S i row=.ok S'):Jn (rows++[row]) S':=by
 cases ht:isT row with
 |true =>
  cases row with
  |term x w o d y m u =>
   have h:qc7 S i x w o d y m u=.ok S':=h
   cases pn:qal S x with
   |some j=>rw[qlc (by rw[pn];rfl)]at h;cases h
   |none =>
    by_cases c:S.length=6\/(d=false/\o=y)
    .rw[qgr pn c]at h;cases h
    .rw[qfg pn c]at h
     cases h
     have nx:=qek.mp pn
     refine⟨λz=>?_,?_,?_,λrow hr=>?_,λrow hr k hk s hs en=>?_⟩
     .rw[Aq,Au,j.nm z]
      constructor
      .rintro (⟨row,hr,e⟩|hz)
       .exact⟨row,AO _ hr,e⟩
       .exact⟨_,Ay _ (Ak.mpr rfl),rfl,(Ak.mp hz).symm⟩
      .rintro⟨row,hr,e1,e2⟩
       rcases Au.mp hr with hr|hr
       .exact .inl ⟨row,hr,e1,e2⟩
       .cases Ak.mp hr
        exact .inr (Ak.mpr e2.symm)
     .rw[Aq]
      refine AZ.mpr ⟨j.nd,Bg.mpr ⟨Ax,List.nodup_nil⟩,λa ha b hb e=>?_⟩
      cases Ak.mp hb
      rw[e]at ha
      exact nx ha
     .rw[Ah];have:=j.l6;show _+1<=6;lia
     .rw[Aq]
      rcases Au.mp hr with hr|hr
      .exact AO _ (j.hs _ hr)
      .cases Ak.mp hr;exact Ay _ (Ak.mpr rfl)
     .rcases Au.mp hr with hr|hr
      .rcases Au.mp hs with hs|hs
       .exact j.kd row hr k hk s hs en
       .cases Ak.mp hs
        exact absurd (by rw[show x=qaf row from en];exact j.hs _ hr) nx
      .cases Ak.mp hr
       rcases Au.mp hs with hs|hs
       .exact absurd (by rw[show x=s.name from en.symm];exact B9 hs) nx
       .cases Ak.mp hs
        unfold tk at hk
        rcases An.mp hk with rfl|hk
        .unfold qav qey;simp
        .cases d with
         |true=>simp at hk
         |false=>simp at hk;subst hk;unfold qav qey;simp
  |_=>cases ht
 |false =>
  rw[qdc ht]at h
  cases pn:qal S (qaf row) with
  |none=>rw[qld pn]at h;cases h
  |some q =>
   obtain⟨r,hr,en⟩:=qck pn
   cases u:qgq r row with
   |true=>rw[qle pn hr u]at h;cases h
   |false =>
    rw[qib pn hr u]at h
    cases h
    have pm:=qm6 r ht (unf_st u)
    have nms:(S.set q (qcd r row)).map RR.name=S.map RR.name:=qg7 hr (qe4 r row)
    have inr:qaf row∈S.map RR.name:=by rw[<- en];exact B9 (Ai hr)
    refine⟨λz=>?_,by rw[nms];exact j.nd,by rw[BN];exact j.l6,λrow2 h2=>?_,λrow2 h2 k hk s hs e2=>?_⟩
    .rw[nms,j.nm z]
     constructor
     .rintro⟨row,hr,e⟩;exact⟨row,AO _ hr,e⟩
     .rintro⟨row2,hr,e1,e2⟩
      rcases Au.mp hr with hr|hr
      .exact⟨row2,hr,e1,e2⟩
      .cases Ak.mp hr;rw[ht]at e1;cases e1
    .rw[nms]
     rcases Au.mp h2 with h2|h2
     .exact j.hs _ h2
     .cases Ak.mp h2;exact inr
    .rcases Au.mp h2 with h2|h2
     .rcases Cq hs with hs|rfl
      .exact j.kd row2 h2 k hk s hs e2
      .exact pm.mem_iff.mpr (AO _ (j.kd row2 h2 k hk r (Ai hr) (by rw[<- e2,qe4])))
     .cases Ak.mp h2
      rw[tk_m ht]at hk
      obtain⟨i,hi⟩:=Bb hs
      have hp:=qg6 (by rw[nms];exact j.nd) hi
      rw[qcq s.name nms,e2,pn]at hp
      cases hp
      rw[Bx (Ac.mp hr).1]at hi
      cases hi
      exact pm.mem_iff.mpr (Ay _ hk)
theorem jn_nil:Jn [] []:=⟨λx=>⟨(λh=>nomatch h),(λ⟨_,h,_⟩=>nomatch h)⟩,List.nodup_nil,Ex,(λ_ h=>nomatch h),(λ_ h=>nomatch h)⟩
theorem qce (r:RR):isT (qa6 r)=true/\qaf (qa6 r)=r.name:=by
 obtain⟨x,w,o,d,y,m,u,e,ex⟩:=qpi r
 rw[e];exact⟨rfl,ex⟩
noncomputable def hd (rs:List RR)(k:Nat):Nat:=(qaa (rs.take k)).length
theorem qpl {rs:List RR}{k:Nat}{r:RR}(h:rs[k]?=some r):qaa rs=qaa (rs.take k)++(qa6 r::(qbg r++qaa (rs.drop (k+1)))):=by
 have e:rs=rs.take k++r::rs.drop (k+1):=by
  obtain⟨hk,rfl⟩:=Ac.mp h
  rw[List.getElem_cons_drop,AK]
 conv=>lhs;rw[e]
 unfold qaa
 rw[Bw,Bk,qby];rfl
theorem qlp {rs:List RR}{k n:Nat}{r:RR}(h:rs[k]?=some r)(hn:hd rs k<n):qa6 r∈(qaa rs).take n:=by
 rw[qpl h,Dx]
 refine Ay _ ?_
 unfold hd at hn
 obtain⟨m,hm⟩:∃m,n-(qaa (rs.take k)).length=m+1:=⟨n-(qaa (rs.take k)).length-1,by lia⟩
 rw[hm,List.take_succ_cons]
 exact Am
theorem qwf {rs:List RR}{k:Nat}{r:RR}(h:rs[k]?=some r):hd rs k<(qaa rs).length:=by
 rw[qpl h,Ah,At];unfold hd;lia
theorem hd_le {rs:List RR}{j k:Nat}(h:j<=k):hd rs j<=hd rs k:=by
 unfold hd qaa
 obtain⟨d,rfl⟩:∃d,k=j+d:=⟨k-j,by lia⟩
 rw[List.take_add,Bw,Ah];lia
section
variable {rs:List RR}(g:GT rs){n:Nat}(hn:n<=(qaa rs).length)
include g hn
end
theorem qwg:∀l:List RR,(qaa l).length=(l.map exR).sum+l.length:=by
 intro l
 induction l with
 |nil=>rfl
 |cons r l ih =>
  have:qaa (r::l)=qb1 r++qaa l:=Bk
  rw[this,Ah,ih,A4,List.sum_cons,At,qby,At]
  have:(qbg r).length=exR r:=by
   unfold qbg exR
   simp only[Ah,Ab]
   have:(qfz r.name r.still).length=stN r.still:=by cases r.still <;>rfl
   lia
  lia
theorem qtv {names kinds:List Str}{ow:Nat->Nat}{rk:Nat->Int}{rs:List RR}(g:GRs names ow rk kinds rs)(ln:rs.length=names.length):rs.map RR.name=names:=by
 apply BG
 intro k
 rw[Al]
 by_cases c:k<names.length
 .have hr:rs[k]?=some (rs[k]'(by lia)):=Ae (by lia)
  rw[hr,qhc c]
  show some (rs[k]'(by lia)).name=_
  rw[(g k _ hr).nm]
 .rw[Bj (by lia),Bj (by lia)];rfl
theorem qlq {ls:List Str}(h:Lng ls):JoinOk (wS "\n") ls=true/\Txt.join (wS "\n") ls=qev ls:=by
 constructor
 .unfold JoinOk
  rw[StrLaws.joinFits (B:=200) (λp hp=>(h.c p hp).1) (by
   have:=h.n
   rw[show (wS "\n").length=1 by decide +kernel]
   show ls.length*200+ls.length*1<=16777216
   lia)]
  rfl
 .show AY.Str.glued _ _=_
  rw[StrLaws.glued_eq_join,newl]
  rfl
theorem qfj {rows:List Rw7}(h:∀row∈rows,qbi row)(n:rows.length<=100):Lng (rows.map qag):=by
 refine⟨by rw[Ab];exact n,λl hl=>?_,λe=>?_⟩
 .obtain⟨row,hr,rfl⟩:=AM.mp hl
  have:=qg8 (h row hr)
  exact⟨by lia,this.2.1⟩
 .cases rows with
  |nil=>cases e
  |cons r t =>
   rw[A4]at e
   injection e with e1 _
   have:=(qg8 (h r Am)).2.2
   rw[e1]at this
   exact this Ez
noncomputable def lk (S:List RR)(x:Str):Option RR:=S.find? λr=>decide (r.name=x)
theorem qha (r:RR)(S:List RR)(x:Str):lk (r::S) x=if r.name=x then some r else lk S x:=by
 unfold lk
 rw[Cz]
 by_cases c:r.name=x
 .rw[if_pos c,decide_eq_true c]
 .rw[if_neg c,decide_eq_false c]
theorem qe6 {S:List RR}{x:Str}:qal S x=none↔lk S x=none:=by
 induction S with
 |nil=>exact⟨λ_=>rfl,λ_=>rfl⟩
 |cons r S ih =>
  rw[qha]
  show (if r.name=x then some 0 else (qal S x).map (· + 1))=none↔_
  by_cases c:r.name=x
  .rw[if_pos c,if_pos c];simp
  .rw[if_neg c,if_neg c,Option.map_eq_none_iff];exact ih
theorem qeg {S:List RR}{x:Str}{j:Nat}(h:qal S x=some j):lk S x=some (S.getD j r0)/\(S.getD j r0).name=x/\j<S.length:=by
 induction S generalizing j with
 |nil=>cases h
 |cons r S ih =>
  rw[qha]
  have h:(if r.name=x then some 0 else (qal S x).map (· + 1))=some j:=h
  by_cases c:r.name=x
  .rw[if_pos c]at h |-
   cases h
   exact⟨rfl,c,C2 _⟩
  .rw[if_neg c]at h |-
   obtain⟨j',h1,h2⟩:=DJ.mp h
   obtain⟨g1,g2,g3⟩:=ih h1
   have h2:j'+1=j:=h2
   rw[<- h2]
   exact⟨g1,g2,Nat.succ_lt_succ g3⟩
theorem qjw {S:List RR}{x:Str}{r:RR}(h:lk S x=some r):∃j,qal S x=some j/\S.getD j r0=r:=by
 cases e:qal S x with
 |none=>rw[qe6.mp e]at h;cases h
 |some j=>exact⟨j,rfl,by rw[(qeg e).1]at h;exact AD h⟩
theorem qjx {S:List RR}{x:Str}{r:RR}(h:lk S x=some r):r.name=x/\r∈S:=⟨by have:=List.find?_some h;exact of_decide_eq_true this,List.mem_of_find?_eq_some h⟩
theorem qdv {S:List RR}{x:Str}:(∃r,lk S x=some r)↔x∈S.map RR.name:=by
 constructor
 .rintro⟨r,h⟩
  exact AM.mpr ⟨r,(qjx h).2,(qjx h).1⟩
 .intro h
  cases e:lk S x with
  |some r=>exact⟨r,rfl⟩
  |none =>
   obtain⟨r,h1,h2⟩:=AM.mp h
   have:=List.find?_eq_none.mp e r h1
   exact absurd (decide_eq_true h2) this
theorem qjg {S:List RR}{x:Str}{j:Nat}{r:RR}(h:qal S x=some j)(hr:r.name=x)(y:Str):lk (S.set j r) y=if y=x then some r else lk S y:=by
 induction S generalizing j with
 |nil=>cases h
 |cons s S ih =>
  have h:(if s.name=x then some 0 else (qal S x).map (· + 1))=some j:=h
  by_cases c:s.name=x
  .rw[if_pos c]at h
   cases h
   rw[List.set_cons_zero,qha,qha,hr,c]
   by_cases d:y=x
   .rw[if_pos d,if_pos d.symm]
   .rw[if_neg d,if_neg (λz=>d z.symm),if_neg (λz=>d z.symm)]
  .rw[if_neg c]at h
   obtain⟨j',h1,h2⟩:=DJ.mp h
   have h2:j'+1=j:=h2
   rw[<- h2,List.set_cons_succ,qha,qha,ih h1]
   by_cases d:y=x
   .rw[if_pos d,if_pos d,if_neg (λz=>c (z.trans d))]
   .rw[if_neg d,if_neg d]
theorem set_nm {S:List RR}{x:Str}{j:Nat}{r:RR}(h:qal S x=some j)(hr:r.name=x):(S.set j r).map RR.name=S.map RR.name:=by
 obtain⟨_,g2,g3⟩:=qeg h
 rw[List.map_set]
 apply BG
 intro i
 rw[BW]
 by_cases c:j=i
 .rw[if_pos c,<- c,Ab,if_pos g3,Al,Ae g3]
  rw[AC,Ae g3]at g2
  show some r.name=some (S[j].name)
  rw[hr,show S[j].name=x from g2]
 .rw[if_neg c]
noncomputable def ylO (R:List Rw7)(x:Str):List Str:=R.filterMap λrow=>match row with | .yields a b=>if a=x then some b else none|_=>none
theorem qgv (R:List Rw7)(row:Rw7)(x:Str):ylO (R++[row]) x=ylO R x++(match row with | .yields a b=>if a=x then [b] else [] | _=>[]):=by
 unfold ylO
 rw[List.filterMap_append]
 congr 1
 cases row with
 |yields a b=>by_cases c:a=x <;>simp[c]
 |_=>rfl
structure Sv (S0:List RR)(P:List Rw7)(S:List RR):Prop where
 nm:S.map RR.name=S0.map RR.name
 fd:∀x r,lk S0 x=some r->∃s,lk S x=some s/\s.owes=r.owes/\s.base=r.base/\s.yields=ylO P x
noncomputable def qna (S0:List RR)(P:List Rw7):Rw7->Prop
 |.term x _ _ _ _ _ _=>∀r y,lk S0 x=some r->r.base=some y->y∈S0.map RR.name
 |.yields x y=>y∈S0.map RR.name/\y≠x/\y∉ylO P x/\∀r s,lk S0 x=some r->lk S0 y=some s->s.owes=r.owes
 |_=>True
theorem Sv.mem {S0 S:List RR}{P:List Rw7}(v:Sv S0 P S)(y:Str):y∈S0.map RR.name↔(qal S y).isSome=true:=by
 rw[<- v.nm,<- qdv]
 cases e:qal S y with
 |none=>rw[qe6.mp e];simp
 |some j=>rw[(qeg e).1];simp
theorem Sv.step {S0 S:List RR}{P:List Rw7}{row:Rw7}(v:Sv S0 P S)(f:qna S0 P row)(hn:qaf row∈S0.map RR.name)(i:Nat):∃S',qbp S i row=.ok S'/\Sv S0 (P++[row]) S':=by
 have same:(∀x,ylO (P++[row]) x=ylO P x)->Sv S0 (P++[row]) S:=λe=>⟨v.nm,λx r h=>by
  obtain⟨s,h1,h2,h3,h4⟩:=v.fd x r h
  exact⟨s,h1,h2,h3,by rw[h4,e]⟩⟩
 obtain⟨r,hr⟩:=qdv.mpr hn
 obtain⟨s,h1,h2,h3,h4⟩:=v.fd _ r hr
 obtain⟨j,g1,g2⟩:=qjw h1
 cases row with
 |term x w o d y m u =>
  refine⟨S,?_,same λz=>by rw[qgv];simp⟩
  have g1:qal S x=some j:=g1
  show (match qal S x with|none=>Except.ok S|some j=>match (S.getD j r0).base with|none=>.ok S|some y=>if (qal S y).isSome=true then .ok S else .error (Er.term y))=_
  rw[g1]
  dsimp only
  rw[g2,h3]
  cases e:r.base with
  |none=>rfl
  |some b =>
   dsimp only
   rw[if_pos ((v.mem b).mp (f r b hr e))]
 |yields x y =>
  obtain⟨f1,f2,f3,f4⟩:=f
  have hr:lk S0 x=some r:=hr
  have g1:qal S x=some j:=g1
  obtain⟨r2,hr2⟩:=qdv.mpr f1
  obtain⟨s2,k1,k2,k3,k4⟩:=v.fd _ r2 hr2
  obtain⟨j2,l1,l2⟩:=qjw k1
  have sn:s.name=x:=(qjx h1).1
  have e:qbp S i (.yields x y)=.ok (S.set j { s with yields:=s.yields++[y] }):=by
   show (match qal S x with|none=>Except.ok S|some j=>qca S i j y)=_
   rw[g1]
   dsimp only
   unfold qca
   rw[l1]
   dsimp only
   rw[g2,l2,if_neg]
   rintro (z|z|z)
   .exact f2 (z.trans sn)
   .rw[h4]at z;exact f3 z
   .exact z (by rw[k2,h2];exact f4 r r2 hr hr2)
  refine⟨_,e,by rw[set_nm (r:={ s with yields:=s.yields++[y] }) g1 sn];exact v.nm,λz r3 h=>?_⟩
  rw[qjg (r:={ s with yields:=s.yields++[y] }) g1 sn]
  by_cases c:z=x
  .rw[if_pos c]
   rw[c,hr]at h
   cases h
   refine⟨_,rfl,h2,h3,?_⟩
   show s.yields++[y]=_
   rw[h4,qgv,c]
   simp[qaf]
  .rw[if_neg c]
   obtain⟨s4,m1,m2,m3,m4⟩:=v.fd z r3 h
   refine⟨s4,m1,m2,m3,?_⟩
   rw[m4,qgv]
   dsimp only
   rw[if_neg (λq=>c q.symm),AV]
 |_=>exact⟨S,rfl,same λz=>by rw[qgv];simp⟩
theorem Sv.badT {S0 S:List RR}{P:List Rw7}(v:Sv S0 P S){x w o y:Str}{d:Bool}{z:Str}{m:Int}{u:Str}{r:RR}(hr:lk S0 x=some r)(hb:r.base=some y)(hy:y∉S0.map RR.name)(i:Nat):qbp S i (.term x w o d z m u)=.error (.term y):=by
 obtain⟨s,h1,h2,h3,h4⟩:=v.fd _ r hr
 obtain⟨j,g1,g2⟩:=qjw h1
 show (match qal S x with|none=>Except.ok S|some j=>match (S.getD j r0).base with|none=>.ok S|some y=>if (qal S y).isSome=true then .ok S else .error (Er.term y))=_
 rw[g1]
 dsimp only
 rw[g2,h3,hb]
 dsimp only
 rw[if_neg (λz=>hy ((v.mem y).mpr z))]
theorem Sv.badY {S0 S:List RR}{P:List Rw7}(v:Sv S0 P S){x y:Str}(hx:x∈S0.map RR.name)(hy:y∉S0.map RR.name)(i:Nat):qbp S i (.yields x y)=.error (.term y):=by
 obtain⟨r,hr⟩:=qdv.mpr hx
 obtain⟨s,h1,h2,h3,h4⟩:=v.fd _ r hr
 obtain⟨j,g1,g2⟩:=qjw h1
 show (match qal S x with|none=>Except.ok S|some j=>qca S i j y)=_
 rw[g1]
 dsimp only
 unfold qca
 have:qal S y=none:=by
  cases e:qal S y with
  |none=>rfl
  |some k=>exact absurd ((v.mem y).mpr (by rw[e];rfl)) hy
 rw[this]
theorem Sv.badU {S0 S:List RR}{P:List Rw7}(v:Sv S0 P S){x y:Str}{r r2:RR}(hr:lk S0 x=some r)(hr2:lk S0 y=some r2)(c:y=x\/y∈ylO P x\/r2.owes≠r.owes)(i:Nat):qbp S i (.yields x y)=.error (.unfit i):=by
 obtain⟨s,h1,h2,h3,h4⟩:=v.fd _ r hr
 obtain⟨j,g1,g2⟩:=qjw h1
 obtain⟨s2,k1,k2,k3,k4⟩:=v.fd _ r2 hr2
 obtain⟨j2,l1,l2⟩:=qjw k1
 have sn:s.name=x:=(qjx h1).1
 show (match qal S x with|none=>Except.ok S|some j=>qca S i j y)=_
 rw[g1]
 dsimp only
 unfold qca
 rw[l1]
 dsimp only
 rw[g2,l2,if_pos]
 rcases c with z|z|z
 .exact .inl (by rw[sn];exact z)
 .exact .inr (.inl (by rw[h4];exact z))
 .exact .inr (.inr (by rw[k2,h2];exact z))
theorem Sv.run {S0:List RR}:∀{Q P:List Rw7}{S:List RR}{i:Nat},Sv S0 P S->(∀(A:List Rw7)(row:Rw7)(B:List Rw7),Q=A++row::B->qna S0 (P++A) row/\qaf row∈S0.map RR.name)->∃S',qat S i Q=.ok S'/\Sv S0 (P++Q) S'
 | [],P,S,i,v,_=>⟨S,rfl,by rw[AV];exact v⟩
 |row::Q,P,S,i,v,h=>by
  obtain⟨f,hn⟩:=h [] row Q rfl
  rw[AV]at f
  obtain⟨S',e,v'⟩:=v.step f hn i
  obtain⟨S2,e2,v2⟩:=Sv.run (Q:=Q) (i:=i+1) v' λA r B z=>by
   have:=h (row::A) r B (by rw[z];rfl)
   rw[AB]
   exact this
  refine⟨S2,?_,by rw[AB]at v2;exact v2⟩
  rw[qdd,e]
  exact e2
theorem Sv.start {S0:List RR}(h:∀r∈S0,r.yields=[]):Sv S0 [] S0:=⟨rfl,λx r e=>⟨r,e,rfl,rfl,h r (qjx e).2⟩⟩
structure Tl (R:List Rw7)(S:List RR):Prop where
 j:Jn R S
 tm:∀x w o d y m u,Rw7.term x w o d y m u∈R->∃r,lk S x=some r/\r.owes=o/\r.base=(if d=true then some y else none)
 yl:∀r∈S,r.yields=[]
theorem qyr {rows:List Rw7}{S S':List RR}{i:Nat}{row:Rw7}(t:Tl rows S)(h:qbx S i row=.ok S'):Tl (rows++[row]) S':=by
 have jn:=qyq t.j h
 cases ht:isT row with
 |true =>
  cases row with
  |term x w o d y m u =>
   have h:qc7 S i x w o d y m u=.ok S':=h
   unfold qc7 at h
   split at h
   .cases h
   .rename_i c1
    split at h
    .cases h
    .cases h
     have pn:lk S x=none:=qe6.mp (by cases e:qal S x with|none=>rfl|some j=>exact absurd (by rw[e];rfl) c1)
     refine⟨jn,λx' w' o' d' y' m' u' hm=>?_,λr hr=>?_⟩
     .unfold lk
      rw[List.find?_append]
      rcases Au.mp hm with hm|hm
      .obtain⟨r,h1,h2⟩:=t.tm _ _ _ _ _ _ _ hm
       exact⟨r,by rw[show S.find? (λr=>decide (r.name=x'))=some r from h1];rfl,h2⟩
      .cases Ak.mp hm
       refine⟨qey x w o d y m u,by rw[show S.find? (λr=>decide (r.name=x))=none from pn];simp[qey],?_⟩
       cases d <;>exact⟨rfl,rfl⟩
     .rcases Au.mp hr with hr|hr
      .exact t.yl r hr
      .rw[Ak.mp hr];cases d <;>rfl
  |_=>cases ht
 |false =>
  rw[qdc ht]at h
  unfold qez at h
  cases pn:qal S (qaf row) with
  |none=>rw[pn]at h;cases h
  |some j =>
   rw[pn]at h
   dsimp only at h
   split at h
   .cases h
   .cases h
    obtain⟨l1,l2,l3⟩:=qeg pn
    have mn:(qcd (S.getD j r0) row).name=qaf row/\(qcd (S.getD j r0) row).owes=(S.getD j r0).owes/\(qcd (S.getD j r0) row).base=(S.getD j r0).base/\(qcd (S.getD j r0) row).yields=(S.getD j r0).yields:=by
     rw[<- l2]
     cases row <;>exact⟨rfl,rfl,rfl,rfl⟩
    refine⟨jn,λx' w' o' d' y' m' u' hm=>?_,λr hr=>?_⟩
    .rcases Au.mp hm with hm|hm
     .obtain⟨r,h1,h2,h3⟩:=t.tm _ _ _ _ _ _ _ hm
      rw[qjg pn mn.1]
      by_cases c:x'=qaf row
      .rw[if_pos c]
       rw[c,l1]at h1
       cases h1
       exact⟨_,rfl,by rw[mn.2.1];exact h2,by rw[mn.2.2.1];exact h3⟩
      .rw[if_neg c];exact⟨r,h1,h2,h3⟩
     .rw[<- Ak.mp hm]at ht;cases ht
    .rcases Cq hr with hr|hr
     .exact t.yl r hr
     .rw[hr,mn.2.2.2]
      exact t.yl _ (qjx l1).2
theorem qqy:∀{rows rows0:List Rw7}{S0 S:List RR}{i:Nat},Tl rows0 S0->qad S0 i (rows.map some)=.ok S->Tl (rows0++rows) S
 | [],rows0,S0,S,i,t,h=>by
  cases h
  rw[AV];exact t
 |row::rows,rows0,S0,S,i,t,h=>by
  have h:qad S0 i (some row::rows.map some)=.ok S:=h
  rw[qaw]at h
  split at h
  .cases h
  .dsimp only at h
   cases e:qbx S0 i row with
   |error e'=>rw[e]at h;cases h
   |ok S1 =>
    rw[e]at h
    have:=qqy (qyr t e) h
    rw[AB]at this
    exact this
theorem qwh:Tl [] []:=⟨jn_nil,(λ_ _ _ _ _ _ _ h=>nomatch h),(λ_ h=>nomatch h)⟩
noncomputable def okL (X:List Str):List Str->List (Rw7×Bool)->Prop
 |_,[]=>True
 |N,(row,false)::L=>qaf row∉X/\okL X (if isT row=true then qaf row::N else N) L
 |N,(.term x _ o d y _ _,true)::L=>x∈X/\x∉N/\¬(d=false/\o=y)/\okL X (x::N) L
 |N,(.yields x _,true)::L=>x∈N/\okL X N L
 |_,(_,true)::_=>False
noncomputable def orL (L:List (Rw7×Bool)):List Rw7:=(L.filter λp=>!p.2).map (·.1)
noncomputable def nT (L:List (Rw7×Bool)):Nat:=(L.filter λp=>isT p.1).length
theorem qin (S:List RR)(r:RR)(x:Str):lk (S++[r]) x=(lk S x).or (if r.name=x then some r else none):=by
 unfold lk
 rw[List.find?_append]
 congr 1
 show List.find? _ [r]=_
 rw[Cz]
 by_cases c:r.name=x
 .rw[if_pos c,decide_eq_true c]
 .rw[if_neg c,decide_eq_false c];rfl
theorem qpm {S:List RR}{i:Nat}{row:Rw7}{r:RR}(h:lk S (qaf row)=some r)(u:qgq r row=false):∃j,qal S (qaf row)=some j/\qez S i row=.ok (S.set j (qcd r row)):=by
 obtain⟨j,g1,g2⟩:=qjw h
 refine⟨j,g1,?_⟩
 unfold qez
 rw[g1]
 dsimp only
 rw[g2,if_neg (by rw[u];decide)]
theorem par {X:List Str}:∀{L:List (Rw7×Bool)}{N:List Str}{S S' T:List RR}{i i':Nat},okL X N L->(∀y,y∉X->lk S' y=lk S y)->(∀x,x∈N ↔ ∃r,lk S' x=some r)->qad S i ((orL L).map some)=.ok T->i'+L.length<=40->S'.length+nT L<=6->∃T',qad S' i' ((L.map (·.1)).map some)=.ok T'
 | [],_,_,S',_,_,_,_,_,_,_,_,_=>⟨S',rfl⟩
 | (row,false)::L,N,S,S',T,i,i',ok,rel,nn,h,hl,h6=>by
  obtain⟨nx,ok'⟩:=ok
  have h:qad S i (some row::(orL L).map some)=.ok T:=h
  rw[qaw]at h
  rw[At]at hl
  show ∃T',qad S' i' (some row::(L.map (·.1)).map some)=.ok T'
  rw[qaw,if_neg (by lia)]
  split at h
  .cases h
  .dsimp only at h |-
   cases e:qbx S i row with
   |error e'=>rw[e]at h;cases h
   |ok S1 =>
    rw[e]at h
    dsimp only at h
    cases ht:isT row with
    |true =>
     rw[ht,if_pos rfl]at ok'
     cases row with
     |term x w o d y m u =>
      have e:qc7 S i x w o d y m u=.ok S1:=e
      unfold qc7 at e
      split at e
      .cases e
      .rename_i c1
       split at e
       .cases e
       .rename_i c2
        cases e
        have pn:lk S x=none:=qe6.mp (by cases e:qal S x with|none=>rfl|some j=>exact absurd (by rw[e];rfl) c1)
        have pn':lk S' x=none:=by rw[rel x nx];exact pn
        have l6:S'.length+(nT L+1)<=6:=h6
        have e':qbx S' i' (.term x w o d y m u)=.ok (S'++[qey x w o d y m u]):=by
         show qc7 S' i' x w o d y m u=_
         unfold qc7
         rw[if_neg (by rw[qe6.mpr pn'];decide),if_neg]
         rintro (z|z)
         .lia
         .exact c2 (.inr z)
        rw[e']
        refine par ok' (λz hz=>?_) (λz=>?_) h (by lia) (by rw[Ah];show _+1+_<=6;lia)
        .rw[qin,qin,rel z hz]
        .rw[qin,An,nn z]
         show z=x\/_↔_
         by_cases c:z=x
         .rw[c,pn']
          exact⟨λ_=>⟨qey x w o d y m u,by show (if x=x then _ else _)=_;rw[if_pos rfl]⟩,λ_=>.inl rfl⟩
         .rw[show (qey x w o d y m u).name=x from rfl,if_neg (λq=>c q.symm),Option.or_none]
          exact⟨λq=>q.elim (λq=>absurd q c) id,.inr⟩
     |_=>cases ht
    |false =>
     rw[ht,if_neg Ex]at ok'
     rw[qdc ht]at e |-
     cases pn:qal S (qaf row) with
     |none=>unfold qez at e;rw[pn]at e;cases e
     |some j =>
      obtain⟨l1,l2,l3⟩:=qeg pn
      unfold qez at e
      rw[pn]at e
      dsimp only at e
      split at e
      .cases e
      .rename_i c1
       cases e
       have l1':lk S' (qaf row)=some (S.getD j r0):=by rw[rel _ nx];exact l1
       obtain⟨j',g1,g2⟩:=qpm (i:=i') l1' (by cases q:qgq (S.getD j r0) row with|false=>rfl|true=>exact absurd q c1)
       rw[g2]
       have mn:(qcd (S.getD j r0) row).name=qaf row:=by rw[qe4];exact l2
       refine par ok' (λz hz=>?_) (λz=>?_) h (by lia) (by rw[BN];have:nT ((row,false)::L)=nT L:=by { unfold nT;rw[Dw,if_neg (by rw[ht];decide)] };lia)
       .rw[qjg pn mn,qjg g1 mn,rel z hz]
       .rw[qjg g1 mn,nn z]
        by_cases c:z=qaf row
        .rw[if_pos c,c,l1'];exact⟨λ_=>⟨_,rfl⟩,λ_=>⟨_,rfl⟩⟩
        .rw[if_neg c]
 | (.term x w o d y m u,true)::L,N,S,S',T,i,i',ok,rel,nn,h,hl,h6=>by
  obtain⟨hx,hn,c,ok'⟩:=ok
  have h:qad S i ((orL L).map some)=.ok T:=h
  rw[At]at hl
  show ∃T',qad S' i' (some _::(L.map (·.1)).map some)=.ok T'
  rw[qaw,if_neg (by lia)]
  have pn':lk S' x=none:=by
   cases e:lk S' x with
   |none=>rfl
   |some r=>exact absurd ((nn x).mpr ⟨r,e⟩) hn
  have l6:S'.length+(nT L+1)<=6:=h6
  have e':qbx S' i' (.term x w o d y m u)=.ok (S'++[qey x w o d y m u]):=by
   show qc7 S' i' x w o d y m u=_
   unfold qc7
   rw[if_neg (by rw[qe6.mpr pn'];decide),if_neg]
   rintro (z|z)
   .lia
   .exact c z
  dsimp only
  rw[e']
  refine par ok' (λz hz=>?_) (λz=>?_) h (by lia) (by rw[Ah];show _+1+_<=6;lia)
  .rw[qin,show (qey x w o d y m u).name=x from rfl,if_neg (λq=>hz (by rw[<- q];exact hx)),Option.or_none,rel z hz]
  .rw[qin,An,nn z]
   by_cases c:z=x
   .rw[c,pn']
    exact⟨λ_=>⟨qey x w o d y m u,by show (if x=x then _ else _)=_;rw[if_pos rfl]⟩,λ_=>.inl rfl⟩
   .rw[show (qey x w o d y m u).name=x from rfl,if_neg (λq=>c q.symm),Option.or_none]
    exact⟨λq=>q.elim (λq=>absurd q c) id,.inr⟩
 | (.yields x y,true)::L,N,S,S',T,i,i',ok,rel,nn,h,hl,h6=>by
  obtain⟨hx,ok'⟩:=ok
  have h:qad S i ((orL L).map some)=.ok T:=h
  rw[At]at hl
  show ∃T',qad S' i' (some _::(L.map (·.1)).map some)=.ok T'
  rw[qaw,if_neg (by lia)]
  obtain⟨r,hr⟩:=(nn x).mp hx
  obtain⟨j',g1,g2⟩:=qpm (i:=i') (row:=.yields x y) hr rfl
  dsimp only
  rw[qdc rfl,g2]
  have g1:qal S' x=some j':=g1
  have mn:(qcd r (.yields x y)).name=x:=(qjx hr).1
  have ls:∀z,lk (S'.set j' (qcd r (.yields x y))) z=lk S' z:=λz=>by
   rw[qjg g1 mn]
   by_cases c:z=x
   .rw[if_pos c,c,hr];rfl
   .rw[if_neg c]
  refine par ok' (λz hz=>by rw[ls,rel z hz]) (λz=>by rw[ls,nn z]) h (by lia) (by rw[BN];exact h6)
 | (.ends _ _,true)::_,_,_,_,_,_,_,ok,_,_,_,_,_=>ok.elim
 | (.anew _ _,true)::_,_,_,_,_,_,_,ok,_,_,_,_,_=>ok.elim
 | (.longer _ _ _ _,true)::_,_,_,_,_,_,_,ok,_,_,_,_,_=>ok.elim
 | (.still _ _ _,true)::_,_,_,_,_,_,_,ok,_,_,_,_,_=>ok.elim
theorem qdj (A B:List Rw7)(x:Str):ylO (A++B) x=ylO A x++ylO B x:=List.filterMap_append ..
theorem qsa (r:RR)(x:Str):ylO (qb1 r) x=if r.name=x then r.yields else []:=by
 rw[qby,show qa6 r::qbg r=[qa6 r]++qbg r from rfl,qdj]
 unfold qbg
 rw[qdj,qdj,qdj,qdj]
 have z1:ylO [qa6 r] x=[]:=by unfold qa6;cases r.base <;>rfl
 have z2:∀l:List Str,ylO (l.map (.ends r.name)) x=[]:=λl=>by induction l with|nil=>rfl|cons a l ih=>exact ih
 have z3:∀l:List Str,ylO (l.map (.anew r.name)) x=[]:=λl=>by induction l with|nil=>rfl|cons a l ih=>exact ih
 have z4:∀l:List (Str×Int×Int),ylO (l.map λt=>.longer r.name t.1 t.2.1 t.2.2) x=[]:=λl=>by induction l with|nil=>rfl|cons a l ih=>exact ih
 have z5:ylO (qfz r.name r.still) x=[]:=by cases r.still <;>rfl
 have z6:∀l:List Str,ylO (l.map (.yields r.name)) x=if r.name=x then l else []:=λl=>by
  unfold ylO
  rw[List.filterMap_map]
  by_cases c:r.name=x
  .rw[if_pos c]
   induction l with
   |nil=>rfl
   |cons a l ih=>rw[C0];simp only[Function.comp,if_pos c]at ih |-;rw[ih]
  .rw[if_neg c]
   induction l with
   |nil=>rfl
   |cons a l ih=>rw[C0];simp only[Function.comp,if_neg c]at ih |-;rw[ih]
 rw[z1,z2,z3,z4,z5,z6]
 rfl
theorem qpn:∀{rs:List RR}{x:Str},x∉rs.map RR.name->ylO (qaa rs) x=[]
 | [],_,_=>rfl
 |r::rs,x,h=>by
  rw[A4,An,not_or]at h
  rw[show qaa (r::rs)=qb1 r++qaa rs from Bk,qdj,qsa,if_neg (λz=>h.1 z.symm),qpn h.2];rfl
theorem qsb:∀{rs:List RR}{r:RR},(rs.map RR.name).Nodup->r∈rs->ylO (qaa rs) r.name=r.yields
 |s::rs,r,nd,h=>by
  rw[A4,Bg]at nd
  rw[show qaa (s::rs)=qb1 s++qaa rs from Bk,qdj,qsa]
  rcases An.mp h with e|e
  .rw[if_pos (by rw[e]),qpn (by rw[e];exact nd.1),AV,e]
  .rw[if_neg (λz=>nd.1 (by rw[z];exact B9 e)),qsb nd.2 e];rfl
theorem qlr {r:RR}{row:Rw7}(h:row∈qb1 r):row=qa6 r\/(∃y∈r.yields,row=.yields r.name y)\/(isT row=false/\qaf row=r.name/\∀(S0:List RR)(P:List Rw7),qna S0 P row):=by
 rw[qby]at h
 rcases An.mp h with h|h
 .exact .inl h
 unfold qbg at h
 rcases Au.mp h with h|h
 .obtain⟨k,_,rfl⟩:=AM.mp h
  exact .inr (.inr ⟨rfl,rfl,λ_ _=>trivial⟩)
 rcases Au.mp h with h|h
 .obtain⟨k,_,rfl⟩:=AM.mp h
  exact .inr (.inr ⟨rfl,rfl,λ_ _=>trivial⟩)
 rcases Au.mp h with h|h
 .obtain⟨k,_,rfl⟩:=AM.mp h
  exact .inr (.inr ⟨rfl,rfl,λ_ _=>trivial⟩)
 rcases Au.mp h with h|h
 .cases e:r.still with
  |none=>rw[e]at h;cases h
  |some s=>rw[e]at h;cases Ak.mp h;exact .inr (.inr ⟨rfl,rfl,λ_ _=>trivial⟩)
 .obtain⟨k,hk,rfl⟩:=AM.mp h
  exact .inr (.inl ⟨k,hk,rfl⟩)
theorem Tl.of {R:List Rw7}{S0 rs:List RR}(t:Tl R S0)(sub:∀row∈qaa rs,row∈R){r:RR}(hr:r∈rs):∃s,lk S0 r.name=some s/\s.owes=r.owes/\s.base=r.base:=by
 have hm:qa6 r∈R:=sub _ (Bs.mpr ⟨r,hr,by rw[qby];exact Am⟩)
 unfold qa6 at hm
 cases e:r.base with
 |none =>
  rw[e]at hm
  obtain⟨s,h1,h2,h3⟩:=t.tm _ _ _ _ _ _ _ hm
  exact⟨s,h1,h2,h3⟩
 |some y =>
  rw[e]at hm
  obtain⟨s,h1,h2,h3⟩:=t.tm _ _ _ _ _ _ _ hm
  exact⟨s,h1,h2,h3⟩
theorem qfk {R:List Rw7}{S0 rs:List RR}(g:GT rs)(t:Tl R S0)(sub:∀row∈qaa rs,row∈R){row:Rw7}(hr:row∈qaa rs){P:List Rw7}(np:∀x y,row=.yields x y->y∉ylO P x):qna S0 P row/\qaf row∈S0.map RR.name:=by
 obtain⟨r,h1,h2⟩:=Bs.mp hr
 obtain⟨s,e1,e2,e3⟩:=t.of sub h1
 have nm:r.name∈S0.map RR.name:=qdv.mp ⟨s,e1⟩
 rcases qlr h2 with e|⟨y,hy,e⟩|⟨_,e,f⟩
 .have tn:=qce r
  rw[e,tn.2]
  refine⟨?_,nm⟩
  have:∀s' y,lk S0 r.name=some s'->s'.base=some y->y∈S0.map RR.name:=λs' y k1 k2=>by
   rw[e1]at k1
   cases k1
   rw[e3]at k2
   have hp:=g.ba r h1 y k2
   cases ep:qal rs y with
   |none=>rw[ep]at hp;cases hp
   |some j =>
    obtain⟨q1,q2,q3⟩:=qeg ep
    obtain⟨s2,m1,_⟩:=t.of sub (qjx q1).2
    rw[q2]at m1
    exact qdv.mp ⟨s2,m1⟩
  unfold qa6
  cases r.base <;>exact this
 .obtain⟨nd,yl⟩:=g.yl r h1
  obtain⟨n1,s2,m1,m2,m3⟩:=yl y hy
  obtain⟨s3,k1,k2,k3⟩:=t.of sub m1
  rw[m2]at k1
  rw[e]
  refine⟨⟨qdv.mp ⟨s3,k1⟩,n1,np _ _ e,λa b ha hb=>?_⟩,nm⟩
  rw[e1]at ha
  rw[k1]at hb
  cases ha
  cases hb
  rw[k2,e2,m3]
 .exact⟨f S0 P,by rw[e];exact nm⟩
theorem qe0 {rs:List RR}(g:GT rs){k:Nat}{x y:Str}(h:(qaa rs)[k]?=some (.yields x y)):y∉ylO ((qaa rs).take k) x:=by
 have hm:=Ai h
 obtain⟨r,h1,h2⟩:=Bs.mp hm
 rcases qlr h2 with e|⟨y',hy,e⟩|⟨_,_,f⟩
 .have:=(qce r).1
  rw[<- e]at this
  cases this
 .cases e
  have nd:=(g.yl r h1).1
  rw[<- qsb g.nn h1,<- AK (k+1) (qaa rs),qdj,qbb h,qgv]at nd
  dsimp only at nd
  rw[if_pos rfl,AZ,AZ]at nd
  exact λz=>nd.1.2.2 y z y (Ak.mpr rfl) rfl
 .have:=(f [] []).1
  cases this
theorem par0 {rs:List RR}(g:GT rs){X:List Str}{L:List (Rw7×Bool)}(ok:okL X [] L)(e:orL L=qaa rs)(l:L.length<=40)(n:nT L<=6):∃S0,qad [] 0 ((L.map (·.1)).map some)=.ok S0/\Tl (L.map (·.1)) S0:=by
 obtain⟨S0,h⟩:=par (S:=[]) (S':=[]) (i:=0) (i':=0) (T:=rs.map noY) ok (λ_ _=>rfl) (λx=>⟨(λz=>nomatch z),(λ⟨_,z⟩=>nomatch z)⟩) (by rw[e];exact qln g) (by lia) (by show 0+_<=6;lia)
 exact⟨S0,h,by have:=qqy qwh h;rw[Bd]at this;exact this⟩
theorem qls {R:List Rw7}{S0:List RR}(h:qad [] 0 (R.map some)=.ok S0)(t:Tl R S0)(ok:∀row∈R,qbi row){A B:List Rw7}{row:Rw7}(e:R=A++row::B)(fa:∀A1 r A2,A=A1++r::A2->qna S0 A1 r/\qaf r∈S0.map RR.name){er:Er}(bad:∀S,Sv S0 A S->qbp S A.length row=.error er):qcc (R.map qag)=.error er:=by
 unfold qcc
 rw[qfi ok,h]
 dsimp only
 rw[qkb,e,qe5]
 obtain⟨S,h1,v⟩:=Sv.run (Q:=A) (i:=0) (Sv.start t.yl) λA1 r A2 z=>by rw[Bd];exact fa A1 r A2 z
 rw[Bd]at v
 rw[h1]
 dsimp only
 rw[qdd,CJ,bad S v]
noncomputable def qpo:List Str->List (Rw7×Bool)->List Str
 |N,[]=>N
 |N,(row,_)::L=>qpo (if isT row=true then qaf row::N else N) L
noncomputable def cdL (X N:List Str):Rw7×Bool->Prop
 | (row,false)=>qaf row∉X
 | (.term x _ o d y _ _,true)=>x∈X/\x∉N/\¬(d=false/\o=y)
 | (.yields x _,true)=>x∈N
 | (_,true)=>False
theorem qio (X N:List Str)(p:Rw7×Bool)(L:List (Rw7×Bool)):okL X N (p::L)↔cdL X N p/\okL X (if isT p.1=true then qaf p.1::N else N) L:=by
 obtain⟨row,b⟩:=p
 cases b with
 |false=>exact Iff.rfl
 |true =>
  cases row with
  |term x w o d y m u=>exact⟨λh=>⟨⟨h.1,h.2.1,h.2.2.1⟩,h.2.2.2⟩,λh=>⟨h.1.1,h.1.2.1,h.1.2.2,h.2⟩⟩
  |yields x y=>exact Iff.rfl
  |_=>exact⟨λh=>h.elim,λh=>h.1.elim⟩
theorem qsc {X:List Str}:∀{A B:List (Rw7×Bool)}{N:List Str},okL X N (A++B)↔okL X N A/\okL X (qpo N A) B
 | [],B,N=>⟨λh=>⟨trivial,h⟩,λh=>h.2⟩
 | (row,b)::A,B,N=>by
  rw[Bi,qio,qio,qsc (A:=A)]
  exact⟨λh=>⟨⟨h.1,h.2.1⟩,h.2.2⟩,λh=>⟨h.1.1,h.1.2,h.2⟩⟩
theorem qnb {L:List (Rw7×Bool)}:∀{N:List Str}{x:Str},x∈qpo N L↔x∈N \/ ∃p∈L,isT p.1=true/\qaf p.1=x:=by
 induction L with
 |nil=>intro N x;exact⟨.inl,λh=>h.elim id λ⟨_,z,_⟩=>nomatch z⟩
 |cons q L ih =>
  intro N x
  obtain⟨row,b⟩:=q
  show x∈qpo (if isT row=true then qaf row::N else N) L↔_
  rw[ih]
  by_cases c:isT row=true
  .rw[if_pos c,An]
   constructor
   .rintro ((h|h)|⟨p,h1,h2⟩)
    .exact .inr ⟨_,Am,c,h.symm⟩
    .exact .inl h
    .exact .inr ⟨p,Ar _ h1,h2⟩
   .rintro (h|⟨p,h1,h2,h3⟩)
    .exact .inl (.inr h)
    .rcases An.mp h1 with e|e
     .rw[e]at h3;exact .inl (.inl h3.symm)
     .exact .inr ⟨p,e,h2,h3⟩
  .rw[if_neg c]
   constructor
   .rintro (h|⟨p,h1,h2⟩)
    .exact .inl h
    .exact .inr ⟨p,Ar _ h1,h2⟩
   .rintro (h|⟨p,h1,h2,h3⟩)
    .exact .inl h
    .rcases An.mp h1 with e|e
     .rw[e]at h2;exact absurd h2 c
     .exact .inr ⟨p,e,h2,h3⟩
theorem qpp {X:List Str}{x:Str}:∀{L:List (Rw7×Bool)}{N N':List Str},okL X N L->(∀z,z∈N->z∈N')->(∀z,z∈N'->z∈N\/z=x)->(∀p∈L,p.2=true->isT p.1=true->qaf p.1≠x)->okL X N' L
 | [],_,_,_,_,_,_=>trivial
 | (row,b)::L,N,N',h,s,s',hx=>by
  rw[qio]at h |-
  refine⟨?_,qpp h.2 (λz hz=>?_) (λz hz=>?_) λp hp=>hx p (Ar _ hp)⟩
  .cases b with
   |false=>exact h.1
   |true =>
    cases row with
    |term a w o d y m u =>
     refine⟨h.1.1,λz=>?_,h.1.2.2⟩
     rcases s' _ z with q|q
     .exact h.1.2.1 q
     .exact hx _ Am rfl rfl q
    |yields a y=>exact s _ h.1
    |_=>exact h.1
  .by_cases c:isT row=true
   .rw[if_pos c]at hz |-
    rcases An.mp hz with e|e
    .rw[e];exact Am
    .exact Ar _ (s z e)
   .rw[if_neg c]at hz |-;exact s z hz
  .by_cases c:isT row=true
   .rw[if_pos c]at hz |-
    rcases An.mp hz with e|e
    .rw[e];exact .inl Am
    .exact(s' z e).imp (Ar _) id
   .rw[if_neg c]at hz |-;exact s' z hz
theorem qsd {X:List Str}{A B:List (Rw7×Bool)}{row:Rw7}(h:okL X [] (A++B))(c:(∃x y,row=.yields x y/\∃p∈A,isT p.1=true/\qaf p.1=x)\/(isT row=true/\qaf row∈X/\(∀p∈A++B,isT p.1=true->qaf p.1≠qaf row)/\∀x w o d y m u,row=.term x w o d y m u->¬(d=false/\o=y))):okL X [] (A++(row,true)::B):=by
 rw[qsc]at h |-
 refine⟨h.1,(qio ..).mpr ?_⟩
 rcases c with ⟨x,y,rfl,p,h1,h2,h3⟩|⟨ht,hX,hn,hd⟩
 .exact⟨qnb.mpr (.inr ⟨p,h1,h2,h3⟩),h.2⟩
 .cases row with
  |term x w o d y m u =>
   refine⟨⟨hX,λz=>?_,hd _ _ _ _ _ _ _ rfl⟩,?_⟩
   .rcases qnb.mp z with q|⟨p,q1,q2,q3⟩
    .cases q
    .exact hn p (AO _ q1) q2 q3
   .show okL X (x::qpo [] A) B
    exact qpp (x:=x) h.2 (λz hz=>Ar _ hz) (λz hz=>(An.mp hz).symm) λp hp _ q2=>hn p (Ay _ hp) q2
  |_=>cases ht
theorem qse (A B:List (Rw7×Bool))(row:Rw7):orL (A++(row,true)::B)=orL (A++B):=by
 unfold orL
 rw[C7,C7,Dw,if_neg (by simp)]
theorem qwi (A B:List (Rw7×Bool))(p:Rw7×Bool):nT (A++p::B)=nT (A++B)+(if isT p.1=true then 1 else 0):=by
 unfold nT
 rw[C7,C7,Dw]
 by_cases c:isT p.1=true
 .rw[if_pos c,if_pos c,Ah,Ah,At];lia
 .rw[if_neg c,if_neg c];rfl
noncomputable def flR (R:List Rw7):List (Rw7×Bool):=R.map λr=>(r,false)
theorem orL_fl (R:List Rw7):orL (flR R)=R:=by
 unfold orL flR
 induction R with
 |nil=>rfl
 |cons r R ih=>exact congrArg (r :: ·) ih
theorem qlt (R:List Rw7):(flR R).map (·.1)=R:=by
 unfold flR
 rw[Bm];exact List.map_id _
theorem qwj {X:List Str}:∀{R:List Rw7}{N:List Str},(∀r∈R,qaf r∉X)->okL X N (flR R)
 | [],_,_=>trivial
 |r::R,N,h=>⟨h r Am,qwj λs hs=>h s (Ar _ hs)⟩
noncomputable def FineTo (rs:List RR)(A:List Rw7):Prop:=∀(A1:List Rw7)(r:Rw7)(A2:List Rw7),A=A1++r::A2->∀(R2:List Rw7)(S0:List RR),Tl R2 S0->(∀row∈qaa rs,row∈R2)->qna S0 A1 r/\qaf r∈S0.map RR.name
theorem qlu {A A1 A2:List Rw7}{r:Rw7}(h:A=A1++r::A2):A1=A.take A1.length/\A[A1.length]?=some r:=by
 subst h
 exact⟨by rw[List.take_left],by rw[A9 (A3 _),Ca];rfl⟩
theorem qnc {rs:List RR}(g:GT rs)(n:Nat):FineTo rs ((qaa rs).take n):=λA1 r A2 e R2 S0 t sub=>by
 obtain⟨e1,e2⟩:=qlu e
 have l:A1.length<n:=by
  have:=(Ac.mp e2).1
  rw[Av]at this
  lia
 rw[B5 l]at e2
 rw[CU,CC (DE l)]at e1
 exact qfk g t sub (Ai e2) λx y q=>by rw[q]at e2;rw[e1];exact qe0 g e2
theorem FineTo.pre {rs:List RR}{A:List Rw7}(f:FineTo rs A)(n:Nat):FineTo rs (A.take n):=λA1 r A2 e=>f A1 r (A2++A.drop n) (by
 have:=AK n A
 rw[e]at this
 exact this.symm.trans (AB ..))
theorem qwk {rs:List RR}(g:GT rs){n k:Nat}{x y:Str}(hk:(qaa rs)[k]?=some (.yields x y))(nk:n<=k):FineTo rs ((qaa rs).take n ++ .yields x y::((qaa rs).drop n).take (k-n)):=λA1 r A2 e R2 S0 t sub=>by
 have kl:=(Ac.mp hk).1
 have ltn:((qaa rs).take n).length=n:=by rw[Av];lia
 obtain⟨e1,e2⟩:=qlu e
 rcases Nat.lt_trichotomy A1.length n with c|c|c
 .refine(qnc g n) A1 r (((qaa rs).take n).drop (A1.length+1)) ?_ R2 S0 t sub
  rw[AF (by lia)]at e2
  rw[BI (by lia)]at e1
  have:=AK (A1.length+1) ((qaa rs).take n)
  rw[qbb e2,<- e1,AB]at this
  exact this.symm
 .have ea:A1=(qaa rs).take n:=by rw[e1,c,List.take_left' ltn]
  rw[A9 (by lia),ltn,c,Ca]at e2
  cases e2
  refine qfk g t sub (Ai hk) λx' y' q=>?_
  cases q
  rw[ea]
  intro z
  refine qe0 g hk ?_
  rw[<- AK n ((qaa rs).take k),CU,CC nk,qdj]
  exact AO _ z
 .obtain⟨m,em⟩:∃m,A1.length=n+1+m:=⟨A1.length-(n+1),by lia⟩
  have e3:A1=(qaa rs).take n ++ .yields x y::(((qaa rs).drop n).take (k-n)).take m:=by
   rw[e1,em,Dx,ltn,By (by lia),show n+1+m-n=m+1 by lia];rfl
  rw[A9 (by lia),ltn,em,show n+1+m-n=m+1 by lia,List.getElem?_cons_succ]at e2
  have mk:m<k-n:=by
   have:=(Ac.mp e2).1
   rw[Av,Ba]at this
   lia
  rw[B5 mk,Dd]at e2
  refine qfk g t sub (Ai e2) λx' y' q=>?_
  rw[q]at e2
  have fr:=qe0 g e2
  have tk:(qaa rs).take (n+m)=(qaa rs).take n++((qaa rs).drop n).take m:=by rw[List.take_add]
  rw[tk,qdj]at fr
  rw[e3,CU,CC (DE mk),qdj,show (Rw7.yields x y::((qaa rs).drop n).take m)=[Rw7.yields x y]++((qaa rs).drop n).take m from rfl,qdj]
  intro z
  rcases Au.mp z with z|z
  .exact fr (AO _ z)
  .rcases Au.mp z with z|z
   .have z:y'∈(if x=x' then [y] else []):=by
     have:ylO [Rw7.yields x y] x'=if x=x' then [y] else []:=by
      unfold ylO
      by_cases c:x=x' <;>simp[c]
     rw[this]at z;exact z
    by_cases c2:x=x'
    .rw[if_pos c2]at z
     have ey:=Ak.mp z
     have fr2:=qe0 g hk
     refine fr2 ?_
     have mem:Rw7.yields x y∈(qaa rs).take k:=Ai (i:=n+m) (by rw[B5 (by lia),e2,c2,ey])
     unfold ylO
     exact CV.mpr ⟨_,mem,by simp⟩
    .rw[if_neg c2]at z;cases z
   .exact fr (Ay _ z)
structure Flt (rs:List RR)(sp:List Str)(n:Nat)(row:Rw7)(s:Nat)(er:Er):Prop where
 hn:n<=(qaa rs).length
 ok:qbi row
 ins:(∃x y,row=.yields x y/\∃p∈(qaa rs).take n,isT p=true/\qaf p=x)\/(∃w o y m u,row=.term (sp.getD 1 AS) w o true y m u/\rs.length<5)
 hs:s<=(qaa rs).length
 fine:FineTo rs (((qaa rs).take n++row::(qaa rs).drop n).take s)
 bad:∃b,((qaa rs).take n++row::(qaa rs).drop n)[s]?=some b/\∀(R2:List Rw7)(S0:List RR),Tl R2 S0->(∀r∈qaa rs,r∈R2)->row∈R2->sp.getD 0 AS∉S0.map RR.name->∀S,Sv S0 (((qaa rs).take n++row::(qaa rs).drop n).take s) S->qbp S s b=.error er
theorem qwl {R:List Rw7}{n:Nat}(h:n<=R.length)(row:Rw7):(R.take n++row::R.drop n).take n=R.take n/\(R.take n++row::R.drop n)[n]?=some row:=by
 have l:(R.take n).length=n:=by rw[Av];lia
 exact⟨List.take_left' l,by rw[A9 (by lia),l,Ca];rfl⟩
theorem Flt.at {rs:List RR}(g:GT rs){sp:List Str}{n:Nat}{row:Rw7}{er:Er}(hn:n<=(qaa rs).length)(ok:qbi row)(ins:(∃x y,row=.yields x y/\∃p∈(qaa rs).take n,isT p=true/\qaf p=x)\/(∃w o y m u,row=.term (sp.getD 1 AS) w o true y m u/\rs.length<5))(bad:∀(R2:List Rw7) (S0:List RR),Tl R2 S0->(∀r∈qaa rs,r∈R2)->row∈R2->sp.getD 0 AS∉S0.map RR.name->∀S,Sv S0 ((qaa rs).take n) S->qbp S n row=.error er):Flt rs sp n row n er:=by
 obtain⟨i1,i2⟩:=qwl hn row
 exact⟨hn,ok,ins,hn,by rw[i1];exact qnc g n,row,i2,by rw[i1];exact bad⟩
theorem qwm {rs:List RR}(g:GT rs){sp:List Str}{n:Nat}(hn:n<=(qaa rs).length){w o u:Str}{m:Int}(ok:qbi (.term (sp.getD 1 AS) w o true (sp.getD 0 AS) m u))(l5:rs.length<5):Flt rs sp n (.term (sp.getD 1 AS) w o true (sp.getD 0 AS) m u) n (.term (sp.getD 0 AS)) :=
 Flt.at g hn ok (.inr ⟨w,o,_,m,u,rfl,l5⟩) λR2 S0 t sub hm h0 S v=>by
  obtain⟨r,h1,h2,h3⟩:=t.tm _ _ _ _ _ _ _ hm
  exact v.badT h1 h3 h0 n
theorem qwn {rs:List RR}(g:GT rs){sp:List Str}{n:Nat}(hn:n<=(qaa rs).length){k:Nat}{r:RR}(hr:rs[k]?=some r)(hk:hd rs k<n):Flt rs sp n (.yields r.name r.name) n (.unfit n) :=
 Flt.at g hn ⟨(g.ok r (Ai hr)).nm,(g.ok r (Ai hr)).nm⟩ (.inl ⟨_,_,rfl,qa6 r,qlp hr hk,(qce r).1,(qce r).2⟩) λR2 S0 t sub _ _ S v=>by
  obtain⟨s,h1,_⟩:=t.of sub (Ai hr)
  exact v.badU h1 h1 (.inl rfl) n
theorem qys {rs:List RR}(g:GT rs){sp:List Str}{n:Nat}(hn:n<=(qaa rs).length){k:Nat}{r:RR}(hr:rs[k]?=some r)(hk:hd rs k<n)(ok0:qbs (sp.getD 0 AS)):Flt rs sp n (.yields r.name (sp.getD 0 AS)) n (.term (sp.getD 0 AS)) :=
 Flt.at g hn ⟨(g.ok r (Ai hr)).nm,ok0⟩ (.inl ⟨_,_,rfl,qa6 r,qlp hr hk,(qce r).1,(qce r).2⟩) λR2 S0 t sub _ h0 S v=>by
  obtain⟨s,h1,_⟩:=t.of sub (Ai hr)
  exact v.badY (qdv.mp ⟨s,h1⟩) h0 n
theorem qwo {rs:List RR}(g:GT rs){sp:List Str}{k k2:Nat}{r r2:RR}(hr:rs[k]?=some r)(hr2:rs[k2]?=some r2)(ne:r.owes≠r2.owes):Flt rs sp (qaa rs).length (.yields r.name r2.name) (qaa rs).length (.unfit (qaa rs).length) :=
 Flt.at g (A3 _) ⟨(g.ok r (Ai hr)).nm,(g.ok r2 (Ai hr2)).nm⟩ (.inl ⟨_,_,rfl,qa6 r,qlp hr (qwf hr),(qce r).1,(qce r).2⟩) λR2 S0 t sub _ _ S v=>by
  obtain⟨s,h1,h2,_⟩:=t.of sub (Ai hr)
  obtain⟨s2,k1,k2,_⟩:=t.of sub (Ai hr2)
  exact v.badU h1 k1 (.inr (.inr (by rw[h2,k2];exact λz=>ne z.symm))) _
theorem qwp {rs:List RR}(g:GT rs){sp:List Str}{n f:Nat}(hn:n<=(qaa rs).length){k:Nat}{r:RR}(hr:rs[k]?=some r)(hk:hd rs k<n){y:Str}(hf:(qaa rs)[f]?=some (.yields r.name y))(fn:f<n):Flt rs sp n (.yields r.name y) n (.unfit n):=by
 have ok:=qgt g.ok _ (Ai hf)
 refine Flt.at g hn ok (.inl ⟨_,_,rfl,qa6 r,qlp hr hk,(qce r).1,(qce r).2⟩) λR2 S0 t sub _ _ S v=>?_
 obtain⟨s,h1,_⟩:=t.of sub (Ai hr)
 have fr:=(qfk g t sub (Ai hf) (P:=[]) (λ_ _ _=>Ax)).1
 obtain⟨s2,h2⟩:=qdv.mpr fr.1
 refine v.badU h1 h2 (.inr (.inl ?_)) n
 have mem:Rw7.yields r.name y∈(qaa rs).take n:=Ai (i:=f) (by rw[B5 fn];exact hf)
 unfold ylO
 exact CV.mpr ⟨_,mem,by simp⟩
theorem qwq {rs:List RR}(g:GT rs){sp:List Str}{n f k:Nat}{r:RR}(hr:rs[k]?=some r)(hk:hd rs k<n){y:Str}(hf:(qaa rs)[f]?=some (.yields r.name y))(nf:n<=f):Flt rs sp n (.yields r.name y) (f+1) (.unfit (f+1)):=by
 have fl:=(Ac.mp hf).1
 have ok:=qgt g.ok _ (Ai hf)
 have ltn:((qaa rs).take n).length=n:=by rw[Av];lia
 have e1:((qaa rs).take n ++ .yields r.name y::(qaa rs).drop n).take (f+1)=(qaa rs).take n ++ .yields r.name y::((qaa rs).drop n).take (f-n):=by
  rw[Dx,ltn,By (by lia),show f+1-n=(f-n)+1 by lia];rfl
 have e2:((qaa rs).take n ++ .yields r.name y::(qaa rs).drop n)[f+1]?=some (.yields r.name y):=by
  rw[A9 (by lia),ltn,show f+1-n=(f-n)+1 by lia,List.getElem?_cons_succ,Dd,show n+(f-n)=f by lia];exact hf
 refine⟨by lia,ok,.inl ⟨_,_,rfl,qa6 r,qlp hr hk,(qce r).1,(qce r).2⟩,by lia,by rw[e1];exact qwk g hf nf,_,e2,λR2 S0 t sub _ _ S v=>?_⟩
 obtain⟨s,h1,_⟩:=t.of sub (Ai hr)
 have fr:=(qfk g t sub (Ai hf) (P:=[]) (λ_ _ _=>Ax)).1
 obtain⟨s2,h2⟩:=qdv.mpr fr.1
 rw[e1]at v
 refine v.badU h1 h2 (.inr (.inl ?_)) _
 unfold ylO
 exact CV.mpr ⟨.yields r.name y,Ay _ Am,by simp⟩
theorem qsf {L:List (Rw7×Bool)}{row:Rw7}(h:row∈orL L):row∈L.map (·.1):=by
 obtain⟨p,h1,h2⟩:=AM.mp h
 exact AM.mpr ⟨p,(Ee.mp h1).1,h2⟩
theorem qnd {R:List Rw7}{s:Nat}{b:Rw7}(h:R[s]?=some b):R=R.take s++b::R.drop (s+1):=by
 have:=AK (s+1) R
 rw[qbb h,AB]at this
 exact this.symm
theorem qpq {rs:List RR}(g:GT rs){sp:List Str}{n:Nat}{row:Rw7}{s:Nat}{er:Er}(F:Flt rs sp n row s er){X:List Str}{L:List (Rw7×Bool)}(ok:okL X [] L)(e:orL L=qaa rs)(l:L.length<=40)(t6:nT L<=6)(hm:row∈L.map (·.1))(hA:(L.map (·.1)).take s=((qaa rs).take n++row::(qaa rs).drop n).take s)(hB:(L.map (·.1))[s]?=((qaa rs).take n++row::(qaa rs).drop n)[s]?)(h0:∀r∈L.map (·.1),isT r=true->qaf r≠sp.getD 0 AS)(rok:∀r∈L.map (·.1),qbi r):qcc ((L.map (·.1)).map qag)=.error er:=by
 obtain⟨S0,h,t⟩:=par0 g ok e l t6
 obtain⟨b,b1,b2⟩:=F.bad
 rw[<- hB]at b1
 have sub:∀r∈qaa rs,r∈L.map (·.1):=λr hr=>qsf (by rw[e];exact hr)
 have n0:sp.getD 0 AS∉S0.map RR.name:=λz=>by
  obtain⟨r,h1,h2,h3⟩:=(t.j.nm _).mp z
  exact h0 r h1 h2 h3
 have ls:((L.map (·.1)).take s).length=s:=by
  have:=(Ac.mp b1).1
  rw[Av];lia
 refine qls h t rok (qnd b1) (λA1 r A2 q=>F.fine A1 r A2 (by rw[<- hA];exact q) _ _ t sub) λS v=>?_
 rw[ls]
 rw[hA]at v
 exact b2 _ _ t sub hm n0 S v
theorem qqz {rs:List RR}(g:GT rs){sp:List Str}{n:Nat}{row:Rw7}{s:Nat}{er:Er}(F:Flt rs sp n row s er){X:List Str}{L:List (Rw7×Bool)}(ok:okL X [] L)(e:orL L=qaa rs)(l:L.length<=40)(t6:nT L<=6){k:Nat}(ks:k<=s)(hA:(L.map (·.1)).take k=((qaa rs).take n++row::(qaa rs).drop n).take k){x y:Str}{r2:Rw7}(c:(r2=.yields x y/\x∈rs.map RR.name) \/ ∃w o m u,r2=.term x w o true y m u)(hB:(L.map (·.1))[k]?=some r2)(h0:∀r∈L.map (·.1),isT r=true->qaf r≠y)(rok:∀r∈L.map (·.1),qbi r):qcc ((L.map (·.1)).map qag)=.error (.term y):=by
 obtain⟨S0,h,t⟩:=par0 g ok e l t6
 have sub:∀r∈qaa rs,r∈L.map (·.1):=λr hr=>qsf (by rw[e];exact hr)
 have n0:y∉S0.map RR.name:=λz=>by
  obtain⟨r,h1,h2,h3⟩:=(t.j.nm _).mp z
  exact h0 r h1 h2 h3
 refine qls h t rok (qnd hB) (λA1 r A2 q=>(F.fine.pre k) A1 r A2 (by rw[CU,CC ks,<- hA];exact q) _ _ t sub) λS v=>?_
 rcases c with ⟨c,hx⟩|⟨w,o,m,u,c⟩
 .rw[c]
  obtain⟨r,h1,h2⟩:=AM.mp hx
  obtain⟨s',k1,_⟩:=t.of sub h1
  rw[h2]at k1
  exact v.badY (qdv.mp ⟨s',k1⟩) n0 _
 .rw[c]
  obtain⟨r,h1,h2,h3⟩:=t.tm _ _ _ _ _ _ _ (c ▸ Ai hB)
  exact v.badT h1 h3 n0 _
theorem qlv {α:Type}{l:List α}(nd:l.Nodup){i j:Nat}(hi:i<l.length)(h:l[i]?=l[j]?):i=j:=(DN hi nd).mp h
theorem qwr {S:List RR}(nd:(S.map RR.name).Nodup){k:Nat}{r:RR}(h:S[k]?=some r):qal S r.name=some k/\lk S r.name=some r:=by
 have hm:r.name∈S.map RR.name:=B9 (Ai h)
 obtain⟨s,hs⟩:=qdv.mpr hm
 obtain⟨j,g1,g2⟩:=qjw hs
 obtain⟨q1,q2,q3⟩:=qeg g1
 have hk:=(Ac.mp h).1
 have ej:j=k:=by
  refine qlv nd (by rw[Ab];exact q3) ?_
  rw[Al,Al,h,Ae q3]
  rw[AC,Ae q3]at q2
  exact congrArg some q2
 rw[ej]at g1 g2
 rw[AC,h]at g2
 exact⟨g1,by rw[hs,<- g2];rfl⟩
theorem qq0 {S:List RR}{k:Nat}{r:RR}(h:S[k]?=some r):bo (bsR S) k=r.base.bind (qal S):=by
 unfold bo bsR
 rw[AC,Al,h];rfl
theorem qtw {f:Nat->Option Nat}{n N:Nat}{r:List Nat}(rg:Rg f n r)(self:f N=some N){rk:Nat->Int}(dn:∀k b,k≠N->f k=some b->rk b<rk k):r=[N]:=by
 by_cases c:N∈r
 .obtain⟨i,hi⟩:=Bb c
  have li:=(Ac.mp hi).1
  have nx:=rg.nx i N hi
  rw[self,eq_comm]at nx
  have ml:(i+1) % r.length<r.length:=Nat.mod_lt _ (by lia)
  have e:(i+1) % r.length=i:=qlv rg.nd ml (nx.trans hi.symm)
  have l1:r.length=1:=by
   by_cases q:i+1=r.length
   .rw[q,Nat.mod_self]at e;lia
   .rw[Nat.mod_eq_of_lt (by lia)]at e;lia
  obtain⟨a,ea⟩:=List.length_eq_one_iff.mp l1
  rw[ea]at c |-
  rw[Ak.mp c]
 .have rg':Rg (λk=>if k=N then none else f k) n r:=⟨rg.ne,rg.nd,rg.lt,λi k h=>by
   have:k≠N:=λz=>c (by rw[<- z];exact Ai h)
   show (if k=N then none else f k)=_
   rw[if_neg this];exact rg.nx i k h⟩
  exact(qr9 (rk:=rk) (λk b h=>by
   have h:(if k=N then none else f k)=some b:=h
   by_cases q:k=N
   .rw[if_pos q]at h;cases h
   .rw[if_neg q]at h;exact dn k b q h) rg').elim
theorem qws {bs:List (Option Nat)}{n N:Nat}{os:List Nat}(h:Ors bs n os)(hN:N<n)(self:bo bs N=some N):False:=by
 obtain⟨p,hp⟩:=Bb (h.al N hN)
 have:=h.od p N hp N self
 obtain⟨q,hq⟩:=Bb this
 have lq:q<p:=by
  have:=(Ac.mp hq).1
  rw[Av]at this
  lia
 rw[B5 lq]at hq
 have:q=p:=qlv h.nd (Ac.mp hq).1 (hq.trans hp.symm)
 lia
theorem qtx {rs:List RR}(g:GT rs){rk:Nat->Int}(hrk:∀k b,bo (bsR rs) k=some b->rk b<rk k){x w o u:Str}{m:Int}(hx:x∉rs.map RR.name)(l5:rs.length<=5)(l:(qaa rs).length<=39)(ok:qbi (.term x w o true x m u)):∃S,qcc ((qaa rs++[Rw7.term x w o true x m u]).map qag)=.ok S/\S.map RR.name=rs.map RR.name++[x]/\bo (bsR S) rs.length=some rs.length/\∀k b,k≠rs.length->bo (bsR S) k=some b->rk b<rk k:=by
 have oks:∀r∈qaa rs++[Rw7.term x w o true x m u],qbi r:=λr h=>(Au.mp h).elim (qgt g.ok r) λh=>by rw[Ak.mp h];exact ok
 have nn':(rs.map noY).map RR.name=rs.map RR.name:=by rw[Bm];rfl
 have px:lk (rs.map noY) x=none:=by
  cases e:lk (rs.map noY) x with
  |none=>rfl
  |some r=>exact absurd (by rw[<- nn'];exact qdv.mp ⟨r,e⟩) hx
 have h1:qad [] 0 ((qaa rs++[Rw7.term x w o true x m u]).map some)=.ok (rs.map noY++[qey x w o true x m u]):=by
  rw[Aq,qcp,qln g]
  dsimp only
  show qad _ _ (some _::[])=_
  rw[qaw,if_neg (by rw[Ab];lia)]
  dsimp only
  have e:qbx (rs.map noY) (0+((qaa rs).map some).length) (.term x w o true x m u)=.ok (rs.map noY++[qey x w o true x m u]):=by
   show qc7 _ _ x w o true x m u=_
   unfold qc7
   rw[if_neg (by rw[qe6.mpr px];decide),if_neg]
   rintro (z|z)
   .rw[Ab]at z;lia
   .cases z.1
  rw[e];rfl
 have t:Tl (qaa rs++[Rw7.term x w o true x m u]) (rs.map noY++[qey x w o true x m u]):=by have:=qqy qwh h1;rw[Bd]at this;exact this
 have sub:∀row∈qaa rs,row∈qaa rs++[Rw7.term x w o true x m u]:=λrow h=>AO _ h
 have n0:(rs.map noY++[qey x w o true x m u]).map RR.name=rs.map RR.name++[x]:=by rw[Aq,nn'];rfl
 obtain⟨S,e,v⟩:=Sv.run (Q:=qaa rs++[Rw7.term x w o true x m u]) (P:=[]) (i:=0) (Sv.start t.yl) λA r B q=>by
  rw[Bd]
  obtain⟨e1,e2⟩:=qlu q
  by_cases c:A.length<(qaa rs).length
  .rw[AF c]at e2
   rw[BI (by lia)]at e1
   exact qfk g t sub (Ai e2) λa b z=>by rw[z]at e2;rw[e1];exact qe0 g e2
  .rw[A9 (by lia)]at e2
   have:A.length-(qaa rs).length=0:=by
    have:=(Ac.mp e2).1
    rw[Bt]at this;lia
   rw[this]at e2
   cases e2
   have hxm:x∈(rs.map noY++[qey x w o true x m u]).map RR.name:=by rw[n0];exact Ay _ (Ak.mpr rfl)
   refine⟨λs y k1 k2=>?_,hxm⟩
   obtain⟨s2,m1,m2,m3⟩:=t.tm x w o true x m u (Ay _ (Ak.mpr rfl))
   rw[m1]at k1
   cases k1
   rw[m3]at k2
   cases k2
   exact hxm
 have ns:S.map RR.name=rs.map RR.name++[x]:=v.nm.trans n0
 have nds:(S.map RR.name).Nodup:=by
  rw[ns]
  exact AZ.mpr ⟨g.nn,by simp,λa ha b hb z=>hx (by rw[<- Ak.mp hb,<- z];exact ha)⟩
 have ls:S.length=rs.length+1:=by have:=congrArg Cv ns;simpa using this
 refine⟨S,?_,ns,?_,?_⟩
 .unfold qcc
  rw[qfi oks,h1]
  show qat _ 0 ((List.map some _).filterMap id)=_
  rw[qkb]
  exact e
 .have hk:S[rs.length]?=some (S[rs.length]'(by lia)):=Ae (by lia)
  have en:(S[rs.length]'(by lia)).name=x:=by
   have:=congrArg (λl=>l[rs.length]?) ns
   rw[Al,hk,A9 (by rw[Ab];lia),Ab,Ca]at this
   exact AD this
  obtain⟨i1,i2⟩:=qwr nds hk
  rw[en]at i1 i2
  obtain⟨s2,m1,m2,m3⟩:=t.tm x w o true x m u (Ay _ (Ak.mpr rfl))
  obtain⟨s3,k1,k2,k3,_⟩:=v.fd x s2 m1
  rw[i2]at k1
  cases k1
  rw[qq0 hk,k3,m3]
  exact i1
 .intro k b ne hb
  have hk:k<rs.length:=by
   by_cases q:k<S.length
   .lia
   .unfold bo bsR at hb
    rw[AC,Al,Bj (by lia)]at hb
    cases hb
  have hs:S[k]?=some (S[k]'(by lia)):=Ae (by lia)
  have hr:rs[k]?=some rs[k]:=Ae hk
  have en:(S[k]'(by lia)).name=rs[k].name:=by
   have:=congrArg (λl=>l[k]?) ns
   rw[Al,hs,AF (by rw[Ab];lia),Al,hr]at this
   exact AD this
  obtain⟨i1,i2⟩:=qwr nds hs
  obtain⟨s2,m1,m2,m3⟩:=t.of sub (Bq hk)
  obtain⟨s3,k1,k2,k3,_⟩:=v.fd _ s2 m1
  rw[en]at i2
  rw[i2]at k1
  cases k1
  rw[qq0 hs,k3,m3]at hb
  cases eb:rs[k].base with
  |none=>rw[eb]at hb;cases hb
  |some y =>
   rw[eb]at hb
   have hb:qal S y=some b:=hb
   refine hrk k b ?_
   rw[qq0 hr,eb]
   show qal rs y=some b
   have hp:=g.ba _ (Bq hk) y eb
   cases ep:qal rs y with
   |none=>rw[ep]at hp;cases hp
   |some j =>
    obtain⟨q1,q2,q3⟩:=qeg ep
    obtain⟨p1,p2,p3⟩:=qeg hb
    have:j=b:=by
     refine qlv nds (by rw[Ab];lia) ?_
     rw[Al,Al,Ae p3]
     rw[AC,Ae p3]at p2
     rw[AC,Ae q3]at q2
     have:(S[j]'(by lia)).name=rs[j].name:=by
      have:=congrArg (λl=>l[j]?) ns
      rw[Al,Ae (by lia),AF (by rw[Ab];lia),Al,Ae q3]at this
      exact AD this
     rw[Ae (by lia)]
     show some (S[j]'(by lia)).name=some (S[b]).name
     rw[this,show S[b].name=y from p2,show rs[j].name=y from q2]
    rw[this]
theorem pre_of {R:List Rw7}{S:List RR}(h:qad [] 0 (R.map some)=.ok S)(n:Nat):∃S',qad [] 0 ((R.take n).map some)=.ok S':=by
 have e:R.map some=(R.take n).map some++(R.drop n).map some:=by rw[<- Aq,AK]
 rw[e,qcp]at h
 cases q:qad [] 0 ((R.take n).map some) with
 |ok S'=>exact⟨S',rfl⟩
 |error e'=>rw[q]at h;cases h
theorem qsg {R:List Rw7}{S:List RR}(h:qad [] 0 (R.map some)=.ok S)(rok:∀r∈R,qbi r){n:Nat}(hn:n<=R.length){x:Str}(hx:opR x=none)(tl:List Str):qcc ((R.take n).map qag++(x::tl))=.error (.rule n):=by
 obtain⟨S',h'⟩:=pre_of h n
 have:qad [] 0 (qhr ((R.take n).map qag++(x::tl)))=.error (.rule n):=by
  unfold qhr
  rw[Aq,qcp,show ((R.take n).map qag).map opR=(R.take n).map some from qfi λr hr=>rok r (CI hr),h']
  show qad S' _ (opR x::_)=_
  rw[qaw,Ab,Av,CC hn,CJ,hx]
  by_cases c:n=40
  .rw[if_pos c]
  .rw[if_neg c]
 unfold qcc
 rw[this]
theorem qne {R:List Rw7}{S:List RR}(h:qad [] 0 (R.map some)=.ok S)(t:Tl R S)(rok:∀r∈R,qbi r)(hl:R.length<=39){row:Rw7}(ok:qbi row)(ht:isT row=false)(hn:∀r∈R,isT r=true->qaf r≠qaf row):qcc ((R++[row]).map qag)=.error (.term (qaf row)):=by
 have pn:qal S (qaf row)=none:=qe6.mpr (by
  cases e:lk S (qaf row) with
  |none=>rfl
  |some r =>
   obtain⟨r2,h1,h2,h3⟩:=(t.j.nm _).mp (qdv.mp ⟨r,e⟩)
   exact absurd h3 (hn r2 h1 h2))
 have:qad [] 0 (qhr ((R++[row]).map qag))=.error (.term (qaf row)):=by
  rw[qfi (λr hr=>(Au.mp hr).elim (rok r) λq=>by rw[Ak.mp q];exact ok),Aq,qcp,h]
  show qad S _ (some row::[])=_
  refine qlh (by rw[Ab];lia) ?_ []
  rw[qdc ht]
  unfold qez
  rw[pn]
 unfold qcc
 rw[this]
structure DW8 (rs:List RR)(sp:List Str):Prop where
 gt:GT rs
 sn:sp.Nodup
 sl:sp.length=5
 so:∀z∈sp,qbs z
 sd:∀z∈sp,z∉rs.map RR.name
 l36:(qaa rs).length<=36
 rk:∃rk:Nat->Int,∀k b,bo (bsR rs) k=some b->rk b<rk k
noncomputable def spDr8 (K:Ag):Sp:=λvs H Q _=>∃(l:Addr)(ns:List Int),vs=[.ref l]/\SqL K H l (ns.map V.int)/\∀(t p pr pk:Addr)(H':Hp)(qs:List Addr)(rs:List RR)(sp:List Str),Same H H'->H' p=some (.lst (qs.map V.ref))->qs.length=rs.length->(∀(i:Nat)(q:Addr)(r:RR),qs[i]?=some q->rs[i]?=some r->LR H' q r)->H' t=some (.tup [.ref p,.ref pr,.ref pk])->H' pr=some (.lst (sp.map V.str))->DW8 rs sp->Q (.ref t) H'
noncomputable def spRg8:Sp:=λvs H Q _=>∃(ls:List Str)(rs:List RR)(N:Nat)(x:Str)(rk:Nat->Int),vs=[.str (qev ls),.str x]/\Lng ls/\qcc ls=.ok rs/\N<rs.length/\bo (bsR rs) N=some N/\(∀k b,k≠N->bo (bsR rs) k=some b->rk b<rk k)/\nm (rs.map RR.name) N=x/\∀H',Same H H'->Q (.bl true) H'
noncomputable def RsAt (H:Hp)(p:Addr)(rs:List RR):Prop:=∃qs:List Addr,H p=some (.lst (qs.map V.ref))/\qs.length=rs.length/\∀(i:Nat)(q:Addr)(r:RR),qs[i]?=some q->rs[i]?=some r->LR H q r
theorem RsAt.same {H H':Hp}{p:Addr}{rs:List RR}(h:RsAt H p rs)(s:Same H H'):RsAt H' p rs:=by
 obtain⟨qs,h1,h2,h3⟩:=h
 exact⟨qs,s _ _ h1,h2,λi q r a b=>(h3 i q r a b).same s⟩
noncomputable def spHd:Sp:=λvs H Q _=>∃(p:Addr)(rs:List RR),vs=[.ref p]/\RsAt H p rs/\(∀r∈rs,RrOk r)/\rs.length<=6/\(qaa rs).length<=40/\∀(q:Addr)(H':Hp),H q=none->Same H H'->H' q=some (.lst ((Bl rs.length).map λk=>V.int (hd rs k:Int)))->Q (.ref q) H'
theorem qsh {rs:List RR}{k:Nat}{r:RR}(h:rs[k]?=some r):hd rs (k+1)=hd rs k+(qb1 r).length:=by
 unfold hd qaa
 rw[qbb h,Bw,Ah]
 simp[Bk]
theorem qbr (z:List Rw7):(qbe z).length=z.length:=by unfold qbe;rw[Ab,Ab]
theorem qwt {qs:List Addr}{rs:List RR}{i:Nat}{v:V}(h:(qs.map V.ref)[i]?=some v)(lq:qs.length=rs.length):∃q r,qs[i]?=some q/\rs[i]?=some r/\v=.ref q:=by
 rw[Al]at h
 cases e:qs[i]? with
 |none=>rw[e]at h;cases h
 |some q =>
  rw[e]at h
  cases h
  have l:=(Ac.mp e).1
  exact⟨q,rs[i]'(by lia),rfl,Ae (by lia),rfl⟩
noncomputable def PrOk (rs:List RR)(pr:List Rw7):Prop:=∀row∈pr,∃(k k2:Nat)(r r2:RR),rs[k]?=some r/\rs[k2]?=some r2/\r.owes≠r2.owes/\row=.yields r.name r2.name
noncomputable def spPr8:Sp:=λvs H Q _=>∃(p:Addr)(rs:List RR),vs=[.ref p]/\RsAt H p rs/\(∀r∈rs,RrOk r)/\rs.length<=6/\∀(q:Addr)(H':Hp)(pr:List Rw7),H q=none->Same H H'->H' q=some (.lst (qbe pr))->PrOk rs pr->pr.length<=36->Q (.ref q) H'
theorem qy8 (rs:List RR){j:Nat}(h:j<rs.length):atI ((Bl rs.length).map λk=>V.int (hd rs k:Int)) (j:Int)=some (.int (hd rs j:Int)):=qbu (by rw[Al,D0 h];rfl)
theorem mod_in (c:Int){m:Nat}(h:1<=m):∃j:Nat,c % (m:Int)=(j:Int)/\j<m:=by
 have z0:=Ei c (show (m:Int)≠0 by lia)
 have z1:=DB c (show (0:Int)<(m:Int) by lia)
 exact⟨(c % (m:Int)).toNat,by lia,by lia⟩
theorem qsi (c:Int){h m:Nat}(g:h<m):∃n:Nat,(h:Int)+1+c % ((m:Int)-(h:Int))=(n:Int)/\h<n/\n<=m:=by
 obtain⟨j,e,l⟩:=mod_in c (m:=m-h) (by lia)
 rw[show ((m-h:Nat):Int)=(m:Int)-(h:Int) by lia]at e
 exact⟨h+1+j,by rw[e];lia,by lia,by lia⟩
theorem qty {sp:List Str}(h:sp.length=5):∃a b c d e,sp=[a,b,c,d,e]:=by
 match sp,h with
 | [a,b,c,d,e],_=>exact⟨a,b,c,d,e,rfl⟩
theorem alg {H H1:Hp}{p:Addr}{o:HO}(h:upd H p o=H1)(n:H p=none):Same H H1/\H1 p=some o:=by subst h;exact⟨zm n,zd⟩
theorem qnf {p G:Hp->Prop}{R:Prop}(m:(∀x,p x->G x)->R)(l:∀x,p x->G x):R:=m l
theorem qpr {ss:List Str}{k:Str}(h:k∈ss):∃f:Nat,ss[f]?=some k/\∀m:Nat,m<f->ss[m]? ≠ some k:=by
 induction ss with
 |nil=>cases h
 |cons x ss ih =>
  by_cases c:x=k
  .exact⟨0,by rw[c];rfl,λm hm=>absurd hm (D6 _)⟩
  .rcases An.mp h with e|e
   .exact absurd e.symm c
   .obtain⟨f,h1,h2⟩:=ih e
    refine⟨f+1,h1,λm hm=>?_⟩
    cases m with
    |zero=>exact λz=>c (AD z)
    |succ m=>exact h2 m (Nat.lt_of_succ_lt_succ hm)
noncomputable def qwu:Er->Nat->Nat
 |.unfit i,_=>i
 |_,n=>n
theorem qps {a b:Rw7}(ha:qbi a)(hb:qbi b)(h:qag a=qag b):a=b:=by
 have e:=qn5 ha
 rw[h,qn5 hb]at e
 exact(AD e).symm
noncomputable def spBy8:Sp:=λvs H Q _=>∃(w c:Int)(p q ps:Addr)(rs:List RR)(sp:List Str),vs=[.int w,.int c,.ref p,.ref q,.ref ps]/\RsAt H p rs/\DW8 rs sp/\1<=rs.length/\H q=some (.lst (qbe (qaa rs)))/\H ps=some (.lst (sp.map V.str))/\∀(t:Addr)(H':Hp)(n:Nat)(row:Rw7)(s:Nat)(er:Er),Same H H'->H' t=some (.tup [.int (n:Int),.str (qag row),.str (erW er),(erF er).2])->Flt rs sp n row s er->qwu er n=s->Q (.ref t) H'
theorem qng (a b c:Str):a++b++c=a++(b++c):=str_ext (by simp only[qch,AB])
theorem qsj (x y:Str)(m:Int)(u sfx:Str)(hs:sfx=wS " " ++ nS m++wS " " ++ u):wS "term " ++ x++wS " of who due due behind " ++ y++sfx=qag (.term x (wS "who") (wS "due") true y m u):=by
 have h:=qm4 ⟨x,wS "who",wS "due",none,some y,m,u,[],[],[],none,[]⟩
 unfold qlk qa6 at h
 dsimp only at h
 rw[<- h,hs,show wS " of who due due behind " = wS " of " ++ wS "who" ++ wS " due " ++ wS "due" ++ wS " " ++ wS "behind " by decide +kernel]
 simp only[qng]
theorem qip:qbs (wS "who"):=⟨Ez,Ez,Ez⟩
theorem qgw:qbs (wS "due"):=⟨Ez,Ez,Ez⟩
noncomputable def spFa8 (K:Ag):Sp:=λvs H Q _=>∃(l p q ps:Addr)(ns:List Int)(rs:List RR)(sp:List Str),vs=[.ref l,.ref p,.ref q,.ref ps]/\SqL K H l (ns.map V.int)/\RsAt H p rs/\DW8 rs sp/\H q=some (.lst (qbe (qaa rs)))/\H ps=some (.lst (sp.map V.str))/\∀(t:Addr)(H':Hp)(n:Nat)(row:Rw7)(s:Nat)(er:Er),Same H H'->H' t=some (.tup [.int (n:Int),.str (qag row),.str (erW er),(erF er).2])->Flt rs sp n row s er->qwu er n=s->Q (.ref t) H'
noncomputable def spAl8:Sp:=λvs H Q _=>∃(p q ps:Addr)(rs:List RR)(sp:List Str),vs=[.ref p,.ref q,.ref ps]/\RsAt H p rs/\DW8 rs sp/\H q=some (.lst (qbe (qaa rs)))/\H ps=some (.lst (sp.map V.str))/\∀H',Same H H'->Q (.bl true) H'
noncomputable def Sec8 (rs:List RR)(sp:List Str)(R1:List Rw7)(two:Nat)(row2:Rw7):Prop:=(∃r∈rs,row2=.yields r.name (sp.getD 4 AS)/\qa6 r∈R1.take two)\/(row2=.term (sp.getD 3 AS) (wS "who") (wS "due") true (sp.getD 4 AS) 9 (wS "court")/\rs.length<=4)
noncomputable def spSe8 (K:Ag):Sp:=λvs H Q _=>∃(l p q ps:Addr)(ns:List Int)(rs:List RR)(sp:List Str)(R1:List Rw7)(s:Nat),vs=[.ref l,.ref p,.ref q,.int (s:Int),.ref ps]/\SqL K H l (ns.map V.int)/\RsAt H p rs/\DW8 rs sp/\H q=some (.lst (qbe R1))/\(∀r∈R1,qbi r)/\R1.length<=37/\(∀r∈rs,qa6 r∈R1)/\H ps=some (.lst (sp.map V.str))/\∀(t qb:Addr)(H':Hp)(two:Nat)(row2:Rw7),Same H H'->H' t=some (.tup [.ref qb,.bl (decide ((two:Int)<=(s:Int)))])->H' qb=some (.lst (qbe (R1.take two++row2::R1.drop two)))->two<=R1.length->Sec8 rs sp R1 two row2->Q (.ref t) H'
noncomputable def P28 (rs:List RR)(sp:List Str)(R1:List Rw7)(H0 J:Hp)(y6 y7 _y8 _y9:Option V):Prop:=Same H0 J/\∃(two:Nat)(row2:Rw7),y6=some (.str (qag row2))/\y7=some (.int (two:Int))/\two<=R1.length/\Sec8 rs sp R1 two row2
theorem useH4 {p G:Hp->Option V->Option V->Option V->Option V->Prop}{R:Prop}(m:(∀x a b c d,p x a b c d->G x a b c d)->R)(l:∀x a b c d,p x a b c d->G x a b c d):R:=m l
theorem slice4 {L:Str}{T:List Nat}(e:L.cps.toList=(wS "term").cps.toList++T):(Cc L (some 4) none).cps.toList=T:=by
 have l4:(wS "term").cps.toList.length=4:=Ez
 have e2:Cc L (some 4) none=⟨((L.cps.toList.drop (4:Int).toNat).take ((L.cps.toList.length:Int)-4).toNat).toArray⟩:=PySem.StrLaws.sliceText_from ⟨by lia,by rw[e,Ah,l4];lia⟩
 have e5:(Cc L (some 4) none).cps.toList=(L.cps.toList.drop 4).take ((L.cps.toList.length:Int)-4).toNat:=by rw[e2];rfl
 rw[e5,By (by rw[Ba];lia),e,List.drop_left' l4]
theorem yz {x w o u y:Str}{d:Bool}{m:Int}(h:qbi (.term x w o d y m u)):opR (wS "yields" ++ Cc (qag (.term x w o d y m u)) (some 4) none)=none/\(wS "yields" ++ Cc (qag (.term x w o d y m u)) (some 4) none).cps.size<=200/\10∉(wS "yields" ++ Cc (qag (.term x w o d y m u)) (some 4) none).cps.toList/\(wS "yields" ++ Cc (qag (.term x w o d y m u)) (some 4) none).cps.size≠0:=by
 obtain⟨z1,z2,z3⟩:=qg8 h
 have wo:∀p∈qay (.term x w o d y m u),32∉p.cps.toList:=λp hp=>(qij h p hp).1 32 (.inl rfl)
 have e:(qag (.term x w o d y m u)).cps.toList=(wS "term").cps.toList++32::jl 32 ([x,wS "of",w,wS "due",o,fbS d,y,nS m,u].map λp=>p.cps.toList):=qc0 32 _
 have l4:(wS "term").cps.toList.length=4:=Ez
 have e3:=slice4 e
 have e4:wS "yields" ++ Cc (qag (.term x w o d y m u)) (some 4) none=DM ⟨#[32]⟩ [wS "yields",x,wS "of",w,wS "due",o,fbS d,y,nS m,u]:=str_ext (by rw[qch,e3,qc0];rfl)
 refine⟨?_,?_,?_,?_⟩
 .unfold opR
  rw[e4,qr2,qhj 32 (C5 _ _) λp hp=>?_,qn0,if_neg λz=>absurd z.1 Ez]
  rcases An.mp hp with q|q
  .rw[q];decide +kernel
  .exact wo p (Ar _ q)
 .rw[<- AQ,qch,Ah,e3,show (wS "yields").cps.toList.length=6 by decide +kernel]
  rw[<- AQ,e,Ah,l4]at z1
  lia
 .rw[qch,e3]
  rw[e]at z2
  intro z
  rcases Au.mp z with z|z
  .revert z;decide +kernel
  .exact z2 (Ay _ z)
 .rw[<- AQ,qch,Ah,show (wS "yields").cps.toList.length=6 by decide +kernel]
  lia
theorem qy9 {A B:List Rw7}{x:Str}(ok:∀r∈A++B,qbi r)(l:(A++B).length<=99)(hx:x.cps.size<=200/\10∉x.cps.toList/\x.cps.size≠0):Lng (A.map qag++x::B.map qag):=by
 have c:∀z∈A.map qag++x::B.map qag,z.cps.size<=200/\10∉z.cps.toList/\z.cps.size≠0:=λz hz=>by
  rcases Au.mp hz with q|q
  .obtain⟨r,hr,rfl⟩:=AM.mp q
   have:=qg8 (ok r (AO _ hr))
   exact⟨by lia,this.2⟩
  rcases An.mp q with q|q
  .rw[q];exact hx
  .obtain⟨r,hr,rfl⟩:=AM.mp q
   have:=qg8 (ok r (Ay _ hr))
   exact⟨by lia,this.2⟩
 refine⟨?_,λz hz=>⟨(c z hz).1,(c z hz).2.1⟩,λe=>?_⟩
 .rw[Ah]at l
  rw[Ah,Ab,At,Ab];lia
 .exact(c (wS "") (by rw[e];exact Ak.mpr rfl)).2.2 rfl
theorem qyt {row:Rw7}{R:List Rw7}{S:List RR}(h:qad [] 0 ((row::R).map some)=.ok S):isT row=true:=by
 cases c:isT row with
 |true=>rfl
 |false =>
  have h:qad [] 0 (some row::R.map some)=.ok S:=h
  rw[qaw,if_neg Ex]at h
  dsimp only at h
  rw[qdc c]at h
  unfold qez at h
  rw[show qal [] (qaf row)=none from rfl]at h
  cases h
structure Bs8 (sp:List Str)(w7:Prop)(Rb:List Rw7):Prop where
 rd:∃S,qad [] 0 (Rb.map some)=.ok S/\Tl Rb S
 ok:∀r∈Rb,qbi r
 l:Rb.length<=39
 ne:Rb≠[]
 n2:¬w7->∀r∈Rb,isT r=true->qaf r≠sp.getD 2 AS
theorem Bs8.fst {sp:List Str}{w7:Prop}{Rb:List Rw7}(b:Bs8 sp w7 Rb):∃x w o d y m u T,Rb=.term x w o d y m u::T:=by
 obtain⟨S,h,_⟩:=b.rd
 cases e:Rb with
 |nil=>exact absurd e b.ne
 |cons row T =>
  rw[e]at h
  have:=qyt h
  cases row with
  |term x w o d y m u=>exact⟨x,w,o,d,y,m,u,T,rfl⟩
  |_=>cases this
structure Bl8 (rs:List RR)(sp:List Str)(L:List (Rw7×Bool))(T:List Str):Prop where
 ok:okL sp [] L
 e:orL L=qaa rs
 t:nT L<=rs.length+T.length
 rok:∀r∈L.map (·.1),qbi r
 nm:∀r∈L.map (·.1),isT r=true->qaf r∈rs.map RR.name\/qaf r∈T
theorem qkc (A B:List (Rw7×Bool))(p:Rw7×Bool)(r:Rw7):r∈(A++p::B).map (·.1)↔r=p.1\/r∈(A++B).map (·.1):=by
 simp only[Aq,A4,Au,An]
 constructor
 .rintro (h|h|h)
  .exact .inr (.inl h)
  .exact .inl h
  .exact .inr (.inr h)
 .rintro (h|h|h)
  .exact .inr (.inl h)
  .exact .inl h
  .exact .inr (.inr h)
theorem Bl8.insY {rs:List RR}{sp:List Str}{A B:List (Rw7×Bool)}{T:List Str}(b:Bl8 rs sp (A++B) T){x y:Str}(ro:qbi (.yields x y)){p:Rw7}(hp:p∈A.map (·.1))(ht:isT p=true)(hx:qaf p=x):Bl8 rs sp (A++(.yields x y,true)::B) T:=by
 obtain⟨q,hq,rfl⟩:=AM.mp hp
 refine⟨qsd b.ok (.inl ⟨x,y,rfl,q,hq,ht,hx⟩),by rw[qse];exact b.e,by rw[qwi];exact b.t,λr hr=>?_,λr hr h=>?_⟩
 .rcases (qkc A B _ r).mp hr with z|z
  .rw[z];exact ro
  .exact b.rok r z
 .rcases (qkc A B _ r).mp hr with z|z
  .rw[z]at h;cases h
  .exact b.nm r z h
theorem Bl8.insT {rs:List RR}{sp:List Str}{A B:List (Rw7×Bool)}{T:List Str}(b:Bl8 rs sp (A++B) T){x w o y u:Str}{m:Int}(ro:qbi (.term x w o true y m u))(hs:x∈sp)(hr:x∉rs.map RR.name)(hT:x∉T):Bl8 rs sp (A++(.term x w o true y m u,true)::B) (x::T):=by
 refine⟨qsd b.ok (.inr ⟨rfl,hs,λp hp h1 h2=>?_,λx' w' o' d' y' m' u' z h=>?_⟩),by rw[qse];exact b.e,?_,λr hr=>?_,λr hr h=>?_⟩
 .have h2:qaf p.1=x:=h2
  rcases b.nm p.1 (B9 hp) h1 with q|q
  .rw[h2]at q;exact hr q
  .rw[h2]at q;exact hT q
 .cases z;cases h.1
 .rw[qwi]
  have:=b.t
  show _+1<=_+(_+1)
  lia
 .rcases (qkc A B _ r).mp hr with z|z
  .rw[z];exact ro
  .exact b.rok r z
 .rcases (qkc A B _ r).mp hr with z|z
  .rw[z];exact .inr Am
  .rcases b.nm r z h with q|q
   .exact .inl q
   .exact .inr (Ar _ q)
theorem nT_all {rs:List RR}:nT (flR (qaa rs))=rs.length:=by
 have h:∀R:List Rw7,nT (flR R)=(R.filter isT).length:=λR=>by
  unfold nT flR
  rw[List.filter_map,Ab];rfl
 rw[h]
 induction rs with
 |nil=>rfl
 |cons r rs ih =>
  have e:qaa (r::rs)=qa6 r::qbg r++qaa rs:=by
   show qb1 r++qaa rs=_
   rw[qby]
  rw[e,C7,Ah,ih,Dw,if_pos (qce r).1]
  have z:(qbg r).filter isT=[]:=List.filter_eq_nil_iff.mpr λrow hr=>by rw[(qn6 r row hr).1];decide
  rw[z,Bt,At];lia
theorem qwv {rs:List RR}{row:Rw7}(h:row∈qaa rs):qaf row∈rs.map RR.name:=by
 obtain⟨r,hr,h⟩:=Bs.mp h
 rw[qby]at h
 have:qaf row=r.name:=by
  rcases An.mp h with z|z
  .rw[z];exact(qce r).2
  .exact(qn6 r row z).2
 rw[this];exact B9 hr
theorem bl_all {rs:List RR}{sp:List Str}(dw:DW8 rs sp):Bl8 rs sp (flR (qaa rs)) [] :=
 ⟨qwj λr hr z=>dw.sd _ z (qwv hr),orL_fl _,by rw[nT_all];exact A3 _,by rw[qlt];exact qgt dw.gt.ok,λr hr _=>.inl (qwv (by rw[qlt]at hr;exact hr))⟩
theorem fl_app (A B:List Rw7):flR A++flR B=flR (A++B):=(Aq ..).symm
noncomputable def Spn (sp T:List Str):Prop:=∀z∈T,z=sp.getD 1 AS\/z=sp.getD 3 AS
structure Fm8 (rs:List RR)(sp:List Str)(L:List (Rw7×Bool))(T:List Str)(er:Er):Prop where
 b:Bl8 rs sp L T
 sn:Spn sp T
 six:rs.length+T.length<=6
 rd:∀(E:List (Rw7×Bool))(T':List Str),Bl8 rs sp (L++E) T'->(L++E).length<=40->rs.length+T'.length<=6->sp.getD 0 AS∉T'->sp.getD 4 AS∉T'->qcc (((L++E).map (·.1)).map qag)=.error er
theorem qpt {sp:List Str}(nd:sp.Nodup)(l:sp.length=5){i j:Nat}(hi:i<5)(hj:j<5)(h:sp.getD i AS=sp.getD j AS):i=j:=by
 rw[AC,AC,Ae (by lia),Ae (by lia)]at h
 exact qlv nd (by lia) (by rw[Ae (by lia),Ae (by lia)];exact congrArg some h)
theorem qfv {sp:List Str}(l:sp.length=5){i:Nat}(hi:i<5):sp.getD i AS∈sp:=by
 rw[AC,Ae (by lia)];exact Bq _
theorem Spn.no {rs:List RR}{sp T:List Str}(h:Spn sp T)(dw:DW8 rs sp){i:Nat}(hi:i<5)(h1:i≠1)(h3:i≠3):sp.getD i AS∉T:=λz=>by
 rcases h _ z with q|q
 .exact h1 (qpt dw.sn dw.sl hi Ex q)
 .exact h3 (qpt dw.sn dw.sl hi Ex q)
theorem Bl8.no {rs:List RR}{sp:List Str}{L:List (Rw7×Bool)}{T:List Str}(b:Bl8 rs sp L T)(dw:DW8 rs sp){i:Nat}(hi:i<5)(h:sp.getD i AS∉T):∀r∈L.map (·.1),isT r=true->qaf r≠sp.getD i AS:=λr hr ht z=>by
 rcases b.nm r hr ht with q|q
 .rw[z]at q;exact dw.sd _ (qfv dw.sl hi) q
 .rw[z]at q;exact h q
theorem qlw {rs:List RR}{sp:List Str}(dw:DW8 rs sp){n:Nat}{row:Rw7}{s:Nat}{er:Er}(F:Flt rs sp n row s er):∃L T,L.map (·.1)=(qaa rs).take n++row::(qaa rs).drop n/\T.length<=1/\(∀z∈T,z=sp.getD 1 AS)/\Fm8 rs sp L T er:=by
 have b0:=bl_all dw
 rw[<- AK n (qaa rs),<- fl_app]at b0
 have hm:(flR ((qaa rs).take n)++(row,true)::flR ((qaa rs).drop n)).map (·.1)=(qaa rs).take n++row::(qaa rs).drop n:=by
  rw[Aq,A4,qlt,qlt]
 have key:∀T,Bl8 rs sp (flR ((qaa rs).take n)++(row,true)::flR ((qaa rs).drop n)) T->Spn sp T->rs.length+T.length<=6->Fm8 rs sp (flR ((qaa rs).take n)++(row,true)::flR ((qaa rs).drop n)) T er:=λT b sn six=>by
  refine⟨b,sn,six,λE T' b' l' s' n0 n4=>?_⟩
  have ll:s<((qaa rs).take n++row::(qaa rs).drop n).length:=by
   have:=F.hs
   have:=F.hn
   rw[Ah,At,Av,Ba];lia
  have em:((flR ((qaa rs).take n)++(row,true)::flR ((qaa rs).drop n))++E).map (·.1)=((qaa rs).take n++row::(qaa rs).drop n)++E.map (·.1):=by rw[Aq,hm]
  refine qpq dw.gt F b'.ok b'.e l' (A0 b'.t s') ?_ ?_ ?_ (b'.no dw (i:=0) Ex n0) b'.rok
  .rw[em];exact AO _ (Ay _ Am)
  .rw[em,BI (by lia)]
  .rw[em,AF ll]
 rcases F.ins with ⟨x,y,e,p,h1,h2,h3⟩|⟨w,o,y,m,u,e,l5⟩
 .refine⟨_,[],hm,Ex,(λ_ h=>nomatch h),key _ ?_ (λ_ h=>nomatch h) (by have:=dw.gt.l6;show _+0<=6;lia)⟩
  have ro:=F.ok
  rw[e]at ro |-
  exact b0.insY ro (by rw[qlt];exact h1) h2 h3
 .refine⟨_,[sp.getD 1 AS],hm,A3 1,λz h=>Ak.mp h,key _ ?_ (λz h=>.inl (Ak.mp h)) (by show _+1<=6;lia)⟩
  have ro:=F.ok
  rw[e]at ro |-
  exact b0.insT ro (qfv dw.sl Ex) (dw.sd _ (qfv dw.sl Ex)) (λh=>nomatch h)
theorem qtz {rs:List RR}{sp:List Str}(dw:DW8 rs sp){n:Nat}{row:Rw7}{s:Nat}{er:Er}(F:Flt rs sp n row s er){R1:List Rw7}(eR:R1=(qaa rs).take n++row::(qaa rs).drop n){two:Nat}{row2:Rw7}(l2:two<=R1.length)(sec:Sec8 rs sp R1 two row2):∃L T,L.map (·.1)=R1.take two++row2::R1.drop two/\Fm8 rs sp L T (if two<=s then .term (sp.getD 4 AS) else er):=by
 obtain⟨L,T,eL,t1,t4,f⟩:=qlw dw F
 rw[<- eR]at eL
 have o4:=dw.so _ (qfv dw.sl (show 4<5 by decide))
 have o3:=dw.so _ (qfv dw.sl (show 3<5 by decide))
 have b0:=f.b
 rw[<- AK two L]at b0
 have hm:(L.take two++(row2,true)::L.drop two).map (·.1)=R1.take two++row2::R1.drop two:=by
  rw[Aq,A4,BO,Cs,eL]
 have lt:(R1.take two).length=two:=by rw[Av];lia
 have sl:s<R1.length:=by
  have:=F.hs
  have:=F.hn
  rw[eR,Ah,At,Av,Ba];lia
 have hm1:row∈R1:=by rw[eR];exact Ay _ Am
 have key:∀T,Bl8 rs sp (L.take two++(row2,true)::L.drop two) T->Spn sp T->rs.length+T.length<=6->Fm8 rs sp (L.take two++(row2,true)::L.drop two) T (if two<=s then .term (sp.getD 4 AS) else er):=λT b sn six=>by
  refine⟨b,sn,six,λE T' b' l' s' n0 n4=>?_⟩
  have em:((L.take two++(row2,true)::L.drop two)++E).map (·.1)=(R1.take two++row2::R1.drop two)++E.map (·.1):=by rw[Aq,hm]
  by_cases c:two<=s
  .rw[if_pos c]
   have cs:∃x,(row2=.yields x (sp.getD 4 AS)/\x∈rs.map RR.name) \/ ∃w o m u,row2=.term x w o true (sp.getD 4 AS) m u:=by
    rcases sec with ⟨r,h1,h2,_⟩|⟨h,_⟩
    .exact⟨r.name,.inl ⟨h2,B9 h1⟩⟩
    .exact⟨_,.inr ⟨_,_,_,_,h⟩⟩
   obtain⟨x,cs⟩:=cs
   refine qqz dw.gt F b'.ok b'.e l' (A0 b'.t s') c ?_ cs ?_ (b'.no dw (i:=4) Ex n4) b'.rok
   .rw[em,<- eR,AB,BI (by lia),CU,Nat.min_self]
   .rw[em,AB,A9 (by lia),lt,Ca];rfl
  .rw[if_neg c]
   have ts:((R1.take two++row2::R1.drop two)++E.map (·.1)).take s=R1.take s:=by
    rw[AB,BI (by lia),CU,CC (by lia)]
   refine qpq dw.gt F b'.ok b'.e l' (A0 b'.t s') ?_ ?_ ?_ (b'.no dw (i:=0) Ex n0) b'.rok
   .rw[em]
    refine AO _ ?_
    rw[<- AK two R1]at hm1
    rcases Au.mp hm1 with z|z
    .exact AO _ z
    .exact Ay _ (Ar _ z)
   .rw[em,ts,eR]
   .rw[em,<- eR,AB,AF (by lia),B5 (by lia)]
 rcases sec with ⟨r,h1,h2,h3⟩|⟨h,l4⟩
 .refine⟨_,T,hm,key _ ?_ f.sn f.six⟩
  rw[h2]
  exact b0.insY ⟨(dw.gt.ok r h1).nm,o4⟩ (by rw[BO,eL];exact h3) (qce r).1 (qce r).2
 .refine⟨_,sp.getD 3 AS::T,hm,key _ ?_ (λz hz=>(An.mp hz).elim .inr (f.sn z)) (by show _+(_+1)<=6;lia)⟩
  rw[h]
  refine b0.insT ⟨o3,qip,qgw,o4,Ex,Ez⟩ (qfv dw.sl Ex) (dw.sd _ (qfv dw.sl Ex)) λz=>?_
  exact absurd (qpt dw.sn dw.sl Ex Ex (t4 _ z)) Ex
theorem qyu {rs:List RR}{sp:List Str}(dw:DW8 rs sp){L:List (Rw7×Bool)}{T:List Str}{er:Er}(f:Fm8 rs sp L T er)(l:L.length<=39)(t1:T.length<=1)(l5:rs.length<5){w o u:Str}{m:Int}(ro:qbi (.term (sp.getD 2 AS) w o true (sp.getD 2 AS) m u)):Bl8 rs sp (L++[(.term (sp.getD 2 AS) w o true (sp.getD 2 AS) m u,true)]) (sp.getD 2 AS::T)/\qcc (((L++[(Rw7.term (sp.getD 2 AS) w o true (sp.getD 2 AS) m u,true)]).map (·.1)).map qag)=.error er:=by
 have b0:=f.b
 rw[<- AV L]at b0
 have b:=b0.insT ro (qfv dw.sl Ex) (dw.sd _ (qfv dw.sl Ex)) (f.sn.no dw Ex Ex Ex)
 refine⟨b,f.rd _ _ b (by rw[Ah];show _+1<=40;lia) (by show _+(_+1)<=6;lia) ?_ ?_⟩
 .intro z
  rcases An.mp z with q|q
  .exact absurd (qpt dw.sn dw.sl Ex Ex q) Ex
  .exact f.sn.no dw Ex Ex Ex q
 .intro z
  rcases An.mp z with q|q
  .exact absurd (qpt dw.sn dw.sl Ex Ex q) Ex
  .exact f.sn.no dw Ex Ex Ex q
theorem qza {rs:List RR}{sp:List Str}(dw:DW8 rs sp){L:List (Rw7×Bool)}{T:List Str}(b:Bl8 rs sp L T)(l:L.length<=39)(ne:L≠[])(six:rs.length+T.length<=6){w7:Prop}(n2:¬w7->sp.getD 2 AS∉T):Bs8 sp w7 (L.map (·.1)):=by
 obtain⟨S0,h,t⟩:=par0 dw.gt b.ok b.e (by lia) (A0 b.t six)
 exact⟨⟨S0,h,t⟩,b.rok,by rw[Ab];exact l,λz=>ne (El.mp z),λz=>b.no dw Ex (n2 z)⟩
noncomputable def spBe8 (K:Ag):Sp:=λvs H Q _=>∃(l q ps:Addr)(ns:List Int)(sp:List Str)(Rb:List Rw7)(er:Er),vs=[.ref l,.ref q,.str (erW er),(erF er).2,.ref ps]/\SqL K H l (ns.map V.int)/\sp.length=5/\(∀z∈sp,qbs z)/\H q=some (.lst (qbe Rb))/\H ps=some (.lst (sp.map V.str))/\Bs8 sp (cell ns 34 % 8=7) Rb/\qcc (Rb.map qag)=.error er/\∀(t qm:Addr)(H':Hp)(LL:List Str)(er':Er),Same H H'->H' t=some (.tup [.ref qm,.str (erW er'),(erF er').2])->H' qm=some (.lst (LL.map V.str))->Lng LL->qcc LL=.error er'->Q (.ref t) H'
noncomputable def hdV (H:Hp):V->V
 |.ref q=>match H q with
  |some (.lst (v::_))=>v
  |_=>.non
 |_=>.non
theorem useH5 {p G:Hp->Option V->Option V->Option V->Option V->Option V->Prop}{R:Prop}(m:(∀x a b c d e,p x a b c d e->G x a b c d e)->R)(l:∀x a b c d e,p x a b c d e->G x a b c d e):R:=m l
theorem useH1 {p G:Hp->Option V->Prop}{R:Prop}(m:(∀x a,p x a->G x a)->R)(l:∀x a,p x a->G x a):R:=m l
noncomputable def P18 (rs:List RR)(sp:List Str)(ns:List Int)(H0 J:Hp)(y8 y9 y10 _y11 _y12:Option V):Prop:=Same H0 J/\∃(qb:Addr)(L:List (Rw7×Bool))(T:List Str)(er:Er),y8=some (.str (erW er))/\y9=some (erF er).2/\y10=some (.ref qb)/\J qb=some (.lst (qbe (L.map (·.1))))/\Fm8 rs sp L T er/\L.length<=38/\L≠[]/\(cell ns 34 % 8=7->T.length<=1)
noncomputable def P19 (sp:List Str)(ns:List Int)(er:Er)(H0 J:Hp)(y10:Option V):Prop:=Same H0 J/\∃(qb:Addr)(Rb:List Rw7),y10=some (.ref qb)/\J qb=some (.lst (qbe Rb))/\Bs8 sp (cell ns 34 % 8=7) Rb/\qcc (Rb.map qag)=.error er
theorem qyv {er:Er}{n s:Nat}(es:qwu er n=s):(if erW er=wS "unfit" then (erF er).2 else .int (n:Int))=V.int (s:Int):=by
 cases er with
 |unfit i=>exact(if_pos rfl).trans (by rw[<- es];rfl)
 |rule i=>exact(if_neg (show ¬wS "rule" = wS "unfit" by decide +kernel)).trans (by rw[<- es];rfl)
 |term x=>exact(if_neg (show ¬wS "term" = wS "unfit" by decide +kernel)).trans (by rw[<- es];rfl)
 |twice x=>exact(if_neg (show ¬wS "twice" = wS "unfit" by decide +kernel)).trans (by rw[<- es];rfl)
section
variable {P:AU}{w:World}{K:Ag}{mg:Str->Option Value}{base:Heap}{a:Adr}
set_option maxHeartbeats 4000000
theorem qq1 (T:Txt K mg a):FnOk P w K mg base CX0 1 a.nZ a.nB ["sign"] spFig:=by
 refine T.bF.fn.ok qqk (λvs H Q E h=>?_) (λcdv A outer s H vs Q E hr h=>?_)
 .obtain⟨_,rfl,_⟩:=h
  all_goals rfl
 .obtain⟨c,rfl,k⟩:=h
  refine⟨_,(zc (zf (qoc qgy qgy zt (pv 0) zt))),?_⟩
  refine⟨_,rfl,_,_,rfl,rfl,_,rfl,?_⟩
  have k':Q (.bl (fig c)) H:=k
  unfold fig at k'
  show if (!decide ((⟨#[c]⟩:Str).cps.toList<(Aa "0").cps.toList))=true then _ else _
  rw[le_0]
  by_cases h1:48<=c
  .rw[decide_eq_true h1,Di]at k'
   rw[decide_eq_true h1]
   refine qc1 ⟨_,_,rfl,rfl,?_⟩
   show Q (.bl (!decide ((Aa "9").cps.toList<(⟨#[c]⟩:Str).cps.toList))) H
   rw[le_9];exact k'
  .rw[decide_eq_false h1,Ct]at k'
   rw[decide_eq_false h1]
   exact qbv k'
theorem qiq (T:Txt K mg a):FnOk P w K mg base CX0 2 a.mU a.lN ["text", "most_figures"] spWn:=by
 refine T.bS.fn.ok qh7 (λvs H Q E h=>?_) (λcdv A outer s H vs Q E hr h=>?_)
 .obtain⟨_,_,rfl,_⟩:=h
  all_goals rfl
 .obtain⟨x,m,rfl,hx,k⟩:=h
  refine⟨_,(qu (zo (qis (qkg qjj qjj zb (zq qaq (by rfl) T.kG qap (qk (pv 0) qz qt)) (pv 1))) (zc (zf qfx)) qai)
   (qu (zo (qis (zr (zq (qms rfl) (by rfl) T.lH qo4 (qk (qhz (N:=["sign"]) (js:=[none]) (XN:=["text", "most_figures"]) (xs:=qac qdb) rfl rfl rfl Ez (qrr (pv 0)) (λ_ _ _ _ _ _=>(qam (i:=0) (show Ck (["sign"]:List Str) from by decide +kernel) rfl (Az rfl) (Dj rfl))) (λ_ _ _ _ _ _=>qds) (λ_ _ _ _ _ _=>(zp (qq1 T) (hr.mono Ex) rfl T.bF.mgx T.bF.fn.kp T.bF.bd .nil qas (qk (pv 0) qz qt)))) qz qko)))) (zc (zf qfx)) qai)
   (zc (zf (qyx (qcz qaz (pv 0) zt (qae _)) (qd7 (qke (qcs BS PySem.F.slot_str_startswith PySem.F.type_str_startswith ql6 (pv 0) (qk zt qz ze))))))))),?_⟩
  have hz:x.length<=A5:=qan (by lia)
  refine⟨_,rfl,_,_,rfl,⟨hz,rfl⟩,_,_,rfl,rfl,_,rfl,?_⟩
  have k0:=k H (Same.refl H)
  unfold wnm at k0
  refine qbw (λc=>?_) (λc=>?_)
  .have c':1<=(x.cps.size:Int):=of_decide_eq_true c
   refine⟨_,rfl,_,_,rfl,rfl,_,rfl,?_⟩
   refine qbw (λd=>?_) (λd=>?_)
   .have d1:decide ((x.cps.size:Int)<=m)=false:=nbF d
    have d':=of_decide_eq_false d1
    rw[decide_eq_false d',Dn,Ct]at k0
    exact k0
   .have d1:decide ((x.cps.size:Int)<=m)=true:=nbT d
    have d':=of_decide_eq_true d1
    refine⟨_,rfl,_,rfl,?_⟩
    refine qc9 (λv=>match v with | .str y=>.bl (fig (y.cps.getD 0 0))|_=>.non) (λσ'=>∃v,σ'=[v]) qkn ?_ ?_ (λv σ' H' R hv sm s1 q=>?_) qdt λp hp=>?_
    .rw[Ab,AQ];exact hz
    .exact⟨none,rfl⟩
    .obtain⟨c,hc,rfl⟩:=AM.mp hv
     obtain⟨v0,rfl⟩:=s1
     exact⟨_,rfl,c,rfl,q _ ⟨_,rfl⟩⟩
    refine⟨p,x.cps.toList.map fig,rfl,SqL.of (by rw[zd,Bm,Bm];rfl),_,rfl,?_⟩
    have k1:=k _ (zm (o:=.lst ((x.cps.toList.map λc=>V.str ⟨#[c]⟩).map λv=>match v with | .str y=>.bl (fig (y.cps.getD 0 0))|_=>.non)) hp)
    unfold wnm at k1
    rw[decide_eq_true (show 1<=x.cps.size by lia),decide_eq_true d',Di,Di]at k1
    show if (!((x.cps.toList.map fig).all λb=>b))=true then _ else _
    rw[CG]
    show if (!(x.cps.toList.all fig))=true then _ else _
    cases e:x.cps.toList.all fig with
    |false =>
     rw[e]at k1
     exact qc1 k1
    |true =>
     rw[e,Di]at k1
     refine qbv ⟨_,rfl,rfl,_,rfl,?_⟩
     show if decide (V.str x=V.str (Aa "0"))=true then _ else _
     unfold Wri.plain at k1
     by_cases h0:x=Aa "0"
     .rw[decide_eq_true h0,Bool.true_or]at k1
      rw[decide_eq_true (congrArg V.str h0)]
      exact qc1 k1
     .rw[decide_eq_false h0,Bool.false_or]at k1
      rw[decide_eq_false λz=>h0 (V.str.inj z)]
      refine qbv ⟨_,rfl,rfl,_,_,rfl,rfl,_,rfl,?_⟩
      show Q (.bl (!Txt.startswith x (Aa "0"))) _
      rw[qx9]
      exact k1
  .have c':¬1<=(x.cps.size:Int):=λz=>c (decide_eq_true z)
   rw[decide_eq_false (show ¬1<=x.cps.size by lia),Ct,Ct]at k0
   exact⟨_,rfl,qc1 k0⟩
theorem qww (T:Txt K mg a):FnOk P w K mg base CX0 3 a.fS a.pF ["text", "most"] qvv:=by
 refine T.gU.fn.ok qo5 (λvs H Q E h=>?_) (λcdv A outer s H vs Q E hr h=>?_)
 .obtain⟨_,_,rfl,_⟩:=h
  all_goals rfl
 .obtain⟨x,m,rfl,hx,m1,m2,k,kn⟩:=h
  refine⟨_,(qu (zo (qis (zr (zp (qiq T) (hr.mono Ex) rfl T.bS.mgx T.bS.fn.kp T.bS.bd .nil qas (qk (pv 0) (qk (zq qaq (by rfl) T.kG qap (qk (qcf qeb (by rfl) T.kW qer (qk (pv 1) qz qt)) qz zx)) qz zx) qt)))) (zc (zf qbt)) qai)
   (qu (zj (i:=2) qo5.nd rfl (Az rfl) (qcf qs2 (by rfl) T.gR qgl (qk (pv 0) qz qt)))
   (zc (zf (qd3 (qkg qjj qjj zb (pv 2) (pv 1)) (pv 2) qbt))))),?_⟩
  have hL:(ts m).length<=62:=ts_len (by lia) Ex m2
  refine⟨_,rfl,_,rfl,_,rfl,log_ok 62 Ez (by lia) m2,_,_,rfl,⟨qan (A0 hL Ex),rfl⟩,x,_,rfl,by lia,λH1 s1=>?_⟩
  refine⟨_,rfl,?_⟩
  show if (!wnm x ((ts m).length:Nat))=true then _ else _
  cases e:wnm x ((ts m).length:Nat) with
  |false=>exact qc1 (kn (by unfold due;rw[e];rfl) H1 s1)
  |true =>
   have e':=e
   unfold wnm at e'
   simp only[AN,decide_eq_true_eq]at e'
   obtain⟨⟨g1,g2⟩,g3,g4⟩:=e'
   refine qbv ⟨_,rfl,_,_,rfl,int_of g3 g1 (by lia),(by show x.cps.size<=640;lia),_,rfl,_,_,rfl,rfl,_,rfl,?_⟩
   refine qbw (λc1=>?_) (λc1=>?_)
   .refine⟨_,rfl,_,_,rfl,rfl,_,rfl,?_⟩
    refine qbw (λc2=>?_) (λc2=>?_)
    .exact⟨_,rfl,k (by unfold due;rw[e,c1,c2];rfl) H1 s1⟩
    .exact kn (by unfold due;rw[e,c1,Bool.eq_false_iff.mpr c2];rfl) H1 s1
   .exact⟨_,rfl,qbv (kn (by unfold due;rw[e,Bool.eq_false_iff.mpr c1];rfl) H1 s1)⟩
theorem qq2 (T:Txt K mg a):FnOk P w K mg base CX0 1 a.dZ a.mQ ["self", "names"] (spIL K):=by
 refine T.dQ.fn.ok qql (λvs H Q E h=>?_) (λcdv A outer s H vs Q E hr h=>?_)
 .obtain⟨_,_,_,_,_,rfl,_⟩:=h
  all_goals rfl
 .obtain⟨x,C,l,zs,ini,rfl,hx,hl,xa,n1,k⟩:=h
  refine⟨_,(qu (zn (qgf T.gQ rfl T.kM (qk (pv 0) (qk (qcf qhx (by rfl) T.gH qei (qk (pv 1) qz qt)) qz zx) qt)))
   (zc (qh2 (pv 0) (qcf qhx (by rfl) T.gH qei (qk (pv 1) qz qt)) rfl))),?_⟩
  have nl:∀{p:Addr},H p=none->p≠x:=λhp z=>by rw[z,hx]at hp;cases hp
  refine⟨_,rfl,_,rfl,l,zs,rfl,.inl hl,λp1 h1=>?_⟩
  have hx1:upd H p1 (.lst zs) x=some (exO x C none true):=by rw[zh (Bh (nl h1))];exact hx
  refine⟨x,C,none,[.ref p1],ini,rfl,hx1,xa.xc,qan (show 1<=100000 by decide),?_⟩
  have hl2:SqL K (upd H p1 (.lst zs)) l zs:=(zm h1).seq hl
  refine⟨_,rfl,l,zs,rfl,.inl hl2,λp3 h3=>?_⟩
  have h30:H p3=none:=(zm h1).free h3
  have n31:p3≠p1:=λz=>by rw[z,zd]at h3;cases h3
  have hx3:upd (upd H p1 (.lst zs)) p3 (.lst zs) x=some (exO x C none true):=by rw[zh (Bh (nl h30))];exact hx1
  refine⟨_,rfl,x,C,true,rfl,xa.set n1,.inl ⟨hx3,λdx hd=>?_⟩⟩
  have hd0:H dx=none:=((zm h1).trans (zm h3)).free hd
  have nd3:p3≠dx:=λz=>by rw[<- z,zd]at hd;cases hd
  exact k dx p3 _ hd0 h30 (λb o hb e=>by rw[zh hb,zh (qah e hd0),zh (qah e h30),zh (qah e h1)];exact e) zd (by rw[zh (nl hd0)];exact zd) (by rw[zh (nl h30),zh nd3];exact zd)
theorem qt0 (T:Txt K mg a):FnOk P w K mg base (CX1 P w) 3 a.nI a.nJ ["name", "bases", "taken"] (spUn7 a):=by
 refine okX T.bR.fn qg1 (λvs H Q E h=>?_) (λcdv A outer s H vs Q E hr h=>?_)
 .obtain⟨_,_,_,_,_,_,_,rfl,_⟩:=h
  all_goals rfl
 .obtain⟨d,t,kvs,nms,bs,os,k0,rfl,hd,ht,wr,lto,hk,dic,k,kx⟩:=h
  refine⟨_,(qu (zj (i:=3) qg1.nd rfl (Az rfl) (zu qz))
   (qu (zj (i:=4) qg1.nd rfl (Az rfl) (pv 0))
   (qu (quc BB.leaving (PW.pt (qdr (zi qea (pv 4) qbt (qae _)) (qdi (zi qhw (pv 4) (pv 2) (by with_unfolding_all rfl))))) (qu (zo (zi qfe (pv 4) (pv 3) (by with_unfolding_all rfl)) (zc (qdu rfl (Takes.at qbo) (qed T.gN.xc T.dQ.ty (qq2 T) (hr.mono Ex) rfl T.gD T.gN.kp T.dQ.bd .nil qas (qk (qa3 qb2 (pv 3) (qa2 (qcs AL DC DD qiz (pv 3) (qk (pv 4) qz qt))) qb8) qz zz)))) qai)
   (qu (zn (qcs AL AW AX qbj (pv 3) (qk (pv 4) qz qt)))
   (zc (zj (i:=4) qg1.nd rfl (Az rfl) (qj5 (qf5 hr) (pv 1) (pv 4) (λ_ _=>rfl)))))))
   (zc (zf (pv 3)))))),?_⟩
  refine⟨qef,λq hq=>?_⟩
  obtain⟨s0,h0⟩:=alc (o:=.lst []) hq
  generalize upd H q _=H0 at s0 h0 |-
  refine⟨_,rfl,?_⟩
  refine⟨λm σ' H'=>Same H H'/\∃(is:List Nat)(o:Option Nat),σ'=[some (.str (nm nms k0)),some (.ref d),some (.ref t),some (.ref q),some (qh8 nms o)]/\H' q=some (.lst ((is.map (nm nms)).map V.str))/\Ch (bo bs) is o/\is.Nodup/\(∀j∈is,j<nms.length/\j∉os)/\(∀j,o=some j->j<nms.length)/\(is++o.toList)[0]?=some k0/\m+is.length=7,⟨7,s0,[],some k0,rfl,h0,(λi k e=>by cases e),.nil,(λj hj=>absurd hj Ax),(λj e=>by cases e;exact hk),rfl,rfl⟩,?_⟩
  rintro m σ' H' ⟨s1,is,o,rfl,h1,ch,nd,lt,lo,st,hm⟩
  cases o with
  |none=>exact⟨_,rfl,rfl,_,rfl,qd9 rfl (qbv ⟨_,rfl,k q H' is none hq s1 h1 ch nd lt st (λj z=>nomatch z)⟩)⟩
  |some j =>
   have hj:=lo j rfl
   dsimp only[qh8]
   refine⟨_,rfl,rfl,_,rfl,qgn (λz=>nomatch z) ⟨_,rfl,_,rfl,_,_,rfl,.inl (SqL.of (s1 _ _ ht)),rfl,qg3 _,_,rfl,?_⟩⟩
   show if (!inV (.str (nm nms j)) ((os.map (nm nms)).map V.str))=true then _ else _
   rw[qgo]
   cases ec:(os.map (nm nms)).contains (nm nms j) with
   |true=>exact qbv ⟨_,rfl,k q H' is (some j) hq s1 h1 ch nd lt st (λi z=>by cases z;exact(qnz wr.nd lto hj).mp ec)⟩
   |false =>
    have nj:j∉os:=λz=>by rw[(qnz wr.nd lto hj).mpr z]at ec;cases ec
    have ln:=qvu nd λk hk=>(lt k hk).1
    have sm:=wr.sm
    obtain⟨m,rfl⟩:∃f,m=f+1:=⟨m-1,by lia⟩
    have lti:∀k∈is,k<nms.length:=λk hk=>(lt k hk).1
    refine qc1 ⟨λσ' H'=>Same H H'/\∃(is:List Nat)(o:Option Nat),σ'=[some (.str (nm nms k0)),some (.ref d),some (.ref t),some (.ref q),some (qh8 nms o)]/\H' q=some (.lst ((is.map (nm nms)).map V.str))/\Ch (bo bs) is o/\is.Nodup/\(∀j∈is,j<nms.length/\j∉os)/\(∀j,o=some j->j<nms.length)/\(is++o.toList)[0]?=some k0/\m+is.length=7,λσ2 H2 z=>⟨m,CQ m,z⟩,?_⟩
    refine⟨_,rfl,_,rfl,_,_,rfl,.inl (SqL.of h1),rfl,qg3 _,_,rfl,?_⟩
    show if (inV (.str (nm nms j)) ((is.map (nm nms)).map V.str))=true then _ else _
    rw[qgo]
    cases ep:(is.map (nm nms)).contains (nm nms j) with
    |true =>
     have mj:=(qnz wr.nd lti hj).mp ep
     obtain⟨i0,g1,g2,g3⟩:=nm_ix wr.nd lti hj nd mj
     have ld:((is.map (nm nms)).map V.str).drop i0=((is.drop i0).map (nm nms)).map V.str:=by rw[Cs,Cs]
     refine qc1 ⟨_,rfl,_,rfl,.inl ⟨rfl,_,SqL.of h1⟩,_,rfl,q,_,_,i0,rfl,rfl,h1,g2,g3,_,rfl,_,_,rfl,SqL.of h1,λp5 h5=>?_⟩
     have li:i0<is.length:=(Ac.mp g1).1
     rw[qff _ _ (by rw[Ab,Ab];lia),ld]
     obtain⟨s5,e5⟩:=alc (o:=.lst (((is.drop i0).map (nm nms)).map V.str)) h5
     generalize upd H' p5 _=H5 at s5 e5 |-
     refine⟨qan (show 1<=100000 by decide),λx1 n1=>⟨x1,a.kA,p5,_,_,rfl,zd,SqL.of (zm n1 _ _ e5),T.gN,zg T.lO Ex,λd1 l1 H6 hd1 hl1 kp o1 od1 ol1=>⟨rfl,?_⟩⟩⟩
     have s6:Same H5 H6:=qbl n1 kp
     have nx1:d1≠x1:=λz=>by rw[z,zd]at hd1;cases hd1
     have nl1:l1≠x1:=λz=>by rw[z,zd]at hl1;cases hl1
     exact⟨x1,_,some d1,rfl,o1,⟨_,od1⟩,T.sK,kx x1 d1 l1 _ _ (qao (s1.trans (s5.trans s6)) ((s1.trans s5).free n1)) zd ((zh nx1).trans od1) ((zh nl1).trans ol1) (ch_rg ch nd lti g1)⟩
    |false =>
     have mj:j∉is:=λz=>by rw[(qnz wr.nd lti hj).mpr z]at ep;cases ep
     have lz:((is.map (nm nms)).map V.str).length<=90000:=by rw[Ab,Ab];lia
     refine qbv ⟨_,rfl,.inl ⟨rfl,_,SqL.of h1⟩,_,rfl,_,_,_,rfl,rfl,h1,qde lz,?_⟩
     have s2:Same H (upd H' q (.lst ((is.map (nm nms)).map V.str++[V.str (nm nms j)]))):=qao s1 hq
     have h2:upd H' q (.lst ((is.map (nm nms)).map V.str++[V.str (nm nms j)])) q=some (.lst (((is++[j]).map (nm nms)).map V.str)):=by rw[zd,Aq,Aq];rfl
     generalize upd H' q _=H2 at s2 h2 |-
     refine⟨_,rfl,_,rfl,d,_,rfl,(dic j hj) ▸ DGet.k (k:=.inr (nm nms j)) (s2 _ _ hd),?_⟩
     refine⟨s2,is++[j],bo bs j,rfl,h2,ch.snoc,?_,λi hi=>?_,λi e=>wr.ok j i e,?_,by rw[Ah,Bt];lia⟩
     .rw[AZ]
      exact⟨nd,Bg.mpr ⟨Ax,.nil⟩,λa ha b hb e=>mj (by rw[<- Ak.mp hb,<- e];exact ha)⟩
     .rcases Au.mp hi with z|z
      .exact lt i z
      .rw[Ak.mp z];exact⟨hj,nj⟩
     .have e:(is++[j])[0]?=some k0:=st
      rw[AF (by rw[Ah,Bt];lia)]
      exact e
theorem qlx (T:Txt K mg a):FnOk P w K mg base (CX1 P w) 4 a.fQ a.fH ["rules"] (spHa7 a):=by
 refine okX T.bP.fn qcg (λvs H Q E h=>?_) (λcdv A outer s H vs Q E hr h=>?_)
 .obtain⟨_,_,_,_,rfl,_⟩:=h
  all_goals rfl
 .obtain⟨pr,us,nms,bs,rfl,hp,hrl,wr,k,kx⟩:=h
  refine⟨_,(qu (zj (i:=1) qcg.nd rfl (Az rfl) qkk)
   (qu (qcn BB.leaving rfl (qb7 (pv 0)) (qam (i:=2) qcg.nd rfl (Az rfl)) (zc (qnn (qf5 hr) (pv 1) (qbd (pv 2) rfl) (qbd (pv 2) rfl) rfl)))
   (qu (zj (i:=3) qcg.nd rfl (Az rfl) (zu qz))
   (qu (qcn BB.leaving rfl (qb7 (pv 0)) (qam (i:=2) qcg.nd rfl (Az rfl)) (zc (ps_aug (i:=3) qcg.nd rfl (Az rfl) (qku rfl (by rfl) T.gH (by rfl) T.fK qei (qk (qd4 (qt0 T) (hr.mono Ex) rfl T.bR.mgx T.bR.fn.kp T.bR.bd .nil (Takes.at qbo) (qk (qbd (pv 2) rfl) (qk (pv 1) (qk (pv 3) qz qt) qt) qcv)) qz zx)) ip_ext)))
   (zc (zf (pv 3))))))),?_⟩
  refine λd hd=>?_
  obtain⟨s0,h0⟩:=alc (o:=.dK []) hd
  generalize upd H d _=H0 at s0 h0 |-
  have sm:=wr.sm
  refine⟨_,rfl,_,rfl,⟨_,SqL.of (s0 _ _ hp)⟩,qc2 (K:=K) (a:=pr) (xs:=us) (λi σ H'=>Same H H'/\∃(v2:Option V)(kvs:List (Key×V)),σ=[some (.ref pr),some (.ref d),v2,none]/\H' d=some (.dK kvs)/\kvs.length<=i/\∀k<i,qdy kvs (.inr (nm nms k))=some (qh8 nms (bo bs k)))
   ⟨s0,none,[],rfl,h0,A3 _,λk hk=>absurd hk (D6 _)⟩ (λi σ H' _ h=>SqL.of (h.1 _ _ hp)) ?_ ?_⟩
  .rintro i x σ H' hx ⟨s1,v2,kvs,rfl,h1,hl,hv⟩
   have hi:i<nms.length:=by rw[<- hrl.1];exact(Ac.mp hx).1
   obtain⟨p,dx,fs,rfl,r1,r2,r3⟩:=(hrl.2 i x hx).same s1
   refine⟨_,rfl,_,_,_,_,_,rfl,r1,T.kB,zg T.kC Ex,r3,_,rfl,_,rfl,_,_,_,_,_,rfl,r1,T.kB,zg T.kC Ex,r2,d,_,rfl,DPut.k (k:=.inr (nm nms i)) h1 (by rw[Bp];lia),?_⟩
   exact⟨qao s1 hd,_,_,rfl,zd,A0 (qf7 _ _ _) (Dy hl),qx3 wr.nd hi hv⟩
  .rintro σ H1 ⟨s1,v2,kvs,rfl,h1,hl,hv⟩
   rw[hrl.1]at hv
   refine⟨qef,λt ht=>?_⟩
   have s2:=s1.trans (zm (o:=.lst []) ht)
   have h2:=zm (o:=.lst []) ht _ _ h1
   have h3:=zd (H:=H1) (a:=t) (o:=.lst [])
   have nt:=s1.free ht
   have ntd:d≠t:=λz=>by rw[<- z,h1]at ht;cases ht
   generalize upd H1 t _=H2 at s2 h2 h3 |-
   refine⟨_,rfl,_,rfl,⟨_,SqL.of (s2 _ _ hp)⟩,qc2 (K:=K) (a:=pr) (xs:=us) (λi σ H'=>Same H H'/\H' d=some (.dK kvs)/\(∃os:List Nat,H' t=some (.lst ((os.map (nm nms)).map V.str))/\os.Nodup/\(∀j∈os,j<nms.length)/\Od (bo bs) os/\∀j,j<i->j∈os)/\∃v2:Option V,σ=[some (.ref pr),some (.ref d),v2,some (.ref t)])
    ⟨s2,h2,⟨[],h3,.nil,(λj hj=>absurd hj Ax),(λp k e=>by cases e),λj hj=>absurd hj (D6 _)⟩,_,rfl⟩ (λi σ H' _ h=>SqL.of (h.1 _ _ hp)) ?_ ?_⟩
   .rintro i x σ H' hx ⟨s1,h1,⟨os,h3,nd,lto,od,al⟩,v2,rfl⟩
    have hi:i<nms.length:=by rw[<- hrl.1];exact(Ac.mp hx).1
    obtain⟨p,dx,fs,rfl,r1,r2,r3⟩:=(hrl.2 i x hx).same s1
    refine⟨_,rfl,_,rfl,_,_,_,_,_,rfl,r1,T.kB,zg T.kC Ex,r2,_,rfl,_,rfl,_,_,_,nms,bs,os,i,rfl,h1,h3,wr,lto,hi,hv,λq1 H3 is o n1 z1 e1 ch nd1 lt1 st1 ho=>?_,kx.same s1⟩
    refine⟨_,_,rfl,SqL.of e1,λq2 hq2=>?_⟩
    have er:((is.map (nm nms)).map V.str).reverse=((is.reverse.map (nm nms)).map V.str):=by rw[List.map_reverse,List.map_reverse]
    rw[er]
    have z2:=z1.trans (zm (o:=.lst ((is.reverse.map (nm nms)).map V.str)) hq2)
    have e2:=zd (H:=H3) (a:=q2) (o:=.lst ((is.reverse.map (nm nms)).map V.str))
    generalize upd H3 q2 _=H4 at z2 e2 |-
    have lo:=qvu nd lto
    have li:=qvu nd1 λk hk=>(lt1 k hk).1
    refine⟨_,_,_,_,rfl,rfl,z2 _ _ h3,e2,qan (by rw[Ab,Ab,Ab,Ab,Dz];lia),?_⟩
    refine⟨qao (s1.trans z2) nt,(zh ntd).trans (z2 _ _ h1),⟨os++is.reverse,?_,?_,λj hj=>?_,od_app od ch ho,λj hj=>?_⟩,_,rfl⟩
    .rw[zd,Aq,Aq]
    .rw[AZ]
     exact⟨nd,List.pairwise_reverse.mpr (nd1.imp Bh),λa ha b hb e=>(lt1 b (DY.mp hb)).2 (e ▸ ha)⟩
    .rcases Au.mp hj with z|z
     .exact lto j z
     .exact(lt1 j (DY.mp z)).1
    .by_cases c:j=i
     .rw[c];exact ch_hd st1 ho
     .exact Au.mpr (.inl (al j (by lia)))
   .rintro σ H' ⟨s1,h1,⟨os,h3,nd,lto,od,al⟩,v2,rfl⟩
    rw[hrl.1]at al
    exact⟨_,rfl,k t H' os nt s1 h3 nd lto od al⟩
theorem qj2 (T:Txt K mg a):FnOk P w K mg base CX0 1 a.nX a.mJ ["sign"] spLow:=by
 refine T.bT.fn.ok qj0 (λvs H Q E h=>?_) (λcdv A outer s H vs Q E hr h=>?_)
 .obtain⟨_,rfl,_⟩:=h
  all_goals rfl
 .obtain⟨c,rfl,k⟩:=h
  refine⟨_,(zc (zf (qoc qgy qgy zt (pv 0) zt))),?_⟩
  refine⟨_,rfl,_,_,rfl,rfl,_,rfl,?_⟩
  have k':Q (.bl (low c)) H:=k
  unfold low at k'
  show if (!decide ((⟨#[c]⟩:Str).cps.toList<(Aa "a").cps.toList))=true then _ else _
  rw[le_a]
  by_cases h1:97<=c
  .rw[decide_eq_true h1,Di]at k'
   rw[decide_eq_true h1]
   refine qc1 ⟨_,_,rfl,rfl,?_⟩
   show Q (.bl (!decide ((Aa "z").cps.toList<(⟨#[c]⟩:Str).cps.toList))) H
   rw[le_z];exact k'
  .rw[decide_eq_false h1,Ct]at k'
   rw[decide_eq_false h1]
   exact qbv k'
theorem qwx (T:Txt K mg a):FnOk P w K mg base CX0 2 a.fM a.mB ["thing"] spNmG:=by
 refine T.dD.fn.ok qvr (λvs H Q E h=>?_) (λcdv A outer s H vs Q E hr h=>?_)
 .obtain⟨_,rfl,_⟩:=h
  all_goals rfl
 .obtain⟨x,rfl,hx,k⟩:=h
  refine⟨_,(qu (zo (qis (zr (zq qf9 (by rfl) T.kH qak (qk (pv 0) (qk (qd1 (v:=.ty "str") rfl T.kW qer rfl) qz qt) qt)))) (zc (zf qfx)) qai)
   (qu (zo (qis (qkg qjj qjj zb (zq qaq (by rfl) T.kG qap (qk (pv 0) qz qt)) (qbn (v:=.int 8) rfl T.pP.choose_spec ⟨_,rfl⟩))) (zc (zf qfx)) qai)
   (zc (zf (zq (qms rfl) (by rfl) T.lH qo4 (qk (qhz (N:=["sign"]) (js:=[none]) (XN:=["thing"]) (xs:=qac qj8) rfl rfl rfl Ez (qrr (pv 0)) (λ_ _ _ _ _ _=>(qam (i:=0) (show Ck (["sign"]:List Str) from by decide +kernel) rfl (Az rfl) (Dj rfl))) (λ_ _ _ _ _ _=>qds) (λ_ _ _ _ _ _=>(zp (qj2 T) (hr.mono Ex) rfl T.bT.mgx T.bT.fn.kp T.bT.bd .nil qas (qk (pv 0) qz qt)))) qz qko)))))),?_⟩
  have hz:x.length<=A5:=qan (A0 hx Ex)
  refine⟨_,rfl,_,_,_,_,rfl,.str _,qgc,_,rfl,qbv ?_⟩
  refine⟨_,rfl,_,_,rfl,⟨hz,rfl⟩,_,_,rfl,rfl,_,rfl,?_⟩
  have k0:=k H (Same.refl H)
  unfold nmB at k0
  refine qbw (λc=>?_) (λc=>?_)
  .have c':1<=(x.cps.size:Int):=of_decide_eq_true c
   refine⟨_,_,rfl,rfl,_,rfl,?_⟩
   refine qbw (λd=>?_) (λd=>?_)
   .have d1:decide ((x.cps.size:Int)<=8)=false:=by
     cases q:decide ((x.cps.size:Int)<=8) with
     |false=>rfl
     |true =>
      have d2:(!decide ((x.cps.size:Int)<=8))=true:=d
      rw[q]at d2;cases d2
    have d':=of_decide_eq_false d1
    rw[decide_eq_false (show ¬x.cps.size<=8 by lia),Dn,Ct]at k0
    exact k0
   .have d1:decide ((x.cps.size:Int)<=8)=true:=by
     cases q:decide ((x.cps.size:Int)<=8) with
     |true=>rfl
     |false =>
      have d2:¬(!decide ((x.cps.size:Int)<=8))=true:=d
      rw[q]at d2;exact absurd rfl d2
    have d':=of_decide_eq_true d1
    refine⟨_,rfl,_,rfl,?_⟩
    refine qc9 (λv=>match v with | .str y=>.bl (low (y.cps.getD 0 0))|_=>.non) (λσ'=>∃v,σ'=[v]) qkn ?_ ?_ (λv σ' H' R hv sm s1 q=>?_) qdt λp hp=>?_
    .rw[Ab,AQ];exact hz
    .exact⟨none,rfl⟩
    .obtain⟨c,hc,rfl⟩:=AM.mp hv
     obtain⟨v0,rfl⟩:=s1
     exact⟨_,rfl,c,rfl,q _ ⟨_,rfl⟩⟩
    refine⟨p,x.cps.toList.map low,rfl,SqL.of (by rw[zd,Bm,Bm];rfl),?_⟩
    have k1:=k _ (zm (o:=.lst ((x.cps.toList.map λc=>V.str ⟨#[c]⟩).map λv=>match v with | .str y=>.bl (low (y.cps.getD 0 0))|_=>.non)) hp)
    unfold nmB at k1
    rw[decide_eq_true (show 1<=x.cps.size by lia),decide_eq_true (show x.cps.size<=8 by lia),Di,Di]at k1
    show Q (.bl ((x.cps.toList.map low).all λb=>b)) _
    rw[CG]
    exact k1
  .have c':¬1<=(x.cps.size:Int):=λz=>c (decide_eq_true z)
   rw[decide_eq_false (show ¬1<=x.cps.size by lia),Ct,Ct]at k0
   exact⟨_,rfl,qc1 k0⟩
theorem qq3 (T:Txt K mg a):FnOk P w K mg base (CX1 P w) 5 a.fF a.nR ["self", "rules"] (spBIG a):=by
 refine okX T.lI.fn qk4 (λvs H Q E h=>?_) (λcdv A outer s H vs Q E hr h=>?_)
 .obtain⟨_,_,_,_,_,rfl,_⟩:=h
  all_goals rfl
 .obtain⟨x,dx,pr,rs,As,rfl,hx,hp,ln,nn,l6,bok,ru,k,kx⟩:=h
  refine⟨_,(qu (qdl (pv 0) (qd4 (qlx T) (hr.mono Ex) rfl T.bP.mgx T.bP.fn.kp T.bP.bd .nil (Takes.at qbo) (qk (pv 1) qz qt)) rfl)
   (qu (qdl (pv 0) qkk rfl)
   (zc (qcn BB.leaving rfl (qb7 (pv 1)) (qam (i:=2) qk4.nd rfl (Az rfl)) (zc (qnn (qf5 hr) (qbd (pv 0) rfl) (qbd (pv 2) rfl) (pv 2) rfl)))))),?_⟩
  have wr:=wr_of nn l6
  have sm:=l6
  have hrl:=rus_of ln bok ru
  refine⟨_,rfl,_,_,_,_,rfl,hp,hrl,wr,λpo H1 os no s1 e1 nd lto od al=>?_,kx⟩
  have x1:=s1 _ _ hx
  refine⟨_,rfl,_,_,_,_,rfl,x1,T.gT,zg T.bH Ex,Ex,?_⟩
  rw[put1]
  have npo:po≠x:=λz=>by rw[z,hx]at no;cases no
  have b2:SameBut x H (upd H1 x (.ins a.kJ dx [(Aa "order",.ref po)])):=(SameBut.of s1).set
  have x2:=zd (H:=H1) (a:=x) (o:=.ins a.kJ dx [(Aa "order",.ref po)])
  have o2:=(zh (o:=.ins a.kJ dx [(Aa "order",.ref po)]) npo).trans e1
  generalize upd H1 x _=H2 at b2 x2 o2 |-
  refine λd hd=>?_
  obtain⟨s3,d3⟩:=alc (o:=.dK []) hd
  have x3:=s3 _ _ x2
  have ndx:d≠x:=λz=>by rw[z,x2]at hd;cases hd
  have ndo:po≠d:=λz=>by rw[<- z,o2]at hd;cases hd
  have ndH:=b2.free ndx hd
  refine⟨_,rfl,_,_,_,_,rfl,x3,T.gT,zg T.bH Ex,(show 1<1000 by decide),?_⟩
  rw[put2 _ _ Ez]
  have b4:SameBut x H (upd (upd H2 d (.dK [])) x (.ins a.kJ dx (bfs po d))):=(b2.trans (SameBut.of s3)).set
  have x4:=zd (H:=upd H2 d (.dK [])) (a:=x) (o:=.ins a.kJ dx (bfs po d))
  have o4:=(zh (o:=.ins a.kJ dx (bfs po d)) npo).trans (s3 _ _ o2)
  have d4:=(zh (o:=.ins a.kJ dx (bfs po d)) ndx).trans d3
  generalize upd (upd H2 d (.dK [])) x _=H4 at b4 x4 o4 d4 |-
  have npx:pr≠x:=λz=>by rw[z,hx]at hp;cases hp
  have rule:∀{H':Hp}{i:Nat}{y:V},SameBut x H H'->(As.map λA=>V.ref A.p)[i]?=some y->∃r A,rs[i]?=some r/\As[i]?=some A/\y=.ref A.p/\∃v,H' A.p=some (.ins a.k7 A.dx (rlR A r v)):=λ{H' i y} b e=>by
   rw[Al]at e
   cases eA:As[i]? with
   |none=>rw[eA]at e;cases e
   |some A =>
    rw[eA]at e
    cases e
    have lj:=(Ac.mp eA).1
    rw[ln]at lj
    obtain⟨v,us,h⟩:=ru _ _ A (Ae lj) eA
    refine⟨_,A,Ae lj,rfl,rfl,v,b _ _ (λz=>?_) h.hx⟩
    have h1:=h.hx
    rw[z,hx]at h1
    injection h1 with h1
    injection h1 with _ _ h5
    cases h5
  refine⟨_,rfl,_,rfl,⟨_,SqL.of (b4 _ _ npx hp)⟩,qc2 (K:=K) (a:=pr) (xs:=As.map λA=>.ref A.p) (λi σ H'=>SameBut x H H'/\H' x=some (.ins a.kJ dx (bfs po d))/\H' po=some (.lst ((os.map (nm (rs.map RR.name))).map V.str))/\H' d=some (.dK (dcR (rs.take i) (As.take i)))/\∃v2:Option V,σ=[some (.ref x),some (.ref pr),v2])
   ⟨b4,x4,o4,(by rw[DO,DO];exact d4),none,rfl⟩ (λi σ H' _ h=>SqL.of (h.1 _ _ npx hp)) ?_ ?_⟩
  .rintro i y σ H' hy ⟨b5,x5,o5,d5,v2,rfl⟩
   obtain⟨r,A,hr',hA,rfl,v,r1⟩:=rule b5 hy
   have hi:i<rs.length:=(Ac.mp hr').1
   have lt:(As.take i).length=(rs.take i).length:=by rw[Av,Av,ln]
   have ep:qfn (dcR (rs.take i) (As.take i)) (.inr r.name) (.ref A.p)=dcR (rs.take (i+1)) (As.take (i+1)):=by
    rw[qbb hr',qbb hA,qlb r A lt]
    refine qki _ ?_
    rw[qg5 _ lt,qek.mpr]
    .rfl
    .intro z
     rw[BO]at z
     have nd2:=nn
     rw[<- AK i (rs.map RR.name),AZ]at nd2
     refine nd2.2.2 _ z r.name ?_ rfl
     rw[<- Cs,Cp hi,A4]
     rw[Ae hi]at hr'
     cases hr'
     exact Am
   refine⟨_,rfl,_,rfl,_,_,_,_,_,rfl,x5,T.gT,zg T.bH Ex,rfl,_,rfl,_,_,_,_,_,rfl,r1,T.kB,zg T.kC Ex,rfl,d,_,rfl,DPut.k (k:=.inr r.name) d5 (by rw[Bp,qka lt,Av];lia),?_⟩
   rw[ep]
   exact⟨λb o n e=>by rw[zh (qah e ndH)];exact b5 b o n e,(zh ndx.symm).trans x5,(zh ndo).trans o5,zd,_,rfl⟩
  .rintro σ H' ⟨b5,x5,o5,d5,v2,rfl⟩
   rw[Ab,ln,B0,By (BZ ln)]at d5
   rw[Ab]at lto
   exact k H' os b5 ⟨dx,po,d,x5,o5,d5⟩ ⟨nd,lto,od,by rw[Ab]at al;exact al⟩
theorem qt1 (T:Txt K mg a):FnOk P w K mg base CX0 1 a.hV a.nP ["text"] spLnG:=by
 refine T.dG.fn.ok qth (λvs H Q E h=>?_) (λcdv A outer s H vs Q E hr h=>?_)
 .obtain⟨_,rfl,_⟩:=h
  all_goals rfl
 .obtain⟨ls,rfl,hl,k⟩:=h
  refine⟨_,(zc (zf (qd3 (qx0 (pv 0)) (qcs BS PySem.F.slot_str_split PySem.F.type_str_split qox (pv 0) (qk zt qz ze)) (zu qz)))),?_⟩
  have ll:(qev ls).length<=20100:=qv6 hl
  refine⟨_,rfl,_,rfl,qan (by lia),?_⟩
  by_cases c:ls=[]
  .subst c
   refine iteF' Ez ⟨qef,λq hq=>?_⟩
   exact k q _ hq (zm hq) zd
  .have es:Ce (qev ls) (wS "\n")=ls:=by rw[newl];exact qhj 10 c λp hp=>(hl.c p hp).2
   have eb:=qjn (qev ls) 10
   rw[<- newl]at eb
   have hn:=hl.n
   refine iteT' (decide_eq_true (qyi hl c)) ⟨_,rfl,rfl,_,_,rfl,rfl,rfl,qan (by lia),qan (by rw[es];lia),qan (A0 eb (by lia)),λp hp=>?_⟩
   rw[es]
   exact k p _ hp (zm hp) zd
theorem qt2 (T:Txt K mg a):FnOk P w K mg base CX0 4 a.lJ a.mR ["word", "asked"] spValG:=by
 refine T.bX.fn.ok qti (λvs H Q E h=>?_) (λcdv A outer s H vs Q E hr h=>?_)
 .obtain⟨_,_,rfl,_⟩:=h
  all_goals rfl
 .obtain⟨w1,q,rfl,ok,hw,k⟩:=h
  refine⟨_,(qu (zo (zr (zq qf9 (by rfl) T.kH qak (qk (pv 1) (qk (qd1 (v:=.ty "int") rfl T.gR qgl rfl) qz qt) qt))) (zc (zf (zp (qww T) (hr.mono Ex) rfl T.gU.mgx T.gU.fn.kp T.gU.bd .nil qas (qk (pv 0) (qk (pv 1) qz qt) qt)))) qai)
   (qu (zo (zi qaz (pv 1) zt (qae _)) (zc (zf (qd3 (zr (zp (qwx T) (hr.mono Ex) rfl T.dD.mgx T.dD.fn.kp T.dD.bd .nil qas (qk (pv 0) qz qt))) (pv 0) qbt))) qai)
   (qu (zo (zi qaz (pv 1) zt (qae _)) (zc (zf (qd3 (zi qfe (pv 0) (qbn (v:=.ref a.dY) rfl T.tW rfl) (by with_unfolding_all rfl)) (pv 0) qbt))) qai)
   (zc (zf (qd3 (zi qaz (pv 0) (pv 1) (qae _)) (pv 0) qbt)))))),?_⟩
  cases q with
  |num m =>
   obtain⟨m1,m2⟩:=ok
   unfold qdh at k
   dsimp only at k
   refine⟨_,rfl,_,_,_,_,rfl,.int _,qf8,_,rfl,qc1 ⟨_,rfl,_,rfl,_,_,rfl,A0 hw Ex,m1,m2,λe H1 s1=>?_,λe H1 s1=>?_⟩⟩
   .have:=k H1 s1
    rw[if_pos e]at this
    exact this
   .have:=k H1 s1
    rw[if_neg (by rw[e];decide)]at this
    exact this
  |name =>
   unfold qdh at k
   dsimp only at k
   refine⟨_,rfl,_,_,_,_,rfl,.str _,qgd,_,rfl,qbv ⟨_,rfl,rfl,_,rfl,qfb rfl ?_⟩⟩
   refine⟨_,rfl,_,rfl,hw,λH1 s1=>⟨_,rfl,?_⟩⟩
   have:=k H1 s1
   refine qbw (λc=>?_) (λc=>?_)
   .rw[if_pos c]at this
    exact⟨_,rfl,this⟩
   .rw[if_neg c]at this
    exact this
  |unit =>
   unfold qdh at k
   dsimp only at k
   refine⟨_,rfl,_,_,_,_,rfl,.str _,qgd,_,rfl,qbv ⟨_,rfl,rfl,_,rfl,qa0 Ez ⟨_,rfl,rfl,_,rfl,qfb rfl ⟨_,rfl,_,_,rfl,.inr (T.sL H),rfl,rfl,_,rfl,?_⟩⟩⟩⟩
   show if inV (.str w1) (qci.map V.str)=true then _ else _
   rw[qgo]
   have:=k H (Same.refl H)
   refine qbw (λc=>?_) (λc=>?_)
   .rw[if_pos c]at this
    exact⟨_,rfl,this⟩
   .rw[if_neg c]at this
    exact this
  |lit c =>
   obtain⟨h1,h2⟩:=ok
   unfold qdh at k
   dsimp only at k
   refine⟨_,rfl,_,_,_,_,rfl,.str _,qgd,_,rfl,qbv ⟨_,rfl,rfl,_,rfl,qa0 (λz=>h1 (V.str.inj z)) ⟨_,rfl,rfl,_,rfl,qa0 (λz=>h2 (V.str.inj z)) ?_⟩⟩⟩
   have:=k H (Same.refl H)
   refine⟨_,rfl,_,rfl,rfl,_,rfl,qbw (λc1=>?_) (λc1=>?_)⟩
   .rw[if_pos (V.str.inj (of_decide_eq_true c1))]at this
    exact⟨_,rfl,this⟩
   .rw[if_neg (λz=>c1 (decide_eq_true (by rw[z];rfl)))]at this
    exact this
theorem qyw (T:Txt K mg a):FnOk P w K mg base CX0 5 a.nY a.fR ["line"] spRowG:=by
 refine T.gW.fn.ok qj9 (λvs H Q E h=>?_) (λcdv A outer s H vs Q E hr h=>?_)
 .obtain⟨_,rfl,_⟩:=h
  all_goals rfl
 .obtain⟨l,rfl,hl,k,kn⟩:=h
  refine⟨_,(qu (zj (i:=1) qj9.nd rfl (Az rfl) (qcs BS PySem.F.slot_str_split PySem.F.type_str_split qox (pv 0) (qk zt qz ze)))
   (qu (qcn B1 rfl (pi_tup (qbn (v:=.ref a.bW) rfl T.tS rfl)) (qam (i:=2) qj9.nd rfl (Az rfl)) (zc (zo (zi qaz (zq qaq (by rfl) T.kG qap (qk (pv 1) qz qt)) (zq qaq (by rfl) T.kG qap (qk (pv 2) qz qt)) (qae _)) (qu (qdm (i:=3) qj9.nd rfl rfl (N:=["word", "asked"]) (js:=[none,none]) (XN:=["line", "words", "form", "row"]) (xs:=qac qnv) rfl rfl rfl Ez (pi_zip rfl T.rW (qk (pv 1) (qk (pv 2) qz qt) qt)) (λ_ _ _ _ _ _=>(qxr (K:=K) rfl (n:=2) rfl (qa8 (qam (i:=0) (show Ck (["word", "asked"]:List Str) from by decide +kernel) rfl (Az rfl) (Dj rfl)) (qa8 (qam (i:=1) (show Ck (["word", "asked"]:List Str) from by decide +kernel) rfl (Az rfl) (Dj rfl)) qe2)))) (λ_ _ _ _ _ _=>qds) (λ_ _ _ _ _ _=>(zp (qt2 T) (hr.mono Ex) rfl T.bX.mgx T.bX.fn.kp T.bX.bd .nil qas (qk (pv 0) (qk (pv 1) qz qt) qt))))
   (zc (zo (zi qhw qbt (pv 3) (by with_unfolding_all rfl)) (zc (zf (pv 3))) qai))) qai)))
   (zc (zf qbt)))),?_⟩
  obtain⟨sl1,sl2⟩:=qs5 l 32
  rw[<- qr2]at sl1 sl2
  have eb:=qjn l 32
  rw[<- qr2]at eb
  refine⟨_,rfl,rfl,_,_,rfl,rfl,rfl,qan (A0 hl Ex),qan (A0 sl1 (by lia)),qan (A0 eb (by lia)),λp hp=>?_⟩
  generalize Ce l (wS " ")=ws at sl1 sl2 k kn hp |-
  obtain⟨s1,e1⟩:=alc (o:=.lst (ws.map V.str)) hp
  generalize upd H p _=H1 at s1 e1 |-
  have ft:∀(i:Nat)(v:V),[.ref a.bJ,.ref a.gX,.ref a.bQ,.ref a.bO,.ref a.bV,.ref a.bU,.ref a.dF][i]?=some v->∃(f:List Ask)(t:Addr),qla[i]?=some f/\v=.ref t/\∀H,SqT K H t (f.map askV):=λi v e=>by
   have hi:i<7:=(Ac.mp e).1
   rcases (by lia:i=0\/i=1\/i=2\/i=3\/i=4\/i=5\/i=6) with rfl|rfl|rfl|rfl|rfl|rfl|rfl
   .cases e;exact⟨_,_,rfl,rfl,λH=>T.rR H⟩
   .cases e;exact⟨_,_,rfl,rfl,λH=>T.pN H⟩
   .cases e;exact⟨_,_,rfl,rfl,λH=>T.sX H⟩
   .cases e;exact⟨_,_,rfl,rfl,λH=>T.pW H⟩
   .cases e;exact⟨_,_,rfl,rfl,λH=>T.rU H⟩
   .cases e;exact⟨_,_,rfl,rfl,λH=>T.rO H⟩
   .cases e;exact⟨_,_,rfl,rfl,λH=>T.xB H⟩
  refine⟨_,rfl,⟨_,T.lZ _⟩,qw1 (K:=K) (a:=a.bW) (xs:=[.ref a.bJ,.ref a.gX,.ref a.bQ,.ref a.bO,.ref a.bV,.ref a.bU,.ref a.dF]) (λi σ H'=>Same H1 H'/\(∀j f,j<i->qla[j]?=some f->qcl ws f=none)/\∃v2 v3:Option V,σ=[some (.str l),some (.ref p),v2,v3]) ⟨Same.refl H1,λj f hj=>absurd hj (D6 _),none,none,rfl⟩ (λi σ H' _ h=>T.lZ _) ?_ ?_⟩
  .rintro i v σ H' hv ⟨sH,al,v2,v3,rfl⟩
   obtain⟨f,t,hf,rfl,ht⟩:=ft i v hv
   have e2:=sH _ _ e1
   have next:qcl ws f=none->∀j g,j<i+1->qla[j]?=some g->qcl ws g=none:=λe j g hj hg=>by
    by_cases c:j=i
    .rw[c,hf]at hg;cases hg;exact e
    .exact al j g (by lia) hg
   refine⟨_,rfl,_,_,rfl,.inl ⟨_,SqL.of e2,rfl⟩,_,rfl,_,_,rfl,.inr ⟨_,ht _,rfl⟩,rfl,_,rfl,?_⟩
   rw[Ab,Ab]
   by_cases cl:ws.length=f.length
   .refine qfb (by rw[cl]) ?_
    refine⟨_,rfl,_,rfl,_,_,_,_,rfl,e2,ht _,qvm (zsG ws f) (λσ'=>∃v v',σ'=[v,v']) (SqL.of e2) (ht _) (by rw[Ab,Ab,cl]) (by rw[qyc cl,Ab]) (qan (by rw[Ab];lia)) ⟨none,none,rfl⟩ (λj y av z t' σ' J RR h1 h2 h3 sm ht' s4 qq=>?_) (gk_tup λxs σ' H' RR RR' hh z=>?_) λq H2 nq s2 eq2=>?_⟩
    .obtain⟨v,v',rfl⟩:=s4
     rw[Al]at h1 h2
     cases ew:ws[j]? with
     |none=>rw[ew]at h1;cases h1
     |some w1 =>
      cases ef:f[j]? with
      |none=>rw[ef]at h2;cases h2
      |some qa =>
       rw[ew]at h1
       rw[ef]at h2
       cases h1
       cases h2
       have hz:z=(qdh w1 qa).getD .non:=by
        unfold zsG at h3
        rw[Al,show (ws.zip f)[j]?=some (w1,qa) from List.getElem?_zip_eq_some.mpr ⟨ew,ef⟩]at h3
        exact(AD h3).symm
       subst hz
       exact⟨_,_,rfl,SqT.of ht',rfl,_,_,rfl,_,_,rfl,rfl,_,rfl,_,rfl,w1,qa,rfl,qvy f (Ai hf) qa (Ai ef),A0 (sl2 _ (Ai ew)) (by lia),λJ2 s2=>qq _ _ ⟨_,_,rfl⟩ s2⟩
    .obtain⟨x1,y1,e1,x2,y2,e2,z⟩:=z
     exact⟨x1,y1,e1,x2,y2,e2,⟨z.1,hh _ _ z.2⟩⟩
    .refine⟨_,rfl,_,_,rfl,.inl (SqL.of eq2),rfl,qvx ws f,_,rfl,?_⟩
     have ev:=qr3 cl
     show if (!inV .non (zsG ws f))=true then _ else _
     cases ec:inV .non (zsG ws f) with
     |true =>
      rw[ec]at ev
      exact qbv ⟨sH.trans s2,next ev,_,_,rfl⟩
     |false =>
      rw[ec]at ev
      have er:qh9 ws=some (zsG ws f):=by
       unfold qh9
       exact qr4 hf ev al
      exact qc1 ⟨_,rfl,k q H2 _ ((s1.trans sH).free nq) ((s1.trans sH).trans s2) er eq2⟩
   .exact qa0 (λz=>cl (Eb (V.int.inj z))) ⟨sH,next (qax cl),_,_,rfl⟩
  .rintro σ H' ⟨sH,al,v2,v3,rfl⟩
   have er:qh9 ws=none:=by
    unfold qh9
    rw[List.findSome?_eq_none_iff]
    intro f hf
    obtain⟨j,hj⟩:=Bb hf
    exact al j f (by have:=(Ac.mp hj).1;exact this) hj
   exact kn er H' (s1.trans sH)
theorem qq4 (T:Txt K mg a):FnOk P w K mg base CX0 1 a.fG a.fB ["self", "name", "who", "owes", "opens", "base", "many", "unit", "still"] (spRlG a):=by
 refine T.tQ.fn.ok qqm (λvs H Q E h=>?_) (λcdv A outer s H vs Q E hr h=>?_)
 .obtain⟨_,_,_,_,_,_,_,_,_,_,rfl,_⟩:=h
  all_goals rfl
 .obtain⟨x,dx,vn,vw,vo,vp,vb,vm,vu,vs',rfl,hx,k⟩:=h
  refine⟨_,(qu (qdl (pv 0) (pv 1) rfl)
   (qu (qdl (pv 0) (pv 2) rfl)
   (qu (qdl (pv 0) (pv 3) rfl)
   (qu (qdl (pv 0) (pv 4) rfl)
   (qu (qdl (pv 0) (pv 5) rfl)
   (qu (qdl (pv 0) (pv 6) rfl)
   (qu (qdl (pv 0) (pv 7) rfl)
   (qu (qdl (pv 0) (pv 8) rfl)
   (qu (qdl (pv 0) (zu qz) rfl)
   (qu (qdl (pv 0) (zu qz) rfl)
   (qu (qdl (pv 0) (zu qz) rfl)
   (zc (qdl (pv 0) (zu qz) rfl))))))))))))),?_⟩
  have b0:SameBut x H H:=λ_ _ _ e=>e
  have x0:=hx
  refine⟨_,rfl,_,rfl,_,_,_,_,rfl,x0,T.kB,zg T.kC Ex,(show 0<1000 by decide),?_⟩
  rw[show qc3 (Aa "name") vn []=(rq1 vn) by with_unfolding_all rfl]
  have b1:SameBut x H (upd H x (.ins a.k7 dx (rq1 vn))):=b0.set
  have x1:=zd (H:=H) (a:=x) (o:=.ins a.k7 dx (rq1 vn))
  generalize upd H x _=H1 at b1 x1 |-
  refine⟨_,rfl,_,rfl,_,_,_,_,rfl,x1,T.kB,zg T.kC Ex,(show 1<1000 by decide),?_⟩
  rw[show qc3 (Aa "who") vw (rq1 vn)=(rq2 vn vw) by with_unfolding_all rfl]
  have b2:SameBut x H (upd H1 x (.ins a.k7 dx (rq2 vn vw))):=b1.set
  have x2:=zd (H:=H1) (a:=x) (o:=.ins a.k7 dx (rq2 vn vw))
  generalize upd H1 x _=H2 at b2 x2 |-
  refine⟨_,rfl,_,rfl,_,_,_,_,rfl,x2,T.kB,zg T.kC Ex,(show 2<1000 by decide),?_⟩
  rw[show qc3 (Aa "owes") vo (rq2 vn vw)=(rq3 vn vw vo) by with_unfolding_all rfl]
  have b3:SameBut x H (upd H2 x (.ins a.k7 dx (rq3 vn vw vo))):=b2.set
  have x3:=zd (H:=H2) (a:=x) (o:=.ins a.k7 dx (rq3 vn vw vo))
  generalize upd H2 x _=H3 at b3 x3 |-
  refine⟨_,rfl,_,rfl,_,_,_,_,rfl,x3,T.kB,zg T.kC Ex,(show 3<1000 by decide),?_⟩
  rw[show qc3 (Aa "opens") vp (rq3 vn vw vo)=(rq4 vn vw vo vp) by with_unfolding_all rfl]
  have b4:SameBut x H (upd H3 x (.ins a.k7 dx (rq4 vn vw vo vp))):=b3.set
  have x4:=zd (H:=H3) (a:=x) (o:=.ins a.k7 dx (rq4 vn vw vo vp))
  generalize upd H3 x _=H4 at b4 x4 |-
  refine⟨_,rfl,_,rfl,_,_,_,_,rfl,x4,T.kB,zg T.kC Ex,(show 4<1000 by decide),?_⟩
  rw[show qc3 (Aa "base") vb (rq4 vn vw vo vp)=(rq5 vn vw vo vp vb) by with_unfolding_all rfl]
  have b5:SameBut x H (upd H4 x (.ins a.k7 dx (rq5 vn vw vo vp vb))):=b4.set
  have x5:=zd (H:=H4) (a:=x) (o:=.ins a.k7 dx (rq5 vn vw vo vp vb))
  generalize upd H4 x _=H5 at b5 x5 |-
  refine⟨_,rfl,_,rfl,_,_,_,_,rfl,x5,T.kB,zg T.kC Ex,(show 5<1000 by decide),?_⟩
  rw[show qc3 (Aa "many") vm (rq5 vn vw vo vp vb)=(rq6 vn vw vo vp vb vm) by with_unfolding_all rfl]
  have b6:SameBut x H (upd H5 x (.ins a.k7 dx (rq6 vn vw vo vp vb vm))):=b5.set
  have x6:=zd (H:=H5) (a:=x) (o:=.ins a.k7 dx (rq6 vn vw vo vp vb vm))
  generalize upd H5 x _=H6 at b6 x6 |-
  refine⟨_,rfl,_,rfl,_,_,_,_,rfl,x6,T.kB,zg T.kC Ex,(show 6<1000 by decide),?_⟩
  rw[show qc3 (Aa "unit") vu (rq6 vn vw vo vp vb vm)=(rq7 vn vw vo vp vb vm vu) by with_unfolding_all rfl]
  have b7:SameBut x H (upd H6 x (.ins a.k7 dx (rq7 vn vw vo vp vb vm vu))):=b6.set
  have x7:=zd (H:=H6) (a:=x) (o:=.ins a.k7 dx (rq7 vn vw vo vp vb vm vu))
  generalize upd H6 x _=H7 at b7 x7 |-
  refine⟨_,rfl,_,rfl,_,_,_,_,rfl,x7,T.kB,zg T.kC Ex,(show 7<1000 by decide),?_⟩
  rw[show qc3 (Aa "still") vs' (rq7 vn vw vo vp vb vm vu)=(rq8 vn vw vo vp vb vm vu vs') by with_unfolding_all rfl]
  have b8:SameBut x H (upd H7 x (.ins a.k7 dx (rq8 vn vw vo vp vb vm vu vs'))):=b7.set
  have x8:=zd (H:=H7) (a:=x) (o:=.ins a.k7 dx (rq8 vn vw vo vp vb vm vu vs'))
  generalize upd H7 x _=H8 at b8 x8 |-
  refine⟨qef,λpe npe=>?_⟩
  obtain⟨s8,epe⟩:=alc (o:=.lst []) npe
  have x8':=s8 _ _ x8
  have nepe:pe≠x:=λz=>by rw[z,x8]at npe;cases npe
  have fpe:H pe=none:=b8.free nepe npe
  have b8':=b8.trans (SameBut.of s8)
  generalize upd H8 pe _=J8 at s8 epe x8' b8'  |-
  refine⟨_,rfl,_,_,_,_,rfl,x8',T.kB,zg T.kC Ex,(show 8<1000 by decide),?_⟩
  rw[show qc3 (Aa "ends") (.ref pe) (rq8 vn vw vo vp vb vm vu vs')=(rq9 vn vw vo vp vb vm vu vs' (.ref pe)) by with_unfolding_all rfl]
  have b9:SameBut x H (upd J8 x (.ins a.k7 dx (rq9 vn vw vo vp vb vm vu vs' (.ref pe)))):=b8'.set
  have x9:=zd (H:=J8) (a:=x) (o:=.ins a.k7 dx (rq9 vn vw vo vp vb vm vu vs' (.ref pe)))
  have epe:=(zh (o:=.ins a.k7 dx (rq9 vn vw vo vp vb vm vu vs' (.ref pe))) nepe).trans epe
  generalize upd J8 x _=H9 at b9 x9 epe  |-
  refine⟨qef,λpa npa=>?_⟩
  obtain⟨s9,epa⟩:=alc (o:=.lst []) npa
  have x9':=s9 _ _ x9
  have nepa:pa≠x:=λz=>by rw[z,x9]at npa;cases npa
  have fpa:H pa=none:=b9.free nepa npa
  have dpepa:=qah epe npa
  have epe:=s9 _ _ epe
  have b9':=b9.trans (SameBut.of s9)
  generalize upd H9 pa _=J9 at s9 epa x9' b9' epe |-
  refine⟨_,rfl,_,_,_,_,rfl,x9',T.kB,zg T.kC Ex,(show 9<1000 by decide),?_⟩
  rw[show qc3 (Aa "anew") (.ref pa) (rq9 vn vw vo vp vb vm vu vs' (.ref pe))=(qqo vn vw vo vp vb vm vu vs' (.ref pe) (.ref pa)) by with_unfolding_all rfl]
  have b10:SameBut x H (upd J9 x (.ins a.k7 dx (qqo vn vw vo vp vb vm vu vs' (.ref pe) (.ref pa)))):=b9'.set
  have x10:=zd (H:=J9) (a:=x) (o:=.ins a.k7 dx (qqo vn vw vo vp vb vm vu vs' (.ref pe) (.ref pa)))
  have epa:=(zh (o:=.ins a.k7 dx (qqo vn vw vo vp vb vm vu vs' (.ref pe) (.ref pa))) nepa).trans epa
  have epe:=(zh (o:=.ins a.k7 dx (qqo vn vw vo vp vb vm vu vs' (.ref pe) (.ref pa))) nepe).trans epe
  generalize upd J9 x _=H10 at b10 x10 epa epe |-
  refine⟨qef,λpl npl=>?_⟩
  obtain⟨s10,epl⟩:=alc (o:=.lst []) npl
  have x10':=s10 _ _ x10
  have nepl:pl≠x:=λz=>by rw[z,x10]at npl;cases npl
  have fpl:H pl=none:=b10.free nepl npl
  have dpepl:=qah epe npl
  have dpapl:=qah epa npl
  have epe:=s10 _ _ epe
  have epa:=s10 _ _ epa
  have b10':=b10.trans (SameBut.of s10)
  generalize upd H10 pl _=J10 at s10 epl x10' b10' epe epa |-
  refine⟨_,rfl,_,_,_,_,rfl,x10',T.kB,zg T.kC Ex,(show 10<1000 by decide),?_⟩
  rw[show qc3 (Aa "longer") (.ref pl) (qqo vn vw vo vp vb vm vu vs' (.ref pe) (.ref pa))=(qo9 vn vw vo vp vb vm vu vs' (.ref pe) (.ref pa) (.ref pl)) by with_unfolding_all rfl]
  have b11:SameBut x H (upd J10 x (.ins a.k7 dx (qo9 vn vw vo vp vb vm vu vs' (.ref pe) (.ref pa) (.ref pl)))):=b10'.set
  have x11:=zd (H:=J10) (a:=x) (o:=.ins a.k7 dx (qo9 vn vw vo vp vb vm vu vs' (.ref pe) (.ref pa) (.ref pl)))
  have epl:=(zh (o:=.ins a.k7 dx (qo9 vn vw vo vp vb vm vu vs' (.ref pe) (.ref pa) (.ref pl))) nepl).trans epl
  have epe:=(zh (o:=.ins a.k7 dx (qo9 vn vw vo vp vb vm vu vs' (.ref pe) (.ref pa) (.ref pl))) nepe).trans epe
  have epa:=(zh (o:=.ins a.k7 dx (qo9 vn vw vo vp vb vm vu vs' (.ref pe) (.ref pa) (.ref pl))) nepa).trans epa
  generalize upd J10 x _=H11 at b11 x11 epl epe epa |-
  refine⟨qef,λpy npy=>?_⟩
  obtain⟨s11,epy⟩:=alc (o:=.lst []) npy
  have x11':=s11 _ _ x11
  have nepy:py≠x:=λz=>by rw[z,x11]at npy;cases npy
  have fpy:H py=none:=b11.free nepy npy
  have dpepy:=qah epe npy
  have dpapy:=qah epa npy
  have dplpy:=qah epl npy
  have epe:=s11 _ _ epe
  have epa:=s11 _ _ epa
  have epl:=s11 _ _ epl
  have b11':=b11.trans (SameBut.of s11)
  generalize upd H11 py _=J11 at s11 epy x11' b11' epe epa epl |-
  refine⟨_,rfl,_,_,_,_,rfl,x11',T.kB,zg T.kC Ex,(show 11<1000 by decide),?_⟩
  rw[show qc3 (Aa "yields") (.ref py) (qo9 vn vw vo vp vb vm vu vs' (.ref pe) (.ref pa) (.ref pl))=(qqp vn vw vo vp vb vm vu vs' (.ref pe) (.ref pa) (.ref pl) (.ref py)) by with_unfolding_all rfl]
  have b12:SameBut x H (upd J11 x (.ins a.k7 dx (qqp vn vw vo vp vb vm vu vs' (.ref pe) (.ref pa) (.ref pl) (.ref py)))):=b11'.set
  have x12:=zd (H:=J11) (a:=x) (o:=.ins a.k7 dx (qqp vn vw vo vp vb vm vu vs' (.ref pe) (.ref pa) (.ref pl) (.ref py)))
  have epy:=(zh (o:=.ins a.k7 dx (qqp vn vw vo vp vb vm vu vs' (.ref pe) (.ref pa) (.ref pl) (.ref py))) nepy).trans epy
  have epe:=(zh (o:=.ins a.k7 dx (qqp vn vw vo vp vb vm vu vs' (.ref pe) (.ref pa) (.ref pl) (.ref py))) nepe).trans epe
  have epa:=(zh (o:=.ins a.k7 dx (qqp vn vw vo vp vb vm vu vs' (.ref pe) (.ref pa) (.ref pl) (.ref py))) nepa).trans epa
  have epl:=(zh (o:=.ins a.k7 dx (qqp vn vw vo vp vb vm vu vs' (.ref pe) (.ref pa) (.ref pl) (.ref py))) nepl).trans epl
  generalize upd J11 x _=H12 at b12 x12 epy epe epa epl |-
  refine k H12 pe pa pl py b12 fpe fpa fpl fpy x12 epe epa epl epy ?_
  simp only[Bg,An,Ax,or_false,not_or]
  exact⟨⟨nepe.symm,nepa.symm,nepl.symm,nepy.symm⟩,⟨dpepa,dpepl,dpepy⟩,⟨dpapl,dpapy⟩,dplpy,not_false,.nil⟩
theorem qpu (T:Txt K mg a):FnOk P w K mg base CX0 1 a.fC a.fX ["self", "name"] (qyb K "name"):=by
 refine T.dS.fn.ok qo6 (λvs H Q E h=>?_) (λcdv A outer s H vs Q E hr h=>?_)
 .obtain⟨_,_,_,_,rfl,_⟩:=h
  all_goals rfl
 .obtain⟨x,C,y,ini,rfl,hx,xa,no,k⟩:=h
  refine⟨_,(qu (zn (qgf T.gQ rfl T.kM (qk (pv 0) (qk (pv 1) qz qt) qt)))
   (zc (qh2 (pv 0) (pv 1) rfl))),?_⟩
  refine⟨_,rfl,_,rfl,x,C,none,[y],ini,rfl,hx,xa.xc,qan (show 1<=100000 by decide),?_⟩
  refine⟨_,rfl,_,rfl,x,C,true,rfl,xa.set no,.inl ⟨hx,λdx hd=>?_⟩⟩
  have ne:dx≠x:=λz=>by rw[z,hx]at hd;cases hd
  exact k dx _ hd (λb o hb e=>by rw[zh hb,zh (qah e hd)];exact e) zd (by rw[zh ne];exact zd)
theorem qgx (T:Txt K mg a):FnOk P w K mg base CX0 1 a.dP a.fZ ["self", "at"] (qyb K "at"):=by
 refine T.gA.fn.ok qo7 (λvs H Q E h=>?_) (λcdv A outer s H vs Q E hr h=>?_)
 .obtain⟨_,_,_,_,rfl,_⟩:=h
  all_goals rfl
 .obtain⟨x,C,y,ini,rfl,hx,xa,no,k⟩:=h
  refine⟨_,(qu (zn (qgf T.gQ rfl T.kM (qk (pv 0) (qk (pv 1) qz qt) qt)))
   (zc (qh2 (pv 0) (pv 1) rfl))),?_⟩
  refine⟨_,rfl,_,rfl,x,C,none,[y],ini,rfl,hx,xa.xc,qan (show 1<=100000 by decide),?_⟩
  refine⟨_,rfl,_,rfl,x,C,true,rfl,xa.set no,.inl ⟨hx,λdx hd=>?_⟩⟩
  have ne:dx≠x:=λz=>by rw[z,hx]at hd;cases hd
  exact k dx _ hd (λb o hb e=>by rw[zh hb,zh (qah e hd)];exact e) zd (by rw[zh ne];exact zd)
theorem qq5 (T:Txt K mg a):FnOk P w K mg base (CX1 P w) 3 a.nK a.pC ["told", "at", "row"] (spTm a):=by
 refine okX T.dB.fn qes (λvs H Q E h=>?_) (λcdv A outer s H vs Q E hr h=>?_)
 .obtain⟨_,_,_,_,_,_,_,_,_,_,_,_,rfl,_⟩:=h
  all_goals rfl
 .obtain⟨d,p,i,rs,As,x,w1,o,dd,y,m,u,rfl,st,l6,hp,k,kx⟩:=h
  refine⟨_,(qu (zj (i:=3) qes.nd rfl (Az rfl) (jb jd (pv 2) zb (λ_ _=>rfl)))
   (qu (zo (qnj (pc_din (qf5 hr) (pv 3) (pv 0))) (zc (qdu rfl (Takes.at qbo) (qed T.kT.xc T.dS.ty (qpu T) (hr.mono Ex) rfl T.dI T.kT.kp T.dS.bd .nil qas (qk (pv 3) qz qt)))) qai)
   (qu (zj (i:=4) qes.nd rfl (Az rfl) (qd3 (zi qaz (jb jd (pv 2) zb (λ_ _=>rfl)) zt (qae _)) (jb jd (pv 2) zb (λ_ _=>rfl)) qbt))
   (qu (zj (i:=5) qes.nd rfl (Az rfl) (qd3 (zi qaz (jb jd (pv 2) zb (λ_ _=>rfl)) zt (qae _)) (jb jd (pv 2) zb (λ_ _=>rfl)) qbt))
   (qu (zj (i:=6) qes.nd rfl (Az rfl) (qw5 T.xA (qq4 T) (hr.mono Ex) rfl T.rS T.rE (dvs:=[.non]) (.cons rfl .nil) qas (qk (pv 3) (qk (jb jd (pv 2) zb (λ_ _=>rfl)) (qk (jb jd (pv 2) zb (λ_ _=>rfl)) (qk (pv 4) (qk (pv 5) (qk (jb jd (pv 2) zb (λ_ _=>rfl)) (qk (jb jd (pv 2) zb (λ_ _=>rfl)) qz zz) zz) qt) qt) zz) zz) qt)))
   (qu (zo (PW.pt (qji (zi qaz (zq qte (by rfl) T.kG qap (qk (pv 0) qz qt)) (qbn (v:=.int 6) rfl T.tZ.choose_spec ⟨_,rfl⟩) (qae _)) (qir (zi qaz (qbd (pv 6) rfl) (qbd (pv 6) rfl) (qae _))))) (zc (qdu rfl (Takes.at qbo) (qed T.kI.xc T.gA.ty (qgx T) (hr.mono Ex) rfl T.kX T.kI.kp T.gA.bd .nil qas (qk (pv 1) qz qt)))) qai)
   (zc (qnn (qf5 hr) (pv 0) (pv 3) (pv 6) rfl)))))))),?_⟩
  refine⟨_,rfl,_,_,_,_,rfl,rfl,SqL.of (hp),rfl,?_⟩
  cases pn:qal rs x with
  |some j =>
   obtain⟨r,A,_,_,_,_,g⟩:=st.get pn
   refine⟨_,rfl,_,rfl,d,_,rfl,g,_,rfl,qc1 ?_⟩
   exact⟨_,rfl,qan (show 1<=100000 by decide),λx1 n1=>⟨x1,a.kD,_,_,rfl,zd,T.kT,zg T.mI Ex,λd1 H9 hd1 kp o1 od1=>⟨rfl,x1,_,some d1,rfl,o1,⟨_,od1⟩,T.tD,(kx _ (qlc (by rw[pn];rfl))) x1 d1 _ (qao (((Same.refl H)).trans (qbl n1 kp)) (((Same.refl H)).free n1)) zd ((zh (λz=>by rw[z,zd]at hd1;cases hd1)).trans od1)⟩⟩⟩
  |none =>
   refine⟨_,rfl,_,rfl,d,_,rfl,st.non pn,_,rfl,qbv ?_⟩
   cases dd with
   |false =>
    refine⟨_,rfl,_,_,_,_,rfl,rfl,SqL.of (hp),rfl,rfl,_,rfl,qfb rfl ⟨_,rfl,_,_,_,_,rfl,rfl,SqL.of (hp),rfl,?_⟩⟩
    refine⟨_,rfl,_,_,_,_,rfl,rfl,SqL.of (hp),rfl,rfl,_,rfl,qa0 Ez ?_⟩
    refine⟨_,rfl,_,rfl,_,_,_,_,rfl,rfl,SqL.of (hp),rfl,_,rfl,_,_,_,_,rfl,rfl,SqL.of (hp),rfl,_,rfl,_,rfl,_,rfl,_,_,_,_,rfl,rfl,SqL.of (hp),rfl,_,rfl,_,_,_,_,rfl,rfl,SqL.of (hp),rfl,λxr dx nx nd ne=>?_⟩
    refine⟨xr,dx,_,_,_,_,_,_,_,_,rfl,zd,λH1 pe pa pl py b1 ne1 na1 nl1 ny1 hx1 he1 ha1 hl1 hy1 nd5=>⟨rfl,?_⟩⟩
    have keep:Same H (upd (upd H dx (.own xr)) xr (.ins a.k7 dx [])):=λb u e=>by rw[zh (qah e nx),zh (qah e nd)];exact e
    have s1:Same H H1:=b1.made nx nd
    have fe:=keep.free ne1
    have fa:=keep.free na1
    have fl:=keep.free nl1
    have fy:=keep.free ny1
    have hd1:=s1 _ _ st.hd
    have lk:=qka st.ln
    dsimp only[]
    refine⟨_,rfl,d,_,rfl,hd1,rfl,_,rfl,qbw (λc=>?_) (λc=>?_)⟩
    .have c:((dcR rs As).length:Int)=6:=V.int.inj (of_decide_eq_true c)
     exact⟨_,rfl,qan (show 1<=100000 by decide),λx1 n1=>⟨x1,a.k9,_,_,rfl,zd,T.kI,zg T.kP Ex,λd1 H9 hd1 kp o1 od1=>⟨rfl,x1,_,some d1,rfl,o1,⟨_,od1⟩,T.kZ,(kx _ (qgr (d:=false) pn (.inl (by lia)))) x1 d1 _ (qao ((s1).trans (qbl n1 kp)) ((s1).free n1)) zd ((zh (λz=>by rw[z,zd]at hd1;cases hd1)).trans od1)⟩⟩⟩
    have c6:rs.length≠6:=λz=>c (decide_eq_true (by rw[lk,z];rfl))
    refine⟨_,rfl,_,_,_,_,_,rfl,hx1,T.kB,zg T.kC Ex,rfl,_,rfl,_,_,_,_,_,rfl,hx1,T.kB,zg T.kC Ex,rfl,rfl,_,rfl,qbw (λc2=>?_) (λc2=>?_)⟩
    .have c2:o=y:=V.str.inj (of_decide_eq_true c2)
     exact⟨_,rfl,qan (show 1<=100000 by decide),λx1 n1=>⟨x1,a.k9,_,_,rfl,zd,T.kI,zg T.kP Ex,λd1 H9 hd1 kp o1 od1=>⟨rfl,x1,_,some d1,rfl,o1,⟨_,od1⟩,T.kZ,(kx _ (qgr (d:=false) pn (.inr ⟨rfl,c2⟩))) x1 d1 _ (qao ((s1).trans (qbl n1 kp)) ((s1).free n1)) zd ((zh (λz=>by rw[z,zd]at hd1;cases hd1)).trans od1)⟩⟩⟩
    have c7:¬(rs.length=6\/(false=false/\o=y)):=λz=>z.elim c6 λz=>c2 (decide_eq_true (by rw[z.2]))
    refine⟨_,rfl,_,rfl,_,rfl,d,_,rfl,DPut.k (k:=.inr x) hd1 (by rw[Bp,lk];lia),?_⟩
    have ep:qfn (dcR rs As) (.inr x) (.ref xr)=dcR rs As++[(.inr x,.ref xr)]:=qki _ (by rw[qg5 x st.ln,pn];rfl)
    rw[ep]
    have kd:KeepT [d] H1 (upd H1 d (.dK (dcR rs As++[(.inr x,.ref xr)]))):=KeepT.put (Ak.mpr rfl) hd1 (λ_ z=>nomatch z)
    have ho:∀z∈own ⟨xr,dx,pe,pa,pl,py⟩,H z=none:=λz hz=>by
     simp only[own,An,Ax,or_false]at hz
     rcases hz with rfl|rfl|rfl|rfl|rfl
     .exact nx
     .exact fe
     .exact fa
     .exact fl
     .exact fy
    have hin:∀z∈d::As.flatMap own,H z≠none:=λz hz e=>by
     rcases An.mp hz with rfl|hz
     .rw[st.hd]at e;cases e
     .obtain⟨A',hA',hz'⟩:=Bs.mp hz
      obtain⟨jA,hjA⟩:=Bb hA'
      have lj:jA<rs.length:=by rw[<- st.ln];exact(Ac.mp hjA).1
      obtain⟨v',us',ry⟩:=st.ru jA _ A' (Ae lj) hjA
      simp only[own,An,Ax,or_false]at hz'
      rcases hz' with rfl|rfl|rfl|rfl|rfl
      .rw[ry.hx]at e;cases e
      .rw[ry.he]at e;cases e
      .rw[ry.ha]at e;cases e
      .rw[ry.hl]at e;cases e
      .rw[ry.hy]at e;cases e
    have nz:∀z∈own ⟨xr,dx,pe,pa,pl,py⟩,z≠d:=λz hz e=>hin d Am (e ▸ ho z hz)
    have ux:RuX a.k7 H1 ⟨xr,dx,pe,pa,pl,py⟩ (qey x w1 o false y m u):=⟨.non,[],hx1,rfl,he1,ha1,hl1,.nil,hy1⟩
    refine k _ (qfg pn c7) _ (As++[⟨xr,dx,pe,pa,pl,py⟩]) ((KeepT.of s1).trans (kd.sub λz hz=>by rw[Ak.mp hz];exact Am)) (λz hz=>?_) ((st.same s1).snoc kd zd (ux.keep kd λz hz hz2=>nz z hz (Ak.mp hz2)) pn (show (own ⟨xr,dx,pe,pa,pl,py⟩).Nodup from nd5) λz hz=>⟨nz z hz,λhz2=>hin z (Ar _ hz2) (ho z hz)⟩)
    rw[Bw]at hz
    rcases Au.mp hz with q|q
    .exact .inl q
    .exact .inr (ho z (by simpa using q))
   |true =>
    refine⟨_,rfl,_,_,_,_,rfl,rfl,SqL.of (hp),rfl,rfl,_,rfl,qa0 Ez ?_⟩
    refine⟨_,rfl,_,_,_,_,rfl,rfl,SqL.of (hp),rfl,rfl,_,rfl,qfb rfl ⟨_,rfl,_,_,_,_,rfl,rfl,SqL.of (hp),rfl,?_⟩⟩
    refine⟨_,rfl,_,rfl,_,_,_,_,rfl,rfl,SqL.of (hp),rfl,_,rfl,_,_,_,_,rfl,rfl,SqL.of (hp),rfl,_,rfl,_,rfl,_,rfl,_,_,_,_,rfl,rfl,SqL.of (hp),rfl,_,rfl,_,_,_,_,rfl,rfl,SqL.of (hp),rfl,λxr dx nx nd ne=>?_⟩
    refine⟨xr,dx,_,_,_,_,_,_,_,_,rfl,zd,λH1 pe pa pl py b1 ne1 na1 nl1 ny1 hx1 he1 ha1 hl1 hy1 nd5=>⟨rfl,?_⟩⟩
    have keep:Same H (upd (upd H dx (.own xr)) xr (.ins a.k7 dx [])):=λb u e=>by rw[zh (qah e nx),zh (qah e nd)];exact e
    have s1:Same H H1:=b1.made nx nd
    have fe:=keep.free ne1
    have fa:=keep.free na1
    have fl:=keep.free nl1
    have fy:=keep.free ny1
    have hd1:=s1 _ _ st.hd
    have lk:=qka st.ln
    dsimp only[]
    refine⟨_,rfl,d,_,rfl,hd1,rfl,_,rfl,qbw (λc=>?_) (λc=>?_)⟩
    .have c:((dcR rs As).length:Int)=6:=V.int.inj (of_decide_eq_true c)
     exact⟨_,rfl,qan (show 1<=100000 by decide),λx1 n1=>⟨x1,a.k9,_,_,rfl,zd,T.kI,zg T.kP Ex,λd1 H9 hd1 kp o1 od1=>⟨rfl,x1,_,some d1,rfl,o1,⟨_,od1⟩,T.kZ,(kx _ (qgr (d:=true) pn (.inl (by lia)))) x1 d1 _ (qao ((s1).trans (qbl n1 kp)) ((s1).free n1)) zd ((zh (λz=>by rw[z,zd]at hd1;cases hd1)).trans od1)⟩⟩⟩
    have c6:rs.length≠6:=λz=>c (decide_eq_true (by rw[lk,z];rfl))
    refine⟨_,rfl,_,_,_,_,_,rfl,hx1,T.kB,zg T.kC Ex,rfl,_,rfl,_,_,_,_,_,rfl,hx1,T.kB,zg T.kC Ex,rfl,rfl,_,rfl,qbw (λc2=>?_) (λc2=>?_)⟩
    .exact nomatch of_decide_eq_true c2
    have c7:¬(rs.length=6\/(true=false/\o=y)):=λz=>z.elim c6 λz=>nomatch z.1
    refine⟨_,rfl,_,rfl,_,rfl,d,_,rfl,DPut.k (k:=.inr x) hd1 (by rw[Bp,lk];lia),?_⟩
    have ep:qfn (dcR rs As) (.inr x) (.ref xr)=dcR rs As++[(.inr x,.ref xr)]:=qki _ (by rw[qg5 x st.ln,pn];rfl)
    rw[ep]
    have kd:KeepT [d] H1 (upd H1 d (.dK (dcR rs As++[(.inr x,.ref xr)]))):=KeepT.put (Ak.mpr rfl) hd1 (λ_ z=>nomatch z)
    have ho:∀z∈own ⟨xr,dx,pe,pa,pl,py⟩,H z=none:=λz hz=>by
     simp only[own,An,Ax,or_false]at hz
     rcases hz with rfl|rfl|rfl|rfl|rfl
     .exact nx
     .exact fe
     .exact fa
     .exact fl
     .exact fy
    have hin:∀z∈d::As.flatMap own,H z≠none:=λz hz e=>by
     rcases An.mp hz with rfl|hz
     .rw[st.hd]at e;cases e
     .obtain⟨A',hA',hz'⟩:=Bs.mp hz
      obtain⟨jA,hjA⟩:=Bb hA'
      have lj:jA<rs.length:=by rw[<- st.ln];exact(Ac.mp hjA).1
      obtain⟨v',us',ry⟩:=st.ru jA _ A' (Ae lj) hjA
      simp only[own,An,Ax,or_false]at hz'
      rcases hz' with rfl|rfl|rfl|rfl|rfl
      .rw[ry.hx]at e;cases e
      .rw[ry.he]at e;cases e
      .rw[ry.ha]at e;cases e
      .rw[ry.hl]at e;cases e
      .rw[ry.hy]at e;cases e
    have nz:∀z∈own ⟨xr,dx,pe,pa,pl,py⟩,z≠d:=λz hz e=>hin d Am (e ▸ ho z hz)
    have ux:RuX a.k7 H1 ⟨xr,dx,pe,pa,pl,py⟩ (qey x w1 o true y m u):=⟨.non,[],hx1,rfl,he1,ha1,hl1,.nil,hy1⟩
    refine k _ (qfg pn c7) _ (As++[⟨xr,dx,pe,pa,pl,py⟩]) ((KeepT.of s1).trans (kd.sub λz hz=>by rw[Ak.mp hz];exact Am)) (λz hz=>?_) ((st.same s1).snoc kd zd (ux.keep kd λz hz hz2=>nz z hz (Ak.mp hz2)) pn (show (own ⟨xr,dx,pe,pa,pl,py⟩).Nodup from nd5) λz hz=>⟨nz z hz,λhz2=>hin z (Ar _ hz2) (ho z hz)⟩)
    rw[Bw]at hz
    rcases Au.mp hz with q|q
    .exact .inl q
    .exact .inr (ho z (by simpa using q))
theorem qfw (T:Txt K mg a):FnOk P w K mg base CX0 1 a.dX a.mM ["self", "name"] (qyb K "name"):=by
 refine T.kS.fn.ok qnw (λvs H Q E h=>?_) (λcdv A outer s H vs Q E hr h=>?_)
 .obtain⟨_,_,_,_,rfl,_⟩:=h
  all_goals rfl
 .obtain⟨x,C,y,ini,rfl,hx,xa,no,k⟩:=h
  refine⟨_,(qu (zn (qgf T.gQ rfl T.kM (qk (pv 0) (qk (pv 1) qz qt) qt)))
   (zc (qh2 (pv 0) (pv 1) rfl))),?_⟩
  refine⟨_,rfl,_,rfl,x,C,none,[y],ini,rfl,hx,xa.xc,qan (show 1<=100000 by decide),?_⟩
  refine⟨_,rfl,_,rfl,x,C,true,rfl,xa.set no,.inl ⟨hx,λdx hd=>?_⟩⟩
  have ne:dx≠x:=λz=>by rw[z,hx]at hd;cases hd
  exact k dx _ hd (λb o hb e=>by rw[zh hb,zh (qah e hd)];exact e) zd (by rw[zh ne];exact zd)
theorem qly (T:Txt K mg a):FnOk P w K mg base CX0 1 a.dU a.mG ["self"] (spAk a):=by
 refine T.lC.fn.ok qgm (λvs H Q E h=>?_) (λcdv A outer s H vs Q E hr h=>?_)
 .obtain⟨_,_,rfl,_⟩:=h
  all_goals rfl
 .obtain⟨A,r,rfl,ru,l1,l2,l3,k⟩:=h
  refine⟨_,(qu (zj (i:=1) qgm.nd rfl (Az rfl) (zk qcb (zk qcb (zk qcb (zu (qk (qbd (pv 0) rfl) qz qcv)) (qbd (pv 0) rfl)) (qbd (pv 0) rfl)) (qhz (N:=["row"]) (js:=[none]) (XN:=["self", "kinds"]) (xs:=qac qd2) rfl rfl rfl Ez (qb7 (qbd (pv 0) rfl)) (λ_ _ _ _ _ _=>(qam (i:=0) (show Ck (["row"]:List Str) from by decide +kernel) rfl (Az rfl) (Dj rfl))) (λ_ _ _ _ _ _=>qds) (λ_ _ _ _ _ _=>(jb (qxp (K:=K) rfl) (pv 0) zb (λ_ _=>rfl))))))
   (qu (zo (zi qea (qbd (pv 0) rfl) qbt (qae _)) (zc (zn (qcs AL AW AX qbj (pv 1) (qk (qbd (pv 0) rfl) qz qcv)))) qai)
   (qu (zo (zi qea (qbd (pv 0) rfl) qbt (qae _)) (zc (zn (qcs AL PySem.F.slot_list_extend PySem.F.type_list_extend qqi (pv 1) (qk (qbd (pv 0) rfl) qz qcv)))) qai)
   (zc (zf (pv 1)))))),?_⟩
  obtain⟨v,us,hx,hs,he,ha,hl,tl,hy⟩:=ru
  have lu:us.length=r.longer.length:=by rw[tl.length,Ab]
  refine⟨_,rfl,_,_,_,_,_,rfl,hx,T.kB,zg T.kC Ex,rfl,qan (show 1<=100000 by decide),λq1 n1=>?_⟩
  obtain⟨s1,e1⟩:=alc (o:=.lst [V.str r.owes]) n1
  generalize upd H q1 _=H1 at s1 e1 |-
  refine⟨_,rfl,_,_,_,_,_,rfl,s1 _ _ hx,T.kB,zg T.kC Ex,rfl,_,_,_,_,rfl,rfl,e1,s1 _ _ he,qan (by rw[Ab];show 1+_<=_;lia),λq2 n2=>?_⟩
  obtain⟨s2,e2⟩:=alc (o:=.lst ([V.str r.owes]++r.ends.map V.str)) n2
  generalize upd H1 q2 _=H2 at s2 e2 |-
  have s12:=s1.trans s2
  refine⟨_,rfl,_,_,_,_,_,rfl,s12 _ _ hx,T.kB,zg T.kC Ex,rfl,_,_,_,_,rfl,rfl,e2,s12 _ _ ha,qan (by rw[Ah,Ab,Ab];show 1+_+_<=_;lia),λq3 n3=>?_⟩
  obtain⟨s3,e3⟩:=alc (o:=.lst ([V.str r.owes]++r.ends.map V.str++r.anew.map V.str)) n3
  generalize upd H2 q3 _=H3 at s3 e3 |-
  have s13:=s12.trans s3
  have tl3:=tl.same s13
  refine⟨_,rfl,_,_,_,_,_,rfl,s13 _ _ hx,T.kB,zg T.kC Ex,rfl,_,rfl,⟨_,SqL.of (s13 _ _ hl)⟩,?_⟩
  let f:V->V:=λv=>match v with
   |.ref b=>match H3 b with
    |some (.tup [.str y,.int _,.int _])=>.str y
    |_=>.non
   |_=>.non
  refine qc9 f (λσ'=>∃v,σ'=[v]) (qdz (K:=K) (SqL.of (s13 _ _ hl))) (qan (by lia)) ⟨none,rfl⟩ (λv σ' H' RR' hv sm s4 q=>?_) qdt λp5 hp5=>?_
  .obtain⟨v0,rfl⟩:=s4
   obtain⟨j,hj⟩:=Bb hv
   obtain⟨b,t,rfl,g1,g2⟩:=tl3.get' hj
   rw[Al]at g1
   cases eg:r.longer[j]? with
   |none=>rw[eg]at g1;cases g1
   |some rr =>
    rw[eg]at g1
    cases g1
    have ef:f (.ref b)=.str rr.1:=by show (match H3 b with|some (.tup [.str y,.int _,.int _])=>V.str y|_=>.non)=_;rw[g2];rfl
    have q:=q [some (.ref b)] ⟨_,rfl⟩
    rw[ef]at q
    exact⟨_,rfl,_,_,_,_,rfl,rfl,SqT.of (sm _ _ g2),rfl,q⟩
  have em:us.map f=(r.longer.map (·.1)).map V.str:=by
   refine BG λj=>?_
   rw[Al,Al,Al]
   cases eg:r.longer[j]? with
   |none=>rw[Bj (by rw[lu];exact Co.mp eg)];rfl
   |some rr =>
    obtain⟨b,g1,g2⟩:=tl3.get (i:=j) (r:=qqq rr) (by rw[Al,eg];rfl)
    rw[g1]
    show some (match H3 b with|some (.tup [.str y,.int _,.int _])=>V.str y|_=>.non)=_
    rw[g2];rfl
  rw[em]
  obtain⟨s5,e5⟩:=alc (o:=.lst ((r.longer.map (·.1)).map V.str)) hp5
  generalize upd H3 p5 _=H5 at s5 e5 |-
  refine⟨_,_,_,_,rfl,rfl,s5 _ _ e3,e5,qan (by simp only[Ah,Ab,At,Cn];lia),λq n6=>?_⟩
  have eb:([V.str r.owes]++r.ends.map V.str++r.anew.map V.str)++(r.longer.map (·.1)).map V.str=([r.owes]++r.ends++r.anew++r.longer.map (·.1)).map V.str:=by simp only[Aq,A4,BL]
  rw[eb]
  generalize eB:[r.owes]++r.ends++r.anew++r.longer.map (·.1)=B
  have lB:B.length<=4000:=by rw[<- eB];simp only[Ah,Ab,At,Cn];lia
  have ek:qav r=B++r.opens.toList++stL r.still:=by unfold qav;rw[eB]
  have s15:=s13.trans s5
  obtain⟨s6,e6⟩:=alc (o:=.lst (B.map V.str)) n6
  generalize upd H5 q _=H6 at s6 e6 |-
  have s16:=s15.trans s6
  have nq:=s15.free n6
  have hx6:=s16 _ _ hx
  have hs6:=hs.same s16
  have ho:r.opens=none \/ ∃o,r.opens=some o:=by
   cases r.opens with
   |none=>exact .inl rfl
   |some o=>exact .inr ⟨o,rfl⟩
  apply useH (p:=λ(H7:Hp)=>∃B':List Str,Same H H7/\B'.length<=4001/\H7 q=some (.lst (B'.map V.str))/\qav r=B'++stL r.still)
  .intro fin
   refine ho.elim (λeo=>?_) (λeo=>?_)
   .refine⟨_,rfl,_,_,_,_,_,rfl,hx6,T.kB,zg T.kC Ex,rfl,rfl,_,rfl,qd9 (by rw[eo];rfl) ?_⟩
    have qq:∃B':List Str,Same H H6/\B'.length<=4001/\H6 q=some (.lst (B'.map V.str))/\qav r=B'++stL r.still:=⟨B,s16,by lia,e6,by rw[ek,eo];simp⟩
    generalize H6=W6 at qq |-
    exact fin W6 qq
   .obtain⟨o,eo⟩:=eo
    have eo':qd8 r.opens=.str o:=by rw[eo];rfl
    refine⟨_,rfl,_,_,_,_,_,rfl,hx6,T.kB,zg T.kC Ex,rfl,rfl,_,rfl,qgn (λz=>by rw[eo']at z;cases z) ?_⟩
    refine⟨_,rfl,.inl ⟨rfl,_,SqL.of e6⟩,_,rfl,_,_,_,_,_,rfl,hx6,T.kB,zg T.kC Ex,rfl,_,_,_,rfl,rfl,e6,qde (by rw[Ab];lia),?_⟩
    have qq:∃B':List Str,Same H (upd H6 q (.lst (B.map V.str++[qd8 r.opens])))/\B'.length<=4001/\upd H6 q (.lst (B.map V.str++[qd8 r.opens])) q=some (.lst (B'.map V.str))/\qav r=B'++stL r.still:=⟨B++[o],qao s16 nq,by rw[Ah];show _+1<=_;lia,by rw[zd,Aq,eo'];rfl,by rw[ek,eo];rfl⟩
    exact fin _ qq
  .rintro H7 ⟨B',s7,l7,e7,ek'⟩
   have hx7:=s7 _ _ hx
   have hs7:=hs.same s7
   cases es:r.still with
   |none =>
    rw[es]at hs7 ek'
    cases hs7
    refine⟨_,rfl,_,_,_,_,_,rfl,hx7,T.kB,zg T.kC Ex,rfl,rfl,_,rfl,qd9 rfl ⟨_,rfl,k q H7 nq s7 (by rw[ek',e7];simp[stL])⟩⟩
   |some sv =>
    rw[es]at hs7 ek'
    obtain⟨ps,rfl,hps⟩:=hs7
    refine⟨_,rfl,_,_,_,_,_,rfl,hx7,T.kB,zg T.kC Ex,rfl,rfl,_,rfl,qgn (λz=>nomatch z) ?_⟩
    refine⟨_,rfl,.inl ⟨rfl,_,SqL.of e7⟩,_,rfl,_,_,_,_,_,rfl,hx7,T.kB,zg T.kC Ex,rfl,_,_,_,_,rfl,rfl,e7,SqT.of hps,qan (by rw[Ab];show _+2<=_;lia),?_⟩
    exact⟨_,rfl,k q _ nq (qao s7 nq) (by rw[zd,ek',Aq];rfl)⟩
theorem qt3 (T:Txt K mg a):FnOk P w K mg base CX0 1 a.mL a.mH ["row"] spKi:=by
 refine T.bD.fn.ok qtj (λvs H Q E h=>?_) (λcdv A outer s H vs Q E hr h=>?_)
 .obtain⟨_,_,rfl,_⟩:=h
  all_goals rfl
 .obtain⟨p,row,rfl,hp,nt,k⟩:=h
  refine⟨_,(qu (zo (zi qaz (jb jd (pv 0) zb (λ_ _=>rfl)) zt (qae _)) (zc (zf (zu qz))) qai)
   (zc (zf (qd3 (zi qaz (jb jd (pv 0) zb (λ_ _=>rfl)) zt (qae _)) (qa3 qb2 (pv 0) (qa2 zb) (qa2 zb)) (qa3 qb2 (pv 0) (qa2 zb) (qa2 zb)))))),?_⟩
  cases row with
  |term=>cases nt
  |ends x k =>
   refine⟨_,rfl,_,_,_,_,rfl,rfl,SqL.of (hp),rfl,rfl,_,rfl,qa0 Ez ?_⟩
   refine⟨_,rfl,_,_,_,_,rfl,rfl,SqL.of (hp),rfl,rfl,_,rfl,qa0 Ez ⟨_,rfl,_,rfl,_,rfl,_,_,rfl,SqL.of hp,λq hq=>?_⟩⟩
   exact k q _ hq (zm hq) zd
  |anew x k =>
   refine⟨_,rfl,_,_,_,_,rfl,rfl,SqL.of (hp),rfl,rfl,_,rfl,qa0 Ez ?_⟩
   refine⟨_,rfl,_,_,_,_,rfl,rfl,SqL.of (hp),rfl,rfl,_,rfl,qa0 Ez ⟨_,rfl,_,rfl,_,rfl,_,_,rfl,SqL.of hp,λq hq=>?_⟩⟩
   exact k q _ hq (zm hq) zd
  |longer x k u t =>
   refine⟨_,rfl,_,_,_,_,rfl,rfl,SqL.of (hp),rfl,rfl,_,rfl,qa0 Ez ?_⟩
   refine⟨_,rfl,_,_,_,_,rfl,rfl,SqL.of (hp),rfl,rfl,_,rfl,qa0 Ez ⟨_,rfl,_,rfl,_,rfl,_,_,rfl,SqL.of hp,λq hq=>?_⟩⟩
   exact k q _ hq (zm hq) zd
  |still x k l =>
   refine⟨_,rfl,_,_,_,_,rfl,rfl,SqL.of (hp),rfl,rfl,_,rfl,qa0 Ez ?_⟩
   refine⟨_,rfl,_,_,_,_,rfl,rfl,SqL.of (hp),rfl,rfl,_,rfl,qfb rfl ⟨_,rfl,_,rfl,_,rfl,_,_,rfl,SqL.of hp,λq hq=>?_⟩⟩
   exact k q _ hq (zm hq) zd
  |yields x y =>
   refine⟨_,rfl,_,_,_,_,rfl,rfl,SqL.of (hp),rfl,rfl,_,rfl,qfb rfl ⟨qef,λq hq=>k q _ hq (zm hq) zd⟩⟩
theorem qt4 (T:Txt K mg a):FnOk P w K mg base CX0 2 a.mF a.nE ["rule", "row"] (spUf a):=by
 refine T.bL.fn.ok qmz (λvs H Q E h=>?_) (λcdv A outer s H vs Q E hr h=>?_)
 .obtain⟨_,_,_,_,rfl,_⟩:=h
  all_goals rfl
 .obtain⟨A,r,p,row,rfl,ru,l1,l2,l3,hp,nt,k⟩:=h
  refine⟨_,(qu (zj (i:=2) qmz.nd rfl (Dj rfl) (qoe (pv 0) T.kB T.rJ (qly T) (hr.mono Ex) T.lC.bd .nil qas))
   (qu (zo (zr (zq (qs8 rfl) (by rfl) T.sU qvq (qk (qhz (N:=["kind", "taken"]) (js:=[none,some 2]) (XN:=["rule", "row", "taken"]) (xs:=qac qh3) rfl rfl rfl Ez (qb7 (zp (qt3 T) (hr.mono Ex) rfl T.bD.mgx T.bD.fn.kp T.bD.bd .nil qas (qk (pv 1) qz qt))) (λ_ _ _ _ _ _=>(qam (i:=0) (show Ck (["kind", "taken"]:List Str) from by decide +kernel) rfl (Az rfl) (Dj rfl))) (λ_ _ _ _ _ _=>qds) (λ_ _ _ _ _ _=>(qcz (qqc (K:=K) rfl) (pv 0) (pv 1) (by with_unfolding_all rfl)))) qz qko))) (zc (zf qfx)) qai)
   (qu (zo (zi qaz (jb jd (pv 1) zb (λ_ _=>rfl)) zt (qae _)) (zc (zf (qyx (qcz qea (qbd (pv 0) rfl) qbt (qae _)) (qd7 (qcz qaz (jb jd (pv 1) zb (λ_ _=>rfl)) (jb jd (pv 1) zb (λ_ _=>rfl)) (qae _)))))) qai)
   (zc (zf (qdk (qcz qaz (jb jd (pv 1) zb (λ_ _=>rfl)) zt (qae _)) (qd7 (qcz qaz (zq qaq (by rfl) T.kG qap (qk (qbd (pv 0) rfl) qz qcv)) (qbn (v:=.int 2) rfl T.pQ.choose_spec ⟨_,rfl⟩) (qae _))))))))),?_⟩
  have ru0:=ru
  obtain⟨v,us,hx,hs,he,ha,hl,tl,hy⟩:=ru
  refine⟨_,rfl,A.p,A.dx,_,rfl,hx,rfl,A,r,rfl,ru0,l1,l2,l3,λq H1 nq s1 e1=>?_⟩
  have kl:=qyf r
  refine⟨_,rfl,p,row,rfl,s1 _ _ hp,nt,λq2 H2 n2 s2 e2=>?_⟩
  have s12:=s1.trans s2
  refine⟨_,rfl,⟨_,SqL.of e2⟩,?_⟩
  have e12:=s2 _ _ e1
  have lk:(kin row).length<=2:=by cases row <;>simp[kin]
  refine qc9 (λv=>match v with | .str y=>.bl ((qav r).contains y)|_=>.non) (λσ'=>∃v,σ'=[v,some (.ref q)]) (qdz (K:=K) (SqL.of e2)) (qan (by rw[Ab];lia)) ⟨none,rfl⟩ (λv σ' H' RR' hv sm s4 qq=>?_) qdt λp5 hp5=>?_
  .obtain⟨v0,rfl⟩:=s4
   obtain⟨y,_,rfl⟩:=AM.mp hv
   have qq:=qq [some (.str y),some (.ref q)] ⟨_,rfl⟩
   dsimp only at qq
   refine⟨_,rfl,_,rfl,_,_,rfl,.inl (SqL.of (sm _ _ e12)),rfl,qg3 _,?_⟩
   rw[<- qgo]at qq
   exact qq
  have em:((kin row).map V.str).map (λv=>match v with | .str y=>V.bl ((qav r).contains y)|_=>.non)=((kin row).map λy=>(qav r).contains y).map V.bl:=by
   rw[Bm,Bm];rfl
  rw[em]
  obtain⟨s5,e5⟩:=alc (o:=.lst (((kin row).map λy=>(qav r).contains y).map V.bl)) hp5
  generalize upd H2 p5 _=H5 at s5 e5 |-
  have s15:=s12.trans s5
  refine⟨p5,_,rfl,SqL.of e5,_,rfl,?_⟩
  have hp5:=s15 _ _ hp
  have hx5:=s15 _ _ hx
  have hs5:=hs.same s15
  have hl5:=s15 _ _ hl
  have lu:us.length=r.longer.length:=by rw[tl.length,Ab]
  have kk:=k H5 s15
  unfold qgq at kk
  rw[<- any_map]at kk
  cases ea:(((kin row).map λy=>(qav r).contains y).any λb=>b) with
  |true =>
   rw[ea,Bool.true_or]at kk
   exact qc1 kk
  |false =>
   rw[ea,Bool.false_or]at kk
   refine qbv ?_
   cases row with
   |term=>cases nt
   |ends x k'=>exact⟨_,rfl,_,_,_,_,rfl,rfl,SqL.of (hp5),rfl,rfl,_,rfl,qa0 Ez ⟨_,rfl,_,_,_,_,rfl,rfl,SqL.of (hp5),rfl,rfl,_,rfl,qa0 Ez kk⟩⟩
   |anew x k'=>exact⟨_,rfl,_,_,_,_,rfl,rfl,SqL.of (hp5),rfl,rfl,_,rfl,qa0 Ez ⟨_,rfl,_,_,_,_,rfl,rfl,SqL.of (hp5),rfl,rfl,_,rfl,qa0 Ez kk⟩⟩
   |yields x k'=>exact⟨_,rfl,_,_,_,_,rfl,rfl,SqL.of (hp5),rfl,rfl,_,rfl,qa0 Ez ⟨_,rfl,_,_,_,_,rfl,rfl,SqL.of (hp5),rfl,rfl,_,rfl,qa0 Ez kk⟩⟩
   |longer x k' u t =>
    refine⟨_,rfl,_,_,_,_,rfl,rfl,SqL.of (hp5),rfl,rfl,_,rfl,qa0 Ez ⟨_,rfl,_,_,_,_,rfl,rfl,SqL.of (hp5),rfl,rfl,_,rfl,qfb rfl ⟨_,rfl,_,_,_,_,_,rfl,hx5,T.kB,zg T.kC Ex,rfl,_,_,rfl,.inl ⟨_,SqL.of hl5,rfl⟩,rfl,?_⟩⟩⟩
    show Q (.bl (decide (V.int (us.length:Int)=V.int 2))) H5
    have e:decide (V.int (us.length:Int)=V.int 2)=decide (r.longer.length=2):=decide_eq_decide.mpr ⟨λz=>by have:=V.int.inj z;lia,λz=>by rw[lu,z];rfl⟩
    rw[e]
    exact kk
   |still x k' l' =>
    refine⟨_,rfl,_,_,_,_,rfl,rfl,SqL.of (hp5),rfl,rfl,_,rfl,qfb rfl ?_⟩
    cases es:r.still with
    |some sv =>
     rw[es]at hs5
     obtain⟨ps,rfl,hps⟩:=hs5
     refine⟨_,rfl,_,_,_,_,_,rfl,hx5,T.kB,zg T.kC Ex,rfl,rfl,_,rfl,qgn (λz=>nomatch z) ?_⟩
     unfold qye at kk
     rw[es]at kk
     exact kk
    |none =>
     rw[es]at hs5
     cases hs5
     refine⟨_,rfl,_,_,_,_,_,rfl,hx5,T.kB,zg T.kC Ex,rfl,rfl,_,rfl,qd9 rfl ⟨_,rfl,_,_,_,_,rfl,rfl,SqL.of (hp5),rfl,_,rfl,_,_,_,_,rfl,rfl,SqL.of (hp5),rfl,rfl,?_⟩⟩
     unfold qye at kk
     rw[es]at kk
     have e:decide (V.str k'=V.str l')=decide (k'=l'):=decide_eq_decide.mpr ⟨λz=>V.str.inj z,λz=>by rw[z]⟩
     show Q (.bl (decide (V.str k'=V.str l'))) H5
     rw[e]
     exact kk
theorem qq6 (T:Txt K mg a):FnOk P w K mg base (CX1 P w) 3 a.hU a.nA ["rule", "at", "row"] (spMo a):=by
 refine okX T.bN.fn qqn (λvs H Q E h=>?_) (λcdv A outer s H vs Q E hr h=>?_)
 .obtain⟨_,_,_,_,_,rfl,_⟩:=h
  all_goals rfl
 .obtain⟨A,r,i,p,row,rfl,ru,nd,l1,l2,l3,hp,nt,k,kx⟩:=h
  refine⟨_,(qu (zo (zr (zp (qt4 T) (hr.mono Ex) rfl T.bL.mgx T.bL.fn.kp T.bL.bd .nil qas (qk (pv 0) (qk (pv 2) qz qt) qt))) (zc (qdu rfl (Takes.at qbo) (qed T.kI.xc T.gA.ty (qgx T) (hr.mono Ex) rfl T.kX T.kI.kp T.gA.bd .nil qas (qk (pv 1) qz qt)))) qai)
   (zc (zo (zi qaz (jb jd (pv 2) zb (λ_ _=>rfl)) zt (qae _)) (zc (zn (qcs AL AW AX qbj (qbd (pv 0) rfl) (qk (jb jd (pv 2) zb (λ_ _=>rfl)) qz zz)))) (zc (zo (zi qaz (jb jd (pv 2) zb (λ_ _=>rfl)) zt (qae _)) (zc (zn (qcs AL AW AX qbj (qbd (pv 0) rfl) (qk (jb jd (pv 2) zb (λ_ _=>rfl)) qz zz)))) (zc (zo (zi qaz (jb jd (pv 2) zb (λ_ _=>rfl)) zt (qae _)) (zc (zn (qcs AL AW AX qbj (qbd (pv 0) rfl) (qk (zw (qk (jb jd (pv 2) zb (λ_ _=>rfl)) (qk (jb jd (pv 2) zb (λ_ _=>rfl)) (qk (jb jd (pv 2) zb (λ_ _=>rfl)) qz zz) zz) zz)) qz ja)))) (zc (zo (zi qaz (jb jd (pv 2) zb (λ_ _=>rfl)) zt (qae _)) (zc (qdl (pv 0) (zw (qk (jb jd (pv 2) zb (λ_ _=>rfl)) (qk (jb jd (pv 2) zb (λ_ _=>rfl)) qz zz) zz)) rfl)) qai))))))))),?_⟩
  have ru0:=ru
  refine⟨_,rfl,_,rfl,A,r,p,row,rfl,ru0,l1,l2,l3,hp,nt,λH1 s1=>⟨_,rfl,?_⟩⟩
  cases eu:qgq r row with
  |true=>exact qc1 ⟨_,rfl,qan (show 1<=100000 by decide),λx1 n1=>⟨x1,a.k9,_,_,rfl,zd,T.kI,zg T.kP Ex,λd1 H9 hd1 kp o1 od1=>⟨rfl,x1,_,some d1,rfl,o1,⟨_,od1⟩,T.kZ,kx eu x1 d1 _ (qao ((s1).trans (qbl n1 kp)) ((s1).free n1)) zd ((zh (λz=>by rw[z,zd]at hd1;cases hd1)).trans od1)⟩⟩⟩
  |false =>
   refine qbv ?_
   obtain⟨v,us,hx,hs,he,ha,hl,tl,hy⟩:=ru0.same s1
   have hp:=s1 _ _ hp
   have ks:=KeepT.of (S:=own A) s1
   have lu:us.length=r.longer.length:=by rw[tl.length,Ab]
   simp only[own,Bg,An,Ax,or_false,not_or]at nd
   obtain⟨⟨d1,d2,d3,d4⟩,⟨d5,d6,d7⟩,⟨d8,d9⟩,d10,_⟩:=nd
   cases row with
   |term=>cases nt
   |ends x k' =>
    refine⟨_,rfl,_,_,_,_,rfl,rfl,SqL.of (hp),rfl,rfl,_,rfl,qfb rfl ⟨_,rfl,_,_,_,_,_,rfl,hx,T.kB,zg T.kC Ex,rfl,.inl ⟨rfl,_,SqL.of he⟩,_,rfl,_,_,_,_,rfl,rfl,SqL.of (hp),rfl,_,_,_,rfl,rfl,he,qde (by rw[Ab];lia),?_⟩⟩
    have kt:=KeepT.put (o':=.lst (r.ends.map V.str++[V.str k'])) (show A.pe∈own A by simp[own]) he (λ_ z=>nomatch z)
    exact k eu _ (ks.trans kt) ⟨v,us,(zh d1).trans hx,hs.keep kt,by rw[zd];show _=some (HO.lst ((r.ends++[k']).map V.str));rw[Aq];rfl,(zh (Bh d5)).trans ha,(zh (Bh d6)).trans hl,qb4 tl kt,(zh (Bh d7)).trans hy⟩
   |anew x k' =>
    refine⟨_,rfl,_,_,_,_,rfl,rfl,SqL.of (hp),rfl,rfl,_,rfl,qa0 Ez ⟨_,rfl,_,_,_,_,rfl,rfl,SqL.of (hp),rfl,rfl,_,rfl,qfb rfl ⟨_,rfl,_,_,_,_,_,rfl,hx,T.kB,zg T.kC Ex,rfl,.inl ⟨rfl,_,SqL.of ha⟩,_,rfl,_,_,_,_,rfl,rfl,SqL.of (hp),rfl,_,_,_,rfl,rfl,ha,qde (by rw[Ab];lia),?_⟩⟩⟩
    have kt:=KeepT.put (o':=.lst (r.anew.map V.str++[V.str k'])) (show A.pa∈own A by simp[own]) ha (λ_ z=>nomatch z)
    exact k eu _ (ks.trans kt) ⟨v,us,(zh d2).trans hx,hs.keep kt,(zh d5).trans he,by rw[zd];show _=some (HO.lst ((r.anew++[k']).map V.str));rw[Aq];rfl,(zh (Bh d8)).trans hl,qb4 tl kt,(zh (Bh d9)).trans hy⟩
   |longer x k' u t =>
    refine⟨_,rfl,_,_,_,_,rfl,rfl,SqL.of (hp),rfl,rfl,_,rfl,qa0 Ez ⟨_,rfl,_,_,_,_,rfl,rfl,SqL.of (hp),rfl,rfl,_,rfl,qa0 Ez ⟨_,rfl,_,_,_,_,rfl,rfl,SqL.of (hp),rfl,rfl,_,rfl,qfb rfl ⟨_,rfl,_,_,_,_,_,rfl,hx,T.kB,zg T.kC Ex,rfl,.inl ⟨rfl,_,SqL.of hl⟩,_,rfl,_,_,_,_,rfl,rfl,SqL.of (hp),rfl,_,rfl,_,_,_,_,rfl,rfl,SqL.of (hp),rfl,_,rfl,_,_,_,_,rfl,rfl,SqL.of (hp),rfl,qk8 _ _ _,λq2 n2=>?_⟩⟩⟩⟩
    obtain⟨s2,e2⟩:=alc (o:=.tup [V.str k',V.int u,V.int t]) n2
    generalize upd H1 q2 _=H2 at s2 e2 |-
    have hl2:=s2 _ _ hl
    refine⟨_,_,_,rfl,rfl,hl2,qde (by lia),?_⟩
    have kt:=KeepT.put (o':=.lst (us++[V.ref q2])) (show A.pl∈own A by simp[own]) hl2 (λ_ z=>nomatch z)
    have k2:=KeepT.of (S:=own A) s2
    refine k eu _ (ks.trans (k2.trans kt)) ⟨v,us++[.ref q2],(zh d3).trans (s2 _ _ hx),hs.keep (k2.trans kt),(zh d6).trans (s2 _ _ he),(zh d8).trans (s2 _ _ ha),zd,?_,(zh (Bh d10)).trans (s2 _ _ hy)⟩
    show Tups _ _ ((r.longer++[(k',u,t)]).map qqq)
    rw[Aq]
    exact qb4 ((tl.same s2).snoc e2) kt
   |still x k' l' =>
    refine⟨_,rfl,_,_,_,_,rfl,rfl,SqL.of (hp),rfl,rfl,_,rfl,qa0 Ez ⟨_,rfl,_,_,_,_,rfl,rfl,SqL.of (hp),rfl,rfl,_,rfl,qa0 Ez ⟨_,rfl,_,_,_,_,rfl,rfl,SqL.of (hp),rfl,rfl,_,rfl,qa0 Ez ⟨_,rfl,_,_,_,_,rfl,rfl,SqL.of (hp),rfl,rfl,_,rfl,qfb rfl ⟨_,rfl,_,_,_,_,rfl,rfl,SqL.of (hp),rfl,_,rfl,_,_,_,_,rfl,rfl,SqL.of (hp),rfl,fit2 _ _,λq2 n2=>?_⟩⟩⟩⟩⟩
    obtain⟨s2,e2⟩:=alc (o:=.tup [V.str k',V.str l']) n2
    generalize upd H1 q2 _=H2 at s2 e2 |-
    have hx2:=s2 _ _ hx
    refine⟨_,rfl,_,_,_,_,rfl,hx2,T.kB,zg T.kC Ex,(show 12<1000 by decide),?_⟩
    rw[show qc3 (Aa "still") (.ref q2) (rlR A r v)=rlR A (qcd r (.still x k' l')) (.ref q2) by with_unfolding_all rfl]
    have kt:=KeepT.put (o':=.ins a.k7 A.dx (rlR A (qcd r (.still x k' l')) (.ref q2))) (show A.p∈own A by simp[own]) hx2 (λ_ z=>nomatch z)
    have k2:=KeepT.of (S:=own A) s2
    exact k eu _ (ks.trans (k2.trans kt)) ⟨.ref q2,us,zd,⟨q2,rfl,kt _ _ (.inr ⟨_,rfl⟩) e2⟩,(zh (Bh d1)).trans (s2 _ _ he),(zh (Bh d2)).trans (s2 _ _ ha),(zh (Bh d3)).trans (s2 _ _ hl),qb4 (tl.same s2) kt,(zh (Bh d4)).trans (s2 _ _ hy)⟩
   |yields x k' =>
    exact⟨_,rfl,_,_,_,_,rfl,rfl,SqL.of (hp),rfl,rfl,_,rfl,qa0 Ez ⟨_,rfl,_,_,_,_,rfl,rfl,SqL.of (hp),rfl,rfl,_,rfl,qa0 Ez ⟨_,rfl,_,_,_,_,rfl,rfl,SqL.of (hp),rfl,rfl,_,rfl,qa0 Ez ⟨_,rfl,_,_,_,_,rfl,rfl,SqL.of (hp),rfl,rfl,_,rfl,qa0 Ez (k eu _ ks (ru0.same s1))⟩⟩⟩⟩
theorem qt5 (T:Txt K mg a):FnOk P w K mg base (CX1 P w) 4 a.mV a.lY ["told", "at", "row"] (spRo a):=by
 refine okX T.dN.fn qtk (λvs H Q E h=>?_) (λcdv A outer s H vs Q E hr h=>?_)
 .obtain⟨_,_,_,_,_,_,rfl,_⟩:=h
  all_goals rfl
 .obtain⟨d,p,i,rs,As,row,rfl,st,l6,bn,hp,k,kx⟩:=h
  refine⟨_,(zc (zo (zi qaz (jb jd (pv 2) zb (λ_ _=>rfl)) zt (qae _)) (zc (zn (qd4 (qq5 T) (hr.mono Ex) rfl T.dB.mgx T.dB.fn.kp T.dB.bd .nil (Takes.at qbo) (qk (pv 0) (qk (pv 1) (qk (pv 2) qz qt) qt) qt)))) (zc (zo (qnj (qiu (qf5 hr) (jb jd (pv 2) zb (λ_ _=>rfl)) (pv 0))) (zc (qdu rfl (Takes.at qbo) (qed T.kK.xc T.kS.ty (qfw T) (hr.mono Ex) rfl T.gP T.kK.kp T.kS.bd .nil qas (qk (jb jd (pv 2) zb (λ_ _=>rfl)) qz zz)))) (zc (zn (qd4 (qq6 T) (hr.mono Ex) rfl T.bN.mgx T.bN.fn.kp T.bN.bd .nil (Takes.at qbo) (qk (qj5 (qf5 hr) (pv 0) (jb jd (pv 2) zb (λ_ _=>rfl)) (λ_ _=>rfl)) (qk (pv 1) (qk (pv 2) qz qt) qt) zz)))))))),?_⟩
  cases ht:isT row with
  |true =>
   cases row with
   |term x w1 o dd y m u=>exact⟨_,rfl,_,_,_,_,rfl,rfl,SqL.of (hp),rfl,rfl,_,rfl,qfb rfl ⟨_,rfl,_,rfl,_,rfl,d,p,i,rs,As,x,w1,o,dd,y,m,u,rfl,st,l6,hp,k,kx⟩⟩
   |ends=>cases ht
   |anew=>cases ht
   |longer=>cases ht
   |still=>cases ht
   |yields=>cases ht
  |false =>
   have e0:∃z,atI (qcy row) 0=some (.str z)/\z≠wS "term" := by
    cases row with
    |term=>cases ht
    |ends=>exact⟨_,rfl,Ez⟩
    |anew=>exact⟨_,rfl,Ez⟩
    |longer=>exact⟨_,rfl,Ez⟩
    |still=>exact⟨_,rfl,Ez⟩
    |yields=>exact⟨_,rfl,Ez⟩
   have e1:atI (qcy row) 1=some (.str (qaf row)):=by cases row <;>rfl
   obtain⟨z0,e0,nz0⟩:=e0
   rw[qdc ht]at k kx
   refine⟨_,rfl,_,_,_,_,rfl,rfl,SqL.of (hp),e0,rfl,_,rfl,qa0 (λz=>nz0 (V.str.inj z)) ?_⟩
   cases pn:qal rs (qaf row) with
   |none =>
    refine⟨_,rfl,_,_,_,_,rfl,rfl,SqL.of (hp),e1,_,rfl,d,_,rfl,st.non pn,_,rfl,qc1 ?_⟩
    exact⟨_,rfl,_,_,_,_,rfl,rfl,SqL.of (hp),e1,qan (show 1<=100000 by decide),λx1 n1=>⟨x1,a.kE,_,_,rfl,zd,T.kK,zg T.bE Ex,λd1 H9 hd1 kp o1 od1=>⟨rfl,x1,_,some d1,rfl,o1,⟨_,od1⟩,T.dO,(kx _ (qld pn)) x1 d1 _ (qao (((Same.refl H)).trans (qbl n1 kp)) (((Same.refl H)).free n1)) zd ((zh (λz=>by rw[z,zd]at hd1;cases hd1)).trans od1)⟩⟩⟩
   |some j =>
    obtain⟨r,A,hr',hA,hn,ru,g⟩:=st.get pn
    have nd0:=(Bg.mp st.nd).2
    obtain⟨b1,b2,b3,b4⟩:=bn r (Ai hr')
    refine⟨_,rfl,_,_,_,_,rfl,rfl,SqL.of (hp),e1,_,rfl,d,_,rfl,g,_,rfl,qbv ?_⟩
    refine⟨_,rfl,_,rfl,_,_,_,_,rfl,rfl,SqL.of (hp),e1,d,_,rfl,g,_,rfl,_,rfl,A,r,i,p,row,rfl,ru,qv3 nd0 hA,b1,b2,b3,hp,ht,λu H' kt ux=>?_,λu=>kx _ (qle pn hr' u)⟩
    exact k _ (qib pn hr' u) H' As (kt.sub λz hz=>Ar _ (qn2 hA z hz)) (λz hz=>.inl hz) (st.chg hr' hA kt ux (qe4 r row))
theorem qlz (T:Txt K mg a):FnOk P w K mg base (CX1 P w) 3 a.fY a.lE ["told", "rule", "at", "other"] (spSy a):=by
 refine okX T.bA.fn qk5 (λvs H Q E h=>?_) (λcdv A outer s H vs Q E hr h=>?_)
 .obtain⟨_,_,_,_,_,_,_,_,rfl,_⟩:=h
  all_goals rfl
 .obtain⟨d,i,j,rs,As,r,A,y,rfl,st,bn,hr',hA,k,kx⟩:=h
  refine⟨_,(qu (zo (qnj (qiu (qf5 hr) (pv 3) (pv 0))) (zc (qdu rfl (Takes.at qbo) (qed T.kK.xc T.kS.ty (qfw T) (hr.mono Ex) rfl T.gP T.kK.kp T.kS.bd .nil qas (qk (pv 3) qz qt)))) qai)
   (qu (zo (PW.pt (qji (zi qaz (pv 3) (qbd (pv 1) rfl) (qae _)) (qji (zi qfe (pv 3) (qbd (pv 1) rfl) (by with_unfolding_all rfl)) (qir (zi qrj (qbd (qj5 (qf5 hr) (pv 0) (pv 3) (λ_ _=>rfl)) rfl) (qbd (pv 1) rfl) (qae _)))))) (zc (qdu rfl (Takes.at qbo) (qed T.kI.xc T.gA.ty (qgx T) (hr.mono Ex) rfl T.kX T.kI.kp T.gA.bd .nil qas (qk (pv 2) qz qt)))) qai)
   (zc (zn (qcs AL AW AX qbj (qbd (pv 1) rfl) (qk (pv 3) qz qt)))))),?_⟩
  obtain⟨v,us,hx,hs,he,ha,hl,tl,hy⟩:=st.ru j r A hr' hA
  have nd0:=(Bg.mp st.nd).2
  obtain⟨b1,b2,b3,b4⟩:=bn r (Ai hr')
  cases pn:qal rs y with
  |none =>
   refine⟨_,rfl,_,rfl,d,_,rfl,st.non pn,_,rfl,qc1 ?_⟩
   exact⟨_,rfl,qan (show 1<=100000 by decide),λx1 n1=>⟨x1,a.kE,_,_,rfl,zd,T.kK,zg T.bE Ex,λd1 H9 hd1 kp o1 od1=>⟨rfl,x1,_,some d1,rfl,o1,⟨_,od1⟩,T.dO,(kx _ (qlf pn)) x1 d1 _ (qao (((Same.refl H)).trans (qbl n1 kp)) (((Same.refl H)).free n1)) zd ((zh (λz=>by rw[z,zd]at hd1;cases hd1)).trans od1)⟩⟩⟩
  |some l =>
   obtain⟨s,B,hs',hB,hn,rs',g⟩:=st.get pn
   obtain⟨v2,us2,hx2,_⟩:=rs'
   refine⟨_,rfl,_,rfl,d,_,rfl,g,_,rfl,qbv ?_⟩
   refine⟨_,rfl,_,rfl,_,_,_,_,_,rfl,hx,T.kB,zg T.kC Ex,rfl,rfl,_,rfl,qbw (λc=>?_) (λc=>?_)⟩
   .have c:=V.str.inj (of_decide_eq_true c)
    exact⟨_,rfl,qan (show 1<=100000 by decide),λx1 n1=>⟨x1,a.k9,_,_,rfl,zd,T.kI,zg T.kP Ex,λd1 H9 hd1 kp o1 od1=>⟨rfl,x1,_,some d1,rfl,o1,⟨_,od1⟩,T.kZ,(kx _ (qfs pn hr' hs' (.inl c))) x1 d1 _ (qao (((Same.refl H)).trans (qbl n1 kp)) (((Same.refl H)).free n1)) zd ((zh (λz=>by rw[z,zd]at hd1;cases hd1)).trans od1)⟩⟩⟩
   have c1:¬y=r.name:=λz=>c (decide_eq_true (congrArg V.str z))
   refine⟨_,rfl,_,rfl,_,_,_,_,_,rfl,hx,T.kB,zg T.kC Ex,rfl,_,_,rfl,.inl (SqL.of hy),rfl,qg3 _,_,rfl,?_⟩
   show if inV (.str y) (r.yields.map V.str)=true then _ else _
   rw[qgo]
   refine qbw (λc2=>?_) (λc2=>?_)
   .exact⟨_,rfl,qan (show 1<=100000 by decide),λx1 n1=>⟨x1,a.k9,_,_,rfl,zd,T.kI,zg T.kP Ex,λd1 H9 hd1 kp o1 od1=>⟨rfl,x1,_,some d1,rfl,o1,⟨_,od1⟩,T.kZ,(kx _ (qfs pn hr' hs' (.inr (.inl (CA.mp c2))))) x1 d1 _ (qao (((Same.refl H)).trans (qbl n1 kp)) (((Same.refl H)).free n1)) zd ((zh (λz=>by rw[z,zd]at hd1;cases hd1)).trans od1)⟩⟩⟩
   have c2:¬y∈r.yields:=λz=>c2 (CA.mpr z)
   refine⟨_,rfl,_,rfl,d,_,rfl,g,_,_,_,_,_,rfl,hx2,T.kB,zg T.kC Ex,rfl,_,rfl,_,_,_,_,_,rfl,hx,T.kB,zg T.kC Ex,rfl,rfl,_,rfl,?_⟩
   show if (!decide (V.str s.owes=V.str r.owes))=true then _ else _
   by_cases c3:s.owes=r.owes
   .refine qd9 (congrArg V.str c3) ?_
    refine⟨_,rfl,_,_,_,_,_,rfl,hx,T.kB,zg T.kC Ex,rfl,.inl ⟨rfl,_,SqL.of hy⟩,_,rfl,_,_,_,rfl,rfl,hy,qde (by rw[Ab];lia),?_⟩
    have no:=qv3 nd0 hA
    simp only[own,Bg,An,Ax,or_false,not_or]at no
    obtain⟨⟨d1,d2,d3,d4⟩,⟨d5,d6,d7⟩,⟨d8,d9⟩,d10,_⟩:=no
    have kt:=KeepT.put (S:=own A) (o':=.lst (r.yields.map V.str++[V.str y])) (show A.py∈own A by simp[own]) hy (λ_ z=>nomatch z)
    refine k _ (qhq pn hr' hs' λz=>z.elim c1 λz=>z.elim c2 λz=>z c3) _ (kt.sub λz hz=>Ar _ (qn2 hA z hz)) (st.chg hr' hA kt ⟨v,us,(zh d4).trans hx,hs.keep kt,(zh d7).trans he,(zh d9).trans ha,(zh d10).trans hl,qb4 tl kt,?_⟩ rfl)
    rw[zd]
    show _=some (HO.lst ((r.yields++[y]).map V.str))
    rw[Aq];rfl
   .refine qgn (λz=>c3 (V.str.inj z)) ?_
    exact⟨_,rfl,qan (show 1<=100000 by decide),λx1 n1=>⟨x1,a.k9,_,_,rfl,zd,T.kI,zg T.kP Ex,λd1 H9 hd1 kp o1 od1=>⟨rfl,x1,_,some d1,rfl,o1,⟨_,od1⟩,T.kZ,(kx _ (qfs pn hr' hs' (.inr (.inr c3)))) x1 d1 _ (qao (((Same.refl H)).trans (qbl n1 kp)) (((Same.refl H)).free n1)) zd ((zh (λz=>by rw[z,zd]at hd1;cases hd1)).trans od1)⟩⟩⟩
theorem qmc (T:Txt K mg a):FnOk P w K mg base (CX1 P w) 4 a.fT a.mS ["told", "at", "row"] (spSn a):=by
 refine okX T.dM.fn qhb (λvs H Q E h=>?_) (λcdv A outer s H vs Q E hr h=>?_)
 .obtain⟨_,_,_,_,_,_,rfl,_⟩:=h
  all_goals rfl
 .obtain⟨d,p,i,rs,As,row,rfl,st,bn,hp,hs,k,kx⟩:=h
  refine⟨_,(qu (zj (i:=3) qhb.nd rfl (Az rfl) (qj5 (qf5 hr) (pv 0) (jb jd (pv 2) zb (λ_ _=>rfl)) (λ_ _=>rfl)))
   (qu (zo (PW.pt (qdr (zi qaz (jb jd (pv 2) zb (λ_ _=>rfl)) zt (qae _)) (qdr (zi qea (qbd (pv 3) rfl) qbt (qae _)) (qdi (qnj (qiu (qf5 hr) (qbd (pv 3) rfl) (pv 0))))))) (zc (qdu rfl (Takes.at qbo) (qed T.kK.xc T.kS.ty (qfw T) (hr.mono Ex) rfl T.gP T.kK.kp T.kS.bd .nil qas (qk (qbd (pv 3) rfl) qz qcv)))) qai)
   (zc (zo (zi qaz (jb jd (pv 2) zb (λ_ _=>rfl)) zt (qae _)) (zc (zn (qd4 (qlz T) (hr.mono Ex) rfl T.bA.mgx T.bA.fn.kp T.bA.bd .nil (Takes.at qbo) (qk (pv 0) (qk (pv 3) (qk (pv 1) (qk (jb jd (pv 2) zb (λ_ _=>rfl)) qz zz) qt) qt) qt)))) qai)))),?_⟩
  have e1:atI (qcy row) 1=some (.str (qaf row)):=by cases row <;>rfl
  cases pn:qal rs (qaf row) with
  |none=>rw[pn]at hs;cases hs
  |some j =>
   obtain⟨r,A,hr',hA,hn,ru,g⟩:=st.get pn
   obtain⟨v,us,hx,_⟩:=id ru
   refine⟨_,rfl,_,rfl,_,_,_,_,rfl,rfl,SqL.of (hp),e1,d,_,rfl,g,?_⟩
   dsimp only[]
   have kr:=KeepT.of (S:=d::As.flatMap own) (Same.refl H)
   cases row with
   |term x w1 o dd y m u =>
    have e:=qic (x:=x) (i:=i) (w:=w1) (o:=o) (d:=dd) (y:=y) (m:=m) (u:=u) pn hr'
    rw[e]at k kx
    refine⟨_,rfl,_,_,_,_,rfl,rfl,SqL.of (hp),rfl,rfl,_,rfl,qfb rfl ?_⟩
    cases eb:r.base with
    |none =>
     rw[eb]at k
     refine⟨_,rfl,_,_,_,_,_,rfl,hx,T.kB,zg T.kC Ex,rfl,rfl,_,rfl,qd9 (by rw[eb];rfl) (qbv ⟨_,rfl,_,_,_,_,rfl,rfl,SqL.of (hp),rfl,rfl,_,rfl,qa0 Ez (k _ rfl H kr st)⟩)⟩
    |some z =>
     rw[eb]at k kx
     dsimp only at k kx
     refine⟨_,rfl,_,_,_,_,_,rfl,hx,T.kB,zg T.kC Ex,rfl,rfl,_,rfl,qgn (λz=>by rw[eb]at z;cases z) ?_⟩
     cases pz:qal rs z with
     |none =>
      have g2:DGet H d (qd8 r.base) none:=by rw[eb];exact st.non pz
      refine⟨_,rfl,_,_,_,_,_,rfl,hx,T.kB,zg T.kC Ex,rfl,_,rfl,d,_,rfl,g2,_,rfl,qc1 ?_⟩
      have kz:∀(x d:Addr)(H':Hp),Same H H'->H' x=some (exO x a.kE (some d) false)->H' d=some (exD d [("name",qd8 r.base)])->E (.ref x) (some d) H':=by
       rw[eb]
       exact kx (.term z) (by rw[pz];rfl)
      exact⟨_,rfl,_,_,_,_,_,rfl,hx,T.kB,zg T.kC Ex,rfl,qan (show 1<=100000 by decide),λx1 n1=>⟨x1,a.kE,_,_,rfl,zd,T.kK,zg T.bE Ex,λd1 H9 hd1 kp o1 od1=>⟨rfl,x1,_,some d1,rfl,o1,⟨_,od1⟩,T.dO,kz x1 d1 _ (qao (((Same.refl H)).trans (qbl n1 kp)) (((Same.refl H)).free n1)) zd ((zh (λz=>by rw[z,zd]at hd1;cases hd1)).trans od1)⟩⟩⟩
     |some jz =>
      obtain⟨_,B2,_,_,_,_,g2⟩:=st.get pz
      have g2:DGet H d (qd8 r.base) (some (.ref B2.p)):=by rw[eb];exact g2
      refine⟨_,rfl,_,_,_,_,_,rfl,hx,T.kB,zg T.kC Ex,rfl,_,rfl,d,_,rfl,g2,_,rfl,qbv ⟨_,rfl,_,_,_,_,rfl,rfl,SqL.of (hp),rfl,rfl,_,rfl,qa0 Ez (k _ (by rw[pz];rfl) H kr st)⟩⟩
   |yields x y =>
    rw[qlg (x:=x) pn]at k kx
    refine⟨_,rfl,_,_,_,_,rfl,rfl,SqL.of (hp),rfl,rfl,_,rfl,qa0 Ez (qbv ⟨_,rfl,_,_,_,_,rfl,rfl,SqL.of (hp),rfl,rfl,_,rfl,qfb rfl ?_⟩)⟩
    exact⟨_,rfl,_,rfl,_,rfl,_,rfl,_,_,_,_,rfl,rfl,SqL.of (hp),rfl,d,i,j,rs,As,r,A,y,rfl,st,bn,hr',hA,k,kx⟩
   |ends x y =>
    exact⟨_,rfl,_,_,_,_,rfl,rfl,SqL.of (hp),rfl,rfl,_,rfl,qa0 Ez (qbv ⟨_,rfl,_,_,_,_,rfl,rfl,SqL.of (hp),rfl,rfl,_,rfl,qa0 Ez (k _ rfl H kr st)⟩)⟩
   |anew x y =>
    exact⟨_,rfl,_,_,_,_,rfl,rfl,SqL.of (hp),rfl,rfl,_,rfl,qa0 Ez (qbv ⟨_,rfl,_,_,_,_,rfl,rfl,SqL.of (hp),rfl,rfl,_,rfl,qa0 Ez (k _ rfl H kr st)⟩)⟩
   |longer x y u t =>
    exact⟨_,rfl,_,_,_,_,rfl,rfl,SqL.of (hp),rfl,rfl,_,rfl,qa0 Ez (qbv ⟨_,rfl,_,_,_,_,rfl,rfl,SqL.of (hp),rfl,rfl,_,rfl,qa0 Ez (k _ rfl H kr st)⟩)⟩
   |still x y z =>
    exact⟨_,rfl,_,_,_,_,rfl,rfl,SqL.of (hp),rfl,rfl,_,rfl,qa0 Ez (qbv ⟨_,rfl,_,_,_,_,rfl,rfl,SqL.of (hp),rfl,rfl,_,rfl,qa0 Ez (k _ rfl H kr st)⟩)⟩
theorem qn8 (T:Txt K mg a):FnOk P w K mg base CX0 1 a.fE a.nC ["self", "at"] (qyb K "at"):=by
 refine T.dR.fn.ok qnx (λvs H Q E h=>?_) (λcdv A outer s H vs Q E hr h=>?_)
 .obtain⟨_,_,_,_,rfl,_⟩:=h
  all_goals rfl
 .obtain⟨x,C,y,ini,rfl,hx,xa,no,k⟩:=h
  refine⟨_,(qu (zn (qgf T.gQ rfl T.kM (qk (pv 0) (qk (pv 1) qz qt) qt)))
   (zc (qh2 (pv 0) (pv 1) rfl))),?_⟩
  refine⟨_,rfl,_,rfl,x,C,none,[y],ini,rfl,hx,xa.xc,qan (show 1<=100000 by decide),?_⟩
  refine⟨_,rfl,_,rfl,x,C,true,rfl,xa.set no,.inl ⟨hx,λdx hd=>?_⟩⟩
  have ne:dx≠x:=λz=>by rw[z,hx]at hd;cases hd
  exact k dx _ hd (λb o hb e=>by rw[zh hb,zh (qah e hd)];exact e) zd (by rw[zh ne];exact zd)
theorem ql0 (T:Txt K mg a):FnOk P w K mg base (CX1 P w) 7 a.nV a.lQ ["text"] (spBkG a):=by
 refine okX T.kY.fn qc5 (λvs H Q E h=>?_) (λcdv A outer s H vs Q E hr h=>?_)
 .obtain⟨_,rfl,_⟩:=h
  all_goals rfl
 .obtain⟨ls,rfl,hls,k,kx⟩:=h
  refine⟨_,(qu (zj (i:=1) qc5.nd rfl (Az rfl) qkk)
   (qu (zj (i:=2) qc5.nd rfl (Az rfl) (zu qz))
   (qu (qcn BB.leaving rfl (qrz rfl T.lR (qk (zp (qt1 T) (hr.mono Ex) rfl T.dG.mgx T.dG.fn.kp T.dG.bd .nil qas (qk (pv 0) qz qt)) qz zx)) (qf0 rfl (qa8 (qam (i:=3) qc5.nd rfl (Az rfl)) (qa8 (qam (i:=4) qc5.nd rfl (Az rfl)) qe2))) (qu (zj (i:=5) qc5.nd rfl (Az rfl) (zp (qyw T) (hr.mono Ex) rfl T.gW.mgx T.gW.fn.kp T.gW.bd .nil qas (qk (pv 4) qz qt)))
   (qu (zo (PW.pt (qji (zi qaz (pv 3) (qbn (v:=.int 40) rfl T.pY.choose_spec ⟨_,rfl⟩) (qae _)) (qir (zi op_isN (pv 5) qbt (qae _))))) (zc (qdu rfl (Takes.at qbo) (qed T.kO.xc T.dR.ty (qn8 T) (hr.mono Ex) rfl T.nO T.kO.kp T.dR.bd .nil qas (qk (pv 3) qz qt)))) qai)
   (qu (zn (qd4 (qt5 T) (hr.mono Ex) rfl T.dN.mgx T.dN.fn.kp T.dN.bd .nil (Takes.at qbo) (qk (pv 1) (qk (pv 3) (qk (pv 5) qz qt) qt) qt)))
   (zc (zn (qcs AL AW AX qbj (pv 2) (qk (pv 5) qz qt))))))))
   (qu (qcn BB.leaving rfl (qrz rfl T.lR (qk (pv 2) qz qt)) (qf0 rfl (qa8 (qam (i:=3) qc5.nd rfl (Az rfl)) (qa8 (qam (i:=5) qc5.nd rfl (Az rfl)) qe2))) (zc (zn (qd4 (qmc T) (hr.mono Ex) rfl T.dM.mgx T.dM.fn.kp T.dM.bd .nil (Takes.at qbo) (qk (pv 1) (qk (pv 3) (qk (pv 5) qz qt) qt) qt)))))
   (zc (zf (qu7 T.rZ (qq3 T) (hr.mono Ex) rfl T.tM T.lI.bd .nil (Takes.at qbo) (qk (qo2 rfl (by rfl) T.gH qei (pv 1)) qz zx)))))))),?_⟩
  refine λd hd=>?_
  obtain⟨s0,h0⟩:=alc (o:=.dK []) hd
  generalize upd H d _=H0 at s0 h0 |-
  refine⟨qef,λq hq=>?_⟩
  obtain⟨s1,h1⟩:=alc (o:=.lst []) hq
  have hd1:=s1 _ _ h0
  generalize upd H0 q _=H1 at s1 h1 hd1 |-
  have dq:d≠q:=λz=>by rw[<- z,h0]at hq;cases hq
  have s01:=s0.trans s1
  have nqH:=s0.free hq
  refine⟨_,rfl,ls,rfl,hls,λql H2 nql s2 e2=>?_⟩
  have ndl:ql≠d:=λz=>by rw[z,hd1]at nql;cases nql
  have nlq:ql≠q:=λz=>by rw[z,h1]at nql;cases nql
  have b0:RB a H H2 d q ql ls 0 [] [] [] []:=⟨s01.trans s2,e2,⟨s2 _ _ hd1,rfl,by simp,by simp,(λi r A h=>by cases h)⟩,s2 _ _ h1,rfl,(λj y e=>by cases e),rfl,rfl,(λr hr=>by cases hr),Ex,(λr hr=>by cases hr),(λr hr=>by cases hr),by simp[Bh dq],by simp[ndl],nlq,λz hz=>by
   simp only[List.flatMap_nil,An,Ax,or_false]at hz
   rcases hz with rfl|rfl
   .exact nqH
   .exact hd⟩
  have lo:(qhr ls).length=ls.length:=by unfold qhr;rw[Ab]
  have hn:=hls.n
  refine⟨_,_,rfl,e2,qoz (K:=K) (a:=ql) (xs:=ls.map V.str) (λi σ H'=>(∃rs As rv rows,RB a H H' d q ql ls i rs As rv rows)/\∃v3 v4 v5:Option V,σ=[some (.str (qev ls)),some (.ref d),some (.ref q),v3,v4,v5]) ⟨⟨_,_,_,_,b0⟩,none,none,none,rfl⟩ (λi σ H' _ h=>by obtain⟨⟨_,_,_,_,b⟩,_⟩:=h;exact SqL.of b.hl) ?_ ?_⟩
  .rintro i v t0 σ H' hv ⟨⟨rs,As,rv,rows,b⟩,v3,v4,v5,rfl⟩ ht0
   rw[Al]at hv
   cases el:ls[i]? with
   |none=>rw[el]at hv;cases hv
   |some l =>
   rw[el]at hv
   cases hv
   have hi:i<ls.length:=(Ac.mp el).1
   obtain⟨ll,_⟩:=hls.c l (Ai el)
   have hop:(qhr ls)[i]?=some (opR l):=by unfold qhr;rw[Al,el];rfl
   obtain⟨ra,_⟩:=qjr b.rd hop
   obtain⟨st,et⟩:=alc (o:=.tup [V.int i,V.str l]) ht0
   generalize upd H' t0 _=J0 at st et |-
   refine⟨_,_,rfl,SqT.of et,rfl,_,_,rfl,_,_,rfl,rfl,?_⟩
   have rv':=rowV_R (Ce l (wS " "))
   have er:∀{e:Er},qad [] 0 (qhr ls)=.error e->qcc ls=.error e:=λh=>by unfold qcc;rw[h]
   refine⟨_,rfl,l,rfl,(by show l.cps.size<=1000;lia),λqr J1 us nqr sr erow eqr=>?_,λerow J1 sr=>?_⟩
   .have b1:=(b.same st).same sr
    cases eo:opR l with
    |none=>unfold opR at eo;rw[eo]at rv';rw[erow]at rv';cases rv'
    |some row =>
    have eu:us=qcy row:=by unfold opR at eo;rw[eo]at rv';rw[erow]at rv';exact AD rv'
    subst eu
    rw[eo]at hop ra
    refine⟨_,rfl,rfl,_,rfl,qbw (λc=>?_) (λc=>?_)⟩
    .have c:(i:Int)=40:=V.int.inj (of_decide_eq_true c)
     exact⟨_,rfl,qan (show 1<=100000 by decide),λx1 n1=>⟨x1,a.kF,_,_,rfl,zd,T.kO,zg T.gZ Ex,λd1 H9 hd1 kp o1 od1=>⟨rfl,x1,_,some d1,rfl,o1,⟨_,od1⟩,T.fD,(kx _ (er (ra.trans (qjs (by lia) _ _)))) x1 d1 _ (qao (((b.sm.trans (st.trans sr))).trans (qbl n1 kp)) (((b.sm.trans (st.trans sr))).free n1)) zd ((zh (λz=>by rw[z,zd]at hd1;cases hd1)).trans od1)⟩⟩⟩
    have n40:i≠40:=λz=>c (decide_eq_true (by rw[z];rfl))
    refine⟨_,rfl,rfl,_,rfl,qa0 (λz=>nomatch z) ?_⟩
    have qrn:qr∉d::As.flatMap own:=λz=>(b.same st).st.inn qr z nqr
    have qrq:qr≠q:=λz=>by rw[z,(b.same st).hq]at nqr;cases nqr
    refine⟨_,rfl,_,rfl,_,rfl,d,qr,i,rs,As,row,rfl,b1.st,b1.l6,(λr hr=>by obtain⟨g1,g2,g3,g4⟩:=b1.bn r hr;exact⟨by lia,by lia,by lia,by lia⟩),eqr,λrs' e H3 As' kt fr st'=>?_,λe h=>(kx e (er (ra.trans (qlh n40 h _)))).same b1.sm⟩
    have hq3:H3 q=some (.lst rv):=kt _ _ (.inl b1.qo) b1.hq
    have rl:=b1.rl
    have lr:rows.length<=i:=by
     have:=congrArg Cv b1.ro
     rw[Ab,Av]at this
     lia
    refine⟨_,rfl,.inl ⟨rfl,_,SqL.of hq3⟩,_,rfl,_,_,_,rfl,rfl,hq3,qde (by lia),?_⟩
    exact⟨⟨_,_,_,_,b1.next eqr qrn qrq hop n40 e kt fr st'⟩,_,_,_,rfl⟩
   .have eo:opR l=none:=by
     cases eo:opR l with
     |none=>rfl
     |some row=>unfold opR at eo;rw[eo]at rv';rw[erow]at rv';cases rv'
    rw[eo]at hop ra
    have sA:=b.sm.trans (st.trans sr)
    refine⟨_,rfl,rfl,_,rfl,qbw (λc=>?_) (λc=>?_)⟩
    .have c:(i:Int)=40:=V.int.inj (of_decide_eq_true c)
     exact⟨_,rfl,qan (show 1<=100000 by decide),λx1 n1=>⟨x1,a.kF,_,_,rfl,zd,T.kO,zg T.gZ Ex,λd1 H9 hd1 kp o1 od1=>⟨rfl,x1,_,some d1,rfl,o1,⟨_,od1⟩,T.fD,(kx _ (er (ra.trans (qjs (by lia) _ _)))) x1 d1 _ (qao ((sA).trans (qbl n1 kp)) ((sA).free n1)) zd ((zh (λz=>by rw[z,zd]at hd1;cases hd1)).trans od1)⟩⟩⟩
    have n40:i≠40:=λz=>c (decide_eq_true (by rw[z];rfl))
    refine⟨_,rfl,rfl,_,rfl,qfb rfl ?_⟩
    exact⟨_,rfl,qan (show 1<=100000 by decide),λx1 n1=>⟨x1,a.kF,_,_,rfl,zd,T.kO,zg T.gZ Ex,λd1 H9 hd1 kp o1 od1=>⟨rfl,x1,_,some d1,rfl,o1,⟨_,od1⟩,T.fD,(kx _ (er (ra.trans (qqs n40 _)))) x1 d1 _ (qao ((sA).trans (qbl n1 kp)) ((sA).free n1)) zd ((zh (λz=>by rw[z,zd]at hd1;cases hd1)).trans od1)⟩⟩⟩
  .rintro σ H' ⟨⟨rs0,As,rv,rows,b⟩,v3,v4,v5,rfl⟩
   have bd:=b.rd
   have bo:=b.ro
   rw[Ab,<- lo,B0]at bd bo
   have lr:rows.length=ls.length:=by rw[<- lo,bo,Ab]
   have rf:qcc ls=qat rs0 0 rows:=by
    unfold qcc
    rw[bd,bo]
    dsimp only
    rw[qkb]
   have c0:SB a H H' d q 0 rs0 rs0 As rv rows:=⟨b.sm,b.st,b.hq,b.rl,b.rr,⟨rfl,rfl⟩,rfl,λr hr=>by obtain⟨g1,g2,g3,g4⟩:=b.bn r hr;rw[Ab]at g1 g2 g3 g4;exact⟨by lia,by lia,by lia,by lia⟩,b.nm,b.qo,b.fr⟩
   refine⟨_,rfl,_,_,rfl,b.hq,qoz (K:=K) (a:=q) (xs:=rv) (λi σ J=>(∃rs,SB a H J d q i rs0 rs As rv rows)/\∃v3 v4 v5:Option V,σ=[some (.str (qev ls)),some (.ref d),some (.ref q),v3,v4,v5]) ⟨⟨_,c0⟩,_,_,_,rfl⟩ (λi σ J _ h=>by obtain⟨⟨_,b⟩,_⟩:=h;exact SqL.of b.hq) ?_ ?_⟩
   .rintro i v t0 σ J hv ⟨⟨rs,sb⟩,v3,v4,v5,rfl⟩ ht0
    have hi:i<rows.length:=by rw[<- b.rl];exact(Ac.mp hv).1
    obtain⟨p,row,rfl,hrow,_,_,_⟩:=sb.rr i v hv
    obtain⟨st,et⟩:=alc (o:=.tup [V.int i,V.ref p]) ht0
    generalize upd J t0 _=J0 at st et |-
    have sb1:=sb.same st
    obtain⟨p2,row2,e2',hrow2,hp,_,_⟩:=sb1.rr i _ hv
    cases e2'
    rw[hrow]at hrow2
    cases hrow2
    obtain⟨sa,_⟩:=qhs sb1.se hrow
    refine⟨_,_,rfl,SqT.of et,rfl,_,_,rfl,_,_,rfl,rfl,?_⟩
    refine⟨_,rfl,_,rfl,_,rfl,d,p,i,rs,As,row,rfl,sb1.st,(λr hr=>by obtain⟨g1,g2,g3,g4⟩:=sb1.bn r hr;exact⟨by lia,by lia,by lia,by lia⟩),hp,sb1.nm row (Ai hrow),λrs' e H3 kt st'=>?_,λe h=>(kx e (rf.trans (sa.trans (qm3 h _)))).same sb1.sm⟩
    exact⟨⟨_,sb1.next hrow e kt st'⟩,_,_,_,rfl⟩
   .rintro σ J ⟨⟨rs,sb⟩,v3,v4,v5,rfl⟩
    have se:=sb.se
    rw[b.rl,B0]at se
    have rok:=rf.trans se
    obtain⟨kq,ko⟩:=k rs rok
    have bok:=qyh se b.st.nn b.ht
    have l6:rs.length<=6:=by
     have:=congrArg Cv sb.sd.nm
     rw[Ab,Ab]at this
     rw[this];exact b.l6
    refine⟨_,rfl,d,_,rfl,sb.st.hd,λqv nqv=>?_⟩
    rw[qpa sb.st.ln]
    obtain⟨sv,ev⟩:=alc (o:=.lst (As.map λA=>V.ref A.p)) nqv
    generalize upd J qv _=J1 at sv ev |-
    refine λxb dx nx nd ne=>?_
    have keep:Same J1 (upd (upd J1 dx (.own xb)) xb (.ins a.kJ dx [])):=λb u e=>by rw[zh (qah e nx),zh (qah e nd)];exact e
    have sAll:=sb.sm.trans sv
    have ruJ:=λi r A h1 h2=>((sb.st.ru i r A h1 h2).same sv)
    refine⟨xb,dx,qv,rs,As,rfl,zd,keep _ _ ev,sb.st.ln,sb.st.nn,l6,bok,λi r A h1 h2=>(ruJ i r A h1 h2).same keep,λH9 os b9 bk9 ors=>⟨rfl,kq xb H9 As os (sAll.trans (b9.made nx nd)) ⟨bk9,sb.st.ln,sb.st.nn,l6,λi r A h1 h2=>(ruJ i r A h1 h2).same (b9.made nx nd),ors,bok⟩⟩,ko.same (sAll.trans keep)⟩
theorem qau (T:Txt K mg a):FnOk P w K mg base CX0 1 a.mE a.pB ["_law_script", "_law_k"] (spCell K):=by
 refine T.k8.fn.ok qo8 (λvs H Q E h=>?_) (λcdv A outer s H vs Q E hr h=>?_)
 .obtain⟨_,_,_,rfl,_⟩:=h
  all_goals rfl
 .obtain⟨l,ns,i,rfl,hS,h0,k⟩:=h
  refine⟨_,(qu (zo (zi qob (pv 1) (zq qaq (by rfl) T.kG qap (qk (pv 0) qz qt)) (qae _)) (zc (zf (jb jd (pv 0) (pv 1) (λ_ _=>rfl)))) qai)
   (zc (zf zb))),?_⟩
  refine⟨_,rfl,_,rfl,_,_,rfl,.inl ⟨_,hS,rfl⟩,_,_,rfl,rfl,_,rfl,?_⟩
  refine qbw (λc=>?_) (λc=>?_)
  .exact⟨_,rfl,_,rfl,_,_,_,_,rfl,rfl,hS,qvs h0 (of_decide_eq_true c),k⟩
  .have e:cell ns i=0:=qvt (λz=>c (decide_eq_true z))
   rw[e]at k;exact k
theorem ql1 (T:Txt K mg a):FnOk P w K mg base CX0 1 a.fN a.mK ["_law_cell", "_law_many"] spWo7:=by
 refine T.kU.fn.ok qbk (λvs H Q E h=>?_) (λcdv A outer s H vs Q E hr h=>?_)
 .obtain⟨_,_,rfl,_⟩:=h
  all_goals rfl
 .obtain⟨c,m,rfl,hm,k⟩:=h
  refine⟨_,(qu (zj (i:=2) qbk.nd rfl (Az rfl) zt)
   (qu (zj (i:=3) qbk.nd rfl (Az rfl) (zk qa1 (zk qa1 zb (zk qar (pv 0) zb)) (zk qar (zk qbc (pv 0) zb) (zk qf1 zb (zk qar (pv 0) zb)))))
   (qu (zj (i:=4) qbk.nd rfl (Az rfl) (zk qar (zk qbc (pv 0) zb) (zk qf1 (pv 3) (zk qar (pv 0) zb))))
   (qu (zj (i:=5) qbk.nd rfl (Az rfl) (zu (qk zb (qk zb (qk zb (qk zb (qk zb (qk zb (qk zb (qk zb qz ze) ze) ze) ze) ze) ze) ze) ze)))
   (qu (zj (i:=6) qbk.nd rfl (Az rfl) zt)
   (qu (qcn B1 rfl (qdq rfl T.kQ (qk (pv 3) qz qt)) (qam (i:=7) qbk.nd rfl (Az rfl)) (zc (zj (i:=6) qbk.nd rfl (Az rfl) (zk qab (pv 6) (jb quk (pv 2) (zk qar (zk qar (zk qe7 (pv 0) zb) (jb jd (pv 5) (pv 7) (λ_ _=>rfl))) zb) (λ_ _=>rfl))))))
   (qu (zj (i:=8) qbk.nd rfl (Az rfl) (zu qz))
   (qu (qcn B1 rfl (qdq rfl T.kQ (qk (pv 1) qz qt)) (qam (i:=7) qbk.nd rfl (Az rfl)) (qu (zj (i:=9) qbk.nd rfl (Az rfl) (zk qar (zk qa1 (zk qbc (pv 0) zb) (zk qbc (pv 7) (zk qa1 zb (zk qar (pv 0) zb)))) zb))
   (qu (zj (i:=10) qbk.nd rfl (Az rfl) (zk qab (zk qab (qa3 qnp (pv 6) qb8 (qa2 (pv 4))) (jb quk (pv 2) (pv 9) (λ_ _=>rfl))) (qa3 qnp (pv 6) (qa2 (zk qa1 (pv 4) zb)) qb8)))
   (qu (zo (PW.pt (qdr (zi qaz (zk qar (pv 0) zb) zb (qae _)) (qdi (zi qaz (zk qar (pv 7) zb) zb (qae _))))) (zc (zj (i:=10) qbk.nd rfl (Az rfl) (qa3 qnp (pv 10) qb8 (qa2 (zk qa1 (pv 4) zb))))) qai)
   (zc (zn (qcs AL AW AX qbj (pv 8) (qk (pv 10) qz qt))))))))
   (zc (zf (pv 8))))))))))),?_⟩
  have za:=az_len
  obtain⟨z,n,e,eS,en,ee,he,hn,hz,g1,g2⟩:=num46 c
  have m52:m<=52:=hm.elim (λh=>A0 h Ex) (·.2)
  refine⟨_,rfl,_,_,rfl,rfl,(pos Ex),_,_,rfl,rfl,_,rfl,_,_,rfl,rfl,⟨Ex,Ex⟩,_,rfl,_,_,rfl,rfl,(pos Ex),_,_,rfl,rfl,_,_,rfl,rfl,(pos g1),_,_,rfl,rfl,?_⟩
  dsimp only[]
  rw[eS]
  refine⟨_,rfl,_,_,rfl,rfl,⟨Ex,Ex⟩,_,rfl,_,rfl,_,_,rfl,rfl,(pos Ex),_,_,rfl,rfl,_,_,rfl,rfl,(pos g2),?_⟩
  dsimp only[]
  rw[en]
  refine⟨qan (show 8<=100000 by decide),λpp hpp=>?_⟩
  have s0:=zm (o:=.lst (prL.map V.int)) hpp
  have h0:upd H pp (.lst (prL.map V.int)) pp=some (.lst (prL.map V.int)):=zd
  change _ at h0
  have e0:upd H pp (.lst [V.int 100003,V.int 100019,V.int 100043,V.int 100049,V.int 100057,V.int 100069,V.int 100103,V.int 100109])=upd H pp (.lst (prL.map V.int)):=rfl
  rw[e0]
  generalize upd H pp (.lst (prL.map V.int))=H0 at s0 h0 |-
  have bnd:=rb (n:=z) (A0 hz Ex)
  refine⟨_,rfl,_,rfl,bnd.1,bnd.2,qfc (lo:=0) (n:=((z:Int)).toNat) (λi σ H'=>H'=H0/\∃(x:Str)(v7:Option V),σ=[some (.int c),some (.int (m:Int)),some (.str az),some (.int (z:Int)),some (.int (n:Int)),some (.ref pp),some (.str x),v7,none,none,none]/\x.length=i/\x.cps.toList.all low=true)
   ⟨rfl,Aa "",none,rfl,Ez,Ez⟩ ?_ ?_⟩
  .rintro i σ H' hi ⟨rfl,x,v7,rfl,hl,hlow⟩
   have hi:i<z:=hi
   rw[C3]
   obtain⟨p,p0,pa⟩:=pr_at (k:=i) (AG hi hz)
   obtain⟨j,ej,j26⟩:∃j:Nat,c*48271 % p % 26=(j:Int)/\j<26:=md _ 26 Ex
   refine⟨_,rfl,_,rfl,_,rfl,_,_,rfl,rfl,.inr ⟨Ex,Ex⟩,_,rfl,_,rfl,_,_,_,_,rfl,rfl,SqL.of h0,qbu pa,_,_,rfl,rfl,(pos p0),_,_,rfl,rfl,(pos Ex),_,_,_,rfl,rfl,qan (by rw[za];decide),(show atI az.cps.toList (c*48271 % p % 26)=_ by rw[ej];exact qy5 j26),_,_,rfl,rfl,qan (show x.length+1<=100000 by lia),?_⟩
   refine⟨rfl,_,_,rfl,?_,?_⟩
   .rw[qg4,hl]
    rfl
   .rw[qch,List.all_append,hlow]
    show (true && [97+j].all low)=true
    rw[Dg,low26 j26];rfl
  .rintro σ H' ⟨rfl,st,v7,rfl,hl,hlow⟩
   have hl:st.length=z:=hl
   refine⟨qef,λq hq=>?_⟩
   have s1:=s0.trans (zm (o:=.lst []) hq)
   have h1:=zd (H:=H') (a:=q) (o:=.lst [])
   have nq:=s0.free hq
   generalize upd H' q _=H1 at s1 h1 |-
   have bm:=rb (n:=m) (A0 m52 Ex)
   refine⟨_,rfl,_,rfl,bm.1,bm.2,qfc (lo:=0) (n:=((m:Int)).toNat) (λi σ H'=>Same H H'/\∃v7 v9 v10:Option V,σ=[some (.int c),some (.int (m:Int)),some (.str az),some (.int (z:Int)),some (.int (n:Int)),some (.ref pp),some (.str st),v7,some (.ref q),v9,v10]/\H' q=some (.lst (((Bl i).map (wdS st.cps.toList n e (c / 128))).map V.str)))
    ⟨s1,_,none,none,rfl,h1⟩ ?_ ?_⟩
   .rintro i σ H' hi ⟨s2,v7,v9,v10,rfl,h2⟩
    have hi:i<m:=hi
    rw[C3]
    have lz:((((Bl i).map (wdS st.cps.toList n e (c / 128))).map V.str)).length<=90000:=by rw[Ab,Ab,Cm];exact A0 (DE hi) (A0 m52 Ex)
    have ed:(c / 128+(i:Int) / (1+c % 2)) % 26=(((sgn (c / 128) e i-97:Nat)):Int):=sgn_ed ee
    have sg26:sgn (c / 128) e i-97<26:=sgn_26
    have sg97:97+(sgn (c / 128) e i-97)=sgn (c / 128) e i:=sgn_97
    refine⟨_,rfl,_,_,rfl,rfl,⟨Ex,Ex⟩,_,rfl,_,rfl,_,_,rfl,rfl,(pos Ex),_,_,rfl,rfl,_,_,rfl,rfl,cd2 ee he,_,_,rfl,rfl,_,_,rfl,rfl,(pos Ex),?_⟩
    dsimp only[]
    rw[ed]
    have cat:=qy5 sg26
    rw[sg97]at cat
    have t1:=A0 (Dv st none (some (n:Int))) (BZ hl)
    have t2:=A0 (Dv st (some ((n:Int)+1)) none) (BZ hl)
    refine⟨_,rfl,_,rfl,_,rfl,_,rfl,qan (A0 (BZ hl) (A0 hz Ex)),_,rfl,_,rfl,_,_,_,rfl,rfl,qan (by rw[za];decide),cat,_,_,rfl,rfl,qan (A0 (Dy t1) (A0 (Dy hz) Ex)),_,rfl,_,rfl,_,_,rfl,rfl,_,rfl,_,rfl,qan (A0 (BZ hl) (A0 hz Ex)),_,_,rfl,rfl,qan (by rw[qg4];exact A0 (Nat.add_le_add (Dy t1) t2) (A0 (Nat.add_le_add (Dy hz) hz) Ex)),?_⟩
    dsimp only[]
    rw[qx5 (st:=st) (n:=n) (c:=sgn (c / 128) e i) (by rw[hl];exact A0 (Nat.le_add_right _ _) hn)]
    have lL:st.cps.toList.length=z:=by rw[AQ];exact hl
    have lw:(⟨(wdL st.cps.toList n (sgn (c / 128) e i)).toArray⟩:Str).length<=100000:=by
     show (wdL st.cps.toList n (sgn (c / 128) e i)).toArray.size<=100000
     rw[Aw]
     unfold wdL
     rw[Ah,At,Av,Ba,lL]
     lia
    have fin:∀w:Str,w=wdS st.cps.toList n e (c / 128) i->∀v9:Option V,Same H (upd H' q (.lst ((((Bl i).map (wdS st.cps.toList n e (c / 128))).map V.str)++[V.str w])))/\∃v7 v9' v10:Option V,[some (V.int c),some (.int (m:Int)),some (.str az),some (.int (z:Int)),some (.int (n:Int)),some (.ref pp),some (.str st),some (.int (i:Int)),some (.ref q),v9,some (.str w)]=[some (V.int c),some (.int (m:Int)),some (.str az),some (.int (z:Int)),some (.int (n:Int)),some (.ref pp),some (.str st),v7,some (.ref q),v9',v10]/\upd H' q (.lst ((((Bl i).map (wdS st.cps.toList n e (c / 128))).map V.str)++[V.str w])) q=some (.lst (((Bl (i+1)).map (wdS st.cps.toList n e (c / 128))).map V.str)):=λw hw v9=>by
     refine⟨qao s2 nq,_,_,_,rfl,?_⟩
     rw[zd,List.range_succ,Aq,Aq,hw]
     rfl
    refine⟨_,rfl,_,_,rfl,rfl,(pos Ex),rfl,_,rfl,?_⟩
    by_cases c1:c % 2=1
    .refine qfb (congrArg V.int c1) ⟨_,rfl,_,_,rfl,rfl,(pos Ex),rfl,_,rfl,?_⟩
     by_cases c2:(i:Int) % 2=1
     .refine qfb (congrArg V.int c2) ⟨_,rfl,_,rfl,_,_,rfl,rfl,_,rfl,_,rfl,qan lw,?_⟩
      dsimp only[]
      rw[cut_eq (by rw[lL];exact A0 (Nat.le_add_right _ _) hn)]
      refine⟨_,rfl,.inl ⟨rfl,_,SqL.of h2⟩,_,rfl,_,_,_,rfl,rfl,h2,qde lz,?_⟩
      exact fin _ (by unfold wdS;rw[if_pos ⟨eo1 ee c1,io1 c2⟩]) _
     .refine qa0 (λz=>c2 (V.int.inj z)) ⟨_,rfl,.inl ⟨rfl,_,SqL.of h2⟩,_,rfl,_,_,_,rfl,rfl,h2,qde lz,?_⟩
      exact fin _ (by unfold wdS;rw[if_neg (λz=>ni1 c2 z.2)]) _
    .refine qa0 (λz=>c1 (V.int.inj z)) (qbv ⟨_,rfl,.inl ⟨rfl,_,SqL.of h2⟩,_,rfl,_,_,_,rfl,rfl,h2,qde lz,?_⟩)
     exact fin _ (by unfold wdS;rw[if_neg (λz=>ne1 ee c1 z.1)]) _
   .rintro σ H' ⟨s2,v7,v9,v10,rfl,h2⟩
    refine⟨_,rfl,k q H' _ nq s2 h2 (by rw[Ab,Cm];rfl) (wds_nd he (by rw[AQ];show n+1+e<=st.length;rw[hl];exact hn) (λk hk=>?_)) (λx hx=>?_)⟩
    .rcases Nat.le_one_iff_eq_zero_or_eq_one.mp he with rfl|rfl
     .rw[Nat.div_one];lia
     .lia
    obtain⟨j,_,rfl⟩:=AM.mp hx
    have lL:st.cps.toList.length=z:=by rw[AQ];exact hl
    exact wds_ok hlow (by lia) (by lia) j
theorem qpv (T:Txt K mg a):FnOk P w K mg base CX0 2 a.fP a.lA ["_law_script", "_law_at", "_law_names"] (spYl K):=by
 refine T.dJ.fn.ok qc6 (λvs H Q E h=>?_) (λcdv A outer s H vs Q E hr h=>?_)
 .obtain⟨_,_,_,_,_,rfl,_⟩:=h
  all_goals rfl
 .obtain⟨l,pn,ns,k0,names,rfl,hS,hn,nnd,hk,l6,k⟩:=h
  refine⟨_,(qu (zj (i:=3) qc6.nd rfl (Az rfl) (zp (qau T) (hr.mono Ex) rfl T.k8.mgx T.k8.fn.kp T.k8.bd .nil qas (qk (pv 0) (qk (zk qa1 zb (zk qe7 zb (pv 1))) qz zy) qt)))
   (qu (zj (i:=4) qc6.nd rfl (Az rfl) (zk qar (zp (qau T) (hr.mono Ex) rfl T.k8.mgx T.k8.fn.kp T.k8.bd .nil qas (qk (pv 0) (qk (zk qa1 zb (zk qe7 zb (pv 1))) qz zy) qt)) zb))
   (qu (zj (i:=5) qc6.nd rfl (Az rfl) (zu qz))
   (qu (qcn B1 rfl (qdq rfl T.kQ (qk (zq qaq (by rfl) T.kG qap (qk (pv 2) qz qt)) qz zx)) (qam (i:=6) qc6.nd rfl (Az rfl)) (qu (zj (i:=7) qc6.nd rfl (Az rfl) (zk qar (zk qbc (pv 3) (zk qe7 zb (jb jd (zu (qk zb (qk zb (qk zb (qk zb (qk zb (qk zb qz ze) ze) ze) ze) ze) ze)) (pv 6) (λ_ _=>rfl)))) zb))
   (qu (zj (i:=8) qc6.nd rfl (Az rfl) (zk qar (zp (qau T) (hr.mono Ex) rfl T.k8.mgx T.k8.fn.kp T.k8.bd .nil qas (qk (pv 0) (qk (zk qa1 zb (zk qe7 zb (pv 6))) qz zy) qt)) zb))
   (zc (zo (PW.pt (qdr (zi qrj (pv 6) (pv 1) (qae _)) (qdr (zi qaz (pv 8) (pv 4) (qae _)) (qdi (zi qaz (pv 7) zb (qae _)))))) (zc (zn (qcs AL AW AX qbj (pv 5) (qk (jb jd (pv 2) (pv 6) (λ_ _=>rfl)) qz zz)))) qai)))))
   (qu (zo (zi qaz (zk qar (zk qbc (pv 3) zb) zb) zb (qae _)) (zc (zf (qku rfl (by rfl) T.gH (by rfl) T.fK qei (qk (pv 5) qz qt)))) qai)
   (zc (zf (pv 5)))))))),?_⟩
  have s0:=Same.refl H
  refine⟨_,rfl,_,rfl,_,_,rfl,rfl,qp7 Ex Ex,_,_,rfl,rfl,_,_,_,rfl,hS,by lia,?_⟩
  dsimp only[]
  generalize cell ns (7+5*(k0:Int))=c
  refine⟨_,rfl,_,rfl,_,_,rfl,rfl,qp7 Ex Ex,_,_,rfl,rfl,_,_,_,rfl,hS,by lia,_,_,rfl,rfl,(pos Ex),?_⟩
  refine⟨qef,λq hq=>?_⟩
  obtain⟨s1,h1⟩:=alc (o:=.lst []) hq
  generalize upd H q _=H1 at s1 h1 |-
  have ln:(names.map V.str).length=names.length:=Ab _
  have bnd:=rb (n:=(names.map V.str).length) (by lia)
  have mine:((cell ns (3+5*(k0:Int)) % 3:Int))=((owA ns k0:Nat):Int):=qr6
  dsimp only[]
  rw[mine]
  refine⟨_,rfl,_,_,rfl,.inl ⟨_,SqL.of (s1 _ _ hn),rfl⟩,_,rfl,bnd.1,bnd.2,qfc (lo:=0) (n:=(((names.map V.str).length:Int)).toNat) (λi σ H'=>Same H H'/\(∃ys:List Str,H' q=some (.lst (ys.map V.str))/\ys.length<=i/\YlOk names (owA ns) k0 ys/\∀y∈ys,∃b,b<i/\y=nm names b)/\∃v6 v7 v8:Option V,σ=[some (.ref l),some (.int (k0:Int)),some (.ref pn),some (.int c),some (.int ((owA ns k0:Nat):Int)),some (.ref q),v6,v7,v8]) ⟨s1,⟨[],h1,A3 _,⟨.nil,λy hy=>absurd hy Ax⟩,λy hy=>absurd hy Ax⟩,none,none,none,rfl⟩ ?_ ?_⟩
  .rintro i σ H' hi ⟨s2,⟨ys,h2,ly,yo,yb⟩,v6,v7,v8,rfl⟩
   have hi:i<names.length:=by rw[ln]at hi;lia
   rw[C3]
   obtain⟨m,em,m1,m32⟩:=pos12 i (by lia)
   refine⟨_,rfl,qan (show 6<=100000 by decide),λpp npp=>?_⟩
   obtain⟨s3,e3⟩:=alc (o:=.lst [V.int 1,V.int 2,V.int 4,V.int 8,V.int 16,V.int 32]) npp
   generalize upd H' pp _=H3 at s3 e3 |-
   have s23:=s2.trans s3
   refine⟨_,rfl,_,_,_,_,rfl,rfl,SqL.of e3,em,_,_,rfl,rfl,.inl ⟨Ex,Ex⟩,_,_,rfl,rfl,⟨by lia,by lia⟩,_,_,rfl,rfl,(pos Ex),?_⟩
   refine⟨_,rfl,_,rfl,_,_,rfl,rfl,qp7 Ex Ex,_,_,rfl,rfl,_,_,_,rfl,s23.seq hS,by lia,_,_,rfl,rfl,(pos Ex),?_⟩
   dsimp only[]
   have theirs:((cell ns (3+5*(i:Int)) % 3:Int))=((owA ns i:Nat):Int):=qr6
   rw[theirs]
   have h3:=s3 _ _ h2
   have up:∀y∈ys,∃b,b<i+1/\y=nm names b:=λy hy=>by obtain⟨b,h1,h2⟩:=yb y hy;exact⟨b,by lia,h2⟩
   have stay:Same H H3/\(∃ys:List Str,H3 q=some (.lst (ys.map V.str))/\ys.length<=i+1/\YlOk names (owA ns) k0 ys/\∀y∈ys,∃b,b<i+1/\y=nm names b):=⟨s23,ys,h3,by lia,yo,up⟩
   refine⟨_,rfl,_,rfl,rfl,_,rfl,?_⟩
   by_cases c1:i=k0
   .exact qd9 (by rw[c1]) (qbv ⟨stay.1,stay.2,_,_,_,rfl⟩)
   .refine qgn (λz=>c1 (Eb (V.int.inj z))) ⟨_,rfl,_,rfl,rfl,_,rfl,?_⟩
    by_cases c2:owA ns i=owA ns k0
    .refine qfb (by rw[c2]) ⟨_,rfl,rfl,_,rfl,qbw (λc3=>?_) (λc3=>⟨stay.1,stay.2,_,_,_,rfl⟩)⟩
     refine⟨_,rfl,.inl ⟨rfl,_,SqL.of h3⟩,_,rfl,_,rfl,_,_,_,_,rfl,rfl,SqL.of (s23 _ _ hn),qbu (nmV hi),_,_,_,rfl,rfl,h3,qde (by rw[Ab];lia),?_⟩
     refine⟨qao s23 hq,⟨ys++[nm names i],by rw[zd,Aq];rfl,by rw[Ah];show _+1<=_;lia,⟨?_,λy hy=>?_⟩,λy hy=>?_⟩,_,_,_,rfl⟩
     .rw[AZ]
      refine⟨yo.nd,by simp,λa ha b hb e=>?_⟩
      obtain⟨b',hb',eb⟩:=yb a ha
      rw[e,Ak.mp hb]at eb
      have:=qjd nnd hi (by lia) eb
      lia
     .rcases Au.mp hy with z|z
      .exact yo.ok y z
      .rw[Ak.mp z];exact⟨i,hi,rfl,c1,c2⟩
     .rcases Au.mp hy with z|z
      .exact up y z
      .rw[Ak.mp z];exact⟨i,by lia,rfl⟩
    .exact qa0 (λz=>c2 (Eb (V.int.inj z))) (qbv ⟨stay.1,stay.2,_,_,_,rfl⟩)
  .rintro σ H' ⟨s2,⟨ys,h2,ly,yo,yb⟩,v6,v7,v8,rfl⟩
   refine⟨_,rfl,_,_,rfl,rfl,⟨Ex,Ex⟩,_,_,rfl,rfl,(pos Ex),rfl,_,rfl,qbw (λc1=>?_) (λc1=>?_)⟩
   .refine⟨_,rfl,_,_,rfl,SqL.of h2,λq2 hq2=>?_⟩
    rw[<- List.map_reverse]
    exact k q2 _ _ (s2.free hq2) (s2.trans (zm hq2)) zd (qv7 yo)
   .exact⟨_,rfl,k q H' ys hq s2 h2 yo⟩
theorem qt6 (T:Txt K mg a):FnOk P w K mg base CX0 2 a.fW a.nG ["_law_script", "_law_at", "_law_names"] (spBaL K):=by
 refine T.dH.fn.ok qej (λvs H Q E h=>?_) (λcdv A outer s H vs Q E hr h=>?_)
 .obtain⟨_,_,_,_,_,rfl,_⟩:=h
  all_goals rfl
 .obtain⟨l,pn,ns,k0,names,rfl,hS,hn,hk,l6,k⟩:=h
  refine⟨_,(qu (zj (i:=3) qej.nd rfl (Az rfl) (zk qbc (zp (qau T) (hr.mono Ex) rfl T.k8.mgx T.k8.fn.kp T.k8.bd .nil qas (qk (pv 0) (qk zb qz ze) qt)) zb))
   (qu (zj (i:=4) qej.nd rfl (Az rfl) (zp (qau T) (hr.mono Ex) rfl T.k8.mgx T.k8.fn.kp T.k8.bd .nil qas (qk (pv 0) (qk (zk qa1 zb (zk qe7 zb (pv 1))) qz zy) qt)))
   (qu (zj (i:=5) qej.nd rfl (Dj rfl) (zu qz))
   (qu (qcn B1 rfl (qdq rfl T.kQ (qk (zq qaq (by rfl) T.kG qap (qk (pv 2) qz qt)) qz zx)) (qam (i:=6) qej.nd rfl (Az rfl)) (zc (zn (qcs AL AW AX qbj (pv 5) (qk (zk qar (zk qa1 (zk qe7 (pv 6) (zk qa1 zb (zk qar (pv 3) zb))) (zk qbc (pv 3) zb)) zb) qz zy)))))
   (qu (qdm (i:=7) qej.nd rfl rfl (N:=["_law_k", "_law_ranks", "_law_at"]) (js:=[none,some 5,some 1]) (XN:=["_law_script", "_law_at", "_law_names", "_law_turn", "_law_cell", "_law_ranks", "_law_k", "_law_below"]) (xs:=qac qh4) rfl rfl rfl Ez (qdq rfl T.kQ (qk (zq qaq (by rfl) T.kG qap (qk (pv 2) qz qt)) qz zx)) (λ_ _ _ _ _ _=>(qam (i:=0) (show Ck (["_law_k", "_law_ranks", "_law_at"]:List Str) from by decide +kernel) rfl (Az rfl) (Dj rfl))) (λ_ _ _ _ _ _=>(qxc (zi qob (jb (qkt (K:=K) rfl) (pv 1) (pv 0) (λ_ _=>rfl)) (jb (qkt (K:=K) rfl) (pv 1) (pv 2) (λ_ _=>rfl)) (qae _)))) (λ_ _ _ _ _ _=>(pv 0)))
   (qu (zo (PW.pt (qdr (zi qaz (zk qar (pv 4) zb) zb (qae _)) (qdi (zi (qns hr.units0) (pv 7) (zu qz) (qae _))))) (zc (zf (jb jd (pv 2) (jb jd (pv 7) (zk qar (zk qbc (pv 4) zb) (zq qaq (by rfl) T.kG qap (qk (pv 7) qz qt))) (λ_ _=>rfl)) (λ_ _=>rfl)))) qai)
   (zc (zf qbt)))))))),?_⟩
  have s0:=Same.refl H
  refine⟨_,rfl,_,_,_,rfl,hS,Ex,_,_,rfl,rfl,⟨Ex,Ex⟩,?_⟩
  dsimp only[]
  have rkd:∀j:Nat,((j:Int)*(1+cell ns 0 / 21 % 6)+cell ns 0 / 21 / 6) % 7=rkA ns j:=λ_=>rfl
  generalize cell ns 0 / 21=tn at rkd |-
  refine⟨_,rfl,_,rfl,_,_,rfl,rfl,qp7 Ex Ex,_,_,rfl,rfl,_,_,_,rfl,hS,by lia,?_⟩
  dsimp only[]
  generalize cell ns (4+5*(k0:Int))=c
  refine⟨qef,λq hq=>?_⟩
  obtain⟨s1,h1⟩:=alc (o:=.lst []) hq
  generalize upd H q _=H1 at s1 h1 |-
  have ln:(names.map V.str).length=names.length:=Ab _
  have bnd:=rb (n:=(names.map V.str).length) (by lia)
  refine⟨_,rfl,_,_,rfl,.inl ⟨_,SqL.of (s1 _ _ hn),rfl⟩,_,rfl,bnd.1,bnd.2,qfc (lo:=0) (n:=(((names.map V.str).length:Int)).toNat) (λi σ H'=>Same H H'/\H' q=some (.lst (((Bl i).map (rkA ns)).map V.int))/\∃v6:Option V,σ=[some (.ref l),some (.int (k0:Int)),some (.ref pn),some (.int tn),some (.int c),some (.ref q),v6,none]) ⟨s1,h1,none,rfl⟩ ?_ ?_⟩
  .rintro i σ H' hi ⟨s2,h2,v6,rfl⟩
   have hi:i<names.length:=by rw[ln]at hi;lia
   rw[C3]
   refine⟨_,rfl,.inl ⟨rfl,_,SqL.of h2⟩,_,rfl,_,rfl,_,_,rfl,rfl,(pos Ex),_,_,rfl,rfl,_,_,rfl,rfl,.inl ⟨by lia,by lia⟩,_,rfl,_,_,rfl,rfl,⟨Ex,Ex⟩,_,_,rfl,rfl,_,_,rfl,rfl,(pos Ex),_,_,_,rfl,rfl,h2,qde (by rw[Ab,Ab,Cm];lia),?_⟩
   dsimp only[]
   rw[rkd]
   refine⟨qao s2 hq,?_,_,rfl⟩
   rw[zd,List.range_succ,Aq,Aq];rfl
  .rintro σ H' ⟨s2,h2,v6,rfl⟩
   rw[ln,CH]at h2
   have rat:∀j:Nat,j<names.length->atI (((Bl names.length).map (rkA ns)).map V.int) (j:Int)=some (.int (rkA ns j)):=λj hj=>qbu (by rw[Al,Al,D0 hj];rfl)
   refine⟨_,rfl,_,_,rfl,.inl ⟨_,SqL.of (s2 _ _ hn),rfl⟩,_,rfl,bnd.1,bnd.2,?_⟩
   refine qs4 (λv=>match v with | .int j=>decide (rkA ns j.toNat<rkA ns k0)|_=>false) (λv=>v) (λσ'=>∃v,σ'=[v,some (.ref q),some (.int (k0:Int))]) qga (qan (by rw[Ab,Cm];lia)) ⟨none,rfl⟩ (λv σ' J N RR hv sm s4 kn ky=>?_) qdt λp5 hp5=>?_
   .obtain⟨v0,rfl⟩:=s4
    obtain⟨j,hj,rfl⟩:=AM.mp hv
    have hj:j<names.length:=by have:=Dm.mp hj;rw[ln]at this;lia
    have ej:(0:Int)+(j:Int)=(j:Int):=C3 _
    rw[ej]at kn ky |-
    refine⟨_,rfl,_,rfl,_,_,_,_,rfl,rfl,SqL.of (sm _ _ h2),rat j hj,_,rfl,_,rfl,_,_,_,_,rfl,rfl,SqL.of (sm _ _ h2),rat k0 hk,_,_,rfl,rfl,_,rfl,qbw (λc1=>?_) (λc1=>?_)⟩
    .exact⟨_,rfl,ky _ ⟨_,rfl⟩ c1⟩
    .exact kn _ ⟨_,rfl⟩ (by cases e:decide (rkA ns j<rkA ns k0) with|true=>exact absurd e c1|false=>exact e)
   obtain⟨bl,ebl,hbl⟩:∃bl:List Nat,((((Bl (((names.map V.str).length:Int)).toNat).map λi=>V.int (0+(i:Nat))).filter λv=>match v with | .int j=>decide (rkA ns j.toNat<rkA ns k0)|_=>false).map λv=>v)=bl.map (λb:Nat=>V.int (b:Int))/\∀b∈bl,b<names.length/\rkA ns b<rkA ns k0:=by
    refine⟨(Bl names.length).filter λj=>decide (rkA ns j<rkA ns k0),?_,λb hb=>?_⟩
    .rw[List.map_id',ln,CH,List.filter_map]
     have:(λi:Nat=>V.int (0+(i:Int)))=λi:Nat=>V.int (i:Int):=by funext i;rw[C3]
     rw[this]
     congr 1
    .have:=Ee.mp hb
     exact⟨Dm.mp this.1,of_decide_eq_true this.2⟩
   rw[ebl]
   obtain⟨s5,e5⟩:=alc (o:=.lst (bl.map λb:Nat=>V.int (b:Int))) hp5
   generalize upd H' p5 _=H5 at s5 e5 |-
   have s25:=s2.trans s5
   have flb:(bl.map λb:Nat=>V.int (b:Int)).all qcr=true:=by rw[CG];exact Bf.mpr λ_ _=>rfl
   refine⟨_,rfl,_,_,rfl,rfl,(pos Ex),rfl,_,rfl,qbw (λc1=>?_) (λc1=>?_)⟩
   .refine⟨_,rfl,qef,λpe npe=>?_⟩
    obtain⟨s6,e6⟩:=alc (o:=.lst []) npe
    generalize upd H5 pe _=H6 at s6 e6 |-
    have s26:=s25.trans s6
    have e56:=s6 _ _ e5
    refine⟨_,_,_,_,rfl,rfl,SqL.of e56,SqL.of e6,flb,rfl,_,rfl,qbw (λc2=>?_) (λc2=>?_)⟩
    .have l1:1<=bl.length:=by
      cases bl with
      |nil=>exact absurd c2 Ex
      |cons _ _=>exact C2 _
     have z0:=Ei (c / 3) (show ((bl.length:Nat):Int)≠0 by lia)
     have z1:=DB (c / 3) (show (0:Int)<(bl.length:Nat) by lia)
     obtain⟨j,ej⟩:∃j:Nat,c / 3 % ((bl.length:Nat):Int)=(j:Int):=⟨(c / 3 % ((bl.length:Nat):Int)).toNat,by lia⟩
     have hj:j<bl.length:=by lia
     have hb:=hbl _ (Bq hj)
     refine⟨_,rfl,_,rfl,_,rfl,_,_,rfl,rfl,⟨Ex,Ex⟩,_,rfl,_,_,rfl,.inl ⟨_,SqL.of e56,rfl⟩,_,_,rfl,rfl,(pos (by rw[Ab];lia)),?_⟩
     dsimp only[]
     rw[Ab,ej]
     refine⟨_,_,_,_,rfl,rfl,SqL.of e56,qbu (by rw[Al,Ae hj];rfl),_,_,_,_,rfl,rfl,SqL.of (s26 _ _ hn),qbu (nmV hb.1),?_⟩
     exact k H6 (some bl[j]) s26 λb e=>by cases e;exact hb
    .exact k H6 none s26 λb e=>nomatch e
   .exact qbv (k H5 none s25 λb e=>nomatch e)
theorem qt7 (T:Txt K mg a):FnOk P w K mg base CX0 3 a.lF a.mW ["_law_script", "_law_at", "_law_names", "_law_kinds"] (spLrl K):=by
 refine T.bC.fn.ok qa7 (λvs H Q E h=>?_) (λcdv A outer s H vs Q E hr h=>?_)
 .obtain⟨_,_,_,_,_,_,_,rfl,_⟩:=h
  all_goals rfl
 .obtain⟨l,pn,pk,ns,k0,names,kinds,rfl,hS,hn,hk',nnd,hk,l6,knd,k12,k60,kok,k⟩:=h
  refine⟨_,(qu (qdm (i:=4) qa7.nd rfl rfl (N:=["_law_k", "_law_script", "_law_at"]) (js:=[none,some 0,some 1]) (XN:=["_law_script", "_law_at", "_law_names", "_law_kinds", "_law_cells", "_law_owed", "_law_rest", "_law_turn", "_law_base_here", "_law_opens", "_law_unit", "_law_longer", "_law_k", "_law_units", "_law_still", "_law_rule_here"]) (xs:=qac qh5) rfl rfl rfl Ez (qdq rfl T.kQ (qk zb qz ze)) (λ_ _ _ _ _ _=>(qam (i:=0) (show Ck (["_law_k", "_law_script", "_law_at"]:List Str) from by decide +kernel) rfl (Az rfl) (Dj rfl))) (λ_ _ _ _ _ _=>qds) (λ_ _ _ _ _ _=>(zp (qau T) (hr.mono Ex) rfl T.k8.mgx T.k8.fn.kp T.k8.bd .nil qas (qk (pv 1) (qk (zk qa1 (zk qa1 zb (zk qe7 zb (pv 2))) (pv 0)) qz zy) qt))))
   (qu (zj (i:=5) qa7.nd rfl (Az rfl) (zk qar (jb jd (pv 4) zb (λ_ _=>rfl)) zb))
   (qu (zj (i:=6) qa7.nd rfl (Az rfl) (zk qcb (qa3 qb2 (pv 3) qb8 (qa2 (pv 5))) (qa3 qb2 (pv 3) (qa2 (zk qa1 (pv 5) zb)) (qa2 zb))))
   (qu (zj (i:=7) qa7.nd rfl (Az rfl) (zk qar (zk qbc (jb jd (pv 4) zb (λ_ _=>rfl)) zb) zb))
   (qu (zj (i:=6) qa7.nd rfl (Az rfl) (zk qcb (qa3 qb2 (pv 6) (qa2 (pv 7)) qb8) (qa3 qb2 (pv 6) qb8 (qa2 (pv 7)))))
   (qu (zj (i:=8) qa7.nd rfl (Az rfl) (zp (qt6 T) (hr.mono Ex) rfl T.dH.mgx T.dH.fn.kp T.dH.bd .nil qas (qk (pv 0) (qk (pv 1) (qk (pv 2) qz qt) qt) qt)))
   (qu (zj (i:=9) qa7.nd rfl (Az rfl) (jb jd (pv 6) zb (λ_ _=>rfl)))
   (qu (zo (zi qea (pv 8) qbt (qae _)) (zc (zj (i:=9) qa7.nd rfl (Az rfl) qbt)) qai)
   (qu (zj (i:=10) qa7.nd rfl (Az rfl) (jb jd (zu (qk zt (qk zt (qk zt qz ze) ze) ze)) (zk qar (zk qbc (jb jd (pv 4) zb (λ_ _=>rfl)) zb) zb) (λ_ _=>rfl)))
   (qu (zj (i:=11) qa7.nd rfl (Az rfl) (zu qz))
   (qu (qcn B1 rfl (qdq rfl T.kQ (qk (zk qar (zk qbc (jb jd (pv 4) zb (λ_ _=>rfl)) zb) zb) qz zy)) (qam (i:=12) qa7.nd rfl (Az rfl)) (qu (zj (i:=13) qa7.nd rfl (Az rfl) (zk qa1 zb (zk qar (zk qbc (jb jd (pv 4) zb (λ_ _=>rfl)) (zk qa1 zb (zk qe7 zb (pv 12)))) zb)))
   (zc (zn (qcs AL AW AX qbj (pv 11) (qk (zw (qk (jb jd (pv 6) (zk qa1 zb (pv 12)) (λ_ _=>rfl)) (qk (pv 13) (qk (zk qa1 zb (zk qar (zk qbc (jb jd (pv 4) zb (λ_ _=>rfl)) (zk qa1 zb (zk qe7 zb (pv 12)))) zb)) qz zy) qt) zz)) qz ja))))))
   (qu (zj (i:=14) qa7.nd rfl (Az rfl) qbt)
   (qu (zo (zi qaz (zk qar (zk qbc (jb jd (pv 4) zb (λ_ _=>rfl)) zb) zb) zb (qae _)) (zc (zj (i:=14) qa7.nd rfl (Az rfl) (zw (qk (jb jd (pv 6) zb (λ_ _=>rfl)) (qk (jb jd (pv 6) zb (λ_ _=>rfl)) qz zz) zz)))) qai)
   (qu (zj (i:=15) qa7.nd rfl (Az rfl) (zu (qk (jb jd (pv 2) (pv 1) (λ_ _=>rfl)) (qk (jb jd (pv 3) (zk qar (jb jd (pv 4) zb (λ_ _=>rfl)) zb) (λ_ _=>rfl)) (qk (jb jd (pv 3) (pv 5) (λ_ _=>rfl)) (qk (pv 9) (qk (pv 8) qz qt) qt) zz) zz) zz)))
   (qu (zj (i:=15) qa7.nd rfl (Az rfl) (zk qcb (pv 15) (zu (qk (zk qa1 zb (zk qar (jb jd (pv 4) zb (λ_ _=>rfl)) zb)) (qk (pv 10) (qk (qa3 qb2 (pv 6) (qa2 zb) (qa2 (zk qa1 zb (zk qar (jb jd (pv 4) zb (λ_ _=>rfl)) zb)))) qz zz) qt) zy))))
   (qu (zj (i:=15) qa7.nd rfl (Az rfl) (zk qcb (pv 15) (zu (qk (qa3 qb2 (pv 6) (qa2 zb) (qa2 (zk qa1 zb (zk qar (zk qbc (jb jd (pv 4) zb (λ_ _=>rfl)) zb) zb)))) (qk (pv 11) (qk (pv 14) qz qt) qt) zz))))
   (zc (zf (zk qcb (pv 15) (zu (qk (zp (qpv T) (hr.mono Ex) rfl T.dJ.mgx T.dJ.fn.kp T.dJ.bd .nil qas (qk (pv 0) (qk (pv 1) (qk (pv 2) qz qt) qt) qt)) qz zx))))))))))))))))))))),?_⟩
  have l12:(kinds.map V.str).length=kinds.length:=Ab _
  refine⟨_,rfl,Ex,Ex,?_⟩
  refine qc9 (λv=>match v with | .int j=>.int (cell ns (3+5*(k0:Int)+j))|_=>.non) (λσ'=>∃v,σ'=[v,some (.ref l),some (.int (k0:Int))]) qga (qan (by rw[Ab,Cm];decide)) ⟨none,rfl⟩ (λv σ' H' RR' hv sm s4 q=>?_) qdt λp1 n1=>?_
  .obtain⟨v0,rfl⟩:=s4
   obtain⟨j,hj,rfl⟩:=AM.mp hv
   have q:=q [some (.int (0+(j:Int))),some (.ref l),some (.int (k0:Int))] ⟨_,rfl⟩
   exact⟨_,rfl,_,rfl,_,_,rfl,rfl,qp7 Ex Ex,_,_,rfl,rfl,_,rfl,_,_,rfl,rfl,_,_,_,rfl,sm.seq hS,by lia,q⟩
  obtain⟨c0,ec0⟩:∃c0,c0=cell ns (3+5*(k0:Int)):=⟨_,rfl⟩
  obtain⟨c1,ec1⟩:∃c1,c1=cell ns (3+5*(k0:Int)+1):=⟨_,rfl⟩
  obtain⟨c2,ec2⟩:∃c2,c2=cell ns (3+5*(k0:Int)+2):=⟨_,rfl⟩
  obtain⟨c3,ec3⟩:∃c3,c3=cell ns (3+5*(k0:Int)+3):=⟨_,rfl⟩
  obtain⟨c4,ec4⟩:∃c4,c4=cell ns (3+5*(k0:Int)+4):=⟨_,rfl⟩
  have ecs:((Bl ((5:Int)).toNat).map λi=>V.int (0+(i:Nat))).map (λv=>match v with | .int j=>V.int (cell ns (3+5*(k0:Int)+j))|_=>.non)=[V.int c0,V.int c1,V.int c2,V.int c3,V.int c4]:=by
   rw[ec0,ec1,ec2,ec3,ec4]
   show [V.int _,V.int _,V.int _,V.int _,V.int _]=_
   simp
  rw[ecs]
  obtain⟨s1,e1⟩:=alc (o:=.lst [V.int c0,V.int c1,V.int c2,V.int c3,V.int c4]) n1
  generalize upd H p1 _=H1 at s1 e1 |-
  refine⟨_,rfl,_,_,_,_,rfl,rfl,SqL.of (e1),rfl,_,_,rfl,rfl,(pos Ex),?_⟩
  dsimp only[]
  have eo:c0 % 3=((owA ns k0:Nat):Int):=by rw[ec0];exact qr6
  have ho:owA ns k0<3:=owA_l
  rw[eo]
  generalize owA ns k0=o at ho eo |-
  refine⟨_,rfl,_,rfl,_,rfl,_,_,rfl,SqL.of (s1 _ _ hk'),λp2 n2=>?_⟩
  rw[qk9 _ o (by lia),<- BO]
  obtain⟨s2,e2⟩:=alc (o:=.lst ((kinds.take o).map V.str)) n2
  generalize upd H1 p2 _=H2 at s2 e2 |-
  have s12:=s1.trans s2
  refine⟨_,rfl,_,rfl,_,_,rfl,rfl,_,rfl,_,rfl,_,_,rfl,SqL.of (s12 _ _ hk'),λp3 n3=>?_⟩
  have ec:qhf (kinds.map V.str) (some ((o:Int)+1)) (some 12)=((kinds.take 12).drop (o+1)).map V.str:=by
   rw[show ((o:Int)+1)=((o+1:Nat):Int) from rfl,show (12:Int)=((12:Nat):Int) from rfl,cut2 _ _ _ (by lia) (by lia),<- BO,<- Cs]
  rw[ec]
  obtain⟨s3,e3⟩:=alc (o:=.lst (((kinds.take 12).drop (o+1)).map V.str)) n3
  generalize upd H2 p3 _=H3 at s3 e3 |-
  have s13:=s12.trans s3
  refine⟨_,_,_,_,rfl,rfl,s3 _ _ e2,e3,qan (by rw[Ab,Ab,Av,Ba,Av];lia),λp4 n4=>?_⟩
  rw[<- Aq]
  have lL:(kinds.take o++(kinds.take 12).drop (o+1)).length=11:=by rw[Ah,Av,Ba,Av];lia
  obtain⟨s4,e4⟩:=alc (o:=.lst ((kinds.take o++(kinds.take 12).drop (o+1)).map V.str)) n4
  generalize upd H3 p4 _=H4 at s4 e4 |-
  have s14:=s13.trans s4
  have s24:=s2.trans (s3.trans s4)
  refine⟨_,rfl,_,_,_,_,rfl,rfl,SqL.of (s24 _ _ e1),rfl,_,_,rfl,rfl,⟨Ex,Ex⟩,_,_,rfl,rfl,(pos Ex),?_⟩
  dsimp only[]
  obtain⟨t,et,ht⟩:∃t:Nat,c0 / 3 % 11=(t:Int)/\t<11:=md _ 11 Ex
  rw[et]
  obtain⟨M',eM,lM,ndM,okM,nwM,w12⟩:=qyj (o:=o) (t:=t) knd k12 ho ht kok
  refine⟨_,rfl,_,rfl,_,rfl,_,_,rfl,SqL.of e4,λp5 n5=>?_⟩
  rw[qff _ t (by rw[Ab,lL];lia),<- Cs]
  obtain⟨s5,e5⟩:=alc (o:=.lst (((kinds.take o++(kinds.take 12).drop (o+1)).drop t).map V.str)) n5
  generalize upd H4 p5 _=H5 at s5 e5 |-
  refine⟨_,rfl,_,rfl,_,rfl,_,_,rfl,SqL.of (s5 _ _ e4),λp6 n6=>?_⟩
  rw[qk9 _ t (by rw[Ab,lL];lia),<- BO]
  obtain⟨s6,e6⟩:=alc (o:=.lst (((kinds.take o++(kinds.take 12).drop (o+1)).take t).map V.str)) n6
  generalize upd H5 p6 _=H6 at s6 e6 |-
  refine⟨_,_,_,_,rfl,rfl,s6 _ _ e5,e6,qan (by rw[Ab,Ab,Ba,Av,lL];lia),λp7 n7=>?_⟩
  rw[<- Aq,eM]
  clear eM
  obtain⟨m0,  m1,  m2,  m3,  m4,  m5,  m6,  m7,  m8,  m9,  m10,rfl⟩:=eleven lM
  have s16:=s14.trans (s5.trans s6)
  have n7H:=s16.free n7
  obtain⟨s7,e7⟩:=alc (o:=.lst ([m0,m1,m2,m3,m4,m5,m6,m7,m8,m9,m10].map V.str)) n7
  generalize upd H6 p7 _=H7 at s7 e7 |-
  have s17:=s16.trans s7
  have s27:=s24.trans (s5.trans (s6.trans s7))
  have ec7:=s27 _ _ e1
  clear s1 s2 s3 s4 s5 s6 e2 e3 e4 e5 e6 s12 s13 s14 s24 lL
  refine⟨_,rfl,_,rfl,_,rfl,l,pn,ns,k0,names,rfl,s17.seq hS,s17 _ _ hn,hk,l6,λH8 ob s8 hob=>?_⟩
  have s18:=s17.trans s8
  have e8:=s8 _ _ e7
  have c8:=s8 _ _ ec7
  refine⟨_,rfl,_,_,_,_,rfl,rfl,SqL.of (e8),rfl,?_⟩
  have gb:qh8 names ob=qd8 (ob.map (nm names)):=by cases ob <;>rfl
  rw[gb]
  have hob':ob=none \/ ∃b,ob=some b:=by
   cases ob with
   |none=>exact .inl rfl
   |some b=>exact .inr ⟨b,rfl⟩
  apply useV (p:=λx=>∃opn:Option Str,x=some (qd8 opn)/\((ob=none/\opn=some m0)\/((∃b,ob=some b)/\opn=none)))
  .intro fin
   refine hob'.elim (λz=>?_) (λz=>?_)
   .refine⟨_,rfl,rfl,_,rfl,qd9 (by rw[z];rfl) ?_⟩
    generalize hx:(some (V.str m0):Option V)=x9
    exact fin x9 ⟨some m0,hx.symm,.inl ⟨z,rfl⟩⟩
   .obtain⟨b,eb⟩:=z
    refine⟨_,rfl,rfl,_,rfl,qgn (λz=>by rw[eb]at z;cases z) ?_⟩
    exact fin (some .non) ⟨none,rfl,.inr ⟨⟨b,eb⟩,rfl⟩⟩
  .rintro x9 ⟨opn,rfl,hopn⟩
   obtain⟨u1,u2⟩:=qyk (c1 / 18)
   refine⟨qan (show 3<=100000 by decide),λpu nu=>?_⟩
   obtain⟨s9,e9⟩:=alc (o:=.lst [V.str (Aa "days"),V.str (Aa "weeks"),V.str (Aa "court")]) nu
   generalize upd H8 pu _=H9 at s9 e9 |-
   have s19:=s18.trans s9
   refine⟨_,rfl,_,_,_,_,rfl,rfl,SqL.of (s9 _ _ c8),rfl,_,_,rfl,rfl,⟨Ex,Ex⟩,_,_,rfl,rfl,(pos Ex),_,_,_,_,rfl,rfl,SqL.of e9,u1,?_⟩
   refine⟨qef,λpl npl=>?_⟩
   obtain⟨sa,ea⟩:=alc (o:=.lst []) npl
   generalize upd H9 pl _=Ha at sa ea |-
   have s1a:=s19.trans sa
   have nplH:=s19.free npl
   have s8a:=s9.trans sa
   obtain⟨g,eg,hg⟩:∃g:Nat,c3 / 12 % 3=(g:Int)/\g<=2:=mdl _ 2
   have eg2:(c3 / 12 % 3).toNat=g:=by rw[eg];exact CH g
   refine⟨_,rfl,_,_,_,_,rfl,rfl,SqL.of (s8a _ _ c8),rfl,_,_,rfl,rfl,⟨Ex,Ex⟩,_,_,rfl,rfl,(pos Ex),_,rfl,(by lia),(by lia),qfc (lo:=0) (n:=(c3 / 12 % 3).toNat) (λi σ H'=>Same H8 H'/\(∃(us:List V)(lg:List (Str×Int×Int)),H' pl=some (.lst us)/\Tups H' us (lg.map qqq)/\lg.map (·.1)=[m6,m7].take i/\us.length=i/\∀t∈lg,(1<=t.2.1/\t.2.1<=20)/\1<=t.2.2/\t.2.2<=3)/\∃v12 v13:Option V,σ=[some (.ref l),some (.int (k0:Int)),some (.ref pn),some (.ref pk),some (.ref p1),some (.int (o:Int)),some (.ref p7),some (.int (t:Int)),some (qd8 (ob.map (nm names))),some (qd8 opn),some (.str (qfu (c1 / 18))),some (.ref pl),v12,v13,none,none]) ⟨s8a,⟨[],[],ea,.nil,rfl,rfl,λt h=>absurd h Ax⟩,none,none,rfl⟩ ?_ ?_⟩
   .rintro i σ H' hi ⟨s2,⟨us,lg,h2,t2,f2,l2,r2⟩,v12,v13,rfl⟩
    have hi:i<g:=by lia
    rw[C3]
    have cB:=s2 _ _ c8
    have eB:=s2 _ _ e8
    obtain⟨mk,emk,fmk⟩:∃mk:Str,atI ([m0,m1,m2,m3,m4,m5,m6,m7,m8,m9,m10].map V.str) (6+(i:Int))=some (.str mk)/\[m6,m7].take (i+1)=[m6,m7].take i++[mk]:=by
     rcases (by lia:i=0\/i=1) with rfl|rfl
     .exact⟨m6,rfl,rfl⟩
     .exact⟨m7,rfl,rfl⟩
    refine⟨_,rfl,_,_,_,_,rfl,rfl,SqL.of (cB),rfl,_,rfl,_,_,rfl,rfl,qp7 Ex Ex,_,_,rfl,rfl,_,_,rfl,rfl,cdA hi hg,_,_,rfl,rfl,(pos Ex),_,_,rfl,rfl,?_⟩
    refine⟨_,rfl,.inl ⟨rfl,_,SqL.of h2⟩,_,rfl,_,rfl,_,_,rfl,rfl,_,_,_,_,rfl,rfl,SqL.of eB,emk,_,rfl,_,rfl,_,_,_,_,rfl,rfl,SqL.of (cB),rfl,_,rfl,_,_,rfl,rfl,qp7 Ex Ex,_,_,rfl,rfl,_,_,rfl,rfl,cdB hi hg,_,_,rfl,rfl,(pos Ex),_,_,rfl,rfl,qk8 _ _ _,λq2 n2=>?_⟩
    dsimp only[]
    have b1:1<=1+c2 / (40+811*(i:Int)) % 20/\1+c2 / (40+811*(i:Int)) % 20<=20:=om _ Ex
    have b2:1<=1+c2 / (797+13*(i:Int)) % 3/\1+c2 / (797+13*(i:Int)) % 3<=3:=om _ Ex
    generalize 1+c2 / (40+811*(i:Int)) % 20=u9 at b1 n2 |-
    generalize 1+c2 / (797+13*(i:Int)) % 3=t9 at b2 n2 |-
    obtain⟨s3,e3⟩:=alc (o:=.tup [V.str mk,V.int u9,V.int t9]) n2
    generalize upd H' q2 _=H3 at s3 e3 |-
    have h3:=s3 _ _ h2
    refine⟨_,_,_,rfl,rfl,h3,qde (by lia),?_⟩
    have kp:Same H8 (upd H3 pl (.lst (us++[V.ref q2]))):=qao (s2.trans s3) (s9.free npl)
    refine⟨kp,⟨us++[.ref q2],lg++[(mk,u9,t9)],zd,?_,?_,by rw[Ah,l2];rfl,λz hz=>?_⟩,_,_,rfl⟩
    .rw[Aq]
     exact((t2.same s3).snoc (show H3 q2=some (.tup (qqq (mk,u9,t9))) from e3)).upd h3
    .rw[Aq,f2,fmk];rfl
    .rcases Au.mp hz with y|y
     .exact r2 z y
     .rw[Ak.mp y];exact⟨b1,b2⟩
   .rintro σ Hb ⟨sb,⟨us,lg,hl,tl,fl,ll,rl⟩,v12,v13,rfl⟩
    rw[eg2]at fl ll
    have s1b:=s18.trans sb
    have cB:=sb _ _ c8
    have eB:=sb _ _ e8
    apply use2 (p:=λ(Hc:Hp)(x:Option V)=>∃(sv:V)(so:Option (Str×Str)),x=some sv/\Same Hb Hc/\StAt Hc sv so/\(so=none\/so=some (m8,m9)))
    .intro fin
     refine⟨_,rfl,_,_,_,_,rfl,rfl,SqL.of (cB),rfl,_,_,rfl,rfl,⟨Ex,Ex⟩,_,_,rfl,rfl,(pos Ex),rfl,_,rfl,qbw (λ_=>?_) (λ_=>?_)⟩
     rotate_left
     .obtain⟨Hc,hHc⟩:∃Hc,Hc=Hb:=⟨_,rfl⟩
      have qq:∃(sv:V)(so:Option (Str×Str)),some V.non=some sv/\Same Hb Hc/\StAt Hc sv so/\(so=none\/so=some (m8,m9)):=⟨.non,none,rfl,by rw[hHc];exact Same.refl _,rfl,.inl rfl⟩
      rw[<- hHc]
      generalize (some V.non:Option V)=x14 at qq |-
      exact fin Hc x14 qq
     .refine⟨_,rfl,_,_,_,_,rfl,rfl,SqL.of (eB),rfl,_,rfl,_,_,_,_,rfl,rfl,SqL.of (eB),rfl,fit2 _ _,λq3 n3=>?_⟩
      obtain⟨s3,e3⟩:=alc (o:=.tup [V.str m8,V.str m9]) n3
      exact fin _ (some (V.ref q3)) ⟨.ref q3,some (m8,m9),rfl,s3,⟨q3,rfl,e3⟩,.inr rfl⟩
    .rintro Hc x14 ⟨sv,so,rfl,sc,hst,hso⟩
     have s1c:=s1b.trans sc
     have cC:=sc _ _ cB
     have eC:=sc _ _ eB
     have hnC:=s1c _ _ hn
     have hkC:=s1c _ _ hk'
     obtain⟨j4,ej4,hj4⟩:∃j:Nat,c4 % 12=(j:Int)/\j<12:=md _ 12 Ex
     refine⟨_,rfl,_,rfl,_,_,_,_,rfl,rfl,SqL.of hnC,qbu (nmV hk),_,rfl,_,rfl,_,_,_,_,rfl,rfl,SqL.of (cC),rfl,_,_,rfl,rfl,(pos Ex),?_⟩
     dsimp only[]
     rw[ej4]
     refine⟨_,_,_,_,rfl,rfl,SqL.of hkC,qbu (nmV (nms:=kinds) (by lia)),_,rfl,_,rfl,_,_,_,_,rfl,rfl,SqL.of hkC,qbu (nmV (nms:=kinds) (by lia)),_,rfl,_,rfl,qan (show 5<=100000 by decide),λqa na=>?_⟩
     obtain⟨sd,ed⟩:=alc (o:=.lst [V.str (nm names k0),V.str (nm kinds j4),V.str (nm kinds o),qd8 opn,qd8 (ob.map (nm names))]) na
     generalize upd Hc qa _=Hd at sd ed |-
     have s1d:=s1c.trans sd
     obtain⟨x3,ex3,hx3⟩:∃x:Nat,c3 % 4=(x:Int)/\x<=3:=mdl _ 3
     obtain⟨y3,ey3,hy3⟩:∃x:Nat,c3 / 4 % 3=(x:Int)/\x<=2:=mdl _ 2
     refine⟨_,rfl,_,rfl,_,_,_,_,rfl,rfl,SqL.of (sd _ _ cC),rfl,_,_,rfl,rfl,(pos Ex),_,_,rfl,rfl,_,rfl,_,rfl,_,rfl,_,rfl,_,_,_,_,rfl,rfl,SqL.of (sd _ _ cC),rfl,_,_,rfl,rfl,(pos Ex),_,_,rfl,rfl,?_⟩
     dsimp only[]
     rw[ex3]
     refine⟨_,rfl,_,_,rfl,SqL.of (sd _ _ eC),λpe npe=>?_⟩
     have ce:qhf ([m0,m1,m2,m3,m4,m5,m6,m7,m8,m9,m10].map V.str) (some 1) (some (1+(x3:Int)))=([m1,m2,m3].take x3).map V.str:=by
      rcases (by lia:x3=0\/x3=1\/x3=2\/x3=3) with rfl|rfl|rfl|rfl <;>rfl
     rw[ce]
     obtain⟨se,ee⟩:=alc (o:=.lst (([m1,m2,m3].take x3).map V.str)) npe
     generalize upd Hd pe _=He at se ee |-
     have s1e:=s1d.trans se
     refine⟨qk8 _ _ _,λqb nb=>?_⟩
     have b40:1<=1+c2 % 40/\1+c2 % 40<=40:=om _ Ex
     generalize 1+c2 % 40=mny at b40 nb |-
     obtain⟨sf,ef⟩:=alc (o:=.lst [V.int mny,V.str (qfu (c1 / 18)),V.ref pe]) nb
     generalize upd He qb _=Hf at sf ef |-
     have s1f:=s1e.trans sf
     refine⟨_,_,_,_,rfl,rfl,sf _ _ (se _ _ ed),ef,qan (show 8<=100000 by decide),λqc nc=>?_⟩
     obtain⟨sg,eg'⟩:=alc (o:=.lst ([V.str (nm names k0),V.str (nm kinds j4),V.str (nm kinds o),qd8 opn,qd8 (ob.map (nm names))]++[V.int mny,V.str (qfu (c1 / 18)),V.ref pe])) nc
     generalize upd Hf qc _=Hg at sg eg' |-
     have s1g:=s1f.trans sg
     have sdg:=sd.trans (se.trans (sf.trans sg))
     refine⟨_,rfl,_,rfl,_,rfl,_,rfl,_,_,_,_,rfl,rfl,SqL.of (sdg _ _ cC),rfl,_,_,rfl,rfl,⟨Ex,Ex⟩,_,_,rfl,rfl,(pos Ex),_,_,rfl,rfl,?_⟩
     dsimp only[]
     rw[ey3]
     refine⟨_,rfl,_,_,rfl,SqL.of (sdg _ _ eC),λpa npa=>?_⟩
     have ca:qhf ([m0,m1,m2,m3,m4,m5,m6,m7,m8,m9,m10].map V.str) (some 4) (some (4+(y3:Int)))=([m4,m5].take y3).map V.str:=by
      rcases (by lia:y3=0\/y3=1\/y3=2) with rfl|rfl|rfl <;>rfl
     rw[ca]
     obtain⟨sh,eh⟩:=alc (o:=.lst (([m4,m5].take y3).map V.str)) npa
     generalize upd Hg pa _=Hh at sh eh |-
     have s1h:=s1g.trans sh
     refine⟨_,rfl,_,rfl,qk8 _ _ _,λqd nd=>?_⟩
     obtain⟨si,ei⟩:=alc (o:=.lst [V.ref pa,V.ref pl,sv]) nd
     generalize upd Hh qd _=Hi at si ei |-
     have s1i:=s1h.trans si
     refine⟨_,_,_,_,rfl,rfl,si _ _ (sh _ _ eg'),ei,qan (show 11<=100000 by decide),λqe ne=>?_⟩
     obtain⟨sj,ej⟩:=alc (o:=.lst (([V.str (nm names k0),V.str (nm kinds j4),V.str (nm kinds o),qd8 opn,qd8 (ob.map (nm names))]++[V.int mny,V.str (qfu (c1 / 18)),V.ref pe])++[V.ref pa,V.ref pl,sv])) ne
     generalize upd Hi qe _=Hj at sj ej |-
     have s1j:=s1i.trans sj
     refine⟨_,rfl,_,rfl,_,rfl,_,rfl,l,pn,ns,k0,names,rfl,s1j.seq hS,s1j _ _ hn,nnd,hk,l6,λpy Hk ys npy sk ek yok=>?_⟩
     have s1k:=s1j.trans sk
     refine⟨qan (show 1<=100000 by decide),λqf nf=>?_⟩
     obtain⟨sl,el⟩:=alc (o:=.lst [V.ref py]) nf
     generalize upd Hk qf _=Hl at sl el |-
     have s1l:=s1k.trans sl
     refine⟨_,_,_,_,rfl,rfl,sl _ _ (sk _ _ ej),el,qan (show 12<=100000 by decide),λqg ng=>?_⟩
     obtain⟨sm,em⟩:=alc (o:=.lst (((([V.str (nm names k0),V.str (nm kinds j4),V.str (nm kinds o),qd8 opn,qd8 (ob.map (nm names))]++[V.int mny,V.str (qfu (c1 / 18)),V.ref pe])++[V.ref pa,V.ref pl,sv]))++[V.ref py])) ng
     generalize upd Hl qg _=Hm at sm em |-
     have sfm:=sg.trans (sh.trans (si.trans (sj.trans (sk.trans (sl.trans sm)))))
     have sim:=sj.trans (sk.trans (sl.trans sm))
     have scm:=sd.trans (se.trans (sf.trans sfm))
     have kk:owA ns k0=o:=by
      have:((owA ns k0:Nat):Int)=(o:Int):=by rw[<- qr6,<- ec0];assumption
      exact Eb this
     obtain⟨knd9,kin9⟩:=qv8 (w:=nm kinds o) (e:=[m1,m2,m3].take x3) (a:=[m4,m5].take y3) (g:=lg.map (·.1)) (o:=opn.toList) (s:=stL so) ndM nwM (BQ _ _) (BQ _ _) (by rw[fl];exact BQ _ _) (by rcases hopn with ⟨_,e⟩|⟨_,e⟩ <;>rw[e] <;>simp) (by rcases hso with e|e <;>rw[e] <;>simp[stL])
     refine k qg Hm ⟨nm names k0,nm kinds j4,nm kinds o,opn,ob.map (nm names),mny,qfu (c1 / 18),[m1,m2,m3].take x3,[m4,m5].take y3,lg,so,ys⟩ pe pa pl py sv us (s1l.free ng) (s1d.free npe) (s1g.free npa) nplH (s1j.free npy) (s1l.trans sm) ⟨em,(sf.trans sfm) _ _ ee,(si.trans sim) _ _ eh,(sc.trans scm) _ _ hl,tl.same (sc.trans scm),hst.same scm,(sl.trans sm) _ _ ek⟩ ⟨rfl,kok _ (Ai (qhc (by lia))),by show nm kinds o=_;rw[kk],knd9,λx hx=>?_,λx hx=>?_,?_,b40,u2,⟨?_,rl⟩,⟨by show ([m1,m2,m3].take x3).length<=3;rw[Av];show min x3 3<=3;lia,by show ([m4,m5].take y3).length<=2;rw[Av];show min y3 2<=2;lia⟩,yok⟩
     .rcases kin9 x hx with e|e
      .rw[e];exact kok _ (Ai (qhc (by lia)))
      .exact(okM x e).1
     .rcases kin9 x hx with e|e
      .rw[e];exact w12
      .exact(okM x e).2
     .rcases hopn with ⟨e1,e2⟩|⟨⟨b,e1⟩,e2⟩
      .exact .inr ⟨by show ob.map (nm names)=none;rw[e1];rfl,m0,e2⟩
      .exact .inl ⟨b,(hob b e1).1,by show ob.map (nm names)=_;rw[e1];rfl,(hob b e1).2,e2⟩
     .have:=congrArg Cv fl
      rw[Ab,Av]at this
      show lg.length<=2
      rw[this];exact Nat.min_le_right _ _
theorem qq7 (T:Txt K mg a):FnOk P w K mg base CX0 4 a.fO a.nU ["_law_script", "_law_names", "_law_kinds", "_law_most"] (spLrs K):=by
 refine T.bZ.fn.ok qdn (λvs H Q E h=>?_) (λcdv A outer s H vs Q E hr h=>?_)
 .obtain⟨_,_,_,_,_,_,_,rfl,_⟩:=h
  all_goals rfl
 .obtain⟨l,pn,pk,ns,names,kinds,mo,rfl,hS,hn,hk',nnd,l6,knd,k12,k60,kok,m6,m100,k⟩:=h
  refine⟨_,(qu (qdm (i:=4) qdn.nd rfl rfl (N:=["_law_at", "_law_script", "_law_names", "_law_kinds"]) (js:=[none,some 0,some 1,some 2]) (XN:=["_law_script", "_law_names", "_law_kinds", "_law_most", "_law_rules_here", "_law_room", "_law_rule_here", "_law_sort"]) (xs:=qac qg0) rfl rfl rfl Ez (qdq rfl T.kQ (qk (zq qaq (by rfl) T.kG qap (qk (pv 1) qz qt)) qz zx)) (λ_ _ _ _ _ _=>(qam (i:=0) (show Ck (["_law_at", "_law_script", "_law_names", "_law_kinds"]:List Str) from by decide +kernel) rfl (Az rfl) (Dj rfl))) (λ_ _ _ _ _ _=>qds) (λ_ _ _ _ _ _=>(zp (qt7 T) (hr.mono Ex) rfl T.bC.mgx T.bC.fn.kp T.bC.bd .nil qas (qk (pv 1) (qk (pv 0) (qk (pv 2) (qk (pv 3) qz qt) qt) qt) qt))))
   (qu (zj (i:=5) qdn.nd rfl (Az rfl) (zk qf1 (pv 3) (zq qaq (by rfl) T.kG qap (qk (pv 4) qz qt))))
   (qu (qcn B1 rfl (qb7 (pv 4)) (qam (i:=6) qdn.nd rfl (Az rfl)) (qu (qcn B1 rfl (qb7 (zu (qk zb (qk zb (qk zb (qk zb qz ze) ze) ze) ze))) (qam (i:=7) qdn.nd rfl (Az rfl)) (qu (qit (qa3 qb2 (jb jd (pv 6) (pv 7) (λ_ _=>rfl)) qb8 (qa2 (pv 5))) (qub (pv 6) (pv 7) qoh))
   (zc (zj (i:=5) qdn.nd rfl (Az rfl) (zk qf1 (pv 5) (zq qaq (by rfl) T.kG qap (qk (jb jd (pv 6) (pv 7) (λ_ _=>rfl)) qz zz)))))))
   (qu (zo (zi qaz (pv 5) zb (qae _)) (zc (qit qbt (qub (pv 6) zb qoh))) qai)
   (zc (zo (zi qea (jb jd (pv 6) zb (λ_ _=>rfl)) qbt (qae _)) (zc (zj (i:=5) qdn.nd rfl (Az rfl) (zk qf1 (pv 5) zb))) qai)))))
   (zc (zf (pv 4)))))),?_⟩
  have ln:(names.map V.str).length=names.length:=Ab _
  have bnd:=rb (n:=(names.map V.str).length) (by lia)
  refine⟨_,rfl,_,_,rfl,.inl ⟨_,SqL.of hn,rfl⟩,_,rfl,bnd.1,bnd.2,?_⟩
  refine qvo (λp x q H=>∃(k:Nat)(r:RR)(pe pa pl py:Addr)(sv:V)(us:List V),x=.int (k:Int)/\LR1 (off p H) q r pe pa pl py sv us/\GR names (owA ns) (rkA ns) kinds k r) (λp x q H H' kp=>?_) (λp x q H g=>?_) (λσ'=>∃v,σ'=[v,some (.ref l),some (.ref pn),some (.ref pk)]) qga (qan (by rw[Ab,Cm];lia)) ⟨none,rfl⟩ (λp v σ' H' RR' hv hp sm hp' s4 qq=>?_) qdt λp H1 qs hp s1 e1 lq ndq gq=>?_
  .rintro⟨k',r,pe,pa,pl,py,sv,us,e,h,g⟩
   exact⟨k',r,pe,pa,pl,py,sv,us,e,h.same (qv9 kp),g⟩
  .obtain⟨k',r,pe,pa,pl,py,sv,us,e,h,g⟩:=g
   intro z
   have:=qpe _ _ h.hq
   rw[z]at this;cases this
  .obtain⟨v0,rfl⟩:=s4
   obtain⟨j,hj,rfl⟩:=AM.mp hv
   have hj:j<names.length:=by have:=Dm.mp hj;rw[ln]at this;lia
   obtain⟨zs,hzs⟩:=hp'
   refine⟨_,rfl,_,rfl,_,rfl,_,rfl,l,pn,pk,ns,j,names,kinds,by rw[C3];rfl,sm.seq hS,sm _ _ hn,sm _ _ hk',nnd,hj,l6,knd,k12,k60,kok,λq H5 r pe pa pl py sv us nq n1 n2 n3 n4 s5 x g=>?_⟩
   have ne:∀{z:Addr},H' z=none->z≠p:=λh e=>by rw[e,hzs]at h;cases h
   exact qq _ q H5 ⟨_,rfl⟩ s5 nq ⟨j,r,pe,pa,pl,py,sv,us,by rw[C3],x.offp (s5 _ _ hzs) (ne nq) (ne n1) (ne n2) (ne n3) (ne n4),g⟩
  rw[Ab,Cm,ln,CH]at lq
  have gj:∀j:Nat,j<names.length->∃(q:Addr)(r:RR),qs[j]?=some q/\LR H1 q r/\GR names (owA ns) (rkA ns) kinds j r/\q≠p/\H q=none:=λj hj=>by
   have ex:((Bl (((names.map V.str).length:Int)).toNat).map λi=>V.int (0+(i:Nat)))[j]?=some (.int (0+(j:Int))):=by
    rw[Al,D0 (by rw[ln];lia)];rfl
   have eq:qs[j]?=some (qs[j]'(by lia)):=Ae (by lia)
   obtain⟨⟨k',r,pe,pa,pl,py,sv,us,e,h,g⟩,g2,g3⟩:=gq j _ _ ex eq
   rw[C3]at e
   have e:j=k':=Eb (V.int.inj e)
   subst e
   exact⟨_,r,eq,⟨pe,pa,pl,py,sv,us,h.same qpe⟩,g,g2,g3⟩
  obtain⟨rs0,lr0,hr0⟩:∃rs:List RR,rs.length=names.length/\∀(j:Nat)(r:RR),rs[j]?=some r->∃q,qs[j]?=some q/\LR H1 q r/\GR names (owA ns) (rkA ns) kinds j r/\q≠p/\H q=none:=by
   have w:∀n,n<=names.length->∃rs:List RR,rs.length=n/\∀(j:Nat)(r:RR),rs[j]?=some r->∃q,qs[j]?=some q/\LR H1 q r/\GR names (owA ns) (rkA ns) kinds j r/\q≠p/\H q=none:=by
    intro n
    induction n with
    |zero=>exact λ_=>⟨[],rfl,λj r h=>by cases h⟩
    |succ n ih =>
     intro hn
     obtain⟨rs,h1,h2⟩:=ih (by lia)
     obtain⟨q,r,g1,g2⟩:=gj n (by lia)
     refine⟨rs++[r],by rw[Ah,h1];rfl,λj r' h=>?_⟩
     by_cases c:j<rs.length
     .rw[AF c]at h;exact h2 j r' h
     .rw[A9 (by lia)]at h
      have:j-rs.length<1:=(Ac.mp h).1
      rw[show j-rs.length=0 by lia]at h
      cases h
      rw[show j=n by lia]
      exact⟨q,g1,g2⟩
   exact w _ (A3 _)
  have b0:LRs H H1 p qs rs0:=⟨s1,e1,by rw[lq,lr0],ndq,λq hq=>by
   obtain⟨j,hj⟩:=Bb hq
   have lj:=(Ac.mp hj).1
   obtain⟨q',_,g1,_,_,g4,g5⟩:=gj j (by lia)
   rw[hj]at g1;cases g1;exact⟨g4,g5⟩,hp,λi q r h1 h2=>by
   obtain⟨q',g1,g2,_⟩:=hr0 i r h2
   rw[h1]at g1;cases g1;exact g2⟩
  have g0:GRs names (owA ns) (rkA ns) kinds rs0:=λkk r h=>by obtain⟨_,_,_,g,_⟩:=hr0 kk r h;exact g
  refine⟨_,rfl,_,rfl,_,_,rfl,.inl ⟨_,SqL.of e1,rfl⟩,_,_,rfl,rfl,?_⟩
  have er0:(mo:Int)-((qs.map V.ref).length:Int)=((mo-names.length:Nat):Int):=by rw[Ab,lq];lia
  refine⟨_,rfl,_,rfl,⟨_,SqL.of e1⟩,qc2 (K:=K) (a:=p) (xs:=qs.map V.ref) (λj σ H'=>∃(rs:List RR)(room:Nat),LRs H H' p qs rs/\rs.length=names.length/\GRs names (owA ns) (rkA ns) kinds rs/\room+((rs.take j).map exR).sum+names.length=mo/\∃v6 v7:Option V,σ=[some (.ref l),some (.ref pn),some (.ref pk),some (.int (mo:Int)),some (.ref p),some (.int (room:Int)),v6,v7]) ⟨rs0,mo-names.length,b0,lr0,g0,by rw[DO];show _+0+_=_;lia,none,none,by rw[<- er0];rfl⟩ (λj σ H' _ h=>by obtain⟨_,_,b,_⟩:=h;exact SqL.of b.hp) ?_ ?_⟩
  .rintro j v σ H' hv ⟨rs,room0,bl0,lrs,grs,hroom,v6,v7,rfl⟩
   rw[Al]at hv
   cases hqj:qs[j]? with
   |none=>rw[hqj]at hv;cases hv
   |some q =>
   rw[hqj]at hv
   cases hv
   have lj:j<rs.length:=by have:=(Ac.mp hqj).1;have:=bl0.ln;lia
   obtain⟨r,hrj⟩:∃r,rs[j]?=some r:=⟨_,Ae lj⟩
   refine⟨qan (show 4<=100000 by decide),λpz0 nz0=>?_⟩
   obtain⟨sz0,ez0⟩:=alc (o:=.lst [V.int 7,V.int 8,V.int 9,V.int 11]) nz0
   have nzl:pz0≠q:=λz=>by obtain⟨_,_,_,_,_,_,h1⟩:=bl0.lr j q r hqj hrj;rw[z,h1.hq]at nz0;cases nz0
   generalize upd H' pz0 _=H1' at sz0 ez0 |-
   refine⟨_,rfl,⟨_,SqL.of ez0⟩,qc2 (K:=K) (a:=pz0) (xs:=[V.int 7,V.int 8,V.int 9,V.int 11]) (λt σ H2=>H2 pz0=some (.lst [V.int 7,V.int 8,V.int 9,V.int 11])/\∃(rs1:List RR)(r1:RR)(room:Nat),LRs H H2 p qs rs1/\rs1.length=names.length/\GRs names (owA ns) (rkA ns) kinds rs1/\rs1[j]?=some r1/\rs1.take j=rs.take j/\room+qn3 t r1=room0/\∃v7:Option V,∃vr:V,vr=.int (room:Int)/\σ=[some (.ref l),some (.ref pn),some (.ref pk),some (.int (mo:Int)),some (.ref p),some vr,some (.ref q),v7]) ⟨ez0,rs,r,room0,bl0.same sz0,lrs,grs,hrj,rfl,rfl,_,_,rfl,rfl⟩ (λt σ H2 _ h=>SqL.of h.1) ?_ ?_⟩
   .rintro t v σ H2 hv ⟨hpz,rs1,r1,room,bl,ln1,g1,hr1,tk1,hsum,v7,vr,rfl,rfl⟩
    have ht:t<4:=(Ac.mp hv).1
    obtain⟨pe,pa,pl,py,sv,us,h1⟩:=bl.lr j q r1 hqj hr1
    rcases (by lia:t=0\/t=1\/t=2\/t=3) with rfl|rfl|rfl|rfl
    .cases hv
     refine⟨_,rfl,_,rfl,_,_,_,_,rfl,rfl,SqL.of h1.hq,rfl,_,rfl,_,rfl,_,_,rfl,SqL.of h1.he,λpz nz=>?_⟩
     rw[qpf _ room,<- BO]
     obtain⟨sz,ez⟩:=alc (o:=.lst ((r1.ends.take room).map V.str)) nz
     have nzq:pz≠q:=λz=>by rw[z,h1.hq]at nz;cases nz
     generalize upd H2 pz _=H3 at sz ez |-
     have hq3:=sz _ _ h1.hq
     refine⟨_,rfl,_,rfl,_,_,_,7,rfl,rfl,hq3,rfl,?_⟩
     have kt:KeepT [q] H3 (upd H3 q (.lst ((qft r1 pe pa pl sv py).set 7 (V.ref pz)))):=KeepT.put (Ak.mpr rfl) hq3 (λ_ z=>nomatch z)
     obtain⟨n0,n1,n2,n3⟩:=(h1.same sz).ne hq3
     have x4:LR1 (upd H3 q (.lst ((qft r1 pe pa pl sv py).set 7 (V.ref pz)))) q (qdw 0 room r1) pz pa pl py sv us:=⟨zd,(zh nzq).trans ez,(zh n1).trans (sz _ _ h1.ha),(zh n2).trans (sz _ _ h1.hl),qb4 (h1.tl.same sz) kt,(h1.hs.same sz).keep kt,(zh n3).trans (sz _ _ h1.hy)⟩
     have bl4:=(bl.same sz).put hqj hq3 ⟨_,_,_,_,_,_,x4⟩
     have lt:qie 0 (qdw 0 room r1)=((r1.ends.take room).map V.str).length:=by rw[Ab];rfl
     have hz4:=(zh (o:=.lst ((qft r1 pe pa pl sv py).set 7 (V.ref pz))) nzl).trans (sz _ _ hpz)
     generalize upd H3 q _=H4 at x4 bl4 hz4 |-
     obtain⟨cs1,cs2⟩:=qig (t:=0) (n:=room) Ex r1
     refine⟨_,rfl,_,rfl,_,rfl,_,_,_,_,rfl,rfl,SqL.of x4.hq,rfl,_,_,rfl,.inl ⟨_,SqL.of x4.he,rfl⟩,_,_,rfl,rfl,?_⟩
     have hvr:V.int ((room:Int)-(((r1.ends.take room).map V.str).length:Int))=V.int ((room-qie 0 (qdw 0 room r1):Nat):Int):=by rw[<- lt,Int.ofNat_sub cs2]
     exact⟨hz4,⟨rs1.set j (qdw 0 room r1),qdw 0 room r1,room-qie 0 (qdw 0 room r1),bl4,by rw[BN];exact ln1,qih g1 hr1 (qif 0 room r1),Bx (Ac.mp hr1).1,by rw[take_set'];exact tk1,by rw[cs1];lia,_,V.int ((room:Int)-(((r1.ends.take room).map V.str).length:Int)),hvr,rfl⟩⟩
    .cases hv
     refine⟨_,rfl,_,rfl,_,_,_,_,rfl,rfl,SqL.of h1.hq,rfl,_,rfl,_,rfl,_,_,rfl,SqL.of h1.ha,λpz nz=>?_⟩
     rw[qpf _ room,<- BO]
     obtain⟨sz,ez⟩:=alc (o:=.lst ((r1.anew.take room).map V.str)) nz
     have nzq:pz≠q:=λz=>by rw[z,h1.hq]at nz;cases nz
     generalize upd H2 pz _=H3 at sz ez |-
     have hq3:=sz _ _ h1.hq
     refine⟨_,rfl,_,rfl,_,_,_,8,rfl,rfl,hq3,rfl,?_⟩
     have kt:KeepT [q] H3 (upd H3 q (.lst ((qft r1 pe pa pl sv py).set 8 (V.ref pz)))):=KeepT.put (Ak.mpr rfl) hq3 (λ_ z=>nomatch z)
     obtain⟨n0,n1,n2,n3⟩:=(h1.same sz).ne hq3
     have x4:LR1 (upd H3 q (.lst ((qft r1 pe pa pl sv py).set 8 (V.ref pz)))) q (qdw 1 room r1) pe pz pl py sv us:=⟨zd,(zh n0).trans (sz _ _ h1.he),(zh nzq).trans ez,(zh n2).trans (sz _ _ h1.hl),qb4 (h1.tl.same sz) kt,(h1.hs.same sz).keep kt,(zh n3).trans (sz _ _ h1.hy)⟩
     have bl4:=(bl.same sz).put hqj hq3 ⟨_,_,_,_,_,_,x4⟩
     have lt:qie 1 (qdw 1 room r1)=((r1.anew.take room).map V.str).length:=by rw[Ab];rfl
     have hz4:=(zh (o:=.lst ((qft r1 pe pa pl sv py).set 8 (V.ref pz))) nzl).trans (sz _ _ hpz)
     generalize upd H3 q _=H4 at x4 bl4 hz4 |-
     obtain⟨cs1,cs2⟩:=qig (t:=1) (n:=room) Ex r1
     refine⟨_,rfl,_,rfl,_,rfl,_,_,_,_,rfl,rfl,SqL.of x4.hq,rfl,_,_,rfl,.inl ⟨_,SqL.of x4.ha,rfl⟩,_,_,rfl,rfl,?_⟩
     have hvr:V.int ((room:Int)-(((r1.anew.take room).map V.str).length:Int))=V.int ((room-qie 1 (qdw 1 room r1):Nat):Int):=by rw[<- lt,Int.ofNat_sub cs2]
     exact⟨hz4,⟨rs1.set j (qdw 1 room r1),qdw 1 room r1,room-qie 1 (qdw 1 room r1),bl4,by rw[BN];exact ln1,qih g1 hr1 (qif 1 room r1),Bx (Ac.mp hr1).1,by rw[take_set'];exact tk1,by rw[cs1];lia,_,V.int ((room:Int)-(((r1.anew.take room).map V.str).length:Int)),hvr,rfl⟩⟩
    .cases hv
     refine⟨_,rfl,_,rfl,_,_,_,_,rfl,rfl,SqL.of h1.hq,rfl,_,rfl,_,rfl,_,_,rfl,SqL.of h1.hl,λpz nz=>?_⟩
     rw[qpf _ room]
     obtain⟨sz,ez⟩:=alc (o:=.lst (us.take room)) nz
     have nzq:pz≠q:=λz=>by rw[z,h1.hq]at nz;cases nz
     generalize upd H2 pz _=H3 at sz ez |-
     have hq3:=sz _ _ h1.hq
     refine⟨_,rfl,_,rfl,_,_,_,9,rfl,rfl,hq3,rfl,?_⟩
     have kt:KeepT [q] H3 (upd H3 q (.lst ((qft r1 pe pa pl sv py).set 9 (V.ref pz)))):=KeepT.put (Ak.mpr rfl) hq3 (λ_ z=>nomatch z)
     obtain⟨n0,n1,n2,n3⟩:=(h1.same sz).ne hq3
     have x4:LR1 (upd H3 q (.lst ((qft r1 pe pa pl sv py).set 9 (V.ref pz)))) q (qdw 2 room r1) pe pa pz py sv (us.take room):=⟨zd,(zh n0).trans (sz _ _ h1.he),(zh n1).trans (sz _ _ h1.ha),(zh nzq).trans ez,(by show Tups _ _ ((r1.longer.take room).map qqq);rw[BO];exact qb4 (qtn (h1.tl.same sz) room) kt),(h1.hs.same sz).keep kt,(zh n3).trans (sz _ _ h1.hy)⟩
     have bl4:=(bl.same sz).put hqj hq3 ⟨_,_,_,_,_,_,x4⟩
     have lt:qie 2 (qdw 2 room r1)=(us.take room).length:=by show (r1.longer.take room).length=_;rw[Av,Av,show us.length=r1.longer.length by rw[h1.tl.length,Ab]]
     have hz4:=(zh (o:=.lst ((qft r1 pe pa pl sv py).set 9 (V.ref pz))) nzl).trans (sz _ _ hpz)
     generalize upd H3 q _=H4 at x4 bl4 hz4 |-
     obtain⟨cs1,cs2⟩:=qig (t:=2) (n:=room) Ex r1
     refine⟨_,rfl,_,rfl,_,rfl,_,_,_,_,rfl,rfl,SqL.of x4.hq,rfl,_,_,rfl,.inl ⟨_,SqL.of x4.hl,rfl⟩,_,_,rfl,rfl,?_⟩
     have hvr:V.int ((room:Int)-((us.take room).length:Int))=V.int ((room-qie 2 (qdw 2 room r1):Nat):Int):=by rw[<- lt,Int.ofNat_sub cs2]
     exact⟨hz4,⟨rs1.set j (qdw 2 room r1),qdw 2 room r1,room-qie 2 (qdw 2 room r1),bl4,by rw[BN];exact ln1,qih g1 hr1 (qif 2 room r1),Bx (Ac.mp hr1).1,by rw[take_set'];exact tk1,by rw[cs1];lia,_,V.int ((room:Int)-((us.take room).length:Int)),hvr,rfl⟩⟩
    .cases hv
     refine⟨_,rfl,_,rfl,_,_,_,_,rfl,rfl,SqL.of h1.hq,rfl,_,rfl,_,rfl,_,_,rfl,SqL.of h1.hy,λpz nz=>?_⟩
     rw[qpf _ room,<- BO]
     obtain⟨sz,ez⟩:=alc (o:=.lst ((r1.yields.take room).map V.str)) nz
     have nzq:pz≠q:=λz=>by rw[z,h1.hq]at nz;cases nz
     generalize upd H2 pz _=H3 at sz ez |-
     have hq3:=sz _ _ h1.hq
     refine⟨_,rfl,_,rfl,_,_,_,11,rfl,rfl,hq3,rfl,?_⟩
     have kt:KeepT [q] H3 (upd H3 q (.lst ((qft r1 pe pa pl sv py).set 11 (V.ref pz)))):=KeepT.put (Ak.mpr rfl) hq3 (λ_ z=>nomatch z)
     obtain⟨n0,n1,n2,n3⟩:=(h1.same sz).ne hq3
     have x4:LR1 (upd H3 q (.lst ((qft r1 pe pa pl sv py).set 11 (V.ref pz)))) q (qdw 3 room r1) pe pa pl pz sv us:=⟨zd,(zh n0).trans (sz _ _ h1.he),(zh n1).trans (sz _ _ h1.ha),(zh n2).trans (sz _ _ h1.hl),qb4 (h1.tl.same sz) kt,(h1.hs.same sz).keep kt,(zh nzq).trans ez⟩
     have bl4:=(bl.same sz).put hqj hq3 ⟨_,_,_,_,_,_,x4⟩
     have lt:qie 3 (qdw 3 room r1)=((r1.yields.take room).map V.str).length:=by rw[Ab];rfl
     have hz4:=(zh (o:=.lst ((qft r1 pe pa pl sv py).set 11 (V.ref pz))) nzl).trans (sz _ _ hpz)
     generalize upd H3 q _=H4 at x4 bl4 hz4 |-
     obtain⟨cs1,cs2⟩:=qig (t:=3) (n:=room) Ex r1
     refine⟨_,rfl,_,rfl,_,rfl,_,_,_,_,rfl,rfl,SqL.of x4.hq,rfl,_,_,rfl,.inl ⟨_,SqL.of x4.hy,rfl⟩,_,_,rfl,rfl,?_⟩
     have hvr:V.int ((room:Int)-(((r1.yields.take room).map V.str).length:Int))=V.int ((room-qie 3 (qdw 3 room r1):Nat):Int):=by rw[<- lt,Int.ofNat_sub cs2]
     exact⟨hz4,⟨rs1.set j (qdw 3 room r1),qdw 3 room r1,room-qie 3 (qdw 3 room r1),bl4,by rw[BN];exact ln1,qih g1 hr1 (qif 3 room r1),Bx (Ac.mp hr1).1,by rw[take_set'];exact tk1,by rw[cs1];lia,_,V.int ((room:Int)-(((r1.yields.take room).map V.str).length:Int)),hvr,rfl⟩⟩
   .rintro σ H2 ⟨hpz,rs1,r1,room,bl,ln1,g1,hr1,tk1,hsum,v7,vr,rfl,rfl⟩
    have hsum:room+qn3 4 r1=room0:=hsum
    obtain⟨pe,pa,pl,py,sv,us,h1⟩:=bl.lr j q r1 hqj hr1
    have lj1:=(Ac.mp hr1).1
    have ex0:r1.still=none->exR r1=qn3 4 r1:=λe=>by unfold exR qn3;rw[e];rfl
    have ex1:∀s,r1.still=some s->exR r1=qn3 4 r1+1:=λs e=>by unfold exR qn3;rw[e];rfl
    refine⟨_,rfl,rfl,_,rfl,qbw (λc=>?_) (λc=>?_)⟩
    .have c:(room:Int)=0:=V.int.inj (of_decide_eq_true c)
     refine⟨_,rfl,_,_,_,10,rfl,rfl,h1.hq,rfl,?_⟩
     have kt:KeepT [q] H2 (upd H2 q (.lst ((qft r1 pe pa pl sv py).set 10 V.non))):=KeepT.put (Ak.mpr rfl) h1.hq (λ_ z=>nomatch z)
     obtain⟨n0,n1,n2,n3⟩:=h1.ne h1.hq
     have few:Fewer r1 { r1 with still:=none }:=⟨rfl,rfl,rfl,rfl,rfl,rfl,rfl,BX _,BX _,BX _,.inr rfl,BX _⟩
     have x4:LR1 (upd H2 q (.lst ((qft r1 pe pa pl sv py).set 10 V.non))) q { r1 with still:=none } pe pa pl py .non us:=⟨zd,(zh n0).trans h1.he,(zh n1).trans h1.ha,(zh n2).trans h1.hl,qb4 h1.tl kt,rfl,(zh n3).trans h1.hy⟩
     have bl4:=bl.put hqj h1.hq ⟨_,_,_,_,_,_,x4⟩
     generalize upd H2 q _=H4 at x4 bl4 |-
     refine⟨_,rfl,_,_,_,_,rfl,rfl,SqL.of x4.hq,rfl,rfl,_,rfl,qd9 rfl ?_⟩
     have hx:(rs1.set j { r1 with still:=none })[j]?=some { r1 with still:=none }:=Bx lj1
     refine⟨_,room,bl4,by rw[BN];exact ln1,qih g1 hr1 few,?_,_,_,rfl⟩
     rw[qlj hx,take_set',tk1]
     have:exR { r1 with still:=none }=qn3 4 r1:=rfl
     rw[this];lia
    .have c:room≠0:=λz=>c (decide_eq_true (by rw[z];rfl))
     have hst:=h1.hs
     cases es:r1.still with
     |none =>
      rw[es]at hst
      cases hst
      refine⟨_,rfl,_,_,_,_,rfl,rfl,SqL.of h1.hq,rfl,rfl,_,rfl,qd9 rfl ?_⟩
      exact⟨rs1,room,bl,ln1,g1,by rw[qlj hr1,tk1,ex0 es];lia,_,_,rfl⟩
     |some sp =>
      rw[es]at hst
      obtain⟨ps,rfl,_⟩:=hst
      refine⟨_,rfl,_,_,_,_,rfl,rfl,SqL.of h1.hq,rfl,rfl,_,rfl,qgn (λz=>nomatch z) ⟨_,rfl,_,_,rfl,rfl,?_⟩⟩
      exact⟨rs1,room-1,bl,ln1,g1,by rw[qlj hr1,tk1,ex1 _ es];lia,_,_,by rw[show ((room-1:Nat):Int)=(room:Int)-1 by lia];rfl⟩
  .rintro σ H' ⟨rs,room,bl,lrs,grs,hroom,v6,v7,rfl⟩
   rw[Ab,lq,<- lrs,B0]at hroom
   exact⟨_,rfl,k p H' qs rs bl lrs grs (by rw[<- lrs];lia)⟩
theorem qq8 (T:Txt K mg a):FnOk P w K mg base CX0 1 a.lP a.mC ["_law_rule_here"] spSo:=by
 refine T.gY.fn.ok qa5 (λvs H Q E h=>?_) (λcdv A outer s H vs Q E hr h=>?_)
 .obtain⟨_,_,rfl,_⟩:=h
  all_goals rfl
 .obtain⟨p,r,rfl,lr,ok,k⟩:=h
  refine⟨_,(qu (zj (i:=1) qa5.nd rfl (Dj rfl) (jb jd (pv 0) zb (λ_ _=>rfl)))
   (qu (zj (i:=2) qa5.nd rfl (Az rfl) (zk qab zt (qcf qtf (by rfl) T.kW qer (qk (jb jd (pv 0) zb (λ_ _=>rfl)) qz zz))))
   (qu (zo (zi qea (jb jd (pv 0) zb (λ_ _=>rfl)) qbt (qae _)) (zc (zj (i:=2) qa5.nd rfl (Az rfl) (zk qab zt (jb jd (pv 0) zb (λ_ _=>rfl))))) qai)
   (qu (zj (i:=3) qa5.nd rfl (Az rfl) (zk qab (zk qab (zk qab (zk qab (zk qab zt (pv 1)) zt) (jb jd (pv 0) zb (λ_ _=>rfl))) zt) (jb jd (pv 0) zb (λ_ _=>rfl))))
   (qu (zj (i:=3) qa5.nd rfl (Az rfl) (zk qab (zk qab (zk qab (zk qab (zk qab (zk qab (pv 3) zt) (pv 2)) zt) (qcf qeb (by rfl) T.kW qer (qk (jb jd (pv 0) zb (λ_ _=>rfl)) qz zz))) zt) (jb jd (pv 0) zb (λ_ _=>rfl))))
   (qu (qdm (i:=4) qa5.nd rfl rfl (N:=["_law_kind", "_law_name"]) (js:=[none,some 1]) (XN:=["_law_rule_here", "_law_name", "_law_way", "_law_head", "_law_ends", "_law_anew", "_law_longer", "_law_kind", "_law_units", "_law_times", "_law_row", "_law_still", "_law_yields_here"]) (xs:=qac qeh) rfl rfl rfl Ez (qb7 (jb jd (pv 0) zb (λ_ _=>rfl))) (λ_ _ _ _ _ _=>(qam (i:=0) (show Ck (["_law_kind", "_law_name"]:List Str) from by decide +kernel) rfl (Az rfl) (Dj rfl))) (λ_ _ _ _ _ _=>qds) (λ_ _ _ _ _ _=>(zk qab (zk qab (zk qab zt (pv 1)) zt) (pv 0))))
   (qu (qdm (i:=5) qa5.nd rfl rfl (N:=["_law_kind", "_law_name"]) (js:=[none,some 1]) (XN:=["_law_rule_here", "_law_name", "_law_way", "_law_head", "_law_ends", "_law_anew", "_law_longer", "_law_kind", "_law_units", "_law_times", "_law_row", "_law_still", "_law_yields_here"]) (xs:=qac qeh) rfl rfl rfl Ez (qb7 (jb jd (pv 0) zb (λ_ _=>rfl))) (λ_ _ _ _ _ _=>(qam (i:=0) (show Ck (["_law_kind", "_law_name"]:List Str) from by decide +kernel) rfl (Az rfl) (Dj rfl))) (λ_ _ _ _ _ _=>qds) (λ_ _ _ _ _ _=>(zk qab (zk qab (zk qab zt (pv 1)) zt) (pv 0))))
   (qu (zj (i:=6) qa5.nd rfl (Az rfl) (zu qz))
   (qu (qcn B1 rfl (qb7 (jb jd (pv 0) zb (λ_ _=>rfl))) (qf0 rfl (qa8 (qam (i:=7) qa5.nd rfl (Az rfl)) (qa8 (qam (i:=8) qa5.nd rfl (Az rfl)) (qa8 (qam (i:=9) qa5.nd rfl (Az rfl)) qe2)))) (qu (zj (i:=10) qa5.nd rfl (Az rfl) (zk qab (zk qab (zk qab (zk qab (zk qab zt (pv 1)) zt) (pv 7)) zt) (qcf qeb (by rfl) T.kW qer (qk (pv 8) qz qt))))
   (zc (zn (qcs AL AW AX qbj (pv 6) (qk (zk qab (zk qab (pv 10) zt) (qcf qeb (by rfl) T.kW qer (qk (pv 9) qz qt))) qz zy))))))
   (qu (zj (i:=11) qa5.nd rfl (Az rfl) (zu qz))
   (qu (zo (zi qea (jb jd (pv 0) zb (λ_ _=>rfl)) qbt (qae _)) (zc (zj (i:=11) qa5.nd rfl (Az rfl) (zu (qk (zk qab (zk qab (zk qab (zk qab (zk qab zt (pv 1)) zt) (jb jc (jb jd (pv 0) zb (λ_ _=>rfl)) zb (λ_ _=>rfl))) zt) (jb jc (jb jd (pv 0) zb (λ_ _=>rfl)) zb (λ_ _=>rfl))) qz zy)))) qai)
   (qu (qdm (i:=12) qa5.nd rfl rfl (N:=["_law_other", "_law_name"]) (js:=[none,some 1]) (XN:=["_law_rule_here", "_law_name", "_law_way", "_law_head", "_law_ends", "_law_anew", "_law_longer", "_law_kind", "_law_units", "_law_times", "_law_row", "_law_still", "_law_yields_here"]) (xs:=qac qeh) rfl rfl rfl Ez (qb7 (jb jd (pv 0) zb (λ_ _=>rfl))) (λ_ _ _ _ _ _=>(qam (i:=0) (show Ck (["_law_other", "_law_name"]:List Str) from by decide +kernel) rfl (Az rfl) (Dj rfl))) (λ_ _ _ _ _ _=>qds) (λ_ _ _ _ _ _=>(zk qab (zk qab (zk qab zt (pv 1)) zt) (pv 0))))
   (zc (zf (zu (qk (zu (qk (pv 3) qz qt)) (qk (pv 4) (qk (pv 5) (qk (pv 6) (qk (pv 11) (qk (pv 12) qz qt) qt) qt) qt) qt) qus)))))))))))))))),?_⟩
  obtain⟨pe,pa,pl,py,sv,us,h1⟩:=lr
  obtain⟨l1,l2,l3,l4,l5,l6,l7,l8,l9,l10,l11,l12,l13⟩:=t_lens
  obtain⟨k1,k2,k3,k4,k5,k6⟩:=ok.kin
  obtain⟨z1,z2,z3,z4⟩:=ok.sz
  have n8:r.name.length<=8:=ok.nm.2.1
  have w8:r.who.length<=8:=ok.wh.2.1
  have o8:r.owes.length<=8:=k1.2.1
  have u8:r.unit.length<=5:=(qn4 ok.un).2.2
  have m8:(Aa (toString r.many)).length<=2:=(qii ok.mn.1 ok.mn.2).2.2.2.1
  have op8:(r.opens.getD "None").length<=8:=by
   cases eo:r.opens with
   |none=>show (Aa "None").length<=8;lia
   |some x=>exact(k5 x eo).2.1
  refine⟨_,rfl,_,_,_,_,rfl,rfl,SqL.of (h1.hq),rfl,?_⟩
  refine⟨_,rfl,_,_,_,_,rfl,rfl,SqL.of (h1.hq),rfl,r.opens,by cases r.opens <;>rfl,_,_,rfl,rfl,fz,?_⟩
  have hb':r.base=none \/ ∃y,r.base=some y:=by
   cases r.base with
   |none=>exact .inl rfl
   |some y=>exact .inr ⟨y,rfl⟩
  have way8:(qlk r).length<=15:=by
   unfold qlk
   cases eb:r.base with
   |none=>show (Aa "from " ++ r.opens.getD "None").length<=15;rw[qg4];lia
   |some y=>have:y.length<=8:=(ok.ba y eb).2.1;show (Aa "behind " ++ y).length<=15;rw[qg4];lia
  apply useV (p:=λx=>x=some (.str (qlk r)))
  .intro fin
   refine hb'.elim (λz=>?_) (λz=>?_)
   .refine⟨_,rfl,_,_,_,_,rfl,rfl,SqL.of (h1.hq),rfl,rfl,_,rfl,qd9 (by rw[z];rfl) ?_⟩
    have ew:(some (V.str (Aa "from " ++ r.opens.getD "None")):Option V)=some (.str (qlk r)):=by unfold qlk;rw[z]
    generalize (some (V.str (Aa "from " ++ r.opens.getD "None")):Option V)=x2 at ew |-
    exact fin x2 ew
   .obtain⟨y,eb⟩:=z
    have eb':qd8 r.base=.str y:=by rw[eb];rfl
    have y8:y.length<=8:=(ok.ba y eb).2.1
    refine⟨_,rfl,_,_,_,_,rfl,rfl,SqL.of (h1.hq),rfl,rfl,_,rfl,qgn (λz=>by rw[eb']at z;cases z) ?_⟩
    refine⟨_,rfl,_,_,_,_,rfl,rfl,SqL.of (h1.hq),rfl,_,y,rfl,eb',qan (by lia),?_⟩
    exact fin _ (by unfold qlk;rw[eb])
  rintro x2 rfl
  refine⟨_,rfl,_,_,rfl,rfl,fz,_,_,rfl,rfl,fz,_,rfl,_,_,_,_,rfl,rfl,SqL.of (h1.hq),rfl,_,_,rfl,rfl,fz,_,_,rfl,rfl,fz,_,rfl,_,_,_,_,rfl,rfl,SqL.of (h1.hq),rfl,_,_,rfl,rfl,fz,?_⟩
  refine⟨_,rfl,_,_,rfl,rfl,fz,_,rfl,_,_,rfl,rfl,fz,_,_,rfl,rfl,fz,_,rfl,_,_,_,_,rfl,rfl,SqL.of (h1.hq),rfl,_,rfl,qqw (by have:=ok.mn;lia),_,_,rfl,rfl,fz,_,_,rfl,rfl,fz,_,rfl,_,_,_,_,rfl,rfl,SqL.of (h1.hq),rfl,_,_,rfl,rfl,fz,?_⟩
  have elt:=qm4 r
  have s00:=Same.refl H
  rw[show (Aa "term " ++ r.name++Aa " of " ++ r.who++Aa " due " ++ r.owes++Aa " " ++ qlk r++Aa " " ++ Aa (toString r.many)++Aa " " ++ r.unit)=qag (qa6 r) from elt]
  refine⟨_,rfl,_,_,_,_,rfl,rfl,SqL.of (s00 _ _ h1.hq),rfl,_,rfl,⟨_,SqL.of (s00 _ _ h1.he)⟩,?_⟩
  refine qc9 (λv=>match v with | .str y=>.str (qag (.ends r.name y))|_=>.non) (λσ'=>∃v,σ'=[v,some (.str r.name)]) (qdz (K:=K) (SqL.of (s00 _ _ h1.he))) (qan (by rw[Ab];lia)) ⟨none,rfl⟩ (λv σ' J RR' hv sm s4 qq=>?_) qdt λp1 np1=>?_
  .obtain⟨v0,rfl⟩:=s4
   obtain⟨y,hy,rfl⟩:=AM.mp hv
   have y8:y.length<=8:=(k2 y hy).2.1
   have qq:=qq [some (.str y),some (.str r.name)] ⟨_,rfl⟩
   dsimp only at qq
   rw[<- qm5]at qq
   exact⟨_,rfl,_,_,rfl,rfl,fz,_,_,rfl,rfl,fz,_,rfl,_,_,rfl,rfl,fz,qq⟩
  rw[show ((r.ends).map V.str).map (λv=>match v with | .str y=>V.str (qag (.ends r.name y))|_=>.non)=qbe ((r.ends).map (.ends r.name)) by unfold qbe;rw[Bm,Bm,Bm];rfl]
  obtain⟨s0,e1⟩:=alc (o:=.lst (qbe ((r.ends).map (.ends r.name)))) np1
  generalize upd H p1 _=H1 at s0 e1 |-
  have s10:=s0
  refine⟨_,rfl,_,_,_,_,rfl,rfl,SqL.of (s10 _ _ h1.hq),rfl,_,rfl,⟨_,SqL.of (s10 _ _ h1.ha)⟩,?_⟩
  refine qc9 (λv=>match v with | .str y=>.str (qag (.anew r.name y))|_=>.non) (λσ'=>∃v,σ'=[v,some (.str r.name)]) (qdz (K:=K) (SqL.of (s10 _ _ h1.ha))) (qan (by rw[Ab];lia)) ⟨none,rfl⟩ (λv σ' J RR' hv sm s4 qq=>?_) qdt λp2 np2=>?_
  .obtain⟨v0,rfl⟩:=s4
   obtain⟨y,hy,rfl⟩:=AM.mp hv
   have y8:y.length<=8:=(k3 y hy).2.1
   have qq:=qq [some (.str y),some (.str r.name)] ⟨_,rfl⟩
   dsimp only at qq
   rw[<- qtp]at qq
   exact⟨_,rfl,_,_,rfl,rfl,fz,_,_,rfl,rfl,fz,_,rfl,_,_,rfl,rfl,fz,qq⟩
  rw[show ((r.anew).map V.str).map (λv=>match v with | .str y=>V.str (qag (.anew r.name y))|_=>.non)=qbe ((r.anew).map (.anew r.name)) by unfold qbe;rw[Bm,Bm,Bm];rfl]
  obtain⟨s1,e2⟩:=alc (o:=.lst (qbe ((r.anew).map (.anew r.name)))) np2
  generalize upd H1 p2 _=H2 at s1 e2 |-
  have s20:=s10.trans s1
  refine⟨qef,λp3 n3=>?_⟩
  obtain⟨s2,e3⟩:=alc (o:=.lst []) n3
  generalize upd H2 p3 _=H3 at s2 e3 |-
  have s30:=s20.trans s2
  have lu:us.length=r.longer.length:=by rw[h1.tl.length,Ab]
  refine⟨_,rfl,_,_,_,_,rfl,rfl,SqL.of (s30 _ _ h1.hq),rfl,_,rfl,⟨_,SqL.of (s30 _ _ h1.hl)⟩,qc2 (K:=K) (a:=pl) (xs:=us) (λi σ J=>Same H2 J/\J p3=some (.lst (qbe ((r.longer.take i).map λt=>.longer r.name t.1 t.2.1 t.2.2)))/\∃v7 v8 v9 v10:Option V,σ=[some (.ref p),some (.str r.name),some (.str (qlk r)),some (.str (qag (qa6 r))),some (.ref p1),some (.ref p2),some (.ref p3),v7,v8,v9,v10,none,none]) ⟨s2,e3,none,none,none,none,rfl⟩ (λi σ J _ h=>SqL.of ((s20.trans h.1) _ _ h1.hl)) ?_ ?_⟩
  .rintro i v σ J hv ⟨sJ,hJ,v7,v8,v9,v10,rfl⟩
   obtain⟨b,t,rfl,g1,g2⟩:=h1.tl.get' hv
   rw[Al]at g1
   cases eg:r.longer[i]? with
   |none=>rw[eg]at g1;cases g1
   |some tr =>
   rw[eg]at g1
   cases g1
   have hi:i<r.longer.length:=(Ac.mp eg).1
   have tm:=Ai eg
   obtain⟨⟨b1,b2⟩,b3,b4⟩:=ok.lg tr tm
   have t8:tr.1.length<=8:=(k4 tr tm).2.1
   have a2:(Aa (toString tr.2.1)).length<=2:=(qii b1 (by lia)).2.2.2.1
   have a3:(Aa (toString tr.2.2)).length<=2:=(qii b3 (by lia)).2.2.2.1
   refine⟨_,_,rfl,SqT.of ((s20.trans sJ) _ _ g2),rfl,_,_,rfl,_,_,rfl,_,_,rfl,rfl,?_⟩
   refine⟨_,rfl,_,_,rfl,rfl,fz,_,_,rfl,rfl,fz,_,rfl,_,_,rfl,rfl,fz,_,_,rfl,rfl,fz,_,rfl,_,rfl,qqw (by lia),_,_,rfl,rfl,fz,?_⟩
   refine⟨_,rfl,.inl ⟨rfl,_,SqL.of hJ⟩,_,rfl,_,_,rfl,rfl,fz,_,rfl,_,rfl,qqw (by lia),_,_,rfl,rfl,fz,_,_,_,rfl,rfl,hJ,qde (by unfold qbe;rw[Ab,Ab,Ab,Av];lia),?_⟩
   refine⟨qao sJ n3,?_,_,_,_,_,rfl⟩
   rw[zd,qbb eg,Aq]
   unfold qbe
   rw[Aq,Aq]
   show some (HO.lst (_++[V.str (wS "longer " ++ r.name++wS " " ++ tr.1++wS " " ++ nS tr.2.1++wS " times " ++ nS tr.2.2)]))=_
   rw[qpg];rfl
  .rintro σ H4 ⟨s4,e4,v7,v8,v9,v10,rfl⟩
   rw[lu,B0]at e4
   have s40:=s20.trans s4
   refine⟨qef,λp5 n5=>?_⟩
   obtain⟨s5,e5⟩:=alc (o:=.lst []) n5
   generalize upd H4 p5 _=H5 at s5 e5 |-
   have s50:=s40.trans s5
   have hs5:=h1.hs.same s50
   have hst':r.still=none \/ ∃s,r.still=some s:=by
    cases r.still with
    |none=>exact .inl rfl
    |some s=>exact .inr ⟨s,rfl⟩
   apply use2 (p:=λ(H6:Hp)(x:Option V)=>∃p6,x=some (.ref p6)/\Same H5 H6/\H6 p6=some (.lst (qbe (qfz r.name r.still))))
   .intro fin
    refine hst'.elim (λz=>?_) (λz=>?_)
    .rw[z]at hs5
     have hs5:sv=.non:=hs5
     refine⟨_,rfl,_,_,_,_,rfl,rfl,SqL.of (s50 _ _ h1.hq),rfl,rfl,_,rfl,qd9 hs5 ?_⟩
     obtain⟨H6,hH6⟩:∃H6,H6=H5:=⟨_,rfl⟩
     have qq:∃p6,some (V.ref p5)=some (.ref p6)/\Same H5 H6/\H6 p6=some (.lst (qbe (qfz r.name r.still))):=⟨p5,rfl,by rw[hH6];exact Same.refl _,by rw[hH6,z,e5];rfl⟩
     rw[<- hH6]
     generalize (some (V.ref p5):Option V)=x11 at qq |-
     exact fin H6 x11 qq
    .obtain⟨s,es⟩:=z
     rw[es]at hs5
     obtain⟨b,hb,hs5⟩:=hs5
     obtain⟨q1,q2⟩:=k6 s es
     have q1:s.1.length<=8:=q1.2.1
     have q2:s.2.length<=8:=q2.2.1
     refine⟨_,rfl,_,_,_,_,rfl,rfl,SqL.of (s50 _ _ h1.hq),rfl,rfl,_,rfl,qgn (λz=>by rw[hb]at z;cases z) ?_⟩
     refine⟨_,rfl,_,_,rfl,rfl,fz,_,_,rfl,rfl,fz,_,rfl,_,_,_,_,rfl,rfl,SqL.of (s50 _ _ h1.hq),rfl,_,_,_,_,hb,rfl,SqT.of hs5,rfl,_,_,rfl,rfl,fz,_,_,rfl,rfl,fz,_,rfl,_,_,_,_,rfl,rfl,SqL.of (s50 _ _ h1.hq),rfl,_,_,_,_,hb,rfl,SqT.of hs5,rfl,_,_,rfl,rfl,fz,qan (show 1<=100000 by decide),λp6 n6=>?_⟩
     refine fin _ (some (.ref p6)) ⟨p6,rfl,zm n6,?_⟩
     rw[zd,es]
     show some (HO.lst [V.str (wS "still " ++ r.name++wS " " ++ s.1++wS " " ++ s.2)])=_
     rw[qqv];rfl
   rintro H6 x11 ⟨p6,rfl,s6,e6⟩
   have s60:=s50.trans s6
   have z4':=z4
   refine⟨_,rfl,_,_,_,_,rfl,rfl,SqL.of (s60 _ _ h1.hq),rfl,_,rfl,⟨_,SqL.of (s60 _ _ h1.hy)⟩,?_⟩
   refine qc9 (λv=>match v with | .str y=>.str (qag (.yields r.name y))|_=>.non) (λσ'=>∃v,σ'=[v,some (.str r.name)]) (qdz (K:=K) (SqL.of (s60 _ _ h1.hy))) (qan (by rw[Ab];lia)) ⟨none,rfl⟩ (λv σ' J RR' hv sm s4 qq=>?_) qdt λp7 np7=>?_
   .obtain⟨v0,rfl⟩:=s4
    obtain⟨y,hy,rfl⟩:=AM.mp hv
    have y8:y.length<=8:=(ok.yl y hy).2.1
    have qq:=qq [some (.str y),some (.str r.name)] ⟨_,rfl⟩
    dsimp only at qq
    rw[<- qc8]at qq
    exact⟨_,rfl,_,_,rfl,rfl,fz,_,_,rfl,rfl,fz,_,rfl,_,_,rfl,rfl,fz,qq⟩
   rw[show ((r.yields).map V.str).map (λv=>match v with | .str y=>V.str (qag (.yields r.name y))|_=>.non)=qbe ((r.yields).map (.yields r.name)) by unfold qbe;rw[Bm,Bm,Bm];rfl]
   obtain⟨s6',e7⟩:=alc (o:=.lst (qbe ((r.yields).map (.yields r.name)))) np7
   generalize upd H6 p7 _=H7 at s6' e7 |-
   have s70:=s60.trans s6'
   refine⟨_,rfl,qan (show 1<=100000 by decide),λp8 n8'=>?_⟩
   obtain⟨s8,e8⟩:=alc (o:=.lst [V.str (qag (qa6 r))]) n8'
   generalize upd H7 p8 _=H8 at s8 e8 |-
   have s80:=s70.trans s8
   refine⟨_,rfl,_,rfl,_,rfl,_,rfl,_,rfl,qan (show 6<=100000 by decide),λq nq=>?_⟩
   have s9:=zm (o:=.lst [V.ref p8,V.ref p1,V.ref p2,V.ref p3,V.ref p6,V.ref p7]) nq
   have s89:=s8.trans s9
   have s79:=s6'.trans s89
   have s59:=s6.trans s79
   have s49:=s5.trans s59
   have s29:=s4.trans s49
   refine k q _ _ (s80.free nq) (s80.trans s9) zd rfl λi v rw hv hrw=>?_
   have hi:i<6:=(Ac.mp hv).1
   rcases (by lia:i=0\/i=1\/i=2\/i=3\/i=4\/i=5) with rfl|rfl|rfl|rfl|rfl|rfl
   .cases hv;cases hrw;exact⟨p8,rfl,s9 _ _ e8⟩
   .cases hv;cases hrw;exact⟨p1,rfl,(s1.trans s29) _ _ e1⟩
   .cases hv;cases hrw;exact⟨p2,rfl,s29 _ _ e2⟩
   .cases hv;cases hrw;exact⟨p3,rfl,s49 _ _ e4⟩
   .cases hv;cases hrw;exact⟨p6,rfl,s79 _ _ e6⟩
   .cases hv;cases hrw;exact⟨p7,rfl,s89 _ _ e7⟩
theorem qjh (T:Txt K mg a):FnOk P w K mg base CX0 2 a.mZ a.pA ["_law_rule_here"] spRws:=by
 refine T.kN.fn.ok qg2 (λvs H Q E h=>?_) (λcdv A outer s H vs Q E hr h=>?_)
 .obtain⟨_,_,rfl,_⟩:=h
  all_goals rfl
 .obtain⟨p,r,rfl,lr,ok,k⟩:=h
  refine⟨_,(qu (zj (i:=1) qg2.nd rfl (Az rfl) (zu qz))
   (qu (qcn B1 rfl (qb7 (zp (qq8 T) (hr.mono Ex) rfl T.gY.mgx T.gY.fn.kp T.gY.bd .nil qas (qk (pv 0) qz qt))) (qam (i:=2) qg2.nd rfl (Az rfl)) (zc (zj (i:=1) qg2.nd rfl (Az rfl) (zk qcb (pv 1) (pv 2)))))
   (zc (zf (pv 1))))),?_⟩
  refine⟨qef,λq0 n0=>?_⟩
  obtain⟨s0,e0⟩:=alc (o:=.lst []) n0
  generalize upd H q0 _=H0 at s0 e0 |-
  refine⟨_,rfl,p,r,rfl,lr.same s0,ok,λps H1 us nps s1 es lus hus=>?_⟩
  have s01:=s0.trans s1
  have sl:=qwc ok
  have lS:(qhd r).length=6:=rfl
  refine⟨_,rfl,⟨_,SqL.of es⟩,qc2 (K:=K) (a:=ps) (xs:=us) (λi σ J=>Same H1 J/\(∃q,J q=some (.lst (qbe ((qhd r).take i).flatten))/\H q=none/\∃v2:Option V,σ=[some (.ref p),some (.ref q),v2])/\((qhd r).take i).flatten.length<=100*i) ⟨Same.refl _,⟨q0,s1 _ _ e0,n0,none,rfl⟩,by simp⟩ (λi σ J _ h=>SqL.of (h.1 _ _ es)) ?_ ?_⟩
  .rintro i v σ J hv ⟨sJ,⟨q,hq,nq,v2,rfl⟩,li⟩
   have hi:i<6:=by rw[<- lus];exact(Ac.mp hv).1
   obtain⟨rw',hrw⟩:∃rw',(qhd r)[i]?=some rw':=⟨_,Ae (by rw[lS];exact hi)⟩
   obtain⟨b,rfl,hb⟩:=hus i v rw' hv hrw
   have lb:=sl rw' (Ai hrw)
   have lz:∀z:List Rw7,(qbe z).length=z.length:=λz=>by unfold qbe;rw[Ab,Ab]
   refine⟨_,rfl,_,rfl,_,_,_,_,rfl,rfl,hq,sJ _ _ hb,qan (by rw[lz,lz];lia),λq2 n2=>?_⟩
   refine⟨sJ.trans (zm n2),⟨q2,?_,(s01.trans sJ).free n2,_,rfl⟩,?_⟩
   .rw[zd,qbb hrw,List.flatten_append]
    unfold qbe
    rw[Aq,Aq]
    simp
   .rw[qbb hrw,List.flatten_append,Ah]
    simp only[List.flatten_cons,List.flatten_nil,AV]
    lia
  .rintro σ J ⟨sJ,⟨q,hq,nq,v2,rfl⟩,li⟩
   rw[lus,<- lS,B0]at hq
   exact⟨_,rfl,k q J nq (s01.trans sJ) hq⟩
theorem qnh (T:Txt K mg a):FnOk P w K mg base CX0 8 a.fV a.lV ["_law_text"] (spTo a):=by
 refine T.gB.fn.ok qbf (λvs H Q E h=>?_) (λcdv A outer s H vs Q E hr h=>?_)
 .obtain⟨_,rfl,_⟩:=h
  all_goals rfl
 .obtain⟨ls,rfl,hls,k,ke⟩:=h
  refine⟨_,(qu (zj (i:=1) qbf.nd rfl (Az rfl) (zw (qk zt (qk qbt (qk qfx qz ze) ze) ze)))
   (qu (ps_try ⟨rfl,rfl⟩ (λ_ _ _ hx hp=>(zc (zn (qd4 (ql0 T) (hr.mono Ex) rfl T.kY.mgx T.kY.fn.kp T.kY.bd .nil hx (qk (pv 0) qz qt))))) (ph_no (qd5 (qda rfl T.tJ) (qd5 (qda rfl T.rC) (qd5 (qda rfl T.tG) (qd5 (qda rfl T.tF) (qd5 (qda rfl T.sM) (qd5 (qda rfl T.rG) (qd5 (qda rfl T.pU) (qd5 (qda rfl T.pZ) qxz)))))))) (qov (i:=2) qbf.nd rfl rfl (qda rfl T.nO) (λ_=>(qu (zj (i:=3) qbf.nd rfl (Az rfl) (qke (zq qiy (by rfl) T.kH qak (qk (pv 2) (qk (zw (qk (qbn (v:=.ref a.kE) rfl T.gP rfl) (qk (qbn (v:=.ref a.kA) rfl T.gD rfl) (qk (qbn (v:=.ref a.kD) rfl T.dI rfl) (qk (qbn (v:=.ref a.k9) rfl T.kX rfl) qz qt) qt) qt) qt)) qz ja) qt))))
   (zc (zj (i:=1) qbf.nd rfl (Az rfl) (zw (qk zt (qk (qh1 (pv 2) rfl) (qk (qdk (pv 3) (qdk (zq qc4 (by rfl) T.kH qak (qk (pv 2) (qk (qbn (v:=.ref a.kL) rfl T.kM rfl) qz qt) qt)) (qd7 (zq qc4 (by rfl) T.kH qak (qk (pv 2) (qk (qd1 (v:=.ty "ValueError") rfl T.gS qcw rfl) qz qt) qt))))) qz qgb) qcv) ze)))))) (qov (i:=2) qbf.nd rfl rfl (qda rfl T.gP) (λ_=>(qu (zj (i:=3) qbf.nd rfl (Az rfl) (qke (zq qiy (by rfl) T.kH qak (qk (pv 2) (qk (zw (qk (qbn (v:=.ref a.kA) rfl T.gD rfl) (qk (qbn (v:=.ref a.kD) rfl T.dI rfl) (qk (qbn (v:=.ref a.k9) rfl T.kX rfl) qz qt) qt) qt)) qz ja) qt))))
   (zc (zj (i:=1) qbf.nd rfl (Az rfl) (zw (qk zt (qk (qh1 (pv 2) rfl) (qk (qdk (pv 3) (qdk (zq qc4 (by rfl) T.kH qak (qk (pv 2) (qk (qbn (v:=.ref a.kL) rfl T.kM rfl) qz qt) qt)) (qd7 (zq qc4 (by rfl) T.kH qak (qk (pv 2) (qk (qd1 (v:=.ty "ValueError") rfl T.gS qcw rfl) qz qt) qt))))) qz qgb) qcv) ze)))))) (qov (i:=2) qbf.nd rfl rfl (qda rfl T.dI) (λ_=>(qu (zj (i:=3) qbf.nd rfl (Az rfl) (qke (zq qiy (by rfl) T.kH qak (qk (pv 2) (qk (zw (qk (qbn (v:=.ref a.kA) rfl T.gD rfl) (qk (qbn (v:=.ref a.k9) rfl T.kX rfl) qz qt) qt)) qz ja) qt))))
   (zc (zj (i:=1) qbf.nd rfl (Az rfl) (zw (qk zt (qk (qh1 (pv 2) rfl) (qk (qdk (pv 3) (qdk (zq qc4 (by rfl) T.kH qak (qk (pv 2) (qk (qbn (v:=.ref a.kL) rfl T.kM rfl) qz qt) qt)) (qd7 (zq qc4 (by rfl) T.kH qak (qk (pv 2) (qk (qd1 (v:=.ty "ValueError") rfl T.gS qcw rfl) qz qt) qt))))) qz qgb) qcv) ze)))))) (qov (i:=2) qbf.nd rfl rfl (qda rfl T.kX) (λ_=>(qu (zj (i:=3) qbf.nd rfl (Az rfl) (qke (zq qc4 (by rfl) T.kH qak (qk (pv 2) (qk (qbn (v:=.ref a.kA) rfl T.gD rfl) qz qt) qt))))
   (zc (zj (i:=1) qbf.nd rfl (Az rfl) (zw (qk zt (qk (qh1 (pv 2) rfl) (qk (qdk (pv 3) (qdk (zq qc4 (by rfl) T.kH qak (qk (pv 2) (qk (qbn (v:=.ref a.kL) rfl T.kM rfl) qz qt) qt)) (qd7 (zq qc4 (by rfl) T.kH qak (qk (pv 2) (qk (qd1 (v:=.ty "ValueError") rfl T.gS qcw rfl) qz qt) qt))))) qz qgb) qcv) ze)))))) (qov (i:=2) qbf.nd rfl rfl (qda rfl T.gD) (λ_=>(zc (zj (i:=1) qbf.nd rfl (Az rfl) (zw (qk zt (qk (qh1 (pv 2) rfl) (qk (qdk (zq qc4 (by rfl) T.kH qak (qk (pv 2) (qk (qbn (v:=.ref a.kL) rfl T.kM rfl) qz qt) qt)) (qd7 (zq qc4 (by rfl) T.kH qak (qk (pv 2) (qk (qd1 (v:=.ty "ValueError") rfl T.gS qcw rfl) qz qt) qt)))) qz qgb) qcv) ze))))) ph_nil)))))))
   (zc (zf (pv 1))))),?_⟩
  refine⟨qk8 _ _ _,λt0 n0=>?_⟩
  obtain⟨s0,e0⟩:=alc (o:=.tup [.str (wS "read"),.non,.bl true]) n0
  change _ at e0
  generalize hH0:upd H t0 _=H0 at s0 e0 |-
  refine⟨_,rfl,ls,rfl,hls,λrs ok=>⟨λxb H8 As os s8 bk=>⟨_,rfl,(k rs ok).1 os t0 H8 bk.os (s0.trans s8) (s8 _ _ e0)⟩,?_⟩,λe er=>?_⟩
  .intro x d0 l0 H9 r s9 ex ed el rg
   refine⟨x,_,rfl,ex,⟨⟨qan (show 8<=100000 by decide),λc hc=>?_⟩,?_⟩⟩
   .simp only[An,Ax,or_false]at hc
    rcases hc with rfl|rfl|rfl|rfl|rfl|rfl|rfl|rfl
    .exact T.tV
    .exact T.tL
    .exact T.rT
    .exact T.rA
    .exact T.tX
    .exact T.r6
    .exact T.sZ
    .exact T.pK
   refine qcx T.pO ?_
   refine qcx T.tE ?_
   refine qcx T.sW ?_
   refine qcx T.sR ?_
   refine qgu T.rD ?_
   refine⟨_,rfl,x,_,d0,false,_,_,rfl,ex,ed,T.gN.is,zg T.lO Ex,rfl,_,rfl,_,_,_,_,_,_,_,rfl,ex,⟨_,ed⟩,T.gN.is,.inr ⟨_,rfl,rfl⟩,qba T.pE (i:=0) rfl rfl,_,rfl,qc1 ⟨_,rfl,_,_,_,_,_,_,_,rfl,ex,⟨_,ed⟩,T.gN.is,.inl ⟨_,rfl,rfl⟩,qba T.pE (i:=1) rfl rfl,qk8 _ _ _,λt ht=>?_⟩⟩
   have st:=zm (o:=.tup [.str (wS "ring"),.ref l0,.bl true]) ht
   exact⟨_,rfl,(k rs ok).2 t l0 _ r ((s0.trans s9).trans st) zd (st _ _ el) rg⟩
  cases e with
  |rule i =>
   intro x d0 H9 s9 ex ed
   refine⟨x,_,rfl,ex,⟨⟨qan (show 8<=100000 by decide),λc hc=>?_⟩,?_⟩⟩
   .simp only[An,Ax,or_false]at hc
    rcases hc with rfl|rfl|rfl|rfl|rfl|rfl|rfl|rfl
    .exact T.sO
    .exact T.rK
    .exact T.r8
    .exact T.sN
    .exact T.rM
    .exact T.tK
    .exact T.tU
    .exact T.rP
   refine qgu T.rB ?_
   refine⟨_,rfl,qan (show 4<=100000 by decide),λp hp=>?_⟩
   obtain⟨sp,ep⟩:=alc (o:=.tup [V.ref a.kE,V.ref a.kA,V.ref a.kD,V.ref a.k9]) hp
   generalize upd H9 p _=H10 at sp ep |-
   have kz:([Ao a.kE,Ao a.kA,Ao a.kD,Ao a.k9].map λc=>BC K (.ref a.kF) c)=[Ao a.kE,Ao a.kA,Ao a.kD,Ao a.k9].map (λ_=>some false):=by
    simp only[A4,BL]
    rw[qba T.gI (i:=3) (c:=.ref a.kE) (b:=false) rfl rfl,qba T.gI (i:=6) (c:=.ref a.kA) (b:=false) rfl rfl,qba T.gI (i:=4) (c:=.ref a.kD) (b:=false) rfl rfl,qba T.gI (i:=5) (c:=.ref a.k9) (b:=false) rfl rfl]
   refine⟨_,_,_,_,_,[a.kE,a.kA,a.kD,a.k9],false,rfl,sp _ _ ex,⟨_,sp _ _ ed⟩,T.kO.is,ep,qee kz,_,rfl,?_⟩
   refine⟨_,rfl,x,_,d0,false,_,_,rfl,(sp _ _ ex),(sp _ _ ed),T.kO.is,zg T.gZ Ex,rfl,_,rfl,_,rfl,qc1 ⟨_,rfl,_,_,_,_,_,_,_,rfl,(sp _ _ ex),⟨_,(sp _ _ ed)⟩,T.kO.is,.inr ⟨_,rfl,rfl⟩,qba T.gI (i:=0) rfl rfl,_,rfl,qc1 ⟨_,rfl,_,_,_,_,_,_,_,rfl,(sp _ _ ex),⟨_,(sp _ _ ed)⟩,T.kO.is,.inl ⟨_,rfl,rfl⟩,qba T.gI (i:=1) rfl rfl,qk8 _ _ _,λt ht=>?_⟩⟩⟩
   have st:=zm (o:=.tup [.str (wS "rule"),.int (i:Int),.bl true]) ht
   exact⟨_,rfl,ke _ er t _ ((s0.trans (s9.trans sp)).trans st) zd⟩
  |term y =>
   intro x d0 H9 s9 ex ed
   refine⟨x,_,rfl,ex,⟨⟨qan (show 8<=100000 by decide),λc hc=>?_⟩,?_⟩⟩
   .simp only[An,Ax,or_false]at hc
    rcases hc with rfl|rfl|rfl|rfl|rfl|rfl|rfl|rfl
    .exact T.tY
    .exact T.sQ
    .exact T.tO
    .exact T.pJ
    .exact T.sF
    .exact T.sS
    .exact T.pH
    .exact T.tH
   refine qcx T.pR ?_
   refine qgu T.rY ?_
   refine⟨_,rfl,qan (show 3<=100000 by decide),λp hp=>?_⟩
   obtain⟨sp,ep⟩:=alc (o:=.tup [V.ref a.kA,V.ref a.kD,V.ref a.k9]) hp
   generalize upd H9 p _=H10 at sp ep |-
   have kz:([Ao a.kA,Ao a.kD,Ao a.k9].map λc=>BC K (.ref a.kE) c)=[Ao a.kA,Ao a.kD,Ao a.k9].map (λ_=>some false):=by
    simp only[A4,BL]
    rw[qba T.gO (i:=6) (c:=.ref a.kA) (b:=false) rfl rfl,qba T.gO (i:=4) (c:=.ref a.kD) (b:=false) rfl rfl,qba T.gO (i:=5) (c:=.ref a.k9) (b:=false) rfl rfl]
   refine⟨_,_,_,_,_,[a.kA,a.kD,a.k9],false,rfl,sp _ _ ex,⟨_,sp _ _ ed⟩,T.kK.is,ep,qee kz,_,rfl,?_⟩
   refine⟨_,rfl,x,_,d0,false,_,_,rfl,(sp _ _ ex),(sp _ _ ed),T.kK.is,zg T.bE Ex,rfl,_,rfl,_,rfl,qc1 ⟨_,rfl,_,_,_,_,_,_,_,rfl,(sp _ _ ex),⟨_,(sp _ _ ed)⟩,T.kK.is,.inr ⟨_,rfl,rfl⟩,qba T.gO (i:=0) rfl rfl,_,rfl,qc1 ⟨_,rfl,_,_,_,_,_,_,_,rfl,(sp _ _ ex),⟨_,(sp _ _ ed)⟩,T.kK.is,.inl ⟨_,rfl,rfl⟩,qba T.gO (i:=1) rfl rfl,qk8 _ _ _,λt ht=>?_⟩⟩⟩
   have st:=zm (o:=.tup [.str (wS "term"),.str y,.bl true]) ht
   exact⟨_,rfl,ke _ er t _ ((s0.trans (s9.trans sp)).trans st) zd⟩
  |twice y =>
   intro x d0 H9 s9 ex ed
   refine⟨x,_,rfl,ex,⟨⟨qan (show 8<=100000 by decide),λc hc=>?_⟩,?_⟩⟩
   .simp only[An,Ax,or_false]at hc
    rcases hc with rfl|rfl|rfl|rfl|rfl|rfl|rfl|rfl
    .exact T.pS
    .exact T.tP
    .exact T.rX
    .exact T.rQ
    .exact T.r9
    .exact T.sV
    .exact T.rH
    .exact T.pX
   refine qcx T.pM ?_
   refine qcx T.pT ?_
   refine qgu T.sG ?_
   refine⟨_,rfl,qan (show 2<=100000 by decide),λp hp=>?_⟩
   obtain⟨sp,ep⟩:=alc (o:=.tup [V.ref a.kA,V.ref a.k9]) hp
   generalize upd H9 p _=H10 at sp ep |-
   have kz:([Ao a.kA,Ao a.k9].map λc=>BC K (.ref a.kD) c)=[Ao a.kA,Ao a.k9].map (λ_=>some false):=by
    simp only[A4,BL]
    rw[qba T.dL (i:=6) (c:=.ref a.kA) (b:=false) rfl rfl,qba T.dL (i:=5) (c:=.ref a.k9) (b:=false) rfl rfl]
   refine⟨_,_,_,_,_,[a.kA,a.k9],false,rfl,sp _ _ ex,⟨_,sp _ _ ed⟩,T.kT.is,ep,qee kz,_,rfl,?_⟩
   refine⟨_,rfl,x,_,d0,false,_,_,rfl,(sp _ _ ex),(sp _ _ ed),T.kT.is,zg T.mI Ex,rfl,_,rfl,_,rfl,qc1 ⟨_,rfl,_,_,_,_,_,_,_,rfl,(sp _ _ ex),⟨_,(sp _ _ ed)⟩,T.kT.is,.inr ⟨_,rfl,rfl⟩,qba T.dL (i:=0) rfl rfl,_,rfl,qc1 ⟨_,rfl,_,_,_,_,_,_,_,rfl,(sp _ _ ex),⟨_,(sp _ _ ed)⟩,T.kT.is,.inl ⟨_,rfl,rfl⟩,qba T.dL (i:=1) rfl rfl,qk8 _ _ _,λt ht=>?_⟩⟩⟩
   have st:=zm (o:=.tup [.str (wS "twice"),.str y,.bl true]) ht
   exact⟨_,rfl,ke _ er t _ ((s0.trans (s9.trans sp)).trans st) zd⟩
  |unfit i =>
   intro x d0 H9 s9 ex ed
   refine⟨x,_,rfl,ex,⟨⟨qan (show 8<=100000 by decide),λc hc=>?_⟩,?_⟩⟩
   .simp only[An,Ax,or_false]at hc
    rcases hc with rfl|rfl|rfl|rfl|rfl|rfl|rfl|rfl
    .exact T.sI
    .exact T.rF
    .exact T.sT
    .exact T.rN
    .exact T.rL
    .exact T.pI
    .exact T.sY
    .exact T.rV
   refine qcx T.pV ?_
   refine qcx T.pL ?_
   refine qcx T.tT ?_
   refine qgu T.tR ?_
   refine⟨_,rfl,_,_,_,_,_,_,_,rfl,ex,⟨_,ed⟩,T.kI.is,.inr ⟨_,rfl,rfl⟩,qba T.fA (i:=6) rfl rfl,_,rfl,?_⟩
   refine⟨_,rfl,x,_,d0,false,_,_,rfl,ex,ed,T.kI.is,zg T.kP Ex,rfl,_,rfl,_,rfl,qc1 ⟨_,rfl,_,_,_,_,_,_,_,rfl,ex,⟨_,ed⟩,T.kI.is,.inr ⟨_,rfl,rfl⟩,qba T.fA (i:=0) rfl rfl,_,rfl,qc1 ⟨_,rfl,_,_,_,_,_,_,_,rfl,ex,⟨_,ed⟩,T.kI.is,.inl ⟨_,rfl,rfl⟩,qba T.fA (i:=1) rfl rfl,qk8 _ _ _,λt ht=>?_⟩⟩⟩
   have st:=zm (o:=.tup [.str (wS "unfit"),.int (i:Int),.bl true]) ht
   exact⟨_,rfl,ke _ er t _ ((s0.trans s9).trans st) zd⟩
theorem ql2 (T:Txt K mg a):FnOk P w K mg base CX0 9 a.lT a.nL ["_law_text", "_law_word", "_law_field"] spRi:=by
 refine T.kR.fn.ok qk6 (λvs H Q E h=>?_) (λcdv A outer s H vs Q E hr h=>?_)
 .obtain⟨_,_,rfl,_⟩:=h
  all_goals rfl
 .obtain⟨ls,er,rfl,hls,her,k⟩:=h
  refine⟨_,(qu (zj (i:=3) qk6.nd rfl (Az rfl) (zp (qnh T) (hr.mono Ex) rfl T.gB.mgx T.gB.fn.kp T.gB.bd .nil qas (qk (pv 0) qz qt)))
   (qu (zo (PW.pt (qji (zi qrj (jb jc (pv 3) zb (λ_ _=>rfl)) (pv 1) (qae _)) (qji (zi qxu (jb jc (pv 3) zb (λ_ _=>rfl)) qfx (qae _)) (qir (zr (zq qf9 (by rfl) T.kH qak (qk (jb jc (pv 3) zb (λ_ _=>rfl)) (qk (qd1 (v:=.ty "bool") rfl T.tN qtg rfl) qz qt) zz))))))) (zc (zf qfx)) qai)
   (qu (zo (zi qfe (pv 1) (zw (qk zt (qk zt qz ze) ze)) (by with_unfolding_all rfl)) (zc (zf (qdk (zq qf9 (by rfl) T.kH qak (qk (jb jc (pv 3) zb (λ_ _=>rfl)) (qk (qd1 (v:=.ty "int") rfl T.gR qgl rfl) qz qt) zz)) (qd7 (qcz qaz (jb jc (pv 3) zb (λ_ _=>rfl)) (pv 2) (qae _)))))) qai)
   (zc (zf (qdk (zq qf9 (by rfl) T.kH qak (qk (jb jc (pv 3) zb (λ_ _=>rfl)) (qk (qd1 (v:=.ty "str") rfl T.kW qer rfl) qz qt) zz)) (qd7 (qcz qaz (jb jc (pv 3) zb (λ_ _=>rfl)) (pv 2) (qae _))))))))),?_⟩
  refine⟨_,rfl,ls,rfl,hls,(λrs ok=>(by rw[ok]at her;cases her)),λe er2 t H1 s1 ht=>?_⟩
  rw[her]at er2
  cases er2
  cases er with
  |rule i =>
   refine⟨_,rfl,_,_,_,_,rfl,rfl,SqT.of ht,rfl,_,rfl,rfl,_,rfl,qd9 rfl ⟨_,rfl,_,_,_,_,rfl,rfl,SqT.of ht,rfl,_,_,rfl,rfl,_,rfl,qbv ⟨_,rfl,_,_,_,_,rfl,rfl,SqT.of ht,rfl,_,_,_,_,rfl,.int _,qhy,_,rfl,qbv ?_⟩⟩⟩
   refine⟨_,rfl,qan (show 2<=100000 by decide),λt2 n2=>?_⟩
   obtain⟨s2,e2⟩:=alc (o:=.tup [.str (wS "rule"),.str (wS "unfit")]) n2
   generalize upd H1 t2 _=H2 at s2 e2 |-
   have ht2:=s2 _ _ ht
   refine⟨_,_,rfl,.inr (SqT.of e2),rfl,rfl,_,rfl,qc1 ?_⟩
   exact⟨_,rfl,_,_,_,_,rfl,rfl,SqT.of ht2,rfl,_,_,_,_,rfl,.int _,qf8,_,rfl,qc1 ⟨_,rfl,_,_,_,_,rfl,rfl,SqT.of ht2,rfl,_,rfl,rfl,by rw[decide_eq_true (rfl:(erF _).2=(erF _).2)];exact k H2 (s1.trans s2)⟩⟩
  |term y =>
   refine⟨_,rfl,_,_,_,_,rfl,rfl,SqT.of ht,rfl,_,rfl,rfl,_,rfl,qd9 rfl ⟨_,rfl,_,_,_,_,rfl,rfl,SqT.of ht,rfl,_,_,rfl,rfl,_,rfl,qbv ⟨_,rfl,_,_,_,_,rfl,rfl,SqT.of ht,rfl,_,_,_,_,rfl,.str _,qh0,_,rfl,qbv ?_⟩⟩⟩
   refine⟨_,rfl,qan (show 2<=100000 by decide),λt2 n2=>?_⟩
   obtain⟨s2,e2⟩:=alc (o:=.tup [.str (wS "rule"),.str (wS "unfit")]) n2
   generalize upd H1 t2 _=H2 at s2 e2 |-
   have ht2:=s2 _ _ ht
   refine⟨_,_,rfl,.inr (SqT.of e2),rfl,rfl,_,rfl,qbv ?_⟩
   exact⟨_,rfl,_,_,_,_,rfl,rfl,SqT.of ht2,rfl,_,_,_,_,rfl,.str _,qgc,_,rfl,qc1 ⟨_,rfl,_,_,_,_,rfl,rfl,SqT.of ht2,rfl,_,rfl,rfl,by rw[decide_eq_true (rfl:(erF _).2=(erF _).2)];exact k H2 (s1.trans s2)⟩⟩
  |twice y =>
   refine⟨_,rfl,_,_,_,_,rfl,rfl,SqT.of ht,rfl,_,rfl,rfl,_,rfl,qd9 rfl ⟨_,rfl,_,_,_,_,rfl,rfl,SqT.of ht,rfl,_,_,rfl,rfl,_,rfl,qbv ⟨_,rfl,_,_,_,_,rfl,rfl,SqT.of ht,rfl,_,_,_,_,rfl,.str _,qh0,_,rfl,qbv ?_⟩⟩⟩
   refine⟨_,rfl,qan (show 2<=100000 by decide),λt2 n2=>?_⟩
   obtain⟨s2,e2⟩:=alc (o:=.tup [.str (wS "rule"),.str (wS "unfit")]) n2
   generalize upd H1 t2 _=H2 at s2 e2 |-
   have ht2:=s2 _ _ ht
   refine⟨_,_,rfl,.inr (SqT.of e2),rfl,rfl,_,rfl,qbv ?_⟩
   exact⟨_,rfl,_,_,_,_,rfl,rfl,SqT.of ht2,rfl,_,_,_,_,rfl,.str _,qgc,_,rfl,qc1 ⟨_,rfl,_,_,_,_,rfl,rfl,SqT.of ht2,rfl,_,rfl,rfl,by rw[decide_eq_true (rfl:(erF _).2=(erF _).2)];exact k H2 (s1.trans s2)⟩⟩
  |unfit i =>
   refine⟨_,rfl,_,_,_,_,rfl,rfl,SqT.of ht,rfl,_,rfl,rfl,_,rfl,qd9 rfl ⟨_,rfl,_,_,_,_,rfl,rfl,SqT.of ht,rfl,_,_,rfl,rfl,_,rfl,qbv ⟨_,rfl,_,_,_,_,rfl,rfl,SqT.of ht,rfl,_,_,_,_,rfl,.int _,qhy,_,rfl,qbv ?_⟩⟩⟩
   refine⟨_,rfl,qan (show 2<=100000 by decide),λt2 n2=>?_⟩
   obtain⟨s2,e2⟩:=alc (o:=.tup [.str (wS "rule"),.str (wS "unfit")]) n2
   generalize upd H1 t2 _=H2 at s2 e2 |-
   have ht2:=s2 _ _ ht
   refine⟨_,_,rfl,.inr (SqT.of e2),rfl,rfl,_,rfl,qc1 ?_⟩
   exact⟨_,rfl,_,_,_,_,rfl,rfl,SqT.of ht2,rfl,_,_,_,_,rfl,.int _,qf8,_,rfl,qc1 ⟨_,rfl,_,_,_,_,rfl,rfl,SqT.of ht2,rfl,_,rfl,rfl,by rw[decide_eq_true (rfl:(erF _).2=(erF _).2)];exact k H2 (s1.trans s2)⟩⟩
theorem qq9 (T:Txt K mg a):FnOk P w K mg base CX0 5 a.mY a.mD ["_law_script"] (spDr8 K):=by
 refine T.bY.fn.ok qd0 (λvs H Q E h=>?_) (λcdv A outer s H vs Q E hr h=>?_)
 .obtain⟨_,_,rfl,_⟩:=h
  all_goals rfl
 .obtain⟨l,ns,rfl,hS,k⟩:=h
  refine⟨_,(qu (zj (i:=1) qd0.nd rfl (Az rfl) (zk qar (zp (qau T) (hr.mono Ex) rfl T.k8.mgx T.k8.fn.kp T.k8.bd .nil qas (qk (pv 0) (qk zb qz ze) qt)) zb))
   (qu (zj (i:=2) qd0.nd rfl (Az rfl) (zp (ql1 T) (hr.mono Ex) rfl T.kU.mgx T.kU.fn.kp T.kU.bd .nil qas (qk (zp (qau T) (hr.mono Ex) rfl T.k8.mgx T.k8.fn.kp T.k8.bd .nil qas (qk (pv 0) (qk zb qz ze) qt)) (qk (zk qa1 (pv 1) zb) qz zy) zx)))
   (qu (zj (i:=3) qd0.nd rfl (Az rfl) (qcf qmf (by rfl) T.gR qgl (qk (qcz qaz (zk qar (zk qbc (zp (qau T) (hr.mono Ex) rfl T.k8.mgx T.k8.fn.kp T.k8.bd .nil qas (qk (pv 0) (qk zb qz ze) qt)) zb) zb) zb (qae _)) qz qkp)))
   (qu (zj (i:=4) qd0.nd rfl (Az rfl) (zp (ql1 T) (hr.mono Ex) rfl T.kU.mgx T.kU.fn.kp T.kU.bd .nil qas (qk (zp (qau T) (hr.mono Ex) rfl T.k8.mgx T.k8.fn.kp T.k8.bd .nil qas (qk (pv 0) (qk (zk qf1 zb (pv 3)) qz zy) qt)) (qk zb qz ze) zx)))
   (qu (zj (i:=5) qd0.nd rfl (Az rfl) (zp (qq7 T) (hr.mono Ex) rfl T.bZ.mgx T.bZ.fn.kp T.bZ.bd .nil qas (qk (pv 0) (qk (qa3 qb2 (pv 2) qb8 (qa2 (pv 1))) (qk (pv 4) (qk zb qz ze) qt) zz) qt)))
   (zc (zf (zw (qk (pv 5) (qk (qa3 qb2 (pv 2) (qa2 (pv 1)) qb8) (qk (pv 4) qz qt) zz) qt))))))))),?_⟩
  refine⟨_,rfl,_,_,_,rfl,hS,Ex,_,_,rfl,rfl,(pos Ex),?_⟩
  dsimp only[]
  obtain⟨m,em,hm⟩:∃m:Nat,cell ns 0 % 7=(m:Int)/\m<=6:=⟨(cell ns 0 % 7).toNat,by lia,by lia⟩
  rw[em]
  refine⟨_,rfl,_,_,_,rfl,hS,Ex,_,rfl,_,_,rfl,rfl,?_⟩
  dsimp only[]
  refine⟨_,m+5,rfl,.inl (by lia),λp1 H1 nms n1 s1 e1 l1 nd1 ok1=>?_⟩
  refine⟨_,rfl,_,_,_,rfl,s1.seq hS,Ex,_,_,rfl,rfl,⟨Ex,Ex⟩,_,_,rfl,rfl,(pos Ex),rfl,.inr ⟨_,rfl,?_⟩⟩
  dsimp only[]
  obtain⟨sm,es,hs0,hs1⟩:∃sm:Int,(if decide (V.int (cell ns 0 / 7 % 3)=V.int 1)=true then (1:Int) else 0)=sm/\0<=sm/\sm<=1:=⟨_,rfl,by split <;>decide,by split <;>decide⟩
  rw[es]
  refine⟨_,rfl,_,rfl,_,_,rfl,rfl,_,_,_,rfl,s1.seq hS,by lia,?_⟩
  dsimp only[]
  refine⟨_,16,rfl,.inl Ex,λp2 H2 kinds n2 s2 e2 l2 nd2 ok2=>?_⟩
  have s12:=s1.trans s2
  refine⟨_,rfl,_,rfl,_,rfl,_,rfl,_,_,rfl,SqL.of (s2 _ _ e1),λp3 n3=>?_⟩
  rw[qpf,<- BO]
  obtain⟨s3,e3⟩:=alc (o:=.lst ((nms.take m).map V.str)) n3
  generalize upd H2 p3 _=H3 at s3 e3 |-
  have s13:=s12.trans s3
  have ltm:(nms.take m).length=m:=by rw[Av];lia
  have ndt:(nms.take m).Nodup:=Ck.sublist (BQ _ _) nd1
  have okt:∀x∈nms.take m,qbs x:=λx hx=>ok1 x (CI hx)
  refine⟨_,rfl,l,p3,p2,ns,nms.take m,kinds,36,rfl,s13.seq hS,e3,s3 _ _ e2,ndt,by lia,nd2,by lia,by lia,ok2,Ex,Ex,λp4 H4 qs rs lrs lnr grs sum=>?_⟩
  have s14:=s13.trans lrs.sm
  refine⟨_,rfl,_,rfl,_,rfl,_,rfl,_,_,rfl,SqL.of ((s2.trans (s3.trans lrs.sm)) _ _ e1),λp5 n5=>?_⟩
  rw[qff _ m (by rw[Ab];lia),<- Cs]
  obtain⟨s5,e5⟩:=alc (o:=.lst ((nms.drop m).map V.str)) n5
  generalize upd H4 p5 _=H5 at s5 e5 |-
  refine⟨_,rfl,qk8 _ _ _,λt nt=>?_⟩
  have st:=zm (o:=.tup [.ref p4,.ref p5,.ref p2]) nt
  have s5t:=s5.trans st
  have gn:=qtv grs lnr
  refine k t p4 p5 p2 _ qs rs (nms.drop m) (s14.trans s5t) (s5t _ _ lrs.hp) lrs.ln (λi q r h1 h2=>(lrs.lr i q r h1 h2).same s5t) zd (st _ _ e5) ⟨gt_of grs lnr okt ndt (by lia) Ex sum,Ck.sublist (List.drop_sublist _ _) nd1,by rw[Ba];lia,λz hz=>ok1 z (Dr hz),λz hz h=>?_,by rw[qwg,lnr];exact sum,_,ranked grs lnr ndt⟩
  rw[gn]at h
  rw[<- AK m nms]at nd1
  exact(AZ.mp nd1).2.2 z h z hz rfl
theorem qt8 (T:Txt K mg a):FnOk P w K mg base CX0 9 a.lU a.nH ["_law_text", "_law_name"] spRg8:=by
 refine T.bB.fn.ok qm0 (λvs H Q E h=>?_) (λcdv A outer s H vs Q E hr h=>?_)
 .obtain⟨_,_,_,_,_,rfl,_⟩:=h
  all_goals rfl
 .obtain⟨ls,rs,N,x,rk,rfl,hls,ok,hN,self,dn,hx,k⟩:=h
  refine⟨_,(qu (zj (i:=2) qm0.nd rfl (Az rfl) (zp (qnh T) (hr.mono Ex) rfl T.gB.mgx T.gB.fn.kp T.gB.bd .nil qas (qk (pv 0) qz qt)))
   (zc (zf (qdk (qcz qaz (jb jc (pv 2) zb (λ_ _=>rfl)) zt (qae _)) (qdk (qcz op_isB (jb jc (pv 2) zb (λ_ _=>rfl)) qfx (qae _)) (qd7 (qcz (op_eqL hr.units0) (jb jc (pv 2) zb (λ_ _=>rfl)) (zu (qk (pv 1) qz qt)) (qae _)))))))),?_⟩
  refine⟨_,rfl,ls,rfl,hls,λrs' ok'=>?_,λe er=>?_⟩
  .rw[ok]at ok'
   cases ok'
   refine⟨λos t H1 ho _ _=>(qws ho hN self).elim,λt l H1 r s1 ht hl rg=>?_⟩
   have er:=qtw rg self dn
   rw[er]at hl
   have hl:H1 l=some (.lst [V.str (nm (rs.map RR.name) N)]):=hl
   rw[hx]at hl
   refine⟨_,rfl,_,_,_,_,rfl,rfl,SqT.of ht,rfl,rfl,_,rfl,qfb rfl ⟨_,rfl,_,_,_,_,rfl,rfl,SqT.of ht,rfl,_,_,rfl,rfl,_,rfl,qc1 ⟨_,rfl,_,_,_,_,rfl,rfl,SqT.of ht,rfl,_,rfl,qan (show 1<=100000 by decide),λq n=>?_⟩⟩⟩
   refine⟨_,_,_,_,rfl,rfl,SqL.of (zm n _ _ hl),SqL.of zd,rfl,rfl,?_⟩
   rw[qix (xs:=[V.str x]) rfl]
   exact k _ (s1.trans (zm n))
  .rw[ok]at er;cases er
theorem qra (T:Txt K mg a):FnOk P w K mg base CX0 3 a.nQ a.hZ ["_law_rules_here"] spHd:=by
 refine T.dA.fn.ok qet (λvs H Q E h=>?_) (λcdv A outer s H vs Q E hr h=>?_)
 .obtain⟨_,_,rfl,_⟩:=h
  all_goals rfl
 .obtain⟨p,rs,rfl,hp,rok,l6,l40,k⟩:=h
  refine⟨_,(qu (zj (i:=1) qet.nd rfl (Az rfl) (zu qz))
   (qu (zj (i:=2) qet.nd rfl (Az rfl) zb)
   (qu (qcn B1 rfl (qb7 (pv 0)) (qam (i:=3) qet.nd rfl (Az rfl)) (qu (zn (qcs AL AW AX qbj (pv 1) (qk (pv 2) qz qt)))
   (zc (zj (i:=2) qet.nd rfl (Az rfl) (zk qa1 (pv 2) (zq qaq (by rfl) T.kG qap (qk (zp (qjh T) (hr.mono Ex) rfl T.kN.mgx T.kN.fn.kp T.kN.bd .nil qas (qk (pv 3) qz qt)) qz zx)))))))
   (zc (zf (pv 1)))))),?_⟩
  refine⟨qef,λq nq=>?_⟩
  obtain⟨s0,e0⟩:=alc (o:=.lst []) nq
  generalize upd H q _=H0 at s0 e0 |-
  obtain⟨qs,hqs,lq,hlr⟩:=hp
  refine⟨_,rfl,_,rfl,⟨_,SqL.of (s0 _ _ hqs)⟩,qc2 (K:=K) (a:=p) (xs:=qs.map V.ref) (λi σ J=>Same H J/\J q=some (.lst ((Bl i).map λk=>V.int (hd rs k:Int)))/\∃v3:Option V,σ=[some (.ref p),some (.ref q),some (.int (hd rs i:Int)),v3]) ⟨s0,e0,none,rfl⟩ (λi σ J _ h=>SqL.of (h.1 _ _ hqs)) ?_ ?_⟩
  .rintro i v σ J hv ⟨sJ,hJ,v3,rfl⟩
   rw[Al]at hv
   cases eq:qs[i]? with
   |none=>rw[eq]at hv;cases hv
   |some qi =>
   rw[eq]at hv
   cases hv
   have hi:i<rs.length:=by rw[<- lq];exact(Ac.mp eq).1
   have hr:rs[i]?=some rs[i]:=Ae hi
   have hdl:=qwf hr
   refine⟨_,rfl,.inl ⟨rfl,_,SqL.of hJ⟩,_,rfl,_,_,_,rfl,rfl,hJ,qde (by rw[Ab,Cm];lia),?_⟩
   have sA:=qao (o:=.lst (((Bl i).map λk=>V.int (hd rs k:Int))++[.int (hd rs i:Int)])) sJ nq
   have eA:=zd (H:=J) (a:=q) (o:=.lst (((Bl i).map λk=>V.int (hd rs k:Int))++[.int (hd rs i:Int)]))
   generalize upd J q _=J1 at sA eA |-
   refine⟨_,rfl,_,rfl,qi,rs[i],rfl,(hlr i qi _ eq hr).same sA,rok _ (Bq hi),λpz J3 nz s3 ez=>?_⟩
   refine⟨_,_,rfl,.inl ⟨_,SqL.of ez,rfl⟩,_,_,rfl,rfl,?_⟩
   refine⟨sA.trans s3,?_,some (.ref qi),?_⟩
   .rw[s3 _ _ eA,List.range_succ,Aq];rfl
   .rw[qsh hr]
    unfold qbe
    rw[Ab,Ab]
    rfl
  .rintro σ J ⟨sJ,hJ,v3,rfl⟩
   rw[Ab,lq]at hJ
   exact⟨_,rfl,k q J nq sJ hJ⟩
theorem qrb (T:Txt K mg a):FnOk P w K mg base CX0 1 a.nM a.mO ["_law_rules_here"] spPr8:=by
 refine T.bG.fn.ok qfq (λvs H Q E h=>?_) (λcdv A outer s H vs Q E hr h=>?_)
 .obtain⟨_,_,rfl,_⟩:=h
  all_goals rfl
 .obtain⟨p,rs,rfl,hp,rok,l6,k⟩:=h
  refine⟨_,(qu (zj (i:=1) qfq.nd rfl (Az rfl) (zu qz))
   (qu (qcn B1 rfl (qb7 (pv 0)) (qam (i:=2) qfq.nd rfl (Az rfl)) (zc (qcn B1 rfl (qb7 (pv 0)) (qam (i:=3) qfq.nd rfl (Az rfl)) (zc (zo (zi qrj (jb jd (pv 2) zb (λ_ _=>rfl)) (jb jd (pv 3) zb (λ_ _=>rfl)) (qae _)) (zc (zn (qcs AL AW AX qbj (pv 1) (qk (zk qab (zk qab (zk qab zt (jb jd (pv 2) zb (λ_ _=>rfl))) zt) (jb jd (pv 3) zb (λ_ _=>rfl))) qz zy)))) qai)))))
   (zc (zf (pv 1))))),?_⟩
  obtain⟨qs,hqs,lq,hlr⟩:=hp
  refine⟨qef,λq nq=>?_⟩
  obtain⟨s0,e0⟩:=alc (o:=.lst []) nq
  generalize upd H q _=H0 at s0 e0 |-
  refine⟨_,rfl,_,rfl,⟨_,SqL.of (s0 _ _ hqs)⟩,qc2 (K:=K) (a:=p) (xs:=qs.map V.ref) (λi σ J=>Same H J/\(∃pr,J q=some (.lst (qbe pr))/\PrOk rs pr/\pr.length<=6*i)/\∃v2 v3:Option V,σ=[some (.ref p),some (.ref q),v2,v3]) ⟨s0,⟨[],e0,(λ_ h=>nomatch h),B7 _⟩,none,none,rfl⟩ (λi σ J _ h=>SqL.of (h.1 _ _ hqs)) ?_ ?_⟩
  .rintro i v σ J hv ⟨sJ,⟨pr,hJ,ok,ll⟩,v2,v3,rfl⟩
   obtain⟨qi,r,eq,hr,rfl⟩:=qwt hv lq
   refine⟨_,rfl,_,rfl,⟨_,SqL.of (sJ _ _ hqs)⟩,qc2 (K:=K) (a:=p) (xs:=qs.map V.ref) (λj σ J2=>Same H J2/\(∃pr,J2 q=some (.lst (qbe pr))/\PrOk rs pr/\pr.length<=6*i+j)/\∃v3:Option V,σ=[some (.ref p),some (.ref q),some (.ref qi),v3]) ⟨sJ,⟨pr,hJ,ok,ll⟩,v3,rfl⟩ (λj σ J2 _ h=>SqL.of (h.1 _ _ hqs)) ?_ ?_⟩
   .rintro j v σ J2 hv2 ⟨sJ2,⟨pr2,hJ2,ok2,ll2⟩,v3',rfl⟩
    obtain⟨qj,r2,eq2,hr2,rfl⟩:=qwt hv2 lq
    obtain⟨_,_,_,_,_,_,h1⟩:=(hlr i qi r eq hr).same sJ2
    obtain⟨_,_,_,_,_,_,h2⟩:=(hlr j qj r2 eq2 hr2).same sJ2
    have hi:=(Ac.mp hr).1
    have hj:=(Ac.mp hr2).1
    have n8:r.name.length<=8:=(rok r (Ai hr)).nm.2.1
    have m8:r2.name.length<=8:=(rok r2 (Ai hr2)).nm.2.1
    refine⟨_,rfl,_,_,_,_,rfl,rfl,SqL.of (h1.hq),rfl,_,rfl,_,_,_,_,rfl,rfl,SqL.of (h2.hq),rfl,rfl,_,rfl,qbw (λc=>?_) (λc=>?_)⟩
    .refine⟨_,rfl,.inl ⟨rfl,_,SqL.of hJ2⟩,_,rfl,_,_,_,_,rfl,rfl,SqL.of (h1.hq),rfl,_,_,rfl,rfl,fz,_,_,rfl,rfl,fz,_,rfl,_,_,_,_,rfl,rfl,SqL.of (h2.hq),rfl,_,_,rfl,rfl,fz,_,_,_,rfl,rfl,hJ2,qde (by rw[qbr];lia),?_⟩
     refine⟨qao sJ2 nq,⟨pr2++[.yields r.name r2.name],?_,λrow hrow=>?_,by rw[Ah];show _+1<=_;lia⟩,_,rfl⟩
     .rw[zd]
      show some (HO.lst (_++[V.str (wS "yields " ++ r.name++wS " " ++ r2.name)]))=_
      rw[qc8]
      unfold qbe
      rw[Aq,Aq];rfl
     .rcases Au.mp hrow with z|z
      .exact ok2 row z
      .exact⟨i,j,r,r2,hr,hr2,λz=>by rw[z]at c;simp at c,Ak.mp z⟩
    .exact⟨sJ2,⟨pr2,hJ2,ok2,by lia⟩,_,rfl⟩
   .rintro σ J2 ⟨sJ2,⟨pr2,hJ2,ok2,ll2⟩,v3',rfl⟩
    rw[Ab,lq]at ll2
    exact⟨sJ2,⟨pr2,hJ2,ok2,by lia⟩,_,_,rfl⟩
  .rintro σ J ⟨sJ,⟨pr,hJ,ok,ll⟩,v2,v3,rfl⟩
   rw[Ab,lq]at ll
   exact⟨_,rfl,k q J pr nq sJ hJ ok (by lia)⟩
theorem ql3 (T:Txt K mg a):FnOk P w K mg base CX0 4 a.mP a.nN ["_law_way", "_law_cell", "_law_rules_here", "_law_rows_here", "_law_spare"] spBy8:=by
 refine T.bM.fn.ok qa9 (λvs H Q E h=>?_) (λcdv A outer s H vs Q E hr h=>?_)
 .obtain⟨_,_,_,_,_,_,_,rfl,_⟩:=h
  all_goals rfl
 .obtain⟨wy,c,p,q,ps,rs,sp,rfl,hp,dw,l1,hw,hsp,k⟩:=h
  refine⟨_,(qu (zj (i:=5) qa9.nd rfl (Az rfl) (zp (qra T) (hr.mono Ex) rfl T.dA.mgx T.dA.fn.kp T.dA.bd .nil qas (qk (pv 2) qz qt)))
   (qu (zj (i:=6) qa9.nd rfl (Az rfl) (zk qar (pv 1) (zq qaq (by rfl) T.kG qap (qk (pv 2) qz qt))))
   (qu (zj (i:=7) qa9.nd rfl (Az rfl) (jb jd (jb jd (pv 2) (pv 6) (λ_ _=>rfl)) zb (λ_ _=>rfl)))
   (qu (zj (i:=8) qa9.nd rfl (Az rfl) (zk qa1 (zk qa1 (jb jd (pv 5) (pv 6) (λ_ _=>rfl)) zb) (zk qar (zk qbc (pv 1) zb) (zk qf1 (zq qaq (by rfl) T.kG qap (qk (pv 3) qz qt)) (jb jd (pv 5) (pv 6) (λ_ _=>rfl))))))
   (qu (zo (zi qaz (pv 0) zb (qae _)) (zc (zf (zw (qk (pv 8) (qk (zk qab (zk qab (zk qab zt (pv 7)) zt) (pv 7)) (qk zt (qk (pv 8) qz qt) ze) zy) qt)))) qai)
   (qu (zj (i:=9) qa9.nd rfl (Az rfl) (zp (qrb T) (hr.mono Ex) rfl T.bG.mgx T.bG.fn.kp T.bG.bd .nil qas (qk (pv 2) qz qt)))
   (qu (zo (PW.pt (qdr (zi qaz (pv 0) zb (qae _)) (qdi (zi (qns hr.units0) (pv 9) (zu qz) (qae _))))) (qu (zj (i:=10) qa9.nd rfl (Az rfl) (jb jd (pv 9) (zk qar (zk qbc (pv 1) zb) (zq qaq (by rfl) T.kG qap (qk (pv 9) qz qt))) (λ_ _=>rfl)))
   (zc (zf (zw (qk (zq qaq (by rfl) T.kG qap (qk (pv 3) qz qt)) (qk (pv 10) (qk zt (qk (zq qaq (by rfl) T.kG qap (qk (pv 3) qz qt)) qz zx) ze) qt) zx))))) qai)
   (qu (zj (i:=11) qa9.nd rfl (Az rfl) (jb jd (jb jd (pv 2) (pv 6) (λ_ _=>rfl)) zb (λ_ _=>rfl)))
   (qu (zo (PW.pt (qdr (zi qaz (pv 0) zb (qae _)) (qdi (zi (qns hr.units0) (pv 11) (zu qz) (qae _))))) (qu (zj (i:=10) qa9.nd rfl (Az rfl) (zk qab (zk qab (zk qab zt (pv 7)) zt) (jb jd (pv 11) (zk qar (zk qbc (pv 1) zb) (zq qaq (by rfl) T.kG qap (qk (pv 11) qz qt))) (λ_ _=>rfl))))
   (qu (zj (i:=12) qa9.nd rfl (Az rfl) (qcs AL DC DD qiz (pv 3) (qk (pv 10) qz qt)))
   (qu (zo (zi qjj (pv 8) (pv 12) (qae _)) (zc (zf (zw (qk (pv 8) (qk (pv 10) (qk zt (qk (zk qa1 (pv 12) zb) qz zy) ze) qt) qt)))) qai)
   (zc (zf (zw (qk (pv 8) (qk (pv 10) (qk zt (qk (pv 8) qz qt) ze) qt) qt))))))) qai)
   (zc (zf (zw (qk (pv 8) (qk (zk qab (zk qab (zk qab zt (pv 7)) zt) (jb jd (pv 4) zb (λ_ _=>rfl))) (qk zt (qk (jb jd (pv 4) zb (λ_ _=>rfl)) qz zz) ze) zy) qt))))))))))))),?_⟩
  have l36:=dw.l36
  have l6:=dw.gt.l6
  have gok:=dw.gt.ok
  have lwl:(qbe (qaa rs)).length=(qaa rs).length:=qbr _
  have hp':=hp
  obtain⟨qs,hqs,lq,hlr⟩:=hp'
  obtain⟨x0,x1,x2,x3,x4,rfl⟩:=qty dw.sl
  refine⟨_,rfl,p,rs,rfl,hp,gok,l6,by lia,λqh H1 nh s1 eh=>?_⟩
  obtain⟨j,ej,hj⟩:∃j:Nat,c % (((qs.map V.ref).length:Nat):Int)=(j:Int)/\j<rs.length:=by rw[Ab,lq];exact md _ _ l1
  have hq:qs[j]?=some (qs[j]'(by lia)):=Ae (by lia)
  have hr:rs[j]?=some rs[j]:=Ae hj
  have aj:atI (qs.map V.ref) (j:Int)=some (.ref (qs[j]'(by lia))):=qbu (by rw[Al,hq];rfl)
  refine⟨_,rfl,_,rfl,_,_,rfl,.inl ⟨_,SqL.of (s1 _ _ hqs),rfl⟩,_,_,rfl,rfl,pos (by rw[Ab];lia),?_⟩
  dsimp only[]
  rw[ej]
  obtain⟨pe,pa,pl,py,sv,us,h1⟩:=(hlr j _ _ hq hr).same s1
  refine⟨_,rfl,_,rfl,_,_,_,_,rfl,rfl,SqL.of (s1 _ _ hqs),aj,_,_,_,_,rfl,rfl,SqL.of h1.hq,rfl,?_⟩
  have hdl:=qwf hr
  obtain⟨n,en,n1,n2⟩:=qsi (c / 6) hdl
  have n8:rs[j].name.length<=8:=(gok _ (Bq hj)).nm.2.1
  refine⟨_,rfl,_,rfl,_,_,_,_,rfl,rfl,SqL.of eh,(qy8 rs hj),_,_,rfl,rfl,_,rfl,_,_,rfl,rfl,⟨Ex,Ex⟩,_,rfl,_,_,rfl,.inl ⟨_,SqL.of (s1 _ _ hw),rfl⟩,_,rfl,_,rfl,_,_,_,_,rfl,rfl,SqL.of eh,(qy8 rs hj),_,_,rfl,rfl,_,_,rfl,rfl,pos (by rw[lwl];lia),_,_,rfl,rfl,?_⟩
  dsimp only[]
  rw[lwl,en]
  generalize rs[j]=r at hr h1 n8
  refine⟨_,rfl,rfl,_,rfl,qbw (λc1=>?_) (λc1=>?_)⟩
  .refine⟨_,rfl,_,rfl,_,_,rfl,rfl,fz,_,_,rfl,rfl,fz,_,rfl,_,_,rfl,rfl,fz,_,rfl,qan (show 4<=100000 by decide),λt nt=>?_⟩
   exact k t _ n (.yields r.name r.name) n (.unfit n) (s1.trans (zm nt)) (by rw[zd,<- qc8];rfl) (qwn dw.gt n2 hr n1) rfl
  refine⟨_,rfl,p,rs,rfl,hp.same s1,gok,l6,λqp H2 pr np s2 ep pok lp=>?_⟩
  have s12:=s1.trans s2
  have flp:(qbe pr).all qcr=true:=by unfold qbe;rw[CG];exact Bf.mpr λ_ _=>rfl
  have fly:(r.yields.map V.str).all qcr=true:=by rw[CG];exact Bf.mpr λ_ _=>rfl
  apply qnf (p:=λJ=>Same H2 J)
  .intro fin
   refine⟨_,rfl,rfl,_,rfl,qbw (λc2=>?_) (λc2=>?_)⟩
   .refine⟨_,rfl,qef,λpz npz=>?_⟩
    generalize hh:upd H2 pz _=H3
    obtain⟨s3,e3⟩:=alg hh npz
    clear hh
    refine⟨_,_,_,_,rfl,rfl,SqL.of (s3 _ _ ep),SqL.of e3,flp,rfl,_,rfl,qbw (λc3=>?_) (λc3=>?_)⟩
    .have l1':1<=pr.length:=by
      cases pr with
      |nil=>exact absurd c3 Ex
      |cons _ _=>exact C2 _
     have ep3:=s3 _ _ ep
     have hw3:=(s12.trans s3) _ _ hw
     obtain⟨i,ei,hi⟩:∃i:Nat,c / 6 % (((qbe pr).length:Nat):Int)=(i:Int)/\i<pr.length:=by rw[qbr];exact md _ _ l1'
     have ai:atI (qbe pr) (i:Int)=some (.str (qag pr[i])):=qbu (by unfold qbe;rw[Al,Al,Ae hi];rfl)
     obtain⟨k1,k2,r1,r2,g1,g2,g3,g4⟩:=pok pr[i] (Bq hi)
     refine⟨_,rfl,_,rfl,_,_,rfl,rfl,⟨Ex,Ex⟩,_,rfl,_,_,rfl,.inl ⟨_,SqL.of ep3,rfl⟩,_,_,rfl,rfl,pos (by rw[qbr];lia),_,_,_,_,rfl,rfl,SqL.of ep3,(show atI (qbe pr) (c / 6 % (((qbe pr).length:Nat):Int))=_ by rw[ei];exact ai),?_⟩
     refine⟨_,rfl,_,_,rfl,.inl ⟨_,SqL.of hw3,rfl⟩,_,rfl,_,rfl,_,_,rfl,.inl ⟨_,SqL.of hw3,rfl⟩,qan (show 4<=100000 by decide),λt nt=>?_⟩
     exact k t _ (qaa rs).length pr[i] _ (.unfit (qaa rs).length) ((s12.trans s3).trans (zm nt)) (by rw[zd,lwl];rfl) (by rw[g4];exact qwo dw.gt g1 g2 g3) rfl
    .exact fin H3 s3
   .exact qbv (fin H2 (λ_ _ z=>z))
  intro H4 t4
  have s14:=s12.trans t4
  have h4:=h1.same (s2.trans t4)
  have hqs4:=s14 _ _ hqs
  have hw4:=s14 _ _ hw
  refine⟨_,rfl,_,rfl,_,_,_,_,rfl,rfl,SqL.of hqs4,aj,_,_,_,_,rfl,rfl,SqL.of h4.hq,rfl,?_⟩
  apply qnf (p:=λJ=>Same H4 J)
  .intro fin
   refine⟨_,rfl,rfl,_,rfl,qbw (λc2=>?_) (λc2=>?_)⟩
   .refine⟨_,rfl,qef,λpz npz=>?_⟩
    generalize hh:upd H4 pz _=H5
    obtain⟨s5,e5⟩:=alg hh npz
    clear hh
    have hy5:=s5 _ _ h4.hy
    refine⟨_,_,_,_,rfl,rfl,SqL.of hy5,SqL.of e5,fly,rfl,_,rfl,qbw (λc3=>?_) (λc3=>?_)⟩
    .have l1':1<=r.yields.length:=by
      cases e:r.yields with
      |nil=>rw[e]at c3;exact absurd c3 Ex
      |cons _ _=>exact C2 _
     obtain⟨i,ei,hi⟩:∃i:Nat,c / 6 % (((r.yields.map V.str).length:Nat):Int)=(i:Int)/\i<r.yields.length:=by rw[Ab];exact md _ _ l1'
     have ai:atI (r.yields.map V.str) (i:Int)=some (.str r.yields[i]):=qbu (by rw[Al,Ae hi];rfl)
     have rm:=Ai hr
     have ym:=Bq hi
     have y8:r.yields[i].length<=8:=((gok r rm).yl _ ym).2.1
     generalize r.yields[i]=y at ai ym y8
     have hw5:=s5 _ _ hw4
     have mem:Rw7.yields r.name y∈qaa rs:=Bs.mpr ⟨r,rm,by rw[qby];exact Ar _ (by unfold qbg;exact Ay _ (Ay _ (Ay _ (Ay _ (B9 ym)))))⟩
     obtain⟨f,f1,f2⟩:=qpr (B9 (f:=qag) mem)
     have f3:(qaa rs)[f]?=some (.yields r.name y):=by
      rw[Al]at f1
      cases e:(qaa rs)[f]? with
      |none=>rw[e]at f1;cases f1
      |some row =>
       rw[e]at f1
       have aok:=qgt gok
       rw[qps (aok row (Ai e)) (aok _ mem) (AD f1)]
     refine⟨_,rfl,_,_,rfl,rfl,fz,_,_,rfl,rfl,fz,_,rfl,_,rfl,_,_,rfl,rfl,⟨Ex,Ex⟩,_,rfl,_,_,rfl,.inl ⟨_,SqL.of hy5,rfl⟩,_,_,rfl,rfl,pos (by rw[Ab];lia),_,_,_,_,rfl,rfl,SqL.of hy5,(show atI (r.yields.map V.str) (c / 6 % (((r.yields.map V.str).length:Nat):Int))=_ by rw[ei];exact ai),?_⟩
     refine⟨_,_,rfl,rfl,fz,?_⟩
     rw[show Aa "yields " ++ r.name++Aa " " ++ y=qag (.yields r.name y) from qc8 _ _]
     refine⟨_,rfl,.inl ⟨rfl,_,SqL.of hw5⟩,_,rfl,q,(qaa rs).map qag,qag (.yields r.name y),f,rfl,rfl,hw5,f1,f2,?_⟩
     refine⟨_,rfl,_,rfl,_,_,rfl,rfl,_,rfl,qbw (λc5=>?_) (λc5=>?_)⟩
     .refine⟨_,rfl,_,rfl,_,rfl,_,_,rfl,rfl,qan (show 4<=100000 by decide),λt nt=>?_⟩
      have nf:n<=f:=by have:=of_decide_eq_true c5;lia
      exact k t _ n (.yields r.name y) (f+1) (.unfit (f+1)) ((s14.trans s5).trans (zm nt)) (by rw[zd];rfl) (qwq dw.gt hr n1 f3 nf) rfl
     .refine⟨_,rfl,_,rfl,_,rfl,qan (show 4<=100000 by decide),λt nt=>?_⟩
      have fn:f<n:=by
       by_cases z:f<n
       .exact z
       .exact absurd (decide_eq_true (by lia)) c5
      exact k t _ n (.yields r.name y) n (.unfit n) ((s14.trans s5).trans (zm nt)) (by rw[zd];rfl) (qwp dw.gt n2 hr n1 f3 fn) rfl
    .exact fin H5 s5
   .exact qbv (fin H4 (λ_ _ z=>z))
  intro H6 t6
  have hs6:=(s14.trans t6) _ _ hsp
  have x8:x0.length<=8:=(dw.so x0 Am).2.1
  refine⟨_,rfl,_,rfl,_,_,rfl,rfl,fz,_,_,rfl,rfl,fz,_,rfl,_,_,_,_,rfl,rfl,SqL.of hs6,rfl,_,_,rfl,rfl,fz,_,rfl,_,_,_,_,rfl,rfl,SqL.of hs6,rfl,qan (show 4<=100000 by decide),λt nt=>?_⟩
  exact k t _ n (.yields r.name x0) n (.term x0) ((s14.trans t6).trans (zm nt)) (by rw[zd,<- qc8];rfl) (qys (sp:=[x0,x1,x2,x3,x4]) dw.gt n2 hr n1 (dw.so x0 Am)) rfl
theorem qrc (T:Txt K mg a):FnOk P w K mg base CX0 5 a.nF a.mT ["_law_script", "_law_rules_here", "_law_rows_here", "_law_spare"] (spFa8 K):=by
 refine T.dE.fn.ok qeu (λvs H Q E h=>?_) (λcdv A outer s H vs Q E hr h=>?_)
 .obtain⟨_,_,_,_,_,_,_,rfl,_⟩:=h
  all_goals rfl
 .obtain⟨l,p,q,ps,ns,rs,sp,rfl,hS,hp,dw,hw,hsp,k⟩:=h
  refine⟨_,(qu (zj (i:=4) qeu.nd rfl (Az rfl) (zk qar (zp (qau T) (hr.mono Ex) rfl T.k8.mgx T.k8.fn.kp T.k8.bd .nil qas (qk (pv 0) (qk zb qz ze) qt)) zb))
   (qu (zj (i:=5) qeu.nd rfl (Az rfl) (zp (qau T) (hr.mono Ex) rfl T.k8.mgx T.k8.fn.kp T.k8.bd .nil qas (qk (pv 0) (qk zb qz ze) qt)))
   (qu (zo (PW.pt (qji (zi qaz (zq qaq (by rfl) T.kG qap (qk (pv 1) qz qt)) zb (qae _)) (qir (PW.pt (qdr (zi qaz (pv 4) zb (qae _)) (qdi (zi qob (zq qaq (by rfl) T.kG qap (qk (pv 1) qz qt)) zb (qae _)))))))) (qu (zj (i:=6) qeu.nd rfl (Az rfl) (zk qar (pv 5) (zk qa1 (zq qaq (by rfl) T.kG qap (qk (pv 2) qz qt)) zb)))
   (qu (zj (i:=7) qeu.nd rfl (Az rfl) (zk qab (zk qab (zk qab (zk qab zt (jb jd (pv 3) zb (λ_ _=>rfl))) zt) (jb jd (pv 3) zb (λ_ _=>rfl))) zt))
   (zc (zf (zw (qk (pv 6) (qk (pv 7) (qk zt (qk (jb jd (pv 3) zb (λ_ _=>rfl)) qz zz) ze) qt) qt)))))) qai)
   (zc (zf (zp (ql3 T) (hr.mono Ex) rfl T.bM.mgx T.bM.fn.kp T.bM.bd .nil qas (qk (pv 4) (qk (pv 5) (qk (pv 1) (qk (pv 2) (qk (pv 3) qz qt) qt) qt) qt) qt))))))),?_⟩
  have l36:=dw.l36
  have lwl:(qbe (qaa rs)).length=(qaa rs).length:=qbr _
  have hp':=hp
  obtain⟨qs,hqs,lq,hlr⟩:=hp'
  have dw':=dw
  obtain⟨x0,x1,x2,x3,x4,esp⟩:=qty dw.sl
  rw[esp]at dw' hsp
  refine⟨_,rfl,_,_,_,rfl,hS,Ex,_,_,rfl,rfl,(pos Ex),?_⟩
  dsimp only[]
  generalize cell ns 35 % 5=w0
  refine⟨_,rfl,_,_,_,rfl,hS,Ex,?_⟩
  dsimp only[]
  generalize cell ns 36=c
  apply qnf (p:=λJ=>J=H/\1<=rs.length)
  .intro fin
   apply qnf (p:=λJ=>J=H/\rs.length<5)
   intro fel
   refine⟨_,rfl,_,_,rfl,.inl ⟨_,SqL.of hqs,rfl⟩,rfl,_,rfl,qbw (λc1=>?_) (λc1=>?_)⟩
   exact qc1 (fel H ⟨rfl,by have:=V.int.inj (of_decide_eq_true c1);rw[Ab,lq]at this;lia⟩)
   have l1:1<=rs.length:=by
    by_cases z:rs.length=0
    .exact absurd (decide_eq_true (by rw[Ab,lq,z];rfl)) c1
    .lia
   refine⟨_,rfl,rfl,_,rfl,qbw (λc2=>?_) (λc2=>?_)⟩
   refine⟨_,rfl,_,_,rfl,.inl ⟨_,SqL.of hqs,rfl⟩,_,_,rfl,rfl,_,rfl,qbw (λc3=>?_) (λc3=>?_)⟩
   exact fel H ⟨rfl,by have:=of_decide_eq_true c3;rw[Ab,lq]at this;lia⟩
   exact fin H ⟨rfl,l1⟩
   exact qbv (fin H ⟨rfl,l1⟩)
   rintro J ⟨eJ,l5⟩
   rw[eJ]
   clear eJ
   obtain⟨n,en,hn⟩:∃n:Nat,c % ((((qbe (qaa rs)).length:Nat):Int)+1)=(n:Int)/\n<(qaa rs).length+1:=by rw[lwl];exact md _ ((qaa rs).length+1) (C2 _)
   have z0:x0.length<=8:=(dw'.so x0 Am).2.1
   have z1:x1.length<=8:=(dw'.so x1 (Ar _ Am)).2.1
   refine⟨_,rfl,_,rfl,_,_,rfl,.inl ⟨_,SqL.of hw,rfl⟩,_,_,rfl,rfl,_,_,rfl,rfl,pos (by lia),?_⟩
   dsimp only[]
   rw[en]
   refine⟨_,rfl,_,_,_,_,rfl,rfl,SqL.of hsp,rfl,_,_,rfl,rfl,fz,_,_,rfl,rfl,fz,_,rfl,_,_,_,_,rfl,rfl,SqL.of hsp,rfl,_,_,rfl,rfl,fz,_,_,rfl,rfl,fz,?_⟩
   refine⟨_,rfl,_,rfl,_,rfl,_,_,_,_,rfl,rfl,SqL.of hsp,rfl,qan (show 4<=100000 by decide),λt nt=>?_⟩
   refine k t _ n (.term x1 (wS "who") (wS "due") true x0 2 (wS "weeks")) n (.term x0) (zm nt) ?_ ?_ rfl
   .rw[zd,<- qsj x1 x0 2 (wS "weeks") (wS " 2 weeks") Ez];rfl
   .rw[esp]
    exact qwm (sp:=[x0,x1,x2,x3,x4]) dw.gt (by lia) ⟨dw'.so x1 (Ar _ Am),qip,qgw,dw'.so x0 Am,Ex,Ez⟩ l5
  rintro J ⟨eJ,l1⟩
  rw[eJ]
  clear eJ
  exact⟨_,rfl,_,rfl,_,rfl,_,rfl,_,rfl,w0,c,p,q,ps,rs,sp,rfl,hp,dw,l1,hw,(by rw[esp];exact hsp),λt H' n row s er s9=>k t H' n row s er s9⟩
theorem qpw (T:Txt K mg a):FnOk P w K mg base CX0 3 a.lK a.pG ["_law_script", "_law_rules_here", "_law_bad", "_law_spot", "_law_spare"] (spSe8 K):=by
 refine T.dC.fn.ok qcm (λvs H Q E h=>?_) (λcdv A outer s H vs Q E hr h=>?_)
 .obtain⟨_,_,_,_,_,_,_,_,_,rfl,_⟩:=h
  all_goals rfl
 .obtain⟨l,p,q,ps,ns,rs,sp,R1,s0,rfl,hS,hp,dw,hw,rok,l37,tin,hsp,k⟩:=h
  refine⟨_,(qu (zj (i:=5) qcm.nd rfl (Az rfl) (zp (qau T) (hr.mono Ex) rfl T.k8.mgx T.k8.fn.kp T.k8.bd .nil qas (qk (pv 0) (qk zb qz ze) qt)))
   (qu (zj (i:=6) qcm.nd rfl (Az rfl) (zk qab (zk qab (zk qab (zk qab zt (jb jd (pv 4) zb (λ_ _=>rfl))) zt) (jb jd (pv 4) zb (λ_ _=>rfl))) zt))
   (qu (zj (i:=7) qcm.nd rfl (Az rfl) (zk qar (zk qbc (pv 5) zb) (zk qa1 (zq qaq (by rfl) T.kG qap (qk (pv 2) qz qt)) zb)))
   (qu (zo (PW.pt (qji (zi qyy (zq qaq (by rfl) T.kG qap (qk (pv 1) qz qt)) zb (qae _)) (qir (PW.pt (qdr (zi (qo3 hr.units) (pv 1) (zu qz) (qae _)) (qdi (zi qaz (zk qar (pv 5) zb) zb (qae _)))))))) (qu (zj (i:=8) qcm.nd rfl (Az rfl) (zk qar (zk qbc (pv 5) zb) (zq qaq (by rfl) T.kG qap (qk (pv 1) qz qt))))
   (qu (zj (i:=9) qcm.nd rfl (Az rfl) (zk qa1 (qcs AL DC DD qiz (pv 2) (qk (jb jd (zp (qjh T) (hr.mono Ex) rfl T.kN.mgx T.kN.fn.kp T.kN.bd .nil qas (qk (jb jd (pv 1) (pv 8) (λ_ _=>rfl)) qz zz)) zb (λ_ _=>rfl)) qz zz)) zb))
   (qu (zj (i:=6) qcm.nd rfl (Az rfl) (zk qab (zk qab (zk qab zt (jb jd (jb jd (pv 1) (pv 8) (λ_ _=>rfl)) zb (λ_ _=>rfl))) zt) (jb jd (pv 4) zb (λ_ _=>rfl))))
   (zc (zj (i:=7) qcm.nd rfl (Az rfl) (zk qa1 (pv 9) (zk qar (zk qbc (pv 5) zb) (zk qf1 (zk qa1 (zq qaq (by rfl) T.kG qap (qk (pv 2) qz qt)) zb) (pv 9))))))))) qai)
   (zc (zf (zw (qk (zk qcb (zk qcb (qa3 qb2 (pv 2) qb8 (qa2 (pv 7))) (zu (qk (pv 6) qz qt))) (qa3 qb2 (pv 2) (qa2 (pv 7)) qb8)) (qk (qcz qjj (pv 7) (pv 3) (qae _)) qz qkp) zy)))))))),?_⟩
  have lwl:(qbe R1).length=R1.length:=qbr _
  have l6:=dw.gt.l6
  obtain⟨qs,hqs,lq,hlr⟩:=hp
  obtain⟨x0,x1,x2,x3,x4,esp⟩:=qty dw.sl
  rw[esp]at hsp
  have m3:x3∈sp:=by rw[esp];simp
  have m4:x4∈sp:=by rw[esp];simp
  have z3:x3.length<=8:=(dw.so x3 m3).2.1
  have z4:x4.length<=8:=(dw.so x4 m4).2.1
  refine⟨_,rfl,_,_,_,rfl,hS,Ex,?_⟩
  dsimp only[]
  generalize cell ns 38=c
  refine⟨_,rfl,_,_,_,_,rfl,rfl,SqL.of hsp,rfl,_,_,rfl,rfl,fz,_,_,rfl,rfl,fz,_,rfl,_,_,_,_,rfl,rfl,SqL.of hsp,rfl,_,_,rfl,rfl,fz,_,_,rfl,rfl,fz,?_⟩
  rw[show Aa "term " ++ x3++Aa " of who due due behind " ++ x4++Aa " 9 court" = qag (.term x3 (wS "who") (wS "due") true x4 9 (wS "court")) from qsj x3 x4 9 (wS "court") (wS " 9 court") Ez]
  obtain⟨n,en,hn⟩:∃n:Nat,c / 2 % ((((qbe R1).length:Nat):Int)+1)=(n:Int)/\n<R1.length+1:=by rw[lwl];exact md _ (R1.length+1) (C2 _)
  refine⟨_,rfl,_,_,rfl,rfl,⟨Ex,Ex⟩,_,rfl,_,_,rfl,.inl ⟨_,SqL.of hw,rfl⟩,_,_,rfl,rfl,_,_,rfl,rfl,pos (by lia),?_⟩
  dsimp only[]
  rw[en]
  show tSeq _ _ _ [some (.ref l),some (.ref p),some (.ref q),some (.int (s0:Int)),some (.ref ps),some (.int c),some (.str (qag (.term x3 (wS "who") (wS "due") true x4 9 (wS "court")))),some (.int (n:Int)),none,none] H
  apply useH4 (p:=P28 rs sp R1 H)
  intro fin
  apply qnf (p:=λJ=>Same H J/\1<=rs.length)
  intro go
  refine⟨_,rfl,_,_,rfl,.inl ⟨_,SqL.of hqs,rfl⟩,_,_,rfl,rfl,_,rfl,qbw (λc1=>?_) (λc1=>?_)⟩
  .exact qc1 (go H ⟨Same.refl H,by have:=of_decide_eq_true c1;rw[Ab,lq]at this;lia⟩)
  have l4:rs.length<=4:=by
   by_cases z:rs.length<=4
   .exact z
   .exact absurd (decide_eq_true (by rw[Ab,lq];lia)) c1
  refine⟨_,rfl,qef,λpz npz=>?_⟩
  generalize hh:upd H pz _=H3
  obtain⟨s3,e3⟩:=alg hh npz
  clear hh
  refine⟨_,_,_,rfl,rfl,SqL.of (s3 _ _ hqs),SqL.of e3,_,rfl,qbw (λc2=>?_) (λc2=>?_)⟩
  have l1:1<=rs.length:=by
   rw[<- lq]
   cases qs with
   |nil=>exact absurd c2 Ex
   |cons _ _=>exact C2 _
  refine⟨_,rfl,_,_,rfl,rfl,(pos Ex),rfl,_,rfl,qbw (λc3=>?_) (λc3=>?_)⟩
  .exact go H3 ⟨s3,l1⟩
  rotate_left 2
  rintro J ⟨sJ,l1⟩
  obtain⟨j,ej,hj⟩:∃j:Nat,c / 2 % (((qs.map V.ref).length:Nat):Int)=(j:Int)/\j<rs.length:=by rw[Ab,lq];exact md _ _ l1
  have hq:qs[j]?=some (qs[j]'(by lia)):=Ae (by lia)
  have hr:rs[j]?=some rs[j]:=Ae hj
  have rm:=Ai hr
  have aj:atI (qs.map V.ref) (j:Int)=some (.ref (qs[j]'(by lia))):=qbu (by rw[Al,hq];rfl)
  refine⟨_,rfl,_,_,rfl,rfl,⟨Ex,Ex⟩,_,rfl,_,_,rfl,.inl ⟨_,SqL.of (sJ _ _ hqs),rfl⟩,_,_,rfl,rfl,pos (by rw[Ab];lia),?_⟩
  dsimp only[]
  rw[ej]
  have h0:=hlr j _ _ hq hr
  have n8:rs[j].name.length<=8:=(dw.gt.ok _ rm).nm.2.1
  generalize rs[j]=r at hr h0 n8 rm
  obtain⟨f,f1,f2⟩:=qpr (B9 (f:=qag) (tin r rm))
  have f3:R1[f]?=some (qa6 r):=by
   rw[Al]at f1
   cases e:R1[f]? with
   |none=>rw[e]at f1;cases f1
   |some row =>
    rw[e]at f1
    rw[qps (rok row (Ai e)) (rok _ (tin r rm)) (AD f1)]
  have fl:=(Ac.mp f3).1
  obtain⟨tw,et,t1,t2⟩:=qsi (c / 12) fl
  refine⟨_,rfl,.inl ⟨rfl,_,SqL.of (sJ _ _ hw)⟩,_,rfl,_,rfl,_,_,_,_,rfl,rfl,SqL.of (sJ _ _ hqs),aj,_,r,rfl,h0.same sJ,dw.gt.ok _ rm,λq1 H1 n1 s1 e1=>?_⟩
  have sJ1:=sJ.trans s1
  rw[qby]at e1
  obtain⟨pe,pa,pl,py,sv,us,h1⟩:=h0.same sJ1
  refine⟨_,_,_,_,rfl,rfl,SqL.of e1,qbu (j:=0) rfl,q,R1.map qag,qag (qa6 r),f,rfl,rfl,sJ1 _ _ hw,f1,f2,_,_,rfl,rfl,?_⟩
  refine⟨_,rfl,_,rfl,_,_,_,_,rfl,rfl,SqL.of (sJ1 _ _ hqs),aj,_,_,_,_,rfl,rfl,SqL.of h1.hq,rfl,_,_,rfl,rfl,fz,_,_,rfl,rfl,fz,_,rfl,_,_,_,_,rfl,rfl,SqL.of (sJ1 _ _ hsp),rfl,_,_,rfl,rfl,fz,?_⟩
  rw[show Aa "yields " ++ r.name++Aa " " ++ x4=qag (.yields r.name x4) from qc8 _ _]
  refine⟨_,rfl,_,rfl,_,_,rfl,rfl,⟨Ex,Ex⟩,_,rfl,_,_,rfl,.inl ⟨_,SqL.of (sJ1 _ _ hw),rfl⟩,_,_,rfl,rfl,_,rfl,_,_,rfl,rfl,_,_,rfl,rfl,pos (by rw[lwl];lia),_,_,rfl,rfl,?_⟩
  dsimp only[]
  rw[lwl,show (R1.length:Int)+1-((f:Int)+1)=(R1.length:Int)-(f:Int) by lia,et]
  show tRet _ _ [some (.ref l),some (.ref p),some (.ref q),some (.int (s0:Int)),some (.ref ps),some (.int c),some (.str (qag (.yields r.name x4))),some (.int (tw:Int)),some (.int (j:Int)),some (.int ((f:Int)+1))] H1
  have pp:P28 rs sp R1 H H1 (some (.str (qag (.yields r.name x4)))) (some (.int (tw:Int))) (some (.int (j:Int))) (some (.int ((f:Int)+1))):=⟨sJ1,tw,.yields r.name x4,rfl,rfl,t2,.inl ⟨r,rm,by rw[esp];rfl,Ai (i:=f) (by rw[List.getElem?_take,if_pos t1,f3])⟩⟩
  generalize some (V.str (qag (.yields r.name x4)))=y6 at pp |-
  generalize some (V.int (tw:Int))=y7 at pp |-
  generalize some (V.int (j:Int))=y8 at pp |-
  generalize some (V.int ((f:Int)+1))=y9 at pp |-
  exact fin H1 y6 y7 y8 y9 pp
  rotate_left
  .exact fin H3 _ _ _ _ ⟨s3,n,.term x3 (wS "who") (wS "due") true x4 9 (wS "court"),rfl,rfl,Nat.le_of_lt_succ hn,.inr ⟨by rw[esp];rfl,l4⟩⟩
  .exact qbv (fin H3 _ _ _ _ ⟨s3,n,.term x3 (wS "who") (wS "due") true x4 9 (wS "court"),rfl,rfl,Nat.le_of_lt_succ hn,.inr ⟨by rw[esp];rfl,l4⟩⟩)
  rintro J y6 y7 y8 y9 ⟨sJ,two,row2,rfl,rfl,l2,sec⟩
  refine⟨_,rfl,_,rfl,_,rfl,_,_,rfl,SqL.of (sJ _ _ hw),λp5 n5=>?_⟩
  rw[qpf]
  generalize hh:upd J p5 _=J5
  obtain⟨s5,e5⟩:=alg hh n5
  clear hh
  refine⟨_,rfl,qan (show 1<=100000 by decide),λp6 n6=>?_⟩
  generalize hh:upd J5 p6 _=J6
  obtain⟨s6,e6⟩:=alg hh n6
  clear hh
  refine⟨_,_,_,_,rfl,rfl,s6 _ _ e5,e6,qan (by rw[Av,qbr];show _+1<=_;lia),λp7 n7=>?_⟩
  generalize hh:upd J6 p7 _=J7
  obtain⟨s7,e7⟩:=alg hh n7
  clear hh
  have s47:=s5.trans (s6.trans s7)
  refine⟨_,rfl,_,rfl,_,rfl,_,_,rfl,SqL.of (s47 _ _ (sJ _ _ hw)),λp8 n8=>?_⟩
  rw[qff _ two (by rw[qbr];lia)]
  generalize hh:upd J7 p8 _=J8
  obtain⟨s8,e8⟩:=alg hh n8
  clear hh
  refine⟨_,_,_,_,rfl,rfl,s8 _ _ e7,e8,qan (by rw[Ah,Av,Ba,qbr];show _+1+_<=_;lia),λp9 n9=>?_⟩
  generalize hh:upd J8 p9 _=J9
  obtain⟨s9,e9⟩:=alg hh n9
  clear hh
  refine⟨_,rfl,_,rfl,_,_,rfl,rfl,qan (show 2<=100000 by decide),λt nt=>?_⟩
  have st:=zm (o:=.tup [.ref p9,.bl (decide ((two:Int)<=(s0:Int)))]) nt
  refine k t p9 _ two row2 (sJ.trans (s47.trans (s8.trans (s9.trans st)))) zd ?_ l2 sec
  rw[st _ _ e9]
  unfold qbe
  simp only[Aq,BO,Cs,A4,AB,DT]
theorem qpx (T:Txt K mg a):FnOk P w K mg base CX0 2 a.fJ a.nW ["_law_script", "_law_rows_here", "_law_word", "_law_field", "_law_spare"] (spBe8 K):=by
 refine T.bK.fn.ok qe3 (λvs H Q E h=>?_) (λcdv A outer s H vs Q E hr h=>?_)
 .obtain⟨_,_,_,_,_,_,_,rfl,_⟩:=h
  all_goals rfl
 .obtain⟨l,q,ps,ns,sp,Rb,er,rfl,hS,sl,so,hw,hsp,bs,her,k⟩:=h
  refine⟨_,(qu (zj (i:=5) qe3.nd rfl (Az rfl) (zk qar (zp (qau T) (hr.mono Ex) rfl T.k8.mgx T.k8.fn.kp T.k8.bd .nil qas (qk (pv 0) (qk zb qz ze) qt)) zb))
   (qu (zj (i:=6) qe3.nd rfl (Az rfl) (zp (qau T) (hr.mono Ex) rfl T.k8.mgx T.k8.fn.kp T.k8.bd .nil qas (qk (pv 0) (qk zb qz ze) qt)))
   (qu (zo (zi qaz (pv 5) zb (qae _)) (qu (zj (i:=7) qe3.nd rfl (Az rfl) (zk qar (pv 6) (zk qa1 (zq qaq (by rfl) T.kG qap (qk (pv 1) qz qt)) zb)))
   (zc (zf (zw (qk (zk qcb (zk qcb (qa3 qb2 (pv 1) qb8 (qa2 (pv 7))) (zu (qk zt qz ze))) (qa3 qb2 (pv 1) (qa2 (pv 7)) qb8)) (qk zt (qk (pv 7) qz qt) ze) zy))))) qai)
   (qu (zo (zi qaz (pv 5) zb (qae _)) (zc (zf (zw (qk (zk qcb (pv 1) (zu (qk (zk qab (zk qab zt (jb jd (pv 4) zb (λ_ _=>rfl))) zt) qz zy))) (qk zt (qk (jb jd (pv 4) zb (λ_ _=>rfl)) qz zz) ze) zy)))) qai)
   (qu (zo (PW.pt (qdr (zi qaz (pv 5) zb (qae _)) (qdi (zi (qo3 hr.units) (pv 1) (zu qz) (qae _))))) (zc (zf (zw (qk (zk qcb (pv 1) (zu (qk (zk qab zt (qa3 qnp (jb jd (pv 1) zb (λ_ _=>rfl)) (qa2 zb) qb8)) qz zy))) (qk zt (qk (zq qaq (by rfl) T.kG qap (qk (pv 1) qz qt)) qz zx) ze) zy)))) qai)
   (qu (zo (zi qaz (pv 5) zb (qae _)) (zc (zf (zw (qk (zk qcb (pv 1) (zu (qk (zk qab (zk qab (zk qab zt (jb jd (pv 4) zb (λ_ _=>rfl))) zt) (jb jd (pv 4) zb (λ_ _=>rfl))) qz zy))) (qk zt (qk (jb jd (pv 4) zb (λ_ _=>rfl)) qz zz) ze) zy)))) qai)
   (zc (zf (zw (qk (pv 1) (qk (pv 2) (qk (pv 3) qz qt) qt) qt)))))))))),?_⟩
  have lwl:(qbe Rb).length=Rb.length:=qbr _
  have l39:=bs.l
  obtain⟨S,hS0,tl⟩:=bs.rd
  obtain⟨x0,x1,x2,x3,x4,esp⟩:=qty sl
  have z2:x2.length<=8:=(so x2 (by rw[esp];simp)).2.1
  have z0:x0.length<=8:=(so x0 (by rw[esp];simp)).2.1
  have o2:qbs x2:=so x2 (by rw[esp];simp)
  have o0:qbs x0:=so x0 (by rw[esp];simp)
  have n2:=bs.n2
  rw[esp]at hsp n2
  refine⟨_,rfl,_,_,_,rfl,hS,Ex,_,_,rfl,rfl,(pos Ex),?_⟩
  dsimp only[]
  generalize cell ns 34 % 8=w0 at n2
  refine⟨_,rfl,_,_,_,rfl,hS,Ex,?_⟩
  dsimp only[]
  generalize cell ns 37=c
  refine⟨_,rfl,rfl,_,rfl,qbw (λc1=>?_) (λc1=>?_)⟩
  .obtain⟨n,en,hn⟩:∃n:Nat,c % ((((qbe Rb).length:Nat):Int)+1)=(n:Int)/\n<Rb.length+1:=by rw[lwl];exact md _ (Rb.length+1) (C2 _)
   refine⟨_,rfl,_,rfl,_,_,rfl,.inl ⟨_,SqL.of hw,rfl⟩,_,_,rfl,rfl,_,_,rfl,rfl,pos (by lia),?_⟩
   dsimp only[]
   rw[en]
   refine⟨_,rfl,_,rfl,_,rfl,_,_,rfl,SqL.of hw,λp5 n5=>?_⟩
   rw[qpf]
   generalize hh:upd H p5 _=J5
   obtain⟨s5,e5⟩:=alg hh n5
   clear hh
   refine⟨qan (show 1<=100000 by decide),λp6 n6=>?_⟩
   generalize hh:upd J5 p6 _=J6
   obtain⟨s6,e6⟩:=alg hh n6
   clear hh
   refine⟨_,_,_,_,rfl,rfl,s6 _ _ e5,e6,qan (by rw[Av,qbr];show _+1<=_;lia),λp7 n7=>?_⟩
   generalize hh:upd J6 p7 _=J7
   obtain⟨s7,e7⟩:=alg hh n7
   clear hh
   have s47:=s5.trans (s6.trans s7)
   refine⟨_,rfl,_,rfl,_,rfl,_,_,rfl,SqL.of (s47 _ _ hw),λp8 n8=>?_⟩
   rw[qff _ n (by rw[qbr];lia)]
   generalize hh:upd J7 p8 _=J8
   obtain⟨s8,e8⟩:=alg hh n8
   clear hh
   refine⟨_,_,_,_,rfl,rfl,s8 _ _ e7,e8,qan (by rw[Ah,Av,Ba,qbr];show _+1+_<=_;lia),λp9 n9=>?_⟩
   generalize hh:upd J8 p9 _=J9
   obtain⟨s9,e9⟩:=alg hh n9
   clear hh
   refine⟨_,rfl,qan (show 3<=100000 by decide),λt nt=>?_⟩
   refine k t p9 _ ((Rb.take n).map qag++wS "rule" :: (Rb.drop n).map qag) (.rule n) (s47.trans (s8.trans (s9.trans (zm nt)))) zd ?_ (qy9 (by rw[AK];exact bs.ok) (by rw[AK];lia) ⟨Ez,Ez,Ez⟩) (qsg hS0 bs.ok (by lia) Ez _)
   rw[zm nt _ _ e9]
   unfold qbe
   simp only[Aq,BO,Cs,A4,AB,DT]
  refine⟨_,rfl,rfl,_,rfl,qbw (λc2=>?_) (λc2=>?_)⟩
  .have w1:¬w0=7:=by rw[V.int.inj (of_decide_eq_true c2)];decide
   refine⟨_,rfl,_,rfl,_,_,_,_,rfl,rfl,SqL.of hsp,rfl,_,_,rfl,rfl,fz,_,_,rfl,rfl,fz,qan (show 1<=100000 by decide),λp6 n6=>?_⟩
   generalize hh:upd H p6 _=J6
   obtain⟨s6,e6⟩:=alg hh n6
   clear hh
   refine⟨_,_,_,_,rfl,rfl,s6 _ _ hw,e6,qan (by rw[lwl];show _+1<=_;lia),λp7 n7=>?_⟩
   generalize hh:upd J6 p7 _=J7
   obtain⟨s7,e7⟩:=alg hh n7
   clear hh
   refine⟨_,rfl,_,_,_,_,rfl,rfl,SqL.of ((s6.trans s7) _ _ hsp),rfl,qan (show 3<=100000 by decide),λt nt=>?_⟩
   have ro:qbi (.ends x2 (wS "due")):=⟨o2,qgw⟩
   refine k t p7 _ ((Rb++[Rw7.ends x2 (wS "due")]).map qag) (.term x2) ((s6.trans s7).trans (zm nt)) zd ?_ (qfj (λr h=>(Au.mp h).elim (bs.ok r) λh=>by rw[Ak.mp h];exact ro) (by rw[Ah];show _+1<=_;lia)) (qne hS0 tl bs.ok l39 ro rfl (n2 w1))
   rw[zm nt _ _ e7,Aq,Aq]
   show some (HO.lst (_++[V.str (wS "ends " ++ x2++wS " due")]))=_
   rw[show wS " due" = wS " " ++ wS "due" by decide +kernel,<- qng,qm5]
   rfl
  apply qnf (p:=λJ=>Same H J)
  .intro fin
   refine⟨_,rfl,rfl,_,rfl,qbw (λc3=>?_) (λc3=>?_)⟩
   .refine⟨_,rfl,qef,λpz npz=>?_⟩
    generalize hh:upd H pz _=H3
    obtain⟨s3,e3⟩:=alg hh npz
    clear hh
    refine⟨_,_,_,rfl,rfl,SqL.of (s3 _ _ hw),SqL.of e3,_,rfl,qbw (λc4=>?_) (λc4=>?_)⟩
    .obtain⟨x,w,o,d,y,m,u,T,eR⟩:=bs.fst
     have ro:qbi (.term x w o d y m u):=bs.ok _ (by rw[eR];exact Am)
     have a0:atI (qbe Rb) 0=some (.str (qag (.term x w o d y m u))):=qbu (j:=0) (by rw[eR];rfl)
     obtain⟨y1,y2⟩:=yz ro
     have sz:(qag (.term x w o d y m u)).length<=90:=(qg8 ro).1
     have sz2:=A0 (Dv (qag (.term x w o d y m u)) (some 4) none) sz
     have hw3:=s3 _ _ hw
     refine⟨_,rfl,_,rfl,_,_,_,_,rfl,rfl,SqL.of hw3,a0,_,rfl,_,rfl,qan (A0 sz Ex),_,_,rfl,rfl,qan (hl0 Ez (A0 sz2 Ex)),?_⟩
     clear sz sz2
     generalize hx:Aa "yields" ++ Cc (qag (.term x w o d y m u)) (some 4) none=X
     rw[show wS "yields" ++ Cc (qag (.term x w o d y m u)) (some 4) none=X from hx]at y1 y2
     refine⟨qan (show 1<=100000 by decide),λp6 n6=>?_⟩
     generalize hh:upd H3 p6 _=J6
     obtain⟨s6,e6⟩:=alg hh n6
     clear hh
     refine⟨_,_,_,_,rfl,rfl,s6 _ _ hw3,e6,qan (by rw[lwl];show _+1<=_;lia),λp7 n7=>?_⟩
     generalize hh:upd J6 p7 _=J7
     obtain⟨s7,e7⟩:=alg hh n7
     clear hh
     refine⟨_,rfl,_,_,rfl,.inl ⟨_,SqL.of ((s6.trans s7) _ _ hw3),rfl⟩,qan (show 3<=100000 by decide),λt nt=>?_⟩
     have ra:=qsg hS0 bs.ok (A3 _) y1 []
     rw[B0]at ra
     refine k t p7 _ (Rb.map qag++[X]) (.rule Rb.length) (s3.trans ((s6.trans s7).trans (zm nt))) (by rw[zd,lwl];rfl) ?_ (qy9 (B:=[]) (by rw[AV];exact bs.ok) (by rw[AV];lia) y2) ra
     rw[zm nt _ _ e7,Aq];rfl
    .exact fin H3 s3
   .exact qbv (fin H (λ_ _ z=>z))
  intro J sJ
  have hwJ:=sJ _ _ hw
  have hspJ:=sJ _ _ hsp
  refine⟨_,rfl,rfl,_,rfl,qbw (λc5=>?_) (λc5=>?_)⟩
  .have w1:¬w0=7:=by rw[V.int.inj (of_decide_eq_true c5)];decide
   refine⟨_,rfl,_,rfl,_,_,_,_,rfl,rfl,SqL.of hspJ,rfl,_,_,rfl,rfl,fz,_,_,rfl,rfl,fz,_,rfl,_,_,_,_,rfl,rfl,SqL.of hspJ,rfl,_,_,rfl,rfl,fz,qan (show 1<=100000 by decide),λp6 n6=>?_⟩
   generalize hh:upd J p6 _=J6
   obtain⟨s6,e6⟩:=alg hh n6
   clear hh
   refine⟨_,_,_,_,rfl,rfl,s6 _ _ hwJ,e6,qan (by rw[lwl];show _+1<=_;lia),λp7 n7=>?_⟩
   generalize hh:upd J6 p7 _=J7
   obtain⟨s7,e7⟩:=alg hh n7
   clear hh
   refine⟨_,rfl,_,_,_,_,rfl,rfl,SqL.of ((s6.trans s7) _ _ hspJ),rfl,qan (show 3<=100000 by decide),λt nt=>?_⟩
   have ro:qbi (.yields x2 x0):=⟨o2,o0⟩
   refine k t p7 _ ((Rb++[Rw7.yields x2 x0]).map qag) (.term x2) (sJ.trans ((s6.trans s7).trans (zm nt))) zd ?_ (qfj (λr h=>(Au.mp h).elim (bs.ok r) λh=>by rw[Ak.mp h];exact ro) (by rw[Ah];show _+1<=_;lia)) (qne hS0 tl bs.ok l39 ro rfl (n2 w1))
   rw[zm nt _ _ e7,Aq,Aq]
   show some (HO.lst (_++[V.str (wS "yields " ++ x2++wS " " ++ x0)]))=_
   rw[qc8]
   rfl
  refine⟨_,rfl,_,rfl,_,rfl,qan (show 3<=100000 by decide),λt nt=>?_⟩
  exact k t q _ (Rb.map qag) er (sJ.trans (zm nt)) zd (by rw[zm nt _ _ hwJ];rfl) (qfj bs.ok (by lia)) her
theorem qrd (T:Txt K mg a):FnOk P w K mg base CX0 10 a.fL a.fU ["_law_rules_here", "_law_rows_here", "_law_spare"] spAl8:=by
 refine T.bI.fn.ok qk7 (λvs H Q E h=>?_) (λcdv A outer s H vs Q E hr h=>?_)
 .obtain⟨_,_,_,_,_,rfl,_⟩:=h
  all_goals rfl
 .obtain⟨p,q,ps,rs,sp,rfl,hp,dw,hw,hsp,k⟩:=h
  refine⟨_,(qu (zj (i:=3) qk7.nd rfl (Az rfl) (zk qab (zk qab (zk qab (zk qab zt (jb jd (pv 2) zb (λ_ _=>rfl))) zt) (jb jd (pv 2) zb (λ_ _=>rfl))) zt))
   (qu (zo (zi qaz (zq qaq (by rfl) T.kG qap (qk (pv 0) qz qt)) zb (qae _)) (zc (zf qfx)) qai)
   (zc (zf (zp (qt8 T) (hr.mono Ex) rfl T.bB.mgx T.bB.fn.kp T.bB.bd .nil qas (qk (qcs BS Dk Dl qj7 zt (qk (zk qcb (pv 1) (zu (qk (pv 3) qz qt))) qz zy)) (qk (jb jd (pv 2) zb (λ_ _=>rfl)) qz zz) zx)))))),?_⟩
  have l36:=dw.l36
  have l6:=dw.gt.l6
  have lwl:(qbe (qaa rs)).length=(qaa rs).length:=qbr _
  obtain⟨qs,hqs,lq,hlr⟩:=hp
  obtain⟨x0,x1,x2,x3,x4,esp⟩:=qty dw.sl
  rw[esp]at hsp
  have m2:x2∈sp:=by rw[esp];simp
  have o2:=dw.so x2 m2
  have z2:x2.length<=8:=o2.2.1
  refine⟨_,rfl,_,_,_,_,rfl,rfl,SqL.of hsp,rfl,_,_,rfl,rfl,fz,_,_,rfl,rfl,fz,_,rfl,_,_,_,_,rfl,rfl,SqL.of hsp,rfl,_,_,rfl,rfl,fz,_,_,rfl,rfl,fz,?_⟩
  rw[show Aa "term " ++ x2++Aa " of who due due behind " ++ x2++Aa " 1 days" = qag (.term x2 (wS "who") (wS "due") true x2 1 (wS "days")) from qsj x2 x2 1 (wS "days") (wS " 1 days") Ez]
  have ro:qbi (.term x2 (wS "who") (wS "due") true x2 1 (wS "days")):=⟨o2,qip,qgw,o2,Ex,Ez⟩
  refine⟨_,rfl,_,_,rfl,.inl ⟨_,SqL.of hqs,rfl⟩,rfl,_,rfl,qbw (λc1=>?_) (λc1=>?_)⟩
  .exact k H (Same.refl H)
  have l5:rs.length<=5:=by
   by_cases z:rs.length=6
   .exact absurd (decide_eq_true (by rw[Ab,lq,z];rfl)) c1
   .lia
  obtain⟨rk,hrk⟩:=dw.rk
  obtain⟨S,e1,e2,e3,e4⟩:=qtx dw.gt hrk (dw.sd x2 m2) l5 (by lia) ro
  have lb:=qfj (rows:=qaa rs++[Rw7.term x2 (wS "who") (wS "due") true x2 1 (wS "days")]) (λr h=>(Au.mp h).elim (qgt dw.gt.ok r) λh=>by rw[Ak.mp h];exact ro) (by rw[Ah];show _+1<=_;lia)
  have jo:=qlq lb
  have ls:S.length=rs.length+1:=by have:=congrArg Cv e2;simpa using this
  refine⟨rfl,_,rfl,_,rfl,qan (show 1<=100000 by decide),λp6 n6=>?_⟩
  generalize hh:upd H p6 _=H6
  obtain⟨s6,e6⟩:=alg hh n6
  clear hh
  refine⟨_,_,_,_,rfl,rfl,s6 _ _ hw,e6,qan (by rw[lwl];show _+1<=_;lia),λp7 n7=>?_⟩
  generalize hh:upd H6 p7 _=H7
  obtain⟨s7,e7⟩:=alg hh n7
  clear hh
  have e7:H7 p7=some (.lst (((qaa rs++[Rw7.term x2 (wS "who") (wS "due") true x2 1 (wS "days")]).map qag).map V.str)):=by rw[e7,Aq,Aq];rfl
  refine⟨_,p7,_,rfl,rfl,SqL.of e7,jo.1,?_⟩
  rw[jo.2]
  refine⟨_,rfl,_,_,_,_,rfl,rfl,SqL.of ((s6.trans s7) _ _ hsp),rfl,_,S,rs.length,x2,rk,rfl,lb,e1,by lia,e3,e4,?_,λH' s9=>k H' ((s6.trans s7).trans s9)⟩
  rw[e2]
  unfold nm
  rw[AC,A9 (by rw[Ab];lia),Ab,Ca];rfl
theorem qj3 (T:Txt K mg a):FnOk P w K mg base CX0 1 a.dW a.lG ["self"] (spTn a):=by
 refine T.lD.fn.ok qj1 (λvs H Q E h=>?_) (λcdv A outer s H vs Q E hr h=>?_)
 .obtain⟨_,_,_,_,rfl,_⟩:=h
  all_goals rfl
 .obtain⟨x,rs,As,os,rfl,hb,ln,l6,k⟩:=h
  refine⟨_,(zc (zf (qcf (qqg rfl) (by rfl) T.gH qei (qk (qbd (pv 0) rfl) qz qcv)))),?_⟩
  obtain⟨dx,po,pd,h1,h2,h3⟩:=hb
  have e:(dcR rs As).map (λkv=>L2.kV kv.1)=(rs.map RR.name).map V.str:=by
   rw[show (λkv:Key×V=>L2.kV kv.1)=L2.kV ∘ Prod.fst from rfl,<- Bm,qpb ln,Bm,Bm];rfl
  refine⟨_,rfl,_,_,_,_,_,rfl,h1,T.gT,zg T.bH Ex,rfl,_,_,rfl,h3,λl hl=>?_⟩
  exact k l _ hl (zm hl) (by rw[zd];exact congrArg (λz=>some (HO.lst z)) e)
theorem okLaw (T:Txt K mg a):FnOk P w K mg base CX0 11 a.lW a.hG ["_law_script"] (qr1 K):=by
 refine T.sP.fn.ok qdg (λvs H Q E h=>?_) (λcdv A outer s H vs Q E hr h=>?_)
 .obtain⟨_,_,rfl,_⟩:=h
  all_goals rfl
 .obtain⟨l,ns,rfl,hS,hlen,k⟩:=h
  refine⟨_,(qu (qit (zp (qq9 T) (hr.mono Ex) rfl T.bY.mgx T.bY.fn.kp T.bY.bd .nil qas (qk (pv 0) qz qt)) (qf0 rfl (qa8 (qam (i:=1) qdg.nd rfl (Az rfl)) (qa8 (qam (i:=2) qdg.nd rfl (Az rfl)) (qa8 (qam (i:=3) qdg.nd rfl (Az rfl)) qe2)))))
   (qu (zj (i:=4) qdg.nd rfl (Az rfl) (zu qz))
   (qu (qcn B1 rfl (qb7 (pv 1)) (qam (i:=5) qdg.nd rfl (Az rfl)) (zc (zj (i:=4) qdg.nd rfl (Az rfl) (zk qcb (pv 4) (zp (qjh T) (hr.mono Ex) rfl T.kN.mgx T.kN.fn.kp T.kN.bd .nil qas (qk (pv 5) qz qt))))))
   (qu (qit (zp (qrc T) (hr.mono Ex) rfl T.dE.mgx T.dE.fn.kp T.dE.bd .nil qas (qk (pv 0) (qk (pv 1) (qk (pv 4) (qk (pv 2) qz qt) qt) qt) qt)) (qf0 rfl (qa8 (qam (i:=6) qdg.nd rfl (Az rfl)) (qa8 (qam (i:=7) qdg.nd rfl (Az rfl)) (qa8 (qam (i:=8) qdg.nd rfl (Az rfl)) (qa8 (qam (i:=9) qdg.nd rfl (Az rfl)) qe2))))))
   (qu (zj (i:=10) qdg.nd rfl (Az rfl) (zk qcb (zk qcb (qa3 qb2 (pv 4) qb8 (qa2 (pv 6))) (zu (qk (pv 7) qz qt))) (qa3 qb2 (pv 4) (qa2 (pv 6)) qb8)))
   (qu (zo (PW.pt (qdr (zi qyy (zk qar (zp (qau T) (hr.mono Ex) rfl T.k8.mgx T.k8.fn.kp T.k8.bd .nil qas (qk (pv 0) (qk zb qz ze) qt)) zb) zb (qae _)) (qdi (zi qob (zk qar (zp (qau T) (hr.mono Ex) rfl T.k8.mgx T.k8.fn.kp T.k8.bd .nil qas (qk (pv 0) (qk zb qz ze) qt)) zb) zb (qae _))))) (qu (zj (i:=11) qdg.nd rfl (Az rfl) (jb jd (zu (qk (pv 6) (qk (pv 9) qz qt) qt)) (qcf qmf (by rfl) T.gR qgl (qk (qcz qaz (pv 8) zt (qae _)) qz qkp)) (λ_ _=>rfl)))
   (qu (qit (zp (qpw T) (hr.mono Ex) rfl T.dC.mgx T.dC.fn.kp T.dC.bd .nil qas (qk (pv 0) (qk (pv 1) (qk (pv 10) (qk (pv 11) (qk (pv 2) qz qt) qt) qt) qt) qt)) (qf0 rfl (qa8 (qam (i:=10) qdg.nd rfl (Az rfl)) (qa8 (qam (i:=12) qdg.nd rfl (Az rfl)) qe2))))
   (zc (zo (zr (pv 12)) (qu (zj (i:=8) qdg.nd rfl (Az rfl) zt)
   (zc (zj (i:=9) qdg.nd rfl (Az rfl) (jb jd (pv 2) zb (λ_ _=>rfl))))) qai)))) qai)
   (qu (zo (PW.pt (qdr (zi qob (zq qaq (by rfl) T.kG qap (qk (pv 1) qz qt)) zb (qae _)) (qdi (zi qaz (zk qar (zp (qau T) (hr.mono Ex) rfl T.k8.mgx T.k8.fn.kp T.k8.bd .nil qas (qk (pv 0) (qk zb qz ze) qt)) zb) zb (qae _))))) (zc (zj (i:=10) qdg.nd rfl (Az rfl) (zk qcb (pv 10) (zu (qk (zk qab (zk qab (zk qab (zk qab zt (jb jd (pv 2) zb (λ_ _=>rfl))) zt) (jb jd (pv 2) zb (λ_ _=>rfl))) zt) qz zy))))) qai)
   (qu (qit (zp (qpx T) (hr.mono Ex) rfl T.bK.mgx T.bK.fn.kp T.bK.bd .nil qas (qk (pv 0) (qk (pv 10) (qk (pv 8) (qk (pv 9) (qk (pv 2) qz qt) qt) qt) qt) qt)) (qf0 rfl (qa8 (qam (i:=13) qdg.nd rfl (Az rfl)) (qa8 (qam (i:=8) qdg.nd rfl (Az rfl)) (qa8 (qam (i:=9) qdg.nd rfl (Az rfl)) qe2)))))
   (qu (zo (qis (zr (zp (ql2 T) (hr.mono Ex) rfl T.kR.mgx T.kR.fn.kp T.kR.bd .nil qas (qk (qcs BS Dk Dl qj7 zt (qk (pv 13) qz qt)) (qk (pv 8) (qk (pv 9) qz qt) qt) zx)))) (zc (zf qfx)) qai)
   (qu (zo (zi (qns hr.units0) (qoe (zp (ql0 T) (hr.mono Ex) rfl T.kY.mgx T.kY.fn.kp T.kY.bd .nil passF (qk (qcs BS Dk Dl qj7 zt (qk (pv 4) qz qt)) qz zx)) T.gT T.tI (qj3 T) (hr.mono Ex) T.lD.bd .nil qas) (qhz (N:=["_law_rule_here"]) (js:=[none]) (XN:=["_law_script", "_law_rules_here", "_law_spare", "_law_kinds", "_law_rows_here", "_law_rule_here", "_law_at", "_law_row", "_law_word", "_law_field", "_law_bad", "_law_spot", "_law_sooner", "_law_more"]) (xs:=qac qqj) rfl rfl rfl Ez (qb7 (pv 1)) (λ_ _ _ _ _ _=>(qam (i:=0) (show Ck (["_law_rule_here"]:List Str) from by decide +kernel) rfl (Az rfl) (Dj rfl))) (λ_ _ _ _ _ _=>qds) (λ_ _ _ _ _ _=>(jb (qkt (K:=K) rfl) (pv 0) zb (λ_ _=>rfl)))) (qae _)) (zc (zf qfx)) qai)
   (zc (zf (qdk (zp (qrd T) (hr.mono Ex) rfl T.bI.mgx T.bI.fn.kp T.bI.bd .nil qas (qk (pv 1) (qk (pv 4) (qk (pv 2) qz qt) qt) qt)) (qd7 (zp (ql2 T) (hr.mono Ex) rfl T.kR.mgx T.kR.fn.kp T.kR.bd .nil qas (qk (qcs BS Dk Dl qj7 zt (qk (pv 13) qz qt)) (qk (pv 8) (qk (pv 9) qz qt) qt) zx)))))))))))))))),?_⟩
  refine⟨_,rfl,l,ns,rfl,hS,λt p pr pk H1 qs rs sp s1 hp lq hlr ht hpr dw=>?_⟩
  have l36:=dw.l36
  have l6:=dw.gt.l6
  have aok:=qgt dw.gt.ok
  refine⟨_,_,rfl,SqT.of ht,rfl,_,_,rfl,_,_,rfl,_,_,rfl,rfl,?_⟩
  refine⟨qef,λq0 n0=>?_⟩
  obtain⟨s2,e0⟩:=alc (o:=.lst []) n0
  generalize upd H1 q0 _=H2 at s2 e0 |-
  refine⟨_,rfl,_,rfl,⟨_,SqL.of (s2 _ _ hp)⟩,qc2 (K:=K) (a:=p) (xs:=qs.map V.ref) (λi σ J=>Same H1 J/\∃qw,J qw=some (.lst (qbe (qaa (rs.take i))))/\∃v5:Option V,σ=[some (.ref l),some (.ref p),some (.ref pr),some (.ref pk),some (.ref qw),v5,none,none,none,none,none,none,none,none]) ⟨s2,q0,e0,none,rfl⟩ (λi σ J _ h=>SqL.of (h.1 _ _ hp)) ?_ ?_⟩
  .rintro i v σ J hv ⟨sJ,qw,hw,v5,rfl⟩
   rw[Al]at hv
   cases eq:qs[i]? with
   |none=>rw[eq]at hv;cases hv
   |some qi =>
   rw[eq]at hv
   cases hv
   have hi:i<rs.length:=by rw[<- lq];exact(Ac.mp eq).1
   have hr:rs[i]?=some rs[i]:=Ae hi
   have hnx:=qsh hr
   have hll:hd rs (i+1)<=(qaa rs).length:=by
    have:=hd_le (rs:=rs) (show i+1<=rs.length by lia)
    unfold hd at this
    rw[B0]at this
    exact this
   unfold hd at hnx hll
   refine⟨_,rfl,_,rfl,qi,rs[i],rfl,(hlr i qi _ eq hr).same sJ,dw.gt.ok _ (Bq hi),λpz J3 nz s3 ez=>⟨_,_,_,_,rfl,rfl,s3 _ _ hw,ez,qan (by rw[qbr,qbr];lia),λq2 n2=>?_⟩⟩
   refine⟨sJ.trans (s3.trans (zm n2)),q2,?_,_,rfl⟩
   rw[zd,qbb hr]
   unfold qaa qbe
   rw[Bw,Aq,Aq]
   simp[Bk]
  rintro σ H3 ⟨s3,qw,hw,v5,rfl⟩
  rw[Ab,lq,B0]at hw
  have s13:=s1.trans s3
  have l6:=dw.gt.l6
  obtain⟨x0,x1,x2,x3,x4,esp⟩:=qty dw.sl
  have rsa:RsAt H3 p rs:=⟨qs,s3 _ _ hp,lq,λi q r a b=>(hlr i q r a b).same s3⟩
  refine⟨_,rfl,_,rfl,_,rfl,_,rfl,l,p,qw,pr,ns,rs,sp,rfl,s13.seq hS,rsa,dw,hw,s3 _ _ hpr,λt2 H4 n row s er s4 ht2 F es=>?_⟩
  refine⟨_,_,rfl,SqT.of ht2,rfl,_,_,rfl,_,_,rfl,_,_,rfl,_,_,rfl,rfl,?_⟩
  have hw4:=s4 _ _ hw
  have hn:=F.hn
  refine⟨_,rfl,_,rfl,_,rfl,_,_,rfl,SqL.of hw4,λp5 n5=>?_⟩
  rw[qpf]
  generalize hh:upd H4 p5 _=J5
  obtain⟨s5,e5⟩:=alg hh n5
  clear hh
  refine⟨_,rfl,qan (show 1<=100000 by decide),λp6 n6=>?_⟩
  generalize hh:upd J5 p6 _=J6
  obtain⟨s6,e6⟩:=alg hh n6
  clear hh
  refine⟨_,_,_,_,rfl,rfl,s6 _ _ e5,e6,qan (by rw[Av,qbr];show _+1<=_;lia),λp7 n7=>?_⟩
  generalize hh:upd J6 p7 _=J7
  obtain⟨s7,e7⟩:=alg hh n7
  clear hh
  have s47:=s5.trans (s6.trans s7)
  refine⟨_,rfl,_,rfl,_,rfl,_,_,rfl,SqL.of (s47 _ _ hw4),λp8 n8=>?_⟩
  rw[qff _ n (by rw[qbr];lia)]
  generalize hh:upd J7 p8 _=J8
  obtain⟨s8,e8⟩:=alg hh n8
  clear hh
  refine⟨_,_,_,_,rfl,rfl,s8 _ _ e7,e8,qan (by rw[Ah,Av,Ba,qbr];show _+1+_<=_;lia),λp9 n9=>?_⟩
  generalize hh:upd J8 p9 _=H9
  obtain⟨s9,e9⟩:=alg hh n9
  clear hh
  obtain⟨R1,eR⟩:∃R1,R1=(qaa rs).take n++row::(qaa rs).drop n:=⟨_,rfl⟩
  have e9:H9 p9=some (.lst (qbe R1)):=by
   rw[e9,eR]
   unfold qbe
   simp only[Aq,BO,Cs,A4,AB,DT]
  have l1:R1.length<=37:=by rw[eR,Ah,At,Av,Ba];lia
  have rok1:∀r∈R1,qbi r:=λr hr=>by
   rw[eR]at hr
   rcases Au.mp hr with z|z
   .exact aok r (CI z)
   rcases An.mp z with z|z
   .rw[z];exact F.ok
   .exact aok r (Dr z)
  have tin:∀r∈rs,qa6 r∈R1:=λr hr=>by
   have z:qa6 r∈qaa rs:=Bs.mpr ⟨r,hr,by rw[qby];exact Am⟩
   rw[<- AK n (qaa rs)]at z
   rw[eR]
   rcases Au.mp z with z|z
   .exact AO _ z
   .exact Ay _ (Ar _ z)
  have s49:=s47.trans (s8.trans s9)
  have s39:=s4.trans s49
  have hp9:=s39 _ _ (s3 _ _ hp)
  have hpr9:=s39 _ _ (s3 _ _ hpr)
  have hS9:=(s13.trans s39).seq hS
  clear e5 e6 e7 e8 n5 n6 n7 n8 n9 s5 s6 s7 s8 s9 s47 e0 s2
  show tSeq _ _ _ [some (.ref l),some (.ref p),some (.ref pr),some (.ref pk),some (.ref qw),v5,some (.int (n:Int)),some (.str (qag row)),some (.str (erW er)),some (erF er).2,some (.ref p9),none,none,none] H9
  apply useH5 (p:=P18 rs sp ns H9)
  .intro fin
   refine⟨_,rfl,_,_,_,rfl,hS9,Ex,_,_,rfl,rfl,(pos Ex),_,_,rfl,rfl,_,rfl,qbw (λc1=>?_) (λc1=>?_)⟩
   .refine⟨_,rfl,_,_,_,rfl,hS9,Ex,_,_,rfl,rfl,(pos Ex),_,_,rfl,rfl,_,rfl,qbw (λc2=>?_) (λc2=>?_)⟩
    .refine⟨_,rfl,_,rfl,qan (show 2<=100000 by decide),λpl nl=>?_⟩
     generalize hh:upd H9 pl _=H10
     obtain⟨s10,e10⟩:=alg hh nl
     clear hh
     have sx:atI [V.int (n:Int),(erF er).2] (if decide (V.str (erW er)=V.str (Aa "unfit"))=true then 1 else 0)=some (V.int (s:Int)):=by
      have sa:=qyv es
      by_cases c:erW er=wS "unfit"
      .rw[if_pos c]at sa
       rw[if_pos (decide_eq_true (congrArg V.str c)),sa];exact qbu (j:=1) rfl
      .rw[if_neg c]at sa
       rw[if_neg (λz=>c (V.str.inj (of_decide_eq_true z))),<- sa];exact qbu (j:=0) rfl
     refine⟨_,rfl,rfl,.inr ⟨_,rfl,?_⟩⟩
     refine⟨_,_,_,_,rfl,rfl,SqL.of e10,sx,?_⟩
     have s310:=s39.trans s10
     refine⟨_,rfl,_,rfl,_,rfl,_,rfl,_,rfl,l,p,p9,pr,ns,rs,sp,R1,s,rfl,s10.seq hS9,rsa.same s310,dw,s10 _ _ e9,rok1,l1,tin,s10 _ _ hpr9,λt4 qb H11 two row2 s11 ht4 hqb l2 sec=>?_⟩
     refine⟨_,_,rfl,SqT.of ht4,rfl,_,_,rfl,_,_,rfl,rfl,?_⟩
     obtain⟨L,T,eL,f⟩:=qtz dw F eR l2 sec
     have hpr11:=s11 _ _ (s10 _ _ hpr9)
     have n7:¬cell ns 34 % 8=7:=by
      have:=of_decide_eq_true c2
      lia
     have lL:L.length<=38:=by
      have:=congrArg Cv eL
      rw[Ab,Ah,At,Av,Ba]at this
      lia
     have neL:L≠[]:=λz=>by rw[z]at eL;exact absurd eL.symm (by simp)
     rw[<- eL]at hqb
     refine⟨_,rfl,_,rfl,qbw (λc3=>?_) (λc3=>?_)⟩
     .rw[esp]at hpr11
      refine⟨_,rfl,_,_,_,_,rfl,rfl,SqL.of hpr11,rfl,?_⟩
      have c3:two<=s:=by have:=of_decide_eq_true c3;lia
      rw[if_pos c3]at f
      show qua _ [some (.ref l),some (.ref p),some (.ref pr),some (.ref pk),some (.ref qw),v5,some (.int (n:Int)),some (.str (qag row)),some (.str (wS "term")),some (.str x4),some (.ref qb),some (.int (s:Int)),some (.bl (decide ((two:Int)<=(s:Int)))),none] H11
      have pp:P18 rs sp ns H9 H11 (some (.str (wS "term"))) (some (.str x4)) (some (.ref qb)) (some (.int (s:Int))) (some (.bl (decide ((two:Int)<=(s:Int))))):=⟨s10.trans s11,qb,L,T,_,rfl,(by rw[esp];rfl),rfl,hqb,f,lL,neL,λz=>absurd z n7⟩
      generalize some (V.bl (decide ((two:Int)<=(s:Int))))=y12 at pp |-
      generalize some (V.int (s:Int))=y11 at pp |-
      generalize some (V.ref qb)=y10 at pp |-
      generalize some (V.str x4)=y9 at pp |-
      generalize some (V.str (wS "term"))=y8 at pp |-
      exact fin H11 y8 y9 y10 y11 y12 pp
     .have c3:¬two<=s:=λz=>c3 (decide_eq_true (by lia))
      rw[if_neg c3]at f
      exact fin H11 _ _ _ _ _ ⟨s10.trans s11,qb,L,T,er,rfl,rfl,rfl,hqb,f,lL,neL,λz=>absurd z n7⟩
    .obtain⟨L,T,eL,t1,_,f⟩:=qlw dw F
     rw[<- eR]at eL
     exact fin H9 _ _ _ _ _ ⟨Same.refl H9,p9,L,T,er,rfl,rfl,rfl,by rw[eL];exact e9,f,by have:=congrArg Cv eL;rw[Ab]at this;lia,λz=>by rw[z,eR]at eL;exact absurd eL.symm (by simp),λ_=>t1⟩
   .obtain⟨L,T,eL,t1,_,f⟩:=qlw dw F
    rw[<- eR]at eL
    exact qbv (fin H9 _ _ _ _ _ ⟨Same.refl H9,p9,L,T,er,rfl,rfl,rfl,by rw[eL];exact e9,f,by have:=congrArg Cv eL;rw[Ab]at this;lia,λz=>by rw[z,eR]at eL;exact absurd eL.symm (by simp),λ_=>t1⟩)
  clear F es eR e9 rok1 tin l1 hn
  rintro J y8 y9 y10 y11 y12 ⟨sJ,qb,L,T,er2,rfl,rfl,rfl,hqb,f,lL,neL,t1⟩
  have hpJ:=sJ _ _ hp9
  have hprJ:=sJ _ _ hpr9
  have hSJ:=sJ.seq hS9
  have n0:=f.sn.no dw (i:=0) Ex Ex Ex
  have n2:=f.sn.no dw (i:=2) Ex Ex Ex
  have n4:=f.sn.no dw (i:=4) Ex Ex Ex
  have g2:sp.getD 2 AS=x2:=by rw[esp];rfl
  have o2:=dw.so x2 (by rw[esp];simp)
  have z2:x2.length<=8:=o2.2.1
  have lL2:(qbe (L.map (·.1))).length=L.length:=by rw[qbr,Ab]
  have rd0:qcc ((L.map (·.1)).map qag)=.error er2:=by
   have:=f.rd [] T (by rw[AV];exact f.b) (by rw[AV];lia) f.six n0 n4
   rwa [AV]at this
  have hspJ:=hprJ
  rw[esp]at hspJ
  apply useH1 (p:=P19 sp ns er2 J)
  .intro fin
   have els:P19 sp ns er2 J J (some (.ref qb)):=⟨Same.refl J,qb,_,rfl,hqb,qza dw f.b (by lia) neL f.six (λ_=>n2),rd0⟩
   refine⟨_,rfl,_,_,rfl,.inl ⟨_,SqL.of hpJ,rfl⟩,_,_,rfl,rfl,_,rfl,qbw (λc1=>?_) (λc1=>?_)⟩
   .refine⟨_,rfl,_,_,_,rfl,hSJ,Ex,_,_,rfl,rfl,(pos Ex),rfl,_,rfl,qbw (λc2=>?_) (λc2=>?_)⟩
    .have w7:cell ns 34 % 8=7:=V.int.inj (of_decide_eq_true c2)
     have l5:rs.length<5:=by have:=of_decide_eq_true c1;rw[Ab,lq]at this;lia
     refine⟨_,rfl,_,rfl,_,_,_,_,rfl,rfl,SqL.of hspJ,rfl,_,_,rfl,rfl,fz,_,_,rfl,rfl,fz,_,rfl,_,_,_,_,rfl,rfl,SqL.of hspJ,rfl,_,_,rfl,rfl,fz,_,_,rfl,rfl,fz,?_⟩
     rw[show Aa "term " ++ x2++Aa " of who due due behind " ++ x2++Aa " 1 days" = qag (.term x2 (wS "who") (wS "due") true x2 1 (wS "days")) from qsj x2 x2 1 (wS "days") (wS " 1 days") Ez]
     have ro:qbi (.term (sp.getD 2 AS) (wS "who") (wS "due") true (sp.getD 2 AS) 1 (wS "days")):=by rw[g2];exact⟨o2,qip,qgw,o2,Ex,Ez⟩
     obtain⟨b,rd⟩:=qyu dw f (by lia) (t1 w7) l5 ro
     rw[g2]at b rd
     have t1':=t1 w7
     refine⟨qan (show 1<=100000 by decide),λp6 n6=>?_⟩
     generalize hh:upd J p6 _=J6
     obtain⟨s6,e6⟩:=alg hh n6
     clear hh
     refine⟨_,_,_,_,rfl,rfl,s6 _ _ hqb,e6,qan (by rw[lL2];show _+1<=_;lia),λp7 n7=>?_⟩
     generalize hh:upd J6 p7 _=J7
     obtain⟨s7,e7⟩:=alg hh n7
     clear hh
     have pp:P19 sp ns er2 J J7 (some (.ref p7)):=⟨s6.trans s7,p7,_,rfl,(by rw[e7,Aq];unfold qbe;rw[Aq,Aq];rfl),qza dw b (by rw[Ah];show _+1<=39;lia) (by simp) (by show _+(_+1)<=6;lia) (λz=>absurd w7 z),rd⟩
     show qua _ [some (.ref l),some (.ref p),some (.ref pr),some (.ref pk),some (.ref qw),v5,some (.int (n:Int)),some (.str (qag row)),some (.str (erW er2)),some (erF er2).2,some (.ref p7),y11,y12,none] J7
     generalize some (V.ref p7)=y10 at pp |-
     exact fin J7 y10 pp
    .exact fin J _ els
   .exact qbv (fin J _ els)
  rintro J2 y10 ⟨sJ2,qc,Rb,rfl,hqc,bs,her⟩
  clear f t1 n0 n2 n4 rd0 lL lL2 neL
  refine⟨_,rfl,_,rfl,_,rfl,_,rfl,_,rfl,l,qc,pr,ns,sp,Rb,er2,rfl,sJ2.seq hSJ,dw.sl,dw.so,hqc,sJ2 _ _ hprJ,bs,her,λt3 qm H5 LL er3 s5 ht3 hqm lng rd3=>?_⟩
  refine⟨_,_,rfl,SqT.of ht3,rfl,_,_,rfl,_,_,rfl,_,_,rfl,rfl,?_⟩
  have jo:=qlq lng
  have lg:=qfj aok (by lia)
  have jg:=qlq lg
  have s3J:=s39.trans (sJ.trans (sJ2.trans s5))
  refine⟨rfl,_,rfl,_,qm,LL,rfl,rfl,SqL.of hqm,jo.1,?_⟩
  rw[jo.2]
  refine⟨_,rfl,_,rfl,LL,er3,rfl,lng,rd3,λHA sA=>⟨_,rfl,qbv ?_⟩⟩
  refine⟨rfl,_,rfl,_,qw,(qaa rs).map qag,rfl,rfl,SqL.of ((s3J.trans sA) _ _ hw),jg.1,?_⟩
  rw[jg.2]
  have s5A:=sA
  refine⟨_,rfl,lg,λrs' ok=>?_,(λer h=>(by rw[qm9 dw.gt]at h;cases h))⟩
  rw[qm9 dw.gt]at ok
  cases ok
  refine⟨λxb HB As os sB bk=>?_,λx5 d5 l5 H5' r5 _ _ _ _ rg=>?_⟩
  .have bk':=bk.bk
   obtain⟨dx,po,pd,hx1,hx2,hx3⟩:=bk'
   refine⟨_,_,_,rfl,hx1,rfl,xb,rs,As,os,rfl,bk.bk,bk.ln,bk.l6,λqn HC nn sC eC=>?_⟩
   have s4C:=s5A.trans (sB.trans sC)
   have s3C:=s3J.trans s4C
   have s1C:=s3.trans s3C
   refine⟨_,rfl,_,rfl,⟨_,SqL.of (s1C _ _ hp)⟩,?_⟩
   have hdF:∀(q:Addr)(r:RR),LR H1 q r->hdV HC (.ref q)=.str r.name:=λq r h=>by
    obtain⟨pe,pa,pl,py,sv,us,h1⟩:=h
    unfold hdV
    dsimp only
    rw[s1C _ _ h1.hq];rfl
   refine qc9 (hdV HC) (λσ'=>∃v,σ'=[v]) (qdz (K:=K) (SqL.of (s1C _ _ hp))) (qan (by rw[Ab];lia)) ⟨none,rfl⟩ (λv σ' J RR' hv sm s4' qq=>?_) qdt λpD nD=>?_
   .obtain⟨v0,rfl⟩:=s4'
    obtain⟨q,hq,rfl⟩:=AM.mp hv
    obtain⟨i,hi⟩:=Bb hq
    have hi':i<rs.length:=by rw[<- lq];exact(Ac.mp hi).1
    have hl:=hlr i q _ hi (Ae hi')
    have qq:=qq [some (.ref q)] ⟨_,rfl⟩
    rw[hdF q _ hl]at qq
    obtain⟨pe,pa,pl,py,sv,us,h1⟩:=hl
    exact⟨_,rfl,_,_,_,_,rfl,rfl,SqL.of (sm _ _ (s1C _ _ h1.hq)),rfl,qq⟩
   have emp:(qs.map V.ref).map (hdV HC)=(rs.map RR.name).map V.str:=by
    apply BG
    intro i
    rw[Al,Al,Al,Al]
    by_cases c:i<rs.length
    .have hq:qs[i]?=some (qs[i]'(by lia)):=Ae (by lia)
     have hr:rs[i]?=some rs[i]:=Ae c
     rw[hq,hr]
     show some (hdV HC (.ref _))=_
     rw[hdF _ _ (hlr i _ _ hq hr)];rfl
    .rw[Bj (by lia),Bj (by lia)];rfl
   rw[emp]
   obtain⟨sD,eD⟩:=alc (o:=.lst ((rs.map RR.name).map V.str)) nD
   generalize upd HC pD _=HD at sD eD |-
   have flb:((rs.map RR.name).map V.str).all qcr=true:=by rw[CG];exact Bf.mpr λ_ _=>rfl
   refine⟨_,_,_,_,rfl,rfl,SqL.of (sD _ _ eC),SqL.of eD,flb,flb,_,rfl,?_⟩
   rw[qix flb]
   have s3D:=s3C.trans sD
   refine qbv ⟨_,rfl,_,rfl,_,rfl,p,qw,pr,rs,sp,rfl,rsa.same s3D,dw,s3D _ _ hw,s3D _ _ (s3 _ _ hpr),λHE sE=>⟨_,rfl,qc1 ?_⟩⟩
   refine⟨rfl,_,rfl,_,qm,LL,rfl,rfl,SqL.of ((s5A.trans (sB.trans (sC.trans (sD.trans sE)))) _ _ hqm),jo.1,?_⟩
   rw[jo.2]
   exact⟨_,rfl,_,rfl,LL,er3,rfl,lng,rd3,λHF _=>k HF⟩
  .obtain⟨rk,hrk⟩:=dw.rk
   exact(qr9 hrk rg).elim
end
set_option maxHeartbeats 4000000 in
theorem all_mk {l:PySem.W.OpenLaw}{w:World}{K:Ag}{h:Heap}{mg:Str->Option Value}{fa:Addr}(X:K.In h)(G:h.Ns AE mg)(hfa:mg "law" = some (.ref fa))
  {C_Adrift C_Book C_CourtError C_Full C_NoAct C_NoDay C_NoName C_NoRow C_NoRule C_NoTable C_NoTerm C_Parted C_Ring C_Rule C_Twice C_Unfit f0 f1 f2 f3 f4 f5 f6 f7 f8 f9 f10 f11 f12:Addr} {od12 an12:Option Addr} {sl12:Array (Option Value)} {oc12 kV12 dc12 pm12 cd12 ct12 dV12:Value} {f13 f14 f15 f16 f17 f18 f19 f20 f21 f22 f23 f24 f25 f26 f27 f28 f29 f30 f31 f32 f33 f34 f35 f36 f37 f38 f39 f40 f41 f42 f43 f44 f45 f46:Addr} {od46 an46:Option Addr} {sl46:Array (Option Value)} {oc46 kV46 dc46 pm46 cd46 ct46:Value} {tk_LONGEST_NAME tk_MOST_ROWS tk_MOST_TERMS tk_MOST_LONGER_ROWS:Tok} {A_UNITS:Addr} {oa_UNITS:Option Addr} {na_UNITS:Nat} {tt0_UNITS tt1_UNITS tt2_UNITS:Tok} {sa_UNITS:Array (Option Value)} {A_FORMS:Addr} {oa_FORMS:Option Addr} {na_FORMS:Nat} {sa_FORMS:Array (Option Value)} {A_FORMS_0:Addr} {oa_FORMS_0:Option Addr} {na_FORMS_0:Nat} {tt0_FORMS_0 tt1_FORMS_0 tt2_FORMS_0 tt3_FORMS_0 tt4_FORMS_0 tt5_FORMS_0 tt6_FORMS_0 tt7_FORMS_0 tt8_FORMS_0 tt9_FORMS_0:Tok} {sa_FORMS_0:Array (Option Value)} {A_FORMS_1:Addr} {oa_FORMS_1:Option Addr} {na_FORMS_1:Nat} {tt0_FORMS_1 tt1_FORMS_1 tt2_FORMS_1 tt3_FORMS_1 tt4_FORMS_1 tt5_FORMS_1 tt6_FORMS_1 tt7_FORMS_1 tt8_FORMS_1 tt9_FORMS_1:Tok} {sa_FORMS_1:Array (Option Value)} {A_FORMS_2:Addr} {oa_FORMS_2:Option Addr} {na_FORMS_2:Nat} {tt0_FORMS_2 tt1_FORMS_2 tt2_FORMS_2:Tok} {sa_FORMS_2:Array (Option Value)} {A_FORMS_3:Addr} {oa_FORMS_3:Option Addr} {na_FORMS_3:Nat} {tt0_FORMS_3 tt1_FORMS_3 tt2_FORMS_3:Tok} {sa_FORMS_3:Array (Option Value)} {A_FORMS_4:Addr} {oa_FORMS_4:Option Addr} {na_FORMS_4:Nat} {tt0_FORMS_4 tt1_FORMS_4 tt2_FORMS_4 tt3_FORMS_4 tt4_FORMS_4 tt5_FORMS_4:Tok} {sa_FORMS_4:Array (Option Value)} {A_FORMS_5:Addr} {oa_FORMS_5:Option Addr} {na_FORMS_5:Nat} {tt0_FORMS_5 tt1_FORMS_5 tt2_FORMS_5 tt3_FORMS_5:Tok} {sa_FORMS_5:Array (Option Value)} {A_FORMS_6:Addr} {oa_FORMS_6:Option Addr} {na_FORMS_6:Nat} {tt0_FORMS_6 tt1_FORMS_6 tt2_FORMS_6:Tok} {sa_FORMS_6:Array (Option Value)}
  (ca_Adrift:AJ K AE "Adrift" = some (some (.ref C_Adrift))) (ca_Book:AJ K AE "Book" = some (some (.ref C_Book))) (ca_CourtError:AJ K AE "CourtError" = some (some (.ref C_CourtError))) (ca_Full:AJ K AE "Full" = some (some (.ref C_Full))) (ca_NoAct:AJ K AE "NoAct" = some (some (.ref C_NoAct))) (ca_NoDay:AJ K AE "NoDay" = some (some (.ref C_NoDay))) (ca_NoName:AJ K AE "NoName" = some (some (.ref C_NoName))) (ca_NoRow:AJ K AE "NoRow" = some (some (.ref C_NoRow))) (ca_NoRule:AJ K AE "NoRule" = some (some (.ref C_NoRule))) (ca_NoTable:AJ K AE "NoTable" = some (some (.ref C_NoTable))) (ca_NoTerm:AJ K AE "NoTerm" = some (some (.ref C_NoTerm))) (ca_Parted:AJ K AE "Parted" = some (some (.ref C_Parted))) (ca_Ring:AJ K AE "Ring" = some (some (.ref C_Ring))) (ca_Rule:AJ K AE "Rule" = some (some (.ref C_Rule))) (ca_Twice:AJ K AE "Twice" = some (some (.ref C_Twice))) (ca_Unfit:AJ K AE "Unfit" = some (some (.ref C_Unfit))) (p0:Pd K "is_figure" qi0 f0) (p1:Pd K "is_written_number" qdb f1) (p2:Pd K "number" qnu f2) (p3:Pm K C_Ring "__init__" "Ring.__init__" qi1 f3) (p4:Pd K "untaken" qkw f4) (p5:Pd K "hanging_order" qe8 f5) (p6:Pd K "is_small_letter" qep f6) (p7:Pd K "is_name" qj8 f7) (p8:Pm K C_Book "__init__" "Book.__init__" qi2 f8) (p9:Pd K "lines_of" qkx f9) (p10:Pd K "value_of" qky f10) (p11:Pd K "row_of" qnv f11) (a12:AT K (.ref C_Rule) "__init__" = some (some (.ref f12))) (t12:Ci K (.ref f12)=some (.type "function")) (l12:K.lookup f12=some ⟨oc12,od12,.func (Bz "__init__" "Rule.__init__" (qb9 qb3) (qbq qb3) (qac qb3) dV12 kV12 dc12 pm12 an12 cd12 ct12),sl12⟩) (c12:BY K cd12 "Rule.__init__" = true) (k12:Bo K (.ref f12)=true) (pk12:∀(u0 u1 u2 u3 u4 u5 u6 u7 u8:Value)(S:Setting),PySem.W.peek K S (bindArgs (Bz "__init__" "Rule.__init__" (qb9 qb3) (qbq qb3) (qac qb3) dV12 kV12 dc12 pm12 an12 cd12 ct12) ⟨[u0,u1,u2,u3,u4,u5,u6,u7,u8],[]⟩)=some [(Aa "self",u0),(Aa "name",u1),(Aa "who",u2),(Aa "owes",u3),(Aa "opens",u4),(Aa "base",u5),(Aa "many",u6),(Aa "unit",u7),(Aa "still",u8)]) (pe_RuleInit_8:∀(u0 u1 u2 u3 u4 u5 u6 u7:Value)(S:Setting),PySem.W.peek K S (bindArgs (Bz "__init__" "Rule.__init__" (qb9 qb3) (qbq qb3) (qac qb3) dV12 kV12 dc12 pm12 an12 cd12 ct12) ⟨[u0,u1,u2,u3,u4,u5,u6,u7],[]⟩)=some [(Aa "self",u0),(Aa "name",u1),(Aa "who",u2),(Aa "owes",u3),(Aa "opens",u4),(Aa "base",u5),(Aa "many",u6),(Aa "unit",u7),(Aa "still",BJ)]) (p13:Pm K C_Twice "__init__" "Twice.__init__" qhk f13) (p14:Pm K C_Unfit "__init__" "Unfit.__init__" qhl f14) (p15:Pd K "read_term" qi3 f15) (p16:Pm K C_NoTerm "__init__" "NoTerm.__init__" qgi f16) (p17:Pm K C_Rule "all_kinds" "Rule.all_kinds" qd2 f17) (p18:Pd K "kinds_in" qkz f18) (p19:Pd K "is_unfit" qh3 f19) (p20:Pd K "read_more" qi4 f20) (p21:Pd K "read_row" qk0 f21) (p22:Pd K "settle_yields" qe9 f22) (p23:Pd K "settle_names" qfp f23) (p24:Pm K C_NoRule "__init__" "NoRule.__init__" qgj f24) (p25:Pd K "read_book" qi5 f25) (p26:Pd K "_law_cell_at" qhm f26) (p27:Pd K "_law_words" qi6 f27) (p28:Pd K "_law_yields" qhn f28) (p29:Pd K "_law_base" qh4 f29) (p30:Pd K "_law_rule" qh5 f30) (p31:Pd K "_law_rules" qg0 f31) (p32:Pd K "_law_sorts" qeh f32) (p33:Pd K "_law_rows" qk1 f33) (p34:Pd K "_law_told" qk2 f34) (p35:Pd K "_law_right" qi7 f35) (p36:Pd K "_law_drawn" qi8 f36) (p37:Pd K "_law_ring" qk3 f37) (p38:Pd K "_law_heads" qi9 f38) (p39:Pd K "_law_pairs" qja f39) (p40:Pd K "_law_bad_yields" qfa f40) (p41:Pd K "_law_fault" qjb f41) (p42:Pd K "_law_second" qho f42) (p43:Pd K "_law_beside" qhp f43) (p44:Pd K "_law_alone" qjc f44) (p45:Pm K C_Book "term_names" "Book.term_names" qeq f45) (a46:AJ K AE "law" = some (some (.ref f46))) (l46:K.lookup f46=some ⟨oc46,od46,.func (Bz "law" "law" (qb9 qqj) (qbq qqj) (qac qqj) .none kV46 dc46 pm46 an46 cd46 ct46),sl46⟩) (c46:BY K cd46 "law" = true) (k46:Bo K (.ref f46)=true) (z_ValueError:AJ K AE "ValueError" = some none) (z_all:AJ K AE "all" = some none) (z_any:AJ K AE "any" = some none) (z_bool:AJ K AE "bool" = some none) (z_enumerate:AJ K AE "enumerate" = some none) (z_int:AJ K AE "int" = some none) (z_isinstance:AJ K AE "isinstance" = some none) (z_len:AJ K AE "len" = some none) (z_list:AJ K AE "list" = some none) (z_range:AJ K AE "range" = some none) (z_reversed:AJ K AE "reversed" = some none) (z_str:AJ K AE "str" = some none) (z_zip:AJ K AE "zip" = some none) (q_LONGEST_NAME:AJ K AE "LONGEST_NAME" = some (some (.int 8 tk_LONGEST_NAME))) (q_MOST_ROWS:AJ K AE "MOST_ROWS" = some (some (.int 40 tk_MOST_ROWS))) (q_MOST_TERMS:AJ K AE "MOST_TERMS" = some (some (.int 6 tk_MOST_TERMS))) (q_MOST_LONGER_ROWS:AJ K AE "MOST_LONGER_ROWS" = some (some (.int 2 tk_MOST_LONGER_ROWS))) (q_UNITS:AJ K AE "UNITS" = some (some (.ref A_UNITS))) (lt_UNITS:K.lookup A_UNITS=some ⟨.type "tuple",oa_UNITS,.seq #[.str (Aa "days") tt0_UNITS,.str (Aa "weeks") tt1_UNITS,.str (Aa "court") tt2_UNITS] na_UNITS,sa_UNITS⟩) (q_FORMS:AJ K AE "FORMS" = some (some (.ref A_FORMS))) (lt_FORMS:K.lookup A_FORMS=some ⟨.type "tuple",oa_FORMS,.seq #[.ref A_FORMS_0,.ref A_FORMS_1,.ref A_FORMS_2,.ref A_FORMS_3,.ref A_FORMS_4,.ref A_FORMS_5,.ref A_FORMS_6] na_FORMS,sa_FORMS⟩) (lt_FORMS_0:K.lookup A_FORMS_0=some ⟨.type "tuple",oa_FORMS_0,.seq #[.str (Aa "term") tt0_FORMS_0,.str (Aa "NAME") tt1_FORMS_0,.str (Aa "of") tt2_FORMS_0,.str (Aa "NAME") tt3_FORMS_0,.str (Aa "due") tt4_FORMS_0,.str (Aa "NAME") tt5_FORMS_0,.str (Aa "from") tt6_FORMS_0,.str (Aa "NAME") tt7_FORMS_0,.int 40 tt8_FORMS_0,.str (Aa "UNIT") tt9_FORMS_0] na_FORMS_0,sa_FORMS_0⟩) (lt_FORMS_1:K.lookup A_FORMS_1=some ⟨.type "tuple",oa_FORMS_1,.seq #[.str (Aa "term") tt0_FORMS_1,.str (Aa "NAME") tt1_FORMS_1,.str (Aa "of") tt2_FORMS_1,.str (Aa "NAME") tt3_FORMS_1,.str (Aa "due") tt4_FORMS_1,.str (Aa "NAME") tt5_FORMS_1,.str (Aa "behind") tt6_FORMS_1,.str (Aa "NAME") tt7_FORMS_1,.int 40 tt8_FORMS_1,.str (Aa "UNIT") tt9_FORMS_1] na_FORMS_1,sa_FORMS_1⟩) (lt_FORMS_2:K.lookup A_FORMS_2=some ⟨.type "tuple",oa_FORMS_2,.seq #[.str (Aa "ends") tt0_FORMS_2,.str (Aa "NAME") tt1_FORMS_2,.str (Aa "NAME") tt2_FORMS_2] na_FORMS_2,sa_FORMS_2⟩) (lt_FORMS_3:K.lookup A_FORMS_3=some ⟨.type "tuple",oa_FORMS_3,.seq #[.str (Aa "anew") tt0_FORMS_3,.str (Aa "NAME") tt1_FORMS_3,.str (Aa "NAME") tt2_FORMS_3] na_FORMS_3,sa_FORMS_3⟩) (lt_FORMS_4:K.lookup A_FORMS_4=some ⟨.type "tuple",oa_FORMS_4,.seq #[.str (Aa "longer") tt0_FORMS_4,.str (Aa "NAME") tt1_FORMS_4,.str (Aa "NAME") tt2_FORMS_4,.int 20 tt3_FORMS_4,.str (Aa "times") tt4_FORMS_4,.int 3 tt5_FORMS_4] na_FORMS_4,sa_FORMS_4⟩) (lt_FORMS_5:K.lookup A_FORMS_5=some ⟨.type "tuple",oa_FORMS_5,.seq #[.str (Aa "still") tt0_FORMS_5,.str (Aa "NAME") tt1_FORMS_5,.str (Aa "NAME") tt2_FORMS_5,.str (Aa "NAME") tt3_FORMS_5] na_FORMS_5,sa_FORMS_5⟩) (lt_FORMS_6:K.lookup A_FORMS_6=some ⟨.type "tuple",oa_FORMS_6,.seq #[.str (Aa "yields") tt0_FORMS_6,.str (Aa "NAME") tt1_FORMS_6,.str (Aa "NAME") tt2_FORMS_6] na_FORMS_6,sa_FORMS_6⟩) (cc_Book:qxm K C_Book=true) (cm_Book:mkB K C_Book f8=true) (cn_Book:xNo K C_Book ["name", "who", "owes", "opens", "base", "many", "unit", "still", "ends", "anew", "longer", "yields", "order", "by_name", "names", "at"]=true) (ct_dBookTermNames:qrw K C_Book "term_names" f45=true) (cb_CourtError:qu5 K C_CourtError=true) (cx_NoRule:qqb K C_NoRule (some (.ref f24))=true) (cn_NoRule:xNo K C_NoRule ["name", "who", "owes", "opens", "base", "many", "unit", "still", "ends", "anew", "longer", "yields", "order", "by_name", "names", "at"]=true) (ck_NoRule:qgg K C_NoRule [Ao C_CourtError,BU "ValueError",Ao C_NoRule,Ao C_NoTerm,Ao C_Twice,Ao C_Unfit,Ao C_Ring] [true,true,true,false,false,false,false]=true) (cx_NoTerm:qqb K C_NoTerm (some (.ref f16))=true) (cn_NoTerm:xNo K C_NoTerm ["name", "who", "owes", "opens", "base", "many", "unit", "still", "ends", "anew", "longer", "yields", "order", "by_name", "names", "at"]=true) (ck_NoTerm:qgg K C_NoTerm [Ao C_CourtError,BU "ValueError",Ao C_NoRule,Ao C_NoTerm,Ao C_Twice,Ao C_Unfit,Ao C_Ring] [true,true,false,true,false,false,false]=true) (cx_Ring:qqb K C_Ring (some (.ref f3))=true) (cn_Ring:xNo K C_Ring ["name", "who", "owes", "opens", "base", "many", "unit", "still", "ends", "anew", "longer", "yields", "order", "by_name", "names", "at"]=true) (ck_Ring:qgg K C_Ring [Ao C_CourtError,BU "ValueError",Ao C_NoRule,Ao C_NoTerm,Ao C_Twice,Ao C_Unfit,Ao C_Ring] [true,true,false,false,false,false,true]=true) (cc_Rule:qxm K C_Rule=true) (cm_Rule:mkB K C_Rule f12=true) (cn_Rule:xNo K C_Rule ["name", "who", "owes", "opens", "base", "many", "unit", "still", "ends", "anew", "longer", "yields", "order", "by_name", "names", "at"]=true) (ct_dRuleAllKinds:qrw K C_Rule "all_kinds" f17=true) (cx_Twice:qqb K C_Twice (some (.ref f13))=true) (cn_Twice:xNo K C_Twice ["name", "who", "owes", "opens", "base", "many", "unit", "still", "ends", "anew", "longer", "yields", "order", "by_name", "names", "at"]=true) (ck_Twice:qgg K C_Twice [Ao C_CourtError,BU "ValueError",Ao C_NoRule,Ao C_NoTerm,Ao C_Twice,Ao C_Unfit,Ao C_Ring] [true,true,false,false,true,false,false]=true) (cx_Unfit:qqb K C_Unfit (some (.ref f14))=true) (cn_Unfit:xNo K C_Unfit ["name", "who", "owes", "opens", "base", "many", "unit", "still", "ends", "anew", "longer", "yields", "order", "by_name", "names", "at"]=true) (ck_Unfit:qgg K C_Unfit [Ao C_CourtError,BU "ValueError",Ao C_NoRule,Ao C_NoTerm,Ao C_Twice,Ao C_Unfit,Ao C_Ring] [true,true,false,false,false,true,false]=true) (cr_NoRule:qhh K C_NoRule=true) (ch_NoRule_Adrift:(Ad K (.ref C_NoRule) (.ref C_Adrift) == some false)=true) (ch_NoRule_Full:(Ad K (.ref C_NoRule) (.ref C_Full) == some false)=true) (ch_NoRule_NoAct:(Ad K (.ref C_NoRule) (.ref C_NoAct) == some false)=true) (ch_NoRule_NoDay:(Ad K (.ref C_NoRule) (.ref C_NoDay) == some false)=true) (ch_NoRule_NoName:(Ad K (.ref C_NoRule) (.ref C_NoName) == some false)=true) (ch_NoRule_NoRow:(Ad K (.ref C_NoRule) (.ref C_NoRow) == some false)=true) (ch_NoRule_NoRule:(Ad K (.ref C_NoRule) (.ref C_NoRule) == some true)=true) (ch_NoRule_NoTable:(Ad K (.ref C_NoRule) (.ref C_NoTable) == some false)=true) (ch_NoRule_NoTerm:(Ad K (.ref C_NoRule) (.ref C_NoTerm) == some false)=true) (ch_NoRule_Parted:(Ad K (.ref C_NoRule) (.ref C_Parted) == some false)=true) (ch_NoRule_Ring:(Ad K (.ref C_NoRule) (.ref C_Ring) == some false)=true) (ch_NoRule_Twice:(Ad K (.ref C_NoRule) (.ref C_Twice) == some false)=true) (ch_NoRule_Unfit:(Ad K (.ref C_NoRule) (.ref C_Unfit) == some false)=true) (cr_NoTerm:qhh K C_NoTerm=true) (ch_NoTerm_Adrift:(Ad K (.ref C_NoTerm) (.ref C_Adrift) == some false)=true) (ch_NoTerm_Full:(Ad K (.ref C_NoTerm) (.ref C_Full) == some false)=true) (ch_NoTerm_NoAct:(Ad K (.ref C_NoTerm) (.ref C_NoAct) == some false)=true) (ch_NoTerm_NoDay:(Ad K (.ref C_NoTerm) (.ref C_NoDay) == some false)=true) (ch_NoTerm_NoName:(Ad K (.ref C_NoTerm) (.ref C_NoName) == some false)=true) (ch_NoTerm_NoRow:(Ad K (.ref C_NoTerm) (.ref C_NoRow) == some false)=true) (ch_NoTerm_NoRule:(Ad K (.ref C_NoTerm) (.ref C_NoRule) == some false)=true) (ch_NoTerm_NoTable:(Ad K (.ref C_NoTerm) (.ref C_NoTable) == some false)=true) (ch_NoTerm_NoTerm:(Ad K (.ref C_NoTerm) (.ref C_NoTerm) == some true)=true) (ch_NoTerm_Parted:(Ad K (.ref C_NoTerm) (.ref C_Parted) == some false)=true) (ch_NoTerm_Ring:(Ad K (.ref C_NoTerm) (.ref C_Ring) == some false)=true) (ch_NoTerm_Twice:(Ad K (.ref C_NoTerm) (.ref C_Twice) == some false)=true) (ch_NoTerm_Unfit:(Ad K (.ref C_NoTerm) (.ref C_Unfit) == some false)=true) (cr_Ring:qhh K C_Ring=true) (ch_Ring_Adrift:(Ad K (.ref C_Ring) (.ref C_Adrift) == some false)=true) (ch_Ring_Full:(Ad K (.ref C_Ring) (.ref C_Full) == some false)=true) (ch_Ring_NoAct:(Ad K (.ref C_Ring) (.ref C_NoAct) == some false)=true) (ch_Ring_NoDay:(Ad K (.ref C_Ring) (.ref C_NoDay) == some false)=true) (ch_Ring_NoName:(Ad K (.ref C_Ring) (.ref C_NoName) == some false)=true) (ch_Ring_NoRow:(Ad K (.ref C_Ring) (.ref C_NoRow) == some false)=true) (ch_Ring_NoRule:(Ad K (.ref C_Ring) (.ref C_NoRule) == some false)=true) (ch_Ring_NoTable:(Ad K (.ref C_Ring) (.ref C_NoTable) == some false)=true) (ch_Ring_NoTerm:(Ad K (.ref C_Ring) (.ref C_NoTerm) == some false)=true) (ch_Ring_Parted:(Ad K (.ref C_Ring) (.ref C_Parted) == some false)=true) (ch_Ring_Ring:(Ad K (.ref C_Ring) (.ref C_Ring) == some true)=true) (ch_Ring_Twice:(Ad K (.ref C_Ring) (.ref C_Twice) == some false)=true) (ch_Ring_Unfit:(Ad K (.ref C_Ring) (.ref C_Unfit) == some false)=true) (cr_Twice:qhh K C_Twice=true) (ch_Twice_Adrift:(Ad K (.ref C_Twice) (.ref C_Adrift) == some false)=true) (ch_Twice_Full:(Ad K (.ref C_Twice) (.ref C_Full) == some false)=true) (ch_Twice_NoAct:(Ad K (.ref C_Twice) (.ref C_NoAct) == some false)=true) (ch_Twice_NoDay:(Ad K (.ref C_Twice) (.ref C_NoDay) == some false)=true) (ch_Twice_NoName:(Ad K (.ref C_Twice) (.ref C_NoName) == some false)=true) (ch_Twice_NoRow:(Ad K (.ref C_Twice) (.ref C_NoRow) == some false)=true) (ch_Twice_NoRule:(Ad K (.ref C_Twice) (.ref C_NoRule) == some false)=true) (ch_Twice_NoTable:(Ad K (.ref C_Twice) (.ref C_NoTable) == some false)=true) (ch_Twice_NoTerm:(Ad K (.ref C_Twice) (.ref C_NoTerm) == some false)=true) (ch_Twice_Parted:(Ad K (.ref C_Twice) (.ref C_Parted) == some false)=true) (ch_Twice_Ring:(Ad K (.ref C_Twice) (.ref C_Ring) == some false)=true) (ch_Twice_Twice:(Ad K (.ref C_Twice) (.ref C_Twice) == some true)=true) (ch_Twice_Unfit:(Ad K (.ref C_Twice) (.ref C_Unfit) == some false)=true) (cr_Unfit:qhh K C_Unfit=true) (ch_Unfit_Adrift:(Ad K (.ref C_Unfit) (.ref C_Adrift) == some false)=true) (ch_Unfit_Full:(Ad K (.ref C_Unfit) (.ref C_Full) == some false)=true) (ch_Unfit_NoAct:(Ad K (.ref C_Unfit) (.ref C_NoAct) == some false)=true) (ch_Unfit_NoDay:(Ad K (.ref C_Unfit) (.ref C_NoDay) == some false)=true) (ch_Unfit_NoName:(Ad K (.ref C_Unfit) (.ref C_NoName) == some false)=true) (ch_Unfit_NoRow:(Ad K (.ref C_Unfit) (.ref C_NoRow) == some false)=true) (ch_Unfit_NoRule:(Ad K (.ref C_Unfit) (.ref C_NoRule) == some false)=true) (ch_Unfit_NoTable:(Ad K (.ref C_Unfit) (.ref C_NoTable) == some false)=true) (ch_Unfit_NoTerm:(Ad K (.ref C_Unfit) (.ref C_NoTerm) == some false)=true) (ch_Unfit_Parted:(Ad K (.ref C_Unfit) (.ref C_Parted) == some false)=true) (ch_Unfit_Ring:(Ad K (.ref C_Unfit) (.ref C_Ring) == some false)=true) (ch_Unfit_Twice:(Ad K (.ref C_Unfit) (.ref C_Twice) == some false)=true) (ch_Unfit_Unfit:(Ad K (.ref C_Unfit) (.ref C_Unfit) == some true)=true)
  : ∃fd:AH,(∀(s:Aj)(v:Value),BindsTo s fd ⟨[v],[]⟩ [("_law_script",v)])/\∀base:Heap,K.In base->base.Ns AE mg->FnOk l.prog w K mg base CX0 11 fa fd ["_law_script"] (qr1 K):=by
 have e:=hfa.symm.trans (Bc X G a46)
 cases e
 obtain⟨g0,d0⟩:=qbh X G p0 (ps:=["sign"]) λ_ _ _ _ _ _=>qgk λ_=>rfl
 obtain⟨g1,d1⟩:=qbh X G p1 (ps:=["text", "most_figures"]) λ_ _ _ _ _ _=>qh6 λ_ _=>rfl
 obtain⟨g2,d2⟩:=qbh X G p2 (ps:=["text", "most"]) λ_ _ _ _ _ _=>qh6 λ_ _=>rfl
 obtain⟨g3,d3⟩:=qjo p3 (ps:=["self", "names"]) λ_ _ _ _ _ _=>qh6 λ_ _=>rfl
 obtain⟨g4,d4⟩:=qbh X G p4 (ps:=["name", "bases", "taken"]) λ_ _ _ _ _ _=>qma λ_ _ _=>rfl
 obtain⟨g5,d5⟩:=qbh X G p5 (ps:=["rules"]) λ_ _ _ _ _ _=>qgk λ_=>rfl
 obtain⟨g6,d6⟩:=qbh X G p6 (ps:=["sign"]) λ_ _ _ _ _ _=>qgk λ_=>rfl
 obtain⟨g7,d7⟩:=qbh X G p7 (ps:=["thing"]) λ_ _ _ _ _ _=>qgk λ_=>rfl
 obtain⟨g8,d8⟩:=qjo p8 (ps:=["self", "rules"]) λ_ _ _ _ _ _=>qh6 λ_ _=>rfl
 obtain⟨g9,d9⟩:=qbh X G p9 (ps:=["text"]) λ_ _ _ _ _ _=>qgk λ_=>rfl
 obtain⟨g10,d10⟩:=qbh X G p10 (ps:=["word", "asked"]) λ_ _ _ _ _ _=>qh6 λ_ _=>rfl
 obtain⟨g11,d11⟩:=qbh X G p11 (ps:=["line"]) λ_ _ _ _ _ _=>qgk λ_=>rfl
 obtain⟨g13,d13⟩:=qjo p13 (ps:=["self", "name"]) λ_ _ _ _ _ _=>qh6 λ_ _=>rfl
 obtain⟨g14,d14⟩:=qjo p14 (ps:=["self", "at"]) λ_ _ _ _ _ _=>qh6 λ_ _=>rfl
 obtain⟨g15,d15⟩:=qbh X G p15 (ps:=["told", "at", "row"]) λ_ _ _ _ _ _=>qma λ_ _ _=>rfl
 obtain⟨g16,d16⟩:=qjo p16 (ps:=["self", "name"]) λ_ _ _ _ _ _=>qh6 λ_ _=>rfl
 obtain⟨g17,d17⟩:=qjo p17 (ps:=["self"]) λ_ _ _ _ _ _=>qgk λ_=>rfl
 obtain⟨g18,d18⟩:=qbh X G p18 (ps:=["row"]) λ_ _ _ _ _ _=>qgk λ_=>rfl
 obtain⟨g19,d19⟩:=qbh X G p19 (ps:=["rule", "row"]) λ_ _ _ _ _ _=>qh6 λ_ _=>rfl
 obtain⟨g20,d20⟩:=qbh X G p20 (ps:=["rule", "at", "row"]) λ_ _ _ _ _ _=>qma λ_ _ _=>rfl
 obtain⟨g21,d21⟩:=qbh X G p21 (ps:=["told", "at", "row"]) λ_ _ _ _ _ _=>qma λ_ _ _=>rfl
 obtain⟨g22,d22⟩:=qbh X G p22 (ps:=["told", "rule", "at", "other"]) λ_ _ _ _ _ _=>qvp λ_ _ _ _=>rfl
 obtain⟨g23,d23⟩:=qbh X G p23 (ps:=["told", "at", "row"]) λ_ _ _ _ _ _=>qma λ_ _ _=>rfl
 obtain⟨g24,d24⟩:=qjo p24 (ps:=["self", "at"]) λ_ _ _ _ _ _=>qh6 λ_ _=>rfl
 obtain⟨g25,d25⟩:=qbh X G p25 (ps:=["text"]) λ_ _ _ _ _ _=>qgk λ_=>rfl
 obtain⟨g26,d26⟩:=qbh X G p26 (ps:=["_law_script", "_law_k"]) λ_ _ _ _ _ _=>qh6 λ_ _=>rfl
 obtain⟨g27,d27⟩:=qbh X G p27 (ps:=["_law_cell", "_law_many"]) λ_ _ _ _ _ _=>qh6 λ_ _=>rfl
 obtain⟨g28,d28⟩:=qbh X G p28 (ps:=["_law_script", "_law_at", "_law_names"]) λ_ _ _ _ _ _=>qma λ_ _ _=>rfl
 obtain⟨g29,d29⟩:=qbh X G p29 (ps:=["_law_script", "_law_at", "_law_names"]) λ_ _ _ _ _ _=>qma λ_ _ _=>rfl
 obtain⟨g30,d30⟩:=qbh X G p30 (ps:=["_law_script", "_law_at", "_law_names", "_law_kinds"]) λ_ _ _ _ _ _=>qvp λ_ _ _ _=>rfl
 obtain⟨g31,d31⟩:=qbh X G p31 (ps:=["_law_script", "_law_names", "_law_kinds", "_law_most"]) λ_ _ _ _ _ _=>qvp λ_ _ _ _=>rfl
 obtain⟨g32,d32⟩:=qbh X G p32 (ps:=["_law_rule_here"]) λ_ _ _ _ _ _=>qgk λ_=>rfl
 obtain⟨g33,d33⟩:=qbh X G p33 (ps:=["_law_rule_here"]) λ_ _ _ _ _ _=>qgk λ_=>rfl
 obtain⟨g34,d34⟩:=qbh X G p34 (ps:=["_law_text"]) λ_ _ _ _ _ _=>qgk λ_=>rfl
 obtain⟨g35,d35⟩:=qbh X G p35 (ps:=["_law_text", "_law_word", "_law_field"]) λ_ _ _ _ _ _=>qma λ_ _ _=>rfl
 obtain⟨g36,d36⟩:=qbh X G p36 (ps:=["_law_script"]) λ_ _ _ _ _ _=>qgk λ_=>rfl
 obtain⟨g37,d37⟩:=qbh X G p37 (ps:=["_law_text", "_law_name"]) λ_ _ _ _ _ _=>qh6 λ_ _=>rfl
 obtain⟨g38,d38⟩:=qbh X G p38 (ps:=["_law_rules_here"]) λ_ _ _ _ _ _=>qgk λ_=>rfl
 obtain⟨g39,d39⟩:=qbh X G p39 (ps:=["_law_rules_here"]) λ_ _ _ _ _ _=>qgk λ_=>rfl
 obtain⟨g40,d40⟩:=qbh X G p40 (ps:=["_law_way", "_law_cell", "_law_rules_here", "_law_rows_here", "_law_spare"]) λ_ _ _ _ _ _=>arg5 λ_ _ _ _ _=>rfl
 obtain⟨g41,d41⟩:=qbh X G p41 (ps:=["_law_script", "_law_rules_here", "_law_rows_here", "_law_spare"]) λ_ _ _ _ _ _=>qvp λ_ _ _ _=>rfl
 obtain⟨g42,d42⟩:=qbh X G p42 (ps:=["_law_script", "_law_rules_here", "_law_bad", "_law_spot", "_law_spare"]) λ_ _ _ _ _ _=>arg5 λ_ _ _ _ _=>rfl
 obtain⟨g43,d43⟩:=qbh X G p43 (ps:=["_law_script", "_law_rows_here", "_law_word", "_law_field", "_law_spare"]) λ_ _ _ _ _ _=>arg5 λ_ _ _ _ _=>rfl
 obtain⟨g44,d44⟩:=qbh X G p44 (ps:=["_law_rules_here", "_law_rows_here", "_law_spare"]) λ_ _ _ _ _ _=>qma λ_ _ _=>rfl
 obtain⟨g45,d45⟩:=qjo p45 (ps:=["self"]) λ_ _ _ _ _ _=>qgk λ_=>rfl
 have F12:=qxq (st:=qb3) l12 c12 k12
 have b12:Binds K _ ["self", "name", "who", "owes", "opens", "base", "many", "unit", "still"] []:=qve (ds:=[]) λus hl S=>match us,hl with | [u0,u1,u2,u3,u4,u5,u6,u7,u8],_=>pk12 u0 u1 u2 u3 u4 u5 u6 u7 u8 S
 have F46:=qp6 (st:=qqj) l46 c46 k46
 have b46:=F46.binds (ps:=["_law_script"]) λ_ _ _ _ _ _ us hl=>match us,hl with | [_],_=>rfl
 have he_RuleInit_8:Binds K _ ["self", "name", "who", "owes", "opens", "base", "many", "unit", "still"] [.none]:=qve λus hl S=>match us,(show us.length=8 by rw[Ah]at hl;exact Nat.add_right_cancel hl) with | [u0,u1,u2,u3,u4,u5,u6,u7],_=>pe_RuleInit_8 u0 u1 u2 u3 u4 u5 u6 u7 S
 have T:Txt K mg { nZ:=f0,nB:=g0,mU:=f1,lN:=g1,fS:=f2,pF:=g2,dZ:=f3,mQ:=g3,nI:=f4,nJ:=g4,fQ:=f5,fH:=g5,nX:=f6,mJ:=g6,fM:=f7,mB:=g7,fF:=f8,nR:=g8,hV:=f9,nP:=g9,lJ:=f10,mR:=g10,nY:=f11,fR:=g11,fG:=f12,fB:=_,fC:=f13,fX:=g13,dP:=f14,fZ:=g14,nK:=f15,pC:=g15,dX:=f16,mM:=g16,dU:=f17,mG:=g17,mL:=f18,mH:=g18,mF:=f19,nE:=g19,hU:=f20,nA:=g20,mV:=f21,lY:=g21,fY:=f22,lE:=g22,fT:=f23,mS:=g23,fE:=f24,nC:=g24,nV:=f25,lQ:=g25,mE:=f26,pB:=g26,fN:=f27,mK:=g27,fP:=f28,lA:=g28,fW:=f29,nG:=g29,lF:=f30,mW:=g30,fO:=f31,nU:=g31,lP:=f32,mC:=g32,mZ:=f33,pA:=g33,fV:=f34,lV:=g34,lT:=f35,nL:=g35,mY:=f36,mD:=g36,lU:=f37,nH:=g37,nQ:=f38,hZ:=g38,nM:=f39,mO:=g39,mP:=f40,nN:=g40,nF:=f41,mT:=g41,lK:=f42,pG:=g42,fJ:=f43,nW:=g43,fL:=f44,fU:=g44,dW:=f45,lG:=g45,lW:=fa,hG:=_,gM:=C_Adrift,kJ:=C_Book,kL:=C_CourtError,gF:=C_Full,gL:=C_NoAct,gE:=C_NoDay,gC:=C_NoName,gJ:=C_NoRow,kF:=C_NoRule,gK:=C_NoTable,kE:=C_NoTerm,gG:=C_Parted,kA:=C_Ring,k7:=C_Rule,kD:=C_Twice,k9:=C_Unfit,dY:=A_UNITS,bW:=A_FORMS,bJ:=A_FORMS_0,gX:=A_FORMS_1,bQ:=A_FORMS_2,bO:=A_FORMS_3,bV:=A_FORMS_4,bU:=A_FORMS_5,dF:=A_FORMS_6 }:={
  bF:=d0,
  bS:=d1,
  gU:=d2,
  dQ:=d3,
  bR:=d4,
  bP:=d5,
  bT:=d6,
  dD:=d7,
  lI:=d8,
  dG:=d9,
  bX:=d10,
  gW:=d11,
  tQ:=⟨F12,b12,t12⟩,
  dS:=d13,
  gA:=d14,
  dB:=d15,
  kS:=d16,
  lC:=d17,
  bD:=d18,
  bL:=d19,
  bN:=d20,
  dN:=d21,
  bA:=d22,
  dM:=d23,
  dR:=d24,
  kY:=d25,
  k8:=d26,
  kU:=d27,
  dJ:=d28,
  dH:=d29,
  bC:=d30,
  bZ:=d31,
  gY:=d32,
  kN:=d33,
  gB:=d34,
  kR:=d35,
  bY:=d36,
  bB:=d37,
  dA:=d38,
  bG:=d39,
  bM:=d40,
  dE:=d41,
  dC:=d42,
  bK:=d43,
  bI:=d44,
  lD:=d45,
  sP:=⟨F46,Bc X G a46,b46⟩,
  tJ:=Bc X G ca_Adrift,
  tM:=Bc X G ca_Book,
  gT:=qva cc_Book,
  rZ:=qy4 cm_Book,
  bH:=cn_Book,
  tI:=qrx ct_dBookTermNames,
  kM:=Bc X G ca_CourtError,
  gQ:=xb_of cb_CourtError,
  rC:=Bc X G ca_Full,
  tG:=Bc X G ca_NoAct,
  tF:=Bc X G ca_NoDay,
  sM:=Bc X G ca_NoName,
  rG:=Bc X G ca_NoRow,
  nO:=Bc X G ca_NoRule,
  kO:=qou cx_NoRule,
  gZ:=cn_NoRule,
  gI:=ck_NoRule,
  pU:=Bc X G ca_NoTable,
  gP:=Bc X G ca_NoTerm,
  kK:=qou cx_NoTerm,
  bE:=cn_NoTerm,
  gO:=ck_NoTerm,
  pZ:=Bc X G ca_Parted,
  gD:=Bc X G ca_Ring,
  gN:=qou cx_Ring,
  lO:=cn_Ring,
  pE:=ck_Ring,
  rS:=Bc X G ca_Rule,
  kB:=qva cc_Rule,
  xA:=qy4 cm_Rule,
  kC:=cn_Rule,
  rJ:=qrx ct_dRuleAllKinds,
  dI:=Bc X G ca_Twice,
  kT:=qou cx_Twice,
  mI:=cn_Twice,
  dL:=ck_Twice,
  kX:=Bc X G ca_Unfit,
  kI:=qou cx_Unfit,
  kP:=cn_Unfit,
  fA:=ck_Unfit,
  fD:=qow cr_NoRule,
  sO:=beq_iff_eq.mp ch_NoRule_Adrift,
  rK:=beq_iff_eq.mp ch_NoRule_Full,
  r8:=beq_iff_eq.mp ch_NoRule_NoAct,
  sN:=beq_iff_eq.mp ch_NoRule_NoDay,
  rM:=beq_iff_eq.mp ch_NoRule_NoName,
  tK:=beq_iff_eq.mp ch_NoRule_NoRow,
  rB:=beq_iff_eq.mp ch_NoRule_NoRule,
  tU:=beq_iff_eq.mp ch_NoRule_NoTable,
  xH:=beq_iff_eq.mp ch_NoRule_NoTerm,
  rP:=beq_iff_eq.mp ch_NoRule_Parted,
  xF:=beq_iff_eq.mp ch_NoRule_Ring,
  xG:=beq_iff_eq.mp ch_NoRule_Twice,
  xE:=beq_iff_eq.mp ch_NoRule_Unfit,
  dO:=qow cr_NoTerm,
  tY:=beq_iff_eq.mp ch_NoTerm_Adrift,
  sQ:=beq_iff_eq.mp ch_NoTerm_Full,
  tO:=beq_iff_eq.mp ch_NoTerm_NoAct,
  pJ:=beq_iff_eq.mp ch_NoTerm_NoDay,
  sF:=beq_iff_eq.mp ch_NoTerm_NoName,
  sS:=beq_iff_eq.mp ch_NoTerm_NoRow,
  pR:=beq_iff_eq.mp ch_NoTerm_NoRule,
  pH:=beq_iff_eq.mp ch_NoTerm_NoTable,
  rY:=beq_iff_eq.mp ch_NoTerm_NoTerm,
  tH:=beq_iff_eq.mp ch_NoTerm_Parted,
  xD:=beq_iff_eq.mp ch_NoTerm_Ring,
  xC:=beq_iff_eq.mp ch_NoTerm_Twice,
  xL:=beq_iff_eq.mp ch_NoTerm_Unfit,
  sK:=qow cr_Ring,
  tV:=beq_iff_eq.mp ch_Ring_Adrift,
  tL:=beq_iff_eq.mp ch_Ring_Full,
  rT:=beq_iff_eq.mp ch_Ring_NoAct,
  rA:=beq_iff_eq.mp ch_Ring_NoDay,
  tX:=beq_iff_eq.mp ch_Ring_NoName,
  r6:=beq_iff_eq.mp ch_Ring_NoRow,
  pO:=beq_iff_eq.mp ch_Ring_NoRule,
  sZ:=beq_iff_eq.mp ch_Ring_NoTable,
  tE:=beq_iff_eq.mp ch_Ring_NoTerm,
  pK:=beq_iff_eq.mp ch_Ring_Parted,
  rD:=beq_iff_eq.mp ch_Ring_Ring,
  sW:=beq_iff_eq.mp ch_Ring_Twice,
  sR:=beq_iff_eq.mp ch_Ring_Unfit,
  tD:=qow cr_Twice,
  pS:=beq_iff_eq.mp ch_Twice_Adrift,
  tP:=beq_iff_eq.mp ch_Twice_Full,
  rX:=beq_iff_eq.mp ch_Twice_NoAct,
  rQ:=beq_iff_eq.mp ch_Twice_NoDay,
  r9:=beq_iff_eq.mp ch_Twice_NoName,
  sV:=beq_iff_eq.mp ch_Twice_NoRow,
  pM:=beq_iff_eq.mp ch_Twice_NoRule,
  rH:=beq_iff_eq.mp ch_Twice_NoTable,
  pT:=beq_iff_eq.mp ch_Twice_NoTerm,
  pX:=beq_iff_eq.mp ch_Twice_Parted,
  xK:=beq_iff_eq.mp ch_Twice_Ring,
  sG:=beq_iff_eq.mp ch_Twice_Twice,
  xJ:=beq_iff_eq.mp ch_Twice_Unfit,
  kZ:=qow cr_Unfit,
  sI:=beq_iff_eq.mp ch_Unfit_Adrift,
  rF:=beq_iff_eq.mp ch_Unfit_Full,
  sT:=beq_iff_eq.mp ch_Unfit_NoAct,
  rN:=beq_iff_eq.mp ch_Unfit_NoDay,
  rL:=beq_iff_eq.mp ch_Unfit_NoName,
  pI:=beq_iff_eq.mp ch_Unfit_NoRow,
  pV:=beq_iff_eq.mp ch_Unfit_NoRule,
  sY:=beq_iff_eq.mp ch_Unfit_NoTable,
  pL:=beq_iff_eq.mp ch_Unfit_NoTerm,
  rV:=beq_iff_eq.mp ch_Unfit_Parted,
  xI:=beq_iff_eq.mp ch_Unfit_Ring,
  tT:=beq_iff_eq.mp ch_Unfit_Twice,
  tR:=beq_iff_eq.mp ch_Unfit_Unfit,
  rE:=he_RuleInit_8,
  gS:=Bu X G z_ValueError,
  lH:=Bu X G z_all,
  sU:=Bu X G z_any,
  tN:=Bu X G z_bool,
  lR:=Bu X G z_enumerate,
  gR:=Bu X G z_int,
  kH:=Bu X G z_isinstance,
  kG:=Bu X G z_len,
  gH:=Bu X G z_list,
  kQ:=Bu X G z_range,
  fK:=Bu X G z_reversed,
  kW:=Bu X G z_str,
  rW:=Bu X G z_zip,
  pP:=⟨_,Bc X G q_LONGEST_NAME⟩,
  pY:=⟨_,Bc X G q_MOST_ROWS⟩,
  tZ:=⟨_,Bc X G q_MOST_TERMS⟩,
  pQ:=⟨_,Bc X G q_MOST_LONGER_ROWS⟩,
  tW:=Bc X G q_UNITS,sL:=λH=>.inr ⟨_,_,_,lt_UNITS,rfl,rfl,by show 3<=A5;rw[Bp];decide,.cons ⟨_,rfl⟩ (.cons ⟨_,rfl⟩ (.cons ⟨_,rfl⟩ (.nil)))⟩,
  tS:=Bc X G q_FORMS,lZ:=λH=>.inr ⟨_,_,_,lt_FORMS,rfl,rfl,by show 7<=A5;rw[Bp];decide,.cons rfl (.cons rfl (.cons rfl (.cons rfl (.cons rfl (.cons rfl (.cons rfl (.nil)))))))⟩,
  rR:=λH=>.inr ⟨_,_,_,lt_FORMS_0,rfl,rfl,by show 10<=A5;rw[Bp];decide,.cons ⟨_,rfl⟩ (.cons ⟨_,rfl⟩ (.cons ⟨_,rfl⟩ (.cons ⟨_,rfl⟩ (.cons ⟨_,rfl⟩ (.cons ⟨_,rfl⟩ (.cons ⟨_,rfl⟩ (.cons ⟨_,rfl⟩ (.cons ⟨_,rfl⟩ (.cons ⟨_,rfl⟩ (.nil))))))))))⟩,
  pN:=λH=>.inr ⟨_,_,_,lt_FORMS_1,rfl,rfl,by show 10<=A5;rw[Bp];decide,.cons ⟨_,rfl⟩ (.cons ⟨_,rfl⟩ (.cons ⟨_,rfl⟩ (.cons ⟨_,rfl⟩ (.cons ⟨_,rfl⟩ (.cons ⟨_,rfl⟩ (.cons ⟨_,rfl⟩ (.cons ⟨_,rfl⟩ (.cons ⟨_,rfl⟩ (.cons ⟨_,rfl⟩ (.nil))))))))))⟩,
  sX:=λH=>.inr ⟨_,_,_,lt_FORMS_2,rfl,rfl,by show 3<=A5;rw[Bp];decide,.cons ⟨_,rfl⟩ (.cons ⟨_,rfl⟩ (.cons ⟨_,rfl⟩ (.nil)))⟩,
  pW:=λH=>.inr ⟨_,_,_,lt_FORMS_3,rfl,rfl,by show 3<=A5;rw[Bp];decide,.cons ⟨_,rfl⟩ (.cons ⟨_,rfl⟩ (.cons ⟨_,rfl⟩ (.nil)))⟩,
  rU:=λH=>.inr ⟨_,_,_,lt_FORMS_4,rfl,rfl,by show 6<=A5;rw[Bp];decide,.cons ⟨_,rfl⟩ (.cons ⟨_,rfl⟩ (.cons ⟨_,rfl⟩ (.cons ⟨_,rfl⟩ (.cons ⟨_,rfl⟩ (.cons ⟨_,rfl⟩ (.nil))))))⟩,
  rO:=λH=>.inr ⟨_,_,_,lt_FORMS_5,rfl,rfl,by show 4<=A5;rw[Bp];decide,.cons ⟨_,rfl⟩ (.cons ⟨_,rfl⟩ (.cons ⟨_,rfl⟩ (.cons ⟨_,rfl⟩ (.nil))))⟩,
  xB:=λH=>.inr ⟨_,_,_,lt_FORMS_6,rfl,rfl,by show 3<=A5;rw[Bp];decide,.cons ⟨_,rfl⟩ (.cons ⟨_,rfl⟩ (.cons ⟨_,rfl⟩ (.nil)))⟩ }
 exact⟨_,λs v=>.of_eq rfl,λbase _ _=>okLaw T⟩
theorem walk {l:PySem.W.OpenLaw}{q:AU}{loose:List Str}{XP:(Str->Option Value)->Heap->Prop}{YP:World->Heap->Prop}{d:DefRec}{K:Params->Ag}(hn:l.most=some 63)(hdf:d.params.defaults=[])
  (hY:∀(w:World)(h:Heap),YP w h->(K w.params).In h)
  (F:∀(w:World)(mg:Str->Option Value)(fa:Addr)(h:Heap),(K w.params).In h->h.Ns AE mg->mg d.name=some (.ref fa) ->
   ∃fd:AH,(∀(s:Aj)(u:Value),BindsTo s fd ⟨[u],[]⟩ [("_law_script",u)])/\∀base:Heap,(K w.params).In base->base.Ns AE mg->FnOk l.prog w (K w.params) mg base CX0 11 fa fd ["_law_script"] (qr1 (K w.params))) :
  PySem.W.WalkO q loose XP YP l.row.toRowW d [] (λf vs=>PySem.call f vs) :=
 L2.walk_of (n:=63) (k:=11) (x := "_law_script") (CX:=λ_=>CX0) (sp:=λw=>qr1 (K w.params)) hn Ex hdf ⟨rfl,Ex,Ex⟩ hY F (λ_ _ a ns hl _ hS=>⟨a,ns,rfl,hS,hl,λ_=>rfl⟩) λ_ _ _ _ _ z=>z
end K48
namespace PySem.W.Fast
noncomputable def tw9808772081414331676:Unit:=()
noncomputable def tw14892362042735066382:Unit:=()
noncomputable def tw12624624553052369699:Unit:=()
noncomputable def tw7084270389210424418:Unit:=()
noncomputable def tw2033641869000895821:Unit:=()
noncomputable def tw4772581801900525811:Unit:=()
noncomputable def tw16315530653552724082:Unit:=()
noncomputable def tw7344102489990607218:Unit:=()
noncomputable def tw15742106888595312212:Unit:=()
noncomputable def tw8982560963526623075:Unit:=()
noncomputable def tw14433865683826905385:Unit:=()
noncomputable def tw3917447526096241232:Unit:=()
noncomputable def tw3811075407899832199:Unit:=()
noncomputable def tw880810900248688726:Unit:=()
noncomputable def tw12762491355684799821:Unit:=()
noncomputable def tw17649116650086923865:Unit:=()
noncomputable def tw12218353029424235070:Unit:=()
noncomputable def tw625527863726919390:Unit:=()
noncomputable def tw11929761487502089743:Unit:=()
noncomputable def tw9732017744290917663:Unit:=()
noncomputable def tw15362847290124697001:Unit:=()
noncomputable def tw15394559295842944676:Unit:=()
noncomputable def tw14340764598182618828:Unit:=()
noncomputable def tw15172237574973854390:Unit:=()
noncomputable def tw4441306783474868764:Unit:=()
noncomputable def tw4726671813509202928:Unit:=()
noncomputable def tw2535296871003917190:Unit:=()
noncomputable def tw7138814040782959598:Unit:=()
noncomputable def tw12429494727514760217:Unit:=()
noncomputable def tw5876251995792094741:Unit:=()
noncomputable def tw16747804403257627182:Unit:=()
noncomputable def tw12883837843496289533:Unit:=()
noncomputable def tw12881636717793097504:Unit:=()
noncomputable def tw6545655016797460957:Unit:=()
noncomputable def tw4849053014378069806:Unit:=()
noncomputable def tw17708253481377936891:Unit:=()
noncomputable def tw15624211321819115064:Unit:=()
noncomputable def tw12466667655804469324:Unit:=()
noncomputable def tw5156475140322256138:Unit:=()
noncomputable def tw18002338005752667007:Unit:=()
noncomputable def tw4670326406257447444:Unit:=()
noncomputable def tw10738470951259083124:Unit:=()
noncomputable def tw360862648418345591:Unit:=()
noncomputable def tw12183081630204949223:Unit:=()
noncomputable def tw6780041016694640812:Unit:=()
noncomputable def tw3299667000899350245:Unit:=()
noncomputable def tw13810937186757161789:Unit:=()
noncomputable def tw15089565724658297352:Unit:=()
noncomputable def tw4040306524858055487:Unit:=()
noncomputable def tw10641389914193986636:Unit:=()
noncomputable def tw10344571487250279480:Unit:=()
noncomputable def tw10169491567312948993:Unit:=()
noncomputable def tw16171858362474399235:Unit:=()
noncomputable def tw3065163600592966413:Unit:=()
noncomputable def tw3268575786831581857:Unit:=()
noncomputable def tw6882017170100951345:Unit:=()
noncomputable def tw14915213299400195067:Unit:=()
noncomputable def tw12846278845179549014:Unit:=()
noncomputable def tw15533854833312853330:Unit:=()
noncomputable def tw10680015939193095820:Unit:=()
noncomputable def tw15955053541140415146:Unit:=()
noncomputable def tw4010763510848611185:Unit:=()
noncomputable def tw17722660455970895900:Unit:=()
noncomputable def tw14878664899301735165:Unit:=()
noncomputable def tw5123243628870776307:Unit:=()
noncomputable def tw14796510022099333649:Unit:=()
noncomputable def tw15894710841918396512:Unit:=()
noncomputable def tw10835956690575918554:Unit:=()
noncomputable def tw6809240763901526555:Unit:=()
noncomputable def tw4831208569414083614:Unit:=()
noncomputable def tw14249291678809394678:Unit:=()
noncomputable def tw14656724306596590287:Unit:=()
noncomputable def tw5846718512496891317:Unit:=()
noncomputable def tw16185219850437615011:Unit:=()
noncomputable def tw9099947452200519618:Unit:=()
noncomputable def tw10082898157071813647:Unit:=()
noncomputable def tw15857145007911469484:Unit:=()
noncomputable def tw4043389174792200750:Unit:=()
noncomputable def tw23659621366153102:Unit:=()
noncomputable def tw15698100301004017317:Unit:=()
noncomputable def tw4297724077443733537:Unit:=()
noncomputable def tw5065827958613799374:Unit:=()
noncomputable def tw11028719960433260435:Unit:=()
noncomputable def tw10887121959696774652:Unit:=()
noncomputable def tw8814545115184983954:Unit:=()
noncomputable def tw16176383277128723733:Unit:=()
noncomputable def tw18432789988785262554:Unit:=()
noncomputable def tw6086289640983377110:Unit:=()
noncomputable def tw17526875510264924815:Unit:=()
noncomputable def tw7217989417390555166:Unit:=()
noncomputable def tw9261360373107038208:Unit:=()
noncomputable def tw4430313640556488419:Unit:=()
noncomputable def tw3892901894934281599:Unit:=()
noncomputable def tw330354103496525572:Unit:=()
noncomputable def tw13846539246904455205:Unit:=()
noncomputable def tw1120342963576959389:Unit:=()
noncomputable def tw10609660643902990172:Unit:=()
noncomputable def tw14477635670959368043:Unit:=()
noncomputable def tw15791016964417607778:Unit:=()
noncomputable def tw3091913405584560049:Unit:=()
noncomputable def tw13814416637019951867:Unit:=()
noncomputable def tw2704981296230095309:Unit:=()
noncomputable def tw296124464739307162:Unit:=()
noncomputable def tw10830621960707673712:Unit:=()
noncomputable def tw6934961373170554536:Unit:=()
noncomputable def tw3353727470662794171:Unit:=()
noncomputable def tw8988933147854701816:Unit:=()
noncomputable def tw18094578794056900117:Unit:=()
noncomputable def tw13886182699106607610:Unit:=()
noncomputable def tw127420768277093809:Unit:=()
noncomputable def tw13242047658710513070:Unit:=()
noncomputable def tw286732206863030437:Unit:=()
noncomputable def tw6053546798073872108:Unit:=()
noncomputable def tw6193979433014977955:Unit:=()
noncomputable def tw6016530363791317717:Unit:=()
noncomputable def tw840420280018033419:Unit:=()
noncomputable def tw11151677195125970721:Unit:=()
noncomputable def tw3946676860137023059:Unit:=()
noncomputable def tw12140296005881411306:Unit:=()
end PySem.W.Fast
open PySem PySem.W PyProof.Rows
set_option maxRecDepth 100000 in
set_option maxHeartbeats 0 in
theorem PySem.Challenge.cw_termcourt_k48_when_all_is_read_holds : PySem.Challenge.rw_termcourt_k48_when_all_is_read.Holds := by
 w_on; o_law; k_head; (case hw=>w_witness2)
 k_fill
 refine K48.walk (l:=PySem.Challenge.rw_termcourt_k48_when_all_is_read) rfl rfl (λw h Y=>PySem.W.kIn_of Y) ?F
 case F =>
  intro w mg fa h KX G hmg
  refine' K48.all_mk KX G hmg ?ca_Adrift ?ca_Book ?ca_CourtError ?ca_Full ?ca_NoAct ?ca_NoDay ?ca_NoName ?ca_NoRow ?ca_NoRule ?ca_NoTable ?ca_NoTerm ?ca_Parted ?ca_Ring ?ca_Rule ?ca_Twice ?ca_Unfit ?p0 ?p1 ?p2 ?p3 ?p4 ?p5 ?p6 ?p7 ?p8 ?p9 ?p10 ?p11 ?a12 ?t12 ?l12 ?c12 ?k12 ?pk12 ?pe_RuleInit_8 ?p13 ?p14 ?p15 ?p16 ?p17 ?p18 ?p19 ?p20 ?p21 ?p22 ?p23 ?p24 ?p25 ?p26 ?p27 ?p28 ?p29 ?p30 ?p31 ?p32 ?p33 ?p34 ?p35 ?p36 ?p37 ?p38 ?p39 ?p40 ?p41 ?p42 ?p43 ?p44 ?p45 ?a46 ?l46 ?c46 ?k46 ?z_ValueError ?z_all ?z_any ?z_bool ?z_enumerate ?z_int ?z_isinstance ?z_len ?z_list ?z_range ?z_reversed ?z_str ?z_zip ?q_LONGEST_NAME ?q_MOST_ROWS ?q_MOST_TERMS ?q_MOST_LONGER_ROWS ?q_UNITS ?lt_UNITS ?q_FORMS ?lt_FORMS ?lt_FORMS_0 ?lt_FORMS_1 ?lt_FORMS_2 ?lt_FORMS_3 ?lt_FORMS_4 ?lt_FORMS_5 ?lt_FORMS_6 ?cc_Book ?cm_Book ?cn_Book ?ct_dBookTermNames ?cb_CourtError ?cx_NoRule ?cn_NoRule ?ck_NoRule ?cx_NoTerm ?cn_NoTerm ?ck_NoTerm ?cx_Ring ?cn_Ring ?ck_Ring ?cc_Rule ?cm_Rule ?cn_Rule ?ct_dRuleAllKinds ?cx_Twice ?cn_Twice ?ck_Twice ?cx_Unfit ?cn_Unfit ?ck_Unfit ?cr_NoRule ?ch_NoRule_Adrift ?ch_NoRule_Full ?ch_NoRule_NoAct ?ch_NoRule_NoDay ?ch_NoRule_NoName ?ch_NoRule_NoRow ?ch_NoRule_NoRule ?ch_NoRule_NoTable ?ch_NoRule_NoTerm ?ch_NoRule_Parted ?ch_NoRule_Ring ?ch_NoRule_Twice ?ch_NoRule_Unfit ?cr_NoTerm ?ch_NoTerm_Adrift ?ch_NoTerm_Full ?ch_NoTerm_NoAct ?ch_NoTerm_NoDay ?ch_NoTerm_NoName ?ch_NoTerm_NoRow ?ch_NoTerm_NoRule ?ch_NoTerm_NoTable ?ch_NoTerm_NoTerm ?ch_NoTerm_Parted ?ch_NoTerm_Ring ?ch_NoTerm_Twice ?ch_NoTerm_Unfit ?cr_Ring ?ch_Ring_Adrift ?ch_Ring_Full ?ch_Ring_NoAct ?ch_Ring_NoDay ?ch_Ring_NoName ?ch_Ring_NoRow ?ch_Ring_NoRule ?ch_Ring_NoTable ?ch_Ring_NoTerm ?ch_Ring_Parted ?ch_Ring_Ring ?ch_Ring_Twice ?ch_Ring_Unfit ?cr_Twice ?ch_Twice_Adrift ?ch_Twice_Full ?ch_Twice_NoAct ?ch_Twice_NoDay ?ch_Twice_NoName ?ch_Twice_NoRow ?ch_Twice_NoRule ?ch_Twice_NoTable ?ch_Twice_NoTerm ?ch_Twice_Parted ?ch_Twice_Ring ?ch_Twice_Twice ?ch_Twice_Unfit ?cr_Unfit ?ch_Unfit_Adrift ?ch_Unfit_Full ?ch_Unfit_NoAct ?ch_Unfit_NoDay ?ch_Unfit_NoName ?ch_Unfit_NoRow ?ch_Unfit_NoRule ?ch_Unfit_NoTable ?ch_Unfit_NoTerm ?ch_Unfit_Parted ?ch_Unfit_Ring ?ch_Unfit_Twice ?ch_Unfit_Unfit
  (case ca_Adrift | ca_Book | ca_CourtError | ca_Full | ca_NoAct | ca_NoDay | ca_NoName | ca_NoRow | ca_NoRule | ca_NoTable | ca_NoTerm | ca_Parted | ca_Ring | ca_Rule | ca_Twice | ca_Unfit=>k_is)
  (case p0 | p1 | p2=>refine' K48.pd_of ?pa ?pl ?pc ?pk; (case pa | pl | pc | pk=>k_is))
  (case p3=>refine' K48.pm_of ?pa ?pt ?pl ?pc ?pk; (case pa | pt | pl | pc | pk=>k_is))
  (case p4 | p5 | p6 | p7=>refine' K48.pd_of ?pa ?pl ?pc ?pk; (case pa | pl | pc | pk=>k_is))
  (case p8=>refine' K48.pm_of ?pa ?pt ?pl ?pc ?pk; (case pa | pt | pl | pc | pk=>k_is))
  (case p9 | p10 | p11=>refine' K48.pd_of ?pa ?pl ?pc ?pk; (case pa | pl | pc | pk=>k_is))
  (case a12 | t12 | l12 | c12 | k12=>k_is)
  (case pk12 | pe_RuleInit_8=>intros; kernel_rfl)
  (case p13 | p14=>refine' K48.pm_of ?pa ?pt ?pl ?pc ?pk; (case pa | pt | pl | pc | pk=>k_is))
  (case p15=>refine' K48.pd_of ?pa ?pl ?pc ?pk; (case pa | pl | pc | pk=>k_is))
  (case p16 | p17=>refine' K48.pm_of ?pa ?pt ?pl ?pc ?pk; (case pa | pt | pl | pc | pk=>k_is))
  (case p18 | p19 | p20 | p21 | p22 | p23=>refine' K48.pd_of ?pa ?pl ?pc ?pk; (case pa | pl | pc | pk=>k_is))
  (case p24=>refine' K48.pm_of ?pa ?pt ?pl ?pc ?pk; (case pa | pt | pl | pc | pk=>k_is))
  (case p25 | p26 | p27 | p28 | p29 | p30 | p31 | p32 | p33 | p34 | p35 | p36 | p37 | p38 | p39 | p40 | p41 | p42 | p43 | p44=>refine' K48.pd_of ?pa ?pl ?pc ?pk; (case pa | pl | pc | pk=>k_is))
  (case p45=>refine' K48.pm_of ?pa ?pt ?pl ?pc ?pk; (case pa | pt | pl | pc | pk=>k_is))
  (case a46 | l46 | c46 | k46 | z_ValueError | z_all | z_any | z_bool | z_enumerate | z_int | z_isinstance | z_len | z_list | z_range | z_reversed | z_str | z_zip | q_LONGEST_NAME | q_MOST_ROWS | q_MOST_TERMS | q_MOST_LONGER_ROWS | q_UNITS | lt_UNITS | q_FORMS | lt_FORMS | lt_FORMS_0 | lt_FORMS_1 | lt_FORMS_2 | lt_FORMS_3 | lt_FORMS_4 | lt_FORMS_5 | lt_FORMS_6=>k_is)
  (case cc_Book | cm_Book | cn_Book | ct_dBookTermNames | cb_CourtError | cx_NoRule | cn_NoRule | ck_NoRule | cx_NoTerm | cn_NoTerm | ck_NoTerm | cx_Ring | cn_Ring | ck_Ring | cc_Rule | cm_Rule | cn_Rule | ct_dRuleAllKinds | cx_Twice | cn_Twice | ck_Twice | cx_Unfit | cn_Unfit | ck_Unfit | cr_NoRule | ch_NoRule_Adrift | ch_NoRule_Full | ch_NoRule_NoAct | ch_NoRule_NoDay | ch_NoRule_NoName | ch_NoRule_NoRow | ch_NoRule_NoRule | ch_NoRule_NoTable | ch_NoRule_NoTerm | ch_NoRule_Parted | ch_NoRule_Ring | ch_NoRule_Twice | ch_NoRule_Unfit | cr_NoTerm | ch_NoTerm_Adrift | ch_NoTerm_Full | ch_NoTerm_NoAct | ch_NoTerm_NoDay | ch_NoTerm_NoName | ch_NoTerm_NoRow | ch_NoTerm_NoRule | ch_NoTerm_NoTable | ch_NoTerm_NoTerm | ch_NoTerm_Parted | ch_NoTerm_Ring | ch_NoTerm_Twice | ch_NoTerm_Unfit | cr_Ring | ch_Ring_Adrift | ch_Ring_Full | ch_Ring_NoAct | ch_Ring_NoDay | ch_Ring_NoName | ch_Ring_NoRow | ch_Ring_NoRule | ch_Ring_NoTable | ch_Ring_NoTerm | ch_Ring_Parted | ch_Ring_Ring | ch_Ring_Twice | ch_Ring_Unfit | cr_Twice | ch_Twice_Adrift | ch_Twice_Full | ch_Twice_NoAct | ch_Twice_NoDay | ch_Twice_NoName | ch_Twice_NoRow | ch_Twice_NoRule | ch_Twice_NoTable | ch_Twice_NoTerm | ch_Twice_Parted | ch_Twice_Ring | ch_Twice_Twice | ch_Twice_Unfit | cr_Unfit | ch_Unfit_Adrift | ch_Unfit_Full | ch_Unfit_NoAct | ch_Unfit_NoDay | ch_Unfit_NoName | ch_Unfit_NoRow | ch_Unfit_NoRule | ch_Unfit_NoTable | ch_Unfit_NoTerm | ch_Unfit_Parted | ch_Unfit_Ring | ch_Unfit_Twice | ch_Unfit_Unfit=>kernel_rfl)
